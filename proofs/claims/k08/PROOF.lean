import PyProof.Rows.All
import Wide.All
import OpenK.AllK
import Wide.FinOn
import Lean
import PyProof.EqAt
import PyProof.EqKinds
import PyProof.TupleCall
import PySem.Str
import PySem.Builtin.Int.W1All
import PyProof.NeKinds
import PyProof.ZipIter
import PyProof.SumWalkG
import PyProof.MinMaxWalk
import PyProof.WalksMore
import PyProof.SeqI3
import PyProof.WalkInts
import PyProof.Rows.CallKwBuiltin
import PyProof.Rows.Tup
import PyProof.CollectIter
import PyProof.EnumMake
import PyProof.TupleOfSeq
import PyProof.ListNew
import PyProof.ReprLoop
import PyProof.StationsW
import PyProof.ExcClass3
import PyProof.Rows.CatchBare
import OpenK.KOwn
import KE.KIsAll
import PyProof.NsDelKeeps
import PyProof.RulesAs
import PyProof.ExcArgsOwn
import PyProof.ListRange
import KE.RegKIsAll
import KE.KRevIter
import PyProof.Rows.SortRuns
import KE.KSortTup
import PyProof.DictWalks
import KE.KDictList
import PyProof.ExcBaseAll.ValueError
import PySem.Challenge.RW_hourhaul_k08_soonest_walks
set_option Elab.async false
set_option linter.all false
set_option maxRecDepth 100000
set_option genSizeOf false
set_option compiler.extract_closed false
set_option bootstrap.genMatcherCode false
section
namespace L2
open PySem PySem.Spec PyProof.Rows
noncomputable abbrev Key:=Sum Int Str
noncomputable def Ke:Key->Value->Bool|.inl k,v=>Value.isInt k v|.inr x,v=>Value.isStrOf x v
noncomputable def Z1(w:World):Key->Int|.inl k=>hashInt k|.inr x=>hashStr w x
theorem bN:∀{k:Key}{v:Value},Ke k v=true->(∃i t,k=Sum.inl i/\v=Value.int i t)\/(∃x t,k=Sum.inr x/\v=Value.str x t)|.inl i,v,h=>by obtain⟨t,e⟩:=Value.isInt_shape (k:=i) (v:=v) h;exact .inl ⟨i,t,rfl,e⟩|.inr x,v,h=>by obtain⟨t,e⟩:=Value.isStrOf_shape (x:=x) (v:=v) h;exact .inr ⟨x,t,rfl,e⟩
theorem Mz(a b:Int):decide ((Sum.inl a:Key)=Sum.inl b)=(a==b):=by
 by_cases e:a=b;.subst e;simp
 .have h:¬(Sum.inl a:Key)=Sum.inl b:=fun q=>e (Sum.inl.inj q);rw[decide_eq_false h];exact(beq_eq_false_iff_ne.mpr e).symm
theorem M7(a b:Str):decide ((Sum.inr a:Key)=Sum.inr b)=decide (a=b):=by
 by_cases e:a=b;.subst e;simp
 .have h:¬(Sum.inr a:Key)=Sum.inr b:=fun q=>e (Sum.inr.inj q);rw[decide_eq_false h,decide_eq_false e]
theorem Ou(a:Int)(b:Str):decide ((Sum.inl a:Key)=Sum.inr b)=false:=decide_eq_false (fun q=>nomatch q)
theorem O1(a:Str)(b:Int):decide ((Sum.inr a:Key)=Sum.inl b)=false:=decide_eq_false (fun q=>nomatch q)
noncomputable def yc(prog:Program)(w:World):PySem.KeyKind prog w Key where
 is:=Ke;hash:=Z1 w;inj:=fun v a b ha hb=>by
  rcases bN ha with⟨i,t,rfl,rfl⟩|⟨x,t,rfl,rfl⟩
  . rcases bN hb with⟨j,u,rfl,e⟩|⟨y,u,rfl,e⟩;.injection e with e1 _;rw[e1]
    .exact nomatch e
  . rcases bN hb with⟨j,u,rfl,e⟩|⟨y,u,rfl,e⟩;.exact nomatch e
    .injection e with e1 _;rw[e1]
 byValue:=fun k v h=>by rcases bN h with⟨i,t,rfl,rfl⟩|⟨x,t,rfl,rfl⟩<;>rfl
 pyHash:=fun hv h=>by
  rcases bN hv with⟨i,t,rfl,rfl⟩|⟨x,t,rfl,rfl⟩;.exact wpAny_pyHash_int h
  .exact wpAny_pyHash_str h
 eqBool:=fun hu hv h=>by
  rcases bN hu with⟨i,t,rfl,rfl⟩|⟨x,t,rfl,rfl⟩
  . rcases bN hv with⟨j,u,rfl,rfl⟩|⟨y,u,rfl,rfl⟩;.rw[Mz]at h;exact wpAny_eqBool_int h
    .rw[Ou]at h;exact SeqAt.EqAt.int_str i t y u _ _ _ _ h
  . rcases bN hv with⟨j,u,rfl,rfl⟩|⟨y,u,rfl,rfl⟩;.rw[O1]at h;exact SeqAt.EqAt.str_int x t j u _ _ _ _ h
    .rw[M7]at h;exact wpAny_eqBool_str h
 «strs»:=fun k x t v h=>by
  rcases bN h with⟨i,u,rfl,e⟩|⟨y,u,rfl,e⟩;.exact nomatch e
  .injection e with e1 _;subst e1;cases v<;>rfl
end L2
namespace L2
open PySem PySem.Spec PyProof.Rows
inductive V where|non|bl(b:Bool)|int(i:Int)|str(x:Str)|byt(b:Array UInt8)|flt(b:UInt64)|ref(a:Addr)|ty(n:String)deriving DecidableEq
noncomputable def RelV:V->Value->Prop|.non,u=>u=Value.none|.bl b,u=>u=Value.bool b|.int i,u=>∃t,u=Value.int i t|.str x,u=>∃t,u=Value.str x t|.byt b,u=>∃t,u=Value.bytes b t|.flt b,u=>∃t,u=Value.float b t|.ref a,u=>u=Value.ref a|.ty n,u=>u=Value.type n
noncomputable abbrev Vals:List V->List Value->Prop:=Paired RelV
theorem Vals.length{xs:List V}{us:List Value}(r:Vals xs us):xs.length=us.length:=Paired.length r
theorem Vals.get:∀{xs:List V}{us:List Value}{i:Nat}{x:V},Vals xs us->xs[i]?=some x->∃u,us[i]?=some u/\RelV x u|_,_,_,_,.nil,e=>by simp at e|_,_,0,_,.cons r _,e=>by simp at e;subst e;exact⟨_,rfl,r⟩|_,_,i+1,x,.cons _ t,e=>by obtain⟨u,h1,h2⟩:=Vals.get (i:=i) (x:=x) t (by simpa using e);exact⟨u,by simpa using h1,h2⟩
theorem Vals.set{x:V}{u:Value}(r:RelV x u):∀{xs:List V}{us:List Value}(i:Nat),Vals xs us->Vals (xs.set i x) (us.set i u)|_,_,_,.nil=>.nil|_,_,0,.cons _ t=>.cons r t|_,_,i+1,.cons q t=>.cons q (Vals.set r i t)
theorem Vals.append:∀{xs ys:List V}{us ws:List Value},Vals xs us->Vals ys ws->Vals (xs++ys) (us++ws)|_,_,_,_,.nil,s=>s|_,_,_,_,.cons r t,s=>.cons r (Vals.append t s)
theorem Vals.take:∀{xs:List V}{us:List Value}(n:Nat),Vals xs us->Vals (xs.take n) (us.take n)|_,_,0,_=>.nil|_,_,_+1,.nil=>.nil|_,_,n+1,.cons r t=>.cons r (Vals.take n t)
theorem Vals.drop:∀{xs:List V}{us:List Value}(n:Nat),Vals xs us->Vals (xs.drop n) (us.drop n)|_,_,0,r=>r|_,_,_+1,.nil=>.nil|_,_,n+1,.cons _ t=>Vals.drop n t
noncomputable def U6:Option V->Option Value->Prop|some v,some u=>RelV v u|none,none=>True|_,_=>False
noncomputable def KV{κ:Type}:List (κ×V)->List (κ×Value)->Prop:=Paired fun(p:κ×V)(q:κ×Value)=>p.1=q.1/\RelV p.2 q.2
noncomputable def kV:Key->V|.inl i=>.int i|.inr x=>.str x
inductive HO where/--a list -/|lst(xs:List V)/--a tuple (never changes) -/|tup(xs:List V)/--a dict whose keys are ints and texts;one whose keys are tuples of ints and texts (the empty one is both) -/|dK(kvs:List (Key×V))|dT(kvs:List (List Key×V))/--a set of ints: its members,its size -/|set(S:Int->Bool)(n:Nat)/--an instance of the class at C,its dict at dx,its attributes -/|ins(C dx:Addr)(fs:List (Str×V))/--the dict of the instance at x -/|own(x:Addr)/--the dict of an exception -/|xd(fs:List (Str×V))/--a bound method,f of x -/|met(f x:Addr)/--a range object lo,lo+1,.. below hi -/|yU(lo hi:Int)/--a thing that is known to the object (the script;a dict while a loop walks it): read,never written while it is so -/|fH(o:Obj)(u:HO)/--a code object's table -/|Ks(ps:Array Value)/--any other thing,by what is true of its one object (a def of one's own: SetO a S n:=HO.ext fun h=>..) -/|ext(φ:Heap->Prop)
noncomputable abbrev Hp:=Addr->Option HO
noncomputable def upd(H:Hp)(a:Addr)(o:HO):Hp:=fun b=>if b=a then some o else H b
theorem aR{H:Hp}{a:Addr}{o:HO}:upd H a o a=some o:=by unfold upd;rw[if_pos rfl]
theorem aH{H:Hp}{a b:Addr}{o:HO}(h:b≠a):upd H a o b=H b:=by unfold upd;rw[if_neg h]
theorem fc{H:Hp}{a b:Addr}{o:HO}(h:H a=some o)(h':H b=none):a≠b:=by intro e;subst e;rw[h]at h';cases h'
section
variable(P:Program)(w:World)
noncomputable def bZ(H:Hp)(h:Heap)(a:Addr):HO->Prop|.lst xs=>xs.length<=sizeLine/\∃(its:List Value)(n:Nat),Vals xs its/\h.get? a=some {cls:=.type "list",data:=.seq its.toArray n}|.tup xs=>xs.length<=sizeLine/\∃its:List Value,Vals xs its/\IsTup h a its.toArray|.dK kvs=>kvs.length<=sizeLine/\(a==sysModules)=false/\∃vs,KV kvs vs/\h.DictOf (yc P w) a vs|.dT kvs=>kvs.length<=sizeLine/\(a==sysModules)=false/\∃xs:List (List Key×Addr×Value),Paired (fun(p:List Key×V)(q:List Key×Addr×Value)=>p.1=q.1/\H q.2.1=some (.tup (p.1.map kV))/\RelV p.2 q.2.2) kvs xs/\∃o es ep,h.get? a=some o/\o.ExactDict/\o.data=.dict es ep/\es.toList=xs.map (entryOfKey (tupleKind (yc P w)))/\(xs.map (·.1)).Nodup|.set S n=>h.SetOf (intKind P w) a S n|.ins C dx fs=>H dx=some (.own a)/\fs.length<=1000/\dx≠a/\h.get? a=some (PySem.W.instObj C dx)/\∃mA,h.Ns1 dx mA/\(∀f,U6 (fs.lookup f) (mA f))/\PySem.Within mA (fs.map (·.1))|.own _=>∃o,h.get? a=some o|.xd fs=>∃mA,h.Ns1 a mA/\∀f,U6 (fs.lookup f) (mA f)|.yU lo hi=>∃t u v,h.get? a=some {cls:=.type "range",data:=.fields #[.int lo t,.int hi u,.int 1 v]}|.fH o u=>h.get? a=some o/\bZ H h a u|.Ks ps=>h.get? a=some {cls:=.none,data:=.fields ps}|.met f x=>h.get? a=some (PySem.W.methodObj (.ref f) (.ref x))|.ext φ=>φ h/\(∃o,h.get? a=some o)/\∀h1 h2:Heap,φ h1->(∀o,h1.get? a=some o->h2.get? a=some o)->φ h2
noncomputable def jF(H:Hp)(h:Heap):Prop:=∀a o,H a=some o->bZ P w H h a o
end
section
variable{P:Program}{w:World}{H H':Hp}{h h':Heap}{a:Addr}{o:HO}
theorem bZ.lt(x:bZ P w H h a o):a<h.objs.size:=by cases o with|lst xs=>obtain⟨_,_,_,_,e⟩:=x;exact Heap.lt_size e|tup xs=>obtain⟨_,_,_,p⟩:=x;exact p.lt|dK kvs=>obtain⟨_,_,_,_,o,_,_,e,_⟩:=x;exact Heap.lt_size e|dT kvs=>obtain⟨_,_,_,_,o,_,_,e,_⟩:=x;exact Heap.lt_size e|set S n=>obtain⟨o,_,_,_,e,_⟩:=x;exact Heap.lt_size e|ins C dx fs=>obtain⟨_,_,_,e,_⟩:=x;exact Heap.lt_size e|own y=>obtain⟨_,e⟩:=x;exact Heap.lt_size e|xd fs=>obtain⟨_,⟨_,_,_,e,_⟩,_⟩:=x;exact Heap.lt_size e|yU lo hi=>obtain⟨_,_,_,e⟩:=x;exact Heap.lt_size e|fH ob u=>obtain⟨e,_⟩:=x;exact Heap.lt_size e|Ks ps=>exact Heap.lt_size (show h.get? a=some _ from x)|met f y=>exact Heap.lt_size (show h.get? a=some _ from x)|ext φ=>obtain⟨_,⟨_,e⟩,_⟩:=x;exact Heap.lt_size e
theorem Paired.Vn{α β:Type}{F G:α->β->Prop}:∀{l₁:List α}{l₂:List β},Paired F l₁ l₂->(∀a b,F a b->G a b)->Paired G l₁ l₂|_,_,.nil,_=>.nil|_,_,.cons r t,f=>.cons (f _ _ r) (Paired.Vn t f)
theorem bZ.stay(x:bZ P w H h a o)(k:∀b u,(b=a\/H b=some (.own a))->h.get? b=some u->h'.get? b=some u)(ho:∀b,H b=some (.own a)->H' b=some (.own a))(ht:∀b xs,H b=some (.tup xs)->H' b=some (.tup xs)):bZ P w H' h' a o:=by induction o with|lst xs=>obtain⟨z,its,n,r,e⟩:=x;exact⟨z,its,n,r,k _ _ (.inl rfl) e⟩|tup xs=>obtain⟨z,its,r,ob,e,c⟩:=x;exact⟨z,its,r,ob,k _ _ (.inl rfl) e,c⟩|dK kvs=>obtain⟨z,y,vs,r,ob,es,ep,e,c⟩:=x;exact⟨z,y,vs,r,ob,es,ep,k _ _ (.inl rfl) e,c⟩|dT kvs=>obtain⟨z,y,xs,r,ob,es,ep,e,c⟩:=x;exact⟨z,y,xs,Paired.Vn r fun p q z=>⟨z.1,ht _ _ z.2.1,z.2.2⟩,ob,es,ep,k _ _ (.inl rfl) e,c⟩|set S n=>obtain⟨ob,es,ep,t,e,c⟩:=x;exact⟨ob,es,ep,t,k _ _ (.inl rfl) e,c⟩|ins C dx fs=>obtain⟨d,z,ne,e,mA,⟨od,es,ep,e2,c⟩,r⟩:=x;exact⟨ho _ d,z,ne,k _ _ (.inl rfl) e,mA,⟨od,es,ep,k _ _ (.inr d) e2,c⟩,r⟩|own y=>obtain⟨ob,e⟩:=x;exact⟨ob,k _ _ (.inl rfl) e⟩|xd fs=>obtain⟨mA,⟨od,es,ep,e,c⟩,r⟩:=x;exact⟨mA,⟨od,es,ep,k _ _ (.inl rfl) e,c⟩,r⟩|yU lo hi=>obtain⟨t,u,v,e⟩:=x;exact⟨t,u,v,k _ _ (.inl rfl) e⟩|fH ob u ih=>obtain⟨e,q⟩:=x;exact⟨k _ _ (.inl rfl) e,ih q⟩|Ks ps=>have e:h.get? a=some {cls:=.none,data:=.fields ps}:=x;show h'.get? a=some {cls:=.none,data:=.fields ps};exact k a _ (.inl rfl) e|met f y=>have e:h.get? a=some (PySem.W.methodObj (.ref f) (.ref y)):=x;show h'.get? a=some (PySem.W.methodObj (.ref f) (.ref y));exact k a _ (.inl rfl) e|ext φ=>obtain⟨p,⟨o,e⟩,st⟩:=x;exact⟨st _ _ p fun o q=>k _ _ (.inl rfl) q,⟨o,k _ _ (.inl rfl) e⟩,st⟩
theorem jF.lt(x:jF P w H h)(e:H a=some o):a<h.objs.size:=(x a o e).lt
theorem jF.fresh(x:jF P w H h)(e:h.objs.size<=a):H a=none:=by cases q:H a with|none=>rfl|some u=>exact absurd (Nat.lt_of_lt_of_le (x.lt q) e) (Nat.lt_irrefl _)
theorem jF.kept(x:jF P w H h)(k:∀b u,h.get? b=some u->h'.get? b=some u):jF P w H h':=fun a o e=>(x a o e).stay (fun b u _ q=>k b u q) (fun _ q=>q) fun _ _ q=>q
theorem jF.laid(x:jF P w H h)(k:∀b u,h.get? b=some u->h'.get? b=some u)(hp:h.objs.size<=a)(new:bZ P w (upd H a o) h' a o):jF P w (upd H a o) h':=fun b u e=>by
 have hn:=x.fresh hp;by_cases hb:b=a;.subst hb;rw[aR]at e;cases e;exact new
 .rw[aH hb]at e;exact(x b u e).stay (fun c v _ q=>k c v q) (fun c q=>by rw[aH (fc q hn)];exact q) fun c xs q=>by rw[aH (fc q hn)];exact q
end
noncomputable def Rd(H:Hp)(a:Addr)(u:HO):Prop:=H a=some u\/∃o,H a=some (.fH o u)
theorem Rd.ok{P:Program}{w:World}{H:Hp}{h:Heap}{a:Addr}{u:HO}(r:Rd H a u)(x:jF P w H h):bZ P w H h a u:=by
 rcases r with r|⟨o,r⟩;.exact x a u r
 .obtain⟨_,q⟩:=x a _ r;exact q
noncomputable def Xm:Option HO->Prop|some (.lst _)=>True|some (.dK _)=>True|some (.dT _)=>True|some (.set _ _)=>True|some (.ins _ _ _)=>True|some (.ext _)=>True|_=>False
section
variable{P:Program}{w:World}{H:Hp}{h h':Heap}{x e:Addr}{o':HO}
theorem jF.write(ok:jF P w H h)(mu:Xm (H x))(he:e=x\/H e=some (.own x))(k:∀b u,b≠e->h.get? b=some u->h'.get? b=some u)(heo:∃u,h'.get? e=some u)(new:bZ P w (upd H x o') h' x o'):jF P w (upd H x o') h':=fun b u q=>by
 have VL:∀c y,H c=some (.own y)->c≠x:=fun c y r z=>by subst z;rw[r]at mu;exact mu
 have aaA:∀c xs,H c=some (.tup xs)->c≠x:=fun c xs r z=>by subst z;rw[r]at mu;exact mu
 by_cases hb:b=x;.subst hb;rw[aR]at q;cases q;exact new
 . rw[aH hb]at q;by_cases hbe:b=e
   . have q':H b=some (.own x):=by
      rcases he with z|z;.exact absurd (hbe.trans z) hb
      .rw[hbe];exact z
     rw[q]at q';cases q';obtain⟨v,hv⟩:=heo;exact⟨v,by rw[hbe];exact hv⟩
   . refine(ok b u q).stay (fun c v hc r=>k c v ?_ r) (fun c r=>by rw[aH (VL c b r)];exact r) fun c xs r=>by rw[aH (aaA c xs r)];exact r
     rcases hc with rfl|hc;.exact hbe
     . rintro rfl;rcases he with z|z;.exact VL c b hc z
       .rw[hc]at z;cases z;exact hb rfl
end
structure Un(fs ex:List Addr)(H H':Hp)(h h':Heap):Prop where
 keep:∀b o,h.get? b=some o->H b=none->b∉fs->b∉ex->h'.get? b=some o
 slot:∀b o,h.get? b=some o->H b=none->b∈fs->b∉ex->∃sl,h'.get? b=some {o with slots:=sl}free:∀b o,h.get? b=some o->H b=none->b∉ex->H' b=none
 there:∀b o,h.get? b=some o->b∉ex->∃o',h'.get? b=some o'
 tups:∀b xs,H b=some (.tup xs)->H' b=some (.tup xs)mW:∀b o u,H b=some (.fH o u)->H' b=some (.fH o u)pQ:∀b ps,H b=some (.Ks ps)->∃more,H' b=some (.Ks (ps++more))
section
variable{fs fs' ex ex':List Addr}{H H1 H2:Hp}{h h1 h2 h':Heap}{a x e:Addr}{o:HO}
theorem Un.any(u:Un fs ex H H1 h h1){b:Addr}{ob:Obj}(q:h.get? b=some ob)(n:H b=none)(hx:b∉ex):∃sl,h1.get? b=some {ob with slots:=sl}:=by
 by_cases hb:b∈fs;.exact u.slot b ob q n hb hx
 .exact⟨ob.slots,u.keep b ob q n hb hx⟩
theorem Un.kept(k:∀b u,h.get? b=some u->h'.get? b=some u):Un fs ex H H h h':=⟨fun b ob q _ _ _=>k b ob q,fun b ob q _ _ _=>⟨ob.slots,k b ob q⟩,fun _ _ _ n _=>n,fun b ob q _=>⟨ob,k b ob q⟩,fun _ _ q=>q,fun _ _ _ q=>q,fun _ ps q=>⟨#[],by rw[q];simp⟩⟩
theorem Un.refl:Un fs ex H H h h:=Un.kept fun _ _ q=>q
theorem Un.laid(k:∀b u,h.get? b=some u->h'.get? b=some u)(hp:h.objs.size<=a)(hn:H a=none):Un fs ex H (upd H a o) h h' where
 keep:=fun b u q _ _ _=>k b u q;slot:=fun b u q _ _ _=>⟨u.slots,k b u q⟩;free:=fun b u q n _=>by rw[aH (Nat.ne_of_lt (Nat.lt_of_lt_of_le (Heap.lt_size q) hp))];exact n
 there:=fun b u q _=>⟨u,k b u q⟩;tups:=fun b xs q=>by rw[aH (fc q hn)];exact q
 mW:=fun b u xs q=>by rw[aH (fc q hn)];exact q
 pQ:=fun b ps q=>⟨#[],by rw[aH (fc q hn),q];simp⟩
theorem Un.write(mu:Xm (H x))(he:e=x\/H e=some (.own x))(k:∀b u,b≠e->h.get? b=some u->h'.get? b=some u)(heo:∃u,h'.get? e=some u):Un fs ex H (upd H x o) h h':=by
 have hx:∀b,H b=none->b≠x:=fun b n z=>by subst z;rw[n]at mu;exact mu
 have hb:∀b,H b=none->b≠e:=fun b n z=>by
  subst z;rcases he with r|r;.exact hx b n r
  .rw[n]at r;cases r
 have hm:∀b u,H b=some u->¬ Xm (some u)->b≠x:=fun b u q nm z=>by subst z;rw[q]at mu;exact nm mu
 refine⟨fun b u q n _ _=>k b u (hb b n) q,fun b u q n _ _=>⟨u.slots,k b u (hb b n) q⟩,fun b u q n _=>by rw[aH (hx b n)];exact n,fun b u q _=>?_,fun b xs q=>by rw[aH (hm b _ q fun z=>z)];exact q,fun b u xs q=>by rw[aH (hm b _ q fun z=>z)];exact q,fun b ps q=>⟨#[],by rw[aH (hm b _ q fun z=>z),q];simp⟩⟩;by_cases hbe:b=e;.subst hbe;exact heo
 .exact⟨u,k b u hbe q⟩
end
noncomputable def Xw(h:Heap)(H:Hp):List Addr:=(List.range h.objs.size).filter fun a=>(H a).isSome
noncomputable def rY(h:Heap)(H:Hp):Heap:=PySem.W.hideAll h (Xw h H)
theorem Ai(h:Heap)(H:Hp):(rY h H).objs.size=h.objs.size:=PySem.W.hideAll_size _ _
theorem Ce{h:Heap}{H:Hp}{b:Addr}{o:Obj}(e:h.get? b=some o)(n:H b=none):(rY h H).get? b=some o:=PySem.W.hideAll_get _ e fun hm=>by have q:(H b).isSome=true:=(List.mem_filter.mp hm).2;rw[n]at q;simp at q
theorem GR{h:Heap}{H:Hp}{b:Addr}{o:Obj}(e:(rY h H).get? b=some o):h.get? b=some o/\H b=none:=by have e':h.get? b=some o:=PySem.W.of_hideAll (Xw h H) e;refine⟨e',?_⟩;cases q:H b with|none=>rfl|some x=>have hm:b∈Xw h H:=List.mem_filter.mpr ⟨List.mem_range.mpr (Heap.lt_size e'),by simp[q]⟩;have z:(rY h H).get? b=none:=PySem.W.hideAll_none (Xw h H) hm;rw[z]at e;cases e
end L2
namespace L2
open PySem PySem.Spec PyProof.Rows
structure Mod(K:PySem.W.Frag)(mg:Str->Option Value)(base:Heap):Prop where
 VM:K.In base
 glob:base.Ns mainGlobals mg
 blt:∃mb,base.Ns builtinsNs mb/\∀x:Str,x≠"__name__"->mb x=bootBuiltins x
 nolimit:base.NoLimit
structure Cx where
 prog:Program
 w:World
 K:PySem.W.Frag
 mg:Str->Option Value
 base:Heap
 A:Around
 N:List Str
 s₀:Shared
 H₀:Hp
 env:Env
 outer:List Env
 stack:List Env
 ex:List Addr
 fn:Str->Bool
 calm:Bool
 pn:List (Addr×Obj)xe:Value->Shared->Prop
noncomputable def frs(l:List Env):List Addr:=l.filterMap (·.frame)
noncomputable abbrev Cx.fs(X:Cx):List Addr:=frs X.outer
noncomputable def Fq(sc:Scope)(x:Str):Prop:=sc.names.lookup x=some .local\/sc.names.lookup x=some .cell\/sc.names.lookup x=some .free
noncomputable def Loc(sc:Scope)(x:Str):Prop:=sc.names.lookup x=some .local\/sc.names.lookup x=some .cell
noncomputable def Look(env:Env)(h:Heap)(m:Str->Option Value)(x:Str)(u:Value):Prop:=(env.kindOf x=some .local/\m x=some u)\/((env.kindOf x=some .cell\/env.kindOf x=some .free)/\∃c,env.cells.lookup x=some c/\h.IsCell c (some u))
structure Cx.Ok(X:Cx):Prop where
 mod:Mod X.K X.mg X.base
 kind:X.env.scope.kind=.function
 glob:X.env.globals=mainGlobals
 blt:X.env.builtins=builtinsNs
 above:X.s₀.heap.objs.size<=X.env.locals
 inj:∀x y c,X.env.cells.lookup x=some c->X.env.cells.lookup y=some c->x=y
 has:∀x,(X.env.kindOf x=some .cell\/X.env.kindOf x=some .free)->∃c,X.env.cells.lookup x=some c
 cab:∀x c,X.fn x=true->X.env.cells.lookup x=some c->X.s₀.heap.objs.size<=c
 hd:X.calm=true->X.A.handled=none
 frames:X.A.frames=some X.stack
 Ku:X.stack=X.outer\/(X.stack=X.env::X.outer/\X.env.frame=some X.env.locals)RZ:∀b∈X.ex,b≠X.env.locals/\∀x c,X.env.cells.lookup x=some c->c≠b
 bs:∀b o,X.base.get? b=some o->X.s₀.heap.get? b=some o/\X.H₀ b=none
 Ax:X.base.objs.size<=X.s₀.heap.objs.size
 tQ:∀b o,X.base.get? b=some o->b∉X.ex
 vJ:∀b∈X.ex,b∉X.fs
 jK:X.s₀.heap.FunFrames X.base X.outer
 FQ:∀b∈X.fs,X.H₀ b=none
structure Inv(X:Cx)(pins:List (Addr×Obj))(σ:List (Option V))(H:Hp)(s:Shared):Prop where
 ok:X.Ok
 os:s.os=X.s₀.os
 bare:AllBare s.gens
 base:Un X.fs X.ex X.H₀ H X.s₀.heap s.heap
 loc:∃m,s.heap.Ns X.env.locals m/\∀(i:Nat)(x:Str)(v:V),X.N[i]?=some x->σ[i]?=some (some v)->Fq X.env.scope x->∃u,RelV v u/\Look X.env s.heap m x u
 cell:∀x c,X.env.cells.lookup x=some c->∃v,s.heap.IsCell c v
 free:H X.env.locals=none
 dO:∀x c,X.env.cells.lookup x=some c->H c=none
 pin:∀p∈X.pn++pins,s.heap.get? p.1=some p.2/\H p.1=none/\p.1≠X.env.locals/\p.1∉X.fs/\∀v,p.2.data≠.cell v
 hok:jF X.prog X.w H s.heap
 len:σ.length=X.N.length
section
variable{X:Cx}{pins:List (Addr×Obj)}{σ:List (Option V)}{H H':Hp}{s:Shared}{h':Heap}
theorem Cx.Ok.HF(ok:X.Ok){b:Addr}{o:Obj}(e:X.base.get? b=some o):b∉X.fs:=fun hb=>by have:=(ok.jK.mem hb).1;rw[e]at this;cases this
theorem Inv.bs(I:Inv X pins σ H s):∀b o,X.base.get? b=some o->s.heap.get? b=some o/\H b=none:=fun b o e=>⟨I.base.keep b o (I.ok.bs b o e).1 (I.ok.bs b o e).2 (I.ok.HF e) (I.ok.tQ b o e),I.base.free b o (I.ok.bs b o e).1 (I.ok.bs b o e).2 (I.ok.tQ b o e)⟩
theorem Inv.bk(I:Inv X pins σ H s):∀b o,X.base.get? b=some o->s.heap.get? b=some o:=fun b o e=>(I.bs b o e).1
theorem Inv.mod(I:Inv X pins σ H s):Mod X.K X.mg X.base:=I.ok.mod
theorem Inv.Fv(I:Inv X pins σ H s):X.K.In s.heap:=I.ok.mod.VM.keeps I.bk
theorem Inv.lt(I:Inv X pins σ H s):X.env.locals<s.heap.objs.size:=let⟨_,hn,_⟩:=I.loc;hn.lt
theorem Inv.sz(I:Inv X pins σ H s):X.s₀.heap.objs.size<=s.heap.objs.size:=Nat.le_trans I.ok.above (Nat.le_of_lt I.lt)
theorem Inv.Zr(I:Inv X pins σ H s){a:Addr}(h:s.heap.objs.size<=a):a∉X.fs:=fun hb=>by obtain⟨_,o,ho,_⟩:=I.ok.jK.mem hb;exact absurd (Nat.lt_of_lt_of_le (Heap.lt_size ho) (Nat.le_trans I.sz h)) (Nat.lt_irrefl _)
theorem Inv.Cr(I:Inv X pins σ H s):∀x c,X.env.cells.lookup x=some c->c≠X.env.locals:=fun x c e z=>by obtain⟨v,o,ho,hd⟩:=I.cell x c e;obtain⟨m,⟨o',es,ep,ho',hd',_⟩,_⟩:=I.loc;rw[z,ho']at ho;cases ho;rw[hd']at hd;cases hd
theorem Inv.jK(I:Inv X pins σ H s):s.heap.FunFrames X.base X.outer:=by
 have all:∀(l:List Env),(∀b∈frs l,b∈X.fs)->X.s₀.heap.FunFrames X.base l->s.heap.FunFrames X.base l:=by intro l;induction l with|nil=>intro _ _;trivial|cons env r ih=>intro hs hl;obtain⟨hk,⟨L,o,hf,hn,ho,hd⟩,hr⟩:=hl;have hL:L∈X.fs:=hs L (by unfold frs;rw[List.filterMap_cons,hf];exact List.mem_cons_self);obtain⟨sl,e⟩:=I.base.slot L o ho (I.ok.FQ L hL) hL fun z=>I.ok.vJ L z hL;exact⟨hk,⟨L,_,hf,hn,e,hd⟩,ih (fun b hb=>hs b (by unfold frs;rw[List.filterMap_cons,hf];exact List.mem_cons_of_mem _ hb)) hr⟩
 exact all X.outer (fun _ hb=>hb) I.ok.jK
theorem Inv.stack(I:Inv X pins σ H s):s.heap.FunFrames X.base X.stack:=by
 rcases I.ok.Ku with e|⟨e,hf⟩;.rw[e];exact I.jK
 .rw[e];obtain⟨m,hn,_⟩:=I.loc;refine .cons (by rw[I.ok.kind];decide) hf hn ?_ I.jK;exact Heap.get?_none_of_le (Nat.le_trans I.ok.Ax I.ok.above)
theorem Inv.pq(I:Inv X pins σ H s):∀b∈frs X.stack,b∈X.env.locals::X.fs:=fun b hb=>by
 rcases I.ok.Ku with e|⟨e,hf⟩;.rw[e]at hb;exact List.mem_cons_of_mem _ hb
 .rw[e]at hb;unfold frs at hb;rw[List.filterMap_cons,hf]at hb;exact hb
theorem Inv.nM(I:Inv X pins σ H s):∀b∈frs X.stack,H b=none:=fun b hb=>by
 rcases List.mem_cons.mp (I.pq b hb)with e|hb;.rw[e];exact I.free
 .obtain⟨_,o,ho,_⟩:=I.ok.jK.mem hb;exact I.base.free b o ho (I.ok.FQ b hb) fun z=>I.ok.vJ b z hb
theorem Inv.step{g':Array GenState}{t':Nat}{d':Drawn}{ch:List Addr}(I:Inv X pins σ H s)(hch:∀b∈ch,(b∈X.ex\/X.s₀.heap.objs.size<=b)/\b≠X.env.locals/\(∀x c,X.env.cells.lookup x=some c->c≠b)/\∀p∈X.pn++pins,p.1≠b)(keep:∀b o,b≠X.env.locals->b∉X.fs->b∉ch->s.heap.get? b=some o->H b=none->h'.get? b=some o)(slot:∀b o,b≠X.env.locals->b∈X.fs->b∉ch->s.heap.get? b=some o->H b=none->∃sl,h'.get? b=some {o with slots:=sl})(free:∀b o,b∉ch->s.heap.get? b=some o->H b=none->H' b=none)(there:∀b o,b∉ch->s.heap.get? b=some o->∃o',h'.get? b=some o')(tups:∀b xs,H b=some (.tup xs)->H' b=some (.tup xs))(mW:∀b o u,H b=some (.fH o u)->H' b=some (.fH o u))(pQ:∀b ps,H b=some (.Ks ps)->∃more,H' b=some (.Ks (ps++more)))(ns:∀m,s.heap.Ns X.env.locals m->h'.Ns X.env.locals m)(hok:jF X.prog X.w H' h')(hg:AllBare g'):Inv X pins σ H' {s with heap:=h',gens:=g',drawn:=d',toks:=t'}:=by
 have neL:∀b o,X.s₀.heap.get? b=some o->b≠X.env.locals:=fun b o e=>Nat.ne_of_lt (Nat.lt_of_lt_of_le (Heap.lt_size e) I.ok.above);have Xy:∀b o,X.s₀.heap.get? b=some o->b∉X.ex->b∉ch:=fun b o e hx hb=>by
  rcases(hch b hb).1 with z|z;.exact hx z
  .exact absurd (Nat.lt_of_lt_of_le (Heap.lt_size e) z) (Nat.lt_irrefl _)
 have cellK:∀x c,X.env.cells.lookup x=some c->∀v,s.heap.IsCell c v->h'.IsCell c v:=fun x c e v⟨o,ho,hd⟩=>by
  have vR:c∉ch:=fun z=>(hch c z).2.2.1 x c e rfl;by_cases hc:c∈X.fs;.obtain⟨sl,q⟩:=slot c o (I.Cr x c e) hc vR ho (I.dO x c e);exact⟨_,q,hd⟩
  .exact⟨o,keep c o (I.Cr x c e) hc vR ho (I.dO x c e),hd⟩
 refine⟨I.ok,I.os,hg,⟨fun b o e n hb hx=>?_,fun b o e n hb hx=>?_,fun b o e n hx=>?_,fun b o e hx=>?_,fun b xs e=>tups b xs (I.base.tups b xs e),fun b o xs e=>mW b o xs (I.base.mW b o xs e),fun b ps e=>?_⟩,?_,fun x c e=>?_,?_,fun x c e=>?_,fun p hp=>?_,hok,I.len⟩;.exact keep b o (neL b o e) hb (Xy b o e hx) (I.base.keep b o e n hb hx) (I.base.free b o e n hx)
 .obtain⟨sl,e1⟩:=I.base.slot b o e n hb hx;obtain⟨sl',e2⟩:=slot b _ (neL b o e) hb (Xy b o e hx) e1 (I.base.free b o e n hx);exact⟨sl',e2⟩
 .obtain⟨o',e1⟩:=I.base.there b o e hx;exact free b o' (Xy b o e hx) e1 (I.base.free b o e n hx)
 .obtain⟨o',e1⟩:=I.base.there b o e hx;exact there b o' (Xy b o e hx) e1
 .obtain⟨m1,e1⟩:=I.base.pQ b ps e;obtain⟨m2,e2⟩:=pQ b _ e1;exact⟨m1++m2,by rw[e2,Array.append_assoc]⟩
 . obtain⟨m,hn,hl⟩:=I.loc;refine⟨m,ns m hn,fun i x v e1 e2 e3=>?_⟩;obtain⟨u,r,l⟩:=hl i x v e1 e2 e3;refine⟨u,r,?_⟩;rcases l with l|⟨k,c,e,z⟩;.exact .inl l
   .exact .inr ⟨k,c,e,cellK x c e _ z⟩
 .obtain⟨v,z⟩:=I.cell x c e;exact⟨v,cellK x c e v z⟩
 .obtain⟨m,⟨o,_,_,ho,_⟩,_⟩:=I.loc;exact free _ o (fun z=>(hch _ z).2.1 rfl) ho I.free
 .obtain⟨v,o,ho,hd⟩:=I.cell x c e;exact free c o (fun z=>(hch c z).2.2.1 x c e rfl) ho (I.dO x c e)
 .obtain⟨e,n,ne,nf,d⟩:=I.pin p hp;have vR:p.1∉ch:=fun z=>(hch p.1 z).2.2.2 p hp rfl;exact⟨keep p.1 p.2 ne nf vR e n,free p.1 p.2 vR e n,ne,nf,d⟩
theorem Inv.un{t':Nat}(I:Inv X pins σ H s)(u:Un X.fs [] H H' s.heap h')(hok:jF X.prog X.w H' h'):Inv X pins σ H' {s with heap:=h',toks:=t'}:=by obtain⟨m,⟨o,es,ep,ho,r⟩,_⟩:=id I.loc;obtain⟨sl,hL⟩:=u.any ho I.free (by simp);exact I.step (g':=s.gens) (d':=s.drawn) (ch:=[]) (fun _ z=>nomatch z) (fun b o _ hb _ e n=>u.keep b o e n hb (by simp)) (fun b o _ hb _ e n=>u.slot b o e n hb (by simp)) (fun b o _ e n=>u.free b o e n (by simp)) (fun b o _ e=>u.there b o e (by simp)) u.tups u.mW u.pQ (fun m' hm=>by obtain⟨o',es',ep',ho',r'⟩:=hm;rw[ho]at ho';cases ho';exact⟨_,es',ep',hL,r'⟩) hok I.bare
theorem Inv.call{g':Array GenState}{t':Nat}{d':Drawn}{ch:List Addr}(I:Inv X pins σ H s)(u:Un (frs X.stack) ch H H' s.heap h')(hok:jF X.prog X.w H' h')(hg:AllBare g')(hch:∀b∈ch,(b∈X.ex\/X.s₀.heap.objs.size<=b)/\b≠X.env.locals/\(∀x c,X.env.cells.lookup x=some c->c≠b)/\∀p∈X.pn++pins,p.1≠b):Inv X pins σ H' {s with heap:=h',gens:=g',drawn:=d',toks:=t'}:=by obtain⟨m,⟨o,es,ep,ho,r⟩,_⟩:=id I.loc;obtain⟨sl,hL⟩:=u.any ho I.free fun z=>(hch _ z).2.1 rfl;exact I.step (ch:=ch) hch (fun b o hL hb hc e n=>u.keep b o e n (fun z=>(List.mem_cons.mp (I.pq b z)).elim hL hb) hc) (fun b o _ _ hc e n=>u.any e n hc) (fun b o hc e n=>u.free b o e n hc) (fun b o hc e=>u.there b o e hc) u.tups u.mW u.pQ (fun m' hm=>by obtain⟨o',es',ep',ho',r'⟩:=hm;rw[ho]at ho';cases ho';exact⟨_,es',ep',hL,r'⟩) hok hg
theorem Inv.turned{t':Nat}{it:Addr}(I:Inv X pins σ H s)(k:∀b o,b≠it->s.heap.get? b=some o->h'.get? b=some o)(hn:H it=none)(hL:it≠X.env.locals)(h1:it∈X.ex\/X.s₀.heap.objs.size<=it)(h2:∀x c,X.env.cells.lookup x=some c->c≠it)(h3:∀p∈X.pn++pins,p.1≠it):Inv X pins σ H {s with heap:=h',toks:=t'}:=by
 have nit:∀b u,H b=some u->b≠it:=fun b u e z=>by rw[z,hn]at e;cases e
 refine I.step (g':=s.gens) (d':=s.drawn) (ch:=[it]) (fun b hb=>?_) (fun b o _ _ hc e _=>k b o (fun z=>hc (by simp[z])) e) (fun b o _ _ hc e _=>⟨o.slots,k b o (fun z=>hc (by simp[z])) e⟩) (fun _ _ _ _ n=>n) (fun b o hc e=>⟨o,k b o (fun z=>hc (by simp[z])) e⟩) (fun _ _ e=>e) (fun _ _ _ e=>e) (fun b ps e=>⟨#[],by rw[e];simp⟩) (fun m hm=>?_) (fun b u e=>?_) I.bare
 . have e:b=it:=by simpa using hb
   subst e;exact⟨h1,hL,h2,h3⟩
 .obtain⟨o,es,ep,ho,r⟩:=hm;exact⟨o,es,ep,k _ o (Ne.symm hL) ho,r⟩
 . refine(I.hok b u e).stay (fun c v hc q=>k c v ?_ q) (fun _ q=>q) fun _ _ q=>q;rcases hc with z|z;.rw[z];exact nit b u e
   .exact nit c _ z
theorem Inv.tok(I:Inv X pins σ H s)(t:Nat):Inv X pins σ H {s with toks:=t}:=I.un (h':=s.heap) (t':=t) Un.refl I.hok
theorem Inv.kept{t':Nat}(I:Inv X pins σ H s)(k:∀b u,s.heap.get? b=some u->h'.get? b=some u):Inv X pins σ H {s with heap:=h',toks:=t'}:=I.un (Un.kept k) (I.hok.kept k)
theorem Inv.laid{a:Addr}{o:HO}{t':Nat}(I:Inv X pins σ H s)(k:∀b u,s.heap.get? b=some u->h'.get? b=some u)(hp:s.heap.objs.size<=a)(new:bZ X.prog X.w (upd H a o) h' a o):Inv X pins σ (upd H a o) {s with heap:=h',toks:=t'}:=I.un (Un.laid k hp (I.hok.fresh hp)) (I.hok.laid k hp new)
theorem Inv.write{x e:Addr}{o:HO}{t':Nat}(I:Inv X pins σ H s)(mu:Xm (H x))(he:e=x\/H e=some (.own x))(k:∀b u,b≠e->s.heap.get? b=some u->h'.get? b=some u)(heo:∃u,h'.get? e=some u)(new:bZ X.prog X.w (upd H x o) h' x o):Inv X pins σ (upd H x o) {s with heap:=h',toks:=t'}:=I.un (Un.write mu he k heo) (I.hok.write mu he k heo new)
theorem Inv.yM{vK:List (Addr×Obj)}(I:Inv X pins σ H s)(h:∀p∈vK,s.heap.get? p.1=some p.2/\H p.1=none/\p.1≠X.env.locals/\p.1∉X.fs/\∀v,p.2.data≠.cell v):Inv X vK σ H s:=⟨I.ok,I.os,I.bare,I.base,I.loc,I.cell,I.free,I.dO,fun p hp=>(List.mem_append.mp hp).elim (fun z=>I.pin p (List.mem_append_left _ z)) (h p),I.hok,I.len⟩
theorem oH{N:List Str}(hN:N.Nodup){i j:Nat}{x:Str}(a:N[i]?=some x)(b:N[j]?=some x):i=j:=by obtain⟨h1,e1⟩:=List.getElem?_eq_some_iff.mp a;obtain⟨h2,e2⟩:=List.getElem?_eq_some_iff.mp b;exact(List.getElem_inj hN).mp (e1.trans e2.symm)
theorem qK{M:Model}{A:Around}{E:Value->Shared->Prop}{i:Nat}{x:Str}{v:V}{u:Value}{Q:Unit->Shared->Prop}(I:Inv X pins σ H s)(hN:X.N.Nodup)(hi:X.N[i]?=some x)(hx:Loc X.env.scope x)(r:RelV v u)(h:∀s',Inv X pins (σ.set i (some v)) H s'->(∃a,Heap.SameBut a s.heap s'.heap/\(a=X.env.locals\/X.env.cells.lookup x=some a))->Q () s')(hf:X.fn x=true\/X.env.scope.names.lookup x=some .local:=by first|exact .inl rfl|exact .inr rfl|assumption):wpAny M A (storeName X.env x u) Q E s:=by
 obtain⟨m,hn,hl⟩:=id I.loc;have hcls:(X.env.scope.kind==.class||(X.env.scope.kind==.module&&X.env.locals !=X.env.globals))=false:=by rw[I.ok.kind];rfl
 have hiσ:i<σ.length:=by rw[I.len];exact(List.getElem?_eq_some_iff.mp hi).1
 have Cr:=I.Cr;have tracked:∀{a:Addr}{h':Heap},(∃o,s.heap.get? a=some o/\H a=none)->Heap.SameBut a s.heap h'->jF X.prog X.w H h':=fun{a h'}ha hs b ob e=>by
  obtain⟨_,_,hfree⟩:=ha;refine(I.hok b ob e).stay (fun c w' hc q=>(hs.2 c ?_).trans q) (fun _ q=>q) fun _ _ q=>q;rintro rfl;rcases hc with rfl|hc;.rw[hfree]at e;cases e
  .rw[hfree]at hc;cases hc
 rcases hx with hk|hk
 . refine wpAny_storeName_local hk hn (fun h' hn' hs=>?_) hcls;obtain⟨oL,_,_,hoL,_⟩:=id hn;refine h _ ⟨I.ok,I.os,I.bare,⟨fun b o e n hb hx=>?_,fun b o e n hb hx=>?_,I.base.free,fun b o e hx=>?_,I.base.tups,I.base.mW,I.base.pQ⟩,⟨_,hn',fun j y v' e1 e2 e3=>?_⟩,fun y c e=>?_,I.free,I.dO,fun p hp=>?_,tracked ⟨oL,hoL,I.free⟩ hs,by simpa using I.len⟩ ⟨_,hs,.inl rfl⟩;.exact(hs.2 b (Nat.ne_of_lt (Nat.lt_of_lt_of_le (Heap.lt_size e) I.ok.above))).trans (I.base.keep b o e n hb hx)
   .obtain⟨sl,e1⟩:=I.base.slot b o e n hb hx;exact⟨sl,(hs.2 b (Nat.ne_of_lt (Nat.lt_of_lt_of_le (Heap.lt_size e) I.ok.above))).trans e1⟩
   .obtain⟨o',e1⟩:=I.base.there b o e hx;exact⟨o',(hs.2 b (Nat.ne_of_lt (Nat.lt_of_lt_of_le (Heap.lt_size e) I.ok.above))).trans e1⟩
   . by_cases hj:j=i;.subst hj;rw[hi]at e1;cases e1;rw[List.getElem?_set_self hiσ]at e2;cases e2;exact⟨u,r,.inl ⟨hk,by simp⟩⟩
     . rw[List.getElem?_set_ne (Ne.symm hj)]at e2;obtain⟨u',r',q⟩:=hl j y v' e1 e2 e3;refine⟨u',r',?_⟩;rcases q with⟨k,e⟩|⟨k,c,e,z⟩;.refine .inl ⟨k,?_⟩;have:y≠x:=fun e=>hj (oH hN e1 (e▸hi));simp[this,e]
       .exact .inr ⟨k,c,e,z.sameBut hs (Cr y c e)⟩
   .obtain⟨w',z⟩:=I.cell y c e;exact⟨w',z.sameBut hs (Cr y c e)⟩
   .obtain⟨e,n,ne,nf,d⟩:=I.pin p hp;exact⟨(hs.2 p.1 ne).trans e,n,ne,nf,d⟩
 . have hfn:X.fn x=true:=by
    rcases hf with z|z;.exact z
    .rw[z]at hk;cases hk
   obtain⟨c,hc⟩:=I.ok.has x (.inl hk);obtain⟨w',z⟩:=I.cell x c hc;refine wpAny_storeName_cell I.ok.kind hk hc z (fun h' hc' hs=>?_);obtain⟨oc,hoc,aaB⟩:=id z;refine h {s with heap:=h'} ⟨I.ok,I.os,I.bare,⟨fun b o e n hb hx=>?_,fun b o e n hb hx=>?_,I.base.free,fun b o e hx=>?_,I.base.tups,I.base.mW,I.base.pQ⟩,⟨m,hn.sameBut hs (Ne.symm (Cr x c hc)),fun j y v' e1 e2 e3=>?_⟩,fun y c' e=>?_,I.free,I.dO,fun p hp=>?_,tracked ⟨oc,hoc,I.dO x c hc⟩ hs,by simpa using I.len⟩ ⟨c,hs,.inr hc⟩;.exact(hs.2 b (Nat.ne_of_lt (Nat.lt_of_lt_of_le (Heap.lt_size e) (I.ok.cab x c hfn hc)))).trans (I.base.keep b o e n hb hx)
   .obtain⟨sl,e1⟩:=I.base.slot b o e n hb hx;exact⟨sl,(hs.2 b (Nat.ne_of_lt (Nat.lt_of_lt_of_le (Heap.lt_size e) (I.ok.cab x c hfn hc)))).trans e1⟩
   .obtain⟨o',e1⟩:=I.base.there b o e hx;exact⟨o',(hs.2 b (Nat.ne_of_lt (Nat.lt_of_lt_of_le (Heap.lt_size e) (I.ok.cab x c hfn hc)))).trans e1⟩
   . by_cases hj:j=i;.subst hj;rw[hi]at e1;cases e1;rw[List.getElem?_set_self hiσ]at e2;cases e2;exact⟨u,r,.inr ⟨.inl hk,c,hc,hc'⟩⟩
     . rw[List.getElem?_set_ne (Ne.symm hj)]at e2;obtain⟨u',r',q⟩:=hl j y v' e1 e2 e3;refine⟨u',r',?_⟩;rcases q with q|⟨k,c',e,z'⟩;.exact .inl q
       .refine .inr ⟨k,c',e,z'.sameBut hs ?_⟩;rintro rfl;exact hj (oH hN e1 (I.ok.inj _ _ _ e hc▸hi))
   . by_cases hcc:c'=c;.subst hcc;exact⟨_,hc'⟩
     .obtain⟨w2,z2⟩:=I.cell y c' e;exact⟨w2,z2.sameBut hs hcc⟩
   .obtain⟨e,n,ne,nf,d⟩:=I.pin p hp;refine⟨(hs.2 p.1 ?_).trans e,n,ne,nf,d⟩;intro q;rw[q,hoc]at e;have q':oc=p.2:=Option.some.inj e;exact d w' (by rw[<-q'];exact aaB)
theorem iB{M:Model}{A:Around}{E:Value->Shared->Prop}{i:Nat}{x:Str}{v:V}{u:Value}{Q:Unit->Shared->Prop}(I:Inv X pins σ H s)(hN:X.N.Nodup)(hi:X.N[i]?=some x)(hx:Loc X.env.scope x)(r:RelV v u)(h:∀s',Inv X pins (σ.set i (some v)) H s'->Q () s')(hf:X.fn x=true\/X.env.scope.names.lookup x=some .local:=by first|exact .inl rfl|exact .inr rfl|assumption):wpAny M A (storeName X.env x u) Q E s:=qK I hN hi hx r (fun s' I' _=>h s' I') hf
end
noncomputable abbrev XK:=Value->Option Addr->Hp->Prop
noncomputable abbrev St:=List (Option V)
noncomputable abbrev VK:=V->Hp->Prop
noncomputable abbrev TE:=St->Hp->VK->Prop
noncomputable abbrev TT:=St->Hp->(Bool->Hp->Prop)->Prop
noncomputable abbrev TA:=St->Hp->(List V->Hp->Prop)->Prop
structure Ends where
 nx:St->Hp->Prop
 rt:VK
 bk:St->Hp->Prop:=fun _ _=>False
 ct:St->Hp->Prop:=fun _ _=>False
noncomputable abbrev TS:=Ends->St->Hp->Prop
inductive EP(X:Cx)(pins:List (Addr×Obj))(σ:St)(Q:VK)(u:Value)(s':Shared):Prop where|mk(v:V)(H':Hp)(q0:Inv X pins σ H' s')(q1:RelV v u)(q2:Q v H')
noncomputable def TP(X:Cx)(pins:List (Addr×Obj))(σ:St)(Q:Bool->Hp->Prop)(b:Bool)(s':Shared):Prop:=∃H',Inv X pins σ H' s'/\Q b H'
inductive AP(X:Cx)(pins:List (Addr×Obj))(σ:St)(Q:List V->Hp->Prop)(us:List Value)(s':Shared):Prop where|mk(vs:List V)(H':Hp)(q0:Inv X pins σ H' s')(q1:Vals vs us)(q2:Q vs H')
noncomputable def SP(X:Cx)(pins:List (Addr×Obj))(D:Ends)(f:Flow)(s':Shared):Prop:=match f with|.next=>∃σ' H',Inv X pins σ' H' s'/\D.nx σ' H'|.brk=>∃σ' H',Inv X pins σ' H' s'/\D.bk σ' H'|.cont=>∃σ' H',Inv X pins σ' H' s'/\D.ct σ' H'|.ret u=>∃v σ' H',Inv X pins σ' H' s'/\RelV v u/\D.rt v H'
noncomputable def PE(X:Cx)(e:Expr)(t:TE):Prop:=∀(pins:List (Addr×Obj))(s:Shared)(σ:St)(H:Hp)(Q:VK),Inv X pins σ H s->t σ H Q->wpAny (model X.prog X.w) X.A (eval e X.env) (EP X pins σ Q) X.xe s
noncomputable def PT(X:Cx)(e:Expr)(t:TT):Prop:=∀(pins:List (Addr×Obj))(s:Shared)(σ:St)(H:Hp)(Q:Bool->Hp->Prop),Inv X pins σ H s->t σ H Q->wpAny (model X.prog X.w) X.A (isTrue e X.env (eval e X.env)) (TP X pins σ Q) X.xe s
noncomputable def PW(X:Cx)(e:Expr)(t:TT):Prop:=∀(whole:Sem Value)(pins:List (Addr×Obj))(s:Shared)(σ:St)(H:Hp)(Q:Bool->Hp->Prop),Inv X pins σ H s->t σ H Q->wpAny (model X.prog X.w) X.A (isTrue e X.env whole) (TP X pins σ Q) X.xe s
theorem PW.pt{X:Cx}{e:Expr}{t:TT}(h:PW X e t):PT X e t:=h _
noncomputable def PA(X:Cx)(es:List Expr)(t:TA):Prop:=∀(pos:Pos)(pins:List (Addr×Obj))(s:Shared)(σ:St)(H:Hp)(Q:List V->Hp->Prop),Inv X pins σ H s->t σ H Q->wpAny (model X.prog X.w) X.A (spliced (backTo pos (starEach es X.env))) (AP X pins σ Q) X.xe s
noncomputable def PS(X:Cx)(st:Stmt)(t:TS):Prop:=∀(pins:List (Addr×Obj))(s:Shared)(σ:St)(H:Hp)(D:Ends),Inv X pins σ H s->t D σ H->wpAny (model X.prog X.w) X.A (exec st X.env) (SP X pins D) X.xe s
noncomputable def mU(X:Cx)(st:List Stmt)(t:TS):Prop:=∀(pins:List (Addr×Obj))(s:Shared)(σ:St)(H:Hp)(D:Ends),Inv X pins σ H s->t D σ H->wpAny (model X.prog X.w) X.A (execs st X.env) (SP X pins D) X.xe s
theorem cG{α:Type}{t:Sem α}{Q Q':α->Shared->Prop}{M:Model}{A:Around}{E:Value->Shared->Prop}{s:Shared}(h:wpAny M A t Q E s)(hQ:∀a s,Q a s->Q' a s):wpAny M A t Q' E s:=wpAny_mono h hQ fun _ _ x=>x
end L2
namespace L2
open PySem PySem.Spec PyProof.Rows
section
variable{X:Cx}
noncomputable def Vm(i:Nat):TE:=fun σ H Q=>∃v,σ[i]?=some (some v)/\Q v H
noncomputable def tC(v:V):TE:=fun _ H Q=>Q v H
theorem lM{i:Nat}{x:Str}{pos:Pos}(hN:X.N[i]?=some x)(hv:Fq X.env.scope x)(hd:(x==("__debug__":Str))=false:=by decide)(hcd:(x==("__classdict__":Str))=false:=by decide):PE X (.Name x pos) (Vm i):=by
 intro pins s σ H Q I h;obtain⟨v,e,h⟩:=h;obtain⟨m,hn,hl⟩:=I.loc;obtain⟨u,r,l⟩:=hl i x v hN e hv;have fin:EP X pins σ Q u s:=⟨v,H,I,r,h⟩;rcases l with⟨hk,hm⟩|⟨hk,c,hc,hcell⟩;.exact wpAny_Name (wpAny_loadName_local I.ok.kind hk hn hm fin) hd
 . rcases hk with hk|hk;.exact wpAny_Name (wpAny_loadName_cell I.ok.kind hk hc hcell fin) hd
   .exact wpAny_Name (wpAny_loadName_free I.ok.kind hk hc hcell fin hcd) hd
theorem Nh{i j pos}:PE X (.Constant (.int i) j pos) (tC (.int i)):=fun _ _ _ H _ I h=>wpAny_Constant_int ⟨.int i,H,I.tok _,⟨_,rfl⟩,h⟩
theorem UJ{b j pos}:PE X (.Constant (.bool b) j pos) (tC (.bl b)):=fun _ _ _ H _ I h=>Constant_bool ⟨.bl b,H,I,rfl,h⟩
theorem O4{j pos}:PE X (.Constant .none j pos) (tC .non):=fun _ _ _ H _ I h=>Constant_none ⟨.non,H,I,rfl,h⟩
theorem Oi{x j pos}:PE X (.Constant (.str x) j pos) (tC (.str x)):=fun _ _ _ H _ I h=>Calls.Constant_str ⟨.str x,H,I.tok _,⟨_,rfl⟩,h⟩
noncomputable def Gl(X:Cx)(x:Str):Prop:=X.env.kindOf x=some .globalImplicit
theorem nP{E:Value->Shared->Prop}{pins:List (Addr×Obj)}{s:Shared}{σ:St}{H:Hp}{x:Str}{u:Value}{pos:Pos}{Q:Value->Shared->Prop}(I:Inv X pins σ H s)(hg:Gl X x)(hm:X.mg x=some u)(h:Q u s)(hd:(x==("__debug__":Str))=false:=by decide):wpAny (model X.prog X.w) X.A (eval (.Name x pos) X.env) Q E s:=Calls.Name_function_global I.ok.kind hg (Calls.loadGlobal_global (by rw[I.ok.glob];exact I.mod.glob.keeps I.bk) hm h) hd
theorem gH{E:Value->Shared->Prop}{pins:List (Addr×Obj)}{s:Shared}{σ:St}{H:Hp}{x:Str}{u:Value}{pos:Pos}{Q:Value->Shared->Prop}(I:Inv X pins σ H s)(hg:Gl X x)(hm:X.mg x=none)(hv:bootBuiltins x=some u)(h:Q u s)(hn:x≠"__name__":=by decide)(hd:(x==("__debug__":Str))=false:=by decide):wpAny (model X.prog X.w) X.A (eval (.Name x pos) X.env) Q E s:=by obtain⟨mb,h1,h2⟩:=I.mod.blt;exact Calls.Name_function_global I.ok.kind hg (Calls.loadGlobal_builtin (by rw[I.ok.glob];exact I.mod.glob.keeps I.bk) hm (by rw[I.ok.blt];exact h1.keeps I.bk) ((h2 x hn).trans hv) h) hd
theorem kW{x:Str}{v:V}{u:Value}{pos:Pos}(hg:Gl X x)(hm:X.mg x=some u)(r:RelV v u)(hd:(x==("__debug__":Str))=false:=by decide):PE X (.Name x pos) (tC v):=fun _ _ _ H _ I h=>nP I hg hm ⟨v,H,I,r,h⟩ hd
theorem sW{x:Str}{v:V}{u:Value}{pos:Pos}(hg:Gl X x)(hm:X.mg x=none)(hv:bootBuiltins x=some u)(r:RelV v u)(hn:x≠"__name__":=by decide)(hd:(x==("__debug__":Str))=false:=by decide):PE X (.Name x pos) (tC v):=fun _ _ _ H _ I h=>gH I hg hm hv ⟨v,H,I,r,h⟩ hn hd
variable{a b:Expr}{ta tb:TE}{pos:Pos}
noncomputable def tB(t:TE):TT:=fun σ H Q=>t σ H fun x H1=>∃c,x=.bl c/\Q c H1
theorem CK{e:Expr}{t:TE}(h:PE X e t)(he:∀whole,isTrue e X.env whole=(do let v<-whole;standAt e.pos;holding [v] (truthy v)):=by intro _;rfl):PT X e (tB t):=by intro pins s σ H Q I hw;refine isTrue_plain (cG (h pins s σ H _ I hw) fun v s1⟨x,H1,I1,r1,q1⟩=>?_) (he _);obtain⟨d,rfl,q⟩:=q1;cases r1;exact wpAny_truthy_bool ⟨H1,I1,q⟩
variable{tA Xz:TT}{rest:List Expr}
noncomputable def Zj(t u:TT):TT:=fun σ H Q=>t σ H fun c H1=>if c=true then u σ H1 Q else Q false H1
noncomputable def tOr(t u:TT):TT:=fun σ H Q=>t σ H fun c H1=>if c=true then Q true H1 else u σ H1 Q
noncomputable def YS(t:TT):TT:=fun σ H Q=>t σ H fun c H1=>Q (!c) H1
theorem yf(ha:PT X a tA):PW X (.BoolOp .And [a] pos) tA:=by intro wh pins s σ H Q I h;refine isTrue_and (cG (ha pins s σ H Q I h) fun c s1 e=>?_);cases c with|true=>exact isTrue_and_nil e|false=>exact e
theorem KZ(ha:PT X a tA):PW X (.BoolOp .Or [a] pos) tA:=by intro wh pins s σ H Q I h;refine isTrue_or (cG (ha pins s σ H Q I h) fun c s1 e=>?_);cases c with|false=>exact isTrue_or_nil e|true=>exact e
theorem Cq(ha:PT X a tA)(hb:PW X (.BoolOp .And (b::rest) pos) Xz):PW X (.BoolOp .And (a::b::rest) pos) (Zj tA Xz):=by intro wh pins s σ H Q I h;refine isTrue_and (cG (ha pins s σ H _ I h) fun c s1⟨H1,I1,q1⟩=>?_);cases c with|true=>exact hb wh pins s1 σ H1 Q I1 q1|false=>exact⟨H1,I1,q1⟩
theorem TQ(ha:PT X a tA)(hb:PW X (.BoolOp .Or (b::rest) pos) Xz):PW X (.BoolOp .Or (a::b::rest) pos) (tOr tA Xz):=by intro wh pins s σ H Q I h;refine isTrue_or (cG (ha pins s σ H _ I h) fun c s1⟨H1,I1,q1⟩=>?_);cases c with|true=>exact⟨H1,I1,q1⟩|false=>exact hb wh pins s1 σ H1 Q I1 q1
theorem CP(ha:PT X a tA):PT X (.UnaryOp .Not a pos) (YS tA):=by intro pins s σ H Q I h;exact isTrue_not (ha pins s σ H (fun c H1=>Q (!c) H1) I h)
noncomputable def Vb(ta tb:TE):TE:=fun σ H Q=>ta σ H fun x H1=>∃c,x=.bl c/\if c=true then tb σ H1 Q else Q (.bl false) H1
noncomputable def Uv(ta:TE):TE:=fun σ H Q=>ta σ H fun x H1=>∃c,x=.bl c/\Q (.bl (!c)) H1
theorem Mw{op}{t:TE}(h:PE X a t):PE X (.BoolOp op [a] pos) t:=fun pins s σ H Q I hw=>BoolOp_one (h pins s σ H Q I hw)
theorem Og(ha:PE X a ta)(hb:PE X (.BoolOp .And (b::rest) pos) tb):PE X (.BoolOp .And (a::b::rest) pos) (Vb ta tb):=by intro pins s σ H Q I h;refine BoolOp_and (cG (ha pins s σ H _ I h) fun v s1⟨x,H1,I1,r1,q1⟩=>?_);obtain⟨c,rfl,q1⟩:=q1;cases r1;refine wpAny_truthy_bool ?_;cases c with|true=>exact hb pins s1 σ H1 Q I1 q1|false=>exact⟨.bl false,H1,I1,rfl,q1⟩
theorem Pb(ha:PE X a ta):PE X (.UnaryOp .Not a pos) (Uv ta):=by intro pins s σ H Q I h;refine UnaryOp_ (cG (ha pins s σ H _ I h) fun v s1⟨x,H1,I1,r1,q1⟩=>?_);obtain⟨c,rfl,q1⟩:=q1;cases r1;exact not_of (wpAny_truthy_bool ⟨.bl (!c),H1,I1,rfl,q1⟩)
end
end L2
namespace L2
open PySem PySem.Spec PyProof.Rows
noncomputable def dB(K:PySem.W.Frag)(H:Hp)(a:Addr)(xs:List V):Prop:=Rd H a (.lst xs)\/∃(o:Obj)(its:Array Value)(n:Nat),K.lookup a=some o/\o.cls=.type "list"/\o.dict=none/\o.data=.seq its n/\its.size<=sizeLine/\Vals xs its.toList
noncomputable def gn(K:PySem.W.Frag)(H:Hp)(a:Addr)(xs:List V):Prop:=Rd H a (.tup xs)\/∃(o:Obj)(its:Array Value)(n:Nat),K.lookup a=some o/\o.cls=.type "tuple"/\o.data=.seq its n/\its.size<=sizeLine/\Vals xs its.toList
noncomputable def Y4:Value->Option V|.none=>some .non|.bool b=>some (.bl b)|.int i _=>some (.int i)|.str x _=>some (.str x)|.bytes b _=>some (.byt b)|.float b _=>some (.flt b)|.ref a=>some (.ref a)|.type n=>some (.ty n)|_=>none
theorem RelV.abs{x:V}{u:Value}(r:RelV x u):Y4 u=some x:=by cases x with|non=>cases r;rfl|bl _=>cases r;rfl|int _=>obtain⟨t,rfl⟩:=r;rfl|str _=>obtain⟨t,rfl⟩:=r;rfl|byt _=>obtain⟨t,rfl⟩:=r;rfl|flt _=>obtain⟨t,rfl⟩:=r;rfl|ref _=>cases r;rfl|ty _=>cases r;rfl
theorem RelV.inj{x y:V}{u:Value}(r:RelV x u)(q:RelV y u):x=y:=Option.some.inj (r.abs.symm.trans q.abs)
theorem Vals.inj:∀{xs ys:List V}{us:List Value},Vals xs us->Vals ys us->xs=ys|_,_,_,.nil,.nil=>rfl|_,_,_,.cons r t,.cons r' t'=>by rw[r.inj r',Vals.inj t t']
section
variable{X:Cx}{pins:List (Addr×Obj)}{σ:St}{H:Hp}{s:Shared}{a:Addr}{xs ys:List V}
theorem dB.of{K:PySem.W.Frag}(h:H a=some (.lst xs)):dB K H a xs:=.inl (.inl h)
theorem gn.of{K:PySem.W.Frag}(h:H a=some (.tup xs)):gn K H a xs:=.inl (.inl h)
theorem Inv.list(I:Inv X pins σ H s)(h:dB X.K H a xs):∃its:List Value,Vals xs its/\PlainL s.heap a its.toArray/\xs.length<=sizeLine:=by
 rcases h with h|⟨o,its,n,hk,hc,hd,hs,hz,r⟩;.obtain⟨z,its,n,r,e⟩:=h.ok I.hok;exact⟨its,r,⟨_,n,e,rfl,rfl,rfl⟩,z⟩
 .refine⟨its.toList,r,⟨o,n,I.Fv a o hk,hc,hd,by simpa using hs⟩,?_⟩;have e:=r.length;simp only[Array.length_toList]at e;omega
theorem Inv.tuple(I:Inv X pins σ H s)(h:gn X.K H a xs):∃its:List Value,Vals xs its/\IsTup s.heap a its.toArray/\xs.length<=sizeLine:=by
 rcases h with h|⟨o,its,n,hk,hc,hs,hz,r⟩;.obtain⟨z,its,r,p⟩:=h.ok I.hok;exact⟨its,r,p,z⟩
 .refine⟨its.toList,r,⟨o,I.Fv a o hk,hc,n,by simpa using hs⟩,?_⟩;have e:=r.length;simp only[Array.length_toList]at e;omega
theorem Inv.jZ(I:Inv X pins σ H s)(h:dB X.K H a xs)(h':dB X.K H a ys):xs=ys:=by
 obtain⟨its,r,⟨o,n,e,_,_,d⟩,_⟩:=I.list h;obtain⟨its',r',⟨o',n',e',_,_,d'⟩,_⟩:=I.list h';rw[e]at e';cases e';rw[d]at d';injection d' with d1 _;have:its=its':=by simpa using congrArg Array.toList d1
 subst this;exact r.inj r'
theorem Inv.jj(I:Inv X pins σ H s)(h:gn X.K H a xs)(h':gn X.K H a ys):xs=ys:=by
 obtain⟨its,r,⟨o,e,_,n,d⟩,_⟩:=I.tuple h;obtain⟨its',r',⟨o',e',_,n',d'⟩,_⟩:=I.tuple h';rw[e]at e';cases e';rw[d]at d';injection d' with d1 _;have:its=its':=by simpa using congrArg Array.toList d1
 subst this;exact r.inj r'
end
noncomputable abbrev Cx.wish(X:Cx)(E:Value->Shared->Prop):Cx:={X with xe:=E}
noncomputable abbrev Cx.Tj(X:Cx):Cx:=X.wish fun _ _=>False
theorem Cx.Ok.wish{X:Cx}(ok:X.Ok)(E:Value->Shared->Prop):(X.wish E).Ok:=⟨ok.mod,ok.kind,ok.glob,ok.blt,ok.above,ok.inj,ok.has,ok.cab,ok.hd,ok.frames,ok.Ku,ok.RZ,ok.bs,ok.Ax,ok.tQ,ok.vJ,ok.jK,ok.FQ⟩
theorem Cx.Ok.iy{X:Cx}{E:Value->Shared->Prop}(ok:(X.wish E).Ok):X.Ok:=⟨ok.mod,ok.kind,ok.glob,ok.blt,ok.above,ok.inj,ok.has,ok.cab,ok.hd,ok.frames,ok.Ku,ok.RZ,ok.bs,ok.Ax,ok.tQ,ok.vJ,ok.jK,ok.FQ⟩
section
variable{X:Cx}{pins:List (Addr×Obj)}{σ:St}{H:Hp}{s:Shared}{E:Value->Shared->Prop}
theorem Inv.wish(I:Inv X pins σ H s)(E:Value->Shared->Prop):Inv (X.wish E) pins σ H s:=⟨I.ok.wish E,I.os,I.bare,I.base,I.loc,I.cell,I.free,I.dO,I.pin,I.hok,I.len⟩
theorem Inv.iy(I:Inv (X.wish E) pins σ H s):Inv X pins σ H s:=⟨I.ok.iy,I.os,I.bare,I.base,I.loc,I.cell,I.free,I.dO,I.pin,I.hok,I.len⟩
theorem SP.iy{D:Ends}{f:Flow}{s':Shared}(h:SP (X.wish E) pins D f s'):SP X pins D f s':=by cases f with|next=>obtain⟨σ',H',I,q⟩:=h;exact⟨σ',H',I.iy,q⟩|brk=>obtain⟨σ',H',I,q⟩:=h;exact⟨σ',H',I.iy,q⟩|cont=>obtain⟨σ',H',I,q⟩:=h;exact⟨σ',H',I.iy,q⟩|ret u=>obtain⟨v,σ',H',I,r,q⟩:=h;exact⟨v,σ',H',I.iy,r,q⟩
theorem mU.Tj{st:List Stmt}{t:TS}(h:mU X.Tj st t):mU X st t:=fun pins s σ H D I hw=>wpAny_mono (h pins s σ H D (I.wish _) hw) (fun _ _ q=>q.iy) fun _ _ z=>False.elim z
end
section
variable{X:Cx}{st:Stmt}{rest:List Stmt}{t u:TS}{e:Expr}{te:TE}{pos:Pos}
noncomputable def Uo:TS:=fun D σ H=>D.nx σ H
noncomputable def YC(t u:TS):TS:=fun D σ H=>t {D with nx:=u D} σ H
theorem sG:mU X [] Uo:=fun _ _ σ H _ I h=>wpAny_execs_nil ⟨σ,H,I,h⟩
theorem uz(h1:PS X st t)(h2:mU X rest u):mU X (st::rest) (YC t u):=by intro pins s σ H D I h;refine wpAny_execs_cons (cG (h1 pins s σ H {D with nx:=u D} I h) fun f s1 q=>?_);cases f with|next=>obtain⟨σ',H',I',q⟩:=q;exact h2 pins s1 σ' H' D I' q|ret v=>exact q|brk=>exact q|cont=>exact q
theorem yz(h1:PS X st t):mU X [st] t:=by intro pins s σ H D I h;refine wpAny_execs_cons (cG (h1 pins s σ H D I h) fun f s1 q=>?_);cases f with|next=>exact wpAny_execs_nil q|ret v=>exact q|brk=>exact q|cont=>exact q
theorem Inv.quiet{pins:List (Addr×Obj)}{σ:St}{H:Hp}{s:Shared}(I:Inv X pins σ H s):interactive X.env=false:=by simp[interactive,I.ok.kind]
noncomputable def Sh(te:TE):TS:=fun D σ H=>te σ H fun _ H1=>D.nx σ H1
theorem HD(he:PE X e te)(hs:swapsWith e none pos.line X.env=pure false:=by rfl):PS X (.Expr e pos) (Sh te):=by intro pins s σ H D I h;exact wpAny_Expr_any (cG (he pins s σ H _ I h) fun v s1⟨x,H1,I1,r1,q1⟩=>⟨σ,H1,I1,q1⟩) I.quiet hs
noncomputable def Zv(te:TE):TS:=fun D σ H=>te σ H D.rt
theorem Ci(he:PE X e te):PS X (.Return (some e) pos) (Zv te):=by intro pins s σ H D I h;exact wpAny_Return_some (cG (he pins s σ H _ I h) fun v s1⟨x,H1,I1,r1,q1⟩=>⟨x,σ,H1,I1,r1,q1⟩)
noncomputable def YQ(c:TT)(t u:TS):TS:=fun D σ H=>c σ H fun b H1=>if b=true then t D σ H1 else u D σ H1
theorem CW{c:Expr}{a b:List Stmt}{tc:TT}(hc:PT X c tc)(ha:mU X a t)(hb:mU X b u):PS X (.If c a b pos) (YQ tc t u):=by intro pins s σ H D I h;refine wpAny_If (cG (hc pins s σ H _ I h) fun d s1⟨H1,I1,q1⟩=>?_);cases d with|true=>exact ha pins s1 σ H1 D I1 q1|false=>exact hb pins s1 σ H1 D I1 q1
noncomputable def MF:TS:=fun _ _ _=>False
theorem tZ:PS X st MF:=fun _ _ _ _ _ _ h=>h.elim
end
noncomputable abbrev TG:=V->St->Hp->(St->Hp->Prop)->Prop
noncomputable abbrev Ao:=List V->St->Hp->(St->Hp->Prop)->Prop
noncomputable def PG(X:Cx)(target:Expr)(t:TG):Prop:=∀(pins:List (Addr × Obj))(s:Shared)(σ:St)(H:Hp)(v:V)(u:Value)(Q:St->Hp->Prop),Inv X pins σ H s->RelV v u->t v σ H Q->wpAny (model X.prog X.w) X.A (assign target X.env u) (fun _ s'=>∃σ' H',Inv X pins σ' H' s'/\Q σ' H') X.xe s
noncomputable def Ww(X:Cx)(ts:List Expr)(t:Ao):Prop:=∀(pins:List (Addr × Obj))(s:Shared)(σ:St)(H:Hp)(vs:List V)(us:List Value)(Q:St->Hp->Prop),Inv X pins σ H s->Vals vs us->t vs σ H Q->wpAny (model X.prog X.w) X.A (assignInOrder ((assignEach ts X.env).map (·.2)) us) (fun _ s'=>∃σ' H',Inv X pins σ' H' s'/\Q σ' H') X.xe s
noncomputable abbrev PL:=V->V->V->Hp->(Hp->Prop)->Prop
noncomputable def R9(X:Cx)(t:PL):Prop:=∀(pins:List (Addr × Obj))(s:Shared)(σ:St)(H:Hp)(o i v:V)(ov iv u:Value)(Q:Hp->Prop),Inv X pins σ H s->RelV o ov->RelV i iv->RelV v u->t o i v H Q->wpAny (model X.prog X.w) X.A (setItem ov iv u) (fun _ s'=>∃H',Inv X pins σ H' s'/\Q H') X.xe s
section
variable{X:Cx}{pos:Pos}
noncomputable def pC(i:Nat):TG:=fun v σ H Q=>Q (σ.set i (some v)) H
theorem bQ{i:Nat}{x:Str}(hN:X.N.Nodup)(hi:X.N[i]?=some x)(hx:Loc X.env.scope x)(hf:X.fn x=true\/X.env.scope.names.lookup x=some .local:=by first|exact .inl rfl|exact .inr rfl|assumption):PG X (.Name x pos) (pC i):=by intro pins s σ H v u Q I r h;exact wpAny_assign_Name (iB I hN hi hx r (fun s' I'=>⟨_,H,I',h⟩) hf)
noncomputable def M4:Ao:=fun vs σ H Q=>vs=[]/\Q σ H
noncomputable def Dj(t:TG)(u:Ao):Ao:=fun vs σ H Q=>∃v r,vs=v::r/\t v σ H fun σ' H'=>u r σ' H' Q
theorem nH:Ww X [] M4:=by intro pins s σ H vs us Q I r h;obtain⟨e,h⟩:=h;subst e;cases r;exact assignInOrder_nil ⟨σ,H,I,h⟩
theorem cM{e:Expr}{es:List Expr}{t:TG}{u:Ao}(h1:PG X e t)(h2:Ww X es u)(hs:(assignEach (e::es) X.env).map (·.2)=assign e X.env::(assignEach es X.env).map (·.2):=by rfl):Ww X (e::es) (Dj t u):=by intro pins s σ H vs us Q I r h;obtain⟨v,vr,e1,h⟩:=h;subst e1;cases r with|cons r rr=>rw[hs];refine assignInOrder_cons (cG (h1 pins s σ H _ _ _ I r h) fun _ s1⟨σ1,H1,I1,q1⟩=>?_);exact h2 pins s1 σ1 H1 _ _ Q I1 rr q1
noncomputable def K6(K:PySem.W.Frag)(n:Nat)(t:Ao):TG:=fun v σ H Q=>∃a xs,v=.ref a/\gn K H a xs/\xs.length=n/\t xs σ H Q
theorem tM{es:List Expr}{k:Nat}{t:Ao}{n:Nat}(hc:X.calm=true)(h:Ww X es t)(hn:(assignEach es X.env).length=n:=by rfl)(hst:(assignEach es X.env).findIdx? (·.1)=none:=by rfl):PG X (.Tuple es k pos) (K6 X.K n t):=by intro pins s σ H v u Q I r hw;obtain⟨a,xs,e1,hq,hl,hw⟩:=hw;subst e1;cases r;obtain⟨its,rv,ht,hz⟩:=I.tuple hq;refine assign_Tuple_tuple (I.ok.hd hc) ht (by simp[hn,<-hl,rv.length]) hst fun h' hx=>?_;have I1:Inv X pins σ H {s with heap:=h'}:=I.kept (t':=s.toks) fun b o e=>hx b o (Nat.ne_of_lt (Heap.lt_size e)) e;exact h pins _ σ H xs _ Q I1 (by simpa using rv) hw
noncomputable def aae(to ti:TE)(t:PL):TG:=fun v σ H Q=>to σ H fun o H1=>ti σ H1 fun i H2=>t o i v H2 fun H3=>Q σ H3
theorem Ld{o i:Expr}{to ti:TE}{t:PL}(ho:PE X o to)(hi:PE X i ti)(hs:R9 X t)(ha:∀ v,assign (.Subscript o i pos) X.env v=(do
  let ov<-holding [v] (eval o X.env)let iv<-holding [v,ov] (eval i X.env)standAt pos
  holding [v,ov,iv] (setItem ov iv v)release [v,ov,iv] []):=by intro _;rfl):PG X (.Subscript o i pos) (aae to ti t):=by intro pins s σ H v u Q I r h;rw[ha];refine wpAny_bind (wpAny_holding (cG (ho pins s σ H _ I h) fun ov s1⟨x,H1,I1,r1,q1⟩=>?_));refine wpAny_bind (wpAny_holding (cG (hi pins s1 σ H1 _ I1 q1) fun iv s2⟨y,H2,I2,r2,q2⟩=>?_));refine wpAny_bind (wpAny_standAt (wpAny_bind (wpAny_holding (cG (hs pins s2 σ H2 x y v ov iv u _ I2 r1 r2 r q2) fun _ s3⟨H3,I3,q3⟩=>?_))));exact wpAny_release ⟨σ,H3,I3,q3⟩
noncomputable def Nt(te:TE)(g:TG):TS:=fun D σ H=>te σ H fun x H1=>g x σ H1 D.nx
theorem BZ{tg e:Expr}{te:TE}{g:TG}(he:PE X e te)(hg:PG X tg g)(hs:swapsWithSole [tg] e pos.line X.env=pure false:=by rfl)(hw:swappedStores [tg] e X.env=pure none:=by rfl)(h1:(assignEach [tg] X.env).map (·.2)=[assign tg X.env]:=by rfl):PS X (.Assign [tg] e pos) (Nt te g):=by intro pins s σ H D I h;refine wpAny_Assign_stores (cG (he pins s σ H _ I h) fun v s1⟨x,H1,I1,r1,q1⟩=>?_) hs hw;rw[h1];exact cG (hg pins s1 σ H1 x v _ I1 r1 q1) fun _ s2 q=>q
theorem Bm{i:Nat}{x:Str}{e:Expr}{te:TE}{pos':Pos}(hN:X.N.Nodup)(hi:X.N[i]?=some x)(hx:Loc X.env.scope x)(he:PE X e te)(hs:swapsWith e (some (.Name x pos')) pos.line X.env=pure false:=by rfl)(hf:X.fn x=true\/X.env.scope.names.lookup x=some .local:=by first|exact .inl rfl|exact .inr rfl|assumption):PS X (.Assign [.Name x pos'] e pos) (Nt te (pC i)):=by intro pins s σ H D I h;refine wpAny_Assign_Name (cG (he pins s σ H _ I h) fun v s1⟨y,H1,I1,r1,q1⟩=>?_) hs;exact iB I1 hN hi hx r1 (fun s2 I2=>⟨_,H1,I2,q1⟩) hf
noncomputable def ZG(i j:Nat)(ta:TA):TS:=fun D σ H=>ta σ H fun vs H1=>∃v w,vs=[v,w]/\D.nx ((σ.set i (some v)).set j (some w)) H1
theorem K5{i j:Nat}{x y:Str}{a b:Expr}{ta:TA}{px py pt:Pos}{kt k2 Qd}(hc:X.calm=true)(hN:X.N.Nodup)(hi:X.N[i]?=some x)(hj:X.N[j]?=some y)(hij:i≠j)(hx:X.env.scope.names.lookup x=some .local)(hy:X.env.scope.names.lookup y=some .local)(ha:PA X [a,b] ta)(hw:swappedStores [.Tuple [.Name x px,.Name y py] kt pt] (.Tuple [a,b] k2 Qd) X.env=pure (some [x,y]))(hs:swapsWithSole [.Tuple [.Name x px,.Name y py] kt pt] (.Tuple [a,b] k2 Qd) pos.line X.env=pure false:=by rfl):PS X (.Assign [.Tuple [.Name x px,.Name y py] kt pt] (.Tuple [a,b] k2 Qd) pos) (ZG i j ta):=by
 intro pins s σ H D I h;rw[exec_Assign_arm];refine wpAny_bind (wpAny_standAt ?_);rw[hs];refine wpAny_bind (wpAny_pure ?_);rw[if_neg (by decide)];refine wpAny_bind (Tuple_ (cG (ha _ pins s σ H _ I h) fun us s1⟨vs,H1,I1,r1,q1⟩=>?_));obtain⟨v,w,e1,q1⟩:=q1;subst e1;obtain⟨u1,u2,rfl,rv,VN⟩:∃u1 u2,us=[u1,u2]/\RelV v u1/\RelV w u2:=by cases r1 with|cons p q=>cases q with|cons p' q'=>cases q';exact⟨_,_,rfl,p,p'⟩
 refine wpAny_newObj_type ?_ (by show 2<=sizeLine;decide);have I2:Inv X pins σ H1 {s1 with heap:=s1.heap.push {cls:=.type "tuple",data:=.seq [u1,u2].toArray}}:=I1.kept (t':=s1.toks) fun b o e=>Heap.get?_push_of_some _ e;rw[hw];refine wpAny_bind (wpAny_pure ?_);show wpAny (model X.prog X.w) X.A (do rule "assign.swapped-stores";let items<-unpackItems (.ref s1.heap.objs.size) 2 none;assignInOrder [fun v=>bindName X.env y v,fun v=>bindName X.env x v] items.reverse;pure Flow.next) _ _ _;refine wpAny_bind (wpAny_rule (wpAny_bind (unpackItems_tuple (items:=#[u1,u2]) (I.ok.hd hc) (IsTup.new s1.heap _) fun h' hx'=>?_)));have I3:=I2.kept (h':=h') (t':=s1.toks) fun b o e=>hx' b o (Nat.ne_of_lt (Heap.lt_size e)) e;show wpAny _ _ (assignInOrder [fun v=>bindName X.env y v,fun v=>bindName X.env x v] [u2,u1]>>=fun _=>pure Flow.next) _ _ _;refine wpAny_bind (assignInOrder_cons (wpAny_bindName (iB I3 hN hj (.inl hy) VN (fun s2 I4=>?_) (.inr hy))));refine assignInOrder_cons (wpAny_bindName (iB I4 hN hi (.inl hx) rv (fun s3 I5=>assignInOrder_nil (wpAny_pure ?_)) (.inr hx)));rw[List.set_comm _ _ (Ne.symm hij)]at I5;exact⟨_,H1,I5,q1⟩
end
section
variable{X:Cx}{pos:Pos}
noncomputable def Oz(c:TT)(tb:TS):TS:=fun D σ H=>∃W:Nat->St->Hp->Prop,(∃m,W m σ H)/\∀m σ H,W m σ H->c σ H fun b H1=>if b=true then ∃N:St->Hp->Prop,(∀σ' H',N σ' H'->∃m',m'<m/\W m' σ' H')/\tb {D with nx:=N,ct:=N,bk:=D.nx} σ H1 else D.nx σ H1
theorem uT{c:Expr}{body:List Stmt}{tc:TT}{tb:TS}(hp:PassesOwn (model X.prog X.w) X.A X.env X.xe)(hc:PT X c tc)(hb:mU X body tb):PS X (.While c body [] pos) (Oz tc tb):=by intro pins s σ H D I h;obtain⟨W,⟨m0,w0⟩,turn⟩:=h;refine wpAny_While (codeAny_whileLoop (fun n s'=>∃σ' H',Inv X pins σ' H' s'/\W n σ' H') ?_ m0 ⟨σ,H,I,w0⟩);rintro n s1⟨σ1,H1,I1,w1⟩;refine wpAny_passesOwn hp (cG (hc pins s1 σ1 H1 _ I1 (turn n σ1 H1 w1)) fun b s2⟨H2,I2,q2⟩=>?_);cases b with
 |true=>obtain⟨N,hN,q2⟩:=q2;rw[if_pos rfl];refine wpAny_passesOwn hp (cG (hb pins s2 σ1 H2 _ I2 q2) fun f s3 q3=>?_);cases f with|next=>obtain⟨σ3,H3,I3,n3⟩:=q3;obtain⟨m',hm,w3⟩:=hN σ3 H3 n3;exact⟨m',hm,σ3,H3,I3,w3⟩|cont=>obtain⟨σ3,H3,I3,n3⟩:=q3;obtain⟨m',hm,w3⟩:=hN σ3 H3 n3;exact⟨m',hm,σ3,H3,I3,w3⟩|brk=>exact q3|ret v=>exact q3
 |false=>rw[if_neg Bool.false_ne_true];exact wpAny_execs_nil ⟨σ1,H2,I2,q2⟩
end
structure It where
 go:Nat->Hp->Prop
 FT:Nat->Hp->V->Hp->Prop
 stop:Nat->Hp->Prop
noncomputable def lO(X:Cx)(pins:List (Addr×Obj))(H:Hp)(b:Addr):Prop:=H b=none/\b≠X.env.locals/\b∉X.fs/\(b∈X.ex\/X.s₀.heap.objs.size<=b)/\(∀x c,X.env.cells.lookup x=some c->c≠b)/\∀p∈X.pn++pins,p.1≠b
theorem Inv.zA{X:Cx}{pins:List (Addr×Obj)}{σ:St}{H H':Hp}{s:Shared}{b:Addr}(I:Inv X pins σ H s)(hb:s.heap.objs.size<=b)(hn:H' b=none):lO X pins H' b:=by
 refine⟨hn,Nat.ne_of_gt (Nat.lt_of_lt_of_le I.lt hb),I.Zr hb,.inr (Nat.le_trans I.sz hb),fun x c e z=>?_,fun p hp z=>?_⟩;.obtain⟨v,q⟩:=I.cell x c e;exact absurd (Nat.lt_of_lt_of_le q.lt (by rw[z];exact hb)) (Nat.lt_irrefl _)
 .exact absurd (Nat.lt_of_lt_of_le (Heap.lt_size (I.pin p hp).1) (by rw[z];exact hb)) (Nat.lt_irrefl _)
structure Turn(P:Program)(w:World)(K:PySem.W.Frag)(tg:Expr)(J:It)(fp:List Addr)(it:Addr)(tn:Nat->Heap->Prop):Prop where
 mem:it∈fp
 obj:∀i h,tn i h->∀b∈fp,∃o,h.get? b=some o/\∀v,o.data≠.cell v
 keep:∀i h h',tn i h->(∀b∈fp,∀o,h.get? b=some o->h'.get? b=some o)->tn i h'
 item:∀(X:Cx),X.prog=P->X.w=w->X.K=K->X.calm=true->∀(i:Nat)(pins:List (Addr×Obj))(s:Shared)(σ:St)(H:Hp)(E:Value->Shared->Prop),Inv X pins σ H s->(∀b∈fp,lO X pins H b)->tn i s.heap->J.go i H->wpAny (model P w) X.A (pyNext (.ref it)) (fun r s1=>∃u,r=some u/\wpAny (model P w) X.A (letOwnedTupleGo tg (.ref it) u) (fun _ s2=>∃x H',Inv X pins σ H' s2/\RelV x u/\J.FT i H x H'/\tn (i+1) s2.heap/\∀b∈fp,H' b=none) E s1) E s
 done:∀(X:Cx),X.prog=P->X.w=w->X.K=K->X.calm=true->∀(i:Nat)(pins:List (Addr×Obj))(s:Shared)(σ:St)(H:Hp)(E:Value->Shared->Prop),Inv X pins σ H s->(∀b∈fp,lO X pins H b)->tn i s.heap->J.stop i H->wpAny (model P w) X.A (pyNext (.ref it)) (fun r s1=>r=none/\Inv X pins σ H s1) E s
 self:∀(A:Around)(i:Nat)(s:Shared)(Q:Value->Shared->Prop)(E:Value->Shared->Prop),tn i s.heap->Q (.ref it) s->wpAny (model P w) A (pyIter (.ref it)) Q E s
noncomputable abbrev TI:=St->Hp->(It->Hp->Prop)->Prop
noncomputable def PIE(X:Cx)(pins:List (Addr×Obj))(σ:St)(tg:Expr)(R:It->Hp->Prop)(itv:Value)(s2:Shared):Prop:=∃(it:Addr)(fp:List Addr)(tn:Nat->Heap->Prop)(J:It)(H':Hp),itv=.ref it/\Inv X pins σ H' s2/\Turn X.prog X.w X.K tg J fp it tn/\tn 0 s2.heap/\(∀b∈fp,lO X pins H' b)/\R J H'
noncomputable def PI(X:Cx)(tg iter:Expr)(wi:TI):Prop:=∀(pins:List (Addr × Obj))(s:Shared)(σ:St)(H:Hp)(R:It->Hp->Prop),Inv X pins σ H s->wi σ H R->wpAny (model X.prog X.w) X.A (eval iter X.env) (fun v s1=>wpAny (model X.prog X.w) X.A (pyIter v) (PIE X pins σ tg R) X.xe s1) X.xe s
theorem Dr{M:Model}{A:Around}{E:Value->Shared->Prop}{s:Shared}{tg:Expr}{it:Addr}{u:Value}{o:Obj}{n:String}{vs:Array Value}{Q:Unit->Shared->Prop}(ho:s.heap.get? it=some o)(hc:o.cls=.type n)(hd:o.data=.fields vs)(hn:["enumerate","zip","dict_itemiterator","dict_reverseitemiterator","odict_iterator","itertools.zip_longest","itertools.pairwise"].contains n=false)(hQ:Q () s):wpAny M A (letOwnedTupleGo tg (.ref it) u) Q E s:=by unfold letOwnedTupleGo;cases tg<;>first|exact wpAny_pure hQ|(cases u<;>first|exact wpAny_pure hQ|(refine wpAny_bind (wpAny_load ho ?_);rw[hc,hd];show wpAny M A (if(["enumerate","zip","dict_itemiterator","dict_reverseitemiterator","odict_iterator","itertools.zip_longest","itertools.pairwise"].contains n&&vs[0]?==some (rawInt _))=true then _ else _) Q E s;rw[if_neg (by intro h;rw[hn,Bool.false_and]at h;cases h)];exact wpAny_pure hQ))
noncomputable def Od(K:PySem.W.Frag)(a:Addr):It:=⟨fun i H=>∃xs x,dB K H a xs/\xs[i]?=some x,fun i H x H'=>H'=H/\∀xs,dB K H a xs->xs[i]?=some x,fun i H=>∃xs,dB K H a xs/\xs.length<=i⟩
noncomputable def RK(K:PySem.W.Frag)(a:Addr):It:=⟨fun i H=>∃xs x,gn K H a xs/\xs[i]?=some x,fun i H x H'=>H'=H/\∀xs,gn K H a xs->xs[i]?=some x,fun i H=>∃xs,gn K H a xs/\xs.length<=i⟩
noncomputable def Ti(lo:Int)(n:Nat):It:=⟨fun i _=>i<n,fun i H x H'=>H'=H/\x=.int (lo+i),fun i _=>n<=i⟩
theorem zu{P:Program}{w:World}{K:PySem.W.Frag}{tg:Expr}(a it:Addr):Turn P w K tg (Od K a) [it] it (fun i h=>h.IsListIter it a i)where
 mem:=by simp
 obj:=fun i h st b hb=>by
  have e:b=it:=by simpa using hb
  subst e;obtain⟨o,e,c,d⟩:=st;exact⟨o,e,fun v z=>by rw[d]at z;cases z⟩
 keep:=fun i h h' st k=>st.at fun o e=>k it (by simp) o e;item:=by intro X hP hw hK hc i pins s σ H E I hf st hg;subst hP hw hK;obtain⟨xs,x,hq,hx⟩:=hg;obtain⟨its,rv,p,hz⟩:=I.list hq;obtain⟨u,hu,ru⟩:=rv.get hx;obtain⟨f0,f1,f2,f3,f4,f5⟩:=hf it (by simp);refine wpAny_pyNext_list_item st p.isList (x:=u) (by simpa using hu) fun h' st' sb=>?_;have I1:Inv X pins σ H {s with heap:=h'}:=I.turned (t':=s.toks) (fun b o hb e=>(sb.2 b hb).trans e) f0 f1 f3 f4 f5;obtain⟨o,e,c,d⟩:=id st';exact⟨u,rfl,Dr (s:={s with heap:=h'}) e c d (by decide) ⟨x,H,I1,ru,⟨rfl,fun ys hy=>by rw[I.jZ hy hq];exact hx⟩,st',fun b hb=>(hf b hb).1⟩⟩
 done:=by intro X hP hw hK hc i pins s σ H E I hf st hg;subst hP hw hK;obtain⟨xs,hq,hx⟩:=hg;obtain⟨its,rv,p,hz⟩:=I.list hq;obtain⟨f0,f1,f2,f3,f4,f5⟩:=hf it (by simp);have hl:=rv.length;exact wpAny_pyNext_list_end (I.ok.hd hc) st p.isList (by simp;omega) fun h' eb=>⟨rfl,I.turned (t':=s.toks) (fun b o hb e=>eb b o hb e) f0 f1 f3 f4 f5⟩
 self:=fun _ _ _ _ _ st h=>wpAny_pyIter_listiter st h
theorem wG{P:Program}{w:World}{K:PySem.W.Frag}{tg:Expr}(a it:Addr):Turn P w K tg (RK K a) [it] it (fun i h=>h.IsTupleIter it a i)where
 mem:=by simp
 obj:=fun i h st b hb=>by
  have e:b=it:=by simpa using hb
  subst e;obtain⟨o,e,c,d⟩:=st;exact⟨o,e,fun v z=>by rw[d]at z;cases z⟩
 keep:=fun i h h' st k=>st.at fun o e=>k it (by simp) o e;item:=by intro X hP hw hK hc i pins s σ H E I hf st hg;subst hP hw hK;obtain⟨xs,x,hq,hx⟩:=hg;obtain⟨its,rv,p,hz⟩:=I.tuple hq;obtain⟨u,hu,ru⟩:=rv.get hx;obtain⟨f0,f1,f2,f3,f4,f5⟩:=hf it (by simp);refine wpAny_pyNext_tuple_item st (show s.heap.IsTuple a its.toArray from p) (x:=u) (by simpa using hu) fun h' st' sb=>?_;have I1:Inv X pins σ H {s with heap:=h'}:=I.turned (t':=s.toks) (fun b o hb e=>(sb.2 b hb).trans e) f0 f1 f3 f4 f5;obtain⟨o,e,c,d⟩:=id st';exact⟨u,rfl,Dr (s:={s with heap:=h'}) e c d (by decide) ⟨x,H,I1,ru,⟨rfl,fun ys hy=>by rw[I.jj hy hq];exact hx⟩,st',fun b hb=>(hf b hb).1⟩⟩
 done:=by intro X hP hw hK hc i pins s σ H E I hf st hg;subst hP hw hK;obtain⟨xs,hq,hx⟩:=hg;obtain⟨its,rv,p,hz⟩:=I.tuple hq;obtain⟨f0,f1,f2,f3,f4,f5⟩:=hf it (by simp);have hl:=rv.length;exact wpAny_pyNext_tuple_end (I.ok.hd hc) st (show s.heap.IsTuple a its.toArray from p) (by simp;omega) fun h' eb=>⟨rfl,I.turned (t':=s.toks) (fun b o hb e=>eb b o hb e) f0 f1 f3 f4 f5⟩
 self:=fun _ _ _ _ _ st h=>wpAny_pyIter_tupleiter st h
theorem xj{P:Program}{w:World}{K:PySem.W.Frag}{tg:Expr}(it:Addr)(lo:Int)(n:Nat):Turn P w K tg (Ti lo n) [it] it (fun i h=>IsRangeIter h it (lo+(i:Nat)*1) ((n:Int)-(i:Nat)) 1)where
 mem:=by simp
 obj:=fun i h st b hb=>by
  have e:b=it:=by simpa using hb
  subst e;exact⟨_,st,fun v z=>by have z':Data.fields _=Data.cell v:=z;cases z'⟩
 keep:=fun i h h' st k=>k it (by simp) _ st;item:=by intro X hP hw hK hc i pins s σ H E I hf st hg;subst hP hw hK;obtain⟨f0,f1,f2,f3,f4,f5⟩:=hf it (by simp);have W:=Walks.range (prog:=X.prog) (w:=X.w) (I.ok.hd hc) it lo 1 n;refine W.item i s _ _ hg st fun v h' tk hv st' kk=>?_;obtain⟨t,rfl⟩:=hv;have I1:Inv X pins σ H {s with heap:=h',toks:=tk}:=I.turned (fun b o hb e=>kk b o (by simpa using hb) e) f0 f1 f3 f4 f5;refine⟨_,rfl,Dr (s:={s with heap:=h',toks:=tk}) (n:="range_iterator") st' rfl rfl (by decide) ⟨.int (lo+i),H,I1,⟨t,?_⟩,⟨rfl,rfl⟩,st',fun b hb=>(hf b hb).1⟩⟩;rw[Int.mul_one]
 done:=by intro X hP hw hK hc i pins s σ H E I hf st hg;subst hP hw hK;obtain⟨f0,f1,f2,f3,f4,f5⟩:=hf it (by simp);exact wpAny_pyNext_range_end (I.ok.hd hc) st (by have:n<=i:=hg;omega) fun h' eb=>⟨rfl,I.turned (t':=s.toks) (fun b o hb e=>eb b o hb e) f0 f1 f3 f4 f5⟩
 self:=fun _ _ _ _ _ st h=>wpAny_pyIter_rangeiter st h
end L2
namespace L2
open PySem PySem.Spec PyProof.Rows
section
variable{X:Cx}{tg:Expr}
theorem tY{pins:List (Addr×Obj)}{σ:St}{H:Hp}{s:Shared}{R:It->Hp->Prop}{E:Value->Shared->Prop}{lo hi:Int}{t u v:Tok}{tk:Nat}(I:Inv X pins σ H s)(h1:-(2^62)<=lo)(h2:lo<2^62)(h3:-(2^62)<=hi)(h4:hi<2^62)(q:R (Ti lo (hi-lo).toNat) H):wpAny (model X.prog X.w) X.A (pyIter (.ref s.heap.objs.size)) (PIE X pins σ tg R) E {s with heap:=s.heap.push {cls:=.type "range",data:=.fields #[.int lo t,.int hi u,.int 1 v]},toks:=tk}:=by
 refine wpAny_pyIter_range (IsRange.new ..) (small_one h1 h2 h3 h4) ?_;have I1:Inv X pins σ H {s with heap:=s.heap.push {cls:=.type "range",data:=.fields #[.int lo t,.int hi u,.int 1 v]},toks:=tk}:=I.kept fun b o e=>Heap.get?_push_of_some _ e;refine⟨(s.heap.push {cls:=.type "range",data:=.fields #[.int lo t,.int hi u,.int 1 v]}).objs.size,[(s.heap.push {cls:=.type "range",data:=.fields #[.int lo t,.int hi u,.int 1 v]}).objs.size],_,_,H,rfl,I1.kept (t':=tk) fun b o e=>Heap.get?_push_of_some _ e,xj _ lo (hi-lo).toNat,?_,fun b hb=>?_,q⟩
 . have e1:lo+((0:Nat):Int)*1=lo:=by simp
   have e2:(((hi-lo).toNat:Nat):Int)-((0:Nat):Int)=Builtin.Range.rangeSize lo hi 1:=by rw[rangeSize_one];split<;>omega
   show IsRangeIter _ _ (lo+((0:Nat):Int)*1) ((((hi-lo).toNat:Nat):Int)-((0:Nat):Int)) 1;rw[e1,e2];exact Heap.get?_push_size _ rfl
 . have e:b=(s.heap.push {cls:=.type "range",data:=.fields #[.int lo t,.int hi u,.int 1 v]}).objs.size:=by simpa using hb
   subst e;exact I1.zA (Nat.le_refl _) (I1.hok.fresh (Nat.le_refl _))
noncomputable def Td(ta:TA):TI:=fun σ H R=>ta σ H fun vs H1=>∃j:Int,vs=[.int j]/\-(2^62)<=j/\j<2^62/\R (Ti 0 j.toNat) H1
noncomputable def T7(ta:TA):TI:=fun σ H R=>ta σ H fun vs H1=>∃i j:Int,vs=[.int i,.int j]/\(-(2^62)<=i/\i<2^62/\-(2^62)<=j/\j<2^62)/\R (Ti i (j-i).toNat) H1
theorem zG{a:Expr}{ta:TA}{p pos:Pos}(hg:Gl X "range")(hm:X.mg "range"=none)(ha:PA X [a] ta)(hs:starEach [a] X.env=[(false,eval a X.env)]:=by rfl):PI X tg (.Call (.Name "range" p) [a] [] pos) (Td ta):=by intro pins s σ H R I h;refine Call_ (gH I hg hm boot_range (PyProof.Rows.callWith_type1 (cG (ha pos pins s σ H _ I h) fun us s1⟨vs,H1,I1,r1,q1⟩=>?_) hs rfl));obtain⟨j,e,q1,q2,q⟩:=q1;subst e;cases r1 with|cons r rr=>cases rr;obtain⟨t,rfl⟩:=r;exact call_range_1 (tY I1 (by omega) (by omega) q1 q2 (by simpa using q))
theorem zU{a b:Expr}{ta:TA}{p pos:Pos}(hg:Gl X "range")(hm:X.mg "range"=none)(ha:PA X [a,b] ta)(hs:starEach [a,b] X.env=[(false,eval a X.env),(false,eval b X.env)]:=by rfl)(hs2:starEach [b] X.env=[(false,eval b X.env)]:=by rfl):PI X tg (.Call (.Name "range" p) [a,b] [] pos) (T7 ta):=by intro pins s σ H R I h;refine Call_ (gH I hg hm boot_range (PyProof.Rows.callWith_type1 (cG (ha pos pins s σ H _ I h) fun us s1⟨vs,H1,I1,r1,q1⟩=>?_) (by rw[hs,hs2]) (by rw[hs2];rfl)));obtain⟨i,j,e,⟨q1,q2,q3,q4⟩,q⟩:=q1;subst e;cases r1 with|cons r rr=>cases rr with|cons r' rr=>cases rr;obtain⟨t,rfl⟩:=r;obtain⟨t',rfl⟩:=r';exact call_range_2 (tY I1 q1 q2 q3 q4 q)
noncomputable def Z6(wi:TI)(g:TG)(tb:TS):TS:=fun D σ H=>wi σ H fun J H1=>∃W:Nat->Nat->St->Hp->Prop,(∃m,W 0 m σ H1)/\∀i m σ H,W i m σ H->(J.stop i H/\D.nx σ H)\/(J.go i H/\∃N:St->Hp->Prop,(∀σ' H',N σ' H'->∃m',m'<m/\W (i+1) m' σ' H')/\∀x H',J.FT i H x H'->g x σ H' fun σ2 H2=>tb {D with nx:=N,ct:=N,bk:=D.nx} σ2 H2)
noncomputable def nU(fp:List Addr)(h:Heap):List (Addr×Obj):=fp.filterMap fun b=>(h.get? b).map fun o=>(b,o)
theorem gO{fp:List Addr}{h:Heap}{b:Addr}{o:Obj}(hb:b∈fp)(e:h.get? b=some o):(b,o)∈nU fp h:=List.mem_filterMap.mpr ⟨b,hb,by rw[e];rfl⟩
theorem zY{fp:List Addr}{h:Heap}{p:Addr×Obj}(hp:p∈nU fp h):p.1∈fp/\h.get? p.1=some p.2:=by obtain⟨b,hb,e⟩:=List.mem_filterMap.mp hp;cases q:h.get? b with|none=>rw[q]at e;cases e|some o=>rw[q]at e;have e':(b,o)=p:=Option.some.inj e;subst e';exact⟨hb,q⟩
theorem Inv.pinned{pins:List (Addr×Obj)}{σ:St}{H:Hp}{s:Shared}{fp:List Addr}(I:Inv X pins σ H s)(hf:∀b∈fp,lO X pins H b)(ho:∀b∈fp,∃o,s.heap.get? b=some o/\∀v,o.data≠.cell v):Inv X (pins++nU fp s.heap) σ H s:=I.yM fun p hp=>(List.mem_append.mp hp).elim (fun z=>I.pin p (List.mem_append_right _ z)) fun z=>by obtain⟨hb,e⟩:=zY z;obtain⟨f0,f1,f2,_⟩:=hf p.1 hb;obtain⟨o,e',d⟩:=ho p.1 hb;rw[e]at e';cases e';exact⟨e,f0,f1,f2,d⟩
theorem Inv.j7{pins pl:List (Addr×Obj)}{σ:St}{H:Hp}{s:Shared}(I:Inv X (pins++pl) σ H s):Inv X pins σ H s:=I.yM fun p hp=>I.pin p (List.mem_append_right _ (List.mem_append_left _ hp))
theorem N7{iter:Expr}{body:List Stmt}{wi:TI}{g:TG}{tb:TS}{pos:Pos}(hp:PassesOwn (model X.prog X.w) X.A X.env X.xe)(hc:X.calm=true)(hi:PI X tg iter wi)(hg:PG X tg g)(hb:mU X body tb)(hs:∀x,foldedSetIterable iter X.env x=pure x:=by intro _;rfl):PS X (.For tg iter body [] pos) (Z6 wi g tb):=by
 intro pins s σ H D I h;refine wpAny_For (cG (hi pins s σ H _ I h) fun v s1 h1=>cG h1 fun itv s2 h2=>?_) hs;obtain⟨it,fp,tn,J,H2,e,I2,T,st2,f2,W,⟨m0,w0⟩,turn⟩:=h2;subst e--what stays true of the iterator's objects through the loop
 have stat:∀{H':Hp},(∀b∈fp,H' b=none)->∀b∈fp,lO X pins H' b:=fun hn b hb=>⟨hn b hb,(f2 b hb).2⟩;refine codeAny_forLoop_any (fun n s'=>∃i σ' H',Inv X pins σ' H' s'/\tn i s'.heap/\(∀b∈fp,H' b=none)/\W i n σ' H') ?_ m0 ⟨0,σ,H2,I2,st2,fun b hb=>(f2 b hb).1,w0⟩;rintro n s3⟨i,σ3,H3,I3,st3,fr3,w3⟩;rcases turn i n σ3 H3 w3 with⟨stop,qn⟩|⟨go,N,hN,step⟩;.refine wpAny_passesOwn hp (cG (T.done X rfl rfl rfl hc i pins s3 σ3 H3 X.xe I3 (stat fr3) st3 stop) fun r s4⟨hr,I4⟩=>?_);subst hr;exact wpAny_execs_nil ⟨σ3,H3,I4,qn⟩
 . refine wpAny_passesOwn hp (cG (T.item X rfl rfl rfl hc i pins s3 σ3 H3 X.xe I3 (stat fr3) st3 go) fun r s4⟨u,hr,h4⟩=>?_);subst hr;refine wpAny_passesOwn hp (cG h4 fun _ s5⟨x,H5,I5,r5,y5,Jv,fr5⟩=>?_);have I5':=I5.pinned (stat fr5) (T.obj _ _ Jv);refine wpAny_passesOwn hp (cG (hg _ s5 σ3 H5 x u _ I5' r5 (step x H5 y5)) fun _ s6⟨σ6,H6,I6,q6⟩=>?_);refine wpAny_passesOwn hp (cG (hb _ s6 σ6 H6 _ I6 q6) fun f s7 q7=>?_);have again:∀{σ7:St}{H7:Hp},Inv X (pins++nU fp s5.heap) σ7 H7 s7->N σ7 H7->∃m,m<n/\∃i σ' H',Inv X pins σ' H' s7/\tn i s7.heap/\(∀b∈fp,H' b=none)/\W i m σ' H':=fun{σ7 H7}I7 n7=>by obtain⟨m',hm,w7⟩:=hN σ7 H7 n7;refine⟨m',hm,i+1,σ7,H7,I7.j7,T.keep _ _ _ Jv fun b hb o e=>(I7.pin (b,o) (List.mem_append_right _ (List.mem_append_right _ (gO hb e)))).1,fun b hb=>?_,w7⟩;obtain⟨o,e,d⟩:=T.obj _ _ Jv b hb;exact(I7.pin (b,o) (List.mem_append_right _ (List.mem_append_right _ (gO hb e)))).2.1
   cases f with|next=>obtain⟨σ7,H7,I7,n7⟩:=q7;exact again I7 n7|cont=>obtain⟨σ7,H7,I7,n7⟩:=q7;exact again I7 n7|brk=>obtain⟨σ7,H7,I7,q7⟩:=q7;exact⟨σ7,H7,I7.j7,q7⟩|ret v=>obtain⟨x7,σ7,H7,I7,r7,q7⟩:=q7;exact⟨x7,σ7,H7,I7.j7,r7,q7⟩
end
end L2
namespace L2
open PySem PySem.Spec PyProof.Rows
noncomputable abbrev R2:=V->V->Hp->VK->Prop
noncomputable def dR(X:Cx)(f:Value->Value->Sem Value)(r:R2):Prop:=∀(pins:List (Addr × Obj))(s:Shared)(σ:St)(H:Hp)(x y:V)(v u:Value)(Q:VK),Inv X pins σ H s->RelV x v->RelV y u->r x y H Q->wpAny (model X.prog X.w) X.A (f v u) (EP X pins σ Q) X.xe s
noncomputable def Yb(X:Cx)(f:Value->Sem Value)(r:V->Hp->VK->Prop):Prop:=∀(pins:List (Addr × Obj))(s:Shared)(σ:St)(H:Hp)(x:V)(v:Value)(Q:VK),Inv X pins σ H s->RelV x v->r x H Q->wpAny (model X.prog X.w) X.A (f v) (EP X pins σ Q) X.xe s
noncomputable def di(X:Cx)(f:Value)(r:List V->Hp->VK->Prop):Prop:=∀(pins:List (Addr × Obj))(s:Shared)(σ:St)(H:Hp)(xs:List V)(us:List Value)(Q:VK),Inv X pins σ H s->Vals xs us->r xs H Q->wpAny (model X.prog X.w) X.A (call f us) (EP X pins σ Q) X.xe s
noncomputable def Rb(r:R2)(ta tb:TE):TE:=fun σ H Q=>ta σ H fun x H1=>tb σ H1 fun y H2=>r x y H2 Q
noncomputable def tUn(r:V->Hp->VK->Prop)(ta:TE):TE:=fun σ H Q=>ta σ H fun x H1=>r x H1 Q
noncomputable def rI(C:Int->Int->Prop)(g:Int->Int->V):R2:=fun x y H Q=>∃i j,x=.int i/\y=.int j/\C i j/\Q (g i j) H
noncomputable def Fo(g:Int->Int->V):R2:=fun x y H Q=>∃i j,x=.int i/\y=.int j/\Q (g i j) H
noncomputable def rU(g:Int->V):V->Hp->VK->Prop:=fun x H Q=>∃i,x=.int i/\Q (g i) H
section
variable{X:Cx}{a b c:Expr}{ta tb tc:TE}{pos:Pos}
theorem K7(ha:PE X a ta)(hb:PE X b tb){pins:List (Addr×Obj)}{s:Shared}{σ:St}{H:Hp}{R:V->V->Hp->Prop}(I:Inv X pins σ H s)(h:ta σ H fun x H1=>tb σ H1 fun y H2=>R x y H2){Q:Value->Shared->Prop}{f:Value->Value->Sem Value}(hf:∀v u s2 x y H2,Inv X pins σ H2 s2->RelV x v->RelV y u->R x y H2->wpAny (model X.prog X.w) X.A (f v u) Q X.xe s2):wpAny (model X.prog X.w) X.A (eval a X.env) (fun v s₁=>wpAny (model X.prog X.w) X.A (eval b X.env) (fun u s₂=>wpAny (model X.prog X.w) X.A (f v u) Q X.xe s₂) X.xe s₁) X.xe s:=by refine cG (ha pins s σ H _ I h) fun v s1⟨x,H1,I1,r1,q1⟩=>?_;refine cG (hb pins s1 σ H1 _ I1 q1) fun u s2⟨y,H2,I2,r2,q2⟩=>?_;exact hf v u s2 x y H2 I2 r1 r2 q2
theorem Th{op:Operator}{r:R2}(ho:dR X (binaryOp op) r)(ha:PE X a ta)(hb:PE X b tb):PE X (.BinOp a op b pos) (Rb r ta tb):=by intro pins s σ H Q I h;exact wpAny_BinOp (K7 ha hb I h fun v u s2 x y H2 I2 rx ry q=>ho pins s2 σ H2 x y v u Q I2 rx ry q)
theorem Vl{op:UnaryOp}{r:V->Hp->VK->Prop}(ho:Yb X (unaryOp op) r)(ha:PE X a ta):PE X (.UnaryOp op a pos) (tUn r ta):=by intro pins s σ H Q I h;exact UnaryOp_ (cG (ha pins s σ H _ I h) fun v s1⟨x,H1,I1,r1,q1⟩=>ho pins s1 σ H1 x v Q I1 r1 q1)
theorem Z7{f:Value->Value->Sem Value}{C:Int->Int->Prop}{g:Int->Int->Int}(rule:∀(i j:Int)(t u:Tok)(s:Shared)(Q:Value->Shared->Prop)(E:Value->Shared->Prop),C i j->Q (.int (g i j) s.toks) {s with toks:=s.toks+1}->wpAny (model X.prog X.w) X.A (f (.int i t) (.int j u)) Q E s):dR X f (rI C fun i j=>.int (g i j)):=by intro pins s σ H x y v u Q I rx ry h;obtain⟨i,j,rfl,rfl,hc,q⟩:=h;obtain⟨t,rfl⟩:=rx;obtain⟨t',rfl⟩:=ry;exact rule i j t t' s _ _ hc ⟨.int (g i j),H,I.tok _,⟨_,rfl⟩,q⟩
theorem S7{f:Value->Value->Sem Value}{g:Int->Int->Int}(rule:∀(i j:Int)(t u:Tok)(s:Shared)(Q:Value->Shared->Prop)(E:Value->Shared->Prop),Q (.int (g i j) s.toks) {s with toks:=s.toks+1}->wpAny (model X.prog X.w) X.A (f (.int i t) (.int j u)) Q E s):dR X f (Fo fun i j=>.int (g i j)):=by intro pins s σ H x y v u Q I rx ry h;obtain⟨i,j,rfl,rfl,q⟩:=h;obtain⟨t,rfl⟩:=rx;obtain⟨t',rfl⟩:=ry;exact rule i j t t' s _ _ ⟨.int (g i j),H,I.tok _,⟨_,rfl⟩,q⟩
theorem G9{f:Value->Value->Sem Value}{g:Int->Int->Bool}(rule:∀(i j:Int)(t u:Tok)(s:Shared)(Q:Value->Shared->Prop)(E:Value->Shared->Prop),Q (.bool (g i j)) s->wpAny (model X.prog X.w) X.A (f (.int i t) (.int j u)) Q E s):dR X f (Fo fun i j=>.bl (g i j)):=by intro pins s σ H x y v u Q I rx ry h;obtain⟨i,j,rfl,rfl,q⟩:=h;obtain⟨t,rfl⟩:=rx;obtain⟨t',rfl⟩:=ry;exact rule i j t t' s _ _ ⟨.bl (g i j),H,I,rfl,q⟩
noncomputable def Yp(i j:Int):Prop:=0<=j/\j<=1000000/\i.natAbs<2^64
noncomputable def Nk(i j:Int):Prop:=(-(2^64)<i/\i<2^64)\/(-(2^64)<j/\j<2^64)
theorem Nk.ok{i j:Int}(h:Nk i j):IntMulOk i j:=by
 rcases h with⟨h1,h2⟩|⟨h1,h2⟩;.exact .of_left (intBits_le_64 h1 h2)
 .exact .of_right (intBits_le_64 h1 h2)
theorem Ot:dR X (binaryOp .Add) (Fo fun i j=>.int (i+j)):=S7 fun _ _ _ _ _ _ _ q=>add_int q
theorem K3:dR X (binaryOp .Sub) (Fo fun i j=>.int (i-j)):=S7 fun _ _ _ _ _ _ _ q=>sub_int q
theorem MK:dR X (binaryOp .Mult) (rI Nk fun i j=>.int (i*j)):=Z7 fun _ _ _ _ _ _ _ hc q=>mul_int q hc.ok
theorem Nz:dR X (binaryOp .Mod) (rI (fun _ j=>0<j) fun i j=>.int (i%j)):=Z7 fun i j _ _ _ _ _ hc q=>by have h1:(0:Int)<j:=hc;exact mod_int' (by omega) (by rw[Int.fmod_eq_emod_of_nonneg i (by omega)];exact q)
theorem LC:dR X (binaryOp .Pow) (rI Yp fun i j=>.int (i^j.toNat)):=Z7 fun _ _ _ _ _ _ _ hc q=>pow_int_small hc.1 hc.2.1 hc.2.2 q
theorem unI{f:Value->Sem Value}{g:Int->Int}(rule:∀(i:Int)(t:Tok)(s:Shared)(Q:Value->Shared->Prop)(E:Value->Shared->Prop),Q (.int (g i) s.toks) {s with toks:=s.toks+1}->wpAny (model X.prog X.w) X.A (f (.int i t)) Q E s):Yb X f (rU fun i=>.int (g i)):=by intro pins s σ H x v Q I rx h;obtain⟨i,rfl,q⟩:=h;obtain⟨t,rfl⟩:=rx;exact rule i t s _ _ ⟨.int (g i),H,I.tok _,⟨_,rfl⟩,q⟩
theorem Li:Yb X (unaryOp .USub) (rU fun i=>.int (-i)):=unI fun _ _ _ _ _ q=>neg_int q
end
section
variable{X:Cx}{a b c:Expr}{ta tb tc:TE}{pos:Pos}
theorem DY{pins:List (Addr×Obj)}{σ:St}{H:Hp}{s:Shared}{Q:VK}{k k':Bool}(I:Inv X pins σ H s)(q:Q (.bl k) H)(e:k=k'):EP X pins σ Q (.bool k') s:=by subst e;exact⟨.bl k,H,I,rfl,q⟩
theorem TJ:dR X (compareOp .Lt) (Fo fun i j=>.bl (decide (i<j))):=G9 fun _ _ _ _ _ _ _ q=>lt_int q
theorem Ut:dR X (compareOp .LtE) (Fo fun i j=>.bl (decide (i<=j))):=G9 fun _ _ _ _ _ _ _ q=>le_int q
theorem Uh:dR X (compareOp .Gt) (Fo fun i j=>.bl (decide (j<i))):=G9 fun _ _ _ _ _ _ _ q=>gt_int q
theorem T9:dR X (compareOp .GtE) (Fo fun i j=>.bl (decide (j<=i))):=G9 fun _ _ _ _ _ _ _ q=>ge_int q
theorem Om:dR X (compareOp .Is) (fun x y H Q=>y=.non/\Q (.bl (decide (x=.non))) H):=by intro pins s σ H x y v u Q I rx ry h;obtain⟨rfl,q⟩:=h;cases ry;refine is_none_gen (DY I q ?_);cases x<;>first|(cases rx;rfl)|(obtain⟨t,rfl⟩:=rx;rfl)
theorem Jb:dR X (compareOp .IsNot) (fun x y H Q=>y=.non/\Q (.bl (!decide (x=.non))) H):=by intro pins s σ H x y v u Q I rx ry h;obtain⟨rfl,q⟩:=h;cases ry;refine isnot_none_gen (DY I q ?_);cases x<;>first|(cases rx;rfl)|(obtain⟨t,rfl⟩:=rx;rfl)
theorem aP(b:Expr){op:CmpOp}(h:op≠.In:=by decide)(h2:op≠.NotIn:=by decide):behindInMarks op b=false:=by
 have e1:(op==CmpOp.In)=false:=by cases op<;>first|rfl|exact absurd rfl h
 have e2:(op==CmpOp.NotIn)=false:=by cases op<;>first|rfl|exact absurd rfl h2
 cases b<;>simp[behindInMarks,e1,e2]
theorem Gv{op:CmpOp}{r:R2}(ho:dR X (compareOp op) r)(ha:PE X a ta)(hb:PE X b tb)(hm:behindInMarks op b=false):PE X (.Compare a [op] [b] pos) (Rb r ta tb):=by intro pins s σ H Q I h;exact wpAny_Compare1 (K7 ha hb I h fun v u s2 x y H2 I2 rx ry q=>ho pins s2 σ H2 x y v u Q I2 rx ry q) hm
noncomputable def JT(t:TE):TT:=fun σ H Q=>t σ H fun x H'=>∃k,x=.bl k/\Q k H'
theorem Ge{op:CmpOp}{r:R2}(ho:dR X (compareOp op) r)(ha:PE X a ta)(hb:PE X b tb)(hm:behindInMarks op b=false):PT X (.Compare a [op] [b] pos) (JT (Rb r ta tb)):=by intro pins s σ H Q I h;refine wpAny_isTrue_Compare1 (cG (ha pins s σ H _ I h) fun v s1⟨x,H1,I1,r1,q1⟩=>cG (hb pins s1 σ H1 _ I1 q1) fun u s2⟨y,H2,I2,r2,q2⟩=>cG (ho pins s2 σ H2 x y v u _ I2 r1 r2 q2) fun c s3⟨z,H3,I3,r3,k,e,q3⟩=>?_) hm;subst e;cases r3;exact wpAny_truthy_bool ⟨H3,I3,q3⟩
noncomputable def BV(r r':R2)(ta tb tc:TE):TE:=fun σ H Q=>ta σ H fun x H1=>tb σ H1 fun y H2=>r x y H2 fun z H3=>∃k,z=.bl k/\(if k=true then tc σ H3 fun w' H4=>r' y w' H4 Q else Q (.bl false) H3)
theorem Eg{op op':CmpOp}{r r':R2}(ho:dR X (compareOp op) r)(ho':dR X (compareOp op') r')(ha:PE X a ta)(hb:PE X b tb)(hc:PE X c tc)(hm:lastMarks [op,op'] [b,c]=false:=by with_unfolding_all rfl):PT X (.Compare a [op,op'] [b,c] pos) (JT (BV r r' ta tb tc)):=by intro pins s σ H Q I h;refine isTrue_chain (cG (ha pins s σ H _ I h) fun v s1⟨x,H1,I1,r1,q1⟩=>test_link (cG (hb pins s1 σ H1 _ I1 q1) fun u s2⟨y,H2,I2,r2,q2⟩=>cG (ho pins s2 σ H2 x y v u _ I2 r1 r2 q2) fun d s3⟨z,H3,I3,r3,k,e,q3⟩=>?_)) hm;subst e;cases r3;refine wpAny_truthy_bool ?_;cases k with|false=>obtain⟨k',e',q'⟩:=q3;cases e';exact ite_ff ⟨H3,I3,q'⟩|true=>refine ite_tt (test_last (cG (hc pins s3 σ H3 _ I3 q3) fun w' s4⟨z',H4,I4,r4,q4⟩=>cG (ho' pins s4 σ H4 y z' u w' _ I4 r2 r4 q4) fun d' s5⟨z2,H5,I5,r5,k2,e2,q5⟩=>?_));subst e2;cases r5;exact wpAny_truthy_bool ⟨H5,I5,q5⟩
theorem sH:(sizeLine:Nat)<2^63:=by rw[sizeLine_eq];decide
theorem v7:dR X (binaryOp .Add) (fun x y H Q=>∃i j,x=.str i/\y=.str j/\i.length+j.length<=sizeLine/\Q (.str (i++j)) H):=by intro pins s σ H x y v u Q I rx ry h;obtain⟨i,j,rfl,rfl,hz,q⟩:=h;obtain⟨t,rfl⟩:=rx;obtain⟨t',rfl⟩:=ry;exact add_str (fun t' tk=>⟨.str (i++j),H,I.tok _,⟨_,rfl⟩,q⟩) hz
theorem vals1{x:V}{us:List Value}(r:Vals [x] us):∃u,us=[u]/\RelV x u:=by cases r with|cons r1 r2=>cases r2;exact⟨_,rfl,r1⟩
theorem vals2{x y:V}{us:List Value}(r:Vals [x,y] us):∃u w',us=[u,w']/\RelV x u/\RelV y w':=by cases r with|cons r1 r2=>cases r2 with|cons r3 r4=>cases r4;exact⟨_,_,rfl,r1,r3⟩
theorem Ah(hc:X.calm=true):di X (.builtin "min") (fun xs H Q=>∃i j,xs=[.int i,.int j]/\Q (.int (if j<i then j else i)) H):=by
 intro pins s σ H xs us Q I r h;obtain⟨i,j,rfl,q⟩:=h;obtain⟨u,w',rfl,⟨t,rfl⟩,⟨t',rfl⟩⟩:=vals2 r;refine min_two_ints (I.ok.hd hc) fun h' tk k=>⟨_,H,I.kept k,?_,q⟩;by_cases hj:j<i;.rw[if_pos hj,if_pos hj];exact⟨_,rfl⟩
 .rw[if_neg hj,if_neg hj];exact⟨_,rfl⟩
end
end L2
namespace L2
open PySem PySem.Spec PyProof.Rows
end L2
namespace L2
open PySem PySem.Spec PyProof.Rows
structure gM(k:Nat)(A:Around):Prop where
 hd:A.handled=none
 dp:A.depth+3*k+5<recursionLimit
 un:A.units+16*k+200<cLine
theorem gM.deeper{k:Nat}{A:Around}(r:gM (k+1) A)(env:Env):gM k (A.deeper env):=⟨r.hd,by have:=r.dp;show A.depth+1+3*k+5<_;omega,by have:=r.un;show A.units+3+16*k+200<_;omega⟩
theorem gM.depth{k:Nat}{A:Around}(r:gM k A):A.depth<recursionLimit:=by have:=r.dp;omega
noncomputable def aak:TA:=fun _ H Q=>Q [] H
noncomputable def Us(ta:TE)(tr:TA):TA:=fun σ H Q=>ta σ H fun x H1=>tr σ H1 fun xs H2=>Q (x::xs) H2
section
variable{X:Cx}{e:Expr}{es:List Expr}{te:TE}{t:TA}{pos:Pos}
theorem cQ:PA X [] aak:=fun _ _ _ _ H Q I h=>Calls.spliced_nil ⟨[],H,I,.nil,h⟩
theorem aW(ha:PE X e te)(hr:PA X es t)(hs:starEach (e::es) X.env=(false,eval e X.env)::starEach es X.env:=by rfl):PA X (e::es) (Us te t):=by intro pos pins s σ H Q I h;rw[hs];show wpAny _ _ (spliced ((false,eval e X.env)::backTo pos (starEach es X.env))) _ _ s;refine Calls.spliced_cons (cG (ha pins s σ H _ I h) fun u s1⟨x,H1,I1,r1,q1⟩=>?_);exact cG (hr pos pins s1 σ H1 _ I1 q1) fun us s2⟨xs,H2,I2,r2,q2⟩=>⟨x::xs,H2,I2,.cons r1 r2,q2⟩
noncomputable def Z2(t:TA):TE:=fun σ H Q=>t σ H fun xs H1=>xs.length<=sizeLine/\∀p,H1 p=none->Q (.ref p) (upd H1 p (.tup xs))
noncomputable def aab(t:TA):TE:=fun σ H Q=>t σ H fun xs H1=>xs.length<=sizeLine/\∀p,H1 p=none->Q (.ref p) (upd H1 p (.lst xs))
theorem wX{x1}(h:PA X es t):PE X (.Tuple es x1 pos) (Z2 t):=by intro pins s σ H Q I hq;refine wpAny_Tuple_spliced (cG (h pos pins s σ H _ I hq) fun us s1⟨xs,H1,I1,r,z,q⟩=>⟨by rw[<-r.length];exact z,?_⟩);have hf:H1 s1.heap.objs.size=none:=I1.hok.fresh (Nat.le_refl _);refine⟨.ref s1.heap.objs.size,upd H1 s1.heap.objs.size (.tup xs),I1.laid (t':=s1.toks) (fun b u e=>Heap.get?_push_of_some _ e) (Nat.le_refl _) ?_,rfl,q _ hf⟩;exact⟨z,us,r,⟨_,Heap.get?_push_size _ rfl,rfl,_,rfl⟩⟩
theorem Qc(h:PA X es t):PE X (.List es pos) (aab t):=by intro pins s σ H Q I hq;refine wpAny_List_spliced (cG (h pos pins s σ H _ I hq) fun us s1⟨xs,H1,I1,r,z,q⟩=>⟨by rw[<-r.length];exact z,?_⟩);have hf:H1 s1.heap.objs.size=none:=I1.hok.fresh (Nat.le_refl _);refine⟨.ref s1.heap.objs.size,upd H1 s1.heap.objs.size (.lst xs),I1.laid (t':=s1.toks) (fun b u e=>Heap.get?_push_of_some _ e) (Nat.le_refl _) ?_,rfl,q _ hf⟩;exact⟨z,us,0,r,Heap.get?_push_size _ rfl⟩
end
noncomputable abbrev Sp:=List V->Hp->VK->XK->Prop
noncomputable abbrev Aw:=List Env->Hp->Shared->XK->Value->Shared->Prop
structure Iw(P:Program)(w:World)(K:PySem.W.Frag)(mg:Str->Option Value)(base:Heap)(A:Around)(outer:List Env)(s:Shared)(H:Hp):Prop where
 frames:A.frames=some outer
 mod:Mod K mg base
 bs:∀b o,base.get? b=some o->s.heap.get? b=some o/\H b=none
 Ax:base.objs.size<=s.heap.objs.size
 jK:s.heap.FunFrames base outer
 FQ:∀b∈frs outer,H b=none
 hok:jF P w H s.heap
 bare:AllBare s.gens
noncomputable def CE(outer:List Env)(P:Program)(w:World)(H:Hp)(s:Shared)(Q:VK)(u:Value)(s':Shared):Prop:=∃v H',s'.os=s.os/\AllBare s'.gens/\Un (frs outer) [] H H' s.heap s'.heap/\jF P w H' s'.heap/\RelV v u/\Q v H'
noncomputable def CR(CX:Aw)(outer:List Env)(P:Program)(w:World)(H:Hp)(s:Shared)(Q:VK)(E:XK)(r:Result)(s':Shared):Prop:=match r with|.ok (.ret u)=>CE outer P w H s Q u s'|.ok _=>False|.error e=>CX outer H s E e s'
structure cJ(P:Program)(w:World)(K:PySem.W.Frag)(mg:Str->Option Value)(base:Heap)(CX:Aw)(k:Nat)(f:Addr)(fd:FuncData)(ps:List Str)(sp:Sp):Prop where
 len:∀vs H Q E,sp vs H Q E->vs.length=ps.length
 run:∀(A:Around)(outer:List Env)(s:Shared)(H:Hp)(args:Args)(us:List Value)(vs:List V)(Q:VK)(E:XK),gM k A->Iw P w K mg base A outer s H->BindsTo s fd args (ps.zip us)->Vals vs us->sp vs H Q E->codeAny (model P w) A (.call (.ref f) args) (CR CX outer P w H s Q E) s
section
variable{X:Cx}{pins:List (Addr×Obj)}{σ:St}{H:Hp}{s s':Shared}
theorem Inv.env0(I:Inv X pins σ H s):Iw X.prog X.w X.K X.mg X.base X.A X.stack s H:=⟨I.ok.frames,I.ok.mod,I.bs,Nat.le_trans I.ok.Ax I.sz,I.stack,I.nM,I.hok,I.bare⟩
theorem Inv.after{Q:VK}{u:Value}(I:Inv X pins σ H s)(h:CE X.stack X.prog X.w H s Q u s'):EP X pins σ Q u s':=by obtain⟨v,H',os,bare,un,hok,r,q⟩:=h;obtain⟨hh,g,d,t,os'⟩:=s';obtain rfl:os'=s.os:=os;exact⟨v,H',I.call (h':=hh) (g':=g) (d':=d) (t':=t) (ch:=[]) un hok bare (fun b z=>absurd z (by simp)),r,q⟩
end
noncomputable def U9(sp:Sp)(Kv:List V)(E:XK)(t:TA):TE:=fun σ H Q=>t σ H fun vs H1=>sp (vs++Kv) H1 Q E
noncomputable def Binds(K:PySem.W.Frag)(fd:FuncData)(ps:List Str)(ds:List Value):Prop:=∀(s:Shared)(us:List Value),K.In s.heap->(us++ds).length=ps.length->BindsTo s fd ⟨us,[]⟩ (ps.zip (us++ds))
theorem Binds.all{K:PySem.W.Frag}{fd:FuncData}{ps:List Str}(h:∀us:List Value,us.length=ps.length->bindArgs fd ⟨us,[]⟩=pure (ps.zip us)):Binds K fd ps []:=fun s us _ hl=>by rw[List.append_nil]at hl ⊢;exact .of_eq (h us hl)
noncomputable def Passes(CX:Aw)(X:Cx)(E:XK):Prop:=∀(pins:List (Addr×Obj))(σ:St)(H:Hp)(s:Shared)(e:Value)(s':Shared),Inv X pins σ H s->CX X.stack H s E e s'->X.xe e s'
section
variable{X:Cx}{CX:Aw}{k:Nat}{f C:Addr}{fd:FuncData}{ps:List Str}{sp:Sp}{Kv:List V}{ds:List Value}{E:XK}{x m:Str}{p pos apos:Pos}{e o:Expr}{es:List Expr}{ta:TE}{t:TA}
theorem Mv{pins:List (Addr×Obj)}{σ:St}{H:Hp}{s:Shared}{Q:VK}{us:List Value}{vs:List V}(F:cJ X.prog X.w X.K X.mg X.base CX k f fd ps sp)(hr:gM k X.A)(hb:Binds X.K fd ps ds)(hd:Vals Kv ds)(hx:Passes CX X E)(I:Inv X pins σ H s)(r:Vals vs us)(h:sp (vs++Kv) H Q E):wpAny (model X.prog X.w) X.A (call (.ref f) us) (EP X pins σ Q) X.xe s:=by
 have r2:Vals (vs++Kv) (us++ds):=r.append hd;have hl:(us++ds).length=ps.length:=by rw[<-r2.length];exact F.len _ _ _ _ h
 refine wpAny_call (codeAny_mono (F.run X.A X.stack s H ⟨us,[]⟩ (us++ds) (vs++Kv) Q E hr I.env0 (hb s us I.Fv hl) r2 h) fun r s' hq=>?_);cases r with|error e=>exact hx pins σ H s e s' I hq|ok fl=>cases fl with|ret u=>exact I.after hq|next=>exact False.elim hq|brk=>exact False.elim hq|cont=>exact False.elim hq
theorem yu(F:cJ X.prog X.w X.K X.mg X.base CX k f fd ps sp)(hr:gM k X.A)(hg:Gl X x)(hm:X.mg x=some (.ref f))(hk:PySem.W.keepIn X.K (.ref f)=true)(hb:Binds X.K fd ps ds)(hd:Vals Kv ds)(hx:Passes CX X E)(ha:PA X (e::es) t)(hdb:(x==("__debug__":Str))=false:=by decide)(he:starEach (e::es) X.env=(false,eval e X.env)::starEach es X.env:=by rfl)(hpl:(backTo pos (starEach es X.env)).any (·.1)=false:=by rfl):PE X (.Call (.Name x p) (e::es) [] pos) (U9 sp Kv E t):=by intro pins s σ H Q I h;refine wpAny_Call_Name_kw (nP I hg hm ?_ hdb);refine PySem.W.callWith_K (h₀:=X.base) I.ok.mod.VM hk (cG (ha pos pins s σ H _ I h) fun us s1⟨vs,H1,I1,r,q⟩=>⟨I1.Fv,?_⟩) he hpl;exact Mv F hr hb hd hx I1 r q
end
structure bz(N P:List Str)(sc:Scope):Prop where
 kind:sc.kind=.function
 co:sc.isCoroutine=false
 gen:sc.isGenerator=false
 nd:N.Nodup
 pre:N.take P.length=P
 par:∀x∈P,sc.names.lookup x=some .local\/sc.names.lookup x=some .cell
 Qe:∀y∈sc.names,y.2≠.free
theorem qt{kindOf:Str->Option NameKind}{x:Str}:∀{binds:List (Str×Value)}{m:Str->Option Value},(∀v,(x,v)∉binds)->bindL kindOf binds m x=m x
 |[],_,_=>rfl|(n,v)::r,m,h=>by
   unfold bindL;rw[qt fun w hw=>h w (List.mem_cons_of_mem _ hw)];split
   . have:x≠n:=by rintro rfl;exact h v List.mem_cons_self
     simp[this]
   .rfl
theorem ql{kindOf:Str->Option NameKind}{x:Str}:∀{binds:List (Str×Value)}{m:Str->Option Value},(∀v,(x,v)∉binds)->bindC kindOf binds m x=m x
 |[],_,_=>rfl|(n,v)::r,m,h=>by
   unfold bindC;rw[ql fun w hw=>h w (List.mem_cons_of_mem _ hw)];split;.rfl
   . have:x≠n:=by rintro rfl;exact h v List.mem_cons_self
     simp[this]
theorem qC{kindOf:Str->Option NameKind}{x:Str}{v:Value}:∀{P:List Str}{vs:List Value}{i:Nat}{m:Str->Option Value},P.Nodup->P[i]?=some x->vs[i]?=some v->kindOf x=some .local->bindL kindOf (P.zip vs) m x=some v|[],_,_,_,_,h,_,_=>by simp at h|_::_,[],_,_,_,_,h,_=>by simp at h|p::P,w::vs,0,m,nd,h1,h2,hk=>by simp at h1 h2;subst h1;subst h2;show bindL kindOf ((p,w)::P.zip vs) m p=_;unfold bindL;rw[qt fun v hv=>(List.nodup_cons.mp nd).1 (List.of_mem_zip hv).1,if_pos hk];simp|p::P,w::vs,i+1,m,nd,h1,h2,hk=>by show bindL kindOf ((p,w)::P.zip vs) m x=_;unfold bindL;exact qC (i:=i) (List.nodup_cons.mp nd).2 (by simpa using h1) (by simpa using h2) hk
theorem qy{kindOf:Str->Option NameKind}{x:Str}{v:Value}:∀{P:List Str}{vs:List Value}{i:Nat}{m:Str->Option Value},P.Nodup->P[i]?=some x->vs[i]?=some v->kindOf x≠some .local->bindC kindOf (P.zip vs) m x=some v|[],_,_,_,_,h,_,_=>by simp at h|_::_,[],_,_,_,_,h,_=>by simp at h|p::P,w::vs,0,m,nd,h1,h2,hk=>by simp at h1 h2;subst h1;subst h2;show bindC kindOf ((p,w)::P.zip vs) m p=_;unfold bindC;rw[ql fun v hv=>(List.nodup_cons.mp nd).1 (List.of_mem_zip hv).1,if_neg hk];simp|p::P,w::vs,i+1,m,nd,h1,h2,hk=>by show bindC kindOf ((p,w)::P.zip vs) m x=_;unfold bindC;exact qy (i:=i) (List.nodup_cons.mp nd).2 (by simpa using h1) (by simpa using h2) hk
noncomputable def start(N:List Str)(vs:List V):St:=vs.map some++List.replicate (N.length-vs.length) none
noncomputable def lz(CX:Aw)(P:Program)(w:World)(K:PySem.W.Frag)(mg:Str->Option Value)(base:Heap)(N:List Str)(qual:Str)(scope:Scope)(f:Addr)(cd:Value)(A:Around)(outer:List Env)(s:Shared)(H:Hp)(E:XK):Cx where prog:=P;w:=w;K:=K;mg:=mg;base:=base;A:=A.deeper (envOfC qual scope s.heap.objs.size f cd);N:=N;s₀:=s;H₀:=H;env:=envOfC qual scope s.heap.objs.size f cd;outer:=outer;stack:=envOfC qual scope s.heap.objs.size f cd::outer;ex:=[];calm:=true;fn:=fun _=>true;pn:=[];xe:=fun e s'=>wpAny (model P w) (A.deeper (envOfC qual scope s.heap.objs.size f cd)) (leaving (envOfC qual scope s.heap.objs.size f cd) e) (fun _ s''=>CX outer H s E e s'') (fun e' s''=>CX outer H s E e' s'') s'
theorem uY{sc:Scope}{n:Nat}{x:Str}(h:sc.names.lookup x=some .cell):∃c,(cellsFrom n sc.names []).lookup x=some c:=by have q:=PySem.W.cellsFrom_some sc.names n [] (.inl h);exact Option.isSome_iff_exists.mp q
theorem zg{CX:Aw}{P:Program}{w:World}{K:PySem.W.Frag}{mg:Str->Option Value}{base:Heap}{N ps:List Str}{qual:Str}{scope:Scope}{f:Addr}{cd:Value}{A:Around}{outer:List Env}{s s1:Shared}{H:Hp}{E:XK}{us:List Value}{vs:List V}(S:bz N ps scope)(hd:A.handled=none)(e0:Iw P w K mg base A outer s H)(hl:vs.length=ps.length)(r:Vals vs us)(x:InCallC s s.heap.objs.size (bindL (envOfC qual scope s.heap.objs.size f cd).kindOf (ps.zip us) fun _=>none) (cellsFrom (s.heap.objs.size+1) scope.names []) (bindC (envOfC qual scope s.heap.objs.size f cd).kindOf (ps.zip us) fun _=>none) s1):Inv (lz CX P w K mg base N qual scope f cd A outer s H E) [] (start N vs) H s1:=by
 have hpl:ps.length<=N.length:=by have:=congrArg List.length S.pre;rw[List.length_take]at this;omega
 obtain⟨h1,tk,rfl,hk⟩:=x.done;have VP:∀b:Addr,b∉(lz CX P w K mg base N qual scope f cd A outer s H E).ex:=fun b z=>absurd (show b∈([]:List Addr)from z) (by simp);refine⟨⟨e0.mod,S.kind,rfl,rfl,Nat.le_refl _,fun y z c h1 h2=>?_,fun y hy=>?_,fun y c _ h=>?_,fun _=>hd,Around.frames_deeper e0.frames,.inr ⟨rfl,rfl⟩,fun b z=>absurd z (VP b),e0.bs,e0.Ax,fun b _ _=>VP b,fun b z=>absurd z (VP b),e0.jK,e0.FQ⟩,rfl,e0.bare,Un.kept hk,⟨_,x.toInCall.ns,fun i y v h1 h2 h3=>?_⟩,fun y c h=>⟨_,x.cell y c h⟩,e0.hok.fresh (Nat.le_refl _),fun y c h=>?_,fun p hp=>absurd (show p∈([]:List (Addr×Obj))from hp) (by simp),e0.hok.kept hk,?_⟩;.exact name_of_addr x.apart (PySem.mem_of_lookup h1) (PySem.mem_of_lookup h2)
 . have hy:scope.names.lookup y=some .cell\/scope.names.lookup y=some .free:=hy;rcases hy with hy|hy;.exact uY hy
   .exact absurd rfl (S.Qe _ (PySem.mem_of_lookup hy))
 .exact Nat.le_of_lt (x.above y c (PySem.mem_of_lookup h))
 . have hi:i<vs.length:=by
    unfold start at h2;by_cases hi:i<vs.length;.exact hi
    .rw[List.getElem?_append_right (by simpa using hi)]at h2;rw[List.getElem?_replicate]at h2;split at h2<;>cases h2
   have ha:vs[i]?=some v:=by unfold start at h2;rw[List.getElem?_append_left (by simpa using hi),List.getElem?_map]at h2;cases e:vs[i]?with|none=>rw[e]at h2;cases h2|some a=>rw[e]at h2;cases h2;rfl
   obtain⟨u,hu,rv⟩:=r.get ha;have hp:ps[i]?=some y:=by rw[<-S.pre,List.getElem?_take_of_lt (by omega)];exact h1
   have ndP:ps.Nodup:=by rw[<-S.pre];exact S.nd.sublist (List.take_sublist _ _)
   refine⟨u,rv,?_⟩;rcases S.par y (List.mem_of_getElem? hp)with k|k;.exact .inl ⟨k,qC ndP hp hu k⟩
   .obtain⟨c,e⟩:=uY (n:=s.heap.objs.size+1) k;refine .inr ⟨.inl k,c,e,?_⟩;have q:=x.cell y c e;rw[qy ndP hp hu (by show scope.names.lookup y≠_;rw[k];decide)]at q;exact q
 .exact e0.hok.fresh (Nat.le_of_lt (x.above y c (PySem.mem_of_lookup h)))
 .unfold start;show _=N.length;rw[List.length_append,List.length_map,List.length_replicate];omega
theorem Kq{CX:Aw}{P:Program}{w:World}{K:PySem.W.Frag}{mg:Str->Option Value}{base:Heap}{k:Nat}{f:Addr}{name qual:Str}{params:Arguments}{body:List Stmt}{scope:Scope}{dV kV doc pm cdv ct oc:Value}{an od:Option Addr}{osl:Array (Option Value)}{N ps:List Str}{sp:Sp}(lk:K.lookup f=some ⟨oc,od,.func (PySem.W.fnOf name qual params body scope dV kV doc pm an cdv ct),osl⟩)(hcd:PySem.W.codeIn K cdv qual=true)(S:bz N ps scope)(len:∀vs H Q E,sp vs H Q E->vs.length=ps.length)(hbody:∀(A:Around)(outer:List Env)(s:Shared)(H:Hp)(vs:List V)(Q:VK)(E:XK),gM k (A.deeper (envOfC qual scope s.heap.objs.size f cdv))->sp vs H Q E->∃t,mU (lz CX P w K mg base N qual scope f cdv A outer s H E) body t/\t {nx:=fun _ H'=>Q .non H',rt:=Q} (start N vs) H):cJ P w K mg base CX (k+1) f (PySem.W.fnOf name qual params body scope dV kV doc pm an cdv ct) ps sp:=by
 refine⟨len,fun A outer s H args us vs Q E hr e0 hb r hsp=>?_⟩;have hl:=len _ _ _ _ hsp;have KX:K.In s.heap:=e0.mod.VM.keeps fun b o e=>(e0.bs b o e).1;have lim:s.heap.NoLimit:=e0.mod.nolimit.keeps fun b o e=>(e0.bs b o e).1;have hkind:∀y∈ps.zip us,scope.names.lookup y.1=some .local\/(scope.names.lookup y.1=some .cell/\((cellsFrom (s.heap.objs.size+1) scope.names []).lookup y.1).isSome=true):=fun⟨n,v⟩hy=>by
  rcases S.par n (List.of_mem_zip hy).1 with q|q;.exact .inl q
  .exact .inr ⟨q,PySem.W.cellsFrom_some _ _ _ (.inl q)⟩
 refine codeAny_call_function hr.depth (KX _ _ lk) rfl S.co S.gen rfl (PySem.W.codeRec_of KX hcd) (hb _ _ _ _ ?_);refine wpAny_newFunctionEnv_cells S.kind hkind fun env he s1 x=>?_;subst he;refine⟨lim.keeps x.toInCall.keep,codeAny_func ?_⟩;obtain⟨t,ht,hq⟩:=hbody A outer s H vs Q E (hr.deeper _) hsp;have I:Inv (lz CX P w K mg base N qual scope f cdv A outer s H E) [] (start N vs) H s1:=zg S hr.hd e0 hl r x;refine wpAny_mono (ht [] s1 (start N vs) H _ I hq) (fun fl s' hs=>?_) fun e s' hs=>hs;have fin:∀{σ':St}{H':Hp}{v:V}{u:Value},Inv (lz CX P w K mg base N qual scope f cdv A outer s H E) [] σ' H' s'->RelV v u->Q v H'->CE outer P w H s Q u s':=fun{σ' H' v u}J rv q=>⟨v,H',J.os,J.bare,J.base,J.hok,rv,q⟩;cases fl with|ret u=>obtain⟨v,σ',H',J,rv,q⟩:=hs;exact fin J rv q|next=>obtain⟨σ',H',J,q⟩:=hs;exact fin (v:=V.non) (u:=Value.none) J rfl q|brk=>obtain⟨_,_,_,q⟩:=hs;exact False.elim q|cont=>obtain⟨_,_,_,q⟩:=hs;exact False.elim q
end L2
namespace L2
open PySem PySem.Spec PyProof.Rows
section
variable{X:Cx}{x:Str}{p pos:Pos}{e:Expr}{es:List Expr}{t:TA}{id T:String}{r:List V->Hp->VK->Prop}
noncomputable def Xc(r:List V->Hp->VK->Prop)(t:TA):TE:=fun σ H Q=>t σ H fun vs H1=>r vs H1 Q
theorem cW(hc:di X (.builtin id) r)(hg:Gl X x)(hm:X.mg x=none)(hv:bootBuiltins x=some (.builtin id))(ha:PA X (e::es) t)(hn:x≠"__name__":=by decide)(hdb:(x==("__debug__":Str))=false:=by decide)(he:starEach (e::es) X.env=(false,eval e X.env)::starEach es X.env:=by rfl)(hpl:(backTo pos (starEach es X.env)).any (·.1)=false:=by rfl):PE X (.Call (.Name x p) (e::es) [] pos) (Xc r t):=by intro pins s σ H Q I h;refine wpAny_Call_Name_kw (gH I hg hm hv ?_ hn hdb);exact PyProof.Rows.callWith_builtin1 (cG (ha pos pins s σ H _ I h) fun us s1⟨vs,H1,I1,r1,q1⟩=>hc pins s1 σ H1 vs us Q I1 r1 q1) he hpl
theorem qu(hc:di X (.type T) r)(hg:Gl X x)(hm:X.mg x=none)(hv:bootBuiltins x=some (.type T))(ha:PA X (e::es) t)(hn:x≠"__name__":=by decide)(hdb:(x==("__debug__":Str))=false:=by decide)(he:starEach (e::es) X.env=(false,eval e X.env)::starEach es X.env:=by rfl)(hpl:(backTo pos (starEach es X.env)).any (·.1)=false:=by rfl):PE X (.Call (.Name x p) (e::es) [] pos) (Xc r t):=by intro pins s σ H Q I h;refine wpAny_Call_Name_kw (gH I hg hm hv ?_ hn hdb);exact PyProof.Rows.callWith_type1 (cG (ha pos pins s σ H _ I h) fun us s1⟨vs,H1,I1,r1,q1⟩=>hc pins s1 σ H1 vs us Q I1 r1 q1) he hpl
end
end L2
namespace HT
open PySem PyProof.Rows
section
variable{prog:Program}{w:World}{A:Around}{E:Value->Shared->Prop}{s:Shared}
theorem Ih{t b:Addr}{vs ws:List Value}{Q:Value->Shared->Prop}(ht:IsTup s.heap t vs.toArray)(hb:IsTup s.heap b ws.toArray)(hv:vs≠[])(h1:ws=[]->Q (.ref t) s)(h2:ws≠[]->Q (.ref s.heap.objs.size) {s with heap:=s.heap.push {cls:=.type "tuple",data:=.seq (vs++ws).toArray}})(hsz:vs.length+ws.length<=sizeLine):wpAny (model prog w) A (binaryOp .Add (.ref t) (.ref b)) Q E s:=by
 obtain⟨⟨cls,dd,data,sl⟩,ho,hc,n,hd⟩:=id ht;obtain⟨⟨cls2,dd2,data2,sl2⟩,ho2,hc2,n2,hd2⟩:=id hb;simp only at hc hd hc2 hd2;subst hc hd hc2 hd2;have e:vs.toArray++ws.toArray=(vs++ws).toArray:=by simp
 by_cases hw:ws=[];.exact concat_meets ⟨_,ho,rfl⟩ ⟨_,ho2,rfl⟩ noFill_tuple_add seq_tuple_add PySem.F.slot_tuple_add PySem.F.entry_tuple_add (PySem.F.args_tuple_add_2 _ _) (tuple_addW1 t b vs.toArray ws.toArray n n2 dd dd2 sl sl2 (by simpa using hv) (by simp[hw])) ⟨ho,ho2,h1 hw⟩
 .refine concat_meets ⟨_,ho,rfl⟩ ⟨_,ho2,rfl⟩ noFill_tuple_add seq_tuple_add PySem.F.slot_tuple_add PySem.F.entry_tuple_add (PySem.F.args_tuple_add_2 _ _) (tuple_addW2 t b vs.toArray ws.toArray n n2 dd dd2 sl sl2 (by simpa using hv) (by simpa using hw) (by rw[List.size_toArray,List.size_toArray];exact hsz)) ⟨ho,ho2,?_⟩;rw[e];exact h2 hw
noncomputable def cF(n d:Nat):Option Int->Nat|none=>d|some v=>if v<0 then(v+(n:Int)).toNat else min v.toNat n
theorem K9(n d:Nat)(hd:d<=n)(o:Option Int):cF n d o<=n:=by cases o with|none=>exact hd|some v=>
   show(if v<0 then(v+(n:Int)).toNat else min v.toNat n)<=n;by_cases hv:v<0;.rw[if_pos hv];omega
   .rw[if_neg hv];exact Nat.min_le_right _ _
theorem yC(v:Int)(n d:Nat):(if v<0 then max (v+(n:Int)) 0 else min v (n:Int))=((cF n d (some v):Nat):Int):=by
 show(if v<0 then max (v+(n:Int)) 0 else min v (n:Int))=(((if v<0 then(v+(n:Int)).toNat else min v.toNat n):Nat):Int);by_cases hv:v<0;.simp only[if_pos hv];omega
 .simp only[if_neg hv];omega
theorem vZ(lo hi:Option Int)(n:Nat):Builtin.Slice.sliceAdjust lo hi 1 (n:Int)=(((cF n 0 lo:Nat):Int),((cF n n hi:Nat):Int)):=by
 have h1:¬((1:Int)<0):=by omega
 unfold Builtin.Slice.sliceAdjust;simp only[h1,if_false];refine Prod.ext ?_ ?_;.cases lo with|none=>rfl|some v=>exact yC v n 0
 .cases hi with|none=>rfl|some v=>exact yC v n n
theorem xf(i j:Nat):Builtin.Slice.slicePlaces (i:Int) (j:Int) 1=j-i:=by
 unfold Builtin.Slice.slicePlaces;have h1:(1:Int)>0:=by omega
 simp only[h1,if_true,Int.ediv_one];split<;>omega
theorem oE{v:Value}{o:Option Int}{Q:Option Int->Shared->Prop}(p:IsPart v o)(h:Q o s):wpAny (model prog w) A (Builtin.Slice.slicePartIndex v) Q E s:=by cases p with|none=>exact slicePart_none h|int i t=>exact slicePart_int h
theorem fZ{sl:Addr}{vl vu:Value}{lo hi:Option Int}{n:Nat}{Q:Int×Int×Nat->Shared->Prop}(hs:s.heap.IsSliceOf sl vl vu .none)(pl:IsPart vl lo)(pu:IsPart vu hi)(h:Q (((cF n 0 lo:Nat):Int),1,cF n n hi-cF n 0 lo) s):wpAny (model prog w) A (Builtin.Slice.sliceApplied (.ref sl) (pure (n:Int))) Q E s:=by obtain⟨os,hos,hcs,hds⟩:=id hs;unfold Builtin.Slice.sliceApplied Builtin.Slice.sliceFields;refine wpAny_bind (wpAny_bind (wpAny_field hos hds (x:=vl) rfl (wpAny_bind (wpAny_field hos hds (x:=vu) rfl (wpAny_bind (wpAny_field hos hds (x:=.none) rfl (wpAny_pure ?_)))))));refine wpAny_bind (slicePart_none ?_);show wpAny _ _ (if((1:Int)==0)=true then _ else _) _ _ s;rw[if_neg (by decide)];refine wpAny_bind (oE pl (wpAny_bind (oE pu (wpAny_bind (wpAny_pure ?_)))));show wpAny _ _ (match Builtin.Slice.sliceAdjust lo hi 1 (n:Int)with|(lo,hi)=>pure (lo,(1:Int),Builtin.Slice.slicePlaces lo hi 1)) _ _ s;rw[vZ lo hi n];show wpAny _ _ (pure (((cF n 0 lo:Nat):Int),(1:Int),Builtin.Slice.slicePlaces ((cF n 0 lo:Nat):Int) ((cF n n hi:Nat):Int) 1)) _ _ s;rw[xf];exact wpAny_pure h
theorem Dl(xs:Array Value)(i k:Nat):((List.range k).filterMap fun(m:Nat)=>xs[((i:Int)+(m:Int)*1).toNat]?).toArray=((xs.toList.drop i).take k).toArray:=by
 have e:(fun(m:Nat)=>xs[((i:Int)+(m:Int)*1).toNat]?)=fun m=>xs[i+m]?:=by
  funext m;have:((i:Int)+(m:Int)*1).toNat=i+m:=by omega
  rw[this]
 rw[e];have:=pick_run xs i k;rw[List.filterMap_map]at this;have e2:((fun x=>xs[x]?)∘ fun x=>i+x)=fun m=>xs[i+m]?:=rfl;rw[e2]at this;rw[this]
theorem km{t sl:Addr}{items:Array Value}{vl vu:Value}{lo hi:Option Int}{Q:Value->Shared->Prop}(ht:IsTup s.heap t items)(hs:s.heap.IsSliceOf sl vl vu .none)(pl:IsPart vl lo)(pu:IsPart vu hi)(hw:¬(cF items.size 0 lo=0/\cF items.size items.size hi=items.size))(h:Q (.ref s.heap.objs.size) {s with heap:=s.heap.push {cls:=.type "tuple",data:=.seq ((items.toList.drop (cF items.size 0 lo)).take (cF items.size items.size hi-cF items.size 0 lo)).toArray}})(hsz:items.size<=sizeLine):wpAny (model prog w) A (getItem (.ref t) (.ref sl)) Q E s:=by
 have yV:sizeOk (.seq ((items.toList.drop (cF items.size 0 lo)).take (cF items.size items.size hi-cF items.size 0 lo)).toArray):=by show((items.toList.drop (cF items.size 0 lo)).take (cF items.size items.size hi-cF items.size 0 lo)).toArray.size<=sizeLine;rw[List.size_toArray,List.length_take,List.length_drop,Array.length_toList];omega
 have hj:cF items.size items.size hi<=items.size:=K9 _ _ (Nat.le_refl _) hi;obtain⟨os,hos,hcs,hds⟩:=id hs;have hTs:s.TypeIs (.ref sl) "slice":=⟨os,hos,hcs⟩;unfold getItem;try with_reducible refine wpAny_holding ?_
 first|refine wpAny_bind (wpAny_pure ?_)|skip
 refine wpAny_bind (wpAny_sequenceKey ht.typeIs (by decide) ?_);refine wpAny_bind (wpAny_callSpecial?_slot (name:=Str.ofString "__getitem__") ht.typeIs PyProof.Rows.slot_tuple_getitem (wpAny_call_entry PyProof.Rows.slot_tuple_getitem ht.typeIs entry_tuple_getitem ?_ (args_tuple_getitem _ _)));show wpAny _ _ (Builtin.Tuple.tupleItemsOf (.ref t)>>=_) _ _ s;refine wpAny_bind (tupleItemsOf_ ht ?_);refine wpAny_bind (wpAny_typeOf hTs ?_);rw[if_pos (by decide)];refine wpAny_bind (fZ hs pl pu ?_);have hno:¬((((cF items.size 0 lo:Nat):Int)==0&&(1:Int)==1&&(cF items.size items.size hi-cF items.size 0 lo)==items.size)=true):=by intro q;rw[Bool.and_eq_true,Bool.and_eq_true]at q;have q1:((cF items.size 0 lo:Nat):Int)=0:=eq_of_beq q.1.1;have q2:cF items.size items.size hi-cF items.size 0 lo=items.size:=eq_of_beq q.2;exact hw ⟨by omega,by omega⟩
 show wpAny _ _ (if(((cF items.size 0 lo:Nat):Int)==0&&(1:Int)==1&&(cF items.size items.size hi-cF items.size 0 lo)==items.size)=true then _ else _) _ _ s;rw[if_neg hno,Dl];first|exact wpAny_bind (m:=Builtin.Tuple.tupleExact _) (wpAny_newObj_type (wpAny_pure ⟨_,rfl,wpAny_pure h⟩) yV)|exact wpAny_bind (m:=Builtin.Tuple.tupleExact _) (wpAny_newObj_type (wpAny_bind (wpAny_pure (wpAny_pure ⟨_,rfl,wpAny_pure h⟩))) yV)|exact wpAny_bind (wpAny_bind (m:=Builtin.Tuple.tupleExact _) (wpAny_newObj_type (wpAny_pure (wpAny_pure ⟨_,rfl,wpAny_pure h⟩)) yV))|exact wpAny_bind (wpAny_bind (m:=Builtin.Tuple.tupleExact _) (wpAny_newObj_type (wpAny_pure ⟨_,rfl,wpAny_pure h⟩) yV))
end
end HT
namespace L2
open PySem PySem.Spec PyProof.Rows
noncomputable abbrev TO:=St->Hp->(Option Int->Hp->Prop)->Prop
noncomputable def PO(X:Cx)(e:Option Expr)(t:TO):Prop:=∀(pins:List (Addr × Obj))(s:Shared)(σ:St)(H:Hp)(Q:Option Int->Hp->Prop),Inv X pins σ H s->t σ H Q->wpAny (model X.prog X.w) X.A (evalPart e X.env) (fun u s'=>∃o H',Inv X pins σ H' s'/\IsPart u o/\Q o H') X.xe s
noncomputable def Gi:TO:=fun _ H Q=>Q none H
noncomputable def Ua(t:TE):TO:=fun σ H Q=>t σ H fun x H1=>∃i,x=.int i/\Q (some i) H1
section
variable{X:Cx}{e:Expr}{te:TE}{lo hi:Option Expr}{tl th:TO}{pos p2:Pos}
theorem Gm:PO X none Gi:=by intro pins s σ H Q I h;rw[evalPart_none];exact wpAny_pure ⟨none,H,I,.none,h⟩
theorem Ht(h:PE X e te):PO X (some e) (Ua te):=by intro pins s σ H Q I hw;rw[evalPart_some];refine cG (h pins s σ H _ I hw) fun u s1⟨x,H1,I1,r1,q1⟩=>?_;obtain⟨i,rfl,q⟩:=q1;obtain⟨t,rfl⟩:=r1;exact⟨some i,H1,I1,.int i t,q⟩
noncomputable def W4(X:Cx)(r:V->Option Int->Option Int->Hp->VK->Prop):Prop:=∀(pins:List (Addr × Obj))(s:Shared)(σ:St)(H:Hp)(x:V)(v vl vu:Value)(lo hi:Option Int)(sl:Addr)(Q:VK),Inv X pins σ H s->RelV x v->s.heap.IsSliceOf sl vl vu .none->IsPart vl lo->IsPart vu hi->r x lo hi H Q->∃T id,typeLookup (.type T) "__getitem__"=pure (some (.builtin id))/\s.TypeIs v T/\wpAny (model X.prog X.w) X.A (getItem v (.ref sl)) (EP X pins σ Q) X.xe s
noncomputable def tSl(r:V->Option Int->Option Int->Hp->VK->Prop)(te:TE)(tl th:TO):TE:=fun σ H Q=>te σ H fun x H1=>tl σ H1 fun l H2=>th σ H2 fun u H3=>r x l u H3 Q
theorem uw{r:V->Option Int->Option Int->Hp->VK->Prop}(hr:W4 X r)(he:PE X e te)(hl:PO X lo tl)(hu:PO X hi th):PE X (.Subscript e (.Slice lo hi none p2) pos) (tSl r te tl th):=by intro pins s σ H Q I h;refine Subscript_ (cG (he pins s σ H _ I h) fun v s1⟨x,H1,I1,r1,q1⟩=>?_);refine wpAny_Slice (cG (hl pins s1 σ H1 _ I1 q1) fun vl s2⟨l,H2,I2,pl,q2⟩=>cG (hu pins s2 σ H2 _ I2 q2) fun vu s3⟨u,H3,I3,pu,q3⟩=>?_);rw[evalPart_none];refine wpAny_pure ?_;have I4:Inv X pins σ H3 {s3 with heap:=s3.heap.push {cls:=.type "slice",data:=.fields #[vl,vu,.none]}}:=I3.kept (t':=s3.toks) fun b ob q=>Heap.get?_push_of_some _ q;obtain⟨T,id,hT,ht,hg⟩:=hr pins {s3 with heap:=s3.heap.push {cls:=.type "slice",data:=.fields #[vl,vu,.none]}} σ H3 x v vl vu l u s3.heap.objs.size Q I4 r1 (Heap.IsSliceOf.new ..) pl pu q3;show wpAny (model X.prog X.w) X.A (subscriptTail e (.Slice lo hi none p2) v (.ref s3.heap.objs.size)) (EP X pins σ Q) X.xe {s3 with heap:=s3.heap.push {cls:=.type "slice",data:=.fields #[vl,vu,.none]}};exact tail_any (ops:=[.ref s3.heap.objs.size,v]) ht hT hg (by with_unfolding_all rfl)
noncomputable def uA(xs:List V)(lo hi:Option Int):List V:=(xs.drop (HT.cF xs.length 0 lo)).take (HT.cF xs.length xs.length hi-HT.cF xs.length 0 lo)
theorem mD(xs:List V)(lo hi:Option Int):(uA xs lo hi).length<=xs.length:=by unfold uA;rw[List.length_take,List.length_drop];omega
noncomputable def Yw(K:PySem.W.Frag):V->Option Int->Option Int->Hp->VK->Prop:=fun x lo hi H Q=>∃a xs,x=.ref a/\gn K H a xs/\¬(HT.cF xs.length 0 lo=0/\HT.cF xs.length xs.length hi=xs.length)/\∀p,H p=none->Q (.ref p) (upd H p (.tup (uA xs lo hi)))
theorem Ms:W4 X (Yw X.K):=by
 intro pins s σ H x v vl vu lo hi sl Q I rx hs pl pu h;obtain⟨a,xs,rfl,hx,hw,q⟩:=h;cases rx;obtain⟨its,r,ht,hz⟩:=I.tuple hx;have hlen:its.toArray.size=xs.length:=by rw[List.size_toArray];exact r.length.symm
 refine⟨"tuple",_,PyProof.Rows.slot_tuple_getitem.lookup,ht.typeIs,?_⟩;refine HT.km ht hs pl pu (by rw[hlen];exact hw) ?_ (by rw[hlen];exact hz);rw[hlen];refine⟨.ref s.heap.objs.size,_,I.laid (t':=s.toks) (o:=.tup (uA xs lo hi)) (fun b ob q=>Heap.get?_push_of_some _ q) (Nat.le_refl _) ?_,rfl,q _ (I.hok.fresh (Nat.le_refl _))⟩;exact⟨Nat.le_trans (mD xs lo hi) hz,_,(r.drop (HT.cF xs.length 0 lo)).take (HT.cF xs.length xs.length hi-HT.cF xs.length 0 lo),IsTup.new _ _⟩
noncomputable def Ud(K:PySem.W.Frag):R2:=fun x y H Q=>∃a b xs ys,x=.ref a/\y=.ref b/\gn K H a xs/\gn K H b ys/\xs≠[]/\xs.length+ys.length<=sizeLine/\(ys=[]->Q (.ref a) H)/\(ys≠[]->∀p,H p=none->Q (.ref p) (upd H p (.tup (xs++ys))))
theorem Vals.nu{xs:List V}{us:List Value}(r:Vals xs us):us=[]↔xs=[]:=by cases r with|nil=>simp|cons _ _=>simp
theorem Iz:dR X (binaryOp .Add) (Ud X.K):=by intro pins s σ H x y v u Q I rx ry h;obtain⟨a,b,xs,ys,rfl,rfl,ha,hb,hx,hz,q1,q2⟩:=h;cases rx;cases ry;obtain⟨its,r1,p1,_⟩:=I.tuple ha;obtain⟨its2,r2,p2,_⟩:=I.tuple hb;refine HT.Ih p1 p2 (fun z=>hx (r1.nu.mp z)) (fun z=>⟨.ref a,H,I,rfl,q1 (r2.nu.mp z)⟩) (fun z=>?_) (by rw[<-r1.length,<-r2.length];exact hz);refine⟨.ref s.heap.objs.size,_,I.laid (t':=s.toks) (o:=.tup (xs++ys)) (fun b ob q=>Heap.get?_push_of_some _ q) (Nat.le_refl _) ?_,rfl,q2 (fun w=>z (r2.nu.mpr w)) _ (I.hok.fresh (Nat.le_refl _))⟩;exact⟨by rw[List.length_append];exact hz,_,r1.append r2,IsTup.new _ _⟩
end
end L2
namespace L2
open PySem PySem.Spec PyProof.Rows
noncomputable def jr(n:Nat)(i:Int):Option Nat:=if 0<=i then(if i<n then some i.toNat else none)else if-(n:Int)<=i then some (i+n).toNat else none
noncomputable def Rq{α:Type}(xs:List α)(i:Int):Option α:=(jr xs.length i).bind fun j=>xs[j]?
theorem xQ{n:Nat}{i:Int}{j:Nat}(h:jr n i=some j):seqIndex? i n=some j/\j<n/\-(n:Int)<=i/\i<n:=by
 unfold jr at h;by_cases h0:0<=i
 . rw[if_pos h0]at h;by_cases h1:i<n;.rw[if_pos h1]at h;have e:i.toNat=j:=Option.some.inj h;exact⟨by rw[seqIndex_of h0 h1,e],by omega,by omega,h1⟩
   .rw[if_neg h1]at h;cases h
 . rw[if_neg h0]at h;by_cases h1:-(n:Int)<=i;.rw[if_pos h1]at h;have e:(i+n).toNat=j:=Option.some.inj h;exact⟨by rw[seqIndex_neg (by omega) h1,e],by omega,h1,by omega⟩
   .rw[if_neg h1]at h;cases h
theorem yl{α:Type}{xs:List α}{i:Int}{v:α}(h:Rq xs i=some v):∃j,seqIndex? i xs.length=some j/\xs[j]?=some v/\j<xs.length/\-(xs.length:Int)<=i/\i<xs.length:=by unfold Rq at h;cases e:jr xs.length i with|none=>rw[e]at h;cases h|some j=>rw[e]at h;obtain⟨h1,h2,h3,h4⟩:=xQ e;exact⟨j,h1,h,h2,h3,h4⟩
noncomputable def yp(b:Expr):Prop:=∀o i,subscripted b false o i=operate [o,i] (getItem o i)
noncomputable def W2(X:Cx)(r:R2):Prop:=∀(value slice:Expr)(pins:List (Addr × Obj))(s:Shared)(σ:St)(H:Hp)(x y:V)(v u:Value)(Q:VK),Inv X pins σ H s->RelV x v->RelV y u->r x y H Q->subscripted slice false v u=operate [v,u] (getItem v u)->wpAny (model X.prog X.w) X.A (subscriptTail value slice v u) (EP X pins σ Q) X.xe s
noncomputable def Yg(X:Cx)(id:String)(r:V->List V->Hp->VK->Prop):Prop:=∀(pins:List (Addr × Obj))(s:Shared)(σ:St)(H:Hp)(x:V)(xs:List V)(v:Value)(us:List Value)(Q:VK),Inv X pins σ H s->RelV x v->Vals xs us->r x xs H Q->wpAny (model X.prog X.w) X.A (call (.builtin id) (v::us)) (EP X pins σ Q) X.xe s
section
variable{X:Cx}{a b:Expr}{ta tb:TE}{pos:Pos}
theorem Sg{r:R2}(hr:W2 X r)(ha:PE X a ta)(hb:PE X b tb)(hs:yp b):PE X (.Subscript a b pos) (Rb r ta tb):=by intro pins s σ H Q I h;exact Subscript_ (K7 ha hb I h fun v u s2 x y H2 I2 rx ry q=>hr a b pins s2 σ H2 x y v u Q I2 rx ry q (hs _ _))
noncomputable def Yc(K:PySem.W.Frag):R2:=fun x y H Q=>∃p xs i v,x=.ref p/\y=.int i/\dB K H p xs/\Rq xs i=some v/\Q v H
noncomputable def ZQ(K:PySem.W.Frag):R2:=fun x y H Q=>∃p xs i v,x=.ref p/\y=.int i/\gn K H p xs/\Rq xs i=some v/\Q v H
theorem Hf:W2 X (Yc X.K):=by
 intro value slice pins s σ H x y v u Q I rx ry h hs;obtain⟨p,xs,i,z,rfl,rfl,hq,he,q⟩:=h;cases rx;obtain⟨t,rfl⟩:=ry;obtain⟨its,r,pl,hz⟩:=I.list hq;obtain⟨j,h1,h2,h3,h4,h5⟩:=yl he;obtain⟨w,ew,VN⟩:=r.get h2;have hl:=r.length;have hn:=sH;have fin:EP X pins σ Q w s:=⟨z,H,I,VN,q⟩;by_cases h0:0<=i
 . have hj:i.toNat=j:=by rw[seqIndex_of h0 h5]at h1;exact Option.some.inj h1
   exact item_listR pl.isList h0 (by omega) (by rw[hj];simpa using ew) fin hs
 . have hj:(i+(its.toArray.size:Int)).toNat=j:=by rw[seqIndex_neg (by omega) h4]at h1;rw[List.size_toArray,<-hl];exact Option.some.inj h1
   exact subscriptTail_builtinR (x:=w) pl.isList.typeIs slot_list_getitem.lookup (wpAny_getItem_list_neg (Q:=fun r s'=>r=w/\EP X pins σ Q r s') pl.isList (by omega) (by rw[List.size_toArray]<;>omega) (by omega) (by rw[hj];simpa using ew) ⟨rfl,fin⟩) hs
theorem Nq:W2 X (ZQ X.K):=by intro value slice pins s σ H x y v u Q I rx ry h hs;obtain⟨p,xs,i,z,rfl,rfl,hq,he,q⟩:=h;cases rx;obtain⟨t,rfl⟩:=ry;obtain⟨its,r,pl,hz⟩:=I.tuple hq;obtain⟨j,h1,h2,h3,h4,h5⟩:=yl he;obtain⟨w,ew,VN⟩:=r.get h2;have hl:=r.length;have hn:=sH;have fin:EP X pins σ Q w s:=⟨z,H,I,VN,q⟩;exact subscriptTail_builtinR (x:=w) pl.typeIs slot_tuple_getitem.lookup (getItem_tuple (j:=j) (Q:=fun r s'=>r=w/\EP X pins σ Q r s') pl (by omega) (by omega) (by rw[List.size_toArray,<-hl];exact h1) (by simpa using ew) ⟨rfl,fin⟩) hs
theorem vW(its:List Value)(n j:Nat)(u:Value):Obj.mapSeq (·.setIfInBounds j u) {cls:=.type "list",data:=.seq its.toArray n}={cls:=.type "list",data:=.seq (its.set j u).toArray n}:=by simp[Obj.mapSeq]
theorem Inv.lst{pins:List (Addr×Obj)}{σ:St}{H:Hp}{s:Shared}{p:Addr}{xs:List V}(I:Inv X pins σ H s)(h:H p=some (.lst xs)):∃(its:List Value)(n:Nat),Vals xs its/\s.heap.get? p=some {cls:=.type "list",data:=.seq its.toArray n}/\xs.length<=sizeLine:=by obtain⟨z,its,n,r,e⟩:=I.hok p _ h;exact⟨its,n,r,e,z⟩
theorem Inv.Lk{pins:List (Addr×Obj)}{σ:St}{H:Hp}{s:Shared}{p:Addr}{xs ys:List V}{its its':List Value}{n n':Nat}{f:Obj->Obj}(I:Inv X pins σ H s)(h:H p=some (.lst xs))(ho:s.heap.get? p=some {cls:=.type "list",data:=.seq its.toArray n})(hf:f {cls:=.type "list",data:=.seq its.toArray n}={cls:=.type "list",data:=.seq its'.toArray n'})(r:Vals ys its')(hz:ys.length<=sizeLine)(t:Nat):Inv X pins σ (upd H p (.lst ys)) {s with heap:=s.heap.update p f,toks:=t}:=by
 have e:(s.heap.update p f).get? p=some {cls:=.type "list",data:=.seq its'.toArray n'}:=by rw[Heap.get?_update_self f ho (by rw[hf]<;>rfl),hf]
 refine I.write (x:=p) (e:=p) (by rw[h];trivial) (.inl rfl) (fun b u hb q=>(Heap.get?_update_other _ _ (Ne.symm hb)).trans q) ⟨_,e⟩ ?_;exact⟨hz,its',n',r,e⟩
noncomputable def Uu:V->V->V->Hp->(Hp->Prop)->Prop:=fun o i v H Q=>∃p xs k j,o=.ref p/\i=.int k/\H p=some (.lst xs)/\jr xs.length k=some j/\Q (upd H p (.lst (xs.set j v)))
theorem set_list:R9 X Uu:=by
 intro pins s σ H o i v ov iv u Q I ro ri rv h;obtain⟨p,xs,k,j,rfl,rfl,hp,hj,q⟩:=h;cases ro;obtain⟨t,rfl⟩:=ri;obtain⟨its,n,r,ho,hz⟩:=I.lst hp;obtain⟨h1,h2,h3,h4⟩:=xQ hj;have hl:=r.length;have hn:=sH;have I':Inv X pins σ (upd H p (.lst (xs.set j v))) {s with heap:=s.heap.update p (Obj.mapSeq (·.setIfInBounds j u))}:=I.Lk hp ho (vW its n j u) (r.set rv j) (by rw[List.length_set];exact hz) s.toks;by_cases h0:0<=k
 . have hk:k.toNat=j:=by rw[seqIndex_of h0 h4]at h1;exact Option.some.inj h1
   exact PySem.W.ki_setAt ho h0 (by omega) (by rw[List.size_toArray,<-hl];exact h4) (by rw[hk];exact⟨_,I',q⟩)
 . have hk:(k+(its.toArray.size:Int)).toNat=j:=by rw[seqIndex_neg (by omega) h3]at h1;rw[List.size_toArray,<-hl];exact Option.some.inj h1
   exact PySem.W.ki_setBack ho (by omega) (by rw[List.size_toArray,<-hl];exact h3) (by omega) (by rw[hk];exact⟨_,I',q⟩)
theorem sO(lo hi:Option Int)(n:Nat):(sliceBounds lo hi none n).1=((HT.cF n 0 lo:Nat):Int)/\(sliceBounds lo hi none n).2.1=((HT.cF n n hi:Nat):Int)/\(sliceBounds lo hi none n).2.2=1:=by
 refine⟨?_,?_,rfl⟩;.cases lo with|none=>simp[sliceBounds,HT.cF]|some i=>
     simp only[sliceBounds,HT.cF,Option.getD_none,show(1:Int)>0 by decide,if_true];by_cases h:i<0;.simp only[h,if_true]<;>omega
     .simp only[h,if_false]<;>omega
 .cases hi with|none=>simp[sliceBounds,HT.cF]|some i=>
     simp only[sliceBounds,HT.cF,Option.getD_none,show(1:Int)>0 by decide,if_true];by_cases h:i<0;.simp only[h,if_true]<;>omega
     .simp only[h,if_false]<;>omega
theorem qg(its:List Value)(lo hi:Option Int):slicePick its.toArray lo hi none=((its.drop (HT.cF its.length 0 lo)).take (HT.cF its.length its.length hi-HT.cF its.length 0 lo)).toArray:=by obtain⟨h1,h2,h3⟩:=sO lo hi its.toArray.size;unfold slicePick;rw[h1,h2,h3];simp only[sliceRange_one,pick_run,List.size_toArray]<;>rfl
noncomputable def ZP(K:PySem.W.Frag):V->Option Int->Option Int->Hp->VK->Prop:=fun x lo hi H Q=>∃a xs,x=.ref a/\dB K H a xs/\∀p,H p=none->Q (.ref p) (upd H p (.lst (uA xs lo hi)))
theorem Hr:W4 X (ZP X.K):=by intro pins s σ H x v vl vu lo hi sl Q I rx hs pl pu h;obtain⟨a,xs,rfl,hx,q⟩:=h;cases rx;obtain⟨its,r,ht,hz⟩:=I.list hx;have hlen:=r.length;refine⟨"list",_,slot_list_getitem.lookup,ht.isList.typeIs,?_⟩;refine wpAny_getItem_list_slice ht.isList hs pl pu .none (by simp) ?_ (by rw[List.size_toArray]<;>omega);rw[qg,<-hlen];refine⟨.ref s.heap.objs.size,_,I.laid (t':=s.toks) (o:=.lst (uA xs lo hi)) (fun b ob q=>Heap.get?_push_of_some _ q) (Nat.le_refl _) ?_,rfl,q _ (I.hok.fresh (Nat.le_refl _))⟩;exact⟨Nat.le_trans (mD xs lo hi) hz,_,0,(r.drop (HT.cF xs.length 0 lo)).take (HT.cF xs.length xs.length hi-HT.cF xs.length 0 lo),Heap.get?_push_size _ rfl⟩
noncomputable def jy:V->Bool|.non=>true|.bl _=>true|.int _=>true|.str _=>true|_=>false
noncomputable def Ij:V->V->Bool|.non,.non=>true|.bl a,.bl b=>a==b|.bl a,.int b=>(if a then 1 else 0)==b|.int a,.bl b=>a==(if b then 1 else 0)|.int a,.int b=>a==b|.str a,.str b=>a==b|_,_=>false
theorem Ni{A:Around}{s:Shared}{y x:V}{u v:Value}(ry:RelV y u)(rx:RelV x v)(fy:jy y=true)(fx:jy x=true):SeqAt.EqAt A s u v (Ij y x):=by cases y with
 |non=>cases ry;cases x with|non=>cases rx;exact SeqAt.EqAt.same _|bl b=>cases rx;exact SeqAt.EqAt.none_bool b|int b=>obtain⟨t,rfl⟩:=rx;exact SeqAt.EqAt.none_int b t|str b=>obtain⟨t,rfl⟩:=rx;exact SeqAt.EqAt.none_str b t|_=>exact absurd (show false=true from fx) Bool.false_ne_true
 |bl a=>cases ry;cases x with|non=>cases rx;exact SeqAt.EqAt.bool_none a|bl b=>cases rx;exact SeqAt.EqAt.bool_bool a b|int b=>obtain⟨t,rfl⟩:=rx;exact SeqAt.EqAt.bool_int a b t|str b=>obtain⟨t,rfl⟩:=rx;exact SeqAt.EqAt.bool_str a b t|_=>exact absurd (show false=true from fx) Bool.false_ne_true
 |int a=>obtain⟨t',rfl⟩:=ry;cases x with|non=>cases rx;exact SeqAt.EqAt.int_none a t'|bl b=>cases rx;exact SeqAt.EqAt.int_bool a t' b|int b=>obtain⟨t,rfl⟩:=rx;exact SeqAt.EqAt.int_int a t' b t|str b=>obtain⟨t,rfl⟩:=rx;exact SeqAt.EqAt.int_str a t' b t|_=>exact absurd (show false=true from fx) Bool.false_ne_true
 |str a=>obtain⟨t',rfl⟩:=ry;cases x with|non=>cases rx;exact SeqAt.EqAt.str_none a t'|bl b=>cases rx;exact SeqAt.EqAt.str_bool a t' b|int b=>obtain⟨t,rfl⟩:=rx;exact SeqAt.EqAt.str_int a t' b t|str b=>obtain⟨t,rfl⟩:=rx;exact SeqAt.EqAt.str_str a t' b t|_=>exact absurd (show false=true from fx) Bool.false_ne_true
 |_=>exact absurd (show false=true from fy) Bool.false_ne_true
noncomputable def Gk(x:V)(u:Value):Bool:=match u with|.none=>Ij .non x|.bool b=>Ij (.bl b) x|.int i _=>Ij (.int i) x|.str z _=>Ij (.str z) x|_=>false
theorem Bl{x y:V}{u:Value}(r:RelV y u)(f:jy y=true):Gk x u=Ij y x:=by cases y with|non=>cases r;rfl|bl b=>cases r;rfl|int i=>obtain⟨t,rfl⟩:=r;rfl|str z=>obtain⟨t,rfl⟩:=r;rfl|_=>exact absurd (show false=true from f) Bool.false_ne_true
theorem rz{x:V}:∀{xs:List V}{us:List Value},Vals xs us->xs.all jy=true->us.any (Gk x)=xs.any fun y=>Ij y x|_,_,.nil,_=>rfl|y::xs,u::us,.cons r t,f=>by rw[List.all_cons,Bool.and_eq_true]at f;rw[List.any_cons,List.any_cons,Bl r f.1,rz t f.2]
theorem pJ{A:Around}{s:Shared}{x:V}{v:Value}(rx:RelV x v)(fx:jy x=true):∀{xs:List V}{us:List Value},Vals xs us->xs.all jy=true->∀u∈us,SeqAt.EqAt A s u v (Gk x u)
 |_,_,.nil,_=>fun u hu=>by cases hu|y::xs,u::us,.cons r t,f=>fun u' hu=>by
   rw[List.all_cons,Bool.and_eq_true]at f;rcases List.mem_cons.mp hu with rfl|hu;.rw[Bl r f.1];exact Ni r rx f.1 fx
   .exact pJ rx fx t f.2 u' hu
noncomputable def inV(x:V)(xs:List V):Bool:=xs.any fun y=>Ij y x
noncomputable def rIn(K:PySem.W.Frag)(neg:Bool):R2:=fun x y H Q=>∃p xs,y=.ref p/\(dB K H p xs\/gn K H p xs)/\jy x=true/\xs.all jy=true/\Q (.bl (if neg then !inV x xs else inV x xs)) H
theorem qZ:dR X (compareOp .NotIn) (rIn X.K true):=by
 intro pins s σ H x y v u Q I rx ry h;obtain⟨p,xs,rfl,hq,fx,fs,q⟩:=h;cases ry;rcases hq with hq|hq;.obtain⟨its,r,pl,hz⟩:=I.list hq;refine SeqAt.notIn_listAt (Gk x) pl.isList (fun w hw=>pJ rx fx r fs w (by simpa using hw)) ⟨.bl _,H,I,rfl,?_⟩;rw[show its.toArray.any (Gk x)=its.any (Gk x)by simp,rz r fs];exact q
 .obtain⟨its,r,pl,hz⟩:=I.tuple hq;refine SeqAt.notIn_tupleAt (Gk x) pl (fun w hw=>pJ rx fx r fs w (by simpa using hw)) ⟨.bl _,H,I,rfl,?_⟩;rw[show its.toArray.any (Gk x)=its.any (Gk x)by simp,rz r fs];exact q
theorem rO:di X (.builtin "len") (fun xs H Q=>∃p ys,xs=[.ref p]/\(dB X.K H p ys\/gn X.K H p ys)/\Q (.int ys.length) H):=by
 intro pins s σ H xs us Q I r h;obtain⟨p,ys,rfl,hq,q⟩:=h;obtain⟨u,rfl,rx⟩:=vals1 r;cases rx;have hn:=sH;rcases hq with hq|hq;.obtain⟨its,r',pl,hz⟩:=I.list hq;have hlen:=r'.length;exact Calls.call_len_list pl.isList (by simp only[List.size_toArray]<;>omega) ⟨.int ys.length,H,I.tok _,⟨s.toks+1,by rw[List.size_toArray,hlen]⟩,q⟩
 .obtain⟨its,r',pl,hz⟩:=I.tuple hq;have hlen:=r'.length;exact len_tuple pl (by simp only[List.size_toArray]<;>omega) ⟨.int ys.length,H,I.tok _,⟨s.toks+1,by rw[List.size_toArray,hlen]⟩,q⟩
theorem sS:di X (.type "list") (fun xs H Q=>∃p ys,xs=[.ref p]/\(dB X.K H p ys\/gn X.K H p ys)/\∀l,H l=none->Q (.ref l) (upd H l (.lst ys))):=by
 intro pins s σ H xs us Q I r h;obtain⟨p,ys,rfl,hq,q⟩:=h;obtain⟨u,rfl,rx⟩:=vals1 r;cases rx;have fin:∀(its:List Value),Vals ys its->ys.length<=sizeLine->∀(h':Heap)(c':Nat),(∀b o',s.heap.get? b=some o'->h'.get? b=some o')->h'.get? s.heap.objs.size=some {cls:=.type "list",dict:=none,data:=.seq its.toArray c',slots:=#[]}->EP X pins σ Q (.ref s.heap.objs.size) {s with heap:=h'}:=fun its r' hz h' c' kp e=>⟨.ref s.heap.objs.size,_,I.laid (t':=s.toks) kp (Nat.le_refl _) (show bZ X.prog X.w _ h' _ (.lst ys)from⟨hz,its,c',r',e⟩),rfl,q _ (I.hok.fresh (Nat.le_refl _))⟩;rcases hq with hq|hq;.obtain⟨its,r',pl,hz⟩:=I.list hq;have hlen:=r'.length;obtain⟨o,ho,hc,n,hd⟩:=pl.isList;exact call_list_seq p (.inl rfl) ho hc hd (fun h' c' kp e=>fin its r' hz h' c' kp e) (by simp only[List.size_toArray]<;>omega)
 .obtain⟨its,r',pl,hz⟩:=I.tuple hq;have hlen:=r'.length;obtain⟨o,ho,hc,n,hd⟩:=pl;exact call_list_seq p (.inr rfl) ho hc hd (fun h' c' kp e=>fin its r' hz h' c' kp e) (by simp only[List.size_toArray]<;>omega)
theorem jw:di X (.type "tuple") (fun xs H Q=>∃p ys,xs=[.ref p]/\((dB X.K H p ys/\∀l,H l=none->Q (.ref l) (upd H l (.tup ys)))\/(gn X.K H p ys/\Q (.ref p) H))):=by
 intro pins s σ H xs us Q I r h;obtain⟨p,ys,rfl,h⟩:=h;obtain⟨u,rfl,rx⟩:=vals1 r;cases rx;rcases h with⟨hq,q⟩|⟨hq,q⟩;.obtain⟨its,r',pl,hz⟩:=I.list hq;have hlen:=r'.length;refine call_tuple_list pl.isList (fun h' kp=>?_) (by simp only[List.size_toArray]<;>omega);have I1:Inv X pins σ H {s with heap:=h'}:=I.kept (t':=s.toks) kp;have I2:Inv X pins σ (upd H h'.objs.size (.tup ys)) {s with heap:=h'.push {cls:=.type "tuple",data:=.seq its.toArray}}:=I1.laid (t':=s.toks) (fun b o e=>Heap.get?_push_of_some _ e) (Nat.le_refl _) (show bZ X.prog X.w _ _ _ (.tup ys)from⟨hz,its,r',IsTup.new _ _⟩);exact⟨.ref h'.objs.size,_,I2,rfl,q _ (I1.hok.fresh (Nat.le_refl _))⟩
 .obtain⟨its,r',pl,hz⟩:=I.tuple hq;exact call_tuple_same pl ⟨.ref p,H,I,rfl,q⟩
noncomputable def ZS(K:PySem.W.Frag)(T:String)(x:V)(H:Hp):Prop:=match x with|.str _=>T="str"|.int _=>T="int"|.ref p=>(T="list"/\∃xs,dB K H p xs)\/(T="tuple"/\∃o,K.lookup p=some o/\o.cls=.type "tuple"/\o.dict=none)\/(T="dict"/\((∃kvs,H p=some (.dK kvs))\/∃kvs,H p=some (.dT kvs)))\/(T="set"/\∃S n,H p=some (.set S n))|_=>False
theorem Bo{pins:List (Addr×Obj)}{σ:St}{H:Hp}{s:Shared}{T:String}{x:V}{v:Value}(I:Inv X pins σ H s)(r:RelV x v)(ty:ZS X.K T x H):
 s.TypeIs v T/\∀a,v=.ref a->∃ob,s.heap.get? a=some ob/\ob.dict=none:=by cases x with|str z=>obtain⟨t,rfl⟩:=r;cases(show T="str"from ty);exact⟨typeIs_str s z t,fun _ e=>nomatch e⟩|int i=>obtain⟨t,rfl⟩:=r;cases(show T="int"from ty);exact⟨typeIs_int s i t,fun _ e=>nomatch e⟩|ref p=>
   cases r;rcases ty with⟨rfl,xs,hq⟩|⟨rfl,o,hk,hc,hd⟩|⟨rfl,hk⟩|⟨rfl,S,n,hk⟩;.obtain⟨its,_,pl,_⟩:=I.list hq;refine⟨pl.isList.typeIs,fun a e=>?_⟩;cases e;obtain⟨o,n,e,c,hd,_⟩:=pl;exact⟨o,e,hd⟩
   .refine⟨⟨o,I.Fv p o hk,hc⟩,fun a e=>?_⟩;cases e;exact⟨o,I.Fv _ o hk,hd⟩
   . have z:∃o,s.heap.get? p=some o/\o.ExactDict:=by
      rcases hk with⟨kvs,hk⟩|⟨kvs,hk⟩;.obtain⟨_,_,_,_,o,_,_,e,ex,_⟩:=I.hok p _ hk;exact⟨o,e,ex⟩
      .obtain⟨_,_,_,_,o,_,_,e,ex,_⟩:=I.hok p _ hk;exact⟨o,e,ex⟩
     obtain⟨o,e,ex⟩:=z;refine⟨⟨o,e,ex.1⟩,fun a e2=>?_⟩;cases e2;exact⟨o,e,ex.2.1⟩
   .obtain⟨o,_,_,_,e,ex,_⟩:=I.hok p _ hk;refine⟨⟨o,e,ex.1⟩,fun a e2=>?_⟩;cases e2;exact⟨o,e,ex.2.1⟩|_=>exact False.elim ty
noncomputable def ZZ(K:PySem.W.Frag)(T:String)(r:V->List V->Hp->VK->Prop)(to:TE):TE:=fun σ H Q=>to σ H fun x H1=>ZS K T x H1/\r x [] H1 Q
noncomputable def tBM(K:PySem.W.Frag)(T:String)(r:V->List V->Hp->VK->Prop)(to:TE)(t:TA):TE:=fun σ H Q=>to σ H fun x H1=>ZS K T x H1/\t σ H1 fun xs H2=>r x xs H2 Q
variable{o e:Expr}{es:List Expr}{to:TE}{t:TA}{name:Str}{apos cpos:Pos}{T id:String}{r:V->List V->Hp->VK->Prop}
theorem O7(pa:PlainAttrs T)(slot:Slot T name id)(hty:typeOf (.builtin id)=pure (.type "method_descriptor"))(hm:Yg X id r)(ho:PE X o to)(hbase:attributeBase o name X.env (eval o X.env)=eval o X.env:=by rfl)(hline:(apos.endLine==cpos.line)=true:=by rfl):PE X (.Call (.Attribute o name apos) [] [] cpos) (ZZ X.K T r to):=by intro pins s σ H Q I h;refine wpAny_Call_method0_late hbase hline (cG (ho pins s σ H _ I h) fun v s1⟨x,H1,I1,r1,ty,q1⟩=>?_);obtain⟨h1,h2⟩:=Bo I1 r1 ty;exact⟨T,id,pa,slot,hty,h1,h2,Calls.callWith_builtin rfl (PySem.evalArgs_none (hm pins s1 σ H1 x [] v [] Q I1 r1 .nil q1))⟩
theorem Ve(pa:PlainAttrs T)(slot:Slot T name id)(hty:typeOf (.builtin id)=pure (.type "method_descriptor"))(hm:Yg X id r)(ho:PE X o to)(ha:PA X (e::es) t)(hbase:attributeBase o name X.env (eval o X.env)=eval o X.env:=by rfl)(hfew:((backTo cpos (starEach (e::es) X.env)).all (fun x=>!x.1)&&(backToKw cpos (keywordEach [] X.env)).all (fun x=>x.1.isSome)&&decide ((e::es).length+([]:List Keyword).length+(if([]:List Keyword).isEmpty then 0 else 1)<30))=true:=by rfl)(hline:(apos.endLine==cpos.line)=true:=by rfl)(hs:starEach (e::es) X.env=(false,eval e X.env)::starEach es X.env:=by rfl)(hplain:(backTo cpos (starEach es X.env)).any (·.1)=false:=by rfl):PE X (.Call (.Attribute o name apos) (e::es) [] cpos) (tBM X.K T r to t):=by intro pins s σ H Q I h;refine wpAny_Call_method_late hbase hfew hline rfl (cG (ho pins s σ H _ I h) fun v s1⟨x,H1,I1,r1,ty,q1⟩=>?_);obtain⟨h1,h2⟩:=Bo I1 r1 ty;refine⟨T,id,pa,slot,hty,h1,h2,?_⟩;have hA:=ha cpos pins s1 σ H1 _ I1 q1;rw[hs]at hA ⊢;refine Calls.callWith_builtin (by show(false||(backTo cpos (starEach es X.env)).any (·.1))=false;rw[hplain]<;>rfl) (Calls.evalArgs_plain ?_);exact cG hA fun us s2⟨vs,H2,I2,r2,q2⟩=>hm pins s2 σ H2 x vs v us Q I2 r1 r2 q2/-xs.append(e),list.index on a module's tuple..are Yg facts of 06m-/
end
end L2
namespace L2
open PySem PySem.Spec PyProof.Rows
noncomputable def MtM(X:Cx)(id:String)(r:V->List V->Hp->VK->Prop):Prop:=∀(pins:List (Addr × Obj))(s:Shared)(σ:St)(H:Hp)(x:V)(xs:List V)(v:Value)(us:List Value)(Q:VK),Inv X pins σ H s->RelV x v->Vals xs us->r x xs H Q->wpAny (model X.prog X.w) X.A (call (.builtin id) (v::us)) (EP X pins σ Q) X.xe s
theorem Vals.one:∀{x:V}{us:List Value},Vals [x] us->∃u,us=[u]/\RelV x u|_,_,.cons r .nil=>⟨_,rfl,r⟩
theorem Vals.two:∀{x y:V}{us:List Value},Vals [x,y] us->∃u v,us=[u,v]/\RelV x u/\RelV y v|_,_,_,.cons r (.cons q .nil)=>⟨_,_,rfl,r,q⟩
theorem Vals.zero:∀{us:List Value},Vals [] us->us=[]|_,.nil=>rfl
theorem Vals.dropLast{xs:List V}{us:List Value}(h:Vals xs us):Vals xs.dropLast us.dropLast:=by induction h with|nil=>exact .nil|cons r t ih=>cases t with|nil=>exact .nil|cons q t'=>exact .cons r ih
theorem Vals.rep{xs:List V}{us:List Value}(h:Vals xs us):∀k:Nat,Vals (List.replicate k xs).flatten (List.replicate k us).flatten|0=>.nil|k+1=>by rw[List.replicate_succ,List.replicate_succ,List.flatten_cons,List.flatten_cons];exact Vals.append h (Vals.rep h k)
theorem v5{α:Type}(l:List α):l.eraseIdx (l.length-1)=l.dropLast:=by induction l with|nil=>rfl|cons a r ih=>cases r with|nil=>rfl|cons b r=>
     have e:(a::b::r).length-1=((b::r).length-1)+1:=by have h1:(a::b::r).length=r.length+2:=rfl;have h2:(b::r).length=r.length+1:=rfl;omega
     rw[e,List.eraseIdx_cons_succ,ih];all_goals rfl
theorem foldl_rep(its:List Value):∀(k:Nat)(acc:List Value),List.foldl (fun x1 x2=>x1++x2) acc.toArray (List.replicate k its.toArray)=(acc++(List.replicate k its).flatten).toArray
 |0,acc=>by simp|k+1,acc=>by
   have e:acc.toArray++its.toArray=(acc++its).toArray:=by simp
   have e2:(acc++its)++(List.replicate k its).flatten=acc++(List.replicate (k+1) its).flatten:=by rw[List.replicate_succ,List.flatten_cons,List.append_assoc]
   rw[<-e2,<-foldl_rep its k (acc++its),<-e,List.replicate_succ,List.foldl_cons]
section
variable{X:Cx}{pins:List (Addr×Obj)}{σ:St}{H:Hp}{s:Shared}{l b:Addr}{xs ys zs:List V}
theorem Inv.Uq{its its':List Value}{n:Nat}{f:Array Value->Array Value}{t':Nat}(I:Inv X pins σ H s)(hH:H l=some (.lst xs))(e:s.heap.get? l=some {cls:=.type "list",data:=.seq its.toArray n})(hf:f its.toArray=its'.toArray)(hv:Vals ys its')(hz:ys.length<=sizeLine):Inv X pins σ (upd H l (.lst ys)) {s with heap:=s.heap.update l (Obj.mapSeq f),toks:=t'}:=by have q:=PySem.IsL.update e f;rw[hf]at q;refine I.write (x:=l) (e:=l) (by rw[hH];exact trivial) (.inl rfl) (fun b' u hb hu=>(Heap.get?_update_other s.heap (Obj.mapSeq f) (Ne.symm hb)).trans hu) ⟨_,q⟩ ?_;exact⟨hz,its',_,hv,q⟩
theorem Inv.Ma{its:List Value}{t':Nat}(I:Inv X pins σ H s)(hv:Vals ys its)(hz:ys.length<=sizeLine):Inv X pins σ (upd H s.heap.objs.size (.lst ys)) {s with heap:=s.heap.push {cls:=.type "list",data:=.seq its.toArray},toks:=t'}:=I.laid (fun _ _ q=>Heap.get?_push_of_some _ q) (Nat.le_refl _) ⟨hz,its,0,hv,Heap.get?_push_size _ rfl⟩
theorem Inv.fresh(I:Inv X pins σ H s):H s.heap.objs.size=none:=I.hok.fresh (Nat.le_refl _)
theorem Inv.TV(I:Inv X pins σ H s)(hH:H l=some (.lst xs)):xs.length<=sizeLine/\∃(its:List Value)(n:Nat),Vals xs its/\xs.length=its.length/\s.heap.get? l=some {cls:=.type "list",data:=.seq its.toArray n}:=by obtain⟨z,its,n,r,e⟩:=I.hok l _ hH;exact⟨z,its,n,r,r.length,e⟩
theorem Dm{n:Nat}(h:n<=sizeLine):Builtin.List.listTooLong n=false:=by unfold Builtin.List.listTooLong;exact decide_eq_false (by omega)
end
section
variable{X:Cx}
noncomputable def Il:V->List V->Hp->VK->Prop:=fun x vs H Q=>∃l xs y,x=.ref l/\vs=[y]/\H l=some (.lst xs)/\xs.length<sizeLine/\Q .non (upd H l (.lst (xs++[y])))
theorem qw:MtM X "list.append" Il:=by intro pins s σ H x vs v us Q I rx rv h;obtain⟨l,xs,y,rfl,rfl,hH,hz,q⟩:=h;cases rx;obtain⟨u,rfl,ru⟩:=rv.one;obtain⟨z,its,n,r,hl,e⟩:=I.TV hH;refine call_meets F.slot_list_append ⟨_,e,rfl⟩ F.entry_list_append (F.args_list_append_2 _ _) (PySem.list_append l its.toArray n u (by rw[List.size_toArray];omega)) ⟨e,?_⟩;refine⟨.non,_,I.Uq (its':=its++[u]) hH e (by simp) (r.append (.cons ru .nil)) ?_,rfl,q⟩;rw[List.length_append,List.length_singleton];omega
noncomputable def Ye:V->List V->Hp->VK->Prop:=fun x vs H Q=>∃l xs y,x=.ref l/\vs=[]/\H l=some (.lst xs)/\xs[xs.length-1]?=some y/\Q y (upd H l (.lst xs.dropLast))
theorem Pj:MtM X "list.pop" Ye:=by
 intro pins s σ H x vs v us Q I rx rv h;obtain⟨l,xs,y,rfl,rfl,hH,hy,q⟩:=h;cases rx;have hus:=rv.zero;subst hus;obtain⟨z,its,n,r,hl,e⟩:=I.TV hH;obtain⟨u,hu,ru⟩:=r.get hy;have hy':its.toArray[its.toArray.size-1]?=some u:=by show its.toArray[its.length-1]?=some u;rw[<-Array.getElem?_toList,<-hl];exact hu
 refine call_meets F.slot_list_pop ⟨_,e,rfl⟩ F.entry_list_pop (F.args_list_pop_1 _) (MeetsSeq.list_pop_last l its.toArray n u hy' (by rw[List.size_toArray];omega)) ⟨e,?_⟩;refine⟨y,_,I.Uq (its':=its.dropLast) hH e ?_ r.dropLast ?_,ru,q⟩;.show its.toArray.eraseIdxIfInBounds (its.toArray.size-1)=its.dropLast.toArray;rw[List.size_toArray,List.eraseIdxIfInBounds_toArray,v5]
 .rw[List.length_dropLast];omega
theorem len_rep{α:Type}(xs:List α)(k:Nat):(List.replicate k xs).flatten.length=k*xs.length:=by induction k with|zero=>simp|succ k ih=>rw[List.replicate_succ,List.flatten_cons,List.length_append,ih,Nat.succ_mul,Nat.add_comm]
end
end L2
namespace Att
open PySem PySem.W PySem.Calls PyProof.Rows
theorem mK{P:Params}{h:Heap}:∀(ns:List Int)(vs:List Value),WellAll P h vs (ns.map WData.int)->IntsAre vs ns:=by intro ns;induction ns with|nil=>intro vs w;rw[List.map_nil]at w;cases w;exact .nil|cons n ns ih=>intro vs w;rw[List.map_cons]at w;cases w with|cons a b=>cases a;exact .cons _ _ (ih _ b)
theorem zy{l:OpenLaw}{n:Nat}(hn:l.most=some n){P:Params}{h:Heap}{args:List WData}{vals:List Value}(hpre:l.row.toRowW.claim.pre args=true)(hwl:WellAll P h vals args):∃a vs ns,vals=[Value.ref a]/\args=[WData.list (ns.map WData.int)]/\h.get? a=some {cls:=.type "list",data:=.seq vs.toArray}/\IntsAre vs ns/\ns.length<=n:=by
 have hsh:WShape.hasAll [] args [.list .int]=true:=(pre_splitW hpre).1;have hc:l.pre.holds [] {args:=args}=true:=(pre_splitW hpre).2;obtain⟨d,r,rfl,h1,h2⟩:=hasAllW_cons hsh;obtain rfl:=hasAllW_nil h2;obtain⟨xs,rfl,h3⟩:=hasW_list h1;obtain⟨ns,rfl⟩:=items_int h3;have hlen:ns.length<=n:=by
  unfold OpenLaw.pre at hc;have h4:(WTm.not (.lt (.lit (.int (n:Int))) (.len (.arg 0)))).holds [] {args:=[.list (ns.map .int)]}=true:=by have h4:=(holds_andW hc).1;rw[hn]at h4;exact h4
  have h5:=condW_of h4 (w_not (w_lt w_lit (w_len_list (w_arg rfl))));rw[List.length_map]at h5;refine Nat.le_of_not_lt fun q=>?_;have q':(n:Int)<((ns.length:Nat):Int):=by omega
  first|(rw[decide_eq_true q']at h5;exact absurd h5 (by decide))|(simp at h5;omega)
 cases hwl with|cons w1 w2=>cases w2;cases w1 with|list ho hall=>exact⟨_,_,ns,rfl,rfl,ho,mK ns _ hall,hlen⟩
theorem zB(l:OpenLaw)(args:List WData):l.row.toRowW.claim.post args (.bool true) args=true:=postW_of (r:=l.row.toRowW) (X:=(true==true)) (show WShape.has [] (.bool true) .bool=true by first|rfl|decide|simp[WShape.has,WShape.arms,WShape.armsAll]) (show(WTm.eq .res (.lit (.bool true))).value [] {args:=args,res:=some (.bool true),after:=args}=some (.bool (true==true))from w_eq_bool (w_res rfl) w_lit) rfl
theorem vq{l:OpenLaw}{n:Nat}{q:Program}{loose:List Str}{XP:(Str->Option Value)->Heap->Prop}{YP:World->Heap->Prop}{d:DefRec}(hn:l.most=some n)(hdf:d.params.defaults=[])(call:∀(w:World)(s₀ s₁:Shared)(mg mb:Str->Option Value)(fa:Addr)(o:Obj)(pm cd doc:Value)(a:Addr)(vs:List Value)(ns:List Int),Ground q loose [] XP w s₀ mg mb s₁.heap->YP w s₁.heap->s₁.heap.get? fa=some o->o.data=.func (docDef d.name d.params d.body d.scope pm cd doc)->s₁.heap.CodeRec cd d.name->mg d.name=some (.ref fa)->s₁.heap.get? a=some {cls:=.type "list",data:=.seq vs.toArray}->IntsAre vs ns->ns.length<=n->s₁.gens=#[]->codeAny (model l.prog w) callerA (.call (.ref fa) ⟨[.ref a],[]⟩) (fun r s'=>r=.ok (.ret (.bool true))/\OldK s₁.heap s'.heap/\s'.os=s₁.os/\AllBare s'.gens) s₁):WalkO q loose XP YP l.row.toRowW d [] (fun f vs=>PySem.call f vs):=by intro w s₀ s₁ mg mb G Y fa o pm cd doc dV kV ho hd hcd hD hmg hg args vals as hpre hlay hrd hwl hlo;obtain rfl:dV=.none:=Dflts.none hD hdf;obtain rfl:kV=.none:=Dflts.noKw hD;obtain⟨a,vs,ns,rfl,rfl,hobj,hints,hlen⟩:=zy hn hpre hwl;refine enter_call (codeAny_mono (call w s₀ s₁ mg mb fa o pm cd doc a vs ns G Y ho (fd_plain hd) hcd hmg hobj hints hlen hg) fun r s' hq=>?_);obtain⟨rfl,h2,h3,h4⟩:=hq;exact⟨.inl ⟨.bool true,.bool true,[],rfl,fun _=>rfl,.bool true,zB l _,fun _=>⟨List.Pairwise.nil,fun _ hm=>(nomatch hm)⟩⟩,h2,h3,h4⟩
end Att
namespace L2
open PySem PySem.Spec PyProof.Rows
theorem qR:∀{vs:List Value}{ns:List Int},IntsAre vs ns->Vals (ns.map V.int) vs|_,_,.nil=>.nil|_,_,.cons n t h=>.cons ⟨t,rfl⟩ (qR h)
noncomputable def Only(H:Hp):Prop:=∀b,H b=none\/∃o xs,H b=some (.fH o (.lst xs))
theorem Bq{P:Program}{w:World}{K:PySem.W.Frag}{mg mb:Str->Option Value}{CX:Aw}{k:Nat}{fa a:Addr}{fd:FuncData}{x:Str}{sp:Sp}{s₁:Shared}{vs:List Value}{ns:List Int}(KX:K.In s₁.heap)(hns:s₁.heap.Ns mainGlobals mg)(hb:s₁.heap.Ns builtinsNs mb)(hbb:∀x:Str,x≠"__name__"->mb x=bootBuiltins x)(hlim:s₁.heap.NoLimit)(hg:s₁.gens=#[])(ha:s₁.heap.get? a=some {cls:=.type "list",data:=.seq vs.toArray})(hi:IntsAre vs ns)(hl:ns.length<=sizeLine)(hr:gM k callerA)(F:∀base:Heap,K.In base->base.Ns mainGlobals mg->cJ P w K mg base CX k fa fd [x] sp)(hbind:∀(s:Shared)(u:Value),BindsTo s fd ⟨[u],[]⟩ [(x,u)])(hsp:∀H:Hp,Only H->dB K H a (ns.map V.int)->sp [.ref a] H (fun v _=>v=.bl true) fun _ _ _=>False)(VR:∀H e s',CX [] H s₁ (fun _ _ _=>False) e s'->False):codeAny (model P w) callerA (.call (.ref fa) ⟨[.ref a],[]⟩) (fun r s'=>r=.ok (.ret (.bool true))/\OldK s₁.heap s'.heap/\s'.os=s₁.os/\AllBare s'.gens) s₁:=by
 have rv:=qR hi;have lenV:=hi.length--from an abstract heap in which nothing but the script may be tracked
 have core:∀H:Hp,Only H->dB K H a (ns.map V.int)->jF P w H s₁.heap->(∀b,H b≠none->b=a)->(H a≠none->K.lookup a=none)->codeAny (model P w) callerA (.call (.ref fa) ⟨[.ref a],[]⟩) (fun r s'=>r=.ok (.ret (.bool true))/\OldK s₁.heap s'.heap/\s'.os=s₁.os/\AllBare s'.gens) s₁:=by
  intro H hO hS hok hA hK;have yW:∀{b:Addr}{o:Obj},s₁.heap.get? b=some o->H b=none->(rY s₁.heap H).get? b=some o:=fun e n=>Ce e n;have VP:∀{b:Addr}{o:Obj}{es:Array DictEntry}{ep:Nat},s₁.heap.get? b=some o->o.data=.dict es ep->H b=none:=fun{b o es ep}e d=>by cases q:H b with|none=>rfl|some u=>have e':b=a:=hA b (by rw[q];simp);subst e';rw[ha]at e;cases e;have d':Data.seq vs.toArray _=Data.dict es ep:=d;cases d'
  have XC:∀{b:Addr}{m:Str->Option Value},s₁.heap.Ns b m->(rY s₁.heap H).Ns b m:=fun{b m}⟨o,es,ep,e,d,r⟩=>⟨o,es,ep,yW e (VP e d),d,r⟩;have hKb:K.In (rY s₁.heap H):=fun b o e=>yW (KX b o e) (by cases q:H b with|none=>rfl|some u=>have e':b=a:=hA b (by rw[q];simp);subst e';rw[hK (by rw[q];simp)]at e;cases e);have hM:Mod K mg (rY s₁.heap H):=⟨hKb,XC hns,⟨mb,XC hb,hbb⟩,let⟨mc,h1,h2⟩:=hlim;⟨mc,XC h1,h2⟩⟩;have e0:Iw P w K mg (rY s₁.heap H) callerA [] s₁ H:=⟨rfl,hM,fun b o e=>GR e,Nat.le_of_eq (Ai _ _),trivial,fun b hb=>absurd (show b∈([]:List Addr)from hb) (by simp),hok,.of_eq hg⟩;refine codeAny_mono ((F _ hKb (XC hns)).run callerA [] s₁ H ⟨[.ref a],[]⟩ [.ref a] [.ref a] _ _ hr e0 (hbind s₁ (.ref a)) (.cons rfl .nil) (hsp H hO hS)) fun r s' h=>?_;cases r with|error e=>exact(VR H e s' h).elim|ok fl=>cases fl with|next=>exact False.elim h|brk=>exact False.elim h|cont=>exact False.elim h|ret u=>obtain⟨v,H',os,bare,un,hok',r',q⟩:=h;have q':v=.bl true:=q;subst q';obtain rfl:u=Value.bool true:=r';refine⟨rfl,OldK.of_keep fun b o e=>?_,os,bare⟩;cases q:H b with|none=>exact un.keep b o e q (by intro z;exact absurd (show b∈([]:List Addr)from z) (by simp)) (by simp)|some u=>
        rcases hO b with z|⟨ob,xs,z⟩;.rw[q]at z;cases z
        .have z2:=un.mW b ob _ z;obtain⟨e1,_⟩:=hok b _ z;obtain⟨e2,_⟩:=hok' b _ z2;rw[e]at e1;cases e1;exact e2
 cases hk:K.lookup a with|some o=>--the script is one of the module's own objects
   have e:=KX a o hk;rw[ha]at e;cases e;refine core (fun _=>none) (fun _=>.inl rfl) (.inr ⟨_,vs.toArray,_,hk,rfl,rfl,rfl,by rw[List.size_toArray,lenV];exact hl,by simpa using rv⟩) (fun b u z=>by have z':(none:Option HO)=some u:=z;cases z') (fun b z=>absurd rfl z) fun z=>absurd rfl z|none=>
   refine core (fun b=>if b=a then some (.fH {cls:=.type "list",data:=.seq vs.toArray} (.lst (ns.map V.int)))else none) (fun b=>?_) (.inl (.inr ⟨{cls:=.type "list",data:=.seq vs.toArray},if_pos rfl⟩)) (fun b u z=>?_) (fun b z=>?_) fun _=>hk
   . by_cases hb:b=a;.exact .inr ⟨_,_,if_pos hb⟩
     .exact .inl (if_neg hb)
   . by_cases hb:b=a;.have z':=(if_pos hb).symm.trans z;cases z';subst hb;exact⟨ha,by rw[List.length_map];exact hl,vs,_,rv,ha⟩
     .have z':=(if_neg hb).symm.trans z;cases z'
   . by_cases hb:b=a;.exact hb
     .exact absurd (if_neg hb) z
end L2
namespace L2
open PySem PySem.Spec PyProof.Rows
theorem Hb{l:PySem.W.OpenLaw}{n k:Nat}{q:Program}{loose:List Str}{XP:(Str->Option Value)->Heap->Prop}{YP:World->Heap->Prop}{d:DefRec}{K:Params->PySem.W.Frag}{CX:World->Aw}{sp:World->Sp}{x:Str}(hn:l.most=some n)(hn2:n<=sizeLine)(hdf:d.params.defaults=[])(hr:gM k callerA)(hY:∀(w:World)(h:Heap),YP w h->(K w.params).In h)(F:∀(w:World)(mg:Str->Option Value)(fa:Addr)(h:Heap),(K w.params).In h->h.Ns mainGlobals mg->mg d.name=some (.ref fa)->∃ fd:FuncData,(∀(s:Shared)(u:Value),BindsTo s fd ⟨[u],[]⟩ [(x,u)])/\∀base:Heap,(K w.params).In base->base.Ns mainGlobals mg->cJ l.prog w (K w.params) mg base (CX w) k fa fd [x] (sp w))(hsp:∀(w:World)(H:Hp)(a:Addr)(ns:List Int),ns.length<=n->Only H->dB (K w.params) H a (ns.map V.int)->sp w [.ref a] H (fun v _=>v=.bl true) fun _ _ _=>False)(VR:∀(w:World)(H:Hp)(s:Shared)(e:Value)(s':Shared),CX w [] H s (fun _ _ _=>False) e s'->False):PySem.W.WalkO q loose XP YP l.row.toRowW d [] (fun f vs=>PySem.call f vs):=by refine Att.vq hn hdf fun w s₀ s₁ mg mb fa o pm cd doc a vs ns G Y ho hd hcd hmg hobj hints hlen hg=>?_;have KX:=hY w _ Y;obtain⟨fd,hb,hF⟩:=F w mg fa _ KX G.T.g hmg;exact Bq KX G.T.g G.T.b G.T.builtins G.T.nolimit hg hobj hints (Nat.le_trans hlen hn2) hr hF hb (fun H hO hS=>hsp w H a ns hlen hO hS) fun H e s'=>VR w H s₁ e s'
theorem Br{l:PySem.W.OpenLaw}{n k:Nat}{q:Program}{loose:List Str}{XP:(Str->Option Value)->Heap->Prop}{YP:World->Heap->Prop}{d:DefRec}{K:Params->PySem.W.Frag}{CX:Aw}{sp:PySem.W.Frag->Sp}{x:Str}(hn:l.most=some n)(hn2:n<=sizeLine)(hdf:d.params.defaults=[])(hr:gM k callerA)(hY:∀(w:World)(h:Heap),YP w h->(K w.params).In h)(F:∀(w:World)(mg:Str->Option Value)(fa:Addr)(h:Heap),(K w.params).In h->h.Ns mainGlobals mg->mg d.name=some (.ref fa)->∃ fd:FuncData,(∀(s:Shared)(u:Value),BindsTo s fd ⟨[u],[]⟩ [(x,u)])/\∀base:Heap,(K w.params).In base->base.Ns mainGlobals mg->cJ l.prog w (K w.params) mg base CX k fa fd [x] (sp (K w.params)))(hsp:∀(K:PySem.W.Frag)(H:Hp)(a:Addr)(ns:List Int),ns.length<=n->Only H->dB K H a (ns.map V.int)->sp K [.ref a] H (fun v _=>v=.bl true) fun _ _ _=>False)(VR:∀(H:Hp)(s:Shared)(e:Value)(s':Shared),CX [] H s (fun _ _ _=>False) e s'->False):PySem.W.WalkO q loose XP YP l.row.toRowW d [] (fun f vs=>PySem.call f vs):=Hb (K:=K) (CX:=fun _=>CX) (sp:=fun w=>sp (K w.params)) hn hn2 hdf hr hY F (fun w H a ns h1 h2 h3=>hsp (K w.params) H a ns h1 h2 h3) fun _ H s e s'=>VR H s e s'
end L2/-THE LAST THEOREM(shape;LID,My.*are acq):My.Adr:a structure of the addresses that your layer names(classes,functions);My.Txt K t:a structure(Prop)of the equations over K;My.aaC:{K}{implicit addresses..}(e1:nsIn K mainGlobals"law"=some(some(.ref f)))(e2:K.lookup f=some⟨oc,od,.func(fnOf"law""law"params body scope dV kV doc pm an cdv ct),sl⟩)(e3:codeIn K cdv"law"=true)..:∃t,My.Txt K t;set_option maxRecDepth 100000 in;set_option maxHeartbeats 0 in(the tactic k_is has no namespace:write k_is)-/
namespace L2
open PySem PySem.Spec PyProof.Rows
noncomputable def eG(s:Stmt):Arguments:=match s with|.FunctionDef _ a _ _ _ _ _ _ _ _=>a|_=>{posonlyargs:=[],args:=[],vararg:=none,kwonlyargs:=[],kw_defaults:=[],kwarg:=none,defaults:=[]}
noncomputable def cO(s:Stmt):List Stmt:=match s with|.FunctionDef _ _ b _ _ _ _ _ _ _=>b|_=>[]
noncomputable def aC(s:Stmt):Scope:=match s with|.FunctionDef _ _ _ _ _ _ sc _ _ _=>sc|_=>{kind:=.function,names:=[],isGenerator:=false,isCoroutine:=false}
noncomputable abbrev mV:Aw:=fun _ _ _ _ _ _=>False
noncomputable abbrev E0:XK:=fun _ _ _=>False
theorem Ub{X:Cx}:Passes mV X E0:=fun _ _ _ _ _ _ _ h=>h.elim
structure lK(K:PySem.W.Frag)(x qual:Str)(st:Stmt)(f:Addr)(fd:FuncData):Prop where
 ex:∃(oc:Value)(od:Option Addr)(kV doc pm:Value)(an:Option Addr)(cdv ct:Value)(osl:Array (Option Value)),fd=PySem.W.fnOf x qual (eG st) (cO st) (aC st) .none kV doc pm an cdv ct/\K.lookup f=some ⟨oc,od,.func fd,osl⟩/\PySem.W.codeIn K cdv qual=true
 kp:PySem.W.keepIn K (.ref f)=true
section
variable{P:Program}{w:World}{K:PySem.W.Frag}{mg:Str->Option Value}{base:Heap}
theorem lK.ok{x qual:Str}{st:Stmt}{f:Addr}{fd:FuncData}{N ps:List Str}{k:Nat}{sp:Sp}(F:lK K x qual st f fd)(S:bz N ps (aC st))(len:∀vs H Q E,sp vs H Q E->vs.length=ps.length)(hbody:∀(cdv:Value)(A:Around)(outer:List Env)(s:Shared)(H:Hp)(vs:List V)(Q:VK)(E:XK),gM k (A.deeper (envOfC qual (aC st) s.heap.objs.size f cdv))->sp vs H Q E->∃t,mU (lz mV P w K mg base N qual (aC st) f cdv A outer s H E).Tj (cO st) t/\t {nx:=fun _ H'=>Q .non H',rt:=Q} (start N vs) H):cJ P w K mg base mV (k+1) f fd ps sp:=by obtain⟨oc,od,kV,doc,pm,an,cdv,ct,osl,rfl,lk,hcd⟩:=F.ex;refine Kq lk hcd S len fun A outer s H vs Q E hr hsp=>?_;obtain⟨t,h,q⟩:=hbody cdv A outer s H vs Q E hr hsp;exact⟨t,h.Tj,q⟩
theorem lK.binds{x qual:Str}{st:Stmt}{f:Addr}{fd:FuncData}{ps:List Str}(F:lK K x qual st f fd)(h:∀(kV doc pm:Value)(an:Option Addr)(cdv ct:Value)(us:List Value),us.length=ps.length->bindArgs (PySem.W.fnOf x qual (eG st) (cO st) (aC st) .none kV doc pm an cdv ct) ⟨us,[]⟩=pure (ps.zip us)):Binds K fd ps []:=by obtain⟨oc,od,kV,doc,pm,an,cdv,ct,osl,rfl,lk,hcd⟩:=F.ex;exact .all (h kV doc pm an cdv ct)
theorem KJ{x qual:Str}{st:Stmt}{f:Addr}{oc:Value}{od an:Option Addr}{osl:Array (Option Value)}{kV doc pm cdv ct:Value}(l:K.lookup f=some ⟨oc,od,.func (PySem.W.fnOf x qual (eG st) (cO st) (aC st) .none kV doc pm an cdv ct),osl⟩)(c:PySem.W.codeIn K cdv qual=true)(k:PySem.W.keepIn K (.ref f)=true):lK K x qual st f (PySem.W.fnOf x qual (eG st) (cO st) (aC st) .none kV doc pm an cdv ct):=⟨⟨oc,od,kV,doc,pm,an,cdv,ct,osl,rfl,l,c⟩,k⟩
end
noncomputable def aF(H H':Hp):Prop:=∀b o,H b=some o->H' b=some o
theorem aF.refl(H:Hp):aF H H:=fun _ _ h=>h
theorem aF.trans{H H1 H2:Hp}(a:aF H H1)(b:aF H1 H2):aF H H2:=fun c o h=>b c o (a c o h)
theorem aF.seq{K:PySem.W.Frag}{H H':Hp}{a:Addr}{xs:List V}(e:aF H H')(h:dB K H a xs):dB K H' a xs:=by
 rcases h with(h|⟨o,h⟩)|h;.exact .inl (.inl (e _ _ h))
 .exact .inl (.inr ⟨o,e _ _ h⟩)
 .exact .inr h
end L2
end
section
namespace HH
open PySem
inductive Dc where|k(kvs:List (Int×Int))|t(kvs:List (List Int×Int))deriving DecidableEq
inductive D where|non|bl(b:Bool)|int(i:Int)|str(s:Str)|tup(ds:List D)|lst(ds:List D)|cV(m:Dc)|dv(ks:List Int)(ds:List D)deriving Inhabited
mutual
noncomputable def bw:D->D->Bool|.non,.non=>true|.bl a,.bl b=>a==b|.bl a,.int i=>(if a then(1:Int)else 0)==i|.int i,.bl a=>i==(if a then(1:Int)else 0)|.int i,.int j=>i==j|.str a,.str b=>a==b|.tup xs,.tup ys=>fG xs ys|.lst xs,.lst ys=>fG xs ys|.cV a,.cV b=>decide (a=b)|.dv a xs,.dv b ys=>decide (a=b)&&fG xs ys|_,_=>false
noncomputable def fG:List D->List D->Bool|[],[]=>true|x::xs,y::ys=>bw x y&&fG xs ys|_,_=>false
end
noncomputable def cj:Nat->D->Bool|_,.non=>true|_,.bl _=>true|_,.int _=>true|_,.str _=>true|0,.tup _=>false|0,.lst _=>false|_,.cV _=>false|_,.dv _ _=>false|n+1,.tup ds=>ds.all (cj n)|n+1,.lst ds=>ds.all (cj n)
inductive Sl where|bK|val(b:Bool)(d:D)|own(b:Bool)(ds:List D)|lent(ds:List D)|lC(m:Dc)|hold(rows:List (List D))|jz(kvs:List (Int×D))deriving Inhabited
inductive R where|val(d:D)|own(ds:List D)deriving Inhabited
noncomputable def R.d:R->D|.val d=>d|.own ds=>.lst ds
inductive Res(α:Type)where|ok(a:α)(ρ:List Sl)|exc(k:Nat)(ρ:List Sl)|stuck deriving Inhabited
noncomputable def Res.bind{α β:Type}(f:α->List Sl->Res β):Res α->Res β|.ok a ρ=>f a ρ|.exc _ _=>.stuck|.stuck=>.stuck
noncomputable def lift{α:Type}(o:Option α)(ρ:List Sl):Res α:=match o with|some a=>.ok a ρ|none=>.stuck
inductive Op where|add|sub|mul|fdiv|mod|pow|shl|shr|band|aaD|din|aaE deriving DecidableEq
inductive Cm where|eq|ne|lt|le|gt|ge|Qf|Ey|inn|vL|isT|VV|leT deriving DecidableEq
inductive Ty where|int|bool|str|tuple|list|none deriving DecidableEq
inductive W7 where|len|list|tuple|min2|max2|Ez|V0|sum|all|any|sorted|abs|int|aaF|aaG|Kw|rvs|Jw|keys|V1|Qg|aaH|sset|lkT|lkK|aaI|Qh|rvT|aaJ|aaK|aaL|vM deriving DecidableEq
inductive P where|var(i:Nat)|con(d:D)|glob(x:Str)(d:D)|bin(o:Op)(a b:P)|neg(a:P)|not(a:P)|and(a b:P)|or(a b:P)|cmp(o:Cm)(a b:P)|chain(o o':Cm)(a b c:P)|Qi(o o' o2:Cm)(a b c d:P)|ife(c a b:P)|tup(as:List P)|lst(as:List P)|idx(a i:P)|slice(a lo hi:P)|call(f:Nat)(as:List P)|blt(b:W7)(as:List P)|inst(ts:List Ty)(a:P)|pop(x:Nat)|comp(src:P)(n:Nat)(is:List Nat)(one:Bool)(test:Option P)(elt:P)|yU(a b:P)|XD(a:P)|zip(a b:P)|rev(a:P)|V2(i:Nat)(b:P)(n:Nat)(is:List Nat)(one:Bool)(test:Option P)(elt:P)|dgo(x:Nat)(k d:P)|vw(x:Nat)|dgT(x:Nat)(ks:List P)|aaM(x:Nat)(ks:List P)(d:P)|vgo(x:Nat)(k:P)|vin(x:Nat)(k:P)(neg:Bool)|aaN(k e:Int)|V3(k e:Int)(p q:P)|lix(x:Nat)(e:P)|V4(i:Nat)(a:P)(n:Nat)(is:List Nat)(one:Bool)(test:Option P)(elt:P)deriving Inhabited
noncomputable abbrev lim:Nat:=16777216
noncomputable def oG:D->D->Option R|.int i,.int j=>some (.val (.int (i+j)))|.lst xs,.lst ys=>if xs.length+ys.length<=lim then some (.own (xs++ys))else none|.tup xs,.tup ys=>if xs.length+ys.length<=lim then some (.val (.tup (xs++ys)))else none|.str x,.str y=>if x.length+y.length<=lim then some (.val (.str (x++y)))else none|_,_=>none
noncomputable def nY:D->D->Option R|.int i,.int j=>if((-18446744073709551616<i/\i<18446744073709551616)\/(-18446744073709551616<j/\j<18446744073709551616))then some (.val (.int (i*j)))else none|.lst xs,.int k=>if 0<=k/\0<xs.length/\xs.length*k.toNat<=lim then some (.own (List.replicate k.toNat xs).flatten)else none|.tup xs,.int k=>if 0<=k/\0<xs.length/\xs.length*k.toNat<=lim then some (.val (.tup (List.replicate k.toNat xs).flatten))else none|_,_=>none
noncomputable def vB:D->D->Option R|.int i,.int j=>some (.val (.int (i-j)))|_,_=>none
noncomputable def oR:D->D->Option R|.int i,.int j=>if 0<j/\j<1606938044258990275541962092341162602522202993782792835301376 then some (.val (.int (i/j)))else none|_,_=>none
noncomputable def uH:D->D->Option R|.int i,.int j=>if 0<j then some (.val (.int (i%j)))else none|_,_=>none
noncomputable def vg:D->D->Option R|.int i,.int j=>if 0<=j/\j<=1000/\i.natAbs<18446744073709551616 then some (.val (.int (i^j.toNat)))else none|_,_=>none
noncomputable def BJ:D->D->Option R|.int i,.int j=>if 0<=j/\j<=1000/\i.natAbs<18446744073709551616 then some (.val (.int (i*2^j.toNat)))else none|_,_=>none
noncomputable def Ea:D->D->Option R|.int i,.int j=>if 0<=j then some (.val (.int (i/2^j.toNat)))else none|_,_=>none
noncomputable def xm:D->D->Option R|.int i,.int j=>some (.val (.int (Builtin.bitAnd i j)))|_,_=>none
noncomputable def flat:D->Bool|.tup _=>false|.lst _=>false|.cV _=>false|.dv _ _=>false|_=>true
noncomputable def items:D->Option (List D)|.lst ds=>some ds|.tup ds=>some ds|_=>none
noncomputable def Dz:D->Option (List D)|.tup ds=>some ds|_=>none
noncomputable def Cg(x y:D):Option Bool:=if cj 8 x&&cj 8 y then some (bw x y)else none
noncomputable def oA(x y:D):Option Bool:=if cj 8 x&&cj 8 y then some (!bw x y)else none
noncomputable def Fy(f:Int->Int->Bool):D->D->Option Bool|.int i,.int j=>some (f i j)|_,_=>none
noncomputable def gq:D->Bool|.non=>true|_=>false
noncomputable def RJ(neg:Bool)(x:D):D->Option Bool|.non=>some (if neg then !gq x else gq x)|_=>none
noncomputable def pD(neg:Bool)(x y:D):Option Bool:=(items y).bind fun ys=>if(flat x&&ys.all flat)=true then some (if neg then !(ys.any fun y=>bw y x)else ys.any fun y=>bw y x)else none
noncomputable def cmT(neg:Bool):D->D->Option Bool|.bl b,.bl true=>some (if neg then !b else b)|_,_=>none
noncomputable def aQ:List Int->List Int->Bool|[],_::_=>true|i::is,j::js=>decide (i<j)||(decide (i=j)&&aQ is js)|_,[]=>false
noncomputable def gR:D->Int|.int i=>i|_=>0
noncomputable def bD:D->List Int|.int i=>[i]|.tup ds=>ds.map gR|_=>[]
noncomputable def cT:D->Bool|.int _=>true|_=>false
noncomputable def Dc.get:Dc->D->Option (Option Int)|.k kvs,.int i=>some ((kvs.find? fun kv=>decide (kv.1=i)).map (·.2))|_,_=>none
noncomputable def putD{κ:Type}[DecidableEq κ](kvs:List (κ×Int))(k:κ)(v:Int):List (κ×Int):=if(kvs.any fun kv=>decide (kv.1=k))=true then kvs.map (fun kv=>if kv.1=k then(kv.1,v)else kv)else kvs++[(k,v)]
noncomputable def Dc.put:Dc->D->Int->Option Dc|.k kvs,.int i,v=>if kvs.length<lim then some (.k (putD kvs i v))else none|_,_,_=>none
noncomputable def Dc.Vc:Dc->List D->Option (Option Int)|.t kvs,ds=>if ds.all cT=true then some ((kvs.find? fun kv=>decide (kv.1=ds.map gR)).map (·.2))else none|_,_=>none
noncomputable def Dc.aau:Dc->List D->Int->Option Dc|.t kvs,ds,v=>if ds.all cT=true/\kvs.length<lim then some (.t (putD kvs (ds.map gR) v))else none|_,_,_=>none
noncomputable def Uw:D->List D->Option R|.cV m,ks=>(m.Vc ks).bind fun o=>o.map fun v=>.val (.int v)|_,_=>none
noncomputable def Tv(kvs:List (Int×D))(k:Int):Option D:=(kvs.find? fun p=>decide (p.1=k)).map (·.2)
noncomputable def Ob(kvs:List (Int×D))(k:Int)(d:D):List (Int×D):=if(kvs.any fun p=>decide (p.1=k))=true then kvs.map (fun p=>if p.1=k then(p.1,d)else p)else kvs++[(k,d)]
noncomputable def Ug(neg:Bool):D->D->Option R|.int k,.dv ks _=>some (.val (.bl (if neg then !ks.contains k else ks.contains k)))|_,_=>none
noncomputable def R8:D->D->Option R|.cV m,k=>(m.get k).bind fun o=>o.map fun v=>.val (.int v)|.dv ks ds,.int k=>(Tv (ks.zip ds) k).map .val|_,_=>none
noncomputable def uD:Op->D->D->Option R|.add=>oG|.mul=>nY|.sub=>vB|.fdiv=>oR|.mod=>uH|.pow=>vg|.shl=>BJ|.shr=>Ea|.band=>xm|.aaD=>R8|.din=>Ug false|.aaE=>Ug true
noncomputable def Vz:D->D->Option Bool|.int i,.int j=>some (decide (i<j))|.tup xs,.tup ys=>if(xs.all cT&&ys.all cT)=true then some (aQ (xs.map gR) (ys.map gR))else none|_,_=>none
noncomputable def ZJ:D->D->Option Bool|.int i,.int j=>some (decide (i<=j))|.tup xs,.tup ys=>if(xs.all cT&&ys.all cT)=true then some (!aQ (ys.map gR) (xs.map gR))else none|_,_=>none
noncomputable def cm:Cm->D->D->Option Bool|.eq=>Cg|.ne=>oA|.lt=>Vz|.le=>Fy fun i j=>decide (i<=j)|.leT=>ZJ|.gt=>Fy fun i j=>decide (j<i)|.ge=>Fy fun i j=>decide (j<=i)|.Qf=>RJ false|.Ey=>RJ true|.inn=>pD false|.vL=>pD true|.isT=>cmT false|.VV=>cmT true
noncomputable def mG(o:Cm)(x y:D):Option R:=(cm o x y).map fun k=>.val (.bl k)
noncomputable def stD(ks:List Int)(k:Int):List Int:=if ks.contains k=true then ks else ks++[k]
noncomputable def Vy(ns:List Int):List Int:=ns.foldl stD []
noncomputable def jr(n:Nat)(i:Int):Option Nat:=if 0<=i then(if i<n then some i.toNat else none)else if-(n:Int)<=i then some (i+n).toNat else none
noncomputable def at'{α:Type}(xs:List α)(i:Int):Option α:=(jr xs.length i).bind fun j=>xs[j]?
noncomputable def cF(n d:Nat):Option Int->Nat|none=>d|some i=>if 0<=i then min i.toNat n else(i+n).toNat
noncomputable def cut{α:Type}(xs:List α)(lo hi:Option Int):List α:=(xs.drop (cF xs.length 0 lo)).take (cF xs.length xs.length hi-cF xs.length 0 lo)
noncomputable def optI:D->Option (Option Int)|.non=>some none|.int i=>some (some i)|_=>none
noncomputable def fP:D->Option Int|.int i=>some i|_=>none
noncomputable def vp:D->Option Bool|.bl b=>some b|_=>none
noncomputable def dl2(k e:Int)(x y:D):Option R:=(fP x).bind fun i=>(fP y).bind fun j=>if i=k then none else some (.val (.dv [k,i] [.int e,.int j]))
noncomputable def Y0:D->D->Option R|.lst ds,.int i=>(ds.mapM fP).bind fun ns=>if i∈ns/\ns.length<=1000 then some (.val (.int (ns.idxOf i)))else none|_,_=>none
noncomputable def Aq(x y:D):Option R:=(items x).bind fun ds=>(fP y).bind fun i=>(at' ds i).map .val
noncomputable def G5(x:D):Option R:=(fP x).map fun i=>.val (.int (-i))
noncomputable def LQ:P->Bool|.con .non=>true|_=>false
noncomputable def part(p:P)(d:D):Option (Option Int):=if LQ p then some none else(fP d).map some
noncomputable def QB:D->Option (Option Int)->Option (Option Int)->Option R|.lst xs,some lo,some hi=>some (.own (cut xs lo hi))|.tup xs,some lo,some hi=>some (.val (.tup (cut xs lo hi)))|_,_,_=>none
noncomputable def bU:Ty->D->Bool|.int,.int _=>true|.int,.bl _=>true|.bool,.bl _=>true|.str,.str _=>true|.tuple,.tup _=>true|.list,.lst _=>true|.none,.non=>true|_,_=>false
noncomputable def p8:D->Bool|.tup (x::xs)=>(x::xs).all cT|_=>false
noncomputable def sortable(ds:List D):Bool:=decide (ds.length<=16777216)&&(ds.all cT||ds.all p8)
noncomputable def lH(ds:List D):List D:=ds.mergeSort fun a b=>!aQ (bD b) (bD a)
noncomputable def oF:D->Bool|.tup [.int _,.tup ws]=>ws.all cT|_=>false
noncomputable def pX:D->D|.tup [.int h,.tup ws]=>.tup (.int h::ws)|d=>d
noncomputable def zK:D->D|.tup (.int h::ws)=>.tup [.int h,.tup ws]|d=>d
noncomputable def jG:D->Option (List D)|.lst ds=>some ds|_=>none
noncomputable def RN(p:Int×Int):D:=.tup [.int p.1,.int p.2]
noncomputable def blt:W7->List D->Option R|.len,[x]=>(items x).map fun ds=>.val (.int ds.length)|.list,[x]=>(items x).map fun ds=>.own ds|.tuple,[x]=>(items x).map fun ds=>.val (.tup ds)|.min2,[.int i,.int j]=>some (.val (.int (if j<i then j else i)))|.max2,[.int i,.int j]=>some (.val (.int (if i<j then j else i)))|.Ez,[x]=>((items x).bind fun ds=>ds.mapM fP).bind fun ns=>ns.min?.map fun i=>.val (.int i)|.V0,[x]=>((items x).bind fun ds=>ds.mapM fP).bind fun ns=>ns.max?.map fun i=>.val (.int i)|.sum,[x]=>((items x).bind fun ds=>ds.mapM fP).map fun ns=>.val (.int ns.sum)|.aaF,[x]=>((items x).bind fun ds=>ds.mapM fP).map fun ns=>.val (match ns.min? with|some i=>.int i|none=>.non)|.aaG,[x]=>((items x).bind fun ds=>ds.mapM fP).map fun ns=>.val (match ns.max? with|some i=>.int i|none=>.non)|.aaL,[x]=>((items x).bind fun ds=>ds.mapM fP).map fun ns=>.val (.int (ns.max?.getD 0))|.all,[x]=>((jG x).bind fun ds=>ds.mapM vp).map fun bs=>.val (.bl (bs.all id))|.any,[x]=>((jG x).bind fun ds=>ds.mapM vp).map fun bs=>.val (.bl (bs.any id))|.sorted,[x]=>(jG x).bind fun ds=>if sortable ds then some (.own (lH ds))else none|.vM,[x]=>(jG x).bind fun ds=>if ds.length<=16777216/\ds.all oF=true then some (.own ((lH (ds.map pX)).map zK))else none|.abs,[.int i]=>some (.val (.int (if i<0 then-i else i)))|.int,[.int i]=>some (.val (.int i))|.int,[.bl b]=>some (.val (.int (if b then 1 else 0)))|.Kw,[.lst ds]=>if ds.length<=16777216 then some (.own ds)else none|.rvs,[.tup ds]=>some (.val (.tup ds.reverse))|.Jw,[.lst ds]=>some (.own ds.reverse)|.keys,[.cV (.k kvs)]=>some (.val (.tup (kvs.map fun p=>.int p.1)))|.keys,[.dv ks _]=>some (.val (.tup (ks.map D.int)))|.Qg,[.cV (.t kvs)]=>if sortable (kvs.map fun p=>.tup (p.1.map D.int))then some (.own (lH (kvs.map fun p=>.tup (p.1.map D.int))))else none|.aaH,[.cV (.t kvs)]=>if sortable (kvs.map fun p=>.tup (p.1.map D.int))then some (.own (lH (kvs.map fun p=>.tup (p.1.map D.int))))else none|.sset,[.lst ds]=>if ds.length<64/\ds.all cT=true then some (.own (lH ((Vy (ds.map gR)).map D.int)))else none|.sset,[.tup ds]=>if ds.length<64/\ds.all cT=true then some (.own (lH ((Vy (ds.map gR)).map D.int)))else none|.lkT,[.cV (.t kvs)]=>if kvs.length<=16777216 then some (.own (kvs.map fun p=>.tup (p.1.map D.int)))else none|.lkK,[.dv ks _]=>if ks.length<=16777216 then some (.own (ks.map D.int))else none|.rvT,[.lst ds]=>some (.val (.tup ds.reverse))|.aaI,[.lst ds]=>some (.own ds.reverse)|.Qh,[.dv ks _]=>if ks.length<64 then some (.own (lH (ks.map D.int)))else none|.aaJ,[.cV (.k kvs)]=>if kvs.length<=16777216/\kvs.Pairwise (fun a b=>a.1<b.1)then some (.own (kvs.map RN))else none|.aaK,[.cV (.k kvs)]=>if kvs.length<64 then some (.own (lH (kvs.map RN)))else none|.V1,[.cV (.k kvs)]=>if sortable (kvs.map fun p=>.int p.1)then some (.own (lH (kvs.map fun p=>.int p.1)))else none|_,_=>none
noncomputable def pk(ρ:List Sl)(i:Nat):Option D:=match ρ[i]?with|some (.val _ d)=>some d|some (.own _ ds)=>some (.lst ds)|some (.lent ds)=>some (.lst ds)|_=>none
noncomputable def Cv(ρ:List Sl)(i:Nat):Option (List D):=match pk ρ i with|some (.lst ds)=>some ds|_=>none
noncomputable abbrev Ev:=List Sl->Res R
noncomputable def isVar:P->Option Nat|.var i=>some i|_=>none
noncomputable def cN(i:Option Nat)(e:Ev)(ρ:List Sl):Res D:=match i with|some i=>lift (pk ρ i) ρ|none=>(e ρ).bind fun r ρ=>.ok r.d ρ
noncomputable def jJ(i:Option Nat)(e:Ev)(j:Option Nat)(f:Ev)(ρ:List Sl):Res (D×D):=match i with|some i=>(lift (pk ρ i) ρ).bind fun _ ρ=>(cN j f ρ).bind fun y ρ=>(lift (pk ρ i) ρ).bind fun x ρ=>.ok (x,y) ρ|none=>(cN none e ρ).bind fun x ρ=>(cN j f ρ).bind fun y ρ=>.ok (x,y) ρ
noncomputable def ie(e:Ev)(ρ:List Sl):Res Bool:=(e ρ).bind fun r ρ=>lift (vp r.d) ρ
inductive Arg where|dat(d:D)|tmp(ds:List D)|dU(i:Nat)
noncomputable def uM:R->Arg|.val d=>.dat d|.own ds=>.tmp ds
noncomputable def aZ(ρ:List Sl):List Arg->List Nat->Option (List Sl)|[],_=>some []|.dat d::r,used=>(aZ ρ r used).map fun s=>.val false d::s|.tmp ds::r,used=>(aZ ρ r used).map fun s=>.own false ds::s|.dU i::r,used=>match ρ[i]?with|some (.val _ d)=>(aZ ρ r used).map fun s=>.val false d::s|some (.own _ ds)=>if used.contains i then none else(aZ ρ r (i::used)).map fun s=>.own true ds::s|some (.lent ds)=>if used.contains i then none else(aZ ρ r (i::used)).map fun s=>.lent ds::s|_=>none
noncomputable def aM(i:Nat):List Arg->List Sl->Option Sl|.dU k::as,s::ss=>if k=i then some s else aM i as ss|.dat _::as,_::ss=>aM i as ss|.tmp _::as,_::ss=>aM i as ss|_,_=>none
noncomputable def dq:Sl->Option Sl->Sl|.own b _,some (.own _ ds)=>.own b ds|.own b _,some (.val _ d)=>.val b d|s,_=>s
noncomputable def bY(as:List Arg)(ss:List Sl):Nat->List Sl->List Sl|_,[]=>[]|i,s::ρ=>dq s (aM i as ss)::bY as ss (i+1) ρ
noncomputable abbrev Call:=Nat->List Sl->Res R
noncomputable def gU(c:Call)(f:Nat)(as:List Arg)(ρ:List Sl):Res R:=match aZ ρ as []with|none=>.stuck|some args=>match c f args with|.ok r args'=>.ok r (bY as args' 0 ρ)|.exc _ _=>.stuck|.stuck=>.stuck
noncomputable def put(ρ:List Sl)(i:Nat)(s:Sl):Option (List Sl):=match ρ[i]?with|some .bK=>some (ρ.set i s)|some (.val false _)=>some (ρ.set i s)|some (.own false _)=>some (ρ.set i s)|_=>none
noncomputable def putAll(ρ:List Sl):List Nat->List D->Option (List Sl)|[],[]=>some ρ|i::is,d::ds=>(put ρ i (.val false d)).bind fun ρ=>putAll ρ is ds|_,_=>none
noncomputable def cg(ρ:List Sl)(is:List Nat)(one:Bool)(d:D):Option (List Sl):=match one,is,d with|true,[i],d=>put ρ i (.val false d)|false,is,.tup ds=>putAll ρ is ds|_,_,_=>none
noncomputable def srcOf(i:Option Nat)(e:Ev)(ρ:List Sl):Res (List D):=match i with
 |some i=>match ρ[i]?with|some (.val _ d)=>lift (items d) ρ|some (.own _ ds)=>.ok ds (ρ.set i (.lent ds))|some (.lent ds)=>.ok ds ρ|_=>.stuck
 |none=>(e ρ).bind fun r ρ=>lift (items r.d) ρ
noncomputable def bh(ρ₀:List Sl)(i:Option Nat)(ρ:List Sl):List Sl:=match i with
 |some i=>match ρ₀[i]?with|some (.own b ds)=>ρ.set i (.own b ds)|_=>ρ
 |none=>ρ
noncomputable def ZK(i:Nat)(f:Ev)(ρ:List Sl):Res (List D×List Sl):=(lift (pk ρ i) ρ).bind fun _ ρ=>(f ρ).bind fun r ρb=>(lift (items r.d) ρb).bind fun es ρb=>match ρb[i]?with|some (.val _ d)=>(lift (items d) ρb).bind fun ds ρb=>.ok ((ds.zip es).map fun p=>D.tup [p.1,p.2],ρb) ρb|some (.own _ ds)=>.ok ((ds.zip es).map fun p=>D.tup [p.1,p.2],ρb) (ρb.set i (.lent ds))|some (.lent ds)=>.ok ((ds.zip es).map fun p=>D.tup [p.1,p.2],ρb) ρb|_=>.stuck
noncomputable def Yd(i:Nat)(f:Ev)(ρ:List Sl):Res (List D×List Sl):=(f ρ).bind fun r ρb=>(lift (items r.d) ρb).bind fun es ρb=>match ρb[i]?with|some (.val _ d)=>(lift (items d) ρb).bind fun ds ρb=>.ok ((es.zip ds).map fun p=>D.tup [p.1,p.2],ρb) ρb|some (.own _ ds)=>.ok ((es.zip ds).map fun p=>D.tup [p.1,p.2],ρb) (ρb.set i (.lent ds))|some (.lent ds)=>.ok ((es.zip ds).map fun p=>D.tup [p.1,p.2],ρb) ρb|_=>.stuck
noncomputable def turns(is:List Nat)(one:Bool)(test:List Sl->Res Bool)(elt:Ev):List D->List D->List Sl->Res (List D)|[],acc,ρ=>.ok acc ρ|d::r,acc,ρ=>match cg ρ is one d with|none=>.stuck|some ρ=>(test ρ).bind fun b ρ=>if b then(elt ρ).bind fun x ρ=>turns is one test elt r (acc++[x.d]) ρ else turns is one test elt r acc ρ
mutual
noncomputable def ev(c:Call):P->List Sl->Res R
 |.var i,ρ=>match ρ[i]?with|some (.val _ d)=>.ok (.val d) ρ|some (.own b ds)=>.ok (.val (.lst ds)) (ρ.set i (.val b (.lst ds)))|some (.lC (.k kvs))=>.ok (.val (.cV (.k kvs))) (ρ.set i (.val false (.cV (.k kvs))))|some (.jz kvs)=>.ok (.val (.dv (kvs.map (·.1)) (kvs.map (·.2)))) (ρ.set i (.val false (.dv (kvs.map (·.1)) (kvs.map (·.2)))))|_=>.stuck
 |.con d,ρ=>.ok (.val d) ρ|.glob _ d,ρ=>.ok (.val d) ρ|.bin o a b,ρ=>(jJ (isVar a) (ev c a) (isVar b) (ev c b) ρ).bind fun xy ρ=>lift (uD o xy.1 xy.2) ρ|.neg a,ρ=>(cN (isVar a) (ev c a) ρ).bind fun x ρ=>lift (G5 x) ρ|.not a,ρ=>(ie (ev c a) ρ).bind fun b ρ=>.ok (.val (.bl (!b))) ρ|.and a b,ρ=>(ie (ev c a) ρ).bind fun x ρ=>if x then(ie (ev c b) ρ).bind fun y ρ=>.ok (.val (.bl y)) ρ else .ok (.val (.bl false)) ρ|.or a b,ρ=>(ie (ev c a) ρ).bind fun x ρ=>if x then .ok (.val (.bl true)) ρ else(ie (ev c b) ρ).bind fun y ρ=>.ok (.val (.bl y)) ρ|.cmp o a b,ρ=>(jJ (isVar a) (ev c a) (isVar b) (ev c b) ρ).bind fun xy ρ=>lift (mG o xy.1 xy.2) ρ|.chain o o' a b d,ρ=>(jJ (isVar a) (ev c a) (isVar b) (ev c b) ρ).bind fun xy ρ=>(lift (if flat xy.2=true then cm o xy.1 xy.2 else none) ρ).bind fun k ρ=>if k then(cN (isVar d) (ev c d) ρ).bind fun z ρ=>lift (mG o' xy.2 z) ρ else .ok (.val (.bl false)) ρ|.Qi o o' o2 a b d e,ρ=>(jJ (isVar a) (ev c a) (isVar b) (ev c b) ρ).bind fun xy ρ=>(lift (if flat xy.2=true then cm o xy.1 xy.2 else none) ρ).bind fun k ρ=>if k then(cN (isVar d) (ev c d) ρ).bind fun z ρ=>(lift (if flat z=true then cm o' xy.2 z else none) ρ).bind fun k2 ρ=>if k2 then(cN (isVar e) (ev c e) ρ).bind fun u ρ=>lift (mG o2 z u) ρ else .ok (.val (.bl false)) ρ else .ok (.val (.bl false)) ρ|.ife t a b,ρ=>(ie (ev c t) ρ).bind fun k ρ=>if k then(ev c a ρ).bind fun r ρ=>.ok (.val r.d) ρ else(ev c b ρ).bind fun r ρ=>.ok (.val r.d) ρ|.tup as,ρ=>(evs c as ρ).bind fun ds ρ=>.ok (.val (.tup ds)) ρ|.lst as,ρ=>(evs c as ρ).bind fun ds ρ=>.ok (.own ds) ρ|.idx a i,ρ=>(jJ (isVar a) (ev c a) (isVar i) (ev c i) ρ).bind fun xy ρ=>lift (Aq xy.1 xy.2) ρ|.slice a l h,ρ=>match isVar a with|some i=>(lift (pk ρ i) ρ).bind fun _ ρ=>(cN (isVar l) (ev c l) ρ).bind fun y ρ=>(cN (isVar h) (ev c h) ρ).bind fun z ρ=>(lift (pk ρ i) ρ).bind fun x ρ=>lift (QB x (part l y) (part h z)) ρ|none=>(cN none (ev c a) ρ).bind fun x ρ=>(cN (isVar l) (ev c l) ρ).bind fun y ρ=>(cN (isVar h) (ev c h) ρ).bind fun z ρ=>lift (QB x (part l y) (part h z)) ρ
 |.call f as,ρ=>(tU c as ρ).bind fun xs ρ=>gU c f xs ρ|.blt b [a],ρ=>(cN (isVar a) (ev c a) ρ).bind fun x ρ=>lift (blt b [x]) ρ|.blt b as,ρ=>(evs c as ρ).bind fun ds ρ=>lift (blt b ds) ρ|.inst ts a,ρ=>(cN (isVar a) (ev c a) ρ).bind fun x ρ=>.ok (.val (.bl (ts.any fun t=>bU t x))) ρ|.pop x,ρ=>match ρ[x]?with|some (.own b ds)=>lift (ds.getLast?.map .val) (ρ.set x (.own b ds.dropLast))|_=>.stuck
 |.comp src n is one test elt,ρ=>(srcOf (isVar src) (ev c src) ρ).bind fun ds ρ₁=>if ds.length<=lim then(turns is one (pK c test) (ev c elt) ds [] (ρ₁++List.replicate n .bK)).bind fun xs ρ₂=>.ok (.own xs) (bh ρ (isVar src) (ρ₂.take ρ₁.length))else .stuck|.yU a b,ρ=>(jJ (isVar a) (ev c a) (isVar b) (ev c b) ρ).bind fun xy ρ=>lift ((fP xy.1).bind fun i=>(fP xy.2).bind fun j=>if-1000000<=i/\i<=1000000000/\j<=1000000000/\-1000000000<=j then some (.val (.lst ((List.range (j-i).toNat).map fun(k:Nat)=>D.int (i+(k:Int)))))else none) ρ|.XD a,ρ=>(ev c a ρ).bind fun r ρ=>lift ((items r.d).map fun ds=>.val (.lst (ds.mapIdx fun i d=>D.tup [.int (i:Int),d]))) ρ|.zip a b,ρ=>(ev c a ρ).bind fun x ρ=>(ev c b ρ).bind fun y ρ=>lift ((items x.d).bind fun ds=>(items y.d).map fun es=>.val (.lst ((ds.zip es).map fun p=>D.tup [p.1,p.2]))) ρ|.rev a,ρ=>(ev c a ρ).bind fun r ρ=>lift ((Dz r.d).map fun ds=>.val (.lst ds.reverse)) ρ|.V2 i b n is one test elt,ρ=>(ZK i (ev c b) ρ).bind fun du ρ₁=>if du.1.length<=lim then(turns is one (pK c test) (ev c elt) du.1 [] (ρ₁++List.replicate n .bK)).bind fun xs ρ₂=>.ok (.own xs) (bh du.2 (some i) (ρ₂.take ρ₁.length))else .stuck|.dgo x k d,ρ=>match ρ[x]?with
   |some (.lC _)=>(cN (isVar k) (ev c k) ρ).bind fun kd ρ=>(cN (isVar d) (ev c d) ρ).bind fun dd ρ=>match ρ[x]?with|some (.lC m)=>lift ((m.get kd).bind fun o=>(fP dd).map fun v=>.val (.int (o.getD v))) ρ|_=>.stuck
   |_=>.stuck
 |.vw x,ρ=>match ρ[x]?with|some (.lC m)=>.ok (.val (.cV m)) (ρ.set x (.val false (.cV m)))|some (.jz kvs)=>.ok (.val (.dv (kvs.map (·.1)) (kvs.map (·.2)))) (ρ.set x (.val false (.dv (kvs.map (·.1)) (kvs.map (·.2)))))|some (.own b ds)=>.ok (.val (.lst ds)) (ρ.set x (.val b (.lst ds)))|some (.val _ d)=>.ok (.val d) ρ|_=>.stuck
 |.dgT x ks,ρ=>(lift (pk ρ x) ρ).bind fun _ ρ=>(evs c ks ρ).bind fun V5 ρ=>(lift (pk ρ x) ρ).bind fun dd ρ=>lift (Uw dd V5) ρ|.aaM x ks d,ρ=>match ρ[x]?with
   |some (.lC _)=>(evs c ks ρ).bind fun V5 ρ=>(cN (isVar d) (ev c d) ρ).bind fun dd ρ=>match ρ[x]?with|some (.lC m)=>lift ((m.Vc V5).bind fun o=>(fP dd).map fun v=>.val (.int (o.getD v))) ρ|_=>.stuck
   |_=>.stuck
 |.vgo x k,ρ=>match ρ[x]?with
   |some (.jz _)=>(cN (isVar k) (ev c k) ρ).bind fun kd ρ=>match ρ[x]?with|some (.jz kvs)=>lift ((fP kd).bind fun k=>(Tv kvs k).map .val) ρ|_=>.stuck
   |_=>.stuck
 |.vin x k neg,ρ=>(cN (isVar k) (ev c k) ρ).bind fun kd ρ=>match ρ[x]?with|some (.jz kvs)=>lift ((fP kd).map fun k=>.val (.bl (if neg then !(kvs.map (·.1)).contains k else(kvs.map (·.1)).contains k))) ρ|_=>.stuck
 |.aaN k e,ρ=>.ok (.val (.dv [k] [.int e])) ρ|.V3 k e p q,ρ=>(cN (isVar p) (ev c p) ρ).bind fun x ρ=>(cN (isVar q) (ev c q) ρ).bind fun y ρ=>lift (dl2 k e x y) ρ|.lix x e,ρ=>(lift (pk ρ x) ρ).bind fun _ ρ=>(cN (isVar e) (ev c e) ρ).bind fun k ρ=>(lift (pk ρ x) ρ).bind fun d ρ=>lift (Y0 d k) ρ|.V4 i a n is one test elt,ρ=>(Yd i (ev c a) ρ).bind fun du ρ₁=>if du.1.length<=lim then(turns is one (pK c test) (ev c elt) du.1 [] (ρ₁++List.replicate n .bK)).bind fun xs ρ₂=>.ok (.own xs) (bh du.2 (some i) (ρ₂.take ρ₁.length))else .stuck
noncomputable def evs(c:Call):List P->List Sl->Res (List D)|[],ρ=>.ok [] ρ|a::r,ρ=>(ev c a ρ).bind fun x ρ=>(evs c r ρ).bind fun xs ρ=>.ok (x.d::xs) ρ
noncomputable def tU(c:Call):List P->List Sl->Res (List Arg)|[],ρ=>.ok [] ρ|a::r,ρ=>match isVar a with|some i=>(lift (pk ρ i) ρ).bind fun _ ρ=>(tU c r ρ).bind fun xs ρ=>.ok (.dU i::xs) ρ|none=>(ev c a ρ).bind fun x ρ=>(tU c r ρ).bind fun xs ρ=>.ok (uM x::xs) ρ
noncomputable def pK(c:Call):Option P->List Sl->Res Bool|none,ρ=>.ok true ρ|some t,ρ=>ie (ev c t) ρ
end
inductive S where|pass|brk|cont|bad|expr(e:P)|asg(i:Nat)(e:P)|par(i j:Nat)(a b:P)|unp(i:List Nat)(e:P)|Am(x:Nat)(i e:P)|app(x:Nat)(e:P)|ext(x:Nat)(e:P)|ret(e:P)|aaP|ifs(c:P)(a b:List S)|pR(src:P)(i:List Nat)(one:Bool)(body:List S)|whl(c:P)(body:List S)|aaQ(x:Nat)(i:P)|swp(x:Nat)(i:P)(y:Nat)(j:P)(a b:P)|aug(x:Nat)(sub:Bool)(e:P)|aaR(x:Nat)(i:P)(sub:Bool)(e:P)|aaS(x:Nat)(e:P)|xr(k:Nat)|aaT(body:List S)(k:Nat)(d:D)|Qj(body:List S)(x:Nat)(hs:List (List S))|aaU(x:Nat)(t:Bool)|dput(x:Nat)(k e:P)|V6(x:Nat)(ks:List P)(e:P)|aaV(x:Nat)(a b:P)(body:List S)|rvl(x:Nat)|ins(x:Nat)(i e:P)|aaW(x:Nat)(src:P)(k:Nat)(is:List Nat)(one:Bool)(elt:P)|aaX(x:Nat)(a b:P)|aaY(x:Nat)(i j e:P)|aaZ(x:Nat)(i j:P)(sub:Bool)(e:P)|aa0(x:Nat)(i e:P)|aa1(x:Nat)(i:P)|aa2(x y:Nat)(j k l:P)|aa3(src:P)(is:List Nat)(one:Bool)(body:List S)|fH(x:Nat)|fz(x:Nat)|ifH(x:Nat)(V7:List Nat)(t:P)(a b:List S)|aa4(x:Nat)|aa5(x:Nat)(k e:Int)|Ob(x:Nat)(k e:P)deriving Inhabited
inductive Fl where|next|brk|cont|ret(r:R)deriving Inhabited
noncomputable def zR:R->Sl|.val d=>.val false d|.own ds=>.own false ds
noncomputable def lL(is:List Nat)(one:Bool)(body:List Sl->Res Fl):List D->List Sl->Res Fl|[],ρ=>.ok .next ρ|d::r,ρ=>match cg ρ is one d with|none=>.stuck|some ρ=>(body ρ).bind fun fl ρ=>match fl with|.next=>lL is one body r ρ|.cont=>lL is one body r ρ|.brk=>.ok .next ρ|.ret r=>.ok (.ret r) ρ
noncomputable def Pq(x:Nat)(body:List Sl->Res Fl):List (List D)->List Sl->Res Fl|[],ρ=>.ok .next ρ|ds::r,ρ=>match put ρ x (.own false ds)with|none=>.stuck|some ρ=>(body ρ).bind fun fl ρ=>match fl with|.next=>Pq x body r ρ|.cont=>Pq x body r ρ|.brk=>.ok .next ρ|.ret r=>.ok (.ret r) ρ
noncomputable def tG(test:List Sl->Res Bool)(body:List Sl->Res Fl):Nat->List Sl->Res Fl|0,_=>.stuck|n+1,ρ=>(test ρ).bind fun b ρ=>if b then(body ρ).bind fun fl ρ=>match fl with|.next=>tG test body n ρ|.cont=>tG test body n ρ|.brk=>.ok .next ρ|.ret r=>.ok (.ret r) ρ else .ok .next ρ
noncomputable def Df(is:List Nat)(one:Bool)(elt:Ev):List D->List (List D)->List Sl->Res (List (List D))|[],acc,ρ=>.ok acc ρ|d::r,acc,ρ=>match cg ρ is one d with|none=>.stuck|some ρ=>(elt ρ).bind fun x ρ=>match x with|.own ds=>Df is one elt r (acc++[ds]) ρ|.val _=>.stuck
noncomputable def rowAt(rows:List (List D))(k:Int):Option (List D):=(jr rows.length k).bind fun r=>rows[r]?
noncomputable def tD(rows:List (List D))(k:Int)(f:List D->Option (List D)):Option (List (List D)):=(jr rows.length k).bind fun r=>(rows[r]?).bind fun row=>(f row).map fun Qk=>rows.set r Qk
noncomputable def setAt(l:Int)(d:D)(row:List D):Option (List D):=(jr row.length l).map fun m=>row.set m d
noncomputable def ju(ρ:List Sl)(x:Nat):Option (List (List D)):=match ρ[x]?with|some (.hold rows)=>some rows|_=>none
noncomputable def Bj(ρ:List Sl)(x:Nat)(k:D):Option (List D):=(ju ρ x).bind fun rows=>(fP k).bind fun k=>rowAt rows k
noncomputable def vh(ρ:List Sl)(x:Nat)(o:Option (List (List D))):Res Fl:=match o with|some rows=>.ok .next (ρ.set x (.hold rows))|none=>.stuck
noncomputable def rowOne(x r:Nat)(ej ek el:List Sl->Res D)(ρ:List Sl):Res Fl:=(ek ρ).bind fun k ρ=>(lift ((ju ρ x).bind fun rows=>(rows[r]?).bind fun row=>(fP k).bind fun k=>(at' row k).bind fP) ρ).bind fun u ρ=>(el ρ).bind fun l ρ=>(lift ((ju ρ x).bind fun rows=>(rows[r]?).bind fun row=>(fP l).bind fun l=>(at' row l).bind fP) ρ).bind fun v ρ=>(ej ρ).bind fun j ρ=>vh ρ x ((ju ρ x).bind fun rows=>(rows[r]?).bind fun row=>(fP j).bind fun j=>(setAt j (.int (u+v)) row).map fun Qk=>rows.set r Qk)
noncomputable def Bb(x y:Nat)(ej ek el:List Sl->Res D):Nat->Nat->List Sl->Res Fl|0,_,ρ=>.ok .next ρ|m+1,r,ρ=>(lift (put ρ y .bK) ρ).bind fun ρ _=>(rowOne x r ej ek el ρ).bind fun _ ρ=>Bb x y ej ek el m (r+1) ρ
noncomputable def hide(V7:List Nat)(x:Nat)(d:D):Nat->List Sl->List Sl|_,[]=>[]|i,s::ρ=>(if i=x then .val true d else if V7.contains i=true then(match s with|.val _ d=>.val true d|_=>.bK)else .bK)::hide V7 x d (i+1) ρ
noncomputable def K4(is:List Nat)(one:Bool)(body:List Sl->Res Fl)(bx:List Sl->Option (Nat×List Sl)):List D->List Sl->Option (Nat×List Sl)|[],_=>none|d::r,ρ=>match cg ρ is one d with|none=>none|some ρ=>match bx ρ with|some x=>some x|none=>match body ρ with|.ok .next ρ1=>K4 is one body bx r ρ1|.ok .cont ρ1=>K4 is one body bx r ρ1|_=>none
noncomputable def wj(test:List Sl->Res Bool)(body:List Sl->Res Fl)(bx:List Sl->Option (Nat×List Sl)):Nat->List Sl->Option (Nat×List Sl)|0,_=>none|n+1,ρ=>match test ρ with
   |.ok true ρ1=>match bx ρ1 with|some x=>some x|none=>match body ρ1 with|.ok .next ρ2=>wj test body bx n ρ2|.ok .cont ρ2=>wj test body bx n ρ2|_=>none
   |_=>none
noncomputable def rZ:P->P|.idx a _=>a|e=>e
noncomputable def WW:Sl->Bool|.bK=>true|.val b _=>!b|.own b _=>!b|.lent _=>false|.lC _=>true|.hold _=>false|.jz _=>true
noncomputable def ug(c:Call)(e:P)(ρ:List Sl):Option (Nat×List Sl):=match rZ e with
 |.call f as=>match tU c as ρ with
   |.ok xs ρ1=>match aZ ρ1 xs []with
     |some args=>match c f args with|.exc k args'=>some (k,bY xs args' 0 ρ1)|_=>none
     |none=>none
   |_=>none
 |_=>none
mutual
noncomputable def ex(c:Call)(n:Nat):S->List Sl->Res Fl
 |.pass,ρ=>.ok .next ρ|.brk,ρ=>.ok .brk ρ|.cont,ρ=>.ok .cont ρ|.bad,_=>.stuck|.expr e,ρ=>(ev c e ρ).bind fun _ ρ=>.ok .next ρ|.asg i e,ρ=>(ev c e ρ).bind fun r ρ=>(lift (put ρ i (zR r)) ρ).bind fun ρ' _=>.ok .next ρ'|.par i j a b,ρ=>(ev c a ρ).bind fun x ρ=>(ev c b ρ).bind fun y ρ=>(lift ((put ρ i (.val false x.d)).bind fun ρ=>put ρ j (.val false y.d)) ρ).bind fun ρ' _=>.ok .next ρ'|.unp is e,ρ=>(ev c e ρ).bind fun r ρ=>match r.d with|.tup ds=>(lift (putAll ρ is ds) ρ).bind fun ρ' _=>.ok .next ρ'|_=>.stuck
 |.Am x i e,ρ=>(ev c e ρ).bind fun r ρ=>(lift (pk ρ x) ρ).bind fun _ ρ=>(cN (isVar i) (ev c i) ρ).bind fun k ρ=>match ρ[x]?,k with
   |some (.own b ds),.int k=>match jr ds.length k with|some j=>.ok .next (ρ.set x (.own b (ds.set j r.d)))|none=>.stuck
   |_,_=>.stuck
 |.app x e,ρ=>(lift (Cv ρ x) ρ).bind fun _ ρ=>(ev c e ρ).bind fun r ρ=>match ρ[x]?with|some (.own b ds)=>if ds.length<lim then .ok .next (ρ.set x (.own b (ds++[r.d])))else .stuck|_=>.stuck
 |.ext x e,ρ=>(lift (Cv ρ x) ρ).bind fun _ ρ=>(ev c e ρ).bind fun r ρ=>match ρ[x]?,r.d with|some (.own b ds),.lst es=>if ds.length+es.length<=lim then .ok .next (ρ.set x (.own b (ds++es)))else .stuck|_,_=>.stuck
 |.ret e,ρ=>match isVar e with
   |some i=>match ρ[i]?with|some (.own false ds)=>.ok (.ret (.own ds)) (ρ.set i .bK)|_=>(ev c e ρ).bind fun r ρ=>.ok (.ret r) ρ
   |none=>(ev c e ρ).bind fun r ρ=>.ok (.ret r) ρ
 |.aaP,ρ=>.ok (.ret (.val .non)) ρ|.ifs t a b,ρ=>(ie (ev c t) ρ).bind fun k ρ=>if k then dw c n a ρ else dw c n b ρ|.pR src is one body,ρ=>(srcOf (isVar src) (ev c src) ρ).bind fun ds ρ₁=>(lL is one (dw c n body) ds ρ₁).bind fun fl ρ₂=>.ok fl (bh ρ (isVar src) ρ₂)|.whl t body,ρ=>tG (ie (ev c t)) (dw c n body) n ρ|.aaQ x i,ρ=>(lift (Cv ρ x) ρ).bind fun _ ρ=>(cN (isVar i) (ev c i) ρ).bind fun k ρ=>match ρ[x]?,k with
   |some (.own b ds),.int k=>match jr ds.length k with|some j=>if ds.length<=lim then .ok .next (ρ.set x (.own b (ds.eraseIdx j)))else .stuck|none=>.stuck
   |_,_=>.stuck
 |.swp x i y j a b,ρ=>(ev c a ρ).bind fun u ρ=>(ev c b ρ).bind fun v ρ=>(lift (pk ρ x) ρ).bind fun _ ρ=>(cN (isVar i) (ev c i) ρ).bind fun k ρ=>match ρ[x]?,k with
   |some (.own b ds),.int k=>match jr ds.length k with
     |some m=>(lift (pk (ρ.set x (.own b (ds.set m u.d))) y) (ρ.set x (.own b (ds.set m u.d)))).bind fun _ ρ=>(cN (isVar j) (ev c j) ρ).bind fun k ρ=>match ρ[y]?,k with
       |some (.own b ds),.int k=>match jr ds.length k with|some m=>.ok .next (ρ.set y (.own b (ds.set m v.d)))|none=>.stuck
       |_,_=>.stuck
     |none=>.stuck
   |_,_=>.stuck
 |.aug x sub e,ρ=>(lift (pk ρ x) ρ).bind fun a ρ=>(cN (isVar e) (ev c e) ρ).bind fun b ρ=>match a,b with|.int i,.int j=>(lift (put ρ x (.val false (.int (if sub then i-j else i+j)))) ρ).bind fun ρ' _=>.ok .next ρ'|_,_=>.stuck
 |.aaR x i sub e,ρ=>(lift (Cv ρ x) ρ).bind fun _ ρ=>(cN (isVar i) (ev c i) ρ).bind fun k ρ=>(lift (Cv ρ x) ρ).bind fun l ρ=>(lift ((fP k).bind fun i=>at' l i) ρ).bind fun a ρ=>(cN (isVar e) (ev c e) ρ).bind fun b ρ=>match a,b,ρ[x]?,k with
   |.int u,.int v,some (.own bb ds),.int k=>match jr ds.length k with|some j=>.ok .next (ρ.set x (.own bb (ds.set j (.int (if sub then u-v else u+v)))))|none=>.stuck
   |_,_,_,_=>.stuck
 |.aaS x e,ρ=>(lift (Cv ρ x) ρ).bind fun _ ρ=>(ev c e ρ).bind fun r ρ=>match ρ[x]?,r with|some (.own b ds),.own es=>if ds.length+es.length<=lim then .ok .next (ρ.set x (.own b (ds++es)))else .stuck|_,_=>.stuck
 |.aaU x t,ρ=>match ρ[x]?with|some .bK=>.ok .next (ρ.set x (.lC (if t then .t []else .k [])))|_=>.stuck
 |.dput x k e,ρ=>(ev c e ρ).bind fun r ρ=>match ρ[x]?with
   |some (.lC _)=>(cN (isVar k) (ev c k) ρ).bind fun kd ρ=>match ρ[x]?,r with
     |some (.lC m),.val (.int v)=>match m.put kd v with|some m'=>.ok .next (ρ.set x (.lC m'))|none=>.stuck
     |_,_=>.stuck
   |_=>.stuck
 |.xr _,_=>.stuck|.aaT body k d,ρ=>match dw c n body ρ with|.ok fl ρ'=>.ok fl ρ'|_=>match iJ c n body ρ with|some (k',ρ')=>if k'=k then .ok (.ret (.val d)) ρ' else .stuck|none=>.stuck
 |.Qj body x hs,ρ=>match dw c n body ρ with|.ok fl ρ'=>.ok fl ρ'|_=>match iJ c n body ρ with
     |some (k,_)=>if ρ.all WW=true then match LK c n hs k (List.replicate ρ.length .bK)with
      |.ok .next ρ2=>match ρ2[x]?with|some .bK=>.ok .next ρ2|_=>.stuck
      |_=>.stuck else .stuck|none=>.stuck
 |.V6 x ks e,ρ=>(ev c e ρ).bind fun r ρ=>match ρ[x]?with
   |some (.lC _)=>(evs c ks ρ).bind fun V5 ρ=>match ρ[x]?,r with
     |some (.lC m),.val (.int v)=>match m.aau V5 v with|some m'=>.ok .next (ρ.set x (.lC m'))|none=>.stuck
     |_,_=>.stuck
   |_=>.stuck
 |.aaV x a b body,ρ=>(ev c a ρ).bind fun r ρ=>(ev c b ρ).bind fun u ρ=>match r,u with|.own ds,.own es=>Pq x (dw c n body) [ds,es] ρ|_,_=>.stuck
 |.ins x i e,ρ=>(lift (Cv ρ x) ρ).bind fun _ ρ=>(cN (isVar i) (ev c i) ρ).bind fun k ρ=>(ev c e ρ).bind fun r ρ=>match ρ[x]?,k with|some (.own b ds),.int j=>if 0<=j/\j<=1000000/\ds.length<lim then .ok .next (ρ.set x (.own b (ds.take j.toNat++r.d::ds.drop j.toNat)))else .stuck|_,_=>.stuck
 |.rvl x,ρ=>(lift (Cv ρ x) ρ).bind fun _ ρ=>match ρ[x]?with|some (.own b ds)=>.ok .next (ρ.set x (.own b ds.reverse))|_=>.stuck
 |.aaW x src k is one elt,ρ=>(srcOf (isVar src) (ev c src) ρ).bind fun ds ρ₁=>if ds.length<=lim then(Df is one (ev c elt) ds [] (ρ₁++List.replicate k .bK)).bind fun rows ρ₂=>(lift (put (bh ρ (isVar src) (ρ₂.take ρ₁.length)) x (.hold rows)) ρ).bind fun ρ' _=>.ok .next ρ' else .stuck|.aaX x a b,ρ=>(ev c a ρ).bind fun r ρ=>(ev c b ρ).bind fun u ρ=>match r,u with|.own ds,.own es=>(lift (put ρ x (.hold [ds,es])) ρ).bind fun ρ' _=>.ok .next ρ'|_,_=>.stuck
 |.aaY x i j e,ρ=>(ev c e ρ).bind fun r ρ=>(cN (isVar i) (ev c i) ρ).bind fun k ρ=>(lift (Bj ρ x k) ρ).bind fun _ ρ=>(cN (isVar j) (ev c j) ρ).bind fun l ρ=>vh ρ x ((ju ρ x).bind fun rows=>(fP k).bind fun k=>(fP l).bind fun l=>tD rows k (setAt l r.d))|.aaZ x i j sub e,ρ=>(cN (isVar i) (ev c i) ρ).bind fun k ρ=>(lift (Bj ρ x k) ρ).bind fun _ ρ=>(cN (isVar j) (ev c j) ρ).bind fun l ρ=>(lift ((Bj ρ x k).bind fun row=>(fP l).bind fun l=>(at' row l).bind fP) ρ).bind fun u ρ=>(cN (isVar e) (ev c e) ρ).bind fun w ρ=>(cN (isVar i) (ev c i) ρ).bind fun k ρ=>(lift (Bj ρ x k) ρ).bind fun _ ρ=>(cN (isVar j) (ev c j) ρ).bind fun l ρ=>vh ρ x ((ju ρ x).bind fun rows=>(fP w).bind fun v=>(fP k).bind fun k=>(fP l).bind fun l=>tD rows k (setAt l (.int (if sub then u-v else u+v))))|.aa0 x i e,ρ=>(cN (isVar i) (ev c i) ρ).bind fun k ρ=>(lift (Bj ρ x k) ρ).bind fun _ ρ=>(ev c e ρ).bind fun r ρ=>vh ρ x ((ju ρ x).bind fun rows=>(fP k).bind fun k=>tD rows k fun row=>if row.length<lim then some (row++[r.d])else none)|.aa1 x i,ρ=>(cN (isVar i) (ev c i) ρ).bind fun k ρ=>vh ρ x ((ju ρ x).bind fun rows=>(fP k).bind fun k=>tD rows k fun _=>some [])|.aa2 x y j k l,ρ=>(lift (ju ρ x) ρ).bind fun rows ρ=>Bb x y (cN (isVar j) (ev c j)) (cN (isVar k) (ev c k)) (cN (isVar l) (ev c l)) rows.length 0 ρ|.aa3 src is one body,ρ=>(ev c src ρ).bind fun r ρ₁=>(lift (items r.d) ρ₁).bind fun ds ρ₁=>lL is one (dw c n body) ds ρ₁|.fH x,ρ=>match ρ[x]?with|some (.hold rows)=>.ok .next (ρ.set x (.val false (.lst (rows.map D.lst))))|_=>.stuck
 |.fz x,ρ=>match ρ[x]?with|some (.own b ds)=>.ok .next (ρ.set x (.val b (.lst ds)))|some (.val _ _)=>.ok .next ρ|_=>.stuck
 |.ifH x V7 t a b,ρ=>(lift (ju ρ x) ρ).bind fun rows ρ=>(ie (ev c t) (hide V7 x (.lst (rows.map D.lst)) 0 ρ)).bind fun k _=>if k then dw c n a ρ else dw c n b ρ|.aa4 x,ρ=>match ρ[x]?with|some .bK=>.ok .next (ρ.set x (.jz []))|some (.jz _)=>.ok .next (ρ.set x (.jz []))|some (.val false _)=>.ok .next (ρ.set x (.jz []))|_=>.stuck
 |.aa5 x k e,ρ=>match ρ[x]?with|some .bK=>.ok .next (ρ.set x (.jz [(k,.int e)]))|some (.jz _)=>.ok .next (ρ.set x (.jz [(k,.int e)]))|some (.val false _)=>.ok .next (ρ.set x (.jz [(k,.int e)]))|_=>.stuck
 |.Ob x k e,ρ=>(ev c e ρ).bind fun r ρ=>match ρ[x]?with
   |some (.jz _)=>(cN (isVar k) (ev c k) ρ).bind fun kd ρ=>match ρ[x]?,kd with|some (.jz kvs),.int k=>if kvs.length<lim then .ok .next (ρ.set x (.jz (Ob kvs k r.d)))else .stuck|_,_=>.stuck
   |_=>.stuck
noncomputable def LK(c:Call)(n:Nat):List (List S)->Nat->List Sl->Res Fl|[],_,_=>.stuck|a::_,0,ρ=>dw c n a ρ|_::r,k+1,ρ=>LK c n r k ρ
noncomputable def dw(c:Call)(n:Nat):List S->List Sl->Res Fl|[],ρ=>.ok .next ρ|s::r,ρ=>(ex c n s ρ).bind fun fl ρ=>match fl with|.next=>dw c n r ρ|fl=>.ok fl ρ
noncomputable def Fz(c:Call)(n:Nat):S->List Sl->Option (Nat×List Sl)
 |.xr k,ρ=>some (k,ρ)|.ifs t a b,ρ=>match ie (ev c t) ρ with|.ok x ρ1=>if x then iJ c n a ρ1 else iJ c n b ρ1|_=>none
 |.pR src is one body,ρ=>match srcOf (isVar src) (ev c src) ρ with|.ok ds ρ1=>(K4 is one (dw c n body) (iJ c n body) ds ρ1).map fun x=>(x.1,bh ρ (isVar src) x.2)|_=>none
 |.asg _ e,ρ=>ug c e ρ|.expr e,ρ=>ug c e ρ|.whl t body,ρ=>wj (ie (ev c t)) (dw c n body) (iJ c n body) n ρ|_,_=>none
noncomputable def iJ(c:Call)(n:Nat):List S->List Sl->Option (Nat×List Sl)|[],_=>none|s::r,ρ=>match Fz c n s ρ with|some x=>some x|none=>match ex c n s ρ with|.ok .next ρ1=>iJ c n r ρ1|_=>none
end
structure Fd where
 np:Nat
 nn:Nat
 body:List S deriving Inhabited
noncomputable abbrev Tab:=Nat->Option Fd
noncomputable def enter(c:Call)(n:Nat)(d:Fd)(args:List Sl):Res R:=if args.length=d.np/\d.np<=d.nn then match dw c n d.body (args++List.replicate (d.nn-d.np) .bK)with|.ok .next ρ=>.ok (.val .non) (ρ.take d.np)|.ok (.ret r) ρ=>.ok r (ρ.take d.np)|_=>match iJ c n d.body (args++List.replicate (d.nn-d.np) .bK)with|some (k,ρ)=>.exc k (ρ.take d.np)|none=>.stuck else .stuck
noncomputable def run(Γ:Tab)(w:Nat):Nat->Call|0,_,_=>.stuck|n+1,f,args=>match Γ f with|some d=>enter (run Γ w n) w d args|none=>.stuck
end HH
end
section
namespace HH
open PySem L2
noncomputable def Dc.ho:Dc->HO|.k kvs=>.dK (kvs.map fun p=>(Sum.inl p.1,V.int p.2))|.t kvs=>.dT (kvs.map fun p=>(p.1.map Sum.inl,V.int p.2))
noncomputable def Eo(ks:List Int)(vs:List V):HO:=.dK ((ks.zip vs).map fun p=>(Sum.inl p.1,p.2))
section
variable(K:PySem.W.Frag)
mutual
noncomputable def Rep(F:Hp):V->D->Prop|v,.non=>v=.non|v,.bl b=>v=.bl b|v,.int i=>v=.int i|v,.str x=>v=.str x|v,.tup ds=>∃a xs,v=.ref a/\gn K F a xs/\aB F xs ds|v,.lst ds=>∃a xs,v=.ref a/\dB K F a xs/\aB F xs ds|v,.cV m=>∃a o,v=.ref a/\F a=some (.fH o m.ho)|v,.dv ks ds=>∃a o vs,v=.ref a/\F a=some (.fH o (Eo ks vs))/\aB F vs ds/\ks.length=ds.length
noncomputable def aB(F:Hp):List V->List D->Prop|vs,[]=>vs=[]|vs,d::ds=>∃v r,vs=v::r/\Rep F v d/\aB F r ds
end
end
section
variable{K:PySem.W.Frag}{F F' H H':Hp}
theorem aF.gk{a:Addr}{xs:List V}(e:aF H H')(h:gn K H a xs):gn K H' a xs:=by
 rcases h with(h|⟨o,h⟩)|h;.exact .inl (.inl (e _ _ h))
 .exact .inl (.inr ⟨o,e _ _ h⟩)
 .exact .inr h
mutual
theorem Rep.mono(e:aF F F'):∀{d:D}{v:V},Rep K F v d->Rep K F' v d|.non,_,h=>by rw[Rep]at h ⊢;exact h|.bl _,_,h=>by rw[Rep]at h ⊢;exact h|.int _,_,h=>by rw[Rep]at h ⊢;exact h|.str _,_,h=>by rw[Rep]at h ⊢;exact h|.tup ds,_,h=>by rw[Rep]at h ⊢;obtain⟨a,xs,rfl,hs,r⟩:=h;exact⟨a,xs,rfl,aF.gk e hs,aB.mono e r⟩|.lst ds,_,h=>by rw[Rep]at h ⊢;obtain⟨a,xs,rfl,hs,r⟩:=h;exact⟨a,xs,rfl,e.seq hs,aB.mono e r⟩|.cV m,_,h=>by rw[Rep]at h ⊢;obtain⟨a,o,rfl,hs⟩:=h;exact⟨a,o,rfl,e _ _ hs⟩|.dv ks ds,_,h=>by rw[Rep]at h ⊢;obtain⟨a,o,vs,rfl,hs,r,hl⟩:=h;exact⟨a,o,vs,rfl,e _ _ hs,aB.mono e r,hl⟩theorem aB.mono(e:aF F F'):∀{ds:List D}{vs:List V},aB K F vs ds->aB K F' vs ds|[],_,h=>by rw[aB]at h ⊢;exact h|d::ds,_,h=>by rw[aB]at h ⊢;obtain⟨v,r,rfl,h1,h2⟩:=h;exact⟨v,r,rfl,Rep.mono e h1,aB.mono e h2⟩end
theorem aB.nil:aB K F [] []:=by rw[aB]
theorem aB.cons{v:V}{d:D}{vs:List V}{ds:List D}(h:Rep K F v d)(t:aB K F vs ds):aB K F (v::vs) (d::ds):=by rw[aB];exact⟨v,vs,rfl,h,t⟩
theorem aB.bG{vs:List V}{d:D}{ds:List D}(h:aB K F vs (d::ds)):∃v r,vs=v::r/\Rep K F v d/\aB K F r ds:=by rw[aB]at h;exact h
theorem aB.dI{vs:List V}(h:aB K F vs []):vs=[]:=by rw[aB]at h;exact h
theorem aB.length:∀{ds:List D}{vs:List V},aB K F vs ds->vs.length=ds.length|[],_,h=>by rw[h.dI];rfl|d::ds,_,h=>by obtain⟨v,r,rfl,_,t⟩:=h.bG;simp[aB.length t]
theorem aB.get:∀{ds:List D}{vs:List V}{i:Nat}{d:D},aB K F vs ds->ds[i]?=some d->∃v,vs[i]?=some v/\Rep K F v d|[],_,_,_,h,e=>by simp at e|d::ds,_,0,_,h,e=>by obtain⟨v,r,rfl,h1,t⟩:=h.bG;simp at e;subst e;exact⟨v,rfl,h1⟩|d::ds,_,i+1,_,h,e=>by obtain⟨v,r,rfl,_,t⟩:=h.bG;simp at e;obtain⟨w,e1,e2⟩:=t.get e;exact⟨w,by simpa using e1,e2⟩
theorem aB.append:∀{ds es:List D}{vs us:List V},aB K F vs ds->aB K F us es->aB K F (vs++us) (ds++es)|[],_,_,_,h,h'=>by rw[h.dI];exact h'|d::ds,_,_,_,h,h'=>by obtain⟨v,r,rfl,h1,t⟩:=h.bG;exact .cons h1 (t.append h')
theorem aB.set{v:V}{d:D}(hr:Rep K F v d):∀{ds:List D}{vs:List V}(i:Nat),aB K F vs ds->aB K F (vs.set i v) (ds.set i d)|[],_,_,h=>by rw[h.dI];exact .nil|_::_,_,0,h=>by obtain⟨w,r,rfl,h1,t⟩:=h.bG;exact .cons hr t|_::_,_,i+1,h=>by obtain⟨w,r,rfl,h1,t⟩:=h.bG;exact .cons h1 (aB.set hr i t)
theorem aB.take:∀{ds:List D}{vs:List V}(n:Nat),aB K F vs ds->aB K F (vs.take n) (ds.take n)|[],_,n,h=>by rw[h.dI];simpa using aB.nil|_::_,_,0,h=>.nil|_::_,_,n+1,h=>by obtain⟨w,r,rfl,h1,t⟩:=h.bG;exact .cons h1 (t.take n)
theorem aB.drop:∀{ds:List D}{vs:List V}(n:Nat),aB K F vs ds->aB K F (vs.drop n) (ds.drop n)|[],_,n,h=>by rw[h.dI];simpa using aB.nil|_::_,_,0,h=>h|_::_,_,n+1,h=>by obtain⟨w,r,rfl,h1,t⟩:=h.bG;exact t.drop n
theorem aB.rep{ds:List D}{vs:List V}(h:aB K F vs ds):∀n,aB K F (List.replicate n vs).flatten (List.replicate n ds).flatten|0=>by simpa using aB.nil|n+1=>by simpa[List.replicate_succ]using h.append (aB.rep h n)
inductive Oc where|l(ds:List D)|d(m:Dc)|v(kvs:List (Int×D))
noncomputable def lst?:Sl->Option Oc|.own _ ds=>some (.l ds)|.lent ds=>some (.l ds)|.lC m=>some (.d m)|.jz kvs=>some (.v kvs)|_=>none
noncomputable def qz(K:PySem.W.Frag)(F:Hp)(o:HO):Oc->Prop|.l ds=>∃xs,o=.lst xs/\aB K F xs ds|.d m=>o=m.ho|.v kvs=>∃vs,o=Eo (kvs.map (·.1)) vs/\aB K F vs (kvs.map (·.2))
theorem qz.mono{o:HO}{x:Oc}(e:aF F F')(h:qz K F o x):qz K F' o x:=by cases x with|l ds=>obtain⟨xs,e1,h⟩:=h;exact⟨xs,e1,h.mono e⟩|d m=>exact h|v kvs=>obtain⟨xs,e1,h⟩:=h;exact⟨xs,e1,h.mono e⟩
noncomputable def bF(ρ:List Sl)(σ:St)(i:Nat)(a:Addr):Prop:=(∃s ds,ρ[i]?=some s/\lst? s=some ds)/\σ[i]?=some (some (V.ref a))
noncomputable def Own(ρ:List Sl)(σ:St)(a:Addr):Prop:=∃i,bF ρ σ i a
structure GS(K:PySem.W.Frag)(F:Hp)(ρ:List Sl)(σ:St)(H:Hp):Prop where
 sub:aF F H
 len:ρ.length=σ.length
 val:∀(i:Nat)(b:Bool)(d:D),ρ[i]?=some (Sl.val b d)->∃v:V,σ[i]?=some (some v)/\Rep K F v d
 own:∀(i:Nat)(s:Sl)(ds:Oc),ρ[i]?=some s->lst? s=some ds->∃(a:Addr)(xs:HO),σ[i]?=some (some (V.ref a))/\H a=some xs/\F a=none/\qz K F xs ds
 dis:∀(i j:Nat)(a:Addr),bF ρ σ i a->bF ρ σ j a->i=j
theorem GS.qe{ρ:List Sl}{σ:St}(g:GS K F ρ σ H)(i:Nat)(s:Sl)(ds:List D)(e:ρ[i]?=some s)(e':lst? s=some (.l ds)):∃(a:Addr)(xs:List V),σ[i]?=some (some (V.ref a))/\H a=some (.lst xs)/\F a=none/\aB K F xs ds:=by obtain⟨a,o,h1,h2,h3,xs,rfl,h4⟩:=g.own i s (.l ds) e e';exact⟨a,xs,h1,h2,h3,h4⟩
noncomputable def Ak:Sl->Bool|.val b _=>b|.own b _=>b|.lent _=>true|.bK=>false|.lC _=>false|.jz _=>false|.hold _=>true
noncomputable def lg:Sl->Sl->Prop|.val true d,s=>s=.val true d|.own true _,s=>(∃ds,s=.own true ds)\/∃d,s=.val true d|.lent ds,s=>s=.lent ds|.hold ds,s=>s=.hold ds|_,_=>True
theorem lg.refl(s:Sl):lg s s:=by unfold lg;split<;>first|rfl|exact .inl ⟨_,rfl⟩|trivial
theorem lg.Ak{s s':Sl}(h:lg s s')(l:Ak s=true):HH.Ak s'=true:=by cases s with
 |bK=>cases l|lC _=>cases l|jz _=>cases l|val b d=>cases b with|true=>cases h;rfl|false=>cases l
 |own b d=>cases b with|true=>rcases h with⟨_,rfl⟩|⟨_,rfl⟩<;>rfl|false=>cases l
 |lent d=>cases h;rfl|hold d=>cases h;rfl
theorem lg.trans{s s' s'':Sl}(l:HH.Ak s=true)(h:lg s s')(h':lg s' s''):lg s s'':=by cases s with
 |bK=>cases l|lC _=>cases l|jz _=>cases l|val b d=>cases b with|true=>cases h;exact h'|false=>cases l
 |own b d=>cases b with
   | true => rcases h with⟨_,rfl⟩|⟨d,rfl⟩;.exact h'
             .exact .inr ⟨d,h'⟩|false=>cases l
 |lent d=>cases h;exact h'|hold d=>cases h;exact h'
noncomputable def nt:Option HO->Option HO|some (.tup _)=>none|o=>o
theorem nQ{o:Option HO}(h:o=none):nt o=none:=by rw[h];rfl
theorem CG{H:Hp}{b:Addr}{xs:List V}(h:H b=some (.lst xs))(z:nt (H b)=none):False:=by rw[h]at z;cases z
theorem Ck{o:HO}{x:Oc}(h:qz K F o x)(z:nt (some o)=none):False:=by cases x with|l ds=>obtain⟨xs,rfl,_⟩:=h;cases z|d m=>cases m<;>(cases(show o=_ from h);cases z)|v kvs=>obtain⟨xs,rfl,_⟩:=h;cases z
structure bC(K:PySem.W.Frag)(F:Hp)(ρ:List Sl)(σ:St)(H:Hp)(F':Hp)(ρ':List Sl)(σ':St)(H':Hp):Prop where
 gs:GS K F' ρ' σ' H'
 cB:aF F F'
 yX:∀b,F b=none->F' b≠none->Own ρ σ b\/nt (H b)=none
 keep:∀b o,H b=some o->¬ Own ρ σ b->H' b=some o
 yZ:∀b,Own ρ' σ' b->Own ρ σ b\/H b=none
 len:ρ'.length=ρ.length
 lk:∀(i:Nat)(s:Sl),ρ[i]?=some s->Ak s=true->σ'[i]?=σ[i]?/\∃s',ρ'[i]?=some s'/\lg s s'
theorem bC.refl{ρ:List Sl}{σ:St}(g:GS K F ρ σ H):bC K F ρ σ H F ρ σ H:=⟨g,aF.refl _,fun b h h'=>absurd h h',fun _ _ h _=>h,fun _ h=>.inl h,rfl,fun i s h _=>⟨rfl,s,h,.refl s⟩⟩
theorem bC.trans{F1 F2 H1 H2:Hp}{ρ ρ1 ρ2:List Sl}{σ σ1 σ2:St}(a:bC K F ρ σ H F1 ρ1 σ1 H1)(b:bC K F1 ρ1 σ1 H1 F2 ρ2 σ2 H2):bC K F ρ σ H F2 ρ2 σ2 H2:=by
 have back:∀c,Own ρ1 σ1 c\/H1 c=none->Own ρ σ c\/H c=none:=fun c h=>by
  rcases h with h|h;.exact a.yZ c h
  . by_cases ho:Own ρ σ c;.exact .inl ho
    .right;cases e:H c with|none=>rfl|some o=>rw[a.keep c o e ho]at h;cases h
 refine⟨b.gs,a.cB.trans b.cB,fun c h h'=>?_,fun c o h n=>?_,fun c h=>back c (b.yZ c h),b.len.trans a.len,fun i s h l=>?_⟩
 . by_cases e:F1 c=none
   . by_cases ho:Own ρ σ c;.exact .inl ho
     . rcases b.yX c e h' with z|z;.exact(back c (.inl z)).imp id nQ
       .right;cases q:H c with|none=>rfl|some o=>rw[a.keep c o q ho]at z;exact z
   .exact a.yX c h e
 . refine b.keep c o (a.keep c o h n) fun h'=>?_;rcases a.yZ c h' with h'|h';.exact n h'
   .rw[h]at h';cases h'
 .obtain⟨e1,s1,h1,k1⟩:=a.lk i s h l;obtain⟨e2,s2,h2,k2⟩:=b.lk i s1 h1 (k1.Ak l);exact⟨e2.trans e1,s2,h2,.trans l k1 k2⟩
noncomputable def bW(K:PySem.W.Frag)(F H:Hp)(v:V)(d:D):Prop:=Rep K F v d\/∃a xs ds,v=.ref a/\H a=some (.lst xs)/\aB K F xs ds/\d=.lst ds
noncomputable def cz(K:PySem.W.Frag)(F':Hp)(ρ':List Sl)(σ':St)(H':Hp)(ρ:List Sl)(σ:St)(H:Hp)(v:V):R->Prop|.val d=>Rep K F' v d|.own ds=>∃a xs,v=.ref a/\H' a=some (.lst xs)/\F' a=none/\aB K F' xs ds/\¬ Own ρ' σ' a/\(Own ρ σ a\/H a=none)
theorem aF.cL{F:Hp}{a:Addr}{o:HO}(h:F a=none):aF F (upd F a o):=fun b u e=>by
 have:b≠a:=by rintro rfl;rw[h]at e;cases e
 rw[aH this];exact e
theorem bC.fH{ρ ρ':List Sl}{σ σ':St}{v:V}{r:R}(s:bC K F ρ σ H F' ρ' σ' H')(h:cz K F' ρ' σ' H' ρ σ H v r):∃F'',bC K F ρ σ H F'' ρ' σ' H'/\aF F' F''/\Rep K F'' v r.d:=by cases r with|val d=>exact⟨F',s,.refl _,h⟩|own ds=>
   obtain⟨a,xs,rfl,h1,h2,h3,h4,h5⟩:=h;have sm:aF F' (upd F' a (.lst xs)):=aF.cL h2;refine⟨upd F' a (.lst xs),⟨⟨fun b o e=>?_,s.gs.len,fun i b d e=>?_,fun i sl ds' e e'=>?_,s.gs.dis⟩,s.cB.trans sm,fun b n n'=>?_,s.keep,s.yZ,s.len,s.lk⟩,sm,?_⟩
   . by_cases hb:b=a;.subst hb;rw[aR]at e;cases e;exact h1
     .rw[aH hb]at e;exact s.gs.sub b o e
   .obtain⟨v,e1,e2⟩:=s.gs.val i b d e;exact⟨v,e1,e2.mono sm⟩
   . obtain⟨b,ys,e1,e2,e3,e4⟩:=s.gs.own i sl ds' e e';have hb:b≠a:=by rintro rfl;exact h4 ⟨i,⟨sl,ds',e,e'⟩,e1⟩
     exact⟨b,ys,e1,e2,by rw[aH hb];exact e3,e4.mono sm⟩
   . by_cases hb:b=a;.subst hb;exact h5.imp id nQ
     .rw[aH hb]at n';exact s.yX b n n'
   .show Rep K _ _ (.lst ds);rw[Rep];exact⟨a,xs,rfl,dB.of aR,h3.mono sm⟩
theorem bW.mono{v:V}(e:aF F F')(k:∀a xs,v=.ref a->H a=some (.lst xs)->H' a=some (.lst xs)){d:D}(h:bW K F H v d):bW K F' H' v d:=by
 rcases h with h|⟨a,xs,ds,h1,h2,h3,h4⟩;.exact .inl (h.mono e)
 .exact .inr ⟨a,xs,ds,h1,k a xs h1 h2,h3.mono e,h4⟩
theorem GS.pk{ρ:List Sl}{σ:St}{i:Nat}{d:D}(g:GS K F ρ σ H)(e:HH.pk ρ i=some d):∃v:V,σ[i]?=some (some v)/\bW K F H v d:=by
 unfold HH.pk at e;split at e;.rename_i b d' h;cases e;obtain⟨v,h1,h2⟩:=g.val i b d h;exact⟨v,h1,.inl h2⟩
 .rename_i b ds h;cases e;obtain⟨a,xs,h1,h2,h3,h4⟩:=g.qe i _ ds h rfl;exact⟨.ref a,h1,.inr ⟨a,xs,ds,rfl,h2,h4,rfl⟩⟩
 .rename_i ds h;cases e;obtain⟨a,xs,h1,h2,h3,h4⟩:=g.qe i _ ds h rfl;exact⟨.ref a,h1,.inr ⟨a,xs,ds,rfl,h2,h4,rfl⟩⟩
 .cases e
structure Ext(F H F' H':Hp):Prop where
 hs:aF H H'
 fs:aF F F'
 sub:aF F' H'
 gr:∀b,F b=none->F' b≠none->nt (H b)=none
theorem Ext.refl(h:aF F H):Ext F H F H:=⟨.refl _,.refl _,h,fun _ a b=>absurd a b⟩
theorem Ext.stp{ρ:List Sl}{σ:St}(g:GS K F ρ σ H)(e:Ext F H F' H'):bC K F ρ σ H F' ρ σ H':=by
 refine⟨⟨e.sub,g.len,fun i b d h=>?_,fun i s ds h h'=>?_,g.dis⟩,e.fs,fun b n n'=>.inr (e.gr b n n'),fun b o h _=>e.hs b o h,fun _ h=>.inl h,rfl,fun i s h _=>⟨rfl,s,h,.refl s⟩⟩;.obtain⟨v,h1,h2⟩:=g.val i b d h;exact⟨v,h1,h2.mono e.fs⟩
 .obtain⟨a,xs,h1,h2,h3,h4⟩:=g.own i s ds h h';refine⟨a,xs,h1,e.hs _ _ h2,?_,h4.mono e.fs⟩;cases q:F' a with|none=>rfl|some o=>have:=e.gr a h3 (by rw[q];simp);rw[h2]at this;exact(Ck h4 this).elim
noncomputable def cA(K:PySem.W.Frag)(F' H' H:Hp)(v:V):R->Prop|.val d=>Rep K F' v d|.own ds=>∃a xs,v=.ref a/\H' a=some (.lst xs)/\F' a=none/\aB K F' xs ds/\H a=none
theorem cA.p7{ρ:List Sl}{σ:St}{v:V}{r:R}(g:GS K F ρ σ H)(h:cA K F' H' H v r):cz K F' ρ σ H' ρ σ H v r:=by cases r with|val d=>exact h|own ds=>obtain⟨a,xs,rfl,h1,h2,h3,h4⟩:=h;refine⟨a,xs,rfl,h1,h2,h3,?_,.inr h4⟩;rintro⟨i,⟨s,ds',e,e'⟩,e2⟩;obtain⟨b,ys,q1,q2,_⟩:=g.own i s ds' e e';rw[e2]at q1;cases q1;rw[h4]at q2;cases q2
theorem cz.later{F1 H1 F2 H2:Hp}{ρ ρ1 ρ2:List Sl}{σ σ1 σ2:St}{v:V}{r:R}(a:bC K F ρ σ H F1 ρ1 σ1 H1)(h:cz K F2 ρ2 σ2 H2 ρ1 σ1 H1 v r):cz K F2 ρ2 σ2 H2 ρ σ H v r:=by cases r with|val d=>exact h|own ds=>
   obtain⟨b,xs,rfl,h1,h2,h3,h4,h5⟩:=h;refine⟨b,xs,rfl,h1,h2,h3,h4,?_⟩;rcases h5 with h5|h5;.exact a.yZ b h5
   . by_cases ho:Own ρ σ b;.exact .inl ho
     .right;cases e:H b with|none=>rfl|some o=>rw[a.keep b o e ho]at h5;cases h5
end
end HH
end
section
namespace HH
open PySem L2 PySem.Spec PyProof.Rows
theorem ao{α β:Type}{x:Res α}{f:α->List Sl->Res β}{b:β}{ρ':List Sl}(h:x.bind f=.ok b ρ'):∃a ρ,x=.ok a ρ/\f a ρ=.ok b ρ':=by cases x with|ok a ρ=>exact⟨a,ρ,rfl,h⟩|exc _ _=>cases h|stuck=>cases h
theorem aJ{α:Type}{o:Option α}{ρ ρ':List Sl}{a:α}(h:lift o ρ=.ok a ρ'):o=some a/\ρ=ρ':=by cases o with|none=>cases h|some b=>cases h;exact⟨rfl,rfl⟩
theorem map_some{α β:Type}{o:Option α}{f:α->β}{b:β}(h:o.map f=some b):∃a,o=some a/\f a=b:=by cases o with|none=>cases h|some a=>cases h;exact⟨a,rfl,rfl⟩
theorem dJ{α β:Type}{o:Option α}{f:α->Option β}{b:β}(h:o.bind f=some b):∃a,o=some a/\f a=some b:=by cases o with|none=>cases h|some a=>exact⟨a,rfl,h⟩
theorem bB{α:Type}{c:Prop}[Decidable c]{a b:α}(h:(if c then some a else none)=some b):c/\a=b:=by
 split at h;.rename_i hc;cases h;exact⟨hc,rfl⟩
 .cases h
section
variable{X:Cx}{c:Call}{e a b:Expr}{p pa pb:P}{pos:Pos}
theorem dm{t t':TE}(h:PE X e t)(i:∀σ H Q,t' σ H Q->t σ H Q):PE X e t':=fun pins s σ H Q I q=>h pins s σ H Q I (i σ H Q q)
theorem ye{t t':TT}(h:PT X e t)(i:∀σ H Q,t' σ H Q->t σ H Q):PT X e t':=fun pins s σ H Q I q=>h pins s σ H Q I (i σ H Q q)
theorem JR{t t':TT}(h:PW X e t)(i:∀σ H Q,t' σ H Q->t σ H Q):PW X e t':=fun wh pins s σ H Q I q=>h wh pins s σ H Q I (i σ H Q q)
theorem kj{es:List Expr}{t t':TA}(h:PA X es t)(i:∀σ H Q,t' σ H Q->t σ H Q):PA X es t':=fun pos pins s σ H Q I q=>h pos pins s σ H Q I (i σ H Q q)
inductive Cz(K:PySem.W.Frag)(f:Ev)(σ:L2.St)(H:Hp)(Q:VK):Prop where|mk(F:Hp)(ρ:List Sl)(r:R)(ρ':List Sl)(g:GS K F ρ σ H)(e:f ρ=.ok r ρ')(k:∀v F' H',bC K F ρ σ H F' ρ' σ H'->cz K F' ρ' σ H' ρ σ H v r->Q v H')
inductive JS(K:PySem.W.Frag)(f:List Sl->Res Bool)(σ:L2.St)(H:Hp)(Q:Bool->Hp->Prop):Prop where|mk(F:Hp)(ρ:List Sl)(b:Bool)(ρ':List Sl)(g:GS K F ρ σ H)(e:f ρ=.ok b ρ')(k:∀F' H',bC K F ρ σ H F' ρ' σ H'->Q b H')
inductive Y7(K:PySem.W.Frag)(f:List Sl->Res (List D))(σ:L2.St)(H:Hp)(Q:List V->Hp->Prop):Prop where|mk(F:Hp)(ρ:List Sl)(ds:List D)(ρ':List Sl)(g:GS K F ρ σ H)(e:f ρ=.ok ds ρ')(k:∀vs F' H',bC K F ρ σ H F' ρ' σ H'->aB K F' vs ds->Q vs H')
structure SX(X:Cx)(c:Call)(e:Expr)(p:P):Prop where ev:PE X e (Cz X.K (HH.ev c p))var:∀i,isVar p=some i->PE X e (Vm i)
noncomputable def SA(X:Cx)(c:Call)(es:List Expr)(ps:List P):Prop:=PA X es (Y7 X.K (evs c ps))/\ps.length=es.length
theorem SX.cN(h:SX X c e p):∃t,PE X e t/\∀{σ:L2.St}{H F:Hp}{ρ ρ':List Sl}{d:D}{Q:VK},GS X.K F ρ σ H->cN (isVar p) (HH.ev c p) ρ=.ok d ρ'->(∀v F' H',bC X.K F ρ σ H F' ρ' σ H'->bW X.K F' H' v d->Q v H')->t σ H Q:=by cases hv:isVar p with|none=>refine⟨_,h.ev,fun{σ H F ρ ρ' d Q}g e k=>?_⟩;obtain⟨r,ρ1,e1,e2⟩:=ao e;cases e2;refine⟨F,ρ,r,_,g,e1,fun v F' H' s rr=>?_⟩;obtain⟨F'',s',_,rp⟩:=s.fH rr;exact k v F'' H' s' (.inl rp)|some i=>refine⟨_,h.var i hv,fun{σ H F ρ ρ' d Q}g e k=>?_⟩;obtain⟨e1,e2⟩:=aJ e;subst e2;obtain⟨v,h1,h2⟩:=g.pk e1;exact⟨v,h1,k v F H (.refl g) h2⟩
theorem SX.jJ(ha:SX X c a pa)(hb:SX X c b pb):∃ta tb,PE X a ta/\PE X b tb/\∀{σ:L2.St}{H F:Hp}{ρ ρ':List Sl}{xy:D×D}{R:V->V->Hp->Prop},GS X.K F ρ σ H->jJ (isVar pa) (HH.ev c pa) (isVar pb) (HH.ev c pb) ρ=.ok xy ρ'->(∀v u F' H',bC X.K F ρ σ H F' ρ' σ H'->bW X.K F' H' v xy.1->bW X.K F' H' u xy.2->R v u H')->ta σ H fun x H1=>tb σ H1 fun y H2=>R x y H2:=by obtain⟨tb,hb1,hb2⟩:=hb.cN;cases hv:isVar pa with|none=>refine⟨_,tb,ha.ev,hb1,fun{σ H F ρ ρ' xy R}g e k=>?_⟩;obtain⟨x,ρ1,e1,e⟩:=ao e;obtain⟨y,ρ2,e2,e⟩:=ao e;cases e;obtain⟨r,ρ1',e1,e0⟩:=ao e1;cases e0;refine⟨F,ρ,r,_,g,e1,fun v F' H' s rr=>?_⟩;obtain⟨F1,s1,_,rp⟩:=s.fH rr;refine hb2 s1.gs e2 fun u F2 H2 s2 pu=>?_;exact k v u F2 H2 (s1.trans s2) (.inl (rp.mono s2.cB)) pu|some i=>refine⟨_,tb,ha.var i hv,hb1,fun{σ H F ρ ρ' xy R}g e k=>?_⟩;obtain⟨x0,ρ0,e0,e⟩:=ao e;obtain⟨e00,Jx⟩:=aJ e0;subst Jx;obtain⟨y,ρ1,e1,e⟩:=ao e;obtain⟨x,ρ2,e2,e⟩:=ao e;cases e;have zz:=aJ e2;clear e2;obtain⟨e2,e3⟩:=zz;subst e3;obtain⟨v,h1,_⟩:=g.pk e00;refine⟨v,h1,hb2 g e1 fun u F1 H1 s1 pu=>?_⟩;obtain⟨v',h1',pv⟩:=s1.gs.pk e2;rw[h1]at h1';cases h1';exact k v u F1 H1 s1 pv pu
inductive rD(K:PySem.W.Frag)(f:D->D->Option R)(x y:V)(H:Hp)(Q:VK):Prop where|mk(F:Hp)(d e:D)(r:R)(sm:aF F H)(px:bW K F H x d)(py:bW K F H y e)(he:f d e=some r)(k:∀v F' H',Ext F H F' H'->cA K F' H' H v r->Q v H')
inductive rD1(K:PySem.W.Frag)(f:D->Option R)(x:V)(H:Hp)(Q:VK):Prop where|mk(F:Hp)(d:D)(r:R)(sm:aF F H)(px:bW K F H x d)(he:f d=some r)(k:∀v F' H',Ext F H F' H'->cA K F' H' H v r->Q v H')
theorem wC{E:Expr}{f:D->D->Option R}{q:P}(hp:∀{ta tb},PE X a ta->PE X b tb->PE X E (Rb (rD X.K f) ta tb))(ha:SX X c a pa)(hb:SX X c b pb)(hq:∀ρ,HH.ev c q ρ=(HH.jJ (isVar pa) (HH.ev c pa) (isVar pb) (HH.ev c pb) ρ).bind fun xy ρ=>lift (f xy.1 xy.2) ρ)(hv:isVar q=none):SX X c E q:=by obtain⟨ta,tb,h1,h2,h3⟩:=ha.jJ hb;refine⟨dm (hp h1 h2) ?_,fun i h=>by rw[hv]at h;cases h⟩;rintro σ H Q⟨F,ρ,r,ρ',g,e,k⟩;rw[hq]at e;obtain⟨xy,ρ1,e1,e2⟩:=ao e;have zz:=aJ e2;clear e2;obtain⟨e2,e3⟩:=zz;subst e3;refine h3 g e1 fun v u F' H' s pv pu=>⟨F',xy.1,xy.2,r,s.gs.sub,pv,pu,e2,fun w F2 H2 x rn=>?_⟩;exact k w F2 H2 (s.trans (x.stp s.gs)) (.later s (rn.p7 s.gs))
theorem Lh{E:Expr}{f:D->Option R}{q:P}(hp:∀{ta},PE X a ta->PE X E (tUn (rD1 X.K f) ta))(ha:SX X c a pa)(hq:∀ρ,HH.ev c q ρ=(HH.cN (isVar pa) (HH.ev c pa) ρ).bind fun x ρ=>lift (f x) ρ)(hv:isVar q=none):SX X c E q:=by obtain⟨ta,h1,h3⟩:=ha.cN;refine⟨dm (hp h1) ?_,fun i h=>by rw[hv]at h;cases h⟩;rintro σ H Q⟨F,ρ,r,ρ',g,e,k⟩;rw[hq]at e;obtain⟨x,ρ1,e1,e2⟩:=ao e;have zz:=aJ e2;clear e2;obtain⟨e2,e3⟩:=zz;subst e3;refine h3 g e1 fun v F' H' s pv=>⟨F',x,r,s.gs.sub,pv,e2,fun w F2 H2 x rn=>?_⟩;exact k w F2 H2 (s.trans (x.stp s.gs)) (.later s (rn.p7 s.gs))
theorem GS.freeze{K:PySem.W.Frag}{F H:Hp}{ρ:List Sl}{σ:L2.St}{i:Nat}{b:Bool}{ds:List D}(g:GS K F ρ σ H)(e:ρ[i]?=some (.own b ds)):∃v F',σ[i]?=some (some v)/\bC K F ρ σ H F' (ρ.set i (.val b (.lst ds))) σ H/\Rep K F' v (.lst ds):=by
 obtain⟨a,xs,h1,h2,h3,h4⟩:=g.qe i _ ds e rfl;have hi:i<ρ.length:=(List.getElem?_eq_some_iff.mp e).1;have sm:aF F (upd F a (.lst xs)):=aF.cL h3;have rp:Rep K (upd F a (.lst xs)) (.ref a) (.lst ds):=by rw[Rep];exact⟨a,xs,rfl,dB.of aR,h4.mono sm⟩
 have oa:Own ρ σ a:=⟨i,⟨_,_,e,rfl⟩,h1⟩;have old:∀j x,bF (ρ.set i (.val b (.lst ds))) σ j x->bF ρ σ j x/\j≠i:=fun j x⟨⟨s,ds',q1,q2⟩,q3⟩=>by
  by_cases hj:j=i;.subst hj;rw[List.getElem?_set_self hi]at q1;cases q1;cases q2
  .rw[List.getElem?_set_ne (Ne.symm hj)]at q1;exact⟨⟨⟨s,ds',q1,q2⟩,q3⟩,hj⟩
 refine⟨.ref a,upd F a (.lst xs),h1,⟨⟨fun x o q=>?_,by simpa using g.len,fun j b' d q=>?_,fun j s ds' q q'=>?_,fun j k x q q'=>g.dis j k x (old j x q).1 (old k x q').1⟩,sm,fun x n n'=>?_,fun _ _ q _=>q,fun x⟨j,q⟩=>.inl ⟨j,(old j x q).1⟩,by simp,fun j s q l=>⟨rfl,?_⟩⟩,rp⟩
 . by_cases hx:x=a;.subst hx;rw[aR]at q;cases q;exact h2
   .rw[aH hx]at q;exact g.sub x o q
 . by_cases hj:j=i;.subst hj;rw[List.getElem?_set_self hi]at q;cases q;exact⟨_,h1,rp⟩
   .rw[List.getElem?_set_ne (Ne.symm hj)]at q;obtain⟨v,q1,q2⟩:=g.val j b' d q;exact⟨v,q1,q2.mono sm⟩
 . by_cases hj:j=i;.subst hj;rw[List.getElem?_set_self hi]at q;cases q;cases q'
   . rw[List.getElem?_set_ne (Ne.symm hj)]at q;obtain⟨x,ys,q1,q2,q3,q4⟩:=g.own j s ds' q q';have hx:x≠a:=by rintro rfl;exact hj (g.dis j i x ⟨⟨s,ds',q,q'⟩,q1⟩ ⟨⟨_,_,e,rfl⟩,h1⟩)
     exact⟨x,ys,q1,q2,by rw[aH hx];exact q3,q4.mono sm⟩
 . by_cases hx:x=a;.subst hx;exact .inl oa
   .rw[aH hx]at n';exact absurd n n'
 . by_cases hj:j=i;.subst hj;rw[e]at q;cases q;refine⟨_,List.getElem?_set_self hi,?_⟩;cases b with|true=>exact .inr ⟨_,rfl⟩|false=>cases l
   .exact⟨s,by rw[List.getElem?_set_ne (Ne.symm hj)];exact q,.refl s⟩
theorem GS.Im{K:PySem.W.Frag}{F H:Hp}{ρ:List Sl}{σ:L2.St}{i:Nat}{m:Dc}(g:GS K F ρ σ H)(e:ρ[i]?=some (.lC m)):∃a,σ[i]?=some (some (.ref a))/\H a=some m.ho/\∀ob,bC K F ρ σ H (upd F a (.fH ob m.ho)) (ρ.set i (.val false (.cV m))) σ (upd H a (.fH ob m.ho))/\Rep K (upd F a (.fH ob m.ho)) (.ref a) (.cV m):=by
 obtain⟨a,o0,h1,h2,h3,h4⟩:=g.own i _ _ e rfl;cases(show o0=m.ho from h4);have hi:i<ρ.length:=(List.getElem?_eq_some_iff.mp e).1;refine⟨a,h1,h2,fun ob=>?_⟩;have sm:aF F (upd F a (.fH ob m.ho)):=aF.cL h3;have rp:Rep K (upd F a (.fH ob m.ho)) (.ref a) (.cV m):=by rw[Rep];exact⟨a,ob,rfl,aR⟩
 have oa:Own ρ σ a:=⟨i,⟨_,_,e,rfl⟩,h1⟩;have old:∀j x,bF (ρ.set i (.val false (.cV m))) σ j x->bF ρ σ j x/\j≠i:=fun j x⟨⟨s,ds',q1,q2⟩,q3⟩=>by
  by_cases hj:j=i;.subst hj;rw[List.getElem?_set_self hi]at q1;cases q1;cases q2
  .rw[List.getElem?_set_ne (Ne.symm hj)]at q1;exact⟨⟨⟨s,ds',q1,q2⟩,q3⟩,hj⟩
 refine⟨⟨⟨fun x o q=>?_,by simpa using g.len,fun j b' d q=>?_,fun j s ds' q q'=>?_,fun j k x q q'=>g.dis j k x (old j x q).1 (old k x q').1⟩,sm,fun x n n'=>?_,fun x o q n=>?_,fun x⟨j,q⟩=>.inl ⟨j,(old j x q).1⟩,by simp,fun j s q l=>⟨rfl,?_⟩⟩,rp⟩
 . by_cases hx:x=a;.subst hx;rw[aR]at q ⊢;exact q
   .rw[aH hx]at q ⊢;exact g.sub x o q
 . by_cases hj:j=i;.subst hj;rw[List.getElem?_set_self hi]at q;cases q;exact⟨_,h1,rp⟩
   .rw[List.getElem?_set_ne (Ne.symm hj)]at q;obtain⟨v,q1,q2⟩:=g.val j b' d q;exact⟨v,q1,q2.mono sm⟩
 . by_cases hj:j=i;.subst hj;rw[List.getElem?_set_self hi]at q;cases q;cases q'
   . rw[List.getElem?_set_ne (Ne.symm hj)]at q;obtain⟨x,ys,q1,q2,q3,q4⟩:=g.own j s ds' q q';have hx:x≠a:=by rintro rfl;exact hj (g.dis j i x ⟨⟨s,ds',q,q'⟩,q1⟩ ⟨⟨_,_,e,rfl⟩,h1⟩)
     exact⟨x,ys,q1,by rw[aH hx];exact q2,by rw[aH hx];exact q3,q4.mono sm⟩
 . by_cases hx:x=a;.subst hx;exact .inl oa
   .rw[aH hx]at n';exact absurd n n'
 . have hx:x≠a:=by rintro rfl;exact n oa
   rw[aH hx];exact q
 . by_cases hj:j=i;.subst hj;rw[e]at q;cases q;cases l
   .exact⟨s,by rw[List.getElem?_set_ne (Ne.symm hj)];exact q,.refl s⟩
theorem GS.IW{K:PySem.W.Frag}{F H:Hp}{ρ:List Sl}{σ:L2.St}{i:Nat}{kvs:List (Int×D)}(g:GS K F ρ σ H)(e:ρ[i]?=some (.jz kvs)):∃a vs,σ[i]?=some (some (.ref a))/\H a=some (Eo (kvs.map (·.1)) vs)/\∀ob,bC K F ρ σ H (upd F a (.fH ob (Eo (kvs.map (·.1)) vs))) (ρ.set i (.val false (.dv (kvs.map (·.1)) (kvs.map (·.2))))) σ (upd H a (.fH ob (Eo (kvs.map (·.1)) vs)))/\Rep K (upd F a (.fH ob (Eo (kvs.map (·.1)) vs))) (.ref a) (.dv (kvs.map (·.1)) (kvs.map (·.2))):=by
 obtain⟨a,o0,h1,h2,h3,h4⟩:=g.own i _ _ e rfl;obtain⟨vs,rfl,h5⟩:=h4;have hi:i<ρ.length:=(List.getElem?_eq_some_iff.mp e).1;refine⟨a,vs,h1,h2,fun ob=>?_⟩;have sm:aF F (upd F a (.fH ob (Eo (kvs.map (·.1)) vs))):=aF.cL h3;have rp:Rep K (upd F a (.fH ob (Eo (kvs.map (·.1)) vs))) (.ref a) (.dv (kvs.map (·.1)) (kvs.map (·.2))):=by rw[Rep];exact⟨a,ob,vs,rfl,aR,h5.mono sm,by simp⟩
 have oa:Own ρ σ a:=⟨i,⟨_,_,e,rfl⟩,h1⟩;have old:∀j x,bF (ρ.set i (.val false (.dv (kvs.map (·.1)) (kvs.map (·.2))))) σ j x->bF ρ σ j x/\j≠i:=fun j x⟨⟨s,ds',q1,q2⟩,q3⟩=>by
  by_cases hj:j=i;.subst hj;rw[List.getElem?_set_self hi]at q1;cases q1;cases q2
  .rw[List.getElem?_set_ne (Ne.symm hj)]at q1;exact⟨⟨⟨s,ds',q1,q2⟩,q3⟩,hj⟩
 refine⟨⟨⟨fun x o q=>?_,by simpa using g.len,fun j b' d q=>?_,fun j s ds' q q'=>?_,fun j k x q q'=>g.dis j k x (old j x q).1 (old k x q').1⟩,sm,fun x n n'=>?_,fun x o q n=>?_,fun x⟨j,q⟩=>.inl ⟨j,(old j x q).1⟩,by simp,fun j s q l=>⟨rfl,?_⟩⟩,rp⟩
 . by_cases hx:x=a;.subst hx;rw[aR]at q ⊢;exact q
   .rw[aH hx]at q ⊢;exact g.sub x o q
 . by_cases hj:j=i;.subst hj;rw[List.getElem?_set_self hi]at q;cases q;exact⟨_,h1,rp⟩
   .rw[List.getElem?_set_ne (Ne.symm hj)]at q;obtain⟨v,q1,q2⟩:=g.val j b' d q;exact⟨v,q1,q2.mono sm⟩
 . by_cases hj:j=i;.subst hj;rw[List.getElem?_set_self hi]at q;cases q;cases q'
   . rw[List.getElem?_set_ne (Ne.symm hj)]at q;obtain⟨x,ys,q1,q2,q3,q4⟩:=g.own j s ds' q q';have hx:x≠a:=by rintro rfl;exact hj (g.dis j i x ⟨⟨s,ds',q,q'⟩,q1⟩ ⟨⟨_,_,e,rfl⟩,h1⟩)
     exact⟨x,ys,q1,by rw[aH hx];exact q2,by rw[aH hx];exact q3,q4.mono sm⟩
 . by_cases hx:x=a;.subst hx;exact .inl oa
   .rw[aH hx]at n';exact absurd n n'
 . have hx:x≠a:=by rintro rfl;exact n oa
   rw[aH hx];exact q
 . by_cases hj:j=i;.subst hj;rw[e]at q;cases q;cases l
   .exact⟨s,by rw[List.getElem?_set_ne (Ne.symm hj)];exact q,.refl s⟩
theorem Inv.Uz{X:Cx}{pins:List (Addr×Obj)}{σ:L2.St}{H:Hp}{s:Shared}{a:Addr}{kvs:List (Key×V)}(I:L2.Inv X pins σ H s)(h:H a=some (.dK kvs)):∃o,L2.Inv X pins σ (upd H a (.fH o (.dK kvs))) s:=by obtain⟨hz,hS,vs,r,dd⟩:=(show bZ X.prog X.w H s.heap a (.dK kvs)from I.hok a _ h);obtain⟨o,ho,_⟩:=dd.typeIs;exact⟨o,I.write (h':=s.heap) (t':=s.toks) (by rw[h];exact trivial) (.inl rfl) (fun b u _ e=>e) ⟨o,ho⟩ ⟨ho,hz,hS,vs,r,dd⟩⟩
theorem Oq{i:Nat}{x:Str}(hN:X.N[i]?=some x)(hv:Fq X.env.scope x)(hd:(x==("__debug__":Str))=false:=by decide)(hcd:(x==("__classdict__":Str))=false:=by decide):SX X c (.Name x pos) (.var i):=by
 have h:=lM (X:=X) (pos:=pos) hN hv hd hcd;refine⟨?_,fun j hj=>by cases hj;exact h⟩;rintro pins s σ H Q I⟨F,ρ,r,ρ',g,e,k⟩;rw[HH.ev]at e;split at e;.rename_i b d q;cases e;obtain⟨v,h1,h2⟩:=g.val i b d q;exact h pins s σ H Q I ⟨v,h1,k v F H (.refl g) h2⟩
 .rename_i b ds q;cases e;obtain⟨v,F',h1,h2,h3⟩:=g.freeze q;exact h pins s σ H Q I ⟨v,h1,k v F' H h2 h3⟩
 .rename_i kvs q;cases e;obtain⟨a,h1,h2,h3⟩:=g.Im q;refine cG (h pins s σ H (fun v H'=>v=.ref a/\H'=H) I ⟨.ref a,h1,rfl,rfl⟩) fun u s1⟨v,H1,I1,r1,e1,e2⟩=>?_;subst e1 e2;obtain⟨o,I2⟩:=Inv.Uz I1 h2;exact⟨.ref a,_,I2,r1,k _ _ _ (h3 o).1 (h3 o).2⟩
 .rename_i kvs q;cases e;obtain⟨a,vs,h1,h2,h3⟩:=g.IW q;refine cG (h pins s σ H (fun v H'=>v=.ref a/\H'=H) I ⟨.ref a,h1,rfl,rfl⟩) fun u s1⟨v,H1,I1,r1,e1,e2⟩=>?_;subst e1 e2;obtain⟨o,I2⟩:=Inv.Uz I1 h2;exact⟨.ref a,_,I2,r1,k _ _ _ (h3 o).1 (h3 o).2⟩
 .cases e
theorem rB{d:D}{v:V}(h:PE X e (tC v))(hr:∀F,Rep X.K F v d):SX X c e (.con d):=⟨dm h fun σ H Q⟨F,ρ,r,ρ',g,e,k⟩=>by rw[HH.ev]at e;cases e;exact k v F H (.refl g) (hr F),fun i h=>by cases h⟩
theorem aj{i j}:SX X c (.Constant (.int i) j pos) (.con (.int i)):=rB Nh fun F=>by rw[Rep]
theorem qm{i j}:SX X c (.Constant (.bool i) j pos) (.con (.bl i)):=rB UJ fun F=>by rw[Rep]
theorem fj{j}:SX X c (.Constant .none j pos) (.con .non):=rB O4 fun F=>by rw[Rep]
theorem N8{i j}:SX X c (.Constant (.str i) j pos) (.con (.str i)):=rB Oi fun F=>by rw[Rep]
theorem bW.int{K:PySem.W.Frag}{F H:Hp}{v:V}{i:Int}(h:bW K F H v (.int i)):v=.int i:=by
 rcases h with h|⟨_,_,_,_,_,_,h⟩;.rw[Rep]at h;exact h
 .cases h
theorem bW.bl{K:PySem.W.Frag}{F H:Hp}{v:V}{i:Bool}(h:bW K F H v (.bl i)):v=.bl i:=by
 rcases h with h|⟨_,_,_,_,_,_,h⟩;.rw[Rep]at h;exact h
 .cases h
theorem bW.str{K:PySem.W.Frag}{F H:Hp}{v:V}{i:Str}(h:bW K F H v (.str i)):v=.str i:=by
 rcases h with h|⟨_,_,_,_,_,_,h⟩;.rw[Rep]at h;exact h
 .cases h
theorem bW.non{K:PySem.W.Frag}{F H:Hp}{v:V}(h:bW K F H v .non):v=.non:=by
 rcases h with h|⟨_,_,_,_,_,_,h⟩;.rw[Rep]at h;exact h
 .cases h
theorem bW.tup{K:PySem.W.Frag}{F H:Hp}{v:V}{ds:List D}(s:aF F H)(h:bW K F H v (.tup ds)):∃a xs,v=.ref a/\gn K H a xs/\aB K F xs ds/\Rep K F v (.tup ds):=by
 rcases h with h|⟨_,_,_,_,_,_,h⟩;.have h':=h;rw[Rep]at h;obtain⟨a,xs,rfl,h1,h2⟩:=h;exact⟨a,xs,rfl,aF.gk s h1,h2,h'⟩
 .cases h
theorem bW.lst{K:PySem.W.Frag}{F H:Hp}{v:V}{ds:List D}(s:aF F H)(h:bW K F H v (.lst ds)):∃a xs,v=.ref a/\dB K H a xs/\aB K F xs ds:=by
 rcases h with h|⟨a,xs,es,h1,h2,h3,h⟩;.rw[Rep]at h;obtain⟨a,xs,rfl,h1,h2⟩:=h;exact⟨a,xs,rfl,s.seq h1,h2⟩
 .cases h;exact⟨a,xs,h1,dB.of h2,h3⟩
theorem bW.cV{K:PySem.W.Frag}{F H:Hp}{v:V}{m:Dc}(s:aF F H)(h:bW K F H v (.cV m)):∃a o,v=.ref a/\H a=some (.fH o m.ho):=by
 rcases h with h|⟨_,_,_,_,_,_,h⟩;.rw[Rep]at h;obtain⟨a,o,rfl,h⟩:=h;exact⟨a,o,rfl,s _ _ h⟩
 .cases h
theorem Az{X:Cx}{pins:List (Addr×Obj)}{σ:L2.St}{H:Hp}{s:Shared}{a:Addr}{ob:Obj}{m:Dc}(I:L2.Inv X pins σ H s)(h:H a=some (.fH ob m.ho)):∃o,s.heap.get? a=some o/\o.cls=.type "dict":=by have z:=(show bZ X.prog X.w H s.heap a (.fH ob m.ho)from I.hok a _ h).2;cases m with|k kvs=>obtain⟨_,_,vs,_,d2⟩:=(show bZ X.prog X.w H s.heap a (.dK _)from z);exact d2.typeIs|t kvs=>obtain⟨_,_,xs,_,o,es,ep,h1,h2,_⟩:=(show bZ X.prog X.w H s.heap a (.dT _)from z);exact⟨o,h1,h2.1⟩
theorem bW.dv{K:PySem.W.Frag}{F H:Hp}{v:V}{ks:List Int}{ds:List D}(s:aF F H)(h:bW K F H v (.dv ks ds)):∃a o vs,v=.ref a/\H a=some (.fH o (Eo ks vs))/\aB K F vs ds/\ks.length=ds.length:=by
 rcases h with h|⟨_,_,_,_,_,_,h⟩;.rw[Rep]at h;obtain⟨a,o,vs,rfl,h,h1,h2⟩:=h;exact⟨a,o,vs,rfl,s _ _ h,h1,h2⟩
 .cases h
theorem DR{X:Cx}{pins:List (Addr×Obj)}{σ:L2.St}{H:Hp}{s:Shared}{a:Addr}{ob:Obj}{ks:List Int}{vs:List V}(I:L2.Inv X pins σ H s)(h:H a=some (.fH ob (Eo ks vs))):∃o,s.heap.get? a=some o/\o.cls=.type "dict":=by have z:=(show bZ X.prog X.w H s.heap a (.fH ob (Eo ks vs))from I.hok a _ h).2;obtain⟨_,_,vs,_,d2⟩:=(show bZ X.prog X.w H s.heap a (.dK _)from z);exact d2.typeIs
theorem bW.items{K:PySem.W.Frag}{F H:Hp}{v:V}{d:D}{ds:List D}(s:aF F H)(h:bW K F H v d)(e:items d=some ds):∃a xs,v=.ref a/\(dB K H a xs\/gn K H a xs)/\aB K F xs ds:=by cases d with|tup es=>cases e;obtain⟨a,xs,h1,h2,h3,_⟩:=h.tup s;exact⟨a,xs,h1,.inr h2,h3⟩|lst es=>cases e;obtain⟨a,xs,h1,h2,h3⟩:=h.lst s;exact⟨a,xs,h1,.inl h2,h3⟩|_=>cases e
theorem cA.dN{K:PySem.W.Frag}{F H:Hp}{Q:VK}{v:V}{d:D}(s:aF F H)(r:Rep K F v d)(k:∀v F' H',Ext F H F' H'->cA K F' H' H v (.val d)->Q v H'):Q v H:=k v F H (.refl s) r
theorem dg{K:PySem.W.Frag}{F:Hp}(i:Int):Rep K F (.int i) (.int i):=by rw[Rep]
theorem fK{K:PySem.W.Frag}{F:Hp}(i:Bool):Rep K F (.bl i) (.bl i):=by rw[Rep]
theorem Le{K:PySem.W.Frag}{F:Hp}(i:Str):Rep K F (.str i) (.str i):=by rw[Rep]
theorem M5{K:PySem.W.Frag}{F:Hp}:Rep K F .non .non:=by rw[Rep]
theorem wQ{K:PySem.W.Frag}{F H:Hp}{Q:VK}{xs:List V}{ds:List D}{p:Addr}(s:aF F H)(r:aB K F xs ds)(hp:H p=none)(k:∀v F' H',Ext F H F' H'->cA K F' H' H v (.own ds)->Q v H'):Q (.ref p) (upd H p (.lst xs)):=by
 have fp:F p=none:=by cases q:F p with|none=>rfl|some o=>rw[s p o q]at hp;cases hp
 exact k _ F _ ⟨aF.cL hp,.refl _,s.trans (aF.cL hp),fun _ a b=>absurd a b⟩ ⟨p,xs,rfl,aR,fp,r,hp⟩
theorem zT{K:PySem.W.Frag}{F H:Hp}{Q:VK}{xs:List V}{ds:List D}{p:Addr}(s:aF F H)(r:aB K F xs ds)(hp:H p=none)(k:∀v F' H',Ext F H F' H'->cA K F' H' H v (.val (.tup ds))->Q v H'):Q (.ref p) (upd H p (.tup xs)):=by
 have fp:F p=none:=by cases q:F p with|none=>rfl|some o=>rw[s p o q]at hp;cases hp
 have sm:aF F (upd F p (.tup xs)):=aF.cL fp;refine k _ (upd F p (.tup xs)) _ ⟨aF.cL hp,sm,fun b o e=>?_,fun b n n'=>?_⟩ ?_
 . by_cases hb:b=p;.subst hb;rw[aR]at e ⊢;exact e
   .rw[aH hb]at e ⊢;exact s b o e
 . by_cases hb:b=p;.subst hb;exact nQ hp
   .rw[aH hb]at n';exact absurd n n'
 .show Rep K _ _ (.tup ds);rw[Rep];exact⟨p,xs,rfl,gn.of aR,r.mono sm⟩
end
end HH
end
section
namespace HH
open PySem L2 PySem.Spec PyProof.Rows
theorem p6(k:Int)(t:Tok)(l:Addr)(its:Array Value)(n:Nat)(dd:Option Addr)(sl:Array (Option Value)):Meets (Builtin.«int.__rmul__» ⟨[.int k t,.ref l],[]⟩) (fun _ R s=>s.heap.get? l=some ⟨.type "list",dd,.seq its n,sl⟩/\R (.ok (.ret Value.notImplemented)) s):=.of_wp fun prog w A R s h=>by obtain⟨hp,g,d,tk,os⟩:=s;obtain⟨hl,h⟩:=h;wp_walk;exact⟨_,rfl,h⟩
theorem Ab(l:Addr)(its:Array Value)(n:Nat)(dd:Option Addr)(sl:Array (Option Value))(k:Int)(t:Tok)(h0:¬(!Builtin.List.listFitsIndex k)=true)(h1:¬its.size*k.toNat>(2^63-1)/8)(h2:¬Builtin.List.listTooLong (its.size*k.toNat)=true):Meets (Builtin.«list.__mul__» ⟨[.ref l,.int k t],[]⟩) (fun _ R s=>s.heap.get? l=some ⟨.type "list",dd,.seq its n,sl⟩/\R (.ok (.ret (Value.ref s.heap.objs.size))) {s with heap:=s.heap.push {cls:=.type "list",data:=.seq (List.foldl (·++·) #[] (List.replicate (if its.isEmpty=true then 0 else k.toNat) its))}}):=.of_wp fun prog w A R s h=>by obtain⟨hp,g,d,tk,os⟩:=s;obtain⟨hl,h⟩:=h;have hz:=AutoListH.joined_fits h2;wp_walk using wpAny_loadPart' hl;refine wpAny_ite_false (decide_eq_false (Nat.not_lt.mpr hz)) ?_;wp_walk;exact⟨_,rfl,h⟩
section
variable{X:Cx}{c:Call}{e a b d:Expr}{p pa pb pd:P}{pos:Pos}
theorem Ja:dR X (binaryOp .Add) (fun x y H Q=>∃l b xs zs,x=.ref l/\y=.ref b/\dB X.K H l xs/\dB X.K H b zs/\xs.length+zs.length<=sizeLine/\∀p,H p=none->Q (.ref p) (upd H p (.lst (xs++zs)))):=by
 intro pins s σ H x y v u Q I rx ry h;obtain⟨l,b,xs,zs,rfl,rfl,hl,hb,hz,q⟩:=h;cases rx;cases ry;obtain⟨its,r,pl,_⟩:=I.list hl;obtain⟨its2,r2,Ky,_⟩:=I.list hb;obtain⟨⟨cls,dd,data,sl⟩,ho,hc,n,hd⟩:=id pl.isList;obtain⟨⟨cls2,dd2,data2,sl2⟩,ho2,hc2,n2,hd2⟩:=id Ky.isList;simp only at hc hd hc2 hd2;subst hc hd hc2 hd2;have e:its.toArray++its2.toArray=(its++its2).toArray:=by simp
 refine concat_meets ⟨_,ho,rfl⟩ ⟨_,ho2,rfl⟩ noFill_list_add seq_list_add PySem.F.slot_list_add PySem.F.entry_list_add (PySem.F.args_list_add_2 _ _) (list_addW l b its.toArray its2.toArray n n2 dd dd2 sl sl2 (by simp only[List.size_toArray];rw[<-r.length,<-r2.length];exact hz)) ⟨ho,ho2,?_⟩;rw[e];exact⟨.ref _,_,I.Ma (t':=s.toks) (r.append r2) (by rw[List.length_append];exact hz),rfl,q _ I.fresh⟩
theorem BL:dR X (binaryOp .Add) (fun x y H Q=>∃a b ys,x=.ref a/\y=.ref b/\gn X.K H a []/\gn X.K H b ys/\Q (.ref b) H):=by intro pins s σ H x y v u Q I rx ry h;obtain⟨a,b,ys,rfl,rfl,ha,hb,q⟩:=h;cases rx;cases ry;obtain⟨its,r1,p1,_⟩:=I.tuple ha;obtain⟨its2,r2,p2,_⟩:=I.tuple hb;obtain⟨⟨cls,dd,data,sl⟩,ho,hc,n,hd⟩:=id p1;obtain⟨⟨cls2,dd2,data2,sl2⟩,ho2,hc2,n2,hd2⟩:=id p2;simp only at hc hd hc2 hd2;subst hc hd hc2 hd2;have e0:its=[]:=r1.nu.mpr rfl;subst e0;exact concat_meets ⟨_,ho,rfl⟩ ⟨_,ho2,rfl⟩ noFill_tuple_add seq_tuple_add PySem.F.slot_tuple_add PySem.F.entry_tuple_add (PySem.F.args_tuple_add_2 _ _) (tuple_addW0 a b _ its2.toArray n n2 dd dd2 sl sl2 (by simp)) ⟨ho,ho2,⟨.ref b,H,I,rfl,q⟩⟩
theorem bu:dR X (binaryOp .Add) (rD X.K (uD .add)):=by
 rintro pins s σ H x y v u Q I rx ry⟨F,d,e,r,sm,px,py,he,k⟩;replace he:oG d e=some r:=he;unfold oG at he;split at he;.cases he;rw[px.int]at rx;rw[py.int]at ry;exact Ot pins s σ H _ _ v u Q I rx ry ⟨_,_,rfl,rfl,cA.dN sm (dg _) k⟩
 .rename_i xs ys;obtain⟨hl,he⟩:=bB he;subst he;obtain⟨a,vs,rfl,ha,ra⟩:=px.lst sm;obtain⟨b,us,rfl,hb,rb⟩:=py.lst sm;exact Ja pins s σ H _ _ v u Q I rx ry ⟨a,b,vs,us,rfl,rfl,ha,hb,by rw[ra.length,rb.length];exact hl,fun p hp=>wQ sm (ra.append rb) hp k⟩
 . rename_i xs ys;obtain⟨hl,he⟩:=bB he;subst he;obtain⟨a,vs,rfl,ha,ra,ta⟩:=px.tup sm;obtain⟨b,us,rfl,hb,rb,tb⟩:=py.tup sm;by_cases h0:vs=[]
   . subst h0;have e0:xs=[]:=by have:=ra.length;exact List.eq_nil_of_length_eq_zero this.symm
     subst e0;exact BL pins s σ H _ _ v u Q I rx ry ⟨a,b,us,rfl,rfl,ha,hb,cA.dN sm tb k⟩
   . refine Iz pins s σ H _ _ v u Q I rx ry ⟨a,b,vs,us,rfl,rfl,ha,hb,h0,by rw[ra.length,rb.length];exact hl,fun e=>?_,fun _ p hp=>zT sm (ra.append rb) hp k⟩;subst e;have e0:ys=[]:=by have:=rb.length;exact List.eq_nil_of_length_eq_zero this.symm
     subst e0;rw[List.append_nil]at k;exact cA.dN sm ta k
 .rename_i x1 y1;obtain⟨hl,he⟩:=bB he;subst he;rw[px.str]at rx;rw[py.str]at ry;exact v7 pins s σ H _ _ v u Q I rx ry ⟨_,_,rfl,rfl,hl,cA.dN sm (Le _) k⟩
 .cases he
theorem dh:dR X (binaryOp .Sub) (rD X.K (uD .sub)):=by
 rintro pins s σ H x y v u Q I rx ry⟨F,d,e,r,sm,px,py,he,k⟩;replace he:vB d e=some r:=he;unfold vB at he;split at he;.cases he;rw[px.int]at rx;rw[py.int]at ry;exact K3 pins s σ H _ _ v u Q I rx ry ⟨_,_,rfl,rfl,cA.dN sm (dg _) k⟩
 .cases he
theorem Gu:dR X (binaryOp .Mult) (fun x y H Q=>∃l k xs,x=.ref l/\y=.int k/\dB X.K H l xs/\-(2^63)<=k/\k<2^63/\xs.length*k.toNat<=sizeLine/\∀p,H p=none->Q (.ref p) (upd H p (.lst (List.replicate k.toNat xs).flatten))):=by
 intro pins s σ H x y v u Q I rx ry h;obtain⟨l,k,xs,rfl,rfl,hl,h1,h2,hz,q⟩:=h;cases rx;obtain⟨t,rfl⟩:=ry;obtain⟨its,r,pl,_⟩:=I.list hl;obtain⟨⟨cls,dd,data,sl⟩,ho,hc,n,hd⟩:=id pl.isList;simp only at hc hd;subst hc hd;have hlen:its.toArray.size*k.toNat<=sizeLine:=by rw[List.size_toArray,<-r.length];exact hz
 have aa7:¬ its.toArray.size*k.toNat>(2^63-1)/8:=by
  have:(sizeLine:Nat)<=(2^63-1)/8:=by decide
  omega
 have hnew:List.foldl (·++·) #[] (List.replicate (if its.toArray.isEmpty=true then 0 else k.toNat) its.toArray)=(List.replicate k.toNat its).flatten.toArray:=by
  have f0:∀m:Nat,List.foldl (·++·) #[] (List.replicate m its.toArray)=(List.replicate m its).flatten.toArray:=fun m=>by have:=foldl_rep its m [];rw[List.nil_append]at this;exact this
  rw[f0];cases its with|nil=>simp|cons a r'=>rw[if_neg (by simp)]
 refine wpAny_binaryOp_repeat_ref (T:="list") (U:="int") (by decide) ⟨_,ho,rfl⟩ (fun s'=>typeIs_int s' k t) noFill_list_mul F.fills_int_mul F.slot_int_rmul repeat_list F.slot_int_index.lookup ?_;refine call_meets F.slot_int_rmul (typeIs_int s k t) F.entry_int_rmul (F.args_int_rmul_2 _ _) (p6 k t l its.toArray n dd sl) ⟨ho,rfl,⟨_,ho,rfl⟩,?_⟩;refine call_meets F.slot_list_mul ⟨_,ho,rfl⟩ F.entry_list_mul (F.args_list_mul_2 _ _) (Ab l its.toArray n dd sl k t (by rw[fitsIndex_both h1 h2];exact Bool.false_ne_true) aa7 (by rw[Dm hlen];exact Bool.false_ne_true)) ⟨ho,?_⟩;rw[hnew];exact⟨.ref _,_,I.Ma (t':=s.toks) (r.rep k.toNat) (by rw[len_rep,Nat.mul_comm];exact hz),rfl,q _ I.fresh⟩
theorem lR:fillsNumberSlot (.type "tuple") "mul"=pure false:=PySem.fillsNumberSlot_seq (id:="tuple.__mul__") (r:=some (.builtin "tuple.__rmul__")) PySem.F.slot_tuple_mul.lookup (by decide+kernel) PySem.F.slot_tuple_rmul.lookup (by decide+kernel)
theorem rG:seqRepeat? (.type "tuple")=pure (some (.builtin "tuple.__mul__")):=by unfold seqRepeat?;rw[PySem.seqSlot_of (T:="tuple") (name:="__mul__") (id:="tuple.__mul__") PySem.F.slot_tuple_mul.lookup (by decide+kernel),PySem.seqSlot_of (T:="tuple") (name:="__rmul__") (id:="tuple.__rmul__") PySem.F.slot_tuple_rmul.lookup (by decide+kernel)];rfl
theorem pO(k:Int)(t:Tok)(l:Addr)(its:Array Value)(n:Nat)(dd:Option Addr)(sl:Array (Option Value)):Meets (Builtin.«int.__rmul__» ⟨[.int k t,.ref l],[]⟩) (fun _ R s=>s.heap.get? l=some ⟨.type "tuple",dd,.seq its n,sl⟩/\R (.ok (.ret Value.notImplemented)) s):=.of_wp fun prog w A R s h=>by obtain⟨hp,g,d,tk,os⟩:=s;obtain⟨hl,h⟩:=h;wp_walk;exact⟨_,rfl,h⟩
theorem wW(l:Addr)(its:Array Value)(n:Nat)(dd:Option Addr)(sl:Array (Option Value))(k:Int)(t:Tok)(h0:0<=k)(h1:k<2^63)(hz:its.size*k.toNat<=sizeLine)(hne:0<its.size):Meets (Builtin.«tuple.__mul__» ⟨[.ref l,.int k t],[]⟩) (fun _ R s=>s.heap.get? l=some ⟨.type "tuple",dd,.seq its n,sl⟩/\(k=1->R (.ok (.ret (Value.ref l))) s)/\(k≠1->R (.ok (.ret (Value.ref s.heap.objs.size))) {s with heap:=s.heap.push {cls:=.type "tuple",data:=.seq (List.foldl (·++·) #[] (List.replicate k.toNat its))}})):=.of_wp fun prog w A R s h=>by
  obtain⟨hp,g,d,tk,os⟩:=s;obtain⟨hl,q1,q2⟩:=h;have hem:its.isEmpty=false:=by cases e:its.isEmpty with|false=>rfl|true=>rw[Array.isEmpty_iff_size_eq_zero]at e;omega
  show wpAny _ _ (asIndex (.int k t)>>=_) _ _ _;wp_walk using wpAny_loadPart' hl;have hI:IsTup hp l its:=⟨_,hl,rfl,n,rfl⟩;rw[if_neg (by simp;omega)];refine wpAny_bind (PyProof.Rows.tupleItemsOf_ hI ?_);try dsimp only
  by_cases e1:k=1;.rw[if_pos (by simp[e1])];wp_walk using wpAny_loadPart' hl;exact⟨_,rfl,q1 e1⟩
  . have q:=q2 e1;rw[if_neg (by simp[hem,e1])];by_cases e0:k=0;.subst e0;rw[if_pos (by simp)];unfold Builtin.Tuple.tupleExact;refine wpAny_bind (wpAny_newObj_type ?_);exact wpAny_pure ⟨_,rfl,q⟩
    . have hb:(its.size:Int)*k<=sizeLine:=by
       have:((its.size*k.toNat:Nat):Int)<=(sizeLine:Nat):=by exact_mod_cast hz
       rw[Int.natCast_mul,show((k.toNat:Nat):Int)=k by omega]at this;exact this
      have hs2:(sizeLine:Int)<=(2^63-1)/8:=by decide
      rw[if_neg (by simp[hem];omega),if_neg (by omega),if_neg (by simp[Builtin.Tuple.tupleTooMany];omega)];unfold Builtin.Tuple.tupleExact;refine wpAny_bind (wpAny_newObj_type ?_ ?_);.exact wpAny_pure ⟨_,rfl,q⟩
      .have:=foldl_rep its.toList k.toNat [];rw[List.nil_append,show its.toList.toArray=its by simp]at this;show(List.foldl (·++·) #[] (List.replicate k.toNat its)).size<=sizeLine;rw[show(#[]:Array Value)=([]:List Value).toArray from rfl,this,List.size_toArray,len_rep,Array.length_toList,Nat.mul_comm];exact hz
theorem Jq:dR X (binaryOp .Mult) (fun x y H Q=>∃l k xs,x=.ref l/\y=.int k/\gn X.K H l xs/\0<xs.length/\0<=k/\k<2^63/\xs.length*k.toNat<=sizeLine/\(k=1->Q (.ref l) H)/\(k≠1->∀p,H p=none->Q (.ref p) (upd H p (.tup (List.replicate k.toNat xs).flatten)))):=by
 intro pins s σ H x y v u Q I rx ry h;obtain⟨l,k,xs,rfl,rfl,hl,hne,h1,h2,hz,qa,qb⟩:=h;cases rx;obtain⟨t,rfl⟩:=ry;obtain⟨its,r,pl,_⟩:=I.tuple hl;obtain⟨⟨cls,dd,data,sl⟩,ho,hc,n,hd⟩:=id pl;simp only at hc hd;subst hc hd;have hlen:its.toArray.size*k.toNat<=sizeLine:=by rw[List.size_toArray,<-r.length];exact hz
 have hnew:List.foldl (·++·) #[] (List.replicate k.toNat its.toArray)=(List.replicate k.toNat its).flatten.toArray:=by have:=foldl_rep its k.toNat [];rw[List.nil_append]at this;exact this
 refine wpAny_binaryOp_repeat_ref (T:="tuple") (U:="int") (by decide) ⟨_,ho,rfl⟩ (fun s'=>typeIs_int s' k t) lR F.fills_int_mul F.slot_int_rmul rG F.slot_int_index.lookup ?_;refine call_meets F.slot_int_rmul (typeIs_int s k t) F.entry_int_rmul (F.args_int_rmul_2 _ _) (pO k t l its.toArray n dd sl) ⟨ho,rfl,⟨_,ho,rfl⟩,?_⟩;refine call_meets PySem.F.slot_tuple_mul ⟨_,ho,rfl⟩ PySem.F.entry_tuple_mul (PySem.F.args_tuple_mul_2 _ _) (wW l its.toArray n dd sl k t h1 h2 hlen (by rw[List.size_toArray,<-r.length];exact hne)) ⟨ho,fun e=>⟨.ref l,H,I,rfl,qa e⟩,fun e=>?_⟩;rw[hnew];refine⟨.ref s.heap.objs.size,_,I.laid (t':=s.toks) (o:=.tup (List.replicate k.toNat xs).flatten) (fun b ob q=>Heap.get?_push_of_some _ q) (Nat.le_refl _) ?_,rfl,qb e _ (I.hok.fresh (Nat.le_refl _))⟩;exact⟨by rw[len_rep,Nat.mul_comm];exact hz,_,r.rep k.toNat,IsTup.new _ _⟩
theorem gV:dR X (binaryOp .Mult) (rD X.K (uD .mul)):=by
 rintro pins s σ H x y v u Q I rx ry⟨F,d,e,r,sm,px,py,he,k⟩;replace he:nY d e=some r:=he;unfold nY at he;split at he;.obtain⟨hc,he⟩:=bB he;subst he;rw[px.int]at rx;rw[py.int]at ry;exact MK pins s σ H _ _ v u Q I rx ry ⟨_,_,rfl,rfl,hc,cA.dN sm (dg _) k⟩
 . rename_i xs i;obtain⟨⟨h1,h2,h3⟩,he⟩:=bB he;subst he;obtain⟨a,vs,rfl,ha,ra⟩:=px.lst sm;rw[py.int]at ry;have hk:i<2^63:=by have h4:=Nat.le_mul_of_pos_left i.toNat h2;have h5:i.toNat<=16777216:=Nat.le_trans h4 h3;omega
   exact Gu pins s σ H _ _ v u Q I rx ry ⟨a,i,vs,rfl,rfl,ha,by omega,hk,by rw[ra.length];exact h3,fun p hp=>wQ sm (ra.rep i.toNat) hp k⟩
 . rename_i xs i;obtain⟨⟨h1,h2,h3⟩,he⟩:=bB he;subst he;obtain⟨a,vs,rfl,ha,ra,rr⟩:=px.tup sm;rw[py.int]at ry;have hk:i<2^63:=by have h4:=Nat.le_mul_of_pos_left i.toNat h2;have h5:i.toNat<=16777216:=Nat.le_trans h4 h3;omega
   refine Jq pins s σ H _ _ v u Q I rx ry ⟨a,i,vs,rfl,rfl,ha,by rw[ra.length];exact h2,h1,hk,by rw[ra.length];exact h3,fun e=>?_,fun e p hp=>zT sm (ra.rep i.toNat) hp k⟩;subst e;refine cA.dN sm ?_ k;have e1:(List.replicate (1:Int).toNat xs).flatten=xs:=by simp
   rw[e1];exact rr
 .cases he
theorem uV:dR X (binaryOp .FloorDiv) (rD X.K (uD .fdiv)):=by
 rintro pins s σ H x y v u Q I rx ry⟨F,d,e,r,sm,px,py,he,k⟩;replace he:oR d e=some r:=he;unfold oR at he;split at he
 . rename_i i j;obtain⟨⟨h1,h2⟩,he⟩:=bB he;subst he;rw[px.int]at rx;rw[py.int]at ry;obtain⟨t,rfl⟩:=rx;obtain⟨t',rfl⟩:=ry;have hl:j.natAbs.log2<9000:=by
    have:j.natAbs<2^200:=by
     have:(2:Nat)^200=1606938044258990275541962092341162602522202993782792835301376:=by decide
     omega
    have h3:=(Nat.log2_lt (by omega)).mpr this;omega
   exact floordiv_int (by omega) (by rw[Int.fdiv_eq_ediv_of_nonneg i (by omega)];exact⟨.int _,H,I.tok _,⟨_,rfl⟩,cA.dN sm (dg _) k⟩) (.inl (PyProof.noPylong_of_log2 hl))
 .cases he
theorem dH:dR X (binaryOp .Mod) (rD X.K (uD .mod)):=by
 rintro pins s σ H x y v u Q I rx ry⟨F,d,e,r,sm,px,py,he,k⟩;replace he:uH d e=some r:=he;unfold uH at he;split at he;.obtain⟨h1,he⟩:=bB he;subst he;rw[px.int]at rx;rw[py.int]at ry;exact Nz pins s σ H _ _ v u Q I rx ry ⟨_,_,rfl,rfl,h1,cA.dN sm (dg _) k⟩
 .cases he
theorem nq:dR X (binaryOp .Pow) (rD X.K (uD .pow)):=by
 rintro pins s σ H x y v u Q I rx ry⟨F,d,e,r,sm,px,py,he,k⟩;replace he:vg d e=some r:=he;unfold vg at he;split at he;.obtain⟨⟨h1,h2,h3⟩,he⟩:=bB he;subst he;rw[px.int]at rx;rw[py.int]at ry;exact LC pins s σ H _ _ v u Q I rx ry ⟨_,_,rfl,rfl,⟨h1,by omega,h3⟩,cA.dN sm (dg _) k⟩
 .cases he
theorem aA{o:Op}{op:Operator}(ho:dR X (binaryOp op) (rD X.K (uD o)))(ha:SX X c a pa)(hb:SX X c b pb):SX X c (.BinOp a op b pos) (.bin o pa pb):=wC (fun h1 h2=>Th ho h1 h2) ha hb (fun ρ=>by rw[HH.ev]) rfl
theorem Nf(ha:SX X c a pa):SX X c (.UnaryOp .USub a pos) (.neg pa):=by refine Lh (f:=G5) (fun h1=>Vl ?_ h1) ha (fun ρ=>by rw[HH.ev]) rfl;rintro pins s σ H x v Q I rx⟨F,d,r,sm,px,he,k⟩;unfold G5 at he;obtain⟨i,e1,e2⟩:=map_some he;subst e2;cases d<;>cases e1;rw[px.int]at rx;exact Li pins s σ H _ v Q I rx ⟨_,rfl,cA.dN sm (dg _) k⟩
theorem yt{op:CmpOp}{f:Int->Int->Bool}(ho:dR X (compareOp op) (Fo fun i j=>.bl (f i j))):dR X (compareOp op) (rD X.K fun x y=>(Fy f x y).map fun k=>.val (.bl k)):=by
 rintro pins s σ H x y v u Q I rx ry⟨F,d,e,r,sm,px,py,he,k⟩;obtain⟨t,e1,e2⟩:=map_some (show(Fy f d e).map _=some r from he);subst e2;unfold Fy at e1;split at e1;.cases e1;rw[px.int]at rx;rw[py.int]at ry;exact ho pins s σ H _ _ v u Q I rx ry ⟨_,_,rfl,rfl,cA.dN sm (fK _) k⟩
 .cases e1
theorem wD{op:CmpOp}{f:Int->Int->Bool}(ho:dR X (compareOp op) (Fo fun i j=>.bl (f i j))){o:Cm}(hc:cm o=Fy f):dR X (compareOp op) (rD X.K (mG o)):=by
 have e:mG o=fun x y=>(Fy f x y).map fun k=>.val (.bl k):=by funext x y;unfold mG;rw[hc]
 rw[e];exact yt ho
theorem Lz:dR X (compareOp .Lt) (rD X.K fun x y=>(Fy (fun i j=>decide (i<j)) x y).map fun k=>.val (.bl k)):=yt TJ
theorem wy:dR X (compareOp .LtE) (rD X.K (mG .le)):=wD Ut rfl
theorem qX:dR X (compareOp .Gt) (rD X.K (mG .gt)):=wD Uh rfl
theorem Qa:dR X (compareOp .GtE) (rD X.K (mG .ge)):=wD T9 rfl
theorem qp{K:PySem.W.Frag}{F H:Hp}{v:V}{d:D}(h:bW K F H v d):decide (v=.non)=gq d:=by cases d with
 |non=>rw[h.non];rfl|bl _=>rw[h.bl];rfl|int _=>rw[h.int];rfl|str _=>rw[h.str];rfl|tup _=>
   rcases h with h|⟨a,_,_,rfl,_⟩;.rw[Rep]at h;obtain⟨a,_,rfl,_⟩:=h;rfl
   .rfl|lst _=>
   rcases h with h|⟨a,_,_,rfl,_⟩;.rw[Rep]at h;obtain⟨a,_,rfl,_⟩:=h;rfl
   .rfl|cV _=>
   rcases h with h|⟨a,_,_,rfl,_⟩;.rw[Rep]at h;obtain⟨a,_,rfl,_⟩:=h;rfl
   .rfl|dv _ _=>
   rcases h with h|⟨a,_,_,rfl,_⟩;.rw[Rep]at h;obtain⟨a,_,_,rfl,_⟩:=h;rfl
   .rfl
theorem lX:dR X (compareOp .Is) (rD X.K (mG .Qf)):=by
 rintro pins s σ H x y v u Q I rx ry⟨F,d,e,r,sm,px,py,he,k⟩;obtain⟨t,e1,e2⟩:=map_some (show(RJ false d e).map _=some r from he);subst e2;unfold RJ at e1;split at e1;.cases e1;exact Om pins s σ H x y v u Q I rx ry ⟨py.non,by rw[qp px];exact cA.dN sm (fK _) k⟩
 .cases e1
theorem xU:dR X (compareOp .IsNot) (rD X.K (mG .Ey)):=by
 rintro pins s σ H x y v u Q I rx ry⟨F,d,e,r,sm,px,py,he,k⟩;obtain⟨t,e1,e2⟩:=map_some (show(RJ true d e).map _=some r from he);subst e2;unfold RJ at e1;split at e1;.cases e1;exact Jb pins s σ H x y v u Q I rx ry ⟨py.non,by rw[qp px];exact cA.dN sm (fK _) k⟩
 .cases e1
theorem lZ{o:Cm}{op:CmpOp}(ho:dR X (compareOp op) (rD X.K (mG o)))(ha:SX X c a pa)(hb:SX X c b pb)(hm:behindInMarks op b=false):SX X c (.Compare a [op] [b] pos) (.cmp o pa pb):=wC (fun h1 h2=>Gv ho h1 h2 hm) ha hb (fun ρ=>by rw[HH.ev]) rfl
end
end HH
end
section
namespace HH
open PySem L2 PySem.Spec PyProof.Rows
section
variable{X:Cx}{c:Call}{e a b d:Expr}{p pa pb pd:P}{pos:Pos}{rest:List Expr}
theorem oM{x:D}{k:Bool}(h:vp x=some k):x=.bl k:=by cases x<;>cases h;rfl
theorem gf{x:D}{k:Int}(h:fP x=some k):x=.int k:=by cases x<;>cases h;rfl
theorem cz.bool{K:PySem.W.Frag}{F' H' H:Hp}{ρ' ρ:List Sl}{σ' σ:L2.St}{v:V}{r:R}{k:Bool}(h:cz K F' ρ' σ' H' ρ σ H v r)(e:r.d=.bl k):v=.bl k:=by cases r with|val d=>cases(show d=.bl k from e);have h:Rep K F' v (.bl k):=h;rw[Rep]at h;exact h|own ds=>cases e
noncomputable def ST(X:Cx)(c:Call)(e:Expr)(p:P):Prop:=PT X e (JS X.K (ie (HH.ev c p)))
noncomputable def SW(X:Cx)(c:Call)(e:Expr)(p:P):Prop:=PW X e (JS X.K (ie (HH.ev c p)))
theorem SW.st(h:SW X c e p):ST X c e p:=PW.pt h
theorem oV{t:TE}{Q:Bool->Hp->Prop}{σ:L2.St}{H:Hp}(hi:∀Q,Cz X.K (HH.ev c p) σ H Q->t σ H Q)(h:JS X.K (ie (HH.ev c p)) σ H Q):t σ H fun x H1=>∃k,x=.bl k/\Q k H1:=by obtain⟨F,ρ,k,ρ',g,e,q⟩:=h;obtain⟨r,ρ1,e1,e2⟩:=ao e;have zz:=aJ e2;clear e2;obtain⟨e2,e3⟩:=zz;subst e3;exact hi _ ⟨F,ρ,r,ρ1,g,e1,fun v F' H' s rr=>⟨k,rr.bool (oM e2),q F' H' s⟩⟩
theorem il(h:SX X c e p)(he:∀whole,isTrue e X.env whole=(do let v<-whole;standAt e.pos;holding [v] (truthy v)):=by intro _;rfl):ST X c e p:=ye (CK h.ev he) fun σ H Q q=>oV (fun _ z=>z) q
theorem bf{o:Cm}{op:CmpOp}(ho:dR X (compareOp op) (rD X.K (mG o)))(ha:SX X c a pa)(hb:SX X c b pb)(hm:behindInMarks op b=false):ST X c (.Compare a [op] [b] pos) (.cmp o pa pb):=by obtain⟨ta,tb,h1,h2,h3⟩:=ha.jJ hb;refine ye (Ge ho h1 h2 hm) fun σ H Q q=>oV (t:=Rb (rD X.K (mG o)) ta tb) (fun Q z=>?_) q;obtain⟨F,ρ,r,ρ',g,e,k⟩:=z;rw[HH.ev]at e;obtain⟨xy,ρ1,e1,e2⟩:=ao e;have zz:=aJ e2;clear e2;obtain⟨e2,e3⟩:=zz;subst e3;refine h3 g e1 fun v u F' H' s pv pu=>⟨F',xy.1,xy.2,r,s.gs.sub,pv,pu,e2,fun w F2 H2 x rn=>?_⟩;exact k w F2 H2 (s.trans (x.stp s.gs)) (.later s (rn.p7 s.gs))
theorem pM(ha:ST X c a pa):ST X c (.UnaryOp .Not a pos) (.not pa):=by
 refine ye (CP ha) ?_;rintro σ H Q⟨F,ρ,k,ρ',g,e,q⟩;unfold ie at e;rw[HH.ev]at e;obtain⟨r,ρ1,e1,e2⟩:=ao e;obtain⟨k',ρ2,e3,e4⟩:=ao e1;cases e4;have zz:=aJ e2;clear e2;obtain⟨e2,e5⟩:=zz;subst e5;have e2:(!k')=k:=by cases e2;rfl
 exact⟨F,ρ,k',_,g,e3,fun F' H' s=>by show Q (!k') H';rw[e2];exact q F' H' s⟩
theorem Iv(ρ:List Sl):ie (HH.ev c (.and pa pb)) ρ=(ie (HH.ev c pa) ρ).bind fun x ρ=>if x then ie (HH.ev c pb) ρ else .ok false ρ:=by unfold ie;rw[HH.ev];unfold ie;cases HH.ev c pa ρ with|exc _ _=>rfl|stuck=>rfl|ok r ρ1=>simp only[Res.bind];cases h:vp r.d with|none=>rfl|some k=>cases k with|false=>rfl|true=>simp only[lift,if_true];cases HH.ev c pb ρ1 with|exc _ _=>rfl|stuck=>rfl|ok r2 ρ2=>simp only[Res.bind];cases h2:vp r2.d with|none=>rfl|some k2=>rfl
theorem NT(ρ:List Sl):ie (HH.ev c (.or pa pb)) ρ=(ie (HH.ev c pa) ρ).bind fun x ρ=>if x then .ok true ρ else ie (HH.ev c pb) ρ:=by unfold ie;rw[HH.ev];unfold ie;cases HH.ev c pa ρ with|exc _ _=>rfl|stuck=>rfl|ok r ρ1=>simp only[Res.bind];cases h:vp r.d with|none=>rfl|some k=>cases k with|true=>rfl|false=>simp only[lift,Bool.false_eq_true,if_false];cases HH.ev c pb ρ1 with|exc _ _=>rfl|stuck=>rfl|ok r2 ρ2=>simp only[Res.bind];cases h2:vp r2.d with|none=>rfl|some k2=>rfl
theorem m6(ha:ST X c a pa):SW X c (.BoolOp .And [a] pos) pa:=yf ha
theorem BP(ha:ST X c a pa):SW X c (.BoolOp .Or [a] pos) pa:=KZ ha
theorem o4(ha:ST X c a pa)(hb:SW X c (.BoolOp .And (b::rest) pos) pb):SW X c (.BoolOp .And (a::b::rest) pos) (.and pa pb):=by refine JR (Cq ha hb) ?_;rintro σ H Q⟨F,ρ,k,ρ',g,e,q⟩;rw[Iv]at e;obtain⟨x,ρ1,e1,e⟩:=ao e;refine⟨F,ρ,x,ρ1,g,e1,fun F1 H1 s1=>?_⟩;cases x with|true=>rw[if_pos rfl]at e ⊢;exact⟨F1,ρ1,k,ρ',s1.gs,e,fun F2 H2 s2=>q F2 H2 (s1.trans s2)⟩|false=>rw[if_neg Bool.false_ne_true]at e ⊢;cases e;exact q F1 H1 s1
theorem JM(ha:ST X c a pa)(hb:SW X c (.BoolOp .Or (b::rest) pos) pb):SW X c (.BoolOp .Or (a::b::rest) pos) (.or pa pb):=by refine JR (TQ ha hb) ?_;rintro σ H Q⟨F,ρ,k,ρ',g,e,q⟩;rw[NT]at e;obtain⟨x,ρ1,e1,e⟩:=ao e;refine⟨F,ρ,x,ρ1,g,e1,fun F1 H1 s1=>?_⟩;cases x with|true=>rw[if_pos rfl]at e ⊢;cases e;exact q F1 H1 s1|false=>rw[if_neg Bool.false_ne_true]at e ⊢;exact⟨F1,ρ1,k,ρ',s1.gs,e,fun F2 H2 s2=>q F2 H2 (s1.trans s2)⟩
theorem Pz(ha:SX X c a pa):SX X c (.UnaryOp .Not a pos) (.not pa):=by refine⟨dm (Pb ha.ev) ?_,fun i h=>by cases h⟩;rintro σ H Q⟨F,ρ,r,ρ',g,e,k⟩;rw[HH.ev]at e;obtain⟨x,ρ1,e1,e2⟩:=ao e;cases e2;exact oV (c:=c) (fun _ z=>z) ⟨F,ρ,x,_,g,e1,fun F' H' s=>k _ F' H' s (show Rep X.K F' _ _ from fK _)⟩
theorem sr{op}(ha:SX X c a pa):PE X (.BoolOp op [a] pos) (Cz X.K (HH.ev c pa)):=Mw ha.ev
theorem o6(ha:SX X c a pa)(hb:PE X (.BoolOp .And (b::rest) pos) (Cz X.K (HH.ev c pb))):SX X c (.BoolOp .And (a::b::rest) pos) (.and pa pb):=by refine⟨dm (Og ha.ev hb) ?_,fun i h=>by cases h⟩;rintro σ H Q⟨F,ρ,r,ρ',g,e,k⟩;rw[HH.ev]at e;obtain⟨x,ρ1,e1,e⟩:=ao e;refine oV (c:=c) (fun _ z=>z) (Q:=fun x H1=>if x=true then Cz X.K (HH.ev c pb) σ H1 Q else Q (.bl false) H1) ⟨F,ρ,x,ρ1,g,e1,fun F1 H1 s1=>?_⟩;cases x with|true=>rw[if_pos rfl]at e ⊢;obtain⟨y,ρ2,e2,e3⟩:=ao e;cases e3;obtain⟨r2,ρ3,e4,e5⟩:=ao e2;have zz:=aJ e5;clear e5;obtain⟨e5,e6⟩:=zz;subst e6;refine⟨F1,ρ1,r2,_,s1.gs,e4,fun v F2 H2 s2 rr=>?_⟩;rw[rr.bool (oM e5)];exact k _ F2 H2 (s1.trans s2) (show Rep X.K F2 _ _ from fK _)|false=>rw[if_neg Bool.false_ne_true]at e ⊢;cases e;exact k _ F1 H1 s1 (show Rep X.K F1 _ _ from fK _)
theorem rW:∀{ps:List P}{ρ ρ':List Sl}{ds:List D},evs c ps ρ=.ok ds ρ'->ds.length=ps.length|[],_,_,_,h=>by rw[evs]at h;cases h;rfl|p::ps,_,_,_,h=>by rw[evs]at h;obtain⟨r,ρ1,_,h⟩:=ao h;obtain⟨xs,ρ2,h2,h⟩:=ao h;cases h;simp[rW h2]
theorem aN:SA X c [] []:=⟨kj cQ fun σ H Q⟨F,ρ,ds,ρ',g,e,k⟩=>by rw[evs]at e;cases e;exact k [] F H (.refl g) .nil,rfl⟩
theorem mY{es:List Expr}{ps:List P}(ha:SX X c a pa)(hr:SA X c es ps)(hs:starEach (a::es) X.env=(false,eval a X.env)::starEach es X.env:=by rfl):SA X c (a::es) (pa::ps):=by refine⟨kj (aW ha.ev hr.1 hs) ?_,by simp[hr.2]⟩;rintro σ H Q⟨F,ρ,ds,ρ',g,e,k⟩;rw[evs]at e;obtain⟨r,ρ1,e1,e⟩:=ao e;obtain⟨xs,ρ2,e2,e⟩:=ao e;cases e;refine⟨F,ρ,r,ρ1,g,e1,fun v F' H' s rr=>?_⟩;obtain⟨F1,s1,_,rp⟩:=s.fH rr;refine⟨F1,ρ1,xs,_,s1.gs,e2,fun vs F2 H2 s2 rs=>?_⟩;exact k _ F2 H2 (s1.trans s2) (.cons (rp.mono s2.cB) rs)
theorem Ext.G7{K:PySem.W.Frag}{F H:Hp}{ρ ρ':List Sl}{σ:L2.St}{H0 F0:Hp}{Q:VK}{xs:List V}{ds:List D}(s:bC K F0 ρ σ H0 F ρ' σ H)(r:aB K F xs ds)(k:∀v F' H',bC K F0 ρ σ H0 F' ρ' σ H'->cz K F' ρ' σ H' ρ σ H0 v (.val (.tup ds))->Q v H')(p:Addr)(hp:H p=none):Q (.ref p) (upd H p (.tup xs)):=zT s.gs.sub r hp fun v F' H' x rn=>k v F' H' (s.trans (x.stp s.gs)) rn
theorem cY{es:List Expr}{ps:List P}{x1}(h:SA X c es ps)(hz:ps.length<=sizeLine:=by decide):SX X c (.Tuple es x1 pos) (.tup ps):=by refine⟨dm (wX h.1) ?_,fun i h=>by cases h⟩;rintro σ H Q⟨F,ρ,r,ρ',g,e,k⟩;rw[HH.ev]at e;obtain⟨ds,ρ1,e1,e⟩:=ao e;cases e;exact⟨F,ρ,ds,_,g,e1,fun vs F' H' s rs=>⟨by rw[rs.length,rW e1];exact hz,fun p hp=>Ext.G7 s rs k p hp⟩⟩
theorem cC{es:List Expr}{ps:List P}(h:SA X c es ps)(hz:ps.length<=sizeLine:=by decide):SX X c (.List es pos) (.lst ps):=by refine⟨dm (Qc h.1) ?_,fun i h=>by cases h⟩;rintro σ H Q⟨F,ρ,r,ρ',g,e,k⟩;rw[HH.ev]at e;obtain⟨ds,ρ1,e1,e⟩:=ao e;cases e;exact⟨F,ρ,ds,_,g,e1,fun vs F' H' s rs=>⟨by rw[rs.length,rW e1];exact hz,fun p hp=>wQ s.gs.sub rs hp fun v F2 H2 x rn=>k v F2 H2 (s.trans (x.stp s.gs)) (.later s (rn.p7 s.gs))⟩⟩
theorem Px{ds:List D}{i:Int}{d:D}(h:at' ds i=some d):∃j,L2.jr ds.length i=some j/\ds[j]?=some d:=dJ h
theorem Yk:W2 X (rD X.K Aq):=by
 rintro value slice pins s σ H x y v u Q I rx ry⟨F,d,e,r,sm,px,py,he,k⟩hs;unfold Aq at he;obtain⟨ds,e1,he⟩:=dJ he;obtain⟨i,e2,he⟩:=dJ he;obtain⟨z,e3,he⟩:=map_some he;subst he;cases gf e2;rw[py.int]at ry;obtain⟨p,xs,rfl,hq,rs⟩:=px.items sm e1;obtain⟨j,h1,h2⟩:=Px e3;obtain⟨w,h3,h4⟩:=rs.get h2;have hat:Rq xs i=some w:=by unfold Rq;rw[rs.length,h1];exact h3
 rcases hq with hq|hq;.exact Hf value slice pins s σ H _ _ v u Q I rx ry ⟨p,xs,i,w,rfl,rfl,hq,hat,cA.dN sm h4 k⟩ hs
 .exact Nq value slice pins s σ H _ _ v u Q I rx ry ⟨p,xs,i,w,rfl,rfl,hq,hat,cA.dN sm h4 k⟩ hs
theorem aq(ha:SX X c a pa)(hb:SX X c b pb)(hs:yp b:=by intro _ _;rfl):SX X c (.Subscript a b pos) (.idx pa pb):=wC (f:=Aq) (fun h1 h2=>Sg Yk h1 h2 hs) ha hb (fun ρ=>by rw[HH.ev]) rfl
noncomputable def O8(K:PySem.W.Frag)(f:D->Option R):List V->Hp->VK->Prop:=fun xs H Q=>∃x,xs=[x]/\rD1 K f x H Q
theorem qx{E:Expr}{f:D->Option R}{q:P}(hp:∀{t},PA X [a] t->PE X E (Xc (O8 X.K f) t))(ha:SX X c a pa)(hq:∀ρ,HH.ev c q ρ=(HH.cN (isVar pa) (HH.ev c pa) ρ).bind fun x ρ=>lift (f x) ρ)(hv:isVar q=none)(hs:starEach [a] X.env=(false,eval a X.env)::starEach [] X.env:=by rfl):SX X c E q:=by obtain⟨ta,h1,h3⟩:=ha.cN;refine⟨dm (hp (aW h1 cQ hs)) ?_,fun i h=>by rw[hv]at h;cases h⟩;rintro σ H Q⟨F,ρ,r,ρ',g,e,k⟩;rw[hq]at e;obtain⟨x,ρ1,e1,e2⟩:=ao e;have zz:=aJ e2;clear e2;obtain⟨e2,e3⟩:=zz;subst e3;refine h3 g e1 fun v F' H' s pv=>⟨v,rfl,F',x,r,s.gs.sub,pv,e2,fun w F2 H2 x rn=>?_⟩;exact k w F2 H2 (s.trans (x.stp s.gs)) (.later s (rn.p7 s.gs))
theorem S6:di X (.builtin "len") (O8 X.K fun x=>blt .len [x]):=by rintro pins s σ H xs us Q I r⟨x,hx,F,d,r',sm,px,he,k⟩;obtain⟨ds,e1,he⟩:=map_some (show(items d).map _=some r' from he);subst he;obtain⟨p,ys,rfl,hq,rs⟩:=px.items sm e1;exact rO pins s σ H xs us Q I r ⟨p,ys,hx,hq,by rw[rs.length];exact cA.dN sm (dg _) k⟩
theorem Mp:di X (.type "list") (O8 X.K fun x=>blt .list [x]):=by rintro pins s σ H xs us Q I r⟨x,hx,F,d,r',sm,px,he,k⟩;obtain⟨ds,e1,he⟩:=map_some (show(items d).map _=some r' from he);subst he;obtain⟨p,ys,rfl,hq,rs⟩:=px.items sm e1;exact sS pins s σ H xs us Q I r ⟨p,ys,hx,hq,fun l hl=>wQ sm rs hl k⟩
theorem Hs:di X (.type "tuple") (O8 X.K fun x=>blt .tuple [x]):=by rintro pins s σ H xs us Q I r⟨x,hx,F,d,r',sm,px,he,k⟩;obtain⟨ds,e1,he⟩:=map_some (show(items d).map _=some r' from he);subst he;cases d with|tup es=>cases e1;obtain⟨a,ys,rfl,hq,rs,rt⟩:=px.tup sm;exact jw pins s σ H xs us Q I r ⟨a,ys,hx,.inr ⟨hq,cA.dN sm rt k⟩⟩|lst es=>cases e1;obtain⟨a,ys,rfl,hq,rs⟩:=px.lst sm;exact jw pins s σ H xs us Q I r ⟨a,ys,hx,.inl ⟨hq,fun l hl=>zT sm rs hl k⟩⟩|_=>cases e1
theorem pg{x:Str}{p':Pos}(hx:x="len")(hg:Gl X x)(hm:X.mg x=none)(ha:SX X c a pa)(hs:starEach [a] X.env=(false,eval a X.env)::starEach [] X.env:=by rfl):SX X c (.Call (.Name x p') [a] [] pos) (.blt .len [pa]):=by subst hx;exact qx (fun h=>cW S6 hg hm PySem.boot_len h (he:=hs)) ha (fun ρ=>by rw[HH.ev]) rfl hs
theorem Hy{x:Str}{p':Pos}(hx:x="list")(hg:Gl X x)(hm:X.mg x=none)(ha:SX X c a pa)(hs:starEach [a] X.env=(false,eval a X.env)::starEach [] X.env:=by rfl):SX X c (.Call (.Name x p') [a] [] pos) (.blt .list [pa]):=by subst hx;exact qx (fun h=>qu Mp hg hm (by decide+kernel) h (he:=hs)) ha (fun ρ=>by rw[HH.ev]) rfl hs
theorem iD{x:Str}{p':Pos}(hx:x="tuple")(hg:Gl X x)(hm:X.mg x=none)(ha:SX X c a pa)(hs:starEach [a] X.env=(false,eval a X.env)::starEach [] X.env:=by rfl):SX X c (.Call (.Name x p') [a] [] pos) (.blt .tuple [pa]):=by subst hx;exact qx (fun h=>qu Hs hg hm (by decide+kernel) h (he:=hs)) ha (fun ρ=>by rw[HH.ev]) rfl hs
end
end HH
end
section
namespace HH
open PySem L2 PySem.Spec PyProof.Rows
noncomputable def nW(K:PySem.W.Frag)(np:Nat)(f:List Sl->Res R):Sp:=fun vs H Q _=>vs.length=np/\∃F args r args',GS K F args (vs.map some) H/\f args=.ok r args'/\∀v F' σ' H',bC K F args (vs.map some) H F' args' σ' H'->cz K F' args' σ' H' args (vs.map some) H v r->Q v H'
section
variable{K:PySem.W.Frag}
noncomputable def vX(K:PySem.W.Frag)(F:Hp)(ρ:List Sl)(σ:L2.St)(H:Hp)(ρ₀:List Sl)(H₀:Hp)(v:V):Arg->Prop|.dat d=>Rep K F v d|.tmp ds=>∃x xs,v=.ref x/\H x=some (.lst xs)/\F x=none/\aB K F xs ds/\¬ Own ρ σ x/\(Own ρ₀ σ x\/H₀ x=none)|.dU i=>σ[i]?=some (some v)
structure uI(K:PySem.W.Frag)(F:Hp)(ρ:List Sl)(σ:L2.St)(H:Hp)(ρ₀:List Sl)(H₀:Hp)(as:List Arg)(vs:List V):Prop where
 len:as.length=vs.length
 one:∀(j:Nat)(a:Arg)(v:V),as[j]?=some a->vs[j]?=some v->vX K F ρ σ H ρ₀ H₀ v a
 dis:∀(j k:Nat)(ds es:List D)(x:Addr),as[j]?=some (.tmp ds)->as[k]?=some (.tmp es)->vs[j]?=some (.ref x)->vs[k]?=some (.ref x)->j=k
theorem vX.later{F F' H H' H₀:Hp}{ρ ρ' ρ₀:List Sl}{σ:L2.St}{v:V}{a:Arg}(s:bC K F ρ σ H F' ρ' σ H')(h:vX K F ρ σ H ρ₀ H₀ v a):vX K F' ρ' σ H' ρ₀ H₀ v a:=by cases a with|dat d=>exact Rep.mono s.cB h|dU i=>exact h|tmp ds=>
   obtain⟨x,xs,h1,h2,h3,h4,h5,h6⟩:=h;refine⟨x,xs,h1,s.keep x _ h2 h5,?_,h4.mono s.cB,fun o=>?_,h6⟩;.cases q:F' x with|none=>rfl|some o=>
       rcases s.yX x h3 (by rw[q];simp)with z|z;.exact absurd z h5
       .exact(CG h2 z).elim
   . rcases s.yZ x o with z|z;.exact h5 z
     .rw[h2]at z;cases z
theorem uI.nil{F H H₀:Hp}{ρ ρ₀:List Sl}{σ:L2.St}:uI K F ρ σ H ρ₀ H₀ [] []:=⟨rfl,fun j a v h=>by simp at h,fun j k ds es x h=>by simp at h⟩
theorem uI.cons{F H H₀:Hp}{ρ ρ₀:List Sl}{σ:L2.St}{a:Arg}{v:V}{as:List Arg}{vs:List V}(h:vX K F ρ σ H ρ₀ H₀ v a)(t:uI K F ρ σ H ρ₀ H₀ as vs)(hd:∀ds x,a=.tmp ds->v=.ref x->∀(k:Nat)es,as[k]?=some (.tmp es)->vs[k]?≠some (.ref x)):uI K F ρ σ H ρ₀ H₀ (a::as) (v::vs):=by
 refine⟨by simp[t.len],fun j b u h1 h2=>?_,fun j k ds es x h1 h2 h3 h4=>?_⟩;.cases j with|zero=>simp at h1 h2;subst h1;subst h2;exact h|succ j=>exact t.one j b u (by simpa using h1) (by simpa using h2)
 .cases j with
   |zero=>cases k with|zero=>rfl|succ k=>simp at h1 h3;exact absurd (by simpa using h4) (hd ds x h1 h3 k es (by simpa using h2))
   |succ j=>cases k with|zero=>simp at h2 h4;exact absurd (by simpa using h3) (hd es x h2 h4 j ds (by simpa using h1))|succ k=>rw[t.dis j k ds es x (by simpa using h1) (by simpa using h2) (by simpa using h3) (by simpa using h4)]
noncomputable def BR(ρ:List Sl):Arg->Sl->Prop|.dat d,s=>s=.val false d|.tmp ds,s=>s=.own false ds|.dU i,s=>(∃b d,ρ[i]?=some (.val b d)/\s=.val false d)\/(∃b ds,ρ[i]?=some (.own b ds)/\s=.own true ds)\/∃ds,ρ[i]?=some (.lent ds)/\s=.lent ds
theorem o8{ρ:List Sl}:∀{as:List Arg}{used:List Nat}{args:List Sl},aZ ρ as used=some args->args.length=as.length/\(∀(j:Nat)(a:Arg)(s:Sl),as[j]?=some a->args[j]?=some s->BR ρ a s)/\(∀(j:Nat)(i:Nat)(s:Sl)ds,as[j]?=some (.dU i)->args[j]?=some s->lst? s=some ds->i∉used)/\(∀(j k:Nat)(i:Nat)(s t:Sl)ds es,as[j]?=some (.dU i)->as[k]?=some (.dU i)->args[j]?=some s->args[k]?=some t->lst? s=some ds->lst? t=some es->j=k)
 |[],used,args,h=>by rw[aZ]at h;cases h;exact⟨rfl,fun j a s h=>by simp at h,fun j i s ds h=>by simp at h,fun j k i s t ds es h=>by simp at h⟩|a::as,used,args,h=>by--the aa8 slot,the aa9
   have key:∃s0 r vN,args=s0::r/\aZ ρ as vN=some r/\BR ρ a s0/\((∃i ds,a=.dU i/\lst? s0=some ds/\vN=i::used/\i∉used)\/((∀i ds,a=.dU i->lst? s0≠some ds)/\vN=used)):=by cases a with|dat d=>rw[aZ]at h;obtain⟨r,e1,e2⟩:=map_some h;exact⟨_,r,used,e2.symm,e1,rfl,.inr ⟨fun i ds z=>(by cases z),rfl⟩⟩|tmp d=>rw[aZ]at h;obtain⟨r,e1,e2⟩:=map_some h;exact⟨_,r,used,e2.symm,e1,rfl,.inr ⟨fun i ds z=>(by cases z),rfl⟩⟩|dU i=>
      rw[aZ]at h;split at h;.rename_i b d q;obtain⟨r,e1,e2⟩:=map_some h;exact⟨_,r,used,e2.symm,e1,.inl ⟨b,d,q,rfl⟩,.inr ⟨fun _ _ _ z=>(by cases z),rfl⟩⟩
      . rename_i b ds q;split at h;.cases h
        .rename_i hu;obtain⟨r,e1,e2⟩:=map_some h;exact⟨_,r,_,e2.symm,e1,.inr (.inl ⟨b,ds,q,rfl⟩),.inl ⟨i,_,rfl,rfl,rfl,by simpa using hu⟩⟩
      . rename_i ds q;split at h;.cases h
        .rename_i hu;obtain⟨r,e1,e2⟩:=map_some h;exact⟨_,r,_,e2.symm,e1,.inr (.inr ⟨ds,q,rfl⟩),.inl ⟨i,_,rfl,rfl,rfl,by simpa using hu⟩⟩
      .cases h
   obtain⟨s0,r,vN,rfl,hr,hs0,hu⟩:=key;obtain⟨l1,l2,l3,l4⟩:=o8 hr;have sub:∀i,i∉vN->i∉used:=fun i hi hm=>by
    rcases hu with⟨_,_,_,_,rfl,_⟩|⟨_,rfl⟩;.exact hi (List.mem_cons_of_mem _ hm)
    .exact hi hm
   refine⟨by simp[l1],fun j b s h1 h2=>?_,fun j i s ds h1 h2 h3=>?_,fun j k i s t ds es h1 h2 h3 h4 h5 h6=>?_⟩;.cases j with|zero=>simp at h1 h2;subst h1;subst h2;exact hs0|succ j=>exact l2 j b s (by simpa using h1) (by simpa using h2)
   .cases j with|zero=>
       simp at h1 h2;subst h1;subst h2;rcases hu with⟨i',_,e,_,_,hn⟩|⟨hn,_⟩;.cases e;exact hn
       .exact absurd h3 (hn i ds rfl)|succ j=>exact sub i (l3 j i s ds (by simpa using h1) (by simpa using h2) h3)
   . have z0:∀(k:Nat)(t:Sl)es,a=.dU i->lst? s0=some ds->(as[k]?=some (.dU i))->r[k]?=some t->lst? t=some es->False:=fun k t es ea e0 hk ht he=>by
      rcases hu with⟨i',_,e,_,rfl,hn⟩|⟨hn,_⟩;.rw[ea]at e;cases e;exact l3 k i t es hk ht he List.mem_cons_self
      .exact hn i ds ea e0
     have z1:∀(k:Nat)(t:Sl)es,a=.dU i->lst? s0=some es->(as[k]?=some (.dU i))->r[k]?=some t->lst? t=some ds->False:=fun k t es ea e0 hk ht he=>by
      rcases hu with⟨i',_,e,_,rfl,hn⟩|⟨hn,_⟩;.rw[ea]at e;cases e;exact l3 k i t ds hk ht he List.mem_cons_self
      .exact hn i es ea e0
     cases j with
     |zero=>cases k with|zero=>rfl|succ k=>simp at h1 h3;subst h3;exact(z0 k t es h1 h5 (by simpa using h2) (by simpa using h4) h6).elim
     |succ j=>cases k with|zero=>simp at h2 h4;subst h4;exact(z1 j s es h2 h6 (by simpa using h1) (by simpa using h3) h5).elim|succ k=>rw[l4 j k i s t ds es (by simpa using h1) (by simpa using h2) (by simpa using h3) (by simpa using h4) h5 h6]
theorem uI.get{F H H₀:Hp}{ρ ρ₀:List Sl}{σ:L2.St}{as:List Arg}{vs:List V}(A:uI K F ρ σ H ρ₀ H₀ as vs){args:List Sl}{j:Nat}{s:Sl}(hl:args.length=as.length)(h:args[j]?=some s):∃a v,as[j]?=some a/\vs[j]?=some v/\vX K F ρ σ H ρ₀ H₀ v a:=by
 have hj:j<args.length:=(List.getElem?_eq_some_iff.mp h).1;have h1:j<as.length:=by omega
 have h2:j<vs.length:=by rw[<-A.len];exact h1
 exact⟨as[j],vs[j],by simp[h1],by simp[h2],A.one j _ _ (by simp[h1]) (by simp[h2])⟩
theorem args_gs{F H H₀:Hp}{ρ ρ₀:List Sl}{σ:L2.St}{as:List Arg}{vs:List V}{args:List Sl}(g:GS K F ρ σ H)(A:uI K F ρ σ H ρ₀ H₀ as vs)(h:aZ ρ as []=some args):GS K F args (vs.map some) H:=by
 obtain⟨l1,l2,l3,l4⟩:=o8 h;have up:∀{j:Nat}{v:V},vs[j]?=some v->(vs.map some)[j]?=some (some v):=fun e=>by rw[List.getElem?_map,e];rfl
 have dn:∀{j:Nat}{v:V},(vs.map some)[j]?=some (some v)->vs[j]?=some v:=fun{j v}e=>by rw[List.getElem?_map]at e;cases q:vs[j]?with|none=>rw[q]at e;cases e|some w=>rw[q]at e;cases e;rfl
 refine⟨g.sub,by rw[l1,A.len,List.length_map],fun j b d e=>?_,fun j s ds e e'=>?_,fun j k x⟨⟨s,ds,e1,e2⟩,e3⟩⟨⟨t,es,f1,f2⟩,f3⟩=>?_⟩;.obtain⟨a,v,h1,h2,h3⟩:=A.get l1 e;have h4:=l2 j a _ h1 e;refine⟨v,up h2,?_⟩;cases a with|dat d'=>cases h4;exact h3|tmp ds=>cases h4|dU i=>
     rcases h4 with⟨b',d',q1,q2⟩|⟨_,_,_,q2⟩|⟨_,_,q2⟩;.cases q2;obtain⟨w,q3,q4⟩:=g.val i b' d q1;have h3:σ[i]?=some (some v):=h3;rw[h3]at q3;cases q3;exact q4
     .cases q2
     .cases q2
 .obtain⟨a,v,h1,h2,h3⟩:=A.get l1 e;have h4:=l2 j a _ h1 e;cases a with|dat d'=>cases h4;cases e'|tmp es=>cases h4;cases e';obtain⟨x,xs,rfl,q2,q3,q4,_⟩:=h3;exact⟨x,_,up h2,q2,q3,xs,rfl,q4⟩|dU i=>
     have h3:σ[i]?=some (some v):=h3;rcases h4 with⟨b',d',q1,q2⟩|⟨b',es,q1,q2⟩|⟨es,q1,q2⟩;.cases q2;cases e'
     .cases q2;cases e';obtain⟨x,xs,q3,q4⟩:=g.own i _ _ q1 rfl;rw[h3]at q3;cases q3;exact⟨x,xs,up h2,q4⟩
     .cases q2;cases e';obtain⟨x,xs,q3,q4⟩:=g.own i _ _ q1 rfl;rw[h3]at q3;cases q3;exact⟨x,xs,up h2,q4⟩
 . obtain⟨a,v,h1,h2,h3⟩:=A.get l1 e1;obtain⟨a',v',h1',h2',h3'⟩:=A.get l1 f1;have e3:=dn e3;have f3:=dn f3;rw[h2]at e3;cases e3;rw[h2']at f3;cases f3;have s1:=l2 j a _ h1 e1;have s2:=l2 k a' _ h1' f1;have nm:∀{i:Nat}{s:Sl}{ds:Oc},lst? s=some ds->BR ρ (.dU i) s->∃s' ds',ρ[i]?=some s'/\lst? s'=some ds':=fun{i s ds}l z=>by
    rcases z with⟨_,_,_,z⟩|⟨b,es,q,_⟩|⟨es,q,_⟩;.subst z;cases l
    .exact⟨_,_,q,rfl⟩
    .exact⟨_,_,q,rfl⟩
   cases a with
   |dat d=>cases s1;cases e2|tmp Ql=>cases a' with|dat d=>cases s2;cases f2|tmp Jy=>exact A.dis j k Ql Jy x h1 h1' h2 h2'|dU i=>obtain⟨y,_,q1,_,_,_,q2,_⟩:=h3;cases q1;obtain⟨s',ds',q3,q4⟩:=nm f2 s2;exact absurd ⟨i,⟨s',ds',q3,q4⟩,h3'⟩ q2
   |dU i=>obtain⟨s',ds',q3,q4⟩:=nm e2 s1;cases a' with|dat d=>cases s2;cases f2|tmp Jy=>obtain⟨y,_,q1,_,_,_,q2,_⟩:=h3';cases q1;exact absurd ⟨i,⟨s',ds',q3,q4⟩,h3⟩ q2|dU i'=>obtain⟨s'',aba,q5,q6⟩:=nm f2 s2;have:=g.dis i i' x ⟨⟨s',ds',q3,q4⟩,h3⟩ ⟨⟨s'',aba,q5,q6⟩,h3'⟩;subst this;exact l4 j k i s t ds es h1 h1' e1 f1 e2 f2
theorem lQ{as:List Arg}{ss:List Sl}:∀(ρ:List Sl)(n i:Nat),(bY as ss n ρ)[i]?=(ρ[i]?).map fun s=>dq s (aM (n+i) as ss)
 |[],n,i=>by simp[bY]|s::ρ,n,0=>by simp[bY]|s::ρ,n,i+1=>by
   rw[bY];simp only[List.getElem?_cons_succ];rw[lQ ρ (n+1) i];have:n+1+i=n+(i+1):=by omega
   rw[this]
theorem lN{as:List Arg}{ss:List Sl}:∀(ρ:List Sl)(n:Nat),(bY as ss n ρ).length=ρ.length|[],n=>rfl|s::ρ,n=>by rw[bY];simp[lN ρ]
theorem gG{i:Nat}:∀{as:List Arg}{ss:List Sl}{t:Sl},aM i as ss=some t->∃j:Nat,as[j]?=some (.dU i)/\ss[j]?=some t
 |[],_,_,h=>by simp[aM]at h|a::as,[],_,h=>by cases a<;>simp[aM]at h|a::as,s::ss,t,h=>by
   have tl:aM i as ss=some t->∃j:Nat,(a::as)[j]?=some (.dU i)/\(s::ss)[j]?=some t:=fun h=>by obtain⟨j,h1,h2⟩:=gG h;exact⟨j+1,by simpa using h1,by simpa using h2⟩
   cases a with|dat d=>exact tl (by simpa[aM]using h)|tmp d=>exact tl (by simpa[aM]using h)|dU k=>
     rw[aM]at h;split at h;.rename_i hk;cases h;subst hk;exact⟨0,rfl,rfl⟩
     .exact tl h
theorem jB{i:Nat}:∀{as:List Arg}{ss:List Sl},as.length=ss.length->aM i as ss=none->∀j:Nat,as[j]?≠some (.dU i)
 |[],_,_,_=>fun j h=>by simp at h|a::as,[],hl,_=>by simp at hl|a::as,s::ss,hl,h=>fun j hj=>by
   have hl':as.length=ss.length:=by simpa using hl
   have tl:aM i as ss=none/\a≠.dU i:=by cases a with|dat d=>exact⟨by simpa[aM]using h,by simp⟩|tmp d=>exact⟨by simpa[aM]using h,by simp⟩|dU k=>
      rw[aM]at h;split at h;.cases h
      .rename_i hk;exact⟨h,fun e=>hk (by cases e;rfl)⟩
   cases j with|zero=>simp at hj;exact tl.2 hj|succ j=>exact jB hl' tl.1 j (by simpa using hj)
theorem uB{F₀ H₀ F H F' H':Hp}{ρ₀ ρ args args':List Sl}{σ σ':L2.St}{as:List Arg}{vs:List V}(s0:bC K F₀ ρ₀ σ H₀ F ρ σ H)(A:uI K F ρ σ H ρ₀ H₀ as vs)(hb:aZ ρ as []=some args)(s:bC K F args (vs.map some) H F' args' σ' H'):bC K F₀ ρ₀ σ H₀ F' (bY as args' 0 ρ) σ H'/\∀v r,cz K F' args' σ' H' args (vs.map some) H v r->cz K F' (bY as args' 0 ρ) σ H' ρ₀ σ H₀ v r:=by
 have g:=s0.gs;obtain⟨l1,l2,l3,l4⟩:=o8 hb;have up:∀{j:Nat}{v:V},vs[j]?=some v->(vs.map some)[j]?=some (some v):=fun e=>by rw[List.getElem?_map,e];rfl
 have dn:∀{j:Nat}{v:V},(vs.map some)[j]?=some (some v)->vs[j]?=some v:=fun{j v}e=>by rw[List.getElem?_map]at e;cases q:vs[j]?with|none=>rw[q]at e;cases e|some w=>rw[q]at e;cases e;rfl
 have la:as.length=args'.length:=by rw[s.len,l1]--whose are the lists that the callee holds
 have own:∀b,Own args (vs.map some) b->(∃(j:Nat)(ds:List D),as[j]?=some (Arg.tmp ds)/\vs[j]?=some (V.ref b)/\¬ Own ρ σ b/\(Own ρ₀ σ b\/H₀ b=none))\/Own ρ σ b:=fun b⟨j,⟨sl,ds,e1,e2⟩,e3⟩=>by obtain⟨a,v,h1,h2,h3⟩:=A.get l1 e1;have s1:=l2 j a _ h1 e1;have e3:=dn e3;rw[h2]at e3;cases e3;cases a with|dat d=>cases s1;cases e2|tmp es=>obtain⟨x,_,q1,_,_,_,q2,q3⟩:=h3;cases q1;exact .inl ⟨j,es,h1,h2,q2,q3⟩|dU i=>
    right;rcases s1 with⟨_,_,_,z⟩|⟨b',es,q,_⟩|⟨es,q,_⟩;.subst z;cases e2
    .exact⟨i,⟨_,_,q,rfl⟩,h3⟩
    .exact⟨i,⟨_,_,q,rfl⟩,h3⟩
 have back:∀b,Own ρ σ b\/H b=none->Own ρ₀ σ b\/H₀ b=none:=fun b h=>by
  rcases h with h|h;.exact s0.yZ b h
  . by_cases ho:Own ρ₀ σ b;.exact .inl ho
    .right;cases e:H₀ b with|none=>rfl|some o=>rw[s0.keep b o e ho]at h;cases h
 have own':∀b,Own args (vs.map some) b->Own ρ₀ σ b\/H₀ b=none:=fun b h=>by
  rcases own b h with⟨_,_,_,_,_,z⟩|z;.exact z
  .exact back b (.inl z)--a name's slot behind the call
 have slot:∀{i:Nat}{t:Sl},(bY as args' 0 ρ)[i]?=some t->∃s1,ρ[i]?=some s1/\t=dq s1 (aM i as args'):=fun{i t}h=>by rw[lQ]at h;obtain⟨s1,e1,e2⟩:=map_some h;exact⟨s1,e1,by rw[<-e2,Nat.zero_add]⟩
 have V8:∀{i:Nat}{s1:Sl},ρ[i]?=some s1->(bY as args' 0 ρ)[i]?=some (dq s1 (aM i as args')):=fun{i s1}h=>by rw[lQ,h,Nat.zero_add];rfl--what the callee left of a list that was lent to it
 have lent:∀{i j:Nat}{s1 t:Sl}{ds:List D},ρ[i]?=some s1->lst? s1=some (.l ds)->as[j]?=some (.dU i)->args'[j]?=some t->∃v s2,σ[i]?=some (some v)/\σ'[j]?=some (some v)/\args[j]?=some s2/\lg s2 t/\((∃b,s1=.own b ds/\s2=.own true ds)\/(s1=.lent ds/\s2=.lent ds)):=fun{i j s1 t ds}h1 h2 h3 h4=>by
  have hj:j<args.length:=by rw[l1];exact(List.getElem?_eq_some_iff.mp h3).1
  have e1:args[j]?=some args[j]:=by simp[hj]
  obtain⟨a,v,q1,q2,q3⟩:=A.get l1 e1;rw[h3]at q1;cases q1;have q4:=l2 j _ _ h3 e1;have kind:(∃b,s1=.own b ds/\args[j]=.own true ds)\/(s1=.lent ds/\args[j]=.lent ds):=by
   rcases q4 with⟨_,_,z,_⟩|⟨b,es,z,z'⟩|⟨es,z,z'⟩;.rw[h1]at z;cases z;cases h2
   .rw[h1]at z;cases z;cases h2;exact .inl ⟨b,rfl,z'⟩
   .rw[h1]at z;cases z;cases h2;exact .inr ⟨rfl,z'⟩
  have lk:Ak args[j]=true:=by rcases kind with⟨_,_,z⟩|⟨_,z⟩<;>rw[z]<;>rfl
  obtain⟨z1,s',z2,z3⟩:=s.lk j _ e1 lk;rw[h4]at z2;cases z2;exact⟨v,_,q3,by rw[z1];exact up q2,e1,z3,kind⟩
 have Jz:∀{i:Nat}{x:Addr},bF (bY as args' 0 ρ) σ i x->bF ρ σ i x:=fun{i x}⟨⟨t,ds,e1,e2⟩,e3⟩=>by obtain⟨s1,q1,q2⟩:=slot e1;refine⟨?_,e3⟩;cases s1 with|bK=>subst q2;cases e2|val b d=>subst q2;cases e2|own b es=>exact⟨_,_,q1,rfl⟩|lent es=>exact⟨_,_,q1,rfl⟩|lC m=>exact⟨_,_,q1,rfl⟩|jz m=>exact⟨_,_,q1,rfl⟩|hold _=>subst q2;cases e2
 refine⟨?_,fun v r h=>?_⟩;rotate_left;.cases r with|val d=>exact h|own ds=>
     obtain⟨x,xs,h1,h2,h3,h4,h5,h6⟩:=h;refine⟨x,xs,h1,h2,h3,h4,fun⟨i,h⟩=>?_,?_⟩
     . have hO:=Jz h;obtain⟨⟨s1,Ql,q1,q2⟩,q3⟩:=hO;obtain⟨x',xs',w1,w2,_⟩:=g.own i s1 Ql q1 q2;rw[q3]at w1;cases w1;rcases h6 with h6|h6
       . rcases own x h6 with⟨_,_,_,_,z,_⟩|_;.exact z ⟨i,⟨s1,Ql,q1,q2⟩,q3⟩
         .--a name was lent
           obtain⟨j,⟨sl,es,w3,w4⟩,w5⟩:=h6;obtain⟨a',v',y1,y2,y3⟩:=A.get l1 w3;have sa:=l2 j a' _ y1 w3;have w5:=dn w5;rw[y2]at w5;cases w5;cases a' with|dat d=>cases sa;cases w4|tmp es'=>obtain⟨_,_,u1,_,_,_,u2,_⟩:=y3;cases u1;exact u2 ⟨i,⟨s1,Ql,q1,q2⟩,q3⟩|dU i'=>
             have ex:∃s' ds',ρ[i']?=some s'/\lst? s'=some ds':=by
              rcases sa with⟨_,_,_,z⟩|⟨b,es,q,_⟩|⟨es,q,_⟩;.subst z;cases w4
              .exact⟨_,_,q,rfl⟩
              .exact⟨_,_,q,rfl⟩
             have:=g.dis i i' x ⟨⟨s1,Ql,q1,q2⟩,q3⟩ ⟨ex,y3⟩;subst this;have hk:∃Jy,Ql=.l Jy:=by
              rcases sa with⟨_,_,_,z⟩|⟨b,es,q,_⟩|⟨es,q,_⟩;.subst z;cases w4
              .rw[q1]at q;cases q;cases q2;exact⟨_,rfl⟩
              .rw[q1]at q;cases q;cases q2;exact⟨_,rfl⟩
             obtain⟨Jy,rfl⟩:=hk;have hj:j<args'.length:=by rw[<-la];exact(List.getElem?_eq_some_iff.mp y1).1
             have e':args'[j]?=some args'[j]:=by simp[hj]
             obtain⟨v2,s2,u1,u2,u3,u4,u5⟩:=lent q1 q2 y1 e';rw[q3]at u1;cases u1--the slot behind the call is a list's
             obtain⟨⟨t,dt,t1,t2⟩,_⟩:=h;obtain⟨s3,t3,t4⟩:=slot t1;rw[q1]at t3;cases t3;have lo:∃t5,aM i as args'=some t5:=by cases hl:aM i as args' with|none=>exact absurd y1 (jB la hl j)|some t5=>exact⟨t5,rfl⟩
             obtain⟨t5,hl⟩:=lo;obtain⟨j2,t6,t7⟩:=gG hl;have hj2:j2<args.length:=by rw[l1];exact(List.getElem?_eq_some_iff.mp t6).1
             obtain⟨_,s6,_,v2',v3',v4',v5'⟩:=lent q1 q2 t6 t7;have l4':j2=j:=by
              have a1:lst? s6=some (.l Jy):=by rcases v5' with⟨_,_,z⟩|⟨_,z⟩<;>rw[z]<;>rfl
              have a2:lst? s2=some (.l Jy):=by rcases u5 with⟨_,_,z⟩|⟨_,z⟩<;>rw[z]<;>rfl
              exact l4 j2 j i s6 s2 _ _ t6 y1 v3' u3 a1 a2
             subst l4';rw[e']at t7;cases t7;rw[hl]at t4;refine h5 ⟨j2,?_,u2⟩;rcases u5 with⟨b,z1,z2⟩|⟨z1,z2⟩
             . subst z1;subst z2;rcases u4 with⟨d2,z⟩|⟨d2,z⟩;.exact⟨_,.l d2,e',by rw[z];rfl⟩
               .rw[z]at t4;subst t4;cases t2
             .subst z1;subst z2;exact⟨_,.l Jy,e',by rw[show args'[j2]=.lent Jy from u4];rfl⟩
       .rw[w2]at h6;cases h6
     . rcases h6 with h6|h6;.exact own' x h6
       .exact back x (.inr h6)
 refine⟨⟨s.gs.sub,by rw[lN];exact g.len,fun i b d e=>?_,fun i t ds e e'=>?_,fun i j x h1 h2=>g.dis i j x (Jz h1) (Jz h2)⟩,s0.cB.trans s.cB,fun b n n'=>?_,fun b o h n=>?_,fun b⟨i,h⟩=>back b (.inl ⟨i,Jz h⟩),by rw[lN];exact s0.len,fun i s1 h l=>?_⟩;.--data
   obtain⟨s1,q1,q2⟩:=slot e;cases s1 with|bK=>cases q2|lent es=>cases q2|lC _=>cases q2|jz _=>cases q2|hold _=>cases q2|val b' d'=>cases q2;obtain⟨v,z1,z2⟩:=g.val i b d q1;exact⟨v,z1,z2.mono s.cB⟩|own b' es=>cases hl:aM i as args' with|none=>rw[hl]at q2;cases q2|some t=>rw[hl]at q2;obtain⟨j,z1,z2⟩:=gG hl;obtain⟨v,s2,y1,y2,y3,y4,y5⟩:=lent q1 rfl z1 z2;cases t with|bK=>cases q2|own _ _=>cases q2|lent _=>cases q2|lC _=>cases q2|jz _=>cases q2|hold _=>cases q2|val b2 d2=>cases q2;obtain⟨w,x1,x2⟩:=s.gs.val j b2 d z2;rw[y2]at x1;cases x1;exact⟨v,y1,x2⟩
 .--lists
   obtain⟨s1,q1,q2⟩:=slot e--a list that was not lent
   have stay:∀es,lst? s1=some es->(∀j:Nat,as[j]?≠some (.dU i))->t=s1->∃(a:Addr)(xs:HO),σ[i]?=some (some (V.ref a))/\H' a=some xs/\F' a=none/\qz K F' xs ds:=fun es he hn ht=>by
    subst ht;rw[he]at e';cases e';obtain⟨a,xs,z1,z2,z3,z4⟩:=g.own i _ ds q1 he;have no:¬ Own args (vs.map some) a:=fun h=>by obtain⟨j,⟨sl,es,w1,w2⟩,w3⟩:=h;obtain⟨a',v,h1,h2,h3⟩:=A.get l1 w1;have sa:=l2 j a' _ h1 w1;have w3:=dn w3;rw[h2]at w3;cases w3;cases a' with|dat d=>cases sa;cases w2|tmp es=>obtain⟨x,_,y1,_,_,_,y2,_⟩:=h3;cases y1;exact y2 ⟨i,⟨_,ds,q1,he⟩,z1⟩|dU i'=>
       have:∃s' ds',ρ[i']?=some s'/\lst? s'=some ds':=by
        rcases sa with⟨_,_,_,z⟩|⟨b,es,q,_⟩|⟨es,q,_⟩;.subst z;cases w2
        .exact⟨_,_,q,rfl⟩
        .exact⟨_,_,q,rfl⟩
       have:=g.dis i i' a ⟨⟨_,ds,q1,he⟩,z1⟩ ⟨this,h3⟩;subst this;exact hn j h1
    refine⟨a,xs,z1,s.keep a _ z2 no,?_,z4.mono s.cB⟩;cases q:F' a with|none=>rfl|some o=>
      rcases s.yX a z3 (by rw[q];simp)with z|z;.exact absurd z no
      .rw[z2]at z;exact(Ck z4 z).elim
   cases hl:aM i as args' with
   |none=>have hn:=jB la hl;rw[hl]at q2;cases s1 with|bK=>subst q2;cases e'|val b' d'=>subst q2;cases e'|own b' es=>exact stay _ rfl hn q2|lent es=>exact stay _ rfl hn q2|lC m=>exact stay _ rfl hn q2|jz m=>exact stay _ rfl hn q2|hold _=>subst q2;cases e'
   |some t2=>rw[hl]at q2;obtain⟨j,z1,z2⟩:=gG hl;cases s1 with
     |bK=>subst q2;cases e'|val b' d'=>subst q2;cases e'|hold _=>subst q2;cases e'|lC m=>
       have hj:j<args.length:=by rw[l1];exact(List.getElem?_eq_some_iff.mp z1).1
       rcases l2 j _ _ z1 (show args[j]?=some args[j]by simp[hj])with⟨_,_,z,_⟩|⟨_,_,z,_⟩|⟨_,z,_⟩<;>(rw[q1]at z;cases z)|jz m=>
       have hj:j<args.length:=by rw[l1];exact(List.getElem?_eq_some_iff.mp z1).1
       rcases l2 j _ _ z1 (show args[j]?=some args[j]by simp[hj])with⟨_,_,z,_⟩|⟨_,_,z,_⟩|⟨_,z,_⟩<;>(rw[q1]at z;cases z)|own b' es=>
       obtain⟨v,s2,y1,y2,y3,y4,y5⟩:=lent q1 rfl z1 z2;have:t2≠.bK/\∀x,t2≠.lent x:=by
        rcases y5 with⟨_,_,y5⟩|⟨y5,_⟩;.subst y5;rcases y4 with⟨_,rfl⟩|⟨_,rfl⟩<;>simp
        .cases y5
       cases t2 with
       |bK=>exact absurd rfl this.1|hold x=>
         rcases y5 with⟨_,_,y5⟩|⟨y5,_⟩;.subst y5;rcases y4 with⟨_,h⟩|⟨_,h⟩<;>cases h
         .cases y5|lC x=>
         rcases y5 with⟨_,_,y5⟩|⟨y5,_⟩;.subst y5;rcases y4 with⟨_,h⟩|⟨_,h⟩<;>cases h
         .cases y5|jz x=>
         rcases y5 with⟨_,_,y5⟩|⟨y5,_⟩;.subst y5;rcases y4 with⟨_,h⟩|⟨_,h⟩<;>cases h
         .cases y5|lent x=>exact absurd rfl (this.2 x)|val b2 d2=>subst q2;cases e'|own b2 es2=>subst q2;cases e';obtain⟨a,xs,x1,x2⟩:=s.gs.own j _ _ z2 rfl;rw[y2]at x1;cases x1;exact⟨a,xs,y1,x2⟩
     |lent es=>
       obtain⟨v,s2,y1,y2,y3,y4,y5⟩:=lent q1 rfl z1 z2;have ht:t=.lent es:=by rw[q2];cases t2<;>rfl
       subst ht;cases e';rcases y5 with⟨_,y5,_⟩|⟨_,y5⟩;.cases y5
       .subst y5;cases(show t2=.lent es from y4);obtain⟨a,xs,x1,x2⟩:=s.gs.own j _ _ z2 rfl;rw[y2]at x1;cases x1;exact⟨a,xs,y1,x2⟩
 . by_cases q:F b=none
   . rcases s.yX b q n' with z|z;.exact(own' b z).imp id nQ
     . by_cases ho:Own ρ₀ σ b;.exact .inl ho
       .right;cases q2:H₀ b with|none=>rfl|some o=>rw[s0.keep b o q2 ho]at z;exact z
   .exact s0.yX b n q
 . refine s.keep b o (s0.keep b o h n) fun z=>?_;rcases own' b z with z|z;.exact n z
   .rw[h]at z;cases z
 .obtain⟨e1,s2,h2,k2⟩:=s0.lk i s1 h l;refine⟨e1,_,V8 h2,?_⟩;have XF:=k2.Ak l;refine lg.trans l k2 ?_;cases s2 with
   |bK=>cases XF|lC _=>cases XF|jz _=>cases XF|hold _=>exact lg.refl _|val b d=>exact lg.refl _|lent es=>cases aM i as args' with|none=>rfl|some t=>cases t<;>rfl
   |own b es=>cases b with|false=>cases XF|true=>cases aM i as args' with|none=>exact .inl ⟨_,rfl⟩|some t=>cases t with|bK=>exact .inl ⟨_,rfl⟩|lent _=>exact .inl ⟨_,rfl⟩|lC _=>exact .inl ⟨_,rfl⟩|jz _=>exact .inl ⟨_,rfl⟩|hold _=>exact .inl ⟨_,rfl⟩|own _ ds=>exact .inl ⟨_,rfl⟩|val _ d=>exact .inr ⟨_,rfl⟩
theorem uI.rebase{F1 H1 F2 H2 F H:Hp}{ρ ρ1 ρ2:List Sl}{σ:L2.St}{as:List Arg}{vs:List V}(a:bC K F ρ σ H F1 ρ1 σ H1)(A:uI K F2 ρ2 σ H2 ρ1 H1 as vs):uI K F2 ρ2 σ H2 ρ H as vs:=by refine⟨A.len,fun j b v h1 h2=>?_,A.dis⟩;have h:=A.one j b v h1 h2;cases b with|dat d=>exact h|dU i=>exact h|tmp ds=>
   obtain⟨x,xs,q1,q2,q3,q4,q5,q6⟩:=h;refine⟨x,xs,q1,q2,q3,q4,q5,?_⟩;rcases q6 with q6|q6;.exact a.yZ x q6
   . by_cases ho:Own ρ σ x;.exact .inl ho
     .right;cases e:H x with|none=>rfl|some o=>rw[a.keep x o e ho]at q6;cases q6
theorem uI.S9{F1 H1 F2 H2 F H:Hp}{ρ ρ1 ρ2:List Sl}{σ:L2.St}{as:List Arg}{vs:List V}{v:V}{r:R}(s1:bC K F ρ σ H F1 ρ1 σ H1)(rr:cz K F1 ρ1 σ H1 ρ σ H v r)(s2:bC K F1 ρ1 σ H1 F2 ρ2 σ H2)(A:uI K F2 ρ2 σ H2 ρ1 H1 as vs):uI K F2 ρ2 σ H2 ρ H (uM r::as) (v::vs):=by
 have h1:vX K F1 ρ1 σ H1 ρ H v (uM r):=by cases r with|val d=>exact rr|own ds=>exact rr
 refine .cons (h1.later s2) (A.rebase s1) fun ds x ea ev k es ek evk=>?_;cases r with|val d=>cases ea|own ds'=>
   obtain⟨y,xs,q1,q2,q3,q4,q5,q6⟩:=rr;rw[ev]at q1;cases q1;have h:=A.one k _ _ ek evk;obtain⟨z,zs,w1,_,_,_,_,w6⟩:=h;cases w1;rcases w6 with w6|w6;.exact q5 w6
   .rw[q2]at w6;cases w6
end
end HH
end
section
namespace HH
open PySem L2 PySem.Spec PyProof.Rows
section
variable{K:PySem.W.Frag}{F F1 H H1:Hp}{ρ ρ1 ρ2:List Sl}{σ σ1:L2.St}
theorem Mx{i:Nat}{s:Sl}(h:put ρ i s=some ρ1):∃s0,ρ[i]?=some s0/\Ak s0=false/\ρ1=ρ.set i s:=by
 unfold put at h;split at h;.rename_i q;cases h;exact⟨_,q,rfl,rfl⟩
 .rename_i q;cases h;exact⟨_,q,rfl,rfl⟩
 .rename_i q;cases h;exact⟨_,q,rfl,rfl⟩
 .cases h
theorem bC.put{i:Nat}{v:V}{r:R}(s:bC K F ρ σ H F1 ρ1 σ1 H1)(rr:cz K F1 ρ1 σ1 H1 ρ σ H v r)(h:HH.put ρ1 i (zR r)=some ρ2):bC K F ρ σ H F1 ρ2 (σ1.set i (some v)) H1:=by
 obtain⟨s0,h0,hl,rfl⟩:=Mx h;have hi:i<ρ1.length:=(List.getElem?_eq_some_iff.mp h0).1;have hi':i<σ1.length:=by rw[<-s.gs.len];exact hi
 have old:∀{j:Nat}{a:Addr},j≠i->bF (ρ1.set i (zR r)) (σ1.set i (some v)) j a->bF ρ1 σ1 j a:=fun{j a}hj⟨⟨t,ds,e1,e2⟩,e3⟩=>by rw[List.getElem?_set_ne (Ne.symm hj)]at e1 e3;exact⟨⟨t,ds,e1,e2⟩,e3⟩
 have new:∀{a:Addr},bF (ρ1.set i (zR r)) (σ1.set i (some v)) i a->¬ Own ρ1 σ1 a/\(Own ρ σ a\/H a=none):=fun{a}⟨⟨t,ds,e1,e2⟩,e3⟩=>by rw[List.getElem?_set_self hi]at e1;rw[List.getElem?_set_self hi']at e3;cases e1;cases e3;cases r with|val d=>cases e2|own es=>obtain⟨x,xs,q1,q2,q3,q4,q5,q6⟩:=rr;cases q1;exact⟨q5,q6⟩
 refine⟨⟨s.gs.sub,by simp[s.gs.len],fun j b d e=>?_,fun j t ds e e'=>?_,fun j k a h1 h2=>?_⟩,s.cB,s.yX,s.keep,fun a⟨j,hj⟩=>?_,by simp[s.len],fun j t e l=>?_⟩
 . by_cases hj:j=i;.subst hj;rw[List.getElem?_set_self hi]at e;cases r with|own es=>cases e|val d'=>cases e;exact⟨v,List.getElem?_set_self hi',rr⟩
   .rw[List.getElem?_set_ne (Ne.symm hj)]at e ⊢;exact s.gs.val j b d e
 . by_cases hj:j=i;.subst hj;rw[List.getElem?_set_self hi]at e;cases r with|val d'=>cases e;cases e'|own es=>cases e;cases e';obtain⟨x,xs,rfl,q2,q3,q4,_⟩:=rr;exact⟨x,_,List.getElem?_set_self hi',q2,q3,xs,rfl,q4⟩
   .rw[List.getElem?_set_ne (Ne.symm hj)]at e ⊢;exact s.gs.own j t ds e e'
 . by_cases hj:j=i
   . by_cases hk:k=i;.rw[hj,hk]
     .subst hj;exact absurd ⟨k,old hk h2⟩ (new h1).1
   . by_cases hk:k=i;.subst hk;exact absurd ⟨j,old hj h1⟩ (new h2).1
     .exact s.gs.dis j k a (old hj h1) (old hk h2)
 . by_cases hji:j=i;.subst hji;exact(new hj).2
   .exact s.yZ a ⟨j,old hji hj⟩
 . obtain⟨e1,t1,e2,e3⟩:=s.lk j t e l;have hj:j≠i:=by rintro rfl;rw[h0]at e2;cases e2;rw[e3.Ak l]at hl;cases hl
   exact⟨by rw[List.getElem?_set_ne (Ne.symm hj)];exact e1,t1,by rw[List.getElem?_set_ne (Ne.symm hj)];exact e2,e3⟩
theorem GS.mut{x:Nat}{b:Bool}{ds es:List D}{a:Addr}{ys:List V}(g:GS K F ρ σ H)(e:ρ[x]?=some (.own b ds))(hx:σ[x]?=some (some (.ref a)))(r:aB K F ys es):bC K F ρ σ H F (ρ.set x (.own b es)) σ (upd H a (.lst ys)):=by
 have hi:x<ρ.length:=(List.getElem?_eq_some_iff.mp e).1;have oa:bF ρ σ x a:=⟨⟨_,_,e,rfl⟩,hx⟩;obtain⟨a',xs,h1,h2,h3,h4⟩:=g.qe x _ ds e rfl;rw[hx]at h1;cases h1;have old:∀{j:Nat}{c:Addr},bF (ρ.set x (.own b es)) σ j c->bF ρ σ j c:=fun{j c}⟨⟨t,dt,q1,q2⟩,q3⟩=>by
  by_cases hj:j=x;.subst hj;exact⟨⟨_,_,e,rfl⟩,q3⟩
  .rw[List.getElem?_set_ne (Ne.symm hj)]at q1;exact⟨⟨t,dt,q1,q2⟩,q3⟩
 refine⟨⟨fun c o q=>?_,by simp[g.len],fun j b' d q=>?_,fun j t dt q q'=>?_,fun j k c q1 q2=>g.dis j k c (old q1) (old q2)⟩,.refl _,fun c n n'=>absurd n n',fun c o q n=>?_,fun c⟨j,q⟩=>.inl ⟨j,old q⟩,by simp,fun j t q l=>⟨rfl,?_⟩⟩
 . have:c≠a:=by rintro rfl;rw[h3]at q;cases q
   rw[aH this];exact g.sub c o q
 . by_cases hj:j=x;.subst hj;rw[List.getElem?_set_self hi]at q;cases q
   .rw[List.getElem?_set_ne (Ne.symm hj)]at q;exact g.val j b' d q
 . by_cases hj:j=x;.subst hj;rw[List.getElem?_set_self hi]at q;cases q;cases q';exact⟨a,_,hx,aR,h3,ys,rfl,r⟩
   . rw[List.getElem?_set_ne (Ne.symm hj)]at q;obtain⟨c,zs,w1,w2,w3,w4⟩:=g.own j t dt q q';have:c≠a:=by rintro rfl;exact hj (g.dis j x c ⟨⟨t,dt,q,q'⟩,w1⟩ oa)
     exact⟨c,zs,w1,by rw[aH this];exact w2,w3,w4⟩
 . have:c≠a:=by rintro rfl;exact n ⟨x,oa⟩
   rw[aH this];exact q
 . by_cases hj:j=x;.subst hj;rw[e]at q;cases q;refine⟨_,List.getElem?_set_self hi,?_⟩;cases b with|true=>exact .inl ⟨_,rfl⟩|false=>cases l
   .exact⟨t,by rw[List.getElem?_set_ne (Ne.symm hj)];exact q,.refl t⟩
theorem GS.lend{i:Nat}{b:Bool}{ds:List D}(g:GS K F ρ σ H)(e:ρ[i]?=some (.own b ds)):GS K F (ρ.set i (.lent ds)) σ H:=by
 have hi:i<ρ.length:=(List.getElem?_eq_some_iff.mp e).1;have old:∀{j:Nat}{c:Addr},bF (ρ.set i (.lent ds)) σ j c->bF ρ σ j c:=fun{j c}⟨⟨t,dt,q1,q2⟩,q3⟩=>by
  by_cases hj:j=i;.subst hj;exact⟨⟨_,_,e,rfl⟩,q3⟩
  .rw[List.getElem?_set_ne (Ne.symm hj)]at q1;exact⟨⟨t,dt,q1,q2⟩,q3⟩
 refine⟨g.sub,by simp[g.len],fun j b' d q=>?_,fun j t dt q q'=>?_,fun j k c q1 q2=>g.dis j k c (old q1) (old q2)⟩
 . by_cases hj:j=i;.subst hj;rw[List.getElem?_set_self hi]at q;cases q
   .rw[List.getElem?_set_ne (Ne.symm hj)]at q;exact g.val j b' d q
 . by_cases hj:j=i;.subst hj;rw[List.getElem?_set_self hi]at q;cases q;cases q';exact g.own j _ _ e rfl
   .rw[List.getElem?_set_ne (Ne.symm hj)]at q;exact g.own j t dt q q'
theorem bC.bh{i:Nat}{b:Bool}{ds:List D}(g:GS K F ρ σ H)(e:ρ[i]?=some (.own b ds))(s:bC K F (ρ.set i (.lent ds)) σ H F1 ρ1 σ1 H1):bC K F ρ σ H F1 (ρ1.set i (.own b ds)) σ1 H1/\∀v r,cz K F1 ρ1 σ1 H1 (ρ.set i (.lent ds)) σ H v r->cz K F1 (ρ1.set i (.own b ds)) σ1 H1 ρ σ H v r:=by
 have hi:i<ρ.length:=(List.getElem?_eq_some_iff.mp e).1;have h1:(ρ.set i (.lent ds))[i]?=some (.lent ds):=List.getElem?_set_self hi;obtain⟨z1,s',z2,z3⟩:=s.lk i _ h1 rfl;cases(show s'=.lent ds from z3);have hi1:i<ρ1.length:=(List.getElem?_eq_some_iff.mp z2).1;have o1:∀{j:Nat}{c:Addr},bF (ρ.set i (.lent ds)) σ j c->bF ρ σ j c:=fun{j c}⟨⟨t,dt,q1,q2⟩,q3⟩=>by
  by_cases hj:j=i;.subst hj;exact⟨⟨_,_,e,rfl⟩,q3⟩
  .rw[List.getElem?_set_ne (Ne.symm hj)]at q1;exact⟨⟨t,dt,q1,q2⟩,q3⟩
 have o1':∀{c:Addr},Own ρ σ c->Own (ρ.set i (.lent ds)) σ c:=fun{c}⟨j,⟨t,dt,q1,q2⟩,q3⟩=>by
  by_cases hj:j=i;.subst hj;exact⟨j,⟨_,_,h1,rfl⟩,q3⟩
  .exact⟨j,⟨t,dt,by rw[List.getElem?_set_ne (Ne.symm hj)];exact q1,q2⟩,q3⟩
 have o2:∀{j:Nat}{c:Addr},bF (ρ1.set i (.own b ds)) σ1 j c->bF ρ1 σ1 j c:=fun{j c}⟨⟨t,dt,q1,q2⟩,q3⟩=>by
  by_cases hj:j=i;.subst hj;exact⟨⟨_,_,z2,rfl⟩,q3⟩
  .rw[List.getElem?_set_ne (Ne.symm hj)]at q1;exact⟨⟨t,dt,q1,q2⟩,q3⟩
 have w:∀{c:Addr}{h:Hp},Own (ρ.set i (.lent ds)) σ c\/h c=none->Own ρ σ c\/h c=none:=fun{c h}q=>q.imp (fun⟨j,q⟩=>⟨j,o1 q⟩) id;have w':∀{c:Addr}{h:Hp},Own (ρ.set i (.lent ds)) σ c\/nt (h c)=none->Own ρ σ c\/nt (h c)=none:=fun{c h}q=>q.imp (fun⟨j,q⟩=>⟨j,o1 q⟩) id;refine⟨⟨⟨s.gs.sub,by simp[s.gs.len],fun j b' d q=>?_,fun j t dt q q'=>?_,fun j k c q1 q2=>s.gs.dis j k c (o2 q1) (o2 q2)⟩,s.cB,fun c n n'=>w' (s.yX c n n'),fun c o q n=>s.keep c o q fun⟨j,x⟩=>n ⟨j,o1 x⟩,fun c⟨j,q⟩=>w (s.yZ c ⟨j,o2 q⟩),by simpa using s.len,fun j t q l=>?_⟩,fun v r h=>?_⟩
 . by_cases hj:j=i;.subst hj;rw[List.getElem?_set_self hi1]at q;cases q
   .rw[List.getElem?_set_ne (Ne.symm hj)]at q;exact s.gs.val j b' d q
 . by_cases hj:j=i;.subst hj;rw[List.getElem?_set_self hi1]at q;cases q;cases q';exact s.gs.own j _ _ z2 rfl
   .rw[List.getElem?_set_ne (Ne.symm hj)]at q;exact s.gs.own j t dt q q'
 . by_cases hj:j=i;.subst hj;rw[e]at q;cases q;refine⟨z1,_,List.getElem?_set_self hi1,?_⟩;cases b with|true=>exact .inl ⟨_,rfl⟩|false=>cases l
   .obtain⟨y1,t',y2,y3⟩:=s.lk j t (by rw[List.getElem?_set_ne (Ne.symm hj)];exact q) l;exact⟨y1,t',by rw[List.getElem?_set_ne (Ne.symm hj)];exact y2,y3⟩
 .cases r with|val d=>exact h|own es=>obtain⟨x,xs,q1,q2,q3,q4,q5,q6⟩:=h;exact⟨x,xs,q1,q2,q3,q4,fun⟨j,q⟩=>q5 ⟨j,o2 q⟩,w q6⟩
theorem GS.give{i:Nat}{ds:List D}(g:GS K F ρ σ H)(e:ρ[i]?=some (.own false ds)):∃v,σ[i]?=some (some v)/\bC K F ρ σ H F (ρ.set i .bK) σ H/\cz K F (ρ.set i .bK) σ H ρ σ H v (.own ds):=by
 have hi:i<ρ.length:=(List.getElem?_eq_some_iff.mp e).1;obtain⟨a,xs,h1,h2,h3,h4⟩:=g.qe i _ ds e rfl;have old:∀{j:Nat}{c:Addr},bF (ρ.set i .bK) σ j c->bF ρ σ j c/\j≠i:=fun{j c}⟨⟨t,dt,q1,q2⟩,q3⟩=>by
  by_cases hj:j=i;.subst hj;rw[List.getElem?_set_self hi]at q1;cases q1;cases q2
  .rw[List.getElem?_set_ne (Ne.symm hj)]at q1;exact⟨⟨⟨t,dt,q1,q2⟩,q3⟩,hj⟩
 have oa:bF ρ σ i a:=⟨⟨_,_,e,rfl⟩,h1⟩;refine⟨.ref a,h1,⟨⟨g.sub,by simp[g.len],fun j b' d q=>?_,fun j t dt q q'=>?_,fun j k c q1 q2=>g.dis j k c (old q1).1 (old q2).1⟩,.refl _,fun c n n'=>absurd n n',fun _ _ q _=>q,fun c⟨j,q⟩=>.inl ⟨j,(old q).1⟩,by simp,fun j t q l=>⟨rfl,?_⟩⟩,a,xs,rfl,h2,h3,h4,fun⟨j,q⟩=>?_,.inl ⟨i,oa⟩⟩
 . by_cases hj:j=i;.subst hj;rw[List.getElem?_set_self hi]at q;cases q
   .rw[List.getElem?_set_ne (Ne.symm hj)]at q;exact g.val j b' d q
 . by_cases hj:j=i;.subst hj;rw[List.getElem?_set_self hi]at q;cases q;cases q'
   .rw[List.getElem?_set_ne (Ne.symm hj)]at q;exact g.own j t dt q q'
 . by_cases hj:j=i;.subst hj;rw[e]at q;cases q;cases l
   .exact⟨t,by rw[List.getElem?_set_ne (Ne.symm hj)];exact q,.refl t⟩
 .exact(old q).2 (g.dis j i a (old q).1 oa)
theorem GS.more{n:Nat}{τ:List (Option V)}(g:GS K F ρ σ H)(hn:τ.length=n):GS K F (ρ++List.replicate n .bK) (σ++τ) H:=by
 have get:∀{j:Nat}{t:Sl},(ρ++List.replicate n Sl.bK)[j]?=some t->t≠.bK->ρ[j]?=some t/\j<ρ.length:=fun{j t}q ne=>by
  by_cases hj:j<ρ.length;.rw[List.getElem?_append_left hj]at q;exact⟨q,hj⟩
  . rw[List.getElem?_append_right (by omega),List.getElem?_replicate]at q;split at q;.cases q;exact absurd rfl ne
    .cases q
 have up:∀{j:Nat}{v:Option V},j<ρ.length->(σ[j]?=some v↔(σ++τ)[j]?=some v):=fun{j v}hj=>by rw[List.getElem?_append_left (by rw[<-g.len];exact hj)]
 have old:∀{j:Nat}{c:Addr},bF (ρ++List.replicate n .bK) (σ++τ) j c->bF ρ σ j c:=fun{j c}⟨⟨t,dt,q1,q2⟩,q3⟩=>by obtain⟨h1,h2⟩:=get q1 (by rintro rfl;cases q2);exact⟨⟨t,dt,h1,q2⟩,(up h2).mpr q3⟩
 refine⟨g.sub,by simp[g.len,hn],fun j b d q=>?_,fun j t dt q q'=>?_,fun j k c q1 q2=>g.dis j k c (old q1) (old q2)⟩;.obtain⟨h1,h2⟩:=get q (by simp);obtain⟨v,e1,e2⟩:=g.val j b d h1;exact⟨v,(up h2).mp e1,e2⟩
 .obtain⟨h1,h2⟩:=get q (by rintro rfl;cases q');obtain⟨a,xs,e1,e2⟩:=g.own j t dt h1 q';exact⟨a,xs,(up h2).mp e1,e2⟩
theorem bC.less{n:Nat}{τ:List (Option V)}{m:Nat}(hm:m=ρ.length)(g:GS K F ρ σ H)(hn:τ.length=n)(s:bC K F (ρ++List.replicate n .bK) (σ++τ) H F1 ρ1 σ1 H1):bC K F ρ σ H F1 (ρ1.take m) (σ1.take m) H1/\∀v r,cz K F1 ρ1 σ1 H1 (ρ++List.replicate n .bK) (σ++τ) H v r->cz K F1 (ρ1.take m) (σ1.take m) H1 ρ σ H v r:=by
 subst hm;have l1:ρ.length<=ρ1.length:=by rw[s.len];simp
 have l2:ρ.length<=σ1.length:=by rw[<-s.gs.len];exact l1
 have tk:∀{α:Type}{l:List α}{j:Nat}{x:α},(l.take ρ.length)[j]?=some x->l[j]?=some x/\j<ρ.length:=fun{α l j x}q=>by
  rw[List.getElem?_take]at q;split at q;.exact⟨q,by assumption⟩
  .cases q
 have kt:∀{α:Type}{l:List α}{j:Nat}{x:α},j<ρ.length->l[j]?=some x->(l.take ρ.length)[j]?=some x:=fun{α l j x}hj q=>by rw[List.getElem?_take,if_pos hj];exact q
 have oN:∀{c:Addr},Own (ρ++List.replicate n .bK) (σ++τ) c->Own ρ σ c:=fun{c}⟨j,⟨t,dt,q1,q2⟩,q3⟩=>by
  by_cases hj:j<ρ.length;.rw[List.getElem?_append_left hj]at q1;rw[List.getElem?_append_left (by rw[<-g.len];exact hj)]at q3;exact⟨j,⟨t,dt,q1,q2⟩,q3⟩
  . rw[List.getElem?_append_right (by omega),List.getElem?_replicate]at q1;split at q1;.cases q1;cases q2
    .cases q1
 have oN':∀{c:Addr},Own ρ σ c->Own (ρ++List.replicate n .bK) (σ++τ) c:=fun{c}⟨j,⟨t,dt,q1,q2⟩,q3⟩=>by have hj:j<ρ.length:=(List.getElem?_eq_some_iff.mp q1).1;exact⟨j,⟨t,dt,by rw[List.getElem?_append_left hj];exact q1,q2⟩,by rw[List.getElem?_append_left (by rw[<-g.len];exact hj)];exact q3⟩
 have o1:∀{j:Nat}{c:Addr},bF (ρ1.take ρ.length) (σ1.take ρ.length) j c->bF ρ1 σ1 j c:=fun{j c}⟨⟨t,dt,q1,q2⟩,q3⟩=>⟨⟨t,dt,(tk q1).1,q2⟩,(tk q3).1⟩;have w:∀{c:Addr}{h:Hp},Own (ρ++List.replicate n .bK) (σ++τ) c\/h c=none->Own ρ σ c\/h c=none:=fun{c h}q=>q.imp oN id;have w':∀{c:Addr}{h:Hp},Own (ρ++List.replicate n .bK) (σ++τ) c\/nt (h c)=none->Own ρ σ c\/nt (h c)=none:=fun{c h}q=>q.imp oN id;refine⟨⟨⟨s.gs.sub,by simp only[List.length_take];omega,fun j b d q=>?_,fun j t dt q q'=>?_,fun j k c q1 q2=>s.gs.dis j k c (o1 q1) (o1 q2)⟩,s.cB,fun c a b=>w' (s.yX c a b),fun c o q n=>s.keep c o q fun x=>n (oN x),fun c⟨j,q⟩=>w (s.yZ c ⟨j,o1 q⟩),by simp only[List.length_take];omega,fun j t q l=>?_⟩,fun v r h=>?_⟩;.obtain⟨h1,h2⟩:=tk q;obtain⟨v,e1,e2⟩:=s.gs.val j b d h1;exact⟨v,kt h2 e1,e2⟩
 .obtain⟨h1,h2⟩:=tk q;obtain⟨a,xs,e1,e2⟩:=s.gs.own j t dt h1 q';exact⟨a,xs,kt h2 e1,e2⟩
 .have hj:j<ρ.length:=(List.getElem?_eq_some_iff.mp q).1;obtain⟨y1,t',y2,y3⟩:=s.lk j t (by rw[List.getElem?_append_left hj];exact q) l;rw[List.getElem?_append_left (by rw[<-g.len];exact hj)]at y1;refine⟨?_,t',kt hj y2,y3⟩;rw[List.getElem?_take,if_pos hj];exact y1
 .cases r with|val d=>exact h|own es=>obtain⟨x,xs,q1,q2,q3,q4,q5,q6⟩:=h;exact⟨x,xs,q1,q2,q3,q4,fun⟨j,q⟩=>q5 ⟨j,o1 q⟩,w q6⟩
end
end HH
end
section
namespace HH
open PySem L2 PySem.Spec PyProof.Rows
section
variable{X:Cx}{c:Call}{n:Nat}{e a b d:Expr}{p pa pb pd:P}{pos:Pos}{es:List Expr}{ps:List P}
inductive Yi(K:PySem.W.Frag)(f:List Sl->Res (List Arg))(σ:L2.St)(H:Hp)(Q:List V->Hp->Prop):Prop where|mk(F:Hp)(ρ:List Sl)(as:List Arg)(ρ':List Sl)(g:GS K F ρ σ H)(e:f ρ=.ok as ρ')(k:∀vs F' H',bC K F ρ σ H F' ρ' σ H'->uI K F' ρ' σ H' ρ H as vs->Q vs H')
noncomputable def SG(X:Cx)(c:Call)(es:List Expr)(ps:List P):Prop:=PA X es (Yi X.K (tU c ps))
theorem aK:SG X c [] []:=kj cQ fun σ H Q⟨F,ρ,as,ρ',g,e,k⟩=>by rw[tU]at e;cases e;exact k [] F H (.refl g) .nil
theorem Ii(ha:SX X c a pa)(hr:SG X c es ps)(hs:starEach (a::es) X.env=(false,eval a X.env)::starEach es X.env:=by rfl):SG X c (a::es) (pa::ps):=by cases hv:isVar pa with|none=>refine kj (aW ha.ev hr hs) ?_;rintro σ H Q⟨F,ρ,as,ρ',g,e,k⟩;rw[tU,hv]at e;obtain⟨r,ρ1,e1,e⟩:=ao e;obtain⟨xs,ρ2,e2,e⟩:=ao e;cases e;refine⟨F,ρ,r,ρ1,g,e1,fun v F1 H1 s1 rr=>⟨F1,ρ1,xs,_,s1.gs,e2,fun vs F2 H2 s2 A=>k _ F2 H2 (s1.trans s2) (uI.S9 s1 rr s2 A)⟩⟩|some i=>refine kj (aW (ha.var i hv) hr hs) ?_;rintro σ H Q⟨F,ρ,as,ρ',g,e,k⟩;rw[tU,hv]at e;obtain⟨x0,ρ0,e0,e⟩:=ao e;obtain⟨e00,Jx⟩:=aJ e0;subst Jx;obtain⟨xs,ρ2,e2,e⟩:=ao e;cases e;obtain⟨v,h1,_⟩:=g.pk e00;exact⟨v,h1,F,ρ,xs,_,g,e2,fun vs F2 H2 s2 A=>k _ F2 H2 s2 (.cons h1 A fun ds x z=>by cases z)⟩
theorem Ia{k f:Nat}{fa:Addr}{fd:FuncData}{qs:List Str}{x:Str}{p':Pos}(Fn:cJ X.prog X.w X.K X.mg X.base mV k fa fd qs (nW X.K qs.length (c f)))(hr:gM k X.A)(hg:Gl X x)(hm:X.mg x=some (.ref fa))(hk:PySem.W.keepIn X.K (.ref fa)=true)(hb:Binds X.K fd qs [])(ha:SG X c (e::es) ps)(hl:(e::es).length=qs.length)(hdb:(x==("__debug__":Str))=false:=by decide)(he:starEach (e::es) X.env=(false,eval e X.env)::starEach es X.env:=by rfl)(hpl:(backTo pos (starEach es X.env)).any (·.1)=false:=by rfl)(hl2:ps.length=(e::es).length:=by rfl):SX X c (.Call (.Name x p') (e::es) [] pos) (.call f ps):=by
 refine⟨dm (yu (E:=E0) Fn hr hg hm hk hb .nil Ub ha hdb he hpl) ?_,fun i h=>by cases h⟩;rintro σ H Q⟨F,ρ,r,ρ',g,e,k⟩;rw[HH.ev]at e;obtain⟨as,ρ1,e1,e⟩:=ao e;unfold gU at e;split at e;.cases e
 . rename_i args hb';split at e
   . rename_i r' args' hc;cases e;refine⟨F,ρ,as,ρ1,g,e1,fun vs F1 H1 s1 A=>?_⟩;have hlen:vs.length=qs.length:=by
      have:∀{ps:List P}{ρ ρ':List Sl}{as:List Arg},tU c ps ρ=.ok as ρ'->as.length=ps.length:=by intro ps;induction ps with|nil=>intro ρ ρ' as h;rw[tU]at h;cases h;rfl|cons q qs ih=>
         intro ρ ρ' as h;rw[tU]at h;split at h;.obtain⟨_,_,_,h⟩:=ao h;obtain⟨xs,ρ2,h2,h⟩:=ao h;cases h;simp[ih h2]
         .obtain⟨_,_,_,h⟩:=ao h;obtain⟨xs,ρ2,h2,h⟩:=ao h;cases h;simp[ih h2]
      rw[<-A.len,this e1,hl2,hl]
     show nW X.K qs.length (c f) (vs++[]) H1 Q E0;rw[List.append_nil];refine⟨hlen,F1,args,r,args',args_gs s1.gs A hb',hc,fun v F' σ' H' s rr=>?_⟩;obtain⟨z1,z2⟩:=uB s1 A hb' s;exact k v F' H' z1 (z2 v r rr)
   .cases e
   .cases e
noncomputable def UG(K:PySem.W.Frag)(D:Ends)(F':Hp)(ρ':List Sl)(σ':L2.St)(H':Hp)(ρ:List Sl)(σ:L2.St)(H:Hp)(fl:Fl):Prop:=match fl with|.next=>D.nx σ' H'|.brk=>D.bk σ' H'|.cont=>D.ct σ' H'|.ret r=>∀v,cz K F' ρ' σ' H' ρ σ H v r->D.rt v H'
inductive Su(K:PySem.W.Frag)(f:List Sl->Res Fl)(D:Ends)(σ:L2.St)(H:Hp):Prop where|mk(F:Hp)(ρ:List Sl)(fl:Fl)(ρ':List Sl)(g:GS K F ρ σ H)(e:f ρ=.ok fl ρ')(k:∀F' σ' H',bC K F ρ σ H F' ρ' σ' H'->UG K D F' ρ' σ' H' ρ σ H fl)
noncomputable def SS(X:Cx)(c:Call)(n:Nat)(st:Stmt)(s:S):Prop:=PS X st (Su X.K (ex c n s))
noncomputable def SB(X:Cx)(c:Call)(n:Nat)(st:List Stmt)(s:List S):Prop:=mU X st (Su X.K (dw c n s))
theorem dZ{st:Stmt}{t t':TS}(h:PS X st t)(i:∀D σ H,t' D σ H->t D σ H):PS X st t':=fun pins s σ H D I q=>h pins s σ H D I (i D σ H q)
theorem jL{st:List Stmt}{t t':TS}(h:mU X st t)(i:∀D σ H,t' D σ H->t D σ H):mU X st t':=fun pins s σ H D I q=>h pins s σ H D I (i D σ H q)
theorem xs0{c:Call}{n:Nat}{ρ:List Sl}:dw c n [] ρ=.ok .next ρ:=rfl
theorem xs1{c:Call}{n:Nat}{s:S}{r:List S}{ρ:List Sl}:dw c n (s::r) ρ=(ex c n s ρ).bind fun fl ρ=>match fl with|.next=>dw c n r ρ|fl=>.ok fl ρ:=rfl
theorem az:SB X c n [] []:=jL sG fun D σ H⟨F,ρ,fl,ρ',g,e,k⟩=>by rw[xs0]at e;cases e;exact k F σ H (.refl g)
theorem ak{st:Stmt}{s:S}{sts:List Stmt}{ss:List S}(h1:SS X c n st s)(h2:SB X c n sts ss):SB X c n (st::sts) (s::ss):=by refine jL (uz h1 h2) ?_;rintro D σ H⟨F,ρ,fl,ρ',g,e,k⟩;rw[xs1]at e;obtain⟨f1,ρ1,e1,e⟩:=ao e;cases f1 with
 |next=>refine⟨F,ρ,.next,ρ1,g,e1,fun F1 σ1 H1 s1=>⟨F1,ρ1,fl,ρ',s1.gs,e,fun F2 σ2 H2 s2=>?_⟩⟩;have q:=k F2 σ2 H2 (s1.trans s2);cases fl with|next=>exact q|brk=>exact q|cont=>exact q|ret r=>exact fun v rr=>q v (rr.later s1)
 |brk=>cases e;exact⟨F,ρ,.brk,_,g,e1,k⟩|cont=>cases e;exact⟨F,ρ,.cont,_,g,e1,k⟩|ret r=>cases e;exact⟨F,ρ,.ret r,_,g,e1,k⟩
theorem Te{t1 t2:TE}(h1:PE X e t1)(h2:PE X e t2):PE X e (fun σ H Q=>t1 σ H Q\/t2 σ H Q):=fun pins s σ H Q I h=>h.elim (h1 pins s σ H Q I) (h2 pins s σ H Q I)
theorem bL(he:SX X c e p):SS X c n (.Return (some e) pos) (.ret p):=by
 have plain:∀(D:Ends)(σ:L2.St)(H:Hp),(∃F ρ fl ρ',GS X.K F ρ σ H/\((HH.ev c p ρ).bind fun r ρ=>.ok (Fl.ret r) ρ)=.ok fl ρ'/\∀F' σ' H',bC X.K F ρ σ H F' ρ' σ' H'->(match fl with|.next=>D.nx σ' H'|.brk=>D.bk σ' H'|.cont=>D.ct σ' H'|.ret r=>∀v,cz X.K F' ρ' σ' H' ρ σ H v r->D.rt v H'))->Cz X.K (HH.ev c p) σ H D.rt:=fun D σ H⟨F,ρ,fl,ρ',g,e,k⟩=>by obtain⟨r,ρ1,e1,e⟩:=ao e;cases e;exact⟨F,ρ,r,_,g,e1,fun v F1 H1 s1 rr=>k F1 σ H1 s1 v rr⟩
 cases hv:isVar p with|none=>refine dZ (Ci he.ev) fun D σ H⟨F,ρ,fl,ρ',g,e,k⟩=>plain D σ H ⟨F,ρ,fl,ρ',g,?_,k⟩;rw[ex,hv]at e;exact e|some i=>--by the name itself:its own list is handed back,else its data
   have hp:p=.var i:=by cases p<;>cases hv;rfl
   subst hp;refine dZ (Ci (Te (he.var i hv) he.ev)) ?_;rintro D σ H⟨F,ρ,fl,ρ',g,e,k⟩;rw[ex,hv]at e;dsimp only at e;split at e;.rename_i ds q;cases e;obtain⟨v,h1,h2,h3⟩:=g.give q;exact .inl ⟨v,h1,k F σ H h2 v h3⟩
   .exact .inr (plain D σ H ⟨F,ρ,fl,ρ',g,e,k⟩)
theorem dj{sa sb:List Stmt}{ta tb:List S}(hc:ST X c e p)(ha:SB X c n sa ta)(hb:SB X c n sb tb):SS X c n (.If e sa sb pos) (.ifs p ta tb):=by refine dZ (CW hc ha hb) ?_;rintro D σ H⟨F,ρ,fl,ρ',g,e,k⟩;rw[ex]at e;obtain⟨x,ρ1,e1,e⟩:=ao e;refine⟨F,ρ,x,ρ1,g,e1,fun F1 H1 s1=>?_⟩;have go:∀{f:List Sl->Res Fl},f ρ1=.ok fl ρ'->Su X.K f D σ H1:=fun{f}h=>⟨F1,ρ1,fl,ρ',s1.gs,h,fun F2 σ2 H2 s2=>by have q:=k F2 σ2 H2 (s1.trans s2);cases fl with|next=>exact q|brk=>exact q|cont=>exact q|ret r=>exact fun v rr=>q v (rr.later s1)⟩;cases x with|true=>rw[if_pos rfl]at e;exact go e|false=>rw[if_neg Bool.false_ne_true]at e;exact go e
theorem aD{i:Nat}{x:Str}{pos':Pos}(hN:X.N.Nodup)(hi:X.N[i]?=some x)(hx:Loc X.env.scope x)(he:SX X c e p)(hs:swapsWith e (some (.Name x pos')) pos.line X.env=pure false:=by rfl)(hf:X.fn x=true\/X.env.scope.names.lookup x=some .local:=by first|exact .inl rfl|exact .inr rfl|assumption):SS X c n (.Assign [.Name x pos'] e pos) (.asg i p):=by refine dZ (Bm hN hi hx he.ev hs hf) ?_;rintro D σ H⟨F,ρ,fl,ρ',g,e,k⟩;rw[ex]at e;obtain⟨r,ρ1,e1,e⟩:=ao e;obtain⟨ρ2,ρ3,e2,e⟩:=ao e;cases e;have zz:=aJ e2;clear e2;obtain⟨e2,e3⟩:=zz;exact⟨F,ρ,r,ρ1,g,e1,fun v F1 H1 s1 rr=>k F1 _ H1 (s1.put rr e2)⟩
end
end HH
end
section
namespace L2
open PySem PySem.Spec PyProof.Rows
noncomputable def uh(X:Cx)(scope:Scope)(N':List Str)(cl:List (Str×Addr))(C:Addr)(s₀:Shared)(H₀:Hp)(ex:List Addr):Cx:={X with N:=N',s₀:=s₀,H₀:=H₀,env:=compEnvC scope cl C X.env,outer:=X.stack,stack:=X.stack,ex:=ex,fn:=fun x=>scope.names.lookup x==some .cell,pn:=[],xe:=fun _ _=>False}
theorem wV{env:Env}(l:List (Str×NameKind)):∀(cs:List (Str×Addr)),(∀n,(n,NameKind.free)∈l->∃c,env.cells.lookup n=some c)->(∀n c,cs.lookup n=some c->env.cells.lookup n=some c)->∃ cl,(forIn l cs (fun(x:Str × NameKind)(r:List (Str × Addr))=>(if(x.2==NameKind.free)=true then(do let a<-cellOf env x.1;pure (ForInStep.yield ((x.1,a)::r)))else pure (ForInStep.yield r):Sem (ForInStep (List (Str × Addr))))):Sem (List (Str × Addr)))=pure cl/\(∀n c,cl.lookup n=some c->env.cells.lookup n=some c)/\(∀n,((n,NameKind.free)∈l\/(cs.lookup n).isSome)->(cl.lookup n).isSome):=by induction l with|nil=>intro cs _ h;exact⟨cs,rfl,h,fun n hn=>by rcases hn with hn|hn;cases hn;exact hn⟩|cons y l ih=>
   obtain⟨n,k⟩:=y;intro cs hl hc;rw[List.forIn_cons];by_cases hk:k=.free
   . subst hk;obtain⟨a,ha⟩:=hl n List.mem_cons_self;obtain⟨cl,e,h1,h2⟩:=ih ((n,a)::cs) (fun m hm=>hl m (List.mem_cons_of_mem _ hm)) fun m c hm=>by
      rw[List.lookup_cons]at hm;split at hm;.rename_i q;have q:=eq_of_beq q;subst q;cases hm;exact ha
      .exact hc m c hm
     refine⟨cl,?_,h1,fun m hm=>h2 m ?_⟩
     . rw[<-e];have:cellOf env n=pure a:=by unfold cellOf;rw[ha]
       simp only[beq_self_eq_true,if_true,this];rfl
     . rcases hm with hm|hm
       . rcases List.mem_cons.mp hm with hm|hm;.cases hm;right;simp[List.lookup_cons]
         .exact .inl hm
       . right;rw[List.lookup_cons];split;.rfl
         .exact hm
   . obtain⟨cl,e,h1,h2⟩:=ih cs (fun m hm=>hl m (List.mem_cons_of_mem _ hm)) hc;refine⟨cl,?_,h1,fun m hm=>h2 m ?_⟩
     . rw[<-e];have:(k==NameKind.free)=false:=by simpa using hk
       simp only[this,Bool.false_eq_true,if_false];rfl
     . rcases hm with hm|hm
       . rcases List.mem_cons.mp hm with hm|hm;.cases hm;exact absurd rfl hk
         .exact .inl hm
       .exact .inr hm
theorem wR{env:Env}{scope:Scope}(hl:∀n,(n,NameKind.free)∈scope.names->∃c,env.cells.lookup n=some c):∃cl,closureFor scope env=pure cl/\(∀n c,cl.lookup n=some c->env.cells.lookup n=some c)/\∀n,(n,NameKind.free)∈scope.names->(cl.lookup n).isSome:=by obtain⟨cl,e,h1,h2⟩:=wV (env:=env) scope.names [] hl (by simp);refine⟨cl,?_,h1,fun n hn=>h2 n (.inl hn)⟩;unfold closureFor;exact(congrArg (fun t=>t>>=fun r=>pure r) e).trans rfl
theorem cZ{env:Env}:∀(names:List (Str×NameKind))(x:Str),(names.map fun(n,k)=>if(k==NameKind.free&&env.scope.kind==.function&&env.kindOf n==some .cell)then(n,NameKind.cell)else(n,k)).lookup x=(names.lookup x).map fun k=>if(k==NameKind.free&&env.scope.kind==.function&&env.kindOf x==some .cell)=true then NameKind.cell else k
 |[],x=>rfl|(n,k)::r,x=>by
   have ih:=cZ (env:=env) r x;show List.lookup x ((if(k==NameKind.free&&env.scope.kind==.function&&env.kindOf n==some .cell)=true then(n,NameKind.cell)else(n,k))::_)=_;by_cases hc:(k==NameKind.free&&env.scope.kind==.function&&env.kindOf n==some .cell)=true;.rw[if_pos hc,List.lookup_cons,List.lookup_cons];cases hx:x==n with|true=>have:=eq_of_beq hx;subst this;show some NameKind.cell=some (if _ then _ else _);rw[if_pos hc]|false=>exact ih
   .rw[if_neg hc,List.lookup_cons,List.lookup_cons];cases hx:x==n with|true=>have:=eq_of_beq hx;subst this;show some k=some (if _ then _ else _);rw[if_neg hc]|false=>exact ih
noncomputable def Vh(N N':List Str)(sc:Scope):Bool:=(N.zip N').all fun p=>(p.1==p.2&&sc.names.lookup p.2==some .free)||(sc.names.lookup p.2!=some .local&&sc.names.lookup p.2!=some .cell&&sc.names.lookup p.2!=some .free)
structure eZ(X:Cx)(scope:Scope)(N':List Str)(n:Nat):Prop where
 kind:scope.kind=.function
 cons:∀y∈scope.names,scope.names.lookup y.1=some y.2
 names:∀y∈scope.names,y.2=.local->scope.names.lookup y.1=some .local
 cap:∀y∈scope.names,y.2=.free->X.env.scope.names.lookup y.1=some .cell\/X.env.scope.names.lookup y.1=some .free
 len:N'.length=X.N.length+n
 same:Vh X.N N' scope=true
theorem eZ.get{X:Cx}{scope:Scope}{N':List Str}{n:Nat}(c:eZ X scope N' n){i:Nat}{x:Str}(hi:i<X.N.length)(h:N'[i]?=some x)(hv:Fq (relabel scope X.env) x):X.N[i]?=some x/\scope.names.lookup x=some .free:=by
 have hz:(X.N.zip N')[i]?=some (X.N[i],x):=by rw[List.getElem?_zip_eq_some];exact⟨by simp[hi],h⟩
 have:=(List.all_eq_true.mp c.same) _ (List.mem_of_getElem? hz);simp only[Bool.or_eq_true,Bool.and_eq_true]at this;rcases this with⟨h1,h2⟩|⟨⟨h1,h2⟩,h3⟩;.have h1:=eq_of_beq h1;have h2:=eq_of_beq h2;exact⟨by simp[hi,h1],h2⟩
 . exfalso;have h1:scope.names.lookup x≠some .local:=by simpa using h1
   have h2:scope.names.lookup x≠some .cell:=by simpa using h2
   have h3:scope.names.lookup x≠some .free:=by simpa using h3
   have e:=cZ (env:=X.env) scope.names x;have hv:(relabel scope X.env).names.lookup x=some .local\/(relabel scope X.env).names.lookup x=some .cell\/(relabel scope X.env).names.lookup x=some .free:=hv;rw[show(relabel scope X.env).names.lookup x=_ from e]at hv;cases q:scope.names.lookup x with|none=>rw[q]at hv;simp at hv|some k=>
     rw[q]at hv h1 h2 h3;have hk:(k==NameKind.free)=false:=by cases k<;>first|rfl|exact absurd rfl h3
     simp only[Option.map_some,hk,Bool.false_and,Bool.false_eq_true,if_false,Option.some.injEq]at hv;rcases hv with rfl|rfl|rfl;.exact h1 rfl
     .exact h2 rfl
     .exact h3 rfl
end L2
namespace L2
open PySem PySem.Spec PyProof.Rows
structure CI(cl:List (Str×Addr))(z:Nat)(h:Heap)(acc:List (Str×Addr)):Prop where from':∀n c,acc.lookup n=some c->cl.lookup n=some c\/(z<=c/\h.IsCell c none)inj:∀n n' c,acc.lookup n=some c->acc.lookup n'=some c->n=n'
theorem Dv{cl:List (Str×Addr)}{z:Nat}(hcl:∀n c,cl.lookup n=some c->c<z):∀(names:List (Str×NameKind))(h:Heap)(acc:List (Str×Addr)),z<=h.objs.size->CI cl z h acc->CI cl z (pushCells h names) (cellsFrom h.objs.size names acc)/\(∀n,(acc.lookup n).isSome->((cellsFrom h.objs.size names acc).lookup n).isSome)/\(∀n,((∃c,acc.lookup n=some c/\z<=c)\/(n,NameKind.cell)∈names)->∃c,(cellsFrom h.objs.size names acc).lookup n=some c/\z<=c)/\(∀n c,(n,NameKind.cell)∉names->(cellsFrom h.objs.size names acc).lookup n=some c->acc.lookup n=some c)
 |[],h,acc,hz,x=>by
   refine⟨x,fun _ q=>q,fun n q=>?_,fun _ _ _ q=>q⟩;rcases q with q|q;.exact q
   .cases q|(name,kind)::r,h,acc,hz,x=>by
   unfold pushCells cellsFrom;by_cases hk:kind=.cell
   . subst hk;rw[if_pos (by rfl),if_pos (by rfl)];have hx:CI cl z (h.push {cls:=.type "cell",data:=.cell none}) ((name,h.objs.size)::acc):=by
      have lt:∀n c,acc.lookup n=some c->c<h.objs.size:=fun n c e=>by
       rcases x.from' n c e with q|q;.exact Nat.lt_of_lt_of_le (hcl n c q) hz
       .exact q.2.lt
      refine⟨fun n c e=>?_,fun n n' c e e'=>?_⟩
      . rw[List.lookup_cons]at e;split at e;.cases e;exact .inr ⟨hz,_,Heap.get?_push_size _ rfl,rfl⟩
        . rcases x.from' n c e with q|q;.exact .inl q
          .exact .inr ⟨q.1,q.2.keeps fun b o e=>Heap.get?_push_of_some _ e⟩
      . rw[List.lookup_cons]at e e';split at e<;>split at e';.rename_i _ a _ b;rw[eq_of_beq a,eq_of_beq b]
        .cases e;exact absurd (lt n' _ e') (Nat.lt_irrefl _)
        .cases e';exact absurd (lt n _ e) (Nat.lt_irrefl _)
        .exact x.inj n n' c e e'
     have ih:=Dv hcl r (h.push {cls:=.type "cell",data:=.cell none}) ((name,h.objs.size)::acc) (by rw[Heap.size_push];omega) hx;rw[Heap.size_push]at ih;refine⟨ih.1,fun n q=>ih.2.1 n ?_,fun n q=>ih.2.2.1 n ?_,fun n c q e=>?_⟩
     . rw[List.lookup_cons];split;.rfl
       .exact q
     . rcases q with⟨c,e,hc⟩|q
       . left;rw[List.lookup_cons];split;.exact⟨_,rfl,hz⟩
         .exact⟨c,e,hc⟩
       . rcases List.mem_cons.mp q with q|q;.cases q;left;exact⟨_,by simp[List.lookup_cons],hz⟩
         .exact .inr q
     . have:=ih.2.2.2 n c (fun z=>q (List.mem_cons_of_mem _ z)) e;rw[List.lookup_cons]at this;split at this;.rename_i a;exact absurd (by rw[eq_of_beq a];exact List.mem_cons_self) q
       .exact this
   . have hk':(kind==NameKind.cell)=false:=by simpa using hk
     rw[if_neg (by rw[hk'];decide),if_neg (by rw[hk'];decide)];have ih:=Dv hcl r h acc hz x;refine⟨ih.1,ih.2.1,fun n q=>ih.2.2.1 n ?_,fun n c q e=>ih.2.2.2 n c (fun z=>q (List.mem_cons_of_mem _ z)) e⟩;rcases q with q|q;.exact .inl q
     . rcases List.mem_cons.mp q with q|q;.cases q;exact absurd rfl hk
       .exact .inr q
structure DN(X:Cx)(scope:Scope)(z:Nat)(h:Heap)(cs:List (Str×Addr)):Prop where
 from':∀n c,cs.lookup n=some c->X.env.cells.lookup n=some c\/(z<c/\h.IsCell c none)inj:∀n n' c,cs.lookup n=some c->cs.lookup n'=some c->n=n'
 has:∀n,(scope.names.lookup n=some .free\/scope.names.lookup n=some .cell)->∃c,cs.lookup n=some c
 fre:∀n c,scope.names.lookup n=some .free->cs.lookup n=some c->X.env.cells.lookup n=some c
 own:∀n c,scope.names.lookup n=some .cell->cs.lookup n=some c->z<c
theorem zH{M:Model}{A:Around}{E:Value->Shared->Prop}{X:Cx}{s:Shared}{scope:Scope}{N':List Str}{n:Nat}{cl:List (Str×Addr)}{Q:Env->Shared->Prop}(ok:eZ X scope N' n)(hlt:∀n c,X.env.cells.lookup n=some c->c<s.heap.objs.size)(hinj:∀x y c,X.env.cells.lookup x=some c->X.env.cells.lookup y=some c->x=y)(hcl:∀n c,cl.lookup n=some c->X.env.cells.lookup n=some c)(xu:∀n,(n,NameKind.free)∈scope.names->(cl.lookup n).isSome)(hQ:∀ cs h',h'.Ns s.heap.objs.size (fun _=>none)->(∀ b o,s.heap.get? b=some o->h'.get? b=some o)->DN X scope s.heap.objs.size h' cs->Q {scope:=scope,locals:=s.heap.objs.size,globals:=X.env.globals,cells:=cs,qual:=X.env.qual,func:=none,code:=X.env.code,frame:=X.env.frame,builtins:=X.env.builtins} {s with heap:=h'}):wpAny M A (newFunctionEnv scope X.env.globals cl [] X.env.qual none .none (some X.env)) Q E s:=by
 simp only[newFunctionEnv,Option.isSome_some,if_true];refine wpAny_bind (wpAny_alloc ?_);refine wpAny_bind (wpAny_layCells _ (fun name kind cells=>by cases hkc:kind==NameKind.cell<;>simp[hkc]) _ _ _ _ ?_);have ck:=Dv (cl:=cl) (z:=s.heap.objs.size+1) (fun n c e=>Nat.lt_succ_of_lt (hlt n c (hcl n c e))) scope.names (s.heap.push {cls:=.type "dict",data:=.dict #[]}) cl (by rw[Heap.size_push];exact Nat.le_refl _) ⟨fun n c e=>.inl e,fun n n' c e e'=>hinj n n' c (hcl n c e) (hcl n' c e')⟩;obtain⟨c1,c2,c3,c4⟩:=ck;rw[show({s with heap:=s.heap.push {cls:=.type "dict",data:=.dict #[]}}:Shared).heap.objs.size=(s.heap.push {cls:=.type "dict",data:=.dict #[]}).objs.size from rfl];refine wpAny_bind ?_;rw[List.forIn_nil];refine wpAny_pure (wpAny_pure (hQ _ _ ((Heap.Ns.new s.heap (.type "dict")).keeps (pushCells_keeps _ _)) (fun b o e=>pushCells_keeps _ _ b o (Heap.get?_push_of_some _ e)) ⟨fun n c e=>?_,c1.inj,fun n q=>?_,fun n c q e=>?_,fun n c q e=>?_⟩))
 . rcases c1.from' n c e with z|z;.exact .inl (hcl n c z)
   .exact .inr ⟨z.1,z.2⟩
 . rcases q with q|q;.exact Option.isSome_iff_exists.mp (c2 n (xu n (PySem.mem_of_lookup q)))
   .obtain⟨c,e,_⟩:=c3 n (.inr (PySem.mem_of_lookup q));exact⟨c,e⟩
 .refine hcl n c (c4 n c (fun z=>?_) e);have:=ok.cons _ z;rw[q]at this;cases this
 .obtain⟨c',e',hc'⟩:=c3 n (.inr (PySem.mem_of_lookup q));rw[e]at e';cases e';exact hc'
section
variable{X:Cx}{pins:List (Addr×Obj)}{σ:L2.St}{H:Hp}{s:Shared}{scope:Scope}{N':List Str}{n:Nat}{fp:List Addr}{cl:List (Str×Addr)}
theorem Dn{h1:Heap}{m:Str->Option Value}{t:Nat}{cs:List (Str×Addr)}(ok:eZ X scope N' n)(I:Inv X pins σ H s)(hf:∀b∈fp,lO X pins H b/\b<s.heap.objs.size)(bc:DN X scope s.heap.objs.size h1 cs)(hn:h1.Ns s.heap.objs.size m)(old:∀b u,s.heap.get? b=some u->h1.get? b=some u):Inv (uh X scope N' cs s.heap.objs.size s H fp) [] (σ++List.replicate n none) H {s with heap:=h1,toks:=t}:=by
 have V9:∀x,scope.names.lookup x=some .free->(relabel scope X.env).names.lookup x=some .cell\/(relabel scope X.env).names.lookup x=some .free:=fun x h=>by
  have e:=cZ (env:=X.env) scope.names x;rw[h]at e;have e':(relabel scope X.env).names.lookup x=_:=e;rw[e'];simp only[Option.map_some];split;.exact .inl rfl
  .exact .inr rfl
 refine⟨⟨I.ok.mod,ok.kind,I.ok.glob,I.ok.blt,Nat.le_refl _,fun x y c h1 h2=>bc.inj x y c h1 h2,fun x hx=>?_,fun x c h e=>Nat.le_of_lt (bc.own x c (eq_of_beq (show(scope.names.lookup x==some NameKind.cell)=true from h)) e),I.ok.hd,I.ok.frames,.inl rfl,fun b hb=>?_,I.bs,Nat.le_trans I.ok.Ax I.sz,fun b u e hb=>?_,fun b hb hfs=>?_,I.stack,I.nM⟩,rfl,I.bare,Un.kept old,⟨m,hn,fun i x v e1 e2 hv=>?_⟩,fun x c e=>?_,I.hok.fresh (Nat.le_refl _),fun x c e=>?_,fun p hp=>(by cases hp),I.hok.kept old,?_⟩;.--a Wa name has its cell
   have hx:(relabel scope X.env).names.lookup x=some .cell\/(relabel scope X.env).names.lookup x=some .free:=hx;have e:=cZ (env:=X.env) scope.names x;have e':(relabel scope X.env).names.lookup x=_:=e;rw[e']at hx;refine bc.has x ?_;cases q:scope.names.lookup x with|none=>rw[q]at hx;simp at hx|some k=>
     rw[q]at hx;by_cases hk:k=.free;.rw[hk];exact .inl rfl
     . have hk':(k==NameKind.free)=false:=by simpa using hk
       simp only[Option.map_some,hk',Bool.false_and,Bool.false_eq_true,if_false,Option.some.injEq]at hx;rcases hx with rfl|rfl;.exact .inr rfl
       .exact absurd rfl hk
 . obtain⟨f,lt⟩:=hf b hb;refine⟨Nat.ne_of_lt lt,fun x c e=>?_⟩;rcases bc.from' x c e with e|e;.exact f.2.2.2.2.1 x c e
   .rintro rfl;exact absurd (Nat.lt_trans e.1 lt) (Nat.lt_irrefl _)
 . obtain⟨f,lt⟩:=hf b hb;rcases f.2.2.2.1 with h|h;.exact I.ok.tQ b u e h
   .have this:b<X.base.objs.size:=Heap.lt_size e;exact absurd (Nat.lt_of_lt_of_le this (Nat.le_trans I.ok.Ax h)) (Nat.lt_irrefl _)
 . obtain⟨f,lt⟩:=hf b hb;rcases List.mem_cons.mp (I.pq b hfs)with h|h;.exact f.2.1 h
   .exact f.2.2.1 h
 .--the names
   have hi:i<σ.length:=by
    by_cases hi:i<σ.length;.exact hi
    .rw[List.getElem?_append_right (by omega),List.getElem?_replicate]at e2;split at e2<;>cases e2
   rw[List.getElem?_append_left hi]at e2;obtain⟨h1',h2'⟩:=ok.get (by rw[<-I.len];exact hi) e1 hv;have hk:=ok.cap (x,.free) (PySem.mem_of_lookup h2') rfl;obtain⟨m0,hn0,hl⟩:=I.loc;obtain⟨u,r,l⟩:=hl i x v h1' e2 (.inr hk);refine⟨u,r,.inr ⟨V9 x h2',?_⟩⟩;rcases l with⟨hk',_⟩|⟨_,c,hc,hcell⟩;.have hk':X.env.scope.names.lookup x=some .local:=hk';rcases hk with hk|hk<;>(rw[hk']at hk;cases hk)
   .obtain⟨c',hc'⟩:=bc.has x (.inl h2');have:=bc.fre x c' h2' hc';rw[hc]at this;cases this;refine⟨c,hc',?_⟩;obtain⟨oc,e3,e4⟩:=hcell;exact⟨oc,old c oc e3,e4⟩
 . rcases bc.from' x c e with e|e;.obtain⟨v,oc,e3,e4⟩:=I.cell x c e;exact⟨v,oc,old c oc e3,e4⟩
   .exact⟨_,e.2⟩
 . rcases bc.from' x c e with e|e;.exact I.dO x c e
   .exact I.hok.fresh (Nat.le_of_lt e.1)
 .show(σ++List.replicate n none).length=N'.length;rw[List.length_append,List.length_replicate,I.len,ok.len]
theorem rT{prog:Program}{w:World}{A:Around}{R:Result->Shared->Prop}{elt target iter:Expr}{ifs:List Expr}{scope:Scope}{pos:Pos}{it acc:Value}{env:Env}(I:Nat->Shared->Prop)(turn:∀ n s,I n s->wpAny (model prog w) A (pyNext it) (fun r s₁=>match r with|none=>R (.ok .next) s₁|some v=>wpAny (model prog w) A (letOwnedTupleGo target it v) (fun _ s₁=>wpAny (model prog w) A (assign target env v) (fun _ s₂=>wpAny (model prog w) A (forIn ifs true fun c r=>if r=true then do let ok<-isTrue c env (eval c env);pure (ForInStep.yield ok)else pure (ForInStep.yield r)) (fun ok s₃=>if ok=true then wpAny (model prog w) A (eval elt env) (fun x s₄=>wpAny (model prog w) A (call (.builtin "list.append") [acc,x]) (fun _ s₅=>∃m,m<n/\I m s₅) (notedBy (model prog w) A env fun e s'=>R (.error e) s') s₄) (notedBy (model prog w) A env fun e s'=>R (.error e) s') s₃ else ∃m,m<n/\I m s₃) (notedBy (model prog w) A env fun e s'=>R (.error e) s') s₂) (notedBy (model prog w) A env fun e s'=>R (.error e) s') s₁) (notedBy (model prog w) A env fun e s'=>R (.error e) s') s₁) (notedBy (model prog w) A env fun e s'=>R (.error e) s') s)(n:Nat){s:Shared}(h:I n s):codeAny (model prog w) A (.compLoop (.ListComp elt [⟨target,iter,ifs,0⟩] scope pos) 0 it acc env) R s:=by refine codeAny_loop rfl I (fun n s hI=>?_) n h;show wpAny _ A ((compTurn (.ListComp elt [⟨target,iter,ifs,0⟩] scope pos) 0 it acc env).onRaise (fun x=>do noteFrame x env;theTreesLotGoes x)) _ _ s;refine wpAny_noted ?_;rw[compTurn_list];refine wpAny_bind (wpAny_standAt (wpAny_bind (wpAny_mono (turn n s hI) (fun r s₁ h₁=>?_) fun _ _ h'=>h')));cases r with|none=>exact wpAny_pure h₁|some v=>refine wpAny_bind (wpAny_mono h₁ (fun _ s₁ h₁=>?_) fun _ _ h'=>h');refine wpAny_bind (wpAny_mono h₁ (fun _ s₂ h₂=>wpAny_bind (wpAny_mono h₂ (fun ok s₃ h₃=>?_) fun _ _ h'=>h')) fun _ _ h'=>h');cases ok with|false=>exact wpAny_pure ⟨rfl,h₃⟩|true=>exact wpAny_bind (wpAny_bind (wpAny_mono h₃ (fun x s₄ h₄=>wpAny_bind (wpAny_mono h₄ (fun _ s₅ h₅=>wpAny_pure (wpAny_pure ⟨rfl,h₅⟩)) fun _ _ h'=>h')) fun _ _ h'=>h'))
noncomputable def O5(X:Cx)(ifs:List Expr)(t:TT):Prop:=∀(pins:List (Addr × Obj))(s:Shared)(σ:L2.St)(H:Hp)(Q:Bool->Hp->Prop),Inv X pins σ H s->t σ H Q->wpAny (model X.prog X.w) X.A (forIn ifs true fun c r=>if r=true then do let ok<-isTrue c X.env (eval c X.env);pure (ForInStep.yield ok)else pure (ForInStep.yield r)) (TP X pins σ Q) X.xe s
theorem G6{X:Cx}:O5 X [] (fun _ H Q=>Q true H):=fun pins s σ H Q I h=>wpAny_tests_nil ⟨H,I,h⟩
theorem GD{X:Cx}{c:Expr}{t:TT}(h:PT X c t):O5 X [c] t:=fun pins s σ H Q I q=>wpAny_tests_one (h pins s σ H Q I q)
noncomputable def JL(J:It)(g:TG)(tt:TT)(te:TE)(D:Addr)(Q:Hp->Prop)(W:Nat->Nat->List V->L2.St->Hp->Prop):Prop:=∀ i m ys σ H,W i m ys σ H->H D=some (.lst ys)/\((J.stop i H/\Q H)\/(J.go i H/\∀ x H2,J.FT i H x H2->g x σ H2 fun σ3 H3=>tt σ3 H3 fun b H4=>if b=true then te σ3 H4 fun y H5=>H5 D=some (.lst ys)/\ys.length<sizeLine/\∃m',m'<m/\W (i+1) m' (ys++[y]) σ3 (upd H5 D (.lst (ys++[y])))else ∃m',m'<m/\W (i+1) m' ys σ3 H4))
theorem qj{E:Value->Shared->Prop}{elt target iter:Expr}{ifs:List Expr}{pos:Pos}{it:Addr}{tn:Nat->Heap->Prop}{J:It}{g:TG}{tt:TT}{te:TE}{Q:Addr->Hp->Prop}{RR:Value->Addr->Result->Shared->Prop}(hc:X.calm=true)(ok:eZ X scope N' n)(I:Inv X pins σ H s)(hcl:∀n c,cl.lookup n=some c->X.env.cells.lookup n=some c)(xu:∀n,(n,NameKind.free)∈scope.names->(cl.lookup n).isSome)(T:Turn X.prog X.w X.K target J fp it tn)(h0:tn 0 s.heap)(hf:∀b∈fp,lO X pins H b)(hg:∀cl C s₀ H₀ ex,PG (uh X scope N' cl C s₀ H₀ ex) target g)(ht:∀cl C s₀ H₀ ex,O5 (uh X scope N' cl C s₀ H₀ ex) ifs tt)(he:∀cl C s₀ H₀ ex,PE (uh X scope N' cl C s₀ H₀ ex) elt te)(hw:∀D,H D=none->∃W,(∃m,W 0 m [] (σ++List.replicate n none) (upd H D (.lst [])))/\JL J g tt te D (Q D) W)(hRR:∀D C s' H',Q D H'->(∃m,s'.heap.Ns C m)->lO X pins H' C->Inv X pins σ H' s'->RR (.ref D) C (.ok .next) s'):wpAny (model X.prog X.w) X.A (newList []) (fun acc s₃=>wpAny (model X.prog X.w) X.A (newFunctionEnv scope X.env.globals cl [] X.env.qual none .none (some X.env)) (fun cenv s₄=>codeAny (model X.prog X.w) X.A (.compStart (.ListComp elt [⟨target,iter,ifs,0⟩] scope pos) 0 (.ref it) acc {cenv with scope:=relabel scope X.env}) (RR acc cenv.locals) s₄) E s₃) E s:=by
 refine wpAny_newObj_type (zH ok (fun x c e=>?lt) I.ok.inj hcl xu (fun cs h₁ hns hold bc=>?_));case lt=>obtain⟨v,z⟩:=I.cell x c e;exact Nat.lt_of_lt_of_le z.lt (by show _<=(s.heap.push _).objs.size;rw[Heap.size_push];exact Nat.le_succ _)
 dsimp only at hns hold bc ⊢--the new list,tracked
 have I3:Inv X pins σ (upd H s.heap.objs.size (.lst [])) {s with heap:=s.heap.push {cls:=.type "list",data:=.seq ([]:List Value).toArray}}:=I.Ma (t':=s.toks) .nil (Nat.zero_le _);generalize hs3:({s with heap:=s.heap.push {cls:=.type "list",data:=.seq ([]:List Value).toArray}}:Shared)=s3 at I3;have hsz:s3.heap.objs.size=s.heap.objs.size+1:=by rw[<-hs3];exact Heap.size_push _ _
 have Kz:s3.heap=s.heap.push {cls:=.type "list",data:=.seq ([]:List Value).toArray}:=by rw[<-hs3]
 obtain⟨W,⟨m0,w0⟩,turn⟩:=hw s.heap.objs.size I.fresh;have tnK:∀{h':Heap},(∀b o,s.heap.get? b=some o->h'.get? b=some o)->tn 0 h':=fun k=>T.keep _ _ _ h0 fun b hb o e=>k b o e;have XH:∀b∈fp,lO X pins (upd H s.heap.objs.size (.lst [])) b/\b<s3.heap.objs.size:=fun b hb=>by obtain⟨o,e,_⟩:=T.obj 0 _ h0 b hb;have lt:=Heap.lt_size e;obtain⟨f1,f2⟩:=hf b hb;exact⟨⟨by rw[aH (Nat.ne_of_lt lt)];exact f1,f2⟩,by rw[hsz];exact Nat.lt_succ_of_lt lt⟩
 rw[<-Kz]at hns hold bc ⊢;have I4:=Dn (t:=s3.toks) ok I3 XH bc hns hold;have Wb:∀b o,s.heap.get? b=some o->h₁.get? b=some o:=fun b o e=>hold b o (by rw[Kz];exact Heap.get?_push_of_some _ e);generalize hX:uh X scope N' cs s3.heap.objs.size s3 (upd H s.heap.objs.size (.lst [])) fp=X' at I4;have hA:X'.A=X.A:=by rw[<-hX];rfl
 have hpr:X'.prog=X.prog:=by rw[<-hX];rfl
 have hwr:X'.w=X.w:=by rw[<-hX];rfl
 have hKK:X'.K=X.K:=by rw[<-hX];rfl
 have hcalm:X'.calm=true:=by rw[<-hX];exact hc
 have XJ:X'.xe=fun _ _=>False:=by rw[<-hX];rfl
 have henv:X'.env=compEnvC scope cs s3.heap.objs.size X.env:=by rw[<-hX];rfl
 have hg':PG X' target g:=by rw[<-hX];exact hg _ _ _ _ _
 have ht':O5 X' ifs tt:=by rw[<-hX];exact ht _ _ _ _ _
 have he':PE X' elt te:=by rw[<-hX];exact he _ _ _ _ _
 have ff:∀{H':Hp}{b:Addr},b∈fp->H' b=none->lO X' [] H' b:=fun{H' b}hb hn=>by
  obtain⟨f,lt⟩:=XH b hb;rw[<-hX];refine⟨hn,Nat.ne_of_lt lt,fun hfs=>?_,.inl hb,fun x c e=>?_,fun p hp=>by cases hp⟩
  . rcases List.mem_cons.mp (I3.pq b hfs)with h|h;.exact f.2.1 h
    .exact f.2.2.1 h
  . rcases bc.from' x c e with e|e;.exact f.2.2.2.2.1 x c e
    .rintro rfl;exact absurd (Nat.lt_trans e.1 lt) (Nat.lt_irrefl _)--behind the block
 have fin:∀{σ':L2.St}{H':Hp}{s':Shared},Inv X' [] σ' H' s'->Q s.heap.objs.size H'->RR (.ref s.heap.objs.size) s3.heap.objs.size (.ok .next) s':=fun{σ' H' s'}J' q=>by
  rw[<-hX]at J';have hC:H' s3.heap.objs.size=none:=J'.free;obtain⟨hh,gg,dd,tt',os'⟩:=s';have eos:os'=s3.os:=J'.os;subst eos;refine hRR _ _ _ H' q (let⟨m,hm,_⟩:=J'.loc;⟨m,hm⟩) ?_ (I3.call (h':=hh) (g':=gg) (d':=dd) (t':=tt') (ch:=fp) J'.base J'.hok J'.bare fun b hb=>?_);.exact I3.zA (Nat.le_refl _) hC
  .obtain⟨f,lt⟩:=XH b hb;exact⟨f.2.2.2.1,f.2.1,f.2.2.2.2.1,f.2.2.2.2.2⟩
 have main:codeAny (model X.prog X.w) X.A (.compLoop (.ListComp elt [⟨target,iter,ifs,0⟩] scope pos) 0 (.ref it) (.ref s.heap.objs.size) X'.env) (RR (.ref s.heap.objs.size) s3.heap.objs.size) {s3 with heap:=h₁,toks:=s3.toks}:=by
  refine rT (fun k s'=>∃i ys σ' H',Inv X' [] σ' H' s'/\tn i s'.heap/\(∀b∈fp,H' b=none)/\W i k ys σ' H') (fun k s5 hI=>?_) m0 ⟨0,[],_,_,I4,tnK Wb,fun b hb=>(XH b hb).1.1,w0⟩;obtain⟨i,ys,σ5,H5,I5,t5,f5,w5⟩:=hI;obtain⟨hD,hturn⟩:=turn i k ys σ5 H5 w5;have XM:∀{Z:Value->Shared->Prop},∀(e:Value)(s':Shared),X'.xe e s'->Z e s':=fun e s' z=>by rw[XJ]at z;exact False.elim z
  rcases hturn with⟨stop,q⟩|⟨go,step⟩;.have z:=T.done X' hpr hwr hKK hcalm i [] s5 σ5 H5 (fun _ _=>False) I5 (fun b hb=>ff hb (f5 b hb)) t5 stop;rw[hA]at z;refine wpAny_mono z (?_) fun _ _ z=>False.elim z;rintro r s6⟨hr,I6⟩;subst hr;exact fin I6 q
  . have z:=T.item X' hpr hwr hKK hcalm i [] s5 σ5 H5 (fun _ _=>False) I5 (fun b hb=>ff hb (f5 b hb)) t5 go;rw[hA]at z;refine wpAny_mono z (?_) fun _ _ z=>False.elim z;rintro r s6⟨u,hr,z6⟩;subst hr;refine wpAny_mono z6 (?_) fun _ _ z=>False.elim z;rintro _ s7⟨x,H7,I7,r7,y7,t7,f7⟩;have I7':=I7.pinned (fun b hb=>ff hb (f7 b hb)) (T.obj _ _ t7)--what the pins keep
    have back:∀{σ':L2.St}{H':Hp}{s':Shared},Inv X' ([]++nU fp s7.heap) σ' H' s'->Inv X' [] σ' H' s'/\tn (i+1) s'.heap/\∀b∈fp,H' b=none:=fun{σ' H' s'}J'=>by refine⟨J'.j7,T.keep _ _ _ t7 fun b hb o e=>(J'.pin (b,o) (List.mem_append_right _ (List.mem_append_right _ (gO hb e)))).1,fun b hb=>?_⟩;obtain⟨o,e,_⟩:=T.obj _ _ t7 b hb;exact(J'.pin (b,o) (List.mem_append_right _ (List.mem_append_right _ (gO hb e)))).2.1
    have z7:=hg' _ s7 σ5 H7 x u _ I7' r7 (step x H7 y7);rw[hA,hpr,hwr]at z7;refine wpAny_mono z7 (?_) XM;rintro _ s8⟨σ8,H8,I8,q8⟩;have z8:=ht' _ s8 σ8 H8 _ I8 q8;rw[hA,hpr,hwr]at z8;refine wpAny_mono z8 (?_) XM;rintro b s9⟨H9,I9,q9⟩;cases b with|false=>rw[if_neg Bool.false_ne_true]at q9 ⊢;obtain⟨m',hm,w'⟩:=q9;obtain⟨b1,b2,b3⟩:=back I9;exact⟨m',hm,i+1,ys,σ8,H9,b1,b2,b3,w'⟩|true=>rw[if_pos rfl]at q9 ⊢;have z9:=he' _ s9 σ8 H9 _ I9 q9;rw[hA,hpr,hwr]at z9;refine wpAny_mono z9 (?_) XM;rintro y Ui⟨yv,H10,I10,r10,abb,hlen,m',hm,w'⟩;have z10:=qw _ Ui σ8 H10 (.ref s.heap.objs.size) [yv] (.ref s.heap.objs.size) [y] (fun v H11=>H11=upd H10 s.heap.objs.size (.lst (ys++[yv]))) I10 rfl (.cons r10 .nil) ⟨_,ys,yv,rfl,rfl,abb,hlen,rfl⟩;rw[hA,hpr,hwr]at z10;refine wpAny_mono z10 (?_) XM;rintro _ WL⟨_,H11,I11,_,e11⟩;subst e11;obtain⟨b1,b2,b3⟩:=back I11;exact⟨m',hm,i+1,ys++[yv],σ8,_,b1,b2,b3,w'⟩
 have e3:({s3 with heap:=h₁,toks:=s3.toks}:Shared)={s with heap:=h₁}:=by rw[<-hs3]
 rw[henv,e3]at main;exact codeAny_compStart_list main (T.self _ 0 _ _ _ (tnK Wb) main)
end
end L2
end
section
namespace L2
open PySem PySem.Spec PyProof.Rows
section
variable{X:Cx}{elt target iter:Expr}{ifs:List Expr}{scope:Scope}{pos:Pos}{N':List Str}{n:Nat}{wi:TI}{g:TG}{tt:TT}{te:TE}
noncomputable def yG(n:Nat)(wi:TI)(g:TG)(tt:TT)(te:TE):TE:=fun σ H Q=>wi σ H fun J H1=>∀D,H1 D=none->∃W,(∃m,W 0 m [] (σ++List.replicate n none) (upd H1 D (.lst [])))/\JL J g tt te D (fun H'=>Q (.ref D) H') W
theorem kh{pins:List (Addr×Obj)}{σ:L2.St}{H:Hp}{s:Shared}(I:Inv X pins σ H s)(ok:eZ X scope N' n):∃cl,closureFor scope X.env=pure cl/\(∀n c,cl.lookup n=some c->X.env.cells.lookup n=some c)/\∀n,(n,NameKind.free)∈scope.names->(cl.lookup n).isSome:=wR fun m hm=>I.ok.has m (ok.cap (m,.free) hm rfl)
theorem Gp(hc:X.calm=true)(ok:eZ X scope N' n)(hi:PI X target iter wi)(hg:∀cl C s₀ H₀ ex,PG (uh X scope N' cl C s₀ H₀ ex) target g)(ht:∀cl C s₀ H₀ ex,O5 (uh X scope N' cl C s₀ H₀ ex) ifs tt)(he:∀cl C s₀ H₀ ex,PE (uh X scope N' cl C s₀ H₀ ex) elt te)(hs:∀x,foldedSetIterable iter X.env x=pure x:=by intro _;rfl):PE X (.ListComp elt [⟨target,iter,ifs,0⟩] scope pos) (yG n wi g tt te):=by intro pins s σ H Q I h;obtain⟨cl,hclos,hcl,xu⟩:=kh I ok;rw[eval_ListComp];refine wpAny_comprehension_free (use:=none) rfl hs hclos ok.kind ok.names (cG (hi pins s σ H _ I h) fun v s1 h1=>cG h1 fun itv s2 h2=>?_);obtain⟨it,fp,tn,J,H2,rfl,I2,T,t0,f2,hw⟩:=h2;refine qj (Q:=fun D H'=>Q (.ref D) H') (RR:=fun acc C=>compPost (model X.prog X.w) X.A X.xe none (EP X pins σ Q) acc C) hc ok I2 hcl xu T t0 f2 hg ht he hw fun D C s' H' q hm An I'=>?_;obtain⟨m,hm⟩:=hm;refine⟨m,hm,fun h' hs'=>⟨.ref D,H',?_,rfl,q⟩⟩;exact I'.turned (t':=s'.toks) (fun b o hb e=>hs'.extBut b o hb e) An.1 An.2.1 An.2.2.2.1 An.2.2.2.2.1 An.2.2.2.2.2
theorem Gg{i:Nat}{x:Str}{pos' spos:Pos}(hc:X.calm=true)(hN:X.N.Nodup)(hx0:X.N[i]?=some x)(hx:Loc X.env.scope x)(ok:eZ X scope N' n)(hi:PI X target iter wi)(hg:∀cl C s₀ H₀ ex,PG (uh X scope N' cl C s₀ H₀ ex) target g)(ht:∀cl C s₀ H₀ ex,O5 (uh X scope N' cl C s₀ H₀ ex) ifs tt)(he:∀cl C s₀ H₀ ex,PE (uh X scope N' cl C s₀ H₀ ex) elt te)(hsw:swapsWith (.ListComp elt [⟨target,iter,ifs,0⟩] scope pos) (some (.Name x pos')) spos.line X.env=pure true)(hs:∀x,foldedSetIterable iter X.env x=pure x:=by intro _;rfl)(hf:X.fn x=true\/X.env.scope.names.lookup x=some .local:=by first|exact .inl rfl|exact .inr rfl|assumption):PS X (.Assign [.Name x pos'] (.ListComp elt [⟨target,iter,ifs,0⟩] scope pos) spos) (Nt (yG n wi g tt te) (pC i)):=by
 intro pins s σ H D I h;obtain⟨cl,hclos,hcl,xu⟩:=kh I ok;rw[exec_Assign_Name_used _ _ _ _ hsw];refine wpAny_bind (wpAny_standAt (wpAny_bind ?_));show wpAny _ X.A (do let _<-comprehension (.ListComp elt [⟨target,iter,ifs,0⟩] scope pos) scope X.env _ (newList []) false (eval iter X.env) (some (assign (.Name x pos') X.env))) _ _ s;refine wpAny_bind (wpAny_mono (wpAny_comprehension_free (use:=some (assign (.Name x pos') X.env)) (Q:=fun _ s'=>SP X pins D .next s') rfl hs hclos ok.kind ok.names (cG (hi pins s σ H _ I h) fun v s1 h1=>cG h1 fun itv s2 h2=>?_)) (fun _ s' hq=>wpAny_pure (wpAny_pure hq)) fun _ _ e=>e);obtain⟨it,fp,tn,J,H2,rfl,I2,T,t0,f2,hw⟩:=h2;refine qj (Q:=fun Da H'=>D.nx (σ.set i (some (.ref Da))) H') (RR:=fun acc C=>compPost (model X.prog X.w) X.A X.xe (some (assign (.Name x pos') X.env)) (fun _ s'=>SP X pins D .next s') acc C) hc ok I2 hcl xu T t0 f2 hg ht he hw fun Da C s' H' q hm An I'=>?_;obtain⟨m,hm⟩:=hm;show wpAny _ X.A (assign (.Name x pos') X.env (.ref Da)) _ _ _;refine wpAny_assign_Name (qK I' hN hx0 hx (show RelV (.ref Da) (.ref Da)from rfl) (?_) hf);rintro s'' I''⟨a,sb,ha⟩;have hCa:C≠a:=by
  rcases ha with rfl|ha;.exact An.2.1
  .exact fun z=>An.2.2.2.2.1 x a ha z.symm
 refine⟨m,hm.sameBut sb hCa,fun h' hs'=>⟨_,H',?_,q⟩⟩;exact I''.turned (t':=s''.toks) (fun b o hb e=>hs'.extBut b o hb e) An.1 An.2.1 An.2.2.2.1 An.2.2.2.2.1 An.2.2.2.2.2
noncomputable def YZ(K:PySem.W.Frag)(tl:TE):TI:=fun σ H R=>tl σ H fun x H1=>∃a,x=.ref a/\(((∃xs,dB K H1 a xs)/\R (Od K a) H1)\/((∃xs,gn K H1 a xs)/\R (RK K a) H1))
theorem Dq{tg l:Expr}{tl:TE}(hl:PE X l tl):PI X tg l (YZ X.K tl):=by
 intro pins s σ H R I h;refine cG (hl pins s σ H _ I h) ?_;rintro v s1⟨x,H1,I1,r1,q1⟩;obtain⟨a,e,q1⟩:=q1;subst e;cases r1;rcases q1 with⟨⟨xs,hq⟩,q⟩|⟨⟨xs,hq⟩,q⟩
 . obtain⟨its,rv,p,hz⟩:=I1.list hq;refine wpAny_pyIter_list p.isList ?_;refine⟨s1.heap.objs.size,[s1.heap.objs.size],_,_,H1,rfl,I1.kept (t':=s1.toks) fun b o e=>Heap.get?_push_of_some _ e,zu a _,⟨_,Heap.get?_push_size _ rfl,rfl,rfl⟩,fun b hb=>?_,q⟩;have e:b=s1.heap.objs.size:=by simpa using hb
   subst e;exact I1.zA (Nat.le_refl _) (I1.hok.fresh (Nat.le_refl _))
 . obtain⟨its,rv,p,hz⟩:=I1.tuple hq;refine wpAny_pyIter_tuple (show s1.heap.IsTuple a its.toArray from p) ?_;refine⟨s1.heap.objs.size,[s1.heap.objs.size],_,_,H1,rfl,I1.kept (t':=s1.toks) fun b o e=>Heap.get?_push_of_some _ e,wG a _,⟨_,Heap.get?_push_size _ rfl,rfl,rfl⟩,fun b hb=>?_,q⟩;have e:b=s1.heap.objs.size:=by simpa using hb
   subst e;exact I1.zA (Nat.le_refl _) (I1.hok.fresh (Nat.le_refl _))
end
end L2
end
section
namespace HH
open PySem L2 PySem.Spec PyProof.Rows
structure Walk(K:PySem.W.Frag)(F:Hp)(ρ:List Sl)(σ:L2.St)(H:Hp)(ul:List Sl->List Sl)(J:It)(ds:List D)(F1:Hp)(ρ1:List Sl)(H1:Hp):Prop where
 gs:GS K F1 ρ1 σ H1
 src:∀(n k:Nat)(F':Hp)(ρ':List Sl)(σ':L2.St)(H':Hp),bC K F1 (ρ1++List.replicate n .bK) (σ++List.replicate n none) H1 F' ρ' σ' H'->(∀d,ds[k]?=some d->J.go k H'/\∀x lD,J.FT k H' x lD->∃F'',Ext F' H' F'' lD/\Rep K F'' x d)/\(ds.length<=k->J.stop k H')fin:∀F2 ρ2 σ2 H2,bC K F1 ρ1 σ H1 F2 ρ2 σ2 H2->bC K F ρ σ H F2 (ul ρ2) σ2 H2/\∀v r,cz K F2 ρ2 σ2 H2 ρ1 σ H1 v r->cz K F2 (ul ρ2) σ2 H2 ρ σ H v r
inductive tIt(K:PySem.W.Frag)(iv:Option Nat)(f:Ev)(σ:L2.St)(H:Hp)(R:It->Hp->Prop):Prop where|mk(F:Hp)(ρ:List Sl)(ds:List D)(ρ1:List Sl)(g:GS K F ρ σ H)(e:srcOf iv f ρ=.ok ds ρ1)(k:∀J F1 H1,Walk K F ρ σ H (bh ρ iv) J ds F1 ρ1 H1->R J H1)
section
variable{K:PySem.W.Frag}{F F1 H H1:Hp}{ρ ρ1:List Sl}{σ:L2.St}{ds:List D}{a:Addr}
theorem Jl{xs:List V}{F' H':Hp}(hq:gn K H' a xs)(r:aB K F' xs ds)(s:aF F' H')(k:Nat):(∀d,ds[k]?=some d->(RK K a).go k H'/\∀x lD,(RK K a).FT k H' x lD->∃F'',Ext F' H' F'' lD/\Rep K F'' x d)/\(ds.length<=k->(RK K a).stop k H'):=by refine⟨fun d hd=>?_,fun h=>⟨xs,hq,by rw[r.length];exact h⟩⟩;obtain⟨w,h1,h2⟩:=r.get hd;refine⟨⟨xs,w,hq,h1⟩,?_⟩;rintro x lD⟨e,y⟩;subst e;have:=y xs hq;rw[h1]at this;cases this;exact⟨F',.refl s,h2⟩
theorem uF{xs:List V}{F' H':Hp}(hq:dB K H' a xs)(r:aB K F' xs ds)(s:aF F' H')(k:Nat):(∀d,ds[k]?=some d->(Od K a).go k H'/\∀x lD,(Od K a).FT k H' x lD->∃F'',Ext F' H' F'' lD/\Rep K F'' x d)/\(ds.length<=k->(Od K a).stop k H'):=by refine⟨fun d hd=>?_,fun h=>⟨xs,hq,by rw[r.length];exact h⟩⟩;obtain⟨w,h1,h2⟩:=r.get hd;refine⟨⟨xs,w,hq,h1⟩,?_⟩;rintro x lD⟨e,y⟩;subst e;have:=y xs hq;rw[h1]at this;cases this;exact⟨F',.refl s,h2⟩
theorem uq{ul:List Sl->List Sl}{v:V}{d:D}(s:bC K F ρ σ H F1 ρ1 σ H1)(r:Rep K F1 v d)(hi:items d=some ds)(fin:∀F2 ρ2 σ2 H2,bC K F1 ρ1 σ H1 F2 ρ2 σ2 H2->bC K F ρ σ H F2 (ul ρ2) σ2 H2/\∀v r,cz K F2 ρ2 σ2 H2 ρ1 σ H1 v r->cz K F2 (ul ρ2) σ2 H2 ρ σ H v r):∃a,v=.ref a/\(((∃xs,dB K H1 a xs)/\Walk K F ρ σ H ul (Od K a) ds F1 ρ1 H1)\/((∃xs,gn K H1 a xs)/\Walk K F ρ σ H ul (RK K a) ds F1 ρ1 H1)):=by cases d with|tup es=>cases hi;rw[Rep]at r;obtain⟨a,xs,rfl,h1,h2⟩:=r;exact⟨a,rfl,.inr ⟨⟨xs,aF.gk s.gs.sub h1⟩,s.gs,fun n k F' ρ' σ' H' s'=>Jl (aF.gk s'.gs.sub (aF.gk s'.cB h1)) (h2.mono s'.cB) s'.gs.sub k,fin⟩⟩|lst es=>cases hi;rw[Rep]at r;obtain⟨a,xs,rfl,h1,h2⟩:=r;exact⟨a,rfl,.inl ⟨⟨xs,s.gs.sub.seq h1⟩,s.gs,fun n k F' ρ' σ' H' s'=>uF (s'.gs.sub.seq (s'.cB.seq h1)) (h2.mono s'.cB) s'.gs.sub k,fin⟩⟩|_=>cases hi
theorem qN{i:Nat}{ul:List Sl->List Sl}(g:GS K F ρ1 σ H)(e:ρ1[i]?=some (.lent ds))(fin:∀F2 ρ2 σ2 H2,bC K F ρ1 σ H F2 ρ2 σ2 H2->bC K F ρ σ H F2 (ul ρ2) σ2 H2/\∀v r,cz K F2 ρ2 σ2 H2 ρ1 σ H v r->cz K F2 (ul ρ2) σ2 H2 ρ σ H v r):∃a,σ[i]?=some (some (.ref a))/\(∃xs,dB K H a xs)/\Walk K F ρ σ H ul (Od K a) ds F ρ1 H:=by obtain⟨a,xs,h1,h2,h3,h4⟩:=g.qe i _ ds e rfl;have hi:i<ρ1.length:=(List.getElem?_eq_some_iff.mp e).1;refine⟨a,h1,⟨xs,dB.of h2⟩,g,fun n k F' ρ' σ' H' s'=>?_,fin⟩;obtain⟨z1,t,z2,z3⟩:=s'.lk i _ (by rw[List.getElem?_append_left hi];exact e) rfl;cases(show t=.lent ds from z3);rw[List.getElem?_append_left (by rw[<-g.len];exact hi),h1]at z1;obtain⟨a',ys,w1,w2,w3,w4⟩:=s'.gs.qe i _ ds z2 rfl;rw[z1]at w1;cases w1;exact uF (dB.of w2) w4 s'.gs.sub k
end
section
variable{X:Cx}{c:Call}{n:Nat}{e a b d tg:Expr}{p pa pb pd:P}{pos:Pos}
theorem qQ{t t':TI}(h:PI X tg e t)(i:∀σ H R,t' σ H R->t σ H R):PI X tg e t':=fun pins s σ H R I q=>h pins s σ H R I (i σ H R q)
noncomputable def SI(X:Cx)(c:Call)(tg e:Expr)(p:P):Prop:=PI X tg e (tIt X.K (isVar p) (HH.ev c p))
theorem gD(h:SX X c e p):SI X c tg e p:=by unfold SI;cases hv:isVar p with|none=>refine qQ (Dq h.ev) ?_;rintro σ H R⟨F,ρ,ds,ρ1,g,e,k⟩;obtain⟨r,ρ2,e1,e2⟩:=ao e;have zz:=aJ e2;clear e2;obtain⟨e2,e3⟩:=zz;subst e3;refine⟨F,ρ,r,_,g,e1,fun v F' H' s rr=>?_⟩;obtain⟨F2,s2,_,rp⟩:=s.fH rr;obtain⟨a,ha,hw⟩:=uq (ul:=bh ρ none) s2 rp e2 fun F3 ρ3 σ3 H3 s3=>⟨s2.trans s3,fun v r rr=>rr.later s2⟩;exact⟨a,ha,hw.imp (fun⟨z,w⟩=>⟨z,k _ _ _ w⟩) (fun⟨z,w⟩=>⟨z,k _ _ _ w⟩)⟩|some i=>
   refine qQ (Dq (h.var i hv)) ?_;rintro σ H R⟨F,ρ,ds,ρ1,g,e,k⟩;unfold srcOf at e;dsimp only at e;split at e
   . rename_i b d q;have zz:=aJ e;clear e;obtain⟨e2,e3⟩:=zz;subst e3;obtain⟨v,h1,h2⟩:=g.val i b d q;have fin:∀F2 ρ2 σ2 H2,bC X.K F ρ σ H F2 ρ2 σ2 H2->bC X.K F ρ σ H F2 (bh ρ (some i) ρ2) σ2 H2/\∀v r,cz X.K F2 ρ2 σ2 H2 ρ σ H v r->cz X.K F2 (bh ρ (some i) ρ2) σ2 H2 ρ σ H v r:=fun F2 ρ2 σ2 H2 s=>by unfold bh;dsimp only;rw[q];exact⟨s,fun _ _ z=>z⟩
     obtain⟨a,ha,hw⟩:=uq (ul:=bh ρ (some i)) (.refl g) h2 e2 fin;exact⟨v,h1,a,ha,hw.imp (fun⟨z,w⟩=>⟨z,k _ _ _ w⟩) (fun⟨z,w⟩=>⟨z,k _ _ _ w⟩)⟩
   . rename_i b ds' q;cases e;have hi:i<ρ.length:=(List.getElem?_eq_some_iff.mp q).1;have fin:∀F2 ρ2 σ2 H2,bC X.K F (ρ.set i (.lent ds)) σ H F2 ρ2 σ2 H2->bC X.K F ρ σ H F2 (bh ρ (some i) ρ2) σ2 H2/\∀v r,cz X.K F2 ρ2 σ2 H2 (ρ.set i (.lent ds)) σ H v r->cz X.K F2 (bh ρ (some i) ρ2) σ2 H2 ρ σ H v r:=fun F2 ρ2 σ2 H2 s=>by unfold bh;dsimp only;rw[q];exact bC.bh g q s
     obtain⟨a,h1,hx,w⟩:=qN (ul:=bh ρ (some i)) (g.lend q) (List.getElem?_set_self hi) fin;exact⟨_,h1,a,rfl,.inl ⟨hx,k _ _ _ w⟩⟩
   . rename_i ds' q;cases e;have fin:∀F2 ρ2 σ2 H2,bC X.K F ρ σ H F2 ρ2 σ2 H2->bC X.K F ρ σ H F2 (bh ρ (some i) ρ2) σ2 H2/\∀v r,cz X.K F2 ρ2 σ2 H2 ρ σ H v r->cz X.K F2 (bh ρ (some i) ρ2) σ2 H2 ρ σ H v r:=fun F2 ρ2 σ2 H2 s=>by unfold bh;dsimp only;rw[q];exact⟨s,fun _ _ z=>z⟩
     obtain⟨a,h1,hx,w⟩:=qN (ul:=bh ρ (some i)) g q fin;exact⟨_,h1,a,rfl,.inl ⟨hx,k _ _ _ w⟩⟩
   .cases e
theorem vC{K:PySem.W.Frag}{F F1 H H1:Hp}{ρ ρ1:List Sl}{σ:L2.St}(s:bC K F ρ σ H F1 ρ1 σ H1)(i j:Int):Walk K F ρ σ H (bh ρ none) (Ti i (j-i).toNat) ((List.range (j-i).toNat).map fun(k:Nat)=>D.int (i+(k:Int))) F1 ρ1 H1:=by
 refine⟨s.gs,fun n k F' ρ' σ' H' s'=>⟨fun d hd=>?_,fun h=>?_⟩,fun F3 ρ3 σ3 H3 s3=>⟨s.trans s3,fun v r rr=>rr.later s⟩⟩;.rw[List.getElem?_map]at hd;obtain⟨m,e1,e2⟩:=map_some hd;obtain⟨h1,h2⟩:=List.getElem?_eq_some_iff.mp e1;rw[List.getElem_range]at h2;subst h2;subst e2;rw[List.length_range]at h1;refine⟨h1,?_⟩;rintro x lD⟨q1,q2⟩;subst q1;subst q2;exact⟨F',.refl s'.gs.sub,dg _⟩
 .rw[List.length_map,List.length_range]at h;exact h
theorem nG{x:Str}{p':Pos}(hx:x="range")(hg:Gl X x)(hm:X.mg x=none)(ha:SX X c a pa)(hs:starEach [a] X.env=[(false,eval a X.env)]:=by rfl):SI X c tg (.Call (.Name x p') [a] [] pos) (.yU (.con (.int 0)) pa):=by
 subst hx;obtain⟨ta,h1,h2⟩:=ha.cN;refine qQ (zG hg hm (aW h1 cQ hs) hs) ?_;rintro σ H R⟨F,ρ,ds,ρ1,g,e,k⟩;obtain⟨r,ρ2,e1,e2⟩:=ao e;have zz:=aJ e2;clear e2;obtain⟨e2,e3⟩:=zz;subst e3;rw[HH.ev]at e1;obtain⟨xy,ρ3,e4,e5⟩:=ao e1;have zz:=aJ e5;clear e5;obtain⟨e5,e6⟩:=zz;subst e6;obtain⟨y0,ρ5,e9,e10⟩:=ao e4;cases e10;obtain⟨i,f1,e5⟩:=dJ e5;obtain⟨j,f2,e5⟩:=dJ e5;obtain⟨⟨b1,b2,b3,b4⟩,e5⟩:=bB e5;have f1:i=0:=by cases f1;rfl
 subst f1;subst e5;cases e2;cases gf f2;refine h2 g e9 fun v F' H' s pv=>⟨j,by rw[pv.int],by omega,by omega,?_⟩;have:=vC s 0 j;rw[Int.sub_zero]at this;refine k _ F' H' ?_;rw[Int.sub_zero];exact this
theorem Jm{x:Str}{p':Pos}(hx:x="range")(hg:Gl X x)(hm:X.mg x=none)(ha:SX X c a pa)(hb:SX X c b pb)(hs:starEach [a,b] X.env=[(false,eval a X.env),(false,eval b X.env)]:=by rfl)(hs2:starEach [b] X.env=[(false,eval b X.env)]:=by rfl):SI X c tg (.Call (.Name x p') [a,b] [] pos) (.yU pa pb):=by subst hx;obtain⟨ta,tb,h1,h2,h3⟩:=ha.jJ hb;refine qQ (zU hg hm (aW h1 (aW h2 cQ hs2) (by rw[hs,hs2])) hs hs2) ?_;rintro σ H R⟨F,ρ,ds,ρ1,g,e,k⟩;obtain⟨r,ρ2,e1,e2⟩:=ao e;have zz:=aJ e2;clear e2;obtain⟨e2,e3⟩:=zz;subst e3;rw[HH.ev]at e1;obtain⟨xy,ρ3,e4,e5⟩:=ao e1;have zz:=aJ e5;clear e5;obtain⟨e5,e6⟩:=zz;subst e6;obtain⟨i,f1,e5⟩:=dJ e5;obtain⟨j,f2,e5⟩:=dJ e5;obtain⟨⟨b1,b2,b3,b4⟩,e5⟩:=bB e5;subst e5;cases e2;refine h3 g e4 fun v u F' H' s pv pu=>⟨i,j,?_,by omega,k _ F' H' (vC s i j)⟩;have e1:=gf f1;have e2:=gf f2;rw[e1]at pv;rw[e2]at pu;rw[pv.int,pu.int]
end
end HH
end
section
namespace HH
open PySem L2 PySem.Spec PyProof.Rows
section
variable{X:Cx}{c:Call}{n:Nat}{e a b d tg iter:Expr}{p pa pb pd:P}{pos:Pos}{body:List Stmt}{ss:List S}
noncomputable def Jj(K:PySem.W.Frag)(bd:List Sl->D->Option (List Sl))(g:TG):Prop:=∀(x:V)(d:D)(F:Hp)(ρ ρ':List Sl)(σ:L2.St)(H:Hp)(Q:L2.St->Hp->Prop),GS K F ρ σ H->Rep K F x d->bd ρ d=some ρ'->(∀σ',bC K F ρ σ H F ρ' σ' H->Q σ' H)->g x σ H Q
theorem Gj{K:PySem.W.Frag}(i:Nat):Jj K (fun ρ d=>put ρ i (.val false d)) (pC i):=fun x d F ρ ρ' σ H Q g r h k=>k _ (bC.put (r:=.val d) (.refl g) r h)
theorem tL{K:PySem.W.Frag}:∀(is:List Nat)(gs:Ao),(∀(xs:List V)(ds:List D)(F:Hp)(ρ ρ':List Sl)(σ:L2.St)(H:Hp)(Q:L2.St->Hp->Prop),GS K F ρ σ H->aB K F xs ds->putAll ρ is ds=some ρ'->(∀σ',bC K F ρ σ H F ρ' σ' H->Q σ' H)->gs xs σ H Q)->∀i,∀(xs:List V)(ds:List D)(F:Hp)(ρ ρ':List Sl)(σ:L2.St)(H:Hp)(Q:L2.St->Hp->Prop),GS K F ρ σ H->aB K F xs ds->putAll ρ (i::is) ds=some ρ'->(∀σ',bC K F ρ σ H F ρ' σ' H->Q σ' H)->Dj (pC i) gs xs σ H Q:=by intro is gs ih i xs ds F ρ ρ' σ H Q g r h k;cases ds with|nil=>simp[putAll]at h|cons d ds=>obtain⟨v,vs,rfl,h1,h2⟩:=r.bG;rw[putAll]at h;obtain⟨ρ1,e1,e2⟩:=dJ h;have s1:=bC.put (r:=.val d) (.refl g) h1 e1;refine⟨v,vs,rfl,ih vs ds F ρ1 ρ' _ H _ s1.gs h2 e2 fun σ' s2=>k σ' (s1.trans s2)⟩
theorem Gx{K:PySem.W.Frag}:∀(xs:List V)(ds:List D)(F:Hp)(ρ ρ':List Sl)(σ:L2.St)(H:Hp)(Q:L2.St->Hp->Prop),GS K F ρ σ H->aB K F xs ds->putAll ρ [] ds=some ρ'->(∀σ',bC K F ρ σ H F ρ' σ' H->Q σ' H)->M4 xs σ H Q:=by intro xs ds F ρ ρ' σ H Q g r h k;cases ds with|nil=>rw[putAll]at h;cases h;exact⟨r.dI,k σ (.refl g)⟩|cons d ds=>simp[putAll]at h
theorem jH:∀{is:List Nat}{ds:List D}{ρ ρ':List Sl},putAll ρ is ds=some ρ'->ds.length=is.length|[],[],_,_,_=>rfl|[],_::_,_,_,h=>by simp[putAll]at h|_::_,[],_,_,h=>by simp[putAll]at h|i::is,d::ds,ρ,ρ',h=>by rw[putAll]at h;obtain⟨ρ1,e1,e2⟩:=dJ h;simp[jH e2]
theorem Py{K:PySem.W.Frag}{is:List Nat}{gs:Ao}{m:Nat}(hm:m=is.length)(h:∀(xs:List V)(ds:List D)(F:Hp)(ρ ρ':List Sl)(σ:L2.St)(H:Hp)(Q:L2.St->Hp->Prop),GS K F ρ σ H->aB K F xs ds->putAll ρ is ds=some ρ'->(∀σ',bC K F ρ σ H F ρ' σ' H->Q σ' H)->gs xs σ H Q):Jj K (fun ρ d=>cg ρ is false d) (K6 K m gs):=by intro x d F ρ ρ' σ H Q g r hb k;replace hb:cg ρ is false d=some ρ':=hb;cases d with|tup ds=>replace hb:putAll ρ is ds=some ρ':=hb;rw[Rep]at r;obtain⟨a,xs,rfl,h1,h2⟩:=r;exact⟨a,xs,rfl,aF.gk g.sub h1,by rw[h2.length,jH hb,hm],h xs _ F ρ ρ' σ H Q g h2 hb k⟩|_=>cases hb
theorem Pa{g:TG}{is:List Nat}{one:Bool}(hp:PassesOwn (model X.prog X.w) X.A X.env X.xe)(hc:X.calm=true)(hi:SI X c tg iter p)(hg:PG X tg g)(hgo:Jj X.K (fun ρ d=>cg ρ is one d) g)(hb:SB X c n body ss)(hs:∀x,foldedSetIterable iter X.env x=pure x:=by intro _;rfl):SS X c n (.For tg iter body [] pos) (.pR p is one ss):=by
 refine dZ (N7 hp hc hi hg hb hs) ?_;rintro D σ H⟨F,ρ,fl,ρ',g0,e,k⟩;rw[ex]at e;obtain⟨ds,ρ1,e1,e⟩:=ao e;obtain⟨Wc,ρ2,e2,e⟩:=ao e;cases e;refine⟨F,ρ,ds,ρ1,g0,e1,fun J F1 H1 w=>?_⟩;have src:∀(i:Nat)(F':Hp)(ρ':List Sl)(σ':L2.St)(H':Hp),bC X.K F1 ρ1 σ H1 F' ρ' σ' H'->(∀d,ds[i]?=some d->J.go i H'/\∀x lD,J.FT i H' x lD->∃F'',Ext F' H' F'' lD/\Rep X.K F'' x d)/\(ds.length<=i->J.stop i H'):=fun i F' ρ' σ' H' s=>w.src 0 i F' ρ' σ' H' (by simpa using s);refine⟨fun i m σi Hi=>∃Fi ρi,bC X.K F1 ρ1 σ H1 Fi ρi σi Hi/\m=ds.length-i/\i<=ds.length/\lL is one (dw c n ss) (ds.drop i) ρi=.ok fl ρ2,⟨_,F1,ρ1,.refl w.gs,rfl,Nat.zero_le _,e2⟩,?_⟩;rintro i m σi Hi⟨Fi,ρi,si,rfl,hle,ei⟩;obtain⟨s1,s2⟩:=src i Fi ρi σi Hi si;by_cases hlt:i<ds.length
 . right;have hd:ds[i]?=some ds[i]:=by simp[hlt]
   obtain⟨go,step⟩:=s1 _ hd;refine⟨go,fun σ' H'=>∃m',m'<ds.length-i/\∃Fi ρi,bC X.K F1 ρ1 σ H1 Fi ρi σ' H'/\m'=ds.length-(i+1)/\i+1<=ds.length/\lL is one (dw c n ss) (ds.drop (i+1)) ρi=.ok fl ρ2,fun σ' H' z=>z,fun x H' y=>?_⟩;obtain⟨F2,ext,rx⟩:=step x H' y;have si2:=si.trans (ext.stp si.gs);rw[List.drop_eq_getElem_cons hlt,lL]at ei;cases hbd:cg ρi is one ds[i]with|none=>rw[hbd]at ei;cases ei|some ρb=>rw[hbd]at ei;obtain⟨flb,ρc,eb,ei⟩:=ao ei;refine hgo x _ F2 ρi ρb σi H' _ si2.gs rx hbd fun σ2 sb=>?_;have si3:=si2.trans sb;refine⟨F2,ρb,flb,ρc,si3.gs,eb,fun F4 σ4 H4 s4=>?_⟩;have XN:=si3.trans s4;cases flb with|next=>exact⟨_,by omega,F4,ρc,XN,rfl,hlt,ei⟩|cont=>exact⟨_,by omega,F4,ρc,XN,rfl,hlt,ei⟩|brk=>cases ei;exact k F4 σ4 H4 (w.fin _ _ _ _ XN).1|ret r=>cases ei;intro v rr;obtain⟨z1,z2⟩:=w.fin _ _ _ _ XN;exact k F4 σ4 H4 z1 v (z2 v r (rr.later si3))
 . left;have hdr:ds.drop i=[]:=by rw[List.drop_eq_nil_iff];omega
   rw[hdr,lL]at ei;cases ei;exact⟨s2 (by omega),k Fi σi Hi (w.fin _ _ _ _ si).1⟩
theorem zM(i:Nat):(fun(ρ:List Sl)(d:D)=>cg ρ [i] true d)=fun ρ d=>put ρ i (.val false d):=by funext ρ d;rfl
theorem gF{i:Nat}{x:Str}{pos':Pos}(hp:PassesOwn (model X.prog X.w) X.A X.env X.xe)(hc:X.calm=true)(hN:X.N.Nodup)(hx0:X.N[i]?=some x)(hx:Loc X.env.scope x)(hi:SI X c (.Name x pos') iter p)(hb:SB X c n body ss)(hs:∀x,foldedSetIterable iter X.env x=pure x:=by intro _;rfl)(hf:X.fn x=true\/X.env.scope.names.lookup x=some .local:=by first|exact .inl rfl|exact .inr rfl|assumption):SS X c n (.For (.Name x pos') iter body [] pos) (.pR p [i] true ss):=Pa hp hc hi (bQ hN hx0 hx hf) (by rw[zM];exact Gj i) hb hs
theorem sI(hp:PassesOwn (model X.prog X.w) X.A X.env X.xe)(ht:ST X c e p)(hb:SB X c n body ss):SS X c n (.While e body [] pos) (.whl p ss):=by refine dZ (uT hp ht hb) ?_;rintro D σ H⟨F,ρ,fl,ρ',g,e,k⟩;rw[ex]at e;refine⟨fun m σi Hi=>∃Fi ρi,bC X.K F ρ σ H Fi ρi σi Hi/\tG (ie (HH.ev c p)) (dw c n ss) m ρi=.ok fl ρ',⟨n,F,ρ,.refl g,e⟩,?_⟩;rintro m σi Hi⟨Fi,ρi,si,ei⟩;cases m with|zero=>rw[tG]at ei;cases ei|succ m=>rw[tG]at ei;obtain⟨b,ρ1,e1,ei⟩:=ao ei;refine⟨Fi,ρi,b,ρ1,si.gs,e1,fun F1 H1 s1=>?_⟩;have s2:=si.trans s1;cases b with|false=>rw[if_neg Bool.false_ne_true]at ei;cases ei;exact k F1 σi H1 s2|true=>rw[if_pos rfl]at ei;obtain⟨flb,ρc,eb,ei⟩:=ao ei;refine(show ∃N:L2.St->Hp->Prop,_/\_ from⟨fun σ' H'=>∃m',m'<m+1/\∃Fi ρi,bC X.K F ρ σ H Fi ρi σ' H'/\tG (ie (HH.ev c p)) (dw c n ss) m' ρi=.ok fl ρ',fun σ' H' z=>z,F1,ρ1,flb,ρc,s2.gs,eb,fun F4 σ4 H4 s4=>?_⟩);have s5:=s2.trans s4;cases flb with|next=>exact⟨m,by omega,F4,ρc,s5,ei⟩|cont=>exact⟨m,by omega,F4,ρc,s5,ei⟩|brk=>cases ei;exact k F4 σ4 H4 s5|ret r=>cases ei;exact fun v rr=>k F4 σ4 H4 s5 v (rr.later s2)
end
end HH
end
section
namespace HH
open PySem L2 PySem.Spec PyProof.Rows
section
variable{X:Cx}{c:Call}{n:Nat}{e elt tg iter:Expr}{p ps pe:P}{pos:Pos}{scope:Scope}{N':List Str}{ifs:List Expr}
theorem N6{t t':TE}(h:PE X e t)(i:∀σ H Q,σ.length=X.N.length->t' σ H Q->t σ H Q):PE X e t':=fun pins s σ H Q I q=>h pins s σ H Q I (i σ H Q I.len q)
theorem Pk{st:Stmt}{t t':TS}(h:PS X st t)(i:∀D σ H,σ.length=X.N.length->t' D σ H->t D σ H):PS X st t':=fun pins s σ H D I q=>h pins s σ H D I (i D σ H I.len q)
noncomputable def qO(K:PySem.W.Frag)(m:Nat)(is:List Nat)(one:Bool)(g:TG):Prop:=∀(x:V)(d:D)(F:Hp)(ρ ρ':List Sl)(σ:L2.St)(H:Hp)(Q:L2.St->Hp->Prop),GS K F ρ σ H->Rep K F x d->cg ρ is one d=some ρ'->(∀σ',bC K F ρ σ H F ρ' σ' H->σ'.take m=σ.take m->Q σ' H)->g x σ H Q
theorem take_set{α:Type}{l:List α}{i m:Nat}{a:α}(h:m<=i):(l.set i a).take m=l.take m:=by rw[List.take_set_of_le h]
theorem fX{K:PySem.W.Frag}{i m:Nat}(h:m<=i):qO K m [i] true (pC i):=fun x d F ρ ρ' σ H Q g r hb k=>k _ (bC.put (r:=.val d) (.refl g) r hb) (take_set h)
noncomputable def Ha(K:PySem.W.Frag)(m:Nat)(is:List Nat)(gs:Ao):Prop:=∀(xs:List V)(ds:List D)(F:Hp)(ρ ρ':List Sl)(σ:L2.St)(H:Hp)(Q:L2.St->Hp->Prop),GS K F ρ σ H->aB K F xs ds->putAll ρ is ds=some ρ'->(∀σ',bC K F ρ σ H F ρ' σ' H->σ'.take m=σ.take m->Q σ' H)->gs xs σ H Q
theorem fu{K:PySem.W.Frag}{m i:Nat}{is:List Nat}{gs:Ao}(hi:m<=i)(ih:Ha K m is gs):Ha K m (i::is) (Dj (pC i) gs):=by intro xs ds F ρ ρ' σ H Q g r h k;cases ds with|nil=>simp[putAll]at h|cons d ds=>obtain⟨v,vs,rfl,h1,h2⟩:=r.bG;rw[putAll]at h;obtain⟨ρ1,e1,e2⟩:=dJ h;have s1:=bC.put (r:=.val d) (.refl g) h1 e1;exact⟨v,vs,rfl,ih vs ds F ρ1 ρ' _ H _ s1.gs h2 e2 fun σ' s2 z=>k σ' (s1.trans s2) (z.trans (take_set hi))⟩
theorem sE{K:PySem.W.Frag}{m:Nat}:Ha K m [] M4:=by intro xs ds F ρ ρ' σ H Q g r h k;cases ds with|nil=>rw[putAll]at h;cases h;exact⟨r.dI,k σ (.refl g) rfl⟩|cons d ds=>simp[putAll]at h
theorem tu{K:PySem.W.Frag}{is:List Nat}{gs:Ao}{m l:Nat}(hm:l=is.length)(h:Ha K m is gs):qO K m is false (K6 K l gs):=by intro x d F ρ ρ' σ H Q g r hb k;cases d with|tup ds=>replace hb:putAll ρ is ds=some ρ':=hb;rw[Rep]at r;obtain⟨a,xs,rfl,h1,h2⟩:=r;exact⟨a,xs,rfl,aF.gk g.sub h1,by rw[h2.length,jH hb,hm],h xs _ F ρ ρ' σ H Q g h2 hb k⟩|_=>cases hb
noncomputable def SQ(X:Cx)(c:Call)(ifs:List Expr)(t:Option P):Prop:=O5 X ifs (JS X.K (pK c t))
theorem tH:SQ X c [] none:=fun pins s σ H Q I⟨F,ρ,k,ρ',g,e,q⟩=>by rw[pK]at e;cases e;exact G6 pins s σ H Q I (q F H (.refl g))
theorem jk(h:ST X c e p):SQ X c [e] (some p):=fun pins s σ H Q I⟨F,ρ,k,ρ',g,e,q⟩=>by rw[pK]at e;exact GD h pins s σ H Q I ⟨F,ρ,k,ρ',g,e,q⟩
theorem bC.Vv{K:PySem.W.Frag}{F H F1 H1:Hp}{ρ ρ1:List Sl}{σ σ1:L2.St}{Da:Addr}{o:HO}(s:bC K F ρ σ H F1 ρ1 σ1 H1)(h:H Da=none)(hf:F1 Da=none)(ho:¬ Own ρ1 σ1 Da):bC K F ρ σ H F1 ρ1 σ1 (upd H1 Da o):=by
 refine⟨⟨fun b u e=>?_,s.gs.len,s.gs.val,fun i t ds e e'=>?_,s.gs.dis⟩,s.cB,s.yX,fun b u e n=>?_,s.yZ,s.len,s.lk⟩
 . have:b≠Da:=by rintro rfl;rw[hf]at e;cases e
   rw[aH this];exact s.gs.sub b u e
 . obtain⟨a,xs,q1,q2,q3,q4⟩:=s.gs.own i t ds e e';have:a≠Da:=by rintro rfl;exact ho ⟨i,⟨t,ds,e,e'⟩,q1⟩
   exact⟨a,xs,q1,by rw[aH this];exact q2,q3,q4⟩
 . have:b≠Da:=by rintro rfl;rw[h]at e;cases e
   rw[aH this];exact s.keep b u e n
theorem Ex{K:PySem.W.Frag}{F H:Hp}{ρ ρ1 ρ2:List Sl}{σ:L2.St}{ul:List Sl->List Sl}{ti:TI}{is:List Nat}{one:Bool}{test:List Sl->Res Bool}{el:Ev}{g:TG}{Q:VK}{ds xs:List D}{m:Nat}(hm:σ.length=m)(hgo:qO K m is one g)(hti:∀R:It->Hp->Prop,(∀J F1 H1,Walk K F ρ σ H ul J ds F1 ρ1 H1->R J H1)->ti σ H R)(hlim:ds.length<=lim)(e2:turns is one test el ds [] (ρ1++List.replicate n .bK)=.ok xs ρ2)(k:∀v F' H',bC K F ρ σ H F' (ul (ρ2.take ρ1.length)) σ H'->cz K F' (ul (ρ2.take ρ1.length)) σ H' ρ σ H v (.own xs)->Q v H'):yG n ti g (JS K test) (Cz K el) σ H Q:=by
 refine hti _ fun J F1 H1 w Da R0=>?_;have hl1:ρ1.length=σ.length:=w.gs.len;have gm:=w.gs.more (n:=n) (τ:=List.replicate n none) (by simp);have fD:F1 Da=none:=by cases q:F1 Da with|none=>rfl|some o=>rw[w.gs.sub Da o q]at R0;cases R0
 have nO:¬ Own (ρ1++List.replicate n .bK) (σ++List.replicate n none) Da:=fun⟨i,⟨t,dt,q1,q2⟩,q3⟩=>by obtain⟨a,ys,z1,z2,_⟩:=gm.own i t dt q1 q2;rw[q3]at z1;cases z1;rw[R0]at z2;cases z2
 refine⟨fun i mm ys σi Hi=>∃Fi ρi acc,bC K F1 (ρ1++List.replicate n .bK) (σ++List.replicate n none) H1 Fi ρi σi Hi/\σi.take m=σ/\Hi Da=some (.lst ys)/\Fi Da=none/\¬ Own ρi σi Da/\aB K Fi ys acc/\acc.length<=i/\mm=ds.length-i/\i<=ds.length/\turns is one test el (ds.drop i) acc ρi=.ok xs ρ2,⟨_,F1,_,[],(bC.refl gm).Vv R0 fD nO,by rw[List.take_append_of_le_length (by omega),List.take_of_length_le (by omega)],aR,fD,nO,.nil,Nat.zero_le _,rfl,Nat.zero_le _,e2⟩,?_⟩;rintro i mm ys σi Hi⟨Fi,ρi,acc,si,hσ,hD,hF,hO,rs,hacc,rfl,hle,ei⟩;refine⟨hD,?_⟩--what stays of the new list through a step
 have stay:∀{F2 H2:Hp}{ρ3:List Sl}{σ2:L2.St},bC K Fi ρi σi Hi F2 ρ3 σ2 H2->H2 Da=some (.lst ys)/\F2 Da=none/\¬ Own ρ3 σ2 Da:=fun{F2 H2 ρ3 σ2}s=>by
  refine⟨s.keep Da _ hD hO,?_,fun o=>?_⟩;.cases q:F2 Da with|none=>rfl|some o=>
      rcases s.yX Da hF (by rw[q];simp)with z|z;.exact absurd z hO
      .exact(CG hD z).elim
  . rcases s.yZ Da o with z|z;.exact hO z
    .rw[hD]at z;cases z
 obtain⟨s1,s2⟩:=w.src n i Fi ρi σi Hi si;by_cases hlt:i<ds.length
 . right;have hd:ds[i]?=some ds[i]:=by simp[hlt]
   obtain⟨go,step⟩:=s1 _ hd;refine⟨go,fun x H2 y=>?_⟩;obtain⟨F2,ext,rx⟩:=step x H2 y;have t2:=ext.stp si.gs;rw[List.drop_eq_getElem_cons hlt,turns]at ei;cases hbd:cg ρi is one ds[i]with|none=>rw[hbd]at ei;cases ei|some ρb=>rw[hbd]at ei;obtain⟨bb,ρc,eb,ei⟩:=ao ei;refine hgo x _ F2 ρi ρb σi H2 _ t2.gs rx hbd fun σ2 sb htk=>?_;have t3:=t2.trans sb;refine⟨F2,ρb,bb,ρc,t3.gs,eb,fun F4 H4 s4=>?_⟩;have t4:=t3.trans s4;cases bb with|false=>rw[if_neg Bool.false_ne_true]at ei;obtain⟨y1,y2,y3⟩:=stay t4;exact⟨_,by omega,F4,ρc,acc,si.trans t4,htk.trans hσ,y1,y2,y3,rs.mono t4.cB,by omega,rfl,hlt,ei⟩|true=>
       rw[if_pos rfl]at ei;obtain⟨re,ρe,ee,ei⟩:=ao ei;refine(show Cz K el σ2 H4 _ from⟨F4,ρc,re,ρe,t4.gs,ee,fun v F5 H5 s5 rr=>?_⟩);obtain⟨F6,s6,_,rp⟩:=s5.fH rr;have t6:=t4.trans s6;obtain⟨y1,y2,y3⟩:=stay t6;have hlen:ys.length<sizeLine:=by have h1:=rs.length;have h2:lim=sizeLine:=rfl;omega
       exact⟨y1,hlen,_,by omega,F6,ρe,acc++[re.d],(si.trans t6).Vv R0 y2 y3,htk.trans hσ,aR,y2,y3,(rs.mono t6.cB).append (.cons rp .nil),by simp;omega,rfl,hlt,ei⟩
 . left;have hdr:ds.drop i=[]:=by rw[List.drop_eq_nil_iff];omega
   rw[hdr,turns]at ei;cases ei;refine⟨s2 (by omega),?_⟩;obtain⟨l1,l2⟩:=bC.less (m:=ρ1.length) rfl w.gs (by simp) si;have hst:σi.take ρ1.length=σ:=by rw[hl1,hm];exact hσ
   rw[hst]at l1;have rr:cz K Fi ρ2 σi Hi (ρ1++List.replicate n .bK) (σ++List.replicate n none) H1 (.ref Da) (.own xs):=⟨Da,ys,rfl,hD,hF,rs,hO,.inr R0⟩;have rr2:=l2 _ _ rr;rw[hst]at rr2;obtain⟨z1,z2⟩:=w.fin _ _ _ _ l1;exact k _ Fi Hi z1 (z2 _ _ rr2)
theorem yS{K:PySem.W.Frag}{F H:Hp}{ρ:List Sl}{σ:L2.St}{iv:Option Nat}{f:Ev}{is:List Nat}{one:Bool}{test:List Sl->Res Bool}{el:Ev}{g:TG}{Q:VK}{r:R}{ρ':List Sl}{m:Nat}(hm:σ.length=m)(hgo:qO K m is one g)(g0:GS K F ρ σ H)(e:((srcOf iv f ρ).bind fun ds ρ₁=>if ds.length<=lim then(turns is one test el ds [] (ρ₁++List.replicate n .bK)).bind fun xs ρ₂=>Res.ok (R.own xs) (bh ρ iv (ρ₂.take ρ₁.length))else .stuck)=.ok r ρ')(k:∀v F' H',bC K F ρ σ H F' ρ' σ H'->cz K F' ρ' σ H' ρ σ H v r->Q v H'):yG n (tIt K iv f) g (JS K test) (Cz K el) σ H Q:=by
 obtain⟨ds,ρ1,e1,e⟩:=ao e;split at e;.rename_i hlim;obtain⟨xs,ρ2,e2,e⟩:=ao e;cases e;exact Ex hm hgo (fun R h=>⟨F,ρ,ds,ρ1,g0,e1,h⟩) hlim e2 k
 .cases e
theorem fO{g:TG}{is:List Nat}{one:Bool}{t:Option P}(hc:X.calm=true)(ok:eZ X scope N' n)(hi:SI X c tg iter ps)(hg:∀cl C s₀ H₀ ex,PG (uh X scope N' cl C s₀ H₀ ex) tg g)(hgo:qO X.K X.N.length is one g)(ht:∀cl C s₀ H₀ ex,SQ (uh X scope N' cl C s₀ H₀ ex) c ifs t)(he:∀cl C s₀ H₀ ex,SX (uh X scope N' cl C s₀ H₀ ex) c elt pe)(hs:∀x,foldedSetIterable iter X.env x=pure x:=by intro _;rfl):SX X c (.ListComp elt [⟨tg,iter,ifs,0⟩] scope pos) (.comp ps n is one t pe):=by refine⟨N6 (Gp (tt:=JS X.K (pK c t)) (te:=Cz X.K (HH.ev c pe)) hc ok hi hg ht (fun cl C s₀ H₀ ex=>(he cl C s₀ H₀ ex).ev) hs) ?_,fun i h=>by cases h⟩;rintro σ H Q hl⟨F,ρ,r,ρ',g0,e,k⟩;rw[HH.ev]at e;exact yS hl hgo g0 e k
theorem Hg{i:Nat}{x:Str}{pos' spos:Pos}{nn:Nat}{g:TG}{is:List Nat}{one:Bool}{t:Option P}(hc:X.calm=true)(hN:X.N.Nodup)(hx0:X.N[i]?=some x)(hx:Loc X.env.scope x)(ok:eZ X scope N' n)(hi:SI X c tg iter ps)(hg:∀cl C s₀ H₀ ex,PG (uh X scope N' cl C s₀ H₀ ex) tg g)(hgo:qO X.K X.N.length is one g)(ht:∀cl C s₀ H₀ ex,SQ (uh X scope N' cl C s₀ H₀ ex) c ifs t)(he:∀cl C s₀ H₀ ex,SX (uh X scope N' cl C s₀ H₀ ex) c elt pe)(hsw:swapsWith (.ListComp elt [⟨tg,iter,ifs,0⟩] scope pos) (some (.Name x pos')) spos.line X.env=pure true:=by rfl)(hs:∀x,foldedSetIterable iter X.env x=pure x:=by intro _;rfl)(hf:X.fn x=true\/X.env.scope.names.lookup x=some .local:=by first|exact .inl rfl|exact .inr rfl|assumption):SS X c nn (.Assign [.Name x pos'] (.ListComp elt [⟨tg,iter,ifs,0⟩] scope pos) spos) (.asg i (.comp ps n is one t pe)):=by refine Pk (Gg (tt:=JS X.K (pK c t)) (te:=Cz X.K (HH.ev c pe)) hc hN hx0 hx ok hi hg ht (fun cl C s₀ H₀ ex=>(he cl C s₀ H₀ ex).ev) hsw hs hf) ?_;rintro D σ H hl⟨F,ρ,fl,ρ',g0,e,k⟩;rw[ex]at e;obtain⟨r,ρ1,e1,e⟩:=ao e;obtain⟨ρ2,ρ3,e2,e⟩:=ao e;cases e;have zz:=aJ e2;clear e2;obtain⟨e2,e3⟩:=zz;rw[HH.ev]at e1;exact yS hl hgo g0 e1 fun v F1 H1 s1 rr=>k F1 _ H1 (s1.put rr e2)
end
end HH
end
section
namespace HH
open PySem L2 PySem.Spec PyProof.Rows
section
variable{X:Cx}{c:Call}{n:Nat}{e a b d:Expr}{p pa pb pd:P}{pos:Pos}{es:List Expr}{ps:List P}
noncomputable def Z4:D->String|.non=>"NoneType"|.bl _=>"bool"|.int _=>"int"|.str _=>"str"|.tup _=>"tuple"|.lst _=>"list"|.cV _=>"dict"|.dv _ _=>"dict"
noncomputable def v8:Ty->String|.none=>"NoneType"|.bool=>"bool"|.int=>"int"|.str=>"str"|.tuple=>"tuple"|.list=>"list"
theorem J2(K:PySem.W.Frag)(t:Ty)(d:D):PySem.W.kitOne K (.type (Z4 d)) (.type (v8 t))=some (bU t d):=by cases t<;>cases d<;>rfl
theorem yK(K:PySem.W.Frag)(d:D):∀ts:List Ty,PySem.W.kitAny K (.type (Z4 d)) (ts.map fun t=>Value.type (v8 t))=some (ts.any fun t=>bU t d)|[]=>rfl|t::ts=>by rw[List.map_cons,PySem.W.kitAny,J2,List.any_cons];cases bU t d with|true=>rfl|false=>rw[Bool.false_or];exact yK K d ts
theorem J5{pins:List (Addr×Obj)}{σ:L2.St}{H F:Hp}{s:Shared}{x:V}{u:Value}{dt:D}(I:L2.Inv X pins σ H s)(sm:aF F H)(px:bW X.K F H x dt)(rx:RelV x u):(∃Hq,PySem.W.KitX X.K u (.type (Z4 dt)) Hq/\Hq s.heap)/\u≠.builtin "__main__.__loader__#opaque":=by cases dt with|non=>rw[px.non]at rx;cases rx;exact⟨⟨_,PySem.W.kitx_none,trivial⟩,nofun⟩|bl y=>rw[px.bl]at rx;cases rx;exact⟨⟨_,PySem.W.kitx_bool,trivial⟩,nofun⟩|int i=>rw[px.int]at rx;obtain⟨t,rfl⟩:=rx;exact⟨⟨_,PySem.W.kitx_int,trivial⟩,nofun⟩|str y=>rw[px.str]at rx;obtain⟨t,rfl⟩:=rx;exact⟨⟨_,PySem.W.kitx_str,trivial⟩,nofun⟩|tup ds=>obtain⟨q,xs,rfl,hq,_⟩:=px.tup sm;cases rx;obtain⟨its,_,⟨o,h1,h2,_⟩,_⟩:=I.tuple hq;exact⟨⟨_,PySem.W.kitx_tuple,⟨o,h1,h2⟩⟩,nofun⟩|lst ds=>obtain⟨q,xs,rfl,hq,_⟩:=px.lst sm;cases rx;obtain⟨its,_,pl,_⟩:=I.list hq;obtain⟨o,h1,h2,_⟩:=pl.isList;exact⟨⟨_,PySem.W.kitx_list,⟨o,h1,h2⟩⟩,nofun⟩|cV m=>obtain⟨q,_,rfl,hq⟩:=px.cV sm;cases rx;obtain⟨o,h1,h2⟩:=Az I hq;exact⟨⟨_,PySem.W.kitx_dict,⟨o,h1,h2⟩⟩,nofun⟩|dv ks ds=>obtain⟨q,_,vs,rfl,hq,_⟩:=px.dv sm;cases rx;obtain⟨o,h1,h2⟩:=DR I hq;exact⟨⟨_,PySem.W.kitx_dict,⟨o,h1,h2⟩⟩,nofun⟩
theorem Nm(t:Ty):di X (.builtin "isinstance") (fun xs H Q=>∃x F dt,xs=[x,.ty (v8 t)]/\aF F H/\bW X.K F H x dt/\Q (.bl (bU t dt)) H):=by rintro pins s σ H xs us Q I r⟨x,F,dt,hx,sm,px,q⟩;subst hx;obtain⟨u,w',rfl,rx,rt⟩:=r.two;cases(show w'=Value.type (v8 t)from rt);obtain⟨⟨Hq,Z,hz⟩,hne⟩:=J5 I sm px rx;exact PySem.W.kia_one Z I.Fv hz (J2 _ t dt) hne fun tk=>⟨.bl _,H,I.tok tk,rfl,q⟩
theorem yq:∀{ts:List Ty}{its:List Value},Vals (ts.map fun t=>V.ty (v8 t)) its->its=ts.map fun t=>Value.type (v8 t)|[],_,h=>h.zero|t::ts,_,.cons r1 r2=>by rw[List.map_cons,<-yq r2,show _=_ from r1]
theorem Jg(ts:List Ty):di X (.builtin "isinstance") (fun xs H Q=>∃x F dt q,xs=[x,.ref q]/\H q=some (.tup (ts.map fun t=>V.ty (v8 t)))/\aF F H/\bW X.K F H x dt/\Q (.bl (ts.any fun t=>bU t dt)) H):=by rintro pins s σ H xs us Q I r⟨x,F,dt,q,hx,hq,sm,px,k⟩;subst hx;obtain⟨u,w',rfl,rx,rt⟩:=r.two;cases(show w'=Value.ref q from rt);obtain⟨⟨Hq,Z,hz⟩,hne⟩:=J5 I sm px rx;obtain⟨_,its,rv,⟨⟨cls,dd,data,sl⟩,ho,hc,n,hd⟩⟩:=(show bZ X.prog X.w H s.heap q (.tup _)from I.hok q _ hq);simp only at hc hd;subst hc hd;have hits:its=ts.map fun t=>Value.type (v8 t):=yq rv;subst hits;exact PySem.W.kia_tup Z I.Fv hz ho (yK _ dt ts) hne fun tk=>⟨.bl _,H,I.tok tk,rfl,k⟩
theorem j9:bootBuiltins "isinstance"=some (.builtin "isinstance"):=by decide+kernel
theorem jP{x y:Str}{p' p2:Pos}(t:Ty)(hx:x="isinstance")(hg:Gl X x)(hm:X.mg x=none)(ha:SX X c a pa)(hgy:Gl X y)(hmy:X.mg y=none)(hy:bootBuiltins y=some (.type (v8 t)))(hny:y≠"__name__":=by decide)(hdy:(y==("__debug__":Str))=false:=by decide)(hs:starEach [a,.Name y p2] X.env=(false,eval a X.env)::starEach [.Name y p2] X.env:=by rfl):SX X c (.Call (.Name x p') [a,.Name y p2] [] pos) (.inst [t] pa):=by subst hx;obtain⟨ta,h1,h2⟩:=ha.cN;refine⟨dm (cW (Nm t) hg hm j9 (aW h1 (aW (sW (v:=.ty (v8 t)) hgy hmy hy rfl hny hdy) cQ) hs) (he:=hs)) ?_,fun i h=>by cases h⟩;rintro σ H Q⟨F,ρ,r,ρ',g,e,k⟩;rw[HH.ev]at e;obtain⟨dt,ρ1,e1,e⟩:=ao e;cases e;refine h2 g e1 fun v F' H' s pv=>⟨v,F',dt,rfl,s.gs.sub,pv,k _ F' H' s ?_⟩;show Rep X.K F' _ _;rw[List.any_cons,List.any_nil,Bool.or_false];exact fK _
noncomputable def HQ(X:Cx)(ts:List Ty)(es:List Expr):Prop:=PA X es (fun _ H Q=>Q (ts.map fun t=>V.ty (v8 t)) H)
theorem yO:HQ X [] []:=kj cQ fun _ _ _ h=>h
theorem kO{y:Str}{p2:Pos}{ts:List Ty}(t:Ty)(hgy:Gl X y)(hmy:X.mg y=none)(hy:bootBuiltins y=some (.type (v8 t)))(h:HQ X ts es)(hny:y≠"__name__":=by decide)(hdy:(y==("__debug__":Str))=false:=by decide)(hs:starEach (.Name y p2::es) X.env=(false,eval (.Name y p2) X.env)::starEach es X.env:=by rfl):HQ X (t::ts) (.Name y p2::es):=kj (aW (sW (v:=.ty (v8 t)) hgy hmy hy rfl hny hdy) h hs) fun _ _ _ h=>h
theorem vD{x:Str}{p' p2:Pos}{k2}{ts:List Ty}(hx:x="isinstance")(hg:Gl X x)(hm:X.mg x=none)(ha:SX X c a pa)(ht:HQ X ts es)(hz:ts.length<=sizeLine:=by decide)(hs:starEach [a,.Tuple es k2 p2] X.env=(false,eval a X.env)::starEach [.Tuple es k2 p2] X.env:=by rfl):SX X c (.Call (.Name x p') [a,.Tuple es k2 p2] [] pos) (.inst ts pa):=by
 subst hx;obtain⟨ta,h1,h2⟩:=ha.cN;refine⟨dm (cW (Jg ts) hg hm j9 (aW h1 (aW (wX ht) cQ) hs) (he:=hs)) ?_,fun i h=>by cases h⟩;rintro σ H Q⟨F,ρ,r,ρ',g,e,k⟩;rw[HH.ev]at e;obtain⟨dt,ρ1,e1,e⟩:=ao e;cases e;refine h2 g e1 fun v F' H' s pv=>⟨by rw[List.length_map];exact hz,fun q hq=>?_⟩;have fq:F' q=none:=by cases z:F' q with|none=>rfl|some o=>rw[s.gs.sub q o z]at hq;cases hq
 have sm:aF H' (upd H' q (.tup (ts.map fun t=>V.ty (v8 t)))):=aF.cL hq;have ext:Ext F' H' F' (upd H' q (.tup (ts.map fun t=>V.ty (v8 t)))):=⟨sm,.refl _,s.gs.sub.trans sm,fun _ x y=>absurd x y⟩;refine⟨v,F',dt,q,rfl,aR,s.gs.sub.trans sm,pv.mono (.refl _) (fun a xs _ z=>sm a _ z),k _ F' _ (s.trans (ext.stp s.gs)) (show Rep X.K F' _ _ from fK _)⟩
inductive rBn(K:PySem.W.Frag)(f:List D->Option R)(xs:List V)(H:Hp)(Q:VK):Prop where|mk(F:Hp)(ds:List D)(r:R)(sm:aF F H)(rs:aB K F xs ds)(he:f ds=some r)(k:∀v F' H',Ext F H F' H'->cA K F' H' H v r->Q v H')
theorem Vp{E:Expr}{f:List D->Option R}{q:P}(hp:∀{t},PA X es t->PE X E (Xc (rBn X.K f) t))(ha:SA X c es ps)(hq:∀ρ,HH.ev c q ρ=(evs c ps ρ).bind fun ds ρ=>lift (f ds) ρ)(hv:isVar q=none):SX X c E q:=by refine⟨dm (hp ha.1) ?_,fun i h=>by rw[hv]at h;cases h⟩;rintro σ H Q⟨F,ρ,r,ρ',g,e,k⟩;rw[hq]at e;obtain⟨ds,ρ1,e1,e2⟩:=ao e;have zz:=aJ e2;clear e2;obtain⟨e2,e3⟩:=zz;subst e3;exact⟨F,ρ,ds,ρ1,g,e1,fun vs F' H' s rs=>⟨F',ds,r,s.gs.sub,rs,e2,fun w F2 H2 x rn=>k w F2 H2 (s.trans (x.stp s.gs)) (.later s (rn.p7 s.gs))⟩⟩
theorem Vd{K:PySem.W.Frag}{F:Hp}{xs:List V}{i j:Int}(h:aB K F xs [.int i,.int j]):xs=[.int i,.int j]:=by obtain⟨v,r,rfl,h1,h2⟩:=h.bG;obtain⟨u,r2,rfl,h3,h4⟩:=h2.bG;rw[Rep]at h1 h3;rw[h1,h3,h4.dI]
theorem inv2{f:W7}{g:Int->Int->Int}{ds:List D}{r:R}(h0:blt f []=none)(h1:∀a,blt f [a]=none)(h3:∀a b c l,blt f (a::b::c::l)=none)(hn:∀a b,cT a=false->blt f [a,b]=none)(hm:∀i b,cT b=false->blt f [.int i,b]=none)(hi:∀i j,blt f [.int i,.int j]=some (.val (.int (g i j))))(he:blt f ds=some r):∃i j,ds=[.int i,.int j]/\r=.val (.int (g i j)):=by
 rcases ds with _|⟨a,_|⟨b,_|⟨c,l⟩⟩⟩;.rw[h0]at he;cases he
 .rw[h1]at he;cases he
 . by_cases ha:cT a=true
   . obtain⟨i,rfl⟩:∃i,a=.int i:=by cases a<;>first|exact⟨_,rfl⟩|cases ha
     by_cases hb:cT b=true
     . obtain⟨j,rfl⟩:∃j,b=.int j:=by cases b<;>first|exact⟨_,rfl⟩|cases hb
       rw[hi]at he;cases he;exact⟨i,j,rfl,rfl⟩
     .rw[hm i b (by simpa using hb)]at he;cases he
   .rw[hn a b (by simpa using ha)]at he;cases he
 .rw[h3]at he;cases he
theorem Lr(hc:X.calm=true):di X (.builtin "min") (rBn X.K (blt .min2)):=by rintro pins s σ H xs us Q I r⟨F,ds,r',sm,rs,he,k⟩;obtain⟨i,j,rfl,rfl⟩:=inv2 (g:=fun i j=>if j<i then j else i) rfl (fun a=>by cases a<;>rfl) (fun a b c l=>by cases a<;>first|rfl|(cases b<;>rfl)) (fun a b h=>by cases a<;>first|rfl|cases h) (fun i b h=>by cases b<;>first|rfl|cases h) (fun _ _=>rfl) he;rw[Vd rs]at r;exact Ah hc pins s σ H _ us Q I r ⟨_,_,rfl,cA.dN sm (dg _) k⟩
theorem boot_min:bootBuiltins "min"=some (.builtin "min"):=by decide+kernel
theorem yH{x:Str}{p':Pos}(hx:x="min")(hc:X.calm=true)(hg:Gl X x)(hm:X.mg x=none)(ha:SA X c [a,b] [pa,pb])(hs:starEach [a,b] X.env=(false,eval a X.env)::starEach [b] X.env:=by rfl)(hpl:(backTo pos (starEach [b] X.env)).any (·.1)=false:=by rfl):SX X c (.Call (.Name x p') [a,b] [] pos) (.blt .min2 [pa,pb]):=by subst hx;exact Vp (fun h=>cW (Lr hc) hg hm boot_min h (he:=hs) (hpl:=hpl)) ha (fun ρ=>by rw[HH.ev];intro a h;cases h) rfl
end
end HH
end
section
namespace HH
open PySem L2 PySem.Spec PyProof.Rows
section
variable{X:Cx}{c:Call}{n:Nat}{e a b d:Expr}{p pa pb pd:P}{pos:Pos}{es:List Expr}{ps:List P}
theorem HX{K:PySem.W.Frag}{F H:Hp}{ρ:List Sl}{σ:L2.St}{i:Nat}{ds:List D}(g:GS K F ρ σ H)(h:Cv ρ i=some ds):∃a xs,σ[i]?=some (some (V.ref a))/\dB K H a xs:=by
 unfold Cv at h;split at h;.rename_i q;cases h;obtain⟨v,h1,h2⟩:=g.pk q;obtain⟨a,xs,rfl,h3,_⟩:=h2.lst g.sub;exact⟨a,xs,h1,h3⟩
 .cases h
theorem m8{x:Str}{k:Nat}{px tpos:Pos}(hN:X.N[k]?=some x)(hv:Fq X.env.scope x)(hi:SX X c b pb)(he:SX X c e p)(ha:∀ v,assign (.Subscript (.Name x px) b tpos) X.env v=(do
  let ov<-holding [v] (eval (.Name x px) X.env)let iv<-holding [v,ov] (eval b X.env)standAt tpos
  holding [v,ov,iv] (setItem ov iv v)release [v,ov,iv] []):=by intro _;rfl)(hs:swapsWithSole [.Subscript (.Name x px) b tpos] e pos.line X.env=pure false:=by rfl)(hw:swappedStores [.Subscript (.Name x px) b tpos] e X.env=pure none:=by rfl)(h1:(assignEach [.Subscript (.Name x px) b tpos] X.env).map (·.2)=[assign (.Subscript (.Name x px) b tpos) X.env]:=by rfl)(hd:(x==("__debug__":Str))=false:=by decide)(hcd:(x==("__classdict__":Str))=false:=by decide):SS X c n (.Assign [.Subscript (.Name x px) b tpos] e pos) (.Am k pb p):=by
 obtain⟨ti,hi1,hi2⟩:=hi.cN;refine dZ (BZ he.ev (Ld (lM hN hv hd hcd) hi1 set_list ha) hs hw h1) ?_;rintro D σ H⟨F,ρ,fl,ρ',g,e,kk⟩;rw[ex]at e;obtain⟨r,ρ1,e1,e⟩:=ao e;obtain⟨x0,ρ1',e0,e⟩:=ao e;have zz:=aJ e0;clear e0;obtain⟨e0,Jx⟩:=zz;subst Jx;obtain⟨dk,ρ2,e2,e⟩:=ao e;refine⟨F,ρ,r,ρ1,g,e1,fun v F1 H1 s1 rr=>?_⟩;obtain⟨F2,s2,_,rp⟩:=s1.fH rr;obtain⟨o,ho,_⟩:=s2.gs.pk e0;refine⟨o,ho,hi2 s2.gs e2 fun vi F3 H3 s3 pi=>?_⟩;split at e
 . rename_i bb ds kk' q;split at e;.rename_i j hj;cases e;obtain⟨ad,xs,q1,q2,q3,q4⟩:=s3.gs.qe k _ ds q rfl;rw[ho]at q1;cases q1;refine⟨ad,xs,kk',j,rfl,pi.int,q2,by rw[q4.length];exact hj,?_⟩;exact kk F3 σ _ ((s2.trans s3).trans (s3.gs.mut q ho (q4.set (rp.mono s3.cB) j)))
   .cases e
 .cases e
theorem cD{x:Str}{k:Nat}{px apos cpos:Pos}(hN:X.N[k]?=some x)(hv:Fq X.env.scope x)(he:SX X c e p)(hline:(apos.endLine==cpos.line)=true:=by rfl)(hs:starEach [e] X.env=(false,eval e X.env)::starEach [] X.env:=by rfl)(hbase:attributeBase (.Name x px) "append" X.env (eval (.Name x px) X.env)=eval (.Name x px) X.env:=by rfl)(hfew:((backTo cpos (starEach [e] X.env)).all (fun x=>!x.1)&&(backToKw cpos (keywordEach [] X.env)).all (fun x=>x.1.isSome)&&decide ([e].length+([]:List Keyword).length+(if([]:List Keyword).isEmpty then 0 else 1)<30))=true:=by rfl)(hsw:swapsWith (.Call (.Attribute (.Name x px) "append" apos) [e] [] cpos) none pos.line X.env=pure false:=by rfl)(hd:(x==("__debug__":Str))=false:=by decide)(hcd:(x==("__classdict__":Str))=false:=by decide):SS X c n (.Expr (.Call (.Attribute (.Name x px) "append" apos) [e] [] cpos) pos) (.app k p):=by
 refine dZ (HD (Ve PySem.F.plainAttrs_list PySem.F.slot_list_append PySem.F.type_list_append qw (lM hN hv hd hcd) (aW he.ev cQ hs) hbase hfew hline hs) hsw) ?_;rintro D σ H⟨F,ρ,fl,ρ',g,e,kk⟩;rw[ex]at e;obtain⟨d0,ρ0,e0,e⟩:=ao e;have zz:=aJ e0;clear e0;obtain⟨e0,Jx⟩:=zz;subst Jx;obtain⟨r,ρ1,e1,e⟩:=ao e;obtain⟨a,xs,h1,h2⟩:=HX g e0;refine⟨.ref a,h1,.inl ⟨rfl,xs,h2⟩,F,ρ,r,ρ1,g,e1,fun v F1 H1 s1 rr=>?_⟩;obtain⟨F2,s2,_,rp⟩:=s1.fH rr;split at e
 . rename_i bb ds q;split at e;.rename_i hlt;cases e;obtain⟨ad,ys,q1,q2,q3,q4⟩:=s2.gs.qe k _ ds q rfl;rw[h1]at q1;cases q1;exact⟨_,ys,v,rfl,rfl,q2,by rw[q4.length];exact hlt,kk F2 σ _ (s2.trans (s2.gs.mut q h1 (q4.append (.cons rp .nil))))⟩
   .cases e
 .cases e
theorem Nj{i j:Nat}{x y:Str}{px py pt:Pos}{kt k2 Qd}(hc:X.calm=true)(hN:X.N.Nodup)(hi:X.N[i]?=some x)(hj:X.N[j]?=some y)(hij:i≠j)(hx:X.env.scope.names.lookup x=some .local)(hy:X.env.scope.names.lookup y=some .local)(ha:SX X c a pa)(hb:SX X c b pb)(hw:swappedStores [.Tuple [.Name x px,.Name y py] kt pt] (.Tuple [a,b] k2 Qd) X.env=pure (some [x,y]):=by rfl)(hs:swapsWithSole [.Tuple [.Name x px,.Name y py] kt pt] (.Tuple [a,b] k2 Qd) pos.line X.env=pure false:=by rfl)(h1:starEach [a,b] X.env=(false,eval a X.env)::starEach [b] X.env:=by rfl)(h2:starEach [b] X.env=(false,eval b X.env)::starEach [] X.env:=by rfl):SS X c n (.Assign [.Tuple [.Name x px,.Name y py] kt pt] (.Tuple [a,b] k2 Qd) pos) (.par i j pa pb):=by refine dZ (L2.K5 hc hN hi hj hij hx hy (aW ha.ev (aW hb.ev cQ h2) h1) hw hs) ?_;rintro D σ H⟨F,ρ,fl,ρ',g,e,k⟩;rw[ex]at e;obtain⟨r,ρ1,e1,e⟩:=ao e;obtain⟨r2,ρ2,e2,e⟩:=ao e;obtain⟨ρ3,ρ4,e3,e⟩:=ao e;cases e;have zz:=aJ e3;clear e3;obtain⟨e3,e4⟩:=zz;obtain⟨ρ5,e5,e6⟩:=dJ e3;refine⟨F,ρ,r,ρ1,g,e1,fun v F1 H1 s1 rr=>?_⟩;obtain⟨F2,s2,_,rp⟩:=s1.fH rr;refine⟨F2,ρ1,r2,ρ2,s2.gs,e2,fun u F3 H3 s3 rr3=>?_⟩;obtain⟨F4,s4,_,rp4⟩:=s3.fH rr3;refine⟨v,u,rfl,?_⟩;have t4:=s2.trans s4;have t5:=t4.put (r:=.val r.d) (v:=v) (rp.mono s4.cB) e5;exact k F4 _ H3 (t5.put (r:=.val r2.d) (v:=u) rp4 e6)
theorem Di{ds:List D}{bs:List Bool}(h:ds.mapM vp=some bs):ds=bs.map D.bl:=by induction ds generalizing bs with|nil=>simp at h;subst h;rfl|cons d ds ih=>rw[List.mapM_cons]at h;cases hd:vp d with|none=>rw[hd]at h;cases h|some k=>rw[hd]at h;cases hr:ds.mapM vp with|none=>rw[hr]at h;cases h|some r=>rw[hr]at h;cases h;rw[List.map_cons,<-ih hr,oM hd]
theorem yJ{K:PySem.W.Frag}{F:Hp}:∀{bs:List Bool}{xs:List V},aB K F xs (bs.map D.bl)->xs=bs.map V.bl|[],_,h=>h.dI|k::bs,_,h=>by obtain⟨v,r,rfl,h1,h2⟩:=h.bG;rw[Rep]at h1;rw[h1,yJ h2];rfl
theorem yr:∀{bs:List Bool}{us:List Value},Vals (bs.map V.bl) us->us=bs.map Value.bool|[],_,h=>h.zero|k::bs,_,.cons r t=>by rw[List.map_cons,<-yr t,show _=_ from r]
theorem G3{id:String}{f:List Bool->Bool}(hc:X.calm=true)(rule:∀{x:Value}{Q:Value->Shared->Prop}{s:Shared},wpAny (model X.prog X.w) X.A.in1 (pyIter x) (fun it s₂=>∃ I fp wr n P St tr,it=.ref I/\Walks X.prog X.w X.A.in1 I fp wr n P St/\St 0 s₂.heap/\TruthOf X.prog X.w X.A.in1 P tr/\∀h' tk,(∀b o,b∉wr->s₂.heap.get? b=some o->h'.get? b=some o)->Q (.bool (f ((List.range n).map tr))) {s₂ with heap:=h',toks:=tk}) X.xe s->wpAny (model X.prog X.w) X.A (call (.builtin id) [x]) Q X.xe s):di X (.builtin id) (fun xs H Q=>∃p ys bs,xs=[.ref p]/\dB X.K H p ys/\ys=bs.map V.bl/\Q (.bl (f bs)) H):=by
 rintro pins s σ H xs us Q I r⟨p,ys,bs,hx,hq,hy,k⟩;subst hx;subst hy;obtain⟨u,rfl,rx⟩:=r.one;cases rx;obtain⟨its,rv,pl,hz⟩:=I.list hq;have hits:=yr rv;subst hits;refine rule (wpAny_pyIter_list pl.isList ?_);have hne:p≠s.heap.objs.size:=by obtain⟨o,h1,_⟩:=pl.isList;exact Nat.ne_of_lt (Heap.lt_size h1)
 refine⟨s.heap.objs.size,_,_,_,_,_,fun i=>bs.getD i false,rfl,Walks.list (prog:=X.prog) (w:=X.w) (A:=X.A.in1) (show X.A.in1.handled=none from I.ok.hd hc) s.heap.objs.size p hne (bs.map Value.bool).toArray,⟨⟨_,Heap.get?_push_size _ rfl,rfl,rfl⟩,?_⟩,?_,fun h' tk kp=>?_⟩;.obtain⟨o,h1,h2⟩:=pl.isList;exact⟨o,Heap.get?_push_of_some _ h1,h2⟩
 . intro i v s' Q' E' hP hQ;have hv:v=.bool (bs.getD i false):=by
    have hP:(bs.map Value.bool)[i]?=some v:=by simpa using hP
    rw[List.getElem?_map]at hP;obtain⟨k',e1,e2⟩:=map_some hP;rw[<-e2,List.getD_eq_getElem?_getD,e1];rfl
   subst hv;exact wpAny_truthy_bool hQ
 . have e:f ((List.range (bs.map Value.bool).toArray.size).map fun i=>bs.getD i false)=f bs:=by
    congr 1;apply List.ext_getElem;.simp
    .intro i h1 h2;simp at h1;simp[h1]
   rw[e];exact⟨.bl _,H,I.kept (fun b o z=>kp b o (by simp;exact Nat.ne_of_lt (Heap.lt_size z)) (Heap.get?_push_of_some _ z)),rfl,k⟩
theorem TF(hc:X.calm=true):di X (.builtin "all") (O8 X.K fun x=>blt .all [x]):=by rintro pins s σ H xs us Q I r⟨x,hx,F,d,r',sm,px,he,k⟩;obtain⟨bs,e1,he⟩:=map_some (show((jG d).bind fun ds=>ds.mapM vp).map _=some r' from he);subst he;obtain⟨ds,e2,e3⟩:=dJ e1;have e4:=Di e3;cases d with|lst es=>cases e2;obtain⟨p,ys,rfl,hq,rs⟩:=px.lst sm;rw[e4]at rs;refine G3 (f:=fun bs=>bs.all id) hc (fun h=>call_all_walk (wpAny_mono h (fun it s₂⟨I,fp,wr,n,P,Sx,tr,h1,h2,h3,h4,h5⟩=>⟨I,fp,wr,n,P,Sx,tr,h1,h2,h3,h4,fun h' tk kp=>?_⟩) fun _ _ z=>z)) pins s σ H xs us Q I r ⟨p,ys,bs,hx,hq,yJ rs,cA.dN sm (fK _) k⟩;have z:=h5 h' tk kp;rw[List.all_map]at z;exact z|_=>cases e2
theorem boot_all:bootBuiltins "all"=some (.builtin "all"):=by decide+kernel
theorem Mj{x:Str}{p':Pos}(hx:x="all")(hc:X.calm=true)(hg:Gl X x)(hm:X.mg x=none)(ha:SX X c a pa)(hs:starEach [a] X.env=(false,eval a X.env)::starEach [] X.env:=by rfl):SX X c (.Call (.Name x p') [a] [] pos) (.blt .all [pa]):=by subst hx;exact qx (fun h=>cW (TF hc) hg hm boot_all h (he:=hs)) ha (fun ρ=>by rw[HH.ev]) rfl hs
end
end HH
end
section
namespace HH
open PySem L2 PySem.Spec PyProof.Rows
section
variable{K:PySem.W.Frag}
theorem iM:∀{xs ys:List D},xs.length≠ys.length->fG xs ys=false|[],[],h=>absurd rfl h|[],_::_,_=>by simp[fG]|_::_,[],_=>by simp[fG]|x::xs,y::ys,h=>by rw[fG,iM (xs:=xs) (ys:=ys) (by simpa using h),Bool.and_false]
theorem eY:∀{xs ys:List D},xs.length=ys.length->fG xs ys=(List.range xs.length).all fun j=>bw (xs.getD j .non) (ys.getD j .non)|[],[],_=>by rw[fG];rfl|[],_::_,h=>by simp at h|_::_,[],h=>by simp at h|x::xs,y::ys,h=>by rw[fG,eY (xs:=xs) (ys:=ys) (by simpa using h),List.length_cons,List.range_succ_eq_map,List.all_cons,List.all_map];rfl
mutual
theorem uQ:∀d:D,bw d d=true|.non=>by rw[bw]|.bl _=>by rw[bw];simp|.int _=>by rw[bw];simp|.str _=>by rw[bw];simp|.tup ds=>by rw[bw];exact ji ds|.lst ds=>by rw[bw];exact ji ds|.cV _=>by rw[bw];simp|.dv ks ds=>by show(decide (ks=ks)&&fG ds ds)=true;rw[ji ds];simp
theorem ji:∀ds:List D,fG ds ds=true|[]=>by rw[fG]|d::ds=>by rw[fG,uQ d,ji ds];rfl
end
theorem dM{F:Hp}{d e:D}{v:V}(hf:flat d=true)(h1:Rep K F v d)(h2:Rep K F v e):d=e:=by cases d with
 |tup _=>cases hf|lst _=>cases hf|cV _=>cases hf|dv _ _=>cases hf|non=>rw[Rep]at h1;subst h1;cases e with|non=>rfl|tup _=>rw[Rep]at h2;obtain⟨_,_,q,_⟩:=h2;cases q|lst _=>rw[Rep]at h2;obtain⟨_,_,q,_⟩:=h2;cases q|cV _=>rw[Rep]at h2;obtain⟨_,_,q,_⟩:=h2;cases q|dv _ _=>rw[Rep]at h2;obtain⟨_,_,_,q,_⟩:=h2;cases q|_=>rw[Rep]at h2;cases h2
 |bl k=>rw[Rep]at h1;subst h1;cases e with|bl _=>rw[Rep]at h2;cases h2;rfl|tup _=>rw[Rep]at h2;obtain⟨_,_,q,_⟩:=h2;cases q|lst _=>rw[Rep]at h2;obtain⟨_,_,q,_⟩:=h2;cases q|cV _=>rw[Rep]at h2;obtain⟨_,_,q,_⟩:=h2;cases q|dv _ _=>rw[Rep]at h2;obtain⟨_,_,_,q,_⟩:=h2;cases q|_=>rw[Rep]at h2;cases h2
 |int k=>rw[Rep]at h1;subst h1;cases e with|int _=>rw[Rep]at h2;cases h2;rfl|tup _=>rw[Rep]at h2;obtain⟨_,_,q,_⟩:=h2;cases q|lst _=>rw[Rep]at h2;obtain⟨_,_,q,_⟩:=h2;cases q|cV _=>rw[Rep]at h2;obtain⟨_,_,q,_⟩:=h2;cases q|dv _ _=>rw[Rep]at h2;obtain⟨_,_,_,q,_⟩:=h2;cases q|_=>rw[Rep]at h2;cases h2
 |str k=>rw[Rep]at h1;subst h1;cases e with|str _=>rw[Rep]at h2;cases h2;rfl|tup _=>rw[Rep]at h2;obtain⟨_,_,q,_⟩:=h2;cases q|lst _=>rw[Rep]at h2;obtain⟨_,_,q,_⟩:=h2;cases q|cV _=>rw[Rep]at h2;obtain⟨_,_,q,_⟩:=h2;cases q|dv _ _=>rw[Rep]at h2;obtain⟨_,_,_,q,_⟩:=h2;cases q|_=>rw[Rep]at h2;cases h2
theorem Hd{X:Cx}{pins:List (Addr×Obj)}{σ:L2.St}{H F:Hp}{s:Shared}(I:L2.Inv X pins σ H s)(sm:aF F H):∀n:Nat,(∀d:D,cj n d=true->∀(v:V)(e:D),Rep X.K F v d->Rep X.K F v e->d=e):=by
 have tl:∀{a:Addr}{xs ys:List V},gn X.K F a xs->dB X.K F a ys->False:=fun{a xs ys}h1 h2=>by obtain⟨_,_,⟨o,q1,q2,_⟩,_⟩:=I.tuple (aF.gk sm h1);obtain⟨_,_,pl,_⟩:=I.list (sm.seq h2);obtain⟨o',q3,q4,_⟩:=pl.isList;rw[q1]at q3;cases q3;rw[q2]at q4;exact absurd q4 (by decide)
 have dd:∀{a:Addr}{kvs:Dc},Rep X.K F (.ref a) (.cV kvs)->∃o,s.heap.get? a=some o/\o.cls=.type "dict":=fun{a kvs}h=>by rw[Rep]at h;obtain⟨a',_,q,hq⟩:=h;cases q;exact Az I (sm _ _ hq)
 have td:∀{a:Addr}{xs:List V}{kvs:Dc},gn X.K F a xs->Rep X.K F (.ref a) (.cV kvs)->False:=fun{a xs kvs}h1 h2=>by obtain⟨_,_,⟨o,q1,q2,_⟩,_⟩:=I.tuple (aF.gk sm h1);obtain⟨o',q3,q4⟩:=dd h2;rw[q1]at q3;cases q3;rw[q2]at q4;exact absurd q4 (by decide)
 have ld:∀{a:Addr}{xs:List V}{kvs:Dc},dB X.K F a xs->Rep X.K F (.ref a) (.cV kvs)->False:=fun{a xs kvs}h1 h2=>by obtain⟨_,_,pl,_⟩:=I.list (sm.seq h1);obtain⟨o,q1,q2,_⟩:=pl.isList;obtain⟨o',q3,q4⟩:=dd h2;rw[q1]at q3;cases q3;rw[q2]at q4;exact absurd q4 (by decide)
 have dd2:∀{a:Addr}{ks:List Int}{es:List D},Rep X.K F (.ref a) (.dv ks es)->∃o,s.heap.get? a=some o/\o.cls=.type "dict":=fun{a ks es}h=>by rw[Rep]at h;obtain⟨a',_,_,q,hq,_⟩:=h;cases q;exact DR I (sm _ _ hq)
 have td2:∀{a:Addr}{xs:List V}{ks:List Int}{es:List D},gn X.K F a xs->Rep X.K F (.ref a) (.dv ks es)->False:=fun{a xs ks es}h1 h2=>by obtain⟨_,_,⟨o,q1,q2,_⟩,_⟩:=I.tuple (aF.gk sm h1);obtain⟨o',q3,q4⟩:=dd2 h2;rw[q1]at q3;cases q3;rw[q2]at q4;exact absurd q4 (by decide)
 have ld2:∀{a:Addr}{xs:List V}{ks:List Int}{es:List D},dB X.K F a xs->Rep X.K F (.ref a) (.dv ks es)->False:=fun{a xs ks es}h1 h2=>by obtain⟨_,_,pl,_⟩:=I.list (sm.seq h1);obtain⟨o,q1,q2,_⟩:=pl.isList;obtain⟨o',q3,q4⟩:=dd2 h2;rw[q1]at q3;cases q3;rw[q2]at q4;exact absurd q4 (by decide)
 intro n;induction n with
 |zero=>intro d hd v e h1 h2;cases d with|tup _=>simp[cj]at hd|lst _=>simp[cj]at hd|cV _=>simp[cj]at hd|dv _ _=>simp[cj]at hd|non=>exact dM rfl h1 h2|bl k=>exact dM rfl h1 h2|int k=>exact dM rfl h1 h2|str k=>exact dM rfl h1 h2
 |succ n ih=>
   have all:∀{xs:List V}{ds es:List D},ds.all (cj n)=true->aB X.K F xs ds->aB X.K F xs es->ds=es:=fun{xs ds}=>by induction ds generalizing xs with|nil=>intro es _ h1 h2;rw[h1.dI]at h2;have:=h2.length;exact(List.eq_nil_of_length_eq_zero this.symm).symm|cons d ds ih2=>intro es ha h1 h2;rw[List.all_cons,Bool.and_eq_true]at ha;obtain⟨v,r,rfl,q1,q2⟩:=h1.bG;cases es with|nil=>cases h2.dI|cons e es=>obtain⟨v',r',q0,q3,q4⟩:=h2.bG;cases q0;rw[ih d ha.1 v e q1 q3,ih2 ha.2 q2 q4]
   intro d hd v e h1 h2;cases d with
   |cV _=>simp[cj]at hd|dv _ _=>simp[cj]at hd|tup ds=>
     have ha:ds.all (cj n)=true:=by simpa[cj]using hd
     rw[Rep]at h1;obtain⟨a,xs,rfl,z1,z2⟩:=h1;cases e with|tup es=>rw[Rep]at h2;obtain⟨a',ys,q,w1,w2⟩:=h2;cases q;have:=I.jj (aF.gk sm z1) (aF.gk sm w1);subst this;rw[all ha z2 w2]|lst es=>rw[Rep]at h2;obtain⟨a',ys,q,w1,w2⟩:=h2;cases q;exact(tl z1 w1).elim|cV _=>exact(td z1 h2).elim|dv _ _=>exact(td2 z1 h2).elim|_=>rw[Rep]at h2;cases h2
   |lst ds=>
     have ha:ds.all (cj n)=true:=by simpa[cj]using hd
     rw[Rep]at h1;obtain⟨a,xs,rfl,z1,z2⟩:=h1;cases e with|lst es=>rw[Rep]at h2;obtain⟨a',ys,q,w1,w2⟩:=h2;cases q;have:=I.jZ (sm.seq z1) (sm.seq w1);subst this;rw[all ha z2 w2]|tup es=>rw[Rep]at h2;obtain⟨a',ys,q,w1,w2⟩:=h2;cases q;exact(tl w1 z1).elim|cV _=>exact(ld z1 h2).elim|dv _ _=>exact(ld2 z1 h2).elim|_=>rw[Rep]at h2;cases h2
   |non=>exact dM rfl h1 h2|bl k=>exact dM rfl h1 h2|int k=>exact dM rfl h1 h2|str k=>exact dM rfl h1 h2
theorem yh{A:Around}{s:Shared}{F:Hp}{d e:D}{v u:V}{v' u':Value}(hd:flat d=true)(he:flat e=true)(h1:Rep K F v d)(h2:Rep K F u e)(r1:RelV v v')(r2:RelV u u'):SeqAt.EqAt A s v' u' (bw d e):=by cases d with
 |tup _=>cases hd|lst _=>cases hd|cV _=>cases hd|dv _ _=>cases hd|non=>rw[Rep]at h1;subst h1;cases(show v'=.none from r1);cases e with|tup _=>cases he|lst _=>cases he|cV _=>cases he|dv _ _=>cases he|non=>rw[Rep]at h2;subst h2;cases(show u'=.none from r2);rw[bw];exact SeqAt.EqAt.same _|bl _=>rw[Rep]at h2;subst h2;cases(show u'=.bool _ from r2);simp only[bw];exact SeqAt.EqAt.none_bool _|int _=>rw[Rep]at h2;subst h2;obtain⟨t,rfl⟩:=r2;simp only[bw];exact SeqAt.EqAt.none_int _ _|str _=>rw[Rep]at h2;subst h2;obtain⟨t,rfl⟩:=r2;simp only[bw];exact SeqAt.EqAt.none_str _ _
 |bl _=>rw[Rep]at h1;subst h1;cases(show v'=.bool _ from r1);cases e with|tup _=>cases he|lst _=>cases he|cV _=>cases he|dv _ _=>cases he|non=>rw[Rep]at h2;subst h2;cases(show u'=.none from r2);simp only[bw];exact SeqAt.EqAt.bool_none _|bl _=>rw[Rep]at h2;subst h2;cases(show u'=.bool _ from r2);simp only[bw];exact SeqAt.EqAt.bool_bool _ _|int _=>rw[Rep]at h2;subst h2;obtain⟨t,rfl⟩:=r2;simp only[bw];exact SeqAt.EqAt.bool_int _ _ _|str _=>rw[Rep]at h2;subst h2;obtain⟨t,rfl⟩:=r2;simp only[bw];exact SeqAt.EqAt.bool_str _ _ _
 |int _=>rw[Rep]at h1;subst h1;obtain⟨t0,rfl⟩:=r1;cases e with|tup _=>cases he|lst _=>cases he|cV _=>cases he|dv _ _=>cases he|non=>rw[Rep]at h2;subst h2;cases(show u'=.none from r2);simp only[bw];exact SeqAt.EqAt.int_none _ _|bl _=>rw[Rep]at h2;subst h2;cases(show u'=.bool _ from r2);simp only[bw];exact SeqAt.EqAt.int_bool _ _ _|int _=>rw[Rep]at h2;subst h2;obtain⟨t,rfl⟩:=r2;simp only[bw];exact SeqAt.EqAt.int_int _ _ _ _|str _=>rw[Rep]at h2;subst h2;obtain⟨t,rfl⟩:=r2;simp only[bw];exact SeqAt.EqAt.int_str _ _ _ _
 |str _=>rw[Rep]at h1;subst h1;obtain⟨t0,rfl⟩:=r1;cases e with|tup _=>cases he|lst _=>cases he|cV _=>cases he|dv _ _=>cases he|non=>rw[Rep]at h2;subst h2;cases(show u'=.none from r2);simp only[bw];exact SeqAt.EqAt.str_none _ _|bl _=>rw[Rep]at h2;subst h2;cases(show u'=.bool _ from r2);simp only[bw];exact SeqAt.EqAt.str_bool _ _ _|int _=>rw[Rep]at h2;subst h2;obtain⟨t,rfl⟩:=r2;simp only[bw];exact SeqAt.EqAt.str_int _ _ _ _|str _=>rw[Rep]at h2;subst h2;obtain⟨t,rfl⟩:=r2;simp only[bw];exact SeqAt.EqAt.str_str _ _ _ _
theorem jW{A:Around}{s:Shared}{F:Hp}{ds:List D}{e:D}{u:V}{u':Value}{a:Addr}{its:Array Value}(ht:s.heap.IsTuple a its)(hu:A.units<cLine)(he:flat e=true)(h2:Rep K F u e)(r2:RelV u u'):SeqAt.EqAt A s (.ref a) u' (bw (.tup ds) e)/\SeqAt.EqAt A s u' (.ref a) (bw e (.tup ds)):=by cases e with|tup _=>cases he|lst _=>cases he|cV _=>cases he|dv _ _=>cases he|non=>rw[Rep]at h2;subst h2;cases(show u'=.none from r2);simp only[bw];exact⟨SeqAt.EqAt.tuple_none ht hu,SeqAt.EqAt.none_tuple ht hu⟩|bl _=>rw[Rep]at h2;subst h2;cases(show u'=.bool _ from r2);simp only[bw];exact⟨SeqAt.EqAt.tuple_bool _ ht hu,SeqAt.EqAt.bool_tuple _ ht hu⟩|int _=>rw[Rep]at h2;subst h2;obtain⟨t,rfl⟩:=r2;simp only[bw];exact⟨SeqAt.EqAt.tuple_int _ _ ht hu,SeqAt.EqAt.int_tuple _ _ ht hu⟩|str _=>rw[Rep]at h2;subst h2;obtain⟨t,rfl⟩:=r2;simp only[bw];exact⟨SeqAt.EqAt.tuple_str _ _ ht hu,SeqAt.EqAt.str_tuple _ _ ht hu⟩
theorem lu{A:Around}{s:Shared}{F:Hp}{ds:List D}{e:D}{u:V}{u':Value}{a:Addr}{its:Array Value}(ht:s.heap.IsList a its)(hu:A.units<cLine)(he:flat e=true)(h2:Rep K F u e)(r2:RelV u u'):SeqAt.EqAt A s (.ref a) u' (bw (.lst ds) e)/\SeqAt.EqAt A s u' (.ref a) (bw e (.lst ds)):=by cases e with|tup _=>cases he|lst _=>cases he|cV _=>cases he|dv _ _=>cases he|non=>rw[Rep]at h2;subst h2;cases(show u'=.none from r2);simp only[bw];exact⟨SeqAt.EqAt.list_none ht hu,SeqAt.EqAt.none_list ht hu⟩|bl _=>rw[Rep]at h2;subst h2;cases(show u'=.bool _ from r2);simp only[bw];exact⟨SeqAt.EqAt.list_bool _ ht hu,SeqAt.EqAt.bool_list _ ht hu⟩|int _=>rw[Rep]at h2;subst h2;obtain⟨t,rfl⟩:=r2;simp only[bw];exact⟨SeqAt.EqAt.list_int _ _ ht hu,SeqAt.EqAt.int_list _ _ ht hu⟩|str _=>rw[Rep]at h2;subst h2;obtain⟨t,rfl⟩:=r2;simp only[bw];exact⟨SeqAt.EqAt.list_str _ _ ht hu,SeqAt.EqAt.str_list _ _ ht hu⟩
theorem uv{n:Nat}{d:D}(h:cj n d=true)(h0:n=0):flat d=true:=by subst h0;cases d<;>first|rfl|simp[cj]at h
theorem aah{X:Cx}{pins:List (Addr×Obj)}{σ:L2.St}{H F:Hp}{s:Shared}(I:L2.Inv X pins σ H s)(sm:aF F H):∀(n:Nat)(A:Around),A.units+n<cLine->∀(d e:D),cj n d=true->cj n e=true->∀(v u:V)(v' u':Value),Rep X.K F v d->Rep X.K F u e->RelV v v'->RelV u u'->SeqAt.EqAt A s v' u' (bw d e):=by intro n;induction n with|zero=>intro A hu d e hd he v u v' u' h1 h2 r1 r2;exact yh (uv hd rfl) (uv he rfl) h1 h2 r1 r2|succ n ih=>
   intro A hu d e hd he v u v' u' h1 h2 r1 r2;have hu0:A.units<cLine:=by omega
   have hu1:A.in1.units+n<cLine:=by show A.units+1+n<cLine;omega--items by place
   have at_:∀{xs ys:List V}{us ws:List Value}{ds es:List D}{j:Nat}(k1:j<us.toArray.size)(k2:j<ws.toArray.size),ds.all (cj n)=true->es.all (cj n)=true->Vals xs us->Vals ys ws->aB X.K F xs ds->aB X.K F ys es->SeqAt.EqAt A.in1 s us.toArray[j] ws.toArray[j] (bw (ds.getD j .non) (es.getD j .non)):=fun{xs ys us ws ds es j}k1 k2 a1 a2 v1 v2 p1 p2=>by
    have k1:j<us.length:=by simpa using k1
    have k2:j<ws.length:=by simpa using k2
    have l1:j<ds.length:=by rw[<-p1.length,v1.length];exact k1
    have l2:j<es.length:=by rw[<-p2.length,v2.length];exact k2
    obtain⟨x,g1,g2⟩:=p1.get (show ds[j]?=some ds[j]by simp[l1]);obtain⟨y,g3,g4⟩:=p2.get (show es[j]?=some es[j]by simp[l2]);obtain⟨x',g5,g6⟩:=v1.get g1;obtain⟨y',g7,g8⟩:=v2.get g3;have e1:us.toArray[j]=x':=by have:=(List.getElem?_eq_some_iff.mp g5).2;simpa using this
    have e2:ws.toArray[j]=y':=by have:=(List.getElem?_eq_some_iff.mp g7).2;simpa using this
    have e3:ds.getD j .non=ds[j]:=by simp[List.getD,l1]
    have e4:es.getD j .non=es[j]:=by simp[List.getD,l2]
    rw[e1,e2,e3,e4];exact ih A.in1 hu1 _ _ (List.all_eq_true.mp a1 _ (List.getElem_mem l1)) (List.all_eq_true.mp a2 _ (List.getElem_mem l2)) x y x' y' g2 g4 g6 g8--the same object
   have same:∀{a:Addr},v=.ref a->u=.ref a->SeqAt.EqAt A s v' u' (bw d e):=fun{a}q1 q2=>by subst q1;subst q2;have:=Hd I sm (n+1) d hd _ e h1 h2;subst this;rw[uQ];cases r1;cases r2;exact SeqAt.EqAt.same _
   cases d with
   |cV _=>simp[cj]at hd|dv _ _=>simp[cj]at hd|tup ds=>
     have ha:ds.all (cj n)=true:=by simpa[cj]using hd
     have h1':=h1;rw[Rep]at h1';obtain⟨a,xs,rfl,z1,z2⟩:=h1';cases r1;obtain⟨us,v1,p1,_⟩:=I.tuple (aF.gk sm z1)
     cases e with|cV _=>simp[cj]at he|dv _ _=>simp[cj]at he|tup es=>
       have hb:es.all (cj n)=true:=by simpa[cj]using he
       have h2':=h2;rw[Rep]at h2';obtain⟨b,ys,rfl,w1,w2⟩:=h2';by_cases hab:a=b;.subst hab;exact same rfl rfl
       . cases r2;obtain⟨ws,v2,p2,_⟩:=I.tuple (aF.gk sm w1);refine .of_refs hab ?_;have z:=SeqAt.RcAt.tuples (A:=A) (e:=fun j=>bw (ds.getD j .non) (es.getD j .non)) p1 p2 hu0 fun j k1 k2=>at_ k1 k2 ha hb v1 v2 z2 w2;have l1:us.toArray.size=ds.length:=by rw[List.size_toArray,<-v1.length,z2.length]
         have l2:ws.toArray.size=es.length:=by rw[List.size_toArray,<-v2.length,w2.length]
         rw[l1,l2]at z;have e0:bw (.tup ds) (.tup es)=((List.range (min ds.length es.length)).all (fun j=>bw (ds.getD j .non) (es.getD j .non))&&ds.length==es.length):=by
          rw[bw];by_cases hl:ds.length=es.length;.rw[eY hl,hl];simp
          . rw[iM hl];have:(ds.length==es.length)=false:=by simpa using hl
            rw[this,Bool.and_false]
         rw[e0];exact z|lst es=>rw[Rep]at h2;obtain⟨b,ys,rfl,w1,w2⟩:=h2;cases r2;obtain⟨ws,v2,p2,_⟩:=I.list (sm.seq w1);simp only[bw];exact SeqAt.EqAt.tuple_list p1 p2.isList hu0|non=>exact(jW p1 hu0 rfl h2 r2).1|bl _=>exact(jW p1 hu0 rfl h2 r2).1|int _=>exact(jW p1 hu0 rfl h2 r2).1|str _=>exact(jW p1 hu0 rfl h2 r2).1
   |lst ds=>
     have ha:ds.all (cj n)=true:=by simpa[cj]using hd
     have h1':=h1;rw[Rep]at h1'
     obtain⟨a,xs,rfl,z1,z2⟩:=h1';cases r1;obtain⟨us,v1,p1,_⟩:=I.list (sm.seq z1);cases e with|cV _=>simp[cj]at he|dv _ _=>simp[cj]at he|lst es=>
       have hb:es.all (cj n)=true:=by simpa[cj]using he
       have h2':=h2;rw[Rep]at h2';obtain⟨b,ys,rfl,w1,w2⟩:=h2';by_cases hab:a=b;.subst hab;exact same rfl rfl
       . cases r2;obtain⟨ws,v2,p2,_⟩:=I.list (sm.seq w1);refine .of_refs hab ?_;have l1:us.toArray.size=ds.length:=by rw[List.size_toArray,<-v1.length,z2.length]
         have l2:ws.toArray.size=es.length:=by rw[List.size_toArray,<-v2.length,w2.length]
         rw[bw];by_cases hl:ds.length=es.length;.have z:=SeqAt.RcAt.lists (A:=A) (e:=fun j=>bw (ds.getD j .non) (es.getD j .non)) p1.isList p2.isList (by rw[l1,l2,hl]) hu0 fun j k1 k2=>at_ k1 k2 ha hb v1 v2 z2 w2;rw[l1]at z;rw[eY hl];exact z
         .rw[iM hl];exact SeqAt.RcAt.lists_lengths p1.isList p2.isList (by rw[l1,l2];simpa using hl) hu0|tup es=>rw[Rep]at h2;obtain⟨b,ys,rfl,w1,w2⟩:=h2;cases r2;obtain⟨ws,v2,p2,_⟩:=I.tuple (aF.gk sm w1);simp only[bw];exact SeqAt.EqAt.list_tuple p1.isList p2 hu0|non=>exact(lu p1.isList hu0 rfl h2 r2).1|bl _=>exact(lu p1.isList hu0 rfl h2 r2).1|int _=>exact(lu p1.isList hu0 rfl h2 r2).1|str _=>exact(lu p1.isList hu0 rfl h2 r2).1
   |non|bl _|int _|str _=>cases e with|cV _=>simp[cj]at he|dv _ _=>simp[cj]at he|tup es=>rw[Rep]at h2;obtain⟨b,ys,rfl,w1,w2⟩:=h2;cases r2;obtain⟨ws,v2,p2,_⟩:=I.tuple (aF.gk sm w1);exact(jW p2 hu0 rfl h1 r1).2|lst es=>rw[Rep]at h2;obtain⟨b,ys,rfl,w1,w2⟩:=h2;cases r2;obtain⟨ws,v2,p2,_⟩:=I.list (sm.seq w1);exact(lu p2.isList hu0 rfl h1 r1).2|_=>exact yh rfl rfl h1 h2 r1 r2
end
end HH
end
section
namespace HH
open PySem L2 PySem.Spec PyProof.Rows
section
variable{X:Cx}{pins:List (Addr×Obj)}{σ:L2.St}{H F:Hp}{s:Shared}{A:Around}
noncomputable abbrev RC(A:Around)(s:Shared)(v u:Value)(k:Bool):Prop:=SeqAt.RcAt A s v u k/\SeqAt.RcNeAt A s v u (!k)
inductive Top(X:Cx)(F H:Hp)(s:Shared):Value->D->Prop where|non:Top X F H s .none .non|bl(b:Bool):Top X F H s (.bool b) (.bl b)|int(i:Int)(t:Tok):Top X F H s (.int i t) (.int i)|str(x:Str)(t:Tok):Top X F H s (.str x t) (.str x)|tup{a:Addr}{us:List Value}{xs:List V}{ds:List D}(ht:s.heap.IsTuple a us.toArray)(hv:Vals xs us)(hr:aB X.K F xs ds):Top X F H s (.ref a) (.tup ds)|lst{a:Addr}{us:List Value}{xs:List V}{ds:List D}(ht:s.heap.IsList a us.toArray)(hv:Vals xs us)(hr:aB X.K F xs ds):Top X F H s (.ref a) (.lst ds)
theorem rP(I:L2.Inv X pins σ H s)(sm:aF F H){v:V}{v':Value}{d:D}(hd:cj 8 d=true)(h:bW X.K F H v d)(r:RelV v v'):Top X F H s v' d:=by cases d with|cV _=>simp[cj]at hd|dv _ _=>simp[cj]at hd|non=>rw[h.non]at r;cases r;exact .non|bl b=>rw[h.bl]at r;cases r;exact .bl b|int i=>rw[h.int]at r;obtain⟨t,rfl⟩:=r;exact .int i t|str x=>rw[h.str]at r;obtain⟨t,rfl⟩:=r;exact .str x t|tup ds=>obtain⟨a,xs,rfl,h1,h2,_⟩:=h.tup sm;cases r;obtain⟨us,v1,p1,_⟩:=I.tuple h1;exact .tup p1 v1 h2|lst ds=>obtain⟨a,xs,rfl,h1,h2⟩:=h.lst sm;cases r;obtain⟨us,v1,p1,_⟩:=I.list h1;exact .lst p1.isList v1 h2
theorem Tu(I:L2.Inv X pins σ H s)(sm:aF F H){n:Nat}(hu:A.units+(n+1)<cLine){d e:D}(hd:cj (n+1) d=true)(he:cj (n+1) e=true){v' u':Value}(h1:Top X F H s v' d)(h2:Top X F H s u' e):RC A s v' u' (bw d e):=by
 have hu0:A.units<cLine:=by omega
 have hu1:A.in1.units+n<cLine:=by show A.units+1+n<cLine;omega
 have at_:∀{xs ys:List V}{us ws:List Value}{ds es:List D}{j:Nat}(k1:j<us.toArray.size)(k2:j<ws.toArray.size),ds.all (cj n)=true->es.all (cj n)=true->Vals xs us->Vals ys ws->aB X.K F xs ds->aB X.K F ys es->SeqAt.EqAt A.in1 s us.toArray[j] ws.toArray[j] (bw (ds.getD j .non) (es.getD j .non)):=fun{xs ys us ws ds es j}k1 k2 a1 a2 v1 v2 p1 p2=>by
  have k1:j<us.length:=by simpa using k1
  have k2:j<ws.length:=by simpa using k2
  have l1:j<ds.length:=by rw[<-p1.length,v1.length];exact k1
  have l2:j<es.length:=by rw[<-p2.length,v2.length];exact k2
  obtain⟨x,g1,g2⟩:=p1.get (show ds[j]?=some ds[j]by simp[l1]);obtain⟨y,g3,g4⟩:=p2.get (show es[j]?=some es[j]by simp[l2]);obtain⟨x',g5,g6⟩:=v1.get g1;obtain⟨y',g7,g8⟩:=v2.get g3;have e1:us.toArray[j]=x':=by have:=(List.getElem?_eq_some_iff.mp g5).2;simpa using this
  have e2:ws.toArray[j]=y':=by have:=(List.getElem?_eq_some_iff.mp g7).2;simpa using this
  have e3:ds.getD j .non=ds[j]:=by simp[List.getD,l1]
  have e4:es.getD j .non=es[j]:=by simp[List.getD,l2]
  rw[e1,e2,e3,e4];exact aah I sm n A.in1 hu1 _ _ (List.all_eq_true.mp a1 _ (List.getElem_mem l1)) (List.all_eq_true.mp a2 _ (List.getElem_mem l2)) x y x' y' g2 g4 g6 g8
 cases h1 with
 |non=>cases h2 with|non=>simp only[bw];exact⟨SeqAt.RcAt.none_none,SeqAt.RcNeAt.none_none⟩|bl b=>simp only[bw];exact⟨SeqAt.RcAt.none_bool _,SeqAt.RcNeAt.none_bool _⟩|int i t=>simp only[bw];exact⟨SeqAt.RcAt.none_int _ _,SeqAt.RcNeAt.none_int _ _⟩|str i t=>simp only[bw];exact⟨SeqAt.RcAt.none_str _ _,SeqAt.RcNeAt.none_str _ _⟩|tup ht _ _=>simp only[bw];exact⟨SeqAt.RcAt.none_tuple ht hu0,SeqAt.RcNeAt.none_tuple ht hu0⟩|lst ht _ _=>simp only[bw];exact⟨SeqAt.RcAt.none_list ht hu0,SeqAt.RcNeAt.none_list ht hu0⟩
 |bl b0=>cases h2 with|non=>simp only[bw];exact⟨SeqAt.RcAt.bool_none _,SeqAt.RcNeAt.bool_none _⟩|bl b=>simp only[bw];exact⟨SeqAt.RcAt.bool_bool _ _,SeqAt.RcNeAt.bool_bool _ _⟩|int i t=>simp only[bw];exact⟨SeqAt.RcAt.bool_int _ _ _,SeqAt.RcNeAt.bool_int _ _ _⟩|str i t=>simp only[bw];exact⟨SeqAt.RcAt.bool_str _ _ _,SeqAt.RcNeAt.bool_str _ _ _⟩|tup ht _ _=>simp only[bw];exact⟨SeqAt.RcAt.bool_tuple _ ht hu0,SeqAt.RcNeAt.bool_tuple _ ht hu0⟩|lst ht _ _=>simp only[bw];exact⟨SeqAt.RcAt.bool_list _ ht hu0,SeqAt.RcNeAt.bool_list _ ht hu0⟩
 |int i0 t0=>cases h2 with|non=>simp only[bw];exact⟨SeqAt.RcAt.int_none _ _,SeqAt.RcNeAt.int_none _ _⟩|bl b=>simp only[bw];exact⟨SeqAt.RcAt.int_bool _ _ _,SeqAt.RcNeAt.int_bool _ _ _⟩|int i t=>simp only[bw];exact⟨SeqAt.RcAt.int_int _ _ _ _,SeqAt.RcNeAt.int_int _ _ _ _⟩|str i t=>simp only[bw];exact⟨SeqAt.RcAt.int_str _ _ _ _,SeqAt.RcNeAt.int_str _ _ _ _⟩|tup ht _ _=>simp only[bw];exact⟨SeqAt.RcAt.int_tuple _ _ ht hu0,SeqAt.RcNeAt.int_tuple _ _ ht hu0⟩|lst ht _ _=>simp only[bw];exact⟨SeqAt.RcAt.int_list _ _ ht hu0,SeqAt.RcNeAt.int_list _ _ ht hu0⟩
 |str i0 t0=>cases h2 with|non=>simp only[bw];exact⟨SeqAt.RcAt.str_none _ _,SeqAt.RcNeAt.str_none _ _⟩|bl b=>simp only[bw];exact⟨SeqAt.RcAt.str_bool _ _ _,SeqAt.RcNeAt.str_bool _ _ _⟩|int i t=>simp only[bw];exact⟨SeqAt.RcAt.str_int _ _ _ _,SeqAt.RcNeAt.str_int _ _ _ _⟩|str i t=>simp only[bw];exact⟨SeqAt.RcAt.str_str _ _ _ _,SeqAt.RcNeAt.str_str _ _ _ _⟩|tup ht _ _=>simp only[bw];exact⟨SeqAt.RcAt.str_tuple _ _ ht hu0,SeqAt.RcNeAt.str_tuple _ _ ht hu0⟩|lst ht _ _=>simp only[bw];exact⟨SeqAt.RcAt.str_list _ _ ht hu0,SeqAt.RcNeAt.str_list _ _ ht hu0⟩
 |@tup a us xs ds ht hv hr=>
   have ha:ds.all (cj n)=true:=by simpa[cj]using hd
   cases h2 with|non=>simp only[bw];exact⟨SeqAt.RcAt.tuple_none ht hu0,SeqAt.RcNeAt.tuple_none ht hu0⟩|bl b=>simp only[bw];exact⟨SeqAt.RcAt.tuple_bool _ ht hu0,SeqAt.RcNeAt.tuple_bool _ ht hu0⟩|int i t=>simp only[bw];exact⟨SeqAt.RcAt.tuple_int _ _ ht hu0,SeqAt.RcNeAt.tuple_int _ _ ht hu0⟩|str i t=>simp only[bw];exact⟨SeqAt.RcAt.tuple_str _ _ ht hu0,SeqAt.RcNeAt.tuple_str _ _ ht hu0⟩|lst vO _ _=>simp only[bw];exact⟨SeqAt.RcAt.tuple_list ht vO hu0,SeqAt.RcNeAt.tuple_list ht vO hu0⟩|@tup b ws ys es vO hv2 hr2=>
     have hb:es.all (cj n)=true:=by simpa[cj]using he
     have l1:us.toArray.size=ds.length:=by rw[List.size_toArray,<-hv.length,hr.length]
     have l2:ws.toArray.size=es.length:=by rw[List.size_toArray,<-hv2.length,hr2.length]
     have z1:=SeqAt.RcAt.tuples (A:=A) (e:=fun j=>bw (ds.getD j .non) (es.getD j .non)) ht vO hu0 fun j k1 k2=>at_ k1 k2 ha hb hv hv2 hr hr2;have z2:=SeqAt.RcNeAt.tuples (A:=A) (e:=fun j=>bw (ds.getD j .non) (es.getD j .non)) ht vO hu0 fun j k1 k2=>at_ k1 k2 ha hb hv hv2 hr hr2;rw[l1,l2]at z1 z2;have e0:bw (.tup ds) (.tup es)=((List.range (min ds.length es.length)).all (fun j=>bw (ds.getD j .non) (es.getD j .non))&&ds.length==es.length):=by
      rw[bw];by_cases hl:ds.length=es.length;.rw[eY hl,hl];simp
      . rw[iM hl];have:(ds.length==es.length)=false:=by simpa using hl
        rw[this,Bool.and_false]
     rw[e0];exact⟨z1,z2⟩
 |@lst a us xs ds ht hv hr=>
   have ha:ds.all (cj n)=true:=by simpa[cj]using hd
   cases h2 with|non=>simp only[bw];exact⟨SeqAt.RcAt.list_none ht hu0,SeqAt.RcNeAt.list_none ht hu0⟩|bl b=>simp only[bw];exact⟨SeqAt.RcAt.list_bool _ ht hu0,SeqAt.RcNeAt.list_bool _ ht hu0⟩|int i t=>simp only[bw];exact⟨SeqAt.RcAt.list_int _ _ ht hu0,SeqAt.RcNeAt.list_int _ _ ht hu0⟩|str i t=>simp only[bw];exact⟨SeqAt.RcAt.list_str _ _ ht hu0,SeqAt.RcNeAt.list_str _ _ ht hu0⟩|tup vO _ _=>simp only[bw];exact⟨SeqAt.RcAt.list_tuple ht vO hu0,SeqAt.RcNeAt.list_tuple ht vO hu0⟩|@lst b ws ys es vO hv2 hr2=>
     have hb:es.all (cj n)=true:=by simpa[cj]using he
     have l1:us.toArray.size=ds.length:=by rw[List.size_toArray,<-hv.length,hr.length]
     have l2:ws.toArray.size=es.length:=by rw[List.size_toArray,<-hv2.length,hr2.length]
     rw[show bw (.lst ds) (.lst es)=fG ds es by rw[bw]];by_cases hl:ds.length=es.length;.have z1:=SeqAt.RcAt.lists (A:=A) (e:=fun j=>bw (ds.getD j .non) (es.getD j .non)) ht vO (by rw[l1,l2,hl]) hu0 fun j k1 k2=>at_ k1 k2 ha hb hv hv2 hr hr2;have z2:=SeqAt.RcNeAt.lists (A:=A) (e:=fun j=>bw (ds.getD j .non) (es.getD j .non)) ht vO (by rw[l1,l2,hl]) hu0 fun j k1 k2=>at_ k1 k2 ha hb hv hv2 hr hr2;rw[l1]at z1 z2;rw[eY hl];exact⟨z1,z2⟩
     .rw[iM hl];exact⟨SeqAt.RcAt.lists_lengths ht vO (by rw[l1,l2];simpa using hl) hu0,SeqAt.RcNeAt.lists_lengths ht vO (by rw[l1,l2];simpa using hl) hu0⟩
theorem fU(hu:X.A.units+8<cLine):dR X (compareOp .Eq) (rD X.K (mG .eq)):=by rintro pins s σ H x y v u Q I rx ry⟨F,d,e,r,sm,px,py,he,k⟩;obtain⟨t,e1,e2⟩:=map_some (show(Cg d e).map _=some r from he);subst e2;unfold Cg at e1;obtain⟨hd,e1⟩:=bB e1;rw[Bool.and_eq_true]at hd;subst e1;exact(Tu I sm (n:=7) hu hd.1 hd.2 (rP I sm hd.1 px rx) (rP I sm hd.2 py ry)).1 _ _ _ _ ⟨.bl _,H,I,rfl,cA.dN sm (fK _) k⟩
theorem jA(hu:X.A.units+8<cLine):dR X (compareOp .NotEq) (rD X.K (mG .ne)):=by rintro pins s σ H x y v u Q I rx ry⟨F,d,e,r,sm,px,py,he,k⟩;obtain⟨t,e1,e2⟩:=map_some (show(oA d e).map _=some r from he);subst e2;unfold oA at e1;obtain⟨hd,e1⟩:=bB e1;rw[Bool.and_eq_true]at hd;subst e1;exact(Tu I sm (n:=7) hu hd.1 hd.2 (rP I sm hd.1 px rx) (rP I sm hd.2 py ry)).2 _ _ _ _ ⟨.bl _,H,I,rfl,cA.dN sm (fK _) k⟩
end
end HH
end
section
namespace HH
open PySem L2 PySem.Spec PyProof.Rows
section
variable{Pg:Program}{w:World}{K:PySem.W.Frag}{mg:Str->Option Value}{base:Heap}
theorem eV{x qual:Str}{st:Stmt}{f:Addr}{fd:FuncData}{N ps:List Str}{k n:Nat}{c:Call}{d:Fd}(Fu:lK K x qual st f fd)(S:bz N ps (aC st))(h1:d.np=ps.length)(h2:d.nn=N.length)(hb:∀(cdv:Value)(A:Around)(outer:List Env)(s:Shared)(H:Hp)(E:XK),gM k (A.deeper (envOfC qual (aC st) s.heap.objs.size f cdv))->SB (lz mV Pg w K mg base N qual (aC st) f cdv A outer s H E).Tj c n (cO st) d.body):cJ Pg w K mg base mV (k+1) f fd ps (nW K ps.length (fun args=>enter c n d args)):=by
 refine Fu.ok S (fun vs H Q E h=>h.1) fun cdv A outer s H vs Q E hr h=>?_;obtain⟨hl,F,args,r,args',g,e,q⟩:=h;refine⟨_,hb cdv A outer s H E hr,?_⟩;replace e:enter c n d args=.ok r args':=e;unfold enter at e;split at e
 . rename_i hc;obtain⟨c1,c2⟩:=hc;have hg:=g.more (n:=d.nn-d.np) (τ:=List.replicate (N.length-vs.length) none) (by simp[h1,h2,hl]);have hla:args.length=d.np:=c1;have go:∀{fl:Fl}{ρ':List Sl},dw c n d.body (args++List.replicate (d.nn-d.np) .bK)=.ok fl ρ'->(∀F' σ' H',bC K F (args++List.replicate (d.nn-d.np) .bK) (start N vs) H F' ρ' σ' H'->(match fl with|.next=>Q .non H'|.brk=>False|.cont=>False|.ret r=>∀v,cz K F' ρ' σ' H' (args++List.replicate (d.nn-d.np) .bK) (start N vs) H v r->Q v H'))->Su K (dw c n d.body) {nx:=fun _ H'=>Q .non H',rt:=Q} (start N vs) H:=fun{fl ρ'}z k=>⟨F,_,fl,ρ',hg,z,fun F' σ' H' s=>by have:=k F' σ' H' s;cases fl<;>exact this⟩;split at e;.rename_i ρ' z;cases e;refine go z fun F' σ' H' s=>?_;obtain⟨z1,z2⟩:=bC.less (m:=d.np) hla.symm g (by simp[h1,h2,hl]) s;exact q .non F' _ H' z1 (show Rep K F' _ _ from M5)
   .rename_i r' ρ' z;cases e;refine go z fun F' σ' H' s v rr=>?_;obtain⟨z1,z2⟩:=bC.less (m:=d.np) hla.symm g (by simp[h1,h2,hl]) s;exact q v F' _ H' z1 (z2 v r rr)
   .split at e<;>cases e
 .cases e
structure aL(Pg:Program)(w:World)(K:PySem.W.Frag)(mg:Str->Option Value)(base:Heap)(k:Nat)(c:Call)(i:Nat)(x:Str)(np:Nat):Prop where ex:∃fa fd qs,cJ Pg w K mg base mV k fa fd qs (nW K qs.length (c i))/\mg x=some (.ref fa)/\PySem.W.keepIn K (.ref fa)=true/\Binds K fd qs []/\qs.length=np
end
section
variable{X:Cx}{c:Call}{n k:Nat}{e a b:Expr}{es:List Expr}{p pa pb:P}{ps:List P}{pos:Pos}
theorem sv(i:Nat){x:Str}(hN:X.N[i]?=some x:=by rfl)(hv:Fq X.env.scope x:=by first|exact Or.inl rfl|exact Or.inr (Or.inl rfl)|exact Or.inr (Or.inr rfl))(hd:(x==("__debug__":Str))=false:=by rfl)(hcd:(x==("__classdict__":Str))=false:=by rfl):SX X c (.Name x pos) (.var i):=Oq hN hv hd hcd
theorem fV{i np:Nat}{x:Str}{p':Pos}(C:aL X.prog X.w X.K X.mg X.base k c i x np)(hr:gM k X.A)(ha:SG X c (e::es) ps)(hg:Gl X x:=by rfl)(hl:(e::es).length=np:=by rfl)(hdb:(x==("__debug__":Str))=false:=by rfl)(he:starEach (e::es) X.env=(false,eval e X.env)::starEach es X.env:=by rfl)(hpl:(backTo pos (starEach es X.env)).any (·.1)=false:=by rfl)(hl2:ps.length=(e::es).length:=by rfl):SX X c (.Call (.Name x p') (e::es) [] pos) (.call i ps):=by obtain⟨fa,fd,qs,h1,h2,h3,h4,h5⟩:=C.ex;exact Ia h1 hr hg h2 h3 h4 ha (hl.trans h5.symm) hdb he hpl hl2
noncomputable def JN(names outer:List (Str×NameKind))(N N':List Str)(n:Nat):Bool:=(names.all fun y=>names.lookup y.1==some y.2)&&(names.all fun y=>y.2!=.local||names.lookup y.1==some .local)&&(names.all fun y=>y.2!=.free||outer.lookup y.1==some .cell||outer.lookup y.1==some .free)&&N'.length==N.length+n&&((N.zip N').all fun p=>(p.1==p.2&&names.lookup p.2==some .free)||(names.lookup p.2!=some .local&&names.lookup p.2!=some .cell&&names.lookup p.2!=some .free))
theorem Io{scope:Scope}{N':List Str}(hk:scope.kind=.function)(h:JN scope.names X.env.scope.names X.N N' n=true):eZ X scope N' n:=by
 unfold JN at h;simp only[Bool.and_eq_true]at h;obtain⟨⟨⟨⟨h1,h2⟩,h3⟩,h4⟩,h5⟩:=h;refine⟨hk,fun y hy=>eq_of_beq (List.all_eq_true.mp h1 y hy),fun y hy e=>?_,fun y hy e=>?_,by simpa using h4,h5⟩;.have:=List.all_eq_true.mp h2 y hy;rw[e]at this;simpa using this
 . have:=List.all_eq_true.mp h3 y hy;rw[e]at this;simp only[Bool.or_eq_true]at this;rcases this with(z|z)|z;.cases z
   .exact .inl (eq_of_beq z)
   .exact .inr (eq_of_beq z)
theorem bH{A:Around}(h:gM k A):A.units+8<cLine:=by have:=h.un;omega
end
end HH
end
section
namespace PySem
open AutoSeq1(wpAny_loadPart')
section
variable{prog:Program}{w:World}{A:Around}{E:Value->Shared->Prop}{s:Shared}
theorem fM{it l:Addr}{i:Nat}{items:Array Value}{x:Value}{Q:Value->Shared->Prop}(hit:s.heap.IsTupleIter it l i)(hl:s.heap.IsTuple l items)(hx:items[i]?=some x)(hQ:∀h',h'.IsTupleIter it l (i+1)->Heap.SameBut it s.heap h'->Q x {s with heap:=h'}):wpAny (model prog w) A (Builtin.SmallTypes.nextOf (.ref it)) Q E s:=by obtain⟨o,ho,hc,hd⟩:=id hit;obtain⟨ol,hol,_,nl,hdl⟩:=hl;unfold Builtin.SmallTypes.nextOf;refine wpAny_bind (wpAny_callSpecial?_slot (name:=Str.ofString "__next__") hit.typeIs F.slot_tuple_iterator_next (wpAny_call_entry F.slot_tuple_iterator_next hit.typeIs F.entry_tuple_iterator_next ?_ (F.args_tuple_iterator_next_1 _)));show wpAny _ _ (field (.ref it) 0>>=_) _ _ s;refine wpAny_bind (wpAny_field ho hd (x:=.ref l) rfl ?_);show wpAny _ _ (if(Value.ref l==Value.none)=true then _ else _) _ _ s;rw[if_neg (show ¬((Value.ref l==Value.none)=true)from Bool.false_ne_true)];show wpAny _ _ (field (.ref it) 1>>=_) _ _ s;refine wpAny_bind (wpAny_field ho hd (x:=.int i 0) rfl ?_);show wpAny _ _ (seqItems? (.ref l)>>=_) _ _ s;refine wpAny_bind (wpAny_seqItems hol hdl ?_);simp only[Int.toNat_natCast,hx];refine wpAny_bind (wpAny_setField ho hd (by simp) (wpAny_pure ⟨x,rfl,wpAny_pure (hQ _ ?_ (Heap.SameBut.update ..))⟩));exact⟨_,Heap.get?_update_self _ ho (Obj.isFreed_of_fields (Obj.data_mapFields hd _)),(Obj.cls_mapFields ..).trans hc,by rw[Obj.data_mapFields hd];simp[rawInt]⟩
theorem dz{it l:Addr}{i:Nat}{items:Array Value}{Q:Value->Shared->Prop}(hh:A.handled=none)(hit:s.heap.IsTupleIter it l i)(hl:s.heap.IsTuple l items)(hx:items[i]?=none)(hE:∀h' e,Heap.ExtBut it s.heap h'->(∃o,h'.get? e=some o/\o.cls=.type "StopIteration")->E (.ref e) {s with heap:=h'}):wpAny (model prog w) A (Builtin.SmallTypes.nextOf (.ref it)) Q E s:=by
 obtain⟨o,ho,hc,hd⟩:=id hit;obtain⟨ol,hol,_,nl,hdl⟩:=hl;unfold Builtin.SmallTypes.nextOf;refine wpAny_bind (wpAny_callSpecial?_slot (name:=Str.ofString "__next__") hit.typeIs F.slot_tuple_iterator_next (wpAny_call_entry F.slot_tuple_iterator_next hit.typeIs F.entry_tuple_iterator_next ?_ (F.args_tuple_iterator_next_1 _)));show wpAny _ _ (field (.ref it) 0>>=_) _ _ s;refine wpAny_bind (wpAny_field ho hd (x:=.ref l) rfl ?_);show wpAny _ _ (if(Value.ref l==Value.none)=true then _ else _) _ _ s;rw[if_neg (show ¬((Value.ref l==Value.none)=true)from Bool.false_ne_true)];show wpAny _ _ (field (.ref it) 1>>=_) _ _ s;refine wpAny_bind (wpAny_field ho hd (x:=.int i 0) rfl ?_);show wpAny _ _ (seqItems? (.ref l)>>=_) _ _ s;refine wpAny_bind (wpAny_seqItems hol hdl ?_);simp only[Int.toNat_natCast,hx];refine wpAny_bind (wpAny_rule (wpAny_bind (wpAny_setField ho hd (by simp) ?_)));show wpAny _ _ (newExc (.type "StopIteration") []>>=_) _ _ _;refine wpAny_bind ?_;simp only[newExc,newTuple];refine wpAny_bind (wpAny_newObj_type ?_ (by size_fits));refine wpAny_bind (m:=firstArgMember _ _) (wpAny_of_eq (a:=Value.none) (by first|rfl|(simp only[firstArgMember];rfl)) ?_);refine wpAny_newObj_type ?_ (by size_fits);simp only[raiseNew];refine wpAny_bind (wpAny_handled ?_);first|rw[show A.in1.handled=none from hh]|rw[hh]
 refine wpAny_bind (wpAny_pure (wpAny_throw ?_));exact hE _ _ (((Heap.SameBut.update ..).extBut.push _).push _) ⟨_,Heap.get?_push_size _ rfl,rfl⟩
end
theorem iC(l:Addr)(items:Array Value)(n:Nat)(dct:Option Addr)(sl:Array (Option Value)):Meets (Builtin.«enumerate.__new__» ⟨[.type "enumerate",.ref l],[]⟩) (fun _ R s=>s.heap.get? l=some {cls:=.type "tuple",dict:=dct,data:=.seq items n,slots:=sl}/\R (.ok (.ret (.ref (s.heap.push {cls:=.type "tuple_iterator",data:=.fields #[.ref l,.int 0 0]}).objs.size))) {s with heap:=(s.heap.push {cls:=.type "tuple_iterator",data:=.fields #[.ref l,.int 0 0]}).push {cls:=.type "enumerate",data:=.fields #[.none,.bool false,.ref s.heap.objs.size,rawInt 0,.none,.none]}}):=.of_wp fun prog w A R s h=>by
  obtain⟨hp,g,d,tk,os⟩:=s;obtain⟨hl,h⟩:=h;have hsub:=sub_enumerate;have hL:Heap.IsTuple (Shared.heap ⟨hp,g,d,tk,os⟩) l items:=⟨_,hl,rfl,n,rfl⟩;wp_walk using wpAny_loadPart' hl;refine wpAny_stack_any fun st=>wpAny_pure ?_;split
  . rename_i c _ _ _ _ _;cases(c==Value.type "enumerate");.wp_walk using wpAny_loadPart' hl,wpAny_pyIter_tuple hL;exact⟨_,rfl,h⟩
    .wp_walk using wpAny_loadPart' hl,wpAny_pyIter_tuple hL;exact⟨_,rfl,h⟩
  .wp_walk using wpAny_loadPart' hl,wpAny_pyIter_tuple hL;exact⟨_,rfl,h⟩
section
variable{prog:Program}{w:World}{A:Around}{E:Value->Shared->Prop}{s:Shared}
theorem ir{l:Addr}{items:Array Value}{Q:Value->Shared->Prop}(hL:s.heap.IsTuple l items)(h:∀ h',IsEnum h' (s.heap.objs.size+1) s.heap.objs.size 0 .none->h'.IsTupleIter s.heap.objs.size l 0->h'.objs.size=s.heap.objs.size+2->(∀b o,s.heap.get? b=some o->h'.get? b=some o)->Q (.ref (s.heap.objs.size+1)) {s with heap:=h'}):wpAny (model prog w) A (call (.type "enumerate") [.ref l]) Q E s:=by
 obtain⟨⟨c,dct,dt,sl⟩,hl,hc,n,hd⟩:=hL;replace hc:c=.type "tuple":=hc;replace hd:dt=.seq items n:=hd;subst hc hd;refine callType_new F.called_enumerate (by decide) (F.typeCall_enumerate_1 _) (F.newCall_enumerate_1 _) (fun obj=>F.args_object_init_2 obj _) F.entry_enumerate_new (iC l items n dct sl) ⟨hl,?_⟩;have hz:(s.heap.push {cls:=.type "tuple_iterator",data:=.fields #[.ref l,.int 0 0]}).objs.size=s.heap.objs.size+1:=Heap.size_push ..;show _/\_;rw[hz];have he:IsEnum ((s.heap.push {cls:=.type "tuple_iterator",data:=.fields #[.ref l,.int 0 0]}).push {cls:=.type "enumerate",data:=.fields #[.none,.bool false,.ref s.heap.objs.size,rawInt 0,.none,.none]}) (s.heap.objs.size+1) s.heap.objs.size 0 .none:=by have:=Heap.get?_push_size (s.heap.push {cls:=.type "tuple_iterator",data:=.fields #[.ref l,.int 0 0]}) (o:={cls:=.type "enumerate",data:=.fields #[.none,.bool false,.ref s.heap.objs.size,rawInt 0,.none,.none]}) rfl;rw[hz]at this;exact this
 refine⟨⟨_,he,rfl⟩,h _ he ⟨_,Heap.get?_push_of_some _ (Heap.get?_push_size _ rfl),rfl,rfl⟩ (by rw[Heap.size_push,hz]) fun b o x=>Heap.get?_push_of_some _ (Heap.get?_push_of_some _ x)⟩
end
end PySem
end
section
namespace L2
open PySem PySem.Spec PyProof.Rows
section
variable{X:Cx}{pins:List (Addr×Obj)}{σ:L2.St}{H:Hp}{s:Shared}
theorem Inv.wM{ch:List Addr}{h':Heap}{o:HO}{t':Nat}(I:Inv X pins σ H s)(k:∀b u,b∉ch->s.heap.get? b=some u->h'.get? b=some u)(hl:∀b∈ch,∃u,h'.get? b=some u)(hf:∀b∈ch,lO X pins H b)(new:bZ X.prog X.w (upd H s.heap.objs.size o) h' s.heap.objs.size o):Inv X pins σ (upd H s.heap.objs.size o) {s with heap:=h',toks:=t'}:=by
 have fr:H s.heap.objs.size=none:=I.hok.fresh (Nat.le_refl _);have vR:∀b u,H b=some u->b∉ch:=fun b u e hb=>by rw[(hf b hb).1]at e;cases e
 have up:∀b u,H b=some u->upd H s.heap.objs.size o b=some u:=fun b u e=>by
  have:b≠s.heap.objs.size:=by rintro rfl;rw[fr]at e;cases e
  rw[aH this];exact e
 refine I.call (g':=s.gens) (d':=s.drawn) (ch:=ch) ⟨fun b u e n _ hx=>k b u hx e,fun b u e n _ hx=>⟨u.slots,k b u hx e⟩,fun b u e n hx=>?_,fun b u e hx=>⟨u,k b u hx e⟩,fun b xs e=>up b _ e,fun b ob u e=>up b _ e,fun b ps e=>⟨#[],by rw[up b _ e];simp⟩⟩ ?_ I.bare fun b hb=>⟨(hf b hb).2.2.2.1,(hf b hb).2.1,(hf b hb).2.2.2.2.1,(hf b hb).2.2.2.2.2⟩;.have:b≠s.heap.objs.size:=Nat.ne_of_lt (Heap.lt_size e);rw[aH this];exact n
 . intro b u e;by_cases hb:b=s.heap.objs.size;.subst hb;rw[aR]at e;cases e;exact new
   . rw[aH hb]at e;refine(I.hok b u e).stay (fun c v hc q=>k c v ?_ q) (fun c q=>up c _ q) fun c xs q=>up c _ q;rcases hc with rfl|hc;.exact vR _ _ e
     .exact vR _ _ hc
end
noncomputable def xn(K:PySem.W.Frag)(a:Addr):It:=⟨fun i H=>∃xs x,dB K H a xs/\xs[i]?=some x,fun i H x H'=>∃T v,H T=none/\x=.ref T/\H'=upd H T (.tup [.int (i:Int),v])/\∀xs,dB K H a xs->xs[i]?=some v,fun i H=>∃xs,dB K H a xs/\xs.length<=i⟩
theorem KQ{prog:Program}{w:World}{A:Around}(hh:A.handled=none)(it l:Addr)(hne:l≠it)(items:Array Value):Draws prog w A it [it,l] items.size (fun i v=>items[i]?=some v) (fun i h=>h.IsListIter it l i/\h.IsList l items)where
 live:=fun _ _ st=>let⟨o,ho,_⟩:=st.1;⟨o,ho⟩;frame:=fun _ _ _ st hk=>⟨(let⟨o,ho,r⟩:=st.1;⟨o,hk it (by simp) o ho,r⟩),(let⟨o,ho,r⟩:=st.2;⟨o,hk l (by simp) o ho,r⟩)⟩;item:=fun i s Q E hi st hQ=>by refine wpAny_nextOf_list_item st.1 st.2 (x:=items[i]) (by simp[hi]) fun h' hit' hs'=>?_;exact hQ _ h' s.toks (by simp[hi]) ⟨hit',(let⟨o,ho,r⟩:=st.2;⟨o,hs'.extBut l o hne ho,r⟩)⟩ hs'
 done:=fun s Q E st hE=>wpAny_nextOf_list_end hh st.1 st.2 (by simp) hE
theorem zX{prog:Program}{w:World}{A:Around}(hh:A.handled=none)(it l:Addr)(items:Array Value)(n:Nat)(hn:items.size<=n):Draws prog w A it [it,l] n (fun _ _=>True) (fun i h=>i=n/\h.IsListIter it l i/\h.IsList l items)where live:=fun _ _ st=>let⟨o,ho,_⟩:=st.2.1;⟨o,ho⟩;frame:=fun _ _ _ st hk=>⟨st.1,(let⟨o,ho,r⟩:=st.2.1;⟨o,hk it (by simp) o ho,r⟩),(let⟨o,ho,r⟩:=st.2.2;⟨o,hk l (by simp) o ho,r⟩)⟩;item:=fun i s Q E hi st hQ=>absurd st.1 (Nat.ne_of_lt hi);done:=fun s Q E st hE=>wpAny_nextOf_list_end hh st.2.1 st.2.2 (by simp;exact hn) hE
theorem zN{P:Program}{w:World}{K:PySem.W.Frag}{elts:List Expr}{x1}{tp:Pos}(a it e:Addr)(hei:e≠it):Turn P w K (.Tuple elts x1 tp) (xn K a) [e,it] e (fun i h=>(∃old,IsEnum h e it (i:Int) old)/\h.IsListIter it a i)where
 mem:=by simp
 obj:=fun i h st b hb=>by
  obtain⟨⟨old,h1⟩,o,h2,h3,h4⟩:=st;rcases List.mem_cons.mp hb with rfl|hb;.exact⟨_,h1,fun v z=>by cases z⟩
  . have:b=it:=by simpa using hb
    subst this;exact⟨o,h2,fun v z=>by rw[h4]at z;cases z⟩
 keep:=fun i h h' st k=>by obtain⟨⟨old,h1⟩,o,h2,h3⟩:=st;exact⟨⟨old,k e (by simp) _ h1⟩,o,k it (by simp) _ h2,h3⟩
 item:=fun X hP hw hK hc i pins s σ H E I hf st go=>by
  subst hP hw hK;obtain⟨⟨old,he⟩,hit⟩:=st;obtain⟨xs,x,hq,hx⟩:=go;obtain⟨its,rv,pl,hz⟩:=I.list hq;have hL:s.heap.IsList a its.toArray:=pl.isList;obtain⟨oa,ha,hca,_⟩:=id hL;have hea:e≠a:=by rintro rfl;rw[he]at ha;cases ha;exact absurd (show Value.type "enumerate"=Value.type _ from hca) (by decide)
  have hia:a≠it:=by rintro rfl;obtain⟨o,h2,h3,_⟩:=id hit;rw[h2]at ha;cases ha;rw[h3]at hca;exact absurd hca (by decide)
  have hlt:i<its.toArray.size:=by rw[List.size_toArray,<-rv.length];exact(List.getElem?_eq_some_iff.mp hx).1
  refine wpAny_pyNext_enum_itemD (KQ (show X.A.in1.handled=none from I.ok.hd hc) it a hia its.toArray) he ⟨hit,hL⟩ hlt hei (by simp[hei,hea]) fun y h' tk hy heo hst ht hsz kp=>?_;refine⟨_,rfl,wpAny_letOwnedTupleGo_enum heo fun h'' EY sb=>?_⟩;obtain⟨u,hu1,hu2⟩:=rv.get hx;have hyu:y=u:=by
   have hy:its[i]?=some y:=by simpa using hy
   rw[hu1]at hy;cases hy;rfl
  subst hyu;have hT:∀b∈[e,it],b≠s.heap.objs.size:=fun b hb=>by
   rcases List.mem_cons.mp hb with rfl|hb;.exact Nat.ne_of_lt (Heap.lt_size he)
   . have:b=it:=by simpa using hb
     subst this;obtain⟨o,h2,_⟩:=id hit;exact Nat.ne_of_lt (Heap.lt_size h2)
  have hTe:s.heap.objs.size≠e:=(hT e (by simp)).symm;have R1:∀b o,b∉[e,it]->s.heap.get? b=some o->h''.get? b=some o:=fun b o hb q=>by have h1:b≠e:=fun z=>hb (by simp[z]);have h2:b≠it:=fun z=>hb (by simp[z]);exact sb.extBut b o h1 (kp b o h1 h2 q)
  have vO:h''.get? s.heap.objs.size=some {cls:=.type "tuple",data:=.seq #[.int i tk,y]}:=sb.extBut _ _ hTe ht;refine⟨.ref s.heap.objs.size,upd H s.heap.objs.size (.tup [.int (i:Int),x]),?_,rfl,⟨_,x,I.fresh,rfl,rfl,fun ys hys=>?_⟩,⟨⟨_,EY⟩,?_⟩,fun b hb=>?_⟩
  . refine I.wM (ch:=[e,it]) (t':=tk+1) R1 (fun b hb=>?_) (fun b hb=>(hf b hb)) ⟨(by show 2<=sizeLine;decide),[.int i tk,y],.cons ⟨_,rfl⟩ (.cons hu2 .nil),⟨_,vO,rfl,_,rfl⟩⟩;rcases List.mem_cons.mp hb with rfl|hb;.exact⟨_,EY⟩
    . have:b=it:=by simpa using hb
      subst this;obtain⟨o,h2,_⟩:=id hst.1;exact⟨o,sb.extBut _ _ (Ne.symm hei) h2⟩
  .rw[I.jZ hys hq];exact hx
  .obtain⟨o,h2,r⟩:=hst.1;exact⟨o,sb.extBut _ _ (Ne.symm hei) h2,r⟩
  .rw[aH (hT b hb)];exact(hf b hb).1
 done:=fun X hP hw hK hc i pins s σ H E I hf st stop=>by subst hP hw hK;obtain⟨⟨old,he⟩,hit⟩:=st;obtain⟨xs,hq,hx⟩:=stop;obtain⟨its,rv,pl,hz⟩:=I.list hq;have hL:s.heap.IsList a its.toArray:=pl.isList;refine wpAny_pyNext_enum_endD (zX (show X.A.in1.handled=none from I.ok.hd hc) it a its.toArray i (by rw[List.size_toArray,<-rv.length];exact hx)) he ⟨rfl,hit,hL⟩ fun h' hs=>⟨rfl,?_⟩;have f:=hf it (by simp);exact I.turned (t':=s.toks) (fun b o hb q=>hs b o hb q) f.1 f.2.1 f.2.2.2.1 f.2.2.2.2.1 f.2.2.2.2.2
 self:=fun A i s Q E st q=>wpAny_pyIter_enum st.1.choose_spec q
noncomputable def wu(K:PySem.W.Frag)(a:Addr):It:=⟨fun i H=>∃xs x,gn K H a xs/\xs[i]?=some x,fun i H x H'=>∃T v,H T=none/\x=.ref T/\H'=upd H T (.tup [.int (i:Int),v])/\∀xs,gn K H a xs->xs[i]?=some v,fun i H=>∃xs,gn K H a xs/\xs.length<=i⟩
theorem KY{prog:Program}{w:World}{A:Around}(hh:A.handled=none)(it l:Addr)(hne:l≠it)(items:Array Value):Draws prog w A it [it,l] items.size (fun i v=>items[i]?=some v) (fun i h=>h.IsTupleIter it l i/\h.IsTuple l items)where
 live:=fun _ _ st=>let⟨o,ho,_⟩:=st.1;⟨o,ho⟩;frame:=fun _ _ _ st hk=>⟨(let⟨o,ho,r⟩:=st.1;⟨o,hk it (by simp) o ho,r⟩),(let⟨o,ho,r⟩:=st.2;⟨o,hk l (by simp) o ho,r⟩)⟩;item:=fun i s Q E hi st hQ=>by refine fM st.1 st.2 (x:=items[i]) (by simp[hi]) fun h' hit' hs'=>?_;exact hQ _ h' s.toks (by simp[hi]) ⟨hit',(let⟨o,ho,r⟩:=st.2;⟨o,hs'.extBut l o hne ho,r⟩)⟩ hs'
 done:=fun s Q E st hE=>dz hh st.1 st.2 (by simp) hE
theorem zV{prog:Program}{w:World}{A:Around}(hh:A.handled=none)(it l:Addr)(items:Array Value)(n:Nat)(hn:items.size<=n):Draws prog w A it [it,l] n (fun _ _=>True) (fun i h=>i=n/\h.IsTupleIter it l i/\h.IsTuple l items)where live:=fun _ _ st=>let⟨o,ho,_⟩:=st.2.1;⟨o,ho⟩;frame:=fun _ _ _ st hk=>⟨st.1,(let⟨o,ho,r⟩:=st.2.1;⟨o,hk it (by simp) o ho,r⟩),(let⟨o,ho,r⟩:=st.2.2;⟨o,hk l (by simp) o ho,r⟩)⟩;item:=fun i s Q E hi st hQ=>absurd st.1 (Nat.ne_of_lt hi);done:=fun s Q E st hE=>dz hh st.2.1 st.2.2 (by simp;exact hn) hE
theorem Aa{P:Program}{w:World}{K:PySem.W.Frag}{elts:List Expr}{x1}{tp:Pos}(a it e:Addr)(hei:e≠it):Turn P w K (.Tuple elts x1 tp) (wu K a) [e,it] e (fun i h=>(∃old,IsEnum h e it (i:Int) old)/\h.IsTupleIter it a i)where
 mem:=by simp
 obj:=fun i h st b hb=>by
  obtain⟨⟨old,h1⟩,o,h2,h3,h4⟩:=st;rcases List.mem_cons.mp hb with rfl|hb;.exact⟨_,h1,fun v z=>by cases z⟩
  . have:b=it:=by simpa using hb
    subst this;exact⟨o,h2,fun v z=>by rw[h4]at z;cases z⟩
 keep:=fun i h h' st k=>by obtain⟨⟨old,h1⟩,o,h2,h3⟩:=st;exact⟨⟨old,k e (by simp) _ h1⟩,o,k it (by simp) _ h2,h3⟩
 item:=fun X hP hw hK hc i pins s σ H E I hf st go=>by
  subst hP hw hK;obtain⟨⟨old,he⟩,hit⟩:=st;obtain⟨xs,x,hq,hx⟩:=go;obtain⟨its,rv,pl,hz⟩:=I.tuple hq;have hL:s.heap.IsTuple a its.toArray:=pl;obtain⟨oa,ha,hca,_⟩:=id hL;have hea:e≠a:=by rintro rfl;rw[he]at ha;cases ha;exact absurd (show Value.type "enumerate"=Value.type _ from hca) (by decide)
  have hia:a≠it:=by rintro rfl;obtain⟨o,h2,h3,_⟩:=id hit;rw[h2]at ha;cases ha;rw[h3]at hca;exact absurd hca (by decide)
  have hlt:i<its.toArray.size:=by rw[List.size_toArray,<-rv.length];exact(List.getElem?_eq_some_iff.mp hx).1
  refine wpAny_pyNext_enum_itemD (KY (show X.A.in1.handled=none from I.ok.hd hc) it a hia its.toArray) he ⟨hit,hL⟩ hlt hei (by simp[hei,hea]) fun y h' tk hy heo hst ht hsz kp=>?_;refine⟨_,rfl,wpAny_letOwnedTupleGo_enum heo fun h'' EY sb=>?_⟩;obtain⟨u,hu1,hu2⟩:=rv.get hx;have hyu:y=u:=by
   have hy:its[i]?=some y:=by simpa using hy
   rw[hu1]at hy;cases hy;rfl
  subst hyu;have hT:∀b∈[e,it],b≠s.heap.objs.size:=fun b hb=>by
   rcases List.mem_cons.mp hb with rfl|hb;.exact Nat.ne_of_lt (Heap.lt_size he)
   . have:b=it:=by simpa using hb
     subst this;obtain⟨o,h2,_⟩:=id hit;exact Nat.ne_of_lt (Heap.lt_size h2)
  have hTe:s.heap.objs.size≠e:=(hT e (by simp)).symm;have R1:∀b o,b∉[e,it]->s.heap.get? b=some o->h''.get? b=some o:=fun b o hb q=>by have h1:b≠e:=fun z=>hb (by simp[z]);have h2:b≠it:=fun z=>hb (by simp[z]);exact sb.extBut b o h1 (kp b o h1 h2 q)
  have vO:h''.get? s.heap.objs.size=some {cls:=.type "tuple",data:=.seq #[.int i tk,y]}:=sb.extBut _ _ hTe ht;refine⟨.ref s.heap.objs.size,upd H s.heap.objs.size (.tup [.int (i:Int),x]),?_,rfl,⟨_,x,I.fresh,rfl,rfl,fun ys hys=>?_⟩,⟨⟨_,EY⟩,?_⟩,fun b hb=>?_⟩
  . refine I.wM (ch:=[e,it]) (t':=tk+1) R1 (fun b hb=>?_) (fun b hb=>(hf b hb)) ⟨(by show 2<=sizeLine;decide),[.int i tk,y],.cons ⟨_,rfl⟩ (.cons hu2 .nil),⟨_,vO,rfl,_,rfl⟩⟩;rcases List.mem_cons.mp hb with rfl|hb;.exact⟨_,EY⟩
    . have:b=it:=by simpa using hb
      subst this;obtain⟨o,h2,_⟩:=id hst.1;exact⟨o,sb.extBut _ _ (Ne.symm hei) h2⟩
  .rw[I.jj hys hq];exact hx
  .obtain⟨o,h2,r⟩:=hst.1;exact⟨o,sb.extBut _ _ (Ne.symm hei) h2,r⟩
  .rw[aH (hT b hb)];exact(hf b hb).1
 done:=fun X hP hw hK hc i pins s σ H E I hf st stop=>by subst hP hw hK;obtain⟨⟨old,he⟩,hit⟩:=st;obtain⟨xs,hq,hx⟩:=stop;obtain⟨its,rv,pl,hz⟩:=I.tuple hq;have hL:s.heap.IsTuple a its.toArray:=pl;refine wpAny_pyNext_enum_endD (zV (show X.A.in1.handled=none from I.ok.hd hc) it a its.toArray i (by rw[List.size_toArray,<-rv.length];exact hx)) he ⟨rfl,hit,hL⟩ fun h' hs=>⟨rfl,?_⟩;have f:=hf it (by simp);exact I.turned (t':=s.toks) (fun b o hb q=>hs b o hb q) f.1 f.2.1 f.2.2.2.1 f.2.2.2.2.1 f.2.2.2.2.2
 self:=fun A i s Q E st q=>wpAny_pyIter_enum st.1.choose_spec q
section
variable{X:Cx}{elts:List Expr}{x1:Nat}{tp:Pos}
noncomputable def Yy(K:PySem.W.Frag)(tl:TE):TI:=fun σ H R=>tl σ H fun x H1=>∃a,x=.ref a/\(((∃xs,dB K H1 a xs)/\R (xn K a) H1)\/((∃xs,gn K H1 a xs)/\R (wu K a) H1))
theorem boot_enumerate:bootBuiltins "enumerate"=some (.type "enumerate"):=by decide+kernel
theorem Oo{a:Expr}{ta:TE}{p pos:Pos}(hg:Gl X "enumerate")(hm:X.mg "enumerate"=none)(ha:PE X a ta)(hs:starEach [a] X.env=[(false,eval a X.env)]:=by rfl):PI X (.Tuple elts x1 tp) (.Call (.Name "enumerate" p) [a] [] pos) (Yy X.K ta):=by
 intro pins s σ H R I h;refine Call_ (gH I hg hm boot_enumerate (PyProof.Rows.callWith_type1 (cG ((aW ha cQ hs) pos pins s σ H (fun vs H1=>match vs with|[x]=>∃a,x=.ref a/\(((∃xs,dB X.K H1 a xs)/\R (xn X.K a) H1)\/((∃xs,gn X.K H1 a xs)/\R (wu X.K a) H1))|_=>False) I h) ?_) hs rfl));rintro us s1⟨vs,H1,I1,r1,q1⟩
 . obtain⟨ad,q,vs1⟩:∃ad,(((∃xs,dB X.K H1 ad xs)/\R (xn X.K ad) H1)\/((∃xs,gn X.K H1 ad xs)/\R (wu X.K ad) H1))/\vs=[.ref ad]:=by cases vs with|nil=>cases q1|cons x r=>cases r with|nil=>obtain⟨ad,rfl,q⟩:=q1;exact⟨ad,q,rfl⟩|cons _ _=>cases q1
   subst vs1;obtain⟨u,rfl,ru⟩:=r1.one;cases ru;have fin:∀(h':Heap)(tn:Nat->Heap->Prop)(J:It),Turn X.prog X.w X.K (.Tuple elts x1 tp) J [s1.heap.objs.size+1,s1.heap.objs.size] (s1.heap.objs.size+1) tn->tn 0 h'->IsEnum h' (s1.heap.objs.size+1) s1.heap.objs.size 0 .none->(∀b o,s1.heap.get? b=some o->h'.get? b=some o)->R J H1->wpAny (model X.prog X.w) X.A (pyIter (.ref (s1.heap.objs.size+1))) (PIE X pins σ (.Tuple elts x1 tp) R) X.xe {s1 with heap:=h'}:=fun h' tn J T t0 he kp q=>by
    refine wpAny_pyIter_enum he ⟨_,_,tn,J,H1,rfl,I1.kept (t':=s1.toks) kp,T,t0,fun b hb=>?_,q⟩;have hb':s1.heap.objs.size<=b:=by
     rcases List.mem_cons.mp hb with rfl|hb;.exact Nat.le_succ _
     . have:b=s1.heap.objs.size:=by simpa using hb
       rw[this];exact Nat.le_refl _
    exact I1.zA hb' (I1.hok.fresh hb')
   rcases q with⟨⟨xs,hq⟩,q⟩|⟨⟨xs,hq⟩,q⟩;.obtain⟨its,rv,pl,hz⟩:=I1.list hq;exact call_enumerate_list pl.isList fun h' he hi hsz kp=>fin h' _ _ (zN ad s1.heap.objs.size (s1.heap.objs.size+1) (Nat.succ_ne_self _)) ⟨⟨_,he⟩,hi⟩ he kp q
   .obtain⟨its,rv,pl,hz⟩:=I1.tuple hq;exact ir pl fun h' he hi hsz kp=>fin h' _ _ (Aa ad s1.heap.objs.size (s1.heap.objs.size+1) (Nat.succ_ne_self _)) ⟨⟨_,he⟩,hi⟩ he kp q
end
end L2
namespace HH
open PySem L2 PySem.Spec PyProof.Rows
section
variable{K:PySem.W.Frag}{F F1 H H1:Hp}{ρ ρ1:List Sl}{σ:L2.St}{ds:List D}{a:Addr}
theorem pI{F' H':Hp}{T:Addr}{v w:V}{d1 d2:D}(sm:aF F' H')(hT:H' T=none)(r1:Rep K F' v d1)(r2:Rep K F' w d2):∃F'',Ext F' H' F'' (upd H' T (.tup [v,w]))/\Rep K F'' (.ref T) (.tup [d1,d2]):=zT (Q:=fun v lD=>∃F'',Ext F' H' F'' lD/\Rep K F'' v (.tup [d1,d2])) sm (.cons r1 (.cons r2 .nil)) hT fun v F'' lD x rn=>⟨F'',x,rn⟩
theorem BX{xs:List V}{F' H':Hp}(hq:dB K H' a xs)(r:aB K F' xs ds)(s:aF F' H')(k:Nat):(∀d,(ds.mapIdx fun i d=>D.tup [.int (i:Int),d])[k]?=some d->(xn K a).go k H'/\∀x lD,(xn K a).FT k H' x lD->∃F'',Ext F' H' F'' lD/\Rep K F'' x d)/\((ds.mapIdx fun i d=>D.tup [.int (i:Int),d]).length<=k->(xn K a).stop k H'):=by refine⟨fun d hd=>?_,fun h=>⟨xs,hq,by rw[r.length];simpa using h⟩⟩;rw[List.getElem?_mapIdx]at hd;obtain⟨d0,e1,e2⟩:=map_some hd;subst e2;obtain⟨w,h1,h2⟩:=r.get e1;refine⟨⟨xs,w,hq,h1⟩,?_⟩;rintro x lD⟨T,v,hT,hx,hH,y⟩;subst hx;subst hH;have:=y xs hq;rw[h1]at this;cases this;exact pI s hT (dg _) h2
theorem CN{xs:List V}{F' H':Hp}(hq:gn K H' a xs)(r:aB K F' xs ds)(s:aF F' H')(k:Nat):(∀d,(ds.mapIdx fun i d=>D.tup [.int (i:Int),d])[k]?=some d->(wu K a).go k H'/\∀x lD,(wu K a).FT k H' x lD->∃F'',Ext F' H' F'' lD/\Rep K F'' x d)/\((ds.mapIdx fun i d=>D.tup [.int (i:Int),d]).length<=k->(wu K a).stop k H'):=by refine⟨fun d hd=>?_,fun h=>⟨xs,hq,by rw[r.length];simpa using h⟩⟩;rw[List.getElem?_mapIdx]at hd;obtain⟨d0,e1,e2⟩:=map_some hd;subst e2;obtain⟨w,h1,h2⟩:=r.get e1;refine⟨⟨xs,w,hq,h1⟩,?_⟩;rintro x lD⟨T,v,hT,hx,hH,y⟩;subst hx;subst hH;have:=y xs hq;rw[h1]at this;cases this;exact pI s hT (dg _) h2
end
section
variable{X:Cx}{c:Call}{e a:Expr}{pa:P}{pos:Pos}{elts:List Expr}{x1:Nat}{tp:Pos}
theorem OD{x:Str}{p':Pos}(hx:x="enumerate")(hg:Gl X x)(hm:X.mg x=none)(ha:SX X c a pa)(hs:starEach [a] X.env=[(false,eval a X.env)]:=by rfl):SI X c (.Tuple elts x1 tp) (.Call (.Name x p') [a] [] pos) (.XD pa):=by subst hx;refine qQ (Oo hg hm ha.ev hs) ?_;rintro σ H R⟨F,ρ,ds,ρ1,g,e,k⟩;obtain⟨r,ρ2,e1,e2⟩:=ao e;have zz:=aJ e2;clear e2;obtain⟨e2,e3⟩:=zz;subst e3;rw[HH.ev]at e1;obtain⟨r0,ρ3,e4,e5⟩:=ao e1;have zz:=aJ e5;clear e5;obtain⟨e5,e6⟩:=zz;subst e6;obtain⟨es,f1,f2⟩:=map_some e5;subst f2;cases e2;refine⟨F,ρ,r0,_,g,e4,fun v F' H' s rr=>?_⟩;obtain⟨F2,s2,_,rp⟩:=s.fH rr;cases hd:r0.d with|tup es'=>rw[hd]at f1 rp;cases f1;rw[Rep]at rp;obtain⟨ad,xs,rfl,h1,h2⟩:=rp;exact⟨ad,rfl,.inr ⟨⟨xs,aF.gk s2.gs.sub h1⟩,k _ _ _ ⟨s2.gs,fun n k F' ρ' σ' H' s'=>CN (aF.gk s'.gs.sub (aF.gk s'.cB h1)) (h2.mono s'.cB) s'.gs.sub k,fun F3 ρ3 σ3 H3 s3=>⟨s2.trans s3,fun v r rr=>rr.later s2⟩⟩⟩⟩|lst es'=>rw[hd]at f1 rp;cases f1;rw[Rep]at rp;obtain⟨ad,xs,rfl,h1,h2⟩:=rp;exact⟨ad,rfl,.inl ⟨⟨xs,s2.gs.sub.seq h1⟩,k _ _ _ ⟨s2.gs,fun n k F' ρ' σ' H' s'=>BX (s'.gs.sub.seq (s'.cB.seq h1)) (h2.mono s'.cB) s'.gs.sub k,fun F3 ρ3 σ3 H3 s3=>⟨s2.trans s3,fun v r rr=>rr.later s2⟩⟩⟩⟩|_=>rw[hd]at f1;cases f1
end
end HH
end
section
namespace PySem
structure Nx(prog:Program)(w:World)(A:Around)(it src:Addr)(Sx:Nat->Heap->Prop)(get:Nat->Option Value):Prop where
 obj:∀k h,Sx k h->∃o,h.get? it=some o/\∀v,o.data≠.cell v
 keep:∀k h h',Sx k h->(∀o,h.get? it=some o->h'.get? it=some o)->(∀o,h.get? src=some o->h'.get? src=some o)->Sx k h'
 item:∀k(s:Shared)(Q:Value->Shared->Prop)(E:Value->Shared->Prop)x,Sx k s.heap->get k=some x->(∀h',Sx (k+1) h'->Heap.SameBut it s.heap h'->Q x {s with heap:=h'})->wpAny (model prog w) A (Builtin.SmallTypes.nextOf (.ref it)) Q E s
 fin:∀k(s:Shared)(Q:Value->Shared->Prop)(E:Value->Shared->Prop),Sx k s.heap->get k=none->(∀h' e,Heap.ExtBut it s.heap h'->(∃o,h'.get? e=some o/\o.cls=.type "StopIteration")->E (.ref e) {s with heap:=h'})->wpAny (model prog w) A (Builtin.SmallTypes.nextOf (.ref it)) Q E s
section
variable{prog:Program}{w:World}{A:Around}{E:Value->Shared->Prop}{s:Shared}
theorem Nx.list(hh:A.handled=none)(it l:Addr)(hne:l≠it)(items:Array Value):Nx prog w A it l (fun k h=>h.IsListIter it l k/\h.IsList l items) (fun k=>items[k]?)where obj:=fun k h st=>let⟨o,h1,_,h3⟩:=st.1;⟨o,h1,fun v z=>by rw[h3]at z;cases z⟩;keep:=fun k h h' st a b=>⟨(let⟨o,ho,r⟩:=st.1;⟨o,a o ho,r⟩),(let⟨o,ho,r⟩:=st.2;⟨o,b o ho,r⟩)⟩;item:=fun k s Q E x st hx hQ=>wpAny_nextOf_list_item st.1 st.2 hx fun h' hit hs=>hQ h' ⟨hit,(let⟨o,ho,r⟩:=st.2;⟨o,hs.extBut l o hne ho,r⟩)⟩ hs;fin:=fun k s Q E st hx hE=>wpAny_nextOf_list_end hh st.1 st.2 hx hE
theorem Nx.tuple(hh:A.handled=none)(it l:Addr)(hne:l≠it)(items:Array Value):Nx prog w A it l (fun k h=>h.IsTupleIter it l k/\h.IsTuple l items) (fun k=>items[k]?)where obj:=fun k h st=>let⟨o,h1,_,h3⟩:=st.1;⟨o,h1,fun v z=>by rw[h3]at z;cases z⟩;keep:=fun k h h' st a b=>⟨(let⟨o,ho,r⟩:=st.1;⟨o,a o ho,r⟩),(let⟨o,ho,r⟩:=st.2;⟨o,b o ho,r⟩)⟩;item:=fun k s Q E x st hx hQ=>fM st.1 st.2 hx fun h' hit hs=>hQ h' ⟨hit,(let⟨o,ho,r⟩:=st.2;⟨o,hs.extBut l o hne ho,r⟩)⟩ hs;fin:=fun k s Q E st hx hE=>dz hh st.1 st.2 hx hE
variable{z TI TO i1 i2 l1 l2:Addr}{k:Nat}{S1 S2:Nat->Heap->Prop}{g1 g2:Nat->Option Value}{a b:Value}
theorem zW{x y:Value}{Q:Value->Shared->Prop}(D:ZipApart z TI TO i1 i2 l1 l2)(N1:Nx prog w A i1 l1 S1 g1)(N2:Nx prog w A i2 l2 S2 g2)(hz:IsZip s.heap z TI TO .none)(hTI:IsPair s.heap TI (.ref i1) (.ref i2))(hTO:IsPair s.heap TO a b)(h1:S1 k s.heap)(h2:S2 k s.heap)(hx:g1 k=some x)(hy:g2 k=some y)(hQ:∀ h',IsZip h' z TI TO (rawInt s.heap.objs.size)->IsPair h' TO x y->S1 (k+1) h'->S2 (k+1) h'->IsPair h' s.heap.objs.size x y->h'.objs.size=s.heap.objs.size+1->(∀c o,c≠z->c≠TO->c≠i1->c≠i2->s.heap.get? c=some o->h'.get? c=some o)->Q (.ref s.heap.objs.size) {s with heap:=h'}):wpAny (model prog w) A (Builtin.«zip.__next__» ⟨[.ref z],[]⟩) (fun fin s'=>∃v,fin=.done (.ret v)/\Q v s') E s:=by
 show wpAny _ _ (field (.ref z) 2>>=_) _ _ _;refine wpAny_bind (wpAny_field hz rfl (x:=.bool false) rfl ?_);show wpAny _ _ (field (.ref z) 3>>=_) _ _ _;refine wpAny_bind (wpAny_field hz rfl (x:=.ref TI) rfl (wpAny_bind (wpAny_seqItems hTI rfl ?_)));show wpAny _ _ (Builtin.SmallTypes.ownedTupleIsFree (.ref z)>>=_) _ _ _;refine wpAny_bind ?_;unfold Builtin.SmallTypes.ownedTupleIsFree;refine wpAny_bind (wpAny_field hz rfl (x:=.none) rfl (wpAny_pure ?_));simp only[if_true];refine wpAny_bind (wpAny_rule (wpAny_bind (wpAny_field hz rfl (x:=.ref TO) rfl (wpAny_bind (wpAny_setField_rec hz (by simp) fun t1 z1 xx=>?_)))));have z1:IsZip t1 z TI TO .ellipsis:=z1;refine wpAny_bind ?_;simp only[List.zipIdx_cons,List.zipIdx_nil,List.forIn_cons,List.forIn_nil];refine wpAny_bind (wpAny_bind (wpAny_onRaise ?_));show wpAny _ _ (Builtin.SmallTypes.nextOf (.ref i1)>>=_) _ _ _;have q1:S1 k t1:=N1.keep _ _ _ h1 (fun o e=>xx.extBut _ _ D.i1z e) fun o e=>xx.extBut _ _ D.l1z e;refine wpAny_bind (N1.item k _ _ _ x q1 hx fun t2 q2 xF=>wpAny_pure ?_);have p2:IsPair t2 TO a b:=xF.extBut _ _ D.TOi1 (xx.extBut _ _ D.TOz hTO);refine wpAny_bind (wpAny_seqItems p2 rfl (wpAny_bind (wpAny_updateSeq_pair p2 fun t3 p3 xG=>?_)));have p3:IsPair t3 TO x b:=p3;refine wpAny_bind (wpAny_letGo (wpAny_pure (wpAny_bind (wpAny_bind (wpAny_onRaise ?_)))));show wpAny _ _ (Builtin.SmallTypes.nextOf (.ref i2)>>=_) _ _ _;have w3:S2 k t3:=N2.keep _ _ _ h2 (fun o e=>xG.extBut _ _ D.TOi2.symm (xF.extBut _ _ D.i12.symm (xx.extBut _ _ D.i2z e))) fun o e=>xG.extBut _ _ D.l2TO (xF.extBut _ _ D.l2i1 (xx.extBut _ _ D.l2z e));refine wpAny_bind (N2.item k _ _ _ y w3 hy fun t4 w4 JB=>wpAny_pure ?_);have p4:IsPair t4 TO x b:=JB.extBut _ _ D.TOi2 p3;refine wpAny_bind (wpAny_seqItems p4 rfl (wpAny_bind (wpAny_updateSeq_pair p4 fun t5 p5 FW=>?_)));have p5:IsPair t5 TO x y:=p5;refine wpAny_bind (wpAny_letGo (wpAny_pure (wpAny_pure (wpAny_bind (wpAny_seqItems p5 rfl (wpAny_bind (wpAny_newTuple ?_)))))));have hsz:t5.objs.size=s.heap.objs.size:=by rw[FW.1,JB.1,xG.1,xF.1,xx.1]
 have z5:IsZip t5 z TI TO .ellipsis:=FW.extBut _ _ D.TOz.symm (JB.extBut _ _ D.i2z.symm (xG.extBut _ _ D.TOz.symm (xF.extBut _ _ D.i1z.symm z1)));have kp:∀c o,c≠z->c≠TO->c≠i1->c≠i2->s.heap.get? c=some o->t5.get? c=some o:=fun c o c1 c2 c3 c4 e=>FW.extBut _ _ c2 (JB.extBut _ _ c4 (xG.extBut _ _ c2 (xF.extBut _ _ c3 (xx.extBut _ _ c1 e))));have q5:S1 (k+1) t5:=N1.keep _ _ _ q2 (fun o e=>FW.extBut _ _ D.TOi1.symm (JB.extBut _ _ D.i12 (xG.extBut _ _ D.TOi1.symm e))) fun o e=>FW.extBut _ _ D.l1TO (JB.extBut _ _ D.l1i2 (xG.extBut _ _ D.l1TO e));have w5:S2 (k+1) t5:=N2.keep _ _ _ w4 (fun o e=>FW.extBut _ _ D.TOi2.symm e) fun o e=>FW.extBut _ _ D.l2TO e;have zlt:z<t5.objs.size:=Heap.lt_size z5;show wpAny _ _ (Builtin.SmallTypes.ownedTupleHandOut (.ref z) (.ref t5.objs.size)>>=_) _ _ _;refine wpAny_bind ?_;unfold Builtin.SmallTypes.ownedTupleHandOut;have z6:IsZip (t5.push {cls:=.type "tuple",data:=.seq #[x,y]}) z TI TO .ellipsis:=Heap.get?_push_of_some _ z5;refine wpAny_bind (wpAny_setField_rec z6 (by simp) fun t7 z7 sb7=>?_);have z7:IsZip t7 z TI TO (rawInt t5.objs.size):=z7;refine wpAny_setField_rec z7 (by simp) fun t8 z8 sb8=>?_;have z8:IsZip t8 z TI TO (rawInt t5.objs.size):=z8;have up:∀c o,c≠z->t5.get? c=some o->t8.get? c=some o:=fun c o c1 e=>sb8.extBut _ _ c1 (sb7.extBut _ _ c1 (Heap.get?_push_of_some _ e));have T8:IsPair t8 t5.objs.size x y:=sb8.extBut _ _ (Nat.ne_of_gt zlt) (sb7.extBut _ _ (Nat.ne_of_gt zlt) (Heap.get?_push_size _ rfl));have n8:t8.objs.size=t5.objs.size+1:=by rw[sb8.1,sb7.1,Heap.size_push]
 rw[hsz]at z8 T8 n8;refine wpAny_pure ⟨_,rfl,?_⟩;show Q (.ref t5.objs.size) _;rw[hsz];exact hQ t8 z8 (up _ _ D.TOz p5) (N1.keep _ _ _ q5 (fun o e=>up _ o D.i1z e) fun o e=>up _ o D.l1z e) (N2.keep _ _ _ w5 (fun o e=>up _ o D.i2z e) fun o e=>up _ o D.l2z e) T8 n8 fun c o c1 c2 c3 c4 e=>up c o c1 (kp c o c1 c2 c3 c4 e)
theorem Ew{Q:Fin->Shared->Prop}(D:ZipApart z TI TO i1 i2 l1 l2)(N1:Nx prog w A i1 l1 S1 g1)(N2:Nx prog w A i2 l2 S2 g2)(hz:IsZip s.heap z TI TO .none)(hTI:IsPair s.heap TI (.ref i1) (.ref i2))(hTO:IsPair s.heap TO a b)(h1:S1 k s.heap)(h2:S2 k s.heap)(hend:g1 k=none\/g2 k=none)(hE:∀h' e,(∀c o,c≠z->c≠TO->c≠i1->c≠i2->s.heap.get? c=some o->h'.get? c=some o)->(∃o,h'.get? e=some o/\o.cls=.type "StopIteration")->E (.ref e) {s with heap:=h'}):wpAny (model prog w) A (Builtin.«zip.__next__» ⟨[.ref z],[]⟩) Q E s:=by
 show wpAny _ _ (field (.ref z) 2>>=_) _ _ _;refine wpAny_bind (wpAny_field hz rfl (x:=.bool false) rfl ?_);show wpAny _ _ (field (.ref z) 3>>=_) _ _ _;refine wpAny_bind (wpAny_field hz rfl (x:=.ref TI) rfl (wpAny_bind (wpAny_seqItems hTI rfl ?_)));show wpAny _ _ (Builtin.SmallTypes.ownedTupleIsFree (.ref z)>>=_) _ _ _;refine wpAny_bind ?_;unfold Builtin.SmallTypes.ownedTupleIsFree;refine wpAny_bind (wpAny_field hz rfl (x:=.none) rfl (wpAny_pure ?_));simp only[if_true];refine wpAny_bind (wpAny_rule (wpAny_bind (wpAny_field hz rfl (x:=.ref TO) rfl (wpAny_bind (wpAny_setField_rec hz (by simp) fun t1 z1 xx=>?_)))));have z1:IsZip t1 z TI TO .ellipsis:=z1;refine wpAny_bind ?_;simp only[List.zipIdx_cons,List.zipIdx_nil,List.forIn_cons,List.forIn_nil];refine wpAny_bind (wpAny_bind (wpAny_onRaise ?_));show wpAny _ _ (Builtin.SmallTypes.nextOf (.ref i1)>>=_) _ _ _
 have q1:S1 k t1:=N1.keep _ _ _ h1 (fun o e=>xx.extBut _ _ D.i1z e) fun o e=>xx.extBut _ _ D.l1z e;cases hx:g1 k with|none=>
   refine wpAny_bind (N1.fin k _ _ _ q1 hx fun t2 e xF he=>?_);obtain⟨oe,hoe,hce⟩:=he;have z2:IsZip t2 z TI TO .ellipsis:=xF _ _ D.i1z.symm z1;have hez:e≠z:=fun x=>by subst x;rw[z2]at hoe;cases hoe;simp at hce
   exact wpAny_setField_rec z2 (by simp) fun t3 _ xG=>hE t3 e (fun c o c1 _ c3 _ x=>xG.extBut _ _ c1 (xF _ _ c3 (xx.extBut _ _ c1 x))) ⟨oe,xG.extBut _ _ hez hoe,hce⟩|some x=>
   have hy:g2 k=none:=by rcases hend with h|h;rw[hx]at h;cases h;exact h
   refine wpAny_bind (N1.item k _ _ _ x q1 hx fun t2 q2 xF=>wpAny_pure ?_);have p2:IsPair t2 TO a b:=xF.extBut _ _ D.TOi1 (xx.extBut _ _ D.TOz hTO);refine wpAny_bind (wpAny_seqItems p2 rfl (wpAny_bind (wpAny_updateSeq_pair p2 fun t3 p3 xG=>?_)));refine wpAny_bind (wpAny_letGo (wpAny_pure (wpAny_bind (wpAny_bind (wpAny_onRaise ?_)))));show wpAny _ _ (Builtin.SmallTypes.nextOf (.ref i2)>>=_) _ _ _;have w3:S2 k t3:=N2.keep _ _ _ h2 (fun o e=>xG.extBut _ _ D.TOi2.symm (xF.extBut _ _ D.i12.symm (xx.extBut _ _ D.i2z e))) fun o e=>xG.extBut _ _ D.l2TO (xF.extBut _ _ D.l2i1 (xx.extBut _ _ D.l2z e));refine wpAny_bind (N2.fin k _ _ _ w3 hy fun t4 e JB he=>?_);obtain⟨oe,hoe,hce⟩:=he;have z4:IsZip t4 z TI TO .ellipsis:=JB _ _ D.i2z.symm (xG.extBut _ _ D.TOz.symm (xF.extBut _ _ D.i1z.symm z1));have hez:e≠z:=fun x=>by subst x;rw[z4]at hoe;cases hoe;simp at hce
   exact wpAny_setField_rec z4 (by simp) fun t5 _ FW=>hE t5 e (fun c o c1 c2 c3 c4 x=>FW.extBut _ _ c1 (JB _ _ c4 (xG.extBut _ _ c2 (xF.extBut _ _ c3 (xx.extBut _ _ c1 x))))) ⟨oe,FW.extBut _ _ hez hoe,hce⟩
theorem lW{x y:Value}{Q:Option Value->Shared->Prop}(D:ZipApart z TI TO i1 i2 l1 l2)(N1:Nx prog w A.in1 i1 l1 S1 g1)(N2:Nx prog w A.in1 i2 l2 S2 g2)(hz:IsZip s.heap z TI TO .none)(hTI:IsPair s.heap TI (.ref i1) (.ref i2))(hTO:IsPair s.heap TO a b)(h1:S1 k s.heap)(h2:S2 k s.heap)(hx:g1 k=some x)(hy:g2 k=some y)(hQ:∀ h',IsZip h' z TI TO (rawInt s.heap.objs.size)->IsPair h' TO x y->S1 (k+1) h'->S2 (k+1) h'->IsPair h' s.heap.objs.size x y->h'.objs.size=s.heap.objs.size+1->(∀c o,c≠z->c≠TO->c≠i1->c≠i2->s.heap.get? c=some o->h'.get? c=some o)->Q (some (.ref s.heap.objs.size)) {s with heap:=h'}):wpAny (model prog w) A (pyNext (.ref z)) Q E s:=by have hT:s.TypeIs (.ref z) "zip":=⟨_,hz,rfl⟩;unfold pyNext;exact wpAny_bind (wpAny_attempt (wpAny_callSpecial?_slot (name:=Str.ofString "__next__") hT F.slot_zip_next (wpAny_call_entry F.slot_zip_next hT F.entry_zip_next (zW D N1 N2 hz hTI hTO h1 h2 hx hy fun h' a1 a2 a3 a4 a5 a6 a7=>wpAny_pure (hQ h' a1 a2 a3 a4 a5 a6 a7)) (F.args_zip_next_1 _))))
theorem mO{Q:Option Value->Shared->Prop}(D:ZipApart z TI TO i1 i2 l1 l2)(N1:Nx prog w A.in1 i1 l1 S1 g1)(N2:Nx prog w A.in1 i2 l2 S2 g2)(hz:IsZip s.heap z TI TO .none)(hTI:IsPair s.heap TI (.ref i1) (.ref i2))(hTO:IsPair s.heap TO a b)(h1:S1 k s.heap)(h2:S2 k s.heap)(hend:g1 k=none\/g2 k=none)(hQ:∀h',(∀c o,c≠z->c≠TO->c≠i1->c≠i2->s.heap.get? c=some o->h'.get? c=some o)->Q none {s with heap:=h'}):wpAny (model prog w) A (pyNext (.ref z)) Q E s:=by have hT:s.TypeIs (.ref z) "zip":=⟨_,hz,rfl⟩;unfold pyNext;refine wpAny_bind (wpAny_attempt (wpAny_callSpecial?_slot (name:=Str.ofString "__next__") hT F.slot_zip_next (wpAny_call_entry F.slot_zip_next hT F.entry_zip_next (Ew D N1 N2 hz hTI hTO h1 h2 hend fun h' e hk he=>?_) (F.args_zip_next_1 _))));obtain⟨o,ho,hc⟩:=he;exact wpAny_bind (wpAny_isInstance (T:="StopIteration") (b:=true) ⟨o,ho,hc⟩ isSubtype_stop (wpAny_pure (hQ _ hk)))
end
theorem mJ(l1 l2:Addr)(xs ys:Array Value):Meets (Builtin.«zip.__new__» ⟨[.type "zip",.ref l1,.ref l2],[]⟩) (fun _ R s=>s.heap.IsList l1 xs/\s.heap.IsList l2 ys/\R (.ok (.ret (.ref (s.heap.objs.size+4)))) {s with heap:=((((s.heap.push {cls:=.type "list_iterator",data:=.fields #[.ref l1,.int 0 0]}).push {cls:=.type "list_iterator",data:=.fields #[.ref l2,.int 0 0]}).push {cls:=.type "tuple",data:=.seq #[.ref s.heap.objs.size,.ref (s.heap.objs.size+1)]}).push {cls:=.type "tuple",data:=.seq #[.none,.none]}).push {cls:=.type "zip",data:=.fields #[.none,.bool false,.bool false,.ref (s.heap.objs.size+2),.ref (s.heap.objs.size+3)]}}):=.of_wp fun prog w A R s h=>by obtain⟨hp,g,d,tk,os⟩:=s;obtain⟨hl1,hl2,h⟩:=h;have hsub:=sub_zip;have hL1:Heap.IsList (Shared.heap ⟨hp,g,d,tk,os⟩) l1 xs:=hl1;have hL2:Heap.IsList (Shared.heap ⟨hp.push {cls:=.type "list_iterator",data:=.fields #[.ref l1,.int 0 0]},g,d,tk,os⟩) l2 ys:=Heap.IsList.push hl2 _;wp_walk using wpAny_pyIter_list hL1,wpAny_pyIter_list hL2;simp only[Heap.size_push]at*;exact⟨_,rfl,h⟩
section
variable{prog:Program}{w:World}{A:Around}{E:Value->Shared->Prop}{s:Shared}
theorem wY{l1 l2:Addr}{xs ys:Array Value}{Q:Value->Shared->Prop}(hl1:s.heap.IsList l1 xs)(hl2:s.heap.IsList l2 ys)(h:∀ h',IsZip h' (s.heap.objs.size+4) (s.heap.objs.size+2) (s.heap.objs.size+3) .none->IsPair h' (s.heap.objs.size+2) (.ref s.heap.objs.size) (.ref (s.heap.objs.size+1))->IsPair h' (s.heap.objs.size+3) .none .none->h'.IsListIter s.heap.objs.size l1 0->h'.IsListIter (s.heap.objs.size+1) l2 0->(∀c o,s.heap.get? c=some o->h'.get? c=some o)->Q (.ref (s.heap.objs.size+4)) {s with heap:=h'}):wpAny (model prog w) A (call (.type "zip") [.ref l1,.ref l2]) Q E s:=by
 refine callType_new F.called_zip (by decide) (F.typeCall_zip_2 _ _) (F.newCall_zip_2 _ _) (fun obj=>F.args_object_init_3 obj _ _) F.entry_zip_new (mJ l1 l2 xs ys) ⟨hl1,hl2,?_⟩;generalize e1:s.heap.push {cls:=.type "list_iterator",data:=.fields #[.ref l1,.int 0 0]}=t1;have n1:t1.objs.size=s.heap.objs.size+1:=by rw[<-e1,Heap.size_push]
 have a1:t1.get? s.heap.objs.size=some {cls:=.type "list_iterator",data:=.fields #[.ref l1,.int 0 0]}:=by rw[<-e1];exact Heap.get?_push_size _ rfl
 have k1:∀c o,s.heap.get? c=some o->t1.get? c=some o:=fun c o e=>by rw[<-e1];exact Heap.get?_push_of_some _ e
 generalize e2:t1.push {cls:=.type "list_iterator",data:=.fields #[.ref l2,.int 0 0]}=t2;have n2:t2.objs.size=s.heap.objs.size+2:=by rw[<-e2,Heap.size_push,n1]
 have a2:t2.get? (s.heap.objs.size+1)=some {cls:=.type "list_iterator",data:=.fields #[.ref l2,.int 0 0]}:=by rw[<-n1,<-e2];exact Heap.get?_push_size _ rfl
 have k2:∀c o,t1.get? c=some o->t2.get? c=some o:=fun c o e=>by rw[<-e2];exact Heap.get?_push_of_some _ e
 generalize e3:t2.push {cls:=.type "tuple",data:=.seq #[.ref s.heap.objs.size,.ref (s.heap.objs.size+1)]}=t3;have n3:t3.objs.size=s.heap.objs.size+3:=by rw[<-e3,Heap.size_push,n2]
 have a3:t3.get? (s.heap.objs.size+2)=some {cls:=.type "tuple",data:=.seq #[.ref s.heap.objs.size,.ref (s.heap.objs.size+1)]}:=by rw[<-n2,<-e3];exact Heap.get?_push_size _ rfl
 have k3:∀c o,t2.get? c=some o->t3.get? c=some o:=fun c o e=>by rw[<-e3];exact Heap.get?_push_of_some _ e
 generalize e4:t3.push {cls:=.type "tuple",data:=.seq #[.none,.none]}=t4;have n4:t4.objs.size=s.heap.objs.size+4:=by rw[<-e4,Heap.size_push,n3]
 have a4:t4.get? (s.heap.objs.size+3)=some {cls:=.type "tuple",data:=.seq #[.none,.none]}:=by rw[<-n3,<-e4];exact Heap.get?_push_size _ rfl
 have k4:∀c o,t3.get? c=some o->t4.get? c=some o:=fun c o e=>by rw[<-e4];exact Heap.get?_push_of_some _ e
 generalize e5:t4.push {cls:=.type "zip",data:=.fields #[.none,.bool false,.bool false,.ref (s.heap.objs.size+2),.ref (s.heap.objs.size+3)]}=t5;have a5:t5.get? (s.heap.objs.size+4)=some {cls:=.type "zip",data:=.fields #[.none,.bool false,.bool false,.ref (s.heap.objs.size+2),.ref (s.heap.objs.size+3)]}:=by rw[<-n4,<-e5];exact Heap.get?_push_size _ rfl
 have k5:∀c o,t4.get? c=some o->t5.get? c=some o:=fun c o e=>by rw[<-e5];exact Heap.get?_push_of_some _ e
 exact⟨⟨_,a5,rfl⟩,h t5 a5 (k5 _ _ (k4 _ _ a3)) (k5 _ _ a4) ⟨_,k5 _ _ (k4 _ _ (k3 _ _ (k2 _ _ a1))),rfl,rfl⟩ ⟨_,k5 _ _ (k4 _ _ (k3 _ _ a2)),rfl,rfl⟩ fun c o e=>k5 _ _ (k4 _ _ (k3 _ _ (k2 _ _ (k1 _ _ e))))⟩
end
theorem mF(l1 l2:Addr)(xs ys:Array Value):Meets (Builtin.«zip.__new__» ⟨[.type "zip",.ref l1,.ref l2],[]⟩) (fun _ R s=>s.heap.IsList l1 xs/\s.heap.IsTuple l2 ys/\R (.ok (.ret (.ref (s.heap.objs.size+4)))) {s with heap:=((((s.heap.push {cls:=.type "list_iterator",data:=.fields #[.ref l1,.int 0 0]}).push {cls:=.type "tuple_iterator",data:=.fields #[.ref l2,.int 0 0]}).push {cls:=.type "tuple",data:=.seq #[.ref s.heap.objs.size,.ref (s.heap.objs.size+1)]}).push {cls:=.type "tuple",data:=.seq #[.none,.none]}).push {cls:=.type "zip",data:=.fields #[.none,.bool false,.bool false,.ref (s.heap.objs.size+2),.ref (s.heap.objs.size+3)]}}):=.of_wp fun prog w A R s h=>by obtain⟨hp,g,d,tk,os⟩:=s;obtain⟨hl1,hl2,h⟩:=h;have hsub:=sub_zip;have hL1:Heap.IsList (Shared.heap ⟨hp,g,d,tk,os⟩) l1 xs:=hl1;have hL2:Heap.IsTuple (Shared.heap ⟨hp.push {cls:=.type "list_iterator",data:=.fields #[.ref l1,.int 0 0]},g,d,tk,os⟩) l2 ys:=Heap.IsTuple.push hl2 _;wp_walk using wpAny_pyIter_list hL1,wpAny_pyIter_tuple hL2;simp only[Heap.size_push]at*;exact⟨_,rfl,h⟩
section
variable{prog:Program}{w:World}{A:Around}{E:Value->Shared->Prop}{s:Shared}
theorem wL{l1 l2:Addr}{xs ys:Array Value}{Q:Value->Shared->Prop}(hl1:s.heap.IsList l1 xs)(hl2:s.heap.IsTuple l2 ys)(h:∀ h',IsZip h' (s.heap.objs.size+4) (s.heap.objs.size+2) (s.heap.objs.size+3) .none->IsPair h' (s.heap.objs.size+2) (.ref s.heap.objs.size) (.ref (s.heap.objs.size+1))->IsPair h' (s.heap.objs.size+3) .none .none->h'.IsListIter s.heap.objs.size l1 0->h'.IsTupleIter (s.heap.objs.size+1) l2 0->(∀c o,s.heap.get? c=some o->h'.get? c=some o)->Q (.ref (s.heap.objs.size+4)) {s with heap:=h'}):wpAny (model prog w) A (call (.type "zip") [.ref l1,.ref l2]) Q E s:=by
 refine callType_new F.called_zip (by decide) (F.typeCall_zip_2 _ _) (F.newCall_zip_2 _ _) (fun obj=>F.args_object_init_3 obj _ _) F.entry_zip_new (mF l1 l2 xs ys) ⟨hl1,hl2,?_⟩;generalize e1:s.heap.push {cls:=.type "list_iterator",data:=.fields #[.ref l1,.int 0 0]}=t1;have n1:t1.objs.size=s.heap.objs.size+1:=by rw[<-e1,Heap.size_push]
 have a1:t1.get? s.heap.objs.size=some {cls:=.type "list_iterator",data:=.fields #[.ref l1,.int 0 0]}:=by rw[<-e1];exact Heap.get?_push_size _ rfl
 have k1:∀c o,s.heap.get? c=some o->t1.get? c=some o:=fun c o e=>by rw[<-e1];exact Heap.get?_push_of_some _ e
 generalize e2:t1.push {cls:=.type "tuple_iterator",data:=.fields #[.ref l2,.int 0 0]}=t2;have n2:t2.objs.size=s.heap.objs.size+2:=by rw[<-e2,Heap.size_push,n1]
 have a2:t2.get? (s.heap.objs.size+1)=some {cls:=.type "tuple_iterator",data:=.fields #[.ref l2,.int 0 0]}:=by rw[<-n1,<-e2];exact Heap.get?_push_size _ rfl
 have k2:∀c o,t1.get? c=some o->t2.get? c=some o:=fun c o e=>by rw[<-e2];exact Heap.get?_push_of_some _ e
 generalize e3:t2.push {cls:=.type "tuple",data:=.seq #[.ref s.heap.objs.size,.ref (s.heap.objs.size+1)]}=t3;have n3:t3.objs.size=s.heap.objs.size+3:=by rw[<-e3,Heap.size_push,n2]
 have a3:t3.get? (s.heap.objs.size+2)=some {cls:=.type "tuple",data:=.seq #[.ref s.heap.objs.size,.ref (s.heap.objs.size+1)]}:=by rw[<-n2,<-e3];exact Heap.get?_push_size _ rfl
 have k3:∀c o,t2.get? c=some o->t3.get? c=some o:=fun c o e=>by rw[<-e3];exact Heap.get?_push_of_some _ e
 generalize e4:t3.push {cls:=.type "tuple",data:=.seq #[.none,.none]}=t4;have n4:t4.objs.size=s.heap.objs.size+4:=by rw[<-e4,Heap.size_push,n3]
 have a4:t4.get? (s.heap.objs.size+3)=some {cls:=.type "tuple",data:=.seq #[.none,.none]}:=by rw[<-n3,<-e4];exact Heap.get?_push_size _ rfl
 have k4:∀c o,t3.get? c=some o->t4.get? c=some o:=fun c o e=>by rw[<-e4];exact Heap.get?_push_of_some _ e
 generalize e5:t4.push {cls:=.type "zip",data:=.fields #[.none,.bool false,.bool false,.ref (s.heap.objs.size+2),.ref (s.heap.objs.size+3)]}=t5;have a5:t5.get? (s.heap.objs.size+4)=some {cls:=.type "zip",data:=.fields #[.none,.bool false,.bool false,.ref (s.heap.objs.size+2),.ref (s.heap.objs.size+3)]}:=by rw[<-n4,<-e5];exact Heap.get?_push_size _ rfl
 have k5:∀c o,t4.get? c=some o->t5.get? c=some o:=fun c o e=>by rw[<-e5];exact Heap.get?_push_of_some _ e
 exact⟨⟨_,a5,rfl⟩,h t5 a5 (k5 _ _ (k4 _ _ a3)) (k5 _ _ a4) ⟨_,k5 _ _ (k4 _ _ (k3 _ _ (k2 _ _ a1))),rfl,rfl⟩ ⟨_,k5 _ _ (k4 _ _ (k3 _ _ a2)),rfl,rfl⟩ fun c o e=>k5 _ _ (k4 _ _ (k3 _ _ (k2 _ _ (k1 _ _ e))))⟩
end
theorem mQ(l1 l2:Addr)(xs ys:Array Value):Meets (Builtin.«zip.__new__» ⟨[.type "zip",.ref l1,.ref l2],[]⟩) (fun _ R s=>s.heap.IsTuple l1 xs/\s.heap.IsList l2 ys/\R (.ok (.ret (.ref (s.heap.objs.size+4)))) {s with heap:=((((s.heap.push {cls:=.type "tuple_iterator",data:=.fields #[.ref l1,.int 0 0]}).push {cls:=.type "list_iterator",data:=.fields #[.ref l2,.int 0 0]}).push {cls:=.type "tuple",data:=.seq #[.ref s.heap.objs.size,.ref (s.heap.objs.size+1)]}).push {cls:=.type "tuple",data:=.seq #[.none,.none]}).push {cls:=.type "zip",data:=.fields #[.none,.bool false,.bool false,.ref (s.heap.objs.size+2),.ref (s.heap.objs.size+3)]}}):=.of_wp fun prog w A R s h=>by obtain⟨hp,g,d,tk,os⟩:=s;obtain⟨hl1,hl2,h⟩:=h;have hsub:=sub_zip;have hL1:Heap.IsTuple (Shared.heap ⟨hp,g,d,tk,os⟩) l1 xs:=hl1;have hL2:Heap.IsList (Shared.heap ⟨hp.push {cls:=.type "tuple_iterator",data:=.fields #[.ref l1,.int 0 0]},g,d,tk,os⟩) l2 ys:=Heap.IsList.push hl2 _;wp_walk using wpAny_pyIter_tuple hL1,wpAny_pyIter_list hL2;simp only[Heap.size_push]at*;exact⟨_,rfl,h⟩
section
variable{prog:Program}{w:World}{A:Around}{E:Value->Shared->Prop}{s:Shared}
theorem vV{l1 l2:Addr}{xs ys:Array Value}{Q:Value->Shared->Prop}(hl1:s.heap.IsTuple l1 xs)(hl2:s.heap.IsList l2 ys)(h:∀ h',IsZip h' (s.heap.objs.size+4) (s.heap.objs.size+2) (s.heap.objs.size+3) .none->IsPair h' (s.heap.objs.size+2) (.ref s.heap.objs.size) (.ref (s.heap.objs.size+1))->IsPair h' (s.heap.objs.size+3) .none .none->h'.IsTupleIter s.heap.objs.size l1 0->h'.IsListIter (s.heap.objs.size+1) l2 0->(∀c o,s.heap.get? c=some o->h'.get? c=some o)->Q (.ref (s.heap.objs.size+4)) {s with heap:=h'}):wpAny (model prog w) A (call (.type "zip") [.ref l1,.ref l2]) Q E s:=by
 refine callType_new F.called_zip (by decide) (F.typeCall_zip_2 _ _) (F.newCall_zip_2 _ _) (fun obj=>F.args_object_init_3 obj _ _) F.entry_zip_new (mQ l1 l2 xs ys) ⟨hl1,hl2,?_⟩;generalize e1:s.heap.push {cls:=.type "tuple_iterator",data:=.fields #[.ref l1,.int 0 0]}=t1;have n1:t1.objs.size=s.heap.objs.size+1:=by rw[<-e1,Heap.size_push]
 have a1:t1.get? s.heap.objs.size=some {cls:=.type "tuple_iterator",data:=.fields #[.ref l1,.int 0 0]}:=by rw[<-e1];exact Heap.get?_push_size _ rfl
 have k1:∀c o,s.heap.get? c=some o->t1.get? c=some o:=fun c o e=>by rw[<-e1];exact Heap.get?_push_of_some _ e
 generalize e2:t1.push {cls:=.type "list_iterator",data:=.fields #[.ref l2,.int 0 0]}=t2;have n2:t2.objs.size=s.heap.objs.size+2:=by rw[<-e2,Heap.size_push,n1]
 have a2:t2.get? (s.heap.objs.size+1)=some {cls:=.type "list_iterator",data:=.fields #[.ref l2,.int 0 0]}:=by rw[<-n1,<-e2];exact Heap.get?_push_size _ rfl
 have k2:∀c o,t1.get? c=some o->t2.get? c=some o:=fun c o e=>by rw[<-e2];exact Heap.get?_push_of_some _ e
 generalize e3:t2.push {cls:=.type "tuple",data:=.seq #[.ref s.heap.objs.size,.ref (s.heap.objs.size+1)]}=t3;have n3:t3.objs.size=s.heap.objs.size+3:=by rw[<-e3,Heap.size_push,n2]
 have a3:t3.get? (s.heap.objs.size+2)=some {cls:=.type "tuple",data:=.seq #[.ref s.heap.objs.size,.ref (s.heap.objs.size+1)]}:=by rw[<-n2,<-e3];exact Heap.get?_push_size _ rfl
 have k3:∀c o,t2.get? c=some o->t3.get? c=some o:=fun c o e=>by rw[<-e3];exact Heap.get?_push_of_some _ e
 generalize e4:t3.push {cls:=.type "tuple",data:=.seq #[.none,.none]}=t4;have n4:t4.objs.size=s.heap.objs.size+4:=by rw[<-e4,Heap.size_push,n3]
 have a4:t4.get? (s.heap.objs.size+3)=some {cls:=.type "tuple",data:=.seq #[.none,.none]}:=by rw[<-n3,<-e4];exact Heap.get?_push_size _ rfl
 have k4:∀c o,t3.get? c=some o->t4.get? c=some o:=fun c o e=>by rw[<-e4];exact Heap.get?_push_of_some _ e
 generalize e5:t4.push {cls:=.type "zip",data:=.fields #[.none,.bool false,.bool false,.ref (s.heap.objs.size+2),.ref (s.heap.objs.size+3)]}=t5;have a5:t5.get? (s.heap.objs.size+4)=some {cls:=.type "zip",data:=.fields #[.none,.bool false,.bool false,.ref (s.heap.objs.size+2),.ref (s.heap.objs.size+3)]}:=by rw[<-n4,<-e5];exact Heap.get?_push_size _ rfl
 have k5:∀c o,t4.get? c=some o->t5.get? c=some o:=fun c o e=>by rw[<-e5];exact Heap.get?_push_of_some _ e
 exact⟨⟨_,a5,rfl⟩,h t5 a5 (k5 _ _ (k4 _ _ a3)) (k5 _ _ a4) ⟨_,k5 _ _ (k4 _ _ (k3 _ _ (k2 _ _ a1))),rfl,rfl⟩ ⟨_,k5 _ _ (k4 _ _ (k3 _ _ a2)),rfl,rfl⟩ fun c o e=>k5 _ _ (k4 _ _ (k3 _ _ (k2 _ _ (k1 _ _ e))))⟩
end
theorem mH(l1 l2:Addr)(xs ys:Array Value):Meets (Builtin.«zip.__new__» ⟨[.type "zip",.ref l1,.ref l2],[]⟩) (fun _ R s=>s.heap.IsTuple l1 xs/\s.heap.IsTuple l2 ys/\R (.ok (.ret (.ref (s.heap.objs.size+4)))) {s with heap:=((((s.heap.push {cls:=.type "tuple_iterator",data:=.fields #[.ref l1,.int 0 0]}).push {cls:=.type "tuple_iterator",data:=.fields #[.ref l2,.int 0 0]}).push {cls:=.type "tuple",data:=.seq #[.ref s.heap.objs.size,.ref (s.heap.objs.size+1)]}).push {cls:=.type "tuple",data:=.seq #[.none,.none]}).push {cls:=.type "zip",data:=.fields #[.none,.bool false,.bool false,.ref (s.heap.objs.size+2),.ref (s.heap.objs.size+3)]}}):=.of_wp fun prog w A R s h=>by obtain⟨hp,g,d,tk,os⟩:=s;obtain⟨hl1,hl2,h⟩:=h;have hsub:=sub_zip;have hL1:Heap.IsTuple (Shared.heap ⟨hp,g,d,tk,os⟩) l1 xs:=hl1;have hL2:Heap.IsTuple (Shared.heap ⟨hp.push {cls:=.type "tuple_iterator",data:=.fields #[.ref l1,.int 0 0]},g,d,tk,os⟩) l2 ys:=Heap.IsTuple.push hl2 _;wp_walk using wpAny_pyIter_tuple hL1,wpAny_pyIter_tuple hL2;simp only[Heap.size_push]at*;exact⟨_,rfl,h⟩
section
variable{prog:Program}{w:World}{A:Around}{E:Value->Shared->Prop}{s:Shared}
theorem vY{l1 l2:Addr}{xs ys:Array Value}{Q:Value->Shared->Prop}(hl1:s.heap.IsTuple l1 xs)(hl2:s.heap.IsTuple l2 ys)(h:∀ h',IsZip h' (s.heap.objs.size+4) (s.heap.objs.size+2) (s.heap.objs.size+3) .none->IsPair h' (s.heap.objs.size+2) (.ref s.heap.objs.size) (.ref (s.heap.objs.size+1))->IsPair h' (s.heap.objs.size+3) .none .none->h'.IsTupleIter s.heap.objs.size l1 0->h'.IsTupleIter (s.heap.objs.size+1) l2 0->(∀c o,s.heap.get? c=some o->h'.get? c=some o)->Q (.ref (s.heap.objs.size+4)) {s with heap:=h'}):wpAny (model prog w) A (call (.type "zip") [.ref l1,.ref l2]) Q E s:=by
 refine callType_new F.called_zip (by decide) (F.typeCall_zip_2 _ _) (F.newCall_zip_2 _ _) (fun obj=>F.args_object_init_3 obj _ _) F.entry_zip_new (mH l1 l2 xs ys) ⟨hl1,hl2,?_⟩;generalize e1:s.heap.push {cls:=.type "tuple_iterator",data:=.fields #[.ref l1,.int 0 0]}=t1;have n1:t1.objs.size=s.heap.objs.size+1:=by rw[<-e1,Heap.size_push]
 have a1:t1.get? s.heap.objs.size=some {cls:=.type "tuple_iterator",data:=.fields #[.ref l1,.int 0 0]}:=by rw[<-e1];exact Heap.get?_push_size _ rfl
 have k1:∀c o,s.heap.get? c=some o->t1.get? c=some o:=fun c o e=>by rw[<-e1];exact Heap.get?_push_of_some _ e
 generalize e2:t1.push {cls:=.type "tuple_iterator",data:=.fields #[.ref l2,.int 0 0]}=t2;have n2:t2.objs.size=s.heap.objs.size+2:=by rw[<-e2,Heap.size_push,n1]
 have a2:t2.get? (s.heap.objs.size+1)=some {cls:=.type "tuple_iterator",data:=.fields #[.ref l2,.int 0 0]}:=by rw[<-n1,<-e2];exact Heap.get?_push_size _ rfl
 have k2:∀c o,t1.get? c=some o->t2.get? c=some o:=fun c o e=>by rw[<-e2];exact Heap.get?_push_of_some _ e
 generalize e3:t2.push {cls:=.type "tuple",data:=.seq #[.ref s.heap.objs.size,.ref (s.heap.objs.size+1)]}=t3;have n3:t3.objs.size=s.heap.objs.size+3:=by rw[<-e3,Heap.size_push,n2]
 have a3:t3.get? (s.heap.objs.size+2)=some {cls:=.type "tuple",data:=.seq #[.ref s.heap.objs.size,.ref (s.heap.objs.size+1)]}:=by rw[<-n2,<-e3];exact Heap.get?_push_size _ rfl
 have k3:∀c o,t2.get? c=some o->t3.get? c=some o:=fun c o e=>by rw[<-e3];exact Heap.get?_push_of_some _ e
 generalize e4:t3.push {cls:=.type "tuple",data:=.seq #[.none,.none]}=t4;have n4:t4.objs.size=s.heap.objs.size+4:=by rw[<-e4,Heap.size_push,n3]
 have a4:t4.get? (s.heap.objs.size+3)=some {cls:=.type "tuple",data:=.seq #[.none,.none]}:=by rw[<-n3,<-e4];exact Heap.get?_push_size _ rfl
 have k4:∀c o,t3.get? c=some o->t4.get? c=some o:=fun c o e=>by rw[<-e4];exact Heap.get?_push_of_some _ e
 generalize e5:t4.push {cls:=.type "zip",data:=.fields #[.none,.bool false,.bool false,.ref (s.heap.objs.size+2),.ref (s.heap.objs.size+3)]}=t5;have a5:t5.get? (s.heap.objs.size+4)=some {cls:=.type "zip",data:=.fields #[.none,.bool false,.bool false,.ref (s.heap.objs.size+2),.ref (s.heap.objs.size+3)]}:=by rw[<-n4,<-e5];exact Heap.get?_push_size _ rfl
 have k5:∀c o,t4.get? c=some o->t5.get? c=some o:=fun c o e=>by rw[<-e5];exact Heap.get?_push_of_some _ e
 exact⟨⟨_,a5,rfl⟩,h t5 a5 (k5 _ _ (k4 _ _ a3)) (k5 _ _ a4) ⟨_,k5 _ _ (k4 _ _ (k3 _ _ (k2 _ _ a1))),rfl,rfl⟩ ⟨_,k5 _ _ (k4 _ _ (k3 _ _ a2)),rfl,rfl⟩ fun c o e=>k5 _ _ (k4 _ _ (k3 _ _ (k2 _ _ (k1 _ _ e))))⟩
end
end PySem
end
section
namespace L2
open PySem PySem.Spec PyProof.Rows
noncomputable def Sq(t:Bool)(K:PySem.W.Frag)(H:Hp)(a:Addr)(xs:List V):Prop:=if t then gn K H a xs else dB K H a xs
noncomputable def Ro(t:Bool)(h:Heap)(a:Addr)(xs:Array Value):Prop:=if t then h.IsTuple a xs else h.IsList a xs
noncomputable def Av(t:Bool)(h:Heap)(i a:Addr)(k:Nat):Prop:=if t then h.IsTupleIter i a k else h.IsListIter i a k
section
variable{X:Cx}{pins:List (Addr×Obj)}{σ:L2.St}{H:Hp}{s:Shared}
theorem Inv.sq{t:Bool}{a:Addr}{xs:List V}(I:Inv X pins σ H s)(h:Sq t X.K H a xs):∃its:List Value,Vals xs its/\Ro t s.heap a its.toArray:=by cases t with|true=>obtain⟨its,rv,pl,_⟩:=I.tuple h;exact⟨its,rv,pl⟩|false=>obtain⟨its,rv,pl,_⟩:=I.list h;exact⟨its,rv,pl.isList⟩
theorem Inv.Bv{t:Bool}{a:Addr}{xs ys:List V}(I:Inv X pins σ H s)(h:Sq t X.K H a xs)(h':Sq t X.K H a ys):xs=ys:=by cases t with|true=>exact I.jj h h'|false=>exact I.jZ h h'
theorem Ro.lt{t:Bool}{h:Heap}{a:Addr}{xs:Array Value}(q:Ro t h a xs):a<h.objs.size:=by cases t with|true=>obtain⟨o,e,_⟩:=id q;exact Heap.lt_size e|false=>obtain⟨o,e,_⟩:=id q;exact Heap.lt_size e
theorem Av.obj{t:Bool}{h:Heap}{i a:Addr}{k:Nat}(q:Av t h i a k):∃o,h.get? i=some o/\∀v,o.data≠.cell v:=by cases t with|true=>obtain⟨o,h2,h3,h4⟩:=id q;exact⟨o,h2,fun v z=>by rw[h4]at z;cases z⟩|false=>obtain⟨o,h2,h3,h4⟩:=id q;exact⟨o,h2,fun v z=>by rw[h4]at z;cases z⟩
theorem Av.keep{t:Bool}{h h':Heap}{i a:Addr}{k:Nat}(q:Av t h i a k)(e:∀o,h.get? i=some o->h'.get? i=some o):Av t h' i a k:=by cases t with|true=>obtain⟨o,h2,r⟩:=id q;exact⟨o,e o h2,r⟩|false=>obtain⟨o,h2,r⟩:=id q;exact⟨o,e o h2,r⟩
theorem G8(t:Bool){prog:Program}{w:World}{A:Around}(hh:A.handled=none)(it l:Addr)(hne:l≠it)(items:Array Value):Nx prog w A it l (fun k h=>Av t h it l k/\Ro t h l items) (fun k=>items[k]?):=by cases t with|true=>exact Nx.tuple hh it l hne items|false=>exact Nx.list hh it l hne items
theorem Inv.Ek{ch:List Addr}{h':Heap}(I:Inv X pins σ H s)(k:∀b u,b∉ch->s.heap.get? b=some u->h'.get? b=some u)(hf:∀b∈ch,lO X pins H b):Inv X pins σ H {s with heap:=h'}:=by
 have vR:∀b u,H b=some u->b∉ch:=fun b u e hb=>by rw[(hf b hb).1]at e;cases e
 refine I.call (g':=s.gens) (d':=s.drawn) (t':=s.toks) (ch:=ch) ⟨fun b u e n _ hx=>k b u hx e,fun b u e n _ hx=>⟨u.slots,k b u hx e⟩,fun b u e n hx=>n,fun b u e hx=>⟨u,k b u hx e⟩,fun b xs e=>e,fun b ob u e=>e,fun b ps e=>⟨#[],by rw[e];simp⟩⟩ ?_ I.bare fun b hb=>⟨(hf b hb).2.2.2.1,(hf b hb).2.1,(hf b hb).2.2.2.2.1,(hf b hb).2.2.2.2.2⟩;intro b u e;refine(I.hok b u e).stay (fun c v hc q=>k c v ?_ q) (fun c q=>q) fun c xs q=>q;rcases hc with rfl|hc;.exact vR _ _ e
 .exact vR _ _ hc
end
noncomputable def Tw(t1 t2:Bool)(K:PySem.W.Frag)(a b:Addr):It:=⟨fun i H=>∃ xs ys x y,Sq t1 K H a xs/\Sq t2 K H b ys/\xs[i]?=some x/\ys[i]?=some y,fun i H x H'=>∃T v w,H T=none/\x=.ref T/\H'=upd H T (.tup [v,w])/\(∀xs,Sq t1 K H a xs->xs[i]?=some v)/\∀ys,Sq t2 K H b ys->ys[i]?=some w,fun i H=>∃xs ys,Sq t1 K H a xs/\Sq t2 K H b ys/\(xs.length<=i\/ys.length<=i)⟩
theorem Ei{P:Program}{w:World}{K:PySem.W.Frag}{elts:List Expr}{x1}{tp:Pos}(t1 t2:Bool){z TI TO i1 i2 l1 l2:Addr}(D:ZipApart z TI TO i1 i2 l1 l2):Turn P w K (.Tuple elts x1 tp) (Tw t1 t2 K l1 l2) [z,TI,TO,i1,i2] z (fun i h=>IsZip h z TI TO .none/\IsPair h TI (.ref i1) (.ref i2)/\(∃a b,IsPair h TO a b)/\Av t1 h i1 l1 i/\Av t2 h i2 l2 i)where
 mem:=by simp
 obj:=fun i h st b hb=>by
  obtain⟨h1,h2,⟨u,v,h3⟩,h4,h5⟩:=st;simp only[List.mem_cons,List.not_mem_nil,or_false]at hb;rcases hb with rfl|rfl|rfl|rfl|rfl;.exact⟨_,h1,fun v z=>by cases z⟩
  .exact⟨_,h2,fun v z=>by cases z⟩
  .exact⟨_,h3,fun v z=>by cases z⟩
  .exact h4.obj
  .exact h5.obj
 keep:=fun i h h' st k=>by obtain⟨h1,h2,⟨u,v,h3⟩,h4,h5⟩:=st;exact⟨k z (by simp) _ h1,k TI (by simp) _ h2,⟨u,v,k TO (by simp) _ h3⟩,h4.keep (k i1 (by simp)),h5.keep (k i2 (by simp))⟩
 item:=fun X hP hw hK hc i pins s σ H E I hf st go=>by
  subst hP hw hK;obtain⟨h1,h2,⟨u,v,h3⟩,h4,h5⟩:=st;obtain⟨xs,ys,x,y,hq1,hq2,hx,hy⟩:=go;obtain⟨JC,XQ,R3⟩:=I.sq hq1;obtain⟨its2,FZ,Ky⟩:=I.sq hq2;obtain⟨ux,hu1,hu2⟩:=XQ.get hx;obtain⟨uy,hw1,hw2⟩:=FZ.get hy;have hh:X.A.in1.handled=none:=I.ok.hd hc;refine lW D (G8 t1 hh i1 l1 D.l1i1 JC.toArray) (G8 t2 hh i2 l2 D.l2i2 its2.toArray) h1 h2 h3 (k:=i) ⟨h4,R3⟩ ⟨h5,Ky⟩ (x:=ux) (y:=uy) (by simpa using hu1) (by simpa using hw1) fun h' z1 p1 s1 s2 pT hsz kp=>?_;refine⟨_,rfl,wpAny_letOwnedTupleGo_zip z1 fun h'' z2 sb=>?_⟩;have hlt:∀b∈[z,TI,TO,i1,i2],b≠s.heap.objs.size:=fun b hb=>by
   simp only[List.mem_cons,List.not_mem_nil,or_false]at hb;rcases hb with rfl|rfl|rfl|rfl|rfl;.exact Nat.ne_of_lt (Heap.lt_size h1)
   .exact Nat.ne_of_lt (Heap.lt_size h2)
   .exact Nat.ne_of_lt (Heap.lt_size h3)
   .exact Nat.ne_of_lt (Heap.lt_size h4.obj.choose_spec.1)
   .exact Nat.ne_of_lt (Heap.lt_size h5.obj.choose_spec.1)
  have R1:∀b o,b∉[z,TO,i1,i2]->s.heap.get? b=some o->h''.get? b=some o:=fun b o hb q=>by simp only[List.mem_cons,List.not_mem_nil,or_false,not_or]at hb;exact sb.extBut b o hb.1 (kp b o hb.1 hb.2.1 hb.2.2.1 hb.2.2.2 q)
  have pT2:IsPair h'' s.heap.objs.size ux uy:=sb.extBut _ _ (hlt z (by simp)).symm pT;have p2:IsPair h'' TO ux uy:=sb.extBut _ _ D.TOz p1;have j1:Av t1 h'' i1 l1 (i+1):=s1.1.keep fun o e=>sb.extBut _ _ D.i1z e;have j2:Av t2 h'' i2 l2 (i+1):=s2.1.keep fun o e=>sb.extBut _ _ D.i2z e;refine⟨.ref s.heap.objs.size,upd H s.heap.objs.size (.tup [x,y]),?_,rfl,⟨_,x,y,I.fresh,rfl,rfl,fun zs hz=>?_,fun zs hz=>?_⟩,⟨z2,R1 TI _ ?_ h2,⟨_,_,p2⟩,j1,j2⟩,fun b hb=>?_⟩
  . refine I.wM (ch:=[z,TO,i1,i2]) (t':=s.toks) R1 (fun b hb=>?_) (fun b hb=>hf b ?_) ⟨(by show 2<=sizeLine;decide),[ux,uy],.cons hu2 (.cons hw2 .nil),⟨_,pT2,rfl,_,rfl⟩⟩
    . simp only[List.mem_cons,List.not_mem_nil,or_false]at hb;rcases hb with rfl|rfl|rfl|rfl;.exact⟨_,z2⟩
      .exact⟨_,p2⟩
      .exact⟨_,j1.obj.choose_spec.1⟩
      .exact⟨_,j2.obj.choose_spec.1⟩
    .simp only[List.mem_cons,List.not_mem_nil,or_false]at hb ⊢;rcases hb with h|h|h|h<;>simp[h]
  .rw[I.Bv hz hq1];exact hx
  .rw[I.Bv hz hq2];exact hy
  .simp[D.TIz,D.TITO,D.TIi1,D.TIi2]
  .rw[aH (hlt b hb)];exact(hf b hb).1
 done:=fun X hP hw hK hc i pins s σ H E I hf st stop=>by
  subst hP hw hK;obtain⟨h1,h2,⟨u,v,h3⟩,h4,h5⟩:=st;obtain⟨xs,ys,hq1,hq2,hx⟩:=stop;obtain⟨JC,XQ,R3⟩:=I.sq hq1;obtain⟨its2,FZ,Ky⟩:=I.sq hq2;have hh:X.A.in1.handled=none:=I.ok.hd hc;refine mO D (G8 t1 hh i1 l1 D.l1i1 JC.toArray) (G8 t2 hh i2 l2 D.l2i2 its2.toArray) h1 h2 h3 (k:=i) ⟨h4,R3⟩ ⟨h5,Ky⟩ ?_ fun h' kp=>⟨rfl,?_⟩
  . rcases hx with hx|hx;.left;rw[XQ.length]at hx;simpa using hx
    .right;rw[FZ.length]at hx;simpa using hx
  .exact I.Ek (ch:=[z,TO,i1,i2]) (fun b u hb q=>by simp only[List.mem_cons,List.not_mem_nil,or_false,not_or]at hb;exact kp b u hb.1 hb.2.1 hb.2.2.1 hb.2.2.2 q) fun b hb=>hf b (by simp only[List.mem_cons,List.not_mem_nil,or_false]at hb ⊢;rcases hb with h|h|h|h<;>simp[h])
 self:=fun A i s Q E st q=>wpAny_pyIter_zip st.1 q
section
variable{X:Cx}{elts:List Expr}{x1:Nat}{tp:Pos}
theorem zj{prog:Program}{w:World}{A:Around}{E:Value->Shared->Prop}{s:Shared}(t1 t2:Bool){l1 l2:Addr}{xs ys:Array Value}{Q:Value->Shared->Prop}(hl1:Ro t1 s.heap l1 xs)(hl2:Ro t2 s.heap l2 ys)(h:∀ h',IsZip h' (s.heap.objs.size+4) (s.heap.objs.size+2) (s.heap.objs.size+3) .none->IsPair h' (s.heap.objs.size+2) (.ref s.heap.objs.size) (.ref (s.heap.objs.size+1))->IsPair h' (s.heap.objs.size+3) .none .none->Av t1 h' s.heap.objs.size l1 0->Av t2 h' (s.heap.objs.size+1) l2 0->(∀c o,s.heap.get? c=some o->h'.get? c=some o)->Q (.ref (s.heap.objs.size+4)) {s with heap:=h'}):wpAny (model prog w) A (call (.type "zip") [.ref l1,.ref l2]) Q E s:=by
 cases t1<;>cases t2;.exact wY hl1 hl2 h
 .exact wL hl1 hl2 h
 .exact vV hl1 hl2 h
 .exact vY hl1 hl2 h
theorem Pu{n l m:Nat}(h1:l<n)(h2:m<n):ZipApart (n+4) (n+2) (n+3) n (n+1) l m:=by constructor<;>exact fun h=>absurd (show(_:Nat)=_ from h) (by omega)
noncomputable def Y5(K:PySem.W.Frag)(R:It->Hp->Prop)(vs:List V)(H1:Hp):Prop:=∃t1 t2 a b,vs=[.ref a,.ref b]/\(∃xs,Sq t1 K H1 a xs)/\(∃ys,Sq t2 K H1 b ys)/\R (Tw t1 t2 K a b) H1
noncomputable def Zc(K:PySem.W.Frag)(ta:TA):TI:=fun σ H R=>ta σ H (Y5 K R)
theorem boot_zip:bootBuiltins "zip"=some (.type "zip"):=by decide+kernel
theorem K1{a b:Expr}{ta:TA}{p pos:Pos}(hg:Gl X "zip")(hm:X.mg "zip"=none)(ha:PA X [a,b] ta)(hs:starEach [a,b] X.env=[(false,eval a X.env),(false,eval b X.env)]:=by rfl)(hs2:starEach [b] X.env=[(false,eval b X.env)]:=by rfl):PI X (.Tuple elts x1 tp) (.Call (.Name "zip" p) [a,b] [] pos) (Zc X.K ta):=by
 intro pins s σ H R I h;refine Call_ (gH I hg hm boot_zip (PyProof.Rows.callWith_type1 (cG (ha pos pins s σ H _ I h) ?_) (by rw[hs,hs2]) (by rw[hs2];rfl)));rintro us s1⟨vs,H1,I1,r1,q1⟩;obtain⟨t1,t2,l1,l2,rfl,⟨xs,hq1⟩,⟨ys,hq2⟩,q⟩:=q1;obtain⟨u,v,rfl,ru,rv⟩:=r1.two;cases ru;cases rv;obtain⟨JC,XQ,R3⟩:=I1.sq hq1;obtain⟨its2,FZ,Ky⟩:=I1.sq hq2;have b1:=R3.lt;have b2:=Ky.lt;refine zj t1 t2 R3 Ky fun h' z0 p0 o0 j1 j2 kp=>?_;have D:ZipApart (s1.heap.objs.size+4) (s1.heap.objs.size+2) (s1.heap.objs.size+3) s1.heap.objs.size (s1.heap.objs.size+1) l1 l2:=Pu b1 b2;refine wpAny_pyIter_zip z0 ⟨_,_,_,_,H1,rfl,I1.kept (t':=s1.toks) kp,Ei t1 t2 D,⟨z0,p0,⟨_,_,o0⟩,j1,j2⟩,fun b hb=>?_,q⟩;have hb':s1.heap.objs.size<=b:=by simp only[List.mem_cons,List.not_mem_nil,or_false]at hb;rcases hb with rfl|rfl|rfl|rfl|rfl<;>first|exact Nat.le_add_right _ _|exact Nat.le_refl _
 exact I1.zA hb' (I1.hok.fresh hb')
end
end L2
namespace HH
open PySem L2 PySem.Spec PyProof.Rows
section
variable{K:PySem.W.Frag}{F F1 H H1:Hp}{ρ ρ1:List Sl}{σ:L2.St}{ds es:List D}{a b:Addr}
theorem aF.sq{t:Bool}{xs:List V}(e:aF F H)(h:Sq t K F a xs):Sq t K H a xs:=by cases t with|true=>exact aF.gk e h|false=>exact e.seq h
theorem HW{t1 t2:Bool}{xs ys:List V}{F' H':Hp}(hq1:Sq t1 K H' a xs)(hq2:Sq t2 K H' b ys)(r1:aB K F' xs ds)(r2:aB K F' ys es)(s:aF F' H')(k:Nat):(∀d,((ds.zip es).map fun p=>D.tup [p.1,p.2])[k]?=some d->(Tw t1 t2 K a b).go k H'/\∀x lD,(Tw t1 t2 K a b).FT k H' x lD->∃F'',Ext F' H' F'' lD/\Rep K F'' x d)/\(((ds.zip es).map fun p=>D.tup [p.1,p.2]).length<=k->(Tw t1 t2 K a b).stop k H'):=by refine⟨fun d hd=>?_,fun h=>⟨xs,ys,hq1,hq2,by rw[r1.length,r2.length];rw[List.length_map,List.length_zip]at h;omega⟩⟩;rw[List.getElem?_map]at hd;obtain⟨⟨d0,d1⟩,e1,e2⟩:=map_some hd;subst e2;obtain⟨f1,f2⟩:=List.getElem?_zip_eq_some.mp e1;obtain⟨w,h1,h2⟩:=r1.get f1;obtain⟨w',h1',h2'⟩:=r2.get f2;refine⟨⟨xs,ys,w,w',hq1,hq2,h1,h1'⟩,?_⟩;rintro x lD⟨T,v,v',hT,hx,hH,y,y'⟩;subst hx;subst hH;have:=y xs hq1;rw[h1]at this;cases this;have:=y' ys hq2;rw[h1']at this;cases this;exact pI s hT h2 h2'
theorem Ba{v:V}{d:D}{ds:List D}(h:Rep K F v d)(e:items d=some ds):∃t a xs,v=.ref a/\Sq t K F a xs/\aB K F xs ds:=by cases d with|tup es=>cases e;rw[Rep]at h;obtain⟨a,xs,rfl,h1,h2⟩:=h;exact⟨true,a,xs,rfl,h1,h2⟩|lst es=>cases e;rw[Rep]at h;obtain⟨a,xs,rfl,h1,h2⟩:=h;exact⟨false,a,xs,rfl,h1,h2⟩|_=>cases e
end
section
variable{X:Cx}{c:Call}{e a b:Expr}{pa pb:P}{pos:Pos}{elts:List Expr}{x1:Nat}{tp:Pos}
theorem NB{x:Str}{p':Pos}(hx:x="zip")(hg:Gl X x)(hm:X.mg x=none)(ha:SX X c a pa)(hb:SX X c b pb)(hs:starEach [a,b] X.env=[(false,eval a X.env),(false,eval b X.env)]:=by rfl)(hs2:starEach [b] X.env=[(false,eval b X.env)]:=by rfl):SI X c (.Tuple elts x1 tp) (.Call (.Name x p') [a,b] [] pos) (.zip pa pb):=by subst hx;refine qQ (K1 hg hm (mY ha (mY hb aN hs2) (by rw[hs,hs2])).1 hs hs2) ?_;rintro σ H R⟨F,ρ,ds,ρ1,g,e,k⟩;obtain⟨r,ρ2,e1,e2⟩:=ao e;have zz:=aJ e2;clear e2;obtain⟨e2,e3⟩:=zz;subst e3;rw[HH.ev]at e1;obtain⟨x0,ρ3,e4,e7⟩:=ao e1;obtain⟨y0,ρ4,e5,e8⟩:=ao e7;have zz:=aJ e8;clear e8;obtain⟨e8,e6⟩:=zz;subst e6;obtain⟨us,f1,e9⟩:=dJ e8;obtain⟨ws,f2,f3⟩:=map_some e9;subst f3;cases e2;refine⟨F,ρ,[x0.d,y0.d],_,g,by rw[evs,e4];show(evs c [pb] ρ3).bind _=_;rw[evs,e5];rfl,fun vs F' H' s rr=>?_⟩;obtain⟨v,r',rfl,rv,rr⟩:=rr.bG;obtain⟨u,r'',rfl,ru,rr⟩:=rr.bG;rw[rr.dI];obtain⟨t1,a1,xs,rfl,q1,r1⟩:=Ba rv f1;obtain⟨t2,a2,ys,rfl,q2,r2⟩:=Ba ru f2;exact⟨t1,t2,a1,a2,rfl,⟨xs,aF.sq s.gs.sub q1⟩,⟨ys,aF.sq s.gs.sub q2⟩,k _ _ _ ⟨s.gs,fun n k F' ρ' σ' H' s'=>HW (aF.sq s'.gs.sub (aF.sq s'.cB q1)) (aF.sq s'.gs.sub (aF.sq s'.cB q2)) (r1.mono s'.cB) (r2.mono s'.cB) s'.gs.sub k,fun F3 ρ3 σ3 H3 s3=>⟨s.trans s3,fun v r rr=>rr.later s⟩⟩⟩
end
end HH
end
section
namespace HH
open PySem L2 PySem.Spec PyProof.Rows
structure cU(K:PySem.W.Frag)(x:Str)(st:Stmt):Prop where ex:∃f fd,PySem.W.nsIn K mainGlobals x=some (some (.ref f))/\lK K x x st f fd
section
variable{Pg:Program}{w:World}{K:PySem.W.Frag}{mg:Str->Option Value}{base h:Heap}
theorem cR{x:Str}{st:Stmt}{f:Addr}{oc:Value}{od an:Option Addr}{osl:Array (Option Value)}{kV doc pm cdv ct:Value}(a:PySem.W.nsIn K mainGlobals x=some (some (.ref f)))(l:K.lookup f=some ⟨oc,od,.func (PySem.W.fnOf x x (eG st) (cO st) (aC st) .none kV doc pm an cdv ct),osl⟩)(c:PySem.W.codeIn K cdv x=true)(k:PySem.W.keepIn K (.ref f)=true):cU K x st:=⟨_,_,a,KJ l c k⟩
theorem eX{Γ:Tab}{wl i np:Nat}{x:Str}{st:Stmt}{ps:List Str}(X:K.In h)(G:h.Ns mainGlobals mg)(D:cU K x st)(hp:ps.length=np)(hb:∀(kV doc pm:Value)(an:Option Addr)(cdv ct:Value)(us:List Value),us.length=ps.length->bindArgs (PySem.W.fnOf x x (eG st) (cO st) (aC st) .none kV doc pm an cdv ct) ⟨us,[]⟩=pure (ps.zip us)):aL Pg w K mg base 0 (run Γ wl 0) i x np:=by obtain⟨f,fd,a,F⟩:=D.ex;exact⟨f,fd,ps,⟨fun vs H Q E s=>s.1,fun A outer s H args us vs Q E hr e b v sp=>by obtain⟨_,F,as,r,as',_,z,_⟩:=sp;cases z⟩,PySem.W.mg_of X G a,F.kp,F.binds hb,hp⟩
theorem eU{Γ:Tab}{wl n i np:Nat}{x:Str}{st:Stmt}{ps:List Str}{d:Fd}(X:K.In h)(G:h.Ns mainGlobals mg)(D:cU K x st)(hp:ps.length=np)(hΓ:Γ i=some d)(hb:∀(kV doc pm:Value)(an:Option Addr)(cdv ct:Value)(us:List Value),us.length=ps.length->bindArgs (PySem.W.fnOf x x (eG st) (cO st) (aC st) .none kV doc pm an cdv ct) ⟨us,[]⟩=pure (ps.zip us))(ok:∀f fd,lK K x x st f fd->cJ Pg w K mg base mV (n+1) f fd ps (nW K np (fun args=>enter (run Γ wl n) wl d args))):aL Pg w K mg base (n+1) (run Γ wl (n+1)) i x np:=by
 obtain⟨f,fd,a,F⟩:=D.ex;refine⟨f,fd,ps,?_,PySem.W.mg_of X G a,F.kp,F.binds hb,hp⟩;have e:run Γ wl (n+1) i=fun args=>enter (run Γ wl n) wl d args:=by funext args;show(match Γ i with|some d=>enter (run Γ wl n) wl d args|none=>.stuck)=_;rw[hΓ]
 rw[e,hp];exact ok f fd F
theorem qP{F:Hp}:∀ns:List Int,aB K F (ns.map V.int) (ns.map D.int)|[]=>.nil|n::ns=>.cons (dg n) (qP ns)
theorem Aj{H:Hp}{a:Addr}{ns:List Int}{g:List Sl->Res R}{as:List Sl}(hS:dB K H a (ns.map V.int))(hr:g [.val false (.lst (ns.map D.int))]=.ok (.val (.bl true)) as):nW K 1 g [.ref a] H (fun v _=>v=.bl true) fun _ _ _=>False:=by
 refine⟨rfl,H,_,_,as,⟨.refl _,rfl,fun i b d e=>?_,fun i s ds e e'=>?_,fun i j c h=>?_⟩,hr,fun v F' σ' H' s rr=>?_⟩;.match i,e with|0,e=>cases e;refine⟨.ref a,rfl,?_⟩;rw[Rep];exact⟨a,_,rfl,hS,qP ns⟩|i+1,e=>simp at e
 .match i,e with|0,e=>cases e;cases e'|i+1,e=>simp at e
 .obtain⟨⟨s,ds,e,e'⟩,_⟩:=h;match i,e with|0,e=>cases e;cases e'|i+1,e=>simp at e
 .have rr:Rep K F' v (.bl true):=rr;rw[Rep]at rr;exact rr
end
end HH
end
section
namespace HH
open PySem
noncomputable def Res.sat{α:Type}(Q:α->List Sl->Prop)(x:Res α):Prop:=match x with|.ok a ρ=>Q a ρ|.exc _ _=>False|.stuck=>False
section
variable{α β:Type}{Q Q':α->List Sl->Prop}
@[simp]theorem Mm{a:α}{ρ:List Sl}:(Res.ok a ρ).sat Q=Q a ρ:=rfl
@[simp]theorem WK{k:Nat}{ρ:List Sl}:(Res.exc k ρ:Res α).sat Q=False:=rfl
@[simp]theorem QQ:(Res.stuck:Res α).sat Q=False:=rfl
theorem bI{x:Res β}{f:β->List Sl->Res α}:(x.bind f).sat Q=x.sat fun a ρ=>(f a ρ).sat Q:=by cases x<;>rfl
@[simp]theorem Xe{p:Prop}[Decidable p]{x y:Res α}:(if p then x else y).sat Q=((p->x.sat Q)/\(¬ p->y.sat Q)):=by by_cases h:p<;>simp[h]
@[simp]theorem Fx{a:α}{ρ:List Sl}:(lift (some a) ρ).sat Q=Q a ρ:=rfl
@[simp]theorem Fp{ρ:List Sl}:(lift (none:Option α) ρ).sat Q=False:=rfl
@[simp]theorem Gh{p:Prop}[Decidable p]{a:α}{ρ:List Sl}:(lift (if p then some a else none) ρ).sat Q=(p/\Q a ρ):=by by_cases h:p<;>simp[h]
theorem Res.sat.imp{x:Res α}(h:x.sat Q)(k:∀a ρ,Q a ρ->Q' a ρ):x.sat Q':=by cases x with|ok a ρ=>exact k a ρ h|exc _ _=>exact h|stuck=>exact h
theorem sat_iff{x:Res α}:x.sat Q↔∃a ρ,x=.ok a ρ/\Q a ρ:=by cases x with|ok a ρ=>exact⟨fun h=>⟨a,ρ,rfl,h⟩,fun⟨_,_,e,h⟩=>by cases e;exact h⟩|exc _ _=>exact⟨fun h=>h.elim,fun⟨_,_,e,_⟩=>by cases e⟩|stuck=>exact⟨fun h=>h.elim,fun⟨_,_,e,_⟩=>by cases e⟩
end
theorem RL{α:Type}{x y:Res α}{Q:α->List Sl->Prop}(h:x=y):x.sat Q=y.sat Q:=by rw[h]
theorem bind_congr{α β:Type}{x y:Res α}{f:α->List Sl->Res β}(h:x=y):x.bind f=y.bind f:=by rw[h]
noncomputable def fr:Sl->Bool|.bK=>true|.val b _=>!b|.own b _=>!b|.lent _=>false|.lC _=>false|.jz _=>false|.hold _=>false
@[simp]theorem Yz:fr .bK=true:=rfl
@[simp]theorem Zg{b:Bool}{d:D}:fr (.val b d)=!b:=rfl
@[simp]theorem ZD{b:Bool}{d:List D}:fr (.own b d)=!b:=rfl
@[simp]theorem Wv{d:List D}:fr (.lent d)=false:=rfl
theorem Mq(ρ:List Sl)(i:Nat)(s:Sl):put ρ i s=match ρ[i]?with|some t=>if fr t=true then some (ρ.set i s)else none|none=>none:=by unfold put;cases h:ρ[i]?with|none=>rfl|some t=>cases t with|bK=>rfl|val b d=>cases b<;>rfl|own b d=>cases b<;>rfl|lent d=>rfl|lC m=>rfl|jz m=>rfl|hold m=>rfl
theorem uE{Γ:Tab}{w n i:Nat}{d:Fd}{args:List Sl}(h:Γ i=some d):run Γ w (n+1) i args=enter (run Γ w n) w d args:=by rw[run,h]
noncomputable def fin(np:Nat):Fl->List Sl->Option (R×List Sl)|.next,ρ=>some (.val .non,ρ.take np)|.ret r,ρ=>some (r,ρ.take np)|_,_=>none
noncomputable def eQ(np:Nat)(Q:R->List Sl->Prop)(fl:Fl)(ρ:List Sl):Prop:=match fl with|.next=>Q (.val .non) (ρ.take np)|.ret r=>Q r (ρ.take np)|_=>False
noncomputable def sQ(c:Call)(n:Nat)(r:List S)(Q:Fl->List Sl->Prop)(fl:Fl)(ρ:List Sl):Prop:=match fl with|.next=>(dw c n r ρ).sat Q|fl=>Q fl ρ
noncomputable def fQ(J:List Sl->Prop)(Q:Fl->List Sl->Prop)(fl:Fl)(ρ:List Sl):Prop:=match fl with|.next=>J ρ|.cont=>J ρ|.brk=>Q .next ρ|.ret v=>Q (.ret v) ρ
section
variable{np:Nat}{Q:R->List Sl->Prop}{ρ:List Sl}{v:R}{c:Call}{n:Nat}{r:List S}{Q':Fl->List Sl->Prop}{J:List Sl->Prop}
@[simp]theorem Wz:eQ np Q .next ρ=Q (.val .non) (ρ.take np):=rfl
@[simp]theorem aal:eQ np Q (.ret v) ρ=Q v (ρ.take np):=rfl
@[simp]theorem Zx:eQ np Q .brk ρ=False:=rfl
@[simp]theorem Ws:eQ np Q .cont ρ=False:=rfl
@[simp]theorem Xp:sQ c n r Q' .next ρ=(dw c n r ρ).sat Q':=rfl
@[simp]theorem aat:sQ c n r Q' (.ret v) ρ=Q' (.ret v) ρ:=rfl
@[simp]theorem aap:sQ c n r Q' .brk ρ=Q' .brk ρ:=rfl
@[simp]theorem Xv:sQ c n r Q' .cont ρ=Q' .cont ρ:=rfl
@[simp]theorem W6:fQ J Q' .next ρ=J ρ:=rfl
@[simp]theorem W0:fQ J Q' .cont ρ=J ρ:=rfl
@[simp]theorem Yn:fQ J Q' .brk ρ=Q' .next ρ:=rfl
@[simp]theorem YB:fQ J Q' (.ret v) ρ=Q' (.ret v) ρ:=rfl
end
theorem zf{c:Call}{n:Nat}{d:Fd}{args:List Sl}{Q:R->List Sl->Prop}(hl:args.length=d.np)(hd:d.np<=d.nn)(h:(dw c n d.body (args++List.replicate (d.nn-d.np) .bK)).sat (eQ d.np Q)):(enter c n d args).sat Q:=by unfold enter;rw[if_pos ⟨hl,hd⟩];revert h;cases dw c n d.body (args++List.replicate (d.nn-d.np) .bK)with|stuck=>exact fun h=>False.elim h|exc _ _=>exact fun h=>False.elim h|ok fl ρ=>cases fl<;>first|exact id|exact fun h=>False.elim h
theorem bO{Γ:Tab}{w n i:Nat}{d:Fd}{args:List Sl}{Q:R->List Sl->Prop}(hΓ:Γ i=some d)(hl:args.length=d.np)(hd:d.np<=d.nn)(h:(dw (run Γ w n) w d.body (args++List.replicate (d.nn-d.np) .bK)).sat (eQ d.np Q)):(run Γ w (n+1) i args).sat Q:=by rw[uE hΓ];exact zf hl hd h
theorem aa{c:Call}{n:Nat}{s:S}{r:List S}{ρ:List Sl}{Q:Fl->List Sl->Prop}(h:(ex c n s ρ).sat (sQ c n r Q)):(dw c n (s::r) ρ).sat Q:=by rw[dw,bI];refine h.imp fun fl ρ' q=>?_;cases fl<;>exact q
theorem au{c:Call}{n:Nat}{s:S}{r:List S}{ρ:List Sl}{Q:Fl->List Sl->Prop}(h:(ex c n s ρ).sat (sQ c n r Q)):sQ c n (s::r) Q .next ρ:=aa h
@[simp]theorem WT{c:Call}{n:Nat}{ρ:List Sl}{Q:Fl->List Sl->Prop}:(dw c n [] ρ).sat Q=Q .next ρ:=by rw[dw];rfl
theorem gJ{c:Call}{n:Nat}{s:S}{r:List S}{ρ:List Sl}{Q:Fl->List Sl->Prop}(M:List Sl->Prop)(h:(ex c n s ρ).sat fun fl ρ'=>fl=.next/\M ρ')(k:∀ρ',M ρ'->(dw c n r ρ').sat Q):(dw c n (s::r) ρ).sat Q:=aa (h.imp fun fl ρ'⟨e,q⟩=>by subst e;exact k ρ' q)
theorem cX{is:List Nat}{one:Bool}{body:List Sl->Res Fl}(J:List D->List Sl->Prop){Q:Fl->List Sl->Prop}(hb:∀d r ρ,J (d::r) ρ->∃ρ1,cg ρ is one d=some ρ1/\(body ρ1).sat (fQ (J r) Q))(hq:∀ρ,J [] ρ->Q .next ρ):∀{ds:List D}{ρ:List Sl},J ds ρ->(lL is one body ds ρ).sat Q|[],ρ,j=>hq ρ j|d::r,ρ,j=>by obtain⟨ρ1,e,h⟩:=hb d r ρ j;rw[lL,e];show((body ρ1).bind _).sat Q;rw[bI];refine h.imp fun fl ρ2 q=>?_;cases fl with|next=>exact cX J hb hq q|cont=>exact cX J hb hq q|brk=>exact q|ret v=>exact q
theorem jg{is:List Nat}{one:Bool}{test:List Sl->Res Bool}{elt:Ev}(J:List Sl->Prop)(g:D->Option D){Q:List D->List Sl->Prop}:∀{ds acc:List D}{ρ:List Sl},J ρ->(∀ d,d ∈ ds->∀ ρ,J ρ->∃ ρ1,cg ρ is one d=some ρ1/\(test ρ1).sat fun b ρ2=>if b=true then(elt ρ2).sat fun r ρ3=>g d=some r.d/\J ρ3 else g d=none/\J ρ2)->(∀ ρ,J ρ->Q (acc++ds.filterMap g) ρ)->(turns is one test elt ds acc ρ).sat Q|[],acc,ρ,j,h,k=>by rw[turns];simpa using k ρ j|d::r,acc,ρ,j,h,k=>by obtain⟨ρ1,e,h1⟩:=h d (by simp) ρ j;rw[turns,e];show((test ρ1).bind _).sat Q;rw[bI];refine h1.imp fun b ρ2 q=>?_;cases b with|true=>rw[if_pos rfl]at q;rw[if_pos rfl,bI];refine q.imp fun x ρ3⟨e1,j3⟩=>?_;refine jg J g j3 (fun d' hd'=>h d' (by simp[hd'])) fun ρ' j'=>?_;have:=k ρ' j';rw[List.filterMap_cons,e1]at this;rw[List.append_assoc];exact this|false=>rw[if_neg (by simp)]at q;rw[if_neg (by simp)];refine jg J g q.2 (fun d' hd'=>h d' (by simp[hd'])) fun ρ' j'=>?_;have:=k ρ' j';rw[List.filterMap_cons,q.1]at this;exact this
theorem wI{is:List Nat}{one:Bool}{elt:Ev}{c:Call}(J:List Sl->Prop)(g:D->D){Q:List D->List Sl->Prop}{ds:List D}{ρ:List Sl}(j:J ρ)(h:∀d,d∈ds->∀ρ,J ρ->∃ρ1,cg ρ is one d=some ρ1/\(elt ρ1).sat fun r ρ3=>g d=r.d/\J ρ3)(k:∀ρ,J ρ->Q (ds.map g) ρ):(turns is one (pK c none) elt ds [] ρ).sat Q:=jg J (fun d=>some (g d)) j (fun d hd ρ j=>by obtain⟨ρ1,e,h1⟩:=h d hd ρ j;refine⟨ρ1,e,?_⟩;rw[pK,Mm,if_pos rfl];exact h1.imp fun r ρ3 q=>⟨by rw[q.1],q.2⟩) fun ρ j=>by simpa using k ρ j
section
variable{ρ l:List Sl}{a:Sl}{i j:Int}{k m:Nat}{b b':Bool}{s:Str}{d:D}{ds es:List D}{e f:Ev}{x:Option Sl}{c:Call}
@[simp]theorem Mg:bU .int .non=false:=rfl
@[simp]theorem QD:bU .int (.bl b)=true:=rfl
@[simp]theorem Mu:bU .int (.int i)=true:=rfl
@[simp]theorem Ol:bU .int (.str s)=false:=rfl
@[simp]theorem Nu:bU .int (.tup ds)=false:=rfl
@[simp]theorem LR:bU .int (.lst ds)=false:=rfl
@[simp]theorem J9:bU .bool .non=false:=rfl
@[simp]theorem PQ:bU .bool (.bl b)=true:=rfl
@[simp]theorem J8:bU .bool (.int i)=false:=rfl
@[simp]theorem Ka:bU .bool (.str s)=false:=rfl
@[simp]theorem Kf:bU .bool (.tup ds)=false:=rfl
@[simp]theorem JV:bU .bool (.lst ds)=false:=rfl
@[simp]theorem Lq:bU .str .non=false:=rfl
@[simp]theorem Rw:bU .str (.bl b)=false:=rfl
@[simp]theorem KN:bU .str (.int i)=false:=rfl
@[simp]theorem M9:bU .str (.str s)=true:=rfl
@[simp]theorem PX:bU .str (.tup ds)=false:=rfl
@[simp]theorem Lj:bU .str (.lst ds)=false:=rfl
@[simp]theorem Jc:bU .tuple .non=false:=rfl
@[simp]theorem Kp:bU .tuple (.bl b)=false:=rfl
@[simp]theorem Hm:bU .tuple (.int i)=false:=rfl
@[simp]theorem IV:bU .tuple (.str s)=false:=rfl
@[simp]theorem Hz:bU .tuple (.tup ds)=true:=rfl
@[simp]theorem Gy:bU .tuple (.lst ds)=false:=rfl
@[simp]theorem J4:bU .list .non=false:=rfl
@[simp]theorem O6:bU .list (.bl b)=false:=rfl
@[simp]theorem J3:bU .list (.int i)=false:=rfl
@[simp]theorem JW:bU .list (.str s)=false:=rfl
@[simp]theorem J7:bU .list (.tup ds)=false:=rfl
@[simp]theorem Kh:bU .list (.lst ds)=true:=rfl
@[simp]theorem JX:bU .none .non=true:=rfl
@[simp]theorem Ly:bU .none (.bl b)=false:=rfl
@[simp]theorem J6:bU .none (.int i)=false:=rfl
@[simp]theorem JP:bU .none (.str s)=false:=rfl
@[simp]theorem J1:bU .none (.tup ds)=false:=rfl
@[simp]theorem Ko:bU .none (.lst ds)=false:=rfl
@[simp]theorem RG:gq .non=true:=rfl
@[simp]theorem Sy:gq (.bl b)=false:=rfl
@[simp]theorem Qs:gq (.int i)=false:=rfl
@[simp]theorem Rt:gq (.str s)=false:=rfl
@[simp]theorem Rh:gq (.tup ds)=false:=rfl
@[simp]theorem Q9:gq (.lst ds)=false:=rfl
@[simp]theorem Sw:flat .non=true:=rfl
@[simp]theorem Xj:flat (.bl b)=true:=rfl
@[simp]theorem lB:flat (.int i)=true:=rfl
@[simp]theorem Tc:flat (.str s)=true:=rfl
@[simp]theorem Vf:flat (.tup ds)=false:=rfl
@[simp]theorem Vo:flat (.lst ds)=false:=rfl
@[simp]theorem Yh:(R.val d).d=d:=rfl
@[simp]theorem Zf:(R.own ds).d=.lst ds:=rfl
@[simp]theorem Vk:zR (.val d)=.val false d:=rfl
@[simp]theorem Uk:zR (.own ds)=.own false ds:=rfl
@[simp]theorem QF:uM (.val d)=.dat d:=rfl
@[simp]theorem Qz:uM (.own ds)=.tmp ds:=rfl
@[simp]theorem WY:fP (.int i)=some i:=rfl
@[simp]theorem aay:vp (.bl b)=some b:=rfl
@[simp]theorem qJ:items (.lst ds)=some ds:=rfl
@[simp]theorem qG:items (.tup ds)=some ds:=rfl
@[simp]theorem Oe:Dz (.tup ds)=some ds:=rfl
@[simp]theorem Ph:jG (.lst ds)=some ds:=rfl
@[simp]theorem WD:uD .add=oG:=rfl
@[simp]theorem W8:uD .sub=vB:=rfl
@[simp]theorem Xk:uD .mul=nY:=rfl
@[simp]theorem VJ:uD .fdiv=oR:=rfl
@[simp]theorem Xo:uD .mod=uH:=rfl
@[simp]theorem Xi:uD .pow=vg:=rfl
@[simp]theorem Q4:oG (.int i) (.int j)=some (.val (.int (i+j))):=rfl
@[simp]theorem Ri:oG (.lst ds) (.lst es)=if ds.length+es.length<=lim then some (.own (ds++es))else none:=rfl
@[simp]theorem Qt:oG (.tup ds) (.tup es)=if ds.length+es.length<=lim then some (.val (.tup (ds++es)))else none:=rfl
@[simp]theorem Rv:vB (.int i) (.int j)=some (.val (.int (i-j))):=rfl
@[simp]theorem Rc:nY (.int i) (.int j)=if((-18446744073709551616<i/\i<18446744073709551616)\/(-18446744073709551616<j/\j<18446744073709551616))then some (.val (.int (i*j)))else none:=rfl
@[simp]theorem NP:oR (.int i) (.int j)=if 0<j/\j<1606938044258990275541962092341162602522202993782792835301376 then some (.val (.int (i/j)))else none:=rfl
@[simp]theorem RW:uH (.int i) (.int j)=if 0<j then some (.val (.int (i%j)))else none:=rfl
@[simp]theorem QG:vg (.int i) (.int j)=if 0<=j/\j<=1000/\i.natAbs<18446744073709551616 then some (.val (.int (i^j.toNat)))else none:=rfl
@[simp]theorem Xr:Aq (.lst ds) (.int i)=(at' ds i).map .val:=rfl
@[simp]theorem Wq:Aq (.tup ds) (.int i)=(at' ds i).map .val:=rfl
@[simp]theorem T6:G5 (.int i)=some (.val (.int (-i))):=rfl
@[simp]theorem Qu:cm .eq (.int i) (.int j)=some (i==j):=rfl
@[simp]theorem Rg:cm .ne (.int i) (.int j)=some (!(i==j)):=rfl
@[simp]theorem Ul:cm .eq (.bl b) (.bl b')=some (b==b'):=rfl
@[simp]theorem Ue:cm .ne (.bl b) (.bl b')=some (!(b==b')):=rfl
@[simp]theorem QZ:cm .lt (.int i) (.int j)=some (decide (i<j)):=rfl
@[simp]theorem QS:cm .le (.int i) (.int j)=some (decide (i<=j)):=rfl
@[simp]theorem QC:cm .gt (.int i) (.int j)=some (decide (j<i)):=rfl
@[simp]theorem Q0:cm .ge (.int i) (.int j)=some (decide (j<=i)):=rfl
@[simp]theorem YK:cm .Qf d .non=some (gq d):=rfl
@[simp]theorem Xl:cm .Ey d .non=some (!gq d):=rfl
@[simp]theorem J0:blt .len [.lst ds]=some (.val (.int ds.length)):=rfl
@[simp]theorem Km:blt .len [.tup ds]=some (.val (.int ds.length)):=rfl
@[simp]theorem Q8:blt .Kw [.lst ds]=if ds.length<=16777216 then some (.own ds)else none:=rfl
@[simp]theorem HJ:blt .list [.lst ds]=some (.own ds):=rfl
@[simp]theorem GX:blt .list [.tup ds]=some (.own ds):=rfl
@[simp]theorem Fw:blt .tuple [.lst ds]=some (.val (.tup ds)):=rfl
@[simp]theorem FJ:blt .tuple [.tup ds]=some (.val (.tup ds)):=rfl
@[simp]theorem U4:blt .min2 [.int i,.int j]=some (.val (.int (if j<i then j else i))):=rfl
@[simp]theorem Vq:blt .max2 [.int i,.int j]=some (.val (.int (if i<j then j else i))):=rfl
@[simp]theorem W3:blt .all [.lst ds]=(ds.mapM vp).map fun bs=>.val (.bl (bs.all id)):=rfl
@[simp]theorem WM:blt .any [.lst ds]=(ds.mapM vp).map fun bs=>.val (.bl (bs.any id)):=rfl
@[simp]theorem Q5:isVar (.var k)=some k:=rfl
@[simp]theorem Xn:pk (a::l) k=match(a::l)[k]?with|some (.val _ d)=>some d|some (.own _ ds)=>some (.lst ds)|some (.lent ds)=>some (.lst ds)|_=>none:=rfl
@[simp]theorem Vj:Cv (a::l) k=match pk (a::l) k with|some (.lst ds)=>some ds|_=>none:=rfl
@[simp]theorem TY:cN (some k) e ρ=lift (pk ρ k) ρ:=rfl
@[simp]theorem S5:cN none e ρ=(e ρ).bind fun r ρ=>.ok r.d ρ:=rfl
@[simp]theorem Ru{y:Option Nat}:jJ (some k) e y f ρ=(lift (pk ρ k) ρ).bind fun _ ρ=>(cN y f ρ).bind fun y ρ=>(lift (pk ρ k) ρ).bind fun x ρ=>.ok (x,y) ρ:=rfl
@[simp]theorem RQ{y:Option Nat}:jJ none e y f ρ=(cN none e ρ).bind fun x ρ=>(cN y f ρ).bind fun y ρ=>.ok (x,y) ρ:=rfl
@[simp]theorem QL{es:List D}:dq (.own b ds) (some (.own b' es))=.own b es:=rfl
@[simp]theorem Rr:dq (.own b ds) (some (.val b' d))=.val b d:=rfl
@[simp]theorem DQ:dq a none=a:=by cases a<;>rfl
@[simp]theorem zm:dq (.val b d) x=.val b d:=by cases x<;>rfl
@[simp]theorem QK:dq .bK x=.bK:=by cases x<;>rfl
@[simp]theorem wJ:dq (.lent ds) x=.lent ds:=by cases x<;>rfl
@[simp]theorem VH:cg ρ [k] true d=put ρ k (.val false d):=rfl
@[simp]theorem QT{is:List Nat}:cg ρ is false (.tup ds)=putAll ρ is ds:=by cases is<;>rfl
@[simp]theorem P0:srcOf none e ρ=(e ρ).bind fun r ρ=>lift (items r.d) ρ:=rfl
@[simp]theorem Mf:srcOf (some k) e (a::l)=match(a::l)[k]?with|some (.val _ d)=>lift (items d) (a::l)|some (.own _ ds)=>.ok ds ((a::l).set k (.lent ds))|some (.lent ds)=>.ok ds (a::l)|_=>.stuck:=rfl
@[simp]theorem JH{ρ':List Sl}:bh ρ' none ρ=ρ:=rfl
@[simp]theorem JQ:bh (a::l) (some k) ρ=match(a::l)[k]?with|some (.own b ds)=>ρ.set k (.own b ds)|_=>ρ:=rfl
@[simp]theorem UW{s:Sl}:put (a::l) k s=match(a::l)[k]?with|some t=>if fr t=true then some ((a::l).set k s)else none|none=>none:=Mq ..
@[simp]theorem La:putAll ρ [] []=some ρ:=rfl
@[simp]theorem Kd{is:List Nat}:putAll ρ (k::is) (d::ds)=(put ρ k (.val false d)).bind fun ρ=>putAll ρ is ds:=rfl
theorem Lw{as:List Arg}{Q:R->List Sl->Prop}:(gU c k as ρ).sat Q=match aZ ρ as []with|none=>False|some args=>(c k args).sat fun r args'=>Q r (bY as args' 0 ρ):=by unfold gU;cases aZ ρ as []with|none=>rfl|some args=>simp only;cases c k args<;>rfl
end
@[simp]theorem VD{α:Type}{a0:α}{l:List α}:at' (a0::l) 0=some a0:=by unfold at' jr;rw[if_pos (by decide),if_pos (by simp only[List.length_cons];omega)];rfl
@[simp]theorem Va{α:Type}{a0 a1:α}{l:List α}:at' (a0::a1::l) 1=some a1:=by unfold at' jr;rw[if_pos (by decide),if_pos (by simp only[List.length_cons];omega)];rfl
@[simp]theorem UT{α:Type}{a0 a1 a2:α}{l:List α}:at' (a0::a1::a2::l) 2=some a2:=by unfold at' jr;rw[if_pos (by decide),if_pos (by simp only[List.length_cons];omega)];rfl
@[simp]theorem ZX{α:Type}{a0 a1 a2 a3:α}{l:List α}:at' (a0::a1::a2::a3::l) 3=some a3:=by unfold at' jr;rw[if_pos (by decide),if_pos (by simp only[List.length_cons];omega)];rfl
@[simp]theorem Zm{α:Type}{a0 a1 a2 a3 a4:α}{l:List α}:at' (a0::a1::a2::a3::a4::l) 4=some a4:=by unfold at' jr;rw[if_pos (by decide),if_pos (by simp only[List.length_cons];omega)];rfl
@[simp]theorem Yo{α:Type}{a0 a1 a2 a3 a4 a5:α}{l:List α}:at' (a0::a1::a2::a3::a4::a5::l) 5=some a5:=by unfold at' jr;rw[if_pos (by decide),if_pos (by simp only[List.length_cons];omega)];rfl
@[simp]theorem at_6{α:Type}{a0 a1 a2 a3 a4 a5 a6:α}{l:List α}:at' (a0::a1::a2::a3::a4::a5::a6::l) 6=some a6:=by unfold at' jr;rw[if_pos (by decide),if_pos (by simp only[List.length_cons];omega)];rfl
@[simp]theorem at_7{α:Type}{a0 a1 a2 a3 a4 a5 a6 a7:α}{l:List α}:at' (a0::a1::a2::a3::a4::a5::a6::a7::l) 7=some a7:=by unfold at' jr;rw[if_pos (by decide),if_pos (by simp only[List.length_cons];omega)];rfl
theorem fW{α:Type}{l:List α}{i:Int}(h:0<=i)(h':i<l.length):at' l i=l[i.toNat]?:=by unfold at' jr;rw[if_pos h,if_pos h'];rfl
theorem DX{α:Type}{l:List α}{k:Nat}(h':k<l.length):at' l (k:Int)=l[k]?:=by rw[fW (by omega) (by omega)];simp
theorem Wt{α:Type}{l:List α}{i:Int}(h:(l.length:Int)<=i):at' l i=none:=by unfold at' jr;rw[if_pos (by omega),if_neg (by omega)];rfl
theorem U7{p:P}(h:∀i,p≠.var i):isVar p=none:=by cases p<;>first|rfl|exact absurd rfl (h _)
@[simp]theorem RV{d:D}:isVar (.con d)=none:=rfl
@[simp]theorem Lg{x:Str}{d:D}:isVar (.glob x d)=none:=rfl
@[simp]theorem Qv{o:Op}{p q:P}:isVar (.bin o p q)=none:=rfl
@[simp]theorem RB{p:P}:isVar (.neg p)=none:=rfl
@[simp]theorem Rf{p:P}:isVar (.not p)=none:=rfl
@[simp]theorem Qw{p q:P}:isVar (.and p q)=none:=rfl
@[simp]theorem T4{p q:P}:isVar (.or p q)=none:=rfl
@[simp]theorem RD{o:Cm}{p q:P}:isVar (.cmp o p q)=none:=rfl
@[simp]theorem Kl{o o':Cm}{p q r:P}:isVar (.chain o o' p q r)=none:=rfl
@[simp]theorem RM{p q r:P}:isVar (.ife p q r)=none:=rfl
@[simp]theorem QH{as:List P}:isVar (.tup as)=none:=rfl
@[simp]theorem RT{as:List P}:isVar (.lst as)=none:=rfl
@[simp]theorem Rj{p q:P}:isVar (.idx p q)=none:=rfl
@[simp]theorem JK{p q r:P}:isVar (.slice p q r)=none:=rfl
@[simp]theorem MN{f:Nat}{as:List P}:isVar (.call f as)=none:=rfl
@[simp]theorem QR{b:W7}{as:List P}:isVar (.blt b as)=none:=rfl
@[simp]theorem NQ{ts:List Ty}{p:P}:isVar (.inst ts p)=none:=rfl
@[simp]theorem Ra{x:Nat}:isVar (.pop x)=none:=rfl
@[simp]theorem M6{p e:P}{n:Nat}{is:List Nat}{one:Bool}{t:Option P}:isVar (.comp p n is one t e)=none:=rfl
@[simp]theorem QX{p q:P}:isVar (.yU p q)=none:=rfl
@[simp]theorem QW{p:P}:isVar (.XD p)=none:=rfl
@[simp]theorem RX{p q:P}:isVar (.zip p q)=none:=rfl
@[simp]theorem QJ{p:P}:isVar (.rev p)=none:=rfl
noncomputable def j6(c:Call)(is:List Nat)(one:Bool)(test:Option P)(elt:P)(ds:List D)(ρ:List Sl):Res (List D):=turns is one (pK c test) (ev c elt) ds [] ρ
@[simp]theorem Wo{c:Call}{src elt:P}{n:Nat}{is:List Nat}{one:Bool}{test:Option P}{ρ:List Sl}:ev c (.comp src n is one test elt) ρ=(srcOf (isVar src) (ev c src) ρ).bind fun ds ρ₁=>if ds.length<=lim then(j6 c is one test elt ds (ρ₁++List.replicate n .bK)).bind fun xs ρ₂=>.ok (.own xs) (bh ρ (isVar src) (ρ₂.take ρ₁.length))else .stuck:=by rw[ev];rfl
noncomputable def Be(c:Call)(n:Nat)(t:P)(body:List S)(k:Nat)(ρ:List Sl):Res Fl:=tG (ie (ev c t)) (dw c n body) k ρ
@[simp]theorem Zq{c:Call}{n:Nat}{t:P}{body:List S}{ρ:List Sl}:ex c n (.whl t body) ρ=Be c n t body n ρ:=by rw[ex];rfl
theorem tO{α β γ:Type}{x:Res β}{f:β->List Sl->Res α}{g:α->List Sl->Res γ}:(x.bind f).bind g=x.bind fun a ρ=>(f a ρ).bind g:=by cases x<;>rfl
@[simp]theorem ZV{Γ:Tab}{w n i:Nat}{args:List Sl}{α:Type}{f:R->List Sl->Res α}{Q:α->List Sl->Prop}:((run Γ w n i args).bind f).sat Q=(run Γ w n i args).sat fun a ρ=>(f a ρ).sat Q:=bI
@[simp]theorem aar{Γ:Tab}{w n i:Nat}{args:List Sl}{α β:Type}{f:R->List Sl->Res α}{g:α->List Sl->Res β}:((run Γ w n i args).bind f).bind g=(run Γ w n i args).bind fun a ρ=>(f a ρ).bind g:=tO
@[simp]theorem Xf{c:Call}{is:List Nat}{one:Bool}{test:Option P}{elt:P}{ds:List D}{ρ:List Sl}{α:Type}{f:List D->List Sl->Res α}{Q:α->List Sl->Prop}:((j6 c is one test elt ds ρ).bind f).sat Q=(j6 c is one test elt ds ρ).sat fun a ρ=>(f a ρ).sat Q:=bI
@[simp]theorem WR{c:Call}{is:List Nat}{one:Bool}{test:Option P}{elt:P}{ds:List D}{ρ:List Sl}{α β:Type}{f:List D->List Sl->Res α}{g:α->List Sl->Res β}:((j6 c is one test elt ds ρ).bind f).bind g=(j6 c is one test elt ds ρ).bind fun a ρ=>(f a ρ).bind g:=tO
@[simp]theorem Y8{is:List Nat}{one:Bool}{b:List Sl->Res Fl}{ds:List D}{ρ:List Sl}{α:Type}{f:Fl->List Sl->Res α}{Q:α->List Sl->Prop}:((lL is one b ds ρ).bind f).sat Q=(lL is one b ds ρ).sat fun a ρ=>(f a ρ).sat Q:=bI
@[simp]theorem Xd{α β:Type}{p:Prop}[Decidable p]{a:β}{ρ:List Sl}{f:β->List Sl->Res α}{Q:α->List Sl->Prop}:((lift (if p then some a else none) ρ).bind f).sat Q=(p/\(f a ρ).sat Q):=by by_cases h:p<;>simp[h,lift,Res.bind]
@[simp]theorem W5{α β γ:Type}{p:Prop}[Decidable p]{a:β}{ρ:List Sl}{f:β->List Sl->Res α}{g:α->List Sl->Res γ}:((lift (if p then some a else none) ρ).bind f).bind g=(lift (if p then some a else none) ρ).bind fun a ρ=>(f a ρ).bind g:=tO
@[simp]theorem bb_ite{α β:Type}{p:Prop}[Decidable p]{x y:Res β}{f:β->List Sl->Res α}:(if p then x else y).bind f=if p then x.bind f else y.bind f:=by by_cases h:p<;>simp[h]
@[simp]theorem Yu{c:Call}{n k:Nat}{t:P}{b:List S}{ρ:List Sl}{α:Type}{f:Fl->List Sl->Res α}{Q:α->List Sl->Prop}:((Be c n t b k ρ).bind f).sat Q=(Be c n t b k ρ).sat fun a ρ=>(f a ρ).sat Q:=bI
@[simp]theorem Yx{α β:Type}{a:α}{ρ:List Sl}{f:α->List Sl->Res β}:(Res.ok a ρ).bind f=f a ρ:=rfl
@[simp]theorem QV{α β:Type}{f:α->List Sl->Res β}:(Res.stuck:Res α).bind f=.stuck:=rfl
@[simp]theorem VB{α:Type}{a:α}{ρ:List Sl}:lift (some a) ρ=.ok a ρ:=rfl
@[simp]theorem Vx{α:Type}{ρ:List Sl}:lift (none:Option α) ρ=.stuck:=rfl
noncomputable def zE:List Sl->Nat->Sl->List Sl|[],_,_=>[]|t::ρ,0,s=>dq t (some s)::ρ|t::ρ,k+1,s=>t::zE ρ k s
noncomputable def bk:List Arg->List Sl->List Sl->List Sl|.dU k::as,s::ss,ρ=>bk as ss (zE ρ k s)|.dat _::as,_::ss,ρ=>bk as ss ρ|.tmp _::as,_::ss,ρ=>bk as ss ρ|_,_,ρ=>ρ
section
variable{t s:Sl}{ρ ss:List Sl}{k:Nat}{as:List Arg}{d:D}{ds:List D}
@[simp]theorem abZ:zE (t::ρ) 0 s=dq t (some s)::ρ:=rfl
@[simp]theorem abI:zE (t::ρ) (k+1) s=t::zE ρ k s:=rfl
@[simp]theorem Zn:bk (.dU k::as) (s::ss) ρ=bk as ss (zE ρ k s):=rfl
@[simp]theorem ZC:bk (.dat d::as) (s::ss) ρ=bk as ss ρ:=rfl
@[simp]theorem Zt:bk (.tmp ds::as) (s::ss) ρ=bk as ss ρ:=rfl
@[simp]theorem Z3:bk [] ss ρ=ρ:=rfl
end
theorem wH{s:Sl}:∀{ρ:List Sl}{k j:Nat},(zE ρ k s)[j]?=(ρ[j]?).map fun t=>if j=k then dq t (some s)else t|[],_,_=>by simp[zE]|t::ρ,0,0=>by simp[zE]|t::ρ,0,j+1=>by simp[zE]|t::ρ,k+1,0=>by simp[zE]|t::ρ,k+1,j+1=>by have:=wH (s:=s) (ρ:=ρ) (k:=k) (j:=j);simp only[zE,List.getElem?_cons_succ,this];congr 1;funext t;simp
theorem u9{as:List Arg}{ss:List Sl}:∀{ρ:List Sl}{i j:Nat},(bY as ss i ρ)[j]?=(ρ[j]?).map fun t=>dq t (aM (i+j) as ss)|[],_,_=>by simp[bY]|t::ρ,i,0=>by simp[bY]|t::ρ,i,j+1=>by have:=u9 (as:=as) (ss:=ss) (ρ:=ρ) (i:=i+1) (j:=j);simp only[bY,List.getElem?_cons_succ,this];rw[show i+1+j=i+(j+1)by omega]
noncomputable def stb(t:Sl):Prop:=∀x,dq t x=t
noncomputable def NK(ρ:List Sl):List Arg->Prop|[]=>True|.dU k::as=>(Arg.dU k∈as->∀t,ρ[k]?=some t->stb t)/\NK ρ as|_::as=>NK ρ as
theorem m7{ρ:List Sl}:∀{as:List Arg}{ρ':List Sl},NK ρ as->(∀k,Arg.dU k∈as->∀t,ρ'[k]?=some t->ρ[k]?=some t\/stb t)->NK ρ' as
 |[],_,_,_=>trivial|.dU k::as,ρ',h,g=>⟨fun hm t ht=>by
  rcases g k (by simp) t ht with e|e;.exact h.1 hm t e
  .exact e,m7 h.2 fun j hj=>g j (by simp[hj])⟩|.dat _::as,ρ',h,g=>m7 (as:=as) h fun j hj=>g j (by simp[hj])|.tmp _::as,ρ',h,g=>m7 (as:=as) h fun j hj=>g j (by simp[hj])
theorem jT{k:Nat}:∀{as:List Arg}{ss:List Sl},Arg.dU k∉as->aM k as ss=none|[],_,_=>by unfold aM;rfl|.dU j::as,[],_=>rfl|.dat _::as,[],_=>rfl|.tmp _::as,[],_=>rfl|.dU j::as,s::ss,h=>by simp only[List.mem_cons,Arg.dU.injEq,not_or]at h;rw[aM,if_neg (fun e=>h.1 e.symm),jT h.2]|.dat _::as,s::ss,h=>by simp only[List.mem_cons,not_or]at h;rw[aM,jT h.2]|.tmp _::as,s::ss,h=>by simp only[List.mem_cons,not_or]at h;rw[aM,jT h.2]
theorem yD:∀{as:List Arg}{ss ρ:List Sl},NK ρ as->∀j,(bk as ss ρ)[j]?=(ρ[j]?).map fun t=>dq t (aM j as ss)
 |[],ss,ρ,_,j=>by cases ss<;>simp[bk,aM]|.dU k::as,[],ρ,_,j=>by simp[bk,aM]|.dat _::as,[],ρ,_,j=>by simp[bk,aM]|.tmp _::as,[],ρ,_,j=>by simp[bk,aM]|.dat _::as,s::ss,ρ,h,j=>by rw[bk,aM];exact yD (as:=as) h j|.tmp _::as,s::ss,ρ,h,j=>by rw[bk,aM];exact yD (as:=as) h j|.dU k::as,s::ss,ρ,h,j=>by
   have h2:NK (zE ρ k s) as:=m7 h.2 fun i hi t ht=>by rw[wH]at ht;cases e:ρ[i]?with|none=>rw[e]at ht;cases ht|some t0=>
      rw[e]at ht;by_cases c:i=k;.subst c;have hs:=h.1 hi t0 e;simp[hs (some s)]at ht;exact .inl (by rw[ht])
      .simp[c]at ht;exact .inl (by rw[ht])
   rw[bk,yD h2 j,wH,aM];cases e:ρ[j]?with|none=>rfl|some t0=>
     simp only[Option.map_some];by_cases c:j=k
     . subst c;rw[if_pos rfl,if_pos rfl];by_cases hm:Arg.dU j∈as;.have hs:=h.1 hm t0 e;rw[hs (some s),hs]
       .rw[jT hm,DQ]
     .rw[if_neg c,if_neg (fun z=>c z.symm)]
theorem eN{ρ:List Sl}{k:Nat}{b:Bool}{ds:List D}(e:ρ[k]?=some (.own b ds)):∀{as:List Arg}{u:List Nat}{r:List Sl},k∈u->aZ ρ as u=some r->Arg.dU k∉as
 |[],_,_,_,_=>by simp|.dat _::as,u,r,hu,h=>by simp only[aZ,Option.map_eq_some_iff]at h;obtain⟨r',h,_⟩:=h;simp[eN e hu h]|.tmp _::as,u,r,hu,h=>by simp only[aZ,Option.map_eq_some_iff]at h;obtain⟨r',h,_⟩:=h;simp[eN e hu h]|.dU i::as,u,r,hu,h=>by
   rw[aZ]at h;have hi:i≠k:=by rintro rfl;rw[e]at h;simp[hu]at h
   have:Arg.dU k∉as:=by
    split at h;.obtain⟨r',h,_⟩:=Option.map_eq_some_iff.mp h;exact eN e hu h
    . split at h;.cases h
      .obtain⟨r',h,_⟩:=Option.map_eq_some_iff.mp h;exact eN e (by simp[hu]) h
    . split at h;.cases h
      .obtain⟨r',h,_⟩:=Option.map_eq_some_iff.mp h;exact eN e (by simp[hu]) h
    .cases h
   simp[this];exact fun z=>hi z.symm
theorem eH{ρ:List Sl}:∀{as:List Arg}{u:List Nat}{r:List Sl},aZ ρ as u=some r->NK ρ as
 |[],_,_,_=>trivial|.dat _::as,u,r,h=>by obtain⟨r',h,_⟩:=Option.map_eq_some_iff.mp h;exact eH (as:=as) h|.tmp _::as,u,r,h=>by obtain⟨r',h,_⟩:=Option.map_eq_some_iff.mp h;exact eH (as:=as) h|.dU i::as,u,r,h=>by
   rw[aZ]at h;split at h;.rename_i b d q;obtain⟨r',h,_⟩:=Option.map_eq_some_iff.mp h;exact⟨fun _ t ht=>by rw[q]at ht;cases ht;exact fun x=>zm,eH h⟩
   . rename_i b ds q;split at h;.cases h
     .obtain⟨r',h,_⟩:=Option.map_eq_some_iff.mp h;exact⟨fun hm=>absurd hm (eN q (by simp) h),eH h⟩
   . rename_i ds q;split at h;.cases h
     .obtain⟨r',h,_⟩:=Option.map_eq_some_iff.mp h;exact⟨fun _ t ht=>by rw[q]at ht;cases ht;exact fun x=>wJ,eH h⟩
   .cases h
theorem Vt{as:List Arg}{ss ρ r:List Sl}{u:List Nat}(h:aZ ρ as u=some r):bY as ss 0 ρ=bk as ss ρ:=by apply List.ext_getElem?;intro j;rw[u9,yD (eH h),Nat.zero_add]
@[simp]theorem RP{c:Call}{k:Nat}{as:List Arg}{ρ:List Sl}:gU c k as ρ=match aZ ρ as []with|none=>.stuck|some args=>(c k args).bind fun r args'=>.ok r (bk as args' ρ):=by unfold gU;cases e:aZ ρ as []with|none=>rfl|some args=>simp only[<-Vt (r:=args) e];cases c k args<;>rfl
theorem lV{c:Call}{is:List Nat}{one:Bool}{elt:P}(J:List Sl->Prop)(g:D->D){Q:List D->List Sl->Prop}{ds:List D}{ρ:List Sl}(j:J ρ)(h:∀d,d∈ds->∀ρ,J ρ->∃ρ1,cg ρ is one d=some ρ1/\(ev c elt ρ1).sat fun r ρ3=>g d=r.d/\J ρ3)(k:∀ρ,J ρ->Q (ds.map g) ρ):(j6 c is one none elt ds ρ).sat Q:=wI J g j h k
theorem lY{c:Call}{is:List Nat}{one:Bool}{elt t:P}(J:List Sl->Prop)(g:D->Option D){Q:List D->List Sl->Prop}{ds:List D}{ρ:List Sl}(j:J ρ)(h:∀d,d∈ds->∀ρ,J ρ->∃ρ1,cg ρ is one d=some ρ1/\(ev c t ρ1).sat fun r ρ2=>∃b,r.d=.bl b/\if b=true then(ev c elt ρ2).sat fun r ρ3=>g d=some r.d/\J ρ3 else g d=none/\J ρ2)(k:∀ρ,J ρ->Q (ds.filterMap g) ρ):(j6 c is one (some t) elt ds ρ).sat Q:=jg J g j (fun d hd ρ j=>by obtain⟨ρ1,e,h1⟩:=h d hd ρ j;refine⟨ρ1,e,?_⟩;rw[pK,ie,bI];refine h1.imp fun r ρ2⟨b,e,q⟩=>?_;rw[e];exact q) fun ρ j=>by simpa using k ρ j
theorem iI{c:Call}{n:Nat}{t:P}{body:List S}(J:Nat->List Sl->Prop){Q:Fl->List Sl->Prop}(h:∀m ρ,J m ρ->(ev c t ρ).sat fun r ρ1=>∃b,r.d=.bl b/\if b=true then(dw c n body ρ1).sat (fQ (fun ρ2=>∃m',m'<m/\J m' ρ2) Q)else Q .next ρ1):∀{k m:Nat}{ρ:List Sl},m<k->J m ρ->(Be c n t body k ρ).sat Q|0,m,ρ,hk,_=>absurd hk (Nat.not_lt_zero _)|k+1,m,ρ,hk,j=>by unfold Be;rw[tG,bI,ie,bI];refine(h m ρ j).imp fun r ρ1⟨b,e,q⟩=>?_;rw[e];show(if b=true then _ else _:Res Fl).sat Q;cases b with|false=>rw[if_neg (by simp)]at q;rw[if_neg (by simp)];exact q|true=>rw[if_pos rfl]at q;rw[if_pos rfl,bI];refine q.imp fun fl ρ2 q=>?_;cases fl with|next=>obtain⟨m',hm,j'⟩:=q;exact iI J h (Nat.lt_of_lt_of_le hm (Nat.lt_succ_iff.mp hk)) j'|cont=>obtain⟨m',hm,j'⟩:=q;exact iI J h (Nat.lt_of_lt_of_le hm (Nat.lt_succ_iff.mp hk)) j'|brk=>exact q|ret v=>exact q
@[simp]theorem abN:type_of%@HH.ev.eq_1:=@HH.ev.eq_1
@[simp]theorem abS:type_of%@HH.ev.eq_2:=@HH.ev.eq_2
@[simp]theorem acf:type_of%@HH.ev.eq_3:=@HH.ev.eq_3
@[simp]theorem acb:type_of%@HH.ev.eq_4:=@HH.ev.eq_4
@[simp]theorem aca:type_of%@HH.ev.eq_5:=@HH.ev.eq_5
@[simp]theorem abB:type_of%@HH.ev.eq_6:=@HH.ev.eq_6
@[simp]theorem ab5:type_of%@HH.ev.eq_7:=@HH.ev.eq_7
@[simp]theorem abR:type_of%@HH.ev.eq_8:=@HH.ev.eq_8
@[simp]theorem abF:type_of%@HH.ev.eq_9:=@HH.ev.eq_9
@[simp]theorem aad:type_of%@HH.ev.eq_10:=@HH.ev.eq_10
@[simp]theorem YT:type_of%@HH.ev.eq_11:=@HH.ev.eq_11
@[simp]theorem ZW:type_of%@HH.ev.eq_12:=@HH.ev.eq_12
@[simp]theorem YX:type_of%@HH.ev.eq_13:=@HH.ev.eq_13
@[simp]theorem YL:type_of%@HH.ev.eq_14:=@HH.ev.eq_14
@[simp]theorem aac:type_of%@HH.ev.eq_15:=@HH.ev.eq_15
@[simp]theorem aam:type_of%@HH.ev.eq_16:=@HH.ev.eq_16
@[simp]theorem Ym:type_of%@HH.ev.eq_17:=@HH.ev.eq_17
@[simp]theorem aaa:type_of%@HH.ev.eq_18:=@HH.ev.eq_18
@[simp]theorem aas:type_of%@HH.ev.eq_19:=@HH.ev.eq_19
@[simp]theorem aaw:type_of%@HH.ev.eq_20:=@HH.ev.eq_20
@[simp]theorem Y9:type_of%@HH.ev.eq_22:=@HH.ev.eq_22
@[simp]theorem Yq:type_of%@HH.ev.eq_23:=@HH.ev.eq_23
@[simp]theorem aaj:type_of%@HH.ev.eq_24:=@HH.ev.eq_24
@[simp]theorem aav:type_of%@HH.ev.eq_25:=@HH.ev.eq_25
@[simp]theorem abM:type_of%@HH.ex.eq_1:=@HH.ex.eq_1
@[simp]theorem ab4:type_of%@HH.ex.eq_2:=@HH.ex.eq_2
@[simp]theorem ab3:type_of%@HH.ex.eq_3:=@HH.ex.eq_3
@[simp]theorem ab9:type_of%@HH.ex.eq_4:=@HH.ex.eq_4
@[simp]theorem abQ:type_of%@HH.ex.eq_5:=@HH.ex.eq_5
@[simp]theorem abT:type_of%@HH.ex.eq_6:=@HH.ex.eq_6
@[simp]theorem abE:type_of%@HH.ex.eq_7:=@HH.ex.eq_7
@[simp]theorem abK:type_of%@HH.ex.eq_8:=@HH.ex.eq_8
@[simp]theorem abC:type_of%@HH.ex.eq_9:=@HH.ex.eq_9
@[simp]theorem Za:type_of%@HH.ex.eq_10:=@HH.ex.eq_10
@[simp]theorem Zd:type_of%@HH.ex.eq_11:=@HH.ex.eq_11
@[simp]theorem Zi:type_of%@HH.ex.eq_12:=@HH.ex.eq_12
@[simp]theorem Ze:type_of%@HH.ex.eq_13:=@HH.ex.eq_13
@[simp]theorem aax:type_of%@HH.ex.eq_14:=@HH.ex.eq_14
@[simp]theorem Z5:type_of%@HH.ex.eq_15:=@HH.ex.eq_15
@[simp]theorem aai:type_of%@HH.ie.eq_1:=@HH.ie.eq_1
@[simp]theorem Zw:type_of%@HH.evs.eq_1:=@HH.evs.eq_1
@[simp]theorem aag:type_of%@HH.evs.eq_2:=@HH.evs.eq_2
@[simp]theorem Z9:type_of%@HH.tU.eq_1:=@HH.tU.eq_1
@[simp]theorem Yl:type_of%@HH.tU.eq_2:=@HH.tU.eq_2
@[simp]theorem YM:type_of%@HH.pK.eq_1:=@HH.pK.eq_1
@[simp]theorem Zu:type_of%@HH.pK.eq_2:=@HH.pK.eq_2
@[simp]theorem Zz:type_of%@HH.mG.eq_1:=@HH.mG.eq_1
@[simp]theorem Tp:type_of%@HH.aZ.eq_1:=@HH.aZ.eq_1
@[simp]theorem Vg:type_of%@HH.aZ.eq_2:=@HH.aZ.eq_2
@[simp]theorem Ux:type_of%@HH.aZ.eq_3:=@HH.aZ.eq_3
@[simp]theorem Uy:type_of%@HH.aZ.eq_4:=@HH.aZ.eq_4
@[simp]theorem Tr:type_of%@HH.bY.eq_1:=@HH.bY.eq_1
@[simp]theorem Tt:type_of%@HH.bY.eq_2:=@HH.bY.eq_2
@[simp]theorem S8:type_of%@HH.aM.eq_1:=@HH.aM.eq_1
@[simp]theorem UL:type_of%@HH.aM.eq_2:=@HH.aM.eq_2
@[simp]theorem Vu:type_of%@HH.aM.eq_3:=@HH.aM.eq_3
@[simp]theorem Up:type_of%@HH.aM.eq_4:=@HH.aM.eq_4
end HH
end
section
namespace HH
open PySem L2 PySem.Spec PyProof.Rows
section
variable{X:Cx}{c:Call}{a b:Expr}{pa pb:P}{pos:Pos}
theorem vz:∀{ds:List D}{ns:List Int},ds.mapM fP=some ns->ds=ns.map D.int|[],ns,h=>by simp at h;subst h;rfl|d::ds,ns,h=>by simp[List.mapM_cons,Option.bind_eq_some_iff]at h;obtain⟨i,e1,ms,e2,rfl⟩:=h;rw[gf e1,vz e2];rfl
theorem fY{K:PySem.W.Frag}{F:Hp}:∀{ns:List Int}{ys:List V},aB K F ys (ns.map D.int)->ys=ns.map V.int|[],ys,h=>by rw[h.dI];rfl|n::ns,ys,h=>by obtain⟨v,r,rfl,h1,t⟩:=h.bG;rw[Rep]at h1;rw[h1,fY t];rfl
theorem yF{ns:List Int}{us:List Value}(h:Vals (ns.map V.int) us){i:Nat}{v:Value}(e:us.toArray[i]?=some v):∃t,v=.int (ns.getD i 0) t:=by
 have e:us[i]?=some v:=by simpa using e
 have hi:i<us.length:=(List.getElem?_eq_some_iff.mp e).1;have hl:=h.length;rw[List.length_map]at hl;have g:(ns.map V.int)[i]?=some (.int (ns.getD i 0)):=by rw[List.getElem?_map,List.getElem?_eq_getElem (by omega)];simp[List.getD,show i<ns.length by omega]
 obtain⟨w,g1,g2⟩:=h.get g;rw[e]at g1;cases g1;exact g2
theorem walked{pins:List (Addr×Obj)}{σ:L2.St}{H:Hp}{s:Shared}{p:Addr}{ys:List V}(I:L2.Inv X pins σ H s)(hc:X.calm=true)(hq:dB X.K H p ys\/gn X.K H p ys){Q:Value->Shared->Prop}{E:Value->Shared->Prop}(k:∀(it:Addr)(us:List Value)(s₂:Shared)(St:Nat->Heap->Prop),Vals ys us->Walks X.prog X.w X.A.in1 it [it,p] [it] us.toArray.size (fun i v=>us.toArray[i]?=some v) St->St 0 s₂.heap->(∀ b ∈[it,p],b<s₂.heap.objs.size)->(∀h' tk,(∀b o,b∉[it]->s₂.heap.get? b=some o->h'.get? b=some o)->L2.Inv X pins σ H {s₂ with heap:=h',toks:=tk})->Q (.ref it) s₂):wpAny (model X.prog X.w) X.A.in1 (pyIter (.ref p)) Q E s:=by
 have hh:X.A.in1.handled=none:=I.ok.hd hc;rcases hq with hq|hq
 . obtain⟨us,rv,pl,hz⟩:=I.list hq;have pl:=pl.isList;have hlt:p<s.heap.objs.size:=by obtain⟨o,h1,_⟩:=pl;exact Heap.lt_size h1
   refine wpAny_pyIter_list pl (k s.heap.objs.size us _ _ rv (Walks.list hh s.heap.objs.size p (Nat.ne_of_lt hlt) us.toArray) ⟨⟨_,Heap.get?_push_size _ rfl,rfl,rfl⟩,?_⟩ ?_ fun h' tk kp=>?_);.obtain⟨o,h1,h2⟩:=pl;exact⟨o,Heap.get?_push_of_some _ h1,h2⟩
   . intro b hb;obtain⟨o,h1,_⟩:=pl;simp at hb;rcases hb with rfl|rfl;.exact Heap.lt_size (Heap.get?_push_size _ rfl)
     .exact Heap.lt_size (Heap.get?_push_of_some _ h1)
   .exact I.kept (fun b o z=>kp b o (by simp;exact Nat.ne_of_lt (Heap.lt_size z)) (Heap.get?_push_of_some _ z))
 . obtain⟨us,rv,pl,hz⟩:=I.tuple hq;have hlt:p<s.heap.objs.size:=by obtain⟨o,h1,_⟩:=pl;exact Heap.lt_size h1
   refine wpAny_pyIter_tuple pl (k s.heap.objs.size us _ _ rv (Walks.tuple hh s.heap.objs.size p (Nat.ne_of_lt hlt) us.toArray) ⟨⟨_,Heap.get?_push_size _ rfl,rfl,rfl⟩,?_⟩ ?_ fun h' tk kp=>?_);.obtain⟨o,h1,h2⟩:=pl;exact⟨o,Heap.get?_push_of_some _ h1,h2⟩
   . intro b hb;obtain⟨o,h1,_⟩:=pl;simp at hb;rcases hb with rfl|rfl;.exact Heap.lt_size (Heap.get?_push_size _ rfl)
     .exact Heap.lt_size (Heap.get?_push_of_some _ h1)
   .exact I.kept (fun b o z=>kp b o (by simp;exact Nat.ne_of_lt (Heap.lt_size z)) (Heap.get?_push_of_some _ z))
theorem Du{ns:List Int}{m:Int}(hm:ns.min?=some m):ns.getD (argBest (fun i j=>decide (ns.getD i 0<ns.getD j 0)) (ns.length-1)) 0=m:=by
 have hne:ns≠[]:=by rintro rfl;simp at hm
 have hl:0<ns.length:=List.length_pos_iff.mpr hne;obtain⟨h1,h2⟩:=argBest_lt (fun i=>ns.getD i 0) (ns.length-1);have hb:=List.min?_eq_some_iff.mp hm;generalize argBest (fun i j=>decide (ns.getD i 0<ns.getD j 0)) (ns.length-1)=j at*;have hj:j<ns.length:=by omega
 have hmem:ns.getD j 0∈ns:=by simp[List.getD,hj]
 obtain⟨q,hq,e⟩:=List.getElem_of_mem hb.1;have h3:=h2 q (by omega);simp only[List.getD,List.getElem?_eq_getElem hq,Option.getD_some]at h3;rw[e]at h3;have h4:=hb.2 _ hmem;have h3:ns.getD j 0<=m:=h3;omega
theorem Nb(hc:X.calm=true):di X (.builtin "min") (O8 X.K fun x=>blt .Ez [x]):=by
 rintro pins s σ H xs us Q I r⟨x,hx,F,d,r',sm,px,he,k⟩;obtain⟨ns,e1,he⟩:=dJ (show((items d).bind fun ds=>ds.mapM fP).bind _=some r' from he);obtain⟨m,hm,he⟩:=map_some he;subst he;obtain⟨ds,e2,e3⟩:=dJ e1;obtain⟨p,ys,rfl,hq,rs⟩:=px.items sm e2;rw[vz e3]at rs;have ey:=fY rs;subst hx;obtain⟨u,rfl,rx⟩:=r.one;cases rx;refine call_min_walk (walked I hc hq fun it us s₂ St rv W h0 hl kp=>?_);subst ey;have hlen:us.toArray.size=ns.length:=by rw[List.size_toArray,<-rv.length,List.length_map]
 have hpos:0<ns.length:=by cases ns with|nil=>simp at hm|cons _ _=>simp
 refine⟨it,_,_,_,_,St,_,rfl,W,h0,hl,by rw[hlen];exact hpos,CmpOf.ints_lt (fun i=>ns.getD i 0) (fun i v e=>yF rv e),fun v h' tk hv kk=>?_⟩;rw[hlen]at hv;obtain⟨t,rfl⟩:=yF rv hv;rw[Du hm];exact⟨.int _,H,kp h' tk kk,⟨t,rfl⟩,cA.dN sm (dg _) k⟩
theorem mZ{x:Str}{p':Pos}(hx:x="min")(hc:X.calm=true)(hg:Gl X x)(hm:X.mg x=none)(ha:SX X c a pa)(hs:starEach [a] X.env=(false,eval a X.env)::starEach [] X.env:=by rfl):SX X c (.Call (.Name x p') [a] [] pos) (.blt .Ez [pa]):=by subst hx;exact qx (fun h=>cW (Nb hc) hg hm boot_min h (he:=hs)) ha (fun ρ=>by rw[HH.ev]) rfl hs
theorem CV{K:PySem.W.Frag}{F H:Hp}{v:V}{d:D}(h:bW K F H v d)(f:flat d=true):jy v=true:=by cases d with|non=>rw[h.non];rfl|bl _=>rw[h.bl];rfl|int _=>rw[h.int];rfl|str _=>rw[h.str];rfl|tup _=>cases f|lst _=>cases f|cV _=>cases f|dv _ _=>cases f
theorem Yv{K:PySem.W.Frag}{F H:Hp}{v u:V}{d e:D}(h:bW K F H v d)(h':bW K F H u e)(f:flat d=true)(g:flat e=true):Ij v u=bw d e:=by cases d with
 |tup _=>cases f|lst _=>cases f|cV _=>cases f|dv _ _=>cases f|non=>rw[h.non];cases e with|tup _=>cases g|lst _=>cases g|cV _=>cases g|dv _ _=>cases g|non=>rw[h'.non];rfl|bl _=>rw[h'.bl];rfl|int _=>rw[h'.int];rfl|str _=>rw[h'.str];rfl
 |bl _=>rw[h.bl];cases e with|tup _=>cases g|lst _=>cases g|cV _=>cases g|dv _ _=>cases g|non=>rw[h'.non];rfl|bl _=>rw[h'.bl];rfl|int _=>rw[h'.int];rfl|str _=>rw[h'.str];rfl
 |int _=>rw[h.int];cases e with|tup _=>cases g|lst _=>cases g|cV _=>cases g|dv _ _=>cases g|non=>rw[h'.non];rfl|bl _=>rw[h'.bl];rfl|int _=>rw[h'.int];rfl|str _=>rw[h'.str];rfl
 |str _=>rw[h.str];cases e with|tup _=>cases g|lst _=>cases g|cV _=>cases g|dv _ _=>cases g|non=>rw[h'.non];rfl|bl _=>rw[h'.bl];rfl|int _=>rw[h'.int];rfl|str _=>rw[h'.str];rfl
theorem Tg{K:PySem.W.Frag}{F H:Hp}{v:V}{d:D}(h:bW K F H v d)(f:flat d=true):∀{ds:List D}{vs:List V},aB K F vs ds->ds.all flat=true->vs.all jy=true/\inV v vs=ds.any fun y=>bw y d|[],vs,r,_=>by rw[r.dI];exact⟨rfl,rfl⟩|e::ds,vs,r,g=>by obtain⟨w,ws,rfl,h1,t⟩:=r.bG;rw[List.all_cons,Bool.and_eq_true]at g;obtain⟨i1,i2⟩:=Tg h f t g.2;have q:bW K F H w e:=.inl h1;refine⟨by rw[List.all_cons,CV q g.1,i1];rfl,?_⟩;unfold inV at i2 ⊢;rw[List.any_cons,List.any_cons,i2,Yv q h g.1 f]
theorem zQ:dR X (compareOp .NotIn) (rD X.K (mG .vL)):=by rintro pins s σ H x y v u Q I rx ry⟨F,d,e,r,sm,px,py,he,k⟩;obtain⟨t,e1,e2⟩:=map_some (show(pD true d e).map _=some r from he);subst e2;obtain⟨ds,e3,e4⟩:=dJ e1;obtain⟨hf,e5⟩:=bB e4;rw[Bool.and_eq_true]at hf;obtain⟨p,xs,rfl,hq,rs⟩:=py.items sm e3;obtain⟨i1,i2⟩:=Tg px hf.1 rs hf.2;subst e5;refine qZ pins s σ H x _ v u Q I rx ry ⟨p,xs,rfl,hq,CV px hf.1,i1,?_⟩;rw[i2];exact cA.dN sm (fK _) k
end
end HH
end
section
namespace HH
open PySem
section
variable{i j:Int}{ds es:List D}{d:D}{b b':Bool}
@[simp]theorem Wr:uD .shl=BJ:=rfl
@[simp]theorem WX:uD .shr=Ea:=rfl
@[simp]theorem U5:uD .band=xm:=rfl
@[simp]theorem Rp:BJ (.int i) (.int j)=if 0<=j/\j<=1000/\i.natAbs<18446744073709551616 then some (.val (.int (i*2^j.toNat)))else none:=rfl
@[simp]theorem Qx:Ea (.int i) (.int j)=if 0<=j then some (.val (.int (i/2^j.toNat)))else none:=rfl
@[simp]theorem PN:xm (.int i) (.int j)=some (.val (.int (Builtin.bitAnd i j))):=rfl
@[simp]theorem QM:nY (.lst ds) (.int i)=if 0<=i/\0<ds.length/\ds.length*i.toNat<=lim then some (.own (List.replicate i.toNat ds).flatten)else none:=rfl
@[simp]theorem Ry:nY (.tup ds) (.int i)=if 0<=i/\0<ds.length/\ds.length*i.toNat<=lim then some (.val (.tup (List.replicate i.toNat ds).flatten))else none:=rfl
@[simp]theorem YJ:cm .isT (.bl b) (.bl true)=some b:=rfl
@[simp]theorem Wx:cm .VV (.bl b) (.bl true)=some (!b):=rfl
@[simp]theorem WN:blt .sum [.lst ds]=(ds.mapM fP).map fun ns=>.val (.int ns.sum):=rfl
@[simp]theorem Tq:blt .Ez [.lst ds]=(ds.mapM fP).bind fun ns=>ns.min?.map fun i=>.val (.int i):=rfl
@[simp]theorem Uc:blt .V0 [.lst ds]=(ds.mapM fP).bind fun ns=>ns.max?.map fun i=>.val (.int i):=rfl
end
@[simp]theorem ZM:type_of%@HH.ex.eq_17:=@HH.ex.eq_17
@[simp]theorem Zk:type_of%@HH.ex.eq_18:=@HH.ex.eq_18
@[simp]theorem Ys:type_of%@HH.ex.eq_19:=@HH.ex.eq_19
@[simp]theorem Yj:type_of%@HH.ex.eq_20:=@HH.ex.eq_20
@[simp]theorem Zb:type_of%@HH.ex.eq_21:=@HH.ex.eq_21
theorem Cd{ns:List Int}:(ns.map D.int).mapM fP=some ns:=by induction ns with|nil=>rfl|cons n ns ih=>simp[ih]
@[simp]theorem Rm{ns:List Int}:ns.mapM (fP ∘ D.int)=some ns:=by rw[<-Cd (ns:=ns),List.mapM_map]
@[simp]theorem SJ{bs:List Bool}:bs.mapM (vp ∘ D.bl)=some bs:=by induction bs with|nil=>rfl|cons b bs ih=>simp[ih]
theorem ni{S:List Int}{i:Int}:((S.map D.int).any fun y=>bw y (.int i))=S.contains i:=by induction S with|nil=>rfl|cons s S ih=>rw[List.map_cons,List.any_cons,List.contains_cons,ih,bw];rw[show(s==i)=(i==s)from Bool.eq_iff_iff.mpr ⟨fun h=>by simp at h ⊢;exact h.symm,fun h=>by simp at h ⊢;exact h.symm⟩]
theorem jV{S:List Int}:(S.map D.int).all flat=true:=by rw[List.all_eq_true];intro d hd;obtain⟨i,_,rfl⟩:=List.mem_map.mp hd;rfl
theorem aan{S:List Int}{i:Int}:cm .inn (.int i) (.lst (S.map D.int))=some (S.contains i):=by show pD false _ _=_;unfold pD;simp only[qJ,Option.bind_some,lB,jV,Bool.and_true,ni];rfl
theorem YG{S:List Int}{i:Int}:cm .inn (.int i) (.tup (S.map D.int))=some (S.contains i):=by show pD false _ _=_;unfold pD;simp only[qG,Option.bind_some,lB,jV,Bool.and_true,ni];rfl
theorem zc{S:List Int}{i:Int}:cm .vL (.int i) (.lst (S.map D.int))=some (!S.contains i):=by show pD true _ _=_;unfold pD;simp only[qJ,Option.bind_some,lB,jV,Bool.and_true,ni];rfl
theorem Q6{S:List Int}{i:Int}:cm .vL (.int i) (.tup (S.map D.int))=some (!S.contains i):=by show pD true _ _=_;unfold pD;simp only[qG,Option.bind_some,lB,jV,Bool.and_true,ni];rfl
theorem nD{n:Nat}{S:List Int}:cj (n+1) (.lst (S.map D.int))=true:=by rw[cj,List.all_eq_true];intro d hd;obtain⟨i,_,rfl⟩:=List.mem_map.mp hd;cases n<;>rfl
theorem pP:∀{S T:List Int},fG (S.map D.int) (T.map D.int)=(S==T)|[],[]=>by simp[fG]|[],_::_=>by simp[fG]|_::_,[]=>by simp[fG]|s::S,t::T=>by rw[List.map_cons,List.map_cons,fG,pP,bw];rfl
theorem Jk{S T:List Int}:cm .eq (.lst (S.map D.int)) (.lst (T.map D.int))=some (S==T):=by show Cg _ _=_;unfold Cg;rw[nD,nD,bw,pP];rfl
theorem Hj{S T:List Int}:cm .ne (.lst (S.map D.int)) (.lst (T.map D.int))=some (!(S==T)):=by show oA _ _=_;unfold oA;rw[nD,nD,bw,pP];rfl
theorem Xg{S:List Int}:cm .eq (.lst (S.map D.int)) (.lst [])=some S.isEmpty:=by rw[show(.lst []:D)=.lst (([]:List Int).map D.int)from rfl,Jk];cases S<;>rfl
theorem Xu{S:List Int}:cm .ne (.lst (S.map D.int)) (.lst [])=some (!S.isEmpty):=by rw[show(.lst []:D)=.lst (([]:List Int).map D.int)from rfl,Hj];cases S<;>rfl
theorem Jd{α:Type}{l:List α}{x:α}:at' (l++[x]) (-1)=some x:=by
 unfold at' jr;rw[if_neg (by decide),if_pos (by simp only[List.length_append,List.length_singleton];omega)];have:(-1+((l++[x]).length:Int)).toNat=l.length:=by simp only[List.length_append,List.length_singleton];omega
 rw[this];simp
theorem Em{α:Type}{l:List α}{f:α->D}{k:Nat}{x:α}(h:l[k]?=some x):at' (l.map f) (k:Int)=some (f x):=by have hk:=(List.getElem?_eq_some_iff.mp h).1;rw[DX (by simpa using hk),List.getElem?_map,h];rfl
theorem Ny{n k:Nat}(h:k<n):jr n (k:Int)=some k:=by unfold jr;rw[if_pos (by omega),if_pos (by omega)];simp
theorem Xa{α:Type}{l:List α}{i:Int}(h:0<=i)(h':i<l.length):∃x,at' l i=some x/\x∈l:=by
 rw[fW h h'];have hk:i.toNat<l.length:=by omega
 exact⟨l[i.toNat],by simp[hk],List.getElem_mem hk⟩
theorem Dh{is:List Nat}{one:Bool}{body:List Sl->Res Fl}{g:Nat->D}{N:Nat}(J:Nat->List Sl->Prop){Q:Fl->List Sl->Prop}(hb:∀i ρ,i<N->J i ρ->∃ρ1,cg ρ is one (g i)=some ρ1/\(body ρ1).sat (fQ (J (i+1)) Q))(hq:∀ρ,J N ρ->Q .next ρ){ρ:List Sl}(h0:J 0 ρ):(lL is one body ((List.range N).map g) ρ).sat Q:=by
 refine cX (fun r ρ=>∃i,i<=N/\r=((List.range N).map g).drop i/\J i ρ) ?_ ?_ ⟨0,Nat.zero_le _,rfl,h0⟩
 . rintro d r ρ⟨i,hi,e,j⟩;have hlt:i<N:=by
    rcases Nat.lt_or_ge i N with h|h;.exact h
    .rw[List.drop_eq_nil_of_le (by simpa using h)]at e;cases e
   rw[List.drop_eq_getElem_cons (by simpa using hlt)]at e;injection e with e1 e2;simp at e1;subst e1;obtain⟨ρ1,h1,h2⟩:=hb i ρ hlt j;refine⟨ρ1,h1,h2.imp fun fl ρ2 q=>?_⟩;cases fl with|next=>exact⟨i+1,hlt,e2,q⟩|cont=>exact⟨i+1,hlt,e2,q⟩|brk=>exact q|ret v=>exact q
 . rintro ρ⟨i,hi,e,j⟩;have:i=N:=by have hl:=congrArg List.length e;simp at hl;omega
   subst this;exact hq ρ j
theorem Rz{c:Call}{is:List Nat}{one:Bool}{elt:P}{t:Option P}(J:List Sl->Prop)(P:D->Prop){Q:List D->List Sl->Prop}{ds:List D}{ρ:List Sl}(j:J ρ)(h:∀d,d∈ds->∀ρ,J ρ->∃ρ1,cg ρ is one d=some ρ1/\(pK c t ρ1).sat fun b ρ2=>if b=true then(ev c elt ρ2).sat fun r ρ3=>P r.d/\J ρ3 else J ρ2)(k:∀xs ρ,J ρ->xs.length<=ds.length->(∀x∈xs,P x)->Q xs ρ):(j6 c is one t elt ds ρ).sat Q:=by suffices hh:∀(ds:List D)(acc:List D)(ρ:List Sl),J ρ->(∀x∈acc,P x)->(∀d,d∈ds->∀ρ,J ρ->∃ρ1,cg ρ is one d=some ρ1/\(pK c t ρ1).sat fun b ρ2=>if b=true then(ev c elt ρ2).sat fun r ρ3=>P r.d/\J ρ3 else J ρ2)->(turns is one (pK c t) (ev c elt) ds acc ρ).sat fun xs ρ=>J ρ/\(∀x∈xs,P x)/\xs.length<=acc.length+ds.length from(hh ds [] ρ j (by simp) h).imp fun xs ρ⟨q1,q2,q3⟩=>k xs ρ q1 (by simpa using q3) q2;intro ds;induction ds with|nil=>intro acc ρ j ha _;rw[turns];exact⟨j,ha,by simp⟩|cons d r ih=>
   intro acc ρ j ha h;obtain⟨ρ1,e,h1⟩:=h d (by simp) ρ j;rw[turns,e];show((pK c t ρ1).bind _).sat _;rw[bI];refine h1.imp fun b ρ2 q=>?_
   cases b with|true=>
     rw[if_pos rfl]at q;rw[if_pos rfl,bI];refine q.imp fun x ρ3⟨p,j3⟩=>?_;refine(ih (acc++[x.d]) ρ3 j3 (fun y hy=>?_) fun d' hd'=>h d' (by simp[hd'])).imp fun xs ρ⟨q1,q2,q3⟩=>⟨q1,q2,by simp at q3 ⊢;omega⟩;rcases List.mem_append.mp hy with hy|hy;.exact ha y hy
     .rw[List.mem_singleton.mp hy];exact p|false=>rw[if_neg (by simp)]at q;rw[if_neg (by simp)];exact(ih acc ρ2 q ha fun d' hd'=>h d' (by simp[hd'])).imp fun xs ρ⟨q1,q2,q3⟩=>⟨q1,q2,by simp at q3 ⊢;omega⟩
theorem Q3{c:Call}{is:List Nat}{one:Bool}{elt:P}(J:List Sl->Prop)(P:D->Prop){Q:List D->List Sl->Prop}{ds:List D}{ρ:List Sl}(j:J ρ)(h:∀d,d∈ds->∀ρ,J ρ->∃ρ1,cg ρ is one d=some ρ1/\(ev c elt ρ1).sat fun r ρ3=>P r.d/\J ρ3)(k:∀xs ρ,J ρ->xs.length=ds.length->(∀x∈xs,P x)->Q xs ρ):(j6 c is one none elt ds ρ).sat Q:=by suffices hh:∀(ds:List D)(acc:List D)(ρ:List Sl),J ρ->(∀x∈acc,P x)->(∀d,d∈ds->∀ρ,J ρ->∃ρ1,cg ρ is one d=some ρ1/\(ev c elt ρ1).sat fun r ρ3=>P r.d/\J ρ3)->(turns is one (pK c none) (ev c elt) ds acc ρ).sat fun xs ρ=>J ρ/\(∀x∈xs,P x)/\xs.length=acc.length+ds.length from(hh ds [] ρ j (by simp) h).imp fun xs ρ⟨q1,q2,q3⟩=>k xs ρ q1 (by simpa using q3) q2;intro ds;induction ds with|nil=>intro acc ρ j ha _;rw[turns];exact⟨j,ha,by simp⟩|cons d r ih=>
   intro acc ρ j ha h;obtain⟨ρ1,e,h1⟩:=h d (by simp) ρ j;rw[turns,e];show((pK c none ρ1).bind _).sat _;rw[pK];show((ev c elt ρ1).bind _).sat _;rw[bI];refine h1.imp fun x ρ3⟨p,j3⟩=>?_;refine(ih (acc++[x.d]) ρ3 j3 (fun y hy=>?_) fun d' hd'=>h d' (by simp[hd'])).imp fun xs ρ⟨q1,q2,q3⟩=>⟨q1,q2,by simp at q3 ⊢;omega⟩;rcases List.mem_append.mp hy with hy|hy;.exact ha y hy
   .rw[List.mem_singleton.mp hy];exact p
inductive A3(a b c:Prop):Prop where|mk(ha:a)(hb:b)(hc:c)
inductive A4(a b c d:Prop):Prop where|mk(ha:a)(hb:b)(hc:c)(hd:d)
inductive A5(a b c d e:Prop):Prop where|mk(ha:a)(hb:b)(hc:c)(hd:d)(he:e)
inductive A6(a b c d e f:Prop):Prop where|mk(ha:a)(hb:b)(hc:c)(hd:d)(he:e)(hf:f)
inductive A7(a b c d e f g:Prop):Prop where|mk(ha:a)(hb:b)(hc:c)(hd:d)(he:e)(hf:f)(hg:g)
inductive A8(a b c d e f g h:Prop):Prop where|mk(ha:a)(hb:b)(hc:c)(hd:d)(he:e)(hf:f)(hg:g)(hh:h)
inductive A9(a b c d e f g h i:Prop):Prop where|mk(ha:a)(hb:b)(hc:c)(hd:d)(he:e)(hf:f)(hg:g)(hh:h)(hi:i)
end HH
end
section
namespace HH
open PySem L2 PySem.Spec PyProof.Rows
section
variable{X:Cx}{c:Call}{n:Nat}{e a b d tg:Expr}{p pa pb pd:P}{pos:Pos}
theorem Ox{g:TG}{is:List Nat}(he:SX X c e p)(hg:PG X tg g)(hgo:Jj X.K (fun ρ d=>cg ρ is false d) g)(hs:swapsWithSole [tg] e pos.line X.env=pure false:=by rfl)(hw:swappedStores [tg] e X.env=pure none:=by rfl)(h1:(assignEach [tg] X.env).map (·.2)=[assign tg X.env]:=by rfl):SS X c n (.Assign [tg] e pos) (.unp is p):=by
 refine dZ (BZ he.ev hg hs hw h1) ?_;rintro D σ H⟨F,ρ,fl,ρ',g0,e,k⟩;rw[ex]at e;obtain⟨r,ρ1,e1,e⟩:=ao e;refine⟨F,ρ,r,ρ1,g0,e1,fun v F1 H1 s1 rr=>?_⟩;obtain⟨F2,s2,_,rp⟩:=s1.fH rr;split at e;.rename_i ds hd;obtain⟨ρ2,ρ3,e2,e⟩:=ao e;cases e;have zz:=aJ e2;clear e2;obtain⟨e2,e3⟩:=zz;rw[hd]at rp;exact hgo v (.tup ds) F2 ρ1 _ σ H1 _ s2.gs rp (by show cg ρ1 is false (.tup ds)=_;cases is<;>exact e2) fun σ' s3=>k F2 σ' H1 (s2.trans s3)
 .cases e
end
end HH
end
section
namespace HH
open PySem L2 PySem.Spec PyProof.Rows
section
variable{X:Cx}{c:Call}{n:Nat}{e a b d elt tg:Expr}{p pa pb pe:P}{pos:Pos}{elts:List Expr}{x1:Nat}{tp:Pos}
variable{scope:Scope}{N':List Str}{ifs:List Expr}{iter:Expr}
theorem Mh{x:Str}{k:Nat}{px apos cpos:Pos}(hN:X.N[k]?=some x)(hv:Fq X.env.scope x)(hline:(apos.endLine==cpos.line)=true:=by rfl)(hbase:attributeBase (.Name x px) "pop" X.env (eval (.Name x px) X.env)=eval (.Name x px) X.env:=by rfl)(hd:(x==("__debug__":Str))=false:=by decide)(hcd:(x==("__classdict__":Str))=false:=by decide):SX X c (.Call (.Attribute (.Name x px) "pop" apos) [] [] cpos) (.pop k):=by
 refine⟨dm (O7 PySem.F.plainAttrs_list PySem.F.slot_list_pop PySem.F.type_list_pop Pj (lM hN hv hd hcd) hbase hline) ?_,fun i h=>by cases h⟩;rintro σ H Q⟨F,ρ,r,ρ',g,e,kk⟩;rw[HH.ev]at e;split at e
 . rename_i bb ds q;have zz:=aJ e;clear e;obtain⟨e1,e2⟩:=zz;subst e2;obtain⟨dl,e3,e4⟩:=map_some e1;subst e4;obtain⟨ad,ys,q1,q2,q3,q4⟩:=g.qe k _ ds q rfl;have hl:=q4.length;have Wd:ds[ds.length-1]?=some dl:=by rw[<-List.getLast?_eq_getElem?];exact e3
   obtain⟨y,hy,ry⟩:=q4.get Wd;have q5:aB X.K F ys.dropLast ds.dropLast:=by have:=q4.take (ds.length-1);rw[List.dropLast_eq_take,List.dropLast_eq_take,hl];exact this
   refine⟨.ref ad,q1,.inl ⟨rfl,ys,dB.of q2⟩,_,ys,y,rfl,rfl,q2,by rw[hl];exact hy,?_⟩;exact kk y F _ (g.mut q q1 q5) ry
 .cases e
end
end HH
end
section
namespace HT
open PySem PySem.Spec PyProof.Rows
section
variable{prog:Program}{w:World}{A:Around}{E:Value->Shared->Prop}{s:Shared}
theorem uc{t sl:Addr}{its:Array Value}{vl vu:Value}{lo hi:Option Int}{Q:Value->Shared->Prop}(ht:IsTup s.heap t its)(hs:s.heap.IsSliceOf sl vl vu .none)(pl:IsPart vl lo)(pu:IsPart vu hi)(h1:cF its.size 0 lo=0)(h2:cF its.size its.size hi=its.size)(h:Q (.ref t) s):wpAny (model prog w) A (getItem (.ref t) (.ref sl)) Q E s:=by
 obtain⟨os,hos,hcs,hds⟩:=id hs;have hT:s.TypeIs (.ref sl) "slice":=⟨os,hos,hcs⟩;unfold getItem;try with_reducible refine wpAny_holding ?_
 first|refine wpAny_bind (wpAny_pure ?_)|skip
 refine wpAny_bind (wpAny_sequenceKey ht.typeIs (by decide) (wpAny_bind (wpAny_callSpecial?_slot (name:=Str.ofString "__getitem__") ht.typeIs slot_tuple_getitem (wpAny_call_entry slot_tuple_getitem ht.typeIs entry_tuple_getitem ?_ (args_tuple_getitem _ _)))));show wpAny _ _ (Builtin.Tuple.tupleItemsOf (.ref t)>>=_) _ _ s;refine wpAny_bind (tupleItemsOf_ ht (wpAny_bind (wpAny_typeOf hT ?_)));rw[if_pos (by decide)];refine wpAny_bind (fZ hs pl pu ?_);have abm:((((cF its.size 0 lo:Nat):Int)==0&&(1:Int)==1&&(cF its.size its.size hi-cF its.size 0 lo)==its.size)=true):=by rw[h1,h2];simp
 show wpAny _ _ (if(((cF its.size 0 lo:Nat):Int)==0&&(1:Int)==1&&(cF its.size its.size hi-cF its.size 0 lo)==its.size)=true then _ else _) _ _ s;rw[if_pos abm];unfold Builtin.Tuple.tupleIsExact;refine wpAny_bind (wpAny_bind (wpAny_typeOf ht.typeIs (wpAny_pure ?_)));rw[if_pos (by decide)];exact wpAny_bind (wpAny_rule (wpAny_pure ⟨_,rfl,wpAny_pure h⟩))
end
end HT
namespace HH
open PySem L2 PySem.Spec PyProof.Rows
noncomputable def YD:Expr->Bool|.Starred _ _=>false|_=>true
theorem bj{e:Expr}{es:List Expr}{env:Env}(h:YD e=true):starEach (e::es) env=(false,eval e env)::starEach es env:=by cases e with|Starred a b=>cases h|_=>rw[starEach];(intro e p z;cases z)
noncomputable def oY:List Int->List Expr->Option (List Expr)|[],es=>some es|i::is,.Constant (.int j) _ _::es=>if i=j then oY is es else none|_,_=>none
theorem sJ{X:L2.Cx}{c:Call}:∀(is:List Int){es es':List Expr}{ps':List P},oY is es=some es'->SA X c es' ps'->SA X c es (is.map (fun i=>P.con (.int i))++ps')|[],es,es',ps',h,r=>by cases h;exact r|i::is,[],es',ps',h,r=>by cases h|i::is,e::es,es',ps',h,r=>by cases e with
   |Constant v k p=>cases v with
     |int j=>
       rw[oY]at h;split at h;.rename_i hij;subst hij;exact mY aj (sJ is h r) (bj rfl)
       .cases h|_=>cases h
   |_=>cases h
theorem rA{n d:Nat}{o:Option Int}:HT.cF n d o=HH.cF n d o:=by cases o with|none=>rfl|some v=>
   show(if v<0 then(v+(n:Int)).toNat else min v.toNat n)=(if 0<=v then min v.toNat n else(v+n).toNat);by_cases h:0<=v;.rw[if_pos h,if_neg (by omega)]
   .rw[if_neg h,if_pos (by omega)]
theorem By{xs:List V}{lo hi:Option Int}:uA xs lo hi=HH.cut xs lo hi:=by unfold uA HH.cut;rw[rA,rA]
theorem aB.cut{K:PySem.W.Frag}{F:Hp}{ds:List D}{vs:List V}{lo hi:Option Int}(h:aB K F vs ds):aB K F (HH.cut vs lo hi) (HH.cut ds lo hi):=by unfold HH.cut;rw[h.length];exact(h.drop _).take _
section
variable{X:Cx}{c:Call}{n:Nat}{e a b:Expr}{p pa pb pl ph:P}{pos p2:Pos}{lo hi:Option Expr}
noncomputable def Z8(K:PySem.W.Frag):V->Option Int->Option Int->Hp->VK->Prop:=fun x lo hi H Q=>∃F d r,aF F H/\bW K F H x d/\QB d (some lo) (some hi)=some r/\∀v F' H',Ext F H F' H'->cA K F' H' H v r->Q v H'
theorem Ss:W4 X (Z8 X.K):=by rintro pins s σ H x v vl vu lo hi sl Q I rx hs pl pu⟨F,d,r,sm,px,he,k⟩;cases d with|lst ds=>cases he;obtain⟨a,xs,rfl,hq,rs⟩:=px.lst sm;refine Hr pins s σ H _ v vl vu lo hi sl Q I rx hs pl pu ⟨a,xs,rfl,hq,fun p hp=>?_⟩;rw[By];exact wQ sm rs.cut hp k|tup ds=>
   cases he;obtain⟨a,xs,rfl,hq,rs,rt⟩:=px.tup sm;by_cases hw:HT.cF xs.length 0 lo=0/\HT.cF xs.length xs.length hi=xs.length
   . cases rx;obtain⟨its,rv,ht,hz⟩:=I.tuple hq;have hlen:its.toArray.size=xs.length:=by rw[List.size_toArray];exact rv.length.symm
     refine⟨"tuple",_,slot_tuple_getitem.lookup,ht.typeIs,HT.uc ht hs pl pu (by rw[hlen];exact hw.1) (by rw[hlen];exact hw.2) ⟨.ref a,H,I,rfl,?_⟩⟩;have hc:HH.cut ds lo hi=ds:=by unfold HH.cut;rw[<-rs.length,<-rA,<-rA,hw.1,hw.2];simp[rs.length]
     rw[hc]at k;exact cA.dN sm rt k
   .refine Ms pins s σ H _ v vl vu lo hi sl Q I rx hs pl pu ⟨a,xs,rfl,hq,hw,fun p hp=>?_⟩;rw[By];exact zT sm rs.cut hp k|_=>cases he
noncomputable def SO(X:Cx)(c:Call)(o:Option Expr)(p:P):Prop:=∃t,PO X o t/\∀{σ:L2.St}{H F:Hp}{ρ ρ':List Sl}{d:D}{i:Option Int}{Q:Option Int->Hp->Prop},GS X.K F ρ σ H->cN (isVar p) (HH.ev c p) ρ=.ok d ρ'->part p d=some i->(∀F' H',bC X.K F ρ σ H F' ρ' σ H'->Q i H')->t σ H Q
theorem xW:SO X c none (.con .non):=by refine⟨_,Gm,fun{σ H F ρ ρ' d i Q}g e h k=>?_⟩;cases(show some none=some i from h);have e':(HH.ev c (.con .non) ρ).bind (fun r ρ=>.ok r.d ρ)=.ok d ρ':=e;clear e;rw[HH.ev]at e';cases e';exact k F H (.refl g)
theorem yo(h:SX X c e p)(hn:LQ p=false:=by rfl):SO X c (some e) p:=by obtain⟨t,h1,h2⟩:=h.cN;refine⟨_,Ht h1,fun{σ H F ρ ρ' d i Q}g e hp k=>?_⟩;unfold part at hp;rw[hn,if_neg (by decide)]at hp;obtain⟨j,e1,e2⟩:=map_some hp;cases gf e1;subst e2;exact h2 g e fun v F' H' s pv=>⟨j,pv.int,k F' H' s⟩
theorem vA{d:D}{x y:Option (Option Int)}{r:R}(h:QB d x y=some r):∃lo hi,x=some lo/\y=some hi:=by cases x with|none=>cases d<;>cases h|some lo=>cases y with|none=>cases d<;>cases h|some hi=>exact⟨lo,hi,rfl,rfl⟩
theorem vI(ha:SX X c a pa)(hl:SO X c lo pl)(hh:SO X c hi ph):SX X c (.Subscript a (.Slice lo hi none p2) pos) (.slice pa pl ph):=by obtain⟨tl,l1,l2⟩:=hl;obtain⟨th,h1,h2⟩:=hh;cases hv:isVar pa with|none=>refine⟨dm (uw Ss ha.ev l1 h1) ?_,fun i h=>by cases h⟩;rintro σ H Q⟨F,ρ,r,ρ',g,e,k⟩;rw[HH.ev,hv]at e;obtain⟨x,ρ1,e1',ea⟩:=ao e;clear e;have We:(HH.ev c pa ρ).bind (fun r ρ=>.ok r.d ρ)=.ok x ρ1:=e1';clear e1';obtain⟨rx,ρ1',e1,e0⟩:=ao We;clear We;cases e0;obtain⟨y,ρ2,e2,eb⟩:=ao ea;clear ea;obtain⟨z,ρ3,e3,ec⟩:=ao eb;clear eb;obtain⟨e,e4⟩:=aJ ec;clear ec;subst e4;obtain⟨lo',hi',q1,q2⟩:=vA e;rw[q1,q2]at e;refine⟨F,ρ,rx,_,g,e1,fun v F1 H1 s1 rr=>?_⟩;obtain⟨F2,s2,_,rp⟩:=s1.fH rr;refine l2 s2.gs e2 q1 fun F3 H3 s3=>h2 s3.gs e3 q2 fun F4 H4 s4=>?_;have s5:=s2.trans (s3.trans s4);refine⟨F4,_,r,s4.gs.sub,.inl ((rp.mono s3.cB).mono s4.cB),e,fun v F5 H5 x rn=>?_⟩;exact k v F5 H5 (s5.trans (x.stp s5.gs)) (.later s5 (rn.p7 s5.gs))|some i=>refine⟨dm (uw Ss (ha.var i hv) l1 h1) ?_,fun i h=>by cases h⟩;rintro σ H Q⟨F,ρ,r,ρ',g,e,k⟩;rw[HH.ev,hv]at e;obtain⟨x0,ρ0,e0',ea⟩:=ao e;clear e;obtain⟨e0,Jx⟩:=aJ e0';clear e0';subst Jx;obtain⟨y,ρ2,e2,eb⟩:=ao ea;clear ea;obtain⟨z,ρ3,e3,ec⟩:=ao eb;clear eb;obtain⟨x,ρ4,e5',ed⟩:=ao ec;clear ec;obtain⟨e5,e6⟩:=aJ e5';clear e5';subst e6;obtain⟨e,e4⟩:=aJ ed;clear ed;subst e4;obtain⟨lo',hi',q1,q2⟩:=vA e;rw[q1,q2]at e;obtain⟨v,hv1,_⟩:=g.pk e0;refine⟨v,hv1,l2 g e2 q1 fun F3 H3 s3=>h2 s3.gs e3 q2 fun F4 H4 s4=>?_⟩;have s5:=s3.trans s4;obtain⟨v',hv2,pv⟩:=s5.gs.pk e5;rw[hv1]at hv2;cases hv2;refine⟨F4,_,r,s4.gs.sub,pv,e,fun v F5 H5 x rn=>?_⟩;exact k v F5 H5 (s5.trans (x.stp s5.gs)) (.later s5 (rn.p7 s5.gs))
end
end HH
end
section
namespace L2
open PySem PySem.Spec PyProof.Rows
section
variable{X:Cx}{tg:Expr}
theorem pB:bootBuiltins "reversed"=some (.type "reversed"):=by decide+kernel
end
end L2
namespace HH
open PySem L2 PySem.Spec PyProof.Rows
section
variable{K:PySem.W.Frag}{F F1 H H1:Hp}{ρ ρ1:List Sl}{σ:L2.St}{ds:List D}{a:Addr}
theorem aB.rev:∀{ds:List D}{xs:List V},aB K F xs ds->aB K F xs.reverse ds.reverse|[],_,h=>by rw[h.dI];exact .nil|d::ds,_,h=>by obtain⟨v,r,rfl,h1,h2⟩:=h.bG;rw[List.reverse_cons,List.reverse_cons];exact(aB.rev h2).append (.cons h1 .nil)
end
section
variable{X:Cx}{c:Call}{a b d:Expr}{pa pb pd:P}{pos:Pos}
theorem o7{o o':Cm}{op op':CmpOp}(ho:dR X (compareOp op) (rD X.K (mG o)))(ho':dR X (compareOp op') (rD X.K (mG o')))(ha:SX X c a pa)(hb:SX X c b pb)(hd:SX X c d pd)(hm:lastMarks [op,op'] [b,d]=false:=by with_unfolding_all rfl):ST X c (.Compare a [op,op'] [b,d] pos) (.chain o o' pa pb pd):=by
 obtain⟨ta,tb,h1,h2,h3⟩:=ha.jJ hb;obtain⟨td,h4,h5⟩:=hd.cN;refine ye (Eg ho ho' h1 h2 h4 hm) fun σ H Q q=>oV (t:=BV (rD X.K (mG o)) (rD X.K (mG o')) ta tb td) (fun Q z=>?_) q;obtain⟨F,ρ,r,ρ',g,e,k⟩:=z;rw[HH.ev]at e;obtain⟨xy,ρ1,e1,e⟩:=ao e;obtain⟨t,ρ2,e2,e⟩:=ao e;have zz:=aJ e2;clear e2;obtain⟨e2,e3⟩:=zz;subst e3;have hfl:flat xy.2=true/\cm o xy.1 xy.2=some t:=by
  split at e2;.rename_i hf;exact⟨hf,e2⟩
  .cases e2
 obtain⟨hfl,e2⟩:=hfl;refine h3 g e1 fun v u F' H' s pv pu=>⟨F',xy.1,xy.2,.val (.bl t),s.gs.sub,pv,pu,by unfold mG;rw[e2];rfl,fun w F2 H2 x rn=>?_⟩;have s2:=s.trans (x.stp s.gs);have rn:Rep X.K F2 w (.bl t):=rn;rw[Rep]at rn;subst rn;refine⟨t,rfl,?_⟩;cases t with|false=>rw[if_neg Bool.false_ne_true]at e ⊢;cases e;exact k _ F2 H2 s2 (show Rep X.K F2 _ _ from fK _)|true=>
   rw[if_pos rfl]at e ⊢;obtain⟨z,ρ3,e3,e⟩:=ao e;obtain⟨e4,e5⟩:=aJ e;subst e5;refine h5 s2.gs e3 fun w F3 H3 s3 pw=>⟨F3,xy.2,z,r,s3.gs.sub,?_,pw,e4,fun w' F4 H4 x4 rn=>?_⟩
   . have x1:=x.fs;have x2:=s3.cB;rcases pu with pu|⟨_,_,_,_,_,_,h⟩;.exact .inl ((pu.mono x1).mono x2)
     .rw[h]at hfl;cases hfl
   .have s4:=s2.trans s3;exact k w' F4 H4 (s4.trans (x4.stp s4.gs)) (.later s4 (rn.p7 s4.gs))
end
end HH
end
section
namespace L2
open PySem PySem.Spec PyProof.Rows
noncomputable def jt(h:Heap)(e C:Addr)(tb:Value):Prop:=∃(o:Obj)(vs:Array Value),h.get? e=some o/\o.cls=.ref C/\o.data=.fields vs/\vs[1]?=some tb/\o.dict=none
theorem zJ{f:Array Value->Array Value}{o:Obj}:(Obj.mapFields f o).dict=o.dict:=by unfold Obj.mapFields;split<;>rfl
noncomputable def FP(h:Heap)(T:Addr)(fl:Value):Prop:=∃(o:Obj)(ts:Array Value),h.get? T=some o/\o.data=.fields ts/\ts[3]?=some fl
noncomputable def HR:Value->List Addr|.ref T=>[T]|_=>[]
structure my(fs ch:List Addr)(h h':Heap):Prop where
 keep:∀b o,h.get? b=some o->b∉ch->b∉fs->h'.get? b=some o
 slot:∀b o,h.get? b=some o->b∉ch->∃sl,h'.get? b=some {o with slots:=sl}
theorem my.trans{fs ch:List Addr}{h h1 h2:Heap}(a:my fs ch h h1)(b:my fs ch h1 h2):my fs ch h h2:=⟨fun x o e n1 n2=>b.keep x o (a.keep x o e n1 n2) n1 n2,fun x o e n=>by obtain⟨sl,q⟩:=a.slot x o e n;obtain⟨sl',q'⟩:=b.slot x _ q n;exact⟨sl',q'⟩⟩
theorem my.more{fs ch ch':List Addr}{h h':Heap}(a:my fs ch h h')(s:∀b∈ch,b∈ch'):my fs ch' h h':=⟨fun x o e n=>a.keep x o e fun z=>n (s x z),fun x o e n=>a.slot x o e fun z=>n (s x z)⟩
theorem my.of_keep{fs ch:List Addr}{h h':Heap}(k:∀b o,h.get? b=some o->b∉ch->h'.get? b=some o):my fs ch h h':=⟨fun b o e n _=>k b o e n,fun b o e n=>⟨o.slots,k b o e n⟩⟩
theorem my.set{fs:List Addr}(h:Heap)(a:Addr)(f:Obj->Obj):my fs [a] h (h.update a f):=.of_keep fun b o e n=>(Heap.get?_update_other _ _ (by simpa using Ne.symm (by simpa using n))).trans e
section
variable{M:Model}{A:Around}{E:Value->Shared->Prop}{s:Shared}
theorem jt.HF{base:Heap}{l:List Env}{e C:Addr}{tb:Value}(hx:jt s.heap e C tb)(hl:s.heap.FunFrames base l):e∉frs l:=fun hm=>by obtain⟨o,vs,h1,_,h2,_⟩:=hx;obtain⟨_,o',h3,h4⟩:=hl.mem hm;rw[h1]at h3;cases h3;exact h4 vs h2
theorem oJ{base:Heap}{env:Env}{outer:List Env}{L e C:Addr}{tb head:Value}{hadNext:Bool}{Q:Unit->Shared->Prop}(hfr:A.frames=some (env::outer))(hl:s.heap.FunFrames base (env::outer))(hf:env.frame=some L)(hx:jt s.heap e C tb)(k:∀h' T,s.heap.objs.size<=T->T≠e->my (frs (env::outer)) [e] s.heap h'->jt h' e C (.ref T)->FP h' T (rawInt L)->Q () {s with heap:=h'}):wpAny M A (do let a<-frameOf env;let pl<-entryPlaceOf L hadNext;let b<-EntryCells.newEntry head a .none (rawInt L) .none pl;setField (.ref e) 1 b) Q E s:=by
 have hne:=hx.HF hl;obtain⟨oe,vs,he,hcl,hd,h1,hdi⟩:=hx;have hsz:=(Array.getElem?_eq_some_iff.mp h1).1;refine wpAny_bind (wpAny_frameOf_fun hfr hl hf fun h1' so=>wpAny_bind (wpAny_entryPlaceOf fun pl hpl=>?_));unfold EntryCells.newEntry newFields;refine wpAny_bind (wpAny_newObj_type ?_ (hpl.sizeOk5 _ _ _ _ _));have b1:my (frs (env::outer)) [e] s.heap h1':=⟨fun b o q _ n=>(so.2.1 b n).trans q,fun b o q _=>so.2.2 b o q⟩;have he1:h1'.get? e=some oe:=(so.2.1 e hne).trans he;generalize hO:({cls:=.type "traceback",dict:=none,data:=.fields ([head,.ref L,.none,rawInt L,.none]++(if pl.isEmpty then List.replicate 6 Value.none else pl)).toArray}:Obj)=oT;have he2:=Heap.get?_push_of_some (h:=h1') oT he1;refine wpAny_setField he2 hd hsz ?_;have hTe:h1'.objs.size≠e:=Nat.ne_of_gt (Heap.lt_size he1);have Qm:=Obj.data_mapFields hd (·.setIfInBounds 1 (Value.ref h1'.objs.size));have he3:=Heap.get?_update_self (Obj.mapFields (·.setIfInBounds 1 (Value.ref h1'.objs.size))) he2 (Obj.isFreed_of_fields Qm);have hT3:((h1'.push oT).update e (Obj.mapFields (·.setIfInBounds 1 (Value.ref h1'.objs.size)))).get? h1'.objs.size=some oT:=by rw[Heap.get?_update_other _ _ (Ne.symm hTe)];exact Heap.get?_push_size h1' (by rw[<-hO];rfl)
 refine k _ h1'.objs.size ?_ hTe (b1.trans ((my.of_keep fun b o q _=>Heap.get?_push_of_some _ q).trans (my.set _ _ _))) ⟨_,_,he3,?_,Qm,by simp[hsz],zJ.trans hdi⟩ ⟨oT,_,hT3,by rw[<-hO],?_⟩;.exact Nat.le_of_eq so.1.symm
 .rw[Obj.cls_mapFields];exact hcl
 .first|(simp;done)|(rcases hpl with rfl|⟨_,_,_,_,_,_,_,rfl⟩<;>simp)
theorem qF{base:Heap}{env:Env}{outer:List Env}{L e C:Addr}{tb:Value}{Q:Unit->Shared->Prop}(hfr:A.frames=some (env::outer))(hl:s.heap.FunFrames base (env::outer))(hf:env.frame=some L)(hx:jt s.heap e C tb)(ht:tb=.none\/∃T,tb=.ref T/\T≠e/\FP s.heap T .none)(k:∀h' T',s.heap.objs.size<=T'->T'≠e->my (frs (env::outer)) (e::HR tb) s.heap h'->jt h' e C (.ref T')->FP h' T' .none->Q () {s with heap:=h'}):wpAny M A (noteFrame (.ref e) env) (fun _ s2=>wpAny M A (setFlight (.ref e) none) Q E s2) E s:=by
 have fin:∀(h2:Heap)(T':Addr),s.heap.objs.size<=T'->T'≠e->my (frs (env::outer)) (e::HR tb) s.heap h2->jt h2 e C (.ref T')->FP h2 T' (rawInt L)->wpAny M A (setFlight (.ref e) none) Q E {s with heap:=h2}:=by
  intro h2 T' n0 n2 b2 x2 t2;have n1:s.heap.get? T'=none:=Heap.get?_none_of_le n0;obtain⟨o,vs,q1,q2,q3,q4,q5⟩:=x2;obtain⟨oT,ts,z1,z2,z3⟩:=t2;unfold setFlight;refine wpAny_bind (wpAny_field q1 q3 q4 ?_);rw[if_pos (show(Value.ref T' !=Value.none)=true from by simp)];have hsz:=(Array.getElem?_eq_some_iff.mp z3).1;have hd:=Obj.data_mapFields z2 (·.setIfInBounds 3 ((none:Option Addr).elim Value.none fun f=>rawInt f));refine wpAny_setField z1 z2 hsz (k _ T' n0 n2 ⟨fun b o' e' n f=>?_,fun b o' e' n=>?_⟩ ⟨o,vs,?_,q2,q3,q4,q5⟩ ⟨_,_,Heap.get?_update_self _ z1 (Obj.isFreed_of_fields hd),hd,by simp[hsz]⟩)
  . have:T'≠b:=by rintro rfl;rw[n1]at e';cases e'
    rw[Heap.get?_update_other _ _ this];exact b2.keep b o' e' n f
  . have:T'≠b:=by rintro rfl;rw[n1]at e';cases e'
    obtain⟨sl,q⟩:=b2.slot b o' e' n;exact⟨sl,by rw[Heap.get?_update_other _ _ this];exact q⟩
  .rw[Heap.get?_update_other _ _ n2];exact q1
 obtain⟨o,vs,q1,q2,q3,q4,q5⟩:=id hx;unfold noteFrame;simp only[hf];refine wpAny_bind (wpAny_field q1 q3 q4 ?_);rcases ht with rfl|⟨T,rfl,hTe,oT,ts,z1,z2,z3⟩;.rw[if_neg (by decide)];exact oJ hfr hl hf hx fun h' T' n1 n2 b x t=>fin h' T' n1 n2 b x t
 . rw[if_pos (show(Value.ref T !=Value.none)=true from by simp)];refine wpAny_bind (wpAny_field z1 z2 z3 ?_);rw[if_neg (show ¬((Value.none==rawInt L)=true)from by simp[rawInt])];refine wpAny_bind (wpAny_setField z1 z2 (Array.getElem?_eq_some_iff.mp z3).1 ?_);have b0:my (frs (env::outer)) [T] s.heap (s.heap.update T (Obj.mapFields (·.setIfInBounds 3 Value.none))):=my.set _ _ _;have hx':jt (s.heap.update T (Obj.mapFields (·.setIfInBounds 3 Value.none))) e C (.ref T):=⟨o,vs,by rw[Heap.get?_update_other _ _ hTe];exact q1,q2,q3,q4,q5⟩;have hl':(s.heap.update T (Obj.mapFields (·.setIfInBounds 3 Value.none))).FunFrames base (env::outer):=hl.of_keeps fun b o' e' nf=>by
    have:T≠b:=by rintro rfl;rw[z1]at e';cases e';exact nf ts z2
    exact⟨o',by rw[Heap.get?_update_other _ _ this];exact e',rfl⟩
   refine oJ (s:={s with heap:=s.heap.update T (Obj.mapFields (·.setIfInBounds 3 Value.none))}) hfr hl' hf hx' fun h' T' n1 n2 b x t=>fin h' T' ?_ n2 ((b0.more (by simp[HR])).trans (b.more (by simp))) x t;exact Nat.le_trans (Nat.le_of_eq (Heap.size_update _ _ _).symm) n1
end
end L2
end
section
namespace L2
open PySem PySem.Spec PyProof.Rows
structure Wm(old:Heap)(H:Hp)(C e:Addr)(h:Heap):Prop where
 free:H e=none
 new:old.get? e=none
 ex:∃tb,jt h e C tb/\(tb=.none\/∃T,tb=.ref T/\T≠e/\FP h T .none/\H T=none/\old.get? T=none)
noncomputable def yg(P:Program)(w:World):Aw:=fun outer H s E e s'=>∃(H':Hp)(C ea:Addr),e=.ref ea/\s'.os=s.os/\AllBare s'.gens/\Un (frs outer) [] H H' s.heap s'.heap/\jF P w H' s'.heap/\Wm s.heap H' C ea s'.heap/\E e (some C) H'
theorem my.hok{P:Program}{w:World}{H:Hp}{h h':Heap}{fs ch:List Addr}(b:my fs ch h h')(o:jF P w H h)(h1:∀c∈fs,H c=none)(h2:∀c∈ch,H c=none):jF P w H h':=by
 intro a u e;refine(o a u e).stay (fun c v hc q=>b.keep c v q (fun z=>?_) fun z=>?_) (fun c q=>q) fun c xs q=>q
 . have:=h2 c z;rcases hc with rfl|hc;.rw[e]at this;cases this
   .rw[hc]at this;cases this
 . have:=h1 c z;rcases hc with rfl|hc;.rw[e]at this;cases this
   .rw[hc]at this;cases this
section
variable{X:Cx}{pins:List (Addr×Obj)}{σ:St}{H:Hp}{s:Shared}
theorem gone{h h':Heap}{fs ex:List Addr}{H H':Hp}(u:Un fs ex H H' h h'){b:Addr}(hb:b∉ex)(n:h'.get? b=none):h.get? b=none:=by cases q:h.get? b with|none=>rfl|some o=>obtain⟨o',z⟩:=u.there b o q hb;rw[n]at z;cases z
theorem sU{tb:Value}{b:Addr}(h:b∈HR tb):tb=.ref b:=by cases tb with|ref T=>simp[HR]at h;rw[h]|_=>simp[HR]at h
theorem qH{outer:List Env}{h':Heap}{C e T':Addr}{tb:Value}(I:Inv X pins σ H s)(hex:X.ex=[])(mX:X.stack=X.env::X.outer/\X.env.frame=some X.env.locals)(f:Wm X.s₀.heap H C e s.heap)(hx:jt s.heap e C tb)(ht:tb=.none\/∃T,tb=.ref T/\T≠e/\FP s.heap T .none/\H T=none/\X.s₀.heap.get? T=none)(n0:s.heap.objs.size<=T')(n2:T'≠e)(b:my (frs X.stack) (e::HR tb) s.heap h')(x':jt h' e C (.ref T'))(t':FP h' T' .none):Un X.fs [] X.H₀ H X.s₀.heap h'/\jF X.prog X.w H h'/\Wm X.s₀.heap H C e h':=by
 have vR:∀c∈e::HR tb,H c=none/\X.s₀.heap.get? c=none:=fun c hc=>by
  rcases List.mem_cons.mp hc with rfl|hc;.exact⟨f.free,f.new⟩
  . have:=sU hc;subst this;rcases ht with z|⟨T,z,_,_,z1,z2⟩;.cases z
    .cases z;exact⟨z1,z2⟩
 have hfs:frs X.stack=X.env.locals::X.fs:=by rw[mX.1];simp[frs,mX.2,Cx.fs]
 have hloc:X.s₀.heap.get? X.env.locals=none:=Heap.get?_none_of_le I.ok.above;have hT':H T'=none:=I.hok.fresh n0;have n1:s.heap.get? T'=none:=Heap.get?_none_of_le n0;have u:=I.base;rw[hex]at u;refine⟨⟨fun c o q n nf _=>?_,fun c o q n hf _=>?_,fun c o q n _=>u.free c o q n (by simp),fun c o q _=>?_,u.tups,u.mW,u.pQ⟩,b.hok I.hok I.nM fun c hc=>(vR c hc).1,⟨f.free,f.new,_,x',.inr ⟨T',rfl,n2,t',hT',gone u (by simp) n1⟩⟩⟩
 . refine b.keep c o (u.keep c o q n nf (by simp)) (fun z=>?_) (fun z=>?_);.rw[(vR c z).2]at q;cases q
   . rw[hfs]at z;rcases List.mem_cons.mp z with rfl|z;.rw[hloc]at q;cases q
     .exact nf z
 . obtain⟨sl,q'⟩:=u.slot c o q n hf (by simp);obtain⟨sl',q''⟩:=b.slot c _ q' fun z=>by rw[(vR c z).2]at q;cases q
   exact⟨sl',q''⟩
 . obtain⟨o',q'⟩:=u.there c o q (by simp);obtain⟨sl,q''⟩:=b.slot c _ q' fun z=>by rw[(vR c z).2]at q;cases q
   exact⟨_,q''⟩
theorem bZ.there{P:Program}{w:World}{H:Hp}{h:Heap}{a:Addr}{o:HO}(x:bZ P w H h a o):∃u,h.get? a=some u:=by cases o with|lst xs=>obtain⟨_,_,_,_,e⟩:=x;exact⟨_,e⟩|tup xs=>obtain⟨_,_,_,_,e,_⟩:=x;exact⟨_,e⟩|dK kvs=>obtain⟨_,_,_,_,o,_,_,e,_⟩:=x;exact⟨_,e⟩|dT kvs=>obtain⟨_,_,_,_,o,_,_,e,_⟩:=x;exact⟨_,e⟩|set S n=>obtain⟨o,_,_,_,e,_⟩:=x;exact⟨_,e⟩|ins C dx fs=>obtain⟨_,_,_,e,_⟩:=x;exact⟨_,e⟩|own y=>obtain⟨_,e⟩:=x;exact⟨_,e⟩|xd fs=>obtain⟨_,⟨_,_,_,e,_⟩,_⟩:=x;exact⟨_,e⟩|yU lo hi=>obtain⟨_,_,_,e⟩:=x;exact⟨_,e⟩|fH ob u=>obtain⟨e,_⟩:=x;exact⟨_,e⟩|Ks ps=>exact⟨_,x⟩|met f y=>exact⟨_,x⟩|ext φ=>obtain⟨_,⟨_,e⟩,_⟩:=x;exact⟨_,e⟩
theorem jF.none{P:Program}{w:World}{H:Hp}{h:Heap}{a:Addr}(o:jF P w H h)(n:h.get? a=none):H a=none:=by cases q:H a with|none=>rfl|some u=>obtain⟨v,z⟩:=(o a u q).there;rw[n]at z;cases z
noncomputable def Off(pn:List (Addr×Obj))(e:Addr)(h:Heap):Prop:=∀p∈pn,p.1≠e/\∀C tb,jt h e C tb->tb≠.ref p.1
noncomputable def zb(X:Cx)(E:XK):Prop:=∀(pins:List (Addr×Obj))(σ:St)(H:Hp)(s:Shared)(C e:Addr),Inv X pins σ H s->Wm X.s₀.heap H C e s.heap->Off X.pn e s.heap->E (.ref e) (some C) H->X.xe (.ref e) s
theorem uP{P:Program}{w:World}{K:PySem.W.Frag}{mg:Str->Option Value}{base:Heap}{N:List Str}{qual:Str}{scope:Scope}{f:Addr}{cd:Value}{A:Around}{outer:List Env}{s0:Shared}{H0:Hp}{E:XK}:zb (lz (yg P w) P w K mg base N qual scope f cd A outer s0 H0 E) E:=by intro pins σ H s C e I fl _ q;obtain⟨tb,hx,ht⟩:=fl.ex;show wpAny (model P w) (A.deeper (envOfC qual scope s0.heap.objs.size f cd)) (leaving (envOfC qual scope s0.heap.objs.size f cd) (.ref e)) (fun _ s''=>yg P w outer H0 s0 E (.ref e) s'') _ s;unfold leaving;refine wpAny_bind (qF (base:=base) I.ok.frames I.stack rfl hx (ht.imp id fun⟨T,a,b,c,_⟩=>⟨T,a,b,c⟩) fun h' T' n1 n2 b x' t'=>?_);obtain⟨u,ok,Wc⟩:=qH (outer:=outer) I rfl ⟨rfl,rfl⟩ fl hx ht n1 n2 b x' t';exact⟨H,C,e,rfl,I.os,I.bare,u,ok,Wc,q⟩
theorem uJ{P:Program}{w:World}{K:PySem.W.Frag}{mg:Str->Option Value}{base:Heap}{N:List Str}{qual:Str}{scope:Scope}{f:Addr}{cd:Value}{A:Around}{outer:List Env}{s0:Shared}{H0:Hp}{E:XK}:PassesOwn (model P w) (lz (yg P w) P w K mg base N qual scope f cd A outer s0 H0 E).A (lz (yg P w) P w K mg base N qual scope f cd A outer s0 H0 E).env (lz (yg P w) P w K mg base N qual scope f cd A outer s0 H0 E).xe:=PassesOwn.leaving
theorem U0{E:XK}(hex:X.ex=[])(hX:zb X E):Passes (yg X.prog X.w) X E:=by
 rintro pins σ H s e s' I⟨H',C,ea,he,os,bare,un,ok,fl,q⟩;subst he;obtain⟨hh,g,d,t,os'⟩:=s';obtain rfl:os'=s.os:=os;have I':Inv X pins σ H' ⟨hh,g,d,t,s.os⟩:=I.call (h':=hh) (g':=g) (d':=d) (t':=t) (ch:=[]) un ok bare (fun b z=>absurd z (by simp));have up:∀b,s.heap.get? b=none->X.s₀.heap.get? b=none:=fun b n=>by cases z:X.s₀.heap.get? b with|none=>rfl|some o=>obtain⟨o',z'⟩:=I.base.there b o z (by rw[hex];simp);rw[n]at z';cases z'
 obtain⟨tb,hx,ht⟩:=fl.ex;exact hX pins σ H' _ C ea I' ⟨fl.free,up _ fl.new,tb,hx,ht.imp id fun⟨T,a,b,c,d',n⟩=>⟨T,a,b,c,d',up _ n⟩⟩ (fun p hp=>by
  have hq:=(I.pin p (List.mem_append_left _ hp)).1;refine⟨fun z=>?_,fun C2 tb2 h2 z=>?_⟩;.rw[z,fl.new]at hq;cases hq
  . obtain⟨o,vs,q1,_,q3,q4,_⟩:=hx;obtain⟨o2,vs2,r1,_,r3,r4,_⟩:=h2;rw[q1]at r1;cases r1;rw[q3]at r3;cases r3;rw[q4]at r4;cases r4;rcases ht with t|⟨T,t,_,_,_,n⟩;.rw[t]at z;cases z
    .rw[t]at z;cases z;rw[n]at hq;cases hq) q
theorem CT{x:Str}{C:Addr}{B newId initId:String}{bm:List Value}{txt:Str}{E:XK}{np cpos cp pos:Pos}{ck}(hc:X.calm=true)(hex:X.ex=[])(hg:Gl X x)(O:OwnCls x C bm newId X.mg X.base)(FB:ExcBaseFacts B newId initId bm)(hX:zb X E)(hd:(x==("__debug__":Str))=false:=by decide)(he:starEach [.Constant (.str txt) ck cp] X.env=(false,eval (.Constant (.str txt) ck cp) X.env)::starEach [] X.env:=by rfl)(hpl:(backTo cpos (starEach [] X.env)).any (·.1)=false:=by rfl):PS X (.Raise (some (.Call (.Name x np) [.Constant (.str txt) ck cp] [] cpos)) none pos) (fun _ _ H=>∀e,E (.ref e) (some C) H):=by
 intro pins s σ H D I h;obtain⟨tl,N,nm,q,bs,hdct,sn,sub,ab,col,dd,k0,k1,k2,k3,k5,mN,hC,hN,hni,T⟩:=O.obj;refine wpAny_Raise_call_subT (C:=C) (nm:=nm) (q:=q) (N:=N) (bs:=bs) (bm:=tl) (hdct:=hdct) (sn:=sn) (sub:=sub) (ab:=ab) (col:=col) (dd:=dd) (k0:=k0) (k1:=k1) (k2:=k2) (k3:=k3) (k5:=k5) FB (mN:=mN) (T.hasType FB.hasBase) (I.ok.hd hc) (by rw[he];exact hpl) hni (nP I hg O.bound ⟨rfl,?_⟩ hd);rw[he];have I2:Inv X pins σ H {s with toks:=s.toks+1}:=I.tok _;refine Calls.evalArgs_plain (Calls.spliced_cons (Calls.Constant_str (k:=ck) (pos:=cp) (Calls.spliced_nil ⟨rfl,by show 1<=sizeLine;decide,I2.bk _ _ hC,hN.keeps I2.bk,T.keeps I2.bk,fun h' e m=>?_⟩)));have I3:Inv X pins σ H {s with heap:=h',toks:=s.toks+1}:=I2.kept (t':=s.toks+1) m.keeps;obtain⟨t,ht,_⟩:=m.there;have up:X.s₀.heap.get? e=none:=gone I.base (by rw[hex];simp) m.new;exact hX pins σ H _ C e I3 ⟨jF.none I.hok m.new,up,.none,⟨_,_,ht,rfl,rfl,rfl,rfl⟩,.inl rfl⟩ (fun p hp=>by
  have hq:=(I.pin p (List.mem_append_left _ hp)).1;refine⟨fun z=>?_,fun C2 tb2 h2 z=>?_⟩;.rw[z,show s.heap.get? e=none from m.new]at hq;cases hq
  .obtain⟨o2,vs2,r1,_,r3,r4,_⟩:=h2;rw[ht]at r1;cases r1;cases r3;rw[z]at r4;cases r4) (h e)
end
end L2
end
section
namespace L2
open PySem PySem.Spec PyProof.Rows
section
variable{M:Model}{A:Around}{E:Value->Shared->Prop}
theorem qd{h:Heap}{g:Array GenState}{d:Drawn}{t:Nat}{os:OsState}{e C C2:Addr}{oe:Obj}{Q:Bool->Shared->Prop}{nm q:Str}{N:Addr}{bs bm:List Value}{hdct:Bool}{sn:List Str}{sub:List Value}{ab:Bool}{col:Option Bool}{dd:Option Addr}{k0 k1 k2 k3 k5:Option Value}{newId:String}{nm' q':Str}{N':Addr}{bs' bm':List Value}{Wf:Bool}{sn':List Str}{abn:List Value}{ab':Bool}{abo:Option Bool}{dd':Option Addr}{k0' k1' k2' KC k5':Option Value}{newId':String}(hC:h.get? C=some (excClassObj nm q C N bs bm hdct sn sub ab col dd k0 k1 k2 k3 k5 newId))(XR:h.get? C2=some (excClassObj nm' q' C2 N' bs' bm' Wf sn' abn ab' abo dd' k0' k1' k2' KC k5' newId'))(he:h.get? e=some oe)(hcls:oe.cls=.ref C)(hbase:bm'.contains (.type "BaseException")=true)(hab:(Value.ref C::bm).contains (.ref C2)=true)(hq:Q true ⟨h,g,d,t,os⟩):wpAny M A (excMatches (.ref e) (.ref C2)) Q E ⟨h,g,d,t,os⟩:=by
 have hcB:(Value.ref C2::bm').contains (.type "BaseException")=true:=by rw[List.contains_cons,hbase,Bool.or_true]
 have f:=tc_notTuple;unfold excMatches;repeat(first|(with_reducible refine wpAny_loadPart_at he ?_;rw[hcls])|with_reducible refine wpAny_loadPart_at XR ?_|(with_reducible refine wpAny_isSubtype_exc XR ?_;rw[hcB])|(with_reducible refine wpAny_isSubtype_exc hC ?_;rw[hab])|wp_step)
 exact hq
end
noncomputable def Under(h:Heap)(C C2:Addr):Prop:=∃nm q N bs bm hdct sn sub ab col dd k0 k1 k2 k3 k5 newId,h.get? C=some (excClassObj nm q C N bs bm hdct sn sub ab col dd k0 k1 k2 k3 k5 newId)/\(Value.ref C::bm).contains (.ref C2)=true
theorem Under.keeps{h h':Heap}{C C2:Addr}(u:Under h C C2)(k:∀b o,h.get? b=some o->h'.get? b=some o):Under h' C C2:=by obtain⟨nm,q,N,bs,bm,hdct,sn,sub,ab,col,dd,k0,k1,k2,k3,k5,newId,hC,hin⟩:=u;exact⟨nm,q,N,bs,bm,hdct,sn,sub,ab,col,dd,k0,k1,k2,k3,k5,newId,k _ _ hC,hin⟩
end L2
end
section
namespace L2
open PySem PySem.Spec PyProof.Rows
noncomputable def mR(X:Cx)(pins:List (Addr×Obj))(lJ:Value->Shared->Prop):Cx:={X with pn:=X.pn++pins,xe:=lJ}
noncomputable def yj(X:Cx)(e:Addr):Cx:={X with A:=X.A.mark (some (.ref e)),calm:=false}
section
variable{X:Cx}{pins vK:List (Addr×Obj)}{σ:St}{H:Hp}{s:Shared}{lJ:Value->Shared->Prop}{e:Addr}
theorem DK:X.Ok↔(mR X pins lJ).Ok:=⟨fun o=>⟨o.mod,o.kind,o.glob,o.blt,o.above,o.inj,o.has,o.cab,o.hd,o.frames,o.Ku,o.RZ,o.bs,o.Ax,o.tQ,o.vJ,o.jK,o.FQ⟩,fun o=>⟨o.mod,o.kind,o.glob,o.blt,o.above,o.inj,o.has,o.cab,o.hd,o.frames,o.Ku,o.RZ,o.bs,o.Ax,o.tQ,o.vJ,o.jK,o.FQ⟩⟩
theorem Ho:X.Ok->(yj X e).Ok:=fun o=>⟨o.mod,o.kind,o.glob,o.blt,o.above,o.inj,o.has,o.cab,(fun z=>by cases z),o.frames,o.Ku,o.RZ,o.bs,o.Ax,o.tQ,o.vJ,o.jK,o.FQ⟩
theorem Hl(I:Inv X pins σ H s):Inv (mR X pins lJ) [] σ H s:=⟨DK.mp I.ok,I.os,I.bare,I.base,I.loc,I.cell,I.free,I.dO,fun p hp=>I.pin p (by simpa[mR]using hp),I.hok,I.len⟩
theorem j8(I:Inv (mR X pins lJ) vK σ H s):Inv X pins σ H s:=⟨DK.mpr I.ok,I.os,I.bare,I.base,I.loc,I.cell,I.free,I.dO,fun p hp=>I.pin p (List.mem_append_left _ hp),I.hok,I.len⟩
theorem Et(I:Inv X pins σ H s):Inv (yj X e) pins σ H s:=⟨Ho I.ok,I.os,I.bare,I.base,I.loc,I.cell,I.free,I.dO,I.pin,I.hok,I.len⟩
theorem Inv.but{h':Heap}{ch:List Addr}(I:Inv X pins σ H s)(b:my (frs X.stack) ch s.heap h')(un:Un X.fs X.ex X.H₀ H X.s₀.heap h')(ok:jF X.prog X.w H h')(nl:X.env.locals∉ch)(nc:∀x c,X.env.cells.lookup x=some c->c∉ch)(np:∀p∈X.pn++pins,p.1∉ch):Inv X pins σ H {s with heap:=h'}:=by
 have cel:∀x c v,X.env.cells.lookup x=some c->s.heap.IsCell c v->h'.IsCell c v:=fun x c v hc⟨o,ho,hd⟩=>by obtain⟨sl,q⟩:=b.slot c o ho (nc x c hc);exact⟨_,q,hd⟩
 refine⟨I.ok,I.os,I.bare,un,?_,fun x c hc=>?_,I.free,I.dO,fun p hp=>?_,ok,I.len⟩;.obtain⟨m,⟨o,es,ep,ho,r⟩,hv⟩:=I.loc;obtain⟨sl,hL⟩:=b.slot _ o ho nl;refine⟨m,⟨_,es,ep,hL,r⟩,fun i x v h1 h2 h3=>?_⟩;obtain⟨u,ru,lk⟩:=hv i x v h1 h2 h3;exact⟨u,ru,lk.imp id fun⟨k,c,hc,ic⟩=>⟨k,c,hc,cel x c _ hc ic⟩⟩
 .obtain⟨v,hv⟩:=I.cell x c hc;exact⟨v,cel x c v hc hv⟩
 .obtain⟨p1,p2,p3,p4,p5⟩:=I.pin p hp;exact⟨b.keep _ _ p1 (np p hp) fun z=>(List.mem_cons.mp (I.pq _ z)).elim p3 p4,p2,p3,p4,p5⟩
theorem jt.nl{C:Addr}{tb:Value}(I:Inv X pins σ H s)(x:jt s.heap e C tb):X.env.locals≠e/\∀y c,X.env.cells.lookup y=some c->c≠e:=by
 obtain⟨o,vs,h1,_,h2,_⟩:=x;refine⟨fun z=>?_,fun y c hc z=>?_⟩;.obtain⟨m,⟨o',es,ep,ho,r,_⟩,_⟩:=I.loc;rw[z,h1]at ho;cases ho;rw[h2]at r;cases r
 .obtain⟨v,o',ho,r⟩:=I.cell y c hc;rw[z,h1]at ho;cases ho;rw[h2]at r;cases r
theorem FP.nl{T:Addr}{fl:Value}(I:Inv X pins σ H s)(x:FP s.heap T fl):X.env.locals≠T/\∀y c,X.env.cells.lookup y=some c->c≠T:=by
 obtain⟨o,vs,h1,h2,_⟩:=x;refine⟨fun z=>?_,fun y c hc z=>?_⟩;.obtain⟨m,⟨o',es,ep,ho,r,_⟩,_⟩:=I.loc;rw[z,h1]at ho;cases ho;rw[h2]at r;cases r
 .obtain⟨v,o',ho,r⟩:=I.cell y c hc;rw[z,h1]at ho;cases ho;rw[h2]at r;cases r
end
end L2
end
section
namespace HH
open PySem L2 PySem.Spec PyProof.Rows
noncomputable def tX(K:PySem.W.Frag)(W:Nat->Hp->Prop)(g:List Sl->Option (Nat×List Sl)):TS:=fun _ σ H=>∃F ρ k ρ',GS K F ρ σ H/\g ρ=some (k,ρ')/\∀F' σ' H',bC K F ρ σ H F' ρ' σ' H'->W k H'
noncomputable def Q7(X:Cx)(c:Call)(n:Nat)(W:Nat->Hp->Prop)(st:Stmt)(s:S):Prop:=PS X st (tX X.K W (Fz c n s))
noncomputable def Jf(X:Cx)(c:Call)(n:Nat)(W:Nat->Hp->Prop)(st:List Stmt)(s:List S):Prop:=mU X st (tX X.K W (iJ c n s))
section
variable{X:Cx}{c:Call}{n:Nat}{W:Nat->Hp->Prop}{e a b tg iter:Expr}{p:P}{pos:Pos}{body:List Stmt}{ss:List S}
theorem T5{st:Stmt}{t u:TS}(h:PS X st t)(h':PS X st u):PS X st (fun D σ H=>t D σ H\/u D σ H):=fun pins s σ H D I q=>q.elim (h pins s σ H D I) (h' pins s σ H D I)
theorem Bt{st:List Stmt}{t u:TS}(h:mU X st t)(h':mU X st u):mU X st (fun D σ H=>t D σ H\/u D σ H):=fun pins s σ H D I q=>q.elim (h pins s σ H D I) (h' pins s σ H D I)
theorem eO{st:Stmt}{s:S}(h:∀ρ,Fz c n s ρ=none:=by intro _;rfl):Q7 X c n W st s:=dZ tZ fun D σ H⟨F,ρ,k,ρ',g,e,q⟩=>by rw[h]at e;cases e
theorem fJ:Jf X c n W [] []:=jL sG fun D σ H⟨F,ρ,k,ρ',g,e,q⟩=>by rw[iJ]at e;cases e
theorem bM{st:Stmt}{s:S}{sts:List Stmt}{ss:List S}(h1:SS X c n st s)(h1x:Q7 X c n W st s)(h2:Jf X c n W sts ss):Jf X c n W (st::sts) (s::ss):=by refine jL (uz (T5 h1 h1x) h2) ?_;rintro D σ H⟨F,ρ,k,ρ',g,e,q⟩;rw[iJ]at e;cases hx:Fz c n s ρ with|some x=>rw[hx]at e;cases e;exact .inr ⟨F,ρ,k,ρ',g,hx,q⟩|none=>rw[hx]at e;dsimp only at e;cases he:ex c n s ρ with|stuck=>rw[he]at e;cases e|exc _ _=>rw[he]at e;cases e|ok fl ρ1=>rw[he]at e;cases fl with|next=>exact .inl ⟨F,ρ,.next,ρ1,g,he,fun F1 σ1 H1 s1=>⟨F1,ρ1,k,ρ',s1.gs,e,fun F2 σ2 H2 s2=>q F2 σ2 H2 (s1.trans s2)⟩⟩|_=>cases e
theorem Bh{sa sb:List Stmt}{ta tb:List S}(hc:ST X c e p)(ha:Jf X c n W sa ta)(hb:Jf X c n W sb tb):Q7 X c n W (.If e sa sb pos) (.ifs p ta tb):=by
 refine dZ (CW hc ha hb) ?_;rintro D σ H⟨F,ρ,k,ρ',g,e,q⟩;rw[Fz]at e;split at e;.rename_i x ρ1 e1;refine⟨F,ρ,x,ρ1,g,e1,fun F1 H1 s1=>?_⟩;cases x with|true=>exact⟨F1,ρ1,k,ρ',s1.gs,by simpa using e,fun F2 σ2 H2 s2=>q F2 σ2 H2 (s1.trans s2)⟩|false=>exact⟨F1,ρ1,k,ρ',s1.gs,by simpa using e,fun F2 σ2 H2 s2=>q F2 σ2 H2 (s1.trans s2)⟩
 .cases e
theorem uZ{x:Str}{C:Addr}{B newId initId:String}{bm:List Value}{txt:Str}{E:XK}{np cpos cp:Pos}{ck}{kk:Nat}(hc:X.calm=true)(hex:X.ex=[])(hg:Gl X x)(O:OwnCls x C bm newId X.mg X.base)(FB:ExcBaseFacts B newId initId bm)(hX:zb X E)(hW:∀H,W kk H->∀e,E (.ref e) (some C) H)(hd:(x==("__debug__":Str))=false:=by rfl):Q7 X c n W (.Raise (some (.Call (.Name x np) [.Constant (.str txt) ck cp] [] cpos)) none pos) (.xr kk):=by refine dZ (CT hc hex hg O FB hX hd (bj rfl) rfl) ?_;rintro D σ H⟨F,ρ,k,ρ',g,e,q⟩;rw[Fz]at e;cases e;exact hW H (q F σ H (.refl g))
noncomputable def Rx(K:PySem.W.Frag)(cl:Nat->Addr)(np:Nat)(f:List Sl->Res R):Sp:=fun vs H _ E=>vs.length=np/\∃F args k args',GS K F args (vs.map some) H/\f args=.exc k args'/\∀F' σ' H' e,bC K F args (vs.map some) H F' args' σ' H'->E (.ref e) (some (cl k)) H'
noncomputable def EW(cl:Nat->Addr)(W:Nat->Hp->Prop):XK:=fun _ C H=>∃k,C=some (cl k)/\W k H
structure oh(Pg:Program)(w:World)(K:PySem.W.Frag)(mg:Str->Option Value)(base:Heap)(cl:Nat->Addr)(k:Nat)(c:Call)(i:Nat)(x:Str)(np:Nat):Prop where ex:∃fa fd qs,cJ Pg w K mg base (yg Pg w) k fa fd qs (Rx K cl qs.length (c i))/\mg x=some (.ref fa)/\PySem.W.keepIn K (.ref fa)=true/\Binds K fd qs []/\qs.length=np
theorem Jh{c:Call}:∀{ps:List P}{ρ ρ':List Sl}{as:List Arg},tU c ps ρ=.ok as ρ'->as.length=ps.length:=by intro ps;induction ps with|nil=>intro ρ ρ' as h;rw[tU]at h;cases h;rfl|cons q qs ih=>
   intro ρ ρ' as h;rw[tU]at h;split at h;.obtain⟨_,_,_,h⟩:=ao h;obtain⟨xs,ρ2,h2,h⟩:=ao h;cases h;simp[ih h2]
   .obtain⟨_,_,_,h⟩:=ao h;obtain⟨xs,ρ2,h2,h⟩:=ao h;cases h;simp[ih h2]
theorem yE{cl:Nat->Addr}{kk i fi np:Nat}{x y:Str}{p' pos' cpos:Pos}{es:List Expr}{ps:List P}(hex:X.ex=[])(hX:zb X (EW cl W))(Cf:oh X.prog X.w X.K X.mg X.base cl kk c fi y np)(hr:gM kk X.A)(hN:X.N.Nodup)(hi:X.N[i]?=some x)(hx:Loc X.env.scope x)(ha:SG X c (e::es) ps)(hg:Gl X y:=by rfl)(hl:(e::es).length=np:=by rfl)(hdb:(y==("__debug__":Str))=false:=by rfl)(he:starEach (e::es) X.env=(false,eval e X.env)::starEach es X.env:=by exact bj rfl)(hpl:(backTo cpos (starEach es X.env)).any (·.1)=false:=by rfl)(hl2:ps.length=(e::es).length:=by rfl)(hs:swapsWith (.Call (.Name y p') (e::es) [] cpos) (some (.Name x pos')) pos.line X.env=pure false:=by rfl)(hf:X.fn x=true\/X.env.scope.names.lookup x=some .local:=by first|exact .inl rfl|exact .inr rfl|assumption):Q7 X c n W (.Assign [.Name x pos'] (.Call (.Name y p') (e::es) [] cpos) pos) (.asg i (.call fi ps)):=by
 obtain⟨fa,fd,qs,h1,h2,h3,h4,h5⟩:=Cf.ex;have pe:=yu (p:=p') (pos:=cpos) (E:=EW cl W) h1 hr hg h2 h3 h4 .nil (U0 hex hX) ha hdb he hpl;refine dZ (Bm hN hi hx pe hs hf) ?_;rintro D σ H⟨F,ρ,k,ρ',g,e0,q⟩;rw[Fz]at e0;unfold ug rZ at e0;dsimp only at e0;split at e0
 . rename_i xs ρ1 e1;split at e0
   . rename_i args hb';split at e0
     . rename_i k' args' hc;cases e0;refine⟨F,ρ,xs,ρ1,g,e1,fun vs F1 H1 s1 A=>?_⟩;have hlen:vs.length=qs.length:=by rw[<-A.len,Jh e1,hl2,hl,h5]
       show Rx X.K cl qs.length (c fi) (vs++[]) H1 _ (EW cl W);rw[List.append_nil];refine⟨hlen,F1,args,k,args',args_gs s1.gs A hb',hc,fun F' σ' H' e2 s=>⟨k,rfl,?_⟩⟩;obtain⟨z1,_⟩:=uB s1 A hb' s;exact q F' σ H' z1
     .cases e0
   .cases e0
 .cases e0
end
section
variable{Pg:Program}{w:World}{K:PySem.W.Frag}{mg:Str->Option Value}{base:Heap}
theorem Dk{x qual:Str}{st:Stmt}{f:Addr}{fd:FuncData}{N ps:List Str}{k n:Nat}{c:Call}{d:Fd}{cl:Nat->Addr}(Fu:lK K x qual st f fd)(S:bz N ps (aC st))(h1:d.np=ps.length)(h2:d.nn=N.length)(hb:∀(cdv:Value)(A:Around)(outer:List Env)(s:Shared)(H:Hp)(E:XK)(W:Nat->Hp->Prop),gM k (A.deeper (envOfC qual (aC st) s.heap.objs.size f cdv))->(∀k H,W k H->∀e,E (.ref e) (some (cl k)) H)->Jf (lz (yg Pg w) Pg w K mg base N qual (aC st) f cdv A outer s H E) c n W (cO st) d.body):cJ Pg w K mg base (yg Pg w) (k+1) f fd ps (Rx K cl ps.length (fun args=>enter c n d args)):=by
 obtain⟨oc,od,kV,doc,pm,an,cdv,ct,osl,rfl,lk,hcd⟩:=Fu.ex;refine Kq lk hcd S (fun vs H Q E h=>h.1) fun A outer s H vs Q E hr h=>?_;obtain⟨hl,F,args,kx,args',g,e,q⟩:=h;refine⟨_,hb cdv A outer s H E (fun k H'=>∀e,E (.ref e) (some (cl k)) H') hr (fun k H' h=>h),?_⟩;replace e:enter c n d args=.exc kx args':=e;unfold enter at e;split at e
 . rename_i hc;obtain⟨c1,c2⟩:=hc;have hg:=g.more (n:=d.nn-d.np) (τ:=List.replicate (N.length-vs.length) none) (by simp[h1,h2,hl]);have hla:args.length=d.np:=c1;split at e;.cases e
   .cases e
   . split at e;.rename_i k' ρ' z;cases e;refine⟨F,_,kx,ρ',hg,z,fun F' σ' H' s ee=>?_⟩;obtain⟨z1,_⟩:=bC.less (m:=d.np) hla.symm g (by simp[h1,h2,hl]) s;exact q F' _ H' ee z1
     .cases e
 .cases e
end
section
variable{X:Cx}{c:Call}{n:Nat}
theorem je{k:Nat}{st:Stmt}:SS X c n st (.xr k):=dZ tZ fun D σ H⟨F,ρ,fl,ρ',g,e,q⟩=>by rw[ex]at e;cases e
end
structure qI(K:PySem.W.Frag)(x:Str)(C:Addr):Prop where nm:PySem.W.nsIn K mainGlobals x=some (some (.ref C))is:PySem.W.excIn K C [.type "ValueError",.type "Exception",.type "BaseException",.type "object"] "ValueError.__new__"=true
section
variable{Pg:Program}{w:World}{K:PySem.W.Frag}{mg:Str->Option Value}{base h:Heap}
theorem rE{x:Str}{C:Addr}(k:K.In h)(ns:h.Ns mainGlobals mg)(z:qI K x C):OwnCls x C [.type "ValueError",.type "Exception",.type "BaseException",.type "object"] "ValueError.__new__" mg h:=by
 have y:=z.is;unfold PySem.W.excIn at y;split at y<;>try cases y
 rename_i d1 c1 s1 look;split at y<;>try cases y
 rename_i D1 m1 a0 a1 a2 a3 b1 a5 hmro hlist;simp only[Bool.and_eq_true,beq_iff_eq,Bool.not_eq_true']at y;obtain⟨⟨⟨⟨⟨y1,y2⟩,y3⟩,y4⟩,y5⟩,y6⟩:=y;subst y1;subst y2;cases c1 with|mk n1 bs1 mro1 ns1 q1 hd1 sn1 su1 ab1 co1 de1=>cases s1 with|mk l1=>simp only at hmro hlist y3 y5 y6;subst hmro;subst y3;subst hlist;exact⟨PySem.W.mg_of k ns z.nm,m1,ns1,n1,q1,bs1,hd1,sn1,su1,ab1,co1,d1,a0,a1,a2,a3,a5,_,k _ _ look,.of_isNs (PySem.W.isNs_of_in k y5),PySem.W.nsMap_none_of_in k y5 y6,PySem.W.tail_of_in k y4⟩
theorem Es{Γ:Tab}{cl:Nat->Addr}{wl i np:Nat}{x:Str}{st:Stmt}{ps:List Str}(X:K.In h)(G:h.Ns mainGlobals mg)(D:cU K x st)(hp:ps.length=np)(hb:∀(kV doc pm:Value)(an:Option Addr)(cdv ct:Value)(us:List Value),us.length=ps.length->bindArgs (PySem.W.fnOf x x (eG st) (cO st) (aC st) .none kV doc pm an cdv ct) ⟨us,[]⟩=pure (ps.zip us)):oh Pg w K mg base cl 0 (run Γ wl 0) i x np:=by obtain⟨f,fd,a,F⟩:=D.ex;exact⟨f,fd,ps,⟨fun vs H Q E s=>s.1,fun A outer s H args us vs Q E hr e b v sp=>by obtain⟨_,F,as,r,as',_,z,_⟩:=sp;cases z⟩,PySem.W.mg_of X G a,F.kp,F.binds hb,hp⟩
theorem Bc{Γ:Tab}{cl:Nat->Addr}{wl n i np:Nat}{x:Str}{st:Stmt}{ps:List Str}{d:Fd}(X:K.In h)(G:h.Ns mainGlobals mg)(D:cU K x st)(hp:ps.length=np)(hΓ:Γ i=some d)(hb:∀(kV doc pm:Value)(an:Option Addr)(cdv ct:Value)(us:List Value),us.length=ps.length->bindArgs (PySem.W.fnOf x x (eG st) (cO st) (aC st) .none kV doc pm an cdv ct) ⟨us,[]⟩=pure (ps.zip us))(ok:∀f fd,lK K x x st f fd->cJ Pg w K mg base (yg Pg w) (n+1) f fd ps (Rx K cl np (fun args=>enter (run Γ wl n) wl d args))):oh Pg w K mg base cl (n+1) (run Γ wl (n+1)) i x np:=by
 obtain⟨f,fd,a,F⟩:=D.ex;refine⟨f,fd,ps,?_,PySem.W.mg_of X G a,F.kp,F.binds hb,hp⟩;have e:run Γ wl (n+1) i=fun args=>enter (run Γ wl n) wl d args:=by funext args;show(match Γ i with|some d=>enter (run Γ wl n) wl d args|none=>.stuck)=_;rw[hΓ]
 rw[e,hp];exact ok f fd F
end
end HH
namespace HH
open PySem L2 PySem.Spec PyProof.Rows
end HH
namespace HH
open PySem L2 PySem.Spec PyProof.Rows
theorem Ec{K:PySem.W.Frag}{x:Str}{C:Addr}(a:PySem.W.nsIn K mainGlobals x=some (some (.ref C)))(q:PySem.W.excIn K C [.type "ValueError",.type "Exception",.type "BaseException",.type "object"] "ValueError.__new__"=true):∃C,qI K x C:=⟨C,a,q⟩
end HH
end
section
namespace L2
open PySem PySem.Spec PyProof.Rows
section
variable{prog:Program}{w:World}{A:Around}{E:Value->Shared->Prop}{s:Shared}{env:Env}
theorem zq{e C C2:Addr}{x2 n:Str}{Wg:List Value}{Qn:String}{mg:Str->Option Value}{t:Expr}{b₀:Stmt}{suite:List Stmt}{pos:Pos}{rest:List ExceptHandler}{Q:Flow->Shared->Prop}(hbase:Wg.contains (.type "BaseException")=true)(h:wpAny (model prog w) (A.mark (some (.ref e))) (eval t env) (fun c s₁=>c=.ref C2/\OwnCls x2 C2 Wg Qn mg s₁.heap/\Under s₁.heap C C2/\(∃ oe,s₁.heap.get? e=some oe/\oe.cls=.ref C)/\wpAny (model prog w) (A.mark (some (.ref e))) (setFlight (.ref e) none) (fun _ s₂=>wpAny (model prog w) (A.mark (some (.ref e))) (storeName env n (.ref e)) (fun _ s₃=>wpAny (model prog w) (A.mark (some (.ref e))) (execs (b₀::suite) env) (fun f s₄=>wpAny (model prog w) A (do bindName env n .none;unbindBehindTheSuite env n pos) (fun _ s₅=>Q f s₅) E s₄) (fun _ _=>False) s₃) (fun _ _=>False) s₂) (fun _ _=>False) s₁) (notedBy (model prog w) (A.mark (some (.ref e))) env (cameBackBy (model prog w) A env E)) s):wpAny (model prog w) A (handleBy (.ref e) env (.ExceptHandler (some t) (some n) (b₀::suite) pos::rest)) Q E s:=by refine wpAny_handleBy_cons (codeAny_handlers_test (wpAny_mono h (fun c s₁ h₁=>?_) fun _ _ y=>y)) (by intro q;cases q);obtain⟨rfl,O,⟨nm,q,N,bs,bm,hdct,sn,sub,ab,col,dd,k0,k1,k2,k3,k5,newId,hC,hin⟩,⟨oe,he,hcls⟩,hk⟩:=h₁;obtain⟨bm2,N2,nm2,q2,bs2,acF,sn2,sub2,ab2,col2,dd2,l0,l1,l2,l3,l5,mN,XR,hN,hq,T⟩:=O.obj;obtain⟨hh,g,d,tk,os⟩:=s₁;exact qd hC XR he hcls (T.hasType hbase) hin (codeAny_handlers_suite_as (wpAny_mono hk (fun _ s2 h2=>wpAny_mono h2 (fun _ s3 h3=>wpAny_mono h3 (fun f s4 h4=>h4) fun _ _ z=>z.elim) fun _ _ z=>z.elim) fun _ _ z=>z.elim))
end
noncomputable def bA(X:Cx)(e:Addr)(oe:Obj):Cx:={X with A:=X.A.mark (some (.ref e)),calm:=false,pn:=X.pn++[(e,oe)],xe:=fun _ _=>False}
structure OE(oe:Obj)(C:Addr):Prop where
 cls:oe.cls=.ref C
 dict:oe.dict=none
 data:∃vs,oe.data=.fields vs
section
variable{X:Cx}{pins:List (Addr×Obj)}{σ:St}{H:Hp}{s:Shared}{e:Addr}{oe:Obj}
theorem Ej:X.Ok->(bA X e oe).Ok:=fun o=>⟨o.mod,o.kind,o.glob,o.blt,o.above,o.inj,o.has,o.cab,(fun z=>by cases z),o.frames,o.Ku,o.RZ,o.bs,o.Ax,o.tQ,o.vJ,o.jK,o.FQ⟩
theorem zF{C:Addr}(I:Inv X pins σ H s)(h1:s.heap.get? e=some oe)(hO:OE oe C)(h2:H e=none)(h3:e≠X.env.locals)(h4:e∉X.fs):Inv (bA X e oe) pins σ H s:=⟨Ej I.ok,I.os,I.bare,I.base,I.loc,I.cell,I.free,I.dO,fun p hp=>by
  have hp':p∈(X.pn++[(e,oe)])++pins:=hp;rw[List.append_assoc,List.mem_append,List.mem_append,List.mem_singleton]at hp';rcases hp' with z|z|z;.exact I.pin p (List.mem_append_left _ z)
  .subst z;refine⟨h1,h2,h3,h4,fun v q=>?_⟩;obtain⟨vs,z⟩:=hO.data;rw[show(e,oe).2.data=.fields vs from z]at q;cases q
  .exact I.pin p (List.mem_append_right _ z),I.hok,I.len⟩
theorem jf(o:X.Ok)(I:Inv (bA X e oe) pins σ H s):Inv X pins σ H s:=⟨o,I.os,I.bare,I.base,I.loc,I.cell,I.free,I.dO,fun p hp=>I.pin p (by
  show p∈(X.pn++[(e,oe)])++pins;rcases List.mem_append.mp hp with z|z;.exact List.mem_append_left _ (List.mem_append_left _ z)
  .exact List.mem_append_right _ z),I.hok,I.len⟩
theorem nC{M:Model}{A:Around}{E:Value->Shared->Prop}{i:Nat}{x:Str}{pos:Pos}{Q:Unit->Shared->Prop}(I:Inv X pins σ H s)(hN:X.N.Nodup)(hi:X.N[i]?=some x)(hk:X.env.kindOf x=some .local)(h:∀s',Inv X pins (σ.set i none) H s'->Q () s'):wpAny M A (do bindName X.env x .none;unbindBehindTheSuite X.env x pos) Q E s:=by
 obtain⟨m,hn,hl⟩:=id I.loc;have hcls:(X.env.scope.kind==.class||(X.env.scope.kind==.module&&X.env.locals !=X.env.globals))=false:=by rw[I.ok.kind];rfl
 have Cr:=I.Cr;refine wpAny_nameGoes_keeps hk hn hcls fun h' v hn' hs=>?_;obtain⟨oL,_,_,hoL,_⟩:=id hn;have tracked:jF X.prog X.w H h':=fun b ob e=>by
  refine(I.hok b ob e).stay (fun c w' hc q=>(hs.2 c ?_).trans q) (fun _ q=>q) fun _ _ q=>q;rintro rfl;rcases hc with rfl|hc;.rw[I.free]at e;cases e
  .rw[I.free]at hc;cases hc
 refine h _ (Inv.tok (s:={s with heap:=h'}) ⟨I.ok,I.os,I.bare,⟨fun b o e n hb hx=>?_,fun b o e n hb hx=>?_,I.base.free,fun b o e hx=>?_,I.base.tups,I.base.mW,I.base.pQ⟩,⟨_,hn',fun j y v' e1 e2 e3=>?_⟩,fun y c e=>?_,I.free,I.dO,fun p hp=>?_,tracked,by simpa using I.len⟩ _);.exact(hs.2 b (Nat.ne_of_lt (Nat.lt_of_lt_of_le (Heap.lt_size e) I.ok.above))).trans (I.base.keep b o e n hb hx)
 .obtain⟨sl,e1⟩:=I.base.slot b o e n hb hx;exact⟨sl,(hs.2 b (Nat.ne_of_lt (Nat.lt_of_lt_of_le (Heap.lt_size e) I.ok.above))).trans e1⟩
 .obtain⟨o',e1⟩:=I.base.there b o e hx;exact⟨o',(hs.2 b (Nat.ne_of_lt (Nat.lt_of_lt_of_le (Heap.lt_size e) I.ok.above))).trans e1⟩
 . by_cases hj:j=i;.subst hj;rw[List.getElem?_set]at e2;simp at e2
   . rw[List.getElem?_set_ne (Ne.symm hj)]at e2;obtain⟨u',r',q⟩:=hl j y v' e1 e2 e3;refine⟨u',r',?_⟩;rcases q with⟨k,e⟩|⟨k,c,e,z⟩;.refine .inl ⟨k,?_⟩;have:y≠x:=fun e=>hj (oH hN e1 (e▸hi));simp[this,e]
     .exact .inr ⟨k,c,e,z.sameBut hs (Cr y c e)⟩
 .obtain⟨w',z⟩:=I.cell y c e;exact⟨w',z.sameBut hs (Cr y c e)⟩
 .obtain⟨e,n,ne,nf,d⟩:=I.pin p hp;exact⟨(hs.2 p.1 ne).trans e,n,ne,nf,d⟩
noncomputable def Mt(i:Nat)(D:Ends):Ends:=⟨fun σ H=>D.nx (σ.set i none) H,D.rt,fun σ H=>D.bk (σ.set i none) H,fun σ H=>D.ct (σ.set i none) H⟩
theorem Iu{x y:Str}{i:Nat}{C:Addr}{bm:List Value}{newId:String}{E:XK}{body suite:List Stmt}{b0:Stmt}{np hpos pos:Pos}{tb:TS}{th:Addr->Addr->TS}(hg:Gl X x)(O:OwnCls x C bm newId X.mg X.base)(hbase:bm.contains (.type "BaseException")=true)(hex:X.ex=[])(mX:X.stack=X.env::X.outer/\X.env.frame=some X.env.locals)(hN:X.N.Nodup)(hi:X.N[i]?=some y)(hk:X.env.kindOf y=some .local)(hb:∀pins lJ,PassesOwn (model X.prog X.w) X.A X.env lJ->zb (mR X pins lJ) E->mU (mR X pins lJ) body tb)(hh:∀e oe C',OE oe C'->mU (bA X e oe) (b0::suite) (th C' e))(hd:(x==("__debug__":Str))=false:=by decide):PS X (.Try body [.ExceptHandler (some (.Name x np)) (some y) (b0::suite) hpos] [] [] pos) (fun D σ H=>tb D σ H/\∀(σ':St)(e C':Addr)(H':Hp),σ'.length=X.N.length->E (.ref e) (some C') H'->Under X.base C' C/\th C' e (Mt i D) (σ'.set i (some (.ref e))) H'):=by
 rintro pins s σ H D I⟨h1,h2⟩;refine wpAny_Try_except ?_;generalize XJ:(fun(e:Value)(s₁:Shared)=>wpAny (model X.prog X.w) X.A (noteFrame e X.env) (fun _ s₂=>wpAny (model X.prog X.w) X.A (setFlight e none) (fun _ s₃=>wpAny (model X.prog X.w) X.A (handleBy e X.env [.ExceptHandler (some (.Name x np)) (some y) (b0::suite) hpos]) (SP X pins D) X.xe s₃) X.xe s₂) X.xe s₁)=lJ;have hp:PassesOwn (model X.prog X.w) X.A X.env lJ:=by rw[<-XJ];exact PassesOwn.looking
 have hX:zb (mR X pins lJ) E:=by
  intro vK σ' H' s' C' e I' fl off q;obtain⟨un,ht⟩:=h2 σ' e C' H' I'.len q;obtain⟨tbv,hx,htb⟩:=fl.ex;have J:Inv X pins σ' H' s':=j8 I';show lJ (.ref e) s';rw[<-XJ];show wpAny (model X.prog X.w) X.A (noteFrame (.ref e) X.env) _ X.xe s';refine qF (base:=X.base) (env:=X.env) (outer:=X.outer) (by rw[J.ok.frames,mX.1]) (by rw[<-mX.1];exact J.stack) mX.2 hx (htb.imp id fun⟨T,a,b,c,_⟩=>⟨T,a,b,c⟩) fun h' T' n1 n2 b x' t'=>?_;have b':my (frs X.stack) (e::HR tbv) s'.heap h':=by rw[mX.1];exact b
  obtain⟨u,ok,Wc⟩:=qH (X:=X) (outer:=X.outer) J hex mX fl hx htb n1 n2 b' x' t';have nT:∀T,tbv=.ref T->FP s'.heap T .none:=fun T z=>by
   rcases htb with y|⟨T2,y,_,q,_⟩;.rw[y]at z;cases z
   .rw[y]at z;cases z;exact q
  have I2:Inv X pins σ' H' {s' with heap:=h'}:=J.but b' (by rw[hex];exact u) ok (fun z=>by
   rcases List.mem_cons.mp z with z|z;.exact(hx.nl J).1 z
   .exact((nT _ (sU z)).nl J).1 rfl) (fun y c hc z=>by
   rcases List.mem_cons.mp z with z|z;.exact(hx.nl J).2 y c hc z
   .exact((nT _ (sU z)).nl J).2 y c hc rfl) (fun p hp z=>by
   have o:=off p hp;rcases List.mem_cons.mp z with z|z;.exact o.1 z
   .exact o.2 _ _ hx (sU z));have I3:Inv (yj X e) pins σ' H' {s' with heap:=h'}:=Et I2;obtain⟨oe,vs,q1,q2,q3,q4,q5⟩:=id x';obtain⟨oT,ts,z1,z2,z3⟩:=id t';refine zq hbase (nP (X:=yj X e) I3 hg O.bound ⟨rfl,O.keeps I2.bk,un.keeps I2.bk,⟨oe,q1,q2⟩,?_⟩ hd);unfold setFlight;refine wpAny_bind (wpAny_field q1 q3 q4 ?_);rw[if_pos (show(Value.ref T' !=Value.none)=true from by simp)];refine wpAny_setField z1 z2 (Array.getElem?_eq_some_iff.mp z3).1 ?_;have hT':H' T'=none:=J.hok.fresh n1;have nT':s'.heap.get? T'=none:=Heap.get?_none_of_le n1;have b2:my (frs X.stack) [T'] h' (h'.update T' (Obj.mapFields (·.setIfInBounds 3 ((none:Option Addr).elim Value.none fun f=>rawInt f)))):=my.set _ _ _;have old:∀c o,X.s₀.heap.get? c=some o->c≠T':=fun c o z y=>by obtain⟨o',w⟩:=J.base.there c o z (by rw[hex];simp);rw[y,nT']at w;cases w
  have I4:Inv X pins σ' H' {s' with heap:=h'.update T' (Obj.mapFields (·.setIfInBounds 3 ((none:Option Addr).elim Value.none fun f=>rawInt f)))}:=I2.but b2 ⟨fun c o q n nf ne=>by rw[Heap.get?_update_other _ _ (Ne.symm (old c o q))];exact I2.base.keep c o q n nf ne,fun c o q n hf ne=>by rw[Heap.get?_update_other _ _ (Ne.symm (old c o q))];exact I2.base.slot c o q n hf ne,I2.base.free,fun c o q ne=>by rw[Heap.get?_update_other _ _ (Ne.symm (old c o q))];exact I2.base.there c o q ne,I2.base.tups,I2.base.mW,I2.base.pQ⟩ (b2.hok I2.hok I2.nM fun c hc=>by rw[List.mem_singleton.mp hc];exact hT') (fun z=>(t'.nl I2).1 (List.mem_singleton.mp z)) (fun y c hc z=>(t'.nl I2).2 y c hc (List.mem_singleton.mp z)) (fun p hp z=>by have w:=(J.pin p hp).1;rw[List.mem_singleton.mp z,nT']at w;cases w);have hO:OE oe C':=⟨q2,q5,vs,q3⟩;have nfs:e∉frs X.stack:=jt.HF (s:={s' with heap:=h'}) x' I2.stack;have I5:Inv (bA X e oe) pins σ' H' {s' with heap:=h'.update T' (Obj.mapFields (·.setIfInBounds 3 ((none:Option Addr).elim Value.none fun f=>rawInt f)))}:=zF I4 (by show(h'.update T' _).get? e=_;rw[Heap.get?_update_other _ _ n2];exact q1) hO Wc.free (Ne.symm (jt.nl (X:=X) I2 x').1) (fun z=>nfs (by rw[mX.1];simp only[frs,List.filterMap_cons,mX.2];exact List.mem_cons_of_mem _ z));refine iB (X:=bA X e oe) I5 hN hi (.inl hk) (v:=.ref e) rfl (fun s6 I6=>?_) (.inr hk);refine cG (hh e oe C' hO pins s6 _ H' (Mt i D) I6 ht) fun f s7 y=>?_;cases f with|next=>obtain⟨a,b,c,d⟩:=y;exact nC (jf J.ok c) hN hi hk fun s8 I8=>⟨_,b,I8,d⟩|brk=>obtain⟨a,b,c,d⟩:=y;exact nC (jf J.ok c) hN hi hk fun s8 I8=>⟨_,b,I8,d⟩|cont=>obtain⟨a,b,c,d⟩:=y;exact nC (jf J.ok c) hN hi hk fun s8 I8=>⟨_,b,I8,d⟩|ret u=>obtain⟨a,b,c,d,y⟩:=y;exact nC (jf J.ok d) hN hi hk fun s8 I8=>⟨a,_,c,I8,y⟩
 have w:=hb pins lJ hp hX [] s σ H D (Hl I) h1;refine wpAny_mono w (fun f s5 y=>?_) fun e s5 y=>?_;.cases f with|next=>obtain⟨a,b,c,d⟩:=y;show wpAny (model X.prog X.w) X.A (execs [] X.env) _ _ s5;exact wpAny_execs_nil ⟨a,b,j8 c,d⟩|brk=>obtain⟨a,b,c,d⟩:=y;exact⟨a,b,j8 c,d⟩|cont=>obtain⟨a,b,c,d⟩:=y;exact⟨a,b,j8 c,d⟩|ret u=>obtain⟨a,b,c,d,y⟩:=y;exact⟨a,b,c,j8 d,y⟩
 .exact y
end
structure Bu(K:PySem.W.Frag)(D:Addr):Prop where
 g:PySem.W.findIn K (.ref D) "__getattribute__"=some (some (.builtin "BaseException.__getattribute__"))h:PySem.W.findIn K (.ref D) "__getattr__"=some none
 b:PySem.W.mroIn K D (.type "BaseException")=some true
 c:(PySem.W.clsIn K D).isSome=true
 a:PySem.W.findIn K (.ref D) "__class__"=some (some (.builtin "object.__class__"))n:PySem.W.specialIn K (.builtin "object.__class__") "__get__"=some (some (.builtin "getset_descriptor.__get__"))t:PySem.W.takesIn K (.builtin "object.__class__")=some true
 m:PySem.W.mroIn K D (.type "object")=some true
theorem zr{K:PySem.W.Frag}{x D:Addr}{ox:Obj}{prog:Program}{w:World}{A:Around}{E:Value->Shared->Prop}{s:Shared}{Q:Option Value->Shared->Prop}(Z:Bu K D)(X:K.In s.heap)(I:PySem.W.InstAt s.heap x ox D none)(h:Q (some (.ref D)) {s with toks:=s.toks+1}):wpAny (model prog w) A (getAttr? (.ref x) "__class__") Q E s:=by
 obtain⟨cd,hc⟩:=Option.isSome_iff_exists.mp Z.c;have hf:PySem.W.findObj K D none "__class__"=some (.bind (.builtin "getset_descriptor.__get__") (.builtin "object.__class__")):=by unfold PySem.W.findObj;rw[hc,Option.bind_some,Z.a,Option.bind_some];simp[Z.n,Z.t]
 obtain⟨hh,g,d,t,os⟩:=s;have L0:=I.type (M:=model prog w);have L1:=PySem.W.looks_findIn (M:=model prog w) X Z.g;have L2:=PySem.W.looks_findIn (M:=model prog w) X Z.h;have L3:=PySem.W.looks_find (M:=model prog w) X I hf;have L4:=PySem.W.looks_mroIn (M:=model prog w) X Z.b;have hx2:(Value.builtin "BaseException.__getattribute__"==Value.builtin "object.__getattribute__")=false:=by decide+kernel
 have f3:=F.excAttr_ValueError.ga.bind (.ref x);unfold getAttr? getAttrBy? getAttrBy;refine wpAny_bind (wpAny_mkText (wpAny_bind (wpAny_attempt (wpAny_holding (wpAny_bind (L0.at (wpAny_bind (L1.at ?_))))))));simp only[hx2,Bool.and_false,Bool.false_eq_true,if_false];unfold getAttrByItsOwn hookBefore;simp only[onTheHeap,if_true];refine wpAny_bind (L2.at (wpAny_bind (wpAny_attempt (wpAny_holding ?_))));unfold callGetattribute;simp only[Bool.false_and,Bool.false_eq_true,if_false];unfold boundAndCalled;refine wpAny_bind (wpAny_of_eq f3 ?_);refine wpAny_call (codeAny_call_builtin F.excAttr_ValueError.ga.plain F.entry_bexc_ga ?_);have hk:builtinKind "BaseException.__getattribute__"=some .slot:=by decide+kernel
 have hsplit:splitId "BaseException.__getattribute__"=some ("BaseException","__getattribute__"):=by decide+kernel
 have ha:=F.args_bexc_ga (.ref x) (.str "__class__" t);simp only[checkBuiltinCall,hk,hsplit];refine wpAny_bind ?_;unfold isInstance;repeat(first|with_reducible refine wpAny_bind (L0.at ?_)|with_reducible refine wpAny_bind (L4.at ?_)|with_reducible refine L4.at ?_|with_reducible refine L0.at ?_|with_reducible refine wpAny_bind (L3.at ?_)|with_reducible refine L3.at ?_|wp_step)
 refine PySem.W.class_get (s:=⟨hh,g,d,t+1,os⟩) (ox:=ox) (od:=none) X I Z.m ?_;refine wpAny_pure ?_;first
  |exact PySem.W.handed_on rfl (wpAny_pure h)|(refine wpAny_mono (PySem.W.handed_on (Q:=fun v s'=>v=.ref D/\s'=⟨hh,g,d,t+1,os⟩) rfl ⟨rfl,rfl⟩) (fun v s' z=>?_) (fun _ _ z=>z);obtain⟨rfl,rfl⟩:=z;exact wpAny_pure h)
  | (repeat(first|wp_step)
     exact h)
theorem vG{K:PySem.W.Frag}{x D:Addr}{ox:Obj}(Z:Bu K D):PySem.W.KitX K (.ref x) (.ref D) (fun h=>PySem.W.InstAt h x ox D none)where
 ty:=fun _ _ _ I=>I.type;it:=fun _ _ X _=>by
  obtain⟨cdD,hcD⟩:=Option.isSome_iff_exists.mp Z.c;unfold PySem.W.clsIn at hcD;split at hcD;.rename_i c' d' cd' sl' ho;intro A' Q' E' s' k q;unfold isType loadHead;exact wpAny_bind (wpAny_loadPart (k _ _ (X _ _ ho)) (wpAny_pure q))
  .cases hcD
 ne:=fun h tp dd its n sl X htp=>by
  obtain⟨cdD,hcD⟩:=Option.isSome_iff_exists.mp Z.c;refine Bool.eq_false_iff.mpr fun q=>?_;have e:D=tp:=Value.ref.inj (beq_iff_eq.mp q);subst e;unfold PySem.W.clsIn at hcD;split at hcD;.rename_i c' d' cd' sl' ho;have z:=(X _ _ ho).symm.trans htp;cases z
  .cases hcD
 ca:=fun{prog w A E Q s}X I h=>zr Z X I h
section
variable{X:Cx}{e C:Addr}{oe:Obj}
theorem Bk{pins:List (Addr×Obj)}{σ:St}{H:Hp}{s:Shared}(hO:OE oe C)(I:Inv (bA X e oe) pins σ H s):PySem.W.InstAt s.heap e oe C none:=by
 have h:=(I.pin (e,oe) (List.mem_append_left _ (List.mem_append_right _ (List.mem_singleton.mpr rfl)))).1;refine⟨h,hO.cls,?_,?_⟩;.obtain⟨vs,z⟩:=hO.data;unfold PySem.W.notCls;rw[z]
 .rw[hO.dict];trivial
theorem VG{c:V}{cv:Value}{b:Bool}(hO:OE oe C)(Z:Bu X.K C)(hc:∀u,RelV c u->u=cv)(hk:PySem.W.kitOne X.K (.ref C) cv=some b):di (bA X e oe) (.builtin "isinstance") (fun xs H Q=>xs=[.ref e,c]/\Q (.bl b) H):=by rintro pins s σ H xs us Q I r⟨hx,q⟩;subst hx;obtain⟨u,w',rfl,rx,rt⟩:=r.two;cases(show u=Value.ref e from rx);cases hc _ rt;exact PySem.W.kia_one (vG Z) I.Fv (Bk hO I) hk nofun fun tk=>⟨.bl _,H,I.tok tk,rfl,q⟩
theorem MT{cs:List V}{KD:List Value}{b:Bool}(hO:OE oe C)(Z:Bu X.K C)(hc:∀us,Vals cs us->us=KD)(hk:PySem.W.kitAny X.K (.ref C) KD=some b):di (bA X e oe) (.builtin "isinstance") (fun xs H Q=>∃q,xs=[.ref e,.ref q]/\H q=some (.tup cs)/\Q (.bl b) H):=by rintro pins s σ H xs us Q I r⟨q,hx,hq,k⟩;subst hx;obtain⟨u,w',rfl,rx,rt⟩:=r.two;cases(show u=Value.ref e from rx);cases(show w'=Value.ref q from rt);obtain⟨_,its,rv,⟨⟨cls,dd,data,sl⟩,ho,hcl,n,hd⟩⟩:=(show bZ X.prog X.w H s.heap q (.tup _)from I.hok q _ hq);simp only at hcl hd;subst hcl hd;cases hc _ rv;exact PySem.W.kia_tup (vG Z) I.Fv (Bk hO I) ho hk nofun fun tk=>⟨.bl _,H,I.tok tk,rfl,k⟩
end
end L2
end
section
namespace HH
open PySem L2 PySem.Spec PyProof.Rows
section
variable{K:PySem.W.Frag}{F H F1 H1:Hp}{ρ ρ1:List Sl}{σ σ1:L2.St}
theorem HY{s:Sl}(h:WW s=true):Ak s=false:=by cases s<;>simp_all[WW,Ak]
theorem bC.clear(s:bC K F ρ σ H F1 ρ1 σ1 H1)(h:ρ.all WW=true){σ':L2.St}(hl:σ'.length=ρ.length):bC K F ρ σ H F1 (List.replicate ρ.length .bK) σ' H1:=by
 have un:∀{i:Nat}{x:Sl},(List.replicate ρ.length Sl.bK)[i]?=some x->x=.bK:=fun{i x}q=>by
  rw[List.getElem?_replicate]at q;split at q;.cases q;rfl
  .cases q
 refine⟨⟨s.gs.sub,by simp[hl],fun i b d q=>(by cases un q),fun i x ds q z=>(by cases un q;cases z),fun i j a⟨⟨x,ds,q,z⟩,_⟩_=>(by cases un q;cases z)⟩,s.cB,s.yX,s.keep,fun b⟨i,⟨x,ds,q,z⟩,_⟩=>(by cases un q;cases z),by simp,fun i x q l=>?_⟩;have:=HY (List.all_eq_true.mp h x (List.mem_of_getElem? q));rw[this]at l;cases l
theorem bC.forget(s:bC K F ρ σ H F1 ρ1 σ1 H1){i:Nat}(h:ρ1[i]?=some .bK):bC K F ρ σ H F1 ρ1 (σ1.set i none) H1:=by
 have oth:∀{j:Nat}{x:Sl},ρ1[j]?=some x->x≠.bK->(σ1.set i none)[j]?=σ1[j]?:=fun{j x}q n=>by
  have:i≠j:=by rintro rfl;rw[h]at q;cases q;exact n rfl
  rw[List.getElem?_set_ne this]
 have own:∀{j:Nat}{a:Addr},bF ρ1 (σ1.set i none) j a->bF ρ1 σ1 j a:=fun{j a}⟨⟨x,ds,q,z⟩,y⟩=>⟨⟨x,ds,q,z⟩,by rwa[oth q (by rintro rfl;cases z)]at y⟩;refine⟨⟨s.gs.sub,by simp[s.gs.len],fun j b d q=>?_,fun j x ds q z=>?_,fun j k a x y=>s.gs.dis j k a (own x) (own y)⟩,s.cB,s.yX,s.keep,fun b⟨j,x⟩=>s.yZ b ⟨j,own x⟩,s.len,fun j x q l=>?_⟩;.obtain⟨v,e1,e2⟩:=s.gs.val j b d q;exact⟨v,by rw[oth q (by intro z;cases z)];exact e1,e2⟩
 .obtain⟨a,xs,e1,e2⟩:=s.gs.own j x ds q z;exact⟨a,xs,by rw[oth q (by rintro rfl;cases z)];exact e1,e2⟩
 .obtain⟨e1,x',e2,e3⟩:=s.lk j x q l;exact⟨by rw[oth e2 (by rintro rfl;have:=e3.Ak l;cases this)];exact e1,x',e2,e3⟩
end
noncomputable def Gd(i:Nat)(e:Addr)(σ:L2.St):Prop:=σ[i]?=some (some (V.ref e))
noncomputable def GB(X:Cx)(i:Nat)(e:Addr)(x:Expr)(b:Bool):Prop:=PE X x (fun σ H Q=>Gd i e σ/\∀H',aF H H'->Q (.bl b) H')
noncomputable def GT(X:Cx)(i:Nat)(e:Addr)(x:Expr)(b:Bool):Prop:=PT X x (fun σ H Q=>Gd i e σ/\∀H',aF H H'->Q b H')
noncomputable def GW(X:Cx)(i:Nat)(e:Addr)(x:Expr)(b:Bool):Prop:=PW X x (fun σ H Q=>Gd i e σ/\∀H',aF H H'->Q b H')
noncomputable def GC(X:Cx)(es:List Expr)(cs:List V):Prop:=PA X es (fun _ H Q=>Q cs H)
section
variable{X:Cx}{i:Nat}{e C:Addr}{oe:Obj}{pos:Pos}
theorem Nr:GC X [] []:=kj cQ fun _ _ _ h=>h
theorem nJ{y:Expr}{es:List Expr}{v:V}{cs:List V}(h1:PE X y (tC v))(h2:GC X es cs)(hs:starEach (y::es) X.env=(false,eval y X.env)::starEach es X.env:=by exact bj rfl):GC X (y::es) (v::cs):=kj (aW h1 h2 hs) fun _ _ _ h=>h
theorem Er{x y:Str}{p' p1:Pos}{ce:Expr}{vc:V}{cv:Value}{b:Bool}(hO:OE oe C)(Z:Bu X.K C)(hx:x="isinstance")(hg:Gl X x)(hm:X.mg x=none)(hN:X.N[i]?=some y)(hv:Fq X.env.scope y)(hce:PE (bA X e oe) ce (tC vc))(hc:∀u,RelV vc u->u=cv)(hk:PySem.W.kitOne X.K (.ref C) cv=some b)(hs:starEach [.Name y p1,ce] (bA X e oe).env=(false,eval (.Name y p1) (bA X e oe).env)::starEach [ce] (bA X e oe).env:=by exact bj rfl)(hs2:starEach [ce] (bA X e oe).env=(false,eval ce (bA X e oe).env)::starEach [] (bA X e oe).env:=by exact bj rfl)(hpl:(backTo pos (starEach [ce] (bA X e oe).env)).any (·.1)=false:=by rfl)(hd:(y==("__debug__":Str))=false:=by rfl)(hcd:(y==("__classdict__":Str))=false:=by rfl):GB (bA X e oe) i e (.Call (.Name x p') [.Name y p1,ce] [] pos) b:=by subst hx;refine dm (cW (X:=bA X e oe) (VG hO Z hc hk) hg hm j9 (aW (lM (X:=bA X e oe) hN hv hd hcd) (aW hce cQ hs2) hs) (he:=hs) (hpl:=hpl)) ?_;rintro σ H Q⟨g,q⟩;exact⟨_,g,rfl,q H (aF.refl _)⟩
theorem Ln{x y:Str}{p' p1 p2:Pos}{k2}{es:List Expr}{cs:List V}{KD:List Value}{b:Bool}(hO:OE oe C)(Z:Bu X.K C)(hx:x="isinstance")(hg:Gl X x)(hm:X.mg x=none)(hN:X.N[i]?=some y)(hv:Fq X.env.scope y)(hce:GC (bA X e oe) es cs)(hc:∀us,Vals cs us->us=KD)(hk:PySem.W.kitAny X.K (.ref C) KD=some b)(hz:cs.length<=sizeLine:=by decide)(hs:starEach [.Name y p1,.Tuple es k2 p2] (bA X e oe).env=(false,eval (.Name y p1) (bA X e oe).env)::starEach [.Tuple es k2 p2] (bA X e oe).env:=by exact bj rfl)(hs2:starEach [.Tuple es k2 p2] (bA X e oe).env=(false,eval (.Tuple es k2 p2) (bA X e oe).env)::starEach [] (bA X e oe).env:=by exact bj rfl)(hpl:(backTo pos (starEach [.Tuple es k2 p2] (bA X e oe).env)).any (·.1)=false:=by rfl)(hd:(y==("__debug__":Str))=false:=by rfl)(hcd:(y==("__classdict__":Str))=false:=by rfl):GB (bA X e oe) i e (.Call (.Name x p') [.Name y p1,.Tuple es k2 p2] [] pos) b:=by subst hx;refine dm (cW (X:=bA X e oe) (MT hO Z hc hk) hg hm j9 (aW (lM (X:=bA X e oe) hN hv hd hcd) (aW (wX hce) cQ hs2) hs) (he:=hs) (hpl:=hpl)) ?_;rintro σ H Q⟨g,q⟩;exact⟨_,g,hz,fun a ha=>⟨a,rfl,aR,q _ (aF.cL ha)⟩⟩
variable{x:Expr}{b:Bool}
theorem wO(h:GB X i e x b)(he:∀whole,isTrue x X.env whole=(do let v<-whole;standAt x.pos;holding [v] (truthy v)):=by intro _;rfl):GT X i e x b:=by intro pins s σ H Q I q;exact CK h he pins s σ H Q I ⟨q.1,fun H' sm=>⟨b,rfl,q.2 H' sm⟩⟩
theorem O3(h:GT X i e x b):GT X i e (.UnaryOp .Not x pos) (!b):=by intro pins s σ H Q I q;exact CP h pins s σ H Q I ⟨q.1,fun H' sm=>q.2 H' sm⟩
theorem Ov(h:GT X i e x b):GW X i e (.BoolOp .And [x] pos) b:=yf h
theorem Ng{y:Expr}{rest:List Expr}{b':Bool}(h:GT X i e x b)(h2:GW X i e (.BoolOp .And (y::rest) pos) b'):GW X i e (.BoolOp .And (x::y::rest) pos) (b&&b'):=by intro whole pins s σ H Q I q;refine Cq h h2 whole pins s σ H Q I ⟨q.1,fun H' sm=>?_⟩;cases b with|true=>exact⟨q.1,fun H2 s2=>q.2 H2 (sm.trans s2)⟩|false=>exact q.2 H' sm
theorem GW.gt(h:GW X i e x b):GT X i e x b:=PW.pt h
end
noncomputable def tN(K:PySem.W.Frag)(f:List Sl->Res Fl):TS:=fun D σ H=>∃F ρ ρ',GS K F ρ σ H/\f ρ=.ok .next ρ'/\∀F' σ' H',bC K F ρ σ H F' ρ' σ' H'->D.nx σ' H'
noncomputable def HB(X:Cx)(c:Call)(n i:Nat)(e:Addr)(st:List Stmt)(ss:List S):Prop:=mU X st (fun D σ H=>Gd i e σ/\tN X.K (dw c n ss) D σ H)
theorem sV{c:Call}{n:Nat}{s:S}{ρ ρ':List Sl}{fl:Fl}(h:dw c n [s] ρ=.ok fl ρ'):ex c n s ρ=.ok fl ρ':=by rw[dw]at h;cases hx:ex c n s ρ with|ok fl ρ1=>rw[hx]at h;cases fl<;>simp[Res.bind,dw]at h<;>simp[h]|exc _ _=>rw[hx]at h;cases h|stuck=>rw[hx]at h;cases h
section
variable{X:Cx}{c:Call}{n i:Nat}{e C:Addr}{oe:Obj}{pos:Pos}
theorem BK:HB X c n i e [] []:=jL sG fun D σ H⟨g,F,ρ,ρ',gs,ee,q⟩=>by rw[dw]at ee;cases ee;exact q F σ H (.refl gs)
theorem Vi{st:Stmt}{s:S}(h:SS X c n st s):HB X c n i e [st] [s]:=jL (yz h) fun D σ H⟨g,F,ρ,ρ',gs,ee,q⟩=>⟨F,ρ,.next,ρ',gs,sV ee,q⟩
theorem Kc{x:Expr}{b:Bool}{p:P}{sa sb:List Stmt}{ta tb:List S}(ht:GT X i e x b)(hp:∀ρ,ie (HH.ev c p) ρ=.ok b ρ)(ha:HB X c n i e sa ta)(hb:HB X c n i e sb tb):HB X c n i e [.If x sa sb pos] [.ifs p ta tb]:=by refine jL (yz (CW ht ha hb)) fun D σ H⟨g,F,ρ,ρ',gs,ee,q⟩=>⟨g,fun H1 s1=>?_⟩;have st:bC X.K F ρ σ H F ρ σ H1:=Ext.stp gs ⟨s1,.refl _,gs.sub.trans s1,fun _ x y=>absurd x y⟩;replace ee:=sV ee;rw[ex,hp]at ee;cases b with|true=>exact⟨g,F,ρ,ρ',st.gs,ee,fun F2 σ2 H2 s2=>q F2 σ2 H2 (st.trans s2)⟩|false=>exact⟨g,F,ρ,ρ',st.gs,ee,fun F2 σ2 H2 s2=>q F2 σ2 H2 (st.trans s2)⟩
noncomputable def HS(X:Cx)(c:Call)(n:Nat)(cl:Nat->Addr)(kk i:Nat)(st:List Stmt)(k:Nat)(sk:List S):Prop:=sk=[.bad]\/(Under X.base (cl k) (cl kk)/\∀e oe,OE oe (cl k)->HB (bA X e oe) c n i e st sk)
noncomputable def Xx(X:Cx)(c:Call)(n:Nat)(cl:Nat->Addr)(kk i:Nat)(st:List Stmt)(k0:Nat)(l:List (List S)):Prop:=∀j sk,l[j]?=some sk->HS X c n cl kk i st (k0+j) sk
variable{cl:Nat->Addr}{kk:Nat}{st:List Stmt}
theorem Hu{k0:Nat}:Xx X c n cl kk i st k0 []:=fun j sk h=>by simp at h
theorem gj{k0:Nat}{a:List S}{l:List (List S)}(h:HS X c n cl kk i st k0 a)(h2:Xx X c n cl kk i st (k0+1) l):Xx X c n cl kk i st k0 (a::l):=fun j sk q=>by cases j with|zero=>cases q;exact h|succ j=>have:=h2 j sk (by simpa using q);rwa[show k0+(j+1)=k0+1+j by omega]
theorem yL:∀{hs:List (List S)}{k:Nat}{ρ ρ':List Sl}{fl:Fl},LK c n hs k ρ=.ok fl ρ'->∃sk,hs[k]?=some sk/\dw c n sk ρ=.ok fl ρ'|[],_,_,_,_,h=>by rw[LK]at h;cases h|a::_,0,_,_,_,h=>by rw[LK]at h;exact⟨a,rfl,h⟩|_::r,k+1,_,_,_,h=>by rw[LK]at h;obtain⟨sk,h1,h2⟩:=yL h;exact⟨sk,by simpa using h1,h2⟩
theorem rN{x:Str}{C C2:Addr}{bm:List Value}{newId:String}{mg:Str->Option Value}{h:Heap}{K:PySem.W.Frag}(VM:K.In h)(O:OwnCls x C bm newId mg h)(m:PySem.W.mroIn K C (.ref C2)=some true):Under h C C2:=by
 obtain⟨bm,N,nm,q,bs,hdct,sn,sub,ab,col,dd,k0,k1,k2,k3,k5,mN,hC,_⟩:=O.obj;refine⟨nm,q,N,bs,bm,hdct,sn,sub,ab,col,dd,k0,k1,k2,k3,k5,_,hC,?_⟩;unfold PySem.W.mroIn at m;obtain⟨cd,a,b⟩:=Option.bind_eq_some_iff.mp m;unfold PySem.W.clsIn at a;split at a
 . rename_i c' d' cd' sl' ho;cases a;have z:=(VM _ _ ho).symm.trans hC;cases z;split at b;.cases b
   .exact Option.some.inj b
 .cases a
variable{body:List Stmt}{ss:List S}
theorem Ji{x y:Str}{bm:List Value}{newId:String}{np hpos:Pos}{b0:Stmt}{suite:List Stmt}{hs:List (List S)}(hg:Gl X x)(O:OwnCls x (cl kk) bm newId X.mg X.base)(hbase:bm.contains (.type "BaseException")=true)(hex:X.ex=[])(mX:X.stack=X.env::X.outer/\X.env.frame=some X.env.locals)(hN:X.N.Nodup)(hi:X.N[i]?=some y)(hk:X.env.kindOf y=some .local)(hb:∀pins lJ,PassesOwn (model X.prog X.w) X.A X.env lJ->SB (mR X pins lJ) c n body ss)(hbx:∀pins lJ W,PassesOwn (model X.prog X.w) X.A X.env lJ->zb (mR X pins lJ) (EW cl W)->Jf (mR X pins lJ) c n W body ss)(hh:Xx X c n cl kk i (b0::suite) 0 hs)(hd:(x==("__debug__":Str))=false:=by rfl):SS X c n (.Try body [.ExceptHandler (some (.Name x np)) (some y) (b0::suite) hpos] [] [] pos) (.Qj ss i hs):=by
 rintro pins s σ H D I⟨F,ρ,fl,ρ',g,e,q⟩;have hiN:i<X.N.length:=(List.getElem?_eq_some_iff.mp hi).1;generalize hW:(fun(k:Nat)(H':Hp)=>∃sk,hs[k]?=some sk/\sk≠[.bad]/\∀(σ':L2.St)(e:Addr),σ'.length=ρ.length->tN X.K (dw c n sk) (Mt i D) (σ'.set i (some (V.ref e))) H')=W;have hor:∀pins lJ,PassesOwn (model X.prog X.w) X.A X.env lJ->zb (mR X pins lJ) (EW cl W)->mU (mR X pins lJ) body (fun D' σ H=>Su X.K (dw c n ss) D' σ H\/tX X.K W (iJ c n ss) D' σ H):=fun pins lJ hp hX=>by have z1:=hb pins lJ hp;have z2:=hbx pins lJ _ hp hX;unfold SB at z1;unfold Jf at z2;exact Bt z1 z2
 have hsu:∀e oe C',OE oe C'->mU (bA X e oe) (b0::suite) (fun D' σ H=>∃k sk,C'=cl k/\hs[k]?=some sk/\sk≠[.bad]/\Gd i e σ/\tN X.K (dw c n sk) D' σ H):=by
  rintro e oe C' hO pins s σ H D' I'⟨k,sk,hC,h1,h2,h3,h4⟩;subst hC;have:=hh k sk h1;rw[Nat.zero_add]at this;rcases this with z|⟨_,z⟩;.exact absurd z h2
  .exact z e oe hO pins s σ H D' I' ⟨h3,h4⟩
 refine Iu (E:=EW cl W) (th:=fun C' e D' σ H=>∃k sk,C'=cl k/\hs[k]?=some sk/\sk≠[.bad]/\Gd i e σ/\tN X.K (dw c n sk) D' σ H) hg O hbase hex mX hN hi hk hor hsu hd pins s σ H D I ⟨?_,fun σ' e' C' H' hl⟨k,hC,hk'⟩=>?_⟩
 . rw[ex]at e;split at e;.rename_i Wc ρ1 z;cases e;exact .inl ⟨F,ρ,fl,ρ',g,z,q⟩
   . split at e
     . rename_i k ρ1 z;split at e
       . rename_i hu;split at e
         . rename_i ρ2 z2;split at e
           . rename_i z3;cases e;refine .inr ⟨F,ρ,k,ρ1,g,z,fun F' σ1 H' st=>?_⟩;rw[<-hW];obtain⟨sk,h1,h2⟩:=yL z2;refine⟨sk,h1,fun hbad=>?_,fun σ' e' hl=>?_⟩;.subst hbad;replace h2:=sV h2;rw[ex]at h2;cases h2
             .have c1:=st.clear hu (σ':=σ'.set i (some (V.ref e'))) (by simpa using hl);exact⟨F',_,ρ',c1.gs,h2,fun F2 σ2 H2 s2=>q F2 _ H2 ((c1.trans s2).forget z3)⟩
           .cases e
         .cases e
       .cases e
     .cases e
 . cases hC;rw[<-hW]at hk';obtain⟨sk,h1,h2,h3⟩:=hk';have hu:=hh k sk h1;rw[Nat.zero_add]at hu;have hlen:σ'.length=ρ.length:=by rw[hl,<-I.len,g.len]
   refine⟨hu.elim (fun z=>absurd z h2) fun z=>z.1,k,sk,rfl,h1,h2,?_,h3 σ' e' hlen⟩;exact List.getElem?_set_self (by rw[hl];exact hiN)
end
end HH
end
section
namespace L2
open PySem PySem.Spec PyProof.Rows
theorem uC:bootBuiltins "list"=some (.type "list"):=by decide+kernel
end L2
namespace HH
open PySem L2 PySem.Spec PyProof.Rows
end HH
namespace HH
open PySem L2 PySem.Spec PyProof.Rows
theorem j5{C:Addr}:∀u,RelV (V.ref C) u->u=Value.ref C:=fun _ r=>r
theorem Mi{n:String}:∀u,RelV (V.ty n) u->u=Value.type n:=fun _ r=>r
theorem Gs:∀us,Vals [] us->us=[]:=fun us h=>h.zero
theorem jR{c:V}{cv:Value}{cs:List V}{KD:List Value}(h:∀u,RelV c u->u=cv)(h2:∀us,Vals cs us->us=KD):∀us,Vals (c::cs) us->us=cv::KD:=fun us v=>by cases v with|cons r rr=>rw[h _ r,h2 _ rr]
theorem DW{K:PySem.W.Frag}{t:Value}:PySem.W.kitAny K t []=some false:=rfl
theorem rM{K:PySem.W.Frag}{t c:Value}{r:List Value}{b:Bool}(h:PySem.W.kitOne K t c=some false)(h2:PySem.W.kitAny K t r=some b):PySem.W.kitAny K t (c::r)=some b:=by rw[PySem.W.kitAny,h];exact h2
end HH
namespace HH
open PySem L2 PySem.Spec PyProof.Rows
theorem O2{X:Cx}{E:XK}{cl:Nat->Addr}{W:Nat->Hp->Prop}(h:zb X E)(hW:∀k H,W k H->∀e,E (.ref e) (some (cl k)) H):zb X (EW cl W):=fun pins σ H s C e I f o⟨k,hC,hw⟩=>h pins σ H s C e I f o (by cases hC;exact hW k H hw e)
end HH
end
section
namespace HH
open PySem L2 PySem.Spec PyProof.Rows
section
variable{K:PySem.W.Frag}{x y:Str}{C C2:Addr}{b:Bool}{T:String}
noncomputable def eE(K:PySem.W.Frag)(x:Str)(C:Addr):Prop:=PySem.W.nsIn K mainGlobals x=some (some (.ref C))
theorem eE.uniq(h:eE K x C)(h2:eE K x C2):C=C2:=by have:=h.symm.trans h2;cases this;rfl
theorem zx(a:PySem.W.nsIn K mainGlobals x=some (some (.ref C))):∃C,eE K x C:=⟨C,a⟩
theorem Oj(h:∃C,qI K x C)(n:eE K x C):qI K x C:=by obtain⟨C',z⟩:=h;have e:C'=C:=eE.uniq z.nm n;subst e;exact z
theorem Zo(a:PySem.W.nsIn K mainGlobals x=some (some (.ref C)))(g:PySem.W.findIn K (.ref C) "__getattribute__"=some (some (.builtin "BaseException.__getattribute__")))(h:PySem.W.findIn K (.ref C) "__getattr__"=some none)(bb:PySem.W.mroIn K C (.type "BaseException")=some true)(f:PySem.W.findIn K (.ref C) "__class__"=some (some (.builtin "object.__class__")))(n:PySem.W.specialIn K (.builtin "object.__class__") "__get__"=some (some (.builtin "getset_descriptor.__get__")))(t:PySem.W.takesIn K (.builtin "object.__class__")=some true)(m:PySem.W.mroIn K C (.type "object")=some true):∃C,eE K x C/\Bu K C:=by refine⟨C,a,g,h,bb,?_,f,n,t,m⟩;unfold PySem.W.mroIn at m;obtain⟨cd,hc,_⟩:=Option.bind_eq_some_iff.mp m;rw[hc];rfl
theorem Y6(h:∃C,eE K x C/\Bu K C)(n:eE K x C):Bu K C:=by obtain⟨C',z,q⟩:=h;have e:C'=C:=eE.uniq z n;subst e;exact q
theorem aaq(a:PySem.W.nsIn K mainGlobals x=some (some (.ref C)))(c:PySem.W.nsIn K mainGlobals y=some (some (.ref C2)))(m:PySem.W.mroIn K C (.ref C2)=some true):∃C C2,eE K x C/\eE K y C2/\PySem.W.mroIn K C (.ref C2)=some true:=⟨C,C2,a,c,m⟩
theorem ZL(h:∃C C2,eE K x C/\eE K y C2/\PySem.W.mroIn K C (.ref C2)=some true)(n:eE K x C)(n2:eE K y C2):PySem.W.mroIn K C (.ref C2)=some true:=by obtain⟨C',C2',z,z2,q⟩:=h;have e:C'=C:=eE.uniq z n;have e2:C2'=C2:=eE.uniq z2 n2;subst e e2;exact q
theorem CQ(a:PySem.W.nsIn K mainGlobals x=some (some (.ref C)))(c:PySem.W.nsIn K mainGlobals y=some (some (.ref C2)))(m:PySem.W.kitOne K (.ref C) (.ref C2)=some b):∃C C2,eE K x C/\eE K y C2/\PySem.W.kitOne K (.ref C) (.ref C2)=some b:=⟨C,C2,a,c,m⟩
theorem Ed(h:∃C C2,eE K x C/\eE K y C2/\PySem.W.kitOne K (.ref C) (.ref C2)=some b)(n:eE K x C)(n2:eE K y C2):PySem.W.kitOne K (.ref C) (.ref C2)=some b:=by obtain⟨C',C2',z,z2,q⟩:=h;have e:C'=C:=eE.uniq z n;have e2:C2'=C2:=eE.uniq z2 n2;subst e e2;exact q
theorem ZR(a:PySem.W.nsIn K mainGlobals x=some (some (.ref C)))(m:PySem.W.kitOne K (.ref C) (.type T)=some b):∃C,eE K x C/\PySem.W.kitOne K (.ref C) (.type T)=some b:=⟨C,a,m⟩
theorem ZF(h:∃C,eE K x C/\PySem.W.kitOne K (.ref C) (.type T)=some b)(n:eE K x C):PySem.W.kitOne K (.ref C) (.type T)=some b:=by obtain⟨C',z,q⟩:=h;have e:C'=C:=eE.uniq z n;subst e;exact q
end
end HH
end
section
namespace PySem
namespace F
theorem Cy:typeLookup (.type "list_reverseiterator") "__len__"=pure none:=by rw[typeLookup_type,builtinLookup_eq_fast];kernel_rfl
theorem Je:typeLookup (.type "list_reverseiterator") "__length_hint__"=pure (some (.builtin "list_reverseiterator.__length_hint__")):=by rw[typeLookup_type,builtinLookup_eq_fast];kernel_rfl
end F
section
variable{prog:Program}{w:World}{A:Around}{E:Value->Shared->Prop}{s:Shared}
theorem mL{it l:Addr}{items:Array Value}{Q:Bool->Shared->Prop}(hit:s.heap.IsRevIter it l ((items.size:Int)-1))(hl:s.heap.IsList l items)(hlen:items.size<=2^24)(h:∀b tk,s.toks<=tk->Q b {s with toks:=tk}):wpAny (model prog w) A (Builtin.List.listLengthHint (.ref it)) Q E s:=by
 have hT:=hit.typeIs;unfold Builtin.List.listLengthHint;refine wpAny_bind (wpAny_specialOf hT F.Cy ?_);show wpAny _ _ (specialOf (Value.ref it) (Str.ofString "__length_hint__")>>=_) _ _ _;refine wpAny_bind (wpAny_specialOf hT F.Je ?_);generalize hid:("list_reverseiterator.__length_hint__":String)=id0;(fail_if_success(clear hid id0));wp_delta;rw[show splitId id0=some ("list_reverseiterator","__length_hint__")from by subst hid;decide+kernel];subst hid;refine wpAny_bind (wpAny_isInstance (b:=true) hT (by rw[isSubtype_type];kernel_rfl) ?_);rw[if_neg (by decide)];dsimp only;split;.refine wpAny_ite_split (fun hab=>absurd hab (by decide+kernel)) (fun _=>?_);exact wpAny_pure (h _ s.toks (Nat.le_refl _))
 .rename_i hq;exact absurd (by decide+kernel) hq
theorem lA{R:Result->Shared->Prop}{I l:Addr}{items:Array Value}(hh:A.handled=none)(hit:s.heap.IsRevIter I l ((items.size:Int)-1))(hl:s.heap.IsList l items)(hne:l≠I)(hlen:items.size<=2^24)(S:Addr)(hSI:S≠I)(hSl:S≠l)(res:Value)(c₀:Nat)(hS:s.heap.get? S=some {cls:=.type "list",data:=.seq #[] c₀})(hR:∀ h' tk acc' c',(∀ b o,b ≠ S->b ≠ I->s.heap.get? b=some o->h'.get? b=some o)->h'.get? S=some {cls:=.type "list",dict:=none,data:=.seq acc' c',slots:=#[]}->ItemsOf (fun i v=>items[items.size-1-i]?=some v) acc' items.size->R (.ok (.ret res)) {s with heap:=h',toks:=tk}):wpAny (model prog w) A.in1 (Builtin.List.listExtendWith (.ref S) (.ref I) res) (fun fin s'=>match fin with|.done f=>R (.ok f) s'|.again c'=>c'.quiet=true/\codeAny (model prog w) A c' R s') (fun e s'=>R (.error e) s') s:=by
 have hSf:S∉[I,l]:=fun hm=>by
  rcases List.mem_cons.mp hm with e|hm;.exact hSI e
  .exact hSl (List.mem_singleton.mp hm)
 have W:=(Walks.listRev (prog:=prog) (w:=w) (A:=A.in1) hh I l hne items).toS;have hT:s.TypeIs (.ref I) "list_reverseiterator":=hit.typeIs;have key:∀(h:Heap)(c₁ tk:Nat),h.IsRevIter I l ((items.size:Int)-1-((0:Nat):Int))->h.IsList l items->(∀b o,b≠S->s.heap.get? b=some o->h.get? b=some o)->h.get? S=some {cls:=.type "list",data:=.seq #[] c₁}->codeAny (model prog w) A (.builtin "list.extend.loop" ⟨[.ref S,.ref I,res],[]⟩) R {s with heap:=h,toks:=tk}:=by
  intro h c₁ tk hi hl' hk hS₁;refine codeAny_extend_loopS W (by rw[sizeLine_eq];omega) S hSf res items.size 0 _ #[] c₁ rfl (Nat.zero_le _) ⟨Nat.zero_le _,hi,hl'⟩ hS₁ (ItemsOf.nil _) fun s' acc' c' hm hS' hacc=>?_;rw[Moved.eq_with hm];refine hR s'.heap s'.toks acc' c' (fun b o hb hbI e=>hm.heap b o (fun hmem=>?_) (hk b o hb e)) hS' hacc;rcases List.mem_cons.mp hmem with e'|hmem;.exact hb e'
  .exact hbI (List.mem_singleton.mp hmem)
 unfold Builtin.List.listExtendWith;refine wpAny_bind (wpAny_typeOf hT ?_);have h1:Builtin.List.listSameRef (.ref S) (.ref I)=false:=by simp[Builtin.List.listSameRef,hSI]
 have h2:(Value.type "list_reverseiterator"==Value.type "list")=false:=by decide
 have h3:(Value.type "list_reverseiterator"==Value.type "tuple")=false:=by decide
 simp only[h1,h2,h3,Bool.or_false,Bool.false_eq_true,if_false];refine wpAny_bind (wpAny_pyIter_revIter hit ?_);refine wpAny_bind (wpAny_holding (mL hit hl hlen fun bb tk htk=>?_));have hi0:s.heap.IsRevIter I l ((items.size:Int)-1-((0:Nat):Int)):=by simpa using hit
 refine wpAny_ite_split (fun _=>?_) (fun _=>wpAny_pure ⟨plainId_quiet F.plain_extend_loop _,key _ c₀ _ hi0 hl (fun b o _ e=>e) hS⟩);refine wpAny_bind (wpAny_rule ?_);refine wpAny_bind ?_;show wpAny _ _ (updateSeq S (·.push .none)>>=fun _=>updateSeq S (·.pop)) _ _ _;refine wpAny_bind (wpAny_updateSeq hS rfl ?_);have hS₂:=Heap.get?_update_self (Obj.mapSeq (·.push Value.none)) hS rfl;refine wpAny_updateSeq (hz:=by seq_fits) hS₂ rfl ?_;have hS₃:=Heap.get?_update_self (Obj.mapSeq (·.pop)) hS₂ rfl;have oth:∀b o,b≠S->s.heap.get? b=some o->((s.heap.update S (Obj.mapSeq (·.push Value.none))).update S (Obj.mapSeq (·.pop))).get? b=some o:=fun b o hb e=>(Heap.get?_update_other _ _ (Ne.symm hb)).trans ((Heap.get?_update_other _ _ (Ne.symm hb)).trans e);exact wpAny_pure ⟨plainId_quiet F.plain_extend_loop _,key _ _ _ (hi0.at fun o e=>oth I o (Ne.symm hSI) e) (hl.at fun o e=>oth l o (Ne.symm hSl) e) oth hS₃⟩
theorem pN{Q:Value->Shared->Prop}{I l:Addr}{items:Array Value}(hh:A.handled=none)(hit:s.heap.IsRevIter I l ((items.size:Int)-1))(hl:s.heap.IsList l items)(hne:l≠I)(hlen:items.size<=2^24)(hQ:∀ h' tk acc' c',(∀ b o,b ≠ I->s.heap.get? b=some o->h'.get? b=some o)->h'.get? s.heap.objs.size=some {cls:=.type "list",dict:=none,data:=.seq acc' c',slots:=#[]}->ItemsOf (fun i v=>items[items.size-1-i]?=some v) acc' items.size->Q (.ref s.heap.objs.size) {s with heap:=h',toks:=tk}):wpAny (model prog w) A (call (.type "list") [.ref I]) Q E s:=by
 refine callType_codes (Q₁:=fun obj s₁=>obj=.ref s.heap.objs.size/\s₁={s with heap:=s.heap.push {cls:=.type "list",data:=.seq #[]}}) F.called_list (F.typeCall_list_1 _) F.entry_list_init (code_list_new _ ⟨rfl,rfl⟩) fun obj s₁ h₁=>?_;obtain⟨rfl,rfl⟩:=h₁;have hIlt:I<s.heap.objs.size:=let⟨_,ho,_⟩:=hit;Heap.lt_size ho;have abq:l<s.heap.objs.size:=let⟨_,ho,_⟩:=hl;Heap.lt_size ho;have hSI:s.heap.objs.size≠I:=Ne.symm (Nat.ne_of_lt hIlt);have hSl:s.heap.objs.size≠l:=Ne.symm (Nat.ne_of_lt abq);generalize hZ:s.heap.objs.size=S at*;have hS:(s.heap.push {cls:=.type "list",data:=.seq #[]}).get? S=some {cls:=.type "list",data:=.seq #[]}:=by rw[<-hZ];exact Heap.get?_push_size _ rfl
 refine⟨⟨_,hS,rfl⟩,F.args_list_init_2 _ _,?_⟩;show wpAny _ _ (do let old<-Builtin.List.listItems (.ref S);Builtin.List.listUpdate (.ref S) (fun _=>#[]);letGo old.toList.reverse;Builtin.List.listExtendWith (.ref S) (.ref I) .none) _ _ _;refine wpAny_bind ?_;unfold Builtin.List.listItems;refine wpAny_bind (wpAny_seqItems hS rfl (wpAny_pure ?_));show wpAny _ _ (updateSeq S (fun _=>#[])>>=fun _=>letGo (#[]:Array Value).toList.reverse>>=fun _=>Builtin.List.listExtendWith (.ref S) (.ref I) .none) _ _ _;refine wpAny_bind (wpAny_updateSeq hS rfl ?_);have hS₂:=Heap.get?_update_self (Obj.mapSeq (fun _=>(#[]:Array Value))) hS rfl;have oth:∀b o,b≠S->s.heap.get? b=some o->((s.heap.push {cls:=.type "list",data:=.seq #[]}).update S (Obj.mapSeq (fun _=>(#[]:Array Value)))).get? b=some o:=fun b o hb e=>(Heap.get?_update_other _ _ (Ne.symm hb)).trans (Heap.get?_push_of_some _ e);refine wpAny_bind (wpAny_letGo ?_);refine lA (A:=A.in1) (items:=items) hh (hit.at fun o e=>oth I o (Ne.symm hSI) e) (hl.at fun o e=>oth l o (Ne.symm hSl) e) hne hlen S hSI hSl .none _ hS₂ fun h' tk acc' c' hk hS' hacc=>?_;exact⟨rfl,hQ h' tk acc' c' (fun b o hb e=>hk b o (by rw[<-hZ];exact Nat.ne_of_lt (Heap.lt_size e)) hb (oth b o (by rw[<-hZ];exact Nat.ne_of_lt (Heap.lt_size e)) e)) hS' hacc⟩
end
end PySem
namespace L2
open PySem PySem.Spec PyProof.Rows
theorem yQ:∀{xs:List V}{us:List Value},Vals xs us->Vals xs.reverse us.reverse|_,_,.nil=>.nil|_,_,.cons r rs=>by rw[List.reverse_cons,List.reverse_cons];exact(yQ rs).append (.cons r .nil)
section
variable{X:Cx}{pins:List (Addr×Obj)}{σ:St}{H:Hp}{s:Shared}{E:Value->Shared->Prop}
theorem wU{a:Expr}{ta:TE}{p pos p2 pos2:Pos}(hc:X.calm=true)(hgL:Gl X "list")(hmL:X.mg "list"=none)(hg:Gl X "reversed")(hm:X.mg "reversed"=none)(ha:PE X a ta)(hs:starEach [a] X.env=[(false,eval a X.env)]:=by rfl)(hs2:starEach [.Call (.Name "reversed" p) [a] [] pos] X.env=[(false,eval (.Call (.Name "reversed" p) [a] [] pos) X.env)]:=by rfl):PE X (.Call (.Name "list" p2) [.Call (.Name "reversed" p) [a] [] pos] [] pos2) (fun σ H Q=>ta σ H fun x H1=>∃ad xs,x=.ref ad/\dB X.K H1 ad xs/\∀l,H1 l=none->Q (.ref l) (upd H1 l (.lst xs.reverse))):=by
 intro pins s σ H Q I h;refine Call_ (gH I hgL hmL uC (PyProof.Rows.callWith_type1 ?_ hs2 rfl));rw[hs2];show wpAny _ _ (spliced ((false,eval (.Call (.Name "reversed" p) [a] [] pos) X.env)::[])) _ _ _;refine Calls.spliced_cons (Call_ (gH I hg hm pB (PyProof.Rows.callWith_type1 (cG ((aW ha cQ hs) pos pins s σ H (fun vs H1=>match vs with|[x]=>∃ad xs,x=.ref ad/\dB X.K H1 ad xs/\∀l,H1 l=none->Q (.ref l) (upd H1 l (.lst xs.reverse))|_=>False) I h) ?_) hs rfl)));rintro us s1⟨vs,H1,I1,r1,q1⟩;obtain⟨ad,xs,hq,q,vs1⟩:∃ad xs,dB X.K H1 ad xs/\(∀l,H1 l=none->Q (.ref l) (upd H1 l (.lst xs.reverse)))/\vs=[.ref ad]:=by cases vs with|nil=>cases q1|cons x r=>cases r with|nil=>obtain⟨ad,xs,rfl,q,q'⟩:=q1;exact⟨ad,xs,q,q',rfl⟩|cons _ _=>cases q1
 subst vs1;obtain⟨u,rfl,ru⟩:=r1.one;cases ru;obtain⟨its,rv,pl,hz⟩:=I1.list hq;have hsz:its.toArray.size=xs.length:=by rw[List.size_toArray,<-rv.length]
 refine call_reversed_list pl.isList (Calls.spliced_nil ?_);have hne:ad≠s1.heap.objs.size:=Nat.ne_of_lt (let⟨_,ho,_⟩:=pl.isList;Heap.lt_size ho);have hl2:(s1.heap.push (revObj ad ((its.toArray.size:Int)-1))).IsList ad its.toArray:=pl.isList.at fun o e=>Heap.get?_push_of_some _ e;refine pN (I1.ok.hd hc) (I:=s1.heap.objs.size) (l:=ad) (items:=its.toArray) ⟨_,Heap.get?_push_size _ rfl,rfl,rfl⟩ hl2 hne (by rw[hsz];exact Nat.le_trans hz (by decide)) fun h' tk acc' c' hk hS hacc=>?_;have hsz2:(s1.heap.push (revObj ad ((its.toArray.size:Int)-1))).objs.size=s1.heap.objs.size+1:=Heap.size_push ..;have ea:acc'.toList=its.reverse:=by
  obtain⟨h1,h2⟩:=hacc;apply List.ext_getElem;.simpa using h1
  . intro j j1 j2;have hj:j<its.length:=by simpa using j2
    have:=h2 j acc'[j] (Array.getElem?_eq_getElem (by simpa using j1));simp only[List.size_toArray]at this;have h3:=Array.getElem?_eq_some_iff.mp this;rw[List.getElem_reverse];simpa using h3.2.symm
 dsimp only at hS hk ⊢;rw[hsz2]at hS ⊢;refine⟨.ref (s1.heap.objs.size+1),_,I1.laid (t':=tk) (o:=.lst xs.reverse) (h':=h') (fun b o e=>hk b o (Nat.ne_of_lt (Heap.lt_size e)) (Heap.get?_push_of_some _ e)) (Nat.le_succ _) ?_,rfl,q _ (I1.hok.fresh (Nat.le_succ _))⟩;exact⟨by simpa using hz,acc'.toList,c',by rw[ea];exact yQ rv,by simpa using hS⟩
end
end L2
namespace HH
open PySem L2 PySem.Spec PyProof.Rows
section
variable{X:Cx}{c:Call}{a:Expr}{pa:P}{pos:Pos}
theorem pH{x y:Str}{p' q' pos':Pos}(hy:y="list")(hx:x="reversed")(hc:X.calm=true)(hgL:Gl X y)(hmL:X.mg y=none)(hg:Gl X x)(hm:X.mg x=none)(ha:SX X c a pa)(hs:starEach [a] X.env=[(false,eval a X.env)]:=by rfl)(hs2:starEach [.Call (.Name x p') [a] [] pos] X.env=[(false,eval (.Call (.Name x p') [a] [] pos) X.env)]:=by rfl):SX X c (.Call (.Name y q') [.Call (.Name x p') [a] [] pos] [] pos') (.blt .Jw [pa]):=by subst hx hy;obtain⟨ta,h1,h2⟩:=ha.cN;refine⟨dm (wU hc hgL hmL hg hm h1 hs hs2) ?_,fun i h=>by cases h⟩;rintro σ H Q⟨F,ρ,r,ρ',g,e,k⟩;rw[HH.ev]at e;obtain⟨d,ρ2,e1,e2⟩:=ao e;have zz:=aJ e2;clear e2;obtain⟨e2,e3⟩:=zz;subst e3;cases d with|lst ds=>cases e2;refine h2 g e1 ?_;rintro v F' H' s pv;obtain⟨ad,xs,rfl,hq,rs⟩:=pv.lst s.gs.sub;exact⟨ad,xs,rfl,hq,fun l hl=>wQ s.gs.sub (aB.rev rs) hl fun v F2 H2 xt rn=>k v F2 H2 (s.trans (xt.stp s.gs)) (.later s (rn.p7 s.gs))⟩|_=>cases e2
end
end HH
end
section
namespace HH
open PySem
theorem lq:∀a b:List Int,aQ a b=true->aQ b a=false
 |[],[],h=>by simp[aQ]at h|[],_::_,_=>by simp[aQ]|_::_,[],h=>by simp[aQ]at h|x::a,y::b,h=>by
   simp only[aQ,Bool.or_eq_true,decide_eq_true_eq,Bool.and_eq_true]at h;simp only[aQ,Bool.or_eq_false_iff,decide_eq_false_iff_not,Bool.and_eq_false_iff];rcases h with h|⟨h,h'⟩;.exact⟨by omega,.inl (by omega)⟩
   .exact⟨by omega,.inr (lq a b h')⟩
theorem wN:∀a b c:List Int,aQ b a=false->aQ c b=false->aQ c a=false
 |[],_,c,_,_=>by cases c<;>simp[aQ]|_::_,[],_,h,_=>by simp[aQ]at h|_::_,_::_,[],_,h=>by simp[aQ]at h|x::a,y::b,z::c,h1,h2=>by
   simp only[aQ,Bool.or_eq_false_iff,decide_eq_false_iff_not,Bool.and_eq_false_iff]at h1 h2 ⊢;refine⟨by omega,?_⟩;by_cases e:z=x;.right;exact wN a b c (h1.2.resolve_left (by omega)) (h2.2.resolve_left (by omega))
   .exact .inl e
theorem pA:∀a b:List Int,aQ a b=false->aQ b a=false->a=b
 |[],[],_,_=>rfl|[],_::_,h,_=>by simp[aQ]at h|_::_,[],_,h=>by simp[aQ]at h|x::a,y::b,h1,h2=>by
   simp only[aQ,Bool.or_eq_false_iff,decide_eq_false_iff_not,Bool.and_eq_false_iff]at h1 h2;have e:x=y:=by omega
   subst e;rw[pA a b (h1.2.resolve_left (by simp)) (h2.2.resolve_left (by simp))]
theorem vm:∀{xs ys:List D},xs.all cT=true->ys.all cT=true->xs.map gR=ys.map gR->xs=ys
 |[],[],_,_,_=>rfl|[],_::_,_,_,h=>by simp at h|_::_,[],_,_,h=>by simp at h|x::xs,y::ys,h1,h2,h=>by
   simp only[List.all_cons,Bool.and_eq_true]at h1 h2;simp only[List.map_cons,List.cons.injEq]at h;obtain⟨i,rfl⟩:∃i,x=.int i:=by cases x<;>first|exact⟨_,rfl⟩|(have q:=h1.1;simp[cT]at q;done)
   obtain⟨j,rfl⟩:∃j,y=.int j:=by cases y<;>first|exact⟨_,rfl⟩|(have q:=h2.1;simp[cT]at q;done)
   rw[vm h1.2 h2.2 h.2,show i=j from h.1]
theorem sy{x y:D}(h:(cT x=true/\cT y=true)\/(p8 x=true/\p8 y=true))(e:bD x=bD y):x=y:=by
 rcases h with⟨h1,h2⟩|⟨h1,h2⟩
 . cases x<;>first|(simp[cT]at h1;done)|skip
   cases y<;>first|(simp[cT]at h2;done)|skip
   simpa[bD]using e
 . cases x<;>first|(simp[p8]at h1;done)|skip
   cases y<;>first|(simp[p8]at h2;done)|skip
   rename_i xs ys;cases xs<;>first|(simp[p8]at h1;done)|skip
   cases ys<;>first|(simp[p8]at h2;done)|skip
   rw[vm h1 h2 e]
noncomputable def mq(a b:D):Bool:=!aQ (bD b) (bD a)
theorem iG(ds:List D):(lH ds).Perm ds:=List.mergeSort_perm ..
theorem Hv(a b c:D)(h1:mq a b=true)(h2:mq b c=true):mq a c=true:=by simp only[mq,Bool.not_eq_true']at*;exact wN _ _ _ h1 h2
theorem Dy(a b:D):(mq a b||mq b a)=true:=by simp only[mq,Bool.or_eq_true,Bool.not_eq_true'];cases h:aQ (bD b) (bD a)with|false=>exact .inl rfl|true=>exact .inr (lq _ _ h)
theorem o9(ds:List D):(lH ds).Pairwise fun a b=>mq a b=true:=List.pairwise_mergeSort Hv Dy ds
theorem sZ{ds:List D}(h:sortable ds=true):∀x∈ds,∀y∈ds,bD x=bD y->x=y:=by
 simp only[sortable,Bool.and_eq_true,Bool.or_eq_true,List.all_eq_true]at h;intro x hx y hy e;rcases h.2 with h|h;.exact sy (.inl ⟨h x hx,h y hy⟩) e
 .exact sy (.inr ⟨h x hx,h y hy⟩) e
theorem vf{ds l:List D}(h:sortable ds=true)(p:l.Perm ds)(s:l.Pairwise fun a b=>mq a b=true):l=lH ds:=by refine List.Perm.eq_of_pairwise (le:=fun a b=>mq a b=true) (fun a b ha hb h1 h2=>?_) s (o9 ds) (p.trans (iG ds).symm);simp only[mq,Bool.not_eq_true']at h1 h2;exact sZ h a (p.mem_iff.mp ha) b ((iG ds).mem_iff.mp hb) (pA _ _ h2 h1)
end HH
end
section
namespace HH
open PySem PyProof.Rows
noncomputable abbrev SM:=StateT SortSt Sem
noncomputable def gal:Bool->Keyed->Array Keyed->Nat->Nat->Nat->SM (Option Nat):=sortPriv%PySem.Builtin.gallop
noncomputable def Oh(l:Bool)(k:Keyed)(xs:Array Keyed)(b i:Nat):SM (Option Bool):=elem' xs (b+i)>>=fun x=>if l=true then lt' x k else lt' k x>>=fun o=>pure (o.map fun x=>!x)
noncomputable def Dd(l:Bool)(k:Keyed)(xs:Array Keyed)(b n lo hi:Nat):SM (Option Nat):=(forIn [0:n] ((none,lo,hi):Option (Option Nat)× Nat × Nat) fun _ c=>if c.2.1 ≥ c.2.2 then pure (.done (none,c.2.1,c.2.2))else Oh l k xs b (c.2.1+(c.2.2-c.2.1)/2)>>=fun o=>match o with|some m=>if m=true then pure (.yield (none,c.2.1+(c.2.2-c.2.1)/2+1,c.2.2))else pure (.yield (none,c.2.1,c.2.1+(c.2.2-c.2.1)/2))|_=>pure (.done (some none,c.2.1,c.2.2)))>>=fun c=>match c.1 with|some r=>pure r|none=>pure (some c.2.2)
theorem NZ(l:Bool)(k:Keyed)(xs:Array Keyed)(b n h:Nat):gal l k xs b n h=Oh l k xs b h>>=fun o=>match o with
 |some r=>if r=true then(forIn [0:n] ((none,0,1):Option (Option Nat)× Nat × Nat) fun _ c=>if c.2.2 ≥ n-h then pure (.done (none,c.2.1,c.2.2))else Oh l k xs b (h+c.2.2)>>=fun o=>match o with|some m=>if(!m)=true then pure (.done (none,c.2.1,c.2.2))else pure (.yield (none,c.2.2,2*c.2.2+1))|_=>pure (.done (some none,c.2.1,c.2.2)))>>=fun c=>match c.1 with|some r=>pure r|none=>Dd l k xs b n (h+c.2.1+1) (h+min c.2.2 (n-h))else(forIn [0:n] ((none,0,1):Option (Option Nat)× Nat × Nat) fun _ c=>if c.2.2 ≥ h+1 then pure (.done (none,c.2.1,c.2.2))else Oh l k xs b (h-c.2.2)>>=fun o=>match o with|some m=>if m=true then pure (.done (none,c.2.1,c.2.2))else pure (.yield (none,c.2.2,2*c.2.2+1))|_=>pure (.done (some none,c.2.1,c.2.2)))>>=fun c=>match c.1 with|some r=>pure r|none=>Dd l k xs b n (h+1-min c.2.2 (h+1)) (h-c.2.1)
 |_=>pure none:=by unfold Dd;show Oh l k xs b h>>=_=_;congr 1;funext o;cases o with|none=>rfl|some r=>dsimp only;cases r with
   |true=>simp only[if_true];congr 1;funext c;obtain⟨c1,c2,c3⟩:=c;cases c1 with|some r=>rfl|none=>dsimp only;congr 1;funext c;obtain⟨c1,c2,c3⟩:=c;cases c1<;>rfl
   |false=>simp only[Bool.false_eq_true,if_false];congr 1;funext c;obtain⟨c1,c2,c3⟩:=c;cases c1 with|some r=>rfl|none=>dsimp only;congr 1;funext c;obtain⟨c1,c2,c3⟩:=c;cases c1<;>rfl
structure Rk(M:Model)(A:Around)(E:Value->Shared->Prop)(s:Shared)(κ:SortKind)(ok:Keyed->Prop)(K:Keyed->Int):Prop where lt:∀{x y:Keyed}{Q:Option Bool->SortSt->Prop}{st:SortSt},ok x->ok y->kindOf st=κ->Q (some (decide (K x<K y))) st->wpS M A E s (lt' x y) Q st
section
variable{M:Model}{A:Around}{E:Value->Shared->Prop}{s:Shared}{κ:SortKind}{ok:Keyed->Prop}{K:Keyed->Int}
noncomputable def it(xs:Array Keyed)(i:Nat):Keyed:=xs.getD i (Value.none,Value.none)
theorem rQ{xs:Array Keyed}{i:Nat}(h:i<xs.size):xs[i]?=some (it xs i):=by unfold it;simp[Array.getD,h]
theorem cP{xs:Array Keyed}{i:Nat}(h:i<xs.size):it xs i∈xs.toList:=by
 have:it xs i=xs[i]:=by unfold it;simp[Array.getD,h]
 rw[this];simp
theorem aV{xs:Array Keyed}{i:Nat}{Q:Keyed->SortSt->Prop}{st:SortSt}(h:i<xs.size)(q:Q (it xs i) st):wpS M A E s (elem' xs i) Q st:=by rw[elem'_eq,rQ h];exact wpS_pure q
noncomputable def bb(K:Keyed->Int)(l:Bool)(k x:Keyed):Bool:=if l=true then decide (K x<K k)else !decide (K k<K x)
theorem rR(R:Rk M A E s κ ok K){l:Bool}{k:Keyed}{xs:Array Keyed}{b i:Nat}{Q:Option Bool->SortSt->Prop}{st:SortSt}(hk:ok k)(hx:∀x∈xs.toList,ok x)(hi:b+i<xs.size)(hs:kindOf st=κ)(q:Q (some (bb K l k (it xs (b+i)))) st):wpS M A E s (Oh l k xs b i) Q st:=by unfold Oh;refine wpS_bind (aV hi ?_);have ho:=hx _ (cP hi);cases l with|true=>exact R.lt ho hk hs q|false=>exact wpS_bind (R.lt hk ho hs (wpS_pure q))
noncomputable def Gb(K:Keyed->Int)(l:Bool)(k:Keyed)(xs:Array Keyed)(b n:Nat):Prop:=∀i j,i<=j->j<n->bb K l k (it xs (b+j))=true->bb K l k (it xs (b+i))=true
theorem yI(R:Rk M A E s κ ok K){l:Bool}{k:Keyed}{xs:Array Keyed}{b n lo hi:Nat}{Q:Option Nat->SortSt->Prop}{st:SortSt}(hk:ok k)(hx:∀x∈xs.toList,ok x)(hb:b+n<=xs.size)(hs:kindOf st=κ)(hc:Gb K l k xs b n)(h1:lo<=hi)(h2:hi<=n)(h3:∀i,i<lo->bb K l k (it xs (b+i))=true)(h4:∀i,hi<=i->i<n->bb K l k (it xs (b+i))=false)(q:∀m,m<=n->(∀i,i<m->bb K l k (it xs (b+i))=true)->(∀i,m<=i->i<n->bb K l k (it xs (b+i))=false)->Q (some m) st):wpS M A E s (Dd l k xs b n lo hi) Q st:=by
 unfold Dd;refine wpS_bind (wpS_mono (wpS_forRange (I:=fun x c st'=>st'=st/\∃lo hi,c=(none,lo,hi)/\lo<=hi/\hi<=n/\hi-lo<=n-x/\(∀i,i<lo->bb K l k (it xs (b+i))=true)/\∀i,hi<=i->i<n->bb K l k (it xs (b+i))=false) (Q:=fun c st'=>st'=st/\∃m,c=(none,m,m)/\m<=n/\(∀i,i<m->bb K l k (it xs (b+i))=true)/\∀i,m<=i->i<n->bb K l k (it xs (b+i))=false) ?_ ?_ ⟨rfl,lo,hi,rfl,h1,h2,by omega,h3,h4⟩) ?_)
 . rintro x c st' _ hxn⟨rfl,lo,hi,rfl,a1,a2,a3,a4,a5⟩;dsimp only;by_cases e:lo ≥ hi
   . rw[if_pos e];have:lo=hi:=by omega
     subst this;exact wpS_pure ⟨rfl,lo,rfl,a2,a4,a5⟩
   .rw[if_neg e];refine wpS_bind (rR R hk hx (by omega) hs ?_);cases c:bb K l k (it xs (b+(lo+(hi-lo)/2)))with|true=>dsimp only;rw[if_pos rfl];exact wpS_pure ⟨rfl,_,_,rfl,by omega,a2,by omega,fun i hi'=>hc i (lo+(hi-lo)/2) (by omega) (by omega) c,a5⟩|false=>dsimp only;rw[if_neg (by simp)];refine wpS_pure ⟨rfl,_,_,rfl,by omega,by omega,by omega,a4,fun i i1 i2=>?_⟩;cases z:bb K l k (it xs (b+i))with|false=>rfl|true=>have:=hc (lo+(hi-lo)/2) i i1 i2 z;rw[c]at this;cases this
 . rintro c st'⟨rfl,lo,hi,rfl,a1,a2,a3,a4,a5⟩;have:lo=hi:=by omega
   subst this;exact⟨rfl,lo,rfl,a2,a4,a5⟩
 .rintro c st'⟨rfl,m,rfl,a1,a2,a3⟩;exact wpS_pure (q m a1 a2 a3)
theorem mj(R:Rk M A E s κ ok K){l:Bool}{k:Keyed}{xs:Array Keyed}{b n h:Nat}{Q:Option Nat->SortSt->Prop}{st:SortSt}(hk:ok k)(hx:∀x∈xs.toList,ok x)(hb:b+n<=xs.size)(hh:h<n)(hs:kindOf st=κ)(hc:Gb K l k xs b n)(q:∀m,m<=n->(∀i,i<m->bb K l k (it xs (b+i))=true)->(∀i,m<=i->i<n->bb K l k (it xs (b+i))=false)->Q (some m) st):wpS M A E s (gal l k xs b n h) Q st:=by
 have up:∀{i:Nat},i<n->bb K l k (it xs (b+i))=true->∀j,j<=i->bb K l k (it xs (b+j))=true:=fun hi c j hj=>hc _ _ hj hi c;have dn:∀{i:Nat},bb K l k (it xs (b+i))=false->∀j,i<=j->j<n->bb K l k (it xs (b+j))=false:=fun{i}c j h1 h2=>by cases z:bb K l k (it xs (b+j))with|false=>rfl|true=>have:=hc i j h1 h2 z;rw[c]at this;cases this
 rw[NZ];refine wpS_bind (rR R hk hx (by omega) hs ?_);cases c0:bb K l k (it xs (b+h))with
 |true=>
   dsimp only;rw[if_pos rfl];refine wpS_bind (wpS_mono (wpS_forRange (I:=fun x c st'=>st'=st/\∃a o,c=(none,a,o)/\x+1<=o/\a<o/\h+a<n/\bb K l k (it xs (b+(h+a)))=true) (Q:=fun c st'=>st'=st/\∃a o,c=(none,a,o)/\a<o/\h+a<n/\bb K l k (it xs (b+(h+a)))=true/\(n-h<=o\/o<n-h/\bb K l k (it xs (b+(h+o)))=false)) ?_ ?_ ⟨rfl,0,1,rfl,by omega,by omega,by omega,by simpa using c0⟩) ?_)
   . rintro x c st' _ hxn⟨rfl,a,o,rfl,a1,a2,a3,a4⟩;dsimp only;by_cases e:o ≥ n-h;.rw[if_pos e];exact wpS_pure ⟨rfl,a,o,rfl,a2,a3,a4,.inl e⟩
     .rw[if_neg e];refine wpS_bind (rR R hk hx (by omega) hs ?_);cases c:bb K l k (it xs (b+(h+o)))with|true=>dsimp only;rw[if_neg (by simp)];exact wpS_pure ⟨rfl,_,_,rfl,by omega,by omega,by omega,c⟩|false=>dsimp only;rw[if_pos (by simp)];exact wpS_pure ⟨rfl,a,o,rfl,a2,a3,a4,.inr ⟨by omega,c⟩⟩
   .rintro c st'⟨rfl,a,o,rfl,a1,a2,a3,a4⟩;exact⟨rfl,a,o,rfl,a2,a3,a4,.inl (by omega)⟩
   . rintro c st'⟨rfl,a,o,rfl,a2,a3,a4,a5⟩;dsimp only;refine yI R hk hx hb hs hc (by omega) (by omega) (fun i hi=>up a3 a4 i (by omega)) (fun i h1 h2=>?_) q;rcases a5 with z|⟨z1,z2⟩;.omega
     .exact dn z2 i (by omega) h2|false=>
   dsimp only;rw[if_neg (by simp)];refine wpS_bind (wpS_mono (wpS_forRange (I:=fun x c st'=>st'=st/\∃a o,c=(none,a,o)/\x+1<=o/\a<o/\a<=h/\bb K l k (it xs (b+(h-a)))=false) (Q:=fun c st'=>st'=st/\∃a o,c=(none,a,o)/\a<o/\a<=h/\bb K l k (it xs (b+(h-a)))=false/\(h+1<=o\/o<h+1/\bb K l k (it xs (b+(h-o)))=true)) ?_ ?_ ⟨rfl,0,1,rfl,by omega,by omega,by omega,by simpa using c0⟩) ?_)
   . rintro x c st' _ hxn⟨rfl,a,o,rfl,a1,a2,a3,a4⟩;dsimp only;by_cases e:o ≥ h+1;.rw[if_pos e];exact wpS_pure ⟨rfl,a,o,rfl,a2,a3,a4,.inl e⟩
     .rw[if_neg e];refine wpS_bind (rR R hk hx (by omega) hs ?_);cases c:bb K l k (it xs (b+(h-o)))with|false=>dsimp only;rw[if_neg (by simp)];exact wpS_pure ⟨rfl,_,_,rfl,by omega,by omega,by omega,c⟩|true=>dsimp only;rw[if_pos rfl];exact wpS_pure ⟨rfl,a,o,rfl,a2,a3,a4,.inr ⟨by omega,c⟩⟩
   .rintro c st'⟨rfl,a,o,rfl,a1,a2,a3,a4⟩;exact⟨rfl,a,o,rfl,a2,a3,a4,.inl (by omega)⟩
   . rintro c st'⟨rfl,a,o,rfl,a2,a3,a4,a5⟩;dsimp only;refine yI R hk hx hb hs hc (by omega) (by omega) (fun i hi=>?_) (fun i h1 h2=>dn a4 i (by omega) h2) q;rcases a5 with z|⟨z1,z2⟩;.omega
     .exact up (by omega) z2 i (by omega)
end
end HH
end
section
namespace HH
open PySem PyProof.Rows
section
variable{K:Keyed->Int}{T out A B P:List Keyed}{x y z:Keyed}
noncomputable def SL(K:Keyed->Int)(l:List Keyed):Prop:=l.Pairwise fun x y=>K x<=K y
theorem cu{l k:List Keyed}:SL K (l++k)↔SL K l/\SL K k/\∀x∈l,∀y∈k,K x<=K y:=List.pairwise_append
structure MW(K:Keyed->Int)(T out A B:List Keyed):Prop where
 perm:(out++(A++B)).Perm T
 sa:SL K (out++A)sb:SL K (out++B)
theorem MW.U3(w:MW K T out (P++A) B)(h:∀x∈P,∀y∈B,K x<=K y):MW K T (out++P) A B:=by
 refine⟨by simpa using w.perm,by simpa using w.sa,?_⟩;have h1:=cu.mp w.sb;have h2:=cu.mp (show SL K ((out++P)++A)by simpa using w.sa);refine cu.mpr ⟨h2.1,h1.2.1,fun x hx y hy=>?_⟩;rcases List.mem_append.mp hx with hx|hx;.exact h1.2.2 x hx y hy
 .exact h x hx y hy
theorem MW.Um(w:MW K T out A (P++B))(h:∀x∈P,∀y∈A,K x<=K y):MW K T (out++P) A B:=by
 have h1:=cu.mp w.sa;have h2:=cu.mp (show SL K ((out++P)++B)by simpa using w.sb);refine⟨?_,cu.mpr ⟨h2.1,h1.2.1,fun x hx y hy=>?_⟩,by simpa using w.sb⟩;.refine List.Perm.trans ?_ w.perm;rw[List.append_assoc];refine List.Perm.append_left out ?_;rw[<-List.append_assoc,<-List.append_assoc];exact List.perm_append_comm.append_right B
 . rcases List.mem_append.mp hx with hx|hx;.exact h1.2.2 x hx y hy
   .exact h x hx y hy
theorem MW.Yt(w:MW K T out A []):(out++A).Perm T/\SL K (out++A):=⟨by simpa using w.perm,w.sa⟩
theorem MW.Zy(w:MW K T out [] B):(out++B).Perm T/\SL K (out++B):=⟨by simpa using w.perm,w.sb⟩
theorem MW.last(w:MW K T out [z] B)(h:∀y∈B,K y<=K z):(out++B++[z]).Perm T/\SL K (out++B++[z]):=by
 refine⟨?_,cu.mpr ⟨w.sb,List.pairwise_singleton _ _,fun x hx y hy=>?_⟩⟩;.refine List.Perm.trans ?_ w.perm;rw[List.append_assoc];exact List.Perm.append_left out List.perm_append_comm
 . rw[List.mem_singleton.mp hy];rcases List.mem_append.mp hx with hx|hx;.exact(cu.mp w.sa).2.2 x hx z (by simp)
   .exact h x hx
theorem qW{a:Array Keyed}{i:Nat}(h:i<a.size):a.toList.drop i=it a i::a.toList.drop (i+1):=by
 have e:it a i=a.toList[i]:=by unfold it;simp[Array.getD,h]
 rw[e];exact List.drop_eq_getElem_cons (by simpa using h)
theorem iz{a:Array Keyed}{i j:Nat}(h:j<=a.size):(a.extract i j).toList=(a.toList.drop i).take (j-i):=by simp[Array.toList_extract,List.extract]
theorem jd{a:Array Keyed}{i:Nat}:(a.extract i a.size).toList=a.toList.drop i:=by rw[iz (Nat.le_refl _)];exact List.take_of_length_le (by simp)
theorem jC{a:Array Keyed}{i k:Nat}(h:i+k<=a.size):a.toList.drop i=(a.extract i (i+k)).toList++a.toList.drop (i+k):=by rw[iz h,Nat.add_sub_cancel_left];rw[show a.toList.drop (i+k)=(a.toList.drop i).drop k by rw[List.drop_drop]];exact(List.take_append_drop k _).symm
theorem ext_mem{a:Array Keyed}{i k:Nat}{x:Keyed}(h:i+k<=a.size)(hx:x∈(a.extract i (i+k)).toList):∃j,j<k/\x=it a (i+j):=by rw[iz h,Nat.add_sub_cancel_left]at hx;obtain⟨j,hj,e⟩:=List.mem_iff_getElem.mp hx;simp only[List.length_take,List.length_drop,Array.length_toList]at hj;refine⟨j,by omega,?_⟩;rw[<-e];unfold it;simp[Array.getD,show i+j<a.size by omega]
theorem iQ{a:Array Keyed}{i:Nat}{x:Keyed}(hx:x∈a.toList.drop i):∃j,i<=j/\j<a.size/\x=it a j:=by obtain⟨j,hj,e⟩:=List.mem_iff_getElem.mp hx;simp only[List.length_drop,Array.length_toList]at hj;refine⟨i+j,by omega,by omega,?_⟩;rw[<-e];unfold it;simp[Array.getD,show i+j<a.size by omega]
noncomputable def tV(K:Keyed->Int)(a:Array Keyed):Prop:=∀i j,i<=j->j<a.size->K (it a i)<=K (it a j)
theorem oW{a:Array Keyed}(h:tV K a):SL K a.toList:=by
 unfold SL;rw[List.pairwise_iff_getElem];intro i j hi hj hij;have:=h i j (by omega) (by simpa using hj);have hi':i<a.size:=by simpa using hi
 have hj':j<a.size:=by simpa using hj
 unfold it at this;simpa[Array.getD,hi',hj']using this
end
section
variable{M:Model}{A:Around}{E:Value->Shared->Prop}{s:Shared}{κ:SortKind}{ok:Keyed->Prop}{K:Keyed->Int}
structure pZ(st st':SortSt):Prop where
 kind:kindOf st'=kindOf st
 arr:arrOf st'=arrOf st
 pend:pendingOf st'=pendingOf st
 fail:failedOf st'=failedOf st
theorem pZ.refl(st:SortSt):pZ st st:=⟨rfl,rfl,rfl,rfl⟩
theorem pZ.trans{a b c:SortSt}(h:pZ a b)(k:pZ b c):pZ a c:=⟨k.kind.trans h.kind,k.arr.trans h.arr,k.pend.trans h.pend,k.fail.trans h.fail⟩
noncomputable def setG:Nat->SM Unit:=sortPriv%PySem.Builtin.setMinGallop
theorem m9{g:Nat}{Q:Unit->SortSt->Prop}{st:SortSt}(q:∀st',pZ st st'->Q () st'):wpS M A E s (setG g) Q st:=wpS_modify (q _ ⟨rfl,rfl,rfl,rfl⟩)
theorem wp_rule{x:String}{Q:Unit->SortSt->Prop}{st:SortSt}(q:Q () st):wpS M A E s (liftM (rule x):SM Unit) Q st:=wpS_lift (wpAny_rule ⟨rfl,q⟩)
noncomputable def mlo:Array Keyed->Array Keyed->SM (Array Keyed):=sortPriv%PySem.Builtin.mergeLo
structure MI(K:Keyed->Int)(a b out:Array Keyed)(ia ib:Nat):Prop where
 i1:ia+1<a.size
 i2:ib<b.size
 w:MW K (a.toList++b.toList) out.toList (a.toList.drop ia) (b.toList.drop ib)
structure Fin(K:Keyed->Int)(a b out:Array Keyed):Prop where perm:out.toList.Perm (a.toList++b.toList)lH:SL K out.toList
theorem jl{a b out:Array Keyed}{ia ib:Nat}(h:ib=b.size)(w:MW K (a.toList++b.toList) out.toList (a.toList.drop ia) (b.toList.drop ib)):Fin K a b (out++a.extract ia a.size++b.extract ib b.size):=by
 have e:b.toList.drop ib=[]:=by rw[h];simp
 rw[e]at w;obtain⟨h1,h2⟩:=w.Yt;refine⟨?_,?_⟩<;>rw[Array.toList_append,Array.toList_append,jd,jd,e,List.append_nil]<;>assumption
theorem zP{a b out:Array Keyed}{ia ib:Nat}(h:ia=a.size)(w:MW K (a.toList++b.toList) out.toList (a.toList.drop ia) (b.toList.drop ib)):Fin K a b (out++a.extract ia a.size++b.extract ib b.size):=by
 have e:a.toList.drop ia=[]:=by rw[h];simp
 rw[e]at w;obtain⟨h1,h2⟩:=w.Zy;refine⟨?_,?_⟩<;>rw[Array.toList_append,Array.toList_append,jd,jd,e,List.append_nil]<;>assumption
theorem lr{a b out:Array Keyed}{ia ib:Nat}(h:ia+1=a.size)(hl:∀i,i<b.size->K (it b i)<=K (it a (a.size-1)))(w:MW K (a.toList++b.toList) out.toList (a.toList.drop ia) (b.toList.drop ib)):Fin K a b (out++b.extract ib b.size++a.extract ia a.size):=by
 have e:a.toList.drop ia=[it a ia]:=by rw[qW (by omega),h];simp
 rw[e]at w;obtain⟨h1,h2⟩:=w.last fun y hy=>by obtain⟨j,_,hj,rfl⟩:=iQ hy;rw[show ia=a.size-1 by omega];exact hl j hj
 refine⟨?_,?_⟩<;>rw[Array.toList_append,Array.toList_append,jd,jd,e]<;>assumption
theorem MW.qM{a b out:Array Keyed}{ia ib:Nat}(h:ia<a.size)(w:MW K (a.toList++b.toList) out.toList (a.toList.drop ia) (b.toList.drop ib))(hb:tV K b)(hk:ib<b.size->K (it a ia)<=K (it b ib)):MW K (a.toList++b.toList) (out.push (it a ia)).toList (a.toList.drop (ia+1)) (b.toList.drop ib):=by rw[qW h]at w;rw[Array.toList_push];refine MW.U3 (P:=[it a ia]) w fun x hx y hy=>?_;rw[List.mem_singleton.mp hx];obtain⟨j,j1,j2,rfl⟩:=iQ hy;exact Int.le_trans (hk (by omega)) (hb _ _ j1 j2)
theorem MW.qT{a b out:Array Keyed}{ia ib:Nat}(h:ib<b.size)(w:MW K (a.toList++b.toList) out.toList (a.toList.drop ia) (b.toList.drop ib))(ha:tV K a)(hk:ia<a.size->K (it b ib)<=K (it a ia)):MW K (a.toList++b.toList) (out.push (it b ib)).toList (a.toList.drop ia) (b.toList.drop (ib+1)):=by rw[qW h]at w;rw[Array.toList_push];refine MW.Um (P:=[it b ib]) w fun x hx y hy=>?_;rw[List.mem_singleton.mp hx];obtain⟨j,j1,j2,rfl⟩:=iQ hy;exact Int.le_trans (hk (by omega)) (ha _ _ j1 j2)
theorem MW.DP{a b out:Array Keyed}{ia ib k:Nat}(h:ia+k<=a.size)(w:MW K (a.toList++b.toList) out.toList (a.toList.drop ia) (b.toList.drop ib))(hb:tV K b)(hk:∀j,j<k->ib<b.size->K (it a (ia+j))<=K (it b ib)):MW K (a.toList++b.toList) (out++a.extract ia (ia+k)).toList (a.toList.drop (ia+k)) (b.toList.drop ib):=by rw[jC h]at w;rw[Array.toList_append];refine MW.U3 w fun x hx y hy=>?_;obtain⟨i,hi,rfl⟩:=ext_mem h hx;obtain⟨j,j1,j2,rfl⟩:=iQ hy;exact Int.le_trans (hk i hi (by omega)) (hb _ _ j1 j2)
theorem MW.El{a b out:Array Keyed}{ia ib k:Nat}(h:ib+k<=b.size)(w:MW K (a.toList++b.toList) out.toList (a.toList.drop ia) (b.toList.drop ib))(ha:tV K a)(hk:∀j,j<k->ia<a.size->K (it b (ib+j))<=K (it a ia)):MW K (a.toList++b.toList) (out++b.extract ib (ib+k)).toList (a.toList.drop ia) (b.toList.drop (ib+k)):=by rw[jC h]at w;rw[Array.toList_append];refine MW.Um w fun x hx y hy=>?_;obtain⟨i,hi,rfl⟩:=ext_mem h hx;obtain⟨j,j1,j2,rfl⟩:=iQ hy;exact Int.le_trans (hk i hi (by omega)) (ha _ _ j1 j2)
theorem sY{l:Bool}{k:Keyed}{a:Array Keyed}{b n:Nat}(h:tV K a)(hn:b+n<=a.size):Gb K l k a b n:=fun i j hij hj c=>by have:=h (b+i) (b+j) (by omega) (by omega);unfold bb at*;cases l with|true=>simp only[if_true,decide_eq_true_eq]at*;omega|false=>simp only[Bool.false_eq_true,if_false,Bool.not_eq_true',decide_eq_false_iff_not]at*;omega
end
end HH
end
section
namespace HH
open PySem PyProof.Rows
section
variable{M:Model}{A:Around}{E:Value->Shared->Prop}{s:Shared}{κ:SortKind}{ok:Keyed->Prop}{K:Keyed->Int}
theorem De{α γ:Type}{T:PUnit->α->SM γ}{c:Prop}{d:Decidable c}{x y:α}{Q:γ->SortSt->Prop}{st:SortSt}(h:∀r u,wpS M A E s (T r u) Q st):wpS M A E s (@ite _ c d (T ⟨⟩ x) (T ⟨⟩ y)) Q st:=by split<;>exact h _ _
theorem nj{α β γ:Type}{T:PUnit->α->β->SM γ}{c:Prop}{d:Decidable c}{B:SM γ}{x:α}{y:β}{Q:γ->SortSt->Prop}{st:SortSt}(C:α->β->Prop)(h:∀r u v,C u v->wpS M A E s (T r u v) Q st)(hB:c->(∀r u v,C u v->wpS M A E s (T r u v) Q st)->wpS M A E s B Q st)(hx:¬ c->C x y):wpS M A E s (@ite _ c d B (T ⟨⟩ x y)) Q st:=by
 split;.exact hB ‹_› h
 .exact h _ _ _ (hx ‹_›)
noncomputable abbrev MQ{γ:Type}(K:Keyed->Int)(a b:Array Keyed)(st:SortSt)(c:Option (Array Keyed)×γ)(st':SortSt):Prop:=pZ st st'/\∃out,c.1=some out/\Fin K a b out
noncomputable abbrev MI1(K:Keyed->Int)(a b:Array Keyed)(st:SortSt)(x:Nat)(c:Option (Array Keyed)×Array Keyed×Nat×Nat×Nat)(st':SortSt):Prop:=pZ st st'/\∃out ia ib mg,c=(none,out,ia,ib,mg)/\MI K a b out ia ib/\x+1<=ia+ib
noncomputable abbrev MI2(K:Keyed->Int)(a b:Array Keyed)(st:SortSt)(n y:Nat)(c:Option (Array Keyed)×Array Keyed×Nat×Nat×Nat×Nat)(st':SortSt):Prop:=pZ st st'/\∃out jq gC ac bc,c=(none,out,jq,gC,ac,bc)/\MI K a b out jq gC/\n+y<=jq+gC
noncomputable abbrev MI3(K:Keyed->Int)(a b:Array Keyed)(st:SortSt)(n:Nat)(c:Option (Array Keyed)×Array Keyed×Nat×Nat×Nat×Nat×Nat)(st':SortSt):Prop:=pZ st st'/\∃out jq gC mg ac bc,c=(none,out,jq,gC,mg,ac,bc)/\MI K a b out jq gC/\n+1<=jq+gC
noncomputable abbrev MQ2(K:Keyed->Int)(a b:Array Keyed)(st:SortSt)(n:Nat)(c:Option (Array Keyed)×Array Keyed×Nat×Nat×Nat×Nat)(st':SortSt):Prop:=pZ st st'/\((∃out,c.1=some out/\Fin K a b out)\/∃out jq gC ac bc,c=(none,out,jq,gC,ac,bc)/\MI K a b out jq gC/\n+1<=jq+gC)
noncomputable abbrev MQ3(K:Keyed->Int)(a b:Array Keyed)(st:SortSt)(n:Nat)(c:Option (Array Keyed)×Array Keyed×Nat×Nat×Nat×Nat×Nat)(st':SortSt):Prop:=pZ st st'/\((∃out,c.1=some out/\Fin K a b out)\/∃out jq gC mg ac bc,c=(none,out,jq,gC,mg,ac,bc)/\MI K a b out jq gC/\n+1<=jq+gC)
set_option maxHeartbeats 1000000 in
theorem M3(R:Rk M A E s κ ok K){a b:Array Keyed}{Q:Array Keyed->SortSt->Prop}{st:SortSt}(ha:∀x∈a.toList,ok x)(hb:∀x∈b.toList,ok x)(hs:kindOf st=κ)(ua:tV K a)(ub:tV K b)(a1:1<=a.size)(b1:1<=b.size)(h0:K (it b 0)<=K (it a 0))(hl:∀i,i<b.size->K (it b i)<=K (it a (a.size-1)))(q:∀out st',Fin K a b out->pZ st st'->Q out st'):wpS M A E s (mlo a b) Q st:=by
 show wpS M A E s (liftM (rule "list.sort.merge-lo")>>=_) Q st;refine wpS_bind (wp_rule ?_);extract_lets+onlyGivenNames-merge-underBinder x0 x1 x2;refine wpS_bind (aV (by omega) ?_);extract_lets+onlyGivenNames-merge-underBinder x3 x4 x5;dsimp-zeta-zetaHave only[x0,x1,x2,x3,x4,x5];have w0:MW K (a.toList++b.toList) (#[]:Array Keyed).toList (a.toList.drop 0) (b.toList.drop 0):=⟨by simp,by simpa using oW ua,by simpa using oW ub⟩;have w1:=w0.qT (by omega) ua (fun _=>h0);rw[show(#[]:Array Keyed).push (it b 0)=#[it b 0]from rfl]at w1;by_cases c1:1=b.size;.rw[if_pos (by simpa using c1)];exact wpS_pure (q _ _ (jl c1 w1) (.refl _))
 rw[if_neg (by simpa using c1)];by_cases c2:0+1=a.size;.rw[if_pos (by simpa using c2)];exact wpS_pure (q _ _ (lr c2 hl w1) (.refl _))
 rw[if_neg (by simpa using c2)];refine wpS_bind (wpS_get ?_);extract_lets+onlyGivenNames-merge-underBinder x6;refine wpS_bind (wpS_mono (wpS_forRange (I:=MI1 K a b st) (Q:=MQ K a b st) ?_ ?_ ⟨.refl _,_,0,1,_,rfl,⟨by omega,by omega,w1⟩,by omega⟩) ?_)
 . rintro x c st1 _ hx⟨s1,out,ia,ib,mg,rfl,mi,hp⟩;extract_lets+onlyGivenNames-merge-underBinder y0 y1 y2 y3 y4 y5 y6 y7 y8;dsimp-zeta-zetaHave only[x0,x1,x2,x3,x4,x5,y0,y1,y2,y3,y4,y5,y6,y7,y8];refine wpS_bind (wpS_mono (wpS_forRange (I:=MI2 K a b st (ia+ib)) (Q:=MQ2 K a b st (ia+ib)) ?_ ?_ ⟨s1,out,ia,ib,0,0,rfl,mi,by omega⟩) ?_)
   . rintro y c st2 _ hy⟨s2,out,jq,gC,ac,bc,rfl,mi,hp'⟩;have i1:=mi.i1;have i2:=mi.i2;try dsimp only
     refine wpS_bind (aV i2 (wpS_bind (aV (by omega) (wpS_bind (R.lt (hb _ (cP i2)) (ha _ (cP (by omega))) (s2.kind.trans hs) ?_)))));by_cases c:K (it b gC)<K (it a jq)
     . rw[decide_eq_true c];try dsimp only
       rw[if_pos rfl];refine wpS_bind (aV i2 ?_);try dsimp only
       have w:=mi.w.qT i2 ua (fun _=>by omega);by_cases e:gC+1=b.size;.rw[if_pos (by simpa using e)];exact wpS_pure ⟨s2,.inl ⟨_,rfl,jl e w⟩⟩
       . rw[if_neg (by simpa using e)];have vP:MI K a b (out.push (it b gC)) jq (gC+1):=⟨i1,by omega,w⟩;split;.exact wpS_pure ⟨s2,.inr ⟨_,_,_,_,_,rfl,vP,by omega⟩⟩
         .exact wpS_pure ⟨s2,_,_,_,_,_,rfl,vP,by omega⟩
     . rw[decide_eq_false c];try dsimp only
       rw[if_neg (by simp)];refine wpS_bind (aV (by omega) ?_);try dsimp only
       have w:=mi.w.qM (by omega) ub (fun _=>by omega);by_cases e:jq+1+1=a.size;.rw[if_pos (by simpa using e)];exact wpS_pure ⟨s2,.inl ⟨_,rfl,lr e hl w⟩⟩
       . rw[if_neg (by simpa using e)];have vP:MI K a b (out.push (it a jq)) (jq+1) gC:=⟨by omega,i2,w⟩;split;.exact wpS_pure ⟨s2,.inr ⟨_,_,_,_,_,rfl,vP,by omega⟩⟩
         .exact wpS_pure ⟨s2,_,_,_,_,_,rfl,vP,by omega⟩
   .rintro c st2⟨s2,out,jq,gC,ac,bc,rfl,mi,hp'⟩;exact⟨s2,.inr ⟨_,_,_,_,_,rfl,mi,by omega⟩⟩
   . rintro c st2⟨s2,⟨out,hc,hf⟩|⟨out,jq,gC,ac,bc,rfl,mi,hp'⟩⟩;.obtain⟨c1,c2,c3,c4,c5,c6⟩:=c;cases hc;exact wpS_pure ⟨s2,out,rfl,hf⟩
     . extract_lets+onlyGivenNames-merge-underBinder z0 z1 z2 z3 z4 z5 z6 z7 z8 z9;dsimp-zeta-zetaHave only[z0,z1,z2,z3,z4,z5,z6,z7,z8,z9];refine wpS_bind (wp_rule ?_);extract_lets+onlyGivenNames-merge-underBinder za;refine wpS_bind (wpS_mono (wpS_forRange (I:=fun _=>MI3 K a b st (ia+ib)) (Q:=MQ3 K a b st (ia+ib)) ?_ ?_ ⟨s2,out,jq,gC,_,ac,bc,rfl,mi,by omega⟩) ?_)
       . rintro y c st3 _ hy⟨s3,out,jq,gC,mg,ac,bc,rfl,mi,hp'⟩;have i1:=mi.i1;have i2:=mi.i2;extract_lets+onlyGivenNames-merge-underBinder t0 t1 t2 t3 t4 t5 t6 t7 t8 t9 ta jp;dsimp only[t0,t1,t2,t3,t4,t5,t6,t7,t8,t9,ta];refine De (T:=jp) ?_;intro _ mg;dsimp-zeta-zetaHave only[jp,t0,t1,t2,t3,t4,t5,t6,t7,t8,t9,ta];refine wpS_bind (m9 fun Ga Qo=>?_);have s4:=s3.trans Qo;refine wpS_bind (aV i2 ?_);refine wpS_bind (mj R (hb _ (cP i2)) ha (by omega) (by omega) (s4.kind.trans hs) (sY ua (by omega)) fun k k1 k2 k3=>?_);have k2':∀j,j<k->K (it a (jq+j))<=K (it b gC):=fun j hj=>by have:=k2 j hj;simp[bb]at this;omega
         have KC:∀j,k<=j->j<a.size-jq->K (it b gC)<=K (it a (jq+j)):=fun j h1 h2=>by have:=k3 j h1 h2;simp[bb]at this;omega
         try dsimp-zeta-zetaHave only
         extract_lets+onlyGivenNames-merge-underBinder u0 jp2;dsimp only[u0];refine nj (T:=jp2) (x:=out) (y:=jq) (fun xH Ay=>(jq<=Ay/\Ay+1<a.size)/\MW K (a.toList++b.toList) xH.toList (a.toList.drop Ay) (b.toList.drop gC)/\K (it b gC)<=K (it a Ay)) ?_ (fun c key=>?_) (fun c=>⟨⟨Nat.le_refl _,i1⟩,mi.w,KC 0 (by omega) (by omega)⟩)
         . rintro _ xH Ay⟨⟨j0,j1⟩,w,k4⟩;dsimp-zeta-zetaHave only[jp2,u0];refine wpS_bind (aV i2 ?_);have w2:=w.qT i2 ua fun _=>k4;extract_lets+onlyGivenNames-merge-underBinder v0 v1;dsimp-zeta-zetaHave only[v0,v1];by_cases e3:gC+1=b.size;.rw[if_pos (by simpa using e3)];exact wpS_pure ⟨s4,.inl ⟨_,rfl,jl e3 w2⟩⟩
           rw[if_neg (by simpa using e3)];have j3:gC+1<b.size:=by omega
           refine wpS_bind (aV (by omega) ?_);refine wpS_bind (mj R (ha _ (cP (by omega))) hb (by omega) (by omega) (s4.kind.trans hs) (sY ub (by omega)) fun m m1 m2 m3=>?_);have m2':∀j,j<m->K (it b (gC+1+j))<=K (it a Ay):=fun j hj=>by have:=m2 j hj;simp[bb]at this;omega
           have m3':∀j,m<=j->j<b.size-(gC+1)->K (it a Ay)<=K (it b (gC+1+j)):=fun j h1 h2=>by have:=m3 j h1 h2;simp[bb]at this;omega
           try dsimp-zeta-zetaHave only
           extract_lets+onlyGivenNames-merge-underBinder v2 Wh;dsimp only[v2];refine nj (T:=Wh) (x:=xH.push (it b gC)) (y:=gC+1) (fun xJ R4=>(gC+1<=R4/\R4<b.size)/\MW K (a.toList++b.toList) xJ.toList (a.toList.drop Ay) (b.toList.drop R4)/\K (it a Ay)<=K (it b R4)) ?_ (fun c key=>?_) (fun c=>⟨⟨Nat.le_refl _,j3⟩,w2,m3' 0 (by omega) (by omega)⟩)
           . rintro _ xJ R4⟨⟨j4,j2⟩,w3,m4⟩;dsimp only[Wh,v2];refine wpS_bind (aV (by omega) ?_);have w4:=w3.qM (by omega) ub fun _=>m4;try dsimp only
             by_cases e5:Ay+1+1=a.size;.rw[if_pos (by simpa using e5)];exact wpS_pure ⟨s4,.inl ⟨_,rfl,lr e5 hl w4⟩⟩
             rw[if_neg (by simpa using e5)];have vP:MI K a b (xJ.push (it a Ay)) (Ay+1) R4:=⟨by omega,j2,w4⟩;split;.exact wpS_pure ⟨s4,.inr ⟨_,_,_,_,_,_,rfl,vP,by omega⟩⟩
             .exact wpS_pure ⟨s4,_,_,_,_,_,_,rfl,vP,by omega⟩
           . have w3:=w2.El (k:=m) (by omega) ua fun j hj _=>m2' j hj;by_cases e4:gC+1+m=b.size;.rw[if_pos (by simpa using e4)];exact wpS_pure ⟨s4,.inl ⟨_,rfl,jl e4 w3⟩⟩
             rw[if_neg (by simpa using e4)];exact key ⟨⟩ _ _ ⟨⟨by omega,by omega⟩,w3,m3' m (Nat.le_refl _) (by omega)⟩
         . have w:=mi.w.DP (k:=k) (by omega) ub fun j hj _=>k2' j hj;by_cases e1:jq+k+1=a.size;.rw[if_pos (by simpa using e1)];exact wpS_pure ⟨s4,.inl ⟨_,rfl,lr e1 hl w⟩⟩
           rw[if_neg (by simpa using e1)];by_cases e2:jq+k=a.size;.rw[if_pos (by simpa using e2)];exact wpS_pure ⟨s4,.inl ⟨_,rfl,zP e2 w⟩⟩
           rw[if_neg (by simpa using e2)];exact key ⟨⟩ _ _ ⟨⟨by omega,by omega⟩,w,KC k (Nat.le_refl _) (by omega)⟩
       .rintro c st3⟨s3,out,jq,gC,mg,ac,bc,rfl,mi,hp'⟩;exact⟨s3,.inr ⟨_,_,_,_,_,_,rfl,mi,hp'⟩⟩
       . rintro c st3⟨s3,⟨out,hc,hf⟩|⟨out,jq,gC,mg,ac,bc,rfl,mi,hp'⟩⟩;.obtain⟨c1,c2,c3,c4,c5,c6,c7⟩:=c;cases hc;exact wpS_pure ⟨s3,out,rfl,hf⟩
         . try dsimp only
           exact wpS_bind (m9 fun Ga Qo=>wpS_pure ⟨s3.trans Qo,_,_,_,_,rfl,mi,by omega⟩)
 .rintro c st1⟨s1,out,ia,ib,mg,rfl,mi,hp⟩;have:=mi.i1;have:=mi.i2;omega
 .rintro c st1⟨s1,out,hc,hf⟩;obtain⟨c1,c2,c3,c4,c5⟩:=c;cases hc;exact wpS_pure (q _ _ hf s1)
end
end HH
end
section
namespace HH
open PySem PyProof.Rows
section
variable{K:Keyed->Int}{T A B S P:List Keyed}{z:Keyed}
structure MH(K:Keyed->Int)(T A B S:List Keyed):Prop where
 perm:(A++(B++S)).Perm T
 sa:SL K (A++S)sb:SL K (B++S)
theorem MH.U3(w:MH K T (A++P) B S)(h:∀x∈P,∀y∈B,K y<=K x):MH K T A B (P++S):=by
 have h1:=cu.mp w.sb;have h2:=cu.mp (show SL K (A++(P++S))by simpa using w.sa);refine⟨?_,by simpa using w.sa,cu.mpr ⟨h1.1,h2.2.1,fun x hx y hy=>?_⟩⟩;.refine List.Perm.trans ?_ w.perm;rw[List.append_assoc];refine List.Perm.append_left A ?_;rw[<-List.append_assoc,<-List.append_assoc];exact List.perm_append_comm.append_right S
 . rcases List.mem_append.mp hy with hy|hy;.exact h y hy x hx
   .exact h1.2.2 x hx y hy
theorem MH.Um(w:MH K T A (B++P) S)(h:∀x∈P,∀y∈A,K y<=K x):MH K T A B (P++S):=by
 have h1:=cu.mp w.sa;have h2:=cu.mp (show SL K (B++(P++S))by simpa using w.sb);refine⟨by simpa using w.perm,cu.mpr ⟨h1.1,h2.2.1,fun x hx y hy=>?_⟩,by simpa using w.sb⟩;rcases List.mem_append.mp hy with hy|hy;.exact h y hy x hx
 .exact h1.2.2 x hx y hy
theorem MH.first(w:MH K T A [z] S)(h:∀x∈A,K z<=K x):([z]++A++S).Perm T/\SL K ([z]++A++S):=by
 refine⟨?_,?_⟩;.refine List.Perm.trans ?_ w.perm;rw[<-List.append_assoc];exact List.perm_append_comm.append_right S
 . rw[List.append_assoc];refine cu.mpr ⟨List.pairwise_singleton _ _,w.sa,fun x hx y hy=>?_⟩;rw[List.mem_singleton.mp hx];rcases List.mem_append.mp hy with hy|hy;.exact h y hy
   .exact(cu.mp w.sb).2.2 z (by simp) y hy
theorem gh{a:Array Keyed}{n:Nat}(h:n<=a.size):(a.extract 0 n).toList=a.toList.take n:=by rw[iz h];simp
theorem gP{a:Array Keyed}{i n:Nat}(hi:i<=n)(h:n<=a.size):a.toList.take n=a.toList.take i++(a.extract i n).toList:=by
 rw[iz h];have e:n=i+(n-i):=by omega
 conv=>lhs;rw[e,List.take_add]
theorem rJ{a:Array Keyed}{n:Nat}(h0:1<=n)(h:n<=a.size):a.toList.take n=a.toList.take (n-1)++[it a (n-1)]:=by
 have e:it a (n-1)=a.toList[n-1]'(by simp;omega):=by unfold it;simp[Array.getD,show n-1<a.size by omega]
 have e2:n=(n-1)+1:=by omega
 conv=>lhs;rw[e2]
 rw[List.take_succ_eq_append_getElem (by simp;omega),e]
theorem iK{a:Array Keyed}{n:Nat}{x:Keyed}(h:n<=a.size)(hx:x∈a.toList.take n):∃j,j<n/\x=it a j:=by obtain⟨j,hj,e⟩:=List.mem_iff_getElem.mp hx;simp only[List.length_take,Array.length_toList]at hj;refine⟨j,by omega,?_⟩;rw[<-e];unfold it;simp[Array.getD,show j<a.size by omega]
theorem pL{a:Array Keyed}{i n:Nat}{x:Keyed}(hi:i<=n)(h:n<=a.size)(hx:x∈(a.extract i n).toList):∃j,i<=j/\j<n/\x=it a j:=by obtain⟨j,hj,e⟩:=ext_mem (a:=a) (i:=i) (k:=n-i) (by omega) (by rw[show i+(n-i)=n by omega];exact hx);exact⟨i+j,by omega,by omega,e⟩
end
section
variable{M:Model}{A:Around}{E:Value->Shared->Prop}{s:Shared}{κ:SortKind}{ok:Keyed->Prop}{K:Keyed->Int}
noncomputable def mhi:Array Keyed->Array Keyed->SM (Array Keyed):=sortPriv%PySem.Builtin.mergeHi
noncomputable abbrev MV(K:Keyed->Int)(a b out:Array Keyed)(na nb:Nat):Prop:=MH K (a.toList++b.toList) (a.toList.take na) (b.toList.take nb) out.toList.reverse
structure MJ(K:Keyed->Int)(a b out:Array Keyed)(na nb:Nat):Prop where
 i1:1<=na
 i2:2<=nb
 i3:na<=a.size
 i4:nb<=b.size
 w:MV K a b out na nb
theorem iR{out:Array Keyed}:out.reverse.toList=out.toList.reverse:=Array.toList_reverse
theorem rK{a b out:Array Keyed}{na nb:Nat}(h:na=0)(hb:nb<=b.size)(w:MV K a b out na nb):Fin K a b (a.extract 0 na++b.extract 0 nb++out.reverse):=by
 subst h;have e:(a.extract 0 0++b.extract 0 nb++out.reverse).toList=b.toList.take nb++out.toList.reverse:=by rw[Array.toList_append,Array.toList_append,gh (Nat.zero_le _),gh hb,iR];simp
 exact⟨by rw[e];simpa using w.perm,by rw[e];exact w.sb⟩
theorem K8{a b out:Array Keyed}{na nb:Nat}(h:nb=0)(ha:na<=a.size)(w:MV K a b out na nb):Fin K a b (a.extract 0 na++b.extract 0 nb++out.reverse):=by
 subst h;have e:(a.extract 0 na++b.extract 0 0++out.reverse).toList=a.toList.take na++out.toList.reverse:=by rw[Array.toList_append,Array.toList_append,gh (Nat.zero_le _),gh ha,iR];simp
 exact⟨by rw[e];simpa using w.perm,by rw[e];exact w.sa⟩
theorem jm{a b out:Array Keyed}{na nb:Nat}(h:nb=1)(ha:na<=a.size)(hb:nb<=b.size)(ua:tV K a)(h0:K (it b 0)<=K (it a 0))(w:MV K a b out na nb):Fin K a b (b.extract 0 nb++a.extract 0 na++out.reverse):=by
 subst h;have e1:b.toList.take 1=[it b 0]:=by rw[rJ (Nat.le_refl 1) hb];simp
 have e:(b.extract 0 1++a.extract 0 na++out.reverse).toList=[it b 0]++a.toList.take na++out.toList.reverse:=by rw[Array.toList_append,Array.toList_append,gh hb,gh ha,iR,e1]
 have w':=w;unfold MV at w';rw[e1]at w';obtain⟨h1,h2⟩:=w'.first fun x hx=>by obtain⟨j,hj,rfl⟩:=iK ha hx;exact Int.le_trans h0 (ua 0 j (by omega) (by omega))
 exact⟨by rw[e];exact h1,by rw[e];exact h2⟩
theorem MH.qM{a b out:Array Keyed}{na nb:Nat}(h:1<=na)(ha:na<=a.size)(hb:nb<=b.size)(w:MV K a b out na nb)(ub:tV K b)(hk:1<=nb->K (it b (nb-1))<=K (it a (na-1))):MV K a b (out.push (it a (na-1))) (na-1) nb:=by unfold MV at*;rw[rJ h ha]at w;rw[Array.toList_push,List.reverse_append];refine MH.U3 (P:=[it a (na-1)]) w fun x hx y hy=>?_;rw[List.mem_singleton.mp hx];obtain⟨j,hj,rfl⟩:=iK hb hy;exact Int.le_trans (ub j (nb-1) (by omega) (by omega)) (hk (by omega))
theorem MH.qT{a b out:Array Keyed}{na nb:Nat}(h:1<=nb)(ha:na<=a.size)(hb:nb<=b.size)(w:MV K a b out na nb)(ua:tV K a)(hk:1<=na->K (it a (na-1))<=K (it b (nb-1))):MV K a b (out.push (it b (nb-1))) na (nb-1):=by unfold MV at*;rw[rJ h hb]at w;rw[Array.toList_push,List.reverse_append];refine MH.Um (P:=[it b (nb-1)]) w fun x hx y hy=>?_;rw[List.mem_singleton.mp hx];obtain⟨j,hj,rfl⟩:=iK ha hy;exact Int.le_trans (ua j (na-1) (by omega) (by omega)) (hk (by omega))
theorem MH.DP{a b out:Array Keyed}{na nb i:Nat}(h:i<=na)(ha:na<=a.size)(hb:nb<=b.size)(w:MV K a b out na nb)(ub:tV K b)(hk:∀j,i<=j->j<na->1<=nb->K (it b (nb-1))<=K (it a j)):MV K a b (out++(a.extract i na).reverse) i nb:=by unfold MV at*;rw[gP h ha]at w;rw[Array.toList_append,List.reverse_append,iR,List.reverse_reverse];refine MH.U3 w fun x hx y hy=>?_;obtain⟨j,j1,j2,rfl⟩:=pL h ha hx;obtain⟨l,hl,rfl⟩:=iK hb hy;exact Int.le_trans (ub l (nb-1) (by omega) (by omega)) (hk j j1 j2 (by omega))
theorem MH.El{a b out:Array Keyed}{na nb i:Nat}(h:i<=nb)(ha:na<=a.size)(hb:nb<=b.size)(w:MV K a b out na nb)(ua:tV K a)(hk:∀j,i<=j->j<nb->1<=na->K (it a (na-1))<=K (it b j)):MV K a b (out++(b.extract i nb).reverse) na i:=by unfold MV at*;rw[gP h hb]at w;rw[Array.toList_append,List.reverse_append,iR,List.reverse_reverse];refine MH.Um w fun x hx y hy=>?_;obtain⟨j,j1,j2,rfl⟩:=pL h hb hx;obtain⟨l,hl,rfl⟩:=iK ha hy;exact Int.le_trans (ua l (na-1) (by omega) (by omega)) (hk j j1 j2 (by omega))
set_option maxHeartbeats 1000000 in
theorem OJ(R:Rk M A E s κ ok K){a b:Array Keyed}{Q:Array Keyed->SortSt->Prop}{st:SortSt}(ha:∀x∈a.toList,ok x)(hb:∀x∈b.toList,ok x)(hs:kindOf st=κ)(ua:tV K a)(ub:tV K b)(a1:1<=a.size)(b1:1<=b.size)(h0:K (it b 0)<=K (it a 0))(hl:∀i,i<b.size->K (it b i)<=K (it a (a.size-1)))(q:∀out st',Fin K a b out->pZ st st'->Q out st'):wpS M A E s (mhi a b) Q st:=by
 show wpS M A E s (liftM (rule "list.sort.merge-hi")>>=_) Q st;refine wpS_bind (wp_rule ?_);extract_lets+onlyGivenNames-merge-underBinder x0 x1 x2 x3 x4;refine wpS_bind (aV (by omega) ?_);extract_lets+onlyGivenNames-merge-underBinder x5;dsimp-zeta-zetaHave only[x0,x1,x2,x3,x4,x5];have ta:∀c:Array Keyed,c.toList.take c.size=c.toList:=fun c=>List.take_of_length_le (by simp);have w0:MV K a b #[] a.size b.size:=by unfold MV;rw[ta,ta];exact⟨by simp,by simpa using oW ua,by simpa using oW ub⟩
 have w1:=MH.qM a1 (Nat.le_refl _) (Nat.le_refl _) w0 ub (fun _=>hl _ (by omega));rw[show(#[]:Array Keyed).push (it a (a.size-1))=#[it a (a.size-1)]from rfl]at w1;by_cases c1:a.size-1=0;.rw[if_pos (by simpa using c1)];exact wpS_pure (q _ _ (rK c1 (Nat.le_refl _) w1) (.refl _))
 rw[if_neg (by simpa using c1)];by_cases c2:b.size=1;.rw[if_pos (by simpa using c2)];exact wpS_pure (q _ _ (jm c2 (by omega) (Nat.le_refl _) ua h0 w1) (.refl _))
 rw[if_neg (by simpa using c2)];refine wpS_bind (wpS_get ?_);extract_lets+onlyGivenNames-merge-underBinder x6;refine wpS_bind (wpS_mono (wpS_forRange (I:=fun x c st'=>pZ st st'/\∃na nb out mg,c=(none,na,nb,out,mg)/\MJ K a b out na nb/\x+1+na+nb<=a.size+b.size) (Q:=fun c st'=>pZ st st'/\∃out,c.1=some out/\Fin K a b out) ?_ ?_ ⟨.refl _,_,_,_,_,rfl,⟨by omega,by omega,by omega,Nat.le_refl _,w1⟩,by omega⟩) ?_)
 . rintro x c st1 _ hx⟨s1,na,nb,out,mg,rfl,mi,hp⟩;extract_lets+onlyGivenNames-merge-underBinder y0 y1 y2 y3 y4 y5 y6 y7 y8;dsimp-zeta-zetaHave only[x0,x1,x2,x3,x4,x5,y0,y1,y2,y3,y4,y5,y6,y7,y8];refine wpS_bind (wpS_mono (wpS_forRange (I:=fun y c st'=>pZ st st'/\∃jO ik out ac bc,c=(none,jO,ik,out,ac,bc)/\MJ K a b out jO ik/\jO+ik+y<=na+nb) (Q:=fun c st'=>pZ st st'/\((∃out,c.1=some out/\Fin K a b out)\/∃jO ik out ac bc,c=(none,jO,ik,out,ac,bc)/\MJ K a b out jO ik/\jO+ik+1<=na+nb)) ?_ ?_ ⟨s1,na,nb,out,0,0,rfl,mi,by omega⟩) ?_)
   . rintro y c st2 _ hy⟨s2,jO,ik,out,ac,bc,rfl,mi,hp'⟩;obtain⟨i1,i2,i3,i4,w⟩:=mi;try dsimp only
     refine wpS_bind (aV (by omega) (wpS_bind (aV (by omega) (wpS_bind (R.lt (hb _ (cP (by omega))) (ha _ (cP (by omega))) (s2.kind.trans hs) ?_)))));by_cases c:K (it b (ik-1))<K (it a (jO-1))
     . rw[decide_eq_true c];try dsimp only
       rw[if_pos rfl];refine wpS_bind (aV (by omega) ?_);try dsimp only
       have w':=MH.qM i1 i3 i4 w ub (fun _=>by omega);by_cases e:jO-1=0;.rw[if_pos (by simpa using e)];exact wpS_pure ⟨s2,.inl ⟨_,rfl,rK e i4 w'⟩⟩
       . rw[if_neg (by simpa using e)];have vP:MJ K a b (out.push (it a (jO-1))) (jO-1) ik:=⟨by omega,i2,by omega,i4,w'⟩;split;.exact wpS_pure ⟨s2,.inr ⟨_,_,_,_,_,rfl,vP,by omega⟩⟩
         .exact wpS_pure ⟨s2,_,_,_,_,_,rfl,vP,by omega⟩
     . rw[decide_eq_false c];try dsimp only
       rw[if_neg (by simp)];refine wpS_bind (aV (by omega) ?_);try dsimp only
       have w':=MH.qT (by omega) i3 i4 w ua (fun _=>by omega);by_cases e:ik-1=1;.rw[if_pos (by simpa using e)];exact wpS_pure ⟨s2,.inl ⟨_,rfl,jm e i3 (by omega) ua h0 w'⟩⟩
       . rw[if_neg (by simpa using e)];have vP:MJ K a b (out.push (it b (ik-1))) jO (ik-1):=⟨i1,by omega,i3,by omega,w'⟩;split;.exact wpS_pure ⟨s2,.inr ⟨_,_,_,_,_,rfl,vP,by omega⟩⟩
         .exact wpS_pure ⟨s2,_,_,_,_,_,rfl,vP,by omega⟩
   .rintro c st2⟨s2,jO,ik,out,ac,bc,rfl,mi,hp'⟩;exact⟨s2,.inr ⟨_,_,_,_,_,rfl,mi,by omega⟩⟩
   . rintro c st2⟨s2,⟨out,hc,hf⟩|⟨jO,ik,out,ac,bc,rfl,mi,hp'⟩⟩;.obtain⟨c1,c2,c3,c4,c5,c6⟩:=c;cases hc;exact wpS_pure ⟨s2,out,rfl,hf⟩
     . extract_lets+onlyGivenNames-merge-underBinder z0 z1 z2 z3 z4 z5 z6 z7 z8 z9;dsimp-zeta-zetaHave only[z0,z1,z2,z3,z4,z5,z6,z7,z8,z9];refine wpS_bind (wp_rule ?_);extract_lets+onlyGivenNames-merge-underBinder za;refine wpS_bind (wpS_mono (wpS_forRange (I:=fun y c st'=>pZ st st'/\∃jO ik out mg ac bc,c=(none,jO,ik,out,mg,ac,bc)/\MJ K a b out jO ik/\jO+ik+1<=na+nb) (Q:=fun c st'=>pZ st st'/\((∃out,c.1=some out/\Fin K a b out)\/∃jO ik out mg ac bc,c=(none,jO,ik,out,mg,ac,bc)/\MJ K a b out jO ik/\jO+ik+1<=na+nb)) ?_ ?_ ⟨s2,jO,ik,out,_,ac,bc,rfl,mi,by omega⟩) ?_)
       . rintro y c st3 _ hy⟨s3,jO,ik,out,mg,ac,bc,rfl,mi,hp'⟩;obtain⟨i1,i2,i3,i4,w⟩:=mi;extract_lets+onlyGivenNames-merge-underBinder t0 t1 t2 t3 t4 t5 t6 t7 t8 t9 ta jp;dsimp only[t0,t1,t2,t3,t4,t5,t6,t7,t8,t9,ta];refine De (T:=jp) ?_;intro _ mg;dsimp-zeta-zetaHave only[jp,t0,t1,t2,t3,t4,t5,t6,t7,t8,t9,ta];refine wpS_bind (m9 fun Ga Qo=>?_);have s4:=s3.trans Qo;refine wpS_bind (aV (by omega) ?_);refine wpS_bind (mj R (hb _ (cP (by omega))) ha (by omega) (by omega) (s4.kind.trans hs) (sY ua (by omega)) fun k k1 k2 k3=>?_);have k2':∀j,j<k->K (it a j)<=K (it b (ik-1)):=fun j hj=>by have:=k2 j hj;simp[bb]at this;omega
         have KC:∀j,k<=j->j<jO->K (it b (ik-1))<=K (it a j):=fun j h1 h2=>by have:=k3 j h1 h2;simp[bb]at this;omega
         try dsimp-zeta-zetaHave only
         extract_lets+onlyGivenNames-merge-underBinder u0 u1 jp2;dsimp only[u0,u1];refine nj (T:=jp2) (x:=jO) (y:=out) (fun n1 xH=>(1<=n1/\n1<=jO)/\MV K a b xH n1 ik/\K (it a (n1-1))<=K (it b (ik-1))) ?_ (fun c key=>?_) (fun c=>⟨⟨i1,Nat.le_refl _⟩,w,k2' _ (by omega)⟩)
         . rintro _ n1 xH⟨⟨j1,j0⟩,w1,k4⟩;dsimp-zeta-zetaHave only[jp2,u0,u1];extract_lets+onlyGivenNames-merge-underBinder v0;refine wpS_bind (aV (by dsimp only[v0];omega) ?_);have w2:=MH.qT (by omega) (by omega) i4 w1 ua (fun _=>k4);extract_lets+onlyGivenNames-merge-underBinder v1;dsimp-zeta-zetaHave only[v0,v1];by_cases e3:ik-1=1;.rw[if_pos (by simpa using e3)];exact wpS_pure ⟨s4,.inl ⟨_,rfl,jm e3 (by omega) (by omega) ua h0 w2⟩⟩
           rw[if_neg (by simpa using e3)];refine wpS_bind (aV (by omega) ?_);refine wpS_bind (mj R (ha _ (cP (by omega))) hb (by omega) (by omega) (s4.kind.trans hs) (sY ub (by omega)) fun m m1 m2 m3=>?_);have m2':∀j,j<m->K (it b j)<=K (it a (n1-1)):=fun j hj=>by have:=m2 j hj;simp[bb]at this;omega
           have m3':∀j,m<=j->j<ik-1->K (it a (n1-1))<=K (it b j):=fun j h1 h2=>by have:=m3 j h1 h2;simp[bb]at this;omega
           try dsimp-zeta-zetaHave only
           extract_lets+onlyGivenNames-merge-underBinder v2 v3 Wh;dsimp only[v2,v3];refine nj (T:=Wh) (x:=ik-1) (y:=xH.push (it b (ik-1))) (fun n2 xJ=>(2<=n2/\n2<=ik-1)/\MV K a b xJ n1 n2/\K (it b (n2-1))<=K (it a (n1-1))) ?_ (fun c key=>?_) (fun c=>⟨⟨by omega,Nat.le_refl _⟩,w2,m2' _ (by omega)⟩)
           . rintro _ n2 xJ⟨⟨j2,j3⟩,w3,m4⟩;dsimp only[Wh,v2,v3];refine wpS_bind (aV (by omega) ?_);have w4:=MH.qM j1 (by omega) (by omega) w3 ub (fun _=>m4);try dsimp only
             by_cases e6:n1-1=0;.rw[if_pos (by simpa using e6)];exact wpS_pure ⟨s4,.inl ⟨_,rfl,rK e6 (by omega) w4⟩⟩
             rw[if_neg (by simpa using e6)];have vP:MJ K a b (xJ.push (it a (n1-1))) (n1-1) n2:=⟨by omega,j2,by omega,by omega,w4⟩;split;.exact wpS_pure ⟨s4,.inr ⟨_,_,_,_,_,_,rfl,vP,by omega⟩⟩
             .exact wpS_pure ⟨s4,_,_,_,_,_,_,rfl,vP,by omega⟩
           . have w3:=MH.El m1 (by omega) (by omega) w2 ua fun j h1 h2 _=>m3' j h1 h2;by_cases e4:m=1;.rw[if_pos (by simpa using e4)];exact wpS_pure ⟨s4,.inl ⟨_,rfl,jm e4 (by omega) (by omega) ua h0 w3⟩⟩
             rw[if_neg (by simpa using e4)];by_cases e5:m=0;.rw[if_pos (by simpa using e5)];exact wpS_pure ⟨s4,.inl ⟨_,rfl,K8 e5 (by omega) w3⟩⟩
             rw[if_neg (by simpa using e5)];exact key ⟨⟩ _ _ ⟨⟨by omega,m1⟩,w3,m2' _ (by omega)⟩
         . have w1:=MH.DP k1 i3 i4 w ub fun j h1 h2 _=>KC j h1 h2;by_cases e1:k=0;.rw[if_pos (by simpa using e1)];exact wpS_pure ⟨s4,.inl ⟨_,rfl,rK e1 i4 w1⟩⟩
           rw[if_neg (by simpa using e1)];exact key ⟨⟩ _ _ ⟨⟨by omega,k1⟩,w1,k2' _ (by omega)⟩
       .rintro c st3⟨s3,jO,ik,out,mg,ac,bc,rfl,mi,hp'⟩;exact⟨s3,.inr ⟨_,_,_,_,_,_,rfl,mi,hp'⟩⟩
       . rintro c st3⟨s3,⟨out,hc,hf⟩|⟨jO,ik,out,mg,ac,bc,rfl,mi,hp'⟩⟩;.obtain⟨c1,c2,c3,c4,c5,c6,c7⟩:=c;cases hc;exact wpS_pure ⟨s3,out,rfl,hf⟩
         . try dsimp only
           exact wpS_bind (m9 fun Ga Qo=>wpS_pure ⟨s3.trans Qo,_,_,_,_,rfl,mi,by omega⟩)
 .rintro c st1⟨s1,na,nb,out,mg,rfl,mi,hp⟩;have:=mi.i1;have:=mi.i2;omega
 .rintro c st1⟨s1,out,hc,hf⟩;obtain⟨c1,c2,c3,c4,c5⟩:=c;cases hc;exact wpS_pure (q _ _ hf s1)
end
end HH
end
section
namespace HH
open PySem PyProof.Rows
section
variable{K:Keyed->Int}
noncomputable def Seg(K:Keyed->Int)(xs:Array Keyed)(lo hi:Nat):Prop:=∀i j,lo<=i->i<=j->j<hi->K (it xs i)<=K (it xs j)
theorem xZ{l:Bool}{k:Keyed}{a:Array Keyed}{b n:Nat}(h:Seg K a b (b+n)):Gb K l k a b n:=fun i j hij hj c=>by have:=h (b+i) (b+j) (by omega) (by omega) (by omega);unfold bb at*;cases l with|true=>simp only[if_true,decide_eq_true_eq]at*;omega|false=>simp only[Bool.false_eq_true,if_false,Bool.not_eq_true',decide_eq_false_iff_not]at*;omega
theorem gK{xs:Array Keyed}{i:Nat}:it xs i=xs.toList.getD i (Value.none,Value.none):=by
 unfold it;by_cases h:i<xs.size;.simp[Array.getD,h]
 .simp[Array.getD,h]
theorem lU{a:Array Keyed}{i n j:Nat}(h:n<=a.size)(hj:j<n-i):it (a.extract i n) j=it a (i+j):=by
 have:j<(a.extract i n).size:=by simp;omega
 have e:(a.extract i n)[j]?=a[i+j]?:=by rw[Array.getElem?_extract,if_pos (by omega)]
 have e1:=rQ this;have e2:=rQ (show i+j<a.size by omega);rw[e,e2]at e1;injection e1 with e1;exact e1.symm
theorem qY{a:Array Keyed}{i n:Nat}(h:n<=a.size)(hs:Seg K a i n):tV K (a.extract i n):=fun u v huv hv=>by
 have hsz:(a.extract i n).size=n-i:=by simp;omega
 rw[hsz]at hv;rw[lU h (by omega),lU h hv];exact hs _ _ (by omega) (by omega) (by omega)
theorem uW:∀(m:List Keyed)(arr:Array Keyed)(o k:Nat),o+k+m.length<=arr.size->((m.zipIdx k).foldl (fun a x=>match x with|(p,j)=>a.setIfInBounds (o+j) p) arr).toList=arr.toList.take (o+k)++(m++arr.toList.drop (o+k+m.length))
 |[],arr,o,k,h=>by simp|x::m,arr,o,k,h=>by
   have hl:o+k<arr.size:=by simp at h;omega
   rw[List.zipIdx_cons,List.foldl_cons];have ih:=uW m (arr.setIfInBounds (o+k) x) o (k+1) (by simp at h ⊢;omega);rw[ih,Array.toList_setIfInBounds];have e1:(arr.toList.set (o+k) x).take (o+(k+1))=arr.toList.take (o+k)++[x]:=by rw[<-Nat.add_assoc,List.take_succ_eq_append_getElem (by simpa using hl),List.take_set_of_le (Nat.le_refl _)];simp
   have e2:(arr.toList.set (o+k) x).drop (o+(k+1)+m.length)=arr.toList.drop (o+k+(x::m).length):=by rw[List.drop_set_of_lt (by omega)];congr 1;simp;omega
   rw[e1,e2];simp
theorem Fin.mem{a b out:Array Keyed}{z:Keyed}(f:Fin K a b out)(h:z∈out.toList):z∈a.toList\/z∈b.toList:=List.mem_append.mp (f.perm.mem_iff.mp h)
theorem vd{xs:Array Keyed}{P Q S:List Keyed}{lo hi:Nat}(e:xs.toList=P++(Q++S))(hl:P.length=lo)(hh:P.length+Q.length=hi)(h:SL K Q):Seg K xs lo hi:=fun i j h1 h2 h3=>by
 rw[gK,gK,e];have gi:∀n,lo<=n->n<hi->(P++(Q++S)).getD n (Value.none,Value.none)=Q.getD (n-lo) (Value.none,Value.none):=fun n n1 n2=>by rw[List.getD_eq_getElem?_getD,List.getD_eq_getElem?_getD,List.getElem?_append_right (by omega),List.getElem?_append_left (by omega),hl]
 rw[gi i h1 (by omega),gi j (by omega) h3];by_cases hij:i=j;.rw[hij];exact Int.le_refl _
 .have:=List.pairwise_iff_getElem.mp h (i-lo) (j-lo) (by omega) (by omega) (by omega);simpa[List.getD_eq_getElem?_getD,show i-lo<Q.length by omega,show j-lo<Q.length by omega]using this
end
section
variable{M:Model}{A:Around}{E:Value->Shared->Prop}{s:Shared}{κ:SortKind}{ok:Keyed->Prop}{K:Keyed->Int}
theorem three{a:Array Keyed}{i n:Nat}(hi:i<=n)(h:n<=a.size):a.toList=a.toList.take i++((a.extract i n).toList++a.toList.drop n):=by rw[<-List.append_assoc,<-gP hi h,List.take_append_drop]
theorem Bw{a:Array Keyed}{i n:Nat}(h:n<=a.size)(hs:Seg K a i n):SL K (a.extract i n).toList:=oW (qY h hs)
structure Qy(K:Keyed->Int)(xs ys:Array Keyed)(lo hi:Nat):Prop where
 perm:ys.toList.Perm xs.toList
 pre:ys.toList.take lo=xs.toList.take lo
 post:ys.toList.drop hi=xs.toList.drop hi
 seg:Seg K ys lo hi
theorem ud{xs:Array Keyed}{lo hi:Nat}(h:Seg K xs lo hi):Qy K xs xs lo hi:=⟨.refl _,rfl,rfl,h⟩
theorem Mr{xs ys:Array Keyed}{lo u v hi:Nat}{m:List Keyed}(h1:lo<=u)(h2:u<=v)(h3:v<=hi)(h4:hi<=xs.size)(hy:ys.toList=xs.toList.take u++(m++xs.toList.drop v))(hp:m.Perm (xs.extract u v).toList)(hs:SL K ((xs.extract lo u).toList++(m++(xs.extract v hi).toList))):Qy K xs ys lo hi:=by
 have hlm:m.length=v-u:=by rw[hp.length_eq];simp;omega
 have el:xs.toList.take u=xs.toList.take lo++(xs.extract lo u).toList:=gP h1 (by omega);have er:xs.toList.drop v=(xs.extract v hi).toList++xs.toList.drop hi:=by have:=jC (a:=xs) (i:=v) (k:=hi-v) (by omega);rwa[show v+(hi-v)=hi by omega]at this
 have e:ys.toList=xs.toList.take lo++(((xs.extract lo u).toList++(m++(xs.extract v hi).toList))++xs.toList.drop hi):=by rw[hy,el,er];simp
 have hlo:(xs.toList.take lo).length=lo:=by simp;omega
 have hmid:((xs.extract lo u).toList++(m++(xs.extract v hi).toList)).length=hi-lo:=by simp[hlm];omega
 refine⟨?_,?_,?_,vd e hlo (by omega) hs⟩;.have t:=three h2 (show v<=xs.size by omega);rw[hy];refine List.Perm.trans (List.Perm.append_left _ (List.Perm.append_right _ hp)) (.of_eq t.symm)
 .rw[e,List.take_append_of_le_length (by omega),List.take_of_length_le (by omega)]
 .rw[e,<-List.append_assoc,List.drop_append,List.drop_eq_nil_of_le (by simp only[List.length_append]at*;omega)];simp only[List.nil_append,List.length_append]at*;rw[show hi-((xs.toList.take lo).length+((xs.extract lo u).toList.length+(m.length+(xs.extract v hi).toList.length)))=0 by omega];rfl
end
end HH
end
section
namespace HH
open PySem PyProof.Rows
section
variable{M:Model}{A:Around}{E:Value->Shared->Prop}{s:Shared}{κ:SortKind}{ok:Keyed->Prop}{K:Keyed->Int}
theorem Ow{st st':SortSt}{Q:PUnit->SortSt->Prop}(h:Q ⟨⟩ st'):wpS M A E s (set st':SM PUnit) Q st:=by unfold wpS;rw[StateT.run_set];exact wpAny_pure ⟨rfl,h⟩
theorem jE{a:Array Keyed}{i n:Nat}{x:Keyed}(hi:i<=n)(h:n<=a.size)(hx:x∈(a.extract i n).toList):∃j,i<=j/\j<n/\x=it a j:=pL hi h hx
theorem Oa{arr merged:Array Keyed}{sa u sb v hi:Nat}(h1:sa<=u)(h2:u<=sb)(h3:sb<=v)(h4:v<=hi)(h5:hi<=arr.size)(hu:u<sb)(hv:sb<v)(s1:Seg K arr sa sb)(s2:Seg K arr sb hi)(f:Fin K (arr.extract u sb) (arr.extract sb v) merged)(k2:∀j,sa<=j->j<u->K (it arr j)<=K (it arr sb))(m3:∀j,v<=j->j<hi->K (it arr (sb-1))<=K (it arr j)):SL K ((arr.extract sa u).toList++(merged.toList++(arr.extract v hi).toList)):=by
 have Wi:∀z∈merged.toList,(∃j,u<=j/\j<sb/\z=it arr j)\/∃j,sb<=j/\j<v/\z=it arr j:=fun z hz=>(f.mem hz).imp (jE h2 (by omega)) (jE h3 (by omega));refine cu.mpr ⟨Bw (by omega) fun i j a b c=>s1 i j a b (by omega),cu.mpr ⟨f.lH,Bw h5 fun i j a b c=>s2 i j (by omega) b c,fun z hz y hy=>?_⟩,fun x hx y hy=>?_⟩
 . obtain⟨j,j1,j2,rfl⟩:=jE h4 h5 hy;rcases Wi z hz with⟨i,i1,i2,rfl⟩|⟨i,i1,i2,rfl⟩;.exact Int.le_trans (s1 i (sb-1) (by omega) (by omega) (by omega)) (m3 j j1 j2)
   .exact s2 i j (by omega) (by omega) (by omega)
 . obtain⟨i,i1,i2,rfl⟩:=jE h1 (by omega) hx;rcases List.mem_append.mp hy with hy|hy
   . rcases Wi y hy with⟨j,j1,j2,rfl⟩|⟨j,j1,j2,rfl⟩;.exact s1 i j (by omega) (by omega) (by omega)
     .exact Int.le_trans (k2 i i1 i2) (s2 sb j (by omega) (by omega) (by omega))
   .obtain⟨j,j1,j2,rfl⟩:=jE h4 h5 hy;exact Int.le_trans (k2 i i1 i2) (s2 sb j (by omega) (by omega) (by omega))
set_option maxHeartbeats 1000000 in
theorem KR(R:Rk M A E s κ ok K){i sa na pw sb nb pw2:Nat}{Q:Bool->SortSt->Prop}{st:SortSt}(hs:kindOf st=κ)(ho:∀x∈(arrOf st).toList,ok x)(hf:failedOf st=none)(hi:(pendingOf st)[i]?=some (sa,na,pw))(hj:(pendingOf st)[i+1]?=some (sb,nb,pw2))(hsb:sb=sa+na)(n1:1<=na)(m1:1<=nb)(hz:sb+nb<=(arrOf st).size)(s1:Seg K (arrOf st) sa sb)(s2:Seg K (arrOf st) sb (sb+nb))(q:∀st',kindOf st'=κ->failedOf st'=none->pendingOf st'=((pendingOf st).setIfInBounds i (sa,na+nb,pw)).eraseIdxIfInBounds (i+1)->Qy K (arrOf st) (arrOf st') sa (sb+nb)->Q true st'):wpS M A E s (mergeAt' i) Q st:=by
 obtain⟨kd,arr,pend,gm,fl⟩:=st;replace hs:kd=κ:=hs;replace ho:∀x∈arr.toList,ok x:=ho;replace hf:fl=none:=hf;replace hi:pend[i]?=some (sa,na,pw):=hi;replace hj:pend[i+1]?=some (sb,nb,pw2):=hj;replace hz:sb+nb<=arr.size:=hz;replace s1:Seg K arr sa sb:=s1;replace s2:Seg K arr sb (sb+nb):=s2;replace q:∀st',kindOf st'=κ->failedOf st'=none->pendingOf st'=(pend.setIfInBounds i (sa,na+nb,pw)).eraseIdxIfInBounds (i+1)->Qy K arr (arrOf st') sa (sb+nb)->Q true st':=q;show wpS M A E s (get>>=_) Q _;refine wpS_bind (wpS_get ?_);dsimp only;rw[hi,hj];try dsimp only
 refine wpS_bind (Ow ?_);refine wpS_bind (aV (by omega) ?_);refine wpS_bind (mj R (ho _ (cP (by omega))) ho (by omega) (by omega) hs (xZ (by rw[<-hsb];exact s1)) fun k k1 k2 k3=>?_);have k2':∀j,sa<=j->j<sa+k->K (it arr j)<=K (it arr sb):=fun j h1 h2=>by have:=k2 (j-sa) (by omega);rw[show sa+(j-sa)=j by omega]at this;simp[bb]at this;omega
 try dsimp only
 by_cases c1:na-k=0
 . rw[if_pos (by simpa using c1)];refine wpS_pure (q _ hs hf rfl (ud fun u v u1 u2 u3=>?_));by_cases hv:v<sb;.exact s1 u v u1 u2 hv
   . by_cases hu:u<sb;.exact Int.le_trans (k2' u u1 (by omega)) (s2 sb v (by omega) (by omega) u3)
     .exact s2 u v (by omega) u2 u3
 rw[if_neg (by simpa using c1)];rw[show sa+k+(na-k)-1=sb-1 by omega];refine wpS_bind (aV (by show sb-1<arr.size;omega) ?_);refine wpS_bind (mj R (ho _ (cP (by omega))) ho (by omega) (by omega) hs (xZ s2) fun m m1' m2 m3=>?_);have m2':∀j,sb<=j->j<sb+m->K (it arr j)<K (it arr (sb-1)):=fun j h1 h2=>by have:=m2 (j-sb) (by omega);rw[show sb+(j-sb)=j by omega]at this;simpa[bb]using this
 have m3':∀j,sb+m<=j->j<sb+nb->K (it arr (sb-1))<=K (it arr j):=fun j h1 h2=>by have:=m3 (j-sb) (by omega) (by omega);rw[show sb+(j-sb)=j by omega]at this;simp[bb]at this;omega
 have KC:K (it arr sb)<=K (it arr (sa+k)):=by have:=k3 k (Nat.le_refl _) (by omega);simp[bb]at this;omega
 try dsimp only
 by_cases c2:m=0
 . rw[if_pos (by simpa using c2)];refine wpS_pure (q _ hs hf rfl (ud fun u v u1 u2 u3=>?_));by_cases hv:v<sb;.exact s1 u v u1 u2 hv
   . by_cases hu:u<sb;.exact Int.le_trans (s1 u (sb-1) u1 (by omega) (by omega)) (m3' v (by omega) u3)
     .exact s2 u v (by omega) u2 u3
 rw[if_neg (by simpa using c2)];have hxa:(arr.extract (sa+k) sb).size=sb-(sa+k):=by simp;omega
 have hya:(arr.extract sb (sb+m)).size=m:=by simp;omega
 have ux:tV K (arr.extract (sa+k) sb):=qY (by omega) fun u v a b c=>s1 u v (by omega) b c;have uy:tV K (arr.extract sb (sb+m)):=qY (by omega) fun u v a b c=>s2 u v a b (by omega);have ox:∀x∈(arr.extract (sa+k) sb).toList,ok x:=fun x hx=>by obtain⟨j,j1,j2,rfl⟩:=jE (by omega) (by omega) hx;exact ho _ (cP (by omega))
 have oy:∀x∈(arr.extract sb (sb+m)).toList,ok x:=fun x hx=>by obtain⟨j,j1,j2,rfl⟩:=jE (by omega) (by omega) hx;exact ho _ (cP (by omega))
 have hh0:K (it (arr.extract sb (sb+m)) 0)<=K (it (arr.extract (sa+k) sb) 0):=by rw[lU (by omega) (by omega),lU (by omega) (by omega)];exact KC
 have hhl:∀j,j<(arr.extract sb (sb+m)).size->K (it (arr.extract sb (sb+m)) j)<=K (it (arr.extract (sa+k) sb) ((arr.extract (sa+k) sb).size-1)):=fun j hj=>by rw[hya]at hj;rw[hxa,lU (by omega) (by omega),lU (by omega) (by omega),show sa+k+(sb-(sa+k)-1)=sb-1 by omega];exact Int.le_of_lt (m2' _ (by omega) (by omega))
 have fin:∀(merged:Array Keyed)(st':SortSt),Fin K (arr.extract (sa+k) sb) (arr.extract sb (sb+m)) merged->pZ (SortSt.mk' kd arr ((pend.setIfInBounds i (sa,na+nb,pw)).eraseIdxIfInBounds (i+1)) gm fl) st'->wpS M A E s ((modify fun s=>setArr s (List.foldl (fun a x=>match x with|(p,j)=>a.setIfInBounds (sa+k+j) p) (arrOf s) merged.toList.zipIdx))>>=fun _=>get>>=fun s=>pure (failedOf s).isNone) Q st':=fun merged st' f sm=>by
  refine wpS_bind (wpS_modify (wpS_bind (wpS_get (wpS_pure ?_))));have e1:arrOf st'=arr:=sm.arr;have e2:failedOf st'=none:=sm.fail.trans hf;have hlm:merged.toList.length=sb+m-(sa+k):=by rw[f.perm.length_eq];simp;omega
  show Q (failedOf st').isNone _;rw[e2];refine q _ (sm.kind.trans hs) e2 sm.pend ?_;show Qy K arr (List.foldl _ (arrOf st') merged.toList.zipIdx) sa (sb+nb);rw[e1];have hy:=uW merged.toList arr (sa+k) 0 (by omega);rw[Nat.add_zero,hlm,show sa+k+(sb+m-(sa+k))=sb+m by omega]at hy;have he:arr.extract (sa+k) (sb+m)=arr.extract (sa+k) sb++arr.extract sb (sb+m):=by simp[Array.extract_append_extract];congr 1<;>omega
  refine Mr (u:=sa+k) (v:=sb+m) (by omega) (by omega) (by omega) hz hy (f.perm.trans (.of_eq ?_)) (Oa (by omega) (by omega) (by omega) (by omega) hz (by omega) (by omega) s1 s2 f k2' m3');rw[he,Array.toList_append]
 try dsimp only
 split;.exact wpS_bind (M3 R ox oy hs ux uy (by omega) (by omega) hh0 hhl fun merged st' f sm=>fin merged st' f sm)
 .exact wpS_bind (OJ R ox oy hs ux uy (by omega) (by omega) hh0 hhl fun merged st' f sm=>fin merged st' f sm)
end
end HH
end
section
namespace HH
open PySem PyProof.Rows
section
variable{K:Keyed->Int}
theorem uG{xs:Array Keyed}{i:Nat}:it xs i=(xs[i]?).getD (Value.none,Value.none):=by unfold it;by_cases h:i<xs.size<;>simp[Array.getD,h]
theorem jM{xs:Array Keyed}{i j:Nat}(hj:j<=xs.size)(k:Nat):it (mirror xs i j ((j-i)/2)) k=if i<=k/\k<j then it xs (i+j-1-k)else it xs k:=by rw[uG,getElem?_mirror_all hj];split<;>rw[uG]
theorem xg{xs:Array Keyed}{u d:Nat}(hs:u<xs.size)(hd:d<=u)(k:Nat):it (bubble xs u d) k=if k=u-d then it xs u else if u-d<k/\k<=u then it xs (k-1)else it xs k:=by
 rw[uG,getElem?_bubble hs d hd];by_cases h1:k=u-d;.rw[if_pos h1,if_pos h1,uG]
 .rw[if_neg h1,if_neg h1];split<;>rw[uG]
structure m5(xs ys:Array Keyed)(lo:Nat):Prop where
 perm:ys.toList.Perm xs.toList
 pre:∀i,i<lo->it ys i=it xs i
theorem m5.refl(xs:Array Keyed)(lo:Nat):m5 xs xs lo:=⟨.refl _,fun _ _=>rfl⟩
theorem m5.trans{xs ys zs:Array Keyed}{lo:Nat}(a:m5 xs ys lo)(b:m5 ys zs lo):m5 xs zs lo:=⟨b.perm.trans a.perm,fun i h=>(b.pre i h).trans (a.pre i h)⟩
theorem m5.size{xs ys:Array Keyed}{lo:Nat}(h:m5 xs ys lo):ys.size=xs.size:=by simpa using h.perm.length_eq
theorem jh{xs:Array Keyed}{lo i j:Nat}(h:lo<=i)(hj:j<=xs.size):m5 xs (mirror xs i j ((j-i)/2)) lo:=⟨Array.perm_iff_toList_perm.mp (mirror_perm ..),fun k hk=>by rw[jM hj,if_neg (by omega)]⟩
theorem Ju{xs:Array Keyed}{lo u d:Nat}(hs:u<xs.size)(hd:d<=u)(h:lo<=u-d):m5 xs (bubble xs u d) lo:=⟨Array.perm_iff_toList_perm.mp (bubble_perm ..),fun k hk=>by rw[xg hs hd,if_neg (by omega),if_neg (by omega)]⟩
noncomputable def Gr(K:Keyed->Int)(xs:Array Keyed)(lo hi:Nat):Prop:=∀i j,lo<=i->i<=j->j<hi->K (it xs j)<=K (it xs i)
end
section
variable{M:Model}{A:Around}{E:Value->Shared->Prop}{s:Shared}{κ:SortKind}{ok:Keyed->Prop}{K:Keyed->Int}
structure Sx(κ:SortKind)(ok:Keyed->Prop)(st:SortSt)(xs:Array Keyed)(st':SortSt):Prop where
 kind:kindOf st'=κ
 arr:arrOf st'=xs
 pend:pendingOf st'=pendingOf st
 fail:failedOf st'=none
 ok:∀x∈xs.toList,ok x
theorem Sx.set{st st':SortSt}{xs ys:Array Keyed}{lo:Nat}(h:Sx κ ok st xs st')(c:m5 xs ys lo):Sx κ ok st ys (setArr st' ys):=⟨h.kind,rfl,h.pend,h.fail,fun x hx=>h.ok x (c.perm.mem_iff.mp hx)⟩
theorem kI(R:Rk M A E s κ ok K){st st':SortSt}{xs:Array Keyed}{i j:Nat}{Q:Option Bool->SortSt->Prop}(h:Sx κ ok st xs st')(hi:i<xs.size)(hj:j<xs.size)(q:Q (some (decide (K (it xs i)<K (it xs j)))) st'):wpS M A E s (ltAt' i j) Q st':=by rw[ltAt'_eq];refine wpS_bind (wpS_get ?_);show wpS M A E s (elem' (arrOf st') i>>=fun x=>elem' (arrOf st') j>>=fun y=>lt' x y) Q st';rw[h.arr];exact wpS_bind (aV hi (wpS_bind (aV hj (R.lt (h.ok _ (cP hi)) (h.ok _ (cP hj)) h.kind q))))
theorem oU{st st':SortSt}{xs:Array Keyed}{lo i j:Nat}{Q:Unit->SortSt->Prop}(h:Sx κ ok st xs st')(hl:lo<=i)(hj:j<=xs.size)(q:∀st2,Sx κ ok st (mirror xs i j ((j-i)/2)) st2->Q () st2):wpS M A E s (reverseSlice' i j) Q st':=by rw[reverseSlice'_eq];refine wpS_modify ?_;rw[h.arr];exact q _ (h.set (jh hl hj))
theorem wg(R:Rk M A E s κ ok K){st st':SortSt}{xs:Array Keyed}{lo a n:Nat}{Q:Option (Option Nat)×Nat->SortSt->Prop}(h:Sx κ ok st xs st')(hn:lo+n<=xs.size)(ha:1<=a)(han:a<=n)(hs:Seg K xs lo (lo+a))(q:∀m,a<=m->m<=n->Seg K xs lo (lo+m)->(m=n\/K (it xs (lo+m))<K (it xs (lo+m-1)))->Q (none,m) st'):wpS M A E s (forIn [a:n] ((none,a):Option (Option Nat)×Nat) fun _ c=>ltAt' (lo+c.2) (lo+c.2-1)>>=fun o=>match o with|some b=>if b=true then pure (.done (none,c.2))else pure (.yield (none,c.2+1))|_=>pure (.done (some none,c.2))) Q st':=by
 refine wpS_forRange (I:=fun x c st2=>st2=st'/\c=(none,x)/\Seg K xs lo (lo+x)) ?_ ?_ ⟨rfl,rfl,hs⟩
 . rintro x c st2 h1 h2⟨rfl,rfl,hs'⟩;try dsimp only
   refine wpS_bind (kI R h (by omega) (by omega) ?_);by_cases c:K (it xs (lo+x))<K (it xs (lo+x-1))
   . rw[decide_eq_true c];try dsimp only
     rw[if_pos rfl];exact wpS_pure (q x h1 (by omega) hs' (.inr c))
   . rw[decide_eq_false c];try dsimp only
     rw[if_neg (by simp)];refine wpS_pure ⟨rfl,rfl,fun i j i1 ij jx=>?_⟩;by_cases hj:j<lo+x;.exact hs' i j i1 ij hj
     . have:j=lo+x:=by omega
       subst this;by_cases e:i=lo+x;.rw[e];exact Int.le_refl _
       .have:=hs' i (lo+x-1) i1 (by omega) (by omega);omega
 .rintro c st2⟨rfl,rfl,hs'⟩;rw[show max a n=n by omega]at hs' ⊢;exact q n han (Nat.le_refl _) hs' (.inl rfl)
theorem Hx(R:Rk M A E s κ ok K){st st':SortSt}{xs:Array Keyed}{lo a n:Nat}{Q:Option (Option Nat)×Nat×Nat->SortSt->Prop}(h:Sx κ ok st xs st')(hn:lo+n<=xs.size)(ha:1<=a)(han:a<=n)(hs:Gr K xs lo (lo+a))(q:∀ys st2 m e,m5 xs ys lo->Sx κ ok st ys st2->a<=m->m<=n->Gr K ys lo (lo+m)->e+1<=m->(∀i,lo+m-(e+1)<=i->i<lo+m->K (it ys i)=K (it ys (lo+m-1)))->Q (none,m,e) st2):wpS M A E s (forIn [a:n] ((none,a,0):Option (Option Nat)×Nat×Nat) fun _ c=>ltAt' (lo+c.2.1) (lo+c.2.1-1)>>=fun o=>match o with
  |some b=>if b=true then(if c.2.2>0 then reverseSlice' (lo+c.2.1-(c.2.2+1)) (lo+c.2.1)>>=fun _=>pure (.yield (none,c.2.1+1,0))else pure (.yield (none,c.2.1+1,0)))else ltAt' (lo+c.2.1-1) (lo+c.2.1)>>=fun o=>match o with|some b=>if b=true then pure (.done (none,c.2.1,c.2.2))else pure (.yield (none,c.2.1+1,c.2.2+1))|_=>pure (.done (some none,c.2.1,c.2.2))
  |_=>pure (.done (some none,c.2.1,c.2.2))) Q st':=by
 refine wpS_forRange (I:=fun x c st2=>∃ys e,c=(none,x,e)/\m5 xs ys lo/\Sx κ ok st ys st2/\Gr K ys lo (lo+x)/\e+1<=x/\∀i,lo+x-(e+1)<=i->i<lo+x->K (it ys i)=K (it ys (lo+x-1))) ?_ ?_ ⟨xs,0,rfl,.refl _ _,h,hs,by omega,fun i h1 h2=>by rw[show i=lo+a-1 by omega]⟩
 . rintro x c st2 h1 h2⟨ys,e,rfl,hc,hx,hd,he,hq⟩;have hsz:=hc.size;try dsimp only
   refine wpS_bind (kI R hx (by omega) (by omega) ?_);by_cases c:K (it ys (lo+x))<K (it ys (lo+x-1))
   . rw[decide_eq_true c];try dsimp only
     rw[if_pos rfl];have more:∀zs:Array Keyed,(∀i,K (it zs i)=K (it ys i))->Gr K zs lo (lo+(x+1)):=fun zs hz i j i1 ij jx=>by
      rw[hz,hz];by_cases hj:j<lo+x;.exact hd i j i1 ij hj
      . have:j=lo+x:=by omega
        subst this;by_cases e:i=lo+x;.rw[e];exact Int.le_refl _
        .have:=hd i (lo+x-1) i1 (by omega) (by omega);omega
     by_cases c2:e>0
     . rw[if_pos c2];refine wpS_bind (oU (lo:=lo) hx (by omega) (by omega) fun st3 h3=>wpS_pure ⟨_,0,rfl,hc.trans (jh (by omega) (by omega)),h3,more _ fun i=>?_,by omega,fun i h1 h2=>by rw[show i=lo+(x+1)-1 by omega]⟩);rw[jM (by omega)];split;.rw[hq _ (by omega) (by omega),hq i (by omega) (by omega)]
       .rfl
     .rw[if_neg c2];exact wpS_pure ⟨ys,0,rfl,hc,hx,more ys fun _=>rfl,by omega,fun i h1 h2=>by rw[show i=lo+(x+1)-1 by omega]⟩
   . rw[decide_eq_false c];try dsimp only
     rw[if_neg (by simp)];refine wpS_bind (kI R hx (by omega) (by omega) ?_);by_cases c2:K (it ys (lo+x-1))<K (it ys (lo+x))
     . rw[decide_eq_true c2];try dsimp only
       rw[if_pos rfl];exact wpS_pure (q ys st2 x e hc hx h1 (by omega) hd he hq)
     . rw[decide_eq_false c2];try dsimp only
       rw[if_neg (by simp)];have eqx:K (it ys (lo+x))=K (it ys (lo+x-1)):=by omega
       refine wpS_pure ⟨ys,e+1,rfl,hc,hx,fun i j i1 ij jx=>?_,by omega,fun i i1 i2=>?_⟩
       . by_cases hj:j<lo+x;.exact hd i j i1 ij hj
         . have:j=lo+x:=by omega
           subst this;by_cases e:i=lo+x;.rw[e];exact Int.le_refl _
           .rw[eqx];exact hd i (lo+x-1) i1 (by omega) (by omega)
       . rw[show lo+(x+1)-1=lo+x by omega];by_cases e':i=lo+x;.rw[e']
         .rw[eqx];exact hq i (by omega) (by omega)
 .rintro c st2⟨ys,e,rfl,hc,hx,hd,he,hq⟩;rw[show max a n=n by omega]at*;exact q ys st2 n e hc hx han (Nat.le_refl _) hd he hq
end
end HH
end
section
namespace HH
open PySem PyProof.Rows
section
variable{M:Model}{A:Around}{E:Value->Shared->Prop}{s:Shared}{κ:SortKind}{ok:Keyed->Prop}{K:Keyed->Int}
theorem Bg{xs:Array Keyed}{lo n:Nat}(hn:lo+n<=xs.size)(h:Gr K xs lo (lo+n)):Seg K (mirror xs lo (lo+n) ((lo+n-lo)/2)) lo (lo+n):=fun i j i1 ij jn=>by rw[jM hn,jM hn,if_pos (by omega),if_pos (by omega)];exact h _ _ (by omega) (by omega) (by omega)
theorem Dp(R:Rk M A E s κ ok K){st st':SortSt}{xs:Array Keyed}{lo n:Nat}{Q:Option Nat->SortSt->Prop}(h:Sx κ ok st xs st')(hn:lo+n<=xs.size)(h1:1<=n)(q:∀ys st2 m,m5 xs ys lo->Sx κ ok st ys st2->1<=m->m<=n->Seg K ys lo (lo+m)->Q (some m) st2):wpS M A E s (countRun' lo n) Q st':=by
 have one:∀ys:Array Keyed,Seg K ys lo (lo+1):=fun ys i j i1 ij jn=>by rw[show i=j by omega];exact Int.le_refl _
 show wpS M A E s (_>>=_) Q st';refine wpS_bind (wg (a:=1) (n:=n) R h hn (Nat.le_refl 1) h1 (one xs) fun m m1 m2 sm hor=>?_);dsimp only;by_cases c1:m=n;.rw[if_pos (by simpa using c1)];exact wpS_pure (q xs st' m (.refl _ _) h m1 m2 sm)
 rw[if_neg (by simpa using c1)];have hlt:=hor.resolve_left c1;by_cases c2:m>1;rw[if_pos c2];refine wpS_bind (kI R h (by omega) (by omega) ?_);by_cases c3:K (it xs lo)<K (it xs (lo+m-1))
 . rw[decide_eq_true c3];try dsimp only
   rw[if_pos rfl];exact wpS_pure (q xs st' m (.refl _ _) h m1 m2 sm)
 rw[decide_eq_false c3];try dsimp only
 rw[if_neg (by simp)];have hall:∀k,lo<=k->k<lo+m->K (it xs k)=K (it xs (lo+m-1)):=fun k k1 k2=>by have a1:=sm lo k (Nat.le_refl _) k1 k2;have a2:=sm k (lo+m-1) k1 (by omega) (by omega);omega
 refine wpS_bind (oU (lo:=lo) h (Nat.le_refl _) (by omega) fun st2 h2=>?_);have hc:m5 xs (mirror xs lo (lo+m) ((lo+m-lo)/2)) lo:=jh (Nat.le_refl _) (by omega);have hd:Gr K (mirror xs lo (lo+m) ((lo+m-lo)/2)) lo (lo+(m+1)):=fun i j i1 ij jn=>by
  have e:∀k,lo<=k->k<lo+m->K (it (mirror xs lo (lo+m) ((lo+m-lo)/2)) k)=K (it xs (lo+m-1)):=fun k k1 k2=>by rw[jM (by omega),if_pos (by omega)];exact hall _ (by omega) (by omega)
  by_cases hj:j<lo+m;.rw[e i i1 (by omega),e j (by omega) hj];exact Int.le_refl _
  . have:j=lo+m:=by omega
    subst this;by_cases e':i=lo+m;.rw[e'];exact Int.le_refl _
    .rw[e i i1 (by omega),jM (by omega),if_neg (by omega)];omega
 generalize mirror xs lo (lo+m) ((lo+m-lo)/2)=ys at h2 hc hd;rotate_left;rw[if_neg c2];have hd0:Gr K xs lo (lo+(m+1)):=fun i j i1 ij jn=>by
  by_cases e:i=j;.rw[e];exact Int.le_refl _
  . have e1:i=lo:=by omega
    have e2:j=lo+m:=by omega
    rw[e1,e2];rw[show lo+m-1=lo by omega]at hlt;omega
 obtain⟨ys,hc,h2,hd⟩:∃ys,m5 xs ys lo/\Sx κ ok st ys st'/\Gr K ys lo (lo+(m+1)):=⟨xs,.refl _ _,h,hd0⟩;all_goals
  have hsz:=hc.size;refine wpS_bind (wp_rule ?_);refine wpS_bind (Hx (a:=m+1) R h2 (by omega) (by omega) (by omega) hd fun zs st3 p e XS hx3 p1 p2 hdz he hq=>?_);have hsz2:=XS.size;dsimp only;by_cases ce:e>0
  . rw[if_pos ce];refine wpS_bind (oU (lo:=lo) hx3 (by omega) (by omega) fun Ga h4=>?_);have hc4:m5 xs (mirror zs (lo+p-(e+1)) (lo+p) ((lo+p-(lo+p-(e+1)))/2)) lo:=hc.trans (XS.trans (jh (by omega) (by omega)));have Qp:Gr K (mirror zs (lo+p-(e+1)) (lo+p) ((lo+p-(lo+p-(e+1)))/2)) lo (lo+p):=fun i j i1 ij jn=>by
     have ez:∀k,K (it (mirror zs (lo+p-(e+1)) (lo+p) ((lo+p-(lo+p-(e+1)))/2)) k)=K (it zs k):=fun k=>by
      rw[jM (by omega)];split;.rw[hq _ (by omega) (by omega),hq k (by omega) (by omega)]
      .rfl
     rw[ez,ez];exact hdz i j i1 ij jn
    generalize mirror zs (lo+p-(e+1)) (lo+p) ((lo+p-(lo+p-(e+1)))/2)=us at h4 hc4 Qp;have hs4:=hc4.size;have hc5:m5 us (mirror us lo (lo+p) ((lo+p-lo)/2)) lo:=jh (Nat.le_refl _) (by omega);refine wpS_bind (oU (lo:=lo) h4 (Nat.le_refl _) (by omega) fun Jv h5=>?_);refine wpS_bind (wg R h5 (by rw[hc5.size];omega) (by omega) p2 (Bg (by omega) Qp) fun u u1 u2 su _=>?_);exact wpS_pure (q _ Jv u (hc4.trans hc5) h5 (by omega) u2 su)
  .rw[if_neg ce];have hs4:=(hc.trans XS).size;have hc5:m5 zs (mirror zs lo (lo+p) ((lo+p-lo)/2)) lo:=jh (Nat.le_refl _) (by omega);refine wpS_bind (oU (lo:=lo) hx3 (Nat.le_refl _) (by omega) fun Jv h5=>?_);refine wpS_bind (wg R h5 (by rw[hc5.size];omega) (by omega) p2 (Bg (by omega) hdz) fun u u1 u2 su _=>?_);exact wpS_pure (q _ Jv u ((hc.trans XS).trans hc5) h5 (by omega) u2 su)
theorem Lf(R:Rk M A E s κ ok K){st st':SortSt}{xs:Array Keyed}{lo n o:Nat}{Q:Bool->SortSt->Prop}(h:Sx κ ok st xs st')(hn:lo+n<=xs.size)(ho:o<=n)(hs:Seg K xs lo (lo+o))(q:∀ys st2,m5 xs ys lo->Sx κ ok st ys st2->Seg K ys lo (lo+n)->Q true st2):wpS M A E s (binarySort' lo n o) Q st':=by
 show wpS M A E s (_>>=_) Q st';refine wpS_bind (wpS_mono (wpS_forRange (I:=fun k c st2=>∃ys,c=(none,())/\m5 xs ys lo/\Sx κ ok st ys st2/\Seg K ys lo (lo+min k n)) (Q:=fun c st2=>∃ys,c=(none,())/\m5 xs ys lo/\Sx κ ok st ys st2/\Seg K ys lo (lo+n)) ?_ ?_ ?_) ?_)
 . rintro k c st2 k1 k2⟨ys,rfl,hc,hx,sg⟩;rw[show min k n=k by omega]at sg;have hsz:=hc.size;refine wpS_bind (wpS_mono (wpS_forRange (I:=fun x c st3=>st3=st2/\∃l r,c=(none,l,r)/\l<=r/\r<=k/\r-l<=k-x/\(∀i,lo<=i->i<lo+l->K (it ys i)<=K (it ys (lo+k)))/\∀i,lo+r<=i->i<lo+k->K (it ys (lo+k))<K (it ys i)) (Q:=fun c st3=>st3=st2/\∃l r,c=(none,l,r)/\l<=k/\(∀i,lo<=i->i<lo+l->K (it ys i)<=K (it ys (lo+k)))/\∀i,lo+l<=i->i<lo+k->K (it ys (lo+k))<K (it ys i)) ?_ ?_ ⟨rfl,0,k,rfl,by omega,by omega,by omega,fun i a b=>by omega,fun i a b=>by omega⟩) ?_)
   . rintro x c st3 _ xk⟨rfl,l,r,rfl,a1,a2,a3,a4,a5⟩;dsimp only;by_cases e:l ≥ r
     . rw[if_pos e];have:l=r:=by omega
       subst this;exact wpS_pure ⟨rfl,l,l,rfl,a2,a4,a5⟩
     . rw[if_neg e];refine wpS_bind (kI R hx (by omega) (by omega) ?_);by_cases c:K (it ys (lo+k))<K (it ys (lo+(l+r)/2));.rw[decide_eq_true c];dsimp only;rw[if_pos rfl];exact wpS_pure ⟨rfl,_,_,rfl,by omega,by omega,by omega,a4,fun i i1 i2=>Int.lt_of_lt_of_le c (sg _ _ (by omega) i1 i2)⟩
       .rw[decide_eq_false c];dsimp only;rw[if_neg (by simp)];exact wpS_pure ⟨rfl,_,_,rfl,by omega,a2,by omega,fun i i1 i2=>Int.le_trans (sg i (lo+(l+r)/2) i1 (by omega) (by omega)) (Int.not_lt.mp c),a5⟩
   . rintro c st3⟨rfl,l,r,rfl,a1,a2,a3,a4,a5⟩;have:l=r:=by omega
     subst this;exact⟨rfl,l,l,rfl,a2,a4,a5⟩
   . rintro c st3⟨rfl,l,r,rfl,a2,a4,a5⟩;show wpS M A E s (moveDown' (lo+k) (lo+l)>>=fun _=>pure (ForInStep.yield (none,()))) _ _;rw[moveDown'_eq];refine wpS_bind (wpS_modify (wpS_pure ?_));rw[hx.arr];have hb:m5 ys (bubble ys (lo+k) (lo+k-(lo+l))) lo:=Ju (by omega) (by omega) (by omega);refine⟨_,rfl,hc.trans hb,hx.set hb,fun i j i1 ij jn=>?_⟩;rw[show min (k+1) n=k+1 by omega]at jn;rw[xg (by omega) (by omega),xg (by omega) (by omega),show lo+k-(lo+k-(lo+l))=lo+l by omega];repeat' split
     all_goals first|(exfalso;omega)|exact Int.le_refl _|exact a4 _ (by omega) (by omega)|exact Int.le_of_lt (a5 _ (by omega) (by omega))|exact sg _ _ (by omega) (by omega) (by omega)
 .rintro c st2⟨ys,hc0,hc,hx,sg⟩;rw[show min (max (max o 1) n) n=n by omega]at sg;exact⟨ys,hc0,hc,hx,sg⟩
 . refine⟨xs,rfl,.refl _ _,h,fun i j i1 ij jn=>?_⟩;by_cases e:i=j;.rw[e];exact Int.le_refl _
   .exact hs i j i1 ij (by omega)
 .rintro c st2⟨ys,rfl,hc,hx,sg⟩;exact wpS_pure (q ys st2 hc hx sg)
end
end HH
end
section
namespace HH
open PySem PyProof.Rows
noncomputable abbrev Rn:=Nat×Nat×Nat
section
variable{K:Keyed->Int}{xs ys:Array Keyed}
noncomputable def zL(K:Keyed->Int)(xs:Array Keyed):Nat->List Rn->Nat->Prop|a,[],b=>a=b|a,r::l,b=>r.1=a/\1<=r.2.1/\Seg K xs a (a+r.2.1)/\zL K xs (a+r.2.1) l b
theorem fL:∀{l k:List Rn}{a b:Nat},zL K xs a (l++k) b↔∃m,zL K xs a l m/\zL K xs m k b
 |[],k,a,b=>⟨fun h=>⟨a,rfl,h⟩,fun⟨m,h1,h2⟩=>by cases(show a=m from h1);exact h2⟩|r::l,k,a,b=>by
   rw[List.cons_append];constructor;.rintro⟨h1,h2,h3,h4⟩;obtain⟨m,h5,h6⟩:=fL.mp h4;exact⟨m,⟨h1,h2,h3,h5⟩,h6⟩
   .rintro⟨m,⟨h1,h2,h3,h4⟩,h5⟩;exact⟨h1,h2,h3,fL.mpr ⟨m,h4,h5⟩⟩
theorem n6:∀{l:List Rn}{a b:Nat},zL K xs a l b->a+l.length<=b|[],a,b,h=>by cases(show a=b from h);simp|r::l,a,b,⟨_,h2,_,h4⟩=>by have:=n6 h4;simp only[List.length_cons];omega
theorem tW{lo hi:Nat}(h:∀i,lo<=i->i<hi->it ys i=it xs i)(s:Seg K xs lo hi):Seg K ys lo hi:=fun i j i1 ij jn=>by rw[h i i1 (by omega),h j (by omega) jn];exact s i j i1 ij jn
theorem kY:∀{l:List Rn}{a b:Nat},(∀i,a<=i->i<b->it ys i=it xs i)->zL K xs a l b->zL K ys a l b|[],_,_,_,h=>h|r::l,a,b,e,⟨h1,h2,h3,h4⟩=>by have:=n6 h4;exact⟨h1,h2,tW (fun i i1 i2=>e i i1 (by omega)) h3,kY (fun i i1 i2=>e i (by omega) i2) h4⟩
theorem Hn{r r':Rn}{a b:Nat}(h1:r'.1=r.1)(h2:r'.2.1=r.2.1){l:List Rn}(h:zL K xs a (l++[r]) b):zL K xs a (l++[r']) b:=by obtain⟨m,g1,g2,g3,g4,g5⟩:=fL.mp h;exact fL.mpr ⟨m,g1,h1.trans g2,by omega,by rw[h2];exact g4,by rw[h2];exact g5⟩
theorem Ig{lo:Nat}(h:ys.toList.take lo=xs.toList.take lo)(i:Nat)(hi:i<lo):it ys i=it xs i:=by rw[gK,gK,List.getD_eq_getElem?_getD,List.getD_eq_getElem?_getD];have e:=congrArg (fun l=>l[i]?) h;simp only[List.getElem?_take,hi,if_true]at e;rw[e]
theorem yd{hi:Nat}(h:ys.toList.drop hi=xs.toList.drop hi)(i:Nat)(h1:hi<=i):it ys i=it xs i:=by rw[gK,gK,List.getD_eq_getElem?_getD,List.getD_eq_getElem?_getD];have e:=congrArg (fun l=>l[i-hi]?) h;simp only[List.getElem?_drop,show hi+(i-hi)=i by omega]at e;rw[e]
theorem Ik{l1 l2:List Rn}{a b:Nat}{r1 r2:Rn}{p:Nat}(h:zL K xs a (l1++r1::r2::l2) b)(g:Qy K xs ys r1.1 (r2.1+r2.2.1)):zL K ys a (l1++(r1.1,r1.2.1+r2.2.1,p)::l2) b:=by
 obtain⟨m,g1,g2,g3,g4,g5,g6,g7,g8⟩:=fL.mp h;subst g2;have e:=n6 g8;refine fL.mpr ⟨r1.1,kY (fun i i1 i2=>Ig g.pre i i2) g1,rfl,by show 1<=r1.2.1+r2.2.1;omega,?_,?_⟩;.show Seg K ys r1.1 (r1.1+(r1.2.1+r2.2.1));have:=g.seg;rw[g5]at this;rwa[<-Nat.add_assoc]
 .show zL K ys (r1.1+(r1.2.1+r2.2.1)) l2 b;rw[<-Nat.add_assoc];exact kY (fun i i1 i2=>yd g.post i (by rw[g5];exact i1)) g8
theorem Cp{l:List Rn}{i:Nat}(h:i+1<l.length):∃l1 r1 r2 l2,l=l1++r1::r2::l2/\l1.length=i:=by refine⟨l.take i,l[i],l[i+1],l.drop (i+2),?_,by simp;omega⟩;rw[<-List.drop_eq_getElem_cons (by omega),<-List.drop_eq_getElem_cons (by omega),List.take_append_drop]
theorem oX:∀{l:List Rn},l≠[]->∃k r,l=k++[r]|[],h=>absurd rfl h|[r],_=>⟨[],r,rfl⟩|r::x::l,_=>by obtain⟨k,q,e⟩:=oX (l:=x::l) (by simp);exact⟨r::k,q,by rw[e];rfl⟩
theorem yP(x r1 r2:Rn)(l2:List Rn):∀l1:List Rn,((l1++r1::r2::l2).set l1.length x).eraseIdx (l1.length+1)=l1++x::l2|[]=>rfl|r::l1=>by show r::((l1++r1::r2::l2).set l1.length x).eraseIdx (l1.length+1)=r::(l1++x::l2);rw[yP x r1 r2 l2 l1]
end
section
variable{M:Model}{A:Around}{E:Value->Shared->Prop}{s:Shared}{κ:SortKind}{ok:Keyed->Prop}{K:Keyed->Int}
structure SR(κ:SortKind)(ok:Keyed->Prop)(K:Keyed->Int)(x0 ys:Array Keyed)(l:List Rn)(lo:Nat)(st:SortSt):Prop where
 kind:kindOf st=κ
 arr:arrOf st=ys
 fail:failedOf st=none
 pend:(pendingOf st).toList=l
 perm:ys.toList.Perm x0.toList
 ok:∀x∈ys.toList,ok x
 R5:zL K ys 0 l lo
 le:lo<=ys.size
theorem SR.sx{x0 ys:Array Keyed}{l:List Rn}{lo:Nat}{st:SortSt}(h:SR κ ok K x0 ys l lo st):Sx κ ok st ys st:=⟨h.kind,h.arr,rfl,h.fail,h.ok⟩
theorem xX(R:Rk M A E s κ ok K){x0 ys:Array Keyed}{l:List Rn}{lo i:Nat}{st:SortSt}{Q:Bool->SortSt->Prop}(h:SR κ ok K x0 ys l lo st)(hi:i+1<l.length)(q:∀zs k st2,SR κ ok K x0 zs k lo st2->k.length+1=l.length->(∀j,lo<=j->it zs j=it ys j)->Q true st2):wpS M A E s (mergeAt' i) Q st:=by
 obtain⟨l1,r1,r2,l2,e,hl⟩:=Cp hi;have hr:=h.R5;rw[e]at hr;obtain⟨m,g1,g2,g3,g4,g5,g6,g7,g8⟩:=fL.mp hr;have hle:=n6 g8;have hz:=h.le;have hp:=h.pend;have ei:(pendingOf st)[i]?=some (r1.1,r1.2.1,r1.2.2):=by rw[<-Array.getElem?_toList,hp,e,<-hl];simp
 have ej:(pendingOf st)[i+1]?=some (r2.1,r2.2.1,r2.2.2):=by rw[<-Array.getElem?_toList,hp,e,<-hl];simp
 refine KR R h.kind (by rw[h.arr];exact h.ok) h.fail ei ej (by omega) g3 g6 (by rw[h.arr];omega) (by rw[h.arr,g2,g5];exact g4) (by rw[h.arr,g5];exact g7) fun st2 a1 a2 a3 a4=>?_;rw[h.arr]at a4;have hr2:=Ik (p:=r1.2.2) hr a4;refine q (arrOf st2) (l1++(r1.1,r1.2.1+r2.2.1,r1.2.2)::l2) st2 ⟨a1,rfl,a2,?_,a4.perm.trans h.perm,fun x hx=>h.ok x (a4.perm.mem_iff.mp hx),hr2,?_⟩ (by rw[e];simp only[List.length_append,List.length_cons];omega) fun j hj=>yd a4.post j (by omega);.rw[a3];rw[Array.toList_eraseIdxIfInBounds,Array.toList_setIfInBounds,hp,e,<-hl];exact yP _ _ _ _ _
 .have:=a4.perm.length_eq;simp only[Array.length_toList]at this;omega
end
end HH
end
section
namespace HH
open PySem PyProof.Rows
section
variable{M:Model}{A:Around}{E:Value->Shared->Prop}{s:Shared}{κ:SortKind}{ok:Keyed->Prop}{K:Keyed->Int}
theorem SR.move{x0 ys zs:Array Keyed}{l:List Rn}{lo:Nat}{st st2:SortSt}(h:SR κ ok K x0 ys l lo st)(c:m5 ys zs lo)(x:Sx κ ok st zs st2):SR κ ok K x0 zs l lo st2:=⟨x.kind,x.arr,x.fail,by rw[x.pend];exact h.pend,c.perm.trans h.perm,x.ok,kY (fun i _ i2=>c.pre i i2) h.R5,by rw[c.size];exact h.le⟩
theorem vy{r:Rn}{f:Rn->Rn}:∀k:List Rn,(k++[r]).modify (k.length+1-1) f=k++[f r]|[]=>rfl|x::k=>by show x::(k++[r]).modify k.length f=x::(k++[f r]);rw[<-vy k];rfl
theorem ou{p:Array Rn}{k:List Rn}{r:Rn}{f:Rn->Rn}(h:p.toList=k++[r]):(p.modify (p.size-1) f).toList=k++[f r]:=by
 have hz:p.size=k.length+1:=by rw[<-Array.length_toList,h];simp
 rw[Array.toList_modify,h,hz];exact vy k
theorem SR.push{x0 ys:Array Keyed}{l:List Rn}{lo n:Nat}{st:SortSt}(h:SR κ ok K x0 ys l lo st)(h1:1<=n)(h2:lo+n<=ys.size)(hs:Seg K ys lo (lo+n)):SR κ ok K x0 ys (l++[(lo,n,0)]) (lo+n) (setPending st ((pendingOf st).push (lo,n,0))):=⟨h.kind,h.arr,h.fail,by show((pendingOf st).push (lo,n,0)).toList=_;rw[Array.toList_push,h.pend],h.perm,h.ok,fL.mpr ⟨lo,h.R5,rfl,h1,hs,rfl⟩,h2⟩
theorem SR.pow{x0 ys:Array Keyed}{l:List Rn}{lo pw:Nat}{st:SortSt}(h:SR κ ok K x0 ys l lo st)(hl:l≠[]):∃k,k≠[]/\SR κ ok K x0 ys k lo (setPending st ((pendingOf st).modify ((pendingOf st).size-1) fun(a,b,_)=>(a,b,pw))):=by obtain⟨k,r,e⟩:=oX hl;have hr:=h.R5;have hp:=h.pend;rw[e]at hr hp;exact⟨k++[(r.1,r.2.1,pw)],by simp,h.kind,h.arr,h.fail,ou hp,h.perm,h.ok,Hn (r:=r) (r':=(r.1,r.2.1,pw)) rfl rfl hr,h.le⟩
theorem PB{p:Prop}[Decidable p]{a n:Nat}(h:a+1<n):(if p then a-1 else a)+1<n:=by split<;>omega
theorem GP(R:Rk M A E s κ ok K){x0:Array Keyed}{Q:Unit->SortSt->Prop}{st:SortSt}(h:SR κ ok K x0 x0 [] 0 st)(q:∀ys st',arrOf st'=ys->failedOf st'=none->ys.toList.Perm x0.toList->Seg K ys 0 ys.size->Q () st'):wpS M A E s sortRuns' Q st:=by
 rw[sortRuns'_eq];refine wpS_bind (wpS_get ?_);dsimp only;simp only[h.arr];have big:∀{ys l lo st},SR κ ok K x0 ys l lo st->ys.size=x0.size:=fun h=>by simpa using h.perm.length_eq
 generalize minRun' x0.size x0.size 0=mr;refine wpS_bind (wpS_mono (wpS_forRange (I:=fun x c st'=>∃ys l lo,c=(none,lo)/\SR κ ok K x0 ys l lo st'/\x<=lo) (Q:=fun c st'=>∃ys l,c=(none,x0.size)/\SR κ ok K x0 ys l x0.size st') ?_ ?_ ⟨x0,[],0,rfl,h,Nat.le_refl _⟩) ?_)
 . rintro x c st1 _ hx⟨ys,l,lo,rfl,hS,hlo⟩;have hz:=big hS;have hle:=hS.le;dsimp only;by_cases c1:lo ≥ x0.size
   . rw[if_pos c1];have:lo=x0.size:=by omega
     subst this;exact wpS_pure ⟨ys,l,rfl,hS⟩
   rw[if_neg c1];refine wpS_bind (Dp R hS.sx (lo:=lo) (n:=x0.size-lo) (by omega) (by omega) fun ys1 st2 m ch hx1 m1 m2 sg=>?_);have hS1:=hS.move ch hx1;have hz1:=big hS1;dsimp only;by_cases c2:m<mr;case' pos=>
    rw[if_pos c2];refine wpS_bind (wpS_lift (wpAny_rule ⟨rfl,?_⟩));refine wpS_bind (Lf R hx1 (lo:=lo) (n:=min (x0.size-lo) mr) (by omega) (by omega) sg fun KH st3 ch2 hx2 sg2=>?_);simp only[Bool.not_true,Bool.false_eq_true,if_false];replace hS1:=hS.move (ch.trans ch2) hx2;replace hz1:=big hS1;replace m1:1<=min (x0.size-lo) mr:=by omega
    replace m2:min (x0.size-lo) mr<=x0.size-lo:=by omega
    generalize min (x0.size-lo) mr=n at*
   case' neg=>rw[if_neg c2];clear ch;obtain⟨KH,hys⟩:∃KH,KH=ys1:=⟨_,rfl⟩;obtain⟨st3,hst⟩:∃st3,st3=st2:=⟨_,rfl⟩;obtain⟨n,hn⟩:∃n,n=m:=⟨_,rfl⟩;subst hys hst hn;have sg2:=sg
   all_goals refine wpS_bind (wpS_get ?_);cases hb:(pendingOf st3).back? with|none=>dsimp only;exact wpS_bind (wpS_modify (wpS_pure ⟨KH,_,lo+n,rfl,hS1.push m1 (by omega) sg2,by omega⟩))|some r=>
      obtain⟨s1,n1,p1⟩:=r;dsimp only;have hne:l≠[]:=by rintro rfl;have:pendingOf st3=#[]:=Array.toList_inj.mp hS1.pend;rw[this]at hb;exact nomatch hb
      generalize power' x0.size (2*s1+n1) (2*s1+n1+n1+n) x0.size=pw;refine wpS_bind (wpS_mono (wpS_forRange (I:=fun _ c st'=>∃ys k,c=(none,())/\k≠[]/\SR κ ok K x0 ys k lo st'/\∀j,lo<=j->it ys j=it KH j) (Q:=fun c st'=>∃ys k,c=(none,())/\k≠[]/\SR κ ok K x0 ys k lo st'/\∀j,lo<=j->it ys j=it KH j) ?_ (fun _ _ h=>h) ⟨KH,l,rfl,hne,hS1,fun _ _=>rfl⟩) ?_)
      . rintro y c Ga _ _⟨ys3,k,rfl,hk,R6,sm⟩;refine wpS_bind (wpS_get ?_);try dsimp only
        have stop:∃ys k,((none,()):Option Unit×Unit)=(none,())/\k≠[]/\SR κ ok K x0 ys k lo Ga/\∀j,lo<=j->it ys j=it KH j:=⟨ys3,k,rfl,hk,R6,sm⟩;split
        . rename_i older ho;split;.exact wpS_pure stop
          . have hp1:(pendingOf Ga).size>1:=by
             by_cases hh:(pendingOf Ga).size>1;.exact hh
             .rw[if_neg hh]at ho;exact nomatch ho
            have hkl:k.length=(pendingOf Ga).size:=by rw[<-R6.pend];simp
            refine wpS_bind (xX R R6 (by omega) fun zs k2 Jv hS5 hk2 sm5=>?_);simp only[Bool.not_true,Bool.false_eq_true,if_false];exact wpS_pure ⟨zs,k2,rfl,by rintro rfl;simp at hk2;omega,hS5,fun j hj=>(sm5 j hj).trans (sm j hj)⟩
        .exact wpS_pure stop
      .rintro c Ga⟨ys3,k,rfl,hk,R6,sm⟩;dsimp only;obtain⟨k2,_,hS4⟩:=R6.pow (pw:=pw) hk;refine wpS_bind (wpS_modify ?_);have hz3:=big R6;exact wpS_bind (wpS_modify (wpS_pure ⟨ys3,_,lo+n,rfl,hS4.push m1 (by omega) (tW (fun i i1 _=>sm i i1) sg2),by omega⟩))
 . rintro c st1⟨ys,l,lo,rfl,hS,hlo⟩;have:=hS.le;have:=big hS;have:lo=x0.size:=by omega
   subst this;exact⟨ys,l,rfl,hS⟩
 . rintro c st1⟨ys,l,rfl,hS⟩;dsimp only;have hl:=n6 hS.R5;refine wpS_bind (wpS_mono (wpS_forRange (I:=fun x c st'=>∃ys l,c=(none,())/\SR κ ok K x0 ys l x0.size st'/\l.length<=max 1 (x0.size-x)) (Q:=fun c st'=>∃ys l,c=(none,())/\SR κ ok K x0 ys l x0.size st'/\l.length<=1) ?_ ?_ ⟨ys,l,rfl,hS,by omega⟩) ?_)
   . rintro x c st2 _ hx⟨zs,k,rfl,hZ,hk⟩;refine wpS_bind (wpS_get ?_);try dsimp only
     have hkl:k.length=(pendingOf st2).size:=by rw[<-hZ.pend];simp
     by_cases c1:(pendingOf st2).size<=1;.rw[if_pos c1];exact wpS_pure ⟨zs,k,rfl,hZ,by omega⟩
     rw[if_neg c1];refine wpS_bind (xX R hZ (PB (by omega)) fun zs2 k2 Jv hS5 hk2 _=>?_);simp only[Bool.not_true,Bool.false_eq_true,if_false];exact wpS_pure ⟨zs2,k2,rfl,hS5,by omega⟩
   .rintro c st2⟨zs,k,rfl,hZ,hk⟩;exact⟨zs,k,rfl,hZ,by omega⟩
   .rintro c st2⟨zs,k,rfl,hZ,hk⟩;dsimp only;have hz:=big hZ;refine wpS_pure (q zs st2 hZ.arr hZ.fail hZ.perm ?_);match k,hk,hZ.R5 with|[],_,e=>have e:0=x0.size:=e;intro i j _ _ _;omega|[r],_,⟨_,_,g,e⟩=>have e:0+r.2.1=x0.size:=e;rw[e]at g;rwa[hz]
end
end HH
end
section
namespace HH
open PySem PySem.W PyProof.Rows PySem.Calls L2 PySem.Spec
theorem Ag{α β:Type}{f:α->β}{l' m:List β}(h:l'.Perm m):∀{l:List α},m=l.map f->∃k:List α,k.Perm l/\k.map f=l':=by induction h with
 |nil=>intro l e;cases l with|nil=>exact⟨[],.refl _,rfl⟩|cons _ _=>cases e
 |cons x h ih=>intro l e;cases l with|nil=>cases e|cons a l=>obtain⟨e1,e2⟩:=List.cons.inj e;obtain⟨k,h1,h2⟩:=ih e2;exact⟨a::k,h1.cons a,by rw[List.map_cons,h2,e1]⟩
 |swap x y l0=>intro l e;match l,e with|a::b::l,e=>obtain⟨e1,e2⟩:=List.cons.inj e;obtain⟨e3,e4⟩:=List.cons.inj e2;exact⟨b::a::l,.swap ..,by rw[List.map_cons,List.map_cons,e1,e3,e4]⟩
 |trans h1 h2 ih1 ih2=>intro l e;obtain⟨k,p1,e1⟩:=ih2 e;obtain⟨k2,p2,e2⟩:=ih1 e1.symm;exact⟨k2,p2.trans p1,e2⟩
theorem xY(a:List Int):aQ a a=false:=by cases h:aQ a a with|false=>rfl|true=>rw[lq _ _ h]at h;cases h
theorem Ds{a b x:List Int}(h:aQ b a=false)(hx:aQ x a=true):aQ x b=true:=by cases e:aQ x b with|true=>rfl|false=>rw[wN _ _ _ h e]at hx;cases hx
theorem qL{α:Type}{p q:α->Bool}(h:∀x,p x=true->q x=true):∀{l:List α},(∃x,x∈l/\q x=true/\p x=false)->l.countP p<l.countP q
 |[],⟨x,hx,_⟩=>by cases hx|y::l,⟨x,hx,h1,h2⟩=>by
   rw[List.countP_cons,List.countP_cons];have m:=List.countP_mono_left (l:=l) (p:=p) (q:=q) fun x _=>h x;rcases List.mem_cons.mp hx with rfl|hx;.rw[h1,h2,if_pos rfl,if_neg (by simp)];omega
   .have:=qL h ⟨x,hx,h1,h2⟩;cases hp:p y with|true=>rw[h y hp];omega|false=>rw[if_neg (by simp)];omega
noncomputable def Pr(ds:List D)(d:D):Nat:=ds.countP fun e=>aQ (bD e) (bD d)
theorem En{ds:List D}{d e:D}(hd:d∈ds):decide ((Pr ds d:Int)<Pr ds e)=aQ (bD d) (bD e):=by cases h:aQ (bD d) (bD e)with|true=>have:=qL (l:=ds) (p:=fun x=>aQ (bD x) (bD d)) (q:=fun x=>aQ (bD x) (bD e)) (fun x hx=>Ds (lq _ _ h) hx) ⟨d,hd,h,xY _⟩;rw[decide_eq_true_iff];unfold Pr;omega|false=>have:=List.countP_mono_left (l:=ds) (p:=fun x=>aQ (bD x) (bD e)) (q:=fun x=>aQ (bD x) (bD d)) fun x _ hx=>Ds h hx;rw[decide_eq_false_iff_not];unfold Pr;omega
open Classical in
noncomputable def Z0(P:Value->D->Prop)(ds:List D)(x:Keyed):Int:=if h:∃d,d∈ds/\P x.1 d then(Pr ds h.choose:Int)else 0
theorem xV{P:Value->D->Prop}{ds:List D}{x:Keyed}{d:D}(fn:∀u d e,P u d->P u e->bD d=bD e)(hd:d∈ds)(hp:P x.1 d):Z0 P ds x=Pr ds d:=by have h:∃d,d∈ds/\P x.1 d:=⟨d,hd,hp⟩;unfold Z0;rw[dif_pos h];unfold Pr;rw[fn _ _ _ h.choose_spec.2 hp]
noncomputable def pick{α:Type}(d:α)(p:List Nat)(l:List α):List α:=p.map fun i=>l.getD i d
theorem pG{α:Type}(d:α)(l:List α):pick d (List.range l.length) l=l:=by refine List.ext_getElem (by simp[pick]) fun i h1 h2=>?_;simp[pick,h2]
theorem oK{α:Type}{d:α}{p:List Nat}{l:List α}{n:Nat}(h:p.Perm (List.range n)):(pick d p l).length=n:=by rw[pick,List.length_map,h.length_eq,List.length_range]
theorem jo{P:Value->D->Prop}:∀{us:List Value}{ds:List D},Paired P us ds->∀i,i<us.length->P (us.getD i .none) (ds.getD i .non)/\ds.getD i .non∈ds|_,_,.cons r _,0,_=>⟨by simpa using r,by simp⟩|_,_,.cons _ t,i+1,hi=>by have:=jo t i (by simpa using hi);exact⟨by simpa using this.1,by simpa using Or.inr this.2⟩
section
variable{prog:Program}{w:World}{A:Around}{E:Value->Shared->Prop}{s:Shared}{vs:List Value}{κ:SortKind}{P:Value->D->Prop}{ds:List D}
theorem zp{a:Addr}{n:Nat}{O:PySem.Fin->Shared->Prop}(ho:s.heap.get? a=some (seqObj "list" vs.toArray n))(so:sortable ds=true)(hz:vs.length<=16777216)(pr:Paired P vs ds)(fn:∀u d e,P u d->P u e->bD d=bD e)(hk:∀h',(∀b o,b≠a->s.heap.get? b=some o->h'.get? b=some o)->∀C:SortKind->Shared->Prop,C κ {s with heap:=h'}->2<=vs.length->wpAny (model prog w) A (keyKind' vs.toArray) C (fun _ _=>False) {s with heap:=h'})(hl:∀h',(∀b o,b≠a->s.heap.get? b=some o->h'.get? b=some o)->∀u v d e,P u d->P v e->∀C:Bool->Shared->Prop,C (aQ (bD d) (bD e)) {s with heap:=h'}->wpAny (model prog w) A (keyLt' κ u v) C (fun _ _=>False) {s with heap:=h'})(h:∀h' c p,(∀b o,b≠a->s.heap.get? b=some o->h'.get? b=some o)->p.Perm (List.range vs.length)->pick .non p ds=lH ds->h'.get? a=some (seqObj "list" (pick .none p vs).toArray c)->O (.done (.ret .none)) {s with heap:=h'}):wpAny (model prog w) A (Builtin.«list.sort» ⟨[.ref a],[]⟩) O E s:=by
 have ha:a<s.heap.objs.size:=Heap.lt_size ho;have hld:vs.length=ds.length:=Paired.length pr;obtain⟨e1,ho1⟩:∃e1,(s.heap.update a (Obj.mapSeq fun _=>(#[]:Array Value))).get? a=some (seqObj "list" #[] e1):=⟨_,get?_update_seq ho fun _=>#[]⟩;rw[list_sort_plain];refine wpAny_bind (listItems_at ho rfl ?_);refine wpAny_bind (listUpdate_at ho rfl ?_ (by rw[List.size_toArray,sizeLine_eq];omega) (Nat.zero_le _));refine wpAny_bind (seqEpoch_at ho1 rfl ?_);refine wpAny_bind (wpAny_newTuple ?_ (by show vs.length<=_;rw[sizeLine_eq];omega));refine wpAny_bind (wpAny_newList ?_ (Nat.zero_le _));refine wpAny_holding ?_;generalize hH:(((s.heap.update a (Obj.mapSeq fun _=>(#[]:Array Value))).push {cls:=.type "tuple",data:=.seq vs.toArray}).push {cls:=.type "list",data:=.seq #[]}:Heap)=H1;have Wj:H1.get? a=some (seqObj "list" #[] e1):=by rw[<-hH];exact Heap.get?_push_of_some _ (Heap.get?_push_of_some _ ho1)
 have keep:∀b o,b≠a->s.heap.get? b=some o->H1.get? b=some o:=fun b o hb e=>by rw[<-hH];exact Heap.get?_push_of_some _ (Heap.get?_push_of_some _ ((Heap.get?_update_other _ _ (Ne.symm hb)).trans e))
 have fin:∀p:List Nat,p.Perm (List.range vs.length)->pick .non p ds=lH ds->O (.done (.ret .none)) {s with heap:=H1.update a (Obj.mapSeq fun _=>List.toArray (pick .none p vs))}:=by intro p h1 h2;obtain⟨c2,hc2⟩:∃c2,(H1.update a (Obj.mapSeq fun _=>List.toArray (pick Value.none p vs))).get? a=some (seqObj "list" (pick Value.none p vs).toArray c2):=⟨_,get?_update_seq Wj fun _=>List.toArray (pick Value.none p vs)⟩;exact h _ c2 p (fun b o hb e=>(Heap.get?_update_other _ _ (Ne.symm hb)).trans (keep b o hb e)) h1 h2 hc2
 show wpAny (model prog w) A _ O E {s with heap:=H1};dsimp only;by_cases h2:vs.toArray.size<2
 . rw[if_pos h2,if_pos h2];refine wpAny_bind (wpAny_pure ?_);rw[StateT.run_pure];refine wpAny_bind (wpAny_pure ?_);dsimp only;have eo:(arrOf (SortSt.mk' general' (vs.toArray.zip vs.toArray) #[] 7 none)).map (·.2)=List.toArray (pick Value.none (List.range vs.length) vs):=by rw[pG];apply Array.toList_inj.mp;show((vs.toArray.zip vs.toArray).map (·.2)).toList=vs;simp[List.map_snd_zip]
   rw[eo];refine wpAny_bind (seqEpoch_at Wj rfl ?_);refine wpAny_bind (listUpdate_at Wj rfl ?_ (Nat.zero_le _) (by rw[List.size_toArray,oK (.refl _),sizeLine_eq];omega));simp only[bne_self_eq_false,Bool.false_eq_true,if_false];refine wpAny_pure (fin _ (.refl _) ?_);rw[hld,pG];refine vf so (.refl _) ?_;match ds,(show ds.length<2 by simp at h2;omega)with|[],_=>exact .nil|[_],_=>exact List.pairwise_singleton ..|_::_::_,h2=>simp at h2;omega
 . rw[if_neg h2,if_neg h2];have h2':2<=vs.length:=by simpa using h2
   refine wpAny_bind (hk H1 keep _ ?_ h2'|>fun q=>wpAny_mono q (fun _ _ x=>x) fun _ _ x=>x.elim);have hzl:(vs.toArray.zip vs.toArray).toList=(List.range vs.length).map fun i=>(vs.getD i Value.none,vs.getD i Value.none):=by
    refine List.ext_getElem (by simp) fun i h1 h2=>?_;have:i<vs.length:=by simpa using h2
    simp[this]
   have okk:∀x∈(vs.toArray.zip vs.toArray).toList,∃d,d∈ds/\P x.1 d:=fun x hx=>by rw[hzl]at hx;obtain⟨i,hi,rfl⟩:=List.mem_map.mp hx;have:=jo pr i (List.mem_range.mp hi);exact⟨_,this.2,this.1⟩
   have R:Rk (model prog w) A E {s with heap:=H1} κ (fun x=>∃d,d∈ds/\P x.1 d) (Z0 P ds):=⟨by rintro x y Q st⟨d,d1,d2⟩⟨e,e1,e2⟩hkd hq;rw[xV fn d1 d2,xV fn e1 e2,En d1]at hq;rw[lt'_eq];refine wpS_bind (wpS_get ?_);rw[hkd];refine wpS_bind (wpS_lift (wpAny_attempt (wpAny_mono (hl H1 keep x.1 y.1 d e d2 e2 (fun b s'=>s'={s with heap:=H1}/\b=aQ (bD d) (bD e)) ⟨rfl,rfl⟩) ?_ fun _ _ h=>h.elim)));rintro b s'⟨rfl,rfl⟩;exact⟨rfl,wpS_pure hq⟩⟩;have run:=GP R (x0:=vs.toArray.zip vs.toArray) (st:=SortSt.mk' κ (vs.toArray.zip vs.toArray) #[] 7 none) (Q:=fun _ st'=>∃p:List Nat,p.Perm (List.range vs.length)/\pick .non p ds=lH ds/\(arrOf st').map (·.2)=(pick Value.none p vs).toArray/\failedOf st'=none) ⟨rfl,rfl,rfl,rfl,.refl _,okk,rfl,Nat.zero_le _⟩ fun ys st' e1 e2 e3 e4=>by
     rw[hzl]at e3;obtain⟨p,p1,p2⟩:=Ag e3 rfl;have hpl:p.length=vs.length:=by rw[p1.length_eq,List.length_range]
     have hys:ys.size=vs.length:=by rw[<-Array.length_toList,<-p2,List.length_map,hpl]
     refine⟨p,p1,vf so ?_ ?_,?_,e2⟩;.have:=p1.map fun i=>ds.getD i .non;rw[hld]at this;exact this.trans (.of_eq (pG D.non ds))
     . rw[List.pairwise_iff_getElem];intro i j hi hj hij;simp only[pick,List.length_map]at hi hj;have sg:=e4 i j (Nat.zero_le _) (by omega) (by omega);have at':∀k(hk:k<p.length),it ys k=(vs.getD p[k] .none,vs.getD p[k] .none):=fun k hk=>by rw[gK,<-p2];simp[hk]
       have inn:∀k(hk:k<p.length),p[k]<vs.length:=fun k hk=>List.mem_range.mp (p1.mem_iff.mp (List.getElem_mem hk));rw[at' i hi,at' j hj]at sg;have a1:=jo pr p[i] (inn i hi);have a2:=jo pr p[j] (inn j hj);rw[xV fn a1.2 a1.1,xV fn a2.2 a2.1]at sg;simp only[pick,List.getElem_map,mq,Bool.not_eq_true'];rw[<-En a2.2,decide_eq_false_iff_not];omega
     .apply Array.toList_inj.mp;rw[e1,Array.toList_map,<-p2,List.map_map];rfl
   refine wpAny_bind (wpAny_mono run ?_ fun _ _ e=>e);rintro⟨⟨⟩,st'⟩s'⟨rfl,p,p1,p2,hout,hf⟩;dsimp only;rw[hout];refine wpAny_bind (seqEpoch_at Wj rfl ?_);refine wpAny_bind (listUpdate_at Wj rfl ?_ (Nat.zero_le _) (by rw[List.size_toArray,oK p1,sizeLine_eq];omega));rw[hf];simp only[bne_self_eq_false,Bool.false_eq_true,if_false];exact wpAny_pure (fin _ p1 p2)
end
end HH
end
section
namespace HH
open PySem L2 PySem.Spec PyProof.Rows PySem.Calls PySem.W
section
variable{prog:Program}{w:World}{A:Around}{E:Value->Shared->Prop}{s:Shared}{vs:List Value}{κ:SortKind}{P:Value->D->Prop}{ds:List D}
theorem uf{l:Addr}{Q:Value->Shared->Prop}(hl:s.heap.IsList l vs.toArray)(so:sortable ds=true)(hz:vs.length<=16777216)(pr:Paired P vs ds)(fn:∀u d e,P u d->P u e->bD d=bD e)(hk:∀h',(∀b o,s.heap.get? b=some o->h'.get? b=some o)->∀C:SortKind->Shared->Prop,C κ {s with heap:=h'}->2<=vs.length->wpAny (model prog w) A.in1.in1 (keyKind' vs.toArray) C (fun _ _=>False) {s with heap:=h'})(hlt:∀h',(∀b o,s.heap.get? b=some o->h'.get? b=some o)->∀u v d e,P u d->P v e->∀C:Bool->Shared->Prop,C (aQ (bD d) (bD e)) {s with heap:=h'}->wpAny (model prog w) A.in1.in1 (keyLt' κ u v) C (fun _ _=>False) {s with heap:=h'})(h:∀h' c p,(∀b o,s.heap.get? b=some o->h'.get? b=some o)->p.Perm (List.range vs.length)->pick .non p ds=lH ds->h'.get? (s.heap.objs.size+1)=some (seqObj "list" (pick .none p vs).toArray c)->Q (.ref (s.heap.objs.size+1)) {s with heap:=h'}):wpAny (model prog w) A (call (.builtin "sorted") [.ref l]) Q E s:=by
 refine Calls.call_function_entry kind_sorted plain_sorted entry_sorted (args_sorted1 _) ?_;unfold Builtin.«sorted»;refine wpAny_bind (m:=checkCount "sorted" 1 1 _) (wpAny_pure ?_);refine wpAny_bind (collect_list hl ?_ (by rw[sizeLine_eq];omega));refine wpAny_bind (wpAny_newList ?_ (by rw[sizeLine_eq];omega));generalize hH:((s.heap.push (seqObj "list" #[] 0)).update s.heap.objs.size (Obj.mapSeq (·++vs.toArray)):Heap)=H1;have hsz:H1.objs.size=s.heap.objs.size+1:=by rw[<-hH,Heap.size_update,size_push']
 have keep:∀b o,s.heap.get? b=some o->H1.get? b=some o:=fun b o q=>by rw[<-hH,Heap.get?_update_ne _ _ _ _ (Nat.ne_of_lt (Heap.lt_size q))];exact Heap.get?_push_of_some _ q
 generalize hG:(H1.push {cls:=.type "list",data:=.seq vs.toArray}:Heap)=H2;have ho:H2.get? (s.heap.objs.size+1)=some (seqObj "list" vs.toArray 0):=by rw[<-hG,<-hsz];exact Heap.get?_push_size _ rfl
 have Fb:∀b o,s.heap.get? b=some o->H2.get? b=some o:=fun b o q=>by rw[<-hG];exact Heap.get?_push_of_some _ (keep b o q)
 have hne:∀b o,s.heap.get? b=some o->b≠s.heap.objs.size+1:=fun b o q=>Nat.ne_of_lt (Nat.lt_succ_of_lt (Heap.lt_size q));show wpAny _ _ _ _ _ {s with heap:=H2};rw[hsz];refine wpAny_bind (wpAny_holding (wpAny_call_entry slot_list_sort ⟨_,ho,rfl⟩ entry_list_sort ?body (args_list_sort _)));case body=>refine zp (s:={s with heap:=H2}) (κ:=κ) ho so hz pr fn (fun h' k' C hC h2=>hk h' (fun b o q=>k' b o (hne b o q) (Fb b o q)) C hC h2) (fun h' k' u v d e hd he C hC=>hlt h' (fun b o q=>k' b o (hne b o q) (Fb b o q)) u v d e hd he C hC) fun h' c p k' p1 p2 e=>?_;exact⟨_,rfl,wpAny_pure ⟨_,rfl,h h' c p (fun b o q=>k' b o (hne b o q) (Fb b o q)) p1 p2 e⟩⟩
end
theorem zZ{xs:List V}{us:List Value}(h:Vals xs us)(i:Nat):RelV (xs.getD i .non) (us.getD i .none):=by
 have hl:=h.length;by_cases hi:i<xs.length
 . obtain⟨u,e,r⟩:=h.get (i:=i) (x:=xs[i]) (List.getElem?_eq_getElem hi);have e1:xs.getD i .non=xs[i]:=by simp[hi]
   have e2:us.getD i .none=u:=by simp[e]
   rw[e1,e2];exact r
 . have e1:xs.getD i .non=.non:=by simp[Nat.le_of_not_lt hi]
   have e2:us.getD i .none=.none:=by simp[show us.length<=i by omega]
   rw[e1,e2];rfl
theorem uK{f:Nat->V}{g:Nat->Value}(h:∀i,RelV (f i) (g i)):∀l:List Nat,Vals (l.map f) (l.map g)|[]=>.nil|i::l=>.cons (h i) (uK h l)
theorem Bs{p:List Nat}{xs:List V}{us:List Value}(h:Vals xs us):Vals (pick .non p xs) (pick .none p us):=uK (zZ h) _
theorem vH{K:PySem.W.Frag}{F:Hp}{f:Nat->V}{g:Nat->D}(h:∀i,Rep K F (f i) (g i)):∀l:List Nat,aB K F (l.map f) (l.map g)|[]=>.nil|i::l=>.cons (h i) (vH h l)
theorem Bp{K:PySem.W.Frag}{F:Hp}{p:List Nat}{xs:List V}{ds:List D}(h:aB K F xs ds):aB K F (pick .non p xs) (pick .non p ds):=vH (fun i=>by
 have hl:=h.length;by_cases hi:i<ds.length
 . obtain⟨u,e,r⟩:=h.get (i:=i) (d:=ds[i]) (List.getElem?_eq_getElem hi);have e1:ds.getD i .non=ds[i]:=by simp[hi]
   have e2:xs.getD i .non=u:=by simp[e]
   rw[e1,e2];exact r
 . have e1:ds.getD i .non=.non:=by simp[Nat.le_of_not_lt hi]
   have e2:xs.getD i .non=.non:=by simp[show xs.length<=i by omega]
   rw[e1,e2,Rep]) _
theorem Ef{us:List Value}:∀{ns ms:List Int},IntsAre us ns->IntsAre us ms->ns=ms:=by induction us with|nil=>intro ns ms h1 h2;cases h1;cases h2;rfl|cons u us ih=>intro ns ms h1 h2;cases h1 with|cons n t r=>cases h2 with|cons m t' r'=>rw[ih r r']
theorem all_ints:∀{ds:List D},ds.all cT=true->ds=(ds.map gR).map D.int
 |[],_=>rfl|d::ds,h=>by
   simp only[List.all_cons,Bool.and_eq_true]at h;cases d<;>first|(have q:=h.1;simp[cT]at q;done)|skip
   rw[List.map_cons,List.map_cons,<-all_ints h.2];rfl
theorem intsAre_of:∀{ns:List Int}{us:List Value},Vals (ns.map V.int) us->IntsAre us ns|[],_,.nil=>.nil|n::ns,_,.cons r t=>by obtain⟨tk,rfl⟩:=r;exact .cons n tk (intsAre_of t)
section
variable{X:Cx}{c:Call}{a:Expr}{pa:P}{pos:Pos}
theorem boot_sorted:bootBuiltins "sorted"=some (.builtin "sorted"):=by decide+kernel
end
end HH
end
section
namespace HH
open PySem L2 PySem.Spec PyProof.Rows PySem.Calls
theorem o5(l b:Addr)(items items2:List Value)(n n2:Nat)(dd dd2:Option Addr)(sl sl2:Array (Option Value))(is js:List Int)(hi:IntsAre items is)(hj:IntsAre items2 js):Meets (Builtin.«tuple.__lt__» ⟨[.ref l,.ref b],[]⟩) (fun A R s=>s.heap.get? l=some {cls:=.type "tuple",dict:=dd,data:=.seq items.toArray n,slots:=sl}/\s.heap.get? b=some {cls:=.type "tuple",dict:=dd2,data:=.seq items2.toArray n2,slots:=sl2}/\R (.ok (.ret (.bool (aQ is js)))) s):=.of_wp fun prog w A R s h=>by
  obtain⟨hp,g,d,tk,os⟩:=s;obtain⟨hl,hb,h⟩:=h;have f2:=AutoSeq1.sub_tuple_tuple;wp_walk using wpAny_loadPart' hl,wpAny_loadPart' hb,wpAny_forIn_list _ (fun rest b s'=>b.1=none/\s'=⟨hp,g,d,tk,os⟩/\∃xs ys is' R7,rest=xs.zip ys/\IntsAre xs is'/\IntsAre ys R7/\decide (items.length<items2.length)=decide (is'.length<R7.length)/\R (.ok (.ret (.bool (aQ is' R7)))) ⟨hp,g,d,tk,os⟩) _;case turn=>rintro⟨y,x⟩rest b s'⟨hb',rfl,xs,ys,is',R7,hz,h1,h2,h3,hR⟩;cases h1 with|nil=>cases hz|cons p t h1=>cases h2 with|nil=>cases hz|cons q u h2=>
       injection hz with hyx hrest;cases hyx;refine wpAny_bind (wpAny_eqBool_int ?_);by_cases e:p=q;.subst e;rw[beq_self_eq_true];wp_walk;exact⟨rfl,rfl,_,_,_,_,hrest,h1,h2,by rw[h3];simp,by simpa[aQ]using hR⟩
       . rw[beq_eq_false_iff_ne.mpr e];have hR':R (.ok (.ret (.bool (decide (p<q))))) ⟨hp,g,d,tk,os⟩:=by simpa[aQ,e]using hR
         simp only[Bool.not_false,if_true];refine wpAny_bind (wpAny_rule ?_);refine wpAny_bind (show wpAny (model prog w) A.in1 (compareOp .Lt (Value.int p t) (Value.int q u)) _ _ _ from wpAny_lt_int ?_);refine wpAny_bind (wpAny_pure ?_);exact wpAny_pure (wpAny_pure ⟨_,rfl,hR'⟩)
  case fin=>
   rintro⟨b1,b2⟩s'⟨hb',rfl,xs,ys,is',R7,hz,h1,h2,h3,hR⟩;simp only at hb';subst hb';have e:aQ is' R7=decide (items.length<items2.length):=by rw[h3];cases h1 with|nil=>cases h2<;>simp[aQ]|cons _ _ _=>cases h2 with|nil=>simp[aQ]|cons _ _ _=>cases hz
   rw[e]at hR;wp_walk;exact⟨_,rfl,by simpa[Builtin.Tuple.tupleCompareSizes]using hR⟩
  case h=>exact⟨rfl,rfl,items,items2,is,js,by simp,hi,hj,by rw[IntsAre.length hi,IntsAre.length hj],h⟩
section
variable{X:Cx}
theorem nZ(hu:X.A.units+8<cLine):dR X (compareOp .Lt) (rD X.K (mG .lt)):=by rintro pins s σ H x y v u Q I rx ry⟨F,d,e,r,sm,px,py,he,k⟩;obtain⟨t,e1,e2⟩:=map_some (show(Vz d e).map _=some r from he);subst e2;cases d with
 |int i=>cases e with|int j=>exact Lz pins s σ H x y v u Q I rx ry ⟨F,.int i,.int j,_,sm,px,py,by have e2:Fy (fun i j=>decide (i<j)) (.int i) (.int j)=some t:=e1;simp only[e2];rfl,k⟩|_=>cases e1
 |tup xs=>cases e with|tup ys=>obtain⟨hc,e1⟩:=bB (show(if(xs.all cT&&ys.all cT)=true then some (aQ (xs.map gR) (ys.map gR))else none)=some t from e1);rw[Bool.and_eq_true]at hc;obtain⟨a,vs,rfl,h1,h2,_⟩:=px.tup sm;obtain⟨b,ws,rfl,h3,h4,_⟩:=py.tup sm;cases rx;cases ry;obtain⟨its,rv,it,_⟩:=I.tuple h1;obtain⟨its2,FZ,it2,_⟩:=I.tuple h3;rw[all_ints hc.1]at h2;rw[all_ints hc.2]at h4;rw[fY h2]at rv;rw[fY h4]at FZ;have i1:=intsAre_of rv;have i2:=intsAre_of FZ;obtain⟨⟨cls,dd,data,sl⟩,ho,hc1,n,hd⟩:=it;obtain⟨⟨cls2,dd2,data2,sl2⟩,ho2,hc2,n2,hd2⟩:=it2;simp only at hc1 hd hc2 hd2;subst hc1 hd hc2 hd2;refine(show wpAny (model X.prog X.w) X.A (richCompare .Lt (.ref a) (.ref b)) _ _ s from richCompare_meets_room (op:=.Lt) ⟨_,ho,rfl⟩ ⟨_,ho2,rfl⟩ PySem.F.slot_tuple_lt PySem.F.entry_tuple_lt (PySem.F.args_tuple_lt_2 _ _) (o5 a b its its2 n n2 dd dd2 sl sl2 _ _ i1 i2) ⟨ho,ho2,show Value.bool _≠Value.notImplemented/\_ from⟨(fun x=>nomatch x),⟨.bl t,H,I,by rw[<-e1];rfl,cA.dN sm (fK _) k⟩⟩⟩ (by omega))|_=>cases e1
 |_=>cases e1
end
end HH
end
section
namespace HH
open PySem L2 PySem.Spec PyProof.Rows
section
variable{X:Cx}{c:Call}{n:Nat}{W:Nat->Hp->Prop}{e:Expr}{p:P}{body:List Stmt}{ss:List S}{pos:Pos}
theorem Gw(hp:PassesOwn (model X.prog X.w) X.A X.env X.xe)(ht:ST X c e p)(hb:SB X c n body ss)(hbx:Jf X c n W body ss):Q7 X c n W (.While e body [] pos) (.whl p ss):=by refine dZ (uT hp ht (Bt hb hbx)) ?_;rintro D σ H⟨F,ρ,k,ρ',g0,e,q⟩;rw[Fz]at e;refine⟨fun m σi Hi=>∃Fi ρi,bC X.K F ρ σ H Fi ρi σi Hi/\wj (ie (HH.ev c p)) (dw c n ss) (iJ c n ss) m ρi=some (k,ρ'),⟨n,F,ρ,.refl g0,e⟩,?_⟩;rintro m σi Hi⟨Fi,ρi,si,ei⟩;cases m with|zero=>rw[wj]at ei;cases ei|succ m=>rw[wj]at ei;cases et:ie (HH.ev c p) ρi with|stuck=>rw[et]at ei;cases ei|exc _ _=>rw[et]at ei;cases ei|ok b ρ1=>rw[et]at ei;refine⟨Fi,ρi,b,ρ1,si.gs,et,fun F1 H1 s1=>?_⟩;have s2:=si.trans s1;cases b with|false=>cases ei|true=>dsimp only at ei;rw[if_pos rfl];refine⟨fun σ' H'=>∃m',m'<m+1/\∃Fi ρi,bC X.K F ρ σ H Fi ρi σ' H'/\wj (ie (HH.ev c p)) (dw c n ss) (iJ c n ss) m' ρi=some (k,ρ'),fun σ' H' z=>z,?_⟩;cases Qq:iJ c n ss ρ1 with|some y=>rw[Qq]at ei;cases ei;exact .inr ⟨F1,ρ1,k,ρ',s2.gs,Qq,fun F4 σ4 H4 s4=>q F4 σ4 H4 (s2.trans s4)⟩|none=>rw[Qq]at ei;dsimp only at ei;cases eb:dw c n ss ρ1 with|stuck=>rw[eb]at ei;cases ei|exc _ _=>rw[eb]at ei;cases ei|ok flb ρc=>rw[eb]at ei;refine .inl ⟨F1,ρ1,flb,ρc,s2.gs,eb,fun F4 σ4 H4 s4=>?_⟩;have s5:=s2.trans s4;cases flb with|next=>exact⟨m,by omega,F4,ρc,s5,ei⟩|cont=>exact⟨m,by omega,F4,ρc,s5,ei⟩|brk=>cases ei|ret r=>cases ei
end
end HH
end
section
namespace HH
open PySem L2 PySem.Spec PyProof.Rows PySem.Calls PySem.W
noncomputable def iu(h:Heap)(u:Value)(d:D):Prop:=∃a c n tk its is,u=.ref a/\IsTup h a #[.int n tk,.ref c]/\IsTup h c (List.toArray its)/\IntsAre its is/\bD d=n::is
theorem jD{h h':Heap}(k:∀b o,h.get? b=some o->h'.get? b=some o){u:Value}{d:D}(t:iu h u d):iu h' u d:=by obtain⟨a,c,n,tk,its,is,e,⟨o,h1,h2⟩,⟨o',g1,g2⟩,h3⟩:=t;exact⟨a,c,n,tk,its,is,e,⟨o,k _ _ h1,h2⟩,⟨o',k _ _ g1,g2⟩,h3⟩
theorem pF{h h':Heap}(k:∀b o,h.get? b=some o->h'.get? b=some o):∀{us:List Value}{ds:List D},Paired (iu h) us ds->Paired (iu h') us ds|_,_,.nil=>.nil|_,_,.cons r t=>.cons (jD k r) (pF k t)
theorem kZ{h:Heap}:∀{us:List Value}{ds:List D},Paired (iu h) us ds->∃fs,KatTups h us fs/\fs.length=us.length/\∀f∈fs,∃n t,f=Value.int n t
 |_,_,.nil=>⟨[],trivial,rfl,by simp⟩|_,_,.cons r t=>by
   obtain⟨fs,h1,h2,h3⟩:=kZ t;obtain⟨a,c,n,tk,its,is,rfl,⟨o,o1,o2,k,o3⟩,_,_,_⟩:=r;refine⟨.int n tk::fs,KatTups.cons o1 o2 o3 (by simp) h1,by simp[h2],fun f hf=>?_⟩;rcases List.mem_cons.mp hf with rfl|hf;.exact⟨_,_,rfl⟩
   .exact h3 f hf
theorem Eh{h:Heap}(u:Value)(d e:D):iu h u d->iu h u e->bD d=bD e:=fun⟨a,c,n,tk,its,is,h1,⟨o,o1,o2,k,o3⟩,⟨q,q1,q2,k',q3⟩,h3,h4⟩⟨b,c',n',tk',jts,js,g1,⟨o',p1,p2,l,p3⟩,⟨q',r1,r2,l',r3⟩,g3,g4⟩=>by rw[h1]at g1;cases g1;rw[o1]at p1;cases p1;rw[o3]at p3;cases p3;rw[q1]at r1;cases r1;rw[q3]at r3;cases r3;rw[h4,g4,Ef h3 g3]
theorem iw{prog:Program}{w:World}:∀{its:List Value}{is:List Int},IntsAre its is->ItemsAre (intKind prog w) is its|_,_,.nil=>.nil|_,_,.cons n t r=>.cons (by show _=true;simp[intKind,Value.isInt]) (iw r)
section
variable{prog:Program}{w:World}{A:Around}{E:Value->Shared->Prop}{s:Shared}{vs:List Value}
theorem wF{ds:List D}(t:Paired (iu s.heap) vs ds)(h2:2<=vs.length){C:SortKind->Shared->Prop}(hC:C (tuples' (Value.type "int"!=Value.type "tuple")) s):wpAny (model prog w) A (keyKind' vs.toArray) C E s:=by obtain⟨fs,h1,h3,h4⟩:=kZ t;refine kat_kind (T:=.type "int") h1 (by omega) (fun v hv=>?_) rfl hC;obtain⟨n,t,rfl⟩:=h4 v hv;exact Looks.now
theorem Jr{x y:Value}{d e:D}(hu:A.units+4<cLine)(hx:iu s.heap x d)(hy:iu s.heap y e){b:Bool}{C:Bool->Shared->Prop}(hC:C (aQ (bD d) (bD e)) s):wpAny (model prog w) A (keyLt' (tuples' b) x y) C E s:=by
 obtain⟨a,c,n,tk,its,is,rfl,⟨o,o1,o2,k,o3⟩,t1,hi,e1⟩:=hx;obtain⟨a',c',n',tk',its',js,rfl,⟨o',p1,p2,k',p3⟩,t2,hj,e2⟩:=hy;refine kat_lt o1 o3 p1 p3 ?_;rw[e1,e2]at hC;show KatLex prog w A b (decide (2<2)) C [(.int n tk,.int n' tk'),(.ref c,.ref c')] 0 s;refine kat_cons (wpAny_eqBool_int ?_);by_cases q:n=n'
 . subst q;rw[beq_self_eq_true];refine kat_yes (kat_cons ?_);obtain⟨⟨cls,dd,data,sl⟩,ho,hc1,m1,hd⟩:=t1;obtain⟨⟨cls2,dd2,data2,sl2⟩,ho2,hc2,m2,hd2⟩:=t2;simp only at hc1 hd hc2 hd2;subst hc1 hd hc2 hd2;refine wpAny_eqBool_tuple (knd:=intKind prog w) (by omega) ⟨_,_,_,ho,rfl,rfl,by simpa using iw hi⟩ ⟨_,_,_,ho2,rfl,rfl,by simpa using iw hj⟩ ?_;by_cases z:is=js;.subst z;rw[decide_eq_true rfl];refine kat_yes (kat_nil ?_);have:aQ (n::is) (n::is)=false:=xY _;rw[this]at hC;exact hC
   . rw[decide_eq_false z];refine kat_no ?_;have hb:(b&&(0+1==0))=false:=by cases b<;>rfl
     rw[hb];have hx:aQ (n::is) (n::js)=aQ is js:=by simp[aQ]
     rw[hx]at hC;refine kat_one _ _ ?_;exact(show wpAny (model prog w) A (richCompare .Lt (.ref c) (.ref c')) _ _ s from richCompare_meets_room (op:=.Lt) ⟨_,ho,rfl⟩ ⟨_,ho2,rfl⟩ PySem.F.slot_tuple_lt PySem.F.entry_tuple_lt (PySem.F.args_tuple_lt_2 _ _) (o5 c c' its its' m1 m2 dd dd2 sl sl2 _ _ hi hj) ⟨ho,ho2,show Value.bool _≠Value.notImplemented/\_ from⟨(fun x=>nomatch x),hC⟩⟩ (by omega))
 . rw[beq_eq_false_iff_ne.mpr q];refine kat_no ?_;have hx:aQ (n::is) (n'::js)=decide (n<n'):=by simp[aQ,q]
   rw[hx]at hC;cases(b&&0==0)with|true=>exact oneLt_int hC|false=>exact kat_one _ _ (wpAny_lt_int hC)
end
section
variable{X:Cx}{c:Call}{a:Expr}{pa:P}{pos:Pos}
theorem oZ{d:D}(h:oF d=true):∃n ws,d=.tup [.int n,.tup ws]/\ws.all cT=true:=by
 cases d<;>first|(simp[oF]at h;done)|skip
 rename_i xs;match xs,h with|[.int n,.tup ws],h=>exact⟨n,ws,rfl,h⟩
theorem qD{pins:List (Addr×Obj)}{σ:L2.St}{F H:Hp}{s:Shared}(I:L2.Inv X pins σ H s)(sm:aF F H):∀{ds:List D}{ys:List V}{us:List Value},aB X.K F ys ds->Vals ys us->ds.all oF=true->Paired (iu s.heap) us (ds.map pX)|[],ys,us,h,v,_=>by rw[h.dI]at v;cases v;exact .nil|d::ds,ys,us,h,v,o=>by obtain⟨y,r,rfl,h1,h2⟩:=h.bG;simp only[List.all_cons,Bool.and_eq_true]at o;cases v with|cons v1 v2=>
     refine .cons ?_ (qD I sm h2 v2 o.2);obtain⟨n,ws,rfl,hw⟩:=oZ o.1;obtain⟨ad,zs,rfl,hq,rs,_⟩:=bW.tup sm (.inl h1);cases v1;obtain⟨its,rv,it,_⟩:=I.tuple hq;obtain⟨z1,r1,rfl,g1,rs⟩:=rs.bG;obtain⟨z2,r2,rfl,g2,rs⟩:=rs.bG;have:=rs.dI;subst this;obtain⟨bd,ws2,rfl,hq2,XX,_⟩:=bW.tup sm (.inl g2);have ez:z1=.int n:=by have:=fY (ns:=[n]) (.cons g1 .nil);cases this;rfl
     subst ez;cases rv with|cons w1 rv=>cases rv with|cons w2 rv=>cases rv with|nil=>obtain⟨t,rfl⟩:=w1;cases w2;obtain⟨its2,FZ,it2,_⟩:=I.tuple hq2;rw[all_ints hw]at XX;rw[fY XX]at FZ;refine⟨ad,bd,n,t,its2,ws.map gR,rfl,it,it2,intsAre_of FZ,?_⟩;show bD (.tup (.int n::ws))=_;rfl
theorem Tz{d:D}(h:oF d=true):zK (pX d)=d:=by obtain⟨n,ws,rfl,_⟩:=oZ h;rfl
theorem SN{ds:List D}(hl:ds.length<=16777216)(h:ds.all oF=true):sortable (ds.map pX)=true:=by
 have:(ds.map pX).all p8=true:=by rw[List.all_eq_true]at h ⊢;intro x hx;obtain⟨d,hd,rfl⟩:=List.mem_map.mp hx;obtain⟨n,ws,rfl,hw⟩:=oZ (h d hd);show((D.int n)::ws).all cT=true;rw[List.all_cons,hw];rfl
 simp only[sortable,List.length_map,this,Bool.or_true,Bool.and_true,decide_eq_true_eq];omega
theorem Ib{p:List Nat}{ds:List D}(h:ds.all oF=true):(pick .non p (ds.map pX)).map zK=pick .non p ds:=by
 unfold pick;rw[List.map_map];refine List.map_congr_left fun i _=>?_;show zK ((ds.map pX).getD i .non)=ds.getD i .non;by_cases hi:i<ds.length
 . have e1:(ds.map pX).getD i .non=pX ds[i]:=by simp[hi]
   have e2:ds.getD i .non=ds[i]:=by simp[hi]
   rw[e1,e2];exact Tz (List.all_eq_true.mp h _ (List.getElem_mem hi))
 . have e1:(ds.map pX).getD i .non=.non:=by simp[Nat.le_of_not_lt hi]
   have e2:ds.getD i .non=.non:=by simp[Nat.le_of_not_lt hi]
   rw[e1,e2];rfl
theorem Hh(hu:X.A.units+8<cLine):di X (.builtin "sorted") (O8 X.K fun x=>blt .vM [x]):=by
 rintro pins s σ H xs us Q I r⟨x,hx,F,d,r',sm,px,he,k⟩;have zz:=dJ (show(jG d).bind (fun ds=>if ds.length<=16777216/\ds.all oF=true then some (.own ((lH (ds.map pX)).map zK))else none)=some r' from he);clear he;obtain⟨ds,e2,he⟩:=zz
 cases d with|lst ds'=>
   cases e2;obtain⟨p,ys,rfl,hq,rs⟩:=px.lst sm;subst hx;obtain⟨u,rfl,rx⟩:=r.one;cases rx;obtain⟨its,rv,pl,hz⟩:=I.list hq;obtain⟨⟨h1,h2⟩,he⟩:=bB he;subst he;have so:=SN h1 h2;have hl:its.length=ds.length:=by rw[<-rv.length,rs.length]
   have tt:=qD I sm rs rv h2;refine uf (vs:=its) (κ:=tuples' (Value.type "int"!=Value.type "tuple")) pl.isList so (by omega) tt Eh (fun h' kp C hC h2=>wF (s:={s with heap:=h'}) (pF kp tt) h2 hC) (fun h' kp u v d e hd he C hC=>?_) fun h' c p kp p1 p2 e=>?_;.exact Jr (s:={s with heap:=h'}) (by show X.A.units+1+1+4<cLine;omega) (jD kp hd) (jD kp he) hC
   . refine⟨.ref (s.heap.objs.size+1),_,I.laid (t':=s.toks) (o:=.lst (pick .non p ys)) (h':=h') kp (Nat.le_succ _) ⟨by rw[oK p1,<-rv.length];exact hz,pick .none p its,c,Bs rv,e⟩,rfl,?_⟩;have XX:aB X.K F (pick .non p ys) ((lH (ds.map pX)).map zK):=by rw[<-p2,Ib h2];exact Bp rs
     exact wQ sm XX (I.hok.fresh (Nat.le_succ _)) k|_=>cases e2
theorem Cw{x:Str}{p':Pos}(hx:x="sorted")(hu:X.A.units+8<cLine)(hg:Gl X x)(hm:X.mg x=none)(ha:SX X c a pa)(hs:starEach [a] X.env=(false,eval a X.env)::starEach [] X.env:=by rfl):SX X c (.Call (.Name x p') [a] [] pos) (.blt .vM [pa]):=by subst hx;exact qx (fun h=>cW (Hh hu) hg hm boot_sorted h (he:=hs)) ha (fun ρ=>by rw[HH.ev]) rfl hs
end
end HH
end
section
set_option maxHeartbeats 4000000
namespace T
open PySem L2 PySem.Spec PyProof.Rows HH
theorem hc:true=true:=rfl
theorem oi{α:Type}{a:α}{p:Prop}:a=a\/p:=.inl rfl
theorem bT{X:Cx}{c:Call}{a:Expr}{es:List Expr}{pa:P}{ps:List P}(ha:SX X c a pa)(hr:SG X c es ps)(h:YD a=true):SG X c (a::es) (pa::ps):=Ii ha hr (bj h)
theorem eF{X:Cx}{c:Call}{a:Expr}{es:List Expr}{pa:P}{ps:List P}(ha:SX X c a pa)(hr:SA X c es ps)(h:YD a=true):SA X c (a::es) (pa::ps):=mY ha hr (bj h)
variable{Pg:Program}{w:World}{K:PySem.W.Frag}{mg:Str->Option Value}{base:Heap}{f:Addr}{fd:FuncData}{k n:Nat}{c:Call}{cl:Nat->Addr}
noncomputable def top(i:Nat):Stmt:=PySem.Challenge.pw_hourhaul_k08_soonest_walks.main.body.getD i (.Pass ⟨0,0,0,0⟩)
noncomputable abbrev s0:=top 8
noncomputable def b0:List S:=[.ret (.comp (.XD (.idx (.var 0) (.con (.int 1)))) 2 [2,3] false (some (.cmp .eq (.idx (.var 3) (.con (.int 0))) (.var 1))) (.var 2))]
noncomputable def f0:Fd:=⟨2,2,b0⟩
theorem sc0:bz ["net","place"] ["net","place"] (aC s0):=⟨rfl,rfl,rfl,by decide+kernel,rfl,by decide+kernel,by decide+kernel⟩
include cl in
theorem d0(Fu:lK K "ways_out" "ways_out" s0 f fd)(iT:mg "enumerate"=none):cJ Pg w K mg base mV (k+1) f fd ["net","place"] (nW K 2 (fun args=>enter c n f0 args)):=by
 refine eV Fu sc0 rfl rfl fun cdv A outer s H E hr=>?_;have nd:=sc0.nd;refine ak ?_ ?_;. (with_reducible refine bL ?_);exact fO (N':=["net","place","number","way"]) hc (Io rfl (by rfl)) (OD rfl (by rfl) iT (aq (sv 0) aj)) (fun _ _ _ _ _=>tM hc (cM (bQ (i:=2) (show(["net","place","number","way"]:List Str).Nodup by decide+kernel) rfl (Or.inl rfl) (Or.inr rfl)) (cM (bQ (i:=3) (show(["net","place","number","way"]:List Str).Nodup by decide+kernel) rfl (Or.inl rfl) (Or.inr rfl)) nH))) (tu rfl (fu (show 2<=2 by decide) (fu (show 2<=3 by decide) sE))) (fun _ _ _ _ _=>jk (bf (fU (bH hr)) (aq (sv 3) aj) (sv 1) (aP _))) (fun _ _ _ _ _=>(sv 2))
 exact az
noncomputable abbrev s1:=top 9
noncomputable def b1:List S:=[.asg 1 (.bin .sub (.idx (.var 0) (.con (.int 0))) (.con (.int 1))),.asg 2 (.comp (.idx (.var 0) (.con (.int 1))) 1 [3] true none (.tup [.bin .sub (.var 1) (.idx (.var 3) (.con (.int 1))),.bin .sub (.var 1) (.idx (.var 3) (.con (.int 0))),.idx (.var 3) (.con (.int 2)),.idx (.var 3) (.con (.int 3))])),.ret (.tup [.idx (.var 0) (.con (.int 0)),.blt .tuple [.var 2]])]
noncomputable def f1:Fd:=⟨1,3,b1⟩
theorem sc1:bz ["net","end","ways"] ["net"] (aC s1):=⟨rfl,rfl,rfl,by decide+kernel,rfl,by decide+kernel,by decide+kernel⟩
include cl in
theorem d1(Fu:lK K "turned_net" "turned_net" s1 f fd)(aX:mg "tuple"=none):cJ Pg w K mg base mV (k+1) f fd ["net"] (nW K 1 (fun args=>enter c n f1 args)):=by
 refine eV Fu sc1 rfl rfl fun cdv A outer s H E hr=>?_;have nd:=sc1.nd;refine ak ?_ ?_;. (with_reducible refine aD (i:=1) ?_ ?_ ?_ ?_ ?_ ?_);exact nd;exact rfl;exact Or.inr rfl;rotate_left;rfl;exact oi;exact aA dh (aq (sv 0) aj) aj
 with_reducible refine ak ?_ ?_
 .exact(Hg (i:=2) (N':=["net","end","ways","way"]) hc nd rfl (Or.inl rfl) (Io rfl (by rfl)) (gD (aq (sv 0) aj)) (fun _ _ _ _ _=>bQ (i:=3) (show(["net","end","ways","way"]:List Str).Nodup by decide+kernel) rfl (Or.inl rfl) (Or.inr rfl)) (fX (Nat.le_refl _)) (fun _ _ _ _ _=>tH) (fun _ _ _ _ _=>(cY (eF (aA dh (sv 1) (aq (sv 3) aj)) (eF (aA dh (sv 1) (aq (sv 3) aj)) (eF (aq (sv 3) aj) (eF (aq (sv 3) aj) aN rfl) rfl) rfl) rfl))) (by rfl) (by intro _;rfl) (Or.inl rfl))
 with_reducible refine ak ?_ ?_
 . (with_reducible refine bL ?_);exact cY (eF (aq (sv 0) aj) (eF (iD rfl (by rfl) aX (sv 2)) aN rfl) rfl)
 exact az
noncomputable abbrev s2:=top 11
noncomputable def b2:List S:=[.asg 2 (.bin .mul (.lst [.con .non]) (.idx (.var 0) (.con (.int 0)))),.Am 2 (.var 1) (.con (.int 0)),.asg 3 (.con (.bl true)),.whl (.var 3) [.asg 3 (.con (.bl false)),.pR (.idx (.var 0) (.con (.int 1))) [4] true [.ifs (.and (.cmp .gt (.idx (.var 4) (.con (.int 2))) (.con (.int 0))) (.cmp .Ey (.idx (.var 2) (.idx (.var 4) (.con (.int 0)))) (.con .non))) [.asg 5 (.bin .add (.idx (.var 2) (.idx (.var 4) (.con (.int 0)))) (.idx (.var 4) (.con (.int 3)))),.ifs (.or (.cmp .Qf (.idx (.var 2) (.idx (.var 4) (.con (.int 1)))) (.con .non)) (.cmp .lt (.var 5) (.idx (.var 2) (.idx (.var 4) (.con (.int 1)))))) [.Am 2 (.idx (.var 4) (.con (.int 1))) (.var 5),.asg 3 (.con (.bl true))] []] []]],.ret (.var 2)]
noncomputable def f2:Fd:=⟨2,6,b2⟩
theorem sc2:bz ["net","start","hours","changed","way","come"] ["net","start"] (aC s2):=⟨rfl,rfl,rfl,by decide+kernel,rfl,by decide+kernel,by decide+kernel⟩
include cl in
theorem d2(Fu:lK K "hours_from" "hours_from" s2 f fd):cJ Pg w K mg base mV (k+1) f fd ["net","start"] (nW K 2 (fun args=>enter c n f2 args)):=by
 refine eV Fu sc2 rfl rfl fun cdv A outer s H E hr=>?_;have nd:=sc2.nd;refine ak ?_ ?_;. (with_reducible refine aD (i:=2) ?_ ?_ ?_ ?_ ?_ ?_);exact nd;exact rfl;exact oi;rotate_left;rfl;exact oi;exact aA gV (cC (eF fj aN rfl)) (aq (sv 0) aj)
 with_reducible refine ak ?_ ?_
 .exact(m8 (k:=2) rfl (by first|exact Or.inl rfl|exact Or.inr (Or.inl rfl)) (sv 1) aj)
 with_reducible refine ak ?_ ?_
 . (with_reducible refine aD (i:=3) ?_ ?_ ?_ ?_ ?_ ?_);exact nd;exact rfl;exact oi;rotate_left;rfl;exact oi;exact qm
 with_reducible refine ak ?_ ?_
 .exact(sI PassesOwn.never (il (sv 3)) (by(with_reducible refine ak ?_ ?_);(·(with_reducible refine aD (i:=3) ?_ ?_ ?_ ?_ ?_ ?_);exact nd;exact rfl;exact oi;rotate_left;rfl;exact oi;exact qm);(·(with_reducible refine ak ?_ ?_);(·(with_reducible refine gF (i:=4) ?_ ?_ ?_ ?_ ?_ ?_ ?_ ?_ ?_);exact PassesOwn.never;exact hc;exact nd;exact rfl;exact oi;exact gD (aq (sv 0) aj);(·(with_reducible refine ak ?_ ?_);(·(with_reducible refine dj ?_ ?_ ?_);exact SW.st (o4 (bf qX (aq (sv 4) aj) aj (aP _)) (m6 (bf xU (aq (sv 2) (aq (sv 4) aj)) fj (aP _))));(·(with_reducible refine ak ?_ ?_);(·(with_reducible refine aD (i:=5) ?_ ?_ ?_ ?_ ?_ ?_);exact nd;exact rfl;exact oi;rotate_left;rfl;exact oi;exact aA bu (aq (sv 2) (aq (sv 4) aj)) (aq (sv 4) aj));(·(with_reducible refine ak ?_ ?_);(·(with_reducible refine dj ?_ ?_ ?_);exact SW.st (JM (bf lX (aq (sv 2) (aq (sv 4) aj)) fj (aP _)) (BP (bf (nZ (bH hr)) (sv 5) (aq (sv 2) (aq (sv 4) aj)) (aP _))));(·(with_reducible refine ak ?_ ?_);exact m8 (k:=2) rfl (by first|exact Or.inl rfl|exact Or.inr (Or.inl rfl)) (aq (sv 4) aj) (sv 5);(·(with_reducible refine ak ?_ ?_);(·(with_reducible refine aD (i:=3) ?_ ?_ ?_ ?_ ?_ ?_);exact nd;exact rfl;exact oi;rotate_left;rfl;exact oi;exact qm);exact az));exact az);exact az));exact az);exact az);(· intro _;rfl);exact oi);exact az)))
 with_reducible refine ak ?_ ?_
 . (with_reducible refine bL ?_);exact sv 2
 exact az
noncomputable abbrev s3:=top 12
noncomputable def b3:List S:=[.ret (.blt .Jw [.call 2 [.call 1 [.var 0],.bin .sub (.bin .sub (.idx (.var 0) (.con (.int 0))) (.con (.int 1))) (.var 1)]])]
noncomputable def f3:Fd:=⟨2,2,b3⟩
theorem W9:bz ["net","place"] ["net","place"] (aC s3):=⟨rfl,rfl,rfl,by decide+kernel,rfl,by decide+kernel,by decide+kernel⟩
include cl in
theorem d3(Fu:lK K "hours_to" "hours_to" s3 f fd)(dC:mg "list"=none)(dD:mg "reversed"=none)(gW:aL Pg w K mg base k c 2 "hours_from" 2)(gY:aL Pg w K mg base k c 1 "turned_net" 1):cJ Pg w K mg base mV (k+1) f fd ["net","place"] (nW K 2 (fun args=>enter c n f3 args)):=by
 refine eV Fu W9 rfl rfl fun cdv A outer s H E hr=>?_;have nd:=W9.nd;refine ak ?_ ?_;. (with_reducible refine bL ?_);exact pH rfl rfl hc (by rfl) dC (by rfl) dD (fV gW hr (bT (fV gY hr (bT (sv 0) aK rfl)) (bT (aA dh (aA dh (aq (sv 0) aj) aj) (sv 1)) aK rfl) rfl))
 exact az
include cl in
theorem dx3(Fu:lK K "hours_to" "hours_to" s3 f fd)(dC:mg "list"=none)(dD:mg "reversed"=none)(gW:aL Pg w K mg base k c 2 "hours_from" 2)(gY:aL Pg w K mg base k c 1 "turned_net" 1):cJ Pg w K mg base (yg Pg w) (k+1) f fd ["net","place"] (Rx K cl 2 (fun args=>enter c n f3 args)):=by
 refine Dk Fu W9 rfl rfl fun cdv A outer s H E W hr hW=>?_;have nd:=W9.nd;have hX:zb (lz (yg Pg w) Pg w K mg base ["net","place"] "hours_to" (aC s3) f cdv A outer s H E) E:=uP;refine bM ?_ ?_ ?_;. (with_reducible refine bL ?_);exact pH rfl rfl hc (by rfl) dC (by rfl) dD (fV gW hr (bT (fV gY hr (bT (sv 0) aK rfl)) (bT (aA dh (aA dh (aq (sv 0) aj) aj) (sv 1)) aK rfl) rfl))
 .exact eO
 exact fJ
noncomputable abbrev s4:=top 13
noncomputable def b4:List S:=[.ret (.and (.cmp .gt (.idx (.var 0) (.con (.int 2))) (.con (.int 0))) (.and (.cmp .Ey (.idx (.var 1) (.idx (.var 0) (.con (.int 1)))) (.con .non)) (.cmp .eq (.bin .add (.idx (.var 0) (.con (.int 3))) (.idx (.var 1) (.idx (.var 0) (.con (.int 1))))) (.idx (.var 1) (.idx (.var 0) (.con (.int 0)))))))]
noncomputable def f4:Fd:=⟨2,2,b4⟩
theorem sc4:bz ["way","left"] ["way","left"] (aC s4):=⟨rfl,rfl,rfl,by decide+kernel,rfl,by decide+kernel,by decide+kernel⟩
include cl in
theorem d4(Fu:lK K "is_soonest_step" "is_soonest_step" s4 f fd):cJ Pg w K mg base mV (k+1) f fd ["way","left"] (nW K 2 (fun args=>enter c n f4 args)):=by
 refine eV Fu sc4 rfl rfl fun cdv A outer s H E hr=>?_;have nd:=sc4.nd;refine ak ?_ ?_;. (with_reducible refine bL ?_);exact o6 (lZ qX (aq (sv 0) aj) aj (aP _)) (o6 (lZ xU (aq (sv 1) (aq (sv 0) aj)) fj (aP _)) (sr (lZ (fU (bH hr)) (aA bu (aq (sv 0) aj) (aq (sv 1) (aq (sv 0) aj))) (aq (sv 1) (aq (sv 0) aj)) (aP _)))).ev
 exact az
noncomputable abbrev s5:=top 14
noncomputable def b5:List S:=[.ifs (.not (.chain .le .lt (.con (.int 0)) (.var 1) (.idx (.var 0) (.con (.int 0))))) [.xr 4] [],.asg 2 (.call 3 [.var 0,.var 1]),.ifs (.cmp .Qf (.idx (.var 2) (.con (.int 0))) (.con .non)) [.xr 4] [],.asg 3 (.lst []),.asg 4 (.con (.int 0)),.whl (.cmp .ne (.var 4) (.var 1)) [.asg 5 (.blt .Ez [.comp (.call 0 [.var 0,.var 4]) 1 [6] true (some (.call 4 [.idx (.idx (.var 0) (.con (.int 1))) (.var 6),.var 2])) (.var 6)]),.app 3 (.var 5),.asg 4 (.idx (.idx (.idx (.var 0) (.con (.int 1))) (.var 5)) (.con (.int 1)))],.ret (.blt .tuple [.var 3])]
noncomputable def f5:Fd:=⟨2,6,b5⟩
theorem Xq:bz ["net","place","left","walk","here","step"] ["net","place"] (aC s5):=⟨rfl,rfl,rfl,by decide+kernel,rfl,by decide+kernel,by decide+kernel⟩
include cl in
theorem d5(Fu:lK K "soonest_walk" "soonest_walk" s5 f fd)(ig:mg "min"=none)(aX:mg "tuple"=none)(jN:aL Pg w K mg base k c 3 "hours_to" 2)(bR:aL Pg w K mg base k c 4 "is_soonest_step" 2)(fB:aL Pg w K mg base k c 0 "ways_out" 2):cJ Pg w K mg base mV (k+1) f fd ["net","place"] (nW K 2 (fun args=>enter c n f5 args)):=by
 refine eV Fu Xq rfl rfl fun cdv A outer s H E hr=>?_;have nd:=Xq.nd;refine ak ?_ ?_;. (with_reducible refine dj ?_ ?_ ?_);exact pM (o7 wy (nZ (bH hr)) aj (sv 1) (aq (sv 0) aj));(·(with_reducible refine ak ?_ ?_);exact je;exact az);exact az
 with_reducible refine ak ?_ ?_
 . (with_reducible refine aD (i:=2) ?_ ?_ ?_ ?_ ?_ ?_);exact nd;exact rfl;exact Or.inr rfl;rotate_left;rfl;exact oi;exact fV jN hr (bT (sv 0) (bT (sv 1) aK rfl) rfl)
 with_reducible refine ak ?_ ?_
 . (with_reducible refine dj ?_ ?_ ?_);exact bf lX (aq (sv 2) aj) fj (aP _);(·(with_reducible refine ak ?_ ?_);exact je;exact az);exact az
 with_reducible refine ak ?_ ?_
 . (with_reducible refine aD (i:=3) ?_ ?_ ?_ ?_ ?_ ?_);exact nd;exact rfl;exact oi;rotate_left;rfl;exact oi;exact cC aN
 with_reducible refine ak ?_ ?_
 . (with_reducible refine aD (i:=4) ?_ ?_ ?_ ?_ ?_ ?_);exact nd;exact rfl;exact oi;rotate_left;rfl;exact oi;exact aj
 with_reducible refine ak ?_ ?_
 .exact(sI PassesOwn.never (bf (jA (bH hr)) (sv 4) (sv 1) (aP _)) (by(with_reducible refine ak ?_ ?_);(·(with_reducible refine aD (i:=5) ?_ ?_ ?_ ?_ ?_ ?_);exact nd;exact rfl;exact oi;rotate_left;rfl;exact oi;exact mZ rfl hc (by rfl) ig (fO (N':=["net","place","left","walk","here","step","number"]) hc (Io rfl (by rfl)) (gD (fV fB hr (bT (sv 0) (bT (sv 4) aK rfl) rfl))) (fun _ _ _ _ _=>bQ (i:=6) (show(["net","place","left","walk","here","step","number"]:List Str).Nodup by decide+kernel) rfl (Or.inl rfl) (Or.inr rfl)) (fX (Nat.le_refl _)) (fun _ _ _ _ _=>jk (il (fV bR hr (bT (aq (aq (sv 0) aj) (sv 6)) (bT (sv 2) aK rfl) rfl)))) (fun _ _ _ _ _=>(sv 6))));(·(with_reducible refine ak ?_ ?_);exact cD (k:=3) rfl (by first|exact Or.inl rfl|exact Or.inr (Or.inl rfl)) (sv 5);(·(with_reducible refine ak ?_ ?_);(·(with_reducible refine aD (i:=4) ?_ ?_ ?_ ?_ ?_ ?_);exact nd;exact rfl;exact oi;rotate_left;rfl;exact oi;exact aq (aq (aq (sv 0) aj) (sv 5)) aj);exact az))))
 with_reducible refine ak ?_ ?_
 . (with_reducible refine bL ?_);exact iD rfl (by rfl) aX (sv 3)
 exact az
include cl in
theorem dx5(Fu:lK K "soonest_walk" "soonest_walk" s5 f fd)(ig:mg "min"=none)(aX:mg "tuple"=none)(jN:aL Pg w K mg base k c 3 "hours_to" 2)(bR:aL Pg w K mg base k c 4 "is_soonest_step" 2)(fB:aL Pg w K mg base k c 0 "ways_out" 2)(iU:OwnCls "NoWalk" (cl 4) [.type "ValueError",.type "Exception",.type "BaseException",.type "object"] "ValueError.__new__" mg base)(xK:oh Pg w K mg base cl k c 3 "hours_to" 2):cJ Pg w K mg base (yg Pg w) (k+1) f fd ["net","place"] (Rx K cl 2 (fun args=>enter c n f5 args)):=by
 refine Dk Fu Xq rfl rfl fun cdv A outer s H E W hr hW=>?_;have nd:=Xq.nd;have hX:zb (lz (yg Pg w) Pg w K mg base ["net","place","left","walk","here","step"] "soonest_walk" (aC s5) f cdv A outer s H E) E:=uP;refine bM ?_ ?_ ?_;. (with_reducible refine dj ?_ ?_ ?_);exact pM (o7 wy (nZ (bH hr)) aj (sv 1) (aq (sv 0) aj));(·(with_reducible refine ak ?_ ?_);exact je;exact az);exact az
 .exact(Bh (pM (o7 wy (nZ (bH hr)) aj (sv 1) (aq (sv 0) aj))) (bM je (uZ hc rfl (by rfl) iU PySem.F.excBase_ValueError hX (fun H z=>hW 4 H z)) fJ) fJ)
 with_reducible refine bM ?_ ?_ ?_
 . (with_reducible refine aD (i:=2) ?_ ?_ ?_ ?_ ?_ ?_);exact nd;exact rfl;exact Or.inr rfl;rotate_left;rfl;exact oi;exact fV jN hr (bT (sv 0) (bT (sv 1) aK rfl) rfl)
 .exact(yE (i:=2) rfl (O2 hX hW) xK hr nd rfl (Or.inr rfl) (bT (sv 0) (bT (sv 1) aK rfl) rfl))
 with_reducible refine bM ?_ ?_ ?_
 . (with_reducible refine dj ?_ ?_ ?_);exact bf lX (aq (sv 2) aj) fj (aP _);(·(with_reducible refine ak ?_ ?_);exact je;exact az);exact az
 .exact(Bh (bf lX (aq (sv 2) aj) fj (aP _)) (bM je (uZ hc rfl (by rfl) iU PySem.F.excBase_ValueError hX (fun H z=>hW 4 H z)) fJ) fJ)
 with_reducible refine bM ?_ ?_ ?_
 . (with_reducible refine aD (i:=3) ?_ ?_ ?_ ?_ ?_ ?_);exact nd;exact rfl;exact oi;rotate_left;rfl;exact oi;exact cC aN
 .exact(eO (by intro _;rfl))
 with_reducible refine bM ?_ ?_ ?_
 . (with_reducible refine aD (i:=4) ?_ ?_ ?_ ?_ ?_ ?_);exact nd;exact rfl;exact oi;rotate_left;rfl;exact oi;exact aj
 .exact(eO (by intro _;rfl))
 with_reducible refine bM ?_ ?_ ?_
 .exact(sI uJ (bf (jA (bH hr)) (sv 4) (sv 1) (aP _)) (by(with_reducible refine ak ?_ ?_);(·(with_reducible refine aD (i:=5) ?_ ?_ ?_ ?_ ?_ ?_);exact nd;exact rfl;exact oi;rotate_left;rfl;exact oi;exact mZ rfl hc (by rfl) ig (fO (N':=["net","place","left","walk","here","step","number"]) hc (Io rfl (by rfl)) (gD (fV fB hr (bT (sv 0) (bT (sv 4) aK rfl) rfl))) (fun _ _ _ _ _=>bQ (i:=6) (show(["net","place","left","walk","here","step","number"]:List Str).Nodup by decide+kernel) rfl (Or.inl rfl) (Or.inr rfl)) (fX (Nat.le_refl _)) (fun _ _ _ _ _=>jk (il (fV bR hr (bT (aq (aq (sv 0) aj) (sv 6)) (bT (sv 2) aK rfl) rfl)))) (fun _ _ _ _ _=>(sv 6))));(·(with_reducible refine ak ?_ ?_);exact cD (k:=3) rfl (by first|exact Or.inl rfl|exact Or.inr (Or.inl rfl)) (sv 5);(·(with_reducible refine ak ?_ ?_);(·(with_reducible refine aD (i:=4) ?_ ?_ ?_ ?_ ?_ ?_);exact nd;exact rfl;exact oi;rotate_left;rfl;exact oi;exact aq (aq (aq (sv 0) aj) (sv 5)) aj);exact az))))
 .exact(Gw uJ (bf (jA (bH hr)) (sv 4) (sv 1) (aP _)) (by(with_reducible refine ak ?_ ?_);(·(with_reducible refine aD (i:=5) ?_ ?_ ?_ ?_ ?_ ?_);exact nd;exact rfl;exact oi;rotate_left;rfl;exact oi;exact mZ rfl hc (by rfl) ig (fO (N':=["net","place","left","walk","here","step","number"]) hc (Io rfl (by rfl)) (gD (fV fB hr (bT (sv 0) (bT (sv 4) aK rfl) rfl))) (fun _ _ _ _ _=>bQ (i:=6) (show(["net","place","left","walk","here","step","number"]:List Str).Nodup by decide+kernel) rfl (Or.inl rfl) (Or.inr rfl)) (fX (Nat.le_refl _)) (fun _ _ _ _ _=>jk (il (fV bR hr (bT (aq (aq (sv 0) aj) (sv 6)) (bT (sv 2) aK rfl) rfl)))) (fun _ _ _ _ _=>(sv 6))));(·(with_reducible refine ak ?_ ?_);exact cD (k:=3) rfl (by first|exact Or.inl rfl|exact Or.inr (Or.inl rfl)) (sv 5);(·(with_reducible refine ak ?_ ?_);(·(with_reducible refine aD (i:=4) ?_ ?_ ?_ ?_ ?_ ?_);exact nd;exact rfl;exact oi;rotate_left;rfl;exact oi;exact aq (aq (aq (sv 0) aj) (sv 5)) aj);exact az))) (bM (by(with_reducible refine aD (i:=5) ?_ ?_ ?_ ?_ ?_ ?_);exact nd;exact rfl;exact oi;rotate_left;rfl;exact oi;exact mZ rfl hc (by rfl) ig (fO (N':=["net","place","left","walk","here","step","number"]) hc (Io rfl (by rfl)) (gD (fV fB hr (bT (sv 0) (bT (sv 4) aK rfl) rfl))) (fun _ _ _ _ _=>bQ (i:=6) (show(["net","place","left","walk","here","step","number"]:List Str).Nodup by decide+kernel) rfl (Or.inl rfl) (Or.inr rfl)) (fX (Nat.le_refl _)) (fun _ _ _ _ _=>jk (il (fV bR hr (bT (aq (aq (sv 0) aj) (sv 6)) (bT (sv 2) aK rfl) rfl)))) (fun _ _ _ _ _=>(sv 6)))) (eO (by intro _;rfl)) (bM (cD (k:=3) rfl (by first|exact Or.inl rfl|exact Or.inr (Or.inl rfl)) (sv 5)) eO (bM (by(with_reducible refine aD (i:=4) ?_ ?_ ?_ ?_ ?_ ?_);exact nd;exact rfl;exact oi;rotate_left;rfl;exact oi;exact aq (aq (aq (sv 0) aj) (sv 5)) aj) (eO (by intro _;rfl)) fJ))))
 with_reducible refine bM ?_ ?_ ?_
 . (with_reducible refine bL ?_);exact iD rfl (by rfl) aX (sv 3)
 .exact eO
 exact fJ
noncomputable abbrev s6:=top 16
noncomputable def b6:List S:=[.ifs (.cmp .ge (.var 0) (.bin .pow (.con (.int 10)) (.con (.int 18)))) [.ret (.lst [.bin .sub (.var 0) (.bin .pow (.con (.int 10)) (.con (.int 18)))])] [],.asg 1 (.con (.int 0)),.asg 2 (.bin .add (.bin .mod (.var 0) (.con (.int 2147483647))) (.con (.int 16807))),.pR (.yU (.con (.int 0)) (.con (.int 48))) [3] true [.asg 2 (.bin .mod (.bin .add (.bin .add (.bin .mul (.var 2) (.con (.int 48271))) (.bin .mul (.bin .mul (.con (.int 7919)) (.var 3)) (.var 3))) (.con (.int 104729))) (.con (.int 2147483647))),.asg 4 (.bin .mod (.bin .mul (.var 2) (.var 2)) (.con (.int 2147483629))),.asg 1 (.bin .add (.bin .mul (.var 1) (.con (.int 65536))) (.bin .mod (.bin .fdiv (.var 4) (.con (.int 512))) (.con (.int 65536))))],.ret (.lst [.var 1])]
noncomputable def f6:Fd:=⟨1,5,b6⟩
theorem sc6:bz ["cell","number","one","k","two"] ["cell"] (aC s6):=⟨rfl,rfl,rfl,by decide+kernel,rfl,by decide+kernel,by decide+kernel⟩
include cl in
theorem d6(Fu:lK K "_law_pot" "_law_pot" s6 f fd)(bV:mg "range"=none):cJ Pg w K mg base mV (k+1) f fd ["cell"] (nW K 1 (fun args=>enter c n f6 args)):=by
 refine eV Fu sc6 rfl rfl fun cdv A outer s H E hr=>?_;have nd:=sc6.nd;refine ak ?_ ?_;. (with_reducible refine dj ?_ ?_ ?_);exact bf Qa (sv 0) (aA nq aj aj) (aP _);(·(with_reducible refine ak ?_ ?_);(·(with_reducible refine bL ?_);exact cC (eF (aA dh (sv 0) (aA nq aj aj)) aN rfl));exact az);exact az
 with_reducible refine ak ?_ ?_
 . (with_reducible refine aD (i:=1) ?_ ?_ ?_ ?_ ?_ ?_);exact nd;exact rfl;exact oi;rotate_left;rfl;exact oi;exact aj
 with_reducible refine ak ?_ ?_
 . (with_reducible refine aD (i:=2) ?_ ?_ ?_ ?_ ?_ ?_);exact nd;exact rfl;exact oi;rotate_left;rfl;exact oi;exact aA bu (aA dH (sv 0) aj) aj
 with_reducible refine ak ?_ ?_
 . (with_reducible refine gF (i:=3) ?_ ?_ ?_ ?_ ?_ ?_ ?_ ?_ ?_);exact PassesOwn.never;exact hc;exact nd;exact rfl;exact oi;exact nG rfl (by rfl) bV aj;(·(with_reducible refine ak ?_ ?_);(·(with_reducible refine aD (i:=2) ?_ ?_ ?_ ?_ ?_ ?_);exact nd;exact rfl;exact oi;rotate_left;rfl;exact oi;exact aA dH (aA bu (aA bu (aA gV (sv 2) aj) (aA gV (aA gV aj (sv 3)) (sv 3))) aj) aj);(·(with_reducible refine ak ?_ ?_);(·(with_reducible refine aD (i:=4) ?_ ?_ ?_ ?_ ?_ ?_);exact nd;exact rfl;exact oi;rotate_left;rfl;exact oi;exact aA dH (aA gV (sv 2) (sv 2)) aj);(·(with_reducible refine ak ?_ ?_);(·(with_reducible refine aD (i:=1) ?_ ?_ ?_ ?_ ?_ ?_);exact nd;exact rfl;exact oi;rotate_left;rfl;exact oi;exact aA bu (aA gV (sv 1) aj) (aA dH (aA uV (sv 4) aj) aj));exact az)));(· intro _;rfl);exact Or.inl rfl
 with_reducible refine ak ?_ ?_
 . (with_reducible refine bL ?_);exact cC (eF (sv 1) aN rfl)
 exact az
noncomputable abbrev s7:=top 17
noncomputable def b7:List S:=[.asg 2 (.bin .mod (.idx (.var 0) (.con (.int 0))) (.var 1)),.Am 0 (.con (.int 0)) (.bin .fdiv (.idx (.var 0) (.con (.int 0))) (.var 1)),.ret (.var 2)]
noncomputable def f7:Fd:=⟨2,3,b7⟩
theorem sc7:bz ["pot","many","digit"] ["pot","many"] (aC s7):=⟨rfl,rfl,rfl,by decide+kernel,rfl,by decide+kernel,by decide+kernel⟩
include cl in
theorem d7(Fu:lK K "_law_take" "_law_take" s7 f fd):cJ Pg w K mg base mV (k+1) f fd ["pot","many"] (nW K 2 (fun args=>enter c n f7 args)):=by
 refine eV Fu sc7 rfl rfl fun cdv A outer s H E hr=>?_;have nd:=sc7.nd;refine ak ?_ ?_;. (with_reducible refine aD (i:=2) ?_ ?_ ?_ ?_ ?_ ?_);exact nd;exact rfl;exact oi;rotate_left;rfl;exact oi;exact aA dH (aq (sv 0) aj) (sv 1)
 with_reducible refine ak ?_ ?_
 .exact(m8 (k:=0) rfl (by first|exact Or.inl rfl|exact Or.inr (Or.inl rfl)) aj (aA uV (aq (sv 0) aj) (sv 1)))
 with_reducible refine ak ?_ ?_
 . (with_reducible refine bL ?_);exact sv 2
 exact az
noncomputable abbrev s8:=top 18
noncomputable def b8:List S:=[.asg 2 (.call 7 [.var 0,.var 1]),.asg 3 (.bin .mod (.bin .add (.bin .add (.var 2) (.con (.int 1))) (.call 7 [.var 0,.bin .sub (.var 1) (.con (.int 1))])) (.var 1)),.ifs (.and (.cmp .lt (.var 3) (.var 2)) (.cmp .gt (.call 7 [.var 0,.con (.int 3)]) (.con (.int 0)))) [.par 2 3 (.var 3) (.var 2)] [],.asg 4 (.idx (.lst [.con (.int 0),.con (.int 1),.con (.int 2),.con (.int 3),.bin .add (.con (.int 1)) (.call 7 [.var 0,.con (.int 30)]),.bin .sub (.bin .pow (.con (.int 10)) (.con (.int 9))) (.call 7 [.var 0,.con (.int 3)])]) (.blt .min2 [.con (.int 5),.call 7 [.var 0,.con (.int 10)]])),.asg 5 (.idx (.lst [.con (.int 1),.con (.int 1),.con (.int 2),.con (.int 3),.bin .add (.con (.int 1)) (.call 7 [.var 0,.con (.int 30)]),.bin .sub (.bin .pow (.con (.int 10)) (.con (.int 6))) (.call 7 [.var 0,.con (.int 3)])]) (.blt .min2 [.con (.int 5),.call 7 [.var 0,.con (.int 7)]])),.ifs (.cmp .eq (.call 7 [.var 0,.con (.int 2)]) (.con (.int 0))) [.asg 4 (.bin .add (.con (.int 1)) (.call 7 [.var 0,.con (.int 5)]))] [],.ifs (.cmp .eq (.call 7 [.var 0,.con (.int 2)]) (.con (.int 0))) [.asg 5 (.bin .add (.con (.int 1)) (.call 7 [.var 0,.con (.int 5)]))] [],.ret (.tup [.var 2,.var 3,.var 4,.var 5])]
noncomputable def f8:Fd:=⟨2,6,b8⟩
theorem sc8:bz ["pot","many","start","to","room","hours"] ["pot","many"] (aC s8):=⟨rfl,rfl,rfl,by decide+kernel,rfl,by decide+kernel,by decide+kernel⟩
include cl in
theorem d8(Fu:lK K "_law_way" "_law_way" s8 f fd)(ig:mg "min"=none)(aG:aL Pg w K mg base k c 7 "_law_take" 2):cJ Pg w K mg base mV (k+1) f fd ["pot","many"] (nW K 2 (fun args=>enter c n f8 args)):=by
 refine eV Fu sc8 rfl rfl fun cdv A outer s H E hr=>?_;have nd:=sc8.nd;refine ak ?_ ?_;. (with_reducible refine aD (i:=2) ?_ ?_ ?_ ?_ ?_ ?_);exact nd;exact rfl;exact oi;rotate_left;rfl;exact oi;exact fV aG hr (bT (sv 0) (bT (sv 1) aK rfl) rfl)
 with_reducible refine ak ?_ ?_
 . (with_reducible refine aD (i:=3) ?_ ?_ ?_ ?_ ?_ ?_);exact nd;exact rfl;exact oi;rotate_left;rfl;exact oi;exact aA dH (aA bu (aA bu (sv 2) aj) (fV aG hr (bT (sv 0) (bT (aA dh (sv 1) aj) aK rfl) rfl))) (sv 1)
 with_reducible refine ak ?_ ?_
 . (with_reducible refine dj ?_ ?_ ?_);exact SW.st (o4 (bf (nZ (bH hr)) (sv 3) (sv 2) (aP _)) (m6 (bf qX (fV aG hr (bT (sv 0) (bT aj aK rfl) rfl)) aj (aP _))));(·(with_reducible refine ak ?_ ?_);exact Nj (i:=2) (j:=3) hc nd rfl rfl (by decide) rfl rfl (sv 3) (sv 2);exact az);exact az
 with_reducible refine ak ?_ ?_
 . (with_reducible refine aD (i:=4) ?_ ?_ ?_ ?_ ?_ ?_);exact nd;exact rfl;exact oi;rotate_left;rfl;exact oi;exact aq (cC (sJ [0,1,2,3] rfl (eF (aA bu aj (fV aG hr (bT (sv 0) (bT aj aK rfl) rfl))) (eF (aA dh (aA nq aj aj) (fV aG hr (bT (sv 0) (bT aj aK rfl) rfl))) aN rfl) rfl))) (yH rfl hc (by rfl) ig (eF aj (eF (fV aG hr (bT (sv 0) (bT aj aK rfl) rfl)) aN rfl) rfl))
 with_reducible refine ak ?_ ?_
 . (with_reducible refine aD (i:=5) ?_ ?_ ?_ ?_ ?_ ?_);exact nd;exact rfl;exact oi;rotate_left;rfl;exact oi;exact aq (cC (sJ [1,1,2,3] rfl (eF (aA bu aj (fV aG hr (bT (sv 0) (bT aj aK rfl) rfl))) (eF (aA dh (aA nq aj aj) (fV aG hr (bT (sv 0) (bT aj aK rfl) rfl))) aN rfl) rfl))) (yH rfl hc (by rfl) ig (eF aj (eF (fV aG hr (bT (sv 0) (bT aj aK rfl) rfl)) aN rfl) rfl))
 with_reducible refine ak ?_ ?_
 . (with_reducible refine dj ?_ ?_ ?_);exact bf (fU (bH hr)) (fV aG hr (bT (sv 0) (bT aj aK rfl) rfl)) aj (aP _);(·(with_reducible refine ak ?_ ?_);(·(with_reducible refine aD (i:=4) ?_ ?_ ?_ ?_ ?_ ?_);exact nd;exact rfl;exact oi;rotate_left;rfl;exact oi;exact aA bu aj (fV aG hr (bT (sv 0) (bT aj aK rfl) rfl)));exact az);exact az
 with_reducible refine ak ?_ ?_
 . (with_reducible refine dj ?_ ?_ ?_);exact bf (fU (bH hr)) (fV aG hr (bT (sv 0) (bT aj aK rfl) rfl)) aj (aP _);(·(with_reducible refine ak ?_ ?_);(·(with_reducible refine aD (i:=5) ?_ ?_ ?_ ?_ ?_ ?_);exact nd;exact rfl;exact oi;rotate_left;rfl;exact oi;exact aA bu aj (fV aG hr (bT (sv 0) (bT aj aK rfl) rfl)));exact az);exact az
 with_reducible refine ak ?_ ?_
 . (with_reducible refine bL ?_);exact cY (eF (sv 2) (eF (sv 3) (eF (sv 4) (eF (sv 5) aN rfl) rfl) rfl) rfl)
 exact az
noncomputable abbrev s9:=top 19
noncomputable def b9:List S:=[.asg 1 (.bin .add (.con (.int 2)) (.call 7 [.var 0,.con (.int 5)])),.asg 2 (.lst []),.pR (.yU (.con (.int 0)) (.idx (.lst [.call 7 [.var 0,.con (.int 13)],.con (.int 12),.bin .add (.con (.int 4)) (.call 7 [.var 0,.con (.int 6)])]) (.call 7 [.var 0,.con (.int 3)]))) [3] true [.asg 4 (.call 8 [.var 0,.var 1]),.ifs (.and (.cmp .ne (.var 2) (.lst [])) (.cmp .eq (.call 7 [.var 0,.con (.int 8)]) (.con (.int 0)))) [.asg 4 (.idx (.var 2) (.call 7 [.var 0,.blt .len [.var 2]]))] [],.app 2 (.var 4)],.ret (.tup [.var 1,.blt .tuple [.var 2]])]
noncomputable def f9:Fd:=⟨1,5,b9⟩
theorem sc9:bz ["pot","many","ways","k","way"] ["pot"] (aC s9):=⟨rfl,rfl,rfl,by decide+kernel,rfl,by decide+kernel,by decide+kernel⟩
include cl in
theorem d9(Fu:lK K "_law_net" "_law_net" s9 f fd)(gw:mg "len"=none)(bV:mg "range"=none)(aX:mg "tuple"=none)(aG:aL Pg w K mg base k c 7 "_law_take" 2)(xM:aL Pg w K mg base k c 8 "_law_way" 2):cJ Pg w K mg base mV (k+1) f fd ["pot"] (nW K 1 (fun args=>enter c n f9 args)):=by
 refine eV Fu sc9 rfl rfl fun cdv A outer s H E hr=>?_;have nd:=sc9.nd;refine ak ?_ ?_;. (with_reducible refine aD (i:=1) ?_ ?_ ?_ ?_ ?_ ?_);exact nd;exact rfl;exact oi;rotate_left;rfl;exact oi;exact aA bu aj (fV aG hr (bT (sv 0) (bT aj aK rfl) rfl))
 with_reducible refine ak ?_ ?_
 . (with_reducible refine aD (i:=2) ?_ ?_ ?_ ?_ ?_ ?_);exact nd;exact rfl;exact oi;rotate_left;rfl;exact oi;exact cC aN
 with_reducible refine ak ?_ ?_
 . (with_reducible refine gF (i:=3) ?_ ?_ ?_ ?_ ?_ ?_ ?_ ?_ ?_);exact PassesOwn.never;exact hc;exact nd;exact rfl;exact oi;exact nG rfl (by rfl) bV (aq (cC (eF (fV aG hr (bT (sv 0) (bT aj aK rfl) rfl)) (eF aj (eF (aA bu aj (fV aG hr (bT (sv 0) (bT aj aK rfl) rfl))) aN rfl) rfl) rfl)) (fV aG hr (bT (sv 0) (bT aj aK rfl) rfl)));(·(with_reducible refine ak ?_ ?_);(·(with_reducible refine aD (i:=4) ?_ ?_ ?_ ?_ ?_ ?_);exact nd;exact rfl;exact oi;rotate_left;rfl;exact oi;exact fV xM hr (bT (sv 0) (bT (sv 1) aK rfl) rfl));(·(with_reducible refine ak ?_ ?_);(·(with_reducible refine dj ?_ ?_ ?_);exact SW.st (o4 (bf (jA (bH hr)) (sv 2) (cC aN) (aP _)) (m6 (bf (fU (bH hr)) (fV aG hr (bT (sv 0) (bT aj aK rfl) rfl)) aj (aP _))));(·(with_reducible refine ak ?_ ?_);(·(with_reducible refine aD (i:=4) ?_ ?_ ?_ ?_ ?_ ?_);exact nd;exact rfl;exact oi;rotate_left;rfl;exact oi;exact aq (sv 2) (fV aG hr (bT (sv 0) (bT (pg rfl (by rfl) gw (sv 2)) aK rfl) rfl)));exact az);exact az);(·(with_reducible refine ak ?_ ?_);exact cD (k:=2) rfl (by first|exact Or.inl rfl|exact Or.inr (Or.inl rfl)) (sv 4);exact az)));(· intro _;rfl);exact Or.inl rfl
 with_reducible refine ak ?_ ?_
 . (with_reducible refine bL ?_);exact cY (eF (sv 1) (eF (iD rfl (by rfl) aX (sv 2)) aN rfl) rfl)
 exact az
noncomputable abbrev Ui:=top 20
noncomputable def b10:List S:=[.ifs (.inst [.tuple,.list] (.var 1)) [.ifs (.or (.cmp .ne (.inst [.tuple] (.var 0)) (.inst [.tuple] (.var 1))) (.not (.inst [.tuple,.list] (.var 0)))) [.ret (.con (.bl false))] [],.ret (.and (.cmp .eq (.blt .len [.var 0]) (.blt .len [.var 1])) (.blt .all [.comp (.zip (.var 0) (.var 1)) 2 [2,3] false none (.call 10 [.var 2,.var 3])]))] [],.ifs (.cmp .Qf (.var 1) (.con .non)) [.ret (.cmp .Qf (.var 0) (.con .non))] [],.ret (.and (.inst [.int] (.var 0)) (.and (.not (.inst [.bool] (.var 0))) (.cmp .eq (.var 0) (.var 1))))]
noncomputable def Kg:Fd:=⟨2,2,b10⟩
theorem Tf:bz ["found","due"] ["found","due"] (aC Ui):=⟨rfl,rfl,rfl,by decide+kernel,rfl,by decide+kernel,by decide+kernel⟩
include cl in
theorem d10(Fu:lK K "_law_same" "_law_same" Ui f fd)(Fe:mg "all"=none)(xN:mg "bool"=none)(Ff:mg "int"=none)(aO:mg "isinstance"=none)(gw:mg "len"=none)(dC:mg "list"=none)(aX:mg "tuple"=none)(Fg:mg "zip"=none)(iV:aL Pg w K mg base k c 10 "_law_same" 2):cJ Pg w K mg base mV (k+1) f fd ["found","due"] (nW K 2 (fun args=>enter c n Kg args)):=by
 refine eV Fu Tf rfl rfl fun cdv A outer s H E hr=>?_;have nd:=Tf.nd;refine ak ?_ ?_;. (with_reducible refine dj ?_ ?_ ?_);exact il (vD rfl (by rfl) aO (sv 1) (kO .tuple (by rfl) aX (by kernel_rfl) (kO .list (by rfl) dC (by kernel_rfl) yO (by decide) (by rfl)) (by decide) (by rfl)));(·(with_reducible refine ak ?_ ?_);(·(with_reducible refine dj ?_ ?_ ?_);exact SW.st (JM (bf (jA (bH hr)) (jP .tuple rfl (by rfl) aO (sv 0) (by rfl) aX (by kernel_rfl) (by decide) (by rfl)) (jP .tuple rfl (by rfl) aO (sv 1) (by rfl) aX (by kernel_rfl) (by decide) (by rfl)) (aP _)) (BP (pM (il (vD rfl (by rfl) aO (sv 0) (kO .tuple (by rfl) aX (by kernel_rfl) (kO .list (by rfl) dC (by kernel_rfl) yO (by decide) (by rfl)) (by decide) (by rfl)))))));(·(with_reducible refine ak ?_ ?_);(·(with_reducible refine bL ?_);exact qm);exact az);exact az);(·(with_reducible refine ak ?_ ?_);(·(with_reducible refine bL ?_);exact o6 (lZ (fU (bH hr)) (pg rfl (by rfl) gw (sv 0)) (pg rfl (by rfl) gw (sv 1)) (aP _)) (sr (Mj rfl hc (by rfl) Fe (fO (N':=["found","due","one","other"]) hc (Io rfl (by rfl)) (NB rfl (by rfl) Fg (sv 0) (sv 1)) (fun _ _ _ _ _=>tM hc (cM (bQ (i:=2) (show(["found","due","one","other"]:List Str).Nodup by decide+kernel) rfl (Or.inl rfl) (Or.inr rfl)) (cM (bQ (i:=3) (show(["found","due","one","other"]:List Str).Nodup by decide+kernel) rfl (Or.inl rfl) (Or.inr rfl)) nH))) (tu rfl (fu (show 2<=2 by decide) (fu (show 2<=3 by decide) sE))) (fun _ _ _ _ _=>tH) (fun _ _ _ _ _=>(fV iV hr (bT (sv 2) (bT (sv 3) aK rfl) rfl)))))));exact az));exact az
 with_reducible refine ak ?_ ?_
 . (with_reducible refine dj ?_ ?_ ?_);exact bf lX (sv 1) fj (aP _);(·(with_reducible refine ak ?_ ?_);(·(with_reducible refine bL ?_);exact lZ lX (sv 0) fj (aP _));exact az);exact az
 with_reducible refine ak ?_ ?_
 . (with_reducible refine bL ?_);exact o6 (jP .int rfl (by rfl) aO (sv 0) (by rfl) Ff (by kernel_rfl) (by decide) (by rfl)) (o6 (Pz (jP .bool rfl (by rfl) aO (sv 0) (by rfl) xN (by kernel_rfl) (by decide) (by rfl))) (sr (lZ (fU (bH hr)) (sv 0) (sv 1) (aP _)))).ev
 exact az
noncomputable abbrev WL:=top 21
noncomputable def b11:List S:=[.asg 2 (.lst [.tup [.tup [],.var 1,.con (.int 0)]]),.asg 3 (.lst [.tup [.tup [],.lst [.var 1],.con (.int 0)]]),.whl (.cmp .ne (.var 3) (.lst [])) [.unp [4,5,6] (.pop 3),.pR (.yU (.con (.int 0)) (.blt .len [.idx (.var 0) (.con (.int 1))])) [7] true [.asg 8 (.idx (.idx (.var 0) (.con (.int 1))) (.var 7)),.ifs (.and (.cmp .eq (.idx (.var 8) (.con (.int 0))) (.idx (.var 5) (.neg (.con (.int 1))))) (.and (.cmp .gt (.idx (.var 8) (.con (.int 2))) (.con (.int 0))) (.cmp .vL (.idx (.var 8) (.con (.int 1))) (.var 5)))) [.asg 9 (.tup [.bin .add (.var 4) (.tup [.var 7]),.bin .add (.var 5) (.lst [.idx (.var 8) (.con (.int 1))]),.bin .add (.var 6) (.idx (.var 8) (.con (.int 3)))]),.app 3 (.var 9),.app 2 (.tup [.idx (.var 9) (.con (.int 0)),.idx (.var 8) (.con (.int 1)),.idx (.var 9) (.con (.int 2))])] []]],.ret (.var 2)]
noncomputable def f11:Fd:=⟨2,10,b11⟩
theorem TX:bz ["net","start","found","waiting","walk","places","hours","number","way","longer"] ["net","start"] (aC WL):=⟨rfl,rfl,rfl,by decide+kernel,rfl,by decide+kernel,by decide+kernel⟩
include cl in
theorem d11(Fu:lK K "_law_walks" "_law_walks" WL f fd)(gw:mg "len"=none)(bV:mg "range"=none):cJ Pg w K mg base mV (k+1) f fd ["net","start"] (nW K 2 (fun args=>enter c n f11 args)):=by
 refine eV Fu TX rfl rfl fun cdv A outer s H E hr=>?_;have nd:=TX.nd;refine ak ?_ ?_;. (with_reducible refine aD (i:=2) ?_ ?_ ?_ ?_ ?_ ?_);exact nd;exact rfl;exact oi;rotate_left;rfl;exact oi;exact cC (eF (cY (eF (cY aN) (eF (sv 1) (eF aj aN rfl) rfl) rfl)) aN rfl)
 with_reducible refine ak ?_ ?_
 . (with_reducible refine aD (i:=3) ?_ ?_ ?_ ?_ ?_ ?_);exact nd;exact rfl;exact oi;rotate_left;rfl;exact oi;exact cC (eF (cY (eF (cY aN) (eF (cC (eF (sv 1) aN rfl)) (eF aj aN rfl) rfl) rfl)) aN rfl)
 with_reducible refine ak ?_ ?_
 .exact(sI PassesOwn.never (bf (jA (bH hr)) (sv 3) (cC aN) (aP _)) (by(with_reducible refine ak ?_ ?_);exact Ox (Mh (k:=3) rfl (by first|exact Or.inl rfl|exact Or.inr (Or.inl rfl))) (tM hc (cM (bQ (i:=4) nd rfl (Or.inl rfl) (Or.inl rfl)) (cM (bQ (i:=5) nd rfl (Or.inl rfl) (Or.inl rfl)) (cM (bQ (i:=6) nd rfl (Or.inl rfl) (Or.inl rfl)) nH)))) (Py rfl (tL _ _ (tL _ _ (tL _ _ Gx 6) 5) 4));(·(with_reducible refine ak ?_ ?_);(·(with_reducible refine gF (i:=7) ?_ ?_ ?_ ?_ ?_ ?_ ?_ ?_ ?_);exact PassesOwn.never;exact hc;exact nd;exact rfl;exact oi;exact nG rfl (by rfl) bV (pg rfl (by rfl) gw (aq (sv 0) aj));(·(with_reducible refine ak ?_ ?_);(·(with_reducible refine aD (i:=8) ?_ ?_ ?_ ?_ ?_ ?_);exact nd;exact rfl;exact oi;rotate_left;rfl;exact oi;exact aq (aq (sv 0) aj) (sv 7));(·(with_reducible refine ak ?_ ?_);(·(with_reducible refine dj ?_ ?_ ?_);exact SW.st (o4 (bf (fU (bH hr)) (aq (sv 8) aj) (aq (sv 5) (Nf aj)) (aP _)) (o4 (bf qX (aq (sv 8) aj) aj (aP _)) (m6 (bf zQ (aq (sv 8) aj) (sv 5) (by with_unfolding_all rfl)))));(·(with_reducible refine ak ?_ ?_);(·(with_reducible refine aD (i:=9) ?_ ?_ ?_ ?_ ?_ ?_);exact nd;exact rfl;exact oi;rotate_left;rfl;exact oi;exact cY (eF (aA bu (sv 4) (cY (eF (sv 7) aN rfl))) (eF (aA bu (sv 5) (cC (eF (aq (sv 8) aj) aN rfl))) (eF (aA bu (sv 6) (aq (sv 8) aj)) aN rfl) rfl) rfl));(·(with_reducible refine ak ?_ ?_);exact cD (k:=3) rfl (by first|exact Or.inl rfl|exact Or.inr (Or.inl rfl)) (sv 9);(·(with_reducible refine ak ?_ ?_);exact cD (k:=2) rfl (by first|exact Or.inl rfl|exact Or.inr (Or.inl rfl)) (cY (eF (aq (sv 9) aj) (eF (aq (sv 8) aj) (eF (aq (sv 9) aj) aN rfl) rfl) rfl));exact az)));exact az);exact az));(· intro _;rfl);exact oi);exact az)))
 with_reducible refine ak ?_ ?_
 . (with_reducible refine bL ?_);exact sv 2
 exact az
noncomputable abbrev s12:=top 22
noncomputable def b12:List S:=[.asg 2 (.con (.str "odd")),.Qj [.asg 2 (.call 5 [.var 0,.var 1])] 3 [[.bad],[.bad],[.bad],[.bad],[.ifs (.and (.con (.bl true)) (.con (.bl true))) [.ifs (.not (.con (.bl false))) [.asg 2 (.con .non)] []] []],[.bad]],.ret (.var 2)]
noncomputable def Xb:Fd:=⟨2,4,b12⟩
theorem Uj:bz ["net","place","found","e"] ["net","place"] (aC s12):=⟨rfl,rfl,rfl,by decide+kernel,rfl,by decide+kernel,by decide+kernel⟩
include cl in
theorem d12(Fu:lK K "_law_told" "_law_told" s12 f fd)(gZ:mg "ValueError"=none)(aO:mg "isinstance"=none)(iW:aL Pg w K mg base k c 5 "soonest_walk" 2)(iY:OwnCls "HaulError" (cl 0) [.type "ValueError",.type "Exception",.type "BaseException",.type "object"] "ValueError.__new__" mg base)(pU:oh Pg w K mg base cl k c 5 "soonest_walk" 2)(pW:Under base (cl 4) (cl 0))(iZ:Bu K (cl 4))(gA:mg "BadHour"=some (.ref (cl 5)))(jb:mg "BadNet"=some (.ref (cl 1)))(bJ:mg "NoWalk"=some (.ref (cl 4)))(lE:mg "NoWay"=some (.ref (cl 3)))(gB:mg "TooMany"=some (.ref (cl 2)))(dF:PySem.W.kitOne K (.ref (cl 4)) (.ref (cl 5))=some false)(dW:PySem.W.kitOne K (.ref (cl 4)) (.ref (cl 1))=some false)(dX:PySem.W.kitOne K (.ref (cl 4)) (.ref (cl 4))=some true)(fC:PySem.W.kitOne K (.ref (cl 4)) (.ref (cl 3))=some false)(dG:PySem.W.kitOne K (.ref (cl 4)) (.ref (cl 2))=some false)(cI:PySem.W.kitOne K (.ref (cl 4)) (.type "ValueError")=some true):cJ Pg w K mg base mV (k+1) f fd ["net","place"] (nW K 2 (fun args=>enter c n Xb args)):=by
 refine eV Fu Uj rfl rfl fun cdv A outer s H E hr=>?_;have nd:=Uj.nd;refine ak ?_ ?_;. (with_reducible refine aD (i:=2) ?_ ?_ ?_ ?_ ?_ ?_);exact nd;exact rfl;exact oi;rotate_left;rfl;exact oi;exact N8
 with_reducible refine ak ?_ ?_
 .exact(Ji (cl:=cl) (kk:=0) (i:=3) (by rfl) iY (by decide+kernel) rfl ⟨rfl,rfl⟩ nd rfl rfl (fun _ _ hp=>(by(with_reducible refine ak ?_ ?_);(·(with_reducible refine aD (i:=2) ?_ ?_ ?_ ?_ ?_ ?_);exact nd;exact rfl;exact oi;rotate_left;rfl;exact oi;exact fV iW hr (bT (sv 0) (bT (sv 1) aK rfl) rfl));exact az)) (fun _ _ W hp hX=>(bM (by(with_reducible refine aD (i:=2) ?_ ?_ ?_ ?_ ?_ ?_);exact nd;exact rfl;exact oi;rotate_left;rfl;exact oi;exact fV iW hr (bT (sv 0) (bT (sv 1) aK rfl) rfl)) (yE (i:=2) rfl hX pU hr nd rfl (Or.inl rfl) (bT (sv 0) (bT (sv 1) aK rfl) rfl)) fJ)) (gj (.inl rfl) (gj (.inl rfl) (gj (.inl rfl) (gj (.inl rfl) (gj (.inr ⟨pW,fun e oe hO=>(Kc (GW.gt (Ng (wO (Er hO iZ rfl (by rfl) aO rfl (by first|exact Or.inl rfl|exact Or.inr (Or.inl rfl)) (kW (v:=.ref (cl 4)) (by rfl) bJ rfl (by rfl)) j5 dX)) (Ov (wO (Er hO iZ rfl (by rfl) aO rfl (by first|exact Or.inl rfl|exact Or.inr (Or.inl rfl)) (sW (v:=.ty "ValueError") (by rfl) gZ (by kernel_rfl) rfl (by decide) (by rfl)) Mi cI))))) (fun _=>rfl) (Kc (O3 (wO (Ln hO iZ rfl (by rfl) aO rfl (by first|exact Or.inl rfl|exact Or.inr (Or.inl rfl)) (nJ (kW (v:=.ref (cl 5)) (by rfl) gA rfl (by rfl)) (nJ (kW (v:=.ref (cl 1)) (by rfl) jb rfl (by rfl)) (nJ (kW (v:=.ref (cl 3)) (by rfl) lE rfl (by rfl)) (nJ (kW (v:=.ref (cl 2)) (by rfl) gB rfl (by rfl)) Nr)))) (jR j5 (jR j5 (jR j5 (jR j5 Gs)))) (rM dF (rM dW (rM fC (rM dG DW)))) (show 4<=sizeLine by decide)))) (fun _=>rfl) (Vi (aD (i:=2) nd rfl (Or.inl rfl) fj (by rfl) (Or.inl rfl))) BK) BK)⟩) (gj (.inl rfl) Hu)))))))
 with_reducible refine ak ?_ ?_
 . (with_reducible refine bL ?_);exact sv 2
 exact az
noncomputable abbrev Yr:=top 23
noncomputable def b13:List S:=[.asg 2 (.blt .list [.slice (.var 0) (.con .non) (.var 1)]),.pR (.yU (.var 1) (.blt .len [.var 0])) [3] true [.Am 2 (.bin .mod (.var 3) (.var 1)) (.bin .add (.bin .mul (.idx (.var 2) (.bin .mod (.var 3) (.var 1))) (.con (.int 1000003))) (.idx (.var 0) (.var 3)))],.ret (.var 2)]
noncomputable def Xh:Fd:=⟨2,4,b13⟩
theorem Ur:bz ["script","most","cells","k"] ["script","most"] (aC Yr):=⟨rfl,rfl,rfl,by decide+kernel,rfl,by decide+kernel,by decide+kernel⟩
include cl in
theorem d13(Fu:lK K "_law_folded" "_law_folded" Yr f fd)(gw:mg "len"=none)(dC:mg "list"=none)(bV:mg "range"=none):cJ Pg w K mg base mV (k+1) f fd ["script","most"] (nW K 2 (fun args=>enter c n Xh args)):=by
 refine eV Fu Ur rfl rfl fun cdv A outer s H E hr=>?_;have nd:=Ur.nd;refine ak ?_ ?_;. (with_reducible refine aD (i:=2) ?_ ?_ ?_ ?_ ?_ ?_);exact nd;exact rfl;exact oi;rotate_left;rfl;exact oi;exact Hy rfl (by rfl) dC (vI (sv 0) xW (yo (sv 1)))
 with_reducible refine ak ?_ ?_
 . (with_reducible refine gF (i:=3) ?_ ?_ ?_ ?_ ?_ ?_ ?_ ?_ ?_);exact PassesOwn.never;exact hc;exact nd;exact rfl;exact oi;exact Jm rfl (by rfl) bV (sv 1) (pg rfl (by rfl) gw (sv 0));(·(with_reducible refine ak ?_ ?_);exact m8 (k:=2) rfl (by first|exact Or.inl rfl|exact Or.inr (Or.inl rfl)) (aA dH (sv 3) (sv 1)) (aA bu (aA gV (aq (sv 2) (aA dH (sv 3) (sv 1))) aj) (aq (sv 0) (sv 3)));exact az);(· intro _;rfl);exact Or.inl rfl
 with_reducible refine ak ?_ ?_
 . (with_reducible refine bL ?_);exact sv 2
 exact az
noncomputable abbrev s14:=top 24
noncomputable def b14:List S:=[.pR (.bin .add (.lst [.con (.int 0)]) (.call 13 [.var 0,.con (.int 14)])) [1] true [.asg 2 (.call 9 [.call 6 [.var 1]]),.ifs (.cmp .eq (.bin .mod (.var 1) (.con (.int 3))) (.con (.int 1))) [.asg 2 (.tup [.idx (.var 2) (.con (.int 0)),.blt .tuple [.comp (.idx (.var 2) (.con (.int 1))) 1 [7] true none (.bin .add (.slice (.var 7) (.con .non) (.con (.int 3))) (.tup [.bin .add (.con (.int 1)) (.bin .mod (.idx (.var 7) (.con (.int 3))) (.con (.int 2)))]))]])] [],.asg 3 (.call 11 [.var 2,.con (.int 0)]),.pR (.yU (.con (.int 0)) (.idx (.var 2) (.con (.int 0)))) [4] true [.asg 5 (.blt .vM [.comp (.var 3) 3 [7,8,9] false (some (.cmp .eq (.var 8) (.var 4))) (.tup [.var 9,.var 7])]),.asg 6 (.con .non),.ifs (.cmp .ne (.var 5) (.lst [])) [.asg 6 (.idx (.idx (.var 5) (.con (.int 0))) (.con (.int 1)))] [],.ifs (.not (.call 10 [.call 12 [.var 2,.var 4],.var 6])) [.ret (.con (.bl false))] []]],.ret (.con (.bl true))]
noncomputable def Wn:Fd:=⟨1,7,b14⟩
theorem Sv:bz ["script","cell","net","walks","place","some","due"] ["script"] (aC s14):=⟨rfl,rfl,rfl,by decide+kernel,rfl,by decide+kernel,by decide+kernel⟩
include cl in
theorem d14(Fu:lK K "law" "law" s14 f fd)(bV:mg "range"=none)(lF:mg "sorted"=none)(aX:mg "tuple"=none)(qi:aL Pg w K mg base k c 13 "_law_folded" 2)(xO:aL Pg w K mg base k c 9 "_law_net" 1)(xP:aL Pg w K mg base k c 6 "_law_pot" 1)(iV:aL Pg w K mg base k c 10 "_law_same" 2)(vQ:aL Pg w K mg base k c 12 "_law_told" 2)(tR:aL Pg w K mg base k c 11 "_law_walks" 2):cJ Pg w K mg base mV (k+1) f fd ["script"] (nW K 1 (fun args=>enter c n Wn args)):=by
 refine eV Fu Sv rfl rfl fun cdv A outer s H E hr=>?_;have nd:=Sv.nd;refine ak ?_ ?_;. (with_reducible refine gF (i:=1) ?_ ?_ ?_ ?_ ?_ ?_ ?_ ?_ ?_);exact PassesOwn.never;exact hc;exact nd;exact rfl;exact oi;exact gD (aA bu (cC (eF aj aN rfl)) (fV qi hr (bT (sv 0) (bT aj aK rfl) rfl)));(·(with_reducible refine ak ?_ ?_);(·(with_reducible refine aD (i:=2) ?_ ?_ ?_ ?_ ?_ ?_);exact nd;exact rfl;exact oi;rotate_left;rfl;exact oi;exact fV xO hr (bT (fV xP hr (bT (sv 1) aK rfl)) aK rfl));(·(with_reducible refine ak ?_ ?_);(·(with_reducible refine dj ?_ ?_ ?_);exact bf (fU (bH hr)) (aA dH (sv 1) aj) aj (aP _);(·(with_reducible refine ak ?_ ?_);(·(with_reducible refine aD (i:=2) ?_ ?_ ?_ ?_ ?_ ?_);exact nd;exact rfl;exact oi;rotate_left;rfl;exact oi;exact cY (eF (aq (sv 2) aj) (eF (iD rfl (by rfl) aX (fO (N':=["script","cell","net","walks","place","some","due","way"]) hc (Io rfl (by rfl)) (gD (aq (sv 2) aj)) (fun _ _ _ _ _=>bQ (i:=7) (show(["script","cell","net","walks","place","some","due","way"]:List Str).Nodup by decide+kernel) rfl (Or.inl rfl) (Or.inr rfl)) (fX (Nat.le_refl _)) (fun _ _ _ _ _=>tH) (fun _ _ _ _ _=>(aA bu (vI (sv 7) xW (yo aj)) (cY (eF (aA bu aj (aA dH (aq (sv 7) aj) aj)) aN rfl)))))) aN rfl) rfl));exact az);exact az);(·(with_reducible refine ak ?_ ?_);(·(with_reducible refine aD (i:=3) ?_ ?_ ?_ ?_ ?_ ?_);exact nd;exact rfl;exact oi;rotate_left;rfl;exact oi;exact fV tR hr (bT (sv 2) (bT aj aK rfl) rfl));(·(with_reducible refine ak ?_ ?_);(·(with_reducible refine gF (i:=4) ?_ ?_ ?_ ?_ ?_ ?_ ?_ ?_ ?_);exact PassesOwn.never;exact hc;exact nd;exact rfl;exact Or.inr rfl;exact nG rfl (by rfl) bV (aq (sv 2) aj);(·(with_reducible refine ak ?_ ?_);(·(with_reducible refine aD (i:=5) ?_ ?_ ?_ ?_ ?_ ?_);exact nd;exact rfl;exact oi;rotate_left;rfl;exact oi;exact Cw rfl (bH hr) (by rfl) lF (fO (N':=["script","cell","net","walks","place","some","due","walk","last","hours"]) hc (Io rfl (by rfl)) (gD (sv 3)) (fun _ _ _ _ _=>tM hc (cM (bQ (i:=7) (show(["script","cell","net","walks","place","some","due","walk","last","hours"]:List Str).Nodup by decide+kernel) rfl (Or.inl rfl) (Or.inr rfl)) (cM (bQ (i:=8) (show(["script","cell","net","walks","place","some","due","walk","last","hours"]:List Str).Nodup by decide+kernel) rfl (Or.inl rfl) (Or.inr rfl)) (cM (bQ (i:=9) (show(["script","cell","net","walks","place","some","due","walk","last","hours"]:List Str).Nodup by decide+kernel) rfl (Or.inl rfl) (Or.inr rfl)) nH)))) (tu rfl (fu (show 7<=7 by decide) (fu (show 7<=8 by decide) (fu (show 7<=9 by decide) sE)))) (fun _ _ _ _ _=>jk (bf (fU (bH hr)) (sv 8) (sv 4) (aP _))) (fun _ _ _ _ _=>(cY (eF (sv 9) (eF (sv 7) aN rfl) rfl)))));(·(with_reducible refine ak ?_ ?_);(·(with_reducible refine aD (i:=6) ?_ ?_ ?_ ?_ ?_ ?_);exact nd;exact rfl;exact oi;rotate_left;rfl;exact oi;exact fj);(·(with_reducible refine ak ?_ ?_);(·(with_reducible refine dj ?_ ?_ ?_);exact bf (jA (bH hr)) (sv 5) (cC aN) (aP _);(·(with_reducible refine ak ?_ ?_);(·(with_reducible refine aD (i:=6) ?_ ?_ ?_ ?_ ?_ ?_);exact nd;exact rfl;exact oi;rotate_left;rfl;exact oi;exact aq (aq (sv 5) aj) aj);exact az);exact az);(·(with_reducible refine ak ?_ ?_);(·(with_reducible refine dj ?_ ?_ ?_);exact pM (il (fV iV hr (bT (fV vQ hr (bT (sv 2) (bT (sv 4) aK rfl) rfl)) (bT (sv 6) aK rfl) rfl)));(·(with_reducible refine ak ?_ ?_);(·(with_reducible refine bL ?_);exact qm);exact az);exact az);exact az))));(· intro _;rfl);exact oi);exact az))));(· intro _;rfl);exact Or.inl rfl
 with_reducible refine ak ?_ ?_
 . (with_reducible refine bL ?_);exact qm
 exact az
end T
end
section
namespace T
open PySem L2 PySem.Spec PyProof.Rows HH
noncomputable def Γ:Tab:=fun i=>[f0,f1,f2,f3,f4,f5,f6,f7,f8,f9,Kg,f11,Xb,Xh,Wn][i]?
end T
end
section
namespace T
open HH
noncomputable abbrev big:Int:=1606938044258990275541962092341162602522202993782792835301376
theorem aU{w n:Nat}{x m:Int}{Q:R->List Sl->Prop}(h0:0<m)(h2:m<1000)(k:∀d y:Int,0<=d->d<m->Q (.val (.int d)) [.own true [.int y],.val false (.int m)]):(run Γ w (n+1) 7 [.own true [.int x],.val false (.int m)]).sat Q:=by
 have h3:m<1606938044258990275541962092341162602522202993782792835301376:=by omega
 refine bO (d:=f7) rfl rfl (by decide) ?_;first|apply aa|apply au
 simp[f7,h0,h3];apply aa;simp[h0,h3,jr];apply aa;simp;exact k _ _ (Int.emod_nonneg _ (by omega)) (Int.emod_lt_of_pos _ h0)
structure Wy where(s t r h:Int)
noncomputable def Wy.d(w:Wy):D:=.tup [.int w.s,.int w.t,.int w.r,.int w.h]
structure Wy.Ok(m:Int)(w:Wy):Prop where
 s0:0<=w.s
 s1:w.s<m
 t0:0<=w.t
 t1:w.t<m
 ne:w.s≠w.t
 r0:0<=w.r
 r1:w.r<=1000000000
 h0:1<=w.h
 h1:w.h<=1000000
theorem other{a b m:Int}(h1:0<=a)(h2:a<m)(h3:0<=b)(h4:b<m-1):0<=(a+1+b)%m/\(a+1+b)%m<m/\(a+1+b)%m≠a:=by
 by_cases h:a+1+b<m;.rw[Int.emod_eq_of_lt (by omega) h];omega
 . have e:(a+1+b)%m=a+1+b-m:=by rw[<-Int.sub_emod_right,Int.emod_eq_of_lt (by omega) (by omega)]
   rw[e];omega
theorem pick{a b c d e f i lo hi:Int}(h0:0<=i)(h1:i<=5)(k1:lo<=a/\a<=hi/\lo<=b/\b<=hi)(k2:lo<=c/\c<=hi/\lo<=d/\d<=hi)(k3:lo<=e/\e<=hi/\lo<=f/\f<=hi):∃r,at' [D.int a,D.int b,D.int c,D.int d,D.int e,D.int f] i=some (.int r)/\lo<=r/\r<=hi:=by
 have:i=0\/i=1\/i=2\/i=3\/i=4\/i=5:=by omega
 rcases this with rfl|rfl|rfl|rfl|rfl|rfl;.exact⟨a,VD,by omega⟩
 .exact⟨b,Va,by omega⟩
 .exact⟨c,UT,by omega⟩
 .exact⟨d,ZX,by omega⟩
 .exact⟨e,Zm,by omega⟩
 .exact⟨f,Yo,by omega⟩
theorem GZ{w n:Nat}{x m:Int}{Q:R->List Sl->Prop}(h0:2<=m)(h2:m<=6)(k:∀(w:Wy)(y:Int),w.Ok m->Q (.val w.d) [.own true [.int y],.val false (.int m)]):(run Γ w (n+2) 8 [.own true [.int x],.val false (.int m)]).sat Q:=by
 refine bO (d:=f8) rfl rfl (by decide) ?_;first|apply aa|apply au
 simp[f8];refine aU (by omega) (by omega) fun a x ha1 ha2=>?_;simp;apply aa;simp;refine aU (by omega) (by omega) fun b x hb1 hb2=>?_;obtain⟨t0,t1,tn⟩:=other ha1 ha2 hb1 hb2;simp[show 0<m by omega];generalize(a+1+b)%m=t at*;refine gJ (fun ρ=>∃y s t,ρ=[.own true [.int y],.val false (.int m),.val false (.int s),.val false (.int t),.bK,.bK]/\0<=s/\s<m/\0<=t/\t<m/\s≠t) ?_ ?_
 . simp;constructor
   . intro _;refine aU (by omega) (by omega) fun d x hd1 hd2=>?_;simp;constructor
     . intro _;first|apply aa|apply au
       simp;refine⟨_,_,_,⟨rfl,rfl,rfl⟩,?_⟩;omega
     .intro _;refine⟨_,_,_,⟨rfl,rfl,rfl⟩,?_⟩;omega
   .intro _;refine⟨_,_,_,⟨rfl,rfl,rfl⟩,?_⟩;omega
 rintro _⟨x,s,t,rfl,s0,s1,t0,t1,ne⟩;clear ha1 ha2 hb1 hb2 tn;first|apply aa|apply au
 simp;refine aU (by omega) (by omega) fun d1 x hd1 hd2=>?_;simp;refine aU (by omega) (by omega) fun d2 x Qm Qp=>?_;simp;refine aU (by omega) (by omega) fun d3 x X3 X4=>?_;simp;obtain⟨r,e,r0,r1⟩:∃r,at' [D.int 0,D.int 1,D.int 2,D.int 3,D.int (1+d1),D.int (1000000000-d2)] (if d3<5 then d3 else 5)=some (.int r)/\0<=r/\r<=1000000000:=pick (by split<;>omega) (by split<;>omega) (by omega) (by omega) (by omega);rw[e];simp;clear e hd1 hd2 Qm Qp X3 X4;first|apply aa|apply au
 simp;refine aU (by omega) (by omega) fun d1 x hd1 hd2=>?_;simp;refine aU (by omega) (by omega) fun d2 x Qm Qp=>?_;simp;refine aU (by omega) (by omega) fun d3 x X3 X4=>?_;simp;obtain⟨h,e,u0,u1⟩:∃r,at' [D.int 1,D.int 1,D.int 2,D.int 3,D.int (1+d1),D.int (1000000-d2)] (if d3<5 then d3 else 5)=some (.int r)/\1<=r/\r<=1000000:=pick (by split<;>omega) (by split<;>omega) (by omega) (by omega) (by omega);rw[e];simp;clear e hd1 hd2 Qm Qp X3 X4;refine gJ (fun ρ=>∃y r,ρ=[.own true [.int y],.val false (.int m),.val false (.int s),.val false (.int t),.val false (.int r),.val false (.int h)]/\0<=r/\r<=1000000000) ?_ ?_
 . simp;refine aU (by omega) (by omega) fun d x hd1 hd2=>?_;simp;constructor
   . intro _;first|apply aa|apply au
     simp;refine aU (by omega) (by omega) fun d x hd1 hd2=>?_;simp;refine⟨_,_,⟨rfl,rfl⟩,?_⟩;omega
   .intro _;refine⟨_,_,⟨rfl,rfl⟩,?_⟩;omega
 rintro _⟨x,r,rfl,r0,r1⟩;refine gJ (fun ρ=>∃y h,ρ=[.own true [.int y],.val false (.int m),.val false (.int s),.val false (.int t),.val false (.int r),.val false (.int h)]/\1<=h/\h<=1000000) ?_ ?_
 . simp;refine aU (by omega) (by omega) fun d x hd1 hd2=>?_;simp;constructor
   . intro _;first|apply aa|apply au
     simp;refine aU (by omega) (by omega) fun d x hd1 hd2=>?_;simp;refine⟨_,_,⟨rfl,rfl⟩,?_⟩;omega
   .intro _;refine⟨_,_,⟨rfl,rfl⟩,?_⟩;omega
 rintro _⟨x,h,rfl,u0,u1⟩;first|apply aa|apply au
 simp;exact k ⟨s,t,r,h⟩ x ⟨s0,s1,t0,t1,ne,r0,r1,u0,u1⟩
theorem tK{a b:Int}{d:D}(h:d∈(List.range (b-a).toNat).map fun(k:Nat)=>D.int (a+(k:Int))):∃i,d=.int i/\a<=i/\i<b:=by rw[List.mem_map]at h;obtain⟨k,h1,rfl⟩:=h;rw[List.mem_range]at h1;exact⟨a+k,rfl,by omega,by omega⟩
inductive aaf(x:Int)(r:List D)(ρ:List Sl):Prop where|mk(a b:Int)(s t:Sl)(q0:ρ=[.val false (.int x),.val false (.int a),.val false (.int b),s,t])(q1:fr s=true)(q2:fr t=true)(q3:∀d∈r,∃i,d=D.int i/\0<=i/\i<48)
theorem Jt{w n:Nat}{x:Int}{Q:R->List Sl->Prop}(k:∀y:Int,Q (.own [.int y]) [.val false (.int x)]):(run Γ w (n+1) 6 [.val false (.int x)]).sat Q:=by
 refine bO (d:=f6) rfl rfl (by decide) ?_;first|apply aa|apply au
 simp[f6];constructor
 . intro _;first|apply aa|apply au
   simp;exact k _
 intro _;first|apply aa|apply au
 simp;apply aa;simp;generalize x%2147483647+16807=one;first|apply aa|apply au
 simp;refine cX (aaf x) ?_ ?_ ?_
 . rintro d r _⟨a,b,s,t,rfl,hs,ht,h⟩;obtain⟨i,rfl,i0,i1⟩:=h d (by simp);simp[hs];apply aa;have q1:-18446744073709551616<7919*i/\7919*i<18446744073709551616:=by omega
   simp[q1];generalize hz:(b*48271+7919*i*i+104729)%2147483647=z;have q2:-18446744073709551616<z/\z<18446744073709551616:=by omega
   first|apply aa|apply au
   simp[q2,ht];apply aa;simp;exact⟨_,_,_,_,rfl,rfl,rfl,fun d hd=>h d (List.mem_cons_of_mem _ hd)⟩
 . rintro _⟨a,b,s,t,rfl,hs,ht,h⟩;first|apply aa|apply au
   simp;exact k _
 .refine⟨_,_,_,_,rfl,rfl,rfl,fun d hd=>?_⟩;have:=tK (a:=0) (b:=48) (d:=d) (by simpa using hd);exact this
theorem Np(w:Wy):cj 7 w.d=true:=rfl
theorem HN{ds:List D}{k:Nat}(h:∀d∈ds,cj k d=true):cj (k+1) (.lst ds)=true:=by rw[cj];exact List.all_eq_true.mpr h
theorem Vw{ds:List D}{k:Nat}(h:∀d∈ds,cj k d=true):cj (k+1) (.tup ds)=true:=by rw[cj];exact List.all_eq_true.mpr h
theorem ne_nil{ws:List Wy}:cm .ne (.lst (ws.map Wy.d)) (.lst [])=some (!ws.isEmpty):=by show oA _ _=_;unfold oA;rw[HN (fun d hd=>by obtain⟨w,_,rfl⟩:=List.mem_map.mp hd;exact Np w)];cases ws<;>simp[bw,fG,cj]
noncomputable def cH(m:Int)(ws:List Wy):D:=.tup [.int m,.tup (ws.map Wy.d)]
structure aY(m:Int)(ws:List Wy):Prop where
 m0:2<=m
 m1:m<=6
 len:ws.length<=12
 ok:∀w∈ws,w.Ok m
inductive Zh(b:Bool)(m:Int)(r:List D)(ρ:List Sl):Prop where|mk(y:Int)(ws:List Wy)(s t:Sl)(q0:ρ=[.own b [.int y],.val false (.int m),.own false (ws.map Wy.d),s,t])(q1:fr s=true)(q2:fr t=true)(q3:(∀w∈ws,w.Ok m))(q4:ws.length+r.length<=12)
theorem Hc{w n:Nat}{b:Bool}{x:Int}{Q:R->List Sl->Prop}(k:∀(m:Int)(ws:List Wy)(y:Int),aY m ws->Q (.val (cH m ws)) [.own b [.int y]]):(run Γ w (n+3) 9 [.own b [.int x]]).sat Q:=by
 refine bO (d:=f9) rfl rfl (by decide) ?_;first|apply aa|apply au
 simp[f9];refine aU (by omega) (by omega) fun d1 x hd1 hd2=>?_;simp;obtain⟨m,hm,m0,m1⟩:∃m,m=2+d1/\2<=m/\m<=6:=⟨_,rfl,by omega,by omega⟩;rw[<-hm];first|apply aa|apply au
 simp;apply aa;simp;refine aU (by omega) (by omega) fun d1 x hd1 hd2=>?_;simp;refine aU (by omega) (by omega) fun d2 x Qm Qp=>?_;simp;refine aU (by omega) (by omega) fun d3 x X3 X4=>?_;simp;obtain⟨c,e,c0,c1⟩:∃r,at' [D.int d1,D.int 12,D.int (4+d2)] d3=some (.int r)/\0<=r/\r<=12:=by
  have:d3=0\/d3=1\/d3=2:=by omega
  rcases this with rfl|rfl|rfl;.exact⟨_,VD,by omega⟩
  .exact⟨_,Va,by omega⟩
  .exact⟨_,UT,by omega⟩
 rw[e];simp;refine⟨by omega,?_⟩;refine cX (Zh b m) ?_ ?_ ?_
 . rintro d r _⟨y,ws,s,t,rfl,hs,ht,hw,hl⟩;simp[hs];simp only[List.length_cons]at hl;apply aa;simp;refine GZ m0 m1 fun w y X5=>?_;simp[ht];refine gJ (fun ρ=>∃(y:Int)(w:Wy),ρ=[.own b [.int y],.val false (.int m),.own false (ws.map Wy.d),.val false d,.val false w.d]/\w.Ok m) ?_ ?_
   . by_cases hne:ws=[];.subst hne;have en:=ne_nil (ws:=[]);simp at en;simp[en];exact⟨_,_,⟨rfl,rfl⟩,X5⟩
     . have hl0:0<ws.length:=by cases ws with|nil=>exact absurd rfl hne|cons _ _=>simp
       have en:cm .ne (.lst (ws.map Wy.d)) (.lst [])=some true:=by rw[ne_nil];cases ws with|nil=>exact absurd rfl hne|cons _ _=>rfl
       simp[en];refine aU (by omega) (by omega) fun d1 x hd1 hd2=>?_;by_cases c0:d1=0
       . simp[c0];first|apply aa|apply au
         simp;refine aU (by omega) (by omega) fun d1 x hd1 hd2=>?_;simp;have hlt:d1.toNat<ws.length:=by omega
         rw[fW hd1 (by simpa using hd2),List.getElem?_map,List.getElem?_eq_getElem hlt];simp;exact⟨_,_,⟨rfl,rfl⟩,hw _ (List.getElem_mem hlt)⟩
       .simp[c0];exact⟨_,_,⟨rfl,rfl⟩,X5⟩
   rintro _⟨y,w,rfl,X5⟩;first|apply aa|apply au
   have hlim:ws.length<lim:=by show _<16777216;omega
   simp[hlim];refine⟨y,ws++[w],.val false d,.val false w.d,by simp,rfl,rfl,fun v hv=>?_,by simp;omega⟩;rw[List.mem_append,List.mem_singleton]at hv;rcases hv with hv|rfl;.exact hw v hv
   .exact X5
 . rintro _⟨y,ws,s,t,rfl,hs,ht,hw,hl⟩;first|apply aa|apply au
   simp;exact k m ws y ⟨m0,m1,by simpa using hl,hw⟩
 .exact⟨x,[],_,_,rfl,rfl,rfl,by simp,by simp;omega⟩
end T
end
section
namespace T
open HH
@[simp]theorem abW{α β:Type}{a:α}{ρ:List Sl}{f:α->List Sl->Res β}:(Res.ok a ρ).bind f=f a ρ:=rfl
@[simp]theorem T3{α β:Type}{f:α->List Sl->Res β}:(Res.stuck:Res α).bind f=.stuck:=rfl
@[simp]theorem WQ{α:Type}{a:α}{ρ:List Sl}:lift (some a) ρ=.ok a ρ:=rfl
@[simp]theorem Wu{c:Call}{n k:Nat}{ρ:List Sl}:ex c n (.xr k) ρ=.stuck:=by rw[ex]
theorem ab0{ws:List Wy}{k:Int}(h0:0<=k)(h1:k<(ws.length:Int)):∃v,ws[k.toNat]?=some v/\v∈ws/\at' (ws.map Wy.d) k=some v.d:=by
 have hk:k.toNat<ws.length:=by omega
 refine⟨ws[k.toNat],by simp[hk],List.getElem_mem hk,?_⟩;rw[fW h0 (by simpa using h1)];simp[hk]
theorem sX{v:Wy}:Aq v.d (.int 0)=some (.val (.int v.s)):=by simp[Wy.d]
theorem oO{v:Wy}:Aq v.d (.int 1)=some (.val (.int v.t)):=by simp[Wy.d]
theorem rC{v:Wy}:Aq v.d (.int 2)=some (.val (.int v.r)):=by simp[Wy.d]
theorem Cu{v:Wy}:Aq v.d (.int 3)=some (.val (.int v.h)):=by simp[Wy.d]
@[simp]theorem abO{m:Int}{ws:List Wy}:Aq (cH m ws) (.int 0)=some (.val (.int m)):=rfl
@[simp]theorem abX{m:Int}{ws:List Wy}:Aq (cH m ws) (.int 1)=some (.val (.tup (ws.map Wy.d))):=rfl
end T
end
section
namespace T
open HH
structure St where(w ps:List Int)(h:Int)
noncomputable def lst(ps:List Int):Int:=ps.getLast?.getD 0
noncomputable def goes(st:St)(v:Wy):Bool:=decide (v.s=lst st.ps)&&(decide (0<v.r)&&!st.ps.contains v.t)
noncomputable def on(st:St)(j:Nat)(v:Wy):St:=⟨st.w++[(j:Int)],st.ps++[v.t],st.h+v.h⟩
noncomputable def lG(st:St):Nat->List Wy->List St|_,[]=>[]|i,v::ws=>if goes st v=true then on st i v::lG st (i+1) ws else lG st (i+1) ws
noncomputable def nx(ws:List Wy)(st:St):List St:=lG st 0 ws
structure Vs(m:Int)(st:St):Prop where
 nd:st.ps.Nodup
 Wi:∀p∈st.ps,0<=p/\p<m
 ne:st.ps≠[]len:st.w.length+1=st.ps.length
theorem jX{ps:List Int}{t:Int}:lst (ps++[t])=t:=by unfold lst;simp
theorem Gf{ps:List Int}(h:ps≠[]):lst ps∈ps:=by unfold lst;rw[List.getLast?_eq_some_getLast h];exact List.getLast_mem h
theorem tE{st s:St}:∀{ws:List Wy}{i:Nat},s∈lG st i ws->∃j v,v∈ws/\goes st v=true/\s=on st j v
 |[],_,h=>by cases h|v::ws,i,h=>by
   rw[lG]at h;split at h
   . rename_i c;rcases List.mem_cons.mp h with rfl|h;.exact⟨i,v,by simp,c,rfl⟩
     .obtain⟨j,u,h1,h2⟩:=tE h;exact⟨j,u,by simp[h1],h2⟩
   .obtain⟨j,u,h1,h2⟩:=tE h;exact⟨j,u,by simp[h1],h2⟩
theorem nF{st:St}:∀{ws:List Wy}{i:Nat},(lG st i ws).length<=ws.length
 |[],_=>Nat.le_refl _|v::ws,i=>by
   have:=nF (st:=st) (ws:=ws) (i:=i+1);rw[lG,List.length_cons];split;.rw[List.length_cons];omega
   .omega
theorem dY{m:Int}{ws:List Wy}{st s:St}(hN:aY m ws)(h:Vs m st)(hs:s∈nx ws st):Vs m s/\s.ps.length=st.ps.length+1/\lst s.ps∉st.ps/\(∀p∈st.ps,p∈s.ps)/\s.w≠[]:=by
 obtain⟨j,v,hv,hg,rfl⟩:=tE hs;have o:=hN.ok v hv;have hg:v.s=lst st.ps/\0<v.r/\v.t∉st.ps:=by unfold goes at hg;simpa using hg
 refine⟨⟨?_,fun p hp=>?_,by show st.ps++[v.t]≠[];simp,?_⟩,by show(st.ps++[v.t]).length=_;simp,?_,fun p hp=>List.mem_append.mpr (.inl hp),by show st.w++[(j:Int)]≠[];simp⟩;.show(st.ps++[v.t]).Nodup;rw[List.nodup_append];exact⟨h.nd,by simp,fun a ha b hb e=>hg.2.2 (by rw[List.mem_singleton]at hb;rw[<-hb,<-e];exact ha)⟩
 . rcases List.mem_append.mp hp with hp|hp;.exact h.Wi p hp
   .rw[List.mem_singleton.mp hp];exact⟨o.t0,o.t1⟩
 .have:=h.len;show(st.w++[(j:Int)]).length+1=(st.ps++[v.t]).length;simp;omega
 .show lst (st.ps++[v.t])∉st.ps;rw[jX];exact hg.2.2
theorem u6{α:Type}[DecidableEq α]:∀{l1 l2:List α},l1.Nodup->(∀x∈l1,x∈l2)->l1.length<=l2.length|[],_,_,_=>Nat.zero_le _|a::l,l2,hn,h=>by rw[List.nodup_cons]at hn;have h1:=u6 (l2:=l2.erase a) hn.2 fun x hx=>(List.mem_erase_of_ne (fun(e:x=a)=>hn.1 (by rw[<-e];exact hx))).mpr (h x (by simp[hx]));have h2:=List.length_erase_of_mem (h a (by simp));have h3:=List.length_pos_of_mem (h a (by simp));rw[List.length_cons];omega
theorem Vs.six{m:Int}{st:St}(h:Vs m st)(m1:m<=6):st.ps.length<=6:=by
 have:=u6 (l2:=(List.range 6).map fun(i:Nat)=>(i:Int)) h.nd fun p hp=>by have:=h.Wi p hp;exact List.mem_map.mpr ⟨p.toNat,List.mem_range.mpr (by omega),by omega⟩
 simpa using this
noncomputable def al(ws:List Wy):Nat->St->List St|0,st=>[st]|k+1,st=>st::(nx ws st).flatMap (al ws k)
noncomputable def A(ws:List Wy)(st:St):List St:=al ws (6-st.ps.length) st
theorem jY{α β:Type}{f g:α->List β}:∀{l:List α},(∀x∈l,f x=g x)->l.flatMap f=l.flatMap g|[],_=>rfl|x::l,h=>by rw[List.flatMap_cons,List.flatMap_cons,h x (by simp),jY fun y hy=>h y (by simp[hy])]
theorem wZ{m:Int}{ws:List Wy}{st:St}(hN:aY m ws)(h:Vs m st)(h6:st.ps.length=6):nx ws st=[]:=by cases e:nx ws st with|nil=>rfl|cons s l=>obtain⟨h1,h2,_⟩:=dY hN h (s:=s) (by rw[e];simp);have:=h1.six hN.m1;omega
theorem uL{m:Int}{ws:List Wy}{st:St}(hN:aY m ws)(h:Vs m st):A ws st=st::(nx ws st).flatMap (A ws):=by
 have h6:=h.six hN.m1;unfold A;by_cases c:st.ps.length=6;.rw[wZ hN h c,c];rfl
 .obtain⟨k,hk⟩:∃k,6-st.ps.length=k+1:=⟨6-st.ps.length-1,by omega⟩;rw[hk,al];congr 1;refine jY fun s hs=>?_;have:=(dY hN h hs).2.1;rw[show 6-s.ps.length=k by omega]
theorem yR{α β:Type}{f:α->List β}{b:Nat}:∀{l:List α},(∀x∈l,(f x).length<=b)->(l.flatMap f).length<=l.length*b|[],_=>by simp|x::l,h=>by have h1:=h x (by simp);have h2:=yR (l:=l) fun y hy=>h y (by simp[hy]);rw[List.flatMap_cons,List.length_append,List.length_cons,Nat.succ_mul];omega
noncomputable def bnd:Nat->Nat|0=>1|k+1=>1+12*bnd k
theorem Ep{ws:List Wy}(hl:ws.length<=12):∀{k:Nat}{st:St},(al ws k st).length<=bnd k|0,_=>Nat.le_refl _|k+1,st=>by rw[al,List.length_cons,bnd];have h1:=yR (f:=al ws k) (b:=bnd k) (l:=nx ws st) fun x _=>Ep hl;have h2:(nx ws st).length*bnd k<=12*bnd k:=Nat.mul_le_mul_right _ (Nat.le_trans nF hl);omega
theorem Lp:∀k,k<7->bnd k<=4000000:=by decide
theorem JZ{ws:List Wy}{st:St}(hl:ws.length<=12):(A ws st).length<=4000000:=Nat.le_trans (Ep hl) (Lp _ (by omega))
noncomputable def ds(ws:List Wy)(st:St):List St:=(nx ws st).flatMap (A ws)
theorem yx{m:Int}{ws:List Wy}(hN:aY m ws):∀{l:List St},(∀s∈l,Vs m s)->(l.flatMap (A ws)).Perm (l++l.flatMap (ds ws))|[],_=>.refl _|s::l,h=>by have ih:=yx hN (l:=l) fun x hx=>h x (by simp[hx]);rw[List.flatMap_cons,List.flatMap_cons,uL hN (h s (by simp))];show(s::(ds ws s++l.flatMap (A ws))).Perm (s::(l++(ds ws s++l.flatMap (ds ws))));refine .cons _ ?_;refine(ih.append_left (ds ws s)).trans ?_;rw[<-List.append_assoc,<-List.append_assoc];exact(List.perm_append_comm).append_right _
noncomputable def en(ws:List Wy)(e:Int):Nat->St->List (List Int)|0,st=>if lst st.ps=e then[st.w]else[]|k+1,st=>if lst st.ps=e then[st.w]else(nx ws st).flatMap (en ws e k)
noncomputable def E(ws:List Wy)(e:Int)(st:St):List (List Int):=en ws e (6-st.ps.length) st
theorem Tn{ws:List Wy}{e:Int}{st:St}(h:lst st.ps=e):E ws e st=[st.w]:=by unfold E;cases 6-st.ps.length<;>rw[en,if_pos h]
theorem VF{m e:Int}{ws:List Wy}{st:St}(hN:aY m ws)(h:Vs m st)(hl:lst st.ps≠e):E ws e st=(nx ws st).flatMap (E ws e):=by
 have h6:=h.six hN.m1;unfold E;by_cases c:st.ps.length=6;.rw[wZ hN h c,c];show(if _ then _ else _)=_;rw[if_neg hl];rfl
 .obtain⟨k,hk⟩:∃k,6-st.ps.length=k+1:=⟨6-st.ps.length-1,by omega⟩;rw[hk,en,if_neg hl];refine jY fun s hs=>?_;have:=(dY hN h hs).2.1;rw[show 6-s.ps.length=k by omega]
noncomputable def Ie(e:Int)(st:St):Option (List Int):=if lst st.ps=e then some st.w else none
theorem rH{α β γ:Type}{f:α->List β}{g:β->Option γ}:∀{l:List α},(l.flatMap f).filterMap g=l.flatMap fun x=>(f x).filterMap g|[]=>rfl|x::l=>by rw[List.flatMap_cons,List.flatMap_cons,List.filterMap_append,rH]
theorem Dt{m e:Int}{ws:List Wy}(hN:aY m ws):∀(k:Nat){st:St},Vs m st->st.ps.length+k=6->e∈st.ps->(ds ws st).filterMap (Ie e)=[]
 |k,st,h,hk,he=>by
   unfold ds;rw[rH];refine(jY (g:=fun _=>[]) fun s hs=>?_).trans (by simp);obtain⟨h1,h2,h3,h4,_⟩:=dY hN h hs;rw[uL hN h1,List.filterMap_cons];have:Ie e s=none:=by unfold Ie;rw[if_neg];intro z;exact h3 (by rw[z];exact he)
   rw[this];have h6:=h1.six hN.m1;exact Dt hN (k-1) h1 (by omega) (h4 e he)termination_by k=>k decreasing_by have h6:=(dY hN h hs).1.six hN.m1;have:=(dY hN h hs).2.1;omega
theorem Sd{m e:Int}{ws:List Wy}(hN:aY m ws):∀(k:Nat){st:St},Vs m st->st.ps.length+k=6->(A ws st).filterMap (Ie e)=E ws e st
 |k,st,h,hk=>by
   rw[uL hN h,List.filterMap_cons];by_cases c:lst st.ps=e
   . have:Ie e st=some st.w:=by unfold Ie;rw[if_pos c]
     rw[this,Tn c,show((nx ws st).flatMap (A ws)).filterMap (Ie e)=[]from Dt hN k h hk (by rw[<-c];exact Gf h.ne)]
   . have:Ie e st=none:=by unfold Ie;rw[if_neg c]
     rw[this,VF hN h c,rH];refine jY fun s hs=>?_;have h1:=dY hN h hs;have h6:=h1.1.six hN.m1;exact Sd hN (k-1) h1.1 (by omega)termination_by k=>k decreasing_by have h6:=(dY hN h hs).1.six hN.m1;have:=(dY hN h hs).2.1;omega
theorem YF{m e:Int}{ws:List Wy}(hN:aY m ws):∀(k:Nat){st:St},Vs m st->st.ps.length+k=6->st.w≠[]->∀w∈E ws e st,w≠[]
 |k,st,h,hk,hw,w,hm=>by
   by_cases c:lst st.ps=e;.rw[Tn c]at hm;rw[List.mem_singleton.mp hm];exact hw
   .rw[VF hN h c]at hm;obtain⟨s,hs,hm⟩:=List.mem_flatMap.mp hm;have h1:=dY hN h hs;have h6:=h1.1.six hN.m1;exact YF hN (k-1) h1.1 (by omega) h1.2.2.2.2 w hm termination_by k=>k decreasing_by have h6:=(dY hN h hs).1.six hN.m1;have:=(dY hN h hs).2.1;omega
end T
end
section
namespace T
open HH
noncomputable def wA(st:St):D:=.tup [.tup (st.w.map D.int),.lst (st.ps.map D.int),.int st.h]
noncomputable def uN(st:St):D:=.tup [.tup (st.w.map D.int),.int (lst st.ps),.int st.h]
noncomputable def encP(st:St):D:=.tup [.tup (st.w.map D.int),.tup (st.ps.map D.int)]
theorem xT{st:St}{b:List Wy}:∀{a:List Wy}{i:Nat},lG st i (a++b)=lG st i a++lG st (i+a.length) b|[],i=>rfl|v::a,i=>by rw[List.cons_append,lG,lG,xT,List.length_cons,show i+1+a.length=i+(a.length+1)by omega];split<;>rfl
theorem Gq{ws:List Wy}{st:St}{i:Nat}{v:Wy}(e:ws[i]?=some v):lG st 0 (ws.take (i+1))=lG st 0 (ws.take i)++(if goes st v=true then[on st i v]else[]):=by obtain⟨hi,rfl⟩:=List.getElem?_eq_some_iff.mp e;rw[List.take_succ,e,xT];congr 1;rw[List.length_take,Nat.min_eq_left (by omega),Nat.zero_add];show(if goes st ws[i]=true then on st i ws[i]::lG st (i+1) []else lG st (i+1) [])=_;rfl
theorem Lb{ps:List Int}(h:ps≠[]):at' (ps.map D.int) (-1)=some (.int (lst ps)):=by
 obtain⟨a,x,rfl⟩:∃a x,ps=a++[x]:=by
  rcases List.eq_nil_or_concat ps with z|⟨a,x,z⟩;.exact absurd z h
  .exact⟨a,x,by rw[z,List.concat_eq_append]⟩
 rw[List.map_append,jX];exact Jd
theorem Jp{l:List St}:cm .ne (.lst (l.map wA)) (.lst [])=some (!l.isEmpty):=by
 show oA _ _=_;unfold oA;have h1:cj 8 (.lst (l.map wA))=true:=by
  show(l.map wA).all (cj 7)=true;rw[List.all_eq_true];intro d hd;obtain⟨p,_,rfl⟩:=List.mem_map.mp hd;show((p.w.map D.int).all (cj 5)&&((p.ps.map D.int).all (cj 5)&&(true&&true)))=true;have:∀S:List Int,(S.map D.int).all (cj 5)=true:=fun S=>by rw[List.all_eq_true];intro d hd;obtain⟨p,_,rfl⟩:=List.mem_map.mp hd;rfl
  rw[this,this];rfl
 have h2:cj 8 (.lst [])=true:=rfl;rw[h1,h2];cases l with|nil=>rfl|cons v ws=>rfl
theorem PK{c:Call}{x:Nat}{ρ:List Sl}:ev c (.pop x) ρ=match ρ[x]?with|some (.own b ds)=>lift (ds.getLast?.map .val) (ρ.set x (.own b ds.dropLast))|_=>.stuck:=by rw[ev]<;>rfl
theorem GJ{m:Int}{ws:List Wy}{fd wt:List St}{st:St}{L:List St}(hN:aY m ws)(hs:Vs m st)(hP:(fd++(wt++[st]).flatMap (ds ws)).Perm L):((fd++nx ws st)++(wt++nx ws st).flatMap (ds ws)).Perm L:=by
 refine List.Perm.trans ?_ hP;have h1:=yx hN (l:=nx ws st) fun s z=>(dY hN hs z).1;rw[List.flatMap_append,List.flatMap_append,List.append_assoc];refine List.Perm.append_left fd ?_;have e:[st].flatMap (ds ws)=(nx ws st).flatMap (A ws):=by simp[ds]
 rw[e];refine List.Perm.trans ?_ (h1.symm.append_left _);rw[<-List.append_assoc,<-List.append_assoc];exact(List.perm_append_comm).append_right _
theorem Bf{m:Int}{ws:List Wy}{wt:List St}{st:St}(hN:aY m ws)(hs:Vs m st):((wt++nx ws st).flatMap (A ws)).length+1=((wt++[st]).flatMap (A ws)).length:=by
 rw[List.flatMap_append,List.flatMap_append,List.length_append,List.length_append];have:[st].flatMap (A ws)=st::(nx ws st).flatMap (A ws):=by simp[uL hN hs]
 rw[this,List.length_cons];omega
inductive JLw(m:Int)(ws:List Wy)(st0:St)(M:Nat)(ρ:List Sl):Prop where|mk(fd wt:List St)(s4 s5 s6 s7 s8 s9:Sl)(q0:ρ=[.val false (cH m ws),.val false (.int 0),.own false (fd.map uN),.own false (wt.map wA),s4,s5,s6,s7,s8,s9])(q1:A6 (fr s4=true) (fr s5=true) (fr s6=true) (fr s7=true) (fr s8=true) (fr s9=true))(q2:(∀s∈wt,Vs m s))(q3:(fd++wt.flatMap (ds ws)).Perm (A ws st0))(q4:(wt.flatMap (A ws)).length=M)(q5:fd.length<=4000000)(q6:M<=4000000)
inductive JLi(m:Int)(ws:List Wy)(fd wt:List St)(st:St)(a4 a5 a6:Sl)(i:Nat)(ρ:List Sl):Prop where|mk(s7 s8 s9:Sl)(q0:ρ=[.val false (cH m ws),.val false (.int 0),.own false ((fd++lG st 0 (ws.take i)).map uN),.own false ((wt++lG st 0 (ws.take i)).map wA),a4,a5,a6,s7,s8,s9])(q1:A3 (fr s7=true) (fr s8=true) (fr s9=true))
theorem Ml{w n:Nat}{m:Int}{ws:List Wy}{Q:R->List Sl->Prop}(hw:5000000<=w)(hN:aY m ws)(k:∀fd:List St,fd.Perm (A ws ⟨[],[0],0⟩)->Q (.own (fd.map uN)) [.val false (cH m ws),.val false (.int 0)]):(run Γ w (n+1) 11 [.val false (cH m ws),.val false (.int 0)]).sat Q:=by
 have hn:=hN.len;have m0:=hN.m0;have v0:Vs m ⟨[],[0],0⟩:=⟨by simp,fun p hp=>by rw[List.mem_singleton.mp hp];omega,by simp,rfl⟩;have hA:=JZ (ws:=ws) (st:=⟨[],[0],0⟩) hn;refine bO (d:=f11) rfl rfl (by decide) ?_;first|apply aa|apply au
 simp[f11];apply aa;simp;apply aa;simp;refine iI (JLw m ws ⟨[],[0],0⟩) ?_ (k:=w) (m:=(A ws ⟨[],[0],0⟩).length) (by omega) ⟨[⟨[],[0],0⟩],[⟨[],[0],0⟩],.bK,.bK,.bK,.bK,.bK,.bK,rfl,⟨rfl,rfl,rfl,rfl,rfl,rfl⟩,by simpa using v0,?_,by simp,by simp,hA⟩
 . rintro M _⟨fd,wt,s4,s5,s6,s7,s8,s9,rfl,⟨h4,h5,h6,h7,h8,h9⟩,hV,hP,hM,hF,hM4⟩;rcases List.eq_nil_or_concat wt with rfl|⟨wt,st,rfl⟩;.have e0:cm .ne (.lst []) (.lst [])=some false:=rfl;simp[e0];apply aa;simp;exact k fd (by simpa using hP)
   . rw[List.concat_eq_append]at*;have e1:=Jp (l:=wt++[st]);rw[List.map_append]at e1;have hs:=hV st (by simp);have hsl:=hs.six hN.m1;have hwl:=hs.len;rw[List.flatMap_append,List.length_append]at hM;have hM2:(A ws st).length<=M:=by simp at hM;omega
     simp at e1;simp[e1];apply aa;simp[PK,wA,h4,h5,h6];apply aa;simp[show(ws.length:Int)<=1000000000 by omega];have hnx:lG st 0 ws=nx ws st:=rfl;have hnl:(nx ws st).length<=12:=Nat.le_trans nF hn;have hP2:=GJ hN hs hP;have hL2:=Bf (wt:=wt) hN hs;rw[List.flatMap_append,List.flatMap_append,List.length_append,List.length_append,hM]at hL2;have hl3:=hP2.length_eq;rw[List.length_append,List.length_append]at hl3;have hwl3:wt.length<=4000000:=by
      have:∀l:List St,l.length<=(l.flatMap (A ws)).length:=fun l=>by induction l with|nil=>simp|cons x l ih=>
         rw[List.flatMap_cons,List.length_append,List.length_cons];have:0<(A ws x).length:=by unfold A;cases 6-x.ps.length<;>simp[al]
         omega
      have:=this wt;omega
     refine Dh (JLi m ws fd wt st (.val false (.tup (st.w.map D.int))) (.val false (.lst (st.ps.map D.int))) (.val false (.int st.h))) ?_ ?_ ⟨s7,s8,s9,by simp[lG],⟨h7,h8,h9⟩⟩
     . rintro i _ hi⟨s7,s8,s9,rfl,h7,h8,h9⟩;have e2:ws[i]?=some ws[i]:=by simp[hi]
       have hx1:=Gq (st:=st) e2;have hle:(lG st 0 (ws.take i)).length<=12:=Nat.le_trans nF (by rw[List.length_take];omega);generalize ws[i]=v at e2 hx1;generalize lG st 0 (ws.take i)=X at*;have JD:=Lb hs.ne;have JG:=zc (S:=st.ps) (i:=v.t);simp[h7];apply aa;simp[Em e2,h8];apply aa;by_cases c1:v.s=lst st.ps
       . by_cases c2:0<v.r
         . by_cases c3:v.t∈st.ps
           . have hg:goes st v=false:=by unfold goes;simp[c3]
             have c4:st.ps.contains v.t=true:=List.contains_iff_mem.mpr c3;rw[c4]at JG;simp[sX,oO,rC,JD,c1,c2,JG];rw[hg]at hx1;exact⟨.val false (.int i),.val false v.d,s9,by rw[hx1];simp,⟨rfl,rfl,h9⟩⟩
           . have hg:goes st v=true:=by unfold goes;simp[c1,c2,c3]
             have c4:st.ps.contains v.t=false:=by simpa using c3
             rw[c4]at JG;simp[sX,oO,rC,JD,c1,c2,JG];apply aa;simp[oO,Cu,h9];refine⟨by show _<=16777216;omega,by show _<=16777216;omega,?_⟩;first|apply aa|apply au
             simp[show wt.length+X.length<16777216 by omega];apply aa;simp[oO,show fd.length+X.length<16777216 by omega];rw[hg,if_pos rfl]at hx1;refine⟨.val false (.int i),.val false v.d,.val false (.tup [.tup (st.w.map D.int++[.int i]),.lst (st.ps.map D.int++[.int v.t]),.int (st.h+v.h)]),?_,⟨rfl,rfl,rfl⟩⟩;rw[hx1];simp[uN,wA,on,jX]
         . have hg:goes st v=false:=by unfold goes;simp[c2]
           simp[sX,oO,rC,JD,c1,c2];rw[hg]at hx1;exact⟨.val false (.int i),.val false v.d,s9,by rw[hx1];simp,⟨rfl,rfl,h9⟩⟩
       . have hg:goes st v=false:=by unfold goes;simp[c1]
         simp[sX,oO,rC,JD,c1];rw[hg]at hx1;exact⟨.val false (.int i),.val false v.d,s9,by rw[hx1];simp,⟨rfl,rfl,h9⟩⟩
     . rintro _⟨s7,s8,s9,rfl,h7,h8,h9⟩;rw[List.take_length,hnx];simp only[sQ,fQ];refine⟨((wt++nx ws st).flatMap (A ws)).length,?_,fd++nx ws st,wt++nx ws st,_,_,_,s7,s8,s9,rfl,⟨rfl,rfl,rfl,h7,h8,h9⟩,fun s z=>?_,hP2,rfl,?_,?_⟩;.rw[List.flatMap_append,List.length_append];omega
       . rcases List.mem_append.mp z with z|z;.exact hV s (by simp[z])
         .exact(dY hN hs z).1
       .rw[List.length_append];omega
       .rw[List.flatMap_append,List.length_append];omega
 .have:=uL hN v0;rw[this];show(_::([(⟨[],[0],0⟩:St)].flatMap (ds ws))).Perm _;simp[ds]
end T
end
section
namespace T
open HH
noncomputable def mz(ks:List Nat):List Int:=ks.map fun(k:Nat)=>(k:Int)
noncomputable def jU(p:Int):Nat->List Wy->List Nat|_,[]=>[]|i,w::ws=>if w.s=p then i::jU p (i+1) ws else jU p (i+1) ws
noncomputable def outD(p:Int):D->Option D|.tup [i,.tup (.int s::_)]=>if s==p then some i else none|_=>none
noncomputable def Hw(ws:List Wy):List D:=(ws.map Wy.d).mapIdx fun i d=>D.tup [.int (i:Int),d]
theorem Hk{ds:List D}{d:D}(h:d∈ds.mapIdx fun i d=>D.tup [.int (i:Int),d]):∃(i:Nat)(e:D),d=.tup [.int i,e]/\e∈ds:=by rw[List.mem_mapIdx]at h;obtain⟨i,hi,rfl⟩:=h;exact⟨i,_,rfl,List.getElem_mem hi⟩
theorem Cj{ws:List Wy}{d:D}(h:d∈Hw ws):∃(i:Nat)(w:Wy),d=.tup [.int i,w.d]/\w∈ws:=by obtain⟨i,e,rfl,he⟩:=Hk h;obtain⟨w,hw,rfl⟩:=List.mem_map.mp he;exact⟨i,w,rfl,hw⟩
theorem um(f:D->Option D)(sel:Nat->List Wy->List Nat)(h0:∀i,sel i []=[])(h1:∀(i:Nat)(w:Wy)(ws:List Wy),(match f (.tup [.int (i:Int),w.d])with|some x=>x=.int (i:Int)/\sel i (w::ws)=i::sel (i+1) ws|none=>sel i (w::ws)=sel (i+1) ws)):∀(ws:List Wy)(i:Nat),(((ws.map Wy.d).mapIdx fun j d=>D.tup [.int ((i+j:Nat):Int),d]).filterMap f)=(mz (sel i ws)).map D.int
 |[],i=>by rw[h0];rfl|w::ws,i=>by
   rw[List.map_cons,List.mapIdx_cons,List.filterMap_cons];have ih:=um f sel h0 h1 ws (i+1);have e:(fun(j:Nat)(d:D)=>D.tup [.int ((i+(j+1):Nat):Int),d])=fun j d=>D.tup [.int ((i+1+j:Nat):Int),d]:=by funext j d;rw[show i+(j+1)=i+1+j by omega]
   rw[e,ih];have:=h1 i w ws;rw[Nat.add_zero];cases hf:f (.tup [.int (i:Int),w.d])with|none=>rw[hf]at this;simp only at this;rw[this]|some x=>rw[hf]at this;simp only at this;rw[this.2,this.1];rfl
theorem GF{p:Int}{ws:List Wy}:(Hw ws).filterMap (outD p)=(mz (jU p 0 ws)).map D.int:=by have:=um (outD p) (jU p) (fun _=>rfl) (fun i w ws=>by by_cases h:w.s=p<;>simp[outD,Wy.d,jU,h]) ws 0;simpa[Hw]using this
inductive F2o(a b:Sl)(ρ:List Sl):Prop where|mk(s:Sl)(t:Sl)(q0:ρ=[a,b,s,t])(q1:fr s=true)(q2:fr t=true)
theorem Jo{w n:Nat}{m p:Int}{ws:List Wy}{Q:R->List Sl->Prop}(h:aY m ws)(k:Q (.own ((mz (jU p 0 ws)).map D.int)) [.val false (cH m ws),.val false (.int p)]):(run Γ w (n+1) 0 [.val false (cH m ws),.val false (.int p)]).sat Q:=by
 refine bO (d:=f0) rfl rfl (by decide) ?_;first|apply aa|apply au
 have hl:=h.len;have h1:ws.length<=lim:=by show _<=16777216;omega
 simp[f0,h1];refine lY (F2o _ _) (outD p) ⟨.bK,.bK,rfl,rfl,rfl⟩ ?_ ?_
 . rintro d hd _⟨s,t,rfl,hs,ht⟩;obtain⟨i,w,rfl,hw⟩:=Cj hd;by_cases e:w.s=p;.simp[hs,ht,Wy.d,outD,e];exact⟨_,_,rfl,rfl,rfl⟩
   .simp[hs,ht,Wy.d,outD,e];exact⟨_,_,rfl,rfl,rfl⟩
 .rintro _⟨s,t,rfl,hs,ht⟩;rw[show((List.map Wy.d ws).mapIdx fun i d=>D.tup [.int (i:Int),d])=Hw ws from rfl,GF];generalize(mz (jU p 0 ws)).map D.int=L at*;simp;exact k
end T
end
section
namespace T
open HH
inductive Wk(ws:List Wy)(a:Int):Int->Int->Prop where|nil:Wk ws a a 0|step{p h:Int}{v:Wy}(k:Wk ws a p h)(hv:v∈ws)(r:0<v.r)(s:v.s=p):Wk ws a v.t (h+v.h)
theorem Wk.nn{m a:Int}{ws:List Wy}(hn:aY m ws)(a0:0<=a)(a1:a<m){p h:Int}(k:Wk ws a p h):0<=h/\0<=p/\p<m:=by induction k with|nil=>omega|step k hv r s ih=>have h1:=hn.ok _ hv;have:=h1.h0;have:=h1.t0;have:=h1.t1;omega
theorem Wk.trans{ws:List Wy}{a p q h g:Int}(k:Wk ws a p h)(l:Wk ws p q g):Wk ws a q (h+g):=by induction l with|nil=>simpa using k|@step p' g' v l hv r s ih=>rw[<-Int.add_assoc];exact .step ih hv r s
theorem Wk.one{ws:List Wy}{v:Wy}(hv:v∈ws)(r:0<v.r):Wk ws v.s v.t v.h:=by have:=Wk.step (.nil:Wk ws v.s v.s 0) hv r rfl;simpa using this
theorem Wk.first{ws:List Wy}{a b h:Int}(k:Wk ws a b h):(a=b/\h=0)\/∃v∈ws,0<v.r/\v.s=a/\∃g,Wk ws v.t b g/\h=v.h+g:=by induction k with|nil=>exact .inl ⟨rfl,rfl⟩|@step p h v k hv r s ih=>
   right;rcases ih with⟨e,rfl⟩|⟨u,hu,ru,su,g,z,e⟩;.subst e;exact⟨v,hv,r,s,0,.nil,by omega⟩
   .exact⟨u,hu,ru,su,g+v.h,.step z hv r s,by omega⟩
noncomputable def jQ(ws:List Wy)(a p:Int)(o:Option Int):Prop:=match o with|none=>∀h,¬ Wk ws a p h|some v=>Wk ws a p v/\∀h,Wk ws a p h->v<=h
theorem jQ.uniq{ws:List Wy}{a p:Int}{o o':Option Int}(h:jQ ws a p o)(h':jQ ws a p o'):o=o':=by cases o with
 |none=>cases o' with|none=>rfl|some v=>exact absurd h'.1 (h v)
 |some u=>cases o' with|none=>exact absurd h.1 (h' u)|some v=>have:=h.2 v h'.1;have:=h'.2 u h.1;congr 1;omega
theorem jQ.iff{us ws:List Wy}{a p b q:Int}{o:Option Int}(e:∀h,Wk us a p h↔Wk ws b q h)(k:jQ us a p o):jQ ws b q o:=by cases o with|none=>exact fun h z=>k h ((e h).mpr z)|some v=>exact⟨(e v).mp k.1,fun h z=>k.2 h ((e h).mpr z)⟩
noncomputable def oD:Option Int->D|none=>.non|some i=>.int i
end T
end
section
namespace T
open HH
noncomputable def Bx:Option Int->Nat|none=>6000001|some v=>v.toNat
noncomputable def meas(hs:List (Option Int)):Nat:=(hs.map Bx).sum
noncomputable def cnt(hs:List (Option Int)):Nat:=(hs.filter Option.isSome).length
theorem uU:∀{hs:List (Option Int)}{k:Nat}{o n:Option Int},hs[k]?=some o->Bx n<Bx o->meas (hs.set k n)<meas hs|[],_,_,_,h,_=>by simp at h|x::hs,0,o,n,h,l=>by simp at h;subst h;simp only[meas,List.set_cons_zero,List.map_cons,List.sum_cons];omega|x::hs,k+1,o,n,h,l=>by have:=uU (hs:=hs) (k:=k) (by simpa using h) l;simp only[meas,List.set_cons_succ,List.map_cons,List.sum_cons]at this ⊢;omega
theorem yw:∀(hs:List (Option Int)),(∀o∈hs,Bx o<=6000001)->meas hs<=6000001*hs.length|[],_=>by simp[meas]|x::hs,h=>by have h1:=h x (by simp);have h2:=yw hs fun o ho=>h o (by simp[ho]);simp only[meas,List.map_cons,List.sum_cons,List.length_cons]at h2 ⊢;omega
theorem iH:∀{hs:List (Option Int)}{k:Nat}{v:Int},hs[k]?=some none->cnt (hs.set k (some v))=cnt hs+1|[],_,_,h=>by simp at h|x::hs,0,v,h=>by simp at h;subst h;simp[cnt]|x::hs,k+1,v,h=>by have:=iH (hs:=hs) (k:=k) (v:=v) (by simpa using h);simp only[cnt,List.set_cons_succ,List.filter_cons]at this ⊢;split<;>simp[this]
theorem mC:∀{hs:List (Option Int)}{k:Nat}{u v:Int},hs[k]?=some (some u)->cnt (hs.set k (some v))=cnt hs|[],_,_,_,h=>by simp at h|x::hs,0,u,v,h=>by simp at h;subst h;simp[cnt]|x::hs,k+1,u,v,h=>by have:=mC (hs:=hs) (k:=k) (v:=v) (by simpa using h);simp only[cnt,List.set_cons_succ,List.filter_cons]at this ⊢;split<;>simp[this]
theorem vU(hs:List (Option Int)):cnt hs<=hs.length:=List.length_filter_le _ _
structure Ar(m:Int)(ws:List Wy)(a0:Int)(hs:List (Option Int)):Prop where
 len:(hs.length:Int)=m
 zero:hs[a0.toNat]?=some (some 0)wk:∀(p:Nat)(v:Int),hs[p]?=some (some v)->Wk ws a0 p v/\v<=1000000*((cnt hs:Int)-1)
noncomputable def kE(hs:List (Option Int))(v:Wy):Prop:=0<v.r->∀a:Int,hs[v.s.toNat]?=some (some a)->∃b:Int,hs[v.t.toNat]?=some (some b)/\b<=a+v.h
theorem Ar.pot{m a0:Int}{ws:List Wy}(hn:aY m ws){hs:List (Option Int)}(h:Ar m ws a0 hs):∀o∈hs,Bx o<=6000001:=by intro o ho;obtain⟨p,hp,e⟩:=List.getElem_of_mem ho;cases o with|none=>exact Nat.le_refl _|some v=>have h1:=(h.wk p v (by rw[List.getElem?_eq_getElem hp,e])).2;have h2:=vU hs;have h3:=h.len;have h4:=hn.m1;show v.toNat<=_;omega
theorem Ar.upd{m a0:Int}{ws:List Wy}(hn:aY m ws)(z0:0<=a0)(z1:a0<m){hs:List (Option Int)}(h:Ar m ws a0 hs){v:Wy}(hv:v∈ws)(r:0<v.r){a:Int}{o:Option Int}(ha:hs[v.s.toNat]?=some (some a))(ho:hs[v.t.toNat]?=some o)(hl:∀b,o=some b->a+v.h<b):Ar m ws a0 (hs.set v.t.toNat (some (a+v.h)))/\meas (hs.set v.t.toNat (some (a+v.h)))<meas hs:=by
 have hk:=hn.ok v hv;have s0:=hk.s0;have t0:=hk.t0;have h0:=hk.h0;have h1:=hk.h1;obtain⟨wa,la⟩:=h.wk _ _ ha;rw[show((v.s.toNat:Nat):Int)=v.s by omega]at wa;have an:=(wa.nn hn z0 z1).1;have wt:Wk ws a0 v.t (a+v.h):=.step wa hv r rfl;have hlt:=(List.getElem?_eq_some_iff.mp ho).1;have hnz:v.t.toNat≠a0.toNat:=by intro e;rw[e,h.zero]at ho;cases ho;have:=hl 0 rfl;omega
 have hc:(cnt hs:Int)<=cnt (hs.set v.t.toNat (some (a+v.h)))/\a+v.h<=1000000*((cnt (hs.set v.t.toNat (some (a+v.h))):Int)-1):=by cases o with|none=>rw[iH ho];omega|some b=>rw[mC ho];have:=(h.wk _ _ ho).2;have:=hl b rfl;omega
 refine⟨⟨by rw[List.length_set];exact h.len,by rw[List.getElem?_set_ne hnz];exact h.zero,fun p u e=>?_⟩,uU ho ?_⟩
 . by_cases hp:p=v.t.toNat;.subst hp;rw[List.getElem?_set_self hlt]at e;cases e;refine⟨by rw[show((v.t.toNat:Nat):Int)=v.t by omega];exact wt,hc.2⟩
   .rw[List.getElem?_set_ne (Ne.symm hp)]at e;obtain⟨w1,w2⟩:=h.wk p u e;exact⟨w1,by omega⟩
 .cases o with|none=>show(a+v.h).toNat<6000001;have h2:=vU hs;have h3:=h.len;have h4:=hn.m1;omega|some b=>have:=hl b rfl;show(a+v.h).toNat<b.toNat;omega
theorem Ar.least{m a0:Int}{ws:List Wy}(z0:0<=a0)(hn:aY m ws){hs:List (Option Int)}(h:Ar m ws a0 hs)(hr:∀v∈ws,kE hs v):∀(p:Nat)(o:Option Int),hs[p]?=some o->jQ ws a0 p o:=by
 have key:∀(p g:Int),Wk ws a0 p g->∃b:Int,hs[p.toNat]?=some (some b)/\b<=g:=by intro p g k;induction k with|nil=>exact⟨0,h.zero,Int.le_refl _⟩|@step p g v k hv r s ih=>obtain⟨a,ha,la⟩:=ih;obtain⟨b,hb,lb⟩:=hr v hv r a (by rw[s];exact ha);exact⟨b,hb,by omega⟩
 intro p o e;cases o with|none=>intro g k;obtain⟨b,hb,_⟩:=key _ _ k;rw[show((p:Nat):Int).toNat=p by omega,e]at hb;cases hb|some v=>refine⟨(h.wk p v e).1,fun g k=>?_⟩;obtain⟨b,hb,l⟩:=key _ _ k;rw[show((p:Nat):Int).toNat=p by omega,e]at hb;cases hb;exact l
theorem Ar.start{m a0:Int}{ws:List Wy}(hn:aY m ws)(z0:0<=a0)(z1:a0<m):Ar m ws a0 ((List.replicate m.toNat none).set a0.toNat (some 0)):=by
 have m0:=hn.m0;refine⟨by rw[List.length_set,List.length_replicate];omega,List.getElem?_set_self (by rw[List.length_replicate];omega),fun p v e=>?_⟩;by_cases hp:p=a0.toNat;.subst hp;rw[List.getElem?_set_self (by rw[List.length_replicate];omega)]at e;cases e;refine⟨by rw[show((a0.toNat:Nat):Int)=a0 by omega];exact .nil,?_⟩;rw[iH (by rw[List.getElem?_replicate,if_pos (by omega)])];omega
 .rw[List.getElem?_set_ne (Ne.symm hp),List.getElem?_replicate]at e;split at e<;>cases e
end T
end
section
namespace T
open HH
theorem nA{α:Type}{l:List α}{f:α->D}{i:Int}{x:α}(h0:0<=i)(h:l[i.toNat]?=some x):at' (l.map f) i=some (f x):=by have:=Em (f:=f) h;rwa[show((i.toNat:Nat):Int)=i by omega]at this
theorem v9{n:Nat}{i:Int}(h0:0<=i)(h:i<n):jr n i=some i.toNat:=by have:=Ny (n:=n) (k:=i.toNat) (by omega);rwa[show((i.toNat:Nat):Int)=i by omega]at this
@[simp]theorem Ft:gq (oD none)=true:=rfl
@[simp]theorem FN{v:Int}:gq (oD (some v))=false:=rfl
inductive PJ(m:Int)(ws:List Wy)(a0:Int)(M:Nat)(r:List D)(ρ:List Sl):Prop where|mk(hs:List (Option Int))(b:Bool)(us pre:List Wy)(s4 s5:Sl)(q0:ρ=[.val false (cH m ws),.val false (.int a0),.own false (hs.map oD),.val false (.bl b),s4,s5])(q1:fr s4=true)(q2:fr s5=true)(q3:r=us.map Wy.d)(q4:ws=pre++us)(q5:Ar m ws a0 hs)(q6:meas hs<=M)(q7:((b=true/\meas hs<M)\/(b=false/\∀v∈pre,kE hs v)))
inductive WJ(m:Int)(ws:List Wy)(a0:Int)(M:Nat)(ρ:List Sl):Prop where|mk(hs:List (Option Int))(b:Bool)(s4 s5:Sl)(q0:ρ=[.val false (cH m ws),.val false (.int a0),.own false (hs.map oD),.val false (.bl b),s4,s5])(q1:fr s4=true)(q2:fr s5=true)(q3:Ar m ws a0 hs)(q4:((b=true/\meas hs<M)\/(b=false/\∀v∈ws,kE hs v)))
theorem CJ{w n:Nat}{m a0:Int}{ws:List Wy}{Q:R->List Sl->Prop}(hw:50000000<=w)(h:aY m ws)(z0:0<=a0)(z1:a0<m)(k:∀hs:List (Option Int),(hs.length:Int)=m->(∀(p:Nat)(o:Option Int),hs[p]?=some o->jQ ws a0 p o)->(∀(p:Nat)(v:Int),hs[p]?=some (some v)->0<=v/\v<=6000000)->Q (.own (hs.map oD)) [.val false (cH m ws),.val false (.int a0)]):(run Γ w (n+1) 2 [.val false (cH m ws),.val false (.int a0)]).sat Q:=by
 have m0:=h.m0;have m1:=h.m1;refine bO (d:=f2) rfl rfl (by decide) ?_;refine gJ (fun ρ=>ρ=[.val false (cH m ws),.val false (.int a0),.own false ((List.replicate m.toNat (none:Option Int)).map oD),.bK,.bK,.bK]) ?_ ?_;.simp[f2,oD];refine⟨by omega,by show _<=16777216;omega⟩
 rintro _ rfl;refine gJ (fun ρ=>ρ=[.val false (cH m ws),.val false (.int a0),.own false (((List.replicate m.toNat (none:Option Int)).set a0.toNat (some 0)).map oD),.bK,.bK,.bK]) ?_ ?_;.simp[v9 (n:=m.toNat) (i:=a0) z0 (by omega),oD]
 rintro _ rfl;have hst:=Ar.start h z0 z1;generalize((List.replicate m.toNat (none:Option Int)).set a0.toNat (some 0))=hs0 at*;first|apply aa|apply au
 simp;apply aa;simp;have hm0:meas hs0<=6000001*hs0.length:=yw hs0 (hst.pot h);have hl0:=hst.len;refine iI (WJ m ws a0) ?_ (k:=w) (m:=meas hs0+1) (by omega) ⟨hs0,true,.bK,.bK,rfl,rfl,rfl,hst,.inl ⟨rfl,Nat.lt_succ_self _⟩⟩;rintro M _⟨hs,b,s4,s5,rfl,h4,h5,hh,hb⟩;simp;rcases hb with⟨rfl,hM⟩|⟨rfl,abA⟩
 . simp;first|apply aa|apply au
   simp;apply aa;simp;refine cX (PJ m ws a0 (meas hs)) ?_ ?_ ⟨hs,false,ws,[],s4,s5,rfl,h4,h5,rfl,rfl,hh,Nat.le_refl _,.inr ⟨rfl,by simp⟩⟩;.rintro d r _⟨hs',b,us,pre,s4,s5,rfl,h4,h5,hr,hws,hh',hle,hb⟩;cases us with|nil=>cases hr|cons v us=>
       obtain⟨rfl,rfl⟩:d=v.d/\r=us.map Wy.d:=by simpa using hr
       have hv:v∈ws:=by rw[hws];simp
       have hk:=h.ok v hv;have s0:=hk.s0;have s1:=hk.s1;have t0:=hk.t0;have t1:=hk.t1;have hlen:=hh'.len;obtain⟨os,es⟩:∃o,hs'[v.s.toNat]?=some o:=⟨_,List.getElem?_eq_getElem (by omega)⟩;obtain⟨ot,et⟩:∃o,hs'[v.t.toNat]?=some o:=⟨_,List.getElem?_eq_getElem (by omega)⟩;have as:=nA (f:=oD) s0 es;have at_:=nA (f:=oD) t0 et;have ixt:jr hs'.length v.t=some v.t.toNat:=v9 t0 (by omega);have Fj:ws=(pre++[v])++us:=by rw[hws];simp
       have stay:kE hs' v->((b=true/\meas hs'<meas hs)\/(b=false/\∀u∈pre++[v],kE hs' u)):=fun hx=>by
        rcases hb with hb|⟨hb,hp⟩;.exact .inl hb
        . refine .inr ⟨hb,fun u hu=>?_⟩;rcases List.mem_append.mp hu with hu|hu;.exact hp u hu
          .rw[List.mem_singleton.mp hu];exact hx
       simp[h4];apply aa;by_cases r0:0<v.r;.cases os with|none=>simp[Wy.d,r0,as];exact⟨hs',b,us,pre++[v],_,_,rfl,rfl,h5,rfl,Fj,hh',hle,stay fun _ a ha=>by rw[es]at ha;cases ha⟩|some a=>
           have up:=fun(hl:∀b,ot=some b->a+v.h<b)=>hh'.upd h z0 z1 hv r0 es et hl;simp[Wy.d,r0,as];apply aa;simp[as,oD,h5];have vh:∀hs2:List (Option Int),hs2=hs'.set v.t.toNat (some (a+v.h))->(hs'.map oD).set v.t.toNat (D.int (a+v.h))=hs2.map oD:=fun hs2 e=>by rw[e,List.map_set];rfl
           first|apply aa|apply au
           cases ot with|none=>
             obtain⟨u1,u2⟩:=up fun b hb=>by cases hb
             have hse:=vh _ rfl;generalize hs'.set v.t.toNat (some (a+v.h))=hs2 at*;simp[at_];apply aa;simp[ixt,hse];apply aa;simp;exact⟨hs2,true,us,pre++[v],_,_,rfl,rfl,rfl,rfl,Fj,u1,by omega,.inl ⟨rfl,by omega⟩⟩|some bb=>
             by_cases hlt:a+v.h<bb
             . obtain⟨u1,u2⟩:=up fun b hb=>by cases hb;exact hlt
               have hse:=vh _ rfl;generalize hs'.set v.t.toNat (some (a+v.h))=hs2 at*;simp[at_,oD,hlt];apply aa;simp[ixt,hse];apply aa;simp;exact⟨hs2,true,us,pre++[v],_,_,rfl,rfl,rfl,rfl,Fj,u1,by omega,.inl ⟨rfl,by omega⟩⟩
             .simp[at_,oD,hlt];exact⟨hs',b,us,pre++[v],_,_,rfl,rfl,rfl,rfl,Fj,hh',hle,stay fun _ a' ha=>by rw[es]at ha;cases ha;exact⟨bb,et,by omega⟩⟩
       .simp[Wy.d,r0];exact⟨hs',b,us,pre++[v],_,_,rfl,rfl,h5,rfl,Fj,hh',hle,stay fun hx=>absurd hx r0⟩
   . rintro _⟨hs',b,us,pre,s4,s5,rfl,h4,h5,hr,hws,hh',hle,hb⟩;have:us=[]:=by cases us with|nil=>rfl|cons _ _=>cases hr
     subst this;rw[List.append_nil]at hws;subst hws;simp;rcases hb with⟨rfl,hl⟩|⟨rfl,hp⟩;.exact⟨meas hs,hM,hs',true,_,_,rfl,h4,h5,hh',.inl ⟨rfl,hl⟩⟩
     .exact⟨0,by omega,hs',false,_,_,rfl,h4,h5,hh',.inr ⟨rfl,hp⟩⟩
 . simp;first|apply aa|apply au
   simp;exact k hs hh.len (hh.least z0 h abA) fun p v e=>by have h1:=hh.wk p v e;have h2:=vU hs;have h3:=hh.len;exact⟨(h1.1.nn h z0 z1).1,by omega⟩
end T
end
section
namespace T
open HH
noncomputable def Wy.turn(m:Int)(w:Wy):Wy:=⟨m-1-w.t,m-1-w.s,w.r,w.h⟩
theorem Al{m:Int}{ws:List Wy}:(ws.map (Wy.turn m)).map (Wy.turn m)=ws:=by
 rw[List.map_map];have:(Wy.turn m ∘ Wy.turn m)=id:=by funext w;cases w;simp only[Function.comp,Wy.turn,id];congr 1<;>omega
 rw[this];simp
theorem Eu{m:Int}{ws:List Wy}(h:aY m ws):aY m (ws.map (Wy.turn m)):=by refine⟨h.m0,h.m1,by simpa using h.len,fun v hv=>?_⟩;obtain⟨u,hu,rfl⟩:=List.mem_map.mp hv;have o:=h.ok u hu;have:=o.s0;have:=o.s1;have:=o.t0;have:=o.t1;have:=o.ne;exact⟨by show 0<=m-1-u.t;omega,by show m-1-u.t<m;omega,by show 0<=m-1-u.s;omega,by show m-1-u.s<m;omega,by show m-1-u.t≠m-1-u.s;omega,o.r0,o.r1,o.h0,o.h1⟩
theorem Wk.turned{m:Int}{ws:List Wy}{b P h:Int}(k:Wk (ws.map (Wy.turn m)) (m-1-b) P h):Wk ws (m-1-P) b h:=by induction k with|nil=>rw[show m-1-(m-1-b)=b by omega];exact .nil|@step p h v k hv r s ih=>
   obtain⟨u,hu,rfl⟩:=List.mem_map.mp hv;have s':m-1-u.t=p:=s;have e1:m-1-p=u.t:=by omega
   rw[e1]at ih;have e2:m-1-(Wy.turn m u).t=u.s:=by show m-1-(m-1-u.s)=u.s;omega
   rw[e2];have:=(Wk.one hu (show 0<u.r from r)).trans ih;rw[Int.add_comm];exact this
theorem Gz{m:Int}{ws:List Wy}{p b h:Int}:Wk (ws.map (Wy.turn m)) (m-1-b) (m-1-p) h↔Wk ws p b h:=by
 constructor;.intro k;have:=k.turned;rwa[show m-1-(m-1-p)=p by omega]at this
 . intro k;have k':Wk ((ws.map (Wy.turn m)).map (Wy.turn m)) (m-1-(m-1-p)) b h:=by rw[Al,show m-1-(m-1-p)=p by omega];exact k
   exact k'.turned
noncomputable def YW(m:Int):D->D|.tup [.int s,.int t,.int r,.int h]=>(Wy.turn m ⟨s,t,r,h⟩).d|d=>d
theorem Kr{m:Int}{w:Wy}:YW m w.d=(w.turn m).d:=rfl
inductive FT3(a b c:Sl)(ρ:List Sl):Prop where|mk(s:Sl)(q0:ρ=[a,b,c,s])(q1:fr s=true)
theorem xq{w n:Nat}{m:Int}{ws:List Wy}{Q:R->List Sl->Prop}(hl:ws.length<=13)(q:Q (.val (cH m (ws.map (Wy.turn m)))) [.val false (cH m ws)]):(run Γ w (n+1) 1 [.val false (cH m ws)]).sat Q:=by
 refine bO (d:=f1) rfl rfl (by decide) ?_;first|apply aa|apply au
 simp[f1];apply aa;have hlim:ws.length<=lim:=by show _<=16777216;omega
 simp[hlim];refine lV (FT3 _ _ _) (YW m) ⟨.bK,rfl,rfl⟩ ?_ ?_;.rintro d hd _⟨s,rfl,hs⟩;obtain⟨v,hv,rfl⟩:=List.mem_map.mp hd;simp[hs,sX,oO,rC,Cu,Kr];exact⟨rfl,_,rfl,rfl⟩
 rintro _⟨s,rfl,hs⟩;simp;apply aa;simp;have e:cH m (ws.map (Wy.turn m))=.tup [.int m,.tup ((ws.map Wy.d).map (YW m))]:=by simp[cH,Kr]
 rw[e]at q;simpa using q
@[simp]theorem U8{ds:List D}:blt .Jw [.lst ds]=some (.own ds.reverse):=rfl
structure qU(m:Int)(ws:List Wy)(b:Int)(L:List (Option Int)):Prop where
 len:(L.length:Int)=m
 least:∀(p:Nat)(o:Option Int),L[p]?=some o->jQ ws p b o
 bnd:∀(p:Nat)(v:Int),L[p]?=some (some v)->0<=v/\v<=6000000
theorem wz{w n:Nat}{m b:Int}{ws:List Wy}{Q:R->List Sl->Prop}(hw:50000000<=w)(h:aY m ws)(b0:0<=b)(b1:b<m)(k:∀L:List (Option Int),qU m ws b L->Q (.own (L.map oD)) [.val false (cH m ws),.val false (.int b)]):(run Γ w (n+2) 3 [.val false (cH m ws),.val false (.int b)]).sat Q:=by
 have m0:=h.m0;have hl:=h.len;refine bO (d:=f3) rfl rfl (by decide) ?_;first|apply aa|apply au
 simp[f3];refine xq (by omega) ?_;simp;refine CJ hw (Eu h) (by omega) (by omega) fun hs h1 h2 h3=>?_;simp;rw[<-List.map_reverse];have ix:∀(p:Nat)(o:Option Int),hs.reverse[p]?=some o->hs[hs.length-1-p]?=some o/\p<hs.length:=fun p o e=>by
  have hp:p<hs.length:=by have:=(List.getElem?_eq_some_iff.mp e).1;simpa using this
  rw[List.getElem?_reverse hp]at e;exact⟨e,hp⟩
 refine k hs.reverse ⟨by simpa using h1,fun p o e=>?_,fun p v e=>?_⟩;.obtain⟨e1,hp⟩:=ix p o e;have:=h2 _ o e1;rw[show((hs.length-1-p:Nat):Int)=m-1-(p:Int)by omega]at this;exact this.iff fun h=>Gz
 .obtain⟨e1,hp⟩:=ix p _ e;exact h3 _ v e1
noncomputable def wK(L:List (Option Int))(v:Wy):Bool:=decide (0<v.r)&&match L[v.t.toNat]?with|some (some g)=>(match L[v.s.toNat]?with|some (some f)=>v.h+g==f|_=>false)|_=>false
theorem Lx{i:Int}:cm .eq (.int i) .non=some false:=rfl
theorem Dw{w n:Nat}{m:Int}{v:Wy}{L:List (Option Int)}{Q:R->List Sl->Prop}(vo:v.Ok m)(hl:(L.length:Int)=m)(q:Q (.val (.bl (wK L v))) [.val false v.d,.own true (L.map oD)]):(run Γ w (n+1) 4 [.val false v.d,.own true (L.map oD)]).sat Q:=by
 have s0:=vo.s0;have s1:=vo.s1;have t0:=vo.t0;have t1:=vo.t1;obtain⟨os,es⟩:∃o,L[v.s.toNat]?=some o:=⟨_,List.getElem?_eq_getElem (by omega)⟩;obtain⟨ot,et⟩:∃o,L[v.t.toNat]?=some o:=⟨_,List.getElem?_eq_getElem (by omega)⟩;have as:=nA (f:=oD) s0 es;have at_:=nA (f:=oD) t0 et;refine bO (d:=f4) rfl rfl (by decide) ?_;first|apply aa|apply au
 unfold wK at q;rw[es,et]at q;by_cases hr:0<v.r;.cases ot with|none=>simp[f4,oO,rC,hr,at_];simpa[hr]using q|some g=>cases os with|none=>simp[f4,sX,oO,rC,Cu,hr,at_,as];simp[oD,sX,as,Lx];simpa[hr]using q|some f=>simp[f4,sX,oO,rC,Cu,hr,at_,as];simp[oD,sX,as];simpa[hr]using q
 .simp[f4,rC,hr];simpa[hr]using q
noncomputable def outI(ws:List Wy)(p:Int):List Int:=mz (jU p 0 ws)
theorem nR{p:Int}{j:Nat}:∀{ws:List Wy}{i:Nat},j∈jU p i ws↔∃v,i<=j/\ws[j-i]?=some v/\v.s=p
 |[],i=>by simp[jU]|w::ws,i=>by
   have ih:=nR (p:=p) (j:=j) (ws:=ws) (i:=i+1);have key:(∃v,i<=j/\(w::ws)[j-i]?=some v/\v.s=p)↔(j=i/\w.s=p)\/∃v,i+1<=j/\ws[j-(i+1)]?=some v/\v.s=p:=by
    constructor
    . rintro⟨v,h1,h2,h3⟩;by_cases e:j=i;.subst e;simp at h2;subst h2;exact .inl ⟨rfl,h3⟩
      .rw[show j-i=(j-(i+1))+1 by omega,List.getElem?_cons_succ]at h2;exact .inr ⟨v,by omega,h2,h3⟩
    . rintro(⟨rfl,h⟩|⟨v,h1,h2,h3⟩);.exact⟨w,Nat.le_refl _,by simp,h⟩
      .exact⟨v,by omega,by rw[show j-i=(j-(i+1))+1 by omega,List.getElem?_cons_succ];exact h2,h3⟩
   rw[key,<-ih,jU];by_cases e:w.s=p;.rw[if_pos e,List.mem_cons];simp[e]
   .rw[if_neg e];simp[e]
theorem kJ{ws:List Wy}{p k:Int}:k∈outI ws p↔0<=k/\k<(ws.length:Int)/\∃v,ws[k.toNat]?=some v/\v.s=p:=by
 unfold outI mz;rw[List.mem_map];constructor;.rintro⟨j,hj,rfl⟩;obtain⟨v,_,h2,h3⟩:=nR.mp hj;have:=(List.getElem?_eq_some_iff.mp h2).1;exact⟨by omega,by omega,v,by simpa using h2,h3⟩
 .rintro⟨h0,h1,v,h2,h3⟩;exact⟨k.toNat,nR.mpr ⟨v,Nat.zero_le _,by simpa using h2,h3⟩,by omega⟩
theorem Dg{ws:List Wy}{p:Int}:∀{us:List Wy}{i:Nat},(jU p i us).length<=us.length|[],_=>Nat.le_refl _|w::us,i=>by rw[jU];have:=Dg (ws:=ws) (p:=p) (us:=us) (i:=i+1);split<;>simp<;>omega
noncomputable def isC(ws:List Wy)(L:List (Option Int))(k:Int):Bool:=match ws[k.toNat]?with|some v=>wK L v|none=>false
noncomputable def gQ(ws:List Wy)(L:List (Option Int)):D->Option D|.int k=>if isC ws L k=true then some (.int k)else none|_=>none
theorem Pn{ws:List Wy}{L:List (Option Int)}(ks:List Int):(ks.map D.int).filterMap (gQ ws L)=(ks.filter (isC ws L)).map D.int:=by induction ks with|nil=>rfl|cons k ks ih=>rw[List.map_cons,List.filterMap_cons,List.filter_cons,ih];rw[show gQ ws L (.int k)=if isC ws L k=true then some (D.int k)else none from rfl];by_cases h:isC ws L k=true<;>simp[h]
theorem Ac{m b p g:Int}{ws:List Wy}{L:List (Option Int)}(hk:aY m ws)(hL:qU m ws b L)(p0:0<=p)(p1:p<m)(hg:L[p.toNat]?=some (some g))(hne:p≠b):∃(k:Int),k∈(outI ws p).filter (isC ws L):=by
 have hle:=hL.least _ _ hg;rw[show((p.toNat:Nat):Int)=p by omega]at hle;rcases hle.1.first with⟨e,_⟩|⟨v,hv,r,s,g',z,e⟩;.exact absurd e hne
 .obtain⟨i,hi,ei⟩:=List.getElem_of_mem hv;have vo:=hk.ok v hv;have t0:=vo.t0;have t1:=vo.t1;have hlen:=hL.len;obtain⟨ot,et⟩:∃o,L[v.t.toNat]?=some o:=⟨_,List.getElem?_eq_getElem (by omega)⟩;have hlt:=hL.least _ _ et;rw[show((v.t.toNat:Nat):Int)=v.t by omega]at hlt;cases ot with|none=>exact absurd z (hlt g')|some f=>
     have h1:=hlt.2 g' z;have h2:g<=v.h+f:=by have:=(Wk.one hv r).trans hlt.1;rw[s]at this;exact hle.2 _ this
     refine⟨(i:Int),List.mem_filter.mpr ⟨kJ.mpr ⟨by omega,by omega,v,by rw[Int.toNat_natCast,List.getElem?_eq_getElem hi,ei],s⟩,?_⟩⟩;unfold isC;rw[Int.toNat_natCast,List.getElem?_eq_getElem hi,ei];simp only[wK,et,s,hg,r,decide_true,Bool.true_and];simp;omega
inductive FWk(a b c d e f:Sl)(ρ:List Sl):Prop where|mk(s:Sl)(q0:ρ=[a,b,c,d,e,f,s])(q1:fr s=true)
theorem Eb{ns:List Int}(h:ns≠[]):∃i,i∈ns/\ns.min?=some i:=by cases e:ns.min? with|none=>rw[List.min?_eq_none_iff]at e;exact absurd e h|some i=>exact⟨i,List.min?_mem e,rfl⟩
end T
end
section
namespace T
open HH
inductive Ch(ws:List Wy):Int->List Int->Int->Int->Prop where|nil{p:Int}:Ch ws p [] p 0|cons{p q h:Int}{j:Nat}{v:Wy}{w:List Int}(hv:ws[j]?=some v)(s:v.s=p)(r:0<v.r)(k:Ch ws v.t w q h):Ch ws p ((j:Int)::w) q (v.h+h)
theorem Ch.wk{ws:List Wy}{p q h:Int}{w:List Int}(c:Ch ws p w q h):Wk ws p q h:=by induction c with|nil=>exact .nil|cons hv s r k ih=>have:=(Wk.one (List.mem_of_getElem? hv) r).trans ih;rwa[s]at this
inductive Gd(ws:List Wy)(L:List (Option Int))(b:Int):Int->List Int->Prop where|nil:Gd ws L b b []|cons{p:Int}{j:Nat}{v:Wy}{l:List Int}(ne:p≠b)(hm:((outI ws p).filter (isC ws L)).min?=some (j:Int))(hv:ws[j]?=some v)(k:Gd ws L b v.t l):Gd ws L b p ((j:Int)::l)
theorem xR{ws:List Wy}{L:List (Option Int)}{j:Nat}{v:Wy}{g:Int}(hv:ws[j]?=some v)(hg:L[v.s.toNat]?=some (some g)):isC ws L (j:Int)=true↔0<v.r/\∃f,L[v.t.toNat]?=some (some f)/\v.h+f=g:=by unfold isC wK;rw[Int.toNat_natCast,hv];simp only[hg];cases e:L[v.t.toNat]?with|none=>simp|some o=>cases o with|none=>simp|some f=>simp
theorem rF{ws:List Wy}{L:List (Option Int)}{p:Int}{j:Nat}{v:Wy}{g:Int}(hm:((outI ws p).filter (isC ws L)).min?=some (j:Int))(hv:ws[j]?=some v)(hg:L[p.toNat]?=some (some g)):v.s=p/\0<v.r/\(∃f,L[v.t.toNat]?=some (some f)/\v.h+f=g)/\∀(i:Nat)(u:Wy)(f:Int),ws[i]?=some u->u.s=p->0<u.r->L[u.t.toNat]?=some (some f)->u.h+f=g->j<=i:=by have h1:=List.mem_filter.mp (List.min?_mem hm);obtain⟨_,_,v',hv',hs⟩:=kJ.mp h1.1;rw[Int.toNat_natCast,hv]at hv';cases hv';have h2:=(xR hv (by rw[hs];exact hg)).mp h1.2;refine⟨hs,h2.1,h2.2,fun i u f hu us ur hf e=>?_⟩;have hlt:=(List.getElem?_eq_some_iff.mp hu).1;have:(i:Int)∈(outI ws p).filter (isC ws L):=List.mem_filter.mpr ⟨kJ.mpr ⟨by omega,by omega,u,by rw[Int.toNat_natCast];exact hu,us⟩,(xR hu (by rw[us];exact hg)).mpr ⟨ur,f,hf,e⟩⟩;have:=(List.min?_eq_some_iff.mp hm).2 _ this;omega
theorem Gd.le{m b:Int}{ws:List Wy}{L:List (Option Int)}(hN:aY m ws)(hL:qU m ws b L){p:Int}{l:List Int}(k:Gd ws L b p l):∀{w:List Int}{g:Int},0<=p->L[p.toNat]?=some (some g)->Ch ws p w b g->aQ w l=false:=by induction k with|nil=>intro w g _ _ _;cases w<;>rfl|@cons p j v l ne hm hv k ih=>intro w g p0 hg c;obtain⟨h1,h2,⟨f,h3,h4⟩,h5⟩:=rF hm hv hg;cases c with|nil=>exact absurd rfl ne|@cons _ _ h i u w hu us ur c'=>have uo:=hN.ok u (List.mem_of_getElem? hu);have t0:=uo.t0;have t1:=uo.t1;have hlen:=hL.len;obtain⟨o,eo⟩:∃o,L[u.t.toNat]?=some o:=⟨_,List.getElem?_eq_getElem (by omega)⟩;have hl:=hL.least _ _ eo;rw[show((u.t.toNat:Nat):Int)=u.t by omega]at hl;cases o with|none=>exact absurd c'.wk (hl _)|some e=>
       have z1:=hl.2 _ c'.wk;have z2:u.h+h<=u.h+e:=by have hp:=hL.least _ _ hg;rw[show((p.toNat:Nat):Int)=p by omega]at hp;have:=(Wk.one (List.mem_of_getElem? hu) ur).trans hl.1;rw[us]at this;exact hp.2 _ this
       have z3:e=h:=by omega
       subst z3;have z4:=h5 i u e hu us ur eo rfl;rw[aQ];by_cases q:i=j;.subst q;rw[hv]at hu;cases hu;rw[ih t0 eo c'];simp
       . have a1:¬((i:Int)<(j:Int)):=by omega
         have a2:¬((i:Int)=(j:Int)):=by omega
         simp[a1,a2]
theorem Ls{ws:List Wy}{st:St}{j:Nat}{v:Wy}(hv:ws[j]?=some v)(hg:goes st v=true):on st j v∈nx ws st:=by
 have key:∀(us:List Wy)(i j:Nat),us[j]?=some v->on st (i+j) v∈lG st i us:=by intro us;induction us with|nil=>intro i j h;simp at h|cons u us ih=>intro i j h;cases j with|zero=>simp at h;subst h;rw[lG,if_pos hg];simp|succ j=>
      have:=ih (i+1) j (by simpa using h);rw[lG,show i+(j+1)=i+1+j by omega];split;.exact List.mem_cons_of_mem _ this
      .exact this
 have:=key ws 0 j hv;rwa[Nat.zero_add]at this
theorem Vr{ws:List Wy}{st s:St}(h:s∈nx ws st):∃j v,ws[j]?=some v/\goes st v=true/\s=on st j v:=by
 have key:∀(us:List Wy)(i:Nat),s∈lG st i us->∃j v,us[j]?=some v/\goes st v=true/\s=on st (i+j) v:=by intro us;induction us with|nil=>intro i h;cases h|cons u us ih=>
    intro i h;rw[lG]at h;have rest:s∈lG st (i+1) us->∃j v,(u::us)[j]?=some v/\goes st v=true/\s=on st (i+j) v:=fun h=>by obtain⟨j,v,h1,h2,h3⟩:=ih (i+1) h;exact⟨j+1,v,by simpa using h1,h2,by rw[h3,show i+1+j=i+(j+1)by omega]⟩
    split at h
    . rename_i c;rcases List.mem_cons.mp h with h|h;.exact⟨0,u,by simp,c,h⟩
      .exact rest h
    .exact rest h
 obtain⟨j,v,h1,h2,h3⟩:=key ws 0 h;exact⟨j,v,h1,h2,by rwa[Nat.zero_add]at h3⟩
theorem Gd.inA{m b:Int}{ws:List Wy}{L:List (Option Int)}(hN:aY m ws)(hL:qU m ws b L){p:Int}{l:List Int}(k:Gd ws L b p l):∀{st:St}{g:Int},0<=p->Vs m st->lst st.ps=p->L[p.toNat]?=some (some g)->(∀x∈st.ps,∃gx,L[x.toNat]?=some (some gx)/\g<=gx)->∃s∈A ws st,s.w=st.w++l/\lst s.ps=b/\s.h=st.h+g:=by induction k with|nil=>intro st g p0 hs hl hg _;have z:=hL.least _ _ hg;rw[show((b.toNat:Nat):Int)=b by omega]at z;have z1:=z.2 0 .nil;have z2:=hL.bnd _ _ hg;refine⟨st,by rw[uL hN hs];simp,by simp,hl,by omega⟩|@cons p j v l ne hm hv k ih=>
   intro st g p0 hs hl hg hx;obtain⟨h1,h2,⟨f,h3,h4⟩,_⟩:=rF hm hv hg;have vo:=hN.ok v (List.mem_of_getElem? hv);have h0:=vo.h0;have hn:v.t∉st.ps:=fun z=>by obtain⟨gx,e1,e2⟩:=hx _ z;rw[h3]at e1;cases e1;omega
   have hgo:goes st v=true:=by unfold goes;simp[h1,hl,h2,hn]
   have hm':=Ls hv hgo;obtain⟨s,q1,q2,q3,q4⟩:=ih (st:=on st j v) vo.t0 (dY hN hs hm').1 jX h3 fun x hx'=>by
    rcases List.mem_append.mp hx' with hx'|hx';.obtain⟨gx,e1,e2⟩:=hx x hx';exact⟨gx,e1,by omega⟩
    .rw[List.mem_singleton.mp hx'];exact⟨f,h3,Int.le_refl _⟩
   refine⟨s,?_,?_,q3,?_⟩;.rw[uL hN hs];exact List.mem_cons_of_mem _ (List.mem_flatMap.mpr ⟨_,hm',q1⟩)
   .rw[q2];show(st.w++[(j:Int)])++l=_;simp
   .rw[q4];show(st.h+v.h)+f=_;omega
theorem Js{m:Int}{ws:List Wy}(hN:aY m ws):∀(k:Nat){st:St},Vs m st->st.ps.length+k=6->∀s∈A ws st,∃w h,s.w=st.w++w/\s.h=st.h+h/\Ch ws (lst st.ps) w (lst s.ps) h/\s.w.length<=6
 |k,st,hs,hk,s,hm=>by
   rw[uL hN hs]at hm;rcases List.mem_cons.mp hm with rfl|hm;.have:=hs.len;exact⟨[],0,by simp,by simp,.nil,by omega⟩
   .obtain⟨t,ht,hm⟩:=List.mem_flatMap.mp hm;cases k with|zero=>rw[wZ hN hs (by omega)]at ht;cases ht|succ k=>
       obtain⟨v1,v2,_⟩:=dY hN hs ht;obtain⟨w,h,e1,e2,c,e3⟩:=Js hN k v1 (by omega) s hm;obtain⟨j,v,hv,hg,rfl⟩:=Vr ht;have hg:v.s=lst st.ps/\0<v.r/\v.t∉st.ps:=by unfold goes at hg;simpa using hg
       rw[show lst (on st j v).ps=v.t from jX]at c;refine⟨(j:Int)::w,v.h+h,?_,?_,.cons hv hg.1 hg.2.1 c,e3⟩;.rw[e1];show(st.w++[(j:Int)])++w=_;simp
       .rw[e2];show(st.h+v.h)+h=_;omega
theorem Bd{ds:List D}{x:D}(hx:x∈ds)(h:∀y∈ds,aQ (bD y) (bD x)=false)(o:∀y∈ds,p8 y=true):∃r,lH ds=x::r:=by have hp:=iG ds;have hs:=o9 ds;cases e:lH ds with|nil=>rw[e]at hp;have:=hp.symm.eq_nil;rw[this]at hx;cases hx|cons z r=>
   rw[e]at hp hs;have hz:z∈ds:=hp.mem_iff.mp (by simp);have hx':x∈z::r:=hp.mem_iff.mpr hx;refine⟨r,?_⟩;congr 1;rcases List.mem_cons.mp hx' with rfl|hx';.rfl
   . have h1:=(List.pairwise_cons.mp hs).1 x hx';have h2:aQ (bD x) (bD z)=false:=by unfold mq at h1;simpa using h1
     exact sy (.inr ⟨o z hz,o x hx⟩) (pA _ _ (h z hz) h2)
noncomputable def pY(b:Int)(st:St):Option D:=if lst st.ps=b then some (.tup [.int st.h,.tup (st.w.map D.int)])else none
noncomputable def RN(b:Int):D->Option D|.tup [w,.int l,h]=>if l=b then some (.tup [h,w])else none|_=>none
theorem yN{b:Int}:∀{fd:List St},(fd.map uN).filterMap (RN b)=fd.filterMap (pY b)|[]=>rfl|st::fd=>by rw[List.map_cons,List.filterMap_cons,List.filterMap_cons,yN];rfl
theorem uR{l:List Int}:(l.map D.int).map gR=l:=by rw[List.map_map];have:(gR ∘ D.int)=id:=rfl;rw[this];simp
theorem ue{l:List Int}:(l.map D.int).all cT=true:=by rw[List.all_eq_true];intro d hd;obtain⟨p,_,rfl⟩:=List.mem_map.mp hd;rfl
theorem MP{b:Int}{fd:List St}:(fd.filterMap (pY b)).all oF=true:=by
 rw[List.all_eq_true];intro d hd;obtain⟨st,_,e⟩:=List.mem_filterMap.mp hd;unfold pY at e;split at e;.cases e;exact ue
 .cases e
theorem first_is{m b:Int}{ws:List Wy}{L:List (Option Int)}{l:List Int}{g:Int}{fd:List St}(hN:aY m ws)(hL:qU m ws b L)(v0:Vs m ⟨[],[0],0⟩)(k:Gd ws L b 0 l)(hg:L[0]?=some (some g))(hP:fd.Perm (A ws ⟨[],[0],0⟩)):(∃r,(lH ((fd.filterMap (pY b)).map pX)).map zK=.tup [.int g,.tup (l.map D.int)]::r)/\l.length<=6:=by
 obtain⟨s,q1,q2,q3,q4⟩:=k.inA hN hL (st:=⟨[],[0],0⟩) (Int.le_refl _) v0 rfl hg fun x hx=>by
  have:x=0:=by simpa using hx
  subst this;exact⟨g,hg,Int.le_refl _⟩
 have q2:s.w=l:=q2;have q4:s.h=g:=by rw[q4];show 0+g=g;omega
 obtain⟨_,_,_,_,_,q5⟩:=Js hN 5 v0 rfl s q1;refine⟨?_,by rw[<-q2];exact q5⟩;have hx:D.tup (.int g::l.map D.int)∈(fd.filterMap (pY b)).map pX:=by refine List.mem_map.mpr ⟨.tup [.int g,.tup (l.map D.int)],List.mem_filterMap.mpr ⟨s,hP.mem_iff.mpr q1,?_⟩,rfl⟩;unfold pY;rw[if_pos q3,q2,q4]
 have hy:∀y∈(fd.filterMap (pY b)).map pX,∃t∈A ws ⟨[],[0],0⟩,lst t.ps=b/\y=D.tup (.int t.h::t.w.map D.int):=fun y h=>by
  obtain⟨d,hd,rfl⟩:=List.mem_map.mp h;obtain⟨t,ht,e⟩:=List.mem_filterMap.mp hd;unfold pY at e;split at e;.rename_i c;cases e;exact⟨t,hP.mem_iff.mp ht,c,rfl⟩
  .cases e
 have hle:∀y∈(fd.filterMap (pY b)).map pX,aQ (bD y) (bD (D.tup (.int g::l.map D.int)))=false:=fun y h=>by
  obtain⟨t,ht,hb,rfl⟩:=hy y h;obtain⟨w,h,e1,e2,c,_⟩:=Js hN 5 v0 rfl t ht;rw[hb]at c;have e1:t.w=w:=e1;have e2:t.h=h:=by rw[e2];show 0+h=h;omega
  have c:Ch ws 0 w b h:=c;show aQ (t.h::(t.w.map D.int).map gR) (g::(l.map D.int).map gR)=false;rw[uR,uR,e1,e2,aQ];have z:=(hL.least 0 _ hg).2 h c.wk;have a1:¬ h<g:=by omega
  by_cases q:h=g;.subst q;have:=k.le hN hL (Int.le_refl _) hg c;simp[this]
  .simp[a1,q]
 have hor:∀y∈(fd.filterMap (pY b)).map pX,p8 y=true:=fun y h=>by obtain⟨t,ht,hb,rfl⟩:=hy y h;show(D.int t.h::t.w.map D.int).all cT=true;rw[List.all_cons,ue];rfl
 obtain⟨r,e⟩:=Bd hx hle hor;exact⟨r.map zK,by rw[e];rfl⟩
theorem GK{m b:Int}{ws:List Wy}{L:List (Option Int)}{fd:List St}(hN:aY m ws)(hL:qU m ws b L)(v0:Vs m ⟨[],[0],0⟩)(hg:L[0]?=some none)(hP:fd.Perm (A ws ⟨[],[0],0⟩)):fd.filterMap (pY b)=[]:=by cases e:fd.filterMap (pY b)with|nil=>rfl|cons d r=>
   have hd:d∈fd.filterMap (pY b):=by rw[e];simp
   obtain⟨t,ht,e⟩:=List.mem_filterMap.mp hd;unfold pY at e;split at e;.rename_i c;obtain⟨w,h,_,_,z,_⟩:=Js hN 5 v0 rfl t (hP.mem_iff.mp ht);rw[c]at z;exact absurd z.wk (hL.least 0 _ hg h)
   .cases e
end T
end
section
namespace T
open HH
theorem Gn{cs:List Int}{a b:Option Int}:cut (cs.map D.int) a b=(cut cs a b).map D.int:=by unfold cut;simp
inductive JF(ns:List Int)(r:List D)(ρ:List Sl):Prop where|mk(cs:List Int)(s:Sl)(q0:ρ=[.val false (.lst (ns.map D.int)),.val false (.int 14),.own false (cs.map D.int),s])(q1:fr s=true)(q2:cs.length<=14)(q3:(14<ns.length->cs.length=14))(q4:∀d∈r,∃i:Int,d=.int i/\14<=i/\i<(ns.length:Int))
theorem wB{w n:Nat}{ns:List Int}{Q:R->List Sl->Prop}(hn:ns.length<=63)(k:∀cs:List Int,cs.length<=14->Q (.own (cs.map D.int)) [.val false (.lst (ns.map D.int)),.val false (.int 14)]):(run Γ w (n+1) 13 [.val false (.lst (ns.map D.int)),.val false (.int 14)]).sat Q:=by
 refine bO (d:=Xh) rfl rfl (by decide) ?_;first|apply aa|apply au
 simp[Xh,QB,part,LQ,Gn];have hc:(cut ns none (some 14)).length<=14:=by unfold cut cF;simp;omega
 have hc2:14<ns.length->(cut ns none (some 14)).length=14:=fun h=>by unfold cut cF;simp;omega
 apply aa;simp;refine⟨by omega,?_⟩;refine cX (JF ns) ?_ ?_ ⟨_,_,rfl,rfl,hc,hc2,fun d hd=>?_⟩
 . rintro d r _⟨cs,s,rfl,hs,h1,h2,hr⟩;obtain⟨i,rfl,i0,i1⟩:=hr d (by simp);have hl:=h2 (by omega);have e0:0<=i%14:=Int.emod_nonneg _ (by decide);have e1:i%14<14:=Int.emod_lt_of_pos _ (by decide);obtain⟨j,hj,j0⟩:∃j,i%14=j/\j.toNat<cs.length:=⟨_,rfl,by omega⟩;have a1:at' (cs.map D.int) j=some (.int cs[j.toNat]):=by rw[fW (by omega) (by simp;omega)];simp[j0]
   have a2:at' (ns.map D.int) i=some (.int (ns.getD i.toNat 0)):=by
    have:i.toNat<ns.length:=by omega
    rw[fW (by omega) (by simp;omega)];simp[this]
   have hx:jr cs.length j=some j.toNat:=v9 (by omega) (by omega);simp[hs];apply aa;simp[hj,a1,a2,hx];refine⟨cs.set j.toNat (cs[j.toNat]*1000003+ns.getD i.toNat 0),.val false (.int i),by simp[List.map_set],rfl,by simpa using h1,fun h=>by simpa using h2 h,fun d h=>hr d (List.mem_cons_of_mem _ h)⟩
 . rintro _⟨cs,s,rfl,hs,h1,h2,hr⟩;first|apply aa|apply au
   simp;exact k cs h1
 .obtain⟨i,e,e1,e2⟩:=tK (a:=14) (b:=ns.length) (d:=d) (by simpa using hd);exact⟨i,e,e1,e2⟩
end T
end
section
namespace T
open HH
inductive JSw(m:Int)(ws:List Wy)(b g0:Int)(L:List (Option Int))(M:Nat)(ρ:List Sl):Prop where|mk(l:List Int)(p g:Int)(s5:Sl)(q0:ρ=[.val false (cH m ws),.val false (.int b),.own false (L.map oD),.own false (l.map D.int),.val false (.int p),s5])(q1:fr s5=true)(q2:0<=p)(q3:p<m)(q4:L[p.toNat]?=some (some g))(q5:g.toNat<=M)(q6:l.length+g.toNat<=g0.toNat)(q7:∀l',Gd ws L b p l'->Gd ws L b 0 (l++l'))
theorem uO{w n:Nat}{m b:Int}{ws:List Wy}{L0:List (Option Int)}{g0:Int}{Q:R->List Sl->Prop}(hw:50000000<=w)(hk:aY m ws)(b0:0<=b)(b1:b<m)(hL0:qU m ws b L0)(hg0:L0[0]?=some (some g0))(q:∀(L:List (Option Int))(l:List Int),qU m ws b L->L[0]?=some (some g0)->Gd ws L b 0 l->Q (.val (.tup (l.map D.int))) [.val false (cH m ws),.val false (.int b)]):(run Γ w (n+3) 5 [.val false (cH m ws),.val false (.int b)]).sat Q:=by
 have m0:=hk.m0;refine bO (d:=f5) rfl rfl (by decide) ?_;first|apply aa|apply au
 simp[f5,b0,b1];apply aa;simp;refine wz hw hk b0 b1 fun L hL=>?_;have hlen:=hL.len;have X6:L[0]?=some (some g0):=by obtain⟨o,e⟩:∃o,L[0]?=some o:=⟨_,List.getElem?_eq_getElem (by omega)⟩;have:=hL.least 0 o e;rw[e,this.uniq (hL0.least 0 _ hg0)]
 have a0:at' (L.map oD) 0=some (.int g0):=by rw[fW (by decide) (by simp;omega)];simp[X6,oD]
 simp;apply aa;simp[a0];apply aa;simp;apply aa;simp;apply aa;simp;have gb:=hL.bnd 0 g0 X6;refine iI (JSw m ws b g0 L) ?_ (k:=w) (m:=g0.toNat) (by omega) ⟨[],0,g0,.bK,rfl,rfl,by decide,by omega,X6,Nat.le_refl _,by simp,fun l' z=>z⟩;rintro M _⟨l,p,g,s5,rfl,h5,p0,p1,hg,hM,hl5,hGd⟩;have hg0':=hL.bnd _ _ hg;by_cases hpb:p=b;.subst hpb;simp;apply aa;simp;have:=hGd [] .nil;rw[List.append_nil]at this;exact q L l hL X6 this
 . have hpb':(p==b)=false:=by simpa using hpb
   simp[hpb];apply aa;simp;refine Jo hk ?_;rw[show mz (jU p 0 ws)=outI ws p from rfl];have hol:(outI ws p).length<=12:=by have h1:=hk.len;have h2:=Dg (ws:=ws) (p:=p) (us:=ws) (i:=0);unfold outI mz;rw[List.length_map];omega
   simp;refine⟨fun _=>?_,by show _<=16777216;omega⟩;refine lY (FWk _ _ _ _ _ _) (gQ ws L) ⟨.bK,rfl,rfl⟩ ?_ ?_
   . rintro d hd _⟨s,rfl,hs⟩;obtain⟨k,hk',rfl⟩:=List.mem_map.mp hd;obtain⟨k0,k1,v,hv,hsv⟩:=kJ.mp hk';have vo:=hk.ok v (List.mem_of_getElem? hv);have ha:at' (ws.map Wy.d) k=some v.d:=by rw[fW k0 (by simpa using k1)];simp[hv]
     have hc:isC ws L k=wK L v:=by unfold isC;rw[hv]
     simp[hs,ha];refine Dw vo hlen ?_;rw[show gQ ws L (.int k)=if isC ws L k=true then some (.int k)else none from rfl,hc];cases hst:wK L v with|true=>simp;exact⟨_,rfl,rfl⟩|false=>simp;exact⟨_,rfl,rfl⟩
   rintro _⟨s,rfl,hs⟩;rw[Pn];obtain⟨kx,hkx⟩:=Ac hk hL p0 p1 hg hpb;obtain⟨k,hkm,hmin⟩:=Eb (ns:=(outI ws p).filter (isC ws L)) (fun z=>by rw[z]at hkx;cases hkx);rw[List.mem_filter]at hkm;obtain⟨k0,k1,v,hv,hsv⟩:=kJ.mp hkm.1;have vo:=hk.ok v (List.mem_of_getElem? hv);have ha:at' (ws.map Wy.d) k=some v.d:=by rw[fW k0 (by simpa using k1)];simp[hv]
   have hm2:=hmin;rw[show k=((k.toNat:Nat):Int)by omega]at hm2;obtain⟨_,hr,⟨f,hf,hgf⟩,_⟩:=rF hm2 hv hg;have l1:l.length<lim:=by show _<16777216;omega
   have hf0:=hL.bnd _ _ hf;have hh0:=vo.h0;simp[hmin,h5];apply aa;simp[l1];apply aa;simp[ha,oO];refine⟨f.toNat,by omega,l++[k],v.t,f,.val false (.int k),by simp,rfl,vo.t0,vo.t1,hf,Nat.le_refl _,by simp;omega,fun l' z=>?_⟩;rw[List.append_assoc];have:=hGd _ (.cons hpb hm2 hv z);rw[show((k.toNat:Nat):Int)=k by omega]at this;exact this
theorem Ip{w n:Nat}{m b:Int}{ws:List Wy}{L0:List (Option Int)}(hw:50000000<=w)(hk:aY m ws)(b0:0<=b)(b1:b<m)(hL0:qU m ws b L0)(hg0:L0[0]?=some none):∃args,run Γ w (n+3) 5 [.val false (cH m ws),.val false (.int b)]=.exc 4 args:=by
 have m0:=hk.m0;obtain⟨r,ρ,e1,L,hL,rfl,rfl⟩:=sat_iff.mp (wz (w:=w) (n:=n) (Q:=fun r ρ=>∃L,qU m ws b L/\r=.own (L.map oD)/\ρ=[.val false (cH m ws),.val false (.int b)]) hw hk b0 b1 fun L hL=>⟨L,hL,rfl,rfl⟩);have hlen:=hL.len;have hL0:L[0]?=some none:=by obtain⟨o,e⟩:∃o,L[0]?=some o:=⟨_,List.getElem?_eq_getElem (by omega)⟩;have:=hL.least 0 o e;rw[e,this.uniq (hL0.least 0 _ hg0)]
 have a0:at' (L.map oD) 0=some .non:=by rw[fW (by decide) (by simp;omega)];simp[hL0,oD]
 generalize L.map oD=X at*;rw[uE (d:=f5) rfl];unfold enter;simp[f5,b5,dw,iJ,Fz,ug,rZ,gU,aZ,bY,dq,aM,ie,e1,b0,b1,a0]
theorem ym{m b:Int}{ws:List Wy}{w:Nat}(hw:50000000<=w)(hk:aY m ws)(b0:0<=b)(b1:b<m):∃L,qU m ws b L:=by obtain⟨r,ρ,e1,L,hL⟩:=sat_iff.mp (wz (w:=w) (n:=0) (Q:=fun r ρ=>∃L,qU m ws b L) hw hk b0 b1 fun L hL=>⟨L,hL⟩);exact⟨L,hL⟩
theorem CZ{w:Nat}{m b g:Int}{ws:List Wy}{L0:List (Option Int)}(hw:50000000<=w)(hk:aY m ws)(b0:0<=b)(b1:b<m)(hL:qU m ws b L0)(e:L0[0]?=some (some g)):∃(L:List (Option Int))(l:List Int),qU m ws b L/\L[0]?=some (some g)/\Gd ws L b 0 l:=by obtain⟨r,ρ,e1,L',l,z⟩:=sat_iff.mp (uO (w:=w) (n:=0) (Q:=fun r ρ=>∃L l,qU m ws b L/\L[0]?=some (some g)/\Gd ws L b 0 l) hw hk b0 b1 hL e fun L l z1 z2 z3=>⟨L,l,z1,z2,z3⟩);exact⟨L',l,z⟩
theorem uX{w n:Nat}{m b:Int}{ws:List Wy}{Q:R->List Sl->Prop}(hw:50000000<=w)(hk:aY m ws)(b0:0<=b)(b1:b<m)(q1:∀(L:List (Option Int))(g:Int)(l:List Int),qU m ws b L->L[0]?=some (some g)->Gd ws L b 0 l->Q (.val (.tup (l.map D.int))) [.val false (cH m ws),.val false (.int b)])(q2:∀(L:List (Option Int)),qU m ws b L->L[0]?=some none->∀x y,Q (.val .non) [x,y]):(run Γ w (n+4) 12 [.val false (cH m ws),.val false (.int b)]).sat Q:=by
 have m0:=hk.m0;obtain⟨L,hL⟩:=ym hw hk b0 b1;have hlen:=hL.len;refine bO (d:=Xb) rfl rfl (by decide) ?_;first|apply aa|apply au
 simp[Xb];apply aa;obtain⟨o,e⟩:∃o,L[0]?=some o:=⟨_,List.getElem?_eq_getElem (by omega)⟩;cases o with|some g=>obtain⟨r,ρ,e1,L',l,z1,z2,z3,rfl,rfl⟩:=sat_iff.mp (uO (w:=w) (n:=n) (Q:=fun r ρ=>∃L l,qU m ws b L/\L[0]?=some (some g)/\Gd ws L b 0 l/\r=.val (.tup (l.map D.int))/\ρ=[.val false (cH m ws),.val false (.int b)]) hw hk b0 b1 hL e fun L l z1 z2 z3=>⟨L,l,z1,z2,z3,rfl,rfl⟩);rw[ex];simp[dw,gU,aZ,bY,dq,aM,e1];exact q1 L' g l z1 z2 z3|none=>obtain⟨args,e1⟩:=Ip (w:=w) (n:=n) hw hk b0 b1 hL e;rw[ex];simp[dw,iJ,Fz,ug,rZ,gU,aZ,e1];refine⟨fun _ _ _ _=>?_,rfl,rfl,rfl,rfl⟩;simp[LK,dw];exact q2 L hL e _ _
end T
end
section
namespace T
open HH
theorem GQ{α:Type}{l:List α}:(l.map fun _=>D.bl true).mapM vp=some (l.map fun _=>true):=by induction l with|nil=>rfl|cons a l ih=>simp[ih]
theorem all_true{α:Type}{l:List α}:(l.map fun _=>true).all id=true:=by simp
theorem Ir{ds:List D}{d:D}(h:d∈(ds.zip ds).map fun p=>D.tup [p.1,p.2]):∃e,d=.tup [e,e]/\e∈ds:=by rw[List.mem_map]at h;obtain⟨⟨a,b⟩,h1,rfl⟩:=h;obtain⟨i,hi,e⟩:=List.getElem_of_mem h1;rw[List.getElem_zip]at e;cases e;exact⟨_,rfl,List.getElem_mem _⟩
theorem Ae{w n:Nat}{i:Int}{Q:R->List Sl->Prop}(k:Q (.val (.bl true)) [.val false (.int i),.val false (.int i)]):(run Γ w (n+1) 10 [.val false (.int i),.val false (.int i)]).sat Q:=by
 refine bO (d:=Kg) rfl rfl (by decide) ?_;first|apply aa|apply au
 simp[Kg];apply aa;simp;apply aa;simp;exact k
theorem Ad{w n:Nat}{Q:R->List Sl->Prop}(k:Q (.val (.bl true)) [.val false .non,.val false .non]):(run Γ w (n+1) 10 [.val false .non,.val false .non]).sat Q:=by
 refine bO (d:=Kg) rfl rfl (by decide) ?_;first|apply aa|apply au
 simp[Kg];apply aa;simp;apply aa;simp;exact k
inductive F2s(a b:Sl)(ρ:List Sl):Prop where|mk(s:Sl)(t:Sl)(q0:ρ=[a,b,s,t])(q1:fr s=true)(q2:fr t=true)
theorem Af{w n:Nat}{l:List Int}{Q:R->List Sl->Prop}(hl:l.length<=1000)(k:Q (.val (.bl true)) [.val false (.tup (l.map D.int)),.val false (.tup (l.map D.int))]):(run Γ w (n+2) 10 [.val false (.tup (l.map D.int)),.val false (.tup (l.map D.int))]).sat Q:=by
 refine bO (d:=Kg) rfl rfl (by decide) ?_;first|apply aa|apply au
 simp[Kg];apply aa;simp;apply aa;simp[show l.length<=16777216 by omega];have hall:=fun d(h:d∈((l.map D.int).zip (l.map D.int)).map fun p=>D.tup [p.1,p.2])=>Ir h;generalize(((l.map D.int).zip (l.map D.int)).map fun p=>D.tup [p.1,p.2])=zs at*;refine lV (F2s _ _) (fun _=>.bl true) ⟨.bK,.bK,rfl,rfl,rfl⟩ ?_ ?_;.rintro d hd _⟨s,t,rfl,hs,ht⟩;obtain⟨e,rfl,he⟩:=hall d hd;obtain⟨i,_,rfl⟩:=List.mem_map.mp he;simp[hs,ht];refine Ae ?_;simp;exact⟨_,_,rfl,rfl,rfl⟩
 rintro _⟨s,t,rfl,hs,ht⟩;have em:=GQ (l:=zs);have ea:=all_true (l:=zs);generalize(zs.map fun _=>D.bl true)=X at*;generalize(zs.map fun _=>true)=Y at*;simp[em,ea];exact k
end T
end
section
namespace T
open HH
theorem BW{b:Int}{fd:List St}{d:D}(h:d∈(lH ((fd.filterMap (pY b)).map pX)).map zK):∃(h:Int)(w:List Int),d=.tup [.int h,.tup (w.map D.int)]:=by
 obtain⟨y,hy,rfl⟩:=List.mem_map.mp h;obtain⟨z,hz,rfl⟩:=List.mem_map.mp ((iG _).mem_iff.mp hy);obtain⟨t,ht,e⟩:=List.mem_filterMap.mp hz;unfold pY at e;split at e;.cases e;exact⟨t.h,t.w,rfl⟩
 .cases e
theorem IK{ds:List D}(h:∀d∈ds,∃(h:Int)(w:List Int),d=.tup [.int h,.tup (w.map D.int)]):cm .ne (.lst ds) (.lst [])=some (!ds.isEmpty):=by
 show oA _ _=_;unfold oA;have h1:cj 8 (.lst ds)=true:=by
  show ds.all (cj 7)=true;rw[List.all_eq_true];intro d hd;obtain⟨p,w,rfl⟩:=h d hd;show(true&&((w.map D.int).all (cj 5)&&true))=true;have:∀S:List Int,(S.map D.int).all (cj 5)=true:=fun S=>by rw[List.all_eq_true];intro d hd;obtain⟨p,_,rfl⟩:=List.mem_map.mp hd;rfl
  rw[this];rfl
 have h2:cj 8 (.lst [])=true:=rfl;rw[h1,h2];cases ds with|nil=>rfl|cons v ws=>rfl
theorem zO{ds:List D}(h1:ds.length<=16777216)(h2:ds.all oF=true):blt .vM [.lst ds]=some (.own ((lH (ds.map pX)).map zK)):=by show(if ds.length<=16777216/\ds.all oF=true then _ else _)=_;rw[if_pos ⟨h1,h2⟩]
theorem YH{v:Wy}:QB v.d (part (.con .non) .non) (part (.con (.int 3)) (.int 3))=some (.val (.tup [.int v.s,.int v.t,.int v.r])):=rfl
noncomputable def Wy.two(v:Wy):Wy:=⟨v.s,v.t,v.r,1+v.h%2⟩
noncomputable def N5:D->D|.tup [s,t,r,.int h]=>.tup [s,t,r,.int (1+h%2)]|d=>d
theorem Ca{v:Wy}:N5 v.d=v.two.d:=rfl
theorem O9{m:Int}{ws:List Wy}(h:aY m ws):aY m (ws.map Wy.two):=by refine⟨h.m0,h.m1,by simpa using h.len,fun v hv=>?_⟩;obtain⟨u,hu,rfl⟩:=List.mem_map.mp hv;have o:=h.ok u hu;have:=Int.emod_nonneg u.h (show(2:Int)≠0 by decide);have:=Int.emod_lt_of_pos u.h (show(0:Int)<2 by decide);exact⟨o.s0,o.s1,o.t0,o.t1,o.ne,o.r0,o.r1,by show 1<=1+u.h%2;omega,by show 1+u.h%2<=1000000;omega⟩
theorem v_0{m:Int}{ws:List Wy}(hN:aY m ws):Vs m ⟨[],[0],0⟩:=⟨by simp,fun p hp=>by rw[List.mem_singleton.mp hp];have:=hN.m0;omega,by simp,rfl⟩
inductive JL8(v:Sl)(r:List D)(ρ:List Sl):Prop where|mk(s1:Sl)(s2:Sl)(s3:Sl)(s4:Sl)(s5:Sl)(s6:Sl)(q0:ρ=[v,s1,s2,s3,s4,s5,s6])(q1:A6 (fr s1=true) (fr s2=true) (fr s3=true) (fr s4=true) (fr s5=true) (fr s6=true))(q2:∀d∈r,∃i,d=D.int i)
inductive KL8(m:Int)(a0 a1 a2 a3:Sl)(r:List D)(ρ:List Sl):Prop where|mk(s4:Sl)(s5:Sl)(s6:Sl)(q0:ρ=[a0,a1,a2,a3,s4,s5,s6])(q1:A3 (fr s4=true) (fr s5=true) (fr s6=true))(q2:∀d∈r,∃i,d=D.int i/\0<=i/\i<m)
inductive FL8(a0 a1 a2 a3 a4 a5 a6:Sl)(ρ:List Sl):Prop where|mk(s:Sl)(t:Sl)(u:Sl)(q0:ρ=[a0,a1,a2,a3,a4,a5,a6,s,t,u])(q1:fr s=true)(q2:fr t=true)(q3:fr u=true)
inductive FT8(a0 a1 a2 a3 a4 a5 a6:Sl)(ρ:List Sl):Prop where|mk(s:Sl)(q0:ρ=[a0,a1,a2,a3,a4,a5,a6,s])(q1:fr s=true)
inductive M8(a0 a1 a3 a4 a5 a6:Sl)(ρ:List Sl):Prop where|mk(m:Int)(ws:List Wy)(q0:ρ=[a0,a1,.val false (cH m ws),a3,a4,a5,a6])(q1:aY m ws)
theorem G4(ns:List Int)(hn:ns.length<=63):∃as,run Γ 100000000 40 14 [.val false (.lst (ns.map D.int))]=.ok (.val (.bl true)) as:=by
 suffices h:∀w,50000000<=w->(run Γ w 40 14 [.val false (.lst (ns.map D.int))]).sat fun r _=>r=.val (.bl true)by obtain⟨a,ρ,e,rfl⟩:=sat_iff.mp (h 100000000 (by decide));exact⟨ρ,e⟩
 intro w hw;refine bO (d:=Wn) rfl rfl (by decide) ?_;first|apply aa|apply au
 simp[Wn];refine wB hn fun cs hcs=>?_;have hl:1+cs.length<=lim:=by show _<=16777216;omega
 simp[hl];refine cX (JL8 (.val false (.lst (ns.map D.int)))) ?_ ?_ ?_
 . rintro d r _⟨s1,s2,s3,s4,s5,s6,rfl,⟨h1,h2,h3,h4,h5,h6⟩,hd⟩;obtain⟨x,rfl⟩:=hd d (by simp);simp[h1];apply aa;simp;refine Jt fun y=>?_;simp;refine Hc fun m ws y hN=>?_;simp[h2];refine gJ (M8 (.val false (.lst (ns.map D.int))) (.val false (.int x)) s3 s4 s5 s6) ?_ ?_
   . have hlen:=hN.len;have hlim:ws.length<=16777216:=by omega
     simp;refine⟨fun _=>?_,fun _=>⟨m,ws,rfl,hN⟩⟩;first|apply aa|apply au
     simp[hlim];refine lV (FT8 _ _ _ _ _ _ _) N5 ⟨.bK,rfl,rfl⟩ ?_ ?_;.rintro d hd _⟨s,rfl,hs⟩;obtain⟨v,hv,rfl⟩:=List.mem_map.mp hd;simp[hs,Cu,YH,Ca];exact⟨by show 4<=16777216;decide,rfl,_,rfl,rfl⟩
     rintro _⟨s,rfl,hs⟩;have e:cH m (ws.map Wy.two)=.tup [.int m,.tup ((ws.map Wy.d).map N5)]:=by simp[cH,Ca]
     simp;refine⟨m,ws.map Wy.two,?_,O9 hN⟩;rw[e];simp
   rintro _⟨m,ws,rfl,hN⟩;have m0:=hN.m0;have m1:=hN.m1;have v0:=v_0 hN;have hA:=JZ (ws:=ws) (st:=⟨[],[0],0⟩) hN.len;first|apply aa|apply au
   simp;refine Ml (by omega) hN fun fd hP=>?_;have hfl:=hP.length_eq;simp[h3];apply aa;simp[show m<=1000000000 by omega];refine⟨by omega,?_⟩;refine cX (KL8 m _ _ _ _) ?_ ?_ ⟨s4,s5,s6,rfl,⟨h4,h5,h6⟩,fun d h=>?_⟩
   . rintro d r _⟨s4,s5,s6,rfl,⟨h4,h5,h6⟩,hr⟩;obtain⟨b,rfl,b0,b1⟩:=hr d (by simp);simp[h4];apply aa;simp[show fd.length<=16777216 by omega];refine lY (FL8 _ _ _ _ _ _ _) (RN b) ⟨.bK,.bK,.bK,rfl,rfl,rfl,rfl⟩ ?_ ?_
     . rintro d hd _⟨s,t,u,rfl,hs,ht,hu⟩;obtain⟨st,hst,rfl⟩:=List.mem_map.mp hd;have h1:RN b (uN st)=if lst st.ps=b then some (.tup [.int st.h,.tup (st.w.map D.int)])else none:=rfl;rw[h1];by_cases c:lst st.ps=b;.simp[hs,ht,hu,uN,c];exact⟨_,_,_,rfl,rfl,rfl,rfl⟩
       .simp[hs,ht,hu,uN,c];exact⟨_,_,_,rfl,rfl,rfl,rfl⟩
     rintro _⟨s,t,u,rfl,hs,ht,hu⟩;rw[yN];have hb:=zO (ds:=fd.filterMap (pY b)) (by have:=List.length_filterMap_le (pY b) fd;omega) MP;have hne:=IK (ds:=(lH ((fd.filterMap (pY b)).map pX)).map zK) fun d h=>BW h;have hfi:=fun(L:List (Option Int))(l:List Int)(g:Int)(hL:qU m ws b L)(k:Gd ws L b 0 l)(hg:L[0]?=some (some g))=>first_is hN hL v0 k hg hP;have hno:∀(L:List (Option Int)),qU m ws b L->L[0]?=some none->(lH ((fd.filterMap (pY b)).map pX)).map zK=[]:=fun L hL hg=>by rw[GK hN hL v0 hg hP,List.map_nil,(iG []).eq_nil];rfl
     generalize(lH ((fd.filterMap (pY b)).map pX)).map zK=X at*;generalize fd.filterMap (pY b)=Z at*;simp[hb,h5];apply aa;simp[h6];by_cases hX:X=[]
     . subst hX;first|apply aa|apply au
       simp[show cm .ne (.lst []) (.lst [])=some false from rfl];apply aa;simp;refine uX hw hN b0 b1 (fun L g l hL hg k=>?_) (fun L hL hg x y=>?_);.obtain⟨⟨r,z⟩,_⟩:=hfi L l g hL k hg;cases z
       .simp;refine Ad ?_;simp;exact⟨_,_,_,rfl,⟨rfl,rfl,rfl⟩,fun d h=>hr d (List.mem_cons_of_mem _ h)⟩
     .cases X with|nil=>exact absurd rfl hX|cons X0 X=>
         simp at hne;obtain⟨g,l,z,hl6⟩:∃(g:Int)(l:List Int),X0=.tup [.int g,.tup (l.map D.int)]/\l.length<=6:=by obtain⟨L,hL⟩:=ym hw hN b0 b1;have hlen:=hL.len;obtain⟨o,e⟩:∃o,L[0]?=some o:=⟨_,List.getElem?_eq_getElem (by omega)⟩;cases o with|none=>exact absurd (hno L hL e) hX|some g=>obtain⟨L,l,q1,q2,q3⟩:=CZ hw hN b0 b1 hL e;obtain⟨⟨r,z⟩,z2⟩:=hfi L l g q1 q3 q2;cases z;exact⟨g,l,rfl,z2⟩
         subst z;first|apply aa|apply au
         simp[hne];apply aa;simp;apply aa;simp;refine uX hw hN b0 b1 (fun L g' l' hL hg k=>?_) (fun L hL hg x y=>?_)
         . obtain⟨⟨r,z⟩,_⟩:=hfi L l' g' hL k hg;have z1:l.map D.int=l'.map D.int:=by simp only[List.cons.injEq,D.tup.injEq]at z;exact z.1.2.1
           rw[<-z1];simp;refine Af (by omega) ?_;simp;exact⟨_,_,_,rfl,⟨rfl,rfl,rfl⟩,fun d h=>hr d (List.mem_cons_of_mem _ h)⟩
         .exact absurd (hno L hL hg) (by simp)
   .rintro _⟨s4,s5,s6,rfl,⟨h4,h5,h6⟩,hr⟩;simp;exact⟨_,_,_,_,_,_,rfl,⟨rfl,rfl,rfl,h4,h5,h6⟩,fun d h=>hd d (List.mem_cons_of_mem _ h)⟩
   .obtain⟨i,e,e1,e2⟩:=tK (a:=0) (b:=m) (d:=d) (by simpa using h);exact⟨i,e,e1,e2⟩
 . rintro _⟨s1,s2,s3,s4,s5,s6,rfl,_,hd⟩;first|apply aa|apply au
   simp
 . refine⟨_,_,_,_,_,_,rfl,⟨rfl,rfl,rfl,rfl,rfl,rfl⟩,fun d hd=>?_⟩;simp at hd;rcases hd with rfl|⟨i,_,rfl⟩;.exact⟨_,rfl⟩
   .exact⟨i,rfl⟩
end T
end
namespace PySem.W.Fast
theorem tw10590365406806733425:True:=⟨⟩
theorem tw15138723781965024483:True:=⟨⟩
theorem tw9946437263413888193:True:=⟨⟩
theorem tw13393548018525630312:True:=⟨⟩
theorem tw10823517268065322747:True:=⟨⟩
theorem tw11357446710247259335:True:=⟨⟩
theorem tw6477782858516957654:True:=⟨⟩
theorem tw13744474910067821353:True:=⟨⟩
theorem tw9706178582547992236:True:=⟨⟩
theorem tw9420813286100437718:True:=⟨⟩
theorem tw8777782329226525337:True:=⟨⟩
theorem tw1630686780734964792:True:=⟨⟩
theorem tw9317867017506892789:True:=⟨⟩
theorem tw13829391066341713862:True:=⟨⟩
theorem tw14108819474045469938:True:=⟨⟩
theorem tw9491237712508281947:True:=⟨⟩
theorem tw15455731228952564207:True:=⟨⟩
theorem tw13192736480806269557:True:=⟨⟩
theorem tw15371407639616284106:True:=⟨⟩
theorem tw11215613696904264044:True:=⟨⟩
theorem tw13130083081025767806:True:=⟨⟩
theorem tw6092581908668481659:True:=⟨⟩
theorem tw6989873824547557068:True:=⟨⟩
theorem tw7008137600941575739:True:=⟨⟩
theorem tw14549607943711303434:True:=⟨⟩
theorem tw9750608632673318133:True:=⟨⟩
theorem tw7068114078758099367:True:=⟨⟩
theorem tw15926837196554686402:True:=⟨⟩
theorem tw6643282644772807604:True:=⟨⟩
theorem tw9771132982111614487:True:=⟨⟩
theorem tw17923891627038215094:True:=⟨⟩
theorem tw14774718152913900554:True:=⟨⟩
theorem tw10478074494919915683:True:=⟨⟩
theorem tw5743381409375867815:True:=⟨⟩
theorem tw13175888886131162588:True:=⟨⟩
theorem tw7554342017948376262:True:=⟨⟩
theorem tw161691232899899759:True:=⟨⟩
theorem tw14818556540361881954:True:=⟨⟩
theorem tw14301042491726845220:True:=⟨⟩
theorem tw13249973894009826443:True:=⟨⟩
theorem tw6517972861296435112:True:=⟨⟩
theorem tw5695715360555047389:True:=⟨⟩
theorem tw1430470737199640376:True:=⟨⟩
theorem tw10361928052856077357:True:=⟨⟩
theorem tw4456187341943076106:True:=⟨⟩
theorem tw13620929987361049241:True:=⟨⟩
theorem tw4040696339909176414:True:=⟨⟩
theorem tw2322670139213533458:True:=⟨⟩
theorem tw5431188037998907909:True:=⟨⟩
theorem tw3383603784968172154:True:=⟨⟩
theorem tw3268128646062076426:True:=⟨⟩
theorem tw6203505784881345758:True:=⟨⟩
theorem tw3943296538532385316:True:=⟨⟩
theorem tw7140380235185956032:True:=⟨⟩
theorem tw16129191744238181491:True:=⟨⟩
theorem tw5001793705129548463:True:=⟨⟩
theorem tw9459824334502973399:True:=⟨⟩
theorem tw4953623975115484573:True:=⟨⟩
theorem tw73883952414262355:True:=⟨⟩
theorem tw8523886435727487254:True:=⟨⟩
theorem tw6305171987917441163:True:=⟨⟩
theorem tw1272577691843400373:True:=⟨⟩
theorem tw3356550379687607257:True:=⟨⟩
theorem tw2145005436893117549:True:=⟨⟩
theorem tw16199388718446280125:True:=⟨⟩
theorem tw15237388216781473779:True:=⟨⟩
theorem tw17473317329714492124:True:=⟨⟩
theorem tw3239536516218411907:True:=⟨⟩
theorem tw11808225462466087491:True:=⟨⟩
theorem tw16279580998688307399:True:=⟨⟩
theorem tw17517677730858062868:True:=⟨⟩
theorem tw4064406459731598169:True:=⟨⟩
theorem tw3683279654393865431:True:=⟨⟩
theorem tw8061543056765801515:True:=⟨⟩
theorem tw4812386959955372438:True:=⟨⟩
theorem tw13099800713285441963:True:=⟨⟩
theorem tw15461392527027117982:True:=⟨⟩
theorem tw13607807729018104033:True:=⟨⟩
theorem tw16379678689393331683:True:=⟨⟩
theorem tw6325523190527430068:True:=⟨⟩
theorem tw10559110204783626784:True:=⟨⟩
theorem tw15691258192130026361:True:=⟨⟩
theorem tw14049166867355992472:True:=⟨⟩
theorem tw17193982290040427823:True:=⟨⟩
theorem tw9564025762542256645:True:=⟨⟩
theorem tw16568415070754747538:True:=⟨⟩
theorem tw777083169735224813:True:=⟨⟩
theorem tw487495678008124842:True:=⟨⟩
theorem tw3585248919832757556:True:=⟨⟩
theorem tw10662593864176991033:True:=⟨⟩
theorem tw9486834396047442118:True:=⟨⟩
theorem tw13801166541268372294:True:=⟨⟩
theorem tw17648085532120324083:True:=⟨⟩
theorem tw8598547083818906817:True:=⟨⟩
theorem tw16877142984632399222:True:=⟨⟩
theorem tw4452952341088520987:True:=⟨⟩
theorem tw14980437131700275207:True:=⟨⟩
theorem tw8232349633426843085:True:=⟨⟩
theorem tw11409148422622516384:True:=⟨⟩
theorem tw15055079120518346915:True:=⟨⟩
theorem tw1338226337660925438:True:=⟨⟩
theorem tw14946135468647286368:True:=⟨⟩
theorem tw9981274274668878710:True:=⟨⟩
theorem tw12880513150837301955:True:=⟨⟩
theorem tw2433358232565340808:True:=⟨⟩
theorem tw9170238833371633665:True:=⟨⟩
theorem tw2920428589482968139:True:=⟨⟩
theorem tw11963928583998598406:True:=⟨⟩
theorem tw2585733995540294006:True:=⟨⟩
theorem tw11137618625059874254:True:=⟨⟩
theorem tw7489230111136561896:True:=⟨⟩
theorem tw12321655040258376736:True:=⟨⟩
theorem tw13503169347466440032:True:=⟨⟩
theorem tw18098261070085968768:True:=⟨⟩
theorem tw15727764423705066402:True:=⟨⟩
theorem tw9295919655008525722:True:=⟨⟩
theorem tw5821370602621666824:True:=⟨⟩
theorem tw9079010583461197885:True:=⟨⟩
theorem tw14555556031654492339:True:=⟨⟩
theorem tw8679071343542771492:True:=⟨⟩
theorem tw11557523638541150896:True:=⟨⟩
theorem tw17881607877173936297:True:=⟨⟩
theorem tw4238629167079919022:True:=⟨⟩
theorem tw2152486814162383469:True:=⟨⟩
theorem tw7779046123028618542:True:=⟨⟩
theorem tw12758058420657708978:True:=⟨⟩
theorem tw581976553803253719:True:=⟨⟩
theorem tw14851896699087096889:True:=⟨⟩
theorem tw2149113113005980441:True:=⟨⟩
theorem tw3875266973493330756:True:=⟨⟩
theorem tw13827552158183957257:True:=⟨⟩
theorem tw12332778466564556419:True:=⟨⟩
theorem tw4989557150135067945:True:=⟨⟩
theorem tw9116715659764744552:True:=⟨⟩
theorem tw3403623649869072583:True:=⟨⟩
theorem tw17679132891296354008:True:=⟨⟩
theorem tw17726044056312055918:True:=⟨⟩
theorem tw14233932206953230908:True:=⟨⟩
theorem tw14156097972527658493:True:=⟨⟩
theorem tw15460174828181403605:True:=⟨⟩
theorem tw15540965788767707425:True:=⟨⟩
theorem tw8126710228265240594:True:=⟨⟩
theorem tw3069270336680550822:True:=⟨⟩
theorem tw6096950183366994021:True:=⟨⟩
theorem tw11939474003616744273:True:=⟨⟩
theorem tw13758382313259805415:True:=⟨⟩
theorem tw11703123457786604790:True:=⟨⟩
theorem tw4434969834617197082:True:=⟨⟩
theorem tw4017524531564639276:True:=⟨⟩
theorem tw2759545927534481530:True:=⟨⟩
theorem tw2356317741110763621:True:=⟨⟩
theorem tw18104578390514428470:True:=⟨⟩
theorem tw2370479914704708100:True:=⟨⟩
theorem tw1890362331039365288:True:=⟨⟩
theorem tw3991426039672105544:True:=⟨⟩
theorem tw6512987895949825553:True:=⟨⟩
theorem tw7283528080672031955:True:=⟨⟩
theorem tw1448628207206625619:True:=⟨⟩
theorem tw2488672978850927597:True:=⟨⟩
theorem tw5133955767325799700:True:=⟨⟩
theorem tw11109249591474725893:True:=⟨⟩
theorem tw123366059401699660:True:=⟨⟩
theorem tw5543010069411660221:True:=⟨⟩
theorem tw10329534589370498930:True:=⟨⟩
theorem tw7830998626176234643:True:=⟨⟩
theorem tw9258181950330655706:True:=⟨⟩
theorem tw16979411621293631289:True:=⟨⟩
theorem tw2037776658796718078:True:=⟨⟩
theorem tw8077789521394667201:True:=⟨⟩
theorem tw1902274096453607775:True:=⟨⟩
theorem tw10337615054555342280:True:=⟨⟩
theorem tw13707205486321364359:True:=⟨⟩
theorem tw703300245238834425:True:=⟨⟩
theorem tw6934561426704254755:True:=⟨⟩
theorem tw1202243415943963681:True:=⟨⟩
theorem tw5239731466271387912:True:=⟨⟩
theorem tw2422684551351087025:True:=⟨⟩
theorem tw15103455140637249403:True:=⟨⟩
theorem tw3017475846373445421:True:=⟨⟩
theorem tw4712970303935416998:True:=⟨⟩
theorem tw13529934831186973716:True:=⟨⟩
theorem tw5745340107903041862:True:=⟨⟩
theorem tw15978592495765354870:True:=⟨⟩
theorem tw14445096221961328829:True:=⟨⟩
theorem tw18293128327473902903:True:=⟨⟩
theorem tw841746829453860519:True:=⟨⟩
theorem tw18314843480608774829:True:=⟨⟩
theorem tw11352251355813592243:True:=⟨⟩
theorem tw6837374466495576770:True:=⟨⟩
theorem tw14712880562284777127:True:=⟨⟩
end PySem.W.Fast
namespace T
open PySem L2 PySem.Spec PyProof.Rows HH
structure Txt(K:PySem.W.Frag):Prop where
 D0:cU K "ways_out" s0
 D1:cU K "turned_net" s1
 D2:cU K "hours_from" s2
 D3:cU K "hours_to" s3
 D4:cU K "is_soonest_step" s4
 D5:cU K "soonest_walk" s5
 D6:cU K "_law_pot" s6
 D7:cU K "_law_take" s7
 D8:cU K "_law_way" s8
 D9:cU K "_law_net" s9
 D10:cU K "_law_same" Ui
 D11:cU K "_law_walks" WL
 D12:cU K "_law_told" s12
 D13:cU K "_law_folded" Yr
 D14:cU K "law" s14
 gZ:PySem.W.nsIn K mainGlobals "ValueError"=some none
 Fe:PySem.W.nsIn K mainGlobals "all"=some none
 xN:PySem.W.nsIn K mainGlobals "bool"=some none
 iT:PySem.W.nsIn K mainGlobals "enumerate"=some none
 Ff:PySem.W.nsIn K mainGlobals "int"=some none
 aO:PySem.W.nsIn K mainGlobals "isinstance"=some none
 gw:PySem.W.nsIn K mainGlobals "len"=some none
 dC:PySem.W.nsIn K mainGlobals "list"=some none
 ig:PySem.W.nsIn K mainGlobals "min"=some none
 bV:PySem.W.nsIn K mainGlobals "range"=some none
 dD:PySem.W.nsIn K mainGlobals "reversed"=some none
 lF:PySem.W.nsIn K mainGlobals "sorted"=some none
 aX:PySem.W.nsIn K mainGlobals "tuple"=some none
 Fg:PySem.W.nsIn K mainGlobals "zip"=some none
 gA:∃C,eE K "BadHour" C
 jb:∃C,eE K "BadNet" C
 jc:∃C,eE K "HaulError" C
 bJ:∃C,eE K "NoWalk" C
 lE:∃C,eE K "NoWay" C
 gB:∃C,eE K "TooMany" C
 iY:∃C,qI K "HaulError" C
 iU:∃C,qI K "NoWalk" C
 pW:∃C C2,eE K "NoWalk" C/\eE K "HaulError" C2/\PySem.W.mroIn K C (.ref C2)=some true
 iZ:∃C,eE K "NoWalk" C/\Bu K C
 dF:∃C C2,eE K "NoWalk" C/\eE K "BadHour" C2/\PySem.W.kitOne K (.ref C) (.ref C2)=some false
 dW:∃C C2,eE K "NoWalk" C/\eE K "BadNet" C2/\PySem.W.kitOne K (.ref C) (.ref C2)=some false
 dX:∃C C2,eE K "NoWalk" C/\eE K "NoWalk" C2/\PySem.W.kitOne K (.ref C) (.ref C2)=some true
 fC:∃C C2,eE K "NoWalk" C/\eE K "NoWay" C2/\PySem.W.kitOne K (.ref C) (.ref C2)=some false
 dG:∃C C2,eE K "NoWalk" C/\eE K "TooMany" C2/\PySem.W.kitOne K (.ref C) (.ref C2)=some false
 cI:∃C,eE K "NoWalk" C/\PySem.W.kitOne K (.ref C) (.type "ValueError")=some true
noncomputable def rm{K:PySem.W.Frag}(T:Txt K):Nat->Addr:=fun k=>if k=5 then T.gA.choose else if k=1 then T.jb.choose else if k=0 then T.jc.choose else if k=4 then T.bJ.choose else if k=3 then T.lE.choose else if k=2 then T.gB.choose else 0
structure Oks(Pg:Program)(w:World)(K:PySem.W.Frag)(mg:Str->Option Value)(base:Heap)(cl:Nat->Addr)(n:Nat):Prop where
 c0:aL Pg w K mg base n (run Γ 100000000 n) 0 "ways_out" 2
 c1:aL Pg w K mg base n (run Γ 100000000 n) 1 "turned_net" 1
 c2:aL Pg w K mg base n (run Γ 100000000 n) 2 "hours_from" 2
 c3:aL Pg w K mg base n (run Γ 100000000 n) 3 "hours_to" 2
 c4:aL Pg w K mg base n (run Γ 100000000 n) 4 "is_soonest_step" 2
 c5:aL Pg w K mg base n (run Γ 100000000 n) 5 "soonest_walk" 2
 c6:aL Pg w K mg base n (run Γ 100000000 n) 6 "_law_pot" 1
 c7:aL Pg w K mg base n (run Γ 100000000 n) 7 "_law_take" 2
 c8:aL Pg w K mg base n (run Γ 100000000 n) 8 "_law_way" 2
 c9:aL Pg w K mg base n (run Γ 100000000 n) 9 "_law_net" 1
 Wl:aL Pg w K mg base n (run Γ 100000000 n) 10 "_law_same" 2
 X7:aL Pg w K mg base n (run Γ 100000000 n) 11 "_law_walks" 2
 c12:aL Pg w K mg base n (run Γ 100000000 n) 12 "_law_told" 2
 X8:aL Pg w K mg base n (run Γ 100000000 n) 13 "_law_folded" 2
 c14:aL Pg w K mg base n (run Γ 100000000 n) 14 "law" 1
 x3:oh Pg w K mg base cl n (run Γ 100000000 n) 3 "hours_to" 2
 x5:oh Pg w K mg base cl n (run Γ 100000000 n) 5 "soonest_walk" 2
set_option maxHeartbeats 0 in
theorem DG{Pg:Program}{w:World}{K:PySem.W.Frag}{mg:Str->Option Value}{base:Heap}(T:Txt K)(X:K.In base)(G:base.Ns mainGlobals mg):∀n,Oks Pg w K mg base (rm T) n
 |0=>{
   c0:=eX (ps:=["net","place"]) X G T.D0 rfl (fun _ _ _ _ _ _ us hl=>match us,hl with|[_,_],_=>rfl)
   c1:=eX (ps:=["net"]) X G T.D1 rfl (fun _ _ _ _ _ _ us hl=>match us,hl with|[_],_=>rfl)
   c2:=eX (ps:=["net","start"]) X G T.D2 rfl (fun _ _ _ _ _ _ us hl=>match us,hl with|[_,_],_=>rfl)
   c3:=eX (ps:=["net","place"]) X G T.D3 rfl (fun _ _ _ _ _ _ us hl=>match us,hl with|[_,_],_=>rfl)
   c4:=eX (ps:=["way","left"]) X G T.D4 rfl (fun _ _ _ _ _ _ us hl=>match us,hl with|[_,_],_=>rfl)
   c5:=eX (ps:=["net","place"]) X G T.D5 rfl (fun _ _ _ _ _ _ us hl=>match us,hl with|[_,_],_=>rfl)
   c6:=eX (ps:=["cell"]) X G T.D6 rfl (fun _ _ _ _ _ _ us hl=>match us,hl with|[_],_=>rfl)
   c7:=eX (ps:=["pot","many"]) X G T.D7 rfl (fun _ _ _ _ _ _ us hl=>match us,hl with|[_,_],_=>rfl)
   c8:=eX (ps:=["pot","many"]) X G T.D8 rfl (fun _ _ _ _ _ _ us hl=>match us,hl with|[_,_],_=>rfl)
   c9:=eX (ps:=["pot"]) X G T.D9 rfl (fun _ _ _ _ _ _ us hl=>match us,hl with|[_],_=>rfl)
   Wl:=eX (ps:=["found","due"]) X G T.D10 rfl (fun _ _ _ _ _ _ us hl=>match us,hl with|[_,_],_=>rfl)
   X7:=eX (ps:=["net","start"]) X G T.D11 rfl (fun _ _ _ _ _ _ us hl=>match us,hl with|[_,_],_=>rfl)
   c12:=eX (ps:=["net","place"]) X G T.D12 rfl (fun _ _ _ _ _ _ us hl=>match us,hl with|[_,_],_=>rfl)
   X8:=eX (ps:=["script","most"]) X G T.D13 rfl (fun _ _ _ _ _ _ us hl=>match us,hl with|[_,_],_=>rfl)
   c14:=eX (ps:=["script"]) X G T.D14 rfl (fun _ _ _ _ _ _ us hl=>match us,hl with|[_],_=>rfl)
   x3:=Es (ps:=["net","place"]) X G T.D3 rfl (fun _ _ _ _ _ _ us hl=>match us,hl with|[_,_],_=>rfl)
   x5:=Es (ps:=["net","place"]) X G T.D5 rfl (fun _ _ _ _ _ _ us hl=>match us,hl with|[_,_],_=>rfl)}|n+1=>have ih:=DG (Pg:=Pg) (w:=w) (base:=base) T X G n
   {c0:=eU (ps:=["net","place"]) X G T.D0 rfl rfl (fun _ _ _ _ _ _ us hl=>match us,hl with|[_,_],_=>rfl) fun _ _ F=>d0 (cl:=rm T) F (PySem.W.mg_none_of X G T.iT)
    c1:=eU (ps:=["net"]) X G T.D1 rfl rfl (fun _ _ _ _ _ _ us hl=>match us,hl with|[_],_=>rfl) fun _ _ F=>d1 (cl:=rm T) F (PySem.W.mg_none_of X G T.aX)
    c2:=eU (ps:=["net","start"]) X G T.D2 rfl rfl (fun _ _ _ _ _ _ us hl=>match us,hl with|[_,_],_=>rfl) fun _ _ F=>d2 (cl:=rm T) F
    c3:=eU (ps:=["net","place"]) X G T.D3 rfl rfl (fun _ _ _ _ _ _ us hl=>match us,hl with|[_,_],_=>rfl) fun _ _ F=>d3 (cl:=rm T) F (PySem.W.mg_none_of X G T.dC) (PySem.W.mg_none_of X G T.dD) ih.c2 ih.c1
    c4:=eU (ps:=["way","left"]) X G T.D4 rfl rfl (fun _ _ _ _ _ _ us hl=>match us,hl with|[_,_],_=>rfl) fun _ _ F=>d4 (cl:=rm T) F
    c5:=eU (ps:=["net","place"]) X G T.D5 rfl rfl (fun _ _ _ _ _ _ us hl=>match us,hl with|[_,_],_=>rfl) fun _ _ F=>d5 (cl:=rm T) F (PySem.W.mg_none_of X G T.ig) (PySem.W.mg_none_of X G T.aX) ih.c3 ih.c4 ih.c0
    c6:=eU (ps:=["cell"]) X G T.D6 rfl rfl (fun _ _ _ _ _ _ us hl=>match us,hl with|[_],_=>rfl) fun _ _ F=>d6 (cl:=rm T) F (PySem.W.mg_none_of X G T.bV)
    c7:=eU (ps:=["pot","many"]) X G T.D7 rfl rfl (fun _ _ _ _ _ _ us hl=>match us,hl with|[_,_],_=>rfl) fun _ _ F=>d7 (cl:=rm T) F
    c8:=eU (ps:=["pot","many"]) X G T.D8 rfl rfl (fun _ _ _ _ _ _ us hl=>match us,hl with|[_,_],_=>rfl) fun _ _ F=>d8 (cl:=rm T) F (PySem.W.mg_none_of X G T.ig) ih.c7
    c9:=eU (ps:=["pot"]) X G T.D9 rfl rfl (fun _ _ _ _ _ _ us hl=>match us,hl with|[_],_=>rfl) fun _ _ F=>d9 (cl:=rm T) F (PySem.W.mg_none_of X G T.gw) (PySem.W.mg_none_of X G T.bV) (PySem.W.mg_none_of X G T.aX) ih.c7 ih.c8
    Wl:=eU (ps:=["found","due"]) X G T.D10 rfl rfl (fun _ _ _ _ _ _ us hl=>match us,hl with|[_,_],_=>rfl) fun _ _ F=>d10 (cl:=rm T) F (PySem.W.mg_none_of X G T.Fe) (PySem.W.mg_none_of X G T.xN) (PySem.W.mg_none_of X G T.Ff) (PySem.W.mg_none_of X G T.aO) (PySem.W.mg_none_of X G T.gw) (PySem.W.mg_none_of X G T.dC) (PySem.W.mg_none_of X G T.aX) (PySem.W.mg_none_of X G T.Fg) ih.Wl
    X7:=eU (ps:=["net","start"]) X G T.D11 rfl rfl (fun _ _ _ _ _ _ us hl=>match us,hl with|[_,_],_=>rfl) fun _ _ F=>d11 (cl:=rm T) F (PySem.W.mg_none_of X G T.gw) (PySem.W.mg_none_of X G T.bV)
    c12:=eU (ps:=["net","place"]) X G T.D12 rfl rfl (fun _ _ _ _ _ _ us hl=>match us,hl with|[_,_],_=>rfl) fun _ _ F=>d12 (cl:=rm T) F (PySem.W.mg_none_of X G T.gZ) (PySem.W.mg_none_of X G T.aO) ih.c5 (rE X G (Oj T.iY T.jc.choose_spec)) ih.x5 (rN X (rE X G (Oj T.iU T.bJ.choose_spec)) (ZL T.pW T.bJ.choose_spec T.jc.choose_spec)) (Y6 T.iZ T.bJ.choose_spec) (PySem.W.mg_of X G T.gA.choose_spec) (PySem.W.mg_of X G T.jb.choose_spec) (PySem.W.mg_of X G T.bJ.choose_spec) (PySem.W.mg_of X G T.lE.choose_spec) (PySem.W.mg_of X G T.gB.choose_spec) (Ed T.dF T.bJ.choose_spec T.gA.choose_spec) (Ed T.dW T.bJ.choose_spec T.jb.choose_spec) (Ed T.dX T.bJ.choose_spec T.bJ.choose_spec) (Ed T.fC T.bJ.choose_spec T.lE.choose_spec) (Ed T.dG T.bJ.choose_spec T.gB.choose_spec) (ZF T.cI T.bJ.choose_spec)
    X8:=eU (ps:=["script","most"]) X G T.D13 rfl rfl (fun _ _ _ _ _ _ us hl=>match us,hl with|[_,_],_=>rfl) fun _ _ F=>d13 (cl:=rm T) F (PySem.W.mg_none_of X G T.gw) (PySem.W.mg_none_of X G T.dC) (PySem.W.mg_none_of X G T.bV)
    c14:=eU (ps:=["script"]) X G T.D14 rfl rfl (fun _ _ _ _ _ _ us hl=>match us,hl with|[_],_=>rfl) fun _ _ F=>d14 (cl:=rm T) F (PySem.W.mg_none_of X G T.bV) (PySem.W.mg_none_of X G T.lF) (PySem.W.mg_none_of X G T.aX) ih.X8 ih.c9 ih.c6 ih.Wl ih.c12 ih.X7
    x3:=Bc (ps:=["net","place"]) X G T.D3 rfl rfl (fun _ _ _ _ _ _ us hl=>match us,hl with|[_,_],_=>rfl) fun _ _ F=>dx3 (cl:=rm T) F (PySem.W.mg_none_of X G T.dC) (PySem.W.mg_none_of X G T.dD) ih.c2 ih.c1
    x5:=Bc (ps:=["net","place"]) X G T.D5 rfl rfl (fun _ _ _ _ _ _ us hl=>match us,hl with|[_,_],_=>rfl) fun _ _ F=>dx5 (cl:=rm T) F (PySem.W.mg_none_of X G T.ig) (PySem.W.mg_none_of X G T.aX) ih.c3 ih.c4 ih.c0 (rE X G (Oj T.iU T.bJ.choose_spec)) ih.x3}
theorem gin{K:PySem.W.Frag}{x:Str}{i:Int}{t:Tok}(a:PySem.W.nsIn K mainGlobals x=some (some (Value.int i t))):∃t,PySem.W.nsIn K mainGlobals x=some (some (Value.int i t)):=⟨t,a⟩
set_option maxHeartbeats 0 in
theorem Nv{Pg:Program}{w:World}{K:PySem.W.Frag}{mg:Str->Option Value}{h:Heap}{fa:Addr}(T:Txt K)(X:K.In h)(G:h.Ns mainGlobals mg)(hmg:mg "law"=some (.ref fa)):∃fd:FuncData,(∀(s:Shared)(u:Value),BindsTo s fd ⟨[u],[]⟩ [("script",u)])/\∀base:Heap,K.In base->base.Ns mainGlobals mg->cJ Pg w K mg base mV 40 fa fd ["script"] (nW K 1 (run Γ 100000000 40 14)):=by
 obtain⟨f,fd,a,F⟩:=T.D14.ex;have e:=hmg.symm.trans (PySem.W.mg_of X G a);cases e;refine⟨fd,fun s u=>?_,fun base kb nb=>?_⟩;.obtain⟨oc,od,kV,doc,pm,an,cdv,ct,osl,rfl,lk,hcd⟩:=F.ex;exact .of_eq rfl
 .have ih:=DG (Pg:=Pg) (w:=w) (base:=base) T kb nb 39;exact d14 (cl:=rm T) (k:=39) (n:=100000000) (c:=run Γ 100000000 39) F (PySem.W.mg_none_of X G T.bV) (PySem.W.mg_none_of X G T.lF) (PySem.W.mg_none_of X G T.aX) ih.X8 ih.c9 ih.c6 ih.Wl ih.c12 ih.X7
end T
open PySem PySem.W PyProof.Rows
set_option maxRecDepth 100000 in
set_option maxHeartbeats 0 in
theorem PySem.Challenge.cw_hourhaul_k08_soonest_walks_holds : PySem.Challenge.rw_hourhaul_k08_soonest_walks.Holds := by
 w_on;o_law;k_head;(case hw=>w_witness2);k_fill;refine L2.Br (l:=PySem.Challenge.rw_hourhaul_k08_soonest_walks) (n:=63) (k:=40) (x:="script") (CX:=L2.mV) (sp:=fun K=>HH.nW K 1 (HH.run T.Γ 100000000 40 14)) rfl (by decide) rfl ⟨rfl,by decide,by decide⟩ (fun w h Y=>PySem.W.kIn_of Y) ?F ?S ?C;case F=>
  intro w mg fa h KX G hmg;refine T.Nv ?T KX G hmg;constructor;.refine' HH.cR ?a ?l ?c ?k;case a|l|c|k=>k_is
  .refine' HH.cR ?a ?l ?c ?k;case a|l|c|k=>k_is
  .refine' HH.cR ?a ?l ?c ?k;case a|l|c|k=>k_is
  .refine' HH.cR ?a ?l ?c ?k;case a|l|c|k=>k_is
  .refine' HH.cR ?a ?l ?c ?k;case a|l|c|k=>k_is
  .refine' HH.cR ?a ?l ?c ?k;case a|l|c|k=>k_is
  .refine' HH.cR ?a ?l ?c ?k;case a|l|c|k=>k_is
  .refine' HH.cR ?a ?l ?c ?k;case a|l|c|k=>k_is
  .refine' HH.cR ?a ?l ?c ?k;case a|l|c|k=>k_is
  .refine' HH.cR ?a ?l ?c ?k;case a|l|c|k=>k_is
  .refine' HH.cR ?a ?l ?c ?k;case a|l|c|k=>k_is
  .refine' HH.cR ?a ?l ?c ?k;case a|l|c|k=>k_is
  .refine' HH.cR ?a ?l ?c ?k;case a|l|c|k=>k_is
  .refine' HH.cR ?a ?l ?c ?k;case a|l|c|k=>k_is
  .refine' HH.cR ?a ?l ?c ?k;case a|l|c|k=>k_is
  .k_is
  .k_is
  .k_is
  .k_is
  .k_is
  .k_is
  .k_is
  .k_is
  .k_is
  .k_is
  .k_is
  .k_is
  .k_is
  .k_is
  . (refine' HH.zx ?a);(case a=>k_is)
  . (refine' HH.zx ?a);(case a=>k_is)
  . (refine' HH.zx ?a);(case a=>k_is)
  . (refine' HH.zx ?a);(case a=>k_is)
  . (refine' HH.zx ?a);(case a=>k_is)
  . (refine' HH.zx ?a);(case a=>k_is)
  . (refine' HH.Ec ?ca ?cq);(case ca=>k_is);(case cq=>k_exc)
  . (refine' HH.Ec ?ca ?cq);(case ca=>k_is);(case cq=>k_exc)
  . (refine' HH.aaq ?a ?c ?m);(case a=>k_is);(case c=>k_is);(case m=>k_is)
  . (refine' HH.Zo ?a ?g ?h ?b ?f ?n ?t ?m);(case a=>k_is);(case g=>k_is);(case h=>k_is);(case b=>k_is);(case f=>k_is);(case n=>k_is);(case t=>k_is);(case m=>k_is)
  . (refine' HH.CQ ?a ?c ?m);(case a=>k_is);(case c=>k_is);(case m=>kit_is)
  . (refine' HH.CQ ?a ?c ?m);(case a=>k_is);(case c=>k_is);(case m=>kit_is)
  . (refine' HH.CQ ?a ?c ?m);(case a=>k_is);(case c=>k_is);(case m=>kit_is)
  . (refine' HH.CQ ?a ?c ?m);(case a=>k_is);(case c=>k_is);(case m=>kit_is)
  . (refine' HH.CQ ?a ?c ?m);(case a=>k_is);(case c=>k_is);(case m=>kit_is)
  . (refine' HH.ZR ?a ?m);(case a=>k_is);(case m=>kit_is)
 case S=>intro K H a ns hl hO hS;obtain⟨as,e⟩:=T.G4 ns hl;exact HH.Aj hS e
 case C=>exact fun H s e s' z=>z
