import PyProof.Rows.All
import Wide.All
import OpenK.AllK
import Wide.FinOn
import Lean
import PyProof.EqAt
import PyProof.EqKinds
import PyProof.TupleCall
import PySem.Str
import PySem.Builtin.Int.W1All
import PyProof.NeKinds
import PyProof.ZipIter
import PyProof.SumWalkG
import PyProof.MinMaxWalk
import PyProof.WalksMore
import PyProof.SeqI3
import PyProof.WalkInts
import PyProof.Rows.CallKwBuiltin
import PyProof.Rows.Tup
import PyProof.CollectIter
import PyProof.EnumMake
import PyProof.TupleOfSeq
import PyProof.ListNew
import PyProof.ReprLoop
import PyProof.StationsW
import PyProof.ExcClass3
import PyProof.Rows.CatchBare
import OpenK.KOwn
import KE.KIsAll
import PyProof.NsDelKeeps
import PyProof.RulesAs
import PyProof.ExcArgsOwn
import PyProof.ListRange
import KE.RegKIsAll
import KE.KRevIter
import PyProof.Rows.SortRuns
import KE.KSortTup
import PyProof.DictWalks
import KE.KDictList
import KE.KItemsList
import PyProof.ExcBaseAll.ValueError
import PySem.Challenge.RW_hourhaul_k09_all_walks
set_option Elab.async false
set_option linter.all false
set_option maxRecDepth 100000
set_option genSizeOf false
set_option compiler.extract_closed false
set_option bootstrap.genMatcherCode false
section
namespace L2
open PySem PySem.Spec PyProof.Rows
noncomputable abbrev Key:=Sum Int Str
noncomputable def Jk:Key->Value->Bool|.inl k,v=>Value.isInt k v|.inr x,v=>Value.isStrOf x v
noncomputable def Y6(w:World):Key->Int|.inl k=>hashInt k|.inr x=>hashStr w x
theorem bL:∀{k:Key}{v:Value},Jk k v=true->(∃i t,k=Sum.inl i/\v=Value.int i t)\/(∃x t,k=Sum.inr x/\v=Value.str x t)|.inl i,v,h=>by obtain⟨t,e⟩:=Value.isInt_shape (k:=i) (v:=v) h;exact .inl ⟨i,t,rfl,e⟩|.inr x,v,h=>by obtain⟨t,e⟩:=Value.isStrOf_shape (x:=x) (v:=v) h;exact .inr ⟨x,t,rfl,e⟩
theorem KN(a b:Int):decide ((Sum.inl a:Key)=Sum.inl b)=(a==b):=by
 by_cases e:a=b;.subst e;simp
 .have h:¬(Sum.inl a:Key)=Sum.inl b:=fun q=>e (Sum.inl.inj q);rw[decide_eq_false h];exact(beq_eq_false_iff_ne.mpr e).symm
theorem Ls(a b:Str):decide ((Sum.inr a:Key)=Sum.inr b)=decide (a=b):=by
 by_cases e:a=b;.subst e;simp
 .have h:¬(Sum.inr a:Key)=Sum.inr b:=fun q=>e (Sum.inr.inj q);rw[decide_eq_false h,decide_eq_false e]
theorem JN(a:Int)(b:Str):decide ((Sum.inl a:Key)=Sum.inr b)=false:=decide_eq_false (fun q=>nomatch q)
theorem K1(a:Str)(b:Int):decide ((Sum.inr a:Key)=Sum.inl b)=false:=decide_eq_false (fun q=>nomatch q)
noncomputable def v8(prog:Program)(w:World):PySem.KeyKind prog w Key where
 is:=Jk;hash:=Y6 w;inj:=fun v a b ha hb=>by
  rcases bL ha with⟨i,t,rfl,rfl⟩|⟨x,t,rfl,rfl⟩
  . rcases bL hb with⟨j,u,rfl,e⟩|⟨y,u,rfl,e⟩;.injection e with e1 _;rw[e1]
    .exact nomatch e
  . rcases bL hb with⟨j,u,rfl,e⟩|⟨y,u,rfl,e⟩;.exact nomatch e
    .injection e with e1 _;rw[e1]
 byValue:=fun k v h=>by rcases bL h with⟨i,t,rfl,rfl⟩|⟨x,t,rfl,rfl⟩<;>rfl
 pyHash:=fun hv h=>by
  rcases bL hv with⟨i,t,rfl,rfl⟩|⟨x,t,rfl,rfl⟩;.exact wpAny_pyHash_int h
  .exact wpAny_pyHash_str h
 eqBool:=fun hu hv h=>by
  rcases bL hu with⟨i,t,rfl,rfl⟩|⟨x,t,rfl,rfl⟩
  . rcases bL hv with⟨j,u,rfl,rfl⟩|⟨y,u,rfl,rfl⟩;.rw[KN]at h;exact wpAny_eqBool_int h
    .rw[JN]at h;exact SeqAt.EqAt.int_str i t y u _ _ _ _ h
  . rcases bL hv with⟨j,u,rfl,rfl⟩|⟨y,u,rfl,rfl⟩;.rw[K1]at h;exact SeqAt.EqAt.str_int x t j u _ _ _ _ h
    .rw[Ls]at h;exact wpAny_eqBool_str h
 «strs»:=fun k x t v h=>by
  rcases bL h with⟨i,u,rfl,e⟩|⟨y,u,rfl,e⟩;.exact nomatch e
  .injection e with e1 _;subst e1;cases v<;>rfl
end L2
namespace L2
open PySem PySem.Spec PyProof.Rows
inductive V where|non|bl(b:Bool)|int(i:Int)|str(x:Str)|Ze(b:Array UInt8)|flt(b:UInt64)|ref(a:Addr)|ty(n:String)deriving DecidableEq
noncomputable def RelV:V->Value->Prop|.non,u=>u=Value.none|.bl b,u=>u=Value.bool b|.int i,u=>∃t,u=Value.int i t|.str x,u=>∃t,u=Value.str x t|.Ze b,u=>∃t,u=Value.bytes b t|.flt b,u=>∃t,u=Value.float b t|.ref a,u=>u=Value.ref a|.ty n,u=>u=Value.type n
noncomputable abbrev Vals:List V->List Value->Prop:=Paired RelV
theorem Vals.length{xs:List V}{us:List Value}(r:Vals xs us):xs.length=us.length:=Paired.length r
theorem Vals.get:∀{xs:List V}{us:List Value}{i:Nat}{x:V},Vals xs us->xs[i]?=some x->∃u,us[i]?=some u/\RelV x u|_,_,_,_,.nil,e=>by simp at e|_,_,0,_,.cons r _,e=>by simp at e;subst e;exact⟨_,rfl,r⟩|_,_,i+1,x,.cons _ t,e=>by obtain⟨u,h1,h2⟩:=Vals.get (i:=i) (x:=x) t (by simpa using e);exact⟨u,by simpa using h1,h2⟩
theorem Vals.set{x:V}{u:Value}(r:RelV x u):∀{xs:List V}{us:List Value}(i:Nat),Vals xs us->Vals (xs.set i x) (us.set i u)|_,_,_,.nil=>.nil|_,_,0,.cons _ t=>.cons r t|_,_,i+1,.cons q t=>.cons q (Vals.set r i t)
theorem Vals.append:∀{xs ys:List V}{us ws:List Value},Vals xs us->Vals ys ws->Vals (xs++ys) (us++ws)|_,_,_,_,.nil,s=>s|_,_,_,_,.cons r t,s=>.cons r (Vals.append t s)
theorem Vals.take:∀{xs:List V}{us:List Value}(n:Nat),Vals xs us->Vals (xs.take n) (us.take n)|_,_,0,_=>.nil|_,_,_+1,.nil=>.nil|_,_,n+1,.cons r t=>.cons r (Vals.take n t)
theorem Vals.drop:∀{xs:List V}{us:List Value}(n:Nat),Vals xs us->Vals (xs.drop n) (us.drop n)|_,_,0,r=>r|_,_,_+1,.nil=>.nil|_,_,n+1,.cons _ t=>Vals.drop n t
noncomputable def QS:Option V->Option Value->Prop|some v,some u=>RelV v u|none,none=>True|_,_=>False
noncomputable def KV{κ:Type}:List (κ×V)->List (κ×Value)->Prop:=Paired fun(p:κ×V)(q:κ×Value)=>p.1=q.1/\RelV p.2 q.2
noncomputable def kV:Key->V|.inl i=>.int i|.inr x=>.str x
inductive HO where/--a list -/|lst(xs:List V)/--a tuple (never changes) -/|tup(xs:List V)/--a dict whose keys are ints and texts;one whose keys are tuples of ints and texts (the empty one is both) -/|dK(kvs:List (Key×V))|dT(kvs:List (List Key×V))/--a set of ints: its members,its size -/|set(S:Int->Bool)(n:Nat)/--an instance of the class at C,its dict at dx,its attributes -/|ins(C dx:Addr)(fs:List (Str×V))/--the dict of the instance at x -/|own(x:Addr)/--the dict of an exception -/|xd(fs:List (Str×V))/--a bound method,f of x -/|met(f x:Addr)/--a range object lo,lo+1,.. below hi -/|zj(lo hi:Int)/--a thing that is known to the object (the script;a dict while a loop walks it): read,never written while it is so -/|fc(o:Obj)(u:HO)/--a code object's table -/|Jl(ps:Array Value)/--any other thing,by what is true of its one object (a def of one's own: SetO a S n:=HO.ext fun h=>..) -/|ext(φ:Heap->Prop)
noncomputable abbrev Hp:=Addr->Option HO
noncomputable def upd(H:Hp)(a:Addr)(o:HO):Hp:=fun b=>if b=a then some o else H b
theorem aW{H:Hp}{a:Addr}{o:HO}:upd H a o a=some o:=by unfold upd;rw[if_pos rfl]
theorem aJ{H:Hp}{a b:Addr}{o:HO}(h:b≠a):upd H a o b=H b:=by unfold upd;rw[if_neg h]
theorem eY{H:Hp}{a b:Addr}{o:HO}(h:H a=some o)(h':H b=none):a≠b:=by intro e;subst e;rw[h]at h';cases h'
section
variable(P:Program)(w:World)
noncomputable def cB(H:Hp)(h:Heap)(a:Addr):HO->Prop|.lst xs=>xs.length<=sizeLine/\∃(its:List Value)(n:Nat),Vals xs its/\h.get? a=some {cls:=.type "list",data:=.seq its.toArray n}|.tup xs=>xs.length<=sizeLine/\∃its:List Value,Vals xs its/\IsTup h a its.toArray|.dK kvs=>kvs.length<=sizeLine/\(a==sysModules)=false/\∃vs,KV kvs vs/\h.DictOf (v8 P w) a vs|.dT kvs=>kvs.length<=sizeLine/\(a==sysModules)=false/\∃xs:List (List Key×Addr×Value),Paired (fun(p:List Key×V)(q:List Key×Addr×Value)=>p.1=q.1/\H q.2.1=some (.tup (p.1.map kV))/\RelV p.2 q.2.2) kvs xs/\∃o es ep,h.get? a=some o/\o.ExactDict/\o.data=.dict es ep/\es.toList=xs.map (entryOfKey (tupleKind (v8 P w)))/\(xs.map (·.1)).Nodup|.set S n=>h.SetOf (intKind P w) a S n|.ins C dx fs=>H dx=some (.own a)/\fs.length<=1000/\dx≠a/\h.get? a=some (PySem.W.instObj C dx)/\∃mA,h.Ns1 dx mA/\(∀f,QS (fs.lookup f) (mA f))/\PySem.Within mA (fs.map (·.1))|.own _=>∃o,h.get? a=some o|.xd fs=>∃mA,h.Ns1 a mA/\∀f,QS (fs.lookup f) (mA f)|.zj lo hi=>∃t u v,h.get? a=some {cls:=.type "range",data:=.fields #[.int lo t,.int hi u,.int 1 v]}|.fc o u=>h.get? a=some o/\cB H h a u|.Jl ps=>h.get? a=some {cls:=.none,data:=.fields ps}|.met f x=>h.get? a=some (PySem.W.methodObj (.ref f) (.ref x))|.ext φ=>φ h/\(∃o,h.get? a=some o)/\∀h1 h2:Heap,φ h1->(∀o,h1.get? a=some o->h2.get? a=some o)->φ h2
noncomputable def ji(H:Hp)(h:Heap):Prop:=∀a o,H a=some o->cB P w H h a o
end
section
variable{P:Program}{w:World}{H H':Hp}{h h':Heap}{a:Addr}{o:HO}
theorem cB.lt(x:cB P w H h a o):a<h.objs.size:=by cases o with|lst xs=>obtain⟨_,_,_,_,e⟩:=x;exact Heap.lt_size e|tup xs=>obtain⟨_,_,_,p⟩:=x;exact p.lt|dK kvs=>obtain⟨_,_,_,_,o,_,_,e,_⟩:=x;exact Heap.lt_size e|dT kvs=>obtain⟨_,_,_,_,o,_,_,e,_⟩:=x;exact Heap.lt_size e|set S n=>obtain⟨o,_,_,_,e,_⟩:=x;exact Heap.lt_size e|ins C dx fs=>obtain⟨_,_,_,e,_⟩:=x;exact Heap.lt_size e|own y=>obtain⟨_,e⟩:=x;exact Heap.lt_size e|xd fs=>obtain⟨_,⟨_,_,_,e,_⟩,_⟩:=x;exact Heap.lt_size e|zj lo hi=>obtain⟨_,_,_,e⟩:=x;exact Heap.lt_size e|fc ob u=>obtain⟨e,_⟩:=x;exact Heap.lt_size e|Jl ps=>exact Heap.lt_size (show h.get? a=some _ from x)|met f y=>exact Heap.lt_size (show h.get? a=some _ from x)|ext φ=>obtain⟨_,⟨_,e⟩,_⟩:=x;exact Heap.lt_size e
theorem Paired.QJ{α β:Type}{F G:α->β->Prop}:∀{l₁:List α}{l₂:List β},Paired F l₁ l₂->(∀a b,F a b->G a b)->Paired G l₁ l₂|_,_,.nil,_=>.nil|_,_,.cons r t,f=>.cons (f _ _ r) (Paired.QJ t f)
theorem cB.stay(x:cB P w H h a o)(k:∀b u,(b=a\/H b=some (.own a))->h.get? b=some u->h'.get? b=some u)(ho:∀b,H b=some (.own a)->H' b=some (.own a))(ht:∀b xs,H b=some (.tup xs)->H' b=some (.tup xs)):cB P w H' h' a o:=by induction o with|lst xs=>obtain⟨z,its,n,r,e⟩:=x;exact⟨z,its,n,r,k _ _ (.inl rfl) e⟩|tup xs=>obtain⟨z,its,r,ob,e,c⟩:=x;exact⟨z,its,r,ob,k _ _ (.inl rfl) e,c⟩|dK kvs=>obtain⟨z,y,vs,r,ob,es,ep,e,c⟩:=x;exact⟨z,y,vs,r,ob,es,ep,k _ _ (.inl rfl) e,c⟩|dT kvs=>obtain⟨z,y,xs,r,ob,es,ep,e,c⟩:=x;exact⟨z,y,xs,Paired.QJ r fun p q z=>⟨z.1,ht _ _ z.2.1,z.2.2⟩,ob,es,ep,k _ _ (.inl rfl) e,c⟩|set S n=>obtain⟨ob,es,ep,t,e,c⟩:=x;exact⟨ob,es,ep,t,k _ _ (.inl rfl) e,c⟩|ins C dx fs=>obtain⟨d,z,ne,e,mA,⟨od,es,ep,e2,c⟩,r⟩:=x;exact⟨ho _ d,z,ne,k _ _ (.inl rfl) e,mA,⟨od,es,ep,k _ _ (.inr d) e2,c⟩,r⟩|own y=>obtain⟨ob,e⟩:=x;exact⟨ob,k _ _ (.inl rfl) e⟩|xd fs=>obtain⟨mA,⟨od,es,ep,e,c⟩,r⟩:=x;exact⟨mA,⟨od,es,ep,k _ _ (.inl rfl) e,c⟩,r⟩|zj lo hi=>obtain⟨t,u,v,e⟩:=x;exact⟨t,u,v,k _ _ (.inl rfl) e⟩|fc ob u ih=>obtain⟨e,q⟩:=x;exact⟨k _ _ (.inl rfl) e,ih q⟩|Jl ps=>have e:h.get? a=some {cls:=.none,data:=.fields ps}:=x;show h'.get? a=some {cls:=.none,data:=.fields ps};exact k a _ (.inl rfl) e|met f y=>have e:h.get? a=some (PySem.W.methodObj (.ref f) (.ref y)):=x;show h'.get? a=some (PySem.W.methodObj (.ref f) (.ref y));exact k a _ (.inl rfl) e|ext φ=>obtain⟨p,⟨o,e⟩,st⟩:=x;exact⟨st _ _ p fun o q=>k _ _ (.inl rfl) q,⟨o,k _ _ (.inl rfl) e⟩,st⟩
theorem ji.lt(x:ji P w H h)(e:H a=some o):a<h.objs.size:=(x a o e).lt
theorem ji.fresh(x:ji P w H h)(e:h.objs.size<=a):H a=none:=by cases q:H a with|none=>rfl|some u=>exact absurd (Nat.lt_of_lt_of_le (x.lt q) e) (Nat.lt_irrefl _)
theorem ji.kept(x:ji P w H h)(k:∀b u,h.get? b=some u->h'.get? b=some u):ji P w H h':=fun a o e=>(x a o e).stay (fun b u _ q=>k b u q) (fun _ q=>q) fun _ _ q=>q
theorem ji.laid(x:ji P w H h)(k:∀b u,h.get? b=some u->h'.get? b=some u)(hp:h.objs.size<=a)(new:cB P w (upd H a o) h' a o):ji P w (upd H a o) h':=fun b u e=>by
 have hn:=x.fresh hp;by_cases hb:b=a;.subst hb;rw[aW]at e;cases e;exact new
 .rw[aJ hb]at e;exact(x b u e).stay (fun c v _ q=>k c v q) (fun c q=>by rw[aJ (eY q hn)];exact q) fun c xs q=>by rw[aJ (eY q hn)];exact q
end
noncomputable def Rd(H:Hp)(a:Addr)(u:HO):Prop:=H a=some u\/∃o,H a=some (.fc o u)
theorem Rd.ok{P:Program}{w:World}{H:Hp}{h:Heap}{a:Addr}{u:HO}(r:Rd H a u)(x:ji P w H h):cB P w H h a u:=by
 rcases r with r|⟨o,r⟩;.exact x a u r
 .obtain⟨_,q⟩:=x a _ r;exact q
noncomputable def VJ:Option HO->Prop|some (.lst _)=>True|some (.dK _)=>True|some (.dT _)=>True|some (.set _ _)=>True|some (.ins _ _ _)=>True|some (.ext _)=>True|_=>False
section
variable{P:Program}{w:World}{H:Hp}{h h':Heap}{x e:Addr}{o':HO}
theorem ji.write(ok:ji P w H h)(mu:VJ (H x))(he:e=x\/H e=some (.own x))(k:∀b u,b≠e->h.get? b=some u->h'.get? b=some u)(heo:∃u,h'.get? e=some u)(new:cB P w (upd H x o') h' x o'):ji P w (upd H x o') h':=fun b u q=>by
 have T3:∀c y,H c=some (.own y)->c≠x:=fun c y r z=>by subst z;rw[r]at mu;exact mu
 have Zf:∀c xs,H c=some (.tup xs)->c≠x:=fun c xs r z=>by subst z;rw[r]at mu;exact mu
 by_cases hb:b=x;.subst hb;rw[aW]at q;cases q;exact new
 . rw[aJ hb]at q;by_cases hbe:b=e
   . have q':H b=some (.own x):=by
      rcases he with z|z;.exact absurd (hbe.trans z) hb
      .rw[hbe];exact z
     rw[q]at q';cases q';obtain⟨v,hv⟩:=heo;exact⟨v,by rw[hbe];exact hv⟩
   . refine(ok b u q).stay (fun c v hc r=>k c v ?_ r) (fun c r=>by rw[aJ (T3 c b r)];exact r) fun c xs r=>by rw[aJ (Zf c xs r)];exact r
     rcases hc with rfl|hc;.exact hbe
     . rintro rfl;rcases he with z|z;.exact T3 c b hc z
       .rw[hc]at z;cases z;exact hb rfl
end
structure Un(fs ex:List Addr)(H H':Hp)(h h':Heap):Prop where
 keep:∀b o,h.get? b=some o->H b=none->b∉fs->b∉ex->h'.get? b=some o
 slot:∀b o,h.get? b=some o->H b=none->b∈fs->b∉ex->∃sl,h'.get? b=some {o with slots:=sl}free:∀b o,h.get? b=some o->H b=none->b∉ex->H' b=none
 there:∀b o,h.get? b=some o->b∉ex->∃o',h'.get? b=some o'
 tups:∀b xs,H b=some (.tup xs)->H' b=some (.tup xs)lX:∀b o u,H b=some (.fc o u)->H' b=some (.fc o u)oG:∀b ps,H b=some (.Jl ps)->∃more,H' b=some (.Jl (ps++more))
section
variable{fs fs' ex ex':List Addr}{H H1 H2:Hp}{h h1 h2 h':Heap}{a x e:Addr}{o:HO}
theorem Un.any(u:Un fs ex H H1 h h1){b:Addr}{ob:Obj}(q:h.get? b=some ob)(n:H b=none)(hx:b∉ex):∃sl,h1.get? b=some {ob with slots:=sl}:=by
 by_cases hb:b∈fs;.exact u.slot b ob q n hb hx
 .exact⟨ob.slots,u.keep b ob q n hb hx⟩
theorem Un.kept(k:∀b u,h.get? b=some u->h'.get? b=some u):Un fs ex H H h h':=⟨fun b ob q _ _ _=>k b ob q,fun b ob q _ _ _=>⟨ob.slots,k b ob q⟩,fun _ _ _ n _=>n,fun b ob q _=>⟨ob,k b ob q⟩,fun _ _ q=>q,fun _ _ _ q=>q,fun _ ps q=>⟨#[],by rw[q];simp⟩⟩
theorem Un.refl:Un fs ex H H h h:=Un.kept fun _ _ q=>q
theorem Un.laid(k:∀b u,h.get? b=some u->h'.get? b=some u)(hp:h.objs.size<=a)(hn:H a=none):Un fs ex H (upd H a o) h h' where
 keep:=fun b u q _ _ _=>k b u q;slot:=fun b u q _ _ _=>⟨u.slots,k b u q⟩;free:=fun b u q n _=>by rw[aJ (Nat.ne_of_lt (Nat.lt_of_lt_of_le (Heap.lt_size q) hp))];exact n
 there:=fun b u q _=>⟨u,k b u q⟩;tups:=fun b xs q=>by rw[aJ (eY q hn)];exact q
 lX:=fun b u xs q=>by rw[aJ (eY q hn)];exact q
 oG:=fun b ps q=>⟨#[],by rw[aJ (eY q hn),q];simp⟩
theorem Un.write(mu:VJ (H x))(he:e=x\/H e=some (.own x))(k:∀b u,b≠e->h.get? b=some u->h'.get? b=some u)(heo:∃u,h'.get? e=some u):Un fs ex H (upd H x o) h h':=by
 have hx:∀b,H b=none->b≠x:=fun b n z=>by subst z;rw[n]at mu;exact mu
 have hb:∀b,H b=none->b≠e:=fun b n z=>by
  subst z;rcases he with r|r;.exact hx b n r
  .rw[n]at r;cases r
 have hm:∀b u,H b=some u->¬ VJ (some u)->b≠x:=fun b u q nm z=>by subst z;rw[q]at mu;exact nm mu
 refine⟨fun b u q n _ _=>k b u (hb b n) q,fun b u q n _ _=>⟨u.slots,k b u (hb b n) q⟩,fun b u q n _=>by rw[aJ (hx b n)];exact n,fun b u q _=>?_,fun b xs q=>by rw[aJ (hm b _ q fun z=>z)];exact q,fun b u xs q=>by rw[aJ (hm b _ q fun z=>z)];exact q,fun b ps q=>⟨#[],by rw[aJ (hm b _ q fun z=>z),q];simp⟩⟩;by_cases hbe:b=e;.subst hbe;exact heo
 .exact⟨u,k b u hbe q⟩
end
noncomputable def Vw(h:Heap)(H:Hp):List Addr:=(List.range h.objs.size).filter fun a=>(H a).isSome
noncomputable def qI(h:Heap)(H:Hp):Heap:=PySem.W.hideAll h (Vw h H)
theorem yV(h:Heap)(H:Hp):(qI h H).objs.size=h.objs.size:=PySem.W.hideAll_size _ _
theorem Aa{h:Heap}{H:Hp}{b:Addr}{o:Obj}(e:h.get? b=some o)(n:H b=none):(qI h H).get? b=some o:=PySem.W.hideAll_get _ e fun hm=>by have q:(H b).isSome=true:=(List.mem_filter.mp hm).2;rw[n]at q;simp at q
theorem G8{h:Heap}{H:Hp}{b:Addr}{o:Obj}(e:(qI h H).get? b=some o):h.get? b=some o/\H b=none:=by have e':h.get? b=some o:=PySem.W.of_hideAll (Vw h H) e;refine⟨e',?_⟩;cases q:H b with|none=>rfl|some x=>have hm:b∈Vw h H:=List.mem_filter.mpr ⟨List.mem_range.mpr (Heap.lt_size e'),by simp[q]⟩;have z:(qI h H).get? b=none:=PySem.W.hideAll_none (Vw h H) hm;rw[z]at e;cases e
end L2
namespace L2
open PySem PySem.Spec PyProof.Rows
structure Mod(K:PySem.W.Frag)(mg:Str->Option Value)(base:Heap):Prop where
 T4:K.In base
 glob:base.Ns mainGlobals mg
 blt:∃mb,base.Ns builtinsNs mb/\∀x:Str,x≠"__name__"->mb x=bootBuiltins x
 nolimit:base.NoLimit
structure Cx where
 prog:Program
 w:World
 K:PySem.W.Frag
 mg:Str->Option Value
 base:Heap
 A:Around
 N:List Str
 s₀:Shared
 H₀:Hp
 env:Env
 outer:List Env
 stack:List Env
 ex:List Addr
 fn:Str->Bool
 calm:Bool
 pn:List (Addr×Obj)xe:Value->Shared->Prop
noncomputable def frs(l:List Env):List Addr:=l.filterMap (·.frame)
noncomputable abbrev Cx.fs(X:Cx):List Addr:=frs X.outer
noncomputable def Ak(sc:Scope)(x:Str):Prop:=sc.names.lookup x=some .local\/sc.names.lookup x=some .cell\/sc.names.lookup x=some .free
noncomputable def Loc(sc:Scope)(x:Str):Prop:=sc.names.lookup x=some .local\/sc.names.lookup x=some .cell
noncomputable def Look(env:Env)(h:Heap)(m:Str->Option Value)(x:Str)(u:Value):Prop:=(env.kindOf x=some .local/\m x=some u)\/((env.kindOf x=some .cell\/env.kindOf x=some .free)/\∃c,env.cells.lookup x=some c/\h.IsCell c (some u))
structure Cx.Ok(X:Cx):Prop where
 mod:Mod X.K X.mg X.base
 kind:X.env.scope.kind=.function
 glob:X.env.globals=mainGlobals
 blt:X.env.builtins=builtinsNs
 above:X.s₀.heap.objs.size<=X.env.locals
 inj:∀x y c,X.env.cells.lookup x=some c->X.env.cells.lookup y=some c->x=y
 has:∀x,(X.env.kindOf x=some .cell\/X.env.kindOf x=some .free)->∃c,X.env.cells.lookup x=some c
 cab:∀x c,X.fn x=true->X.env.cells.lookup x=some c->X.s₀.heap.objs.size<=c
 hd:X.calm=true->X.A.handled=none
 frames:X.A.frames=some X.stack
 Jm:X.stack=X.outer\/(X.stack=X.env::X.outer/\X.env.frame=some X.env.locals)Qo:∀b∈X.ex,b≠X.env.locals/\∀x c,X.env.cells.lookup x=some c->c≠b
 bs:∀b o,X.base.get? b=some o->X.s₀.heap.get? b=some o/\X.H₀ b=none
 zy:X.base.objs.size<=X.s₀.heap.objs.size
 rz:∀b o,X.base.get? b=some o->b∉X.ex
 ur:∀b∈X.ex,b∉X.fs
 jb:X.s₀.heap.FunFrames X.base X.outer
 DR:∀b∈X.fs,X.H₀ b=none
structure Inv(X:Cx)(pins:List (Addr×Obj))(σ:List (Option V))(H:Hp)(s:Shared):Prop where
 ok:X.Ok
 os:s.os=X.s₀.os
 bare:AllBare s.gens
 base:Un X.fs X.ex X.H₀ H X.s₀.heap s.heap
 loc:∃m,s.heap.Ns X.env.locals m/\∀(i:Nat)(x:Str)(v:V),X.N[i]?=some x->σ[i]?=some (some v)->Ak X.env.scope x->∃u,RelV v u/\Look X.env s.heap m x u
 cell:∀x c,X.env.cells.lookup x=some c->∃v,s.heap.IsCell c v
 free:H X.env.locals=none
 dW:∀x c,X.env.cells.lookup x=some c->H c=none
 pin:∀p∈X.pn++pins,s.heap.get? p.1=some p.2/\H p.1=none/\p.1≠X.env.locals/\p.1∉X.fs/\∀v,p.2.data≠.cell v
 hok:ji X.prog X.w H s.heap
 len:σ.length=X.N.length
section
variable{X:Cx}{pins:List (Addr×Obj)}{σ:List (Option V)}{H H':Hp}{s:Shared}{h':Heap}
theorem Cx.Ok.GX(ok:X.Ok){b:Addr}{o:Obj}(e:X.base.get? b=some o):b∉X.fs:=fun hb=>by have:=(ok.jb.mem hb).1;rw[e]at this;cases this
theorem Inv.bs(I:Inv X pins σ H s):∀b o,X.base.get? b=some o->s.heap.get? b=some o/\H b=none:=fun b o e=>⟨I.base.keep b o (I.ok.bs b o e).1 (I.ok.bs b o e).2 (I.ok.GX e) (I.ok.rz b o e),I.base.free b o (I.ok.bs b o e).1 (I.ok.bs b o e).2 (I.ok.rz b o e)⟩
theorem Inv.bk(I:Inv X pins σ H s):∀b o,X.base.get? b=some o->s.heap.get? b=some o:=fun b o e=>(I.bs b o e).1
theorem Inv.mod(I:Inv X pins σ H s):Mod X.K X.mg X.base:=I.ok.mod
theorem Inv.DP(I:Inv X pins σ H s):X.K.In s.heap:=I.ok.mod.T4.keeps I.bk
theorem Inv.lt(I:Inv X pins σ H s):X.env.locals<s.heap.objs.size:=let⟨_,hn,_⟩:=I.loc;hn.lt
theorem Inv.sz(I:Inv X pins σ H s):X.s₀.heap.objs.size<=s.heap.objs.size:=Nat.le_trans I.ok.above (Nat.le_of_lt I.lt)
theorem Inv.Yg(I:Inv X pins σ H s){a:Addr}(h:s.heap.objs.size<=a):a∉X.fs:=fun hb=>by obtain⟨_,o,ho,_⟩:=I.ok.jb.mem hb;exact absurd (Nat.lt_of_lt_of_le (Heap.lt_size ho) (Nat.le_trans I.sz h)) (Nat.lt_irrefl _)
theorem Inv.Be(I:Inv X pins σ H s):∀x c,X.env.cells.lookup x=some c->c≠X.env.locals:=fun x c e z=>by obtain⟨v,o,ho,hd⟩:=I.cell x c e;obtain⟨m,⟨o',es,ep,ho',hd',_⟩,_⟩:=I.loc;rw[z,ho']at ho;cases ho;rw[hd']at hd;cases hd
theorem Inv.jb(I:Inv X pins σ H s):s.heap.FunFrames X.base X.outer:=by
 have all:∀(l:List Env),(∀b∈frs l,b∈X.fs)->X.s₀.heap.FunFrames X.base l->s.heap.FunFrames X.base l:=by intro l;induction l with|nil=>intro _ _;trivial|cons env r ih=>intro hs hl;obtain⟨hk,⟨L,o,hf,hn,ho,hd⟩,hr⟩:=hl;have hL:L∈X.fs:=hs L (by unfold frs;rw[List.filterMap_cons,hf];exact List.mem_cons_self);obtain⟨sl,e⟩:=I.base.slot L o ho (I.ok.DR L hL) hL fun z=>I.ok.ur L z hL;exact⟨hk,⟨L,_,hf,hn,e,hd⟩,ih (fun b hb=>hs b (by unfold frs;rw[List.filterMap_cons,hf];exact List.mem_cons_of_mem _ hb)) hr⟩
 exact all X.outer (fun _ hb=>hb) I.ok.jb
theorem Inv.stack(I:Inv X pins σ H s):s.heap.FunFrames X.base X.stack:=by
 rcases I.ok.Jm with e|⟨e,hf⟩;.rw[e];exact I.jb
 .rw[e];obtain⟨m,hn,_⟩:=I.loc;refine .cons (by rw[I.ok.kind];decide) hf hn ?_ I.jb;exact Heap.get?_none_of_le (Nat.le_trans I.ok.zy I.ok.above)
theorem Inv.nR(I:Inv X pins σ H s):∀b∈frs X.stack,b∈X.env.locals::X.fs:=fun b hb=>by
 rcases I.ok.Jm with e|⟨e,hf⟩;.rw[e]at hb;exact List.mem_cons_of_mem _ hb
 .rw[e]at hb;unfold frs at hb;rw[List.filterMap_cons,hf]at hb;exact hb
theorem Inv.mD(I:Inv X pins σ H s):∀b∈frs X.stack,H b=none:=fun b hb=>by
 rcases List.mem_cons.mp (I.nR b hb)with e|hb;.rw[e];exact I.free
 .obtain⟨_,o,ho,_⟩:=I.ok.jb.mem hb;exact I.base.free b o ho (I.ok.DR b hb) fun z=>I.ok.ur b z hb
theorem Inv.step{g':Array GenState}{t':Nat}{d':Drawn}{ch:List Addr}(I:Inv X pins σ H s)(hch:∀b∈ch,(b∈X.ex\/X.s₀.heap.objs.size<=b)/\b≠X.env.locals/\(∀x c,X.env.cells.lookup x=some c->c≠b)/\∀p∈X.pn++pins,p.1≠b)(keep:∀b o,b≠X.env.locals->b∉X.fs->b∉ch->s.heap.get? b=some o->H b=none->h'.get? b=some o)(slot:∀b o,b≠X.env.locals->b∈X.fs->b∉ch->s.heap.get? b=some o->H b=none->∃sl,h'.get? b=some {o with slots:=sl})(free:∀b o,b∉ch->s.heap.get? b=some o->H b=none->H' b=none)(there:∀b o,b∉ch->s.heap.get? b=some o->∃o',h'.get? b=some o')(tups:∀b xs,H b=some (.tup xs)->H' b=some (.tup xs))(lX:∀b o u,H b=some (.fc o u)->H' b=some (.fc o u))(oG:∀b ps,H b=some (.Jl ps)->∃more,H' b=some (.Jl (ps++more)))(ns:∀m,s.heap.Ns X.env.locals m->h'.Ns X.env.locals m)(hok:ji X.prog X.w H' h')(hg:AllBare g'):Inv X pins σ H' {s with heap:=h',gens:=g',drawn:=d',toks:=t'}:=by
 have neL:∀b o,X.s₀.heap.get? b=some o->b≠X.env.locals:=fun b o e=>Nat.ne_of_lt (Nat.lt_of_lt_of_le (Heap.lt_size e) I.ok.above);have Wb:∀b o,X.s₀.heap.get? b=some o->b∉X.ex->b∉ch:=fun b o e hx hb=>by
  rcases(hch b hb).1 with z|z;.exact hx z
  .exact absurd (Nat.lt_of_lt_of_le (Heap.lt_size e) z) (Nat.lt_irrefl _)
 have cellK:∀x c,X.env.cells.lookup x=some c->∀v,s.heap.IsCell c v->h'.IsCell c v:=fun x c e v⟨o,ho,hd⟩=>by
  have uG:c∉ch:=fun z=>(hch c z).2.2.1 x c e rfl;by_cases hc:c∈X.fs;.obtain⟨sl,q⟩:=slot c o (I.Be x c e) hc uG ho (I.dW x c e);exact⟨_,q,hd⟩
  .exact⟨o,keep c o (I.Be x c e) hc uG ho (I.dW x c e),hd⟩
 refine⟨I.ok,I.os,hg,⟨fun b o e n hb hx=>?_,fun b o e n hb hx=>?_,fun b o e n hx=>?_,fun b o e hx=>?_,fun b xs e=>tups b xs (I.base.tups b xs e),fun b o xs e=>lX b o xs (I.base.lX b o xs e),fun b ps e=>?_⟩,?_,fun x c e=>?_,?_,fun x c e=>?_,fun p hp=>?_,hok,I.len⟩;.exact keep b o (neL b o e) hb (Wb b o e hx) (I.base.keep b o e n hb hx) (I.base.free b o e n hx)
 .obtain⟨sl,e1⟩:=I.base.slot b o e n hb hx;obtain⟨sl',e2⟩:=slot b _ (neL b o e) hb (Wb b o e hx) e1 (I.base.free b o e n hx);exact⟨sl',e2⟩
 .obtain⟨o',e1⟩:=I.base.there b o e hx;exact free b o' (Wb b o e hx) e1 (I.base.free b o e n hx)
 .obtain⟨o',e1⟩:=I.base.there b o e hx;exact there b o' (Wb b o e hx) e1
 .obtain⟨m1,e1⟩:=I.base.oG b ps e;obtain⟨m2,e2⟩:=oG b _ e1;exact⟨m1++m2,by rw[e2,Array.append_assoc]⟩
 . obtain⟨m,hn,hl⟩:=I.loc;refine⟨m,ns m hn,fun i x v e1 e2 e3=>?_⟩;obtain⟨u,r,l⟩:=hl i x v e1 e2 e3;refine⟨u,r,?_⟩;rcases l with l|⟨k,c,e,z⟩;.exact .inl l
   .exact .inr ⟨k,c,e,cellK x c e _ z⟩
 .obtain⟨v,z⟩:=I.cell x c e;exact⟨v,cellK x c e v z⟩
 .obtain⟨m,⟨o,_,_,ho,_⟩,_⟩:=I.loc;exact free _ o (fun z=>(hch _ z).2.1 rfl) ho I.free
 .obtain⟨v,o,ho,hd⟩:=I.cell x c e;exact free c o (fun z=>(hch c z).2.2.1 x c e rfl) ho (I.dW x c e)
 .obtain⟨e,n,ne,nf,d⟩:=I.pin p hp;have uG:p.1∉ch:=fun z=>(hch p.1 z).2.2.2 p hp rfl;exact⟨keep p.1 p.2 ne nf uG e n,free p.1 p.2 uG e n,ne,nf,d⟩
theorem Inv.un{t':Nat}(I:Inv X pins σ H s)(u:Un X.fs [] H H' s.heap h')(hok:ji X.prog X.w H' h'):Inv X pins σ H' {s with heap:=h',toks:=t'}:=by obtain⟨m,⟨o,es,ep,ho,r⟩,_⟩:=id I.loc;obtain⟨sl,hL⟩:=u.any ho I.free (by simp);exact I.step (g':=s.gens) (d':=s.drawn) (ch:=[]) (fun _ z=>nomatch z) (fun b o _ hb _ e n=>u.keep b o e n hb (by simp)) (fun b o _ hb _ e n=>u.slot b o e n hb (by simp)) (fun b o _ e n=>u.free b o e n (by simp)) (fun b o _ e=>u.there b o e (by simp)) u.tups u.lX u.oG (fun m' hm=>by obtain⟨o',es',ep',ho',r'⟩:=hm;rw[ho]at ho';cases ho';exact⟨_,es',ep',hL,r'⟩) hok I.bare
theorem Inv.call{g':Array GenState}{t':Nat}{d':Drawn}{ch:List Addr}(I:Inv X pins σ H s)(u:Un (frs X.stack) ch H H' s.heap h')(hok:ji X.prog X.w H' h')(hg:AllBare g')(hch:∀b∈ch,(b∈X.ex\/X.s₀.heap.objs.size<=b)/\b≠X.env.locals/\(∀x c,X.env.cells.lookup x=some c->c≠b)/\∀p∈X.pn++pins,p.1≠b):Inv X pins σ H' {s with heap:=h',gens:=g',drawn:=d',toks:=t'}:=by obtain⟨m,⟨o,es,ep,ho,r⟩,_⟩:=id I.loc;obtain⟨sl,hL⟩:=u.any ho I.free fun z=>(hch _ z).2.1 rfl;exact I.step (ch:=ch) hch (fun b o hL hb hc e n=>u.keep b o e n (fun z=>(List.mem_cons.mp (I.nR b z)).elim hL hb) hc) (fun b o _ _ hc e n=>u.any e n hc) (fun b o hc e n=>u.free b o e n hc) (fun b o hc e=>u.there b o e hc) u.tups u.lX u.oG (fun m' hm=>by obtain⟨o',es',ep',ho',r'⟩:=hm;rw[ho]at ho';cases ho';exact⟨_,es',ep',hL,r'⟩) hok hg
theorem Inv.turned{t':Nat}{it:Addr}(I:Inv X pins σ H s)(k:∀b o,b≠it->s.heap.get? b=some o->h'.get? b=some o)(hn:H it=none)(hL:it≠X.env.locals)(h1:it∈X.ex\/X.s₀.heap.objs.size<=it)(h2:∀x c,X.env.cells.lookup x=some c->c≠it)(h3:∀p∈X.pn++pins,p.1≠it):Inv X pins σ H {s with heap:=h',toks:=t'}:=by
 have nit:∀b u,H b=some u->b≠it:=fun b u e z=>by rw[z,hn]at e;cases e
 refine I.step (g':=s.gens) (d':=s.drawn) (ch:=[it]) (fun b hb=>?_) (fun b o _ _ hc e _=>k b o (fun z=>hc (by simp[z])) e) (fun b o _ _ hc e _=>⟨o.slots,k b o (fun z=>hc (by simp[z])) e⟩) (fun _ _ _ _ n=>n) (fun b o hc e=>⟨o,k b o (fun z=>hc (by simp[z])) e⟩) (fun _ _ e=>e) (fun _ _ _ e=>e) (fun b ps e=>⟨#[],by rw[e];simp⟩) (fun m hm=>?_) (fun b u e=>?_) I.bare
 . have e:b=it:=by simpa using hb
   subst e;exact⟨h1,hL,h2,h3⟩
 .obtain⟨o,es,ep,ho,r⟩:=hm;exact⟨o,es,ep,k _ o (Ne.symm hL) ho,r⟩
 . refine(I.hok b u e).stay (fun c v hc q=>k c v ?_ q) (fun _ q=>q) fun _ _ q=>q;rcases hc with z|z;.rw[z];exact nit b u e
   .exact nit c _ z
theorem Inv.tok(I:Inv X pins σ H s)(t:Nat):Inv X pins σ H {s with toks:=t}:=I.un (h':=s.heap) (t':=t) Un.refl I.hok
theorem Inv.kept{t':Nat}(I:Inv X pins σ H s)(k:∀b u,s.heap.get? b=some u->h'.get? b=some u):Inv X pins σ H {s with heap:=h',toks:=t'}:=I.un (Un.kept k) (I.hok.kept k)
theorem Inv.laid{a:Addr}{o:HO}{t':Nat}(I:Inv X pins σ H s)(k:∀b u,s.heap.get? b=some u->h'.get? b=some u)(hp:s.heap.objs.size<=a)(new:cB X.prog X.w (upd H a o) h' a o):Inv X pins σ (upd H a o) {s with heap:=h',toks:=t'}:=I.un (Un.laid k hp (I.hok.fresh hp)) (I.hok.laid k hp new)
theorem Inv.write{x e:Addr}{o:HO}{t':Nat}(I:Inv X pins σ H s)(mu:VJ (H x))(he:e=x\/H e=some (.own x))(k:∀b u,b≠e->s.heap.get? b=some u->h'.get? b=some u)(heo:∃u,h'.get? e=some u)(new:cB X.prog X.w (upd H x o) h' x o):Inv X pins σ (upd H x o) {s with heap:=h',toks:=t'}:=I.un (Un.write mu he k heo) (I.hok.write mu he k heo new)
theorem Inv.xr{uv:List (Addr×Obj)}(I:Inv X pins σ H s)(h:∀p∈uv,s.heap.get? p.1=some p.2/\H p.1=none/\p.1≠X.env.locals/\p.1∉X.fs/\∀v,p.2.data≠.cell v):Inv X uv σ H s:=⟨I.ok,I.os,I.bare,I.base,I.loc,I.cell,I.free,I.dW,fun p hp=>(List.mem_append.mp hp).elim (fun z=>I.pin p (List.mem_append_left _ z)) (h p),I.hok,I.len⟩
theorem m6{N:List Str}(hN:N.Nodup){i j:Nat}{x:Str}(a:N[i]?=some x)(b:N[j]?=some x):i=j:=by obtain⟨h1,e1⟩:=List.getElem?_eq_some_iff.mp a;obtain⟨h2,e2⟩:=List.getElem?_eq_some_iff.mp b;exact(List.getElem_inj hN).mp (e1.trans e2.symm)
theorem ye{M:Model}{A:Around}{E:Value->Shared->Prop}{i:Nat}{x:Str}{v:V}{u:Value}{Q:Unit->Shared->Prop}(I:Inv X pins σ H s)(hN:X.N.Nodup)(hi:X.N[i]?=some x)(hx:Loc X.env.scope x)(r:RelV v u)(h:∀s',Inv X pins (σ.set i (some v)) H s'->(∃a,Heap.SameBut a s.heap s'.heap/\(a=X.env.locals\/X.env.cells.lookup x=some a))->Q () s')(hf:X.fn x=true\/X.env.scope.names.lookup x=some .local:=by first|exact .inl rfl|exact .inr rfl|assumption):wpAny M A (storeName X.env x u) Q E s:=by
 obtain⟨m,hn,hl⟩:=id I.loc;have hcls:(X.env.scope.kind==.class||(X.env.scope.kind==.module&&X.env.locals !=X.env.globals))=false:=by rw[I.ok.kind];rfl
 have hiσ:i<σ.length:=by rw[I.len];exact(List.getElem?_eq_some_iff.mp hi).1
 have Be:=I.Be;have tracked:∀{a:Addr}{h':Heap},(∃o,s.heap.get? a=some o/\H a=none)->Heap.SameBut a s.heap h'->ji X.prog X.w H h':=fun{a h'}ha hs b ob e=>by
  obtain⟨_,_,hfree⟩:=ha;refine(I.hok b ob e).stay (fun c w' hc q=>(hs.2 c ?_).trans q) (fun _ q=>q) fun _ _ q=>q;rintro rfl;rcases hc with rfl|hc;.rw[hfree]at e;cases e
  .rw[hfree]at hc;cases hc
 rcases hx with hk|hk
 . refine wpAny_storeName_local hk hn (fun h' hn' hs=>?_) hcls;obtain⟨oL,_,_,hoL,_⟩:=id hn;refine h _ ⟨I.ok,I.os,I.bare,⟨fun b o e n hb hx=>?_,fun b o e n hb hx=>?_,I.base.free,fun b o e hx=>?_,I.base.tups,I.base.lX,I.base.oG⟩,⟨_,hn',fun j y v' e1 e2 e3=>?_⟩,fun y c e=>?_,I.free,I.dW,fun p hp=>?_,tracked ⟨oL,hoL,I.free⟩ hs,by simpa using I.len⟩ ⟨_,hs,.inl rfl⟩;.exact(hs.2 b (Nat.ne_of_lt (Nat.lt_of_lt_of_le (Heap.lt_size e) I.ok.above))).trans (I.base.keep b o e n hb hx)
   .obtain⟨sl,e1⟩:=I.base.slot b o e n hb hx;exact⟨sl,(hs.2 b (Nat.ne_of_lt (Nat.lt_of_lt_of_le (Heap.lt_size e) I.ok.above))).trans e1⟩
   .obtain⟨o',e1⟩:=I.base.there b o e hx;exact⟨o',(hs.2 b (Nat.ne_of_lt (Nat.lt_of_lt_of_le (Heap.lt_size e) I.ok.above))).trans e1⟩
   . by_cases hj:j=i;.subst hj;rw[hi]at e1;cases e1;rw[List.getElem?_set_self hiσ]at e2;cases e2;exact⟨u,r,.inl ⟨hk,by simp⟩⟩
     . rw[List.getElem?_set_ne (Ne.symm hj)]at e2;obtain⟨u',r',q⟩:=hl j y v' e1 e2 e3;refine⟨u',r',?_⟩;rcases q with⟨k,e⟩|⟨k,c,e,z⟩;.refine .inl ⟨k,?_⟩;have:y≠x:=fun e=>hj (m6 hN e1 (e▸hi));simp[this,e]
       .exact .inr ⟨k,c,e,z.sameBut hs (Be y c e)⟩
   .obtain⟨w',z⟩:=I.cell y c e;exact⟨w',z.sameBut hs (Be y c e)⟩
   .obtain⟨e,n,ne,nf,d⟩:=I.pin p hp;exact⟨(hs.2 p.1 ne).trans e,n,ne,nf,d⟩
 . have hfn:X.fn x=true:=by
    rcases hf with z|z;.exact z
    .rw[z]at hk;cases hk
   obtain⟨c,hc⟩:=I.ok.has x (.inl hk);obtain⟨w',z⟩:=I.cell x c hc;refine wpAny_storeName_cell I.ok.kind hk hc z (fun h' hc' hs=>?_);obtain⟨oc,hoc,Zg⟩:=id z;refine h {s with heap:=h'} ⟨I.ok,I.os,I.bare,⟨fun b o e n hb hx=>?_,fun b o e n hb hx=>?_,I.base.free,fun b o e hx=>?_,I.base.tups,I.base.lX,I.base.oG⟩,⟨m,hn.sameBut hs (Ne.symm (Be x c hc)),fun j y v' e1 e2 e3=>?_⟩,fun y c' e=>?_,I.free,I.dW,fun p hp=>?_,tracked ⟨oc,hoc,I.dW x c hc⟩ hs,by simpa using I.len⟩ ⟨c,hs,.inr hc⟩;.exact(hs.2 b (Nat.ne_of_lt (Nat.lt_of_lt_of_le (Heap.lt_size e) (I.ok.cab x c hfn hc)))).trans (I.base.keep b o e n hb hx)
   .obtain⟨sl,e1⟩:=I.base.slot b o e n hb hx;exact⟨sl,(hs.2 b (Nat.ne_of_lt (Nat.lt_of_lt_of_le (Heap.lt_size e) (I.ok.cab x c hfn hc)))).trans e1⟩
   .obtain⟨o',e1⟩:=I.base.there b o e hx;exact⟨o',(hs.2 b (Nat.ne_of_lt (Nat.lt_of_lt_of_le (Heap.lt_size e) (I.ok.cab x c hfn hc)))).trans e1⟩
   . by_cases hj:j=i;.subst hj;rw[hi]at e1;cases e1;rw[List.getElem?_set_self hiσ]at e2;cases e2;exact⟨u,r,.inr ⟨.inl hk,c,hc,hc'⟩⟩
     . rw[List.getElem?_set_ne (Ne.symm hj)]at e2;obtain⟨u',r',q⟩:=hl j y v' e1 e2 e3;refine⟨u',r',?_⟩;rcases q with q|⟨k,c',e,z'⟩;.exact .inl q
       .refine .inr ⟨k,c',e,z'.sameBut hs ?_⟩;rintro rfl;exact hj (m6 hN e1 (I.ok.inj _ _ _ e hc▸hi))
   . by_cases hcc:c'=c;.subst hcc;exact⟨_,hc'⟩
     .obtain⟨w2,z2⟩:=I.cell y c' e;exact⟨w2,z2.sameBut hs hcc⟩
   .obtain⟨e,n,ne,nf,d⟩:=I.pin p hp;refine⟨(hs.2 p.1 ?_).trans e,n,ne,nf,d⟩;intro q;rw[q,hoc]at e;have q':oc=p.2:=Option.some.inj e;exact d w' (by rw[<-q'];exact Zg)
theorem gR{M:Model}{A:Around}{E:Value->Shared->Prop}{i:Nat}{x:Str}{v:V}{u:Value}{Q:Unit->Shared->Prop}(I:Inv X pins σ H s)(hN:X.N.Nodup)(hi:X.N[i]?=some x)(hx:Loc X.env.scope x)(r:RelV v u)(h:∀s',Inv X pins (σ.set i (some v)) H s'->Q () s')(hf:X.fn x=true\/X.env.scope.names.lookup x=some .local:=by first|exact .inl rfl|exact .inr rfl|assumption):wpAny M A (storeName X.env x u) Q E s:=ye I hN hi hx r (fun s' I' _=>h s' I') hf
end
noncomputable abbrev XK:=Value->Option Addr->Hp->Prop
noncomputable abbrev St:=List (Option V)
noncomputable abbrev VK:=V->Hp->Prop
noncomputable abbrev TE:=St->Hp->VK->Prop
noncomputable abbrev TT:=St->Hp->(Bool->Hp->Prop)->Prop
noncomputable abbrev TA:=St->Hp->(List V->Hp->Prop)->Prop
structure Ends where
 nx:St->Hp->Prop
 rt:VK
 bk:St->Hp->Prop:=fun _ _=>False
 ct:St->Hp->Prop:=fun _ _=>False
noncomputable abbrev TS:=Ends->St->Hp->Prop
inductive EP(X:Cx)(pins:List (Addr×Obj))(σ:St)(Q:VK)(u:Value)(s':Shared):Prop where|mk(v:V)(H':Hp)(q0:Inv X pins σ H' s')(q1:RelV v u)(q2:Q v H')
noncomputable def TP(X:Cx)(pins:List (Addr×Obj))(σ:St)(Q:Bool->Hp->Prop)(b:Bool)(s':Shared):Prop:=∃H',Inv X pins σ H' s'/\Q b H'
inductive AP(X:Cx)(pins:List (Addr×Obj))(σ:St)(Q:List V->Hp->Prop)(us:List Value)(s':Shared):Prop where|mk(vs:List V)(H':Hp)(q0:Inv X pins σ H' s')(q1:Vals vs us)(q2:Q vs H')
noncomputable def SP(X:Cx)(pins:List (Addr×Obj))(D:Ends)(f:Flow)(s':Shared):Prop:=match f with|.next=>∃σ' H',Inv X pins σ' H' s'/\D.nx σ' H'|.brk=>∃σ' H',Inv X pins σ' H' s'/\D.bk σ' H'|.cont=>∃σ' H',Inv X pins σ' H' s'/\D.ct σ' H'|.ret u=>∃v σ' H',Inv X pins σ' H' s'/\RelV v u/\D.rt v H'
noncomputable def PE(X:Cx)(e:Expr)(t:TE):Prop:=∀(pins:List (Addr×Obj))(s:Shared)(σ:St)(H:Hp)(Q:VK),Inv X pins σ H s->t σ H Q->wpAny (model X.prog X.w) X.A (eval e X.env) (EP X pins σ Q) X.xe s
noncomputable def PT(X:Cx)(e:Expr)(t:TT):Prop:=∀(pins:List (Addr×Obj))(s:Shared)(σ:St)(H:Hp)(Q:Bool->Hp->Prop),Inv X pins σ H s->t σ H Q->wpAny (model X.prog X.w) X.A (isTrue e X.env (eval e X.env)) (TP X pins σ Q) X.xe s
noncomputable def PW(X:Cx)(e:Expr)(t:TT):Prop:=∀(whole:Sem Value)(pins:List (Addr×Obj))(s:Shared)(σ:St)(H:Hp)(Q:Bool->Hp->Prop),Inv X pins σ H s->t σ H Q->wpAny (model X.prog X.w) X.A (isTrue e X.env whole) (TP X pins σ Q) X.xe s
theorem PW.pt{X:Cx}{e:Expr}{t:TT}(h:PW X e t):PT X e t:=h _
noncomputable def PA(X:Cx)(es:List Expr)(t:TA):Prop:=∀(pos:Pos)(pins:List (Addr×Obj))(s:Shared)(σ:St)(H:Hp)(Q:List V->Hp->Prop),Inv X pins σ H s->t σ H Q->wpAny (model X.prog X.w) X.A (spliced (backTo pos (starEach es X.env))) (AP X pins σ Q) X.xe s
noncomputable def PS(X:Cx)(st:Stmt)(t:TS):Prop:=∀(pins:List (Addr×Obj))(s:Shared)(σ:St)(H:Hp)(D:Ends),Inv X pins σ H s->t D σ H->wpAny (model X.prog X.w) X.A (exec st X.env) (SP X pins D) X.xe s
noncomputable def lL(X:Cx)(st:List Stmt)(t:TS):Prop:=∀(pins:List (Addr×Obj))(s:Shared)(σ:St)(H:Hp)(D:Ends),Inv X pins σ H s->t D σ H->wpAny (model X.prog X.w) X.A (execs st X.env) (SP X pins D) X.xe s
theorem dq{α:Type}{t:Sem α}{Q Q':α->Shared->Prop}{M:Model}{A:Around}{E:Value->Shared->Prop}{s:Shared}(h:wpAny M A t Q E s)(hQ:∀a s,Q a s->Q' a s):wpAny M A t Q' E s:=wpAny_mono h hQ fun _ _ x=>x
end L2
namespace L2
open PySem PySem.Spec PyProof.Rows
section
variable{X:Cx}
noncomputable def R6(i:Nat):TE:=fun σ H Q=>∃v,σ[i]?=some (some v)/\Q v H
noncomputable def tC(v:V):TE:=fun _ H Q=>Q v H
theorem jh{i:Nat}{x:Str}{pos:Pos}(hN:X.N[i]?=some x)(hv:Ak X.env.scope x)(hd:(x==("__debug__":Str))=false:=by decide)(hcd:(x==("__classdict__":Str))=false:=by decide):PE X (.Name x pos) (R6 i):=by
 intro pins s σ H Q I h;obtain⟨v,e,h⟩:=h;obtain⟨m,hn,hl⟩:=I.loc;obtain⟨u,r,l⟩:=hl i x v hN e hv;have fin:EP X pins σ Q u s:=⟨v,H,I,r,h⟩;rcases l with⟨hk,hm⟩|⟨hk,c,hc,hcell⟩;.exact wpAny_Name (wpAny_loadName_local I.ok.kind hk hn hm fin) hd
 . rcases hk with hk|hk;.exact wpAny_Name (wpAny_loadName_cell I.ok.kind hk hc hcell fin) hd
   .exact wpAny_Name (wpAny_loadName_free I.ok.kind hk hc hcell fin hcd) hd
theorem Ke{i j pos}:PE X (.Constant (.int i) j pos) (tC (.int i)):=fun _ _ _ H _ I h=>wpAny_Constant_int ⟨.int i,H,I.tok _,⟨_,rfl⟩,h⟩
theorem R1{b j pos}:PE X (.Constant (.bool b) j pos) (tC (.bl b)):=fun _ _ _ H _ I h=>Constant_bool ⟨.bl b,H,I,rfl,h⟩
theorem Mv{j pos}:PE X (.Constant .none j pos) (tC .non):=fun _ _ _ H _ I h=>Constant_none ⟨.non,H,I,rfl,h⟩
theorem J8{x j pos}:PE X (.Constant (.str x) j pos) (tC (.str x)):=fun _ _ _ H _ I h=>Calls.Constant_str ⟨.str x,H,I.tok _,⟨_,rfl⟩,h⟩
noncomputable def Gl(X:Cx)(x:Str):Prop:=X.env.kindOf x=some .globalImplicit
theorem mF{E:Value->Shared->Prop}{pins:List (Addr×Obj)}{s:Shared}{σ:St}{H:Hp}{x:Str}{u:Value}{pos:Pos}{Q:Value->Shared->Prop}(I:Inv X pins σ H s)(hg:Gl X x)(hm:X.mg x=some u)(h:Q u s)(hd:(x==("__debug__":Str))=false:=by decide):wpAny (model X.prog X.w) X.A (eval (.Name x pos) X.env) Q E s:=Calls.Name_function_global I.ok.kind hg (Calls.loadGlobal_global (by rw[I.ok.glob];exact I.mod.glob.keeps I.bk) hm h) hd
theorem kI{E:Value->Shared->Prop}{pins:List (Addr×Obj)}{s:Shared}{σ:St}{H:Hp}{x:Str}{u:Value}{pos:Pos}{Q:Value->Shared->Prop}(I:Inv X pins σ H s)(hg:Gl X x)(hm:X.mg x=none)(hv:bootBuiltins x=some u)(h:Q u s)(hn:x≠"__name__":=by decide)(hd:(x==("__debug__":Str))=false:=by decide):wpAny (model X.prog X.w) X.A (eval (.Name x pos) X.env) Q E s:=by obtain⟨mb,h1,h2⟩:=I.mod.blt;exact Calls.Name_function_global I.ok.kind hg (Calls.loadGlobal_builtin (by rw[I.ok.glob];exact I.mod.glob.keeps I.bk) hm (by rw[I.ok.blt];exact h1.keeps I.bk) ((h2 x hn).trans hv) h) hd
theorem iK{x:Str}{v:V}{u:Value}{pos:Pos}(hg:Gl X x)(hm:X.mg x=some u)(r:RelV v u)(hd:(x==("__debug__":Str))=false:=by decide):PE X (.Name x pos) (tC v):=fun _ _ _ H _ I h=>mF I hg hm ⟨v,H,I,r,h⟩ hd
theorem p6{x:Str}{v:V}{u:Value}{pos:Pos}(hg:Gl X x)(hm:X.mg x=none)(hv:bootBuiltins x=some u)(r:RelV v u)(hn:x≠"__name__":=by decide)(hd:(x==("__debug__":Str))=false:=by decide):PE X (.Name x pos) (tC v):=fun _ _ _ H _ I h=>kI I hg hm hv ⟨v,H,I,r,h⟩ hn hd
variable{a b:Expr}{ta tb:TE}{pos:Pos}
noncomputable def tB(t:TE):TT:=fun σ H Q=>t σ H fun x H1=>∃c,x=.bl c/\Q c H1
theorem Cr{e:Expr}{t:TE}(h:PE X e t)(he:∀whole,isTrue e X.env whole=(do let v<-whole;standAt e.pos;holding [v] (truthy v)):=by intro _;rfl):PT X e (tB t):=by intro pins s σ H Q I hw;refine isTrue_plain (dq (h pins s σ H _ I hw) fun v s1⟨x,H1,I1,r1,q1⟩=>?_) (he _);obtain⟨d,rfl,q⟩:=q1;cases r1;exact wpAny_truthy_bool ⟨H1,I1,q⟩
variable{tA Wc:TT}{rest:List Expr}
noncomputable def Yq(t u:TT):TT:=fun σ H Q=>t σ H fun c H1=>if c=true then u σ H1 Q else Q false H1
noncomputable def tOr(t u:TT):TT:=fun σ H Q=>t σ H fun c H1=>if c=true then Q true H1 else u σ H1 Q
noncomputable def Y4(t:TT):TT:=fun σ H Q=>t σ H fun c H1=>Q (!c) H1
theorem wj(ha:PT X a tA):PW X (.BoolOp .And [a] pos) tA:=by intro wh pins s σ H Q I h;refine isTrue_and (dq (ha pins s σ H Q I h) fun c s1 e=>?_);cases c with|true=>exact isTrue_and_nil e|false=>exact e
theorem Mi(ha:PT X a tA):PW X (.BoolOp .Or [a] pos) tA:=by intro wh pins s σ H Q I h;refine isTrue_or (dq (ha pins s σ H Q I h) fun c s1 e=>?_);cases c with|false=>exact isTrue_or_nil e|true=>exact e
theorem Ce(ha:PT X a tA)(hb:PW X (.BoolOp .And (b::rest) pos) Wc):PW X (.BoolOp .And (a::b::rest) pos) (Yq tA Wc):=by intro wh pins s σ H Q I h;refine isTrue_and (dq (ha pins s σ H _ I h) fun c s1⟨H1,I1,q1⟩=>?_);cases c with|true=>exact hb wh pins s1 σ H1 Q I1 q1|false=>exact⟨H1,I1,q1⟩
theorem QC(ha:PT X a tA)(hb:PW X (.BoolOp .Or (b::rest) pos) Wc):PW X (.BoolOp .Or (a::b::rest) pos) (tOr tA Wc):=by intro wh pins s σ H Q I h;refine isTrue_or (dq (ha pins s σ H _ I h) fun c s1⟨H1,I1,q1⟩=>?_);cases c with|true=>exact⟨H1,I1,q1⟩|false=>exact hb wh pins s1 σ H1 Q I1 q1
theorem An(ha:PT X a tA):PT X (.UnaryOp .Not a pos) (Y4 tA):=by intro pins s σ H Q I h;exact isTrue_not (ha pins s σ H (fun c H1=>Q (!c) H1) I h)
noncomputable def Qz(ta tb:TE):TE:=fun σ H Q=>ta σ H fun x H1=>∃c,x=.bl c/\if c=true then tb σ H1 Q else Q (.bl false) H1
noncomputable def Su(ta:TE):TE:=fun σ H Q=>ta σ H fun x H1=>∃c,x=.bl c/\Q (.bl (!c)) H1
theorem J6{op}{t:TE}(h:PE X a t):PE X (.BoolOp op [a] pos) t:=fun pins s σ H Q I hw=>BoolOp_one (h pins s σ H Q I hw)
theorem Ly(ha:PE X a ta)(hb:PE X (.BoolOp .And (b::rest) pos) tb):PE X (.BoolOp .And (a::b::rest) pos) (Qz ta tb):=by intro pins s σ H Q I h;refine BoolOp_and (dq (ha pins s σ H _ I h) fun v s1⟨x,H1,I1,r1,q1⟩=>?_);obtain⟨c,rfl,q1⟩:=q1;cases r1;refine wpAny_truthy_bool ?_;cases c with|true=>exact hb pins s1 σ H1 Q I1 q1|false=>exact⟨.bl false,H1,I1,rfl,q1⟩
theorem Kq(ha:PE X a ta):PE X (.UnaryOp .Not a pos) (Su ta):=by intro pins s σ H Q I h;refine UnaryOp_ (dq (ha pins s σ H _ I h) fun v s1⟨x,H1,I1,r1,q1⟩=>?_);obtain⟨c,rfl,q1⟩:=q1;cases r1;exact not_of (wpAny_truthy_bool ⟨.bl (!c),H1,I1,rfl,q1⟩)
end
end L2
namespace L2
open PySem PySem.Spec PyProof.Rows
noncomputable def dI(K:PySem.W.Frag)(H:Hp)(a:Addr)(xs:List V):Prop:=Rd H a (.lst xs)\/∃(o:Obj)(its:Array Value)(n:Nat),K.lookup a=some o/\o.cls=.type "list"/\o.dict=none/\o.data=.seq its n/\its.size<=sizeLine/\Vals xs its.toList
noncomputable def gw(K:PySem.W.Frag)(H:Hp)(a:Addr)(xs:List V):Prop:=Rd H a (.tup xs)\/∃(o:Obj)(its:Array Value)(n:Nat),K.lookup a=some o/\o.cls=.type "tuple"/\o.data=.seq its n/\its.size<=sizeLine/\Vals xs its.toList
noncomputable def Xo:Value->Option V|.none=>some .non|.bool b=>some (.bl b)|.int i _=>some (.int i)|.str x _=>some (.str x)|.bytes b _=>some (.Ze b)|.float b _=>some (.flt b)|.ref a=>some (.ref a)|.type n=>some (.ty n)|_=>none
theorem RelV.abs{x:V}{u:Value}(r:RelV x u):Xo u=some x:=by cases x with|non=>cases r;rfl|bl _=>cases r;rfl|int _=>obtain⟨t,rfl⟩:=r;rfl|str _=>obtain⟨t,rfl⟩:=r;rfl|Ze _=>obtain⟨t,rfl⟩:=r;rfl|flt _=>obtain⟨t,rfl⟩:=r;rfl|ref _=>cases r;rfl|ty _=>cases r;rfl
theorem RelV.inj{x y:V}{u:Value}(r:RelV x u)(q:RelV y u):x=y:=Option.some.inj (r.abs.symm.trans q.abs)
theorem Vals.inj:∀{xs ys:List V}{us:List Value},Vals xs us->Vals ys us->xs=ys|_,_,_,.nil,.nil=>rfl|_,_,_,.cons r t,.cons r' t'=>by rw[r.inj r',Vals.inj t t']
section
variable{X:Cx}{pins:List (Addr×Obj)}{σ:St}{H:Hp}{s:Shared}{a:Addr}{xs ys:List V}
theorem dI.of{K:PySem.W.Frag}(h:H a=some (.lst xs)):dI K H a xs:=.inl (.inl h)
theorem gw.of{K:PySem.W.Frag}(h:H a=some (.tup xs)):gw K H a xs:=.inl (.inl h)
theorem Inv.list(I:Inv X pins σ H s)(h:dI X.K H a xs):∃its:List Value,Vals xs its/\PlainL s.heap a its.toArray/\xs.length<=sizeLine:=by
 rcases h with h|⟨o,its,n,hk,hc,hd,hs,hz,r⟩;.obtain⟨z,its,n,r,e⟩:=h.ok I.hok;exact⟨its,r,⟨_,n,e,rfl,rfl,rfl⟩,z⟩
 .refine⟨its.toList,r,⟨o,n,I.DP a o hk,hc,hd,by simpa using hs⟩,?_⟩;have e:=r.length;simp only[Array.length_toList]at e;omega
theorem Inv.tuple(I:Inv X pins σ H s)(h:gw X.K H a xs):∃its:List Value,Vals xs its/\IsTup s.heap a its.toArray/\xs.length<=sizeLine:=by
 rcases h with h|⟨o,its,n,hk,hc,hs,hz,r⟩;.obtain⟨z,its,r,p⟩:=h.ok I.hok;exact⟨its,r,p,z⟩
 .refine⟨its.toList,r,⟨o,I.DP a o hk,hc,n,by simpa using hs⟩,?_⟩;have e:=r.length;simp only[Array.length_toList]at e;omega
theorem Inv.jE(I:Inv X pins σ H s)(h:dI X.K H a xs)(h':dI X.K H a ys):xs=ys:=by
 obtain⟨its,r,⟨o,n,e,_,_,d⟩,_⟩:=I.list h;obtain⟨its',r',⟨o',n',e',_,_,d'⟩,_⟩:=I.list h';rw[e]at e';cases e';rw[d]at d';injection d' with d1 _;have:its=its':=by simpa using congrArg Array.toList d1
 subst this;exact r.inj r'
theorem Inv.iM(I:Inv X pins σ H s)(h:gw X.K H a xs)(h':gw X.K H a ys):xs=ys:=by
 obtain⟨its,r,⟨o,e,_,n,d⟩,_⟩:=I.tuple h;obtain⟨its',r',⟨o',e',_,n',d'⟩,_⟩:=I.tuple h';rw[e]at e';cases e';rw[d]at d';injection d' with d1 _;have:its=its':=by simpa using congrArg Array.toList d1
 subst this;exact r.inj r'
end
noncomputable abbrev Cx.wish(X:Cx)(E:Value->Shared->Prop):Cx:={X with xe:=E}
noncomputable abbrev Cx.Qy(X:Cx):Cx:=X.wish fun _ _=>False
theorem Cx.Ok.wish{X:Cx}(ok:X.Ok)(E:Value->Shared->Prop):(X.wish E).Ok:=⟨ok.mod,ok.kind,ok.glob,ok.blt,ok.above,ok.inj,ok.has,ok.cab,ok.hd,ok.frames,ok.Jm,ok.Qo,ok.bs,ok.zy,ok.rz,ok.ur,ok.jb,ok.DR⟩
theorem Cx.Ok.gO{X:Cx}{E:Value->Shared->Prop}(ok:(X.wish E).Ok):X.Ok:=⟨ok.mod,ok.kind,ok.glob,ok.blt,ok.above,ok.inj,ok.has,ok.cab,ok.hd,ok.frames,ok.Jm,ok.Qo,ok.bs,ok.zy,ok.rz,ok.ur,ok.jb,ok.DR⟩
section
variable{X:Cx}{pins:List (Addr×Obj)}{σ:St}{H:Hp}{s:Shared}{E:Value->Shared->Prop}
theorem Inv.wish(I:Inv X pins σ H s)(E:Value->Shared->Prop):Inv (X.wish E) pins σ H s:=⟨I.ok.wish E,I.os,I.bare,I.base,I.loc,I.cell,I.free,I.dW,I.pin,I.hok,I.len⟩
theorem Inv.gO(I:Inv (X.wish E) pins σ H s):Inv X pins σ H s:=⟨I.ok.gO,I.os,I.bare,I.base,I.loc,I.cell,I.free,I.dW,I.pin,I.hok,I.len⟩
theorem SP.gO{D:Ends}{f:Flow}{s':Shared}(h:SP (X.wish E) pins D f s'):SP X pins D f s':=by cases f with|next=>obtain⟨σ',H',I,q⟩:=h;exact⟨σ',H',I.gO,q⟩|brk=>obtain⟨σ',H',I,q⟩:=h;exact⟨σ',H',I.gO,q⟩|cont=>obtain⟨σ',H',I,q⟩:=h;exact⟨σ',H',I.gO,q⟩|ret u=>obtain⟨v,σ',H',I,r,q⟩:=h;exact⟨v,σ',H',I.gO,r,q⟩
theorem lL.Qy{st:List Stmt}{t:TS}(h:lL X.Qy st t):lL X st t:=fun pins s σ H D I hw=>wpAny_mono (h pins s σ H D (I.wish _) hw) (fun _ _ q=>q.gO) fun _ _ z=>False.elim z
end
section
variable{X:Cx}{st:Stmt}{rest:List Stmt}{t u:TS}{e:Expr}{te:TE}{pos:Pos}
noncomputable def Rr:TS:=fun D σ H=>D.nx σ H
noncomputable def YD(t u:TS):TS:=fun D σ H=>t {D with nx:=u D} σ H
theorem qu:lL X [] Rr:=fun _ _ σ H _ I h=>wpAny_execs_nil ⟨σ,H,I,h⟩
theorem sU(h1:PS X st t)(h2:lL X rest u):lL X (st::rest) (YD t u):=by intro pins s σ H D I h;refine wpAny_execs_cons (dq (h1 pins s σ H {D with nx:=u D} I h) fun f s1 q=>?_);cases f with|next=>obtain⟨σ',H',I',q⟩:=q;exact h2 pins s1 σ' H' D I' q|ret v=>exact q|brk=>exact q|cont=>exact q
theorem wX(h1:PS X st t):lL X [st] t:=by intro pins s σ H D I h;refine wpAny_execs_cons (dq (h1 pins s σ H D I h) fun f s1 q=>?_);cases f with|next=>exact wpAny_execs_nil q|ret v=>exact q|brk=>exact q|cont=>exact q
theorem Inv.quiet{pins:List (Addr×Obj)}{σ:St}{H:Hp}{s:Shared}(I:Inv X pins σ H s):interactive X.env=false:=by simp[interactive,I.ok.kind]
noncomputable def Tj(te:TE):TS:=fun D σ H=>te σ H fun _ H1=>D.nx σ H1
theorem v9(he:PE X e te)(hs:swapsWith e none pos.line X.env=pure false:=by rfl):PS X (.Expr e pos) (Tj te):=by intro pins s σ H D I h;exact wpAny_Expr_any (dq (he pins s σ H _ I h) fun v s1⟨x,H1,I1,r1,q1⟩=>⟨σ,H1,I1,q1⟩) I.quiet hs
noncomputable def Xf(te:TE):TS:=fun D σ H=>te σ H D.rt
theorem BK(he:PE X e te):PS X (.Return (some e) pos) (Xf te):=by intro pins s σ H D I h;exact wpAny_Return_some (dq (he pins s σ H _ I h) fun v s1⟨x,H1,I1,r1,q1⟩=>⟨x,σ,H1,I1,r1,q1⟩)
noncomputable def Y0(c:TT)(t u:TS):TS:=fun D σ H=>c σ H fun b H1=>if b=true then t D σ H1 else u D σ H1
theorem Bt{c:Expr}{a b:List Stmt}{tc:TT}(hc:PT X c tc)(ha:lL X a t)(hb:lL X b u):PS X (.If c a b pos) (Y0 tc t u):=by intro pins s σ H D I h;refine wpAny_If (dq (hc pins s σ H _ I h) fun d s1⟨H1,I1,q1⟩=>?_);cases d with|true=>exact ha pins s1 σ H1 D I1 q1|false=>exact hb pins s1 σ H1 D I1 q1
noncomputable def J5:TS:=fun _ _ _=>False
theorem sV:PS X st J5:=fun _ _ _ _ _ _ h=>h.elim
end
noncomputable abbrev TG:=V->St->Hp->(St->Hp->Prop)->Prop
noncomputable abbrev zq:=List V->St->Hp->(St->Hp->Prop)->Prop
noncomputable def PG(X:Cx)(target:Expr)(t:TG):Prop:=∀(pins:List (Addr × Obj))(s:Shared)(σ:St)(H:Hp)(v:V)(u:Value)(Q:St->Hp->Prop),Inv X pins σ H s->RelV v u->t v σ H Q->wpAny (model X.prog X.w) X.A (assign target X.env u) (fun _ s'=>∃σ' H',Inv X pins σ' H' s'/\Q σ' H') X.xe s
noncomputable def V8(X:Cx)(ts:List Expr)(t:zq):Prop:=∀(pins:List (Addr × Obj))(s:Shared)(σ:St)(H:Hp)(vs:List V)(us:List Value)(Q:St->Hp->Prop),Inv X pins σ H s->Vals vs us->t vs σ H Q->wpAny (model X.prog X.w) X.A (assignInOrder ((assignEach ts X.env).map (·.2)) us) (fun _ s'=>∃σ' H',Inv X pins σ' H' s'/\Q σ' H') X.xe s
noncomputable abbrev Li:=V->V->V->Hp->(Hp->Prop)->Prop
noncomputable def R5(X:Cx)(t:Li):Prop:=∀(pins:List (Addr × Obj))(s:Shared)(σ:St)(H:Hp)(o i v:V)(ov iv u:Value)(Q:Hp->Prop),Inv X pins σ H s->RelV o ov->RelV i iv->RelV v u->t o i v H Q->wpAny (model X.prog X.w) X.A (setItem ov iv u) (fun _ s'=>∃H',Inv X pins σ H' s'/\Q H') X.xe s
section
variable{X:Cx}{pos:Pos}
noncomputable def pq(i:Nat):TG:=fun v σ H Q=>Q (σ.set i (some v)) H
theorem cA{i:Nat}{x:Str}(hN:X.N.Nodup)(hi:X.N[i]?=some x)(hx:Loc X.env.scope x)(hf:X.fn x=true\/X.env.scope.names.lookup x=some .local:=by first|exact .inl rfl|exact .inr rfl|assumption):PG X (.Name x pos) (pq i):=by intro pins s σ H v u Q I r h;exact wpAny_assign_Name (gR I hN hi hx r (fun s' I'=>⟨_,H,I',h⟩) hf)
noncomputable def Ko:zq:=fun vs σ H Q=>vs=[]/\Q σ H
noncomputable def zF(t:TG)(u:zq):zq:=fun vs σ H Q=>∃v r,vs=v::r/\t v σ H fun σ' H'=>u r σ' H' Q
theorem jV:V8 X [] Ko:=by intro pins s σ H vs us Q I r h;obtain⟨e,h⟩:=h;subst e;cases r;exact assignInOrder_nil ⟨σ,H,I,h⟩
theorem bZ{e:Expr}{es:List Expr}{t:TG}{u:zq}(h1:PG X e t)(h2:V8 X es u)(hs:(assignEach (e::es) X.env).map (·.2)=assign e X.env::(assignEach es X.env).map (·.2):=by rfl):V8 X (e::es) (zF t u):=by intro pins s σ H vs us Q I r h;obtain⟨v,vr,e1,h⟩:=h;subst e1;cases r with|cons r rr=>rw[hs];refine assignInOrder_cons (dq (h1 pins s σ H _ _ _ I r h) fun _ s1⟨σ1,H1,I1,q1⟩=>?_);exact h2 pins s1 σ1 H1 _ _ Q I1 rr q1
noncomputable def Mm(K:PySem.W.Frag)(n:Nat)(t:zq):TG:=fun v σ H Q=>∃a xs,v=.ref a/\gw K H a xs/\xs.length=n/\t xs σ H Q
theorem nF{es:List Expr}{k:Nat}{t:zq}{n:Nat}(hc:X.calm=true)(h:V8 X es t)(hn:(assignEach es X.env).length=n:=by rfl)(hst:(assignEach es X.env).findIdx? (·.1)=none:=by rfl):PG X (.Tuple es k pos) (Mm X.K n t):=by intro pins s σ H v u Q I r hw;obtain⟨a,xs,e1,hq,hl,hw⟩:=hw;subst e1;cases r;obtain⟨its,rv,ht,hz⟩:=I.tuple hq;refine assign_Tuple_tuple (I.ok.hd hc) ht (by simp[hn,<-hl,rv.length]) hst fun h' hx=>?_;have I1:Inv X pins σ H {s with heap:=h'}:=I.kept (t':=s.toks) fun b o e=>hx b o (Nat.ne_of_lt (Heap.lt_size e)) e;exact h pins _ σ H xs _ Q I1 (by simpa using rv) hw
noncomputable def Xw(to ti:TE)(t:Li):TG:=fun v σ H Q=>to σ H fun o H1=>ti σ H1 fun i H2=>t o i v H2 fun H3=>Q σ H3
theorem Ka{o i:Expr}{to ti:TE}{t:Li}(ho:PE X o to)(hi:PE X i ti)(hs:R5 X t)(ha:∀ v,assign (.Subscript o i pos) X.env v=(do
  let ov<-holding [v] (eval o X.env)let iv<-holding [v,ov] (eval i X.env)standAt pos
  holding [v,ov,iv] (setItem ov iv v)release [v,ov,iv] []):=by intro _;rfl):PG X (.Subscript o i pos) (Xw to ti t):=by intro pins s σ H v u Q I r h;rw[ha];refine wpAny_bind (wpAny_holding (dq (ho pins s σ H _ I h) fun ov s1⟨x,H1,I1,r1,q1⟩=>?_));refine wpAny_bind (wpAny_holding (dq (hi pins s1 σ H1 _ I1 q1) fun iv s2⟨y,H2,I2,r2,q2⟩=>?_));refine wpAny_bind (wpAny_standAt (wpAny_bind (wpAny_holding (dq (hs pins s2 σ H2 x y v ov iv u _ I2 r1 r2 r q2) fun _ s3⟨H3,I3,q3⟩=>?_))));exact wpAny_release ⟨σ,H3,I3,q3⟩
noncomputable def QR(te:TE)(g:TG):TS:=fun D σ H=>te σ H fun x H1=>g x σ H1 D.nx
theorem BX{tg e:Expr}{te:TE}{g:TG}(he:PE X e te)(hg:PG X tg g)(hs:swapsWithSole [tg] e pos.line X.env=pure false:=by rfl)(hw:swappedStores [tg] e X.env=pure none:=by rfl)(h1:(assignEach [tg] X.env).map (·.2)=[assign tg X.env]:=by rfl):PS X (.Assign [tg] e pos) (QR te g):=by intro pins s σ H D I h;refine wpAny_Assign_stores (dq (he pins s σ H _ I h) fun v s1⟨x,H1,I1,r1,q1⟩=>?_) hs hw;rw[h1];exact dq (hg pins s1 σ H1 x v _ I1 r1 q1) fun _ s2 q=>q
theorem CG{i:Nat}{x:Str}{e:Expr}{te:TE}{pos':Pos}(hN:X.N.Nodup)(hi:X.N[i]?=some x)(hx:Loc X.env.scope x)(he:PE X e te)(hs:swapsWith e (some (.Name x pos')) pos.line X.env=pure false:=by rfl)(hf:X.fn x=true\/X.env.scope.names.lookup x=some .local:=by first|exact .inl rfl|exact .inr rfl|assumption):PS X (.Assign [.Name x pos'] e pos) (QR te (pq i)):=by intro pins s σ H D I h;refine wpAny_Assign_Name (dq (he pins s σ H _ I h) fun v s1⟨y,H1,I1,r1,q1⟩=>?_) hs;exact gR I1 hN hi hx r1 (fun s2 I2=>⟨_,H1,I2,q1⟩) hf
noncomputable def Ye(i j:Nat)(ta:TA):TS:=fun D σ H=>ta σ H fun vs H1=>∃v w,vs=[v,w]/\D.nx ((σ.set i (some v)).set j (some w)) H1
theorem La{i j:Nat}{x y:Str}{a b:Expr}{ta:TA}{px py pt:Pos}{kt k2 Np}(hc:X.calm=true)(hN:X.N.Nodup)(hi:X.N[i]?=some x)(hj:X.N[j]?=some y)(hij:i≠j)(hx:X.env.scope.names.lookup x=some .local)(hy:X.env.scope.names.lookup y=some .local)(ha:PA X [a,b] ta)(hw:swappedStores [.Tuple [.Name x px,.Name y py] kt pt] (.Tuple [a,b] k2 Np) X.env=pure (some [x,y]))(hs:swapsWithSole [.Tuple [.Name x px,.Name y py] kt pt] (.Tuple [a,b] k2 Np) pos.line X.env=pure false:=by rfl):PS X (.Assign [.Tuple [.Name x px,.Name y py] kt pt] (.Tuple [a,b] k2 Np) pos) (Ye i j ta):=by
 intro pins s σ H D I h;rw[exec_Assign_arm];refine wpAny_bind (wpAny_standAt ?_);rw[hs];refine wpAny_bind (wpAny_pure ?_);rw[if_neg (by decide)];refine wpAny_bind (Tuple_ (dq (ha _ pins s σ H _ I h) fun us s1⟨vs,H1,I1,r1,q1⟩=>?_));obtain⟨v,w,e1,q1⟩:=q1;subst e1;obtain⟨u1,u2,rfl,rv,T5⟩:∃u1 u2,us=[u1,u2]/\RelV v u1/\RelV w u2:=by cases r1 with|cons p q=>cases q with|cons p' q'=>cases q';exact⟨_,_,rfl,p,p'⟩
 refine wpAny_newObj_type ?_ (by show 2<=sizeLine;decide);have I2:Inv X pins σ H1 {s1 with heap:=s1.heap.push {cls:=.type "tuple",data:=.seq [u1,u2].toArray}}:=I1.kept (t':=s1.toks) fun b o e=>Heap.get?_push_of_some _ e;rw[hw];refine wpAny_bind (wpAny_pure ?_);show wpAny (model X.prog X.w) X.A (do rule "assign.swapped-stores";let items<-unpackItems (.ref s1.heap.objs.size) 2 none;assignInOrder [fun v=>bindName X.env y v,fun v=>bindName X.env x v] items.reverse;pure Flow.next) _ _ _;refine wpAny_bind (wpAny_rule (wpAny_bind (unpackItems_tuple (items:=#[u1,u2]) (I.ok.hd hc) (IsTup.new s1.heap _) fun h' hx'=>?_)));have I3:=I2.kept (h':=h') (t':=s1.toks) fun b o e=>hx' b o (Nat.ne_of_lt (Heap.lt_size e)) e;show wpAny _ _ (assignInOrder [fun v=>bindName X.env y v,fun v=>bindName X.env x v] [u2,u1]>>=fun _=>pure Flow.next) _ _ _;refine wpAny_bind (assignInOrder_cons (wpAny_bindName (gR I3 hN hj (.inl hy) T5 (fun s2 I4=>?_) (.inr hy))));refine assignInOrder_cons (wpAny_bindName (gR I4 hN hi (.inl hx) rv (fun s3 I5=>assignInOrder_nil (wpAny_pure ?_)) (.inr hx)));rw[List.set_comm _ _ (Ne.symm hij)]at I5;exact⟨_,H1,I5,q1⟩
end
section
variable{X:Cx}{pos:Pos}
noncomputable def Kg(c:TT)(tb:TS):TS:=fun D σ H=>∃W:Nat->St->Hp->Prop,(∃m,W m σ H)/\∀m σ H,W m σ H->c σ H fun b H1=>if b=true then ∃N:St->Hp->Prop,(∀σ' H',N σ' H'->∃m',m'<m/\W m' σ' H')/\tb {D with nx:=N,ct:=N,bk:=D.nx} σ H1 else D.nx σ H1
theorem rO{c:Expr}{body:List Stmt}{tc:TT}{tb:TS}(hp:PassesOwn (model X.prog X.w) X.A X.env X.xe)(hc:PT X c tc)(hb:lL X body tb):PS X (.While c body [] pos) (Kg tc tb):=by intro pins s σ H D I h;obtain⟨W,⟨m0,w0⟩,turn⟩:=h;refine wpAny_While (codeAny_whileLoop (fun n s'=>∃σ' H',Inv X pins σ' H' s'/\W n σ' H') ?_ m0 ⟨σ,H,I,w0⟩);rintro n s1⟨σ1,H1,I1,w1⟩;refine wpAny_passesOwn hp (dq (hc pins s1 σ1 H1 _ I1 (turn n σ1 H1 w1)) fun b s2⟨H2,I2,q2⟩=>?_);cases b with
 |true=>obtain⟨N,hN,q2⟩:=q2;rw[if_pos rfl];refine wpAny_passesOwn hp (dq (hb pins s2 σ1 H2 _ I2 q2) fun f s3 q3=>?_);cases f with|next=>obtain⟨σ3,H3,I3,n3⟩:=q3;obtain⟨m',hm,w3⟩:=hN σ3 H3 n3;exact⟨m',hm,σ3,H3,I3,w3⟩|cont=>obtain⟨σ3,H3,I3,n3⟩:=q3;obtain⟨m',hm,w3⟩:=hN σ3 H3 n3;exact⟨m',hm,σ3,H3,I3,w3⟩|brk=>exact q3|ret v=>exact q3
 |false=>rw[if_neg Bool.false_ne_true];exact wpAny_execs_nil ⟨σ1,H2,I2,q2⟩
end
structure It where
 go:Nat->Hp->Prop
 DW:Nat->Hp->V->Hp->Prop
 stop:Nat->Hp->Prop
noncomputable def lB(X:Cx)(pins:List (Addr×Obj))(H:Hp)(b:Addr):Prop:=H b=none/\b≠X.env.locals/\b∉X.fs/\(b∈X.ex\/X.s₀.heap.objs.size<=b)/\(∀x c,X.env.cells.lookup x=some c->c≠b)/\∀p∈X.pn++pins,p.1≠b
theorem Inv.yg{X:Cx}{pins:List (Addr×Obj)}{σ:St}{H H':Hp}{s:Shared}{b:Addr}(I:Inv X pins σ H s)(hb:s.heap.objs.size<=b)(hn:H' b=none):lB X pins H' b:=by
 refine⟨hn,Nat.ne_of_gt (Nat.lt_of_lt_of_le I.lt hb),I.Yg hb,.inr (Nat.le_trans I.sz hb),fun x c e z=>?_,fun p hp z=>?_⟩;.obtain⟨v,q⟩:=I.cell x c e;exact absurd (Nat.lt_of_lt_of_le q.lt (by rw[z];exact hb)) (Nat.lt_irrefl _)
 .exact absurd (Nat.lt_of_lt_of_le (Heap.lt_size (I.pin p hp).1) (by rw[z];exact hb)) (Nat.lt_irrefl _)
structure Turn(P:Program)(w:World)(K:PySem.W.Frag)(tg:Expr)(J:It)(fp:List Addr)(it:Addr)(tn:Nat->Heap->Prop):Prop where
 mem:it∈fp
 obj:∀i h,tn i h->∀b∈fp,∃o,h.get? b=some o/\∀v,o.data≠.cell v
 keep:∀i h h',tn i h->(∀b∈fp,∀o,h.get? b=some o->h'.get? b=some o)->tn i h'
 item:∀(X:Cx),X.prog=P->X.w=w->X.K=K->X.calm=true->∀(i:Nat)(pins:List (Addr×Obj))(s:Shared)(σ:St)(H:Hp)(E:Value->Shared->Prop),Inv X pins σ H s->(∀b∈fp,lB X pins H b)->tn i s.heap->J.go i H->wpAny (model P w) X.A (pyNext (.ref it)) (fun r s1=>∃u,r=some u/\wpAny (model P w) X.A (letOwnedTupleGo tg (.ref it) u) (fun _ s2=>∃x H',Inv X pins σ H' s2/\RelV x u/\J.DW i H x H'/\tn (i+1) s2.heap/\∀b∈fp,H' b=none) E s1) E s
 done:∀(X:Cx),X.prog=P->X.w=w->X.K=K->X.calm=true->∀(i:Nat)(pins:List (Addr×Obj))(s:Shared)(σ:St)(H:Hp)(E:Value->Shared->Prop),Inv X pins σ H s->(∀b∈fp,lB X pins H b)->tn i s.heap->J.stop i H->wpAny (model P w) X.A (pyNext (.ref it)) (fun r s1=>r=none/\Inv X pins σ H s1) E s
 self:∀(A:Around)(i:Nat)(s:Shared)(Q:Value->Shared->Prop)(E:Value->Shared->Prop),tn i s.heap->Q (.ref it) s->wpAny (model P w) A (pyIter (.ref it)) Q E s
noncomputable abbrev TI:=St->Hp->(It->Hp->Prop)->Prop
noncomputable def PIE(X:Cx)(pins:List (Addr×Obj))(σ:St)(tg:Expr)(R:It->Hp->Prop)(itv:Value)(s2:Shared):Prop:=∃(it:Addr)(fp:List Addr)(tn:Nat->Heap->Prop)(J:It)(H':Hp),itv=.ref it/\Inv X pins σ H' s2/\Turn X.prog X.w X.K tg J fp it tn/\tn 0 s2.heap/\(∀b∈fp,lB X pins H' b)/\R J H'
noncomputable def PI(X:Cx)(tg iter:Expr)(wi:TI):Prop:=∀(pins:List (Addr × Obj))(s:Shared)(σ:St)(H:Hp)(R:It->Hp->Prop),Inv X pins σ H s->wi σ H R->wpAny (model X.prog X.w) X.A (eval iter X.env) (fun v s1=>wpAny (model X.prog X.w) X.A (pyIter v) (PIE X pins σ tg R) X.xe s1) X.xe s
theorem Cp{M:Model}{A:Around}{E:Value->Shared->Prop}{s:Shared}{tg:Expr}{it:Addr}{u:Value}{o:Obj}{n:String}{vs:Array Value}{Q:Unit->Shared->Prop}(ho:s.heap.get? it=some o)(hc:o.cls=.type n)(hd:o.data=.fields vs)(hn:["enumerate","zip","dict_itemiterator","dict_reverseitemiterator","odict_iterator","itertools.zip_longest","itertools.pairwise"].contains n=false)(hQ:Q () s):wpAny M A (letOwnedTupleGo tg (.ref it) u) Q E s:=by unfold letOwnedTupleGo;cases tg<;>first|exact wpAny_pure hQ|(cases u<;>first|exact wpAny_pure hQ|(refine wpAny_bind (wpAny_load ho ?_);rw[hc,hd];show wpAny M A (if(["enumerate","zip","dict_itemiterator","dict_reverseitemiterator","odict_iterator","itertools.zip_longest","itertools.pairwise"].contains n&&vs[0]?==some (rawInt _))=true then _ else _) Q E s;rw[if_neg (by intro h;rw[hn,Bool.false_and]at h;cases h)];exact wpAny_pure hQ))
noncomputable def Ld(K:PySem.W.Frag)(a:Addr):It:=⟨fun i H=>∃xs x,dI K H a xs/\xs[i]?=some x,fun i H x H'=>H'=H/\∀xs,dI K H a xs->xs[i]?=some x,fun i H=>∃xs,dI K H a xs/\xs.length<=i⟩
noncomputable def PJ(K:PySem.W.Frag)(a:Addr):It:=⟨fun i H=>∃xs x,gw K H a xs/\xs[i]?=some x,fun i H x H'=>H'=H/\∀xs,gw K H a xs->xs[i]?=some x,fun i H=>∃xs,gw K H a xs/\xs.length<=i⟩
noncomputable def Vm(lo:Int)(n:Nat):It:=⟨fun i _=>i<n,fun i H x H'=>H'=H/\x=.int (lo+i),fun i _=>n<=i⟩
theorem zg{P:Program}{w:World}{K:PySem.W.Frag}{tg:Expr}(a it:Addr):Turn P w K tg (Ld K a) [it] it (fun i h=>h.IsListIter it a i)where
 mem:=by simp
 obj:=fun i h st b hb=>by
  have e:b=it:=by simpa using hb
  subst e;obtain⟨o,e,c,d⟩:=st;exact⟨o,e,fun v z=>by rw[d]at z;cases z⟩
 keep:=fun i h h' st k=>st.at fun o e=>k it (by simp) o e;item:=by intro X hP hw hK hc i pins s σ H E I hf st hg;subst hP hw hK;obtain⟨xs,x,hq,hx⟩:=hg;obtain⟨its,rv,p,hz⟩:=I.list hq;obtain⟨u,hu,ru⟩:=rv.get hx;obtain⟨f0,f1,f2,f3,f4,f5⟩:=hf it (by simp);refine wpAny_pyNext_list_item st p.isList (x:=u) (by simpa using hu) fun h' st' sb=>?_;have I1:Inv X pins σ H {s with heap:=h'}:=I.turned (t':=s.toks) (fun b o hb e=>(sb.2 b hb).trans e) f0 f1 f3 f4 f5;obtain⟨o,e,c,d⟩:=id st';exact⟨u,rfl,Cp (s:={s with heap:=h'}) e c d (by decide) ⟨x,H,I1,ru,⟨rfl,fun ys hy=>by rw[I.jE hy hq];exact hx⟩,st',fun b hb=>(hf b hb).1⟩⟩
 done:=by intro X hP hw hK hc i pins s σ H E I hf st hg;subst hP hw hK;obtain⟨xs,hq,hx⟩:=hg;obtain⟨its,rv,p,hz⟩:=I.list hq;obtain⟨f0,f1,f2,f3,f4,f5⟩:=hf it (by simp);have hl:=rv.length;exact wpAny_pyNext_list_end (I.ok.hd hc) st p.isList (by simp;omega) fun h' eb=>⟨rfl,I.turned (t':=s.toks) (fun b o hb e=>eb b o hb e) f0 f1 f3 f4 f5⟩
 self:=fun _ _ _ _ _ st h=>wpAny_pyIter_listiter st h
theorem uT{P:Program}{w:World}{K:PySem.W.Frag}{tg:Expr}(a it:Addr):Turn P w K tg (PJ K a) [it] it (fun i h=>h.IsTupleIter it a i)where
 mem:=by simp
 obj:=fun i h st b hb=>by
  have e:b=it:=by simpa using hb
  subst e;obtain⟨o,e,c,d⟩:=st;exact⟨o,e,fun v z=>by rw[d]at z;cases z⟩
 keep:=fun i h h' st k=>st.at fun o e=>k it (by simp) o e;item:=by intro X hP hw hK hc i pins s σ H E I hf st hg;subst hP hw hK;obtain⟨xs,x,hq,hx⟩:=hg;obtain⟨its,rv,p,hz⟩:=I.tuple hq;obtain⟨u,hu,ru⟩:=rv.get hx;obtain⟨f0,f1,f2,f3,f4,f5⟩:=hf it (by simp);refine wpAny_pyNext_tuple_item st (show s.heap.IsTuple a its.toArray from p) (x:=u) (by simpa using hu) fun h' st' sb=>?_;have I1:Inv X pins σ H {s with heap:=h'}:=I.turned (t':=s.toks) (fun b o hb e=>(sb.2 b hb).trans e) f0 f1 f3 f4 f5;obtain⟨o,e,c,d⟩:=id st';exact⟨u,rfl,Cp (s:={s with heap:=h'}) e c d (by decide) ⟨x,H,I1,ru,⟨rfl,fun ys hy=>by rw[I.iM hy hq];exact hx⟩,st',fun b hb=>(hf b hb).1⟩⟩
 done:=by intro X hP hw hK hc i pins s σ H E I hf st hg;subst hP hw hK;obtain⟨xs,hq,hx⟩:=hg;obtain⟨its,rv,p,hz⟩:=I.tuple hq;obtain⟨f0,f1,f2,f3,f4,f5⟩:=hf it (by simp);have hl:=rv.length;exact wpAny_pyNext_tuple_end (I.ok.hd hc) st (show s.heap.IsTuple a its.toArray from p) (by simp;omega) fun h' eb=>⟨rfl,I.turned (t':=s.toks) (fun b o hb e=>eb b o hb e) f0 f1 f3 f4 f5⟩
 self:=fun _ _ _ _ _ st h=>wpAny_pyIter_tupleiter st h
theorem vI{P:Program}{w:World}{K:PySem.W.Frag}{tg:Expr}(it:Addr)(lo:Int)(n:Nat):Turn P w K tg (Vm lo n) [it] it (fun i h=>IsRangeIter h it (lo+(i:Nat)*1) ((n:Int)-(i:Nat)) 1)where
 mem:=by simp
 obj:=fun i h st b hb=>by
  have e:b=it:=by simpa using hb
  subst e;exact⟨_,st,fun v z=>by have z':Data.fields _=Data.cell v:=z;cases z'⟩
 keep:=fun i h h' st k=>k it (by simp) _ st;item:=by intro X hP hw hK hc i pins s σ H E I hf st hg;subst hP hw hK;obtain⟨f0,f1,f2,f3,f4,f5⟩:=hf it (by simp);have W:=Walks.range (prog:=X.prog) (w:=X.w) (I.ok.hd hc) it lo 1 n;refine W.item i s _ _ hg st fun v h' tk hv st' kk=>?_;obtain⟨t,rfl⟩:=hv;have I1:Inv X pins σ H {s with heap:=h',toks:=tk}:=I.turned (fun b o hb e=>kk b o (by simpa using hb) e) f0 f1 f3 f4 f5;refine⟨_,rfl,Cp (s:={s with heap:=h',toks:=tk}) (n:="range_iterator") st' rfl rfl (by decide) ⟨.int (lo+i),H,I1,⟨t,?_⟩,⟨rfl,rfl⟩,st',fun b hb=>(hf b hb).1⟩⟩;rw[Int.mul_one]
 done:=by intro X hP hw hK hc i pins s σ H E I hf st hg;subst hP hw hK;obtain⟨f0,f1,f2,f3,f4,f5⟩:=hf it (by simp);exact wpAny_pyNext_range_end (I.ok.hd hc) st (by have:n<=i:=hg;omega) fun h' eb=>⟨rfl,I.turned (t':=s.toks) (fun b o hb e=>eb b o hb e) f0 f1 f3 f4 f5⟩
 self:=fun _ _ _ _ _ st h=>wpAny_pyIter_rangeiter st h
end L2
namespace L2
open PySem PySem.Spec PyProof.Rows
section
variable{X:Cx}{tg:Expr}
theorem Ae{pins:List (Addr×Obj)}{σ:St}{H:Hp}{s:Shared}{R:It->Hp->Prop}{E:Value->Shared->Prop}{lo hi:Int}{t u v:Tok}{tk:Nat}(I:Inv X pins σ H s)(h1:-(2^62)<=lo)(h2:lo<2^62)(h3:-(2^62)<=hi)(h4:hi<2^62)(q:R (Vm lo (hi-lo).toNat) H):wpAny (model X.prog X.w) X.A (pyIter (.ref s.heap.objs.size)) (PIE X pins σ tg R) E {s with heap:=s.heap.push {cls:=.type "range",data:=.fields #[.int lo t,.int hi u,.int 1 v]},toks:=tk}:=by
 refine wpAny_pyIter_range (IsRange.new ..) (small_one h1 h2 h3 h4) ?_;have I1:Inv X pins σ H {s with heap:=s.heap.push {cls:=.type "range",data:=.fields #[.int lo t,.int hi u,.int 1 v]},toks:=tk}:=I.kept fun b o e=>Heap.get?_push_of_some _ e;refine⟨(s.heap.push {cls:=.type "range",data:=.fields #[.int lo t,.int hi u,.int 1 v]}).objs.size,[(s.heap.push {cls:=.type "range",data:=.fields #[.int lo t,.int hi u,.int 1 v]}).objs.size],_,_,H,rfl,I1.kept (t':=tk) fun b o e=>Heap.get?_push_of_some _ e,vI _ lo (hi-lo).toNat,?_,fun b hb=>?_,q⟩
 . have e1:lo+((0:Nat):Int)*1=lo:=by simp
   have e2:(((hi-lo).toNat:Nat):Int)-((0:Nat):Int)=Builtin.Range.rangeSize lo hi 1:=by rw[rangeSize_one];split<;>omega
   show IsRangeIter _ _ (lo+((0:Nat):Int)*1) ((((hi-lo).toNat:Nat):Int)-((0:Nat):Int)) 1;rw[e1,e2];exact Heap.get?_push_size _ rfl
 . have e:b=(s.heap.push {cls:=.type "range",data:=.fields #[.int lo t,.int hi u,.int 1 v]}).objs.size:=by simpa using hb
   subst e;exact I1.yg (Nat.le_refl _) (I1.hok.fresh (Nat.le_refl _))
noncomputable def QM(ta:TA):TI:=fun σ H R=>ta σ H fun vs H1=>∃j:Int,vs=[.int j]/\-(2^62)<=j/\j<2^62/\R (Vm 0 j.toNat) H1
theorem yl{a:Expr}{ta:TA}{p pos:Pos}(hg:Gl X "range")(hm:X.mg "range"=none)(ha:PA X [a] ta)(hs:starEach [a] X.env=[(false,eval a X.env)]:=by rfl):PI X tg (.Call (.Name "range" p) [a] [] pos) (QM ta):=by intro pins s σ H R I h;refine Call_ (kI I hg hm boot_range (PyProof.Rows.callWith_type1 (dq (ha pos pins s σ H _ I h) fun us s1⟨vs,H1,I1,r1,q1⟩=>?_) hs rfl));obtain⟨j,e,q1,q2,q⟩:=q1;subst e;cases r1 with|cons r rr=>cases rr;obtain⟨t,rfl⟩:=r;exact call_range_1 (Ae I1 (by omega) (by omega) q1 q2 (by simpa using q))
noncomputable def XM(wi:TI)(g:TG)(tb:TS):TS:=fun D σ H=>wi σ H fun J H1=>∃W:Nat->Nat->St->Hp->Prop,(∃m,W 0 m σ H1)/\∀i m σ H,W i m σ H->(J.stop i H/\D.nx σ H)\/(J.go i H/\∃N:St->Hp->Prop,(∀σ' H',N σ' H'->∃m',m'<m/\W (i+1) m' σ' H')/\∀x H',J.DW i H x H'->g x σ H' fun σ2 H2=>tb {D with nx:=N,ct:=N,bk:=D.nx} σ2 H2)
noncomputable def mX(fp:List Addr)(h:Heap):List (Addr×Obj):=fp.filterMap fun b=>(h.get? b).map fun o=>(b,o)
theorem gk{fp:List Addr}{h:Heap}{b:Addr}{o:Obj}(hb:b∈fp)(e:h.get? b=some o):(b,o)∈mX fp h:=List.mem_filterMap.mpr ⟨b,hb,by rw[e];rfl⟩
theorem zb{fp:List Addr}{h:Heap}{p:Addr×Obj}(hp:p∈mX fp h):p.1∈fp/\h.get? p.1=some p.2:=by obtain⟨b,hb,e⟩:=List.mem_filterMap.mp hp;cases q:h.get? b with|none=>rw[q]at e;cases e|some o=>rw[q]at e;have e':(b,o)=p:=Option.some.inj e;subst e';exact⟨hb,q⟩
theorem Inv.pinned{pins:List (Addr×Obj)}{σ:St}{H:Hp}{s:Shared}{fp:List Addr}(I:Inv X pins σ H s)(hf:∀b∈fp,lB X pins H b)(ho:∀b∈fp,∃o,s.heap.get? b=some o/\∀v,o.data≠.cell v):Inv X (pins++mX fp s.heap) σ H s:=I.xr fun p hp=>(List.mem_append.mp hp).elim (fun z=>I.pin p (List.mem_append_right _ z)) fun z=>by obtain⟨hb,e⟩:=zb z;obtain⟨f0,f1,f2,_⟩:=hf p.1 hb;obtain⟨o,e',d⟩:=ho p.1 hb;rw[e]at e';cases e';exact⟨e,f0,f1,f2,d⟩
theorem Inv.jB{pins pl:List (Addr×Obj)}{σ:St}{H:Hp}{s:Shared}(I:Inv X (pins++pl) σ H s):Inv X pins σ H s:=I.xr fun p hp=>I.pin p (List.mem_append_right _ (List.mem_append_left _ hp))
theorem Lf{iter:Expr}{body:List Stmt}{wi:TI}{g:TG}{tb:TS}{pos:Pos}(hp:PassesOwn (model X.prog X.w) X.A X.env X.xe)(hc:X.calm=true)(hi:PI X tg iter wi)(hg:PG X tg g)(hb:lL X body tb)(hs:∀x,foldedSetIterable iter X.env x=pure x:=by intro _;rfl):PS X (.For tg iter body [] pos) (XM wi g tb):=by
 intro pins s σ H D I h;refine wpAny_For (dq (hi pins s σ H _ I h) fun v s1 h1=>dq h1 fun itv s2 h2=>?_) hs;obtain⟨it,fp,tn,J,H2,e,I2,T,st2,f2,W,⟨m0,w0⟩,turn⟩:=h2;subst e--what stays true of the iterator's objects through the loop
 have stat:∀{H':Hp},(∀b∈fp,H' b=none)->∀b∈fp,lB X pins H' b:=fun hn b hb=>⟨hn b hb,(f2 b hb).2⟩;refine codeAny_forLoop_any (fun n s'=>∃i σ' H',Inv X pins σ' H' s'/\tn i s'.heap/\(∀b∈fp,H' b=none)/\W i n σ' H') ?_ m0 ⟨0,σ,H2,I2,st2,fun b hb=>(f2 b hb).1,w0⟩;rintro n s3⟨i,σ3,H3,I3,st3,fr3,w3⟩;rcases turn i n σ3 H3 w3 with⟨stop,qn⟩|⟨go,N,hN,step⟩;.refine wpAny_passesOwn hp (dq (T.done X rfl rfl rfl hc i pins s3 σ3 H3 X.xe I3 (stat fr3) st3 stop) fun r s4⟨hr,I4⟩=>?_);subst hr;exact wpAny_execs_nil ⟨σ3,H3,I4,qn⟩
 . refine wpAny_passesOwn hp (dq (T.item X rfl rfl rfl hc i pins s3 σ3 H3 X.xe I3 (stat fr3) st3 go) fun r s4⟨u,hr,h4⟩=>?_);subst hr;refine wpAny_passesOwn hp (dq h4 fun _ s5⟨x,H5,I5,r5,y5,Hv,fr5⟩=>?_);have I5':=I5.pinned (stat fr5) (T.obj _ _ Hv);refine wpAny_passesOwn hp (dq (hg _ s5 σ3 H5 x u _ I5' r5 (step x H5 y5)) fun _ s6⟨σ6,H6,I6,q6⟩=>?_);refine wpAny_passesOwn hp (dq (hb _ s6 σ6 H6 _ I6 q6) fun f s7 q7=>?_);have again:∀{σ7:St}{H7:Hp},Inv X (pins++mX fp s5.heap) σ7 H7 s7->N σ7 H7->∃m,m<n/\∃i σ' H',Inv X pins σ' H' s7/\tn i s7.heap/\(∀b∈fp,H' b=none)/\W i m σ' H':=fun{σ7 H7}I7 n7=>by obtain⟨m',hm,w7⟩:=hN σ7 H7 n7;refine⟨m',hm,i+1,σ7,H7,I7.jB,T.keep _ _ _ Hv fun b hb o e=>(I7.pin (b,o) (List.mem_append_right _ (List.mem_append_right _ (gk hb e)))).1,fun b hb=>?_,w7⟩;obtain⟨o,e,d⟩:=T.obj _ _ Hv b hb;exact(I7.pin (b,o) (List.mem_append_right _ (List.mem_append_right _ (gk hb e)))).2.1
   cases f with|next=>obtain⟨σ7,H7,I7,n7⟩:=q7;exact again I7 n7|cont=>obtain⟨σ7,H7,I7,n7⟩:=q7;exact again I7 n7|brk=>obtain⟨σ7,H7,I7,q7⟩:=q7;exact⟨σ7,H7,I7.jB,q7⟩|ret v=>obtain⟨x7,σ7,H7,I7,r7,q7⟩:=q7;exact⟨x7,σ7,H7,I7.jB,r7,q7⟩
end
end L2
namespace L2
open PySem PySem.Spec PyProof.Rows
noncomputable abbrev R2:=V->V->Hp->VK->Prop
noncomputable def fJ(X:Cx)(f:Value->Value->Sem Value)(r:R2):Prop:=∀(pins:List (Addr × Obj))(s:Shared)(σ:St)(H:Hp)(x y:V)(v u:Value)(Q:VK),Inv X pins σ H s->RelV x v->RelV y u->r x y H Q->wpAny (model X.prog X.w) X.A (f v u) (EP X pins σ Q) X.xe s
noncomputable def XN(X:Cx)(f:Value->Sem Value)(r:V->Hp->VK->Prop):Prop:=∀(pins:List (Addr × Obj))(s:Shared)(σ:St)(H:Hp)(x:V)(v:Value)(Q:VK),Inv X pins σ H s->RelV x v->r x H Q->wpAny (model X.prog X.w) X.A (f v) (EP X pins σ Q) X.xe s
noncomputable def eZ(X:Cx)(f:Value)(r:List V->Hp->VK->Prop):Prop:=∀(pins:List (Addr × Obj))(s:Shared)(σ:St)(H:Hp)(xs:List V)(us:List Value)(Q:VK),Inv X pins σ H s->Vals xs us->r xs H Q->wpAny (model X.prog X.w) X.A (call f us) (EP X pins σ Q) X.xe s
noncomputable def Og(r:R2)(ta tb:TE):TE:=fun σ H Q=>ta σ H fun x H1=>tb σ H1 fun y H2=>r x y H2 Q
noncomputable def tUn(r:V->Hp->VK->Prop)(ta:TE):TE:=fun σ H Q=>ta σ H fun x H1=>r x H1 Q
noncomputable def rI(C:Int->Int->Prop)(g:Int->Int->V):R2:=fun x y H Q=>∃i j,x=.int i/\y=.int j/\C i j/\Q (g i j) H
noncomputable def Fe(g:Int->Int->V):R2:=fun x y H Q=>∃i j,x=.int i/\y=.int j/\Q (g i j) H
noncomputable def rU(g:Int->V):V->Hp->VK->Prop:=fun x H Q=>∃i,x=.int i/\Q (g i) H
section
variable{X:Cx}{a b c:Expr}{ta tb tc:TE}{pos:Pos}
theorem Nj(ha:PE X a ta)(hb:PE X b tb){pins:List (Addr×Obj)}{s:Shared}{σ:St}{H:Hp}{R:V->V->Hp->Prop}(I:Inv X pins σ H s)(h:ta σ H fun x H1=>tb σ H1 fun y H2=>R x y H2){Q:Value->Shared->Prop}{f:Value->Value->Sem Value}(hf:∀v u s2 x y H2,Inv X pins σ H2 s2->RelV x v->RelV y u->R x y H2->wpAny (model X.prog X.w) X.A (f v u) Q X.xe s2):wpAny (model X.prog X.w) X.A (eval a X.env) (fun v s₁=>wpAny (model X.prog X.w) X.A (eval b X.env) (fun u s₂=>wpAny (model X.prog X.w) X.A (f v u) Q X.xe s₂) X.xe s₁) X.xe s:=by refine dq (ha pins s σ H _ I h) fun v s1⟨x,H1,I1,r1,q1⟩=>?_;refine dq (hb pins s1 σ H1 _ I1 q1) fun u s2⟨y,H2,I2,r2,q2⟩=>?_;exact hf v u s2 x y H2 I2 r1 r2 q2
theorem R9{op:Operator}{r:R2}(ho:fJ X (binaryOp op) r)(ha:PE X a ta)(hb:PE X b tb):PE X (.BinOp a op b pos) (Og r ta tb):=by intro pins s σ H Q I h;exact wpAny_BinOp (Nj ha hb I h fun v u s2 x y H2 I2 rx ry q=>ho pins s2 σ H2 x y v u Q I2 rx ry q)
theorem QF{op:UnaryOp}{r:V->Hp->VK->Prop}(ho:XN X (unaryOp op) r)(ha:PE X a ta):PE X (.UnaryOp op a pos) (tUn r ta):=by intro pins s σ H Q I h;exact UnaryOp_ (dq (ha pins s σ H _ I h) fun v s1⟨x,H1,I1,r1,q1⟩=>ho pins s1 σ H1 x v Q I1 r1 q1)
theorem YM{f:Value->Value->Sem Value}{C:Int->Int->Prop}{g:Int->Int->Int}(rule:∀(i j:Int)(t u:Tok)(s:Shared)(Q:Value->Shared->Prop)(E:Value->Shared->Prop),C i j->Q (.int (g i j) s.toks) {s with toks:=s.toks+1}->wpAny (model X.prog X.w) X.A (f (.int i t) (.int j u)) Q E s):fJ X f (rI C fun i j=>.int (g i j)):=by intro pins s σ H x y v u Q I rx ry h;obtain⟨i,j,rfl,rfl,hc,q⟩:=h;obtain⟨t,rfl⟩:=rx;obtain⟨t',rfl⟩:=ry;exact rule i j t t' s _ _ hc ⟨.int (g i j),H,I.tok _,⟨_,rfl⟩,q⟩
theorem RN{f:Value->Value->Sem Value}{g:Int->Int->Int}(rule:∀(i j:Int)(t u:Tok)(s:Shared)(Q:Value->Shared->Prop)(E:Value->Shared->Prop),Q (.int (g i j) s.toks) {s with toks:=s.toks+1}->wpAny (model X.prog X.w) X.A (f (.int i t) (.int j u)) Q E s):fJ X f (Fe fun i j=>.int (g i j)):=by intro pins s σ H x y v u Q I rx ry h;obtain⟨i,j,rfl,rfl,q⟩:=h;obtain⟨t,rfl⟩:=rx;obtain⟨t',rfl⟩:=ry;exact rule i j t t' s _ _ ⟨.int (g i j),H,I.tok _,⟨_,rfl⟩,q⟩
theorem JV{f:Value->Value->Sem Value}{g:Int->Int->Bool}(rule:∀(i j:Int)(t u:Tok)(s:Shared)(Q:Value->Shared->Prop)(E:Value->Shared->Prop),Q (.bool (g i j)) s->wpAny (model X.prog X.w) X.A (f (.int i t) (.int j u)) Q E s):fJ X f (Fe fun i j=>.bl (g i j)):=by intro pins s σ H x y v u Q I rx ry h;obtain⟨i,j,rfl,rfl,q⟩:=h;obtain⟨t,rfl⟩:=rx;obtain⟨t',rfl⟩:=ry;exact rule i j t t' s _ _ ⟨.bl (g i j),H,I,rfl,q⟩
noncomputable def XD(i j:Int):Prop:=0<=j/\j<=1000000/\i.natAbs<2^64
noncomputable def Ky(i j:Int):Prop:=(-(2^64)<i/\i<2^64)\/(-(2^64)<j/\j<2^64)
theorem Ky.ok{i j:Int}(h:Ky i j):IntMulOk i j:=by
 rcases h with⟨h1,h2⟩|⟨h1,h2⟩;.exact .of_left (intBits_le_64 h1 h2)
 .exact .of_right (intBits_le_64 h1 h2)
theorem Nf:fJ X (binaryOp .Add) (Fe fun i j=>.int (i+j)):=RN fun _ _ _ _ _ _ _ q=>add_int q
theorem LR:fJ X (binaryOp .Sub) (Fe fun i j=>.int (i-j)):=RN fun _ _ _ _ _ _ _ q=>sub_int q
theorem Ku:fJ X (binaryOp .Mult) (rI Ky fun i j=>.int (i*j)):=YM fun _ _ _ _ _ _ _ hc q=>mul_int q hc.ok
theorem JP:fJ X (binaryOp .Mod) (rI (fun _ j=>0<j) fun i j=>.int (i%j)):=YM fun i j _ _ _ _ _ hc q=>by have h1:(0:Int)<j:=hc;exact mod_int' (by omega) (by rw[Int.fmod_eq_emod_of_nonneg i (by omega)];exact q)
theorem Mt:fJ X (binaryOp .Pow) (rI XD fun i j=>.int (i^j.toNat)):=YM fun _ _ _ _ _ _ _ hc q=>pow_int_small hc.1 hc.2.1 hc.2.2 q
theorem unI{f:Value->Sem Value}{g:Int->Int}(rule:∀(i:Int)(t:Tok)(s:Shared)(Q:Value->Shared->Prop)(E:Value->Shared->Prop),Q (.int (g i) s.toks) {s with toks:=s.toks+1}->wpAny (model X.prog X.w) X.A (f (.int i t)) Q E s):XN X f (rU fun i=>.int (g i)):=by intro pins s σ H x v Q I rx h;obtain⟨i,rfl,q⟩:=h;obtain⟨t,rfl⟩:=rx;exact rule i t s _ _ ⟨.int (g i),H,I.tok _,⟨_,rfl⟩,q⟩
theorem K3:XN X (unaryOp .USub) (rU fun i=>.int (-i)):=unI fun _ _ _ _ _ q=>neg_int q
end
section
variable{X:Cx}{a b c:Expr}{ta tb tc:TE}{pos:Pos}
theorem JM{pins:List (Addr×Obj)}{σ:St}{H:Hp}{s:Shared}{Q:VK}{k k':Bool}(I:Inv X pins σ H s)(q:Q (.bl k) H)(e:k=k'):EP X pins σ Q (.bool k') s:=by subst e;exact⟨.bl k,H,I,rfl,q⟩
theorem QV:fJ X (compareOp .Lt) (Fe fun i j=>.bl (decide (i<j))):=JV fun _ _ _ _ _ _ _ q=>lt_int q
theorem Ri:fJ X (compareOp .Gt) (Fe fun i j=>.bl (decide (j<i))):=JV fun _ _ _ _ _ _ _ q=>gt_int q
theorem QG:fJ X (compareOp .GtE) (Fe fun i j=>.bl (decide (j<=i))):=JV fun _ _ _ _ _ _ _ q=>ge_int q
theorem Lx:fJ X (compareOp .Is) (fun x y H Q=>y=.non/\Q (.bl (decide (x=.non))) H):=by intro pins s σ H x y v u Q I rx ry h;obtain⟨rfl,q⟩:=h;cases ry;refine is_none_gen (JM I q ?_);cases x<;>first|(cases rx;rfl)|(obtain⟨t,rfl⟩:=rx;rfl)
theorem aN(b:Expr){op:CmpOp}(h:op≠.In:=by decide)(h2:op≠.NotIn:=by decide):behindInMarks op b=false:=by
 have e1:(op==CmpOp.In)=false:=by cases op<;>first|rfl|exact absurd rfl h
 have e2:(op==CmpOp.NotIn)=false:=by cases op<;>first|rfl|exact absurd rfl h2
 cases b<;>simp[behindInMarks,e1,e2]
theorem Fv{op:CmpOp}{r:R2}(ho:fJ X (compareOp op) r)(ha:PE X a ta)(hb:PE X b tb)(hm:behindInMarks op b=false):PE X (.Compare a [op] [b] pos) (Og r ta tb):=by intro pins s σ H Q I h;exact wpAny_Compare1 (Nj ha hb I h fun v u s2 x y H2 I2 rx ry q=>ho pins s2 σ H2 x y v u Q I2 rx ry q) hm
noncomputable def TY(t:TE):TT:=fun σ H Q=>t σ H fun x H'=>∃k,x=.bl k/\Q k H'
theorem Ez{op:CmpOp}{r:R2}(ho:fJ X (compareOp op) r)(ha:PE X a ta)(hb:PE X b tb)(hm:behindInMarks op b=false):PT X (.Compare a [op] [b] pos) (TY (Og r ta tb)):=by intro pins s σ H Q I h;refine wpAny_isTrue_Compare1 (dq (ha pins s σ H _ I h) fun v s1⟨x,H1,I1,r1,q1⟩=>dq (hb pins s1 σ H1 _ I1 q1) fun u s2⟨y,H2,I2,r2,q2⟩=>dq (ho pins s2 σ H2 x y v u _ I2 r1 r2 q2) fun c s3⟨z,H3,I3,r3,k,e,q3⟩=>?_) hm;subst e;cases r3;exact wpAny_truthy_bool ⟨H3,I3,q3⟩
theorem qY:(sizeLine:Nat)<2^63:=by rw[sizeLine_eq];decide
theorem vo:fJ X (binaryOp .Add) (fun x y H Q=>∃i j,x=.str i/\y=.str j/\i.length+j.length<=sizeLine/\Q (.str (i++j)) H):=by intro pins s σ H x y v u Q I rx ry h;obtain⟨i,j,rfl,rfl,hz,q⟩:=h;obtain⟨t,rfl⟩:=rx;obtain⟨t',rfl⟩:=ry;exact add_str (fun t' tk=>⟨.str (i++j),H,I.tok _,⟨_,rfl⟩,q⟩) hz
theorem vals1{x:V}{us:List Value}(r:Vals [x] us):∃u,us=[u]/\RelV x u:=by cases r with|cons r1 r2=>cases r2;exact⟨_,rfl,r1⟩
theorem vals2{x y:V}{us:List Value}(r:Vals [x,y] us):∃u w',us=[u,w']/\RelV x u/\RelV y w':=by cases r with|cons r1 r2=>cases r2 with|cons r3 r4=>cases r4;exact⟨_,_,rfl,r1,r3⟩
theorem xX(hc:X.calm=true):eZ X (.builtin "min") (fun xs H Q=>∃i j,xs=[.int i,.int j]/\Q (.int (if j<i then j else i)) H):=by
 intro pins s σ H xs us Q I r h;obtain⟨i,j,rfl,q⟩:=h;obtain⟨u,w',rfl,⟨t,rfl⟩,⟨t',rfl⟩⟩:=vals2 r;refine min_two_ints (I.ok.hd hc) fun h' tk k=>⟨_,H,I.kept k,?_,q⟩;by_cases hj:j<i;.rw[if_pos hj,if_pos hj];exact⟨_,rfl⟩
 .rw[if_neg hj,if_neg hj];exact⟨_,rfl⟩
end
end L2
namespace L2
open PySem PySem.Spec PyProof.Rows
end L2
namespace L2
open PySem PySem.Spec PyProof.Rows
structure gn(k:Nat)(A:Around):Prop where
 hd:A.handled=none
 dp:A.depth+3*k+5<recursionLimit
 un:A.units+16*k+200<cLine
theorem gn.deeper{k:Nat}{A:Around}(r:gn (k+1) A)(env:Env):gn k (A.deeper env):=⟨r.hd,by have:=r.dp;show A.depth+1+3*k+5<_;omega,by have:=r.un;show A.units+3+16*k+200<_;omega⟩
theorem gn.depth{k:Nat}{A:Around}(r:gn k A):A.depth<recursionLimit:=by have:=r.dp;omega
noncomputable def Y5:TA:=fun _ H Q=>Q [] H
noncomputable def Rb(ta:TE)(tr:TA):TA:=fun σ H Q=>ta σ H fun x H1=>tr σ H1 fun xs H2=>Q (x::xs) H2
section
variable{X:Cx}{e:Expr}{es:List Expr}{te:TE}{t:TA}{pos:Pos}
theorem cW:PA X [] Y5:=fun _ _ _ _ H Q I h=>Calls.spliced_nil ⟨[],H,I,.nil,h⟩
theorem aZ(ha:PE X e te)(hr:PA X es t)(hs:starEach (e::es) X.env=(false,eval e X.env)::starEach es X.env:=by rfl):PA X (e::es) (Rb te t):=by intro pos pins s σ H Q I h;rw[hs];show wpAny _ _ (spliced ((false,eval e X.env)::backTo pos (starEach es X.env))) _ _ s;refine Calls.spliced_cons (dq (ha pins s σ H _ I h) fun u s1⟨x,H1,I1,r1,q1⟩=>?_);exact dq (hr pos pins s1 σ H1 _ I1 q1) fun us s2⟨xs,H2,I2,r2,q2⟩=>⟨x::xs,H2,I2,.cons r1 r2,q2⟩
noncomputable def YL(t:TA):TE:=fun σ H Q=>t σ H fun xs H1=>xs.length<=sizeLine/\∀p,H1 p=none->Q (.ref p) (upd H1 p (.tup xs))
noncomputable def X5(t:TA):TE:=fun σ H Q=>t σ H fun xs H1=>xs.length<=sizeLine/\∀p,H1 p=none->Q (.ref p) (upd H1 p (.lst xs))
theorem uN{x1}(h:PA X es t):PE X (.Tuple es x1 pos) (YL t):=by intro pins s σ H Q I hq;refine wpAny_Tuple_spliced (dq (h pos pins s σ H _ I hq) fun us s1⟨xs,H1,I1,r,z,q⟩=>⟨by rw[<-r.length];exact z,?_⟩);have hf:H1 s1.heap.objs.size=none:=I1.hok.fresh (Nat.le_refl _);refine⟨.ref s1.heap.objs.size,upd H1 s1.heap.objs.size (.tup xs),I1.laid (t':=s1.toks) (fun b u e=>Heap.get?_push_of_some _ e) (Nat.le_refl _) ?_,rfl,q _ hf⟩;exact⟨z,us,r,⟨_,Heap.get?_push_size _ rfl,rfl,_,rfl⟩⟩
theorem JF(h:PA X es t):PE X (.List es pos) (X5 t):=by intro pins s σ H Q I hq;refine wpAny_List_spliced (dq (h pos pins s σ H _ I hq) fun us s1⟨xs,H1,I1,r,z,q⟩=>⟨by rw[<-r.length];exact z,?_⟩);have hf:H1 s1.heap.objs.size=none:=I1.hok.fresh (Nat.le_refl _);refine⟨.ref s1.heap.objs.size,upd H1 s1.heap.objs.size (.lst xs),I1.laid (t':=s1.toks) (fun b u e=>Heap.get?_push_of_some _ e) (Nat.le_refl _) ?_,rfl,q _ hf⟩;exact⟨z,us,0,r,Heap.get?_push_size _ rfl⟩
end
noncomputable abbrev Sp:=List V->Hp->VK->XK->Prop
noncomputable abbrev zr:=List Env->Hp->Shared->XK->Value->Shared->Prop
structure Hm(P:Program)(w:World)(K:PySem.W.Frag)(mg:Str->Option Value)(base:Heap)(A:Around)(outer:List Env)(s:Shared)(H:Hp):Prop where
 frames:A.frames=some outer
 mod:Mod K mg base
 bs:∀b o,base.get? b=some o->s.heap.get? b=some o/\H b=none
 zy:base.objs.size<=s.heap.objs.size
 jb:s.heap.FunFrames base outer
 DR:∀b∈frs outer,H b=none
 hok:ji P w H s.heap
 bare:AllBare s.gens
noncomputable def CE(outer:List Env)(P:Program)(w:World)(H:Hp)(s:Shared)(Q:VK)(u:Value)(s':Shared):Prop:=∃v H',s'.os=s.os/\AllBare s'.gens/\Un (frs outer) [] H H' s.heap s'.heap/\ji P w H' s'.heap/\RelV v u/\Q v H'
noncomputable def CR(CX:zr)(outer:List Env)(P:Program)(w:World)(H:Hp)(s:Shared)(Q:VK)(E:XK)(r:Result)(s':Shared):Prop:=match r with|.ok (.ret u)=>CE outer P w H s Q u s'|.ok _=>False|.error e=>CX outer H s E e s'
structure dw(P:Program)(w:World)(K:PySem.W.Frag)(mg:Str->Option Value)(base:Heap)(CX:zr)(k:Nat)(f:Addr)(fd:FuncData)(ps:List Str)(sp:Sp):Prop where
 len:∀vs H Q E,sp vs H Q E->vs.length=ps.length
 run:∀(A:Around)(outer:List Env)(s:Shared)(H:Hp)(args:Args)(us:List Value)(vs:List V)(Q:VK)(E:XK),gn k A->Hm P w K mg base A outer s H->BindsTo s fd args (ps.zip us)->Vals vs us->sp vs H Q E->codeAny (model P w) A (.call (.ref f) args) (CR CX outer P w H s Q E) s
section
variable{X:Cx}{pins:List (Addr×Obj)}{σ:St}{H:Hp}{s s':Shared}
theorem Inv.env0(I:Inv X pins σ H s):Hm X.prog X.w X.K X.mg X.base X.A X.stack s H:=⟨I.ok.frames,I.ok.mod,I.bs,Nat.le_trans I.ok.zy I.sz,I.stack,I.mD,I.hok,I.bare⟩
theorem Inv.after{Q:VK}{u:Value}(I:Inv X pins σ H s)(h:CE X.stack X.prog X.w H s Q u s'):EP X pins σ Q u s':=by obtain⟨v,H',os,bare,un,hok,r,q⟩:=h;obtain⟨hh,g,d,t,os'⟩:=s';obtain rfl:os'=s.os:=os;exact⟨v,H',I.call (h':=hh) (g':=g) (d':=d) (t':=t) (ch:=[]) un hok bare (fun b z=>absurd z (by simp)),r,q⟩
end
noncomputable def Tu(sp:Sp)(Jo:List V)(E:XK)(t:TA):TE:=fun σ H Q=>t σ H fun vs H1=>sp (vs++Jo) H1 Q E
noncomputable def Binds(K:PySem.W.Frag)(fd:FuncData)(ps:List Str)(ds:List Value):Prop:=∀(s:Shared)(us:List Value),K.In s.heap->(us++ds).length=ps.length->BindsTo s fd ⟨us,[]⟩ (ps.zip (us++ds))
theorem Binds.all{K:PySem.W.Frag}{fd:FuncData}{ps:List Str}(h:∀us:List Value,us.length=ps.length->bindArgs fd ⟨us,[]⟩=pure (ps.zip us)):Binds K fd ps []:=fun s us _ hl=>by rw[List.append_nil]at hl ⊢;exact .of_eq (h us hl)
noncomputable def Passes(CX:zr)(X:Cx)(E:XK):Prop:=∀(pins:List (Addr×Obj))(σ:St)(H:Hp)(s:Shared)(e:Value)(s':Shared),Inv X pins σ H s->CX X.stack H s E e s'->X.xe e s'
section
variable{X:Cx}{CX:zr}{k:Nat}{f C:Addr}{fd:FuncData}{ps:List Str}{sp:Sp}{Jo:List V}{ds:List Value}{E:XK}{x m:Str}{p pos apos:Pos}{e o:Expr}{es:List Expr}{ta:TE}{t:TA}
theorem MT{pins:List (Addr×Obj)}{σ:St}{H:Hp}{s:Shared}{Q:VK}{us:List Value}{vs:List V}(F:dw X.prog X.w X.K X.mg X.base CX k f fd ps sp)(hr:gn k X.A)(hb:Binds X.K fd ps ds)(hd:Vals Jo ds)(hx:Passes CX X E)(I:Inv X pins σ H s)(r:Vals vs us)(h:sp (vs++Jo) H Q E):wpAny (model X.prog X.w) X.A (call (.ref f) us) (EP X pins σ Q) X.xe s:=by
 have r2:Vals (vs++Jo) (us++ds):=r.append hd;have hl:(us++ds).length=ps.length:=by rw[<-r2.length];exact F.len _ _ _ _ h
 refine wpAny_call (codeAny_mono (F.run X.A X.stack s H ⟨us,[]⟩ (us++ds) (vs++Jo) Q E hr I.env0 (hb s us I.DP hl) r2 h) fun r s' hq=>?_);cases r with|error e=>exact hx pins σ H s e s' I hq|ok fl=>cases fl with|ret u=>exact I.after hq|next=>exact False.elim hq|brk=>exact False.elim hq|cont=>exact False.elim hq
theorem wW(F:dw X.prog X.w X.K X.mg X.base CX k f fd ps sp)(hr:gn k X.A)(hg:Gl X x)(hm:X.mg x=some (.ref f))(hk:PySem.W.keepIn X.K (.ref f)=true)(hb:Binds X.K fd ps ds)(hd:Vals Jo ds)(hx:Passes CX X E)(ha:PA X (e::es) t)(hdb:(x==("__debug__":Str))=false:=by decide)(he:starEach (e::es) X.env=(false,eval e X.env)::starEach es X.env:=by rfl)(hpl:(backTo pos (starEach es X.env)).any (·.1)=false:=by rfl):PE X (.Call (.Name x p) (e::es) [] pos) (Tu sp Jo E t):=by intro pins s σ H Q I h;refine wpAny_Call_Name_kw (mF I hg hm ?_ hdb);refine PySem.W.callWith_K (h₀:=X.base) I.ok.mod.T4 hk (dq (ha pos pins s σ H _ I h) fun us s1⟨vs,H1,I1,r,q⟩=>⟨I1.DP,?_⟩) he hpl;exact MT F hr hb hd hx I1 r q
end
structure bN(N P:List Str)(sc:Scope):Prop where
 kind:sc.kind=.function
 co:sc.isCoroutine=false
 gen:sc.isGenerator=false
 nd:N.Nodup
 pre:N.take P.length=P
 par:∀x∈P,sc.names.lookup x=some .local\/sc.names.lookup x=some .cell
 Nq:∀y∈sc.names,y.2≠.free
theorem oY{kindOf:Str->Option NameKind}{x:Str}:∀{binds:List (Str×Value)}{m:Str->Option Value},(∀v,(x,v)∉binds)->bindL kindOf binds m x=m x
 |[],_,_=>rfl|(n,v)::r,m,h=>by
   unfold bindL;rw[oY fun w hw=>h w (List.mem_cons_of_mem _ hw)];split
   . have:x≠n:=by rintro rfl;exact h v List.mem_cons_self
     simp[this]
   .rfl
theorem o7{kindOf:Str->Option NameKind}{x:Str}:∀{binds:List (Str×Value)}{m:Str->Option Value},(∀v,(x,v)∉binds)->bindC kindOf binds m x=m x
 |[],_,_=>rfl|(n,v)::r,m,h=>by
   unfold bindC;rw[o7 fun w hw=>h w (List.mem_cons_of_mem _ hw)];split;.rfl
   . have:x≠n:=by rintro rfl;exact h v List.mem_cons_self
     simp[this]
theorem pC{kindOf:Str->Option NameKind}{x:Str}{v:Value}:∀{P:List Str}{vs:List Value}{i:Nat}{m:Str->Option Value},P.Nodup->P[i]?=some x->vs[i]?=some v->kindOf x=some .local->bindL kindOf (P.zip vs) m x=some v|[],_,_,_,_,h,_,_=>by simp at h|_::_,[],_,_,_,_,h,_=>by simp at h|p::P,w::vs,0,m,nd,h1,h2,hk=>by simp at h1 h2;subst h1;subst h2;show bindL kindOf ((p,w)::P.zip vs) m p=_;unfold bindL;rw[oY fun v hv=>(List.nodup_cons.mp nd).1 (List.of_mem_zip hv).1,if_pos hk];simp|p::P,w::vs,i+1,m,nd,h1,h2,hk=>by show bindL kindOf ((p,w)::P.zip vs) m x=_;unfold bindL;exact pC (i:=i) (List.nodup_cons.mp nd).2 (by simpa using h1) (by simpa using h2) hk
theorem pA{kindOf:Str->Option NameKind}{x:Str}{v:Value}:∀{P:List Str}{vs:List Value}{i:Nat}{m:Str->Option Value},P.Nodup->P[i]?=some x->vs[i]?=some v->kindOf x≠some .local->bindC kindOf (P.zip vs) m x=some v|[],_,_,_,_,h,_,_=>by simp at h|_::_,[],_,_,_,_,h,_=>by simp at h|p::P,w::vs,0,m,nd,h1,h2,hk=>by simp at h1 h2;subst h1;subst h2;show bindC kindOf ((p,w)::P.zip vs) m p=_;unfold bindC;rw[o7 fun v hv=>(List.nodup_cons.mp nd).1 (List.of_mem_zip hv).1,if_neg hk];simp|p::P,w::vs,i+1,m,nd,h1,h2,hk=>by show bindC kindOf ((p,w)::P.zip vs) m x=_;unfold bindC;exact pA (i:=i) (List.nodup_cons.mp nd).2 (by simpa using h1) (by simpa using h2) hk
noncomputable def start(N:List Str)(vs:List V):St:=vs.map some++List.replicate (N.length-vs.length) none
noncomputable def km(CX:zr)(P:Program)(w:World)(K:PySem.W.Frag)(mg:Str->Option Value)(base:Heap)(N:List Str)(qual:Str)(scope:Scope)(f:Addr)(cd:Value)(A:Around)(outer:List Env)(s:Shared)(H:Hp)(E:XK):Cx where prog:=P;w:=w;K:=K;mg:=mg;base:=base;A:=A.deeper (envOfC qual scope s.heap.objs.size f cd);N:=N;s₀:=s;H₀:=H;env:=envOfC qual scope s.heap.objs.size f cd;outer:=outer;stack:=envOfC qual scope s.heap.objs.size f cd::outer;ex:=[];calm:=true;fn:=fun _=>true;pn:=[];xe:=fun e s'=>wpAny (model P w) (A.deeper (envOfC qual scope s.heap.objs.size f cd)) (leaving (envOfC qual scope s.heap.objs.size f cd) e) (fun _ s''=>CX outer H s E e s'') (fun e' s''=>CX outer H s E e' s'') s'
theorem sG{sc:Scope}{n:Nat}{x:Str}(h:sc.names.lookup x=some .cell):∃c,(cellsFrom n sc.names []).lookup x=some c:=by have q:=PySem.W.cellsFrom_some sc.names n [] (.inl h);exact Option.isSome_iff_exists.mp q
theorem yC{CX:zr}{P:Program}{w:World}{K:PySem.W.Frag}{mg:Str->Option Value}{base:Heap}{N ps:List Str}{qual:Str}{scope:Scope}{f:Addr}{cd:Value}{A:Around}{outer:List Env}{s s1:Shared}{H:Hp}{E:XK}{us:List Value}{vs:List V}(S:bN N ps scope)(hd:A.handled=none)(e0:Hm P w K mg base A outer s H)(hl:vs.length=ps.length)(r:Vals vs us)(x:InCallC s s.heap.objs.size (bindL (envOfC qual scope s.heap.objs.size f cd).kindOf (ps.zip us) fun _=>none) (cellsFrom (s.heap.objs.size+1) scope.names []) (bindC (envOfC qual scope s.heap.objs.size f cd).kindOf (ps.zip us) fun _=>none) s1):Inv (km CX P w K mg base N qual scope f cd A outer s H E) [] (start N vs) H s1:=by
 have hpl:ps.length<=N.length:=by have:=congrArg List.length S.pre;rw[List.length_take]at this;omega
 obtain⟨h1,tk,rfl,hk⟩:=x.done;have T6:∀b:Addr,b∉(km CX P w K mg base N qual scope f cd A outer s H E).ex:=fun b z=>absurd (show b∈([]:List Addr)from z) (by simp);refine⟨⟨e0.mod,S.kind,rfl,rfl,Nat.le_refl _,fun y z c h1 h2=>?_,fun y hy=>?_,fun y c _ h=>?_,fun _=>hd,Around.frames_deeper e0.frames,.inr ⟨rfl,rfl⟩,fun b z=>absurd z (T6 b),e0.bs,e0.zy,fun b _ _=>T6 b,fun b z=>absurd z (T6 b),e0.jb,e0.DR⟩,rfl,e0.bare,Un.kept hk,⟨_,x.toInCall.ns,fun i y v h1 h2 h3=>?_⟩,fun y c h=>⟨_,x.cell y c h⟩,e0.hok.fresh (Nat.le_refl _),fun y c h=>?_,fun p hp=>absurd (show p∈([]:List (Addr×Obj))from hp) (by simp),e0.hok.kept hk,?_⟩;.exact name_of_addr x.apart (PySem.mem_of_lookup h1) (PySem.mem_of_lookup h2)
 . have hy:scope.names.lookup y=some .cell\/scope.names.lookup y=some .free:=hy;rcases hy with hy|hy;.exact sG hy
   .exact absurd rfl (S.Nq _ (PySem.mem_of_lookup hy))
 .exact Nat.le_of_lt (x.above y c (PySem.mem_of_lookup h))
 . have hi:i<vs.length:=by
    unfold start at h2;by_cases hi:i<vs.length;.exact hi
    .rw[List.getElem?_append_right (by simpa using hi)]at h2;rw[List.getElem?_replicate]at h2;split at h2<;>cases h2
   have ha:vs[i]?=some v:=by unfold start at h2;rw[List.getElem?_append_left (by simpa using hi),List.getElem?_map]at h2;cases e:vs[i]?with|none=>rw[e]at h2;cases h2|some a=>rw[e]at h2;cases h2;rfl
   obtain⟨u,hu,rv⟩:=r.get ha;have hp:ps[i]?=some y:=by rw[<-S.pre,List.getElem?_take_of_lt (by omega)];exact h1
   have ndP:ps.Nodup:=by rw[<-S.pre];exact S.nd.sublist (List.take_sublist _ _)
   refine⟨u,rv,?_⟩;rcases S.par y (List.mem_of_getElem? hp)with k|k;.exact .inl ⟨k,pC ndP hp hu k⟩
   .obtain⟨c,e⟩:=sG (n:=s.heap.objs.size+1) k;refine .inr ⟨.inl k,c,e,?_⟩;have q:=x.cell y c e;rw[pA ndP hp hu (by show scope.names.lookup y≠_;rw[k];decide)]at q;exact q
 .exact e0.hok.fresh (Nat.le_of_lt (x.above y c (PySem.mem_of_lookup h)))
 .unfold start;show _=N.length;rw[List.length_append,List.length_map,List.length_replicate];omega
theorem HY{CX:zr}{P:Program}{w:World}{K:PySem.W.Frag}{mg:Str->Option Value}{base:Heap}{k:Nat}{f:Addr}{name qual:Str}{params:Arguments}{body:List Stmt}{scope:Scope}{dV kV doc pm cdv ct oc:Value}{an od:Option Addr}{osl:Array (Option Value)}{N ps:List Str}{sp:Sp}(lk:K.lookup f=some ⟨oc,od,.func (PySem.W.fnOf name qual params body scope dV kV doc pm an cdv ct),osl⟩)(hcd:PySem.W.codeIn K cdv qual=true)(S:bN N ps scope)(len:∀vs H Q E,sp vs H Q E->vs.length=ps.length)(hbody:∀(A:Around)(outer:List Env)(s:Shared)(H:Hp)(vs:List V)(Q:VK)(E:XK),gn k (A.deeper (envOfC qual scope s.heap.objs.size f cdv))->sp vs H Q E->∃t,lL (km CX P w K mg base N qual scope f cdv A outer s H E) body t/\t {nx:=fun _ H'=>Q .non H',rt:=Q} (start N vs) H):dw P w K mg base CX (k+1) f (PySem.W.fnOf name qual params body scope dV kV doc pm an cdv ct) ps sp:=by
 refine⟨len,fun A outer s H args us vs Q E hr e0 hb r hsp=>?_⟩;have hl:=len _ _ _ _ hsp;have KX:K.In s.heap:=e0.mod.T4.keeps fun b o e=>(e0.bs b o e).1;have lim:s.heap.NoLimit:=e0.mod.nolimit.keeps fun b o e=>(e0.bs b o e).1;have hkind:∀y∈ps.zip us,scope.names.lookup y.1=some .local\/(scope.names.lookup y.1=some .cell/\((cellsFrom (s.heap.objs.size+1) scope.names []).lookup y.1).isSome=true):=fun⟨n,v⟩hy=>by
  rcases S.par n (List.of_mem_zip hy).1 with q|q;.exact .inl q
  .exact .inr ⟨q,PySem.W.cellsFrom_some _ _ _ (.inl q)⟩
 refine codeAny_call_function hr.depth (KX _ _ lk) rfl S.co S.gen rfl (PySem.W.codeRec_of KX hcd) (hb _ _ _ _ ?_);refine wpAny_newFunctionEnv_cells S.kind hkind fun env he s1 x=>?_;subst he;refine⟨lim.keeps x.toInCall.keep,codeAny_func ?_⟩;obtain⟨t,ht,hq⟩:=hbody A outer s H vs Q E (hr.deeper _) hsp;have I:Inv (km CX P w K mg base N qual scope f cdv A outer s H E) [] (start N vs) H s1:=yC S hr.hd e0 hl r x;refine wpAny_mono (ht [] s1 (start N vs) H _ I hq) (fun fl s' hs=>?_) fun e s' hs=>hs;have fin:∀{σ':St}{H':Hp}{v:V}{u:Value},Inv (km CX P w K mg base N qual scope f cdv A outer s H E) [] σ' H' s'->RelV v u->Q v H'->CE outer P w H s Q u s':=fun{σ' H' v u}J rv q=>⟨v,H',J.os,J.bare,J.base,J.hok,rv,q⟩;cases fl with|ret u=>obtain⟨v,σ',H',J,rv,q⟩:=hs;exact fin J rv q|next=>obtain⟨σ',H',J,q⟩:=hs;exact fin (v:=V.non) (u:=Value.none) J rfl q|brk=>obtain⟨_,_,_,q⟩:=hs;exact False.elim q|cont=>obtain⟨_,_,_,q⟩:=hs;exact False.elim q
end L2
namespace L2
open PySem PySem.Spec PyProof.Rows
section
variable{X:Cx}{x:Str}{p pos:Pos}{e:Expr}{es:List Expr}{t:TA}{id T:String}{r:List V->Hp->VK->Prop}
noncomputable def U4(r:List V->Hp->VK->Prop)(t:TA):TE:=fun σ H Q=>t σ H fun vs H1=>r vs H1 Q
theorem dO(hc:eZ X (.builtin id) r)(hg:Gl X x)(hm:X.mg x=none)(hv:bootBuiltins x=some (.builtin id))(ha:PA X (e::es) t)(hn:x≠"__name__":=by decide)(hdb:(x==("__debug__":Str))=false:=by decide)(he:starEach (e::es) X.env=(false,eval e X.env)::starEach es X.env:=by rfl)(hpl:(backTo pos (starEach es X.env)).any (·.1)=false:=by rfl):PE X (.Call (.Name x p) (e::es) [] pos) (U4 r t):=by intro pins s σ H Q I h;refine wpAny_Call_Name_kw (kI I hg hm hv ?_ hn hdb);exact PyProof.Rows.callWith_builtin1 (dq (ha pos pins s σ H _ I h) fun us s1⟨vs,H1,I1,r1,q1⟩=>hc pins s1 σ H1 vs us Q I1 r1 q1) he hpl
theorem yM(hc:eZ X (.type T) r)(hg:Gl X x)(hm:X.mg x=none)(hv:bootBuiltins x=some (.type T))(ha:PA X (e::es) t)(hn:x≠"__name__":=by decide)(hdb:(x==("__debug__":Str))=false:=by decide)(he:starEach (e::es) X.env=(false,eval e X.env)::starEach es X.env:=by rfl)(hpl:(backTo pos (starEach es X.env)).any (·.1)=false:=by rfl):PE X (.Call (.Name x p) (e::es) [] pos) (U4 r t):=by intro pins s σ H Q I h;refine wpAny_Call_Name_kw (kI I hg hm hv ?_ hn hdb);exact PyProof.Rows.callWith_type1 (dq (ha pos pins s σ H _ I h) fun us s1⟨vs,H1,I1,r1,q1⟩=>hc pins s1 σ H1 vs us Q I1 r1 q1) he hpl
end
end L2
namespace HT
open PySem PyProof.Rows
section
variable{prog:Program}{w:World}{A:Around}{E:Value->Shared->Prop}{s:Shared}
theorem Gp{t b:Addr}{vs ws:List Value}{Q:Value->Shared->Prop}(ht:IsTup s.heap t vs.toArray)(hb:IsTup s.heap b ws.toArray)(hv:vs≠[])(h1:ws=[]->Q (.ref t) s)(h2:ws≠[]->Q (.ref s.heap.objs.size) {s with heap:=s.heap.push {cls:=.type "tuple",data:=.seq (vs++ws).toArray}})(hsz:vs.length+ws.length<=sizeLine):wpAny (model prog w) A (binaryOp .Add (.ref t) (.ref b)) Q E s:=by
 obtain⟨⟨cls,dd,data,sl⟩,ho,hc,n,hd⟩:=id ht;obtain⟨⟨cls2,dd2,data2,sl2⟩,ho2,hc2,n2,hd2⟩:=id hb;simp only at hc hd hc2 hd2;subst hc hd hc2 hd2;have e:vs.toArray++ws.toArray=(vs++ws).toArray:=by simp
 by_cases hw:ws=[];.exact concat_meets ⟨_,ho,rfl⟩ ⟨_,ho2,rfl⟩ noFill_tuple_add seq_tuple_add PySem.F.slot_tuple_add PySem.F.entry_tuple_add (PySem.F.args_tuple_add_2 _ _) (tuple_addW1 t b vs.toArray ws.toArray n n2 dd dd2 sl sl2 (by simpa using hv) (by simp[hw])) ⟨ho,ho2,h1 hw⟩
 .refine concat_meets ⟨_,ho,rfl⟩ ⟨_,ho2,rfl⟩ noFill_tuple_add seq_tuple_add PySem.F.slot_tuple_add PySem.F.entry_tuple_add (PySem.F.args_tuple_add_2 _ _) (tuple_addW2 t b vs.toArray ws.toArray n n2 dd dd2 sl sl2 (by simpa using hv) (by simpa using hw) (by rw[List.size_toArray,List.size_toArray];exact hsz)) ⟨ho,ho2,?_⟩;rw[e];exact h2 hw
noncomputable def cN(n d:Nat):Option Int->Nat|none=>d|some v=>if v<0 then(v+(n:Int)).toNat else min v.toNat n
theorem JQ(n d:Nat)(hd:d<=n)(o:Option Int):cN n d o<=n:=by cases o with|none=>exact hd|some v=>
   show(if v<0 then(v+(n:Int)).toNat else min v.toNat n)<=n;by_cases hv:v<0;.rw[if_pos hv];omega
   .rw[if_neg hv];exact Nat.min_le_right _ _
theorem wJ(v:Int)(n d:Nat):(if v<0 then max (v+(n:Int)) 0 else min v (n:Int))=((cN n d (some v):Nat):Int):=by
 show(if v<0 then max (v+(n:Int)) 0 else min v (n:Int))=(((if v<0 then(v+(n:Int)).toNat else min v.toNat n):Nat):Int);by_cases hv:v<0;.simp only[if_pos hv];omega
 .simp only[if_neg hv];omega
theorem vH(lo hi:Option Int)(n:Nat):Builtin.Slice.sliceAdjust lo hi 1 (n:Int)=(((cN n 0 lo:Nat):Int),((cN n n hi:Nat):Int)):=by
 have h1:¬((1:Int)<0):=by omega
 unfold Builtin.Slice.sliceAdjust;simp only[h1,if_false];refine Prod.ext ?_ ?_;.cases lo with|none=>rfl|some v=>exact wJ v n 0
 .cases hi with|none=>rfl|some v=>exact wJ v n n
theorem vh(i j:Nat):Builtin.Slice.slicePlaces (i:Int) (j:Int) 1=j-i:=by
 unfold Builtin.Slice.slicePlaces;have h1:(1:Int)>0:=by omega
 simp only[h1,if_true,Int.ediv_one];split<;>omega
theorem oE{v:Value}{o:Option Int}{Q:Option Int->Shared->Prop}(p:IsPart v o)(h:Q o s):wpAny (model prog w) A (Builtin.Slice.slicePartIndex v) Q E s:=by cases p with|none=>exact slicePart_none h|int i t=>exact slicePart_int h
theorem fW{sl:Addr}{vl vu:Value}{lo hi:Option Int}{n:Nat}{Q:Int×Int×Nat->Shared->Prop}(hs:s.heap.IsSliceOf sl vl vu .none)(pl:IsPart vl lo)(pu:IsPart vu hi)(h:Q (((cN n 0 lo:Nat):Int),1,cN n n hi-cN n 0 lo) s):wpAny (model prog w) A (Builtin.Slice.sliceApplied (.ref sl) (pure (n:Int))) Q E s:=by obtain⟨os,hos,hcs,hds⟩:=id hs;unfold Builtin.Slice.sliceApplied Builtin.Slice.sliceFields;refine wpAny_bind (wpAny_bind (wpAny_field hos hds (x:=vl) rfl (wpAny_bind (wpAny_field hos hds (x:=vu) rfl (wpAny_bind (wpAny_field hos hds (x:=.none) rfl (wpAny_pure ?_)))))));refine wpAny_bind (slicePart_none ?_);show wpAny _ _ (if((1:Int)==0)=true then _ else _) _ _ s;rw[if_neg (by decide)];refine wpAny_bind (oE pl (wpAny_bind (oE pu (wpAny_bind (wpAny_pure ?_)))));show wpAny _ _ (match Builtin.Slice.sliceAdjust lo hi 1 (n:Int)with|(lo,hi)=>pure (lo,(1:Int),Builtin.Slice.slicePlaces lo hi 1)) _ _ s;rw[vH lo hi n];show wpAny _ _ (pure (((cN n 0 lo:Nat):Int),(1:Int),Builtin.Slice.slicePlaces ((cN n 0 lo:Nat):Int) ((cN n n hi:Nat):Int) 1)) _ _ s;rw[vh];exact wpAny_pure h
theorem zG(xs:Array Value)(i k:Nat):((List.range k).filterMap fun(m:Nat)=>xs[((i:Int)+(m:Int)*1).toNat]?).toArray=((xs.toList.drop i).take k).toArray:=by
 have e:(fun(m:Nat)=>xs[((i:Int)+(m:Int)*1).toNat]?)=fun m=>xs[i+m]?:=by
  funext m;have:((i:Int)+(m:Int)*1).toNat=i+m:=by omega
  rw[this]
 rw[e];have:=pick_run xs i k;rw[List.filterMap_map]at this;have e2:((fun x=>xs[x]?)∘ fun x=>i+x)=fun m=>xs[i+m]?:=rfl;rw[e2]at this;rw[this]
theorem jy{t sl:Addr}{items:Array Value}{vl vu:Value}{lo hi:Option Int}{Q:Value->Shared->Prop}(ht:IsTup s.heap t items)(hs:s.heap.IsSliceOf sl vl vu .none)(pl:IsPart vl lo)(pu:IsPart vu hi)(hw:¬(cN items.size 0 lo=0/\cN items.size items.size hi=items.size))(h:Q (.ref s.heap.objs.size) {s with heap:=s.heap.push {cls:=.type "tuple",data:=.seq ((items.toList.drop (cN items.size 0 lo)).take (cN items.size items.size hi-cN items.size 0 lo)).toArray}})(hsz:items.size<=sizeLine):wpAny (model prog w) A (getItem (.ref t) (.ref sl)) Q E s:=by
 have xP:sizeOk (.seq ((items.toList.drop (cN items.size 0 lo)).take (cN items.size items.size hi-cN items.size 0 lo)).toArray):=by show((items.toList.drop (cN items.size 0 lo)).take (cN items.size items.size hi-cN items.size 0 lo)).toArray.size<=sizeLine;rw[List.size_toArray,List.length_take,List.length_drop,Array.length_toList];omega
 have hj:cN items.size items.size hi<=items.size:=JQ _ _ (Nat.le_refl _) hi;obtain⟨os,hos,hcs,hds⟩:=id hs;have hTs:s.TypeIs (.ref sl) "slice":=⟨os,hos,hcs⟩;unfold getItem;try with_reducible refine wpAny_holding ?_
 first|refine wpAny_bind (wpAny_pure ?_)|skip
 refine wpAny_bind (wpAny_sequenceKey ht.typeIs (by decide) ?_);refine wpAny_bind (wpAny_callSpecial?_slot (name:=Str.ofString "__getitem__") ht.typeIs PyProof.Rows.slot_tuple_getitem (wpAny_call_entry PyProof.Rows.slot_tuple_getitem ht.typeIs entry_tuple_getitem ?_ (args_tuple_getitem _ _)));show wpAny _ _ (Builtin.Tuple.tupleItemsOf (.ref t)>>=_) _ _ s;refine wpAny_bind (tupleItemsOf_ ht ?_);refine wpAny_bind (wpAny_typeOf hTs ?_);rw[if_pos (by decide)];refine wpAny_bind (fW hs pl pu ?_);have hno:¬((((cN items.size 0 lo:Nat):Int)==0&&(1:Int)==1&&(cN items.size items.size hi-cN items.size 0 lo)==items.size)=true):=by intro q;rw[Bool.and_eq_true,Bool.and_eq_true]at q;have q1:((cN items.size 0 lo:Nat):Int)=0:=eq_of_beq q.1.1;have q2:cN items.size items.size hi-cN items.size 0 lo=items.size:=eq_of_beq q.2;exact hw ⟨by omega,by omega⟩
 show wpAny _ _ (if(((cN items.size 0 lo:Nat):Int)==0&&(1:Int)==1&&(cN items.size items.size hi-cN items.size 0 lo)==items.size)=true then _ else _) _ _ s;rw[if_neg hno,zG];first|exact wpAny_bind (m:=Builtin.Tuple.tupleExact _) (wpAny_newObj_type (wpAny_pure ⟨_,rfl,wpAny_pure h⟩) xP)|exact wpAny_bind (m:=Builtin.Tuple.tupleExact _) (wpAny_newObj_type (wpAny_bind (wpAny_pure (wpAny_pure ⟨_,rfl,wpAny_pure h⟩))) xP)|exact wpAny_bind (wpAny_bind (m:=Builtin.Tuple.tupleExact _) (wpAny_newObj_type (wpAny_pure (wpAny_pure ⟨_,rfl,wpAny_pure h⟩)) xP))|exact wpAny_bind (wpAny_bind (m:=Builtin.Tuple.tupleExact _) (wpAny_newObj_type (wpAny_pure ⟨_,rfl,wpAny_pure h⟩) xP))
end
end HT
namespace L2
open PySem PySem.Spec PyProof.Rows
noncomputable abbrev TO:=St->Hp->(Option Int->Hp->Prop)->Prop
noncomputable def PO(X:Cx)(e:Option Expr)(t:TO):Prop:=∀(pins:List (Addr × Obj))(s:Shared)(σ:St)(H:Hp)(Q:Option Int->Hp->Prop),Inv X pins σ H s->t σ H Q->wpAny (model X.prog X.w) X.A (evalPart e X.env) (fun u s'=>∃o H',Inv X pins σ H' s'/\IsPart u o/\Q o H') X.xe s
noncomputable def Gb:TO:=fun _ H Q=>Q none H
noncomputable def QZ(t:TE):TO:=fun σ H Q=>t σ H fun x H1=>∃i,x=.int i/\Q (some i) H1
section
variable{X:Cx}{e:Expr}{te:TE}{lo hi:Option Expr}{tl th:TO}{pos p2:Pos}
theorem G6:PO X none Gb:=by intro pins s σ H Q I h;rw[evalPart_none];exact wpAny_pure ⟨none,H,I,.none,h⟩
theorem Ge(h:PE X e te):PO X (some e) (QZ te):=by intro pins s σ H Q I hw;rw[evalPart_some];refine dq (h pins s σ H _ I hw) fun u s1⟨x,H1,I1,r1,q1⟩=>?_;obtain⟨i,rfl,q⟩:=q1;obtain⟨t,rfl⟩:=r1;exact⟨some i,H1,I1,.int i t,q⟩
noncomputable def VB(X:Cx)(r:V->Option Int->Option Int->Hp->VK->Prop):Prop:=∀(pins:List (Addr × Obj))(s:Shared)(σ:St)(H:Hp)(x:V)(v vl vu:Value)(lo hi:Option Int)(sl:Addr)(Q:VK),Inv X pins σ H s->RelV x v->s.heap.IsSliceOf sl vl vu .none->IsPart vl lo->IsPart vu hi->r x lo hi H Q->∃T id,typeLookup (.type T) "__getitem__"=pure (some (.builtin id))/\s.TypeIs v T/\wpAny (model X.prog X.w) X.A (getItem v (.ref sl)) (EP X pins σ Q) X.xe s
noncomputable def tSl(r:V->Option Int->Option Int->Hp->VK->Prop)(te:TE)(tl th:TO):TE:=fun σ H Q=>te σ H fun x H1=>tl σ H1 fun l H2=>th σ H2 fun u H3=>r x l u H3 Q
theorem rJ{r:V->Option Int->Option Int->Hp->VK->Prop}(hr:VB X r)(he:PE X e te)(hl:PO X lo tl)(hu:PO X hi th):PE X (.Subscript e (.Slice lo hi none p2) pos) (tSl r te tl th):=by intro pins s σ H Q I h;refine Subscript_ (dq (he pins s σ H _ I h) fun v s1⟨x,H1,I1,r1,q1⟩=>?_);refine wpAny_Slice (dq (hl pins s1 σ H1 _ I1 q1) fun vl s2⟨l,H2,I2,pl,q2⟩=>dq (hu pins s2 σ H2 _ I2 q2) fun vu s3⟨u,H3,I3,pu,q3⟩=>?_);rw[evalPart_none];refine wpAny_pure ?_;have I4:Inv X pins σ H3 {s3 with heap:=s3.heap.push {cls:=.type "slice",data:=.fields #[vl,vu,.none]}}:=I3.kept (t':=s3.toks) fun b ob q=>Heap.get?_push_of_some _ q;obtain⟨T,id,hT,ht,hg⟩:=hr pins {s3 with heap:=s3.heap.push {cls:=.type "slice",data:=.fields #[vl,vu,.none]}} σ H3 x v vl vu l u s3.heap.objs.size Q I4 r1 (Heap.IsSliceOf.new ..) pl pu q3;show wpAny (model X.prog X.w) X.A (subscriptTail e (.Slice lo hi none p2) v (.ref s3.heap.objs.size)) (EP X pins σ Q) X.xe {s3 with heap:=s3.heap.push {cls:=.type "slice",data:=.fields #[vl,vu,.none]}};exact tail_any (ops:=[.ref s3.heap.objs.size,v]) ht hT hg (by with_unfolding_all rfl)
noncomputable def rY(xs:List V)(lo hi:Option Int):List V:=(xs.drop (HT.cN xs.length 0 lo)).take (HT.cN xs.length xs.length hi-HT.cN xs.length 0 lo)
theorem lF(xs:List V)(lo hi:Option Int):(rY xs lo hi).length<=xs.length:=by unfold rY;rw[List.length_take,List.length_drop];omega
noncomputable def WR(K:PySem.W.Frag):V->Option Int->Option Int->Hp->VK->Prop:=fun x lo hi H Q=>∃a xs,x=.ref a/\gw K H a xs/\¬(HT.cN xs.length 0 lo=0/\HT.cN xs.length xs.length hi=xs.length)/\∀p,H p=none->Q (.ref p) (upd H p (.tup (rY xs lo hi)))
theorem JL:VB X (WR X.K):=by
 intro pins s σ H x v vl vu lo hi sl Q I rx hs pl pu h;obtain⟨a,xs,rfl,hx,hw,q⟩:=h;cases rx;obtain⟨its,r,ht,hz⟩:=I.tuple hx;have hlen:its.toArray.size=xs.length:=by rw[List.size_toArray];exact r.length.symm
 refine⟨"tuple",_,PyProof.Rows.slot_tuple_getitem.lookup,ht.typeIs,?_⟩;refine HT.jy ht hs pl pu (by rw[hlen];exact hw) ?_ (by rw[hlen];exact hz);rw[hlen];refine⟨.ref s.heap.objs.size,_,I.laid (t':=s.toks) (o:=.tup (rY xs lo hi)) (fun b ob q=>Heap.get?_push_of_some _ q) (Nat.le_refl _) ?_,rfl,q _ (I.hok.fresh (Nat.le_refl _))⟩;exact⟨Nat.le_trans (lF xs lo hi) hz,_,(r.drop (HT.cN xs.length 0 lo)).take (HT.cN xs.length xs.length hi-HT.cN xs.length 0 lo),IsTup.new _ _⟩
noncomputable def Ry(K:PySem.W.Frag):R2:=fun x y H Q=>∃a b xs ys,x=.ref a/\y=.ref b/\gw K H a xs/\gw K H b ys/\xs≠[]/\xs.length+ys.length<=sizeLine/\(ys=[]->Q (.ref a) H)/\(ys≠[]->∀p,H p=none->Q (.ref p) (upd H p (.tup (xs++ys))))
theorem Vals.mG{xs:List V}{us:List Value}(r:Vals xs us):us=[]↔xs=[]:=by cases r with|nil=>simp|cons _ _=>simp
theorem Gv:fJ X (binaryOp .Add) (Ry X.K):=by intro pins s σ H x y v u Q I rx ry h;obtain⟨a,b,xs,ys,rfl,rfl,ha,hb,hx,hz,q1,q2⟩:=h;cases rx;cases ry;obtain⟨its,r1,p1,_⟩:=I.tuple ha;obtain⟨its2,r2,p2,_⟩:=I.tuple hb;refine HT.Gp p1 p2 (fun z=>hx (r1.mG.mp z)) (fun z=>⟨.ref a,H,I,rfl,q1 (r2.mG.mp z)⟩) (fun z=>?_) (by rw[<-r1.length,<-r2.length];exact hz);refine⟨.ref s.heap.objs.size,_,I.laid (t':=s.toks) (o:=.tup (xs++ys)) (fun b ob q=>Heap.get?_push_of_some _ q) (Nat.le_refl _) ?_,rfl,q2 (fun w=>z (r2.mG.mpr w)) _ (I.hok.fresh (Nat.le_refl _))⟩;exact⟨by rw[List.length_append];exact hz,_,r1.append r2,IsTup.new _ _⟩
end
end L2
namespace L2
open PySem PySem.Spec PyProof.Rows
noncomputable def jk(n:Nat)(i:Int):Option Nat:=if 0<=i then(if i<n then some i.toNat else none)else if-(n:Int)<=i then some (i+n).toNat else none
noncomputable def PB{α:Type}(xs:List α)(i:Int):Option α:=(jk xs.length i).bind fun j=>xs[j]?
theorem wC{n:Nat}{i:Int}{j:Nat}(h:jk n i=some j):seqIndex? i n=some j/\j<n/\-(n:Int)<=i/\i<n:=by
 unfold jk at h;by_cases h0:0<=i
 . rw[if_pos h0]at h;by_cases h1:i<n;.rw[if_pos h1]at h;have e:i.toNat=j:=Option.some.inj h;exact⟨by rw[seqIndex_of h0 h1,e],by omega,by omega,h1⟩
   .rw[if_neg h1]at h;cases h
 . rw[if_neg h0]at h;by_cases h1:-(n:Int)<=i;.rw[if_pos h1]at h;have e:(i+n).toNat=j:=Option.some.inj h;exact⟨by rw[seqIndex_neg (by omega) h1,e],by omega,h1,by omega⟩
   .rw[if_neg h1]at h;cases h
theorem xj{α:Type}{xs:List α}{i:Int}{v:α}(h:PB xs i=some v):∃j,seqIndex? i xs.length=some j/\xs[j]?=some v/\j<xs.length/\-(xs.length:Int)<=i/\i<xs.length:=by unfold PB at h;cases e:jk xs.length i with|none=>rw[e]at h;cases h|some j=>rw[e]at h;obtain⟨h1,h2,h3,h4⟩:=wC e;exact⟨j,h1,h,h2,h3,h4⟩
noncomputable def xH(b:Expr):Prop:=∀o i,subscripted b false o i=operate [o,i] (getItem o i)
noncomputable def V0(X:Cx)(r:R2):Prop:=∀(value slice:Expr)(pins:List (Addr × Obj))(s:Shared)(σ:St)(H:Hp)(x y:V)(v u:Value)(Q:VK),Inv X pins σ H s->RelV x v->RelV y u->r x y H Q->subscripted slice false v u=operate [v,u] (getItem v u)->wpAny (model X.prog X.w) X.A (subscriptTail value slice v u) (EP X pins σ Q) X.xe s
noncomputable def W8(X:Cx)(id:String)(r:V->List V->Hp->VK->Prop):Prop:=∀(pins:List (Addr × Obj))(s:Shared)(σ:St)(H:Hp)(x:V)(xs:List V)(v:Value)(us:List Value)(Q:VK),Inv X pins σ H s->RelV x v->Vals xs us->r x xs H Q->wpAny (model X.prog X.w) X.A (call (.builtin id) (v::us)) (EP X pins σ Q) X.xe s
section
variable{X:Cx}{a b:Expr}{ta tb:TE}{pos:Pos}
theorem QL{r:R2}(hr:V0 X r)(ha:PE X a ta)(hb:PE X b tb)(hs:xH b):PE X (.Subscript a b pos) (Og r ta tb):=by intro pins s σ H Q I h;exact Subscript_ (Nj ha hb I h fun v u s2 x y H2 I2 rx ry q=>hr a b pins s2 σ H2 x y v u Q I2 rx ry q (hs _ _))
noncomputable def Zb(K:PySem.W.Frag):R2:=fun x y H Q=>∃p xs i v,x=.ref p/\y=.int i/\dI K H p xs/\PB xs i=some v/\Q v H
noncomputable def YG(K:PySem.W.Frag):R2:=fun x y H Q=>∃p xs i v,x=.ref p/\y=.int i/\gw K H p xs/\PB xs i=some v/\Q v H
theorem Gx:V0 X (Zb X.K):=by
 intro value slice pins s σ H x y v u Q I rx ry h hs;obtain⟨p,xs,i,z,rfl,rfl,hq,he,q⟩:=h;cases rx;obtain⟨t,rfl⟩:=ry;obtain⟨its,r,pl,hz⟩:=I.list hq;obtain⟨j,h1,h2,h3,h4,h5⟩:=xj he;obtain⟨w,ew,T5⟩:=r.get h2;have hl:=r.length;have hn:=qY;have fin:EP X pins σ Q w s:=⟨z,H,I,T5,q⟩;by_cases h0:0<=i
 . have hj:i.toNat=j:=by rw[seqIndex_of h0 h5]at h1;exact Option.some.inj h1
   exact item_listR pl.isList h0 (by omega) (by rw[hj];simpa using ew) fin hs
 . have hj:(i+(its.toArray.size:Int)).toNat=j:=by rw[seqIndex_neg (by omega) h4]at h1;rw[List.size_toArray,<-hl];exact Option.some.inj h1
   exact subscriptTail_builtinR (x:=w) pl.isList.typeIs slot_list_getitem.lookup (wpAny_getItem_list_neg (Q:=fun r s'=>r=w/\EP X pins σ Q r s') pl.isList (by omega) (by rw[List.size_toArray]<;>omega) (by omega) (by rw[hj];simpa using ew) ⟨rfl,fin⟩) hs
theorem Ni:V0 X (YG X.K):=by intro value slice pins s σ H x y v u Q I rx ry h hs;obtain⟨p,xs,i,z,rfl,rfl,hq,he,q⟩:=h;cases rx;obtain⟨t,rfl⟩:=ry;obtain⟨its,r,pl,hz⟩:=I.tuple hq;obtain⟨j,h1,h2,h3,h4,h5⟩:=xj he;obtain⟨w,ew,T5⟩:=r.get h2;have hl:=r.length;have hn:=qY;have fin:EP X pins σ Q w s:=⟨z,H,I,T5,q⟩;exact subscriptTail_builtinR (x:=w) pl.typeIs slot_tuple_getitem.lookup (getItem_tuple (j:=j) (Q:=fun r s'=>r=w/\EP X pins σ Q r s') pl (by omega) (by omega) (by rw[List.size_toArray,<-hl];exact h1) (by simpa using ew) ⟨rfl,fin⟩) hs
theorem uK(its:List Value)(n j:Nat)(u:Value):Obj.mapSeq (·.setIfInBounds j u) {cls:=.type "list",data:=.seq its.toArray n}={cls:=.type "list",data:=.seq (its.set j u).toArray n}:=by simp[Obj.mapSeq]
theorem Inv.lst{pins:List (Addr×Obj)}{σ:St}{H:Hp}{s:Shared}{p:Addr}{xs:List V}(I:Inv X pins σ H s)(h:H p=some (.lst xs)):∃(its:List Value)(n:Nat),Vals xs its/\s.heap.get? p=some {cls:=.type "list",data:=.seq its.toArray n}/\xs.length<=sizeLine:=by obtain⟨z,its,n,r,e⟩:=I.hok p _ h;exact⟨its,n,r,e,z⟩
theorem Inv.J0{pins:List (Addr×Obj)}{σ:St}{H:Hp}{s:Shared}{p:Addr}{xs ys:List V}{its its':List Value}{n n':Nat}{f:Obj->Obj}(I:Inv X pins σ H s)(h:H p=some (.lst xs))(ho:s.heap.get? p=some {cls:=.type "list",data:=.seq its.toArray n})(hf:f {cls:=.type "list",data:=.seq its.toArray n}={cls:=.type "list",data:=.seq its'.toArray n'})(r:Vals ys its')(hz:ys.length<=sizeLine)(t:Nat):Inv X pins σ (upd H p (.lst ys)) {s with heap:=s.heap.update p f,toks:=t}:=by
 have e:(s.heap.update p f).get? p=some {cls:=.type "list",data:=.seq its'.toArray n'}:=by rw[Heap.get?_update_self f ho (by rw[hf]<;>rfl),hf]
 refine I.write (x:=p) (e:=p) (by rw[h];trivial) (.inl rfl) (fun b u hb q=>(Heap.get?_update_other _ _ (Ne.symm hb)).trans q) ⟨_,e⟩ ?_;exact⟨hz,its',n',r,e⟩
noncomputable def S5:V->V->V->Hp->(Hp->Prop)->Prop:=fun o i v H Q=>∃p xs k j,o=.ref p/\i=.int k/\H p=some (.lst xs)/\jk xs.length k=some j/\Q (upd H p (.lst (xs.set j v)))
theorem set_list:R5 X S5:=by
 intro pins s σ H o i v ov iv u Q I ro ri rv h;obtain⟨p,xs,k,j,rfl,rfl,hp,hj,q⟩:=h;cases ro;obtain⟨t,rfl⟩:=ri;obtain⟨its,n,r,ho,hz⟩:=I.lst hp;obtain⟨h1,h2,h3,h4⟩:=wC hj;have hl:=r.length;have hn:=qY;have I':Inv X pins σ (upd H p (.lst (xs.set j v))) {s with heap:=s.heap.update p (Obj.mapSeq (·.setIfInBounds j u))}:=I.J0 hp ho (uK its n j u) (r.set rv j) (by rw[List.length_set];exact hz) s.toks;by_cases h0:0<=k
 . have hk:k.toNat=j:=by rw[seqIndex_of h0 h4]at h1;exact Option.some.inj h1
   exact PySem.W.ki_setAt ho h0 (by omega) (by rw[List.size_toArray,<-hl];exact h4) (by rw[hk];exact⟨_,I',q⟩)
 . have hk:(k+(its.toArray.size:Int)).toNat=j:=by rw[seqIndex_neg (by omega) h3]at h1;rw[List.size_toArray,<-hl];exact Option.some.inj h1
   exact PySem.W.ki_setBack ho (by omega) (by rw[List.size_toArray,<-hl];exact h3) (by omega) (by rw[hk];exact⟨_,I',q⟩)
theorem qi(lo hi:Option Int)(n:Nat):(sliceBounds lo hi none n).1=((HT.cN n 0 lo:Nat):Int)/\(sliceBounds lo hi none n).2.1=((HT.cN n n hi:Nat):Int)/\(sliceBounds lo hi none n).2.2=1:=by
 refine⟨?_,?_,rfl⟩;.cases lo with|none=>simp[sliceBounds,HT.cN]|some i=>
     simp only[sliceBounds,HT.cN,Option.getD_none,show(1:Int)>0 by decide,if_true];by_cases h:i<0;.simp only[h,if_true]<;>omega
     .simp only[h,if_false]<;>omega
 .cases hi with|none=>simp[sliceBounds,HT.cN]|some i=>
     simp only[sliceBounds,HT.cN,Option.getD_none,show(1:Int)>0 by decide,if_true];by_cases h:i<0;.simp only[h,if_true]<;>omega
     .simp only[h,if_false]<;>omega
theorem oW(its:List Value)(lo hi:Option Int):slicePick its.toArray lo hi none=((its.drop (HT.cN its.length 0 lo)).take (HT.cN its.length its.length hi-HT.cN its.length 0 lo)).toArray:=by obtain⟨h1,h2,h3⟩:=qi lo hi its.toArray.size;unfold slicePick;rw[h1,h2,h3];simp only[sliceRange_one,pick_run,List.size_toArray]<;>rfl
noncomputable def X4(K:PySem.W.Frag):V->Option Int->Option Int->Hp->VK->Prop:=fun x lo hi H Q=>∃a xs,x=.ref a/\dI K H a xs/\∀p,H p=none->Q (.ref p) (upd H p (.lst (rY xs lo hi)))
theorem Fq:VB X (X4 X.K):=by intro pins s σ H x v vl vu lo hi sl Q I rx hs pl pu h;obtain⟨a,xs,rfl,hx,q⟩:=h;cases rx;obtain⟨its,r,ht,hz⟩:=I.list hx;have hlen:=r.length;refine⟨"list",_,slot_list_getitem.lookup,ht.isList.typeIs,?_⟩;refine wpAny_getItem_list_slice ht.isList hs pl pu .none (by simp) ?_ (by rw[List.size_toArray]<;>omega);rw[oW,<-hlen];refine⟨.ref s.heap.objs.size,_,I.laid (t':=s.toks) (o:=.lst (rY xs lo hi)) (fun b ob q=>Heap.get?_push_of_some _ q) (Nat.le_refl _) ?_,rfl,q _ (I.hok.fresh (Nat.le_refl _))⟩;exact⟨Nat.le_trans (lF xs lo hi) hz,_,0,(r.drop (HT.cN xs.length 0 lo)).take (HT.cN xs.length xs.length hi-HT.cN xs.length 0 lo),Heap.get?_push_size _ rfl⟩
noncomputable def iW:V->Bool|.non=>true|.bl _=>true|.int _=>true|.str _=>true|_=>false
noncomputable def Gy:V->V->Bool|.non,.non=>true|.bl a,.bl b=>a==b|.bl a,.int b=>(if a then 1 else 0)==b|.int a,.bl b=>a==(if b then 1 else 0)|.int a,.int b=>a==b|.str a,.str b=>a==b|_,_=>false
theorem Ks{A:Around}{s:Shared}{y x:V}{u v:Value}(ry:RelV y u)(rx:RelV x v)(fy:iW y=true)(fx:iW x=true):SeqAt.EqAt A s u v (Gy y x):=by cases y with
 |non=>cases ry;cases x with|non=>cases rx;exact SeqAt.EqAt.same _|bl b=>cases rx;exact SeqAt.EqAt.none_bool b|int b=>obtain⟨t,rfl⟩:=rx;exact SeqAt.EqAt.none_int b t|str b=>obtain⟨t,rfl⟩:=rx;exact SeqAt.EqAt.none_str b t|_=>exact absurd (show false=true from fx) Bool.false_ne_true
 |bl a=>cases ry;cases x with|non=>cases rx;exact SeqAt.EqAt.bool_none a|bl b=>cases rx;exact SeqAt.EqAt.bool_bool a b|int b=>obtain⟨t,rfl⟩:=rx;exact SeqAt.EqAt.bool_int a b t|str b=>obtain⟨t,rfl⟩:=rx;exact SeqAt.EqAt.bool_str a b t|_=>exact absurd (show false=true from fx) Bool.false_ne_true
 |int a=>obtain⟨t',rfl⟩:=ry;cases x with|non=>cases rx;exact SeqAt.EqAt.int_none a t'|bl b=>cases rx;exact SeqAt.EqAt.int_bool a t' b|int b=>obtain⟨t,rfl⟩:=rx;exact SeqAt.EqAt.int_int a t' b t|str b=>obtain⟨t,rfl⟩:=rx;exact SeqAt.EqAt.int_str a t' b t|_=>exact absurd (show false=true from fx) Bool.false_ne_true
 |str a=>obtain⟨t',rfl⟩:=ry;cases x with|non=>cases rx;exact SeqAt.EqAt.str_none a t'|bl b=>cases rx;exact SeqAt.EqAt.str_bool a t' b|int b=>obtain⟨t,rfl⟩:=rx;exact SeqAt.EqAt.str_int a t' b t|str b=>obtain⟨t,rfl⟩:=rx;exact SeqAt.EqAt.str_str a t' b t|_=>exact absurd (show false=true from fx) Bool.false_ne_true
 |_=>exact absurd (show false=true from fy) Bool.false_ne_true
noncomputable def Ft(x:V)(u:Value):Bool:=match u with|.none=>Gy .non x|.bool b=>Gy (.bl b) x|.int i _=>Gy (.int i) x|.str z _=>Gy (.str z) x|_=>false
theorem Az{x y:V}{u:Value}(r:RelV y u)(f:iW y=true):Ft x u=Gy y x:=by cases y with|non=>cases r;rfl|bl b=>cases r;rfl|int i=>obtain⟨t,rfl⟩:=r;rfl|str z=>obtain⟨t,rfl⟩:=r;rfl|_=>exact absurd (show false=true from f) Bool.false_ne_true
theorem qm{x:V}:∀{xs:List V}{us:List Value},Vals xs us->xs.all iW=true->us.any (Ft x)=xs.any fun y=>Gy y x|_,_,.nil,_=>rfl|y::xs,u::us,.cons r t,f=>by rw[List.all_cons,Bool.and_eq_true]at f;rw[List.any_cons,List.any_cons,Az r f.1,qm t f.2]
theorem nP{A:Around}{s:Shared}{x:V}{v:Value}(rx:RelV x v)(fx:iW x=true):∀{xs:List V}{us:List Value},Vals xs us->xs.all iW=true->∀u∈us,SeqAt.EqAt A s u v (Ft x u)
 |_,_,.nil,_=>fun u hu=>by cases hu|y::xs,u::us,.cons r t,f=>fun u' hu=>by
   rw[List.all_cons,Bool.and_eq_true]at f;rcases List.mem_cons.mp hu with rfl|hu;.rw[Az r f.1];exact Ks r rx f.1 fx
   .exact nP rx fx t f.2 u' hu
noncomputable def inV(x:V)(xs:List V):Bool:=xs.any fun y=>Gy y x
noncomputable def rIn(K:PySem.W.Frag)(neg:Bool):R2:=fun x y H Q=>∃p xs,y=.ref p/\(dI K H p xs\/gw K H p xs)/\iW x=true/\xs.all iW=true/\Q (.bl (if neg then !inV x xs else inV x xs)) H
theorem qO:fJ X (compareOp .NotIn) (rIn X.K true):=by
 intro pins s σ H x y v u Q I rx ry h;obtain⟨p,xs,rfl,hq,fx,fs,q⟩:=h;cases ry;rcases hq with hq|hq;.obtain⟨its,r,pl,hz⟩:=I.list hq;refine SeqAt.notIn_listAt (Ft x) pl.isList (fun w hw=>nP rx fx r fs w (by simpa using hw)) ⟨.bl _,H,I,rfl,?_⟩;rw[show its.toArray.any (Ft x)=its.any (Ft x)by simp,qm r fs];exact q
 .obtain⟨its,r,pl,hz⟩:=I.tuple hq;refine SeqAt.notIn_tupleAt (Ft x) pl (fun w hw=>nP rx fx r fs w (by simpa using hw)) ⟨.bl _,H,I,rfl,?_⟩;rw[show its.toArray.any (Ft x)=its.any (Ft x)by simp,qm r fs];exact q
theorem pW:eZ X (.builtin "len") (fun xs H Q=>∃p ys,xs=[.ref p]/\(dI X.K H p ys\/gw X.K H p ys)/\Q (.int ys.length) H):=by
 intro pins s σ H xs us Q I r h;obtain⟨p,ys,rfl,hq,q⟩:=h;obtain⟨u,rfl,rx⟩:=vals1 r;cases rx;have hn:=qY;rcases hq with hq|hq;.obtain⟨its,r',pl,hz⟩:=I.list hq;have hlen:=r'.length;exact Calls.call_len_list pl.isList (by simp only[List.size_toArray]<;>omega) ⟨.int ys.length,H,I.tok _,⟨s.toks+1,by rw[List.size_toArray,hlen]⟩,q⟩
 .obtain⟨its,r',pl,hz⟩:=I.tuple hq;have hlen:=r'.length;exact len_tuple pl (by simp only[List.size_toArray]<;>omega) ⟨.int ys.length,H,I.tok _,⟨s.toks+1,by rw[List.size_toArray,hlen]⟩,q⟩
theorem iU:eZ X (.type "tuple") (fun xs H Q=>∃p ys,xs=[.ref p]/\((dI X.K H p ys/\∀l,H l=none->Q (.ref l) (upd H l (.tup ys)))\/(gw X.K H p ys/\Q (.ref p) H))):=by
 intro pins s σ H xs us Q I r h;obtain⟨p,ys,rfl,h⟩:=h;obtain⟨u,rfl,rx⟩:=vals1 r;cases rx;rcases h with⟨hq,q⟩|⟨hq,q⟩;.obtain⟨its,r',pl,hz⟩:=I.list hq;have hlen:=r'.length;refine call_tuple_list pl.isList (fun h' kp=>?_) (by simp only[List.size_toArray]<;>omega);have I1:Inv X pins σ H {s with heap:=h'}:=I.kept (t':=s.toks) kp;have I2:Inv X pins σ (upd H h'.objs.size (.tup ys)) {s with heap:=h'.push {cls:=.type "tuple",data:=.seq its.toArray}}:=I1.laid (t':=s.toks) (fun b o e=>Heap.get?_push_of_some _ e) (Nat.le_refl _) (show cB X.prog X.w _ _ _ (.tup ys)from⟨hz,its,r',IsTup.new _ _⟩);exact⟨.ref h'.objs.size,_,I2,rfl,q _ (I1.hok.fresh (Nat.le_refl _))⟩
 .obtain⟨its,r',pl,hz⟩:=I.tuple hq;exact call_tuple_same pl ⟨.ref p,H,I,rfl,q⟩
noncomputable def W2(K:PySem.W.Frag)(T:String)(x:V)(H:Hp):Prop:=match x with|.str _=>T="str"|.int _=>T="int"|.ref p=>(T="list"/\∃xs,dI K H p xs)\/(T="tuple"/\∃o,K.lookup p=some o/\o.cls=.type "tuple"/\o.dict=none)\/(T="dict"/\((∃kvs,H p=some (.dK kvs))\/∃kvs,H p=some (.dT kvs)))\/(T="set"/\∃S n,H p=some (.set S n))|_=>False
theorem Bc{pins:List (Addr×Obj)}{σ:St}{H:Hp}{s:Shared}{T:String}{x:V}{v:Value}(I:Inv X pins σ H s)(r:RelV x v)(ty:W2 X.K T x H):
 s.TypeIs v T/\∀a,v=.ref a->∃ob,s.heap.get? a=some ob/\ob.dict=none:=by cases x with|str z=>obtain⟨t,rfl⟩:=r;cases(show T="str"from ty);exact⟨typeIs_str s z t,fun _ e=>nomatch e⟩|int i=>obtain⟨t,rfl⟩:=r;cases(show T="int"from ty);exact⟨typeIs_int s i t,fun _ e=>nomatch e⟩|ref p=>
   cases r;rcases ty with⟨rfl,xs,hq⟩|⟨rfl,o,hk,hc,hd⟩|⟨rfl,hk⟩|⟨rfl,S,n,hk⟩;.obtain⟨its,_,pl,_⟩:=I.list hq;refine⟨pl.isList.typeIs,fun a e=>?_⟩;cases e;obtain⟨o,n,e,c,hd,_⟩:=pl;exact⟨o,e,hd⟩
   .refine⟨⟨o,I.DP p o hk,hc⟩,fun a e=>?_⟩;cases e;exact⟨o,I.DP _ o hk,hd⟩
   . have z:∃o,s.heap.get? p=some o/\o.ExactDict:=by
      rcases hk with⟨kvs,hk⟩|⟨kvs,hk⟩;.obtain⟨_,_,_,_,o,_,_,e,ex,_⟩:=I.hok p _ hk;exact⟨o,e,ex⟩
      .obtain⟨_,_,_,_,o,_,_,e,ex,_⟩:=I.hok p _ hk;exact⟨o,e,ex⟩
     obtain⟨o,e,ex⟩:=z;refine⟨⟨o,e,ex.1⟩,fun a e2=>?_⟩;cases e2;exact⟨o,e,ex.2.1⟩
   .obtain⟨o,_,_,_,e,ex,_⟩:=I.hok p _ hk;refine⟨⟨o,e,ex.1⟩,fun a e2=>?_⟩;cases e2;exact⟨o,e,ex.2.1⟩|_=>exact False.elim ty
noncomputable def Y9(K:PySem.W.Frag)(T:String)(r:V->List V->Hp->VK->Prop)(to:TE):TE:=fun σ H Q=>to σ H fun x H1=>W2 K T x H1/\r x [] H1 Q
noncomputable def tBM(K:PySem.W.Frag)(T:String)(r:V->List V->Hp->VK->Prop)(to:TE)(t:TA):TE:=fun σ H Q=>to σ H fun x H1=>W2 K T x H1/\t σ H1 fun xs H2=>r x xs H2 Q
variable{o e:Expr}{es:List Expr}{to:TE}{t:TA}{name:Str}{apos cpos:Pos}{T id:String}{r:V->List V->Hp->VK->Prop}
theorem Ml(pa:PlainAttrs T)(slot:Slot T name id)(hty:typeOf (.builtin id)=pure (.type "method_descriptor"))(hm:W8 X id r)(ho:PE X o to)(hbase:attributeBase o name X.env (eval o X.env)=eval o X.env:=by rfl)(hline:(apos.endLine==cpos.line)=true:=by rfl):PE X (.Call (.Attribute o name apos) [] [] cpos) (Y9 X.K T r to):=by intro pins s σ H Q I h;refine wpAny_Call_method0_late hbase hline (dq (ho pins s σ H _ I h) fun v s1⟨x,H1,I1,r1,ty,q1⟩=>?_);obtain⟨h1,h2⟩:=Bc I1 r1 ty;exact⟨T,id,pa,slot,hty,h1,h2,Calls.callWith_builtin rfl (PySem.evalArgs_none (hm pins s1 σ H1 x [] v [] Q I1 r1 .nil q1))⟩
theorem HW(pa:PlainAttrs T)(slot:Slot T name id)(hty:typeOf (.builtin id)=pure (.type "method_descriptor"))(hm:W8 X id r)(ho:PE X o to)(ha:PA X (e::es) t)(hbase:attributeBase o name X.env (eval o X.env)=eval o X.env:=by rfl)(hfew:((backTo cpos (starEach (e::es) X.env)).all (fun x=>!x.1)&&(backToKw cpos (keywordEach [] X.env)).all (fun x=>x.1.isSome)&&decide ((e::es).length+([]:List Keyword).length+(if([]:List Keyword).isEmpty then 0 else 1)<30))=true:=by rfl)(hline:(apos.endLine==cpos.line)=true:=by rfl)(hs:starEach (e::es) X.env=(false,eval e X.env)::starEach es X.env:=by rfl)(hplain:(backTo cpos (starEach es X.env)).any (·.1)=false:=by rfl):PE X (.Call (.Attribute o name apos) (e::es) [] cpos) (tBM X.K T r to t):=by intro pins s σ H Q I h;refine wpAny_Call_method_late hbase hfew hline rfl (dq (ho pins s σ H _ I h) fun v s1⟨x,H1,I1,r1,ty,q1⟩=>?_);obtain⟨h1,h2⟩:=Bc I1 r1 ty;refine⟨T,id,pa,slot,hty,h1,h2,?_⟩;have hA:=ha cpos pins s1 σ H1 _ I1 q1;rw[hs]at hA ⊢;refine Calls.callWith_builtin (by show(false||(backTo cpos (starEach es X.env)).any (·.1))=false;rw[hplain]<;>rfl) (Calls.evalArgs_plain ?_);exact dq hA fun us s2⟨vs,H2,I2,r2,q2⟩=>hm pins s2 σ H2 x vs v us Q I2 r1 r2 q2/-xs.append(e),list.index on a module's tuple..are W8 facts of 06m-/
end
end L2
namespace L2
open PySem PySem.Spec PyProof.Rows
noncomputable def YW(X:Cx)(id:String)(r:V->List V->Hp->VK->Prop):Prop:=∀(pins:List (Addr × Obj))(s:Shared)(σ:St)(H:Hp)(x:V)(xs:List V)(v:Value)(us:List Value)(Q:VK),Inv X pins σ H s->RelV x v->Vals xs us->r x xs H Q->wpAny (model X.prog X.w) X.A (call (.builtin id) (v::us)) (EP X pins σ Q) X.xe s
theorem Vals.one:∀{x:V}{us:List Value},Vals [x] us->∃u,us=[u]/\RelV x u|_,_,.cons r .nil=>⟨_,rfl,r⟩
theorem Vals.two:∀{x y:V}{us:List Value},Vals [x,y] us->∃u v,us=[u,v]/\RelV x u/\RelV y v|_,_,_,.cons r (.cons q .nil)=>⟨_,_,rfl,r,q⟩
theorem Vals.zero:∀{us:List Value},Vals [] us->us=[]|_,.nil=>rfl
theorem Vals.dropLast{xs:List V}{us:List Value}(h:Vals xs us):Vals xs.dropLast us.dropLast:=by induction h with|nil=>exact .nil|cons r t ih=>cases t with|nil=>exact .nil|cons q t'=>exact .cons r ih
theorem Vals.rep{xs:List V}{us:List Value}(h:Vals xs us):∀k:Nat,Vals (List.replicate k xs).flatten (List.replicate k us).flatten|0=>.nil|k+1=>by rw[List.replicate_succ,List.replicate_succ,List.flatten_cons,List.flatten_cons];exact Vals.append h (Vals.rep h k)
theorem uJ{α:Type}(l:List α):l.eraseIdx (l.length-1)=l.dropLast:=by induction l with|nil=>rfl|cons a r ih=>cases r with|nil=>rfl|cons b r=>
     have e:(a::b::r).length-1=((b::r).length-1)+1:=by have h1:(a::b::r).length=r.length+2:=rfl;have h2:(b::r).length=r.length+1:=rfl;omega
     rw[e,List.eraseIdx_cons_succ,ih];all_goals rfl
theorem foldl_rep(its:List Value):∀(k:Nat)(acc:List Value),List.foldl (fun x1 x2=>x1++x2) acc.toArray (List.replicate k its.toArray)=(acc++(List.replicate k its).flatten).toArray
 |0,acc=>by simp|k+1,acc=>by
   have e:acc.toArray++its.toArray=(acc++its).toArray:=by simp
   have e2:(acc++its)++(List.replicate k its).flatten=acc++(List.replicate (k+1) its).flatten:=by rw[List.replicate_succ,List.flatten_cons,List.append_assoc]
   rw[<-e2,<-foldl_rep its k (acc++its),<-e,List.replicate_succ,List.foldl_cons]
section
variable{X:Cx}{pins:List (Addr×Obj)}{σ:St}{H:Hp}{s:Shared}{l b:Addr}{xs ys zs:List V}
theorem Inv.JZ{its its':List Value}{n:Nat}{f:Array Value->Array Value}{t':Nat}(I:Inv X pins σ H s)(hH:H l=some (.lst xs))(e:s.heap.get? l=some {cls:=.type "list",data:=.seq its.toArray n})(hf:f its.toArray=its'.toArray)(hv:Vals ys its')(hz:ys.length<=sizeLine):Inv X pins σ (upd H l (.lst ys)) {s with heap:=s.heap.update l (Obj.mapSeq f),toks:=t'}:=by have q:=PySem.IsL.update e f;rw[hf]at q;refine I.write (x:=l) (e:=l) (by rw[hH];exact trivial) (.inl rfl) (fun b' u hb hu=>(Heap.get?_update_other s.heap (Obj.mapSeq f) (Ne.symm hb)).trans hu) ⟨_,q⟩ ?_;exact⟨hz,its',_,hv,q⟩
theorem Inv.JK{its:List Value}{t':Nat}(I:Inv X pins σ H s)(hv:Vals ys its)(hz:ys.length<=sizeLine):Inv X pins σ (upd H s.heap.objs.size (.lst ys)) {s with heap:=s.heap.push {cls:=.type "list",data:=.seq its.toArray},toks:=t'}:=I.laid (fun _ _ q=>Heap.get?_push_of_some _ q) (Nat.le_refl _) ⟨hz,its,0,hv,Heap.get?_push_size _ rfl⟩
theorem Inv.fresh(I:Inv X pins σ H s):H s.heap.objs.size=none:=I.hok.fresh (Nat.le_refl _)
theorem Inv.Fy(I:Inv X pins σ H s)(hH:H l=some (.lst xs)):xs.length<=sizeLine/\∃(its:List Value)(n:Nat),Vals xs its/\xs.length=its.length/\s.heap.get? l=some {cls:=.type "list",data:=.seq its.toArray n}:=by obtain⟨z,its,n,r,e⟩:=I.hok l _ hH;exact⟨z,its,n,r,r.length,e⟩
theorem ud{n:Nat}(h:n<=sizeLine):Builtin.List.listTooLong n=false:=by unfold Builtin.List.listTooLong;exact decide_eq_false (by omega)
end
section
variable{X:Cx}
noncomputable def Hf:V->List V->Hp->VK->Prop:=fun x vs H Q=>∃l xs y,x=.ref l/\vs=[y]/\H l=some (.lst xs)/\xs.length<sizeLine/\Q .non (upd H l (.lst (xs++[y])))
theorem pN:YW X "list.append" Hf:=by intro pins s σ H x vs v us Q I rx rv h;obtain⟨l,xs,y,rfl,rfl,hH,hz,q⟩:=h;cases rx;obtain⟨u,rfl,ru⟩:=rv.one;obtain⟨z,its,n,r,hl,e⟩:=I.Fy hH;refine call_meets F.slot_list_append ⟨_,e,rfl⟩ F.entry_list_append (F.args_list_append_2 _ _) (PySem.list_append l its.toArray n u (by rw[List.size_toArray];omega)) ⟨e,?_⟩;refine⟨.non,_,I.JZ (its':=its++[u]) hH e (by simp) (r.append (.cons ru .nil)) ?_,rfl,q⟩;rw[List.length_append,List.length_singleton];omega
noncomputable def El:V->List V->Hp->VK->Prop:=fun x vs H Q=>∃l b xs zs,x=.ref l/\vs=[.ref b]/\H l=some (.lst xs)/\H b=some (.lst zs)/\xs.length+zs.length<=sizeLine/\Q .non (upd H l (.lst (xs++zs)))
theorem yJ:YW X "list.extend" El:=by
 intro pins s σ H x vs v us Q I rx rv h;obtain⟨l,b,xs,zs,rfl,rfl,hH,hB,hz,q⟩:=h;cases rx;obtain⟨u,rfl,ru⟩:=rv.one;cases ru;obtain⟨z,its,n,r,hl,e⟩:=I.Fy hH;obtain⟨z2,its2,n2,r2,hl2,e2⟩:=I.Fy hB;have hsz:its.toArray.size+its2.toArray.size<=sizeLine:=by rw[List.size_toArray,List.size_toArray];omega
 have T7:¬(!its.toArray.isEmpty&&Builtin.List.listTooLong (its.toArray.size+its2.toArray.size))=true:=by rw[ud hsz,Bool.and_false];exact Bool.false_ne_true
 refine call_meets F.slot_list_extend ⟨_,e,rfl⟩ F.entry_list_extend (F.args_list_extend_2 _ _) (AutoSeq1.list_extend_list_list_0 l its.toArray n b its2.toArray n2 T7 (by rw[List.size_toArray];omega) (by omega)) ⟨e,e2,?_⟩;refine⟨.non,_,I.JZ (its':=its++its2) hH e (by simp) (r.append r2) ?_,rfl,q⟩;rw[List.length_append];omega
noncomputable def Wv:V->List V->Hp->VK->Prop:=fun x vs H Q=>∃l xs y,x=.ref l/\vs=[]/\H l=some (.lst xs)/\xs[xs.length-1]?=some y/\Q y (upd H l (.lst xs.dropLast))
theorem JS:YW X "list.pop" Wv:=by
 intro pins s σ H x vs v us Q I rx rv h;obtain⟨l,xs,y,rfl,rfl,hH,hy,q⟩:=h;cases rx;have hus:=rv.zero;subst hus;obtain⟨z,its,n,r,hl,e⟩:=I.Fy hH;obtain⟨u,hu,ru⟩:=r.get hy;have hy':its.toArray[its.toArray.size-1]?=some u:=by show its.toArray[its.length-1]?=some u;rw[<-Array.getElem?_toList,<-hl];exact hu
 refine call_meets F.slot_list_pop ⟨_,e,rfl⟩ F.entry_list_pop (F.args_list_pop_1 _) (MeetsSeq.list_pop_last l its.toArray n u hy' (by rw[List.size_toArray];omega)) ⟨e,?_⟩;refine⟨y,_,I.JZ (its':=its.dropLast) hH e ?_ r.dropLast ?_,ru,q⟩;.show its.toArray.eraseIdxIfInBounds (its.toArray.size-1)=its.dropLast.toArray;rw[List.size_toArray,List.eraseIdxIfInBounds_toArray,uJ]
 .rw[List.length_dropLast];omega
theorem len_rep{α:Type}(xs:List α)(k:Nat):(List.replicate k xs).flatten.length=k*xs.length:=by induction k with|zero=>simp|succ k ih=>rw[List.replicate_succ,List.flatten_cons,List.length_append,ih,Nat.succ_mul,Nat.add_comm]
end
end L2
namespace Att
open PySem PySem.W PySem.Calls PyProof.Rows
theorem lR{P:Params}{h:Heap}:∀(ns:List Int)(vs:List Value),WellAll P h vs (ns.map WData.int)->IntsAre vs ns:=by intro ns;induction ns with|nil=>intro vs w;rw[List.map_nil]at w;cases w;exact .nil|cons n ns ih=>intro vs w;rw[List.map_cons]at w;cases w with|cons a b=>cases a;exact .cons _ _ (ih _ b)
theorem xY{l:OpenLaw}{n:Nat}(hn:l.most=some n){P:Params}{h:Heap}{args:List WData}{vals:List Value}(hpre:l.row.toRowW.claim.pre args=true)(hwl:WellAll P h vals args):∃a vs ns,vals=[Value.ref a]/\args=[WData.list (ns.map WData.int)]/\h.get? a=some {cls:=.type "list",data:=.seq vs.toArray}/\IntsAre vs ns/\ns.length<=n:=by
 have hsh:WShape.hasAll [] args [.list .int]=true:=(pre_splitW hpre).1;have hc:l.pre.holds [] {args:=args}=true:=(pre_splitW hpre).2;obtain⟨d,r,rfl,h1,h2⟩:=hasAllW_cons hsh;obtain rfl:=hasAllW_nil h2;obtain⟨xs,rfl,h3⟩:=hasW_list h1;obtain⟨ns,rfl⟩:=items_int h3;have hlen:ns.length<=n:=by
  unfold OpenLaw.pre at hc;have h4:(WTm.not (.lt (.lit (.int (n:Int))) (.len (.arg 0)))).holds [] {args:=[.list (ns.map .int)]}=true:=by have h4:=(holds_andW hc).1;rw[hn]at h4;exact h4
  have h5:=condW_of h4 (w_not (w_lt w_lit (w_len_list (w_arg rfl))));rw[List.length_map]at h5;refine Nat.le_of_not_lt fun q=>?_;have q':(n:Int)<((ns.length:Nat):Int):=by omega
  first|(rw[decide_eq_true q']at h5;exact absurd h5 (by decide))|(simp at h5;omega)
 cases hwl with|cons w1 w2=>cases w2;cases w1 with|list ho hall=>exact⟨_,_,ns,rfl,rfl,ho,lR ns _ hall,hlen⟩
theorem yO(l:OpenLaw)(args:List WData):l.row.toRowW.claim.post args (.bool true) args=true:=postW_of (r:=l.row.toRowW) (X:=(true==true)) (show WShape.has [] (.bool true) .bool=true by first|rfl|decide|simp[WShape.has,WShape.arms,WShape.armsAll]) (show(WTm.eq .res (.lit (.bool true))).value [] {args:=args,res:=some (.bool true),after:=args}=some (.bool (true==true))from w_eq_bool (w_res rfl) w_lit) rfl
theorem ug{l:OpenLaw}{n:Nat}{q:Program}{loose:List Str}{XP:(Str->Option Value)->Heap->Prop}{YP:World->Heap->Prop}{d:DefRec}(hn:l.most=some n)(hdf:d.params.defaults=[])(call:∀(w:World)(s₀ s₁:Shared)(mg mb:Str->Option Value)(fa:Addr)(o:Obj)(pm cd doc:Value)(a:Addr)(vs:List Value)(ns:List Int),Ground q loose [] XP w s₀ mg mb s₁.heap->YP w s₁.heap->s₁.heap.get? fa=some o->o.data=.func (docDef d.name d.params d.body d.scope pm cd doc)->s₁.heap.CodeRec cd d.name->mg d.name=some (.ref fa)->s₁.heap.get? a=some {cls:=.type "list",data:=.seq vs.toArray}->IntsAre vs ns->ns.length<=n->s₁.gens=#[]->codeAny (model l.prog w) callerA (.call (.ref fa) ⟨[.ref a],[]⟩) (fun r s'=>r=.ok (.ret (.bool true))/\OldK s₁.heap s'.heap/\s'.os=s₁.os/\AllBare s'.gens) s₁):WalkO q loose XP YP l.row.toRowW d [] (fun f vs=>PySem.call f vs):=by intro w s₀ s₁ mg mb G Y fa o pm cd doc dV kV ho hd hcd hD hmg hg args vals as hpre hlay hrd hwl hlo;obtain rfl:dV=.none:=Dflts.none hD hdf;obtain rfl:kV=.none:=Dflts.noKw hD;obtain⟨a,vs,ns,rfl,rfl,hobj,hints,hlen⟩:=xY hn hpre hwl;refine enter_call (codeAny_mono (call w s₀ s₁ mg mb fa o pm cd doc a vs ns G Y ho (fd_plain hd) hcd hmg hobj hints hlen hg) fun r s' hq=>?_);obtain⟨rfl,h2,h3,h4⟩:=hq;exact⟨.inl ⟨.bool true,.bool true,[],rfl,fun _=>rfl,.bool true,yO l _,fun _=>⟨List.Pairwise.nil,fun _ hm=>(nomatch hm)⟩⟩,h2,h3,h4⟩
end Att
namespace L2
open PySem PySem.Spec PyProof.Rows
theorem oZ:∀{vs:List Value}{ns:List Int},IntsAre vs ns->Vals (ns.map V.int) vs|_,_,.nil=>.nil|_,_,.cons n t h=>.cons ⟨t,rfl⟩ (oZ h)
noncomputable def Only(H:Hp):Prop:=∀b,H b=none\/∃o xs,H b=some (.fc o (.lst xs))
theorem Ai{P:Program}{w:World}{K:PySem.W.Frag}{mg mb:Str->Option Value}{CX:zr}{k:Nat}{fa a:Addr}{fd:FuncData}{x:Str}{sp:Sp}{s₁:Shared}{vs:List Value}{ns:List Int}(KX:K.In s₁.heap)(hns:s₁.heap.Ns mainGlobals mg)(hb:s₁.heap.Ns builtinsNs mb)(hbb:∀x:Str,x≠"__name__"->mb x=bootBuiltins x)(hlim:s₁.heap.NoLimit)(hg:s₁.gens=#[])(ha:s₁.heap.get? a=some {cls:=.type "list",data:=.seq vs.toArray})(hi:IntsAre vs ns)(hl:ns.length<=sizeLine)(hr:gn k callerA)(F:∀base:Heap,K.In base->base.Ns mainGlobals mg->dw P w K mg base CX k fa fd [x] sp)(hbind:∀(s:Shared)(u:Value),BindsTo s fd ⟨[u],[]⟩ [(x,u)])(hsp:∀H:Hp,Only H->dI K H a (ns.map V.int)->sp [.ref a] H (fun v _=>v=.bl true) fun _ _ _=>False)(T9:∀H e s',CX [] H s₁ (fun _ _ _=>False) e s'->False):codeAny (model P w) callerA (.call (.ref fa) ⟨[.ref a],[]⟩) (fun r s'=>r=.ok (.ret (.bool true))/\OldK s₁.heap s'.heap/\s'.os=s₁.os/\AllBare s'.gens) s₁:=by
 have rv:=oZ hi;have lenV:=hi.length--from an abstract heap in which nothing but the script may be tracked
 have core:∀H:Hp,Only H->dI K H a (ns.map V.int)->ji P w H s₁.heap->(∀b,H b≠none->b=a)->(H a≠none->K.lookup a=none)->codeAny (model P w) callerA (.call (.ref fa) ⟨[.ref a],[]⟩) (fun r s'=>r=.ok (.ret (.bool true))/\OldK s₁.heap s'.heap/\s'.os=s₁.os/\AllBare s'.gens) s₁:=by
  intro H hO hS hok hA hK;have xQ:∀{b:Addr}{o:Obj},s₁.heap.get? b=some o->H b=none->(qI s₁.heap H).get? b=some o:=fun e n=>Aa e n;have T6:∀{b:Addr}{o:Obj}{es:Array DictEntry}{ep:Nat},s₁.heap.get? b=some o->o.data=.dict es ep->H b=none:=fun{b o es ep}e d=>by cases q:H b with|none=>rfl|some u=>have e':b=a:=hA b (by rw[q];simp);subst e';rw[ha]at e;cases e;have d':Data.seq vs.toArray _=Data.dict es ep:=d;cases d'
  have Wd:∀{b:Addr}{m:Str->Option Value},s₁.heap.Ns b m->(qI s₁.heap H).Ns b m:=fun{b m}⟨o,es,ep,e,d,r⟩=>⟨o,es,ep,xQ e (T6 e d),d,r⟩;have hKb:K.In (qI s₁.heap H):=fun b o e=>xQ (KX b o e) (by cases q:H b with|none=>rfl|some u=>have e':b=a:=hA b (by rw[q];simp);subst e';rw[hK (by rw[q];simp)]at e;cases e);have hM:Mod K mg (qI s₁.heap H):=⟨hKb,Wd hns,⟨mb,Wd hb,hbb⟩,let⟨mc,h1,h2⟩:=hlim;⟨mc,Wd h1,h2⟩⟩;have e0:Hm P w K mg (qI s₁.heap H) callerA [] s₁ H:=⟨rfl,hM,fun b o e=>G8 e,Nat.le_of_eq (yV _ _),trivial,fun b hb=>absurd (show b∈([]:List Addr)from hb) (by simp),hok,.of_eq hg⟩;refine codeAny_mono ((F _ hKb (Wd hns)).run callerA [] s₁ H ⟨[.ref a],[]⟩ [.ref a] [.ref a] _ _ hr e0 (hbind s₁ (.ref a)) (.cons rfl .nil) (hsp H hO hS)) fun r s' h=>?_;cases r with|error e=>exact(T9 H e s' h).elim|ok fl=>cases fl with|next=>exact False.elim h|brk=>exact False.elim h|cont=>exact False.elim h|ret u=>obtain⟨v,H',os,bare,un,hok',r',q⟩:=h;have q':v=.bl true:=q;subst q';obtain rfl:u=Value.bool true:=r';refine⟨rfl,OldK.of_keep fun b o e=>?_,os,bare⟩;cases q:H b with|none=>exact un.keep b o e q (by intro z;exact absurd (show b∈([]:List Addr)from z) (by simp)) (by simp)|some u=>
        rcases hO b with z|⟨ob,xs,z⟩;.rw[q]at z;cases z
        .have z2:=un.lX b ob _ z;obtain⟨e1,_⟩:=hok b _ z;obtain⟨e2,_⟩:=hok' b _ z2;rw[e]at e1;cases e1;exact e2
 cases hk:K.lookup a with|some o=>--the script is one of the module's own objects
   have e:=KX a o hk;rw[ha]at e;cases e;refine core (fun _=>none) (fun _=>.inl rfl) (.inr ⟨_,vs.toArray,_,hk,rfl,rfl,rfl,by rw[List.size_toArray,lenV];exact hl,by simpa using rv⟩) (fun b u z=>by have z':(none:Option HO)=some u:=z;cases z') (fun b z=>absurd rfl z) fun z=>absurd rfl z|none=>
   refine core (fun b=>if b=a then some (.fc {cls:=.type "list",data:=.seq vs.toArray} (.lst (ns.map V.int)))else none) (fun b=>?_) (.inl (.inr ⟨{cls:=.type "list",data:=.seq vs.toArray},if_pos rfl⟩)) (fun b u z=>?_) (fun b z=>?_) fun _=>hk
   . by_cases hb:b=a;.exact .inr ⟨_,_,if_pos hb⟩
     .exact .inl (if_neg hb)
   . by_cases hb:b=a;.have z':=(if_pos hb).symm.trans z;cases z';subst hb;exact⟨ha,by rw[List.length_map];exact hl,vs,_,rv,ha⟩
     .have z':=(if_neg hb).symm.trans z;cases z'
   . by_cases hb:b=a;.exact hb
     .exact absurd (if_neg hb) z
end L2
namespace L2
open PySem PySem.Spec PyProof.Rows
theorem Fp{l:PySem.W.OpenLaw}{n k:Nat}{q:Program}{loose:List Str}{XP:(Str->Option Value)->Heap->Prop}{YP:World->Heap->Prop}{d:DefRec}{K:Params->PySem.W.Frag}{CX:World->zr}{sp:World->Sp}{x:Str}(hn:l.most=some n)(hn2:n<=sizeLine)(hdf:d.params.defaults=[])(hr:gn k callerA)(hY:∀(w:World)(h:Heap),YP w h->(K w.params).In h)(F:∀(w:World)(mg:Str->Option Value)(fa:Addr)(h:Heap),(K w.params).In h->h.Ns mainGlobals mg->mg d.name=some (.ref fa)->∃ fd:FuncData,(∀(s:Shared)(u:Value),BindsTo s fd ⟨[u],[]⟩ [(x,u)])/\∀base:Heap,(K w.params).In base->base.Ns mainGlobals mg->dw l.prog w (K w.params) mg base (CX w) k fa fd [x] (sp w))(hsp:∀(w:World)(H:Hp)(a:Addr)(ns:List Int),ns.length<=n->Only H->dI (K w.params) H a (ns.map V.int)->sp w [.ref a] H (fun v _=>v=.bl true) fun _ _ _=>False)(T9:∀(w:World)(H:Hp)(s:Shared)(e:Value)(s':Shared),CX w [] H s (fun _ _ _=>False) e s'->False):PySem.W.WalkO q loose XP YP l.row.toRowW d [] (fun f vs=>PySem.call f vs):=by refine Att.ug hn hdf fun w s₀ s₁ mg mb fa o pm cd doc a vs ns G Y ho hd hcd hmg hobj hints hlen hg=>?_;have KX:=hY w _ Y;obtain⟨fd,hb,hF⟩:=F w mg fa _ KX G.T.g hmg;exact Ai KX G.T.g G.T.b G.T.builtins G.T.nolimit hg hobj hints (Nat.le_trans hlen hn2) hr hF hb (fun H hO hS=>hsp w H a ns hlen hO hS) fun H e s'=>T9 w H s₁ e s'
theorem Ci{l:PySem.W.OpenLaw}{n k:Nat}{q:Program}{loose:List Str}{XP:(Str->Option Value)->Heap->Prop}{YP:World->Heap->Prop}{d:DefRec}{K:Params->PySem.W.Frag}{CX:zr}{sp:PySem.W.Frag->Sp}{x:Str}(hn:l.most=some n)(hn2:n<=sizeLine)(hdf:d.params.defaults=[])(hr:gn k callerA)(hY:∀(w:World)(h:Heap),YP w h->(K w.params).In h)(F:∀(w:World)(mg:Str->Option Value)(fa:Addr)(h:Heap),(K w.params).In h->h.Ns mainGlobals mg->mg d.name=some (.ref fa)->∃ fd:FuncData,(∀(s:Shared)(u:Value),BindsTo s fd ⟨[u],[]⟩ [(x,u)])/\∀base:Heap,(K w.params).In base->base.Ns mainGlobals mg->dw l.prog w (K w.params) mg base CX k fa fd [x] (sp (K w.params)))(hsp:∀(K:PySem.W.Frag)(H:Hp)(a:Addr)(ns:List Int),ns.length<=n->Only H->dI K H a (ns.map V.int)->sp K [.ref a] H (fun v _=>v=.bl true) fun _ _ _=>False)(T9:∀(H:Hp)(s:Shared)(e:Value)(s':Shared),CX [] H s (fun _ _ _=>False) e s'->False):PySem.W.WalkO q loose XP YP l.row.toRowW d [] (fun f vs=>PySem.call f vs):=Fp (K:=K) (CX:=fun _=>CX) (sp:=fun w=>sp (K w.params)) hn hn2 hdf hr hY F (fun w H a ns h1 h2 h3=>hsp (K w.params) H a ns h1 h2 h3) fun _ H s e s'=>T9 H s e s'
end L2/-THE LAST THEOREM(shape;LID,My.*are abd):My.Adr:a structure of the addresses that your layer names(classes,functions);My.Txt K t:a structure(Prop)of the equations over K;My.Zh:{K}{implicit addresses..}(e1:nsIn K mainGlobals"law"=some(some(.ref f)))(e2:K.lookup f=some⟨oc,od,.func(fnOf"law""law"params body scope dV kV doc pm an cdv ct),sl⟩)(e3:codeIn K cdv"law"=true)..:∃t,My.Txt K t;set_option maxRecDepth 100000 in;set_option maxHeartbeats 0 in(the tactic k_is has no namespace:write k_is)-/
namespace L2
open PySem PySem.Spec PyProof.Rows
noncomputable def eH(s:Stmt):Arguments:=match s with|.FunctionDef _ a _ _ _ _ _ _ _ _=>a|_=>{posonlyargs:=[],args:=[],vararg:=none,kwonlyargs:=[],kw_defaults:=[],kwarg:=none,defaults:=[]}
noncomputable def cR(s:Stmt):List Stmt:=match s with|.FunctionDef _ _ b _ _ _ _ _ _ _=>b|_=>[]
noncomputable def aG(s:Stmt):Scope:=match s with|.FunctionDef _ _ _ _ _ _ sc _ _ _=>sc|_=>{kind:=.function,names:=[],isGenerator:=false,isCoroutine:=false}
noncomputable abbrev oM:zr:=fun _ _ _ _ _ _=>False
noncomputable abbrev E0:XK:=fun _ _ _=>False
theorem TQ{X:Cx}:Passes oM X E0:=fun _ _ _ _ _ _ _ h=>h.elim
structure nY(K:PySem.W.Frag)(x qual:Str)(st:Stmt)(f:Addr)(fd:FuncData):Prop where
 ex:∃(oc:Value)(od:Option Addr)(kV doc pm:Value)(an:Option Addr)(cdv ct:Value)(osl:Array (Option Value)),fd=PySem.W.fnOf x qual (eH st) (cR st) (aG st) .none kV doc pm an cdv ct/\K.lookup f=some ⟨oc,od,.func fd,osl⟩/\PySem.W.codeIn K cdv qual=true
 kp:PySem.W.keepIn K (.ref f)=true
section
variable{P:Program}{w:World}{K:PySem.W.Frag}{mg:Str->Option Value}{base:Heap}
theorem nY.ok{x qual:Str}{st:Stmt}{f:Addr}{fd:FuncData}{N ps:List Str}{k:Nat}{sp:Sp}(F:nY K x qual st f fd)(S:bN N ps (aG st))(len:∀vs H Q E,sp vs H Q E->vs.length=ps.length)(hbody:∀(cdv:Value)(A:Around)(outer:List Env)(s:Shared)(H:Hp)(vs:List V)(Q:VK)(E:XK),gn k (A.deeper (envOfC qual (aG st) s.heap.objs.size f cdv))->sp vs H Q E->∃t,lL (km oM P w K mg base N qual (aG st) f cdv A outer s H E).Qy (cR st) t/\t {nx:=fun _ H'=>Q .non H',rt:=Q} (start N vs) H):dw P w K mg base oM (k+1) f fd ps sp:=by obtain⟨oc,od,kV,doc,pm,an,cdv,ct,osl,rfl,lk,hcd⟩:=F.ex;refine HY lk hcd S len fun A outer s H vs Q E hr hsp=>?_;obtain⟨t,h,q⟩:=hbody cdv A outer s H vs Q E hr hsp;exact⟨t,h.Qy,q⟩
theorem nY.binds{x qual:Str}{st:Stmt}{f:Addr}{fd:FuncData}{ps:List Str}(F:nY K x qual st f fd)(h:∀(kV doc pm:Value)(an:Option Addr)(cdv ct:Value)(us:List Value),us.length=ps.length->bindArgs (PySem.W.fnOf x qual (eH st) (cR st) (aG st) .none kV doc pm an cdv ct) ⟨us,[]⟩=pure (ps.zip us)):Binds K fd ps []:=by obtain⟨oc,od,kV,doc,pm,an,cdv,ct,osl,rfl,lk,hcd⟩:=F.ex;exact .all (h kV doc pm an cdv ct)
theorem Le{x qual:Str}{st:Stmt}{f:Addr}{oc:Value}{od an:Option Addr}{osl:Array (Option Value)}{kV doc pm cdv ct:Value}(l:K.lookup f=some ⟨oc,od,.func (PySem.W.fnOf x qual (eH st) (cR st) (aG st) .none kV doc pm an cdv ct),osl⟩)(c:PySem.W.codeIn K cdv qual=true)(k:PySem.W.keepIn K (.ref f)=true):nY K x qual st f (PySem.W.fnOf x qual (eH st) (cR st) (aG st) .none kV doc pm an cdv ct):=⟨⟨oc,od,kV,doc,pm,an,cdv,ct,osl,rfl,l,c⟩,k⟩
end
noncomputable def aF(H H':Hp):Prop:=∀b o,H b=some o->H' b=some o
theorem aF.refl(H:Hp):aF H H:=fun _ _ h=>h
theorem aF.trans{H H1 H2:Hp}(a:aF H H1)(b:aF H1 H2):aF H H2:=fun c o h=>b c o (a c o h)
theorem aF.seq{K:PySem.W.Frag}{H H':Hp}{a:Addr}{xs:List V}(e:aF H H')(h:dI K H a xs):dI K H' a xs:=by
 rcases h with(h|⟨o,h⟩)|h;.exact .inl (.inl (e _ _ h))
 .exact .inl (.inr ⟨o,e _ _ h⟩)
 .exact .inr h
end L2
end
section
namespace HH
open PySem
inductive Dc where|k(kvs:List (Int×Int))|t(kvs:List (List Int×Int))deriving DecidableEq
inductive D where|non|bl(b:Bool)|int(i:Int)|str(s:Str)|tup(ds:List D)|lst(ds:List D)|cZ(m:Dc)|dv(ks:List Int)(ds:List D)deriving Inhabited
mutual
noncomputable def bw:D->D->Bool|.non,.non=>true|.bl a,.bl b=>a==b|.bl a,.int i=>(if a then(1:Int)else 0)==i|.int i,.bl a=>i==(if a then(1:Int)else 0)|.int i,.int j=>i==j|.str a,.str b=>a==b|.tup xs,.tup ys=>fj xs ys|.lst xs,.lst ys=>fj xs ys|.cZ a,.cZ b=>decide (a=b)|.dv a xs,.dv b ys=>decide (a=b)&&fj xs ys|_,_=>false
noncomputable def fj:List D->List D->Bool|[],[]=>true|x::xs,y::ys=>bw x y&&fj xs ys|_,_=>false
end
noncomputable def cH:Nat->D->Bool|_,.non=>true|_,.bl _=>true|_,.int _=>true|_,.str _=>true|0,.tup _=>false|0,.lst _=>false|_,.cZ _=>false|_,.dv _ _=>false|n+1,.tup ds=>ds.all (cH n)|n+1,.lst ds=>ds.all (cH n)
inductive Sl where|bC|val(b:Bool)(d:D)|own(b:Bool)(ds:List D)|lent(ds:List D)|j7(m:Dc)|hold(rows:List (List D))|iZ(kvs:List (Int×D))deriving Inhabited
inductive R where|val(d:D)|own(ds:List D)deriving Inhabited
noncomputable def R.d:R->D|.val d=>d|.own ds=>.lst ds
inductive Res(α:Type)where|ok(a:α)(ρ:List Sl)|exc(k:Nat)(ρ:List Sl)|stuck deriving Inhabited
noncomputable def Res.bind{α β:Type}(f:α->List Sl->Res β):Res α->Res β|.ok a ρ=>f a ρ|.exc _ _=>.stuck|.stuck=>.stuck
noncomputable def lift{α:Type}(o:Option α)(ρ:List Sl):Res α:=match o with|some a=>.ok a ρ|none=>.stuck
inductive Op where|add|sub|mul|fdiv|mod|pow|shl|shr|band|Zi|din|Zj deriving DecidableEq
inductive Cm where|eq|ne|lt|le|gt|ge|Ua|Ub|inn|pO|isT|Uc|leT deriving DecidableEq
inductive Ty where|int|bool|str|tuple|list|none deriving DecidableEq
inductive Ve where|len|list|tuple|min2|max2|Ud|Ue|sum|all|any|sorted|abs|int|Zk|Zm|Jp|rvs|Zn|keys|Ug|Nr|Zo|sset|lkT|lkK|Zq|Nt|rvT|Zr|Zt|Zu deriving DecidableEq
inductive P where|var(i:Nat)|con(d:D)|glob(x:Str)(d:D)|bin(o:Op)(a b:P)|neg(a:P)|not(a:P)|and(a b:P)|or(a b:P)|cmp(o:Cm)(a b:P)|chain(o o':Cm)(a b c:P)|Nu(o o' o2:Cm)(a b c d:P)|ife(c a b:P)|tup(as:List P)|lst(as:List P)|idx(a i:P)|slice(a lo hi:P)|call(f:Nat)(as:List P)|blt(b:Ve)(as:List P)|inst(ts:List Ty)(a:P)|pop(x:Nat)|comp(src:P)(n:Nat)(is:List Nat)(one:Bool)(test:Option P)(elt:P)|zj(a b:P)|Uh(a:P)|zip(a b:P)|rev(a:P)|uw(i:Nat)(b:P)(n:Nat)(is:List Nat)(one:Bool)(test:Option P)(elt:P)|dgo(x:Nat)(k d:P)|vw(x:Nat)|dgT(x:Nat)(ks:List P)|Zv(x:Nat)(ks:List P)(d:P)|vgo(x:Nat)(k:P)|vin(x:Nat)(k:P)(neg:Bool)|Zw(k e:Int)|Ui(k e:Int)(p q:P)|lix(x:Nat)(e:P)|Uj(i:Nat)(a:P)(n:Nat)(is:List Nat)(one:Bool)(test:Option P)(elt:P)deriving Inhabited
noncomputable abbrev lim:Nat:=16777216
noncomputable def mZ:D->D->Option R|.int i,.int j=>some (.val (.int (i+j)))|.lst xs,.lst ys=>if xs.length+ys.length<=lim then some (.own (xs++ys))else none|.tup xs,.tup ys=>if xs.length+ys.length<=lim then some (.val (.tup (xs++ys)))else none|.str x,.str y=>if x.length+y.length<=lim then some (.val (.str (x++y)))else none|_,_=>none
noncomputable def oA:D->D->Option R|.int i,.int j=>if((-18446744073709551616<i/\i<18446744073709551616)\/(-18446744073709551616<j/\j<18446744073709551616))then some (.val (.int (i*j)))else none|.lst xs,.int k=>if 0<=k/\0<xs.length/\xs.length*k.toNat<=lim then some (.own (List.replicate k.toNat xs).flatten)else none|.tup xs,.int k=>if 0<=k/\0<xs.length/\xs.length*k.toNat<=lim then some (.val (.tup (List.replicate k.toNat xs).flatten))else none|_,_=>none
noncomputable def sI:D->D->Option R|.int i,.int j=>some (.val (.int (i-j)))|_,_=>none
noncomputable def nM:D->D->Option R|.int i,.int j=>if 0<j/\j<1606938044258990275541962092341162602522202993782792835301376 then some (.val (.int (i/j)))else none|_,_=>none
noncomputable def tU:D->D->Option R|.int i,.int j=>if 0<j then some (.val (.int (i%j)))else none|_,_=>none
noncomputable def rN:D->D->Option R|.int i,.int j=>if 0<=j/\j<=1000/\i.natAbs<18446744073709551616 then some (.val (.int (i^j.toNat)))else none|_,_=>none
noncomputable def Ad:D->D->Option R|.int i,.int j=>if 0<=j/\j<=1000/\i.natAbs<18446744073709551616 then some (.val (.int (i*2^j.toNat)))else none|_,_=>none
noncomputable def zB:D->D->Option R|.int i,.int j=>if 0<=j then some (.val (.int (i/2^j.toNat)))else none|_,_=>none
noncomputable def uH:D->D->Option R|.int i,.int j=>some (.val (.int (Builtin.bitAnd i j)))|_,_=>none
noncomputable def flat:D->Bool|.tup _=>false|.lst _=>false|.cZ _=>false|.dv _ _=>false|_=>true
noncomputable def items:D->Option (List D)|.lst ds=>some ds|.tup ds=>some ds|_=>none
noncomputable def Dm:D->Option (List D)|.tup ds=>some ds|_=>none
noncomputable def BR(x y:D):Option Bool:=if cH 8 x&&cH 8 y then some (bw x y)else none
noncomputable def qK(x y:D):Option Bool:=if cH 8 x&&cH 8 y then some (!bw x y)else none
noncomputable def Dz(f:Int->Int->Bool):D->D->Option Bool|.int i,.int j=>some (f i j)|_,_=>none
noncomputable def gV:D->Bool|.non=>true|_=>false
noncomputable def U0(neg:Bool)(x:D):D->Option Bool|.non=>some (if neg then !gV x else gV x)|_=>none
noncomputable def mR(neg:Bool)(x y:D):Option Bool:=(items y).bind fun ys=>if(flat x&&ys.all flat)=true then some (if neg then !(ys.any fun y=>bw y x)else ys.any fun y=>bw y x)else none
noncomputable def cmT(neg:Bool):D->D->Option Bool|.bl b,.bl true=>some (if neg then !b else b)|_,_=>none
noncomputable def aY:List Int->List Int->Bool|[],_::_=>true|i::is,j::js=>decide (i<j)||(decide (i=j)&&aY is js)|_,[]=>false
noncomputable def jd:D->Int|.int i=>i|_=>0
noncomputable def bH:D->List Int|.int i=>[i]|.tup ds=>ds.map jd|_=>[]
noncomputable def dC:D->Bool|.int _=>true|_=>false
noncomputable def Dc.get:Dc->D->Option (Option Int)|.k kvs,.int i=>some ((kvs.find? fun kv=>decide (kv.1=i)).map (·.2))|_,_=>none
noncomputable def putD{κ:Type}[DecidableEq κ](kvs:List (κ×Int))(k:κ)(v:Int):List (κ×Int):=if(kvs.any fun kv=>decide (kv.1=k))=true then kvs.map (fun kv=>if kv.1=k then(kv.1,v)else kv)else kvs++[(k,v)]
noncomputable def Dc.put:Dc->D->Int->Option Dc|.k kvs,.int i,v=>if kvs.length<lim then some (.k (putD kvs i v))else none|_,_,_=>none
noncomputable def Dc.Rp:Dc->List D->Option (Option Int)|.t kvs,ds=>if ds.all dC=true then some ((kvs.find? fun kv=>decide (kv.1=ds.map jd)).map (·.2))else none|_,_=>none
noncomputable def Dc.W5:Dc->List D->Int->Option Dc|.t kvs,ds,v=>if ds.all dC=true/\kvs.length<lim then some (.t (putD kvs (ds.map jd) v))else none|_,_,_=>none
noncomputable def Rg:D->List D->Option R|.cZ m,ks=>(m.Rp ks).bind fun o=>o.map fun v=>.val (.int v)|_,_=>none
noncomputable def Rj(kvs:List (Int×D))(k:Int):Option D:=(kvs.find? fun p=>decide (p.1=k)).map (·.2)
noncomputable def Mq(kvs:List (Int×D))(k:Int)(d:D):List (Int×D):=if(kvs.any fun p=>decide (p.1=k))=true then kvs.map (fun p=>if p.1=k then(p.1,d)else p)else kvs++[(k,d)]
noncomputable def Rh(neg:Bool):D->D->Option R|.int k,.dv ks _=>some (.val (.bl (if neg then !ks.contains k else ks.contains k)))|_,_=>none
noncomputable def Rf:D->D->Option R|.cZ m,k=>(m.get k).bind fun o=>o.map fun v=>.val (.int v)|.dv ks ds,.int k=>(Rj (ks.zip ds) k).map .val|_,_=>none
noncomputable def tK:Op->D->D->Option R|.add=>mZ|.mul=>oA|.sub=>sI|.fdiv=>nM|.mod=>tU|.pow=>rN|.shl=>Ad|.shr=>zB|.band=>uH|.Zi=>Rf|.din=>Rh false|.Zj=>Rh true
noncomputable def Ru:D->D->Option Bool|.int i,.int j=>some (decide (i<j))|.tup xs,.tup ys=>if(xs.all dC&&ys.all dC)=true then some (aY (xs.map jd) (ys.map jd))else none|_,_=>none
noncomputable def Xx:D->D->Option Bool|.int i,.int j=>some (decide (i<=j))|.tup xs,.tup ys=>if(xs.all dC&&ys.all dC)=true then some (!aY (ys.map jd) (xs.map jd))else none|_,_=>none
noncomputable def cm:Cm->D->D->Option Bool|.eq=>BR|.ne=>qK|.lt=>Ru|.le=>Dz fun i j=>decide (i<=j)|.leT=>Xx|.gt=>Dz fun i j=>decide (j<i)|.ge=>Dz fun i j=>decide (j<=i)|.Ua=>U0 false|.Ub=>U0 true|.inn=>mR false|.pO=>mR true|.isT=>cmT false|.Uc=>cmT true
noncomputable def rH(o:Cm)(x y:D):Option R:=(cm o x y).map fun k=>.val (.bl k)
noncomputable def stD(ks:List Int)(k:Int):List Int:=if ks.contains k=true then ks else ks++[k]
noncomputable def QT(ns:List Int):List Int:=ns.foldl stD []
noncomputable def jk(n:Nat)(i:Int):Option Nat:=if 0<=i then(if i<n then some i.toNat else none)else if-(n:Int)<=i then some (i+n).toNat else none
noncomputable def at'{α:Type}(xs:List α)(i:Int):Option α:=(jk xs.length i).bind fun j=>xs[j]?
noncomputable def cN(n d:Nat):Option Int->Nat|none=>d|some i=>if 0<=i then min i.toNat n else(i+n).toNat
noncomputable def cut{α:Type}(xs:List α)(lo hi:Option Int):List α:=(xs.drop (cN xs.length 0 lo)).take (cN xs.length xs.length hi-cN xs.length 0 lo)
noncomputable def optI:D->Option (Option Int)|.non=>some none|.int i=>some (some i)|_=>none
noncomputable def fL:D->Option Int|.int i=>some i|_=>none
noncomputable def tM:D->Option Bool|.bl b=>some b|_=>none
noncomputable def dl2(k e:Int)(x y:D):Option R:=(fL x).bind fun i=>(fL y).bind fun j=>if i=k then none else some (.val (.dv [k,i] [.int e,.int j]))
noncomputable def WW:D->D->Option R|.lst ds,.int i=>(ds.mapM fL).bind fun ns=>if i∈ns/\ns.length<=1000 then some (.val (.int (ns.idxOf i)))else none|_,_=>none
noncomputable def zx(x y:D):Option R:=(items x).bind fun ds=>(fL y).bind fun i=>(at' ds i).map .val
noncomputable def Hb(x:D):Option R:=(fL x).map fun i=>.val (.int (-i))
noncomputable def Tz:P->Bool|.con .non=>true|_=>false
noncomputable def part(p:P)(d:D):Option (Option Int):=if Tz p then some none else(fL d).map some
noncomputable def Lp:D->Option (Option Int)->Option (Option Int)->Option R|.lst xs,some lo,some hi=>some (.own (cut xs lo hi))|.tup xs,some lo,some hi=>some (.val (.tup (cut xs lo hi)))|_,_,_=>none
noncomputable def bQ:Ty->D->Bool|.int,.int _=>true|.int,.bl _=>true|.bool,.bl _=>true|.str,.str _=>true|.tuple,.tup _=>true|.list,.lst _=>true|.none,.non=>true|_,_=>false
noncomputable def nj:D->Bool|.tup (x::xs)=>(x::xs).all dC|_=>false
noncomputable def sortable(ds:List D):Bool:=decide (ds.length<=16777216)&&(ds.all dC||ds.all nj)
noncomputable def j5(ds:List D):List D:=ds.mergeSort fun a b=>!aY (bH b) (bH a)
noncomputable def lu:D->Option (List D)|.lst ds=>some ds|_=>none
noncomputable def prD(p:Int×Int):D:=.tup [.int p.1,.int p.2]
noncomputable def blt:Ve->List D->Option R|.len,[x]=>(items x).map fun ds=>.val (.int ds.length)|.list,[x]=>(items x).map fun ds=>.own ds|.tuple,[x]=>(items x).map fun ds=>.val (.tup ds)|.min2,[.int i,.int j]=>some (.val (.int (if j<i then j else i)))|.max2,[.int i,.int j]=>some (.val (.int (if i<j then j else i)))|.Ud,[x]=>((items x).bind fun ds=>ds.mapM fL).bind fun ns=>ns.min?.map fun i=>.val (.int i)|.Ue,[x]=>((items x).bind fun ds=>ds.mapM fL).bind fun ns=>ns.max?.map fun i=>.val (.int i)|.sum,[x]=>((items x).bind fun ds=>ds.mapM fL).map fun ns=>.val (.int ns.sum)|.Zk,[x]=>((items x).bind fun ds=>ds.mapM fL).map fun ns=>.val (match ns.min? with|some i=>.int i|none=>.non)|.Zm,[x]=>((items x).bind fun ds=>ds.mapM fL).map fun ns=>.val (match ns.max? with|some i=>.int i|none=>.non)|.Zu,[x]=>((items x).bind fun ds=>ds.mapM fL).map fun ns=>.val (.int (ns.max?.getD 0))|.all,[x]=>((lu x).bind fun ds=>ds.mapM tM).map fun bs=>.val (.bl (bs.all id))|.any,[x]=>((lu x).bind fun ds=>ds.mapM tM).map fun bs=>.val (.bl (bs.any id))|.sorted,[x]=>(lu x).bind fun ds=>if sortable ds then some (.own (j5 ds))else none|.abs,[.int i]=>some (.val (.int (if i<0 then-i else i)))|.int,[.int i]=>some (.val (.int i))|.int,[.bl b]=>some (.val (.int (if b then 1 else 0)))|.Jp,[.lst ds]=>if ds.length<=16777216 then some (.own ds)else none|.rvs,[.tup ds]=>some (.val (.tup ds.reverse))|.Zn,[.lst ds]=>some (.own ds.reverse)|.keys,[.cZ (.k kvs)]=>some (.val (.tup (kvs.map fun p=>.int p.1)))|.keys,[.dv ks _]=>some (.val (.tup (ks.map D.int)))|.Nr,[.cZ (.t kvs)]=>if sortable (kvs.map fun p=>.tup (p.1.map D.int))then some (.own (j5 (kvs.map fun p=>.tup (p.1.map D.int))))else none|.Zo,[.cZ (.t kvs)]=>if sortable (kvs.map fun p=>.tup (p.1.map D.int))then some (.own (j5 (kvs.map fun p=>.tup (p.1.map D.int))))else none|.sset,[.lst ds]=>if ds.length<64/\ds.all dC=true then some (.own (j5 ((QT (ds.map jd)).map D.int)))else none|.sset,[.tup ds]=>if ds.length<64/\ds.all dC=true then some (.own (j5 ((QT (ds.map jd)).map D.int)))else none|.lkT,[.cZ (.t kvs)]=>if kvs.length<=16777216 then some (.own (kvs.map fun p=>.tup (p.1.map D.int)))else none|.lkK,[.dv ks _]=>if ks.length<=16777216 then some (.own (ks.map D.int))else none|.rvT,[.lst ds]=>some (.val (.tup ds.reverse))|.Zq,[.lst ds]=>some (.own ds.reverse)|.Nt,[.dv ks _]=>if ks.length<64 then some (.own (j5 (ks.map D.int)))else none|.Zr,[.cZ (.k kvs)]=>if kvs.length<=16777216/\kvs.Pairwise (fun a b=>a.1<b.1)then some (.own (kvs.map prD))else none|.Zt,[.cZ (.k kvs)]=>if kvs.length<64 then some (.own (j5 (kvs.map prD)))else none|.Ug,[.cZ (.k kvs)]=>if sortable (kvs.map fun p=>.int p.1)then some (.own (j5 (kvs.map fun p=>.int p.1)))else none|_,_=>none
noncomputable def pk(ρ:List Sl)(i:Nat):Option D:=match ρ[i]?with|some (.val _ d)=>some d|some (.own _ ds)=>some (.lst ds)|some (.lent ds)=>some (.lst ds)|_=>none
noncomputable def Al(ρ:List Sl)(i:Nat):Option (List D):=match pk ρ i with|some (.lst ds)=>some ds|_=>none
noncomputable abbrev Ev:=List Sl->Res R
noncomputable def isVar:P->Option Nat|.var i=>some i|_=>none
noncomputable def cX(i:Option Nat)(e:Ev)(ρ:List Sl):Res D:=match i with|some i=>lift (pk ρ i) ρ|none=>(e ρ).bind fun r ρ=>.ok r.d ρ
noncomputable def kJ(i:Option Nat)(e:Ev)(j:Option Nat)(f:Ev)(ρ:List Sl):Res (D×D):=match i with|some i=>(lift (pk ρ i) ρ).bind fun _ ρ=>(cX j f ρ).bind fun y ρ=>(lift (pk ρ i) ρ).bind fun x ρ=>.ok (x,y) ρ|none=>(cX none e ρ).bind fun x ρ=>(cX j f ρ).bind fun y ρ=>.ok (x,y) ρ
noncomputable def fO(e:Ev)(ρ:List Sl):Res Bool:=(e ρ).bind fun r ρ=>lift (tM r.d) ρ
inductive Arg where|dat(d:D)|tmp(ds:List D)|dZ(i:Nat)
noncomputable def rQ:R->Arg|.val d=>.dat d|.own ds=>.tmp ds
noncomputable def bj(ρ:List Sl):List Arg->List Nat->Option (List Sl)|[],_=>some []|.dat d::r,used=>(bj ρ r used).map fun s=>.val false d::s|.tmp ds::r,used=>(bj ρ r used).map fun s=>.own false ds::s|.dZ i::r,used=>match ρ[i]?with|some (.val _ d)=>(bj ρ r used).map fun s=>.val false d::s|some (.own _ ds)=>if used.contains i then none else(bj ρ r (i::used)).map fun s=>.own true ds::s|some (.lent ds)=>if used.contains i then none else(bj ρ r (i::used)).map fun s=>.lent ds::s|_=>none
noncomputable def aP(i:Nat):List Arg->List Sl->Option Sl|.dZ k::as,s::ss=>if k=i then some s else aP i as ss|.dat _::as,_::ss=>aP i as ss|.tmp _::as,_::ss=>aP i as ss|_,_=>none
noncomputable def dU:Sl->Option Sl->Sl|.own b _,some (.own _ ds)=>.own b ds|.own b _,some (.val _ d)=>.val b d|s,_=>s
noncomputable def bY(as:List Arg)(ss:List Sl):Nat->List Sl->List Sl|_,[]=>[]|i,s::ρ=>dU s (aP i as ss)::bY as ss (i+1) ρ
noncomputable abbrev Call:=Nat->List Sl->Res R
noncomputable def gK(c:Call)(f:Nat)(as:List Arg)(ρ:List Sl):Res R:=match bj ρ as []with|none=>.stuck|some args=>match c f args with|.ok r args'=>.ok r (bY as args' 0 ρ)|.exc _ _=>.stuck|.stuck=>.stuck
noncomputable def put(ρ:List Sl)(i:Nat)(s:Sl):Option (List Sl):=match ρ[i]?with|some .bC=>some (ρ.set i s)|some (.val false _)=>some (ρ.set i s)|some (.own false _)=>some (ρ.set i s)|_=>none
noncomputable def putAll(ρ:List Sl):List Nat->List D->Option (List Sl)|[],[]=>some ρ|i::is,d::ds=>(put ρ i (.val false d)).bind fun ρ=>putAll ρ is ds|_,_=>none
noncomputable def bW(ρ:List Sl)(is:List Nat)(one:Bool)(d:D):Option (List Sl):=match one,is,d with|true,[i],d=>put ρ i (.val false d)|false,is,.tup ds=>putAll ρ is ds|_,_,_=>none
noncomputable def srcOf(i:Option Nat)(e:Ev)(ρ:List Sl):Res (List D):=match i with
 |some i=>match ρ[i]?with|some (.val _ d)=>lift (items d) ρ|some (.own _ ds)=>.ok ds (ρ.set i (.lent ds))|some (.lent ds)=>.ok ds ρ|_=>.stuck
 |none=>(e ρ).bind fun r ρ=>lift (items r.d) ρ
noncomputable def aR(ρ₀:List Sl)(i:Option Nat)(ρ:List Sl):List Sl:=match i with
 |some i=>match ρ₀[i]?with|some (.own b ds)=>ρ.set i (.own b ds)|_=>ρ
 |none=>ρ
noncomputable def G7(i:Nat)(f:Ev)(ρ:List Sl):Res (List D×List Sl):=(lift (pk ρ i) ρ).bind fun _ ρ=>(f ρ).bind fun r ρb=>(lift (items r.d) ρb).bind fun es ρb=>match ρb[i]?with|some (.val _ d)=>(lift (items d) ρb).bind fun ds ρb=>.ok ((ds.zip es).map fun p=>D.tup [p.1,p.2],ρb) ρb|some (.own _ ds)=>.ok ((ds.zip es).map fun p=>D.tup [p.1,p.2],ρb) (ρb.set i (.lent ds))|some (.lent ds)=>.ok ((ds.zip es).map fun p=>D.tup [p.1,p.2],ρb) ρb|_=>.stuck
noncomputable def Yd(i:Nat)(f:Ev)(ρ:List Sl):Res (List D×List Sl):=(f ρ).bind fun r ρb=>(lift (items r.d) ρb).bind fun es ρb=>match ρb[i]?with|some (.val _ d)=>(lift (items d) ρb).bind fun ds ρb=>.ok ((es.zip ds).map fun p=>D.tup [p.1,p.2],ρb) ρb|some (.own _ ds)=>.ok ((es.zip ds).map fun p=>D.tup [p.1,p.2],ρb) (ρb.set i (.lent ds))|some (.lent ds)=>.ok ((es.zip ds).map fun p=>D.tup [p.1,p.2],ρb) ρb|_=>.stuck
noncomputable def turns(is:List Nat)(one:Bool)(test:List Sl->Res Bool)(elt:Ev):List D->List D->List Sl->Res (List D)|[],acc,ρ=>.ok acc ρ|d::r,acc,ρ=>match bW ρ is one d with|none=>.stuck|some ρ=>(test ρ).bind fun b ρ=>if b then(elt ρ).bind fun x ρ=>turns is one test elt r (acc++[x.d]) ρ else turns is one test elt r acc ρ
mutual
noncomputable def ev(c:Call):P->List Sl->Res R
 |.var i,ρ=>match ρ[i]?with|some (.val _ d)=>.ok (.val d) ρ|some (.own b ds)=>.ok (.val (.lst ds)) (ρ.set i (.val b (.lst ds)))|some (.j7 (.k kvs))=>.ok (.val (.cZ (.k kvs))) (ρ.set i (.val false (.cZ (.k kvs))))|some (.iZ kvs)=>.ok (.val (.dv (kvs.map (·.1)) (kvs.map (·.2)))) (ρ.set i (.val false (.dv (kvs.map (·.1)) (kvs.map (·.2)))))|_=>.stuck
 |.con d,ρ=>.ok (.val d) ρ|.glob _ d,ρ=>.ok (.val d) ρ|.bin o a b,ρ=>(kJ (isVar a) (ev c a) (isVar b) (ev c b) ρ).bind fun xy ρ=>lift (tK o xy.1 xy.2) ρ|.neg a,ρ=>(cX (isVar a) (ev c a) ρ).bind fun x ρ=>lift (Hb x) ρ|.not a,ρ=>(fO (ev c a) ρ).bind fun b ρ=>.ok (.val (.bl (!b))) ρ|.and a b,ρ=>(fO (ev c a) ρ).bind fun x ρ=>if x then(fO (ev c b) ρ).bind fun y ρ=>.ok (.val (.bl y)) ρ else .ok (.val (.bl false)) ρ|.or a b,ρ=>(fO (ev c a) ρ).bind fun x ρ=>if x then .ok (.val (.bl true)) ρ else(fO (ev c b) ρ).bind fun y ρ=>.ok (.val (.bl y)) ρ|.cmp o a b,ρ=>(kJ (isVar a) (ev c a) (isVar b) (ev c b) ρ).bind fun xy ρ=>lift (rH o xy.1 xy.2) ρ|.chain o o' a b d,ρ=>(kJ (isVar a) (ev c a) (isVar b) (ev c b) ρ).bind fun xy ρ=>(lift (if flat xy.2=true then cm o xy.1 xy.2 else none) ρ).bind fun k ρ=>if k then(cX (isVar d) (ev c d) ρ).bind fun z ρ=>lift (rH o' xy.2 z) ρ else .ok (.val (.bl false)) ρ|.Nu o o' o2 a b d e,ρ=>(kJ (isVar a) (ev c a) (isVar b) (ev c b) ρ).bind fun xy ρ=>(lift (if flat xy.2=true then cm o xy.1 xy.2 else none) ρ).bind fun k ρ=>if k then(cX (isVar d) (ev c d) ρ).bind fun z ρ=>(lift (if flat z=true then cm o' xy.2 z else none) ρ).bind fun k2 ρ=>if k2 then(cX (isVar e) (ev c e) ρ).bind fun u ρ=>lift (rH o2 z u) ρ else .ok (.val (.bl false)) ρ else .ok (.val (.bl false)) ρ|.ife t a b,ρ=>(fO (ev c t) ρ).bind fun k ρ=>if k then(ev c a ρ).bind fun r ρ=>.ok (.val r.d) ρ else(ev c b ρ).bind fun r ρ=>.ok (.val r.d) ρ|.tup as,ρ=>(evs c as ρ).bind fun ds ρ=>.ok (.val (.tup ds)) ρ|.lst as,ρ=>(evs c as ρ).bind fun ds ρ=>.ok (.own ds) ρ|.idx a i,ρ=>(kJ (isVar a) (ev c a) (isVar i) (ev c i) ρ).bind fun xy ρ=>lift (zx xy.1 xy.2) ρ|.slice a l h,ρ=>match isVar a with|some i=>(lift (pk ρ i) ρ).bind fun _ ρ=>(cX (isVar l) (ev c l) ρ).bind fun y ρ=>(cX (isVar h) (ev c h) ρ).bind fun z ρ=>(lift (pk ρ i) ρ).bind fun x ρ=>lift (Lp x (part l y) (part h z)) ρ|none=>(cX none (ev c a) ρ).bind fun x ρ=>(cX (isVar l) (ev c l) ρ).bind fun y ρ=>(cX (isVar h) (ev c h) ρ).bind fun z ρ=>lift (Lp x (part l y) (part h z)) ρ
 |.call f as,ρ=>(rF c as ρ).bind fun xs ρ=>gK c f xs ρ|.blt b [a],ρ=>(cX (isVar a) (ev c a) ρ).bind fun x ρ=>lift (blt b [x]) ρ|.blt b as,ρ=>(evs c as ρ).bind fun ds ρ=>lift (blt b ds) ρ|.inst ts a,ρ=>(cX (isVar a) (ev c a) ρ).bind fun x ρ=>.ok (.val (.bl (ts.any fun t=>bQ t x))) ρ|.pop x,ρ=>match ρ[x]?with|some (.own b ds)=>lift (ds.getLast?.map .val) (ρ.set x (.own b ds.dropLast))|_=>.stuck
 |.comp src n is one test elt,ρ=>(srcOf (isVar src) (ev c src) ρ).bind fun ds ρ₁=>if ds.length<=lim then(turns is one (mY c test) (ev c elt) ds [] (ρ₁++List.replicate n .bC)).bind fun xs ρ₂=>.ok (.own xs) (aR ρ (isVar src) (ρ₂.take ρ₁.length))else .stuck|.zj a b,ρ=>(kJ (isVar a) (ev c a) (isVar b) (ev c b) ρ).bind fun xy ρ=>lift ((fL xy.1).bind fun i=>(fL xy.2).bind fun j=>if-1000000<=i/\i<=1000000000/\j<=1000000000/\-1000000000<=j then some (.val (.lst ((List.range (j-i).toNat).map fun(k:Nat)=>D.int (i+(k:Int)))))else none) ρ|.Uh a,ρ=>(ev c a ρ).bind fun r ρ=>lift ((items r.d).map fun ds=>.val (.lst (ds.mapIdx fun i d=>D.tup [.int (i:Int),d]))) ρ|.zip a b,ρ=>(ev c a ρ).bind fun x ρ=>(ev c b ρ).bind fun y ρ=>lift ((items x.d).bind fun ds=>(items y.d).map fun es=>.val (.lst ((ds.zip es).map fun p=>D.tup [p.1,p.2]))) ρ|.rev a,ρ=>(ev c a ρ).bind fun r ρ=>lift ((Dm r.d).map fun ds=>.val (.lst ds.reverse)) ρ|.uw i b n is one test elt,ρ=>(G7 i (ev c b) ρ).bind fun du ρ₁=>if du.1.length<=lim then(turns is one (mY c test) (ev c elt) du.1 [] (ρ₁++List.replicate n .bC)).bind fun xs ρ₂=>.ok (.own xs) (aR du.2 (some i) (ρ₂.take ρ₁.length))else .stuck|.dgo x k d,ρ=>match ρ[x]?with
   |some (.j7 _)=>(cX (isVar k) (ev c k) ρ).bind fun kd ρ=>(cX (isVar d) (ev c d) ρ).bind fun dd ρ=>match ρ[x]?with|some (.j7 m)=>lift ((m.get kd).bind fun o=>(fL dd).map fun v=>.val (.int (o.getD v))) ρ|_=>.stuck
   |_=>.stuck
 |.vw x,ρ=>match ρ[x]?with|some (.j7 m)=>.ok (.val (.cZ m)) (ρ.set x (.val false (.cZ m)))|some (.iZ kvs)=>.ok (.val (.dv (kvs.map (·.1)) (kvs.map (·.2)))) (ρ.set x (.val false (.dv (kvs.map (·.1)) (kvs.map (·.2)))))|some (.own b ds)=>.ok (.val (.lst ds)) (ρ.set x (.val b (.lst ds)))|some (.val _ d)=>.ok (.val d) ρ|_=>.stuck
 |.dgT x ks,ρ=>(lift (pk ρ x) ρ).bind fun _ ρ=>(evs c ks ρ).bind fun Uk ρ=>(lift (pk ρ x) ρ).bind fun dd ρ=>lift (Rg dd Uk) ρ|.Zv x ks d,ρ=>match ρ[x]?with
   |some (.j7 _)=>(evs c ks ρ).bind fun Uk ρ=>(cX (isVar d) (ev c d) ρ).bind fun dd ρ=>match ρ[x]?with|some (.j7 m)=>lift ((m.Rp Uk).bind fun o=>(fL dd).map fun v=>.val (.int (o.getD v))) ρ|_=>.stuck
   |_=>.stuck
 |.vgo x k,ρ=>match ρ[x]?with
   |some (.iZ _)=>(cX (isVar k) (ev c k) ρ).bind fun kd ρ=>match ρ[x]?with|some (.iZ kvs)=>lift ((fL kd).bind fun k=>(Rj kvs k).map .val) ρ|_=>.stuck
   |_=>.stuck
 |.vin x k neg,ρ=>(cX (isVar k) (ev c k) ρ).bind fun kd ρ=>match ρ[x]?with|some (.iZ kvs)=>lift ((fL kd).map fun k=>.val (.bl (if neg then !(kvs.map (·.1)).contains k else(kvs.map (·.1)).contains k))) ρ|_=>.stuck
 |.Zw k e,ρ=>.ok (.val (.dv [k] [.int e])) ρ|.Ui k e p q,ρ=>(cX (isVar p) (ev c p) ρ).bind fun x ρ=>(cX (isVar q) (ev c q) ρ).bind fun y ρ=>lift (dl2 k e x y) ρ|.lix x e,ρ=>(lift (pk ρ x) ρ).bind fun _ ρ=>(cX (isVar e) (ev c e) ρ).bind fun k ρ=>(lift (pk ρ x) ρ).bind fun d ρ=>lift (WW d k) ρ|.Uj i a n is one test elt,ρ=>(Yd i (ev c a) ρ).bind fun du ρ₁=>if du.1.length<=lim then(turns is one (mY c test) (ev c elt) du.1 [] (ρ₁++List.replicate n .bC)).bind fun xs ρ₂=>.ok (.own xs) (aR du.2 (some i) (ρ₂.take ρ₁.length))else .stuck
noncomputable def evs(c:Call):List P->List Sl->Res (List D)|[],ρ=>.ok [] ρ|a::r,ρ=>(ev c a ρ).bind fun x ρ=>(evs c r ρ).bind fun xs ρ=>.ok (x.d::xs) ρ
noncomputable def rF(c:Call):List P->List Sl->Res (List Arg)|[],ρ=>.ok [] ρ|a::r,ρ=>match isVar a with|some i=>(lift (pk ρ i) ρ).bind fun _ ρ=>(rF c r ρ).bind fun xs ρ=>.ok (.dZ i::xs) ρ|none=>(ev c a ρ).bind fun x ρ=>(rF c r ρ).bind fun xs ρ=>.ok (rQ x::xs) ρ
noncomputable def mY(c:Call):Option P->List Sl->Res Bool|none,ρ=>.ok true ρ|some t,ρ=>fO (ev c t) ρ
end
inductive S where|pass|brk|cont|bad|expr(e:P)|asg(i:Nat)(e:P)|par(i j:Nat)(a b:P)|Zx(i:List Nat)(e:P)|Hw(x:Nat)(i e:P)|app(x:Nat)(e:P)|ext(x:Nat)(e:P)|ret(e:P)|Zy|ifs(c:P)(a b:List S)|oH(src:P)(i:List Nat)(one:Bool)(body:List S)|whl(c:P)(body:List S)|Zz(x:Nat)(i:P)|swp(x:Nat)(i:P)(y:Nat)(j:P)(a b:P)|aug(x:Nat)(sub:Bool)(e:P)|ZC(x:Nat)(i:P)(sub:Bool)(e:P)|vO(x:Nat)(e:P)|vP(k:Nat)|ZD(body:List S)(k:Nat)(d:D)|Nv(body:List S)(x:Nat)(hs:List (List S))|ZF(x:Nat)(t:Bool)|dput(x:Nat)(k e:P)|Ul(x:Nat)(ks:List P)(e:P)|ZG(x:Nat)(a b:P)(body:List S)|rvl(x:Nat)|ins(x:Nat)(i e:P)|ZJ(x:Nat)(src:P)(k:Nat)(is:List Nat)(one:Bool)(elt:P)|ZK(x:Nat)(a b:P)|ZL(x:Nat)(i j e:P)|ZM(x:Nat)(i j:P)(sub:Bool)(e:P)|ZP(x:Nat)(i e:P)|ZQ(x:Nat)(i:P)|ZR(x y:Nat)(j k l:P)|ZS(src:P)(is:List Nat)(one:Bool)(body:List S)|fc(x:Nat)|fz(x:Nat)|ifH(x:Nat)(Um:List Nat)(t:P)(a b:List S)|ZV(x:Nat)|ZW(x:Nat)(k e:Int)|Mq(x:Nat)(k e:P)deriving Inhabited
inductive Fl where|next|brk|cont|ret(r:R)deriving Inhabited
noncomputable def yw:R->Sl|.val d=>.val false d|.own ds=>.own false ds
noncomputable def kj(is:List Nat)(one:Bool)(body:List Sl->Res Fl):List D->List Sl->Res Fl|[],ρ=>.ok .next ρ|d::r,ρ=>match bW ρ is one d with|none=>.stuck|some ρ=>(body ρ).bind fun fl ρ=>match fl with|.next=>kj is one body r ρ|.cont=>kj is one body r ρ|.brk=>.ok .next ρ|.ret r=>.ok (.ret r) ρ
noncomputable def Mg(x:Nat)(body:List Sl->Res Fl):List (List D)->List Sl->Res Fl|[],ρ=>.ok .next ρ|ds::r,ρ=>match put ρ x (.own false ds)with|none=>.stuck|some ρ=>(body ρ).bind fun fl ρ=>match fl with|.next=>Mg x body r ρ|.cont=>Mg x body r ρ|.brk=>.ok .next ρ|.ret r=>.ok (.ret r) ρ
noncomputable def lO(test:List Sl->Res Bool)(body:List Sl->Res Fl):Nat->List Sl->Res Fl|0,_=>.stuck|n+1,ρ=>(test ρ).bind fun b ρ=>if b then(body ρ).bind fun fl ρ=>match fl with|.next=>lO test body n ρ|.cont=>lO test body n ρ|.brk=>.ok .next ρ|.ret r=>.ok (.ret r) ρ else .ok .next ρ
noncomputable def Aq(is:List Nat)(one:Bool)(elt:Ev):List D->List (List D)->List Sl->Res (List (List D))|[],acc,ρ=>.ok acc ρ|d::r,acc,ρ=>match bW ρ is one d with|none=>.stuck|some ρ=>(elt ρ).bind fun x ρ=>match x with|.own ds=>Aq is one elt r (acc++[ds]) ρ|.val _=>.stuck
noncomputable def rowAt(rows:List (List D))(k:Int):Option (List D):=(jk rows.length k).bind fun r=>rows[r]?
noncomputable def qX(rows:List (List D))(k:Int)(f:List D->Option (List D)):Option (List (List D)):=(jk rows.length k).bind fun r=>(rows[r]?).bind fun row=>(f row).map fun Ny=>rows.set r Ny
noncomputable def setAt(l:Int)(d:D)(row:List D):Option (List D):=(jk row.length l).map fun m=>row.set m d
noncomputable def iV(ρ:List Sl)(x:Nat):Option (List (List D)):=match ρ[x]?with|some (.hold rows)=>some rows|_=>none
noncomputable def CV(ρ:List Sl)(x:Nat)(k:D):Option (List D):=(iV ρ x).bind fun rows=>(fL k).bind fun k=>rowAt rows k
noncomputable def BL(ρ:List Sl)(x:Nat)(o:Option (List (List D))):Res Fl:=match o with|some rows=>.ok .next (ρ.set x (.hold rows))|none=>.stuck
noncomputable def rowOne(x r:Nat)(ej ek el:List Sl->Res D)(ρ:List Sl):Res Fl:=(ek ρ).bind fun k ρ=>(lift ((iV ρ x).bind fun rows=>(rows[r]?).bind fun row=>(fL k).bind fun k=>(at' row k).bind fL) ρ).bind fun u ρ=>(el ρ).bind fun l ρ=>(lift ((iV ρ x).bind fun rows=>(rows[r]?).bind fun row=>(fL l).bind fun l=>(at' row l).bind fL) ρ).bind fun v ρ=>(ej ρ).bind fun j ρ=>BL ρ x ((iV ρ x).bind fun rows=>(rows[r]?).bind fun row=>(fL j).bind fun j=>(setAt j (.int (u+v)) row).map fun Ny=>rows.set r Ny)
noncomputable def CZ(x y:Nat)(ej ek el:List Sl->Res D):Nat->Nat->List Sl->Res Fl|0,_,ρ=>.ok .next ρ|m+1,r,ρ=>(lift (put ρ y .bC) ρ).bind fun ρ _=>(rowOne x r ej ek el ρ).bind fun _ ρ=>CZ x y ej ek el m (r+1) ρ
noncomputable def hide(Um:List Nat)(x:Nat)(d:D):Nat->List Sl->List Sl|_,[]=>[]|i,s::ρ=>(if i=x then .val true d else if Um.contains i=true then(match s with|.val _ d=>.val true d|_=>.bC)else .bC)::hide Um x d (i+1) ρ
noncomputable def Mw(is:List Nat)(one:Bool)(body:List Sl->Res Fl)(bx:List Sl->Option (Nat×List Sl)):List D->List Sl->Option (Nat×List Sl)|[],_=>none|d::r,ρ=>match bW ρ is one d with|none=>none|some ρ=>match bx ρ with|some x=>some x|none=>match body ρ with|.ok .next ρ1=>Mw is one body bx r ρ1|.ok .cont ρ1=>Mw is one body bx r ρ1|_=>none
noncomputable def oV(test:List Sl->Res Bool)(body:List Sl->Res Fl)(bx:List Sl->Option (Nat×List Sl)):Nat->List Sl->Option (Nat×List Sl)|0,_=>none|n+1,ρ=>match test ρ with
   |.ok true ρ1=>match bx ρ1 with|some x=>some x|none=>match body ρ1 with|.ok .next ρ2=>oV test body bx n ρ2|.ok .cont ρ2=>oV test body bx n ρ2|_=>none
   |_=>none
noncomputable def qx:P->P|.idx a _=>a|e=>e
noncomputable def Vo:Sl->Bool|.bC=>true|.val b _=>!b|.own b _=>!b|.lent _=>false|.j7 _=>true|.hold _=>false|.iZ _=>true
noncomputable def uo(c:Call)(e:P)(ρ:List Sl):Option (Nat×List Sl):=match qx e with
 |.call f as=>match rF c as ρ with
   |.ok xs ρ1=>match bj ρ1 xs []with
     |some args=>match c f args with|.exc k args'=>some (k,bY xs args' 0 ρ1)|_=>none
     |none=>none
   |_=>none
 |_=>none
mutual
noncomputable def ex(c:Call)(n:Nat):S->List Sl->Res Fl
 |.pass,ρ=>.ok .next ρ|.brk,ρ=>.ok .brk ρ|.cont,ρ=>.ok .cont ρ|.bad,_=>.stuck|.expr e,ρ=>(ev c e ρ).bind fun _ ρ=>.ok .next ρ|.asg i e,ρ=>(ev c e ρ).bind fun r ρ=>(lift (put ρ i (yw r)) ρ).bind fun ρ' _=>.ok .next ρ'|.par i j a b,ρ=>(ev c a ρ).bind fun x ρ=>(ev c b ρ).bind fun y ρ=>(lift ((put ρ i (.val false x.d)).bind fun ρ=>put ρ j (.val false y.d)) ρ).bind fun ρ' _=>.ok .next ρ'|.Zx is e,ρ=>(ev c e ρ).bind fun r ρ=>match r.d with|.tup ds=>(lift (putAll ρ is ds) ρ).bind fun ρ' _=>.ok .next ρ'|_=>.stuck
 |.Hw x i e,ρ=>(ev c e ρ).bind fun r ρ=>(lift (pk ρ x) ρ).bind fun _ ρ=>(cX (isVar i) (ev c i) ρ).bind fun k ρ=>match ρ[x]?,k with
   |some (.own b ds),.int k=>match jk ds.length k with|some j=>.ok .next (ρ.set x (.own b (ds.set j r.d)))|none=>.stuck
   |_,_=>.stuck
 |.app x e,ρ=>(lift (Al ρ x) ρ).bind fun _ ρ=>(ev c e ρ).bind fun r ρ=>match ρ[x]?with|some (.own b ds)=>if ds.length<lim then .ok .next (ρ.set x (.own b (ds++[r.d])))else .stuck|_=>.stuck
 |.ext x e,ρ=>(lift (Al ρ x) ρ).bind fun _ ρ=>(ev c e ρ).bind fun r ρ=>match ρ[x]?,r.d with|some (.own b ds),.lst es=>if ds.length+es.length<=lim then .ok .next (ρ.set x (.own b (ds++es)))else .stuck|_,_=>.stuck
 |.ret e,ρ=>match isVar e with
   |some i=>match ρ[i]?with|some (.own false ds)=>.ok (.ret (.own ds)) (ρ.set i .bC)|_=>(ev c e ρ).bind fun r ρ=>.ok (.ret r) ρ
   |none=>(ev c e ρ).bind fun r ρ=>.ok (.ret r) ρ
 |.Zy,ρ=>.ok (.ret (.val .non)) ρ|.ifs t a b,ρ=>(fO (ev c t) ρ).bind fun k ρ=>if k then cG c n a ρ else cG c n b ρ|.oH src is one body,ρ=>(srcOf (isVar src) (ev c src) ρ).bind fun ds ρ₁=>(kj is one (cG c n body) ds ρ₁).bind fun fl ρ₂=>.ok fl (aR ρ (isVar src) ρ₂)|.whl t body,ρ=>lO (fO (ev c t)) (cG c n body) n ρ|.Zz x i,ρ=>(lift (Al ρ x) ρ).bind fun _ ρ=>(cX (isVar i) (ev c i) ρ).bind fun k ρ=>match ρ[x]?,k with
   |some (.own b ds),.int k=>match jk ds.length k with|some j=>if ds.length<=lim then .ok .next (ρ.set x (.own b (ds.eraseIdx j)))else .stuck|none=>.stuck
   |_,_=>.stuck
 |.swp x i y j a b,ρ=>(ev c a ρ).bind fun u ρ=>(ev c b ρ).bind fun v ρ=>(lift (pk ρ x) ρ).bind fun _ ρ=>(cX (isVar i) (ev c i) ρ).bind fun k ρ=>match ρ[x]?,k with
   |some (.own b ds),.int k=>match jk ds.length k with
     |some m=>(lift (pk (ρ.set x (.own b (ds.set m u.d))) y) (ρ.set x (.own b (ds.set m u.d)))).bind fun _ ρ=>(cX (isVar j) (ev c j) ρ).bind fun k ρ=>match ρ[y]?,k with
       |some (.own b ds),.int k=>match jk ds.length k with|some m=>.ok .next (ρ.set y (.own b (ds.set m v.d)))|none=>.stuck
       |_,_=>.stuck
     |none=>.stuck
   |_,_=>.stuck
 |.aug x sub e,ρ=>(lift (pk ρ x) ρ).bind fun a ρ=>(cX (isVar e) (ev c e) ρ).bind fun b ρ=>match a,b with|.int i,.int j=>(lift (put ρ x (.val false (.int (if sub then i-j else i+j)))) ρ).bind fun ρ' _=>.ok .next ρ'|_,_=>.stuck
 |.ZC x i sub e,ρ=>(lift (Al ρ x) ρ).bind fun _ ρ=>(cX (isVar i) (ev c i) ρ).bind fun k ρ=>(lift (Al ρ x) ρ).bind fun l ρ=>(lift ((fL k).bind fun i=>at' l i) ρ).bind fun a ρ=>(cX (isVar e) (ev c e) ρ).bind fun b ρ=>match a,b,ρ[x]?,k with
   |.int u,.int v,some (.own bb ds),.int k=>match jk ds.length k with|some j=>.ok .next (ρ.set x (.own bb (ds.set j (.int (if sub then u-v else u+v)))))|none=>.stuck
   |_,_,_,_=>.stuck
 |.vO x e,ρ=>(lift (Al ρ x) ρ).bind fun _ ρ=>(ev c e ρ).bind fun r ρ=>match ρ[x]?,r with|some (.own b ds),.own es=>if ds.length+es.length<=lim then .ok .next (ρ.set x (.own b (ds++es)))else .stuck|_,_=>.stuck
 |.ZF x t,ρ=>match ρ[x]?with|some .bC=>.ok .next (ρ.set x (.j7 (if t then .t []else .k [])))|_=>.stuck
 |.dput x k e,ρ=>(ev c e ρ).bind fun r ρ=>match ρ[x]?with
   |some (.j7 _)=>(cX (isVar k) (ev c k) ρ).bind fun kd ρ=>match ρ[x]?,r with
     |some (.j7 m),.val (.int v)=>match m.put kd v with|some m'=>.ok .next (ρ.set x (.j7 m'))|none=>.stuck
     |_,_=>.stuck
   |_=>.stuck
 |.vP _,_=>.stuck|.ZD body k d,ρ=>match cG c n body ρ with|.ok fl ρ'=>.ok fl ρ'|_=>match cU c n body ρ with|some (k',ρ')=>if k'=k then .ok (.ret (.val d)) ρ' else .stuck|none=>.stuck
 |.Nv body x hs,ρ=>match cG c n body ρ with|.ok fl ρ'=>.ok fl ρ'|_=>match cU c n body ρ with
     |some (k,_)=>if ρ.all Vo=true then match LK c n hs k (List.replicate ρ.length .bC)with
      |.ok .next ρ2=>match ρ2[x]?with|some .bC=>.ok .next ρ2|_=>.stuck
      |_=>.stuck else .stuck|none=>.stuck
 |.Ul x ks e,ρ=>(ev c e ρ).bind fun r ρ=>match ρ[x]?with
   |some (.j7 _)=>(evs c ks ρ).bind fun Uk ρ=>match ρ[x]?,r with
     |some (.j7 m),.val (.int v)=>match m.W5 Uk v with|some m'=>.ok .next (ρ.set x (.j7 m'))|none=>.stuck
     |_,_=>.stuck
   |_=>.stuck
 |.ZG x a b body,ρ=>(ev c a ρ).bind fun r ρ=>(ev c b ρ).bind fun u ρ=>match r,u with|.own ds,.own es=>Mg x (cG c n body) [ds,es] ρ|_,_=>.stuck
 |.ins x i e,ρ=>(lift (Al ρ x) ρ).bind fun _ ρ=>(cX (isVar i) (ev c i) ρ).bind fun k ρ=>(ev c e ρ).bind fun r ρ=>match ρ[x]?,k with|some (.own b ds),.int j=>if 0<=j/\j<=1000000/\ds.length<lim then .ok .next (ρ.set x (.own b (ds.take j.toNat++r.d::ds.drop j.toNat)))else .stuck|_,_=>.stuck
 |.rvl x,ρ=>(lift (Al ρ x) ρ).bind fun _ ρ=>match ρ[x]?with|some (.own b ds)=>.ok .next (ρ.set x (.own b ds.reverse))|_=>.stuck
 |.ZJ x src k is one elt,ρ=>(srcOf (isVar src) (ev c src) ρ).bind fun ds ρ₁=>if ds.length<=lim then(Aq is one (ev c elt) ds [] (ρ₁++List.replicate k .bC)).bind fun rows ρ₂=>(lift (put (aR ρ (isVar src) (ρ₂.take ρ₁.length)) x (.hold rows)) ρ).bind fun ρ' _=>.ok .next ρ' else .stuck|.ZK x a b,ρ=>(ev c a ρ).bind fun r ρ=>(ev c b ρ).bind fun u ρ=>match r,u with|.own ds,.own es=>(lift (put ρ x (.hold [ds,es])) ρ).bind fun ρ' _=>.ok .next ρ'|_,_=>.stuck
 |.ZL x i j e,ρ=>(ev c e ρ).bind fun r ρ=>(cX (isVar i) (ev c i) ρ).bind fun k ρ=>(lift (CV ρ x k) ρ).bind fun _ ρ=>(cX (isVar j) (ev c j) ρ).bind fun l ρ=>BL ρ x ((iV ρ x).bind fun rows=>(fL k).bind fun k=>(fL l).bind fun l=>qX rows k (setAt l r.d))|.ZM x i j sub e,ρ=>(cX (isVar i) (ev c i) ρ).bind fun k ρ=>(lift (CV ρ x k) ρ).bind fun _ ρ=>(cX (isVar j) (ev c j) ρ).bind fun l ρ=>(lift ((CV ρ x k).bind fun row=>(fL l).bind fun l=>(at' row l).bind fL) ρ).bind fun u ρ=>(cX (isVar e) (ev c e) ρ).bind fun w ρ=>(cX (isVar i) (ev c i) ρ).bind fun k ρ=>(lift (CV ρ x k) ρ).bind fun _ ρ=>(cX (isVar j) (ev c j) ρ).bind fun l ρ=>BL ρ x ((iV ρ x).bind fun rows=>(fL w).bind fun v=>(fL k).bind fun k=>(fL l).bind fun l=>qX rows k (setAt l (.int (if sub then u-v else u+v))))|.ZP x i e,ρ=>(cX (isVar i) (ev c i) ρ).bind fun k ρ=>(lift (CV ρ x k) ρ).bind fun _ ρ=>(ev c e ρ).bind fun r ρ=>BL ρ x ((iV ρ x).bind fun rows=>(fL k).bind fun k=>qX rows k fun row=>if row.length<lim then some (row++[r.d])else none)|.ZQ x i,ρ=>(cX (isVar i) (ev c i) ρ).bind fun k ρ=>BL ρ x ((iV ρ x).bind fun rows=>(fL k).bind fun k=>qX rows k fun _=>some [])|.ZR x y j k l,ρ=>(lift (iV ρ x) ρ).bind fun rows ρ=>CZ x y (cX (isVar j) (ev c j)) (cX (isVar k) (ev c k)) (cX (isVar l) (ev c l)) rows.length 0 ρ|.ZS src is one body,ρ=>(ev c src ρ).bind fun r ρ₁=>(lift (items r.d) ρ₁).bind fun ds ρ₁=>kj is one (cG c n body) ds ρ₁|.fc x,ρ=>match ρ[x]?with|some (.hold rows)=>.ok .next (ρ.set x (.val false (.lst (rows.map D.lst))))|_=>.stuck
 |.fz x,ρ=>match ρ[x]?with|some (.own b ds)=>.ok .next (ρ.set x (.val b (.lst ds)))|some (.val _ _)=>.ok .next ρ|_=>.stuck
 |.ifH x Um t a b,ρ=>(lift (iV ρ x) ρ).bind fun rows ρ=>(fO (ev c t) (hide Um x (.lst (rows.map D.lst)) 0 ρ)).bind fun k _=>if k then cG c n a ρ else cG c n b ρ|.ZV x,ρ=>match ρ[x]?with|some .bC=>.ok .next (ρ.set x (.iZ []))|some (.iZ _)=>.ok .next (ρ.set x (.iZ []))|some (.val false _)=>.ok .next (ρ.set x (.iZ []))|_=>.stuck
 |.ZW x k e,ρ=>match ρ[x]?with|some .bC=>.ok .next (ρ.set x (.iZ [(k,.int e)]))|some (.iZ _)=>.ok .next (ρ.set x (.iZ [(k,.int e)]))|some (.val false _)=>.ok .next (ρ.set x (.iZ [(k,.int e)]))|_=>.stuck
 |.Mq x k e,ρ=>(ev c e ρ).bind fun r ρ=>match ρ[x]?with
   |some (.iZ _)=>(cX (isVar k) (ev c k) ρ).bind fun kd ρ=>match ρ[x]?,kd with|some (.iZ kvs),.int k=>if kvs.length<lim then .ok .next (ρ.set x (.iZ (Mq kvs k r.d)))else .stuck|_,_=>.stuck
   |_=>.stuck
noncomputable def LK(c:Call)(n:Nat):List (List S)->Nat->List Sl->Res Fl|[],_,_=>.stuck|a::_,0,ρ=>cG c n a ρ|_::r,k+1,ρ=>LK c n r k ρ
noncomputable def cG(c:Call)(n:Nat):List S->List Sl->Res Fl|[],ρ=>.ok .next ρ|s::r,ρ=>(ex c n s ρ).bind fun fl ρ=>match fl with|.next=>cG c n r ρ|fl=>.ok fl ρ
noncomputable def oK(c:Call)(n:Nat):S->List Sl->Option (Nat×List Sl)
 |.vP k,ρ=>some (k,ρ)|.ifs t a b,ρ=>match fO (ev c t) ρ with|.ok x ρ1=>if x then cU c n a ρ1 else cU c n b ρ1|_=>none
 |.oH src is one body,ρ=>match srcOf (isVar src) (ev c src) ρ with|.ok ds ρ1=>(Mw is one (cG c n body) (cU c n body) ds ρ1).map fun x=>(x.1,aR ρ (isVar src) x.2)|_=>none
 |.asg _ e,ρ=>uo c e ρ|.expr e,ρ=>uo c e ρ|.whl t body,ρ=>oV (fO (ev c t)) (cG c n body) (cU c n body) n ρ|_,_=>none
noncomputable def cU(c:Call)(n:Nat):List S->List Sl->Option (Nat×List Sl)|[],_=>none|s::r,ρ=>match oK c n s ρ with|some x=>some x|none=>match ex c n s ρ with|.ok .next ρ1=>cU c n r ρ1|_=>none
end
structure Fd where
 np:Nat
 nn:Nat
 body:List S deriving Inhabited
noncomputable abbrev Tab:=Nat->Option Fd
noncomputable def enter(c:Call)(n:Nat)(d:Fd)(args:List Sl):Res R:=if args.length=d.np/\d.np<=d.nn then match cG c n d.body (args++List.replicate (d.nn-d.np) .bC)with|.ok .next ρ=>.ok (.val .non) (ρ.take d.np)|.ok (.ret r) ρ=>.ok r (ρ.take d.np)|_=>match cU c n d.body (args++List.replicate (d.nn-d.np) .bC)with|some (k,ρ)=>.exc k (ρ.take d.np)|none=>.stuck else .stuck
noncomputable def run(Γ:Tab)(w:Nat):Nat->Call|0,_,_=>.stuck|n+1,f,args=>match Γ f with|some d=>enter (run Γ w n) w d args|none=>.stuck
end HH
end
section
namespace HH
open PySem L2
noncomputable def Dc.ho:Dc->HO|.k kvs=>.dK (kvs.map fun p=>(Sum.inl p.1,V.int p.2))|.t kvs=>.dT (kvs.map fun p=>(p.1.map Sum.inl,V.int p.2))
noncomputable def Bh(ks:List Int)(vs:List V):HO:=.dK ((ks.zip vs).map fun p=>(Sum.inl p.1,p.2))
section
variable(K:PySem.W.Frag)
mutual
noncomputable def Rep(F:Hp):V->D->Prop|v,.non=>v=.non|v,.bl b=>v=.bl b|v,.int i=>v=.int i|v,.str x=>v=.str x|v,.tup ds=>∃a xs,v=.ref a/\gw K F a xs/\aD F xs ds|v,.lst ds=>∃a xs,v=.ref a/\dI K F a xs/\aD F xs ds|v,.cZ m=>∃a o,v=.ref a/\F a=some (.fc o m.ho)|v,.dv ks ds=>∃a o vs,v=.ref a/\F a=some (.fc o (Bh ks vs))/\aD F vs ds/\ks.length=ds.length
noncomputable def aD(F:Hp):List V->List D->Prop|vs,[]=>vs=[]|vs,d::ds=>∃v r,vs=v::r/\Rep F v d/\aD F r ds
end
end
section
variable{K:PySem.W.Frag}{F F' H H':Hp}
theorem aF.fU{a:Addr}{xs:List V}(e:aF H H')(h:gw K H a xs):gw K H' a xs:=by
 rcases h with(h|⟨o,h⟩)|h;.exact .inl (.inl (e _ _ h))
 .exact .inl (.inr ⟨o,e _ _ h⟩)
 .exact .inr h
mutual
theorem Rep.mono(e:aF F F'):∀{d:D}{v:V},Rep K F v d->Rep K F' v d|.non,_,h=>by rw[Rep]at h ⊢;exact h|.bl _,_,h=>by rw[Rep]at h ⊢;exact h|.int _,_,h=>by rw[Rep]at h ⊢;exact h|.str _,_,h=>by rw[Rep]at h ⊢;exact h|.tup ds,_,h=>by rw[Rep]at h ⊢;obtain⟨a,xs,rfl,hs,r⟩:=h;exact⟨a,xs,rfl,aF.fU e hs,aD.mono e r⟩|.lst ds,_,h=>by rw[Rep]at h ⊢;obtain⟨a,xs,rfl,hs,r⟩:=h;exact⟨a,xs,rfl,e.seq hs,aD.mono e r⟩|.cZ m,_,h=>by rw[Rep]at h ⊢;obtain⟨a,o,rfl,hs⟩:=h;exact⟨a,o,rfl,e _ _ hs⟩|.dv ks ds,_,h=>by rw[Rep]at h ⊢;obtain⟨a,o,vs,rfl,hs,r,hl⟩:=h;exact⟨a,o,vs,rfl,e _ _ hs,aD.mono e r,hl⟩theorem aD.mono(e:aF F F'):∀{ds:List D}{vs:List V},aD K F vs ds->aD K F' vs ds|[],_,h=>by rw[aD]at h ⊢;exact h|d::ds,_,h=>by rw[aD]at h ⊢;obtain⟨v,r,rfl,h1,h2⟩:=h;exact⟨v,r,rfl,Rep.mono e h1,aD.mono e h2⟩end
theorem aD.nil:aD K F [] []:=by rw[aD]
theorem aD.cons{v:V}{d:D}{vs:List V}{ds:List D}(h:Rep K F v d)(t:aD K F vs ds):aD K F (v::vs) (d::ds):=by rw[aD];exact⟨v,vs,rfl,h,t⟩
theorem aD.cg{vs:List V}{d:D}{ds:List D}(h:aD K F vs (d::ds)):∃v r,vs=v::r/\Rep K F v d/\aD K F r ds:=by rw[aD]at h;exact h
theorem aD.fB{vs:List V}(h:aD K F vs []):vs=[]:=by rw[aD]at h;exact h
theorem aD.length:∀{ds:List D}{vs:List V},aD K F vs ds->vs.length=ds.length|[],_,h=>by rw[h.fB];rfl|d::ds,_,h=>by obtain⟨v,r,rfl,_,t⟩:=h.cg;simp[aD.length t]
theorem aD.get:∀{ds:List D}{vs:List V}{i:Nat}{d:D},aD K F vs ds->ds[i]?=some d->∃v,vs[i]?=some v/\Rep K F v d|[],_,_,_,h,e=>by simp at e|d::ds,_,0,_,h,e=>by obtain⟨v,r,rfl,h1,t⟩:=h.cg;simp at e;subst e;exact⟨v,rfl,h1⟩|d::ds,_,i+1,_,h,e=>by obtain⟨v,r,rfl,_,t⟩:=h.cg;simp at e;obtain⟨w,e1,e2⟩:=t.get e;exact⟨w,by simpa using e1,e2⟩
theorem aD.append:∀{ds es:List D}{vs us:List V},aD K F vs ds->aD K F us es->aD K F (vs++us) (ds++es)|[],_,_,_,h,h'=>by rw[h.fB];exact h'|d::ds,_,_,_,h,h'=>by obtain⟨v,r,rfl,h1,t⟩:=h.cg;exact .cons h1 (t.append h')
theorem aD.set{v:V}{d:D}(hr:Rep K F v d):∀{ds:List D}{vs:List V}(i:Nat),aD K F vs ds->aD K F (vs.set i v) (ds.set i d)|[],_,_,h=>by rw[h.fB];exact .nil|_::_,_,0,h=>by obtain⟨w,r,rfl,h1,t⟩:=h.cg;exact .cons hr t|_::_,_,i+1,h=>by obtain⟨w,r,rfl,h1,t⟩:=h.cg;exact .cons h1 (aD.set hr i t)
theorem aD.take:∀{ds:List D}{vs:List V}(n:Nat),aD K F vs ds->aD K F (vs.take n) (ds.take n)|[],_,n,h=>by rw[h.fB];simpa using aD.nil|_::_,_,0,h=>.nil|_::_,_,n+1,h=>by obtain⟨w,r,rfl,h1,t⟩:=h.cg;exact .cons h1 (t.take n)
theorem aD.drop:∀{ds:List D}{vs:List V}(n:Nat),aD K F vs ds->aD K F (vs.drop n) (ds.drop n)|[],_,n,h=>by rw[h.fB];simpa using aD.nil|_::_,_,0,h=>h|_::_,_,n+1,h=>by obtain⟨w,r,rfl,h1,t⟩:=h.cg;exact t.drop n
theorem aD.rep{ds:List D}{vs:List V}(h:aD K F vs ds):∀n,aD K F (List.replicate n vs).flatten (List.replicate n ds).flatten|0=>by simpa using aD.nil|n+1=>by simpa[List.replicate_succ]using h.append (aD.rep h n)
inductive Oc where|l(ds:List D)|d(m:Dc)|v(kvs:List (Int×D))
noncomputable def lst?:Sl->Option Oc|.own _ ds=>some (.l ds)|.lent ds=>some (.l ds)|.j7 m=>some (.d m)|.iZ kvs=>some (.v kvs)|_=>none
noncomputable def pg(K:PySem.W.Frag)(F:Hp)(o:HO):Oc->Prop|.l ds=>∃xs,o=.lst xs/\aD K F xs ds|.d m=>o=m.ho|.v kvs=>∃vs,o=Bh (kvs.map (·.1)) vs/\aD K F vs (kvs.map (·.2))
theorem pg.mono{o:HO}{x:Oc}(e:aF F F')(h:pg K F o x):pg K F' o x:=by cases x with|l ds=>obtain⟨xs,e1,h⟩:=h;exact⟨xs,e1,h.mono e⟩|d m=>exact h|v kvs=>obtain⟨xs,e1,h⟩:=h;exact⟨xs,e1,h.mono e⟩
noncomputable def bG(ρ:List Sl)(σ:St)(i:Nat)(a:Addr):Prop:=(∃s ds,ρ[i]?=some s/\lst? s=some ds)/\σ[i]?=some (some (V.ref a))
noncomputable def Own(ρ:List Sl)(σ:St)(a:Addr):Prop:=∃i,bG ρ σ i a
structure GS(K:PySem.W.Frag)(F:Hp)(ρ:List Sl)(σ:St)(H:Hp):Prop where
 sub:aF F H
 len:ρ.length=σ.length
 val:∀(i:Nat)(b:Bool)(d:D),ρ[i]?=some (Sl.val b d)->∃v:V,σ[i]?=some (some v)/\Rep K F v d
 own:∀(i:Nat)(s:Sl)(ds:Oc),ρ[i]?=some s->lst? s=some ds->∃(a:Addr)(xs:HO),σ[i]?=some (some (V.ref a))/\H a=some xs/\F a=none/\pg K F xs ds
 dis:∀(i j:Nat)(a:Addr),bG ρ σ i a->bG ρ σ j a->i=j
theorem GS.je{ρ:List Sl}{σ:St}(g:GS K F ρ σ H)(i:Nat)(s:Sl)(ds:List D)(e:ρ[i]?=some s)(e':lst? s=some (.l ds)):∃(a:Addr)(xs:List V),σ[i]?=some (some (V.ref a))/\H a=some (.lst xs)/\F a=none/\aD K F xs ds:=by obtain⟨a,o,h1,h2,h3,xs,rfl,h4⟩:=g.own i s (.l ds) e e';exact⟨a,xs,h1,h2,h3,h4⟩
noncomputable def yt:Sl->Bool|.val b _=>b|.own b _=>b|.lent _=>true|.bC=>false|.j7 _=>false|.iZ _=>false|.hold _=>true
noncomputable def jA:Sl->Sl->Prop|.val true d,s=>s=.val true d|.own true _,s=>(∃ds,s=.own true ds)\/∃d,s=.val true d|.lent ds,s=>s=.lent ds|.hold ds,s=>s=.hold ds|_,_=>True
theorem jA.refl(s:Sl):jA s s:=by unfold jA;split<;>first|rfl|exact .inl ⟨_,rfl⟩|trivial
theorem jA.yt{s s':Sl}(h:jA s s')(l:yt s=true):HH.yt s'=true:=by cases s with
 |bC=>cases l|j7 _=>cases l|iZ _=>cases l|val b d=>cases b with|true=>cases h;rfl|false=>cases l
 |own b d=>cases b with|true=>rcases h with⟨_,rfl⟩|⟨_,rfl⟩<;>rfl|false=>cases l
 |lent d=>cases h;rfl|hold d=>cases h;rfl
theorem jA.trans{s s' s'':Sl}(l:HH.yt s=true)(h:jA s s')(h':jA s' s''):jA s s'':=by cases s with
 |bC=>cases l|j7 _=>cases l|iZ _=>cases l|val b d=>cases b with|true=>cases h;exact h'|false=>cases l
 |own b d=>cases b with
   | true => rcases h with⟨_,rfl⟩|⟨d,rfl⟩;.exact h'
             .exact .inr ⟨d,h'⟩|false=>cases l
 |lent d=>cases h;exact h'|hold d=>cases h;exact h'
noncomputable def nt:Option HO->Option HO|some (.tup _)=>none|o=>o
theorem lZ{o:Option HO}(h:o=none):nt o=none:=by rw[h];rfl
theorem Cw{H:Hp}{b:Addr}{xs:List V}(h:H b=some (.lst xs))(z:nt (H b)=none):False:=by rw[h]at z;cases z
theorem Cj{o:HO}{x:Oc}(h:pg K F o x)(z:nt (some o)=none):False:=by cases x with|l ds=>obtain⟨xs,rfl,_⟩:=h;cases z|d m=>cases m<;>(cases(show o=_ from h);cases z)|v kvs=>obtain⟨xs,rfl,_⟩:=h;cases z
structure bA(K:PySem.W.Frag)(F:Hp)(ρ:List Sl)(σ:St)(H:Hp)(F':Hp)(ρ':List Sl)(σ':St)(H':Hp):Prop where
 gs:GS K F' ρ' σ' H'
 bV:aF F F'
 xR:∀b,F b=none->F' b≠none->Own ρ σ b\/nt (H b)=none
 keep:∀b o,H b=some o->¬ Own ρ σ b->H' b=some o
 xT:∀b,Own ρ' σ' b->Own ρ σ b\/H b=none
 len:ρ'.length=ρ.length
 lk:∀(i:Nat)(s:Sl),ρ[i]?=some s->yt s=true->σ'[i]?=σ[i]?/\∃s',ρ'[i]?=some s'/\jA s s'
theorem bA.refl{ρ:List Sl}{σ:St}(g:GS K F ρ σ H):bA K F ρ σ H F ρ σ H:=⟨g,aF.refl _,fun b h h'=>absurd h h',fun _ _ h _=>h,fun _ h=>.inl h,rfl,fun i s h _=>⟨rfl,s,h,.refl s⟩⟩
theorem bA.trans{F1 F2 H1 H2:Hp}{ρ ρ1 ρ2:List Sl}{σ σ1 σ2:St}(a:bA K F ρ σ H F1 ρ1 σ1 H1)(b:bA K F1 ρ1 σ1 H1 F2 ρ2 σ2 H2):bA K F ρ σ H F2 ρ2 σ2 H2:=by
 have back:∀c,Own ρ1 σ1 c\/H1 c=none->Own ρ σ c\/H c=none:=fun c h=>by
  rcases h with h|h;.exact a.xT c h
  . by_cases ho:Own ρ σ c;.exact .inl ho
    .right;cases e:H c with|none=>rfl|some o=>rw[a.keep c o e ho]at h;cases h
 refine⟨b.gs,a.bV.trans b.bV,fun c h h'=>?_,fun c o h n=>?_,fun c h=>back c (b.xT c h),b.len.trans a.len,fun i s h l=>?_⟩
 . by_cases e:F1 c=none
   . by_cases ho:Own ρ σ c;.exact .inl ho
     . rcases b.xR c e h' with z|z;.exact(back c (.inl z)).imp id lZ
       .right;cases q:H c with|none=>rfl|some o=>rw[a.keep c o q ho]at z;exact z
   .exact a.xR c h e
 . refine b.keep c o (a.keep c o h n) fun h'=>?_;rcases a.xT c h' with h'|h';.exact n h'
   .rw[h]at h';cases h'
 .obtain⟨e1,s1,h1,k1⟩:=a.lk i s h l;obtain⟨e2,s2,h2,k2⟩:=b.lk i s1 h1 (k1.yt l);exact⟨e2.trans e1,s2,h2,.trans l k1 k2⟩
noncomputable def bT(K:PySem.W.Frag)(F H:Hp)(v:V)(d:D):Prop:=Rep K F v d\/∃a xs ds,v=.ref a/\H a=some (.lst xs)/\aD K F xs ds/\d=.lst ds
noncomputable def cz(K:PySem.W.Frag)(F':Hp)(ρ':List Sl)(σ':St)(H':Hp)(ρ:List Sl)(σ:St)(H:Hp)(v:V):R->Prop|.val d=>Rep K F' v d|.own ds=>∃a xs,v=.ref a/\H' a=some (.lst xs)/\F' a=none/\aD K F' xs ds/\¬ Own ρ' σ' a/\(Own ρ σ a\/H a=none)
theorem aF.cP{F:Hp}{a:Addr}{o:HO}(h:F a=none):aF F (upd F a o):=fun b u e=>by
 have:b≠a:=by rintro rfl;rw[h]at e;cases e
 rw[aJ this];exact e
theorem bA.fc{ρ ρ':List Sl}{σ σ':St}{v:V}{r:R}(s:bA K F ρ σ H F' ρ' σ' H')(h:cz K F' ρ' σ' H' ρ σ H v r):∃F'',bA K F ρ σ H F'' ρ' σ' H'/\aF F' F''/\Rep K F'' v r.d:=by cases r with|val d=>exact⟨F',s,.refl _,h⟩|own ds=>
   obtain⟨a,xs,rfl,h1,h2,h3,h4,h5⟩:=h;have sm:aF F' (upd F' a (.lst xs)):=aF.cP h2;refine⟨upd F' a (.lst xs),⟨⟨fun b o e=>?_,s.gs.len,fun i b d e=>?_,fun i sl ds' e e'=>?_,s.gs.dis⟩,s.bV.trans sm,fun b n n'=>?_,s.keep,s.xT,s.len,s.lk⟩,sm,?_⟩
   . by_cases hb:b=a;.subst hb;rw[aW]at e;cases e;exact h1
     .rw[aJ hb]at e;exact s.gs.sub b o e
   .obtain⟨v,e1,e2⟩:=s.gs.val i b d e;exact⟨v,e1,e2.mono sm⟩
   . obtain⟨b,ys,e1,e2,e3,e4⟩:=s.gs.own i sl ds' e e';have hb:b≠a:=by rintro rfl;exact h4 ⟨i,⟨sl,ds',e,e'⟩,e1⟩
     exact⟨b,ys,e1,e2,by rw[aJ hb];exact e3,e4.mono sm⟩
   . by_cases hb:b=a;.subst hb;exact h5.imp id lZ
     .rw[aJ hb]at n';exact s.xR b n n'
   .show Rep K _ _ (.lst ds);rw[Rep];exact⟨a,xs,rfl,dI.of aW,h3.mono sm⟩
theorem bT.mono{v:V}(e:aF F F')(k:∀a xs,v=.ref a->H a=some (.lst xs)->H' a=some (.lst xs)){d:D}(h:bT K F H v d):bT K F' H' v d:=by
 rcases h with h|⟨a,xs,ds,h1,h2,h3,h4⟩;.exact .inl (h.mono e)
 .exact .inr ⟨a,xs,ds,h1,k a xs h1 h2,h3.mono e,h4⟩
theorem GS.pk{ρ:List Sl}{σ:St}{i:Nat}{d:D}(g:GS K F ρ σ H)(e:HH.pk ρ i=some d):∃v:V,σ[i]?=some (some v)/\bT K F H v d:=by
 unfold HH.pk at e;split at e;.rename_i b d' h;cases e;obtain⟨v,h1,h2⟩:=g.val i b d h;exact⟨v,h1,.inl h2⟩
 .rename_i b ds h;cases e;obtain⟨a,xs,h1,h2,h3,h4⟩:=g.je i _ ds h rfl;exact⟨.ref a,h1,.inr ⟨a,xs,ds,rfl,h2,h4,rfl⟩⟩
 .rename_i ds h;cases e;obtain⟨a,xs,h1,h2,h3,h4⟩:=g.je i _ ds h rfl;exact⟨.ref a,h1,.inr ⟨a,xs,ds,rfl,h2,h4,rfl⟩⟩
 .cases e
structure Ext(F H F' H':Hp):Prop where
 hs:aF H H'
 fs:aF F F'
 sub:aF F' H'
 gr:∀b,F b=none->F' b≠none->nt (H b)=none
theorem Ext.refl(h:aF F H):Ext F H F H:=⟨.refl _,.refl _,h,fun _ a b=>absurd a b⟩
theorem Ext.stp{ρ:List Sl}{σ:St}(g:GS K F ρ σ H)(e:Ext F H F' H'):bA K F ρ σ H F' ρ σ H':=by
 refine⟨⟨e.sub,g.len,fun i b d h=>?_,fun i s ds h h'=>?_,g.dis⟩,e.fs,fun b n n'=>.inr (e.gr b n n'),fun b o h _=>e.hs b o h,fun _ h=>.inl h,rfl,fun i s h _=>⟨rfl,s,h,.refl s⟩⟩;.obtain⟨v,h1,h2⟩:=g.val i b d h;exact⟨v,h1,h2.mono e.fs⟩
 .obtain⟨a,xs,h1,h2,h3,h4⟩:=g.own i s ds h h';refine⟨a,xs,h1,e.hs _ _ h2,?_,h4.mono e.fs⟩;cases q:F' a with|none=>rfl|some o=>have:=e.gr a h3 (by rw[q];simp);rw[h2]at this;exact(Cj h4 this).elim
noncomputable def cM(K:PySem.W.Frag)(F' H' H:Hp)(v:V):R->Prop|.val d=>Rep K F' v d|.own ds=>∃a xs,v=.ref a/\H' a=some (.lst xs)/\F' a=none/\aD K F' xs ds/\H a=none
theorem cM.sO{ρ:List Sl}{σ:St}{v:V}{r:R}(g:GS K F ρ σ H)(h:cM K F' H' H v r):cz K F' ρ σ H' ρ σ H v r:=by cases r with|val d=>exact h|own ds=>obtain⟨a,xs,rfl,h1,h2,h3,h4⟩:=h;refine⟨a,xs,rfl,h1,h2,h3,?_,.inr h4⟩;rintro⟨i,⟨s,ds',e,e'⟩,e2⟩;obtain⟨b,ys,q1,q2,_⟩:=g.own i s ds' e e';rw[e2]at q1;cases q1;rw[h4]at q2;cases q2
theorem cz.later{F1 H1 F2 H2:Hp}{ρ ρ1 ρ2:List Sl}{σ σ1 σ2:St}{v:V}{r:R}(a:bA K F ρ σ H F1 ρ1 σ1 H1)(h:cz K F2 ρ2 σ2 H2 ρ1 σ1 H1 v r):cz K F2 ρ2 σ2 H2 ρ σ H v r:=by cases r with|val d=>exact h|own ds=>
   obtain⟨b,xs,rfl,h1,h2,h3,h4,h5⟩:=h;refine⟨b,xs,rfl,h1,h2,h3,h4,?_⟩;rcases h5 with h5|h5;.exact a.xT b h5
   . by_cases ho:Own ρ σ b;.exact .inl ho
     .right;cases e:H b with|none=>rfl|some o=>rw[a.keep b o e ho]at h5;cases h5
end
end HH
end
section
namespace HH
open PySem L2 PySem.Spec PyProof.Rows
theorem ao{α β:Type}{x:Res α}{f:α->List Sl->Res β}{b:β}{ρ':List Sl}(h:x.bind f=.ok b ρ'):∃a ρ,x=.ok a ρ/\f a ρ=.ok b ρ':=by cases x with|ok a ρ=>exact⟨a,ρ,rfl,h⟩|exc _ _=>cases h|stuck=>cases h
theorem aM{α:Type}{o:Option α}{ρ ρ':List Sl}{a:α}(h:lift o ρ=.ok a ρ'):o=some a/\ρ=ρ':=by cases o with|none=>cases h|some b=>cases h;exact⟨rfl,rfl⟩
theorem map_some{α β:Type}{o:Option α}{f:α->β}{b:β}(h:o.map f=some b):∃a,o=some a/\f a=b:=by cases o with|none=>cases h|some a=>cases h;exact⟨a,rfl,rfl⟩
theorem gC{α β:Type}{o:Option α}{f:α->Option β}{b:β}(h:o.bind f=some b):∃a,o=some a/\f a=some b:=by cases o with|none=>cases h|some a=>exact⟨a,rfl,h⟩
theorem bM{α:Type}{c:Prop}[Decidable c]{a b:α}(h:(if c then some a else none)=some b):c/\a=b:=by
 split at h;.rename_i hc;cases h;exact⟨hc,rfl⟩
 .cases h
section
variable{X:Cx}{c:Call}{e a b:Expr}{p pa pb:P}{pos:Pos}
theorem dz{t t':TE}(h:PE X e t)(i:∀σ H Q,t' σ H Q->t σ H Q):PE X e t':=fun pins s σ H Q I q=>h pins s σ H Q I (i σ H Q q)
theorem Bd{t t':TT}(h:PT X e t)(i:∀σ H Q,t' σ H Q->t σ H Q):PT X e t':=fun pins s σ H Q I q=>h pins s σ H Q I (i σ H Q q)
theorem Im{t t':TT}(h:PW X e t)(i:∀σ H Q,t' σ H Q->t σ H Q):PW X e t':=fun wh pins s σ H Q I q=>h wh pins s σ H Q I (i σ H Q q)
theorem jz{es:List Expr}{t t':TA}(h:PA X es t)(i:∀σ H Q,t' σ H Q->t σ H Q):PA X es t':=fun pos pins s σ H Q I q=>h pos pins s σ H Q I (i σ H Q q)
inductive Bb(K:PySem.W.Frag)(f:Ev)(σ:L2.St)(H:Hp)(Q:VK):Prop where|mk(F:Hp)(ρ:List Sl)(r:R)(ρ':List Sl)(g:GS K F ρ σ H)(e:f ρ=.ok r ρ')(k:∀v F' H',bA K F ρ σ H F' ρ' σ H'->cz K F' ρ' σ H' ρ σ H v r->Q v H')
inductive HR(K:PySem.W.Frag)(f:List Sl->Res Bool)(σ:L2.St)(H:Hp)(Q:Bool->Hp->Prop):Prop where|mk(F:Hp)(ρ:List Sl)(b:Bool)(ρ':List Sl)(g:GS K F ρ σ H)(e:f ρ=.ok b ρ')(k:∀F' H',bA K F ρ σ H F' ρ' σ H'->Q b H')
inductive WN(K:PySem.W.Frag)(f:List Sl->Res (List D))(σ:L2.St)(H:Hp)(Q:List V->Hp->Prop):Prop where|mk(F:Hp)(ρ:List Sl)(ds:List D)(ρ':List Sl)(g:GS K F ρ σ H)(e:f ρ=.ok ds ρ')(k:∀vs F' H',bA K F ρ σ H F' ρ' σ H'->aD K F' vs ds->Q vs H')
structure SX(X:Cx)(c:Call)(e:Expr)(p:P):Prop where ev:PE X e (Bb X.K (HH.ev c p))var:∀i,isVar p=some i->PE X e (R6 i)
noncomputable def SA(X:Cx)(c:Call)(es:List Expr)(ps:List P):Prop:=PA X es (WN X.K (evs c ps))/\ps.length=es.length
theorem SX.cX(h:SX X c e p):∃t,PE X e t/\∀{σ:L2.St}{H F:Hp}{ρ ρ':List Sl}{d:D}{Q:VK},GS X.K F ρ σ H->cX (isVar p) (HH.ev c p) ρ=.ok d ρ'->(∀v F' H',bA X.K F ρ σ H F' ρ' σ H'->bT X.K F' H' v d->Q v H')->t σ H Q:=by cases hv:isVar p with|none=>refine⟨_,h.ev,fun{σ H F ρ ρ' d Q}g e k=>?_⟩;obtain⟨r,ρ1,e1,e2⟩:=ao e;cases e2;refine⟨F,ρ,r,_,g,e1,fun v F' H' s rr=>?_⟩;obtain⟨F'',s',_,rp⟩:=s.fc rr;exact k v F'' H' s' (.inl rp)|some i=>refine⟨_,h.var i hv,fun{σ H F ρ ρ' d Q}g e k=>?_⟩;obtain⟨e1,e2⟩:=aM e;subst e2;obtain⟨v,h1,h2⟩:=g.pk e1;exact⟨v,h1,k v F H (.refl g) h2⟩
theorem SX.kJ(ha:SX X c a pa)(hb:SX X c b pb):∃ta tb,PE X a ta/\PE X b tb/\∀{σ:L2.St}{H F:Hp}{ρ ρ':List Sl}{xy:D×D}{R:V->V->Hp->Prop},GS X.K F ρ σ H->kJ (isVar pa) (HH.ev c pa) (isVar pb) (HH.ev c pb) ρ=.ok xy ρ'->(∀v u F' H',bA X.K F ρ σ H F' ρ' σ H'->bT X.K F' H' v xy.1->bT X.K F' H' u xy.2->R v u H')->ta σ H fun x H1=>tb σ H1 fun y H2=>R x y H2:=by obtain⟨tb,hb1,hb2⟩:=hb.cX;cases hv:isVar pa with|none=>refine⟨_,tb,ha.ev,hb1,fun{σ H F ρ ρ' xy R}g e k=>?_⟩;obtain⟨x,ρ1,e1,e⟩:=ao e;obtain⟨y,ρ2,e2,e⟩:=ao e;cases e;obtain⟨r,ρ1',e1,e0⟩:=ao e1;cases e0;refine⟨F,ρ,r,_,g,e1,fun v F' H' s rr=>?_⟩;obtain⟨F1,s1,_,rp⟩:=s.fc rr;refine hb2 s1.gs e2 fun u F2 H2 s2 pu=>?_;exact k v u F2 H2 (s1.trans s2) (.inl (rp.mono s2.bV)) pu|some i=>refine⟨_,tb,ha.var i hv,hb1,fun{σ H F ρ ρ' xy R}g e k=>?_⟩;obtain⟨x0,ρ0,e0,e⟩:=ao e;obtain⟨ZX,zm⟩:=aM e0;subst zm;obtain⟨y,ρ1,e1,e⟩:=ao e;obtain⟨x,ρ2,e2,e⟩:=ao e;cases e;have zz:=aM e2;clear e2;obtain⟨e2,e3⟩:=zz;subst e3;obtain⟨v,h1,_⟩:=g.pk ZX;refine⟨v,h1,hb2 g e1 fun u F1 H1 s1 pu=>?_⟩;obtain⟨v',h1',pv⟩:=s1.gs.pk e2;rw[h1]at h1';cases h1';exact k v u F1 H1 s1 pv pu
inductive rD(K:PySem.W.Frag)(f:D->D->Option R)(x y:V)(H:Hp)(Q:VK):Prop where|mk(F:Hp)(d e:D)(r:R)(sm:aF F H)(px:bT K F H x d)(py:bT K F H y e)(he:f d e=some r)(k:∀v F' H',Ext F H F' H'->cM K F' H' H v r->Q v H')
inductive rD1(K:PySem.W.Frag)(f:D->Option R)(x:V)(H:Hp)(Q:VK):Prop where|mk(F:Hp)(d:D)(r:R)(sm:aF F H)(px:bT K F H x d)(he:f d=some r)(k:∀v F' H',Ext F H F' H'->cM K F' H' H v r->Q v H')
theorem vg{E:Expr}{f:D->D->Option R}{q:P}(hp:∀{ta tb},PE X a ta->PE X b tb->PE X E (Og (rD X.K f) ta tb))(ha:SX X c a pa)(hb:SX X c b pb)(hq:∀ρ,HH.ev c q ρ=(HH.kJ (isVar pa) (HH.ev c pa) (isVar pb) (HH.ev c pb) ρ).bind fun xy ρ=>lift (f xy.1 xy.2) ρ)(hv:isVar q=none):SX X c E q:=by obtain⟨ta,tb,h1,h2,h3⟩:=ha.kJ hb;refine⟨dz (hp h1 h2) ?_,fun i h=>by rw[hv]at h;cases h⟩;rintro σ H Q⟨F,ρ,r,ρ',g,e,k⟩;rw[hq]at e;obtain⟨xy,ρ1,e1,e2⟩:=ao e;have zz:=aM e2;clear e2;obtain⟨e2,e3⟩:=zz;subst e3;refine h3 g e1 fun v u F' H' s pv pu=>⟨F',xy.1,xy.2,r,s.gs.sub,pv,pu,e2,fun w F2 H2 x rn=>?_⟩;exact k w F2 H2 (s.trans (x.stp s.gs)) (.later s (rn.sO s.gs))
theorem Ln{E:Expr}{f:D->Option R}{q:P}(hp:∀{ta},PE X a ta->PE X E (tUn (rD1 X.K f) ta))(ha:SX X c a pa)(hq:∀ρ,HH.ev c q ρ=(HH.cX (isVar pa) (HH.ev c pa) ρ).bind fun x ρ=>lift (f x) ρ)(hv:isVar q=none):SX X c E q:=by obtain⟨ta,h1,h3⟩:=ha.cX;refine⟨dz (hp h1) ?_,fun i h=>by rw[hv]at h;cases h⟩;rintro σ H Q⟨F,ρ,r,ρ',g,e,k⟩;rw[hq]at e;obtain⟨x,ρ1,e1,e2⟩:=ao e;have zz:=aM e2;clear e2;obtain⟨e2,e3⟩:=zz;subst e3;refine h3 g e1 fun v F' H' s pv=>⟨F',x,r,s.gs.sub,pv,e2,fun w F2 H2 x rn=>?_⟩;exact k w F2 H2 (s.trans (x.stp s.gs)) (.later s (rn.sO s.gs))
theorem GS.freeze{K:PySem.W.Frag}{F H:Hp}{ρ:List Sl}{σ:L2.St}{i:Nat}{b:Bool}{ds:List D}(g:GS K F ρ σ H)(e:ρ[i]?=some (.own b ds)):∃v F',σ[i]?=some (some v)/\bA K F ρ σ H F' (ρ.set i (.val b (.lst ds))) σ H/\Rep K F' v (.lst ds):=by
 obtain⟨a,xs,h1,h2,h3,h4⟩:=g.je i _ ds e rfl;have hi:i<ρ.length:=(List.getElem?_eq_some_iff.mp e).1;have sm:aF F (upd F a (.lst xs)):=aF.cP h3;have rp:Rep K (upd F a (.lst xs)) (.ref a) (.lst ds):=by rw[Rep];exact⟨a,xs,rfl,dI.of aW,h4.mono sm⟩
 have oa:Own ρ σ a:=⟨i,⟨_,_,e,rfl⟩,h1⟩;have old:∀j x,bG (ρ.set i (.val b (.lst ds))) σ j x->bG ρ σ j x/\j≠i:=fun j x⟨⟨s,ds',q1,q2⟩,q3⟩=>by
  by_cases hj:j=i;.subst hj;rw[List.getElem?_set_self hi]at q1;cases q1;cases q2
  .rw[List.getElem?_set_ne (Ne.symm hj)]at q1;exact⟨⟨⟨s,ds',q1,q2⟩,q3⟩,hj⟩
 refine⟨.ref a,upd F a (.lst xs),h1,⟨⟨fun x o q=>?_,by simpa using g.len,fun j b' d q=>?_,fun j s ds' q q'=>?_,fun j k x q q'=>g.dis j k x (old j x q).1 (old k x q').1⟩,sm,fun x n n'=>?_,fun _ _ q _=>q,fun x⟨j,q⟩=>.inl ⟨j,(old j x q).1⟩,by simp,fun j s q l=>⟨rfl,?_⟩⟩,rp⟩
 . by_cases hx:x=a;.subst hx;rw[aW]at q;cases q;exact h2
   .rw[aJ hx]at q;exact g.sub x o q
 . by_cases hj:j=i;.subst hj;rw[List.getElem?_set_self hi]at q;cases q;exact⟨_,h1,rp⟩
   .rw[List.getElem?_set_ne (Ne.symm hj)]at q;obtain⟨v,q1,q2⟩:=g.val j b' d q;exact⟨v,q1,q2.mono sm⟩
 . by_cases hj:j=i;.subst hj;rw[List.getElem?_set_self hi]at q;cases q;cases q'
   . rw[List.getElem?_set_ne (Ne.symm hj)]at q;obtain⟨x,ys,q1,q2,q3,q4⟩:=g.own j s ds' q q';have hx:x≠a:=by rintro rfl;exact hj (g.dis j i x ⟨⟨s,ds',q,q'⟩,q1⟩ ⟨⟨_,_,e,rfl⟩,h1⟩)
     exact⟨x,ys,q1,q2,by rw[aJ hx];exact q3,q4.mono sm⟩
 . by_cases hx:x=a;.subst hx;exact .inl oa
   .rw[aJ hx]at n';exact absurd n n'
 . by_cases hj:j=i;.subst hj;rw[e]at q;cases q;refine⟨_,List.getElem?_set_self hi,?_⟩;cases b with|true=>exact .inr ⟨_,rfl⟩|false=>cases l
   .exact⟨s,by rw[List.getElem?_set_ne (Ne.symm hj)];exact q,.refl s⟩
theorem GS.Ej{K:PySem.W.Frag}{F H:Hp}{ρ:List Sl}{σ:L2.St}{i:Nat}{m:Dc}(g:GS K F ρ σ H)(e:ρ[i]?=some (.j7 m)):∃a,σ[i]?=some (some (.ref a))/\H a=some m.ho/\∀ob,bA K F ρ σ H (upd F a (.fc ob m.ho)) (ρ.set i (.val false (.cZ m))) σ (upd H a (.fc ob m.ho))/\Rep K (upd F a (.fc ob m.ho)) (.ref a) (.cZ m):=by
 obtain⟨a,o0,h1,h2,h3,h4⟩:=g.own i _ _ e rfl;cases(show o0=m.ho from h4);have hi:i<ρ.length:=(List.getElem?_eq_some_iff.mp e).1;refine⟨a,h1,h2,fun ob=>?_⟩;have sm:aF F (upd F a (.fc ob m.ho)):=aF.cP h3;have rp:Rep K (upd F a (.fc ob m.ho)) (.ref a) (.cZ m):=by rw[Rep];exact⟨a,ob,rfl,aW⟩
 have oa:Own ρ σ a:=⟨i,⟨_,_,e,rfl⟩,h1⟩;have old:∀j x,bG (ρ.set i (.val false (.cZ m))) σ j x->bG ρ σ j x/\j≠i:=fun j x⟨⟨s,ds',q1,q2⟩,q3⟩=>by
  by_cases hj:j=i;.subst hj;rw[List.getElem?_set_self hi]at q1;cases q1;cases q2
  .rw[List.getElem?_set_ne (Ne.symm hj)]at q1;exact⟨⟨⟨s,ds',q1,q2⟩,q3⟩,hj⟩
 refine⟨⟨⟨fun x o q=>?_,by simpa using g.len,fun j b' d q=>?_,fun j s ds' q q'=>?_,fun j k x q q'=>g.dis j k x (old j x q).1 (old k x q').1⟩,sm,fun x n n'=>?_,fun x o q n=>?_,fun x⟨j,q⟩=>.inl ⟨j,(old j x q).1⟩,by simp,fun j s q l=>⟨rfl,?_⟩⟩,rp⟩
 . by_cases hx:x=a;.subst hx;rw[aW]at q ⊢;exact q
   .rw[aJ hx]at q ⊢;exact g.sub x o q
 . by_cases hj:j=i;.subst hj;rw[List.getElem?_set_self hi]at q;cases q;exact⟨_,h1,rp⟩
   .rw[List.getElem?_set_ne (Ne.symm hj)]at q;obtain⟨v,q1,q2⟩:=g.val j b' d q;exact⟨v,q1,q2.mono sm⟩
 . by_cases hj:j=i;.subst hj;rw[List.getElem?_set_self hi]at q;cases q;cases q'
   . rw[List.getElem?_set_ne (Ne.symm hj)]at q;obtain⟨x,ys,q1,q2,q3,q4⟩:=g.own j s ds' q q';have hx:x≠a:=by rintro rfl;exact hj (g.dis j i x ⟨⟨s,ds',q,q'⟩,q1⟩ ⟨⟨_,_,e,rfl⟩,h1⟩)
     exact⟨x,ys,q1,by rw[aJ hx];exact q2,by rw[aJ hx];exact q3,q4.mono sm⟩
 . by_cases hx:x=a;.subst hx;exact .inl oa
   .rw[aJ hx]at n';exact absurd n n'
 . have hx:x≠a:=by rintro rfl;exact n oa
   rw[aJ hx];exact q
 . by_cases hj:j=i;.subst hj;rw[e]at q;cases q;cases l
   .exact⟨s,by rw[List.getElem?_set_ne (Ne.symm hj)];exact q,.refl s⟩
theorem GS.Hj{K:PySem.W.Frag}{F H:Hp}{ρ:List Sl}{σ:L2.St}{i:Nat}{kvs:List (Int×D)}(g:GS K F ρ σ H)(e:ρ[i]?=some (.iZ kvs)):∃a vs,σ[i]?=some (some (.ref a))/\H a=some (Bh (kvs.map (·.1)) vs)/\∀ob,bA K F ρ σ H (upd F a (.fc ob (Bh (kvs.map (·.1)) vs))) (ρ.set i (.val false (.dv (kvs.map (·.1)) (kvs.map (·.2))))) σ (upd H a (.fc ob (Bh (kvs.map (·.1)) vs)))/\Rep K (upd F a (.fc ob (Bh (kvs.map (·.1)) vs))) (.ref a) (.dv (kvs.map (·.1)) (kvs.map (·.2))):=by
 obtain⟨a,o0,h1,h2,h3,h4⟩:=g.own i _ _ e rfl;obtain⟨vs,rfl,h5⟩:=h4;have hi:i<ρ.length:=(List.getElem?_eq_some_iff.mp e).1;refine⟨a,vs,h1,h2,fun ob=>?_⟩;have sm:aF F (upd F a (.fc ob (Bh (kvs.map (·.1)) vs))):=aF.cP h3;have rp:Rep K (upd F a (.fc ob (Bh (kvs.map (·.1)) vs))) (.ref a) (.dv (kvs.map (·.1)) (kvs.map (·.2))):=by rw[Rep];exact⟨a,ob,vs,rfl,aW,h5.mono sm,by simp⟩
 have oa:Own ρ σ a:=⟨i,⟨_,_,e,rfl⟩,h1⟩;have old:∀j x,bG (ρ.set i (.val false (.dv (kvs.map (·.1)) (kvs.map (·.2))))) σ j x->bG ρ σ j x/\j≠i:=fun j x⟨⟨s,ds',q1,q2⟩,q3⟩=>by
  by_cases hj:j=i;.subst hj;rw[List.getElem?_set_self hi]at q1;cases q1;cases q2
  .rw[List.getElem?_set_ne (Ne.symm hj)]at q1;exact⟨⟨⟨s,ds',q1,q2⟩,q3⟩,hj⟩
 refine⟨⟨⟨fun x o q=>?_,by simpa using g.len,fun j b' d q=>?_,fun j s ds' q q'=>?_,fun j k x q q'=>g.dis j k x (old j x q).1 (old k x q').1⟩,sm,fun x n n'=>?_,fun x o q n=>?_,fun x⟨j,q⟩=>.inl ⟨j,(old j x q).1⟩,by simp,fun j s q l=>⟨rfl,?_⟩⟩,rp⟩
 . by_cases hx:x=a;.subst hx;rw[aW]at q ⊢;exact q
   .rw[aJ hx]at q ⊢;exact g.sub x o q
 . by_cases hj:j=i;.subst hj;rw[List.getElem?_set_self hi]at q;cases q;exact⟨_,h1,rp⟩
   .rw[List.getElem?_set_ne (Ne.symm hj)]at q;obtain⟨v,q1,q2⟩:=g.val j b' d q;exact⟨v,q1,q2.mono sm⟩
 . by_cases hj:j=i;.subst hj;rw[List.getElem?_set_self hi]at q;cases q;cases q'
   . rw[List.getElem?_set_ne (Ne.symm hj)]at q;obtain⟨x,ys,q1,q2,q3,q4⟩:=g.own j s ds' q q';have hx:x≠a:=by rintro rfl;exact hj (g.dis j i x ⟨⟨s,ds',q,q'⟩,q1⟩ ⟨⟨_,_,e,rfl⟩,h1⟩)
     exact⟨x,ys,q1,by rw[aJ hx];exact q2,by rw[aJ hx];exact q3,q4.mono sm⟩
 . by_cases hx:x=a;.subst hx;exact .inl oa
   .rw[aJ hx]at n';exact absurd n n'
 . have hx:x≠a:=by rintro rfl;exact n oa
   rw[aJ hx];exact q
 . by_cases hj:j=i;.subst hj;rw[e]at q;cases q;cases l
   .exact⟨s,by rw[List.getElem?_set_ne (Ne.symm hj)];exact q,.refl s⟩
theorem Inv.QD{X:Cx}{pins:List (Addr×Obj)}{σ:L2.St}{H:Hp}{s:Shared}{a:Addr}{kvs:List (Key×V)}(I:L2.Inv X pins σ H s)(h:H a=some (.dK kvs)):∃o,L2.Inv X pins σ (upd H a (.fc o (.dK kvs))) s:=by obtain⟨hz,hS,vs,r,dd⟩:=(show cB X.prog X.w H s.heap a (.dK kvs)from I.hok a _ h);obtain⟨o,ho,_⟩:=dd.typeIs;exact⟨o,I.write (h':=s.heap) (t':=s.toks) (by rw[h];exact trivial) (.inl rfl) (fun b u _ e=>e) ⟨o,ho⟩ ⟨ho,hz,hS,vs,r,dd⟩⟩
theorem Ma{i:Nat}{x:Str}(hN:X.N[i]?=some x)(hv:Ak X.env.scope x)(hd:(x==("__debug__":Str))=false:=by decide)(hcd:(x==("__classdict__":Str))=false:=by decide):SX X c (.Name x pos) (.var i):=by
 have h:=jh (X:=X) (pos:=pos) hN hv hd hcd;refine⟨?_,fun j hj=>by cases hj;exact h⟩;rintro pins s σ H Q I⟨F,ρ,r,ρ',g,e,k⟩;rw[HH.ev]at e;split at e;.rename_i b d q;cases e;obtain⟨v,h1,h2⟩:=g.val i b d q;exact h pins s σ H Q I ⟨v,h1,k v F H (.refl g) h2⟩
 .rename_i b ds q;cases e;obtain⟨v,F',h1,h2,h3⟩:=g.freeze q;exact h pins s σ H Q I ⟨v,h1,k v F' H h2 h3⟩
 .rename_i kvs q;cases e;obtain⟨a,h1,h2,h3⟩:=g.Ej q;refine dq (h pins s σ H (fun v H'=>v=.ref a/\H'=H) I ⟨.ref a,h1,rfl,rfl⟩) fun u s1⟨v,H1,I1,r1,e1,e2⟩=>?_;subst e1 e2;obtain⟨o,I2⟩:=Inv.QD I1 h2;exact⟨.ref a,_,I2,r1,k _ _ _ (h3 o).1 (h3 o).2⟩
 .rename_i kvs q;cases e;obtain⟨a,vs,h1,h2,h3⟩:=g.Hj q;refine dq (h pins s σ H (fun v H'=>v=.ref a/\H'=H) I ⟨.ref a,h1,rfl,rfl⟩) fun u s1⟨v,H1,I1,r1,e1,e2⟩=>?_;subst e1 e2;obtain⟨o,I2⟩:=Inv.QD I1 h2;exact⟨.ref a,_,I2,r1,k _ _ _ (h3 o).1 (h3 o).2⟩
 .cases e
theorem qj{d:D}{v:V}(h:PE X e (tC v))(hr:∀F,Rep X.K F v d):SX X c e (.con d):=⟨dz h fun σ H Q⟨F,ρ,r,ρ',g,e,k⟩=>by rw[HH.ev]at e;cases e;exact k v F H (.refl g) (hr F),fun i h=>by cases h⟩
theorem aa{i j}:SX X c (.Constant (.int i) j pos) (.con (.int i)):=qj Ke fun F=>by rw[Rep]
theorem wY{i j}:SX X c (.Constant (.bool i) j pos) (.con (.bl i)):=qj R1 fun F=>by rw[Rep]
theorem vD{j}:SX X c (.Constant .none j pos) (.con .non):=qj Mv fun F=>by rw[Rep]
theorem zH{i j}:SX X c (.Constant (.str i) j pos) (.con (.str i)):=qj J8 fun F=>by rw[Rep]
theorem ie{x:Str}{i:Int}{t:Tok}(hg:Gl X x)(hm:X.mg x=some (.int i t))(hd:(x==("__debug__":Str))=false:=by decide):SX X c (.Name x pos) (.glob x (.int i)):=⟨dz (iK (v:=.int i) hg hm ⟨t,rfl⟩ hd) fun σ H Q⟨F,ρ,r,ρ',g,e,k⟩=>by rw[HH.ev]at e;cases e;exact k (.int i) F H (.refl g) (show Rep X.K F (.int i) (.int i)by rw[Rep]),fun i h=>by cases h⟩
theorem bT.int{K:PySem.W.Frag}{F H:Hp}{v:V}{i:Int}(h:bT K F H v (.int i)):v=.int i:=by
 rcases h with h|⟨_,_,_,_,_,_,h⟩;.rw[Rep]at h;exact h
 .cases h
theorem bT.bl{K:PySem.W.Frag}{F H:Hp}{v:V}{i:Bool}(h:bT K F H v (.bl i)):v=.bl i:=by
 rcases h with h|⟨_,_,_,_,_,_,h⟩;.rw[Rep]at h;exact h
 .cases h
theorem bT.str{K:PySem.W.Frag}{F H:Hp}{v:V}{i:Str}(h:bT K F H v (.str i)):v=.str i:=by
 rcases h with h|⟨_,_,_,_,_,_,h⟩;.rw[Rep]at h;exact h
 .cases h
theorem bT.non{K:PySem.W.Frag}{F H:Hp}{v:V}(h:bT K F H v .non):v=.non:=by
 rcases h with h|⟨_,_,_,_,_,_,h⟩;.rw[Rep]at h;exact h
 .cases h
theorem bT.tup{K:PySem.W.Frag}{F H:Hp}{v:V}{ds:List D}(s:aF F H)(h:bT K F H v (.tup ds)):∃a xs,v=.ref a/\gw K H a xs/\aD K F xs ds/\Rep K F v (.tup ds):=by
 rcases h with h|⟨_,_,_,_,_,_,h⟩;.have h':=h;rw[Rep]at h;obtain⟨a,xs,rfl,h1,h2⟩:=h;exact⟨a,xs,rfl,aF.fU s h1,h2,h'⟩
 .cases h
theorem bT.lst{K:PySem.W.Frag}{F H:Hp}{v:V}{ds:List D}(s:aF F H)(h:bT K F H v (.lst ds)):∃a xs,v=.ref a/\dI K H a xs/\aD K F xs ds:=by
 rcases h with h|⟨a,xs,es,h1,h2,h3,h⟩;.rw[Rep]at h;obtain⟨a,xs,rfl,h1,h2⟩:=h;exact⟨a,xs,rfl,s.seq h1,h2⟩
 .cases h;exact⟨a,xs,h1,dI.of h2,h3⟩
theorem bT.cZ{K:PySem.W.Frag}{F H:Hp}{v:V}{m:Dc}(s:aF F H)(h:bT K F H v (.cZ m)):∃a o,v=.ref a/\H a=some (.fc o m.ho):=by
 rcases h with h|⟨_,_,_,_,_,_,h⟩;.rw[Rep]at h;obtain⟨a,o,rfl,h⟩:=h;exact⟨a,o,rfl,s _ _ h⟩
 .cases h
theorem BP{X:Cx}{pins:List (Addr×Obj)}{σ:L2.St}{H:Hp}{s:Shared}{a:Addr}{ob:Obj}{m:Dc}(I:L2.Inv X pins σ H s)(h:H a=some (.fc ob m.ho)):∃o,s.heap.get? a=some o/\o.cls=.type "dict":=by have z:=(show cB X.prog X.w H s.heap a (.fc ob m.ho)from I.hok a _ h).2;cases m with|k kvs=>obtain⟨_,_,vs,_,d2⟩:=(show cB X.prog X.w H s.heap a (.dK _)from z);exact d2.typeIs|t kvs=>obtain⟨_,_,xs,_,o,es,ep,h1,h2,_⟩:=(show cB X.prog X.w H s.heap a (.dT _)from z);exact⟨o,h1,h2.1⟩
theorem bT.dv{K:PySem.W.Frag}{F H:Hp}{v:V}{ks:List Int}{ds:List D}(s:aF F H)(h:bT K F H v (.dv ks ds)):∃a o vs,v=.ref a/\H a=some (.fc o (Bh ks vs))/\aD K F vs ds/\ks.length=ds.length:=by
 rcases h with h|⟨_,_,_,_,_,_,h⟩;.rw[Rep]at h;obtain⟨a,o,vs,rfl,h,h1,h2⟩:=h;exact⟨a,o,vs,rfl,s _ _ h,h1,h2⟩
 .cases h
theorem Ba{X:Cx}{pins:List (Addr×Obj)}{σ:L2.St}{H:Hp}{s:Shared}{a:Addr}{ob:Obj}{ks:List Int}{vs:List V}(I:L2.Inv X pins σ H s)(h:H a=some (.fc ob (Bh ks vs))):∃o,s.heap.get? a=some o/\o.cls=.type "dict":=by have z:=(show cB X.prog X.w H s.heap a (.fc ob (Bh ks vs))from I.hok a _ h).2;obtain⟨_,_,vs,_,d2⟩:=(show cB X.prog X.w H s.heap a (.dK _)from z);exact d2.typeIs
theorem bT.items{K:PySem.W.Frag}{F H:Hp}{v:V}{d:D}{ds:List D}(s:aF F H)(h:bT K F H v d)(e:items d=some ds):∃a xs,v=.ref a/\(dI K H a xs\/gw K H a xs)/\aD K F xs ds:=by cases d with|tup es=>cases e;obtain⟨a,xs,h1,h2,h3,_⟩:=h.tup s;exact⟨a,xs,h1,.inr h2,h3⟩|lst es=>cases e;obtain⟨a,xs,h1,h2,h3⟩:=h.lst s;exact⟨a,xs,h1,.inl h2,h3⟩|_=>cases e
theorem cM.eG{K:PySem.W.Frag}{F H:Hp}{Q:VK}{v:V}{d:D}(s:aF F H)(r:Rep K F v d)(k:∀v F' H',Ext F H F' H'->cM K F' H' H v (.val d)->Q v H'):Q v H:=k v F H (.refl s) r
theorem dD{K:PySem.W.Frag}{F:Hp}(i:Int):Rep K F (.int i) (.int i):=by rw[Rep]
theorem gG{K:PySem.W.Frag}{F:Hp}(i:Bool):Rep K F (.bl i) (.bl i):=by rw[Rep]
theorem Kc{K:PySem.W.Frag}{F:Hp}(i:Str):Rep K F (.str i) (.str i):=by rw[Rep]
theorem M7{K:PySem.W.Frag}{F:Hp}:Rep K F .non .non:=by rw[Rep]
theorem zP{K:PySem.W.Frag}{F H:Hp}{Q:VK}{xs:List V}{ds:List D}{p:Addr}(s:aF F H)(r:aD K F xs ds)(hp:H p=none)(k:∀v F' H',Ext F H F' H'->cM K F' H' H v (.own ds)->Q v H'):Q (.ref p) (upd H p (.lst xs)):=by
 have fp:F p=none:=by cases q:F p with|none=>rfl|some o=>rw[s p o q]at hp;cases hp
 exact k _ F _ ⟨aF.cP hp,.refl _,s.trans (aF.cP hp),fun _ a b=>absurd a b⟩ ⟨p,xs,rfl,aW,fp,r,hp⟩
theorem yf{K:PySem.W.Frag}{F H:Hp}{Q:VK}{xs:List V}{ds:List D}{p:Addr}(s:aF F H)(r:aD K F xs ds)(hp:H p=none)(k:∀v F' H',Ext F H F' H'->cM K F' H' H v (.val (.tup ds))->Q v H'):Q (.ref p) (upd H p (.tup xs)):=by
 have fp:F p=none:=by cases q:F p with|none=>rfl|some o=>rw[s p o q]at hp;cases hp
 have sm:aF F (upd F p (.tup xs)):=aF.cP fp;refine k _ (upd F p (.tup xs)) _ ⟨aF.cP hp,sm,fun b o e=>?_,fun b n n'=>?_⟩ ?_
 . by_cases hb:b=p;.subst hb;rw[aW]at e ⊢;exact e
   .rw[aJ hb]at e ⊢;exact s b o e
 . by_cases hb:b=p;.subst hb;exact lZ hp
   .rw[aJ hb]at n';exact absurd n n'
 .show Rep K _ _ (.tup ds);rw[Rep];exact⟨p,xs,rfl,gw.of aW,r.mono sm⟩
end
end HH
end
section
namespace HH
open PySem L2 PySem.Spec PyProof.Rows
theorem oO(k:Int)(t:Tok)(l:Addr)(its:Array Value)(n:Nat)(dd:Option Addr)(sl:Array (Option Value)):Meets (Builtin.«int.__rmul__» ⟨[.int k t,.ref l],[]⟩) (fun _ R s=>s.heap.get? l=some ⟨.type "list",dd,.seq its n,sl⟩/\R (.ok (.ret Value.notImplemented)) s):=.of_wp fun prog w A R s h=>by obtain⟨hp,g,d,tk,os⟩:=s;obtain⟨hl,h⟩:=h;wp_walk;exact⟨_,rfl,h⟩
theorem yQ(l:Addr)(its:Array Value)(n:Nat)(dd:Option Addr)(sl:Array (Option Value))(k:Int)(t:Tok)(h0:¬(!Builtin.List.listFitsIndex k)=true)(h1:¬its.size*k.toNat>(2^63-1)/8)(h2:¬Builtin.List.listTooLong (its.size*k.toNat)=true):Meets (Builtin.«list.__mul__» ⟨[.ref l,.int k t],[]⟩) (fun _ R s=>s.heap.get? l=some ⟨.type "list",dd,.seq its n,sl⟩/\R (.ok (.ret (Value.ref s.heap.objs.size))) {s with heap:=s.heap.push {cls:=.type "list",data:=.seq (List.foldl (·++·) #[] (List.replicate (if its.isEmpty=true then 0 else k.toNat) its))}}):=.of_wp fun prog w A R s h=>by obtain⟨hp,g,d,tk,os⟩:=s;obtain⟨hl,h⟩:=h;have hz:=AutoListH.joined_fits h2;wp_walk using wpAny_loadPart' hl;refine wpAny_ite_false (decide_eq_false (Nat.not_lt.mpr hz)) ?_;wp_walk;exact⟨_,rfl,h⟩
section
variable{X:Cx}{c:Call}{e a b d:Expr}{p pa pb pd:P}{pos:Pos}
theorem Ep:fJ X (binaryOp .Add) (fun x y H Q=>∃l b xs zs,x=.ref l/\y=.ref b/\dI X.K H l xs/\dI X.K H b zs/\xs.length+zs.length<=sizeLine/\∀p,H p=none->Q (.ref p) (upd H p (.lst (xs++zs)))):=by
 intro pins s σ H x y v u Q I rx ry h;obtain⟨l,b,xs,zs,rfl,rfl,hl,hb,hz,q⟩:=h;cases rx;cases ry;obtain⟨its,r,pl,_⟩:=I.list hl;obtain⟨its2,r2,Jq,_⟩:=I.list hb;obtain⟨⟨cls,dd,data,sl⟩,ho,hc,n,hd⟩:=id pl.isList;obtain⟨⟨cls2,dd2,data2,sl2⟩,ho2,hc2,n2,hd2⟩:=id Jq.isList;simp only at hc hd hc2 hd2;subst hc hd hc2 hd2;have e:its.toArray++its2.toArray=(its++its2).toArray:=by simp
 refine concat_meets ⟨_,ho,rfl⟩ ⟨_,ho2,rfl⟩ noFill_list_add seq_list_add PySem.F.slot_list_add PySem.F.entry_list_add (PySem.F.args_list_add_2 _ _) (list_addW l b its.toArray its2.toArray n n2 dd dd2 sl sl2 (by simp only[List.size_toArray];rw[<-r.length,<-r2.length];exact hz)) ⟨ho,ho2,?_⟩;rw[e];exact⟨.ref _,_,I.JK (t':=s.toks) (r.append r2) (by rw[List.length_append];exact hz),rfl,q _ I.fresh⟩
theorem Ax:fJ X (binaryOp .Add) (fun x y H Q=>∃a b ys,x=.ref a/\y=.ref b/\gw X.K H a []/\gw X.K H b ys/\Q (.ref b) H):=by intro pins s σ H x y v u Q I rx ry h;obtain⟨a,b,ys,rfl,rfl,ha,hb,q⟩:=h;cases rx;cases ry;obtain⟨its,r1,p1,_⟩:=I.tuple ha;obtain⟨its2,r2,p2,_⟩:=I.tuple hb;obtain⟨⟨cls,dd,data,sl⟩,ho,hc,n,hd⟩:=id p1;obtain⟨⟨cls2,dd2,data2,sl2⟩,ho2,hc2,n2,hd2⟩:=id p2;simp only at hc hd hc2 hd2;subst hc hd hc2 hd2;have e0:its=[]:=r1.mG.mpr rfl;subst e0;exact concat_meets ⟨_,ho,rfl⟩ ⟨_,ho2,rfl⟩ noFill_tuple_add seq_tuple_add PySem.F.slot_tuple_add PySem.F.entry_tuple_add (PySem.F.args_tuple_add_2 _ _) (tuple_addW0 a b _ its2.toArray n n2 dd dd2 sl sl2 (by simp)) ⟨ho,ho2,⟨.ref b,H,I,rfl,q⟩⟩
theorem aU:fJ X (binaryOp .Add) (rD X.K (tK .add)):=by
 rintro pins s σ H x y v u Q I rx ry⟨F,d,e,r,sm,px,py,he,k⟩;replace he:mZ d e=some r:=he;unfold mZ at he;split at he;.cases he;rw[px.int]at rx;rw[py.int]at ry;exact Nf pins s σ H _ _ v u Q I rx ry ⟨_,_,rfl,rfl,cM.eG sm (dD _) k⟩
 .rename_i xs ys;obtain⟨hl,he⟩:=bM he;subst he;obtain⟨a,vs,rfl,ha,ra⟩:=px.lst sm;obtain⟨b,us,rfl,hb,rb⟩:=py.lst sm;exact Ep pins s σ H _ _ v u Q I rx ry ⟨a,b,vs,us,rfl,rfl,ha,hb,by rw[ra.length,rb.length];exact hl,fun p hp=>zP sm (ra.append rb) hp k⟩
 . rename_i xs ys;obtain⟨hl,he⟩:=bM he;subst he;obtain⟨a,vs,rfl,ha,ra,ta⟩:=px.tup sm;obtain⟨b,us,rfl,hb,rb,tb⟩:=py.tup sm;by_cases h0:vs=[]
   . subst h0;have e0:xs=[]:=by have:=ra.length;exact List.eq_nil_of_length_eq_zero this.symm
     subst e0;exact Ax pins s σ H _ _ v u Q I rx ry ⟨a,b,us,rfl,rfl,ha,hb,cM.eG sm tb k⟩
   . refine Gv pins s σ H _ _ v u Q I rx ry ⟨a,b,vs,us,rfl,rfl,ha,hb,h0,by rw[ra.length,rb.length];exact hl,fun e=>?_,fun _ p hp=>yf sm (ra.append rb) hp k⟩;subst e;have e0:ys=[]:=by have:=rb.length;exact List.eq_nil_of_length_eq_zero this.symm
     subst e0;rw[List.append_nil]at k;exact cM.eG sm ta k
 .rename_i x1 y1;obtain⟨hl,he⟩:=bM he;subst he;rw[px.str]at rx;rw[py.str]at ry;exact vo pins s σ H _ _ v u Q I rx ry ⟨_,_,rfl,rfl,hl,cM.eG sm (Kc _) k⟩
 .cases he
theorem dg:fJ X (binaryOp .Sub) (rD X.K (tK .sub)):=by
 rintro pins s σ H x y v u Q I rx ry⟨F,d,e,r,sm,px,py,he,k⟩;replace he:sI d e=some r:=he;unfold sI at he;split at he;.cases he;rw[px.int]at rx;rw[py.int]at ry;exact LR pins s σ H _ _ v u Q I rx ry ⟨_,_,rfl,rfl,cM.eG sm (dD _) k⟩
 .cases he
theorem Hg:fJ X (binaryOp .Mult) (fun x y H Q=>∃l k xs,x=.ref l/\y=.int k/\dI X.K H l xs/\-(2^63)<=k/\k<2^63/\xs.length*k.toNat<=sizeLine/\∀p,H p=none->Q (.ref p) (upd H p (.lst (List.replicate k.toNat xs).flatten))):=by
 intro pins s σ H x y v u Q I rx ry h;obtain⟨l,k,xs,rfl,rfl,hl,h1,h2,hz,q⟩:=h;cases rx;obtain⟨t,rfl⟩:=ry;obtain⟨its,r,pl,_⟩:=I.list hl;obtain⟨⟨cls,dd,data,sl⟩,ho,hc,n,hd⟩:=id pl.isList;simp only at hc hd;subst hc hd;have hlen:its.toArray.size*k.toNat<=sizeLine:=by rw[List.size_toArray,<-r.length];exact hz
 have ZZ:¬ its.toArray.size*k.toNat>(2^63-1)/8:=by
  have:(sizeLine:Nat)<=(2^63-1)/8:=by decide
  omega
 have hnew:List.foldl (·++·) #[] (List.replicate (if its.toArray.isEmpty=true then 0 else k.toNat) its.toArray)=(List.replicate k.toNat its).flatten.toArray:=by
  have f0:∀m:Nat,List.foldl (·++·) #[] (List.replicate m its.toArray)=(List.replicate m its).flatten.toArray:=fun m=>by have:=foldl_rep its m [];rw[List.nil_append]at this;exact this
  rw[f0];cases its with|nil=>simp|cons a r'=>rw[if_neg (by simp)]
 refine wpAny_binaryOp_repeat_ref (T:="list") (U:="int") (by decide) ⟨_,ho,rfl⟩ (fun s'=>typeIs_int s' k t) noFill_list_mul F.fills_int_mul F.slot_int_rmul repeat_list F.slot_int_index.lookup ?_;refine call_meets F.slot_int_rmul (typeIs_int s k t) F.entry_int_rmul (F.args_int_rmul_2 _ _) (oO k t l its.toArray n dd sl) ⟨ho,rfl,⟨_,ho,rfl⟩,?_⟩;refine call_meets F.slot_list_mul ⟨_,ho,rfl⟩ F.entry_list_mul (F.args_list_mul_2 _ _) (yQ l its.toArray n dd sl k t (by rw[fitsIndex_both h1 h2];exact Bool.false_ne_true) ZZ (by rw[ud hlen];exact Bool.false_ne_true)) ⟨ho,?_⟩;rw[hnew];exact⟨.ref _,_,I.JK (t':=s.toks) (r.rep k.toNat) (by rw[len_rep,Nat.mul_comm];exact hz),rfl,q _ I.fresh⟩
theorem kO:fillsNumberSlot (.type "tuple") "mul"=pure false:=PySem.fillsNumberSlot_seq (id:="tuple.__mul__") (r:=some (.builtin "tuple.__rmul__")) PySem.F.slot_tuple_mul.lookup (by decide+kernel) PySem.F.slot_tuple_rmul.lookup (by decide+kernel)
theorem pU:seqRepeat? (.type "tuple")=pure (some (.builtin "tuple.__mul__")):=by unfold seqRepeat?;rw[PySem.seqSlot_of (T:="tuple") (name:="__mul__") (id:="tuple.__mul__") PySem.F.slot_tuple_mul.lookup (by decide+kernel),PySem.seqSlot_of (T:="tuple") (name:="__rmul__") (id:="tuple.__rmul__") PySem.F.slot_tuple_rmul.lookup (by decide+kernel)];rfl
theorem nG(k:Int)(t:Tok)(l:Addr)(its:Array Value)(n:Nat)(dd:Option Addr)(sl:Array (Option Value)):Meets (Builtin.«int.__rmul__» ⟨[.int k t,.ref l],[]⟩) (fun _ R s=>s.heap.get? l=some ⟨.type "tuple",dd,.seq its n,sl⟩/\R (.ok (.ret Value.notImplemented)) s):=.of_wp fun prog w A R s h=>by obtain⟨hp,g,d,tk,os⟩:=s;obtain⟨hl,h⟩:=h;wp_walk;exact⟨_,rfl,h⟩
theorem vG(l:Addr)(its:Array Value)(n:Nat)(dd:Option Addr)(sl:Array (Option Value))(k:Int)(t:Tok)(h0:0<=k)(h1:k<2^63)(hz:its.size*k.toNat<=sizeLine)(hne:0<its.size):Meets (Builtin.«tuple.__mul__» ⟨[.ref l,.int k t],[]⟩) (fun _ R s=>s.heap.get? l=some ⟨.type "tuple",dd,.seq its n,sl⟩/\(k=1->R (.ok (.ret (Value.ref l))) s)/\(k≠1->R (.ok (.ret (Value.ref s.heap.objs.size))) {s with heap:=s.heap.push {cls:=.type "tuple",data:=.seq (List.foldl (·++·) #[] (List.replicate k.toNat its))}})):=.of_wp fun prog w A R s h=>by
  obtain⟨hp,g,d,tk,os⟩:=s;obtain⟨hl,q1,q2⟩:=h;have hem:its.isEmpty=false:=by cases e:its.isEmpty with|false=>rfl|true=>rw[Array.isEmpty_iff_size_eq_zero]at e;omega
  show wpAny _ _ (asIndex (.int k t)>>=_) _ _ _;wp_walk using wpAny_loadPart' hl;have hI:IsTup hp l its:=⟨_,hl,rfl,n,rfl⟩;rw[if_neg (by simp;omega)];refine wpAny_bind (PyProof.Rows.tupleItemsOf_ hI ?_);try dsimp only
  by_cases e1:k=1;.rw[if_pos (by simp[e1])];wp_walk using wpAny_loadPart' hl;exact⟨_,rfl,q1 e1⟩
  . have q:=q2 e1;rw[if_neg (by simp[hem,e1])];by_cases e0:k=0;.subst e0;rw[if_pos (by simp)];unfold Builtin.Tuple.tupleExact;refine wpAny_bind (wpAny_newObj_type ?_);exact wpAny_pure ⟨_,rfl,q⟩
    . have hb:(its.size:Int)*k<=sizeLine:=by
       have:((its.size*k.toNat:Nat):Int)<=(sizeLine:Nat):=by exact_mod_cast hz
       rw[Int.natCast_mul,show((k.toNat:Nat):Int)=k by omega]at this;exact this
      have hs2:(sizeLine:Int)<=(2^63-1)/8:=by decide
      rw[if_neg (by simp[hem];omega),if_neg (by omega),if_neg (by simp[Builtin.Tuple.tupleTooMany];omega)];unfold Builtin.Tuple.tupleExact;refine wpAny_bind (wpAny_newObj_type ?_ ?_);.exact wpAny_pure ⟨_,rfl,q⟩
      .have:=foldl_rep its.toList k.toNat [];rw[List.nil_append,show its.toList.toArray=its by simp]at this;show(List.foldl (·++·) #[] (List.replicate k.toNat its)).size<=sizeLine;rw[show(#[]:Array Value)=([]:List Value).toArray from rfl,this,List.size_toArray,len_rep,Array.length_toList,Nat.mul_comm];exact hz
theorem GR:fJ X (binaryOp .Mult) (fun x y H Q=>∃l k xs,x=.ref l/\y=.int k/\gw X.K H l xs/\0<xs.length/\0<=k/\k<2^63/\xs.length*k.toNat<=sizeLine/\(k=1->Q (.ref l) H)/\(k≠1->∀p,H p=none->Q (.ref p) (upd H p (.tup (List.replicate k.toNat xs).flatten)))):=by
 intro pins s σ H x y v u Q I rx ry h;obtain⟨l,k,xs,rfl,rfl,hl,hne,h1,h2,hz,qa,qb⟩:=h;cases rx;obtain⟨t,rfl⟩:=ry;obtain⟨its,r,pl,_⟩:=I.tuple hl;obtain⟨⟨cls,dd,data,sl⟩,ho,hc,n,hd⟩:=id pl;simp only at hc hd;subst hc hd;have hlen:its.toArray.size*k.toNat<=sizeLine:=by rw[List.size_toArray,<-r.length];exact hz
 have hnew:List.foldl (·++·) #[] (List.replicate k.toNat its.toArray)=(List.replicate k.toNat its).flatten.toArray:=by have:=foldl_rep its k.toNat [];rw[List.nil_append]at this;exact this
 refine wpAny_binaryOp_repeat_ref (T:="tuple") (U:="int") (by decide) ⟨_,ho,rfl⟩ (fun s'=>typeIs_int s' k t) kO F.fills_int_mul F.slot_int_rmul pU F.slot_int_index.lookup ?_;refine call_meets F.slot_int_rmul (typeIs_int s k t) F.entry_int_rmul (F.args_int_rmul_2 _ _) (nG k t l its.toArray n dd sl) ⟨ho,rfl,⟨_,ho,rfl⟩,?_⟩;refine call_meets PySem.F.slot_tuple_mul ⟨_,ho,rfl⟩ PySem.F.entry_tuple_mul (PySem.F.args_tuple_mul_2 _ _) (vG l its.toArray n dd sl k t h1 h2 hlen (by rw[List.size_toArray,<-r.length];exact hne)) ⟨ho,fun e=>⟨.ref l,H,I,rfl,qa e⟩,fun e=>?_⟩;rw[hnew];refine⟨.ref s.heap.objs.size,_,I.laid (t':=s.toks) (o:=.tup (List.replicate k.toNat xs).flatten) (fun b ob q=>Heap.get?_push_of_some _ q) (Nat.le_refl _) ?_,rfl,qb e _ (I.hok.fresh (Nat.le_refl _))⟩;exact⟨by rw[len_rep,Nat.mul_comm];exact hz,_,r.rep k.toNat,IsTup.new _ _⟩
theorem jR:fJ X (binaryOp .Mult) (rD X.K (tK .mul)):=by
 rintro pins s σ H x y v u Q I rx ry⟨F,d,e,r,sm,px,py,he,k⟩;replace he:oA d e=some r:=he;unfold oA at he;split at he;.obtain⟨hc,he⟩:=bM he;subst he;rw[px.int]at rx;rw[py.int]at ry;exact Ku pins s σ H _ _ v u Q I rx ry ⟨_,_,rfl,rfl,hc,cM.eG sm (dD _) k⟩
 . rename_i xs i;obtain⟨⟨h1,h2,h3⟩,he⟩:=bM he;subst he;obtain⟨a,vs,rfl,ha,ra⟩:=px.lst sm;rw[py.int]at ry;have hk:i<2^63:=by have h4:=Nat.le_mul_of_pos_left i.toNat h2;have h5:i.toNat<=16777216:=Nat.le_trans h4 h3;omega
   exact Hg pins s σ H _ _ v u Q I rx ry ⟨a,i,vs,rfl,rfl,ha,by omega,hk,by rw[ra.length];exact h3,fun p hp=>zP sm (ra.rep i.toNat) hp k⟩
 . rename_i xs i;obtain⟨⟨h1,h2,h3⟩,he⟩:=bM he;subst he;obtain⟨a,vs,rfl,ha,ra,rr⟩:=px.tup sm;rw[py.int]at ry;have hk:i<2^63:=by have h4:=Nat.le_mul_of_pos_left i.toNat h2;have h5:i.toNat<=16777216:=Nat.le_trans h4 h3;omega
   refine GR pins s σ H _ _ v u Q I rx ry ⟨a,i,vs,rfl,rfl,ha,by rw[ra.length];exact h2,h1,hk,by rw[ra.length];exact h3,fun e=>?_,fun e p hp=>yf sm (ra.rep i.toNat) hp k⟩;subst e;refine cM.eG sm ?_ k;have e1:(List.replicate (1:Int).toNat xs).flatten=xs:=by simp
   rw[e1];exact rr
 .cases he
theorem sE:fJ X (binaryOp .FloorDiv) (rD X.K (tK .fdiv)):=by
 rintro pins s σ H x y v u Q I rx ry⟨F,d,e,r,sm,px,py,he,k⟩;replace he:nM d e=some r:=he;unfold nM at he;split at he
 . rename_i i j;obtain⟨⟨h1,h2⟩,he⟩:=bM he;subst he;rw[px.int]at rx;rw[py.int]at ry;obtain⟨t,rfl⟩:=rx;obtain⟨t',rfl⟩:=ry;have hl:j.natAbs.log2<9000:=by
    have:j.natAbs<2^200:=by
     have:(2:Nat)^200=1606938044258990275541962092341162602522202993782792835301376:=by decide
     omega
    have h3:=(Nat.log2_lt (by omega)).mpr this;omega
   exact floordiv_int (by omega) (by rw[Int.fdiv_eq_ediv_of_nonneg i (by omega)];exact⟨.int _,H,I.tok _,⟨_,rfl⟩,cM.eG sm (dD _) k⟩) (.inl (PyProof.noPylong_of_log2 hl))
 .cases he
theorem gh:fJ X (binaryOp .Mod) (rD X.K (tK .mod)):=by
 rintro pins s σ H x y v u Q I rx ry⟨F,d,e,r,sm,px,py,he,k⟩;replace he:tU d e=some r:=he;unfold tU at he;split at he;.obtain⟨h1,he⟩:=bM he;subst he;rw[px.int]at rx;rw[py.int]at ry;exact JP pins s σ H _ _ v u Q I rx ry ⟨_,_,rfl,rfl,h1,cM.eG sm (dD _) k⟩
 .cases he
theorem mK:fJ X (binaryOp .Pow) (rD X.K (tK .pow)):=by
 rintro pins s σ H x y v u Q I rx ry⟨F,d,e,r,sm,px,py,he,k⟩;replace he:rN d e=some r:=he;unfold rN at he;split at he;.obtain⟨⟨h1,h2,h3⟩,he⟩:=bM he;subst he;rw[px.int]at rx;rw[py.int]at ry;exact Mt pins s σ H _ _ v u Q I rx ry ⟨_,_,rfl,rfl,⟨h1,by omega,h3⟩,cM.eG sm (dD _) k⟩
 .cases he
theorem aB{o:Op}{op:Operator}(ho:fJ X (binaryOp op) (rD X.K (tK o)))(ha:SX X c a pa)(hb:SX X c b pb):SX X c (.BinOp a op b pos) (.bin o pa pb):=vg (fun h1 h2=>R9 ho h1 h2) ha hb (fun ρ=>by rw[HH.ev]) rfl
theorem jm(ha:SX X c a pa):SX X c (.UnaryOp .USub a pos) (.neg pa):=by refine Ln (f:=Hb) (fun h1=>QF ?_ h1) ha (fun ρ=>by rw[HH.ev]) rfl;rintro pins s σ H x v Q I rx⟨F,d,r,sm,px,he,k⟩;unfold Hb at he;obtain⟨i,e1,e2⟩:=map_some he;subst e2;cases d<;>cases e1;rw[px.int]at rx;exact K3 pins s σ H _ v Q I rx ⟨_,rfl,cM.eG sm (dD _) k⟩
theorem wL{op:CmpOp}{f:Int->Int->Bool}(ho:fJ X (compareOp op) (Fe fun i j=>.bl (f i j))):fJ X (compareOp op) (rD X.K fun x y=>(Dz f x y).map fun k=>.val (.bl k)):=by
 rintro pins s σ H x y v u Q I rx ry⟨F,d,e,r,sm,px,py,he,k⟩;obtain⟨t,e1,e2⟩:=map_some (show(Dz f d e).map _=some r from he);subst e2;unfold Dz at e1;split at e1;.cases e1;rw[px.int]at rx;rw[py.int]at ry;exact ho pins s σ H _ _ v u Q I rx ry ⟨_,_,rfl,rfl,cM.eG sm (gG _) k⟩
 .cases e1
theorem Dl{op:CmpOp}{f:Int->Int->Bool}(ho:fJ X (compareOp op) (Fe fun i j=>.bl (f i j))){o:Cm}(hc:cm o=Dz f):fJ X (compareOp op) (rD X.K (rH o)):=by
 have e:rH o=fun x y=>(Dz f x y).map fun k=>.val (.bl k):=by funext x y;unfold rH;rw[hc]
 rw[e];exact wL ho
theorem K7:fJ X (compareOp .Lt) (rD X.K fun x y=>(Dz (fun i j=>decide (i<j)) x y).map fun k=>.val (.bl k)):=wL QV
theorem dY:fJ X (compareOp .Gt) (rD X.K (rH .gt)):=Dl Ri rfl
theorem Mz:fJ X (compareOp .GtE) (rD X.K (rH .ge)):=Dl QG rfl
theorem yG{K:PySem.W.Frag}{F H:Hp}{v:V}{d:D}(h:bT K F H v d):decide (v=.non)=gV d:=by cases d with
 |non=>rw[h.non];rfl|bl _=>rw[h.bl];rfl|int _=>rw[h.int];rfl|str _=>rw[h.str];rfl|tup _=>
   rcases h with h|⟨a,_,_,rfl,_⟩;.rw[Rep]at h;obtain⟨a,_,rfl,_⟩:=h;rfl
   .rfl|lst _=>
   rcases h with h|⟨a,_,_,rfl,_⟩;.rw[Rep]at h;obtain⟨a,_,rfl,_⟩:=h;rfl
   .rfl|cZ _=>
   rcases h with h|⟨a,_,_,rfl,_⟩;.rw[Rep]at h;obtain⟨a,_,rfl,_⟩:=h;rfl
   .rfl|dv _ _=>
   rcases h with h|⟨a,_,_,rfl,_⟩;.rw[Rep]at h;obtain⟨a,_,_,rfl,_⟩:=h;rfl
   .rfl
theorem zU:fJ X (compareOp .Is) (rD X.K (rH .Ua)):=by
 rintro pins s σ H x y v u Q I rx ry⟨F,d,e,r,sm,px,py,he,k⟩;obtain⟨t,e1,e2⟩:=map_some (show(U0 false d e).map _=some r from he);subst e2;unfold U0 at e1;split at e1;.cases e1;exact Lx pins s σ H x y v u Q I rx ry ⟨py.non,by rw[yG px];exact cM.eG sm (gG _) k⟩
 .cases e1
theorem vJ{o:Cm}{op:CmpOp}(ho:fJ X (compareOp op) (rD X.K (rH o)))(ha:SX X c a pa)(hb:SX X c b pb)(hm:behindInMarks op b=false):SX X c (.Compare a [op] [b] pos) (.cmp o pa pb):=vg (fun h1 h2=>Fv ho h1 h2 hm) ha hb (fun ρ=>by rw[HH.ev]) rfl
end
end HH
end
section
namespace HH
open PySem L2 PySem.Spec PyProof.Rows
section
variable{X:Cx}{c:Call}{e a b d:Expr}{p pa pb pd:P}{pos:Pos}{rest:List Expr}
theorem mV{x:D}{k:Bool}(h:tM x=some k):x=.bl k:=by cases x<;>cases h;rfl
theorem m5{x:D}{k:Int}(h:fL x=some k):x=.int k:=by cases x<;>cases h;rfl
theorem cz.bool{K:PySem.W.Frag}{F' H' H:Hp}{ρ' ρ:List Sl}{σ' σ:L2.St}{v:V}{r:R}{k:Bool}(h:cz K F' ρ' σ' H' ρ σ H v r)(e:r.d=.bl k):v=.bl k:=by cases r with|val d=>cases(show d=.bl k from e);have h:Rep K F' v (.bl k):=h;rw[Rep]at h;exact h|own ds=>cases e
noncomputable def ST(X:Cx)(c:Call)(e:Expr)(p:P):Prop:=PT X e (HR X.K (fO (HH.ev c p)))
noncomputable def SW(X:Cx)(c:Call)(e:Expr)(p:P):Prop:=PW X e (HR X.K (fO (HH.ev c p)))
theorem SW.st(h:SW X c e p):ST X c e p:=PW.pt h
theorem p7{t:TE}{Q:Bool->Hp->Prop}{σ:L2.St}{H:Hp}(hi:∀Q,Bb X.K (HH.ev c p) σ H Q->t σ H Q)(h:HR X.K (fO (HH.ev c p)) σ H Q):t σ H fun x H1=>∃k,x=.bl k/\Q k H1:=by obtain⟨F,ρ,k,ρ',g,e,q⟩:=h;obtain⟨r,ρ1,e1,e2⟩:=ao e;have zz:=aM e2;clear e2;obtain⟨e2,e3⟩:=zz;subst e3;exact hi _ ⟨F,ρ,r,ρ1,g,e1,fun v F' H' s rr=>⟨k,rr.bool (mV e2),q F' H' s⟩⟩
theorem uO(h:SX X c e p)(he:∀whole,isTrue e X.env whole=(do let v<-whole;standAt e.pos;holding [v] (truthy v)):=by intro _;rfl):ST X c e p:=Bd (Cr h.ev he) fun σ H Q q=>p7 (fun _ z=>z) q
theorem aO{o:Cm}{op:CmpOp}(ho:fJ X (compareOp op) (rD X.K (rH o)))(ha:SX X c a pa)(hb:SX X c b pb)(hm:behindInMarks op b=false):ST X c (.Compare a [op] [b] pos) (.cmp o pa pb):=by obtain⟨ta,tb,h1,h2,h3⟩:=ha.kJ hb;refine Bd (Ez ho h1 h2 hm) fun σ H Q q=>p7 (t:=Og (rD X.K (rH o)) ta tb) (fun Q z=>?_) q;obtain⟨F,ρ,r,ρ',g,e,k⟩:=z;rw[HH.ev]at e;obtain⟨xy,ρ1,e1,e2⟩:=ao e;have zz:=aM e2;clear e2;obtain⟨e2,e3⟩:=zz;subst e3;refine h3 g e1 fun v u F' H' s pv pu=>⟨F',xy.1,xy.2,r,s.gs.sub,pv,pu,e2,fun w F2 H2 x rn=>?_⟩;exact k w F2 H2 (s.trans (x.stp s.gs)) (.later s (rn.sO s.gs))
theorem Bl(ha:ST X c a pa):ST X c (.UnaryOp .Not a pos) (.not pa):=by
 refine Bd (An ha) ?_;rintro σ H Q⟨F,ρ,k,ρ',g,e,q⟩;unfold fO at e;rw[HH.ev]at e;obtain⟨r,ρ1,e1,e2⟩:=ao e;obtain⟨k',ρ2,e3,e4⟩:=ao e1;cases e4;have zz:=aM e2;clear e2;obtain⟨e2,e5⟩:=zz;subst e5;have e2:(!k')=k:=by cases e2;rfl
 exact⟨F,ρ,k',_,g,e3,fun F' H' s=>by show Q (!k') H';rw[e2];exact q F' H' s⟩
theorem GZ(ρ:List Sl):fO (HH.ev c (.and pa pb)) ρ=(fO (HH.ev c pa) ρ).bind fun x ρ=>if x then fO (HH.ev c pb) ρ else .ok false ρ:=by unfold fO;rw[HH.ev];unfold fO;cases HH.ev c pa ρ with|exc _ _=>rfl|stuck=>rfl|ok r ρ1=>simp only[Res.bind];cases h:tM r.d with|none=>rfl|some k=>cases k with|false=>rfl|true=>simp only[lift,if_true];cases HH.ev c pb ρ1 with|exc _ _=>rfl|stuck=>rfl|ok r2 ρ2=>simp only[Res.bind];cases h2:tM r2.d with|none=>rfl|some k2=>rfl
theorem MF(ρ:List Sl):fO (HH.ev c (.or pa pb)) ρ=(fO (HH.ev c pa) ρ).bind fun x ρ=>if x then .ok true ρ else fO (HH.ev c pb) ρ:=by unfold fO;rw[HH.ev];unfold fO;cases HH.ev c pa ρ with|exc _ _=>rfl|stuck=>rfl|ok r ρ1=>simp only[Res.bind];cases h:tM r.d with|none=>rfl|some k=>cases k with|true=>rfl|false=>simp only[lift,Bool.false_eq_true,if_false];cases HH.ev c pb ρ1 with|exc _ _=>rfl|stuck=>rfl|ok r2 ρ2=>simp only[Res.bind];cases h2:tM r2.d with|none=>rfl|some k2=>rfl
theorem jJ(ha:ST X c a pa):SW X c (.BoolOp .And [a] pos) pa:=wj ha
theorem JR(ha:ST X c a pa):SW X c (.BoolOp .Or [a] pos) pa:=Mi ha
theorem lz(ha:ST X c a pa)(hb:SW X c (.BoolOp .And (b::rest) pos) pb):SW X c (.BoolOp .And (a::b::rest) pos) (.and pa pb):=by refine Im (Ce ha hb) ?_;rintro σ H Q⟨F,ρ,k,ρ',g,e,q⟩;rw[GZ]at e;obtain⟨x,ρ1,e1,e⟩:=ao e;refine⟨F,ρ,x,ρ1,g,e1,fun F1 H1 s1=>?_⟩;cases x with|true=>rw[if_pos rfl]at e ⊢;exact⟨F1,ρ1,k,ρ',s1.gs,e,fun F2 H2 s2=>q F2 H2 (s1.trans s2)⟩|false=>rw[if_neg Bool.false_ne_true]at e ⊢;cases e;exact q F1 H1 s1
theorem Tr(ha:ST X c a pa)(hb:SW X c (.BoolOp .Or (b::rest) pos) pb):SW X c (.BoolOp .Or (a::b::rest) pos) (.or pa pb):=by refine Im (QC ha hb) ?_;rintro σ H Q⟨F,ρ,k,ρ',g,e,q⟩;rw[MF]at e;obtain⟨x,ρ1,e1,e⟩:=ao e;refine⟨F,ρ,x,ρ1,g,e1,fun F1 H1 s1=>?_⟩;cases x with|true=>rw[if_pos rfl]at e ⊢;cases e;exact q F1 H1 s1|false=>rw[if_neg Bool.false_ne_true]at e ⊢;exact⟨F1,ρ1,k,ρ',s1.gs,e,fun F2 H2 s2=>q F2 H2 (s1.trans s2)⟩
theorem Lw(ha:SX X c a pa):SX X c (.UnaryOp .Not a pos) (.not pa):=by refine⟨dz (Kq ha.ev) ?_,fun i h=>by cases h⟩;rintro σ H Q⟨F,ρ,r,ρ',g,e,k⟩;rw[HH.ev]at e;obtain⟨x,ρ1,e1,e2⟩:=ao e;cases e2;exact p7 (c:=c) (fun _ z=>z) ⟨F,ρ,x,_,g,e1,fun F' H' s=>k _ F' H' s (show Rep X.K F' _ _ from gG _)⟩
theorem wR{op}(ha:SX X c a pa):PE X (.BoolOp op [a] pos) (Bb X.K (HH.ev c pa)):=J6 ha.ev
theorem uX(ha:SX X c a pa)(hb:PE X (.BoolOp .And (b::rest) pos) (Bb X.K (HH.ev c pb))):SX X c (.BoolOp .And (a::b::rest) pos) (.and pa pb):=by refine⟨dz (Ly ha.ev hb) ?_,fun i h=>by cases h⟩;rintro σ H Q⟨F,ρ,r,ρ',g,e,k⟩;rw[HH.ev]at e;obtain⟨x,ρ1,e1,e⟩:=ao e;refine p7 (c:=c) (fun _ z=>z) (Q:=fun x H1=>if x=true then Bb X.K (HH.ev c pb) σ H1 Q else Q (.bl false) H1) ⟨F,ρ,x,ρ1,g,e1,fun F1 H1 s1=>?_⟩;cases x with|true=>rw[if_pos rfl]at e ⊢;obtain⟨y,ρ2,e2,e3⟩:=ao e;cases e3;obtain⟨r2,ρ3,e4,e5⟩:=ao e2;have zz:=aM e5;clear e5;obtain⟨e5,e6⟩:=zz;subst e6;refine⟨F1,ρ1,r2,_,s1.gs,e4,fun v F2 H2 s2 rr=>?_⟩;rw[rr.bool (mV e5)];exact k _ F2 H2 (s1.trans s2) (show Rep X.K F2 _ _ from gG _)|false=>rw[if_neg Bool.false_ne_true]at e ⊢;cases e;exact k _ F1 H1 s1 (show Rep X.K F1 _ _ from gG _)
theorem qg:∀{ps:List P}{ρ ρ':List Sl}{ds:List D},evs c ps ρ=.ok ds ρ'->ds.length=ps.length|[],_,_,_,h=>by rw[evs]at h;cases h;rfl|p::ps,_,_,_,h=>by rw[evs]at h;obtain⟨r,ρ1,_,h⟩:=ao h;obtain⟨xs,ρ2,h2,h⟩:=ao h;cases h;simp[qg h2]
theorem aC:SA X c [] []:=⟨jz cW fun σ H Q⟨F,ρ,ds,ρ',g,e,k⟩=>by rw[evs]at e;cases e;exact k [] F H (.refl g) .nil,rfl⟩
theorem xJ{es:List Expr}{ps:List P}(ha:SX X c a pa)(hr:SA X c es ps)(hs:starEach (a::es) X.env=(false,eval a X.env)::starEach es X.env:=by rfl):SA X c (a::es) (pa::ps):=by refine⟨jz (aZ ha.ev hr.1 hs) ?_,by simp[hr.2]⟩;rintro σ H Q⟨F,ρ,ds,ρ',g,e,k⟩;rw[evs]at e;obtain⟨r,ρ1,e1,e⟩:=ao e;obtain⟨xs,ρ2,e2,e⟩:=ao e;cases e;refine⟨F,ρ,r,ρ1,g,e1,fun v F' H' s rr=>?_⟩;obtain⟨F1,s1,_,rp⟩:=s.fc rr;refine⟨F1,ρ1,xs,_,s1.gs,e2,fun vs F2 H2 s2 rs=>?_⟩;exact k _ F2 H2 (s1.trans s2) (.cons (rp.mono s2.bV) rs)
theorem Ext.Gj{K:PySem.W.Frag}{F H:Hp}{ρ ρ':List Sl}{σ:L2.St}{H0 F0:Hp}{Q:VK}{xs:List V}{ds:List D}(s:bA K F0 ρ σ H0 F ρ' σ H)(r:aD K F xs ds)(k:∀v F' H',bA K F0 ρ σ H0 F' ρ' σ H'->cz K F' ρ' σ H' ρ σ H0 v (.val (.tup ds))->Q v H')(p:Addr)(hp:H p=none):Q (.ref p) (upd H p (.tup xs)):=yf s.gs.sub r hp fun v F' H' x rn=>k v F' H' (s.trans (x.stp s.gs)) rn
theorem bJ{es:List Expr}{ps:List P}{x1}(h:SA X c es ps)(hz:ps.length<=sizeLine:=by decide):SX X c (.Tuple es x1 pos) (.tup ps):=by refine⟨dz (uN h.1) ?_,fun i h=>by cases h⟩;rintro σ H Q⟨F,ρ,r,ρ',g,e,k⟩;rw[HH.ev]at e;obtain⟨ds,ρ1,e1,e⟩:=ao e;cases e;exact⟨F,ρ,ds,_,g,e1,fun vs F' H' s rs=>⟨by rw[rs.length,qg e1];exact hz,fun p hp=>Ext.Gj s rs k p hp⟩⟩
theorem bf{es:List Expr}{ps:List P}(h:SA X c es ps)(hz:ps.length<=sizeLine:=by decide):SX X c (.List es pos) (.lst ps):=by refine⟨dz (JF h.1) ?_,fun i h=>by cases h⟩;rintro σ H Q⟨F,ρ,r,ρ',g,e,k⟩;rw[HH.ev]at e;obtain⟨ds,ρ1,e1,e⟩:=ao e;cases e;exact⟨F,ρ,ds,_,g,e1,fun vs F' H' s rs=>⟨by rw[rs.length,qg e1];exact hz,fun p hp=>zP s.gs.sub rs hp fun v F2 H2 x rn=>k v F2 H2 (s.trans (x.stp s.gs)) (.later s (rn.sO s.gs))⟩⟩
theorem Kz{ds:List D}{i:Int}{d:D}(h:at' ds i=some d):∃j,L2.jk ds.length i=some j/\ds[j]?=some d:=gC h
theorem Xl:V0 X (rD X.K zx):=by
 rintro value slice pins s σ H x y v u Q I rx ry⟨F,d,e,r,sm,px,py,he,k⟩hs;unfold zx at he;obtain⟨ds,e1,he⟩:=gC he;obtain⟨i,e2,he⟩:=gC he;obtain⟨z,e3,he⟩:=map_some he;subst he;cases m5 e2;rw[py.int]at ry;obtain⟨p,xs,rfl,hq,rs⟩:=px.items sm e1;obtain⟨j,h1,h2⟩:=Kz e3;obtain⟨w,h3,h4⟩:=rs.get h2;have hat:PB xs i=some w:=by unfold PB;rw[rs.length,h1];exact h3
 rcases hq with hq|hq;.exact Gx value slice pins s σ H _ _ v u Q I rx ry ⟨p,xs,i,w,rfl,rfl,hq,hat,cM.eG sm h4 k⟩ hs
 .exact Ni value slice pins s σ H _ _ v u Q I rx ry ⟨p,xs,i,w,rfl,rfl,hq,hat,cM.eG sm h4 k⟩ hs
theorem aA(ha:SX X c a pa)(hb:SX X c b pb)(hs:xH b:=by intro _ _;rfl):SX X c (.Subscript a b pos) (.idx pa pb):=vg (f:=zx) (fun h1 h2=>QL Xl h1 h2 hs) ha hb (fun ρ=>by rw[HH.ev]) rfl
noncomputable def QK(K:PySem.W.Frag)(f:D->Option R):List V->Hp->VK->Prop:=fun xs H Q=>∃x,xs=[x]/\rD1 K f x H Q
theorem xn{E:Expr}{f:D->Option R}{q:P}(hp:∀{t},PA X [a] t->PE X E (U4 (QK X.K f) t))(ha:SX X c a pa)(hq:∀ρ,HH.ev c q ρ=(HH.cX (isVar pa) (HH.ev c pa) ρ).bind fun x ρ=>lift (f x) ρ)(hv:isVar q=none)(hs:starEach [a] X.env=(false,eval a X.env)::starEach [] X.env:=by rfl):SX X c E q:=by obtain⟨ta,h1,h3⟩:=ha.cX;refine⟨dz (hp (aZ h1 cW hs)) ?_,fun i h=>by rw[hv]at h;cases h⟩;rintro σ H Q⟨F,ρ,r,ρ',g,e,k⟩;rw[hq]at e;obtain⟨x,ρ1,e1,e2⟩:=ao e;have zz:=aM e2;clear e2;obtain⟨e2,e3⟩:=zz;subst e3;refine h3 g e1 fun v F' H' s pv=>⟨v,rfl,F',x,r,s.gs.sub,pv,e2,fun w F2 H2 x rn=>?_⟩;exact k w F2 H2 (s.trans (x.stp s.gs)) (.later s (rn.sO s.gs))
theorem R8:eZ X (.builtin "len") (QK X.K fun x=>blt .len [x]):=by rintro pins s σ H xs us Q I r⟨x,hx,F,d,r',sm,px,he,k⟩;obtain⟨ds,e1,he⟩:=map_some (show(items d).map _=some r' from he);subst he;obtain⟨p,ys,rfl,hq,rs⟩:=px.items sm e1;exact pW pins s σ H xs us Q I r ⟨p,ys,hx,hq,by rw[rs.length];exact cM.eG sm (dD _) k⟩
theorem Gz:eZ X (.type "tuple") (QK X.K fun x=>blt .tuple [x]):=by rintro pins s σ H xs us Q I r⟨x,hx,F,d,r',sm,px,he,k⟩;obtain⟨ds,e1,he⟩:=map_some (show(items d).map _=some r' from he);subst he;cases d with|tup es=>cases e1;obtain⟨a,ys,rfl,hq,rs,rt⟩:=px.tup sm;exact iU pins s σ H xs us Q I r ⟨a,ys,hx,.inr ⟨hq,cM.eG sm rt k⟩⟩|lst es=>cases e1;obtain⟨a,ys,rfl,hq,rs⟩:=px.lst sm;exact iU pins s σ H xs us Q I r ⟨a,ys,hx,.inl ⟨hq,fun l hl=>yf sm rs hl k⟩⟩|_=>cases e1
theorem cj{x:Str}{p':Pos}(hx:x="len")(hg:Gl X x)(hm:X.mg x=none)(ha:SX X c a pa)(hs:starEach [a] X.env=(false,eval a X.env)::starEach [] X.env:=by rfl):SX X c (.Call (.Name x p') [a] [] pos) (.blt .len [pa]):=by subst hx;exact xn (fun h=>dO R8 hg hm PySem.boot_len h (he:=hs)) ha (fun ρ=>by rw[HH.ev]) rfl hs
theorem rT{x:Str}{p':Pos}(hx:x="tuple")(hg:Gl X x)(hm:X.mg x=none)(ha:SX X c a pa)(hs:starEach [a] X.env=(false,eval a X.env)::starEach [] X.env:=by rfl):SX X c (.Call (.Name x p') [a] [] pos) (.blt .tuple [pa]):=by subst hx;exact xn (fun h=>yM Gz hg hm (by decide+kernel) h (he:=hs)) ha (fun ρ=>by rw[HH.ev]) rfl hs
end
end HH
end
section
namespace HH
open PySem L2 PySem.Spec PyProof.Rows
noncomputable def oX(K:PySem.W.Frag)(np:Nat)(f:List Sl->Res R):Sp:=fun vs H Q _=>vs.length=np/\∃F args r args',GS K F args (vs.map some) H/\f args=.ok r args'/\∀v F' σ' H',bA K F args (vs.map some) H F' args' σ' H'->cz K F' args' σ' H' args (vs.map some) H v r->Q v H'
section
variable{K:PySem.W.Frag}
noncomputable def vp(K:PySem.W.Frag)(F:Hp)(ρ:List Sl)(σ:L2.St)(H:Hp)(ρ₀:List Sl)(H₀:Hp)(v:V):Arg->Prop|.dat d=>Rep K F v d|.tmp ds=>∃x xs,v=.ref x/\H x=some (.lst xs)/\F x=none/\aD K F xs ds/\¬ Own ρ σ x/\(Own ρ₀ σ x\/H₀ x=none)|.dZ i=>σ[i]?=some (some v)
structure tu(K:PySem.W.Frag)(F:Hp)(ρ:List Sl)(σ:L2.St)(H:Hp)(ρ₀:List Sl)(H₀:Hp)(as:List Arg)(vs:List V):Prop where
 len:as.length=vs.length
 one:∀(j:Nat)(a:Arg)(v:V),as[j]?=some a->vs[j]?=some v->vp K F ρ σ H ρ₀ H₀ v a
 dis:∀(j k:Nat)(ds es:List D)(x:Addr),as[j]?=some (.tmp ds)->as[k]?=some (.tmp es)->vs[j]?=some (.ref x)->vs[k]?=some (.ref x)->j=k
theorem vp.later{F F' H H' H₀:Hp}{ρ ρ' ρ₀:List Sl}{σ:L2.St}{v:V}{a:Arg}(s:bA K F ρ σ H F' ρ' σ H')(h:vp K F ρ σ H ρ₀ H₀ v a):vp K F' ρ' σ H' ρ₀ H₀ v a:=by cases a with|dat d=>exact Rep.mono s.bV h|dZ i=>exact h|tmp ds=>
   obtain⟨x,xs,h1,h2,h3,h4,h5,h6⟩:=h;refine⟨x,xs,h1,s.keep x _ h2 h5,?_,h4.mono s.bV,fun o=>?_,h6⟩;.cases q:F' x with|none=>rfl|some o=>
       rcases s.xR x h3 (by rw[q];simp)with z|z;.exact absurd z h5
       .exact(Cw h2 z).elim
   . rcases s.xT x o with z|z;.exact h5 z
     .rw[h2]at z;cases z
theorem tu.nil{F H H₀:Hp}{ρ ρ₀:List Sl}{σ:L2.St}:tu K F ρ σ H ρ₀ H₀ [] []:=⟨rfl,fun j a v h=>by simp at h,fun j k ds es x h=>by simp at h⟩
theorem tu.cons{F H H₀:Hp}{ρ ρ₀:List Sl}{σ:L2.St}{a:Arg}{v:V}{as:List Arg}{vs:List V}(h:vp K F ρ σ H ρ₀ H₀ v a)(t:tu K F ρ σ H ρ₀ H₀ as vs)(hd:∀ds x,a=.tmp ds->v=.ref x->∀(k:Nat)es,as[k]?=some (.tmp es)->vs[k]?≠some (.ref x)):tu K F ρ σ H ρ₀ H₀ (a::as) (v::vs):=by
 refine⟨by simp[t.len],fun j b u h1 h2=>?_,fun j k ds es x h1 h2 h3 h4=>?_⟩;.cases j with|zero=>simp at h1 h2;subst h1;subst h2;exact h|succ j=>exact t.one j b u (by simpa using h1) (by simpa using h2)
 .cases j with
   |zero=>cases k with|zero=>rfl|succ k=>simp at h1 h3;exact absurd (by simpa using h4) (hd ds x h1 h3 k es (by simpa using h2))
   |succ j=>cases k with|zero=>simp at h2 h4;exact absurd (by simpa using h3) (hd es x h2 h4 j ds (by simpa using h1))|succ k=>rw[t.dis j k ds es x (by simpa using h1) (by simpa using h2) (by simpa using h3) (by simpa using h4)]
noncomputable def BV(ρ:List Sl):Arg->Sl->Prop|.dat d,s=>s=.val false d|.tmp ds,s=>s=.own false ds|.dZ i,s=>(∃b d,ρ[i]?=some (.val b d)/\s=.val false d)\/(∃b ds,ρ[i]?=some (.own b ds)/\s=.own true ds)\/∃ds,ρ[i]?=some (.lent ds)/\s=.lent ds
theorem nu{ρ:List Sl}:∀{as:List Arg}{used:List Nat}{args:List Sl},bj ρ as used=some args->args.length=as.length/\(∀(j:Nat)(a:Arg)(s:Sl),as[j]?=some a->args[j]?=some s->BV ρ a s)/\(∀(j:Nat)(i:Nat)(s:Sl)ds,as[j]?=some (.dZ i)->args[j]?=some s->lst? s=some ds->i∉used)/\(∀(j k:Nat)(i:Nat)(s t:Sl)ds es,as[j]?=some (.dZ i)->as[k]?=some (.dZ i)->args[j]?=some s->args[k]?=some t->lst? s=some ds->lst? t=some es->j=k)
 |[],used,args,h=>by rw[bj]at h;cases h;exact⟨rfl,fun j a s h=>by simp at h,fun j i s ds h=>by simp at h,fun j k i s t ds es h=>by simp at h⟩|a::as,used,args,h=>by--the Z0 slot,the Z1
   have key:∃s0 r uz,args=s0::r/\bj ρ as uz=some r/\BV ρ a s0/\((∃i ds,a=.dZ i/\lst? s0=some ds/\uz=i::used/\i∉used)\/((∀i ds,a=.dZ i->lst? s0≠some ds)/\uz=used)):=by cases a with|dat d=>rw[bj]at h;obtain⟨r,e1,e2⟩:=map_some h;exact⟨_,r,used,e2.symm,e1,rfl,.inr ⟨fun i ds z=>(by cases z),rfl⟩⟩|tmp d=>rw[bj]at h;obtain⟨r,e1,e2⟩:=map_some h;exact⟨_,r,used,e2.symm,e1,rfl,.inr ⟨fun i ds z=>(by cases z),rfl⟩⟩|dZ i=>
      rw[bj]at h;split at h;.rename_i b d q;obtain⟨r,e1,e2⟩:=map_some h;exact⟨_,r,used,e2.symm,e1,.inl ⟨b,d,q,rfl⟩,.inr ⟨fun _ _ _ z=>(by cases z),rfl⟩⟩
      . rename_i b ds q;split at h;.cases h
        .rename_i hu;obtain⟨r,e1,e2⟩:=map_some h;exact⟨_,r,_,e2.symm,e1,.inr (.inl ⟨b,ds,q,rfl⟩),.inl ⟨i,_,rfl,rfl,rfl,by simpa using hu⟩⟩
      . rename_i ds q;split at h;.cases h
        .rename_i hu;obtain⟨r,e1,e2⟩:=map_some h;exact⟨_,r,_,e2.symm,e1,.inr (.inr ⟨ds,q,rfl⟩),.inl ⟨i,_,rfl,rfl,rfl,by simpa using hu⟩⟩
      .cases h
   obtain⟨s0,r,uz,rfl,hr,hs0,hu⟩:=key;obtain⟨l1,l2,l3,l4⟩:=nu hr;have sub:∀i,i∉uz->i∉used:=fun i hi hm=>by
    rcases hu with⟨_,_,_,_,rfl,_⟩|⟨_,rfl⟩;.exact hi (List.mem_cons_of_mem _ hm)
    .exact hi hm
   refine⟨by simp[l1],fun j b s h1 h2=>?_,fun j i s ds h1 h2 h3=>?_,fun j k i s t ds es h1 h2 h3 h4 h5 h6=>?_⟩;.cases j with|zero=>simp at h1 h2;subst h1;subst h2;exact hs0|succ j=>exact l2 j b s (by simpa using h1) (by simpa using h2)
   .cases j with|zero=>
       simp at h1 h2;subst h1;subst h2;rcases hu with⟨i',_,e,_,_,hn⟩|⟨hn,_⟩;.cases e;exact hn
       .exact absurd h3 (hn i ds rfl)|succ j=>exact sub i (l3 j i s ds (by simpa using h1) (by simpa using h2) h3)
   . have z0:∀(k:Nat)(t:Sl)es,a=.dZ i->lst? s0=some ds->(as[k]?=some (.dZ i))->r[k]?=some t->lst? t=some es->False:=fun k t es ea e0 hk ht he=>by
      rcases hu with⟨i',_,e,_,rfl,hn⟩|⟨hn,_⟩;.rw[ea]at e;cases e;exact l3 k i t es hk ht he List.mem_cons_self
      .exact hn i ds ea e0
     have z1:∀(k:Nat)(t:Sl)es,a=.dZ i->lst? s0=some es->(as[k]?=some (.dZ i))->r[k]?=some t->lst? t=some ds->False:=fun k t es ea e0 hk ht he=>by
      rcases hu with⟨i',_,e,_,rfl,hn⟩|⟨hn,_⟩;.rw[ea]at e;cases e;exact l3 k i t ds hk ht he List.mem_cons_self
      .exact hn i es ea e0
     cases j with
     |zero=>cases k with|zero=>rfl|succ k=>simp at h1 h3;subst h3;exact(z0 k t es h1 h5 (by simpa using h2) (by simpa using h4) h6).elim
     |succ j=>cases k with|zero=>simp at h2 h4;subst h4;exact(z1 j s es h2 h6 (by simpa using h1) (by simpa using h3) h5).elim|succ k=>rw[l4 j k i s t ds es (by simpa using h1) (by simpa using h2) (by simpa using h3) (by simpa using h4) h5 h6]
theorem tu.get{F H H₀:Hp}{ρ ρ₀:List Sl}{σ:L2.St}{as:List Arg}{vs:List V}(A:tu K F ρ σ H ρ₀ H₀ as vs){args:List Sl}{j:Nat}{s:Sl}(hl:args.length=as.length)(h:args[j]?=some s):∃a v,as[j]?=some a/\vs[j]?=some v/\vp K F ρ σ H ρ₀ H₀ v a:=by
 have hj:j<args.length:=(List.getElem?_eq_some_iff.mp h).1;have h1:j<as.length:=by omega
 have h2:j<vs.length:=by rw[<-A.len];exact h1
 exact⟨as[j],vs[j],by simp[h1],by simp[h2],A.one j _ _ (by simp[h1]) (by simp[h2])⟩
theorem args_gs{F H H₀:Hp}{ρ ρ₀:List Sl}{σ:L2.St}{as:List Arg}{vs:List V}{args:List Sl}(g:GS K F ρ σ H)(A:tu K F ρ σ H ρ₀ H₀ as vs)(h:bj ρ as []=some args):GS K F args (vs.map some) H:=by
 obtain⟨l1,l2,l3,l4⟩:=nu h;have up:∀{j:Nat}{v:V},vs[j]?=some v->(vs.map some)[j]?=some (some v):=fun e=>by rw[List.getElem?_map,e];rfl
 have dn:∀{j:Nat}{v:V},(vs.map some)[j]?=some (some v)->vs[j]?=some v:=fun{j v}e=>by rw[List.getElem?_map]at e;cases q:vs[j]?with|none=>rw[q]at e;cases e|some w=>rw[q]at e;cases e;rfl
 refine⟨g.sub,by rw[l1,A.len,List.length_map],fun j b d e=>?_,fun j s ds e e'=>?_,fun j k x⟨⟨s,ds,e1,e2⟩,e3⟩⟨⟨t,es,f1,f2⟩,f3⟩=>?_⟩;.obtain⟨a,v,h1,h2,h3⟩:=A.get l1 e;have h4:=l2 j a _ h1 e;refine⟨v,up h2,?_⟩;cases a with|dat d'=>cases h4;exact h3|tmp ds=>cases h4|dZ i=>
     rcases h4 with⟨b',d',q1,q2⟩|⟨_,_,_,q2⟩|⟨_,_,q2⟩;.cases q2;obtain⟨w,q3,q4⟩:=g.val i b' d q1;have h3:σ[i]?=some (some v):=h3;rw[h3]at q3;cases q3;exact q4
     .cases q2
     .cases q2
 .obtain⟨a,v,h1,h2,h3⟩:=A.get l1 e;have h4:=l2 j a _ h1 e;cases a with|dat d'=>cases h4;cases e'|tmp es=>cases h4;cases e';obtain⟨x,xs,rfl,q2,q3,q4,_⟩:=h3;exact⟨x,_,up h2,q2,q3,xs,rfl,q4⟩|dZ i=>
     have h3:σ[i]?=some (some v):=h3;rcases h4 with⟨b',d',q1,q2⟩|⟨b',es,q1,q2⟩|⟨es,q1,q2⟩;.cases q2;cases e'
     .cases q2;cases e';obtain⟨x,xs,q3,q4⟩:=g.own i _ _ q1 rfl;rw[h3]at q3;cases q3;exact⟨x,xs,up h2,q4⟩
     .cases q2;cases e';obtain⟨x,xs,q3,q4⟩:=g.own i _ _ q1 rfl;rw[h3]at q3;cases q3;exact⟨x,xs,up h2,q4⟩
 . obtain⟨a,v,h1,h2,h3⟩:=A.get l1 e1;obtain⟨a',v',h1',h2',h3'⟩:=A.get l1 f1;have e3:=dn e3;have f3:=dn f3;rw[h2]at e3;cases e3;rw[h2']at f3;cases f3;have s1:=l2 j a _ h1 e1;have s2:=l2 k a' _ h1' f1;have nm:∀{i:Nat}{s:Sl}{ds:Oc},lst? s=some ds->BV ρ (.dZ i) s->∃s' ds',ρ[i]?=some s'/\lst? s'=some ds':=fun{i s ds}l z=>by
    rcases z with⟨_,_,_,z⟩|⟨b,es,q,_⟩|⟨es,q,_⟩;.subst z;cases l
    .exact⟨_,_,q,rfl⟩
    .exact⟨_,_,q,rfl⟩
   cases a with
   |dat d=>cases s1;cases e2|tmp Nz=>cases a' with|dat d=>cases s2;cases f2|tmp Hx=>exact A.dis j k Nz Hx x h1 h1' h2 h2'|dZ i=>obtain⟨y,_,q1,_,_,_,q2,_⟩:=h3;cases q1;obtain⟨s',ds',q3,q4⟩:=nm f2 s2;exact absurd ⟨i,⟨s',ds',q3,q4⟩,h3'⟩ q2
   |dZ i=>obtain⟨s',ds',q3,q4⟩:=nm e2 s1;cases a' with|dat d=>cases s2;cases f2|tmp Hx=>obtain⟨y,_,q1,_,_,_,q2,_⟩:=h3';cases q1;exact absurd ⟨i,⟨s',ds',q3,q4⟩,h3⟩ q2|dZ i'=>obtain⟨s'',Z2,q5,q6⟩:=nm f2 s2;have:=g.dis i i' x ⟨⟨s',ds',q3,q4⟩,h3⟩ ⟨⟨s'',Z2,q5,q6⟩,h3'⟩;subst this;exact l4 j k i s t ds es h1 h1' e1 f1 e2 f2
theorem kE{as:List Arg}{ss:List Sl}:∀(ρ:List Sl)(n i:Nat),(bY as ss n ρ)[i]?=(ρ[i]?).map fun s=>dU s (aP (n+i) as ss)
 |[],n,i=>by simp[bY]|s::ρ,n,0=>by simp[bY]|s::ρ,n,i+1=>by
   rw[bY];simp only[List.getElem?_cons_succ];rw[kE ρ (n+1) i];have:n+1+i=n+(i+1):=by omega
   rw[this]
theorem kZ{as:List Arg}{ss:List Sl}:∀(ρ:List Sl)(n:Nat),(bY as ss n ρ).length=ρ.length|[],n=>rfl|s::ρ,n=>by rw[bY];simp[kZ ρ]
theorem gf{i:Nat}:∀{as:List Arg}{ss:List Sl}{t:Sl},aP i as ss=some t->∃j:Nat,as[j]?=some (.dZ i)/\ss[j]?=some t
 |[],_,_,h=>by simp[aP]at h|a::as,[],_,h=>by cases a<;>simp[aP]at h|a::as,s::ss,t,h=>by
   have tl:aP i as ss=some t->∃j:Nat,(a::as)[j]?=some (.dZ i)/\(s::ss)[j]?=some t:=fun h=>by obtain⟨j,h1,h2⟩:=gf h;exact⟨j+1,by simpa using h1,by simpa using h2⟩
   cases a with|dat d=>exact tl (by simpa[aP]using h)|tmp d=>exact tl (by simpa[aP]using h)|dZ k=>
     rw[aP]at h;split at h;.rename_i hk;cases h;subst hk;exact⟨0,rfl,rfl⟩
     .exact tl h
theorem jj{i:Nat}:∀{as:List Arg}{ss:List Sl},as.length=ss.length->aP i as ss=none->∀j:Nat,as[j]?≠some (.dZ i)
 |[],_,_,_=>fun j h=>by simp at h|a::as,[],hl,_=>by simp at hl|a::as,s::ss,hl,h=>fun j hj=>by
   have hl':as.length=ss.length:=by simpa using hl
   have tl:aP i as ss=none/\a≠.dZ i:=by cases a with|dat d=>exact⟨by simpa[aP]using h,by simp⟩|tmp d=>exact⟨by simpa[aP]using h,by simp⟩|dZ k=>
      rw[aP]at h;split at h;.cases h
      .rename_i hk;exact⟨h,fun e=>hk (by cases e;rfl)⟩
   cases j with|zero=>simp at hj;exact tl.2 hj|succ j=>exact jj hl' tl.1 j (by simpa using hj)
theorem uf{F₀ H₀ F H F' H':Hp}{ρ₀ ρ args args':List Sl}{σ σ':L2.St}{as:List Arg}{vs:List V}(s0:bA K F₀ ρ₀ σ H₀ F ρ σ H)(A:tu K F ρ σ H ρ₀ H₀ as vs)(hb:bj ρ as []=some args)(s:bA K F args (vs.map some) H F' args' σ' H'):bA K F₀ ρ₀ σ H₀ F' (bY as args' 0 ρ) σ H'/\∀v r,cz K F' args' σ' H' args (vs.map some) H v r->cz K F' (bY as args' 0 ρ) σ H' ρ₀ σ H₀ v r:=by
 have g:=s0.gs;obtain⟨l1,l2,l3,l4⟩:=nu hb;have up:∀{j:Nat}{v:V},vs[j]?=some v->(vs.map some)[j]?=some (some v):=fun e=>by rw[List.getElem?_map,e];rfl
 have dn:∀{j:Nat}{v:V},(vs.map some)[j]?=some (some v)->vs[j]?=some v:=fun{j v}e=>by rw[List.getElem?_map]at e;cases q:vs[j]?with|none=>rw[q]at e;cases e|some w=>rw[q]at e;cases e;rfl
 have la:as.length=args'.length:=by rw[s.len,l1]--whose are the lists that the callee holds
 have own:∀b,Own args (vs.map some) b->(∃(j:Nat)(ds:List D),as[j]?=some (Arg.tmp ds)/\vs[j]?=some (V.ref b)/\¬ Own ρ σ b/\(Own ρ₀ σ b\/H₀ b=none))\/Own ρ σ b:=fun b⟨j,⟨sl,ds,e1,e2⟩,e3⟩=>by obtain⟨a,v,h1,h2,h3⟩:=A.get l1 e1;have s1:=l2 j a _ h1 e1;have e3:=dn e3;rw[h2]at e3;cases e3;cases a with|dat d=>cases s1;cases e2|tmp es=>obtain⟨x,_,q1,_,_,_,q2,q3⟩:=h3;cases q1;exact .inl ⟨j,es,h1,h2,q2,q3⟩|dZ i=>
    right;rcases s1 with⟨_,_,_,z⟩|⟨b',es,q,_⟩|⟨es,q,_⟩;.subst z;cases e2
    .exact⟨i,⟨_,_,q,rfl⟩,h3⟩
    .exact⟨i,⟨_,_,q,rfl⟩,h3⟩
 have back:∀b,Own ρ σ b\/H b=none->Own ρ₀ σ b\/H₀ b=none:=fun b h=>by
  rcases h with h|h;.exact s0.xT b h
  . by_cases ho:Own ρ₀ σ b;.exact .inl ho
    .right;cases e:H₀ b with|none=>rfl|some o=>rw[s0.keep b o e ho]at h;cases h
 have own':∀b,Own args (vs.map some) b->Own ρ₀ σ b\/H₀ b=none:=fun b h=>by
  rcases own b h with⟨_,_,_,_,_,z⟩|z;.exact z
  .exact back b (.inl z)--a name's slot behind the call
 have slot:∀{i:Nat}{t:Sl},(bY as args' 0 ρ)[i]?=some t->∃s1,ρ[i]?=some s1/\t=dU s1 (aP i as args'):=fun{i t}h=>by rw[kE]at h;obtain⟨s1,e1,e2⟩:=map_some h;exact⟨s1,e1,by rw[<-e2,Nat.zero_add]⟩
 have Uo:∀{i:Nat}{s1:Sl},ρ[i]?=some s1->(bY as args' 0 ρ)[i]?=some (dU s1 (aP i as args')):=fun{i s1}h=>by rw[kE,h,Nat.zero_add];rfl--what the callee left of a list that was lent to it
 have lent:∀{i j:Nat}{s1 t:Sl}{ds:List D},ρ[i]?=some s1->lst? s1=some (.l ds)->as[j]?=some (.dZ i)->args'[j]?=some t->∃v s2,σ[i]?=some (some v)/\σ'[j]?=some (some v)/\args[j]?=some s2/\jA s2 t/\((∃b,s1=.own b ds/\s2=.own true ds)\/(s1=.lent ds/\s2=.lent ds)):=fun{i j s1 t ds}h1 h2 h3 h4=>by
  have hj:j<args.length:=by rw[l1];exact(List.getElem?_eq_some_iff.mp h3).1
  have e1:args[j]?=some args[j]:=by simp[hj]
  obtain⟨a,v,q1,q2,q3⟩:=A.get l1 e1;rw[h3]at q1;cases q1;have q4:=l2 j _ _ h3 e1;have kind:(∃b,s1=.own b ds/\args[j]=.own true ds)\/(s1=.lent ds/\args[j]=.lent ds):=by
   rcases q4 with⟨_,_,z,_⟩|⟨b,es,z,z'⟩|⟨es,z,z'⟩;.rw[h1]at z;cases z;cases h2
   .rw[h1]at z;cases z;cases h2;exact .inl ⟨b,rfl,z'⟩
   .rw[h1]at z;cases z;cases h2;exact .inr ⟨rfl,z'⟩
  have lk:yt args[j]=true:=by rcases kind with⟨_,_,z⟩|⟨_,z⟩<;>rw[z]<;>rfl
  obtain⟨z1,s',z2,z3⟩:=s.lk j _ e1 lk;rw[h4]at z2;cases z2;exact⟨v,_,q3,by rw[z1];exact up q2,e1,z3,kind⟩
 have Hy:∀{i:Nat}{x:Addr},bG (bY as args' 0 ρ) σ i x->bG ρ σ i x:=fun{i x}⟨⟨t,ds,e1,e2⟩,e3⟩=>by obtain⟨s1,q1,q2⟩:=slot e1;refine⟨?_,e3⟩;cases s1 with|bC=>subst q2;cases e2|val b d=>subst q2;cases e2|own b es=>exact⟨_,_,q1,rfl⟩|lent es=>exact⟨_,_,q1,rfl⟩|j7 m=>exact⟨_,_,q1,rfl⟩|iZ m=>exact⟨_,_,q1,rfl⟩|hold _=>subst q2;cases e2
 refine⟨?_,fun v r h=>?_⟩;rotate_left;.cases r with|val d=>exact h|own ds=>
     obtain⟨x,xs,h1,h2,h3,h4,h5,h6⟩:=h;refine⟨x,xs,h1,h2,h3,h4,fun⟨i,h⟩=>?_,?_⟩
     . have hO:=Hy h;obtain⟨⟨s1,Nz,q1,q2⟩,q3⟩:=hO;obtain⟨x',xs',w1,w2,_⟩:=g.own i s1 Nz q1 q2;rw[q3]at w1;cases w1;rcases h6 with h6|h6
       . rcases own x h6 with⟨_,_,_,_,z,_⟩|_;.exact z ⟨i,⟨s1,Nz,q1,q2⟩,q3⟩
         .--a name was lent
           obtain⟨j,⟨sl,es,w3,w4⟩,w5⟩:=h6;obtain⟨a',v',y1,y2,y3⟩:=A.get l1 w3;have sa:=l2 j a' _ y1 w3;have w5:=dn w5;rw[y2]at w5;cases w5;cases a' with|dat d=>cases sa;cases w4|tmp es'=>obtain⟨_,_,u1,_,_,_,u2,_⟩:=y3;cases u1;exact u2 ⟨i,⟨s1,Nz,q1,q2⟩,q3⟩|dZ i'=>
             have ex:∃s' ds',ρ[i']?=some s'/\lst? s'=some ds':=by
              rcases sa with⟨_,_,_,z⟩|⟨b,es,q,_⟩|⟨es,q,_⟩;.subst z;cases w4
              .exact⟨_,_,q,rfl⟩
              .exact⟨_,_,q,rfl⟩
             have:=g.dis i i' x ⟨⟨s1,Nz,q1,q2⟩,q3⟩ ⟨ex,y3⟩;subst this;have hk:∃Hx,Nz=.l Hx:=by
              rcases sa with⟨_,_,_,z⟩|⟨b,es,q,_⟩|⟨es,q,_⟩;.subst z;cases w4
              .rw[q1]at q;cases q;cases q2;exact⟨_,rfl⟩
              .rw[q1]at q;cases q;cases q2;exact⟨_,rfl⟩
             obtain⟨Hx,rfl⟩:=hk;have hj:j<args'.length:=by rw[<-la];exact(List.getElem?_eq_some_iff.mp y1).1
             have e':args'[j]?=some args'[j]:=by simp[hj]
             obtain⟨v2,s2,u1,u2,u3,u4,u5⟩:=lent q1 q2 y1 e';rw[q3]at u1;cases u1--the slot behind the call is a list's
             obtain⟨⟨t,dt,t1,t2⟩,_⟩:=h;obtain⟨s3,t3,t4⟩:=slot t1;rw[q1]at t3;cases t3;have lo:∃t5,aP i as args'=some t5:=by cases hl:aP i as args' with|none=>exact absurd y1 (jj la hl j)|some t5=>exact⟨t5,rfl⟩
             obtain⟨t5,hl⟩:=lo;obtain⟨j2,t6,t7⟩:=gf hl;have hj2:j2<args.length:=by rw[l1];exact(List.getElem?_eq_some_iff.mp t6).1
             obtain⟨_,s6,_,v2',v3',v4',v5'⟩:=lent q1 q2 t6 t7;have l4':j2=j:=by
              have a1:lst? s6=some (.l Hx):=by rcases v5' with⟨_,_,z⟩|⟨_,z⟩<;>rw[z]<;>rfl
              have a2:lst? s2=some (.l Hx):=by rcases u5 with⟨_,_,z⟩|⟨_,z⟩<;>rw[z]<;>rfl
              exact l4 j2 j i s6 s2 _ _ t6 y1 v3' u3 a1 a2
             subst l4';rw[e']at t7;cases t7;rw[hl]at t4;refine h5 ⟨j2,?_,u2⟩;rcases u5 with⟨b,z1,z2⟩|⟨z1,z2⟩
             . subst z1;subst z2;rcases u4 with⟨d2,z⟩|⟨d2,z⟩;.exact⟨_,.l d2,e',by rw[z];rfl⟩
               .rw[z]at t4;subst t4;cases t2
             .subst z1;subst z2;exact⟨_,.l Hx,e',by rw[show args'[j2]=.lent Hx from u4];rfl⟩
       .rw[w2]at h6;cases h6
     . rcases h6 with h6|h6;.exact own' x h6
       .exact back x (.inr h6)
 refine⟨⟨s.gs.sub,by rw[kZ];exact g.len,fun i b d e=>?_,fun i t ds e e'=>?_,fun i j x h1 h2=>g.dis i j x (Hy h1) (Hy h2)⟩,s0.bV.trans s.bV,fun b n n'=>?_,fun b o h n=>?_,fun b⟨i,h⟩=>back b (.inl ⟨i,Hy h⟩),by rw[kZ];exact s0.len,fun i s1 h l=>?_⟩;.--data
   obtain⟨s1,q1,q2⟩:=slot e;cases s1 with|bC=>cases q2|lent es=>cases q2|j7 _=>cases q2|iZ _=>cases q2|hold _=>cases q2|val b' d'=>cases q2;obtain⟨v,z1,z2⟩:=g.val i b d q1;exact⟨v,z1,z2.mono s.bV⟩|own b' es=>cases hl:aP i as args' with|none=>rw[hl]at q2;cases q2|some t=>rw[hl]at q2;obtain⟨j,z1,z2⟩:=gf hl;obtain⟨v,s2,y1,y2,y3,y4,y5⟩:=lent q1 rfl z1 z2;cases t with|bC=>cases q2|own _ _=>cases q2|lent _=>cases q2|j7 _=>cases q2|iZ _=>cases q2|hold _=>cases q2|val b2 d2=>cases q2;obtain⟨w,x1,x2⟩:=s.gs.val j b2 d z2;rw[y2]at x1;cases x1;exact⟨v,y1,x2⟩
 .--lists
   obtain⟨s1,q1,q2⟩:=slot e--a list that was not lent
   have stay:∀es,lst? s1=some es->(∀j:Nat,as[j]?≠some (.dZ i))->t=s1->∃(a:Addr)(xs:HO),σ[i]?=some (some (V.ref a))/\H' a=some xs/\F' a=none/\pg K F' xs ds:=fun es he hn ht=>by
    subst ht;rw[he]at e';cases e';obtain⟨a,xs,z1,z2,z3,z4⟩:=g.own i _ ds q1 he;have no:¬ Own args (vs.map some) a:=fun h=>by obtain⟨j,⟨sl,es,w1,w2⟩,w3⟩:=h;obtain⟨a',v,h1,h2,h3⟩:=A.get l1 w1;have sa:=l2 j a' _ h1 w1;have w3:=dn w3;rw[h2]at w3;cases w3;cases a' with|dat d=>cases sa;cases w2|tmp es=>obtain⟨x,_,y1,_,_,_,y2,_⟩:=h3;cases y1;exact y2 ⟨i,⟨_,ds,q1,he⟩,z1⟩|dZ i'=>
       have:∃s' ds',ρ[i']?=some s'/\lst? s'=some ds':=by
        rcases sa with⟨_,_,_,z⟩|⟨b,es,q,_⟩|⟨es,q,_⟩;.subst z;cases w2
        .exact⟨_,_,q,rfl⟩
        .exact⟨_,_,q,rfl⟩
       have:=g.dis i i' a ⟨⟨_,ds,q1,he⟩,z1⟩ ⟨this,h3⟩;subst this;exact hn j h1
    refine⟨a,xs,z1,s.keep a _ z2 no,?_,z4.mono s.bV⟩;cases q:F' a with|none=>rfl|some o=>
      rcases s.xR a z3 (by rw[q];simp)with z|z;.exact absurd z no
      .rw[z2]at z;exact(Cj z4 z).elim
   cases hl:aP i as args' with
   |none=>have hn:=jj la hl;rw[hl]at q2;cases s1 with|bC=>subst q2;cases e'|val b' d'=>subst q2;cases e'|own b' es=>exact stay _ rfl hn q2|lent es=>exact stay _ rfl hn q2|j7 m=>exact stay _ rfl hn q2|iZ m=>exact stay _ rfl hn q2|hold _=>subst q2;cases e'
   |some t2=>rw[hl]at q2;obtain⟨j,z1,z2⟩:=gf hl;cases s1 with
     |bC=>subst q2;cases e'|val b' d'=>subst q2;cases e'|hold _=>subst q2;cases e'|j7 m=>
       have hj:j<args.length:=by rw[l1];exact(List.getElem?_eq_some_iff.mp z1).1
       rcases l2 j _ _ z1 (show args[j]?=some args[j]by simp[hj])with⟨_,_,z,_⟩|⟨_,_,z,_⟩|⟨_,z,_⟩<;>(rw[q1]at z;cases z)|iZ m=>
       have hj:j<args.length:=by rw[l1];exact(List.getElem?_eq_some_iff.mp z1).1
       rcases l2 j _ _ z1 (show args[j]?=some args[j]by simp[hj])with⟨_,_,z,_⟩|⟨_,_,z,_⟩|⟨_,z,_⟩<;>(rw[q1]at z;cases z)|own b' es=>
       obtain⟨v,s2,y1,y2,y3,y4,y5⟩:=lent q1 rfl z1 z2;have:t2≠.bC/\∀x,t2≠.lent x:=by
        rcases y5 with⟨_,_,y5⟩|⟨y5,_⟩;.subst y5;rcases y4 with⟨_,rfl⟩|⟨_,rfl⟩<;>simp
        .cases y5
       cases t2 with
       |bC=>exact absurd rfl this.1|hold x=>
         rcases y5 with⟨_,_,y5⟩|⟨y5,_⟩;.subst y5;rcases y4 with⟨_,h⟩|⟨_,h⟩<;>cases h
         .cases y5|j7 x=>
         rcases y5 with⟨_,_,y5⟩|⟨y5,_⟩;.subst y5;rcases y4 with⟨_,h⟩|⟨_,h⟩<;>cases h
         .cases y5|iZ x=>
         rcases y5 with⟨_,_,y5⟩|⟨y5,_⟩;.subst y5;rcases y4 with⟨_,h⟩|⟨_,h⟩<;>cases h
         .cases y5|lent x=>exact absurd rfl (this.2 x)|val b2 d2=>subst q2;cases e'|own b2 es2=>subst q2;cases e';obtain⟨a,xs,x1,x2⟩:=s.gs.own j _ _ z2 rfl;rw[y2]at x1;cases x1;exact⟨a,xs,y1,x2⟩
     |lent es=>
       obtain⟨v,s2,y1,y2,y3,y4,y5⟩:=lent q1 rfl z1 z2;have ht:t=.lent es:=by rw[q2];cases t2<;>rfl
       subst ht;cases e';rcases y5 with⟨_,y5,_⟩|⟨_,y5⟩;.cases y5
       .subst y5;cases(show t2=.lent es from y4);obtain⟨a,xs,x1,x2⟩:=s.gs.own j _ _ z2 rfl;rw[y2]at x1;cases x1;exact⟨a,xs,y1,x2⟩
 . by_cases q:F b=none
   . rcases s.xR b q n' with z|z;.exact(own' b z).imp id lZ
     . by_cases ho:Own ρ₀ σ b;.exact .inl ho
       .right;cases q2:H₀ b with|none=>rfl|some o=>rw[s0.keep b o q2 ho]at z;exact z
   .exact s0.xR b n q
 . refine s.keep b o (s0.keep b o h n) fun z=>?_;rcases own' b z with z|z;.exact n z
   .rw[h]at z;cases z
 .obtain⟨e1,s2,h2,k2⟩:=s0.lk i s1 h l;refine⟨e1,_,Uo h2,?_⟩;have We:=k2.yt l;refine jA.trans l k2 ?_;cases s2 with
   |bC=>cases We|j7 _=>cases We|iZ _=>cases We|hold _=>exact jA.refl _|val b d=>exact jA.refl _|lent es=>cases aP i as args' with|none=>rfl|some t=>cases t<;>rfl
   |own b es=>cases b with|false=>cases We|true=>cases aP i as args' with|none=>exact .inl ⟨_,rfl⟩|some t=>cases t with|bC=>exact .inl ⟨_,rfl⟩|lent _=>exact .inl ⟨_,rfl⟩|j7 _=>exact .inl ⟨_,rfl⟩|iZ _=>exact .inl ⟨_,rfl⟩|hold _=>exact .inl ⟨_,rfl⟩|own _ ds=>exact .inl ⟨_,rfl⟩|val _ d=>exact .inr ⟨_,rfl⟩
theorem tu.rebase{F1 H1 F2 H2 F H:Hp}{ρ ρ1 ρ2:List Sl}{σ:L2.St}{as:List Arg}{vs:List V}(a:bA K F ρ σ H F1 ρ1 σ H1)(A:tu K F2 ρ2 σ H2 ρ1 H1 as vs):tu K F2 ρ2 σ H2 ρ H as vs:=by refine⟨A.len,fun j b v h1 h2=>?_,A.dis⟩;have h:=A.one j b v h1 h2;cases b with|dat d=>exact h|dZ i=>exact h|tmp ds=>
   obtain⟨x,xs,q1,q2,q3,q4,q5,q6⟩:=h;refine⟨x,xs,q1,q2,q3,q4,q5,?_⟩;rcases q6 with q6|q6;.exact a.xT x q6
   . by_cases ho:Own ρ σ x;.exact .inl ho
     .right;cases e:H x with|none=>rfl|some o=>rw[a.keep x o e ho]at q6;cases q6
theorem tu.RP{F1 H1 F2 H2 F H:Hp}{ρ ρ1 ρ2:List Sl}{σ:L2.St}{as:List Arg}{vs:List V}{v:V}{r:R}(s1:bA K F ρ σ H F1 ρ1 σ H1)(rr:cz K F1 ρ1 σ H1 ρ σ H v r)(s2:bA K F1 ρ1 σ H1 F2 ρ2 σ H2)(A:tu K F2 ρ2 σ H2 ρ1 H1 as vs):tu K F2 ρ2 σ H2 ρ H (rQ r::as) (v::vs):=by
 have h1:vp K F1 ρ1 σ H1 ρ H v (rQ r):=by cases r with|val d=>exact rr|own ds=>exact rr
 refine .cons (h1.later s2) (A.rebase s1) fun ds x ea ev k es ek evk=>?_;cases r with|val d=>cases ea|own ds'=>
   obtain⟨y,xs,q1,q2,q3,q4,q5,q6⟩:=rr;rw[ev]at q1;cases q1;have h:=A.one k _ _ ek evk;obtain⟨z,zs,w1,_,_,_,_,w6⟩:=h;cases w1;rcases w6 with w6|w6;.exact q5 w6
   .rw[q2]at w6;cases w6
end
end HH
end
section
namespace HH
open PySem L2 PySem.Spec PyProof.Rows
section
variable{K:PySem.W.Frag}{F F1 H H1:Hp}{ρ ρ1 ρ2:List Sl}{σ σ1:L2.St}
theorem KQ{i:Nat}{s:Sl}(h:put ρ i s=some ρ1):∃s0,ρ[i]?=some s0/\yt s0=false/\ρ1=ρ.set i s:=by
 unfold put at h;split at h;.rename_i q;cases h;exact⟨_,q,rfl,rfl⟩
 .rename_i q;cases h;exact⟨_,q,rfl,rfl⟩
 .rename_i q;cases h;exact⟨_,q,rfl,rfl⟩
 .cases h
theorem bA.put{i:Nat}{v:V}{r:R}(s:bA K F ρ σ H F1 ρ1 σ1 H1)(rr:cz K F1 ρ1 σ1 H1 ρ σ H v r)(h:HH.put ρ1 i (yw r)=some ρ2):bA K F ρ σ H F1 ρ2 (σ1.set i (some v)) H1:=by
 obtain⟨s0,h0,hl,rfl⟩:=KQ h;have hi:i<ρ1.length:=(List.getElem?_eq_some_iff.mp h0).1;have hi':i<σ1.length:=by rw[<-s.gs.len];exact hi
 have old:∀{j:Nat}{a:Addr},j≠i->bG (ρ1.set i (yw r)) (σ1.set i (some v)) j a->bG ρ1 σ1 j a:=fun{j a}hj⟨⟨t,ds,e1,e2⟩,e3⟩=>by rw[List.getElem?_set_ne (Ne.symm hj)]at e1 e3;exact⟨⟨t,ds,e1,e2⟩,e3⟩
 have new:∀{a:Addr},bG (ρ1.set i (yw r)) (σ1.set i (some v)) i a->¬ Own ρ1 σ1 a/\(Own ρ σ a\/H a=none):=fun{a}⟨⟨t,ds,e1,e2⟩,e3⟩=>by rw[List.getElem?_set_self hi]at e1;rw[List.getElem?_set_self hi']at e3;cases e1;cases e3;cases r with|val d=>cases e2|own es=>obtain⟨x,xs,q1,q2,q3,q4,q5,q6⟩:=rr;cases q1;exact⟨q5,q6⟩
 refine⟨⟨s.gs.sub,by simp[s.gs.len],fun j b d e=>?_,fun j t ds e e'=>?_,fun j k a h1 h2=>?_⟩,s.bV,s.xR,s.keep,fun a⟨j,hj⟩=>?_,by simp[s.len],fun j t e l=>?_⟩
 . by_cases hj:j=i;.subst hj;rw[List.getElem?_set_self hi]at e;cases r with|own es=>cases e|val d'=>cases e;exact⟨v,List.getElem?_set_self hi',rr⟩
   .rw[List.getElem?_set_ne (Ne.symm hj)]at e ⊢;exact s.gs.val j b d e
 . by_cases hj:j=i;.subst hj;rw[List.getElem?_set_self hi]at e;cases r with|val d'=>cases e;cases e'|own es=>cases e;cases e';obtain⟨x,xs,rfl,q2,q3,q4,_⟩:=rr;exact⟨x,_,List.getElem?_set_self hi',q2,q3,xs,rfl,q4⟩
   .rw[List.getElem?_set_ne (Ne.symm hj)]at e ⊢;exact s.gs.own j t ds e e'
 . by_cases hj:j=i
   . by_cases hk:k=i;.rw[hj,hk]
     .subst hj;exact absurd ⟨k,old hk h2⟩ (new h1).1
   . by_cases hk:k=i;.subst hk;exact absurd ⟨j,old hj h1⟩ (new h2).1
     .exact s.gs.dis j k a (old hj h1) (old hk h2)
 . by_cases hji:j=i;.subst hji;exact(new hj).2
   .exact s.xT a ⟨j,old hji hj⟩
 . obtain⟨e1,t1,e2,e3⟩:=s.lk j t e l;have hj:j≠i:=by rintro rfl;rw[h0]at e2;cases e2;rw[e3.yt l]at hl;cases hl
   exact⟨by rw[List.getElem?_set_ne (Ne.symm hj)];exact e1,t1,by rw[List.getElem?_set_ne (Ne.symm hj)];exact e2,e3⟩
theorem GS.mut{x:Nat}{b:Bool}{ds es:List D}{a:Addr}{ys:List V}(g:GS K F ρ σ H)(e:ρ[x]?=some (.own b ds))(hx:σ[x]?=some (some (.ref a)))(r:aD K F ys es):bA K F ρ σ H F (ρ.set x (.own b es)) σ (upd H a (.lst ys)):=by
 have hi:x<ρ.length:=(List.getElem?_eq_some_iff.mp e).1;have oa:bG ρ σ x a:=⟨⟨_,_,e,rfl⟩,hx⟩;obtain⟨a',xs,h1,h2,h3,h4⟩:=g.je x _ ds e rfl;rw[hx]at h1;cases h1;have old:∀{j:Nat}{c:Addr},bG (ρ.set x (.own b es)) σ j c->bG ρ σ j c:=fun{j c}⟨⟨t,dt,q1,q2⟩,q3⟩=>by
  by_cases hj:j=x;.subst hj;exact⟨⟨_,_,e,rfl⟩,q3⟩
  .rw[List.getElem?_set_ne (Ne.symm hj)]at q1;exact⟨⟨t,dt,q1,q2⟩,q3⟩
 refine⟨⟨fun c o q=>?_,by simp[g.len],fun j b' d q=>?_,fun j t dt q q'=>?_,fun j k c q1 q2=>g.dis j k c (old q1) (old q2)⟩,.refl _,fun c n n'=>absurd n n',fun c o q n=>?_,fun c⟨j,q⟩=>.inl ⟨j,old q⟩,by simp,fun j t q l=>⟨rfl,?_⟩⟩
 . have:c≠a:=by rintro rfl;rw[h3]at q;cases q
   rw[aJ this];exact g.sub c o q
 . by_cases hj:j=x;.subst hj;rw[List.getElem?_set_self hi]at q;cases q
   .rw[List.getElem?_set_ne (Ne.symm hj)]at q;exact g.val j b' d q
 . by_cases hj:j=x;.subst hj;rw[List.getElem?_set_self hi]at q;cases q;cases q';exact⟨a,_,hx,aW,h3,ys,rfl,r⟩
   . rw[List.getElem?_set_ne (Ne.symm hj)]at q;obtain⟨c,zs,w1,w2,w3,w4⟩:=g.own j t dt q q';have:c≠a:=by rintro rfl;exact hj (g.dis j x c ⟨⟨t,dt,q,q'⟩,w1⟩ oa)
     exact⟨c,zs,w1,by rw[aJ this];exact w2,w3,w4⟩
 . have:c≠a:=by rintro rfl;exact n ⟨x,oa⟩
   rw[aJ this];exact q
 . by_cases hj:j=x;.subst hj;rw[e]at q;cases q;refine⟨_,List.getElem?_set_self hi,?_⟩;cases b with|true=>exact .inl ⟨_,rfl⟩|false=>cases l
   .exact⟨t,by rw[List.getElem?_set_ne (Ne.symm hj)];exact q,.refl t⟩
theorem GS.lend{i:Nat}{b:Bool}{ds:List D}(g:GS K F ρ σ H)(e:ρ[i]?=some (.own b ds)):GS K F (ρ.set i (.lent ds)) σ H:=by
 have hi:i<ρ.length:=(List.getElem?_eq_some_iff.mp e).1;have old:∀{j:Nat}{c:Addr},bG (ρ.set i (.lent ds)) σ j c->bG ρ σ j c:=fun{j c}⟨⟨t,dt,q1,q2⟩,q3⟩=>by
  by_cases hj:j=i;.subst hj;exact⟨⟨_,_,e,rfl⟩,q3⟩
  .rw[List.getElem?_set_ne (Ne.symm hj)]at q1;exact⟨⟨t,dt,q1,q2⟩,q3⟩
 refine⟨g.sub,by simp[g.len],fun j b' d q=>?_,fun j t dt q q'=>?_,fun j k c q1 q2=>g.dis j k c (old q1) (old q2)⟩
 . by_cases hj:j=i;.subst hj;rw[List.getElem?_set_self hi]at q;cases q
   .rw[List.getElem?_set_ne (Ne.symm hj)]at q;exact g.val j b' d q
 . by_cases hj:j=i;.subst hj;rw[List.getElem?_set_self hi]at q;cases q;cases q';exact g.own j _ _ e rfl
   .rw[List.getElem?_set_ne (Ne.symm hj)]at q;exact g.own j t dt q q'
theorem bA.aR{i:Nat}{b:Bool}{ds:List D}(g:GS K F ρ σ H)(e:ρ[i]?=some (.own b ds))(s:bA K F (ρ.set i (.lent ds)) σ H F1 ρ1 σ1 H1):bA K F ρ σ H F1 (ρ1.set i (.own b ds)) σ1 H1/\∀v r,cz K F1 ρ1 σ1 H1 (ρ.set i (.lent ds)) σ H v r->cz K F1 (ρ1.set i (.own b ds)) σ1 H1 ρ σ H v r:=by
 have hi:i<ρ.length:=(List.getElem?_eq_some_iff.mp e).1;have h1:(ρ.set i (.lent ds))[i]?=some (.lent ds):=List.getElem?_set_self hi;obtain⟨z1,s',z2,z3⟩:=s.lk i _ h1 rfl;cases(show s'=.lent ds from z3);have hi1:i<ρ1.length:=(List.getElem?_eq_some_iff.mp z2).1;have o1:∀{j:Nat}{c:Addr},bG (ρ.set i (.lent ds)) σ j c->bG ρ σ j c:=fun{j c}⟨⟨t,dt,q1,q2⟩,q3⟩=>by
  by_cases hj:j=i;.subst hj;exact⟨⟨_,_,e,rfl⟩,q3⟩
  .rw[List.getElem?_set_ne (Ne.symm hj)]at q1;exact⟨⟨t,dt,q1,q2⟩,q3⟩
 have o1':∀{c:Addr},Own ρ σ c->Own (ρ.set i (.lent ds)) σ c:=fun{c}⟨j,⟨t,dt,q1,q2⟩,q3⟩=>by
  by_cases hj:j=i;.subst hj;exact⟨j,⟨_,_,h1,rfl⟩,q3⟩
  .exact⟨j,⟨t,dt,by rw[List.getElem?_set_ne (Ne.symm hj)];exact q1,q2⟩,q3⟩
 have o2:∀{j:Nat}{c:Addr},bG (ρ1.set i (.own b ds)) σ1 j c->bG ρ1 σ1 j c:=fun{j c}⟨⟨t,dt,q1,q2⟩,q3⟩=>by
  by_cases hj:j=i;.subst hj;exact⟨⟨_,_,z2,rfl⟩,q3⟩
  .rw[List.getElem?_set_ne (Ne.symm hj)]at q1;exact⟨⟨t,dt,q1,q2⟩,q3⟩
 have w:∀{c:Addr}{h:Hp},Own (ρ.set i (.lent ds)) σ c\/h c=none->Own ρ σ c\/h c=none:=fun{c h}q=>q.imp (fun⟨j,q⟩=>⟨j,o1 q⟩) id;have w':∀{c:Addr}{h:Hp},Own (ρ.set i (.lent ds)) σ c\/nt (h c)=none->Own ρ σ c\/nt (h c)=none:=fun{c h}q=>q.imp (fun⟨j,q⟩=>⟨j,o1 q⟩) id;refine⟨⟨⟨s.gs.sub,by simp[s.gs.len],fun j b' d q=>?_,fun j t dt q q'=>?_,fun j k c q1 q2=>s.gs.dis j k c (o2 q1) (o2 q2)⟩,s.bV,fun c n n'=>w' (s.xR c n n'),fun c o q n=>s.keep c o q fun⟨j,x⟩=>n ⟨j,o1 x⟩,fun c⟨j,q⟩=>w (s.xT c ⟨j,o2 q⟩),by simpa using s.len,fun j t q l=>?_⟩,fun v r h=>?_⟩
 . by_cases hj:j=i;.subst hj;rw[List.getElem?_set_self hi1]at q;cases q
   .rw[List.getElem?_set_ne (Ne.symm hj)]at q;exact s.gs.val j b' d q
 . by_cases hj:j=i;.subst hj;rw[List.getElem?_set_self hi1]at q;cases q;cases q';exact s.gs.own j _ _ z2 rfl
   .rw[List.getElem?_set_ne (Ne.symm hj)]at q;exact s.gs.own j t dt q q'
 . by_cases hj:j=i;.subst hj;rw[e]at q;cases q;refine⟨z1,_,List.getElem?_set_self hi1,?_⟩;cases b with|true=>exact .inl ⟨_,rfl⟩|false=>cases l
   .obtain⟨y1,t',y2,y3⟩:=s.lk j t (by rw[List.getElem?_set_ne (Ne.symm hj)];exact q) l;exact⟨y1,t',by rw[List.getElem?_set_ne (Ne.symm hj)];exact y2,y3⟩
 .cases r with|val d=>exact h|own es=>obtain⟨x,xs,q1,q2,q3,q4,q5,q6⟩:=h;exact⟨x,xs,q1,q2,q3,q4,fun⟨j,q⟩=>q5 ⟨j,o2 q⟩,w q6⟩
theorem GS.give{i:Nat}{ds:List D}(g:GS K F ρ σ H)(e:ρ[i]?=some (.own false ds)):∃v,σ[i]?=some (some v)/\bA K F ρ σ H F (ρ.set i .bC) σ H/\cz K F (ρ.set i .bC) σ H ρ σ H v (.own ds):=by
 have hi:i<ρ.length:=(List.getElem?_eq_some_iff.mp e).1;obtain⟨a,xs,h1,h2,h3,h4⟩:=g.je i _ ds e rfl;have old:∀{j:Nat}{c:Addr},bG (ρ.set i .bC) σ j c->bG ρ σ j c/\j≠i:=fun{j c}⟨⟨t,dt,q1,q2⟩,q3⟩=>by
  by_cases hj:j=i;.subst hj;rw[List.getElem?_set_self hi]at q1;cases q1;cases q2
  .rw[List.getElem?_set_ne (Ne.symm hj)]at q1;exact⟨⟨⟨t,dt,q1,q2⟩,q3⟩,hj⟩
 have oa:bG ρ σ i a:=⟨⟨_,_,e,rfl⟩,h1⟩;refine⟨.ref a,h1,⟨⟨g.sub,by simp[g.len],fun j b' d q=>?_,fun j t dt q q'=>?_,fun j k c q1 q2=>g.dis j k c (old q1).1 (old q2).1⟩,.refl _,fun c n n'=>absurd n n',fun _ _ q _=>q,fun c⟨j,q⟩=>.inl ⟨j,(old q).1⟩,by simp,fun j t q l=>⟨rfl,?_⟩⟩,a,xs,rfl,h2,h3,h4,fun⟨j,q⟩=>?_,.inl ⟨i,oa⟩⟩
 . by_cases hj:j=i;.subst hj;rw[List.getElem?_set_self hi]at q;cases q
   .rw[List.getElem?_set_ne (Ne.symm hj)]at q;exact g.val j b' d q
 . by_cases hj:j=i;.subst hj;rw[List.getElem?_set_self hi]at q;cases q;cases q'
   .rw[List.getElem?_set_ne (Ne.symm hj)]at q;exact g.own j t dt q q'
 . by_cases hj:j=i;.subst hj;rw[e]at q;cases q;cases l
   .exact⟨t,by rw[List.getElem?_set_ne (Ne.symm hj)];exact q,.refl t⟩
 .exact(old q).2 (g.dis j i a (old q).1 oa)
theorem GS.more{n:Nat}{τ:List (Option V)}(g:GS K F ρ σ H)(hn:τ.length=n):GS K F (ρ++List.replicate n .bC) (σ++τ) H:=by
 have get:∀{j:Nat}{t:Sl},(ρ++List.replicate n Sl.bC)[j]?=some t->t≠.bC->ρ[j]?=some t/\j<ρ.length:=fun{j t}q ne=>by
  by_cases hj:j<ρ.length;.rw[List.getElem?_append_left hj]at q;exact⟨q,hj⟩
  . rw[List.getElem?_append_right (by omega),List.getElem?_replicate]at q;split at q;.cases q;exact absurd rfl ne
    .cases q
 have up:∀{j:Nat}{v:Option V},j<ρ.length->(σ[j]?=some v↔(σ++τ)[j]?=some v):=fun{j v}hj=>by rw[List.getElem?_append_left (by rw[<-g.len];exact hj)]
 have old:∀{j:Nat}{c:Addr},bG (ρ++List.replicate n .bC) (σ++τ) j c->bG ρ σ j c:=fun{j c}⟨⟨t,dt,q1,q2⟩,q3⟩=>by obtain⟨h1,h2⟩:=get q1 (by rintro rfl;cases q2);exact⟨⟨t,dt,h1,q2⟩,(up h2).mpr q3⟩
 refine⟨g.sub,by simp[g.len,hn],fun j b d q=>?_,fun j t dt q q'=>?_,fun j k c q1 q2=>g.dis j k c (old q1) (old q2)⟩;.obtain⟨h1,h2⟩:=get q (by simp);obtain⟨v,e1,e2⟩:=g.val j b d h1;exact⟨v,(up h2).mp e1,e2⟩
 .obtain⟨h1,h2⟩:=get q (by rintro rfl;cases q');obtain⟨a,xs,e1,e2⟩:=g.own j t dt h1 q';exact⟨a,xs,(up h2).mp e1,e2⟩
theorem bA.less{n:Nat}{τ:List (Option V)}{m:Nat}(hm:m=ρ.length)(g:GS K F ρ σ H)(hn:τ.length=n)(s:bA K F (ρ++List.replicate n .bC) (σ++τ) H F1 ρ1 σ1 H1):bA K F ρ σ H F1 (ρ1.take m) (σ1.take m) H1/\∀v r,cz K F1 ρ1 σ1 H1 (ρ++List.replicate n .bC) (σ++τ) H v r->cz K F1 (ρ1.take m) (σ1.take m) H1 ρ σ H v r:=by
 subst hm;have l1:ρ.length<=ρ1.length:=by rw[s.len];simp
 have l2:ρ.length<=σ1.length:=by rw[<-s.gs.len];exact l1
 have tk:∀{α:Type}{l:List α}{j:Nat}{x:α},(l.take ρ.length)[j]?=some x->l[j]?=some x/\j<ρ.length:=fun{α l j x}q=>by
  rw[List.getElem?_take]at q;split at q;.exact⟨q,by assumption⟩
  .cases q
 have kt:∀{α:Type}{l:List α}{j:Nat}{x:α},j<ρ.length->l[j]?=some x->(l.take ρ.length)[j]?=some x:=fun{α l j x}hj q=>by rw[List.getElem?_take,if_pos hj];exact q
 have oN:∀{c:Addr},Own (ρ++List.replicate n .bC) (σ++τ) c->Own ρ σ c:=fun{c}⟨j,⟨t,dt,q1,q2⟩,q3⟩=>by
  by_cases hj:j<ρ.length;.rw[List.getElem?_append_left hj]at q1;rw[List.getElem?_append_left (by rw[<-g.len];exact hj)]at q3;exact⟨j,⟨t,dt,q1,q2⟩,q3⟩
  . rw[List.getElem?_append_right (by omega),List.getElem?_replicate]at q1;split at q1;.cases q1;cases q2
    .cases q1
 have oN':∀{c:Addr},Own ρ σ c->Own (ρ++List.replicate n .bC) (σ++τ) c:=fun{c}⟨j,⟨t,dt,q1,q2⟩,q3⟩=>by have hj:j<ρ.length:=(List.getElem?_eq_some_iff.mp q1).1;exact⟨j,⟨t,dt,by rw[List.getElem?_append_left hj];exact q1,q2⟩,by rw[List.getElem?_append_left (by rw[<-g.len];exact hj)];exact q3⟩
 have o1:∀{j:Nat}{c:Addr},bG (ρ1.take ρ.length) (σ1.take ρ.length) j c->bG ρ1 σ1 j c:=fun{j c}⟨⟨t,dt,q1,q2⟩,q3⟩=>⟨⟨t,dt,(tk q1).1,q2⟩,(tk q3).1⟩;have w:∀{c:Addr}{h:Hp},Own (ρ++List.replicate n .bC) (σ++τ) c\/h c=none->Own ρ σ c\/h c=none:=fun{c h}q=>q.imp oN id;have w':∀{c:Addr}{h:Hp},Own (ρ++List.replicate n .bC) (σ++τ) c\/nt (h c)=none->Own ρ σ c\/nt (h c)=none:=fun{c h}q=>q.imp oN id;refine⟨⟨⟨s.gs.sub,by simp only[List.length_take];omega,fun j b d q=>?_,fun j t dt q q'=>?_,fun j k c q1 q2=>s.gs.dis j k c (o1 q1) (o1 q2)⟩,s.bV,fun c a b=>w' (s.xR c a b),fun c o q n=>s.keep c o q fun x=>n (oN x),fun c⟨j,q⟩=>w (s.xT c ⟨j,o1 q⟩),by simp only[List.length_take];omega,fun j t q l=>?_⟩,fun v r h=>?_⟩;.obtain⟨h1,h2⟩:=tk q;obtain⟨v,e1,e2⟩:=s.gs.val j b d h1;exact⟨v,kt h2 e1,e2⟩
 .obtain⟨h1,h2⟩:=tk q;obtain⟨a,xs,e1,e2⟩:=s.gs.own j t dt h1 q';exact⟨a,xs,kt h2 e1,e2⟩
 .have hj:j<ρ.length:=(List.getElem?_eq_some_iff.mp q).1;obtain⟨y1,t',y2,y3⟩:=s.lk j t (by rw[List.getElem?_append_left hj];exact q) l;rw[List.getElem?_append_left (by rw[<-g.len];exact hj)]at y1;refine⟨?_,t',kt hj y2,y3⟩;rw[List.getElem?_take,if_pos hj];exact y1
 .cases r with|val d=>exact h|own es=>obtain⟨x,xs,q1,q2,q3,q4,q5,q6⟩:=h;exact⟨x,xs,q1,q2,q3,q4,fun⟨j,q⟩=>q5 ⟨j,o1 q⟩,w q6⟩
end
end HH
end
section
namespace HH
open PySem L2 PySem.Spec PyProof.Rows
section
variable{X:Cx}{c:Call}{n:Nat}{e a b d:Expr}{p pa pb pd:P}{pos:Pos}{es:List Expr}{ps:List P}
inductive XX(K:PySem.W.Frag)(f:List Sl->Res (List Arg))(σ:L2.St)(H:Hp)(Q:List V->Hp->Prop):Prop where|mk(F:Hp)(ρ:List Sl)(as:List Arg)(ρ':List Sl)(g:GS K F ρ σ H)(e:f ρ=.ok as ρ')(k:∀vs F' H',bA K F ρ σ H F' ρ' σ H'->tu K F' ρ' σ H' ρ H as vs->Q vs H')
noncomputable def SG(X:Cx)(c:Call)(es:List Expr)(ps:List P):Prop:=PA X es (XX X.K (rF c ps))
theorem aK:SG X c [] []:=jz cW fun σ H Q⟨F,ρ,as,ρ',g,e,k⟩=>by rw[rF]at e;cases e;exact k [] F H (.refl g) .nil
theorem FZ(ha:SX X c a pa)(hr:SG X c es ps)(hs:starEach (a::es) X.env=(false,eval a X.env)::starEach es X.env:=by rfl):SG X c (a::es) (pa::ps):=by cases hv:isVar pa with|none=>refine jz (aZ ha.ev hr hs) ?_;rintro σ H Q⟨F,ρ,as,ρ',g,e,k⟩;rw[rF,hv]at e;obtain⟨r,ρ1,e1,e⟩:=ao e;obtain⟨xs,ρ2,e2,e⟩:=ao e;cases e;refine⟨F,ρ,r,ρ1,g,e1,fun v F1 H1 s1 rr=>⟨F1,ρ1,xs,_,s1.gs,e2,fun vs F2 H2 s2 A=>k _ F2 H2 (s1.trans s2) (tu.RP s1 rr s2 A)⟩⟩|some i=>refine jz (aZ (ha.var i hv) hr hs) ?_;rintro σ H Q⟨F,ρ,as,ρ',g,e,k⟩;rw[rF,hv]at e;obtain⟨x0,ρ0,e0,e⟩:=ao e;obtain⟨ZX,zm⟩:=aM e0;subst zm;obtain⟨xs,ρ2,e2,e⟩:=ao e;cases e;obtain⟨v,h1,_⟩:=g.pk ZX;exact⟨v,h1,F,ρ,xs,_,g,e2,fun vs F2 H2 s2 A=>k _ F2 H2 s2 (.cons h1 A fun ds x z=>by cases z)⟩
theorem Ga{k f:Nat}{fa:Addr}{fd:FuncData}{qs:List Str}{x:Str}{p':Pos}(Fn:dw X.prog X.w X.K X.mg X.base oM k fa fd qs (oX X.K qs.length (c f)))(hr:gn k X.A)(hg:Gl X x)(hm:X.mg x=some (.ref fa))(hk:PySem.W.keepIn X.K (.ref fa)=true)(hb:Binds X.K fd qs [])(ha:SG X c (e::es) ps)(hl:(e::es).length=qs.length)(hdb:(x==("__debug__":Str))=false:=by decide)(he:starEach (e::es) X.env=(false,eval e X.env)::starEach es X.env:=by rfl)(hpl:(backTo pos (starEach es X.env)).any (·.1)=false:=by rfl)(hl2:ps.length=(e::es).length:=by rfl):SX X c (.Call (.Name x p') (e::es) [] pos) (.call f ps):=by
 refine⟨dz (wW (E:=E0) Fn hr hg hm hk hb .nil TQ ha hdb he hpl) ?_,fun i h=>by cases h⟩;rintro σ H Q⟨F,ρ,r,ρ',g,e,k⟩;rw[HH.ev]at e;obtain⟨as,ρ1,e1,e⟩:=ao e;unfold gK at e;split at e;.cases e
 . rename_i args hb';split at e
   . rename_i r' args' hc;cases e;refine⟨F,ρ,as,ρ1,g,e1,fun vs F1 H1 s1 A=>?_⟩;have hlen:vs.length=qs.length:=by
      have:∀{ps:List P}{ρ ρ':List Sl}{as:List Arg},rF c ps ρ=.ok as ρ'->as.length=ps.length:=by intro ps;induction ps with|nil=>intro ρ ρ' as h;rw[rF]at h;cases h;rfl|cons q qs ih=>
         intro ρ ρ' as h;rw[rF]at h;split at h;.obtain⟨_,_,_,h⟩:=ao h;obtain⟨xs,ρ2,h2,h⟩:=ao h;cases h;simp[ih h2]
         .obtain⟨_,_,_,h⟩:=ao h;obtain⟨xs,ρ2,h2,h⟩:=ao h;cases h;simp[ih h2]
      rw[<-A.len,this e1,hl2,hl]
     show oX X.K qs.length (c f) (vs++[]) H1 Q E0;rw[List.append_nil];refine⟨hlen,F1,args,r,args',args_gs s1.gs A hb',hc,fun v F' σ' H' s rr=>?_⟩;obtain⟨z1,z2⟩:=uf s1 A hb' s;exact k v F' H' z1 (z2 v r rr)
   .cases e
   .cases e
noncomputable def Tg(K:PySem.W.Frag)(D:Ends)(F':Hp)(ρ':List Sl)(σ':L2.St)(H':Hp)(ρ:List Sl)(σ:L2.St)(H:Hp)(fl:Fl):Prop:=match fl with|.next=>D.nx σ' H'|.brk=>D.bk σ' H'|.cont=>D.ct σ' H'|.ret r=>∀v,cz K F' ρ' σ' H' ρ σ H v r->D.rt v H'
inductive Tf(K:PySem.W.Frag)(f:List Sl->Res Fl)(D:Ends)(σ:L2.St)(H:Hp):Prop where|mk(F:Hp)(ρ:List Sl)(fl:Fl)(ρ':List Sl)(g:GS K F ρ σ H)(e:f ρ=.ok fl ρ')(k:∀F' σ' H',bA K F ρ σ H F' ρ' σ' H'->Tg K D F' ρ' σ' H' ρ σ H fl)
noncomputable def SS(X:Cx)(c:Call)(n:Nat)(st:Stmt)(s:S):Prop:=PS X st (Tf X.K (ex c n s))
noncomputable def SB(X:Cx)(c:Call)(n:Nat)(st:List Stmt)(s:List S):Prop:=lL X st (Tf X.K (cG c n s))
theorem dR{st:Stmt}{t t':TS}(h:PS X st t)(i:∀D σ H,t' D σ H->t D σ H):PS X st t':=fun pins s σ H D I q=>h pins s σ H D I (i D σ H q)
theorem jl{st:List Stmt}{t t':TS}(h:lL X st t)(i:∀D σ H,t' D σ H->t D σ H):lL X st t':=fun pins s σ H D I q=>h pins s σ H D I (i D σ H q)
theorem xs0{c:Call}{n:Nat}{ρ:List Sl}:cG c n [] ρ=.ok .next ρ:=rfl
theorem xs1{c:Call}{n:Nat}{s:S}{r:List S}{ρ:List Sl}:cG c n (s::r) ρ=(ex c n s ρ).bind fun fl ρ=>match fl with|.next=>cG c n r ρ|fl=>.ok fl ρ:=rfl
theorem au:SB X c n [] []:=jl qu fun D σ H⟨F,ρ,fl,ρ',g,e,k⟩=>by rw[xs0]at e;cases e;exact k F σ H (.refl g)
theorem aj{st:Stmt}{s:S}{sts:List Stmt}{ss:List S}(h1:SS X c n st s)(h2:SB X c n sts ss):SB X c n (st::sts) (s::ss):=by refine jl (sU h1 h2) ?_;rintro D σ H⟨F,ρ,fl,ρ',g,e,k⟩;rw[xs1]at e;obtain⟨f1,ρ1,e1,e⟩:=ao e;cases f1 with
 |next=>refine⟨F,ρ,.next,ρ1,g,e1,fun F1 σ1 H1 s1=>⟨F1,ρ1,fl,ρ',s1.gs,e,fun F2 σ2 H2 s2=>?_⟩⟩;have q:=k F2 σ2 H2 (s1.trans s2);cases fl with|next=>exact q|brk=>exact q|cont=>exact q|ret r=>exact fun v rr=>q v (rr.later s1)
 |brk=>cases e;exact⟨F,ρ,.brk,_,g,e1,k⟩|cont=>cases e;exact⟨F,ρ,.cont,_,g,e1,k⟩|ret r=>cases e;exact⟨F,ρ,.ret r,_,g,e1,k⟩
theorem Tn{t1 t2:TE}(h1:PE X e t1)(h2:PE X e t2):PE X e (fun σ H Q=>t1 σ H Q\/t2 σ H Q):=fun pins s σ H Q I h=>h.elim (h1 pins s σ H Q I) (h2 pins s σ H Q I)
theorem bU(he:SX X c e p):SS X c n (.Return (some e) pos) (.ret p):=by
 have plain:∀(D:Ends)(σ:L2.St)(H:Hp),(∃F ρ fl ρ',GS X.K F ρ σ H/\((HH.ev c p ρ).bind fun r ρ=>.ok (Fl.ret r) ρ)=.ok fl ρ'/\∀F' σ' H',bA X.K F ρ σ H F' ρ' σ' H'->(match fl with|.next=>D.nx σ' H'|.brk=>D.bk σ' H'|.cont=>D.ct σ' H'|.ret r=>∀v,cz X.K F' ρ' σ' H' ρ σ H v r->D.rt v H'))->Bb X.K (HH.ev c p) σ H D.rt:=fun D σ H⟨F,ρ,fl,ρ',g,e,k⟩=>by obtain⟨r,ρ1,e1,e⟩:=ao e;cases e;exact⟨F,ρ,r,_,g,e1,fun v F1 H1 s1 rr=>k F1 σ H1 s1 v rr⟩
 cases hv:isVar p with|none=>refine dR (BK he.ev) fun D σ H⟨F,ρ,fl,ρ',g,e,k⟩=>plain D σ H ⟨F,ρ,fl,ρ',g,?_,k⟩;rw[ex,hv]at e;exact e|some i=>--by the name itself:its own list is handed back,else its data
   have hp:p=.var i:=by cases p<;>cases hv;rfl
   subst hp;refine dR (BK (Tn (he.var i hv) he.ev)) ?_;rintro D σ H⟨F,ρ,fl,ρ',g,e,k⟩;rw[ex,hv]at e;dsimp only at e;split at e;.rename_i ds q;cases e;obtain⟨v,h1,h2,h3⟩:=g.give q;exact .inl ⟨v,h1,k F σ H h2 v h3⟩
   .exact .inr (plain D σ H ⟨F,ρ,fl,ρ',g,e,k⟩)
theorem cD{sa sb:List Stmt}{ta tb:List S}(hc:ST X c e p)(ha:SB X c n sa ta)(hb:SB X c n sb tb):SS X c n (.If e sa sb pos) (.ifs p ta tb):=by refine dR (Bt hc ha hb) ?_;rintro D σ H⟨F,ρ,fl,ρ',g,e,k⟩;rw[ex]at e;obtain⟨x,ρ1,e1,e⟩:=ao e;refine⟨F,ρ,x,ρ1,g,e1,fun F1 H1 s1=>?_⟩;have go:∀{f:List Sl->Res Fl},f ρ1=.ok fl ρ'->Tf X.K f D σ H1:=fun{f}h=>⟨F1,ρ1,fl,ρ',s1.gs,h,fun F2 σ2 H2 s2=>by have q:=k F2 σ2 H2 (s1.trans s2);cases fl with|next=>exact q|brk=>exact q|cont=>exact q|ret r=>exact fun v rr=>q v (rr.later s1)⟩;cases x with|true=>rw[if_pos rfl]at e;exact go e|false=>rw[if_neg Bool.false_ne_true]at e;exact go e
theorem aH{i:Nat}{x:Str}{pos':Pos}(hN:X.N.Nodup)(hi:X.N[i]?=some x)(hx:Loc X.env.scope x)(he:SX X c e p)(hs:swapsWith e (some (.Name x pos')) pos.line X.env=pure false:=by rfl)(hf:X.fn x=true\/X.env.scope.names.lookup x=some .local:=by first|exact .inl rfl|exact .inr rfl|assumption):SS X c n (.Assign [.Name x pos'] e pos) (.asg i p):=by refine dR (CG hN hi hx he.ev hs hf) ?_;rintro D σ H⟨F,ρ,fl,ρ',g,e,k⟩;rw[ex]at e;obtain⟨r,ρ1,e1,e⟩:=ao e;obtain⟨ρ2,ρ3,e2,e⟩:=ao e;cases e;have zz:=aM e2;clear e2;obtain⟨e2,e3⟩:=zz;exact⟨F,ρ,r,ρ1,g,e1,fun v F1 H1 s1 rr=>k F1 _ H1 (s1.put rr e2)⟩
end
end HH
end
section
namespace L2
open PySem PySem.Spec PyProof.Rows
noncomputable def wg(X:Cx)(scope:Scope)(N':List Str)(cl:List (Str×Addr))(C:Addr)(s₀:Shared)(H₀:Hp)(ex:List Addr):Cx:={X with N:=N',s₀:=s₀,H₀:=H₀,env:=compEnvC scope cl C X.env,outer:=X.stack,stack:=X.stack,ex:=ex,fn:=fun x=>scope.names.lookup x==some .cell,pn:=[],xe:=fun _ _=>False}
theorem uQ{env:Env}(l:List (Str×NameKind)):∀(cs:List (Str×Addr)),(∀n,(n,NameKind.free)∈l->∃c,env.cells.lookup n=some c)->(∀n c,cs.lookup n=some c->env.cells.lookup n=some c)->∃ cl,(forIn l cs (fun(x:Str × NameKind)(r:List (Str × Addr))=>(if(x.2==NameKind.free)=true then(do let a<-cellOf env x.1;pure (ForInStep.yield ((x.1,a)::r)))else pure (ForInStep.yield r):Sem (ForInStep (List (Str × Addr))))):Sem (List (Str × Addr)))=pure cl/\(∀n c,cl.lookup n=some c->env.cells.lookup n=some c)/\(∀n,((n,NameKind.free)∈l\/(cs.lookup n).isSome)->(cl.lookup n).isSome):=by induction l with|nil=>intro cs _ h;exact⟨cs,rfl,h,fun n hn=>by rcases hn with hn|hn;cases hn;exact hn⟩|cons y l ih=>
   obtain⟨n,k⟩:=y;intro cs hl hc;rw[List.forIn_cons];by_cases hk:k=.free
   . subst hk;obtain⟨a,ha⟩:=hl n List.mem_cons_self;obtain⟨cl,e,h1,h2⟩:=ih ((n,a)::cs) (fun m hm=>hl m (List.mem_cons_of_mem _ hm)) fun m c hm=>by
      rw[List.lookup_cons]at hm;split at hm;.rename_i q;have q:=eq_of_beq q;subst q;cases hm;exact ha
      .exact hc m c hm
     refine⟨cl,?_,h1,fun m hm=>h2 m ?_⟩
     . rw[<-e];have:cellOf env n=pure a:=by unfold cellOf;rw[ha]
       simp only[beq_self_eq_true,if_true,this];rfl
     . rcases hm with hm|hm
       . rcases List.mem_cons.mp hm with hm|hm;.cases hm;right;simp[List.lookup_cons]
         .exact .inl hm
       . right;rw[List.lookup_cons];split;.rfl
         .exact hm
   . obtain⟨cl,e,h1,h2⟩:=ih cs (fun m hm=>hl m (List.mem_cons_of_mem _ hm)) hc;refine⟨cl,?_,h1,fun m hm=>h2 m ?_⟩
     . rw[<-e];have:(k==NameKind.free)=false:=by simpa using hk
       simp only[this,Bool.false_eq_true,if_false];rfl
     . rcases hm with hm|hm
       . rcases List.mem_cons.mp hm with hm|hm;.cases hm;exact absurd rfl hk
         .exact .inl hm
       .exact .inr hm
theorem u6{env:Env}{scope:Scope}(hl:∀n,(n,NameKind.free)∈scope.names->∃c,env.cells.lookup n=some c):∃cl,closureFor scope env=pure cl/\(∀n c,cl.lookup n=some c->env.cells.lookup n=some c)/\∀n,(n,NameKind.free)∈scope.names->(cl.lookup n).isSome:=by obtain⟨cl,e,h1,h2⟩:=uQ (env:=env) scope.names [] hl (by simp);refine⟨cl,?_,h1,fun n hn=>h2 n (.inl hn)⟩;unfold closureFor;exact(congrArg (fun t=>t>>=fun r=>pure r) e).trans rfl
theorem di{env:Env}:∀(names:List (Str×NameKind))(x:Str),(names.map fun(n,k)=>if(k==NameKind.free&&env.scope.kind==.function&&env.kindOf n==some .cell)then(n,NameKind.cell)else(n,k)).lookup x=(names.lookup x).map fun k=>if(k==NameKind.free&&env.scope.kind==.function&&env.kindOf x==some .cell)=true then NameKind.cell else k
 |[],x=>rfl|(n,k)::r,x=>by
   have ih:=di (env:=env) r x;show List.lookup x ((if(k==NameKind.free&&env.scope.kind==.function&&env.kindOf n==some .cell)=true then(n,NameKind.cell)else(n,k))::_)=_;by_cases hc:(k==NameKind.free&&env.scope.kind==.function&&env.kindOf n==some .cell)=true;.rw[if_pos hc,List.lookup_cons,List.lookup_cons];cases hx:x==n with|true=>have:=eq_of_beq hx;subst this;show some NameKind.cell=some (if _ then _ else _);rw[if_pos hc]|false=>exact ih
   .rw[if_neg hc,List.lookup_cons,List.lookup_cons];cases hx:x==n with|true=>have:=eq_of_beq hx;subst this;show some k=some (if _ then _ else _);rw[if_neg hc]|false=>exact ih
noncomputable def Sh(N N':List Str)(sc:Scope):Bool:=(N.zip N').all fun p=>(p.1==p.2&&sc.names.lookup p.2==some .free)||(sc.names.lookup p.2!=some .local&&sc.names.lookup p.2!=some .cell&&sc.names.lookup p.2!=some .free)
structure fK(X:Cx)(scope:Scope)(N':List Str)(n:Nat):Prop where
 kind:scope.kind=.function
 cons:∀y∈scope.names,scope.names.lookup y.1=some y.2
 names:∀y∈scope.names,y.2=.local->scope.names.lookup y.1=some .local
 cap:∀y∈scope.names,y.2=.free->X.env.scope.names.lookup y.1=some .cell\/X.env.scope.names.lookup y.1=some .free
 len:N'.length=X.N.length+n
 same:Sh X.N N' scope=true
theorem fK.get{X:Cx}{scope:Scope}{N':List Str}{n:Nat}(c:fK X scope N' n){i:Nat}{x:Str}(hi:i<X.N.length)(h:N'[i]?=some x)(hv:Ak (relabel scope X.env) x):X.N[i]?=some x/\scope.names.lookup x=some .free:=by
 have hz:(X.N.zip N')[i]?=some (X.N[i],x):=by rw[List.getElem?_zip_eq_some];exact⟨by simp[hi],h⟩
 have:=(List.all_eq_true.mp c.same) _ (List.mem_of_getElem? hz);simp only[Bool.or_eq_true,Bool.and_eq_true]at this;rcases this with⟨h1,h2⟩|⟨⟨h1,h2⟩,h3⟩;.have h1:=eq_of_beq h1;have h2:=eq_of_beq h2;exact⟨by simp[hi,h1],h2⟩
 . exfalso;have h1:scope.names.lookup x≠some .local:=by simpa using h1
   have h2:scope.names.lookup x≠some .cell:=by simpa using h2
   have h3:scope.names.lookup x≠some .free:=by simpa using h3
   have e:=di (env:=X.env) scope.names x;have hv:(relabel scope X.env).names.lookup x=some .local\/(relabel scope X.env).names.lookup x=some .cell\/(relabel scope X.env).names.lookup x=some .free:=hv;rw[show(relabel scope X.env).names.lookup x=_ from e]at hv;cases q:scope.names.lookup x with|none=>rw[q]at hv;simp at hv|some k=>
     rw[q]at hv h1 h2 h3;have hk:(k==NameKind.free)=false:=by cases k<;>first|rfl|exact absurd rfl h3
     simp only[Option.map_some,hk,Bool.false_and,Bool.false_eq_true,if_false,Option.some.injEq]at hv;rcases hv with rfl|rfl|rfl;.exact h1 rfl
     .exact h2 rfl
     .exact h3 rfl
end L2
namespace L2
open PySem PySem.Spec PyProof.Rows
structure CI(cl:List (Str×Addr))(z:Nat)(h:Heap)(acc:List (Str×Addr)):Prop where from':∀n c,acc.lookup n=some c->cl.lookup n=some c\/(z<=c/\h.IsCell c none)inj:∀n n' c,acc.lookup n=some c->acc.lookup n'=some c->n=n'
theorem Ay{cl:List (Str×Addr)}{z:Nat}(hcl:∀n c,cl.lookup n=some c->c<z):∀(names:List (Str×NameKind))(h:Heap)(acc:List (Str×Addr)),z<=h.objs.size->CI cl z h acc->CI cl z (pushCells h names) (cellsFrom h.objs.size names acc)/\(∀n,(acc.lookup n).isSome->((cellsFrom h.objs.size names acc).lookup n).isSome)/\(∀n,((∃c,acc.lookup n=some c/\z<=c)\/(n,NameKind.cell)∈names)->∃c,(cellsFrom h.objs.size names acc).lookup n=some c/\z<=c)/\(∀n c,(n,NameKind.cell)∉names->(cellsFrom h.objs.size names acc).lookup n=some c->acc.lookup n=some c)
 |[],h,acc,hz,x=>by
   refine⟨x,fun _ q=>q,fun n q=>?_,fun _ _ _ q=>q⟩;rcases q with q|q;.exact q
   .cases q|(name,kind)::r,h,acc,hz,x=>by
   unfold pushCells cellsFrom;by_cases hk:kind=.cell
   . subst hk;rw[if_pos (by rfl),if_pos (by rfl)];have hx:CI cl z (h.push {cls:=.type "cell",data:=.cell none}) ((name,h.objs.size)::acc):=by
      have lt:∀n c,acc.lookup n=some c->c<h.objs.size:=fun n c e=>by
       rcases x.from' n c e with q|q;.exact Nat.lt_of_lt_of_le (hcl n c q) hz
       .exact q.2.lt
      refine⟨fun n c e=>?_,fun n n' c e e'=>?_⟩
      . rw[List.lookup_cons]at e;split at e;.cases e;exact .inr ⟨hz,_,Heap.get?_push_size _ rfl,rfl⟩
        . rcases x.from' n c e with q|q;.exact .inl q
          .exact .inr ⟨q.1,q.2.keeps fun b o e=>Heap.get?_push_of_some _ e⟩
      . rw[List.lookup_cons]at e e';split at e<;>split at e';.rename_i _ a _ b;rw[eq_of_beq a,eq_of_beq b]
        .cases e;exact absurd (lt n' _ e') (Nat.lt_irrefl _)
        .cases e';exact absurd (lt n _ e) (Nat.lt_irrefl _)
        .exact x.inj n n' c e e'
     have ih:=Ay hcl r (h.push {cls:=.type "cell",data:=.cell none}) ((name,h.objs.size)::acc) (by rw[Heap.size_push];omega) hx;rw[Heap.size_push]at ih;refine⟨ih.1,fun n q=>ih.2.1 n ?_,fun n q=>ih.2.2.1 n ?_,fun n c q e=>?_⟩
     . rw[List.lookup_cons];split;.rfl
       .exact q
     . rcases q with⟨c,e,hc⟩|q
       . left;rw[List.lookup_cons];split;.exact⟨_,rfl,hz⟩
         .exact⟨c,e,hc⟩
       . rcases List.mem_cons.mp q with q|q;.cases q;left;exact⟨_,by simp[List.lookup_cons],hz⟩
         .exact .inr q
     . have:=ih.2.2.2 n c (fun z=>q (List.mem_cons_of_mem _ z)) e;rw[List.lookup_cons]at this;split at this;.rename_i a;exact absurd (by rw[eq_of_beq a];exact List.mem_cons_self) q
       .exact this
   . have hk':(kind==NameKind.cell)=false:=by simpa using hk
     rw[if_neg (by rw[hk'];decide),if_neg (by rw[hk'];decide)];have ih:=Ay hcl r h acc hz x;refine⟨ih.1,ih.2.1,fun n q=>ih.2.2.1 n ?_,fun n c q e=>ih.2.2.2 n c (fun z=>q (List.mem_cons_of_mem _ z)) e⟩;rcases q with q|q;.exact .inl q
     . rcases List.mem_cons.mp q with q|q;.cases q;exact absurd rfl hk
       .exact .inr q
structure Ah(X:Cx)(scope:Scope)(z:Nat)(h:Heap)(cs:List (Str×Addr)):Prop where
 from':∀n c,cs.lookup n=some c->X.env.cells.lookup n=some c\/(z<c/\h.IsCell c none)inj:∀n n' c,cs.lookup n=some c->cs.lookup n'=some c->n=n'
 has:∀n,(scope.names.lookup n=some .free\/scope.names.lookup n=some .cell)->∃c,cs.lookup n=some c
 fre:∀n c,scope.names.lookup n=some .free->cs.lookup n=some c->X.env.cells.lookup n=some c
 own:∀n c,scope.names.lookup n=some .cell->cs.lookup n=some c->z<c
theorem yZ{M:Model}{A:Around}{E:Value->Shared->Prop}{X:Cx}{s:Shared}{scope:Scope}{N':List Str}{n:Nat}{cl:List (Str×Addr)}{Q:Env->Shared->Prop}(ok:fK X scope N' n)(hlt:∀n c,X.env.cells.lookup n=some c->c<s.heap.objs.size)(hinj:∀x y c,X.env.cells.lookup x=some c->X.env.cells.lookup y=some c->x=y)(hcl:∀n c,cl.lookup n=some c->X.env.cells.lookup n=some c)(Dq:∀n,(n,NameKind.free)∈scope.names->(cl.lookup n).isSome)(hQ:∀ cs h',h'.Ns s.heap.objs.size (fun _=>none)->(∀ b o,s.heap.get? b=some o->h'.get? b=some o)->Ah X scope s.heap.objs.size h' cs->Q {scope:=scope,locals:=s.heap.objs.size,globals:=X.env.globals,cells:=cs,qual:=X.env.qual,func:=none,code:=X.env.code,frame:=X.env.frame,builtins:=X.env.builtins} {s with heap:=h'}):wpAny M A (newFunctionEnv scope X.env.globals cl [] X.env.qual none .none (some X.env)) Q E s:=by
 simp only[newFunctionEnv,Option.isSome_some,if_true];refine wpAny_bind (wpAny_alloc ?_);refine wpAny_bind (wpAny_layCells _ (fun name kind cells=>by cases hkc:kind==NameKind.cell<;>simp[hkc]) _ _ _ _ ?_);have ck:=Ay (cl:=cl) (z:=s.heap.objs.size+1) (fun n c e=>Nat.lt_succ_of_lt (hlt n c (hcl n c e))) scope.names (s.heap.push {cls:=.type "dict",data:=.dict #[]}) cl (by rw[Heap.size_push];exact Nat.le_refl _) ⟨fun n c e=>.inl e,fun n n' c e e'=>hinj n n' c (hcl n c e) (hcl n' c e')⟩;obtain⟨c1,c2,c3,c4⟩:=ck;rw[show({s with heap:=s.heap.push {cls:=.type "dict",data:=.dict #[]}}:Shared).heap.objs.size=(s.heap.push {cls:=.type "dict",data:=.dict #[]}).objs.size from rfl];refine wpAny_bind ?_;rw[List.forIn_nil];refine wpAny_pure (wpAny_pure (hQ _ _ ((Heap.Ns.new s.heap (.type "dict")).keeps (pushCells_keeps _ _)) (fun b o e=>pushCells_keeps _ _ b o (Heap.get?_push_of_some _ e)) ⟨fun n c e=>?_,c1.inj,fun n q=>?_,fun n c q e=>?_,fun n c q e=>?_⟩))
 . rcases c1.from' n c e with z|z;.exact .inl (hcl n c z)
   .exact .inr ⟨z.1,z.2⟩
 . rcases q with q|q;.exact Option.isSome_iff_exists.mp (c2 n (Dq n (PySem.mem_of_lookup q)))
   .obtain⟨c,e,_⟩:=c3 n (.inr (PySem.mem_of_lookup q));exact⟨c,e⟩
 .refine hcl n c (c4 n c (fun z=>?_) e);have:=ok.cons _ z;rw[q]at this;cases this
 .obtain⟨c',e',hc'⟩:=c3 n (.inr (PySem.mem_of_lookup q));rw[e]at e';cases e';exact hc'
section
variable{X:Cx}{pins:List (Addr×Obj)}{σ:L2.St}{H:Hp}{s:Shared}{scope:Scope}{N':List Str}{n:Nat}{fp:List Addr}{cl:List (Str×Addr)}
theorem Bg{h1:Heap}{m:Str->Option Value}{t:Nat}{cs:List (Str×Addr)}(ok:fK X scope N' n)(I:Inv X pins σ H s)(hf:∀b∈fp,lB X pins H b/\b<s.heap.objs.size)(bc:Ah X scope s.heap.objs.size h1 cs)(hn:h1.Ns s.heap.objs.size m)(old:∀b u,s.heap.get? b=some u->h1.get? b=some u):Inv (wg X scope N' cs s.heap.objs.size s H fp) [] (σ++List.replicate n none) H {s with heap:=h1,toks:=t}:=by
 have Up:∀x,scope.names.lookup x=some .free->(relabel scope X.env).names.lookup x=some .cell\/(relabel scope X.env).names.lookup x=some .free:=fun x h=>by
  have e:=di (env:=X.env) scope.names x;rw[h]at e;have e':(relabel scope X.env).names.lookup x=_:=e;rw[e'];simp only[Option.map_some];split;.exact .inl rfl
  .exact .inr rfl
 refine⟨⟨I.ok.mod,ok.kind,I.ok.glob,I.ok.blt,Nat.le_refl _,fun x y c h1 h2=>bc.inj x y c h1 h2,fun x hx=>?_,fun x c h e=>Nat.le_of_lt (bc.own x c (eq_of_beq (show(scope.names.lookup x==some NameKind.cell)=true from h)) e),I.ok.hd,I.ok.frames,.inl rfl,fun b hb=>?_,I.bs,Nat.le_trans I.ok.zy I.sz,fun b u e hb=>?_,fun b hb hfs=>?_,I.stack,I.mD⟩,rfl,I.bare,Un.kept old,⟨m,hn,fun i x v e1 e2 hv=>?_⟩,fun x c e=>?_,I.hok.fresh (Nat.le_refl _),fun x c e=>?_,fun p hp=>(by cases hp),I.hok.kept old,?_⟩;.--a Uq name has its cell
   have hx:(relabel scope X.env).names.lookup x=some .cell\/(relabel scope X.env).names.lookup x=some .free:=hx;have e:=di (env:=X.env) scope.names x;have e':(relabel scope X.env).names.lookup x=_:=e;rw[e']at hx;refine bc.has x ?_;cases q:scope.names.lookup x with|none=>rw[q]at hx;simp at hx|some k=>
     rw[q]at hx;by_cases hk:k=.free;.rw[hk];exact .inl rfl
     . have hk':(k==NameKind.free)=false:=by simpa using hk
       simp only[Option.map_some,hk',Bool.false_and,Bool.false_eq_true,if_false,Option.some.injEq]at hx;rcases hx with rfl|rfl;.exact .inr rfl
       .exact absurd rfl hk
 . obtain⟨f,lt⟩:=hf b hb;refine⟨Nat.ne_of_lt lt,fun x c e=>?_⟩;rcases bc.from' x c e with e|e;.exact f.2.2.2.2.1 x c e
   .rintro rfl;exact absurd (Nat.lt_trans e.1 lt) (Nat.lt_irrefl _)
 . obtain⟨f,lt⟩:=hf b hb;rcases f.2.2.2.1 with h|h;.exact I.ok.rz b u e h
   .have this:b<X.base.objs.size:=Heap.lt_size e;exact absurd (Nat.lt_of_lt_of_le this (Nat.le_trans I.ok.zy h)) (Nat.lt_irrefl _)
 . obtain⟨f,lt⟩:=hf b hb;rcases List.mem_cons.mp (I.nR b hfs)with h|h;.exact f.2.1 h
   .exact f.2.2.1 h
 .--the names
   have hi:i<σ.length:=by
    by_cases hi:i<σ.length;.exact hi
    .rw[List.getElem?_append_right (by omega),List.getElem?_replicate]at e2;split at e2<;>cases e2
   rw[List.getElem?_append_left hi]at e2;obtain⟨h1',h2'⟩:=ok.get (by rw[<-I.len];exact hi) e1 hv;have hk:=ok.cap (x,.free) (PySem.mem_of_lookup h2') rfl;obtain⟨m0,hn0,hl⟩:=I.loc;obtain⟨u,r,l⟩:=hl i x v h1' e2 (.inr hk);refine⟨u,r,.inr ⟨Up x h2',?_⟩⟩;rcases l with⟨hk',_⟩|⟨_,c,hc,hcell⟩;.have hk':X.env.scope.names.lookup x=some .local:=hk';rcases hk with hk|hk<;>(rw[hk']at hk;cases hk)
   .obtain⟨c',hc'⟩:=bc.has x (.inl h2');have:=bc.fre x c' h2' hc';rw[hc]at this;cases this;refine⟨c,hc',?_⟩;obtain⟨oc,e3,e4⟩:=hcell;exact⟨oc,old c oc e3,e4⟩
 . rcases bc.from' x c e with e|e;.obtain⟨v,oc,e3,e4⟩:=I.cell x c e;exact⟨v,oc,old c oc e3,e4⟩
   .exact⟨_,e.2⟩
 . rcases bc.from' x c e with e|e;.exact I.dW x c e
   .exact I.hok.fresh (Nat.le_of_lt e.1)
 .show(σ++List.replicate n none).length=N'.length;rw[List.length_append,List.length_replicate,I.len,ok.len]
theorem qe{prog:Program}{w:World}{A:Around}{R:Result->Shared->Prop}{elt target iter:Expr}{ifs:List Expr}{scope:Scope}{pos:Pos}{it acc:Value}{env:Env}(I:Nat->Shared->Prop)(turn:∀ n s,I n s->wpAny (model prog w) A (pyNext it) (fun r s₁=>match r with|none=>R (.ok .next) s₁|some v=>wpAny (model prog w) A (letOwnedTupleGo target it v) (fun _ s₁=>wpAny (model prog w) A (assign target env v) (fun _ s₂=>wpAny (model prog w) A (forIn ifs true fun c r=>if r=true then do let ok<-isTrue c env (eval c env);pure (ForInStep.yield ok)else pure (ForInStep.yield r)) (fun ok s₃=>if ok=true then wpAny (model prog w) A (eval elt env) (fun x s₄=>wpAny (model prog w) A (call (.builtin "list.append") [acc,x]) (fun _ s₅=>∃m,m<n/\I m s₅) (notedBy (model prog w) A env fun e s'=>R (.error e) s') s₄) (notedBy (model prog w) A env fun e s'=>R (.error e) s') s₃ else ∃m,m<n/\I m s₃) (notedBy (model prog w) A env fun e s'=>R (.error e) s') s₂) (notedBy (model prog w) A env fun e s'=>R (.error e) s') s₁) (notedBy (model prog w) A env fun e s'=>R (.error e) s') s₁) (notedBy (model prog w) A env fun e s'=>R (.error e) s') s)(n:Nat){s:Shared}(h:I n s):codeAny (model prog w) A (.compLoop (.ListComp elt [⟨target,iter,ifs,0⟩] scope pos) 0 it acc env) R s:=by refine codeAny_loop rfl I (fun n s hI=>?_) n h;show wpAny _ A ((compTurn (.ListComp elt [⟨target,iter,ifs,0⟩] scope pos) 0 it acc env).onRaise (fun x=>do noteFrame x env;theTreesLotGoes x)) _ _ s;refine wpAny_noted ?_;rw[compTurn_list];refine wpAny_bind (wpAny_standAt (wpAny_bind (wpAny_mono (turn n s hI) (fun r s₁ h₁=>?_) fun _ _ h'=>h')));cases r with|none=>exact wpAny_pure h₁|some v=>refine wpAny_bind (wpAny_mono h₁ (fun _ s₁ h₁=>?_) fun _ _ h'=>h');refine wpAny_bind (wpAny_mono h₁ (fun _ s₂ h₂=>wpAny_bind (wpAny_mono h₂ (fun ok s₃ h₃=>?_) fun _ _ h'=>h')) fun _ _ h'=>h');cases ok with|false=>exact wpAny_pure ⟨rfl,h₃⟩|true=>exact wpAny_bind (wpAny_bind (wpAny_mono h₃ (fun x s₄ h₄=>wpAny_bind (wpAny_mono h₄ (fun _ s₅ h₅=>wpAny_pure (wpAny_pure ⟨rfl,h₅⟩)) fun _ _ h'=>h')) fun _ _ h'=>h'))
noncomputable def O3(X:Cx)(ifs:List Expr)(t:TT):Prop:=∀(pins:List (Addr × Obj))(s:Shared)(σ:L2.St)(H:Hp)(Q:Bool->Hp->Prop),Inv X pins σ H s->t σ H Q->wpAny (model X.prog X.w) X.A (forIn ifs true fun c r=>if r=true then do let ok<-isTrue c X.env (eval c X.env);pure (ForInStep.yield ok)else pure (ForInStep.yield r)) (TP X pins σ Q) X.xe s
theorem Hh{X:Cx}:O3 X [] (fun _ H Q=>Q true H):=fun pins s σ H Q I h=>wpAny_tests_nil ⟨H,I,h⟩
theorem FW{X:Cx}{c:Expr}{t:TT}(h:PT X c t):O3 X [c] t:=fun pins s σ H Q I q=>wpAny_tests_one (h pins s σ H Q I q)
noncomputable def Ie(J:It)(g:TG)(tt:TT)(te:TE)(D:Addr)(Q:Hp->Prop)(W:Nat->Nat->List V->L2.St->Hp->Prop):Prop:=∀ i m ys σ H,W i m ys σ H->H D=some (.lst ys)/\((J.stop i H/\Q H)\/(J.go i H/\∀ x H2,J.DW i H x H2->g x σ H2 fun σ3 H3=>tt σ3 H3 fun b H4=>if b=true then te σ3 H4 fun y H5=>H5 D=some (.lst ys)/\ys.length<sizeLine/\∃m',m'<m/\W (i+1) m' (ys++[y]) σ3 (upd H5 D (.lst (ys++[y])))else ∃m',m'<m/\W (i+1) m' ys σ3 H4))
theorem yP{E:Value->Shared->Prop}{elt target iter:Expr}{ifs:List Expr}{pos:Pos}{it:Addr}{tn:Nat->Heap->Prop}{J:It}{g:TG}{tt:TT}{te:TE}{Q:Addr->Hp->Prop}{RR:Value->Addr->Result->Shared->Prop}(hc:X.calm=true)(ok:fK X scope N' n)(I:Inv X pins σ H s)(hcl:∀n c,cl.lookup n=some c->X.env.cells.lookup n=some c)(Dq:∀n,(n,NameKind.free)∈scope.names->(cl.lookup n).isSome)(T:Turn X.prog X.w X.K target J fp it tn)(h0:tn 0 s.heap)(hf:∀b∈fp,lB X pins H b)(hg:∀cl C s₀ H₀ ex,PG (wg X scope N' cl C s₀ H₀ ex) target g)(ht:∀cl C s₀ H₀ ex,O3 (wg X scope N' cl C s₀ H₀ ex) ifs tt)(he:∀cl C s₀ H₀ ex,PE (wg X scope N' cl C s₀ H₀ ex) elt te)(hw:∀D,H D=none->∃W,(∃m,W 0 m [] (σ++List.replicate n none) (upd H D (.lst [])))/\Ie J g tt te D (Q D) W)(hRR:∀D C s' H',Q D H'->(∃m,s'.heap.Ns C m)->lB X pins H' C->Inv X pins σ H' s'->RR (.ref D) C (.ok .next) s'):wpAny (model X.prog X.w) X.A (newList []) (fun acc s₃=>wpAny (model X.prog X.w) X.A (newFunctionEnv scope X.env.globals cl [] X.env.qual none .none (some X.env)) (fun cenv s₄=>codeAny (model X.prog X.w) X.A (.compStart (.ListComp elt [⟨target,iter,ifs,0⟩] scope pos) 0 (.ref it) acc {cenv with scope:=relabel scope X.env}) (RR acc cenv.locals) s₄) E s₃) E s:=by
 refine wpAny_newObj_type (yZ ok (fun x c e=>?lt) I.ok.inj hcl Dq (fun cs h₁ hns hold bc=>?_));case lt=>obtain⟨v,z⟩:=I.cell x c e;exact Nat.lt_of_lt_of_le z.lt (by show _<=(s.heap.push _).objs.size;rw[Heap.size_push];exact Nat.le_succ _)
 dsimp only at hns hold bc ⊢--the new list,tracked
 have I3:Inv X pins σ (upd H s.heap.objs.size (.lst [])) {s with heap:=s.heap.push {cls:=.type "list",data:=.seq ([]:List Value).toArray}}:=I.JK (t':=s.toks) .nil (Nat.zero_le _);generalize hs3:({s with heap:=s.heap.push {cls:=.type "list",data:=.seq ([]:List Value).toArray}}:Shared)=s3 at I3;have hsz:s3.heap.objs.size=s.heap.objs.size+1:=by rw[<-hs3];exact Heap.size_push _ _
 have Jr:s3.heap=s.heap.push {cls:=.type "list",data:=.seq ([]:List Value).toArray}:=by rw[<-hs3]
 obtain⟨W,⟨m0,w0⟩,turn⟩:=hw s.heap.objs.size I.fresh;have tnK:∀{h':Heap},(∀b o,s.heap.get? b=some o->h'.get? b=some o)->tn 0 h':=fun k=>T.keep _ _ _ h0 fun b hb o e=>k b o e;have Wf:∀b∈fp,lB X pins (upd H s.heap.objs.size (.lst [])) b/\b<s3.heap.objs.size:=fun b hb=>by obtain⟨o,e,_⟩:=T.obj 0 _ h0 b hb;have lt:=Heap.lt_size e;obtain⟨f1,f2⟩:=hf b hb;exact⟨⟨by rw[aJ (Nat.ne_of_lt lt)];exact f1,f2⟩,by rw[hsz];exact Nat.lt_succ_of_lt lt⟩
 rw[<-Jr]at hns hold bc ⊢;have I4:=Bg (t:=s3.toks) ok I3 Wf bc hns hold;have Ur:∀b o,s.heap.get? b=some o->h₁.get? b=some o:=fun b o e=>hold b o (by rw[Jr];exact Heap.get?_push_of_some _ e);generalize hX:wg X scope N' cs s3.heap.objs.size s3 (upd H s.heap.objs.size (.lst [])) fp=X' at I4;have hA:X'.A=X.A:=by rw[<-hX];rfl
 have hpr:X'.prog=X.prog:=by rw[<-hX];rfl
 have hwr:X'.w=X.w:=by rw[<-hX];rfl
 have hKK:X'.K=X.K:=by rw[<-hX];rfl
 have hcalm:X'.calm=true:=by rw[<-hX];exact hc
 have Wg:X'.xe=fun _ _=>False:=by rw[<-hX];rfl
 have henv:X'.env=compEnvC scope cs s3.heap.objs.size X.env:=by rw[<-hX];rfl
 have hg':PG X' target g:=by rw[<-hX];exact hg _ _ _ _ _
 have ht':O3 X' ifs tt:=by rw[<-hX];exact ht _ _ _ _ _
 have he':PE X' elt te:=by rw[<-hX];exact he _ _ _ _ _
 have ff:∀{H':Hp}{b:Addr},b∈fp->H' b=none->lB X' [] H' b:=fun{H' b}hb hn=>by
  obtain⟨f,lt⟩:=Wf b hb;rw[<-hX];refine⟨hn,Nat.ne_of_lt lt,fun hfs=>?_,.inl hb,fun x c e=>?_,fun p hp=>by cases hp⟩
  . rcases List.mem_cons.mp (I3.nR b hfs)with h|h;.exact f.2.1 h
    .exact f.2.2.1 h
  . rcases bc.from' x c e with e|e;.exact f.2.2.2.2.1 x c e
    .rintro rfl;exact absurd (Nat.lt_trans e.1 lt) (Nat.lt_irrefl _)--behind the block
 have fin:∀{σ':L2.St}{H':Hp}{s':Shared},Inv X' [] σ' H' s'->Q s.heap.objs.size H'->RR (.ref s.heap.objs.size) s3.heap.objs.size (.ok .next) s':=fun{σ' H' s'}J' q=>by
  rw[<-hX]at J';have hC:H' s3.heap.objs.size=none:=J'.free;obtain⟨hh,gg,dd,tt',os'⟩:=s';have eos:os'=s3.os:=J'.os;subst eos;refine hRR _ _ _ H' q (let⟨m,hm,_⟩:=J'.loc;⟨m,hm⟩) ?_ (I3.call (h':=hh) (g':=gg) (d':=dd) (t':=tt') (ch:=fp) J'.base J'.hok J'.bare fun b hb=>?_);.exact I3.yg (Nat.le_refl _) hC
  .obtain⟨f,lt⟩:=Wf b hb;exact⟨f.2.2.2.1,f.2.1,f.2.2.2.2.1,f.2.2.2.2.2⟩
 have main:codeAny (model X.prog X.w) X.A (.compLoop (.ListComp elt [⟨target,iter,ifs,0⟩] scope pos) 0 (.ref it) (.ref s.heap.objs.size) X'.env) (RR (.ref s.heap.objs.size) s3.heap.objs.size) {s3 with heap:=h₁,toks:=s3.toks}:=by
  refine qe (fun k s'=>∃i ys σ' H',Inv X' [] σ' H' s'/\tn i s'.heap/\(∀b∈fp,H' b=none)/\W i k ys σ' H') (fun k s5 hI=>?_) m0 ⟨0,[],_,_,I4,tnK Ur,fun b hb=>(Wf b hb).1.1,w0⟩;obtain⟨i,ys,σ5,H5,I5,t5,f5,w5⟩:=hI;obtain⟨hD,hturn⟩:=turn i k ys σ5 H5 w5;have Wh:∀{Z:Value->Shared->Prop},∀(e:Value)(s':Shared),X'.xe e s'->Z e s':=fun e s' z=>by rw[Wg]at z;exact False.elim z
  rcases hturn with⟨stop,q⟩|⟨go,step⟩;.have z:=T.done X' hpr hwr hKK hcalm i [] s5 σ5 H5 (fun _ _=>False) I5 (fun b hb=>ff hb (f5 b hb)) t5 stop;rw[hA]at z;refine wpAny_mono z (?_) fun _ _ z=>False.elim z;rintro r s6⟨hr,I6⟩;subst hr;exact fin I6 q
  . have z:=T.item X' hpr hwr hKK hcalm i [] s5 σ5 H5 (fun _ _=>False) I5 (fun b hb=>ff hb (f5 b hb)) t5 go;rw[hA]at z;refine wpAny_mono z (?_) fun _ _ z=>False.elim z;rintro r s6⟨u,hr,z6⟩;subst hr;refine wpAny_mono z6 (?_) fun _ _ z=>False.elim z;rintro _ s7⟨x,H7,I7,r7,y7,t7,f7⟩;have I7':=I7.pinned (fun b hb=>ff hb (f7 b hb)) (T.obj _ _ t7)--what the pins keep
    have back:∀{σ':L2.St}{H':Hp}{s':Shared},Inv X' ([]++mX fp s7.heap) σ' H' s'->Inv X' [] σ' H' s'/\tn (i+1) s'.heap/\∀b∈fp,H' b=none:=fun{σ' H' s'}J'=>by refine⟨J'.jB,T.keep _ _ _ t7 fun b hb o e=>(J'.pin (b,o) (List.mem_append_right _ (List.mem_append_right _ (gk hb e)))).1,fun b hb=>?_⟩;obtain⟨o,e,_⟩:=T.obj _ _ t7 b hb;exact(J'.pin (b,o) (List.mem_append_right _ (List.mem_append_right _ (gk hb e)))).2.1
    have z7:=hg' _ s7 σ5 H7 x u _ I7' r7 (step x H7 y7);rw[hA,hpr,hwr]at z7;refine wpAny_mono z7 (?_) Wh;rintro _ s8⟨σ8,H8,I8,q8⟩;have z8:=ht' _ s8 σ8 H8 _ I8 q8;rw[hA,hpr,hwr]at z8;refine wpAny_mono z8 (?_) Wh;rintro b s9⟨H9,I9,q9⟩;cases b with|false=>rw[if_neg Bool.false_ne_true]at q9 ⊢;obtain⟨m',hm,w'⟩:=q9;obtain⟨b1,b2,b3⟩:=back I9;exact⟨m',hm,i+1,ys,σ8,H9,b1,b2,b3,w'⟩|true=>rw[if_pos rfl]at q9 ⊢;have z9:=he' _ s9 σ8 H9 _ I9 q9;rw[hA,hpr,hwr]at z9;refine wpAny_mono z9 (?_) Wh;rintro y SJ⟨yv,H10,I10,r10,Z3,hlen,m',hm,w'⟩;have z10:=pN _ SJ σ8 H10 (.ref s.heap.objs.size) [yv] (.ref s.heap.objs.size) [y] (fun v H11=>H11=upd H10 s.heap.objs.size (.lst (ys++[yv]))) I10 rfl (.cons r10 .nil) ⟨_,ys,yv,rfl,rfl,Z3,hlen,rfl⟩;rw[hA,hpr,hwr]at z10;refine wpAny_mono z10 (?_) Wh;rintro _ V5⟨_,H11,I11,_,e11⟩;subst e11;obtain⟨b1,b2,b3⟩:=back I11;exact⟨m',hm,i+1,ys++[yv],σ8,_,b1,b2,b3,w'⟩
 have e3:({s3 with heap:=h₁,toks:=s3.toks}:Shared)={s with heap:=h₁}:=by rw[<-hs3]
 rw[henv,e3]at main;exact codeAny_compStart_list main (T.self _ 0 _ _ _ (tnK Ur) main)
end
end L2
end
section
namespace L2
open PySem PySem.Spec PyProof.Rows
section
variable{X:Cx}{elt target iter:Expr}{ifs:List Expr}{scope:Scope}{pos:Pos}{N':List Str}{n:Nat}{wi:TI}{g:TG}{tt:TT}{te:TE}
noncomputable def zX(n:Nat)(wi:TI)(g:TG)(tt:TT)(te:TE):TE:=fun σ H Q=>wi σ H fun J H1=>∀D,H1 D=none->∃W,(∃m,W 0 m [] (σ++List.replicate n none) (upd H1 D (.lst [])))/\Ie J g tt te D (fun H'=>Q (.ref D) H') W
theorem qt{pins:List (Addr×Obj)}{σ:L2.St}{H:Hp}{s:Shared}(I:Inv X pins σ H s)(ok:fK X scope N' n):∃cl,closureFor scope X.env=pure cl/\(∀n c,cl.lookup n=some c->X.env.cells.lookup n=some c)/\∀n,(n,NameKind.free)∈scope.names->(cl.lookup n).isSome:=u6 fun m hm=>I.ok.has m (ok.cap (m,.free) hm rfl)
theorem xf(hc:X.calm=true)(ok:fK X scope N' n)(hi:PI X target iter wi)(hg:∀cl C s₀ H₀ ex,PG (wg X scope N' cl C s₀ H₀ ex) target g)(ht:∀cl C s₀ H₀ ex,O3 (wg X scope N' cl C s₀ H₀ ex) ifs tt)(he:∀cl C s₀ H₀ ex,PE (wg X scope N' cl C s₀ H₀ ex) elt te)(hs:∀x,foldedSetIterable iter X.env x=pure x:=by intro _;rfl):PE X (.ListComp elt [⟨target,iter,ifs,0⟩] scope pos) (zX n wi g tt te):=by intro pins s σ H Q I h;obtain⟨cl,hclos,hcl,Dq⟩:=qt I ok;rw[eval_ListComp];refine wpAny_comprehension_free (use:=none) rfl hs hclos ok.kind ok.names (dq (hi pins s σ H _ I h) fun v s1 h1=>dq h1 fun itv s2 h2=>?_);obtain⟨it,fp,tn,J,H2,rfl,I2,T,t0,f2,hw⟩:=h2;refine yP (Q:=fun D H'=>Q (.ref D) H') (RR:=fun acc C=>compPost (model X.prog X.w) X.A X.xe none (EP X pins σ Q) acc C) hc ok I2 hcl Dq T t0 f2 hg ht he hw fun D C s' H' q hm Us I'=>?_;obtain⟨m,hm⟩:=hm;refine⟨m,hm,fun h' hs'=>⟨.ref D,H',?_,rfl,q⟩⟩;exact I'.turned (t':=s'.toks) (fun b o hb e=>hs'.extBut b o hb e) Us.1 Us.2.1 Us.2.2.2.1 Us.2.2.2.2.1 Us.2.2.2.2.2
noncomputable def Yz(K:PySem.W.Frag)(tl:TE):TI:=fun σ H R=>tl σ H fun x H1=>∃a,x=.ref a/\(((∃xs,dI K H1 a xs)/\R (Ld K a) H1)\/((∃xs,gw K H1 a xs)/\R (PJ K a) H1))
theorem Cu{tg l:Expr}{tl:TE}(hl:PE X l tl):PI X tg l (Yz X.K tl):=by
 intro pins s σ H R I h;refine dq (hl pins s σ H _ I h) ?_;rintro v s1⟨x,H1,I1,r1,q1⟩;obtain⟨a,e,q1⟩:=q1;subst e;cases r1;rcases q1 with⟨⟨xs,hq⟩,q⟩|⟨⟨xs,hq⟩,q⟩
 . obtain⟨its,rv,p,hz⟩:=I1.list hq;refine wpAny_pyIter_list p.isList ?_;refine⟨s1.heap.objs.size,[s1.heap.objs.size],_,_,H1,rfl,I1.kept (t':=s1.toks) fun b o e=>Heap.get?_push_of_some _ e,zg a _,⟨_,Heap.get?_push_size _ rfl,rfl,rfl⟩,fun b hb=>?_,q⟩;have e:b=s1.heap.objs.size:=by simpa using hb
   subst e;exact I1.yg (Nat.le_refl _) (I1.hok.fresh (Nat.le_refl _))
 . obtain⟨its,rv,p,hz⟩:=I1.tuple hq;refine wpAny_pyIter_tuple (show s1.heap.IsTuple a its.toArray from p) ?_;refine⟨s1.heap.objs.size,[s1.heap.objs.size],_,_,H1,rfl,I1.kept (t':=s1.toks) fun b o e=>Heap.get?_push_of_some _ e,uT a _,⟨_,Heap.get?_push_size _ rfl,rfl,rfl⟩,fun b hb=>?_,q⟩;have e:b=s1.heap.objs.size:=by simpa using hb
   subst e;exact I1.yg (Nat.le_refl _) (I1.hok.fresh (Nat.le_refl _))
end
end L2
end
section
namespace HH
open PySem L2 PySem.Spec PyProof.Rows
structure Walk(K:PySem.W.Frag)(F:Hp)(ρ:List Sl)(σ:L2.St)(H:Hp)(ul:List Sl->List Sl)(J:It)(ds:List D)(F1:Hp)(ρ1:List Sl)(H1:Hp):Prop where
 gs:GS K F1 ρ1 σ H1
 src:∀(n k:Nat)(F':Hp)(ρ':List Sl)(σ':L2.St)(H':Hp),bA K F1 (ρ1++List.replicate n .bC) (σ++List.replicate n none) H1 F' ρ' σ' H'->(∀d,ds[k]?=some d->J.go k H'/\∀x j8,J.DW k H' x j8->∃F'',Ext F' H' F'' j8/\Rep K F'' x d)/\(ds.length<=k->J.stop k H')fin:∀F2 ρ2 σ2 H2,bA K F1 ρ1 σ H1 F2 ρ2 σ2 H2->bA K F ρ σ H F2 (ul ρ2) σ2 H2/\∀v r,cz K F2 ρ2 σ2 H2 ρ1 σ H1 v r->cz K F2 (ul ρ2) σ2 H2 ρ σ H v r
inductive tIt(K:PySem.W.Frag)(iv:Option Nat)(f:Ev)(σ:L2.St)(H:Hp)(R:It->Hp->Prop):Prop where|mk(F:Hp)(ρ:List Sl)(ds:List D)(ρ1:List Sl)(g:GS K F ρ σ H)(e:srcOf iv f ρ=.ok ds ρ1)(k:∀J F1 H1,Walk K F ρ σ H (aR ρ iv) J ds F1 ρ1 H1->R J H1)
section
variable{K:PySem.W.Frag}{F F1 H H1:Hp}{ρ ρ1:List Sl}{σ:L2.St}{ds:List D}{a:Addr}
theorem Ew{xs:List V}{F' H':Hp}(hq:gw K H' a xs)(r:aD K F' xs ds)(s:aF F' H')(k:Nat):(∀d,ds[k]?=some d->(PJ K a).go k H'/\∀x j8,(PJ K a).DW k H' x j8->∃F'',Ext F' H' F'' j8/\Rep K F'' x d)/\(ds.length<=k->(PJ K a).stop k H'):=by refine⟨fun d hd=>?_,fun h=>⟨xs,hq,by rw[r.length];exact h⟩⟩;obtain⟨w,h1,h2⟩:=r.get hd;refine⟨⟨xs,w,hq,h1⟩,?_⟩;rintro x j8⟨e,y⟩;subst e;have:=y xs hq;rw[h1]at this;cases this;exact⟨F',.refl s,h2⟩
theorem uc{xs:List V}{F' H':Hp}(hq:dI K H' a xs)(r:aD K F' xs ds)(s:aF F' H')(k:Nat):(∀d,ds[k]?=some d->(Ld K a).go k H'/\∀x j8,(Ld K a).DW k H' x j8->∃F'',Ext F' H' F'' j8/\Rep K F'' x d)/\(ds.length<=k->(Ld K a).stop k H'):=by refine⟨fun d hd=>?_,fun h=>⟨xs,hq,by rw[r.length];exact h⟩⟩;obtain⟨w,h1,h2⟩:=r.get hd;refine⟨⟨xs,w,hq,h1⟩,?_⟩;rintro x j8⟨e,y⟩;subst e;have:=y xs hq;rw[h1]at this;cases this;exact⟨F',.refl s,h2⟩
theorem sH{ul:List Sl->List Sl}{v:V}{d:D}(s:bA K F ρ σ H F1 ρ1 σ H1)(r:Rep K F1 v d)(hi:items d=some ds)(fin:∀F2 ρ2 σ2 H2,bA K F1 ρ1 σ H1 F2 ρ2 σ2 H2->bA K F ρ σ H F2 (ul ρ2) σ2 H2/\∀v r,cz K F2 ρ2 σ2 H2 ρ1 σ H1 v r->cz K F2 (ul ρ2) σ2 H2 ρ σ H v r):∃a,v=.ref a/\(((∃xs,dI K H1 a xs)/\Walk K F ρ σ H ul (Ld K a) ds F1 ρ1 H1)\/((∃xs,gw K H1 a xs)/\Walk K F ρ σ H ul (PJ K a) ds F1 ρ1 H1)):=by cases d with|tup es=>cases hi;rw[Rep]at r;obtain⟨a,xs,rfl,h1,h2⟩:=r;exact⟨a,rfl,.inr ⟨⟨xs,aF.fU s.gs.sub h1⟩,s.gs,fun n k F' ρ' σ' H' s'=>Ew (aF.fU s'.gs.sub (aF.fU s'.bV h1)) (h2.mono s'.bV) s'.gs.sub k,fin⟩⟩|lst es=>cases hi;rw[Rep]at r;obtain⟨a,xs,rfl,h1,h2⟩:=r;exact⟨a,rfl,.inl ⟨⟨xs,s.gs.sub.seq h1⟩,s.gs,fun n k F' ρ' σ' H' s'=>uc (s'.gs.sub.seq (s'.bV.seq h1)) (h2.mono s'.bV) s'.gs.sub k,fin⟩⟩|_=>cases hi
theorem o4{i:Nat}{ul:List Sl->List Sl}(g:GS K F ρ1 σ H)(e:ρ1[i]?=some (.lent ds))(fin:∀F2 ρ2 σ2 H2,bA K F ρ1 σ H F2 ρ2 σ2 H2->bA K F ρ σ H F2 (ul ρ2) σ2 H2/\∀v r,cz K F2 ρ2 σ2 H2 ρ1 σ H v r->cz K F2 (ul ρ2) σ2 H2 ρ σ H v r):∃a,σ[i]?=some (some (.ref a))/\(∃xs,dI K H a xs)/\Walk K F ρ σ H ul (Ld K a) ds F ρ1 H:=by obtain⟨a,xs,h1,h2,h3,h4⟩:=g.je i _ ds e rfl;have hi:i<ρ1.length:=(List.getElem?_eq_some_iff.mp e).1;refine⟨a,h1,⟨xs,dI.of h2⟩,g,fun n k F' ρ' σ' H' s'=>?_,fin⟩;obtain⟨z1,t,z2,z3⟩:=s'.lk i _ (by rw[List.getElem?_append_left hi];exact e) rfl;cases(show t=.lent ds from z3);rw[List.getElem?_append_left (by rw[<-g.len];exact hi),h1]at z1;obtain⟨a',ys,w1,w2,w3,w4⟩:=s'.gs.je i _ ds z2 rfl;rw[z1]at w1;cases w1;exact uc (dI.of w2) w4 s'.gs.sub k
end
section
variable{X:Cx}{c:Call}{n:Nat}{e a b d tg:Expr}{p pa pb pd:P}{pos:Pos}
theorem rZ{t t':TI}(h:PI X tg e t)(i:∀σ H R,t' σ H R->t σ H R):PI X tg e t':=fun pins s σ H R I q=>h pins s σ H R I (i σ H R q)
noncomputable def SI(X:Cx)(c:Call)(tg e:Expr)(p:P):Prop:=PI X tg e (tIt X.K (isVar p) (HH.ev c p))
theorem uY(h:SX X c e p):SI X c tg e p:=by unfold SI;cases hv:isVar p with|none=>refine rZ (Cu h.ev) ?_;rintro σ H R⟨F,ρ,ds,ρ1,g,e,k⟩;obtain⟨r,ρ2,e1,e2⟩:=ao e;have zz:=aM e2;clear e2;obtain⟨e2,e3⟩:=zz;subst e3;refine⟨F,ρ,r,_,g,e1,fun v F' H' s rr=>?_⟩;obtain⟨F2,s2,_,rp⟩:=s.fc rr;obtain⟨a,ha,hw⟩:=sH (ul:=aR ρ none) s2 rp e2 fun F3 ρ3 σ3 H3 s3=>⟨s2.trans s3,fun v r rr=>rr.later s2⟩;exact⟨a,ha,hw.imp (fun⟨z,w⟩=>⟨z,k _ _ _ w⟩) (fun⟨z,w⟩=>⟨z,k _ _ _ w⟩)⟩|some i=>
   refine rZ (Cu (h.var i hv)) ?_;rintro σ H R⟨F,ρ,ds,ρ1,g,e,k⟩;unfold srcOf at e;dsimp only at e;split at e
   . rename_i b d q;have zz:=aM e;clear e;obtain⟨e2,e3⟩:=zz;subst e3;obtain⟨v,h1,h2⟩:=g.val i b d q;have fin:∀F2 ρ2 σ2 H2,bA X.K F ρ σ H F2 ρ2 σ2 H2->bA X.K F ρ σ H F2 (aR ρ (some i) ρ2) σ2 H2/\∀v r,cz X.K F2 ρ2 σ2 H2 ρ σ H v r->cz X.K F2 (aR ρ (some i) ρ2) σ2 H2 ρ σ H v r:=fun F2 ρ2 σ2 H2 s=>by unfold aR;dsimp only;rw[q];exact⟨s,fun _ _ z=>z⟩
     obtain⟨a,ha,hw⟩:=sH (ul:=aR ρ (some i)) (.refl g) h2 e2 fin;exact⟨v,h1,a,ha,hw.imp (fun⟨z,w⟩=>⟨z,k _ _ _ w⟩) (fun⟨z,w⟩=>⟨z,k _ _ _ w⟩)⟩
   . rename_i b ds' q;cases e;have hi:i<ρ.length:=(List.getElem?_eq_some_iff.mp q).1;have fin:∀F2 ρ2 σ2 H2,bA X.K F (ρ.set i (.lent ds)) σ H F2 ρ2 σ2 H2->bA X.K F ρ σ H F2 (aR ρ (some i) ρ2) σ2 H2/\∀v r,cz X.K F2 ρ2 σ2 H2 (ρ.set i (.lent ds)) σ H v r->cz X.K F2 (aR ρ (some i) ρ2) σ2 H2 ρ σ H v r:=fun F2 ρ2 σ2 H2 s=>by unfold aR;dsimp only;rw[q];exact bA.aR g q s
     obtain⟨a,h1,hx,w⟩:=o4 (ul:=aR ρ (some i)) (g.lend q) (List.getElem?_set_self hi) fin;exact⟨_,h1,a,rfl,.inl ⟨hx,k _ _ _ w⟩⟩
   . rename_i ds' q;cases e;have fin:∀F2 ρ2 σ2 H2,bA X.K F ρ σ H F2 ρ2 σ2 H2->bA X.K F ρ σ H F2 (aR ρ (some i) ρ2) σ2 H2/\∀v r,cz X.K F2 ρ2 σ2 H2 ρ σ H v r->cz X.K F2 (aR ρ (some i) ρ2) σ2 H2 ρ σ H v r:=fun F2 ρ2 σ2 H2 s=>by unfold aR;dsimp only;rw[q];exact⟨s,fun _ _ z=>z⟩
     obtain⟨a,h1,hx,w⟩:=o4 (ul:=aR ρ (some i)) g q fin;exact⟨_,h1,a,rfl,.inl ⟨hx,k _ _ _ w⟩⟩
   .cases e
theorem De{K:PySem.W.Frag}{F F1 H H1:Hp}{ρ ρ1:List Sl}{σ:L2.St}(s:bA K F ρ σ H F1 ρ1 σ H1)(i j:Int):Walk K F ρ σ H (aR ρ none) (Vm i (j-i).toNat) ((List.range (j-i).toNat).map fun(k:Nat)=>D.int (i+(k:Int))) F1 ρ1 H1:=by
 refine⟨s.gs,fun n k F' ρ' σ' H' s'=>⟨fun d hd=>?_,fun h=>?_⟩,fun F3 ρ3 σ3 H3 s3=>⟨s.trans s3,fun v r rr=>rr.later s⟩⟩;.rw[List.getElem?_map]at hd;obtain⟨m,e1,e2⟩:=map_some hd;obtain⟨h1,h2⟩:=List.getElem?_eq_some_iff.mp e1;rw[List.getElem_range]at h2;subst h2;subst e2;rw[List.length_range]at h1;refine⟨h1,?_⟩;rintro x j8⟨q1,q2⟩;subst q1;subst q2;exact⟨F',.refl s'.gs.sub,dD _⟩
 .rw[List.length_map,List.length_range]at h;exact h
theorem jU{x:Str}{p':Pos}(hx:x="range")(hg:Gl X x)(hm:X.mg x=none)(ha:SX X c a pa)(hs:starEach [a] X.env=[(false,eval a X.env)]:=by rfl):SI X c tg (.Call (.Name x p') [a] [] pos) (.zj (.con (.int 0)) pa):=by
 subst hx;obtain⟨ta,h1,h2⟩:=ha.cX;refine rZ (yl hg hm (aZ h1 cW hs) hs) ?_;rintro σ H R⟨F,ρ,ds,ρ1,g,e,k⟩;obtain⟨r,ρ2,e1,e2⟩:=ao e;have zz:=aM e2;clear e2;obtain⟨e2,e3⟩:=zz;subst e3;rw[HH.ev]at e1;obtain⟨xy,ρ3,e4,e5⟩:=ao e1;have zz:=aM e5;clear e5;obtain⟨e5,e6⟩:=zz;subst e6;obtain⟨y0,ρ5,e9,e10⟩:=ao e4;cases e10;obtain⟨i,f1,e5⟩:=gC e5;obtain⟨j,f2,e5⟩:=gC e5;obtain⟨⟨b1,b2,b3,b4⟩,e5⟩:=bM e5;have f1:i=0:=by cases f1;rfl
 subst f1;subst e5;cases e2;cases m5 f2;refine h2 g e9 fun v F' H' s pv=>⟨j,by rw[pv.int],by omega,by omega,?_⟩;have:=De s 0 j;rw[Int.sub_zero]at this;refine k _ F' H' ?_;rw[Int.sub_zero];exact this
end
end HH
end
section
namespace HH
open PySem L2 PySem.Spec PyProof.Rows
section
variable{X:Cx}{c:Call}{n:Nat}{e a b d tg iter:Expr}{p pa pb pd:P}{pos:Pos}{body:List Stmt}{ss:List S}
noncomputable def Fz(K:PySem.W.Frag)(bd:List Sl->D->Option (List Sl))(g:TG):Prop:=∀(x:V)(d:D)(F:Hp)(ρ ρ':List Sl)(σ:L2.St)(H:Hp)(Q:L2.St->Hp->Prop),GS K F ρ σ H->Rep K F x d->bd ρ d=some ρ'->(∀σ',bA K F ρ σ H F ρ' σ' H->Q σ' H)->g x σ H Q
theorem Ei{K:PySem.W.Frag}(i:Nat):Fz K (fun ρ d=>put ρ i (.val false d)) (pq i):=fun x d F ρ ρ' σ H Q g r h k=>k _ (bA.put (r:=.val d) (.refl g) r h)
theorem jH{K:PySem.W.Frag}:∀(is:List Nat)(gs:zq),(∀(xs:List V)(ds:List D)(F:Hp)(ρ ρ':List Sl)(σ:L2.St)(H:Hp)(Q:L2.St->Hp->Prop),GS K F ρ σ H->aD K F xs ds->putAll ρ is ds=some ρ'->(∀σ',bA K F ρ σ H F ρ' σ' H->Q σ' H)->gs xs σ H Q)->∀i,∀(xs:List V)(ds:List D)(F:Hp)(ρ ρ':List Sl)(σ:L2.St)(H:Hp)(Q:L2.St->Hp->Prop),GS K F ρ σ H->aD K F xs ds->putAll ρ (i::is) ds=some ρ'->(∀σ',bA K F ρ σ H F ρ' σ' H->Q σ' H)->zF (pq i) gs xs σ H Q:=by intro is gs ih i xs ds F ρ ρ' σ H Q g r h k;cases ds with|nil=>simp[putAll]at h|cons d ds=>obtain⟨v,vs,rfl,h1,h2⟩:=r.cg;rw[putAll]at h;obtain⟨ρ1,e1,e2⟩:=gC h;have s1:=bA.put (r:=.val d) (.refl g) h1 e1;refine⟨v,vs,rfl,ih vs ds F ρ1 ρ' _ H _ s1.gs h2 e2 fun σ' s2=>k σ' (s1.trans s2)⟩
theorem wD{K:PySem.W.Frag}:∀(xs:List V)(ds:List D)(F:Hp)(ρ ρ':List Sl)(σ:L2.St)(H:Hp)(Q:L2.St->Hp->Prop),GS K F ρ σ H->aD K F xs ds->putAll ρ [] ds=some ρ'->(∀σ',bA K F ρ σ H F ρ' σ' H->Q σ' H)->Ko xs σ H Q:=by intro xs ds F ρ ρ' σ H Q g r h k;cases ds with|nil=>rw[putAll]at h;cases h;exact⟨r.fB,k σ (.refl g)⟩|cons d ds=>simp[putAll]at h
theorem jo:∀{is:List Nat}{ds:List D}{ρ ρ':List Sl},putAll ρ is ds=some ρ'->ds.length=is.length|[],[],_,_,_=>rfl|[],_::_,_,_,h=>by simp[putAll]at h|_::_,[],_,_,h=>by simp[putAll]at h|i::is,d::ds,ρ,ρ',h=>by rw[putAll]at h;obtain⟨ρ1,e1,e2⟩:=gC h;simp[jo e2]
theorem zT{K:PySem.W.Frag}{is:List Nat}{gs:zq}{m:Nat}(hm:m=is.length)(h:∀(xs:List V)(ds:List D)(F:Hp)(ρ ρ':List Sl)(σ:L2.St)(H:Hp)(Q:L2.St->Hp->Prop),GS K F ρ σ H->aD K F xs ds->putAll ρ is ds=some ρ'->(∀σ',bA K F ρ σ H F ρ' σ' H->Q σ' H)->gs xs σ H Q):Fz K (fun ρ d=>bW ρ is false d) (Mm K m gs):=by intro x d F ρ ρ' σ H Q g r hb k;replace hb:bW ρ is false d=some ρ':=hb;cases d with|tup ds=>replace hb:putAll ρ is ds=some ρ':=hb;rw[Rep]at r;obtain⟨a,xs,rfl,h1,h2⟩:=r;exact⟨a,xs,rfl,aF.fU g.sub h1,by rw[h2.length,jo hb,hm],h xs _ F ρ ρ' σ H Q g h2 hb k⟩|_=>cases hb
theorem Dn{g:TG}{is:List Nat}{one:Bool}(hp:PassesOwn (model X.prog X.w) X.A X.env X.xe)(hc:X.calm=true)(hi:SI X c tg iter p)(hg:PG X tg g)(hgo:Fz X.K (fun ρ d=>bW ρ is one d) g)(hb:SB X c n body ss)(hs:∀x,foldedSetIterable iter X.env x=pure x:=by intro _;rfl):SS X c n (.For tg iter body [] pos) (.oH p is one ss):=by
 refine dR (Lf hp hc hi hg hb hs) ?_;rintro D σ H⟨F,ρ,fl,ρ',g0,e,k⟩;rw[ex]at e;obtain⟨ds,ρ1,e1,e⟩:=ao e;obtain⟨Ut,ρ2,e2,e⟩:=ao e;cases e;refine⟨F,ρ,ds,ρ1,g0,e1,fun J F1 H1 w=>?_⟩;have src:∀(i:Nat)(F':Hp)(ρ':List Sl)(σ':L2.St)(H':Hp),bA X.K F1 ρ1 σ H1 F' ρ' σ' H'->(∀d,ds[i]?=some d->J.go i H'/\∀x j8,J.DW i H' x j8->∃F'',Ext F' H' F'' j8/\Rep X.K F'' x d)/\(ds.length<=i->J.stop i H'):=fun i F' ρ' σ' H' s=>w.src 0 i F' ρ' σ' H' (by simpa using s);refine⟨fun i m σi Hi=>∃Fi ρi,bA X.K F1 ρ1 σ H1 Fi ρi σi Hi/\m=ds.length-i/\i<=ds.length/\kj is one (cG c n ss) (ds.drop i) ρi=.ok fl ρ2,⟨_,F1,ρ1,.refl w.gs,rfl,Nat.zero_le _,e2⟩,?_⟩;rintro i m σi Hi⟨Fi,ρi,si,rfl,hle,ei⟩;obtain⟨s1,s2⟩:=src i Fi ρi σi Hi si;by_cases hlt:i<ds.length
 . right;have hd:ds[i]?=some ds[i]:=by simp[hlt]
   obtain⟨go,step⟩:=s1 _ hd;refine⟨go,fun σ' H'=>∃m',m'<ds.length-i/\∃Fi ρi,bA X.K F1 ρ1 σ H1 Fi ρi σ' H'/\m'=ds.length-(i+1)/\i+1<=ds.length/\kj is one (cG c n ss) (ds.drop (i+1)) ρi=.ok fl ρ2,fun σ' H' z=>z,fun x H' y=>?_⟩;obtain⟨F2,ext,rx⟩:=step x H' y;have si2:=si.trans (ext.stp si.gs);rw[List.drop_eq_getElem_cons hlt,kj]at ei;cases hbd:bW ρi is one ds[i]with|none=>rw[hbd]at ei;cases ei|some ρb=>rw[hbd]at ei;obtain⟨flb,ρc,eb,ei⟩:=ao ei;refine hgo x _ F2 ρi ρb σi H' _ si2.gs rx hbd fun σ2 sb=>?_;have Z4:=si2.trans sb;refine⟨F2,ρb,flb,ρc,Z4.gs,eb,fun F4 σ4 H4 s4=>?_⟩;have Wi:=Z4.trans s4;cases flb with|next=>exact⟨_,by omega,F4,ρc,Wi,rfl,hlt,ei⟩|cont=>exact⟨_,by omega,F4,ρc,Wi,rfl,hlt,ei⟩|brk=>cases ei;exact k F4 σ4 H4 (w.fin _ _ _ _ Wi).1|ret r=>cases ei;intro v rr;obtain⟨z1,z2⟩:=w.fin _ _ _ _ Wi;exact k F4 σ4 H4 z1 v (z2 v r (rr.later Z4))
 . left;have hdr:ds.drop i=[]:=by rw[List.drop_eq_nil_iff];omega
   rw[hdr,kj]at ei;cases ei;exact⟨s2 (by omega),k Fi σi Hi (w.fin _ _ _ _ si).1⟩
theorem yL(i:Nat):(fun(ρ:List Sl)(d:D)=>bW ρ [i] true d)=fun ρ d=>put ρ i (.val false d):=by funext ρ d;rfl
theorem iD{i:Nat}{x:Str}{pos':Pos}(hp:PassesOwn (model X.prog X.w) X.A X.env X.xe)(hc:X.calm=true)(hN:X.N.Nodup)(hx0:X.N[i]?=some x)(hx:Loc X.env.scope x)(hi:SI X c (.Name x pos') iter p)(hb:SB X c n body ss)(hs:∀x,foldedSetIterable iter X.env x=pure x:=by intro _;rfl)(hf:X.fn x=true\/X.env.scope.names.lookup x=some .local:=by first|exact .inl rfl|exact .inr rfl|assumption):SS X c n (.For (.Name x pos') iter body [] pos) (.oH p [i] true ss):=Dn hp hc hi (cA hN hx0 hx hf) (by rw[yL];exact Ei i) hb hs
theorem vm(hp:PassesOwn (model X.prog X.w) X.A X.env X.xe)(ht:ST X c e p)(hb:SB X c n body ss):SS X c n (.While e body [] pos) (.whl p ss):=by refine dR (rO hp ht hb) ?_;rintro D σ H⟨F,ρ,fl,ρ',g,e,k⟩;rw[ex]at e;refine⟨fun m σi Hi=>∃Fi ρi,bA X.K F ρ σ H Fi ρi σi Hi/\lO (fO (HH.ev c p)) (cG c n ss) m ρi=.ok fl ρ',⟨n,F,ρ,.refl g,e⟩,?_⟩;rintro m σi Hi⟨Fi,ρi,si,ei⟩;cases m with|zero=>rw[lO]at ei;cases ei|succ m=>rw[lO]at ei;obtain⟨b,ρ1,e1,ei⟩:=ao ei;refine⟨Fi,ρi,b,ρ1,si.gs,e1,fun F1 H1 s1=>?_⟩;have s2:=si.trans s1;cases b with|false=>rw[if_neg Bool.false_ne_true]at ei;cases ei;exact k F1 σi H1 s2|true=>rw[if_pos rfl]at ei;obtain⟨flb,ρc,eb,ei⟩:=ao ei;refine(show ∃N:L2.St->Hp->Prop,_/\_ from⟨fun σ' H'=>∃m',m'<m+1/\∃Fi ρi,bA X.K F ρ σ H Fi ρi σ' H'/\lO (fO (HH.ev c p)) (cG c n ss) m' ρi=.ok fl ρ',fun σ' H' z=>z,F1,ρ1,flb,ρc,s2.gs,eb,fun F4 σ4 H4 s4=>?_⟩);have s5:=s2.trans s4;cases flb with|next=>exact⟨m,by omega,F4,ρc,s5,ei⟩|cont=>exact⟨m,by omega,F4,ρc,s5,ei⟩|brk=>cases ei;exact k F4 σ4 H4 s5|ret r=>cases ei;exact fun v rr=>k F4 σ4 H4 s5 v (rr.later s2)
end
end HH
end
section
namespace HH
open PySem L2 PySem.Spec PyProof.Rows
section
variable{X:Cx}{c:Call}{n:Nat}{e elt tg iter:Expr}{p ps pe:P}{pos:Pos}{scope:Scope}{N':List Str}{ifs:List Expr}
theorem zR{t t':TE}(h:PE X e t)(i:∀σ H Q,σ.length=X.N.length->t' σ H Q->t σ H Q):PE X e t':=fun pins s σ H Q I q=>h pins s σ H Q I (i σ H Q I.len q)
noncomputable def pF(K:PySem.W.Frag)(m:Nat)(is:List Nat)(one:Bool)(g:TG):Prop:=∀(x:V)(d:D)(F:Hp)(ρ ρ':List Sl)(σ:L2.St)(H:Hp)(Q:L2.St->Hp->Prop),GS K F ρ σ H->Rep K F x d->bW ρ is one d=some ρ'->(∀σ',bA K F ρ σ H F ρ' σ' H->σ'.take m=σ.take m->Q σ' H)->g x σ H Q
theorem take_set{α:Type}{l:List α}{i m:Nat}{a:α}(h:m<=i):(l.set i a).take m=l.take m:=by rw[List.take_set_of_le h]
theorem Ck{K:PySem.W.Frag}{i m:Nat}(h:m<=i):pF K m [i] true (pq i):=fun x d F ρ ρ' σ H Q g r hb k=>k _ (bA.put (r:=.val d) (.refl g) r hb) (take_set h)
noncomputable def GD(K:PySem.W.Frag)(m:Nat)(is:List Nat)(gs:zq):Prop:=∀(xs:List V)(ds:List D)(F:Hp)(ρ ρ':List Sl)(σ:L2.St)(H:Hp)(Q:L2.St->Hp->Prop),GS K F ρ σ H->aD K F xs ds->putAll ρ is ds=some ρ'->(∀σ',bA K F ρ σ H F ρ' σ' H->σ'.take m=σ.take m->Q σ' H)->gs xs σ H Q
theorem eU{K:PySem.W.Frag}{m i:Nat}{is:List Nat}{gs:zq}(hi:m<=i)(ih:GD K m is gs):GD K m (i::is) (zF (pq i) gs):=by intro xs ds F ρ ρ' σ H Q g r h k;cases ds with|nil=>simp[putAll]at h|cons d ds=>obtain⟨v,vs,rfl,h1,h2⟩:=r.cg;rw[putAll]at h;obtain⟨ρ1,e1,e2⟩:=gC h;have s1:=bA.put (r:=.val d) (.refl g) h1 e1;exact⟨v,vs,rfl,ih vs ds F ρ1 ρ' _ H _ s1.gs h2 e2 fun σ' s2 z=>k σ' (s1.trans s2) (z.trans (take_set hi))⟩
theorem pZ{K:PySem.W.Frag}{m:Nat}:GD K m [] Ko:=by intro xs ds F ρ ρ' σ H Q g r h k;cases ds with|nil=>rw[putAll]at h;cases h;exact⟨r.fB,k σ (.refl g) rfl⟩|cons d ds=>simp[putAll]at h
theorem qw{K:PySem.W.Frag}{is:List Nat}{gs:zq}{m l:Nat}(hm:l=is.length)(h:GD K m is gs):pF K m is false (Mm K l gs):=by intro x d F ρ ρ' σ H Q g r hb k;cases d with|tup ds=>replace hb:putAll ρ is ds=some ρ':=hb;rw[Rep]at r;obtain⟨a,xs,rfl,h1,h2⟩:=r;exact⟨a,xs,rfl,aF.fU g.sub h1,by rw[h2.length,jo hb,hm],h xs _ F ρ ρ' σ H Q g h2 hb k⟩|_=>cases hb
noncomputable def SQ(X:Cx)(c:Call)(ifs:List Expr)(t:Option P):Prop:=O3 X ifs (HR X.K (mY c t))
theorem wB:SQ X c [] none:=fun pins s σ H Q I⟨F,ρ,k,ρ',g,e,q⟩=>by rw[mY]at e;cases e;exact Hh pins s σ H Q I (q F H (.refl g))
theorem xx(h:ST X c e p):SQ X c [e] (some p):=fun pins s σ H Q I⟨F,ρ,k,ρ',g,e,q⟩=>by rw[mY]at e;exact FW h pins s σ H Q I ⟨F,ρ,k,ρ',g,e,q⟩
theorem bA.RL{K:PySem.W.Frag}{F H F1 H1:Hp}{ρ ρ1:List Sl}{σ σ1:L2.St}{Da:Addr}{o:HO}(s:bA K F ρ σ H F1 ρ1 σ1 H1)(h:H Da=none)(hf:F1 Da=none)(ho:¬ Own ρ1 σ1 Da):bA K F ρ σ H F1 ρ1 σ1 (upd H1 Da o):=by
 refine⟨⟨fun b u e=>?_,s.gs.len,s.gs.val,fun i t ds e e'=>?_,s.gs.dis⟩,s.bV,s.xR,fun b u e n=>?_,s.xT,s.len,s.lk⟩
 . have:b≠Da:=by rintro rfl;rw[hf]at e;cases e
   rw[aJ this];exact s.gs.sub b u e
 . obtain⟨a,xs,q1,q2,q3,q4⟩:=s.gs.own i t ds e e';have:a≠Da:=by rintro rfl;exact ho ⟨i,⟨t,ds,e,e'⟩,q1⟩
   exact⟨a,xs,q1,by rw[aJ this];exact q2,q3,q4⟩
 . have:b≠Da:=by rintro rfl;rw[h]at e;cases e
   rw[aJ this];exact s.keep b u e n
theorem sZ{K:PySem.W.Frag}{F H:Hp}{ρ ρ1 ρ2:List Sl}{σ:L2.St}{ul:List Sl->List Sl}{ti:TI}{is:List Nat}{one:Bool}{test:List Sl->Res Bool}{el:Ev}{g:TG}{Q:VK}{ds xs:List D}{m:Nat}(hm:σ.length=m)(hgo:pF K m is one g)(hti:∀R:It->Hp->Prop,(∀J F1 H1,Walk K F ρ σ H ul J ds F1 ρ1 H1->R J H1)->ti σ H R)(hlim:ds.length<=lim)(e2:turns is one test el ds [] (ρ1++List.replicate n .bC)=.ok xs ρ2)(k:∀v F' H',bA K F ρ σ H F' (ul (ρ2.take ρ1.length)) σ H'->cz K F' (ul (ρ2.take ρ1.length)) σ H' ρ σ H v (.own xs)->Q v H'):zX n ti g (HR K test) (Bb K el) σ H Q:=by
 refine hti _ fun J F1 H1 w Da Qp=>?_;have hl1:ρ1.length=σ.length:=w.gs.len;have gm:=w.gs.more (n:=n) (τ:=List.replicate n none) (by simp);have fD:F1 Da=none:=by cases q:F1 Da with|none=>rfl|some o=>rw[w.gs.sub Da o q]at Qp;cases Qp
 have nO:¬ Own (ρ1++List.replicate n .bC) (σ++List.replicate n none) Da:=fun⟨i,⟨t,dt,q1,q2⟩,q3⟩=>by obtain⟨a,ys,z1,z2,_⟩:=gm.own i t dt q1 q2;rw[q3]at z1;cases z1;rw[Qp]at z2;cases z2
 refine⟨fun i mm ys σi Hi=>∃Fi ρi acc,bA K F1 (ρ1++List.replicate n .bC) (σ++List.replicate n none) H1 Fi ρi σi Hi/\σi.take m=σ/\Hi Da=some (.lst ys)/\Fi Da=none/\¬ Own ρi σi Da/\aD K Fi ys acc/\acc.length<=i/\mm=ds.length-i/\i<=ds.length/\turns is one test el (ds.drop i) acc ρi=.ok xs ρ2,⟨_,F1,_,[],(bA.refl gm).RL Qp fD nO,by rw[List.take_append_of_le_length (by omega),List.take_of_length_le (by omega)],aW,fD,nO,.nil,Nat.zero_le _,rfl,Nat.zero_le _,e2⟩,?_⟩;rintro i mm ys σi Hi⟨Fi,ρi,acc,si,hσ,hD,hF,hO,rs,hacc,rfl,hle,ei⟩;refine⟨hD,?_⟩--what stays of the new list through a step
 have stay:∀{F2 H2:Hp}{ρ3:List Sl}{σ2:L2.St},bA K Fi ρi σi Hi F2 ρ3 σ2 H2->H2 Da=some (.lst ys)/\F2 Da=none/\¬ Own ρ3 σ2 Da:=fun{F2 H2 ρ3 σ2}s=>by
  refine⟨s.keep Da _ hD hO,?_,fun o=>?_⟩;.cases q:F2 Da with|none=>rfl|some o=>
      rcases s.xR Da hF (by rw[q];simp)with z|z;.exact absurd z hO
      .exact(Cw hD z).elim
  . rcases s.xT Da o with z|z;.exact hO z
    .rw[hD]at z;cases z
 obtain⟨s1,s2⟩:=w.src n i Fi ρi σi Hi si;by_cases hlt:i<ds.length
 . right;have hd:ds[i]?=some ds[i]:=by simp[hlt]
   obtain⟨go,step⟩:=s1 _ hd;refine⟨go,fun x H2 y=>?_⟩;obtain⟨F2,ext,rx⟩:=step x H2 y;have t2:=ext.stp si.gs;rw[List.drop_eq_getElem_cons hlt,turns]at ei;cases hbd:bW ρi is one ds[i]with|none=>rw[hbd]at ei;cases ei|some ρb=>rw[hbd]at ei;obtain⟨bb,ρc,eb,ei⟩:=ao ei;refine hgo x _ F2 ρi ρb σi H2 _ t2.gs rx hbd fun σ2 sb htk=>?_;have t3:=t2.trans sb;refine⟨F2,ρb,bb,ρc,t3.gs,eb,fun F4 H4 s4=>?_⟩;have t4:=t3.trans s4;cases bb with|false=>rw[if_neg Bool.false_ne_true]at ei;obtain⟨y1,y2,y3⟩:=stay t4;exact⟨_,by omega,F4,ρc,acc,si.trans t4,htk.trans hσ,y1,y2,y3,rs.mono t4.bV,by omega,rfl,hlt,ei⟩|true=>
       rw[if_pos rfl]at ei;obtain⟨re,ρe,ee,ei⟩:=ao ei;refine(show Bb K el σ2 H4 _ from⟨F4,ρc,re,ρe,t4.gs,ee,fun v F5 H5 s5 rr=>?_⟩);obtain⟨F6,s6,_,rp⟩:=s5.fc rr;have t6:=t4.trans s6;obtain⟨y1,y2,y3⟩:=stay t6;have hlen:ys.length<sizeLine:=by have h1:=rs.length;have h2:lim=sizeLine:=rfl;omega
       exact⟨y1,hlen,_,by omega,F6,ρe,acc++[re.d],(si.trans t6).RL Qp y2 y3,htk.trans hσ,aW,y2,y3,(rs.mono t6.bV).append (.cons rp .nil),by simp;omega,rfl,hlt,ei⟩
 . left;have hdr:ds.drop i=[]:=by rw[List.drop_eq_nil_iff];omega
   rw[hdr,turns]at ei;cases ei;refine⟨s2 (by omega),?_⟩;obtain⟨l1,l2⟩:=bA.less (m:=ρ1.length) rfl w.gs (by simp) si;have hst:σi.take ρ1.length=σ:=by rw[hl1,hm];exact hσ
   rw[hst]at l1;have rr:cz K Fi ρ2 σi Hi (ρ1++List.replicate n .bC) (σ++List.replicate n none) H1 (.ref Da) (.own xs):=⟨Da,ys,rfl,hD,hF,rs,hO,.inr Qp⟩;have rr2:=l2 _ _ rr;rw[hst]at rr2;obtain⟨z1,z2⟩:=w.fin _ _ _ _ l1;exact k _ Fi Hi z1 (z2 _ _ rr2)
theorem Gr{K:PySem.W.Frag}{F H:Hp}{ρ:List Sl}{σ:L2.St}{iv:Option Nat}{f:Ev}{is:List Nat}{one:Bool}{test:List Sl->Res Bool}{el:Ev}{g:TG}{Q:VK}{r:R}{ρ':List Sl}{m:Nat}(hm:σ.length=m)(hgo:pF K m is one g)(g0:GS K F ρ σ H)(e:((srcOf iv f ρ).bind fun ds ρ₁=>if ds.length<=lim then(turns is one test el ds [] (ρ₁++List.replicate n .bC)).bind fun xs ρ₂=>Res.ok (R.own xs) (aR ρ iv (ρ₂.take ρ₁.length))else .stuck)=.ok r ρ')(k:∀v F' H',bA K F ρ σ H F' ρ' σ H'->cz K F' ρ' σ H' ρ σ H v r->Q v H'):zX n (tIt K iv f) g (HR K test) (Bb K el) σ H Q:=by
 obtain⟨ds,ρ1,e1,e⟩:=ao e;split at e;.rename_i hlim;obtain⟨xs,ρ2,e2,e⟩:=ao e;cases e;exact sZ hm hgo (fun R h=>⟨F,ρ,ds,ρ1,g0,e1,h⟩) hlim e2 k
 .cases e
theorem rm{g:TG}{is:List Nat}{one:Bool}{t:Option P}(hc:X.calm=true)(ok:fK X scope N' n)(hi:SI X c tg iter ps)(hg:∀cl C s₀ H₀ ex,PG (wg X scope N' cl C s₀ H₀ ex) tg g)(hgo:pF X.K X.N.length is one g)(ht:∀cl C s₀ H₀ ex,SQ (wg X scope N' cl C s₀ H₀ ex) c ifs t)(he:∀cl C s₀ H₀ ex,SX (wg X scope N' cl C s₀ H₀ ex) c elt pe)(hs:∀x,foldedSetIterable iter X.env x=pure x:=by intro _;rfl):SX X c (.ListComp elt [⟨tg,iter,ifs,0⟩] scope pos) (.comp ps n is one t pe):=by refine⟨zR (xf (tt:=HR X.K (mY c t)) (te:=Bb X.K (HH.ev c pe)) hc ok hi hg ht (fun cl C s₀ H₀ ex=>(he cl C s₀ H₀ ex).ev) hs) ?_,fun i h=>by cases h⟩;rintro σ H Q hl⟨F,ρ,r,ρ',g0,e,k⟩;rw[HH.ev]at e;exact Gr hl hgo g0 e k
end
end HH
end
section
namespace HH
open PySem L2 PySem.Spec PyProof.Rows
section
variable{X:Cx}{c:Call}{n:Nat}{e a b d:Expr}{p pa pb pd:P}{pos:Pos}{es:List Expr}{ps:List P}
noncomputable def Ys:D->String|.non=>"NoneType"|.bl _=>"bool"|.int _=>"int"|.str _=>"str"|.tup _=>"tuple"|.lst _=>"list"|.cZ _=>"dict"|.dv _ _=>"dict"
noncomputable def vC:Ty->String|.none=>"NoneType"|.bool=>"bool"|.int=>"int"|.str=>"str"|.tuple=>"tuple"|.list=>"list"
theorem Iz(K:PySem.W.Frag)(t:Ty)(d:D):PySem.W.kitOne K (.type (Ys d)) (.type (vC t))=some (bQ t d):=by cases t<;>cases d<;>rfl
theorem wF(K:PySem.W.Frag)(d:D):∀ts:List Ty,PySem.W.kitAny K (.type (Ys d)) (ts.map fun t=>Value.type (vC t))=some (ts.any fun t=>bQ t d)|[]=>rfl|t::ts=>by rw[List.map_cons,PySem.W.kitAny,Iz,List.any_cons];cases bQ t d with|true=>rfl|false=>rw[Bool.false_or];exact wF K d ts
theorem HJ{pins:List (Addr×Obj)}{σ:L2.St}{H F:Hp}{s:Shared}{x:V}{u:Value}{dt:D}(I:L2.Inv X pins σ H s)(sm:aF F H)(px:bT X.K F H x dt)(rx:RelV x u):(∃Hq,PySem.W.KitX X.K u (.type (Ys dt)) Hq/\Hq s.heap)/\u≠.builtin "__main__.__loader__#opaque":=by cases dt with|non=>rw[px.non]at rx;cases rx;exact⟨⟨_,PySem.W.kitx_none,trivial⟩,nofun⟩|bl y=>rw[px.bl]at rx;cases rx;exact⟨⟨_,PySem.W.kitx_bool,trivial⟩,nofun⟩|int i=>rw[px.int]at rx;obtain⟨t,rfl⟩:=rx;exact⟨⟨_,PySem.W.kitx_int,trivial⟩,nofun⟩|str y=>rw[px.str]at rx;obtain⟨t,rfl⟩:=rx;exact⟨⟨_,PySem.W.kitx_str,trivial⟩,nofun⟩|tup ds=>obtain⟨q,xs,rfl,hq,_⟩:=px.tup sm;cases rx;obtain⟨its,_,⟨o,h1,h2,_⟩,_⟩:=I.tuple hq;exact⟨⟨_,PySem.W.kitx_tuple,⟨o,h1,h2⟩⟩,nofun⟩|lst ds=>obtain⟨q,xs,rfl,hq,_⟩:=px.lst sm;cases rx;obtain⟨its,_,pl,_⟩:=I.list hq;obtain⟨o,h1,h2,_⟩:=pl.isList;exact⟨⟨_,PySem.W.kitx_list,⟨o,h1,h2⟩⟩,nofun⟩|cZ m=>obtain⟨q,_,rfl,hq⟩:=px.cZ sm;cases rx;obtain⟨o,h1,h2⟩:=BP I hq;exact⟨⟨_,PySem.W.kitx_dict,⟨o,h1,h2⟩⟩,nofun⟩|dv ks ds=>obtain⟨q,_,vs,rfl,hq,_⟩:=px.dv sm;cases rx;obtain⟨o,h1,h2⟩:=Ba I hq;exact⟨⟨_,PySem.W.kitx_dict,⟨o,h1,h2⟩⟩,nofun⟩
theorem J1(t:Ty):eZ X (.builtin "isinstance") (fun xs H Q=>∃x F dt,xs=[x,.ty (vC t)]/\aF F H/\bT X.K F H x dt/\Q (.bl (bQ t dt)) H):=by rintro pins s σ H xs us Q I r⟨x,F,dt,hx,sm,px,q⟩;subst hx;obtain⟨u,w',rfl,rx,rt⟩:=r.two;cases(show w'=Value.type (vC t)from rt);obtain⟨⟨Hq,Z,hz⟩,hne⟩:=HJ I sm px rx;exact PySem.W.kia_one Z I.DP hz (Iz _ t dt) hne fun tk=>⟨.bl _,H,I.tok tk,rfl,q⟩
theorem xg:∀{ts:List Ty}{its:List Value},Vals (ts.map fun t=>V.ty (vC t)) its->its=ts.map fun t=>Value.type (vC t)|[],_,h=>h.zero|t::ts,_,.cons r1 r2=>by rw[List.map_cons,<-xg r2,show _=_ from r1]
theorem Gi(ts:List Ty):eZ X (.builtin "isinstance") (fun xs H Q=>∃x F dt q,xs=[x,.ref q]/\H q=some (.tup (ts.map fun t=>V.ty (vC t)))/\aF F H/\bT X.K F H x dt/\Q (.bl (ts.any fun t=>bQ t dt)) H):=by rintro pins s σ H xs us Q I r⟨x,F,dt,q,hx,hq,sm,px,k⟩;subst hx;obtain⟨u,w',rfl,rx,rt⟩:=r.two;cases(show w'=Value.ref q from rt);obtain⟨⟨Hq,Z,hz⟩,hne⟩:=HJ I sm px rx;obtain⟨_,its,rv,⟨⟨cls,dd,data,sl⟩,ho,hc,n,hd⟩⟩:=(show cB X.prog X.w H s.heap q (.tup _)from I.hok q _ hq);simp only at hc hd;subst hc hd;have hits:its=ts.map fun t=>Value.type (vC t):=xg rv;subst hits;exact PySem.W.kia_tup Z I.DP hz ho (wF _ dt ts) hne fun tk=>⟨.bl _,H,I.tok tk,rfl,k⟩
theorem jM:bootBuiltins "isinstance"=some (.builtin "isinstance"):=by decide+kernel
theorem jK{x y:Str}{p' p2:Pos}(t:Ty)(hx:x="isinstance")(hg:Gl X x)(hm:X.mg x=none)(ha:SX X c a pa)(Z5:Gl X y)(Z6:X.mg y=none)(hy:bootBuiltins y=some (.type (vC t)))(Z7:y≠"__name__":=by decide)(Z8:(y==("__debug__":Str))=false:=by decide)(hs:starEach [a,.Name y p2] X.env=(false,eval a X.env)::starEach [.Name y p2] X.env:=by rfl):SX X c (.Call (.Name x p') [a,.Name y p2] [] pos) (.inst [t] pa):=by subst hx;obtain⟨ta,h1,h2⟩:=ha.cX;refine⟨dz (dO (J1 t) hg hm jM (aZ h1 (aZ (p6 (v:=.ty (vC t)) Z5 Z6 hy rfl Z7 Z8) cW) hs) (he:=hs)) ?_,fun i h=>by cases h⟩;rintro σ H Q⟨F,ρ,r,ρ',g,e,k⟩;rw[HH.ev]at e;obtain⟨dt,ρ1,e1,e⟩:=ao e;cases e;refine h2 g e1 fun v F' H' s pv=>⟨v,F',dt,rfl,s.gs.sub,pv,k _ F' H' s ?_⟩;show Rep X.K F' _ _;rw[List.any_cons,List.any_nil,Bool.or_false];exact gG _
noncomputable def FT(X:Cx)(ts:List Ty)(es:List Expr):Prop:=PA X es (fun _ H Q=>Q (ts.map fun t=>V.ty (vC t)) H)
theorem wu:FT X [] []:=jz cW fun _ _ _ h=>h
theorem jP{y:Str}{p2:Pos}{ts:List Ty}(t:Ty)(Z5:Gl X y)(Z6:X.mg y=none)(hy:bootBuiltins y=some (.type (vC t)))(h:FT X ts es)(Z7:y≠"__name__":=by decide)(Z8:(y==("__debug__":Str))=false:=by decide)(hs:starEach (.Name y p2::es) X.env=(false,eval (.Name y p2) X.env)::starEach es X.env:=by rfl):FT X (t::ts) (.Name y p2::es):=jz (aZ (p6 (v:=.ty (vC t)) Z5 Z6 hy rfl Z7 Z8) h hs) fun _ _ _ h=>h
theorem tO{x:Str}{p' p2:Pos}{k2}{ts:List Ty}(hx:x="isinstance")(hg:Gl X x)(hm:X.mg x=none)(ha:SX X c a pa)(ht:FT X ts es)(hz:ts.length<=sizeLine:=by decide)(hs:starEach [a,.Tuple es k2 p2] X.env=(false,eval a X.env)::starEach [.Tuple es k2 p2] X.env:=by rfl):SX X c (.Call (.Name x p') [a,.Tuple es k2 p2] [] pos) (.inst ts pa):=by
 subst hx;obtain⟨ta,h1,h2⟩:=ha.cX;refine⟨dz (dO (Gi ts) hg hm jM (aZ h1 (aZ (uN ht) cW) hs) (he:=hs)) ?_,fun i h=>by cases h⟩;rintro σ H Q⟨F,ρ,r,ρ',g,e,k⟩;rw[HH.ev]at e;obtain⟨dt,ρ1,e1,e⟩:=ao e;cases e;refine h2 g e1 fun v F' H' s pv=>⟨by rw[List.length_map];exact hz,fun q hq=>?_⟩;have fq:F' q=none:=by cases z:F' q with|none=>rfl|some o=>rw[s.gs.sub q o z]at hq;cases hq
 have sm:aF H' (upd H' q (.tup (ts.map fun t=>V.ty (vC t)))):=aF.cP hq;have ext:Ext F' H' F' (upd H' q (.tup (ts.map fun t=>V.ty (vC t)))):=⟨sm,.refl _,s.gs.sub.trans sm,fun _ x y=>absurd x y⟩;refine⟨v,F',dt,q,rfl,aW,s.gs.sub.trans sm,pv.mono (.refl _) (fun a xs _ z=>sm a _ z),k _ F' _ (s.trans (ext.stp s.gs)) (show Rep X.K F' _ _ from gG _)⟩
inductive rBn(K:PySem.W.Frag)(f:List D->Option R)(xs:List V)(H:Hp)(Q:VK):Prop where|mk(F:Hp)(ds:List D)(r:R)(sm:aF F H)(rs:aD K F xs ds)(he:f ds=some r)(k:∀v F' H',Ext F H F' H'->cM K F' H' H v r->Q v H')
theorem Sy{E:Expr}{f:List D->Option R}{q:P}(hp:∀{t},PA X es t->PE X E (U4 (rBn X.K f) t))(ha:SA X c es ps)(hq:∀ρ,HH.ev c q ρ=(evs c ps ρ).bind fun ds ρ=>lift (f ds) ρ)(hv:isVar q=none):SX X c E q:=by refine⟨dz (hp ha.1) ?_,fun i h=>by rw[hv]at h;cases h⟩;rintro σ H Q⟨F,ρ,r,ρ',g,e,k⟩;rw[hq]at e;obtain⟨ds,ρ1,e1,e2⟩:=ao e;have zz:=aM e2;clear e2;obtain⟨e2,e3⟩:=zz;subst e3;exact⟨F,ρ,ds,ρ1,g,e1,fun vs F' H' s rs=>⟨F',ds,r,s.gs.sub,rs,e2,fun w F2 H2 x rn=>k w F2 H2 (s.trans (x.stp s.gs)) (.later s (rn.sO s.gs))⟩⟩
theorem Rq{K:PySem.W.Frag}{F:Hp}{xs:List V}{i j:Int}(h:aD K F xs [.int i,.int j]):xs=[.int i,.int j]:=by obtain⟨v,r,rfl,h1,h2⟩:=h.cg;obtain⟨u,r2,rfl,h3,h4⟩:=h2.cg;rw[Rep]at h1 h3;rw[h1,h3,h4.fB]
theorem inv2{f:Ve}{g:Int->Int->Int}{ds:List D}{r:R}(h0:blt f []=none)(h1:∀a,blt f [a]=none)(h3:∀a b c l,blt f (a::b::c::l)=none)(hn:∀a b,dC a=false->blt f [a,b]=none)(hm:∀i b,dC b=false->blt f [.int i,b]=none)(hi:∀i j,blt f [.int i,.int j]=some (.val (.int (g i j))))(he:blt f ds=some r):∃i j,ds=[.int i,.int j]/\r=.val (.int (g i j)):=by
 rcases ds with _|⟨a,_|⟨b,_|⟨c,l⟩⟩⟩;.rw[h0]at he;cases he
 .rw[h1]at he;cases he
 . by_cases ha:dC a=true
   . obtain⟨i,rfl⟩:∃i,a=.int i:=by cases a<;>first|exact⟨_,rfl⟩|cases ha
     by_cases hb:dC b=true
     . obtain⟨j,rfl⟩:∃j,b=.int j:=by cases b<;>first|exact⟨_,rfl⟩|cases hb
       rw[hi]at he;cases he;exact⟨i,j,rfl,rfl⟩
     .rw[hm i b (by simpa using hb)]at he;cases he
   .rw[hn a b (by simpa using ha)]at he;cases he
 .rw[h3]at he;cases he
theorem Km(hc:X.calm=true):eZ X (.builtin "min") (rBn X.K (blt .min2)):=by rintro pins s σ H xs us Q I r⟨F,ds,r',sm,rs,he,k⟩;obtain⟨i,j,rfl,rfl⟩:=inv2 (g:=fun i j=>if j<i then j else i) rfl (fun a=>by cases a<;>rfl) (fun a b c l=>by cases a<;>first|rfl|(cases b<;>rfl)) (fun a b h=>by cases a<;>first|rfl|cases h) (fun i b h=>by cases b<;>first|rfl|cases h) (fun _ _=>rfl) he;rw[Rq rs]at r;exact xX hc pins s σ H _ us Q I r ⟨_,_,rfl,cM.eG sm (dD _) k⟩
theorem boot_min:bootBuiltins "min"=some (.builtin "min"):=by decide+kernel
theorem wV{x:Str}{p':Pos}(hx:x="min")(hc:X.calm=true)(hg:Gl X x)(hm:X.mg x=none)(ha:SA X c [a,b] [pa,pb])(hs:starEach [a,b] X.env=(false,eval a X.env)::starEach [b] X.env:=by rfl)(hpl:(backTo pos (starEach [b] X.env)).any (·.1)=false:=by rfl):SX X c (.Call (.Name x p') [a,b] [] pos) (.blt .min2 [pa,pb]):=by subst hx;exact Sy (fun h=>dO (Km hc) hg hm boot_min h (he:=hs) (hpl:=hpl)) ha (fun ρ=>by rw[HH.ev];intro a h;cases h) rfl
end
end HH
end
section
namespace HH
open PySem L2 PySem.Spec PyProof.Rows
section
variable{X:Cx}{c:Call}{n:Nat}{e a b d:Expr}{p pa pb pd:P}{pos:Pos}{es:List Expr}{ps:List P}
theorem wH{K:PySem.W.Frag}{F H:Hp}{ρ:List Sl}{σ:L2.St}{i:Nat}{ds:List D}(g:GS K F ρ σ H)(h:Al ρ i=some ds):∃a xs,σ[i]?=some (some (V.ref a))/\dI K H a xs:=by
 unfold Al at h;split at h;.rename_i q;cases h;obtain⟨v,h1,h2⟩:=g.pk q;obtain⟨a,xs,rfl,h3,_⟩:=h2.lst g.sub;exact⟨a,xs,h1,h3⟩
 .cases h
theorem wG{x:Str}{k:Nat}{px tpos:Pos}(hN:X.N[k]?=some x)(hv:Ak X.env.scope x)(hi:SX X c b pb)(he:SX X c e p)(ha:∀ v,assign (.Subscript (.Name x px) b tpos) X.env v=(do
  let ov<-holding [v] (eval (.Name x px) X.env)let iv<-holding [v,ov] (eval b X.env)standAt tpos
  holding [v,ov,iv] (setItem ov iv v)release [v,ov,iv] []):=by intro _;rfl)(hs:swapsWithSole [.Subscript (.Name x px) b tpos] e pos.line X.env=pure false:=by rfl)(hw:swappedStores [.Subscript (.Name x px) b tpos] e X.env=pure none:=by rfl)(h1:(assignEach [.Subscript (.Name x px) b tpos] X.env).map (·.2)=[assign (.Subscript (.Name x px) b tpos) X.env]:=by rfl)(hd:(x==("__debug__":Str))=false:=by decide)(hcd:(x==("__classdict__":Str))=false:=by decide):SS X c n (.Assign [.Subscript (.Name x px) b tpos] e pos) (.Hw k pb p):=by
 obtain⟨ti,hi1,hi2⟩:=hi.cX;refine dR (BX he.ev (Ka (jh hN hv hd hcd) hi1 set_list ha) hs hw h1) ?_;rintro D σ H⟨F,ρ,fl,ρ',g,e,kk⟩;rw[ex]at e;obtain⟨r,ρ1,e1,e⟩:=ao e;obtain⟨x0,ρ1',e0,e⟩:=ao e;have zz:=aM e0;clear e0;obtain⟨e0,zm⟩:=zz;subst zm;obtain⟨dk,ρ2,e2,e⟩:=ao e;refine⟨F,ρ,r,ρ1,g,e1,fun v F1 H1 s1 rr=>?_⟩;obtain⟨F2,s2,_,rp⟩:=s1.fc rr;obtain⟨o,ho,_⟩:=s2.gs.pk e0;refine⟨o,ho,hi2 s2.gs e2 fun vi F3 H3 s3 pi=>?_⟩;split at e
 . rename_i bb ds kk' q;split at e;.rename_i j hj;cases e;obtain⟨ad,xs,q1,q2,q3,q4⟩:=s3.gs.je k _ ds q rfl;rw[ho]at q1;cases q1;refine⟨ad,xs,kk',j,rfl,pi.int,q2,by rw[q4.length];exact hj,?_⟩;exact kk F3 σ _ ((s2.trans s3).trans (s3.gs.mut q ho (q4.set (rp.mono s3.bV) j)))
   .cases e
 .cases e
theorem bz{x:Str}{k:Nat}{px apos cpos:Pos}(hN:X.N[k]?=some x)(hv:Ak X.env.scope x)(he:SX X c e p)(hline:(apos.endLine==cpos.line)=true:=by rfl)(hs:starEach [e] X.env=(false,eval e X.env)::starEach [] X.env:=by rfl)(hbase:attributeBase (.Name x px) "append" X.env (eval (.Name x px) X.env)=eval (.Name x px) X.env:=by rfl)(hfew:((backTo cpos (starEach [e] X.env)).all (fun x=>!x.1)&&(backToKw cpos (keywordEach [] X.env)).all (fun x=>x.1.isSome)&&decide ([e].length+([]:List Keyword).length+(if([]:List Keyword).isEmpty then 0 else 1)<30))=true:=by rfl)(hsw:swapsWith (.Call (.Attribute (.Name x px) "append" apos) [e] [] cpos) none pos.line X.env=pure false:=by rfl)(hd:(x==("__debug__":Str))=false:=by decide)(hcd:(x==("__classdict__":Str))=false:=by decide):SS X c n (.Expr (.Call (.Attribute (.Name x px) "append" apos) [e] [] cpos) pos) (.app k p):=by
 refine dR (v9 (HW PySem.F.plainAttrs_list PySem.F.slot_list_append PySem.F.type_list_append pN (jh hN hv hd hcd) (aZ he.ev cW hs) hbase hfew hline hs) hsw) ?_;rintro D σ H⟨F,ρ,fl,ρ',g,e,kk⟩;rw[ex]at e;obtain⟨d0,ρ0,e0,e⟩:=ao e;have zz:=aM e0;clear e0;obtain⟨e0,zm⟩:=zz;subst zm;obtain⟨r,ρ1,e1,e⟩:=ao e;obtain⟨a,xs,h1,h2⟩:=wH g e0;refine⟨.ref a,h1,.inl ⟨rfl,xs,h2⟩,F,ρ,r,ρ1,g,e1,fun v F1 H1 s1 rr=>?_⟩;obtain⟨F2,s2,_,rp⟩:=s1.fc rr;split at e
 . rename_i bb ds q;split at e;.rename_i hlt;cases e;obtain⟨ad,ys,q1,q2,q3,q4⟩:=s2.gs.je k _ ds q rfl;rw[h1]at q1;cases q1;exact⟨_,ys,v,rfl,rfl,q2,by rw[q4.length];exact hlt,kk F2 σ _ (s2.trans (s2.gs.mut q h1 (q4.append (.cons rp .nil))))⟩
   .cases e
 .cases e
theorem K6{i j:Nat}{x y:Str}{px py pt:Pos}{kt k2 Np}(hc:X.calm=true)(hN:X.N.Nodup)(hi:X.N[i]?=some x)(hj:X.N[j]?=some y)(hij:i≠j)(hx:X.env.scope.names.lookup x=some .local)(hy:X.env.scope.names.lookup y=some .local)(ha:SX X c a pa)(hb:SX X c b pb)(hw:swappedStores [.Tuple [.Name x px,.Name y py] kt pt] (.Tuple [a,b] k2 Np) X.env=pure (some [x,y]):=by rfl)(hs:swapsWithSole [.Tuple [.Name x px,.Name y py] kt pt] (.Tuple [a,b] k2 Np) pos.line X.env=pure false:=by rfl)(h1:starEach [a,b] X.env=(false,eval a X.env)::starEach [b] X.env:=by rfl)(h2:starEach [b] X.env=(false,eval b X.env)::starEach [] X.env:=by rfl):SS X c n (.Assign [.Tuple [.Name x px,.Name y py] kt pt] (.Tuple [a,b] k2 Np) pos) (.par i j pa pb):=by refine dR (L2.La hc hN hi hj hij hx hy (aZ ha.ev (aZ hb.ev cW h2) h1) hw hs) ?_;rintro D σ H⟨F,ρ,fl,ρ',g,e,k⟩;rw[ex]at e;obtain⟨r,ρ1,e1,e⟩:=ao e;obtain⟨r2,ρ2,e2,e⟩:=ao e;obtain⟨ρ3,ρ4,e3,e⟩:=ao e;cases e;have zz:=aM e3;clear e3;obtain⟨e3,e4⟩:=zz;obtain⟨ρ5,e5,e6⟩:=gC e3;refine⟨F,ρ,r,ρ1,g,e1,fun v F1 H1 s1 rr=>?_⟩;obtain⟨F2,s2,_,rp⟩:=s1.fc rr;refine⟨F2,ρ1,r2,ρ2,s2.gs,e2,fun u F3 H3 s3 rr3=>?_⟩;obtain⟨F4,s4,_,rp4⟩:=s3.fc rr3;refine⟨v,u,rfl,?_⟩;have t4:=s2.trans s4;have t5:=t4.put (r:=.val r.d) (v:=v) (rp.mono s4.bV) e5;exact k F4 _ H3 (t5.put (r:=.val r2.d) (v:=u) rp4 e6)
theorem Bp{ds:List D}{bs:List Bool}(h:ds.mapM tM=some bs):ds=bs.map D.bl:=by induction ds generalizing bs with|nil=>simp at h;subst h;rfl|cons d ds ih=>rw[List.mapM_cons]at h;cases hd:tM d with|none=>rw[hd]at h;cases h|some k=>rw[hd]at h;cases hr:ds.mapM tM with|none=>rw[hr]at h;cases h|some r=>rw[hr]at h;cases h;rw[List.map_cons,<-ih hr,mV hd]
theorem wU{K:PySem.W.Frag}{F:Hp}:∀{bs:List Bool}{xs:List V},aD K F xs (bs.map D.bl)->xs=bs.map V.bl|[],_,h=>h.fB|k::bs,_,h=>by obtain⟨v,r,rfl,h1,h2⟩:=h.cg;rw[Rep]at h1;rw[h1,wU h2];rfl
theorem xM:∀{bs:List Bool}{us:List Value},Vals (bs.map V.bl) us->us=bs.map Value.bool|[],_,h=>h.zero|k::bs,_,.cons r t=>by rw[List.map_cons,<-xM t,show _=_ from r]
theorem Gu{id:String}{f:List Bool->Bool}(hc:X.calm=true)(rule:∀{x:Value}{Q:Value->Shared->Prop}{s:Shared},wpAny (model X.prog X.w) X.A.in1 (pyIter x) (fun it s₂=>∃ I fp wr n P St tr,it=.ref I/\Walks X.prog X.w X.A.in1 I fp wr n P St/\St 0 s₂.heap/\TruthOf X.prog X.w X.A.in1 P tr/\∀h' tk,(∀b o,b∉wr->s₂.heap.get? b=some o->h'.get? b=some o)->Q (.bool (f ((List.range n).map tr))) {s₂ with heap:=h',toks:=tk}) X.xe s->wpAny (model X.prog X.w) X.A (call (.builtin id) [x]) Q X.xe s):eZ X (.builtin id) (fun xs H Q=>∃p ys bs,xs=[.ref p]/\dI X.K H p ys/\ys=bs.map V.bl/\Q (.bl (f bs)) H):=by
 rintro pins s σ H xs us Q I r⟨p,ys,bs,hx,hq,hy,k⟩;subst hx;subst hy;obtain⟨u,rfl,rx⟩:=r.one;cases rx;obtain⟨its,rv,pl,hz⟩:=I.list hq;have hits:=xM rv;subst hits;refine rule (wpAny_pyIter_list pl.isList ?_);have hne:p≠s.heap.objs.size:=by obtain⟨o,h1,_⟩:=pl.isList;exact Nat.ne_of_lt (Heap.lt_size h1)
 refine⟨s.heap.objs.size,_,_,_,_,_,fun i=>bs.getD i false,rfl,Walks.list (prog:=X.prog) (w:=X.w) (A:=X.A.in1) (show X.A.in1.handled=none from I.ok.hd hc) s.heap.objs.size p hne (bs.map Value.bool).toArray,⟨⟨_,Heap.get?_push_size _ rfl,rfl,rfl⟩,?_⟩,?_,fun h' tk kp=>?_⟩;.obtain⟨o,h1,h2⟩:=pl.isList;exact⟨o,Heap.get?_push_of_some _ h1,h2⟩
 . intro i v s' Q' E' hP hQ;have hv:v=.bool (bs.getD i false):=by
    have hP:(bs.map Value.bool)[i]?=some v:=by simpa using hP
    rw[List.getElem?_map]at hP;obtain⟨k',e1,e2⟩:=map_some hP;rw[<-e2,List.getD_eq_getElem?_getD,e1];rfl
   subst hv;exact wpAny_truthy_bool hQ
 . have e:f ((List.range (bs.map Value.bool).toArray.size).map fun i=>bs.getD i false)=f bs:=by
    congr 1;apply List.ext_getElem;.simp
    .intro i h1 h2;simp at h1;simp[h1]
   rw[e];exact⟨.bl _,H,I.kept (fun b o z=>kp b o (by simp;exact Nat.ne_of_lt (Heap.lt_size z)) (Heap.get?_push_of_some _ z)),rfl,k⟩
theorem Ti(hc:X.calm=true):eZ X (.builtin "all") (QK X.K fun x=>blt .all [x]):=by rintro pins s σ H xs us Q I r⟨x,hx,F,d,r',sm,px,he,k⟩;obtain⟨bs,e1,he⟩:=map_some (show((lu d).bind fun ds=>ds.mapM tM).map _=some r' from he);subst he;obtain⟨ds,e2,e3⟩:=gC e1;have e4:=Bp e3;cases d with|lst es=>cases e2;obtain⟨p,ys,rfl,hq,rs⟩:=px.lst sm;rw[e4]at rs;refine Gu (f:=fun bs=>bs.all id) hc (fun h=>call_all_walk (wpAny_mono h (fun it s₂⟨I,fp,wr,n,P,Sx,tr,h1,h2,h3,h4,h5⟩=>⟨I,fp,wr,n,P,Sx,tr,h1,h2,h3,h4,fun h' tk kp=>?_⟩) fun _ _ z=>z)) pins s σ H xs us Q I r ⟨p,ys,bs,hx,hq,wU rs,cM.eG sm (gG _) k⟩;have z:=h5 h' tk kp;rw[List.all_map]at z;exact z|_=>cases e2
theorem boot_all:bootBuiltins "all"=some (.builtin "all"):=by decide+kernel
theorem J7{x:Str}{p':Pos}(hx:x="all")(hc:X.calm=true)(hg:Gl X x)(hm:X.mg x=none)(ha:SX X c a pa)(hs:starEach [a] X.env=(false,eval a X.env)::starEach [] X.env:=by rfl):SX X c (.Call (.Name x p') [a] [] pos) (.blt .all [pa]):=by subst hx;exact xn (fun h=>dO (Ti hc) hg hm boot_all h (he:=hs)) ha (fun ρ=>by rw[HH.ev]) rfl hs
end
end HH
end
section
namespace HH
open PySem L2 PySem.Spec PyProof.Rows
section
variable{K:PySem.W.Frag}
theorem gZ:∀{xs ys:List D},xs.length≠ys.length->fj xs ys=false|[],[],h=>absurd rfl h|[],_::_,_=>by simp[fj]|_::_,[],_=>by simp[fj]|x::xs,y::ys,h=>by rw[fj,gZ (xs:=xs) (ys:=ys) (by simpa using h),Bool.and_false]
theorem eX:∀{xs ys:List D},xs.length=ys.length->fj xs ys=(List.range xs.length).all fun j=>bw (xs.getD j .non) (ys.getD j .non)|[],[],_=>by rw[fj];rfl|[],_::_,h=>by simp at h|_::_,[],h=>by simp at h|x::xs,y::ys,h=>by rw[fj,eX (xs:=xs) (ys:=ys) (by simpa using h),List.length_cons,List.range_succ_eq_map,List.all_cons,List.all_map];rfl
mutual
theorem sr:∀d:D,bw d d=true|.non=>by rw[bw]|.bl _=>by rw[bw];simp|.int _=>by rw[bw];simp|.str _=>by rw[bw];simp|.tup ds=>by rw[bw];exact iJ ds|.lst ds=>by rw[bw];exact iJ ds|.cZ _=>by rw[bw];simp|.dv ks ds=>by show(decide (ks=ks)&&fj ds ds)=true;rw[iJ ds];simp
theorem iJ:∀ds:List D,fj ds ds=true|[]=>by rw[fj]|d::ds=>by rw[fj,sr d,iJ ds];rfl
end
theorem dM{F:Hp}{d e:D}{v:V}(hf:flat d=true)(h1:Rep K F v d)(h2:Rep K F v e):d=e:=by cases d with
 |tup _=>cases hf|lst _=>cases hf|cZ _=>cases hf|dv _ _=>cases hf|non=>rw[Rep]at h1;subst h1;cases e with|non=>rfl|tup _=>rw[Rep]at h2;obtain⟨_,_,q,_⟩:=h2;cases q|lst _=>rw[Rep]at h2;obtain⟨_,_,q,_⟩:=h2;cases q|cZ _=>rw[Rep]at h2;obtain⟨_,_,q,_⟩:=h2;cases q|dv _ _=>rw[Rep]at h2;obtain⟨_,_,_,q,_⟩:=h2;cases q|_=>rw[Rep]at h2;cases h2
 |bl k=>rw[Rep]at h1;subst h1;cases e with|bl _=>rw[Rep]at h2;cases h2;rfl|tup _=>rw[Rep]at h2;obtain⟨_,_,q,_⟩:=h2;cases q|lst _=>rw[Rep]at h2;obtain⟨_,_,q,_⟩:=h2;cases q|cZ _=>rw[Rep]at h2;obtain⟨_,_,q,_⟩:=h2;cases q|dv _ _=>rw[Rep]at h2;obtain⟨_,_,_,q,_⟩:=h2;cases q|_=>rw[Rep]at h2;cases h2
 |int k=>rw[Rep]at h1;subst h1;cases e with|int _=>rw[Rep]at h2;cases h2;rfl|tup _=>rw[Rep]at h2;obtain⟨_,_,q,_⟩:=h2;cases q|lst _=>rw[Rep]at h2;obtain⟨_,_,q,_⟩:=h2;cases q|cZ _=>rw[Rep]at h2;obtain⟨_,_,q,_⟩:=h2;cases q|dv _ _=>rw[Rep]at h2;obtain⟨_,_,_,q,_⟩:=h2;cases q|_=>rw[Rep]at h2;cases h2
 |str k=>rw[Rep]at h1;subst h1;cases e with|str _=>rw[Rep]at h2;cases h2;rfl|tup _=>rw[Rep]at h2;obtain⟨_,_,q,_⟩:=h2;cases q|lst _=>rw[Rep]at h2;obtain⟨_,_,q,_⟩:=h2;cases q|cZ _=>rw[Rep]at h2;obtain⟨_,_,q,_⟩:=h2;cases q|dv _ _=>rw[Rep]at h2;obtain⟨_,_,_,q,_⟩:=h2;cases q|_=>rw[Rep]at h2;cases h2
theorem Eh{X:Cx}{pins:List (Addr×Obj)}{σ:L2.St}{H F:Hp}{s:Shared}(I:L2.Inv X pins σ H s)(sm:aF F H):∀n:Nat,(∀d:D,cH n d=true->∀(v:V)(e:D),Rep X.K F v d->Rep X.K F v e->d=e):=by
 have tl:∀{a:Addr}{xs ys:List V},gw X.K F a xs->dI X.K F a ys->False:=fun{a xs ys}h1 h2=>by obtain⟨_,_,⟨o,q1,q2,_⟩,_⟩:=I.tuple (aF.fU sm h1);obtain⟨_,_,pl,_⟩:=I.list (sm.seq h2);obtain⟨o',q3,q4,_⟩:=pl.isList;rw[q1]at q3;cases q3;rw[q2]at q4;exact absurd q4 (by decide)
 have dd:∀{a:Addr}{kvs:Dc},Rep X.K F (.ref a) (.cZ kvs)->∃o,s.heap.get? a=some o/\o.cls=.type "dict":=fun{a kvs}h=>by rw[Rep]at h;obtain⟨a',_,q,hq⟩:=h;cases q;exact BP I (sm _ _ hq)
 have td:∀{a:Addr}{xs:List V}{kvs:Dc},gw X.K F a xs->Rep X.K F (.ref a) (.cZ kvs)->False:=fun{a xs kvs}h1 h2=>by obtain⟨_,_,⟨o,q1,q2,_⟩,_⟩:=I.tuple (aF.fU sm h1);obtain⟨o',q3,q4⟩:=dd h2;rw[q1]at q3;cases q3;rw[q2]at q4;exact absurd q4 (by decide)
 have ld:∀{a:Addr}{xs:List V}{kvs:Dc},dI X.K F a xs->Rep X.K F (.ref a) (.cZ kvs)->False:=fun{a xs kvs}h1 h2=>by obtain⟨_,_,pl,_⟩:=I.list (sm.seq h1);obtain⟨o,q1,q2,_⟩:=pl.isList;obtain⟨o',q3,q4⟩:=dd h2;rw[q1]at q3;cases q3;rw[q2]at q4;exact absurd q4 (by decide)
 have dd2:∀{a:Addr}{ks:List Int}{es:List D},Rep X.K F (.ref a) (.dv ks es)->∃o,s.heap.get? a=some o/\o.cls=.type "dict":=fun{a ks es}h=>by rw[Rep]at h;obtain⟨a',_,_,q,hq,_⟩:=h;cases q;exact Ba I (sm _ _ hq)
 have td2:∀{a:Addr}{xs:List V}{ks:List Int}{es:List D},gw X.K F a xs->Rep X.K F (.ref a) (.dv ks es)->False:=fun{a xs ks es}h1 h2=>by obtain⟨_,_,⟨o,q1,q2,_⟩,_⟩:=I.tuple (aF.fU sm h1);obtain⟨o',q3,q4⟩:=dd2 h2;rw[q1]at q3;cases q3;rw[q2]at q4;exact absurd q4 (by decide)
 have ld2:∀{a:Addr}{xs:List V}{ks:List Int}{es:List D},dI X.K F a xs->Rep X.K F (.ref a) (.dv ks es)->False:=fun{a xs ks es}h1 h2=>by obtain⟨_,_,pl,_⟩:=I.list (sm.seq h1);obtain⟨o,q1,q2,_⟩:=pl.isList;obtain⟨o',q3,q4⟩:=dd2 h2;rw[q1]at q3;cases q3;rw[q2]at q4;exact absurd q4 (by decide)
 intro n;induction n with
 |zero=>intro d hd v e h1 h2;cases d with|tup _=>simp[cH]at hd|lst _=>simp[cH]at hd|cZ _=>simp[cH]at hd|dv _ _=>simp[cH]at hd|non=>exact dM rfl h1 h2|bl k=>exact dM rfl h1 h2|int k=>exact dM rfl h1 h2|str k=>exact dM rfl h1 h2
 |succ n ih=>
   have all:∀{xs:List V}{ds es:List D},ds.all (cH n)=true->aD X.K F xs ds->aD X.K F xs es->ds=es:=fun{xs ds}=>by induction ds generalizing xs with|nil=>intro es _ h1 h2;rw[h1.fB]at h2;have:=h2.length;exact(List.eq_nil_of_length_eq_zero this.symm).symm|cons d ds ih2=>intro es ha h1 h2;rw[List.all_cons,Bool.and_eq_true]at ha;obtain⟨v,r,rfl,q1,q2⟩:=h1.cg;cases es with|nil=>cases h2.fB|cons e es=>obtain⟨v',r',q0,q3,q4⟩:=h2.cg;cases q0;rw[ih d ha.1 v e q1 q3,ih2 ha.2 q2 q4]
   intro d hd v e h1 h2;cases d with
   |cZ _=>simp[cH]at hd|dv _ _=>simp[cH]at hd|tup ds=>
     have ha:ds.all (cH n)=true:=by simpa[cH]using hd
     rw[Rep]at h1;obtain⟨a,xs,rfl,z1,z2⟩:=h1;cases e with|tup es=>rw[Rep]at h2;obtain⟨a',ys,q,w1,w2⟩:=h2;cases q;have:=I.iM (aF.fU sm z1) (aF.fU sm w1);subst this;rw[all ha z2 w2]|lst es=>rw[Rep]at h2;obtain⟨a',ys,q,w1,w2⟩:=h2;cases q;exact(tl z1 w1).elim|cZ _=>exact(td z1 h2).elim|dv _ _=>exact(td2 z1 h2).elim|_=>rw[Rep]at h2;cases h2
   |lst ds=>
     have ha:ds.all (cH n)=true:=by simpa[cH]using hd
     rw[Rep]at h1;obtain⟨a,xs,rfl,z1,z2⟩:=h1;cases e with|lst es=>rw[Rep]at h2;obtain⟨a',ys,q,w1,w2⟩:=h2;cases q;have:=I.jE (sm.seq z1) (sm.seq w1);subst this;rw[all ha z2 w2]|tup es=>rw[Rep]at h2;obtain⟨a',ys,q,w1,w2⟩:=h2;cases q;exact(tl w1 z1).elim|cZ _=>exact(ld z1 h2).elim|dv _ _=>exact(ld2 z1 h2).elim|_=>rw[Rep]at h2;cases h2
   |non=>exact dM rfl h1 h2|bl k=>exact dM rfl h1 h2|int k=>exact dM rfl h1 h2|str k=>exact dM rfl h1 h2
theorem wZ{A:Around}{s:Shared}{F:Hp}{d e:D}{v u:V}{v' u':Value}(hd:flat d=true)(he:flat e=true)(h1:Rep K F v d)(h2:Rep K F u e)(r1:RelV v v')(r2:RelV u u'):SeqAt.EqAt A s v' u' (bw d e):=by cases d with
 |tup _=>cases hd|lst _=>cases hd|cZ _=>cases hd|dv _ _=>cases hd|non=>rw[Rep]at h1;subst h1;cases(show v'=.none from r1);cases e with|tup _=>cases he|lst _=>cases he|cZ _=>cases he|dv _ _=>cases he|non=>rw[Rep]at h2;subst h2;cases(show u'=.none from r2);rw[bw];exact SeqAt.EqAt.same _|bl _=>rw[Rep]at h2;subst h2;cases(show u'=.bool _ from r2);simp only[bw];exact SeqAt.EqAt.none_bool _|int _=>rw[Rep]at h2;subst h2;obtain⟨t,rfl⟩:=r2;simp only[bw];exact SeqAt.EqAt.none_int _ _|str _=>rw[Rep]at h2;subst h2;obtain⟨t,rfl⟩:=r2;simp only[bw];exact SeqAt.EqAt.none_str _ _
 |bl _=>rw[Rep]at h1;subst h1;cases(show v'=.bool _ from r1);cases e with|tup _=>cases he|lst _=>cases he|cZ _=>cases he|dv _ _=>cases he|non=>rw[Rep]at h2;subst h2;cases(show u'=.none from r2);simp only[bw];exact SeqAt.EqAt.bool_none _|bl _=>rw[Rep]at h2;subst h2;cases(show u'=.bool _ from r2);simp only[bw];exact SeqAt.EqAt.bool_bool _ _|int _=>rw[Rep]at h2;subst h2;obtain⟨t,rfl⟩:=r2;simp only[bw];exact SeqAt.EqAt.bool_int _ _ _|str _=>rw[Rep]at h2;subst h2;obtain⟨t,rfl⟩:=r2;simp only[bw];exact SeqAt.EqAt.bool_str _ _ _
 |int _=>rw[Rep]at h1;subst h1;obtain⟨t0,rfl⟩:=r1;cases e with|tup _=>cases he|lst _=>cases he|cZ _=>cases he|dv _ _=>cases he|non=>rw[Rep]at h2;subst h2;cases(show u'=.none from r2);simp only[bw];exact SeqAt.EqAt.int_none _ _|bl _=>rw[Rep]at h2;subst h2;cases(show u'=.bool _ from r2);simp only[bw];exact SeqAt.EqAt.int_bool _ _ _|int _=>rw[Rep]at h2;subst h2;obtain⟨t,rfl⟩:=r2;simp only[bw];exact SeqAt.EqAt.int_int _ _ _ _|str _=>rw[Rep]at h2;subst h2;obtain⟨t,rfl⟩:=r2;simp only[bw];exact SeqAt.EqAt.int_str _ _ _ _
 |str _=>rw[Rep]at h1;subst h1;obtain⟨t0,rfl⟩:=r1;cases e with|tup _=>cases he|lst _=>cases he|cZ _=>cases he|dv _ _=>cases he|non=>rw[Rep]at h2;subst h2;cases(show u'=.none from r2);simp only[bw];exact SeqAt.EqAt.str_none _ _|bl _=>rw[Rep]at h2;subst h2;cases(show u'=.bool _ from r2);simp only[bw];exact SeqAt.EqAt.str_bool _ _ _|int _=>rw[Rep]at h2;subst h2;obtain⟨t,rfl⟩:=r2;simp only[bw];exact SeqAt.EqAt.str_int _ _ _ _|str _=>rw[Rep]at h2;subst h2;obtain⟨t,rfl⟩:=r2;simp only[bw];exact SeqAt.EqAt.str_str _ _ _ _
theorem jX{A:Around}{s:Shared}{F:Hp}{ds:List D}{e:D}{u:V}{u':Value}{a:Addr}{its:Array Value}(ht:s.heap.IsTuple a its)(hu:A.units<cLine)(he:flat e=true)(h2:Rep K F u e)(r2:RelV u u'):SeqAt.EqAt A s (.ref a) u' (bw (.tup ds) e)/\SeqAt.EqAt A s u' (.ref a) (bw e (.tup ds)):=by cases e with|tup _=>cases he|lst _=>cases he|cZ _=>cases he|dv _ _=>cases he|non=>rw[Rep]at h2;subst h2;cases(show u'=.none from r2);simp only[bw];exact⟨SeqAt.EqAt.tuple_none ht hu,SeqAt.EqAt.none_tuple ht hu⟩|bl _=>rw[Rep]at h2;subst h2;cases(show u'=.bool _ from r2);simp only[bw];exact⟨SeqAt.EqAt.tuple_bool _ ht hu,SeqAt.EqAt.bool_tuple _ ht hu⟩|int _=>rw[Rep]at h2;subst h2;obtain⟨t,rfl⟩:=r2;simp only[bw];exact⟨SeqAt.EqAt.tuple_int _ _ ht hu,SeqAt.EqAt.int_tuple _ _ ht hu⟩|str _=>rw[Rep]at h2;subst h2;obtain⟨t,rfl⟩:=r2;simp only[bw];exact⟨SeqAt.EqAt.tuple_str _ _ ht hu,SeqAt.EqAt.str_tuple _ _ ht hu⟩
theorem jD{A:Around}{s:Shared}{F:Hp}{ds:List D}{e:D}{u:V}{u':Value}{a:Addr}{its:Array Value}(ht:s.heap.IsList a its)(hu:A.units<cLine)(he:flat e=true)(h2:Rep K F u e)(r2:RelV u u'):SeqAt.EqAt A s (.ref a) u' (bw (.lst ds) e)/\SeqAt.EqAt A s u' (.ref a) (bw e (.lst ds)):=by cases e with|tup _=>cases he|lst _=>cases he|cZ _=>cases he|dv _ _=>cases he|non=>rw[Rep]at h2;subst h2;cases(show u'=.none from r2);simp only[bw];exact⟨SeqAt.EqAt.list_none ht hu,SeqAt.EqAt.none_list ht hu⟩|bl _=>rw[Rep]at h2;subst h2;cases(show u'=.bool _ from r2);simp only[bw];exact⟨SeqAt.EqAt.list_bool _ ht hu,SeqAt.EqAt.bool_list _ ht hu⟩|int _=>rw[Rep]at h2;subst h2;obtain⟨t,rfl⟩:=r2;simp only[bw];exact⟨SeqAt.EqAt.list_int _ _ ht hu,SeqAt.EqAt.int_list _ _ ht hu⟩|str _=>rw[Rep]at h2;subst h2;obtain⟨t,rfl⟩:=r2;simp only[bw];exact⟨SeqAt.EqAt.list_str _ _ ht hu,SeqAt.EqAt.str_list _ _ ht hu⟩
theorem tH{n:Nat}{d:D}(h:cH n d=true)(h0:n=0):flat d=true:=by subst h0;cases d<;>first|rfl|simp[cH]at h
theorem WM{X:Cx}{pins:List (Addr×Obj)}{σ:L2.St}{H F:Hp}{s:Shared}(I:L2.Inv X pins σ H s)(sm:aF F H):∀(n:Nat)(A:Around),A.units+n<cLine->∀(d e:D),cH n d=true->cH n e=true->∀(v u:V)(v' u':Value),Rep X.K F v d->Rep X.K F u e->RelV v v'->RelV u u'->SeqAt.EqAt A s v' u' (bw d e):=by intro n;induction n with|zero=>intro A hu d e hd he v u v' u' h1 h2 r1 r2;exact wZ (tH hd rfl) (tH he rfl) h1 h2 r1 r2|succ n ih=>
   intro A hu d e hd he v u v' u' h1 h2 r1 r2;have hu0:A.units<cLine:=by omega
   have hu1:A.in1.units+n<cLine:=by show A.units+1+n<cLine;omega--items by place
   have at_:∀{xs ys:List V}{us ws:List Value}{ds es:List D}{j:Nat}(k1:j<us.toArray.size)(k2:j<ws.toArray.size),ds.all (cH n)=true->es.all (cH n)=true->Vals xs us->Vals ys ws->aD X.K F xs ds->aD X.K F ys es->SeqAt.EqAt A.in1 s us.toArray[j] ws.toArray[j] (bw (ds.getD j .non) (es.getD j .non)):=fun{xs ys us ws ds es j}k1 k2 a1 a2 v1 v2 p1 p2=>by
    have k1:j<us.length:=by simpa using k1
    have k2:j<ws.length:=by simpa using k2
    have l1:j<ds.length:=by rw[<-p1.length,v1.length];exact k1
    have l2:j<es.length:=by rw[<-p2.length,v2.length];exact k2
    obtain⟨x,g1,g2⟩:=p1.get (show ds[j]?=some ds[j]by simp[l1]);obtain⟨y,g3,g4⟩:=p2.get (show es[j]?=some es[j]by simp[l2]);obtain⟨x',g5,g6⟩:=v1.get g1;obtain⟨y',g7,g8⟩:=v2.get g3;have e1:us.toArray[j]=x':=by have:=(List.getElem?_eq_some_iff.mp g5).2;simpa using this
    have e2:ws.toArray[j]=y':=by have:=(List.getElem?_eq_some_iff.mp g7).2;simpa using this
    have e3:ds.getD j .non=ds[j]:=by simp[List.getD,l1]
    have e4:es.getD j .non=es[j]:=by simp[List.getD,l2]
    rw[e1,e2,e3,e4];exact ih A.in1 hu1 _ _ (List.all_eq_true.mp a1 _ (List.getElem_mem l1)) (List.all_eq_true.mp a2 _ (List.getElem_mem l2)) x y x' y' g2 g4 g6 g8--the same object
   have same:∀{a:Addr},v=.ref a->u=.ref a->SeqAt.EqAt A s v' u' (bw d e):=fun{a}q1 q2=>by subst q1;subst q2;have:=Eh I sm (n+1) d hd _ e h1 h2;subst this;rw[sr];cases r1;cases r2;exact SeqAt.EqAt.same _
   cases d with
   |cZ _=>simp[cH]at hd|dv _ _=>simp[cH]at hd|tup ds=>
     have ha:ds.all (cH n)=true:=by simpa[cH]using hd
     have h1':=h1;rw[Rep]at h1';obtain⟨a,xs,rfl,z1,z2⟩:=h1';cases r1;obtain⟨us,v1,p1,_⟩:=I.tuple (aF.fU sm z1)
     cases e with|cZ _=>simp[cH]at he|dv _ _=>simp[cH]at he|tup es=>
       have hb:es.all (cH n)=true:=by simpa[cH]using he
       have h2':=h2;rw[Rep]at h2';obtain⟨b,ys,rfl,w1,w2⟩:=h2';by_cases hab:a=b;.subst hab;exact same rfl rfl
       . cases r2;obtain⟨ws,v2,p2,_⟩:=I.tuple (aF.fU sm w1);refine .of_refs hab ?_;have z:=SeqAt.RcAt.tuples (A:=A) (e:=fun j=>bw (ds.getD j .non) (es.getD j .non)) p1 p2 hu0 fun j k1 k2=>at_ k1 k2 ha hb v1 v2 z2 w2;have l1:us.toArray.size=ds.length:=by rw[List.size_toArray,<-v1.length,z2.length]
         have l2:ws.toArray.size=es.length:=by rw[List.size_toArray,<-v2.length,w2.length]
         rw[l1,l2]at z;have e0:bw (.tup ds) (.tup es)=((List.range (min ds.length es.length)).all (fun j=>bw (ds.getD j .non) (es.getD j .non))&&ds.length==es.length):=by
          rw[bw];by_cases hl:ds.length=es.length;.rw[eX hl,hl];simp
          . rw[gZ hl];have:(ds.length==es.length)=false:=by simpa using hl
            rw[this,Bool.and_false]
         rw[e0];exact z|lst es=>rw[Rep]at h2;obtain⟨b,ys,rfl,w1,w2⟩:=h2;cases r2;obtain⟨ws,v2,p2,_⟩:=I.list (sm.seq w1);simp only[bw];exact SeqAt.EqAt.tuple_list p1 p2.isList hu0|non=>exact(jX p1 hu0 rfl h2 r2).1|bl _=>exact(jX p1 hu0 rfl h2 r2).1|int _=>exact(jX p1 hu0 rfl h2 r2).1|str _=>exact(jX p1 hu0 rfl h2 r2).1
   |lst ds=>
     have ha:ds.all (cH n)=true:=by simpa[cH]using hd
     have h1':=h1;rw[Rep]at h1'
     obtain⟨a,xs,rfl,z1,z2⟩:=h1';cases r1;obtain⟨us,v1,p1,_⟩:=I.list (sm.seq z1);cases e with|cZ _=>simp[cH]at he|dv _ _=>simp[cH]at he|lst es=>
       have hb:es.all (cH n)=true:=by simpa[cH]using he
       have h2':=h2;rw[Rep]at h2';obtain⟨b,ys,rfl,w1,w2⟩:=h2';by_cases hab:a=b;.subst hab;exact same rfl rfl
       . cases r2;obtain⟨ws,v2,p2,_⟩:=I.list (sm.seq w1);refine .of_refs hab ?_;have l1:us.toArray.size=ds.length:=by rw[List.size_toArray,<-v1.length,z2.length]
         have l2:ws.toArray.size=es.length:=by rw[List.size_toArray,<-v2.length,w2.length]
         rw[bw];by_cases hl:ds.length=es.length;.have z:=SeqAt.RcAt.lists (A:=A) (e:=fun j=>bw (ds.getD j .non) (es.getD j .non)) p1.isList p2.isList (by rw[l1,l2,hl]) hu0 fun j k1 k2=>at_ k1 k2 ha hb v1 v2 z2 w2;rw[l1]at z;rw[eX hl];exact z
         .rw[gZ hl];exact SeqAt.RcAt.lists_lengths p1.isList p2.isList (by rw[l1,l2];simpa using hl) hu0|tup es=>rw[Rep]at h2;obtain⟨b,ys,rfl,w1,w2⟩:=h2;cases r2;obtain⟨ws,v2,p2,_⟩:=I.tuple (aF.fU sm w1);simp only[bw];exact SeqAt.EqAt.list_tuple p1.isList p2 hu0|non=>exact(jD p1.isList hu0 rfl h2 r2).1|bl _=>exact(jD p1.isList hu0 rfl h2 r2).1|int _=>exact(jD p1.isList hu0 rfl h2 r2).1|str _=>exact(jD p1.isList hu0 rfl h2 r2).1
   |non|bl _|int _|str _=>cases e with|cZ _=>simp[cH]at he|dv _ _=>simp[cH]at he|tup es=>rw[Rep]at h2;obtain⟨b,ys,rfl,w1,w2⟩:=h2;cases r2;obtain⟨ws,v2,p2,_⟩:=I.tuple (aF.fU sm w1);exact(jX p2 hu0 rfl h1 r1).2|lst es=>rw[Rep]at h2;obtain⟨b,ys,rfl,w1,w2⟩:=h2;cases r2;obtain⟨ws,v2,p2,_⟩:=I.list (sm.seq w1);exact(jD p2.isList hu0 rfl h1 r1).2|_=>exact wZ rfl rfl h1 h2 r1 r2
end
end HH
end
section
namespace HH
open PySem L2 PySem.Spec PyProof.Rows
section
variable{X:Cx}{pins:List (Addr×Obj)}{σ:L2.St}{H F:Hp}{s:Shared}{A:Around}
noncomputable abbrev RC(A:Around)(s:Shared)(v u:Value)(k:Bool):Prop:=SeqAt.RcAt A s v u k/\SeqAt.RcNeAt A s v u (!k)
inductive Top(X:Cx)(F H:Hp)(s:Shared):Value->D->Prop where|non:Top X F H s .none .non|bl(b:Bool):Top X F H s (.bool b) (.bl b)|int(i:Int)(t:Tok):Top X F H s (.int i t) (.int i)|str(x:Str)(t:Tok):Top X F H s (.str x t) (.str x)|tup{a:Addr}{us:List Value}{xs:List V}{ds:List D}(ht:s.heap.IsTuple a us.toArray)(hv:Vals xs us)(hr:aD X.K F xs ds):Top X F H s (.ref a) (.tup ds)|lst{a:Addr}{us:List Value}{xs:List V}{ds:List D}(ht:s.heap.IsList a us.toArray)(hv:Vals xs us)(hr:aD X.K F xs ds):Top X F H s (.ref a) (.lst ds)
theorem pX(I:L2.Inv X pins σ H s)(sm:aF F H){v:V}{v':Value}{d:D}(hd:cH 8 d=true)(h:bT X.K F H v d)(r:RelV v v'):Top X F H s v' d:=by cases d with|cZ _=>simp[cH]at hd|dv _ _=>simp[cH]at hd|non=>rw[h.non]at r;cases r;exact .non|bl b=>rw[h.bl]at r;cases r;exact .bl b|int i=>rw[h.int]at r;obtain⟨t,rfl⟩:=r;exact .int i t|str x=>rw[h.str]at r;obtain⟨t,rfl⟩:=r;exact .str x t|tup ds=>obtain⟨a,xs,rfl,h1,h2,_⟩:=h.tup sm;cases r;obtain⟨us,v1,p1,_⟩:=I.tuple h1;exact .tup p1 v1 h2|lst ds=>obtain⟨a,xs,rfl,h1,h2⟩:=h.lst sm;cases r;obtain⟨us,v1,p1,_⟩:=I.list h1;exact .lst p1.isList v1 h2
theorem QX(I:L2.Inv X pins σ H s)(sm:aF F H){n:Nat}(hu:A.units+(n+1)<cLine){d e:D}(hd:cH (n+1) d=true)(he:cH (n+1) e=true){v' u':Value}(h1:Top X F H s v' d)(h2:Top X F H s u' e):RC A s v' u' (bw d e):=by
 have hu0:A.units<cLine:=by omega
 have hu1:A.in1.units+n<cLine:=by show A.units+1+n<cLine;omega
 have at_:∀{xs ys:List V}{us ws:List Value}{ds es:List D}{j:Nat}(k1:j<us.toArray.size)(k2:j<ws.toArray.size),ds.all (cH n)=true->es.all (cH n)=true->Vals xs us->Vals ys ws->aD X.K F xs ds->aD X.K F ys es->SeqAt.EqAt A.in1 s us.toArray[j] ws.toArray[j] (bw (ds.getD j .non) (es.getD j .non)):=fun{xs ys us ws ds es j}k1 k2 a1 a2 v1 v2 p1 p2=>by
  have k1:j<us.length:=by simpa using k1
  have k2:j<ws.length:=by simpa using k2
  have l1:j<ds.length:=by rw[<-p1.length,v1.length];exact k1
  have l2:j<es.length:=by rw[<-p2.length,v2.length];exact k2
  obtain⟨x,g1,g2⟩:=p1.get (show ds[j]?=some ds[j]by simp[l1]);obtain⟨y,g3,g4⟩:=p2.get (show es[j]?=some es[j]by simp[l2]);obtain⟨x',g5,g6⟩:=v1.get g1;obtain⟨y',g7,g8⟩:=v2.get g3;have e1:us.toArray[j]=x':=by have:=(List.getElem?_eq_some_iff.mp g5).2;simpa using this
  have e2:ws.toArray[j]=y':=by have:=(List.getElem?_eq_some_iff.mp g7).2;simpa using this
  have e3:ds.getD j .non=ds[j]:=by simp[List.getD,l1]
  have e4:es.getD j .non=es[j]:=by simp[List.getD,l2]
  rw[e1,e2,e3,e4];exact WM I sm n A.in1 hu1 _ _ (List.all_eq_true.mp a1 _ (List.getElem_mem l1)) (List.all_eq_true.mp a2 _ (List.getElem_mem l2)) x y x' y' g2 g4 g6 g8
 cases h1 with
 |non=>cases h2 with|non=>simp only[bw];exact⟨SeqAt.RcAt.none_none,SeqAt.RcNeAt.none_none⟩|bl b=>simp only[bw];exact⟨SeqAt.RcAt.none_bool _,SeqAt.RcNeAt.none_bool _⟩|int i t=>simp only[bw];exact⟨SeqAt.RcAt.none_int _ _,SeqAt.RcNeAt.none_int _ _⟩|str i t=>simp only[bw];exact⟨SeqAt.RcAt.none_str _ _,SeqAt.RcNeAt.none_str _ _⟩|tup ht _ _=>simp only[bw];exact⟨SeqAt.RcAt.none_tuple ht hu0,SeqAt.RcNeAt.none_tuple ht hu0⟩|lst ht _ _=>simp only[bw];exact⟨SeqAt.RcAt.none_list ht hu0,SeqAt.RcNeAt.none_list ht hu0⟩
 |bl b0=>cases h2 with|non=>simp only[bw];exact⟨SeqAt.RcAt.bool_none _,SeqAt.RcNeAt.bool_none _⟩|bl b=>simp only[bw];exact⟨SeqAt.RcAt.bool_bool _ _,SeqAt.RcNeAt.bool_bool _ _⟩|int i t=>simp only[bw];exact⟨SeqAt.RcAt.bool_int _ _ _,SeqAt.RcNeAt.bool_int _ _ _⟩|str i t=>simp only[bw];exact⟨SeqAt.RcAt.bool_str _ _ _,SeqAt.RcNeAt.bool_str _ _ _⟩|tup ht _ _=>simp only[bw];exact⟨SeqAt.RcAt.bool_tuple _ ht hu0,SeqAt.RcNeAt.bool_tuple _ ht hu0⟩|lst ht _ _=>simp only[bw];exact⟨SeqAt.RcAt.bool_list _ ht hu0,SeqAt.RcNeAt.bool_list _ ht hu0⟩
 |int i0 t0=>cases h2 with|non=>simp only[bw];exact⟨SeqAt.RcAt.int_none _ _,SeqAt.RcNeAt.int_none _ _⟩|bl b=>simp only[bw];exact⟨SeqAt.RcAt.int_bool _ _ _,SeqAt.RcNeAt.int_bool _ _ _⟩|int i t=>simp only[bw];exact⟨SeqAt.RcAt.int_int _ _ _ _,SeqAt.RcNeAt.int_int _ _ _ _⟩|str i t=>simp only[bw];exact⟨SeqAt.RcAt.int_str _ _ _ _,SeqAt.RcNeAt.int_str _ _ _ _⟩|tup ht _ _=>simp only[bw];exact⟨SeqAt.RcAt.int_tuple _ _ ht hu0,SeqAt.RcNeAt.int_tuple _ _ ht hu0⟩|lst ht _ _=>simp only[bw];exact⟨SeqAt.RcAt.int_list _ _ ht hu0,SeqAt.RcNeAt.int_list _ _ ht hu0⟩
 |str i0 t0=>cases h2 with|non=>simp only[bw];exact⟨SeqAt.RcAt.str_none _ _,SeqAt.RcNeAt.str_none _ _⟩|bl b=>simp only[bw];exact⟨SeqAt.RcAt.str_bool _ _ _,SeqAt.RcNeAt.str_bool _ _ _⟩|int i t=>simp only[bw];exact⟨SeqAt.RcAt.str_int _ _ _ _,SeqAt.RcNeAt.str_int _ _ _ _⟩|str i t=>simp only[bw];exact⟨SeqAt.RcAt.str_str _ _ _ _,SeqAt.RcNeAt.str_str _ _ _ _⟩|tup ht _ _=>simp only[bw];exact⟨SeqAt.RcAt.str_tuple _ _ ht hu0,SeqAt.RcNeAt.str_tuple _ _ ht hu0⟩|lst ht _ _=>simp only[bw];exact⟨SeqAt.RcAt.str_list _ _ ht hu0,SeqAt.RcNeAt.str_list _ _ ht hu0⟩
 |@tup a us xs ds ht hv hr=>
   have ha:ds.all (cH n)=true:=by simpa[cH]using hd
   cases h2 with|non=>simp only[bw];exact⟨SeqAt.RcAt.tuple_none ht hu0,SeqAt.RcNeAt.tuple_none ht hu0⟩|bl b=>simp only[bw];exact⟨SeqAt.RcAt.tuple_bool _ ht hu0,SeqAt.RcNeAt.tuple_bool _ ht hu0⟩|int i t=>simp only[bw];exact⟨SeqAt.RcAt.tuple_int _ _ ht hu0,SeqAt.RcNeAt.tuple_int _ _ ht hu0⟩|str i t=>simp only[bw];exact⟨SeqAt.RcAt.tuple_str _ _ ht hu0,SeqAt.RcNeAt.tuple_str _ _ ht hu0⟩|lst uA _ _=>simp only[bw];exact⟨SeqAt.RcAt.tuple_list ht uA hu0,SeqAt.RcNeAt.tuple_list ht uA hu0⟩|@tup b ws ys es uA hv2 hr2=>
     have hb:es.all (cH n)=true:=by simpa[cH]using he
     have l1:us.toArray.size=ds.length:=by rw[List.size_toArray,<-hv.length,hr.length]
     have l2:ws.toArray.size=es.length:=by rw[List.size_toArray,<-hv2.length,hr2.length]
     have z1:=SeqAt.RcAt.tuples (A:=A) (e:=fun j=>bw (ds.getD j .non) (es.getD j .non)) ht uA hu0 fun j k1 k2=>at_ k1 k2 ha hb hv hv2 hr hr2;have z2:=SeqAt.RcNeAt.tuples (A:=A) (e:=fun j=>bw (ds.getD j .non) (es.getD j .non)) ht uA hu0 fun j k1 k2=>at_ k1 k2 ha hb hv hv2 hr hr2;rw[l1,l2]at z1 z2;have e0:bw (.tup ds) (.tup es)=((List.range (min ds.length es.length)).all (fun j=>bw (ds.getD j .non) (es.getD j .non))&&ds.length==es.length):=by
      rw[bw];by_cases hl:ds.length=es.length;.rw[eX hl,hl];simp
      . rw[gZ hl];have:(ds.length==es.length)=false:=by simpa using hl
        rw[this,Bool.and_false]
     rw[e0];exact⟨z1,z2⟩
 |@lst a us xs ds ht hv hr=>
   have ha:ds.all (cH n)=true:=by simpa[cH]using hd
   cases h2 with|non=>simp only[bw];exact⟨SeqAt.RcAt.list_none ht hu0,SeqAt.RcNeAt.list_none ht hu0⟩|bl b=>simp only[bw];exact⟨SeqAt.RcAt.list_bool _ ht hu0,SeqAt.RcNeAt.list_bool _ ht hu0⟩|int i t=>simp only[bw];exact⟨SeqAt.RcAt.list_int _ _ ht hu0,SeqAt.RcNeAt.list_int _ _ ht hu0⟩|str i t=>simp only[bw];exact⟨SeqAt.RcAt.list_str _ _ ht hu0,SeqAt.RcNeAt.list_str _ _ ht hu0⟩|tup uA _ _=>simp only[bw];exact⟨SeqAt.RcAt.list_tuple ht uA hu0,SeqAt.RcNeAt.list_tuple ht uA hu0⟩|@lst b ws ys es uA hv2 hr2=>
     have hb:es.all (cH n)=true:=by simpa[cH]using he
     have l1:us.toArray.size=ds.length:=by rw[List.size_toArray,<-hv.length,hr.length]
     have l2:ws.toArray.size=es.length:=by rw[List.size_toArray,<-hv2.length,hr2.length]
     rw[show bw (.lst ds) (.lst es)=fj ds es by rw[bw]];by_cases hl:ds.length=es.length;.have z1:=SeqAt.RcAt.lists (A:=A) (e:=fun j=>bw (ds.getD j .non) (es.getD j .non)) ht uA (by rw[l1,l2,hl]) hu0 fun j k1 k2=>at_ k1 k2 ha hb hv hv2 hr hr2;have z2:=SeqAt.RcNeAt.lists (A:=A) (e:=fun j=>bw (ds.getD j .non) (es.getD j .non)) ht uA (by rw[l1,l2,hl]) hu0 fun j k1 k2=>at_ k1 k2 ha hb hv hv2 hr hr2;rw[l1]at z1 z2;rw[eX hl];exact⟨z1,z2⟩
     .rw[gZ hl];exact⟨SeqAt.RcAt.lists_lengths ht uA (by rw[l1,l2];simpa using hl) hu0,SeqAt.RcNeAt.lists_lengths ht uA (by rw[l1,l2];simpa using hl) hu0⟩
theorem cO(hu:X.A.units+8<cLine):fJ X (compareOp .Eq) (rD X.K (rH .eq)):=by rintro pins s σ H x y v u Q I rx ry⟨F,d,e,r,sm,px,py,he,k⟩;obtain⟨t,e1,e2⟩:=map_some (show(BR d e).map _=some r from he);subst e2;unfold BR at e1;obtain⟨hd,e1⟩:=bM e1;rw[Bool.and_eq_true]at hd;subst e1;exact(QX I sm (n:=7) hu hd.1 hd.2 (pX I sm hd.1 px rx) (pX I sm hd.2 py ry)).1 _ _ _ _ ⟨.bl _,H,I,rfl,cM.eG sm (gG _) k⟩
theorem qZ(hu:X.A.units+8<cLine):fJ X (compareOp .NotEq) (rD X.K (rH .ne)):=by rintro pins s σ H x y v u Q I rx ry⟨F,d,e,r,sm,px,py,he,k⟩;obtain⟨t,e1,e2⟩:=map_some (show(qK d e).map _=some r from he);subst e2;unfold qK at e1;obtain⟨hd,e1⟩:=bM e1;rw[Bool.and_eq_true]at hd;subst e1;exact(QX I sm (n:=7) hu hd.1 hd.2 (pX I sm hd.1 px rx) (pX I sm hd.2 py ry)).2 _ _ _ _ ⟨.bl _,H,I,rfl,cM.eG sm (gG _) k⟩
end
end HH
end
section
namespace HH
open PySem L2 PySem.Spec PyProof.Rows
section
variable{Pg:Program}{w:World}{K:PySem.W.Frag}{mg:Str->Option Value}{base:Heap}
theorem gD{x qual:Str}{st:Stmt}{f:Addr}{fd:FuncData}{N ps:List Str}{k n:Nat}{c:Call}{d:Fd}(Fu:nY K x qual st f fd)(S:bN N ps (aG st))(h1:d.np=ps.length)(h2:d.nn=N.length)(hb:∀(cdv:Value)(A:Around)(outer:List Env)(s:Shared)(H:Hp)(E:XK),gn k (A.deeper (envOfC qual (aG st) s.heap.objs.size f cdv))->SB (km oM Pg w K mg base N qual (aG st) f cdv A outer s H E).Qy c n (cR st) d.body):dw Pg w K mg base oM (k+1) f fd ps (oX K ps.length (fun args=>enter c n d args)):=by
 refine Fu.ok S (fun vs H Q E h=>h.1) fun cdv A outer s H vs Q E hr h=>?_;obtain⟨hl,F,args,r,args',g,e,q⟩:=h;refine⟨_,hb cdv A outer s H E hr,?_⟩;replace e:enter c n d args=.ok r args':=e;unfold enter at e;split at e
 . rename_i hc;obtain⟨c1,c2⟩:=hc;have hg:=g.more (n:=d.nn-d.np) (τ:=List.replicate (N.length-vs.length) none) (by simp[h1,h2,hl]);have hla:args.length=d.np:=c1;have go:∀{fl:Fl}{ρ':List Sl},cG c n d.body (args++List.replicate (d.nn-d.np) .bC)=.ok fl ρ'->(∀F' σ' H',bA K F (args++List.replicate (d.nn-d.np) .bC) (start N vs) H F' ρ' σ' H'->(match fl with|.next=>Q .non H'|.brk=>False|.cont=>False|.ret r=>∀v,cz K F' ρ' σ' H' (args++List.replicate (d.nn-d.np) .bC) (start N vs) H v r->Q v H'))->Tf K (cG c n d.body) {nx:=fun _ H'=>Q .non H',rt:=Q} (start N vs) H:=fun{fl ρ'}z k=>⟨F,_,fl,ρ',hg,z,fun F' σ' H' s=>by have:=k F' σ' H' s;cases fl<;>exact this⟩;split at e;.rename_i ρ' z;cases e;refine go z fun F' σ' H' s=>?_;obtain⟨z1,z2⟩:=bA.less (m:=d.np) hla.symm g (by simp[h1,h2,hl]) s;exact q .non F' _ H' z1 (show Rep K F' _ _ from M7)
   .rename_i r' ρ' z;cases e;refine go z fun F' σ' H' s v rr=>?_;obtain⟨z1,z2⟩:=bA.less (m:=d.np) hla.symm g (by simp[h1,h2,hl]) s;exact q v F' _ H' z1 (z2 v r rr)
   .split at e<;>cases e
 .cases e
structure aV(Pg:Program)(w:World)(K:PySem.W.Frag)(mg:Str->Option Value)(base:Heap)(k:Nat)(c:Call)(i:Nat)(x:Str)(np:Nat):Prop where ex:∃fa fd qs,dw Pg w K mg base oM k fa fd qs (oX K qs.length (c i))/\mg x=some (.ref fa)/\PySem.W.keepIn K (.ref fa)=true/\Binds K fd qs []/\qs.length=np
end
section
variable{X:Cx}{c:Call}{n k:Nat}{e a b:Expr}{es:List Expr}{p pa pb:P}{ps:List P}{pos:Pos}
theorem sv(i:Nat){x:Str}(hN:X.N[i]?=some x:=by rfl)(hv:Ak X.env.scope x:=by first|exact Or.inl rfl|exact Or.inr (Or.inl rfl)|exact Or.inr (Or.inr rfl))(hd:(x==("__debug__":Str))=false:=by rfl)(hcd:(x==("__classdict__":Str))=false:=by rfl):SX X c (.Name x pos) (.var i):=Ma hN hv hd hcd
theorem fC{i np:Nat}{x:Str}{p':Pos}(C:aV X.prog X.w X.K X.mg X.base k c i x np)(hr:gn k X.A)(ha:SG X c (e::es) ps)(hg:Gl X x:=by rfl)(hl:(e::es).length=np:=by rfl)(hdb:(x==("__debug__":Str))=false:=by rfl)(he:starEach (e::es) X.env=(false,eval e X.env)::starEach es X.env:=by rfl)(hpl:(backTo pos (starEach es X.env)).any (·.1)=false:=by rfl)(hl2:ps.length=(e::es).length:=by rfl):SX X c (.Call (.Name x p') (e::es) [] pos) (.call i ps):=by obtain⟨fa,fd,qs,h1,h2,h3,h4,h5⟩:=C.ex;exact Ga h1 hr hg h2 h3 h4 ha (hl.trans h5.symm) hdb he hpl hl2
noncomputable def Je(names outer:List (Str×NameKind))(N N':List Str)(n:Nat):Bool:=(names.all fun y=>names.lookup y.1==some y.2)&&(names.all fun y=>y.2!=.local||names.lookup y.1==some .local)&&(names.all fun y=>y.2!=.free||outer.lookup y.1==some .cell||outer.lookup y.1==some .free)&&N'.length==N.length+n&&((N.zip N').all fun p=>(p.1==p.2&&names.lookup p.2==some .free)||(names.lookup p.2!=some .local&&names.lookup p.2!=some .cell&&names.lookup p.2!=some .free))
theorem VH{scope:Scope}{N':List Str}(hk:scope.kind=.function)(h:Je scope.names X.env.scope.names X.N N' n=true):fK X scope N' n:=by
 unfold Je at h;simp only[Bool.and_eq_true]at h;obtain⟨⟨⟨⟨h1,h2⟩,h3⟩,h4⟩,h5⟩:=h;refine⟨hk,fun y hy=>eq_of_beq (List.all_eq_true.mp h1 y hy),fun y hy e=>?_,fun y hy e=>?_,by simpa using h4,h5⟩;.have:=List.all_eq_true.mp h2 y hy;rw[e]at this;simpa using this
 . have:=List.all_eq_true.mp h3 y hy;rw[e]at this;simp only[Bool.or_eq_true]at this;rcases this with(z|z)|z;.cases z
   .exact .inl (eq_of_beq z)
   .exact .inr (eq_of_beq z)
theorem bK{A:Around}(h:gn k A):A.units+8<cLine:=by have:=h.un;omega
end
end HH
end
section
namespace PySem
open AutoSeq1(wpAny_loadPart')
section
variable{prog:Program}{w:World}{A:Around}{E:Value->Shared->Prop}{s:Shared}
theorem fu{it l:Addr}{i:Nat}{items:Array Value}{x:Value}{Q:Value->Shared->Prop}(hit:s.heap.IsTupleIter it l i)(hl:s.heap.IsTuple l items)(hx:items[i]?=some x)(hQ:∀h',h'.IsTupleIter it l (i+1)->Heap.SameBut it s.heap h'->Q x {s with heap:=h'}):wpAny (model prog w) A (Builtin.SmallTypes.nextOf (.ref it)) Q E s:=by obtain⟨o,ho,hc,hd⟩:=id hit;obtain⟨ol,hol,_,nl,hdl⟩:=hl;unfold Builtin.SmallTypes.nextOf;refine wpAny_bind (wpAny_callSpecial?_slot (name:=Str.ofString "__next__") hit.typeIs F.slot_tuple_iterator_next (wpAny_call_entry F.slot_tuple_iterator_next hit.typeIs F.entry_tuple_iterator_next ?_ (F.args_tuple_iterator_next_1 _)));show wpAny _ _ (field (.ref it) 0>>=_) _ _ s;refine wpAny_bind (wpAny_field ho hd (x:=.ref l) rfl ?_);show wpAny _ _ (if(Value.ref l==Value.none)=true then _ else _) _ _ s;rw[if_neg (show ¬((Value.ref l==Value.none)=true)from Bool.false_ne_true)];show wpAny _ _ (field (.ref it) 1>>=_) _ _ s;refine wpAny_bind (wpAny_field ho hd (x:=.int i 0) rfl ?_);show wpAny _ _ (seqItems? (.ref l)>>=_) _ _ s;refine wpAny_bind (wpAny_seqItems hol hdl ?_);simp only[Int.toNat_natCast,hx];refine wpAny_bind (wpAny_setField ho hd (by simp) (wpAny_pure ⟨x,rfl,wpAny_pure (hQ _ ?_ (Heap.SameBut.update ..))⟩));exact⟨_,Heap.get?_update_self _ ho (Obj.isFreed_of_fields (Obj.data_mapFields hd _)),(Obj.cls_mapFields ..).trans hc,by rw[Obj.data_mapFields hd];simp[rawInt]⟩
theorem dB{it l:Addr}{i:Nat}{items:Array Value}{Q:Value->Shared->Prop}(hh:A.handled=none)(hit:s.heap.IsTupleIter it l i)(hl:s.heap.IsTuple l items)(hx:items[i]?=none)(hE:∀h' e,Heap.ExtBut it s.heap h'->(∃o,h'.get? e=some o/\o.cls=.type "StopIteration")->E (.ref e) {s with heap:=h'}):wpAny (model prog w) A (Builtin.SmallTypes.nextOf (.ref it)) Q E s:=by
 obtain⟨o,ho,hc,hd⟩:=id hit;obtain⟨ol,hol,_,nl,hdl⟩:=hl;unfold Builtin.SmallTypes.nextOf;refine wpAny_bind (wpAny_callSpecial?_slot (name:=Str.ofString "__next__") hit.typeIs F.slot_tuple_iterator_next (wpAny_call_entry F.slot_tuple_iterator_next hit.typeIs F.entry_tuple_iterator_next ?_ (F.args_tuple_iterator_next_1 _)));show wpAny _ _ (field (.ref it) 0>>=_) _ _ s;refine wpAny_bind (wpAny_field ho hd (x:=.ref l) rfl ?_);show wpAny _ _ (if(Value.ref l==Value.none)=true then _ else _) _ _ s;rw[if_neg (show ¬((Value.ref l==Value.none)=true)from Bool.false_ne_true)];show wpAny _ _ (field (.ref it) 1>>=_) _ _ s;refine wpAny_bind (wpAny_field ho hd (x:=.int i 0) rfl ?_);show wpAny _ _ (seqItems? (.ref l)>>=_) _ _ s;refine wpAny_bind (wpAny_seqItems hol hdl ?_);simp only[Int.toNat_natCast,hx];refine wpAny_bind (wpAny_rule (wpAny_bind (wpAny_setField ho hd (by simp) ?_)));show wpAny _ _ (newExc (.type "StopIteration") []>>=_) _ _ _;refine wpAny_bind ?_;simp only[newExc,newTuple];refine wpAny_bind (wpAny_newObj_type ?_ (by size_fits));refine wpAny_bind (m:=firstArgMember _ _) (wpAny_of_eq (a:=Value.none) (by first|rfl|(simp only[firstArgMember];rfl)) ?_);refine wpAny_newObj_type ?_ (by size_fits);simp only[raiseNew];refine wpAny_bind (wpAny_handled ?_);first|rw[show A.in1.handled=none from hh]|rw[hh]
 refine wpAny_bind (wpAny_pure (wpAny_throw ?_));exact hE _ _ (((Heap.SameBut.update ..).extBut.push _).push _) ⟨_,Heap.get?_push_size _ rfl,rfl⟩
end
theorem ig(l:Addr)(items:Array Value)(n:Nat)(dct:Option Addr)(sl:Array (Option Value)):Meets (Builtin.«enumerate.__new__» ⟨[.type "enumerate",.ref l],[]⟩) (fun _ R s=>s.heap.get? l=some {cls:=.type "tuple",dict:=dct,data:=.seq items n,slots:=sl}/\R (.ok (.ret (.ref (s.heap.push {cls:=.type "tuple_iterator",data:=.fields #[.ref l,.int 0 0]}).objs.size))) {s with heap:=(s.heap.push {cls:=.type "tuple_iterator",data:=.fields #[.ref l,.int 0 0]}).push {cls:=.type "enumerate",data:=.fields #[.none,.bool false,.ref s.heap.objs.size,rawInt 0,.none,.none]}}):=.of_wp fun prog w A R s h=>by
  obtain⟨hp,g,d,tk,os⟩:=s;obtain⟨hl,h⟩:=h;have hsub:=sub_enumerate;have hL:Heap.IsTuple (Shared.heap ⟨hp,g,d,tk,os⟩) l items:=⟨_,hl,rfl,n,rfl⟩;wp_walk using wpAny_loadPart' hl;refine wpAny_stack_any fun st=>wpAny_pure ?_;split
  . rename_i c _ _ _ _ _;cases(c==Value.type "enumerate");.wp_walk using wpAny_loadPart' hl,wpAny_pyIter_tuple hL;exact⟨_,rfl,h⟩
    .wp_walk using wpAny_loadPart' hl,wpAny_pyIter_tuple hL;exact⟨_,rfl,h⟩
  .wp_walk using wpAny_loadPart' hl,wpAny_pyIter_tuple hL;exact⟨_,rfl,h⟩
section
variable{prog:Program}{w:World}{A:Around}{E:Value->Shared->Prop}{s:Shared}
theorem gQ{l:Addr}{items:Array Value}{Q:Value->Shared->Prop}(hL:s.heap.IsTuple l items)(h:∀ h',IsEnum h' (s.heap.objs.size+1) s.heap.objs.size 0 .none->h'.IsTupleIter s.heap.objs.size l 0->h'.objs.size=s.heap.objs.size+2->(∀b o,s.heap.get? b=some o->h'.get? b=some o)->Q (.ref (s.heap.objs.size+1)) {s with heap:=h'}):wpAny (model prog w) A (call (.type "enumerate") [.ref l]) Q E s:=by
 obtain⟨⟨c,dct,dt,sl⟩,hl,hc,n,hd⟩:=hL;replace hc:c=.type "tuple":=hc;replace hd:dt=.seq items n:=hd;subst hc hd;refine callType_new F.called_enumerate (by decide) (F.typeCall_enumerate_1 _) (F.newCall_enumerate_1 _) (fun obj=>F.args_object_init_2 obj _) F.entry_enumerate_new (ig l items n dct sl) ⟨hl,?_⟩;have hz:(s.heap.push {cls:=.type "tuple_iterator",data:=.fields #[.ref l,.int 0 0]}).objs.size=s.heap.objs.size+1:=Heap.size_push ..;show _/\_;rw[hz];have he:IsEnum ((s.heap.push {cls:=.type "tuple_iterator",data:=.fields #[.ref l,.int 0 0]}).push {cls:=.type "enumerate",data:=.fields #[.none,.bool false,.ref s.heap.objs.size,rawInt 0,.none,.none]}) (s.heap.objs.size+1) s.heap.objs.size 0 .none:=by have:=Heap.get?_push_size (s.heap.push {cls:=.type "tuple_iterator",data:=.fields #[.ref l,.int 0 0]}) (o:={cls:=.type "enumerate",data:=.fields #[.none,.bool false,.ref s.heap.objs.size,rawInt 0,.none,.none]}) rfl;rw[hz]at this;exact this
 refine⟨⟨_,he,rfl⟩,h _ he ⟨_,Heap.get?_push_of_some _ (Heap.get?_push_size _ rfl),rfl,rfl⟩ (by rw[Heap.size_push,hz]) fun b o x=>Heap.get?_push_of_some _ (Heap.get?_push_of_some _ x)⟩
end
end PySem
end
section
namespace L2
open PySem PySem.Spec PyProof.Rows
section
variable{X:Cx}{pins:List (Addr×Obj)}{σ:L2.St}{H:Hp}{s:Shared}
theorem Inv.uM{ch:List Addr}{h':Heap}{o:HO}{t':Nat}(I:Inv X pins σ H s)(k:∀b u,b∉ch->s.heap.get? b=some u->h'.get? b=some u)(hl:∀b∈ch,∃u,h'.get? b=some u)(hf:∀b∈ch,lB X pins H b)(new:cB X.prog X.w (upd H s.heap.objs.size o) h' s.heap.objs.size o):Inv X pins σ (upd H s.heap.objs.size o) {s with heap:=h',toks:=t'}:=by
 have fr:H s.heap.objs.size=none:=I.hok.fresh (Nat.le_refl _);have uG:∀b u,H b=some u->b∉ch:=fun b u e hb=>by rw[(hf b hb).1]at e;cases e
 have up:∀b u,H b=some u->upd H s.heap.objs.size o b=some u:=fun b u e=>by
  have:b≠s.heap.objs.size:=by rintro rfl;rw[fr]at e;cases e
  rw[aJ this];exact e
 refine I.call (g':=s.gens) (d':=s.drawn) (ch:=ch) ⟨fun b u e n _ hx=>k b u hx e,fun b u e n _ hx=>⟨u.slots,k b u hx e⟩,fun b u e n hx=>?_,fun b u e hx=>⟨u,k b u hx e⟩,fun b xs e=>up b _ e,fun b ob u e=>up b _ e,fun b ps e=>⟨#[],by rw[up b _ e];simp⟩⟩ ?_ I.bare fun b hb=>⟨(hf b hb).2.2.2.1,(hf b hb).2.1,(hf b hb).2.2.2.2.1,(hf b hb).2.2.2.2.2⟩;.have:b≠s.heap.objs.size:=Nat.ne_of_lt (Heap.lt_size e);rw[aJ this];exact n
 . intro b u e;by_cases hb:b=s.heap.objs.size;.subst hb;rw[aW]at e;cases e;exact new
   . rw[aJ hb]at e;refine(I.hok b u e).stay (fun c v hc q=>k c v ?_ q) (fun c q=>up c _ q) fun c xs q=>up c _ q;rcases hc with rfl|hc;.exact uG _ _ e
     .exact uG _ _ hc
end
noncomputable def uR(K:PySem.W.Frag)(a:Addr):It:=⟨fun i H=>∃xs x,dI K H a xs/\xs[i]?=some x,fun i H x H'=>∃T v,H T=none/\x=.ref T/\H'=upd H T (.tup [.int (i:Int),v])/\∀xs,dI K H a xs->xs[i]?=some v,fun i H=>∃xs,dI K H a xs/\xs.length<=i⟩
theorem Lg{prog:Program}{w:World}{A:Around}(hh:A.handled=none)(it l:Addr)(hne:l≠it)(items:Array Value):Draws prog w A it [it,l] items.size (fun i v=>items[i]?=some v) (fun i h=>h.IsListIter it l i/\h.IsList l items)where
 live:=fun _ _ st=>let⟨o,ho,_⟩:=st.1;⟨o,ho⟩;frame:=fun _ _ _ st hk=>⟨(let⟨o,ho,r⟩:=st.1;⟨o,hk it (by simp) o ho,r⟩),(let⟨o,ho,r⟩:=st.2;⟨o,hk l (by simp) o ho,r⟩)⟩;item:=fun i s Q E hi st hQ=>by refine wpAny_nextOf_list_item st.1 st.2 (x:=items[i]) (by simp[hi]) fun h' hit' hs'=>?_;exact hQ _ h' s.toks (by simp[hi]) ⟨hit',(let⟨o,ho,r⟩:=st.2;⟨o,hs'.extBut l o hne ho,r⟩)⟩ hs'
 done:=fun s Q E st hE=>wpAny_nextOf_list_end hh st.1 st.2 (by simp) hE
theorem ym{prog:Program}{w:World}{A:Around}(hh:A.handled=none)(it l:Addr)(items:Array Value)(n:Nat)(hn:items.size<=n):Draws prog w A it [it,l] n (fun _ _=>True) (fun i h=>i=n/\h.IsListIter it l i/\h.IsList l items)where live:=fun _ _ st=>let⟨o,ho,_⟩:=st.2.1;⟨o,ho⟩;frame:=fun _ _ _ st hk=>⟨st.1,(let⟨o,ho,r⟩:=st.2.1;⟨o,hk it (by simp) o ho,r⟩),(let⟨o,ho,r⟩:=st.2.2;⟨o,hk l (by simp) o ho,r⟩)⟩;item:=fun i s Q E hi st hQ=>absurd st.1 (Nat.ne_of_lt hi);done:=fun s Q E st hE=>wpAny_nextOf_list_end hh st.2.1 st.2.2 (by simp;exact hn) hE
theorem yN{P:Program}{w:World}{K:PySem.W.Frag}{elts:List Expr}{x1}{tp:Pos}(a it e:Addr)(hei:e≠it):Turn P w K (.Tuple elts x1 tp) (uR K a) [e,it] e (fun i h=>(∃old,IsEnum h e it (i:Int) old)/\h.IsListIter it a i)where
 mem:=by simp
 obj:=fun i h st b hb=>by
  obtain⟨⟨old,h1⟩,o,h2,h3,h4⟩:=st;rcases List.mem_cons.mp hb with rfl|hb;.exact⟨_,h1,fun v z=>by cases z⟩
  . have:b=it:=by simpa using hb
    subst this;exact⟨o,h2,fun v z=>by rw[h4]at z;cases z⟩
 keep:=fun i h h' st k=>by obtain⟨⟨old,h1⟩,o,h2,h3⟩:=st;exact⟨⟨old,k e (by simp) _ h1⟩,o,k it (by simp) _ h2,h3⟩
 item:=fun X hP hw hK hc i pins s σ H E I hf st go=>by
  subst hP hw hK;obtain⟨⟨old,he⟩,hit⟩:=st;obtain⟨xs,x,hq,hx⟩:=go;obtain⟨its,rv,pl,hz⟩:=I.list hq;have hL:s.heap.IsList a its.toArray:=pl.isList;obtain⟨oa,ha,hca,_⟩:=id hL;have Z9:e≠a:=by rintro rfl;rw[he]at ha;cases ha;exact absurd (show Value.type "enumerate"=Value.type _ from hca) (by decide)
  have hia:a≠it:=by rintro rfl;obtain⟨o,h2,h3,_⟩:=id hit;rw[h2]at ha;cases ha;rw[h3]at hca;exact absurd hca (by decide)
  have hlt:i<its.toArray.size:=by rw[List.size_toArray,<-rv.length];exact(List.getElem?_eq_some_iff.mp hx).1
  refine wpAny_pyNext_enum_itemD (Lg (show X.A.in1.handled=none from I.ok.hd hc) it a hia its.toArray) he ⟨hit,hL⟩ hlt hei (by simp[hei,Z9]) fun y h' tk hy heo hst ht hsz kp=>?_;refine⟨_,rfl,wpAny_letOwnedTupleGo_enum heo fun h'' Dr sb=>?_⟩;obtain⟨u,hu1,hu2⟩:=rv.get hx;have hyu:y=u:=by
   have hy:its[i]?=some y:=by simpa using hy
   rw[hu1]at hy;cases hy;rfl
  subst hyu;have hT:∀b∈[e,it],b≠s.heap.objs.size:=fun b hb=>by
   rcases List.mem_cons.mp hb with rfl|hb;.exact Nat.ne_of_lt (Heap.lt_size he)
   . have:b=it:=by simpa using hb
     subst this;obtain⟨o,h2,_⟩:=id hit;exact Nat.ne_of_lt (Heap.lt_size h2)
  have hTe:s.heap.objs.size≠e:=(hT e (by simp)).symm;have Qq:∀b o,b∉[e,it]->s.heap.get? b=some o->h''.get? b=some o:=fun b o hb q=>by have h1:b≠e:=fun z=>hb (by simp[z]);have h2:b≠it:=fun z=>hb (by simp[z]);exact sb.extBut b o h1 (kp b o h1 h2 q)
  have uA:h''.get? s.heap.objs.size=some {cls:=.type "tuple",data:=.seq #[.int i tk,y]}:=sb.extBut _ _ hTe ht;refine⟨.ref s.heap.objs.size,upd H s.heap.objs.size (.tup [.int (i:Int),x]),?_,rfl,⟨_,x,I.fresh,rfl,rfl,fun ys hys=>?_⟩,⟨⟨_,Dr⟩,?_⟩,fun b hb=>?_⟩
  . refine I.uM (ch:=[e,it]) (t':=tk+1) Qq (fun b hb=>?_) (fun b hb=>(hf b hb)) ⟨(by show 2<=sizeLine;decide),[.int i tk,y],.cons ⟨_,rfl⟩ (.cons hu2 .nil),⟨_,uA,rfl,_,rfl⟩⟩;rcases List.mem_cons.mp hb with rfl|hb;.exact⟨_,Dr⟩
    . have:b=it:=by simpa using hb
      subst this;obtain⟨o,h2,_⟩:=id hst.1;exact⟨o,sb.extBut _ _ (Ne.symm hei) h2⟩
  .rw[I.jE hys hq];exact hx
  .obtain⟨o,h2,r⟩:=hst.1;exact⟨o,sb.extBut _ _ (Ne.symm hei) h2,r⟩
  .rw[aJ (hT b hb)];exact(hf b hb).1
 done:=fun X hP hw hK hc i pins s σ H E I hf st stop=>by subst hP hw hK;obtain⟨⟨old,he⟩,hit⟩:=st;obtain⟨xs,hq,hx⟩:=stop;obtain⟨its,rv,pl,hz⟩:=I.list hq;have hL:s.heap.IsList a its.toArray:=pl.isList;refine wpAny_pyNext_enum_endD (ym (show X.A.in1.handled=none from I.ok.hd hc) it a its.toArray i (by rw[List.size_toArray,<-rv.length];exact hx)) he ⟨rfl,hit,hL⟩ fun h' hs=>⟨rfl,?_⟩;have f:=hf it (by simp);exact I.turned (t':=s.toks) (fun b o hb q=>hs b o hb q) f.1 f.2.1 f.2.2.2.1 f.2.2.2.2.1 f.2.2.2.2.2
 self:=fun A i s Q E st q=>wpAny_pyIter_enum st.1.choose_spec q
noncomputable def uL(K:PySem.W.Frag)(a:Addr):It:=⟨fun i H=>∃xs x,gw K H a xs/\xs[i]?=some x,fun i H x H'=>∃T v,H T=none/\x=.ref T/\H'=upd H T (.tup [.int (i:Int),v])/\∀xs,gw K H a xs->xs[i]?=some v,fun i H=>∃xs,gw K H a xs/\xs.length<=i⟩
theorem KH{prog:Program}{w:World}{A:Around}(hh:A.handled=none)(it l:Addr)(hne:l≠it)(items:Array Value):Draws prog w A it [it,l] items.size (fun i v=>items[i]?=some v) (fun i h=>h.IsTupleIter it l i/\h.IsTuple l items)where
 live:=fun _ _ st=>let⟨o,ho,_⟩:=st.1;⟨o,ho⟩;frame:=fun _ _ _ st hk=>⟨(let⟨o,ho,r⟩:=st.1;⟨o,hk it (by simp) o ho,r⟩),(let⟨o,ho,r⟩:=st.2;⟨o,hk l (by simp) o ho,r⟩)⟩;item:=fun i s Q E hi st hQ=>by refine fu st.1 st.2 (x:=items[i]) (by simp[hi]) fun h' hit' hs'=>?_;exact hQ _ h' s.toks (by simp[hi]) ⟨hit',(let⟨o,ho,r⟩:=st.2;⟨o,hs'.extBut l o hne ho,r⟩)⟩ hs'
 done:=fun s Q E st hE=>dB hh st.1 st.2 (by simp) hE
theorem yI{prog:Program}{w:World}{A:Around}(hh:A.handled=none)(it l:Addr)(items:Array Value)(n:Nat)(hn:items.size<=n):Draws prog w A it [it,l] n (fun _ _=>True) (fun i h=>i=n/\h.IsTupleIter it l i/\h.IsTuple l items)where live:=fun _ _ st=>let⟨o,ho,_⟩:=st.2.1;⟨o,ho⟩;frame:=fun _ _ _ st hk=>⟨st.1,(let⟨o,ho,r⟩:=st.2.1;⟨o,hk it (by simp) o ho,r⟩),(let⟨o,ho,r⟩:=st.2.2;⟨o,hk l (by simp) o ho,r⟩)⟩;item:=fun i s Q E hi st hQ=>absurd st.1 (Nat.ne_of_lt hi);done:=fun s Q E st hE=>dB hh st.2.1 st.2.2 (by simp;exact hn) hE
theorem yU{P:Program}{w:World}{K:PySem.W.Frag}{elts:List Expr}{x1}{tp:Pos}(a it e:Addr)(hei:e≠it):Turn P w K (.Tuple elts x1 tp) (uL K a) [e,it] e (fun i h=>(∃old,IsEnum h e it (i:Int) old)/\h.IsTupleIter it a i)where
 mem:=by simp
 obj:=fun i h st b hb=>by
  obtain⟨⟨old,h1⟩,o,h2,h3,h4⟩:=st;rcases List.mem_cons.mp hb with rfl|hb;.exact⟨_,h1,fun v z=>by cases z⟩
  . have:b=it:=by simpa using hb
    subst this;exact⟨o,h2,fun v z=>by rw[h4]at z;cases z⟩
 keep:=fun i h h' st k=>by obtain⟨⟨old,h1⟩,o,h2,h3⟩:=st;exact⟨⟨old,k e (by simp) _ h1⟩,o,k it (by simp) _ h2,h3⟩
 item:=fun X hP hw hK hc i pins s σ H E I hf st go=>by
  subst hP hw hK;obtain⟨⟨old,he⟩,hit⟩:=st;obtain⟨xs,x,hq,hx⟩:=go;obtain⟨its,rv,pl,hz⟩:=I.tuple hq;have hL:s.heap.IsTuple a its.toArray:=pl;obtain⟨oa,ha,hca,_⟩:=id hL;have Z9:e≠a:=by rintro rfl;rw[he]at ha;cases ha;exact absurd (show Value.type "enumerate"=Value.type _ from hca) (by decide)
  have hia:a≠it:=by rintro rfl;obtain⟨o,h2,h3,_⟩:=id hit;rw[h2]at ha;cases ha;rw[h3]at hca;exact absurd hca (by decide)
  have hlt:i<its.toArray.size:=by rw[List.size_toArray,<-rv.length];exact(List.getElem?_eq_some_iff.mp hx).1
  refine wpAny_pyNext_enum_itemD (KH (show X.A.in1.handled=none from I.ok.hd hc) it a hia its.toArray) he ⟨hit,hL⟩ hlt hei (by simp[hei,Z9]) fun y h' tk hy heo hst ht hsz kp=>?_;refine⟨_,rfl,wpAny_letOwnedTupleGo_enum heo fun h'' Dr sb=>?_⟩;obtain⟨u,hu1,hu2⟩:=rv.get hx;have hyu:y=u:=by
   have hy:its[i]?=some y:=by simpa using hy
   rw[hu1]at hy;cases hy;rfl
  subst hyu;have hT:∀b∈[e,it],b≠s.heap.objs.size:=fun b hb=>by
   rcases List.mem_cons.mp hb with rfl|hb;.exact Nat.ne_of_lt (Heap.lt_size he)
   . have:b=it:=by simpa using hb
     subst this;obtain⟨o,h2,_⟩:=id hit;exact Nat.ne_of_lt (Heap.lt_size h2)
  have hTe:s.heap.objs.size≠e:=(hT e (by simp)).symm;have Qq:∀b o,b∉[e,it]->s.heap.get? b=some o->h''.get? b=some o:=fun b o hb q=>by have h1:b≠e:=fun z=>hb (by simp[z]);have h2:b≠it:=fun z=>hb (by simp[z]);exact sb.extBut b o h1 (kp b o h1 h2 q)
  have uA:h''.get? s.heap.objs.size=some {cls:=.type "tuple",data:=.seq #[.int i tk,y]}:=sb.extBut _ _ hTe ht;refine⟨.ref s.heap.objs.size,upd H s.heap.objs.size (.tup [.int (i:Int),x]),?_,rfl,⟨_,x,I.fresh,rfl,rfl,fun ys hys=>?_⟩,⟨⟨_,Dr⟩,?_⟩,fun b hb=>?_⟩
  . refine I.uM (ch:=[e,it]) (t':=tk+1) Qq (fun b hb=>?_) (fun b hb=>(hf b hb)) ⟨(by show 2<=sizeLine;decide),[.int i tk,y],.cons ⟨_,rfl⟩ (.cons hu2 .nil),⟨_,uA,rfl,_,rfl⟩⟩;rcases List.mem_cons.mp hb with rfl|hb;.exact⟨_,Dr⟩
    . have:b=it:=by simpa using hb
      subst this;obtain⟨o,h2,_⟩:=id hst.1;exact⟨o,sb.extBut _ _ (Ne.symm hei) h2⟩
  .rw[I.iM hys hq];exact hx
  .obtain⟨o,h2,r⟩:=hst.1;exact⟨o,sb.extBut _ _ (Ne.symm hei) h2,r⟩
  .rw[aJ (hT b hb)];exact(hf b hb).1
 done:=fun X hP hw hK hc i pins s σ H E I hf st stop=>by subst hP hw hK;obtain⟨⟨old,he⟩,hit⟩:=st;obtain⟨xs,hq,hx⟩:=stop;obtain⟨its,rv,pl,hz⟩:=I.tuple hq;have hL:s.heap.IsTuple a its.toArray:=pl;refine wpAny_pyNext_enum_endD (yI (show X.A.in1.handled=none from I.ok.hd hc) it a its.toArray i (by rw[List.size_toArray,<-rv.length];exact hx)) he ⟨rfl,hit,hL⟩ fun h' hs=>⟨rfl,?_⟩;have f:=hf it (by simp);exact I.turned (t':=s.toks) (fun b o hb q=>hs b o hb q) f.1 f.2.1 f.2.2.2.1 f.2.2.2.2.1 f.2.2.2.2.2
 self:=fun A i s Q E st q=>wpAny_pyIter_enum st.1.choose_spec q
section
variable{X:Cx}{elts:List Expr}{x1:Nat}{tp:Pos}
noncomputable def WL(K:PySem.W.Frag)(tl:TE):TI:=fun σ H R=>tl σ H fun x H1=>∃a,x=.ref a/\(((∃xs,dI K H1 a xs)/\R (uR K a) H1)\/((∃xs,gw K H1 a xs)/\R (uL K a) H1))
theorem boot_enumerate:bootBuiltins "enumerate"=some (.type "enumerate"):=by decide+kernel
theorem M8{a:Expr}{ta:TE}{p pos:Pos}(hg:Gl X "enumerate")(hm:X.mg "enumerate"=none)(ha:PE X a ta)(hs:starEach [a] X.env=[(false,eval a X.env)]:=by rfl):PI X (.Tuple elts x1 tp) (.Call (.Name "enumerate" p) [a] [] pos) (WL X.K ta):=by
 intro pins s σ H R I h;refine Call_ (kI I hg hm boot_enumerate (PyProof.Rows.callWith_type1 (dq ((aZ ha cW hs) pos pins s σ H (fun vs H1=>match vs with|[x]=>∃a,x=.ref a/\(((∃xs,dI X.K H1 a xs)/\R (uR X.K a) H1)\/((∃xs,gw X.K H1 a xs)/\R (uL X.K a) H1))|_=>False) I h) ?_) hs rfl));rintro us s1⟨vs,H1,I1,r1,q1⟩
 . obtain⟨ad,q,vs1⟩:∃ad,(((∃xs,dI X.K H1 ad xs)/\R (uR X.K ad) H1)\/((∃xs,gw X.K H1 ad xs)/\R (uL X.K ad) H1))/\vs=[.ref ad]:=by cases vs with|nil=>cases q1|cons x r=>cases r with|nil=>obtain⟨ad,rfl,q⟩:=q1;exact⟨ad,q,rfl⟩|cons _ _=>cases q1
   subst vs1;obtain⟨u,rfl,ru⟩:=r1.one;cases ru;have fin:∀(h':Heap)(tn:Nat->Heap->Prop)(J:It),Turn X.prog X.w X.K (.Tuple elts x1 tp) J [s1.heap.objs.size+1,s1.heap.objs.size] (s1.heap.objs.size+1) tn->tn 0 h'->IsEnum h' (s1.heap.objs.size+1) s1.heap.objs.size 0 .none->(∀b o,s1.heap.get? b=some o->h'.get? b=some o)->R J H1->wpAny (model X.prog X.w) X.A (pyIter (.ref (s1.heap.objs.size+1))) (PIE X pins σ (.Tuple elts x1 tp) R) X.xe {s1 with heap:=h'}:=fun h' tn J T t0 he kp q=>by
    refine wpAny_pyIter_enum he ⟨_,_,tn,J,H1,rfl,I1.kept (t':=s1.toks) kp,T,t0,fun b hb=>?_,q⟩;have hb':s1.heap.objs.size<=b:=by
     rcases List.mem_cons.mp hb with rfl|hb;.exact Nat.le_succ _
     . have:b=s1.heap.objs.size:=by simpa using hb
       rw[this];exact Nat.le_refl _
    exact I1.yg hb' (I1.hok.fresh hb')
   rcases q with⟨⟨xs,hq⟩,q⟩|⟨⟨xs,hq⟩,q⟩;.obtain⟨its,rv,pl,hz⟩:=I1.list hq;exact call_enumerate_list pl.isList fun h' he hi hsz kp=>fin h' _ _ (yN ad s1.heap.objs.size (s1.heap.objs.size+1) (Nat.succ_ne_self _)) ⟨⟨_,he⟩,hi⟩ he kp q
   .obtain⟨its,rv,pl,hz⟩:=I1.tuple hq;exact gQ pl fun h' he hi hsz kp=>fin h' _ _ (yU ad s1.heap.objs.size (s1.heap.objs.size+1) (Nat.succ_ne_self _)) ⟨⟨_,he⟩,hi⟩ he kp q
end
end L2
namespace HH
open PySem L2 PySem.Spec PyProof.Rows
section
variable{K:PySem.W.Frag}{F F1 H H1:Hp}{ρ ρ1:List Sl}{σ:L2.St}{ds:List D}{a:Addr}
theorem nA{F' H':Hp}{T:Addr}{v w:V}{d1 d2:D}(sm:aF F' H')(hT:H' T=none)(r1:Rep K F' v d1)(r2:Rep K F' w d2):∃F'',Ext F' H' F'' (upd H' T (.tup [v,w]))/\Rep K F'' (.ref T) (.tup [d1,d2]):=yf (Q:=fun v j8=>∃F'',Ext F' H' F'' j8/\Rep K F'' v (.tup [d1,d2])) sm (.cons r1 (.cons r2 .nil)) hT fun v F'' j8 x rn=>⟨F'',x,rn⟩
theorem zJ{xs:List V}{F' H':Hp}(hq:dI K H' a xs)(r:aD K F' xs ds)(s:aF F' H')(k:Nat):(∀d,(ds.mapIdx fun i d=>D.tup [.int (i:Int),d])[k]?=some d->(uR K a).go k H'/\∀x j8,(uR K a).DW k H' x j8->∃F'',Ext F' H' F'' j8/\Rep K F'' x d)/\((ds.mapIdx fun i d=>D.tup [.int (i:Int),d]).length<=k->(uR K a).stop k H'):=by refine⟨fun d hd=>?_,fun h=>⟨xs,hq,by rw[r.length];simpa using h⟩⟩;rw[List.getElem?_mapIdx]at hd;obtain⟨d0,e1,e2⟩:=map_some hd;subst e2;obtain⟨w,h1,h2⟩:=r.get e1;refine⟨⟨xs,w,hq,h1⟩,?_⟩;rintro x j8⟨T,v,hT,hx,hH,y⟩;subst hx;subst hH;have:=y xs hq;rw[h1]at this;cases this;exact nA s hT (dD _) h2
theorem Ab{xs:List V}{F' H':Hp}(hq:gw K H' a xs)(r:aD K F' xs ds)(s:aF F' H')(k:Nat):(∀d,(ds.mapIdx fun i d=>D.tup [.int (i:Int),d])[k]?=some d->(uL K a).go k H'/\∀x j8,(uL K a).DW k H' x j8->∃F'',Ext F' H' F'' j8/\Rep K F'' x d)/\((ds.mapIdx fun i d=>D.tup [.int (i:Int),d]).length<=k->(uL K a).stop k H'):=by refine⟨fun d hd=>?_,fun h=>⟨xs,hq,by rw[r.length];simpa using h⟩⟩;rw[List.getElem?_mapIdx]at hd;obtain⟨d0,e1,e2⟩:=map_some hd;subst e2;obtain⟨w,h1,h2⟩:=r.get e1;refine⟨⟨xs,w,hq,h1⟩,?_⟩;rintro x j8⟨T,v,hT,hx,hH,y⟩;subst hx;subst hH;have:=y xs hq;rw[h1]at this;cases this;exact nA s hT (dD _) h2
end
section
variable{X:Cx}{c:Call}{e a:Expr}{pa:P}{pos:Pos}{elts:List Expr}{x1:Nat}{tp:Pos}
theorem zM{x:Str}{p':Pos}(hx:x="enumerate")(hg:Gl X x)(hm:X.mg x=none)(ha:SX X c a pa)(hs:starEach [a] X.env=[(false,eval a X.env)]:=by rfl):SI X c (.Tuple elts x1 tp) (.Call (.Name x p') [a] [] pos) (.Uh pa):=by subst hx;refine rZ (M8 hg hm ha.ev hs) ?_;rintro σ H R⟨F,ρ,ds,ρ1,g,e,k⟩;obtain⟨r,ρ2,e1,e2⟩:=ao e;have zz:=aM e2;clear e2;obtain⟨e2,e3⟩:=zz;subst e3;rw[HH.ev]at e1;obtain⟨r0,ρ3,e4,e5⟩:=ao e1;have zz:=aM e5;clear e5;obtain⟨e5,e6⟩:=zz;subst e6;obtain⟨es,f1,f2⟩:=map_some e5;subst f2;cases e2;refine⟨F,ρ,r0,_,g,e4,fun v F' H' s rr=>?_⟩;obtain⟨F2,s2,_,rp⟩:=s.fc rr;cases hd:r0.d with|tup es'=>rw[hd]at f1 rp;cases f1;rw[Rep]at rp;obtain⟨ad,xs,rfl,h1,h2⟩:=rp;exact⟨ad,rfl,.inr ⟨⟨xs,aF.fU s2.gs.sub h1⟩,k _ _ _ ⟨s2.gs,fun n k F' ρ' σ' H' s'=>Ab (aF.fU s'.gs.sub (aF.fU s'.bV h1)) (h2.mono s'.bV) s'.gs.sub k,fun F3 ρ3 σ3 H3 s3=>⟨s2.trans s3,fun v r rr=>rr.later s2⟩⟩⟩⟩|lst es'=>rw[hd]at f1 rp;cases f1;rw[Rep]at rp;obtain⟨ad,xs,rfl,h1,h2⟩:=rp;exact⟨ad,rfl,.inl ⟨⟨xs,s2.gs.sub.seq h1⟩,k _ _ _ ⟨s2.gs,fun n k F' ρ' σ' H' s'=>zJ (s'.gs.sub.seq (s'.bV.seq h1)) (h2.mono s'.bV) s'.gs.sub k,fun F3 ρ3 σ3 H3 s3=>⟨s2.trans s3,fun v r rr=>rr.later s2⟩⟩⟩⟩|_=>rw[hd]at f1;cases f1
end
end HH
end
section
namespace PySem
structure Nx(prog:Program)(w:World)(A:Around)(it src:Addr)(Sx:Nat->Heap->Prop)(get:Nat->Option Value):Prop where
 obj:∀k h,Sx k h->∃o,h.get? it=some o/\∀v,o.data≠.cell v
 keep:∀k h h',Sx k h->(∀o,h.get? it=some o->h'.get? it=some o)->(∀o,h.get? src=some o->h'.get? src=some o)->Sx k h'
 item:∀k(s:Shared)(Q:Value->Shared->Prop)(E:Value->Shared->Prop)x,Sx k s.heap->get k=some x->(∀h',Sx (k+1) h'->Heap.SameBut it s.heap h'->Q x {s with heap:=h'})->wpAny (model prog w) A (Builtin.SmallTypes.nextOf (.ref it)) Q E s
 fin:∀k(s:Shared)(Q:Value->Shared->Prop)(E:Value->Shared->Prop),Sx k s.heap->get k=none->(∀h' e,Heap.ExtBut it s.heap h'->(∃o,h'.get? e=some o/\o.cls=.type "StopIteration")->E (.ref e) {s with heap:=h'})->wpAny (model prog w) A (Builtin.SmallTypes.nextOf (.ref it)) Q E s
section
variable{prog:Program}{w:World}{A:Around}{E:Value->Shared->Prop}{s:Shared}
theorem Nx.list(hh:A.handled=none)(it l:Addr)(hne:l≠it)(items:Array Value):Nx prog w A it l (fun k h=>h.IsListIter it l k/\h.IsList l items) (fun k=>items[k]?)where obj:=fun k h st=>let⟨o,h1,_,h3⟩:=st.1;⟨o,h1,fun v z=>by rw[h3]at z;cases z⟩;keep:=fun k h h' st a b=>⟨(let⟨o,ho,r⟩:=st.1;⟨o,a o ho,r⟩),(let⟨o,ho,r⟩:=st.2;⟨o,b o ho,r⟩)⟩;item:=fun k s Q E x st hx hQ=>wpAny_nextOf_list_item st.1 st.2 hx fun h' hit hs=>hQ h' ⟨hit,(let⟨o,ho,r⟩:=st.2;⟨o,hs.extBut l o hne ho,r⟩)⟩ hs;fin:=fun k s Q E st hx hE=>wpAny_nextOf_list_end hh st.1 st.2 hx hE
theorem Nx.tuple(hh:A.handled=none)(it l:Addr)(hne:l≠it)(items:Array Value):Nx prog w A it l (fun k h=>h.IsTupleIter it l k/\h.IsTuple l items) (fun k=>items[k]?)where obj:=fun k h st=>let⟨o,h1,_,h3⟩:=st.1;⟨o,h1,fun v z=>by rw[h3]at z;cases z⟩;keep:=fun k h h' st a b=>⟨(let⟨o,ho,r⟩:=st.1;⟨o,a o ho,r⟩),(let⟨o,ho,r⟩:=st.2;⟨o,b o ho,r⟩)⟩;item:=fun k s Q E x st hx hQ=>fu st.1 st.2 hx fun h' hit hs=>hQ h' ⟨hit,(let⟨o,ho,r⟩:=st.2;⟨o,hs.extBut l o hne ho,r⟩)⟩ hs;fin:=fun k s Q E st hx hE=>dB hh st.1 st.2 hx hE
variable{z TI TO i1 i2 l1 l2:Addr}{k:Nat}{S1 S2:Nat->Heap->Prop}{g1 g2:Nat->Option Value}{a b:Value}
theorem yR{x y:Value}{Q:Value->Shared->Prop}(D:ZipApart z TI TO i1 i2 l1 l2)(N1:Nx prog w A i1 l1 S1 g1)(N2:Nx prog w A i2 l2 S2 g2)(hz:IsZip s.heap z TI TO .none)(hTI:IsPair s.heap TI (.ref i1) (.ref i2))(hTO:IsPair s.heap TO a b)(h1:S1 k s.heap)(h2:S2 k s.heap)(hx:g1 k=some x)(hy:g2 k=some y)(hQ:∀ h',IsZip h' z TI TO (rawInt s.heap.objs.size)->IsPair h' TO x y->S1 (k+1) h'->S2 (k+1) h'->IsPair h' s.heap.objs.size x y->h'.objs.size=s.heap.objs.size+1->(∀c o,c≠z->c≠TO->c≠i1->c≠i2->s.heap.get? c=some o->h'.get? c=some o)->Q (.ref s.heap.objs.size) {s with heap:=h'}):wpAny (model prog w) A (Builtin.«zip.__next__» ⟨[.ref z],[]⟩) (fun fin s'=>∃v,fin=.done (.ret v)/\Q v s') E s:=by
 show wpAny _ _ (field (.ref z) 2>>=_) _ _ _;refine wpAny_bind (wpAny_field hz rfl (x:=.bool false) rfl ?_);show wpAny _ _ (field (.ref z) 3>>=_) _ _ _;refine wpAny_bind (wpAny_field hz rfl (x:=.ref TI) rfl (wpAny_bind (wpAny_seqItems hTI rfl ?_)));show wpAny _ _ (Builtin.SmallTypes.ownedTupleIsFree (.ref z)>>=_) _ _ _;refine wpAny_bind ?_;unfold Builtin.SmallTypes.ownedTupleIsFree;refine wpAny_bind (wpAny_field hz rfl (x:=.none) rfl (wpAny_pure ?_));simp only[if_true];refine wpAny_bind (wpAny_rule (wpAny_bind (wpAny_field hz rfl (x:=.ref TO) rfl (wpAny_bind (wpAny_setField_rec hz (by simp) fun t1 z1 vQ=>?_)))));have z1:IsZip t1 z TI TO .ellipsis:=z1;refine wpAny_bind ?_;simp only[List.zipIdx_cons,List.zipIdx_nil,List.forIn_cons,List.forIn_nil];refine wpAny_bind (wpAny_bind (wpAny_onRaise ?_));show wpAny _ _ (Builtin.SmallTypes.nextOf (.ref i1)>>=_) _ _ _;have q1:S1 k t1:=N1.keep _ _ _ h1 (fun o e=>vQ.extBut _ _ D.i1z e) fun o e=>vQ.extBut _ _ D.l1z e;refine wpAny_bind (N1.item k _ _ _ x q1 hx fun t2 q2 vR=>wpAny_pure ?_);have p2:IsPair t2 TO a b:=vR.extBut _ _ D.TOi1 (vQ.extBut _ _ D.TOz hTO);refine wpAny_bind (wpAny_seqItems p2 rfl (wpAny_bind (wpAny_updateSeq_pair p2 fun t3 p3 vU=>?_)));have p3:IsPair t3 TO x b:=p3;refine wpAny_bind (wpAny_letGo (wpAny_pure (wpAny_bind (wpAny_bind (wpAny_onRaise ?_)))));show wpAny _ _ (Builtin.SmallTypes.nextOf (.ref i2)>>=_) _ _ _;have w3:S2 k t3:=N2.keep _ _ _ h2 (fun o e=>vU.extBut _ _ D.TOi2.symm (vR.extBut _ _ D.i12.symm (vQ.extBut _ _ D.i2z e))) fun o e=>vU.extBut _ _ D.l2TO (vR.extBut _ _ D.l2i1 (vQ.extBut _ _ D.l2z e));refine wpAny_bind (N2.item k _ _ _ y w3 hy fun t4 w4 Hz=>wpAny_pure ?_);have p4:IsPair t4 TO x b:=Hz.extBut _ _ D.TOi2 p3;refine wpAny_bind (wpAny_seqItems p4 rfl (wpAny_bind (wpAny_updateSeq_pair p4 fun t5 p5 DX=>?_)));have p5:IsPair t5 TO x y:=p5;refine wpAny_bind (wpAny_letGo (wpAny_pure (wpAny_pure (wpAny_bind (wpAny_seqItems p5 rfl (wpAny_bind (wpAny_newTuple ?_)))))));have hsz:t5.objs.size=s.heap.objs.size:=by rw[DX.1,Hz.1,vU.1,vR.1,vQ.1]
 have z5:IsZip t5 z TI TO .ellipsis:=DX.extBut _ _ D.TOz.symm (Hz.extBut _ _ D.i2z.symm (vU.extBut _ _ D.TOz.symm (vR.extBut _ _ D.i1z.symm z1)));have kp:∀c o,c≠z->c≠TO->c≠i1->c≠i2->s.heap.get? c=some o->t5.get? c=some o:=fun c o c1 c2 c3 c4 e=>DX.extBut _ _ c2 (Hz.extBut _ _ c4 (vU.extBut _ _ c2 (vR.extBut _ _ c3 (vQ.extBut _ _ c1 e))));have q5:S1 (k+1) t5:=N1.keep _ _ _ q2 (fun o e=>DX.extBut _ _ D.TOi1.symm (Hz.extBut _ _ D.i12 (vU.extBut _ _ D.TOi1.symm e))) fun o e=>DX.extBut _ _ D.l1TO (Hz.extBut _ _ D.l1i2 (vU.extBut _ _ D.l1TO e));have w5:S2 (k+1) t5:=N2.keep _ _ _ w4 (fun o e=>DX.extBut _ _ D.TOi2.symm e) fun o e=>DX.extBut _ _ D.l2TO e;have zlt:z<t5.objs.size:=Heap.lt_size z5;show wpAny _ _ (Builtin.SmallTypes.ownedTupleHandOut (.ref z) (.ref t5.objs.size)>>=_) _ _ _;refine wpAny_bind ?_;unfold Builtin.SmallTypes.ownedTupleHandOut;have z6:IsZip (t5.push {cls:=.type "tuple",data:=.seq #[x,y]}) z TI TO .ellipsis:=Heap.get?_push_of_some _ z5;refine wpAny_bind (wpAny_setField_rec z6 (by simp) fun t7 z7 sb7=>?_);have z7:IsZip t7 z TI TO (rawInt t5.objs.size):=z7;refine wpAny_setField_rec z7 (by simp) fun t8 z8 sb8=>?_;have z8:IsZip t8 z TI TO (rawInt t5.objs.size):=z8;have up:∀c o,c≠z->t5.get? c=some o->t8.get? c=some o:=fun c o c1 e=>sb8.extBut _ _ c1 (sb7.extBut _ _ c1 (Heap.get?_push_of_some _ e));have T8:IsPair t8 t5.objs.size x y:=sb8.extBut _ _ (Nat.ne_of_gt zlt) (sb7.extBut _ _ (Nat.ne_of_gt zlt) (Heap.get?_push_size _ rfl));have n8:t8.objs.size=t5.objs.size+1:=by rw[sb8.1,sb7.1,Heap.size_push]
 rw[hsz]at z8 T8 n8;refine wpAny_pure ⟨_,rfl,?_⟩;show Q (.ref t5.objs.size) _;rw[hsz];exact hQ t8 z8 (up _ _ D.TOz p5) (N1.keep _ _ _ q5 (fun o e=>up _ o D.i1z e) fun o e=>up _ o D.l1z e) (N2.keep _ _ _ w5 (fun o e=>up _ o D.i2z e) fun o e=>up _ o D.l2z e) T8 n8 fun c o c1 c2 c3 c4 e=>up c o c1 (kp c o c1 c2 c3 c4 e)
theorem Dd{Q:Fin->Shared->Prop}(D:ZipApart z TI TO i1 i2 l1 l2)(N1:Nx prog w A i1 l1 S1 g1)(N2:Nx prog w A i2 l2 S2 g2)(hz:IsZip s.heap z TI TO .none)(hTI:IsPair s.heap TI (.ref i1) (.ref i2))(hTO:IsPair s.heap TO a b)(h1:S1 k s.heap)(h2:S2 k s.heap)(hend:g1 k=none\/g2 k=none)(hE:∀h' e,(∀c o,c≠z->c≠TO->c≠i1->c≠i2->s.heap.get? c=some o->h'.get? c=some o)->(∃o,h'.get? e=some o/\o.cls=.type "StopIteration")->E (.ref e) {s with heap:=h'}):wpAny (model prog w) A (Builtin.«zip.__next__» ⟨[.ref z],[]⟩) Q E s:=by
 show wpAny _ _ (field (.ref z) 2>>=_) _ _ _;refine wpAny_bind (wpAny_field hz rfl (x:=.bool false) rfl ?_);show wpAny _ _ (field (.ref z) 3>>=_) _ _ _;refine wpAny_bind (wpAny_field hz rfl (x:=.ref TI) rfl (wpAny_bind (wpAny_seqItems hTI rfl ?_)));show wpAny _ _ (Builtin.SmallTypes.ownedTupleIsFree (.ref z)>>=_) _ _ _;refine wpAny_bind ?_;unfold Builtin.SmallTypes.ownedTupleIsFree;refine wpAny_bind (wpAny_field hz rfl (x:=.none) rfl (wpAny_pure ?_));simp only[if_true];refine wpAny_bind (wpAny_rule (wpAny_bind (wpAny_field hz rfl (x:=.ref TO) rfl (wpAny_bind (wpAny_setField_rec hz (by simp) fun t1 z1 vQ=>?_)))));have z1:IsZip t1 z TI TO .ellipsis:=z1;refine wpAny_bind ?_;simp only[List.zipIdx_cons,List.zipIdx_nil,List.forIn_cons,List.forIn_nil];refine wpAny_bind (wpAny_bind (wpAny_onRaise ?_));show wpAny _ _ (Builtin.SmallTypes.nextOf (.ref i1)>>=_) _ _ _
 have q1:S1 k t1:=N1.keep _ _ _ h1 (fun o e=>vQ.extBut _ _ D.i1z e) fun o e=>vQ.extBut _ _ D.l1z e;cases hx:g1 k with|none=>
   refine wpAny_bind (N1.fin k _ _ _ q1 hx fun t2 e vR he=>?_);obtain⟨oe,hoe,hce⟩:=he;have z2:IsZip t2 z TI TO .ellipsis:=vR _ _ D.i1z.symm z1;have hez:e≠z:=fun x=>by subst x;rw[z2]at hoe;cases hoe;simp at hce
   exact wpAny_setField_rec z2 (by simp) fun t3 _ vU=>hE t3 e (fun c o c1 _ c3 _ x=>vU.extBut _ _ c1 (vR _ _ c3 (vQ.extBut _ _ c1 x))) ⟨oe,vU.extBut _ _ hez hoe,hce⟩|some x=>
   have hy:g2 k=none:=by rcases hend with h|h;rw[hx]at h;cases h;exact h
   refine wpAny_bind (N1.item k _ _ _ x q1 hx fun t2 q2 vR=>wpAny_pure ?_);have p2:IsPair t2 TO a b:=vR.extBut _ _ D.TOi1 (vQ.extBut _ _ D.TOz hTO);refine wpAny_bind (wpAny_seqItems p2 rfl (wpAny_bind (wpAny_updateSeq_pair p2 fun t3 p3 vU=>?_)));refine wpAny_bind (wpAny_letGo (wpAny_pure (wpAny_bind (wpAny_bind (wpAny_onRaise ?_)))));show wpAny _ _ (Builtin.SmallTypes.nextOf (.ref i2)>>=_) _ _ _;have w3:S2 k t3:=N2.keep _ _ _ h2 (fun o e=>vU.extBut _ _ D.TOi2.symm (vR.extBut _ _ D.i12.symm (vQ.extBut _ _ D.i2z e))) fun o e=>vU.extBut _ _ D.l2TO (vR.extBut _ _ D.l2i1 (vQ.extBut _ _ D.l2z e));refine wpAny_bind (N2.fin k _ _ _ w3 hy fun t4 e Hz he=>?_);obtain⟨oe,hoe,hce⟩:=he;have z4:IsZip t4 z TI TO .ellipsis:=Hz _ _ D.i2z.symm (vU.extBut _ _ D.TOz.symm (vR.extBut _ _ D.i1z.symm z1));have hez:e≠z:=fun x=>by subst x;rw[z4]at hoe;cases hoe;simp at hce
   exact wpAny_setField_rec z4 (by simp) fun t5 _ DX=>hE t5 e (fun c o c1 c2 c3 c4 x=>DX.extBut _ _ c1 (Hz _ _ c4 (vU.extBut _ _ c2 (vR.extBut _ _ c3 (vQ.extBut _ _ c1 x))))) ⟨oe,DX.extBut _ _ hez hoe,hce⟩
theorem lA{x y:Value}{Q:Option Value->Shared->Prop}(D:ZipApart z TI TO i1 i2 l1 l2)(N1:Nx prog w A.in1 i1 l1 S1 g1)(N2:Nx prog w A.in1 i2 l2 S2 g2)(hz:IsZip s.heap z TI TO .none)(hTI:IsPair s.heap TI (.ref i1) (.ref i2))(hTO:IsPair s.heap TO a b)(h1:S1 k s.heap)(h2:S2 k s.heap)(hx:g1 k=some x)(hy:g2 k=some y)(hQ:∀ h',IsZip h' z TI TO (rawInt s.heap.objs.size)->IsPair h' TO x y->S1 (k+1) h'->S2 (k+1) h'->IsPair h' s.heap.objs.size x y->h'.objs.size=s.heap.objs.size+1->(∀c o,c≠z->c≠TO->c≠i1->c≠i2->s.heap.get? c=some o->h'.get? c=some o)->Q (some (.ref s.heap.objs.size)) {s with heap:=h'}):wpAny (model prog w) A (pyNext (.ref z)) Q E s:=by have hT:s.TypeIs (.ref z) "zip":=⟨_,hz,rfl⟩;unfold pyNext;exact wpAny_bind (wpAny_attempt (wpAny_callSpecial?_slot (name:=Str.ofString "__next__") hT F.slot_zip_next (wpAny_call_entry F.slot_zip_next hT F.entry_zip_next (yR D N1 N2 hz hTI hTO h1 h2 hx hy fun h' a1 a2 a3 a4 a5 a6 a7=>wpAny_pure (hQ h' a1 a2 a3 a4 a5 a6 a7)) (F.args_zip_next_1 _))))
theorem lN{Q:Option Value->Shared->Prop}(D:ZipApart z TI TO i1 i2 l1 l2)(N1:Nx prog w A.in1 i1 l1 S1 g1)(N2:Nx prog w A.in1 i2 l2 S2 g2)(hz:IsZip s.heap z TI TO .none)(hTI:IsPair s.heap TI (.ref i1) (.ref i2))(hTO:IsPair s.heap TO a b)(h1:S1 k s.heap)(h2:S2 k s.heap)(hend:g1 k=none\/g2 k=none)(hQ:∀h',(∀c o,c≠z->c≠TO->c≠i1->c≠i2->s.heap.get? c=some o->h'.get? c=some o)->Q none {s with heap:=h'}):wpAny (model prog w) A (pyNext (.ref z)) Q E s:=by have hT:s.TypeIs (.ref z) "zip":=⟨_,hz,rfl⟩;unfold pyNext;refine wpAny_bind (wpAny_attempt (wpAny_callSpecial?_slot (name:=Str.ofString "__next__") hT F.slot_zip_next (wpAny_call_entry F.slot_zip_next hT F.entry_zip_next (Dd D N1 N2 hz hTI hTO h1 h2 hend fun h' e hk he=>?_) (F.args_zip_next_1 _))));obtain⟨o,ho,hc⟩:=he;exact wpAny_bind (wpAny_isInstance (T:="StopIteration") (b:=true) ⟨o,ho,hc⟩ isSubtype_stop (wpAny_pure (hQ _ hk)))
end
theorem lQ(l1 l2:Addr)(xs ys:Array Value):Meets (Builtin.«zip.__new__» ⟨[.type "zip",.ref l1,.ref l2],[]⟩) (fun _ R s=>s.heap.IsList l1 xs/\s.heap.IsList l2 ys/\R (.ok (.ret (.ref (s.heap.objs.size+4)))) {s with heap:=((((s.heap.push {cls:=.type "list_iterator",data:=.fields #[.ref l1,.int 0 0]}).push {cls:=.type "list_iterator",data:=.fields #[.ref l2,.int 0 0]}).push {cls:=.type "tuple",data:=.seq #[.ref s.heap.objs.size,.ref (s.heap.objs.size+1)]}).push {cls:=.type "tuple",data:=.seq #[.none,.none]}).push {cls:=.type "zip",data:=.fields #[.none,.bool false,.bool false,.ref (s.heap.objs.size+2),.ref (s.heap.objs.size+3)]}}):=.of_wp fun prog w A R s h=>by obtain⟨hp,g,d,tk,os⟩:=s;obtain⟨hl1,hl2,h⟩:=h;have hsub:=sub_zip;have hL1:Heap.IsList (Shared.heap ⟨hp,g,d,tk,os⟩) l1 xs:=hl1;have hL2:Heap.IsList (Shared.heap ⟨hp.push {cls:=.type "list_iterator",data:=.fields #[.ref l1,.int 0 0]},g,d,tk,os⟩) l2 ys:=Heap.IsList.push hl2 _;wp_walk using wpAny_pyIter_list hL1,wpAny_pyIter_list hL2;simp only[Heap.size_push]at*;exact⟨_,rfl,h⟩
section
variable{prog:Program}{w:World}{A:Around}{E:Value->Shared->Prop}{s:Shared}
theorem u9{l1 l2:Addr}{xs ys:Array Value}{Q:Value->Shared->Prop}(hl1:s.heap.IsList l1 xs)(hl2:s.heap.IsList l2 ys)(h:∀ h',IsZip h' (s.heap.objs.size+4) (s.heap.objs.size+2) (s.heap.objs.size+3) .none->IsPair h' (s.heap.objs.size+2) (.ref s.heap.objs.size) (.ref (s.heap.objs.size+1))->IsPair h' (s.heap.objs.size+3) .none .none->h'.IsListIter s.heap.objs.size l1 0->h'.IsListIter (s.heap.objs.size+1) l2 0->(∀c o,s.heap.get? c=some o->h'.get? c=some o)->Q (.ref (s.heap.objs.size+4)) {s with heap:=h'}):wpAny (model prog w) A (call (.type "zip") [.ref l1,.ref l2]) Q E s:=by
 refine callType_new F.called_zip (by decide) (F.typeCall_zip_2 _ _) (F.newCall_zip_2 _ _) (fun obj=>F.args_object_init_3 obj _ _) F.entry_zip_new (lQ l1 l2 xs ys) ⟨hl1,hl2,?_⟩;generalize e1:s.heap.push {cls:=.type "list_iterator",data:=.fields #[.ref l1,.int 0 0]}=t1;have n1:t1.objs.size=s.heap.objs.size+1:=by rw[<-e1,Heap.size_push]
 have a1:t1.get? s.heap.objs.size=some {cls:=.type "list_iterator",data:=.fields #[.ref l1,.int 0 0]}:=by rw[<-e1];exact Heap.get?_push_size _ rfl
 have k1:∀c o,s.heap.get? c=some o->t1.get? c=some o:=fun c o e=>by rw[<-e1];exact Heap.get?_push_of_some _ e
 generalize e2:t1.push {cls:=.type "list_iterator",data:=.fields #[.ref l2,.int 0 0]}=t2;have n2:t2.objs.size=s.heap.objs.size+2:=by rw[<-e2,Heap.size_push,n1]
 have a2:t2.get? (s.heap.objs.size+1)=some {cls:=.type "list_iterator",data:=.fields #[.ref l2,.int 0 0]}:=by rw[<-n1,<-e2];exact Heap.get?_push_size _ rfl
 have k2:∀c o,t1.get? c=some o->t2.get? c=some o:=fun c o e=>by rw[<-e2];exact Heap.get?_push_of_some _ e
 generalize e3:t2.push {cls:=.type "tuple",data:=.seq #[.ref s.heap.objs.size,.ref (s.heap.objs.size+1)]}=t3;have n3:t3.objs.size=s.heap.objs.size+3:=by rw[<-e3,Heap.size_push,n2]
 have a3:t3.get? (s.heap.objs.size+2)=some {cls:=.type "tuple",data:=.seq #[.ref s.heap.objs.size,.ref (s.heap.objs.size+1)]}:=by rw[<-n2,<-e3];exact Heap.get?_push_size _ rfl
 have k3:∀c o,t2.get? c=some o->t3.get? c=some o:=fun c o e=>by rw[<-e3];exact Heap.get?_push_of_some _ e
 generalize e4:t3.push {cls:=.type "tuple",data:=.seq #[.none,.none]}=t4;have n4:t4.objs.size=s.heap.objs.size+4:=by rw[<-e4,Heap.size_push,n3]
 have a4:t4.get? (s.heap.objs.size+3)=some {cls:=.type "tuple",data:=.seq #[.none,.none]}:=by rw[<-n3,<-e4];exact Heap.get?_push_size _ rfl
 have k4:∀c o,t3.get? c=some o->t4.get? c=some o:=fun c o e=>by rw[<-e4];exact Heap.get?_push_of_some _ e
 generalize e5:t4.push {cls:=.type "zip",data:=.fields #[.none,.bool false,.bool false,.ref (s.heap.objs.size+2),.ref (s.heap.objs.size+3)]}=t5;have a5:t5.get? (s.heap.objs.size+4)=some {cls:=.type "zip",data:=.fields #[.none,.bool false,.bool false,.ref (s.heap.objs.size+2),.ref (s.heap.objs.size+3)]}:=by rw[<-n4,<-e5];exact Heap.get?_push_size _ rfl
 have k5:∀c o,t4.get? c=some o->t5.get? c=some o:=fun c o e=>by rw[<-e5];exact Heap.get?_push_of_some _ e
 exact⟨⟨_,a5,rfl⟩,h t5 a5 (k5 _ _ (k4 _ _ a3)) (k5 _ _ a4) ⟨_,k5 _ _ (k4 _ _ (k3 _ _ (k2 _ _ a1))),rfl,rfl⟩ ⟨_,k5 _ _ (k4 _ _ (k3 _ _ a2)),rfl,rfl⟩ fun c o e=>k5 _ _ (k4 _ _ (k3 _ _ (k2 _ _ (k1 _ _ e))))⟩
end
theorem lK(l1 l2:Addr)(xs ys:Array Value):Meets (Builtin.«zip.__new__» ⟨[.type "zip",.ref l1,.ref l2],[]⟩) (fun _ R s=>s.heap.IsList l1 xs/\s.heap.IsTuple l2 ys/\R (.ok (.ret (.ref (s.heap.objs.size+4)))) {s with heap:=((((s.heap.push {cls:=.type "list_iterator",data:=.fields #[.ref l1,.int 0 0]}).push {cls:=.type "tuple_iterator",data:=.fields #[.ref l2,.int 0 0]}).push {cls:=.type "tuple",data:=.seq #[.ref s.heap.objs.size,.ref (s.heap.objs.size+1)]}).push {cls:=.type "tuple",data:=.seq #[.none,.none]}).push {cls:=.type "zip",data:=.fields #[.none,.bool false,.bool false,.ref (s.heap.objs.size+2),.ref (s.heap.objs.size+3)]}}):=.of_wp fun prog w A R s h=>by obtain⟨hp,g,d,tk,os⟩:=s;obtain⟨hl1,hl2,h⟩:=h;have hsub:=sub_zip;have hL1:Heap.IsList (Shared.heap ⟨hp,g,d,tk,os⟩) l1 xs:=hl1;have hL2:Heap.IsTuple (Shared.heap ⟨hp.push {cls:=.type "list_iterator",data:=.fields #[.ref l1,.int 0 0]},g,d,tk,os⟩) l2 ys:=Heap.IsTuple.push hl2 _;wp_walk using wpAny_pyIter_list hL1,wpAny_pyIter_tuple hL2;simp only[Heap.size_push]at*;exact⟨_,rfl,h⟩
section
variable{prog:Program}{w:World}{A:Around}{E:Value->Shared->Prop}{s:Shared}
theorem vA{l1 l2:Addr}{xs ys:Array Value}{Q:Value->Shared->Prop}(hl1:s.heap.IsList l1 xs)(hl2:s.heap.IsTuple l2 ys)(h:∀ h',IsZip h' (s.heap.objs.size+4) (s.heap.objs.size+2) (s.heap.objs.size+3) .none->IsPair h' (s.heap.objs.size+2) (.ref s.heap.objs.size) (.ref (s.heap.objs.size+1))->IsPair h' (s.heap.objs.size+3) .none .none->h'.IsListIter s.heap.objs.size l1 0->h'.IsTupleIter (s.heap.objs.size+1) l2 0->(∀c o,s.heap.get? c=some o->h'.get? c=some o)->Q (.ref (s.heap.objs.size+4)) {s with heap:=h'}):wpAny (model prog w) A (call (.type "zip") [.ref l1,.ref l2]) Q E s:=by
 refine callType_new F.called_zip (by decide) (F.typeCall_zip_2 _ _) (F.newCall_zip_2 _ _) (fun obj=>F.args_object_init_3 obj _ _) F.entry_zip_new (lK l1 l2 xs ys) ⟨hl1,hl2,?_⟩;generalize e1:s.heap.push {cls:=.type "list_iterator",data:=.fields #[.ref l1,.int 0 0]}=t1;have n1:t1.objs.size=s.heap.objs.size+1:=by rw[<-e1,Heap.size_push]
 have a1:t1.get? s.heap.objs.size=some {cls:=.type "list_iterator",data:=.fields #[.ref l1,.int 0 0]}:=by rw[<-e1];exact Heap.get?_push_size _ rfl
 have k1:∀c o,s.heap.get? c=some o->t1.get? c=some o:=fun c o e=>by rw[<-e1];exact Heap.get?_push_of_some _ e
 generalize e2:t1.push {cls:=.type "tuple_iterator",data:=.fields #[.ref l2,.int 0 0]}=t2;have n2:t2.objs.size=s.heap.objs.size+2:=by rw[<-e2,Heap.size_push,n1]
 have a2:t2.get? (s.heap.objs.size+1)=some {cls:=.type "tuple_iterator",data:=.fields #[.ref l2,.int 0 0]}:=by rw[<-n1,<-e2];exact Heap.get?_push_size _ rfl
 have k2:∀c o,t1.get? c=some o->t2.get? c=some o:=fun c o e=>by rw[<-e2];exact Heap.get?_push_of_some _ e
 generalize e3:t2.push {cls:=.type "tuple",data:=.seq #[.ref s.heap.objs.size,.ref (s.heap.objs.size+1)]}=t3;have n3:t3.objs.size=s.heap.objs.size+3:=by rw[<-e3,Heap.size_push,n2]
 have a3:t3.get? (s.heap.objs.size+2)=some {cls:=.type "tuple",data:=.seq #[.ref s.heap.objs.size,.ref (s.heap.objs.size+1)]}:=by rw[<-n2,<-e3];exact Heap.get?_push_size _ rfl
 have k3:∀c o,t2.get? c=some o->t3.get? c=some o:=fun c o e=>by rw[<-e3];exact Heap.get?_push_of_some _ e
 generalize e4:t3.push {cls:=.type "tuple",data:=.seq #[.none,.none]}=t4;have n4:t4.objs.size=s.heap.objs.size+4:=by rw[<-e4,Heap.size_push,n3]
 have a4:t4.get? (s.heap.objs.size+3)=some {cls:=.type "tuple",data:=.seq #[.none,.none]}:=by rw[<-n3,<-e4];exact Heap.get?_push_size _ rfl
 have k4:∀c o,t3.get? c=some o->t4.get? c=some o:=fun c o e=>by rw[<-e4];exact Heap.get?_push_of_some _ e
 generalize e5:t4.push {cls:=.type "zip",data:=.fields #[.none,.bool false,.bool false,.ref (s.heap.objs.size+2),.ref (s.heap.objs.size+3)]}=t5;have a5:t5.get? (s.heap.objs.size+4)=some {cls:=.type "zip",data:=.fields #[.none,.bool false,.bool false,.ref (s.heap.objs.size+2),.ref (s.heap.objs.size+3)]}:=by rw[<-n4,<-e5];exact Heap.get?_push_size _ rfl
 have k5:∀c o,t4.get? c=some o->t5.get? c=some o:=fun c o e=>by rw[<-e5];exact Heap.get?_push_of_some _ e
 exact⟨⟨_,a5,rfl⟩,h t5 a5 (k5 _ _ (k4 _ _ a3)) (k5 _ _ a4) ⟨_,k5 _ _ (k4 _ _ (k3 _ _ (k2 _ _ a1))),rfl,rfl⟩ ⟨_,k5 _ _ (k4 _ _ (k3 _ _ a2)),rfl,rfl⟩ fun c o e=>k5 _ _ (k4 _ _ (k3 _ _ (k2 _ _ (k1 _ _ e))))⟩
end
theorem lM(l1 l2:Addr)(xs ys:Array Value):Meets (Builtin.«zip.__new__» ⟨[.type "zip",.ref l1,.ref l2],[]⟩) (fun _ R s=>s.heap.IsTuple l1 xs/\s.heap.IsList l2 ys/\R (.ok (.ret (.ref (s.heap.objs.size+4)))) {s with heap:=((((s.heap.push {cls:=.type "tuple_iterator",data:=.fields #[.ref l1,.int 0 0]}).push {cls:=.type "list_iterator",data:=.fields #[.ref l2,.int 0 0]}).push {cls:=.type "tuple",data:=.seq #[.ref s.heap.objs.size,.ref (s.heap.objs.size+1)]}).push {cls:=.type "tuple",data:=.seq #[.none,.none]}).push {cls:=.type "zip",data:=.fields #[.none,.bool false,.bool false,.ref (s.heap.objs.size+2),.ref (s.heap.objs.size+3)]}}):=.of_wp fun prog w A R s h=>by obtain⟨hp,g,d,tk,os⟩:=s;obtain⟨hl1,hl2,h⟩:=h;have hsub:=sub_zip;have hL1:Heap.IsTuple (Shared.heap ⟨hp,g,d,tk,os⟩) l1 xs:=hl1;have hL2:Heap.IsList (Shared.heap ⟨hp.push {cls:=.type "tuple_iterator",data:=.fields #[.ref l1,.int 0 0]},g,d,tk,os⟩) l2 ys:=Heap.IsList.push hl2 _;wp_walk using wpAny_pyIter_tuple hL1,wpAny_pyIter_list hL2;simp only[Heap.size_push]at*;exact⟨_,rfl,h⟩
section
variable{prog:Program}{w:World}{A:Around}{E:Value->Shared->Prop}{s:Shared}
theorem vM{l1 l2:Addr}{xs ys:Array Value}{Q:Value->Shared->Prop}(hl1:s.heap.IsTuple l1 xs)(hl2:s.heap.IsList l2 ys)(h:∀ h',IsZip h' (s.heap.objs.size+4) (s.heap.objs.size+2) (s.heap.objs.size+3) .none->IsPair h' (s.heap.objs.size+2) (.ref s.heap.objs.size) (.ref (s.heap.objs.size+1))->IsPair h' (s.heap.objs.size+3) .none .none->h'.IsTupleIter s.heap.objs.size l1 0->h'.IsListIter (s.heap.objs.size+1) l2 0->(∀c o,s.heap.get? c=some o->h'.get? c=some o)->Q (.ref (s.heap.objs.size+4)) {s with heap:=h'}):wpAny (model prog w) A (call (.type "zip") [.ref l1,.ref l2]) Q E s:=by
 refine callType_new F.called_zip (by decide) (F.typeCall_zip_2 _ _) (F.newCall_zip_2 _ _) (fun obj=>F.args_object_init_3 obj _ _) F.entry_zip_new (lM l1 l2 xs ys) ⟨hl1,hl2,?_⟩;generalize e1:s.heap.push {cls:=.type "tuple_iterator",data:=.fields #[.ref l1,.int 0 0]}=t1;have n1:t1.objs.size=s.heap.objs.size+1:=by rw[<-e1,Heap.size_push]
 have a1:t1.get? s.heap.objs.size=some {cls:=.type "tuple_iterator",data:=.fields #[.ref l1,.int 0 0]}:=by rw[<-e1];exact Heap.get?_push_size _ rfl
 have k1:∀c o,s.heap.get? c=some o->t1.get? c=some o:=fun c o e=>by rw[<-e1];exact Heap.get?_push_of_some _ e
 generalize e2:t1.push {cls:=.type "list_iterator",data:=.fields #[.ref l2,.int 0 0]}=t2;have n2:t2.objs.size=s.heap.objs.size+2:=by rw[<-e2,Heap.size_push,n1]
 have a2:t2.get? (s.heap.objs.size+1)=some {cls:=.type "list_iterator",data:=.fields #[.ref l2,.int 0 0]}:=by rw[<-n1,<-e2];exact Heap.get?_push_size _ rfl
 have k2:∀c o,t1.get? c=some o->t2.get? c=some o:=fun c o e=>by rw[<-e2];exact Heap.get?_push_of_some _ e
 generalize e3:t2.push {cls:=.type "tuple",data:=.seq #[.ref s.heap.objs.size,.ref (s.heap.objs.size+1)]}=t3;have n3:t3.objs.size=s.heap.objs.size+3:=by rw[<-e3,Heap.size_push,n2]
 have a3:t3.get? (s.heap.objs.size+2)=some {cls:=.type "tuple",data:=.seq #[.ref s.heap.objs.size,.ref (s.heap.objs.size+1)]}:=by rw[<-n2,<-e3];exact Heap.get?_push_size _ rfl
 have k3:∀c o,t2.get? c=some o->t3.get? c=some o:=fun c o e=>by rw[<-e3];exact Heap.get?_push_of_some _ e
 generalize e4:t3.push {cls:=.type "tuple",data:=.seq #[.none,.none]}=t4;have n4:t4.objs.size=s.heap.objs.size+4:=by rw[<-e4,Heap.size_push,n3]
 have a4:t4.get? (s.heap.objs.size+3)=some {cls:=.type "tuple",data:=.seq #[.none,.none]}:=by rw[<-n3,<-e4];exact Heap.get?_push_size _ rfl
 have k4:∀c o,t3.get? c=some o->t4.get? c=some o:=fun c o e=>by rw[<-e4];exact Heap.get?_push_of_some _ e
 generalize e5:t4.push {cls:=.type "zip",data:=.fields #[.none,.bool false,.bool false,.ref (s.heap.objs.size+2),.ref (s.heap.objs.size+3)]}=t5;have a5:t5.get? (s.heap.objs.size+4)=some {cls:=.type "zip",data:=.fields #[.none,.bool false,.bool false,.ref (s.heap.objs.size+2),.ref (s.heap.objs.size+3)]}:=by rw[<-n4,<-e5];exact Heap.get?_push_size _ rfl
 have k5:∀c o,t4.get? c=some o->t5.get? c=some o:=fun c o e=>by rw[<-e5];exact Heap.get?_push_of_some _ e
 exact⟨⟨_,a5,rfl⟩,h t5 a5 (k5 _ _ (k4 _ _ a3)) (k5 _ _ a4) ⟨_,k5 _ _ (k4 _ _ (k3 _ _ (k2 _ _ a1))),rfl,rfl⟩ ⟨_,k5 _ _ (k4 _ _ (k3 _ _ a2)),rfl,rfl⟩ fun c o e=>k5 _ _ (k4 _ _ (k3 _ _ (k2 _ _ (k1 _ _ e))))⟩
end
theorem lW(l1 l2:Addr)(xs ys:Array Value):Meets (Builtin.«zip.__new__» ⟨[.type "zip",.ref l1,.ref l2],[]⟩) (fun _ R s=>s.heap.IsTuple l1 xs/\s.heap.IsTuple l2 ys/\R (.ok (.ret (.ref (s.heap.objs.size+4)))) {s with heap:=((((s.heap.push {cls:=.type "tuple_iterator",data:=.fields #[.ref l1,.int 0 0]}).push {cls:=.type "tuple_iterator",data:=.fields #[.ref l2,.int 0 0]}).push {cls:=.type "tuple",data:=.seq #[.ref s.heap.objs.size,.ref (s.heap.objs.size+1)]}).push {cls:=.type "tuple",data:=.seq #[.none,.none]}).push {cls:=.type "zip",data:=.fields #[.none,.bool false,.bool false,.ref (s.heap.objs.size+2),.ref (s.heap.objs.size+3)]}}):=.of_wp fun prog w A R s h=>by obtain⟨hp,g,d,tk,os⟩:=s;obtain⟨hl1,hl2,h⟩:=h;have hsub:=sub_zip;have hL1:Heap.IsTuple (Shared.heap ⟨hp,g,d,tk,os⟩) l1 xs:=hl1;have hL2:Heap.IsTuple (Shared.heap ⟨hp.push {cls:=.type "tuple_iterator",data:=.fields #[.ref l1,.int 0 0]},g,d,tk,os⟩) l2 ys:=Heap.IsTuple.push hl2 _;wp_walk using wpAny_pyIter_tuple hL1,wpAny_pyIter_tuple hL2;simp only[Heap.size_push]at*;exact⟨_,rfl,h⟩
section
variable{prog:Program}{w:World}{A:Around}{E:Value->Shared->Prop}{s:Shared}
theorem vz{l1 l2:Addr}{xs ys:Array Value}{Q:Value->Shared->Prop}(hl1:s.heap.IsTuple l1 xs)(hl2:s.heap.IsTuple l2 ys)(h:∀ h',IsZip h' (s.heap.objs.size+4) (s.heap.objs.size+2) (s.heap.objs.size+3) .none->IsPair h' (s.heap.objs.size+2) (.ref s.heap.objs.size) (.ref (s.heap.objs.size+1))->IsPair h' (s.heap.objs.size+3) .none .none->h'.IsTupleIter s.heap.objs.size l1 0->h'.IsTupleIter (s.heap.objs.size+1) l2 0->(∀c o,s.heap.get? c=some o->h'.get? c=some o)->Q (.ref (s.heap.objs.size+4)) {s with heap:=h'}):wpAny (model prog w) A (call (.type "zip") [.ref l1,.ref l2]) Q E s:=by
 refine callType_new F.called_zip (by decide) (F.typeCall_zip_2 _ _) (F.newCall_zip_2 _ _) (fun obj=>F.args_object_init_3 obj _ _) F.entry_zip_new (lW l1 l2 xs ys) ⟨hl1,hl2,?_⟩;generalize e1:s.heap.push {cls:=.type "tuple_iterator",data:=.fields #[.ref l1,.int 0 0]}=t1;have n1:t1.objs.size=s.heap.objs.size+1:=by rw[<-e1,Heap.size_push]
 have a1:t1.get? s.heap.objs.size=some {cls:=.type "tuple_iterator",data:=.fields #[.ref l1,.int 0 0]}:=by rw[<-e1];exact Heap.get?_push_size _ rfl
 have k1:∀c o,s.heap.get? c=some o->t1.get? c=some o:=fun c o e=>by rw[<-e1];exact Heap.get?_push_of_some _ e
 generalize e2:t1.push {cls:=.type "tuple_iterator",data:=.fields #[.ref l2,.int 0 0]}=t2;have n2:t2.objs.size=s.heap.objs.size+2:=by rw[<-e2,Heap.size_push,n1]
 have a2:t2.get? (s.heap.objs.size+1)=some {cls:=.type "tuple_iterator",data:=.fields #[.ref l2,.int 0 0]}:=by rw[<-n1,<-e2];exact Heap.get?_push_size _ rfl
 have k2:∀c o,t1.get? c=some o->t2.get? c=some o:=fun c o e=>by rw[<-e2];exact Heap.get?_push_of_some _ e
 generalize e3:t2.push {cls:=.type "tuple",data:=.seq #[.ref s.heap.objs.size,.ref (s.heap.objs.size+1)]}=t3;have n3:t3.objs.size=s.heap.objs.size+3:=by rw[<-e3,Heap.size_push,n2]
 have a3:t3.get? (s.heap.objs.size+2)=some {cls:=.type "tuple",data:=.seq #[.ref s.heap.objs.size,.ref (s.heap.objs.size+1)]}:=by rw[<-n2,<-e3];exact Heap.get?_push_size _ rfl
 have k3:∀c o,t2.get? c=some o->t3.get? c=some o:=fun c o e=>by rw[<-e3];exact Heap.get?_push_of_some _ e
 generalize e4:t3.push {cls:=.type "tuple",data:=.seq #[.none,.none]}=t4;have n4:t4.objs.size=s.heap.objs.size+4:=by rw[<-e4,Heap.size_push,n3]
 have a4:t4.get? (s.heap.objs.size+3)=some {cls:=.type "tuple",data:=.seq #[.none,.none]}:=by rw[<-n3,<-e4];exact Heap.get?_push_size _ rfl
 have k4:∀c o,t3.get? c=some o->t4.get? c=some o:=fun c o e=>by rw[<-e4];exact Heap.get?_push_of_some _ e
 generalize e5:t4.push {cls:=.type "zip",data:=.fields #[.none,.bool false,.bool false,.ref (s.heap.objs.size+2),.ref (s.heap.objs.size+3)]}=t5;have a5:t5.get? (s.heap.objs.size+4)=some {cls:=.type "zip",data:=.fields #[.none,.bool false,.bool false,.ref (s.heap.objs.size+2),.ref (s.heap.objs.size+3)]}:=by rw[<-n4,<-e5];exact Heap.get?_push_size _ rfl
 have k5:∀c o,t4.get? c=some o->t5.get? c=some o:=fun c o e=>by rw[<-e5];exact Heap.get?_push_of_some _ e
 exact⟨⟨_,a5,rfl⟩,h t5 a5 (k5 _ _ (k4 _ _ a3)) (k5 _ _ a4) ⟨_,k5 _ _ (k4 _ _ (k3 _ _ (k2 _ _ a1))),rfl,rfl⟩ ⟨_,k5 _ _ (k4 _ _ (k3 _ _ a2)),rfl,rfl⟩ fun c o e=>k5 _ _ (k4 _ _ (k3 _ _ (k2 _ _ (k1 _ _ e))))⟩
end
end PySem
end
section
namespace L2
open PySem PySem.Spec PyProof.Rows
noncomputable def Sq(t:Bool)(K:PySem.W.Frag)(H:Hp)(a:Addr)(xs:List V):Prop:=if t then gw K H a xs else dI K H a xs
noncomputable def O2(t:Bool)(h:Heap)(a:Addr)(xs:Array Value):Prop:=if t then h.IsTuple a xs else h.IsList a xs
noncomputable def zu(t:Bool)(h:Heap)(i a:Addr)(k:Nat):Prop:=if t then h.IsTupleIter i a k else h.IsListIter i a k
section
variable{X:Cx}{pins:List (Addr×Obj)}{σ:L2.St}{H:Hp}{s:Shared}
theorem Inv.sq{t:Bool}{a:Addr}{xs:List V}(I:Inv X pins σ H s)(h:Sq t X.K H a xs):∃its:List Value,Vals xs its/\O2 t s.heap a its.toArray:=by cases t with|true=>obtain⟨its,rv,pl,_⟩:=I.tuple h;exact⟨its,rv,pl⟩|false=>obtain⟨its,rv,pl,_⟩:=I.list h;exact⟨its,rv,pl.isList⟩
theorem Inv.CK{t:Bool}{a:Addr}{xs ys:List V}(I:Inv X pins σ H s)(h:Sq t X.K H a xs)(h':Sq t X.K H a ys):xs=ys:=by cases t with|true=>exact I.iM h h'|false=>exact I.jE h h'
theorem O2.lt{t:Bool}{h:Heap}{a:Addr}{xs:Array Value}(q:O2 t h a xs):a<h.objs.size:=by cases t with|true=>obtain⟨o,e,_⟩:=id q;exact Heap.lt_size e|false=>obtain⟨o,e,_⟩:=id q;exact Heap.lt_size e
theorem zu.obj{t:Bool}{h:Heap}{i a:Addr}{k:Nat}(q:zu t h i a k):∃o,h.get? i=some o/\∀v,o.data≠.cell v:=by cases t with|true=>obtain⟨o,h2,h3,h4⟩:=id q;exact⟨o,h2,fun v z=>by rw[h4]at z;cases z⟩|false=>obtain⟨o,h2,h3,h4⟩:=id q;exact⟨o,h2,fun v z=>by rw[h4]at z;cases z⟩
theorem zu.keep{t:Bool}{h h':Heap}{i a:Addr}{k:Nat}(q:zu t h i a k)(e:∀o,h.get? i=some o->h'.get? i=some o):zu t h' i a k:=by cases t with|true=>obtain⟨o,h2,r⟩:=id q;exact⟨o,e o h2,r⟩|false=>obtain⟨o,h2,r⟩:=id q;exact⟨o,e o h2,r⟩
theorem EY(t:Bool){prog:Program}{w:World}{A:Around}(hh:A.handled=none)(it l:Addr)(hne:l≠it)(items:Array Value):Nx prog w A it l (fun k h=>zu t h it l k/\O2 t h l items) (fun k=>items[k]?):=by cases t with|true=>exact Nx.tuple hh it l hne items|false=>exact Nx.list hh it l hne items
theorem Inv.Cy{ch:List Addr}{h':Heap}(I:Inv X pins σ H s)(k:∀b u,b∉ch->s.heap.get? b=some u->h'.get? b=some u)(hf:∀b∈ch,lB X pins H b):Inv X pins σ H {s with heap:=h'}:=by
 have uG:∀b u,H b=some u->b∉ch:=fun b u e hb=>by rw[(hf b hb).1]at e;cases e
 refine I.call (g':=s.gens) (d':=s.drawn) (t':=s.toks) (ch:=ch) ⟨fun b u e n _ hx=>k b u hx e,fun b u e n _ hx=>⟨u.slots,k b u hx e⟩,fun b u e n hx=>n,fun b u e hx=>⟨u,k b u hx e⟩,fun b xs e=>e,fun b ob u e=>e,fun b ps e=>⟨#[],by rw[e];simp⟩⟩ ?_ I.bare fun b hb=>⟨(hf b hb).2.2.2.1,(hf b hb).2.1,(hf b hb).2.2.2.2.1,(hf b hb).2.2.2.2.2⟩;intro b u e;refine(I.hok b u e).stay (fun c v hc q=>k c v ?_ q) (fun c q=>q) fun c xs q=>q;rcases hc with rfl|hc;.exact uG _ _ e
 .exact uG _ _ hc
end
noncomputable def RG(t1 t2:Bool)(K:PySem.W.Frag)(a b:Addr):It:=⟨fun i H=>∃ xs ys x y,Sq t1 K H a xs/\Sq t2 K H b ys/\xs[i]?=some x/\ys[i]?=some y,fun i H x H'=>∃T v w,H T=none/\x=.ref T/\H'=upd H T (.tup [v,w])/\(∀xs,Sq t1 K H a xs->xs[i]?=some v)/\∀ys,Sq t2 K H b ys->ys[i]?=some w,fun i H=>∃xs ys,Sq t1 K H a xs/\Sq t2 K H b ys/\(xs.length<=i\/ys.length<=i)⟩
theorem Dh{P:Program}{w:World}{K:PySem.W.Frag}{elts:List Expr}{x1}{tp:Pos}(t1 t2:Bool){z TI TO i1 i2 l1 l2:Addr}(D:ZipApart z TI TO i1 i2 l1 l2):Turn P w K (.Tuple elts x1 tp) (RG t1 t2 K l1 l2) [z,TI,TO,i1,i2] z (fun i h=>IsZip h z TI TO .none/\IsPair h TI (.ref i1) (.ref i2)/\(∃a b,IsPair h TO a b)/\zu t1 h i1 l1 i/\zu t2 h i2 l2 i)where
 mem:=by simp
 obj:=fun i h st b hb=>by
  obtain⟨h1,h2,⟨u,v,h3⟩,h4,h5⟩:=st;simp only[List.mem_cons,List.not_mem_nil,or_false]at hb;rcases hb with rfl|rfl|rfl|rfl|rfl;.exact⟨_,h1,fun v z=>by cases z⟩
  .exact⟨_,h2,fun v z=>by cases z⟩
  .exact⟨_,h3,fun v z=>by cases z⟩
  .exact h4.obj
  .exact h5.obj
 keep:=fun i h h' st k=>by obtain⟨h1,h2,⟨u,v,h3⟩,h4,h5⟩:=st;exact⟨k z (by simp) _ h1,k TI (by simp) _ h2,⟨u,v,k TO (by simp) _ h3⟩,h4.keep (k i1 (by simp)),h5.keep (k i2 (by simp))⟩
 item:=fun X hP hw hK hc i pins s σ H E I hf st go=>by
  subst hP hw hK;obtain⟨h1,h2,⟨u,v,h3⟩,h4,h5⟩:=st;obtain⟨xs,ys,x,y,hq1,hq2,hx,hy⟩:=go;obtain⟨HD,Wj,Qs⟩:=I.sq hq1;obtain⟨its2,NB,Jq⟩:=I.sq hq2;obtain⟨ux,hu1,hu2⟩:=Wj.get hx;obtain⟨uy,hw1,hw2⟩:=NB.get hy;have hh:X.A.in1.handled=none:=I.ok.hd hc;refine lA D (EY t1 hh i1 l1 D.l1i1 HD.toArray) (EY t2 hh i2 l2 D.l2i2 its2.toArray) h1 h2 h3 (k:=i) ⟨h4,Qs⟩ ⟨h5,Jq⟩ (x:=ux) (y:=uy) (by simpa using hu1) (by simpa using hw1) fun h' z1 p1 s1 s2 pT hsz kp=>?_;refine⟨_,rfl,wpAny_letOwnedTupleGo_zip z1 fun h'' z2 sb=>?_⟩;have hlt:∀b∈[z,TI,TO,i1,i2],b≠s.heap.objs.size:=fun b hb=>by
   simp only[List.mem_cons,List.not_mem_nil,or_false]at hb;rcases hb with rfl|rfl|rfl|rfl|rfl;.exact Nat.ne_of_lt (Heap.lt_size h1)
   .exact Nat.ne_of_lt (Heap.lt_size h2)
   .exact Nat.ne_of_lt (Heap.lt_size h3)
   .exact Nat.ne_of_lt (Heap.lt_size h4.obj.choose_spec.1)
   .exact Nat.ne_of_lt (Heap.lt_size h5.obj.choose_spec.1)
  have Qq:∀b o,b∉[z,TO,i1,i2]->s.heap.get? b=some o->h''.get? b=some o:=fun b o hb q=>by simp only[List.mem_cons,List.not_mem_nil,or_false,not_or]at hb;exact sb.extBut b o hb.1 (kp b o hb.1 hb.2.1 hb.2.2.1 hb.2.2.2 q)
  have pT2:IsPair h'' s.heap.objs.size ux uy:=sb.extBut _ _ (hlt z (by simp)).symm pT;have p2:IsPair h'' TO ux uy:=sb.extBut _ _ D.TOz p1;have j1:zu t1 h'' i1 l1 (i+1):=s1.1.keep fun o e=>sb.extBut _ _ D.i1z e;have j2:zu t2 h'' i2 l2 (i+1):=s2.1.keep fun o e=>sb.extBut _ _ D.i2z e;refine⟨.ref s.heap.objs.size,upd H s.heap.objs.size (.tup [x,y]),?_,rfl,⟨_,x,y,I.fresh,rfl,rfl,fun zs hz=>?_,fun zs hz=>?_⟩,⟨z2,Qq TI _ ?_ h2,⟨_,_,p2⟩,j1,j2⟩,fun b hb=>?_⟩
  . refine I.uM (ch:=[z,TO,i1,i2]) (t':=s.toks) Qq (fun b hb=>?_) (fun b hb=>hf b ?_) ⟨(by show 2<=sizeLine;decide),[ux,uy],.cons hu2 (.cons hw2 .nil),⟨_,pT2,rfl,_,rfl⟩⟩
    . simp only[List.mem_cons,List.not_mem_nil,or_false]at hb;rcases hb with rfl|rfl|rfl|rfl;.exact⟨_,z2⟩
      .exact⟨_,p2⟩
      .exact⟨_,j1.obj.choose_spec.1⟩
      .exact⟨_,j2.obj.choose_spec.1⟩
    .simp only[List.mem_cons,List.not_mem_nil,or_false]at hb ⊢;rcases hb with h|h|h|h<;>simp[h]
  .rw[I.CK hz hq1];exact hx
  .rw[I.CK hz hq2];exact hy
  .simp[D.TIz,D.TITO,D.TIi1,D.TIi2]
  .rw[aJ (hlt b hb)];exact(hf b hb).1
 done:=fun X hP hw hK hc i pins s σ H E I hf st stop=>by
  subst hP hw hK;obtain⟨h1,h2,⟨u,v,h3⟩,h4,h5⟩:=st;obtain⟨xs,ys,hq1,hq2,hx⟩:=stop;obtain⟨HD,Wj,Qs⟩:=I.sq hq1;obtain⟨its2,NB,Jq⟩:=I.sq hq2;have hh:X.A.in1.handled=none:=I.ok.hd hc;refine lN D (EY t1 hh i1 l1 D.l1i1 HD.toArray) (EY t2 hh i2 l2 D.l2i2 its2.toArray) h1 h2 h3 (k:=i) ⟨h4,Qs⟩ ⟨h5,Jq⟩ ?_ fun h' kp=>⟨rfl,?_⟩
  . rcases hx with hx|hx;.left;rw[Wj.length]at hx;simpa using hx
    .right;rw[NB.length]at hx;simpa using hx
  .exact I.Cy (ch:=[z,TO,i1,i2]) (fun b u hb q=>by simp only[List.mem_cons,List.not_mem_nil,or_false,not_or]at hb;exact kp b u hb.1 hb.2.1 hb.2.2.1 hb.2.2.2 q) fun b hb=>hf b (by simp only[List.mem_cons,List.not_mem_nil,or_false]at hb ⊢;rcases hb with h|h|h|h<;>simp[h])
 self:=fun A i s Q E st q=>wpAny_pyIter_zip st.1 q
section
variable{X:Cx}{elts:List Expr}{x1:Nat}{tp:Pos}
theorem yx{prog:Program}{w:World}{A:Around}{E:Value->Shared->Prop}{s:Shared}(t1 t2:Bool){l1 l2:Addr}{xs ys:Array Value}{Q:Value->Shared->Prop}(hl1:O2 t1 s.heap l1 xs)(hl2:O2 t2 s.heap l2 ys)(h:∀ h',IsZip h' (s.heap.objs.size+4) (s.heap.objs.size+2) (s.heap.objs.size+3) .none->IsPair h' (s.heap.objs.size+2) (.ref s.heap.objs.size) (.ref (s.heap.objs.size+1))->IsPair h' (s.heap.objs.size+3) .none .none->zu t1 h' s.heap.objs.size l1 0->zu t2 h' (s.heap.objs.size+1) l2 0->(∀c o,s.heap.get? c=some o->h'.get? c=some o)->Q (.ref (s.heap.objs.size+4)) {s with heap:=h'}):wpAny (model prog w) A (call (.type "zip") [.ref l1,.ref l2]) Q E s:=by
 cases t1<;>cases t2;.exact u9 hl1 hl2 h
 .exact vA hl1 hl2 h
 .exact vM hl1 hl2 h
 .exact vz hl1 hl2 h
theorem K4{n l m:Nat}(h1:l<n)(h2:m<n):ZipApart (n+4) (n+2) (n+3) n (n+1) l m:=by constructor<;>exact fun h=>absurd (show(_:Nat)=_ from h) (by omega)
noncomputable def YH(K:PySem.W.Frag)(R:It->Hp->Prop)(vs:List V)(H1:Hp):Prop:=∃t1 t2 a b,vs=[.ref a,.ref b]/\(∃xs,Sq t1 K H1 a xs)/\(∃ys,Sq t2 K H1 b ys)/\R (RG t1 t2 K a b) H1
noncomputable def Zd(K:PySem.W.Frag)(ta:TA):TI:=fun σ H R=>ta σ H (YH K R)
theorem boot_zip:bootBuiltins "zip"=some (.type "zip"):=by decide+kernel
theorem Mj{a b:Expr}{ta:TA}{p pos:Pos}(hg:Gl X "zip")(hm:X.mg "zip"=none)(ha:PA X [a,b] ta)(hs:starEach [a,b] X.env=[(false,eval a X.env),(false,eval b X.env)]:=by rfl)(hs2:starEach [b] X.env=[(false,eval b X.env)]:=by rfl):PI X (.Tuple elts x1 tp) (.Call (.Name "zip" p) [a,b] [] pos) (Zd X.K ta):=by
 intro pins s σ H R I h;refine Call_ (kI I hg hm boot_zip (PyProof.Rows.callWith_type1 (dq (ha pos pins s σ H _ I h) ?_) (by rw[hs,hs2]) (by rw[hs2];rfl)));rintro us s1⟨vs,H1,I1,r1,q1⟩;obtain⟨t1,t2,l1,l2,rfl,⟨xs,hq1⟩,⟨ys,hq2⟩,q⟩:=q1;obtain⟨u,v,rfl,ru,rv⟩:=r1.two;cases ru;cases rv;obtain⟨HD,Wj,Qs⟩:=I1.sq hq1;obtain⟨its2,NB,Jq⟩:=I1.sq hq2;have b1:=Qs.lt;have b2:=Jq.lt;refine yx t1 t2 Qs Jq fun h' z0 p0 o0 j1 j2 kp=>?_;have D:ZipApart (s1.heap.objs.size+4) (s1.heap.objs.size+2) (s1.heap.objs.size+3) s1.heap.objs.size (s1.heap.objs.size+1) l1 l2:=K4 b1 b2;refine wpAny_pyIter_zip z0 ⟨_,_,_,_,H1,rfl,I1.kept (t':=s1.toks) kp,Dh t1 t2 D,⟨z0,p0,⟨_,_,o0⟩,j1,j2⟩,fun b hb=>?_,q⟩;have hb':s1.heap.objs.size<=b:=by simp only[List.mem_cons,List.not_mem_nil,or_false]at hb;rcases hb with rfl|rfl|rfl|rfl|rfl<;>first|exact Nat.le_add_right _ _|exact Nat.le_refl _
 exact I1.yg hb' (I1.hok.fresh hb')
end
end L2
namespace HH
open PySem L2 PySem.Spec PyProof.Rows
section
variable{K:PySem.W.Frag}{F F1 H H1:Hp}{ρ ρ1:List Sl}{σ:L2.St}{ds es:List D}{a b:Addr}
theorem aF.sq{t:Bool}{xs:List V}(e:aF F H)(h:Sq t K F a xs):Sq t K H a xs:=by cases t with|true=>exact aF.fU e h|false=>exact e.seq h
theorem pP{t1 t2:Bool}{xs ys:List V}{F' H':Hp}(hq1:Sq t1 K H' a xs)(hq2:Sq t2 K H' b ys)(r1:aD K F' xs ds)(r2:aD K F' ys es)(s:aF F' H')(k:Nat):(∀d,((ds.zip es).map fun p=>D.tup [p.1,p.2])[k]?=some d->(RG t1 t2 K a b).go k H'/\∀x j8,(RG t1 t2 K a b).DW k H' x j8->∃F'',Ext F' H' F'' j8/\Rep K F'' x d)/\(((ds.zip es).map fun p=>D.tup [p.1,p.2]).length<=k->(RG t1 t2 K a b).stop k H'):=by refine⟨fun d hd=>?_,fun h=>⟨xs,ys,hq1,hq2,by rw[r1.length,r2.length];rw[List.length_map,List.length_zip]at h;omega⟩⟩;rw[List.getElem?_map]at hd;obtain⟨⟨d0,d1⟩,e1,e2⟩:=map_some hd;subst e2;obtain⟨f1,f2⟩:=List.getElem?_zip_eq_some.mp e1;obtain⟨w,h1,h2⟩:=r1.get f1;obtain⟨w',h1',h2'⟩:=r2.get f2;refine⟨⟨xs,ys,w,w',hq1,hq2,h1,h1'⟩,?_⟩;rintro x j8⟨T,v,v',hT,hx,hH,y,y'⟩;subst hx;subst hH;have:=y xs hq1;rw[h1]at this;cases this;have:=y' ys hq2;rw[h1']at this;cases this;exact nA s hT h2 h2'
theorem Cz{v:V}{d:D}{ds:List D}(h:Rep K F v d)(e:items d=some ds):∃t a xs,v=.ref a/\Sq t K F a xs/\aD K F xs ds:=by cases d with|tup es=>cases e;rw[Rep]at h;obtain⟨a,xs,rfl,h1,h2⟩:=h;exact⟨true,a,xs,rfl,h1,h2⟩|lst es=>cases e;rw[Rep]at h;obtain⟨a,xs,rfl,h1,h2⟩:=h;exact⟨false,a,xs,rfl,h1,h2⟩|_=>cases e
end
end HH
end
section
namespace HH
open PySem L2 PySem.Spec PyProof.Rows
structure dN(K:PySem.W.Frag)(x:Str)(st:Stmt):Prop where ex:∃f fd,PySem.W.nsIn K mainGlobals x=some (some (.ref f))/\nY K x x st f fd
section
variable{Pg:Program}{w:World}{K:PySem.W.Frag}{mg:Str->Option Value}{base h:Heap}
theorem dX{x:Str}{st:Stmt}{f:Addr}{oc:Value}{od an:Option Addr}{osl:Array (Option Value)}{kV doc pm cdv ct:Value}(a:PySem.W.nsIn K mainGlobals x=some (some (.ref f)))(l:K.lookup f=some ⟨oc,od,.func (PySem.W.fnOf x x (eH st) (cR st) (aG st) .none kV doc pm an cdv ct),osl⟩)(c:PySem.W.codeIn K cdv x=true)(k:PySem.W.keepIn K (.ref f)=true):dN K x st:=⟨_,_,a,Le l c k⟩
theorem gF{Γ:Tab}{wl i np:Nat}{x:Str}{st:Stmt}{ps:List Str}(X:K.In h)(G:h.Ns mainGlobals mg)(D:dN K x st)(hp:ps.length=np)(hb:∀(kV doc pm:Value)(an:Option Addr)(cdv ct:Value)(us:List Value),us.length=ps.length->bindArgs (PySem.W.fnOf x x (eH st) (cR st) (aG st) .none kV doc pm an cdv ct) ⟨us,[]⟩=pure (ps.zip us)):aV Pg w K mg base 0 (run Γ wl 0) i x np:=by obtain⟨f,fd,a,F⟩:=D.ex;exact⟨f,fd,ps,⟨fun vs H Q E s=>s.1,fun A outer s H args us vs Q E hr e b v sp=>by obtain⟨_,F,as,r,as',_,z,_⟩:=sp;cases z⟩,PySem.W.mg_of X G a,F.kp,F.binds hb,hp⟩
theorem gH{Γ:Tab}{wl n i np:Nat}{x:Str}{st:Stmt}{ps:List Str}{d:Fd}(X:K.In h)(G:h.Ns mainGlobals mg)(D:dN K x st)(hp:ps.length=np)(hΓ:Γ i=some d)(hb:∀(kV doc pm:Value)(an:Option Addr)(cdv ct:Value)(us:List Value),us.length=ps.length->bindArgs (PySem.W.fnOf x x (eH st) (cR st) (aG st) .none kV doc pm an cdv ct) ⟨us,[]⟩=pure (ps.zip us))(ok:∀f fd,nY K x x st f fd->dw Pg w K mg base oM (n+1) f fd ps (oX K np (fun args=>enter (run Γ wl n) wl d args))):aV Pg w K mg base (n+1) (run Γ wl (n+1)) i x np:=by
 obtain⟨f,fd,a,F⟩:=D.ex;refine⟨f,fd,ps,?_,PySem.W.mg_of X G a,F.kp,F.binds hb,hp⟩;have e:run Γ wl (n+1) i=fun args=>enter (run Γ wl n) wl d args:=by funext args;show(match Γ i with|some d=>enter (run Γ wl n) wl d args|none=>.stuck)=_;rw[hΓ]
 rw[e,hp];exact ok f fd F
theorem o5{F:Hp}:∀ns:List Int,aD K F (ns.map V.int) (ns.map D.int)|[]=>.nil|n::ns=>.cons (dD n) (o5 ns)
theorem yr{H:Hp}{a:Addr}{ns:List Int}{g:List Sl->Res R}{as:List Sl}(hS:dI K H a (ns.map V.int))(hr:g [.val false (.lst (ns.map D.int))]=.ok (.val (.bl true)) as):oX K 1 g [.ref a] H (fun v _=>v=.bl true) fun _ _ _=>False:=by
 refine⟨rfl,H,_,_,as,⟨.refl _,rfl,fun i b d e=>?_,fun i s ds e e'=>?_,fun i j c h=>?_⟩,hr,fun v F' σ' H' s rr=>?_⟩;.match i,e with|0,e=>cases e;refine⟨.ref a,rfl,?_⟩;rw[Rep];exact⟨a,_,rfl,hS,o5 ns⟩|i+1,e=>simp at e
 .match i,e with|0,e=>cases e;cases e'|i+1,e=>simp at e
 .obtain⟨⟨s,ds,e,e'⟩,_⟩:=h;match i,e with|0,e=>cases e;cases e'|i+1,e=>simp at e
 .have rr:Rep K F' v (.bl true):=rr;rw[Rep]at rr;exact rr
end
end HH
end
section
namespace HH
open PySem
noncomputable def Res.sat{α:Type}(Q:α->List Sl->Prop)(x:Res α):Prop:=match x with|.ok a ρ=>Q a ρ|.exc _ _=>False|.stuck=>False
section
variable{α β:Type}{Q Q':α->List Sl->Prop}
@[simp]theorem Ng{a:α}{ρ:List Sl}:(Res.ok a ρ).sat Q=Q a ρ:=rfl
@[simp]theorem Vc{k:Nat}{ρ:List Sl}:(Res.exc k ρ:Res α).sat Q=False:=rfl
@[simp]theorem Oa:(Res.stuck:Res α).sat Q=False:=rfl
theorem bI{x:Res β}{f:β->List Sl->Res α}:(x.bind f).sat Q=x.sat fun a ρ=>(f a ρ).sat Q:=by cases x<;>rfl
@[simp]theorem Vy{p:Prop}[Decidable p]{x y:Res α}:(if p then x else y).sat Q=((p->x.sat Q)/\(¬ p->y.sat Q)):=by by_cases h:p<;>simp[h]
@[simp]theorem DG{a:α}{ρ:List Sl}:(lift (some a) ρ).sat Q=Q a ρ:=rfl
@[simp]theorem DN{ρ:List Sl}:(lift (none:Option α) ρ).sat Q=False:=rfl
@[simp]theorem Hn{p:Prop}[Decidable p]{a:α}{ρ:List Sl}:(lift (if p then some a else none) ρ).sat Q=(p/\Q a ρ):=by by_cases h:p<;>simp[h]
theorem Res.sat.imp{x:Res α}(h:x.sat Q)(k:∀a ρ,Q a ρ->Q' a ρ):x.sat Q':=by cases x with|ok a ρ=>exact k a ρ h|exc _ _=>exact h|stuck=>exact h
theorem sat_iff{x:Res α}:x.sat Q↔∃a ρ,x=.ok a ρ/\Q a ρ:=by cases x with|ok a ρ=>exact⟨fun h=>⟨a,ρ,rfl,h⟩,fun⟨_,_,e,h⟩=>by cases e;exact h⟩|exc _ _=>exact⟨fun h=>h.elim,fun⟨_,_,e,_⟩=>by cases e⟩|stuck=>exact⟨fun h=>h.elim,fun⟨_,_,e,_⟩=>by cases e⟩
end
theorem Qe{α:Type}{x y:Res α}{Q:α->List Sl->Prop}(h:x=y):x.sat Q=y.sat Q:=by rw[h]
theorem bind_congr{α β:Type}{x y:Res α}{f:α->List Sl->Res β}(h:x=y):x.bind f=y.bind f:=by rw[h]
noncomputable def fr:Sl->Bool|.bC=>true|.val b _=>!b|.own b _=>!b|.lent _=>false|.j7 _=>false|.iZ _=>false|.hold _=>false
@[simp]theorem YZ:fr .bC=true:=rfl
@[simp]theorem XF{b:Bool}{d:D}:fr (.val b d)=!b:=rfl
@[simp]theorem WD{b:Bool}{d:List D}:fr (.own b d)=!b:=rfl
@[simp]theorem U9{d:List D}:fr (.lent d)=false:=rfl
theorem KR(ρ:List Sl)(i:Nat)(s:Sl):put ρ i s=match ρ[i]?with|some t=>if fr t=true then some (ρ.set i s)else none|none=>none:=by unfold put;cases h:ρ[i]?with|none=>rfl|some t=>cases t with|bC=>rfl|val b d=>cases b<;>rfl|own b d=>cases b<;>rfl|lent d=>rfl|j7 m=>rfl|iZ m=>rfl|hold m=>rfl
theorem tV{Γ:Tab}{w n i:Nat}{d:Fd}{args:List Sl}(h:Γ i=some d):run Γ w (n+1) i args=enter (run Γ w n) w d args:=by rw[run,h]
noncomputable def fin(np:Nat):Fl->List Sl->Option (R×List Sl)|.next,ρ=>some (.val .non,ρ.take np)|.ret r,ρ=>some (r,ρ.take np)|_,_=>none
noncomputable def eQ(np:Nat)(Q:R->List Sl->Prop)(fl:Fl)(ρ:List Sl):Prop:=match fl with|.next=>Q (.val .non) (ρ.take np)|.ret r=>Q r (ρ.take np)|_=>False
noncomputable def sQ(c:Call)(n:Nat)(r:List S)(Q:Fl->List Sl->Prop)(fl:Fl)(ρ:List Sl):Prop:=match fl with|.next=>(cG c n r ρ).sat Q|fl=>Q fl ρ
noncomputable def fQ(J:List Sl->Prop)(Q:Fl->List Sl->Prop)(fl:Fl)(ρ:List Sl):Prop:=match fl with|.next=>J ρ|.cont=>J ρ|.brk=>Q .next ρ|.ret v=>Q (.ret v) ρ
section
variable{np:Nat}{Q:R->List Sl->Prop}{ρ:List Sl}{v:R}{c:Call}{n:Nat}{r:List S}{Q':Fl->List Sl->Prop}{J:List Sl->Prop}
@[simp]theorem Vt:eQ np Q .next ρ=Q (.val .non) (ρ.take np):=rfl
@[simp]theorem Yu:eQ np Q (.ret v) ρ=Q v (ρ.take np):=rfl
@[simp]theorem YF:eQ np Q .brk ρ=False:=rfl
@[simp]theorem V7:eQ np Q .cont ρ=False:=rfl
@[simp]theorem Vr:sQ c n r Q' .next ρ=(cG c n r ρ).sat Q':=rfl
@[simp]theorem Ww:sQ c n r Q' (.ret v) ρ=Q' (.ret v) ρ:=rfl
@[simp]theorem Xq:sQ c n r Q' .brk ρ=Q' .brk ρ:=rfl
@[simp]theorem Vn:sQ c n r Q' .cont ρ=Q' .cont ρ:=rfl
@[simp]theorem VV:fQ J Q' .next ρ=J ρ:=rfl
@[simp]theorem Vi:fQ J Q' .cont ρ=J ρ:=rfl
@[simp]theorem Yb:fQ J Q' .brk ρ=Q' .next ρ:=rfl
@[simp]theorem XR:fQ J Q' (.ret v) ρ=Q' (.ret v) ρ:=rfl
end
theorem yj{c:Call}{n:Nat}{d:Fd}{args:List Sl}{Q:R->List Sl->Prop}(hl:args.length=d.np)(hd:d.np<=d.nn)(h:(cG c n d.body (args++List.replicate (d.nn-d.np) .bC)).sat (eQ d.np Q)):(enter c n d args).sat Q:=by unfold enter;rw[if_pos ⟨hl,hd⟩];revert h;cases cG c n d.body (args++List.replicate (d.nn-d.np) .bC)with|stuck=>exact fun h=>False.elim h|exc _ _=>exact fun h=>False.elim h|ok fl ρ=>cases fl<;>first|exact id|exact fun h=>False.elim h
theorem cC{Γ:Tab}{w n i:Nat}{d:Fd}{args:List Sl}{Q:R->List Sl->Prop}(hΓ:Γ i=some d)(hl:args.length=d.np)(hd:d.np<=d.nn)(h:(cG (run Γ w n) w d.body (args++List.replicate (d.nn-d.np) .bC)).sat (eQ d.np Q)):(run Γ w (n+1) i args).sat Q:=by rw[tV hΓ];exact yj hl hd h
theorem ak{c:Call}{n:Nat}{s:S}{r:List S}{ρ:List Sl}{Q:Fl->List Sl->Prop}(h:(ex c n s ρ).sat (sQ c n r Q)):(cG c n (s::r) ρ).sat Q:=by rw[cG,bI];refine h.imp fun fl ρ' q=>?_;cases fl<;>exact q
theorem aq{c:Call}{n:Nat}{s:S}{r:List S}{ρ:List Sl}{Q:Fl->List Sl->Prop}(h:(ex c n s ρ).sat (sQ c n r Q)):sQ c n (s::r) Q .next ρ:=ak h
@[simp]theorem U8{c:Call}{n:Nat}{ρ:List Sl}{Q:Fl->List Sl->Prop}:(cG c n [] ρ).sat Q=Q .next ρ:=by rw[cG];rfl
theorem gA{c:Call}{n:Nat}{s:S}{r:List S}{ρ:List Sl}{Q:Fl->List Sl->Prop}(M:List Sl->Prop)(h:(ex c n s ρ).sat fun fl ρ'=>fl=.next/\M ρ')(k:∀ρ',M ρ'->(cG c n r ρ').sat Q):(cG c n (s::r) ρ).sat Q:=ak (h.imp fun fl ρ'⟨e,q⟩=>by subst e;exact k ρ' q)
theorem eV{is:List Nat}{one:Bool}{body:List Sl->Res Fl}(J:List D->List Sl->Prop){Q:Fl->List Sl->Prop}(hb:∀d r ρ,J (d::r) ρ->∃ρ1,bW ρ is one d=some ρ1/\(body ρ1).sat (fQ (J r) Q))(hq:∀ρ,J [] ρ->Q .next ρ):∀{ds:List D}{ρ:List Sl},J ds ρ->(kj is one body ds ρ).sat Q|[],ρ,j=>hq ρ j|d::r,ρ,j=>by obtain⟨ρ1,e,h⟩:=hb d r ρ j;rw[kj,e];show((body ρ1).bind _).sat Q;rw[bI];refine h.imp fun fl ρ2 q=>?_;cases fl with|next=>exact eV J hb hq q|cont=>exact eV J hb hq q|brk=>exact q|ret v=>exact q
theorem iz{is:List Nat}{one:Bool}{test:List Sl->Res Bool}{elt:Ev}(J:List Sl->Prop)(g:D->Option D){Q:List D->List Sl->Prop}:∀{ds acc:List D}{ρ:List Sl},J ρ->(∀ d,d ∈ ds->∀ ρ,J ρ->∃ ρ1,bW ρ is one d=some ρ1/\(test ρ1).sat fun b ρ2=>if b=true then(elt ρ2).sat fun r ρ3=>g d=some r.d/\J ρ3 else g d=none/\J ρ2)->(∀ ρ,J ρ->Q (acc++ds.filterMap g) ρ)->(turns is one test elt ds acc ρ).sat Q|[],acc,ρ,j,h,k=>by rw[turns];simpa using k ρ j|d::r,acc,ρ,j,h,k=>by obtain⟨ρ1,e,h1⟩:=h d (by simp) ρ j;rw[turns,e];show((test ρ1).bind _).sat Q;rw[bI];refine h1.imp fun b ρ2 q=>?_;cases b with|true=>rw[if_pos rfl]at q;rw[if_pos rfl,bI];refine q.imp fun x ρ3⟨e1,j3⟩=>?_;refine iz J g j3 (fun d' hd'=>h d' (by simp[hd'])) fun ρ' j'=>?_;have:=k ρ' j';rw[List.filterMap_cons,e1]at this;rw[List.append_assoc];exact this|false=>rw[if_neg (by simp)]at q;rw[if_neg (by simp)];refine iz J g q.2 (fun d' hd'=>h d' (by simp[hd'])) fun ρ' j'=>?_;have:=k ρ' j';rw[List.filterMap_cons,q.1]at this;exact this
theorem uU{is:List Nat}{one:Bool}{elt:Ev}{c:Call}(J:List Sl->Prop)(g:D->D){Q:List D->List Sl->Prop}{ds:List D}{ρ:List Sl}(j:J ρ)(h:∀d,d∈ds->∀ρ,J ρ->∃ρ1,bW ρ is one d=some ρ1/\(elt ρ1).sat fun r ρ3=>g d=r.d/\J ρ3)(k:∀ρ,J ρ->Q (ds.map g) ρ):(turns is one (mY c none) elt ds [] ρ).sat Q:=iz J (fun d=>some (g d)) j (fun d hd ρ j=>by obtain⟨ρ1,e,h1⟩:=h d hd ρ j;refine⟨ρ1,e,?_⟩;rw[mY,Ng,if_pos rfl];exact h1.imp fun r ρ3 q=>⟨by rw[q.1],q.2⟩) fun ρ j=>by simpa using k ρ j
section
variable{ρ l:List Sl}{a:Sl}{i j:Int}{k m:Nat}{b b':Bool}{s:Str}{d:D}{ds es:List D}{e f:Ev}{x:Option Sl}{c:Call}
@[simp]theorem Nh:bQ .int .non=false:=rfl
@[simp]theorem Ph:bQ .int (.bl b)=true:=rfl
@[simp]theorem KY:bQ .int (.int i)=true:=rfl
@[simp]theorem Mh:bQ .int (.str s)=false:=rfl
@[simp]theorem M3:bQ .int (.tup ds)=false:=rfl
@[simp]theorem Lj:bQ .int (.lst ds)=false:=rfl
@[simp]theorem Ik:bQ .bool .non=false:=rfl
@[simp]theorem JW:bQ .bool (.bl b)=true:=rfl
@[simp]theorem Il:bQ .bool (.int i)=false:=rfl
@[simp]theorem Ig:bQ .bool (.str s)=false:=rfl
@[simp]theorem Io:bQ .bool (.tup ds)=false:=rfl
@[simp]theorem Ii:bQ .bool (.lst ds)=false:=rfl
@[simp]theorem Kf:bQ .str .non=false:=rfl
@[simp]theorem Pu:bQ .str (.bl b)=false:=rfl
@[simp]theorem J4:bQ .str (.int i)=false:=rfl
@[simp]theorem KC:bQ .str (.str s)=true:=rfl
@[simp]theorem LC:bQ .str (.tup ds)=false:=rfl
@[simp]theorem J9:bQ .str (.lst ds)=false:=rfl
@[simp]theorem Fo:bQ .tuple .non=false:=rfl
@[simp]theorem Jc:bQ .tuple (.bl b)=false:=rfl
@[simp]theorem FQ:bQ .tuple (.int i)=false:=rfl
@[simp]theorem GJ:bQ .tuple (.str s)=false:=rfl
@[simp]theorem Gf:bQ .tuple (.tup ds)=true:=rfl
@[simp]theorem Eb:bQ .tuple (.lst ds)=false:=rfl
@[simp]theorem HX:bQ .list .non=false:=rfl
@[simp]theorem LQ:bQ .list (.bl b)=false:=rfl
@[simp]theorem IW:bQ .list (.int i)=false:=rfl
@[simp]theorem Ib:bQ .list (.str s)=false:=rfl
@[simp]theorem IV:bQ .list (.tup ds)=false:=rfl
@[simp]theorem Ji:bQ .list (.lst ds)=true:=rfl
@[simp]theorem Ip:bQ .none .non=true:=rfl
@[simp]theorem Lr:bQ .none (.bl b)=false:=rfl
@[simp]theorem Jj:bQ .none (.int i)=false:=rfl
@[simp]theorem Ia:bQ .none (.str s)=false:=rfl
@[simp]theorem Iu:bQ .none (.tup ds)=false:=rfl
@[simp]theorem HQ:bQ .none (.lst ds)=false:=rfl
@[simp]theorem Pk:gV .non=true:=rfl
@[simp]theorem RD:gV (.bl b)=false:=rfl
@[simp]theorem Qh:gV (.int i)=false:=rfl
@[simp]theorem O8:gV (.str s)=false:=rfl
@[simp]theorem Pr:gV (.tup ds)=false:=rfl
@[simp]theorem Ot:gV (.lst ds)=false:=rfl
@[simp]theorem Rz:flat .non=true:=rfl
@[simp]theorem U5:flat (.bl b)=true:=rfl
@[simp]theorem j6:flat (.int i)=true:=rfl
@[simp]theorem QW:flat (.str s)=true:=rfl
@[simp]theorem Rt:flat (.tup ds)=false:=rfl
@[simp]theorem RJ:flat (.lst ds)=false:=rfl
@[simp]theorem Yx:(R.val d).d=d:=rfl
@[simp]theorem Wu:(R.own ds).d=.lst ds:=rfl
@[simp]theorem Q7:yw (.val d)=.val false d:=rfl
@[simp]theorem R0:yw (.own ds)=.own false ds:=rfl
@[simp]theorem Oq:rQ (.val d)=.dat d:=rfl
@[simp]theorem Ou:rQ (.own ds)=.tmp ds:=rfl
@[simp]theorem Vg:fL (.int i)=some i:=rfl
@[simp]theorem Xv:tM (.bl b)=some b:=rfl
@[simp]theorem pG:items (.lst ds)=some ds:=rfl
@[simp]theorem o9:items (.tup ds)=some ds:=rfl
@[simp]theorem Kv:Dm (.tup ds)=some ds:=rfl
@[simp]theorem Kh:lu (.lst ds)=some ds:=rfl
@[simp]theorem V6:tK .add=mZ:=rfl
@[simp]theorem VF:tK .sub=sI:=rfl
@[simp]theorem Vb:tK .mul=oA:=rfl
@[simp]theorem Sd:tK .fdiv=nM:=rfl
@[simp]theorem V9:tK .mod=tU:=rfl
@[simp]theorem Vp:tK .pow=rN:=rfl
@[simp]theorem Px:mZ (.int i) (.int j)=some (.val (.int (i+j))):=rfl
@[simp]theorem Qg:mZ (.lst ds) (.lst es)=if ds.length+es.length<=lim then some (.own (ds++es))else none:=rfl
@[simp]theorem Qk:mZ (.tup ds) (.tup es)=if ds.length+es.length<=lim then some (.val (.tup (ds++es)))else none:=rfl
@[simp]theorem N8:sI (.int i) (.int j)=some (.val (.int (i-j))):=rfl
@[simp]theorem Ov:oA (.int i) (.int j)=if((-18446744073709551616<i/\i<18446744073709551616)\/(-18446744073709551616<j/\j<18446744073709551616))then some (.val (.int (i*j)))else none:=rfl
@[simp]theorem JH:nM (.int i) (.int j)=if 0<j/\j<1606938044258990275541962092341162602522202993782792835301376 then some (.val (.int (i/j)))else none:=rfl
@[simp]theorem N7:tU (.int i) (.int j)=if 0<j then some (.val (.int (i%j)))else none:=rfl
@[simp]theorem Qa:rN (.int i) (.int j)=if 0<=j/\j<=1000/\i.natAbs<18446744073709551616 then some (.val (.int (i^j.toNat)))else none:=rfl
@[simp]theorem Vh:zx (.lst ds) (.int i)=(at' ds i).map .val:=rfl
@[simp]theorem V1:zx (.tup ds) (.int i)=(at' ds i).map .val:=rfl
@[simp]theorem Rm:Hb (.int i)=some (.val (.int (-i))):=rfl
@[simp]theorem O1:cm .eq (.int i) (.int j)=some (i==j):=rfl
@[simp]theorem Ql:cm .ne (.int i) (.int j)=some (!(i==j)):=rfl
@[simp]theorem Qx:cm .eq (.bl b) (.bl b')=some (b==b'):=rfl
@[simp]theorem Ss:cm .ne (.bl b) (.bl b')=some (!(b==b')):=rfl
@[simp]theorem Ow:cm .lt (.int i) (.int j)=some (decide (i<j)):=rfl
@[simp]theorem Oe:cm .le (.int i) (.int j)=some (decide (i<=j)):=rfl
@[simp]theorem O7:cm .gt (.int i) (.int j)=some (decide (j<i)):=rfl
@[simp]theorem O6:cm .ge (.int i) (.int j)=some (decide (j<=i)):=rfl
@[simp]theorem WX:cm .Ua d .non=some (gV d):=rfl
@[simp]theorem Vx:cm .Ub d .non=some (!gV d):=rfl
@[simp]theorem Ir:blt .len [.lst ds]=some (.val (.int ds.length)):=rfl
@[simp]theorem Jg:blt .len [.tup ds]=some (.val (.int ds.length)):=rfl
@[simp]theorem Oj:blt .Jp [.lst ds]=if ds.length<=16777216 then some (.own ds)else none:=rfl
@[simp]theorem FN:blt .list [.lst ds]=some (.own ds):=rfl
@[simp]theorem Ho:blt .list [.tup ds]=some (.own ds):=rfl
@[simp]theorem DK:blt .tuple [.lst ds]=some (.val (.tup ds)):=rfl
@[simp]theorem Dy:blt .tuple [.tup ds]=some (.val (.tup ds)):=rfl
@[simp]theorem Q4:blt .min2 [.int i,.int j]=some (.val (.int (if j<i then j else i))):=rfl
@[simp]theorem TF:blt .max2 [.int i,.int j]=some (.val (.int (if i<j then j else i))):=rfl
@[simp]theorem U7:blt .all [.lst ds]=(ds.mapM tM).map fun bs=>.val (.bl (bs.all id)):=rfl
@[simp]theorem Wa:blt .any [.lst ds]=(ds.mapM tM).map fun bs=>.val (.bl (bs.any id)):=rfl
@[simp]theorem Pq:isVar (.var k)=some k:=rfl
@[simp]theorem VL:pk (a::l) k=match(a::l)[k]?with|some (.val _ d)=>some d|some (.own _ ds)=>some (.lst ds)|some (.lent ds)=>some (.lst ds)|_=>none:=rfl
@[simp]theorem TJ:Al (a::l) k=match pk (a::l) k with|some (.lst ds)=>some ds|_=>none:=rfl
@[simp]theorem Td:cX (some k) e ρ=lift (pk ρ k) ρ:=rfl
@[simp]theorem Rv:cX none e ρ=(e ρ).bind fun r ρ=>.ok r.d ρ:=rfl
@[simp]theorem Om{y:Option Nat}:kJ (some k) e y f ρ=(lift (pk ρ k) ρ).bind fun _ ρ=>(cX y f ρ).bind fun y ρ=>(lift (pk ρ k) ρ).bind fun x ρ=>.ok (x,y) ρ:=rfl
@[simp]theorem Qf{y:Option Nat}:kJ none e y f ρ=(cX none e ρ).bind fun x ρ=>(cX y f ρ).bind fun y ρ=>.ok (x,y) ρ:=rfl
@[simp]theorem Pj{es:List D}:dU (.own b ds) (some (.own b' es))=.own b es:=rfl
@[simp]theorem Pa:dU (.own b ds) (some (.val b' d))=.val b d:=rfl
@[simp]theorem Di:dU a none=a:=by cases a<;>rfl
@[simp]theorem yH:dU (.val b d) x=.val b d:=by cases x<;>rfl
@[simp]theorem PX:dU .bC x=.bC:=by cases x<;>rfl
@[simp]theorem vN:dU (.lent ds) x=.lent ds:=by cases x<;>rfl
@[simp]theorem RM:bW ρ [k] true d=put ρ k (.val false d):=rfl
@[simp]theorem Oi{is:List Nat}:bW ρ is false (.tup ds)=putAll ρ is ds:=by cases is<;>rfl
@[simp]theorem MK:srcOf none e ρ=(e ρ).bind fun r ρ=>lift (items r.d) ρ:=rfl
@[simp]theorem Kd:srcOf (some k) e (a::l)=match(a::l)[k]?with|some (.val _ d)=>lift (items d) (a::l)|some (.own _ ds)=>.ok ds ((a::l).set k (.lent ds))|some (.lent ds)=>.ok ds (a::l)|_=>.stuck:=rfl
@[simp]theorem IK{ρ':List Sl}:aR ρ' none ρ=ρ:=rfl
@[simp]theorem Ij:aR (a::l) (some k) ρ=match(a::l)[k]?with|some (.own b ds)=>ρ.set k (.own b ds)|_=>ρ:=rfl
@[simp]theorem R4{s:Sl}:put (a::l) k s=match(a::l)[k]?with|some t=>if fr t=true then some ((a::l).set k s)else none|none=>none:=KR ..
@[simp]theorem JX:putAll ρ [] []=some ρ:=rfl
@[simp]theorem Jb{is:List Nat}:putAll ρ (k::is) (d::ds)=(put ρ k (.val false d)).bind fun ρ=>putAll ρ is ds:=rfl
theorem JC{as:List Arg}{Q:R->List Sl->Prop}:(gK c k as ρ).sat Q=match bj ρ as []with|none=>False|some args=>(c k args).sat fun r args'=>Q r (bY as args' 0 ρ):=by unfold gK;cases bj ρ as []with|none=>rfl|some args=>simp only;cases c k args<;>rfl
end
@[simp]theorem Q5{α:Type}{a0:α}{l:List α}:at' (a0::l) 0=some a0:=by unfold at' jk;rw[if_pos (by decide),if_pos (by simp only[List.length_cons];omega)];rfl
@[simp]theorem QH{α:Type}{a0 a1:α}{l:List α}:at' (a0::a1::l) 1=some a1:=by unfold at' jk;rw[if_pos (by decide),if_pos (by simp only[List.length_cons];omega)];rfl
@[simp]theorem Tc{α:Type}{a0 a1 a2:α}{l:List α}:at' (a0::a1::a2::l) 2=some a2:=by unfold at' jk;rw[if_pos (by decide),if_pos (by simp only[List.length_cons];omega)];rfl
@[simp]theorem YB{α:Type}{a0 a1 a2 a3:α}{l:List α}:at' (a0::a1::a2::a3::l) 3=some a3:=by unfold at' jk;rw[if_pos (by decide),if_pos (by simp only[List.length_cons];omega)];rfl
@[simp]theorem Za{α:Type}{a0 a1 a2 a3 a4:α}{l:List α}:at' (a0::a1::a2::a3::a4::l) 4=some a4:=by unfold at' jk;rw[if_pos (by decide),if_pos (by simp only[List.length_cons];omega)];rfl
@[simp]theorem X6{α:Type}{a0 a1 a2 a3 a4 a5:α}{l:List α}:at' (a0::a1::a2::a3::a4::a5::l) 5=some a5:=by unfold at' jk;rw[if_pos (by decide),if_pos (by simp only[List.length_cons];omega)];rfl
@[simp]theorem at_6{α:Type}{a0 a1 a2 a3 a4 a5 a6:α}{l:List α}:at' (a0::a1::a2::a3::a4::a5::a6::l) 6=some a6:=by unfold at' jk;rw[if_pos (by decide),if_pos (by simp only[List.length_cons];omega)];rfl
@[simp]theorem at_7{α:Type}{a0 a1 a2 a3 a4 a5 a6 a7:α}{l:List α}:at' (a0::a1::a2::a3::a4::a5::a6::a7::l) 7=some a7:=by unfold at' jk;rw[if_pos (by decide),if_pos (by simp only[List.length_cons];omega)];rfl
theorem nq{α:Type}{l:List α}{i:Int}(h:0<=i)(h':i<l.length):at' l i=l[i.toNat]?:=by unfold at' jk;rw[if_pos h,if_pos h'];rfl
theorem zO{α:Type}{l:List α}{k:Nat}(h':k<l.length):at' l (k:Int)=l[k]?:=by rw[nq (by omega) (by omega)];simp
theorem Vd{α:Type}{l:List α}{i:Int}(h:(l.length:Int)<=i):at' l i=none:=by unfold at' jk;rw[if_pos (by omega),if_neg (by omega)];rfl
theorem TX{p:P}(h:∀i,p≠.var i):isVar p=none:=by cases p<;>first|rfl|exact absurd rfl (h _)
@[simp]theorem Pn{d:D}:isVar (.con d)=none:=rfl
@[simp]theorem KD{x:Str}{d:D}:isVar (.glob x d)=none:=rfl
@[simp]theorem Od{o:Op}{p q:P}:isVar (.bin o p q)=none:=rfl
@[simp]theorem PK{p:P}:isVar (.neg p)=none:=rfl
@[simp]theorem O9{p:P}:isVar (.not p)=none:=rfl
@[simp]theorem PL{p q:P}:isVar (.and p q)=none:=rfl
@[simp]theorem TV{p q:P}:isVar (.or p q)=none:=rfl
@[simp]theorem OD{o:Cm}{p q:P}:isVar (.cmp o p q)=none:=rfl
@[simp]theorem HF{o o':Cm}{p q r:P}:isVar (.chain o o' p q r)=none:=rfl
@[simp]theorem Py{p q r:P}:isVar (.ife p q r)=none:=rfl
@[simp]theorem Oh{as:List P}:isVar (.tup as)=none:=rfl
@[simp]theorem Ol{as:List P}:isVar (.lst as)=none:=rfl
@[simp]theorem Pb{p q:P}:isVar (.idx p q)=none:=rfl
@[simp]theorem Ja{p q r:P}:isVar (.slice p q r)=none:=rfl
@[simp]theorem K8{f:Nat}{as:List P}:isVar (.call f as)=none:=rfl
@[simp]theorem Ob{b:Ve}{as:List P}:isVar (.blt b as)=none:=rfl
@[simp]theorem Kp{ts:List Ty}{p:P}:isVar (.inst ts p)=none:=rfl
@[simp]theorem PN{x:Nat}:isVar (.pop x)=none:=rfl
@[simp]theorem Lq{p e:P}{n:Nat}{is:List Nat}{one:Bool}{t:Option P}:isVar (.comp p n is one t e)=none:=rfl
@[simp]theorem Pz{p q:P}:isVar (.zj p q)=none:=rfl
@[simp]theorem OJ{p:P}:isVar (.Uh p)=none:=rfl
@[simp]theorem O4{p q:P}:isVar (.zip p q)=none:=rfl
@[simp]theorem PQ{p:P}:isVar (.rev p)=none:=rfl
noncomputable def iY(c:Call)(is:List Nat)(one:Bool)(test:Option P)(elt:P)(ds:List D)(ρ:List Sl):Res (List D):=turns is one (mY c test) (ev c elt) ds [] ρ
@[simp]theorem V3{c:Call}{src elt:P}{n:Nat}{is:List Nat}{one:Bool}{test:Option P}{ρ:List Sl}:ev c (.comp src n is one test elt) ρ=(srcOf (isVar src) (ev c src) ρ).bind fun ds ρ₁=>if ds.length<=lim then(iY c is one test elt ds (ρ₁++List.replicate n .bC)).bind fun xs ρ₂=>.ok (.own xs) (aR ρ (isVar src) (ρ₂.take ρ₁.length))else .stuck:=by rw[ev];rfl
noncomputable def yd(c:Call)(n:Nat)(t:P)(body:List S)(k:Nat)(ρ:List Sl):Res Fl:=lO (fO (ev c t)) (cG c n body) k ρ
@[simp]theorem Xr{c:Call}{n:Nat}{t:P}{body:List S}{ρ:List Sl}:ex c n (.whl t body) ρ=yd c n t body n ρ:=by rw[ex];rfl
theorem qL{α β γ:Type}{x:Res β}{f:β->List Sl->Res α}{g:α->List Sl->Res γ}:(x.bind f).bind g=x.bind fun a ρ=>(f a ρ).bind g:=by cases x<;>rfl
@[simp]theorem Yr{Γ:Tab}{w n i:Nat}{args:List Sl}{α:Type}{f:R->List Sl->Res α}{Q:α->List Sl->Prop}:((run Γ w n i args).bind f).sat Q=(run Γ w n i args).sat fun a ρ=>(f a ρ).sat Q:=bI
@[simp]theorem X8{Γ:Tab}{w n i:Nat}{args:List Sl}{α β:Type}{f:R->List Sl->Res α}{g:α->List Sl->Res β}:((run Γ w n i args).bind f).bind g=(run Γ w n i args).bind fun a ρ=>(f a ρ).bind g:=qL
@[simp]theorem VD{c:Call}{is:List Nat}{one:Bool}{test:Option P}{elt:P}{ds:List D}{ρ:List Sl}{α:Type}{f:List D->List Sl->Res α}{Q:α->List Sl->Prop}:((iY c is one test elt ds ρ).bind f).sat Q=(iY c is one test elt ds ρ).sat fun a ρ=>(f a ρ).sat Q:=bI
@[simp]theorem Vf{c:Call}{is:List Nat}{one:Bool}{test:Option P}{elt:P}{ds:List D}{ρ:List Sl}{α β:Type}{f:List D->List Sl->Res α}{g:α->List Sl->Res β}:((iY c is one test elt ds ρ).bind f).bind g=(iY c is one test elt ds ρ).bind fun a ρ=>(f a ρ).bind g:=qL
@[simp]theorem Xd{is:List Nat}{one:Bool}{b:List Sl->Res Fl}{ds:List D}{ρ:List Sl}{α:Type}{f:Fl->List Sl->Res α}{Q:α->List Sl->Prop}:((kj is one b ds ρ).bind f).sat Q=(kj is one b ds ρ).sat fun a ρ=>(f a ρ).sat Q:=bI
@[simp]theorem VM{α β:Type}{p:Prop}[Decidable p]{a:β}{ρ:List Sl}{f:β->List Sl->Res α}{Q:α->List Sl->Prop}:((lift (if p then some a else none) ρ).bind f).sat Q=(p/\(f a ρ).sat Q):=by by_cases h:p<;>simp[h,lift,Res.bind]
@[simp]theorem U3{α β γ:Type}{p:Prop}[Decidable p]{a:β}{ρ:List Sl}{f:β->List Sl->Res α}{g:α->List Sl->Res γ}:((lift (if p then some a else none) ρ).bind f).bind g=(lift (if p then some a else none) ρ).bind fun a ρ=>(f a ρ).bind g:=qL
@[simp]theorem bb_ite{α β:Type}{p:Prop}[Decidable p]{x y:Res β}{f:β->List Sl->Res α}:(if p then x else y).bind f=if p then x.bind f else y.bind f:=by by_cases h:p<;>simp[h]
@[simp]theorem Yp{c:Call}{n k:Nat}{t:P}{b:List S}{ρ:List Sl}{α:Type}{f:Fl->List Sl->Res α}{Q:α->List Sl->Prop}:((yd c n t b k ρ).bind f).sat Q=(yd c n t b k ρ).sat fun a ρ=>(f a ρ).sat Q:=bI
@[simp]theorem XJ{α β:Type}{a:α}{ρ:List Sl}{f:α->List Sl->Res β}:(Res.ok a ρ).bind f=f a ρ:=rfl
@[simp]theorem Oo{α β:Type}{f:α->List Sl->Res β}:(Res.stuck:Res α).bind f=.stuck:=rfl
@[simp]theorem Tv{α:Type}{a:α}{ρ:List Sl}:lift (some a) ρ=.ok a ρ:=rfl
@[simp]theorem S6{α:Type}{ρ:List Sl}:lift (none:Option α) ρ=.stuck:=rfl
noncomputable def yX:List Sl->Nat->Sl->List Sl|[],_,_=>[]|t::ρ,0,s=>dU t (some s)::ρ|t::ρ,k+1,s=>t::yX ρ k s
noncomputable def bk:List Arg->List Sl->List Sl->List Sl|.dZ k::as,s::ss,ρ=>bk as ss (yX ρ k s)|.dat _::as,_::ss,ρ=>bk as ss ρ|.tmp _::as,_::ss,ρ=>bk as ss ρ|_,_,ρ=>ρ
section
variable{t s:Sl}{ρ ss:List Sl}{k:Nat}{as:List Arg}{d:D}{ds:List D}
@[simp]theorem aaE:yX (t::ρ) 0 s=dU t (some s)::ρ:=rfl
@[simp]theorem aaV:yX (t::ρ) (k+1) s=t::yX ρ k s:=rfl
@[simp]theorem XC:bk (.dZ k::as) (s::ss) ρ=bk as ss (yX ρ k s):=rfl
@[simp]theorem Y8:bk (.dat d::as) (s::ss) ρ=bk as ss ρ:=rfl
@[simp]theorem Xy:bk (.tmp ds::as) (s::ss) ρ=bk as ss ρ:=rfl
@[simp]theorem YC:bk [] ss ρ=ρ:=rfl
end
theorem uZ{s:Sl}:∀{ρ:List Sl}{k j:Nat},(yX ρ k s)[j]?=(ρ[j]?).map fun t=>if j=k then dU t (some s)else t|[],_,_=>by simp[yX]|t::ρ,0,0=>by simp[yX]|t::ρ,0,j+1=>by simp[yX]|t::ρ,k+1,0=>by simp[yX]|t::ρ,k+1,j+1=>by have:=uZ (s:=s) (ρ:=ρ) (k:=k) (j:=j);simp only[yX,List.getElem?_cons_succ,this];congr 1;funext t;simp
theorem sJ{as:List Arg}{ss:List Sl}:∀{ρ:List Sl}{i j:Nat},(bY as ss i ρ)[j]?=(ρ[j]?).map fun t=>dU t (aP (i+j) as ss)|[],_,_=>by simp[bY]|t::ρ,i,0=>by simp[bY]|t::ρ,i,j+1=>by have:=sJ (as:=as) (ss:=ss) (ρ:=ρ) (i:=i+1) (j:=j);simp only[bY,List.getElem?_cons_succ,this];rw[show i+1+j=i+(j+1)by omega]
noncomputable def stb(t:Sl):Prop:=∀x,dU t x=t
noncomputable def M4(ρ:List Sl):List Arg->Prop|[]=>True|.dZ k::as=>(Arg.dZ k∈as->∀t,ρ[k]?=some t->stb t)/\M4 ρ as|_::as=>M4 ρ as
theorem mj{ρ:List Sl}:∀{as:List Arg}{ρ':List Sl},M4 ρ as->(∀k,Arg.dZ k∈as->∀t,ρ'[k]?=some t->ρ[k]?=some t\/stb t)->M4 ρ' as
 |[],_,_,_=>trivial|.dZ k::as,ρ',h,g=>⟨fun hm t ht=>by
  rcases g k (by simp) t ht with e|e;.exact h.1 hm t e
  .exact e,mj h.2 fun j hj=>g j (by simp[hj])⟩|.dat _::as,ρ',h,g=>mj (as:=as) h fun j hj=>g j (by simp[hj])|.tmp _::as,ρ',h,g=>mj (as:=as) h fun j hj=>g j (by simp[hj])
theorem jQ{k:Nat}:∀{as:List Arg}{ss:List Sl},Arg.dZ k∉as->aP k as ss=none|[],_,_=>by unfold aP;rfl|.dZ j::as,[],_=>rfl|.dat _::as,[],_=>rfl|.tmp _::as,[],_=>rfl|.dZ j::as,s::ss,h=>by simp only[List.mem_cons,Arg.dZ.injEq,not_or]at h;rw[aP,if_neg (fun e=>h.1 e.symm),jQ h.2]|.dat _::as,s::ss,h=>by simp only[List.mem_cons,not_or]at h;rw[aP,jQ h.2]|.tmp _::as,s::ss,h=>by simp only[List.mem_cons,not_or]at h;rw[aP,jQ h.2]
theorem wk:∀{as:List Arg}{ss ρ:List Sl},M4 ρ as->∀j,(bk as ss ρ)[j]?=(ρ[j]?).map fun t=>dU t (aP j as ss)
 |[],ss,ρ,_,j=>by cases ss<;>simp[bk,aP]|.dZ k::as,[],ρ,_,j=>by simp[bk,aP]|.dat _::as,[],ρ,_,j=>by simp[bk,aP]|.tmp _::as,[],ρ,_,j=>by simp[bk,aP]|.dat _::as,s::ss,ρ,h,j=>by rw[bk,aP];exact wk (as:=as) h j|.tmp _::as,s::ss,ρ,h,j=>by rw[bk,aP];exact wk (as:=as) h j|.dZ k::as,s::ss,ρ,h,j=>by
   have h2:M4 (yX ρ k s) as:=mj h.2 fun i hi t ht=>by rw[uZ]at ht;cases e:ρ[i]?with|none=>rw[e]at ht;cases ht|some t0=>
      rw[e]at ht;by_cases c:i=k;.subst c;have hs:=h.1 hi t0 e;simp[hs (some s)]at ht;exact .inl (by rw[ht])
      .simp[c]at ht;exact .inl (by rw[ht])
   rw[bk,wk h2 j,uZ,aP];cases e:ρ[j]?with|none=>rfl|some t0=>
     simp only[Option.map_some];by_cases c:j=k
     . subst c;rw[if_pos rfl,if_pos rfl];by_cases hm:Arg.dZ j∈as;.have hs:=h.1 hm t0 e;rw[hs (some s),hs]
       .rw[jQ hm,Di]
     .rw[if_neg c,if_neg (fun z=>c z.symm)]
theorem eO{ρ:List Sl}{k:Nat}{b:Bool}{ds:List D}(e:ρ[k]?=some (.own b ds)):∀{as:List Arg}{u:List Nat}{r:List Sl},k∈u->bj ρ as u=some r->Arg.dZ k∉as
 |[],_,_,_,_=>by simp|.dat _::as,u,r,hu,h=>by simp only[bj,Option.map_eq_some_iff]at h;obtain⟨r',h,_⟩:=h;simp[eO e hu h]|.tmp _::as,u,r,hu,h=>by simp only[bj,Option.map_eq_some_iff]at h;obtain⟨r',h,_⟩:=h;simp[eO e hu h]|.dZ i::as,u,r,hu,h=>by
   rw[bj]at h;have hi:i≠k:=by rintro rfl;rw[e]at h;simp[hu]at h
   have:Arg.dZ k∉as:=by
    split at h;.obtain⟨r',h,_⟩:=Option.map_eq_some_iff.mp h;exact eO e hu h
    . split at h;.cases h
      .obtain⟨r',h,_⟩:=Option.map_eq_some_iff.mp h;exact eO e (by simp[hu]) h
    . split at h;.cases h
      .obtain⟨r',h,_⟩:=Option.map_eq_some_iff.mp h;exact eO e (by simp[hu]) h
    .cases h
   simp[this];exact fun z=>hi z.symm
theorem eN{ρ:List Sl}:∀{as:List Arg}{u:List Nat}{r:List Sl},bj ρ as u=some r->M4 ρ as
 |[],_,_,_=>trivial|.dat _::as,u,r,h=>by obtain⟨r',h,_⟩:=Option.map_eq_some_iff.mp h;exact eN (as:=as) h|.tmp _::as,u,r,h=>by obtain⟨r',h,_⟩:=Option.map_eq_some_iff.mp h;exact eN (as:=as) h|.dZ i::as,u,r,h=>by
   rw[bj]at h;split at h;.rename_i b d q;obtain⟨r',h,_⟩:=Option.map_eq_some_iff.mp h;exact⟨fun _ t ht=>by rw[q]at ht;cases ht;exact fun x=>yH,eN h⟩
   . rename_i b ds q;split at h;.cases h
     .obtain⟨r',h,_⟩:=Option.map_eq_some_iff.mp h;exact⟨fun hm=>absurd hm (eO q (by simp) h),eN h⟩
   . rename_i ds q;split at h;.cases h
     .obtain⟨r',h,_⟩:=Option.map_eq_some_iff.mp h;exact⟨fun _ t ht=>by rw[q]at ht;cases ht;exact fun x=>vN,eN h⟩
   .cases h
theorem RV{as:List Arg}{ss ρ r:List Sl}{u:List Nat}(h:bj ρ as u=some r):bY as ss 0 ρ=bk as ss ρ:=by apply List.ext_getElem?;intro j;rw[sJ,wk (eN h),Nat.zero_add]
@[simp]theorem Qm{c:Call}{k:Nat}{as:List Arg}{ρ:List Sl}:gK c k as ρ=match bj ρ as []with|none=>.stuck|some args=>(c k args).bind fun r args'=>.ok r (bk as args' ρ):=by unfold gK;cases e:bj ρ as []with|none=>rfl|some args=>simp only[<-RV (r:=args) e];cases c k args<;>rfl
theorem pL{c:Call}{is:List Nat}{one:Bool}{elt:P}(J:List Sl->Prop)(g:D->D){Q:List D->List Sl->Prop}{ds:List D}{ρ:List Sl}(j:J ρ)(h:∀d,d∈ds->∀ρ,J ρ->∃ρ1,bW ρ is one d=some ρ1/\(ev c elt ρ1).sat fun r ρ3=>g d=r.d/\J ρ3)(k:∀ρ,J ρ->Q (ds.map g) ρ):(iY c is one none elt ds ρ).sat Q:=uU J g j h k
theorem pB{c:Call}{is:List Nat}{one:Bool}{elt t:P}(J:List Sl->Prop)(g:D->Option D){Q:List D->List Sl->Prop}{ds:List D}{ρ:List Sl}(j:J ρ)(h:∀d,d∈ds->∀ρ,J ρ->∃ρ1,bW ρ is one d=some ρ1/\(ev c t ρ1).sat fun r ρ2=>∃b,r.d=.bl b/\if b=true then(ev c elt ρ2).sat fun r ρ3=>g d=some r.d/\J ρ3 else g d=none/\J ρ2)(k:∀ρ,J ρ->Q (ds.filterMap g) ρ):(iY c is one (some t) elt ds ρ).sat Q:=iz J g j (fun d hd ρ j=>by obtain⟨ρ1,e,h1⟩:=h d hd ρ j;refine⟨ρ1,e,?_⟩;rw[mY,fO,bI];refine h1.imp fun r ρ2⟨b,e,q⟩=>?_;rw[e];exact q) fun ρ j=>by simpa using k ρ j
theorem jO{c:Call}{n:Nat}{t:P}{body:List S}(J:Nat->List Sl->Prop){Q:Fl->List Sl->Prop}(h:∀m ρ,J m ρ->(ev c t ρ).sat fun r ρ1=>∃b,r.d=.bl b/\if b=true then(cG c n body ρ1).sat (fQ (fun ρ2=>∃m',m'<m/\J m' ρ2) Q)else Q .next ρ1):∀{k m:Nat}{ρ:List Sl},m<k->J m ρ->(yd c n t body k ρ).sat Q|0,m,ρ,hk,_=>absurd hk (Nat.not_lt_zero _)|k+1,m,ρ,hk,j=>by unfold yd;rw[lO,bI,fO,bI];refine(h m ρ j).imp fun r ρ1⟨b,e,q⟩=>?_;rw[e];show(if b=true then _ else _:Res Fl).sat Q;cases b with|false=>rw[if_neg (by simp)]at q;rw[if_neg (by simp)];exact q|true=>rw[if_pos rfl]at q;rw[if_pos rfl,bI];refine q.imp fun fl ρ2 q=>?_;cases fl with|next=>obtain⟨m',hm,j'⟩:=q;exact jO J h (Nat.lt_of_lt_of_le hm (Nat.lt_succ_iff.mp hk)) j'|cont=>obtain⟨m',hm,j'⟩:=q;exact jO J h (Nat.lt_of_lt_of_le hm (Nat.lt_succ_iff.mp hk)) j'|brk=>exact q|ret v=>exact q
@[simp]theorem aaI:type_of%@HH.ev.eq_1:=@HH.ev.eq_1
@[simp]theorem aaz:type_of%@HH.ev.eq_2:=@HH.ev.eq_2
@[simp]theorem aaZ:type_of%@HH.ev.eq_3:=@HH.ev.eq_3
@[simp]theorem aa0:type_of%@HH.ev.eq_4:=@HH.ev.eq_4
@[simp]theorem aaJ:type_of%@HH.ev.eq_5:=@HH.ev.eq_5
@[simp]theorem aaQ:type_of%@HH.ev.eq_6:=@HH.ev.eq_6
@[simp]theorem aay:type_of%@HH.ev.eq_7:=@HH.ev.eq_7
@[simp]theorem aaW:type_of%@HH.ev.eq_8:=@HH.ev.eq_8
@[simp]theorem aap:type_of%@HH.ev.eq_9:=@HH.ev.eq_9
@[simp]theorem Yt:type_of%@HH.ev.eq_10:=@HH.ev.eq_10
@[simp]theorem Wr:type_of%@HH.ev.eq_11:=@HH.ev.eq_11
@[simp]theorem XS:type_of%@HH.ev.eq_12:=@HH.ev.eq_12
@[simp]theorem Xn:type_of%@HH.ev.eq_13:=@HH.ev.eq_13
@[simp]theorem W0:type_of%@HH.ev.eq_14:=@HH.ev.eq_14
@[simp]theorem YK:type_of%@HH.ev.eq_15:=@HH.ev.eq_15
@[simp]theorem Yc:type_of%@HH.ev.eq_16:=@HH.ev.eq_16
@[simp]theorem Xh:type_of%@HH.ev.eq_17:=@HH.ev.eq_17
@[simp]theorem Xb:type_of%@HH.ev.eq_18:=@HH.ev.eq_18
@[simp]theorem Xg:type_of%@HH.ev.eq_19:=@HH.ev.eq_19
@[simp]theorem Xk:type_of%@HH.ev.eq_20:=@HH.ev.eq_20
@[simp]theorem W9:type_of%@HH.ev.eq_22:=@HH.ev.eq_22
@[simp]theorem Zc:type_of%@HH.ev.eq_23:=@HH.ev.eq_23
@[simp]theorem W4:type_of%@HH.ev.eq_24:=@HH.ev.eq_24
@[simp]theorem XQ:type_of%@HH.ev.eq_25:=@HH.ev.eq_25
@[simp]theorem aaA:type_of%@HH.ex.eq_1:=@HH.ex.eq_1
@[simp]theorem aaM:type_of%@HH.ex.eq_2:=@HH.ex.eq_2
@[simp]theorem aaK:type_of%@HH.ex.eq_3:=@HH.ex.eq_3
@[simp]theorem aaL:type_of%@HH.ex.eq_4:=@HH.ex.eq_4
@[simp]theorem aau:type_of%@HH.ex.eq_5:=@HH.ex.eq_5
@[simp]theorem aaD:type_of%@HH.ex.eq_6:=@HH.ex.eq_6
@[simp]theorem aaS:type_of%@HH.ex.eq_7:=@HH.ex.eq_7
@[simp]theorem aaN:type_of%@HH.ex.eq_8:=@HH.ex.eq_8
@[simp]theorem aar:type_of%@HH.ex.eq_9:=@HH.ex.eq_9
@[simp]theorem Xu:type_of%@HH.ex.eq_10:=@HH.ex.eq_10
@[simp]theorem W3:type_of%@HH.ex.eq_11:=@HH.ex.eq_11
@[simp]theorem Yn:type_of%@HH.ex.eq_12:=@HH.ex.eq_12
@[simp]theorem Ws:type_of%@HH.ex.eq_13:=@HH.ex.eq_13
@[simp]theorem Yv:type_of%@HH.ex.eq_14:=@HH.ex.eq_14
@[simp]theorem Yo:type_of%@HH.ex.eq_15:=@HH.ex.eq_15
@[simp]theorem WK:type_of%@HH.fO.eq_1:=@HH.fO.eq_1
@[simp]theorem YS:type_of%@HH.evs.eq_1:=@HH.evs.eq_1
@[simp]theorem Xc:type_of%@HH.evs.eq_2:=@HH.evs.eq_2
@[simp]theorem Xe:type_of%@HH.rF.eq_1:=@HH.rF.eq_1
@[simp]theorem W7:type_of%@HH.rF.eq_2:=@HH.rF.eq_2
@[simp]theorem Yh:type_of%@HH.mY.eq_1:=@HH.mY.eq_1
@[simp]theorem Yw:type_of%@HH.mY.eq_2:=@HH.mY.eq_2
@[simp]theorem Yy:type_of%@HH.rH.eq_1:=@HH.rH.eq_1
@[simp]theorem Tt:type_of%@HH.bj.eq_1:=@HH.bj.eq_1
@[simp]theorem Ro:type_of%@HH.bj.eq_2:=@HH.bj.eq_2
@[simp]theorem Th:type_of%@HH.bj.eq_3:=@HH.bj.eq_3
@[simp]theorem RK:type_of%@HH.bj.eq_4:=@HH.bj.eq_4
@[simp]theorem S9:type_of%@HH.bY.eq_1:=@HH.bY.eq_1
@[simp]theorem RW:type_of%@HH.bY.eq_2:=@HH.bY.eq_2
@[simp]theorem QB:type_of%@HH.aP.eq_1:=@HH.aP.eq_1
@[simp]theorem Q8:type_of%@HH.aP.eq_2:=@HH.aP.eq_2
@[simp]theorem S8:type_of%@HH.aP.eq_3:=@HH.aP.eq_3
@[simp]theorem RX:type_of%@HH.aP.eq_4:=@HH.aP.eq_4
end HH
end
section
namespace HH
open PySem L2 PySem.Spec PyProof.Rows
section
variable{X:Cx}{c:Call}{a b:Expr}{pa pb:P}{pos:Pos}
theorem gY{K:PySem.W.Frag}{F:Hp}:∀{ns:List Int}{ys:List V},aD K F ys (ns.map D.int)->ys=ns.map V.int|[],ys,h=>by rw[h.fB];rfl|n::ns,ys,h=>by obtain⟨v,r,rfl,h1,t⟩:=h.cg;rw[Rep]at h1;rw[h1,gY t];rfl
theorem Ao{K:PySem.W.Frag}{F H:Hp}{v:V}{d:D}(h:bT K F H v d)(f:flat d=true):iW v=true:=by cases d with|non=>rw[h.non];rfl|bl _=>rw[h.bl];rfl|int _=>rw[h.int];rfl|str _=>rw[h.str];rfl|tup _=>cases f|lst _=>cases f|cZ _=>cases f|dv _ _=>cases f
theorem Xz{K:PySem.W.Frag}{F H:Hp}{v u:V}{d e:D}(h:bT K F H v d)(h':bT K F H u e)(f:flat d=true)(g:flat e=true):Gy v u=bw d e:=by cases d with
 |tup _=>cases f|lst _=>cases f|cZ _=>cases f|dv _ _=>cases f|non=>rw[h.non];cases e with|tup _=>cases g|lst _=>cases g|cZ _=>cases g|dv _ _=>cases g|non=>rw[h'.non];rfl|bl _=>rw[h'.bl];rfl|int _=>rw[h'.int];rfl|str _=>rw[h'.str];rfl
 |bl _=>rw[h.bl];cases e with|tup _=>cases g|lst _=>cases g|cZ _=>cases g|dv _ _=>cases g|non=>rw[h'.non];rfl|bl _=>rw[h'.bl];rfl|int _=>rw[h'.int];rfl|str _=>rw[h'.str];rfl
 |int _=>rw[h.int];cases e with|tup _=>cases g|lst _=>cases g|cZ _=>cases g|dv _ _=>cases g|non=>rw[h'.non];rfl|bl _=>rw[h'.bl];rfl|int _=>rw[h'.int];rfl|str _=>rw[h'.str];rfl
 |str _=>rw[h.str];cases e with|tup _=>cases g|lst _=>cases g|cZ _=>cases g|dv _ _=>cases g|non=>rw[h'.non];rfl|bl _=>rw[h'.bl];rfl|int _=>rw[h'.int];rfl|str _=>rw[h'.str];rfl
theorem Q3{K:PySem.W.Frag}{F H:Hp}{v:V}{d:D}(h:bT K F H v d)(f:flat d=true):∀{ds:List D}{vs:List V},aD K F vs ds->ds.all flat=true->vs.all iW=true/\inV v vs=ds.any fun y=>bw y d|[],vs,r,_=>by rw[r.fB];exact⟨rfl,rfl⟩|e::ds,vs,r,g=>by obtain⟨w,ws,rfl,h1,t⟩:=r.cg;rw[List.all_cons,Bool.and_eq_true]at g;obtain⟨i1,i2⟩:=Q3 h f t g.2;have q:bT K F H w e:=.inl h1;refine⟨by rw[List.all_cons,Ao q g.1,i1];rfl,?_⟩;unfold inV at i2 ⊢;rw[List.any_cons,List.any_cons,i2,Xz q h g.1 f]
theorem pJ:fJ X (compareOp .NotIn) (rD X.K (rH .pO)):=by rintro pins s σ H x y v u Q I rx ry⟨F,d,e,r,sm,px,py,he,k⟩;obtain⟨t,e1,e2⟩:=map_some (show(mR true d e).map _=some r from he);subst e2;obtain⟨ds,e3,e4⟩:=gC e1;obtain⟨hf,e5⟩:=bM e4;rw[Bool.and_eq_true]at hf;obtain⟨p,xs,rfl,hq,rs⟩:=py.items sm e3;obtain⟨i1,i2⟩:=Q3 px hf.1 rs hf.2;subst e5;refine qO pins s σ H x _ v u Q I rx ry ⟨p,xs,rfl,hq,Ao px hf.1,i1,?_⟩;rw[i2];exact cM.eG sm (gG _) k
end
end HH
end
section
namespace HH
open PySem
section
variable{i j:Int}{ds es:List D}{d:D}{b b':Bool}
@[simp]theorem VP:tK .shl=Ad:=rfl
@[simp]theorem Vu:tK .shr=zB:=rfl
@[simp]theorem R3:tK .band=uH:=rfl
@[simp]theorem Qc:Ad (.int i) (.int j)=if 0<=j/\j<=1000/\i.natAbs<18446744073709551616 then some (.val (.int (i*2^j.toNat)))else none:=rfl
@[simp]theorem Ox:zB (.int i) (.int j)=if 0<=j then some (.val (.int (i/2^j.toNat)))else none:=rfl
@[simp]theorem Mf:uH (.int i) (.int j)=some (.val (.int (Builtin.bitAnd i j))):=rfl
@[simp]theorem P0:oA (.lst ds) (.int i)=if 0<=i/\0<ds.length/\ds.length*i.toNat<=lim then some (.own (List.replicate i.toNat ds).flatten)else none:=rfl
@[simp]theorem Oz:oA (.tup ds) (.int i)=if 0<=i/\0<ds.length/\ds.length*i.toNat<=lim then some (.val (.tup (List.replicate i.toNat ds).flatten))else none:=rfl
@[simp]theorem Yj:cm .isT (.bl b) (.bl true)=some b:=rfl
@[simp]theorem Vz:cm .Uc (.bl b) (.bl true)=some (!b):=rfl
@[simp]theorem Va:blt .sum [.lst ds]=(ds.mapM fL).map fun ns=>.val (.int ns.sum):=rfl
@[simp]theorem Rw:blt .Ud [.lst ds]=(ds.mapM fL).bind fun ns=>ns.min?.map fun i=>.val (.int i):=rfl
@[simp]theorem Q6:blt .Ue [.lst ds]=(ds.mapM fL).bind fun ns=>ns.max?.map fun i=>.val (.int i):=rfl
end
@[simp]theorem X7:type_of%@HH.ex.eq_17:=@HH.ex.eq_17
@[simp]theorem WY:type_of%@HH.ex.eq_18:=@HH.ex.eq_18
@[simp]theorem Xj:type_of%@HH.ex.eq_19:=@HH.ex.eq_19
@[simp]theorem Y7:type_of%@HH.ex.eq_20:=@HH.ex.eq_20
@[simp]theorem YX:type_of%@HH.ex.eq_21:=@HH.ex.eq_21
theorem Bo{ns:List Int}:(ns.map D.int).mapM fL=some ns:=by induction ns with|nil=>rfl|cons n ns ih=>simp[ih]
@[simp]theorem Qi{ns:List Int}:ns.mapM (fL ∘ D.int)=some ns:=by rw[<-Bo (ns:=ns),List.mapM_map]
@[simp]theorem RT{bs:List Bool}:bs.mapM (tM ∘ D.bl)=some bs:=by induction bs with|nil=>rfl|cons b bs ih=>simp[ih]
theorem mq{S:List Int}{i:Int}:((S.map D.int).any fun y=>bw y (.int i))=S.contains i:=by induction S with|nil=>rfl|cons s S ih=>rw[List.map_cons,List.any_cons,List.contains_cons,ih,bw];rw[show(s==i)=(i==s)from Bool.eq_iff_iff.mpr ⟨fun h=>by simp at h ⊢;exact h.symm,fun h=>by simp at h ⊢;exact h.symm⟩]
theorem jN{S:List Int}:(S.map D.int).all flat=true:=by rw[List.all_eq_true];intro d hd;obtain⟨i,_,rfl⟩:=List.mem_map.mp hd;rfl
theorem Xp{S:List Int}{i:Int}:cm .inn (.int i) (.lst (S.map D.int))=some (S.contains i):=by show mR false _ _=_;unfold mR;simp only[pG,Option.bind_some,j6,jN,Bool.and_true,mq];rfl
theorem Yk{S:List Int}{i:Int}:cm .inn (.int i) (.tup (S.map D.int))=some (S.contains i):=by show mR false _ _=_;unfold mR;simp only[o9,Option.bind_some,j6,jN,Bool.and_true,mq];rfl
theorem yE{S:List Int}{i:Int}:cm .pO (.int i) (.lst (S.map D.int))=some (!S.contains i):=by show mR true _ _=_;unfold mR;simp only[pG,Option.bind_some,j6,jN,Bool.and_true,mq];rfl
theorem yc{S:List Int}{i:Int}:cm .pO (.int i) (.tup (S.map D.int))=some (!S.contains i):=by show mR true _ _=_;unfold mR;simp only[o9,Option.bind_some,j6,jN,Bool.and_true,mq];rfl
theorem my{n:Nat}{S:List Int}:cH (n+1) (.lst (S.map D.int))=true:=by rw[cH,List.all_eq_true];intro d hd;obtain⟨i,_,rfl⟩:=List.mem_map.mp hd;cases n<;>rfl
theorem ou:∀{S T:List Int},fj (S.map D.int) (T.map D.int)=(S==T)|[],[]=>by simp[fj]|[],_::_=>by simp[fj]|_::_,[]=>by simp[fj]|s::S,t::T=>by rw[List.map_cons,List.map_cons,fj,ou,bw];rfl
theorem Ey{S T:List Int}:cm .eq (.lst (S.map D.int)) (.lst (T.map D.int))=some (S==T):=by show BR _ _=_;unfold BR;rw[my,my,bw,ou];rfl
theorem Gh{S T:List Int}:cm .ne (.lst (S.map D.int)) (.lst (T.map D.int))=some (!(S==T)):=by show qK _ _=_;unfold qK;rw[my,my,bw,ou];rfl
theorem V4{S:List Int}:cm .eq (.lst (S.map D.int)) (.lst [])=some S.isEmpty:=by rw[show(.lst []:D)=.lst (([]:List Int).map D.int)from rfl,Ey];cases S<;>rfl
theorem UW{S:List Int}:cm .ne (.lst (S.map D.int)) (.lst [])=some (!S.isEmpty):=by rw[show(.lst []:D)=.lst (([]:List Int).map D.int)from rfl,Gh];cases S<;>rfl
theorem G4{α:Type}{l:List α}{x:α}:at' (l++[x]) (-1)=some x:=by
 unfold at' jk;rw[if_neg (by decide),if_pos (by simp only[List.length_append,List.length_singleton];omega)];have:(-1+((l++[x]).length:Int)).toNat=l.length:=by simp only[List.length_append,List.length_singleton];omega
 rw[this];simp
theorem vy{α:Type}{l:List α}{f:α->D}{k:Nat}{x:α}(h:l[k]?=some x):at' (l.map f) (k:Int)=some (f x):=by have hk:=(List.getElem?_eq_some_iff.mp h).1;rw[zO (by simpa using hk),List.getElem?_map,h];rfl
theorem J3{n k:Nat}(h:k<n):jk n (k:Int)=some k:=by unfold jk;rw[if_pos (by omega),if_pos (by omega)];simp
theorem V2{α:Type}{l:List α}{i:Int}(h:0<=i)(h':i<l.length):∃x,at' l i=some x/\x∈l:=by
 rw[nq h h'];have hk:i.toNat<l.length:=by omega
 exact⟨l[i.toNat],by simp[hk],List.getElem_mem hk⟩
theorem nQ{is:List Nat}{one:Bool}{body:List Sl->Res Fl}{g:Nat->D}{N:Nat}(J:Nat->List Sl->Prop){Q:Fl->List Sl->Prop}(hb:∀i ρ,i<N->J i ρ->∃ρ1,bW ρ is one (g i)=some ρ1/\(body ρ1).sat (fQ (J (i+1)) Q))(hq:∀ρ,J N ρ->Q .next ρ){ρ:List Sl}(h0:J 0 ρ):(kj is one body ((List.range N).map g) ρ).sat Q:=by
 refine eV (fun r ρ=>∃i,i<=N/\r=((List.range N).map g).drop i/\J i ρ) ?_ ?_ ⟨0,Nat.zero_le _,rfl,h0⟩
 . rintro d r ρ⟨i,hi,e,j⟩;have hlt:i<N:=by
    rcases Nat.lt_or_ge i N with h|h;.exact h
    .rw[List.drop_eq_nil_of_le (by simpa using h)]at e;cases e
   rw[List.drop_eq_getElem_cons (by simpa using hlt)]at e;injection e with e1 e2;simp at e1;subst e1;obtain⟨ρ1,h1,h2⟩:=hb i ρ hlt j;refine⟨ρ1,h1,h2.imp fun fl ρ2 q=>?_⟩;cases fl with|next=>exact⟨i+1,hlt,e2,q⟩|cont=>exact⟨i+1,hlt,e2,q⟩|brk=>exact q|ret v=>exact q
 . rintro ρ⟨i,hi,e,j⟩;have:i=N:=by have hl:=congrArg List.length e;simp at hl;omega
   subst this;exact hq ρ j
theorem Qj{c:Call}{is:List Nat}{one:Bool}{elt:P}{t:Option P}(J:List Sl->Prop)(P:D->Prop){Q:List D->List Sl->Prop}{ds:List D}{ρ:List Sl}(j:J ρ)(h:∀d,d∈ds->∀ρ,J ρ->∃ρ1,bW ρ is one d=some ρ1/\(mY c t ρ1).sat fun b ρ2=>if b=true then(ev c elt ρ2).sat fun r ρ3=>P r.d/\J ρ3 else J ρ2)(k:∀xs ρ,J ρ->xs.length<=ds.length->(∀x∈xs,P x)->Q xs ρ):(iY c is one t elt ds ρ).sat Q:=by suffices hh:∀(ds:List D)(acc:List D)(ρ:List Sl),J ρ->(∀x∈acc,P x)->(∀d,d∈ds->∀ρ,J ρ->∃ρ1,bW ρ is one d=some ρ1/\(mY c t ρ1).sat fun b ρ2=>if b=true then(ev c elt ρ2).sat fun r ρ3=>P r.d/\J ρ3 else J ρ2)->(turns is one (mY c t) (ev c elt) ds acc ρ).sat fun xs ρ=>J ρ/\(∀x∈xs,P x)/\xs.length<=acc.length+ds.length from(hh ds [] ρ j (by simp) h).imp fun xs ρ⟨q1,q2,q3⟩=>k xs ρ q1 (by simpa using q3) q2;intro ds;induction ds with|nil=>intro acc ρ j ha _;rw[turns];exact⟨j,ha,by simp⟩|cons d r ih=>
   intro acc ρ j ha h;obtain⟨ρ1,e,h1⟩:=h d (by simp) ρ j;rw[turns,e];show((mY c t ρ1).bind _).sat _;rw[bI];refine h1.imp fun b ρ2 q=>?_
   cases b with|true=>
     rw[if_pos rfl]at q;rw[if_pos rfl,bI];refine q.imp fun x ρ3⟨p,j3⟩=>?_;refine(ih (acc++[x.d]) ρ3 j3 (fun y hy=>?_) fun d' hd'=>h d' (by simp[hd'])).imp fun xs ρ⟨q1,q2,q3⟩=>⟨q1,q2,by simp at q3 ⊢;omega⟩;rcases List.mem_append.mp hy with hy|hy;.exact ha y hy
     .rw[List.mem_singleton.mp hy];exact p|false=>rw[if_neg (by simp)]at q;rw[if_neg (by simp)];exact(ih acc ρ2 q ha fun d' hd'=>h d' (by simp[hd'])).imp fun xs ρ⟨q1,q2,q3⟩=>⟨q1,q2,by simp at q3 ⊢;omega⟩
theorem yz{c:Call}{is:List Nat}{one:Bool}{elt:P}(J:List Sl->Prop)(P:D->Prop){Q:List D->List Sl->Prop}{ds:List D}{ρ:List Sl}(j:J ρ)(h:∀d,d∈ds->∀ρ,J ρ->∃ρ1,bW ρ is one d=some ρ1/\(ev c elt ρ1).sat fun r ρ3=>P r.d/\J ρ3)(k:∀xs ρ,J ρ->xs.length=ds.length->(∀x∈xs,P x)->Q xs ρ):(iY c is one none elt ds ρ).sat Q:=by suffices hh:∀(ds:List D)(acc:List D)(ρ:List Sl),J ρ->(∀x∈acc,P x)->(∀d,d∈ds->∀ρ,J ρ->∃ρ1,bW ρ is one d=some ρ1/\(ev c elt ρ1).sat fun r ρ3=>P r.d/\J ρ3)->(turns is one (mY c none) (ev c elt) ds acc ρ).sat fun xs ρ=>J ρ/\(∀x∈xs,P x)/\xs.length=acc.length+ds.length from(hh ds [] ρ j (by simp) h).imp fun xs ρ⟨q1,q2,q3⟩=>k xs ρ q1 (by simpa using q3) q2;intro ds;induction ds with|nil=>intro acc ρ j ha _;rw[turns];exact⟨j,ha,by simp⟩|cons d r ih=>
   intro acc ρ j ha h;obtain⟨ρ1,e,h1⟩:=h d (by simp) ρ j;rw[turns,e];show((mY c none ρ1).bind _).sat _;rw[mY];show((ev c elt ρ1).bind _).sat _;rw[bI];refine h1.imp fun x ρ3⟨p,j3⟩=>?_;refine(ih (acc++[x.d]) ρ3 j3 (fun y hy=>?_) fun d' hd'=>h d' (by simp[hd'])).imp fun xs ρ⟨q1,q2,q3⟩=>⟨q1,q2,by simp at q3 ⊢;omega⟩;rcases List.mem_append.mp hy with hy|hy;.exact ha y hy
   .rw[List.mem_singleton.mp hy];exact p
inductive A3(a b c:Prop):Prop where|mk(ha:a)(hb:b)(hc:c)
inductive A4(a b c d:Prop):Prop where|mk(ha:a)(hb:b)(hc:c)(hd:d)
inductive A5(a b c d e:Prop):Prop where|mk(ha:a)(hb:b)(hc:c)(hd:d)(he:e)
inductive A6(a b c d e f:Prop):Prop where|mk(ha:a)(hb:b)(hc:c)(hd:d)(he:e)(hf:f)
inductive A7(a b c d e f g:Prop):Prop where|mk(ha:a)(hb:b)(hc:c)(hd:d)(he:e)(hf:f)(hg:g)
inductive A8(a b c d e f g h:Prop):Prop where|mk(ha:a)(hb:b)(hc:c)(hd:d)(he:e)(hf:f)(hg:g)(hh:h)
inductive A9(a b c d e f g h i:Prop):Prop where|mk(ha:a)(hb:b)(hc:c)(hd:d)(he:e)(hf:f)(hg:g)(hh:h)(hi:i)
end HH
end
section
namespace HH
open PySem L2 PySem.Spec PyProof.Rows
section
variable{X:Cx}{c:Call}{n:Nat}{e a b d tg:Expr}{p pa pb pd:P}{pos:Pos}
theorem K9{g:TG}{is:List Nat}(he:SX X c e p)(hg:PG X tg g)(hgo:Fz X.K (fun ρ d=>bW ρ is false d) g)(hs:swapsWithSole [tg] e pos.line X.env=pure false:=by rfl)(hw:swappedStores [tg] e X.env=pure none:=by rfl)(h1:(assignEach [tg] X.env).map (·.2)=[assign tg X.env]:=by rfl):SS X c n (.Assign [tg] e pos) (.Zx is p):=by
 refine dR (BX he.ev hg hs hw h1) ?_;rintro D σ H⟨F,ρ,fl,ρ',g0,e,k⟩;rw[ex]at e;obtain⟨r,ρ1,e1,e⟩:=ao e;refine⟨F,ρ,r,ρ1,g0,e1,fun v F1 H1 s1 rr=>?_⟩;obtain⟨F2,s2,_,rp⟩:=s1.fc rr;split at e;.rename_i ds hd;obtain⟨ρ2,ρ3,e2,e⟩:=ao e;cases e;have zz:=aM e2;clear e2;obtain⟨e2,e3⟩:=zz;rw[hd]at rp;exact hgo v (.tup ds) F2 ρ1 _ σ H1 _ s2.gs rp (by show bW ρ1 is false (.tup ds)=_;cases is<;>exact e2) fun σ' s3=>k F2 σ' H1 (s2.trans s3)
 .cases e
end
end HH
end
section
namespace HH
open PySem L2 PySem.Spec PyProof.Rows
section
variable{X:Cx}{c:Call}{n:Nat}{e a b d elt tg:Expr}{p pa pb pe:P}{pos:Pos}{elts:List Expr}{x1:Nat}{tp:Pos}
noncomputable def QQ(K:PySem.W.Frag)(i:Nat)(f:Ev):TI:=fun σ H R=>∃F ρ ds ρb ρ1,GS K F ρ σ H/\G7 i f ρ=.ok (ds,ρb) ρ1/\∀J F1 H1,Walk K F ρ σ H (aR ρb (some i)) J ds F1 ρ1 H1->R J H1
theorem Eg{x:Str}{p':Pos}{i:Nat}(hx:x="zip")(hg:Gl X x)(hm:X.mg x=none)(hv:isVar pa=some i)(ha:SX X c a pa)(hb:SX X c b pb)(hs:starEach [a,b] X.env=[(false,eval a X.env),(false,eval b X.env)]:=by rfl)(hs2:starEach [b] X.env=[(false,eval b X.env)]:=by rfl):PI X (.Tuple elts x1 tp) (.Call (.Name x p') [a,b] [] pos) (QQ X.K i (HH.ev c pb)):=by
 subst hx;refine rZ (Mj hg hm (aZ (ha.var i hv) (aZ hb.ev cW hs2) (by rw[hs,hs2])) hs hs2) ?_;rintro σ H R⟨F,ρ,ds,ρb,ρ1,g,e,k⟩;obtain⟨x0,ρ0,e0,e⟩:=ao e;have zz:=aM e0;clear e0;obtain⟨e0,zm⟩:=zz;subst zm;obtain⟨r,ρ2,e1,e⟩:=ao e;obtain⟨es,ρ3,e2,e⟩:=ao e;have zz:=aM e2;clear e2;obtain⟨e2,e3⟩:=zz;subst e3;obtain⟨v,h1,_⟩:=g.pk e0;refine⟨v,h1,F,ρ,r,ρ2,g,e1,fun u F' H' s rr=>?_⟩;obtain⟨F2,s2,_,ru⟩:=s.fc rr;obtain⟨t2,a2,ys,rfl,q2,r2⟩:=Cz ru e2;split at e;.rename_i bb d' q;obtain⟨ds',ρ4,e4,e⟩:=ao e;have zz:=aM e4;clear e4;obtain⟨e4,e5⟩:=zz;subst e5;cases e;obtain⟨v',h1',rv⟩:=s2.gs.val i bb d' q;rw[h1]at h1';cases h1';obtain⟨t1,a1,xs,rfl,q1,r1⟩:=Cz rv e4;refine⟨t1,t2,a1,a2,rfl,⟨xs,aF.sq s2.gs.sub q1⟩,⟨ys,aF.sq s2.gs.sub q2⟩,k _ _ _ ⟨s2.gs,fun n k F' ρ' σ' H' s'=>pP (aF.sq s'.gs.sub (aF.sq s'.bV q1)) (aF.sq s'.gs.sub (aF.sq s'.bV q2)) (r1.mono s'.bV) (r2.mono s'.bV) s'.gs.sub k,fun F3 ρ3 σ3 H3 s3=>?_⟩⟩;unfold aR;dsimp only;rw[q];exact⟨s2.trans s3,fun v r rr=>rr.later s2⟩
 . rename_i bb ds' q;cases e;have hi:i<ρb.length:=(List.getElem?_eq_some_iff.mp q).1;have gl:=s2.gs.lend q;have ql:(ρb.set i (.lent ds'))[i]?=some (.lent ds'):=List.getElem?_set_self hi;obtain⟨a1,xs,w1,w2,w3,w4⟩:=gl.je i _ ds' ql rfl;rw[h1]at w1;cases w1;refine⟨false,t2,a1,a2,rfl,⟨xs,dI.of w2⟩,⟨ys,aF.sq s2.gs.sub q2⟩,k _ _ _ ⟨gl,fun n k F' ρ' σ' H' s'=>?_,fun F3 ρ3 σ3 H3 s3=>?_⟩⟩;.obtain⟨z1,t,z2,z3⟩:=s'.lk i _ (by rw[List.getElem?_append_left (by simpa using hi)];exact ql) rfl;cases(show t=.lent ds' from z3);rw[List.getElem?_append_left (by rw[<-gl.len];simpa using hi),h1]at z1;obtain⟨a',ys',u1,u2,u3,u4⟩:=s'.gs.je i _ ds' z2 rfl;rw[z1]at u1;cases u1;exact pP (show Sq false X.K H' a1 ys' from dI.of u2) (aF.sq s'.gs.sub (aF.sq s'.bV q2)) u4 (r2.mono s'.bV) s'.gs.sub k
   .unfold aR;dsimp only;rw[q];obtain⟨y1,y2⟩:=bA.aR s2.gs q s3;exact⟨s2.trans y1,fun v r rr=>(y2 v r rr).later s2⟩
 . rename_i ds' q;cases e;have hi:i<ρb.length:=(List.getElem?_eq_some_iff.mp q).1;obtain⟨a1,xs,w1,w2,w3,w4⟩:=s2.gs.je i _ ds' q rfl;rw[h1]at w1;cases w1;refine⟨false,t2,a1,a2,rfl,⟨xs,dI.of w2⟩,⟨ys,aF.sq s2.gs.sub q2⟩,k _ _ _ ⟨s2.gs,fun n k F' ρ' σ' H' s'=>?_,fun F3 ρ3 σ3 H3 s3=>?_⟩⟩;.obtain⟨z1,t,z2,z3⟩:=s'.lk i _ (by rw[List.getElem?_append_left hi];exact q) rfl;cases(show t=.lent ds' from z3);rw[List.getElem?_append_left (by rw[<-s2.gs.len];exact hi),h1]at z1;obtain⟨a',ys',u1,u2,u3,u4⟩:=s'.gs.je i _ ds' z2 rfl;rw[z1]at u1;cases u1;exact pP (show Sq false X.K H' a1 ys' from dI.of u2) (aF.sq s'.gs.sub (aF.sq s'.bV q2)) u4 (r2.mono s'.bV) s'.gs.sub k
   .unfold aR;dsimp only;rw[q];exact⟨s2.trans s3,fun v r rr=>rr.later s2⟩
 .cases e
variable{scope:Scope}{N':List Str}{ifs:List Expr}{iter:Expr}
theorem zZ{g:TG}{i:Nat}{is:List Nat}{one:Bool}{t:Option P}(hc:X.calm=true)(ok:fK X scope N' n)(hi:PI X tg iter (QQ X.K i (HH.ev c pb)))(hg:∀cl C s₀ H₀ ex,PG (wg X scope N' cl C s₀ H₀ ex) tg g)(hgo:pF X.K X.N.length is one g)(ht:∀cl C s₀ H₀ ex,SQ (wg X scope N' cl C s₀ H₀ ex) c ifs t)(he:∀cl C s₀ H₀ ex,SX (wg X scope N' cl C s₀ H₀ ex) c elt pe)(hs:∀x,foldedSetIterable iter X.env x=pure x:=by intro _;rfl):SX X c (.ListComp elt [⟨tg,iter,ifs,0⟩] scope pos) (.uw i pb n is one t pe):=by
 refine⟨zR (xf (tt:=HR X.K (mY c t)) (te:=Bb X.K (HH.ev c pe)) hc ok hi hg ht (fun cl C s₀ H₀ ex=>(he cl C s₀ H₀ ex).ev) hs) ?_,fun i h=>by cases h⟩;rintro σ H Q hl⟨F,ρ,r,ρ',g0,e,k⟩;rw[HH.ev]at e;obtain⟨⟨ds,ρb⟩,ρ1,e1,e⟩:=ao e;dsimp only at e;split at e;.rename_i hlim;obtain⟨xs,ρ2,e2,e⟩:=ao e;cases e;exact sZ hl hgo (fun R h=>⟨F,ρ,ds,ρb,ρ1,g0,e1,h⟩) hlim e2 k
 .cases e
theorem nJ{x:Str}{k:Nat}{px apos cpos:Pos}(hN:X.N[k]?=some x)(hv:Ak X.env.scope x)(hline:(apos.endLine==cpos.line)=true:=by rfl)(hbase:attributeBase (.Name x px) "pop" X.env (eval (.Name x px) X.env)=eval (.Name x px) X.env:=by rfl)(hd:(x==("__debug__":Str))=false:=by decide)(hcd:(x==("__classdict__":Str))=false:=by decide):SX X c (.Call (.Attribute (.Name x px) "pop" apos) [] [] cpos) (.pop k):=by
 refine⟨dz (Ml PySem.F.plainAttrs_list PySem.F.slot_list_pop PySem.F.type_list_pop JS (jh hN hv hd hcd) hbase hline) ?_,fun i h=>by cases h⟩;rintro σ H Q⟨F,ρ,r,ρ',g,e,kk⟩;rw[HH.ev]at e;split at e
 . rename_i bb ds q;have zz:=aM e;clear e;obtain⟨e1,e2⟩:=zz;subst e2;obtain⟨dl,e3,e4⟩:=map_some e1;subst e4;obtain⟨ad,ys,q1,q2,q3,q4⟩:=g.je k _ ds q rfl;have hl:=q4.length;have Uu:ds[ds.length-1]?=some dl:=by rw[<-List.getLast?_eq_getElem?];exact e3
   obtain⟨y,hy,ry⟩:=q4.get Uu;have q5:aD X.K F ys.dropLast ds.dropLast:=by have:=q4.take (ds.length-1);rw[List.dropLast_eq_take,List.dropLast_eq_take,hl];exact this
   refine⟨.ref ad,q1,.inl ⟨rfl,ys,dI.of q2⟩,_,ys,y,rfl,rfl,q2,by rw[hl];exact hy,?_⟩;exact kk y F _ (g.mut q q1 q5) ry
 .cases e
end
end HH
end
section
namespace HT
open PySem PySem.Spec PyProof.Rows
section
variable{prog:Program}{w:World}{A:Around}{E:Value->Shared->Prop}{s:Shared}
theorem ue{t sl:Addr}{its:Array Value}{vl vu:Value}{lo hi:Option Int}{Q:Value->Shared->Prop}(ht:IsTup s.heap t its)(hs:s.heap.IsSliceOf sl vl vu .none)(pl:IsPart vl lo)(pu:IsPart vu hi)(h1:cN its.size 0 lo=0)(h2:cN its.size its.size hi=its.size)(h:Q (.ref t) s):wpAny (model prog w) A (getItem (.ref t) (.ref sl)) Q E s:=by
 obtain⟨os,hos,hcs,hds⟩:=id hs;have hT:s.TypeIs (.ref sl) "slice":=⟨os,hos,hcs⟩;unfold getItem;try with_reducible refine wpAny_holding ?_
 first|refine wpAny_bind (wpAny_pure ?_)|skip
 refine wpAny_bind (wpAny_sequenceKey ht.typeIs (by decide) (wpAny_bind (wpAny_callSpecial?_slot (name:=Str.ofString "__getitem__") ht.typeIs slot_tuple_getitem (wpAny_call_entry slot_tuple_getitem ht.typeIs entry_tuple_getitem ?_ (args_tuple_getitem _ _)))));show wpAny _ _ (Builtin.Tuple.tupleItemsOf (.ref t)>>=_) _ _ s;refine wpAny_bind (tupleItemsOf_ ht (wpAny_bind (wpAny_typeOf hT ?_)));rw[if_pos (by decide)];refine wpAny_bind (fW hs pl pu ?_);have aad:((((cN its.size 0 lo:Nat):Int)==0&&(1:Int)==1&&(cN its.size its.size hi-cN its.size 0 lo)==its.size)=true):=by rw[h1,h2];simp
 show wpAny _ _ (if(((cN its.size 0 lo:Nat):Int)==0&&(1:Int)==1&&(cN its.size its.size hi-cN its.size 0 lo)==its.size)=true then _ else _) _ _ s;rw[if_pos aad];unfold Builtin.Tuple.tupleIsExact;refine wpAny_bind (wpAny_bind (wpAny_typeOf ht.typeIs (wpAny_pure ?_)));rw[if_pos (by decide)];exact wpAny_bind (wpAny_rule (wpAny_pure ⟨_,rfl,wpAny_pure h⟩))
end
end HT
namespace HH
open PySem L2 PySem.Spec PyProof.Rows
noncomputable def Yl:Expr->Bool|.Starred _ _=>false|_=>true
theorem bu{e:Expr}{es:List Expr}{env:Env}(h:Yl e=true):starEach (e::es) env=(false,eval e env)::starEach es env:=by cases e with|Starred a b=>cases h|_=>rw[starEach];(intro e p z;cases z)
noncomputable def ni:List Int->List Expr->Option (List Expr)|[],es=>some es|i::is,.Constant (.int j) _ _::es=>if i=j then ni is es else none|_,_=>none
theorem dJ{X:L2.Cx}{c:Call}:∀(is:List Int){es es':List Expr}{ps':List P},ni is es=some es'->SA X c es' ps'->SA X c es (is.map (fun i=>P.con (.int i))++ps')|[],es,es',ps',h,r=>by cases h;exact r|i::is,[],es',ps',h,r=>by cases h|i::is,e::es,es',ps',h,r=>by cases e with
   |Constant v k p=>cases v with
     |int j=>
       rw[ni]at h;split at h;.rename_i hij;subst hij;exact xJ aa (dJ is h r) (bu rfl)
       .cases h|_=>cases h
   |_=>cases h
theorem qM{n d:Nat}{o:Option Int}:HT.cN n d o=HH.cN n d o:=by cases o with|none=>rfl|some v=>
   show(if v<0 then(v+(n:Int)).toNat else min v.toNat n)=(if 0<=v then min v.toNat n else(v+n).toNat);by_cases h:0<=v;.rw[if_pos h,if_neg (by omega)]
   .rw[if_neg h,if_pos (by omega)]
theorem BZ{xs:List V}{lo hi:Option Int}:rY xs lo hi=HH.cut xs lo hi:=by unfold rY HH.cut;rw[qM,qM]
theorem aD.cut{K:PySem.W.Frag}{F:Hp}{ds:List D}{vs:List V}{lo hi:Option Int}(h:aD K F vs ds):aD K F (HH.cut vs lo hi) (HH.cut ds lo hi):=by unfold HH.cut;rw[h.length];exact(h.drop _).take _
section
variable{X:Cx}{c:Call}{n:Nat}{e a b:Expr}{p pa pb pl ph:P}{pos p2:Pos}{lo hi:Option Expr}
noncomputable def X3(K:PySem.W.Frag):V->Option Int->Option Int->Hp->VK->Prop:=fun x lo hi H Q=>∃F d r,aF F H/\bT K F H x d/\Lp d (some lo) (some hi)=some r/\∀v F' H',Ext F H F' H'->cM K F' H' H v r->Q v H'
theorem Q9:VB X (X3 X.K):=by rintro pins s σ H x v vl vu lo hi sl Q I rx hs pl pu⟨F,d,r,sm,px,he,k⟩;cases d with|lst ds=>cases he;obtain⟨a,xs,rfl,hq,rs⟩:=px.lst sm;refine Fq pins s σ H _ v vl vu lo hi sl Q I rx hs pl pu ⟨a,xs,rfl,hq,fun p hp=>?_⟩;rw[BZ];exact zP sm rs.cut hp k|tup ds=>
   cases he;obtain⟨a,xs,rfl,hq,rs,rt⟩:=px.tup sm;by_cases hw:HT.cN xs.length 0 lo=0/\HT.cN xs.length xs.length hi=xs.length
   . cases rx;obtain⟨its,rv,ht,hz⟩:=I.tuple hq;have hlen:its.toArray.size=xs.length:=by rw[List.size_toArray];exact rv.length.symm
     refine⟨"tuple",_,slot_tuple_getitem.lookup,ht.typeIs,HT.ue ht hs pl pu (by rw[hlen];exact hw.1) (by rw[hlen];exact hw.2) ⟨.ref a,H,I,rfl,?_⟩⟩;have hc:HH.cut ds lo hi=ds:=by unfold HH.cut;rw[<-rs.length,<-qM,<-qM,hw.1,hw.2];simp[rs.length]
     rw[hc]at k;exact cM.eG sm rt k
   .refine JL pins s σ H _ v vl vu lo hi sl Q I rx hs pl pu ⟨a,xs,rfl,hq,hw,fun p hp=>?_⟩;rw[BZ];exact yf sm rs.cut hp k|_=>cases he
noncomputable def SO(X:Cx)(c:Call)(o:Option Expr)(p:P):Prop:=∃t,PO X o t/\∀{σ:L2.St}{H F:Hp}{ρ ρ':List Sl}{d:D}{i:Option Int}{Q:Option Int->Hp->Prop},GS X.K F ρ σ H->cX (isVar p) (HH.ev c p) ρ=.ok d ρ'->part p d=some i->(∀F' H',bA X.K F ρ σ H F' ρ' σ H'->Q i H')->t σ H Q
theorem pR:SO X c none (.con .non):=by refine⟨_,G6,fun{σ H F ρ ρ' d i Q}g e h k=>?_⟩;cases(show some none=some i from h);have e':(HH.ev c (.con .non) ρ).bind (fun r ρ=>.ok r.d ρ)=.ok d ρ':=e;clear e;rw[HH.ev]at e';cases e';exact k F H (.refl g)
theorem p8(h:SX X c e p)(hn:Tz p=false:=by rfl):SO X c (some e) p:=by obtain⟨t,h1,h2⟩:=h.cX;refine⟨_,Ge h1,fun{σ H F ρ ρ' d i Q}g e hp k=>?_⟩;unfold part at hp;rw[hn,if_neg (by decide)]at hp;obtain⟨j,e1,e2⟩:=map_some hp;cases m5 e1;subst e2;exact h2 g e fun v F' H' s pv=>⟨j,pv.int,k F' H' s⟩
theorem tW{d:D}{x y:Option (Option Int)}{r:R}(h:Lp d x y=some r):∃lo hi,x=some lo/\y=some hi:=by cases x with|none=>cases d<;>cases h|some lo=>cases y with|none=>cases d<;>cases h|some hi=>exact⟨lo,hi,rfl,rfl⟩
theorem nW(ha:SX X c a pa)(hl:SO X c lo pl)(hh:SO X c hi ph):SX X c (.Subscript a (.Slice lo hi none p2) pos) (.slice pa pl ph):=by obtain⟨tl,l1,l2⟩:=hl;obtain⟨th,h1,h2⟩:=hh;cases hv:isVar pa with|none=>refine⟨dz (rJ Q9 ha.ev l1 h1) ?_,fun i h=>by cases h⟩;rintro σ H Q⟨F,ρ,r,ρ',g,e,k⟩;rw[HH.ev,hv]at e;obtain⟨x,ρ1,e1',ea⟩:=ao e;clear e;have Uv:(HH.ev c pa ρ).bind (fun r ρ=>.ok r.d ρ)=.ok x ρ1:=e1';clear e1';obtain⟨rx,ρ1',e1,e0⟩:=ao Uv;clear Uv;cases e0;obtain⟨y,ρ2,e2,eb⟩:=ao ea;clear ea;obtain⟨z,ρ3,e3,ec⟩:=ao eb;clear eb;obtain⟨e,e4⟩:=aM ec;clear ec;subst e4;obtain⟨lo',hi',q1,q2⟩:=tW e;rw[q1,q2]at e;refine⟨F,ρ,rx,_,g,e1,fun v F1 H1 s1 rr=>?_⟩;obtain⟨F2,s2,_,rp⟩:=s1.fc rr;refine l2 s2.gs e2 q1 fun F3 H3 s3=>h2 s3.gs e3 q2 fun F4 H4 s4=>?_;have s5:=s2.trans (s3.trans s4);refine⟨F4,_,r,s4.gs.sub,.inl ((rp.mono s3.bV).mono s4.bV),e,fun v F5 H5 x rn=>?_⟩;exact k v F5 H5 (s5.trans (x.stp s5.gs)) (.later s5 (rn.sO s5.gs))|some i=>refine⟨dz (rJ Q9 (ha.var i hv) l1 h1) ?_,fun i h=>by cases h⟩;rintro σ H Q⟨F,ρ,r,ρ',g,e,k⟩;rw[HH.ev,hv]at e;obtain⟨x0,ρ0,e0',ea⟩:=ao e;clear e;obtain⟨e0,zm⟩:=aM e0';clear e0';subst zm;obtain⟨y,ρ2,e2,eb⟩:=ao ea;clear ea;obtain⟨z,ρ3,e3,ec⟩:=ao eb;clear eb;obtain⟨x,ρ4,e5',ed⟩:=ao ec;clear ec;obtain⟨e5,e6⟩:=aM e5';clear e5';subst e6;obtain⟨e,e4⟩:=aM ed;clear ed;subst e4;obtain⟨lo',hi',q1,q2⟩:=tW e;rw[q1,q2]at e;obtain⟨v,hv1,_⟩:=g.pk e0;refine⟨v,hv1,l2 g e2 q1 fun F3 H3 s3=>h2 s3.gs e3 q2 fun F4 H4 s4=>?_⟩;have s5:=s3.trans s4;obtain⟨v',hv2,pv⟩:=s5.gs.pk e5;rw[hv1]at hv2;cases hv2;refine⟨F4,_,r,s4.gs.sub,pv,e,fun v F5 H5 x rn=>?_⟩;exact k v F5 H5 (s5.trans (x.stp s5.gs)) (.later s5 (rn.sO s5.gs))
theorem lq{x:Str}{k:Nat}{px apos cpos:Pos}(hN:X.N[k]?=some x)(hv:Ak X.env.scope x)(he:SX X c e p)(hline:(apos.endLine==cpos.line)=true:=by rfl)(hs:starEach [e] X.env=(false,eval e X.env)::starEach [] X.env:=by rfl)(hbase:attributeBase (.Name x px) "extend" X.env (eval (.Name x px) X.env)=eval (.Name x px) X.env:=by rfl)(hfew:((backTo cpos (starEach [e] X.env)).all (fun x=>!x.1)&&(backToKw cpos (keywordEach [] X.env)).all (fun x=>x.1.isSome)&&decide ([e].length+([]:List Keyword).length+(if([]:List Keyword).isEmpty then 0 else 1)<30))=true:=by rfl)(hsw:swapsWith (.Call (.Attribute (.Name x px) "extend" apos) [e] [] cpos) none pos.line X.env=pure false:=by rfl)(hd:(x==("__debug__":Str))=false:=by decide)(hcd:(x==("__classdict__":Str))=false:=by decide):SS X c n (.Expr (.Call (.Attribute (.Name x px) "extend" apos) [e] [] cpos) pos) (.vO k p):=by
 refine dR (v9 (HW PySem.F.plainAttrs_list PySem.F.slot_list_extend PySem.F.type_list_extend yJ (jh hN hv hd hcd) (aZ he.ev cW hs) hbase hfew hline hs) hsw) ?_;rintro D σ H⟨F,ρ,fl,ρ',g,e,kk⟩;rw[ex]at e;obtain⟨d0,ρ0,e0',ea⟩:=ao e;clear e;obtain⟨e0,zm⟩:=aM e0';clear e0';subst zm;obtain⟨r,ρ1,e1,eb⟩:=ao ea;clear ea;obtain⟨a,xs,h1,h2⟩:=wH g e0;refine⟨.ref a,h1,.inl ⟨rfl,xs,h2⟩,F,ρ,r,ρ1,g,e1,fun v F1 H1 s1 rr=>?_⟩;split at eb
 . rename_i bb ds es q;split at eb;.rename_i hlt;cases eb;obtain⟨b1,ys,rfl,w2,w3,w4,w5,w6⟩:=rr;obtain⟨ad,zs,q1,q2,q3,q4⟩:=s1.gs.je k _ ds q rfl;rw[h1]at q1;cases q1;exact⟨_,b1,zs,ys,rfl,rfl,q2,w2,by rw[q4.length,w4.length];exact hlt,kk F1 σ _ (s1.trans (s1.gs.mut q h1 (q4.append w4)))⟩
   .cases eb
 .cases eb
end
end HH
end
section
namespace L2
open PySem PySem.Spec PyProof.Rows
noncomputable def iT(h:Heap)(e C:Addr)(tb:Value):Prop:=∃(o:Obj)(vs:Array Value),h.get? e=some o/\o.cls=.ref C/\o.data=.fields vs/\vs[1]?=some tb/\o.dict=none
theorem xV{f:Array Value->Array Value}{o:Obj}:(Obj.mapFields f o).dict=o.dict:=by unfold Obj.mapFields;split<;>rfl
noncomputable def DQ(h:Heap)(T:Addr)(fl:Value):Prop:=∃(o:Obj)(ts:Array Value),h.get? T=some o/\o.data=.fields ts/\ts[3]?=some fl
noncomputable def Ek:Value->List Addr|.ref T=>[T]|_=>[]
structure lD(fs ch:List Addr)(h h':Heap):Prop where
 keep:∀b o,h.get? b=some o->b∉ch->b∉fs->h'.get? b=some o
 slot:∀b o,h.get? b=some o->b∉ch->∃sl,h'.get? b=some {o with slots:=sl}
theorem lD.trans{fs ch:List Addr}{h h1 h2:Heap}(a:lD fs ch h h1)(b:lD fs ch h1 h2):lD fs ch h h2:=⟨fun x o e n1 n2=>b.keep x o (a.keep x o e n1 n2) n1 n2,fun x o e n=>by obtain⟨sl,q⟩:=a.slot x o e n;obtain⟨sl',q'⟩:=b.slot x _ q n;exact⟨sl',q'⟩⟩
theorem lD.more{fs ch ch':List Addr}{h h':Heap}(a:lD fs ch h h')(s:∀b∈ch,b∈ch'):lD fs ch' h h':=⟨fun x o e n=>a.keep x o e fun z=>n (s x z),fun x o e n=>a.slot x o e fun z=>n (s x z)⟩
theorem lD.of_keep{fs ch:List Addr}{h h':Heap}(k:∀b o,h.get? b=some o->b∉ch->h'.get? b=some o):lD fs ch h h':=⟨fun b o e n _=>k b o e n,fun b o e n=>⟨o.slots,k b o e n⟩⟩
theorem lD.set{fs:List Addr}(h:Heap)(a:Addr)(f:Obj->Obj):lD fs [a] h (h.update a f):=.of_keep fun b o e n=>(Heap.get?_update_other _ _ (by simpa using Ne.symm (by simpa using n))).trans e
section
variable{M:Model}{A:Around}{E:Value->Shared->Prop}{s:Shared}
theorem iT.GX{base:Heap}{l:List Env}{e C:Addr}{tb:Value}(hx:iT s.heap e C tb)(hl:s.heap.FunFrames base l):e∉frs l:=fun hm=>by obtain⟨o,vs,h1,_,h2,_⟩:=hx;obtain⟨_,o',h3,h4⟩:=hl.mem hm;rw[h1]at h3;cases h3;exact h4 vs h2
theorem nZ{base:Heap}{env:Env}{outer:List Env}{L e C:Addr}{tb head:Value}{hadNext:Bool}{Q:Unit->Shared->Prop}(hfr:A.frames=some (env::outer))(hl:s.heap.FunFrames base (env::outer))(hf:env.frame=some L)(hx:iT s.heap e C tb)(k:∀h' T,s.heap.objs.size<=T->T≠e->lD (frs (env::outer)) [e] s.heap h'->iT h' e C (.ref T)->DQ h' T (rawInt L)->Q () {s with heap:=h'}):wpAny M A (do let a<-frameOf env;let pl<-entryPlaceOf L hadNext;let b<-EntryCells.newEntry head a .none (rawInt L) .none pl;setField (.ref e) 1 b) Q E s:=by
 have hne:=hx.GX hl;obtain⟨oe,vs,he,hcl,hd,h1,hdi⟩:=hx;have hsz:=(Array.getElem?_eq_some_iff.mp h1).1;refine wpAny_bind (wpAny_frameOf_fun hfr hl hf fun h1' so=>wpAny_bind (wpAny_entryPlaceOf fun pl hpl=>?_));unfold EntryCells.newEntry newFields;refine wpAny_bind (wpAny_newObj_type ?_ (hpl.sizeOk5 _ _ _ _ _));have b1:lD (frs (env::outer)) [e] s.heap h1':=⟨fun b o q _ n=>(so.2.1 b n).trans q,fun b o q _=>so.2.2 b o q⟩;have he1:h1'.get? e=some oe:=(so.2.1 e hne).trans he;generalize hO:({cls:=.type "traceback",dict:=none,data:=.fields ([head,.ref L,.none,rawInt L,.none]++(if pl.isEmpty then List.replicate 6 Value.none else pl)).toArray}:Obj)=oT;have he2:=Heap.get?_push_of_some (h:=h1') oT he1;refine wpAny_setField he2 hd hsz ?_;have hTe:h1'.objs.size≠e:=Nat.ne_of_gt (Heap.lt_size he1);have NK:=Obj.data_mapFields hd (·.setIfInBounds 1 (Value.ref h1'.objs.size));have he3:=Heap.get?_update_self (Obj.mapFields (·.setIfInBounds 1 (Value.ref h1'.objs.size))) he2 (Obj.isFreed_of_fields NK);have hT3:((h1'.push oT).update e (Obj.mapFields (·.setIfInBounds 1 (Value.ref h1'.objs.size)))).get? h1'.objs.size=some oT:=by rw[Heap.get?_update_other _ _ (Ne.symm hTe)];exact Heap.get?_push_size h1' (by rw[<-hO];rfl)
 refine k _ h1'.objs.size ?_ hTe (b1.trans ((lD.of_keep fun b o q _=>Heap.get?_push_of_some _ q).trans (lD.set _ _ _))) ⟨_,_,he3,?_,NK,by simp[hsz],xV.trans hdi⟩ ⟨oT,_,hT3,by rw[<-hO],?_⟩;.exact Nat.le_of_eq so.1.symm
 .rw[Obj.cls_mapFields];exact hcl
 .first|(simp;done)|(rcases hpl with rfl|⟨_,_,_,_,_,_,_,rfl⟩<;>simp)
theorem pM{base:Heap}{env:Env}{outer:List Env}{L e C:Addr}{tb:Value}{Q:Unit->Shared->Prop}(hfr:A.frames=some (env::outer))(hl:s.heap.FunFrames base (env::outer))(hf:env.frame=some L)(hx:iT s.heap e C tb)(ht:tb=.none\/∃T,tb=.ref T/\T≠e/\DQ s.heap T .none)(k:∀h' T',s.heap.objs.size<=T'->T'≠e->lD (frs (env::outer)) (e::Ek tb) s.heap h'->iT h' e C (.ref T')->DQ h' T' .none->Q () {s with heap:=h'}):wpAny M A (noteFrame (.ref e) env) (fun _ s2=>wpAny M A (setFlight (.ref e) none) Q E s2) E s:=by
 have fin:∀(h2:Heap)(T':Addr),s.heap.objs.size<=T'->T'≠e->lD (frs (env::outer)) (e::Ek tb) s.heap h2->iT h2 e C (.ref T')->DQ h2 T' (rawInt L)->wpAny M A (setFlight (.ref e) none) Q E {s with heap:=h2}:=by
  intro h2 T' n0 n2 b2 x2 t2;have n1:s.heap.get? T'=none:=Heap.get?_none_of_le n0;obtain⟨o,vs,q1,q2,q3,q4,q5⟩:=x2;obtain⟨oT,ts,z1,z2,z3⟩:=t2;unfold setFlight;refine wpAny_bind (wpAny_field q1 q3 q4 ?_);rw[if_pos (show(Value.ref T' !=Value.none)=true from by simp)];have hsz:=(Array.getElem?_eq_some_iff.mp z3).1;have hd:=Obj.data_mapFields z2 (·.setIfInBounds 3 ((none:Option Addr).elim Value.none fun f=>rawInt f));refine wpAny_setField z1 z2 hsz (k _ T' n0 n2 ⟨fun b o' e' n f=>?_,fun b o' e' n=>?_⟩ ⟨o,vs,?_,q2,q3,q4,q5⟩ ⟨_,_,Heap.get?_update_self _ z1 (Obj.isFreed_of_fields hd),hd,by simp[hsz]⟩)
  . have:T'≠b:=by rintro rfl;rw[n1]at e';cases e'
    rw[Heap.get?_update_other _ _ this];exact b2.keep b o' e' n f
  . have:T'≠b:=by rintro rfl;rw[n1]at e';cases e'
    obtain⟨sl,q⟩:=b2.slot b o' e' n;exact⟨sl,by rw[Heap.get?_update_other _ _ this];exact q⟩
  .rw[Heap.get?_update_other _ _ n2];exact q1
 obtain⟨o,vs,q1,q2,q3,q4,q5⟩:=id hx;unfold noteFrame;simp only[hf];refine wpAny_bind (wpAny_field q1 q3 q4 ?_);rcases ht with rfl|⟨T,rfl,hTe,oT,ts,z1,z2,z3⟩;.rw[if_neg (by decide)];exact nZ hfr hl hf hx fun h' T' n1 n2 b x t=>fin h' T' n1 n2 b x t
 . rw[if_pos (show(Value.ref T !=Value.none)=true from by simp)];refine wpAny_bind (wpAny_field z1 z2 z3 ?_);rw[if_neg (show ¬((Value.none==rawInt L)=true)from by simp[rawInt])];refine wpAny_bind (wpAny_setField z1 z2 (Array.getElem?_eq_some_iff.mp z3).1 ?_);have b0:lD (frs (env::outer)) [T] s.heap (s.heap.update T (Obj.mapFields (·.setIfInBounds 3 Value.none))):=lD.set _ _ _;have hx':iT (s.heap.update T (Obj.mapFields (·.setIfInBounds 3 Value.none))) e C (.ref T):=⟨o,vs,by rw[Heap.get?_update_other _ _ hTe];exact q1,q2,q3,q4,q5⟩;have hl':(s.heap.update T (Obj.mapFields (·.setIfInBounds 3 Value.none))).FunFrames base (env::outer):=hl.of_keeps fun b o' e' nf=>by
    have:T≠b:=by rintro rfl;rw[z1]at e';cases e';exact nf ts z2
    exact⟨o',by rw[Heap.get?_update_other _ _ this];exact e',rfl⟩
   refine nZ (s:={s with heap:=s.heap.update T (Obj.mapFields (·.setIfInBounds 3 Value.none))}) hfr hl' hf hx' fun h' T' n1 n2 b x t=>fin h' T' ?_ n2 ((b0.more (by simp[Ek])).trans (b.more (by simp))) x t;exact Nat.le_trans (Nat.le_of_eq (Heap.size_update _ _ _).symm) n1
end
end L2
end
section
namespace L2
open PySem PySem.Spec PyProof.Rows
structure UT(old:Heap)(H:Hp)(C e:Addr)(h:Heap):Prop where
 free:H e=none
 new:old.get? e=none
 ex:∃tb,iT h e C tb/\(tb=.none\/∃T,tb=.ref T/\T≠e/\DQ h T .none/\H T=none/\old.get? T=none)
noncomputable def zp(P:Program)(w:World):zr:=fun outer H s E e s'=>∃(H':Hp)(C ea:Addr),e=.ref ea/\s'.os=s.os/\AllBare s'.gens/\Un (frs outer) [] H H' s.heap s'.heap/\ji P w H' s'.heap/\UT s.heap H' C ea s'.heap/\E e (some C) H'
theorem lD.hok{P:Program}{w:World}{H:Hp}{h h':Heap}{fs ch:List Addr}(b:lD fs ch h h')(o:ji P w H h)(h1:∀c∈fs,H c=none)(h2:∀c∈ch,H c=none):ji P w H h':=by
 intro a u e;refine(o a u e).stay (fun c v hc q=>b.keep c v q (fun z=>?_) fun z=>?_) (fun c q=>q) fun c xs q=>q
 . have:=h2 c z;rcases hc with rfl|hc;.rw[e]at this;cases this
   .rw[hc]at this;cases this
 . have:=h1 c z;rcases hc with rfl|hc;.rw[e]at this;cases this
   .rw[hc]at this;cases this
section
variable{X:Cx}{pins:List (Addr×Obj)}{σ:St}{H:Hp}{s:Shared}
theorem gone{h h':Heap}{fs ex:List Addr}{H H':Hp}(u:Un fs ex H H' h h'){b:Addr}(hb:b∉ex)(n:h'.get? b=none):h.get? b=none:=by cases q:h.get? b with|none=>rfl|some o=>obtain⟨o',z⟩:=u.there b o q hb;rw[n]at z;cases z
theorem qU{tb:Value}{b:Addr}(h:b∈Ek tb):tb=.ref b:=by cases tb with|ref T=>simp[Ek]at h;rw[h]|_=>simp[Ek]at h
theorem pD{outer:List Env}{h':Heap}{C e T':Addr}{tb:Value}(I:Inv X pins σ H s)(hex:X.ex=[])(lY:X.stack=X.env::X.outer/\X.env.frame=some X.env.locals)(f:UT X.s₀.heap H C e s.heap)(hx:iT s.heap e C tb)(ht:tb=.none\/∃T,tb=.ref T/\T≠e/\DQ s.heap T .none/\H T=none/\X.s₀.heap.get? T=none)(n0:s.heap.objs.size<=T')(n2:T'≠e)(b:lD (frs X.stack) (e::Ek tb) s.heap h')(x':iT h' e C (.ref T'))(t':DQ h' T' .none):Un X.fs [] X.H₀ H X.s₀.heap h'/\ji X.prog X.w H h'/\UT X.s₀.heap H C e h':=by
 have uG:∀c∈e::Ek tb,H c=none/\X.s₀.heap.get? c=none:=fun c hc=>by
  rcases List.mem_cons.mp hc with rfl|hc;.exact⟨f.free,f.new⟩
  . have:=qU hc;subst this;rcases ht with z|⟨T,z,_,_,z1,z2⟩;.cases z
    .cases z;exact⟨z1,z2⟩
 have hfs:frs X.stack=X.env.locals::X.fs:=by rw[lY.1];simp[frs,lY.2,Cx.fs]
 have hloc:X.s₀.heap.get? X.env.locals=none:=Heap.get?_none_of_le I.ok.above;have hT':H T'=none:=I.hok.fresh n0;have n1:s.heap.get? T'=none:=Heap.get?_none_of_le n0;have u:=I.base;rw[hex]at u;refine⟨⟨fun c o q n nf _=>?_,fun c o q n hf _=>?_,fun c o q n _=>u.free c o q n (by simp),fun c o q _=>?_,u.tups,u.lX,u.oG⟩,b.hok I.hok I.mD fun c hc=>(uG c hc).1,⟨f.free,f.new,_,x',.inr ⟨T',rfl,n2,t',hT',gone u (by simp) n1⟩⟩⟩
 . refine b.keep c o (u.keep c o q n nf (by simp)) (fun z=>?_) (fun z=>?_);.rw[(uG c z).2]at q;cases q
   . rw[hfs]at z;rcases List.mem_cons.mp z with rfl|z;.rw[hloc]at q;cases q
     .exact nf z
 . obtain⟨sl,q'⟩:=u.slot c o q n hf (by simp);obtain⟨sl',q''⟩:=b.slot c _ q' fun z=>by rw[(uG c z).2]at q;cases q
   exact⟨sl',q''⟩
 . obtain⟨o',q'⟩:=u.there c o q (by simp);obtain⟨sl,q''⟩:=b.slot c _ q' fun z=>by rw[(uG c z).2]at q;cases q
   exact⟨_,q''⟩
theorem cB.there{P:Program}{w:World}{H:Hp}{h:Heap}{a:Addr}{o:HO}(x:cB P w H h a o):∃u,h.get? a=some u:=by cases o with|lst xs=>obtain⟨_,_,_,_,e⟩:=x;exact⟨_,e⟩|tup xs=>obtain⟨_,_,_,_,e,_⟩:=x;exact⟨_,e⟩|dK kvs=>obtain⟨_,_,_,_,o,_,_,e,_⟩:=x;exact⟨_,e⟩|dT kvs=>obtain⟨_,_,_,_,o,_,_,e,_⟩:=x;exact⟨_,e⟩|set S n=>obtain⟨o,_,_,_,e,_⟩:=x;exact⟨_,e⟩|ins C dx fs=>obtain⟨_,_,_,e,_⟩:=x;exact⟨_,e⟩|own y=>obtain⟨_,e⟩:=x;exact⟨_,e⟩|xd fs=>obtain⟨_,⟨_,_,_,e,_⟩,_⟩:=x;exact⟨_,e⟩|zj lo hi=>obtain⟨_,_,_,e⟩:=x;exact⟨_,e⟩|fc ob u=>obtain⟨e,_⟩:=x;exact⟨_,e⟩|Jl ps=>exact⟨_,x⟩|met f y=>exact⟨_,x⟩|ext φ=>obtain⟨_,⟨_,e⟩,_⟩:=x;exact⟨_,e⟩
theorem ji.none{P:Program}{w:World}{H:Hp}{h:Heap}{a:Addr}(o:ji P w H h)(n:h.get? a=none):H a=none:=by cases q:H a with|none=>rfl|some u=>obtain⟨v,z⟩:=(o a u q).there;rw[n]at z;cases z
noncomputable def Off(pn:List (Addr×Obj))(e:Addr)(h:Heap):Prop:=∀p∈pn,p.1≠e/\∀C tb,iT h e C tb->tb≠.ref p.1
noncomputable def Dw(X:Cx)(E:XK):Prop:=∀(pins:List (Addr×Obj))(σ:St)(H:Hp)(s:Shared)(C e:Addr),Inv X pins σ H s->UT X.s₀.heap H C e s.heap->Off X.pn e s.heap->E (.ref e) (some C) H->X.xe (.ref e) s
theorem Dj{P:Program}{w:World}{K:PySem.W.Frag}{mg:Str->Option Value}{base:Heap}{N:List Str}{qual:Str}{scope:Scope}{f:Addr}{cd:Value}{A:Around}{outer:List Env}{s0:Shared}{H0:Hp}{E:XK}:Dw (km (zp P w) P w K mg base N qual scope f cd A outer s0 H0 E) E:=by intro pins σ H s C e I fl _ q;obtain⟨tb,hx,ht⟩:=fl.ex;show wpAny (model P w) (A.deeper (envOfC qual scope s0.heap.objs.size f cd)) (leaving (envOfC qual scope s0.heap.objs.size f cd) (.ref e)) (fun _ s''=>zp P w outer H0 s0 E (.ref e) s'') _ s;unfold leaving;refine wpAny_bind (pM (base:=base) I.ok.frames I.stack rfl hx (ht.imp id fun⟨T,a,b,c,_⟩=>⟨T,a,b,c⟩) fun h' T' n1 n2 b x' t'=>?_);obtain⟨u,ok,Ut⟩:=pD (outer:=outer) I rfl ⟨rfl,rfl⟩ fl hx ht n1 n2 b x' t';exact⟨H,C,e,rfl,I.os,I.bare,u,ok,Ut,q⟩
theorem tZ{P:Program}{w:World}{K:PySem.W.Frag}{mg:Str->Option Value}{base:Heap}{N:List Str}{qual:Str}{scope:Scope}{f:Addr}{cd:Value}{A:Around}{outer:List Env}{s0:Shared}{H0:Hp}{E:XK}:PassesOwn (model P w) (km (zp P w) P w K mg base N qual scope f cd A outer s0 H0 E).A (km (zp P w) P w K mg base N qual scope f cd A outer s0 H0 E).env (km (zp P w) P w K mg base N qual scope f cd A outer s0 H0 E).xe:=PassesOwn.leaving
theorem RB{E:XK}(hex:X.ex=[])(hX:Dw X E):Passes (zp X.prog X.w) X E:=by
 rintro pins σ H s e s' I⟨H',C,ea,he,os,bare,un,ok,fl,q⟩;subst he;obtain⟨hh,g,d,t,os'⟩:=s';obtain rfl:os'=s.os:=os;have I':Inv X pins σ H' ⟨hh,g,d,t,s.os⟩:=I.call (h':=hh) (g':=g) (d':=d) (t':=t) (ch:=[]) un ok bare (fun b z=>absurd z (by simp));have up:∀b,s.heap.get? b=none->X.s₀.heap.get? b=none:=fun b n=>by cases z:X.s₀.heap.get? b with|none=>rfl|some o=>obtain⟨o',z'⟩:=I.base.there b o z (by rw[hex];simp);rw[n]at z';cases z'
 obtain⟨tb,hx,ht⟩:=fl.ex;exact hX pins σ H' _ C ea I' ⟨fl.free,up _ fl.new,tb,hx,ht.imp id fun⟨T,a,b,c,d',n⟩=>⟨T,a,b,c,d',up _ n⟩⟩ (fun p hp=>by
  have hq:=(I.pin p (List.mem_append_left _ hp)).1;refine⟨fun z=>?_,fun C2 tb2 h2 z=>?_⟩;.rw[z,fl.new]at hq;cases hq
  . obtain⟨o,vs,q1,_,q3,q4,_⟩:=hx;obtain⟨o2,vs2,r1,_,r3,r4,_⟩:=h2;rw[q1]at r1;cases r1;rw[q3]at r3;cases r3;rw[q4]at r4;cases r4;rcases ht with t|⟨T,t,_,_,_,n⟩;.rw[t]at z;cases z
    .rw[t]at z;cases z;rw[n]at hq;cases hq) q
theorem Bf{x:Str}{C:Addr}{B newId initId:String}{bm:List Value}{txt:Str}{E:XK}{np cpos cp pos:Pos}{ck}(hc:X.calm=true)(hex:X.ex=[])(hg:Gl X x)(O:OwnCls x C bm newId X.mg X.base)(FB:ExcBaseFacts B newId initId bm)(hX:Dw X E)(hd:(x==("__debug__":Str))=false:=by decide)(he:starEach [.Constant (.str txt) ck cp] X.env=(false,eval (.Constant (.str txt) ck cp) X.env)::starEach [] X.env:=by rfl)(hpl:(backTo cpos (starEach [] X.env)).any (·.1)=false:=by rfl):PS X (.Raise (some (.Call (.Name x np) [.Constant (.str txt) ck cp] [] cpos)) none pos) (fun _ _ H=>∀e,E (.ref e) (some C) H):=by
 intro pins s σ H D I h;obtain⟨tl,N,nm,q,bs,hdct,sn,sub,ab,col,dd,k0,k1,k2,k3,k5,mN,hC,hN,hni,T⟩:=O.obj;refine wpAny_Raise_call_subT (C:=C) (nm:=nm) (q:=q) (N:=N) (bs:=bs) (bm:=tl) (hdct:=hdct) (sn:=sn) (sub:=sub) (ab:=ab) (col:=col) (dd:=dd) (k0:=k0) (k1:=k1) (k2:=k2) (k3:=k3) (k5:=k5) FB (mN:=mN) (T.hasType FB.hasBase) (I.ok.hd hc) (by rw[he];exact hpl) hni (mF I hg O.bound ⟨rfl,?_⟩ hd);rw[he];have I2:Inv X pins σ H {s with toks:=s.toks+1}:=I.tok _;refine Calls.evalArgs_plain (Calls.spliced_cons (Calls.Constant_str (k:=ck) (pos:=cp) (Calls.spliced_nil ⟨rfl,by show 1<=sizeLine;decide,I2.bk _ _ hC,hN.keeps I2.bk,T.keeps I2.bk,fun h' e m=>?_⟩)));have I3:Inv X pins σ H {s with heap:=h',toks:=s.toks+1}:=I2.kept (t':=s.toks+1) m.keeps;obtain⟨t,ht,_⟩:=m.there;have up:X.s₀.heap.get? e=none:=gone I.base (by rw[hex];simp) m.new;exact hX pins σ H _ C e I3 ⟨ji.none I.hok m.new,up,.none,⟨_,_,ht,rfl,rfl,rfl,rfl⟩,.inl rfl⟩ (fun p hp=>by
  have hq:=(I.pin p (List.mem_append_left _ hp)).1;refine⟨fun z=>?_,fun C2 tb2 h2 z=>?_⟩;.rw[z,show s.heap.get? e=none from m.new]at hq;cases hq
  .obtain⟨o2,vs2,r1,_,r3,r4,_⟩:=h2;rw[ht]at r1;cases r1;cases r3;rw[z]at r4;cases r4) (h e)
end
end L2
end
section
namespace L2
open PySem PySem.Spec PyProof.Rows
section
variable{M:Model}{A:Around}{E:Value->Shared->Prop}
theorem oR{h:Heap}{g:Array GenState}{d:Drawn}{t:Nat}{os:OsState}{e C C2:Addr}{oe:Obj}{Q:Bool->Shared->Prop}{nm q:Str}{N:Addr}{bs bm:List Value}{hdct:Bool}{sn:List Str}{sub:List Value}{ab:Bool}{col:Option Bool}{dd:Option Addr}{k0 k1 k2 k3 k5:Option Value}{newId:String}{nm' q':Str}{N':Addr}{bs' bm':List Value}{Uw:Bool}{sn':List Str}{aae:List Value}{ab':Bool}{aaf:Option Bool}{dd':Option Addr}{k0' k1' k2' Js k5':Option Value}{newId':String}(hC:h.get? C=some (excClassObj nm q C N bs bm hdct sn sub ab col dd k0 k1 k2 k3 k5 newId))(Wk:h.get? C2=some (excClassObj nm' q' C2 N' bs' bm' Uw sn' aae ab' aaf dd' k0' k1' k2' Js k5' newId'))(he:h.get? e=some oe)(hcls:oe.cls=.ref C)(hbase:bm'.contains (.type "BaseException")=true)(hab:(Value.ref C::bm).contains (.ref C2)=true)(hq:Q true ⟨h,g,d,t,os⟩):wpAny M A (excMatches (.ref e) (.ref C2)) Q E ⟨h,g,d,t,os⟩:=by
 have hcB:(Value.ref C2::bm').contains (.type "BaseException")=true:=by rw[List.contains_cons,hbase,Bool.or_true]
 have f:=tc_notTuple;unfold excMatches;repeat(first|(with_reducible refine wpAny_loadPart_at he ?_;rw[hcls])|with_reducible refine wpAny_loadPart_at Wk ?_|(with_reducible refine wpAny_isSubtype_exc Wk ?_;rw[hcB])|(with_reducible refine wpAny_isSubtype_exc hC ?_;rw[hab])|wp_step)
 exact hq
end
noncomputable def Under(h:Heap)(C C2:Addr):Prop:=∃nm q N bs bm hdct sn sub ab col dd k0 k1 k2 k3 k5 newId,h.get? C=some (excClassObj nm q C N bs bm hdct sn sub ab col dd k0 k1 k2 k3 k5 newId)/\(Value.ref C::bm).contains (.ref C2)=true
theorem Under.keeps{h h':Heap}{C C2:Addr}(u:Under h C C2)(k:∀b o,h.get? b=some o->h'.get? b=some o):Under h' C C2:=by obtain⟨nm,q,N,bs,bm,hdct,sn,sub,ab,col,dd,k0,k1,k2,k3,k5,newId,hC,hin⟩:=u;exact⟨nm,q,N,bs,bm,hdct,sn,sub,ab,col,dd,k0,k1,k2,k3,k5,newId,k _ _ hC,hin⟩
end L2
end
section
namespace L2
open PySem PySem.Spec PyProof.Rows
noncomputable def lU(X:Cx)(pins:List (Addr×Obj))(kh:Value->Shared->Prop):Cx:={X with pn:=X.pn++pins,xe:=kh}
noncomputable def wM(X:Cx)(e:Addr):Cx:={X with A:=X.A.mark (some (.ref e)),calm:=false}
section
variable{X:Cx}{pins uv:List (Addr×Obj)}{σ:St}{H:Hp}{s:Shared}{kh:Value->Shared->Prop}{e:Addr}
theorem Br:X.Ok↔(lU X pins kh).Ok:=⟨fun o=>⟨o.mod,o.kind,o.glob,o.blt,o.above,o.inj,o.has,o.cab,o.hd,o.frames,o.Jm,o.Qo,o.bs,o.zy,o.rz,o.ur,o.jb,o.DR⟩,fun o=>⟨o.mod,o.kind,o.glob,o.blt,o.above,o.inj,o.has,o.cab,o.hd,o.frames,o.Jm,o.Qo,o.bs,o.zy,o.rz,o.ur,o.jb,o.DR⟩⟩
theorem Eo:X.Ok->(wM X e).Ok:=fun o=>⟨o.mod,o.kind,o.glob,o.blt,o.above,o.inj,o.has,o.cab,(fun z=>by cases z),o.frames,o.Jm,o.Qo,o.bs,o.zy,o.rz,o.ur,o.jb,o.DR⟩
theorem Hc(I:Inv X pins σ H s):Inv (lU X pins kh) [] σ H s:=⟨Br.mp I.ok,I.os,I.bare,I.base,I.loc,I.cell,I.free,I.dW,fun p hp=>I.pin p (by simpa[lU]using hp),I.hok,I.len⟩
theorem jZ(I:Inv (lU X pins kh) uv σ H s):Inv X pins σ H s:=⟨Br.mpr I.ok,I.os,I.bare,I.base,I.loc,I.cell,I.free,I.dW,fun p hp=>I.pin p (List.mem_append_left _ hp),I.hok,I.len⟩
theorem Aw(I:Inv X pins σ H s):Inv (wM X e) pins σ H s:=⟨Eo I.ok,I.os,I.bare,I.base,I.loc,I.cell,I.free,I.dW,I.pin,I.hok,I.len⟩
theorem Inv.but{h':Heap}{ch:List Addr}(I:Inv X pins σ H s)(b:lD (frs X.stack) ch s.heap h')(un:Un X.fs X.ex X.H₀ H X.s₀.heap h')(ok:ji X.prog X.w H h')(nl:X.env.locals∉ch)(nc:∀x c,X.env.cells.lookup x=some c->c∉ch)(np:∀p∈X.pn++pins,p.1∉ch):Inv X pins σ H {s with heap:=h'}:=by
 have cel:∀x c v,X.env.cells.lookup x=some c->s.heap.IsCell c v->h'.IsCell c v:=fun x c v hc⟨o,ho,hd⟩=>by obtain⟨sl,q⟩:=b.slot c o ho (nc x c hc);exact⟨_,q,hd⟩
 refine⟨I.ok,I.os,I.bare,un,?_,fun x c hc=>?_,I.free,I.dW,fun p hp=>?_,ok,I.len⟩;.obtain⟨m,⟨o,es,ep,ho,r⟩,hv⟩:=I.loc;obtain⟨sl,hL⟩:=b.slot _ o ho nl;refine⟨m,⟨_,es,ep,hL,r⟩,fun i x v h1 h2 h3=>?_⟩;obtain⟨u,ru,lk⟩:=hv i x v h1 h2 h3;exact⟨u,ru,lk.imp id fun⟨k,c,hc,ic⟩=>⟨k,c,hc,cel x c _ hc ic⟩⟩
 .obtain⟨v,hv⟩:=I.cell x c hc;exact⟨v,cel x c v hc hv⟩
 .obtain⟨p1,p2,p3,p4,p5⟩:=I.pin p hp;exact⟨b.keep _ _ p1 (np p hp) fun z=>(List.mem_cons.mp (I.nR _ z)).elim p3 p4,p2,p3,p4,p5⟩
theorem iT.nl{C:Addr}{tb:Value}(I:Inv X pins σ H s)(x:iT s.heap e C tb):X.env.locals≠e/\∀y c,X.env.cells.lookup y=some c->c≠e:=by
 obtain⟨o,vs,h1,_,h2,_⟩:=x;refine⟨fun z=>?_,fun y c hc z=>?_⟩;.obtain⟨m,⟨o',es,ep,ho,r,_⟩,_⟩:=I.loc;rw[z,h1]at ho;cases ho;rw[h2]at r;cases r
 .obtain⟨v,o',ho,r⟩:=I.cell y c hc;rw[z,h1]at ho;cases ho;rw[h2]at r;cases r
theorem DQ.nl{T:Addr}{fl:Value}(I:Inv X pins σ H s)(x:DQ s.heap T fl):X.env.locals≠T/\∀y c,X.env.cells.lookup y=some c->c≠T:=by
 obtain⟨o,vs,h1,h2,_⟩:=x;refine⟨fun z=>?_,fun y c hc z=>?_⟩;.obtain⟨m,⟨o',es,ep,ho,r,_⟩,_⟩:=I.loc;rw[z,h1]at ho;cases ho;rw[h2]at r;cases r
 .obtain⟨v,o',ho,r⟩:=I.cell y c hc;rw[z,h1]at ho;cases ho;rw[h2]at r;cases r
end
end L2
end
section
namespace HH
open PySem L2 PySem.Spec PyProof.Rows
noncomputable def tX(K:PySem.W.Frag)(W:Nat->Hp->Prop)(g:List Sl->Option (Nat×List Sl)):TS:=fun _ σ H=>∃F ρ k ρ',GS K F ρ σ H/\g ρ=some (k,ρ')/\∀F' σ' H',bA K F ρ σ H F' ρ' σ' H'->W k H'
noncomputable def Qd(X:Cx)(c:Call)(n:Nat)(W:Nat->Hp->Prop)(st:Stmt)(s:S):Prop:=PS X st (tX X.K W (oK c n s))
noncomputable def Gs(X:Cx)(c:Call)(n:Nat)(W:Nat->Hp->Prop)(st:List Stmt)(s:List S):Prop:=lL X st (tX X.K W (cU c n s))
section
variable{X:Cx}{c:Call}{n:Nat}{W:Nat->Hp->Prop}{e a b tg iter:Expr}{p:P}{pos:Pos}{body:List Stmt}{ss:List S}
theorem SN{st:Stmt}{t u:TS}(h:PS X st t)(h':PS X st u):PS X st (fun D σ H=>t D σ H\/u D σ H):=fun pins s σ H D I q=>q.elim (h pins s σ H D I) (h' pins s σ H D I)
theorem Af{st:List Stmt}{t u:TS}(h:lL X st t)(h':lL X st u):lL X st (fun D σ H=>t D σ H\/u D σ H):=fun pins s σ H D I q=>q.elim (h pins s σ H D I) (h' pins s σ H D I)
theorem fP{st:Stmt}{s:S}(h:∀ρ,oK c n s ρ=none:=by intro _;rfl):Qd X c n W st s:=dR sV fun D σ H⟨F,ρ,k,ρ',g,e,q⟩=>by rw[h]at e;cases e
theorem gq:Gs X c n W [] []:=jl qu fun D σ H⟨F,ρ,k,ρ',g,e,q⟩=>by rw[cU]at e;cases e
theorem cI{st:Stmt}{s:S}{sts:List Stmt}{ss:List S}(h1:SS X c n st s)(h1x:Qd X c n W st s)(h2:Gs X c n W sts ss):Gs X c n W (st::sts) (s::ss):=by refine jl (sU (SN h1 h1x) h2) ?_;rintro D σ H⟨F,ρ,k,ρ',g,e,q⟩;rw[cU]at e;cases hx:oK c n s ρ with|some x=>rw[hx]at e;cases e;exact .inr ⟨F,ρ,k,ρ',g,hx,q⟩|none=>rw[hx]at e;dsimp only at e;cases he:ex c n s ρ with|stuck=>rw[he]at e;cases e|exc _ _=>rw[he]at e;cases e|ok fl ρ1=>rw[he]at e;cases fl with|next=>exact .inl ⟨F,ρ,.next,ρ1,g,he,fun F1 σ1 H1 s1=>⟨F1,ρ1,k,ρ',s1.gs,e,fun F2 σ2 H2 s2=>q F2 σ2 H2 (s1.trans s2)⟩⟩|_=>cases e
theorem Bj{sa sb:List Stmt}{ta tb:List S}(hc:ST X c e p)(ha:Gs X c n W sa ta)(hb:Gs X c n W sb tb):Qd X c n W (.If e sa sb pos) (.ifs p ta tb):=by
 refine dR (Bt hc ha hb) ?_;rintro D σ H⟨F,ρ,k,ρ',g,e,q⟩;rw[oK]at e;split at e;.rename_i x ρ1 e1;refine⟨F,ρ,x,ρ1,g,e1,fun F1 H1 s1=>?_⟩;cases x with|true=>exact⟨F1,ρ1,k,ρ',s1.gs,by simpa using e,fun F2 σ2 H2 s2=>q F2 σ2 H2 (s1.trans s2)⟩|false=>exact⟨F1,ρ1,k,ρ',s1.gs,by simpa using e,fun F2 σ2 H2 s2=>q F2 σ2 H2 (s1.trans s2)⟩
 .cases e
theorem zV{x:Str}{C:Addr}{B newId initId:String}{bm:List Value}{txt:Str}{E:XK}{np cpos cp:Pos}{ck}{kk:Nat}(hc:X.calm=true)(hex:X.ex=[])(hg:Gl X x)(O:OwnCls x C bm newId X.mg X.base)(FB:ExcBaseFacts B newId initId bm)(hX:Dw X E)(hW:∀H,W kk H->∀e,E (.ref e) (some C) H)(hd:(x==("__debug__":Str))=false:=by rfl):Qd X c n W (.Raise (some (.Call (.Name x np) [.Constant (.str txt) ck cp] [] cpos)) none pos) (.vP kk):=by refine dR (Bf hc hex hg O FB hX hd (bu rfl) rfl) ?_;rintro D σ H⟨F,ρ,k,ρ',g,e,q⟩;rw[oK]at e;cases e;exact hW H (q F σ H (.refl g))
noncomputable def Sg(K:PySem.W.Frag)(cl:Nat->Addr)(np:Nat)(f:List Sl->Res R):Sp:=fun vs H _ E=>vs.length=np/\∃F args k args',GS K F args (vs.map some) H/\f args=.exc k args'/\∀F' σ' H' e,bA K F args (vs.map some) H F' args' σ' H'->E (.ref e) (some (cl k)) H'
noncomputable def EW(cl:Nat->Addr)(W:Nat->Hp->Prop):XK:=fun _ C H=>∃k,C=some (cl k)/\W k H
structure rR(Pg:Program)(w:World)(K:PySem.W.Frag)(mg:Str->Option Value)(base:Heap)(cl:Nat->Addr)(k:Nat)(c:Call)(i:Nat)(x:Str)(np:Nat):Prop where ex:∃fa fd qs,dw Pg w K mg base (zp Pg w) k fa fd qs (Sg K cl qs.length (c i))/\mg x=some (.ref fa)/\PySem.W.keepIn K (.ref fa)=true/\Binds K fd qs []/\qs.length=np
theorem FP{c:Call}:∀{ps:List P}{ρ ρ':List Sl}{as:List Arg},rF c ps ρ=.ok as ρ'->as.length=ps.length:=by intro ps;induction ps with|nil=>intro ρ ρ' as h;rw[rF]at h;cases h;rfl|cons q qs ih=>
   intro ρ ρ' as h;rw[rF]at h;split at h;.obtain⟨_,_,_,h⟩:=ao h;obtain⟨xs,ρ2,h2,h⟩:=ao h;cases h;simp[ih h2]
   .obtain⟨_,_,_,h⟩:=ao h;obtain⟨xs,ρ2,h2,h⟩:=ao h;cases h;simp[ih h2]
theorem Fw{cl:Nat->Addr}{kk i fi np:Nat}{x y:Str}{p' pos' cpos:Pos}{es:List Expr}{ps:List P}(hex:X.ex=[])(hX:Dw X (EW cl W))(Cf:rR X.prog X.w X.K X.mg X.base cl kk c fi y np)(hr:gn kk X.A)(hN:X.N.Nodup)(hi:X.N[i]?=some x)(hx:Loc X.env.scope x)(ha:SG X c (e::es) ps)(hg:Gl X y:=by rfl)(hl:(e::es).length=np:=by rfl)(hdb:(y==("__debug__":Str))=false:=by rfl)(he:starEach (e::es) X.env=(false,eval e X.env)::starEach es X.env:=by exact bu rfl)(hpl:(backTo cpos (starEach es X.env)).any (·.1)=false:=by rfl)(hl2:ps.length=(e::es).length:=by rfl)(hs:swapsWith (.Call (.Name y p') (e::es) [] cpos) (some (.Name x pos')) pos.line X.env=pure false:=by rfl)(hf:X.fn x=true\/X.env.scope.names.lookup x=some .local:=by first|exact .inl rfl|exact .inr rfl|assumption):Qd X c n W (.Assign [.Name x pos'] (.Call (.Name y p') (e::es) [] cpos) pos) (.asg i (.call fi ps)):=by
 obtain⟨fa,fd,qs,h1,h2,h3,h4,h5⟩:=Cf.ex;have pe:=wW (p:=p') (pos:=cpos) (E:=EW cl W) h1 hr hg h2 h3 h4 .nil (RB hex hX) ha hdb he hpl;refine dR (CG hN hi hx pe hs hf) ?_;rintro D σ H⟨F,ρ,k,ρ',g,e0,q⟩;rw[oK]at e0;unfold uo qx at e0;dsimp only at e0;split at e0
 . rename_i xs ρ1 e1;split at e0
   . rename_i args hb';split at e0
     . rename_i k' args' hc;cases e0;refine⟨F,ρ,xs,ρ1,g,e1,fun vs F1 H1 s1 A=>?_⟩;have hlen:vs.length=qs.length:=by rw[<-A.len,FP e1,hl2,hl,h5]
       show Sg X.K cl qs.length (c fi) (vs++[]) H1 _ (EW cl W);rw[List.append_nil];refine⟨hlen,F1,args,k,args',args_gs s1.gs A hb',hc,fun F' σ' H' e2 s=>⟨k,rfl,?_⟩⟩;obtain⟨z1,_⟩:=uf s1 A hb' s;exact q F' σ H' z1
     .cases e0
   .cases e0
 .cases e0
end
section
variable{Pg:Program}{w:World}{K:PySem.W.Frag}{mg:Str->Option Value}{base:Heap}
theorem Lk{x qual:Str}{st:Stmt}{f:Addr}{fd:FuncData}{N ps:List Str}{k n:Nat}{c:Call}{d:Fd}{cl:Nat->Addr}(Fu:nY K x qual st f fd)(S:bN N ps (aG st))(h1:d.np=ps.length)(h2:d.nn=N.length)(hb:∀(cdv:Value)(A:Around)(outer:List Env)(s:Shared)(H:Hp)(E:XK)(W:Nat->Hp->Prop),gn k (A.deeper (envOfC qual (aG st) s.heap.objs.size f cdv))->(∀k H,W k H->∀e,E (.ref e) (some (cl k)) H)->Gs (km (zp Pg w) Pg w K mg base N qual (aG st) f cdv A outer s H E) c n W (cR st) d.body):dw Pg w K mg base (zp Pg w) (k+1) f fd ps (Sg K cl ps.length (fun args=>enter c n d args)):=by
 obtain⟨oc,od,kV,doc,pm,an,cdv,ct,osl,rfl,lk,hcd⟩:=Fu.ex;refine HY lk hcd S (fun vs H Q E h=>h.1) fun A outer s H vs Q E hr h=>?_;obtain⟨hl,F,args,kx,args',g,e,q⟩:=h;refine⟨_,hb cdv A outer s H E (fun k H'=>∀e,E (.ref e) (some (cl k)) H') hr (fun k H' h=>h),?_⟩;replace e:enter c n d args=.exc kx args':=e;unfold enter at e;split at e
 . rename_i hc;obtain⟨c1,c2⟩:=hc;have hg:=g.more (n:=d.nn-d.np) (τ:=List.replicate (N.length-vs.length) none) (by simp[h1,h2,hl]);have hla:args.length=d.np:=c1;split at e;.cases e
   .cases e
   . split at e;.rename_i k' ρ' z;cases e;refine⟨F,_,kx,ρ',hg,z,fun F' σ' H' s ee=>?_⟩;obtain⟨z1,_⟩:=bA.less (m:=d.np) hla.symm g (by simp[h1,h2,hl]) s;exact q F' _ H' ee z1
     .cases e
 .cases e
end
section
variable{X:Cx}{c:Call}{n:Nat}
theorem jC{k:Nat}{st:Stmt}:SS X c n st (.vP k):=dR sV fun D σ H⟨F,ρ,fl,ρ',g,e,q⟩=>by rw[ex]at e;cases e
end
structure pH(K:PySem.W.Frag)(x:Str)(C:Addr):Prop where nm:PySem.W.nsIn K mainGlobals x=some (some (.ref C))is:PySem.W.excIn K C [.type "ValueError",.type "Exception",.type "BaseException",.type "object"] "ValueError.__new__"=true
section
variable{Pg:Program}{w:World}{K:PySem.W.Frag}{mg:Str->Option Value}{base h:Heap}
theorem qQ{x:Str}{C:Addr}(k:K.In h)(ns:h.Ns mainGlobals mg)(z:pH K x C):OwnCls x C [.type "ValueError",.type "Exception",.type "BaseException",.type "object"] "ValueError.__new__" mg h:=by
 have y:=z.is;unfold PySem.W.excIn at y;split at y<;>try cases y
 rename_i d1 c1 s1 look;split at y<;>try cases y
 rename_i D1 m1 a0 a1 a2 a3 b1 a5 hmro hlist;simp only[Bool.and_eq_true,beq_iff_eq,Bool.not_eq_true']at y;obtain⟨⟨⟨⟨⟨y1,y2⟩,y3⟩,y4⟩,y5⟩,y6⟩:=y;subst y1;subst y2;cases c1 with|mk n1 bs1 mro1 ns1 q1 hd1 sn1 su1 ab1 co1 de1=>cases s1 with|mk l1=>simp only at hmro hlist y3 y5 y6;subst hmro;subst y3;subst hlist;exact⟨PySem.W.mg_of k ns z.nm,m1,ns1,n1,q1,bs1,hd1,sn1,su1,ab1,co1,d1,a0,a1,a2,a3,a5,_,k _ _ look,.of_isNs (PySem.W.isNs_of_in k y5),PySem.W.nsMap_none_of_in k y5 y6,PySem.W.tail_of_in k y4⟩
theorem JG{Γ:Tab}{cl:Nat->Addr}{wl i np:Nat}{x:Str}{st:Stmt}{ps:List Str}(X:K.In h)(G:h.Ns mainGlobals mg)(D:dN K x st)(hp:ps.length=np)(hb:∀(kV doc pm:Value)(an:Option Addr)(cdv ct:Value)(us:List Value),us.length=ps.length->bindArgs (PySem.W.fnOf x x (eH st) (cR st) (aG st) .none kV doc pm an cdv ct) ⟨us,[]⟩=pure (ps.zip us)):rR Pg w K mg base cl 0 (run Γ wl 0) i x np:=by obtain⟨f,fd,a,F⟩:=D.ex;exact⟨f,fd,ps,⟨fun vs H Q E s=>s.1,fun A outer s H args us vs Q E hr e b v sp=>by obtain⟨_,F,as,r,as',_,z,_⟩:=sp;cases z⟩,PySem.W.mg_of X G a,F.kp,F.binds hb,hp⟩
theorem Nb{Γ:Tab}{cl:Nat->Addr}{wl n i np:Nat}{x:Str}{st:Stmt}{ps:List Str}{d:Fd}(X:K.In h)(G:h.Ns mainGlobals mg)(D:dN K x st)(hp:ps.length=np)(hΓ:Γ i=some d)(hb:∀(kV doc pm:Value)(an:Option Addr)(cdv ct:Value)(us:List Value),us.length=ps.length->bindArgs (PySem.W.fnOf x x (eH st) (cR st) (aG st) .none kV doc pm an cdv ct) ⟨us,[]⟩=pure (ps.zip us))(ok:∀f fd,nY K x x st f fd->dw Pg w K mg base (zp Pg w) (n+1) f fd ps (Sg K cl np (fun args=>enter (run Γ wl n) wl d args))):rR Pg w K mg base cl (n+1) (run Γ wl (n+1)) i x np:=by
 obtain⟨f,fd,a,F⟩:=D.ex;refine⟨f,fd,ps,?_,PySem.W.mg_of X G a,F.kp,F.binds hb,hp⟩;have e:run Γ wl (n+1) i=fun args=>enter (run Γ wl n) wl d args:=by funext args;show(match Γ i with|some d=>enter (run Γ wl n) wl d args|none=>.stuck)=_;rw[hΓ]
 rw[e,hp];exact ok f fd F
end
end HH
namespace HH
open PySem L2 PySem.Spec PyProof.Rows
end HH
namespace HH
open PySem L2 PySem.Spec PyProof.Rows
theorem Bw{K:PySem.W.Frag}{x:Str}{C:Addr}(a:PySem.W.nsIn K mainGlobals x=some (some (.ref C)))(q:PySem.W.excIn K C [.type "ValueError",.type "Exception",.type "BaseException",.type "object"] "ValueError.__new__"=true):∃C,pH K x C:=⟨C,a,q⟩
end HH
end
section
namespace L2
open PySem PySem.Spec PyProof.Rows
section
variable{prog:Program}{w:World}{A:Around}{E:Value->Shared->Prop}{s:Shared}{env:Env}
theorem yp{e C C2:Addr}{x2 n:Str}{Ux:List Value}{NP:String}{mg:Str->Option Value}{t:Expr}{b₀:Stmt}{suite:List Stmt}{pos:Pos}{rest:List ExceptHandler}{Q:Flow->Shared->Prop}(hbase:Ux.contains (.type "BaseException")=true)(h:wpAny (model prog w) (A.mark (some (.ref e))) (eval t env) (fun c s₁=>c=.ref C2/\OwnCls x2 C2 Ux NP mg s₁.heap/\Under s₁.heap C C2/\(∃ oe,s₁.heap.get? e=some oe/\oe.cls=.ref C)/\wpAny (model prog w) (A.mark (some (.ref e))) (setFlight (.ref e) none) (fun _ s₂=>wpAny (model prog w) (A.mark (some (.ref e))) (storeName env n (.ref e)) (fun _ s₃=>wpAny (model prog w) (A.mark (some (.ref e))) (execs (b₀::suite) env) (fun f s₄=>wpAny (model prog w) A (do bindName env n .none;unbindBehindTheSuite env n pos) (fun _ s₅=>Q f s₅) E s₄) (fun _ _=>False) s₃) (fun _ _=>False) s₂) (fun _ _=>False) s₁) (notedBy (model prog w) (A.mark (some (.ref e))) env (cameBackBy (model prog w) A env E)) s):wpAny (model prog w) A (handleBy (.ref e) env (.ExceptHandler (some t) (some n) (b₀::suite) pos::rest)) Q E s:=by refine wpAny_handleBy_cons (codeAny_handlers_test (wpAny_mono h (fun c s₁ h₁=>?_) fun _ _ y=>y)) (by intro q;cases q);obtain⟨rfl,O,⟨nm,q,N,bs,bm,hdct,sn,sub,ab,col,dd,k0,k1,k2,k3,k5,newId,hC,hin⟩,⟨oe,he,hcls⟩,hk⟩:=h₁;obtain⟨bm2,N2,nm2,q2,bs2,abr,sn2,sub2,ab2,col2,dd2,l0,l1,l2,l3,l5,mN,Wk,hN,hq,T⟩:=O.obj;obtain⟨hh,g,d,tk,os⟩:=s₁;exact oR hC Wk he hcls (T.hasType hbase) hin (codeAny_handlers_suite_as (wpAny_mono hk (fun _ s2 h2=>wpAny_mono h2 (fun _ s3 h3=>wpAny_mono h3 (fun f s4 h4=>h4) fun _ _ z=>z.elim) fun _ _ z=>z.elim) fun _ _ z=>z.elim))
end
noncomputable def bB(X:Cx)(e:Addr)(oe:Obj):Cx:={X with A:=X.A.mark (some (.ref e)),calm:=false,pn:=X.pn++[(e,oe)],xe:=fun _ _=>False}
structure OE(oe:Obj)(C:Addr):Prop where
 cls:oe.cls=.ref C
 dict:oe.dict=none
 data:∃vs,oe.data=.fields vs
section
variable{X:Cx}{pins:List (Addr×Obj)}{σ:St}{H:Hp}{s:Shared}{e:Addr}{oe:Obj}
theorem Ar:X.Ok->(bB X e oe).Ok:=fun o=>⟨o.mod,o.kind,o.glob,o.blt,o.above,o.inj,o.has,o.cab,(fun z=>by cases z),o.frames,o.Jm,o.Qo,o.bs,o.zy,o.rz,o.ur,o.jb,o.DR⟩
theorem yS{C:Addr}(I:Inv X pins σ H s)(h1:s.heap.get? e=some oe)(hO:OE oe C)(h2:H e=none)(h3:e≠X.env.locals)(h4:e∉X.fs):Inv (bB X e oe) pins σ H s:=⟨Ar I.ok,I.os,I.bare,I.base,I.loc,I.cell,I.free,I.dW,fun p hp=>by
  have hp':p∈(X.pn++[(e,oe)])++pins:=hp;rw[List.append_assoc,List.mem_append,List.mem_append,List.mem_singleton]at hp';rcases hp' with z|z|z;.exact I.pin p (List.mem_append_left _ z)
  .subst z;refine⟨h1,h2,h3,h4,fun v q=>?_⟩;obtain⟨vs,z⟩:=hO.data;rw[show(e,oe).2.data=.fields vs from z]at q;cases q
  .exact I.pin p (List.mem_append_right _ z),I.hok,I.len⟩
theorem iy(o:X.Ok)(I:Inv (bB X e oe) pins σ H s):Inv X pins σ H s:=⟨o,I.os,I.bare,I.base,I.loc,I.cell,I.free,I.dW,fun p hp=>I.pin p (by
  show p∈(X.pn++[(e,oe)])++pins;rcases List.mem_append.mp hp with z|z;.exact List.mem_append_left _ (List.mem_append_left _ z)
  .exact List.mem_append_right _ z),I.hok,I.len⟩
theorem mJ{M:Model}{A:Around}{E:Value->Shared->Prop}{i:Nat}{x:Str}{pos:Pos}{Q:Unit->Shared->Prop}(I:Inv X pins σ H s)(hN:X.N.Nodup)(hi:X.N[i]?=some x)(hk:X.env.kindOf x=some .local)(h:∀s',Inv X pins (σ.set i none) H s'->Q () s'):wpAny M A (do bindName X.env x .none;unbindBehindTheSuite X.env x pos) Q E s:=by
 obtain⟨m,hn,hl⟩:=id I.loc;have hcls:(X.env.scope.kind==.class||(X.env.scope.kind==.module&&X.env.locals !=X.env.globals))=false:=by rw[I.ok.kind];rfl
 have Be:=I.Be;refine wpAny_nameGoes_keeps hk hn hcls fun h' v hn' hs=>?_;obtain⟨oL,_,_,hoL,_⟩:=id hn;have tracked:ji X.prog X.w H h':=fun b ob e=>by
  refine(I.hok b ob e).stay (fun c w' hc q=>(hs.2 c ?_).trans q) (fun _ q=>q) fun _ _ q=>q;rintro rfl;rcases hc with rfl|hc;.rw[I.free]at e;cases e
  .rw[I.free]at hc;cases hc
 refine h _ (Inv.tok (s:={s with heap:=h'}) ⟨I.ok,I.os,I.bare,⟨fun b o e n hb hx=>?_,fun b o e n hb hx=>?_,I.base.free,fun b o e hx=>?_,I.base.tups,I.base.lX,I.base.oG⟩,⟨_,hn',fun j y v' e1 e2 e3=>?_⟩,fun y c e=>?_,I.free,I.dW,fun p hp=>?_,tracked,by simpa using I.len⟩ _);.exact(hs.2 b (Nat.ne_of_lt (Nat.lt_of_lt_of_le (Heap.lt_size e) I.ok.above))).trans (I.base.keep b o e n hb hx)
 .obtain⟨sl,e1⟩:=I.base.slot b o e n hb hx;exact⟨sl,(hs.2 b (Nat.ne_of_lt (Nat.lt_of_lt_of_le (Heap.lt_size e) I.ok.above))).trans e1⟩
 .obtain⟨o',e1⟩:=I.base.there b o e hx;exact⟨o',(hs.2 b (Nat.ne_of_lt (Nat.lt_of_lt_of_le (Heap.lt_size e) I.ok.above))).trans e1⟩
 . by_cases hj:j=i;.subst hj;rw[List.getElem?_set]at e2;simp at e2
   . rw[List.getElem?_set_ne (Ne.symm hj)]at e2;obtain⟨u',r',q⟩:=hl j y v' e1 e2 e3;refine⟨u',r',?_⟩;rcases q with⟨k,e⟩|⟨k,c,e,z⟩;.refine .inl ⟨k,?_⟩;have:y≠x:=fun e=>hj (m6 hN e1 (e▸hi));simp[this,e]
     .exact .inr ⟨k,c,e,z.sameBut hs (Be y c e)⟩
 .obtain⟨w',z⟩:=I.cell y c e;exact⟨w',z.sameBut hs (Be y c e)⟩
 .obtain⟨e,n,ne,nf,d⟩:=I.pin p hp;exact⟨(hs.2 p.1 ne).trans e,n,ne,nf,d⟩
noncomputable def Lb(i:Nat)(D:Ends):Ends:=⟨fun σ H=>D.nx (σ.set i none) H,D.rt,fun σ H=>D.bk (σ.set i none) H,fun σ H=>D.ct (σ.set i none) H⟩
theorem Hd{x y:Str}{i:Nat}{C:Addr}{bm:List Value}{newId:String}{E:XK}{body suite:List Stmt}{b0:Stmt}{np hpos pos:Pos}{tb:TS}{th:Addr->Addr->TS}(hg:Gl X x)(O:OwnCls x C bm newId X.mg X.base)(hbase:bm.contains (.type "BaseException")=true)(hex:X.ex=[])(lY:X.stack=X.env::X.outer/\X.env.frame=some X.env.locals)(hN:X.N.Nodup)(hi:X.N[i]?=some y)(hk:X.env.kindOf y=some .local)(hb:∀pins kh,PassesOwn (model X.prog X.w) X.A X.env kh->Dw (lU X pins kh) E->lL (lU X pins kh) body tb)(hh:∀e oe C',OE oe C'->lL (bB X e oe) (b0::suite) (th C' e))(hd:(x==("__debug__":Str))=false:=by decide):PS X (.Try body [.ExceptHandler (some (.Name x np)) (some y) (b0::suite) hpos] [] [] pos) (fun D σ H=>tb D σ H/\∀(σ':St)(e C':Addr)(H':Hp),σ'.length=X.N.length->E (.ref e) (some C') H'->Under X.base C' C/\th C' e (Lb i D) (σ'.set i (some (.ref e))) H'):=by
 rintro pins s σ H D I⟨h1,h2⟩;refine wpAny_Try_except ?_;generalize Wg:(fun(e:Value)(s₁:Shared)=>wpAny (model X.prog X.w) X.A (noteFrame e X.env) (fun _ s₂=>wpAny (model X.prog X.w) X.A (setFlight e none) (fun _ s₃=>wpAny (model X.prog X.w) X.A (handleBy e X.env [.ExceptHandler (some (.Name x np)) (some y) (b0::suite) hpos]) (SP X pins D) X.xe s₃) X.xe s₂) X.xe s₁)=kh;have hp:PassesOwn (model X.prog X.w) X.A X.env kh:=by rw[<-Wg];exact PassesOwn.looking
 have hX:Dw (lU X pins kh) E:=by
  intro uv σ' H' s' C' e I' fl off q;obtain⟨un,ht⟩:=h2 σ' e C' H' I'.len q;obtain⟨tbv,hx,htb⟩:=fl.ex;have J:Inv X pins σ' H' s':=jZ I';show kh (.ref e) s';rw[<-Wg];show wpAny (model X.prog X.w) X.A (noteFrame (.ref e) X.env) _ X.xe s';refine pM (base:=X.base) (env:=X.env) (outer:=X.outer) (by rw[J.ok.frames,lY.1]) (by rw[<-lY.1];exact J.stack) lY.2 hx (htb.imp id fun⟨T,a,b,c,_⟩=>⟨T,a,b,c⟩) fun h' T' n1 n2 b x' t'=>?_;have b':lD (frs X.stack) (e::Ek tbv) s'.heap h':=by rw[lY.1];exact b
  obtain⟨u,ok,Ut⟩:=pD (X:=X) (outer:=X.outer) J hex lY fl hx htb n1 n2 b' x' t';have nT:∀T,tbv=.ref T->DQ s'.heap T .none:=fun T z=>by
   rcases htb with y|⟨T2,y,_,q,_⟩;.rw[y]at z;cases z
   .rw[y]at z;cases z;exact q
  have I2:Inv X pins σ' H' {s' with heap:=h'}:=J.but b' (by rw[hex];exact u) ok (fun z=>by
   rcases List.mem_cons.mp z with z|z;.exact(hx.nl J).1 z
   .exact((nT _ (qU z)).nl J).1 rfl) (fun y c hc z=>by
   rcases List.mem_cons.mp z with z|z;.exact(hx.nl J).2 y c hc z
   .exact((nT _ (qU z)).nl J).2 y c hc rfl) (fun p hp z=>by
   have o:=off p hp;rcases List.mem_cons.mp z with z|z;.exact o.1 z
   .exact o.2 _ _ hx (qU z));have I3:Inv (wM X e) pins σ' H' {s' with heap:=h'}:=Aw I2;obtain⟨oe,vs,q1,q2,q3,q4,q5⟩:=id x';obtain⟨oT,ts,z1,z2,z3⟩:=id t';refine yp hbase (mF (X:=wM X e) I3 hg O.bound ⟨rfl,O.keeps I2.bk,un.keeps I2.bk,⟨oe,q1,q2⟩,?_⟩ hd);unfold setFlight;refine wpAny_bind (wpAny_field q1 q3 q4 ?_);rw[if_pos (show(Value.ref T' !=Value.none)=true from by simp)];refine wpAny_setField z1 z2 (Array.getElem?_eq_some_iff.mp z3).1 ?_;have hT':H' T'=none:=J.hok.fresh n1;have nT':s'.heap.get? T'=none:=Heap.get?_none_of_le n1;have b2:lD (frs X.stack) [T'] h' (h'.update T' (Obj.mapFields (·.setIfInBounds 3 ((none:Option Addr).elim Value.none fun f=>rawInt f)))):=lD.set _ _ _;have old:∀c o,X.s₀.heap.get? c=some o->c≠T':=fun c o z y=>by obtain⟨o',w⟩:=J.base.there c o z (by rw[hex];simp);rw[y,nT']at w;cases w
  have I4:Inv X pins σ' H' {s' with heap:=h'.update T' (Obj.mapFields (·.setIfInBounds 3 ((none:Option Addr).elim Value.none fun f=>rawInt f)))}:=I2.but b2 ⟨fun c o q n nf ne=>by rw[Heap.get?_update_other _ _ (Ne.symm (old c o q))];exact I2.base.keep c o q n nf ne,fun c o q n hf ne=>by rw[Heap.get?_update_other _ _ (Ne.symm (old c o q))];exact I2.base.slot c o q n hf ne,I2.base.free,fun c o q ne=>by rw[Heap.get?_update_other _ _ (Ne.symm (old c o q))];exact I2.base.there c o q ne,I2.base.tups,I2.base.lX,I2.base.oG⟩ (b2.hok I2.hok I2.mD fun c hc=>by rw[List.mem_singleton.mp hc];exact hT') (fun z=>(t'.nl I2).1 (List.mem_singleton.mp z)) (fun y c hc z=>(t'.nl I2).2 y c hc (List.mem_singleton.mp z)) (fun p hp z=>by have w:=(J.pin p hp).1;rw[List.mem_singleton.mp z,nT']at w;cases w);have hO:OE oe C':=⟨q2,q5,vs,q3⟩;have nfs:e∉frs X.stack:=iT.GX (s:={s' with heap:=h'}) x' I2.stack;have I5:Inv (bB X e oe) pins σ' H' {s' with heap:=h'.update T' (Obj.mapFields (·.setIfInBounds 3 ((none:Option Addr).elim Value.none fun f=>rawInt f)))}:=yS I4 (by show(h'.update T' _).get? e=_;rw[Heap.get?_update_other _ _ n2];exact q1) hO Ut.free (Ne.symm (iT.nl (X:=X) I2 x').1) (fun z=>nfs (by rw[lY.1];simp only[frs,List.filterMap_cons,lY.2];exact List.mem_cons_of_mem _ z));refine gR (X:=bB X e oe) I5 hN hi (.inl hk) (v:=.ref e) rfl (fun s6 I6=>?_) (.inr hk);refine dq (hh e oe C' hO pins s6 _ H' (Lb i D) I6 ht) fun f s7 y=>?_;cases f with|next=>obtain⟨a,b,c,d⟩:=y;exact mJ (iy J.ok c) hN hi hk fun s8 I8=>⟨_,b,I8,d⟩|brk=>obtain⟨a,b,c,d⟩:=y;exact mJ (iy J.ok c) hN hi hk fun s8 I8=>⟨_,b,I8,d⟩|cont=>obtain⟨a,b,c,d⟩:=y;exact mJ (iy J.ok c) hN hi hk fun s8 I8=>⟨_,b,I8,d⟩|ret u=>obtain⟨a,b,c,d,y⟩:=y;exact mJ (iy J.ok d) hN hi hk fun s8 I8=>⟨a,_,c,I8,y⟩
 have w:=hb pins kh hp hX [] s σ H D (Hc I) h1;refine wpAny_mono w (fun f s5 y=>?_) fun e s5 y=>?_;.cases f with|next=>obtain⟨a,b,c,d⟩:=y;show wpAny (model X.prog X.w) X.A (execs [] X.env) _ _ s5;exact wpAny_execs_nil ⟨a,b,jZ c,d⟩|brk=>obtain⟨a,b,c,d⟩:=y;exact⟨a,b,jZ c,d⟩|cont=>obtain⟨a,b,c,d⟩:=y;exact⟨a,b,jZ c,d⟩|ret u=>obtain⟨a,b,c,d,y⟩:=y;exact⟨a,b,c,jZ d,y⟩
 .exact y
end
structure CQ(K:PySem.W.Frag)(D:Addr):Prop where
 g:PySem.W.findIn K (.ref D) "__getattribute__"=some (some (.builtin "BaseException.__getattribute__"))h:PySem.W.findIn K (.ref D) "__getattr__"=some none
 b:PySem.W.mroIn K D (.type "BaseException")=some true
 c:(PySem.W.clsIn K D).isSome=true
 a:PySem.W.findIn K (.ref D) "__class__"=some (some (.builtin "object.__class__"))n:PySem.W.specialIn K (.builtin "object.__class__") "__get__"=some (some (.builtin "getset_descriptor.__get__"))t:PySem.W.takesIn K (.builtin "object.__class__")=some true
 m:PySem.W.mroIn K D (.type "object")=some true
theorem xZ{K:PySem.W.Frag}{x D:Addr}{ox:Obj}{prog:Program}{w:World}{A:Around}{E:Value->Shared->Prop}{s:Shared}{Q:Option Value->Shared->Prop}(Z:CQ K D)(X:K.In s.heap)(I:PySem.W.InstAt s.heap x ox D none)(h:Q (some (.ref D)) {s with toks:=s.toks+1}):wpAny (model prog w) A (getAttr? (.ref x) "__class__") Q E s:=by
 obtain⟨cd,hc⟩:=Option.isSome_iff_exists.mp Z.c;have hf:PySem.W.findObj K D none "__class__"=some (.bind (.builtin "getset_descriptor.__get__") (.builtin "object.__class__")):=by unfold PySem.W.findObj;rw[hc,Option.bind_some,Z.a,Option.bind_some];simp[Z.n,Z.t]
 obtain⟨hh,g,d,t,os⟩:=s;have L0:=I.type (M:=model prog w);have L1:=PySem.W.looks_findIn (M:=model prog w) X Z.g;have L2:=PySem.W.looks_findIn (M:=model prog w) X Z.h;have L3:=PySem.W.looks_find (M:=model prog w) X I hf;have L4:=PySem.W.looks_mroIn (M:=model prog w) X Z.b;have hx2:(Value.builtin "BaseException.__getattribute__"==Value.builtin "object.__getattribute__")=false:=by decide+kernel
 have f3:=F.excAttr_ValueError.ga.bind (.ref x);unfold getAttr? getAttrBy? getAttrBy;refine wpAny_bind (wpAny_mkText (wpAny_bind (wpAny_attempt (wpAny_holding (wpAny_bind (L0.at (wpAny_bind (L1.at ?_))))))));simp only[hx2,Bool.and_false,Bool.false_eq_true,if_false];unfold getAttrByItsOwn hookBefore;simp only[onTheHeap,if_true];refine wpAny_bind (L2.at (wpAny_bind (wpAny_attempt (wpAny_holding ?_))));unfold callGetattribute;simp only[Bool.false_and,Bool.false_eq_true,if_false];unfold boundAndCalled;refine wpAny_bind (wpAny_of_eq f3 ?_);refine wpAny_call (codeAny_call_builtin F.excAttr_ValueError.ga.plain F.entry_bexc_ga ?_);have hk:builtinKind "BaseException.__getattribute__"=some .slot:=by decide+kernel
 have hsplit:splitId "BaseException.__getattribute__"=some ("BaseException","__getattribute__"):=by decide+kernel
 have ha:=F.args_bexc_ga (.ref x) (.str "__class__" t);simp only[checkBuiltinCall,hk,hsplit];refine wpAny_bind ?_;unfold isInstance;repeat(first|with_reducible refine wpAny_bind (L0.at ?_)|with_reducible refine wpAny_bind (L4.at ?_)|with_reducible refine L4.at ?_|with_reducible refine L0.at ?_|with_reducible refine wpAny_bind (L3.at ?_)|with_reducible refine L3.at ?_|wp_step)
 refine PySem.W.class_get (s:=⟨hh,g,d,t+1,os⟩) (ox:=ox) (od:=none) X I Z.m ?_;refine wpAny_pure ?_;first
  |exact PySem.W.handed_on rfl (wpAny_pure h)|(refine wpAny_mono (PySem.W.handed_on (Q:=fun v s'=>v=.ref D/\s'=⟨hh,g,d,t+1,os⟩) rfl ⟨rfl,rfl⟩) (fun v s' z=>?_) (fun _ _ z=>z);obtain⟨rfl,rfl⟩:=z;exact wpAny_pure h)
  | (repeat(first|wp_step)
     exact h)
theorem rM{K:PySem.W.Frag}{x D:Addr}{ox:Obj}(Z:CQ K D):PySem.W.KitX K (.ref x) (.ref D) (fun h=>PySem.W.InstAt h x ox D none)where
 ty:=fun _ _ _ I=>I.type;it:=fun _ _ X _=>by
  obtain⟨cdD,hcD⟩:=Option.isSome_iff_exists.mp Z.c;unfold PySem.W.clsIn at hcD;split at hcD;.rename_i c' d' cd' sl' ho;intro A' Q' E' s' k q;unfold isType loadHead;exact wpAny_bind (wpAny_loadPart (k _ _ (X _ _ ho)) (wpAny_pure q))
  .cases hcD
 ne:=fun h tp dd its n sl X htp=>by
  obtain⟨cdD,hcD⟩:=Option.isSome_iff_exists.mp Z.c;refine Bool.eq_false_iff.mpr fun q=>?_;have e:D=tp:=Value.ref.inj (beq_iff_eq.mp q);subst e;unfold PySem.W.clsIn at hcD;split at hcD;.rename_i c' d' cd' sl' ho;have z:=(X _ _ ho).symm.trans htp;cases z
  .cases hcD
 ca:=fun{prog w A E Q s}X I h=>xZ Z X I h
section
variable{X:Cx}{e C:Addr}{oe:Obj}
theorem zY{pins:List (Addr×Obj)}{σ:St}{H:Hp}{s:Shared}(hO:OE oe C)(I:Inv (bB X e oe) pins σ H s):PySem.W.InstAt s.heap e oe C none:=by
 have h:=(I.pin (e,oe) (List.mem_append_left _ (List.mem_append_right _ (List.mem_singleton.mpr rfl)))).1;refine⟨h,hO.cls,?_,?_⟩;.obtain⟨vs,z⟩:=hO.data;unfold PySem.W.notCls;rw[z]
 .rw[hO.dict];trivial
theorem Ra{c:V}{cv:Value}{b:Bool}(hO:OE oe C)(Z:CQ X.K C)(hc:∀u,RelV c u->u=cv)(hk:PySem.W.kitOne X.K (.ref C) cv=some b):eZ (bB X e oe) (.builtin "isinstance") (fun xs H Q=>xs=[.ref e,c]/\Q (.bl b) H):=by rintro pins s σ H xs us Q I r⟨hx,q⟩;subst hx;obtain⟨u,w',rfl,rx,rt⟩:=r.two;cases(show u=Value.ref e from rx);cases hc _ rt;exact PySem.W.kia_one (rM Z) I.DP (zY hO I) hk nofun fun tk=>⟨.bl _,H,I.tok tk,rfl,q⟩
theorem Jx{cs:List V}{Jt:List Value}{b:Bool}(hO:OE oe C)(Z:CQ X.K C)(hc:∀us,Vals cs us->us=Jt)(hk:PySem.W.kitAny X.K (.ref C) Jt=some b):eZ (bB X e oe) (.builtin "isinstance") (fun xs H Q=>∃q,xs=[.ref e,.ref q]/\H q=some (.tup cs)/\Q (.bl b) H):=by rintro pins s σ H xs us Q I r⟨q,hx,hq,k⟩;subst hx;obtain⟨u,w',rfl,rx,rt⟩:=r.two;cases(show u=Value.ref e from rx);cases(show w'=Value.ref q from rt);obtain⟨_,its,rv,⟨⟨cls,dd,data,sl⟩,ho,hcl,n,hd⟩⟩:=(show cB X.prog X.w H s.heap q (.tup _)from I.hok q _ hq);simp only at hcl hd;subst hcl hd;cases hc _ rv;exact PySem.W.kia_tup (rM Z) I.DP (zY hO I) ho hk nofun fun tk=>⟨.bl _,H,I.tok tk,rfl,k⟩
end
end L2
end
section
namespace HH
open PySem L2 PySem.Spec PyProof.Rows
section
variable{K:PySem.W.Frag}{F H F1 H1:Hp}{ρ ρ1:List Sl}{σ σ1:L2.St}
theorem GQ{s:Sl}(h:Vo s=true):yt s=false:=by cases s<;>simp_all[Vo,yt]
theorem bA.clear(s:bA K F ρ σ H F1 ρ1 σ1 H1)(h:ρ.all Vo=true){σ':L2.St}(hl:σ'.length=ρ.length):bA K F ρ σ H F1 (List.replicate ρ.length .bC) σ' H1:=by
 have un:∀{i:Nat}{x:Sl},(List.replicate ρ.length Sl.bC)[i]?=some x->x=.bC:=fun{i x}q=>by
  rw[List.getElem?_replicate]at q;split at q;.cases q;rfl
  .cases q
 refine⟨⟨s.gs.sub,by simp[hl],fun i b d q=>(by cases un q),fun i x ds q z=>(by cases un q;cases z),fun i j a⟨⟨x,ds,q,z⟩,_⟩_=>(by cases un q;cases z)⟩,s.bV,s.xR,s.keep,fun b⟨i,⟨x,ds,q,z⟩,_⟩=>(by cases un q;cases z),by simp,fun i x q l=>?_⟩;have:=GQ (List.all_eq_true.mp h x (List.mem_of_getElem? q));rw[this]at l;cases l
theorem bA.forget(s:bA K F ρ σ H F1 ρ1 σ1 H1){i:Nat}(h:ρ1[i]?=some .bC):bA K F ρ σ H F1 ρ1 (σ1.set i none) H1:=by
 have oth:∀{j:Nat}{x:Sl},ρ1[j]?=some x->x≠.bC->(σ1.set i none)[j]?=σ1[j]?:=fun{j x}q n=>by
  have:i≠j:=by rintro rfl;rw[h]at q;cases q;exact n rfl
  rw[List.getElem?_set_ne this]
 have own:∀{j:Nat}{a:Addr},bG ρ1 (σ1.set i none) j a->bG ρ1 σ1 j a:=fun{j a}⟨⟨x,ds,q,z⟩,y⟩=>⟨⟨x,ds,q,z⟩,by rwa[oth q (by rintro rfl;cases z)]at y⟩;refine⟨⟨s.gs.sub,by simp[s.gs.len],fun j b d q=>?_,fun j x ds q z=>?_,fun j k a x y=>s.gs.dis j k a (own x) (own y)⟩,s.bV,s.xR,s.keep,fun b⟨j,x⟩=>s.xT b ⟨j,own x⟩,s.len,fun j x q l=>?_⟩;.obtain⟨v,e1,e2⟩:=s.gs.val j b d q;exact⟨v,by rw[oth q (by intro z;cases z)];exact e1,e2⟩
 .obtain⟨a,xs,e1,e2⟩:=s.gs.own j x ds q z;exact⟨a,xs,by rw[oth q (by rintro rfl;cases z)];exact e1,e2⟩
 .obtain⟨e1,x',e2,e3⟩:=s.lk j x q l;exact⟨by rw[oth e2 (by rintro rfl;have:=e3.yt l;cases this)];exact e1,x',e2,e3⟩
end
noncomputable def Gd(i:Nat)(e:Addr)(σ:L2.St):Prop:=σ[i]?=some (some (V.ref e))
noncomputable def GB(X:Cx)(i:Nat)(e:Addr)(x:Expr)(b:Bool):Prop:=PE X x (fun σ H Q=>Gd i e σ/\∀H',aF H H'->Q (.bl b) H')
noncomputable def GT(X:Cx)(i:Nat)(e:Addr)(x:Expr)(b:Bool):Prop:=PT X x (fun σ H Q=>Gd i e σ/\∀H',aF H H'->Q b H')
noncomputable def GW(X:Cx)(i:Nat)(e:Addr)(x:Expr)(b:Bool):Prop:=PW X x (fun σ H Q=>Gd i e σ/\∀H',aF H H'->Q b H')
noncomputable def GC(X:Cx)(es:List Expr)(cs:List V):Prop:=PA X es (fun _ H Q=>Q cs H)
section
variable{X:Cx}{i:Nat}{e C:Addr}{oe:Obj}{pos:Pos}
theorem M6:GC X [] []:=jz cW fun _ _ _ h=>h
theorem mQ{y:Expr}{es:List Expr}{v:V}{cs:List V}(h1:PE X y (tC v))(h2:GC X es cs)(hs:starEach (y::es) X.env=(false,eval y X.env)::starEach es X.env:=by exact bu rfl):GC X (y::es) (v::cs):=jz (aZ h1 h2 hs) fun _ _ _ h=>h
theorem Bx{x y:Str}{p' p1:Pos}{ce:Expr}{vc:V}{cv:Value}{b:Bool}(hO:OE oe C)(Z:CQ X.K C)(hx:x="isinstance")(hg:Gl X x)(hm:X.mg x=none)(hN:X.N[i]?=some y)(hv:Ak X.env.scope y)(hce:PE (bB X e oe) ce (tC vc))(hc:∀u,RelV vc u->u=cv)(hk:PySem.W.kitOne X.K (.ref C) cv=some b)(hs:starEach [.Name y p1,ce] (bB X e oe).env=(false,eval (.Name y p1) (bB X e oe).env)::starEach [ce] (bB X e oe).env:=by exact bu rfl)(hs2:starEach [ce] (bB X e oe).env=(false,eval ce (bB X e oe).env)::starEach [] (bB X e oe).env:=by exact bu rfl)(hpl:(backTo pos (starEach [ce] (bB X e oe).env)).any (·.1)=false:=by rfl)(hd:(y==("__debug__":Str))=false:=by rfl)(hcd:(y==("__classdict__":Str))=false:=by rfl):GB (bB X e oe) i e (.Call (.Name x p') [.Name y p1,ce] [] pos) b:=by subst hx;refine dz (dO (X:=bB X e oe) (Ra hO Z hc hk) hg hm jM (aZ (jh (X:=bB X e oe) hN hv hd hcd) (aZ hce cW hs2) hs) (he:=hs) (hpl:=hpl)) ?_;rintro σ H Q⟨g,q⟩;exact⟨_,g,rfl,q H (aF.refl _)⟩
theorem MN{x y:Str}{p' p1 p2:Pos}{k2}{es:List Expr}{cs:List V}{Jt:List Value}{b:Bool}(hO:OE oe C)(Z:CQ X.K C)(hx:x="isinstance")(hg:Gl X x)(hm:X.mg x=none)(hN:X.N[i]?=some y)(hv:Ak X.env.scope y)(hce:GC (bB X e oe) es cs)(hc:∀us,Vals cs us->us=Jt)(hk:PySem.W.kitAny X.K (.ref C) Jt=some b)(hz:cs.length<=sizeLine:=by decide)(hs:starEach [.Name y p1,.Tuple es k2 p2] (bB X e oe).env=(false,eval (.Name y p1) (bB X e oe).env)::starEach [.Tuple es k2 p2] (bB X e oe).env:=by exact bu rfl)(hs2:starEach [.Tuple es k2 p2] (bB X e oe).env=(false,eval (.Tuple es k2 p2) (bB X e oe).env)::starEach [] (bB X e oe).env:=by exact bu rfl)(hpl:(backTo pos (starEach [.Tuple es k2 p2] (bB X e oe).env)).any (·.1)=false:=by rfl)(hd:(y==("__debug__":Str))=false:=by rfl)(hcd:(y==("__classdict__":Str))=false:=by rfl):GB (bB X e oe) i e (.Call (.Name x p') [.Name y p1,.Tuple es k2 p2] [] pos) b:=by subst hx;refine dz (dO (X:=bB X e oe) (Jx hO Z hc hk) hg hm jM (aZ (jh (X:=bB X e oe) hN hv hd hcd) (aZ (uN hce) cW hs2) hs) (he:=hs) (hpl:=hpl)) ?_;rintro σ H Q⟨g,q⟩;exact⟨_,g,hz,fun a ha=>⟨a,rfl,aW,q _ (aF.cP ha)⟩⟩
variable{x:Expr}{b:Bool}
theorem vL(h:GB X i e x b)(he:∀whole,isTrue x X.env whole=(do let v<-whole;standAt x.pos;holding [v] (truthy v)):=by intro _;rfl):GT X i e x b:=by intro pins s σ H Q I q;exact Cr h he pins s σ H Q I ⟨q.1,fun H' sm=>⟨b,rfl,q.2 H' sm⟩⟩
theorem Lh(h:GT X i e x b):GT X i e (.UnaryOp .Not x pos) (!b):=by intro pins s σ H Q I q;exact An h pins s σ H Q I ⟨q.1,fun H' sm=>q.2 H' sm⟩
theorem K5(h:GT X i e x b):GW X i e (.BoolOp .And [x] pos) b:=wj h
theorem Nm{y:Expr}{rest:List Expr}{b':Bool}(h:GT X i e x b)(h2:GW X i e (.BoolOp .And (y::rest) pos) b'):GW X i e (.BoolOp .And (x::y::rest) pos) (b&&b'):=by intro whole pins s σ H Q I q;refine Ce h h2 whole pins s σ H Q I ⟨q.1,fun H' sm=>?_⟩;cases b with|true=>exact⟨q.1,fun H2 s2=>q.2 H2 (sm.trans s2)⟩|false=>exact q.2 H' sm
theorem GW.gt(h:GW X i e x b):GT X i e x b:=PW.pt h
end
noncomputable def tN(K:PySem.W.Frag)(f:List Sl->Res Fl):TS:=fun D σ H=>∃F ρ ρ',GS K F ρ σ H/\f ρ=.ok .next ρ'/\∀F' σ' H',bA K F ρ σ H F' ρ' σ' H'->D.nx σ' H'
noncomputable def HB(X:Cx)(c:Call)(n i:Nat)(e:Addr)(st:List Stmt)(ss:List S):Prop:=lL X st (fun D σ H=>Gd i e σ/\tN X.K (cG c n ss) D σ H)
theorem qC{c:Call}{n:Nat}{s:S}{ρ ρ':List Sl}{fl:Fl}(h:cG c n [s] ρ=.ok fl ρ'):ex c n s ρ=.ok fl ρ':=by rw[cG]at h;cases hx:ex c n s ρ with|ok fl ρ1=>rw[hx]at h;cases fl<;>simp[Res.bind,cG]at h<;>simp[h]|exc _ _=>rw[hx]at h;cases h|stuck=>rw[hx]at h;cases h
section
variable{X:Cx}{c:Call}{n i:Nat}{e C:Addr}{oe:Obj}{pos:Pos}
theorem Cv:HB X c n i e [] []:=jl qu fun D σ H⟨g,F,ρ,ρ',gs,ee,q⟩=>by rw[cG]at ee;cases ee;exact q F σ H (.refl gs)
theorem RQ{st:Stmt}{s:S}(h:SS X c n st s):HB X c n i e [st] [s]:=jl (wX h) fun D σ H⟨g,F,ρ,ρ',gs,ee,q⟩=>⟨F,ρ,.next,ρ',gs,qC ee,q⟩
theorem HN{x:Expr}{b:Bool}{p:P}{sa sb:List Stmt}{ta tb:List S}(ht:GT X i e x b)(hp:∀ρ,fO (HH.ev c p) ρ=.ok b ρ)(ha:HB X c n i e sa ta)(hb:HB X c n i e sb tb):HB X c n i e [.If x sa sb pos] [.ifs p ta tb]:=by refine jl (wX (Bt ht ha hb)) fun D σ H⟨g,F,ρ,ρ',gs,ee,q⟩=>⟨g,fun H1 s1=>?_⟩;have st:bA X.K F ρ σ H F ρ σ H1:=Ext.stp gs ⟨s1,.refl _,gs.sub.trans s1,fun _ x y=>absurd x y⟩;replace ee:=qC ee;rw[ex,hp]at ee;cases b with|true=>exact⟨g,F,ρ,ρ',st.gs,ee,fun F2 σ2 H2 s2=>q F2 σ2 H2 (st.trans s2)⟩|false=>exact⟨g,F,ρ,ρ',st.gs,ee,fun F2 σ2 H2 s2=>q F2 σ2 H2 (st.trans s2)⟩
noncomputable def HS(X:Cx)(c:Call)(n:Nat)(cl:Nat->Addr)(kk i:Nat)(st:List Stmt)(k:Nat)(sk:List S):Prop:=sk=[.bad]\/(Under X.base (cl k) (cl kk)/\∀e oe,OE oe (cl k)->HB (bB X e oe) c n i e st sk)
noncomputable def Vj(X:Cx)(c:Call)(n:Nat)(cl:Nat->Addr)(kk i:Nat)(st:List Stmt)(k0:Nat)(l:List (List S)):Prop:=∀j sk,l[j]?=some sk->HS X c n cl kk i st (k0+j) sk
variable{cl:Nat->Addr}{kk:Nat}{st:List Stmt}
theorem Er{k0:Nat}:Vj X c n cl kk i st k0 []:=fun j sk h=>by simp at h
theorem fV{k0:Nat}{a:List S}{l:List (List S)}(h:HS X c n cl kk i st k0 a)(h2:Vj X c n cl kk i st (k0+1) l):Vj X c n cl kk i st k0 (a::l):=fun j sk q=>by cases j with|zero=>cases q;exact h|succ j=>have:=h2 j sk (by simpa using q);rwa[show k0+(j+1)=k0+1+j by omega]
theorem wN:∀{hs:List (List S)}{k:Nat}{ρ ρ':List Sl}{fl:Fl},LK c n hs k ρ=.ok fl ρ'->∃sk,hs[k]?=some sk/\cG c n sk ρ=.ok fl ρ'|[],_,_,_,_,h=>by rw[LK]at h;cases h|a::_,0,_,_,_,h=>by rw[LK]at h;exact⟨a,rfl,h⟩|_::r,k+1,_,_,_,h=>by rw[LK]at h;obtain⟨sk,h1,h2⟩:=wN h;exact⟨sk,by simpa using h1,h2⟩
theorem qR{x:Str}{C C2:Addr}{bm:List Value}{newId:String}{mg:Str->Option Value}{h:Heap}{K:PySem.W.Frag}(T4:K.In h)(O:OwnCls x C bm newId mg h)(m:PySem.W.mroIn K C (.ref C2)=some true):Under h C C2:=by
 obtain⟨bm,N,nm,q,bs,hdct,sn,sub,ab,col,dd,k0,k1,k2,k3,k5,mN,hC,_⟩:=O.obj;refine⟨nm,q,N,bs,bm,hdct,sn,sub,ab,col,dd,k0,k1,k2,k3,k5,_,hC,?_⟩;unfold PySem.W.mroIn at m;obtain⟨cd,a,b⟩:=Option.bind_eq_some_iff.mp m;unfold PySem.W.clsIn at a;split at a
 . rename_i c' d' cd' sl' ho;cases a;have z:=(T4 _ _ ho).symm.trans hC;cases z;split at b;.cases b
   .exact Option.some.inj b
 .cases a
variable{body:List Stmt}{ss:List S}
theorem Hk{x y:Str}{bm:List Value}{newId:String}{np hpos:Pos}{b0:Stmt}{suite:List Stmt}{hs:List (List S)}(hg:Gl X x)(O:OwnCls x (cl kk) bm newId X.mg X.base)(hbase:bm.contains (.type "BaseException")=true)(hex:X.ex=[])(lY:X.stack=X.env::X.outer/\X.env.frame=some X.env.locals)(hN:X.N.Nodup)(hi:X.N[i]?=some y)(hk:X.env.kindOf y=some .local)(hb:∀pins kh,PassesOwn (model X.prog X.w) X.A X.env kh->SB (lU X pins kh) c n body ss)(hbx:∀pins kh W,PassesOwn (model X.prog X.w) X.A X.env kh->Dw (lU X pins kh) (EW cl W)->Gs (lU X pins kh) c n W body ss)(hh:Vj X c n cl kk i (b0::suite) 0 hs)(hd:(x==("__debug__":Str))=false:=by rfl):SS X c n (.Try body [.ExceptHandler (some (.Name x np)) (some y) (b0::suite) hpos] [] [] pos) (.Nv ss i hs):=by
 rintro pins s σ H D I⟨F,ρ,fl,ρ',g,e,q⟩;have hiN:i<X.N.length:=(List.getElem?_eq_some_iff.mp hi).1;generalize hW:(fun(k:Nat)(H':Hp)=>∃sk,hs[k]?=some sk/\sk≠[.bad]/\∀(σ':L2.St)(e:Addr),σ'.length=ρ.length->tN X.K (cG c n sk) (Lb i D) (σ'.set i (some (V.ref e))) H')=W;have hor:∀pins kh,PassesOwn (model X.prog X.w) X.A X.env kh->Dw (lU X pins kh) (EW cl W)->lL (lU X pins kh) body (fun D' σ H=>Tf X.K (cG c n ss) D' σ H\/tX X.K W (cU c n ss) D' σ H):=fun pins kh hp hX=>by have z1:=hb pins kh hp;have z2:=hbx pins kh _ hp hX;unfold SB at z1;unfold Gs at z2;exact Af z1 z2
 have hsu:∀e oe C',OE oe C'->lL (bB X e oe) (b0::suite) (fun D' σ H=>∃k sk,C'=cl k/\hs[k]?=some sk/\sk≠[.bad]/\Gd i e σ/\tN X.K (cG c n sk) D' σ H):=by
  rintro e oe C' hO pins s σ H D' I'⟨k,sk,hC,h1,h2,h3,h4⟩;subst hC;have:=hh k sk h1;rw[Nat.zero_add]at this;rcases this with z|⟨_,z⟩;.exact absurd z h2
  .exact z e oe hO pins s σ H D' I' ⟨h3,h4⟩
 refine Hd (E:=EW cl W) (th:=fun C' e D' σ H=>∃k sk,C'=cl k/\hs[k]?=some sk/\sk≠[.bad]/\Gd i e σ/\tN X.K (cG c n sk) D' σ H) hg O hbase hex lY hN hi hk hor hsu hd pins s σ H D I ⟨?_,fun σ' e' C' H' hl⟨k,hC,hk'⟩=>?_⟩
 . rw[ex]at e;split at e;.rename_i Ut ρ1 z;cases e;exact .inl ⟨F,ρ,fl,ρ',g,z,q⟩
   . split at e
     . rename_i k ρ1 z;split at e
       . rename_i hu;split at e
         . rename_i ρ2 z2;split at e
           . rename_i z3;cases e;refine .inr ⟨F,ρ,k,ρ1,g,z,fun F' σ1 H' st=>?_⟩;rw[<-hW];obtain⟨sk,h1,h2⟩:=wN z2;refine⟨sk,h1,fun hbad=>?_,fun σ' e' hl=>?_⟩;.subst hbad;replace h2:=qC h2;rw[ex]at h2;cases h2
             .have c1:=st.clear hu (σ':=σ'.set i (some (V.ref e'))) (by simpa using hl);exact⟨F',_,ρ',c1.gs,h2,fun F2 σ2 H2 s2=>q F2 _ H2 ((c1.trans s2).forget z3)⟩
           .cases e
         .cases e
       .cases e
     .cases e
 . cases hC;rw[<-hW]at hk';obtain⟨sk,h1,h2,h3⟩:=hk';have hu:=hh k sk h1;rw[Nat.zero_add]at hu;have hlen:σ'.length=ρ.length:=by rw[hl,<-I.len,g.len]
   refine⟨hu.elim (fun z=>absurd z h2) fun z=>z.1,k,sk,rfl,h1,h2,?_,h3 σ' e' hlen⟩;exact List.getElem?_set_self (by rw[hl];exact hiN)
end
end HH
end
section
namespace L2
open PySem PySem.Spec PyProof.Rows
end L2
namespace HH
open PySem L2 PySem.Spec PyProof.Rows
end HH
namespace HH
open PySem L2 PySem.Spec PyProof.Rows
theorem jW{C:Addr}:∀u,RelV (V.ref C) u->u=Value.ref C:=fun _ r=>r
theorem Lz{n:String}:∀u,RelV (V.ty n) u->u=Value.type n:=fun _ r=>r
theorem Es:∀us,Vals [] us->us=[]:=fun us h=>h.zero
theorem jt{c:V}{cv:Value}{cs:List V}{Jt:List Value}(h:∀u,RelV c u->u=cv)(h2:∀us,Vals cs us->us=Jt):∀us,Vals (c::cs) us->us=cv::Jt:=fun us v=>by cases v with|cons r rr=>rw[h _ r,h2 _ rr]
theorem zN{K:PySem.W.Frag}{t:Value}:PySem.W.kitAny K t []=some false:=rfl
theorem qJ{K:PySem.W.Frag}{t c:Value}{r:List Value}{b:Bool}(h:PySem.W.kitOne K t c=some false)(h2:PySem.W.kitAny K t r=some b):PySem.W.kitAny K t (c::r)=some b:=by rw[PySem.W.kitAny,h];exact h2
end HH
namespace HH
open PySem L2 PySem.Spec PyProof.Rows
end HH
end
section
namespace HH
open PySem L2 PySem.Spec PyProof.Rows
section
variable{K:PySem.W.Frag}{x y:Str}{C C2:Addr}{b:Bool}{T:String}
noncomputable def eF(K:PySem.W.Frag)(x:Str)(C:Addr):Prop:=PySem.W.nsIn K mainGlobals x=some (some (.ref C))
theorem eF.uniq(h:eF K x C)(h2:eF K x C2):C=C2:=by have:=h.symm.trans h2;cases this;rfl
theorem yh(a:PySem.W.nsIn K mainGlobals x=some (some (.ref C))):∃C,eF K x C:=⟨C,a⟩
theorem MP(h:∃C,pH K x C)(n:eF K x C):pH K x C:=by obtain⟨C',z⟩:=h;have e:C'=C:=eF.uniq z.nm n;subst e;exact z
theorem Yi(a:PySem.W.nsIn K mainGlobals x=some (some (.ref C)))(g:PySem.W.findIn K (.ref C) "__getattribute__"=some (some (.builtin "BaseException.__getattribute__")))(h:PySem.W.findIn K (.ref C) "__getattr__"=some none)(bb:PySem.W.mroIn K C (.type "BaseException")=some true)(f:PySem.W.findIn K (.ref C) "__class__"=some (some (.builtin "object.__class__")))(n:PySem.W.specialIn K (.builtin "object.__class__") "__get__"=some (some (.builtin "getset_descriptor.__get__")))(t:PySem.W.takesIn K (.builtin "object.__class__")=some true)(m:PySem.W.mroIn K C (.type "object")=some true):∃C,eF K x C/\CQ K C:=by refine⟨C,a,g,h,bb,?_,f,n,t,m⟩;unfold PySem.W.mroIn at m;obtain⟨cd,hc,_⟩:=Option.bind_eq_some_iff.mp m;rw[hc];rfl
theorem Wt(h:∃C,eF K x C/\CQ K C)(n:eF K x C):CQ K C:=by obtain⟨C',z,q⟩:=h;have e:C'=C:=eF.uniq z n;subst e;exact q
theorem WQ(a:PySem.W.nsIn K mainGlobals x=some (some (.ref C)))(c:PySem.W.nsIn K mainGlobals y=some (some (.ref C2)))(m:PySem.W.mroIn K C (.ref C2)=some true):∃C C2,eF K x C/\eF K y C2/\PySem.W.mroIn K C (.ref C2)=some true:=⟨C,C2,a,c,m⟩
theorem YT(h:∃C C2,eF K x C/\eF K y C2/\PySem.W.mroIn K C (.ref C2)=some true)(n:eF K x C)(n2:eF K y C2):PySem.W.mroIn K C (.ref C2)=some true:=by obtain⟨C',C2',z,z2,q⟩:=h;have e:C'=C:=eF.uniq z n;have e2:C2'=C2:=eF.uniq z2 n2;subst e e2;exact q
theorem BW(a:PySem.W.nsIn K mainGlobals x=some (some (.ref C)))(c:PySem.W.nsIn K mainGlobals y=some (some (.ref C2)))(m:PySem.W.kitOne K (.ref C) (.ref C2)=some b):∃C C2,eF K x C/\eF K y C2/\PySem.W.kitOne K (.ref C) (.ref C2)=some b:=⟨C,C2,a,c,m⟩
theorem Ag(h:∃C C2,eF K x C/\eF K y C2/\PySem.W.kitOne K (.ref C) (.ref C2)=some b)(n:eF K x C)(n2:eF K y C2):PySem.W.kitOne K (.ref C) (.ref C2)=some b:=by obtain⟨C',C2',z,z2,q⟩:=h;have e:C'=C:=eF.uniq z n;have e2:C2'=C2:=eF.uniq z2 n2;subst e e2;exact q
theorem YJ(a:PySem.W.nsIn K mainGlobals x=some (some (.ref C)))(m:PySem.W.kitOne K (.ref C) (.type T)=some b):∃C,eF K x C/\PySem.W.kitOne K (.ref C) (.type T)=some b:=⟨C,a,m⟩
theorem WT(h:∃C,eF K x C/\PySem.W.kitOne K (.ref C) (.type T)=some b)(n:eF K x C):PySem.W.kitOne K (.ref C) (.type T)=some b:=by obtain⟨C',z,q⟩:=h;have e:C'=C:=eF.uniq z n;subst e;exact q
end
end HH
end
section
namespace HH
open PySem
theorem jw:∀a b:List Int,aY a b=true->aY b a=false
 |[],[],h=>by simp[aY]at h|[],_::_,_=>by simp[aY]|_::_,[],h=>by simp[aY]at h|x::a,y::b,h=>by
   simp only[aY,Bool.or_eq_true,decide_eq_true_eq,Bool.and_eq_true]at h;simp only[aY,Bool.or_eq_false_iff,decide_eq_false_iff_not,Bool.and_eq_false_iff];rcases h with h|⟨h,h'⟩;.exact⟨by omega,.inl (by omega)⟩
   .exact⟨by omega,.inr (jw a b h')⟩
theorem uI:∀a b c:List Int,aY b a=false->aY c b=false->aY c a=false
 |[],_,c,_,_=>by cases c<;>simp[aY]|_::_,[],_,h,_=>by simp[aY]at h|_::_,_::_,[],_,h=>by simp[aY]at h|x::a,y::b,z::c,h1,h2=>by
   simp only[aY,Bool.or_eq_false_iff,decide_eq_false_iff_not,Bool.and_eq_false_iff]at h1 h2 ⊢;refine⟨by omega,?_⟩;by_cases e:z=x;.right;exact uI a b c (h1.2.resolve_left (by omega)) (h2.2.resolve_left (by omega))
   .exact .inl e
theorem sY:∀a b:List Int,aY a b=false->aY b a=false->a=b
 |[],[],_,_=>rfl|[],_::_,h,_=>by simp[aY]at h|_::_,[],_,h=>by simp[aY]at h|x::a,y::b,h1,h2=>by
   simp only[aY,Bool.or_eq_false_iff,decide_eq_false_iff_not,Bool.and_eq_false_iff]at h1 h2;have e:x=y:=by omega
   subst e;rw[sY a b (h1.2.resolve_left (by simp)) (h2.2.resolve_left (by simp))]
theorem sS:∀{xs ys:List D},xs.all dC=true->ys.all dC=true->xs.map jd=ys.map jd->xs=ys
 |[],[],_,_,_=>rfl|[],_::_,_,_,h=>by simp at h|_::_,[],_,_,h=>by simp at h|x::xs,y::ys,h1,h2,h=>by
   simp only[List.all_cons,Bool.and_eq_true]at h1 h2;simp only[List.map_cons,List.cons.injEq]at h;obtain⟨i,rfl⟩:∃i,x=.int i:=by cases x<;>first|exact⟨_,rfl⟩|(have q:=h1.1;simp[dC]at q;done)
   obtain⟨j,rfl⟩:∃j,y=.int j:=by cases y<;>first|exact⟨_,rfl⟩|(have q:=h2.1;simp[dC]at q;done)
   rw[sS h1.2 h2.2 h.2,show i=j from h.1]
theorem xN{x y:D}(h:(dC x=true/\dC y=true)\/(nj x=true/\nj y=true))(e:bH x=bH y):x=y:=by
 rcases h with⟨h1,h2⟩|⟨h1,h2⟩
 . cases x<;>first|(simp[dC]at h1;done)|skip
   cases y<;>first|(simp[dC]at h2;done)|skip
   simpa[bH]using e
 . cases x<;>first|(simp[nj]at h1;done)|skip
   cases y<;>first|(simp[nj]at h2;done)|skip
   rename_i xs ys;cases xs<;>first|(simp[nj]at h1;done)|skip
   cases ys<;>first|(simp[nj]at h2;done)|skip
   rw[sS h1 h2 e]
noncomputable def lV(a b:D):Bool:=!aY (bH b) (bH a)
theorem ju(ds:List D):(j5 ds).Perm ds:=List.mergeSort_perm ..
theorem Ha(a b c:D)(h1:lV a b=true)(h2:lV b c=true):lV a c=true:=by simp only[lV,Bool.not_eq_true']at*;exact uI _ _ _ h1 h2
theorem Bs(a b:D):(lV a b||lV b a)=true:=by simp only[lV,Bool.or_eq_true,Bool.not_eq_true'];cases h:aY (bH b) (bH a)with|false=>exact .inl rfl|true=>exact .inr (jw _ _ h)
theorem mU(ds:List D):(j5 ds).Pairwise fun a b=>lV a b=true:=List.pairwise_mergeSort Ha Bs ds
theorem qz{ds:List D}(h:sortable ds=true):∀x∈ds,∀y∈ds,bH x=bH y->x=y:=by
 simp only[sortable,Bool.and_eq_true,Bool.or_eq_true,List.all_eq_true]at h;intro x hx y hy e;rcases h.2 with h|h;.exact xN (.inl ⟨h x hx,h y hy⟩) e
 .exact xN (.inr ⟨h x hx,h y hy⟩) e
theorem nH{ds l:List D}(h:sortable ds=true)(p:l.Perm ds)(s:l.Pairwise fun a b=>lV a b=true):l=j5 ds:=by refine List.Perm.eq_of_pairwise (le:=fun a b=>lV a b=true) (fun a b ha hb h1 h2=>?_) s (mU ds) (p.trans (ju ds).symm);simp only[lV,Bool.not_eq_true']at h1 h2;exact qz h a (p.mem_iff.mp ha) b ((ju ds).mem_iff.mp hb) (sY _ _ h2 h1)
end HH
end
section
namespace HH
open PySem PyProof.Rows
noncomputable abbrev SM:=StateT SortSt Sem
noncomputable def gal:Bool->Keyed->Array Keyed->Nat->Nat->Nat->SM (Option Nat):=sortPriv%PySem.Builtin.gallop
noncomputable def KZ(l:Bool)(k:Keyed)(xs:Array Keyed)(b i:Nat):SM (Option Bool):=elem' xs (b+i)>>=fun x=>if l=true then lt' x k else lt' k x>>=fun o=>pure (o.map fun x=>!x)
noncomputable def zW(l:Bool)(k:Keyed)(xs:Array Keyed)(b n lo hi:Nat):SM (Option Nat):=(forIn [0:n] ((none,lo,hi):Option (Option Nat)× Nat × Nat) fun _ c=>if c.2.1 ≥ c.2.2 then pure (.done (none,c.2.1,c.2.2))else KZ l k xs b (c.2.1+(c.2.2-c.2.1)/2)>>=fun o=>match o with|some m=>if m=true then pure (.yield (none,c.2.1+(c.2.2-c.2.1)/2+1,c.2.2))else pure (.yield (none,c.2.1,c.2.1+(c.2.2-c.2.1)/2))|_=>pure (.done (some none,c.2.1,c.2.2)))>>=fun c=>match c.1 with|some r=>pure r|none=>pure (some c.2.2)
theorem Mr(l:Bool)(k:Keyed)(xs:Array Keyed)(b n h:Nat):gal l k xs b n h=KZ l k xs b h>>=fun o=>match o with
 |some r=>if r=true then(forIn [0:n] ((none,0,1):Option (Option Nat)× Nat × Nat) fun _ c=>if c.2.2 ≥ n-h then pure (.done (none,c.2.1,c.2.2))else KZ l k xs b (h+c.2.2)>>=fun o=>match o with|some m=>if(!m)=true then pure (.done (none,c.2.1,c.2.2))else pure (.yield (none,c.2.2,2*c.2.2+1))|_=>pure (.done (some none,c.2.1,c.2.2)))>>=fun c=>match c.1 with|some r=>pure r|none=>zW l k xs b n (h+c.2.1+1) (h+min c.2.2 (n-h))else(forIn [0:n] ((none,0,1):Option (Option Nat)× Nat × Nat) fun _ c=>if c.2.2 ≥ h+1 then pure (.done (none,c.2.1,c.2.2))else KZ l k xs b (h-c.2.2)>>=fun o=>match o with|some m=>if m=true then pure (.done (none,c.2.1,c.2.2))else pure (.yield (none,c.2.2,2*c.2.2+1))|_=>pure (.done (some none,c.2.1,c.2.2)))>>=fun c=>match c.1 with|some r=>pure r|none=>zW l k xs b n (h+1-min c.2.2 (h+1)) (h-c.2.1)
 |_=>pure none:=by unfold zW;show KZ l k xs b h>>=_=_;congr 1;funext o;cases o with|none=>rfl|some r=>dsimp only;cases r with
   |true=>simp only[if_true];congr 1;funext c;obtain⟨c1,c2,c3⟩:=c;cases c1 with|some r=>rfl|none=>dsimp only;congr 1;funext c;obtain⟨c1,c2,c3⟩:=c;cases c1<;>rfl
   |false=>simp only[Bool.false_eq_true,if_false];congr 1;funext c;obtain⟨c1,c2,c3⟩:=c;cases c1 with|some r=>rfl|none=>dsimp only;congr 1;funext c;obtain⟨c1,c2,c3⟩:=c;cases c1<;>rfl
structure Rk(M:Model)(A:Around)(E:Value->Shared->Prop)(s:Shared)(κ:SortKind)(ok:Keyed->Prop)(K:Keyed->Int):Prop where lt:∀{x y:Keyed}{Q:Option Bool->SortSt->Prop}{st:SortSt},ok x->ok y->kindOf st=κ->Q (some (decide (K x<K y))) st->wpS M A E s (lt' x y) Q st
section
variable{M:Model}{A:Around}{E:Value->Shared->Prop}{s:Shared}{κ:SortKind}{ok:Keyed->Prop}{K:Keyed->Int}
noncomputable def it(xs:Array Keyed)(i:Nat):Keyed:=xs.getD i (Value.none,Value.none)
theorem qT{xs:Array Keyed}{i:Nat}(h:i<xs.size):xs[i]?=some (it xs i):=by unfold it;simp[Array.getD,h]
theorem cV{xs:Array Keyed}{i:Nat}(h:i<xs.size):it xs i∈xs.toList:=by
 have:it xs i=xs[i]:=by unfold it;simp[Array.getD,h]
 rw[this];simp
theorem aX{xs:Array Keyed}{i:Nat}{Q:Keyed->SortSt->Prop}{st:SortSt}(h:i<xs.size)(q:Q (it xs i) st):wpS M A E s (elem' xs i) Q st:=by rw[elem'_eq,qT h];exact wpS_pure q
noncomputable def bb(K:Keyed->Int)(l:Bool)(k x:Keyed):Bool:=if l=true then decide (K x<K k)else !decide (K k<K x)
theorem qD(R:Rk M A E s κ ok K){l:Bool}{k:Keyed}{xs:Array Keyed}{b i:Nat}{Q:Option Bool->SortSt->Prop}{st:SortSt}(hk:ok k)(hx:∀x∈xs.toList,ok x)(hi:b+i<xs.size)(hs:kindOf st=κ)(q:Q (some (bb K l k (it xs (b+i)))) st):wpS M A E s (KZ l k xs b i) Q st:=by unfold KZ;refine wpS_bind (aX hi ?_);have ho:=hx _ (cV hi);cases l with|true=>exact R.lt ho hk hs q|false=>exact wpS_bind (R.lt hk ho hs (wpS_pure q))
noncomputable def Hr(K:Keyed->Int)(l:Bool)(k:Keyed)(xs:Array Keyed)(b n:Nat):Prop:=∀i j,i<=j->j<n->bb K l k (it xs (b+j))=true->bb K l k (it xs (b+i))=true
theorem xm(R:Rk M A E s κ ok K){l:Bool}{k:Keyed}{xs:Array Keyed}{b n lo hi:Nat}{Q:Option Nat->SortSt->Prop}{st:SortSt}(hk:ok k)(hx:∀x∈xs.toList,ok x)(hb:b+n<=xs.size)(hs:kindOf st=κ)(hc:Hr K l k xs b n)(h1:lo<=hi)(h2:hi<=n)(h3:∀i,i<lo->bb K l k (it xs (b+i))=true)(h4:∀i,hi<=i->i<n->bb K l k (it xs (b+i))=false)(q:∀m,m<=n->(∀i,i<m->bb K l k (it xs (b+i))=true)->(∀i,m<=i->i<n->bb K l k (it xs (b+i))=false)->Q (some m) st):wpS M A E s (zW l k xs b n lo hi) Q st:=by
 unfold zW;refine wpS_bind (wpS_mono (wpS_forRange (I:=fun x c st'=>st'=st/\∃lo hi,c=(none,lo,hi)/\lo<=hi/\hi<=n/\hi-lo<=n-x/\(∀i,i<lo->bb K l k (it xs (b+i))=true)/\∀i,hi<=i->i<n->bb K l k (it xs (b+i))=false) (Q:=fun c st'=>st'=st/\∃m,c=(none,m,m)/\m<=n/\(∀i,i<m->bb K l k (it xs (b+i))=true)/\∀i,m<=i->i<n->bb K l k (it xs (b+i))=false) ?_ ?_ ⟨rfl,lo,hi,rfl,h1,h2,by omega,h3,h4⟩) ?_)
 . rintro x c st' _ hxn⟨rfl,lo,hi,rfl,a1,a2,a3,a4,a5⟩;dsimp only;by_cases e:lo ≥ hi
   . rw[if_pos e];have:lo=hi:=by omega
     subst this;exact wpS_pure ⟨rfl,lo,rfl,a2,a4,a5⟩
   .rw[if_neg e];refine wpS_bind (qD R hk hx (by omega) hs ?_);cases c:bb K l k (it xs (b+(lo+(hi-lo)/2)))with|true=>dsimp only;rw[if_pos rfl];exact wpS_pure ⟨rfl,_,_,rfl,by omega,a2,by omega,fun i hi'=>hc i (lo+(hi-lo)/2) (by omega) (by omega) c,a5⟩|false=>dsimp only;rw[if_neg (by simp)];refine wpS_pure ⟨rfl,_,_,rfl,by omega,by omega,by omega,a4,fun i i1 i2=>?_⟩;cases z:bb K l k (it xs (b+i))with|false=>rfl|true=>have:=hc (lo+(hi-lo)/2) i i1 i2 z;rw[c]at this;cases this
 . rintro c st'⟨rfl,lo,hi,rfl,a1,a2,a3,a4,a5⟩;have:lo=hi:=by omega
   subst this;exact⟨rfl,lo,rfl,a2,a4,a5⟩
 .rintro c st'⟨rfl,m,rfl,a1,a2,a3⟩;exact wpS_pure (q m a1 a2 a3)
theorem kW(R:Rk M A E s κ ok K){l:Bool}{k:Keyed}{xs:Array Keyed}{b n h:Nat}{Q:Option Nat->SortSt->Prop}{st:SortSt}(hk:ok k)(hx:∀x∈xs.toList,ok x)(hb:b+n<=xs.size)(hh:h<n)(hs:kindOf st=κ)(hc:Hr K l k xs b n)(q:∀m,m<=n->(∀i,i<m->bb K l k (it xs (b+i))=true)->(∀i,m<=i->i<n->bb K l k (it xs (b+i))=false)->Q (some m) st):wpS M A E s (gal l k xs b n h) Q st:=by
 have up:∀{i:Nat},i<n->bb K l k (it xs (b+i))=true->∀j,j<=i->bb K l k (it xs (b+j))=true:=fun hi c j hj=>hc _ _ hj hi c;have dn:∀{i:Nat},bb K l k (it xs (b+i))=false->∀j,i<=j->j<n->bb K l k (it xs (b+j))=false:=fun{i}c j h1 h2=>by cases z:bb K l k (it xs (b+j))with|false=>rfl|true=>have:=hc i j h1 h2 z;rw[c]at this;cases this
 rw[Mr];refine wpS_bind (qD R hk hx (by omega) hs ?_);cases c0:bb K l k (it xs (b+h))with
 |true=>
   dsimp only;rw[if_pos rfl];refine wpS_bind (wpS_mono (wpS_forRange (I:=fun x c st'=>st'=st/\∃a o,c=(none,a,o)/\x+1<=o/\a<o/\h+a<n/\bb K l k (it xs (b+(h+a)))=true) (Q:=fun c st'=>st'=st/\∃a o,c=(none,a,o)/\a<o/\h+a<n/\bb K l k (it xs (b+(h+a)))=true/\(n-h<=o\/o<n-h/\bb K l k (it xs (b+(h+o)))=false)) ?_ ?_ ⟨rfl,0,1,rfl,by omega,by omega,by omega,by simpa using c0⟩) ?_)
   . rintro x c st' _ hxn⟨rfl,a,o,rfl,a1,a2,a3,a4⟩;dsimp only;by_cases e:o ≥ n-h;.rw[if_pos e];exact wpS_pure ⟨rfl,a,o,rfl,a2,a3,a4,.inl e⟩
     .rw[if_neg e];refine wpS_bind (qD R hk hx (by omega) hs ?_);cases c:bb K l k (it xs (b+(h+o)))with|true=>dsimp only;rw[if_neg (by simp)];exact wpS_pure ⟨rfl,_,_,rfl,by omega,by omega,by omega,c⟩|false=>dsimp only;rw[if_pos (by simp)];exact wpS_pure ⟨rfl,a,o,rfl,a2,a3,a4,.inr ⟨by omega,c⟩⟩
   .rintro c st'⟨rfl,a,o,rfl,a1,a2,a3,a4⟩;exact⟨rfl,a,o,rfl,a2,a3,a4,.inl (by omega)⟩
   . rintro c st'⟨rfl,a,o,rfl,a2,a3,a4,a5⟩;dsimp only;refine xm R hk hx hb hs hc (by omega) (by omega) (fun i hi=>up a3 a4 i (by omega)) (fun i h1 h2=>?_) q;rcases a5 with z|⟨z1,z2⟩;.omega
     .exact dn z2 i (by omega) h2|false=>
   dsimp only;rw[if_neg (by simp)];refine wpS_bind (wpS_mono (wpS_forRange (I:=fun x c st'=>st'=st/\∃a o,c=(none,a,o)/\x+1<=o/\a<o/\a<=h/\bb K l k (it xs (b+(h-a)))=false) (Q:=fun c st'=>st'=st/\∃a o,c=(none,a,o)/\a<o/\a<=h/\bb K l k (it xs (b+(h-a)))=false/\(h+1<=o\/o<h+1/\bb K l k (it xs (b+(h-o)))=true)) ?_ ?_ ⟨rfl,0,1,rfl,by omega,by omega,by omega,by simpa using c0⟩) ?_)
   . rintro x c st' _ hxn⟨rfl,a,o,rfl,a1,a2,a3,a4⟩;dsimp only;by_cases e:o ≥ h+1;.rw[if_pos e];exact wpS_pure ⟨rfl,a,o,rfl,a2,a3,a4,.inl e⟩
     .rw[if_neg e];refine wpS_bind (qD R hk hx (by omega) hs ?_);cases c:bb K l k (it xs (b+(h-o)))with|false=>dsimp only;rw[if_neg (by simp)];exact wpS_pure ⟨rfl,_,_,rfl,by omega,by omega,by omega,c⟩|true=>dsimp only;rw[if_pos rfl];exact wpS_pure ⟨rfl,a,o,rfl,a2,a3,a4,.inr ⟨by omega,c⟩⟩
   .rintro c st'⟨rfl,a,o,rfl,a1,a2,a3,a4⟩;exact⟨rfl,a,o,rfl,a2,a3,a4,.inl (by omega)⟩
   . rintro c st'⟨rfl,a,o,rfl,a2,a3,a4,a5⟩;dsimp only;refine xm R hk hx hb hs hc (by omega) (by omega) (fun i hi=>?_) (fun i h1 h2=>dn a4 i (by omega) h2) q;rcases a5 with z|⟨z1,z2⟩;.omega
     .exact up (by omega) z2 i (by omega)
end
end HH
end
section
namespace HH
open PySem PyProof.Rows
section
variable{K:Keyed->Int}{T out A B P:List Keyed}{x y z:Keyed}
noncomputable def SL(K:Keyed->Int)(l:List Keyed):Prop:=l.Pairwise fun x y=>K x<=K y
theorem cu{l k:List Keyed}:SL K (l++k)↔SL K l/\SL K k/\∀x∈l,∀y∈k,K x<=K y:=List.pairwise_append
structure MW(K:Keyed->Int)(T out A B:List Keyed):Prop where
 perm:(out++(A++B)).Perm T
 sa:SL K (out++A)sb:SL K (out++B)
theorem MW.Tw(w:MW K T out (P++A) B)(h:∀x∈P,∀y∈B,K x<=K y):MW K T (out++P) A B:=by
 refine⟨by simpa using w.perm,by simpa using w.sa,?_⟩;have h1:=cu.mp w.sb;have h2:=cu.mp (show SL K ((out++P)++A)by simpa using w.sa);refine cu.mpr ⟨h2.1,h1.2.1,fun x hx y hy=>?_⟩;rcases List.mem_append.mp hx with hx|hx;.exact h1.2.2 x hx y hy
 .exact h x hx y hy
theorem MW.Tp(w:MW K T out A (P++B))(h:∀x∈P,∀y∈A,K x<=K y):MW K T (out++P) A B:=by
 have h1:=cu.mp w.sa;have h2:=cu.mp (show SL K ((out++P)++B)by simpa using w.sb);refine⟨?_,cu.mpr ⟨h2.1,h1.2.1,fun x hx y hy=>?_⟩,by simpa using w.sb⟩;.refine List.Perm.trans ?_ w.perm;rw[List.append_assoc];refine List.Perm.append_left out ?_;rw[<-List.append_assoc,<-List.append_assoc];exact List.perm_append_comm.append_right B
 . rcases List.mem_append.mp hx with hx|hx;.exact h1.2.2 x hx y hy
   .exact h x hx y hy
theorem MW.Ym(w:MW K T out A []):(out++A).Perm T/\SL K (out++A):=⟨by simpa using w.perm,w.sa⟩
theorem MW.Wx(w:MW K T out [] B):(out++B).Perm T/\SL K (out++B):=⟨by simpa using w.perm,w.sb⟩
theorem MW.last(w:MW K T out [z] B)(h:∀y∈B,K y<=K z):(out++B++[z]).Perm T/\SL K (out++B++[z]):=by
 refine⟨?_,cu.mpr ⟨w.sb,List.pairwise_singleton _ _,fun x hx y hy=>?_⟩⟩;.refine List.Perm.trans ?_ w.perm;rw[List.append_assoc];exact List.Perm.append_left out List.perm_append_comm
 . rw[List.mem_singleton.mp hy];rcases List.mem_append.mp hx with hx|hx;.exact(cu.mp w.sa).2.2 x hx z (by simp)
   .exact h x hx
theorem qP{a:Array Keyed}{i:Nat}(h:i<a.size):a.toList.drop i=it a i::a.toList.drop (i+1):=by
 have e:it a i=a.toList[i]:=by unfold it;simp[Array.getD,h]
 rw[e];exact List.drop_eq_getElem_cons (by simpa using h)
theorem gP{a:Array Keyed}{i j:Nat}(h:j<=a.size):(a.extract i j).toList=(a.toList.drop i).take (j-i):=by simp[Array.toList_extract,List.extract]
theorem iH{a:Array Keyed}{i:Nat}:(a.extract i a.size).toList=a.toList.drop i:=by rw[gP (Nat.le_refl _)];exact List.take_of_length_le (by simp)
theorem jc{a:Array Keyed}{i k:Nat}(h:i+k<=a.size):a.toList.drop i=(a.extract i (i+k)).toList++a.toList.drop (i+k):=by rw[gP h,Nat.add_sub_cancel_left];rw[show a.toList.drop (i+k)=(a.toList.drop i).drop k by rw[List.drop_drop]];exact(List.take_append_drop k _).symm
theorem ext_mem{a:Array Keyed}{i k:Nat}{x:Keyed}(h:i+k<=a.size)(hx:x∈(a.extract i (i+k)).toList):∃j,j<k/\x=it a (i+j):=by rw[gP h,Nat.add_sub_cancel_left]at hx;obtain⟨j,hj,e⟩:=List.mem_iff_getElem.mp hx;simp only[List.length_take,List.length_drop,Array.length_toList]at hj;refine⟨j,by omega,?_⟩;rw[<-e];unfold it;simp[Array.getD,show i+j<a.size by omega]
theorem gU{a:Array Keyed}{i:Nat}{x:Keyed}(hx:x∈a.toList.drop i):∃j,i<=j/\j<a.size/\x=it a j:=by obtain⟨j,hj,e⟩:=List.mem_iff_getElem.mp hx;simp only[List.length_drop,Array.length_toList]at hj;refine⟨i+j,by omega,by omega,?_⟩;rw[<-e];unfold it;simp[Array.getD,show i+j<a.size by omega]
noncomputable def rG(K:Keyed->Int)(a:Array Keyed):Prop:=∀i j,i<=j->j<a.size->K (it a i)<=K (it a j)
theorem nD{a:Array Keyed}(h:rG K a):SL K a.toList:=by
 unfold SL;rw[List.pairwise_iff_getElem];intro i j hi hj hij;have:=h i j (by omega) (by simpa using hj);have hi':i<a.size:=by simpa using hi
 have hj':j<a.size:=by simpa using hj
 unfold it at this;simpa[Array.getD,hi',hj']using this
end
section
variable{M:Model}{A:Around}{E:Value->Shared->Prop}{s:Shared}{κ:SortKind}{ok:Keyed->Prop}{K:Keyed->Int}
structure oJ(st st':SortSt):Prop where
 kind:kindOf st'=kindOf st
 arr:arrOf st'=arrOf st
 pend:pendingOf st'=pendingOf st
 fail:failedOf st'=failedOf st
theorem oJ.refl(st:SortSt):oJ st st:=⟨rfl,rfl,rfl,rfl⟩
theorem oJ.trans{a b c:SortSt}(h:oJ a b)(k:oJ b c):oJ a c:=⟨k.kind.trans h.kind,k.arr.trans h.arr,k.pend.trans h.pend,k.fail.trans h.fail⟩
noncomputable def setG:Nat->SM Unit:=sortPriv%PySem.Builtin.setMinGallop
theorem mz{g:Nat}{Q:Unit->SortSt->Prop}{st:SortSt}(q:∀st',oJ st st'->Q () st'):wpS M A E s (setG g) Q st:=wpS_modify (q _ ⟨rfl,rfl,rfl,rfl⟩)
theorem wp_rule{x:String}{Q:Unit->SortSt->Prop}{st:SortSt}(q:Q () st):wpS M A E s (liftM (rule x):SM Unit) Q st:=wpS_lift (wpAny_rule ⟨rfl,q⟩)
noncomputable def mlo:Array Keyed->Array Keyed->SM (Array Keyed):=sortPriv%PySem.Builtin.mergeLo
structure MI(K:Keyed->Int)(a b out:Array Keyed)(ia ib:Nat):Prop where
 i1:ia+1<a.size
 i2:ib<b.size
 w:MW K (a.toList++b.toList) out.toList (a.toList.drop ia) (b.toList.drop ib)
structure Fin(K:Keyed->Int)(a b out:Array Keyed):Prop where perm:out.toList.Perm (a.toList++b.toList)j5:SL K out.toList
theorem iG{a b out:Array Keyed}{ia ib:Nat}(h:ib=b.size)(w:MW K (a.toList++b.toList) out.toList (a.toList.drop ia) (b.toList.drop ib)):Fin K a b (out++a.extract ia a.size++b.extract ib b.size):=by
 have e:b.toList.drop ib=[]:=by rw[h];simp
 rw[e]at w;obtain⟨h1,h2⟩:=w.Ym;refine⟨?_,?_⟩<;>rw[Array.toList_append,Array.toList_append,iH,iH,e,List.append_nil]<;>assumption
theorem yu{a b out:Array Keyed}{ia ib:Nat}(h:ia=a.size)(w:MW K (a.toList++b.toList) out.toList (a.toList.drop ia) (b.toList.drop ib)):Fin K a b (out++a.extract ia a.size++b.extract ib b.size):=by
 have e:a.toList.drop ia=[]:=by rw[h];simp
 rw[e]at w;obtain⟨h1,h2⟩:=w.Wx;refine⟨?_,?_⟩<;>rw[Array.toList_append,Array.toList_append,iH,iH,e,List.append_nil]<;>assumption
theorem jY{a b out:Array Keyed}{ia ib:Nat}(h:ia+1=a.size)(hl:∀i,i<b.size->K (it b i)<=K (it a (a.size-1)))(w:MW K (a.toList++b.toList) out.toList (a.toList.drop ia) (b.toList.drop ib)):Fin K a b (out++b.extract ib b.size++a.extract ia a.size):=by
 have e:a.toList.drop ia=[it a ia]:=by rw[qP (by omega),h];simp
 rw[e]at w;obtain⟨h1,h2⟩:=w.last fun y hy=>by obtain⟨j,_,hj,rfl⟩:=gU hy;rw[show ia=a.size-1 by omega];exact hl j hj
 refine⟨?_,?_⟩<;>rw[Array.toList_append,Array.toList_append,iH,iH,e]<;>assumption
theorem MW.o6{a b out:Array Keyed}{ia ib:Nat}(h:ia<a.size)(w:MW K (a.toList++b.toList) out.toList (a.toList.drop ia) (b.toList.drop ib))(hb:rG K b)(hk:ib<b.size->K (it a ia)<=K (it b ib)):MW K (a.toList++b.toList) (out.push (it a ia)).toList (a.toList.drop (ia+1)) (b.toList.drop ib):=by rw[qP h]at w;rw[Array.toList_push];refine MW.Tw (P:=[it a ia]) w fun x hx y hy=>?_;rw[List.mem_singleton.mp hx];obtain⟨j,j1,j2,rfl⟩:=gU hy;exact Int.le_trans (hk (by omega)) (hb _ _ j1 j2)
theorem MW.pK{a b out:Array Keyed}{ia ib:Nat}(h:ib<b.size)(w:MW K (a.toList++b.toList) out.toList (a.toList.drop ia) (b.toList.drop ib))(ha:rG K a)(hk:ia<a.size->K (it b ib)<=K (it a ia)):MW K (a.toList++b.toList) (out.push (it b ib)).toList (a.toList.drop ia) (b.toList.drop (ib+1)):=by rw[qP h]at w;rw[Array.toList_push];refine MW.Tp (P:=[it b ib]) w fun x hx y hy=>?_;rw[List.mem_singleton.mp hx];obtain⟨j,j1,j2,rfl⟩:=gU hy;exact Int.le_trans (hk (by omega)) (ha _ _ j1 j2)
theorem MW.Ac{a b out:Array Keyed}{ia ib k:Nat}(h:ia+k<=a.size)(w:MW K (a.toList++b.toList) out.toList (a.toList.drop ia) (b.toList.drop ib))(hb:rG K b)(hk:∀j,j<k->ib<b.size->K (it a (ia+j))<=K (it b ib)):MW K (a.toList++b.toList) (out++a.extract ia (ia+k)).toList (a.toList.drop (ia+k)) (b.toList.drop ib):=by rw[jc h]at w;rw[Array.toList_append];refine MW.Tw w fun x hx y hy=>?_;obtain⟨i,hi,rfl⟩:=ext_mem h hx;obtain⟨j,j1,j2,rfl⟩:=gU hy;exact Int.le_trans (hk i hi (by omega)) (hb _ _ j1 j2)
theorem MW.zQ{a b out:Array Keyed}{ia ib k:Nat}(h:ib+k<=b.size)(w:MW K (a.toList++b.toList) out.toList (a.toList.drop ia) (b.toList.drop ib))(ha:rG K a)(hk:∀j,j<k->ia<a.size->K (it b (ib+j))<=K (it a ia)):MW K (a.toList++b.toList) (out++b.extract ib (ib+k)).toList (a.toList.drop ia) (b.toList.drop (ib+k)):=by rw[jc h]at w;rw[Array.toList_append];refine MW.Tp w fun x hx y hy=>?_;obtain⟨i,hi,rfl⟩:=ext_mem h hx;obtain⟨j,j1,j2,rfl⟩:=gU hy;exact Int.le_trans (hk i hi (by omega)) (ha _ _ j1 j2)
theorem qy{l:Bool}{k:Keyed}{a:Array Keyed}{b n:Nat}(h:rG K a)(hn:b+n<=a.size):Hr K l k a b n:=fun i j hij hj c=>by have:=h (b+i) (b+j) (by omega) (by omega);unfold bb at*;cases l with|true=>simp only[if_true,decide_eq_true_eq]at*;omega|false=>simp only[Bool.false_eq_true,if_false,Bool.not_eq_true',decide_eq_false_iff_not]at*;omega
end
end HH
end
section
namespace HH
open PySem PyProof.Rows
section
variable{M:Model}{A:Around}{E:Value->Shared->Prop}{s:Shared}{κ:SortKind}{ok:Keyed->Prop}{K:Keyed->Int}
theorem BJ{α γ:Type}{T:PUnit->α->SM γ}{c:Prop}{d:Decidable c}{x y:α}{Q:γ->SortSt->Prop}{st:SortSt}(h:∀r u,wpS M A E s (T r u) Q st):wpS M A E s (@ite _ c d (T ⟨⟩ x) (T ⟨⟩ y)) Q st:=by split<;>exact h _ _
theorem mH{α β γ:Type}{T:PUnit->α->β->SM γ}{c:Prop}{d:Decidable c}{B:SM γ}{x:α}{y:β}{Q:γ->SortSt->Prop}{st:SortSt}(C:α->β->Prop)(h:∀r u v,C u v->wpS M A E s (T r u v) Q st)(hB:c->(∀r u v,C u v->wpS M A E s (T r u v) Q st)->wpS M A E s B Q st)(hx:¬ c->C x y):wpS M A E s (@ite _ c d B (T ⟨⟩ x y)) Q st:=by
 split;.exact hB ‹_› h
 .exact h _ _ _ (hx ‹_›)
noncomputable abbrev MQ{γ:Type}(K:Keyed->Int)(a b:Array Keyed)(st:SortSt)(c:Option (Array Keyed)×γ)(st':SortSt):Prop:=oJ st st'/\∃out,c.1=some out/\Fin K a b out
noncomputable abbrev MI1(K:Keyed->Int)(a b:Array Keyed)(st:SortSt)(x:Nat)(c:Option (Array Keyed)×Array Keyed×Nat×Nat×Nat)(st':SortSt):Prop:=oJ st st'/\∃out ia ib mg,c=(none,out,ia,ib,mg)/\MI K a b out ia ib/\x+1<=ia+ib
noncomputable abbrev MI2(K:Keyed->Int)(a b:Array Keyed)(st:SortSt)(n y:Nat)(c:Option (Array Keyed)×Array Keyed×Nat×Nat×Nat×Nat)(st':SortSt):Prop:=oJ st st'/\∃out iQ fZ ac bc,c=(none,out,iQ,fZ,ac,bc)/\MI K a b out iQ fZ/\n+y<=iQ+fZ
noncomputable abbrev MI3(K:Keyed->Int)(a b:Array Keyed)(st:SortSt)(n:Nat)(c:Option (Array Keyed)×Array Keyed×Nat×Nat×Nat×Nat×Nat)(st':SortSt):Prop:=oJ st st'/\∃out iQ fZ mg ac bc,c=(none,out,iQ,fZ,mg,ac,bc)/\MI K a b out iQ fZ/\n+1<=iQ+fZ
noncomputable abbrev MQ2(K:Keyed->Int)(a b:Array Keyed)(st:SortSt)(n:Nat)(c:Option (Array Keyed)×Array Keyed×Nat×Nat×Nat×Nat)(st':SortSt):Prop:=oJ st st'/\((∃out,c.1=some out/\Fin K a b out)\/∃out iQ fZ ac bc,c=(none,out,iQ,fZ,ac,bc)/\MI K a b out iQ fZ/\n+1<=iQ+fZ)
noncomputable abbrev MQ3(K:Keyed->Int)(a b:Array Keyed)(st:SortSt)(n:Nat)(c:Option (Array Keyed)×Array Keyed×Nat×Nat×Nat×Nat×Nat)(st':SortSt):Prop:=oJ st st'/\((∃out,c.1=some out/\Fin K a b out)\/∃out iQ fZ mg ac bc,c=(none,out,iQ,fZ,mg,ac,bc)/\MI K a b out iQ fZ/\n+1<=iQ+fZ)
set_option maxHeartbeats 1000000 in
theorem Kr(R:Rk M A E s κ ok K){a b:Array Keyed}{Q:Array Keyed->SortSt->Prop}{st:SortSt}(ha:∀x∈a.toList,ok x)(hb:∀x∈b.toList,ok x)(hs:kindOf st=κ)(ua:rG K a)(ub:rG K b)(a1:1<=a.size)(b1:1<=b.size)(h0:K (it b 0)<=K (it a 0))(hl:∀i,i<b.size->K (it b i)<=K (it a (a.size-1)))(q:∀out st',Fin K a b out->oJ st st'->Q out st'):wpS M A E s (mlo a b) Q st:=by
 show wpS M A E s (liftM (rule "list.sort.merge-lo")>>=_) Q st;refine wpS_bind (wp_rule ?_);extract_lets+onlyGivenNames-merge-underBinder x0 x1 x2;refine wpS_bind (aX (by omega) ?_);extract_lets+onlyGivenNames-merge-underBinder x3 x4 x5;dsimp-zeta-zetaHave only[x0,x1,x2,x3,x4,x5];have w0:MW K (a.toList++b.toList) (#[]:Array Keyed).toList (a.toList.drop 0) (b.toList.drop 0):=⟨by simp,by simpa using nD ua,by simpa using nD ub⟩;have w1:=w0.pK (by omega) ua (fun _=>h0);rw[show(#[]:Array Keyed).push (it b 0)=#[it b 0]from rfl]at w1;by_cases c1:1=b.size;.rw[if_pos (by simpa using c1)];exact wpS_pure (q _ _ (iG c1 w1) (.refl _))
 rw[if_neg (by simpa using c1)];by_cases c2:0+1=a.size;.rw[if_pos (by simpa using c2)];exact wpS_pure (q _ _ (jY c2 hl w1) (.refl _))
 rw[if_neg (by simpa using c2)];refine wpS_bind (wpS_get ?_);extract_lets+onlyGivenNames-merge-underBinder x6;refine wpS_bind (wpS_mono (wpS_forRange (I:=MI1 K a b st) (Q:=MQ K a b st) ?_ ?_ ⟨.refl _,_,0,1,_,rfl,⟨by omega,by omega,w1⟩,by omega⟩) ?_)
 . rintro x c st1 _ hx⟨s1,out,ia,ib,mg,rfl,mi,hp⟩;extract_lets+onlyGivenNames-merge-underBinder y0 y1 y2 y3 y4 y5 y6 y7 y8;dsimp-zeta-zetaHave only[x0,x1,x2,x3,x4,x5,y0,y1,y2,y3,y4,y5,y6,y7,y8];refine wpS_bind (wpS_mono (wpS_forRange (I:=MI2 K a b st (ia+ib)) (Q:=MQ2 K a b st (ia+ib)) ?_ ?_ ⟨s1,out,ia,ib,0,0,rfl,mi,by omega⟩) ?_)
   . rintro y c st2 _ hy⟨s2,out,iQ,fZ,ac,bc,rfl,mi,hp'⟩;have i1:=mi.i1;have i2:=mi.i2;try dsimp only
     refine wpS_bind (aX i2 (wpS_bind (aX (by omega) (wpS_bind (R.lt (hb _ (cV i2)) (ha _ (cV (by omega))) (s2.kind.trans hs) ?_)))));by_cases c:K (it b fZ)<K (it a iQ)
     . rw[decide_eq_true c];try dsimp only
       rw[if_pos rfl];refine wpS_bind (aX i2 ?_);try dsimp only
       have w:=mi.w.pK i2 ua (fun _=>by omega);by_cases e:fZ+1=b.size;.rw[if_pos (by simpa using e)];exact wpS_pure ⟨s2,.inl ⟨_,rfl,iG e w⟩⟩
       . rw[if_neg (by simpa using e)];have uB:MI K a b (out.push (it b fZ)) iQ (fZ+1):=⟨i1,by omega,w⟩;split;.exact wpS_pure ⟨s2,.inr ⟨_,_,_,_,_,rfl,uB,by omega⟩⟩
         .exact wpS_pure ⟨s2,_,_,_,_,_,rfl,uB,by omega⟩
     . rw[decide_eq_false c];try dsimp only
       rw[if_neg (by simp)];refine wpS_bind (aX (by omega) ?_);try dsimp only
       have w:=mi.w.o6 (by omega) ub (fun _=>by omega);by_cases e:iQ+1+1=a.size;.rw[if_pos (by simpa using e)];exact wpS_pure ⟨s2,.inl ⟨_,rfl,jY e hl w⟩⟩
       . rw[if_neg (by simpa using e)];have uB:MI K a b (out.push (it a iQ)) (iQ+1) fZ:=⟨by omega,i2,w⟩;split;.exact wpS_pure ⟨s2,.inr ⟨_,_,_,_,_,rfl,uB,by omega⟩⟩
         .exact wpS_pure ⟨s2,_,_,_,_,_,rfl,uB,by omega⟩
   .rintro c st2⟨s2,out,iQ,fZ,ac,bc,rfl,mi,hp'⟩;exact⟨s2,.inr ⟨_,_,_,_,_,rfl,mi,by omega⟩⟩
   . rintro c st2⟨s2,⟨out,hc,hf⟩|⟨out,iQ,fZ,ac,bc,rfl,mi,hp'⟩⟩;.obtain⟨c1,c2,c3,c4,c5,c6⟩:=c;cases hc;exact wpS_pure ⟨s2,out,rfl,hf⟩
     . extract_lets+onlyGivenNames-merge-underBinder z0 z1 z2 z3 z4 z5 z6 z7 z8 z9;dsimp-zeta-zetaHave only[z0,z1,z2,z3,z4,z5,z6,z7,z8,z9];refine wpS_bind (wp_rule ?_);extract_lets+onlyGivenNames-merge-underBinder za;refine wpS_bind (wpS_mono (wpS_forRange (I:=fun _=>MI3 K a b st (ia+ib)) (Q:=MQ3 K a b st (ia+ib)) ?_ ?_ ⟨s2,out,iQ,fZ,_,ac,bc,rfl,mi,by omega⟩) ?_)
       . rintro y c st3 _ hy⟨s3,out,iQ,fZ,mg,ac,bc,rfl,mi,hp'⟩;have i1:=mi.i1;have i2:=mi.i2;extract_lets+onlyGivenNames-merge-underBinder t0 t1 t2 t3 t4 t5 t6 t7 t8 t9 ta jp;dsimp only[t0,t1,t2,t3,t4,t5,t6,t7,t8,t9,ta];refine BJ (T:=jp) ?_;intro _ mg;dsimp-zeta-zetaHave only[jp,t0,t1,t2,t3,t4,t5,t6,t7,t8,t9,ta];refine wpS_bind (mz fun DY NQ=>?_);have s4:=s3.trans NQ;refine wpS_bind (aX i2 ?_);refine wpS_bind (kW R (hb _ (cV i2)) ha (by omega) (by omega) (s4.kind.trans hs) (qy ua (by omega)) fun k k1 k2 k3=>?_);have k2':∀j,j<k->K (it a (iQ+j))<=K (it b fZ):=fun j hj=>by have:=k2 j hj;simp[bb]at this;omega
         have Js:∀j,k<=j->j<a.size-iQ->K (it b fZ)<=K (it a (iQ+j)):=fun j h1 h2=>by have:=k3 j h1 h2;simp[bb]at this;omega
         try dsimp-zeta-zetaHave only
         extract_lets+onlyGivenNames-merge-underBinder u0 jp2;dsimp only[u0];refine mH (T:=jp2) (x:=out) (y:=iQ) (fun vV zA=>(iQ<=zA/\zA+1<a.size)/\MW K (a.toList++b.toList) vV.toList (a.toList.drop zA) (b.toList.drop fZ)/\K (it b fZ)<=K (it a zA)) ?_ (fun c key=>?_) (fun c=>⟨⟨Nat.le_refl _,i1⟩,mi.w,Js 0 (by omega) (by omega)⟩)
         . rintro _ vV zA⟨⟨j0,j1⟩,w,k4⟩;dsimp-zeta-zetaHave only[jp2,u0];refine wpS_bind (aX i2 ?_);have w2:=w.pK i2 ua fun _=>k4;extract_lets+onlyGivenNames-merge-underBinder v0 v1;dsimp-zeta-zetaHave only[v0,v1];by_cases e3:fZ+1=b.size;.rw[if_pos (by simpa using e3)];exact wpS_pure ⟨s4,.inl ⟨_,rfl,iG e3 w2⟩⟩
           rw[if_neg (by simpa using e3)];have j3:fZ+1<b.size:=by omega
           refine wpS_bind (aX (by omega) ?_);refine wpS_bind (kW R (ha _ (cV (by omega))) hb (by omega) (by omega) (s4.kind.trans hs) (qy ub (by omega)) fun m m1 m2 m3=>?_);have m2':∀j,j<m->K (it b (fZ+1+j))<=K (it a zA):=fun j hj=>by have:=m2 j hj;simp[bb]at this;omega
           have m3':∀j,m<=j->j<b.size-(fZ+1)->K (it a zA)<=K (it b (fZ+1+j)):=fun j h1 h2=>by have:=m3 j h1 h2;simp[bb]at this;omega
           try dsimp-zeta-zetaHave only
           extract_lets+onlyGivenNames-merge-underBinder v2 Uy;dsimp only[v2];refine mH (T:=Uy) (x:=vV.push (it b fZ)) (y:=fZ+1) (fun vW Qt=>(fZ+1<=Qt/\Qt<b.size)/\MW K (a.toList++b.toList) vW.toList (a.toList.drop zA) (b.toList.drop Qt)/\K (it a zA)<=K (it b Qt)) ?_ (fun c key=>?_) (fun c=>⟨⟨Nat.le_refl _,j3⟩,w2,m3' 0 (by omega) (by omega)⟩)
           . rintro _ vW Qt⟨⟨j4,j2⟩,w3,m4⟩;dsimp only[Uy,v2];refine wpS_bind (aX (by omega) ?_);have w4:=w3.o6 (by omega) ub fun _=>m4;try dsimp only
             by_cases e5:zA+1+1=a.size;.rw[if_pos (by simpa using e5)];exact wpS_pure ⟨s4,.inl ⟨_,rfl,jY e5 hl w4⟩⟩
             rw[if_neg (by simpa using e5)];have uB:MI K a b (vW.push (it a zA)) (zA+1) Qt:=⟨by omega,j2,w4⟩;split;.exact wpS_pure ⟨s4,.inr ⟨_,_,_,_,_,_,rfl,uB,by omega⟩⟩
             .exact wpS_pure ⟨s4,_,_,_,_,_,_,rfl,uB,by omega⟩
           . have w3:=w2.zQ (k:=m) (by omega) ua fun j hj _=>m2' j hj;by_cases e4:fZ+1+m=b.size;.rw[if_pos (by simpa using e4)];exact wpS_pure ⟨s4,.inl ⟨_,rfl,iG e4 w3⟩⟩
             rw[if_neg (by simpa using e4)];exact key ⟨⟩ _ _ ⟨⟨by omega,by omega⟩,w3,m3' m (Nat.le_refl _) (by omega)⟩
         . have w:=mi.w.Ac (k:=k) (by omega) ub fun j hj _=>k2' j hj;by_cases e1:iQ+k+1=a.size;.rw[if_pos (by simpa using e1)];exact wpS_pure ⟨s4,.inl ⟨_,rfl,jY e1 hl w⟩⟩
           rw[if_neg (by simpa using e1)];by_cases e2:iQ+k=a.size;.rw[if_pos (by simpa using e2)];exact wpS_pure ⟨s4,.inl ⟨_,rfl,yu e2 w⟩⟩
           rw[if_neg (by simpa using e2)];exact key ⟨⟩ _ _ ⟨⟨by omega,by omega⟩,w,Js k (Nat.le_refl _) (by omega)⟩
       .rintro c st3⟨s3,out,iQ,fZ,mg,ac,bc,rfl,mi,hp'⟩;exact⟨s3,.inr ⟨_,_,_,_,_,_,rfl,mi,hp'⟩⟩
       . rintro c st3⟨s3,⟨out,hc,hf⟩|⟨out,iQ,fZ,mg,ac,bc,rfl,mi,hp'⟩⟩;.obtain⟨c1,c2,c3,c4,c5,c6,c7⟩:=c;cases hc;exact wpS_pure ⟨s3,out,rfl,hf⟩
         . try dsimp only
           exact wpS_bind (mz fun DY NQ=>wpS_pure ⟨s3.trans NQ,_,_,_,_,rfl,mi,by omega⟩)
 .rintro c st1⟨s1,out,ia,ib,mg,rfl,mi,hp⟩;have:=mi.i1;have:=mi.i2;omega
 .rintro c st1⟨s1,out,hc,hf⟩;obtain⟨c1,c2,c3,c4,c5⟩:=c;cases hc;exact wpS_pure (q _ _ hf s1)
end
end HH
end
section
namespace HH
open PySem PyProof.Rows
section
variable{K:Keyed->Int}{T A B S P:List Keyed}{z:Keyed}
structure MH(K:Keyed->Int)(T A B S:List Keyed):Prop where
 perm:(A++(B++S)).Perm T
 sa:SL K (A++S)sb:SL K (B++S)
theorem MH.Tw(w:MH K T (A++P) B S)(h:∀x∈P,∀y∈B,K y<=K x):MH K T A B (P++S):=by
 have h1:=cu.mp w.sb;have h2:=cu.mp (show SL K (A++(P++S))by simpa using w.sa);refine⟨?_,by simpa using w.sa,cu.mpr ⟨h1.1,h2.2.1,fun x hx y hy=>?_⟩⟩;.refine List.Perm.trans ?_ w.perm;rw[List.append_assoc];refine List.Perm.append_left A ?_;rw[<-List.append_assoc,<-List.append_assoc];exact List.perm_append_comm.append_right S
 . rcases List.mem_append.mp hy with hy|hy;.exact h y hy x hx
   .exact h1.2.2 x hx y hy
theorem MH.Tp(w:MH K T A (B++P) S)(h:∀x∈P,∀y∈A,K y<=K x):MH K T A B (P++S):=by
 have h1:=cu.mp w.sa;have h2:=cu.mp (show SL K (B++(P++S))by simpa using w.sb);refine⟨by simpa using w.perm,cu.mpr ⟨h1.1,h2.2.1,fun x hx y hy=>?_⟩,by simpa using w.sb⟩;rcases List.mem_append.mp hy with hy|hy;.exact h y hy x hx
 .exact h1.2.2 x hx y hy
theorem MH.first(w:MH K T A [z] S)(h:∀x∈A,K z<=K x):([z]++A++S).Perm T/\SL K ([z]++A++S):=by
 refine⟨?_,?_⟩;.refine List.Perm.trans ?_ w.perm;rw[<-List.append_assoc];exact List.perm_append_comm.append_right S
 . rw[List.append_assoc];refine cu.mpr ⟨List.pairwise_singleton _ _,w.sa,fun x hx y hy=>?_⟩;rw[List.mem_singleton.mp hx];rcases List.mem_append.mp hy with hy|hy;.exact h y hy
   .exact(cu.mp w.sb).2.2 z (by simp) y hy
theorem fM{a:Array Keyed}{n:Nat}(h:n<=a.size):(a.extract 0 n).toList=a.toList.take n:=by rw[gP h];simp
theorem gb{a:Array Keyed}{i n:Nat}(hi:i<=n)(h:n<=a.size):a.toList.take n=a.toList.take i++(a.extract i n).toList:=by
 rw[gP h];have e:n=i+(n-i):=by omega
 conv=>lhs;rw[e,List.take_add]
theorem qH{a:Array Keyed}{n:Nat}(h0:1<=n)(h:n<=a.size):a.toList.take n=a.toList.take (n-1)++[it a (n-1)]:=by
 have e:it a (n-1)=a.toList[n-1]'(by simp;omega):=by unfold it;simp[Array.getD,show n-1<a.size by omega]
 have e2:n=(n-1)+1:=by omega
 conv=>lhs;rw[e2]
 rw[List.take_succ_eq_append_getElem (by simp;omega),e]
theorem gW{a:Array Keyed}{n:Nat}{x:Keyed}(h:n<=a.size)(hx:x∈a.toList.take n):∃j,j<n/\x=it a j:=by obtain⟨j,hj,e⟩:=List.mem_iff_getElem.mp hx;simp only[List.length_take,Array.length_toList]at hj;refine⟨j,by omega,?_⟩;rw[<-e];unfold it;simp[Array.getD,show j<a.size by omega]
theorem m9{a:Array Keyed}{i n:Nat}{x:Keyed}(hi:i<=n)(h:n<=a.size)(hx:x∈(a.extract i n).toList):∃j,i<=j/\j<n/\x=it a j:=by obtain⟨j,hj,e⟩:=ext_mem (a:=a) (i:=i) (k:=n-i) (by omega) (by rw[show i+(n-i)=n by omega];exact hx);exact⟨i+j,by omega,by omega,e⟩
end
section
variable{M:Model}{A:Around}{E:Value->Shared->Prop}{s:Shared}{κ:SortKind}{ok:Keyed->Prop}{K:Keyed->Int}
noncomputable def mhi:Array Keyed->Array Keyed->SM (Array Keyed):=sortPriv%PySem.Builtin.mergeHi
noncomputable abbrev MV(K:Keyed->Int)(a b out:Array Keyed)(na nb:Nat):Prop:=MH K (a.toList++b.toList) (a.toList.take na) (b.toList.take nb) out.toList.reverse
structure MJ(K:Keyed->Int)(a b out:Array Keyed)(na nb:Nat):Prop where
 i1:1<=na
 i2:2<=nb
 i3:na<=a.size
 i4:nb<=b.size
 w:MV K a b out na nb
theorem gM{out:Array Keyed}:out.reverse.toList=out.toList.reverse:=Array.toList_reverse
theorem qW{a b out:Array Keyed}{na nb:Nat}(h:na=0)(hb:nb<=b.size)(w:MV K a b out na nb):Fin K a b (a.extract 0 na++b.extract 0 nb++out.reverse):=by
 subst h;have e:(a.extract 0 0++b.extract 0 nb++out.reverse).toList=b.toList.take nb++out.toList.reverse:=by rw[Array.toList_append,Array.toList_append,fM (Nat.zero_le _),fM hb,gM];simp
 exact⟨by rw[e];simpa using w.perm,by rw[e];exact w.sb⟩
theorem M5{a b out:Array Keyed}{na nb:Nat}(h:nb=0)(ha:na<=a.size)(w:MV K a b out na nb):Fin K a b (a.extract 0 na++b.extract 0 nb++out.reverse):=by
 subst h;have e:(a.extract 0 na++b.extract 0 0++out.reverse).toList=a.toList.take na++out.toList.reverse:=by rw[Array.toList_append,Array.toList_append,fM (Nat.zero_le _),fM ha,gM];simp
 exact⟨by rw[e];simpa using w.perm,by rw[e];exact w.sa⟩
theorem iC{a b out:Array Keyed}{na nb:Nat}(h:nb=1)(ha:na<=a.size)(hb:nb<=b.size)(ua:rG K a)(h0:K (it b 0)<=K (it a 0))(w:MV K a b out na nb):Fin K a b (b.extract 0 nb++a.extract 0 na++out.reverse):=by
 subst h;have e1:b.toList.take 1=[it b 0]:=by rw[qH (Nat.le_refl 1) hb];simp
 have e:(b.extract 0 1++a.extract 0 na++out.reverse).toList=[it b 0]++a.toList.take na++out.toList.reverse:=by rw[Array.toList_append,Array.toList_append,fM hb,fM ha,gM,e1]
 have w':=w;unfold MV at w';rw[e1]at w';obtain⟨h1,h2⟩:=w'.first fun x hx=>by obtain⟨j,hj,rfl⟩:=gW ha hx;exact Int.le_trans h0 (ua 0 j (by omega) (by omega))
 exact⟨by rw[e];exact h1,by rw[e];exact h2⟩
theorem MH.o6{a b out:Array Keyed}{na nb:Nat}(h:1<=na)(ha:na<=a.size)(hb:nb<=b.size)(w:MV K a b out na nb)(ub:rG K b)(hk:1<=nb->K (it b (nb-1))<=K (it a (na-1))):MV K a b (out.push (it a (na-1))) (na-1) nb:=by unfold MV at*;rw[qH h ha]at w;rw[Array.toList_push,List.reverse_append];refine MH.Tw (P:=[it a (na-1)]) w fun x hx y hy=>?_;rw[List.mem_singleton.mp hx];obtain⟨j,hj,rfl⟩:=gW hb hy;exact Int.le_trans (ub j (nb-1) (by omega) (by omega)) (hk (by omega))
theorem MH.pK{a b out:Array Keyed}{na nb:Nat}(h:1<=nb)(ha:na<=a.size)(hb:nb<=b.size)(w:MV K a b out na nb)(ua:rG K a)(hk:1<=na->K (it a (na-1))<=K (it b (nb-1))):MV K a b (out.push (it b (nb-1))) na (nb-1):=by unfold MV at*;rw[qH h hb]at w;rw[Array.toList_push,List.reverse_append];refine MH.Tp (P:=[it b (nb-1)]) w fun x hx y hy=>?_;rw[List.mem_singleton.mp hx];obtain⟨j,hj,rfl⟩:=gW ha hy;exact Int.le_trans (ua j (na-1) (by omega) (by omega)) (hk (by omega))
theorem MH.Ac{a b out:Array Keyed}{na nb i:Nat}(h:i<=na)(ha:na<=a.size)(hb:nb<=b.size)(w:MV K a b out na nb)(ub:rG K b)(hk:∀j,i<=j->j<na->1<=nb->K (it b (nb-1))<=K (it a j)):MV K a b (out++(a.extract i na).reverse) i nb:=by unfold MV at*;rw[gb h ha]at w;rw[Array.toList_append,List.reverse_append,gM,List.reverse_reverse];refine MH.Tw w fun x hx y hy=>?_;obtain⟨j,j1,j2,rfl⟩:=m9 h ha hx;obtain⟨l,hl,rfl⟩:=gW hb hy;exact Int.le_trans (ub l (nb-1) (by omega) (by omega)) (hk j j1 j2 (by omega))
theorem MH.zQ{a b out:Array Keyed}{na nb i:Nat}(h:i<=nb)(ha:na<=a.size)(hb:nb<=b.size)(w:MV K a b out na nb)(ua:rG K a)(hk:∀j,i<=j->j<nb->1<=na->K (it a (na-1))<=K (it b j)):MV K a b (out++(b.extract i nb).reverse) na i:=by unfold MV at*;rw[gb h hb]at w;rw[Array.toList_append,List.reverse_append,gM,List.reverse_reverse];refine MH.Tp w fun x hx y hy=>?_;obtain⟨j,j1,j2,rfl⟩:=m9 h hb hx;obtain⟨l,hl,rfl⟩:=gW ha hy;exact Int.le_trans (ua l (na-1) (by omega) (by omega)) (hk j j1 j2 (by omega))
set_option maxHeartbeats 1000000 in
theorem JT(R:Rk M A E s κ ok K){a b:Array Keyed}{Q:Array Keyed->SortSt->Prop}{st:SortSt}(ha:∀x∈a.toList,ok x)(hb:∀x∈b.toList,ok x)(hs:kindOf st=κ)(ua:rG K a)(ub:rG K b)(a1:1<=a.size)(b1:1<=b.size)(h0:K (it b 0)<=K (it a 0))(hl:∀i,i<b.size->K (it b i)<=K (it a (a.size-1)))(q:∀out st',Fin K a b out->oJ st st'->Q out st'):wpS M A E s (mhi a b) Q st:=by
 show wpS M A E s (liftM (rule "list.sort.merge-hi")>>=_) Q st;refine wpS_bind (wp_rule ?_);extract_lets+onlyGivenNames-merge-underBinder x0 x1 x2 x3 x4;refine wpS_bind (aX (by omega) ?_);extract_lets+onlyGivenNames-merge-underBinder x5;dsimp-zeta-zetaHave only[x0,x1,x2,x3,x4,x5];have ta:∀c:Array Keyed,c.toList.take c.size=c.toList:=fun c=>List.take_of_length_le (by simp);have w0:MV K a b #[] a.size b.size:=by unfold MV;rw[ta,ta];exact⟨by simp,by simpa using nD ua,by simpa using nD ub⟩
 have w1:=MH.o6 a1 (Nat.le_refl _) (Nat.le_refl _) w0 ub (fun _=>hl _ (by omega));rw[show(#[]:Array Keyed).push (it a (a.size-1))=#[it a (a.size-1)]from rfl]at w1;by_cases c1:a.size-1=0;.rw[if_pos (by simpa using c1)];exact wpS_pure (q _ _ (qW c1 (Nat.le_refl _) w1) (.refl _))
 rw[if_neg (by simpa using c1)];by_cases c2:b.size=1;.rw[if_pos (by simpa using c2)];exact wpS_pure (q _ _ (iC c2 (by omega) (Nat.le_refl _) ua h0 w1) (.refl _))
 rw[if_neg (by simpa using c2)];refine wpS_bind (wpS_get ?_);extract_lets+onlyGivenNames-merge-underBinder x6;refine wpS_bind (wpS_mono (wpS_forRange (I:=fun x c st'=>oJ st st'/\∃na nb out mg,c=(none,na,nb,out,mg)/\MJ K a b out na nb/\x+1+na+nb<=a.size+b.size) (Q:=fun c st'=>oJ st st'/\∃out,c.1=some out/\Fin K a b out) ?_ ?_ ⟨.refl _,_,_,_,_,rfl,⟨by omega,by omega,by omega,Nat.le_refl _,w1⟩,by omega⟩) ?_)
 . rintro x c st1 _ hx⟨s1,na,nb,out,mg,rfl,mi,hp⟩;extract_lets+onlyGivenNames-merge-underBinder y0 y1 y2 y3 y4 y5 y6 y7 y8;dsimp-zeta-zetaHave only[x0,x1,x2,x3,x4,x5,y0,y1,y2,y3,y4,y5,y6,y7,y8];refine wpS_bind (wpS_mono (wpS_forRange (I:=fun y c st'=>oJ st st'/\∃jq gJ out ac bc,c=(none,jq,gJ,out,ac,bc)/\MJ K a b out jq gJ/\jq+gJ+y<=na+nb) (Q:=fun c st'=>oJ st st'/\((∃out,c.1=some out/\Fin K a b out)\/∃jq gJ out ac bc,c=(none,jq,gJ,out,ac,bc)/\MJ K a b out jq gJ/\jq+gJ+1<=na+nb)) ?_ ?_ ⟨s1,na,nb,out,0,0,rfl,mi,by omega⟩) ?_)
   . rintro y c st2 _ hy⟨s2,jq,gJ,out,ac,bc,rfl,mi,hp'⟩;obtain⟨i1,i2,i3,i4,w⟩:=mi;try dsimp only
     refine wpS_bind (aX (by omega) (wpS_bind (aX (by omega) (wpS_bind (R.lt (hb _ (cV (by omega))) (ha _ (cV (by omega))) (s2.kind.trans hs) ?_)))));by_cases c:K (it b (gJ-1))<K (it a (jq-1))
     . rw[decide_eq_true c];try dsimp only
       rw[if_pos rfl];refine wpS_bind (aX (by omega) ?_);try dsimp only
       have w':=MH.o6 i1 i3 i4 w ub (fun _=>by omega);by_cases e:jq-1=0;.rw[if_pos (by simpa using e)];exact wpS_pure ⟨s2,.inl ⟨_,rfl,qW e i4 w'⟩⟩
       . rw[if_neg (by simpa using e)];have uB:MJ K a b (out.push (it a (jq-1))) (jq-1) gJ:=⟨by omega,i2,by omega,i4,w'⟩;split;.exact wpS_pure ⟨s2,.inr ⟨_,_,_,_,_,rfl,uB,by omega⟩⟩
         .exact wpS_pure ⟨s2,_,_,_,_,_,rfl,uB,by omega⟩
     . rw[decide_eq_false c];try dsimp only
       rw[if_neg (by simp)];refine wpS_bind (aX (by omega) ?_);try dsimp only
       have w':=MH.pK (by omega) i3 i4 w ua (fun _=>by omega);by_cases e:gJ-1=1;.rw[if_pos (by simpa using e)];exact wpS_pure ⟨s2,.inl ⟨_,rfl,iC e i3 (by omega) ua h0 w'⟩⟩
       . rw[if_neg (by simpa using e)];have uB:MJ K a b (out.push (it b (gJ-1))) jq (gJ-1):=⟨i1,by omega,i3,by omega,w'⟩;split;.exact wpS_pure ⟨s2,.inr ⟨_,_,_,_,_,rfl,uB,by omega⟩⟩
         .exact wpS_pure ⟨s2,_,_,_,_,_,rfl,uB,by omega⟩
   .rintro c st2⟨s2,jq,gJ,out,ac,bc,rfl,mi,hp'⟩;exact⟨s2,.inr ⟨_,_,_,_,_,rfl,mi,by omega⟩⟩
   . rintro c st2⟨s2,⟨out,hc,hf⟩|⟨jq,gJ,out,ac,bc,rfl,mi,hp'⟩⟩;.obtain⟨c1,c2,c3,c4,c5,c6⟩:=c;cases hc;exact wpS_pure ⟨s2,out,rfl,hf⟩
     . extract_lets+onlyGivenNames-merge-underBinder z0 z1 z2 z3 z4 z5 z6 z7 z8 z9;dsimp-zeta-zetaHave only[z0,z1,z2,z3,z4,z5,z6,z7,z8,z9];refine wpS_bind (wp_rule ?_);extract_lets+onlyGivenNames-merge-underBinder za;refine wpS_bind (wpS_mono (wpS_forRange (I:=fun y c st'=>oJ st st'/\∃jq gJ out mg ac bc,c=(none,jq,gJ,out,mg,ac,bc)/\MJ K a b out jq gJ/\jq+gJ+1<=na+nb) (Q:=fun c st'=>oJ st st'/\((∃out,c.1=some out/\Fin K a b out)\/∃jq gJ out mg ac bc,c=(none,jq,gJ,out,mg,ac,bc)/\MJ K a b out jq gJ/\jq+gJ+1<=na+nb)) ?_ ?_ ⟨s2,jq,gJ,out,_,ac,bc,rfl,mi,by omega⟩) ?_)
       . rintro y c st3 _ hy⟨s3,jq,gJ,out,mg,ac,bc,rfl,mi,hp'⟩;obtain⟨i1,i2,i3,i4,w⟩:=mi;extract_lets+onlyGivenNames-merge-underBinder t0 t1 t2 t3 t4 t5 t6 t7 t8 t9 ta jp;dsimp only[t0,t1,t2,t3,t4,t5,t6,t7,t8,t9,ta];refine BJ (T:=jp) ?_;intro _ mg;dsimp-zeta-zetaHave only[jp,t0,t1,t2,t3,t4,t5,t6,t7,t8,t9,ta];refine wpS_bind (mz fun DY NQ=>?_);have s4:=s3.trans NQ;refine wpS_bind (aX (by omega) ?_);refine wpS_bind (kW R (hb _ (cV (by omega))) ha (by omega) (by omega) (s4.kind.trans hs) (qy ua (by omega)) fun k k1 k2 k3=>?_);have k2':∀j,j<k->K (it a j)<=K (it b (gJ-1)):=fun j hj=>by have:=k2 j hj;simp[bb]at this;omega
         have Js:∀j,k<=j->j<jq->K (it b (gJ-1))<=K (it a j):=fun j h1 h2=>by have:=k3 j h1 h2;simp[bb]at this;omega
         try dsimp-zeta-zetaHave only
         extract_lets+onlyGivenNames-merge-underBinder u0 u1 jp2;dsimp only[u0,u1];refine mH (T:=jp2) (x:=jq) (y:=out) (fun n1 vV=>(1<=n1/\n1<=jq)/\MV K a b vV n1 gJ/\K (it a (n1-1))<=K (it b (gJ-1))) ?_ (fun c key=>?_) (fun c=>⟨⟨i1,Nat.le_refl _⟩,w,k2' _ (by omega)⟩)
         . rintro _ n1 vV⟨⟨j1,j0⟩,w1,k4⟩;dsimp-zeta-zetaHave only[jp2,u0,u1];extract_lets+onlyGivenNames-merge-underBinder v0;refine wpS_bind (aX (by dsimp only[v0];omega) ?_);have w2:=MH.pK (by omega) (by omega) i4 w1 ua (fun _=>k4);extract_lets+onlyGivenNames-merge-underBinder v1;dsimp-zeta-zetaHave only[v0,v1];by_cases e3:gJ-1=1;.rw[if_pos (by simpa using e3)];exact wpS_pure ⟨s4,.inl ⟨_,rfl,iC e3 (by omega) (by omega) ua h0 w2⟩⟩
           rw[if_neg (by simpa using e3)];refine wpS_bind (aX (by omega) ?_);refine wpS_bind (kW R (ha _ (cV (by omega))) hb (by omega) (by omega) (s4.kind.trans hs) (qy ub (by omega)) fun m m1 m2 m3=>?_);have m2':∀j,j<m->K (it b j)<=K (it a (n1-1)):=fun j hj=>by have:=m2 j hj;simp[bb]at this;omega
           have m3':∀j,m<=j->j<gJ-1->K (it a (n1-1))<=K (it b j):=fun j h1 h2=>by have:=m3 j h1 h2;simp[bb]at this;omega
           try dsimp-zeta-zetaHave only
           extract_lets+onlyGivenNames-merge-underBinder v2 v3 Uy;dsimp only[v2,v3];refine mH (T:=Uy) (x:=gJ-1) (y:=vV.push (it b (gJ-1))) (fun n2 vW=>(2<=n2/\n2<=gJ-1)/\MV K a b vW n1 n2/\K (it b (n2-1))<=K (it a (n1-1))) ?_ (fun c key=>?_) (fun c=>⟨⟨by omega,Nat.le_refl _⟩,w2,m2' _ (by omega)⟩)
           . rintro _ n2 vW⟨⟨j2,j3⟩,w3,m4⟩;dsimp only[Uy,v2,v3];refine wpS_bind (aX (by omega) ?_);have w4:=MH.o6 j1 (by omega) (by omega) w3 ub (fun _=>m4);try dsimp only
             by_cases e6:n1-1=0;.rw[if_pos (by simpa using e6)];exact wpS_pure ⟨s4,.inl ⟨_,rfl,qW e6 (by omega) w4⟩⟩
             rw[if_neg (by simpa using e6)];have uB:MJ K a b (vW.push (it a (n1-1))) (n1-1) n2:=⟨by omega,j2,by omega,by omega,w4⟩;split;.exact wpS_pure ⟨s4,.inr ⟨_,_,_,_,_,_,rfl,uB,by omega⟩⟩
             .exact wpS_pure ⟨s4,_,_,_,_,_,_,rfl,uB,by omega⟩
           . have w3:=MH.zQ m1 (by omega) (by omega) w2 ua fun j h1 h2 _=>m3' j h1 h2;by_cases e4:m=1;.rw[if_pos (by simpa using e4)];exact wpS_pure ⟨s4,.inl ⟨_,rfl,iC e4 (by omega) (by omega) ua h0 w3⟩⟩
             rw[if_neg (by simpa using e4)];by_cases e5:m=0;.rw[if_pos (by simpa using e5)];exact wpS_pure ⟨s4,.inl ⟨_,rfl,M5 e5 (by omega) w3⟩⟩
             rw[if_neg (by simpa using e5)];exact key ⟨⟩ _ _ ⟨⟨by omega,m1⟩,w3,m2' _ (by omega)⟩
         . have w1:=MH.Ac k1 i3 i4 w ub fun j h1 h2 _=>Js j h1 h2;by_cases e1:k=0;.rw[if_pos (by simpa using e1)];exact wpS_pure ⟨s4,.inl ⟨_,rfl,qW e1 i4 w1⟩⟩
           rw[if_neg (by simpa using e1)];exact key ⟨⟩ _ _ ⟨⟨by omega,k1⟩,w1,k2' _ (by omega)⟩
       .rintro c st3⟨s3,jq,gJ,out,mg,ac,bc,rfl,mi,hp'⟩;exact⟨s3,.inr ⟨_,_,_,_,_,_,rfl,mi,hp'⟩⟩
       . rintro c st3⟨s3,⟨out,hc,hf⟩|⟨jq,gJ,out,mg,ac,bc,rfl,mi,hp'⟩⟩;.obtain⟨c1,c2,c3,c4,c5,c6,c7⟩:=c;cases hc;exact wpS_pure ⟨s3,out,rfl,hf⟩
         . try dsimp only
           exact wpS_bind (mz fun DY NQ=>wpS_pure ⟨s3.trans NQ,_,_,_,_,rfl,mi,by omega⟩)
 .rintro c st1⟨s1,na,nb,out,mg,rfl,mi,hp⟩;have:=mi.i1;have:=mi.i2;omega
 .rintro c st1⟨s1,out,hc,hf⟩;obtain⟨c1,c2,c3,c4,c5⟩:=c;cases hc;exact wpS_pure (q _ _ hf s1)
end
end HH
end
section
namespace HH
open PySem PyProof.Rows
section
variable{K:Keyed->Int}
noncomputable def Seg(K:Keyed->Int)(xs:Array Keyed)(lo hi:Nat):Prop:=∀i j,lo<=i->i<=j->j<hi->K (it xs i)<=K (it xs j)
theorem xO{l:Bool}{k:Keyed}{a:Array Keyed}{b n:Nat}(h:Seg K a b (b+n)):Hr K l k a b n:=fun i j hij hj c=>by have:=h (b+i) (b+j) (by omega) (by omega) (by omega);unfold bb at*;cases l with|true=>simp only[if_true,decide_eq_true_eq]at*;omega|false=>simp only[Bool.false_eq_true,if_false,Bool.not_eq_true',decide_eq_false_iff_not]at*;omega
theorem gj{xs:Array Keyed}{i:Nat}:it xs i=xs.toList.getD i (Value.none,Value.none):=by
 unfold it;by_cases h:i<xs.size;.simp[Array.getD,h]
 .simp[Array.getD,h]
theorem lg{a:Array Keyed}{i n j:Nat}(h:n<=a.size)(hj:j<n-i):it (a.extract i n) j=it a (i+j):=by
 have:j<(a.extract i n).size:=by simp;omega
 have e:(a.extract i n)[j]?=a[i+j]?:=by rw[Array.getElem?_extract,if_pos (by omega)]
 have e1:=qT this;have e2:=qT (show i+j<a.size by omega);rw[e,e2]at e1;injection e1 with e1;exact e1.symm
theorem pY{a:Array Keyed}{i n:Nat}(h:n<=a.size)(hs:Seg K a i n):rG K (a.extract i n):=fun u v huv hv=>by
 have hsz:(a.extract i n).size=n-i:=by simp;omega
 rw[hsz]at hv;rw[lg h (by omega),lg h hv];exact hs _ _ (by omega) (by omega) (by omega)
theorem uq:∀(m:List Keyed)(arr:Array Keyed)(o k:Nat),o+k+m.length<=arr.size->((m.zipIdx k).foldl (fun a x=>match x with|(p,j)=>a.setIfInBounds (o+j) p) arr).toList=arr.toList.take (o+k)++(m++arr.toList.drop (o+k+m.length))
 |[],arr,o,k,h=>by simp|x::m,arr,o,k,h=>by
   have hl:o+k<arr.size:=by simp at h;omega
   rw[List.zipIdx_cons,List.foldl_cons];have ih:=uq m (arr.setIfInBounds (o+k) x) o (k+1) (by simp at h ⊢;omega);rw[ih,Array.toList_setIfInBounds];have e1:(arr.toList.set (o+k) x).take (o+(k+1))=arr.toList.take (o+k)++[x]:=by rw[<-Nat.add_assoc,List.take_succ_eq_append_getElem (by simpa using hl),List.take_set_of_le (Nat.le_refl _)];simp
   have e2:(arr.toList.set (o+k) x).drop (o+(k+1)+m.length)=arr.toList.drop (o+k+(x::m).length):=by rw[List.drop_set_of_lt (by omega)];congr 1;simp;omega
   rw[e1,e2];simp
theorem Fin.mem{a b out:Array Keyed}{z:Keyed}(f:Fin K a b out)(h:z∈out.toList):z∈a.toList\/z∈b.toList:=List.mem_append.mp (f.perm.mem_iff.mp h)
theorem tE{xs:Array Keyed}{P Q S:List Keyed}{lo hi:Nat}(e:xs.toList=P++(Q++S))(hl:P.length=lo)(hh:P.length+Q.length=hi)(h:SL K Q):Seg K xs lo hi:=fun i j h1 h2 h3=>by
 rw[gj,gj,e];have gi:∀n,lo<=n->n<hi->(P++(Q++S)).getD n (Value.none,Value.none)=Q.getD (n-lo) (Value.none,Value.none):=fun n n1 n2=>by rw[List.getD_eq_getElem?_getD,List.getD_eq_getElem?_getD,List.getElem?_append_right (by omega),List.getElem?_append_left (by omega),hl]
 rw[gi i h1 (by omega),gi j (by omega) h3];by_cases hij:i=j;.rw[hij];exact Int.le_refl _
 .have:=List.pairwise_iff_getElem.mp h (i-lo) (j-lo) (by omega) (by omega) (by omega);simpa[List.getD_eq_getElem?_getD,show i-lo<Q.length by omega,show j-lo<Q.length by omega]using this
end
section
variable{M:Model}{A:Around}{E:Value->Shared->Prop}{s:Shared}{κ:SortKind}{ok:Keyed->Prop}{K:Keyed->Int}
theorem three{a:Array Keyed}{i n:Nat}(hi:i<=n)(h:n<=a.size):a.toList=a.toList.take i++((a.extract i n).toList++a.toList.drop n):=by rw[<-List.append_assoc,<-gb hi h,List.take_append_drop]
theorem Am{a:Array Keyed}{i n:Nat}(h:n<=a.size)(hs:Seg K a i n):SL K (a.extract i n).toList:=nD (pY h hs)
structure O5(K:Keyed->Int)(xs ys:Array Keyed)(lo hi:Nat):Prop where
 perm:ys.toList.Perm xs.toList
 pre:ys.toList.take lo=xs.toList.take lo
 post:ys.toList.drop hi=xs.toList.drop hi
 seg:Seg K ys lo hi
theorem rK{xs:Array Keyed}{lo hi:Nat}(h:Seg K xs lo hi):O5 K xs xs lo hi:=⟨.refl _,rfl,rfl,h⟩
theorem Kl{xs ys:Array Keyed}{lo u v hi:Nat}{m:List Keyed}(h1:lo<=u)(h2:u<=v)(h3:v<=hi)(h4:hi<=xs.size)(hy:ys.toList=xs.toList.take u++(m++xs.toList.drop v))(hp:m.Perm (xs.extract u v).toList)(hs:SL K ((xs.extract lo u).toList++(m++(xs.extract v hi).toList))):O5 K xs ys lo hi:=by
 have hlm:m.length=v-u:=by rw[hp.length_eq];simp;omega
 have el:xs.toList.take u=xs.toList.take lo++(xs.extract lo u).toList:=gb h1 (by omega);have er:xs.toList.drop v=(xs.extract v hi).toList++xs.toList.drop hi:=by have:=jc (a:=xs) (i:=v) (k:=hi-v) (by omega);rwa[show v+(hi-v)=hi by omega]at this
 have e:ys.toList=xs.toList.take lo++(((xs.extract lo u).toList++(m++(xs.extract v hi).toList))++xs.toList.drop hi):=by rw[hy,el,er];simp
 have hlo:(xs.toList.take lo).length=lo:=by simp;omega
 have hmid:((xs.extract lo u).toList++(m++(xs.extract v hi).toList)).length=hi-lo:=by simp[hlm];omega
 refine⟨?_,?_,?_,tE e hlo (by omega) hs⟩;.have t:=three h2 (show v<=xs.size by omega);rw[hy];refine List.Perm.trans (List.Perm.append_left _ (List.Perm.append_right _ hp)) (.of_eq t.symm)
 .rw[e,List.take_append_of_le_length (by omega),List.take_of_length_le (by omega)]
 .rw[e,<-List.append_assoc,List.drop_append,List.drop_eq_nil_of_le (by simp only[List.length_append]at*;omega)];simp only[List.nil_append,List.length_append]at*;rw[show hi-((xs.toList.take lo).length+((xs.extract lo u).toList.length+(m.length+(xs.extract v hi).toList.length)))=0 by omega];rfl
end
end HH
end
section
namespace HH
open PySem PyProof.Rows
section
variable{M:Model}{A:Around}{E:Value->Shared->Prop}{s:Shared}{κ:SortKind}{ok:Keyed->Prop}{K:Keyed->Int}
theorem Ms{st st':SortSt}{Q:PUnit->SortSt->Prop}(h:Q ⟨⟩ st'):wpS M A E s (set st':SM PUnit) Q st:=by unfold wpS;rw[StateT.run_set];exact wpAny_pure ⟨rfl,h⟩
theorem jf{a:Array Keyed}{i n:Nat}{x:Keyed}(hi:i<=n)(h:n<=a.size)(hx:x∈(a.extract i n).toList):∃j,i<=j/\j<n/\x=it a j:=m9 hi h hx
theorem Jy{arr merged:Array Keyed}{sa u sb v hi:Nat}(h1:sa<=u)(h2:u<=sb)(h3:sb<=v)(h4:v<=hi)(h5:hi<=arr.size)(hu:u<sb)(hv:sb<v)(s1:Seg K arr sa sb)(s2:Seg K arr sb hi)(f:Fin K (arr.extract u sb) (arr.extract sb v) merged)(k2:∀j,sa<=j->j<u->K (it arr j)<=K (it arr sb))(m3:∀j,v<=j->j<hi->K (it arr (sb-1))<=K (it arr j)):SL K ((arr.extract sa u).toList++(merged.toList++(arr.extract v hi).toList)):=by
 have Uz:∀z∈merged.toList,(∃j,u<=j/\j<sb/\z=it arr j)\/∃j,sb<=j/\j<v/\z=it arr j:=fun z hz=>(f.mem hz).imp (jf h2 (by omega)) (jf h3 (by omega));refine cu.mpr ⟨Am (by omega) fun i j a b c=>s1 i j a b (by omega),cu.mpr ⟨f.j5,Am h5 fun i j a b c=>s2 i j (by omega) b c,fun z hz y hy=>?_⟩,fun x hx y hy=>?_⟩
 . obtain⟨j,j1,j2,rfl⟩:=jf h4 h5 hy;rcases Uz z hz with⟨i,i1,i2,rfl⟩|⟨i,i1,i2,rfl⟩;.exact Int.le_trans (s1 i (sb-1) (by omega) (by omega) (by omega)) (m3 j j1 j2)
   .exact s2 i j (by omega) (by omega) (by omega)
 . obtain⟨i,i1,i2,rfl⟩:=jf h1 (by omega) hx;rcases List.mem_append.mp hy with hy|hy
   . rcases Uz y hy with⟨j,j1,j2,rfl⟩|⟨j,j1,j2,rfl⟩;.exact s1 i j (by omega) (by omega) (by omega)
     .exact Int.le_trans (k2 i i1 i2) (s2 sb j (by omega) (by omega) (by omega))
   .obtain⟨j,j1,j2,rfl⟩:=jf h4 h5 hy;exact Int.le_trans (k2 i i1 i2) (s2 sb j (by omega) (by omega) (by omega))
set_option maxHeartbeats 1000000 in
theorem KJ(R:Rk M A E s κ ok K){i sa na pw sb nb pw2:Nat}{Q:Bool->SortSt->Prop}{st:SortSt}(hs:kindOf st=κ)(ho:∀x∈(arrOf st).toList,ok x)(hf:failedOf st=none)(hi:(pendingOf st)[i]?=some (sa,na,pw))(hj:(pendingOf st)[i+1]?=some (sb,nb,pw2))(hsb:sb=sa+na)(n1:1<=na)(m1:1<=nb)(hz:sb+nb<=(arrOf st).size)(s1:Seg K (arrOf st) sa sb)(s2:Seg K (arrOf st) sb (sb+nb))(q:∀st',kindOf st'=κ->failedOf st'=none->pendingOf st'=((pendingOf st).setIfInBounds i (sa,na+nb,pw)).eraseIdxIfInBounds (i+1)->O5 K (arrOf st) (arrOf st') sa (sb+nb)->Q true st'):wpS M A E s (mergeAt' i) Q st:=by
 obtain⟨kd,arr,pend,gm,fl⟩:=st;replace hs:kd=κ:=hs;replace ho:∀x∈arr.toList,ok x:=ho;replace hf:fl=none:=hf;replace hi:pend[i]?=some (sa,na,pw):=hi;replace hj:pend[i+1]?=some (sb,nb,pw2):=hj;replace hz:sb+nb<=arr.size:=hz;replace s1:Seg K arr sa sb:=s1;replace s2:Seg K arr sb (sb+nb):=s2;replace q:∀st',kindOf st'=κ->failedOf st'=none->pendingOf st'=(pend.setIfInBounds i (sa,na+nb,pw)).eraseIdxIfInBounds (i+1)->O5 K arr (arrOf st') sa (sb+nb)->Q true st':=q;show wpS M A E s (get>>=_) Q _;refine wpS_bind (wpS_get ?_);dsimp only;rw[hi,hj];try dsimp only
 refine wpS_bind (Ms ?_);refine wpS_bind (aX (by omega) ?_);refine wpS_bind (kW R (ho _ (cV (by omega))) ho (by omega) (by omega) hs (xO (by rw[<-hsb];exact s1)) fun k k1 k2 k3=>?_);have k2':∀j,sa<=j->j<sa+k->K (it arr j)<=K (it arr sb):=fun j h1 h2=>by have:=k2 (j-sa) (by omega);rw[show sa+(j-sa)=j by omega]at this;simp[bb]at this;omega
 try dsimp only
 by_cases c1:na-k=0
 . rw[if_pos (by simpa using c1)];refine wpS_pure (q _ hs hf rfl (rK fun u v u1 u2 u3=>?_));by_cases hv:v<sb;.exact s1 u v u1 u2 hv
   . by_cases hu:u<sb;.exact Int.le_trans (k2' u u1 (by omega)) (s2 sb v (by omega) (by omega) u3)
     .exact s2 u v (by omega) u2 u3
 rw[if_neg (by simpa using c1)];rw[show sa+k+(na-k)-1=sb-1 by omega];refine wpS_bind (aX (by show sb-1<arr.size;omega) ?_);refine wpS_bind (kW R (ho _ (cV (by omega))) ho (by omega) (by omega) hs (xO s2) fun m m1' m2 m3=>?_);have m2':∀j,sb<=j->j<sb+m->K (it arr j)<K (it arr (sb-1)):=fun j h1 h2=>by have:=m2 (j-sb) (by omega);rw[show sb+(j-sb)=j by omega]at this;simpa[bb]using this
 have m3':∀j,sb+m<=j->j<sb+nb->K (it arr (sb-1))<=K (it arr j):=fun j h1 h2=>by have:=m3 (j-sb) (by omega) (by omega);rw[show sb+(j-sb)=j by omega]at this;simp[bb]at this;omega
 have Js:K (it arr sb)<=K (it arr (sa+k)):=by have:=k3 k (Nat.le_refl _) (by omega);simp[bb]at this;omega
 try dsimp only
 by_cases c2:m=0
 . rw[if_pos (by simpa using c2)];refine wpS_pure (q _ hs hf rfl (rK fun u v u1 u2 u3=>?_));by_cases hv:v<sb;.exact s1 u v u1 u2 hv
   . by_cases hu:u<sb;.exact Int.le_trans (s1 u (sb-1) u1 (by omega) (by omega)) (m3' v (by omega) u3)
     .exact s2 u v (by omega) u2 u3
 rw[if_neg (by simpa using c2)];have hxa:(arr.extract (sa+k) sb).size=sb-(sa+k):=by simp;omega
 have hya:(arr.extract sb (sb+m)).size=m:=by simp;omega
 have ux:rG K (arr.extract (sa+k) sb):=pY (by omega) fun u v a b c=>s1 u v (by omega) b c;have uy:rG K (arr.extract sb (sb+m)):=pY (by omega) fun u v a b c=>s2 u v a b (by omega);have ox:∀x∈(arr.extract (sa+k) sb).toList,ok x:=fun x hx=>by obtain⟨j,j1,j2,rfl⟩:=jf (by omega) (by omega) hx;exact ho _ (cV (by omega))
 have oy:∀x∈(arr.extract sb (sb+m)).toList,ok x:=fun x hx=>by obtain⟨j,j1,j2,rfl⟩:=jf (by omega) (by omega) hx;exact ho _ (cV (by omega))
 have hh0:K (it (arr.extract sb (sb+m)) 0)<=K (it (arr.extract (sa+k) sb) 0):=by rw[lg (by omega) (by omega),lg (by omega) (by omega)];exact Js
 have hhl:∀j,j<(arr.extract sb (sb+m)).size->K (it (arr.extract sb (sb+m)) j)<=K (it (arr.extract (sa+k) sb) ((arr.extract (sa+k) sb).size-1)):=fun j hj=>by rw[hya]at hj;rw[hxa,lg (by omega) (by omega),lg (by omega) (by omega),show sa+k+(sb-(sa+k)-1)=sb-1 by omega];exact Int.le_of_lt (m2' _ (by omega) (by omega))
 have fin:∀(merged:Array Keyed)(st':SortSt),Fin K (arr.extract (sa+k) sb) (arr.extract sb (sb+m)) merged->oJ (SortSt.mk' kd arr ((pend.setIfInBounds i (sa,na+nb,pw)).eraseIdxIfInBounds (i+1)) gm fl) st'->wpS M A E s ((modify fun s=>setArr s (List.foldl (fun a x=>match x with|(p,j)=>a.setIfInBounds (sa+k+j) p) (arrOf s) merged.toList.zipIdx))>>=fun _=>get>>=fun s=>pure (failedOf s).isNone) Q st':=fun merged st' f sm=>by
  refine wpS_bind (wpS_modify (wpS_bind (wpS_get (wpS_pure ?_))));have e1:arrOf st'=arr:=sm.arr;have e2:failedOf st'=none:=sm.fail.trans hf;have hlm:merged.toList.length=sb+m-(sa+k):=by rw[f.perm.length_eq];simp;omega
  show Q (failedOf st').isNone _;rw[e2];refine q _ (sm.kind.trans hs) e2 sm.pend ?_;show O5 K arr (List.foldl _ (arrOf st') merged.toList.zipIdx) sa (sb+nb);rw[e1];have hy:=uq merged.toList arr (sa+k) 0 (by omega);rw[Nat.add_zero,hlm,show sa+k+(sb+m-(sa+k))=sb+m by omega]at hy;have he:arr.extract (sa+k) (sb+m)=arr.extract (sa+k) sb++arr.extract sb (sb+m):=by simp[Array.extract_append_extract];congr 1<;>omega
  refine Kl (u:=sa+k) (v:=sb+m) (by omega) (by omega) (by omega) hz hy (f.perm.trans (.of_eq ?_)) (Jy (by omega) (by omega) (by omega) (by omega) hz (by omega) (by omega) s1 s2 f k2' m3');rw[he,Array.toList_append]
 try dsimp only
 split;.exact wpS_bind (Kr R ox oy hs ux uy (by omega) (by omega) hh0 hhl fun merged st' f sm=>fin merged st' f sm)
 .exact wpS_bind (JT R ox oy hs ux uy (by omega) (by omega) hh0 hhl fun merged st' f sm=>fin merged st' f sm)
end
end HH
end
section
namespace HH
open PySem PyProof.Rows
section
variable{K:Keyed->Int}
theorem uh{xs:Array Keyed}{i:Nat}:it xs i=(xs[i]?).getD (Value.none,Value.none):=by unfold it;by_cases h:i<xs.size<;>simp[Array.getD,h]
theorem jg{xs:Array Keyed}{i j:Nat}(hj:j<=xs.size)(k:Nat):it (mirror xs i j ((j-i)/2)) k=if i<=k/\k<j then it xs (i+j-1-k)else it xs k:=by rw[uh,getElem?_mirror_all hj];split<;>rw[uh]
theorem vB{xs:Array Keyed}{u d:Nat}(hs:u<xs.size)(hd:d<=u)(k:Nat):it (bubble xs u d) k=if k=u-d then it xs u else if u-d<k/\k<=u then it xs (k-1)else it xs k:=by
 rw[uh,getElem?_bubble hs d hd];by_cases h1:k=u-d;.rw[if_pos h1,if_pos h1,uh]
 .rw[if_neg h1,if_neg h1];split<;>rw[uh]
structure mC(xs ys:Array Keyed)(lo:Nat):Prop where
 perm:ys.toList.Perm xs.toList
 pre:∀i,i<lo->it ys i=it xs i
theorem mC.refl(xs:Array Keyed)(lo:Nat):mC xs xs lo:=⟨.refl _,fun _ _=>rfl⟩
theorem mC.trans{xs ys zs:Array Keyed}{lo:Nat}(a:mC xs ys lo)(b:mC ys zs lo):mC xs zs lo:=⟨b.perm.trans a.perm,fun i h=>(b.pre i h).trans (a.pre i h)⟩
theorem mC.size{xs ys:Array Keyed}{lo:Nat}(h:mC xs ys lo):ys.size=xs.size:=by simpa using h.perm.length_eq
theorem iB{xs:Array Keyed}{lo i j:Nat}(h:lo<=i)(hj:j<=xs.size):mC xs (mirror xs i j ((j-i)/2)) lo:=⟨Array.perm_iff_toList_perm.mp (mirror_perm ..),fun k hk=>by rw[jg hj,if_neg (by omega)]⟩
theorem Hl{xs:Array Keyed}{lo u d:Nat}(hs:u<xs.size)(hd:d<=u)(h:lo<=u-d):mC xs (bubble xs u d) lo:=⟨Array.perm_iff_toList_perm.mp (bubble_perm ..),fun k hk=>by rw[vB hs hd,if_neg (by omega),if_neg (by omega)]⟩
noncomputable def Gw(K:Keyed->Int)(xs:Array Keyed)(lo hi:Nat):Prop:=∀i j,lo<=i->i<=j->j<hi->K (it xs j)<=K (it xs i)
end
section
variable{M:Model}{A:Around}{E:Value->Shared->Prop}{s:Shared}{κ:SortKind}{ok:Keyed->Prop}{K:Keyed->Int}
structure Sx(κ:SortKind)(ok:Keyed->Prop)(st:SortSt)(xs:Array Keyed)(st':SortSt):Prop where
 kind:kindOf st'=κ
 arr:arrOf st'=xs
 pend:pendingOf st'=pendingOf st
 fail:failedOf st'=none
 ok:∀x∈xs.toList,ok x
theorem Sx.set{st st':SortSt}{xs ys:Array Keyed}{lo:Nat}(h:Sx κ ok st xs st')(c:mC xs ys lo):Sx κ ok st ys (setArr st' ys):=⟨h.kind,rfl,h.pend,h.fail,fun x hx=>h.ok x (c.perm.mem_iff.mp hx)⟩
theorem jL(R:Rk M A E s κ ok K){st st':SortSt}{xs:Array Keyed}{i j:Nat}{Q:Option Bool->SortSt->Prop}(h:Sx κ ok st xs st')(hi:i<xs.size)(hj:j<xs.size)(q:Q (some (decide (K (it xs i)<K (it xs j)))) st'):wpS M A E s (ltAt' i j) Q st':=by rw[ltAt'_eq];refine wpS_bind (wpS_get ?_);show wpS M A E s (elem' (arrOf st') i>>=fun x=>elem' (arrOf st') j>>=fun y=>lt' x y) Q st';rw[h.arr];exact wpS_bind (aX hi (wpS_bind (aX hj (R.lt (h.ok _ (cV hi)) (h.ok _ (cV hj)) h.kind q))))
theorem m7{st st':SortSt}{xs:Array Keyed}{lo i j:Nat}{Q:Unit->SortSt->Prop}(h:Sx κ ok st xs st')(hl:lo<=i)(hj:j<=xs.size)(q:∀st2,Sx κ ok st (mirror xs i j ((j-i)/2)) st2->Q () st2):wpS M A E s (reverseSlice' i j) Q st':=by rw[reverseSlice'_eq];refine wpS_modify ?_;rw[h.arr];exact q _ (h.set (iB hl hj))
theorem vK(R:Rk M A E s κ ok K){st st':SortSt}{xs:Array Keyed}{lo a n:Nat}{Q:Option (Option Nat)×Nat->SortSt->Prop}(h:Sx κ ok st xs st')(hn:lo+n<=xs.size)(ha:1<=a)(han:a<=n)(hs:Seg K xs lo (lo+a))(q:∀m,a<=m->m<=n->Seg K xs lo (lo+m)->(m=n\/K (it xs (lo+m))<K (it xs (lo+m-1)))->Q (none,m) st'):wpS M A E s (forIn [a:n] ((none,a):Option (Option Nat)×Nat) fun _ c=>ltAt' (lo+c.2) (lo+c.2-1)>>=fun o=>match o with|some b=>if b=true then pure (.done (none,c.2))else pure (.yield (none,c.2+1))|_=>pure (.done (some none,c.2))) Q st':=by
 refine wpS_forRange (I:=fun x c st2=>st2=st'/\c=(none,x)/\Seg K xs lo (lo+x)) ?_ ?_ ⟨rfl,rfl,hs⟩
 . rintro x c st2 h1 h2⟨rfl,rfl,hs'⟩;try dsimp only
   refine wpS_bind (jL R h (by omega) (by omega) ?_);by_cases c:K (it xs (lo+x))<K (it xs (lo+x-1))
   . rw[decide_eq_true c];try dsimp only
     rw[if_pos rfl];exact wpS_pure (q x h1 (by omega) hs' (.inr c))
   . rw[decide_eq_false c];try dsimp only
     rw[if_neg (by simp)];refine wpS_pure ⟨rfl,rfl,fun i j i1 ij jx=>?_⟩;by_cases hj:j<lo+x;.exact hs' i j i1 ij hj
     . have:j=lo+x:=by omega
       subst this;by_cases e:i=lo+x;.rw[e];exact Int.le_refl _
       .have:=hs' i (lo+x-1) i1 (by omega) (by omega);omega
 .rintro c st2⟨rfl,rfl,hs'⟩;rw[show max a n=n by omega]at hs' ⊢;exact q n han (Nat.le_refl _) hs' (.inl rfl)
theorem G5(R:Rk M A E s κ ok K){st st':SortSt}{xs:Array Keyed}{lo a n:Nat}{Q:Option (Option Nat)×Nat×Nat->SortSt->Prop}(h:Sx κ ok st xs st')(hn:lo+n<=xs.size)(ha:1<=a)(han:a<=n)(hs:Gw K xs lo (lo+a))(q:∀ys st2 m e,mC xs ys lo->Sx κ ok st ys st2->a<=m->m<=n->Gw K ys lo (lo+m)->e+1<=m->(∀i,lo+m-(e+1)<=i->i<lo+m->K (it ys i)=K (it ys (lo+m-1)))->Q (none,m,e) st2):wpS M A E s (forIn [a:n] ((none,a,0):Option (Option Nat)×Nat×Nat) fun _ c=>ltAt' (lo+c.2.1) (lo+c.2.1-1)>>=fun o=>match o with
  |some b=>if b=true then(if c.2.2>0 then reverseSlice' (lo+c.2.1-(c.2.2+1)) (lo+c.2.1)>>=fun _=>pure (.yield (none,c.2.1+1,0))else pure (.yield (none,c.2.1+1,0)))else ltAt' (lo+c.2.1-1) (lo+c.2.1)>>=fun o=>match o with|some b=>if b=true then pure (.done (none,c.2.1,c.2.2))else pure (.yield (none,c.2.1+1,c.2.2+1))|_=>pure (.done (some none,c.2.1,c.2.2))
  |_=>pure (.done (some none,c.2.1,c.2.2))) Q st':=by
 refine wpS_forRange (I:=fun x c st2=>∃ys e,c=(none,x,e)/\mC xs ys lo/\Sx κ ok st ys st2/\Gw K ys lo (lo+x)/\e+1<=x/\∀i,lo+x-(e+1)<=i->i<lo+x->K (it ys i)=K (it ys (lo+x-1))) ?_ ?_ ⟨xs,0,rfl,.refl _ _,h,hs,by omega,fun i h1 h2=>by rw[show i=lo+a-1 by omega]⟩
 . rintro x c st2 h1 h2⟨ys,e,rfl,hc,hx,hd,he,hq⟩;have hsz:=hc.size;try dsimp only
   refine wpS_bind (jL R hx (by omega) (by omega) ?_);by_cases c:K (it ys (lo+x))<K (it ys (lo+x-1))
   . rw[decide_eq_true c];try dsimp only
     rw[if_pos rfl];have more:∀zs:Array Keyed,(∀i,K (it zs i)=K (it ys i))->Gw K zs lo (lo+(x+1)):=fun zs hz i j i1 ij jx=>by
      rw[hz,hz];by_cases hj:j<lo+x;.exact hd i j i1 ij hj
      . have:j=lo+x:=by omega
        subst this;by_cases e:i=lo+x;.rw[e];exact Int.le_refl _
        .have:=hd i (lo+x-1) i1 (by omega) (by omega);omega
     by_cases c2:e>0
     . rw[if_pos c2];refine wpS_bind (m7 (lo:=lo) hx (by omega) (by omega) fun st3 h3=>wpS_pure ⟨_,0,rfl,hc.trans (iB (by omega) (by omega)),h3,more _ fun i=>?_,by omega,fun i h1 h2=>by rw[show i=lo+(x+1)-1 by omega]⟩);rw[jg (by omega)];split;.rw[hq _ (by omega) (by omega),hq i (by omega) (by omega)]
       .rfl
     .rw[if_neg c2];exact wpS_pure ⟨ys,0,rfl,hc,hx,more ys fun _=>rfl,by omega,fun i h1 h2=>by rw[show i=lo+(x+1)-1 by omega]⟩
   . rw[decide_eq_false c];try dsimp only
     rw[if_neg (by simp)];refine wpS_bind (jL R hx (by omega) (by omega) ?_);by_cases c2:K (it ys (lo+x-1))<K (it ys (lo+x))
     . rw[decide_eq_true c2];try dsimp only
       rw[if_pos rfl];exact wpS_pure (q ys st2 x e hc hx h1 (by omega) hd he hq)
     . rw[decide_eq_false c2];try dsimp only
       rw[if_neg (by simp)];have eqx:K (it ys (lo+x))=K (it ys (lo+x-1)):=by omega
       refine wpS_pure ⟨ys,e+1,rfl,hc,hx,fun i j i1 ij jx=>?_,by omega,fun i i1 i2=>?_⟩
       . by_cases hj:j<lo+x;.exact hd i j i1 ij hj
         . have:j=lo+x:=by omega
           subst this;by_cases e:i=lo+x;.rw[e];exact Int.le_refl _
           .rw[eqx];exact hd i (lo+x-1) i1 (by omega) (by omega)
       . rw[show lo+(x+1)-1=lo+x by omega];by_cases e':i=lo+x;.rw[e']
         .rw[eqx];exact hq i (by omega) (by omega)
 .rintro c st2⟨ys,e,rfl,hc,hx,hd,he,hq⟩;rw[show max a n=n by omega]at*;exact q ys st2 n e hc hx han (Nat.le_refl _) hd he hq
end
end HH
end
section
namespace HH
open PySem PyProof.Rows
section
variable{M:Model}{A:Around}{E:Value->Shared->Prop}{s:Shared}{κ:SortKind}{ok:Keyed->Prop}{K:Keyed->Int}
theorem Bq{xs:Array Keyed}{lo n:Nat}(hn:lo+n<=xs.size)(h:Gw K xs lo (lo+n)):Seg K (mirror xs lo (lo+n) ((lo+n-lo)/2)) lo (lo+n):=fun i j i1 ij jn=>by rw[jg hn,jg hn,if_pos (by omega),if_pos (by omega)];exact h _ _ (by omega) (by omega) (by omega)
theorem Bv(R:Rk M A E s κ ok K){st st':SortSt}{xs:Array Keyed}{lo n:Nat}{Q:Option Nat->SortSt->Prop}(h:Sx κ ok st xs st')(hn:lo+n<=xs.size)(h1:1<=n)(q:∀ys st2 m,mC xs ys lo->Sx κ ok st ys st2->1<=m->m<=n->Seg K ys lo (lo+m)->Q (some m) st2):wpS M A E s (countRun' lo n) Q st':=by
 have one:∀ys:Array Keyed,Seg K ys lo (lo+1):=fun ys i j i1 ij jn=>by rw[show i=j by omega];exact Int.le_refl _
 show wpS M A E s (_>>=_) Q st';refine wpS_bind (vK (a:=1) (n:=n) R h hn (Nat.le_refl 1) h1 (one xs) fun m m1 m2 sm hor=>?_);dsimp only;by_cases c1:m=n;.rw[if_pos (by simpa using c1)];exact wpS_pure (q xs st' m (.refl _ _) h m1 m2 sm)
 rw[if_neg (by simpa using c1)];have hlt:=hor.resolve_left c1;by_cases c2:m>1;rw[if_pos c2];refine wpS_bind (jL R h (by omega) (by omega) ?_);by_cases c3:K (it xs lo)<K (it xs (lo+m-1))
 . rw[decide_eq_true c3];try dsimp only
   rw[if_pos rfl];exact wpS_pure (q xs st' m (.refl _ _) h m1 m2 sm)
 rw[decide_eq_false c3];try dsimp only
 rw[if_neg (by simp)];have hall:∀k,lo<=k->k<lo+m->K (it xs k)=K (it xs (lo+m-1)):=fun k k1 k2=>by have a1:=sm lo k (Nat.le_refl _) k1 k2;have a2:=sm k (lo+m-1) k1 (by omega) (by omega);omega
 refine wpS_bind (m7 (lo:=lo) h (Nat.le_refl _) (by omega) fun st2 h2=>?_);have hc:mC xs (mirror xs lo (lo+m) ((lo+m-lo)/2)) lo:=iB (Nat.le_refl _) (by omega);have hd:Gw K (mirror xs lo (lo+m) ((lo+m-lo)/2)) lo (lo+(m+1)):=fun i j i1 ij jn=>by
  have e:∀k,lo<=k->k<lo+m->K (it (mirror xs lo (lo+m) ((lo+m-lo)/2)) k)=K (it xs (lo+m-1)):=fun k k1 k2=>by rw[jg (by omega),if_pos (by omega)];exact hall _ (by omega) (by omega)
  by_cases hj:j<lo+m;.rw[e i i1 (by omega),e j (by omega) hj];exact Int.le_refl _
  . have:j=lo+m:=by omega
    subst this;by_cases e':i=lo+m;.rw[e'];exact Int.le_refl _
    .rw[e i i1 (by omega),jg (by omega),if_neg (by omega)];omega
 generalize mirror xs lo (lo+m) ((lo+m-lo)/2)=ys at h2 hc hd;rotate_left;rw[if_neg c2];have hd0:Gw K xs lo (lo+(m+1)):=fun i j i1 ij jn=>by
  by_cases e:i=j;.rw[e];exact Int.le_refl _
  . have e1:i=lo:=by omega
    have e2:j=lo+m:=by omega
    rw[e1,e2];rw[show lo+m-1=lo by omega]at hlt;omega
 obtain⟨ys,hc,h2,hd⟩:∃ys,mC xs ys lo/\Sx κ ok st ys st'/\Gw K ys lo (lo+(m+1)):=⟨xs,.refl _ _,h,hd0⟩;all_goals
  have hsz:=hc.size;refine wpS_bind (wp_rule ?_);refine wpS_bind (G5 (a:=m+1) R h2 (by omega) (by omega) (by omega) hd fun zs st3 p e Wl hx3 p1 p2 hdz he hq=>?_);have hsz2:=Wl.size;dsimp only;by_cases ce:e>0
  . rw[if_pos ce];refine wpS_bind (m7 (lo:=lo) hx3 (by omega) (by omega) fun DY h4=>?_);have hc4:mC xs (mirror zs (lo+p-(e+1)) (lo+p) ((lo+p-(lo+p-(e+1)))/2)) lo:=hc.trans (Wl.trans (iB (by omega) (by omega)));have NT:Gw K (mirror zs (lo+p-(e+1)) (lo+p) ((lo+p-(lo+p-(e+1)))/2)) lo (lo+p):=fun i j i1 ij jn=>by
     have ez:∀k,K (it (mirror zs (lo+p-(e+1)) (lo+p) ((lo+p-(lo+p-(e+1)))/2)) k)=K (it zs k):=fun k=>by
      rw[jg (by omega)];split;.rw[hq _ (by omega) (by omega),hq k (by omega) (by omega)]
      .rfl
     rw[ez,ez];exact hdz i j i1 ij jn
    generalize mirror zs (lo+p-(e+1)) (lo+p) ((lo+p-(lo+p-(e+1)))/2)=us at h4 hc4 NT;have hs4:=hc4.size;have hc5:mC us (mirror us lo (lo+p) ((lo+p-lo)/2)) lo:=iB (Nat.le_refl _) (by omega);refine wpS_bind (m7 (lo:=lo) h4 (Nat.le_refl _) (by omega) fun Hv h5=>?_);refine wpS_bind (vK R h5 (by rw[hc5.size];omega) (by omega) p2 (Bq (by omega) NT) fun u u1 u2 su _=>?_);exact wpS_pure (q _ Hv u (hc4.trans hc5) h5 (by omega) u2 su)
  .rw[if_neg ce];have hs4:=(hc.trans Wl).size;have hc5:mC zs (mirror zs lo (lo+p) ((lo+p-lo)/2)) lo:=iB (Nat.le_refl _) (by omega);refine wpS_bind (m7 (lo:=lo) hx3 (Nat.le_refl _) (by omega) fun Hv h5=>?_);refine wpS_bind (vK R h5 (by rw[hc5.size];omega) (by omega) p2 (Bq (by omega) hdz) fun u u1 u2 su _=>?_);exact wpS_pure (q _ Hv u ((hc.trans Wl).trans hc5) h5 (by omega) u2 su)
theorem JB(R:Rk M A E s κ ok K){st st':SortSt}{xs:Array Keyed}{lo n o:Nat}{Q:Bool->SortSt->Prop}(h:Sx κ ok st xs st')(hn:lo+n<=xs.size)(ho:o<=n)(hs:Seg K xs lo (lo+o))(q:∀ys st2,mC xs ys lo->Sx κ ok st ys st2->Seg K ys lo (lo+n)->Q true st2):wpS M A E s (binarySort' lo n o) Q st':=by
 show wpS M A E s (_>>=_) Q st';refine wpS_bind (wpS_mono (wpS_forRange (I:=fun k c st2=>∃ys,c=(none,())/\mC xs ys lo/\Sx κ ok st ys st2/\Seg K ys lo (lo+min k n)) (Q:=fun c st2=>∃ys,c=(none,())/\mC xs ys lo/\Sx κ ok st ys st2/\Seg K ys lo (lo+n)) ?_ ?_ ?_) ?_)
 . rintro k c st2 k1 k2⟨ys,rfl,hc,hx,sg⟩;rw[show min k n=k by omega]at sg;have hsz:=hc.size;refine wpS_bind (wpS_mono (wpS_forRange (I:=fun x c st3=>st3=st2/\∃l r,c=(none,l,r)/\l<=r/\r<=k/\r-l<=k-x/\(∀i,lo<=i->i<lo+l->K (it ys i)<=K (it ys (lo+k)))/\∀i,lo+r<=i->i<lo+k->K (it ys (lo+k))<K (it ys i)) (Q:=fun c st3=>st3=st2/\∃l r,c=(none,l,r)/\l<=k/\(∀i,lo<=i->i<lo+l->K (it ys i)<=K (it ys (lo+k)))/\∀i,lo+l<=i->i<lo+k->K (it ys (lo+k))<K (it ys i)) ?_ ?_ ⟨rfl,0,k,rfl,by omega,by omega,by omega,fun i a b=>by omega,fun i a b=>by omega⟩) ?_)
   . rintro x c st3 _ xk⟨rfl,l,r,rfl,a1,a2,a3,a4,a5⟩;dsimp only;by_cases e:l ≥ r
     . rw[if_pos e];have:l=r:=by omega
       subst this;exact wpS_pure ⟨rfl,l,l,rfl,a2,a4,a5⟩
     . rw[if_neg e];refine wpS_bind (jL R hx (by omega) (by omega) ?_);by_cases c:K (it ys (lo+k))<K (it ys (lo+(l+r)/2));.rw[decide_eq_true c];dsimp only;rw[if_pos rfl];exact wpS_pure ⟨rfl,_,_,rfl,by omega,by omega,by omega,a4,fun i i1 i2=>Int.lt_of_lt_of_le c (sg _ _ (by omega) i1 i2)⟩
       .rw[decide_eq_false c];dsimp only;rw[if_neg (by simp)];exact wpS_pure ⟨rfl,_,_,rfl,by omega,a2,by omega,fun i i1 i2=>Int.le_trans (sg i (lo+(l+r)/2) i1 (by omega) (by omega)) (Int.not_lt.mp c),a5⟩
   . rintro c st3⟨rfl,l,r,rfl,a1,a2,a3,a4,a5⟩;have:l=r:=by omega
     subst this;exact⟨rfl,l,l,rfl,a2,a4,a5⟩
   . rintro c st3⟨rfl,l,r,rfl,a2,a4,a5⟩;show wpS M A E s (moveDown' (lo+k) (lo+l)>>=fun _=>pure (ForInStep.yield (none,()))) _ _;rw[moveDown'_eq];refine wpS_bind (wpS_modify (wpS_pure ?_));rw[hx.arr];have hb:mC ys (bubble ys (lo+k) (lo+k-(lo+l))) lo:=Hl (by omega) (by omega) (by omega);refine⟨_,rfl,hc.trans hb,hx.set hb,fun i j i1 ij jn=>?_⟩;rw[show min (k+1) n=k+1 by omega]at jn;rw[vB (by omega) (by omega),vB (by omega) (by omega),show lo+k-(lo+k-(lo+l))=lo+l by omega];repeat' split
     all_goals first|(exfalso;omega)|exact Int.le_refl _|exact a4 _ (by omega) (by omega)|exact Int.le_of_lt (a5 _ (by omega) (by omega))|exact sg _ _ (by omega) (by omega) (by omega)
 .rintro c st2⟨ys,hc0,hc,hx,sg⟩;rw[show min (max (max o 1) n) n=n by omega]at sg;exact⟨ys,hc0,hc,hx,sg⟩
 . refine⟨xs,rfl,.refl _ _,h,fun i j i1 ij jn=>?_⟩;by_cases e:i=j;.rw[e];exact Int.le_refl _
   .exact hs i j i1 ij (by omega)
 .rintro c st2⟨ys,rfl,hc,hx,sg⟩;exact wpS_pure (q ys st2 hc hx sg)
end
end HH
end
section
namespace HH
open PySem PyProof.Rows
noncomputable abbrev Rn:=Nat×Nat×Nat
section
variable{K:Keyed->Int}{xs ys:Array Keyed}
noncomputable def zc(K:Keyed->Int)(xs:Array Keyed):Nat->List Rn->Nat->Prop|a,[],b=>a=b|a,r::l,b=>r.1=a/\1<=r.2.1/\Seg K xs a (a+r.2.1)/\zc K xs (a+r.2.1) l b
theorem fG:∀{l k:List Rn}{a b:Nat},zc K xs a (l++k) b↔∃m,zc K xs a l m/\zc K xs m k b
 |[],k,a,b=>⟨fun h=>⟨a,rfl,h⟩,fun⟨m,h1,h2⟩=>by cases(show a=m from h1);exact h2⟩|r::l,k,a,b=>by
   rw[List.cons_append];constructor;.rintro⟨h1,h2,h3,h4⟩;obtain⟨m,h5,h6⟩:=fG.mp h4;exact⟨m,⟨h1,h2,h3,h5⟩,h6⟩
   .rintro⟨m,⟨h1,h2,h3,h4⟩,h5⟩;exact⟨h1,h2,h3,fG.mpr ⟨m,h4,h5⟩⟩
theorem nU:∀{l:List Rn}{a b:Nat},zc K xs a l b->a+l.length<=b|[],a,b,h=>by cases(show a=b from h);simp|r::l,a,b,⟨_,h2,_,h4⟩=>by have:=nU h4;simp only[List.length_cons];omega
theorem sX{lo hi:Nat}(h:∀i,lo<=i->i<hi->it ys i=it xs i)(s:Seg K xs lo hi):Seg K ys lo hi:=fun i j i1 ij jn=>by rw[h i i1 (by omega),h j (by omega) jn];exact s i j i1 ij jn
theorem jG:∀{l:List Rn}{a b:Nat},(∀i,a<=i->i<b->it ys i=it xs i)->zc K xs a l b->zc K ys a l b|[],_,_,_,h=>h|r::l,a,b,e,⟨h1,h2,h3,h4⟩=>by have:=nU h4;exact⟨h1,h2,sX (fun i i1 i2=>e i i1 (by omega)) h3,jG (fun i i1 i2=>e i (by omega) i2) h4⟩
theorem Fb{r r':Rn}{a b:Nat}(h1:r'.1=r.1)(h2:r'.2.1=r.2.1){l:List Rn}(h:zc K xs a (l++[r]) b):zc K xs a (l++[r']) b:=by obtain⟨m,g1,g2,g3,g4,g5⟩:=fG.mp h;exact fG.mpr ⟨m,g1,h1.trans g2,by omega,by rw[h2];exact g4,by rw[h2];exact g5⟩
theorem Ec{lo:Nat}(h:ys.toList.take lo=xs.toList.take lo)(i:Nat)(hi:i<lo):it ys i=it xs i:=by rw[gj,gj,List.getD_eq_getElem?_getD,List.getD_eq_getElem?_getD];have e:=congrArg (fun l=>l[i]?) h;simp only[List.getElem?_take,hi,if_true]at e;rw[e]
theorem wQ{hi:Nat}(h:ys.toList.drop hi=xs.toList.drop hi)(i:Nat)(h1:hi<=i):it ys i=it xs i:=by rw[gj,gj,List.getD_eq_getElem?_getD,List.getD_eq_getElem?_getD];have e:=congrArg (fun l=>l[i-hi]?) h;simp only[List.getElem?_drop,show hi+(i-hi)=i by omega]at e;rw[e]
theorem Ed{l1 l2:List Rn}{a b:Nat}{r1 r2:Rn}{p:Nat}(h:zc K xs a (l1++r1::r2::l2) b)(g:O5 K xs ys r1.1 (r2.1+r2.2.1)):zc K ys a (l1++(r1.1,r1.2.1+r2.2.1,p)::l2) b:=by
 obtain⟨m,g1,g2,g3,g4,g5,g6,g7,g8⟩:=fG.mp h;subst g2;have e:=nU g8;refine fG.mpr ⟨r1.1,jG (fun i i1 i2=>Ec g.pre i i2) g1,rfl,by show 1<=r1.2.1+r2.2.1;omega,?_,?_⟩;.show Seg K ys r1.1 (r1.1+(r1.2.1+r2.2.1));have:=g.seg;rw[g5]at this;rwa[<-Nat.add_assoc]
 .show zc K ys (r1.1+(r1.2.1+r2.2.1)) l2 b;rw[<-Nat.add_assoc];exact jG (fun i i1 i2=>wQ g.post i (by rw[g5];exact i1)) g8
theorem Dg{l:List Rn}{i:Nat}(h:i+1<l.length):∃l1 r1 r2 l2,l=l1++r1::r2::l2/\l1.length=i:=by refine⟨l.take i,l[i],l[i+1],l.drop (i+2),?_,by simp;omega⟩;rw[<-List.drop_eq_getElem_cons (by omega),<-List.drop_eq_getElem_cons (by omega),List.take_append_drop]
theorem oh:∀{l:List Rn},l≠[]->∃k r,l=k++[r]|[],h=>absurd rfl h|[r],_=>⟨[],r,rfl⟩|r::x::l,_=>by obtain⟨k,q,e⟩:=oh (l:=x::l) (by simp);exact⟨r::k,q,by rw[e];rfl⟩
theorem xF(x r1 r2:Rn)(l2:List Rn):∀l1:List Rn,((l1++r1::r2::l2).set l1.length x).eraseIdx (l1.length+1)=l1++x::l2|[]=>rfl|r::l1=>by show r::((l1++r1::r2::l2).set l1.length x).eraseIdx (l1.length+1)=r::(l1++x::l2);rw[xF x r1 r2 l2 l1]
end
section
variable{M:Model}{A:Around}{E:Value->Shared->Prop}{s:Shared}{κ:SortKind}{ok:Keyed->Prop}{K:Keyed->Int}
structure SR(κ:SortKind)(ok:Keyed->Prop)(K:Keyed->Int)(x0 ys:Array Keyed)(l:List Rn)(lo:Nat)(st:SortSt):Prop where
 kind:kindOf st=κ
 arr:arrOf st=ys
 fail:failedOf st=none
 pend:(pendingOf st).toList=l
 perm:ys.toList.Perm x0.toList
 ok:∀x∈ys.toList,ok x
 Qu:zc K ys 0 l lo
 le:lo<=ys.size
theorem SR.sx{x0 ys:Array Keyed}{l:List Rn}{lo:Nat}{st:SortSt}(h:SR κ ok K x0 ys l lo st):Sx κ ok st ys st:=⟨h.kind,h.arr,rfl,h.fail,h.ok⟩
theorem xG(R:Rk M A E s κ ok K){x0 ys:Array Keyed}{l:List Rn}{lo i:Nat}{st:SortSt}{Q:Bool->SortSt->Prop}(h:SR κ ok K x0 ys l lo st)(hi:i+1<l.length)(q:∀zs k st2,SR κ ok K x0 zs k lo st2->k.length+1=l.length->(∀j,lo<=j->it zs j=it ys j)->Q true st2):wpS M A E s (mergeAt' i) Q st:=by
 obtain⟨l1,r1,r2,l2,e,hl⟩:=Dg hi;have hr:=h.Qu;rw[e]at hr;obtain⟨m,g1,g2,g3,g4,g5,g6,g7,g8⟩:=fG.mp hr;have hle:=nU g8;have hz:=h.le;have hp:=h.pend;have ei:(pendingOf st)[i]?=some (r1.1,r1.2.1,r1.2.2):=by rw[<-Array.getElem?_toList,hp,e,<-hl];simp
 have ej:(pendingOf st)[i+1]?=some (r2.1,r2.2.1,r2.2.2):=by rw[<-Array.getElem?_toList,hp,e,<-hl];simp
 refine KJ R h.kind (by rw[h.arr];exact h.ok) h.fail ei ej (by omega) g3 g6 (by rw[h.arr];omega) (by rw[h.arr,g2,g5];exact g4) (by rw[h.arr,g5];exact g7) fun st2 a1 a2 a3 a4=>?_;rw[h.arr]at a4;have hr2:=Ed (p:=r1.2.2) hr a4;refine q (arrOf st2) (l1++(r1.1,r1.2.1+r2.2.1,r1.2.2)::l2) st2 ⟨a1,rfl,a2,?_,a4.perm.trans h.perm,fun x hx=>h.ok x (a4.perm.mem_iff.mp hx),hr2,?_⟩ (by rw[e];simp only[List.length_append,List.length_cons];omega) fun j hj=>wQ a4.post j (by omega);.rw[a3];rw[Array.toList_eraseIdxIfInBounds,Array.toList_setIfInBounds,hp,e,<-hl];exact xF _ _ _ _ _
 .have:=a4.perm.length_eq;simp only[Array.length_toList]at this;omega
end
end HH
end
section
namespace HH
open PySem PyProof.Rows
section
variable{M:Model}{A:Around}{E:Value->Shared->Prop}{s:Shared}{κ:SortKind}{ok:Keyed->Prop}{K:Keyed->Int}
theorem SR.move{x0 ys zs:Array Keyed}{l:List Rn}{lo:Nat}{st st2:SortSt}(h:SR κ ok K x0 ys l lo st)(c:mC ys zs lo)(x:Sx κ ok st zs st2):SR κ ok K x0 zs l lo st2:=⟨x.kind,x.arr,x.fail,by rw[x.pend];exact h.pend,c.perm.trans h.perm,x.ok,jG (fun i _ i2=>c.pre i i2) h.Qu,by rw[c.size];exact h.le⟩
theorem rP{r:Rn}{f:Rn->Rn}:∀k:List Rn,(k++[r]).modify (k.length+1-1) f=k++[f r]|[]=>rfl|x::k=>by show x::(k++[r]).modify k.length f=x::(k++[f r]);rw[<-rP k];rfl
theorem m8{p:Array Rn}{k:List Rn}{r:Rn}{f:Rn->Rn}(h:p.toList=k++[r]):(p.modify (p.size-1) f).toList=k++[f r]:=by
 have hz:p.size=k.length+1:=by rw[<-Array.length_toList,h];simp
 rw[Array.toList_modify,h,hz];exact rP k
theorem SR.push{x0 ys:Array Keyed}{l:List Rn}{lo n:Nat}{st:SortSt}(h:SR κ ok K x0 ys l lo st)(h1:1<=n)(h2:lo+n<=ys.size)(hs:Seg K ys lo (lo+n)):SR κ ok K x0 ys (l++[(lo,n,0)]) (lo+n) (setPending st ((pendingOf st).push (lo,n,0))):=⟨h.kind,h.arr,h.fail,by show((pendingOf st).push (lo,n,0)).toList=_;rw[Array.toList_push,h.pend],h.perm,h.ok,fG.mpr ⟨lo,h.Qu,rfl,h1,hs,rfl⟩,h2⟩
theorem SR.pow{x0 ys:Array Keyed}{l:List Rn}{lo pw:Nat}{st:SortSt}(h:SR κ ok K x0 ys l lo st)(hl:l≠[]):∃k,k≠[]/\SR κ ok K x0 ys k lo (setPending st ((pendingOf st).modify ((pendingOf st).size-1) fun(a,b,_)=>(a,b,pw))):=by obtain⟨k,r,e⟩:=oh hl;have hr:=h.Qu;have hp:=h.pend;rw[e]at hr hp;exact⟨k++[(r.1,r.2.1,pw)],by simp,h.kind,h.arr,h.fail,m8 hp,h.perm,h.ok,Fb (r:=r) (r':=(r.1,r.2.1,pw)) rfl rfl hr,h.le⟩
theorem J2{p:Prop}[Decidable p]{a n:Nat}(h:a+1<n):(if p then a-1 else a)+1<n:=by split<;>omega
theorem Gg(R:Rk M A E s κ ok K){x0:Array Keyed}{Q:Unit->SortSt->Prop}{st:SortSt}(h:SR κ ok K x0 x0 [] 0 st)(q:∀ys st',arrOf st'=ys->failedOf st'=none->ys.toList.Perm x0.toList->Seg K ys 0 ys.size->Q () st'):wpS M A E s sortRuns' Q st:=by
 rw[sortRuns'_eq];refine wpS_bind (wpS_get ?_);dsimp only;simp only[h.arr];have big:∀{ys l lo st},SR κ ok K x0 ys l lo st->ys.size=x0.size:=fun h=>by simpa using h.perm.length_eq
 generalize minRun' x0.size x0.size 0=mr;refine wpS_bind (wpS_mono (wpS_forRange (I:=fun x c st'=>∃ys l lo,c=(none,lo)/\SR κ ok K x0 ys l lo st'/\x<=lo) (Q:=fun c st'=>∃ys l,c=(none,x0.size)/\SR κ ok K x0 ys l x0.size st') ?_ ?_ ⟨x0,[],0,rfl,h,Nat.le_refl _⟩) ?_)
 . rintro x c st1 _ hx⟨ys,l,lo,rfl,hS,hlo⟩;have hz:=big hS;have hle:=hS.le;dsimp only;by_cases c1:lo ≥ x0.size
   . rw[if_pos c1];have:lo=x0.size:=by omega
     subst this;exact wpS_pure ⟨ys,l,rfl,hS⟩
   rw[if_neg c1];refine wpS_bind (Bv R hS.sx (lo:=lo) (n:=x0.size-lo) (by omega) (by omega) fun ys1 st2 m ch hx1 m1 m2 sg=>?_);have hS1:=hS.move ch hx1;have hz1:=big hS1;dsimp only;by_cases c2:m<mr;case' pos=>
    rw[if_pos c2];refine wpS_bind (wpS_lift (wpAny_rule ⟨rfl,?_⟩));refine wpS_bind (JB R hx1 (lo:=lo) (n:=min (x0.size-lo) mr) (by omega) (by omega) sg fun Ju st3 ch2 hx2 sg2=>?_);simp only[Bool.not_true,Bool.false_eq_true,if_false];replace hS1:=hS.move (ch.trans ch2) hx2;replace hz1:=big hS1;replace m1:1<=min (x0.size-lo) mr:=by omega
    replace m2:min (x0.size-lo) mr<=x0.size-lo:=by omega
    generalize min (x0.size-lo) mr=n at*
   case' neg=>rw[if_neg c2];clear ch;obtain⟨Ju,hys⟩:∃Ju,Ju=ys1:=⟨_,rfl⟩;obtain⟨st3,hst⟩:∃st3,st3=st2:=⟨_,rfl⟩;obtain⟨n,hn⟩:∃n,n=m:=⟨_,rfl⟩;subst hys hst hn;have sg2:=sg
   all_goals refine wpS_bind (wpS_get ?_);cases hb:(pendingOf st3).back? with|none=>dsimp only;exact wpS_bind (wpS_modify (wpS_pure ⟨Ju,_,lo+n,rfl,hS1.push m1 (by omega) sg2,by omega⟩))|some r=>
      obtain⟨s1,n1,p1⟩:=r;dsimp only;have hne:l≠[]:=by rintro rfl;have:pendingOf st3=#[]:=Array.toList_inj.mp hS1.pend;rw[this]at hb;exact nomatch hb
      generalize power' x0.size (2*s1+n1) (2*s1+n1+n1+n) x0.size=pw;refine wpS_bind (wpS_mono (wpS_forRange (I:=fun _ c st'=>∃ys k,c=(none,())/\k≠[]/\SR κ ok K x0 ys k lo st'/\∀j,lo<=j->it ys j=it Ju j) (Q:=fun c st'=>∃ys k,c=(none,())/\k≠[]/\SR κ ok K x0 ys k lo st'/\∀j,lo<=j->it ys j=it Ju j) ?_ (fun _ _ h=>h) ⟨Ju,l,rfl,hne,hS1,fun _ _=>rfl⟩) ?_)
      . rintro y c DY _ _⟨ys3,k,rfl,hk,Qv,sm⟩;refine wpS_bind (wpS_get ?_);try dsimp only
        have stop:∃ys k,((none,()):Option Unit×Unit)=(none,())/\k≠[]/\SR κ ok K x0 ys k lo DY/\∀j,lo<=j->it ys j=it Ju j:=⟨ys3,k,rfl,hk,Qv,sm⟩;split
        . rename_i older ho;split;.exact wpS_pure stop
          . have hp1:(pendingOf DY).size>1:=by
             by_cases hh:(pendingOf DY).size>1;.exact hh
             .rw[if_neg hh]at ho;exact nomatch ho
            have hkl:k.length=(pendingOf DY).size:=by rw[<-Qv.pend];simp
            refine wpS_bind (xG R Qv (by omega) fun zs k2 Hv hS5 hk2 sm5=>?_);simp only[Bool.not_true,Bool.false_eq_true,if_false];exact wpS_pure ⟨zs,k2,rfl,by rintro rfl;simp at hk2;omega,hS5,fun j hj=>(sm5 j hj).trans (sm j hj)⟩
        .exact wpS_pure stop
      .rintro c DY⟨ys3,k,rfl,hk,Qv,sm⟩;dsimp only;obtain⟨k2,_,hS4⟩:=Qv.pow (pw:=pw) hk;refine wpS_bind (wpS_modify ?_);have hz3:=big Qv;exact wpS_bind (wpS_modify (wpS_pure ⟨ys3,_,lo+n,rfl,hS4.push m1 (by omega) (sX (fun i i1 _=>sm i i1) sg2),by omega⟩))
 . rintro c st1⟨ys,l,lo,rfl,hS,hlo⟩;have:=hS.le;have:=big hS;have:lo=x0.size:=by omega
   subst this;exact⟨ys,l,rfl,hS⟩
 . rintro c st1⟨ys,l,rfl,hS⟩;dsimp only;have hl:=nU hS.Qu;refine wpS_bind (wpS_mono (wpS_forRange (I:=fun x c st'=>∃ys l,c=(none,())/\SR κ ok K x0 ys l x0.size st'/\l.length<=max 1 (x0.size-x)) (Q:=fun c st'=>∃ys l,c=(none,())/\SR κ ok K x0 ys l x0.size st'/\l.length<=1) ?_ ?_ ⟨ys,l,rfl,hS,by omega⟩) ?_)
   . rintro x c st2 _ hx⟨zs,k,rfl,hZ,hk⟩;refine wpS_bind (wpS_get ?_);try dsimp only
     have hkl:k.length=(pendingOf st2).size:=by rw[<-hZ.pend];simp
     by_cases c1:(pendingOf st2).size<=1;.rw[if_pos c1];exact wpS_pure ⟨zs,k,rfl,hZ,by omega⟩
     rw[if_neg c1];refine wpS_bind (xG R hZ (J2 (by omega)) fun zs2 k2 Hv hS5 hk2 _=>?_);simp only[Bool.not_true,Bool.false_eq_true,if_false];exact wpS_pure ⟨zs2,k2,rfl,hS5,by omega⟩
   .rintro c st2⟨zs,k,rfl,hZ,hk⟩;exact⟨zs,k,rfl,hZ,by omega⟩
   .rintro c st2⟨zs,k,rfl,hZ,hk⟩;dsimp only;have hz:=big hZ;refine wpS_pure (q zs st2 hZ.arr hZ.fail hZ.perm ?_);match k,hk,hZ.Qu with|[],_,e=>have e:0=x0.size:=e;intro i j _ _ _;omega|[r],_,⟨_,_,g,e⟩=>have e:0+r.2.1=x0.size:=e;rw[e]at g;rwa[hz]
end
end HH
end
section
namespace HH
open PySem PySem.W PyProof.Rows PySem.Calls L2 PySem.Spec
theorem yo{α β:Type}{f:α->β}{l' m:List β}(h:l'.Perm m):∀{l:List α},m=l.map f->∃k:List α,k.Perm l/\k.map f=l':=by induction h with
 |nil=>intro l e;cases l with|nil=>exact⟨[],.refl _,rfl⟩|cons _ _=>cases e
 |cons x h ih=>intro l e;cases l with|nil=>cases e|cons a l=>obtain⟨e1,e2⟩:=List.cons.inj e;obtain⟨k,h1,h2⟩:=ih e2;exact⟨a::k,h1.cons a,by rw[List.map_cons,h2,e1]⟩
 |swap x y l0=>intro l e;match l,e with|a::b::l,e=>obtain⟨e1,e2⟩:=List.cons.inj e;obtain⟨e3,e4⟩:=List.cons.inj e2;exact⟨b::a::l,.swap ..,by rw[List.map_cons,List.map_cons,e1,e3,e4]⟩
 |trans h1 h2 ih1 ih2=>intro l e;obtain⟨k,p1,e1⟩:=ih2 e;obtain⟨k2,p2,e2⟩:=ih1 e1.symm;exact⟨k2,p2.trans p1,e2⟩
theorem Gm(a:List Int):aY a a=false:=by cases h:aY a a with|false=>rfl|true=>rw[jw _ _ h]at h;cases h
theorem CT{a b x:List Int}(h:aY b a=false)(hx:aY x a=true):aY x b=true:=by cases e:aY x b with|true=>rfl|false=>rw[uI _ _ _ h e]at hx;cases hx
theorem pI{α:Type}{p q:α->Bool}(h:∀x,p x=true->q x=true):∀{l:List α},(∃x,x∈l/\q x=true/\p x=false)->l.countP p<l.countP q
 |[],⟨x,hx,_⟩=>by cases hx|y::l,⟨x,hx,h1,h2⟩=>by
   rw[List.countP_cons,List.countP_cons];have m:=List.countP_mono_left (l:=l) (p:=p) (q:=q) fun x _=>h x;rcases List.mem_cons.mp hx with rfl|hx;.rw[h1,h2,if_pos rfl,if_neg (by simp)];omega
   .have:=pI h ⟨x,hx,h1,h2⟩;cases hp:p y with|true=>rw[h y hp];omega|false=>rw[if_neg (by simp)];omega
noncomputable def Mu(ds:List D)(d:D):Nat:=ds.countP fun e=>aY (bH e) (bH d)
theorem Cq{ds:List D}{d e:D}(hd:d∈ds):decide ((Mu ds d:Int)<Mu ds e)=aY (bH d) (bH e):=by cases h:aY (bH d) (bH e)with|true=>have:=pI (l:=ds) (p:=fun x=>aY (bH x) (bH d)) (q:=fun x=>aY (bH x) (bH e)) (fun x hx=>CT (jw _ _ h) hx) ⟨d,hd,h,Gm _⟩;rw[decide_eq_true_iff];unfold Mu;omega|false=>have:=List.countP_mono_left (l:=ds) (p:=fun x=>aY (bH x) (bH e)) (q:=fun x=>aY (bH x) (bH d)) fun x _ hx=>CT h hx;rw[decide_eq_false_iff_not];unfold Mu;omega
open Classical in
noncomputable def Xm(P:Value->D->Prop)(ds:List D)(x:Keyed):Int:=if h:∃d,d∈ds/\P x.1 d then(Mu ds h.choose:Int)else 0
theorem wz{P:Value->D->Prop}{ds:List D}{x:Keyed}{d:D}(fn:∀u d e,P u d->P u e->bH d=bH e)(hd:d∈ds)(hp:P x.1 d):Xm P ds x=Mu ds d:=by have h:∃d,d∈ds/\P x.1 d:=⟨d,hd,hp⟩;unfold Xm;rw[dif_pos h];unfold Mu;rw[fn _ _ _ h.choose_spec.2 hp]
noncomputable def pick{α:Type}(d:α)(p:List Nat)(l:List α):List α:=p.map fun i=>l.getD i d
theorem oF{α:Type}(d:α)(l:List α):pick d (List.range l.length) l=l:=by refine List.ext_getElem (by simp[pick]) fun i h1 h2=>?_;simp[pick,h2]
theorem n6{α:Type}{d:α}{p:List Nat}{l:List α}{n:Nat}(h:p.Perm (List.range n)):(pick d p l).length=n:=by rw[pick,List.length_map,h.length_eq,List.length_range]
theorem iI{P:Value->D->Prop}:∀{us:List Value}{ds:List D},Paired P us ds->∀i,i<us.length->P (us.getD i .none) (ds.getD i .non)/\ds.getD i .non∈ds|_,_,.cons r _,0,_=>⟨by simpa using r,by simp⟩|_,_,.cons _ t,i+1,hi=>by have:=iI t i (by simpa using hi);exact⟨by simpa using this.1,by simpa using Or.inr this.2⟩
section
variable{prog:Program}{w:World}{A:Around}{E:Value->Shared->Prop}{s:Shared}{vs:List Value}{κ:SortKind}{P:Value->D->Prop}{ds:List D}
theorem yD{a:Addr}{n:Nat}{O:PySem.Fin->Shared->Prop}(ho:s.heap.get? a=some (seqObj "list" vs.toArray n))(so:sortable ds=true)(hz:vs.length<=16777216)(pr:Paired P vs ds)(fn:∀u d e,P u d->P u e->bH d=bH e)(hk:∀h',(∀b o,b≠a->s.heap.get? b=some o->h'.get? b=some o)->∀C:SortKind->Shared->Prop,C κ {s with heap:=h'}->2<=vs.length->wpAny (model prog w) A (keyKind' vs.toArray) C (fun _ _=>False) {s with heap:=h'})(hl:∀h',(∀b o,b≠a->s.heap.get? b=some o->h'.get? b=some o)->∀u v d e,P u d->P v e->∀C:Bool->Shared->Prop,C (aY (bH d) (bH e)) {s with heap:=h'}->wpAny (model prog w) A (keyLt' κ u v) C (fun _ _=>False) {s with heap:=h'})(h:∀h' c p,(∀b o,b≠a->s.heap.get? b=some o->h'.get? b=some o)->p.Perm (List.range vs.length)->pick .non p ds=j5 ds->h'.get? a=some (seqObj "list" (pick .none p vs).toArray c)->O (.done (.ret .none)) {s with heap:=h'}):wpAny (model prog w) A (Builtin.«list.sort» ⟨[.ref a],[]⟩) O E s:=by
 have ha:a<s.heap.objs.size:=Heap.lt_size ho;have hld:vs.length=ds.length:=Paired.length pr;obtain⟨e1,ho1⟩:∃e1,(s.heap.update a (Obj.mapSeq fun _=>(#[]:Array Value))).get? a=some (seqObj "list" #[] e1):=⟨_,get?_update_seq ho fun _=>#[]⟩;rw[list_sort_plain];refine wpAny_bind (listItems_at ho rfl ?_);refine wpAny_bind (listUpdate_at ho rfl ?_ (by rw[List.size_toArray,sizeLine_eq];omega) (Nat.zero_le _));refine wpAny_bind (seqEpoch_at ho1 rfl ?_);refine wpAny_bind (wpAny_newTuple ?_ (by show vs.length<=_;rw[sizeLine_eq];omega));refine wpAny_bind (wpAny_newList ?_ (Nat.zero_le _));refine wpAny_holding ?_;generalize hH:(((s.heap.update a (Obj.mapSeq fun _=>(#[]:Array Value))).push {cls:=.type "tuple",data:=.seq vs.toArray}).push {cls:=.type "list",data:=.seq #[]}:Heap)=H1;have UG:H1.get? a=some (seqObj "list" #[] e1):=by rw[<-hH];exact Heap.get?_push_of_some _ (Heap.get?_push_of_some _ ho1)
 have keep:∀b o,b≠a->s.heap.get? b=some o->H1.get? b=some o:=fun b o hb e=>by rw[<-hH];exact Heap.get?_push_of_some _ (Heap.get?_push_of_some _ ((Heap.get?_update_other _ _ (Ne.symm hb)).trans e))
 have fin:∀p:List Nat,p.Perm (List.range vs.length)->pick .non p ds=j5 ds->O (.done (.ret .none)) {s with heap:=H1.update a (Obj.mapSeq fun _=>List.toArray (pick .none p vs))}:=by intro p h1 h2;obtain⟨c2,hc2⟩:∃c2,(H1.update a (Obj.mapSeq fun _=>List.toArray (pick Value.none p vs))).get? a=some (seqObj "list" (pick Value.none p vs).toArray c2):=⟨_,get?_update_seq UG fun _=>List.toArray (pick Value.none p vs)⟩;exact h _ c2 p (fun b o hb e=>(Heap.get?_update_other _ _ (Ne.symm hb)).trans (keep b o hb e)) h1 h2 hc2
 show wpAny (model prog w) A _ O E {s with heap:=H1};dsimp only;by_cases h2:vs.toArray.size<2
 . rw[if_pos h2,if_pos h2];refine wpAny_bind (wpAny_pure ?_);rw[StateT.run_pure];refine wpAny_bind (wpAny_pure ?_);dsimp only;have eo:(arrOf (SortSt.mk' general' (vs.toArray.zip vs.toArray) #[] 7 none)).map (·.2)=List.toArray (pick Value.none (List.range vs.length) vs):=by rw[oF];apply Array.toList_inj.mp;show((vs.toArray.zip vs.toArray).map (·.2)).toList=vs;simp[List.map_snd_zip]
   rw[eo];refine wpAny_bind (seqEpoch_at UG rfl ?_);refine wpAny_bind (listUpdate_at UG rfl ?_ (Nat.zero_le _) (by rw[List.size_toArray,n6 (.refl _),sizeLine_eq];omega));simp only[bne_self_eq_false,Bool.false_eq_true,if_false];refine wpAny_pure (fin _ (.refl _) ?_);rw[hld,oF];refine nH so (.refl _) ?_;match ds,(show ds.length<2 by simp at h2;omega)with|[],_=>exact .nil|[_],_=>exact List.pairwise_singleton ..|_::_::_,h2=>simp at h2;omega
 . rw[if_neg h2,if_neg h2];have h2':2<=vs.length:=by simpa using h2
   refine wpAny_bind (hk H1 keep _ ?_ h2'|>fun q=>wpAny_mono q (fun _ _ x=>x) fun _ _ x=>x.elim);have hzl:(vs.toArray.zip vs.toArray).toList=(List.range vs.length).map fun i=>(vs.getD i Value.none,vs.getD i Value.none):=by
    refine List.ext_getElem (by simp) fun i h1 h2=>?_;have:i<vs.length:=by simpa using h2
    simp[this]
   have okk:∀x∈(vs.toArray.zip vs.toArray).toList,∃d,d∈ds/\P x.1 d:=fun x hx=>by rw[hzl]at hx;obtain⟨i,hi,rfl⟩:=List.mem_map.mp hx;have:=iI pr i (List.mem_range.mp hi);exact⟨_,this.2,this.1⟩
   have R:Rk (model prog w) A E {s with heap:=H1} κ (fun x=>∃d,d∈ds/\P x.1 d) (Xm P ds):=⟨by rintro x y Q st⟨d,d1,d2⟩⟨e,e1,e2⟩hkd hq;rw[wz fn d1 d2,wz fn e1 e2,Cq d1]at hq;rw[lt'_eq];refine wpS_bind (wpS_get ?_);rw[hkd];refine wpS_bind (wpS_lift (wpAny_attempt (wpAny_mono (hl H1 keep x.1 y.1 d e d2 e2 (fun b s'=>s'={s with heap:=H1}/\b=aY (bH d) (bH e)) ⟨rfl,rfl⟩) ?_ fun _ _ h=>h.elim)));rintro b s'⟨rfl,rfl⟩;exact⟨rfl,wpS_pure hq⟩⟩;have run:=Gg R (x0:=vs.toArray.zip vs.toArray) (st:=SortSt.mk' κ (vs.toArray.zip vs.toArray) #[] 7 none) (Q:=fun _ st'=>∃p:List Nat,p.Perm (List.range vs.length)/\pick .non p ds=j5 ds/\(arrOf st').map (·.2)=(pick Value.none p vs).toArray/\failedOf st'=none) ⟨rfl,rfl,rfl,rfl,.refl _,okk,rfl,Nat.zero_le _⟩ fun ys st' e1 e2 e3 e4=>by
     rw[hzl]at e3;obtain⟨p,p1,p2⟩:=yo e3 rfl;have hpl:p.length=vs.length:=by rw[p1.length_eq,List.length_range]
     have hys:ys.size=vs.length:=by rw[<-Array.length_toList,<-p2,List.length_map,hpl]
     refine⟨p,p1,nH so ?_ ?_,?_,e2⟩;.have:=p1.map fun i=>ds.getD i .non;rw[hld]at this;exact this.trans (.of_eq (oF D.non ds))
     . rw[List.pairwise_iff_getElem];intro i j hi hj hij;simp only[pick,List.length_map]at hi hj;have sg:=e4 i j (Nat.zero_le _) (by omega) (by omega);have at':∀k(hk:k<p.length),it ys k=(vs.getD p[k] .none,vs.getD p[k] .none):=fun k hk=>by rw[gj,<-p2];simp[hk]
       have inn:∀k(hk:k<p.length),p[k]<vs.length:=fun k hk=>List.mem_range.mp (p1.mem_iff.mp (List.getElem_mem hk));rw[at' i hi,at' j hj]at sg;have a1:=iI pr p[i] (inn i hi);have a2:=iI pr p[j] (inn j hj);rw[wz fn a1.2 a1.1,wz fn a2.2 a2.1]at sg;simp only[pick,List.getElem_map,lV,Bool.not_eq_true'];rw[<-Cq a2.2,decide_eq_false_iff_not];omega
     .apply Array.toList_inj.mp;rw[e1,Array.toList_map,<-p2,List.map_map];rfl
   refine wpAny_bind (wpAny_mono run ?_ fun _ _ e=>e);rintro⟨⟨⟩,st'⟩s'⟨rfl,p,p1,p2,hout,hf⟩;dsimp only;rw[hout];refine wpAny_bind (seqEpoch_at UG rfl ?_);refine wpAny_bind (listUpdate_at UG rfl ?_ (Nat.zero_le _) (by rw[List.size_toArray,n6 p1,sizeLine_eq];omega));rw[hf];simp only[bne_self_eq_false,Bool.false_eq_true,if_false];exact wpAny_pure (fin _ p1 p2)
end
end HH
end
section
namespace HH
open PySem L2 PySem.Spec PyProof.Rows PySem.Calls PySem.W
section
variable{prog:Program}{w:World}{A:Around}{E:Value->Shared->Prop}{s:Shared}{vs:List Value}{κ:SortKind}{P:Value->D->Prop}{ds:List D}
theorem lE{l:Addr}{Q:Value->Shared->Prop}(hl:s.heap.IsList l vs.toArray)(so:sortable ds=true)(hz:vs.length<=16777216)(pr:Paired P vs ds)(fn:∀u d e,P u d->P u e->bH d=bH e)(hk:∀h',(∀b o,s.heap.get? b=some o->h'.get? b=some o)->∀C:SortKind->Shared->Prop,C κ {s with heap:=h'}->2<=vs.length->wpAny (model prog w) A.in1.in1 (keyKind' vs.toArray) C (fun _ _=>False) {s with heap:=h'})(hlt:∀h',(∀b o,s.heap.get? b=some o->h'.get? b=some o)->∀u v d e,P u d->P v e->∀C:Bool->Shared->Prop,C (aY (bH d) (bH e)) {s with heap:=h'}->wpAny (model prog w) A.in1.in1 (keyLt' κ u v) C (fun _ _=>False) {s with heap:=h'})(h:∀h' c p,(∀b o,s.heap.get? b=some o->h'.get? b=some o)->p.Perm (List.range vs.length)->pick .non p ds=j5 ds->h'.get? (s.heap.objs.size+1)=some (seqObj "list" (pick .none p vs).toArray c)->Q (.ref (s.heap.objs.size+1)) {s with heap:=h'}):wpAny (model prog w) A (call (.builtin "sorted") [.ref l]) Q E s:=by
 refine Calls.call_function_entry kind_sorted plain_sorted entry_sorted (args_sorted1 _) ?_;unfold Builtin.«sorted»;refine wpAny_bind (m:=checkCount "sorted" 1 1 _) (wpAny_pure ?_);refine wpAny_bind (collect_list hl ?_ (by rw[sizeLine_eq];omega));refine wpAny_bind (wpAny_newList ?_ (by rw[sizeLine_eq];omega));generalize hH:((s.heap.push (seqObj "list" #[] 0)).update s.heap.objs.size (Obj.mapSeq (·++vs.toArray)):Heap)=H1;have hsz:H1.objs.size=s.heap.objs.size+1:=by rw[<-hH,Heap.size_update,size_push']
 have keep:∀b o,s.heap.get? b=some o->H1.get? b=some o:=fun b o q=>by rw[<-hH,Heap.get?_update_ne _ _ _ _ (Nat.ne_of_lt (Heap.lt_size q))];exact Heap.get?_push_of_some _ q
 generalize hG:(H1.push {cls:=.type "list",data:=.seq vs.toArray}:Heap)=H2;have ho:H2.get? (s.heap.objs.size+1)=some (seqObj "list" vs.toArray 0):=by rw[<-hG,<-hsz];exact Heap.get?_push_size _ rfl
 have Ds:∀b o,s.heap.get? b=some o->H2.get? b=some o:=fun b o q=>by rw[<-hG];exact Heap.get?_push_of_some _ (keep b o q)
 have hne:∀b o,s.heap.get? b=some o->b≠s.heap.objs.size+1:=fun b o q=>Nat.ne_of_lt (Nat.lt_succ_of_lt (Heap.lt_size q));show wpAny _ _ _ _ _ {s with heap:=H2};rw[hsz];refine wpAny_bind (wpAny_holding (wpAny_call_entry slot_list_sort ⟨_,ho,rfl⟩ entry_list_sort ?body (args_list_sort _)));case body=>refine yD (s:={s with heap:=H2}) (κ:=κ) ho so hz pr fn (fun h' k' C hC h2=>hk h' (fun b o q=>k' b o (hne b o q) (Ds b o q)) C hC h2) (fun h' k' u v d e hd he C hC=>hlt h' (fun b o q=>k' b o (hne b o q) (Ds b o q)) u v d e hd he C hC) fun h' c p k' p1 p2 e=>?_;exact⟨_,rfl,wpAny_pure ⟨_,rfl,h h' c p (fun b o q=>k' b o (hne b o q) (Ds b o q)) p1 p2 e⟩⟩
theorem lH{b fin:Bool}{Q:Bool->Shared->Prop}:∀{xs ys:List Value}{is js:List Int}{i:Nat},IntsAre xs is->IntsAre ys js->fin=decide (is.length<js.length)->Q (aY is js) s->KatLex prog w A b fin Q (xs.zip ys) i s
 |_,_,_,_,_,.nil,.nil,e,h=>by subst e;exact kat_nil (by simpa[aY]using h)|_,_,_,_,_,.nil,.cons _ _ _,e,h=>by subst e;exact kat_nil (by simpa[aY]using h)|_,_,_,_,_,.cons _ _ _,.nil,e,h=>by subst e;exact kat_nil (by simpa[aY]using h)|_,_,_,_,i,.cons (ns:=is) x t r,.cons (ns:=js) y u r',e,h=>by
   refine kat_cons (wpAny_eqBool_int ?_);by_cases q:x=y;.subst q;rw[beq_self_eq_true];refine kat_yes (lH r r' (by rw[e];simp) ?_);simpa[aY]using h
   . rw[beq_eq_false_iff_ne.mpr q];refine kat_no ?_;have hx:Q (decide (x<y)) s:=by simpa[aY,q]using h
     cases(b&&i==0)with|true=>exact oneLt_int hx|false=>exact kat_one _ _ (wpAny_lt_int hx)
noncomputable def nC(h:Heap)(u:Value)(d:D):Prop:=∃a its is,u=.ref a/\IsTup h a (List.toArray its)/\IntsAre its is/\is≠[]/\bH d=is
theorem kY{h h':Heap}(k:∀b o,h.get? b=some o->h'.get? b=some o){u:Value}{d:D}(t:nC h u d):nC h' u d:=by obtain⟨a,its,is,e,⟨o,h1,h2⟩,h3⟩:=t;exact⟨a,its,is,e,⟨o,k _ _ h1,h2⟩,h3⟩
theorem o8{h h':Heap}(k:∀b o,h.get? b=some o->h'.get? b=some o):∀{us:List Value}{ds:List D},Paired (nC h) us ds->Paired (nC h') us ds|_,_,.nil=>.nil|_,_,.cons r t=>.cons (kY k r) (o8 k t)
theorem lG{h:Heap}:∀{us:List Value}{ds:List D},Paired (nC h) us ds->∃fs,KatTups h us fs/\fs.length=us.length/\∀f∈fs,∃n t,f=Value.int n t|_,_,.nil=>⟨[],trivial,rfl,by simp⟩|_,_,.cons r t=>by obtain⟨fs,h1,h2,h3⟩:=lG t;obtain⟨a,its,is,rfl,⟨o,o1,o2,n,o3⟩,hi,hne,_⟩:=r;cases hi with|nil=>exact absurd rfl hne|cons x tk r'=>
     refine⟨.int x tk::fs,KatTups.cons o1 o2 o3 (by simp) h1,by simp[h2],fun f hf=>?_⟩;rcases List.mem_cons.mp hf with rfl|hf;.exact⟨_,_,rfl⟩
     .exact h3 f hf
theorem xW{ds:List D}(t:Paired (nC s.heap) vs ds)(h2:2<=vs.length){C:SortKind->Shared->Prop}(hC:C (tuples' (Value.type "int"!=Value.type "tuple")) s):wpAny (model prog w) A (keyKind' vs.toArray) C E s:=by obtain⟨fs,h1,h3,h4⟩:=lG t;refine kat_kind (T:=.type "int") h1 (by omega) (fun v hv=>?_) rfl hC;obtain⟨n,t,rfl⟩:=h4 v hv;exact Looks.now
theorem G3{x y:Value}{d e:D}(hx:nC s.heap x d)(hy:nC s.heap y e){b:Bool}{C:Bool->Shared->Prop}(hC:C (aY (bH d) (bH e)) s):wpAny (model prog w) A (keyLt' (tuples' b) x y) C E s:=by obtain⟨a,its,is,rfl,⟨o,o1,o2,n,o3⟩,hi,hne,e1⟩:=hx;obtain⟨a',its',js,rfl,⟨o',p1,p2,n',p3⟩,hj,hne',e2⟩:=hy;refine kat_lt o1 o3 p1 p3 ?_;rw[e1,e2]at hC;refine lH (is:=is) (js:=js) (by simpa using hi) (by simpa using hj) ?_ hC;rw[List.size_toArray,List.size_toArray,IntsAre.length hi,IntsAre.length hj]
end
theorem zf{xs:List V}{us:List Value}(h:Vals xs us)(i:Nat):RelV (xs.getD i .non) (us.getD i .none):=by
 have hl:=h.length;by_cases hi:i<xs.length
 . obtain⟨u,e,r⟩:=h.get (i:=i) (x:=xs[i]) (List.getElem?_eq_getElem hi);have e1:xs.getD i .non=xs[i]:=by simp[hi]
   have e2:us.getD i .none=u:=by simp[e]
   rw[e1,e2];exact r
 . have e1:xs.getD i .non=.non:=by simp[Nat.le_of_not_lt hi]
   have e2:us.getD i .none=.none:=by simp[show us.length<=i by omega]
   rw[e1,e2];rfl
theorem sW{f:Nat->V}{g:Nat->Value}(h:∀i,RelV (f i) (g i)):∀l:List Nat,Vals (l.map f) (l.map g)|[]=>.nil|i::l=>.cons (h i) (sW h l)
theorem Dk{p:List Nat}{xs:List V}{us:List Value}(h:Vals xs us):Vals (pick .non p xs) (pick .none p us):=sW (zf h) _
theorem tG{K:PySem.W.Frag}{F:Hp}{f:Nat->V}{g:Nat->D}(h:∀i,Rep K F (f i) (g i)):∀l:List Nat,aD K F (l.map f) (l.map g)|[]=>.nil|i::l=>.cons (h i) (tG h l)
theorem Cd{K:PySem.W.Frag}{F:Hp}{p:List Nat}{xs:List V}{ds:List D}(h:aD K F xs ds):aD K F (pick .non p xs) (pick .non p ds):=tG (fun i=>by
 have hl:=h.length;by_cases hi:i<ds.length
 . obtain⟨u,e,r⟩:=h.get (i:=i) (d:=ds[i]) (List.getElem?_eq_getElem hi);have e1:ds.getD i .non=ds[i]:=by simp[hi]
   have e2:xs.getD i .non=u:=by simp[e]
   rw[e1,e2];exact r
 . have e1:ds.getD i .non=.non:=by simp[Nat.le_of_not_lt hi]
   have e2:xs.getD i .non=.non:=by simp[show xs.length<=i by omega]
   rw[e1,e2,Rep]) _
noncomputable def Cg(u:Value)(d:D):Prop:=∃n t,u=.int n t/\bH d=[n]
theorem Fx(u:Value)(d e:D):Cg u d->Cg u e->bH d=bH e:=fun⟨n,t,h1,h2⟩⟨m,t',h3,h4⟩=>by rw[h1]at h3;cases h3;rw[h2,h4]
theorem Ff{prog:Program}{w:World}{A:Around}{E:Value->Shared->Prop}{s:Shared}{x y:Value}{d e:D}(hx:Cg x d)(hy:Cg y e){C:Bool->Shared->Prop}(hC:C (aY (bH d) (bH e)) s):wpAny (model prog w) A (keyLt' oneType' x y) C E s:=by obtain⟨n,t,rfl,k1⟩:=hx;obtain⟨m,t',rfl,k2⟩:=hy;refine kat_lt_int ?_;rw[k1,k2,show aY [n] [m]=decide (n<m)by simp[aY]]at hC;exact hC
theorem Jh:∀{us:List Value}{ns:List Int},IntsAre us ns->Paired Cg us (ns.map D.int)|_,_,.nil=>.nil|_,_,.cons n t r=>.cons ⟨n,t,rfl,rfl⟩ (Jh r)
theorem CJ{us:List Value}:∀{ns ms:List Int},IntsAre us ns->IntsAre us ms->ns=ms:=by induction us with|nil=>intro ns ms h1 h2;cases h1;cases h2;rfl|cons u us ih=>intro ns ms h1 h2;cases h1 with|cons n t r=>cases h2 with|cons m t' r'=>rw[ih r r']
theorem FJ{h:Heap}(u:Value)(d e:D):nC h u d->nC h u e->bH d=bH e:=fun⟨a,its,is,h1,⟨o,o1,o2,n,o3⟩,h3,_,h4⟩⟨b,jts,js,g1,⟨o',p1,p2,m,p3⟩,g3,_,g4⟩=>by rw[h1]at g1;cases g1;rw[o1]at p1;cases p1;rw[o3]at p3;cases p3;rw[h4,g4,CJ h3 g3]
theorem all_ints:∀{ds:List D},ds.all dC=true->ds=(ds.map jd).map D.int
 |[],_=>rfl|d::ds,h=>by
   simp only[List.all_cons,Bool.and_eq_true]at h;cases d<;>first|(have q:=h.1;simp[dC]at q;done)|skip
   rw[List.map_cons,List.map_cons,<-all_ints h.2];rfl
theorem intsAre_of:∀{ns:List Int}{us:List Value},Vals (ns.map V.int) us->IntsAre us ns|[],_,.nil=>.nil|n::ns,_,.cons r t=>by obtain⟨tk,rfl⟩:=r;exact .cons n tk (intsAre_of t)
section
variable{X:Cx}{c:Call}{a:Expr}{pa:P}{pos:Pos}
theorem wA{pins:List (Addr×Obj)}{σ:L2.St}{F H:Hp}{s:Shared}(I:L2.Inv X pins σ H s)(sm:aF F H):∀{ds:List D}{ys:List V}{us:List Value},aD X.K F ys ds->Vals ys us->ds.all nj=true->Paired (nC s.heap) us ds|[],ys,us,h,v,_=>by rw[h.fB]at v;cases v;exact .nil|d::ds,ys,us,h,v,o=>by obtain⟨y,r,rfl,h1,h2⟩:=h.cg;simp only[List.all_cons,Bool.and_eq_true]at o;cases v with|cons v1 v2=>
     refine .cons ?_ (wA I sm h2 v2 o.2);cases d<;>first|(have q:=o.1;simp[nj]at q;done)|skip
     rename_i ds';cases ds' with|nil=>exact absurd o.1 (by simp[nj])|cons x xs=>obtain⟨ad,zs,rfl,hq,rs,_⟩:=bT.tup sm (.inl h1);cases v1;obtain⟨its,rv,it,_⟩:=I.tuple hq;rw[all_ints o.1]at rs;rw[gY rs]at rv;exact⟨ad,its,_,rfl,it,intsAre_of rv,by simp,rfl⟩
theorem zE:eZ X (.builtin "sorted") (QK X.K fun x=>blt .sorted [x]):=by
 rintro pins s σ H xs us Q I r⟨x,hx,F,d,r',sm,px,he,k⟩;have zz:=gC (show(lu d).bind (fun ds=>if sortable ds then some (.own (j5 ds))else none)=some r' from he);clear he;obtain⟨ds,e2,he⟩:=zz
 cases d with|lst ds'=>
   cases e2;obtain⟨p,ys,rfl,hq,rs⟩:=px.lst sm;subst hx;obtain⟨u,rfl,rx⟩:=r.one;cases rx;obtain⟨its,rv,pl,hz⟩:=I.list hq;by_cases so:sortable ds=true
   . rw[if_pos so]at he;cases he;have hl:its.length=ds.length:=by rw[<-rv.length,rs.length]
     have so':=so;simp only[sortable,Bool.and_eq_true,Bool.or_eq_true,decide_eq_true_eq]at so';have fin:∀h' c p,(∀b o,s.heap.get? b=some o->h'.get? b=some o)->p.Perm (List.range its.length)->pick .non p ds=j5 ds->h'.get? (s.heap.objs.size+1)=some (seqObj "list" (pick .none p its).toArray c)->EP X pins σ Q (.ref (s.heap.objs.size+1)) {s with heap:=h'}:=by
      intro h' c p kp p1 p2 e;refine⟨.ref (s.heap.objs.size+1),_,I.laid (t':=s.toks) (o:=.lst (pick .non p ys)) (h':=h') kp (Nat.le_succ _) ⟨by rw[n6 p1,<-rv.length];exact hz,pick .none p its,c,Dk rv,e⟩,rfl,?_⟩;have rs2:aD X.K F (pick .non p ys) (j5 ds):=by rw[<-p2];exact Cd rs
      exact zP sm rs2 (I.hok.fresh (Nat.le_succ _)) k
     rcases so'.2 with oi|ot
     . have rs':=rs;rw[all_ints oi]at rs';have ia:IntsAre its (ds.map jd):=intsAre_of (by rw[<-gY rs'];exact rv);refine lE (vs:=its) (κ:=oneType') pl.isList so (by omega) (by have:=Jh ia;rwa[<-all_ints oi]at this) Fx (fun h' kp C hC h2=>?_) (fun h' kp u v d e hd he C hC=>?_) fin;.match its,ia,h2 with|v1::v2::rest,ia,_=>rw[keyKind_ints ia];exact wpAny_pure hC
       .exact Ff hd he hC
     .have tt:=wA I sm rs rv ot;refine lE (vs:=its) (κ:=tuples' (Value.type "int"!=Value.type "tuple")) pl.isList so (by omega) tt FJ (fun h' kp C hC h2=>xW (s:={s with heap:=h'}) (o8 kp tt) h2 hC) (fun h' kp u v d e hd he C hC=>?_) fin;exact G3 (s:={s with heap:=h'}) (kY kp hd) (kY kp he) hC
   .rw[if_neg so]at he;cases he|_=>cases e2
theorem boot_sorted:bootBuiltins "sorted"=some (.builtin "sorted"):=by decide+kernel
theorem lr{x:Str}{p':Pos}(hx:x="sorted")(hg:Gl X x)(hm:X.mg x=none)(ha:SX X c a pa)(hs:starEach [a] X.env=(false,eval a X.env)::starEach [] X.env:=by rfl):SX X c (.Call (.Name x p') [a] [] pos) (.blt .sorted [pa]):=by subst hx;exact xn (fun h=>dO zE hg hm boot_sorted h (he:=hs)) ha (fun ρ=>by rw[HH.ev]) rfl hs
end
end HH
end
section
namespace HH
open PySem L2 PySem.Spec PyProof.Rows PySem.Calls
theorem uP(l b:Addr)(items items2:List Value)(n n2:Nat)(dd dd2:Option Addr)(sl sl2:Array (Option Value))(is js:List Int)(hi:IntsAre items is)(hj:IntsAre items2 js):Meets (Builtin.«tuple.__lt__» ⟨[.ref l,.ref b],[]⟩) (fun A R s=>s.heap.get? l=some {cls:=.type "tuple",dict:=dd,data:=.seq items.toArray n,slots:=sl}/\s.heap.get? b=some {cls:=.type "tuple",dict:=dd2,data:=.seq items2.toArray n2,slots:=sl2}/\R (.ok (.ret (.bool (aY is js)))) s):=.of_wp fun prog w A R s h=>by
  obtain⟨hp,g,d,tk,os⟩:=s;obtain⟨hl,hb,h⟩:=h;have f2:=AutoSeq1.sub_tuple_tuple;wp_walk using wpAny_loadPart' hl,wpAny_loadPart' hb,wpAny_forIn_list _ (fun rest b s'=>b.1=none/\s'=⟨hp,g,d,tk,os⟩/\∃xs ys is' Qw,rest=xs.zip ys/\IntsAre xs is'/\IntsAre ys Qw/\decide (items.length<items2.length)=decide (is'.length<Qw.length)/\R (.ok (.ret (.bool (aY is' Qw)))) ⟨hp,g,d,tk,os⟩) _;case turn=>rintro⟨y,x⟩rest b s'⟨hb',rfl,xs,ys,is',Qw,hz,h1,h2,h3,hR⟩;cases h1 with|nil=>cases hz|cons p t h1=>cases h2 with|nil=>cases hz|cons q u h2=>
       injection hz with hyx hrest;cases hyx;refine wpAny_bind (wpAny_eqBool_int ?_);by_cases e:p=q;.subst e;rw[beq_self_eq_true];wp_walk;exact⟨rfl,rfl,_,_,_,_,hrest,h1,h2,by rw[h3];simp,by simpa[aY]using hR⟩
       . rw[beq_eq_false_iff_ne.mpr e];have hR':R (.ok (.ret (.bool (decide (p<q))))) ⟨hp,g,d,tk,os⟩:=by simpa[aY,e]using hR
         simp only[Bool.not_false,if_true];refine wpAny_bind (wpAny_rule ?_);refine wpAny_bind (show wpAny (model prog w) A.in1 (compareOp .Lt (Value.int p t) (Value.int q u)) _ _ _ from wpAny_lt_int ?_);refine wpAny_bind (wpAny_pure ?_);exact wpAny_pure (wpAny_pure ⟨_,rfl,hR'⟩)
  case fin=>
   rintro⟨b1,b2⟩s'⟨hb',rfl,xs,ys,is',Qw,hz,h1,h2,h3,hR⟩;simp only at hb';subst hb';have e:aY is' Qw=decide (items.length<items2.length):=by rw[h3];cases h1 with|nil=>cases h2<;>simp[aY]|cons _ _ _=>cases h2 with|nil=>simp[aY]|cons _ _ _=>cases hz
   rw[e]at hR;wp_walk;exact⟨_,rfl,by simpa[Builtin.Tuple.tupleCompareSizes]using hR⟩
  case h=>exact⟨rfl,rfl,items,items2,is,js,by simp,hi,hj,by rw[IntsAre.length hi,IntsAre.length hj],h⟩
section
variable{X:Cx}
theorem zK(hu:X.A.units+8<cLine):fJ X (compareOp .Lt) (rD X.K (rH .lt)):=by rintro pins s σ H x y v u Q I rx ry⟨F,d,e,r,sm,px,py,he,k⟩;obtain⟨t,e1,e2⟩:=map_some (show(Ru d e).map _=some r from he);subst e2;cases d with
 |int i=>cases e with|int j=>exact K7 pins s σ H x y v u Q I rx ry ⟨F,.int i,.int j,_,sm,px,py,by have e2:Dz (fun i j=>decide (i<j)) (.int i) (.int j)=some t:=e1;simp only[e2];rfl,k⟩|_=>cases e1
 |tup xs=>cases e with|tup ys=>obtain⟨hc,e1⟩:=bM (show(if(xs.all dC&&ys.all dC)=true then some (aY (xs.map jd) (ys.map jd))else none)=some t from e1);rw[Bool.and_eq_true]at hc;obtain⟨a,vs,rfl,h1,h2,_⟩:=px.tup sm;obtain⟨b,ws,rfl,h3,h4,_⟩:=py.tup sm;cases rx;cases ry;obtain⟨its,rv,it,_⟩:=I.tuple h1;obtain⟨its2,NB,it2,_⟩:=I.tuple h3;rw[all_ints hc.1]at h2;rw[all_ints hc.2]at h4;rw[gY h2]at rv;rw[gY h4]at NB;have i1:=intsAre_of rv;have i2:=intsAre_of NB;obtain⟨⟨cls,dd,data,sl⟩,ho,hc1,n,hd⟩:=it;obtain⟨⟨cls2,dd2,data2,sl2⟩,ho2,hc2,n2,hd2⟩:=it2;simp only at hc1 hd hc2 hd2;subst hc1 hd hc2 hd2;refine(show wpAny (model X.prog X.w) X.A (richCompare .Lt (.ref a) (.ref b)) _ _ s from richCompare_meets_room (op:=.Lt) ⟨_,ho,rfl⟩ ⟨_,ho2,rfl⟩ PySem.F.slot_tuple_lt PySem.F.entry_tuple_lt (PySem.F.args_tuple_lt_2 _ _) (uP a b its its2 n n2 dd dd2 sl sl2 _ _ i1 i2) ⟨ho,ho2,show Value.bool _≠Value.notImplemented/\_ from⟨(fun x=>nomatch x),⟨.bl t,H,I,by rw[<-e1];rfl,cM.eG sm (gG _) k⟩⟩⟩ (by omega))|_=>cases e1
 |_=>cases e1
end
end HH
end
section
namespace HH
open PySem L2 PySem.Spec PyProof.Rows
section
variable{X:Cx}{c:Call}{n:Nat}{W:Nat->Hp->Prop}{e:Expr}{p:P}{body:List Stmt}{ss:List S}{pos:Pos}
theorem Hs(hp:PassesOwn (model X.prog X.w) X.A X.env X.xe)(ht:ST X c e p)(hb:SB X c n body ss)(hbx:Gs X c n W body ss):Qd X c n W (.While e body [] pos) (.whl p ss):=by refine dR (rO hp ht (Af hb hbx)) ?_;rintro D σ H⟨F,ρ,k,ρ',g0,e,q⟩;rw[oK]at e;refine⟨fun m σi Hi=>∃Fi ρi,bA X.K F ρ σ H Fi ρi σi Hi/\oV (fO (HH.ev c p)) (cG c n ss) (cU c n ss) m ρi=some (k,ρ'),⟨n,F,ρ,.refl g0,e⟩,?_⟩;rintro m σi Hi⟨Fi,ρi,si,ei⟩;cases m with|zero=>rw[oV]at ei;cases ei|succ m=>rw[oV]at ei;cases et:fO (HH.ev c p) ρi with|stuck=>rw[et]at ei;cases ei|exc _ _=>rw[et]at ei;cases ei|ok b ρ1=>rw[et]at ei;refine⟨Fi,ρi,b,ρ1,si.gs,et,fun F1 H1 s1=>?_⟩;have s2:=si.trans s1;cases b with|false=>cases ei|true=>dsimp only at ei;rw[if_pos rfl];refine⟨fun σ' H'=>∃m',m'<m+1/\∃Fi ρi,bA X.K F ρ σ H Fi ρi σ' H'/\oV (fO (HH.ev c p)) (cG c n ss) (cU c n ss) m' ρi=some (k,ρ'),fun σ' H' z=>z,?_⟩;cases NZ:cU c n ss ρ1 with|some y=>rw[NZ]at ei;cases ei;exact .inr ⟨F1,ρ1,k,ρ',s2.gs,NZ,fun F4 σ4 H4 s4=>q F4 σ4 H4 (s2.trans s4)⟩|none=>rw[NZ]at ei;dsimp only at ei;cases eb:cG c n ss ρ1 with|stuck=>rw[eb]at ei;cases ei|exc _ _=>rw[eb]at ei;cases ei|ok flb ρc=>rw[eb]at ei;refine .inl ⟨F1,ρ1,flb,ρc,s2.gs,eb,fun F4 σ4 H4 s4=>?_⟩;have s5:=s2.trans s4;cases flb with|next=>exact⟨m,by omega,F4,ρc,s5,ei⟩|cont=>exact⟨m,by omega,F4,ρc,s5,ei⟩|brk=>cases ei|ret r=>cases ei
end
end HH
end
section
set_option maxHeartbeats 4000000
namespace T
open PySem L2 PySem.Spec PyProof.Rows HH
theorem hc:true=true:=rfl
theorem oi{α:Type}{a:α}{p:Prop}:a=a\/p:=.inl rfl
theorem bO{X:Cx}{c:Call}{a:Expr}{es:List Expr}{pa:P}{ps:List P}(ha:SX X c a pa)(hr:SG X c es ps)(h:Yl a=true):SG X c (a::es) (pa::ps):=FZ ha hr (bu h)
theorem cL{X:Cx}{c:Call}{a:Expr}{es:List Expr}{pa:P}{ps:List P}(ha:SX X c a pa)(hr:SA X c es ps)(h:Yl a=true):SA X c (a::es) (pa::ps):=xJ ha hr (bu h)
variable{Pg:Program}{w:World}{K:PySem.W.Frag}{mg:Str->Option Value}{base:Heap}{f:Addr}{fd:FuncData}{k n:Nat}{c:Call}{cl:Nat->Addr}
noncomputable def top(i:Nat):Stmt:=PySem.Challenge.pw_hourhaul_k09_all_walks.main.body.getD i (.Pass ⟨0,0,0,0⟩)
noncomputable abbrev s0:=top 8
noncomputable def b0:List S:=[.ret (.comp (.Uh (.idx (.var 0) (.con (.int 1)))) 2 [2,3] false (some (.cmp .eq (.idx (.var 3) (.con (.int 0))) (.var 1))) (.var 2))]
noncomputable def f0:Fd:=⟨2,2,b0⟩
theorem sc0:bN ["net","place"] ["net","place"] (aG s0):=⟨rfl,rfl,rfl,by decide+kernel,rfl,by decide+kernel,by decide+kernel⟩
include cl in
theorem d0(Fu:nY K "ways_out" "ways_out" s0 f fd)(cY:mg "enumerate"=none):dw Pg w K mg base oM (k+1) f fd ["net","place"] (oX K 2 (fun args=>enter c n f0 args)):=by
 refine gD Fu sc0 rfl rfl fun cdv A outer s H E hr=>?_;have nd:=sc0.nd;refine aj ?_ ?_;. (with_reducible refine bU ?_);exact rm (N':=["net","place","number","way"]) hc (VH rfl (by rfl)) (zM rfl (by rfl) cY (aA (sv 0) aa)) (fun _ _ _ _ _=>nF hc (bZ (cA (i:=2) (show(["net","place","number","way"]:List Str).Nodup by decide+kernel) rfl (Or.inl rfl) (Or.inr rfl)) (bZ (cA (i:=3) (show(["net","place","number","way"]:List Str).Nodup by decide+kernel) rfl (Or.inl rfl) (Or.inr rfl)) jV))) (qw rfl (eU (show 2<=2 by decide) (eU (show 2<=3 by decide) pZ))) (fun _ _ _ _ _=>xx (aO (cO (bK hr)) (aA (sv 3) aa) (sv 1) (aN _))) (fun _ _ _ _ _=>(sv 2))
 exact au
noncomputable abbrev s1:=top 11
noncomputable def b1:List S:=[.asg 3 (.lst []),.oH (.call 0 [.var 0,.idx (.var 2) (.neg (.con (.int 1)))]) [4] true [.asg 5 (.idx (.idx (.var 0) (.con (.int 1))) (.var 4)),.ifs (.and (.cmp .gt (.idx (.var 5) (.con (.int 2))) (.con (.int 0))) (.cmp .pO (.idx (.var 5) (.con (.int 1))) (.var 2))) [.app 3 (.tup [.bin .add (.var 1) (.tup [.var 4]),.bin .add (.var 2) (.tup [.idx (.var 5) (.con (.int 1))])])] []],.ret (.var 3)]
noncomputable def f1:Fd:=⟨3,6,b1⟩
theorem sc1:bN ["net","walk","places","further","number","way"] ["net","walk","places"] (aG s1):=⟨rfl,rfl,rfl,by decide+kernel,rfl,by decide+kernel,by decide+kernel⟩
include cl in
theorem d1(Fu:nY K "steps_on" "steps_on" s1 f fd)(vX:aV Pg w K mg base k c 0 "ways_out" 2):dw Pg w K mg base oM (k+1) f fd ["net","walk","places"] (oX K 3 (fun args=>enter c n f1 args)):=by
 refine gD Fu sc1 rfl rfl fun cdv A outer s H E hr=>?_;have nd:=sc1.nd;refine aj ?_ ?_;. (with_reducible refine aH (i:=3) ?_ ?_ ?_ ?_ ?_ ?_);exact nd;exact rfl;exact oi;rotate_left;rfl;exact oi;exact bf aC
 with_reducible refine aj ?_ ?_
 . (with_reducible refine iD (i:=4) ?_ ?_ ?_ ?_ ?_ ?_ ?_ ?_ ?_);exact PassesOwn.never;exact hc;exact nd;exact rfl;exact oi;exact uY (fC vX hr (bO (sv 0) (bO (aA (sv 2) (jm aa)) aK rfl) rfl));(·(with_reducible refine aj ?_ ?_);(·(with_reducible refine aH (i:=5) ?_ ?_ ?_ ?_ ?_ ?_);exact nd;exact rfl;exact oi;rotate_left;rfl;exact oi;exact aA (aA (sv 0) aa) (sv 4));(·(with_reducible refine aj ?_ ?_);(·(with_reducible refine cD ?_ ?_ ?_);exact SW.st (lz (aO dY (aA (sv 5) aa) aa (aN _)) (jJ (aO pJ (aA (sv 5) aa) (sv 2) (by with_unfolding_all rfl))));(·(with_reducible refine aj ?_ ?_);exact bz (k:=3) rfl (by first|exact Or.inl rfl|exact Or.inr (Or.inl rfl)) (bJ (cL (aB aU (sv 1) (bJ (cL (sv 4) aC rfl))) (cL (aB aU (sv 2) (bJ (cL (aA (sv 5) aa) aC rfl))) aC rfl) rfl));exact au);exact au);exact au));(· intro _;rfl);exact Or.inl rfl
 with_reducible refine aj ?_ ?_
 . (with_reducible refine bU ?_);exact sv 3
 exact au
noncomputable abbrev s2:=top 12
noncomputable def b2:List S:=[.asg 1 (.lst []),.asg 2 (.lst [.tup [.tup [],.tup [.con (.int 0)]]]),.whl (.cmp .gt (.blt .len [.var 2]) (.con (.int 0))) [.asg 3 (.pop 2),.ifs (.cmp .eq (.idx (.idx (.var 3) (.con (.int 1))) (.neg (.con (.int 1)))) (.bin .sub (.idx (.var 0) (.con (.int 0))) (.con (.int 1)))) [.app 1 (.idx (.var 3) (.con (.int 0)))] [.vO 2 (.call 1 [.var 0,.idx (.var 3) (.con (.int 0)),.idx (.var 3) (.con (.int 1))])],.ifs (.cmp .gt (.blt .len [.var 1]) (.glob "MOST_WALKS" (.int 60))) [.vP 2] []],.ret (.blt .sorted [.var 1])]
noncomputable def f2:Fd:=⟨1,4,b2⟩
theorem Vk:bN ["net","found","begun","latest"] ["net"] (aG s2):=⟨rfl,rfl,rfl,by decide+kernel,rfl,by decide+kernel,by decide+kernel⟩
include cl in
theorem d2(Fu:nY K "all_walks" "all_walks" s2 f fd)(bD:mg "len"=none)(cQ:mg "sorted"=none)(bF:∃t,mg "MOST_WALKS"=some (Value.int 60 t))(dF:aV Pg w K mg base k c 1 "steps_on" 3):dw Pg w K mg base oM (k+1) f fd ["net"] (oX K 1 (fun args=>enter c n f2 args)):=by
 refine gD Fu Vk rfl rfl fun cdv A outer s H E hr=>?_;have nd:=Vk.nd;refine aj ?_ ?_;. (with_reducible refine aH (i:=1) ?_ ?_ ?_ ?_ ?_ ?_);exact nd;exact rfl;exact oi;rotate_left;rfl;exact oi;exact bf aC
 with_reducible refine aj ?_ ?_
 . (with_reducible refine aH (i:=2) ?_ ?_ ?_ ?_ ?_ ?_);exact nd;exact rfl;exact oi;rotate_left;rfl;exact oi;exact bf (cL (bJ (cL (bJ aC) (cL (bJ (cL aa aC rfl)) aC rfl) rfl)) aC rfl)
 with_reducible refine aj ?_ ?_
 .exact(vm PassesOwn.never (aO dY (cj rfl (by rfl) bD (sv 2)) aa (aN _)) (by(with_reducible refine aj ?_ ?_);(·(with_reducible refine aH (i:=3) ?_ ?_ ?_ ?_ ?_ ?_);exact nd;exact rfl;exact oi;rotate_left;rfl;exact oi;exact nJ (k:=2) rfl (by first|exact Or.inl rfl|exact Or.inr (Or.inl rfl)));(·(with_reducible refine aj ?_ ?_);(·(with_reducible refine cD ?_ ?_ ?_);exact aO (cO (bK hr)) (aA (aA (sv 3) aa) (jm aa)) (aB dg (aA (sv 0) aa) aa) (aN _);(·(with_reducible refine aj ?_ ?_);exact bz (k:=1) rfl (by first|exact Or.inl rfl|exact Or.inr (Or.inl rfl)) (aA (sv 3) aa);exact au);(·(with_reducible refine aj ?_ ?_);exact lq (k:=2) rfl (by first|exact Or.inl rfl|exact Or.inr (Or.inl rfl)) (fC dF hr (bO (sv 0) (bO (aA (sv 3) aa) (bO (aA (sv 3) aa) aK rfl) rfl) rfl));exact au));(·(with_reducible refine aj ?_ ?_);(·(with_reducible refine cD ?_ ?_ ?_);exact aO dY (cj rfl (by rfl) bD (sv 1)) (ie (by rfl) bF.choose_spec (by rfl)) (aN _);(·(with_reducible refine aj ?_ ?_);exact jC;exact au);exact au);exact au))))
 with_reducible refine aj ?_ ?_
 . (with_reducible refine bU ?_);exact lr rfl (by rfl) cQ (sv 1)
 exact au
include cl in
theorem dx2(Fu:nY K "all_walks" "all_walks" s2 f fd)(bD:mg "len"=none)(cQ:mg "sorted"=none)(bF:∃t,mg "MOST_WALKS"=some (Value.int 60 t))(dF:aV Pg w K mg base k c 1 "steps_on" 3)(iR:OwnCls "TooMany" (cl 2) [.type "ValueError",.type "Exception",.type "BaseException",.type "object"] "ValueError.__new__" mg base):dw Pg w K mg base (zp Pg w) (k+1) f fd ["net"] (Sg K cl 1 (fun args=>enter c n f2 args)):=by
 refine Lk Fu Vk rfl rfl fun cdv A outer s H E W hr hW=>?_;have nd:=Vk.nd;have hX:Dw (km (zp Pg w) Pg w K mg base ["net","found","begun","latest"] "all_walks" (aG s2) f cdv A outer s H E) E:=Dj;refine cI ?_ ?_ ?_;. (with_reducible refine aH (i:=1) ?_ ?_ ?_ ?_ ?_ ?_);exact nd;exact rfl;exact oi;rotate_left;rfl;exact oi;exact bf aC
 .exact(fP (by intro _;rfl))
 with_reducible refine cI ?_ ?_ ?_
 . (with_reducible refine aH (i:=2) ?_ ?_ ?_ ?_ ?_ ?_);exact nd;exact rfl;exact oi;rotate_left;rfl;exact oi;exact bf (cL (bJ (cL (bJ aC) (cL (bJ (cL aa aC rfl)) aC rfl) rfl)) aC rfl)
 .exact(fP (by intro _;rfl))
 with_reducible refine cI ?_ ?_ ?_
 .exact(vm tZ (aO dY (cj rfl (by rfl) bD (sv 2)) aa (aN _)) (by(with_reducible refine aj ?_ ?_);(·(with_reducible refine aH (i:=3) ?_ ?_ ?_ ?_ ?_ ?_);exact nd;exact rfl;exact oi;rotate_left;rfl;exact oi;exact nJ (k:=2) rfl (by first|exact Or.inl rfl|exact Or.inr (Or.inl rfl)));(·(with_reducible refine aj ?_ ?_);(·(with_reducible refine cD ?_ ?_ ?_);exact aO (cO (bK hr)) (aA (aA (sv 3) aa) (jm aa)) (aB dg (aA (sv 0) aa) aa) (aN _);(·(with_reducible refine aj ?_ ?_);exact bz (k:=1) rfl (by first|exact Or.inl rfl|exact Or.inr (Or.inl rfl)) (aA (sv 3) aa);exact au);(·(with_reducible refine aj ?_ ?_);exact lq (k:=2) rfl (by first|exact Or.inl rfl|exact Or.inr (Or.inl rfl)) (fC dF hr (bO (sv 0) (bO (aA (sv 3) aa) (bO (aA (sv 3) aa) aK rfl) rfl) rfl));exact au));(·(with_reducible refine aj ?_ ?_);(·(with_reducible refine cD ?_ ?_ ?_);exact aO dY (cj rfl (by rfl) bD (sv 1)) (ie (by rfl) bF.choose_spec (by rfl)) (aN _);(·(with_reducible refine aj ?_ ?_);exact jC;exact au);exact au);exact au))))
 .exact(Hs tZ (aO dY (cj rfl (by rfl) bD (sv 2)) aa (aN _)) (by(with_reducible refine aj ?_ ?_);(·(with_reducible refine aH (i:=3) ?_ ?_ ?_ ?_ ?_ ?_);exact nd;exact rfl;exact oi;rotate_left;rfl;exact oi;exact nJ (k:=2) rfl (by first|exact Or.inl rfl|exact Or.inr (Or.inl rfl)));(·(with_reducible refine aj ?_ ?_);(·(with_reducible refine cD ?_ ?_ ?_);exact aO (cO (bK hr)) (aA (aA (sv 3) aa) (jm aa)) (aB dg (aA (sv 0) aa) aa) (aN _);(·(with_reducible refine aj ?_ ?_);exact bz (k:=1) rfl (by first|exact Or.inl rfl|exact Or.inr (Or.inl rfl)) (aA (sv 3) aa);exact au);(·(with_reducible refine aj ?_ ?_);exact lq (k:=2) rfl (by first|exact Or.inl rfl|exact Or.inr (Or.inl rfl)) (fC dF hr (bO (sv 0) (bO (aA (sv 3) aa) (bO (aA (sv 3) aa) aK rfl) rfl) rfl));exact au));(·(with_reducible refine aj ?_ ?_);(·(with_reducible refine cD ?_ ?_ ?_);exact aO dY (cj rfl (by rfl) bD (sv 1)) (ie (by rfl) bF.choose_spec (by rfl)) (aN _);(·(with_reducible refine aj ?_ ?_);exact jC;exact au);exact au);exact au))) (cI (by(with_reducible refine aH (i:=3) ?_ ?_ ?_ ?_ ?_ ?_);exact nd;exact rfl;exact oi;rotate_left;rfl;exact oi;exact nJ (k:=2) rfl (by first|exact Or.inl rfl|exact Or.inr (Or.inl rfl))) (fP (by intro _;rfl)) (cI (by(with_reducible refine cD ?_ ?_ ?_);exact aO (cO (bK hr)) (aA (aA (sv 3) aa) (jm aa)) (aB dg (aA (sv 0) aa) aa) (aN _);(·(with_reducible refine aj ?_ ?_);exact bz (k:=1) rfl (by first|exact Or.inl rfl|exact Or.inr (Or.inl rfl)) (aA (sv 3) aa);exact au);(·(with_reducible refine aj ?_ ?_);exact lq (k:=2) rfl (by first|exact Or.inl rfl|exact Or.inr (Or.inl rfl)) (fC dF hr (bO (sv 0) (bO (aA (sv 3) aa) (bO (aA (sv 3) aa) aK rfl) rfl) rfl));exact au)) (Bj (aO (cO (bK hr)) (aA (aA (sv 3) aa) (jm aa)) (aB dg (aA (sv 0) aa) aa) (aN _)) (cI (bz (k:=1) rfl (by first|exact Or.inl rfl|exact Or.inr (Or.inl rfl)) (aA (sv 3) aa)) fP gq) (cI (lq (k:=2) rfl (by first|exact Or.inl rfl|exact Or.inr (Or.inl rfl)) (fC dF hr (bO (sv 0) (bO (aA (sv 3) aa) (bO (aA (sv 3) aa) aK rfl) rfl) rfl))) fP gq)) (cI (by(with_reducible refine cD ?_ ?_ ?_);exact aO dY (cj rfl (by rfl) bD (sv 1)) (ie (by rfl) bF.choose_spec (by rfl)) (aN _);(·(with_reducible refine aj ?_ ?_);exact jC;exact au);exact au) (Bj (aO dY (cj rfl (by rfl) bD (sv 1)) (ie (by rfl) bF.choose_spec (by rfl)) (aN _)) (cI jC (zV hc rfl (by rfl) iR PySem.F.excBase_ValueError hX (fun H z=>hW 2 H z)) gq) gq) gq))))
 with_reducible refine cI ?_ ?_ ?_
 . (with_reducible refine bU ?_);exact lr rfl (by rfl) cQ (sv 1)
 .exact fP
 exact gq
noncomputable abbrev s3:=top 14
noncomputable def b3:List S:=[.ifs (.cmp .ge (.var 0) (.bin .pow (.con (.int 10)) (.con (.int 18)))) [.ret (.lst [.bin .sub (.var 0) (.bin .pow (.con (.int 10)) (.con (.int 18)))])] [],.asg 1 (.con (.int 0)),.asg 2 (.bin .add (.bin .mod (.var 0) (.con (.int 2147483647))) (.con (.int 16807))),.oH (.zj (.con (.int 0)) (.con (.int 48))) [3] true [.asg 2 (.bin .mod (.bin .add (.bin .add (.bin .mul (.var 2) (.con (.int 48271))) (.bin .mul (.bin .mul (.con (.int 7919)) (.var 3)) (.var 3))) (.con (.int 104729))) (.con (.int 2147483647))),.asg 4 (.bin .mod (.bin .mul (.var 2) (.var 2)) (.con (.int 2147483629))),.asg 1 (.bin .add (.bin .mul (.var 1) (.con (.int 65536))) (.bin .mod (.bin .fdiv (.var 4) (.con (.int 512))) (.con (.int 65536))))],.ret (.lst [.var 1])]
noncomputable def f3:Fd:=⟨1,5,b3⟩
theorem sc3:bN ["cell","number","one","k","two"] ["cell"] (aG s3):=⟨rfl,rfl,rfl,by decide+kernel,rfl,by decide+kernel,by decide+kernel⟩
include cl in
theorem d3(Fu:nY K "_law_pot" "_law_pot" s3 f fd)(bR:mg "range"=none):dw Pg w K mg base oM (k+1) f fd ["cell"] (oX K 1 (fun args=>enter c n f3 args)):=by
 refine gD Fu sc3 rfl rfl fun cdv A outer s H E hr=>?_;have nd:=sc3.nd;refine aj ?_ ?_;. (with_reducible refine cD ?_ ?_ ?_);exact aO Mz (sv 0) (aB mK aa aa) (aN _);(·(with_reducible refine aj ?_ ?_);(·(with_reducible refine bU ?_);exact bf (cL (aB dg (sv 0) (aB mK aa aa)) aC rfl));exact au);exact au
 with_reducible refine aj ?_ ?_
 . (with_reducible refine aH (i:=1) ?_ ?_ ?_ ?_ ?_ ?_);exact nd;exact rfl;exact oi;rotate_left;rfl;exact oi;exact aa
 with_reducible refine aj ?_ ?_
 . (with_reducible refine aH (i:=2) ?_ ?_ ?_ ?_ ?_ ?_);exact nd;exact rfl;exact oi;rotate_left;rfl;exact oi;exact aB aU (aB gh (sv 0) aa) aa
 with_reducible refine aj ?_ ?_
 . (with_reducible refine iD (i:=3) ?_ ?_ ?_ ?_ ?_ ?_ ?_ ?_ ?_);exact PassesOwn.never;exact hc;exact nd;exact rfl;exact oi;exact jU rfl (by rfl) bR aa;(·(with_reducible refine aj ?_ ?_);(·(with_reducible refine aH (i:=2) ?_ ?_ ?_ ?_ ?_ ?_);exact nd;exact rfl;exact oi;rotate_left;rfl;exact oi;exact aB gh (aB aU (aB aU (aB jR (sv 2) aa) (aB jR (aB jR aa (sv 3)) (sv 3))) aa) aa);(·(with_reducible refine aj ?_ ?_);(·(with_reducible refine aH (i:=4) ?_ ?_ ?_ ?_ ?_ ?_);exact nd;exact rfl;exact oi;rotate_left;rfl;exact oi;exact aB gh (aB jR (sv 2) (sv 2)) aa);(·(with_reducible refine aj ?_ ?_);(·(with_reducible refine aH (i:=1) ?_ ?_ ?_ ?_ ?_ ?_);exact nd;exact rfl;exact oi;rotate_left;rfl;exact oi;exact aB aU (aB jR (sv 1) aa) (aB gh (aB sE (sv 4) aa) aa));exact au)));(· intro _;rfl);exact Or.inl rfl
 with_reducible refine aj ?_ ?_
 . (with_reducible refine bU ?_);exact bf (cL (sv 1) aC rfl)
 exact au
noncomputable abbrev s4:=top 15
noncomputable def b4:List S:=[.asg 2 (.bin .mod (.idx (.var 0) (.con (.int 0))) (.var 1)),.Hw 0 (.con (.int 0)) (.bin .fdiv (.idx (.var 0) (.con (.int 0))) (.var 1)),.ret (.var 2)]
noncomputable def f4:Fd:=⟨2,3,b4⟩
theorem sc4:bN ["pot","many","digit"] ["pot","many"] (aG s4):=⟨rfl,rfl,rfl,by decide+kernel,rfl,by decide+kernel,by decide+kernel⟩
include cl in
theorem d4(Fu:nY K "_law_take" "_law_take" s4 f fd):dw Pg w K mg base oM (k+1) f fd ["pot","many"] (oX K 2 (fun args=>enter c n f4 args)):=by
 refine gD Fu sc4 rfl rfl fun cdv A outer s H E hr=>?_;have nd:=sc4.nd;refine aj ?_ ?_;. (with_reducible refine aH (i:=2) ?_ ?_ ?_ ?_ ?_ ?_);exact nd;exact rfl;exact oi;rotate_left;rfl;exact oi;exact aB gh (aA (sv 0) aa) (sv 1)
 with_reducible refine aj ?_ ?_
 .exact(wG (k:=0) rfl (by first|exact Or.inl rfl|exact Or.inr (Or.inl rfl)) aa (aB sE (aA (sv 0) aa) (sv 1)))
 with_reducible refine aj ?_ ?_
 . (with_reducible refine bU ?_);exact sv 2
 exact au
noncomputable abbrev s5:=top 16
noncomputable def b5:List S:=[.asg 2 (.call 4 [.var 0,.var 1]),.asg 3 (.bin .mod (.bin .add (.bin .add (.var 2) (.con (.int 1))) (.call 4 [.var 0,.bin .sub (.var 1) (.con (.int 1))])) (.var 1)),.ifs (.and (.cmp .lt (.var 3) (.var 2)) (.cmp .gt (.call 4 [.var 0,.con (.int 3)]) (.con (.int 0)))) [.par 2 3 (.var 3) (.var 2)] [],.asg 4 (.idx (.lst [.con (.int 0),.con (.int 1),.con (.int 2),.con (.int 3),.bin .add (.con (.int 1)) (.call 4 [.var 0,.con (.int 30)]),.bin .sub (.bin .pow (.con (.int 10)) (.con (.int 9))) (.call 4 [.var 0,.con (.int 3)])]) (.blt .min2 [.con (.int 5),.call 4 [.var 0,.con (.int 10)]])),.asg 5 (.idx (.lst [.con (.int 1),.con (.int 1),.con (.int 2),.con (.int 3),.bin .add (.con (.int 1)) (.call 4 [.var 0,.con (.int 30)]),.bin .sub (.bin .pow (.con (.int 10)) (.con (.int 6))) (.call 4 [.var 0,.con (.int 3)])]) (.blt .min2 [.con (.int 5),.call 4 [.var 0,.con (.int 7)]])),.ifs (.cmp .eq (.call 4 [.var 0,.con (.int 2)]) (.con (.int 0))) [.asg 4 (.bin .add (.con (.int 1)) (.call 4 [.var 0,.con (.int 5)]))] [],.ifs (.cmp .eq (.call 4 [.var 0,.con (.int 2)]) (.con (.int 0))) [.asg 5 (.bin .add (.con (.int 1)) (.call 4 [.var 0,.con (.int 5)]))] [],.ret (.tup [.var 2,.var 3,.var 4,.var 5])]
noncomputable def f5:Fd:=⟨2,6,b5⟩
theorem sc5:bN ["pot","many","start","to","room","hours"] ["pot","many"] (aG s5):=⟨rfl,rfl,rfl,by decide+kernel,rfl,by decide+kernel,by decide+kernel⟩
include cl in
theorem d5(Fu:nY K "_law_way" "_law_way" s5 f fd)(xU:mg "min"=none)(az:aV Pg w K mg base k c 4 "_law_take" 2):dw Pg w K mg base oM (k+1) f fd ["pot","many"] (oX K 2 (fun args=>enter c n f5 args)):=by
 refine gD Fu sc5 rfl rfl fun cdv A outer s H E hr=>?_;have nd:=sc5.nd;refine aj ?_ ?_;. (with_reducible refine aH (i:=2) ?_ ?_ ?_ ?_ ?_ ?_);exact nd;exact rfl;exact oi;rotate_left;rfl;exact oi;exact fC az hr (bO (sv 0) (bO (sv 1) aK rfl) rfl)
 with_reducible refine aj ?_ ?_
 . (with_reducible refine aH (i:=3) ?_ ?_ ?_ ?_ ?_ ?_);exact nd;exact rfl;exact oi;rotate_left;rfl;exact oi;exact aB gh (aB aU (aB aU (sv 2) aa) (fC az hr (bO (sv 0) (bO (aB dg (sv 1) aa) aK rfl) rfl))) (sv 1)
 with_reducible refine aj ?_ ?_
 . (with_reducible refine cD ?_ ?_ ?_);exact SW.st (lz (aO (zK (bK hr)) (sv 3) (sv 2) (aN _)) (jJ (aO dY (fC az hr (bO (sv 0) (bO aa aK rfl) rfl)) aa (aN _))));(·(with_reducible refine aj ?_ ?_);exact K6 (i:=2) (j:=3) hc nd rfl rfl (by decide) rfl rfl (sv 3) (sv 2);exact au);exact au
 with_reducible refine aj ?_ ?_
 . (with_reducible refine aH (i:=4) ?_ ?_ ?_ ?_ ?_ ?_);exact nd;exact rfl;exact oi;rotate_left;rfl;exact oi;exact aA (bf (dJ [0,1,2,3] rfl (cL (aB aU aa (fC az hr (bO (sv 0) (bO aa aK rfl) rfl))) (cL (aB dg (aB mK aa aa) (fC az hr (bO (sv 0) (bO aa aK rfl) rfl))) aC rfl) rfl))) (wV rfl hc (by rfl) xU (cL aa (cL (fC az hr (bO (sv 0) (bO aa aK rfl) rfl)) aC rfl) rfl))
 with_reducible refine aj ?_ ?_
 . (with_reducible refine aH (i:=5) ?_ ?_ ?_ ?_ ?_ ?_);exact nd;exact rfl;exact oi;rotate_left;rfl;exact oi;exact aA (bf (dJ [1,1,2,3] rfl (cL (aB aU aa (fC az hr (bO (sv 0) (bO aa aK rfl) rfl))) (cL (aB dg (aB mK aa aa) (fC az hr (bO (sv 0) (bO aa aK rfl) rfl))) aC rfl) rfl))) (wV rfl hc (by rfl) xU (cL aa (cL (fC az hr (bO (sv 0) (bO aa aK rfl) rfl)) aC rfl) rfl))
 with_reducible refine aj ?_ ?_
 . (with_reducible refine cD ?_ ?_ ?_);exact aO (cO (bK hr)) (fC az hr (bO (sv 0) (bO aa aK rfl) rfl)) aa (aN _);(·(with_reducible refine aj ?_ ?_);(·(with_reducible refine aH (i:=4) ?_ ?_ ?_ ?_ ?_ ?_);exact nd;exact rfl;exact oi;rotate_left;rfl;exact oi;exact aB aU aa (fC az hr (bO (sv 0) (bO aa aK rfl) rfl)));exact au);exact au
 with_reducible refine aj ?_ ?_
 . (with_reducible refine cD ?_ ?_ ?_);exact aO (cO (bK hr)) (fC az hr (bO (sv 0) (bO aa aK rfl) rfl)) aa (aN _);(·(with_reducible refine aj ?_ ?_);(·(with_reducible refine aH (i:=5) ?_ ?_ ?_ ?_ ?_ ?_);exact nd;exact rfl;exact oi;rotate_left;rfl;exact oi;exact aB aU aa (fC az hr (bO (sv 0) (bO aa aK rfl) rfl)));exact au);exact au
 with_reducible refine aj ?_ ?_
 . (with_reducible refine bU ?_);exact bJ (cL (sv 2) (cL (sv 3) (cL (sv 4) (cL (sv 5) aC rfl) rfl) rfl) rfl)
 exact au
noncomputable abbrev s6:=top 17
noncomputable def b6:List S:=[.asg 1 (.bin .add (.con (.int 2)) (.call 4 [.var 0,.con (.int 5)])),.asg 2 (.lst []),.oH (.zj (.con (.int 0)) (.idx (.lst [.call 4 [.var 0,.con (.int 13)],.con (.int 12),.bin .add (.con (.int 4)) (.call 4 [.var 0,.con (.int 6)])]) (.call 4 [.var 0,.con (.int 3)]))) [3] true [.asg 4 (.call 5 [.var 0,.var 1]),.ifs (.and (.cmp .ne (.var 2) (.lst [])) (.cmp .eq (.call 4 [.var 0,.con (.int 8)]) (.con (.int 0)))) [.asg 4 (.idx (.var 2) (.call 4 [.var 0,.blt .len [.var 2]]))] [],.app 2 (.var 4)],.ret (.tup [.var 1,.blt .tuple [.var 2]])]
noncomputable def f6:Fd:=⟨1,5,b6⟩
theorem sc6:bN ["pot","many","ways","k","way"] ["pot"] (aG s6):=⟨rfl,rfl,rfl,by decide+kernel,rfl,by decide+kernel,by decide+kernel⟩
include cl in
theorem d6(Fu:nY K "_law_net" "_law_net" s6 f fd)(bD:mg "len"=none)(bR:mg "range"=none)(cT:mg "tuple"=none)(az:aV Pg w K mg base k c 4 "_law_take" 2)(vY:aV Pg w K mg base k c 5 "_law_way" 2):dw Pg w K mg base oM (k+1) f fd ["pot"] (oX K 1 (fun args=>enter c n f6 args)):=by
 refine gD Fu sc6 rfl rfl fun cdv A outer s H E hr=>?_;have nd:=sc6.nd;refine aj ?_ ?_;. (with_reducible refine aH (i:=1) ?_ ?_ ?_ ?_ ?_ ?_);exact nd;exact rfl;exact oi;rotate_left;rfl;exact oi;exact aB aU aa (fC az hr (bO (sv 0) (bO aa aK rfl) rfl))
 with_reducible refine aj ?_ ?_
 . (with_reducible refine aH (i:=2) ?_ ?_ ?_ ?_ ?_ ?_);exact nd;exact rfl;exact oi;rotate_left;rfl;exact oi;exact bf aC
 with_reducible refine aj ?_ ?_
 . (with_reducible refine iD (i:=3) ?_ ?_ ?_ ?_ ?_ ?_ ?_ ?_ ?_);exact PassesOwn.never;exact hc;exact nd;exact rfl;exact oi;exact jU rfl (by rfl) bR (aA (bf (cL (fC az hr (bO (sv 0) (bO aa aK rfl) rfl)) (cL aa (cL (aB aU aa (fC az hr (bO (sv 0) (bO aa aK rfl) rfl))) aC rfl) rfl) rfl)) (fC az hr (bO (sv 0) (bO aa aK rfl) rfl)));(·(with_reducible refine aj ?_ ?_);(·(with_reducible refine aH (i:=4) ?_ ?_ ?_ ?_ ?_ ?_);exact nd;exact rfl;exact oi;rotate_left;rfl;exact oi;exact fC vY hr (bO (sv 0) (bO (sv 1) aK rfl) rfl));(·(with_reducible refine aj ?_ ?_);(·(with_reducible refine cD ?_ ?_ ?_);exact SW.st (lz (aO (qZ (bK hr)) (sv 2) (bf aC) (aN _)) (jJ (aO (cO (bK hr)) (fC az hr (bO (sv 0) (bO aa aK rfl) rfl)) aa (aN _))));(·(with_reducible refine aj ?_ ?_);(·(with_reducible refine aH (i:=4) ?_ ?_ ?_ ?_ ?_ ?_);exact nd;exact rfl;exact oi;rotate_left;rfl;exact oi;exact aA (sv 2) (fC az hr (bO (sv 0) (bO (cj rfl (by rfl) bD (sv 2)) aK rfl) rfl)));exact au);exact au);(·(with_reducible refine aj ?_ ?_);exact bz (k:=2) rfl (by first|exact Or.inl rfl|exact Or.inr (Or.inl rfl)) (sv 4);exact au)));(· intro _;rfl);exact Or.inl rfl
 with_reducible refine aj ?_ ?_
 . (with_reducible refine bU ?_);exact bJ (cL (sv 1) (cL (rT rfl (by rfl) cT (sv 2)) aC rfl) rfl)
 exact au
noncomputable abbrev s7:=top 18
noncomputable def b7:List S:=[.ifs (.inst [.tuple,.list] (.var 1)) [.ifs (.or (.cmp .ne (.inst [.tuple] (.var 0)) (.inst [.tuple] (.var 1))) (.not (.inst [.tuple,.list] (.var 0)))) [.ret (.con (.bl false))] [],.ret (.and (.cmp .eq (.blt .len [.var 0]) (.blt .len [.var 1])) (.blt .all [.uw 0 (.var 1) 2 [2,3] false none (.call 7 [.var 2,.var 3])]))] [],.ifs (.cmp .Ua (.var 1) (.con .non)) [.ret (.cmp .Ua (.var 0) (.con .non))] [],.ret (.and (.inst [.int] (.var 0)) (.and (.not (.inst [.bool] (.var 0))) (.cmp .eq (.var 0) (.var 1))))]
noncomputable def f7:Fd:=⟨2,2,b7⟩
theorem sc7:bN ["found","due"] ["found","due"] (aG s7):=⟨rfl,rfl,rfl,by decide+kernel,rfl,by decide+kernel,by decide+kernel⟩
include cl in
theorem d7(Fu:nY K "_law_same" "_law_same" s7 f fd)(Dt:mg "all"=none)(vZ:mg "bool"=none)(Du:mg "int"=none)(aQ:mg "isinstance"=none)(bD:mg "len"=none)(rA:mg "list"=none)(cT:mg "tuple"=none)(Dv:mg "zip"=none)(ik:aV Pg w K mg base k c 7 "_law_same" 2):dw Pg w K mg base oM (k+1) f fd ["found","due"] (oX K 2 (fun args=>enter c n f7 args)):=by
 refine gD Fu sc7 rfl rfl fun cdv A outer s H E hr=>?_;have nd:=sc7.nd;refine aj ?_ ?_;. (with_reducible refine cD ?_ ?_ ?_);exact uO (tO rfl (by rfl) aQ (sv 1) (jP .tuple (by rfl) cT (by kernel_rfl) (jP .list (by rfl) rA (by kernel_rfl) wu (by decide) (by rfl)) (by decide) (by rfl)));(·(with_reducible refine aj ?_ ?_);(·(with_reducible refine cD ?_ ?_ ?_);exact SW.st (Tr (aO (qZ (bK hr)) (jK .tuple rfl (by rfl) aQ (sv 0) (by rfl) cT (by kernel_rfl) (by decide) (by rfl)) (jK .tuple rfl (by rfl) aQ (sv 1) (by rfl) cT (by kernel_rfl) (by decide) (by rfl)) (aN _)) (JR (Bl (uO (tO rfl (by rfl) aQ (sv 0) (jP .tuple (by rfl) cT (by kernel_rfl) (jP .list (by rfl) rA (by kernel_rfl) wu (by decide) (by rfl)) (by decide) (by rfl)))))));(·(with_reducible refine aj ?_ ?_);(·(with_reducible refine bU ?_);exact wY);exact au);exact au);(·(with_reducible refine aj ?_ ?_);(·(with_reducible refine bU ?_);exact uX (vJ (cO (bK hr)) (cj rfl (by rfl) bD (sv 0)) (cj rfl (by rfl) bD (sv 1)) (aN _)) (wR (J7 rfl hc (by rfl) Dt (zZ (N':=["found","due","one","other"]) hc (VH rfl (by rfl)) (Eg (i:=0) rfl (by rfl) Dv rfl (sv 0) (sv 1)) (fun _ _ _ _ _=>nF hc (bZ (cA (i:=2) (show(["found","due","one","other"]:List Str).Nodup by decide+kernel) rfl (Or.inl rfl) (Or.inr rfl)) (bZ (cA (i:=3) (show(["found","due","one","other"]:List Str).Nodup by decide+kernel) rfl (Or.inl rfl) (Or.inr rfl)) jV))) (qw rfl (eU (show 2<=2 by decide) (eU (show 2<=3 by decide) pZ))) (fun _ _ _ _ _=>wB) (fun _ _ _ _ _=>(fC ik hr (bO (sv 2) (bO (sv 3) aK rfl) rfl)))))));exact au));exact au
 with_reducible refine aj ?_ ?_
 . (with_reducible refine cD ?_ ?_ ?_);exact aO zU (sv 1) vD (aN _);(·(with_reducible refine aj ?_ ?_);(·(with_reducible refine bU ?_);exact vJ zU (sv 0) vD (aN _));exact au);exact au
 with_reducible refine aj ?_ ?_
 . (with_reducible refine bU ?_);exact uX (jK .int rfl (by rfl) aQ (sv 0) (by rfl) Du (by kernel_rfl) (by decide) (by rfl)) (uX (Lw (jK .bool rfl (by rfl) aQ (sv 0) (by rfl) vZ (by kernel_rfl) (by decide) (by rfl))) (wR (vJ (cO (bK hr)) (sv 0) (sv 1) (aN _)))).ev
 exact au
noncomputable abbrev s8:=top 19
noncomputable def b8:List S:=[.asg 2 (.lst [.tup [.tup [],.var 1,.con (.int 0)]]),.asg 3 (.lst [.tup [.tup [],.lst [.var 1],.con (.int 0)]]),.whl (.cmp .ne (.var 3) (.lst [])) [.Zx [4,5,6] (.pop 3),.oH (.zj (.con (.int 0)) (.blt .len [.idx (.var 0) (.con (.int 1))])) [7] true [.asg 8 (.idx (.idx (.var 0) (.con (.int 1))) (.var 7)),.ifs (.and (.cmp .eq (.idx (.var 8) (.con (.int 0))) (.idx (.var 5) (.neg (.con (.int 1))))) (.and (.cmp .gt (.idx (.var 8) (.con (.int 2))) (.con (.int 0))) (.cmp .pO (.idx (.var 8) (.con (.int 1))) (.var 5)))) [.asg 9 (.tup [.bin .add (.var 4) (.tup [.var 7]),.bin .add (.var 5) (.lst [.idx (.var 8) (.con (.int 1))]),.bin .add (.var 6) (.idx (.var 8) (.con (.int 3)))]),.app 3 (.var 9),.app 2 (.tup [.idx (.var 9) (.con (.int 0)),.idx (.var 8) (.con (.int 1)),.idx (.var 9) (.con (.int 2))])] []]],.ret (.var 2)]
noncomputable def f8:Fd:=⟨2,10,b8⟩
theorem sc8:bN ["net","start","found","waiting","walk","places","hours","number","way","longer"] ["net","start"] (aG s8):=⟨rfl,rfl,rfl,by decide+kernel,rfl,by decide+kernel,by decide+kernel⟩
include cl in
theorem d8(Fu:nY K "_law_walks" "_law_walks" s8 f fd)(bD:mg "len"=none)(bR:mg "range"=none):dw Pg w K mg base oM (k+1) f fd ["net","start"] (oX K 2 (fun args=>enter c n f8 args)):=by
 refine gD Fu sc8 rfl rfl fun cdv A outer s H E hr=>?_;have nd:=sc8.nd;refine aj ?_ ?_;. (with_reducible refine aH (i:=2) ?_ ?_ ?_ ?_ ?_ ?_);exact nd;exact rfl;exact oi;rotate_left;rfl;exact oi;exact bf (cL (bJ (cL (bJ aC) (cL (sv 1) (cL aa aC rfl) rfl) rfl)) aC rfl)
 with_reducible refine aj ?_ ?_
 . (with_reducible refine aH (i:=3) ?_ ?_ ?_ ?_ ?_ ?_);exact nd;exact rfl;exact oi;rotate_left;rfl;exact oi;exact bf (cL (bJ (cL (bJ aC) (cL (bf (cL (sv 1) aC rfl)) (cL aa aC rfl) rfl) rfl)) aC rfl)
 with_reducible refine aj ?_ ?_
 .exact(vm PassesOwn.never (aO (qZ (bK hr)) (sv 3) (bf aC) (aN _)) (by(with_reducible refine aj ?_ ?_);exact K9 (nJ (k:=3) rfl (by first|exact Or.inl rfl|exact Or.inr (Or.inl rfl))) (nF hc (bZ (cA (i:=4) nd rfl (Or.inl rfl) (Or.inl rfl)) (bZ (cA (i:=5) nd rfl (Or.inl rfl) (Or.inl rfl)) (bZ (cA (i:=6) nd rfl (Or.inl rfl) (Or.inl rfl)) jV)))) (zT rfl (jH _ _ (jH _ _ (jH _ _ wD 6) 5) 4));(·(with_reducible refine aj ?_ ?_);(·(with_reducible refine iD (i:=7) ?_ ?_ ?_ ?_ ?_ ?_ ?_ ?_ ?_);exact PassesOwn.never;exact hc;exact nd;exact rfl;exact oi;exact jU rfl (by rfl) bR (cj rfl (by rfl) bD (aA (sv 0) aa));(·(with_reducible refine aj ?_ ?_);(·(with_reducible refine aH (i:=8) ?_ ?_ ?_ ?_ ?_ ?_);exact nd;exact rfl;exact oi;rotate_left;rfl;exact oi;exact aA (aA (sv 0) aa) (sv 7));(·(with_reducible refine aj ?_ ?_);(·(with_reducible refine cD ?_ ?_ ?_);exact SW.st (lz (aO (cO (bK hr)) (aA (sv 8) aa) (aA (sv 5) (jm aa)) (aN _)) (lz (aO dY (aA (sv 8) aa) aa (aN _)) (jJ (aO pJ (aA (sv 8) aa) (sv 5) (by with_unfolding_all rfl)))));(·(with_reducible refine aj ?_ ?_);(·(with_reducible refine aH (i:=9) ?_ ?_ ?_ ?_ ?_ ?_);exact nd;exact rfl;exact oi;rotate_left;rfl;exact oi;exact bJ (cL (aB aU (sv 4) (bJ (cL (sv 7) aC rfl))) (cL (aB aU (sv 5) (bf (cL (aA (sv 8) aa) aC rfl))) (cL (aB aU (sv 6) (aA (sv 8) aa)) aC rfl) rfl) rfl));(·(with_reducible refine aj ?_ ?_);exact bz (k:=3) rfl (by first|exact Or.inl rfl|exact Or.inr (Or.inl rfl)) (sv 9);(·(with_reducible refine aj ?_ ?_);exact bz (k:=2) rfl (by first|exact Or.inl rfl|exact Or.inr (Or.inl rfl)) (bJ (cL (aA (sv 9) aa) (cL (aA (sv 8) aa) (cL (aA (sv 9) aa) aC rfl) rfl) rfl));exact au)));exact au);exact au));(· intro _;rfl);exact oi);exact au)))
 with_reducible refine aj ?_ ?_
 . (with_reducible refine bU ?_);exact sv 2
 exact au
noncomputable abbrev s9:=top 20
noncomputable def b9:List S:=[.asg 1 (.lst [.lst [.con (.int 3),.con (.int 3),.con (.int 3),.con (.int 3)],.lst [.con (.int 3),.con (.int 3),.con (.int 3),.con (.int 2)],.lst [.con (.int 4),.con (.int 3),.con (.int 3),.con (.int 2)],.lst [.con (.int 2),.con (.int 2),.con (.int 2),.con (.int 2),.con (.int 2)],.lst [.con (.int 3),.con (.int 3),.con (.int 2),.con (.int 2),.con (.int 2)],.lst [.con (.int 4),.con (.int 4),.con (.int 4)],.lst [.con (.int 2),.con (.int 3),.con (.int 4),.con (.int 2)]]),.asg 2 (.idx (.var 1) (.call 4 [.var 0,.con (.int 7)])),.asg 3 (.lst []),.oH (.Uh (.var 2)) [4,5] false [.vO 3 (.comp (.zj (.con (.int 0)) (.var 5)) 1 [8] true none (.tup [.var 4,.bin .add (.var 4) (.con (.int 1)),.bin .add (.con (.int 1)) (.call 4 [.var 0,.con (.int 3)]),.bin .add (.con (.int 1)) (.call 4 [.var 0,.con (.int 4)])]))],.ifs (.and (.cmp .lt (.blt .len [.var 3]) (.con (.int 12))) (.cmp .eq (.call 4 [.var 0,.con (.int 2)]) (.con (.int 0)))) [.asg 4 (.call 4 [.var 0,.bin .sub (.blt .len [.var 2]) (.con (.int 1))]),.app 3 (.tup [.var 4,.bin .add (.var 4) (.con (.int 2)),.con (.int 1),.bin .add (.con (.int 1)) (.call 4 [.var 0,.con (.int 6)])])] [],.asg 6 (.call 4 [.var 0,.blt .len [.var 3]]),.asg 3 (.bin .add (.slice (.var 3) (.var 6) (.con .non)) (.slice (.var 3) (.con .non) (.var 6))),.ifs (.cmp .eq (.call 4 [.var 0,.con (.int 5)]) (.con (.int 0))) [.asg 7 (.call 4 [.var 0,.blt .len [.var 3]]),.Hw 3 (.var 7) (.bin .add (.slice (.idx (.var 3) (.var 7)) (.con .non) (.con (.int 2))) (.tup [.con (.int 0),.con (.int 1)]))] [],.ret (.tup [.bin .add (.blt .len [.var 2]) (.con (.int 1)),.blt .tuple [.var 3]])]
noncomputable def f9:Fd:=⟨1,8,b9⟩
theorem sc9:bN ["pot","rows","counts","ways","place","count","start","at"] ["pot"] (aG s9):=⟨rfl,rfl,rfl,by decide+kernel,rfl,by decide+kernel,by decide+kernel⟩
include cl in
theorem d9(Fu:nY K "_law_full" "_law_full" s9 f fd)(cY:mg "enumerate"=none)(bD:mg "len"=none)(bR:mg "range"=none)(cT:mg "tuple"=none)(az:aV Pg w K mg base k c 4 "_law_take" 2):dw Pg w K mg base oM (k+1) f fd ["pot"] (oX K 1 (fun args=>enter c n f9 args)):=by
 refine gD Fu sc9 rfl rfl fun cdv A outer s H E hr=>?_;have nd:=sc9.nd;refine aj ?_ ?_;. (with_reducible refine aH (i:=1) ?_ ?_ ?_ ?_ ?_ ?_);exact nd;exact rfl;exact oi;rotate_left;rfl;exact oi;exact bf (cL (bf (dJ [3,3,3,3] rfl aC)) (cL (bf (dJ [3,3,3,2] rfl aC)) (cL (bf (dJ [4,3,3,2] rfl aC)) (cL (bf (dJ [2,2,2,2,2] rfl aC)) (cL (bf (dJ [3,3,2,2,2] rfl aC)) (cL (bf (dJ [4,4,4] rfl aC)) (cL (bf (dJ [2,3,4,2] rfl aC)) aC rfl) rfl) rfl) rfl) rfl) rfl) rfl)
 with_reducible refine aj ?_ ?_
 . (with_reducible refine aH (i:=2) ?_ ?_ ?_ ?_ ?_ ?_);exact nd;exact rfl;exact oi;rotate_left;rfl;exact oi;exact aA (sv 1) (fC az hr (bO (sv 0) (bO aa aK rfl) rfl))
 with_reducible refine aj ?_ ?_
 . (with_reducible refine aH (i:=3) ?_ ?_ ?_ ?_ ?_ ?_);exact nd;exact rfl;exact oi;rotate_left;rfl;exact oi;exact bf aC
 with_reducible refine aj ?_ ?_
 .exact(Dn PassesOwn.never hc (zM rfl (by rfl) cY (sv 2)) (nF hc (bZ (cA (i:=4) nd rfl (Or.inr rfl) (Or.inl rfl)) (bZ (cA (i:=5) nd rfl (Or.inl rfl) (Or.inl rfl)) jV))) (zT rfl (jH _ _ (jH _ _ wD 5) 4)) (by(with_reducible refine aj ?_ ?_);exact lq (k:=3) rfl (by first|exact Or.inl rfl|exact Or.inr (Or.inl rfl)) (rm (N':=["pot","rows","counts","ways","place","count","start","at","k"]) hc (VH rfl (by rfl)) (jU rfl (by rfl) bR (sv 5)) (fun _ _ _ _ _=>cA (i:=8) (show(["pot","rows","counts","ways","place","count","start","at","k"]:List Str).Nodup by decide+kernel) rfl (Or.inl rfl) (Or.inr rfl)) (Ck (Nat.le_refl _)) (fun _ _ _ _ _=>wB) (fun _ _ _ _ _=>(bJ (cL (sv 4) (cL (aB aU (sv 4) aa) (cL (aB aU aa (fC az hr (bO (sv 0) (bO aa aK rfl) rfl))) (cL (aB aU aa (fC az hr (bO (sv 0) (bO aa aK rfl) rfl))) aC rfl) rfl) rfl) rfl))));exact au))
 with_reducible refine aj ?_ ?_
 . (with_reducible refine cD ?_ ?_ ?_);exact SW.st (lz (aO (zK (bK hr)) (cj rfl (by rfl) bD (sv 3)) aa (aN _)) (jJ (aO (cO (bK hr)) (fC az hr (bO (sv 0) (bO aa aK rfl) rfl)) aa (aN _))));(·(with_reducible refine aj ?_ ?_);(·(with_reducible refine aH (i:=4) ?_ ?_ ?_ ?_ ?_ ?_);exact nd;exact rfl;exact Or.inr rfl;rotate_left;rfl;exact oi;exact fC az hr (bO (sv 0) (bO (aB dg (cj rfl (by rfl) bD (sv 2)) aa) aK rfl) rfl));(·(with_reducible refine aj ?_ ?_);exact bz (k:=3) rfl (by first|exact Or.inl rfl|exact Or.inr (Or.inl rfl)) (bJ (cL (sv 4) (cL (aB aU (sv 4) aa) (cL aa (cL (aB aU aa (fC az hr (bO (sv 0) (bO aa aK rfl) rfl))) aC rfl) rfl) rfl) rfl));exact au));exact au
 with_reducible refine aj ?_ ?_
 . (with_reducible refine aH (i:=6) ?_ ?_ ?_ ?_ ?_ ?_);exact nd;exact rfl;exact oi;rotate_left;rfl;exact oi;exact fC az hr (bO (sv 0) (bO (cj rfl (by rfl) bD (sv 3)) aK rfl) rfl)
 with_reducible refine aj ?_ ?_
 . (with_reducible refine aH (i:=3) ?_ ?_ ?_ ?_ ?_ ?_);exact nd;exact rfl;exact oi;rotate_left;rfl;exact oi;exact aB aU (nW (sv 3) (p8 (sv 6)) pR) (nW (sv 3) pR (p8 (sv 6)))
 with_reducible refine aj ?_ ?_
 . (with_reducible refine cD ?_ ?_ ?_);exact aO (cO (bK hr)) (fC az hr (bO (sv 0) (bO aa aK rfl) rfl)) aa (aN _);(·(with_reducible refine aj ?_ ?_);(·(with_reducible refine aH (i:=7) ?_ ?_ ?_ ?_ ?_ ?_);exact nd;exact rfl;exact oi;rotate_left;rfl;exact oi;exact fC az hr (bO (sv 0) (bO (cj rfl (by rfl) bD (sv 3)) aK rfl) rfl));(·(with_reducible refine aj ?_ ?_);exact wG (k:=3) rfl (by first|exact Or.inl rfl|exact Or.inr (Or.inl rfl)) (sv 7) (aB aU (nW (aA (sv 3) (sv 7)) pR (p8 aa)) (bJ (cL aa (cL aa aC rfl) rfl)));exact au));exact au
 with_reducible refine aj ?_ ?_
 . (with_reducible refine bU ?_);exact bJ (cL (aB aU (cj rfl (by rfl) bD (sv 2)) aa) (cL (rT rfl (by rfl) cT (sv 3)) aC rfl) rfl)
 exact au
noncomputable abbrev SJ:=top 21
noncomputable def b10:List S:=[.asg 1 (.con .non),.Nv [.asg 1 (.call 2 [.var 0])] 2 [[.bad],[.bad],[.ifs (.and (.con (.bl true)) (.con (.bl true))) [.ifs (.not (.con (.bl false))) [.asg 1 (.con (.str "many"))] []] []],[.bad],[.bad],[.bad]],.ret (.var 1)]
noncomputable def U6:Fd:=⟨1,3,b10⟩
theorem Q0:bN ["net","found","e"] ["net"] (aG SJ):=⟨rfl,rfl,rfl,by decide+kernel,rfl,by decide+kernel,by decide+kernel⟩
include cl in
theorem d10(Fu:nY K "_law_told" "_law_told" SJ f fd)(gB:mg "ValueError"=none)(aQ:mg "isinstance"=none)(lJ:aV Pg w K mg base k c 2 "all_walks" 1)(il:OwnCls "HaulError" (cl 0) [.type "ValueError",.type "Exception",.type "BaseException",.type "object"] "ValueError.__new__" mg base)(uC:rR Pg w K mg base cl k c 2 "all_walks" 1)(lC:Under base (cl 2) (cl 0))(fX:CQ K (cl 2))(fY:mg "BadHour"=some (.ref (cl 5)))(ir:mg "BadNet"=some (.ref (cl 1)))(iu:mg "NoWalk"=some (.ref (cl 4)))(j9:mg "NoWay"=some (.ref (cl 3)))(bh:mg "TooMany"=some (.ref (cl 2)))(dj:PySem.W.kitOne K (.ref (cl 2)) (.ref (cl 5))=some false)(dG:PySem.W.kitOne K (.ref (cl 2)) (.ref (cl 1))=some false)(dH:PySem.W.kitOne K (.ref (cl 2)) (.ref (cl 4))=some false)(eE:PySem.W.kitOne K (.ref (cl 2)) (.ref (cl 3))=some false)(dm:PySem.W.kitOne K (.ref (cl 2)) (.ref (cl 2))=some true)(cJ:PySem.W.kitOne K (.ref (cl 2)) (.type "ValueError")=some true):dw Pg w K mg base oM (k+1) f fd ["net"] (oX K 1 (fun args=>enter c n U6 args)):=by
 refine gD Fu Q0 rfl rfl fun cdv A outer s H E hr=>?_;have nd:=Q0.nd;refine aj ?_ ?_;. (with_reducible refine aH (i:=1) ?_ ?_ ?_ ?_ ?_ ?_);exact nd;exact rfl;exact oi;rotate_left;rfl;exact oi;exact vD
 with_reducible refine aj ?_ ?_
 .exact(Hk (cl:=cl) (kk:=0) (i:=2) (by rfl) il (by decide+kernel) rfl ⟨rfl,rfl⟩ nd rfl rfl (fun _ _ hp=>(by(with_reducible refine aj ?_ ?_);(·(with_reducible refine aH (i:=1) ?_ ?_ ?_ ?_ ?_ ?_);exact nd;exact rfl;exact oi;rotate_left;rfl;exact oi;exact fC lJ hr (bO (sv 0) aK rfl));exact au)) (fun _ _ W hp hX=>(cI (by(with_reducible refine aH (i:=1) ?_ ?_ ?_ ?_ ?_ ?_);exact nd;exact rfl;exact oi;rotate_left;rfl;exact oi;exact fC lJ hr (bO (sv 0) aK rfl)) (Fw (i:=1) rfl hX uC hr nd rfl (Or.inl rfl) (bO (sv 0) aK rfl)) gq)) (fV (.inl rfl) (fV (.inl rfl) (fV (.inr ⟨lC,fun e oe hO=>(HN (GW.gt (Nm (vL (Bx hO fX rfl (by rfl) aQ rfl (by first|exact Or.inl rfl|exact Or.inr (Or.inl rfl)) (iK (v:=.ref (cl 2)) (by rfl) bh rfl (by rfl)) jW dm)) (K5 (vL (Bx hO fX rfl (by rfl) aQ rfl (by first|exact Or.inl rfl|exact Or.inr (Or.inl rfl)) (p6 (v:=.ty "ValueError") (by rfl) gB (by kernel_rfl) rfl (by decide) (by rfl)) Lz cJ))))) (fun _=>rfl) (HN (Lh (vL (MN hO fX rfl (by rfl) aQ rfl (by first|exact Or.inl rfl|exact Or.inr (Or.inl rfl)) (mQ (iK (v:=.ref (cl 5)) (by rfl) fY rfl (by rfl)) (mQ (iK (v:=.ref (cl 1)) (by rfl) ir rfl (by rfl)) (mQ (iK (v:=.ref (cl 4)) (by rfl) iu rfl (by rfl)) (mQ (iK (v:=.ref (cl 3)) (by rfl) j9 rfl (by rfl)) M6)))) (jt jW (jt jW (jt jW (jt jW Es)))) (qJ dj (qJ dG (qJ dH (qJ eE zN)))) (show 4<=sizeLine by decide)))) (fun _=>rfl) (RQ (aH (i:=1) nd rfl (Or.inl rfl) zH (by rfl) (Or.inl rfl))) Cv) Cv)⟩) (fV (.inl rfl) (fV (.inl rfl) (fV (.inl rfl) Er)))))))
 with_reducible refine aj ?_ ?_
 . (with_reducible refine bU ?_);exact sv 1
 exact au
noncomputable abbrev V5:=top 22
noncomputable def b11:List S:=[.oH (.bin .add (.lst [.con (.int 0)]) (.var 0)) [1] true [.asg 2 (.call 3 [.var 1]),.asg 3 (.call 6 [.var 2]),.ifs (.cmp .eq (.bin .mod (.var 1) (.con (.int 4))) (.con (.int 2))) [.asg 3 (.call 9 [.var 2])] [],.asg 4 (.blt .sorted [.comp (.call 8 [.var 3,.con (.int 0)]) 3 [7,8,9] false (some (.cmp .eq (.var 8) (.bin .sub (.idx (.var 3) (.con (.int 0))) (.con (.int 1))))) (.var 7)]),.oH (.zj (.con (.int 0)) (.con (.int 2))) [5] true [.asg 6 (.call 10 [.var 3]),.ifs (.cmp .gt (.blt .len [.var 4]) (.con (.int 60))) [.ifs (.cmp .ne (.var 6) (.con (.str "many"))) [.ret (.con (.bl false))] []] [.ifs (.not (.call 7 [.var 6,.var 4])) [.ret (.con (.bl false))] [.app 6 (.tup [.con (.int 0)])]]]],.ret (.con (.bl true))]
noncomputable def f11:Fd:=⟨1,7,b11⟩
theorem S7:bN ["script","cell","pot","net","due","turn","found"] ["script"] (aG V5):=⟨rfl,rfl,rfl,by decide+kernel,rfl,by decide+kernel,by decide+kernel⟩
include cl in
theorem d11(Fu:nY K "law" "law" V5 f fd)(bD:mg "len"=none)(bR:mg "range"=none)(cQ:mg "sorted"=none)(uD:aV Pg w K mg base k c 9 "_law_full" 1)(v5:aV Pg w K mg base k c 6 "_law_net" 1)(v7:aV Pg w K mg base k c 3 "_law_pot" 1)(ik:aV Pg w K mg base k c 7 "_law_same" 2)(uE:aV Pg w K mg base k c 10 "_law_told" 1)(rB:aV Pg w K mg base k c 8 "_law_walks" 2):dw Pg w K mg base oM (k+1) f fd ["script"] (oX K 1 (fun args=>enter c n f11 args)):=by
 refine gD Fu S7 rfl rfl fun cdv A outer s H E hr=>?_;have nd:=S7.nd;refine aj ?_ ?_;. (with_reducible refine iD (i:=1) ?_ ?_ ?_ ?_ ?_ ?_ ?_ ?_ ?_);exact PassesOwn.never;exact hc;exact nd;exact rfl;exact oi;exact uY (aB aU (bf (cL aa aC rfl)) (sv 0));(·(with_reducible refine aj ?_ ?_);(·(with_reducible refine aH (i:=2) ?_ ?_ ?_ ?_ ?_ ?_);exact nd;exact rfl;exact oi;rotate_left;rfl;exact oi;exact fC v7 hr (bO (sv 1) aK rfl));(·(with_reducible refine aj ?_ ?_);(·(with_reducible refine aH (i:=3) ?_ ?_ ?_ ?_ ?_ ?_);exact nd;exact rfl;exact Or.inr rfl;rotate_left;rfl;exact oi;exact fC v5 hr (bO (sv 2) aK rfl));(·(with_reducible refine aj ?_ ?_);(·(with_reducible refine cD ?_ ?_ ?_);exact aO (cO (bK hr)) (aB gh (sv 1) aa) aa (aN _);(·(with_reducible refine aj ?_ ?_);(·(with_reducible refine aH (i:=3) ?_ ?_ ?_ ?_ ?_ ?_);exact nd;exact rfl;exact Or.inr rfl;rotate_left;rfl;exact oi;exact fC uD hr (bO (sv 2) aK rfl));exact au);exact au);(·(with_reducible refine aj ?_ ?_);(·(with_reducible refine aH (i:=4) ?_ ?_ ?_ ?_ ?_ ?_);exact nd;exact rfl;exact oi;rotate_left;rfl;exact oi;exact lr rfl (by rfl) cQ (rm (N':=["script","cell","pot","net","due","turn","found","walk","last","hours"]) hc (VH rfl (by rfl)) (uY (fC rB hr (bO (sv 3) (bO aa aK rfl) rfl))) (fun _ _ _ _ _=>nF hc (bZ (cA (i:=7) (show(["script","cell","pot","net","due","turn","found","walk","last","hours"]:List Str).Nodup by decide+kernel) rfl (Or.inl rfl) (Or.inr rfl)) (bZ (cA (i:=8) (show(["script","cell","pot","net","due","turn","found","walk","last","hours"]:List Str).Nodup by decide+kernel) rfl (Or.inl rfl) (Or.inr rfl)) (bZ (cA (i:=9) (show(["script","cell","pot","net","due","turn","found","walk","last","hours"]:List Str).Nodup by decide+kernel) rfl (Or.inl rfl) (Or.inr rfl)) jV)))) (qw rfl (eU (show 7<=7 by decide) (eU (show 7<=8 by decide) (eU (show 7<=9 by decide) pZ)))) (fun _ _ _ _ _=>xx (aO (cO (bK hr)) (sv 8) (aB dg (aA (sv 3) aa) aa) (aN _))) (fun _ _ _ _ _=>(sv 7))));(·(with_reducible refine aj ?_ ?_);(·(with_reducible refine iD (i:=5) ?_ ?_ ?_ ?_ ?_ ?_ ?_ ?_ ?_);exact PassesOwn.never;exact hc;exact nd;exact rfl;exact oi;exact jU rfl (by rfl) bR aa;(·(with_reducible refine aj ?_ ?_);(·(with_reducible refine aH (i:=6) ?_ ?_ ?_ ?_ ?_ ?_);exact nd;exact rfl;exact oi;rotate_left;rfl;exact oi;exact fC uE hr (bO (sv 3) aK rfl));(·(with_reducible refine aj ?_ ?_);(·(with_reducible refine cD ?_ ?_ ?_);exact aO dY (cj rfl (by rfl) bD (sv 4)) aa (aN _);(·(with_reducible refine aj ?_ ?_);(·(with_reducible refine cD ?_ ?_ ?_);exact aO (qZ (bK hr)) (sv 6) zH (aN _);(·(with_reducible refine aj ?_ ?_);(·(with_reducible refine bU ?_);exact wY);exact au);exact au);exact au);(·(with_reducible refine aj ?_ ?_);(·(with_reducible refine cD ?_ ?_ ?_);exact Bl (uO (fC ik hr (bO (sv 6) (bO (sv 4) aK rfl) rfl)));(·(with_reducible refine aj ?_ ?_);(·(with_reducible refine bU ?_);exact wY);exact au);(·(with_reducible refine aj ?_ ?_);exact bz (k:=6) rfl (by first|exact Or.inl rfl|exact Or.inr (Or.inl rfl)) (bJ (cL aa aC rfl));exact au));exact au));exact au));(· intro _;rfl);exact oi);exact au)))));(· intro _;rfl);exact Or.inl rfl
 with_reducible refine aj ?_ ?_
 . (with_reducible refine bU ?_);exact wY
 exact au
end T
end
section
namespace T
open PySem L2 PySem.Spec PyProof.Rows HH
noncomputable def Γ:Tab:=fun i=>[f0,f1,f2,f3,f4,f5,f6,f7,f8,f9,U6,f11][i]?
end T
end
section
namespace T
open HH
noncomputable abbrev big:Int:=1606938044258990275541962092341162602522202993782792835301376
theorem aL{w n:Nat}{x m:Int}{Q:R->List Sl->Prop}(h0:0<m)(h2:m<1000)(k:∀d y:Int,0<=d->d<m->Q (.val (.int d)) [.own true [.int y],.val false (.int m)]):(run Γ w (n+1) 4 [.own true [.int x],.val false (.int m)]).sat Q:=by
 have h3:m<1606938044258990275541962092341162602522202993782792835301376:=by omega
 refine cC (d:=f4) rfl rfl (by decide) ?_;first|apply ak|apply aq
 simp[f4,h0,h3];apply ak;simp[h0,h3,jk];apply ak;simp;exact k _ _ (Int.emod_nonneg _ (by omega)) (Int.emod_lt_of_pos _ h0)
structure Wy where(s t r h:Int)
noncomputable def Wy.d(w:Wy):D:=.tup [.int w.s,.int w.t,.int w.r,.int w.h]
structure Wy.Ok(m:Int)(w:Wy):Prop where
 s0:0<=w.s
 s1:w.s<m
 t0:0<=w.t
 t1:w.t<m
 ne:w.s≠w.t
 r0:0<=w.r
 r1:w.r<=1000000000
 h0:1<=w.h
 h1:w.h<=1000000
theorem other{a b m:Int}(h1:0<=a)(h2:a<m)(h3:0<=b)(h4:b<m-1):0<=(a+1+b)%m/\(a+1+b)%m<m/\(a+1+b)%m≠a:=by
 by_cases h:a+1+b<m;.rw[Int.emod_eq_of_lt (by omega) h];omega
 . have e:(a+1+b)%m=a+1+b-m:=by rw[<-Int.sub_emod_right,Int.emod_eq_of_lt (by omega) (by omega)]
   rw[e];omega
theorem pick{a b c d e f i lo hi:Int}(h0:0<=i)(h1:i<=5)(k1:lo<=a/\a<=hi/\lo<=b/\b<=hi)(k2:lo<=c/\c<=hi/\lo<=d/\d<=hi)(k3:lo<=e/\e<=hi/\lo<=f/\f<=hi):∃r,at' [D.int a,D.int b,D.int c,D.int d,D.int e,D.int f] i=some (.int r)/\lo<=r/\r<=hi:=by
 have:i=0\/i=1\/i=2\/i=3\/i=4\/i=5:=by omega
 rcases this with rfl|rfl|rfl|rfl|rfl|rfl;.exact⟨a,Q5,by omega⟩
 .exact⟨b,QH,by omega⟩
 .exact⟨c,Tc,by omega⟩
 .exact⟨d,YB,by omega⟩
 .exact⟨e,Za,by omega⟩
 .exact⟨f,X6,by omega⟩
theorem GK{w n:Nat}{x m:Int}{Q:R->List Sl->Prop}(h0:2<=m)(h2:m<=6)(k:∀(w:Wy)(y:Int),w.Ok m->Q (.val w.d) [.own true [.int y],.val false (.int m)]):(run Γ w (n+2) 5 [.own true [.int x],.val false (.int m)]).sat Q:=by
 refine cC (d:=f5) rfl rfl (by decide) ?_;first|apply ak|apply aq
 simp[f5];refine aL (by omega) (by omega) fun a x ha1 ha2=>?_;simp;apply ak;simp;refine aL (by omega) (by omega) fun b x hb1 hb2=>?_;obtain⟨t0,t1,tn⟩:=other ha1 ha2 hb1 hb2;simp[show 0<m by omega];generalize(a+1+b)%m=t at*;refine gA (fun ρ=>∃y s t,ρ=[.own true [.int y],.val false (.int m),.val false (.int s),.val false (.int t),.bC,.bC]/\0<=s/\s<m/\0<=t/\t<m/\s≠t) ?_ ?_
 . simp;constructor
   . intro _;refine aL (by omega) (by omega) fun d x hd1 hd2=>?_;simp;constructor
     . intro _;first|apply ak|apply aq
       simp;refine⟨_,_,_,⟨rfl,rfl,rfl⟩,?_⟩;omega
     .intro _;refine⟨_,_,_,⟨rfl,rfl,rfl⟩,?_⟩;omega
   .intro _;refine⟨_,_,_,⟨rfl,rfl,rfl⟩,?_⟩;omega
 rintro _⟨x,s,t,rfl,s0,s1,t0,t1,ne⟩;clear ha1 ha2 hb1 hb2 tn;first|apply ak|apply aq
 simp;refine aL (by omega) (by omega) fun d1 x hd1 hd2=>?_;simp;refine aL (by omega) (by omega) fun d2 x NK NT=>?_;simp;refine aL (by omega) (by omega) fun d3 x Wm Wn=>?_;simp;obtain⟨r,e,r0,r1⟩:∃r,at' [D.int 0,D.int 1,D.int 2,D.int 3,D.int (1+d1),D.int (1000000000-d2)] (if d3<5 then d3 else 5)=some (.int r)/\0<=r/\r<=1000000000:=pick (by split<;>omega) (by split<;>omega) (by omega) (by omega) (by omega);rw[e];simp;clear e hd1 hd2 NK NT Wm Wn;first|apply ak|apply aq
 simp;refine aL (by omega) (by omega) fun d1 x hd1 hd2=>?_;simp;refine aL (by omega) (by omega) fun d2 x NK NT=>?_;simp;refine aL (by omega) (by omega) fun d3 x Wm Wn=>?_;simp;obtain⟨h,e,u0,u1⟩:∃r,at' [D.int 1,D.int 1,D.int 2,D.int 3,D.int (1+d1),D.int (1000000-d2)] (if d3<5 then d3 else 5)=some (.int r)/\1<=r/\r<=1000000:=pick (by split<;>omega) (by split<;>omega) (by omega) (by omega) (by omega);rw[e];simp;clear e hd1 hd2 NK NT Wm Wn;refine gA (fun ρ=>∃y r,ρ=[.own true [.int y],.val false (.int m),.val false (.int s),.val false (.int t),.val false (.int r),.val false (.int h)]/\0<=r/\r<=1000000000) ?_ ?_
 . simp;refine aL (by omega) (by omega) fun d x hd1 hd2=>?_;simp;constructor
   . intro _;first|apply ak|apply aq
     simp;refine aL (by omega) (by omega) fun d x hd1 hd2=>?_;simp;refine⟨_,_,⟨rfl,rfl⟩,?_⟩;omega
   .intro _;refine⟨_,_,⟨rfl,rfl⟩,?_⟩;omega
 rintro _⟨x,r,rfl,r0,r1⟩;refine gA (fun ρ=>∃y h,ρ=[.own true [.int y],.val false (.int m),.val false (.int s),.val false (.int t),.val false (.int r),.val false (.int h)]/\1<=h/\h<=1000000) ?_ ?_
 . simp;refine aL (by omega) (by omega) fun d x hd1 hd2=>?_;simp;constructor
   . intro _;first|apply ak|apply aq
     simp;refine aL (by omega) (by omega) fun d x hd1 hd2=>?_;simp;refine⟨_,_,⟨rfl,rfl⟩,?_⟩;omega
   .intro _;refine⟨_,_,⟨rfl,rfl⟩,?_⟩;omega
 rintro _⟨x,h,rfl,u0,u1⟩;first|apply ak|apply aq
 simp;exact k ⟨s,t,r,h⟩ x ⟨s0,s1,t0,t1,ne,r0,r1,u0,u1⟩
theorem Et{a b:Int}{d:D}(h:d∈(List.range (b-a).toNat).map fun(k:Nat)=>D.int (a+(k:Int))):∃i,d=.int i/\a<=i/\i<b:=by rw[List.mem_map]at h;obtain⟨k,h1,rfl⟩:=h;rw[List.mem_range]at h1;exact⟨a+k,rfl,by omega,by omega⟩
inductive Xa(x:Int)(r:List D)(ρ:List Sl):Prop where|mk(a b:Int)(s t:Sl)(q0:ρ=[.val false (.int x),.val false (.int a),.val false (.int b),s,t])(q1:fr s=true)(q2:fr t=true)(q3:∀d∈r,∃i,d=D.int i/\0<=i/\i<48)
theorem Fg{w n:Nat}{x:Int}{Q:R->List Sl->Prop}(k:∀y:Int,Q (.own [.int y]) [.val false (.int x)]):(run Γ w (n+1) 3 [.val false (.int x)]).sat Q:=by
 refine cC (d:=f3) rfl rfl (by decide) ?_;first|apply ak|apply aq
 simp[f3];constructor
 . intro _;first|apply ak|apply aq
   simp;exact k _
 intro _;first|apply ak|apply aq
 simp;apply ak;simp;generalize x%2147483647+16807=one;first|apply ak|apply aq
 simp;refine eV (Xa x) ?_ ?_ ?_
 . rintro d r _⟨a,b,s,t,rfl,hs,ht,h⟩;obtain⟨i,rfl,i0,i1⟩:=h d (by simp);simp[hs];apply ak;have q1:-18446744073709551616<7919*i/\7919*i<18446744073709551616:=by omega
   simp[q1];generalize hz:(b*48271+7919*i*i+104729)%2147483647=z;have q2:-18446744073709551616<z/\z<18446744073709551616:=by omega
   first|apply ak|apply aq
   simp[q2,ht];apply ak;simp;exact⟨_,_,_,_,rfl,rfl,rfl,fun d hd=>h d (List.mem_cons_of_mem _ hd)⟩
 . rintro _⟨a,b,s,t,rfl,hs,ht,h⟩;first|apply ak|apply aq
   simp;exact k _
 .refine⟨_,_,_,_,rfl,rfl,rfl,fun d hd=>?_⟩;have:=Et (a:=0) (b:=48) (d:=d) (by simpa using hd);exact this
theorem Kw(w:Wy):cH 7 w.d=true:=rfl
theorem Ex{ds:List D}{k:Nat}(h:∀d∈ds,cH k d=true):cH (k+1) (.lst ds)=true:=by rw[cH];exact List.all_eq_true.mpr h
theorem Rc{ds:List D}{k:Nat}(h:∀d∈ds,cH k d=true):cH (k+1) (.tup ds)=true:=by rw[cH];exact List.all_eq_true.mpr h
theorem ne_nil{ws:List Wy}:cm .ne (.lst (ws.map Wy.d)) (.lst [])=some (!ws.isEmpty):=by show qK _ _=_;unfold qK;rw[Ex (fun d hd=>by obtain⟨w,_,rfl⟩:=List.mem_map.mp hd;exact Kw w)];cases ws<;>simp[bw,fj,cH]
noncomputable def fH(m:Int)(ws:List Wy):D:=.tup [.int m,.tup (ws.map Wy.d)]
structure cF(m:Int)(ws:List Wy):Prop where
 m0:2<=m
 m1:m<=6
 len:ws.length<=12
 ok:∀w∈ws,w.Ok m
inductive W6(b:Bool)(m:Int)(r:List D)(ρ:List Sl):Prop where|mk(y:Int)(ws:List Wy)(s t:Sl)(q0:ρ=[.own b [.int y],.val false (.int m),.own false (ws.map Wy.d),s,t])(q1:fr s=true)(q2:fr t=true)(q3:(∀w∈ws,w.Ok m))(q4:ws.length+r.length<=12)
theorem GF{w n:Nat}{b:Bool}{x:Int}{Q:R->List Sl->Prop}(k:∀(m:Int)(ws:List Wy)(y:Int),cF m ws->Q (.val (fH m ws)) [.own b [.int y]]):(run Γ w (n+3) 6 [.own b [.int x]]).sat Q:=by
 refine cC (d:=f6) rfl rfl (by decide) ?_;first|apply ak|apply aq
 simp[f6];refine aL (by omega) (by omega) fun d1 x hd1 hd2=>?_;simp;obtain⟨m,hm,m0,m1⟩:∃m,m=2+d1/\2<=m/\m<=6:=⟨_,rfl,by omega,by omega⟩;rw[<-hm];first|apply ak|apply aq
 simp;apply ak;simp;refine aL (by omega) (by omega) fun d1 x hd1 hd2=>?_;simp;refine aL (by omega) (by omega) fun d2 x NK NT=>?_;simp;refine aL (by omega) (by omega) fun d3 x Wm Wn=>?_;simp;obtain⟨c,e,c0,c1⟩:∃r,at' [D.int d1,D.int 12,D.int (4+d2)] d3=some (.int r)/\0<=r/\r<=12:=by
  have:d3=0\/d3=1\/d3=2:=by omega
  rcases this with rfl|rfl|rfl;.exact⟨_,Q5,by omega⟩
  .exact⟨_,QH,by omega⟩
  .exact⟨_,Tc,by omega⟩
 rw[e];simp;refine⟨by omega,?_⟩;refine eV (W6 b m) ?_ ?_ ?_
 . rintro d r _⟨y,ws,s,t,rfl,hs,ht,hw,hl⟩;simp[hs];simp only[List.length_cons]at hl;apply ak;simp;refine GK m0 m1 fun w y Wo=>?_;simp[ht];refine gA (fun ρ=>∃(y:Int)(w:Wy),ρ=[.own b [.int y],.val false (.int m),.own false (ws.map Wy.d),.val false d,.val false w.d]/\w.Ok m) ?_ ?_
   . by_cases hne:ws=[];.subst hne;have en:=ne_nil (ws:=[]);simp at en;simp[en];exact⟨_,_,⟨rfl,rfl⟩,Wo⟩
     . have hl0:0<ws.length:=by cases ws with|nil=>exact absurd rfl hne|cons _ _=>simp
       have en:cm .ne (.lst (ws.map Wy.d)) (.lst [])=some true:=by rw[ne_nil];cases ws with|nil=>exact absurd rfl hne|cons _ _=>rfl
       simp[en];refine aL (by omega) (by omega) fun d1 x hd1 hd2=>?_;by_cases c0:d1=0
       . simp[c0];first|apply ak|apply aq
         simp;refine aL (by omega) (by omega) fun d1 x hd1 hd2=>?_;simp;have hlt:d1.toNat<ws.length:=by omega
         rw[nq hd1 (by simpa using hd2),List.getElem?_map,List.getElem?_eq_getElem hlt];simp;exact⟨_,_,⟨rfl,rfl⟩,hw _ (List.getElem_mem hlt)⟩
       .simp[c0];exact⟨_,_,⟨rfl,rfl⟩,Wo⟩
   rintro _⟨y,w,rfl,Wo⟩;first|apply ak|apply aq
   have hlim:ws.length<lim:=by show _<16777216;omega
   simp[hlim];refine⟨y,ws++[w],.val false d,.val false w.d,by simp,rfl,rfl,fun v hv=>?_,by simp;omega⟩;rw[List.mem_append,List.mem_singleton]at hv;rcases hv with hv|rfl;.exact hw v hv
   .exact Wo
 . rintro _⟨y,ws,s,t,rfl,hs,ht,hw,hl⟩;first|apply ak|apply aq
   simp;exact k m ws y ⟨m0,m1,by simpa using hl,hw⟩
 .exact⟨x,[],_,_,rfl,rfl,rfl,by simp,by simp;omega⟩
end T
end
section
namespace T
open HH
@[simp]theorem aat{α β:Type}{a:α}{ρ:List Sl}{f:α->List Sl->Res β}:(Res.ok a ρ).bind f=f a ρ:=rfl
@[simp]theorem Tq{α β:Type}{f:α->List Sl->Res β}:(Res.stuck:Res α).bind f=.stuck:=rfl
@[simp]theorem VR{α:Type}{a:α}{ρ:List Sl}:lift (some a) ρ=.ok a ρ:=rfl
@[simp]theorem Vl{c:Call}{n k:Nat}{ρ:List Sl}:ex c n (.vP k) ρ=.stuck:=by rw[ex]
theorem aa1{ws:List Wy}{k:Int}(h0:0<=k)(h1:k<(ws.length:Int)):∃v,ws[k.toNat]?=some v/\v∈ws/\at' (ws.map Wy.d) k=some v.d:=by
 have hk:k.toNat<ws.length:=by omega
 refine⟨ws[k.toNat],by simp[hk],List.getElem_mem hk,?_⟩;rw[nq h0 (by simpa using h1)];simp[hk]
theorem Fj{v:Wy}:zx v.d (.int 0)=some (.val (.int v.s)):=by simp[Wy.d]
theorem oU{v:Wy}:zx v.d (.int 1)=some (.val (.int v.t)):=by simp[Wy.d]
theorem uV{v:Wy}:zx v.d (.int 2)=some (.val (.int v.r)):=by simp[Wy.d]
theorem Xi{v:Wy}:zx v.d (.int 3)=some (.val (.int v.h)):=by simp[Wy.d]
@[simp]theorem aa5{m:Int}{ws:List Wy}:zx (fH m ws) (.int 0)=some (.val (.int m)):=rfl
@[simp]theorem aaw{m:Int}{ws:List Wy}:zx (fH m ws) (.int 1)=some (.val (.tup (ws.map Wy.d))):=rfl
end T
end
section
namespace T
open HH
structure St where(w ps:List Int)(h:Int)
noncomputable def lst(ps:List Int):Int:=ps.getLast?.getD 0
noncomputable def goes(st:St)(v:Wy):Bool:=decide (v.s=lst st.ps)&&(decide (0<v.r)&&!st.ps.contains v.t)
noncomputable def on(st:St)(j:Nat)(v:Wy):St:=⟨st.w++[(j:Int)],st.ps++[v.t],st.h+v.h⟩
noncomputable def mO(st:St):Nat->List Wy->List St|_,[]=>[]|i,v::ws=>if goes st v=true then on st i v::mO st (i+1) ws else mO st (i+1) ws
noncomputable def nx(ws:List Wy)(st:St):List St:=mO st 0 ws
structure Vs(m:Int)(st:St):Prop where
 nd:st.ps.Nodup
 Uz:∀p∈st.ps,0<=p/\p<m
 ne:st.ps≠[]len:st.w.length+1=st.ps.length
theorem qN{ps:List Int}{t:Int}:lst (ps++[t])=t:=by unfold lst;simp
theorem GP{ps:List Int}(h:ps≠[]):lst ps∈ps:=by unfold lst;rw[List.getLast?_eq_some_getLast h];exact List.getLast_mem h
theorem qd{st s:St}:∀{ws:List Wy}{i:Nat},s∈mO st i ws->∃j v,v∈ws/\goes st v=true/\s=on st j v
 |[],_,h=>by cases h|v::ws,i,h=>by
   rw[mO]at h;split at h
   . rename_i c;rcases List.mem_cons.mp h with rfl|h;.exact⟨i,v,by simp,c,rfl⟩
     .obtain⟨j,u,h1,h2⟩:=qd h;exact⟨j,u,by simp[h1],h2⟩
   .obtain⟨j,u,h1,h2⟩:=qd h;exact⟨j,u,by simp[h1],h2⟩
theorem jT{st:St}:∀{ws:List Wy}{i:Nat},(mO st i ws).length<=ws.length
 |[],_=>Nat.le_refl _|v::ws,i=>by
   have:=jT (st:=st) (ws:=ws) (i:=i+1);rw[mO,List.length_cons];split;.rw[List.length_cons];omega
   .omega
theorem dh{m:Int}{ws:List Wy}{st s:St}(hN:cF m ws)(h:Vs m st)(hs:s∈nx ws st):Vs m s/\s.ps.length=st.ps.length+1/\lst s.ps∉st.ps/\(∀p∈st.ps,p∈s.ps)/\s.w≠[]:=by
 obtain⟨j,v,hv,hg,rfl⟩:=qd hs;have o:=hN.ok v hv;have hg:v.s=lst st.ps/\0<v.r/\v.t∉st.ps:=by unfold goes at hg;simpa using hg
 refine⟨⟨?_,fun p hp=>?_,by show st.ps++[v.t]≠[];simp,?_⟩,by show(st.ps++[v.t]).length=_;simp,?_,fun p hp=>List.mem_append.mpr (.inl hp),by show st.w++[(j:Int)]≠[];simp⟩;.show(st.ps++[v.t]).Nodup;rw[List.nodup_append];exact⟨h.nd,by simp,fun a ha b hb e=>hg.2.2 (by rw[List.mem_singleton]at hb;rw[<-hb,<-e];exact ha)⟩
 . rcases List.mem_append.mp hp with hp|hp;.exact h.Uz p hp
   .rw[List.mem_singleton.mp hp];exact⟨o.t0,o.t1⟩
 .have:=h.len;show(st.w++[(j:Int)]).length+1=(st.ps++[v.t]).length;simp;omega
 .show lst (st.ps++[v.t])∉st.ps;rw[qN];exact hg.2.2
theorem tQ{α:Type}[DecidableEq α]:∀{l1 l2:List α},l1.Nodup->(∀x∈l1,x∈l2)->l1.length<=l2.length|[],_,_,_=>Nat.zero_le _|a::l,l2,hn,h=>by rw[List.nodup_cons]at hn;have h1:=tQ (l2:=l2.erase a) hn.2 fun x hx=>(List.mem_erase_of_ne (fun(e:x=a)=>hn.1 (by rw[<-e];exact hx))).mpr (h x (by simp[hx]));have h2:=List.length_erase_of_mem (h a (by simp));have h3:=List.length_pos_of_mem (h a (by simp));rw[List.length_cons];omega
theorem Vs.six{m:Int}{st:St}(h:Vs m st)(m1:m<=6):st.ps.length<=6:=by
 have:=tQ (l2:=(List.range 6).map fun(i:Nat)=>(i:Int)) h.nd fun p hp=>by have:=h.Uz p hp;exact List.mem_map.mpr ⟨p.toNat,List.mem_range.mpr (by omega),by omega⟩
 simpa using this
noncomputable def al(ws:List Wy):Nat->St->List St|0,st=>[st]|k+1,st=>st::(nx ws st).flatMap (al ws k)
noncomputable def A(ws:List Wy)(st:St):List St:=al ws (6-st.ps.length) st
theorem jr{α β:Type}{f g:α->List β}:∀{l:List α},(∀x∈l,f x=g x)->l.flatMap f=l.flatMap g|[],_=>rfl|x::l,h=>by rw[List.flatMap_cons,List.flatMap_cons,h x (by simp),jr fun y hy=>h y (by simp[hy])]
theorem Bk{m:Int}{ws:List Wy}{st:St}(hN:cF m ws)(h:Vs m st)(h6:st.ps.length=6):nx ws st=[]:=by cases e:nx ws st with|nil=>rfl|cons s l=>obtain⟨h1,h2,_⟩:=dh hN h (s:=s) (by rw[e];simp);have:=h1.six hN.m1;omega
theorem By{m:Int}{ws:List Wy}{st:St}(hN:cF m ws)(h:Vs m st):A ws st=st::(nx ws st).flatMap (A ws):=by
 have h6:=h.six hN.m1;unfold A;by_cases c:st.ps.length=6;.rw[Bk hN h c,c];rfl
 .obtain⟨k,hk⟩:∃k,6-st.ps.length=k+1:=⟨6-st.ps.length-1,by omega⟩;rw[hk,al];congr 1;refine jr fun s hs=>?_;have:=(dh hN h hs).2.1;rw[show 6-s.ps.length=k by omega]
theorem wy{α β:Type}{f:α->List β}{b:Nat}:∀{l:List α},(∀x∈l,(f x).length<=b)->(l.flatMap f).length<=l.length*b|[],_=>by simp|x::l,h=>by have h1:=h x (by simp);have h2:=wy (l:=l) fun y hy=>h y (by simp[hy]);rw[List.flatMap_cons,List.length_append,List.length_cons,Nat.succ_mul];omega
noncomputable def bnd:Nat->Nat|0=>1|k+1=>1+12*bnd k
theorem CN{ws:List Wy}(hl:ws.length<=12):∀{k:Nat}{st:St},(al ws k st).length<=bnd k|0,_=>Nat.le_refl _|k+1,st=>by rw[al,List.length_cons,bnd];have h1:=wy (f:=al ws k) (b:=bnd k) (l:=nx ws st) fun x _=>CN hl;have h2:(nx ws st).length*bnd k<=12*bnd k:=Nat.mul_le_mul_right _ (Nat.le_trans jT hl);omega
theorem Nk:∀k,k<7->bnd k<=4000000:=by decide
theorem rW{ws:List Wy}{st:St}(hl:ws.length<=12):(A ws st).length<=4000000:=Nat.le_trans (CN hl) (Nk _ (by omega))
noncomputable def ds(ws:List Wy)(st:St):List St:=(nx ws st).flatMap (A ws)
theorem xq{m:Int}{ws:List Wy}(hN:cF m ws):∀{l:List St},(∀s∈l,Vs m s)->(l.flatMap (A ws)).Perm (l++l.flatMap (ds ws))|[],_=>.refl _|s::l,h=>by have ih:=xq hN (l:=l) fun x hx=>h x (by simp[hx]);rw[List.flatMap_cons,List.flatMap_cons,By hN (h s (by simp))];show(s::(ds ws s++l.flatMap (A ws))).Perm (s::(l++(ds ws s++l.flatMap (ds ws))));refine .cons _ ?_;refine(ih.append_left (ds ws s)).trans ?_;rw[<-List.append_assoc,<-List.append_assoc];exact(List.perm_append_comm).append_right _
noncomputable def en(ws:List Wy)(e:Int):Nat->St->List (List Int)|0,st=>if lst st.ps=e then[st.w]else[]|k+1,st=>if lst st.ps=e then[st.w]else(nx ws st).flatMap (en ws e k)
noncomputable def E(ws:List Wy)(e:Int)(st:St):List (List Int):=en ws e (6-st.ps.length) st
theorem Gq{ws:List Wy}{e:Int}{st:St}(h:lst st.ps=e):E ws e st=[st.w]:=by unfold E;cases 6-st.ps.length<;>rw[en,if_pos h]
theorem Ca{m e:Int}{ws:List Wy}{st:St}(hN:cF m ws)(h:Vs m st)(hl:lst st.ps≠e):E ws e st=(nx ws st).flatMap (E ws e):=by
 have h6:=h.six hN.m1;unfold E;by_cases c:st.ps.length=6;.rw[Bk hN h c,c];show(if _ then _ else _)=_;rw[if_neg hl];rfl
 .obtain⟨k,hk⟩:∃k,6-st.ps.length=k+1:=⟨6-st.ps.length-1,by omega⟩;rw[hk,en,if_neg hl];refine jr fun s hs=>?_;have:=(dh hN h hs).2.1;rw[show 6-s.ps.length=k by omega]
noncomputable def uF(e:Int)(st:St):Option (List Int):=if lst st.ps=e then some st.w else none
theorem qF{α β γ:Type}{f:α->List β}{g:β->Option γ}:∀{l:List α},(l.flatMap f).filterMap g=l.flatMap fun x=>(f x).filterMap g|[]=>rfl|x::l=>by rw[List.flatMap_cons,List.flatMap_cons,List.filterMap_append,qF]
theorem Bm{m e:Int}{ws:List Wy}(hN:cF m ws):∀(k:Nat){st:St},Vs m st->st.ps.length+k=6->e∈st.ps->(ds ws st).filterMap (uF e)=[]
 |k,st,h,hk,he=>by
   unfold ds;rw[qF];refine(jr (g:=fun _=>[]) fun s hs=>?_).trans (by simp);obtain⟨h1,h2,h3,h4,_⟩:=dh hN h hs;rw[By hN h1,List.filterMap_cons];have:uF e s=none:=by unfold uF;rw[if_neg];intro z;exact h3 (by rw[z];exact he)
   rw[this];have h6:=h1.six hN.m1;exact Bm hN (k-1) h1 (by omega) (h4 e he)termination_by k=>k decreasing_by have h6:=(dh hN h hs).1.six hN.m1;have:=(dh hN h hs).2.1;omega
theorem Jf{m e:Int}{ws:List Wy}(hN:cF m ws):∀(k:Nat){st:St},Vs m st->st.ps.length+k=6->(A ws st).filterMap (uF e)=E ws e st
 |k,st,h,hk=>by
   rw[By hN h,List.filterMap_cons];by_cases c:lst st.ps=e
   . have:uF e st=some st.w:=by unfold uF;rw[if_pos c]
     rw[this,Gq c,show((nx ws st).flatMap (A ws)).filterMap (uF e)=[]from Bm hN k h hk (by rw[<-c];exact GP h.ne)]
   . have:uF e st=none:=by unfold uF;rw[if_neg c]
     rw[this,Ca hN h c,qF];refine jr fun s hs=>?_;have h1:=dh hN h hs;have h6:=h1.1.six hN.m1;exact Jf hN (k-1) h1.1 (by omega)termination_by k=>k decreasing_by have h6:=(dh hN h hs).1.six hN.m1;have:=(dh hN h hs).2.1;omega
theorem RZ{m e:Int}{ws:List Wy}(hN:cF m ws):∀(k:Nat){st:St},Vs m st->st.ps.length+k=6->st.w≠[]->∀w∈E ws e st,w≠[]
 |k,st,h,hk,hw,w,hm=>by
   by_cases c:lst st.ps=e;.rw[Gq c]at hm;rw[List.mem_singleton.mp hm];exact hw
   .rw[Ca hN h c]at hm;obtain⟨s,hs,hm⟩:=List.mem_flatMap.mp hm;have h1:=dh hN h hs;have h6:=h1.1.six hN.m1;exact RZ hN (k-1) h1.1 (by omega) h1.2.2.2.2 w hm termination_by k=>k decreasing_by have h6:=(dh hN h hs).1.six hN.m1;have:=(dh hN h hs).2.1;omega
end T
end
section
namespace T
open HH
noncomputable def uW(st:St):D:=.tup [.tup (st.w.map D.int),.lst (st.ps.map D.int),.int st.h]
noncomputable def qG(st:St):D:=.tup [.tup (st.w.map D.int),.int (lst st.ps),.int st.h]
noncomputable def encP(st:St):D:=.tup [.tup (st.w.map D.int),.tup (st.ps.map D.int)]
theorem wI{st:St}{b:List Wy}:∀{a:List Wy}{i:Nat},mO st i (a++b)=mO st i a++mO st (i+a.length) b|[],i=>rfl|v::a,i=>by rw[List.cons_append,mO,mO,wI,List.length_cons,show i+1+a.length=i+(a.length+1)by omega];split<;>rfl
theorem Gn{ws:List Wy}{st:St}{i:Nat}{v:Wy}(e:ws[i]?=some v):mO st 0 (ws.take (i+1))=mO st 0 (ws.take i)++(if goes st v=true then[on st i v]else[]):=by obtain⟨hi,rfl⟩:=List.getElem?_eq_some_iff.mp e;rw[List.take_succ,e,wI];congr 1;rw[List.length_take,Nat.min_eq_left (by omega),Nat.zero_add];show(if goes st ws[i]=true then on st i ws[i]::mO st (i+1) []else mO st (i+1) [])=_;rfl
theorem vq{ps:List Int}(h:ps≠[]):at' (ps.map D.int) (-1)=some (.int (lst ps)):=by
 obtain⟨a,x,rfl⟩:∃a x,ps=a++[x]:=by
  rcases List.eq_nil_or_concat ps with z|⟨a,x,z⟩;.exact absurd z h
  .exact⟨a,x,by rw[z,List.concat_eq_append]⟩
 rw[List.map_append,qN];exact G4
theorem En{l:List St}:cm .ne (.lst (l.map uW)) (.lst [])=some (!l.isEmpty):=by
 show qK _ _=_;unfold qK;have h1:cH 8 (.lst (l.map uW))=true:=by
  show(l.map uW).all (cH 7)=true;rw[List.all_eq_true];intro d hd;obtain⟨p,_,rfl⟩:=List.mem_map.mp hd;show((p.w.map D.int).all (cH 5)&&((p.ps.map D.int).all (cH 5)&&(true&&true)))=true;have:∀S:List Int,(S.map D.int).all (cH 5)=true:=fun S=>by rw[List.all_eq_true];intro d hd;obtain⟨p,_,rfl⟩:=List.mem_map.mp hd;rfl
  rw[this,this];rfl
 have h2:cH 8 (.lst [])=true:=rfl;rw[h1,h2];cases l with|nil=>rfl|cons v ws=>rfl
theorem Df{c:Call}{x:Nat}{ρ:List Sl}:ev c (.pop x) ρ=match ρ[x]?with|some (.own b ds)=>lift (ds.getLast?.map .val) (ρ.set x (.own b ds.dropLast))|_=>.stuck:=by rw[ev]<;>rfl
theorem Ht{m:Int}{ws:List Wy}{fd wt:List St}{st:St}{L:List St}(hN:cF m ws)(hs:Vs m st)(hP:(fd++(wt++[st]).flatMap (ds ws)).Perm L):((fd++nx ws st)++(wt++nx ws st).flatMap (ds ws)).Perm L:=by
 refine List.Perm.trans ?_ hP;have h1:=xq hN (l:=nx ws st) fun s z=>(dh hN hs z).1;rw[List.flatMap_append,List.flatMap_append,List.append_assoc];refine List.Perm.append_left fd ?_;have e:[st].flatMap (ds ws)=(nx ws st).flatMap (A ws):=by simp[ds]
 rw[e];refine List.Perm.trans ?_ (h1.symm.append_left _);rw[<-List.append_assoc,<-List.append_assoc];exact(List.perm_append_comm).append_right _
theorem tY{m:Int}{ws:List Wy}{wt:List St}{st:St}(hN:cF m ws)(hs:Vs m st):((wt++nx ws st).flatMap (A ws)).length+1=((wt++[st]).flatMap (A ws)).length:=by
 rw[List.flatMap_append,List.flatMap_append,List.length_append,List.length_append];have:[st].flatMap (A ws)=st::(nx ws st).flatMap (A ws):=by simp[By hN hs]
 rw[this,List.length_cons];omega
inductive JLw(m:Int)(ws:List Wy)(st0:St)(M:Nat)(ρ:List Sl):Prop where|mk(fd wt:List St)(s4 s5 s6 s7 s8 s9:Sl)(q0:ρ=[.val false (fH m ws),.val false (.int 0),.own false (fd.map qG),.own false (wt.map uW),s4,s5,s6,s7,s8,s9])(q1:A6 (fr s4=true) (fr s5=true) (fr s6=true) (fr s7=true) (fr s8=true) (fr s9=true))(q2:(∀s∈wt,Vs m s))(q3:(fd++wt.flatMap (ds ws)).Perm (A ws st0))(q4:(wt.flatMap (A ws)).length=M)(q5:fd.length<=4000000)(q6:M<=4000000)
inductive JLi(m:Int)(ws:List Wy)(fd wt:List St)(st:St)(a4 a5 a6:Sl)(i:Nat)(ρ:List Sl):Prop where|mk(s7 s8 s9:Sl)(q0:ρ=[.val false (fH m ws),.val false (.int 0),.own false ((fd++mO st 0 (ws.take i)).map qG),.own false ((wt++mO st 0 (ws.take i)).map uW),a4,a5,a6,s7,s8,s9])(q1:A3 (fr s7=true) (fr s8=true) (fr s9=true))
theorem Mx{w n:Nat}{m:Int}{ws:List Wy}{Q:R->List Sl->Prop}(hw:5000000<=w)(hN:cF m ws)(k:∀fd:List St,fd.Perm (A ws ⟨[],[0],0⟩)->Q (.own (fd.map qG)) [.val false (fH m ws),.val false (.int 0)]):(run Γ w (n+1) 8 [.val false (fH m ws),.val false (.int 0)]).sat Q:=by
 have hn:=hN.len;have m0:=hN.m0;have v0:Vs m ⟨[],[0],0⟩:=⟨by simp,fun p hp=>by rw[List.mem_singleton.mp hp];omega,by simp,rfl⟩;have hA:=rW (ws:=ws) (st:=⟨[],[0],0⟩) hn;refine cC (d:=f8) rfl rfl (by decide) ?_;first|apply ak|apply aq
 simp[f8];apply ak;simp;apply ak;simp;refine jO (JLw m ws ⟨[],[0],0⟩) ?_ (k:=w) (m:=(A ws ⟨[],[0],0⟩).length) (by omega) ⟨[⟨[],[0],0⟩],[⟨[],[0],0⟩],.bC,.bC,.bC,.bC,.bC,.bC,rfl,⟨rfl,rfl,rfl,rfl,rfl,rfl⟩,by simpa using v0,?_,by simp,by simp,hA⟩
 . rintro M _⟨fd,wt,s4,s5,s6,s7,s8,s9,rfl,⟨h4,h5,h6,h7,h8,h9⟩,hV,hP,hM,hF,hM4⟩;rcases List.eq_nil_or_concat wt with rfl|⟨wt,st,rfl⟩;.have e0:cm .ne (.lst []) (.lst [])=some false:=rfl;simp[e0];apply ak;simp;exact k fd (by simpa using hP)
   . rw[List.concat_eq_append]at*;have e1:=En (l:=wt++[st]);rw[List.map_append]at e1;have hs:=hV st (by simp);have hsl:=hs.six hN.m1;have hwl:=hs.len;rw[List.flatMap_append,List.length_append]at hM;have hM2:(A ws st).length<=M:=by simp at hM;omega
     simp at e1;simp[e1];apply ak;simp[Df,uW,h4,h5,h6];apply ak;simp[show(ws.length:Int)<=1000000000 by omega];have hnx:mO st 0 ws=nx ws st:=rfl;have hnl:(nx ws st).length<=12:=Nat.le_trans jT hn;have hP2:=Ht hN hs hP;have hL2:=tY (wt:=wt) hN hs;rw[List.flatMap_append,List.flatMap_append,List.length_append,List.length_append,hM]at hL2;have hl3:=hP2.length_eq;rw[List.length_append,List.length_append]at hl3;have hwl3:wt.length<=4000000:=by
      have:∀l:List St,l.length<=(l.flatMap (A ws)).length:=fun l=>by induction l with|nil=>simp|cons x l ih=>
         rw[List.flatMap_cons,List.length_append,List.length_cons];have:0<(A ws x).length:=by unfold A;cases 6-x.ps.length<;>simp[al]
         omega
      have:=this wt;omega
     refine nQ (JLi m ws fd wt st (.val false (.tup (st.w.map D.int))) (.val false (.lst (st.ps.map D.int))) (.val false (.int st.h))) ?_ ?_ ⟨s7,s8,s9,by simp[mO],⟨h7,h8,h9⟩⟩
     . rintro i _ hi⟨s7,s8,s9,rfl,h7,h8,h9⟩;have e2:ws[i]?=some ws[i]:=by simp[hi]
       have hx1:=Gn (st:=st) e2;have hle:(mO st 0 (ws.take i)).length<=12:=Nat.le_trans jT (by rw[List.length_take];omega);generalize ws[i]=v at e2 hx1;generalize mO st 0 (ws.take i)=X at*;have rC:=vq hs.ne;have rE:=yE (S:=st.ps) (i:=v.t);simp[h7];apply ak;simp[vy e2,h8];apply ak;by_cases c1:v.s=lst st.ps
       . by_cases c2:0<v.r
         . by_cases c3:v.t∈st.ps
           . have hg:goes st v=false:=by unfold goes;simp[c3]
             have c4:st.ps.contains v.t=true:=List.contains_iff_mem.mpr c3;rw[c4]at rE;simp[Fj,oU,uV,rC,c1,c2,rE];rw[hg]at hx1;exact⟨.val false (.int i),.val false v.d,s9,by rw[hx1];simp,⟨rfl,rfl,h9⟩⟩
           . have hg:goes st v=true:=by unfold goes;simp[c1,c2,c3]
             have c4:st.ps.contains v.t=false:=by simpa using c3
             rw[c4]at rE;simp[Fj,oU,uV,rC,c1,c2,rE];apply ak;simp[oU,Xi,h9];refine⟨by show _<=16777216;omega,by show _<=16777216;omega,?_⟩;first|apply ak|apply aq
             simp[show wt.length+X.length<16777216 by omega];apply ak;simp[oU,show fd.length+X.length<16777216 by omega];rw[hg,if_pos rfl]at hx1;refine⟨.val false (.int i),.val false v.d,.val false (.tup [.tup (st.w.map D.int++[.int i]),.lst (st.ps.map D.int++[.int v.t]),.int (st.h+v.h)]),?_,⟨rfl,rfl,rfl⟩⟩;rw[hx1];simp[qG,uW,on,qN]
         . have hg:goes st v=false:=by unfold goes;simp[c2]
           simp[Fj,oU,uV,rC,c1,c2];rw[hg]at hx1;exact⟨.val false (.int i),.val false v.d,s9,by rw[hx1];simp,⟨rfl,rfl,h9⟩⟩
       . have hg:goes st v=false:=by unfold goes;simp[c1]
         simp[Fj,oU,uV,rC,c1];rw[hg]at hx1;exact⟨.val false (.int i),.val false v.d,s9,by rw[hx1];simp,⟨rfl,rfl,h9⟩⟩
     . rintro _⟨s7,s8,s9,rfl,h7,h8,h9⟩;rw[List.take_length,hnx];simp only[sQ,fQ];refine⟨((wt++nx ws st).flatMap (A ws)).length,?_,fd++nx ws st,wt++nx ws st,_,_,_,s7,s8,s9,rfl,⟨rfl,rfl,rfl,h7,h8,h9⟩,fun s z=>?_,hP2,rfl,?_,?_⟩;.rw[List.flatMap_append,List.length_append];omega
       . rcases List.mem_append.mp z with z|z;.exact hV s (by simp[z])
         .exact(dh hN hs z).1
       .rw[List.length_append];omega
       .rw[List.flatMap_append,List.length_append];omega
 .have:=By hN v0;rw[this];show(_::([(⟨[],[0],0⟩:St)].flatMap (ds ws))).Perm _;simp[ds]
end T
end
section
namespace T
open HH
noncomputable def mW(ks:List Nat):List Int:=ks.map fun(k:Nat)=>(k:Int)
noncomputable def jF(p:Int):Nat->List Wy->List Nat|_,[]=>[]|i,w::ws=>if w.s=p then i::jF p (i+1) ws else jF p (i+1) ws
noncomputable def outD(p:Int):D->Option D|.tup [i,.tup (.int s::_)]=>if s==p then some i else none|_=>none
noncomputable def Eu(ws:List Wy):List D:=(ws.map Wy.d).mapIdx fun i d=>D.tup [.int (i:Int),d]
theorem G9{ds:List D}{d:D}(h:d∈ds.mapIdx fun i d=>D.tup [.int (i:Int),d]):∃(i:Nat)(e:D),d=.tup [.int i,e]/\e∈ds:=by rw[List.mem_mapIdx]at h;obtain⟨i,hi,rfl⟩:=h;exact⟨i,_,rfl,List.getElem_mem hi⟩
theorem Av{ws:List Wy}{d:D}(h:d∈Eu ws):∃(i:Nat)(w:Wy),d=.tup [.int i,w.d]/\w∈ws:=by obtain⟨i,e,rfl,he⟩:=G9 h;obtain⟨w,hw,rfl⟩:=List.mem_map.mp he;exact⟨i,w,rfl,hw⟩
theorem tL(f:D->Option D)(sel:Nat->List Wy->List Nat)(h0:∀i,sel i []=[])(h1:∀(i:Nat)(w:Wy)(ws:List Wy),(match f (.tup [.int (i:Int),w.d])with|some x=>x=.int (i:Int)/\sel i (w::ws)=i::sel (i+1) ws|none=>sel i (w::ws)=sel (i+1) ws)):∀(ws:List Wy)(i:Nat),(((ws.map Wy.d).mapIdx fun j d=>D.tup [.int ((i+j:Nat):Int),d]).filterMap f)=(mW (sel i ws)).map D.int
 |[],i=>by rw[h0];rfl|w::ws,i=>by
   rw[List.map_cons,List.mapIdx_cons,List.filterMap_cons];have ih:=tL f sel h0 h1 ws (i+1);have e:(fun(j:Nat)(d:D)=>D.tup [.int ((i+(j+1):Nat):Int),d])=fun j d=>D.tup [.int ((i+1+j:Nat):Int),d]:=by funext j d;rw[show i+(j+1)=i+1+j by omega]
   rw[e,ih];have:=h1 i w ws;rw[Nat.add_zero];cases hf:f (.tup [.int (i:Int),w.d])with|none=>rw[hf]at this;simp only at this;rw[this]|some x=>rw[hf]at this;simp only at this;rw[this.2,this.1];rfl
theorem Hu{p:Int}{ws:List Wy}:(Eu ws).filterMap (outD p)=(mW (jF p 0 ws)).map D.int:=by have:=tL (outD p) (jF p) (fun _=>rfl) (fun i w ws=>by by_cases h:w.s=p<;>simp[outD,Wy.d,jF,h]) ws 0;simpa[Eu]using this
inductive F2o(a b:Sl)(ρ:List Sl):Prop where|mk(s:Sl)(t:Sl)(q0:ρ=[a,b,s,t])(q1:fr s=true)(q2:fr t=true)
theorem Gk{w n:Nat}{m p:Int}{ws:List Wy}{Q:R->List Sl->Prop}(h:cF m ws)(k:Q (.own ((mW (jF p 0 ws)).map D.int)) [.val false (fH m ws),.val false (.int p)]):(run Γ w (n+1) 0 [.val false (fH m ws),.val false (.int p)]).sat Q:=by
 refine cC (d:=f0) rfl rfl (by decide) ?_;first|apply ak|apply aq
 have hl:=h.len;have h1:ws.length<=lim:=by show _<=16777216;omega
 simp[f0,h1];refine pB (F2o _ _) (outD p) ⟨.bC,.bC,rfl,rfl,rfl⟩ ?_ ?_
 . rintro d hd _⟨s,t,rfl,hs,ht⟩;obtain⟨i,w,rfl,hw⟩:=Av hd;by_cases e:w.s=p;.simp[hs,ht,Wy.d,outD,e];exact⟨_,_,rfl,rfl,rfl⟩
   .simp[hs,ht,Wy.d,outD,e];exact⟨_,_,rfl,rfl,rfl⟩
 .rintro _⟨s,t,rfl,hs,ht⟩;rw[show((List.map Wy.d ws).mapIdx fun i d=>D.tup [.int (i:Int),d])=Eu ws from rfl,Hu];generalize(mW (jF p 0 ws)).map D.int=L at*;simp;exact k
theorem um{p:Int}:∀(ws:List Wy)(i:Nat),(jF p i ws).length<=ws.length|[],_=>Nat.le_refl _|w::ws,i=>by have:=um (p:=p) ws (i+1);rw[jF];split<;>simp<;>omega
noncomputable def Qn(ws:List Wy)(st:St):List Nat->List St|[]=>[]|j::us=>(match ws[j]?with|some v=>if(decide (0<v.r)&&!st.ps.contains v.t)=true then[on st j v]else[]|none=>[])++Qn ws st us
theorem vf{ws:List Wy}{st:St}:∀{b:List Wy}{i:Nat},ws.drop i=b->Qn ws st (jF (lst st.ps) i b)=mO st i b
 |[],i,_=>rfl|v::b,i,h=>by
   have e:ws[i]?=some v:=by have:=List.getElem?_drop (xs:=ws) (i:=i) (j:=0);rw[h]at this;simpa using this.symm
   have hb:ws.drop (i+1)=b:=by rw[<-List.drop_drop,h];rfl
   rw[jF,mO];by_cases c:v.s=lst st.ps
   . have hg:goes st v=(decide (0<v.r)&&!st.ps.contains v.t):=by unfold goes;rw[decide_eq_true c];rfl
     rw[if_pos c,Qn,e,vf hb,hg];dsimp only;split<;>rfl
   . have hg:goes st v=false:=by unfold goes;rw[decide_eq_false c];rfl
     rw[if_neg c,vf hb,hg];rfl
theorem pQ{ws:List Wy}{p:Int}:∀{b:List Wy}{i:Nat},i+b.length=ws.length->∀j∈jF p i b,j<ws.length
 |[],i,_,j,h=>by cases h|v::b,i,hl,j,h=>by
   rw[List.length_cons]at hl;rw[jF]at h;split at h
   . rcases List.mem_cons.mp h with rfl|h;.omega
     .exact pQ (by omega) j h
   .exact pQ (by omega) j h
inductive JSo(ws:List Wy)(st:St)(a0 a1 a2:Sl)(r:List D)(ρ:List Sl):Prop where|mk(X:List St)(us:List Nat)(s4 s5:Sl)(q0:ρ=[a0,a1,a2,.own false (X.map encP),s4,s5])(q1:(fr s4=true/\fr s5=true))(q2:r=(mW us).map D.int)(q3:(∀j∈us,j<ws.length))(q4:X++Qn ws st us=nx ws st)(q5:X.length+us.length<=12)
theorem yF{w n:Nat}{m:Int}{ws:List Wy}{st:St}{Q:R->List Sl->Prop}(hN:cF m ws)(hs:Vs m st)(k:Q (.own ((nx ws st).map encP)) [.val false (fH m ws),.val false (.tup (st.w.map D.int)),.val false (.tup (st.ps.map D.int))]):(run Γ w (n+2) 1 [.val false (fH m ws),.val false (.tup (st.w.map D.int)),.val false (.tup (st.ps.map D.int))]).sat Q:=by
 have hn:=hN.len;have hsl:=hs.six hN.m1;have hwl:=hs.len;have rC:=vq hs.ne;refine cC (d:=f1) rfl rfl (by decide) ?_;first|apply ak|apply aq
 simp[f1];apply ak;simp[rC];refine Gk hN ?_;simp;have aal:=vf (ws:=ws) (st:=st) (b:=ws) (i:=0) rfl;have hlt:=pQ (ws:=ws) (p:=lst st.ps) (b:=ws) (i:=0) (by omega);have hle:=um (p:=lst st.ps) ws 0;generalize jF (lst st.ps) 0 ws=us0 at*;refine eV (JSo ws st _ _ _) ?_ ?_ ⟨[],us0,.bC,.bC,rfl,⟨rfl,rfl⟩,rfl,hlt,aal,by simp;omega⟩;.rintro d r _⟨X,us,s4,s5,rfl,⟨h4,h5⟩,hr,hu,hX,hl⟩;cases us with|nil=>cases hr|cons j us=>
     obtain⟨rfl,rfl⟩:d=.int (j:Int)/\r=(mW us).map D.int:=by simpa[mW]using hr
     have hj:=hu j (by simp);have e:ws[j]?=some ws[j]:=by simp[hj]
     generalize ws[j]=v at e;rw[Qn,e]at hX;dsimp only at hX;rw[List.length_cons]at hl;have rE:=yc (S:=st.ps) (i:=v.t);simp[h4];apply ak;simp[vy e,h5];apply ak;by_cases c2:0<v.r;.cases c3:st.ps.contains v.t with|true=>rw[c3]at rE hX;simp[oU,uV,c2,rE];simp at hX;exact⟨X,us,.val false (.int j),.val false v.d,rfl,⟨rfl,rfl⟩,rfl,fun j h=>hu j (by simp[h]),hX,by omega⟩|false=>
         rw[c3]at rE hX;simp[oU,uV,c2,rE];apply ak;simp[oU,show X.length<16777216 by omega];refine⟨by show _<=16777216;omega,by show _<=16777216;omega,X++[on st j v],us,.val false (.int j),.val false v.d,?_,⟨rfl,rfl⟩,rfl,fun j h=>hu j (by simp[h]),?_,by simp;omega⟩;.simp[encP,on]
         .rw[List.append_assoc];simpa[c2]using hX
     .simp[oU,uV,c2];simp[c2]at hX;exact⟨X,us,.val false (.int j),.val false v.d,rfl,⟨rfl,rfl⟩,rfl,fun j h=>hu j (by simp[h]),hX,by omega⟩
 . rintro _⟨X,us,s4,s5,rfl,_,hr,hu,hX,hl⟩;have:us=[]:=by cases us with|nil=>rfl|cons _ _=>cases hr
   subst this;rw[Qn,List.append_nil]at hX;first|apply ak|apply aq
   simp;rw[hX];exact k
end T
end
section
namespace T
open HH
noncomputable def tupI(w:List Int):D:=.tup (w.map D.int)
noncomputable abbrev st1:S:=.asg 3 (.pop 2)
noncomputable abbrev st2:S:=.ifs (.cmp .eq (.idx (.idx (.var 3) (.con (.int 1))) (.neg (.con (.int 1)))) (.bin .sub (.idx (.var 0) (.con (.int 0))) (.con (.int 1)))) [.app 1 (.idx (.var 3) (.con (.int 0)))] [.vO 2 (.call 1 [.var 0,.idx (.var 3) (.con (.int 0)),.idx (.var 3) (.con (.int 1))])]
noncomputable abbrev st3:S:=.ifs (.cmp .gt (.blt .len [.var 1]) (.glob "MOST_WALKS" (.int 60))) [.vP 2] []
noncomputable abbrev WS(m:Int)(ws:List Wy)(fd:List (List Int))(wt:List St)(s3:Sl):List Sl:=[.val false (fH m ws),.own false (fd.map tupI),.own false (wt.map encP),s3]
structure Iv(m:Int)(ws:List Wy)(L:List (List Int))(fd:List (List Int))(wt:List St)(M:Nat):Prop where
 vs:∀s∈wt,Vs m s
 pm:(fd++wt.flatMap (E ws (m-1))).Perm L
 ln:(wt.flatMap (A ws)).length=M
 le:M<=4000000
theorem Iw{ws:List Wy}{x:St}:0<(A ws x).length:=by unfold A;cases 6-x.ps.length<;>simp[al]
theorem Iv.wl{m:Int}{ws:List Wy}{L fd:List (List Int)}{wt:List St}{M:Nat}(h:Iv m ws L fd wt M):wt.length<=M:=by
 have:∀l:List St,l.length<=(l.flatMap (A ws)).length:=fun l=>by induction l with|nil=>simp|cons x l ih=>rw[List.flatMap_cons,List.length_append,List.length_cons];have:=Iw (ws:=ws) (x:=x);omega
 have:=this wt;have:=h.ln;omega
inductive NXt(m:Int)(ws:List Wy)(L:List (List Int))(M:Nat)(ρ:List Sl):Prop where|mk(fd':List (List Int))(Jv:List St)(Jw:Sl)(M':Nat)(q0:ρ=WS m ws fd' Jv Jw)(q1:fr Jw=true)(q2:Iv m ws L fd' Jv M')(q3:M'<M)(q4:fd'.length<=61)
theorem Dp{w n M:Nat}{m:Int}{ws:List Wy}{L fd:List (List Int)}{wt:List St}{st:St}{s3:Sl}(hN:cF m ws)(h:Iv m ws L fd (wt++[st]) M)(hf:fd.length<=60)(h3:fr s3=true):(cG (run Γ w (n+2)) w [st1,st2] (WS m ws fd (wt++[st]) s3)).sat fun fl ρ=>fl=.next/\NXt m ws L M ρ:=by
 have hs:=h.vs st (by simp);have hsl:=hs.six hN.m1;have rC:=vq hs.ne;have hwl:=h.wl;have hle:=h.le;have hln:=h.ln;rw[List.length_append]at hwl;rw[List.flatMap_append,List.length_append]at hln;have hpos:=Iw (ws:=ws) (x:=st);have e1:[st].flatMap (A ws)=A ws st:=by simp
 rw[e1]at hln;first|apply ak|apply aq
 simp[Df,encP,h3];apply ak;by_cases c:lst st.ps=m-1
 . simp[rC,c];first|apply ak|apply aq
   simp[show fd.length<16777216 by omega];refine⟨fd++[st.w],wt,.val false (.tup [.tup (st.w.map D.int),.tup (st.ps.map D.int)]),(wt.flatMap (A ws)).length,by simp[tupI],rfl,⟨fun s z=>h.vs s (by simp[z]),?_,rfl,by omega⟩,by omega,by simp;omega⟩;have:=h.pm;rw[List.flatMap_append,show[st].flatMap (E ws (m-1))=[st.w]by simp[Gq c]]at this;refine List.Perm.trans ?_ this;rw[List.append_assoc];exact List.perm_append_comm.append_left fd
 . have hnl:(nx ws st).length<=12:=Nat.le_trans jT hN.len;have hl2:=tY (wt:=wt) hN hs;rw[h.ln]at hl2;simp[rC,c];apply ak;simp;refine yF hN hs ?_;simp[show wt.length+(nx ws st).length<=16777216 by omega];refine⟨fd,wt++nx ws st,.val false (.tup [.tup (st.w.map D.int),.tup (st.ps.map D.int)]),((wt++nx ws st).flatMap (A ws)).length,by simp,rfl,⟨fun s z=>?_,?_,rfl,by omega⟩,by omega,by omega⟩
   . rcases List.mem_append.mp z with z|z;.exact h.vs s (by simp[z])
     .exact(dh hN hs z).1
   .have:=h.pm;rw[List.flatMap_append,show[st].flatMap (E ws (m-1))=(nx ws st).flatMap (E ws (m-1))by simp[Ca hN hs c]]at this;rw[List.flatMap_append];exact this
theorem CP{test:List Sl->Res Bool}{body:List Sl->Res Fl}{bx:List Sl->Option (Nat×List Sl)}(J:Nat->List Sl->Prop)(h:∀M ρ,J M ρ->∃ρ1,test ρ=.ok true ρ1/\((body ρ1=.stuck/\∃ρ2,bx ρ1=some (2,ρ2))\/(bx ρ1=none/\∃ρ2 M',body ρ1=.ok .next ρ2/\M'<M/\J M' ρ2))):∀(k M:Nat)(ρ:List Sl),M<k->J M ρ->lO test body k ρ=.stuck/\∃ρ2,oV test body bx k ρ=some (2,ρ2)
 |0,M,ρ,hk,_=>by omega|k+1,M,ρ,hk,hj=>by
   obtain⟨ρ1,t1,hor⟩:=h M ρ hj;rcases hor with⟨b1,ρ2,b2⟩|⟨b1,ρ2,M',b2,hM,hj2⟩
   . refine⟨?_,ρ2,?_⟩;.rw[lO,t1];show(if true=true then(body ρ1).bind _ else Res.ok Fl.next ρ1)=_;rw[if_pos rfl,b1];rfl
     .rw[oV,t1];dsimp only;rw[b2]
   . obtain⟨g1,ρ3,g2⟩:=CP J h k M' ρ2 (by omega) hj2;refine⟨?_,ρ3,?_⟩;.rw[lO,t1];show(if true=true then(body ρ1).bind _ else Res.ok Fl.next ρ1)=_;rw[if_pos rfl,b2];exact g1
     .rw[oV,t1];dsimp only;rw[b1];dsimp only;rw[b2];exact g2
theorem tD{α β:Type}{o:Res α}{f:α->List Sl->Res β}{b:β}{ρ:List Sl}(h:o.bind f=.ok b ρ):∃a ρ1,o=.ok a ρ1/\f a ρ1=.ok b ρ:=by cases o with|ok a ρ1=>exact⟨a,ρ1,rfl,h⟩|exc _ _=>cases h|stuck=>cases h
theorem Jd{c:Call}{n:Nat}{s1 s2:S}{r:List S}{ρ ρ2:List Sl}(h:cG c n [s1,s2] ρ=.ok .next ρ2)(x1:∀ρ,oK c n s1 ρ=none)(x2:∀ρ,oK c n s2 ρ=none):cG c n (s1::s2::r) ρ=cG c n r ρ2/\cU c n (s1::s2::r) ρ=cU c n r ρ2:=by rw[cG]at h;obtain⟨fl,ρ1,e1,h⟩:=tD h;cases fl with
 |next=>
   dsimp only at h;rw[cG]at h;obtain⟨fl,ρ3,e2,h⟩:=tD h;cases fl with|next=>
     dsimp only at h;rw[cG]at h;cases h;refine⟨?_,?_⟩;.rw[cG,e1];show cG c n (s2::r) ρ1=_;rw[cG,e2];rfl
     .rw[cU,x1];dsimp only;rw[e1];dsimp only;rw[cU,x2];dsimp only;rw[e2]|_=>cases h
 |_=>cases h
end T
end
section
namespace T
open HH
theorem x_1{c:Call}{n:Nat}{ρ:List Sl}:oK c n st1 ρ=none:=by rw[oK];rfl
theorem x_2{c:Call}{n:Nat}{ρ:List Sl}:oK c n st2 ρ=none:=by
 have ha:∀ρ,cU c n [.app 1 (.idx (.var 3) (.con (.int 0)))] ρ=none:=fun ρ=>by
  rw[cU];have:oK c n (.app 1 (.idx (.var 3) (.con (.int 0)))) ρ=none:=by rw[oK]<;>simp
  rw[this];dsimp only;split;.rw[cU]
  .rfl
 have hb:∀ρ,cU c n [.vO 2 (.call 1 [.var 0,.idx (.var 3) (.con (.int 0)),.idx (.var 3) (.con (.int 1))])] ρ=none:=fun ρ=>by
  rw[cU];have:oK c n (.vO 2 (.call 1 [.var 0,.idx (.var 3) (.con (.int 0)),.idx (.var 3) (.con (.int 1))])) ρ=none:=by rw[oK]<;>simp
  rw[this];dsimp only;split;.rw[cU]
  .rfl
 rw[oK];split
 . split;.exact ha _
   .exact hb _
 .rfl
inductive VG(m:Int)(ws:List Wy)(L:List (List Int))(M:Nat)(ρ:List Sl):Prop where|mk(fd:List (List Int))(wt:List St)(s3:Sl)(q0:ρ=WS m ws fd wt s3)(q1:fr s3=true)(q2:Iv m ws L fd wt M)(q3:fd.length<=60)
theorem VN{m:Int}{ws:List Wy}(hN:cF m ws):Vs m ⟨[],[0],0⟩:=⟨by simp,fun p hp=>by rw[List.mem_singleton.mp hp];have:=hN.m0;omega,by simp,rfl⟩
theorem Iv.zero{m:Int}{ws:List Wy}(hN:cF m ws):Iv m ws (E ws (m-1) ⟨[],[0],0⟩) [] [⟨[],[0],0⟩] (A ws ⟨[],[0],0⟩).length:=⟨fun s z=>by rw[List.mem_singleton.mp z];exact VN hN,by simp,by simp,rW hN.len⟩
theorem qp{L:List (List Int)}(hl:L.length<=16777216)(h:∀w∈L,w≠[]):sortable (L.map tupI)=true:=by
 have:(L.map tupI).all nj=true:=by rw[List.all_eq_true];intro x hx;obtain⟨p,hp,rfl⟩:=List.mem_map.mp hx;have hne:=h p hp;cases p with|nil=>exact absurd rfl hne|cons a p=>show((a::p).map D.int).all dC=true;rw[List.all_eq_true];intro d hd;obtain⟨i,_,rfl⟩:=List.mem_map.mp hd;rfl
 simp only[sortable,List.length_map,this,Bool.or_true,Bool.and_true,decide_eq_true_eq];omega
theorem tR{a b:List (List Int)}(p:a.Perm b)(hb:sortable (b.map tupI)=true):j5 (a.map tupI)=j5 (b.map tupI):=nH hb ((ju _).trans (p.map tupI)) (mU _)
@[simp]theorem Mp{ds:List D}:blt .sorted [.lst ds]=if sortable ds=true then some (.own (j5 ds))else none:=rfl
theorem xK{m:Int}{ws:List Wy}(hN:cF m ws):∀w∈E ws (m-1) ⟨[],[0],0⟩,w≠[]:=fun w hw=>by
 have m0:=hN.m0;have h0:lst [0]≠m-1:=by show(0:Int)≠m-1;omega
 rw[Ca hN (VN hN) h0]at hw;obtain⟨s,hs,hw⟩:=List.mem_flatMap.mp hw;have h1:=dh hN (VN hN) hs;have h6:=h1.1.six hN.m1;exact RZ hN (6-s.ps.length) h1.1 (by omega) h1.2.2.2.2 w hw
theorem Sv{w n:Nat}{m:Int}{ws:List Wy}{Q:R->List Sl->Prop}(hw:5000000<=w)(hN:cF m ws)(hL:(E ws (m-1) ⟨[],[0],0⟩).length<=60)(k:Q (.own (j5 ((E ws (m-1) ⟨[],[0],0⟩).map tupI))) [.val false (fH m ws)]):(run Γ w (n+3) 2 [.val false (fH m ws)]).sat Q:=by
 have hA:=rW (ws:=ws) (st:=⟨[],[0],0⟩) hN.len;refine cC (d:=f2) rfl rfl (by decide) ?_;first|apply ak|apply aq
 simp[f2];apply ak;simp;apply ak;simp;refine jO (VG m ws (E ws (m-1) ⟨[],[0],0⟩)) ?_ (k:=w) (m:=(A ws ⟨[],[0],0⟩).length) (by omega) ⟨[],[⟨[],[0],0⟩],.bC,rfl,rfl,.zero hN,by simp⟩;rintro M _⟨fd,wt,s3,rfl,h3,hI,hf⟩;rcases List.eq_nil_or_concat wt with rfl|⟨wt,st,rfl⟩
 . have hP:fd.Perm (E ws (m-1) ⟨[],[0],0⟩):=by simpa using hI.pm
   have hso:=qp (L:=E ws (m-1) ⟨[],[0],0⟩) (by omega) (xK hN);have N5:=qp (L:=fd) (by omega) fun w z=>xK hN w (hP.mem_iff.mp z);rw[<-tR hP hso]at k;simp;apply ak;simp[N5];exact k
 . rw[List.concat_eq_append]at*;obtain⟨fl,ρ2,e,rfl,fd',Jv,Jw,M',rfl,h3',hI',hM',hf'⟩:=sat_iff.mp (Dp (w:=w) (n:=n) hN hI hf h3);have hf2:fd'.length<=60:=by have:=hI'.pm.length_eq;rw[List.length_append]at this;omega
   have e2:=(Jd (r:=[st3]) e (fun _=>x_1) (fun _=>x_2)).1;have hl:0<(wt++[st]).length:=by simp
   generalize wt++[st]=wt2 at*;simp[hl];show Res.sat _ (cG _ _ (st1::st2::[st3]) _);rw[e2];first|apply ak|apply aq
   simp[show ¬(60:Int)<(fd'.length:Int)by omega];exact⟨M',hM',fd',Jv,Jw,rfl,h3',hI',hf2⟩
theorem Rx{w n:Nat}{m:Int}{ws:List Wy}(hw:5000000<=w)(hN:cF m ws)(hL:60<(E ws (m-1) ⟨[],[0],0⟩).length):∃args,run Γ w (n+3) 2 [.val false (fH m ws)]=.exc 2 args:=by
 have hA:=rW (ws:=ws) (st:=⟨[],[0],0⟩) hN.len;have key:∀M ρ,VG m ws (E ws (m-1) ⟨[],[0],0⟩) M ρ->∃ρ1,fO (ev (run Γ w (n+2)) (.cmp .gt (.blt .len [.var 2]) (.con (.int 0)))) ρ=.ok true ρ1/\((cG (run Γ w (n+2)) w [st1,st2,st3] ρ1=.stuck/\∃ρ2,cU (run Γ w (n+2)) w [st1,st2,st3] ρ1=some (2,ρ2))\/(cU (run Γ w (n+2)) w [st1,st2,st3] ρ1=none/\∃ρ2 M',cG (run Γ w (n+2)) w [st1,st2,st3] ρ1=.ok .next ρ2/\M'<M/\VG m ws (E ws (m-1) ⟨[],[0],0⟩) M' ρ2)):=by
  rintro M _⟨fd,wt,s3,rfl,h3,hI,hf⟩;have hwt:0<wt.length:=by cases wt with|nil=>have:=hI.pm.length_eq;simp at this;omega|cons _ _=>simp
  refine⟨WS m ws fd wt s3,by simp[fO,hwt],?_⟩;rcases List.eq_nil_or_concat wt with rfl|⟨wt,st,rfl⟩;.simp at hwt
  . rw[List.concat_eq_append]at*;obtain⟨fl,ρ2,e,rfl,fd',Jv,Jw,M',rfl,h3',hI',hM',hf'⟩:=sat_iff.mp (Dp (w:=w) (n:=n) hN hI hf h3);obtain⟨e2,e3⟩:=Jd (r:=[st3]) e (fun _=>x_1) (fun _=>x_2);rw[e2,e3];by_cases c:60<(fd'.length:Int)
    . left;refine⟨?_,WS m ws fd' Jv Jw,?_⟩;.simp[cG,c]
      .simp[cU,oK,fO,c]
    . right;refine⟨?_,WS m ws fd' Jv Jw,M',?_,hM',fd',Jv,Jw,rfl,h3',hI',by omega⟩;.simp[cU,oK,fO,c,cG]
      .simp[cG,c]
 obtain⟨z1,ρ2,z2⟩:=CP (VG m ws (E ws (m-1) ⟨[],[0],0⟩)) key w (A ws ⟨[],[0],0⟩).length (WS m ws [] [⟨[],[0],0⟩] .bC) (by omega) ⟨[],[⟨[],[0],0⟩],.bC,rfl,rfl,.zero hN,by simp⟩;have ew:WS m ws [] [⟨[],[0],0⟩] .bC=[.val false (fH m ws),.own false [],.own false [.tup [.tup [],.tup [.int 0]]],.bC]:=rfl;rw[ew]at z1 z2;rw[tV (d:=⟨1,4,[.asg 1 (.lst []),.asg 2 (.lst [.tup [.tup [],.tup [.con (.int 0)]]]),.whl (.cmp .gt (.blt .len [.var 2]) (.con (.int 0))) [st1,st2,st3],.ret (.blt .sorted [.var 1])]⟩) rfl];generalize([st1,st2,st3]:List S)=B at z1 z2 ⊢;have z3:yd (run Γ w (n+2)) w (.cmp .gt (.blt .len [.var 2]) (.con (.int 0))) B w [.val false (fH m ws),.own false [],.own false [.tup [.tup [],.tup [.int 0]]],.bC]=.stuck:=z1;unfold enter;simp[cG,cU,oK,uo,qx,z3,z2]
end T
end
section
namespace T
open HH
theorem CW{w n:Nat}{m:Int}{ws:List Wy}{Q:R->List Sl->Prop}(hw:5000000<=w)(hN:cF m ws)(q1:60<(E ws (m-1) ⟨[],[0],0⟩).length->∀a,Q (.val (.str "many")) [a])(q2:(E ws (m-1) ⟨[],[0],0⟩).length<=60->∀a,Q (.own (j5 ((E ws (m-1) ⟨[],[0],0⟩).map tupI))) [a]):(run Γ w (n+4) 10 [.val false (fH m ws)]).sat Q:=by
 refine cC (d:=U6) rfl rfl (by decide) ?_;first|apply ak|apply aq
 simp[U6];apply ak;by_cases c:(E ws (m-1) ⟨[],[0],0⟩).length<=60;.obtain⟨r,ρ,e1,rfl,rfl⟩:=sat_iff.mp (Sv (w:=w) (n:=n) (Q:=fun r ρ=>r=.own (j5 ((E ws (m-1) ⟨[],[0],0⟩).map tupI))/\ρ=[.val false (fH m ws)]) hw hN c ⟨rfl,rfl⟩);generalize j5 ((E ws (m-1) ⟨[],[0],0⟩).map tupI)=X at*;rw[ex];simp[cG,gK,bj,bY,dU,aP,e1];exact q2 c _
 .obtain⟨args,e1⟩:=Rx (w:=w) (n:=n) hw hN (by omega);rw[ex];simp[cG,cU,oK,uo,qx,gK,bj,e1];refine⟨fun _ _ _=>?_,rfl,rfl,rfl⟩;simp[LK,cG];exact q1 (by omega) _
noncomputable def RS:List (List Int):=[[3,3,3,3],[3,3,3,2],[4,3,3,2],[2,2,2,2,2],[3,3,2,2,2],[4,4,4],[2,3,4,2]]
theorem R7:∀r∈RS,(3<=r.length/\r.length<=5)/\(∀x∈r,1<=x/\x<=4)/\r.sum<=12:=by decide
theorem Te{i:Int}(h0:0<=i)(h1:i<7):∃r∈RS,at' (RS.map fun r=>D.lst (r.map D.int)) i=some (.lst (r.map D.int)):=by
 have hk:i.toNat<RS.length:=by show _<7;omega
 refine⟨RS[i.toNat],List.getElem_mem hk,?_⟩;rw[nq h0 (by show i<7;omega)];simp[hk]
theorem JD{ws:List Wy}{a b:Option Int}:cut (ws.map Wy.d) a b=(cut ws a b).map Wy.d:=by unfold cut;simp
theorem Vq{α:Type}{xs:List α}{lo hi:Option Int}{x:α}(h:x∈cut xs lo hi):x∈xs:=by unfold cut at h;exact List.mem_of_mem_drop (List.mem_of_mem_take h)
theorem Ef{cs:List Int}:((cs.map D.int).mapIdx fun i d=>D.tup [.int (i:Int),d])=(List.range cs.length).map fun(i:Nat)=>D.tup [.int (i:Int),.int (cs.getD i 0)]:=by
 refine List.ext_getElem (by simp) fun i h1 h2=>?_;have:i<cs.length:=by simpa using h2
 simp[this]
noncomputable def sm(cs:List Int)(i:Nat):Int:=(cs.take i).sum
theorem mL{cs:List Int}{i:Nat}(h:i<cs.length):sm cs (i+1)=sm cs i+cs.getD i 0:=by unfold sm;rw[List.take_succ,List.sum_append];simp[h]
noncomputable def WyP(m:Int)(d:D):Prop:=∃v:Wy,d=v.d/\v.Ok m
theorem wys{m:Int}:∀{xs:List D},(∀x∈xs,WyP m x)->∃ws:List Wy,xs=ws.map Wy.d/\∀v∈ws,v.Ok m|[],_=>⟨[],rfl,by simp⟩|x::xs,h=>by obtain⟨v,rfl,h1⟩:=h x (by simp);obtain⟨ws,rfl,h2⟩:=wys (m:=m) (xs:=xs) fun y hy=>h y (by simp[hy]);exact⟨v::ws,rfl,fun u hu=>by
    rcases List.mem_cons.mp hu with rfl|hu;.exact h1
    .exact h2 u hu⟩
theorem Wz{ds:List D}{i:Int}{x:Nat}:Lp (.lst ds) (part (.var x) (.int i)) (part (.con .non) .non)=some (.own (cut ds (some i) none)):=rfl
theorem XH{ds:List D}{i:Int}{x:Nat}:Lp (.lst ds) (part (.con .non) .non) (part (.var x) (.int i))=some (.own (cut ds none (some i))):=rfl
theorem YQ{v:Wy}:Lp v.d (part (.con .non) .non) (part (.con (.int 2)) (.int 2))=some (.val (.tup [.int v.s,.int v.t])):=rfl
inductive JFu(m:Int)(a1:Sl)(cs:List Int)(i:Nat)(ρ:List Sl):Prop where|mk(y:Int)(ws:List Wy)(s4 s5:Sl)(q0:ρ=[.own true [.int y],a1,.val false (.lst (cs.map D.int)),.own false (ws.map Wy.d),s4,s5,.bC,.bC])(q1:(fr s4=true/\fr s5=true))(q2:(∀v∈ws,v.Ok m))(q3:(ws.length:Int)=sm cs i)
inductive JFc(a1:Sl)(cs:List Int)(ws:List Wy)(a4 a5:Sl)(ρ:List Sl):Prop where|mk(y:Int)(s8:Sl)(q0:ρ=[.own true [.int y],a1,.val false (.lst (cs.map D.int)),.own false (ws.map Wy.d),a4,a5,.bC,.bC,s8])(q1:fr s8=true)
inductive MFa(m:Int)(cs:List Int)(s5:Sl)(ρ:List Sl):Prop where|mk(y:Int)(ws:List Wy)(s4:Sl)(q0:ρ=[.own true [.int y],.own false (RS.map fun r=>D.lst (r.map D.int)),.val false (.lst (cs.map D.int)),.own false (ws.map Wy.d),s4,s5,.bC,.bC])(q1:(∀v∈ws,v.Ok m))(q2:1<=ws.length)(q3:ws.length<=12)
inductive MFb(m:Int)(A1:List D)(cs:List Int)(s4 s5 s6:Sl)(ρ:List Sl):Prop where|mk(y:Int)(us:List Wy)(s7:Sl)(q0:ρ=[.own true [.int y],.own false A1,.val false (.lst (cs.map D.int)),.own false (us.map Wy.d),s4,s5,s6,s7])(q1:(∀v∈us,v.Ok m))(q2:us.length<=12)
theorem zL{w n:Nat}{x:Int}{Q:R->List Sl->Prop}(k:∀(m:Int)(ws:List Wy)(y:Int),cF m ws->Q (.val (fH m ws)) [.own true [.int y]]):(run Γ w (n+2) 9 [.own true [.int x]]).sat Q:=by
 refine cC (d:=f9) rfl rfl (by decide) ?_;first|apply ak|apply aq
 simp[f9];apply ak;simp;refine aL (by decide) (by decide) fun d y d0 d1=>?_;obtain⟨cs,hcs,ec⟩:=Te d0 d1;obtain⟨⟨l3,l5⟩,hx,hsum⟩:=R7 cs hcs;simp only[RS,List.map_cons,List.map_nil]at ec;simp[ec];apply ak;simp;apply ak;simp;rw[Ef];generalize hm:(cs.length:Int)+1=m;have hgd:∀i,i<cs.length->1<=cs.getD i 0/\cs.getD i 0<=4:=fun i hi=>by
  have:cs.getD i 0=cs[i]:=by simp[hi]
  rw[this];exact hx _ (List.getElem_mem hi)
 have UJ:∀i,i<=cs.length->sm cs i<=4*(i:Int):=fun i=>by induction i with|zero=>intro _;exact Int.le_refl _|succ i ih=>intro hi;have:=ih (by omega);have:=hgd i (by omega);rw[mL (by omega)];omega
 have hall:sm cs cs.length=cs.sum:=by unfold sm;rw[List.take_length]
 have hpos:1<=cs.sum:=by
  rw[<-hall];obtain⟨j,hj⟩:∃j,cs.length=j+1:=⟨cs.length-1,by omega⟩;have h0:∀i,i<=cs.length->0<=sm cs i:=fun i=>by induction i with|zero=>intro _;exact Int.le_refl _|succ i ih=>intro hi;have:=ih (by omega);have:=hgd i (by omega);rw[mL (by omega)];omega
  have:=h0 j (by omega);have:=hgd j (by omega);rw[hj,mL (by omega)];omega
 refine nQ (JFu m _ cs) ?_ ?_ ⟨y,[],.bC,.bC,rfl,⟨rfl,rfl⟩,by simp,by simp[sm]⟩
 . rintro i _ hi⟨y,ws,s4,s5,rfl,⟨h4,h5⟩,hok,hl⟩;have hc:=hgd i hi;have hs:=mL hi;have hmo:=UJ i (by omega);generalize cs.getD i 0=c at*;simp[h4,h5];apply ak;simp[show c<=1000000000 by omega,show-1000000000<=c by omega];refine⟨fun _=>?_,by omega⟩;refine yz (JFc _ cs ws _ _) (WyP m) ⟨y,.bC,rfl,rfl⟩ ?_ ?_;.rintro d hd _⟨y,s8,rfl,h8⟩;obtain⟨j,hj,rfl⟩:=List.mem_map.mp hd;simp[h8];refine aL (by decide) (by decide) fun a y a0 a1=>?_;simp;refine aL (by decide) (by decide) fun b y b0 b1=>?_;simp;exact⟨⟨⟨i,(i:Int)+1,1+a,1+b⟩,rfl,⟨by show(0:Int)<=(i:Int);omega,by show(i:Int)<m;omega,by show(0:Int)<=(i:Int)+1;omega,by show(i:Int)+1<m;omega,by show(i:Int)≠(i:Int)+1;omega,by show 0<=1+a;omega,by show 1+a<=_;omega,by show 1<=1+b;omega,by show 1+b<=_;omega⟩⟩,_,_,rfl,rfl⟩
   . rintro xs _⟨y,s8,rfl,h8⟩hxl hxs;obtain⟨us,rfl,hu⟩:=wys hxs;simp at hxl;simp[show ws.length+us.length<=16777216 by omega];refine⟨y,ws++us,_,_,by rw[List.map_append],⟨rfl,rfl⟩,fun v hv=>?_,by rw[List.length_append];omega⟩;rcases List.mem_append.mp hv with hv|hv;.exact hok v hv
     .exact hu v hv
 . rintro _⟨y,ws,s4,s5,rfl,⟨h4,h5⟩,hok,hl⟩;rw[hall]at hl;refine gA (MFa m cs s5) ?_ ?_
   . by_cases c12:(ws.length:Int)<12
     . simp[c12];refine aL (by decide) (by decide) fun a y a0 a1=>?_;simp;refine⟨fun _=>?_,fun _=>⟨_,ws,s4,rfl,hok,by omega,by omega⟩⟩;first|apply ak|apply aq
       simp;refine aL (by omega) (by omega) fun p y p0 p1=>?_;simp[h4];apply ak;simp;refine aL (by decide) (by decide) fun b y b0 b1=>?_;simp[show ws.length<16777216 by omega];refine⟨y,ws++[⟨p,p+2,1,1+b⟩],.val false (.int p),by rw[List.map_append];rfl,fun v hv=>?_,by simp,by simp;omega⟩;rcases List.mem_append.mp hv with hv|hv;.exact hok v hv
       .rw[List.mem_singleton.mp hv];exact⟨p0,by show p<m;omega,by show 0<=p+2;omega,by show p+2<m;omega,by show p≠p+2;omega,by show(0:Int)<=1;omega,by show(1:Int)<=_;omega,by show 1<=1+b;omega,by show 1+b<=_;omega⟩
     .simp[c12];exact⟨y,ws,s4,rfl,hok,by omega,by omega⟩
   rintro _⟨y,ws,s4,rfl,hok,hl1,hl2⟩;generalize(RS.map fun r=>D.lst (r.map D.int))=A1;first|apply ak|apply aq
   simp;refine aL (by omega) (by omega) fun i y i0 i1=>?_;obtain⟨i,rfl⟩:∃j:Nat,i=j:=⟨i.toNat,by omega⟩;simp;apply ak;have r1:cut ws (some (i:Int)) none=ws.drop i:=by show(ws.drop (if 0<=(i:Int)then min (i:Int).toNat ws.length else((i:Int)+(ws.length:Int)).toNat)).take (ws.length-(if 0<=(i:Int)then min (i:Int).toNat ws.length else((i:Int)+(ws.length:Int)).toNat))=_;rw[if_pos (by omega),show min (i:Int).toNat ws.length=i by omega];exact List.take_of_length_le (by simp)
   have r2:cut ws none (some (i:Int))=ws.take i:=by show(ws.drop 0).take ((if 0<=(i:Int)then min (i:Int).toNat ws.length else((i:Int)+(ws.length:Int)).toNat)-0)=_;rw[if_pos (by omega),show min (i:Int).toNat ws.length=i by omega];rfl
   simp[Wz,XH,JD,r1,r2];refine⟨by show _<=16777216;omega,?_⟩;rw[<-List.map_drop,<-List.map_take,<-List.map_append];have N6:∀v∈ws.drop i++ws.take i,v.Ok m:=fun v hv=>by
    rcases List.mem_append.mp hv with hv|hv;.exact hok v (List.mem_of_mem_drop hv)
    .exact hok v (List.mem_of_mem_take hv)
   have hl3:(ws.drop i++ws.take i).length=ws.length:=by simp;omega
   generalize ws.drop i++ws.take i=vs at*;refine gA (MFb m A1 cs s4 s5 (.val false (.int i))) ?_ ?_
   . simp;refine aL (by decide) (by decide) fun a y a0 a1=>?_;simp;refine⟨fun _=>?_,fun _=>⟨y,vs,.bC,rfl,N6,by omega⟩⟩;first|apply ak|apply aq
     simp;refine aL (by omega) (by omega) fun j y j0 j1=>?_;obtain⟨j,rfl⟩:∃k:Nat,j=k:=⟨j.toNat,by omega⟩;have hj:j<vs.length:=by omega
     have ej:vs[j]?=some vs[j]:=by simp[hj]
     generalize vs[j]=v at ej;have hv:=N6 v (List.mem_of_getElem? ej);have hx2:jk vs.length (j:Int)=some j:=J3 hj;simp;apply ak;simp[vy ej,YQ,hx2];refine⟨by decide,y,vs.set j ⟨v.s,v.t,0,1⟩,.val false (.int j),by rw[List.map_set];rfl,fun u hu=>?_,by rw[List.length_set];omega⟩;rcases List.mem_or_eq_of_mem_set hu with hu|rfl;.exact N6 u hu
     .exact⟨hv.s0,hv.s1,hv.t0,hv.t1,hv.ne,by show(0:Int)<=0;omega,by show(0:Int)<=_;omega,by show(1:Int)<=1;omega,by show(1:Int)<=_;omega⟩
   rintro _⟨y,us,s7,rfl,aam,hl4⟩;first|apply ak|apply aq
   simp;rw[hm];exact k m us y ⟨by omega,by omega,hl4,aam⟩
end T
end
section
namespace T
open HH
@[simp]theorem Ih{i n:Nat}{a elt:P}{is:List Nat}{one:Bool}{test:Option P}:isVar (.uw i a n is one test elt)=none:=rfl
theorem sy{c:Call}{i n:Nat}{a elt:P}{is:List Nat}{one:Bool}{test:Option P}{ρ:List Sl}:ev c (.uw i a n is one test elt) ρ=(G7 i (ev c a) ρ).bind fun du ρ₁=>if du.1.length<=lim then(iY c is one test elt du.1 (ρ₁++List.replicate n .bC)).bind fun xs ρ₂=>.ok (.own xs) (aR du.2 (some i) (ρ₂.take ρ₁.length))else .stuck:=by rw[ev];rfl
theorem wO{i:Nat}{f:Ev}{ρ:List Sl}:G7 i f ρ=(lift (pk ρ i) ρ).bind fun _ ρ=>(f ρ).bind fun r ρb=>(lift (items r.d) ρb).bind fun es ρb=>match ρb[i]?with|some (.val _ d)=>(lift (items d) ρb).bind fun ds ρb=>.ok ((ds.zip es).map fun p=>D.tup [p.1,p.2],ρb) ρb|some (.own _ ds)=>.ok ((ds.zip es).map fun p=>D.tup [p.1,p.2],ρb) (ρb.set i (.lent ds))|some (.lent ds)=>.ok ((ds.zip es).map fun p=>D.tup [p.1,p.2],ρb) ρb|_=>.stuck:=rfl
theorem xu{α:Type}{l:List α}:(l.map fun _=>D.bl true).mapM tM=some (l.map fun _=>true):=by induction l with|nil=>rfl|cons a l ih=>simp[ih]
theorem all_true{α:Type}{l:List α}:(l.map fun _=>true).all id=true:=by simp
theorem wK{ds:List D}{d:D}(h:d∈(ds.zip ds).map fun p=>D.tup [p.1,p.2]):∃e,d=.tup [e,e]/\e∈ds:=by rw[List.mem_map]at h;obtain⟨⟨a,b⟩,h1,rfl⟩:=h;obtain⟨i,hi,e⟩:=List.getElem_of_mem h1;rw[List.getElem_zip]at e;cases e;exact⟨ds[i]'(by simpa using hi),rfl,List.getElem_mem _⟩
theorem yW{w n:Nat}{i:Int}{Q:R->List Sl->Prop}(k:Q (.val (.bl true)) [.val false (.int i),.val false (.int i)]):(run Γ w (n+1) 7 [.val false (.int i),.val false (.int i)]).sat Q:=by
 refine cC (d:=f7) rfl rfl (by decide) ?_;first|apply ak|apply aq
 simp[f7];apply ak;simp;apply ak;simp;exact k
inductive F2s(a b:Sl)(ρ:List Sl):Prop where|mk(s:Sl)(t:Sl)(q0:ρ=[a,b,s,t])(q1:fr s=true)(q2:fr t=true)
theorem yK{w n:Nat}{l:List Int}{Q:R->List Sl->Prop}(hl:l.length<=1000)(k:Q (.val (.bl true)) [.val false (tupI l),.val false (tupI l)]):(run Γ w (n+2) 7 [.val false (tupI l),.val false (tupI l)]).sat Q:=by
 unfold tupI at*;refine cC (d:=f7) rfl rfl (by decide) ?_;first|apply ak|apply aq
 simp[f7];apply ak;simp;apply ak;have hz:((l.map D.int).zip (l.map D.int)).length<=16777216:=by simp;omega
 simp[sy,wO,show l.length<=16777216 by omega];have hall:=fun d(h:d∈((l.map D.int).zip (l.map D.int)).map fun p=>D.tup [p.1,p.2])=>wK h;have hlz:(((l.map D.int).zip (l.map D.int)).map fun p=>D.tup [p.1,p.2]).length<=16777216:=by simp;omega
 generalize(((l.map D.int).zip (l.map D.int)).map fun p=>D.tup [p.1,p.2])=zs at*;refine pL (F2s _ _) (fun _=>.bl true) ⟨.bC,.bC,rfl,rfl,rfl⟩ ?_ ?_;.rintro d hd _⟨s,t,rfl,hs,ht⟩;obtain⟨e,rfl,he⟩:=hall d hd;obtain⟨i,_,rfl⟩:=List.mem_map.mp he;simp[hs,ht];refine yW ?_;simp;exact⟨_,_,rfl,rfl,rfl⟩
 rintro _⟨s,t,rfl,hs,ht⟩;have em:=xu (l:=zs);have ea:=all_true (l:=zs);generalize(zs.map fun _=>D.bl true)=X at*;generalize(zs.map fun _=>true)=Y at*;simp[em,ea];exact k
theorem yq{w n:Nat}{b:Bool}{s1:Sl}{ys:List (List Int)}{Q:R->List Sl->Prop}(hs1:s1=.own b (ys.map tupI)\/s1=.val b (.lst (ys.map tupI)))(hl:ys.length<=1000)(hw:∀y∈ys,y.length<=1000)(k:Q (.val (.bl true)) [.own true (ys.map tupI),.val b (.lst (ys.map tupI))]):(run Γ w (n+3) 7 [.own true (ys.map tupI),s1]).sat Q:=by
 refine cC (d:=f7) rfl rfl (by decide) ?_;first|apply ak|apply aq
 have hall:=fun d(h:d∈((ys.map tupI).zip (ys.map tupI)).map fun p=>D.tup [p.1,p.2])=>wK h;have hlz:(((ys.map tupI).zip (ys.map tupI)).map fun p=>D.tup [p.1,p.2]).length<=16777216:=by simp;omega
 rcases hs1 with rfl|rfl;all_goals
  simp[f7];apply ak;simp;apply ak;simp[sy,wO,show ys.length<=16777216 by omega];generalize(((ys.map tupI).zip (ys.map tupI)).map fun p=>D.tup [p.1,p.2])=zs at*;refine pL (F2s _ _) (fun _=>.bl true) ⟨.bC,.bC,rfl,rfl,rfl⟩ ?_ ?_;.rintro d hd _⟨s,t,rfl,hs,ht⟩;obtain⟨e,rfl,he⟩:=hall d hd;obtain⟨y,hy,rfl⟩:=List.mem_map.mp he;simp[hs,ht];refine yK (hw y hy) ?_;simp;exact⟨_,_,rfl,rfl,rfl⟩
  rintro _⟨s,t,rfl,hs,ht⟩;have em:=xu (l:=zs);have ea:=all_true (l:=zs);generalize(zs.map fun _=>D.bl true)=X at*;generalize(zs.map fun _=>true)=Y at*;simp[em,ea];exact k
noncomputable def Vv(e:Int):D->Option D|.tup [w,.int l,_]=>if l=e then some w else none|_=>none
theorem Aj{e:Int}:∀{fd:List St},(fd.map qG).filterMap (Vv e)=(fd.filterMap (uF e)).map tupI
 |[]=>rfl|s::fd=>by
   rw[List.map_cons,List.filterMap_cons,List.filterMap_cons,Aj];have h1:Vv e (qG s)=if lst s.ps=e then some (tupI s.w)else none:=rfl;rw[h1];unfold uF;by_cases c:lst s.ps=e;.rw[if_pos c,if_pos c];rfl
   .rw[if_neg c,if_neg c]
theorem Ea{L:List (List Int)}:∃ys:List (List Int),j5 (L.map tupI)=ys.map tupI/\ys.Perm L:=by
 have hp:=ju (L.map tupI);obtain⟨ys,h1,h2⟩:∃ys:List (List Int),ys.map tupI=j5 (L.map tupI)/\ys.Perm L:=by
  have key:∀(a b:List D),a.Perm b->∀L:List (List Int),b=L.map tupI->∃ys:List (List Int),ys.map tupI=a/\ys.Perm L:=by intro a b h;induction h with
   |nil=>intro L e;cases L with|nil=>exact⟨[],rfl,.refl _⟩|cons _ _=>cases e
   |cons x h ih=>intro L e;cases L with|nil=>cases e|cons y L=>obtain⟨e1,e2⟩:=List.cons.inj e;obtain⟨k,h1,h2⟩:=ih L e2;exact⟨y::k,by rw[List.map_cons,h1,e1],h2.cons y⟩
   |swap x y l0=>intro L e;match L,e with|a::b::l,e=>obtain⟨e1,e2⟩:=List.cons.inj e;obtain⟨e3,e4⟩:=List.cons.inj e2;exact⟨b::a::l,by rw[List.map_cons,List.map_cons,e1,e3,e4],.swap ..⟩
   |trans h1 h2 ih1 ih2=>intro L e;obtain⟨k,e1,p1⟩:=ih2 L e;obtain⟨k2,e2,p2⟩:=ih1 k e1.symm;exact⟨k2,e2,p2.trans p1⟩
  exact key _ _ hp L rfl
 exact⟨ys,h1.symm,h2⟩
theorem Sw{m e:Int}{ws:List Wy}(hN:cF m ws):∀(k:Nat){st:St},Vs m st->st.ps.length+k=6->∀w∈E ws e st,w.length<=6
 |k,st,h,hk,w,hm=>by
   by_cases c:lst st.ps=e;.rw[Gq c]at hm;rw[List.mem_singleton.mp hm];have:=h.len;have:=h.six hN.m1;omega
   .rw[Ca hN h c]at hm;obtain⟨s,hs,hm⟩:=List.mem_flatMap.mp hm;have h1:=dh hN h hs;have h6:=h1.1.six hN.m1;exact Sw hN (k-1) h1.1 (by omega) w hm termination_by k=>k decreasing_by have h6:=(dh hN h hs).1.six hN.m1;have:=(dh hN h hs).2.1;omega
inductive JL9(v:Sl)(r:List D)(ρ:List Sl):Prop where|mk(s1:Sl)(s2:Sl)(s3:Sl)(s4:Sl)(s5:Sl)(s6:Sl)(q0:ρ=[v,s1,s2,s3,s4,s5,s6])(q1:A6 (fr s1=true) (fr s2=true) (fr s3=true) (fr s4=true) (fr s5=true) (fr s6=true))(q2:∀d∈r,∃i,d=D.int i)
inductive KL9(a0 a1 a2 a3:Sl)(X:List D)(_:Nat)(ρ:List Sl):Prop where|mk(s4:Sl)(s5:Sl)(s6:Sl)(q0:ρ=[a0,a1,a2,a3,s4,s5,s6])(q1:(s4=.own false X\/s4=.val false (.lst X)))(q2:fr s5=true)(q3:fr s6=true)
inductive FL9(a0 a1 a2 a3 a4 a5 a6:Sl)(ρ:List Sl):Prop where|mk(s:Sl)(t:Sl)(u:Sl)(q0:ρ=[a0,a1,a2,a3,a4,a5,a6,s,t,u])(q1:fr s=true)(q2:fr t=true)(q3:fr u=true)
inductive M9(a0 a1 a4 a5 a6:Sl)(ρ:List Sl):Prop where|mk(y m:Int)(ws:List Wy)(q0:ρ=[a0,a1,.own false [.int y],.val false (fH m ws),a4,a5,a6])(q1:cF m ws)
theorem Em(ns:List Int)(hn:ns.length<=63):∃as,run Γ 100000000 40 11 [.val false (.lst (ns.map D.int))]=.ok (.val (.bl true)) as:=by
 suffices h:∀w,5000000<=w->(run Γ w 40 11 [.val false (.lst (ns.map D.int))]).sat fun r _=>r=.val (.bl true)by obtain⟨a,ρ,e,rfl⟩:=sat_iff.mp (h 100000000 (by decide));exact⟨ρ,e⟩
 intro w hw;refine cC (d:=f11) rfl rfl (by decide) ?_;first|apply ak|apply aq
 have hl:1+ns.length<=lim:=by show _<=16777216;omega
 simp[f11,hl];refine eV (JL9 (.val false (.lst (ns.map D.int)))) ?_ ?_ ?_
 . rintro d r _⟨s1,s2,s3,s4,s5,s6,rfl,⟨h1,h2,h3,h4,h5,h6⟩,hd⟩;obtain⟨x,rfl⟩:=hd d (by simp);simp[h1];apply ak;simp;refine Fg fun y=>?_;simp[h2];apply ak;simp;refine GF fun m ws y hN=>?_;simp[h3];refine gA (M9 (.val false (.lst (ns.map D.int))) (.val false (.int x)) s4 s5 s6) ?_ ?_
   . simp;refine⟨fun _=>?_,fun _=>⟨y,m,ws,rfl,hN⟩⟩;first|apply ak|apply aq
     simp;refine zL fun m ws y hN=>?_;simp;exact⟨y,m,ws,rfl,hN⟩
   rintro _⟨y,m,ws,rfl,hN⟩;have m0:=hN.m0;have v0:=VN hN;have hE:=Jf (e:=m-1) hN 5 v0 rfl;have hA:=rW (ws:=ws) (st:=⟨[],[0],0⟩) hN.len;have hso:=qp (L:=E ws (m-1) ⟨[],[0],0⟩) (by rw[<-hE];have:=List.length_filterMap_le (uF (m-1)) (A ws ⟨[],[0],0⟩);omega) (xK hN);obtain⟨ys,ey,py⟩:=Ea (L:=E ws (m-1) ⟨[],[0],0⟩);have hyl:=py.length_eq;have hyw:∀y∈ys,y.length<=1000:=fun y hy=>by have:=Sw (e:=m-1) hN 5 v0 rfl y (py.mem_iff.mp hy);omega
   first|apply ak|apply aq
   simp;refine Mx hw hN fun fd hP=>?_;have hfl:=hP.length_eq;simp[show fd.length<=16777216 by omega];refine pB (FL9 _ _ _ _ _ _ _) (Vv (m-1)) ⟨.bC,.bC,.bC,rfl,rfl,rfl,rfl⟩ ?_ ?_
   . rintro d hd _⟨s,t,u,rfl,hs,ht,hu⟩;obtain⟨st,hst,rfl⟩:=List.mem_map.mp hd;have h1:Vv (m-1) (qG st)=if lst st.ps=m-1 then some (tupI st.w)else none:=rfl;rw[h1];by_cases c:lst st.ps=m-1;.simp[hs,ht,hu,qG,c,tupI];exact⟨_,_,_,rfl,rfl,rfl,rfl⟩
     .simp[hs,ht,hu,qG,c];exact⟨_,_,_,rfl,rfl,rfl,rfl⟩
   rintro _⟨s,t,u,rfl,hs,ht,hu⟩;have hP2:(fd.filterMap (uF (m-1))).Perm (E ws (m-1) ⟨[],[0],0⟩):=by rw[<-hE];exact hP.filterMap _
   rw[Aj];have N5:=qp (L:=fd.filterMap (uF (m-1))) (by have:=hP2.length_eq;have:=py.length_eq;have:=List.length_filterMap_le (uF (m-1)) fd;omega) fun w z=>xK hN w (hP2.mem_iff.mp z);have es:=tR hP2 hso;rw[ey]at es;generalize(fd.filterMap (uF (m-1))).map tupI=Z at*;simp[N5,es,h4];apply ak;simp;refine nQ (KL9 _ _ _ _ (ys.map tupI)) ?_ ?_ ⟨_,s5,s6,rfl,.inl rfl,h5,h6⟩;.rintro i _ hi⟨s4,s5,s6,rfl,h4,h5,h6⟩;simp[h5];apply ak;have UL:cm .ne (.str "many") (.str "many")=some false:=rfl;rcases h4 with rfl|rfl;all_goals
      simp;refine CW hw hN (fun c a=>?_) (fun c a=>?_)
      . simp[h6];first|apply ak|apply aq
        simp[show(60:Int)<(ys.length:Int)by omega];apply ak;simp[UL];exact⟨_,_,_,rfl,by first|exact .inl rfl|exact .inr rfl,rfl,rfl⟩
      .rw[ey];simp[h6];apply ak;simp[show ¬(60:Int)<(ys.length:Int)by omega];apply ak;simp;refine yq (by first|exact .inl rfl|exact .inr rfl) (by omega) hyw ?_;simp;apply ak;simp[show ys.length<16777216 by omega];exact⟨_,_,_,rfl,.inr rfl,rfl,rfl⟩
   .rintro _⟨s4,s5,s6,rfl,h4,h5,h6⟩;rcases h4 with rfl|rfl;all_goals simp;exact⟨_,_,_,_,_,_,rfl,⟨rfl,rfl,rfl,rfl,h5,h6⟩,fun d h=>hd d (List.mem_cons_of_mem _ h)⟩
 . rintro _⟨s1,s2,s3,s4,s5,s6,rfl,_,hd⟩;first|apply ak|apply aq
   simp
 . refine⟨_,_,_,_,_,_,rfl,⟨rfl,rfl,rfl,rfl,rfl,rfl⟩,fun d hd=>?_⟩;simp at hd;rcases hd with rfl|⟨i,_,rfl⟩;.exact⟨_,rfl⟩
   .exact⟨i,rfl⟩
end T
end
namespace PySem.W.Fast
theorem tw12507871169087639694:True:=⟨⟩
theorem tw2720961775559926232:True:=⟨⟩
theorem tw5698807700644008682:True:=⟨⟩
theorem tw7689602320799615726:True:=⟨⟩
theorem tw566779085849642416:True:=⟨⟩
theorem tw6594241927266368278:True:=⟨⟩
theorem tw465092020340978617:True:=⟨⟩
theorem tw8121894434782400050:True:=⟨⟩
theorem tw4827314437214201846:True:=⟨⟩
theorem tw8814159523154403158:True:=⟨⟩
theorem tw15476431756256860775:True:=⟨⟩
theorem tw5340079749068939832:True:=⟨⟩
theorem tw11521654735302832109:True:=⟨⟩
theorem tw11126117876932636723:True:=⟨⟩
theorem tw10052835260788726818:True:=⟨⟩
theorem tw12292826944161150125:True:=⟨⟩
theorem tw10328879667410596920:True:=⟨⟩
theorem tw11474503452081585656:True:=⟨⟩
theorem tw14356456447224104348:True:=⟨⟩
theorem tw10095709387085578690:True:=⟨⟩
theorem tw12736525391989309408:True:=⟨⟩
theorem tw3278655017824364505:True:=⟨⟩
theorem tw2682141344774268077:True:=⟨⟩
theorem tw5407013649896765548:True:=⟨⟩
theorem tw14999768992986800043:True:=⟨⟩
theorem tw10832426203853890089:True:=⟨⟩
theorem tw13448906242830052091:True:=⟨⟩
theorem tw516838518632397581:True:=⟨⟩
theorem tw9186949939132941120:True:=⟨⟩
theorem tw5358137405224254321:True:=⟨⟩
theorem tw13502375888259016918:True:=⟨⟩
theorem tw3257102620718990297:True:=⟨⟩
theorem tw16932085717415540253:True:=⟨⟩
theorem tw8227431191564694465:True:=⟨⟩
theorem tw2712477853859682943:True:=⟨⟩
theorem tw1668253981409582114:True:=⟨⟩
theorem tw2615912581092271434:True:=⟨⟩
theorem tw1859487493516853918:True:=⟨⟩
theorem tw3157954200132515482:True:=⟨⟩
theorem tw2363250341559878771:True:=⟨⟩
theorem tw8788969678620738225:True:=⟨⟩
theorem tw108417748592328375:True:=⟨⟩
theorem tw3870852616784149294:True:=⟨⟩
theorem tw4017091740578180701:True:=⟨⟩
theorem tw11997330748900665529:True:=⟨⟩
theorem tw1767785588931825139:True:=⟨⟩
theorem tw5721391189409929635:True:=⟨⟩
theorem tw1422080650653665519:True:=⟨⟩
theorem tw18292874465555915877:True:=⟨⟩
theorem tw3377654792723893915:True:=⟨⟩
theorem tw3816385187122881668:True:=⟨⟩
theorem tw8116449050714257262:True:=⟨⟩
theorem tw10115188744927324856:True:=⟨⟩
theorem tw13656532817529997701:True:=⟨⟩
theorem tw3783735327823049773:True:=⟨⟩
theorem tw11031489782549980813:True:=⟨⟩
theorem tw9655721668479403732:True:=⟨⟩
theorem tw4185056185902446285:True:=⟨⟩
theorem tw7019596629544252975:True:=⟨⟩
theorem tw3495606068390481048:True:=⟨⟩
theorem tw10701863957172240555:True:=⟨⟩
theorem tw13969717401658003783:True:=⟨⟩
theorem tw6731309014396695005:True:=⟨⟩
theorem tw16442952983185243536:True:=⟨⟩
theorem tw15454835766203223190:True:=⟨⟩
theorem tw7796882550451076621:True:=⟨⟩
theorem tw13793960432218006492:True:=⟨⟩
theorem tw3742049090851900477:True:=⟨⟩
theorem tw8148174758932886196:True:=⟨⟩
theorem tw5240249574335272053:True:=⟨⟩
theorem tw1192016834602169038:True:=⟨⟩
theorem tw10051428594162308503:True:=⟨⟩
theorem tw9040983157411773859:True:=⟨⟩
theorem tw2116647828920140501:True:=⟨⟩
theorem tw14187827770363401375:True:=⟨⟩
theorem tw3529979408747478112:True:=⟨⟩
theorem tw8083437541976501619:True:=⟨⟩
theorem tw13760540739006976355:True:=⟨⟩
theorem tw17642111819311387629:True:=⟨⟩
theorem tw4250995392662697322:True:=⟨⟩
theorem tw18118660064787459326:True:=⟨⟩
theorem tw8287325822248613065:True:=⟨⟩
theorem tw4365471006505204915:True:=⟨⟩
theorem tw2083540709295665969:True:=⟨⟩
theorem tw1528383985723601426:True:=⟨⟩
theorem tw18033890167658004592:True:=⟨⟩
theorem tw13405498260063428236:True:=⟨⟩
theorem tw17145173993874335780:True:=⟨⟩
theorem tw2060511062203270707:True:=⟨⟩
theorem tw9334359900630375280:True:=⟨⟩
theorem tw14272171357191927781:True:=⟨⟩
theorem tw1753490758358378511:True:=⟨⟩
theorem tw10532810726386908931:True:=⟨⟩
theorem tw15955169391668434842:True:=⟨⟩
theorem tw1749605569311427012:True:=⟨⟩
theorem tw8681471877983920695:True:=⟨⟩
theorem tw1728161481633886783:True:=⟨⟩
theorem tw10889214452086863539:True:=⟨⟩
theorem tw18242118691644209174:True:=⟨⟩
theorem tw16524480427074486238:True:=⟨⟩
theorem tw12618567211576664398:True:=⟨⟩
theorem tw9447563910024041978:True:=⟨⟩
theorem tw14909068229076623653:True:=⟨⟩
theorem tw3345175525976163164:True:=⟨⟩
theorem tw16620271137798733541:True:=⟨⟩
theorem tw10370037337257430773:True:=⟨⟩
theorem tw5618663357832435139:True:=⟨⟩
theorem tw13579859545873253062:True:=⟨⟩
theorem tw12320711707086867566:True:=⟨⟩
theorem tw13457323148061251582:True:=⟨⟩
theorem tw13863101903908998267:True:=⟨⟩
theorem tw18214002843363930858:True:=⟨⟩
theorem tw2603970195481194695:True:=⟨⟩
theorem tw10605604333832309832:True:=⟨⟩
theorem tw9437992837260476639:True:=⟨⟩
theorem tw9606649470390737887:True:=⟨⟩
theorem tw6141316993840730914:True:=⟨⟩
theorem tw14617472997086646763:True:=⟨⟩
theorem tw10898832139704914112:True:=⟨⟩
theorem tw10432821937200737644:True:=⟨⟩
theorem tw755907604962121216:True:=⟨⟩
theorem tw5110800114593572016:True:=⟨⟩
theorem tw47972373578514133:True:=⟨⟩
theorem tw1318156805526726482:True:=⟨⟩
theorem tw15905965728897485952:True:=⟨⟩
theorem tw7374938708749393456:True:=⟨⟩
theorem tw16207123106642515218:True:=⟨⟩
theorem tw11975233563315022444:True:=⟨⟩
theorem tw14008149365074922428:True:=⟨⟩
theorem tw4350277928228120085:True:=⟨⟩
theorem tw16639583373504606763:True:=⟨⟩
theorem tw17613045078059125698:True:=⟨⟩
theorem tw17736852417190426885:True:=⟨⟩
theorem tw3978063978402924375:True:=⟨⟩
theorem tw1643263280178592185:True:=⟨⟩
theorem tw18182465124747522203:True:=⟨⟩
theorem tw5504460550363040451:True:=⟨⟩
theorem tw14079082581628488394:True:=⟨⟩
theorem tw3277879112777998346:True:=⟨⟩
theorem tw14475004409848158524:True:=⟨⟩
theorem tw1999654553798130006:True:=⟨⟩
theorem tw2990425812291628865:True:=⟨⟩
theorem tw18226616925653708425:True:=⟨⟩
theorem tw1608578618250075175:True:=⟨⟩
theorem tw5389964178480724248:True:=⟨⟩
theorem tw12985634619046605710:True:=⟨⟩
theorem tw13040305837130925693:True:=⟨⟩
theorem tw13794495834585085425:True:=⟨⟩
theorem tw15835677388212669032:True:=⟨⟩
theorem tw2808461552213546032:True:=⟨⟩
theorem tw2213784146886866592:True:=⟨⟩
theorem tw16784246170271744121:True:=⟨⟩
theorem tw12514741371147068155:True:=⟨⟩
theorem tw14320624056165273280:True:=⟨⟩
theorem tw11745503073943958205:True:=⟨⟩
theorem tw6464059822858820989:True:=⟨⟩
theorem tw11369198156336516334:True:=⟨⟩
theorem tw13717903728320897817:True:=⟨⟩
theorem tw10278730835830726336:True:=⟨⟩
theorem tw4352202575999454060:True:=⟨⟩
theorem tw4212100798765272328:True:=⟨⟩
theorem tw2444562001721559696:True:=⟨⟩
theorem tw8546725451232324583:True:=⟨⟩
theorem tw10411223941774557092:True:=⟨⟩
theorem tw15308452579485239444:True:=⟨⟩
theorem tw1634843602158072748:True:=⟨⟩
theorem tw12427313503094401540:True:=⟨⟩
theorem tw18060569743400060872:True:=⟨⟩
theorem tw17225633967314934937:True:=⟨⟩
theorem tw16737394190430269479:True:=⟨⟩
theorem tw15997257593137520641:True:=⟨⟩
theorem tw14000512469917632694:True:=⟨⟩
theorem tw7628714938548651977:True:=⟨⟩
theorem tw1835850630744388020:True:=⟨⟩
end PySem.W.Fast
namespace T
open PySem L2 PySem.Spec PyProof.Rows HH
structure Txt(K:PySem.W.Frag):Prop where
 D0:dN K "ways_out" s0
 D1:dN K "steps_on" s1
 D2:dN K "all_walks" s2
 D3:dN K "_law_pot" s3
 D4:dN K "_law_take" s4
 D5:dN K "_law_way" s5
 D6:dN K "_law_net" s6
 D7:dN K "_law_same" s7
 D8:dN K "_law_walks" s8
 D9:dN K "_law_full" s9
 D10:dN K "_law_told" SJ
 D11:dN K "law" V5
 gB:PySem.W.nsIn K mainGlobals "ValueError"=some none
 Dt:PySem.W.nsIn K mainGlobals "all"=some none
 vZ:PySem.W.nsIn K mainGlobals "bool"=some none
 cY:PySem.W.nsIn K mainGlobals "enumerate"=some none
 Du:PySem.W.nsIn K mainGlobals "int"=some none
 aQ:PySem.W.nsIn K mainGlobals "isinstance"=some none
 bD:PySem.W.nsIn K mainGlobals "len"=some none
 rA:PySem.W.nsIn K mainGlobals "list"=some none
 xU:PySem.W.nsIn K mainGlobals "min"=some none
 bR:PySem.W.nsIn K mainGlobals "range"=some none
 cQ:PySem.W.nsIn K mainGlobals "sorted"=some none
 cT:PySem.W.nsIn K mainGlobals "tuple"=some none
 Dv:PySem.W.nsIn K mainGlobals "zip"=some none
 bF:∃t,PySem.W.nsIn K mainGlobals "MOST_WALKS"=some (some (Value.int 60 t))fY:∃C,eF K "BadHour" C
 ir:∃C,eF K "BadNet" C
 iw:∃C,eF K "HaulError" C
 iu:∃C,eF K "NoWalk" C
 j9:∃C,eF K "NoWay" C
 bh:∃C,eF K "TooMany" C
 il:∃C,pH K "HaulError" C
 iR:∃C,pH K "TooMany" C
 lC:∃C C2,eF K "TooMany" C/\eF K "HaulError" C2/\PySem.W.mroIn K C (.ref C2)=some true
 fX:∃C,eF K "TooMany" C/\CQ K C
 dj:∃C C2,eF K "TooMany" C/\eF K "BadHour" C2/\PySem.W.kitOne K (.ref C) (.ref C2)=some false
 dG:∃C C2,eF K "TooMany" C/\eF K "BadNet" C2/\PySem.W.kitOne K (.ref C) (.ref C2)=some false
 dH:∃C C2,eF K "TooMany" C/\eF K "NoWalk" C2/\PySem.W.kitOne K (.ref C) (.ref C2)=some false
 eE:∃C C2,eF K "TooMany" C/\eF K "NoWay" C2/\PySem.W.kitOne K (.ref C) (.ref C2)=some false
 dm:∃C C2,eF K "TooMany" C/\eF K "TooMany" C2/\PySem.W.kitOne K (.ref C) (.ref C2)=some true
 cJ:∃C,eF K "TooMany" C/\PySem.W.kitOne K (.ref C) (.type "ValueError")=some true
noncomputable def vd{K:PySem.W.Frag}(T:Txt K):Nat->Addr:=fun k=>if k=5 then T.fY.choose else if k=1 then T.ir.choose else if k=0 then T.iw.choose else if k=4 then T.iu.choose else if k=3 then T.j9.choose else if k=2 then T.bh.choose else 0
structure Oks(Pg:Program)(w:World)(K:PySem.W.Frag)(mg:Str->Option Value)(base:Heap)(cl:Nat->Addr)(n:Nat):Prop where
 c0:aV Pg w K mg base n (run Γ 100000000 n) 0 "ways_out" 2
 c1:aV Pg w K mg base n (run Γ 100000000 n) 1 "steps_on" 3
 c2:aV Pg w K mg base n (run Γ 100000000 n) 2 "all_walks" 1
 c3:aV Pg w K mg base n (run Γ 100000000 n) 3 "_law_pot" 1
 c4:aV Pg w K mg base n (run Γ 100000000 n) 4 "_law_take" 2
 c5:aV Pg w K mg base n (run Γ 100000000 n) 5 "_law_way" 2
 c6:aV Pg w K mg base n (run Γ 100000000 n) 6 "_law_net" 1
 c7:aV Pg w K mg base n (run Γ 100000000 n) 7 "_law_same" 2
 c8:aV Pg w K mg base n (run Γ 100000000 n) 8 "_law_walks" 2
 c9:aV Pg w K mg base n (run Γ 100000000 n) 9 "_law_full" 1
 Wq:aV Pg w K mg base n (run Γ 100000000 n) 10 "_law_told" 1
 c11:aV Pg w K mg base n (run Γ 100000000 n) 11 "law" 1
 x2:rR Pg w K mg base cl n (run Γ 100000000 n) 2 "all_walks" 1
set_option maxHeartbeats 0 in
theorem Bu{Pg:Program}{w:World}{K:PySem.W.Frag}{mg:Str->Option Value}{base:Heap}(T:Txt K)(X:K.In base)(G:base.Ns mainGlobals mg):∀n,Oks Pg w K mg base (vd T) n
 |0=>{
   c0:=gF (ps:=["net","place"]) X G T.D0 rfl (fun _ _ _ _ _ _ us hl=>match us,hl with|[_,_],_=>rfl)
   c1:=gF (ps:=["net","walk","places"]) X G T.D1 rfl (fun _ _ _ _ _ _ us hl=>match us,hl with|[_,_,_],_=>rfl)
   c2:=gF (ps:=["net"]) X G T.D2 rfl (fun _ _ _ _ _ _ us hl=>match us,hl with|[_],_=>rfl)
   c3:=gF (ps:=["cell"]) X G T.D3 rfl (fun _ _ _ _ _ _ us hl=>match us,hl with|[_],_=>rfl)
   c4:=gF (ps:=["pot","many"]) X G T.D4 rfl (fun _ _ _ _ _ _ us hl=>match us,hl with|[_,_],_=>rfl)
   c5:=gF (ps:=["pot","many"]) X G T.D5 rfl (fun _ _ _ _ _ _ us hl=>match us,hl with|[_,_],_=>rfl)
   c6:=gF (ps:=["pot"]) X G T.D6 rfl (fun _ _ _ _ _ _ us hl=>match us,hl with|[_],_=>rfl)
   c7:=gF (ps:=["found","due"]) X G T.D7 rfl (fun _ _ _ _ _ _ us hl=>match us,hl with|[_,_],_=>rfl)
   c8:=gF (ps:=["net","start"]) X G T.D8 rfl (fun _ _ _ _ _ _ us hl=>match us,hl with|[_,_],_=>rfl)
   c9:=gF (ps:=["pot"]) X G T.D9 rfl (fun _ _ _ _ _ _ us hl=>match us,hl with|[_],_=>rfl)
   Wq:=gF (ps:=["net"]) X G T.D10 rfl (fun _ _ _ _ _ _ us hl=>match us,hl with|[_],_=>rfl)
   c11:=gF (ps:=["script"]) X G T.D11 rfl (fun _ _ _ _ _ _ us hl=>match us,hl with|[_],_=>rfl)
   x2:=JG (ps:=["net"]) X G T.D2 rfl (fun _ _ _ _ _ _ us hl=>match us,hl with|[_],_=>rfl)}|n+1=>have ih:=Bu (Pg:=Pg) (w:=w) (base:=base) T X G n
   {c0:=gH (ps:=["net","place"]) X G T.D0 rfl rfl (fun _ _ _ _ _ _ us hl=>match us,hl with|[_,_],_=>rfl) fun _ _ F=>d0 (cl:=vd T) F (PySem.W.mg_none_of X G T.cY)
    c1:=gH (ps:=["net","walk","places"]) X G T.D1 rfl rfl (fun _ _ _ _ _ _ us hl=>match us,hl with|[_,_,_],_=>rfl) fun _ _ F=>d1 (cl:=vd T) F ih.c0
    c2:=gH (ps:=["net"]) X G T.D2 rfl rfl (fun _ _ _ _ _ _ us hl=>match us,hl with|[_],_=>rfl) fun _ _ F=>d2 (cl:=vd T) F (PySem.W.mg_none_of X G T.bD) (PySem.W.mg_none_of X G T.cQ) (T.bF.elim fun t e=>⟨t,PySem.W.mg_of X G e⟩) ih.c1
    c3:=gH (ps:=["cell"]) X G T.D3 rfl rfl (fun _ _ _ _ _ _ us hl=>match us,hl with|[_],_=>rfl) fun _ _ F=>d3 (cl:=vd T) F (PySem.W.mg_none_of X G T.bR)
    c4:=gH (ps:=["pot","many"]) X G T.D4 rfl rfl (fun _ _ _ _ _ _ us hl=>match us,hl with|[_,_],_=>rfl) fun _ _ F=>d4 (cl:=vd T) F
    c5:=gH (ps:=["pot","many"]) X G T.D5 rfl rfl (fun _ _ _ _ _ _ us hl=>match us,hl with|[_,_],_=>rfl) fun _ _ F=>d5 (cl:=vd T) F (PySem.W.mg_none_of X G T.xU) ih.c4
    c6:=gH (ps:=["pot"]) X G T.D6 rfl rfl (fun _ _ _ _ _ _ us hl=>match us,hl with|[_],_=>rfl) fun _ _ F=>d6 (cl:=vd T) F (PySem.W.mg_none_of X G T.bD) (PySem.W.mg_none_of X G T.bR) (PySem.W.mg_none_of X G T.cT) ih.c4 ih.c5
    c7:=gH (ps:=["found","due"]) X G T.D7 rfl rfl (fun _ _ _ _ _ _ us hl=>match us,hl with|[_,_],_=>rfl) fun _ _ F=>d7 (cl:=vd T) F (PySem.W.mg_none_of X G T.Dt) (PySem.W.mg_none_of X G T.vZ) (PySem.W.mg_none_of X G T.Du) (PySem.W.mg_none_of X G T.aQ) (PySem.W.mg_none_of X G T.bD) (PySem.W.mg_none_of X G T.rA) (PySem.W.mg_none_of X G T.cT) (PySem.W.mg_none_of X G T.Dv) ih.c7
    c8:=gH (ps:=["net","start"]) X G T.D8 rfl rfl (fun _ _ _ _ _ _ us hl=>match us,hl with|[_,_],_=>rfl) fun _ _ F=>d8 (cl:=vd T) F (PySem.W.mg_none_of X G T.bD) (PySem.W.mg_none_of X G T.bR)
    c9:=gH (ps:=["pot"]) X G T.D9 rfl rfl (fun _ _ _ _ _ _ us hl=>match us,hl with|[_],_=>rfl) fun _ _ F=>d9 (cl:=vd T) F (PySem.W.mg_none_of X G T.cY) (PySem.W.mg_none_of X G T.bD) (PySem.W.mg_none_of X G T.bR) (PySem.W.mg_none_of X G T.cT) ih.c4
    Wq:=gH (ps:=["net"]) X G T.D10 rfl rfl (fun _ _ _ _ _ _ us hl=>match us,hl with|[_],_=>rfl) fun _ _ F=>d10 (cl:=vd T) F (PySem.W.mg_none_of X G T.gB) (PySem.W.mg_none_of X G T.aQ) ih.c2 (qQ X G (MP T.il T.iw.choose_spec)) ih.x2 (qR X (qQ X G (MP T.iR T.bh.choose_spec)) (YT T.lC T.bh.choose_spec T.iw.choose_spec)) (Wt T.fX T.bh.choose_spec) (PySem.W.mg_of X G T.fY.choose_spec) (PySem.W.mg_of X G T.ir.choose_spec) (PySem.W.mg_of X G T.iu.choose_spec) (PySem.W.mg_of X G T.j9.choose_spec) (PySem.W.mg_of X G T.bh.choose_spec) (Ag T.dj T.bh.choose_spec T.fY.choose_spec) (Ag T.dG T.bh.choose_spec T.ir.choose_spec) (Ag T.dH T.bh.choose_spec T.iu.choose_spec) (Ag T.eE T.bh.choose_spec T.j9.choose_spec) (Ag T.dm T.bh.choose_spec T.bh.choose_spec) (WT T.cJ T.bh.choose_spec)
    c11:=gH (ps:=["script"]) X G T.D11 rfl rfl (fun _ _ _ _ _ _ us hl=>match us,hl with|[_],_=>rfl) fun _ _ F=>d11 (cl:=vd T) F (PySem.W.mg_none_of X G T.bD) (PySem.W.mg_none_of X G T.bR) (PySem.W.mg_none_of X G T.cQ) ih.c9 ih.c6 ih.c3 ih.c7 ih.Wq ih.c8
    x2:=Nb (ps:=["net"]) X G T.D2 rfl rfl (fun _ _ _ _ _ _ us hl=>match us,hl with|[_],_=>rfl) fun _ _ F=>dx2 (cl:=vd T) F (PySem.W.mg_none_of X G T.bD) (PySem.W.mg_none_of X G T.cQ) (T.bF.elim fun t e=>⟨t,PySem.W.mg_of X G e⟩) ih.c1 (qQ X G (MP T.iR T.bh.choose_spec))}
theorem gin{K:PySem.W.Frag}{x:Str}{i:Int}{t:Tok}(a:PySem.W.nsIn K mainGlobals x=some (some (Value.int i t))):∃t,PySem.W.nsIn K mainGlobals x=some (some (Value.int i t)):=⟨t,a⟩
set_option maxHeartbeats 0 in
theorem Jz{Pg:Program}{w:World}{K:PySem.W.Frag}{mg:Str->Option Value}{h:Heap}{fa:Addr}(T:Txt K)(X:K.In h)(G:h.Ns mainGlobals mg)(hmg:mg "law"=some (.ref fa)):∃fd:FuncData,(∀(s:Shared)(u:Value),BindsTo s fd ⟨[u],[]⟩ [("script",u)])/\∀base:Heap,K.In base->base.Ns mainGlobals mg->dw Pg w K mg base oM 40 fa fd ["script"] (oX K 1 (run Γ 100000000 40 11)):=by
 obtain⟨f,fd,a,F⟩:=T.D11.ex;have e:=hmg.symm.trans (PySem.W.mg_of X G a);cases e;refine⟨fd,fun s u=>?_,fun base kb nb=>?_⟩;.obtain⟨oc,od,kV,doc,pm,an,cdv,ct,osl,rfl,lk,hcd⟩:=F.ex;exact .of_eq rfl
 .have ih:=Bu (Pg:=Pg) (w:=w) (base:=base) T kb nb 39;exact d11 (cl:=vd T) (k:=39) (n:=100000000) (c:=run Γ 100000000 39) F (PySem.W.mg_none_of X G T.bD) (PySem.W.mg_none_of X G T.bR) (PySem.W.mg_none_of X G T.cQ) ih.c9 ih.c6 ih.c3 ih.c7 ih.Wq ih.c8
end T
open PySem PySem.W PyProof.Rows
set_option maxRecDepth 100000 in
set_option maxHeartbeats 0 in
theorem PySem.Challenge.cw_hourhaul_k09_all_walks_holds : PySem.Challenge.rw_hourhaul_k09_all_walks.Holds := by
 w_on;o_law;k_head;(case hw=>w_witness2);k_fill;refine L2.Ci (l:=PySem.Challenge.rw_hourhaul_k09_all_walks) (n:=63) (k:=40) (x:="script") (CX:=L2.oM) (sp:=fun K=>HH.oX K 1 (HH.run T.Γ 100000000 40 11)) rfl (by decide) rfl ⟨rfl,by decide,by decide⟩ (fun w h Y=>PySem.W.kIn_of Y) ?F ?S ?C;case F=>
  intro w mg fa h KX G hmg;refine T.Jz ?T KX G hmg;constructor;.refine' HH.dX ?a ?l ?c ?k;case a|l|c|k=>k_is
  .refine' HH.dX ?a ?l ?c ?k;case a|l|c|k=>k_is
  .refine' HH.dX ?a ?l ?c ?k;case a|l|c|k=>k_is
  .refine' HH.dX ?a ?l ?c ?k;case a|l|c|k=>k_is
  .refine' HH.dX ?a ?l ?c ?k;case a|l|c|k=>k_is
  .refine' HH.dX ?a ?l ?c ?k;case a|l|c|k=>k_is
  .refine' HH.dX ?a ?l ?c ?k;case a|l|c|k=>k_is
  .refine' HH.dX ?a ?l ?c ?k;case a|l|c|k=>k_is
  .refine' HH.dX ?a ?l ?c ?k;case a|l|c|k=>k_is
  .refine' HH.dX ?a ?l ?c ?k;case a|l|c|k=>k_is
  .refine' HH.dX ?a ?l ?c ?k;case a|l|c|k=>k_is
  .refine' HH.dX ?a ?l ?c ?k;case a|l|c|k=>k_is
  .k_is
  .k_is
  .k_is
  .k_is
  .k_is
  .k_is
  .k_is
  .k_is
  .k_is
  .k_is
  .k_is
  .k_is
  .k_is
  . (refine' T.gin ?a);(case a=>k_is)
  . (refine' HH.yh ?a);(case a=>k_is)
  . (refine' HH.yh ?a);(case a=>k_is)
  . (refine' HH.yh ?a);(case a=>k_is)
  . (refine' HH.yh ?a);(case a=>k_is)
  . (refine' HH.yh ?a);(case a=>k_is)
  . (refine' HH.yh ?a);(case a=>k_is)
  . (refine' HH.Bw ?ca ?cq);(case ca=>k_is);(case cq=>k_exc)
  . (refine' HH.Bw ?ca ?cq);(case ca=>k_is);(case cq=>k_exc)
  . (refine' HH.WQ ?a ?c ?m);(case a=>k_is);(case c=>k_is);(case m=>k_is)
  . (refine' HH.Yi ?a ?g ?h ?b ?f ?n ?t ?m);(case a=>k_is);(case g=>k_is);(case h=>k_is);(case b=>k_is);(case f=>k_is);(case n=>k_is);(case t=>k_is);(case m=>k_is)
  . (refine' HH.BW ?a ?c ?m);(case a=>k_is);(case c=>k_is);(case m=>kit_is)
  . (refine' HH.BW ?a ?c ?m);(case a=>k_is);(case c=>k_is);(case m=>kit_is)
  . (refine' HH.BW ?a ?c ?m);(case a=>k_is);(case c=>k_is);(case m=>kit_is)
  . (refine' HH.BW ?a ?c ?m);(case a=>k_is);(case c=>k_is);(case m=>kit_is)
  . (refine' HH.BW ?a ?c ?m);(case a=>k_is);(case c=>k_is);(case m=>kit_is)
  . (refine' HH.YJ ?a ?m);(case a=>k_is);(case m=>kit_is)
 case S=>intro K H a ns hl hO hS;obtain⟨as,e⟩:=T.Em ns hl;exact HH.yr hS e
 case C=>exact fun H s e s' z=>z
