import PyProof.Rows.All
import Wide.All
import OpenK.AllK
import Wide.FinOn
import Lean
import PyProof.EqAt
import PyProof.EqKinds
import PyProof.TupleCall
import PySem.Str
import PySem.Builtin.Int.W1All
import PyProof.NeKinds
import PyProof.ZipIter
import PyProof.SumWalkG
import PyProof.MinMaxWalk
import PyProof.WalksMore
import PyProof.SeqI3
import PyProof.WalkInts
import PyProof.Rows.CallKwBuiltin
import PyProof.Rows.Tup
import PyProof.CollectIter
import PyProof.EnumMake
import PyProof.TupleOfSeq
import PyProof.ListNew
import PyProof.ReprLoop
import PyProof.StationsW
import PyProof.ExcClass3
import PyProof.Rows.CatchBare
import OpenK.KOwn
import KE.KIsAll
import PyProof.NsDelKeeps
import PyProof.RulesAs
import PyProof.ExcArgsOwn
import PyProof.ListRange
import KE.RegKIsAll
import KE.KRevIter
import PyProof.Rows.SortRuns
import KE.KSortTup
import PyProof.DictWalks
import KE.KDictList
import PyProof.ExcBaseAll.ValueError
import PySem.Challenge.RW_hourhaul_k61_brought_sent_stands
set_option Elab.async false
set_option linter.all false
set_option maxRecDepth 100000
set_option genSizeOf false
set_option compiler.extract_closed false
set_option bootstrap.genMatcherCode false
section
namespace L2
open PySem PySem.Spec PyProof.Rows
noncomputable abbrev Key:=Sum Int Str
noncomputable def rJ:Key->Value->Bool|.inl k,v=>Value.isInt k v|.inr x,v=>Value.isStrOf x v
noncomputable def aaW(w:World):Key->Int|.inl k=>hashInt k|.inr x=>hashStr w x
theorem bQ:∀{k:Key}{v:Value},rJ k v=true->(∃i t,k=Sum.inl i/\v=Value.int i t)\/(∃x t,k=Sum.inr x/\v=Value.str x t)|.inl i,v,h=>by obtain⟨t,e⟩:=Value.isInt_shape (k:=i) (v:=v) h;exact .inl ⟨i,t,rfl,e⟩|.inr x,v,h=>by obtain⟨t,e⟩:=Value.isStrOf_shape (x:=x) (v:=v) h;exact .inr ⟨x,t,rfl,e⟩
theorem Aj(i:Int)(t:Tok):rJ (.inl i) (.int i t)=true:=by simp[rJ,Value.isInt]
theorem Bh(x:Str)(t:Tok):rJ (.inr x) (.str x t)=true:=by simp[rJ,Value.isStrOf]
theorem Qp(a b:Int):decide ((Sum.inl a:Key)=Sum.inl b)=(a==b):=by
 by_cases e:a=b;.subst e;simp
 .have h:¬(Sum.inl a:Key)=Sum.inl b:=fun q=>e (Sum.inl.inj q);rw[decide_eq_false h];exact(beq_eq_false_iff_ne.mpr e).symm
theorem PB(a b:Str):decide ((Sum.inr a:Key)=Sum.inr b)=decide (a=b):=by
 by_cases e:a=b;.subst e;simp
 .have h:¬(Sum.inr a:Key)=Sum.inr b:=fun q=>e (Sum.inr.inj q);rw[decide_eq_false h,decide_eq_false e]
theorem Qc(a:Int)(b:Str):decide ((Sum.inl a:Key)=Sum.inr b)=false:=decide_eq_false (fun q=>nomatch q)
theorem Oe(a:Str)(b:Int):decide ((Sum.inr a:Key)=Sum.inl b)=false:=decide_eq_false (fun q=>nomatch q)
noncomputable def bT(prog:Program)(w:World):PySem.KeyKind prog w Key where
 is:=rJ;hash:=aaW w;inj:=fun v a b ha hb=>by
  rcases bQ ha with⟨i,t,rfl,rfl⟩|⟨x,t,rfl,rfl⟩
  . rcases bQ hb with⟨j,u,rfl,e⟩|⟨y,u,rfl,e⟩;.injection e with e1 _;rw[e1]
    .exact nomatch e
  . rcases bQ hb with⟨j,u,rfl,e⟩|⟨y,u,rfl,e⟩;.exact nomatch e
    .injection e with e1 _;rw[e1]
 byValue:=fun k v h=>by rcases bQ h with⟨i,t,rfl,rfl⟩|⟨x,t,rfl,rfl⟩<;>rfl
 pyHash:=fun hv h=>by
  rcases bQ hv with⟨i,t,rfl,rfl⟩|⟨x,t,rfl,rfl⟩;.exact wpAny_pyHash_int h
  .exact wpAny_pyHash_str h
 eqBool:=fun hu hv h=>by
  rcases bQ hu with⟨i,t,rfl,rfl⟩|⟨x,t,rfl,rfl⟩
  . rcases bQ hv with⟨j,u,rfl,rfl⟩|⟨y,u,rfl,rfl⟩;.rw[Qp]at h;exact wpAny_eqBool_int h
    .rw[Qc]at h;exact SeqAt.EqAt.int_str i t y u _ _ _ _ h
  . rcases bQ hv with⟨j,u,rfl,rfl⟩|⟨y,u,rfl,rfl⟩;.rw[Oe]at h;exact SeqAt.EqAt.str_int x t j u _ _ _ _ h
    .rw[PB]at h;exact wpAny_eqBool_str h
 «strs»:=fun k x t v h=>by
  rcases bQ h with⟨i,u,rfl,e⟩|⟨y,u,rfl,e⟩;.exact nomatch e
  .injection e with e1 _;subst e1;cases v<;>rfl
theorem uR(prog:Program)(w:World)(i:Int)(t:Tok):(bT prog w).is (.inl i) (.int i t)=true:=Aj i t
theorem vA(prog:Program)(w:World)(x:Str)(t:Tok):(bT prog w).is (.inr x) (.str x t)=true:=Bh x t
end L2
namespace L2
open PySem PySem.Spec PyProof.Rows
inductive V where|non|bl(b:Bool)|int(i:Int)|str(x:Str)|byt(b:Array UInt8)|flt(b:UInt64)|ref(a:Addr)|ty(n:String)deriving DecidableEq
noncomputable def RelV:V->Value->Prop|.non,u=>u=Value.none|.bl b,u=>u=Value.bool b|.int i,u=>∃t,u=Value.int i t|.str x,u=>∃t,u=Value.str x t|.byt b,u=>∃t,u=Value.bytes b t|.flt b,u=>∃t,u=Value.float b t|.ref a,u=>u=Value.ref a|.ty n,u=>u=Value.type n
noncomputable abbrev Vals:List V->List Value->Prop:=Paired RelV
theorem Vals.length{xs:List V}{us:List Value}(r:Vals xs us):xs.length=us.length:=Paired.length r
theorem Vals.get:∀{xs:List V}{us:List Value}{i:Nat}{x:V},Vals xs us->xs[i]?=some x->∃u,us[i]?=some u/\RelV x u|_,_,_,_,.nil,e=>by simp at e|_,_,0,_,.cons r _,e=>by simp at e;subst e;exact⟨_,rfl,r⟩|_,_,i+1,x,.cons _ t,e=>by obtain⟨u,h1,h2⟩:=Vals.get (i:=i) (x:=x) t (by simpa using e);exact⟨u,by simpa using h1,h2⟩
theorem Vals.set{x:V}{u:Value}(r:RelV x u):∀{xs:List V}{us:List Value}(i:Nat),Vals xs us->Vals (xs.set i x) (us.set i u)|_,_,_,.nil=>.nil|_,_,0,.cons _ t=>.cons r t|_,_,i+1,.cons q t=>.cons q (Vals.set r i t)
theorem Vals.append:∀{xs ys:List V}{us ws:List Value},Vals xs us->Vals ys ws->Vals (xs++ys) (us++ws)|_,_,_,_,.nil,s=>s|_,_,_,_,.cons r t,s=>.cons r (Vals.append t s)
theorem Vals.take:∀{xs:List V}{us:List Value}(n:Nat),Vals xs us->Vals (xs.take n) (us.take n)|_,_,0,_=>.nil|_,_,_+1,.nil=>.nil|_,_,n+1,.cons r t=>.cons r (Vals.take n t)
theorem Vals.drop:∀{xs:List V}{us:List Value}(n:Nat),Vals xs us->Vals (xs.drop n) (us.drop n)|_,_,0,r=>r|_,_,_+1,.nil=>.nil|_,_,n+1,.cons _ t=>Vals.drop n t
noncomputable def nG:Option V->Option Value->Prop|some v,some u=>RelV v u|none,none=>True|_,_=>False
noncomputable def KV{κ:Type}:List (κ×V)->List (κ×Value)->Prop:=Paired fun(p:κ×V)(q:κ×Value)=>p.1=q.1/\RelV p.2 q.2
noncomputable def kV:Key->V|.inl i=>.int i|.inr x=>.str x
inductive HO where/--a list -/|lst(xs:List V)/--a tuple (never changes) -/|tup(xs:List V)/--a dict whose keys are ints and texts;one whose keys are tuples of ints and texts (the empty one is both) -/|dK(kvs:List (Key×V))|dT(kvs:List (List Key×V))/--a set of ints: its members,its size -/|set(S:Int->Bool)(n:Nat)/--an instance of the class at C,its dict at dx,its attributes -/|ins(C dx:Addr)(fs:List (Str×V))/--the dict of the instance at x -/|own(x:Addr)/--the dict of an exception -/|xd(fs:List (Str×V))/--a bound method,f of x -/|met(f x:Addr)/--a range object lo,lo+1,.. below hi -/|lW(lo hi:Int)/--a thing that is known to the object (the script;a dict while a loop walks it): read,never written while it is so -/|fH(o:Obj)(u:HO)/--a code object's table -/|Q8(ps:Array Value)/--any other thing,by what is true of its one object (a def of one's own: SetO a S n:=HO.ext fun h=>..) -/|ext(φ:Heap->Prop)
noncomputable abbrev Hp:=Addr->Option HO
noncomputable def upd(H:Hp)(a:Addr)(o:HO):Hp:=fun b=>if b=a then some o else H b
theorem aX{H:Hp}{a:Addr}{o:HO}:upd H a o a=some o:=by unfold upd;rw[if_pos rfl]
theorem aK{H:Hp}{a b:Addr}{o:HO}(h:b≠a):upd H a o b=H b:=by unfold upd;rw[if_neg h]
theorem Wh{H:Hp}{a b:Addr}{o u:HO}(h:H a=some o)(h':H b=some u)(d:o≠u):a≠b:=by intro e;subst e;rw[h]at h';exact d (Option.some.inj h')
theorem gk{H:Hp}{a b:Addr}{o:HO}(h:H a=some o)(h':H b=none):a≠b:=by intro e;subst e;rw[h]at h';cases h'
section
variable(P:Program)(w:World)
noncomputable def bU(H:Hp)(h:Heap)(a:Addr):HO->Prop|.lst xs=>xs.length<=sizeLine/\∃(its:List Value)(n:Nat),Vals xs its/\h.get? a=some {cls:=.type "list",data:=.seq its.toArray n}|.tup xs=>xs.length<=sizeLine/\∃its:List Value,Vals xs its/\IsTup h a its.toArray|.dK kvs=>kvs.length<=sizeLine/\(a==sysModules)=false/\∃vs,KV kvs vs/\h.DictOf (bT P w) a vs|.dT kvs=>kvs.length<=sizeLine/\(a==sysModules)=false/\∃xs:List (List Key×Addr×Value),Paired (fun(p:List Key×V)(q:List Key×Addr×Value)=>p.1=q.1/\H q.2.1=some (.tup (p.1.map kV))/\RelV p.2 q.2.2) kvs xs/\∃o es ep,h.get? a=some o/\o.ExactDict/\o.data=.dict es ep/\es.toList=xs.map (entryOfKey (tupleKind (bT P w)))/\(xs.map (·.1)).Nodup|.set S n=>h.SetOf (intKind P w) a S n|.ins C dx fs=>H dx=some (.own a)/\fs.length<=1000/\dx≠a/\h.get? a=some (PySem.W.instObj C dx)/\∃mA,h.Ns1 dx mA/\(∀f,nG (fs.lookup f) (mA f))/\PySem.Within mA (fs.map (·.1))|.own _=>∃o,h.get? a=some o|.xd fs=>∃mA,h.Ns1 a mA/\∀f,nG (fs.lookup f) (mA f)|.lW lo hi=>∃t u v,h.get? a=some {cls:=.type "range",data:=.fields #[.int lo t,.int hi u,.int 1 v]}|.fH o u=>h.get? a=some o/\bU H h a u|.Q8 ps=>h.get? a=some {cls:=.none,data:=.fields ps}|.met f x=>h.get? a=some (PySem.W.methodObj (.ref f) (.ref x))|.ext φ=>φ h/\(∃o,h.get? a=some o)/\∀h1 h2:Heap,φ h1->(∀o,h1.get? a=some o->h2.get? a=some o)->φ h2
noncomputable def lR(H:Hp)(h:Heap):Prop:=∀a o,H a=some o->bU P w H h a o
end
section
variable{P:Program}{w:World}{H H':Hp}{h h':Heap}{a:Addr}{o:HO}
theorem bU.lt(x:bU P w H h a o):a<h.objs.size:=by cases o with|lst xs=>obtain⟨_,_,_,_,e⟩:=x;exact Heap.lt_size e|tup xs=>obtain⟨_,_,_,p⟩:=x;exact p.lt|dK kvs=>obtain⟨_,_,_,_,o,_,_,e,_⟩:=x;exact Heap.lt_size e|dT kvs=>obtain⟨_,_,_,_,o,_,_,e,_⟩:=x;exact Heap.lt_size e|set S n=>obtain⟨o,_,_,_,e,_⟩:=x;exact Heap.lt_size e|ins C dx fs=>obtain⟨_,_,_,e,_⟩:=x;exact Heap.lt_size e|own y=>obtain⟨_,e⟩:=x;exact Heap.lt_size e|xd fs=>obtain⟨_,⟨_,_,_,e,_⟩,_⟩:=x;exact Heap.lt_size e|lW lo hi=>obtain⟨_,_,_,e⟩:=x;exact Heap.lt_size e|fH ob u=>obtain⟨e,_⟩:=x;exact Heap.lt_size e|Q8 ps=>exact Heap.lt_size (show h.get? a=some _ from x)|met f y=>exact Heap.lt_size (show h.get? a=some _ from x)|ext φ=>obtain⟨_,⟨_,e⟩,_⟩:=x;exact Heap.lt_size e
theorem Paired.Qk{α β:Type}{F G:α->β->Prop}:∀{l₁:List α}{l₂:List β},Paired F l₁ l₂->(∀a b,F a b->G a b)->Paired G l₁ l₂|_,_,.nil,_=>.nil|_,_,.cons r t,f=>.cons (f _ _ r) (Paired.Qk t f)
theorem bU.stay(x:bU P w H h a o)(k:∀b u,(b=a\/H b=some (.own a))->h.get? b=some u->h'.get? b=some u)(ho:∀b,H b=some (.own a)->H' b=some (.own a))(ht:∀b xs,H b=some (.tup xs)->H' b=some (.tup xs)):bU P w H' h' a o:=by induction o with|lst xs=>obtain⟨z,its,n,r,e⟩:=x;exact⟨z,its,n,r,k _ _ (.inl rfl) e⟩|tup xs=>obtain⟨z,its,r,ob,e,c⟩:=x;exact⟨z,its,r,ob,k _ _ (.inl rfl) e,c⟩|dK kvs=>obtain⟨z,y,vs,r,ob,es,ep,e,c⟩:=x;exact⟨z,y,vs,r,ob,es,ep,k _ _ (.inl rfl) e,c⟩|dT kvs=>obtain⟨z,y,xs,r,ob,es,ep,e,c⟩:=x;exact⟨z,y,xs,Paired.Qk r fun p q z=>⟨z.1,ht _ _ z.2.1,z.2.2⟩,ob,es,ep,k _ _ (.inl rfl) e,c⟩|set S n=>obtain⟨ob,es,ep,t,e,c⟩:=x;exact⟨ob,es,ep,t,k _ _ (.inl rfl) e,c⟩|ins C dx fs=>obtain⟨d,z,ne,e,mA,⟨od,es,ep,e2,c⟩,r⟩:=x;exact⟨ho _ d,z,ne,k _ _ (.inl rfl) e,mA,⟨od,es,ep,k _ _ (.inr d) e2,c⟩,r⟩|own y=>obtain⟨ob,e⟩:=x;exact⟨ob,k _ _ (.inl rfl) e⟩|xd fs=>obtain⟨mA,⟨od,es,ep,e,c⟩,r⟩:=x;exact⟨mA,⟨od,es,ep,k _ _ (.inl rfl) e,c⟩,r⟩|lW lo hi=>obtain⟨t,u,v,e⟩:=x;exact⟨t,u,v,k _ _ (.inl rfl) e⟩|fH ob u ih=>obtain⟨e,q⟩:=x;exact⟨k _ _ (.inl rfl) e,ih q⟩|Q8 ps=>have e:h.get? a=some {cls:=.none,data:=.fields ps}:=x;show h'.get? a=some {cls:=.none,data:=.fields ps};exact k a _ (.inl rfl) e|met f y=>have e:h.get? a=some (PySem.W.methodObj (.ref f) (.ref y)):=x;show h'.get? a=some (PySem.W.methodObj (.ref f) (.ref y));exact k a _ (.inl rfl) e|ext φ=>obtain⟨p,⟨o,e⟩,st⟩:=x;exact⟨st _ _ p fun o q=>k _ _ (.inl rfl) q,⟨o,k _ _ (.inl rfl) e⟩,st⟩
theorem lR.lt(x:lR P w H h)(e:H a=some o):a<h.objs.size:=(x a o e).lt
theorem lR.fresh(x:lR P w H h)(e:h.objs.size<=a):H a=none:=by cases q:H a with|none=>rfl|some u=>exact absurd (Nat.lt_of_lt_of_le (x.lt q) e) (Nat.lt_irrefl _)
theorem lR.kept(x:lR P w H h)(k:∀b u,h.get? b=some u->h'.get? b=some u):lR P w H h':=fun a o e=>(x a o e).stay (fun b u _ q=>k b u q) (fun _ q=>q) fun _ _ q=>q
theorem lR.laid(x:lR P w H h)(k:∀b u,h.get? b=some u->h'.get? b=some u)(hp:h.objs.size<=a)(new:bU P w (upd H a o) h' a o):lR P w (upd H a o) h':=fun b u e=>by
 have hn:=x.fresh hp;by_cases hb:b=a;.subst hb;rw[aX]at e;cases e;exact new
 .rw[aK hb]at e;exact(x b u e).stay (fun c v _ q=>k c v q) (fun c q=>by rw[aK (gk q hn)];exact q) fun c xs q=>by rw[aK (gk q hn)];exact q
end
noncomputable def Rd(H:Hp)(a:Addr)(u:HO):Prop:=H a=some u\/∃o,H a=some (.fH o u)
theorem Rd.ok{P:Program}{w:World}{H:Hp}{h:Heap}{a:Addr}{u:HO}(r:Rd H a u)(x:lR P w H h):bU P w H h a u:=by
 rcases r with r|⟨o,r⟩;.exact x a u r
 .obtain⟨_,q⟩:=x a _ r;exact q
noncomputable def U0:Option HO->Prop|some (.lst _)=>True|some (.dK _)=>True|some (.dT _)=>True|some (.set _ _)=>True|some (.ins _ _ _)=>True|some (.ext _)=>True|_=>False
section
variable{P:Program}{w:World}{H:Hp}{h h':Heap}{x e:Addr}{o':HO}
theorem lR.write(ok:lR P w H h)(mu:U0 (H x))(he:e=x\/H e=some (.own x))(k:∀b u,b≠e->h.get? b=some u->h'.get? b=some u)(heo:∃u,h'.get? e=some u)(new:bU P w (upd H x o') h' x o'):lR P w (upd H x o') h':=fun b u q=>by
 have WD:∀c y,H c=some (.own y)->c≠x:=fun c y r z=>by subst z;rw[r]at mu;exact mu
 have aa5:∀c xs,H c=some (.tup xs)->c≠x:=fun c xs r z=>by subst z;rw[r]at mu;exact mu
 by_cases hb:b=x;.subst hb;rw[aX]at q;cases q;exact new
 . rw[aK hb]at q;by_cases hbe:b=e
   . have q':H b=some (.own x):=by
      rcases he with z|z;.exact absurd (hbe.trans z) hb
      .rw[hbe];exact z
     rw[q]at q';cases q';obtain⟨v,hv⟩:=heo;exact⟨v,by rw[hbe];exact hv⟩
   . refine(ok b u q).stay (fun c v hc r=>k c v ?_ r) (fun c r=>by rw[aK (WD c b r)];exact r) fun c xs r=>by rw[aK (aa5 c xs r)];exact r
     rcases hc with rfl|hc;.exact hbe
     . rintro rfl;rcases he with z|z;.exact WD c b hc z
       .rw[hc]at z;cases z;exact hb rfl
end
structure Un(fs ex:List Addr)(H H':Hp)(h h':Heap):Prop where
 keep:∀b o,h.get? b=some o->H b=none->b∉fs->b∉ex->h'.get? b=some o
 slot:∀b o,h.get? b=some o->H b=none->b∈fs->b∉ex->∃sl,h'.get? b=some {o with slots:=sl}free:∀b o,h.get? b=some o->H b=none->b∉ex->H' b=none
 there:∀b o,h.get? b=some o->b∉ex->∃o',h'.get? b=some o'
 tups:∀b xs,H b=some (.tup xs)->H' b=some (.tup xs)ug:∀b o u,H b=some (.fH o u)->H' b=some (.fH o u)wC:∀b ps,H b=some (.Q8 ps)->∃more,H' b=some (.Q8 (ps++more))
section
variable{fs fs' ex ex':List Addr}{H H1 H2:Hp}{h h1 h2 h':Heap}{a x e:Addr}{o:HO}
theorem Un.any(u:Un fs ex H H1 h h1){b:Addr}{ob:Obj}(q:h.get? b=some ob)(n:H b=none)(hx:b∉ex):∃sl,h1.get? b=some {ob with slots:=sl}:=by
 by_cases hb:b∈fs;.exact u.slot b ob q n hb hx
 .exact⟨ob.slots,u.keep b ob q n hb hx⟩
theorem Un.kept(k:∀b u,h.get? b=some u->h'.get? b=some u):Un fs ex H H h h':=⟨fun b ob q _ _ _=>k b ob q,fun b ob q _ _ _=>⟨ob.slots,k b ob q⟩,fun _ _ _ n _=>n,fun b ob q _=>⟨ob,k b ob q⟩,fun _ _ q=>q,fun _ _ _ q=>q,fun _ ps q=>⟨#[],by rw[q];simp⟩⟩
theorem Un.refl:Un fs ex H H h h:=Un.kept fun _ _ q=>q
theorem Un.laid(k:∀b u,h.get? b=some u->h'.get? b=some u)(hp:h.objs.size<=a)(hn:H a=none):Un fs ex H (upd H a o) h h' where
 keep:=fun b u q _ _ _=>k b u q;slot:=fun b u q _ _ _=>⟨u.slots,k b u q⟩;free:=fun b u q n _=>by rw[aK (Nat.ne_of_lt (Nat.lt_of_lt_of_le (Heap.lt_size q) hp))];exact n
 there:=fun b u q _=>⟨u,k b u q⟩;tups:=fun b xs q=>by rw[aK (gk q hn)];exact q
 ug:=fun b u xs q=>by rw[aK (gk q hn)];exact q
 wC:=fun b ps q=>⟨#[],by rw[aK (gk q hn),q];simp⟩
theorem Un.write(mu:U0 (H x))(he:e=x\/H e=some (.own x))(k:∀b u,b≠e->h.get? b=some u->h'.get? b=some u)(heo:∃u,h'.get? e=some u):Un fs ex H (upd H x o) h h':=by
 have hx:∀b,H b=none->b≠x:=fun b n z=>by subst z;rw[n]at mu;exact mu
 have hb:∀b,H b=none->b≠e:=fun b n z=>by
  subst z;rcases he with r|r;.exact hx b n r
  .rw[n]at r;cases r
 have hm:∀b u,H b=some u->¬ U0 (some u)->b≠x:=fun b u q nm z=>by subst z;rw[q]at mu;exact nm mu
 refine⟨fun b u q n _ _=>k b u (hb b n) q,fun b u q n _ _=>⟨u.slots,k b u (hb b n) q⟩,fun b u q n _=>by rw[aK (hx b n)];exact n,fun b u q _=>?_,fun b xs q=>by rw[aK (hm b _ q fun z=>z)];exact q,fun b u xs q=>by rw[aK (hm b _ q fun z=>z)];exact q,fun b ps q=>⟨#[],by rw[aK (hm b _ q fun z=>z),q];simp⟩⟩;by_cases hbe:b=e;.subst hbe;exact heo
 .exact⟨u,k b u hbe q⟩
end
noncomputable def XC(h:Heap)(H:Hp):List Addr:=(List.range h.objs.size).filter fun a=>(H a).isSome
noncomputable def sG(h:Heap)(H:Hp):Heap:=PySem.W.hideAll h (XC h H)
theorem Bq(h:Heap)(H:Hp):(sG h H).objs.size=h.objs.size:=PySem.W.hideAll_size _ _
theorem Ek{h:Heap}{H:Hp}{b:Addr}{o:Obj}(e:h.get? b=some o)(n:H b=none):(sG h H).get? b=some o:=PySem.W.hideAll_get _ e fun hm=>by have q:(H b).isSome=true:=(List.mem_filter.mp hm).2;rw[n]at q;simp at q
theorem Ke{h:Heap}{H:Hp}{b:Addr}{o:Obj}(e:(sG h H).get? b=some o):h.get? b=some o/\H b=none:=by have e':h.get? b=some o:=PySem.W.of_hideAll (XC h H) e;refine⟨e',?_⟩;cases q:H b with|none=>rfl|some x=>have hm:b∈XC h H:=List.mem_filter.mpr ⟨List.mem_range.mpr (Heap.lt_size e'),by simp[q]⟩;have z:(sG h H).get? b=none:=PySem.W.hideAll_none (XC h H) hm;rw[z]at e;cases e
end L2
namespace L2
open PySem PySem.Spec PyProof.Rows
structure Mod(K:PySem.W.Frag)(mg:Str->Option Value)(base:Heap):Prop where
 kin:K.In base
 glob:base.Ns mainGlobals mg
 blt:∃mb,base.Ns builtinsNs mb/\∀x:Str,x≠"__name__"->mb x=bootBuiltins x
 nolimit:base.NoLimit
structure Cx where
 prog:Program
 w:World
 K:PySem.W.Frag
 mg:Str->Option Value
 base:Heap
 A:Around
 N:List Str
 s₀:Shared
 H₀:Hp
 env:Env
 outer:List Env
 stack:List Env
 ex:List Addr
 fn:Str->Bool
 calm:Bool
 pn:List (Addr×Obj)xe:Value->Shared->Prop
noncomputable def frs(l:List Env):List Addr:=l.filterMap (·.frame)
noncomputable abbrev Cx.fs(X:Cx):List Addr:=frs X.outer
noncomputable def sV(sc:Scope)(x:Str):Prop:=sc.names.lookup x=some .local\/sc.names.lookup x=some .cell\/sc.names.lookup x=some .free
noncomputable def Loc(sc:Scope)(x:Str):Prop:=sc.names.lookup x=some .local\/sc.names.lookup x=some .cell
noncomputable def Look(env:Env)(h:Heap)(m:Str->Option Value)(x:Str)(u:Value):Prop:=(env.kindOf x=some .local/\m x=some u)\/((env.kindOf x=some .cell\/env.kindOf x=some .free)/\∃c,env.cells.lookup x=some c/\h.IsCell c (some u))
structure Cx.Ok(X:Cx):Prop where
 mod:Mod X.K X.mg X.base
 kind:X.env.scope.kind=.function
 glob:X.env.globals=mainGlobals
 blt:X.env.builtins=builtinsNs
 above:X.s₀.heap.objs.size<=X.env.locals
 inj:∀x y c,X.env.cells.lookup x=some c->X.env.cells.lookup y=some c->x=y
 has:∀x,(X.env.kindOf x=some .cell\/X.env.kindOf x=some .free)->∃c,X.env.cells.lookup x=some c
 cab:∀x c,X.fn x=true->X.env.cells.lookup x=some c->X.s₀.heap.objs.size<=c
 hd:X.calm=true->X.A.handled=none
 frames:X.A.frames=some X.stack
 YK:X.stack=X.outer\/(X.stack=X.env::X.outer/\X.env.frame=some X.env.locals)exf:∀b∈X.ex,b≠X.env.locals/\∀x c,X.env.cells.lookup x=some c->c≠b
 bs:∀b o,X.base.get? b=some o->X.s₀.heap.get? b=some o/\X.H₀ b=none
 Mr:X.base.objs.size<=X.s₀.heap.objs.size
 G6:∀b o,X.base.get? b=some o->b∉X.ex
 Kv:∀b∈X.ex,b∉X.fs
 oU:X.s₀.heap.FunFrames X.base X.outer
 Tq:∀b∈X.fs,X.H₀ b=none
structure Inv(X:Cx)(pins:List (Addr×Obj))(σ:List (Option V))(H:Hp)(s:Shared):Prop where
 ok:X.Ok
 os:s.os=X.s₀.os
 bare:AllBare s.gens
 base:Un X.fs X.ex X.H₀ H X.s₀.heap s.heap
 loc:∃m,s.heap.Ns X.env.locals m/\∀(i:Nat)(x:Str)(v:V),X.N[i]?=some x->σ[i]?=some (some v)->sV X.env.scope x->∃u,RelV v u/\Look X.env s.heap m x u
 cell:∀x c,X.env.cells.lookup x=some c->∃v,s.heap.IsCell c v
 free:H X.env.locals=none
 jN:∀x c,X.env.cells.lookup x=some c->H c=none
 pin:∀p∈X.pn++pins,s.heap.get? p.1=some p.2/\H p.1=none/\p.1≠X.env.locals/\p.1∉X.fs/\∀v,p.2.data≠.cell v
 hok:lR X.prog X.w H s.heap
 len:σ.length=X.N.length
section
variable{X:Cx}{pins:List (Addr×Obj)}{σ:List (Option V)}{H H':Hp}{s:Shared}{h':Heap}
theorem Cx.Ok.ZW(ok:X.Ok){b:Addr}{o:Obj}(e:X.base.get? b=some o):b∉X.fs:=fun hb=>by have:=(ok.oU.mem hb).1;rw[e]at this;cases this
theorem Inv.bs(I:Inv X pins σ H s):∀b o,X.base.get? b=some o->s.heap.get? b=some o/\H b=none:=fun b o e=>⟨I.base.keep b o (I.ok.bs b o e).1 (I.ok.bs b o e).2 (I.ok.ZW e) (I.ok.G6 b o e),I.base.free b o (I.ok.bs b o e).1 (I.ok.bs b o e).2 (I.ok.G6 b o e)⟩
theorem Inv.bk(I:Inv X pins σ H s):∀b o,X.base.get? b=some o->s.heap.get? b=some o:=fun b o e=>(I.bs b o e).1
theorem Inv.mod(I:Inv X pins σ H s):Mod X.K X.mg X.base:=I.ok.mod
theorem Inv.QR(I:Inv X pins σ H s):X.K.In s.heap:=I.ok.mod.kin.keeps I.bk
theorem Inv.lt(I:Inv X pins σ H s):X.env.locals<s.heap.objs.size:=let⟨_,hn,_⟩:=I.loc;hn.lt
theorem Inv.sz(I:Inv X pins σ H s):X.s₀.heap.objs.size<=s.heap.objs.size:=Nat.le_trans I.ok.above (Nat.le_of_lt I.lt)
theorem Inv.Zf(I:Inv X pins σ H s){a:Addr}(h:s.heap.objs.size<=a):a∉X.fs:=fun hb=>by obtain⟨_,o,ho,_⟩:=I.ok.oU.mem hb;exact absurd (Nat.lt_of_lt_of_le (Heap.lt_size ho) (Nat.le_trans I.sz h)) (Nat.lt_irrefl _)
theorem Inv.NT(I:Inv X pins σ H s):∀x c,X.env.cells.lookup x=some c->c≠X.env.locals:=fun x c e z=>by obtain⟨v,o,ho,hd⟩:=I.cell x c e;obtain⟨m,⟨o',es,ep,ho',hd',_⟩,_⟩:=I.loc;rw[z,ho']at ho;cases ho;rw[hd']at hd;cases hd
theorem Inv.oU(I:Inv X pins σ H s):s.heap.FunFrames X.base X.outer:=by
 have all:∀(l:List Env),(∀b∈frs l,b∈X.fs)->X.s₀.heap.FunFrames X.base l->s.heap.FunFrames X.base l:=by intro l;induction l with|nil=>intro _ _;trivial|cons env r ih=>intro hs hl;obtain⟨hk,⟨L,o,hf,hn,ho,hd⟩,hr⟩:=hl;have hL:L∈X.fs:=hs L (by unfold frs;rw[List.filterMap_cons,hf];exact List.mem_cons_self);obtain⟨sl,e⟩:=I.base.slot L o ho (I.ok.Tq L hL) hL fun z=>I.ok.Kv L z hL;exact⟨hk,⟨L,_,hf,hn,e,hd⟩,ih (fun b hb=>hs b (by unfold frs;rw[List.filterMap_cons,hf];exact List.mem_cons_of_mem _ hb)) hr⟩
 exact all X.outer (fun _ hb=>hb) I.ok.oU
theorem Inv.stack(I:Inv X pins σ H s):s.heap.FunFrames X.base X.stack:=by
 rcases I.ok.YK with e|⟨e,hf⟩;.rw[e];exact I.oU
 .rw[e];obtain⟨m,hn,_⟩:=I.loc;refine .cons (by rw[I.ok.kind];decide) hf hn ?_ I.oU;exact Heap.get?_none_of_le (Nat.le_trans I.ok.Mr I.ok.above)
theorem Inv.tY(I:Inv X pins σ H s):∀b∈frs X.stack,b∈X.env.locals::X.fs:=fun b hb=>by
 rcases I.ok.YK with e|⟨e,hf⟩;.rw[e]at hb;exact List.mem_cons_of_mem _ hb
 .rw[e]at hb;unfold frs at hb;rw[List.filterMap_cons,hf]at hb;exact hb
theorem Inv.zc(I:Inv X pins σ H s):∀b∈frs X.stack,H b=none:=fun b hb=>by
 rcases List.mem_cons.mp (I.tY b hb)with e|hb;.rw[e];exact I.free
 .obtain⟨_,o,ho,_⟩:=I.ok.oU.mem hb;exact I.base.free b o ho (I.ok.Tq b hb) fun z=>I.ok.Kv b z hb
theorem Inv.step{g':Array GenState}{t':Nat}{d':Drawn}{ch:List Addr}(I:Inv X pins σ H s)(hch:∀b∈ch,(b∈X.ex\/X.s₀.heap.objs.size<=b)/\b≠X.env.locals/\(∀x c,X.env.cells.lookup x=some c->c≠b)/\∀p∈X.pn++pins,p.1≠b)(keep:∀b o,b≠X.env.locals->b∉X.fs->b∉ch->s.heap.get? b=some o->H b=none->h'.get? b=some o)(slot:∀b o,b≠X.env.locals->b∈X.fs->b∉ch->s.heap.get? b=some o->H b=none->∃sl,h'.get? b=some {o with slots:=sl})(free:∀b o,b∉ch->s.heap.get? b=some o->H b=none->H' b=none)(there:∀b o,b∉ch->s.heap.get? b=some o->∃o',h'.get? b=some o')(tups:∀b xs,H b=some (.tup xs)->H' b=some (.tup xs))(ug:∀b o u,H b=some (.fH o u)->H' b=some (.fH o u))(wC:∀b ps,H b=some (.Q8 ps)->∃more,H' b=some (.Q8 (ps++more)))(ns:∀m,s.heap.Ns X.env.locals m->h'.Ns X.env.locals m)(hok:lR X.prog X.w H' h')(hg:AllBare g'):Inv X pins σ H' {s with heap:=h',gens:=g',drawn:=d',toks:=t'}:=by
 have neL:∀b o,X.s₀.heap.get? b=some o->b≠X.env.locals:=fun b o e=>Nat.ne_of_lt (Nat.lt_of_lt_of_le (Heap.lt_size e) I.ok.above);have YL:∀b o,X.s₀.heap.get? b=some o->b∉X.ex->b∉ch:=fun b o e hx hb=>by
  rcases(hch b hb).1 with z|z;.exact hx z
  .exact absurd (Nat.lt_of_lt_of_le (Heap.lt_size e) z) (Nat.lt_irrefl _)
 have cellK:∀x c,X.env.cells.lookup x=some c->∀v,s.heap.IsCell c v->h'.IsCell c v:=fun x c e v⟨o,ho,hd⟩=>by
  have G7:c∉ch:=fun z=>(hch c z).2.2.1 x c e rfl;by_cases hc:c∈X.fs;.obtain⟨sl,q⟩:=slot c o (I.NT x c e) hc G7 ho (I.jN x c e);exact⟨_,q,hd⟩
  .exact⟨o,keep c o (I.NT x c e) hc G7 ho (I.jN x c e),hd⟩
 refine⟨I.ok,I.os,hg,⟨fun b o e n hb hx=>?_,fun b o e n hb hx=>?_,fun b o e n hx=>?_,fun b o e hx=>?_,fun b xs e=>tups b xs (I.base.tups b xs e),fun b o xs e=>ug b o xs (I.base.ug b o xs e),fun b ps e=>?_⟩,?_,fun x c e=>?_,?_,fun x c e=>?_,fun p hp=>?_,hok,I.len⟩;.exact keep b o (neL b o e) hb (YL b o e hx) (I.base.keep b o e n hb hx) (I.base.free b o e n hx)
 .obtain⟨sl,e1⟩:=I.base.slot b o e n hb hx;obtain⟨sl',e2⟩:=slot b _ (neL b o e) hb (YL b o e hx) e1 (I.base.free b o e n hx);exact⟨sl',e2⟩
 .obtain⟨o',e1⟩:=I.base.there b o e hx;exact free b o' (YL b o e hx) e1 (I.base.free b o e n hx)
 .obtain⟨o',e1⟩:=I.base.there b o e hx;exact there b o' (YL b o e hx) e1
 .obtain⟨m1,e1⟩:=I.base.wC b ps e;obtain⟨m2,e2⟩:=wC b _ e1;exact⟨m1++m2,by rw[e2,Array.append_assoc]⟩
 . obtain⟨m,hn,hl⟩:=I.loc;refine⟨m,ns m hn,fun i x v e1 e2 e3=>?_⟩;obtain⟨u,r,l⟩:=hl i x v e1 e2 e3;refine⟨u,r,?_⟩;rcases l with l|⟨k,c,e,z⟩;.exact .inl l
   .exact .inr ⟨k,c,e,cellK x c e _ z⟩
 .obtain⟨v,z⟩:=I.cell x c e;exact⟨v,cellK x c e v z⟩
 .obtain⟨m,⟨o,_,_,ho,_⟩,_⟩:=I.loc;exact free _ o (fun z=>(hch _ z).2.1 rfl) ho I.free
 .obtain⟨v,o,ho,hd⟩:=I.cell x c e;exact free c o (fun z=>(hch c z).2.2.1 x c e rfl) ho (I.jN x c e)
 .obtain⟨e,n,ne,nf,d⟩:=I.pin p hp;have G7:p.1∉ch:=fun z=>(hch p.1 z).2.2.2 p hp rfl;exact⟨keep p.1 p.2 ne nf G7 e n,free p.1 p.2 G7 e n,ne,nf,d⟩
theorem Inv.un{t':Nat}(I:Inv X pins σ H s)(u:Un X.fs [] H H' s.heap h')(hok:lR X.prog X.w H' h'):Inv X pins σ H' {s with heap:=h',toks:=t'}:=by obtain⟨m,⟨o,es,ep,ho,r⟩,_⟩:=id I.loc;obtain⟨sl,hL⟩:=u.any ho I.free (by simp);exact I.step (g':=s.gens) (d':=s.drawn) (ch:=[]) (fun _ z=>nomatch z) (fun b o _ hb _ e n=>u.keep b o e n hb (by simp)) (fun b o _ hb _ e n=>u.slot b o e n hb (by simp)) (fun b o _ e n=>u.free b o e n (by simp)) (fun b o _ e=>u.there b o e (by simp)) u.tups u.ug u.wC (fun m' hm=>by obtain⟨o',es',ep',ho',r'⟩:=hm;rw[ho]at ho';cases ho';exact⟨_,es',ep',hL,r'⟩) hok I.bare
theorem Inv.call{g':Array GenState}{t':Nat}{d':Drawn}{ch:List Addr}(I:Inv X pins σ H s)(u:Un (frs X.stack) ch H H' s.heap h')(hok:lR X.prog X.w H' h')(hg:AllBare g')(hch:∀b∈ch,(b∈X.ex\/X.s₀.heap.objs.size<=b)/\b≠X.env.locals/\(∀x c,X.env.cells.lookup x=some c->c≠b)/\∀p∈X.pn++pins,p.1≠b):Inv X pins σ H' {s with heap:=h',gens:=g',drawn:=d',toks:=t'}:=by obtain⟨m,⟨o,es,ep,ho,r⟩,_⟩:=id I.loc;obtain⟨sl,hL⟩:=u.any ho I.free fun z=>(hch _ z).2.1 rfl;exact I.step (ch:=ch) hch (fun b o hL hb hc e n=>u.keep b o e n (fun z=>(List.mem_cons.mp (I.tY b z)).elim hL hb) hc) (fun b o _ _ hc e n=>u.any e n hc) (fun b o hc e n=>u.free b o e n hc) (fun b o hc e=>u.there b o e hc) u.tups u.ug u.wC (fun m' hm=>by obtain⟨o',es',ep',ho',r'⟩:=hm;rw[ho]at ho';cases ho';exact⟨_,es',ep',hL,r'⟩) hok hg
theorem Inv.turned{t':Nat}{it:Addr}(I:Inv X pins σ H s)(k:∀b o,b≠it->s.heap.get? b=some o->h'.get? b=some o)(hn:H it=none)(hL:it≠X.env.locals)(h1:it∈X.ex\/X.s₀.heap.objs.size<=it)(h2:∀x c,X.env.cells.lookup x=some c->c≠it)(h3:∀p∈X.pn++pins,p.1≠it):Inv X pins σ H {s with heap:=h',toks:=t'}:=by
 have nit:∀b u,H b=some u->b≠it:=fun b u e z=>by rw[z,hn]at e;cases e
 refine I.step (g':=s.gens) (d':=s.drawn) (ch:=[it]) (fun b hb=>?_) (fun b o _ _ hc e _=>k b o (fun z=>hc (by simp[z])) e) (fun b o _ _ hc e _=>⟨o.slots,k b o (fun z=>hc (by simp[z])) e⟩) (fun _ _ _ _ n=>n) (fun b o hc e=>⟨o,k b o (fun z=>hc (by simp[z])) e⟩) (fun _ _ e=>e) (fun _ _ _ e=>e) (fun b ps e=>⟨#[],by rw[e];simp⟩) (fun m hm=>?_) (fun b u e=>?_) I.bare
 . have e:b=it:=by simpa using hb
   subst e;exact⟨h1,hL,h2,h3⟩
 .obtain⟨o,es,ep,ho,r⟩:=hm;exact⟨o,es,ep,k _ o (Ne.symm hL) ho,r⟩
 . refine(I.hok b u e).stay (fun c v hc q=>k c v ?_ q) (fun _ q=>q) fun _ _ q=>q;rcases hc with z|z;.rw[z];exact nit b u e
   .exact nit c _ z
theorem Inv.tok(I:Inv X pins σ H s)(t:Nat):Inv X pins σ H {s with toks:=t}:=I.un (h':=s.heap) (t':=t) Un.refl I.hok
theorem Inv.kept{t':Nat}(I:Inv X pins σ H s)(k:∀b u,s.heap.get? b=some u->h'.get? b=some u):Inv X pins σ H {s with heap:=h',toks:=t'}:=I.un (Un.kept k) (I.hok.kept k)
theorem Inv.laid{a:Addr}{o:HO}{t':Nat}(I:Inv X pins σ H s)(k:∀b u,s.heap.get? b=some u->h'.get? b=some u)(hp:s.heap.objs.size<=a)(new:bU X.prog X.w (upd H a o) h' a o):Inv X pins σ (upd H a o) {s with heap:=h',toks:=t'}:=I.un (Un.laid k hp (I.hok.fresh hp)) (I.hok.laid k hp new)
theorem Inv.write{x e:Addr}{o:HO}{t':Nat}(I:Inv X pins σ H s)(mu:U0 (H x))(he:e=x\/H e=some (.own x))(k:∀b u,b≠e->s.heap.get? b=some u->h'.get? b=some u)(heo:∃u,h'.get? e=some u)(new:bU X.prog X.w (upd H x o) h' x o):Inv X pins σ (upd H x o) {s with heap:=h',toks:=t'}:=I.un (Un.write mu he k heo) (I.hok.write mu he k heo new)
theorem Inv.zb{Ms:List (Addr×Obj)}(I:Inv X pins σ H s)(h:∀p∈Ms,s.heap.get? p.1=some p.2/\H p.1=none/\p.1≠X.env.locals/\p.1∉X.fs/\∀v,p.2.data≠.cell v):Inv X Ms σ H s:=⟨I.ok,I.os,I.bare,I.base,I.loc,I.cell,I.free,I.jN,fun p hp=>(List.mem_append.mp hp).elim (fun z=>I.pin p (List.mem_append_left _ z)) (h p),I.hok,I.len⟩
theorem vX{N:List Str}(hN:N.Nodup){i j:Nat}{x:Str}(a:N[i]?=some x)(b:N[j]?=some x):i=j:=by obtain⟨h1,e1⟩:=List.getElem?_eq_some_iff.mp a;obtain⟨h2,e2⟩:=List.getElem?_eq_some_iff.mp b;exact(List.getElem_inj hN).mp (e1.trans e2.symm)
theorem qx{M:Model}{A:Around}{E:Value->Shared->Prop}{i:Nat}{x:Str}{v:V}{u:Value}{Q:Unit->Shared->Prop}(I:Inv X pins σ H s)(hN:X.N.Nodup)(hi:X.N[i]?=some x)(hx:Loc X.env.scope x)(r:RelV v u)(h:∀s',Inv X pins (σ.set i (some v)) H s'->(∃a,Heap.SameBut a s.heap s'.heap/\(a=X.env.locals\/X.env.cells.lookup x=some a))->Q () s')(hf:X.fn x=true\/X.env.scope.names.lookup x=some .local:=by first|exact .inl rfl|exact .inr rfl|assumption):wpAny M A (storeName X.env x u) Q E s:=by
 obtain⟨m,hn,hl⟩:=id I.loc;have hcls:(X.env.scope.kind==.class||(X.env.scope.kind==.module&&X.env.locals !=X.env.globals))=false:=by rw[I.ok.kind];rfl
 have hiσ:i<σ.length:=by rw[I.len];exact(List.getElem?_eq_some_iff.mp hi).1
 have NT:=I.NT;have tracked:∀{a:Addr}{h':Heap},(∃o,s.heap.get? a=some o/\H a=none)->Heap.SameBut a s.heap h'->lR X.prog X.w H h':=fun{a h'}ha hs b ob e=>by
  obtain⟨_,_,hfree⟩:=ha;refine(I.hok b ob e).stay (fun c w' hc q=>(hs.2 c ?_).trans q) (fun _ q=>q) fun _ _ q=>q;rintro rfl;rcases hc with rfl|hc;.rw[hfree]at e;cases e
  .rw[hfree]at hc;cases hc
 rcases hx with hk|hk
 . refine wpAny_storeName_local hk hn (fun h' hn' hs=>?_) hcls;obtain⟨oL,_,_,hoL,_⟩:=id hn;refine h _ ⟨I.ok,I.os,I.bare,⟨fun b o e n hb hx=>?_,fun b o e n hb hx=>?_,I.base.free,fun b o e hx=>?_,I.base.tups,I.base.ug,I.base.wC⟩,⟨_,hn',fun j y v' e1 e2 e3=>?_⟩,fun y c e=>?_,I.free,I.jN,fun p hp=>?_,tracked ⟨oL,hoL,I.free⟩ hs,by simpa using I.len⟩ ⟨_,hs,.inl rfl⟩;.exact(hs.2 b (Nat.ne_of_lt (Nat.lt_of_lt_of_le (Heap.lt_size e) I.ok.above))).trans (I.base.keep b o e n hb hx)
   .obtain⟨sl,e1⟩:=I.base.slot b o e n hb hx;exact⟨sl,(hs.2 b (Nat.ne_of_lt (Nat.lt_of_lt_of_le (Heap.lt_size e) I.ok.above))).trans e1⟩
   .obtain⟨o',e1⟩:=I.base.there b o e hx;exact⟨o',(hs.2 b (Nat.ne_of_lt (Nat.lt_of_lt_of_le (Heap.lt_size e) I.ok.above))).trans e1⟩
   . by_cases hj:j=i;.subst hj;rw[hi]at e1;cases e1;rw[List.getElem?_set_self hiσ]at e2;cases e2;exact⟨u,r,.inl ⟨hk,by simp⟩⟩
     . rw[List.getElem?_set_ne (Ne.symm hj)]at e2;obtain⟨u',r',q⟩:=hl j y v' e1 e2 e3;refine⟨u',r',?_⟩;rcases q with⟨k,e⟩|⟨k,c,e,z⟩;.refine .inl ⟨k,?_⟩;have:y≠x:=fun e=>hj (vX hN e1 (e▸hi));simp[this,e]
       .exact .inr ⟨k,c,e,z.sameBut hs (NT y c e)⟩
   .obtain⟨w',z⟩:=I.cell y c e;exact⟨w',z.sameBut hs (NT y c e)⟩
   .obtain⟨e,n,ne,nf,d⟩:=I.pin p hp;exact⟨(hs.2 p.1 ne).trans e,n,ne,nf,d⟩
 . have hfn:X.fn x=true:=by
    rcases hf with z|z;.exact z
    .rw[z]at hk;cases hk
   obtain⟨c,hc⟩:=I.ok.has x (.inl hk);obtain⟨w',z⟩:=I.cell x c hc;refine wpAny_storeName_cell I.ok.kind hk hc z (fun h' hc' hs=>?_);obtain⟨oc,hoc,aa7⟩:=id z;refine h {s with heap:=h'} ⟨I.ok,I.os,I.bare,⟨fun b o e n hb hx=>?_,fun b o e n hb hx=>?_,I.base.free,fun b o e hx=>?_,I.base.tups,I.base.ug,I.base.wC⟩,⟨m,hn.sameBut hs (Ne.symm (NT x c hc)),fun j y v' e1 e2 e3=>?_⟩,fun y c' e=>?_,I.free,I.jN,fun p hp=>?_,tracked ⟨oc,hoc,I.jN x c hc⟩ hs,by simpa using I.len⟩ ⟨c,hs,.inr hc⟩;.exact(hs.2 b (Nat.ne_of_lt (Nat.lt_of_lt_of_le (Heap.lt_size e) (I.ok.cab x c hfn hc)))).trans (I.base.keep b o e n hb hx)
   .obtain⟨sl,e1⟩:=I.base.slot b o e n hb hx;exact⟨sl,(hs.2 b (Nat.ne_of_lt (Nat.lt_of_lt_of_le (Heap.lt_size e) (I.ok.cab x c hfn hc)))).trans e1⟩
   .obtain⟨o',e1⟩:=I.base.there b o e hx;exact⟨o',(hs.2 b (Nat.ne_of_lt (Nat.lt_of_lt_of_le (Heap.lt_size e) (I.ok.cab x c hfn hc)))).trans e1⟩
   . by_cases hj:j=i;.subst hj;rw[hi]at e1;cases e1;rw[List.getElem?_set_self hiσ]at e2;cases e2;exact⟨u,r,.inr ⟨.inl hk,c,hc,hc'⟩⟩
     . rw[List.getElem?_set_ne (Ne.symm hj)]at e2;obtain⟨u',r',q⟩:=hl j y v' e1 e2 e3;refine⟨u',r',?_⟩;rcases q with q|⟨k,c',e,z'⟩;.exact .inl q
       .refine .inr ⟨k,c',e,z'.sameBut hs ?_⟩;rintro rfl;exact hj (vX hN e1 (I.ok.inj _ _ _ e hc▸hi))
   . by_cases hcc:c'=c;.subst hcc;exact⟨_,hc'⟩
     .obtain⟨w2,z2⟩:=I.cell y c' e;exact⟨w2,z2.sameBut hs hcc⟩
   .obtain⟨e,n,ne,nf,d⟩:=I.pin p hp;refine⟨(hs.2 p.1 ?_).trans e,n,ne,nf,d⟩;intro q;rw[q,hoc]at e;have q':oc=p.2:=Option.some.inj e;exact d w' (by rw[<-q'];exact aa7)
theorem vo{M:Model}{A:Around}{E:Value->Shared->Prop}{i:Nat}{x:Str}{v:V}{u:Value}{Q:Unit->Shared->Prop}(I:Inv X pins σ H s)(hN:X.N.Nodup)(hi:X.N[i]?=some x)(hx:Loc X.env.scope x)(r:RelV v u)(h:∀s',Inv X pins (σ.set i (some v)) H s'->Q () s')(hf:X.fn x=true\/X.env.scope.names.lookup x=some .local:=by first|exact .inl rfl|exact .inr rfl|assumption):wpAny M A (storeName X.env x u) Q E s:=qx I hN hi hx r (fun s' I' _=>h s' I') hf
end
noncomputable abbrev XK:=Value->Option Addr->Hp->Prop
noncomputable abbrev St:=List (Option V)
noncomputable abbrev VK:=V->Hp->Prop
noncomputable abbrev TE:=St->Hp->VK->Prop
noncomputable abbrev TT:=St->Hp->(Bool->Hp->Prop)->Prop
noncomputable abbrev TA:=St->Hp->(List V->Hp->Prop)->Prop
structure Ends where
 nx:St->Hp->Prop
 rt:VK
 bk:St->Hp->Prop:=fun _ _=>False
 ct:St->Hp->Prop:=fun _ _=>False
noncomputable abbrev TS:=Ends->St->Hp->Prop
inductive EP(X:Cx)(pins:List (Addr×Obj))(σ:St)(Q:VK)(u:Value)(s':Shared):Prop where|mk(v:V)(H':Hp)(q0:Inv X pins σ H' s')(q1:RelV v u)(q2:Q v H')
noncomputable def TP(X:Cx)(pins:List (Addr×Obj))(σ:St)(Q:Bool->Hp->Prop)(b:Bool)(s':Shared):Prop:=∃H',Inv X pins σ H' s'/\Q b H'
inductive AP(X:Cx)(pins:List (Addr×Obj))(σ:St)(Q:List V->Hp->Prop)(us:List Value)(s':Shared):Prop where|mk(vs:List V)(H':Hp)(q0:Inv X pins σ H' s')(q1:Vals vs us)(q2:Q vs H')
noncomputable def SP(X:Cx)(pins:List (Addr×Obj))(D:Ends)(f:Flow)(s':Shared):Prop:=match f with|.next=>∃σ' H',Inv X pins σ' H' s'/\D.nx σ' H'|.brk=>∃σ' H',Inv X pins σ' H' s'/\D.bk σ' H'|.cont=>∃σ' H',Inv X pins σ' H' s'/\D.ct σ' H'|.ret u=>∃v σ' H',Inv X pins σ' H' s'/\RelV v u/\D.rt v H'
noncomputable def PE(X:Cx)(e:Expr)(t:TE):Prop:=∀(pins:List (Addr×Obj))(s:Shared)(σ:St)(H:Hp)(Q:VK),Inv X pins σ H s->t σ H Q->wpAny (model X.prog X.w) X.A (eval e X.env) (EP X pins σ Q) X.xe s
noncomputable def PT(X:Cx)(e:Expr)(t:TT):Prop:=∀(pins:List (Addr×Obj))(s:Shared)(σ:St)(H:Hp)(Q:Bool->Hp->Prop),Inv X pins σ H s->t σ H Q->wpAny (model X.prog X.w) X.A (isTrue e X.env (eval e X.env)) (TP X pins σ Q) X.xe s
noncomputable def PW(X:Cx)(e:Expr)(t:TT):Prop:=∀(whole:Sem Value)(pins:List (Addr×Obj))(s:Shared)(σ:St)(H:Hp)(Q:Bool->Hp->Prop),Inv X pins σ H s->t σ H Q->wpAny (model X.prog X.w) X.A (isTrue e X.env whole) (TP X pins σ Q) X.xe s
theorem PW.pt{X:Cx}{e:Expr}{t:TT}(h:PW X e t):PT X e t:=h _
noncomputable def PA(X:Cx)(es:List Expr)(t:TA):Prop:=∀(pos:Pos)(pins:List (Addr×Obj))(s:Shared)(σ:St)(H:Hp)(Q:List V->Hp->Prop),Inv X pins σ H s->t σ H Q->wpAny (model X.prog X.w) X.A (spliced (backTo pos (starEach es X.env))) (AP X pins σ Q) X.xe s
noncomputable def PS(X:Cx)(st:Stmt)(t:TS):Prop:=∀(pins:List (Addr×Obj))(s:Shared)(σ:St)(H:Hp)(D:Ends),Inv X pins σ H s->t D σ H->wpAny (model X.prog X.w) X.A (exec st X.env) (SP X pins D) X.xe s
noncomputable def wW(X:Cx)(st:List Stmt)(t:TS):Prop:=∀(pins:List (Addr×Obj))(s:Shared)(σ:St)(H:Hp)(D:Ends),Inv X pins σ H s->t D σ H->wpAny (model X.prog X.w) X.A (execs st X.env) (SP X pins D) X.xe s
theorem dz{α:Type}{t:Sem α}{Q Q':α->Shared->Prop}{M:Model}{A:Around}{E:Value->Shared->Prop}{s:Shared}(h:wpAny M A t Q E s)(hQ:∀a s,Q a s->Q' a s):wpAny M A t Q' E s:=wpAny_mono h hQ fun _ _ x=>x
end L2
namespace L2
open PySem PySem.Spec PyProof.Rows
section
variable{X:Cx}
theorem bin{a b:Expr}{ta tb:TE}(ha:PE X a ta)(hb:PE X b tb){pins:List (Addr×Obj)}{s:Shared}{σ:St}{H:Hp}{R:V->V->Hp->Prop}(I:Inv X pins σ H s)(h:ta σ H fun x H1=>tb σ H1 fun y H2=>R x y H2){α:Type}{Q:α->Shared->Prop}{f:Value->Value->Sem α}(hf:∀v u s2 x y H2,Inv X pins σ H2 s2->RelV x v->RelV y u->R x y H2->wpAny (model X.prog X.w) X.A (f v u) Q X.xe s2):wpAny (model X.prog X.w) X.A (eval a X.env) (fun v s₁=>wpAny (model X.prog X.w) X.A (eval b X.env) (fun u s₂=>wpAny (model X.prog X.w) X.A (f v u) Q X.xe s₂) X.xe s₁) X.xe s:=by refine dz (ha pins s σ H _ I h) fun v s1⟨x,H1,I1,r1,q1⟩=>?_;refine dz (hb pins s1 σ H1 _ I1 q1) fun u s2⟨y,H2,I2,r2,q2⟩=>?_;exact hf v u s2 x y H2 I2 r1 r2 q2
noncomputable def CG(i:Nat):TE:=fun σ H Q=>∃v,σ[i]?=some (some v)/\Q v H
noncomputable def tC(v:V):TE:=fun _ H Q=>Q v H
theorem dB{i:Nat}{x:Str}{pos:Pos}(hN:X.N[i]?=some x)(hv:sV X.env.scope x)(hd:(x==("__debug__":Str))=false:=by decide)(hcd:(x==("__classdict__":Str))=false:=by decide):PE X (.Name x pos) (CG i):=by
 intro pins s σ H Q I h;obtain⟨v,e,h⟩:=h;obtain⟨m,hn,hl⟩:=I.loc;obtain⟨u,r,l⟩:=hl i x v hN e hv;have fin:EP X pins σ Q u s:=⟨v,H,I,r,h⟩;rcases l with⟨hk,hm⟩|⟨hk,c,hc,hcell⟩;.exact wpAny_Name (wpAny_loadName_local I.ok.kind hk hn hm fin) hd
 . rcases hk with hk|hk;.exact wpAny_Name (wpAny_loadName_cell I.ok.kind hk hc hcell fin) hd
   .exact wpAny_Name (wpAny_loadName_free I.ok.kind hk hc hcell fin hcd) hd
theorem QM{i j pos}:PE X (.Constant (.int i) j pos) (tC (.int i)):=fun _ _ _ H _ I h=>wpAny_Constant_int ⟨.int i,H,I.tok _,⟨_,rfl⟩,h⟩
theorem VR{b j pos}:PE X (.Constant (.bool b) j pos) (tC (.bl b)):=fun _ _ _ H _ I h=>Constant_bool ⟨.bl b,H,I,rfl,h⟩
theorem Qu{j pos}:PE X (.Constant .none j pos) (tC .non):=fun _ _ _ H _ I h=>Constant_none ⟨.non,H,I,rfl,h⟩
noncomputable def Gl(X:Cx)(x:Str):Prop:=X.env.kindOf x=some .globalImplicit
theorem Ik{E:Value->Shared->Prop}{pins:List (Addr×Obj)}{s:Shared}{σ:St}{H:Hp}{x:Str}{u:Value}{pos:Pos}{Q:Value->Shared->Prop}(I:Inv X pins σ H s)(hg:Gl X x)(hm:X.mg x=some u)(h:Q u s)(hd:(x==("__debug__":Str))=false:=by decide):wpAny (model X.prog X.w) X.A (eval (.Name x pos) X.env) Q E s:=Calls.Name_function_global I.ok.kind hg (Calls.loadGlobal_global (by rw[I.ok.glob];exact I.mod.glob.keeps I.bk) hm h) hd
theorem mq{E:Value->Shared->Prop}{pins:List (Addr×Obj)}{s:Shared}{σ:St}{H:Hp}{x:Str}{u:Value}{pos:Pos}{Q:Value->Shared->Prop}(I:Inv X pins σ H s)(hg:Gl X x)(hm:X.mg x=none)(hv:bootBuiltins x=some u)(h:Q u s)(hn:x≠"__name__":=by decide)(hd:(x==("__debug__":Str))=false:=by decide):wpAny (model X.prog X.w) X.A (eval (.Name x pos) X.env) Q E s:=by obtain⟨mb,h1,h2⟩:=I.mod.blt;exact Calls.Name_function_global I.ok.kind hg (Calls.loadGlobal_builtin (by rw[I.ok.glob];exact I.mod.glob.keeps I.bk) hm (by rw[I.ok.blt];exact h1.keeps I.bk) ((h2 x hn).trans hv) h) hd
theorem Jb{x:Str}{v:V}{u:Value}{pos:Pos}(hg:Gl X x)(hm:X.mg x=none)(hv:bootBuiltins x=some u)(r:RelV v u)(hn:x≠"__name__":=by decide)(hd:(x==("__debug__":Str))=false:=by decide):PE X (.Name x pos) (tC v):=fun _ _ _ H _ I h=>mq I hg hm hv ⟨v,H,I,r,h⟩ hn hd
noncomputable def ZF(ta tb:TE)(k:Int->Int->Hp->Prop):St->Hp->Prop:=fun σ H=>ta σ H fun x H1=>tb σ H1 fun y H2=>∃i j,x=.int i/\y=.int j/\k i j H2
noncomputable def Zb(ta tb:TE):TE:=fun σ H Q=>ZF ta tb (fun i j H2=>Q (.int (i+j)) H2) σ H
noncomputable def Z9(ta tb:TE):TE:=fun σ H Q=>ZF ta tb (fun i j H2=>Q (.int (i-j)) H2) σ H
variable{a b:Expr}{ta tb:TE}{pos:Pos}
theorem Eg(ha:PE X a ta)(hb:PE X b tb):PE X (.BinOp a .Add b pos) (Zb ta tb):=by intro pins s σ H Q I h;refine wpAny_BinOp (bin ha hb I h fun v u s2 x y H2 I2 rx ry q=>?_);obtain⟨i,j,rfl,rfl,q⟩:=q;obtain⟨t,rfl⟩:=rx;obtain⟨t',rfl⟩:=ry;exact add_int ⟨.int _,H2,I2.tok _,⟨_,rfl⟩,q⟩
theorem Om(ha:PE X a ta)(hb:PE X b tb):PE X (.BinOp a .Sub b pos) (Z9 ta tb):=by intro pins s σ H Q I h;refine wpAny_BinOp (bin ha hb I h fun v u s2 x y H2 I2 rx ry q=>?_);obtain⟨i,j,rfl,rfl,q⟩:=q;obtain⟨t,rfl⟩:=rx;obtain⟨t',rfl⟩:=ry;exact sub_int ⟨.int _,H2,I2.tok _,⟨_,rfl⟩,q⟩
noncomputable def tB(t:TE):TT:=fun σ H Q=>t σ H fun x H1=>∃c,x=.bl c/\Q c H1
theorem Ng{e:Expr}{t:TE}(h:PE X e t)(he:∀whole,isTrue e X.env whole=(do let v<-whole;standAt e.pos;holding [v] (truthy v)):=by intro _;rfl):PT X e (tB t):=by intro pins s σ H Q I hw;refine isTrue_plain (dz (h pins s σ H _ I hw) fun v s1⟨x,H1,I1,r1,q1⟩=>?_) (he _);obtain⟨d,rfl,q⟩:=q1;cases r1;exact wpAny_truthy_bool ⟨H1,I1,q⟩
variable{tA YM:TT}{rest:List Expr}
noncomputable def Zg(t u:TT):TT:=fun σ H Q=>t σ H fun c H1=>if c=true then u σ H1 Q else Q false H1
noncomputable def tOr(t u:TT):TT:=fun σ H Q=>t σ H fun c H1=>if c=true then Q true H1 else u σ H1 Q
noncomputable def aaf(t:TT):TT:=fun σ H Q=>t σ H fun c H1=>Q (!c) H1
theorem Ks(ha:PT X a tA):PW X (.BoolOp .And [a] pos) tA:=by intro wh pins s σ H Q I h;refine isTrue_and (dz (ha pins s σ H Q I h) fun c s1 e=>?_);cases c with|true=>exact isTrue_and_nil e|false=>exact e
theorem Qx(ha:PT X a tA):PW X (.BoolOp .Or [a] pos) tA:=by intro wh pins s σ H Q I h;refine isTrue_or (dz (ha pins s σ H Q I h) fun c s1 e=>?_);cases c with|false=>exact isTrue_or_nil e|true=>exact e
theorem NK(ha:PT X a tA)(hb:PW X (.BoolOp .And (b::rest) pos) YM):PW X (.BoolOp .And (a::b::rest) pos) (Zg tA YM):=by intro wh pins s σ H Q I h;refine isTrue_and (dz (ha pins s σ H _ I h) fun c s1⟨H1,I1,q1⟩=>?_);cases c with|true=>exact hb wh pins s1 σ H1 Q I1 q1|false=>exact⟨H1,I1,q1⟩
theorem UW(ha:PT X a tA)(hb:PW X (.BoolOp .Or (b::rest) pos) YM):PW X (.BoolOp .Or (a::b::rest) pos) (tOr tA YM):=by intro wh pins s σ H Q I h;refine isTrue_or (dz (ha pins s σ H _ I h) fun c s1⟨H1,I1,q1⟩=>?_);cases c with|true=>exact⟨H1,I1,q1⟩|false=>exact hb wh pins s1 σ H1 Q I1 q1
theorem Ox(ha:PT X a tA):PT X (.UnaryOp .Not a pos) (aaf tA):=by intro pins s σ H Q I h;exact isTrue_not (ha pins s σ H (fun c H1=>Q (!c) H1) I h)
noncomputable def Wf(ta tb:TE):TE:=fun σ H Q=>ta σ H fun x H1=>∃c,x=.bl c/\if c=true then tb σ H1 Q else Q (.bl false) H1
noncomputable def VG(ta:TE):TE:=fun σ H Q=>ta σ H fun x H1=>∃c,x=.bl c/\Q (.bl (!c)) H1
theorem M8{op}{t:TE}(h:PE X a t):PE X (.BoolOp op [a] pos) t:=fun pins s σ H Q I hw=>BoolOp_one (h pins s σ H Q I hw)
theorem Nr(ha:PE X a ta)(hb:PE X (.BoolOp .And (b::rest) pos) tb):PE X (.BoolOp .And (a::b::rest) pos) (Wf ta tb):=by intro pins s σ H Q I h;refine BoolOp_and (dz (ha pins s σ H _ I h) fun v s1⟨x,H1,I1,r1,q1⟩=>?_);obtain⟨c,rfl,q1⟩:=q1;cases r1;refine wpAny_truthy_bool ?_;cases c with|true=>exact hb pins s1 σ H1 Q I1 q1|false=>exact⟨.bl false,H1,I1,rfl,q1⟩
theorem Q3(ha:PE X a ta):PE X (.UnaryOp .Not a pos) (VG ta):=by intro pins s σ H Q I h;refine UnaryOp_ (dz (ha pins s σ H _ I h) fun v s1⟨x,H1,I1,r1,q1⟩=>?_);obtain⟨c,rfl,q1⟩:=q1;cases r1;exact not_of (wpAny_truthy_bool ⟨.bl (!c),H1,I1,rfl,q1⟩)
end
end L2
namespace L2
open PySem PySem.Spec PyProof.Rows
noncomputable def dX(K:PySem.W.Frag)(H:Hp)(a:Addr)(xs:List V):Prop:=Rd H a (.lst xs)\/∃(o:Obj)(its:Array Value)(n:Nat),K.lookup a=some o/\o.cls=.type "list"/\o.dict=none/\o.data=.seq its n/\its.size<=sizeLine/\Vals xs its.toList
noncomputable def jH(K:PySem.W.Frag)(H:Hp)(a:Addr)(xs:List V):Prop:=Rd H a (.tup xs)\/∃(o:Obj)(its:Array Value)(n:Nat),K.lookup a=some o/\o.cls=.type "tuple"/\o.data=.seq its n/\its.size<=sizeLine/\Vals xs its.toList
noncomputable def aaO:Value->Option V|.none=>some .non|.bool b=>some (.bl b)|.int i _=>some (.int i)|.str x _=>some (.str x)|.bytes b _=>some (.byt b)|.float b _=>some (.flt b)|.ref a=>some (.ref a)|.type n=>some (.ty n)|_=>none
theorem RelV.abs{x:V}{u:Value}(r:RelV x u):aaO u=some x:=by cases x with|non=>cases r;rfl|bl _=>cases r;rfl|int _=>obtain⟨t,rfl⟩:=r;rfl|str _=>obtain⟨t,rfl⟩:=r;rfl|byt _=>obtain⟨t,rfl⟩:=r;rfl|flt _=>obtain⟨t,rfl⟩:=r;rfl|ref _=>cases r;rfl|ty _=>cases r;rfl
theorem RelV.inj{x y:V}{u:Value}(r:RelV x u)(q:RelV y u):x=y:=Option.some.inj (r.abs.symm.trans q.abs)
theorem Vals.inj:∀{xs ys:List V}{us:List Value},Vals xs us->Vals ys us->xs=ys|_,_,_,.nil,.nil=>rfl|_,_,_,.cons r t,.cons r' t'=>by rw[r.inj r',Vals.inj t t']
section
variable{X:Cx}{pins:List (Addr×Obj)}{σ:St}{H:Hp}{s:Shared}{a:Addr}{xs ys:List V}
theorem dX.of{K:PySem.W.Frag}(h:H a=some (.lst xs)):dX K H a xs:=.inl (.inl h)
theorem jH.of{K:PySem.W.Frag}(h:H a=some (.tup xs)):jH K H a xs:=.inl (.inl h)
theorem Inv.list(I:Inv X pins σ H s)(h:dX X.K H a xs):∃its:List Value,Vals xs its/\PlainL s.heap a its.toArray/\xs.length<=sizeLine:=by
 rcases h with h|⟨o,its,n,hk,hc,hd,hs,hz,r⟩;.obtain⟨z,its,n,r,e⟩:=h.ok I.hok;exact⟨its,r,⟨_,n,e,rfl,rfl,rfl⟩,z⟩
 .refine⟨its.toList,r,⟨o,n,I.QR a o hk,hc,hd,by simpa using hs⟩,?_⟩;have e:=r.length;simp only[Array.length_toList]at e;omega
theorem Inv.tuple(I:Inv X pins σ H s)(h:jH X.K H a xs):∃its:List Value,Vals xs its/\IsTup s.heap a its.toArray/\xs.length<=sizeLine:=by
 rcases h with h|⟨o,its,n,hk,hc,hs,hz,r⟩;.obtain⟨z,its,r,p⟩:=h.ok I.hok;exact⟨its,r,p,z⟩
 .refine⟨its.toList,r,⟨o,I.QR a o hk,hc,n,by simpa using hs⟩,?_⟩;have e:=r.length;simp only[Array.length_toList]at e;omega
theorem Inv.pK(I:Inv X pins σ H s)(h:dX X.K H a xs)(h':dX X.K H a ys):xs=ys:=by
 obtain⟨its,r,⟨o,n,e,_,_,d⟩,_⟩:=I.list h;obtain⟨its',r',⟨o',n',e',_,_,d'⟩,_⟩:=I.list h';rw[e]at e';cases e';rw[d]at d';injection d' with d1 _;have:its=its':=by simpa using congrArg Array.toList d1
 subst this;exact r.inj r'
theorem Inv.mL(I:Inv X pins σ H s)(h:jH X.K H a xs)(h':jH X.K H a ys):xs=ys:=by
 obtain⟨its,r,⟨o,e,_,n,d⟩,_⟩:=I.tuple h;obtain⟨its',r',⟨o',e',_,n',d'⟩,_⟩:=I.tuple h';rw[e]at e';cases e';rw[d]at d';injection d' with d1 _;have:its=its':=by simpa using congrArg Array.toList d1
 subst this;exact r.inj r'
end
noncomputable abbrev Cx.wish(X:Cx)(E:Value->Shared->Prop):Cx:={X with xe:=E}
noncomputable abbrev Cx.We(X:Cx):Cx:=X.wish fun _ _=>False
theorem Cx.Ok.wish{X:Cx}(ok:X.Ok)(E:Value->Shared->Prop):(X.wish E).Ok:=⟨ok.mod,ok.kind,ok.glob,ok.blt,ok.above,ok.inj,ok.has,ok.cab,ok.hd,ok.frames,ok.YK,ok.exf,ok.bs,ok.Mr,ok.G6,ok.Kv,ok.oU,ok.Tq⟩
theorem Cx.Ok.jc{X:Cx}{E:Value->Shared->Prop}(ok:(X.wish E).Ok):X.Ok:=⟨ok.mod,ok.kind,ok.glob,ok.blt,ok.above,ok.inj,ok.has,ok.cab,ok.hd,ok.frames,ok.YK,ok.exf,ok.bs,ok.Mr,ok.G6,ok.Kv,ok.oU,ok.Tq⟩
section
variable{X:Cx}{pins:List (Addr×Obj)}{σ:St}{H:Hp}{s:Shared}{E:Value->Shared->Prop}
theorem Inv.wish(I:Inv X pins σ H s)(E:Value->Shared->Prop):Inv (X.wish E) pins σ H s:=⟨I.ok.wish E,I.os,I.bare,I.base,I.loc,I.cell,I.free,I.jN,I.pin,I.hok,I.len⟩
theorem Inv.jc(I:Inv (X.wish E) pins σ H s):Inv X pins σ H s:=⟨I.ok.jc,I.os,I.bare,I.base,I.loc,I.cell,I.free,I.jN,I.pin,I.hok,I.len⟩
theorem SP.jc{D:Ends}{f:Flow}{s':Shared}(h:SP (X.wish E) pins D f s'):SP X pins D f s':=by cases f with|next=>obtain⟨σ',H',I,q⟩:=h;exact⟨σ',H',I.jc,q⟩|brk=>obtain⟨σ',H',I,q⟩:=h;exact⟨σ',H',I.jc,q⟩|cont=>obtain⟨σ',H',I,q⟩:=h;exact⟨σ',H',I.jc,q⟩|ret u=>obtain⟨v,σ',H',I,r,q⟩:=h;exact⟨v,σ',H',I.jc,r,q⟩
theorem wW.We{st:List Stmt}{t:TS}(h:wW X.We st t):wW X st t:=fun pins s σ H D I hw=>wpAny_mono (h pins s σ H D (I.wish _) hw) (fun _ _ q=>q.jc) fun _ _ z=>False.elim z
end
section
variable{X:Cx}{st:Stmt}{rest:List Stmt}{t u:TS}{e:Expr}{te:TE}{pos:Pos}
noncomputable def Mg:TS:=fun D σ H=>D.nx σ H
noncomputable def Wz(t u:TS):TS:=fun D σ H=>t {D with nx:=u D} σ H
theorem rO:wW X [] Mg:=fun _ _ σ H _ I h=>wpAny_execs_nil ⟨σ,H,I,h⟩
theorem gU(h1:PS X st t)(h2:wW X rest u):wW X (st::rest) (Wz t u):=by intro pins s σ H D I h;refine wpAny_execs_cons (dz (h1 pins s σ H {D with nx:=u D} I h) fun f s1 q=>?_);cases f with|next=>obtain⟨σ',H',I',q⟩:=q;exact h2 pins s1 σ' H' D I' q|ret v=>exact q|brk=>exact q|cont=>exact q
noncomputable def O3:TS:=fun D σ H=>D.bk σ H
theorem Dj:PS X (.Break pos) O3:=fun _ _ σ H _ I h=>wpAny_Break ⟨σ,H,I,h⟩
theorem Inv.quiet{pins:List (Addr×Obj)}{σ:St}{H:Hp}{s:Shared}(I:Inv X pins σ H s):interactive X.env=false:=by simp[interactive,I.ok.kind]
noncomputable def Vo(te:TE):TS:=fun D σ H=>te σ H fun _ H1=>D.nx σ H1
theorem tU(he:PE X e te)(hs:swapsWith e none pos.line X.env=pure false:=by rfl):PS X (.Expr e pos) (Vo te):=by intro pins s σ H D I h;exact wpAny_Expr_any (dz (he pins s σ H _ I h) fun v s1⟨x,H1,I1,r1,q1⟩=>⟨σ,H1,I1,q1⟩) I.quiet hs
noncomputable def aa3(te:TE):TS:=fun D σ H=>te σ H D.rt
theorem Eo(he:PE X e te):PS X (.Return (some e) pos) (aa3 te):=by intro pins s σ H D I h;exact wpAny_Return_some (dz (he pins s σ H _ I h) fun v s1⟨x,H1,I1,r1,q1⟩=>⟨x,σ,H1,I1,r1,q1⟩)
noncomputable def Zq(c:TT)(t u:TS):TS:=fun D σ H=>c σ H fun b H1=>if b=true then t D σ H1 else u D σ H1
theorem Mq{c:Expr}{a b:List Stmt}{tc:TT}(hc:PT X c tc)(ha:wW X a t)(hb:wW X b u):PS X (.If c a b pos) (Zq tc t u):=by intro pins s σ H D I h;refine wpAny_If (dz (hc pins s σ H _ I h) fun d s1⟨H1,I1,q1⟩=>?_);cases d with|true=>exact ha pins s1 σ H1 D I1 q1|false=>exact hb pins s1 σ H1 D I1 q1
end
noncomputable abbrev TG:=V->St->Hp->(St->Hp->Prop)->Prop
noncomputable abbrev Cq:=List V->St->Hp->(St->Hp->Prop)->Prop
noncomputable def PG(X:Cx)(target:Expr)(t:TG):Prop:=∀(pins:List (Addr × Obj))(s:Shared)(σ:St)(H:Hp)(v:V)(u:Value)(Q:St->Hp->Prop),Inv X pins σ H s->RelV v u->t v σ H Q->wpAny (model X.prog X.w) X.A (assign target X.env u) (fun _ s'=>∃σ' H',Inv X pins σ' H' s'/\Q σ' H') X.xe s
noncomputable def Xz(X:Cx)(ts:List Expr)(t:Cq):Prop:=∀(pins:List (Addr × Obj))(s:Shared)(σ:St)(H:Hp)(vs:List V)(us:List Value)(Q:St->Hp->Prop),Inv X pins σ H s->Vals vs us->t vs σ H Q->wpAny (model X.prog X.w) X.A (assignInOrder ((assignEach ts X.env).map (·.2)) us) (fun _ s'=>∃σ' H',Inv X pins σ' H' s'/\Q σ' H') X.xe s
noncomputable abbrev Nh:=V->V->V->Hp->(Hp->Prop)->Prop
noncomputable def Uy(X:Cx)(t:Nh):Prop:=∀(pins:List (Addr × Obj))(s:Shared)(σ:St)(H:Hp)(o i v:V)(ov iv u:Value)(Q:Hp->Prop),Inv X pins σ H s->RelV o ov->RelV i iv->RelV v u->t o i v H Q->wpAny (model X.prog X.w) X.A (setItem ov iv u) (fun _ s'=>∃H',Inv X pins σ H' s'/\Q H') X.xe s
section
variable{X:Cx}{pos:Pos}
noncomputable def fj(i:Nat):TG:=fun v σ H Q=>Q (σ.set i (some v)) H
theorem aA{i:Nat}{x:Str}(hN:X.N.Nodup)(hi:X.N[i]?=some x)(hx:Loc X.env.scope x)(hf:X.fn x=true\/X.env.scope.names.lookup x=some .local:=by first|exact .inl rfl|exact .inr rfl|assumption):PG X (.Name x pos) (fj i):=by intro pins s σ H v u Q I r h;exact wpAny_assign_Name (vo I hN hi hx r (fun s' I'=>⟨_,H,I',h⟩) hf)
noncomputable def GP:Cq:=fun vs σ H Q=>vs=[]/\Q σ H
noncomputable def kW(t:TG)(u:Cq):Cq:=fun vs σ H Q=>∃v r,vs=v::r/\t v σ H fun σ' H'=>u r σ' H' Q
theorem bW:Xz X [] GP:=by intro pins s σ H vs us Q I r h;obtain⟨e,h⟩:=h;subst e;cases r;exact assignInOrder_nil ⟨σ,H,I,h⟩
theorem aD{e:Expr}{es:List Expr}{t:TG}{u:Cq}(h1:PG X e t)(h2:Xz X es u)(hs:(assignEach (e::es) X.env).map (·.2)=assign e X.env::(assignEach es X.env).map (·.2):=by rfl):Xz X (e::es) (kW t u):=by intro pins s σ H vs us Q I r h;obtain⟨v,vr,e1,h⟩:=h;subst e1;cases r with|cons r rr=>rw[hs];refine assignInOrder_cons (dz (h1 pins s σ H _ _ _ I r h) fun _ s1⟨σ1,H1,I1,q1⟩=>?_);exact h2 pins s1 σ1 H1 _ _ Q I1 rr q1
noncomputable def Dd(K:PySem.W.Frag)(n:Nat)(t:Cq):TG:=fun v σ H Q=>∃a xs,v=.ref a/\jH K H a xs/\xs.length=n/\t xs σ H Q
theorem cR{es:List Expr}{k:Nat}{t:Cq}{n:Nat}(hc:X.calm=true)(h:Xz X es t)(hn:(assignEach es X.env).length=n:=by rfl)(hst:(assignEach es X.env).findIdx? (·.1)=none:=by rfl):PG X (.Tuple es k pos) (Dd X.K n t):=by intro pins s σ H v u Q I r hw;obtain⟨a,xs,e1,hq,hl,hw⟩:=hw;subst e1;cases r;obtain⟨its,rv,ht,hz⟩:=I.tuple hq;refine assign_Tuple_tuple (I.ok.hd hc) ht (by simp[hn,<-hl,rv.length]) hst fun h' hx=>?_;have I1:Inv X pins σ H {s with heap:=h'}:=I.kept (t':=s.toks) fun b o e=>hx b o (Nat.ne_of_lt (Heap.lt_size e)) e;exact h pins _ σ H xs _ Q I1 (by simpa using rv) hw
noncomputable def Z2(to ti:TE)(t:Nh):TG:=fun v σ H Q=>to σ H fun o H1=>ti σ H1 fun i H2=>t o i v H2 fun H3=>Q σ H3
theorem tu{o i:Expr}{to ti:TE}{t:Nh}(ho:PE X o to)(hi:PE X i ti)(hs:Uy X t)(ha:∀ v,assign (.Subscript o i pos) X.env v=(do
  let ov<-holding [v] (eval o X.env)let iv<-holding [v,ov] (eval i X.env)standAt pos
  holding [v,ov,iv] (setItem ov iv v)release [v,ov,iv] []):=by intro _;rfl):PG X (.Subscript o i pos) (Z2 to ti t):=by intro pins s σ H v u Q I r h;rw[ha];refine wpAny_bind (wpAny_holding (dz (ho pins s σ H _ I h) fun ov s1⟨x,H1,I1,r1,q1⟩=>?_));refine wpAny_bind (wpAny_holding (dz (hi pins s1 σ H1 _ I1 q1) fun iv s2⟨y,H2,I2,r2,q2⟩=>?_));refine wpAny_bind (wpAny_standAt (wpAny_bind (wpAny_holding (dz (hs pins s2 σ H2 x y v ov iv u _ I2 r1 r2 r q2) fun _ s3⟨H3,I3,q3⟩=>?_))));exact wpAny_release ⟨σ,H3,I3,q3⟩
noncomputable def Jp(te:TE)(g:TG):TS:=fun D σ H=>te σ H fun x H1=>g x σ H1 D.nx
theorem p6{tg e:Expr}{te:TE}{g:TG}(he:PE X e te)(hg:PG X tg g)(hs:swapsWithSole [tg] e pos.line X.env=pure false:=by rfl)(hw:swappedStores [tg] e X.env=pure none:=by rfl)(h1:(assignEach [tg] X.env).map (·.2)=[assign tg X.env]:=by rfl):PS X (.Assign [tg] e pos) (Jp te g):=by intro pins s σ H D I h;refine wpAny_Assign_stores (dz (he pins s σ H _ I h) fun v s1⟨x,H1,I1,r1,q1⟩=>?_) hs hw;rw[h1];exact dz (hg pins s1 σ H1 x v _ I1 r1 q1) fun _ s2 q=>q
theorem tK{i:Nat}{x:Str}{e:Expr}{te:TE}{pos':Pos}(hN:X.N.Nodup)(hi:X.N[i]?=some x)(hx:Loc X.env.scope x)(he:PE X e te)(hs:swapsWith e (some (.Name x pos')) pos.line X.env=pure false:=by rfl)(hf:X.fn x=true\/X.env.scope.names.lookup x=some .local:=by first|exact .inl rfl|exact .inr rfl|assumption):PS X (.Assign [.Name x pos'] e pos) (Jp te (fj i)):=by intro pins s σ H D I h;refine wpAny_Assign_Name (dz (he pins s σ H _ I h) fun v s1⟨y,H1,I1,r1,q1⟩=>?_) hs;exact vo I1 hN hi hx r1 (fun s2 I2=>⟨_,H1,I2,q1⟩) hf
end
structure It where
 go:Nat->Hp->Prop
 Kw:Nat->Hp->V->Hp->Prop
 stop:Nat->Hp->Prop
noncomputable def mU(X:Cx)(pins:List (Addr×Obj))(H:Hp)(b:Addr):Prop:=H b=none/\b≠X.env.locals/\b∉X.fs/\(b∈X.ex\/X.s₀.heap.objs.size<=b)/\(∀x c,X.env.cells.lookup x=some c->c≠b)/\∀p∈X.pn++pins,p.1≠b
theorem Inv.Bd{X:Cx}{pins:List (Addr×Obj)}{σ:St}{H H':Hp}{s:Shared}{b:Addr}(I:Inv X pins σ H s)(hb:s.heap.objs.size<=b)(hn:H' b=none):mU X pins H' b:=by
 refine⟨hn,Nat.ne_of_gt (Nat.lt_of_lt_of_le I.lt hb),I.Zf hb,.inr (Nat.le_trans I.sz hb),fun x c e z=>?_,fun p hp z=>?_⟩;.obtain⟨v,q⟩:=I.cell x c e;exact absurd (Nat.lt_of_lt_of_le q.lt (by rw[z];exact hb)) (Nat.lt_irrefl _)
 .exact absurd (Nat.lt_of_lt_of_le (Heap.lt_size (I.pin p hp).1) (by rw[z];exact hb)) (Nat.lt_irrefl _)
structure Turn(P:Program)(w:World)(K:PySem.W.Frag)(tg:Expr)(J:It)(fp:List Addr)(it:Addr)(tn:Nat->Heap->Prop):Prop where
 mem:it∈fp
 obj:∀i h,tn i h->∀b∈fp,∃o,h.get? b=some o/\∀v,o.data≠.cell v
 keep:∀i h h',tn i h->(∀b∈fp,∀o,h.get? b=some o->h'.get? b=some o)->tn i h'
 item:∀(X:Cx),X.prog=P->X.w=w->X.K=K->X.calm=true->∀(i:Nat)(pins:List (Addr×Obj))(s:Shared)(σ:St)(H:Hp)(E:Value->Shared->Prop),Inv X pins σ H s->(∀b∈fp,mU X pins H b)->tn i s.heap->J.go i H->wpAny (model P w) X.A (pyNext (.ref it)) (fun r s1=>∃u,r=some u/\wpAny (model P w) X.A (letOwnedTupleGo tg (.ref it) u) (fun _ s2=>∃x H',Inv X pins σ H' s2/\RelV x u/\J.Kw i H x H'/\tn (i+1) s2.heap/\∀b∈fp,H' b=none) E s1) E s
 done:∀(X:Cx),X.prog=P->X.w=w->X.K=K->X.calm=true->∀(i:Nat)(pins:List (Addr×Obj))(s:Shared)(σ:St)(H:Hp)(E:Value->Shared->Prop),Inv X pins σ H s->(∀b∈fp,mU X pins H b)->tn i s.heap->J.stop i H->wpAny (model P w) X.A (pyNext (.ref it)) (fun r s1=>r=none/\Inv X pins σ H s1) E s
 self:∀(A:Around)(i:Nat)(s:Shared)(Q:Value->Shared->Prop)(E:Value->Shared->Prop),tn i s.heap->Q (.ref it) s->wpAny (model P w) A (pyIter (.ref it)) Q E s
noncomputable abbrev TI:=St->Hp->(It->Hp->Prop)->Prop
noncomputable def PIE(X:Cx)(pins:List (Addr×Obj))(σ:St)(tg:Expr)(R:It->Hp->Prop)(itv:Value)(s2:Shared):Prop:=∃(it:Addr)(fp:List Addr)(tn:Nat->Heap->Prop)(J:It)(H':Hp),itv=.ref it/\Inv X pins σ H' s2/\Turn X.prog X.w X.K tg J fp it tn/\tn 0 s2.heap/\(∀b∈fp,mU X pins H' b)/\R J H'
noncomputable def PI(X:Cx)(tg iter:Expr)(wi:TI):Prop:=∀(pins:List (Addr × Obj))(s:Shared)(σ:St)(H:Hp)(R:It->Hp->Prop),Inv X pins σ H s->wi σ H R->wpAny (model X.prog X.w) X.A (eval iter X.env) (fun v s1=>wpAny (model X.prog X.w) X.A (pyIter v) (PIE X pins σ tg R) X.xe s1) X.xe s
theorem yO{M:Model}{A:Around}{E:Value->Shared->Prop}{s:Shared}{tg:Expr}{it:Addr}{u:Value}{o:Obj}{n:String}{vs:Array Value}{Q:Unit->Shared->Prop}(ho:s.heap.get? it=some o)(hc:o.cls=.type n)(hd:o.data=.fields vs)(hn:["enumerate","zip","dict_itemiterator","dict_reverseitemiterator","odict_iterator","itertools.zip_longest","itertools.pairwise"].contains n=false)(hQ:Q () s):wpAny M A (letOwnedTupleGo tg (.ref it) u) Q E s:=by unfold letOwnedTupleGo;cases tg<;>first|exact wpAny_pure hQ|(cases u<;>first|exact wpAny_pure hQ|(refine wpAny_bind (wpAny_load ho ?_);rw[hc,hd];show wpAny M A (if(["enumerate","zip","dict_itemiterator","dict_reverseitemiterator","odict_iterator","itertools.zip_longest","itertools.pairwise"].contains n&&vs[0]?==some (rawInt _))=true then _ else _) Q E s;rw[if_neg (by intro h;rw[hn,Bool.false_and]at h;cases h)];exact wpAny_pure hQ))
noncomputable def QD(K:PySem.W.Frag)(a:Addr):It:=⟨fun i H=>∃xs x,dX K H a xs/\xs[i]?=some x,fun i H x H'=>H'=H/\∀xs,dX K H a xs->xs[i]?=some x,fun i H=>∃xs,dX K H a xs/\xs.length<=i⟩
noncomputable def SN(K:PySem.W.Frag)(a:Addr):It:=⟨fun i H=>∃xs x,jH K H a xs/\xs[i]?=some x,fun i H x H'=>H'=H/\∀xs,jH K H a xs->xs[i]?=some x,fun i H=>∃xs,jH K H a xs/\xs.length<=i⟩
noncomputable def Rv(lo:Int)(n:Nat):It:=⟨fun i _=>i<n,fun i H x H'=>H'=H/\x=.int (lo+i),fun i _=>n<=i⟩
theorem Bk{P:Program}{w:World}{K:PySem.W.Frag}{tg:Expr}(a it:Addr):Turn P w K tg (QD K a) [it] it (fun i h=>h.IsListIter it a i)where
 mem:=by simp
 obj:=fun i h st b hb=>by
  have e:b=it:=by simpa using hb
  subst e;obtain⟨o,e,c,d⟩:=st;exact⟨o,e,fun v z=>by rw[d]at z;cases z⟩
 keep:=fun i h h' st k=>st.at fun o e=>k it (by simp) o e;item:=by intro X hP hw hK hc i pins s σ H E I hf st hg;subst hP hw hK;obtain⟨xs,x,hq,hx⟩:=hg;obtain⟨its,rv,p,hz⟩:=I.list hq;obtain⟨u,hu,ru⟩:=rv.get hx;obtain⟨f0,f1,f2,f3,f4,f5⟩:=hf it (by simp);refine wpAny_pyNext_list_item st p.isList (x:=u) (by simpa using hu) fun h' st' sb=>?_;have I1:Inv X pins σ H {s with heap:=h'}:=I.turned (t':=s.toks) (fun b o hb e=>(sb.2 b hb).trans e) f0 f1 f3 f4 f5;obtain⟨o,e,c,d⟩:=id st';exact⟨u,rfl,yO (s:={s with heap:=h'}) e c d (by decide) ⟨x,H,I1,ru,⟨rfl,fun ys hy=>by rw[I.pK hy hq];exact hx⟩,st',fun b hb=>(hf b hb).1⟩⟩
 done:=by intro X hP hw hK hc i pins s σ H E I hf st hg;subst hP hw hK;obtain⟨xs,hq,hx⟩:=hg;obtain⟨its,rv,p,hz⟩:=I.list hq;obtain⟨f0,f1,f2,f3,f4,f5⟩:=hf it (by simp);have hl:=rv.length;exact wpAny_pyNext_list_end (I.ok.hd hc) st p.isList (by simp;omega) fun h' eb=>⟨rfl,I.turned (t':=s.toks) (fun b o hb e=>eb b o hb e) f0 f1 f3 f4 f5⟩
 self:=fun _ _ _ _ _ st h=>wpAny_pyIter_listiter st h
theorem xF{P:Program}{w:World}{K:PySem.W.Frag}{tg:Expr}(a it:Addr):Turn P w K tg (SN K a) [it] it (fun i h=>h.IsTupleIter it a i)where
 mem:=by simp
 obj:=fun i h st b hb=>by
  have e:b=it:=by simpa using hb
  subst e;obtain⟨o,e,c,d⟩:=st;exact⟨o,e,fun v z=>by rw[d]at z;cases z⟩
 keep:=fun i h h' st k=>st.at fun o e=>k it (by simp) o e;item:=by intro X hP hw hK hc i pins s σ H E I hf st hg;subst hP hw hK;obtain⟨xs,x,hq,hx⟩:=hg;obtain⟨its,rv,p,hz⟩:=I.tuple hq;obtain⟨u,hu,ru⟩:=rv.get hx;obtain⟨f0,f1,f2,f3,f4,f5⟩:=hf it (by simp);refine wpAny_pyNext_tuple_item st (show s.heap.IsTuple a its.toArray from p) (x:=u) (by simpa using hu) fun h' st' sb=>?_;have I1:Inv X pins σ H {s with heap:=h'}:=I.turned (t':=s.toks) (fun b o hb e=>(sb.2 b hb).trans e) f0 f1 f3 f4 f5;obtain⟨o,e,c,d⟩:=id st';exact⟨u,rfl,yO (s:={s with heap:=h'}) e c d (by decide) ⟨x,H,I1,ru,⟨rfl,fun ys hy=>by rw[I.mL hy hq];exact hx⟩,st',fun b hb=>(hf b hb).1⟩⟩
 done:=by intro X hP hw hK hc i pins s σ H E I hf st hg;subst hP hw hK;obtain⟨xs,hq,hx⟩:=hg;obtain⟨its,rv,p,hz⟩:=I.tuple hq;obtain⟨f0,f1,f2,f3,f4,f5⟩:=hf it (by simp);have hl:=rv.length;exact wpAny_pyNext_tuple_end (I.ok.hd hc) st (show s.heap.IsTuple a its.toArray from p) (by simp;omega) fun h' eb=>⟨rfl,I.turned (t':=s.toks) (fun b o hb e=>eb b o hb e) f0 f1 f3 f4 f5⟩
 self:=fun _ _ _ _ _ st h=>wpAny_pyIter_tupleiter st h
theorem xH{P:Program}{w:World}{K:PySem.W.Frag}{tg:Expr}(it:Addr)(lo:Int)(n:Nat):Turn P w K tg (Rv lo n) [it] it (fun i h=>IsRangeIter h it (lo+(i:Nat)*1) ((n:Int)-(i:Nat)) 1)where
 mem:=by simp
 obj:=fun i h st b hb=>by
  have e:b=it:=by simpa using hb
  subst e;exact⟨_,st,fun v z=>by have z':Data.fields _=Data.cell v:=z;cases z'⟩
 keep:=fun i h h' st k=>k it (by simp) _ st;item:=by intro X hP hw hK hc i pins s σ H E I hf st hg;subst hP hw hK;obtain⟨f0,f1,f2,f3,f4,f5⟩:=hf it (by simp);have W:=Walks.range (prog:=X.prog) (w:=X.w) (I.ok.hd hc) it lo 1 n;refine W.item i s _ _ hg st fun v h' tk hv st' kk=>?_;obtain⟨t,rfl⟩:=hv;have I1:Inv X pins σ H {s with heap:=h',toks:=tk}:=I.turned (fun b o hb e=>kk b o (by simpa using hb) e) f0 f1 f3 f4 f5;refine⟨_,rfl,yO (s:={s with heap:=h',toks:=tk}) (n:="range_iterator") st' rfl rfl (by decide) ⟨.int (lo+i),H,I1,⟨t,?_⟩,⟨rfl,rfl⟩,st',fun b hb=>(hf b hb).1⟩⟩;rw[Int.mul_one]
 done:=by intro X hP hw hK hc i pins s σ H E I hf st hg;subst hP hw hK;obtain⟨f0,f1,f2,f3,f4,f5⟩:=hf it (by simp);exact wpAny_pyNext_range_end (I.ok.hd hc) st (by have:n<=i:=hg;omega) fun h' eb=>⟨rfl,I.turned (t':=s.toks) (fun b o hb e=>eb b o hb e) f0 f1 f3 f4 f5⟩
 self:=fun _ _ _ _ _ st h=>wpAny_pyIter_rangeiter st h
end L2
namespace L2
open PySem PySem.Spec PyProof.Rows
section
variable{X:Cx}{tg:Expr}
theorem uY{pins:List (Addr×Obj)}{σ:St}{H:Hp}{s:Shared}{R:It->Hp->Prop}{E:Value->Shared->Prop}{lo hi:Int}{t u v:Tok}{tk:Nat}(I:Inv X pins σ H s)(h1:-(2^62)<=lo)(h2:lo<2^62)(h3:-(2^62)<=hi)(h4:hi<2^62)(q:R (Rv lo (hi-lo).toNat) H):wpAny (model X.prog X.w) X.A (pyIter (.ref s.heap.objs.size)) (PIE X pins σ tg R) E {s with heap:=s.heap.push {cls:=.type "range",data:=.fields #[.int lo t,.int hi u,.int 1 v]},toks:=tk}:=by
 refine wpAny_pyIter_range (IsRange.new ..) (small_one h1 h2 h3 h4) ?_;have I1:Inv X pins σ H {s with heap:=s.heap.push {cls:=.type "range",data:=.fields #[.int lo t,.int hi u,.int 1 v]},toks:=tk}:=I.kept fun b o e=>Heap.get?_push_of_some _ e;refine⟨(s.heap.push {cls:=.type "range",data:=.fields #[.int lo t,.int hi u,.int 1 v]}).objs.size,[(s.heap.push {cls:=.type "range",data:=.fields #[.int lo t,.int hi u,.int 1 v]}).objs.size],_,_,H,rfl,I1.kept (t':=tk) fun b o e=>Heap.get?_push_of_some _ e,xH _ lo (hi-lo).toNat,?_,fun b hb=>?_,q⟩
 . have e1:lo+((0:Nat):Int)*1=lo:=by simp
   have e2:(((hi-lo).toNat:Nat):Int)-((0:Nat):Int)=Builtin.Range.rangeSize lo hi 1:=by rw[rangeSize_one];split<;>omega
   show IsRangeIter _ _ (lo+((0:Nat):Int)*1) ((((hi-lo).toNat:Nat):Int)-((0:Nat):Int)) 1;rw[e1,e2];exact Heap.get?_push_size _ rfl
 . have e:b=(s.heap.push {cls:=.type "range",data:=.fields #[.int lo t,.int hi u,.int 1 v]}).objs.size:=by simpa using hb
   subst e;exact I1.Bd (Nat.le_refl _) (I1.hok.fresh (Nat.le_refl _))
noncomputable def V0(ta:TA):TI:=fun σ H R=>ta σ H fun vs H1=>∃j:Int,vs=[.int j]/\-(2^62)<=j/\j<2^62/\R (Rv 0 j.toNat) H1
noncomputable def Wg(ta:TA):TI:=fun σ H R=>ta σ H fun vs H1=>∃i j:Int,vs=[.int i,.int j]/\(-(2^62)<=i/\i<2^62/\-(2^62)<=j/\j<2^62)/\R (Rv i (j-i).toNat) H1
theorem Bp{a:Expr}{ta:TA}{p pos:Pos}(hg:Gl X "range")(hm:X.mg "range"=none)(ha:PA X [a] ta)(hs:starEach [a] X.env=[(false,eval a X.env)]:=by rfl):PI X tg (.Call (.Name "range" p) [a] [] pos) (V0 ta):=by intro pins s σ H R I h;refine Call_ (mq I hg hm boot_range (PyProof.Rows.callWith_type1 (dz (ha pos pins s σ H _ I h) fun us s1⟨vs,H1,I1,r1,q1⟩=>?_) hs rfl));obtain⟨j,e,q1,q2,q⟩:=q1;subst e;cases r1 with|cons r rr=>cases rr;obtain⟨t,rfl⟩:=r;exact call_range_1 (uY I1 (by omega) (by omega) q1 q2 (by simpa using q))
theorem rF{a b:Expr}{ta:TA}{p pos:Pos}(hg:Gl X "range")(hm:X.mg "range"=none)(ha:PA X [a,b] ta)(hs:starEach [a,b] X.env=[(false,eval a X.env),(false,eval b X.env)]:=by rfl)(hs2:starEach [b] X.env=[(false,eval b X.env)]:=by rfl):PI X tg (.Call (.Name "range" p) [a,b] [] pos) (Wg ta):=by intro pins s σ H R I h;refine Call_ (mq I hg hm boot_range (PyProof.Rows.callWith_type1 (dz (ha pos pins s σ H _ I h) fun us s1⟨vs,H1,I1,r1,q1⟩=>?_) (by rw[hs,hs2]) (by rw[hs2];rfl)));obtain⟨i,j,e,⟨q1,q2,q3,q4⟩,q⟩:=q1;subst e;cases r1 with|cons r rr=>cases rr with|cons r' rr=>cases rr;obtain⟨t,rfl⟩:=r;obtain⟨t',rfl⟩:=r';exact call_range_2 (uY I1 q1 q2 q3 q4 q)
noncomputable def Zo(wi:TI)(g:TG)(tb:TS):TS:=fun D σ H=>wi σ H fun J H1=>∃W:Nat->Nat->St->Hp->Prop,(∃m,W 0 m σ H1)/\∀i m σ H,W i m σ H->(J.stop i H/\D.nx σ H)\/(J.go i H/\∃N:St->Hp->Prop,(∀σ' H',N σ' H'->∃m',m'<m/\W (i+1) m' σ' H')/\∀x H',J.Kw i H x H'->g x σ H' fun σ2 H2=>tb {D with nx:=N,ct:=N,bk:=D.nx} σ2 H2)
noncomputable def o9(fp:List Addr)(h:Heap):List (Addr×Obj):=fp.filterMap fun b=>(h.get? b).map fun o=>(b,o)
theorem iG{fp:List Addr}{h:Heap}{b:Addr}{o:Obj}(hb:b∈fp)(e:h.get? b=some o):(b,o)∈o9 fp h:=List.mem_filterMap.mpr ⟨b,hb,by rw[e];rfl⟩
theorem Al{fp:List Addr}{h:Heap}{p:Addr×Obj}(hp:p∈o9 fp h):p.1∈fp/\h.get? p.1=some p.2:=by obtain⟨b,hb,e⟩:=List.mem_filterMap.mp hp;cases q:h.get? b with|none=>rw[q]at e;cases e|some o=>rw[q]at e;have e':(b,o)=p:=Option.some.inj e;subst e';exact⟨hb,q⟩
theorem Inv.pinned{pins:List (Addr×Obj)}{σ:St}{H:Hp}{s:Shared}{fp:List Addr}(I:Inv X pins σ H s)(hf:∀b∈fp,mU X pins H b)(ho:∀b∈fp,∃o,s.heap.get? b=some o/\∀v,o.data≠.cell v):Inv X (pins++o9 fp s.heap) σ H s:=I.zb fun p hp=>(List.mem_append.mp hp).elim (fun z=>I.pin p (List.mem_append_right _ z)) fun z=>by obtain⟨hb,e⟩:=Al z;obtain⟨f0,f1,f2,_⟩:=hf p.1 hb;obtain⟨o,e',d⟩:=ho p.1 hb;rw[e]at e';cases e';exact⟨e,f0,f1,f2,d⟩
theorem Inv.j9{pins pl:List (Addr×Obj)}{σ:St}{H:Hp}{s:Shared}(I:Inv X (pins++pl) σ H s):Inv X pins σ H s:=I.zb fun p hp=>I.pin p (List.mem_append_right _ (List.mem_append_left _ hp))
theorem xQ{iter:Expr}{body:List Stmt}{wi:TI}{g:TG}{tb:TS}{pos:Pos}(hp:PassesOwn (model X.prog X.w) X.A X.env X.xe)(hc:X.calm=true)(hi:PI X tg iter wi)(hg:PG X tg g)(hb:wW X body tb)(hs:∀x,foldedSetIterable iter X.env x=pure x:=by intro _;rfl):PS X (.For tg iter body [] pos) (Zo wi g tb):=by
 intro pins s σ H D I h;refine wpAny_For (dz (hi pins s σ H _ I h) fun v s1 h1=>dz h1 fun itv s2 h2=>?_) hs;obtain⟨it,fp,tn,J,H2,e,I2,T,st2,f2,W,⟨m0,w0⟩,turn⟩:=h2;subst e--what stays true of the iterator's objects through the loop
 have stat:∀{H':Hp},(∀b∈fp,H' b=none)->∀b∈fp,mU X pins H' b:=fun hn b hb=>⟨hn b hb,(f2 b hb).2⟩;refine codeAny_forLoop_any (fun n s'=>∃i σ' H',Inv X pins σ' H' s'/\tn i s'.heap/\(∀b∈fp,H' b=none)/\W i n σ' H') ?_ m0 ⟨0,σ,H2,I2,st2,fun b hb=>(f2 b hb).1,w0⟩;rintro n s3⟨i,σ3,H3,I3,st3,fr3,w3⟩;rcases turn i n σ3 H3 w3 with⟨stop,qn⟩|⟨go,N,hN,step⟩;.refine wpAny_passesOwn hp (dz (T.done X rfl rfl rfl hc i pins s3 σ3 H3 X.xe I3 (stat fr3) st3 stop) fun r s4⟨hr,I4⟩=>?_);subst hr;exact wpAny_execs_nil ⟨σ3,H3,I4,qn⟩
 . refine wpAny_passesOwn hp (dz (T.item X rfl rfl rfl hc i pins s3 σ3 H3 X.xe I3 (stat fr3) st3 go) fun r s4⟨u,hr,h4⟩=>?_);subst hr;refine wpAny_passesOwn hp (dz h4 fun _ s5⟨x,H5,I5,r5,y5,Ky,fr5⟩=>?_);have I5':=I5.pinned (stat fr5) (T.obj _ _ Ky);refine wpAny_passesOwn hp (dz (hg _ s5 σ3 H5 x u _ I5' r5 (step x H5 y5)) fun _ s6⟨σ6,H6,I6,q6⟩=>?_);refine wpAny_passesOwn hp (dz (hb _ s6 σ6 H6 _ I6 q6) fun f s7 q7=>?_);have again:∀{σ7:St}{H7:Hp},Inv X (pins++o9 fp s5.heap) σ7 H7 s7->N σ7 H7->∃m,m<n/\∃i σ' H',Inv X pins σ' H' s7/\tn i s7.heap/\(∀b∈fp,H' b=none)/\W i m σ' H':=fun{σ7 H7}I7 n7=>by obtain⟨m',hm,w7⟩:=hN σ7 H7 n7;refine⟨m',hm,i+1,σ7,H7,I7.j9,T.keep _ _ _ Ky fun b hb o e=>(I7.pin (b,o) (List.mem_append_right _ (List.mem_append_right _ (iG hb e)))).1,fun b hb=>?_,w7⟩;obtain⟨o,e,d⟩:=T.obj _ _ Ky b hb;exact(I7.pin (b,o) (List.mem_append_right _ (List.mem_append_right _ (iG hb e)))).2.1
   cases f with|next=>obtain⟨σ7,H7,I7,n7⟩:=q7;exact again I7 n7|cont=>obtain⟨σ7,H7,I7,n7⟩:=q7;exact again I7 n7|brk=>obtain⟨σ7,H7,I7,q7⟩:=q7;exact⟨σ7,H7,I7.j9,q7⟩|ret v=>obtain⟨x7,σ7,H7,I7,r7,q7⟩:=q7;exact⟨x7,σ7,H7,I7.j9,r7,q7⟩
end
end L2
namespace L2
open PySem PySem.Spec PyProof.Rows
noncomputable abbrev R2:=V->V->Hp->VK->Prop
noncomputable def gY(X:Cx)(f:Value->Value->Sem Value)(r:R2):Prop:=∀(pins:List (Addr × Obj))(s:Shared)(σ:St)(H:Hp)(x y:V)(v u:Value)(Q:VK),Inv X pins σ H s->RelV x v->RelV y u->r x y H Q->wpAny (model X.prog X.w) X.A (f v u) (EP X pins σ Q) X.xe s
noncomputable def UnR(X:Cx)(f:Value->Sem Value)(r:V->Hp->VK->Prop):Prop:=∀(pins:List (Addr × Obj))(s:Shared)(σ:St)(H:Hp)(x:V)(v:Value)(Q:VK),Inv X pins σ H s->RelV x v->r x H Q->wpAny (model X.prog X.w) X.A (f v) (EP X pins σ Q) X.xe s
noncomputable def dq(X:Cx)(f:Value)(r:List V->Hp->VK->Prop):Prop:=∀(pins:List (Addr × Obj))(s:Shared)(σ:St)(H:Hp)(xs:List V)(us:List Value)(Q:VK),Inv X pins σ H s->Vals xs us->r xs H Q->wpAny (model X.prog X.w) X.A (call f us) (EP X pins σ Q) X.xe s
noncomputable def Hv(r:R2)(ta tb:TE):TE:=fun σ H Q=>ta σ H fun x H1=>tb σ H1 fun y H2=>r x y H2 Q
noncomputable def tUn(r:V->Hp->VK->Prop)(ta:TE):TE:=fun σ H Q=>ta σ H fun x H1=>r x H1 Q
noncomputable def rI(C:Int->Int->Prop)(g:Int->Int->V):R2:=fun x y H Q=>∃i j,x=.int i/\y=.int j/\C i j/\Q (g i j) H
noncomputable def Hr(g:Int->Int->V):R2:=fun x y H Q=>∃i j,x=.int i/\y=.int j/\Q (g i j) H
noncomputable def rU(g:Int->V):V->Hp->VK->Prop:=fun x H Q=>∃i,x=.int i/\Q (g i) H
section
variable{X:Cx}{a b c:Expr}{ta tb tc:TE}{pos:Pos}
theorem Oz(ha:PE X a ta)(hb:PE X b tb){pins:List (Addr×Obj)}{s:Shared}{σ:St}{H:Hp}{R:V->V->Hp->Prop}(I:Inv X pins σ H s)(h:ta σ H fun x H1=>tb σ H1 fun y H2=>R x y H2){Q:Value->Shared->Prop}{f:Value->Value->Sem Value}(hf:∀v u s2 x y H2,Inv X pins σ H2 s2->RelV x v->RelV y u->R x y H2->wpAny (model X.prog X.w) X.A (f v u) Q X.xe s2):wpAny (model X.prog X.w) X.A (eval a X.env) (fun v s₁=>wpAny (model X.prog X.w) X.A (eval b X.env) (fun u s₂=>wpAny (model X.prog X.w) X.A (f v u) Q X.xe s₂) X.xe s₁) X.xe s:=by refine dz (ha pins s σ H _ I h) fun v s1⟨x,H1,I1,r1,q1⟩=>?_;refine dz (hb pins s1 σ H1 _ I1 q1) fun u s2⟨y,H2,I2,r2,q2⟩=>?_;exact hf v u s2 x y H2 I2 r1 r2 q2
theorem V6{op:Operator}{r:R2}(ho:gY X (binaryOp op) r)(ha:PE X a ta)(hb:PE X b tb):PE X (.BinOp a op b pos) (Hv r ta tb):=by intro pins s σ H Q I h;exact wpAny_BinOp (Oz ha hb I h fun v u s2 x y H2 I2 rx ry q=>ho pins s2 σ H2 x y v u Q I2 rx ry q)
theorem Vc{op:UnaryOp}{r:V->Hp->VK->Prop}(ho:UnR X (unaryOp op) r)(ha:PE X a ta):PE X (.UnaryOp op a pos) (tUn r ta):=by intro pins s σ H Q I h;exact UnaryOp_ (dz (ha pins s σ H _ I h) fun v s1⟨x,H1,I1,r1,q1⟩=>ho pins s1 σ H1 x v Q I1 r1 q1)
theorem opI{f:Value->Value->Sem Value}{C:Int->Int->Prop}{g:Int->Int->Int}(rule:∀(i j:Int)(t u:Tok)(s:Shared)(Q:Value->Shared->Prop)(E:Value->Shared->Prop),C i j->Q (.int (g i j) s.toks) {s with toks:=s.toks+1}->wpAny (model X.prog X.w) X.A (f (.int i t) (.int j u)) Q E s):gY X f (rI C fun i j=>.int (g i j)):=by intro pins s σ H x y v u Q I rx ry h;obtain⟨i,j,rfl,rfl,hc,q⟩:=h;obtain⟨t,rfl⟩:=rx;obtain⟨t',rfl⟩:=ry;exact rule i j t t' s _ _ hc ⟨.int (g i j),H,I.tok _,⟨_,rfl⟩,q⟩
theorem U9{f:Value->Value->Sem Value}{g:Int->Int->Int}(rule:∀(i j:Int)(t u:Tok)(s:Shared)(Q:Value->Shared->Prop)(E:Value->Shared->Prop),Q (.int (g i j) s.toks) {s with toks:=s.toks+1}->wpAny (model X.prog X.w) X.A (f (.int i t) (.int j u)) Q E s):gY X f (Hr fun i j=>.int (g i j)):=by intro pins s σ H x y v u Q I rx ry h;obtain⟨i,j,rfl,rfl,q⟩:=h;obtain⟨t,rfl⟩:=rx;obtain⟨t',rfl⟩:=ry;exact rule i j t t' s _ _ ⟨.int (g i j),H,I.tok _,⟨_,rfl⟩,q⟩
theorem Iw{f:Value->Value->Sem Value}{g:Int->Int->Bool}(rule:∀(i j:Int)(t u:Tok)(s:Shared)(Q:Value->Shared->Prop)(E:Value->Shared->Prop),Q (.bool (g i j)) s->wpAny (model X.prog X.w) X.A (f (.int i t) (.int j u)) Q E s):gY X f (Hr fun i j=>.bl (g i j)):=by intro pins s σ H x y v u Q I rx ry h;obtain⟨i,j,rfl,rfl,q⟩:=h;obtain⟨t,rfl⟩:=rx;obtain⟨t',rfl⟩:=ry;exact rule i j t t' s _ _ ⟨.bl (g i j),H,I,rfl,q⟩
noncomputable def Zv(i j:Int):Prop:=0<=j/\j<=1000000/\i.natAbs<2^64
noncomputable def Ph(i j:Int):Prop:=(-(2^64)<i/\i<2^64)\/(-(2^64)<j/\j<2^64)
theorem Ph.ok{i j:Int}(h:Ph i j):IntMulOk i j:=by
 rcases h with⟨h1,h2⟩|⟨h1,h2⟩;.exact .of_left (intBits_le_64 h1 h2)
 .exact .of_right (intBits_le_64 h1 h2)
theorem Pu:gY X (binaryOp .Add) (Hr fun i j=>.int (i+j)):=U9 fun _ _ _ _ _ _ _ q=>add_int q
theorem MN:gY X (binaryOp .Sub) (Hr fun i j=>.int (i-j)):=U9 fun _ _ _ _ _ _ _ q=>sub_int q
theorem Pr:gY X (binaryOp .Mult) (rI Ph fun i j=>.int (i*j)):=opI fun _ _ _ _ _ _ _ hc q=>mul_int q hc.ok
theorem Qq:gY X (binaryOp .Mod) (rI (fun _ j=>0<j) fun i j=>.int (i%j)):=opI fun i j _ _ _ _ _ hc q=>by have h1:(0:Int)<j:=hc;exact mod_int' (by omega) (by rw[Int.fmod_eq_emod_of_nonneg i (by omega)];exact q)
theorem P0:gY X (binaryOp .Pow) (rI Zv fun i j=>.int (i^j.toNat)):=opI fun _ _ _ _ _ _ _ hc q=>pow_int_small hc.1 hc.2.1 hc.2.2 q
theorem unI{f:Value->Sem Value}{g:Int->Int}(rule:∀(i:Int)(t:Tok)(s:Shared)(Q:Value->Shared->Prop)(E:Value->Shared->Prop),Q (.int (g i) s.toks) {s with toks:=s.toks+1}->wpAny (model X.prog X.w) X.A (f (.int i t)) Q E s):UnR X f (rU fun i=>.int (g i)):=by intro pins s σ H x v Q I rx h;obtain⟨i,rfl,q⟩:=h;obtain⟨t,rfl⟩:=rx;exact rule i t s _ _ ⟨.int (g i),H,I.tok _,⟨_,rfl⟩,q⟩
theorem O7:UnR X (unaryOp .USub) (rU fun i=>.int (-i)):=unI fun _ _ _ _ _ q=>neg_int q
end
section
variable{X:Cx}{a b c:Expr}{ta tb tc:TE}{pos:Pos}
theorem Wc:gY X (compareOp .Lt) (Hr fun i j=>.bl (decide (i<j))):=Iw fun _ _ _ _ _ _ _ q=>lt_int q
theorem V5:gY X (compareOp .LtE) (Hr fun i j=>.bl (decide (i<=j))):=Iw fun _ _ _ _ _ _ _ q=>le_int q
theorem Ui:gY X (compareOp .Gt) (Hr fun i j=>.bl (decide (j<i))):=Iw fun _ _ _ _ _ _ _ q=>gt_int q
theorem Wa:gY X (compareOp .GtE) (Hr fun i j=>.bl (decide (j<=i))):=Iw fun _ _ _ _ _ _ _ q=>ge_int q
theorem bM(b:Expr){op:CmpOp}(h:op≠.In:=by decide)(h2:op≠.NotIn:=by decide):behindInMarks op b=false:=by
 have e1:(op==CmpOp.In)=false:=by cases op<;>first|rfl|exact absurd rfl h
 have e2:(op==CmpOp.NotIn)=false:=by cases op<;>first|rfl|exact absurd rfl h2
 cases b<;>simp[behindInMarks,e1,e2]
theorem HR{op:CmpOp}{r:R2}(ho:gY X (compareOp op) r)(ha:PE X a ta)(hb:PE X b tb)(hm:behindInMarks op b=false):PE X (.Compare a [op] [b] pos) (Hv r ta tb):=by intro pins s σ H Q I h;exact wpAny_Compare1 (Oz ha hb I h fun v u s2 x y H2 I2 rx ry q=>ho pins s2 σ H2 x y v u Q I2 rx ry q) hm
noncomputable def Wr(t:TE):TT:=fun σ H Q=>t σ H fun x H'=>∃k,x=.bl k/\Q k H'
theorem Ip{op:CmpOp}{r:R2}(ho:gY X (compareOp op) r)(ha:PE X a ta)(hb:PE X b tb)(hm:behindInMarks op b=false):PT X (.Compare a [op] [b] pos) (Wr (Hv r ta tb)):=by intro pins s σ H Q I h;refine wpAny_isTrue_Compare1 (dz (ha pins s σ H _ I h) fun v s1⟨x,H1,I1,r1,q1⟩=>dz (hb pins s1 σ H1 _ I1 q1) fun u s2⟨y,H2,I2,r2,q2⟩=>dz (ho pins s2 σ H2 x y v u _ I2 r1 r2 q2) fun c s3⟨z,H3,I3,r3,k,e,q3⟩=>?_) hm;subst e;cases r3;exact wpAny_truthy_bool ⟨H3,I3,q3⟩
theorem rT:(sizeLine:Nat)<2^63:=by rw[sizeLine_eq];decide
theorem xW:gY X (binaryOp .Add) (fun x y H Q=>∃i j,x=.str i/\y=.str j/\i.length+j.length<=sizeLine/\Q (.str (i++j)) H):=by intro pins s σ H x y v u Q I rx ry h;obtain⟨i,j,rfl,rfl,hz,q⟩:=h;obtain⟨t,rfl⟩:=rx;obtain⟨t',rfl⟩:=ry;exact add_str (fun t' tk=>⟨.str (i++j),H,I.tok _,⟨_,rfl⟩,q⟩) hz
theorem vals1{x:V}{us:List Value}(r:Vals [x] us):∃u,us=[u]/\RelV x u:=by cases r with|cons r1 r2=>cases r2;exact⟨_,rfl,r1⟩
theorem vals2{x y:V}{us:List Value}(r:Vals [x,y] us):∃u w',us=[u,w']/\RelV x u/\RelV y w':=by cases r with|cons r1 r2=>cases r2 with|cons r3 r4=>cases r4;exact⟨_,_,rfl,r1,r3⟩
theorem Fv:dq X (.builtin "abs") (fun xs H Q=>∃i,xs=[.int i]/\Q (.int (if i<0 then-i else i)) H):=by intro pins s σ H xs us Q I r h;obtain⟨i,rfl,q⟩:=h;obtain⟨u,rfl,t,rfl⟩:=vals1 r;exact call_abs_int fun u tk=>⟨.int (if i<0 then-i else i),H,I.tok _,⟨_,rfl⟩,q⟩
theorem BR(hc:X.calm=true):dq X (.builtin "max") (fun xs H Q=>∃i j,xs=[.int i,.int j]/\Q (.int (if j>i then j else i)) H):=by
 intro pins s σ H xs us Q I r h;obtain⟨i,j,rfl,q⟩:=h;obtain⟨u,w',rfl,⟨t,rfl⟩,⟨t',rfl⟩⟩:=vals2 r;refine max_two_ints (I.ok.hd hc) fun h' tk k=>⟨_,H,I.kept k,?_,q⟩;by_cases hj:j>i;.rw[if_pos hj,if_pos hj];exact⟨_,rfl⟩
 .rw[if_neg hj,if_neg hj];exact⟨_,rfl⟩
theorem Bc(hc:X.calm=true):dq X (.builtin "min") (fun xs H Q=>∃i j,xs=[.int i,.int j]/\Q (.int (if j<i then j else i)) H):=by
 intro pins s σ H xs us Q I r h;obtain⟨i,j,rfl,q⟩:=h;obtain⟨u,w',rfl,⟨t,rfl⟩,⟨t',rfl⟩⟩:=vals2 r;refine min_two_ints (I.ok.hd hc) fun h' tk k=>⟨_,H,I.kept k,?_,q⟩;by_cases hj:j<i;.rw[if_pos hj,if_pos hj];exact⟨_,rfl⟩
 .rw[if_neg hj,if_neg hj];exact⟨_,rfl⟩
theorem qD:dq X (.type "int") (fun xs H Q=>(∃i,xs=[.int i]/\Q (.int i) H)\/∃k,xs=[.bl k]/\Q (.int (if k then 1 else 0)) H):=by
 intro pins s σ H xs us Q I r h;rcases h with⟨i,rfl,q⟩|⟨k,rfl,q⟩;.obtain⟨u,rfl,t,rfl⟩:=vals1 r;exact call_int_int ⟨.int i,H,I,⟨_,rfl⟩,q⟩
 .obtain⟨u,rfl,r1⟩:=vals1 r;cases r1;exact call_int_bool ⟨.int (if k then 1 else 0),H,I.tok _,⟨_,rfl⟩,q⟩
end
end L2
namespace L2
open PySem PySem.Spec PyProof.Rows
theorem nG.some_of{v:V}{o:Option Value}(r:nG (some v) o):∃u,o=some u/\RelV v u:=by cases o with|none=>exact(show False from r).elim|some u=>exact⟨u,rfl,r⟩
end L2
namespace L2
open PySem PySem.Spec PyProof.Rows
structure jb(k:Nat)(A:Around):Prop where
 hd:A.handled=none
 dp:A.depth+3*k+5<recursionLimit
 un:A.units+16*k+200<cLine
theorem jb.deeper{k:Nat}{A:Around}(r:jb (k+1) A)(env:Env):jb k (A.deeper env):=⟨r.hd,by have:=r.dp;show A.depth+1+3*k+5<_;omega,by have:=r.un;show A.units+3+16*k+200<_;omega⟩
theorem jb.depth{k:Nat}{A:Around}(r:jb k A):A.depth<recursionLimit:=by have:=r.dp;omega
noncomputable def aac:TA:=fun _ H Q=>Q [] H
noncomputable def Uk(ta:TE)(tr:TA):TA:=fun σ H Q=>ta σ H fun x H1=>tr σ H1 fun xs H2=>Q (x::xs) H2
section
variable{X:Cx}{e:Expr}{es:List Expr}{te:TE}{t:TA}{pos:Pos}
theorem gO:PA X [] aac:=fun _ _ _ _ H Q I h=>Calls.spliced_nil ⟨[],H,I,.nil,h⟩
theorem cH(ha:PE X e te)(hr:PA X es t)(hs:starEach (e::es) X.env=(false,eval e X.env)::starEach es X.env:=by rfl):PA X (e::es) (Uk te t):=by intro pos pins s σ H Q I h;rw[hs];show wpAny _ _ (spliced ((false,eval e X.env)::backTo pos (starEach es X.env))) _ _ s;refine Calls.spliced_cons (dz (ha pins s σ H _ I h) fun u s1⟨x,H1,I1,r1,q1⟩=>?_);exact dz (hr pos pins s1 σ H1 _ I1 q1) fun us s2⟨xs,H2,I2,r2,q2⟩=>⟨x::xs,H2,I2,.cons r1 r2,q2⟩
noncomputable def aau(t:TA):TE:=fun σ H Q=>t σ H fun xs H1=>xs.length<=sizeLine/\∀p,H1 p=none->Q (.ref p) (upd H1 p (.tup xs))
noncomputable def aaI(t:TA):TE:=fun σ H Q=>t σ H fun xs H1=>xs.length<=sizeLine/\∀p,H1 p=none->Q (.ref p) (upd H1 p (.lst xs))
theorem tH{x1}(h:PA X es t):PE X (.Tuple es x1 pos) (aau t):=by intro pins s σ H Q I hq;refine wpAny_Tuple_spliced (dz (h pos pins s σ H _ I hq) fun us s1⟨xs,H1,I1,r,z,q⟩=>⟨by rw[<-r.length];exact z,?_⟩);have hf:H1 s1.heap.objs.size=none:=I1.hok.fresh (Nat.le_refl _);refine⟨.ref s1.heap.objs.size,upd H1 s1.heap.objs.size (.tup xs),I1.laid (t':=s1.toks) (fun b u e=>Heap.get?_push_of_some _ e) (Nat.le_refl _) ?_,rfl,q _ hf⟩;exact⟨z,us,r,⟨_,Heap.get?_push_size _ rfl,rfl,_,rfl⟩⟩
theorem CZ(h:PA X es t):PE X (.List es pos) (aaI t):=by intro pins s σ H Q I hq;refine wpAny_List_spliced (dz (h pos pins s σ H _ I hq) fun us s1⟨xs,H1,I1,r,z,q⟩=>⟨by rw[<-r.length];exact z,?_⟩);have hf:H1 s1.heap.objs.size=none:=I1.hok.fresh (Nat.le_refl _);refine⟨.ref s1.heap.objs.size,upd H1 s1.heap.objs.size (.lst xs),I1.laid (t':=s1.toks) (fun b u e=>Heap.get?_push_of_some _ e) (Nat.le_refl _) ?_,rfl,q _ hf⟩;exact⟨z,us,0,r,Heap.get?_push_size _ rfl⟩
end
noncomputable abbrev Sp:=List V->Hp->VK->XK->Prop
noncomputable abbrev Er:=List Env->Hp->Shared->XK->Value->Shared->Prop
structure Jz(P:Program)(w:World)(K:PySem.W.Frag)(mg:Str->Option Value)(base:Heap)(A:Around)(outer:List Env)(s:Shared)(H:Hp):Prop where
 frames:A.frames=some outer
 mod:Mod K mg base
 bs:∀b o,base.get? b=some o->s.heap.get? b=some o/\H b=none
 Mr:base.objs.size<=s.heap.objs.size
 oU:s.heap.FunFrames base outer
 Tq:∀b∈frs outer,H b=none
 hok:lR P w H s.heap
 bare:AllBare s.gens
noncomputable def CE(outer:List Env)(P:Program)(w:World)(H:Hp)(s:Shared)(Q:VK)(u:Value)(s':Shared):Prop:=∃v H',s'.os=s.os/\AllBare s'.gens/\Un (frs outer) [] H H' s.heap s'.heap/\lR P w H' s'.heap/\RelV v u/\Q v H'
noncomputable def CR(CX:Er)(outer:List Env)(P:Program)(w:World)(H:Hp)(s:Shared)(Q:VK)(E:XK)(r:Result)(s':Shared):Prop:=match r with|.ok (.ret u)=>CE outer P w H s Q u s'|.ok _=>False|.error e=>CX outer H s E e s'
structure cW(P:Program)(w:World)(K:PySem.W.Frag)(mg:Str->Option Value)(base:Heap)(CX:Er)(k:Nat)(f:Addr)(fd:FuncData)(ps:List Str)(sp:Sp):Prop where
 len:∀vs H Q E,sp vs H Q E->vs.length=ps.length
 run:∀(A:Around)(outer:List Env)(s:Shared)(H:Hp)(args:Args)(us:List Value)(vs:List V)(Q:VK)(E:XK),jb k A->Jz P w K mg base A outer s H->BindsTo s fd args (ps.zip us)->Vals vs us->sp vs H Q E->codeAny (model P w) A (.call (.ref f) args) (CR CX outer P w H s Q E) s
section
variable{X:Cx}{pins:List (Addr×Obj)}{σ:St}{H:Hp}{s s':Shared}
theorem Inv.env0(I:Inv X pins σ H s):Jz X.prog X.w X.K X.mg X.base X.A X.stack s H:=⟨I.ok.frames,I.ok.mod,I.bs,Nat.le_trans I.ok.Mr I.sz,I.stack,I.zc,I.hok,I.bare⟩
theorem Inv.after{Q:VK}{u:Value}(I:Inv X pins σ H s)(h:CE X.stack X.prog X.w H s Q u s'):EP X pins σ Q u s':=by obtain⟨v,H',os,bare,un,hok,r,q⟩:=h;obtain⟨hh,g,d,t,os'⟩:=s';obtain rfl:os'=s.os:=os;exact⟨v,H',I.call (h':=hh) (g':=g) (d':=d) (t':=t) (ch:=[]) un hok bare (fun b z=>absurd z (by simp)),r,q⟩
end
noncomputable def Ul(sp:Sp)(Mt:List V)(E:XK)(t:TA):TE:=fun σ H Q=>t σ H fun vs H1=>sp (vs++Mt) H1 Q E
noncomputable def Binds(K:PySem.W.Frag)(fd:FuncData)(ps:List Str)(ds:List Value):Prop:=∀(s:Shared)(us:List Value),K.In s.heap->(us++ds).length=ps.length->BindsTo s fd ⟨us,[]⟩ (ps.zip (us++ds))
theorem Binds.all{K:PySem.W.Frag}{fd:FuncData}{ps:List Str}(h:∀us:List Value,us.length=ps.length->bindArgs fd ⟨us,[]⟩=pure (ps.zip us)):Binds K fd ps []:=fun s us _ hl=>by rw[List.append_nil]at hl ⊢;exact .of_eq (h us hl)
noncomputable def Passes(CX:Er)(X:Cx)(E:XK):Prop:=∀(pins:List (Addr×Obj))(σ:St)(H:Hp)(s:Shared)(e:Value)(s':Shared),Inv X pins σ H s->CX X.stack H s E e s'->X.xe e s'
section
variable{X:Cx}{CX:Er}{k:Nat}{f C:Addr}{fd:FuncData}{ps:List Str}{sp:Sp}{Mt:List V}{ds:List Value}{E:XK}{x m:Str}{p pos apos:Pos}{e o:Expr}{es:List Expr}{ta:TE}{t:TA}
theorem Og{pins:List (Addr×Obj)}{σ:St}{H:Hp}{s:Shared}{Q:VK}{us:List Value}{vs:List V}(F:cW X.prog X.w X.K X.mg X.base CX k f fd ps sp)(hr:jb k X.A)(hb:Binds X.K fd ps ds)(hd:Vals Mt ds)(hx:Passes CX X E)(I:Inv X pins σ H s)(r:Vals vs us)(h:sp (vs++Mt) H Q E):wpAny (model X.prog X.w) X.A (call (.ref f) us) (EP X pins σ Q) X.xe s:=by
 have r2:Vals (vs++Mt) (us++ds):=r.append hd;have hl:(us++ds).length=ps.length:=by rw[<-r2.length];exact F.len _ _ _ _ h
 refine wpAny_call (codeAny_mono (F.run X.A X.stack s H ⟨us,[]⟩ (us++ds) (vs++Mt) Q E hr I.env0 (hb s us I.QR hl) r2 h) fun r s' hq=>?_);cases r with|error e=>exact hx pins σ H s e s' I hq|ok fl=>cases fl with|ret u=>exact I.after hq|next=>exact False.elim hq|brk=>exact False.elim hq|cont=>exact False.elim hq
theorem Ka(F:cW X.prog X.w X.K X.mg X.base CX k f fd ps sp)(hr:jb k X.A)(hg:Gl X x)(hm:X.mg x=some (.ref f))(hk:PySem.W.keepIn X.K (.ref f)=true)(hb:Binds X.K fd ps ds)(hd:Vals Mt ds)(hx:Passes CX X E)(ha:PA X (e::es) t)(hdb:(x==("__debug__":Str))=false:=by decide)(he:starEach (e::es) X.env=(false,eval e X.env)::starEach es X.env:=by rfl)(hpl:(backTo pos (starEach es X.env)).any (·.1)=false:=by rfl):PE X (.Call (.Name x p) (e::es) [] pos) (Ul sp Mt E t):=by intro pins s σ H Q I h;refine wpAny_Call_Name_kw (Ik I hg hm ?_ hdb);refine PySem.W.callWith_K (h₀:=X.base) I.ok.mod.kin hk (dz (ha pos pins s σ H _ I h) fun us s1⟨vs,H1,I1,r,q⟩=>⟨I1.QR,?_⟩) he hpl;exact Og F hr hb hd hx I1 r q
end
structure bj(N P:List Str)(sc:Scope):Prop where
 kind:sc.kind=.function
 co:sc.isCoroutine=false
 gen:sc.isGenerator=false
 nd:N.Nodup
 pre:N.take P.length=P
 par:∀x∈P,sc.names.lookup x=some .local\/sc.names.lookup x=some .cell
 Q9:∀y∈sc.names,y.2≠.free
theorem qW{kindOf:Str->Option NameKind}{x:Str}:∀{binds:List (Str×Value)}{m:Str->Option Value},(∀v,(x,v)∉binds)->bindL kindOf binds m x=m x
 |[],_,_=>rfl|(n,v)::r,m,h=>by
   unfold bindL;rw[qW fun w hw=>h w (List.mem_cons_of_mem _ hw)];split
   . have:x≠n:=by rintro rfl;exact h v List.mem_cons_self
     simp[this]
   .rfl
theorem qX{kindOf:Str->Option NameKind}{x:Str}:∀{binds:List (Str×Value)}{m:Str->Option Value},(∀v,(x,v)∉binds)->bindC kindOf binds m x=m x
 |[],_,_=>rfl|(n,v)::r,m,h=>by
   unfold bindC;rw[qX fun w hw=>h w (List.mem_cons_of_mem _ hw)];split;.rfl
   . have:x≠n:=by rintro rfl;exact h v List.mem_cons_self
     simp[this]
theorem qQ{kindOf:Str->Option NameKind}{x:Str}{v:Value}:∀{P:List Str}{vs:List Value}{i:Nat}{m:Str->Option Value},P.Nodup->P[i]?=some x->vs[i]?=some v->kindOf x=some .local->bindL kindOf (P.zip vs) m x=some v|[],_,_,_,_,h,_,_=>by simp at h|_::_,[],_,_,_,_,h,_=>by simp at h|p::P,w::vs,0,m,nd,h1,h2,hk=>by simp at h1 h2;subst h1;subst h2;show bindL kindOf ((p,w)::P.zip vs) m p=_;unfold bindL;rw[qW fun v hv=>(List.nodup_cons.mp nd).1 (List.of_mem_zip hv).1,if_pos hk];simp|p::P,w::vs,i+1,m,nd,h1,h2,hk=>by show bindL kindOf ((p,w)::P.zip vs) m x=_;unfold bindL;exact qQ (i:=i) (List.nodup_cons.mp nd).2 (by simpa using h1) (by simpa using h2) hk
theorem rC{kindOf:Str->Option NameKind}{x:Str}{v:Value}:∀{P:List Str}{vs:List Value}{i:Nat}{m:Str->Option Value},P.Nodup->P[i]?=some x->vs[i]?=some v->kindOf x≠some .local->bindC kindOf (P.zip vs) m x=some v|[],_,_,_,_,h,_,_=>by simp at h|_::_,[],_,_,_,_,h,_=>by simp at h|p::P,w::vs,0,m,nd,h1,h2,hk=>by simp at h1 h2;subst h1;subst h2;show bindC kindOf ((p,w)::P.zip vs) m p=_;unfold bindC;rw[qX fun v hv=>(List.nodup_cons.mp nd).1 (List.of_mem_zip hv).1,if_neg hk];simp|p::P,w::vs,i+1,m,nd,h1,h2,hk=>by show bindC kindOf ((p,w)::P.zip vs) m x=_;unfold bindC;exact rC (i:=i) (List.nodup_cons.mp nd).2 (by simpa using h1) (by simpa using h2) hk
noncomputable def start(N:List Str)(vs:List V):St:=vs.map some++List.replicate (N.length-vs.length) none
noncomputable def yj(CX:Er)(P:Program)(w:World)(K:PySem.W.Frag)(mg:Str->Option Value)(base:Heap)(N:List Str)(qual:Str)(scope:Scope)(f:Addr)(cd:Value)(A:Around)(outer:List Env)(s:Shared)(H:Hp)(E:XK):Cx where prog:=P;w:=w;K:=K;mg:=mg;base:=base;A:=A.deeper (envOfC qual scope s.heap.objs.size f cd);N:=N;s₀:=s;H₀:=H;env:=envOfC qual scope s.heap.objs.size f cd;outer:=outer;stack:=envOfC qual scope s.heap.objs.size f cd::outer;ex:=[];calm:=true;fn:=fun _=>true;pn:=[];xe:=fun e s'=>wpAny (model P w) (A.deeper (envOfC qual scope s.heap.objs.size f cd)) (leaving (envOfC qual scope s.heap.objs.size f cd) e) (fun _ s''=>CX outer H s E e s'') (fun e' s''=>CX outer H s E e' s'') s'
theorem vZ{sc:Scope}{n:Nat}{x:Str}(h:sc.names.lookup x=some .cell):∃c,(cellsFrom n sc.names []).lookup x=some c:=by have q:=PySem.W.cellsFrom_some sc.names n [] (.inl h);exact Option.isSome_iff_exists.mp q
theorem Bu{CX:Er}{P:Program}{w:World}{K:PySem.W.Frag}{mg:Str->Option Value}{base:Heap}{N ps:List Str}{qual:Str}{scope:Scope}{f:Addr}{cd:Value}{A:Around}{outer:List Env}{s s1:Shared}{H:Hp}{E:XK}{us:List Value}{vs:List V}(S:bj N ps scope)(hd:A.handled=none)(e0:Jz P w K mg base A outer s H)(hl:vs.length=ps.length)(r:Vals vs us)(x:InCallC s s.heap.objs.size (bindL (envOfC qual scope s.heap.objs.size f cd).kindOf (ps.zip us) fun _=>none) (cellsFrom (s.heap.objs.size+1) scope.names []) (bindC (envOfC qual scope s.heap.objs.size f cd).kindOf (ps.zip us) fun _=>none) s1):Inv (yj CX P w K mg base N qual scope f cd A outer s H E) [] (start N vs) H s1:=by
 have hpl:ps.length<=N.length:=by have:=congrArg List.length S.pre;rw[List.length_take]at this;omega
 obtain⟨h1,tk,rfl,hk⟩:=x.done;have WK:∀b:Addr,b∉(yj CX P w K mg base N qual scope f cd A outer s H E).ex:=fun b z=>absurd (show b∈([]:List Addr)from z) (by simp);refine⟨⟨e0.mod,S.kind,rfl,rfl,Nat.le_refl _,fun y z c h1 h2=>?_,fun y hy=>?_,fun y c _ h=>?_,fun _=>hd,Around.frames_deeper e0.frames,.inr ⟨rfl,rfl⟩,fun b z=>absurd z (WK b),e0.bs,e0.Mr,fun b _ _=>WK b,fun b z=>absurd z (WK b),e0.oU,e0.Tq⟩,rfl,e0.bare,Un.kept hk,⟨_,x.toInCall.ns,fun i y v h1 h2 h3=>?_⟩,fun y c h=>⟨_,x.cell y c h⟩,e0.hok.fresh (Nat.le_refl _),fun y c h=>?_,fun p hp=>absurd (show p∈([]:List (Addr×Obj))from hp) (by simp),e0.hok.kept hk,?_⟩;.exact name_of_addr x.apart (PySem.mem_of_lookup h1) (PySem.mem_of_lookup h2)
 . have hy:scope.names.lookup y=some .cell\/scope.names.lookup y=some .free:=hy;rcases hy with hy|hy;.exact vZ hy
   .exact absurd rfl (S.Q9 _ (PySem.mem_of_lookup hy))
 .exact Nat.le_of_lt (x.above y c (PySem.mem_of_lookup h))
 . have hi:i<vs.length:=by
    unfold start at h2;by_cases hi:i<vs.length;.exact hi
    .rw[List.getElem?_append_right (by simpa using hi)]at h2;rw[List.getElem?_replicate]at h2;split at h2<;>cases h2
   have ha:vs[i]?=some v:=by unfold start at h2;rw[List.getElem?_append_left (by simpa using hi),List.getElem?_map]at h2;cases e:vs[i]?with|none=>rw[e]at h2;cases h2|some a=>rw[e]at h2;cases h2;rfl
   obtain⟨u,hu,rv⟩:=r.get ha;have hp:ps[i]?=some y:=by rw[<-S.pre,List.getElem?_take_of_lt (by omega)];exact h1
   have ndP:ps.Nodup:=by rw[<-S.pre];exact S.nd.sublist (List.take_sublist _ _)
   refine⟨u,rv,?_⟩;rcases S.par y (List.mem_of_getElem? hp)with k|k;.exact .inl ⟨k,qQ ndP hp hu k⟩
   .obtain⟨c,e⟩:=vZ (n:=s.heap.objs.size+1) k;refine .inr ⟨.inl k,c,e,?_⟩;have q:=x.cell y c e;rw[rC ndP hp hu (by show scope.names.lookup y≠_;rw[k];decide)]at q;exact q
 .exact e0.hok.fresh (Nat.le_of_lt (x.above y c (PySem.mem_of_lookup h)))
 .unfold start;show _=N.length;rw[List.length_append,List.length_map,List.length_replicate];omega
theorem Wq{CX:Er}{P:Program}{w:World}{K:PySem.W.Frag}{mg:Str->Option Value}{base:Heap}{k:Nat}{f:Addr}{name qual:Str}{params:Arguments}{body:List Stmt}{scope:Scope}{dV kV doc pm cdv ct oc:Value}{an od:Option Addr}{osl:Array (Option Value)}{N ps:List Str}{sp:Sp}(lk:K.lookup f=some ⟨oc,od,.func (PySem.W.fnOf name qual params body scope dV kV doc pm an cdv ct),osl⟩)(hcd:PySem.W.codeIn K cdv qual=true)(S:bj N ps scope)(len:∀vs H Q E,sp vs H Q E->vs.length=ps.length)(hbody:∀(A:Around)(outer:List Env)(s:Shared)(H:Hp)(vs:List V)(Q:VK)(E:XK),jb k (A.deeper (envOfC qual scope s.heap.objs.size f cdv))->sp vs H Q E->∃t,wW (yj CX P w K mg base N qual scope f cdv A outer s H E) body t/\t {nx:=fun _ H'=>Q .non H',rt:=Q} (start N vs) H):cW P w K mg base CX (k+1) f (PySem.W.fnOf name qual params body scope dV kV doc pm an cdv ct) ps sp:=by
 refine⟨len,fun A outer s H args us vs Q E hr e0 hb r hsp=>?_⟩;have hl:=len _ _ _ _ hsp;have KX:K.In s.heap:=e0.mod.kin.keeps fun b o e=>(e0.bs b o e).1;have lim:s.heap.NoLimit:=e0.mod.nolimit.keeps fun b o e=>(e0.bs b o e).1;have hkind:∀y∈ps.zip us,scope.names.lookup y.1=some .local\/(scope.names.lookup y.1=some .cell/\((cellsFrom (s.heap.objs.size+1) scope.names []).lookup y.1).isSome=true):=fun⟨n,v⟩hy=>by
  rcases S.par n (List.of_mem_zip hy).1 with q|q;.exact .inl q
  .exact .inr ⟨q,PySem.W.cellsFrom_some _ _ _ (.inl q)⟩
 refine codeAny_call_function hr.depth (KX _ _ lk) rfl S.co S.gen rfl (PySem.W.codeRec_of KX hcd) (hb _ _ _ _ ?_);refine wpAny_newFunctionEnv_cells S.kind hkind fun env he s1 x=>?_;subst he;refine⟨lim.keeps x.toInCall.keep,codeAny_func ?_⟩;obtain⟨t,ht,hq⟩:=hbody A outer s H vs Q E (hr.deeper _) hsp;have I:Inv (yj CX P w K mg base N qual scope f cdv A outer s H E) [] (start N vs) H s1:=Bu S hr.hd e0 hl r x;refine wpAny_mono (ht [] s1 (start N vs) H _ I hq) (fun fl s' hs=>?_) fun e s' hs=>hs;have fin:∀{σ':St}{H':Hp}{v:V}{u:Value},Inv (yj CX P w K mg base N qual scope f cdv A outer s H E) [] σ' H' s'->RelV v u->Q v H'->CE outer P w H s Q u s':=fun{σ' H' v u}J rv q=>⟨v,H',J.os,J.bare,J.base,J.hok,rv,q⟩;cases fl with|ret u=>obtain⟨v,σ',H',J,rv,q⟩:=hs;exact fin J rv q|next=>obtain⟨σ',H',J,q⟩:=hs;exact fin (v:=V.non) (u:=Value.none) J rfl q|brk=>obtain⟨_,_,_,q⟩:=hs;exact False.elim q|cont=>obtain⟨_,_,_,q⟩:=hs;exact False.elim q
end L2
namespace L2
open PySem PySem.Spec PyProof.Rows
section
variable{X:Cx}{x:Str}{p pos:Pos}{e:Expr}{es:List Expr}{t:TA}{id T:String}{r:List V->Hp->VK->Prop}
noncomputable def Yc(r:List V->Hp->VK->Prop)(t:TA):TE:=fun σ H Q=>t σ H fun vs H1=>r vs H1 Q
theorem dG(hc:dq X (.builtin id) r)(hg:Gl X x)(hm:X.mg x=none)(hv:bootBuiltins x=some (.builtin id))(ha:PA X (e::es) t)(hn:x≠"__name__":=by decide)(hdb:(x==("__debug__":Str))=false:=by decide)(he:starEach (e::es) X.env=(false,eval e X.env)::starEach es X.env:=by rfl)(hpl:(backTo pos (starEach es X.env)).any (·.1)=false:=by rfl):PE X (.Call (.Name x p) (e::es) [] pos) (Yc r t):=by intro pins s σ H Q I h;refine wpAny_Call_Name_kw (mq I hg hm hv ?_ hn hdb);exact PyProof.Rows.callWith_builtin1 (dz (ha pos pins s σ H _ I h) fun us s1⟨vs,H1,I1,r1,q1⟩=>hc pins s1 σ H1 vs us Q I1 r1 q1) he hpl
theorem mF(hc:dq X (.type T) r)(hg:Gl X x)(hm:X.mg x=none)(hv:bootBuiltins x=some (.type T))(ha:PA X (e::es) t)(hn:x≠"__name__":=by decide)(hdb:(x==("__debug__":Str))=false:=by decide)(he:starEach (e::es) X.env=(false,eval e X.env)::starEach es X.env:=by rfl)(hpl:(backTo pos (starEach es X.env)).any (·.1)=false:=by rfl):PE X (.Call (.Name x p) (e::es) [] pos) (Yc r t):=by intro pins s σ H Q I h;refine wpAny_Call_Name_kw (mq I hg hm hv ?_ hn hdb);exact PyProof.Rows.callWith_type1 (dz (ha pos pins s σ H _ I h) fun us s1⟨vs,H1,I1,r1,q1⟩=>hc pins s1 σ H1 vs us Q I1 r1 q1) he hpl
end
end L2
namespace HT
open PySem PyProof.Rows
section
variable{prog:Program}{w:World}{A:Around}{E:Value->Shared->Prop}{s:Shared}
theorem J8{t b:Addr}{vs ws:List Value}{Q:Value->Shared->Prop}(ht:IsTup s.heap t vs.toArray)(hb:IsTup s.heap b ws.toArray)(hv:vs≠[])(h1:ws=[]->Q (.ref t) s)(h2:ws≠[]->Q (.ref s.heap.objs.size) {s with heap:=s.heap.push {cls:=.type "tuple",data:=.seq (vs++ws).toArray}})(hsz:vs.length+ws.length<=sizeLine):wpAny (model prog w) A (binaryOp .Add (.ref t) (.ref b)) Q E s:=by
 obtain⟨⟨cls,dd,data,sl⟩,ho,hc,n,hd⟩:=id ht;obtain⟨⟨cls2,dd2,data2,sl2⟩,ho2,hc2,n2,hd2⟩:=id hb;simp only at hc hd hc2 hd2;subst hc hd hc2 hd2;have e:vs.toArray++ws.toArray=(vs++ws).toArray:=by simp
 by_cases hw:ws=[];.exact concat_meets ⟨_,ho,rfl⟩ ⟨_,ho2,rfl⟩ noFill_tuple_add seq_tuple_add PySem.F.slot_tuple_add PySem.F.entry_tuple_add (PySem.F.args_tuple_add_2 _ _) (tuple_addW1 t b vs.toArray ws.toArray n n2 dd dd2 sl sl2 (by simpa using hv) (by simp[hw])) ⟨ho,ho2,h1 hw⟩
 .refine concat_meets ⟨_,ho,rfl⟩ ⟨_,ho2,rfl⟩ noFill_tuple_add seq_tuple_add PySem.F.slot_tuple_add PySem.F.entry_tuple_add (PySem.F.args_tuple_add_2 _ _) (tuple_addW2 t b vs.toArray ws.toArray n n2 dd dd2 sl sl2 (by simpa using hv) (by simpa using hw) (by rw[List.size_toArray,List.size_toArray];exact hsz)) ⟨ho,ho2,?_⟩;rw[e];exact h2 hw
noncomputable def cV(n d:Nat):Option Int->Nat|none=>d|some v=>if v<0 then(v+(n:Int)).toNat else min v.toNat n
theorem Py(n d:Nat)(hd:d<=n)(o:Option Int):cV n d o<=n:=by cases o with|none=>exact hd|some v=>
   show(if v<0 then(v+(n:Int)).toNat else min v.toNat n)<=n;by_cases hv:v<0;.rw[if_pos hv];omega
   .rw[if_neg hv];exact Nat.min_le_right _ _
theorem yN(v:Int)(n d:Nat):(if v<0 then max (v+(n:Int)) 0 else min v (n:Int))=((cV n d (some v):Nat):Int):=by
 show(if v<0 then max (v+(n:Int)) 0 else min v (n:Int))=(((if v<0 then(v+(n:Int)).toNat else min v.toNat n):Nat):Int);by_cases hv:v<0;.simp only[if_pos hv];omega
 .simp only[if_neg hv];omega
theorem xR(lo hi:Option Int)(n:Nat):Builtin.Slice.sliceAdjust lo hi 1 (n:Int)=(((cV n 0 lo:Nat):Int),((cV n n hi:Nat):Int)):=by
 have h1:¬((1:Int)<0):=by omega
 unfold Builtin.Slice.sliceAdjust;simp only[h1,if_false];refine Prod.ext ?_ ?_;.cases lo with|none=>rfl|some v=>exact yN v n 0
 .cases hi with|none=>rfl|some v=>exact yN v n n
theorem xr(i j:Nat):Builtin.Slice.slicePlaces (i:Int) (j:Int) 1=j-i:=by
 unfold Builtin.Slice.slicePlaces;have h1:(1:Int)>0:=by omega
 simp only[h1,if_true,Int.ediv_one];split<;>omega
theorem oW{v:Value}{o:Option Int}{Q:Option Int->Shared->Prop}(p:IsPart v o)(h:Q o s):wpAny (model prog w) A (Builtin.Slice.slicePartIndex v) Q E s:=by cases p with|none=>exact slicePart_none h|int i t=>exact slicePart_int h
theorem gR{sl:Addr}{vl vu:Value}{lo hi:Option Int}{n:Nat}{Q:Int×Int×Nat->Shared->Prop}(hs:s.heap.IsSliceOf sl vl vu .none)(pl:IsPart vl lo)(pu:IsPart vu hi)(h:Q (((cV n 0 lo:Nat):Int),1,cV n n hi-cV n 0 lo) s):wpAny (model prog w) A (Builtin.Slice.sliceApplied (.ref sl) (pure (n:Int))) Q E s:=by obtain⟨os,hos,hcs,hds⟩:=id hs;unfold Builtin.Slice.sliceApplied Builtin.Slice.sliceFields;refine wpAny_bind (wpAny_bind (wpAny_field hos hds (x:=vl) rfl (wpAny_bind (wpAny_field hos hds (x:=vu) rfl (wpAny_bind (wpAny_field hos hds (x:=.none) rfl (wpAny_pure ?_)))))));refine wpAny_bind (slicePart_none ?_);show wpAny _ _ (if((1:Int)==0)=true then _ else _) _ _ s;rw[if_neg (by decide)];refine wpAny_bind (oW pl (wpAny_bind (oW pu (wpAny_bind (wpAny_pure ?_)))));show wpAny _ _ (match Builtin.Slice.sliceAdjust lo hi 1 (n:Int)with|(lo,hi)=>pure (lo,(1:Int),Builtin.Slice.slicePlaces lo hi 1)) _ _ s;rw[xR lo hi n];show wpAny _ _ (pure (((cV n 0 lo:Nat):Int),(1:Int),Builtin.Slice.slicePlaces ((cV n 0 lo:Nat):Int) ((cV n n hi:Nat):Int) 1)) _ _ s;rw[xr];exact wpAny_pure h
theorem Dp(xs:Array Value)(i k:Nat):((List.range k).filterMap fun(m:Nat)=>xs[((i:Int)+(m:Int)*1).toNat]?).toArray=((xs.toList.drop i).take k).toArray:=by
 have e:(fun(m:Nat)=>xs[((i:Int)+(m:Int)*1).toNat]?)=fun m=>xs[i+m]?:=by
  funext m;have:((i:Int)+(m:Int)*1).toNat=i+m:=by omega
  rw[this]
 rw[e];have:=pick_run xs i k;rw[List.filterMap_map]at this;have e2:((fun x=>xs[x]?)∘ fun x=>i+x)=fun m=>xs[i+m]?:=rfl;rw[e2]at this;rw[this]
theorem lC{t sl:Addr}{items:Array Value}{vl vu:Value}{lo hi:Option Int}{Q:Value->Shared->Prop}(ht:IsTup s.heap t items)(hs:s.heap.IsSliceOf sl vl vu .none)(pl:IsPart vl lo)(pu:IsPart vu hi)(hw:¬(cV items.size 0 lo=0/\cV items.size items.size hi=items.size))(h:Q (.ref s.heap.objs.size) {s with heap:=s.heap.push {cls:=.type "tuple",data:=.seq ((items.toList.drop (cV items.size 0 lo)).take (cV items.size items.size hi-cV items.size 0 lo)).toArray}})(hsz:items.size<=sizeLine):wpAny (model prog w) A (getItem (.ref t) (.ref sl)) Q E s:=by
 have Ad:sizeOk (.seq ((items.toList.drop (cV items.size 0 lo)).take (cV items.size items.size hi-cV items.size 0 lo)).toArray):=by show((items.toList.drop (cV items.size 0 lo)).take (cV items.size items.size hi-cV items.size 0 lo)).toArray.size<=sizeLine;rw[List.size_toArray,List.length_take,List.length_drop,Array.length_toList];omega
 have hj:cV items.size items.size hi<=items.size:=Py _ _ (Nat.le_refl _) hi;obtain⟨os,hos,hcs,hds⟩:=id hs;have hTs:s.TypeIs (.ref sl) "slice":=⟨os,hos,hcs⟩;unfold getItem;try with_reducible refine wpAny_holding ?_
 first|refine wpAny_bind (wpAny_pure ?_)|skip
 refine wpAny_bind (wpAny_sequenceKey ht.typeIs (by decide) ?_);refine wpAny_bind (wpAny_callSpecial?_slot (name:=Str.ofString "__getitem__") ht.typeIs PyProof.Rows.slot_tuple_getitem (wpAny_call_entry PyProof.Rows.slot_tuple_getitem ht.typeIs entry_tuple_getitem ?_ (args_tuple_getitem _ _)));show wpAny _ _ (Builtin.Tuple.tupleItemsOf (.ref t)>>=_) _ _ s;refine wpAny_bind (tupleItemsOf_ ht ?_);refine wpAny_bind (wpAny_typeOf hTs ?_);rw[if_pos (by decide)];refine wpAny_bind (gR hs pl pu ?_);have hno:¬((((cV items.size 0 lo:Nat):Int)==0&&(1:Int)==1&&(cV items.size items.size hi-cV items.size 0 lo)==items.size)=true):=by intro q;rw[Bool.and_eq_true,Bool.and_eq_true]at q;have q1:((cV items.size 0 lo:Nat):Int)=0:=eq_of_beq q.1.1;have q2:cV items.size items.size hi-cV items.size 0 lo=items.size:=eq_of_beq q.2;exact hw ⟨by omega,by omega⟩
 show wpAny _ _ (if(((cV items.size 0 lo:Nat):Int)==0&&(1:Int)==1&&(cV items.size items.size hi-cV items.size 0 lo)==items.size)=true then _ else _) _ _ s;rw[if_neg hno,Dp];first|exact wpAny_bind (m:=Builtin.Tuple.tupleExact _) (wpAny_newObj_type (wpAny_pure ⟨_,rfl,wpAny_pure h⟩) Ad)|exact wpAny_bind (m:=Builtin.Tuple.tupleExact _) (wpAny_newObj_type (wpAny_bind (wpAny_pure (wpAny_pure ⟨_,rfl,wpAny_pure h⟩))) Ad)|exact wpAny_bind (wpAny_bind (m:=Builtin.Tuple.tupleExact _) (wpAny_newObj_type (wpAny_pure (wpAny_pure ⟨_,rfl,wpAny_pure h⟩)) Ad))|exact wpAny_bind (wpAny_bind (m:=Builtin.Tuple.tupleExact _) (wpAny_newObj_type (wpAny_pure ⟨_,rfl,wpAny_pure h⟩) Ad))
end
end HT
namespace L2
open PySem PySem.Spec PyProof.Rows
noncomputable abbrev TO:=St->Hp->(Option Int->Hp->Prop)->Prop
noncomputable def PO(X:Cx)(e:Option Expr)(t:TO):Prop:=∀(pins:List (Addr × Obj))(s:Shared)(σ:St)(H:Hp)(Q:Option Int->Hp->Prop),Inv X pins σ H s->t σ H Q->wpAny (model X.prog X.w) X.A (evalPart e X.env) (fun u s'=>∃o H',Inv X pins σ H' s'/\IsPart u o/\Q o H') X.xe s
noncomputable def Jm:TO:=fun _ H Q=>Q none H
noncomputable def T7(t:TE):TO:=fun σ H Q=>t σ H fun x H1=>∃i,x=.int i/\Q (some i) H1
section
variable{X:Cx}{e:Expr}{te:TE}{lo hi:Option Expr}{tl th:TO}{pos p2:Pos}
theorem Js:PO X none Jm:=by intro pins s σ H Q I h;rw[evalPart_none];exact wpAny_pure ⟨none,H,I,.none,h⟩
theorem J0(h:PE X e te):PO X (some e) (T7 te):=by intro pins s σ H Q I hw;rw[evalPart_some];refine dz (h pins s σ H _ I hw) fun u s1⟨x,H1,I1,r1,q1⟩=>?_;obtain⟨i,rfl,q⟩:=q1;obtain⟨t,rfl⟩:=r1;exact⟨some i,H1,I1,.int i t,q⟩
noncomputable def XQ(X:Cx)(r:V->Option Int->Option Int->Hp->VK->Prop):Prop:=∀(pins:List (Addr × Obj))(s:Shared)(σ:St)(H:Hp)(x:V)(v vl vu:Value)(lo hi:Option Int)(sl:Addr)(Q:VK),Inv X pins σ H s->RelV x v->s.heap.IsSliceOf sl vl vu .none->IsPart vl lo->IsPart vu hi->r x lo hi H Q->∃T id,typeLookup (.type T) "__getitem__"=pure (some (.builtin id))/\s.TypeIs v T/\wpAny (model X.prog X.w) X.A (getItem v (.ref sl)) (EP X pins σ Q) X.xe s
noncomputable def tSl(r:V->Option Int->Option Int->Hp->VK->Prop)(te:TE)(tl th:TO):TE:=fun σ H Q=>te σ H fun x H1=>tl σ H1 fun l H2=>th σ H2 fun u H3=>r x l u H3 Q
theorem u9{r:V->Option Int->Option Int->Hp->VK->Prop}(hr:XQ X r)(he:PE X e te)(hl:PO X lo tl)(hu:PO X hi th):PE X (.Subscript e (.Slice lo hi none p2) pos) (tSl r te tl th):=by intro pins s σ H Q I h;refine Subscript_ (dz (he pins s σ H _ I h) fun v s1⟨x,H1,I1,r1,q1⟩=>?_);refine wpAny_Slice (dz (hl pins s1 σ H1 _ I1 q1) fun vl s2⟨l,H2,I2,pl,q2⟩=>dz (hu pins s2 σ H2 _ I2 q2) fun vu s3⟨u,H3,I3,pu,q3⟩=>?_);rw[evalPart_none];refine wpAny_pure ?_;have I4:Inv X pins σ H3 {s3 with heap:=s3.heap.push {cls:=.type "slice",data:=.fields #[vl,vu,.none]}}:=I3.kept (t':=s3.toks) fun b ob q=>Heap.get?_push_of_some _ q;obtain⟨T,id,hT,ht,hg⟩:=hr pins {s3 with heap:=s3.heap.push {cls:=.type "slice",data:=.fields #[vl,vu,.none]}} σ H3 x v vl vu l u s3.heap.objs.size Q I4 r1 (Heap.IsSliceOf.new ..) pl pu q3;show wpAny (model X.prog X.w) X.A (subscriptTail e (.Slice lo hi none p2) v (.ref s3.heap.objs.size)) (EP X pins σ Q) X.xe {s3 with heap:=s3.heap.push {cls:=.type "slice",data:=.fields #[vl,vu,.none]}};exact tail_any (ops:=[.ref s3.heap.objs.size,v]) ht hT hg (by with_unfolding_all rfl)
noncomputable def uJ(xs:List V)(lo hi:Option Int):List V:=(xs.drop (HT.cV xs.length 0 lo)).take (HT.cV xs.length xs.length hi-HT.cV xs.length 0 lo)
theorem nu(xs:List V)(lo hi:Option Int):(uJ xs lo hi).length<=xs.length:=by unfold uJ;rw[List.length_take,List.length_drop];omega
noncomputable def Zk(K:PySem.W.Frag):V->Option Int->Option Int->Hp->VK->Prop:=fun x lo hi H Q=>∃a xs,x=.ref a/\jH K H a xs/\¬(HT.cV xs.length 0 lo=0/\HT.cV xs.length xs.length hi=xs.length)/\∀p,H p=none->Q (.ref p) (upd H p (.tup (uJ xs lo hi)))
theorem QG:XQ X (Zk X.K):=by
 intro pins s σ H x v vl vu lo hi sl Q I rx hs pl pu h;obtain⟨a,xs,rfl,hx,hw,q⟩:=h;cases rx;obtain⟨its,r,ht,hz⟩:=I.tuple hx;have hlen:its.toArray.size=xs.length:=by rw[List.size_toArray];exact r.length.symm
 refine⟨"tuple",_,PyProof.Rows.slot_tuple_getitem.lookup,ht.typeIs,?_⟩;refine HT.lC ht hs pl pu (by rw[hlen];exact hw) ?_ (by rw[hlen];exact hz);rw[hlen];refine⟨.ref s.heap.objs.size,_,I.laid (t':=s.toks) (o:=.tup (uJ xs lo hi)) (fun b ob q=>Heap.get?_push_of_some _ q) (Nat.le_refl _) ?_,rfl,q _ (I.hok.fresh (Nat.le_refl _))⟩;exact⟨Nat.le_trans (nu xs lo hi) hz,_,(r.drop (HT.cV xs.length 0 lo)).take (HT.cV xs.length xs.length hi-HT.cV xs.length 0 lo),IsTup.new _ _⟩
noncomputable def Wl(K:PySem.W.Frag):R2:=fun x y H Q=>∃a b xs ys,x=.ref a/\y=.ref b/\jH K H a xs/\jH K H b ys/\xs≠[]/\xs.length+ys.length<=sizeLine/\(ys=[]->Q (.ref a) H)/\(ys≠[]->∀p,H p=none->Q (.ref p) (upd H p (.tup (xs++ys))))
theorem Vals.nT{xs:List V}{us:List Value}(r:Vals xs us):us=[]↔xs=[]:=by cases r with|nil=>simp|cons _ _=>simp
theorem Jl:gY X (binaryOp .Add) (Wl X.K):=by intro pins s σ H x y v u Q I rx ry h;obtain⟨a,b,xs,ys,rfl,rfl,ha,hb,hx,hz,q1,q2⟩:=h;cases rx;cases ry;obtain⟨its,r1,p1,_⟩:=I.tuple ha;obtain⟨its2,r2,p2,_⟩:=I.tuple hb;refine HT.J8 p1 p2 (fun z=>hx (r1.nT.mp z)) (fun z=>⟨.ref a,H,I,rfl,q1 (r2.nT.mp z)⟩) (fun z=>?_) (by rw[<-r1.length,<-r2.length];exact hz);refine⟨.ref s.heap.objs.size,_,I.laid (t':=s.toks) (o:=.tup (xs++ys)) (fun b ob q=>Heap.get?_push_of_some _ q) (Nat.le_refl _) ?_,rfl,q2 (fun w=>z (r2.nT.mpr w)) _ (I.hok.fresh (Nat.le_refl _))⟩;exact⟨by rw[List.length_append];exact hz,_,r1.append r2,IsTup.new _ _⟩
end
end L2
namespace L2
open PySem PySem.Spec PyProof.Rows
noncomputable def lU(n:Nat)(i:Int):Option Nat:=if 0<=i then(if i<n then some i.toNat else none)else if-(n:Int)<=i then some (i+n).toNat else none
noncomputable def Ej{α:Type}(xs:List α)(i:Int):Option α:=(lU xs.length i).bind fun j=>xs[j]?
theorem zy{n:Nat}{i:Int}{j:Nat}(h:lU n i=some j):seqIndex? i n=some j/\j<n/\-(n:Int)<=i/\i<n:=by
 unfold lU at h;by_cases h0:0<=i
 . rw[if_pos h0]at h;by_cases h1:i<n;.rw[if_pos h1]at h;have e:i.toNat=j:=Option.some.inj h;exact⟨by rw[seqIndex_of h0 h1,e],by omega,by omega,h1⟩
   .rw[if_neg h1]at h;cases h
 . rw[if_neg h0]at h;by_cases h1:-(n:Int)<=i;.rw[if_pos h1]at h;have e:(i+n).toNat=j:=Option.some.inj h;exact⟨by rw[seqIndex_neg (by omega) h1,e],by omega,h1,by omega⟩
   .rw[if_neg h1]at h;cases h
theorem zF{α:Type}{xs:List α}{i:Int}{v:α}(h:Ej xs i=some v):∃j,seqIndex? i xs.length=some j/\xs[j]?=some v/\j<xs.length/\-(xs.length:Int)<=i/\i<xs.length:=by unfold Ej at h;cases e:lU xs.length i with|none=>rw[e]at h;cases h|some j=>rw[e]at h;obtain⟨h1,h2,h3,h4⟩:=zy e;exact⟨j,h1,h,h2,h3,h4⟩
noncomputable def fc(b:Expr):Prop:=∀o i,subscripted b false o i=operate [o,i] (getItem o i)
noncomputable def Xq(X:Cx)(r:R2):Prop:=∀(value slice:Expr)(pins:List (Addr × Obj))(s:Shared)(σ:St)(H:Hp)(x y:V)(v u:Value)(Q:VK),Inv X pins σ H s->RelV x v->RelV y u->r x y H Q->subscripted slice false v u=operate [v,u] (getItem v u)->wpAny (model X.prog X.w) X.A (subscriptTail value slice v u) (EP X pins σ Q) X.xe s
noncomputable def MtR(X:Cx)(id:String)(r:V->List V->Hp->VK->Prop):Prop:=∀(pins:List (Addr × Obj))(s:Shared)(σ:St)(H:Hp)(x:V)(xs:List V)(v:Value)(us:List Value)(Q:VK),Inv X pins σ H s->RelV x v->Vals xs us->r x xs H Q->wpAny (model X.prog X.w) X.A (call (.builtin id) (v::us)) (EP X pins σ Q) X.xe s
section
variable{X:Cx}{a b:Expr}{ta tb:TE}{pos:Pos}
theorem lq{r:R2}(hr:Xq X r)(ha:PE X a ta)(hb:PE X b tb)(hs:fc b):PE X (.Subscript a b pos) (Hv r ta tb):=by intro pins s σ H Q I h;exact Subscript_ (Oz ha hb I h fun v u s2 x y H2 I2 rx ry q=>hr a b pins s2 σ H2 x y v u Q I2 rx ry q (hs _ _))
noncomputable def CW(K:PySem.W.Frag):R2:=fun x y H Q=>∃p xs i v,x=.ref p/\y=.int i/\dX K H p xs/\Ej xs i=some v/\Q v H
noncomputable def Z1(K:PySem.W.Frag):R2:=fun x y H Q=>∃p xs i v,x=.ref p/\y=.int i/\jH K H p xs/\Ej xs i=some v/\Q v H
theorem fW:Xq X (CW X.K):=by
 intro value slice pins s σ H x y v u Q I rx ry h hs;obtain⟨p,xs,i,z,rfl,rfl,hq,he,q⟩:=h;cases rx;obtain⟨t,rfl⟩:=ry;obtain⟨its,r,pl,hz⟩:=I.list hq;obtain⟨j,h1,h2,h3,h4,h5⟩:=zF he;obtain⟨w,ew,BX⟩:=r.get h2;have hl:=r.length;have hn:=rT;have fin:EP X pins σ Q w s:=⟨z,H,I,BX,q⟩;by_cases h0:0<=i
 . have hj:i.toNat=j:=by rw[seqIndex_of h0 h5]at h1;exact Option.some.inj h1
   exact item_listR pl.isList h0 (by omega) (by rw[hj];simpa using ew) fin hs
 . have hj:(i+(its.toArray.size:Int)).toNat=j:=by rw[seqIndex_neg (by omega) h4]at h1;rw[List.size_toArray,<-hl];exact Option.some.inj h1
   exact subscriptTail_builtinR (x:=w) pl.isList.typeIs slot_list_getitem.lookup (wpAny_getItem_list_neg (Q:=fun r s'=>r=w/\EP X pins σ Q r s') pl.isList (by omega) (by rw[List.size_toArray]<;>omega) (by omega) (by rw[hj];simpa using ew) ⟨rfl,fin⟩) hs
theorem Ov:Xq X (Z1 X.K):=by intro value slice pins s σ H x y v u Q I rx ry h hs;obtain⟨p,xs,i,z,rfl,rfl,hq,he,q⟩:=h;cases rx;obtain⟨t,rfl⟩:=ry;obtain⟨its,r,pl,hz⟩:=I.tuple hq;obtain⟨j,h1,h2,h3,h4,h5⟩:=zF he;obtain⟨w,ew,BX⟩:=r.get h2;have hl:=r.length;have hn:=rT;have fin:EP X pins σ Q w s:=⟨z,H,I,BX,q⟩;exact subscriptTail_builtinR (x:=w) pl.typeIs slot_tuple_getitem.lookup (getItem_tuple (j:=j) (Q:=fun r s'=>r=w/\EP X pins σ Q r s') pl (by omega) (by omega) (by rw[List.size_toArray,<-hl];exact h1) (by simpa using ew) ⟨rfl,fin⟩) hs
theorem xU(its:List Value)(n j:Nat)(u:Value):Obj.mapSeq (·.setIfInBounds j u) {cls:=.type "list",data:=.seq its.toArray n}={cls:=.type "list",data:=.seq (its.set j u).toArray n}:=by simp[Obj.mapSeq]
theorem Inv.lst{pins:List (Addr×Obj)}{σ:St}{H:Hp}{s:Shared}{p:Addr}{xs:List V}(I:Inv X pins σ H s)(h:H p=some (.lst xs)):∃(its:List Value)(n:Nat),Vals xs its/\s.heap.get? p=some {cls:=.type "list",data:=.seq its.toArray n}/\xs.length<=sizeLine:=by obtain⟨z,its,n,r,e⟩:=I.hok p _ h;exact⟨its,n,r,e,z⟩
theorem Inv.OJ{pins:List (Addr×Obj)}{σ:St}{H:Hp}{s:Shared}{p:Addr}{xs ys:List V}{its its':List Value}{n n':Nat}{f:Obj->Obj}(I:Inv X pins σ H s)(h:H p=some (.lst xs))(ho:s.heap.get? p=some {cls:=.type "list",data:=.seq its.toArray n})(hf:f {cls:=.type "list",data:=.seq its.toArray n}={cls:=.type "list",data:=.seq its'.toArray n'})(r:Vals ys its')(hz:ys.length<=sizeLine)(t:Nat):Inv X pins σ (upd H p (.lst ys)) {s with heap:=s.heap.update p f,toks:=t}:=by
 have e:(s.heap.update p f).get? p=some {cls:=.type "list",data:=.seq its'.toArray n'}:=by rw[Heap.get?_update_self f ho (by rw[hf]<;>rfl),hf]
 refine I.write (x:=p) (e:=p) (by rw[h];trivial) (.inl rfl) (fun b u hb q=>(Heap.get?_update_other _ _ (Ne.symm hb)).trans q) ⟨_,e⟩ ?_;exact⟨hz,its',n',r,e⟩
noncomputable def V1:V->V->V->Hp->(Hp->Prop)->Prop:=fun o i v H Q=>∃p xs k j,o=.ref p/\i=.int k/\H p=some (.lst xs)/\lU xs.length k=some j/\Q (upd H p (.lst (xs.set j v)))
theorem set_list:Uy X V1:=by
 intro pins s σ H o i v ov iv u Q I ro ri rv h;obtain⟨p,xs,k,j,rfl,rfl,hp,hj,q⟩:=h;cases ro;obtain⟨t,rfl⟩:=ri;obtain⟨its,n,r,ho,hz⟩:=I.lst hp;obtain⟨h1,h2,h3,h4⟩:=zy hj;have hl:=r.length;have hn:=rT;have I':Inv X pins σ (upd H p (.lst (xs.set j v))) {s with heap:=s.heap.update p (Obj.mapSeq (·.setIfInBounds j u))}:=I.OJ hp ho (xU its n j u) (r.set rv j) (by rw[List.length_set];exact hz) s.toks;by_cases h0:0<=k
 . have hk:k.toNat=j:=by rw[seqIndex_of h0 h4]at h1;exact Option.some.inj h1
   exact PySem.W.ki_setAt ho h0 (by omega) (by rw[List.size_toArray,<-hl];exact h4) (by rw[hk];exact⟨_,I',q⟩)
 . have hk:(k+(its.toArray.size:Int)).toNat=j:=by rw[seqIndex_neg (by omega) h3]at h1;rw[List.size_toArray,<-hl];exact Option.some.inj h1
   exact PySem.W.ki_setBack ho (by omega) (by rw[List.size_toArray,<-hl];exact h3) (by omega) (by rw[hk];exact⟨_,I',q⟩)
theorem tE(lo hi:Option Int)(n:Nat):(sliceBounds lo hi none n).1=((HT.cV n 0 lo:Nat):Int)/\(sliceBounds lo hi none n).2.1=((HT.cV n n hi:Nat):Int)/\(sliceBounds lo hi none n).2.2=1:=by
 refine⟨?_,?_,rfl⟩;.cases lo with|none=>simp[sliceBounds,HT.cV]|some i=>
     simp only[sliceBounds,HT.cV,Option.getD_none,show(1:Int)>0 by decide,if_true];by_cases h:i<0;.simp only[h,if_true]<;>omega
     .simp only[h,if_false]<;>omega
 .cases hi with|none=>simp[sliceBounds,HT.cV]|some i=>
     simp only[sliceBounds,HT.cV,Option.getD_none,show(1:Int)>0 by decide,if_true];by_cases h:i<0;.simp only[h,if_true]<;>omega
     .simp only[h,if_false]<;>omega
theorem ql(its:List Value)(lo hi:Option Int):slicePick its.toArray lo hi none=((its.drop (HT.cV its.length 0 lo)).take (HT.cV its.length its.length hi-HT.cV its.length 0 lo)).toArray:=by obtain⟨h1,h2,h3⟩:=tE lo hi its.toArray.size;unfold slicePick;rw[h1,h2,h3];simp only[sliceRange_one,pick_run,List.size_toArray]<;>rfl
noncomputable def aam(K:PySem.W.Frag):V->Option Int->Option Int->Hp->VK->Prop:=fun x lo hi H Q=>∃a xs,x=.ref a/\dX K H a xs/\∀p,H p=none->Q (.ref p) (upd H p (.lst (uJ xs lo hi)))
theorem Ku:XQ X (aam X.K):=by intro pins s σ H x v vl vu lo hi sl Q I rx hs pl pu h;obtain⟨a,xs,rfl,hx,q⟩:=h;cases rx;obtain⟨its,r,ht,hz⟩:=I.list hx;have hlen:=r.length;refine⟨"list",_,slot_list_getitem.lookup,ht.isList.typeIs,?_⟩;refine wpAny_getItem_list_slice ht.isList hs pl pu .none (by simp) ?_ (by rw[List.size_toArray]<;>omega);rw[ql,<-hlen];refine⟨.ref s.heap.objs.size,_,I.laid (t':=s.toks) (o:=.lst (uJ xs lo hi)) (fun b ob q=>Heap.get?_push_of_some _ q) (Nat.le_refl _) ?_,rfl,q _ (I.hok.fresh (Nat.le_refl _))⟩;exact⟨Nat.le_trans (nu xs lo hi) hz,_,0,(r.drop (HT.cV xs.length 0 lo)).take (HT.cV xs.length xs.length hi-HT.cV xs.length 0 lo),Heap.get?_push_size _ rfl⟩
theorem ud:dq X (.builtin "len") (fun xs H Q=>∃p ys,xs=[.ref p]/\(dX X.K H p ys\/jH X.K H p ys)/\Q (.int ys.length) H):=by
 intro pins s σ H xs us Q I r h;obtain⟨p,ys,rfl,hq,q⟩:=h;obtain⟨u,rfl,rx⟩:=vals1 r;cases rx;have hn:=rT;rcases hq with hq|hq;.obtain⟨its,r',pl,hz⟩:=I.list hq;have hlen:=r'.length;exact Calls.call_len_list pl.isList (by simp only[List.size_toArray]<;>omega) ⟨.int ys.length,H,I.tok _,⟨s.toks+1,by rw[List.size_toArray,hlen]⟩,q⟩
 .obtain⟨its,r',pl,hz⟩:=I.tuple hq;have hlen:=r'.length;exact len_tuple pl (by simp only[List.size_toArray]<;>omega) ⟨.int ys.length,H,I.tok _,⟨s.toks+1,by rw[List.size_toArray,hlen]⟩,q⟩
theorem jK:dq X (.type "tuple") (fun xs H Q=>∃p ys,xs=[.ref p]/\((dX X.K H p ys/\∀l,H l=none->Q (.ref l) (upd H l (.tup ys)))\/(jH X.K H p ys/\Q (.ref p) H))):=by
 intro pins s σ H xs us Q I r h;obtain⟨p,ys,rfl,h⟩:=h;obtain⟨u,rfl,rx⟩:=vals1 r;cases rx;rcases h with⟨hq,q⟩|⟨hq,q⟩;.obtain⟨its,r',pl,hz⟩:=I.list hq;have hlen:=r'.length;refine call_tuple_list pl.isList (fun h' kp=>?_) (by simp only[List.size_toArray]<;>omega);have I1:Inv X pins σ H {s with heap:=h'}:=I.kept (t':=s.toks) kp;have I2:Inv X pins σ (upd H h'.objs.size (.tup ys)) {s with heap:=h'.push {cls:=.type "tuple",data:=.seq its.toArray}}:=I1.laid (t':=s.toks) (fun b o e=>Heap.get?_push_of_some _ e) (Nat.le_refl _) (show bU X.prog X.w _ _ _ (.tup ys)from⟨hz,its,r',IsTup.new _ _⟩);exact⟨.ref h'.objs.size,_,I2,rfl,q _ (I1.hok.fresh (Nat.le_refl _))⟩
 .obtain⟨its,r',pl,hz⟩:=I.tuple hq;exact call_tuple_same pl ⟨.ref p,H,I,rfl,q⟩
noncomputable def ZZ(K:PySem.W.Frag)(T:String)(x:V)(H:Hp):Prop:=match x with|.str _=>T="str"|.int _=>T="int"|.ref p=>(T="list"/\∃xs,dX K H p xs)\/(T="tuple"/\∃o,K.lookup p=some o/\o.cls=.type "tuple"/\o.dict=none)\/(T="dict"/\((∃kvs,H p=some (.dK kvs))\/∃kvs,H p=some (.dT kvs)))\/(T="set"/\∃S n,H p=some (.set S n))|_=>False
theorem GR{pins:List (Addr×Obj)}{σ:St}{H:Hp}{s:Shared}{T:String}{x:V}{v:Value}(I:Inv X pins σ H s)(r:RelV x v)(ty:ZZ X.K T x H):
 s.TypeIs v T/\∀a,v=.ref a->∃ob,s.heap.get? a=some ob/\ob.dict=none:=by cases x with|str z=>obtain⟨t,rfl⟩:=r;cases(show T="str"from ty);exact⟨typeIs_str s z t,fun _ e=>nomatch e⟩|int i=>obtain⟨t,rfl⟩:=r;cases(show T="int"from ty);exact⟨typeIs_int s i t,fun _ e=>nomatch e⟩|ref p=>
   cases r;rcases ty with⟨rfl,xs,hq⟩|⟨rfl,o,hk,hc,hd⟩|⟨rfl,hk⟩|⟨rfl,S,n,hk⟩;.obtain⟨its,_,pl,_⟩:=I.list hq;refine⟨pl.isList.typeIs,fun a e=>?_⟩;cases e;obtain⟨o,n,e,c,hd,_⟩:=pl;exact⟨o,e,hd⟩
   .refine⟨⟨o,I.QR p o hk,hc⟩,fun a e=>?_⟩;cases e;exact⟨o,I.QR _ o hk,hd⟩
   . have z:∃o,s.heap.get? p=some o/\o.ExactDict:=by
      rcases hk with⟨kvs,hk⟩|⟨kvs,hk⟩;.obtain⟨_,_,_,_,o,_,_,e,ex,_⟩:=I.hok p _ hk;exact⟨o,e,ex⟩
      .obtain⟨_,_,_,_,o,_,_,e,ex,_⟩:=I.hok p _ hk;exact⟨o,e,ex⟩
     obtain⟨o,e,ex⟩:=z;refine⟨⟨o,e,ex.1⟩,fun a e2=>?_⟩;cases e2;exact⟨o,e,ex.2.1⟩
   .obtain⟨o,_,_,_,e,ex,_⟩:=I.hok p _ hk;refine⟨⟨o,e,ex.1⟩,fun a e2=>?_⟩;cases e2;exact⟨o,e,ex.2.1⟩|_=>exact False.elim ty
noncomputable def ZK(K:PySem.W.Frag)(T:String)(r:V->List V->Hp->VK->Prop)(to:TE):TE:=fun σ H Q=>to σ H fun x H1=>ZZ K T x H1/\r x [] H1 Q
noncomputable def tBM(K:PySem.W.Frag)(T:String)(r:V->List V->Hp->VK->Prop)(to:TE)(t:TA):TE:=fun σ H Q=>to σ H fun x H1=>ZZ K T x H1/\t σ H1 fun xs H2=>r x xs H2 Q
variable{o e:Expr}{es:List Expr}{to:TE}{t:TA}{name:Str}{apos cpos:Pos}{T id:String}{r:V->List V->Hp->VK->Prop}
theorem QK(pa:PlainAttrs T)(slot:Slot T name id)(hty:typeOf (.builtin id)=pure (.type "method_descriptor"))(hm:MtR X id r)(ho:PE X o to)(hbase:attributeBase o name X.env (eval o X.env)=eval o X.env:=by rfl)(hline:(apos.endLine==cpos.line)=true:=by rfl):PE X (.Call (.Attribute o name apos) [] [] cpos) (ZK X.K T r to):=by intro pins s σ H Q I h;refine wpAny_Call_method0_late hbase hline (dz (ho pins s σ H _ I h) fun v s1⟨x,H1,I1,r1,ty,q1⟩=>?_);obtain⟨h1,h2⟩:=GR I1 r1 ty;exact⟨T,id,pa,slot,hty,h1,h2,Calls.callWith_builtin rfl (PySem.evalArgs_none (hm pins s1 σ H1 x [] v [] Q I1 r1 .nil q1))⟩
theorem Lq(pa:PlainAttrs T)(slot:Slot T name id)(hty:typeOf (.builtin id)=pure (.type "method_descriptor"))(hm:MtR X id r)(ho:PE X o to)(ha:PA X (e::es) t)(hbase:attributeBase o name X.env (eval o X.env)=eval o X.env:=by rfl)(hfew:((backTo cpos (starEach (e::es) X.env)).all (fun x=>!x.1)&&(backToKw cpos (keywordEach [] X.env)).all (fun x=>x.1.isSome)&&decide ((e::es).length+([]:List Keyword).length+(if([]:List Keyword).isEmpty then 0 else 1)<30))=true:=by rfl)(hline:(apos.endLine==cpos.line)=true:=by rfl)(hs:starEach (e::es) X.env=(false,eval e X.env)::starEach es X.env:=by rfl)(hplain:(backTo cpos (starEach es X.env)).any (·.1)=false:=by rfl):PE X (.Call (.Attribute o name apos) (e::es) [] cpos) (tBM X.K T r to t):=by intro pins s σ H Q I h;refine wpAny_Call_method_late hbase hfew hline rfl (dz (ho pins s σ H _ I h) fun v s1⟨x,H1,I1,r1,ty,q1⟩=>?_);obtain⟨h1,h2⟩:=GR I1 r1 ty;refine⟨T,id,pa,slot,hty,h1,h2,?_⟩;have hA:=ha cpos pins s1 σ H1 _ I1 q1;rw[hs]at hA ⊢;refine Calls.callWith_builtin (by show(false||(backTo cpos (starEach es X.env)).any (·.1))=false;rw[hplain]<;>rfl) (Calls.evalArgs_plain ?_);exact dz hA fun us s2⟨vs,H2,I2,r2,q2⟩=>hm pins s2 σ H2 x vs v us Q I2 r1 r2 q2/-xs.append(e),list.index on a module's tuple..are MtR facts of 06m-/
end
end L2
namespace L2
open PySem PySem.Spec PyProof.Rows
noncomputable def MtM(X:Cx)(id:String)(r:V->List V->Hp->VK->Prop):Prop:=∀(pins:List (Addr × Obj))(s:Shared)(σ:St)(H:Hp)(x:V)(xs:List V)(v:Value)(us:List Value)(Q:VK),Inv X pins σ H s->RelV x v->Vals xs us->r x xs H Q->wpAny (model X.prog X.w) X.A (call (.builtin id) (v::us)) (EP X pins σ Q) X.xe s
theorem Vals.one:∀{x:V}{us:List Value},Vals [x] us->∃u,us=[u]/\RelV x u|x,us,h=>by cases h with|cons r t=>cases t;exact⟨_,rfl,r⟩
theorem Vals.two:∀{x y:V}{us:List Value},Vals [x,y] us->∃u v,us=[u,v]/\RelV x u/\RelV y v|x,y,us,h=>by cases h with|cons r t=>cases t with|cons q z=>cases z;exact⟨_,_,rfl,r,q⟩
theorem Vals.zero:∀{us:List Value},Vals [] us->us=[]|_,.nil=>rfl
theorem Vals.rep{xs:List V}{us:List Value}(h:Vals xs us):∀k:Nat,Vals (List.replicate k xs).flatten (List.replicate k us).flatten|0=>.nil|k+1=>by rw[List.replicate_succ,List.replicate_succ,List.flatten_cons,List.flatten_cons];exact Vals.append h (Vals.rep h k)
theorem foldl_rep(its:List Value):∀(k:Nat)(acc:List Value),List.foldl (fun x1 x2=>x1++x2) acc.toArray (List.replicate k its.toArray)=(acc++(List.replicate k its).flatten).toArray
 |0,acc=>by simp|k+1,acc=>by
   have e:acc.toArray++its.toArray=(acc++its).toArray:=by simp
   have e2:(acc++its)++(List.replicate k its).flatten=acc++(List.replicate (k+1) its).flatten:=by rw[List.replicate_succ,List.flatten_cons,List.append_assoc]
   rw[<-e2,<-foldl_rep its k (acc++its),<-e,List.replicate_succ,List.foldl_cons]
section
variable{X:Cx}{pins:List (Addr×Obj)}{σ:St}{H:Hp}{s:Shared}{l b:Addr}{xs ys zs:List V}
theorem Inv.Vi{its its':List Value}{n:Nat}{f:Array Value->Array Value}{t':Nat}(I:Inv X pins σ H s)(hH:H l=some (.lst xs))(e:s.heap.get? l=some {cls:=.type "list",data:=.seq its.toArray n})(hf:f its.toArray=its'.toArray)(hv:Vals ys its')(hz:ys.length<=sizeLine):Inv X pins σ (upd H l (.lst ys)) {s with heap:=s.heap.update l (Obj.mapSeq f),toks:=t'}:=by have q:=PySem.IsL.update e f;rw[hf]at q;refine I.write (x:=l) (e:=l) (by rw[hH];exact trivial) (.inl rfl) (fun b' u hb hu=>(Heap.get?_update_other s.heap (Obj.mapSeq f) (Ne.symm hb)).trans hu) ⟨_,q⟩ ?_;exact⟨hz,its',_,hv,q⟩
theorem Inv.Q6{its:List Value}{t':Nat}(I:Inv X pins σ H s)(hv:Vals ys its)(hz:ys.length<=sizeLine):Inv X pins σ (upd H s.heap.objs.size (.lst ys)) {s with heap:=s.heap.push {cls:=.type "list",data:=.seq its.toArray},toks:=t'}:=I.laid (fun _ _ q=>Heap.get?_push_of_some _ q) (Nat.le_refl _) ⟨hz,its,0,hv,Heap.get?_push_size _ rfl⟩
theorem Inv.fresh(I:Inv X pins σ H s):H s.heap.objs.size=none:=I.hok.fresh (Nat.le_refl _)
theorem Inv.VV(I:Inv X pins σ H s)(hH:H l=some (.lst xs)):xs.length<=sizeLine/\∃(its:List Value)(n:Nat),Vals xs its/\xs.length=its.length/\s.heap.get? l=some {cls:=.type "list",data:=.seq its.toArray n}:=by obtain⟨z,its,n,r,e⟩:=I.hok l _ hH;exact⟨z,its,n,r,r.length,e⟩
theorem Dg{n:Nat}(h:n<=sizeLine):Builtin.List.listTooLong n=false:=by unfold Builtin.List.listTooLong;exact decide_eq_false (by omega)
end
section
variable{X:Cx}
noncomputable def JK:V->List V->Hp->VK->Prop:=fun x vs H Q=>∃l xs y,x=.ref l/\vs=[y]/\H l=some (.lst xs)/\xs.length<sizeLine/\Q .non (upd H l (.lst (xs++[y])))
theorem mK:MtM X "list.append" JK:=by intro pins s σ H x vs v us Q I rx rv h;obtain⟨l,xs,y,rfl,rfl,hH,hz,q⟩:=h;cases rx;obtain⟨u,rfl,ru⟩:=rv.one;obtain⟨z,its,n,r,hl,e⟩:=I.VV hH;refine call_meets F.slot_list_append ⟨_,e,rfl⟩ F.entry_list_append (F.args_list_append_2 _ _) (PySem.list_append l its.toArray n u (by rw[List.size_toArray];omega)) ⟨e,?_⟩;refine⟨.non,_,I.Vi (its':=its++[u]) hH e (by simp) (r.append (.cons ru .nil)) ?_,rfl,q⟩;rw[List.length_append,List.length_singleton];omega
noncomputable def QH:V->List V->Hp->VK->Prop:=fun x vs H Q=>∃l xs,x=.ref l/\vs=[]/\H l=some (.lst xs)/\Q .non (upd H l (.lst []))
theorem Dh:MtM X "list.clear" QH:=by intro pins s σ H x vs v us Q I rx rv h;obtain⟨l,xs,rfl,rfl,hH,q⟩:=h;cases rx;have hus:=rv.zero;subst hus;obtain⟨z,its,n,r,hl,e⟩:=I.VV hH;refine call_meets F.slot_list_clear ⟨_,e,rfl⟩ F.entry_list_clear (F.args_list_clear_1 _) (AutoSeq1.list_clear_list_0 l its.toArray n (by rw[List.size_toArray];omega)) ⟨e,?_⟩;exact⟨.non,_,I.Vi (its':=[]) (ys:=[]) hH e rfl .nil (Nat.zero_le _),rfl,q⟩
theorem len_rep{α:Type}(xs:List α)(k:Nat):(List.replicate k xs).flatten.length=k*xs.length:=by induction k with|zero=>simp|succ k ih=>rw[List.replicate_succ,List.flatten_cons,List.length_append,ih,Nat.succ_mul,Nat.add_comm]
end
end L2
namespace YQ
open PySem PySem.W PySem.Calls PyProof.Rows
theorem nJ{P:Params}{h:Heap}:∀(ns:List Int)(vs:List Value),WellAll P h vs (ns.map WData.int)->IntsAre vs ns:=by intro ns;induction ns with|nil=>intro vs w;rw[List.map_nil]at w;cases w;exact .nil|cons n ns ih=>intro vs w;rw[List.map_cons]at w;cases w with|cons a b=>cases a;exact .cons _ _ (ih _ b)
theorem Ak{l:OpenLaw}{n:Nat}(hn:l.most=some n){P:Params}{h:Heap}{args:List WData}{vals:List Value}(hpre:l.row.toRowW.claim.pre args=true)(hwl:WellAll P h vals args):∃a vs ns,vals=[Value.ref a]/\args=[WData.list (ns.map WData.int)]/\h.get? a=some {cls:=.type "list",data:=.seq vs.toArray}/\IntsAre vs ns/\ns.length<=n:=by
 have hsh:WShape.hasAll [] args [.list .int]=true:=(pre_splitW hpre).1;have hc:l.pre.holds [] {args:=args}=true:=(pre_splitW hpre).2;obtain⟨d,r,rfl,h1,h2⟩:=hasAllW_cons hsh;obtain rfl:=hasAllW_nil h2;obtain⟨xs,rfl,h3⟩:=hasW_list h1;obtain⟨ns,rfl⟩:=items_int h3;have hlen:ns.length<=n:=by
  unfold OpenLaw.pre at hc;have h4:(WTm.not (.lt (.lit (.int (n:Int))) (.len (.arg 0)))).holds [] {args:=[.list (ns.map .int)]}=true:=by have h4:=(holds_andW hc).1;rw[hn]at h4;exact h4
  have h5:=condW_of h4 (w_not (w_lt w_lit (w_len_list (w_arg rfl))));rw[List.length_map]at h5;refine Nat.le_of_not_lt fun q=>?_;have q':(n:Int)<((ns.length:Nat):Int):=by omega
  first|(rw[decide_eq_true q']at h5;exact absurd h5 (by decide))|(simp at h5;omega)
 cases hwl with|cons w1 w2=>cases w2;cases w1 with|list ho hall=>exact⟨_,_,ns,rfl,rfl,ho,nJ ns _ hall,hlen⟩
theorem Aq(l:OpenLaw)(args:List WData):l.row.toRowW.claim.post args (.bool true) args=true:=postW_of (r:=l.row.toRowW) (X:=(true==true)) (show WShape.has [] (.bool true) .bool=true by first|rfl|decide|simp[WShape.has,WShape.arms,WShape.armsAll]) (show(WTm.eq .res (.lit (.bool true))).value [] {args:=args,res:=some (.bool true),after:=args}=some (.bool (true==true))from w_eq_bool (w_res rfl) w_lit) rfl
theorem uM{l:OpenLaw}{n:Nat}{q:Program}{loose:List Str}{XP:(Str->Option Value)->Heap->Prop}{YP:World->Heap->Prop}{d:DefRec}(hn:l.most=some n)(hdf:d.params.defaults=[])(call:∀(w:World)(s₀ s₁:Shared)(mg mb:Str->Option Value)(fa:Addr)(o:Obj)(pm cd doc:Value)(a:Addr)(vs:List Value)(ns:List Int),Ground q loose [] XP w s₀ mg mb s₁.heap->YP w s₁.heap->s₁.heap.get? fa=some o->o.data=.func (docDef d.name d.params d.body d.scope pm cd doc)->s₁.heap.CodeRec cd d.name->mg d.name=some (.ref fa)->s₁.heap.get? a=some {cls:=.type "list",data:=.seq vs.toArray}->IntsAre vs ns->ns.length<=n->s₁.gens=#[]->codeAny (model l.prog w) callerA (.call (.ref fa) ⟨[.ref a],[]⟩) (fun r s'=>r=.ok (.ret (.bool true))/\OldK s₁.heap s'.heap/\s'.os=s₁.os/\AllBare s'.gens) s₁):WalkO q loose XP YP l.row.toRowW d [] (fun f vs=>PySem.call f vs):=by intro w s₀ s₁ mg mb G Y fa o pm cd doc dV kV ho hd hcd hD hmg hg args vals as hpre hlay hrd hwl hlo;obtain rfl:dV=.none:=Dflts.none hD hdf;obtain rfl:kV=.none:=Dflts.noKw hD;obtain⟨a,vs,ns,rfl,rfl,hobj,hints,hlen⟩:=Ak hn hpre hwl;refine enter_call (codeAny_mono (call w s₀ s₁ mg mb fa o pm cd doc a vs ns G Y ho (fd_plain hd) hcd hmg hobj hints hlen hg) fun r s' hq=>?_);obtain⟨rfl,h2,h3,h4⟩:=hq;exact⟨.inl ⟨.bool true,.bool true,[],rfl,fun _=>rfl,.bool true,Aq l _,fun _=>⟨List.Pairwise.nil,fun _ hm=>(nomatch hm)⟩⟩,h2,h3,h4⟩
end YQ
namespace L2
open PySem PySem.Spec PyProof.Rows
theorem qP:∀{vs:List Value}{ns:List Int},IntsAre vs ns->Vals (ns.map V.int) vs|_,_,.nil=>.nil|_,_,.cons n t h=>.cons ⟨t,rfl⟩ (qP h)
noncomputable def Only(H:Hp):Prop:=∀b,H b=none\/∃o xs,H b=some (.fH o (.lst xs))
theorem Df{P:Program}{w:World}{K:PySem.W.Frag}{mg mb:Str->Option Value}{CX:Er}{k:Nat}{fa a:Addr}{fd:FuncData}{x:Str}{sp:Sp}{s₁:Shared}{vs:List Value}{ns:List Int}(KX:K.In s₁.heap)(hns:s₁.heap.Ns mainGlobals mg)(hb:s₁.heap.Ns builtinsNs mb)(hbb:∀x:Str,x≠"__name__"->mb x=bootBuiltins x)(hlim:s₁.heap.NoLimit)(hg:s₁.gens=#[])(ha:s₁.heap.get? a=some {cls:=.type "list",data:=.seq vs.toArray})(hi:IntsAre vs ns)(hl:ns.length<=sizeLine)(hr:jb k callerA)(F:∀base:Heap,K.In base->base.Ns mainGlobals mg->cW P w K mg base CX k fa fd [x] sp)(hbind:∀(s:Shared)(u:Value),BindsTo s fd ⟨[u],[]⟩ [(x,u)])(hsp:∀H:Hp,Only H->dX K H a (ns.map V.int)->sp [.ref a] H (fun v _=>v=.bl true) fun _ _ _=>False)(WL:∀H e s',CX [] H s₁ (fun _ _ _=>False) e s'->False):codeAny (model P w) callerA (.call (.ref fa) ⟨[.ref a],[]⟩) (fun r s'=>r=.ok (.ret (.bool true))/\OldK s₁.heap s'.heap/\s'.os=s₁.os/\AllBare s'.gens) s₁:=by
 have rv:=qP hi;have lenV:=hi.length--from an abstract heap in which nothing but the script may be tracked
 have core:∀H:Hp,Only H->dX K H a (ns.map V.int)->lR P w H s₁.heap->(∀b,H b≠none->b=a)->(H a≠none->K.lookup a=none)->codeAny (model P w) callerA (.call (.ref fa) ⟨[.ref a],[]⟩) (fun r s'=>r=.ok (.ret (.bool true))/\OldK s₁.heap s'.heap/\s'.os=s₁.os/\AllBare s'.gens) s₁:=by
  intro H hO hS hok hA hK;have Ae:∀{b:Addr}{o:Obj},s₁.heap.get? b=some o->H b=none->(sG s₁.heap H).get? b=some o:=fun e n=>Ek e n;have WK:∀{b:Addr}{o:Obj}{es:Array DictEntry}{ep:Nat},s₁.heap.get? b=some o->o.data=.dict es ep->H b=none:=fun{b o es ep}e d=>by cases q:H b with|none=>rfl|some u=>have e':b=a:=hA b (by rw[q];simp);subst e';rw[ha]at e;cases e;have d':Data.seq vs.toArray _=Data.dict es ep:=d;cases d'
  have YS:∀{b:Addr}{m:Str->Option Value},s₁.heap.Ns b m->(sG s₁.heap H).Ns b m:=fun{b m}⟨o,es,ep,e,d,r⟩=>⟨o,es,ep,Ae e (WK e d),d,r⟩;have hKb:K.In (sG s₁.heap H):=fun b o e=>Ae (KX b o e) (by cases q:H b with|none=>rfl|some u=>have e':b=a:=hA b (by rw[q];simp);subst e';rw[hK (by rw[q];simp)]at e;cases e);have hM:Mod K mg (sG s₁.heap H):=⟨hKb,YS hns,⟨mb,YS hb,hbb⟩,let⟨mc,h1,h2⟩:=hlim;⟨mc,YS h1,h2⟩⟩;have e0:Jz P w K mg (sG s₁.heap H) callerA [] s₁ H:=⟨rfl,hM,fun b o e=>Ke e,Nat.le_of_eq (Bq _ _),trivial,fun b hb=>absurd (show b∈([]:List Addr)from hb) (by simp),hok,.of_eq hg⟩;refine codeAny_mono ((F _ hKb (YS hns)).run callerA [] s₁ H ⟨[.ref a],[]⟩ [.ref a] [.ref a] _ _ hr e0 (hbind s₁ (.ref a)) (.cons rfl .nil) (hsp H hO hS)) fun r s' h=>?_;cases r with|error e=>exact(WL H e s' h).elim|ok fl=>cases fl with|next=>exact False.elim h|brk=>exact False.elim h|cont=>exact False.elim h|ret u=>obtain⟨v,H',os,bare,un,hok',r',q⟩:=h;have q':v=.bl true:=q;subst q';obtain rfl:u=Value.bool true:=r';refine⟨rfl,OldK.of_keep fun b o e=>?_,os,bare⟩;cases q:H b with|none=>exact un.keep b o e q (by intro z;exact absurd (show b∈([]:List Addr)from z) (by simp)) (by simp)|some u=>
        rcases hO b with z|⟨ob,xs,z⟩;.rw[q]at z;cases z
        .have z2:=un.ug b ob _ z;obtain⟨e1,_⟩:=hok b _ z;obtain⟨e2,_⟩:=hok' b _ z2;rw[e]at e1;cases e1;exact e2
 cases hk:K.lookup a with|some o=>--the script is one of the module's own objects
   have e:=KX a o hk;rw[ha]at e;cases e;refine core (fun _=>none) (fun _=>.inl rfl) (.inr ⟨_,vs.toArray,_,hk,rfl,rfl,rfl,by rw[List.size_toArray,lenV];exact hl,by simpa using rv⟩) (fun b u z=>by have z':(none:Option HO)=some u:=z;cases z') (fun b z=>absurd rfl z) fun z=>absurd rfl z|none=>
   refine core (fun b=>if b=a then some (.fH {cls:=.type "list",data:=.seq vs.toArray} (.lst (ns.map V.int)))else none) (fun b=>?_) (.inl (.inr ⟨{cls:=.type "list",data:=.seq vs.toArray},if_pos rfl⟩)) (fun b u z=>?_) (fun b z=>?_) fun _=>hk
   . by_cases hb:b=a;.exact .inr ⟨_,_,if_pos hb⟩
     .exact .inl (if_neg hb)
   . by_cases hb:b=a;.have z':=(if_pos hb).symm.trans z;cases z';subst hb;exact⟨ha,by rw[List.length_map];exact hl,vs,_,rv,ha⟩
     .have z':=(if_neg hb).symm.trans z;cases z'
   . by_cases hb:b=a;.exact hb
     .exact absurd (if_neg hb) z
end L2
namespace L2
open PySem PySem.Spec PyProof.Rows
theorem Io{l:PySem.W.OpenLaw}{n k:Nat}{q:Program}{loose:List Str}{XP:(Str->Option Value)->Heap->Prop}{YP:World->Heap->Prop}{d:DefRec}{K:Params->PySem.W.Frag}{CX:World->Er}{sp:World->Sp}{x:Str}(hn:l.most=some n)(hn2:n<=sizeLine)(hdf:d.params.defaults=[])(hr:jb k callerA)(hY:∀(w:World)(h:Heap),YP w h->(K w.params).In h)(F:∀(w:World)(mg:Str->Option Value)(fa:Addr)(h:Heap),(K w.params).In h->h.Ns mainGlobals mg->mg d.name=some (.ref fa)->∃ fd:FuncData,(∀(s:Shared)(u:Value),BindsTo s fd ⟨[u],[]⟩ [(x,u)])/\∀base:Heap,(K w.params).In base->base.Ns mainGlobals mg->cW l.prog w (K w.params) mg base (CX w) k fa fd [x] (sp w))(hsp:∀(w:World)(H:Hp)(a:Addr)(ns:List Int),ns.length<=n->Only H->dX (K w.params) H a (ns.map V.int)->sp w [.ref a] H (fun v _=>v=.bl true) fun _ _ _=>False)(WL:∀(w:World)(H:Hp)(s:Shared)(e:Value)(s':Shared),CX w [] H s (fun _ _ _=>False) e s'->False):PySem.W.WalkO q loose XP YP l.row.toRowW d [] (fun f vs=>PySem.call f vs):=by refine YQ.uM hn hdf fun w s₀ s₁ mg mb fa o pm cd doc a vs ns G Y ho hd hcd hmg hobj hints hlen hg=>?_;have KX:=hY w _ Y;obtain⟨fd,hb,hF⟩:=F w mg fa _ KX G.T.g hmg;exact Df KX G.T.g G.T.b G.T.builtins G.T.nolimit hg hobj hints (Nat.le_trans hlen hn2) hr hF hb (fun H hO hS=>hsp w H a ns hlen hO hS) fun H e s'=>WL w H s₁ e s'
theorem Dy{l:PySem.W.OpenLaw}{n k:Nat}{q:Program}{loose:List Str}{XP:(Str->Option Value)->Heap->Prop}{YP:World->Heap->Prop}{d:DefRec}{K:Params->PySem.W.Frag}{CX:Er}{sp:PySem.W.Frag->Sp}{x:Str}(hn:l.most=some n)(hn2:n<=sizeLine)(hdf:d.params.defaults=[])(hr:jb k callerA)(hY:∀(w:World)(h:Heap),YP w h->(K w.params).In h)(F:∀(w:World)(mg:Str->Option Value)(fa:Addr)(h:Heap),(K w.params).In h->h.Ns mainGlobals mg->mg d.name=some (.ref fa)->∃ fd:FuncData,(∀(s:Shared)(u:Value),BindsTo s fd ⟨[u],[]⟩ [(x,u)])/\∀base:Heap,(K w.params).In base->base.Ns mainGlobals mg->cW l.prog w (K w.params) mg base CX k fa fd [x] (sp (K w.params)))(hsp:∀(K:PySem.W.Frag)(H:Hp)(a:Addr)(ns:List Int),ns.length<=n->Only H->dX K H a (ns.map V.int)->sp K [.ref a] H (fun v _=>v=.bl true) fun _ _ _=>False)(WL:∀(H:Hp)(s:Shared)(e:Value)(s':Shared),CX [] H s (fun _ _ _=>False) e s'->False):PySem.W.WalkO q loose XP YP l.row.toRowW d [] (fun f vs=>PySem.call f vs):=Io (K:=K) (CX:=fun _=>CX) (sp:=fun w=>sp (K w.params)) hn hn2 hdf hr hY F (fun w H a ns h1 h2 h3=>hsp (K w.params) H a ns h1 h2 h3) fun _ H s e s'=>WL H s e s'
end L2/-THE LAST THEOREM(shape;LID,My.*are acP):My.Adr:a structure of the addresses that your layer names(classes,functions);My.Txt K t:a structure(Prop)of the equations over K;My.aa8:{K}{implicit addresses..}(e1:nsIn K mainGlobals"law"=some(some(.ref f)))(e2:K.lookup f=some⟨oc,od,.func(fnOf"law""law"params body scope dV kV doc pm an cdv ct),sl⟩)(e3:codeIn K cdv"law"=true)..:∃t,My.Txt K t;set_option maxRecDepth 100000 in;set_option maxHeartbeats 0 in(the tactic k_is has no namespace:write k_is)-/
namespace L2
open PySem PySem.Spec PyProof.Rows
noncomputable def iC(s:Stmt):Arguments:=match s with|.FunctionDef _ a _ _ _ _ _ _ _ _=>a|_=>{posonlyargs:=[],args:=[],vararg:=none,kwonlyargs:=[],kw_defaults:=[],kwarg:=none,defaults:=[]}
noncomputable def fX(s:Stmt):List Stmt:=match s with|.FunctionDef _ _ b _ _ _ _ _ _ _=>b|_=>[]
noncomputable def aM(s:Stmt):Scope:=match s with|.FunctionDef _ _ _ _ _ _ sc _ _ _=>sc|_=>{kind:=.function,names:=[],isGenerator:=false,isCoroutine:=false}
noncomputable abbrev jJ:Er:=fun _ _ _ _ _ _=>False
noncomputable abbrev E0:XK:=fun _ _ _=>False
theorem VJ{X:Cx}:Passes jJ X E0:=fun _ _ _ _ _ _ _ h=>h.elim
structure j7(K:PySem.W.Frag)(x qual:Str)(st:Stmt)(f:Addr)(fd:FuncData):Prop where
 ex:∃(oc:Value)(od:Option Addr)(kV doc pm:Value)(an:Option Addr)(cdv ct:Value)(osl:Array (Option Value)),fd=PySem.W.fnOf x qual (iC st) (fX st) (aM st) .none kV doc pm an cdv ct/\K.lookup f=some ⟨oc,od,.func fd,osl⟩/\PySem.W.codeIn K cdv qual=true
 kp:PySem.W.keepIn K (.ref f)=true
section
variable{P:Program}{w:World}{K:PySem.W.Frag}{mg:Str->Option Value}{base:Heap}
theorem j7.ok{x qual:Str}{st:Stmt}{f:Addr}{fd:FuncData}{N ps:List Str}{k:Nat}{sp:Sp}(F:j7 K x qual st f fd)(S:bj N ps (aM st))(len:∀vs H Q E,sp vs H Q E->vs.length=ps.length)(hbody:∀(cdv:Value)(A:Around)(outer:List Env)(s:Shared)(H:Hp)(vs:List V)(Q:VK)(E:XK),jb k (A.deeper (envOfC qual (aM st) s.heap.objs.size f cdv))->sp vs H Q E->∃t,wW (yj jJ P w K mg base N qual (aM st) f cdv A outer s H E).We (fX st) t/\t {nx:=fun _ H'=>Q .non H',rt:=Q} (start N vs) H):cW P w K mg base jJ (k+1) f fd ps sp:=by obtain⟨oc,od,kV,doc,pm,an,cdv,ct,osl,rfl,lk,hcd⟩:=F.ex;refine Wq lk hcd S len fun A outer s H vs Q E hr hsp=>?_;obtain⟨t,h,q⟩:=hbody cdv A outer s H vs Q E hr hsp;exact⟨t,h.We,q⟩
theorem j7.binds{x qual:Str}{st:Stmt}{f:Addr}{fd:FuncData}{ps:List Str}(F:j7 K x qual st f fd)(h:∀(kV doc pm:Value)(an:Option Addr)(cdv ct:Value)(us:List Value),us.length=ps.length->bindArgs (PySem.W.fnOf x qual (iC st) (fX st) (aM st) .none kV doc pm an cdv ct) ⟨us,[]⟩=pure (ps.zip us)):Binds K fd ps []:=by obtain⟨oc,od,kV,doc,pm,an,cdv,ct,osl,rfl,lk,hcd⟩:=F.ex;exact .all (h kV doc pm an cdv ct)
theorem Qa{x qual:Str}{st:Stmt}{f:Addr}{oc:Value}{od an:Option Addr}{osl:Array (Option Value)}{kV doc pm cdv ct:Value}(l:K.lookup f=some ⟨oc,od,.func (PySem.W.fnOf x qual (iC st) (fX st) (aM st) .none kV doc pm an cdv ct),osl⟩)(c:PySem.W.codeIn K cdv qual=true)(k:PySem.W.keepIn K (.ref f)=true):j7 K x qual st f (PySem.W.fnOf x qual (iC st) (fX st) (aM st) .none kV doc pm an cdv ct):=⟨⟨oc,od,kV,doc,pm,an,cdv,ct,osl,rfl,l,c⟩,k⟩
end
noncomputable def aP(H H':Hp):Prop:=∀b o,H b=some o->H' b=some o
theorem aP.refl(H:Hp):aP H H:=fun _ _ h=>h
theorem aP.trans{H H1 H2:Hp}(a:aP H H1)(b:aP H1 H2):aP H H2:=fun c o h=>b c o (a c o h)
theorem aP.seq{K:PySem.W.Frag}{H H':Hp}{a:Addr}{xs:List V}(e:aP H H')(h:dX K H a xs):dX K H' a xs:=by
 rcases h with(h|⟨o,h⟩)|h;.exact .inl (.inl (e _ _ h))
 .exact .inl (.inr ⟨o,e _ _ h⟩)
 .exact .inr h
end L2
end
section
namespace HH
open PySem
inductive Dc where|k(kvs:List (Int×Int))|t(kvs:List (List Int×Int))deriving DecidableEq
inductive D where|non|bl(b:Bool)|int(i:Int)|str(s:Str)|tup(ds:List D)|lst(ds:List D)|cD(m:Dc)deriving Inhabited
mutual
noncomputable def jQ:D->D->Bool|.non,.non=>true|.bl a,.bl b=>a==b|.bl a,.int i=>(if a then(1:Int)else 0)==i|.int i,.bl a=>i==(if a then(1:Int)else 0)|.int i,.int j=>i==j|.str a,.str b=>a==b|.tup xs,.tup ys=>gV xs ys|.lst xs,.lst ys=>gV xs ys|.cD a,.cD b=>decide (a=b)|_,_=>false
noncomputable def gV:List D->List D->Bool|[],[]=>true|x::xs,y::ys=>jQ x y&&gV xs ys|_,_=>false
end
theorem pqi{i j}:jQ (.int i) (.int j)=(i==j):=(rfl)
theorem pqt{x y}:jQ (.tup x) (.tup y)=gV x y:=(rfl)
theorem Yp{x y}:jQ (.lst x) (.lst y)=gV x y:=(rfl)
noncomputable def dZ:Nat->D->Bool|_,.non=>true|_,.bl _=>true|_,.int _=>true|_,.str _=>true|0,.tup _=>false|0,.lst _=>false|_,.cD _=>false|n+1,.tup ds=>ds.all (dZ n)|n+1,.lst ds=>ds.all (dZ n)
inductive Sl where|au|val(b:Bool)(d:D)|own(b:Bool)(ds:List D)|lent(ds:List D)|cM(m:Dc)|hold(rows:List (List D))deriving Inhabited
inductive R where|val(d:D)|own(ds:List D)deriving Inhabited
noncomputable def R.d:R->D|.val d=>d|.own ds=>.lst ds
inductive Res(α:Type)where|ok(a:α)(ρ:List Sl)|exc(k:Nat)(ρ:List Sl)|stuck deriving Inhabited
noncomputable def Res.bind{α β:Type}(f:α->List Sl->Res β):Res α->Res β|.ok a ρ=>f a ρ|.exc _ _=>.stuck|.stuck=>.stuck
noncomputable def lift{α:Type}(o:Option α)(ρ:List Sl):Res α:=match o with|some a=>.ok a ρ|none=>.stuck
inductive Op where|add|sub|mul|fdiv|mod|pow|shl|shr|band|G8 deriving DecidableEq
inductive Cm where|eq|ne|lt|le|gt|ge|isN|WM|inn|Mu|isT|WN|leT deriving DecidableEq
inductive Ty where|int|bool|str|tuple|list|none deriving DecidableEq
inductive XX where|len|list|tuple|min2|max2|BZ|Ca|sum|all|sorted|abs|int|keys|WQ|Ra|aa9|Tt deriving DecidableEq
inductive P where|var(i:Nat)|con(d:D)|bin(o:Op)(a b:P)|neg(a:P)|not(a:P)|and(a b:P)|or(a b:P)|cmp(o:Cm)(a b:P)|chain(o o':Cm)(a b c:P)|ife(c a b:P)|tup(as:List P)|lst(as:List P)|idx(a i:P)|slice(a lo hi:P)|call(f:Nat)(as:List P)|blt(b:XX)(as:List P)|inst(ts:List Ty)(a:P)|comp(src:P)(n:Nat)(is:List Nat)(one:Bool)(test:Option P)(elt:P)|lW(a b:P)|zip(a b:P)|Rb(x:Nat)(k d:P)|vw(x:Nat)|Kz(x:Nat)(ks:List P)|wD(x:Nat)(ks:List P)(d:P)deriving Inhabited
noncomputable abbrev lim:Nat:=16777216
noncomputable def oM:D->D->Option R|.int i,.int j=>some (.val (.int (i+j)))|.lst xs,.lst ys=>if xs.length+ys.length<=lim then some (.own (xs++ys))else none|.tup xs,.tup ys=>if xs.length+ys.length<=lim then some (.val (.tup (xs++ys)))else none|.str x,.str y=>if x.length+y.length<=lim then some (.val (.str (x++y)))else none|_,_=>none
noncomputable def mZ:D->D->Option R|.int i,.int j=>if((-18446744073709551616<i/\i<18446744073709551616)\/(-18446744073709551616<j/\j<18446744073709551616))then some (.val (.int (i*j)))else none|.lst xs,.int k=>if 0<=k/\0<xs.length/\xs.length*k.toNat<=lim then some (.own (List.replicate k.toNat xs).flatten)else none|.tup xs,.int k=>if 0<=k/\0<xs.length/\xs.length*k.toNat<=lim then some (.val (.tup (List.replicate k.toNat xs).flatten))else none|_,_=>none
noncomputable def vW:D->D->Option R|.int i,.int j=>some (.val (.int (i-j)))|_,_=>none
noncomputable def oX:D->D->Option R|.int i,.int j=>if 0<j/\j<1606938044258990275541962092341162602522202993782792835301376 then some (.val (.int (i/j)))else none|_,_=>none
noncomputable def vh:D->D->Option R|.int i,.int j=>if 0<j then some (.val (.int (i%j)))else none|_,_=>none
noncomputable def u6:D->D->Option R|.int i,.int j=>if 0<=j/\j<=1000/\i.natAbs<18446744073709551616 then some (.val (.int (i^j.toNat)))else none|_,_=>none
noncomputable def Dr:D->D->Option R|.int i,.int j=>if 0<=j/\j<=1000/\i.natAbs<18446744073709551616 then some (.val (.int (i*2^j.toNat)))else none|_,_=>none
noncomputable def Dv:D->D->Option R|.int i,.int j=>if 0<=j then some (.val (.int (i/2^j.toNat)))else none|_,_=>none
noncomputable def xq:D->D->Option R|.int i,.int j=>some (.val (.int (Builtin.bitAnd i j)))|_,_=>none
noncomputable def flat:D->Bool|.tup _=>false|.lst _=>false|.cD _=>false|_=>true
noncomputable def items:D->Option (List D)|.lst ds=>some ds|.tup ds=>some ds|_=>none
noncomputable def Pb:D->Option (List D)|.tup ds=>some ds|_=>none
noncomputable def Gn(x y:D):Option Bool:=if dZ 8 x&&dZ 8 y then some (jQ x y)else none
noncomputable def CT(x y:D):Option Bool:=if dZ 8 x&&dZ 8 y then some (!jQ x y)else none
noncomputable def Hw(f:Int->Int->Bool):D->D->Option Bool|.int i,.int j=>some (f i j)|_,_=>none
noncomputable def jM:D->Bool|.non=>true|_=>false
noncomputable def cmN(neg:Bool)(x:D):D->Option Bool|.non=>some (if neg then !jM x else jM x)|_=>none
noncomputable def Ba(neg:Bool)(x y:D):Option Bool:=(items y).bind fun ys=>if(flat x&&ys.all flat)=true then some (if neg then !(ys.any fun y=>jQ y x)else ys.any fun y=>jQ y x)else none
noncomputable def cmT(neg:Bool):D->D->Option Bool|.bl b,.bl true=>some (if neg then !b else b)|_,_=>none
noncomputable def bB:List Int->List Int->Bool|[],_::_=>true|i::is,j::js=>decide (i<j)||(decide (i=j)&&bB is js)|_,[]=>false
noncomputable def gA:D->Int|.int i=>i|_=>0
noncomputable def bR:D->List Int|.int i=>[i]|.tup ds=>ds.map gA|_=>[]
noncomputable def eZ:D->Bool|.int _=>true|_=>false
noncomputable def Dc.get:Dc->D->Option (Option Int)|.k kvs,.int i=>some ((kvs.find? fun kv=>decide (kv.1=i)).map (·.2))|_,_=>none
noncomputable def putD{κ:Type}[DecidableEq κ](kvs:List (κ×Int))(k:κ)(v:Int):List (κ×Int):=if(kvs.any fun kv=>decide (kv.1=k))=true then kvs.map (fun kv=>if kv.1=k then(kv.1,v)else kv)else kvs++[(k,v)]
noncomputable def Dc.put:Dc->D->Int->Option Dc|.k kvs,.int i,v=>if kvs.length<lim then some (.k (putD kvs i v))else none|_,_,_=>none
noncomputable def Dc.vm:Dc->List D->Option (Option Int)|.t kvs,ds=>if ds.all eZ=true then some ((kvs.find? fun kv=>decide (kv.1=ds.map gA)).map (·.2))else none|_,_=>none
noncomputable def Dc.JC:Dc->List D->Int->Option Dc|.t kvs,ds,v=>if ds.all eZ=true/\kvs.length<lim then some (.t (putD kvs (ds.map gA) v))else none|_,_,_=>none
noncomputable def Ac:D->List D->Option R|.cD m,ks=>(m.vm ks).bind fun o=>o.map fun v=>.val (.int v)|_,_=>none
noncomputable def qt:D->D->Option R|.cD m,k=>(m.get k).bind fun o=>o.map fun v=>.val (.int v)|_,_=>none
noncomputable def sr:Op->D->D->Option R|.add=>oM|.mul=>mZ|.sub=>vW|.fdiv=>oX|.mod=>vh|.pow=>u6|.shl=>Dr|.shr=>Dv|.band=>xq|.G8=>qt
noncomputable def Ud:D->D->Option Bool|.int i,.int j=>some (decide (i<j))|.tup xs,.tup ys=>if(xs.all eZ&&ys.all eZ)=true then some (bB (xs.map gA) (ys.map gA))else none|_,_=>none
noncomputable def Z7:D->D->Option Bool|.int i,.int j=>some (decide (i<=j))|.tup xs,.tup ys=>if(xs.all eZ&&ys.all eZ)=true then some (!bB (ys.map gA) (xs.map gA))else none|_,_=>none
noncomputable def cm:Cm->D->D->Option Bool|.eq=>Gn|.ne=>CT|.lt=>Ud|.le=>Hw fun i j=>decide (i<=j)|.leT=>Z7|.gt=>Hw fun i j=>decide (j<i)|.ge=>Hw fun i j=>decide (j<=i)|.isN=>cmN false|.WM=>cmN true|.inn=>Ba false|.Mu=>Ba true|.isT=>cmT false|.WN=>cmT true
noncomputable def uC(o:Cm)(x y:D):Option R:=(cm o x y).map fun k=>.val (.bl k)
noncomputable def stD(ks:List Int)(k:Int):List Int:=if ks.contains k=true then ks else ks++[k]
noncomputable def dedI(ns:List Int):List Int:=ns.foldl stD []
noncomputable def lU(n:Nat)(i:Int):Option Nat:=if 0<=i then(if i<n then some i.toNat else none)else if-(n:Int)<=i then some (i+n).toNat else none
noncomputable def at'{α:Type}(xs:List α)(i:Int):Option α:=(lU xs.length i).bind fun j=>xs[j]?
noncomputable def cV(n d:Nat):Option Int->Nat|none=>d|some i=>if 0<=i then min i.toNat n else(i+n).toNat
noncomputable def cut{α:Type}(xs:List α)(lo hi:Option Int):List α:=(xs.drop (cV xs.length 0 lo)).take (cV xs.length xs.length hi-cV xs.length 0 lo)
noncomputable def optI:D->Option (Option Int)|.non=>some none|.int i=>some (some i)|_=>none
noncomputable def dC:D->Option Int|.int i=>some i|_=>none
noncomputable def zZ:D->Option Bool|.bl b=>some b|_=>none
noncomputable def lV(x y:D):Option R:=(items x).bind fun ds=>(dC y).bind fun i=>(at' ds i).map .val
noncomputable def DY(x:D):Option R:=(dC x).map fun i=>.val (.int (-i))
noncomputable def Bo:P->Bool|.con .non=>true|_=>false
noncomputable def part(p:P)(d:D):Option (Option Int):=if Bo p then some none else(dC d).map some
noncomputable def Hu:D->Option (Option Int)->Option (Option Int)->Option R|.lst xs,some lo,some hi=>some (.own (cut xs lo hi))|.tup xs,some lo,some hi=>some (.val (.tup (cut xs lo hi)))|_,_,_=>none
noncomputable def bZ:Ty->D->Bool|.int,.int _=>true|.int,.bl _=>true|.bool,.bl _=>true|.str,.str _=>true|.tuple,.tup _=>true|.list,.lst _=>true|.none,.non=>true|_,_=>false
noncomputable def qj:D->Bool|.tup (x::xs)=>(x::xs).all eZ|_=>false
noncomputable def sortable(ds:List D):Bool:=decide (ds.length<=16777216)&&(ds.all eZ||ds.all qj)
noncomputable def qu(ds:List D):List D:=ds.mergeSort fun a b=>!bB (bR b) (bR a)
noncomputable def pH:D->Option (List D)|.lst ds=>some ds|_=>none
noncomputable def blt:XX->List D->Option R|.len,[x]=>(items x).map fun ds=>.val (.int ds.length)|.list,[x]=>(items x).map fun ds=>.own ds|.tuple,[x]=>(items x).map fun ds=>.val (.tup ds)|.min2,[.int i,.int j]=>some (.val (.int (if j<i then j else i)))|.max2,[.int i,.int j]=>some (.val (.int (if i<j then j else i)))|.BZ,[x]=>((items x).bind fun ds=>ds.mapM dC).bind fun ns=>ns.min?.map fun i=>.val (.int i)|.Ca,[x]=>((items x).bind fun ds=>ds.mapM dC).bind fun ns=>ns.max?.map fun i=>.val (.int i)|.sum,[x]=>((items x).bind fun ds=>ds.mapM dC).map fun ns=>.val (.int ns.sum)|.all,[x]=>((pH x).bind fun ds=>ds.mapM zZ).map fun bs=>.val (.bl (bs.all id))|.sorted,[x]=>(pH x).bind fun ds=>if sortable ds then some (.own (qu ds))else none|.abs,[.int i]=>some (.val (.int (if i<0 then-i else i)))|.int,[.int i]=>some (.val (.int i))|.int,[.bl b]=>some (.val (.int (if b then 1 else 0)))|.keys,[.cD (.k kvs)]=>some (.val (.tup (kvs.map fun p=>.int p.1)))|.Ra,[.cD (.t kvs)]=>if sortable (kvs.map fun p=>.tup (p.1.map D.int))then some (.own (qu (kvs.map fun p=>.tup (p.1.map D.int))))else none|.aa9,[.cD (.t kvs)]=>if sortable (kvs.map fun p=>.tup (p.1.map D.int))then some (.own (qu (kvs.map fun p=>.tup (p.1.map D.int))))else none|.Tt,[.cD (.t kvs)]=>if kvs.length<=16777216 then some (.own (kvs.map fun p=>.tup (p.1.map D.int)))else none|.WQ,[.cD (.k kvs)]=>if sortable (kvs.map fun p=>.int p.1)then some (.own (qu (kvs.map fun p=>.int p.1)))else none|_,_=>none
noncomputable def pk(ρ:List Sl)(i:Nat):Option D:=match ρ[i]?with|some (.val _ d)=>some d|some (.own _ ds)=>some (.lst ds)|some (.lent ds)=>some (.lst ds)|_=>none
noncomputable def JP(ρ:List Sl)(i:Nat):Option (List D):=match pk ρ i with|some (.lst ds)=>some ds|_=>none
noncomputable abbrev Ev:=List Sl->Res R
noncomputable def isVar:P->Option Nat|.var i=>some i|_=>none
noncomputable def bI(i:Option Nat)(e:Ev)(ρ:List Sl):Res D:=match i with|some i=>lift (pk ρ i) ρ|none=>(e ρ).bind fun r ρ=>.ok r.d ρ
noncomputable def iB(i:Option Nat)(e:Ev)(j:Option Nat)(f:Ev)(ρ:List Sl):Res (D×D):=match i with|some i=>(lift (pk ρ i) ρ).bind fun _ ρ=>(bI j f ρ).bind fun y ρ=>(lift (pk ρ i) ρ).bind fun x ρ=>.ok (x,y) ρ|none=>(bI none e ρ).bind fun x ρ=>(bI j f ρ).bind fun y ρ=>.ok (x,y) ρ
noncomputable def iT(e:Ev)(ρ:List Sl):Res Bool:=(e ρ).bind fun r ρ=>lift (zZ r.d) ρ
inductive Arg where|dat(d:D)|tmp(ds:List D)|fJ(i:Nat)
noncomputable def uF:R->Arg|.val d=>.dat d|.own ds=>.tmp ds
noncomputable def bO(ρ:List Sl):List Arg->List Nat->Option (List Sl)|[],_=>some []|.dat d::r,used=>(bO ρ r used).map fun s=>.val false d::s|.tmp ds::r,used=>(bO ρ r used).map fun s=>.own false ds::s|.fJ i::r,used=>match ρ[i]?with|some (.val _ d)=>(bO ρ r used).map fun s=>.val false d::s|some (.own _ ds)=>if used.contains i then none else(bO ρ r (i::used)).map fun s=>.own true ds::s|some (.lent ds)=>if used.contains i then none else(bO ρ r (i::used)).map fun s=>.lent ds::s|_=>none
noncomputable def aZ(i:Nat):List Arg->List Sl->Option Sl|.fJ k::as,s::ss=>if k=i then some s else aZ i as ss|.dat _::as,_::ss=>aZ i as ss|.tmp _::as,_::ss=>aZ i as ss|_,_=>none
noncomputable def fV:Sl->Option Sl->Sl|.own b _,some (.own _ ds)=>.own b ds|.own b _,some (.val _ d)=>.val b d|s,_=>s
noncomputable def cQ(as:List Arg)(ss:List Sl):Nat->List Sl->List Sl|_,[]=>[]|i,s::ρ=>fV s (aZ i as ss)::cQ as ss (i+1) ρ
noncomputable abbrev Call:=Nat->List Sl->Res R
noncomputable def pB(c:Call)(f:Nat)(as:List Arg)(ρ:List Sl):Res R:=match bO ρ as []with|none=>.stuck|some args=>match c f args with|.ok r args'=>.ok r (cQ as args' 0 ρ)|.exc _ _=>.stuck|.stuck=>.stuck
noncomputable def put(ρ:List Sl)(i:Nat)(s:Sl):Option (List Sl):=match ρ[i]?with|some .au=>some (ρ.set i s)|some (.val false _)=>some (ρ.set i s)|some (.own false _)=>some (ρ.set i s)|_=>none
noncomputable def putAll(ρ:List Sl):List Nat->List D->Option (List Sl)|[],[]=>some ρ|i::is,d::ds=>(put ρ i (.val false d)).bind fun ρ=>putAll ρ is ds|_,_=>none
noncomputable def bV(ρ:List Sl)(is:List Nat)(one:Bool)(d:D):Option (List Sl):=match one,is,d with|true,[i],d=>put ρ i (.val false d)|false,is,.tup ds=>putAll ρ is ds|_,_,_=>none
noncomputable def srcOf(i:Option Nat)(e:Ev)(ρ:List Sl):Res (List D):=match i with
 |some i=>match ρ[i]?with|some (.val _ d)=>lift (items d) ρ|some (.own _ ds)=>.ok ds (ρ.set i (.lent ds))|some (.lent ds)=>.ok ds ρ|_=>.stuck
 |none=>(e ρ).bind fun r ρ=>lift (items r.d) ρ
noncomputable def bh(ρ₀:List Sl)(i:Option Nat)(ρ:List Sl):List Sl:=match i with
 |some i=>match ρ₀[i]?with|some (.own b ds)=>ρ.set i (.own b ds)|_=>ρ
 |none=>ρ
noncomputable def turns(is:List Nat)(one:Bool)(test:List Sl->Res Bool)(elt:Ev):List D->List D->List Sl->Res (List D)|[],acc,ρ=>.ok acc ρ|d::r,acc,ρ=>match bV ρ is one d with|none=>.stuck|some ρ=>(test ρ).bind fun b ρ=>if b then(elt ρ).bind fun x ρ=>turns is one test elt r (acc++[x.d]) ρ else turns is one test elt r acc ρ
mutual
noncomputable def ev(c:Call):P->List Sl->Res R
 |.var i,ρ=>match ρ[i]?with|some (.val _ d)=>.ok (.val d) ρ|some (.own b ds)=>.ok (.val (.lst ds)) (ρ.set i (.val b (.lst ds)))|some (.cM (.k kvs))=>.ok (.val (.cD (.k kvs))) (ρ.set i (.val false (.cD (.k kvs))))|_=>.stuck
 |.con d,ρ=>.ok (.val d) ρ|.bin o a b,ρ=>(iB (isVar a) (ev c a) (isVar b) (ev c b) ρ).bind fun xy ρ=>lift (sr o xy.1 xy.2) ρ|.neg a,ρ=>(bI (isVar a) (ev c a) ρ).bind fun x ρ=>lift (DY x) ρ|.not a,ρ=>(iT (ev c a) ρ).bind fun b ρ=>.ok (.val (.bl (!b))) ρ|.and a b,ρ=>(iT (ev c a) ρ).bind fun x ρ=>if x then(iT (ev c b) ρ).bind fun y ρ=>.ok (.val (.bl y)) ρ else .ok (.val (.bl false)) ρ|.or a b,ρ=>(iT (ev c a) ρ).bind fun x ρ=>if x then .ok (.val (.bl true)) ρ else(iT (ev c b) ρ).bind fun y ρ=>.ok (.val (.bl y)) ρ|.cmp o a b,ρ=>(iB (isVar a) (ev c a) (isVar b) (ev c b) ρ).bind fun xy ρ=>lift (uC o xy.1 xy.2) ρ|.chain o o' a b d,ρ=>(iB (isVar a) (ev c a) (isVar b) (ev c b) ρ).bind fun xy ρ=>(lift (if flat xy.2=true then cm o xy.1 xy.2 else none) ρ).bind fun k ρ=>if k then(bI (isVar d) (ev c d) ρ).bind fun z ρ=>lift (uC o' xy.2 z) ρ else .ok (.val (.bl false)) ρ|.ife t a b,ρ=>(iT (ev c t) ρ).bind fun k ρ=>if k then(ev c a ρ).bind fun r ρ=>.ok (.val r.d) ρ else(ev c b ρ).bind fun r ρ=>.ok (.val r.d) ρ|.tup as,ρ=>(evs c as ρ).bind fun ds ρ=>.ok (.val (.tup ds)) ρ|.lst as,ρ=>(evs c as ρ).bind fun ds ρ=>.ok (.own ds) ρ|.idx a i,ρ=>(iB (isVar a) (ev c a) (isVar i) (ev c i) ρ).bind fun xy ρ=>lift (lV xy.1 xy.2) ρ|.slice a l h,ρ=>match isVar a with|some i=>(lift (pk ρ i) ρ).bind fun _ ρ=>(bI (isVar l) (ev c l) ρ).bind fun y ρ=>(bI (isVar h) (ev c h) ρ).bind fun z ρ=>(lift (pk ρ i) ρ).bind fun x ρ=>lift (Hu x (part l y) (part h z)) ρ|none=>(bI none (ev c a) ρ).bind fun x ρ=>(bI (isVar l) (ev c l) ρ).bind fun y ρ=>(bI (isVar h) (ev c h) ρ).bind fun z ρ=>lift (Hu x (part l y) (part h z)) ρ
 |.call f as,ρ=>(wV c as ρ).bind fun xs ρ=>pB c f xs ρ|.blt b [a],ρ=>(bI (isVar a) (ev c a) ρ).bind fun x ρ=>lift (blt b [x]) ρ|.blt b as,ρ=>(evs c as ρ).bind fun ds ρ=>lift (blt b ds) ρ|.inst ts a,ρ=>(bI (isVar a) (ev c a) ρ).bind fun x ρ=>.ok (.val (.bl (ts.any fun t=>bZ t x))) ρ|.comp src n is one test elt,ρ=>(srcOf (isVar src) (ev c src) ρ).bind fun ds ρ₁=>if ds.length<=lim then(turns is one (j5 c test) (ev c elt) ds [] (ρ₁++List.replicate n .au)).bind fun xs ρ₂=>.ok (.own xs) (bh ρ (isVar src) (ρ₂.take ρ₁.length))else .stuck|.lW a b,ρ=>(iB (isVar a) (ev c a) (isVar b) (ev c b) ρ).bind fun xy ρ=>lift ((dC xy.1).bind fun i=>(dC xy.2).bind fun j=>if-1000000<=i/\i<=1000000000/\j<=1000000000/\-1000000000<=j then some (.val (.lst ((List.range (j-i).toNat).map fun(k:Nat)=>D.int (i+(k:Int)))))else none) ρ|.zip a b,ρ=>(ev c a ρ).bind fun x ρ=>(ev c b ρ).bind fun y ρ=>lift ((items x.d).bind fun ds=>(items y.d).map fun es=>.val (.lst ((ds.zip es).map fun p=>D.tup [p.1,p.2]))) ρ|.Rb x k d,ρ=>match ρ[x]?with
   |some (.cM _)=>(bI (isVar k) (ev c k) ρ).bind fun kd ρ=>(bI (isVar d) (ev c d) ρ).bind fun dd ρ=>match ρ[x]?with|some (.cM m)=>lift ((m.get kd).bind fun o=>(dC dd).map fun v=>.val (.int (o.getD v))) ρ|_=>.stuck
   |_=>.stuck
 |.vw x,ρ=>match ρ[x]?with|some (.cM m)=>.ok (.val (.cD m)) (ρ.set x (.val false (.cD m)))|_=>.stuck
 |.Kz x ks,ρ=>(lift (pk ρ x) ρ).bind fun _ ρ=>(evs c ks ρ).bind fun mW ρ=>(lift (pk ρ x) ρ).bind fun dd ρ=>lift (Ac dd mW) ρ|.wD x ks d,ρ=>match ρ[x]?with
   |some (.cM _)=>(evs c ks ρ).bind fun mW ρ=>(bI (isVar d) (ev c d) ρ).bind fun dd ρ=>match ρ[x]?with|some (.cM m)=>lift ((m.vm mW).bind fun o=>(dC dd).map fun v=>.val (.int (o.getD v))) ρ|_=>.stuck
   |_=>.stuck
noncomputable def evs(c:Call):List P->List Sl->Res (List D)|[],ρ=>.ok [] ρ|a::r,ρ=>(ev c a ρ).bind fun x ρ=>(evs c r ρ).bind fun xs ρ=>.ok (x.d::xs) ρ
noncomputable def wV(c:Call):List P->List Sl->Res (List Arg)|[],ρ=>.ok [] ρ|a::r,ρ=>match isVar a with|some i=>(lift (pk ρ i) ρ).bind fun _ ρ=>(wV c r ρ).bind fun xs ρ=>.ok (.fJ i::xs) ρ|none=>(ev c a ρ).bind fun x ρ=>(wV c r ρ).bind fun xs ρ=>.ok (uF x::xs) ρ
noncomputable def j5(c:Call):Option P->List Sl->Res Bool|none,ρ=>.ok true ρ|some t,ρ=>iT (ev c t) ρ
end
theorem E1{c i ρ}:ev c (.var i) ρ=match ρ[i]?with|some (.val _ d)=>.ok (.val d) ρ|some (.own b ds)=>.ok (.val (.lst ds)) (ρ.set i (.val b (.lst ds)))|some (.cM (.k kvs))=>.ok (.val (.cD (.k kvs))) (ρ.set i (.val false (.cD (.k kvs))))|_=>.stuck:=(rfl)
theorem E2{c d ρ}:ev c (.con d) ρ=.ok (.val d) ρ:=(rfl)
theorem E3{c o a b ρ}:ev c (.bin o a b) ρ=(iB (isVar a) (ev c a) (isVar b) (ev c b) ρ).bind fun xy ρ=>lift (sr o xy.1 xy.2) ρ:=(rfl)
theorem E4{c a ρ}:ev c (.neg a) ρ=(bI (isVar a) (ev c a) ρ).bind fun x ρ=>lift (DY x) ρ:=(rfl)
theorem E5{c a ρ}:ev c (.not a) ρ=(iT (ev c a) ρ).bind fun b ρ=>.ok (.val (.bl (!b))) ρ:=(rfl)
theorem E6{c a b ρ}:ev c (.and a b) ρ=(iT (ev c a) ρ).bind fun x ρ=>if x then(iT (ev c b) ρ).bind fun y ρ=>.ok (.val (.bl y)) ρ else .ok (.val (.bl false)) ρ:=(rfl)
theorem E7{c a b ρ}:ev c (.or a b) ρ=(iT (ev c a) ρ).bind fun x ρ=>if x then .ok (.val (.bl true)) ρ else(iT (ev c b) ρ).bind fun y ρ=>.ok (.val (.bl y)) ρ:=(rfl)
theorem E8{c o a b ρ}:ev c (.cmp o a b) ρ=(iB (isVar a) (ev c a) (isVar b) (ev c b) ρ).bind fun xy ρ=>lift (uC o xy.1 xy.2) ρ:=(rfl)
theorem E9{c o o' a b d ρ}:ev c (.chain o o' a b d) ρ=(iB (isVar a) (ev c a) (isVar b) (ev c b) ρ).bind fun xy ρ=>(lift (if flat xy.2=true then cm o xy.1 xy.2 else none) ρ).bind fun k ρ=>if k then(bI (isVar d) (ev c d) ρ).bind fun z ρ=>lift (uC o' xy.2 z) ρ else .ok (.val (.bl false)) ρ:=(rfl)
theorem E10{c t a b ρ}:ev c (.ife t a b) ρ=(iT (ev c t) ρ).bind fun k ρ=>if k then(ev c a ρ).bind fun r ρ=>.ok (.val r.d) ρ else(ev c b ρ).bind fun r ρ=>.ok (.val r.d) ρ:=(rfl)
theorem E11{c as ρ}:ev c (.tup as) ρ=(evs c as ρ).bind fun ds ρ=>.ok (.val (.tup ds)) ρ:=(rfl)
theorem E12{c as ρ}:ev c (.lst as) ρ=(evs c as ρ).bind fun ds ρ=>.ok (.own ds) ρ:=(rfl)
theorem E13{c a i ρ}:ev c (.idx a i) ρ=(iB (isVar a) (ev c a) (isVar i) (ev c i) ρ).bind fun xy ρ=>lift (lV xy.1 xy.2) ρ:=(rfl)
theorem E14{c a l h ρ}:ev c (.slice a l h) ρ=match isVar a with|some i=>(lift (pk ρ i) ρ).bind fun _ ρ=>(bI (isVar l) (ev c l) ρ).bind fun y ρ=>(bI (isVar h) (ev c h) ρ).bind fun z ρ=>(lift (pk ρ i) ρ).bind fun x ρ=>lift (Hu x (part l y) (part h z)) ρ|none=>(bI none (ev c a) ρ).bind fun x ρ=>(bI (isVar l) (ev c l) ρ).bind fun y ρ=>(bI (isVar h) (ev c h) ρ).bind fun z ρ=>lift (Hu x (part l y) (part h z)) ρ:=(rfl)
theorem E15{c f as ρ}:ev c (.call f as) ρ=(wV c as ρ).bind fun xs ρ=>pB c f xs ρ:=(rfl)
theorem E16{c b a ρ}:ev c (.blt b [a]) ρ=(bI (isVar a) (ev c a) ρ).bind fun x ρ=>lift (blt b [x]) ρ:=(rfl)
theorem E17{c b x y r ρ}:ev c (.blt b (x::y::r)) ρ=(evs c (x::y::r) ρ).bind fun ds ρ=>lift (blt b ds) ρ:=(rfl)
theorem U4{c b ρ}:ev c (.blt b []) ρ=(evs c [] ρ).bind fun ds ρ=>lift (blt b ds) ρ:=(rfl)
theorem E18{c ts a ρ}:ev c (.inst ts a) ρ=(bI (isVar a) (ev c a) ρ).bind fun x ρ=>.ok (.val (.bl (ts.any fun t=>bZ t x))) ρ:=(rfl)
theorem E19{c src n is one test elt ρ}:ev c (.comp src n is one test elt) ρ=(srcOf (isVar src) (ev c src) ρ).bind fun ds ρ₁=>if ds.length<=lim then(turns is one (j5 c test) (ev c elt) ds [] (ρ₁++List.replicate n .au)).bind fun xs ρ₂=>.ok (.own xs) (bh ρ (isVar src) (ρ₂.take ρ₁.length))else .stuck:=(rfl)
theorem E20{c a b ρ}:ev c (.lW a b) ρ=(iB (isVar a) (ev c a) (isVar b) (ev c b) ρ).bind fun xy ρ=>lift ((dC xy.1).bind fun i=>(dC xy.2).bind fun j=>if-1000000<=i/\i<=1000000000/\j<=1000000000/\-1000000000<=j then some (.val (.lst ((List.range (j-i).toNat).map fun(k:Nat)=>D.int (i+(k:Int)))))else none) ρ:=(rfl)
theorem E21{c a b ρ}:ev c (.zip a b) ρ=(ev c a ρ).bind fun x ρ=>(ev c b ρ).bind fun y ρ=>lift ((items x.d).bind fun ds=>(items y.d).map fun es=>.val (.lst ((ds.zip es).map fun p=>D.tup [p.1,p.2]))) ρ:=(rfl)
theorem E22{c x k d ρ}:ev c (.Rb x k d) ρ=match ρ[x]?with
 |some (.cM _)=>(bI (isVar k) (ev c k) ρ).bind fun kd ρ=>(bI (isVar d) (ev c d) ρ).bind fun dd ρ=>match ρ[x]?with|some (.cM m)=>lift ((m.get kd).bind fun o=>(dC dd).map fun v=>.val (.int (o.getD v))) ρ|_=>.stuck
 |_=>.stuck:=(rfl)
theorem E23{c x ρ}:ev c (.vw x) ρ=match ρ[x]?with|some (.cM m)=>.ok (.val (.cD m)) (ρ.set x (.val false (.cD m)))|_=>.stuck:=(rfl)
theorem E24{c x ks ρ}:ev c (.Kz x ks) ρ=(lift (pk ρ x) ρ).bind fun _ ρ=>(evs c ks ρ).bind fun mW ρ=>(lift (pk ρ x) ρ).bind fun dd ρ=>lift (Ac dd mW) ρ:=(rfl)
theorem E25{c x ks d ρ}:ev c (.wD x ks d) ρ=match ρ[x]?with
 |some (.cM _)=>(evs c ks ρ).bind fun mW ρ=>(bI (isVar d) (ev c d) ρ).bind fun dd ρ=>match ρ[x]?with|some (.cM m)=>lift ((m.vm mW).bind fun o=>(dC dd).map fun v=>.val (.int (o.getD v))) ρ|_=>.stuck
 |_=>.stuck:=(rfl)
inductive S where|pass|brk|cont|bad|expr(e:P)|asg(i:Nat)(e:P)|par(i j:Nat)(a b:P)|Mv(i:List Nat)(e:P)|G9(x:Nat)(i e:P)|app(x:Nat)(e:P)|ret(e:P)|WR|ifs(c:P)(a b:List S)|gC(src:P)(i:List Nat)(one:Bool)(body:List S)|aug(x:Nat)(sub:Bool)(e:P)|WT(x:Nat)(e:P)|qm(x:Nat)(t:Bool)|dput(x:Nat)(k e:P)|lM(x:Nat)(ks:List P)(e:P)|rvl(x:Nat)|Cd(x:Nat)(src:P)(k:Nat)(is:List Nat)(one:Bool)(elt:P)|Ha(x:Nat)(a b:P)|Ce(x:Nat)(i j e:P)|wF(x:Nat)(i j:P)(sub:Bool)(e:P)|Hb(x:Nat)(i e:P)|Hc(x:Nat)(i:P)|Hd(x y:Nat)(j k l:P)|yo(src:P)(is:List Nat)(one:Bool)(body:List S)|fH(x:Nat)|fz(x:Nat)|WW(x:Nat)(lX:List Nat)(t:P)(a b:List S)deriving Inhabited
inductive Fl where|next|brk|cont|ret(r:R)deriving Inhabited
noncomputable def v5:R->Sl|.val d=>.val false d|.own ds=>.own false ds
noncomputable def gB(is:List Nat)(one:Bool)(body:List Sl->Res Fl):List D->List Sl->Res Fl|[],ρ=>.ok .next ρ|d::r,ρ=>match bV ρ is one d with|none=>.stuck|some ρ=>(body ρ).bind fun fl ρ=>match fl with|.next=>gB is one body r ρ|.cont=>gB is one body r ρ|.brk=>.ok .next ρ|.ret r=>.ok (.ret r) ρ
noncomputable def fM(is:List Nat)(one:Bool)(elt:Ev):List D->List (List D)->List Sl->Res (List (List D))|[],acc,ρ=>.ok acc ρ|d::r,acc,ρ=>match bV ρ is one d with|none=>.stuck|some ρ=>(elt ρ).bind fun x ρ=>match x with|.own ds=>fM is one elt r (acc++[ds]) ρ|.val _=>.stuck
noncomputable def rowAt(rows:List (List D))(k:Int):Option (List D):=(lU rows.length k).bind fun r=>rows[r]?
noncomputable def cg(rows:List (List D))(k:Int)(f:List D->Option (List D)):Option (List (List D)):=(lU rows.length k).bind fun r=>(rows[r]?).bind fun row=>(f row).map fun gD=>rows.set r gD
noncomputable def setAt(l:Int)(d:D)(row:List D):Option (List D):=(lU row.length l).map fun m=>row.set m d
noncomputable def cz(ρ:List Sl)(x:Nat):Option (List (List D)):=match ρ[x]?with|some (.hold rows)=>some rows|_=>none
noncomputable def fO(ρ:List Sl)(x:Nat)(k:D):Option (List D):=(cz ρ x).bind fun rows=>(dC k).bind fun k=>rowAt rows k
noncomputable def jV(ρ:List Sl)(x:Nat)(o:Option (List (List D))):Res Fl:=match o with|some rows=>.ok .next (ρ.set x (.hold rows))|none=>.stuck
noncomputable def rowOne(x r:Nat)(ej ek el:List Sl->Res D)(ρ:List Sl):Res Fl:=(ek ρ).bind fun k ρ=>(lift ((cz ρ x).bind fun rows=>(rows[r]?).bind fun row=>(dC k).bind fun k=>(at' row k).bind dC) ρ).bind fun u ρ=>(el ρ).bind fun l ρ=>(lift ((cz ρ x).bind fun rows=>(rows[r]?).bind fun row=>(dC l).bind fun l=>(at' row l).bind dC) ρ).bind fun v ρ=>(ej ρ).bind fun j ρ=>jV ρ x ((cz ρ x).bind fun rows=>(rows[r]?).bind fun row=>(dC j).bind fun j=>(setAt j (.int (u+v)) row).map fun gD=>rows.set r gD)
noncomputable def gn(x y:Nat)(ej ek el:List Sl->Res D):Nat->Nat->List Sl->Res Fl|0,_,ρ=>.ok .next ρ|m+1,r,ρ=>(lift (put ρ y .au) ρ).bind fun ρ _=>(rowOne x r ej ek el ρ).bind fun _ ρ=>gn x y ej ek el m (r+1) ρ
noncomputable def hide(lX:List Nat)(x:Nat)(d:D):Nat->List Sl->List Sl|_,[]=>[]|i,s::ρ=>(if i=x then .val true d else if lX.contains i=true then(match s with|.val _ d=>.val true d|_=>.au)else .au)::hide lX x d (i+1) ρ
noncomputable def QZ(is:List Nat)(one:Bool)(body:List Sl->Res Fl)(bx:List Sl->Option (Nat×List Sl)):List D->List Sl->Option (Nat×List Sl)|[],_=>none|d::r,ρ=>match bV ρ is one d with|none=>none|some ρ=>match bx ρ with|some x=>some x|none=>match body ρ with|.ok .next ρ1=>QZ is one body bx r ρ1|.ok .cont ρ1=>QZ is one body bx r ρ1|_=>none
noncomputable def O8:P->P|.idx a _=>a|e=>e
noncomputable def unl:Sl->Bool|.au=>true|.val b _=>!b|.own b _=>!b|.lent _=>false|.cM _=>true|.hold _=>false
noncomputable def K9(c:Call)(e:P)(ρ:List Sl):Option (Nat×List Sl):=match O8 e with
 |.call f as=>match wV c as ρ with
   |.ok xs ρ1=>match bO ρ1 xs []with
     |some args=>match c f args with|.exc k args'=>some (k,cQ xs args' 0 ρ1)|_=>none
     |none=>none
   |_=>none
 |_=>none
mutual
noncomputable def ex(c:Call)(n:Nat):S->List Sl->Res Fl
 |.pass,ρ=>.ok .next ρ|.brk,ρ=>.ok .brk ρ|.cont,ρ=>.ok .cont ρ|.bad,_=>.stuck|.expr e,ρ=>(ev c e ρ).bind fun _ ρ=>.ok .next ρ|.asg i e,ρ=>(ev c e ρ).bind fun r ρ=>(lift (put ρ i (v5 r)) ρ).bind fun ρ' _=>.ok .next ρ'|.par i j a b,ρ=>(ev c a ρ).bind fun x ρ=>(ev c b ρ).bind fun y ρ=>(lift ((put ρ i (.val false x.d)).bind fun ρ=>put ρ j (.val false y.d)) ρ).bind fun ρ' _=>.ok .next ρ'|.Mv is e,ρ=>(ev c e ρ).bind fun r ρ=>match r.d with|.tup ds=>(lift (putAll ρ is ds) ρ).bind fun ρ' _=>.ok .next ρ'|_=>.stuck
 |.G9 x i e,ρ=>(ev c e ρ).bind fun r ρ=>(lift (pk ρ x) ρ).bind fun _ ρ=>(bI (isVar i) (ev c i) ρ).bind fun k ρ=>match ρ[x]?,k with
   |some (.own b ds),.int k=>match lU ds.length k with|some j=>.ok .next (ρ.set x (.own b (ds.set j r.d)))|none=>.stuck
   |_,_=>.stuck
 |.app x e,ρ=>(lift (JP ρ x) ρ).bind fun _ ρ=>(ev c e ρ).bind fun r ρ=>match ρ[x]?with|some (.own b ds)=>if ds.length<lim then .ok .next (ρ.set x (.own b (ds++[r.d])))else .stuck|_=>.stuck
 |.ret e,ρ=>match isVar e with
   |some i=>match ρ[i]?with|some (.own false ds)=>.ok (.ret (.own ds)) (ρ.set i .au)|_=>(ev c e ρ).bind fun r ρ=>.ok (.ret r) ρ
   |none=>(ev c e ρ).bind fun r ρ=>.ok (.ret r) ρ
 |.WR,ρ=>.ok (.ret (.val .non)) ρ|.ifs t a b,ρ=>(iT (ev c t) ρ).bind fun k ρ=>if k then eG c n a ρ else eG c n b ρ|.gC src is one body,ρ=>(srcOf (isVar src) (ev c src) ρ).bind fun ds ρ₁=>(gB is one (eG c n body) ds ρ₁).bind fun fl ρ₂=>.ok fl (bh ρ (isVar src) ρ₂)|.aug x sub e,ρ=>(lift (pk ρ x) ρ).bind fun a ρ=>(bI (isVar e) (ev c e) ρ).bind fun b ρ=>match a,b with|.int i,.int j=>(lift (put ρ x (.val false (.int (if sub then i-j else i+j)))) ρ).bind fun ρ' _=>.ok .next ρ'|_,_=>.stuck
 |.WT x e,ρ=>(lift (JP ρ x) ρ).bind fun _ ρ=>(ev c e ρ).bind fun r ρ=>match ρ[x]?,r with|some (.own b ds),.own es=>if ds.length+es.length<=lim then .ok .next (ρ.set x (.own b (ds++es)))else .stuck|_,_=>.stuck
 |.qm x t,ρ=>match ρ[x]?with|some .au=>.ok .next (ρ.set x (.cM (if t then .t []else .k [])))|_=>.stuck
 |.dput x k e,ρ=>(ev c e ρ).bind fun r ρ=>match ρ[x]?with
   |some (.cM _)=>(bI (isVar k) (ev c k) ρ).bind fun kd ρ=>match ρ[x]?,r with
     |some (.cM m),.val (.int v)=>match m.put kd v with|some m'=>.ok .next (ρ.set x (.cM m'))|none=>.stuck
     |_,_=>.stuck
   |_=>.stuck
 |.lM x ks e,ρ=>(ev c e ρ).bind fun r ρ=>match ρ[x]?with
   |some (.cM _)=>(evs c ks ρ).bind fun mW ρ=>match ρ[x]?,r with
     |some (.cM m),.val (.int v)=>match m.JC mW v with|some m'=>.ok .next (ρ.set x (.cM m'))|none=>.stuck
     |_,_=>.stuck
   |_=>.stuck
 |.rvl x,ρ=>(lift (JP ρ x) ρ).bind fun _ ρ=>match ρ[x]?with|some (.own b ds)=>.ok .next (ρ.set x (.own b ds.reverse))|_=>.stuck
 |.Cd x src k is one elt,ρ=>(srcOf (isVar src) (ev c src) ρ).bind fun ds ρ₁=>if ds.length<=lim then(fM is one (ev c elt) ds [] (ρ₁++List.replicate k .au)).bind fun rows ρ₂=>(lift (put (bh ρ (isVar src) (ρ₂.take ρ₁.length)) x (.hold rows)) ρ).bind fun ρ' _=>.ok .next ρ' else .stuck|.Ha x a b,ρ=>(ev c a ρ).bind fun r ρ=>(ev c b ρ).bind fun u ρ=>match r,u with|.own ds,.own es=>(lift (put ρ x (.hold [ds,es])) ρ).bind fun ρ' _=>.ok .next ρ'|_,_=>.stuck
 |.Ce x i j e,ρ=>(ev c e ρ).bind fun r ρ=>(bI (isVar i) (ev c i) ρ).bind fun k ρ=>(lift (fO ρ x k) ρ).bind fun _ ρ=>(bI (isVar j) (ev c j) ρ).bind fun l ρ=>jV ρ x ((cz ρ x).bind fun rows=>(dC k).bind fun k=>(dC l).bind fun l=>cg rows k (setAt l r.d))|.wF x i j sub e,ρ=>(bI (isVar i) (ev c i) ρ).bind fun k ρ=>(lift (fO ρ x k) ρ).bind fun _ ρ=>(bI (isVar j) (ev c j) ρ).bind fun l ρ=>(lift ((fO ρ x k).bind fun row=>(dC l).bind fun l=>(at' row l).bind dC) ρ).bind fun u ρ=>(bI (isVar e) (ev c e) ρ).bind fun w ρ=>(bI (isVar i) (ev c i) ρ).bind fun k ρ=>(lift (fO ρ x k) ρ).bind fun _ ρ=>(bI (isVar j) (ev c j) ρ).bind fun l ρ=>jV ρ x ((cz ρ x).bind fun rows=>(dC w).bind fun v=>(dC k).bind fun k=>(dC l).bind fun l=>cg rows k (setAt l (.int (if sub then u-v else u+v))))|.Hb x i e,ρ=>(bI (isVar i) (ev c i) ρ).bind fun k ρ=>(lift (fO ρ x k) ρ).bind fun _ ρ=>(ev c e ρ).bind fun r ρ=>jV ρ x ((cz ρ x).bind fun rows=>(dC k).bind fun k=>cg rows k fun row=>if row.length<lim then some (row++[r.d])else none)|.Hc x i,ρ=>(bI (isVar i) (ev c i) ρ).bind fun k ρ=>jV ρ x ((cz ρ x).bind fun rows=>(dC k).bind fun k=>cg rows k fun _=>some [])|.Hd x y j k l,ρ=>(lift (cz ρ x) ρ).bind fun rows ρ=>gn x y (bI (isVar j) (ev c j)) (bI (isVar k) (ev c k)) (bI (isVar l) (ev c l)) rows.length 0 ρ|.yo src is one body,ρ=>(ev c src ρ).bind fun r ρ₁=>(lift (items r.d) ρ₁).bind fun ds ρ₁=>gB is one (eG c n body) ds ρ₁|.fH x,ρ=>match ρ[x]?with|some (.hold rows)=>.ok .next (ρ.set x (.val false (.lst (rows.map D.lst))))|_=>.stuck
 |.fz x,ρ=>match ρ[x]?with|some (.own b ds)=>.ok .next (ρ.set x (.val b (.lst ds)))|some (.val _ _)=>.ok .next ρ|_=>.stuck
 |.WW x lX t a b,ρ=>(lift (cz ρ x) ρ).bind fun rows ρ=>(iT (ev c t) (hide lX x (.lst (rows.map D.lst)) 0 ρ)).bind fun k _=>if k then eG c n a ρ else eG c n b ρ
noncomputable def eG(c:Call)(n:Nat):List S->List Sl->Res Fl|[],ρ=>.ok .next ρ|s::r,ρ=>(ex c n s ρ).bind fun fl ρ=>match fl with|.next=>eG c n r ρ|fl=>.ok fl ρ
noncomputable def exX(c:Call)(n:Nat):S->List Sl->Option (Nat×List Sl)
 |.ifs t a b,ρ=>match iT (ev c t) ρ with|.ok x ρ1=>if x then Gq c n a ρ1 else Gq c n b ρ1|_=>none
 |.gC src is one body,ρ=>match srcOf (isVar src) (ev c src) ρ with|.ok ds ρ1=>(QZ is one (eG c n body) (Gq c n body) ds ρ1).map fun x=>(x.1,bh ρ (isVar src) x.2)|_=>none
 |.asg _ e,ρ=>K9 c e ρ|.expr e,ρ=>K9 c e ρ|_,_=>none
noncomputable def Gq(c:Call)(n:Nat):List S->List Sl->Option (Nat×List Sl)|[],_=>none|s::r,ρ=>match exX c n s ρ with|some x=>some x|none=>match ex c n s ρ with|.ok .next ρ1=>Gq c n r ρ1|_=>none
end
theorem X1{c n ρ}:ex c n (.pass) ρ=.ok .next ρ:=(rfl)
theorem X2{c n ρ}:ex c n (.brk) ρ=.ok .brk ρ:=(rfl)
theorem X3{c n ρ}:ex c n (.cont) ρ=.ok .cont ρ:=(rfl)
theorem X4{c n ρ}:ex c n (.bad) ρ=.stuck:=(rfl)
theorem X5{c n e ρ}:ex c n (.expr e) ρ=(ev c e ρ).bind fun _ ρ=>.ok .next ρ:=(rfl)
theorem X6{c n i e ρ}:ex c n (.asg i e) ρ=(ev c e ρ).bind fun r ρ=>(lift (put ρ i (v5 r)) ρ).bind fun ρ' _=>.ok .next ρ':=(rfl)
theorem X7{c n i j a b ρ}:ex c n (.par i j a b) ρ=(ev c a ρ).bind fun x ρ=>(ev c b ρ).bind fun y ρ=>(lift ((put ρ i (.val false x.d)).bind fun ρ=>put ρ j (.val false y.d)) ρ).bind fun ρ' _=>.ok .next ρ':=(rfl)
theorem X8{c n is e ρ}:ex c n (.Mv is e) ρ=(ev c e ρ).bind fun r ρ=>match r.d with|.tup ds=>(lift (putAll ρ is ds) ρ).bind fun ρ' _=>.ok .next ρ'|_=>.stuck:=(rfl)
theorem X9{c n x i e ρ}:ex c n (.G9 x i e) ρ=(ev c e ρ).bind fun r ρ=>(lift (pk ρ x) ρ).bind fun _ ρ=>(bI (isVar i) (ev c i) ρ).bind fun k ρ=>match ρ[x]?,k with
 |some (.own b ds),.int k=>match lU ds.length k with|some j=>.ok .next (ρ.set x (.own b (ds.set j r.d)))|none=>.stuck
 |_,_=>.stuck:=(rfl)
theorem X10{c n x e ρ}:ex c n (.app x e) ρ=(lift (JP ρ x) ρ).bind fun _ ρ=>(ev c e ρ).bind fun r ρ=>match ρ[x]?with|some (.own b ds)=>if ds.length<lim then .ok .next (ρ.set x (.own b (ds++[r.d])))else .stuck|_=>.stuck:=(rfl)
theorem YB{c n e ρ}:ex c n (.ret e) ρ=match isVar e with
 |some i=>match ρ[i]?with|some (.own false ds)=>.ok (.ret (.own ds)) (ρ.set i .au)|_=>(ev c e ρ).bind fun r ρ=>.ok (.ret r) ρ
 |none=>(ev c e ρ).bind fun r ρ=>.ok (.ret r) ρ:=(rfl)
theorem X12{c n ρ}:ex c n (.WR) ρ=.ok (.ret (.val .non)) ρ:=(rfl)
theorem X13{c n t a b ρ}:ex c n (.ifs t a b) ρ=(iT (ev c t) ρ).bind fun k ρ=>if k then eG c n a ρ else eG c n b ρ:=(rfl)
theorem X14{c n src is one body ρ}:ex c n (.gC src is one body) ρ=(srcOf (isVar src) (ev c src) ρ).bind fun ds ρ₁=>(gB is one (eG c n body) ds ρ₁).bind fun fl ρ₂=>.ok fl (bh ρ (isVar src) ρ₂):=(rfl)
theorem X15{c n x sub e ρ}:ex c n (.aug x sub e) ρ=(lift (pk ρ x) ρ).bind fun a ρ=>(bI (isVar e) (ev c e) ρ).bind fun b ρ=>match a,b with|.int i,.int j=>(lift (put ρ x (.val false (.int (if sub then i-j else i+j)))) ρ).bind fun ρ' _=>.ok .next ρ'|_,_=>.stuck:=(rfl)
theorem X16{c n x e ρ}:ex c n (.WT x e) ρ=(lift (JP ρ x) ρ).bind fun _ ρ=>(ev c e ρ).bind fun r ρ=>match ρ[x]?,r with|some (.own b ds),.own es=>if ds.length+es.length<=lim then .ok .next (ρ.set x (.own b (ds++es)))else .stuck|_,_=>.stuck:=(rfl)
theorem X17{c n x t ρ}:ex c n (.qm x t) ρ=match ρ[x]?with|some .au=>.ok .next (ρ.set x (.cM (if t then .t []else .k [])))|_=>.stuck:=(rfl)
theorem X18{c n x k e ρ}:ex c n (.dput x k e) ρ=(ev c e ρ).bind fun r ρ=>match ρ[x]?with
 |some (.cM _)=>(bI (isVar k) (ev c k) ρ).bind fun kd ρ=>match ρ[x]?,r with
   |some (.cM m),.val (.int v)=>match m.put kd v with|some m'=>.ok .next (ρ.set x (.cM m'))|none=>.stuck
   |_,_=>.stuck
 |_=>.stuck:=(rfl)
theorem X19{c n x ks e ρ}:ex c n (.lM x ks e) ρ=(ev c e ρ).bind fun r ρ=>match ρ[x]?with
 |some (.cM _)=>(evs c ks ρ).bind fun mW ρ=>match ρ[x]?,r with
   |some (.cM m),.val (.int v)=>match m.JC mW v with|some m'=>.ok .next (ρ.set x (.cM m'))|none=>.stuck
   |_,_=>.stuck
 |_=>.stuck:=(rfl)
theorem X20{c n x ρ}:ex c n (.rvl x) ρ=(lift (JP ρ x) ρ).bind fun _ ρ=>match ρ[x]?with|some (.own b ds)=>.ok .next (ρ.set x (.own b ds.reverse))|_=>.stuck:=(rfl)
theorem X21{c n x src k is one elt ρ}:ex c n (.Cd x src k is one elt) ρ=(srcOf (isVar src) (ev c src) ρ).bind fun ds ρ₁=>if ds.length<=lim then(fM is one (ev c elt) ds [] (ρ₁++List.replicate k .au)).bind fun rows ρ₂=>(lift (put (bh ρ (isVar src) (ρ₂.take ρ₁.length)) x (.hold rows)) ρ).bind fun ρ' _=>.ok .next ρ' else .stuck:=(rfl)
theorem X22{c n x a b ρ}:ex c n (.Ha x a b) ρ=(ev c a ρ).bind fun r ρ=>(ev c b ρ).bind fun u ρ=>match r,u with|.own ds,.own es=>(lift (put ρ x (.hold [ds,es])) ρ).bind fun ρ' _=>.ok .next ρ'|_,_=>.stuck:=(rfl)
theorem X23{c n x i j e ρ}:ex c n (.Ce x i j e) ρ=(ev c e ρ).bind fun r ρ=>(bI (isVar i) (ev c i) ρ).bind fun k ρ=>(lift (fO ρ x k) ρ).bind fun _ ρ=>(bI (isVar j) (ev c j) ρ).bind fun l ρ=>jV ρ x ((cz ρ x).bind fun rows=>(dC k).bind fun k=>(dC l).bind fun l=>cg rows k (setAt l r.d)):=(rfl)
theorem X24{c n x i j sub e ρ}:ex c n (.wF x i j sub e) ρ=(bI (isVar i) (ev c i) ρ).bind fun k ρ=>(lift (fO ρ x k) ρ).bind fun _ ρ=>(bI (isVar j) (ev c j) ρ).bind fun l ρ=>(lift ((fO ρ x k).bind fun row=>(dC l).bind fun l=>(at' row l).bind dC) ρ).bind fun u ρ=>(bI (isVar e) (ev c e) ρ).bind fun w ρ=>(bI (isVar i) (ev c i) ρ).bind fun k ρ=>(lift (fO ρ x k) ρ).bind fun _ ρ=>(bI (isVar j) (ev c j) ρ).bind fun l ρ=>jV ρ x ((cz ρ x).bind fun rows=>(dC w).bind fun v=>(dC k).bind fun k=>(dC l).bind fun l=>cg rows k (setAt l (.int (if sub then u-v else u+v)))):=(rfl)
theorem X25{c n x i e ρ}:ex c n (.Hb x i e) ρ=(bI (isVar i) (ev c i) ρ).bind fun k ρ=>(lift (fO ρ x k) ρ).bind fun _ ρ=>(ev c e ρ).bind fun r ρ=>jV ρ x ((cz ρ x).bind fun rows=>(dC k).bind fun k=>cg rows k fun row=>if row.length<lim then some (row++[r.d])else none):=(rfl)
theorem X26{c n x i ρ}:ex c n (.Hc x i) ρ=(bI (isVar i) (ev c i) ρ).bind fun k ρ=>jV ρ x ((cz ρ x).bind fun rows=>(dC k).bind fun k=>cg rows k fun _=>some []):=(rfl)
theorem X27{c n x y j k l ρ}:ex c n (.Hd x y j k l) ρ=(lift (cz ρ x) ρ).bind fun rows ρ=>gn x y (bI (isVar j) (ev c j)) (bI (isVar k) (ev c k)) (bI (isVar l) (ev c l)) rows.length 0 ρ:=(rfl)
theorem X28{c n src is one body ρ}:ex c n (.yo src is one body) ρ=(ev c src ρ).bind fun r ρ₁=>(lift (items r.d) ρ₁).bind fun ds ρ₁=>gB is one (eG c n body) ds ρ₁:=(rfl)
theorem X29{c n x ρ}:ex c n (.fH x) ρ=match ρ[x]?with|some (.hold rows)=>.ok .next (ρ.set x (.val false (.lst (rows.map D.lst))))|_=>.stuck:=(rfl)
theorem X30{c n x ρ}:ex c n (.fz x) ρ=match ρ[x]?with|some (.own b ds)=>.ok .next (ρ.set x (.val b (.lst ds)))|some (.val _ _)=>.ok .next ρ|_=>.stuck:=(rfl)
theorem X31{c n x lX t a b ρ}:ex c n (.WW x lX t a b) ρ=(lift (cz ρ x) ρ).bind fun rows ρ=>(iT (ev c t) (hide lX x (.lst (rows.map D.lst)) 0 ρ)).bind fun k _=>if k then eG c n a ρ else eG c n b ρ:=(rfl)
structure Fd where
 np:Nat
 nn:Nat
 body:List S deriving Inhabited
noncomputable abbrev Tab:=Nat->Option Fd
noncomputable def enter(c:Call)(n:Nat)(d:Fd)(args:List Sl):Res R:=if args.length=d.np/\d.np<=d.nn then match eG c n d.body (args++List.replicate (d.nn-d.np) .au)with|.ok .next ρ=>.ok (.val .non) (ρ.take d.np)|.ok (.ret r) ρ=>.ok r (ρ.take d.np)|_=>match Gq c n d.body (args++List.replicate (d.nn-d.np) .au)with|some (k,ρ)=>.exc k (ρ.take d.np)|none=>.stuck else .stuck
noncomputable def run(Γ:Tab)(w:Nat):Nat->Call|0,_,_=>.stuck|n+1,f,args=>match Γ f with|some d=>enter (run Γ w n) w d args|none=>.stuck
end HH
end
section
namespace HH
open PySem L2
noncomputable def Dc.ho:Dc->HO|.k kvs=>.dK (kvs.map fun p=>(Sum.inl p.1,V.int p.2))|.t kvs=>.dT (kvs.map fun p=>(p.1.map Sum.inl,V.int p.2))
section
variable(K:PySem.W.Frag)
mutual
noncomputable def Rep(F:Hp):V->D->Prop|v,.non=>v=.non|v,.bl b=>v=.bl b|v,.int i=>v=.int i|v,.str x=>v=.str x|v,.tup ds=>∃a xs,v=.ref a/\jH K F a xs/\aL F xs ds|v,.lst ds=>∃a xs,v=.ref a/\dX K F a xs/\aL F xs ds|v,.cD m=>∃a o,v=.ref a/\F a=some (.fH o m.ho)noncomputable def aL(F:Hp):List V->List D->Prop|vs,[]=>vs=[]|vs,d::ds=>∃v r,vs=v::r/\Rep F v d/\aL F r ds
end
end
section
variable{K:PySem.W.Frag}{F F' H H':Hp}
theorem aP.iw{a:Addr}{xs:List V}(e:aP H H')(h:jH K H a xs):jH K H' a xs:=by
 rcases h with(h|⟨o,h⟩)|h;.exact .inl (.inl (e _ _ h))
 .exact .inl (.inr ⟨o,e _ _ h⟩)
 .exact .inr h
mutual
theorem Rep.mono(e:aP F F'):∀{d:D}{v:V},Rep K F v d->Rep K F' v d|.non,_,h=>by rw[Rep]at h ⊢;exact h|.bl _,_,h=>by rw[Rep]at h ⊢;exact h|.int _,_,h=>by rw[Rep]at h ⊢;exact h|.str _,_,h=>by rw[Rep]at h ⊢;exact h|.tup ds,_,h=>by rw[Rep]at h ⊢;obtain⟨a,xs,rfl,hs,r⟩:=h;exact⟨a,xs,rfl,aP.iw e hs,aL.mono e r⟩|.lst ds,_,h=>by rw[Rep]at h ⊢;obtain⟨a,xs,rfl,hs,r⟩:=h;exact⟨a,xs,rfl,e.seq hs,aL.mono e r⟩|.cD m,_,h=>by rw[Rep]at h ⊢;obtain⟨a,o,rfl,hs⟩:=h;exact⟨a,o,rfl,e _ _ hs⟩theorem aL.mono(e:aP F F'):∀{ds:List D}{vs:List V},aL K F vs ds->aL K F' vs ds|[],_,h=>by rw[aL]at h ⊢;exact h|d::ds,_,h=>by rw[aL]at h ⊢;obtain⟨v,r,rfl,h1,h2⟩:=h;exact⟨v,r,rfl,Rep.mono e h1,aL.mono e h2⟩end
theorem aL.nil:aL K F [] []:=by rw[aL]
theorem aL.cons{v:V}{d:D}{vs:List V}{ds:List D}(h:Rep K F v d)(t:aL K F vs ds):aL K F (v::vs) (d::ds):=by rw[aL];exact⟨v,vs,rfl,h,t⟩
theorem aL.cG{vs:List V}{d:D}{ds:List D}(h:aL K F vs (d::ds)):∃v r,vs=v::r/\Rep K F v d/\aL K F r ds:=by rw[aL]at h;exact h
theorem aL.gG{vs:List V}(h:aL K F vs []):vs=[]:=by rw[aL]at h;exact h
theorem aL.length:∀{ds:List D}{vs:List V},aL K F vs ds->vs.length=ds.length|[],_,h=>by rw[h.gG];rfl|d::ds,_,h=>by obtain⟨v,r,rfl,_,t⟩:=h.cG;simp[aL.length t]
theorem aL.get:∀{ds:List D}{vs:List V}{i:Nat}{d:D},aL K F vs ds->ds[i]?=some d->∃v,vs[i]?=some v/\Rep K F v d|[],_,_,_,h,e=>by simp at e|d::ds,_,0,_,h,e=>by obtain⟨v,r,rfl,h1,t⟩:=h.cG;simp at e;subst e;exact⟨v,rfl,h1⟩|d::ds,_,i+1,_,h,e=>by obtain⟨v,r,rfl,_,t⟩:=h.cG;simp at e;obtain⟨w,e1,e2⟩:=t.get e;exact⟨w,by simpa using e1,e2⟩
theorem aL.append:∀{ds es:List D}{vs us:List V},aL K F vs ds->aL K F us es->aL K F (vs++us) (ds++es)|[],_,_,_,h,h'=>by rw[h.gG];exact h'|d::ds,_,_,_,h,h'=>by obtain⟨v,r,rfl,h1,t⟩:=h.cG;exact .cons h1 (t.append h')
theorem aL.set{v:V}{d:D}(hr:Rep K F v d):∀{ds:List D}{vs:List V}(i:Nat),aL K F vs ds->aL K F (vs.set i v) (ds.set i d)|[],_,_,h=>by rw[h.gG];exact .nil|_::_,_,0,h=>by obtain⟨w,r,rfl,h1,t⟩:=h.cG;exact .cons hr t|_::_,_,i+1,h=>by obtain⟨w,r,rfl,h1,t⟩:=h.cG;exact .cons h1 (aL.set hr i t)
theorem aL.take:∀{ds:List D}{vs:List V}(n:Nat),aL K F vs ds->aL K F (vs.take n) (ds.take n)|[],_,n,h=>by rw[h.gG];simpa using aL.nil|_::_,_,0,h=>.nil|_::_,_,n+1,h=>by obtain⟨w,r,rfl,h1,t⟩:=h.cG;exact .cons h1 (t.take n)
theorem aL.drop:∀{ds:List D}{vs:List V}(n:Nat),aL K F vs ds->aL K F (vs.drop n) (ds.drop n)|[],_,n,h=>by rw[h.gG];simpa using aL.nil|_::_,_,0,h=>h|_::_,_,n+1,h=>by obtain⟨w,r,rfl,h1,t⟩:=h.cG;exact t.drop n
theorem aL.rep{ds:List D}{vs:List V}(h:aL K F vs ds):∀n,aL K F (List.replicate n vs).flatten (List.replicate n ds).flatten|0=>by simpa using aL.nil|n+1=>by simpa[List.replicate_succ]using h.append (aL.rep h n)
inductive Oc where|l(ds:List D)|d(m:Dc)
noncomputable def lst?:Sl->Option Oc|.own _ ds=>some (.l ds)|.lent ds=>some (.l ds)|.cM m=>some (.d m)|_=>none
noncomputable def rm(K:PySem.W.Frag)(F:Hp)(o:HO):Oc->Prop|.l ds=>∃xs,o=.lst xs/\aL K F xs ds|.d m=>o=m.ho
theorem rm.mono{o:HO}{x:Oc}(e:aP F F')(h:rm K F o x):rm K F' o x:=by cases x with|l ds=>obtain⟨xs,e1,h⟩:=h;exact⟨xs,e1,h.mono e⟩|d m=>exact h
noncomputable def bA(ρ:List Sl)(σ:St)(i:Nat)(a:Addr):Prop:=(∃s ds,ρ[i]?=some s/\lst? s=some ds)/\σ[i]?=some (some (V.ref a))
noncomputable def Own(ρ:List Sl)(σ:St)(a:Addr):Prop:=∃i,bA ρ σ i a
structure GS(K:PySem.W.Frag)(F:Hp)(ρ:List Sl)(σ:St)(H:Hp):Prop where
 sub:aP F H
 len:ρ.length=σ.length
 val:∀(i:Nat)(b:Bool)(d:D),ρ[i]?=some (Sl.val b d)->∃v:V,σ[i]?=some (some v)/\Rep K F v d
 own:∀(i:Nat)(s:Sl)(ds:Oc),ρ[i]?=some s->lst? s=some ds->∃(a:Addr)(xs:HO),σ[i]?=some (some (V.ref a))/\H a=some xs/\F a=none/\rm K F xs ds
 dis:∀(i j:Nat)(a:Addr),bA ρ σ i a->bA ρ σ j a->i=j
theorem GS.tW{ρ:List Sl}{σ:St}(g:GS K F ρ σ H)(i:Nat)(s:Sl)(ds:List D)(e:ρ[i]?=some s)(e':lst? s=some (.l ds)):∃(a:Addr)(xs:List V),σ[i]?=some (some (V.ref a))/\H a=some (.lst xs)/\F a=none/\aL K F xs ds:=by obtain⟨a,o,h1,h2,h3,xs,rfl,h4⟩:=g.own i s (.l ds) e e';exact⟨a,xs,h1,h2,h3,h4⟩
noncomputable def uA:Sl->Bool|.val b _=>b|.own b _=>b|.lent _=>true|.au=>false|.cM _=>false|.hold _=>true
noncomputable def kY:Sl->Sl->Prop|.val true d,s=>s=.val true d|.own true _,s=>(∃ds,s=.own true ds)\/∃d,s=.val true d|.lent ds,s=>s=.lent ds|.hold ds,s=>s=.hold ds|_,_=>True
theorem kY.refl(s:Sl):kY s s:=by unfold kY;split<;>first|rfl|exact .inl ⟨_,rfl⟩|trivial
theorem kY.uA{s s':Sl}(h:kY s s')(l:uA s=true):HH.uA s'=true:=by cases s with
 |au=>cases l|cM _=>cases l|val b d=>cases b with|true=>cases h;rfl|false=>cases l
 |own b d=>cases b with|true=>rcases h with⟨_,rfl⟩|⟨_,rfl⟩<;>rfl|false=>cases l
 |lent d=>cases h;rfl|hold d=>cases h;rfl
theorem kY.trans{s s' s'':Sl}(l:HH.uA s=true)(h:kY s s')(h':kY s' s''):kY s s'':=by cases s with
 |au=>cases l|cM _=>cases l|val b d=>cases b with|true=>cases h;exact h'|false=>cases l
 |own b d=>cases b with
   | true => rcases h with⟨_,rfl⟩|⟨d,rfl⟩;.exact h'
             .exact .inr ⟨d,h'⟩|false=>cases l
 |lent d=>cases h;exact h'|hold d=>cases h;exact h'
noncomputable def nt:Option HO->Option HO|some (.tup _)=>none|o=>o
theorem jy{o:Option HO}(h:o=none):nt o=none:=by rw[h];rfl
theorem FW{H:Hp}{b:Addr}{xs:List V}(h:H b=some (.lst xs))(z:nt (H b)=none):False:=by rw[h]at z;cases z
theorem G3{o:HO}{x:Oc}(h:rm K F o x)(z:nt (some o)=none):False:=by cases x with|l ds=>obtain⟨xs,rfl,_⟩:=h;cases z|d m=>cases m<;>(cases(show o=_ from h);cases z)
structure bF(K:PySem.W.Frag)(F:Hp)(ρ:List Sl)(σ:St)(H:Hp)(F':Hp)(ρ':List Sl)(σ':St)(H':Hp):Prop where
 gs:GS K F' ρ' σ' H'
 bK:aP F F'
 wG:∀b,F b=none->F' b≠none->Own ρ σ b\/nt (H b)=none
 keep:∀b o,H b=some o->¬ Own ρ σ b->H' b=some o
 uh:∀b,Own ρ' σ' b->Own ρ σ b\/H b=none
 len:ρ'.length=ρ.length
 lk:∀(i:Nat)(s:Sl),ρ[i]?=some s->uA s=true->σ'[i]?=σ[i]?/\∃s',ρ'[i]?=some s'/\kY s s'
theorem bF.refl{ρ:List Sl}{σ:St}(g:GS K F ρ σ H):bF K F ρ σ H F ρ σ H:=⟨g,aP.refl _,fun b h h'=>absurd h h',fun _ _ h _=>h,fun _ h=>.inl h,rfl,fun i s h _=>⟨rfl,s,h,.refl s⟩⟩
theorem bF.trans{F1 F2 H1 H2:Hp}{ρ ρ1 ρ2:List Sl}{σ σ1 σ2:St}(a:bF K F ρ σ H F1 ρ1 σ1 H1)(b:bF K F1 ρ1 σ1 H1 F2 ρ2 σ2 H2):bF K F ρ σ H F2 ρ2 σ2 H2:=by
 have back:∀c,Own ρ1 σ1 c\/H1 c=none->Own ρ σ c\/H c=none:=fun c h=>by
  rcases h with h|h;.exact a.uh c h
  . by_cases ho:Own ρ σ c;.exact .inl ho
    .right;cases e:H c with|none=>rfl|some o=>rw[a.keep c o e ho]at h;cases h
 refine⟨b.gs,a.bK.trans b.bK,fun c h h'=>?_,fun c o h n=>?_,fun c h=>back c (b.uh c h),b.len.trans a.len,fun i s h l=>?_⟩
 . by_cases e:F1 c=none
   . by_cases ho:Own ρ σ c;.exact .inl ho
     . rcases b.wG c e h' with z|z;.exact(back c (.inl z)).imp id jy
       .right;cases q:H c with|none=>rfl|some o=>rw[a.keep c o q ho]at z;exact z
   .exact a.wG c h e
 . refine b.keep c o (a.keep c o h n) fun h'=>?_;rcases a.uh c h' with h'|h';.exact n h'
   .rw[h]at h';cases h'
 .obtain⟨e1,s1,h1,k1⟩:=a.lk i s h l;obtain⟨e2,s2,h2,k2⟩:=b.lk i s1 h1 (k1.uA l);exact⟨e2.trans e1,s2,h2,.trans l k1 k2⟩
noncomputable def eN(K:PySem.W.Frag)(F H:Hp)(v:V)(d:D):Prop:=Rep K F v d\/∃a xs ds,v=.ref a/\H a=some (.lst xs)/\aL K F xs ds/\d=.lst ds
noncomputable def cI(K:PySem.W.Frag)(F':Hp)(ρ':List Sl)(σ':St)(H':Hp)(ρ:List Sl)(σ:St)(H:Hp)(v:V):R->Prop|.val d=>Rep K F' v d|.own ds=>∃a xs,v=.ref a/\H' a=some (.lst xs)/\F' a=none/\aL K F' xs ds/\¬ Own ρ' σ' a/\(Own ρ σ a\/H a=none)
theorem aP.cT{F:Hp}{a:Addr}{o:HO}(h:F a=none):aP F (upd F a o):=fun b u e=>by
 have:b≠a:=by rintro rfl;rw[h]at e;cases e
 rw[aK this];exact e
theorem bF.fH{ρ ρ':List Sl}{σ σ':St}{v:V}{r:R}(s:bF K F ρ σ H F' ρ' σ' H')(h:cI K F' ρ' σ' H' ρ σ H v r):∃F'',bF K F ρ σ H F'' ρ' σ' H'/\aP F' F''/\Rep K F'' v r.d:=by cases r with|val d=>exact⟨F',s,.refl _,h⟩|own ds=>
   obtain⟨a,xs,rfl,h1,h2,h3,h4,h5⟩:=h;have sm:aP F' (upd F' a (.lst xs)):=aP.cT h2;refine⟨upd F' a (.lst xs),⟨⟨fun b o e=>?_,s.gs.len,fun i b d e=>?_,fun i sl ds' e e'=>?_,s.gs.dis⟩,s.bK.trans sm,fun b n n'=>?_,s.keep,s.uh,s.len,s.lk⟩,sm,?_⟩
   . by_cases hb:b=a;.subst hb;rw[aX]at e;cases e;exact h1
     .rw[aK hb]at e;exact s.gs.sub b o e
   .obtain⟨v,e1,e2⟩:=s.gs.val i b d e;exact⟨v,e1,e2.mono sm⟩
   . obtain⟨b,ys,e1,e2,e3,e4⟩:=s.gs.own i sl ds' e e';have hb:b≠a:=by rintro rfl;exact h4 ⟨i,⟨sl,ds',e,e'⟩,e1⟩
     exact⟨b,ys,e1,e2,by rw[aK hb];exact e3,e4.mono sm⟩
   . by_cases hb:b=a;.subst hb;exact h5.imp id jy
     .rw[aK hb]at n';exact s.wG b n n'
   .show Rep K _ _ (.lst ds);rw[Rep];exact⟨a,xs,rfl,dX.of aX,h3.mono sm⟩
theorem GS.pk{ρ:List Sl}{σ:St}{i:Nat}{d:D}(g:GS K F ρ σ H)(e:HH.pk ρ i=some d):∃v:V,σ[i]?=some (some v)/\eN K F H v d:=by
 unfold HH.pk at e;split at e;.rename_i b d' h;cases e;obtain⟨v,h1,h2⟩:=g.val i b d h;exact⟨v,h1,.inl h2⟩
 .rename_i b ds h;cases e;obtain⟨a,xs,h1,h2,h3,h4⟩:=g.tW i _ ds h rfl;exact⟨.ref a,h1,.inr ⟨a,xs,ds,rfl,h2,h4,rfl⟩⟩
 .rename_i ds h;cases e;obtain⟨a,xs,h1,h2,h3,h4⟩:=g.tW i _ ds h rfl;exact⟨.ref a,h1,.inr ⟨a,xs,ds,rfl,h2,h4,rfl⟩⟩
 .cases e
structure Ext(F H F' H':Hp):Prop where
 hs:aP H H'
 fs:aP F F'
 sub:aP F' H'
 gr:∀b,F b=none->F' b≠none->nt (H b)=none
theorem Ext.refl(h:aP F H):Ext F H F H:=⟨.refl _,.refl _,h,fun _ a b=>absurd a b⟩
theorem Ext.stp{ρ:List Sl}{σ:St}(g:GS K F ρ σ H)(e:Ext F H F' H'):bF K F ρ σ H F' ρ σ H':=by
 refine⟨⟨e.sub,g.len,fun i b d h=>?_,fun i s ds h h'=>?_,g.dis⟩,e.fs,fun b n n'=>.inr (e.gr b n n'),fun b o h _=>e.hs b o h,fun _ h=>.inl h,rfl,fun i s h _=>⟨rfl,s,h,.refl s⟩⟩;.obtain⟨v,h1,h2⟩:=g.val i b d h;exact⟨v,h1,h2.mono e.fs⟩
 .obtain⟨a,xs,h1,h2,h3,h4⟩:=g.own i s ds h h';refine⟨a,xs,h1,e.hs _ _ h2,?_,h4.mono e.fs⟩;cases q:F' a with|none=>rfl|some o=>have:=e.gr a h3 (by rw[q];simp);rw[h2]at this;exact(G3 h4 this).elim
noncomputable def cC(K:PySem.W.Frag)(F' H' H:Hp)(v:V):R->Prop|.val d=>Rep K F' v d|.own ds=>∃a xs,v=.ref a/\H' a=some (.lst xs)/\F' a=none/\aL K F' xs ds/\H a=none
theorem cC.vP{ρ:List Sl}{σ:St}{v:V}{r:R}(g:GS K F ρ σ H)(h:cC K F' H' H v r):cI K F' ρ σ H' ρ σ H v r:=by cases r with|val d=>exact h|own ds=>obtain⟨a,xs,rfl,h1,h2,h3,h4⟩:=h;refine⟨a,xs,rfl,h1,h2,h3,?_,.inr h4⟩;rintro⟨i,⟨s,ds',e,e'⟩,e2⟩;obtain⟨b,ys,q1,q2,_⟩:=g.own i s ds' e e';rw[e2]at q1;cases q1;rw[h4]at q2;cases q2
theorem cI.later{F1 H1 F2 H2:Hp}{ρ ρ1 ρ2:List Sl}{σ σ1 σ2:St}{v:V}{r:R}(a:bF K F ρ σ H F1 ρ1 σ1 H1)(h:cI K F2 ρ2 σ2 H2 ρ1 σ1 H1 v r):cI K F2 ρ2 σ2 H2 ρ σ H v r:=by cases r with|val d=>exact h|own ds=>
   obtain⟨b,xs,rfl,h1,h2,h3,h4,h5⟩:=h;refine⟨b,xs,rfl,h1,h2,h3,h4,?_⟩;rcases h5 with h5|h5;.exact a.uh b h5
   . by_cases ho:Own ρ σ b;.exact .inl ho
     .right;cases e:H b with|none=>rfl|some o=>rw[a.keep b o e ho]at h5;cases h5
end
end HH
end
section
namespace HH
open PySem L2 PySem.Spec PyProof.Rows
theorem aj{α β:Type}{x:Res α}{f:α->List Sl->Res β}{b:β}{ρ':List Sl}(h:x.bind f=.ok b ρ'):∃a ρ,x=.ok a ρ/\f a ρ=.ok b ρ':=by cases x with|ok a ρ=>exact⟨a,ρ,rfl,h⟩|exc _ _=>cases h|stuck=>cases h
theorem aF{α:Type}{o:Option α}{ρ ρ':List Sl}{a:α}(h:lift o ρ=.ok a ρ'):o=some a/\ρ=ρ':=by cases o with|none=>cases h|some b=>cases h;exact⟨rfl,rfl⟩
theorem map_some{α β:Type}{o:Option α}{f:α->β}{b:β}(h:o.map f=some b):∃a,o=some a/\f a=b:=by cases o with|none=>cases h|some a=>cases h;exact⟨a,rfl,rfl⟩
theorem aW{α β:Type}{o:Option α}{f:α->Option β}{b:β}(h:o.bind f=some b):∃a,o=some a/\f a=some b:=by cases o with|none=>cases h|some a=>exact⟨a,rfl,h⟩
theorem bw{α:Type}{c:Prop}[Decidable c]{a b:α}(h:(if c then some a else none)=some b):c/\a=b:=by
 split at h;.rename_i hc;cases h;exact⟨hc,rfl⟩
 .cases h
section
variable{X:Cx}{c:Call}{e a b:Expr}{p pa pb:P}{pos:Pos}
theorem fU{t t':TE}(h:PE X e t)(i:∀σ H Q,t' σ H Q->t σ H Q):PE X e t':=fun pins s σ H Q I q=>h pins s σ H Q I (i σ H Q q)
theorem CK{t t':TT}(h:PT X e t)(i:∀σ H Q,t' σ H Q->t σ H Q):PT X e t':=fun pins s σ H Q I q=>h pins s σ H Q I (i σ H Q q)
theorem LR{t t':TT}(h:PW X e t)(i:∀σ H Q,t' σ H Q->t σ H Q):PW X e t':=fun wh pins s σ H Q I q=>h wh pins s σ H Q I (i σ H Q q)
theorem wk{es:List Expr}{t t':TA}(h:PA X es t)(i:∀σ H Q,t' σ H Q->t σ H Q):PA X es t':=fun pos pins s σ H Q I q=>h pos pins s σ H Q I (i σ H Q q)
inductive yh(K:PySem.W.Frag)(f:Ev)(σ:L2.St)(H:Hp)(Q:VK):Prop where|mk(F:Hp)(ρ:List Sl)(r:R)(ρ':List Sl)(g:GS K F ρ σ H)(e:f ρ=.ok r ρ')(k:∀v F' H',bF K F ρ σ H F' ρ' σ H'->cI K F' ρ' σ H' ρ σ H v r->Q v H')
inductive Gz(K:PySem.W.Frag)(f:List Sl->Res Bool)(σ:L2.St)(H:Hp)(Q:Bool->Hp->Prop):Prop where|mk(F:Hp)(ρ:List Sl)(b:Bool)(ρ':List Sl)(g:GS K F ρ σ H)(e:f ρ=.ok b ρ')(k:∀F' H',bF K F ρ σ H F' ρ' σ H'->Q b H')
inductive Zc(K:PySem.W.Frag)(f:List Sl->Res (List D))(σ:L2.St)(H:Hp)(Q:List V->Hp->Prop):Prop where|mk(F:Hp)(ρ:List Sl)(ds:List D)(ρ':List Sl)(g:GS K F ρ σ H)(e:f ρ=.ok ds ρ')(k:∀vs F' H',bF K F ρ σ H F' ρ' σ H'->aL K F' vs ds->Q vs H')
structure SX(X:Cx)(c:Call)(e:Expr)(p:P):Prop where ev:PE X e (yh X.K (HH.ev c p))var:∀i,isVar p=some i->PE X e (CG i)
noncomputable def SA(X:Cx)(c:Call)(es:List Expr)(ps:List P):Prop:=PA X es (Zc X.K (evs c ps))/\ps.length=es.length
theorem SX.bI(h:SX X c e p):∃t,PE X e t/\∀{σ:L2.St}{H F:Hp}{ρ ρ':List Sl}{d:D}{Q:VK},GS X.K F ρ σ H->bI (isVar p) (HH.ev c p) ρ=.ok d ρ'->(∀v F' H',bF X.K F ρ σ H F' ρ' σ H'->eN X.K F' H' v d->Q v H')->t σ H Q:=by cases hv:isVar p with|none=>refine⟨_,h.ev,fun{σ H F ρ ρ' d Q}g e k=>?_⟩;obtain⟨r,ρ1,e1,e2⟩:=aj e;cases e2;refine⟨F,ρ,r,_,g,e1,fun v F' H' s rr=>?_⟩;obtain⟨F'',s',_,rp⟩:=s.fH rr;exact k v F'' H' s' (.inl rp)|some i=>refine⟨_,h.var i hv,fun{σ H F ρ ρ' d Q}g e k=>?_⟩;obtain⟨e1,e2⟩:=aF e;subst e2;obtain⟨v,h1,h2⟩:=g.pk e1;exact⟨v,h1,k v F H (.refl g) h2⟩
theorem SX.iB(ha:SX X c a pa)(hb:SX X c b pb):∃ta tb,PE X a ta/\PE X b tb/\∀{σ:L2.St}{H F:Hp}{ρ ρ':List Sl}{xy:D×D}{R:V->V->Hp->Prop},GS X.K F ρ σ H->iB (isVar pa) (HH.ev c pa) (isVar pb) (HH.ev c pb) ρ=.ok xy ρ'->(∀v u F' H',bF X.K F ρ σ H F' ρ' σ H'->eN X.K F' H' v xy.1->eN X.K F' H' u xy.2->R v u H')->ta σ H fun x H1=>tb σ H1 fun y H2=>R x y H2:=by obtain⟨tb,hb1,hb2⟩:=hb.bI;cases hv:isVar pa with|none=>refine⟨_,tb,ha.ev,hb1,fun{σ H F ρ ρ' xy R}g e k=>?_⟩;obtain⟨x,ρ1,e1,e⟩:=aj e;obtain⟨y,ρ2,e2,e⟩:=aj e;cases e;obtain⟨r,ρ1',e1,e0⟩:=aj e1;cases e0;refine⟨F,ρ,r,_,g,e1,fun v F' H' s rr=>?_⟩;obtain⟨F1,s1,_,rp⟩:=s.fH rr;refine hb2 s1.gs e2 fun u F2 H2 s2 pu=>?_;exact k v u F2 H2 (s1.trans s2) (.inl (rp.mono s2.bK)) pu|some i=>refine⟨_,tb,ha.var i hv,hb1,fun{σ H F ρ ρ' xy R}g e k=>?_⟩;obtain⟨x0,ρ0,e0,e⟩:=aj e;obtain⟨WX,yp⟩:=aF e0;subst yp;obtain⟨y,ρ1,e1,e⟩:=aj e;obtain⟨x,ρ2,e2,e⟩:=aj e;cases e;have zz:=aF e2;clear e2;obtain⟨e2,e3⟩:=zz;subst e3;obtain⟨v,h1,_⟩:=g.pk WX;refine⟨v,h1,hb2 g e1 fun u F1 H1 s1 pu=>?_⟩;obtain⟨v',h1',pv⟩:=s1.gs.pk e2;rw[h1]at h1';cases h1';exact k v u F1 H1 s1 pv pu
inductive rD(K:PySem.W.Frag)(f:D->D->Option R)(x y:V)(H:Hp)(Q:VK):Prop where|mk(F:Hp)(d e:D)(r:R)(sm:aP F H)(px:eN K F H x d)(py:eN K F H y e)(he:f d e=some r)(k:∀v F' H',Ext F H F' H'->cC K F' H' H v r->Q v H')
inductive rD1(K:PySem.W.Frag)(f:D->Option R)(x:V)(H:Hp)(Q:VK):Prop where|mk(F:Hp)(d:D)(r:R)(sm:aP F H)(px:eN K F H x d)(he:f d=some r)(k:∀v F' H',Ext F H F' H'->cC K F' H' H v r->Q v H')
theorem sy{E:Expr}{f:D->D->Option R}{q:P}(hp:∀{ta tb},PE X a ta->PE X b tb->PE X E (Hv (rD X.K f) ta tb))(ha:SX X c a pa)(hb:SX X c b pb)(hq:∀ρ,HH.ev c q ρ=(HH.iB (isVar pa) (HH.ev c pa) (isVar pb) (HH.ev c pb) ρ).bind fun xy ρ=>lift (f xy.1 xy.2) ρ)(hv:isVar q=none):SX X c E q:=by obtain⟨ta,tb,h1,h2,h3⟩:=ha.iB hb;refine⟨fU (hp h1 h2) ?_,fun i h=>by rw[hv]at h;cases h⟩;rintro σ H Q⟨F,ρ,r,ρ',g,e,k⟩;rw[hq]at e;obtain⟨xy,ρ1,e1,e2⟩:=aj e;have zz:=aF e2;clear e2;obtain⟨e2,e3⟩:=zz;subst e3;refine h3 g e1 fun v u F' H' s pv pu=>⟨F',xy.1,xy.2,r,s.gs.sub,pv,pu,e2,fun w F2 H2 x rn=>?_⟩;exact k w F2 H2 (s.trans (x.stp s.gs)) (.later s (rn.vP s.gs))
theorem O6{E:Expr}{f:D->Option R}{q:P}(hp:∀{ta},PE X a ta->PE X E (tUn (rD1 X.K f) ta))(ha:SX X c a pa)(hq:∀ρ,HH.ev c q ρ=(HH.bI (isVar pa) (HH.ev c pa) ρ).bind fun x ρ=>lift (f x) ρ)(hv:isVar q=none):SX X c E q:=by obtain⟨ta,h1,h3⟩:=ha.bI;refine⟨fU (hp h1) ?_,fun i h=>by rw[hv]at h;cases h⟩;rintro σ H Q⟨F,ρ,r,ρ',g,e,k⟩;rw[hq]at e;obtain⟨x,ρ1,e1,e2⟩:=aj e;have zz:=aF e2;clear e2;obtain⟨e2,e3⟩:=zz;subst e3;refine h3 g e1 fun v F' H' s pv=>⟨F',x,r,s.gs.sub,pv,e2,fun w F2 H2 x rn=>?_⟩;exact k w F2 H2 (s.trans (x.stp s.gs)) (.later s (rn.vP s.gs))
theorem GS.freeze{K:PySem.W.Frag}{F H:Hp}{ρ:List Sl}{σ:L2.St}{i:Nat}{b:Bool}{ds:List D}(g:GS K F ρ σ H)(e:ρ[i]?=some (.own b ds)):∃v F',σ[i]?=some (some v)/\bF K F ρ σ H F' (ρ.set i (.val b (.lst ds))) σ H/\Rep K F' v (.lst ds):=by
 obtain⟨a,xs,h1,h2,h3,h4⟩:=g.tW i _ ds e rfl;have hi:i<ρ.length:=(List.getElem?_eq_some_iff.mp e).1;have sm:aP F (upd F a (.lst xs)):=aP.cT h3;have rp:Rep K (upd F a (.lst xs)) (.ref a) (.lst ds):=by rw[Rep];exact⟨a,xs,rfl,dX.of aX,h4.mono sm⟩
 have oa:Own ρ σ a:=⟨i,⟨_,_,e,rfl⟩,h1⟩;have old:∀j x,bA (ρ.set i (.val b (.lst ds))) σ j x->bA ρ σ j x/\j≠i:=fun j x⟨⟨s,ds',q1,q2⟩,q3⟩=>by
  by_cases hj:j=i;.subst hj;rw[List.getElem?_set_self hi]at q1;cases q1;cases q2
  .rw[List.getElem?_set_ne (Ne.symm hj)]at q1;exact⟨⟨⟨s,ds',q1,q2⟩,q3⟩,hj⟩
 refine⟨.ref a,upd F a (.lst xs),h1,⟨⟨fun x o q=>?_,by simpa using g.len,fun j b' d q=>?_,fun j s ds' q q'=>?_,fun j k x q q'=>g.dis j k x (old j x q).1 (old k x q').1⟩,sm,fun x n n'=>?_,fun _ _ q _=>q,fun x⟨j,q⟩=>.inl ⟨j,(old j x q).1⟩,by simp,fun j s q l=>⟨rfl,?_⟩⟩,rp⟩
 . by_cases hx:x=a;.subst hx;rw[aX]at q;cases q;exact h2
   .rw[aK hx]at q;exact g.sub x o q
 . by_cases hj:j=i;.subst hj;rw[List.getElem?_set_self hi]at q;cases q;exact⟨_,h1,rp⟩
   .rw[List.getElem?_set_ne (Ne.symm hj)]at q;obtain⟨v,q1,q2⟩:=g.val j b' d q;exact⟨v,q1,q2.mono sm⟩
 . by_cases hj:j=i;.subst hj;rw[List.getElem?_set_self hi]at q;cases q;cases q'
   . rw[List.getElem?_set_ne (Ne.symm hj)]at q;obtain⟨x,ys,q1,q2,q3,q4⟩:=g.own j s ds' q q';have hx:x≠a:=by rintro rfl;exact hj (g.dis j i x ⟨⟨s,ds',q,q'⟩,q1⟩ ⟨⟨_,_,e,rfl⟩,h1⟩)
     exact⟨x,ys,q1,q2,by rw[aK hx];exact q3,q4.mono sm⟩
 . by_cases hx:x=a;.subst hx;exact .inl oa
   .rw[aK hx]at n';exact absurd n n'
 . by_cases hj:j=i;.subst hj;rw[e]at q;cases q;refine⟨_,List.getElem?_set_self hi,?_⟩;cases b with|true=>exact .inr ⟨_,rfl⟩|false=>cases l
   .exact⟨s,by rw[List.getElem?_set_ne (Ne.symm hj)];exact q,.refl s⟩
theorem GS.zX{K:PySem.W.Frag}{F H:Hp}{ρ:List Sl}{σ:L2.St}{i:Nat}{m:Dc}(g:GS K F ρ σ H)(e:ρ[i]?=some (.cM m)):∃a,σ[i]?=some (some (.ref a))/\H a=some m.ho/\∀ob,bF K F ρ σ H (upd F a (.fH ob m.ho)) (ρ.set i (.val false (.cD m))) σ (upd H a (.fH ob m.ho))/\Rep K (upd F a (.fH ob m.ho)) (.ref a) (.cD m):=by
 obtain⟨a,o0,h1,h2,h3,h4⟩:=g.own i _ _ e rfl;cases(show o0=m.ho from h4);have hi:i<ρ.length:=(List.getElem?_eq_some_iff.mp e).1;refine⟨a,h1,h2,fun ob=>?_⟩;have sm:aP F (upd F a (.fH ob m.ho)):=aP.cT h3;have rp:Rep K (upd F a (.fH ob m.ho)) (.ref a) (.cD m):=by rw[Rep];exact⟨a,ob,rfl,aX⟩
 have oa:Own ρ σ a:=⟨i,⟨_,_,e,rfl⟩,h1⟩;have old:∀j x,bA (ρ.set i (.val false (.cD m))) σ j x->bA ρ σ j x/\j≠i:=fun j x⟨⟨s,ds',q1,q2⟩,q3⟩=>by
  by_cases hj:j=i;.subst hj;rw[List.getElem?_set_self hi]at q1;cases q1;cases q2
  .rw[List.getElem?_set_ne (Ne.symm hj)]at q1;exact⟨⟨⟨s,ds',q1,q2⟩,q3⟩,hj⟩
 refine⟨⟨⟨fun x o q=>?_,by simpa using g.len,fun j b' d q=>?_,fun j s ds' q q'=>?_,fun j k x q q'=>g.dis j k x (old j x q).1 (old k x q').1⟩,sm,fun x n n'=>?_,fun x o q n=>?_,fun x⟨j,q⟩=>.inl ⟨j,(old j x q).1⟩,by simp,fun j s q l=>⟨rfl,?_⟩⟩,rp⟩
 . by_cases hx:x=a;.subst hx;rw[aX]at q ⊢;exact q
   .rw[aK hx]at q ⊢;exact g.sub x o q
 . by_cases hj:j=i;.subst hj;rw[List.getElem?_set_self hi]at q;cases q;exact⟨_,h1,rp⟩
   .rw[List.getElem?_set_ne (Ne.symm hj)]at q;obtain⟨v,q1,q2⟩:=g.val j b' d q;exact⟨v,q1,q2.mono sm⟩
 . by_cases hj:j=i;.subst hj;rw[List.getElem?_set_self hi]at q;cases q;cases q'
   . rw[List.getElem?_set_ne (Ne.symm hj)]at q;obtain⟨x,ys,q1,q2,q3,q4⟩:=g.own j s ds' q q';have hx:x≠a:=by rintro rfl;exact hj (g.dis j i x ⟨⟨s,ds',q,q'⟩,q1⟩ ⟨⟨_,_,e,rfl⟩,h1⟩)
     exact⟨x,ys,q1,by rw[aK hx];exact q2,by rw[aK hx];exact q3,q4.mono sm⟩
 . by_cases hx:x=a;.subst hx;exact .inl oa
   .rw[aK hx]at n';exact absurd n n'
 . have hx:x≠a:=by rintro rfl;exact n oa
   rw[aK hx];exact q
 . by_cases hj:j=i;.subst hj;rw[e]at q;cases q;cases l
   .exact⟨s,by rw[List.getElem?_set_ne (Ne.symm hj)];exact q,.refl s⟩
theorem Inv.U8{X:Cx}{pins:List (Addr×Obj)}{σ:L2.St}{H:Hp}{s:Shared}{a:Addr}{kvs:List (Key×V)}(I:L2.Inv X pins σ H s)(h:H a=some (.dK kvs)):∃o,L2.Inv X pins σ (upd H a (.fH o (.dK kvs))) s:=by obtain⟨hz,hS,vs,r,dd⟩:=(show bU X.prog X.w H s.heap a (.dK kvs)from I.hok a _ h);obtain⟨o,ho,_⟩:=dd.typeIs;exact⟨o,I.write (h':=s.heap) (t':=s.toks) (by rw[h];exact trivial) (.inl rfl) (fun b u _ e=>e) ⟨o,ho⟩ ⟨ho,hz,hS,vs,r,dd⟩⟩
theorem Q4{i:Nat}{x:Str}(hN:X.N[i]?=some x)(hv:sV X.env.scope x)(hd:(x==("__debug__":Str))=false:=by decide)(hcd:(x==("__classdict__":Str))=false:=by decide):SX X c (.Name x pos) (.var i):=by
 have h:=dB (X:=X) (pos:=pos) hN hv hd hcd;refine⟨?_,fun j hj=>by cases hj;exact h⟩;rintro pins s σ H Q I⟨F,ρ,r,ρ',g,e,k⟩;rw[HH.E1]at e;split at e;.rename_i b d q;cases e;obtain⟨v,h1,h2⟩:=g.val i b d q;exact h pins s σ H Q I ⟨v,h1,k v F H (.refl g) h2⟩
 .rename_i b ds q;cases e;obtain⟨v,F',h1,h2,h3⟩:=g.freeze q;exact h pins s σ H Q I ⟨v,h1,k v F' H h2 h3⟩
 .rename_i kvs q;cases e;obtain⟨a,h1,h2,h3⟩:=g.zX q;refine dz (h pins s σ H (fun v H'=>v=.ref a/\H'=H) I ⟨.ref a,h1,rfl,rfl⟩) fun u s1⟨v,H1,I1,r1,e1,e2⟩=>?_;subst e1 e2;obtain⟨o,I2⟩:=Inv.U8 I1 h2;exact⟨.ref a,_,I2,r1,k _ _ _ (h3 o).1 (h3 o).2⟩
 .cases e
theorem wZ{d:D}{v:V}(h:PE X e (tC v))(hr:∀F,Rep X.K F v d):SX X c e (.con d):=⟨fU h fun σ H Q⟨F,ρ,r,ρ',g,e,k⟩=>by rw[HH.E2]at e;cases e;exact k v F H (.refl g) (hr F),fun i h=>by cases h⟩
theorem ao{i j}:SX X c (.Constant (.int i) j pos) (.con (.int i)):=wZ QM fun F=>by rw[Rep]
theorem qC{i j}:SX X c (.Constant (.bool i) j pos) (.con (.bl i)):=wZ VR fun F=>by rw[Rep]
theorem rY{j}:SX X c (.Constant .none j pos) (.con .non):=wZ Qu fun F=>by rw[Rep]
theorem eN.int{K:PySem.W.Frag}{F H:Hp}{v:V}{i:Int}(h:eN K F H v (.int i)):v=.int i:=by
 rcases h with h|⟨_,_,_,_,_,_,h⟩;.rw[Rep]at h;exact h
 .cases h
theorem eN.bl{K:PySem.W.Frag}{F H:Hp}{v:V}{i:Bool}(h:eN K F H v (.bl i)):v=.bl i:=by
 rcases h with h|⟨_,_,_,_,_,_,h⟩;.rw[Rep]at h;exact h
 .cases h
theorem eN.str{K:PySem.W.Frag}{F H:Hp}{v:V}{i:Str}(h:eN K F H v (.str i)):v=.str i:=by
 rcases h with h|⟨_,_,_,_,_,_,h⟩;.rw[Rep]at h;exact h
 .cases h
theorem eN.non{K:PySem.W.Frag}{F H:Hp}{v:V}(h:eN K F H v .non):v=.non:=by
 rcases h with h|⟨_,_,_,_,_,_,h⟩;.rw[Rep]at h;exact h
 .cases h
theorem eN.tup{K:PySem.W.Frag}{F H:Hp}{v:V}{ds:List D}(s:aP F H)(h:eN K F H v (.tup ds)):∃a xs,v=.ref a/\jH K H a xs/\aL K F xs ds/\Rep K F v (.tup ds):=by
 rcases h with h|⟨_,_,_,_,_,_,h⟩;.have h':=h;rw[Rep]at h;obtain⟨a,xs,rfl,h1,h2⟩:=h;exact⟨a,xs,rfl,aP.iw s h1,h2,h'⟩
 .cases h
theorem eN.lst{K:PySem.W.Frag}{F H:Hp}{v:V}{ds:List D}(s:aP F H)(h:eN K F H v (.lst ds)):∃a xs,v=.ref a/\dX K H a xs/\aL K F xs ds:=by
 rcases h with h|⟨a,xs,es,h1,h2,h3,h⟩;.rw[Rep]at h;obtain⟨a,xs,rfl,h1,h2⟩:=h;exact⟨a,xs,rfl,s.seq h1,h2⟩
 .cases h;exact⟨a,xs,h1,dX.of h2,h3⟩
theorem eN.cD{K:PySem.W.Frag}{F H:Hp}{v:V}{m:Dc}(s:aP F H)(h:eN K F H v (.cD m)):∃a o,v=.ref a/\H a=some (.fH o m.ho):=by
 rcases h with h|⟨_,_,_,_,_,_,h⟩;.rw[Rep]at h;obtain⟨a,o,rfl,h⟩:=h;exact⟨a,o,rfl,s _ _ h⟩
 .cases h
theorem GJ{X:Cx}{pins:List (Addr×Obj)}{σ:L2.St}{H:Hp}{s:Shared}{a:Addr}{ob:Obj}{m:Dc}(I:L2.Inv X pins σ H s)(h:H a=some (.fH ob m.ho)):∃o,s.heap.get? a=some o/\o.cls=.type "dict":=by have z:=(show bU X.prog X.w H s.heap a (.fH ob m.ho)from I.hok a _ h).2;cases m with|k kvs=>obtain⟨_,_,vs,_,d2⟩:=(show bU X.prog X.w H s.heap a (.dK _)from z);exact d2.typeIs|t kvs=>obtain⟨_,_,xs,_,o,es,ep,h1,h2,_⟩:=(show bU X.prog X.w H s.heap a (.dT _)from z);exact⟨o,h1,h2.1⟩
theorem eN.items{K:PySem.W.Frag}{F H:Hp}{v:V}{d:D}{ds:List D}(s:aP F H)(h:eN K F H v d)(e:items d=some ds):∃a xs,v=.ref a/\(dX K H a xs\/jH K H a xs)/\aL K F xs ds:=by cases d with|tup es=>cases e;obtain⟨a,xs,h1,h2,h3,_⟩:=h.tup s;exact⟨a,xs,h1,.inr h2,h3⟩|lst es=>cases e;obtain⟨a,xs,h1,h2,h3⟩:=h.lst s;exact⟨a,xs,h1,.inl h2,h3⟩|_=>cases e
theorem cC.dJ{K:PySem.W.Frag}{F H:Hp}{Q:VK}{v:V}{d:D}(s:aP F H)(r:Rep K F v d)(k:∀v F' H',Ext F H F' H'->cC K F' H' H v (.val d)->Q v H'):Q v H:=k v F H (.refl s) r
theorem bJ{K:PySem.W.Frag}{F:Hp}(i:Int):Rep K F (.int i) (.int i):=by rw[Rep]
theorem lB{K:PySem.W.Frag}{F:Hp}(i:Bool):Rep K F (.bl i) (.bl i):=by rw[Rep]
theorem N6{K:PySem.W.Frag}{F:Hp}(i:Str):Rep K F (.str i) (.str i):=by rw[Rep]
theorem Nb{K:PySem.W.Frag}{F:Hp}:Rep K F .non .non:=by rw[Rep]
theorem Bg{K:PySem.W.Frag}{F H:Hp}{Q:VK}{xs:List V}{ds:List D}{p:Addr}(s:aP F H)(r:aL K F xs ds)(hp:H p=none)(k:∀v F' H',Ext F H F' H'->cC K F' H' H v (.own ds)->Q v H'):Q (.ref p) (upd H p (.lst xs)):=by
 have fp:F p=none:=by cases q:F p with|none=>rfl|some o=>rw[s p o q]at hp;cases hp
 exact k _ F _ ⟨aP.cT hp,.refl _,s.trans (aP.cT hp),fun _ a b=>absurd a b⟩ ⟨p,xs,rfl,aX,fp,r,hp⟩
theorem BW{K:PySem.W.Frag}{F H:Hp}{Q:VK}{xs:List V}{ds:List D}{p:Addr}(s:aP F H)(r:aL K F xs ds)(hp:H p=none)(k:∀v F' H',Ext F H F' H'->cC K F' H' H v (.val (.tup ds))->Q v H'):Q (.ref p) (upd H p (.tup xs)):=by
 have fp:F p=none:=by cases q:F p with|none=>rfl|some o=>rw[s p o q]at hp;cases hp
 have sm:aP F (upd F p (.tup xs)):=aP.cT fp;refine k _ (upd F p (.tup xs)) _ ⟨aP.cT hp,sm,fun b o e=>?_,fun b n n'=>?_⟩ ?_
 . by_cases hb:b=p;.subst hb;rw[aX]at e ⊢;exact e
   .rw[aK hb]at e ⊢;exact s b o e
 . by_cases hb:b=p;.subst hb;exact jy hp
   .rw[aK hb]at n';exact absurd n n'
 .show Rep K _ _ (.tup ds);rw[Rep];exact⟨p,xs,rfl,jH.of aX,r.mono sm⟩
end
end HH
end
section
namespace HH
open PySem L2 PySem.Spec PyProof.Rows
theorem qg(k:Int)(t:Tok)(l:Addr)(its:Array Value)(n:Nat)(dd:Option Addr)(sl:Array (Option Value)):Meets (Builtin.«int.__rmul__» ⟨[.int k t,.ref l],[]⟩) (fun _ R s=>s.heap.get? l=some ⟨.type "list",dd,.seq its n,sl⟩/\R (.ok (.ret Value.notImplemented)) s):=.of_wp fun prog w A R s h=>by obtain⟨hp,g,d,tk,os⟩:=s;obtain⟨hl,h⟩:=h;wp_walk;exact⟨_,rfl,h⟩
theorem Ar(l:Addr)(its:Array Value)(n:Nat)(dd:Option Addr)(sl:Array (Option Value))(k:Int)(t:Tok)(h0:¬(!Builtin.List.listFitsIndex k)=true)(h1:¬its.size*k.toNat>(2^63-1)/8)(h2:¬Builtin.List.listTooLong (its.size*k.toNat)=true):Meets (Builtin.«list.__mul__» ⟨[.ref l,.int k t],[]⟩) (fun _ R s=>s.heap.get? l=some ⟨.type "list",dd,.seq its n,sl⟩/\R (.ok (.ret (Value.ref s.heap.objs.size))) {s with heap:=s.heap.push {cls:=.type "list",data:=.seq (List.foldl (·++·) #[] (List.replicate (if its.isEmpty=true then 0 else k.toNat) its))}}):=.of_wp fun prog w A R s h=>by obtain⟨hp,g,d,tk,os⟩:=s;obtain⟨hl,h⟩:=h;have hz:=AutoListH.joined_fits h2;wp_walk using wpAny_loadPart' hl;refine wpAny_ite_false (decide_eq_false (Nat.not_lt.mpr hz)) ?_;wp_walk;exact⟨_,rfl,h⟩
section
variable{X:Cx}{c:Call}{e a b d:Expr}{p pa pb pd:P}{pos:Pos}
theorem J5:gY X (binaryOp .Add) (fun x y H Q=>∃l b xs zs,x=.ref l/\y=.ref b/\dX X.K H l xs/\dX X.K H b zs/\xs.length+zs.length<=sizeLine/\∀p,H p=none->Q (.ref p) (upd H p (.lst (xs++zs)))):=by
 intro pins s σ H x y v u Q I rx ry h;obtain⟨l,b,xs,zs,rfl,rfl,hl,hb,hz,q⟩:=h;cases rx;cases ry;obtain⟨its,r,pl,_⟩:=I.list hl;obtain⟨its2,r2,Mw,_⟩:=I.list hb;obtain⟨⟨cls,dd,data,sl⟩,ho,hc,n,hd⟩:=id pl.isList;obtain⟨⟨cls2,dd2,data2,sl2⟩,ho2,hc2,n2,hd2⟩:=id Mw.isList;simp only at hc hd hc2 hd2;subst hc hd hc2 hd2;have e:its.toArray++its2.toArray=(its++its2).toArray:=by simp
 refine concat_meets ⟨_,ho,rfl⟩ ⟨_,ho2,rfl⟩ noFill_list_add seq_list_add PySem.F.slot_list_add PySem.F.entry_list_add (PySem.F.args_list_add_2 _ _) (list_addW l b its.toArray its2.toArray n n2 dd dd2 sl sl2 (by simp only[List.size_toArray];rw[<-r.length,<-r2.length];exact hz)) ⟨ho,ho2,?_⟩;rw[e];exact⟨.ref _,_,I.Q6 (t':=s.toks) (r.append r2) (by rw[List.length_append];exact hz),rfl,q _ I.fresh⟩
theorem Gw:gY X (binaryOp .Add) (fun x y H Q=>∃a b ys,x=.ref a/\y=.ref b/\jH X.K H a []/\jH X.K H b ys/\Q (.ref b) H):=by intro pins s σ H x y v u Q I rx ry h;obtain⟨a,b,ys,rfl,rfl,ha,hb,q⟩:=h;cases rx;cases ry;obtain⟨its,r1,p1,_⟩:=I.tuple ha;obtain⟨its2,r2,p2,_⟩:=I.tuple hb;obtain⟨⟨cls,dd,data,sl⟩,ho,hc,n,hd⟩:=id p1;obtain⟨⟨cls2,dd2,data2,sl2⟩,ho2,hc2,n2,hd2⟩:=id p2;simp only at hc hd hc2 hd2;subst hc hd hc2 hd2;have e0:its=[]:=r1.nT.mpr rfl;subst e0;exact concat_meets ⟨_,ho,rfl⟩ ⟨_,ho2,rfl⟩ noFill_tuple_add seq_tuple_add PySem.F.slot_tuple_add PySem.F.entry_tuple_add (PySem.F.args_tuple_add_2 _ _) (tuple_addW0 a b _ its2.toArray n n2 dd dd2 sl sl2 (by simp)) ⟨ho,ho2,⟨.ref b,H,I,rfl,q⟩⟩
theorem aN:gY X (binaryOp .Add) (rD X.K (sr .add)):=by
 rintro pins s σ H x y v u Q I rx ry⟨F,d,e,r,sm,px,py,he,k⟩;replace he:oM d e=some r:=he;unfold oM at he;split at he;.cases he;rw[px.int]at rx;rw[py.int]at ry;exact Pu pins s σ H _ _ v u Q I rx ry ⟨_,_,rfl,rfl,cC.dJ sm (bJ _) k⟩
 .rename_i xs ys;obtain⟨hl,he⟩:=bw he;subst he;obtain⟨a,vs,rfl,ha,ra⟩:=px.lst sm;obtain⟨b,us,rfl,hb,rb⟩:=py.lst sm;exact J5 pins s σ H _ _ v u Q I rx ry ⟨a,b,vs,us,rfl,rfl,ha,hb,by rw[ra.length,rb.length];exact hl,fun p hp=>Bg sm (ra.append rb) hp k⟩
 . rename_i xs ys;obtain⟨hl,he⟩:=bw he;subst he;obtain⟨a,vs,rfl,ha,ra,ta⟩:=px.tup sm;obtain⟨b,us,rfl,hb,rb,tb⟩:=py.tup sm;by_cases h0:vs=[]
   . subst h0;have e0:xs=[]:=by have:=ra.length;exact List.eq_nil_of_length_eq_zero this.symm
     subst e0;exact Gw pins s σ H _ _ v u Q I rx ry ⟨a,b,us,rfl,rfl,ha,hb,cC.dJ sm tb k⟩
   . refine Jl pins s σ H _ _ v u Q I rx ry ⟨a,b,vs,us,rfl,rfl,ha,hb,h0,by rw[ra.length,rb.length];exact hl,fun e=>?_,fun _ p hp=>BW sm (ra.append rb) hp k⟩;subst e;have e0:ys=[]:=by have:=rb.length;exact List.eq_nil_of_length_eq_zero this.symm
     subst e0;rw[List.append_nil]at k;exact cC.dJ sm ta k
 .rename_i x1 y1;obtain⟨hl,he⟩:=bw he;subst he;rw[px.str]at rx;rw[py.str]at ry;exact xW pins s σ H _ _ v u Q I rx ry ⟨_,_,rfl,rfl,hl,cC.dJ sm (N6 _) k⟩
 .cases he
theorem cZ:gY X (binaryOp .Sub) (rD X.K (sr .sub)):=by
 rintro pins s σ H x y v u Q I rx ry⟨F,d,e,r,sm,px,py,he,k⟩;replace he:vW d e=some r:=he;unfold vW at he;split at he;.cases he;rw[px.int]at rx;rw[py.int]at ry;exact MN pins s σ H _ _ v u Q I rx ry ⟨_,_,rfl,rfl,cC.dJ sm (bJ _) k⟩
 .cases he
theorem Kf:gY X (binaryOp .Mult) (fun x y H Q=>∃l k xs,x=.ref l/\y=.int k/\dX X.K H l xs/\-(2^63)<=k/\k<2^63/\xs.length*k.toNat<=sizeLine/\∀p,H p=none->Q (.ref p) (upd H p (.lst (List.replicate k.toNat xs).flatten))):=by
 intro pins s σ H x y v u Q I rx ry h;obtain⟨l,k,xs,rfl,rfl,hl,h1,h2,hz,q⟩:=h;cases rx;obtain⟨t,rfl⟩:=ry;obtain⟨its,r,pl,_⟩:=I.list hl;obtain⟨⟨cls,dd,data,sl⟩,ho,hc,n,hd⟩:=id pl.isList;simp only at hc hd;subst hc hd;have hlen:its.toArray.size*k.toNat<=sizeLine:=by rw[List.size_toArray,<-r.length];exact hz
 have abb:¬ its.toArray.size*k.toNat>(2^63-1)/8:=by
  have:(sizeLine:Nat)<=(2^63-1)/8:=by decide
  omega
 have hnew:List.foldl (·++·) #[] (List.replicate (if its.toArray.isEmpty=true then 0 else k.toNat) its.toArray)=(List.replicate k.toNat its).flatten.toArray:=by
  have f0:∀m:Nat,List.foldl (·++·) #[] (List.replicate m its.toArray)=(List.replicate m its).flatten.toArray:=fun m=>by have:=foldl_rep its m [];rw[List.nil_append]at this;exact this
  rw[f0];cases its with|nil=>simp|cons a r'=>rw[if_neg (by simp)]
 refine wpAny_binaryOp_repeat_ref (T:="list") (U:="int") (by decide) ⟨_,ho,rfl⟩ (fun s'=>typeIs_int s' k t) noFill_list_mul F.fills_int_mul F.slot_int_rmul repeat_list F.slot_int_index.lookup ?_;refine call_meets F.slot_int_rmul (typeIs_int s k t) F.entry_int_rmul (F.args_int_rmul_2 _ _) (qg k t l its.toArray n dd sl) ⟨ho,rfl,⟨_,ho,rfl⟩,?_⟩;refine call_meets F.slot_list_mul ⟨_,ho,rfl⟩ F.entry_list_mul (F.args_list_mul_2 _ _) (Ar l its.toArray n dd sl k t (by rw[fitsIndex_both h1 h2];exact Bool.false_ne_true) abb (by rw[Dg hlen];exact Bool.false_ne_true)) ⟨ho,?_⟩;rw[hnew];exact⟨.ref _,_,I.Q6 (t':=s.toks) (r.rep k.toNat) (by rw[len_rep,Nat.mul_comm];exact hz),rfl,q _ I.fresh⟩
theorem mO:fillsNumberSlot (.type "tuple") "mul"=pure false:=PySem.fillsNumberSlot_seq (id:="tuple.__mul__") (r:=some (.builtin "tuple.__rmul__")) PySem.F.slot_tuple_mul.lookup (by decide+kernel) PySem.F.slot_tuple_rmul.lookup (by decide+kernel)
theorem uc:seqRepeat? (.type "tuple")=pure (some (.builtin "tuple.__mul__")):=by unfold seqRepeat?;rw[PySem.seqSlot_of (T:="tuple") (name:="__mul__") (id:="tuple.__mul__") PySem.F.slot_tuple_mul.lookup (by decide+kernel),PySem.seqSlot_of (T:="tuple") (name:="__rmul__") (id:="tuple.__rmul__") PySem.F.slot_tuple_rmul.lookup (by decide+kernel)];rfl
theorem pg(k:Int)(t:Tok)(l:Addr)(its:Array Value)(n:Nat)(dd:Option Addr)(sl:Array (Option Value)):Meets (Builtin.«int.__rmul__» ⟨[.int k t,.ref l],[]⟩) (fun _ R s=>s.heap.get? l=some ⟨.type "tuple",dd,.seq its n,sl⟩/\R (.ok (.ret Value.notImplemented)) s):=.of_wp fun prog w A R s h=>by obtain⟨hp,g,d,tk,os⟩:=s;obtain⟨hl,h⟩:=h;wp_walk;exact⟨_,rfl,h⟩
theorem xZ(l:Addr)(its:Array Value)(n:Nat)(dd:Option Addr)(sl:Array (Option Value))(k:Int)(t:Tok)(h0:0<=k)(h1:k<2^63)(hz:its.size*k.toNat<=sizeLine)(hne:0<its.size):Meets (Builtin.«tuple.__mul__» ⟨[.ref l,.int k t],[]⟩) (fun _ R s=>s.heap.get? l=some ⟨.type "tuple",dd,.seq its n,sl⟩/\(k=1->R (.ok (.ret (Value.ref l))) s)/\(k≠1->R (.ok (.ret (Value.ref s.heap.objs.size))) {s with heap:=s.heap.push {cls:=.type "tuple",data:=.seq (List.foldl (·++·) #[] (List.replicate k.toNat its))}})):=.of_wp fun prog w A R s h=>by
  obtain⟨hp,g,d,tk,os⟩:=s;obtain⟨hl,q1,q2⟩:=h;have hem:its.isEmpty=false:=by cases e:its.isEmpty with|false=>rfl|true=>rw[Array.isEmpty_iff_size_eq_zero]at e;omega
  show wpAny _ _ (asIndex (.int k t)>>=_) _ _ _;wp_walk using wpAny_loadPart' hl;have hI:IsTup hp l its:=⟨_,hl,rfl,n,rfl⟩;rw[if_neg (by simp;omega)];refine wpAny_bind (PyProof.Rows.tupleItemsOf_ hI ?_);try dsimp only
  by_cases e1:k=1;.rw[if_pos (by simp[e1])];wp_walk using wpAny_loadPart' hl;exact⟨_,rfl,q1 e1⟩
  . have q:=q2 e1;rw[if_neg (by simp[hem,e1])];by_cases e0:k=0;.subst e0;rw[if_pos (by simp)];unfold Builtin.Tuple.tupleExact;refine wpAny_bind (wpAny_newObj_type ?_);exact wpAny_pure ⟨_,rfl,q⟩
    . have hb:(its.size:Int)*k<=sizeLine:=by
       have:((its.size*k.toNat:Nat):Int)<=(sizeLine:Nat):=by exact_mod_cast hz
       rw[Int.natCast_mul,show((k.toNat:Nat):Int)=k by omega]at this;exact this
      have hs2:(sizeLine:Int)<=(2^63-1)/8:=by decide
      rw[if_neg (by simp[hem];omega),if_neg (by omega),if_neg (by simp[Builtin.Tuple.tupleTooMany];omega)];unfold Builtin.Tuple.tupleExact;refine wpAny_bind (wpAny_newObj_type ?_ ?_);.exact wpAny_pure ⟨_,rfl,q⟩
      .have:=foldl_rep its.toList k.toNat [];rw[List.nil_append,show its.toList.toArray=its by simp]at this;show(List.foldl (·++·) #[] (List.replicate k.toNat its)).size<=sizeLine;rw[show(#[]:Array Value)=([]:List Value).toArray from rfl,this,List.size_toArray,len_rep,Array.length_toList,Nat.mul_comm];exact hz
theorem Ii:gY X (binaryOp .Mult) (fun x y H Q=>∃l k xs,x=.ref l/\y=.int k/\jH X.K H l xs/\0<xs.length/\0<=k/\k<2^63/\xs.length*k.toNat<=sizeLine/\(k=1->Q (.ref l) H)/\(k≠1->∀p,H p=none->Q (.ref p) (upd H p (.tup (List.replicate k.toNat xs).flatten)))):=by
 intro pins s σ H x y v u Q I rx ry h;obtain⟨l,k,xs,rfl,rfl,hl,hne,h1,h2,hz,qa,qb⟩:=h;cases rx;obtain⟨t,rfl⟩:=ry;obtain⟨its,r,pl,_⟩:=I.tuple hl;obtain⟨⟨cls,dd,data,sl⟩,ho,hc,n,hd⟩:=id pl;simp only at hc hd;subst hc hd;have hlen:its.toArray.size*k.toNat<=sizeLine:=by rw[List.size_toArray,<-r.length];exact hz
 have hnew:List.foldl (·++·) #[] (List.replicate k.toNat its.toArray)=(List.replicate k.toNat its).flatten.toArray:=by have:=foldl_rep its k.toNat [];rw[List.nil_append]at this;exact this
 refine wpAny_binaryOp_repeat_ref (T:="tuple") (U:="int") (by decide) ⟨_,ho,rfl⟩ (fun s'=>typeIs_int s' k t) mO F.fills_int_mul F.slot_int_rmul uc F.slot_int_index.lookup ?_;refine call_meets F.slot_int_rmul (typeIs_int s k t) F.entry_int_rmul (F.args_int_rmul_2 _ _) (pg k t l its.toArray n dd sl) ⟨ho,rfl,⟨_,ho,rfl⟩,?_⟩;refine call_meets PySem.F.slot_tuple_mul ⟨_,ho,rfl⟩ PySem.F.entry_tuple_mul (PySem.F.args_tuple_mul_2 _ _) (xZ l its.toArray n dd sl k t h1 h2 hlen (by rw[List.size_toArray,<-r.length];exact hne)) ⟨ho,fun e=>⟨.ref l,H,I,rfl,qa e⟩,fun e=>?_⟩;rw[hnew];refine⟨.ref s.heap.objs.size,_,I.laid (t':=s.toks) (o:=.tup (List.replicate k.toNat xs).flatten) (fun b ob q=>Heap.get?_push_of_some _ q) (Nat.le_refl _) ?_,rfl,qb e _ (I.hok.fresh (Nat.le_refl _))⟩;exact⟨by rw[len_rep,Nat.mul_comm];exact hz,_,r.rep k.toNat,IsTup.new _ _⟩
theorem iu:gY X (binaryOp .Mult) (rD X.K (sr .mul)):=by
 rintro pins s σ H x y v u Q I rx ry⟨F,d,e,r,sm,px,py,he,k⟩;replace he:mZ d e=some r:=he;unfold mZ at he;split at he;.obtain⟨hc,he⟩:=bw he;subst he;rw[px.int]at rx;rw[py.int]at ry;exact Pr pins s σ H _ _ v u Q I rx ry ⟨_,_,rfl,rfl,hc,cC.dJ sm (bJ _) k⟩
 . rename_i xs i;obtain⟨⟨h1,h2,h3⟩,he⟩:=bw he;subst he;obtain⟨a,vs,rfl,ha,ra⟩:=px.lst sm;rw[py.int]at ry;have hk:i<2^63:=by have h4:=Nat.le_mul_of_pos_left i.toNat h2;have h5:i.toNat<=16777216:=Nat.le_trans h4 h3;omega
   exact Kf pins s σ H _ _ v u Q I rx ry ⟨a,i,vs,rfl,rfl,ha,by omega,hk,by rw[ra.length];exact h3,fun p hp=>Bg sm (ra.rep i.toNat) hp k⟩
 . rename_i xs i;obtain⟨⟨h1,h2,h3⟩,he⟩:=bw he;subst he;obtain⟨a,vs,rfl,ha,ra,rr⟩:=px.tup sm;rw[py.int]at ry;have hk:i<2^63:=by have h4:=Nat.le_mul_of_pos_left i.toNat h2;have h5:i.toNat<=16777216:=Nat.le_trans h4 h3;omega
   refine Ii pins s σ H _ _ v u Q I rx ry ⟨a,i,vs,rfl,rfl,ha,by rw[ra.length];exact h2,h1,hk,by rw[ra.length];exact h3,fun e=>?_,fun e p hp=>BW sm (ra.rep i.toNat) hp k⟩;subst e;refine cC.dJ sm ?_ k;have e1:(List.replicate (1:Int).toNat xs).flatten=xs:=by simp
   rw[e1];exact rr
 .cases he
theorem wu:gY X (binaryOp .FloorDiv) (rD X.K (sr .fdiv)):=by
 rintro pins s σ H x y v u Q I rx ry⟨F,d,e,r,sm,px,py,he,k⟩;replace he:oX d e=some r:=he;unfold oX at he;split at he
 . rename_i i j;obtain⟨⟨h1,h2⟩,he⟩:=bw he;subst he;rw[px.int]at rx;rw[py.int]at ry;obtain⟨t,rfl⟩:=rx;obtain⟨t',rfl⟩:=ry;have hl:j.natAbs.log2<9000:=by
    have:j.natAbs<2^200:=by
     have:(2:Nat)^200=1606938044258990275541962092341162602522202993782792835301376:=by decide
     omega
    have h3:=(Nat.log2_lt (by omega)).mpr this;omega
   exact floordiv_int (by omega) (by rw[Int.fdiv_eq_ediv_of_nonneg i (by omega)];exact⟨.int _,H,I.tok _,⟨_,rfl⟩,cC.dJ sm (bJ _) k⟩) (.inl (PyProof.noPylong_of_log2 hl))
 .cases he
theorem gF:gY X (binaryOp .Mod) (rD X.K (sr .mod)):=by
 rintro pins s σ H x y v u Q I rx ry⟨F,d,e,r,sm,px,py,he,k⟩;replace he:vh d e=some r:=he;unfold vh at he;split at he;.obtain⟨h1,he⟩:=bw he;subst he;rw[px.int]at rx;rw[py.int]at ry;exact Qq pins s σ H _ _ v u Q I rx ry ⟨_,_,rfl,rfl,h1,cC.dJ sm (bJ _) k⟩
 .cases he
theorem jB:gY X (binaryOp .Pow) (rD X.K (sr .pow)):=by
 rintro pins s σ H x y v u Q I rx ry⟨F,d,e,r,sm,px,py,he,k⟩;replace he:u6 d e=some r:=he;unfold u6 at he;split at he;.obtain⟨⟨h1,h2,h3⟩,he⟩:=bw he;subst he;rw[px.int]at rx;rw[py.int]at ry;exact P0 pins s σ H _ _ v u Q I rx ry ⟨_,_,rfl,rfl,⟨h1,by omega,h3⟩,cC.dJ sm (bJ _) k⟩
 .cases he
theorem az{o:Op}{op:Operator}(ho:gY X (binaryOp op) (rD X.K (sr o)))(ha:SX X c a pa)(hb:SX X c b pb):SX X c (.BinOp a op b pos) (.bin o pa pb):=sy (fun h1 h2=>V6 ho h1 h2) ha hb (fun ρ=>rfl) rfl
theorem FZ(ha:SX X c a pa):SX X c (.UnaryOp .USub a pos) (.neg pa):=by refine O6 (f:=DY) (fun h1=>Vc ?_ h1) ha (fun ρ=>rfl) rfl;rintro pins s σ H x v Q I rx⟨F,d,r,sm,px,he,k⟩;unfold DY at he;obtain⟨i,e1,e2⟩:=map_some he;subst e2;cases d<;>cases e1;rw[px.int]at rx;exact O7 pins s σ H _ v Q I rx ⟨_,rfl,cC.dJ sm (bJ _) k⟩
theorem zM{op:CmpOp}{f:Int->Int->Bool}(ho:gY X (compareOp op) (Hr fun i j=>.bl (f i j))):gY X (compareOp op) (rD X.K fun x y=>(Hw f x y).map fun k=>.val (.bl k)):=by
 rintro pins s σ H x y v u Q I rx ry⟨F,d,e,r,sm,px,py,he,k⟩;obtain⟨t,e1,e2⟩:=map_some (show(Hw f d e).map _=some r from he);subst e2;unfold Hw at e1;split at e1;.cases e1;rw[px.int]at rx;rw[py.int]at ry;exact ho pins s σ H _ _ v u Q I rx ry ⟨_,_,rfl,rfl,cC.dJ sm (lB _) k⟩
 .cases e1
theorem xK{op:CmpOp}{f:Int->Int->Bool}(ho:gY X (compareOp op) (Hr fun i j=>.bl (f i j))){o:Cm}(hc:cm o=Hw f):gY X (compareOp op) (rD X.K (uC o)):=by
 have e:uC o=fun x y=>(Hw f x y).map fun k=>.val (.bl k):=by funext x y;unfold uC;rw[hc]
 rw[e];exact zM ho
theorem MT:gY X (compareOp .Lt) (rD X.K fun x y=>(Hw (fun i j=>decide (i<j)) x y).map fun k=>.val (.bl k)):=zM Wc
theorem xg:gY X (compareOp .LtE) (rD X.K (uC .le)):=xK V5 rfl
theorem oK:gY X (compareOp .Gt) (rD X.K (uC .gt)):=xK Ui rfl
theorem wX:gY X (compareOp .GtE) (rD X.K (uC .ge)):=xK Wa rfl
theorem Qj{o:Cm}{op:CmpOp}(ho:gY X (compareOp op) (rD X.K (uC o)))(ha:SX X c a pa)(hb:SX X c b pb)(hm:behindInMarks op b=false):SX X c (.Compare a [op] [b] pos) (.cmp o pa pb):=sy (fun h1 h2=>HR ho h1 h2 hm) ha hb (fun ρ=>rfl) rfl
end
end HH
end
section
namespace HH
open PySem L2 PySem.Spec PyProof.Rows
section
variable{X:Cx}{c:Call}{e a b d:Expr}{p pa pb pd:P}{pos:Pos}{rest:List Expr}
theorem pU{x:D}{k:Bool}(h:zZ x=some k):x=.bl k:=by cases x<;>cases h;rfl
theorem aY{x:D}{k:Int}(h:dC x=some k):x=.int k:=by cases x<;>cases h;rfl
theorem cI.bool{K:PySem.W.Frag}{F' H' H:Hp}{ρ' ρ:List Sl}{σ' σ:L2.St}{v:V}{r:R}{k:Bool}(h:cI K F' ρ' σ' H' ρ σ H v r)(e:r.d=.bl k):v=.bl k:=by cases r with|val d=>cases(show d=.bl k from e);have h:Rep K F' v (.bl k):=h;rw[Rep]at h;exact h|own ds=>cases e
noncomputable def ST(X:Cx)(c:Call)(e:Expr)(p:P):Prop:=PT X e (Gz X.K (iT (HH.ev c p)))
noncomputable def SW(X:Cx)(c:Call)(e:Expr)(p:P):Prop:=PW X e (Gz X.K (iT (HH.ev c p)))
theorem SW.st(h:SW X c e p):ST X c e p:=PW.pt h
theorem sZ{t:TE}{Q:Bool->Hp->Prop}{σ:L2.St}{H:Hp}(hi:∀Q,yh X.K (HH.ev c p) σ H Q->t σ H Q)(h:Gz X.K (iT (HH.ev c p)) σ H Q):t σ H fun x H1=>∃k,x=.bl k/\Q k H1:=by obtain⟨F,ρ,k,ρ',g,e,q⟩:=h;obtain⟨r,ρ1,e1,e2⟩:=aj e;have zz:=aF e2;clear e2;obtain⟨e2,e3⟩:=zz;subst e3;exact hi _ ⟨F,ρ,r,ρ1,g,e1,fun v F' H' s rr=>⟨k,rr.bool (pU e2),q F' H' s⟩⟩
theorem pO(h:SX X c e p)(he:∀whole,isTrue e X.env whole=(do let v<-whole;standAt e.pos;holding [v] (truthy v)):=by intro _;rfl):ST X c e p:=CK (Ng h.ev he) fun σ H Q q=>sZ (fun _ z=>z) q
theorem bN{o:Cm}{op:CmpOp}(ho:gY X (compareOp op) (rD X.K (uC o)))(ha:SX X c a pa)(hb:SX X c b pb)(hm:behindInMarks op b=false):ST X c (.Compare a [op] [b] pos) (.cmp o pa pb):=by obtain⟨ta,tb,h1,h2,h3⟩:=ha.iB hb;refine CK (Ip ho h1 h2 hm) fun σ H Q q=>sZ (t:=Hv (rD X.K (uC o)) ta tb) (fun Q z=>?_) q;obtain⟨F,ρ,r,ρ',g,e,k⟩:=z;rw[HH.E8]at e;obtain⟨xy,ρ1,e1,e2⟩:=aj e;have zz:=aF e2;clear e2;obtain⟨e2,e3⟩:=zz;subst e3;refine h3 g e1 fun v u F' H' s pv pu=>⟨F',xy.1,xy.2,r,s.gs.sub,pv,pu,e2,fun w F2 H2 x rn=>?_⟩;exact k w F2 H2 (s.trans (x.stp s.gs)) (.later s (rn.vP s.gs))
theorem o8(ha:ST X c a pa):ST X c (.UnaryOp .Not a pos) (.not pa):=by
 refine CK (Ox ha) ?_;rintro σ H Q⟨F,ρ,k,ρ',g,e,q⟩;unfold iT at e;rw[HH.E5]at e;obtain⟨r,ρ1,e1,e2⟩:=aj e;obtain⟨k',ρ2,e3,e4⟩:=aj e1;cases e4;have zz:=aF e2;clear e2;obtain⟨e2,e5⟩:=zz;subst e5;have e2:(!k')=k:=by cases e2;rfl
 exact⟨F,ρ,k',_,g,e3,fun F' H' s=>by show Q (!k') H';rw[e2];exact q F' H' s⟩
theorem J7(ρ:List Sl):iT (HH.ev c (.and pa pb)) ρ=(iT (HH.ev c pa) ρ).bind fun x ρ=>if x then iT (HH.ev c pb) ρ else .ok false ρ:=by unfold iT;rw[HH.E6];unfold iT;cases HH.ev c pa ρ with|exc _ _=>rfl|stuck=>rfl|ok r ρ1=>simp only[Res.bind];cases h:zZ r.d with|none=>rfl|some k=>cases k with|false=>rfl|true=>simp only[lift,if_true];cases HH.ev c pb ρ1 with|exc _ _=>rfl|stuck=>rfl|ok r2 ρ2=>simp only[Res.bind];cases h2:zZ r2.d with|none=>rfl|some k2=>rfl
theorem M4(ρ:List Sl):iT (HH.ev c (.or pa pb)) ρ=(iT (HH.ev c pa) ρ).bind fun x ρ=>if x then .ok true ρ else iT (HH.ev c pb) ρ:=by unfold iT;rw[HH.E7];unfold iT;cases HH.ev c pa ρ with|exc _ _=>rfl|stuck=>rfl|ok r ρ1=>simp only[Res.bind];cases h:zZ r.d with|none=>rfl|some k=>cases k with|true=>rfl|false=>simp only[lift,Bool.false_eq_true,if_false];cases HH.ev c pb ρ1 with|exc _ _=>rfl|stuck=>rfl|ok r2 ρ2=>simp only[Res.bind];cases h2:zZ r2.d with|none=>rfl|some k2=>rfl
theorem nU(ha:ST X c a pa):SW X c (.BoolOp .And [a] pos) pa:=Ks ha
theorem p7(ha:ST X c a pa):SW X c (.BoolOp .Or [a] pos) pa:=Qx ha
theorem mz(ha:ST X c a pa)(hb:SW X c (.BoolOp .And (b::rest) pos) pb):SW X c (.BoolOp .And (a::b::rest) pos) (.and pa pb):=by refine LR (NK ha hb) ?_;rintro σ H Q⟨F,ρ,k,ρ',g,e,q⟩;rw[J7]at e;obtain⟨x,ρ1,e1,e⟩:=aj e;refine⟨F,ρ,x,ρ1,g,e1,fun F1 H1 s1=>?_⟩;cases x with|true=>rw[if_pos rfl]at e ⊢;exact⟨F1,ρ1,k,ρ',s1.gs,e,fun F2 H2 s2=>q F2 H2 (s1.trans s2)⟩|false=>rw[if_neg Bool.false_ne_true]at e ⊢;cases e;exact q F1 H1 s1
theorem uV(ha:ST X c a pa)(hb:SW X c (.BoolOp .Or (b::rest) pos) pb):SW X c (.BoolOp .Or (a::b::rest) pos) (.or pa pb):=by refine LR (UW ha hb) ?_;rintro σ H Q⟨F,ρ,k,ρ',g,e,q⟩;rw[M4]at e;obtain⟨x,ρ1,e1,e⟩:=aj e;refine⟨F,ρ,x,ρ1,g,e1,fun F1 H1 s1=>?_⟩;cases x with|true=>rw[if_pos rfl]at e ⊢;cases e;exact q F1 H1 s1|false=>rw[if_neg Bool.false_ne_true]at e ⊢;exact⟨F1,ρ1,k,ρ',s1.gs,e,fun F2 H2 s2=>q F2 H2 (s1.trans s2)⟩
theorem Oi(ha:SX X c a pa):SX X c (.UnaryOp .Not a pos) (.not pa):=by refine⟨fU (Q3 ha.ev) ?_,fun i h=>by cases h⟩;rintro σ H Q⟨F,ρ,r,ρ',g,e,k⟩;rw[HH.E5]at e;obtain⟨x,ρ1,e1,e2⟩:=aj e;cases e2;exact sZ (c:=c) (fun _ z=>z) ⟨F,ρ,x,_,g,e1,fun F' H' s=>k _ F' H' s (show Rep X.K F' _ _ from lB _)⟩
theorem Ir{op}(ha:SX X c a pa):PE X (.BoolOp op [a] pos) (yh X.K (HH.ev c pa)):=M8 ha.ev
theorem Q0(ha:SX X c a pa)(hb:PE X (.BoolOp .And (b::rest) pos) (yh X.K (HH.ev c pb))):SX X c (.BoolOp .And (a::b::rest) pos) (.and pa pb):=by refine⟨fU (Nr ha.ev hb) ?_,fun i h=>by cases h⟩;rintro σ H Q⟨F,ρ,r,ρ',g,e,k⟩;rw[HH.E6]at e;obtain⟨x,ρ1,e1,e⟩:=aj e;refine sZ (c:=c) (fun _ z=>z) (Q:=fun x H1=>if x=true then yh X.K (HH.ev c pb) σ H1 Q else Q (.bl false) H1) ⟨F,ρ,x,ρ1,g,e1,fun F1 H1 s1=>?_⟩;cases x with|true=>rw[if_pos rfl]at e ⊢;obtain⟨y,ρ2,e2,e3⟩:=aj e;cases e3;obtain⟨r2,ρ3,e4,e5⟩:=aj e2;have zz:=aF e5;clear e5;obtain⟨e5,e6⟩:=zz;subst e6;refine⟨F1,ρ1,r2,_,s1.gs,e4,fun v F2 H2 s2 rr=>?_⟩;rw[rr.bool (pU e5)];exact k _ F2 H2 (s1.trans s2) (show Rep X.K F2 _ _ from lB _)|false=>rw[if_neg Bool.false_ne_true]at e ⊢;cases e;exact k _ F1 H1 s1 (show Rep X.K F1 _ _ from lB _)
theorem jE:∀{ps:List P}{ρ ρ':List Sl}{ds:List D},evs c ps ρ=.ok ds ρ'->ds.length=ps.length|[],_,_,_,h=>by rw[evs]at h;cases h;rfl|p::ps,_,_,_,h=>by rw[evs]at h;obtain⟨r,ρ1,_,h⟩:=aj h;obtain⟨xs,ρ2,h2,h⟩:=aj h;cases h;simp[jE h2]
theorem aR:SA X c [] []:=⟨wk gO fun σ H Q⟨F,ρ,ds,ρ',g,e,k⟩=>by rw[evs]at e;cases e;exact k [] F H (.refl g) .nil,rfl⟩
theorem ou{es:List Expr}{ps:List P}(ha:SX X c a pa)(hr:SA X c es ps)(hs:starEach (a::es) X.env=(false,eval a X.env)::starEach es X.env:=by rfl):SA X c (a::es) (pa::ps):=by refine⟨wk (cH ha.ev hr.1 hs) ?_,by simp[hr.2]⟩;rintro σ H Q⟨F,ρ,ds,ρ',g,e,k⟩;rw[evs]at e;obtain⟨r,ρ1,e1,e⟩:=aj e;obtain⟨xs,ρ2,e2,e⟩:=aj e;cases e;refine⟨F,ρ,r,ρ1,g,e1,fun v F' H' s rr=>?_⟩;obtain⟨F1,s1,_,rp⟩:=s.fH rr;refine⟨F1,ρ1,xs,_,s1.gs,e2,fun vs F2 H2 s2 rs=>?_⟩;exact k _ F2 H2 (s1.trans s2) (.cons (rp.mono s2.bK) rs)
theorem Ext.JS{K:PySem.W.Frag}{F H:Hp}{ρ ρ':List Sl}{σ:L2.St}{H0 F0:Hp}{Q:VK}{xs:List V}{ds:List D}(s:bF K F0 ρ σ H0 F ρ' σ H)(r:aL K F xs ds)(k:∀v F' H',bF K F0 ρ σ H0 F' ρ' σ H'->cI K F' ρ' σ H' ρ σ H0 v (.val (.tup ds))->Q v H')(p:Addr)(hp:H p=none):Q (.ref p) (upd H p (.tup xs)):=BW s.gs.sub r hp fun v F' H' x rn=>k v F' H' (s.trans (x.stp s.gs)) rn
theorem fK{es:List Expr}{ps:List P}{x1}(h:SA X c es ps)(hz:ps.length<=sizeLine:=by decide):SX X c (.Tuple es x1 pos) (.tup ps):=by refine⟨fU (tH h.1) ?_,fun i h=>by cases h⟩;rintro σ H Q⟨F,ρ,r,ρ',g,e,k⟩;rw[HH.E11]at e;obtain⟨ds,ρ1,e1,e⟩:=aj e;cases e;exact⟨F,ρ,ds,_,g,e1,fun vs F' H' s rs=>⟨by rw[rs.length,jE e1];exact hz,fun p hp=>Ext.JS s rs k p hp⟩⟩
theorem cJ{es:List Expr}{ps:List P}(h:SA X c es ps)(hz:ps.length<=sizeLine:=by decide):SX X c (.List es pos) (.lst ps):=by refine⟨fU (CZ h.1) ?_,fun i h=>by cases h⟩;rintro σ H Q⟨F,ρ,r,ρ',g,e,k⟩;rw[HH.E12]at e;obtain⟨ds,ρ1,e1,e⟩:=aj e;cases e;exact⟨F,ρ,ds,_,g,e1,fun vs F' H' s rs=>⟨by rw[rs.length,jE e1];exact hz,fun p hp=>Bg s.gs.sub rs hp fun v F2 H2 x rn=>k v F2 H2 (s.trans (x.stp s.gs)) (.later s (rn.vP s.gs))⟩⟩
theorem Gg{ds:List D}{i:Int}{d:D}(h:at' ds i=some d):∃j,L2.lU ds.length i=some j/\ds[j]?=some d:=aW h
theorem aax:Xq X (rD X.K lV):=by
 rintro value slice pins s σ H x y v u Q I rx ry⟨F,d,e,r,sm,px,py,he,k⟩hs;unfold lV at he;obtain⟨ds,e1,he⟩:=aW he;obtain⟨i,e2,he⟩:=aW he;obtain⟨z,e3,he⟩:=map_some he;subst he;cases aY e2;rw[py.int]at ry;obtain⟨p,xs,rfl,hq,rs⟩:=px.items sm e1;obtain⟨j,h1,h2⟩:=Gg e3;obtain⟨w,h3,h4⟩:=rs.get h2;have hat:Ej xs i=some w:=by unfold Ej;rw[rs.length,h1];exact h3
 rcases hq with hq|hq;.exact fW value slice pins s σ H _ _ v u Q I rx ry ⟨p,xs,i,w,rfl,rfl,hq,hat,cC.dJ sm h4 k⟩ hs
 .exact Ov value slice pins s σ H _ _ v u Q I rx ry ⟨p,xs,i,w,rfl,rfl,hq,hat,cC.dJ sm h4 k⟩ hs
theorem aG(ha:SX X c a pa)(hb:SX X c b pb)(hs:fc b:=by intro _ _;rfl):SX X c (.Subscript a b pos) (.idx pa pb):=sy (f:=lV) (fun h1 h2=>lq aax h1 h2 hs) ha hb (fun ρ=>rfl) rfl
noncomputable def DR(K:PySem.W.Frag)(f:D->Option R):List V->Hp->VK->Prop:=fun xs H Q=>∃x,xs=[x]/\rD1 K f x H Q
theorem jL{E:Expr}{f:D->Option R}{q:P}(hp:∀{t},PA X [a] t->PE X E (Yc (DR X.K f) t))(ha:SX X c a pa)(hq:∀ρ,HH.ev c q ρ=(HH.bI (isVar pa) (HH.ev c pa) ρ).bind fun x ρ=>lift (f x) ρ)(hv:isVar q=none)(hs:starEach [a] X.env=(false,eval a X.env)::starEach [] X.env:=by rfl):SX X c E q:=by obtain⟨ta,h1,h3⟩:=ha.bI;refine⟨fU (hp (cH h1 gO hs)) ?_,fun i h=>by rw[hv]at h;cases h⟩;rintro σ H Q⟨F,ρ,r,ρ',g,e,k⟩;rw[hq]at e;obtain⟨x,ρ1,e1,e2⟩:=aj e;have zz:=aF e2;clear e2;obtain⟨e2,e3⟩:=zz;subst e3;refine h3 g e1 fun v F' H' s pv=>⟨v,rfl,F',x,r,s.gs.sub,pv,e2,fun w F2 H2 x rn=>?_⟩;exact k w F2 H2 (s.trans (x.stp s.gs)) (.later s (rn.vP s.gs))
theorem VP:dq X (.builtin "len") (DR X.K fun x=>blt .len [x]):=by rintro pins s σ H xs us Q I r⟨x,hx,F,d,r',sm,px,he,k⟩;obtain⟨ds,e1,he⟩:=map_some (show(items d).map _=some r' from he);subst he;obtain⟨p,ys,rfl,hq,rs⟩:=px.items sm e1;exact ud pins s σ H xs us Q I r ⟨p,ys,hx,hq,by rw[rs.length];exact cC.dJ sm (bJ _) k⟩
theorem IK:dq X (.type "tuple") (DR X.K fun x=>blt .tuple [x]):=by rintro pins s σ H xs us Q I r⟨x,hx,F,d,r',sm,px,he,k⟩;obtain⟨ds,e1,he⟩:=map_some (show(items d).map _=some r' from he);subst he;cases d with|tup es=>cases e1;obtain⟨a,ys,rfl,hq,rs,rt⟩:=px.tup sm;exact jK pins s σ H xs us Q I r ⟨a,ys,hx,.inr ⟨hq,cC.dJ sm rt k⟩⟩|lst es=>cases e1;obtain⟨a,ys,rfl,hq,rs⟩:=px.lst sm;exact jK pins s σ H xs us Q I r ⟨a,ys,hx,.inl ⟨hq,fun l hl=>BW sm rs hl k⟩⟩|_=>cases e1
theorem o4{x:Str}{p':Pos}(hx:x="len")(hg:Gl X x)(hm:X.mg x=none)(ha:SX X c a pa)(hs:starEach [a] X.env=(false,eval a X.env)::starEach [] X.env:=by rfl):SX X c (.Call (.Name x p') [a] [] pos) (.blt .len [pa]):=by subst hx;exact jL (fun h=>dG VP hg hm PySem.boot_len h (he:=hs)) ha (fun ρ=>rfl) rfl hs
theorem fu{x:Str}{p':Pos}(hx:x="tuple")(hg:Gl X x)(hm:X.mg x=none)(ha:SX X c a pa)(hs:starEach [a] X.env=(false,eval a X.env)::starEach [] X.env:=by rfl):SX X c (.Call (.Name x p') [a] [] pos) (.blt .tuple [pa]):=by subst hx;exact jL (fun h=>mF IK hg hm (by decide+kernel) h (he:=hs)) ha (fun ρ=>rfl) rfl hs
end
end HH
end
section
namespace HH
open PySem L2 PySem.Spec PyProof.Rows
noncomputable def j6(K:PySem.W.Frag)(np:Nat)(f:List Sl->Res R):Sp:=fun vs H Q _=>vs.length=np/\∃F args r args',GS K F args (vs.map some) H/\f args=.ok r args'/\∀v F' σ' H',bF K F args (vs.map some) H F' args' σ' H'->cI K F' args' σ' H' args (vs.map some) H v r->Q v H'
section
variable{K:PySem.W.Frag}
noncomputable def yd(K:PySem.W.Frag)(F:Hp)(ρ:List Sl)(σ:L2.St)(H:Hp)(ρ₀:List Sl)(H₀:Hp)(v:V):Arg->Prop|.dat d=>Rep K F v d|.tmp ds=>∃x xs,v=.ref x/\H x=some (.lst xs)/\F x=none/\aL K F xs ds/\¬ Own ρ σ x/\(Own ρ₀ σ x\/H₀ x=none)|.fJ i=>σ[i]?=some (some v)
structure uI(K:PySem.W.Frag)(F:Hp)(ρ:List Sl)(σ:L2.St)(H:Hp)(ρ₀:List Sl)(H₀:Hp)(as:List Arg)(vs:List V):Prop where
 len:as.length=vs.length
 one:∀(j:Nat)(a:Arg)(v:V),as[j]?=some a->vs[j]?=some v->yd K F ρ σ H ρ₀ H₀ v a
 dis:∀(j k:Nat)(ds es:List D)(x:Addr),as[j]?=some (.tmp ds)->as[k]?=some (.tmp es)->vs[j]?=some (.ref x)->vs[k]?=some (.ref x)->j=k
theorem yd.later{F F' H H' H₀:Hp}{ρ ρ' ρ₀:List Sl}{σ:L2.St}{v:V}{a:Arg}(s:bF K F ρ σ H F' ρ' σ H')(h:yd K F ρ σ H ρ₀ H₀ v a):yd K F' ρ' σ H' ρ₀ H₀ v a:=by cases a with|dat d=>exact Rep.mono s.bK h|fJ i=>exact h|tmp ds=>
   obtain⟨x,xs,h1,h2,h3,h4,h5,h6⟩:=h;refine⟨x,xs,h1,s.keep x _ h2 h5,?_,h4.mono s.bK,fun o=>?_,h6⟩;.cases q:F' x with|none=>rfl|some o=>
       rcases s.wG x h3 (by rw[q];simp)with z|z;.exact absurd z h5
       .exact(FW h2 z).elim
   . rcases s.uh x o with z|z;.exact h5 z
     .rw[h2]at z;cases z
theorem uI.nil{F H H₀:Hp}{ρ ρ₀:List Sl}{σ:L2.St}:uI K F ρ σ H ρ₀ H₀ [] []:=⟨rfl,fun j a v h=>by simp at h,fun j k ds es x h=>by simp at h⟩
theorem uI.cons{F H H₀:Hp}{ρ ρ₀:List Sl}{σ:L2.St}{a:Arg}{v:V}{as:List Arg}{vs:List V}(h:yd K F ρ σ H ρ₀ H₀ v a)(t:uI K F ρ σ H ρ₀ H₀ as vs)(hd:∀ds x,a=.tmp ds->v=.ref x->∀(k:Nat)es,as[k]?=some (.tmp es)->vs[k]?≠some (.ref x)):uI K F ρ σ H ρ₀ H₀ (a::as) (v::vs):=by
 refine⟨by simp[t.len],fun j b u h1 h2=>?_,fun j k ds es x h1 h2 h3 h4=>?_⟩;.cases j with|zero=>simp at h1 h2;subst h1;subst h2;exact h|succ j=>exact t.one j b u (by simpa using h1) (by simpa using h2)
 .cases j with
   |zero=>cases k with|zero=>rfl|succ k=>simp at h1 h3;exact absurd (by simpa using h4) (hd ds x h1 h3 k es (by simpa using h2))
   |succ j=>cases k with|zero=>simp at h2 h4;exact absurd (by simpa using h3) (hd es x h2 h4 j ds (by simpa using h1))|succ k=>rw[t.dis j k ds es x (by simpa using h1) (by simpa using h2) (by simpa using h3) (by simpa using h4)]
noncomputable def Dq(ρ:List Sl):Arg->Sl->Prop|.dat d,s=>s=.val false d|.tmp ds,s=>s=.own false ds|.fJ i,s=>(∃b d,ρ[i]?=some (.val b d)/\s=.val false d)\/(∃b ds,ρ[i]?=some (.own b ds)/\s=.own true ds)\/∃ds,ρ[i]?=some (.lent ds)/\s=.lent ds
theorem pG{ρ:List Sl}:∀{as:List Arg}{used:List Nat}{args:List Sl},bO ρ as used=some args->args.length=as.length/\(∀(j:Nat)(a:Arg)(s:Sl),as[j]?=some a->args[j]?=some s->Dq ρ a s)/\(∀(j:Nat)(i:Nat)(s:Sl)ds,as[j]?=some (.fJ i)->args[j]?=some s->lst? s=some ds->i∉used)/\(∀(j k:Nat)(i:Nat)(s t:Sl)ds es,as[j]?=some (.fJ i)->as[k]?=some (.fJ i)->args[j]?=some s->args[k]?=some t->lst? s=some ds->lst? t=some es->j=k)
 |[],used,args,h=>by rw[bO]at h;cases h;exact⟨rfl,fun j a s h=>by simp at h,fun j i s ds h=>by simp at h,fun j k i s t ds es h=>by simp at h⟩|a::as,used,args,h=>by--the abd slot,the abe
   have key:∃s0 r wH,args=s0::r/\bO ρ as wH=some r/\Dq ρ a s0/\((∃i ds,a=.fJ i/\lst? s0=some ds/\wH=i::used/\i∉used)\/((∀i ds,a=.fJ i->lst? s0≠some ds)/\wH=used)):=by cases a with|dat d=>rw[bO]at h;obtain⟨r,e1,e2⟩:=map_some h;exact⟨_,r,used,e2.symm,e1,rfl,.inr ⟨fun i ds z=>(by cases z),rfl⟩⟩|tmp d=>rw[bO]at h;obtain⟨r,e1,e2⟩:=map_some h;exact⟨_,r,used,e2.symm,e1,rfl,.inr ⟨fun i ds z=>(by cases z),rfl⟩⟩|fJ i=>
      rw[bO]at h;split at h;.rename_i b d q;obtain⟨r,e1,e2⟩:=map_some h;exact⟨_,r,used,e2.symm,e1,.inl ⟨b,d,q,rfl⟩,.inr ⟨fun _ _ _ z=>(by cases z),rfl⟩⟩
      . rename_i b ds q;split at h;.cases h
        .rename_i hu;obtain⟨r,e1,e2⟩:=map_some h;exact⟨_,r,_,e2.symm,e1,.inr (.inl ⟨b,ds,q,rfl⟩),.inl ⟨i,_,rfl,rfl,rfl,by simpa using hu⟩⟩
      . rename_i ds q;split at h;.cases h
        .rename_i hu;obtain⟨r,e1,e2⟩:=map_some h;exact⟨_,r,_,e2.symm,e1,.inr (.inr ⟨ds,q,rfl⟩),.inl ⟨i,_,rfl,rfl,rfl,by simpa using hu⟩⟩
      .cases h
   obtain⟨s0,r,wH,rfl,hr,hs0,hu⟩:=key;obtain⟨l1,l2,l3,l4⟩:=pG hr;have sub:∀i,i∉wH->i∉used:=fun i hi hm=>by
    rcases hu with⟨_,_,_,_,rfl,_⟩|⟨_,rfl⟩;.exact hi (List.mem_cons_of_mem _ hm)
    .exact hi hm
   refine⟨by simp[l1],fun j b s h1 h2=>?_,fun j i s ds h1 h2 h3=>?_,fun j k i s t ds es h1 h2 h3 h4 h5 h6=>?_⟩;.cases j with|zero=>simp at h1 h2;subst h1;subst h2;exact hs0|succ j=>exact l2 j b s (by simpa using h1) (by simpa using h2)
   .cases j with|zero=>
       simp at h1 h2;subst h1;subst h2;rcases hu with⟨i',_,e,_,_,hn⟩|⟨hn,_⟩;.cases e;exact hn
       .exact absurd h3 (hn i ds rfl)|succ j=>exact sub i (l3 j i s ds (by simpa using h1) (by simpa using h2) h3)
   . have z0:∀(k:Nat)(t:Sl)es,a=.fJ i->lst? s0=some ds->(as[k]?=some (.fJ i))->r[k]?=some t->lst? t=some es->False:=fun k t es ea e0 hk ht he=>by
      rcases hu with⟨i',_,e,_,rfl,hn⟩|⟨hn,_⟩;.rw[ea]at e;cases e;exact l3 k i t es hk ht he List.mem_cons_self
      .exact hn i ds ea e0
     have z1:∀(k:Nat)(t:Sl)es,a=.fJ i->lst? s0=some es->(as[k]?=some (.fJ i))->r[k]?=some t->lst? t=some ds->False:=fun k t es ea e0 hk ht he=>by
      rcases hu with⟨i',_,e,_,rfl,hn⟩|⟨hn,_⟩;.rw[ea]at e;cases e;exact l3 k i t ds hk ht he List.mem_cons_self
      .exact hn i es ea e0
     cases j with
     |zero=>cases k with|zero=>rfl|succ k=>simp at h1 h3;subst h3;exact(z0 k t es h1 h5 (by simpa using h2) (by simpa using h4) h6).elim
     |succ j=>cases k with|zero=>simp at h2 h4;subst h4;exact(z1 j s es h2 h6 (by simpa using h1) (by simpa using h3) h5).elim|succ k=>rw[l4 j k i s t ds es (by simpa using h1) (by simpa using h2) (by simpa using h3) (by simpa using h4) h5 h6]
theorem uI.get{F H H₀:Hp}{ρ ρ₀:List Sl}{σ:L2.St}{as:List Arg}{vs:List V}(A:uI K F ρ σ H ρ₀ H₀ as vs){args:List Sl}{j:Nat}{s:Sl}(hl:args.length=as.length)(h:args[j]?=some s):∃a v,as[j]?=some a/\vs[j]?=some v/\yd K F ρ σ H ρ₀ H₀ v a:=by
 have hj:j<args.length:=(List.getElem?_eq_some_iff.mp h).1;have h1:j<as.length:=by omega
 have h2:j<vs.length:=by rw[<-A.len];exact h1
 exact⟨as[j],vs[j],by simp[h1],by simp[h2],A.one j _ _ (by simp[h1]) (by simp[h2])⟩
theorem args_gs{F H H₀:Hp}{ρ ρ₀:List Sl}{σ:L2.St}{as:List Arg}{vs:List V}{args:List Sl}(g:GS K F ρ σ H)(A:uI K F ρ σ H ρ₀ H₀ as vs)(h:bO ρ as []=some args):GS K F args (vs.map some) H:=by
 obtain⟨l1,l2,l3,l4⟩:=pG h;have up:∀{j:Nat}{v:V},vs[j]?=some v->(vs.map some)[j]?=some (some v):=fun e=>by rw[List.getElem?_map,e];rfl
 have dn:∀{j:Nat}{v:V},(vs.map some)[j]?=some (some v)->vs[j]?=some v:=fun{j v}e=>by rw[List.getElem?_map]at e;cases q:vs[j]?with|none=>rw[q]at e;cases e|some w=>rw[q]at e;cases e;rfl
 refine⟨g.sub,by rw[l1,A.len,List.length_map],fun j b d e=>?_,fun j s ds e e'=>?_,fun j k x⟨⟨s,ds,e1,e2⟩,e3⟩⟨⟨t,es,f1,f2⟩,f3⟩=>?_⟩;.obtain⟨a,v,h1,h2,h3⟩:=A.get l1 e;have h4:=l2 j a _ h1 e;refine⟨v,up h2,?_⟩;cases a with|dat d'=>cases h4;exact h3|tmp ds=>cases h4|fJ i=>
     rcases h4 with⟨b',d',q1,q2⟩|⟨_,_,_,q2⟩|⟨_,_,q2⟩;.cases q2;obtain⟨w,q3,q4⟩:=g.val i b' d q1;have h3:σ[i]?=some (some v):=h3;rw[h3]at q3;cases q3;exact q4
     .cases q2
     .cases q2
 .obtain⟨a,v,h1,h2,h3⟩:=A.get l1 e;have h4:=l2 j a _ h1 e;cases a with|dat d'=>cases h4;cases e'|tmp es=>cases h4;cases e';obtain⟨x,xs,rfl,q2,q3,q4,_⟩:=h3;exact⟨x,_,up h2,q2,q3,xs,rfl,q4⟩|fJ i=>
     have h3:σ[i]?=some (some v):=h3;rcases h4 with⟨b',d',q1,q2⟩|⟨b',es,q1,q2⟩|⟨es,q1,q2⟩;.cases q2;cases e'
     .cases q2;cases e';obtain⟨x,xs,q3,q4⟩:=g.own i _ _ q1 rfl;rw[h3]at q3;cases q3;exact⟨x,xs,up h2,q4⟩
     .cases q2;cases e';obtain⟨x,xs,q3,q4⟩:=g.own i _ _ q1 rfl;rw[h3]at q3;cases q3;exact⟨x,xs,up h2,q4⟩
 . obtain⟨a,v,h1,h2,h3⟩:=A.get l1 e1;obtain⟨a',v',h1',h2',h3'⟩:=A.get l1 f1;have e3:=dn e3;have f3:=dn f3;rw[h2]at e3;cases e3;rw[h2']at f3;cases f3;have s1:=l2 j a _ h1 e1;have s2:=l2 k a' _ h1' f1;have nm:∀{i:Nat}{s:Sl}{ds:Oc},lst? s=some ds->Dq ρ (.fJ i) s->∃s' ds',ρ[i]?=some s'/\lst? s'=some ds':=fun{i s ds}l z=>by
    rcases z with⟨_,_,_,z⟩|⟨b,es,q,_⟩|⟨es,q,_⟩;.subst z;cases l
    .exact⟨_,_,q,rfl⟩
    .exact⟨_,_,q,rfl⟩
   cases a with
   |dat d=>cases s1;cases e2|tmp Rc=>cases a' with|dat d=>cases s2;cases f2|tmp KC=>exact A.dis j k Rc KC x h1 h1' h2 h2'|fJ i=>obtain⟨y,_,q1,_,_,_,q2,_⟩:=h3;cases q1;obtain⟨s',ds',q3,q4⟩:=nm f2 s2;exact absurd ⟨i,⟨s',ds',q3,q4⟩,h3'⟩ q2
   |fJ i=>obtain⟨s',ds',q3,q4⟩:=nm e2 s1;cases a' with|dat d=>cases s2;cases f2|tmp KC=>obtain⟨y,_,q1,_,_,_,q2,_⟩:=h3';cases q1;exact absurd ⟨i,⟨s',ds',q3,q4⟩,h3⟩ q2|fJ i'=>obtain⟨s'',abf,q5,q6⟩:=nm f2 s2;have:=g.dis i i' x ⟨⟨s',ds',q3,q4⟩,h3⟩ ⟨⟨s'',abf,q5,q6⟩,h3'⟩;subst this;exact l4 j k i s t ds es h1 h1' e1 f1 e2 f2
theorem mj{as:List Arg}{ss:List Sl}:∀(ρ:List Sl)(n i:Nat),(cQ as ss n ρ)[i]?=(ρ[i]?).map fun s=>fV s (aZ (n+i) as ss)
 |[],n,i=>by simp[cQ]|s::ρ,n,0=>by simp[cQ]|s::ρ,n,i+1=>by
   rw[cQ];simp only[List.getElem?_cons_succ];rw[mj ρ (n+1) i];have:n+1+i=n+(i+1):=by omega
   rw[this]
theorem my{as:List Arg}{ss:List Sl}:∀(ρ:List Sl)(n:Nat),(cQ as ss n ρ).length=ρ.length|[],n=>rfl|s::ρ,n=>by rw[cQ];simp[my ρ]
theorem ir{i:Nat}:∀{as:List Arg}{ss:List Sl}{t:Sl},aZ i as ss=some t->∃j:Nat,as[j]?=some (.fJ i)/\ss[j]?=some t
 |[],_,_,h=>by simp[aZ]at h|a::as,[],_,h=>by cases a<;>simp[aZ]at h|a::as,s::ss,t,h=>by
   have tl:aZ i as ss=some t->∃j:Nat,(a::as)[j]?=some (.fJ i)/\(s::ss)[j]?=some t:=fun h=>by obtain⟨j,h1,h2⟩:=ir h;exact⟨j+1,by simpa using h1,by simpa using h2⟩
   cases a with|dat d=>exact tl (by simpa[aZ]using h)|tmp d=>exact tl (by simpa[aZ]using h)|fJ k=>
     rw[aZ]at h;split at h;.rename_i hk;cases h;subst hk;exact⟨0,rfl,rfl⟩
     .exact tl h
theorem jU{i:Nat}:∀{as:List Arg}{ss:List Sl},as.length=ss.length->aZ i as ss=none->∀j:Nat,as[j]?≠some (.fJ i)
 |[],_,_,_=>fun j h=>by simp at h|a::as,[],hl,_=>by simp at hl|a::as,s::ss,hl,h=>fun j hj=>by
   have hl':as.length=ss.length:=by simpa using hl
   have tl:aZ i as ss=none/\a≠.fJ i:=by cases a with|dat d=>exact⟨by simpa[aZ]using h,by simp⟩|tmp d=>exact⟨by simpa[aZ]using h,by simp⟩|fJ k=>
      rw[aZ]at h;split at h;.cases h
      .rename_i hk;exact⟨h,fun e=>hk (by cases e;rfl)⟩
   cases j with|zero=>simp at hj;exact tl.2 hj|succ j=>exact jU hl' tl.1 j (by simpa using hj)
theorem Gb{F₀ H₀ F H F' H':Hp}{ρ₀ ρ args args':List Sl}{σ σ':L2.St}{as:List Arg}{vs:List V}(s0:bF K F₀ ρ₀ σ H₀ F ρ σ H)(A:uI K F ρ σ H ρ₀ H₀ as vs)(hb:bO ρ as []=some args)(s:bF K F args (vs.map some) H F' args' σ' H'):bF K F₀ ρ₀ σ H₀ F' (cQ as args' 0 ρ) σ H'/\∀v r,cI K F' args' σ' H' args (vs.map some) H v r->cI K F' (cQ as args' 0 ρ) σ H' ρ₀ σ H₀ v r:=by
 have g:=s0.gs;obtain⟨l1,l2,l3,l4⟩:=pG hb;have up:∀{j:Nat}{v:V},vs[j]?=some v->(vs.map some)[j]?=some (some v):=fun e=>by rw[List.getElem?_map,e];rfl
 have dn:∀{j:Nat}{v:V},(vs.map some)[j]?=some (some v)->vs[j]?=some v:=fun{j v}e=>by rw[List.getElem?_map]at e;cases q:vs[j]?with|none=>rw[q]at e;cases e|some w=>rw[q]at e;cases e;rfl
 have la:as.length=args'.length:=by rw[s.len,l1]--whose are the lists that the callee holds
 have own:∀b,Own args (vs.map some) b->(∃(j:Nat)(ds:List D),as[j]?=some (Arg.tmp ds)/\vs[j]?=some (V.ref b)/\¬ Own ρ σ b/\(Own ρ₀ σ b\/H₀ b=none))\/Own ρ σ b:=fun b⟨j,⟨sl,ds,e1,e2⟩,e3⟩=>by obtain⟨a,v,h1,h2,h3⟩:=A.get l1 e1;have s1:=l2 j a _ h1 e1;have e3:=dn e3;rw[h2]at e3;cases e3;cases a with|dat d=>cases s1;cases e2|tmp es=>obtain⟨x,_,q1,_,_,_,q2,q3⟩:=h3;cases q1;exact .inl ⟨j,es,h1,h2,q2,q3⟩|fJ i=>
    right;rcases s1 with⟨_,_,_,z⟩|⟨b',es,q,_⟩|⟨es,q,_⟩;.subst z;cases e2
    .exact⟨i,⟨_,_,q,rfl⟩,h3⟩
    .exact⟨i,⟨_,_,q,rfl⟩,h3⟩
 have back:∀b,Own ρ σ b\/H b=none->Own ρ₀ σ b\/H₀ b=none:=fun b h=>by
  rcases h with h|h;.exact s0.uh b h
  . by_cases ho:Own ρ₀ σ b;.exact .inl ho
    .right;cases e:H₀ b with|none=>rfl|some o=>rw[s0.keep b o e ho]at h;cases h
 have own':∀b,Own args (vs.map some) b->Own ρ₀ σ b\/H₀ b=none:=fun b h=>by
  rcases own b h with⟨_,_,_,_,_,z⟩|z;.exact z
  .exact back b (.inl z)--a name's slot behind the call
 have slot:∀{i:Nat}{t:Sl},(cQ as args' 0 ρ)[i]?=some t->∃s1,ρ[i]?=some s1/\t=fV s1 (aZ i as args'):=fun{i t}h=>by rw[mj]at h;obtain⟨s1,e1,e2⟩:=map_some h;exact⟨s1,e1,by rw[<-e2,Nat.zero_add]⟩
 have WY:∀{i:Nat}{s1:Sl},ρ[i]?=some s1->(cQ as args' 0 ρ)[i]?=some (fV s1 (aZ i as args')):=fun{i s1}h=>by rw[mj,h,Nat.zero_add];rfl--what the callee left of a list that was lent to it
 have lent:∀{i j:Nat}{s1 t:Sl}{ds:List D},ρ[i]?=some s1->lst? s1=some (.l ds)->as[j]?=some (.fJ i)->args'[j]?=some t->∃v s2,σ[i]?=some (some v)/\σ'[j]?=some (some v)/\args[j]?=some s2/\kY s2 t/\((∃b,s1=.own b ds/\s2=.own true ds)\/(s1=.lent ds/\s2=.lent ds)):=fun{i j s1 t ds}h1 h2 h3 h4=>by
  have hj:j<args.length:=by rw[l1];exact(List.getElem?_eq_some_iff.mp h3).1
  have e1:args[j]?=some args[j]:=by simp[hj]
  obtain⟨a,v,q1,q2,q3⟩:=A.get l1 e1;rw[h3]at q1;cases q1;have q4:=l2 j _ _ h3 e1;have kind:(∃b,s1=.own b ds/\args[j]=.own true ds)\/(s1=.lent ds/\args[j]=.lent ds):=by
   rcases q4 with⟨_,_,z,_⟩|⟨b,es,z,z'⟩|⟨es,z,z'⟩;.rw[h1]at z;cases z;cases h2
   .rw[h1]at z;cases z;cases h2;exact .inl ⟨b,rfl,z'⟩
   .rw[h1]at z;cases z;cases h2;exact .inr ⟨rfl,z'⟩
  have lk:uA args[j]=true:=by rcases kind with⟨_,_,z⟩|⟨_,z⟩<;>rw[z]<;>rfl
  obtain⟨z1,s',z2,z3⟩:=s.lk j _ e1 lk;rw[h4]at z2;cases z2;exact⟨v,_,q3,by rw[z1];exact up q2,e1,z3,kind⟩
 have KD:∀{i:Nat}{x:Addr},bA (cQ as args' 0 ρ) σ i x->bA ρ σ i x:=fun{i x}⟨⟨t,ds,e1,e2⟩,e3⟩=>by obtain⟨s1,q1,q2⟩:=slot e1;refine⟨?_,e3⟩;cases s1 with|au=>subst q2;cases e2|val b d=>subst q2;cases e2|own b es=>exact⟨_,_,q1,rfl⟩|lent es=>exact⟨_,_,q1,rfl⟩|cM m=>exact⟨_,_,q1,rfl⟩|hold _=>subst q2;cases e2
 refine⟨?_,fun v r h=>?_⟩;rotate_left;.cases r with|val d=>exact h|own ds=>
     obtain⟨x,xs,h1,h2,h3,h4,h5,h6⟩:=h;refine⟨x,xs,h1,h2,h3,h4,fun⟨i,h⟩=>?_,?_⟩
     . have hO:=KD h;obtain⟨⟨s1,Rc,q1,q2⟩,q3⟩:=hO;obtain⟨x',xs',w1,w2,_⟩:=g.own i s1 Rc q1 q2;rw[q3]at w1;cases w1;rcases h6 with h6|h6
       . rcases own x h6 with⟨_,_,_,_,z,_⟩|_;.exact z ⟨i,⟨s1,Rc,q1,q2⟩,q3⟩
         .--a name was lent
           obtain⟨j,⟨sl,es,w3,w4⟩,w5⟩:=h6;obtain⟨a',v',y1,y2,y3⟩:=A.get l1 w3;have sa:=l2 j a' _ y1 w3;have w5:=dn w5;rw[y2]at w5;cases w5;cases a' with|dat d=>cases sa;cases w4|tmp es'=>obtain⟨_,_,u1,_,_,_,u2,_⟩:=y3;cases u1;exact u2 ⟨i,⟨s1,Rc,q1,q2⟩,q3⟩|fJ i'=>
             have ex:∃s' ds',ρ[i']?=some s'/\lst? s'=some ds':=by
              rcases sa with⟨_,_,_,z⟩|⟨b,es,q,_⟩|⟨es,q,_⟩;.subst z;cases w4
              .exact⟨_,_,q,rfl⟩
              .exact⟨_,_,q,rfl⟩
             have:=g.dis i i' x ⟨⟨s1,Rc,q1,q2⟩,q3⟩ ⟨ex,y3⟩;subst this;have hk:∃KC,Rc=.l KC:=by
              rcases sa with⟨_,_,_,z⟩|⟨b,es,q,_⟩|⟨es,q,_⟩;.subst z;cases w4
              .rw[q1]at q;cases q;cases q2;exact⟨_,rfl⟩
              .rw[q1]at q;cases q;cases q2;exact⟨_,rfl⟩
             obtain⟨KC,rfl⟩:=hk;have hj:j<args'.length:=by rw[<-la];exact(List.getElem?_eq_some_iff.mp y1).1
             have e':args'[j]?=some args'[j]:=by simp[hj]
             obtain⟨v2,s2,u1,u2,u3,u4,u5⟩:=lent q1 q2 y1 e';rw[q3]at u1;cases u1--the slot behind the call is a list's
             obtain⟨⟨t,dt,t1,t2⟩,_⟩:=h;obtain⟨s3,t3,t4⟩:=slot t1;rw[q1]at t3;cases t3;have lo:∃t5,aZ i as args'=some t5:=by cases hl:aZ i as args' with|none=>exact absurd y1 (jU la hl j)|some t5=>exact⟨t5,rfl⟩
             obtain⟨t5,hl⟩:=lo;obtain⟨j2,t6,t7⟩:=ir hl;have hj2:j2<args.length:=by rw[l1];exact(List.getElem?_eq_some_iff.mp t6).1
             obtain⟨_,s6,_,v2',v3',v4',v5'⟩:=lent q1 q2 t6 t7;have l4':j2=j:=by
              have a1:lst? s6=some (.l KC):=by rcases v5' with⟨_,_,z⟩|⟨_,z⟩<;>rw[z]<;>rfl
              have a2:lst? s2=some (.l KC):=by rcases u5 with⟨_,_,z⟩|⟨_,z⟩<;>rw[z]<;>rfl
              exact l4 j2 j i s6 s2 _ _ t6 y1 v3' u3 a1 a2
             subst l4';rw[e']at t7;cases t7;rw[hl]at t4;refine h5 ⟨j2,?_,u2⟩;rcases u5 with⟨b,z1,z2⟩|⟨z1,z2⟩
             . subst z1;subst z2;rcases u4 with⟨d2,z⟩|⟨d2,z⟩;.exact⟨_,.l d2,e',by rw[z];rfl⟩
               .rw[z]at t4;subst t4;cases t2
             .subst z1;subst z2;exact⟨_,.l KC,e',by rw[show args'[j2]=.lent KC from u4];rfl⟩
       .rw[w2]at h6;cases h6
     . rcases h6 with h6|h6;.exact own' x h6
       .exact back x (.inr h6)
 refine⟨⟨s.gs.sub,by rw[my];exact g.len,fun i b d e=>?_,fun i t ds e e'=>?_,fun i j x h1 h2=>g.dis i j x (KD h1) (KD h2)⟩,s0.bK.trans s.bK,fun b n n'=>?_,fun b o h n=>?_,fun b⟨i,h⟩=>back b (.inl ⟨i,KD h⟩),by rw[my];exact s0.len,fun i s1 h l=>?_⟩;.--data
   obtain⟨s1,q1,q2⟩:=slot e;cases s1 with|au=>cases q2|lent es=>cases q2|cM _=>cases q2|hold _=>cases q2|val b' d'=>cases q2;obtain⟨v,z1,z2⟩:=g.val i b d q1;exact⟨v,z1,z2.mono s.bK⟩|own b' es=>cases hl:aZ i as args' with|none=>rw[hl]at q2;cases q2|some t=>rw[hl]at q2;obtain⟨j,z1,z2⟩:=ir hl;obtain⟨v,s2,y1,y2,y3,y4,y5⟩:=lent q1 rfl z1 z2;cases t with|au=>cases q2|own _ _=>cases q2|lent _=>cases q2|cM _=>cases q2|hold _=>cases q2|val b2 d2=>cases q2;obtain⟨w,x1,x2⟩:=s.gs.val j b2 d z2;rw[y2]at x1;cases x1;exact⟨v,y1,x2⟩
 .--lists
   obtain⟨s1,q1,q2⟩:=slot e--a list that was not lent
   have stay:∀es,lst? s1=some es->(∀j:Nat,as[j]?≠some (.fJ i))->t=s1->∃(a:Addr)(xs:HO),σ[i]?=some (some (V.ref a))/\H' a=some xs/\F' a=none/\rm K F' xs ds:=fun es he hn ht=>by
    subst ht;rw[he]at e';cases e';obtain⟨a,xs,z1,z2,z3,z4⟩:=g.own i _ ds q1 he;have no:¬ Own args (vs.map some) a:=fun h=>by obtain⟨j,⟨sl,es,w1,w2⟩,w3⟩:=h;obtain⟨a',v,h1,h2,h3⟩:=A.get l1 w1;have sa:=l2 j a' _ h1 w1;have w3:=dn w3;rw[h2]at w3;cases w3;cases a' with|dat d=>cases sa;cases w2|tmp es=>obtain⟨x,_,y1,_,_,_,y2,_⟩:=h3;cases y1;exact y2 ⟨i,⟨_,ds,q1,he⟩,z1⟩|fJ i'=>
       have:∃s' ds',ρ[i']?=some s'/\lst? s'=some ds':=by
        rcases sa with⟨_,_,_,z⟩|⟨b,es,q,_⟩|⟨es,q,_⟩;.subst z;cases w2
        .exact⟨_,_,q,rfl⟩
        .exact⟨_,_,q,rfl⟩
       have:=g.dis i i' a ⟨⟨_,ds,q1,he⟩,z1⟩ ⟨this,h3⟩;subst this;exact hn j h1
    refine⟨a,xs,z1,s.keep a _ z2 no,?_,z4.mono s.bK⟩;cases q:F' a with|none=>rfl|some o=>
      rcases s.wG a z3 (by rw[q];simp)with z|z;.exact absurd z no
      .rw[z2]at z;exact(G3 z4 z).elim
   cases hl:aZ i as args' with
   |none=>have hn:=jU la hl;rw[hl]at q2;cases s1 with|au=>subst q2;cases e'|val b' d'=>subst q2;cases e'|own b' es=>exact stay _ rfl hn q2|lent es=>exact stay _ rfl hn q2|cM m=>exact stay _ rfl hn q2|hold _=>subst q2;cases e'
   |some t2=>rw[hl]at q2;obtain⟨j,z1,z2⟩:=ir hl;cases s1 with
     |au=>subst q2;cases e'|val b' d'=>subst q2;cases e'|hold _=>subst q2;cases e'|cM m=>
       have hj:j<args.length:=by rw[l1];exact(List.getElem?_eq_some_iff.mp z1).1
       rcases l2 j _ _ z1 (show args[j]?=some args[j]by simp[hj])with⟨_,_,z,_⟩|⟨_,_,z,_⟩|⟨_,z,_⟩<;>(rw[q1]at z;cases z)|own b' es=>
       obtain⟨v,s2,y1,y2,y3,y4,y5⟩:=lent q1 rfl z1 z2;have:t2≠.au/\∀x,t2≠.lent x:=by
        rcases y5 with⟨_,_,y5⟩|⟨y5,_⟩;.subst y5;rcases y4 with⟨_,rfl⟩|⟨_,rfl⟩<;>simp
        .cases y5
       cases t2 with
       |au=>exact absurd rfl this.1|hold x=>
         rcases y5 with⟨_,_,y5⟩|⟨y5,_⟩;.subst y5;rcases y4 with⟨_,h⟩|⟨_,h⟩<;>cases h
         .cases y5|cM x=>
         rcases y5 with⟨_,_,y5⟩|⟨y5,_⟩;.subst y5;rcases y4 with⟨_,h⟩|⟨_,h⟩<;>cases h
         .cases y5|lent x=>exact absurd rfl (this.2 x)|val b2 d2=>subst q2;cases e'|own b2 es2=>subst q2;cases e';obtain⟨a,xs,x1,x2⟩:=s.gs.own j _ _ z2 rfl;rw[y2]at x1;cases x1;exact⟨a,xs,y1,x2⟩
     |lent es=>
       obtain⟨v,s2,y1,y2,y3,y4,y5⟩:=lent q1 rfl z1 z2;have ht:t=.lent es:=by rw[q2];cases t2<;>rfl
       subst ht;cases e';rcases y5 with⟨_,y5,_⟩|⟨_,y5⟩;.cases y5
       .subst y5;cases(show t2=.lent es from y4);obtain⟨a,xs,x1,x2⟩:=s.gs.own j _ _ z2 rfl;rw[y2]at x1;cases x1;exact⟨a,xs,y1,x2⟩
 . by_cases q:F b=none
   . rcases s.wG b q n' with z|z;.exact(own' b z).imp id jy
     . by_cases ho:Own ρ₀ σ b;.exact .inl ho
       .right;cases q2:H₀ b with|none=>rfl|some o=>rw[s0.keep b o q2 ho]at z;exact z
   .exact s0.wG b n q
 . refine s.keep b o (s0.keep b o h n) fun z=>?_;rcases own' b z with z|z;.exact n z
   .rw[h]at z;cases z
 .obtain⟨e1,s2,h2,k2⟩:=s0.lk i s1 h l;refine⟨e1,_,WY h2,?_⟩;have W0:=k2.uA l;refine kY.trans l k2 ?_;cases s2 with
   |au=>cases W0|cM _=>cases W0|hold _=>exact kY.refl _|val b d=>exact kY.refl _|lent es=>cases aZ i as args' with|none=>rfl|some t=>cases t<;>rfl
   |own b es=>cases b with|false=>cases W0|true=>cases aZ i as args' with|none=>exact .inl ⟨_,rfl⟩|some t=>cases t with|au=>exact .inl ⟨_,rfl⟩|lent _=>exact .inl ⟨_,rfl⟩|cM _=>exact .inl ⟨_,rfl⟩|hold _=>exact .inl ⟨_,rfl⟩|own _ ds=>exact .inl ⟨_,rfl⟩|val _ d=>exact .inr ⟨_,rfl⟩
theorem uI.rebase{F1 H1 F2 H2 F H:Hp}{ρ ρ1 ρ2:List Sl}{σ:L2.St}{as:List Arg}{vs:List V}(a:bF K F ρ σ H F1 ρ1 σ H1)(A:uI K F2 ρ2 σ H2 ρ1 H1 as vs):uI K F2 ρ2 σ H2 ρ H as vs:=by refine⟨A.len,fun j b v h1 h2=>?_,A.dis⟩;have h:=A.one j b v h1 h2;cases b with|dat d=>exact h|fJ i=>exact h|tmp ds=>
   obtain⟨x,xs,q1,q2,q3,q4,q5,q6⟩:=h;refine⟨x,xs,q1,q2,q3,q4,q5,?_⟩;rcases q6 with q6|q6;.exact a.uh x q6
   . by_cases ho:Own ρ σ x;.exact .inl ho
     .right;cases e:H x with|none=>rfl|some o=>rw[a.keep x o e ho]at q6;cases q6
theorem uI.VF{F1 H1 F2 H2 F H:Hp}{ρ ρ1 ρ2:List Sl}{σ:L2.St}{as:List Arg}{vs:List V}{v:V}{r:R}(s1:bF K F ρ σ H F1 ρ1 σ H1)(rr:cI K F1 ρ1 σ H1 ρ σ H v r)(s2:bF K F1 ρ1 σ H1 F2 ρ2 σ H2)(A:uI K F2 ρ2 σ H2 ρ1 H1 as vs):uI K F2 ρ2 σ H2 ρ H (uF r::as) (v::vs):=by
 have h1:yd K F1 ρ1 σ H1 ρ H v (uF r):=by cases r with|val d=>exact rr|own ds=>exact rr
 refine .cons (h1.later s2) (A.rebase s1) fun ds x ea ev k es ek evk=>?_;cases r with|val d=>cases ea|own ds'=>
   obtain⟨y,xs,q1,q2,q3,q4,q5,q6⟩:=rr;rw[ev]at q1;cases q1;have h:=A.one k _ _ ek evk;obtain⟨z,zs,w1,_,_,_,_,w6⟩:=h;cases w1;rcases w6 with w6|w6;.exact q5 w6
   .rw[q2]at w6;cases w6
end
end HH
end
section
namespace HH
open PySem L2 PySem.Spec PyProof.Rows
section
variable{K:PySem.W.Frag}{F F1 H H1:Hp}{ρ ρ1 ρ2:List Sl}{σ σ1:L2.St}
theorem iK{i:Nat}{s:Sl}(h:put ρ i s=some ρ1):∃s0,ρ[i]?=some s0/\uA s0=false/\ρ1=ρ.set i s:=by
 unfold put at h;split at h;.rename_i q;cases h;exact⟨_,q,rfl,rfl⟩
 .rename_i q;cases h;exact⟨_,q,rfl,rfl⟩
 .rename_i q;cases h;exact⟨_,q,rfl,rfl⟩
 .cases h
theorem bF.put{i:Nat}{v:V}{r:R}(s:bF K F ρ σ H F1 ρ1 σ1 H1)(rr:cI K F1 ρ1 σ1 H1 ρ σ H v r)(h:HH.put ρ1 i (v5 r)=some ρ2):bF K F ρ σ H F1 ρ2 (σ1.set i (some v)) H1:=by
 obtain⟨s0,h0,hl,rfl⟩:=iK h;have hi:i<ρ1.length:=(List.getElem?_eq_some_iff.mp h0).1;have hi':i<σ1.length:=by rw[<-s.gs.len];exact hi
 have old:∀{j:Nat}{a:Addr},j≠i->bA (ρ1.set i (v5 r)) (σ1.set i (some v)) j a->bA ρ1 σ1 j a:=fun{j a}hj⟨⟨t,ds,e1,e2⟩,e3⟩=>by rw[List.getElem?_set_ne (Ne.symm hj)]at e1 e3;exact⟨⟨t,ds,e1,e2⟩,e3⟩
 have new:∀{a:Addr},bA (ρ1.set i (v5 r)) (σ1.set i (some v)) i a->¬ Own ρ1 σ1 a/\(Own ρ σ a\/H a=none):=fun{a}⟨⟨t,ds,e1,e2⟩,e3⟩=>by rw[List.getElem?_set_self hi]at e1;rw[List.getElem?_set_self hi']at e3;cases e1;cases e3;cases r with|val d=>cases e2|own es=>obtain⟨x,xs,q1,q2,q3,q4,q5,q6⟩:=rr;cases q1;exact⟨q5,q6⟩
 refine⟨⟨s.gs.sub,by simp[s.gs.len],fun j b d e=>?_,fun j t ds e e'=>?_,fun j k a h1 h2=>?_⟩,s.bK,s.wG,s.keep,fun a⟨j,hj⟩=>?_,by simp[s.len],fun j t e l=>?_⟩
 . by_cases hj:j=i;.subst hj;rw[List.getElem?_set_self hi]at e;cases r with|own es=>cases e|val d'=>cases e;exact⟨v,List.getElem?_set_self hi',rr⟩
   .rw[List.getElem?_set_ne (Ne.symm hj)]at e ⊢;exact s.gs.val j b d e
 . by_cases hj:j=i;.subst hj;rw[List.getElem?_set_self hi]at e;cases r with|val d'=>cases e;cases e'|own es=>cases e;cases e';obtain⟨x,xs,rfl,q2,q3,q4,_⟩:=rr;exact⟨x,_,List.getElem?_set_self hi',q2,q3,xs,rfl,q4⟩
   .rw[List.getElem?_set_ne (Ne.symm hj)]at e ⊢;exact s.gs.own j t ds e e'
 . by_cases hj:j=i
   . by_cases hk:k=i;.rw[hj,hk]
     .subst hj;exact absurd ⟨k,old hk h2⟩ (new h1).1
   . by_cases hk:k=i;.subst hk;exact absurd ⟨j,old hj h1⟩ (new h2).1
     .exact s.gs.dis j k a (old hj h1) (old hk h2)
 . by_cases hji:j=i;.subst hji;exact(new hj).2
   .exact s.uh a ⟨j,old hji hj⟩
 . obtain⟨e1,t1,e2,e3⟩:=s.lk j t e l;have hj:j≠i:=by rintro rfl;rw[h0]at e2;cases e2;rw[e3.uA l]at hl;cases hl
   exact⟨by rw[List.getElem?_set_ne (Ne.symm hj)];exact e1,t1,by rw[List.getElem?_set_ne (Ne.symm hj)];exact e2,e3⟩
theorem GS.mut{x:Nat}{b:Bool}{ds es:List D}{a:Addr}{ys:List V}(g:GS K F ρ σ H)(e:ρ[x]?=some (.own b ds))(hx:σ[x]?=some (some (.ref a)))(r:aL K F ys es):bF K F ρ σ H F (ρ.set x (.own b es)) σ (upd H a (.lst ys)):=by
 have hi:x<ρ.length:=(List.getElem?_eq_some_iff.mp e).1;have oa:bA ρ σ x a:=⟨⟨_,_,e,rfl⟩,hx⟩;obtain⟨a',xs,h1,h2,h3,h4⟩:=g.tW x _ ds e rfl;rw[hx]at h1;cases h1;have old:∀{j:Nat}{c:Addr},bA (ρ.set x (.own b es)) σ j c->bA ρ σ j c:=fun{j c}⟨⟨t,dt,q1,q2⟩,q3⟩=>by
  by_cases hj:j=x;.subst hj;exact⟨⟨_,_,e,rfl⟩,q3⟩
  .rw[List.getElem?_set_ne (Ne.symm hj)]at q1;exact⟨⟨t,dt,q1,q2⟩,q3⟩
 refine⟨⟨fun c o q=>?_,by simp[g.len],fun j b' d q=>?_,fun j t dt q q'=>?_,fun j k c q1 q2=>g.dis j k c (old q1) (old q2)⟩,.refl _,fun c n n'=>absurd n n',fun c o q n=>?_,fun c⟨j,q⟩=>.inl ⟨j,old q⟩,by simp,fun j t q l=>⟨rfl,?_⟩⟩
 . have:c≠a:=by rintro rfl;rw[h3]at q;cases q
   rw[aK this];exact g.sub c o q
 . by_cases hj:j=x;.subst hj;rw[List.getElem?_set_self hi]at q;cases q
   .rw[List.getElem?_set_ne (Ne.symm hj)]at q;exact g.val j b' d q
 . by_cases hj:j=x;.subst hj;rw[List.getElem?_set_self hi]at q;cases q;cases q';exact⟨a,_,hx,aX,h3,ys,rfl,r⟩
   . rw[List.getElem?_set_ne (Ne.symm hj)]at q;obtain⟨c,zs,w1,w2,w3,w4⟩:=g.own j t dt q q';have:c≠a:=by rintro rfl;exact hj (g.dis j x c ⟨⟨t,dt,q,q'⟩,w1⟩ oa)
     exact⟨c,zs,w1,by rw[aK this];exact w2,w3,w4⟩
 . have:c≠a:=by rintro rfl;exact n ⟨x,oa⟩
   rw[aK this];exact q
 . by_cases hj:j=x;.subst hj;rw[e]at q;cases q;refine⟨_,List.getElem?_set_self hi,?_⟩;cases b with|true=>exact .inl ⟨_,rfl⟩|false=>cases l
   .exact⟨t,by rw[List.getElem?_set_ne (Ne.symm hj)];exact q,.refl t⟩
theorem GS.lend{i:Nat}{b:Bool}{ds:List D}(g:GS K F ρ σ H)(e:ρ[i]?=some (.own b ds)):GS K F (ρ.set i (.lent ds)) σ H:=by
 have hi:i<ρ.length:=(List.getElem?_eq_some_iff.mp e).1;have old:∀{j:Nat}{c:Addr},bA (ρ.set i (.lent ds)) σ j c->bA ρ σ j c:=fun{j c}⟨⟨t,dt,q1,q2⟩,q3⟩=>by
  by_cases hj:j=i;.subst hj;exact⟨⟨_,_,e,rfl⟩,q3⟩
  .rw[List.getElem?_set_ne (Ne.symm hj)]at q1;exact⟨⟨t,dt,q1,q2⟩,q3⟩
 refine⟨g.sub,by simp[g.len],fun j b' d q=>?_,fun j t dt q q'=>?_,fun j k c q1 q2=>g.dis j k c (old q1) (old q2)⟩
 . by_cases hj:j=i;.subst hj;rw[List.getElem?_set_self hi]at q;cases q
   .rw[List.getElem?_set_ne (Ne.symm hj)]at q;exact g.val j b' d q
 . by_cases hj:j=i;.subst hj;rw[List.getElem?_set_self hi]at q;cases q;cases q';exact g.own j _ _ e rfl
   .rw[List.getElem?_set_ne (Ne.symm hj)]at q;exact g.own j t dt q q'
theorem bF.bh{i:Nat}{b:Bool}{ds:List D}(g:GS K F ρ σ H)(e:ρ[i]?=some (.own b ds))(s:bF K F (ρ.set i (.lent ds)) σ H F1 ρ1 σ1 H1):bF K F ρ σ H F1 (ρ1.set i (.own b ds)) σ1 H1/\∀v r,cI K F1 ρ1 σ1 H1 (ρ.set i (.lent ds)) σ H v r->cI K F1 (ρ1.set i (.own b ds)) σ1 H1 ρ σ H v r:=by
 have hi:i<ρ.length:=(List.getElem?_eq_some_iff.mp e).1;have h1:(ρ.set i (.lent ds))[i]?=some (.lent ds):=List.getElem?_set_self hi;obtain⟨z1,s',z2,z3⟩:=s.lk i _ h1 rfl;cases(show s'=.lent ds from z3);have hi1:i<ρ1.length:=(List.getElem?_eq_some_iff.mp z2).1;have o1:∀{j:Nat}{c:Addr},bA (ρ.set i (.lent ds)) σ j c->bA ρ σ j c:=fun{j c}⟨⟨t,dt,q1,q2⟩,q3⟩=>by
  by_cases hj:j=i;.subst hj;exact⟨⟨_,_,e,rfl⟩,q3⟩
  .rw[List.getElem?_set_ne (Ne.symm hj)]at q1;exact⟨⟨t,dt,q1,q2⟩,q3⟩
 have o1':∀{c:Addr},Own ρ σ c->Own (ρ.set i (.lent ds)) σ c:=fun{c}⟨j,⟨t,dt,q1,q2⟩,q3⟩=>by
  by_cases hj:j=i;.subst hj;exact⟨j,⟨_,_,h1,rfl⟩,q3⟩
  .exact⟨j,⟨t,dt,by rw[List.getElem?_set_ne (Ne.symm hj)];exact q1,q2⟩,q3⟩
 have o2:∀{j:Nat}{c:Addr},bA (ρ1.set i (.own b ds)) σ1 j c->bA ρ1 σ1 j c:=fun{j c}⟨⟨t,dt,q1,q2⟩,q3⟩=>by
  by_cases hj:j=i;.subst hj;exact⟨⟨_,_,z2,rfl⟩,q3⟩
  .rw[List.getElem?_set_ne (Ne.symm hj)]at q1;exact⟨⟨t,dt,q1,q2⟩,q3⟩
 have w:∀{c:Addr}{h:Hp},Own (ρ.set i (.lent ds)) σ c\/h c=none->Own ρ σ c\/h c=none:=fun{c h}q=>q.imp (fun⟨j,q⟩=>⟨j,o1 q⟩) id;have w':∀{c:Addr}{h:Hp},Own (ρ.set i (.lent ds)) σ c\/nt (h c)=none->Own ρ σ c\/nt (h c)=none:=fun{c h}q=>q.imp (fun⟨j,q⟩=>⟨j,o1 q⟩) id;refine⟨⟨⟨s.gs.sub,by simp[s.gs.len],fun j b' d q=>?_,fun j t dt q q'=>?_,fun j k c q1 q2=>s.gs.dis j k c (o2 q1) (o2 q2)⟩,s.bK,fun c n n'=>w' (s.wG c n n'),fun c o q n=>s.keep c o q fun⟨j,x⟩=>n ⟨j,o1 x⟩,fun c⟨j,q⟩=>w (s.uh c ⟨j,o2 q⟩),by simpa using s.len,fun j t q l=>?_⟩,fun v r h=>?_⟩
 . by_cases hj:j=i;.subst hj;rw[List.getElem?_set_self hi1]at q;cases q
   .rw[List.getElem?_set_ne (Ne.symm hj)]at q;exact s.gs.val j b' d q
 . by_cases hj:j=i;.subst hj;rw[List.getElem?_set_self hi1]at q;cases q;cases q';exact s.gs.own j _ _ z2 rfl
   .rw[List.getElem?_set_ne (Ne.symm hj)]at q;exact s.gs.own j t dt q q'
 . by_cases hj:j=i;.subst hj;rw[e]at q;cases q;refine⟨z1,_,List.getElem?_set_self hi1,?_⟩;cases b with|true=>exact .inl ⟨_,rfl⟩|false=>cases l
   .obtain⟨y1,t',y2,y3⟩:=s.lk j t (by rw[List.getElem?_set_ne (Ne.symm hj)];exact q) l;exact⟨y1,t',by rw[List.getElem?_set_ne (Ne.symm hj)];exact y2,y3⟩
 .cases r with|val d=>exact h|own es=>obtain⟨x,xs,q1,q2,q3,q4,q5,q6⟩:=h;exact⟨x,xs,q1,q2,q3,q4,fun⟨j,q⟩=>q5 ⟨j,o2 q⟩,w q6⟩
theorem GS.give{i:Nat}{ds:List D}(g:GS K F ρ σ H)(e:ρ[i]?=some (.own false ds)):∃v,σ[i]?=some (some v)/\bF K F ρ σ H F (ρ.set i .au) σ H/\cI K F (ρ.set i .au) σ H ρ σ H v (.own ds):=by
 have hi:i<ρ.length:=(List.getElem?_eq_some_iff.mp e).1;obtain⟨a,xs,h1,h2,h3,h4⟩:=g.tW i _ ds e rfl;have old:∀{j:Nat}{c:Addr},bA (ρ.set i .au) σ j c->bA ρ σ j c/\j≠i:=fun{j c}⟨⟨t,dt,q1,q2⟩,q3⟩=>by
  by_cases hj:j=i;.subst hj;rw[List.getElem?_set_self hi]at q1;cases q1;cases q2
  .rw[List.getElem?_set_ne (Ne.symm hj)]at q1;exact⟨⟨⟨t,dt,q1,q2⟩,q3⟩,hj⟩
 have oa:bA ρ σ i a:=⟨⟨_,_,e,rfl⟩,h1⟩;refine⟨.ref a,h1,⟨⟨g.sub,by simp[g.len],fun j b' d q=>?_,fun j t dt q q'=>?_,fun j k c q1 q2=>g.dis j k c (old q1).1 (old q2).1⟩,.refl _,fun c n n'=>absurd n n',fun _ _ q _=>q,fun c⟨j,q⟩=>.inl ⟨j,(old q).1⟩,by simp,fun j t q l=>⟨rfl,?_⟩⟩,a,xs,rfl,h2,h3,h4,fun⟨j,q⟩=>?_,.inl ⟨i,oa⟩⟩
 . by_cases hj:j=i;.subst hj;rw[List.getElem?_set_self hi]at q;cases q
   .rw[List.getElem?_set_ne (Ne.symm hj)]at q;exact g.val j b' d q
 . by_cases hj:j=i;.subst hj;rw[List.getElem?_set_self hi]at q;cases q;cases q'
   .rw[List.getElem?_set_ne (Ne.symm hj)]at q;exact g.own j t dt q q'
 . by_cases hj:j=i;.subst hj;rw[e]at q;cases q;cases l
   .exact⟨t,by rw[List.getElem?_set_ne (Ne.symm hj)];exact q,.refl t⟩
 .exact(old q).2 (g.dis j i a (old q).1 oa)
theorem GS.more{n:Nat}{τ:List (Option V)}(g:GS K F ρ σ H)(hn:τ.length=n):GS K F (ρ++List.replicate n .au) (σ++τ) H:=by
 have get:∀{j:Nat}{t:Sl},(ρ++List.replicate n Sl.au)[j]?=some t->t≠.au->ρ[j]?=some t/\j<ρ.length:=fun{j t}q ne=>by
  by_cases hj:j<ρ.length;.rw[List.getElem?_append_left hj]at q;exact⟨q,hj⟩
  . rw[List.getElem?_append_right (by omega),List.getElem?_replicate]at q;split at q;.cases q;exact absurd rfl ne
    .cases q
 have up:∀{j:Nat}{v:Option V},j<ρ.length->(σ[j]?=some v↔(σ++τ)[j]?=some v):=fun{j v}hj=>by rw[List.getElem?_append_left (by rw[<-g.len];exact hj)]
 have old:∀{j:Nat}{c:Addr},bA (ρ++List.replicate n .au) (σ++τ) j c->bA ρ σ j c:=fun{j c}⟨⟨t,dt,q1,q2⟩,q3⟩=>by obtain⟨h1,h2⟩:=get q1 (by rintro rfl;cases q2);exact⟨⟨t,dt,h1,q2⟩,(up h2).mpr q3⟩
 refine⟨g.sub,by simp[g.len,hn],fun j b d q=>?_,fun j t dt q q'=>?_,fun j k c q1 q2=>g.dis j k c (old q1) (old q2)⟩;.obtain⟨h1,h2⟩:=get q (by simp);obtain⟨v,e1,e2⟩:=g.val j b d h1;exact⟨v,(up h2).mp e1,e2⟩
 .obtain⟨h1,h2⟩:=get q (by rintro rfl;cases q');obtain⟨a,xs,e1,e2⟩:=g.own j t dt h1 q';exact⟨a,xs,(up h2).mp e1,e2⟩
theorem bF.less{n:Nat}{τ:List (Option V)}{m:Nat}(hm:m=ρ.length)(g:GS K F ρ σ H)(hn:τ.length=n)(s:bF K F (ρ++List.replicate n .au) (σ++τ) H F1 ρ1 σ1 H1):bF K F ρ σ H F1 (ρ1.take m) (σ1.take m) H1/\∀v r,cI K F1 ρ1 σ1 H1 (ρ++List.replicate n .au) (σ++τ) H v r->cI K F1 (ρ1.take m) (σ1.take m) H1 ρ σ H v r:=by
 subst hm;have l1:ρ.length<=ρ1.length:=by rw[s.len];simp
 have l2:ρ.length<=σ1.length:=by rw[<-s.gs.len];exact l1
 have tk:∀{α:Type}{l:List α}{j:Nat}{x:α},(l.take ρ.length)[j]?=some x->l[j]?=some x/\j<ρ.length:=fun{α l j x}q=>by
  rw[List.getElem?_take]at q;split at q;.exact⟨q,by assumption⟩
  .cases q
 have kt:∀{α:Type}{l:List α}{j:Nat}{x:α},j<ρ.length->l[j]?=some x->(l.take ρ.length)[j]?=some x:=fun{α l j x}hj q=>by rw[List.getElem?_take,if_pos hj];exact q
 have oN:∀{c:Addr},Own (ρ++List.replicate n .au) (σ++τ) c->Own ρ σ c:=fun{c}⟨j,⟨t,dt,q1,q2⟩,q3⟩=>by
  by_cases hj:j<ρ.length;.rw[List.getElem?_append_left hj]at q1;rw[List.getElem?_append_left (by rw[<-g.len];exact hj)]at q3;exact⟨j,⟨t,dt,q1,q2⟩,q3⟩
  . rw[List.getElem?_append_right (by omega),List.getElem?_replicate]at q1;split at q1;.cases q1;cases q2
    .cases q1
 have oN':∀{c:Addr},Own ρ σ c->Own (ρ++List.replicate n .au) (σ++τ) c:=fun{c}⟨j,⟨t,dt,q1,q2⟩,q3⟩=>by have hj:j<ρ.length:=(List.getElem?_eq_some_iff.mp q1).1;exact⟨j,⟨t,dt,by rw[List.getElem?_append_left hj];exact q1,q2⟩,by rw[List.getElem?_append_left (by rw[<-g.len];exact hj)];exact q3⟩
 have o1:∀{j:Nat}{c:Addr},bA (ρ1.take ρ.length) (σ1.take ρ.length) j c->bA ρ1 σ1 j c:=fun{j c}⟨⟨t,dt,q1,q2⟩,q3⟩=>⟨⟨t,dt,(tk q1).1,q2⟩,(tk q3).1⟩;have w:∀{c:Addr}{h:Hp},Own (ρ++List.replicate n .au) (σ++τ) c\/h c=none->Own ρ σ c\/h c=none:=fun{c h}q=>q.imp oN id;have w':∀{c:Addr}{h:Hp},Own (ρ++List.replicate n .au) (σ++τ) c\/nt (h c)=none->Own ρ σ c\/nt (h c)=none:=fun{c h}q=>q.imp oN id;refine⟨⟨⟨s.gs.sub,by simp only[List.length_take];omega,fun j b d q=>?_,fun j t dt q q'=>?_,fun j k c q1 q2=>s.gs.dis j k c (o1 q1) (o1 q2)⟩,s.bK,fun c a b=>w' (s.wG c a b),fun c o q n=>s.keep c o q fun x=>n (oN x),fun c⟨j,q⟩=>w (s.uh c ⟨j,o1 q⟩),by simp only[List.length_take];omega,fun j t q l=>?_⟩,fun v r h=>?_⟩;.obtain⟨h1,h2⟩:=tk q;obtain⟨v,e1,e2⟩:=s.gs.val j b d h1;exact⟨v,kt h2 e1,e2⟩
 .obtain⟨h1,h2⟩:=tk q;obtain⟨a,xs,e1,e2⟩:=s.gs.own j t dt h1 q';exact⟨a,xs,kt h2 e1,e2⟩
 .have hj:j<ρ.length:=(List.getElem?_eq_some_iff.mp q).1;obtain⟨y1,t',y2,y3⟩:=s.lk j t (by rw[List.getElem?_append_left hj];exact q) l;rw[List.getElem?_append_left (by rw[<-g.len];exact hj)]at y1;refine⟨?_,t',kt hj y2,y3⟩;rw[List.getElem?_take,if_pos hj];exact y1
 .cases r with|val d=>exact h|own es=>obtain⟨x,xs,q1,q2,q3,q4,q5,q6⟩:=h;exact⟨x,xs,q1,q2,q3,q4,fun⟨j,q⟩=>q5 ⟨j,o1 q⟩,w q6⟩
end
end HH
end
section
namespace HH
open PySem L2 PySem.Spec PyProof.Rows
section
variable{X:Cx}{c:Call}{n:Nat}{e a b d:Expr}{p pa pb pd:P}{pos:Pos}{es:List Expr}{ps:List P}
inductive aaZ(K:PySem.W.Frag)(f:List Sl->Res (List Arg))(σ:L2.St)(H:Hp)(Q:List V->Hp->Prop):Prop where|mk(F:Hp)(ρ:List Sl)(as:List Arg)(ρ':List Sl)(g:GS K F ρ σ H)(e:f ρ=.ok as ρ')(k:∀vs F' H',bF K F ρ σ H F' ρ' σ H'->uI K F' ρ' σ H' ρ H as vs->Q vs H')
noncomputable def SG(X:Cx)(c:Call)(es:List Expr)(ps:List P):Prop:=PA X es (aaZ X.K (wV c ps))
theorem aJ:SG X c [] []:=wk gO fun σ H Q⟨F,ρ,as,ρ',g,e,k⟩=>by rw[wV]at e;cases e;exact k [] F H (.refl g) .nil
theorem JX(ha:SX X c a pa)(hr:SG X c es ps)(hs:starEach (a::es) X.env=(false,eval a X.env)::starEach es X.env:=by rfl):SG X c (a::es) (pa::ps):=by cases hv:isVar pa with|none=>refine wk (cH ha.ev hr hs) ?_;rintro σ H Q⟨F,ρ,as,ρ',g,e,k⟩;rw[wV,hv]at e;obtain⟨r,ρ1,e1,e⟩:=aj e;obtain⟨xs,ρ2,e2,e⟩:=aj e;cases e;refine⟨F,ρ,r,ρ1,g,e1,fun v F1 H1 s1 rr=>⟨F1,ρ1,xs,_,s1.gs,e2,fun vs F2 H2 s2 A=>k _ F2 H2 (s1.trans s2) (uI.VF s1 rr s2 A)⟩⟩|some i=>refine wk (cH (ha.var i hv) hr hs) ?_;rintro σ H Q⟨F,ρ,as,ρ',g,e,k⟩;rw[wV,hv]at e;obtain⟨x0,ρ0,e0,e⟩:=aj e;obtain⟨WX,yp⟩:=aF e0;subst yp;obtain⟨xs,ρ2,e2,e⟩:=aj e;cases e;obtain⟨v,h1,_⟩:=g.pk WX;exact⟨v,h1,F,ρ,xs,_,g,e2,fun vs F2 H2 s2 A=>k _ F2 H2 s2 (.cons h1 A fun ds x z=>by cases z)⟩
theorem JW{k f:Nat}{fa:Addr}{fd:FuncData}{qs:List Str}{x:Str}{p':Pos}(Fn:cW X.prog X.w X.K X.mg X.base jJ k fa fd qs (j6 X.K qs.length (c f)))(hr:jb k X.A)(hg:Gl X x)(hm:X.mg x=some (.ref fa))(hk:PySem.W.keepIn X.K (.ref fa)=true)(hb:Binds X.K fd qs [])(ha:SG X c (e::es) ps)(hl:(e::es).length=qs.length)(hdb:(x==("__debug__":Str))=false:=by decide)(he:starEach (e::es) X.env=(false,eval e X.env)::starEach es X.env:=by rfl)(hpl:(backTo pos (starEach es X.env)).any (·.1)=false:=by rfl)(hl2:ps.length=(e::es).length:=by rfl):SX X c (.Call (.Name x p') (e::es) [] pos) (.call f ps):=by
 refine⟨fU (Ka (E:=E0) Fn hr hg hm hk hb .nil VJ ha hdb he hpl) ?_,fun i h=>by cases h⟩;rintro σ H Q⟨F,ρ,r,ρ',g,e,k⟩;rw[HH.E15]at e;obtain⟨as,ρ1,e1,e⟩:=aj e;unfold pB at e;split at e;.cases e
 . rename_i args hb';split at e
   . rename_i r' args' hc;cases e;refine⟨F,ρ,as,ρ1,g,e1,fun vs F1 H1 s1 A=>?_⟩;have hlen:vs.length=qs.length:=by
      have:∀{ps:List P}{ρ ρ':List Sl}{as:List Arg},wV c ps ρ=.ok as ρ'->as.length=ps.length:=by intro ps;induction ps with|nil=>intro ρ ρ' as h;rw[wV]at h;cases h;rfl|cons q qs ih=>
         intro ρ ρ' as h;rw[wV]at h;split at h;.obtain⟨_,_,_,h⟩:=aj h;obtain⟨xs,ρ2,h2,h⟩:=aj h;cases h;simp[ih h2]
         .obtain⟨_,_,_,h⟩:=aj h;obtain⟨xs,ρ2,h2,h⟩:=aj h;cases h;simp[ih h2]
      rw[<-A.len,this e1,hl2,hl]
     show j6 X.K qs.length (c f) (vs++[]) H1 Q E0;rw[List.append_nil];refine⟨hlen,F1,args,r,args',args_gs s1.gs A hb',hc,fun v F' σ' H' s rr=>?_⟩;obtain⟨z1,z2⟩:=Gb s1 A hb' s;exact k v F' H' z1 (z2 v r rr)
   .cases e
   .cases e
noncomputable def Es(K:PySem.W.Frag)(D:Ends)(F':Hp)(ρ':List Sl)(σ':L2.St)(H':Hp)(ρ:List Sl)(σ:L2.St)(H:Hp)(fl:Fl):Prop:=match fl with|.next=>D.nx σ' H'|.brk=>D.bk σ' H'|.cont=>D.ct σ' H'|.ret r=>∀v,cI K F' ρ' σ' H' ρ σ H v r->D.rt v H'
inductive Yg(K:PySem.W.Frag)(f:List Sl->Res Fl)(D:Ends)(σ:L2.St)(H:Hp):Prop where|mk(F:Hp)(ρ:List Sl)(fl:Fl)(ρ':List Sl)(g:GS K F ρ σ H)(e:f ρ=.ok fl ρ')(k:∀F' σ' H',bF K F ρ σ H F' ρ' σ' H'->Es K D F' ρ' σ' H' ρ σ H fl)
noncomputable def SS(X:Cx)(c:Call)(n:Nat)(st:Stmt)(s:S):Prop:=PS X st (Yg X.K (ex c n s))
noncomputable def SB(X:Cx)(c:Call)(n:Nat)(st:List Stmt)(s:List S):Prop:=wW X st (Yg X.K (eG c n s))
theorem dD{st:Stmt}{t t':TS}(h:PS X st t)(i:∀D σ H,t' D σ H->t D σ H):PS X st t':=fun pins s σ H D I q=>h pins s σ H D I (i D σ H q)
theorem iV{st:List Stmt}{t t':TS}(h:wW X st t)(i:∀D σ H,t' D σ H->t D σ H):wW X st t':=fun pins s σ H D I q=>h pins s σ H D I (i D σ H q)
theorem aC:SB X c n [] []:=iV rO fun D σ H⟨F,ρ,fl,ρ',g,e,k⟩=>by rw[eG]at e;cases e;exact k F σ H (.refl g)
theorem ak{st:Stmt}{s:S}{sts:List Stmt}{ss:List S}(h1:SS X c n st s)(h2:SB X c n sts ss):SB X c n (st::sts) (s::ss):=by refine iV (gU h1 h2) ?_;rintro D σ H⟨F,ρ,fl,ρ',g,e,k⟩;rw[eG]at e;obtain⟨f1,ρ1,e1,e⟩:=aj e;cases f1 with
 |next=>refine⟨F,ρ,.next,ρ1,g,e1,fun F1 σ1 H1 s1=>⟨F1,ρ1,fl,ρ',s1.gs,e,fun F2 σ2 H2 s2=>?_⟩⟩;have q:=k F2 σ2 H2 (s1.trans s2);cases fl with|next=>exact q|brk=>exact q|cont=>exact q|ret r=>exact fun v rr=>q v (rr.later s1)
 |brk=>cases e;exact⟨F,ρ,.brk,_,g,e1,k⟩|cont=>cases e;exact⟨F,ρ,.cont,_,g,e1,k⟩|ret r=>cases e;exact⟨F,ρ,.ret r,_,g,e1,k⟩
theorem Nm:SS X c n (.Break pos) .brk:=dD Dj fun D σ H⟨F,ρ,fl,ρ',g,e,k⟩=>by rw[HH.X2]at e;cases e;exact k F σ H (.refl g)
theorem Uz{t1 t2:TE}(h1:PE X e t1)(h2:PE X e t2):PE X e (fun σ H Q=>t1 σ H Q\/t2 σ H Q):=fun pins s σ H Q I h=>h.elim (h1 pins s σ H Q I) (h2 pins s σ H Q I)
theorem bD(he:SX X c e p):SS X c n (.Return (some e) pos) (.ret p):=by
 have plain:∀(D:Ends)(σ:L2.St)(H:Hp),(∃F ρ fl ρ',GS X.K F ρ σ H/\((HH.ev c p ρ).bind fun r ρ=>.ok (Fl.ret r) ρ)=.ok fl ρ'/\∀F' σ' H',bF X.K F ρ σ H F' ρ' σ' H'->(match fl with|.next=>D.nx σ' H'|.brk=>D.bk σ' H'|.cont=>D.ct σ' H'|.ret r=>∀v,cI X.K F' ρ' σ' H' ρ σ H v r->D.rt v H'))->yh X.K (HH.ev c p) σ H D.rt:=fun D σ H⟨F,ρ,fl,ρ',g,e,k⟩=>by obtain⟨r,ρ1,e1,e⟩:=aj e;cases e;exact⟨F,ρ,r,_,g,e1,fun v F1 H1 s1 rr=>k F1 σ H1 s1 v rr⟩
 cases hv:isVar p with|none=>refine dD (Eo he.ev) fun D σ H⟨F,ρ,fl,ρ',g,e,k⟩=>plain D σ H ⟨F,ρ,fl,ρ',g,?_,k⟩;rw[HH.YB,hv]at e;exact e|some i=>--by the name itself:its own list is handed back,else its data
   have hp:p=.var i:=by cases p<;>cases hv;rfl
   subst hp;refine dD (Eo (Uz (he.var i hv) he.ev)) ?_;rintro D σ H⟨F,ρ,fl,ρ',g,e,k⟩;rw[HH.YB,hv]at e;dsimp only at e;split at e;.rename_i ds q;cases e;obtain⟨v,h1,h2,h3⟩:=g.give q;exact .inl ⟨v,h1,k F σ H h2 v h3⟩
   .exact .inr (plain D σ H ⟨F,ρ,fl,ρ',g,e,k⟩)
theorem gJ{sa sb:List Stmt}{ta tb:List S}(hc:ST X c e p)(ha:SB X c n sa ta)(hb:SB X c n sb tb):SS X c n (.If e sa sb pos) (.ifs p ta tb):=by refine dD (Mq hc ha hb) ?_;rintro D σ H⟨F,ρ,fl,ρ',g,e,k⟩;rw[HH.X13]at e;obtain⟨x,ρ1,e1,e⟩:=aj e;refine⟨F,ρ,x,ρ1,g,e1,fun F1 H1 s1=>?_⟩;have go:∀{f:List Sl->Res Fl},f ρ1=.ok fl ρ'->Yg X.K f D σ H1:=fun{f}h=>⟨F1,ρ1,fl,ρ',s1.gs,h,fun F2 σ2 H2 s2=>by have q:=k F2 σ2 H2 (s1.trans s2);cases fl with|next=>exact q|brk=>exact q|cont=>exact q|ret r=>exact fun v rr=>q v (rr.later s1)⟩;cases x with|true=>rw[if_pos rfl]at e;exact go e|false=>rw[if_neg Bool.false_ne_true]at e;exact go e
theorem eU{i:Nat}{x:Str}{pos':Pos}(hN:X.N.Nodup)(hi:X.N[i]?=some x)(hx:Loc X.env.scope x)(he:SX X c e p)(hs:swapsWith e (some (.Name x pos')) pos.line X.env=pure false:=by rfl)(hf:X.fn x=true\/X.env.scope.names.lookup x=some .local:=by first|exact .inl rfl|exact .inr rfl|assumption):SS X c n (.Assign [.Name x pos'] e pos) (.asg i p):=by refine dD (tK hN hi hx he.ev hs hf) ?_;rintro D σ H⟨F,ρ,fl,ρ',g,e,k⟩;rw[HH.X6]at e;obtain⟨r,ρ1,e1,e⟩:=aj e;obtain⟨ρ2,ρ3,e2,e⟩:=aj e;cases e;have zz:=aF e2;clear e2;obtain⟨e2,e3⟩:=zz;exact⟨F,ρ,r,ρ1,g,e1,fun v F1 H1 s1 rr=>k F1 _ H1 (s1.put rr e2)⟩
end
end HH
end
section
namespace L2
open PySem PySem.Spec PyProof.Rows
noncomputable def qw(X:Cx)(scope:Scope)(N':List Str)(cl:List (Str×Addr))(C:Addr)(s₀:Shared)(H₀:Hp)(ex:List Addr):Cx:={X with N:=N',s₀:=s₀,H₀:=H₀,env:=compEnvC scope cl C X.env,outer:=X.stack,stack:=X.stack,ex:=ex,fn:=fun x=>scope.names.lookup x==some .cell,pn:=[],xe:=fun _ _=>False}
theorem yf{env:Env}(l:List (Str×NameKind)):∀(cs:List (Str×Addr)),(∀n,(n,NameKind.free)∈l->∃c,env.cells.lookup n=some c)->(∀n c,cs.lookup n=some c->env.cells.lookup n=some c)->∃ cl,(forIn l cs (fun(x:Str × NameKind)(r:List (Str × Addr))=>(if(x.2==NameKind.free)=true then(do let a<-cellOf env x.1;pure (ForInStep.yield ((x.1,a)::r)))else pure (ForInStep.yield r):Sem (ForInStep (List (Str × Addr))))):Sem (List (Str × Addr)))=pure cl/\(∀n c,cl.lookup n=some c->env.cells.lookup n=some c)/\(∀n,((n,NameKind.free)∈l\/(cs.lookup n).isSome)->(cl.lookup n).isSome):=by induction l with|nil=>intro cs _ h;exact⟨cs,rfl,h,fun n hn=>by rcases hn with hn|hn;cases hn;exact hn⟩|cons y l ih=>
   obtain⟨n,k⟩:=y;intro cs hl hc;rw[List.forIn_cons];by_cases hk:k=.free
   . subst hk;obtain⟨a,ha⟩:=hl n List.mem_cons_self;obtain⟨cl,e,h1,h2⟩:=ih ((n,a)::cs) (fun m hm=>hl m (List.mem_cons_of_mem _ hm)) fun m c hm=>by
      rw[List.lookup_cons]at hm;split at hm;.rename_i q;have q:=eq_of_beq q;subst q;cases hm;exact ha
      .exact hc m c hm
     refine⟨cl,?_,h1,fun m hm=>h2 m ?_⟩
     . rw[<-e];have:cellOf env n=pure a:=by unfold cellOf;rw[ha]
       simp only[beq_self_eq_true,if_true,this];rfl
     . rcases hm with hm|hm
       . rcases List.mem_cons.mp hm with hm|hm;.cases hm;right;simp[List.lookup_cons]
         .exact .inl hm
       . right;rw[List.lookup_cons];split;.rfl
         .exact hm
   . obtain⟨cl,e,h1,h2⟩:=ih cs (fun m hm=>hl m (List.mem_cons_of_mem _ hm)) hc;refine⟨cl,?_,h1,fun m hm=>h2 m ?_⟩
     . rw[<-e];have:(k==NameKind.free)=false:=by simpa using hk
       simp only[this,Bool.false_eq_true,if_false];rfl
     . rcases hm with hm|hm
       . rcases List.mem_cons.mp hm with hm|hm;.cases hm;exact absurd rfl hk
         .exact .inl hm
       .exact .inr hm
theorem xX{env:Env}{scope:Scope}(hl:∀n,(n,NameKind.free)∈scope.names->∃c,env.cells.lookup n=some c):∃cl,closureFor scope env=pure cl/\(∀n c,cl.lookup n=some c->env.cells.lookup n=some c)/\∀n,(n,NameKind.free)∈scope.names->(cl.lookup n).isSome:=by obtain⟨cl,e,h1,h2⟩:=yf (env:=env) scope.names [] hl (by simp);refine⟨cl,?_,h1,fun n hn=>h2 n (.inl hn)⟩;unfold closureFor;exact(congrArg (fun t=>t>>=fun r=>pure r) e).trans rfl
theorem dN{env:Env}:∀(names:List (Str×NameKind))(x:Str),(names.map fun(n,k)=>if(k==NameKind.free&&env.scope.kind==.function&&env.kindOf n==some .cell)then(n,NameKind.cell)else(n,k)).lookup x=(names.lookup x).map fun k=>if(k==NameKind.free&&env.scope.kind==.function&&env.kindOf x==some .cell)=true then NameKind.cell else k
 |[],x=>rfl|(n,k)::r,x=>by
   have ih:=dN (env:=env) r x;show List.lookup x ((if(k==NameKind.free&&env.scope.kind==.function&&env.kindOf n==some .cell)=true then(n,NameKind.cell)else(n,k))::_)=_;by_cases hc:(k==NameKind.free&&env.scope.kind==.function&&env.kindOf n==some .cell)=true;.rw[if_pos hc,List.lookup_cons,List.lookup_cons];cases hx:x==n with|true=>have:=eq_of_beq hx;subst this;show some NameKind.cell=some (if _ then _ else _);rw[if_pos hc]|false=>exact ih
   .rw[if_neg hc,List.lookup_cons,List.lookup_cons];cases hx:x==n with|true=>have:=eq_of_beq hx;subst this;show some k=some (if _ then _ else _);rw[if_neg hc]|false=>exact ih
noncomputable def Vj(N N':List Str)(sc:Scope):Bool:=(N.zip N').all fun p=>(p.1==p.2&&sc.names.lookup p.2==some .free)||(sc.names.lookup p.2!=some .local&&sc.names.lookup p.2!=some .cell&&sc.names.lookup p.2!=some .free)
structure fP(X:Cx)(scope:Scope)(N':List Str)(n:Nat):Prop where
 kind:scope.kind=.function
 cons:∀y∈scope.names,scope.names.lookup y.1=some y.2
 names:∀y∈scope.names,y.2=.local->scope.names.lookup y.1=some .local
 cap:∀y∈scope.names,y.2=.free->X.env.scope.names.lookup y.1=some .cell\/X.env.scope.names.lookup y.1=some .free
 len:N'.length=X.N.length+n
 same:Vj X.N N' scope=true
theorem fP.get{X:Cx}{scope:Scope}{N':List Str}{n:Nat}(c:fP X scope N' n){i:Nat}{x:Str}(hi:i<X.N.length)(h:N'[i]?=some x)(hv:sV (relabel scope X.env) x):X.N[i]?=some x/\scope.names.lookup x=some .free:=by
 have hz:(X.N.zip N')[i]?=some (X.N[i],x):=by rw[List.getElem?_zip_eq_some];exact⟨by simp[hi],h⟩
 have:=(List.all_eq_true.mp c.same) _ (List.mem_of_getElem? hz);simp only[Bool.or_eq_true,Bool.and_eq_true]at this;rcases this with⟨h1,h2⟩|⟨⟨h1,h2⟩,h3⟩;.have h1:=eq_of_beq h1;have h2:=eq_of_beq h2;exact⟨by simp[hi,h1],h2⟩
 . exfalso;have h1:scope.names.lookup x≠some .local:=by simpa using h1
   have h2:scope.names.lookup x≠some .cell:=by simpa using h2
   have h3:scope.names.lookup x≠some .free:=by simpa using h3
   have e:=dN (env:=X.env) scope.names x;have hv:(relabel scope X.env).names.lookup x=some .local\/(relabel scope X.env).names.lookup x=some .cell\/(relabel scope X.env).names.lookup x=some .free:=hv;rw[show(relabel scope X.env).names.lookup x=_ from e]at hv;cases q:scope.names.lookup x with|none=>rw[q]at hv;simp at hv|some k=>
     rw[q]at hv h1 h2 h3;have hk:(k==NameKind.free)=false:=by cases k<;>first|rfl|exact absurd rfl h3
     simp only[Option.map_some,hk,Bool.false_and,Bool.false_eq_true,if_false,Option.some.injEq]at hv;rcases hv with rfl|rfl|rfl;.exact h1 rfl
     .exact h2 rfl
     .exact h3 rfl
end L2
namespace L2
open PySem PySem.Spec PyProof.Rows
structure CI(cl:List (Str×Addr))(z:Nat)(h:Heap)(acc:List (Str×Addr)):Prop where from':∀n c,acc.lookup n=some c->cl.lookup n=some c\/(z<=c/\h.IsCell c none)inj:∀n n' c,acc.lookup n=some c->acc.lookup n'=some c->n=n'
theorem CN{cl:List (Str×Addr)}{z:Nat}(hcl:∀n c,cl.lookup n=some c->c<z):∀(names:List (Str×NameKind))(h:Heap)(acc:List (Str×Addr)),z<=h.objs.size->CI cl z h acc->CI cl z (pushCells h names) (cellsFrom h.objs.size names acc)/\(∀n,(acc.lookup n).isSome->((cellsFrom h.objs.size names acc).lookup n).isSome)/\(∀n,((∃c,acc.lookup n=some c/\z<=c)\/(n,NameKind.cell)∈names)->∃c,(cellsFrom h.objs.size names acc).lookup n=some c/\z<=c)/\(∀n c,(n,NameKind.cell)∉names->(cellsFrom h.objs.size names acc).lookup n=some c->acc.lookup n=some c)
 |[],h,acc,hz,x=>by
   refine⟨x,fun _ q=>q,fun n q=>?_,fun _ _ _ q=>q⟩;rcases q with q|q;.exact q
   .cases q|(name,kind)::r,h,acc,hz,x=>by
   unfold pushCells cellsFrom;by_cases hk:kind=.cell
   . subst hk;rw[if_pos (by rfl),if_pos (by rfl)];have hx:CI cl z (h.push {cls:=.type "cell",data:=.cell none}) ((name,h.objs.size)::acc):=by
      have lt:∀n c,acc.lookup n=some c->c<h.objs.size:=fun n c e=>by
       rcases x.from' n c e with q|q;.exact Nat.lt_of_lt_of_le (hcl n c q) hz
       .exact q.2.lt
      refine⟨fun n c e=>?_,fun n n' c e e'=>?_⟩
      . rw[List.lookup_cons]at e;split at e;.cases e;exact .inr ⟨hz,_,Heap.get?_push_size _ rfl,rfl⟩
        . rcases x.from' n c e with q|q;.exact .inl q
          .exact .inr ⟨q.1,q.2.keeps fun b o e=>Heap.get?_push_of_some _ e⟩
      . rw[List.lookup_cons]at e e';split at e<;>split at e';.rename_i _ a _ b;rw[eq_of_beq a,eq_of_beq b]
        .cases e;exact absurd (lt n' _ e') (Nat.lt_irrefl _)
        .cases e';exact absurd (lt n _ e) (Nat.lt_irrefl _)
        .exact x.inj n n' c e e'
     have ih:=CN hcl r (h.push {cls:=.type "cell",data:=.cell none}) ((name,h.objs.size)::acc) (by rw[Heap.size_push];omega) hx;rw[Heap.size_push]at ih;refine⟨ih.1,fun n q=>ih.2.1 n ?_,fun n q=>ih.2.2.1 n ?_,fun n c q e=>?_⟩
     . rw[List.lookup_cons];split;.rfl
       .exact q
     . rcases q with⟨c,e,hc⟩|q
       . left;rw[List.lookup_cons];split;.exact⟨_,rfl,hz⟩
         .exact⟨c,e,hc⟩
       . rcases List.mem_cons.mp q with q|q;.cases q;left;exact⟨_,by simp[List.lookup_cons],hz⟩
         .exact .inr q
     . have:=ih.2.2.2 n c (fun z=>q (List.mem_cons_of_mem _ z)) e;rw[List.lookup_cons]at this;split at this;.rename_i a;exact absurd (by rw[eq_of_beq a];exact List.mem_cons_self) q
       .exact this
   . have hk':(kind==NameKind.cell)=false:=by simpa using hk
     rw[if_neg (by rw[hk'];decide),if_neg (by rw[hk'];decide)];have ih:=CN hcl r h acc hz x;refine⟨ih.1,ih.2.1,fun n q=>ih.2.2.1 n ?_,fun n c q e=>ih.2.2.2 n c (fun z=>q (List.mem_cons_of_mem _ z)) e⟩;rcases q with q|q;.exact .inl q
     . rcases List.mem_cons.mp q with q|q;.cases q;exact absurd rfl hk
       .exact .inr q
structure Dn(X:Cx)(scope:Scope)(z:Nat)(h:Heap)(cs:List (Str×Addr)):Prop where
 from':∀n c,cs.lookup n=some c->X.env.cells.lookup n=some c\/(z<c/\h.IsCell c none)inj:∀n n' c,cs.lookup n=some c->cs.lookup n'=some c->n=n'
 has:∀n,(scope.names.lookup n=some .free\/scope.names.lookup n=some .cell)->∃c,cs.lookup n=some c
 fre:∀n c,scope.names.lookup n=some .free->cs.lookup n=some c->X.env.cells.lookup n=some c
 own:∀n c,scope.names.lookup n=some .cell->cs.lookup n=some c->z<c
theorem Ax{M:Model}{A:Around}{E:Value->Shared->Prop}{X:Cx}{s:Shared}{scope:Scope}{N':List Str}{n:Nat}{cl:List (Str×Addr)}{Q:Env->Shared->Prop}(ok:fP X scope N' n)(hlt:∀n c,X.env.cells.lookup n=some c->c<s.heap.objs.size)(hinj:∀x y c,X.env.cells.lookup x=some c->X.env.cells.lookup y=some c->x=y)(hcl:∀n c,cl.lookup n=some c->X.env.cells.lookup n=some c)(yq:∀n,(n,NameKind.free)∈scope.names->(cl.lookup n).isSome)(hQ:∀ cs h',h'.Ns s.heap.objs.size (fun _=>none)->(∀ b o,s.heap.get? b=some o->h'.get? b=some o)->Dn X scope s.heap.objs.size h' cs->Q {scope:=scope,locals:=s.heap.objs.size,globals:=X.env.globals,cells:=cs,qual:=X.env.qual,func:=none,code:=X.env.code,frame:=X.env.frame,builtins:=X.env.builtins} {s with heap:=h'}):wpAny M A (newFunctionEnv scope X.env.globals cl [] X.env.qual none .none (some X.env)) Q E s:=by
 simp only[newFunctionEnv,Option.isSome_some,if_true];refine wpAny_bind (wpAny_alloc ?_);refine wpAny_bind (wpAny_layCells _ (fun name kind cells=>by cases hkc:kind==NameKind.cell<;>simp[hkc]) _ _ _ _ ?_);have ck:=CN (cl:=cl) (z:=s.heap.objs.size+1) (fun n c e=>Nat.lt_succ_of_lt (hlt n c (hcl n c e))) scope.names (s.heap.push {cls:=.type "dict",data:=.dict #[]}) cl (by rw[Heap.size_push];exact Nat.le_refl _) ⟨fun n c e=>.inl e,fun n n' c e e'=>hinj n n' c (hcl n c e) (hcl n' c e')⟩;obtain⟨c1,c2,c3,c4⟩:=ck;rw[show({s with heap:=s.heap.push {cls:=.type "dict",data:=.dict #[]}}:Shared).heap.objs.size=(s.heap.push {cls:=.type "dict",data:=.dict #[]}).objs.size from rfl];refine wpAny_bind ?_;rw[List.forIn_nil];refine wpAny_pure (wpAny_pure (hQ _ _ ((Heap.Ns.new s.heap (.type "dict")).keeps (pushCells_keeps _ _)) (fun b o e=>pushCells_keeps _ _ b o (Heap.get?_push_of_some _ e)) ⟨fun n c e=>?_,c1.inj,fun n q=>?_,fun n c q e=>?_,fun n c q e=>?_⟩))
 . rcases c1.from' n c e with z|z;.exact .inl (hcl n c z)
   .exact .inr ⟨z.1,z.2⟩
 . rcases q with q|q;.exact Option.isSome_iff_exists.mp (c2 n (yq n (PySem.mem_of_lookup q)))
   .obtain⟨c,e,_⟩:=c3 n (.inr (PySem.mem_of_lookup q));exact⟨c,e⟩
 .refine hcl n c (c4 n c (fun z=>?_) e);have:=ok.cons _ z;rw[q]at this;cases this
 .obtain⟨c',e',hc'⟩:=c3 n (.inr (PySem.mem_of_lookup q));rw[e]at e';cases e';exact hc'
section
variable{X:Cx}{pins:List (Addr×Obj)}{σ:L2.St}{H:Hp}{s:Shared}{scope:Scope}{N':List Str}{n:Nat}{fp:List Addr}{cl:List (Str×Addr)}
theorem Ey{h1:Heap}{m:Str->Option Value}{t:Nat}{cs:List (Str×Addr)}(ok:fP X scope N' n)(I:Inv X pins σ H s)(hf:∀b∈fp,mU X pins H b/\b<s.heap.objs.size)(bc:Dn X scope s.heap.objs.size h1 cs)(hn:h1.Ns s.heap.objs.size m)(old:∀b u,s.heap.get? b=some u->h1.get? b=some u):Inv (qw X scope N' cs s.heap.objs.size s H fp) [] (σ++List.replicate n none) H {s with heap:=h1,toks:=t}:=by
 have W2:∀x,scope.names.lookup x=some .free->(relabel scope X.env).names.lookup x=some .cell\/(relabel scope X.env).names.lookup x=some .free:=fun x h=>by
  have e:=dN (env:=X.env) scope.names x;rw[h]at e;have e':(relabel scope X.env).names.lookup x=_:=e;rw[e'];simp only[Option.map_some];split;.exact .inl rfl
  .exact .inr rfl
 refine⟨⟨I.ok.mod,ok.kind,I.ok.glob,I.ok.blt,Nat.le_refl _,fun x y c h1 h2=>bc.inj x y c h1 h2,fun x hx=>?_,fun x c h e=>Nat.le_of_lt (bc.own x c (eq_of_beq (show(scope.names.lookup x==some NameKind.cell)=true from h)) e),I.ok.hd,I.ok.frames,.inl rfl,fun b hb=>?_,I.bs,Nat.le_trans I.ok.Mr I.sz,fun b u e hb=>?_,fun b hb hfs=>?_,I.stack,I.zc⟩,rfl,I.bare,Un.kept old,⟨m,hn,fun i x v e1 e2 hv=>?_⟩,fun x c e=>?_,I.hok.fresh (Nat.le_refl _),fun x c e=>?_,fun p hp=>(by cases hp),I.hok.kept old,?_⟩;.--a W3 name has its cell
   have hx:(relabel scope X.env).names.lookup x=some .cell\/(relabel scope X.env).names.lookup x=some .free:=hx;have e:=dN (env:=X.env) scope.names x;have e':(relabel scope X.env).names.lookup x=_:=e;rw[e']at hx;refine bc.has x ?_;cases q:scope.names.lookup x with|none=>rw[q]at hx;simp at hx|some k=>
     rw[q]at hx;by_cases hk:k=.free;.rw[hk];exact .inl rfl
     . have hk':(k==NameKind.free)=false:=by simpa using hk
       simp only[Option.map_some,hk',Bool.false_and,Bool.false_eq_true,if_false,Option.some.injEq]at hx;rcases hx with rfl|rfl;.exact .inr rfl
       .exact absurd rfl hk
 . obtain⟨f,lt⟩:=hf b hb;refine⟨Nat.ne_of_lt lt,fun x c e=>?_⟩;rcases bc.from' x c e with e|e;.exact f.2.2.2.2.1 x c e
   .rintro rfl;exact absurd (Nat.lt_trans e.1 lt) (Nat.lt_irrefl _)
 . obtain⟨f,lt⟩:=hf b hb;rcases f.2.2.2.1 with h|h;.exact I.ok.G6 b u e h
   .have this:b<X.base.objs.size:=Heap.lt_size e;exact absurd (Nat.lt_of_lt_of_le this (Nat.le_trans I.ok.Mr h)) (Nat.lt_irrefl _)
 . obtain⟨f,lt⟩:=hf b hb;rcases List.mem_cons.mp (I.tY b hfs)with h|h;.exact f.2.1 h
   .exact f.2.2.1 h
 .--the names
   have hi:i<σ.length:=by
    by_cases hi:i<σ.length;.exact hi
    .rw[List.getElem?_append_right (by omega),List.getElem?_replicate]at e2;split at e2<;>cases e2
   rw[List.getElem?_append_left hi]at e2;obtain⟨h1',h2'⟩:=ok.get (by rw[<-I.len];exact hi) e1 hv;have hk:=ok.cap (x,.free) (PySem.mem_of_lookup h2') rfl;obtain⟨m0,hn0,hl⟩:=I.loc;obtain⟨u,r,l⟩:=hl i x v h1' e2 (.inr hk);refine⟨u,r,.inr ⟨W2 x h2',?_⟩⟩;rcases l with⟨hk',_⟩|⟨_,c,hc,hcell⟩;.have hk':X.env.scope.names.lookup x=some .local:=hk';rcases hk with hk|hk<;>(rw[hk']at hk;cases hk)
   .obtain⟨c',hc'⟩:=bc.has x (.inl h2');have:=bc.fre x c' h2' hc';rw[hc]at this;cases this;refine⟨c,hc',?_⟩;obtain⟨oc,e3,e4⟩:=hcell;exact⟨oc,old c oc e3,e4⟩
 . rcases bc.from' x c e with e|e;.obtain⟨v,oc,e3,e4⟩:=I.cell x c e;exact⟨v,oc,old c oc e3,e4⟩
   .exact⟨_,e.2⟩
 . rcases bc.from' x c e with e|e;.exact I.jN x c e
   .exact I.hok.fresh (Nat.le_of_lt e.1)
 .show(σ++List.replicate n none).length=N'.length;rw[List.length_append,List.length_replicate,I.len,ok.len]
theorem sU{prog:Program}{w:World}{A:Around}{R:Result->Shared->Prop}{elt target iter:Expr}{ifs:List Expr}{scope:Scope}{pos:Pos}{it acc:Value}{env:Env}(I:Nat->Shared->Prop)(turn:∀ n s,I n s->wpAny (model prog w) A (pyNext it) (fun r s₁=>match r with|none=>R (.ok .next) s₁|some v=>wpAny (model prog w) A (letOwnedTupleGo target it v) (fun _ s₁=>wpAny (model prog w) A (assign target env v) (fun _ s₂=>wpAny (model prog w) A (forIn ifs true fun c r=>if r=true then do let ok<-isTrue c env (eval c env);pure (ForInStep.yield ok)else pure (ForInStep.yield r)) (fun ok s₃=>if ok=true then wpAny (model prog w) A (eval elt env) (fun x s₄=>wpAny (model prog w) A (call (.builtin "list.append") [acc,x]) (fun _ s₅=>∃m,m<n/\I m s₅) (notedBy (model prog w) A env fun e s'=>R (.error e) s') s₄) (notedBy (model prog w) A env fun e s'=>R (.error e) s') s₃ else ∃m,m<n/\I m s₃) (notedBy (model prog w) A env fun e s'=>R (.error e) s') s₂) (notedBy (model prog w) A env fun e s'=>R (.error e) s') s₁) (notedBy (model prog w) A env fun e s'=>R (.error e) s') s₁) (notedBy (model prog w) A env fun e s'=>R (.error e) s') s)(n:Nat){s:Shared}(h:I n s):codeAny (model prog w) A (.compLoop (.ListComp elt [⟨target,iter,ifs,0⟩] scope pos) 0 it acc env) R s:=by refine codeAny_loop rfl I (fun n s hI=>?_) n h;show wpAny _ A ((compTurn (.ListComp elt [⟨target,iter,ifs,0⟩] scope pos) 0 it acc env).onRaise (fun x=>do noteFrame x env;theTreesLotGoes x)) _ _ s;refine wpAny_noted ?_;rw[compTurn_list];refine wpAny_bind (wpAny_standAt (wpAny_bind (wpAny_mono (turn n s hI) (fun r s₁ h₁=>?_) fun _ _ h'=>h')));cases r with|none=>exact wpAny_pure h₁|some v=>refine wpAny_bind (wpAny_mono h₁ (fun _ s₁ h₁=>?_) fun _ _ h'=>h');refine wpAny_bind (wpAny_mono h₁ (fun _ s₂ h₂=>wpAny_bind (wpAny_mono h₂ (fun ok s₃ h₃=>?_) fun _ _ h'=>h')) fun _ _ h'=>h');cases ok with|false=>exact wpAny_pure ⟨rfl,h₃⟩|true=>exact wpAny_bind (wpAny_bind (wpAny_mono h₃ (fun x s₄ h₄=>wpAny_bind (wpAny_mono h₄ (fun _ s₅ h₅=>wpAny_pure (wpAny_pure ⟨rfl,h₅⟩)) fun _ _ h'=>h')) fun _ _ h'=>h'))
noncomputable def Nt(X:Cx)(ifs:List Expr)(t:TT):Prop:=∀(pins:List (Addr × Obj))(s:Shared)(σ:L2.St)(H:Hp)(Q:Bool->Hp->Prop),Inv X pins σ H s->t σ H Q->wpAny (model X.prog X.w) X.A (forIn ifs true fun c r=>if r=true then do let ok<-isTrue c X.env (eval c X.env);pure (ForInStep.yield ok)else pure (ForInStep.yield r)) (TP X pins σ Q) X.xe s
theorem Kg{X:Cx}:Nt X [] (fun _ H Q=>Q true H):=fun pins s σ H Q I h=>wpAny_tests_nil ⟨H,I,h⟩
theorem Ig{X:Cx}{c:Expr}{t:TT}(h:PT X c t):Nt X [c] t:=fun pins s σ H Q I q=>wpAny_tests_one (h pins s σ H Q I q)
noncomputable def K8(J:It)(g:TG)(tt:TT)(te:TE)(D:Addr)(Q:Hp->Prop)(W:Nat->Nat->List V->L2.St->Hp->Prop):Prop:=∀ i m ys σ H,W i m ys σ H->H D=some (.lst ys)/\((J.stop i H/\Q H)\/(J.go i H/\∀ x H2,J.Kw i H x H2->g x σ H2 fun σ3 H3=>tt σ3 H3 fun b H4=>if b=true then te σ3 H4 fun y H5=>H5 D=some (.lst ys)/\ys.length<sizeLine/\∃m',m'<m/\W (i+1) m' (ys++[y]) σ3 (upd H5 D (.lst (ys++[y])))else ∃m',m'<m/\W (i+1) m' ys σ3 H4))
theorem qM{E:Value->Shared->Prop}{elt target iter:Expr}{ifs:List Expr}{pos:Pos}{it:Addr}{tn:Nat->Heap->Prop}{J:It}{g:TG}{tt:TT}{te:TE}{Q:Addr->Hp->Prop}{RR:Value->Addr->Result->Shared->Prop}(hc:X.calm=true)(ok:fP X scope N' n)(I:Inv X pins σ H s)(hcl:∀n c,cl.lookup n=some c->X.env.cells.lookup n=some c)(yq:∀n,(n,NameKind.free)∈scope.names->(cl.lookup n).isSome)(T:Turn X.prog X.w X.K target J fp it tn)(h0:tn 0 s.heap)(hf:∀b∈fp,mU X pins H b)(hg:∀cl C s₀ H₀ ex,PG (qw X scope N' cl C s₀ H₀ ex) target g)(ht:∀cl C s₀ H₀ ex,Nt (qw X scope N' cl C s₀ H₀ ex) ifs tt)(he:∀cl C s₀ H₀ ex,PE (qw X scope N' cl C s₀ H₀ ex) elt te)(hw:∀D,H D=none->∃W,(∃m,W 0 m [] (σ++List.replicate n none) (upd H D (.lst [])))/\K8 J g tt te D (Q D) W)(hRR:∀D C s' H',Q D H'->(∃m,s'.heap.Ns C m)->mU X pins H' C->Inv X pins σ H' s'->RR (.ref D) C (.ok .next) s'):wpAny (model X.prog X.w) X.A (newList []) (fun acc s₃=>wpAny (model X.prog X.w) X.A (newFunctionEnv scope X.env.globals cl [] X.env.qual none .none (some X.env)) (fun cenv s₄=>codeAny (model X.prog X.w) X.A (.compStart (.ListComp elt [⟨target,iter,ifs,0⟩] scope pos) 0 (.ref it) acc {cenv with scope:=relabel scope X.env}) (RR acc cenv.locals) s₄) E s₃) E s:=by
 refine wpAny_newObj_type (Ax ok (fun x c e=>?lt) I.ok.inj hcl yq (fun cs h₁ hns hold bc=>?_));case lt=>obtain⟨v,z⟩:=I.cell x c e;exact Nat.lt_of_lt_of_le z.lt (by show _<=(s.heap.push _).objs.size;rw[Heap.size_push];exact Nat.le_succ _)
 dsimp only at hns hold bc ⊢--the new list,tracked
 have I3:Inv X pins σ (upd H s.heap.objs.size (.lst [])) {s with heap:=s.heap.push {cls:=.type "list",data:=.seq ([]:List Value).toArray}}:=I.Q6 (t':=s.toks) .nil (Nat.zero_le _);generalize hs3:({s with heap:=s.heap.push {cls:=.type "list",data:=.seq ([]:List Value).toArray}}:Shared)=s3 at I3;have hsz:s3.heap.objs.size=s.heap.objs.size+1:=by rw[<-hs3];exact Heap.size_push _ _
 have Mx:s3.heap=s.heap.push {cls:=.type "list",data:=.seq ([]:List Value).toArray}:=by rw[<-hs3]
 obtain⟨W,⟨m0,w0⟩,turn⟩:=hw s.heap.objs.size I.fresh;have tnK:∀{h':Heap},(∀b o,s.heap.get? b=some o->h'.get? b=some o)->tn 0 h':=fun k=>T.keep _ _ _ h0 fun b hb o e=>k b o e;have YT:∀b∈fp,mU X pins (upd H s.heap.objs.size (.lst [])) b/\b<s3.heap.objs.size:=fun b hb=>by obtain⟨o,e,_⟩:=T.obj 0 _ h0 b hb;have lt:=Heap.lt_size e;obtain⟨f1,f2⟩:=hf b hb;exact⟨⟨by rw[aK (Nat.ne_of_lt lt)];exact f1,f2⟩,by rw[hsz];exact Nat.lt_succ_of_lt lt⟩
 rw[<-Mx]at hns hold bc ⊢;have I4:=Ey (t:=s3.toks) ok I3 YT bc hns hold;have W4:∀b o,s.heap.get? b=some o->h₁.get? b=some o:=fun b o e=>hold b o (by rw[Mx];exact Heap.get?_push_of_some _ e);generalize hX:qw X scope N' cs s3.heap.objs.size s3 (upd H s.heap.objs.size (.lst [])) fp=X' at I4;have hA:X'.A=X.A:=by rw[<-hX];rfl
 have hpr:X'.prog=X.prog:=by rw[<-hX];rfl
 have hwr:X'.w=X.w:=by rw[<-hX];rfl
 have hKK:X'.K=X.K:=by rw[<-hX];rfl
 have hcalm:X'.calm=true:=by rw[<-hX];exact hc
 have hxe:X'.xe=fun _ _=>False:=by rw[<-hX];rfl
 have henv:X'.env=compEnvC scope cs s3.heap.objs.size X.env:=by rw[<-hX];rfl
 have hg':PG X' target g:=by rw[<-hX];exact hg _ _ _ _ _
 have ht':Nt X' ifs tt:=by rw[<-hX];exact ht _ _ _ _ _
 have he':PE X' elt te:=by rw[<-hX];exact he _ _ _ _ _
 have ff:∀{H':Hp}{b:Addr},b∈fp->H' b=none->mU X' [] H' b:=fun{H' b}hb hn=>by
  obtain⟨f,lt⟩:=YT b hb;rw[<-hX];refine⟨hn,Nat.ne_of_lt lt,fun hfs=>?_,.inl hb,fun x c e=>?_,fun p hp=>by cases hp⟩
  . rcases List.mem_cons.mp (I3.tY b hfs)with h|h;.exact f.2.1 h
    .exact f.2.2.1 h
  . rcases bc.from' x c e with e|e;.exact f.2.2.2.2.1 x c e
    .rintro rfl;exact absurd (Nat.lt_trans e.1 lt) (Nat.lt_irrefl _)--behind the block
 have fin:∀{σ':L2.St}{H':Hp}{s':Shared},Inv X' [] σ' H' s'->Q s.heap.objs.size H'->RR (.ref s.heap.objs.size) s3.heap.objs.size (.ok .next) s':=fun{σ' H' s'}J' q=>by
  rw[<-hX]at J';have hC:H' s3.heap.objs.size=none:=J'.free;obtain⟨hh,gg,dd,tt',os'⟩:=s';have eos:os'=s3.os:=J'.os;subst eos;refine hRR _ _ _ H' q (let⟨m,hm,_⟩:=J'.loc;⟨m,hm⟩) ?_ (I3.call (h':=hh) (g':=gg) (d':=dd) (t':=tt') (ch:=fp) J'.base J'.hok J'.bare fun b hb=>?_);.exact I3.Bd (Nat.le_refl _) hC
  .obtain⟨f,lt⟩:=YT b hb;exact⟨f.2.2.2.1,f.2.1,f.2.2.2.2.1,f.2.2.2.2.2⟩
 have main:codeAny (model X.prog X.w) X.A (.compLoop (.ListComp elt [⟨target,iter,ifs,0⟩] scope pos) 0 (.ref it) (.ref s.heap.objs.size) X'.env) (RR (.ref s.heap.objs.size) s3.heap.objs.size) {s3 with heap:=h₁,toks:=s3.toks}:=by
  refine sU (fun k s'=>∃i ys σ' H',Inv X' [] σ' H' s'/\tn i s'.heap/\(∀b∈fp,H' b=none)/\W i k ys σ' H') (fun k s5 hI=>?_) m0 ⟨0,[],_,_,I4,tnK W4,fun b hb=>(YT b hb).1.1,w0⟩;obtain⟨i,ys,σ5,H5,I5,t5,f5,w5⟩:=hI;obtain⟨hD,hturn⟩:=turn i k ys σ5 H5 w5;have YW:∀{Z:Value->Shared->Prop},∀(e:Value)(s':Shared),X'.xe e s'->Z e s':=fun e s' z=>by rw[hxe]at z;exact False.elim z
  rcases hturn with⟨stop,q⟩|⟨go,step⟩;.have z:=T.done X' hpr hwr hKK hcalm i [] s5 σ5 H5 (fun _ _=>False) I5 (fun b hb=>ff hb (f5 b hb)) t5 stop;rw[hA]at z;refine wpAny_mono z (?_) fun _ _ z=>False.elim z;rintro r s6⟨hr,I6⟩;subst hr;exact fin I6 q
  . have z:=T.item X' hpr hwr hKK hcalm i [] s5 σ5 H5 (fun _ _=>False) I5 (fun b hb=>ff hb (f5 b hb)) t5 go;rw[hA]at z;refine wpAny_mono z (?_) fun _ _ z=>False.elim z;rintro r s6⟨u,hr,z6⟩;subst hr;refine wpAny_mono z6 (?_) fun _ _ z=>False.elim z;rintro _ s7⟨x,H7,I7,r7,y7,t7,f7⟩;have I7':=I7.pinned (fun b hb=>ff hb (f7 b hb)) (T.obj _ _ t7)--what the pins keep
    have back:∀{σ':L2.St}{H':Hp}{s':Shared},Inv X' ([]++o9 fp s7.heap) σ' H' s'->Inv X' [] σ' H' s'/\tn (i+1) s'.heap/\∀b∈fp,H' b=none:=fun{σ' H' s'}J'=>by refine⟨J'.j9,T.keep _ _ _ t7 fun b hb o e=>(J'.pin (b,o) (List.mem_append_right _ (List.mem_append_right _ (iG hb e)))).1,fun b hb=>?_⟩;obtain⟨o,e,_⟩:=T.obj _ _ t7 b hb;exact(J'.pin (b,o) (List.mem_append_right _ (List.mem_append_right _ (iG hb e)))).2.1
    have z7:=hg' _ s7 σ5 H7 x u _ I7' r7 (step x H7 y7);rw[hA,hpr,hwr]at z7;refine wpAny_mono z7 (?_) YW;rintro _ s8⟨σ8,H8,I8,q8⟩;have z8:=ht' _ s8 σ8 H8 _ I8 q8;rw[hA,hpr,hwr]at z8;refine wpAny_mono z8 (?_) YW;rintro b s9⟨H9,I9,q9⟩;cases b with|false=>rw[if_neg Bool.false_ne_true]at q9 ⊢;obtain⟨m',hm,w'⟩:=q9;obtain⟨b1,b2,b3⟩:=back I9;exact⟨m',hm,i+1,ys,σ8,H9,b1,b2,b3,w'⟩|true=>rw[if_pos rfl]at q9 ⊢;have z9:=he' _ s9 σ8 H9 _ I9 q9;rw[hA,hpr,hwr]at z9;refine wpAny_mono z9 (?_) YW;rintro y eV⟨yv,H10,I10,r10,abg,hlen,m',hm,w'⟩;have z10:=mK _ eV σ8 H10 (.ref s.heap.objs.size) [yv] (.ref s.heap.objs.size) [y] (fun v H11=>H11=upd H10 s.heap.objs.size (.lst (ys++[yv]))) I10 rfl (.cons r10 .nil) ⟨_,ys,yv,rfl,rfl,abg,hlen,rfl⟩;rw[hA,hpr,hwr]at z10;refine wpAny_mono z10 (?_) YW;rintro _ eO⟨_,H11,I11,_,e11⟩;subst e11;obtain⟨b1,b2,b3⟩:=back I11;exact⟨m',hm,i+1,ys++[yv],σ8,_,b1,b2,b3,w'⟩
 have e3:({s3 with heap:=h₁,toks:=s3.toks}:Shared)={s with heap:=h₁}:=by rw[<-hs3]
 rw[henv,e3]at main;exact codeAny_compStart_list main (T.self _ 0 _ _ _ (tnK W4) main)
end
end L2
end
section
namespace L2
open PySem PySem.Spec PyProof.Rows
section
variable{X:Cx}{elt target iter:Expr}{ifs:List Expr}{scope:Scope}{pos:Pos}{N':List Str}{n:Nat}{wi:TI}{g:TG}{tt:TT}{te:TE}
noncomputable def rB(n:Nat)(wi:TI)(g:TG)(tt:TT)(te:TE):TE:=fun σ H Q=>wi σ H fun J H1=>∀D,H1 D=none->∃W,(∃m,W 0 m [] (σ++List.replicate n none) (upd H1 D (.lst [])))/\K8 J g tt te D (fun H'=>Q (.ref D) H') W
theorem lL{pins:List (Addr×Obj)}{σ:L2.St}{H:Hp}{s:Shared}(I:Inv X pins σ H s)(ok:fP X scope N' n):∃cl,closureFor scope X.env=pure cl/\(∀n c,cl.lookup n=some c->X.env.cells.lookup n=some c)/\∀n,(n,NameKind.free)∈scope.names->(cl.lookup n).isSome:=xX fun m hm=>I.ok.has m (ok.cap (m,.free) hm rfl)
theorem J3(hc:X.calm=true)(ok:fP X scope N' n)(hi:PI X target iter wi)(hg:∀cl C s₀ H₀ ex,PG (qw X scope N' cl C s₀ H₀ ex) target g)(ht:∀cl C s₀ H₀ ex,Nt (qw X scope N' cl C s₀ H₀ ex) ifs tt)(he:∀cl C s₀ H₀ ex,PE (qw X scope N' cl C s₀ H₀ ex) elt te)(hs:∀x,foldedSetIterable iter X.env x=pure x:=by intro _;rfl):PE X (.ListComp elt [⟨target,iter,ifs,0⟩] scope pos) (rB n wi g tt te):=by intro pins s σ H Q I h;obtain⟨cl,hclos,hcl,yq⟩:=lL I ok;rw[eval_ListComp];refine wpAny_comprehension_free (use:=none) rfl hs hclos ok.kind ok.names (dz (hi pins s σ H _ I h) fun v s1 h1=>dz h1 fun itv s2 h2=>?_);obtain⟨it,fp,tn,J,H2,rfl,I2,T,t0,f2,hw⟩:=h2;refine qM (Q:=fun D H'=>Q (.ref D) H') (RR:=fun acc C=>compPost (model X.prog X.w) X.A X.xe none (EP X pins σ Q) acc C) hc ok I2 hcl yq T t0 f2 hg ht he hw fun D C s' H' q hm Cg I'=>?_;obtain⟨m,hm⟩:=hm;refine⟨m,hm,fun h' hs'=>⟨.ref D,H',?_,rfl,q⟩⟩;exact I'.turned (t':=s'.toks) (fun b o hb e=>hs'.extBut b o hb e) Cg.1 Cg.2.1 Cg.2.2.2.1 Cg.2.2.2.2.1 Cg.2.2.2.2.2
theorem yK{i:Nat}{x:Str}{pos' spos:Pos}(hc:X.calm=true)(hN:X.N.Nodup)(hx0:X.N[i]?=some x)(hx:Loc X.env.scope x)(ok:fP X scope N' n)(hi:PI X target iter wi)(hg:∀cl C s₀ H₀ ex,PG (qw X scope N' cl C s₀ H₀ ex) target g)(ht:∀cl C s₀ H₀ ex,Nt (qw X scope N' cl C s₀ H₀ ex) ifs tt)(he:∀cl C s₀ H₀ ex,PE (qw X scope N' cl C s₀ H₀ ex) elt te)(hsw:swapsWith (.ListComp elt [⟨target,iter,ifs,0⟩] scope pos) (some (.Name x pos')) spos.line X.env=pure true)(hs:∀x,foldedSetIterable iter X.env x=pure x:=by intro _;rfl)(hf:X.fn x=true\/X.env.scope.names.lookup x=some .local:=by first|exact .inl rfl|exact .inr rfl|assumption):PS X (.Assign [.Name x pos'] (.ListComp elt [⟨target,iter,ifs,0⟩] scope pos) spos) (Jp (rB n wi g tt te) (fj i)):=by
 intro pins s σ H D I h;obtain⟨cl,hclos,hcl,yq⟩:=lL I ok;rw[exec_Assign_Name_used _ _ _ _ hsw];refine wpAny_bind (wpAny_standAt (wpAny_bind ?_));show wpAny _ X.A (do let _<-comprehension (.ListComp elt [⟨target,iter,ifs,0⟩] scope pos) scope X.env _ (newList []) false (eval iter X.env) (some (assign (.Name x pos') X.env))) _ _ s;refine wpAny_bind (wpAny_mono (wpAny_comprehension_free (use:=some (assign (.Name x pos') X.env)) (Q:=fun _ s'=>SP X pins D .next s') rfl hs hclos ok.kind ok.names (dz (hi pins s σ H _ I h) fun v s1 h1=>dz h1 fun itv s2 h2=>?_)) (fun _ s' hq=>wpAny_pure (wpAny_pure hq)) fun _ _ e=>e);obtain⟨it,fp,tn,J,H2,rfl,I2,T,t0,f2,hw⟩:=h2;refine qM (Q:=fun Da H'=>D.nx (σ.set i (some (.ref Da))) H') (RR:=fun acc C=>compPost (model X.prog X.w) X.A X.xe (some (assign (.Name x pos') X.env)) (fun _ s'=>SP X pins D .next s') acc C) hc ok I2 hcl yq T t0 f2 hg ht he hw fun Da C s' H' q hm Cg I'=>?_;obtain⟨m,hm⟩:=hm;show wpAny _ X.A (assign (.Name x pos') X.env (.ref Da)) _ _ _;refine wpAny_assign_Name (qx I' hN hx0 hx (show RelV (.ref Da) (.ref Da)from rfl) (?_) hf);rintro s'' I''⟨a,sb,ha⟩;have hCa:C≠a:=by
  rcases ha with rfl|ha;.exact Cg.2.1
  .exact fun z=>Cg.2.2.2.2.1 x a ha z.symm
 refine⟨m,hm.sameBut sb hCa,fun h' hs'=>⟨_,H',?_,q⟩⟩;exact I''.turned (t':=s''.toks) (fun b o hb e=>hs'.extBut b o hb e) Cg.1 Cg.2.1 Cg.2.2.2.1 Cg.2.2.2.2.1 Cg.2.2.2.2.2
noncomputable def ZV(K:PySem.W.Frag)(tl:TE):TI:=fun σ H R=>tl σ H fun x H1=>∃a,x=.ref a/\(((∃xs,dX K H1 a xs)/\R (QD K a) H1)\/((∃xs,jH K H1 a xs)/\R (SN K a) H1))
theorem sW{tg l:Expr}{tl:TE}(hl:PE X l tl):PI X tg l (ZV X.K tl):=by
 intro pins s σ H R I h;refine dz (hl pins s σ H _ I h) ?_;rintro v s1⟨x,H1,I1,r1,q1⟩;obtain⟨a,e,q1⟩:=q1;subst e;cases r1;rcases q1 with⟨⟨xs,hq⟩,q⟩|⟨⟨xs,hq⟩,q⟩
 . obtain⟨its,rv,p,hz⟩:=I1.list hq;refine wpAny_pyIter_list p.isList ?_;refine⟨s1.heap.objs.size,[s1.heap.objs.size],_,_,H1,rfl,I1.kept (t':=s1.toks) fun b o e=>Heap.get?_push_of_some _ e,Bk a _,⟨_,Heap.get?_push_size _ rfl,rfl,rfl⟩,fun b hb=>?_,q⟩;have e:b=s1.heap.objs.size:=by simpa using hb
   subst e;exact I1.Bd (Nat.le_refl _) (I1.hok.fresh (Nat.le_refl _))
 . obtain⟨its,rv,p,hz⟩:=I1.tuple hq;refine wpAny_pyIter_tuple (show s1.heap.IsTuple a its.toArray from p) ?_;refine⟨s1.heap.objs.size,[s1.heap.objs.size],_,_,H1,rfl,I1.kept (t':=s1.toks) fun b o e=>Heap.get?_push_of_some _ e,xF a _,⟨_,Heap.get?_push_size _ rfl,rfl,rfl⟩,fun b hb=>?_,q⟩;have e:b=s1.heap.objs.size:=by simpa using hb
   subst e;exact I1.Bd (Nat.le_refl _) (I1.hok.fresh (Nat.le_refl _))
end
end L2
end
section
namespace HH
open PySem L2 PySem.Spec PyProof.Rows
structure Walk(K:PySem.W.Frag)(F:Hp)(ρ:List Sl)(σ:L2.St)(H:Hp)(ul:List Sl->List Sl)(J:It)(ds:List D)(F1:Hp)(ρ1:List Sl)(H1:Hp):Prop where
 gs:GS K F1 ρ1 σ H1
 src:∀(n k:Nat)(F':Hp)(ρ':List Sl)(σ':L2.St)(H':Hp),bF K F1 (ρ1++List.replicate n .au) (σ++List.replicate n none) H1 F' ρ' σ' H'->(∀d,ds[k]?=some d->J.go k H'/\∀x nC,J.Kw k H' x nC->∃F'',Ext F' H' F'' nC/\Rep K F'' x d)/\(ds.length<=k->J.stop k H')fin:∀F2 ρ2 σ2 H2,bF K F1 ρ1 σ H1 F2 ρ2 σ2 H2->bF K F ρ σ H F2 (ul ρ2) σ2 H2/\∀v r,cI K F2 ρ2 σ2 H2 ρ1 σ H1 v r->cI K F2 (ul ρ2) σ2 H2 ρ σ H v r
inductive tIt(K:PySem.W.Frag)(iv:Option Nat)(f:Ev)(σ:L2.St)(H:Hp)(R:It->Hp->Prop):Prop where|mk(F:Hp)(ρ:List Sl)(ds:List D)(ρ1:List Sl)(g:GS K F ρ σ H)(e:srcOf iv f ρ=.ok ds ρ1)(k:∀J F1 H1,Walk K F ρ σ H (bh ρ iv) J ds F1 ρ1 H1->R J H1)
section
variable{K:PySem.W.Frag}{F F1 H H1:Hp}{ρ ρ1:List Sl}{σ:L2.St}{ds:List D}{a:Addr}
theorem zL{xs:List V}{F' H':Hp}(hq:jH K H' a xs)(r:aL K F' xs ds)(s:aP F' H')(k:Nat):(∀d,ds[k]?=some d->(SN K a).go k H'/\∀x nC,(SN K a).Kw k H' x nC->∃F'',Ext F' H' F'' nC/\Rep K F'' x d)/\(ds.length<=k->(SN K a).stop k H'):=by refine⟨fun d hd=>?_,fun h=>⟨xs,hq,by rw[r.length];exact h⟩⟩;obtain⟨w,h1,h2⟩:=r.get hd;refine⟨⟨xs,w,hq,h1⟩,?_⟩;rintro x nC⟨e,y⟩;subst e;have:=y xs hq;rw[h1]at this;cases this;exact⟨F',.refl s,h2⟩
theorem pX{xs:List V}{F' H':Hp}(hq:dX K H' a xs)(r:aL K F' xs ds)(s:aP F' H')(k:Nat):(∀d,ds[k]?=some d->(QD K a).go k H'/\∀x nC,(QD K a).Kw k H' x nC->∃F'',Ext F' H' F'' nC/\Rep K F'' x d)/\(ds.length<=k->(QD K a).stop k H'):=by refine⟨fun d hd=>?_,fun h=>⟨xs,hq,by rw[r.length];exact h⟩⟩;obtain⟨w,h1,h2⟩:=r.get hd;refine⟨⟨xs,w,hq,h1⟩,?_⟩;rintro x nC⟨e,y⟩;subst e;have:=y xs hq;rw[h1]at this;cases this;exact⟨F',.refl s,h2⟩
theorem uT{ul:List Sl->List Sl}{v:V}{d:D}(s:bF K F ρ σ H F1 ρ1 σ H1)(r:Rep K F1 v d)(hi:items d=some ds)(fin:∀F2 ρ2 σ2 H2,bF K F1 ρ1 σ H1 F2 ρ2 σ2 H2->bF K F ρ σ H F2 (ul ρ2) σ2 H2/\∀v r,cI K F2 ρ2 σ2 H2 ρ1 σ H1 v r->cI K F2 (ul ρ2) σ2 H2 ρ σ H v r):∃a,v=.ref a/\(((∃xs,dX K H1 a xs)/\Walk K F ρ σ H ul (QD K a) ds F1 ρ1 H1)\/((∃xs,jH K H1 a xs)/\Walk K F ρ σ H ul (SN K a) ds F1 ρ1 H1)):=by cases d with|tup es=>cases hi;rw[Rep]at r;obtain⟨a,xs,rfl,h1,h2⟩:=r;exact⟨a,rfl,.inr ⟨⟨xs,aP.iw s.gs.sub h1⟩,s.gs,fun n k F' ρ' σ' H' s'=>zL (aP.iw s'.gs.sub (aP.iw s'.bK h1)) (h2.mono s'.bK) s'.gs.sub k,fin⟩⟩|lst es=>cases hi;rw[Rep]at r;obtain⟨a,xs,rfl,h1,h2⟩:=r;exact⟨a,rfl,.inl ⟨⟨xs,s.gs.sub.seq h1⟩,s.gs,fun n k F' ρ' σ' H' s'=>pX (s'.gs.sub.seq (s'.bK.seq h1)) (h2.mono s'.bK) s'.gs.sub k,fin⟩⟩|_=>cases hi
theorem qL{i:Nat}{ul:List Sl->List Sl}(g:GS K F ρ1 σ H)(e:ρ1[i]?=some (.lent ds))(fin:∀F2 ρ2 σ2 H2,bF K F ρ1 σ H F2 ρ2 σ2 H2->bF K F ρ σ H F2 (ul ρ2) σ2 H2/\∀v r,cI K F2 ρ2 σ2 H2 ρ1 σ H v r->cI K F2 (ul ρ2) σ2 H2 ρ σ H v r):∃a,σ[i]?=some (some (.ref a))/\(∃xs,dX K H a xs)/\Walk K F ρ σ H ul (QD K a) ds F ρ1 H:=by obtain⟨a,xs,h1,h2,h3,h4⟩:=g.tW i _ ds e rfl;have hi:i<ρ1.length:=(List.getElem?_eq_some_iff.mp e).1;refine⟨a,h1,⟨xs,dX.of h2⟩,g,fun n k F' ρ' σ' H' s'=>?_,fin⟩;obtain⟨z1,t,z2,z3⟩:=s'.lk i _ (by rw[List.getElem?_append_left hi];exact e) rfl;cases(show t=.lent ds from z3);rw[List.getElem?_append_left (by rw[<-g.len];exact hi),h1]at z1;obtain⟨a',ys,w1,w2,w3,w4⟩:=s'.gs.tW i _ ds z2 rfl;rw[z1]at w1;cases w1;exact pX (dX.of w2) w4 s'.gs.sub k
end
section
variable{X:Cx}{c:Call}{n:Nat}{e a b d tg:Expr}{p pa pb pd:P}{pos:Pos}
theorem mX{t t':TI}(h:PI X tg e t)(i:∀σ H R,t' σ H R->t σ H R):PI X tg e t':=fun pins s σ H R I q=>h pins s σ H R I (i σ H R q)
noncomputable def SI(X:Cx)(c:Call)(tg e:Expr)(p:P):Prop:=PI X tg e (tIt X.K (isVar p) (HH.ev c p))
theorem dO(h:SX X c e p):SI X c tg e p:=by unfold SI;cases hv:isVar p with|none=>refine mX (sW h.ev) ?_;rintro σ H R⟨F,ρ,ds,ρ1,g,e,k⟩;obtain⟨r,ρ2,e1,e2⟩:=aj e;have zz:=aF e2;clear e2;obtain⟨e2,e3⟩:=zz;subst e3;refine⟨F,ρ,r,_,g,e1,fun v F' H' s rr=>?_⟩;obtain⟨F2,s2,_,rp⟩:=s.fH rr;obtain⟨a,ha,hw⟩:=uT (ul:=bh ρ none) s2 rp e2 fun F3 ρ3 σ3 H3 s3=>⟨s2.trans s3,fun v r rr=>rr.later s2⟩;exact⟨a,ha,hw.imp (fun⟨z,w⟩=>⟨z,k _ _ _ w⟩) (fun⟨z,w⟩=>⟨z,k _ _ _ w⟩)⟩|some i=>
   refine mX (sW (h.var i hv)) ?_;rintro σ H R⟨F,ρ,ds,ρ1,g,e,k⟩;unfold srcOf at e;dsimp only at e;split at e
   . rename_i b d q;have zz:=aF e;clear e;obtain⟨e2,e3⟩:=zz;subst e3;obtain⟨v,h1,h2⟩:=g.val i b d q;have fin:∀F2 ρ2 σ2 H2,bF X.K F ρ σ H F2 ρ2 σ2 H2->bF X.K F ρ σ H F2 (bh ρ (some i) ρ2) σ2 H2/\∀v r,cI X.K F2 ρ2 σ2 H2 ρ σ H v r->cI X.K F2 (bh ρ (some i) ρ2) σ2 H2 ρ σ H v r:=fun F2 ρ2 σ2 H2 s=>by unfold bh;dsimp only;rw[q];exact⟨s,fun _ _ z=>z⟩
     obtain⟨a,ha,hw⟩:=uT (ul:=bh ρ (some i)) (.refl g) h2 e2 fin;exact⟨v,h1,a,ha,hw.imp (fun⟨z,w⟩=>⟨z,k _ _ _ w⟩) (fun⟨z,w⟩=>⟨z,k _ _ _ w⟩)⟩
   . rename_i b ds' q;cases e;have hi:i<ρ.length:=(List.getElem?_eq_some_iff.mp q).1;have fin:∀F2 ρ2 σ2 H2,bF X.K F (ρ.set i (.lent ds)) σ H F2 ρ2 σ2 H2->bF X.K F ρ σ H F2 (bh ρ (some i) ρ2) σ2 H2/\∀v r,cI X.K F2 ρ2 σ2 H2 (ρ.set i (.lent ds)) σ H v r->cI X.K F2 (bh ρ (some i) ρ2) σ2 H2 ρ σ H v r:=fun F2 ρ2 σ2 H2 s=>by unfold bh;dsimp only;rw[q];exact bF.bh g q s
     obtain⟨a,h1,hx,w⟩:=qL (ul:=bh ρ (some i)) (g.lend q) (List.getElem?_set_self hi) fin;exact⟨_,h1,a,rfl,.inl ⟨hx,k _ _ _ w⟩⟩
   . rename_i ds' q;cases e;have fin:∀F2 ρ2 σ2 H2,bF X.K F ρ σ H F2 ρ2 σ2 H2->bF X.K F ρ σ H F2 (bh ρ (some i) ρ2) σ2 H2/\∀v r,cI X.K F2 ρ2 σ2 H2 ρ σ H v r->cI X.K F2 (bh ρ (some i) ρ2) σ2 H2 ρ σ H v r:=fun F2 ρ2 σ2 H2 s=>by unfold bh;dsimp only;rw[q];exact⟨s,fun _ _ z=>z⟩
     obtain⟨a,h1,hx,w⟩:=qL (ul:=bh ρ (some i)) g q fin;exact⟨_,h1,a,rfl,.inl ⟨hx,k _ _ _ w⟩⟩
   .cases e
theorem v7{K:PySem.W.Frag}{F F1 H H1:Hp}{ρ ρ1:List Sl}{σ:L2.St}(s:bF K F ρ σ H F1 ρ1 σ H1)(i j:Int):Walk K F ρ σ H (bh ρ none) (Rv i (j-i).toNat) ((List.range (j-i).toNat).map fun(k:Nat)=>D.int (i+(k:Int))) F1 ρ1 H1:=by
 refine⟨s.gs,fun n k F' ρ' σ' H' s'=>⟨fun d hd=>?_,fun h=>?_⟩,fun F3 ρ3 σ3 H3 s3=>⟨s.trans s3,fun v r rr=>rr.later s⟩⟩;.rw[List.getElem?_map]at hd;obtain⟨m,e1,e2⟩:=map_some hd;obtain⟨h1,h2⟩:=List.getElem?_eq_some_iff.mp e1;rw[List.getElem_range]at h2;subst h2;subst e2;rw[List.length_range]at h1;refine⟨h1,?_⟩;rintro x nC⟨q1,q2⟩;subst q1;subst q2;exact⟨F',.refl s'.gs.sub,bJ _⟩
 .rw[List.length_map,List.length_range]at h;exact h
theorem cj{x:Str}{p':Pos}(hx:x="range")(hg:Gl X x)(hm:X.mg x=none)(ha:SX X c a pa)(hs:starEach [a] X.env=[(false,eval a X.env)]:=by rfl):SI X c tg (.Call (.Name x p') [a] [] pos) (.lW (.con (.int 0)) pa):=by
 subst hx;obtain⟨ta,h1,h2⟩:=ha.bI;refine mX (Bp hg hm (cH h1 gO hs) hs) ?_;rintro σ H R⟨F,ρ,ds,ρ1,g,e,k⟩;obtain⟨r,ρ2,e1,e2⟩:=aj e;have zz:=aF e2;clear e2;obtain⟨e2,e3⟩:=zz;subst e3;rw[HH.E20]at e1;obtain⟨xy,ρ3,e4,e5⟩:=aj e1;have zz:=aF e5;clear e5;obtain⟨e5,e6⟩:=zz;subst e6;obtain⟨y0,ρ5,e9,e10⟩:=aj e4;cases e10;obtain⟨i,f1,e5⟩:=aW e5;obtain⟨j,f2,e5⟩:=aW e5;obtain⟨⟨b1,b2,b3,b4⟩,e5⟩:=bw e5;have f1:i=0:=by cases f1;rfl
 subst f1;subst e5;cases e2;cases aY f2;refine h2 g e9 fun v F' H' s pv=>⟨j,by rw[pv.int],by omega,by omega,?_⟩;have:=v7 s 0 j;rw[Int.sub_zero]at this;refine k _ F' H' ?_;rw[Int.sub_zero];exact this
theorem JG{x:Str}{p':Pos}(hx:x="range")(hg:Gl X x)(hm:X.mg x=none)(ha:SX X c a pa)(hb:SX X c b pb)(hs:starEach [a,b] X.env=[(false,eval a X.env),(false,eval b X.env)]:=by rfl)(hs2:starEach [b] X.env=[(false,eval b X.env)]:=by rfl):SI X c tg (.Call (.Name x p') [a,b] [] pos) (.lW pa pb):=by subst hx;obtain⟨ta,tb,h1,h2,h3⟩:=ha.iB hb;refine mX (rF hg hm (cH h1 (cH h2 gO hs2) (by rw[hs,hs2])) hs hs2) ?_;rintro σ H R⟨F,ρ,ds,ρ1,g,e,k⟩;obtain⟨r,ρ2,e1,e2⟩:=aj e;have zz:=aF e2;clear e2;obtain⟨e2,e3⟩:=zz;subst e3;rw[HH.E20]at e1;obtain⟨xy,ρ3,e4,e5⟩:=aj e1;have zz:=aF e5;clear e5;obtain⟨e5,e6⟩:=zz;subst e6;obtain⟨i,f1,e5⟩:=aW e5;obtain⟨j,f2,e5⟩:=aW e5;obtain⟨⟨b1,b2,b3,b4⟩,e5⟩:=bw e5;subst e5;cases e2;refine h3 g e4 fun v u F' H' s pv pu=>⟨i,j,?_,by omega,k _ F' H' (v7 s i j)⟩;have e1:=aY f1;have e2:=aY f2;rw[e1]at pv;rw[e2]at pu;rw[pv.int,pu.int]
end
end HH
end
section
namespace HH
open PySem L2 PySem.Spec PyProof.Rows
section
variable{X:Cx}{c:Call}{n:Nat}{e a b d tg iter:Expr}{p pa pb pd:P}{pos:Pos}{body:List Stmt}{ss:List S}
noncomputable def Du(K:PySem.W.Frag)(bd:List Sl->D->Option (List Sl))(g:TG):Prop:=∀(x:V)(d:D)(F:Hp)(ρ ρ':List Sl)(σ:L2.St)(H:Hp)(Q:L2.St->Hp->Prop),GS K F ρ σ H->Rep K F x d->bd ρ d=some ρ'->(∀σ',bF K F ρ σ H F ρ' σ' H->Q σ' H)->g x σ H Q
theorem yW{K:PySem.W.Frag}(i:Nat):Du K (fun ρ d=>put ρ i (.val false d)) (fj i):=fun x d F ρ ρ' σ H Q g r h k=>k _ (bF.put (r:=.val d) (.refl g) r h)
theorem aQ{K:PySem.W.Frag}:∀(is:List Nat)(gs:Cq),(∀(xs:List V)(ds:List D)(F:Hp)(ρ ρ':List Sl)(σ:L2.St)(H:Hp)(Q:L2.St->Hp->Prop),GS K F ρ σ H->aL K F xs ds->putAll ρ is ds=some ρ'->(∀σ',bF K F ρ σ H F ρ' σ' H->Q σ' H)->gs xs σ H Q)->∀i,∀(xs:List V)(ds:List D)(F:Hp)(ρ ρ':List Sl)(σ:L2.St)(H:Hp)(Q:L2.St->Hp->Prop),GS K F ρ σ H->aL K F xs ds->putAll ρ (i::is) ds=some ρ'->(∀σ',bF K F ρ σ H F ρ' σ' H->Q σ' H)->kW (fj i) gs xs σ H Q:=by intro is gs ih i xs ds F ρ ρ' σ H Q g r h k;cases ds with|nil=>simp[putAll]at h|cons d ds=>obtain⟨v,vs,rfl,h1,h2⟩:=r.cG;rw[putAll]at h;obtain⟨ρ1,e1,e2⟩:=aW h;have s1:=bF.put (r:=.val d) (.refl g) h1 e1;refine⟨v,vs,rfl,ih vs ds F ρ1 ρ' _ H _ s1.gs h2 e2 fun σ' s2=>k σ' (s1.trans s2)⟩
theorem cY{K:PySem.W.Frag}:∀(xs:List V)(ds:List D)(F:Hp)(ρ ρ':List Sl)(σ:L2.St)(H:Hp)(Q:L2.St->Hp->Prop),GS K F ρ σ H->aL K F xs ds->putAll ρ [] ds=some ρ'->(∀σ',bF K F ρ σ H F ρ' σ' H->Q σ' H)->GP xs σ H Q:=by intro xs ds F ρ ρ' σ H Q g r h k;cases ds with|nil=>rw[putAll]at h;cases h;exact⟨r.gG,k σ (.refl g)⟩|cons d ds=>simp[putAll]at h
theorem jP:∀{is:List Nat}{ds:List D}{ρ ρ':List Sl},putAll ρ is ds=some ρ'->ds.length=is.length|[],[],_,_,_=>rfl|[],_::_,_,_,h=>by simp[putAll]at h|_::_,[],_,_,h=>by simp[putAll]at h|i::is,d::ds,ρ,ρ',h=>by rw[putAll]at h;obtain⟨ρ1,e1,e2⟩:=aW h;simp[jP e2]
theorem eY{K:PySem.W.Frag}{is:List Nat}{gs:Cq}{m:Nat}(hm:m=is.length)(h:∀(xs:List V)(ds:List D)(F:Hp)(ρ ρ':List Sl)(σ:L2.St)(H:Hp)(Q:L2.St->Hp->Prop),GS K F ρ σ H->aL K F xs ds->putAll ρ is ds=some ρ'->(∀σ',bF K F ρ σ H F ρ' σ' H->Q σ' H)->gs xs σ H Q):Du K (fun ρ d=>bV ρ is false d) (Dd K m gs):=by intro x d F ρ ρ' σ H Q g r hb k;replace hb:bV ρ is false d=some ρ':=hb;cases d with|tup ds=>replace hb:putAll ρ is ds=some ρ':=hb;rw[Rep]at r;obtain⟨a,xs,rfl,h1,h2⟩:=r;exact⟨a,xs,rfl,aP.iw g.sub h1,by rw[h2.length,jP hb,hm],h xs _ F ρ ρ' σ H Q g h2 hb k⟩|_=>cases hb
theorem iZ{g:TG}{is:List Nat}{one:Bool}(hp:PassesOwn (model X.prog X.w) X.A X.env X.xe)(hc:X.calm=true)(hi:SI X c tg iter p)(hg:PG X tg g)(hgo:Du X.K (fun ρ d=>bV ρ is one d) g)(hb:SB X c n body ss)(hs:∀x,foldedSetIterable iter X.env x=pure x:=by intro _;rfl):SS X c n (.For tg iter body [] pos) (.gC p is one ss):=by
 refine dD (xQ hp hc hi hg hb hs) ?_;rintro D σ H⟨F,ρ,fl,ρ',g0,e,k⟩;rw[HH.X14]at e;obtain⟨ds,ρ1,e1,e⟩:=aj e;obtain⟨fl',ρ2,e2,e⟩:=aj e;cases e;refine⟨F,ρ,ds,ρ1,g0,e1,fun J F1 H1 w=>?_⟩;have src:∀(i:Nat)(F':Hp)(ρ':List Sl)(σ':L2.St)(H':Hp),bF X.K F1 ρ1 σ H1 F' ρ' σ' H'->(∀d,ds[i]?=some d->J.go i H'/\∀x nC,J.Kw i H' x nC->∃F'',Ext F' H' F'' nC/\Rep X.K F'' x d)/\(ds.length<=i->J.stop i H'):=fun i F' ρ' σ' H' s=>w.src 0 i F' ρ' σ' H' (by simpa using s);refine⟨fun i m σi Hi=>∃Fi ρi,bF X.K F1 ρ1 σ H1 Fi ρi σi Hi/\m=ds.length-i/\i<=ds.length/\gB is one (eG c n ss) (ds.drop i) ρi=.ok fl ρ2,⟨_,F1,ρ1,.refl w.gs,rfl,Nat.zero_le _,e2⟩,?_⟩;rintro i m σi Hi⟨Fi,ρi,si,rfl,hle,ei⟩;obtain⟨s1,s2⟩:=src i Fi ρi σi Hi si;by_cases hlt:i<ds.length
 . right;have hd:ds[i]?=some ds[i]:=by simp[hlt]
   obtain⟨go,step⟩:=s1 _ hd;refine⟨go,fun σ' H'=>∃m',m'<ds.length-i/\∃Fi ρi,bF X.K F1 ρ1 σ H1 Fi ρi σ' H'/\m'=ds.length-(i+1)/\i+1<=ds.length/\gB is one (eG c n ss) (ds.drop (i+1)) ρi=.ok fl ρ2,fun σ' H' z=>z,fun x H' y=>?_⟩;obtain⟨F2,ext,rx⟩:=step x H' y;have si2:=si.trans (ext.stp si.gs);rw[List.drop_eq_getElem_cons hlt,gB]at ei;cases hbd:bV ρi is one ds[i]with|none=>rw[hbd]at ei;cases ei|some ρb=>rw[hbd]at ei;obtain⟨flb,ρc,eb,ei⟩:=aj ei;refine hgo x _ F2 ρi ρb σi H' _ si2.gs rx hbd fun σ2 sb=>?_;have si3:=si2.trans sb;refine⟨F2,ρb,flb,ρc,si3.gs,eb,fun F4 σ4 H4 s4=>?_⟩;have YX:=si3.trans s4;cases flb with|next=>exact⟨_,by omega,F4,ρc,YX,rfl,hlt,ei⟩|cont=>exact⟨_,by omega,F4,ρc,YX,rfl,hlt,ei⟩|brk=>cases ei;exact k F4 σ4 H4 (w.fin _ _ _ _ YX).1|ret r=>cases ei;intro v rr;obtain⟨z1,z2⟩:=w.fin _ _ _ _ YX;exact k F4 σ4 H4 z1 v (z2 v r (rr.later si3))
 . left;have hdr:ds.drop i=[]:=by rw[List.drop_eq_nil_iff];omega
   rw[hdr,gB]at ei;cases ei;exact⟨s2 (by omega),k Fi σi Hi (w.fin _ _ _ _ si).1⟩
theorem qG(i:Nat):(fun(ρ:List Sl)(d:D)=>bV ρ [i] true d)=fun ρ d=>put ρ i (.val false d):=by funext ρ d;rfl
theorem dR{i:Nat}{x:Str}{pos':Pos}(hp:PassesOwn (model X.prog X.w) X.A X.env X.xe)(hc:X.calm=true)(hN:X.N.Nodup)(hx0:X.N[i]?=some x)(hx:Loc X.env.scope x)(hi:SI X c (.Name x pos') iter p)(hb:SB X c n body ss)(hs:∀x,foldedSetIterable iter X.env x=pure x:=by intro _;rfl)(hf:X.fn x=true\/X.env.scope.names.lookup x=some .local:=by first|exact .inl rfl|exact .inr rfl|assumption):SS X c n (.For (.Name x pos') iter body [] pos) (.gC p [i] true ss):=iZ hp hc hi (aA hN hx0 hx hf) (by rw[qG];exact yW i) hb hs
end
end HH
end
section
namespace HH
open PySem L2 PySem.Spec PyProof.Rows
section
variable{X:Cx}{c:Call}{n:Nat}{e elt tg iter:Expr}{p ps pe:P}{pos:Pos}{scope:Scope}{N':List Str}{ifs:List Expr}
theorem Q5{t t':TE}(h:PE X e t)(i:∀σ H Q,σ.length=X.N.length->t' σ H Q->t σ H Q):PE X e t':=fun pins s σ H Q I q=>h pins s σ H Q I (i σ H Q I.len q)
theorem MP{st:Stmt}{t t':TS}(h:PS X st t)(i:∀D σ H,σ.length=X.N.length->t' D σ H->t D σ H):PS X st t':=fun pins s σ H D I q=>h pins s σ H D I (i D σ H I.len q)
noncomputable def m9(K:PySem.W.Frag)(m:Nat)(is:List Nat)(one:Bool)(g:TG):Prop:=∀(x:V)(d:D)(F:Hp)(ρ ρ':List Sl)(σ:L2.St)(H:Hp)(Q:L2.St->Hp->Prop),GS K F ρ σ H->Rep K F x d->bV ρ is one d=some ρ'->(∀σ',bF K F ρ σ H F ρ' σ' H->σ'.take m=σ.take m->Q σ' H)->g x σ H Q
theorem take_set{α:Type}{l:List α}{i m:Nat}{a:α}(h:m<=i):(l.set i a).take m=l.take m:=by rw[List.take_set_of_le h]
theorem bY{K:PySem.W.Frag}{i m:Nat}(h:m<=i):m9 K m [i] true (fj i):=fun x d F ρ ρ' σ H Q g r hb k=>k _ (bF.put (r:=.val d) (.refl g) r hb) (take_set h)
noncomputable def Ja(K:PySem.W.Frag)(m:Nat)(is:List Nat)(gs:Cq):Prop:=∀(xs:List V)(ds:List D)(F:Hp)(ρ ρ':List Sl)(σ:L2.St)(H:Hp)(Q:L2.St->Hp->Prop),GS K F ρ σ H->aL K F xs ds->putAll ρ is ds=some ρ'->(∀σ',bF K F ρ σ H F ρ' σ' H->σ'.take m=σ.take m->Q σ' H)->gs xs σ H Q
theorem fB{K:PySem.W.Frag}{m i:Nat}{is:List Nat}{gs:Cq}(hi:m<=i)(ih:Ja K m is gs):Ja K m (i::is) (kW (fj i) gs):=by intro xs ds F ρ ρ' σ H Q g r h k;cases ds with|nil=>simp[putAll]at h|cons d ds=>obtain⟨v,vs,rfl,h1,h2⟩:=r.cG;rw[putAll]at h;obtain⟨ρ1,e1,e2⟩:=aW h;have s1:=bF.put (r:=.val d) (.refl g) h1 e1;exact⟨v,vs,rfl,ih vs ds F ρ1 ρ' _ H _ s1.gs h2 e2 fun σ' s2 z=>k σ' (s1.trans s2) (z.trans (take_set hi))⟩
theorem n6{K:PySem.W.Frag}{m:Nat}:Ja K m [] GP:=by intro xs ds F ρ ρ' σ H Q g r h k;cases ds with|nil=>rw[putAll]at h;cases h;exact⟨r.gG,k σ (.refl g) rfl⟩|cons d ds=>simp[putAll]at h
theorem oA{K:PySem.W.Frag}{is:List Nat}{gs:Cq}{m l:Nat}(hm:l=is.length)(h:Ja K m is gs):m9 K m is false (Dd K l gs):=by intro x d F ρ ρ' σ H Q g r hb k;cases d with|tup ds=>replace hb:putAll ρ is ds=some ρ':=hb;rw[Rep]at r;obtain⟨a,xs,rfl,h1,h2⟩:=r;exact⟨a,xs,rfl,aP.iw g.sub h1,by rw[h2.length,jP hb,hm],h xs _ F ρ ρ' σ H Q g h2 hb k⟩|_=>cases hb
noncomputable def SQ(X:Cx)(c:Call)(ifs:List Expr)(t:Option P):Prop:=Nt X ifs (Gz X.K (j5 c t))
theorem cO:SQ X c [] none:=fun pins s σ H Q I⟨F,ρ,k,ρ',g,e,q⟩=>by rw[j5]at e;cases e;exact Kg pins s σ H Q I (q F H (.refl g))
theorem nW(h:ST X c e p):SQ X c [e] (some p):=fun pins s σ H Q I⟨F,ρ,k,ρ',g,e,q⟩=>by rw[j5]at e;exact Ig h pins s σ H Q I ⟨F,ρ,k,ρ',g,e,q⟩
theorem bF.Ec{K:PySem.W.Frag}{F H F1 H1:Hp}{ρ ρ1:List Sl}{σ σ1:L2.St}{Da:Addr}{o:HO}(s:bF K F ρ σ H F1 ρ1 σ1 H1)(h:H Da=none)(hf:F1 Da=none)(ho:¬ Own ρ1 σ1 Da):bF K F ρ σ H F1 ρ1 σ1 (upd H1 Da o):=by
 refine⟨⟨fun b u e=>?_,s.gs.len,s.gs.val,fun i t ds e e'=>?_,s.gs.dis⟩,s.bK,s.wG,fun b u e n=>?_,s.uh,s.len,s.lk⟩
 . have:b≠Da:=by rintro rfl;rw[hf]at e;cases e
   rw[aK this];exact s.gs.sub b u e
 . obtain⟨a,xs,q1,q2,q3,q4⟩:=s.gs.own i t ds e e';have:a≠Da:=by rintro rfl;exact ho ⟨i,⟨t,ds,e,e'⟩,q1⟩
   exact⟨a,xs,q1,by rw[aK this];exact q2,q3,q4⟩
 . have:b≠Da:=by rintro rfl;rw[h]at e;cases e
   rw[aK this];exact s.keep b u e n
theorem Ds{K:PySem.W.Frag}{F H:Hp}{ρ ρ1 ρ2:List Sl}{σ:L2.St}{ul:List Sl->List Sl}{ti:TI}{is:List Nat}{one:Bool}{test:List Sl->Res Bool}{el:Ev}{g:TG}{Q:VK}{ds xs:List D}{m:Nat}(hm:σ.length=m)(hgo:m9 K m is one g)(hti:∀R:It->Hp->Prop,(∀J F1 H1,Walk K F ρ σ H ul J ds F1 ρ1 H1->R J H1)->ti σ H R)(hlim:ds.length<=lim)(e2:turns is one test el ds [] (ρ1++List.replicate n .au)=.ok xs ρ2)(k:∀v F' H',bF K F ρ σ H F' (ul (ρ2.take ρ1.length)) σ H'->cI K F' (ul (ρ2.take ρ1.length)) σ H' ρ σ H v (.own xs)->Q v H'):rB n ti g (Gz K test) (yh K el) σ H Q:=by
 refine hti _ fun J F1 H1 w Da Af=>?_;have hl1:ρ1.length=σ.length:=w.gs.len;have gm:=w.gs.more (n:=n) (τ:=List.replicate n none) (by simp);have fD:F1 Da=none:=by cases q:F1 Da with|none=>rfl|some o=>rw[w.gs.sub Da o q]at Af;cases Af
 have nO:¬ Own (ρ1++List.replicate n .au) (σ++List.replicate n none) Da:=fun⟨i,⟨t,dt,q1,q2⟩,q3⟩=>by obtain⟨a,ys,z1,z2,_⟩:=gm.own i t dt q1 q2;rw[q3]at z1;cases z1;rw[Af]at z2;cases z2
 refine⟨fun i mm ys σi Hi=>∃Fi ρi acc,bF K F1 (ρ1++List.replicate n .au) (σ++List.replicate n none) H1 Fi ρi σi Hi/\σi.take m=σ/\Hi Da=some (.lst ys)/\Fi Da=none/\¬ Own ρi σi Da/\aL K Fi ys acc/\acc.length<=i/\mm=ds.length-i/\i<=ds.length/\turns is one test el (ds.drop i) acc ρi=.ok xs ρ2,⟨_,F1,_,[],(bF.refl gm).Ec Af fD nO,by rw[List.take_append_of_le_length (by omega),List.take_of_length_le (by omega)],aX,fD,nO,.nil,Nat.zero_le _,rfl,Nat.zero_le _,e2⟩,?_⟩;rintro i mm ys σi Hi⟨Fi,ρi,acc,si,hσ,hD,hF,hO,rs,hacc,rfl,hle,ei⟩;refine⟨hD,?_⟩--what stays of the new list through a step
 have stay:∀{F2 H2:Hp}{ρ3:List Sl}{σ2:L2.St},bF K Fi ρi σi Hi F2 ρ3 σ2 H2->H2 Da=some (.lst ys)/\F2 Da=none/\¬ Own ρ3 σ2 Da:=fun{F2 H2 ρ3 σ2}s=>by
  refine⟨s.keep Da _ hD hO,?_,fun o=>?_⟩;.cases q:F2 Da with|none=>rfl|some o=>
      rcases s.wG Da hF (by rw[q];simp)with z|z;.exact absurd z hO
      .exact(FW hD z).elim
  . rcases s.uh Da o with z|z;.exact hO z
    .rw[hD]at z;cases z
 obtain⟨s1,s2⟩:=w.src n i Fi ρi σi Hi si;by_cases hlt:i<ds.length
 . right;have hd:ds[i]?=some ds[i]:=by simp[hlt]
   obtain⟨go,step⟩:=s1 _ hd;refine⟨go,fun x H2 y=>?_⟩;obtain⟨F2,ext,rx⟩:=step x H2 y;have t2:=ext.stp si.gs;rw[List.drop_eq_getElem_cons hlt,turns]at ei;cases hbd:bV ρi is one ds[i]with|none=>rw[hbd]at ei;cases ei|some ρb=>rw[hbd]at ei;obtain⟨bb,ρc,eb,ei⟩:=aj ei;refine hgo x _ F2 ρi ρb σi H2 _ t2.gs rx hbd fun σ2 sb htk=>?_;have t3:=t2.trans sb;refine⟨F2,ρb,bb,ρc,t3.gs,eb,fun F4 H4 s4=>?_⟩;have t4:=t3.trans s4;cases bb with|false=>rw[if_neg Bool.false_ne_true]at ei;obtain⟨y1,y2,y3⟩:=stay t4;exact⟨_,by omega,F4,ρc,acc,si.trans t4,htk.trans hσ,y1,y2,y3,rs.mono t4.bK,by omega,rfl,hlt,ei⟩|true=>
       rw[if_pos rfl]at ei;obtain⟨re,ρe,ee,ei⟩:=aj ei;refine(show yh K el σ2 H4 _ from⟨F4,ρc,re,ρe,t4.gs,ee,fun v F5 H5 s5 rr=>?_⟩);obtain⟨F6,s6,_,rp⟩:=s5.fH rr;have t6:=t4.trans s6;obtain⟨y1,y2,y3⟩:=stay t6;have hlen:ys.length<sizeLine:=by have h1:=rs.length;have h2:lim=sizeLine:=rfl;omega
       exact⟨y1,hlen,_,by omega,F6,ρe,acc++[re.d],(si.trans t6).Ec Af y2 y3,htk.trans hσ,aX,y2,y3,(rs.mono t6.bK).append (.cons rp .nil),by simp;omega,rfl,hlt,ei⟩
 . left;have hdr:ds.drop i=[]:=by rw[List.drop_eq_nil_iff];omega
   rw[hdr,turns]at ei;cases ei;refine⟨s2 (by omega),?_⟩;obtain⟨l1,l2⟩:=bF.less (m:=ρ1.length) rfl w.gs (by simp) si;have hst:σi.take ρ1.length=σ:=by rw[hl1,hm];exact hσ
   rw[hst]at l1;have rr:cI K Fi ρ2 σi Hi (ρ1++List.replicate n .au) (σ++List.replicate n none) H1 (.ref Da) (.own xs):=⟨Da,ys,rfl,hD,hF,rs,hO,.inr Af⟩;have Mz:=l2 _ _ rr;rw[hst]at Mz;obtain⟨z1,z2⟩:=w.fin _ _ _ _ l1;exact k _ Fi Hi z1 (z2 _ _ Mz)
theorem zB{K:PySem.W.Frag}{F H:Hp}{ρ:List Sl}{σ:L2.St}{iv:Option Nat}{f:Ev}{is:List Nat}{one:Bool}{test:List Sl->Res Bool}{el:Ev}{g:TG}{Q:VK}{r:R}{ρ':List Sl}{m:Nat}(hm:σ.length=m)(hgo:m9 K m is one g)(g0:GS K F ρ σ H)(e:((srcOf iv f ρ).bind fun ds ρ₁=>if ds.length<=lim then(turns is one test el ds [] (ρ₁++List.replicate n .au)).bind fun xs ρ₂=>Res.ok (R.own xs) (bh ρ iv (ρ₂.take ρ₁.length))else .stuck)=.ok r ρ')(k:∀v F' H',bF K F ρ σ H F' ρ' σ H'->cI K F' ρ' σ H' ρ σ H v r->Q v H'):rB n (tIt K iv f) g (Gz K test) (yh K el) σ H Q:=by
 obtain⟨ds,ρ1,e1,e⟩:=aj e;split at e;.rename_i hlim;obtain⟨xs,ρ2,e2,e⟩:=aj e;cases e;exact Ds hm hgo (fun R h=>⟨F,ρ,ds,ρ1,g0,e1,h⟩) hlim e2 k
 .cases e
theorem dM{g:TG}{is:List Nat}{one:Bool}{t:Option P}(hc:X.calm=true)(ok:fP X scope N' n)(hi:SI X c tg iter ps)(hg:∀cl C s₀ H₀ ex,PG (qw X scope N' cl C s₀ H₀ ex) tg g)(hgo:m9 X.K X.N.length is one g)(ht:∀cl C s₀ H₀ ex,SQ (qw X scope N' cl C s₀ H₀ ex) c ifs t)(he:∀cl C s₀ H₀ ex,SX (qw X scope N' cl C s₀ H₀ ex) c elt pe)(hs:∀x,foldedSetIterable iter X.env x=pure x:=by intro _;rfl):SX X c (.ListComp elt [⟨tg,iter,ifs,0⟩] scope pos) (.comp ps n is one t pe):=by refine⟨Q5 (J3 (tt:=Gz X.K (j5 c t)) (te:=yh X.K (HH.ev c pe)) hc ok hi hg ht (fun cl C s₀ H₀ ex=>(he cl C s₀ H₀ ex).ev) hs) ?_,fun i h=>by cases h⟩;rintro σ H Q hl⟨F,ρ,r,ρ',g0,e,k⟩;rw[HH.E19]at e;exact zB hl hgo g0 e k
theorem kE{i:Nat}{x:Str}{pos' spos:Pos}{nn:Nat}{g:TG}{is:List Nat}{one:Bool}{t:Option P}(hc:X.calm=true)(hN:X.N.Nodup)(hx0:X.N[i]?=some x)(hx:Loc X.env.scope x)(ok:fP X scope N' n)(hi:SI X c tg iter ps)(hg:∀cl C s₀ H₀ ex,PG (qw X scope N' cl C s₀ H₀ ex) tg g)(hgo:m9 X.K X.N.length is one g)(ht:∀cl C s₀ H₀ ex,SQ (qw X scope N' cl C s₀ H₀ ex) c ifs t)(he:∀cl C s₀ H₀ ex,SX (qw X scope N' cl C s₀ H₀ ex) c elt pe)(hsw:swapsWith (.ListComp elt [⟨tg,iter,ifs,0⟩] scope pos) (some (.Name x pos')) spos.line X.env=pure true:=by rfl)(hs:∀x,foldedSetIterable iter X.env x=pure x:=by intro _;rfl)(hf:X.fn x=true\/X.env.scope.names.lookup x=some .local:=by first|exact .inl rfl|exact .inr rfl|assumption):SS X c nn (.Assign [.Name x pos'] (.ListComp elt [⟨tg,iter,ifs,0⟩] scope pos) spos) (.asg i (.comp ps n is one t pe)):=by refine MP (yK (tt:=Gz X.K (j5 c t)) (te:=yh X.K (HH.ev c pe)) hc hN hx0 hx ok hi hg ht (fun cl C s₀ H₀ ex=>(he cl C s₀ H₀ ex).ev) hsw hs hf) ?_;rintro D σ H hl⟨F,ρ,fl,ρ',g0,e,k⟩;rw[HH.X6]at e;obtain⟨r,ρ1,e1,e⟩:=aj e;obtain⟨ρ2,ρ3,e2,e⟩:=aj e;cases e;have zz:=aF e2;clear e2;obtain⟨e2,e3⟩:=zz;rw[HH.E19]at e1;exact zB hl hgo g0 e1 fun v F1 H1 s1 rr=>k F1 _ H1 (s1.put rr e2)
end
end HH
end
section
namespace HH
open PySem L2 PySem.Spec PyProof.Rows
section
variable{X:Cx}{c:Call}{n:Nat}{e a b d:Expr}{p pa pb pd:P}{pos:Pos}{es:List Expr}{ps:List P}
noncomputable def tyN:D->String|.non=>"NoneType"|.bl _=>"bool"|.int _=>"int"|.str _=>"str"|.tup _=>"tuple"|.lst _=>"list"|.cD _=>"dict"
noncomputable def Um:Ty->String|.none=>"NoneType"|.bool=>"bool"|.int=>"int"|.str=>"str"|.tuple=>"tuple"|.list=>"list"
theorem Ut(K:PySem.W.Frag)(t:Ty)(d:D):PySem.W.kitOne K (.type (tyN d)) (.type (Um t))=some (bZ t d):=by cases t<;>cases d<;>rfl
theorem V9{pins:List (Addr×Obj)}{σ:L2.St}{H F:Hp}{s:Shared}{x:V}{u:Value}{dt:D}(I:L2.Inv X pins σ H s)(sm:aP F H)(px:eN X.K F H x dt)(rx:RelV x u):(∃Hq,PySem.W.KitX X.K u (.type (tyN dt)) Hq/\Hq s.heap)/\u≠.builtin "__main__.__loader__#opaque":=by cases dt with|non=>rw[px.non]at rx;cases rx;exact⟨⟨_,PySem.W.kitx_none,trivial⟩,nofun⟩|bl y=>rw[px.bl]at rx;cases rx;exact⟨⟨_,PySem.W.kitx_bool,trivial⟩,nofun⟩|int i=>rw[px.int]at rx;obtain⟨t,rfl⟩:=rx;exact⟨⟨_,PySem.W.kitx_int,trivial⟩,nofun⟩|str y=>rw[px.str]at rx;obtain⟨t,rfl⟩:=rx;exact⟨⟨_,PySem.W.kitx_str,trivial⟩,nofun⟩|tup ds=>obtain⟨q,xs,rfl,hq,_⟩:=px.tup sm;cases rx;obtain⟨its,_,⟨o,h1,h2,_⟩,_⟩:=I.tuple hq;exact⟨⟨_,PySem.W.kitx_tuple,⟨o,h1,h2⟩⟩,nofun⟩|lst ds=>obtain⟨q,xs,rfl,hq,_⟩:=px.lst sm;cases rx;obtain⟨its,_,pl,_⟩:=I.list hq;obtain⟨o,h1,h2,_⟩:=pl.isList;exact⟨⟨_,PySem.W.kitx_list,⟨o,h1,h2⟩⟩,nofun⟩|cD m=>obtain⟨q,_,rfl,hq⟩:=px.cD sm;cases rx;obtain⟨o,h1,h2⟩:=GJ I hq;exact⟨⟨_,PySem.W.kitx_dict,⟨o,h1,h2⟩⟩,nofun⟩
theorem O9(t:Ty):dq X (.builtin "isinstance") (fun xs H Q=>∃x F dt,xs=[x,.ty (Um t)]/\aP F H/\eN X.K F H x dt/\Q (.bl (bZ t dt)) H):=by rintro pins s σ H xs us Q I r⟨x,F,dt,hx,sm,px,q⟩;subst hx;obtain⟨u,w',rfl,rx,rt⟩:=r.two;cases(show w'=Value.type (Um t)from rt);obtain⟨⟨Hq,Z,hz⟩,hne⟩:=V9 I sm px rx;exact PySem.W.kia_one Z I.QR hz (Ut _ t dt) hne fun tk=>⟨.bl _,H,I.tok tk,rfl,q⟩
theorem Gv:bootBuiltins "isinstance"=some (.builtin "isinstance"):=by decide+kernel
theorem pJ{x y:Str}{p' p2:Pos}(t:Ty)(hx:x="isinstance")(hg:Gl X x)(hm:X.mg x=none)(ha:SX X c a pa)(hgy:Gl X y)(hmy:X.mg y=none)(hy:bootBuiltins y=some (.type (Um t)))(hny:y≠"__name__":=by decide)(hdy:(y==("__debug__":Str))=false:=by decide)(hs:starEach [a,.Name y p2] X.env=(false,eval a X.env)::starEach [.Name y p2] X.env:=by rfl):SX X c (.Call (.Name x p') [a,.Name y p2] [] pos) (.inst [t] pa):=by subst hx;obtain⟨ta,h1,h2⟩:=ha.bI;refine⟨fU (dG (O9 t) hg hm Gv (cH h1 (cH (Jb (v:=.ty (Um t)) hgy hmy hy rfl hny hdy) gO) hs) (he:=hs)) ?_,fun i h=>by cases h⟩;rintro σ H Q⟨F,ρ,r,ρ',g,e,k⟩;rw[HH.E18]at e;obtain⟨dt,ρ1,e1,e⟩:=aj e;cases e;refine h2 g e1 fun v F' H' s pv=>⟨v,F',dt,rfl,s.gs.sub,pv,k _ F' H' s ?_⟩;show Rep X.K F' _ _;rw[List.any_cons,List.any_nil,Bool.or_false];exact lB _
inductive rBn(K:PySem.W.Frag)(f:List D->Option R)(xs:List V)(H:Hp)(Q:VK):Prop where|mk(F:Hp)(ds:List D)(r:R)(sm:aP F H)(rs:aL K F xs ds)(he:f ds=some r)(k:∀v F' H',Ext F H F' H'->cC K F' H' H v r->Q v H')
theorem Lz{E:Expr}{f:List D->Option R}{q:P}(hp:∀{t},PA X es t->PE X E (Yc (rBn X.K f) t))(ha:SA X c es ps)(hq:∀ρ,HH.ev c q ρ=(evs c ps ρ).bind fun ds ρ=>lift (f ds) ρ)(hv:isVar q=none):SX X c E q:=by refine⟨fU (hp ha.1) ?_,fun i h=>by rw[hv]at h;cases h⟩;rintro σ H Q⟨F,ρ,r,ρ',g,e,k⟩;rw[hq]at e;obtain⟨ds,ρ1,e1,e2⟩:=aj e;have zz:=aF e2;clear e2;obtain⟨e2,e3⟩:=zz;subst e3;exact⟨F,ρ,ds,ρ1,g,e1,fun vs F' H' s rs=>⟨F',ds,r,s.gs.sub,rs,e2,fun w F2 H2 x rn=>k w F2 H2 (s.trans (x.stp s.gs)) (.later s (rn.vP s.gs))⟩⟩
theorem K5{K:PySem.W.Frag}{F:Hp}{xs:List V}{i j:Int}(h:aL K F xs [.int i,.int j]):xs=[.int i,.int j]:=by obtain⟨v,r,rfl,h1,h2⟩:=h.cG;obtain⟨u,r2,rfl,h3,h4⟩:=h2.cG;rw[Rep]at h1 h3;rw[h1,h3,h4.gG]
theorem inv2{f:XX}{g:Int->Int->Int}{ds:List D}{r:R}(h0:blt f []=none)(h1:∀a,blt f [a]=none)(h3:∀a b c l,blt f (a::b::c::l)=none)(hn:∀a b,eZ a=false->blt f [a,b]=none)(hm:∀i b,eZ b=false->blt f [.int i,b]=none)(hi:∀i j,blt f [.int i,.int j]=some (.val (.int (g i j))))(he:blt f ds=some r):∃i j,ds=[.int i,.int j]/\r=.val (.int (g i j)):=by
 rcases ds with _|⟨a,_|⟨b,_|⟨c,l⟩⟩⟩;.rw[h0]at he;cases he
 .rw[h1]at he;cases he
 . by_cases ha:eZ a=true
   . obtain⟨i,rfl⟩:∃i,a=.int i:=by cases a<;>first|exact⟨_,rfl⟩|cases ha
     by_cases hb:eZ b=true
     . obtain⟨j,rfl⟩:∃j,b=.int j:=by cases b<;>first|exact⟨_,rfl⟩|cases hb
       rw[hi]at he;cases he;exact⟨i,j,rfl,rfl⟩
     .rw[hm i b (by simpa using hb)]at he;cases he
   .rw[hn a b (by simpa using ha)]at he;cases he
 .rw[h3]at he;cases he
theorem OD(hc:X.calm=true):dq X (.builtin "min") (rBn X.K (blt .min2)):=by rintro pins s σ H xs us Q I r⟨F,ds,r',sm,rs,he,k⟩;obtain⟨i,j,rfl,rfl⟩:=inv2 (g:=fun i j=>if j<i then j else i) rfl (fun a=>by cases a<;>rfl) (fun a b c l=>by cases a<;>first|rfl|(cases b<;>rfl)) (fun a b h=>by cases a<;>first|rfl|cases h) (fun i b h=>by cases b<;>first|rfl|cases h) (fun _ _=>rfl) he;rw[K5 rs]at r;exact Bc hc pins s σ H _ us Q I r ⟨_,_,rfl,cC.dJ sm (bJ _) k⟩
theorem NQ(hc:X.calm=true):dq X (.builtin "max") (rBn X.K (blt .max2)):=by rintro pins s σ H xs us Q I r⟨F,ds,r',sm,rs,he,k⟩;obtain⟨i,j,rfl,rfl⟩:=inv2 (g:=fun i j=>if i<j then j else i) rfl (fun a=>by cases a<;>rfl) (fun a b c l=>by cases a<;>first|rfl|(cases b<;>rfl)) (fun a b h=>by cases a<;>first|rfl|cases h) (fun i b h=>by cases b<;>first|rfl|cases h) (fun _ _=>rfl) he;rw[K5 rs]at r;exact BR hc pins s σ H _ us Q I r ⟨_,_,rfl,cC.dJ sm (bJ _) k⟩
theorem boot_min:bootBuiltins "min"=some (.builtin "min"):=by decide+kernel
theorem boot_max:bootBuiltins "max"=some (.builtin "max"):=by decide+kernel
theorem tV{x:Str}{p':Pos}(hx:x="min")(hc:X.calm=true)(hg:Gl X x)(hm:X.mg x=none)(ha:SA X c [a,b] [pa,pb])(hs:starEach [a,b] X.env=(false,eval a X.env)::starEach [b] X.env:=by rfl)(hpl:(backTo pos (starEach [b] X.env)).any (·.1)=false:=by rfl):SX X c (.Call (.Name x p') [a,b] [] pos) (.blt .min2 [pa,pb]):=by subst hx;exact Lz (fun h=>dG (OD hc) hg hm boot_min h (he:=hs) (hpl:=hpl)) ha (fun ρ=>rfl) rfl
theorem zu{x:Str}{p':Pos}(hx:x="max")(hc:X.calm=true)(hg:Gl X x)(hm:X.mg x=none)(ha:SA X c [a,b] [pa,pb])(hs:starEach [a,b] X.env=(false,eval a X.env)::starEach [b] X.env:=by rfl)(hpl:(backTo pos (starEach [b] X.env)).any (·.1)=false:=by rfl):SX X c (.Call (.Name x p') [a,b] [] pos) (.blt .max2 [pa,pb]):=by subst hx;exact Lz (fun h=>dG (NQ hc) hg hm boot_max h (he:=hs) (hpl:=hpl)) ha (fun ρ=>rfl) rfl
end
end HH
end
section
namespace HH
open PySem L2 PySem.Spec PyProof.Rows
section
variable{X:Cx}{c:Call}{n:Nat}{e a b d:Expr}{p pa pb pd:P}{pos:Pos}{es:List Expr}{ps:List P}
theorem Ji{K:PySem.W.Frag}{F H:Hp}{ρ:List Sl}{σ:L2.St}{i:Nat}{ds:List D}(g:GS K F ρ σ H)(h:JP ρ i=some ds):∃a xs,σ[i]?=some (some (V.ref a))/\dX K H a xs:=by
 unfold JP at h;split at h;.rename_i q;cases h;obtain⟨v,h1,h2⟩:=g.pk q;obtain⟨a,xs,rfl,h3,_⟩:=h2.lst g.sub;exact⟨a,xs,h1,h3⟩
 .cases h
theorem zr{x:Str}{k:Nat}{px tpos:Pos}(hN:X.N[k]?=some x)(hv:sV X.env.scope x)(hi:SX X c b pb)(he:SX X c e p)(ha:∀ v,assign (.Subscript (.Name x px) b tpos) X.env v=(do
  let ov<-holding [v] (eval (.Name x px) X.env)let iv<-holding [v,ov] (eval b X.env)standAt tpos
  holding [v,ov,iv] (setItem ov iv v)release [v,ov,iv] []):=by intro _;rfl)(hs:swapsWithSole [.Subscript (.Name x px) b tpos] e pos.line X.env=pure false:=by rfl)(hw:swappedStores [.Subscript (.Name x px) b tpos] e X.env=pure none:=by rfl)(h1:(assignEach [.Subscript (.Name x px) b tpos] X.env).map (·.2)=[assign (.Subscript (.Name x px) b tpos) X.env]:=by rfl)(hd:(x==("__debug__":Str))=false:=by decide)(hcd:(x==("__classdict__":Str))=false:=by decide):SS X c n (.Assign [.Subscript (.Name x px) b tpos] e pos) (.G9 k pb p):=by
 obtain⟨ti,hi1,hi2⟩:=hi.bI;refine dD (p6 he.ev (tu (dB hN hv hd hcd) hi1 set_list ha) hs hw h1) ?_;rintro D σ H⟨F,ρ,fl,ρ',g,e,kk⟩;rw[HH.X9]at e;obtain⟨r,ρ1,e1,e⟩:=aj e;obtain⟨x0,ρ1',e0,e⟩:=aj e;have zz:=aF e0;clear e0;obtain⟨e0,yp⟩:=zz;subst yp;obtain⟨dk,ρ2,e2,e⟩:=aj e;refine⟨F,ρ,r,ρ1,g,e1,fun v F1 H1 s1 rr=>?_⟩;obtain⟨F2,s2,_,rp⟩:=s1.fH rr;obtain⟨o,ho,_⟩:=s2.gs.pk e0;refine⟨o,ho,hi2 s2.gs e2 fun vi F3 H3 s3 pi=>?_⟩;split at e
 . rename_i bb ds kk' q;split at e;.rename_i j hj;cases e;obtain⟨ad,xs,q1,q2,q3,q4⟩:=s3.gs.tW k _ ds q rfl;rw[ho]at q1;cases q1;refine⟨ad,xs,kk',j,rfl,pi.int,q2,by rw[q4.length];exact hj,?_⟩;exact kk F3 σ _ ((s2.trans s3).trans (s3.gs.mut q ho (q4.set (rp.mono s3.bK) j)))
   .cases e
 .cases e
theorem cF{x:Str}{k:Nat}{px apos cpos:Pos}(hN:X.N[k]?=some x)(hv:sV X.env.scope x)(he:SX X c e p)(hline:(apos.endLine==cpos.line)=true:=by rfl)(hs:starEach [e] X.env=(false,eval e X.env)::starEach [] X.env:=by rfl)(hbase:attributeBase (.Name x px) "append" X.env (eval (.Name x px) X.env)=eval (.Name x px) X.env:=by rfl)(hfew:((backTo cpos (starEach [e] X.env)).all (fun x=>!x.1)&&(backToKw cpos (keywordEach [] X.env)).all (fun x=>x.1.isSome)&&decide ([e].length+([]:List Keyword).length+(if([]:List Keyword).isEmpty then 0 else 1)<30))=true:=by rfl)(hsw:swapsWith (.Call (.Attribute (.Name x px) "append" apos) [e] [] cpos) none pos.line X.env=pure false:=by rfl)(hd:(x==("__debug__":Str))=false:=by decide)(hcd:(x==("__classdict__":Str))=false:=by decide):SS X c n (.Expr (.Call (.Attribute (.Name x px) "append" apos) [e] [] cpos) pos) (.app k p):=by
 refine dD (tU (Lq PySem.F.plainAttrs_list PySem.F.slot_list_append PySem.F.type_list_append mK (dB hN hv hd hcd) (cH he.ev gO hs) hbase hfew hline hs) hsw) ?_;rintro D σ H⟨F,ρ,fl,ρ',g,e,kk⟩;rw[HH.X10]at e;obtain⟨d0,ρ0,e0,e⟩:=aj e;have zz:=aF e0;clear e0;obtain⟨e0,yp⟩:=zz;subst yp;obtain⟨r,ρ1,e1,e⟩:=aj e;obtain⟨a,xs,h1,h2⟩:=Ji g e0;refine⟨.ref a,h1,.inl ⟨rfl,xs,h2⟩,F,ρ,r,ρ1,g,e1,fun v F1 H1 s1 rr=>?_⟩;obtain⟨F2,s2,_,rp⟩:=s1.fH rr;split at e
 . rename_i bb ds q;split at e;.rename_i hlt;cases e;obtain⟨ad,ys,q1,q2,q3,q4⟩:=s2.gs.tW k _ ds q rfl;rw[h1]at q1;cases q1;exact⟨_,ys,v,rfl,rfl,q2,by rw[q4.length];exact hlt,kk F2 σ _ (s2.trans (s2.gs.mut q h1 (q4.append (.cons rp .nil))))⟩
   .cases e
 .cases e
theorem Fe{ds:List D}{bs:List Bool}(h:ds.mapM zZ=some bs):ds=bs.map D.bl:=by induction ds generalizing bs with|nil=>simp at h;subst h;rfl|cons d ds ih=>rw[List.mapM_cons]at h;cases hd:zZ d with|none=>rw[hd]at h;cases h|some k=>rw[hd]at h;cases hr:ds.mapM zZ with|none=>rw[hr]at h;cases h|some r=>rw[hr]at h;cases h;rw[List.map_cons,<-ih hr,pU hd]
theorem yQ{K:PySem.W.Frag}{F:Hp}:∀{bs:List Bool}{xs:List V},aL K F xs (bs.map D.bl)->xs=bs.map V.bl|[],_,h=>h.gG|k::bs,_,h=>by obtain⟨v,r,rfl,h1,h2⟩:=h.cG;rw[Rep]at h1;rw[h1,yQ h2];rfl
theorem zq:∀{bs:List Bool}{us:List Value},Vals (bs.map V.bl) us->us=bs.map Value.bool|[],_,h=>h.zero|k::bs,_,.cons r t=>by rw[List.map_cons,<-zq t,show _=_ from r]
theorem Jw{id:String}{f:List Bool->Bool}(hc:X.calm=true)(rule:∀{x:Value}{Q:Value->Shared->Prop}{s:Shared},wpAny (model X.prog X.w) X.A.in1 (pyIter x) (fun it s₂=>∃ I fp wr n P St tr,it=.ref I/\Walks X.prog X.w X.A.in1 I fp wr n P St/\St 0 s₂.heap/\TruthOf X.prog X.w X.A.in1 P tr/\∀h' tk,(∀b o,b∉wr->s₂.heap.get? b=some o->h'.get? b=some o)->Q (.bool (f ((List.range n).map tr))) {s₂ with heap:=h',toks:=tk}) X.xe s->wpAny (model X.prog X.w) X.A (call (.builtin id) [x]) Q X.xe s):dq X (.builtin id) (fun xs H Q=>∃p ys bs,xs=[.ref p]/\dX X.K H p ys/\ys=bs.map V.bl/\Q (.bl (f bs)) H):=by
 rintro pins s σ H xs us Q I r⟨p,ys,bs,hx,hq,hy,k⟩;subst hx;subst hy;obtain⟨u,rfl,rx⟩:=r.one;cases rx;obtain⟨its,rv,pl,hz⟩:=I.list hq;have hits:=zq rv;subst hits;refine rule (wpAny_pyIter_list pl.isList ?_);have hne:p≠s.heap.objs.size:=by obtain⟨o,h1,_⟩:=pl.isList;exact Nat.ne_of_lt (Heap.lt_size h1)
 refine⟨s.heap.objs.size,_,_,_,_,_,fun i=>bs.getD i false,rfl,Walks.list (prog:=X.prog) (w:=X.w) (A:=X.A.in1) (show X.A.in1.handled=none from I.ok.hd hc) s.heap.objs.size p hne (bs.map Value.bool).toArray,⟨⟨_,Heap.get?_push_size _ rfl,rfl,rfl⟩,?_⟩,?_,fun h' tk kp=>?_⟩;.obtain⟨o,h1,h2⟩:=pl.isList;exact⟨o,Heap.get?_push_of_some _ h1,h2⟩
 . intro i v s' Q' E' hP hQ;have hv:v=.bool (bs.getD i false):=by
    have hP:(bs.map Value.bool)[i]?=some v:=by simpa using hP
    rw[List.getElem?_map]at hP;obtain⟨k',e1,e2⟩:=map_some hP;rw[<-e2,List.getD_eq_getElem?_getD,e1];rfl
   subst hv;exact wpAny_truthy_bool hQ
 . have e:f ((List.range (bs.map Value.bool).toArray.size).map fun i=>bs.getD i false)=f bs:=by
    congr 1;apply List.ext_getElem;.simp
    .intro i h1 h2;simp at h1;simp[h1]
   rw[e];exact⟨.bl _,H,I.kept (fun b o z=>kp b o (by simp;exact Nat.ne_of_lt (Heap.lt_size z)) (Heap.get?_push_of_some _ z)),rfl,k⟩
theorem Wj(hc:X.calm=true):dq X (.builtin "all") (DR X.K fun x=>blt .all [x]):=by rintro pins s σ H xs us Q I r⟨x,hx,F,d,r',sm,px,he,k⟩;obtain⟨bs,e1,he⟩:=map_some (show((pH d).bind fun ds=>ds.mapM zZ).map _=some r' from he);subst he;obtain⟨ds,e2,e3⟩:=aW e1;have e4:=Fe e3;cases d with|lst es=>cases e2;obtain⟨p,ys,rfl,hq,rs⟩:=px.lst sm;rw[e4]at rs;refine Jw (f:=fun bs=>bs.all id) hc (fun h=>call_all_walk (wpAny_mono h (fun it s₂⟨I,fp,wr,n,P,Sx,tr,h1,h2,h3,h4,h5⟩=>⟨I,fp,wr,n,P,Sx,tr,h1,h2,h3,h4,fun h' tk kp=>?_⟩) fun _ _ z=>z)) pins s σ H xs us Q I r ⟨p,ys,bs,hx,hq,yQ rs,cC.dJ sm (lB _) k⟩;have z:=h5 h' tk kp;rw[List.all_map]at z;exact z|_=>cases e2
theorem boot_all:bootBuiltins "all"=some (.builtin "all"):=by decide+kernel
theorem Pj{x:Str}{p':Pos}(hx:x="all")(hc:X.calm=true)(hg:Gl X x)(hm:X.mg x=none)(ha:SX X c a pa)(hs:starEach [a] X.env=(false,eval a X.env)::starEach [] X.env:=by rfl):SX X c (.Call (.Name x p') [a] [] pos) (.blt .all [pa]):=by subst hx;exact jL (fun h=>dG (Wj hc) hg hm boot_all h (he:=hs)) ha (fun ρ=>rfl) rfl hs
end
end HH
end
section
namespace HH
open PySem L2 PySem.Spec PyProof.Rows
section
variable{K:PySem.W.Frag}
theorem jj:∀{xs ys:List D},xs.length≠ys.length->gV xs ys=false|[],[],h=>absurd rfl h|[],_::_,_=>by simp[gV]|_::_,[],_=>by simp[gV]|x::xs,y::ys,h=>by rw[gV,jj (xs:=xs) (ys:=ys) (by simpa using h),Bool.and_false]
theorem gw:∀{xs ys:List D},xs.length=ys.length->gV xs ys=(List.range xs.length).all fun j=>jQ (xs.getD j .non) (ys.getD j .non)|[],[],_=>by rw[gV];rfl|[],_::_,h=>by simp at h|_::_,[],h=>by simp at h|x::xs,y::ys,h=>by rw[gV,gw (xs:=xs) (ys:=ys) (by simpa using h),List.length_cons,List.range_succ_eq_map,List.all_cons,List.all_map];rfl
mutual
theorem vQ:∀d:D,jQ d d=true|.non=>rfl|.bl _=>by exact beq_self_eq_true _|.int _=>by exact beq_self_eq_true _|.str _=>by exact beq_self_eq_true _|.tup ds=>by exact lZ ds|.lst ds=>by exact lZ ds|.cD _=>by exact decide_eq_true rfl
theorem lZ:∀ds:List D,gV ds ds=true|[]=>by rw[gV]|d::ds=>by rw[gV,vQ d,lZ ds];rfl
end
theorem fC{F:Hp}{d e:D}{v:V}(hf:flat d=true)(h1:Rep K F v d)(h2:Rep K F v e):d=e:=by cases d with
 |tup _=>cases hf|lst _=>cases hf|cD _=>cases hf|non=>rw[Rep]at h1;subst h1;cases e with|non=>rfl|tup _=>rw[Rep]at h2;obtain⟨_,_,q,_⟩:=h2;cases q|lst _=>rw[Rep]at h2;obtain⟨_,_,q,_⟩:=h2;cases q|cD _=>rw[Rep]at h2;obtain⟨_,_,q,_⟩:=h2;cases q|_=>rw[Rep]at h2;cases h2
 |bl k=>rw[Rep]at h1;subst h1;cases e with|bl _=>rw[Rep]at h2;cases h2;rfl|tup _=>rw[Rep]at h2;obtain⟨_,_,q,_⟩:=h2;cases q|lst _=>rw[Rep]at h2;obtain⟨_,_,q,_⟩:=h2;cases q|cD _=>rw[Rep]at h2;obtain⟨_,_,q,_⟩:=h2;cases q|_=>rw[Rep]at h2;cases h2
 |int k=>rw[Rep]at h1;subst h1;cases e with|int _=>rw[Rep]at h2;cases h2;rfl|tup _=>rw[Rep]at h2;obtain⟨_,_,q,_⟩:=h2;cases q|lst _=>rw[Rep]at h2;obtain⟨_,_,q,_⟩:=h2;cases q|cD _=>rw[Rep]at h2;obtain⟨_,_,q,_⟩:=h2;cases q|_=>rw[Rep]at h2;cases h2
 |str k=>rw[Rep]at h1;subst h1;cases e with|str _=>rw[Rep]at h2;cases h2;rfl|tup _=>rw[Rep]at h2;obtain⟨_,_,q,_⟩:=h2;cases q|lst _=>rw[Rep]at h2;obtain⟨_,_,q,_⟩:=h2;cases q|cD _=>rw[Rep]at h2;obtain⟨_,_,q,_⟩:=h2;cases q|_=>rw[Rep]at h2;cases h2
theorem Kc{X:Cx}{pins:List (Addr×Obj)}{σ:L2.St}{H F:Hp}{s:Shared}(I:L2.Inv X pins σ H s)(sm:aP F H):∀n:Nat,(∀d:D,dZ n d=true->∀(v:V)(e:D),Rep X.K F v d->Rep X.K F v e->d=e):=by
 have tl:∀{a:Addr}{xs ys:List V},jH X.K F a xs->dX X.K F a ys->False:=fun{a xs ys}h1 h2=>by obtain⟨_,_,⟨o,q1,q2,_⟩,_⟩:=I.tuple (aP.iw sm h1);obtain⟨_,_,pl,_⟩:=I.list (sm.seq h2);obtain⟨o',q3,q4,_⟩:=pl.isList;rw[q1]at q3;cases q3;rw[q2]at q4;exact absurd q4 (by decide)
 have dd:∀{a:Addr}{kvs:Dc},Rep X.K F (.ref a) (.cD kvs)->∃o,s.heap.get? a=some o/\o.cls=.type "dict":=fun{a kvs}h=>by rw[Rep]at h;obtain⟨a',_,q,hq⟩:=h;cases q;exact GJ I (sm _ _ hq)
 have td:∀{a:Addr}{xs:List V}{kvs:Dc},jH X.K F a xs->Rep X.K F (.ref a) (.cD kvs)->False:=fun{a xs kvs}h1 h2=>by obtain⟨_,_,⟨o,q1,q2,_⟩,_⟩:=I.tuple (aP.iw sm h1);obtain⟨o',q3,q4⟩:=dd h2;rw[q1]at q3;cases q3;rw[q2]at q4;exact absurd q4 (by decide)
 have ld:∀{a:Addr}{xs:List V}{kvs:Dc},dX X.K F a xs->Rep X.K F (.ref a) (.cD kvs)->False:=fun{a xs kvs}h1 h2=>by obtain⟨_,_,pl,_⟩:=I.list (sm.seq h1);obtain⟨o,q1,q2,_⟩:=pl.isList;obtain⟨o',q3,q4⟩:=dd h2;rw[q1]at q3;cases q3;rw[q2]at q4;exact absurd q4 (by decide)
 intro n;induction n with
 |zero=>intro d hd v e h1 h2;cases d with|tup _=>simp[dZ]at hd|lst _=>simp[dZ]at hd|cD _=>simp[dZ]at hd|non=>exact fC rfl h1 h2|bl k=>exact fC rfl h1 h2|int k=>exact fC rfl h1 h2|str k=>exact fC rfl h1 h2
 |succ n ih=>
   have all:∀{xs:List V}{ds es:List D},ds.all (dZ n)=true->aL X.K F xs ds->aL X.K F xs es->ds=es:=fun{xs ds}=>by induction ds generalizing xs with|nil=>intro es _ h1 h2;rw[h1.gG]at h2;have:=h2.length;exact(List.eq_nil_of_length_eq_zero this.symm).symm|cons d ds ih2=>intro es ha h1 h2;rw[List.all_cons,Bool.and_eq_true]at ha;obtain⟨v,r,rfl,q1,q2⟩:=h1.cG;cases es with|nil=>cases h2.gG|cons e es=>obtain⟨v',r',q0,q3,q4⟩:=h2.cG;cases q0;rw[ih d ha.1 v e q1 q3,ih2 ha.2 q2 q4]
   intro d hd v e h1 h2;cases d with
   |cD _=>simp[dZ]at hd|tup ds=>
     have ha:ds.all (dZ n)=true:=by simpa[dZ]using hd
     rw[Rep]at h1;obtain⟨a,xs,rfl,z1,z2⟩:=h1;cases e with|tup es=>rw[Rep]at h2;obtain⟨a',ys,q,w1,w2⟩:=h2;cases q;have:=I.mL (aP.iw sm z1) (aP.iw sm w1);subst this;rw[all ha z2 w2]|lst es=>rw[Rep]at h2;obtain⟨a',ys,q,w1,w2⟩:=h2;cases q;exact(tl z1 w1).elim|cD _=>exact(td z1 h2).elim|_=>rw[Rep]at h2;cases h2
   |lst ds=>
     have ha:ds.all (dZ n)=true:=by simpa[dZ]using hd
     rw[Rep]at h1;obtain⟨a,xs,rfl,z1,z2⟩:=h1;cases e with|lst es=>rw[Rep]at h2;obtain⟨a',ys,q,w1,w2⟩:=h2;cases q;have:=I.pK (sm.seq z1) (sm.seq w1);subst this;rw[all ha z2 w2]|tup es=>rw[Rep]at h2;obtain⟨a',ys,q,w1,w2⟩:=h2;cases q;exact(tl w1 z1).elim|cD _=>exact(ld z1 h2).elim|_=>rw[Rep]at h2;cases h2
   |non=>exact fC rfl h1 h2|bl k=>exact fC rfl h1 h2|int k=>exact fC rfl h1 h2|str k=>exact fC rfl h1 h2
theorem zp{A:Around}{s:Shared}{F:Hp}{d e:D}{v u:V}{v' u':Value}(hd:flat d=true)(he:flat e=true)(h1:Rep K F v d)(h2:Rep K F u e)(r1:RelV v v')(r2:RelV u u'):SeqAt.EqAt A s v' u' (jQ d e):=by cases d with
 |tup _=>cases hd|lst _=>cases hd|cD _=>cases hd|non=>rw[Rep]at h1;subst h1;cases(show v'=.none from r1);cases e with|tup _=>cases he|lst _=>cases he|cD _=>cases he|non=>rw[Rep]at h2;subst h2;cases(show u'=.none from r2);exact SeqAt.EqAt.same _|bl _=>rw[Rep]at h2;subst h2;cases(show u'=.bool _ from r2);exact SeqAt.EqAt.none_bool _|int _=>rw[Rep]at h2;subst h2;obtain⟨t,rfl⟩:=r2;exact SeqAt.EqAt.none_int _ _|str _=>rw[Rep]at h2;subst h2;obtain⟨t,rfl⟩:=r2;exact SeqAt.EqAt.none_str _ _
 |bl _=>rw[Rep]at h1;subst h1;cases(show v'=.bool _ from r1);cases e with|tup _=>cases he|lst _=>cases he|cD _=>cases he|non=>rw[Rep]at h2;subst h2;cases(show u'=.none from r2);exact SeqAt.EqAt.bool_none _|bl _=>rw[Rep]at h2;subst h2;cases(show u'=.bool _ from r2);exact SeqAt.EqAt.bool_bool _ _|int _=>rw[Rep]at h2;subst h2;obtain⟨t,rfl⟩:=r2;exact SeqAt.EqAt.bool_int _ _ _|str _=>rw[Rep]at h2;subst h2;obtain⟨t,rfl⟩:=r2;exact SeqAt.EqAt.bool_str _ _ _
 |int _=>rw[Rep]at h1;subst h1;obtain⟨t0,rfl⟩:=r1;cases e with|tup _=>cases he|lst _=>cases he|cD _=>cases he|non=>rw[Rep]at h2;subst h2;cases(show u'=.none from r2);exact SeqAt.EqAt.int_none _ _|bl _=>rw[Rep]at h2;subst h2;cases(show u'=.bool _ from r2);exact SeqAt.EqAt.int_bool _ _ _|int _=>rw[Rep]at h2;subst h2;obtain⟨t,rfl⟩:=r2;exact SeqAt.EqAt.int_int _ _ _ _|str _=>rw[Rep]at h2;subst h2;obtain⟨t,rfl⟩:=r2;exact SeqAt.EqAt.int_str _ _ _ _
 |str _=>rw[Rep]at h1;subst h1;obtain⟨t0,rfl⟩:=r1;cases e with|tup _=>cases he|lst _=>cases he|cD _=>cases he|non=>rw[Rep]at h2;subst h2;cases(show u'=.none from r2);exact SeqAt.EqAt.str_none _ _|bl _=>rw[Rep]at h2;subst h2;cases(show u'=.bool _ from r2);exact SeqAt.EqAt.str_bool _ _ _|int _=>rw[Rep]at h2;subst h2;obtain⟨t,rfl⟩:=r2;exact SeqAt.EqAt.str_int _ _ _ _|str _=>rw[Rep]at h2;subst h2;obtain⟨t,rfl⟩:=r2;exact SeqAt.EqAt.str_str _ _ _ _
theorem kh{A:Around}{s:Shared}{F:Hp}{ds:List D}{e:D}{u:V}{u':Value}{a:Addr}{its:Array Value}(ht:s.heap.IsTuple a its)(hu:A.units<cLine)(he:flat e=true)(h2:Rep K F u e)(r2:RelV u u'):SeqAt.EqAt A s (.ref a) u' (jQ (.tup ds) e)/\SeqAt.EqAt A s u' (.ref a) (jQ e (.tup ds)):=by cases e with|tup _=>cases he|lst _=>cases he|cD _=>cases he|non=>rw[Rep]at h2;subst h2;cases(show u'=.none from r2);exact⟨SeqAt.EqAt.tuple_none ht hu,SeqAt.EqAt.none_tuple ht hu⟩|bl _=>rw[Rep]at h2;subst h2;cases(show u'=.bool _ from r2);exact⟨SeqAt.EqAt.tuple_bool _ ht hu,SeqAt.EqAt.bool_tuple _ ht hu⟩|int _=>rw[Rep]at h2;subst h2;obtain⟨t,rfl⟩:=r2;exact⟨SeqAt.EqAt.tuple_int _ _ ht hu,SeqAt.EqAt.int_tuple _ _ ht hu⟩|str _=>rw[Rep]at h2;subst h2;obtain⟨t,rfl⟩:=r2;exact⟨SeqAt.EqAt.tuple_str _ _ ht hu,SeqAt.EqAt.str_tuple _ _ ht hu⟩
theorem km{A:Around}{s:Shared}{F:Hp}{ds:List D}{e:D}{u:V}{u':Value}{a:Addr}{its:Array Value}(ht:s.heap.IsList a its)(hu:A.units<cLine)(he:flat e=true)(h2:Rep K F u e)(r2:RelV u u'):SeqAt.EqAt A s (.ref a) u' (jQ (.lst ds) e)/\SeqAt.EqAt A s u' (.ref a) (jQ e (.lst ds)):=by cases e with|tup _=>cases he|lst _=>cases he|cD _=>cases he|non=>rw[Rep]at h2;subst h2;cases(show u'=.none from r2);exact⟨SeqAt.EqAt.list_none ht hu,SeqAt.EqAt.none_list ht hu⟩|bl _=>rw[Rep]at h2;subst h2;cases(show u'=.bool _ from r2);exact⟨SeqAt.EqAt.list_bool _ ht hu,SeqAt.EqAt.bool_list _ ht hu⟩|int _=>rw[Rep]at h2;subst h2;obtain⟨t,rfl⟩:=r2;exact⟨SeqAt.EqAt.list_int _ _ ht hu,SeqAt.EqAt.int_list _ _ ht hu⟩|str _=>rw[Rep]at h2;subst h2;obtain⟨t,rfl⟩:=r2;exact⟨SeqAt.EqAt.list_str _ _ ht hu,SeqAt.EqAt.str_list _ _ ht hu⟩
theorem vL{n:Nat}{d:D}(h:dZ n d=true)(h0:n=0):flat d=true:=by subst h0;cases d<;>first|rfl|simp[dZ]at h
theorem Zm{X:Cx}{pins:List (Addr×Obj)}{σ:L2.St}{H F:Hp}{s:Shared}(I:L2.Inv X pins σ H s)(sm:aP F H):∀(n:Nat)(A:Around),A.units+n<cLine->∀(d e:D),dZ n d=true->dZ n e=true->∀(v u:V)(v' u':Value),Rep X.K F v d->Rep X.K F u e->RelV v v'->RelV u u'->SeqAt.EqAt A s v' u' (jQ d e):=by intro n;induction n with|zero=>intro A hu d e hd he v u v' u' h1 h2 r1 r2;exact zp (vL hd rfl) (vL he rfl) h1 h2 r1 r2|succ n ih=>
   intro A hu d e hd he v u v' u' h1 h2 r1 r2;have hu0:A.units<cLine:=by omega
   have hu1:A.in1.units+n<cLine:=by show A.units+1+n<cLine;omega--items by place
   have at_:∀{xs ys:List V}{us ws:List Value}{ds es:List D}{j:Nat}(k1:j<us.toArray.size)(k2:j<ws.toArray.size),ds.all (dZ n)=true->es.all (dZ n)=true->Vals xs us->Vals ys ws->aL X.K F xs ds->aL X.K F ys es->SeqAt.EqAt A.in1 s us.toArray[j] ws.toArray[j] (jQ (ds.getD j .non) (es.getD j .non)):=fun{xs ys us ws ds es j}k1 k2 a1 a2 v1 v2 p1 p2=>by
    have k1:j<us.length:=by simpa using k1
    have k2:j<ws.length:=by simpa using k2
    have l1:j<ds.length:=by rw[<-p1.length,v1.length];exact k1
    have l2:j<es.length:=by rw[<-p2.length,v2.length];exact k2
    obtain⟨x,g1,g2⟩:=p1.get (show ds[j]?=some ds[j]by simp[l1]);obtain⟨y,g3,g4⟩:=p2.get (show es[j]?=some es[j]by simp[l2]);obtain⟨x',g5,g6⟩:=v1.get g1;obtain⟨y',g7,g8⟩:=v2.get g3;have e1:us.toArray[j]=x':=by have:=(List.getElem?_eq_some_iff.mp g5).2;simpa using this
    have e2:ws.toArray[j]=y':=by have:=(List.getElem?_eq_some_iff.mp g7).2;simpa using this
    have e3:ds.getD j .non=ds[j]:=by simp[List.getD,l1]
    have e4:es.getD j .non=es[j]:=by simp[List.getD,l2]
    rw[e1,e2,e3,e4];exact ih A.in1 hu1 _ _ (List.all_eq_true.mp a1 _ (List.getElem_mem l1)) (List.all_eq_true.mp a2 _ (List.getElem_mem l2)) x y x' y' g2 g4 g6 g8--the same object
   have same:∀{a:Addr},v=.ref a->u=.ref a->SeqAt.EqAt A s v' u' (jQ d e):=fun{a}q1 q2=>by subst q1;subst q2;have:=Kc I sm (n+1) d hd _ e h1 h2;subst this;rw[vQ];cases r1;cases r2;exact SeqAt.EqAt.same _
   cases d with
   |cD _=>simp[dZ]at hd|tup ds=>
     have ha:ds.all (dZ n)=true:=by simpa[dZ]using hd
     have h1':=h1;rw[Rep]at h1';obtain⟨a,xs,rfl,z1,z2⟩:=h1';cases r1;obtain⟨us,v1,p1,_⟩:=I.tuple (aP.iw sm z1)
     cases e with|cD _=>simp[dZ]at he|tup es=>
       have hb:es.all (dZ n)=true:=by simpa[dZ]using he
       have h2':=h2;rw[Rep]at h2';obtain⟨b,ys,rfl,w1,w2⟩:=h2';by_cases hab:a=b;.subst hab;exact same rfl rfl
       . cases r2;obtain⟨ws,v2,p2,_⟩:=I.tuple (aP.iw sm w1);refine .of_refs hab ?_;have z:=SeqAt.RcAt.tuples (A:=A) (e:=fun j=>jQ (ds.getD j .non) (es.getD j .non)) p1 p2 hu0 fun j k1 k2=>at_ k1 k2 ha hb v1 v2 z2 w2;have l1:us.toArray.size=ds.length:=by rw[List.size_toArray,<-v1.length,z2.length]
         have l2:ws.toArray.size=es.length:=by rw[List.size_toArray,<-v2.length,w2.length]
         rw[l1,l2]at z;have e0:jQ (.tup ds) (.tup es)=((List.range (min ds.length es.length)).all (fun j=>jQ (ds.getD j .non) (es.getD j .non))&&ds.length==es.length):=by
          rw[pqt];by_cases hl:ds.length=es.length;.rw[gw hl,hl];simp
          . rw[jj hl];have:(ds.length==es.length)=false:=by simpa using hl
            rw[this,Bool.and_false]
         rw[e0];exact z|lst es=>rw[Rep]at h2;obtain⟨b,ys,rfl,w1,w2⟩:=h2;cases r2;obtain⟨ws,v2,p2,_⟩:=I.list (sm.seq w1);exact SeqAt.EqAt.tuple_list p1 p2.isList hu0|non=>exact(kh p1 hu0 rfl h2 r2).1|bl _=>exact(kh p1 hu0 rfl h2 r2).1|int _=>exact(kh p1 hu0 rfl h2 r2).1|str _=>exact(kh p1 hu0 rfl h2 r2).1
   |lst ds=>
     have ha:ds.all (dZ n)=true:=by simpa[dZ]using hd
     have h1':=h1;rw[Rep]at h1'
     obtain⟨a,xs,rfl,z1,z2⟩:=h1';cases r1;obtain⟨us,v1,p1,_⟩:=I.list (sm.seq z1);cases e with|cD _=>simp[dZ]at he|lst es=>
       have hb:es.all (dZ n)=true:=by simpa[dZ]using he
       have h2':=h2;rw[Rep]at h2';obtain⟨b,ys,rfl,w1,w2⟩:=h2';by_cases hab:a=b;.subst hab;exact same rfl rfl
       . cases r2;obtain⟨ws,v2,p2,_⟩:=I.list (sm.seq w1);refine .of_refs hab ?_;have l1:us.toArray.size=ds.length:=by rw[List.size_toArray,<-v1.length,z2.length]
         have l2:ws.toArray.size=es.length:=by rw[List.size_toArray,<-v2.length,w2.length]
         rw[Yp];by_cases hl:ds.length=es.length;.have z:=SeqAt.RcAt.lists (A:=A) (e:=fun j=>jQ (ds.getD j .non) (es.getD j .non)) p1.isList p2.isList (by rw[l1,l2,hl]) hu0 fun j k1 k2=>at_ k1 k2 ha hb v1 v2 z2 w2;rw[l1]at z;rw[gw hl];exact z
         .rw[jj hl];exact SeqAt.RcAt.lists_lengths p1.isList p2.isList (by rw[l1,l2];simpa using hl) hu0|tup es=>rw[Rep]at h2;obtain⟨b,ys,rfl,w1,w2⟩:=h2;cases r2;obtain⟨ws,v2,p2,_⟩:=I.tuple (aP.iw sm w1);exact SeqAt.EqAt.list_tuple p1.isList p2 hu0|non=>exact(km p1.isList hu0 rfl h2 r2).1|bl _=>exact(km p1.isList hu0 rfl h2 r2).1|int _=>exact(km p1.isList hu0 rfl h2 r2).1|str _=>exact(km p1.isList hu0 rfl h2 r2).1
   |non|bl _|int _|str _=>cases e with|cD _=>simp[dZ]at he|tup es=>rw[Rep]at h2;obtain⟨b,ys,rfl,w1,w2⟩:=h2;cases r2;obtain⟨ws,v2,p2,_⟩:=I.tuple (aP.iw sm w1);exact(kh p2 hu0 rfl h1 r1).2|lst es=>rw[Rep]at h2;obtain⟨b,ys,rfl,w1,w2⟩:=h2;cases r2;obtain⟨ws,v2,p2,_⟩:=I.list (sm.seq w1);exact(km p2.isList hu0 rfl h1 r1).2|_=>exact zp rfl rfl h1 h2 r1 r2
end
end HH
end
section
namespace HH
open PySem L2 PySem.Spec PyProof.Rows
section
variable{X:Cx}{pins:List (Addr×Obj)}{σ:L2.St}{H F:Hp}{s:Shared}{A:Around}
noncomputable abbrev RC(A:Around)(s:Shared)(v u:Value)(k:Bool):Prop:=SeqAt.RcAt A s v u k/\SeqAt.RcNeAt A s v u (!k)
inductive Top(X:Cx)(F H:Hp)(s:Shared):Value->D->Prop where|non:Top X F H s .none .non|bl(b:Bool):Top X F H s (.bool b) (.bl b)|int(i:Int)(t:Tok):Top X F H s (.int i t) (.int i)|str(x:Str)(t:Tok):Top X F H s (.str x t) (.str x)|tup{a:Addr}{us:List Value}{xs:List V}{ds:List D}(ht:s.heap.IsTuple a us.toArray)(hv:Vals xs us)(hr:aL X.K F xs ds):Top X F H s (.ref a) (.tup ds)|lst{a:Addr}{us:List Value}{xs:List V}{ds:List D}(ht:s.heap.IsList a us.toArray)(hv:Vals xs us)(hr:aL X.K F xs ds):Top X F H s (.ref a) (.lst ds)
theorem rQ(I:L2.Inv X pins σ H s)(sm:aP F H){v:V}{v':Value}{d:D}(hd:dZ 8 d=true)(h:eN X.K F H v d)(r:RelV v v'):Top X F H s v' d:=by cases d with|cD _=>simp[dZ]at hd|non=>rw[h.non]at r;cases r;exact .non|bl b=>rw[h.bl]at r;cases r;exact .bl b|int i=>rw[h.int]at r;obtain⟨t,rfl⟩:=r;exact .int i t|str x=>rw[h.str]at r;obtain⟨t,rfl⟩:=r;exact .str x t|tup ds=>obtain⟨a,xs,rfl,h1,h2,_⟩:=h.tup sm;cases r;obtain⟨us,v1,p1,_⟩:=I.tuple h1;exact .tup p1 v1 h2|lst ds=>obtain⟨a,xs,rfl,h1,h2⟩:=h.lst sm;cases r;obtain⟨us,v1,p1,_⟩:=I.list h1;exact .lst p1.isList v1 h2
theorem U7(I:L2.Inv X pins σ H s)(sm:aP F H){n:Nat}(hu:A.units+(n+1)<cLine){d e:D}(hd:dZ (n+1) d=true)(he:dZ (n+1) e=true){v' u':Value}(h1:Top X F H s v' d)(h2:Top X F H s u' e):RC A s v' u' (jQ d e):=by
 have hu0:A.units<cLine:=by omega
 have hu1:A.in1.units+n<cLine:=by show A.units+1+n<cLine;omega
 have at_:∀{xs ys:List V}{us ws:List Value}{ds es:List D}{j:Nat}(k1:j<us.toArray.size)(k2:j<ws.toArray.size),ds.all (dZ n)=true->es.all (dZ n)=true->Vals xs us->Vals ys ws->aL X.K F xs ds->aL X.K F ys es->SeqAt.EqAt A.in1 s us.toArray[j] ws.toArray[j] (jQ (ds.getD j .non) (es.getD j .non)):=fun{xs ys us ws ds es j}k1 k2 a1 a2 v1 v2 p1 p2=>by
  have k1:j<us.length:=by simpa using k1
  have k2:j<ws.length:=by simpa using k2
  have l1:j<ds.length:=by rw[<-p1.length,v1.length];exact k1
  have l2:j<es.length:=by rw[<-p2.length,v2.length];exact k2
  obtain⟨x,g1,g2⟩:=p1.get (show ds[j]?=some ds[j]by simp[l1]);obtain⟨y,g3,g4⟩:=p2.get (show es[j]?=some es[j]by simp[l2]);obtain⟨x',g5,g6⟩:=v1.get g1;obtain⟨y',g7,g8⟩:=v2.get g3;have e1:us.toArray[j]=x':=by have:=(List.getElem?_eq_some_iff.mp g5).2;simpa using this
  have e2:ws.toArray[j]=y':=by have:=(List.getElem?_eq_some_iff.mp g7).2;simpa using this
  have e3:ds.getD j .non=ds[j]:=by simp[List.getD,l1]
  have e4:es.getD j .non=es[j]:=by simp[List.getD,l2]
  rw[e1,e2,e3,e4];exact Zm I sm n A.in1 hu1 _ _ (List.all_eq_true.mp a1 _ (List.getElem_mem l1)) (List.all_eq_true.mp a2 _ (List.getElem_mem l2)) x y x' y' g2 g4 g6 g8
 cases h1 with
 |non=>cases h2 with|non=>exact⟨SeqAt.RcAt.none_none,SeqAt.RcNeAt.none_none⟩|bl b=>exact⟨SeqAt.RcAt.none_bool _,SeqAt.RcNeAt.none_bool _⟩|int i t=>exact⟨SeqAt.RcAt.none_int _ _,SeqAt.RcNeAt.none_int _ _⟩|str i t=>exact⟨SeqAt.RcAt.none_str _ _,SeqAt.RcNeAt.none_str _ _⟩|tup ht _ _=>exact⟨SeqAt.RcAt.none_tuple ht hu0,SeqAt.RcNeAt.none_tuple ht hu0⟩|lst ht _ _=>exact⟨SeqAt.RcAt.none_list ht hu0,SeqAt.RcNeAt.none_list ht hu0⟩
 |bl b0=>cases h2 with|non=>exact⟨SeqAt.RcAt.bool_none _,SeqAt.RcNeAt.bool_none _⟩|bl b=>exact⟨SeqAt.RcAt.bool_bool _ _,SeqAt.RcNeAt.bool_bool _ _⟩|int i t=>exact⟨SeqAt.RcAt.bool_int _ _ _,SeqAt.RcNeAt.bool_int _ _ _⟩|str i t=>exact⟨SeqAt.RcAt.bool_str _ _ _,SeqAt.RcNeAt.bool_str _ _ _⟩|tup ht _ _=>exact⟨SeqAt.RcAt.bool_tuple _ ht hu0,SeqAt.RcNeAt.bool_tuple _ ht hu0⟩|lst ht _ _=>exact⟨SeqAt.RcAt.bool_list _ ht hu0,SeqAt.RcNeAt.bool_list _ ht hu0⟩
 |int i0 t0=>cases h2 with|non=>exact⟨SeqAt.RcAt.int_none _ _,SeqAt.RcNeAt.int_none _ _⟩|bl b=>exact⟨SeqAt.RcAt.int_bool _ _ _,SeqAt.RcNeAt.int_bool _ _ _⟩|int i t=>exact⟨SeqAt.RcAt.int_int _ _ _ _,SeqAt.RcNeAt.int_int _ _ _ _⟩|str i t=>exact⟨SeqAt.RcAt.int_str _ _ _ _,SeqAt.RcNeAt.int_str _ _ _ _⟩|tup ht _ _=>exact⟨SeqAt.RcAt.int_tuple _ _ ht hu0,SeqAt.RcNeAt.int_tuple _ _ ht hu0⟩|lst ht _ _=>exact⟨SeqAt.RcAt.int_list _ _ ht hu0,SeqAt.RcNeAt.int_list _ _ ht hu0⟩
 |str i0 t0=>cases h2 with|non=>exact⟨SeqAt.RcAt.str_none _ _,SeqAt.RcNeAt.str_none _ _⟩|bl b=>exact⟨SeqAt.RcAt.str_bool _ _ _,SeqAt.RcNeAt.str_bool _ _ _⟩|int i t=>exact⟨SeqAt.RcAt.str_int _ _ _ _,SeqAt.RcNeAt.str_int _ _ _ _⟩|str i t=>exact⟨SeqAt.RcAt.str_str _ _ _ _,SeqAt.RcNeAt.str_str _ _ _ _⟩|tup ht _ _=>exact⟨SeqAt.RcAt.str_tuple _ _ ht hu0,SeqAt.RcNeAt.str_tuple _ _ ht hu0⟩|lst ht _ _=>exact⟨SeqAt.RcAt.str_list _ _ ht hu0,SeqAt.RcNeAt.str_list _ _ ht hu0⟩
 |@tup a us xs ds ht hv hr=>
   have ha:ds.all (dZ n)=true:=by simpa[dZ]using hd
   cases h2 with|non=>exact⟨SeqAt.RcAt.tuple_none ht hu0,SeqAt.RcNeAt.tuple_none ht hu0⟩|bl b=>exact⟨SeqAt.RcAt.tuple_bool _ ht hu0,SeqAt.RcNeAt.tuple_bool _ ht hu0⟩|int i t=>exact⟨SeqAt.RcAt.tuple_int _ _ ht hu0,SeqAt.RcNeAt.tuple_int _ _ ht hu0⟩|str i t=>exact⟨SeqAt.RcAt.tuple_str _ _ ht hu0,SeqAt.RcNeAt.tuple_str _ _ ht hu0⟩|lst Ci _ _=>exact⟨SeqAt.RcAt.tuple_list ht Ci hu0,SeqAt.RcNeAt.tuple_list ht Ci hu0⟩|@tup b ws ys es Ci hv2 hr2=>
     have hb:es.all (dZ n)=true:=by simpa[dZ]using he
     have l1:us.toArray.size=ds.length:=by rw[List.size_toArray,<-hv.length,hr.length]
     have l2:ws.toArray.size=es.length:=by rw[List.size_toArray,<-hv2.length,hr2.length]
     have z1:=SeqAt.RcAt.tuples (A:=A) (e:=fun j=>jQ (ds.getD j .non) (es.getD j .non)) ht Ci hu0 fun j k1 k2=>at_ k1 k2 ha hb hv hv2 hr hr2;have z2:=SeqAt.RcNeAt.tuples (A:=A) (e:=fun j=>jQ (ds.getD j .non) (es.getD j .non)) ht Ci hu0 fun j k1 k2=>at_ k1 k2 ha hb hv hv2 hr hr2;rw[l1,l2]at z1 z2;have e0:jQ (.tup ds) (.tup es)=((List.range (min ds.length es.length)).all (fun j=>jQ (ds.getD j .non) (es.getD j .non))&&ds.length==es.length):=by
      rw[pqt];by_cases hl:ds.length=es.length;.rw[gw hl,hl];simp
      . rw[jj hl];have:(ds.length==es.length)=false:=by simpa using hl
        rw[this,Bool.and_false]
     rw[e0];exact⟨z1,z2⟩
 |@lst a us xs ds ht hv hr=>
   have ha:ds.all (dZ n)=true:=by simpa[dZ]using hd
   cases h2 with|non=>exact⟨SeqAt.RcAt.list_none ht hu0,SeqAt.RcNeAt.list_none ht hu0⟩|bl b=>exact⟨SeqAt.RcAt.list_bool _ ht hu0,SeqAt.RcNeAt.list_bool _ ht hu0⟩|int i t=>exact⟨SeqAt.RcAt.list_int _ _ ht hu0,SeqAt.RcNeAt.list_int _ _ ht hu0⟩|str i t=>exact⟨SeqAt.RcAt.list_str _ _ ht hu0,SeqAt.RcNeAt.list_str _ _ ht hu0⟩|tup Ci _ _=>exact⟨SeqAt.RcAt.list_tuple ht Ci hu0,SeqAt.RcNeAt.list_tuple ht Ci hu0⟩|@lst b ws ys es Ci hv2 hr2=>
     have hb:es.all (dZ n)=true:=by simpa[dZ]using he
     have l1:us.toArray.size=ds.length:=by rw[List.size_toArray,<-hv.length,hr.length]
     have l2:ws.toArray.size=es.length:=by rw[List.size_toArray,<-hv2.length,hr2.length]
     rw[Yp];by_cases hl:ds.length=es.length;.have z1:=SeqAt.RcAt.lists (A:=A) (e:=fun j=>jQ (ds.getD j .non) (es.getD j .non)) ht Ci (by rw[l1,l2,hl]) hu0 fun j k1 k2=>at_ k1 k2 ha hb hv hv2 hr hr2;have z2:=SeqAt.RcNeAt.lists (A:=A) (e:=fun j=>jQ (ds.getD j .non) (es.getD j .non)) ht Ci (by rw[l1,l2,hl]) hu0 fun j k1 k2=>at_ k1 k2 ha hb hv hv2 hr hr2;rw[l1]at z1 z2;rw[gw hl];exact⟨z1,z2⟩
     .rw[jj hl];exact⟨SeqAt.RcAt.lists_lengths ht Ci (by rw[l1,l2];simpa using hl) hu0,SeqAt.RcNeAt.lists_lengths ht Ci (by rw[l1,l2];simpa using hl) hu0⟩
theorem eX(hu:X.A.units+8<cLine):gY X (compareOp .Eq) (rD X.K (uC .eq)):=by rintro pins s σ H x y v u Q I rx ry⟨F,d,e,r,sm,px,py,he,k⟩;obtain⟨t,e1,e2⟩:=map_some (show(Gn d e).map _=some r from he);subst e2;unfold Gn at e1;obtain⟨hd,e1⟩:=bw e1;rw[Bool.and_eq_true]at hd;subst e1;exact(U7 I sm (n:=7) hu hd.1 hd.2 (rQ I sm hd.1 px rx) (rQ I sm hd.2 py ry)).1 _ _ _ _ ⟨.bl _,H,I,rfl,cC.dJ sm (lB _) k⟩
theorem Pq(hu:X.A.units+8<cLine):gY X (compareOp .NotEq) (rD X.K (uC .ne)):=by rintro pins s σ H x y v u Q I rx ry⟨F,d,e,r,sm,px,py,he,k⟩;obtain⟨t,e1,e2⟩:=map_some (show(CT d e).map _=some r from he);subst e2;unfold CT at e1;obtain⟨hd,e1⟩:=bw e1;rw[Bool.and_eq_true]at hd;subst e1;exact(U7 I sm (n:=7) hu hd.1 hd.2 (rQ I sm hd.1 px rx) (rQ I sm hd.2 py ry)).2 _ _ _ _ ⟨.bl _,H,I,rfl,cC.dJ sm (lB _) k⟩
end
end HH
end
section
namespace HH
open PySem L2 PySem.Spec PyProof.Rows
section
variable{Pg:Program}{w:World}{K:PySem.W.Frag}{mg:Str->Option Value}{base:Heap}
theorem di{x qual:Str}{st:Stmt}{f:Addr}{fd:FuncData}{N ps:List Str}{k n:Nat}{c:Call}{d:Fd}(Fu:j7 K x qual st f fd)(S:bj N ps (aM st))(h1:d.np=ps.length)(h2:d.nn=N.length)(hb:∀(cdv:Value)(A:Around)(outer:List Env)(s:Shared)(H:Hp)(E:XK),jb k (A.deeper (envOfC qual (aM st) s.heap.objs.size f cdv))->SB (yj jJ Pg w K mg base N qual (aM st) f cdv A outer s H E).We c n (fX st) d.body):cW Pg w K mg base jJ (k+1) f fd ps (j6 K ps.length (fun args=>enter c n d args)):=by
 refine Fu.ok S (fun vs H Q E h=>h.1) fun cdv A outer s H vs Q E hr h=>?_;obtain⟨hl,F,args,r,args',g,e,q⟩:=h;refine⟨_,hb cdv A outer s H E hr,?_⟩;replace e:enter c n d args=.ok r args':=e;unfold enter at e;split at e
 . rename_i hc;obtain⟨c1,c2⟩:=hc;have hg:=g.more (n:=d.nn-d.np) (τ:=List.replicate (N.length-vs.length) none) (by simp[h1,h2,hl]);have hla:args.length=d.np:=c1;have go:∀{fl:Fl}{ρ':List Sl},eG c n d.body (args++List.replicate (d.nn-d.np) .au)=.ok fl ρ'->(∀F' σ' H',bF K F (args++List.replicate (d.nn-d.np) .au) (start N vs) H F' ρ' σ' H'->(match fl with|.next=>Q .non H'|.brk=>False|.cont=>False|.ret r=>∀v,cI K F' ρ' σ' H' (args++List.replicate (d.nn-d.np) .au) (start N vs) H v r->Q v H'))->Yg K (eG c n d.body) {nx:=fun _ H'=>Q .non H',rt:=Q} (start N vs) H:=fun{fl ρ'}z k=>⟨F,_,fl,ρ',hg,z,fun F' σ' H' s=>by have:=k F' σ' H' s;cases fl<;>exact this⟩;split at e;.rename_i ρ' z;cases e;refine go z fun F' σ' H' s=>?_;obtain⟨z1,z2⟩:=bF.less (m:=d.np) hla.symm g (by simp[h1,h2,hl]) s;exact q .non F' _ H' z1 (show Rep K F' _ _ from Nb)
   .rename_i r' ρ' z;cases e;refine go z fun F' σ' H' s v rr=>?_;obtain⟨z1,z2⟩:=bF.less (m:=d.np) hla.symm g (by simp[h1,h2,hl]) s;exact q v F' _ H' z1 (z2 v r rr)
   .split at e<;>cases e
 .cases e
structure aH(Pg:Program)(w:World)(K:PySem.W.Frag)(mg:Str->Option Value)(base:Heap)(k:Nat)(c:Call)(i:Nat)(x:Str)(np:Nat):Prop where ex:∃fa fd qs,cW Pg w K mg base jJ k fa fd qs (j6 K qs.length (c i))/\mg x=some (.ref fa)/\PySem.W.keepIn K (.ref fa)=true/\Binds K fd qs []/\qs.length=np
end
section
variable{X:Cx}{c:Call}{n k:Nat}{e a b:Expr}{es:List Expr}{p pa pb:P}{ps:List P}{pos:Pos}
theorem sv(i:Nat){x:Str}(hN:X.N[i]?=some x:=by rfl)(hv:sV X.env.scope x:=by first|exact Or.inl rfl|exact Or.inr (Or.inl rfl)|exact Or.inr (Or.inr rfl))(hd:(x==("__debug__":Str))=false:=by rfl)(hcd:(x==("__classdict__":Str))=false:=by rfl):SX X c (.Name x pos) (.var i):=Q4 hN hv hd hcd
theorem dY{i np:Nat}{x:Str}{p':Pos}(C:aH X.prog X.w X.K X.mg X.base k c i x np)(hr:jb k X.A)(ha:SG X c (e::es) ps)(hg:Gl X x:=by rfl)(hl:(e::es).length=np:=by rfl)(hdb:(x==("__debug__":Str))=false:=by rfl)(he:starEach (e::es) X.env=(false,eval e X.env)::starEach es X.env:=by rfl)(hpl:(backTo pos (starEach es X.env)).any (·.1)=false:=by rfl)(hl2:ps.length=(e::es).length:=by rfl):SX X c (.Call (.Name x p') (e::es) [] pos) (.call i ps):=by obtain⟨fa,fd,qs,h1,h2,h3,h4,h5⟩:=C.ex;exact JW h1 hr hg h2 h3 h4 ha (hl.trans h5.symm) hdb he hpl hl2
noncomputable def LQ(names outer:List (Str×NameKind))(N N':List Str)(n:Nat):Bool:=(names.all fun y=>names.lookup y.1==some y.2)&&(names.all fun y=>y.2!=.local||names.lookup y.1==some .local)&&(names.all fun y=>y.2!=.free||outer.lookup y.1==some .cell||outer.lookup y.1==some .free)&&N'.length==N.length+n&&((N.zip N').all fun p=>(p.1==p.2&&names.lookup p.2==some .free)||(names.lookup p.2!=some .local&&names.lookup p.2!=some .cell&&names.lookup p.2!=some .free))
theorem uz{scope:Scope}{N':List Str}(hk:scope.kind=.function)(h:LQ scope.names X.env.scope.names X.N N' n=true):fP X scope N' n:=by
 unfold LQ at h;simp only[Bool.and_eq_true]at h;obtain⟨⟨⟨⟨h1,h2⟩,h3⟩,h4⟩,h5⟩:=h;refine⟨hk,fun y hy=>eq_of_beq (List.all_eq_true.mp h1 y hy),fun y hy e=>?_,fun y hy e=>?_,by simpa using h4,h5⟩;.have:=List.all_eq_true.mp h2 y hy;rw[e]at this;simpa using this
 . have:=List.all_eq_true.mp h3 y hy;rw[e]at this;simp only[Bool.or_eq_true]at this;rcases this with(z|z)|z;.cases z
   .exact .inl (eq_of_beq z)
   .exact .inr (eq_of_beq z)
theorem bz{A:Around}(h:jb k A):A.units+8<cLine:=by have:=h.un;omega
end
end HH
end
section
namespace PySem
open AutoSeq1(wpAny_loadPart')
section
variable{prog:Program}{w:World}{A:Around}{E:Value->Shared->Prop}{s:Shared}
theorem kZ{it l:Addr}{i:Nat}{items:Array Value}{x:Value}{Q:Value->Shared->Prop}(hit:s.heap.IsTupleIter it l i)(hl:s.heap.IsTuple l items)(hx:items[i]?=some x)(hQ:∀h',h'.IsTupleIter it l (i+1)->Heap.SameBut it s.heap h'->Q x {s with heap:=h'}):wpAny (model prog w) A (Builtin.SmallTypes.nextOf (.ref it)) Q E s:=by obtain⟨o,ho,hc,hd⟩:=id hit;obtain⟨ol,hol,_,nl,hdl⟩:=hl;unfold Builtin.SmallTypes.nextOf;refine wpAny_bind (wpAny_callSpecial?_slot (name:=Str.ofString "__next__") hit.typeIs F.slot_tuple_iterator_next (wpAny_call_entry F.slot_tuple_iterator_next hit.typeIs F.entry_tuple_iterator_next ?_ (F.args_tuple_iterator_next_1 _)));show wpAny _ _ (field (.ref it) 0>>=_) _ _ s;refine wpAny_bind (wpAny_field ho hd (x:=.ref l) rfl ?_);show wpAny _ _ (if(Value.ref l==Value.none)=true then _ else _) _ _ s;rw[if_neg (show ¬((Value.ref l==Value.none)=true)from Bool.false_ne_true)];show wpAny _ _ (field (.ref it) 1>>=_) _ _ s;refine wpAny_bind (wpAny_field ho hd (x:=.int i 0) rfl ?_);show wpAny _ _ (seqItems? (.ref l)>>=_) _ _ s;refine wpAny_bind (wpAny_seqItems hol hdl ?_);simp only[Int.toNat_natCast,hx];refine wpAny_bind (wpAny_setField ho hd (by simp) (wpAny_pure ⟨x,rfl,wpAny_pure (hQ _ ?_ (Heap.SameBut.update ..))⟩));exact⟨_,Heap.get?_update_self _ ho (Obj.isFreed_of_fields (Obj.data_mapFields hd _)),(Obj.cls_mapFields ..).trans hc,by rw[Obj.data_mapFields hd];simp[rawInt]⟩
theorem mG{it l:Addr}{i:Nat}{items:Array Value}{Q:Value->Shared->Prop}(hh:A.handled=none)(hit:s.heap.IsTupleIter it l i)(hl:s.heap.IsTuple l items)(hx:items[i]?=none)(hE:∀h' e,Heap.ExtBut it s.heap h'->(∃o,h'.get? e=some o/\o.cls=.type "StopIteration")->E (.ref e) {s with heap:=h'}):wpAny (model prog w) A (Builtin.SmallTypes.nextOf (.ref it)) Q E s:=by
 obtain⟨o,ho,hc,hd⟩:=id hit;obtain⟨ol,hol,_,nl,hdl⟩:=hl;unfold Builtin.SmallTypes.nextOf;refine wpAny_bind (wpAny_callSpecial?_slot (name:=Str.ofString "__next__") hit.typeIs F.slot_tuple_iterator_next (wpAny_call_entry F.slot_tuple_iterator_next hit.typeIs F.entry_tuple_iterator_next ?_ (F.args_tuple_iterator_next_1 _)));show wpAny _ _ (field (.ref it) 0>>=_) _ _ s;refine wpAny_bind (wpAny_field ho hd (x:=.ref l) rfl ?_);show wpAny _ _ (if(Value.ref l==Value.none)=true then _ else _) _ _ s;rw[if_neg (show ¬((Value.ref l==Value.none)=true)from Bool.false_ne_true)];show wpAny _ _ (field (.ref it) 1>>=_) _ _ s;refine wpAny_bind (wpAny_field ho hd (x:=.int i 0) rfl ?_);show wpAny _ _ (seqItems? (.ref l)>>=_) _ _ s;refine wpAny_bind (wpAny_seqItems hol hdl ?_);simp only[Int.toNat_natCast,hx];refine wpAny_bind (wpAny_rule (wpAny_bind (wpAny_setField ho hd (by simp) ?_)));show wpAny _ _ (newExc (.type "StopIteration") []>>=_) _ _ _;refine wpAny_bind ?_;simp only[newExc,newTuple];refine wpAny_bind (wpAny_newObj_type ?_ (by size_fits));refine wpAny_bind (m:=firstArgMember _ _) (wpAny_of_eq (a:=Value.none) (by first|rfl|(simp only[firstArgMember];rfl)) ?_);refine wpAny_newObj_type ?_ (by size_fits);simp only[raiseNew];refine wpAny_bind (wpAny_handled ?_);first|rw[show A.in1.handled=none from hh]|rw[hh]
 refine wpAny_bind (wpAny_pure (wpAny_throw ?_));exact hE _ _ (((Heap.SameBut.update ..).extBut.push _).push _) ⟨_,Heap.get?_push_size _ rfl,rfl⟩
end
end PySem
end
section
namespace L2
open PySem PySem.Spec PyProof.Rows
section
variable{X:Cx}{pins:List (Addr×Obj)}{σ:L2.St}{H:Hp}{s:Shared}
theorem Inv.PL{ch:List Addr}{h':Heap}{o:HO}{t':Nat}(I:Inv X pins σ H s)(k:∀b u,b∉ch->s.heap.get? b=some u->h'.get? b=some u)(hl:∀b∈ch,∃u,h'.get? b=some u)(hf:∀b∈ch,mU X pins H b)(new:bU X.prog X.w (upd H s.heap.objs.size o) h' s.heap.objs.size o):Inv X pins σ (upd H s.heap.objs.size o) {s with heap:=h',toks:=t'}:=by
 have fr:H s.heap.objs.size=none:=I.hok.fresh (Nat.le_refl _);have G7:∀b u,H b=some u->b∉ch:=fun b u e hb=>by rw[(hf b hb).1]at e;cases e
 have up:∀b u,H b=some u->upd H s.heap.objs.size o b=some u:=fun b u e=>by
  have:b≠s.heap.objs.size:=by rintro rfl;rw[fr]at e;cases e
  rw[aK this];exact e
 refine I.call (g':=s.gens) (d':=s.drawn) (ch:=ch) ⟨fun b u e n _ hx=>k b u hx e,fun b u e n _ hx=>⟨u.slots,k b u hx e⟩,fun b u e n hx=>?_,fun b u e hx=>⟨u,k b u hx e⟩,fun b xs e=>up b _ e,fun b ob u e=>up b _ e,fun b ps e=>⟨#[],by rw[up b _ e];simp⟩⟩ ?_ I.bare fun b hb=>⟨(hf b hb).2.2.2.1,(hf b hb).2.1,(hf b hb).2.2.2.2.1,(hf b hb).2.2.2.2.2⟩;.have:b≠s.heap.objs.size:=Nat.ne_of_lt (Heap.lt_size e);rw[aK this];exact n
 . intro b u e;by_cases hb:b=s.heap.objs.size;.subst hb;rw[aX]at e;cases e;exact new
   . rw[aK hb]at e;refine(I.hok b u e).stay (fun c v hc q=>k c v ?_ q) (fun c q=>up c _ q) fun c xs q=>up c _ q;rcases hc with rfl|hc;.exact G7 _ _ e
     .exact G7 _ _ hc
end
end L2
namespace HH
open PySem L2 PySem.Spec PyProof.Rows
section
variable{K:PySem.W.Frag}{F F1 H H1:Hp}{ρ ρ1:List Sl}{σ:L2.St}{ds:List D}{a:Addr}
theorem Ge{F' H':Hp}{T:Addr}{v w:V}{d1 d2:D}(sm:aP F' H')(hT:H' T=none)(r1:Rep K F' v d1)(r2:Rep K F' w d2):∃F'',Ext F' H' F'' (upd H' T (.tup [v,w]))/\Rep K F'' (.ref T) (.tup [d1,d2]):=BW (Q:=fun v nC=>∃F'',Ext F' H' F'' nC/\Rep K F'' v (.tup [d1,d2])) sm (.cons r1 (.cons r2 .nil)) hT fun v F'' nC x rn=>⟨F'',x,rn⟩
end
end HH
end
section
namespace PySem
structure Nx(prog:Program)(w:World)(A:Around)(it src:Addr)(Sx:Nat->Heap->Prop)(get:Nat->Option Value):Prop where
 obj:∀k h,Sx k h->∃o,h.get? it=some o/\∀v,o.data≠.cell v
 keep:∀k h h',Sx k h->(∀o,h.get? it=some o->h'.get? it=some o)->(∀o,h.get? src=some o->h'.get? src=some o)->Sx k h'
 item:∀k(s:Shared)(Q:Value->Shared->Prop)(E:Value->Shared->Prop)x,Sx k s.heap->get k=some x->(∀h',Sx (k+1) h'->Heap.SameBut it s.heap h'->Q x {s with heap:=h'})->wpAny (model prog w) A (Builtin.SmallTypes.nextOf (.ref it)) Q E s
 fin:∀k(s:Shared)(Q:Value->Shared->Prop)(E:Value->Shared->Prop),Sx k s.heap->get k=none->(∀h' e,Heap.ExtBut it s.heap h'->(∃o,h'.get? e=some o/\o.cls=.type "StopIteration")->E (.ref e) {s with heap:=h'})->wpAny (model prog w) A (Builtin.SmallTypes.nextOf (.ref it)) Q E s
section
variable{prog:Program}{w:World}{A:Around}{E:Value->Shared->Prop}{s:Shared}
theorem Nx.list(hh:A.handled=none)(it l:Addr)(hne:l≠it)(items:Array Value):Nx prog w A it l (fun k h=>h.IsListIter it l k/\h.IsList l items) (fun k=>items[k]?)where obj:=fun k h st=>let⟨o,h1,_,h3⟩:=st.1;⟨o,h1,fun v z=>by rw[h3]at z;cases z⟩;keep:=fun k h h' st a b=>⟨(let⟨o,ho,r⟩:=st.1;⟨o,a o ho,r⟩),(let⟨o,ho,r⟩:=st.2;⟨o,b o ho,r⟩)⟩;item:=fun k s Q E x st hx hQ=>wpAny_nextOf_list_item st.1 st.2 hx fun h' hit hs=>hQ h' ⟨hit,(let⟨o,ho,r⟩:=st.2;⟨o,hs.extBut l o hne ho,r⟩)⟩ hs;fin:=fun k s Q E st hx hE=>wpAny_nextOf_list_end hh st.1 st.2 hx hE
theorem Nx.tuple(hh:A.handled=none)(it l:Addr)(hne:l≠it)(items:Array Value):Nx prog w A it l (fun k h=>h.IsTupleIter it l k/\h.IsTuple l items) (fun k=>items[k]?)where obj:=fun k h st=>let⟨o,h1,_,h3⟩:=st.1;⟨o,h1,fun v z=>by rw[h3]at z;cases z⟩;keep:=fun k h h' st a b=>⟨(let⟨o,ho,r⟩:=st.1;⟨o,a o ho,r⟩),(let⟨o,ho,r⟩:=st.2;⟨o,b o ho,r⟩)⟩;item:=fun k s Q E x st hx hQ=>kZ st.1 st.2 hx fun h' hit hs=>hQ h' ⟨hit,(let⟨o,ho,r⟩:=st.2;⟨o,hs.extBut l o hne ho,r⟩)⟩ hs;fin:=fun k s Q E st hx hE=>mG hh st.1 st.2 hx hE
variable{z TI TO i1 i2 l1 l2:Addr}{k:Nat}{S1 S2:Nat->Heap->Prop}{g1 g2:Nat->Option Value}{a b:Value}
theorem BL{x y:Value}{Q:Value->Shared->Prop}(D:ZipApart z TI TO i1 i2 l1 l2)(N1:Nx prog w A i1 l1 S1 g1)(N2:Nx prog w A i2 l2 S2 g2)(hz:IsZip s.heap z TI TO .none)(hTI:IsPair s.heap TI (.ref i1) (.ref i2))(hTO:IsPair s.heap TO a b)(h1:S1 k s.heap)(h2:S2 k s.heap)(hx:g1 k=some x)(hy:g2 k=some y)(hQ:∀ h',IsZip h' z TI TO (rawInt s.heap.objs.size)->IsPair h' TO x y->S1 (k+1) h'->S2 (k+1) h'->IsPair h' s.heap.objs.size x y->h'.objs.size=s.heap.objs.size+1->(∀c o,c≠z->c≠TO->c≠i1->c≠i2->s.heap.get? c=some o->h'.get? c=some o)->Q (.ref s.heap.objs.size) {s with heap:=h'}):wpAny (model prog w) A (Builtin.«zip.__next__» ⟨[.ref z],[]⟩) (fun fin s'=>∃v,fin=.done (.ret v)/\Q v s') E s:=by
 show wpAny _ _ (field (.ref z) 2>>=_) _ _ _;refine wpAny_bind (wpAny_field hz rfl (x:=.bool false) rfl ?_);show wpAny _ _ (field (.ref z) 3>>=_) _ _ _;refine wpAny_bind (wpAny_field hz rfl (x:=.ref TI) rfl (wpAny_bind (wpAny_seqItems hTI rfl ?_)));show wpAny _ _ (Builtin.SmallTypes.ownedTupleIsFree (.ref z)>>=_) _ _ _;refine wpAny_bind ?_;unfold Builtin.SmallTypes.ownedTupleIsFree;refine wpAny_bind (wpAny_field hz rfl (x:=.none) rfl (wpAny_pure ?_));simp only[if_true];refine wpAny_bind (wpAny_rule (wpAny_bind (wpAny_field hz rfl (x:=.ref TO) rfl (wpAny_bind (wpAny_setField_rec hz (by simp) fun t1 z1 yr=>?_)))));have z1:IsZip t1 z TI TO .ellipsis:=z1;refine wpAny_bind ?_;simp only[List.zipIdx_cons,List.zipIdx_nil,List.forIn_cons,List.forIn_nil];refine wpAny_bind (wpAny_bind (wpAny_onRaise ?_));show wpAny _ _ (Builtin.SmallTypes.nextOf (.ref i1)>>=_) _ _ _;have q1:S1 k t1:=N1.keep _ _ _ h1 (fun o e=>yr.extBut _ _ D.i1z e) fun o e=>yr.extBut _ _ D.l1z e;refine wpAny_bind (N1.item k _ _ _ x q1 hx fun t2 q2 yt=>wpAny_pure ?_);have p2:IsPair t2 TO a b:=yt.extBut _ _ D.TOi1 (yr.extBut _ _ D.TOz hTO);refine wpAny_bind (wpAny_seqItems p2 rfl (wpAny_bind (wpAny_updateSeq_pair p2 fun t3 p3 yu=>?_)));have p3:IsPair t3 TO x b:=p3;refine wpAny_bind (wpAny_letGo (wpAny_pure (wpAny_bind (wpAny_bind (wpAny_onRaise ?_)))));show wpAny _ _ (Builtin.SmallTypes.nextOf (.ref i2)>>=_) _ _ _;have w3:S2 k t3:=N2.keep _ _ _ h2 (fun o e=>yu.extBut _ _ D.TOi2.symm (yt.extBut _ _ D.i12.symm (yr.extBut _ _ D.i2z e))) fun o e=>yu.extBut _ _ D.l2TO (yt.extBut _ _ D.l2i1 (yr.extBut _ _ D.l2z e));refine wpAny_bind (N2.item k _ _ _ y w3 hy fun t4 w4 KH=>wpAny_pure ?_);have p4:IsPair t4 TO x b:=KH.extBut _ _ D.TOi2 p3;refine wpAny_bind (wpAny_seqItems p4 rfl (wpAny_bind (wpAny_updateSeq_pair p4 fun t5 p5 HD=>?_)));have p5:IsPair t5 TO x y:=p5;refine wpAny_bind (wpAny_letGo (wpAny_pure (wpAny_pure (wpAny_bind (wpAny_seqItems p5 rfl (wpAny_bind (wpAny_newTuple ?_)))))));have hsz:t5.objs.size=s.heap.objs.size:=by rw[HD.1,KH.1,yu.1,yt.1,yr.1]
 have z5:IsZip t5 z TI TO .ellipsis:=HD.extBut _ _ D.TOz.symm (KH.extBut _ _ D.i2z.symm (yu.extBut _ _ D.TOz.symm (yt.extBut _ _ D.i1z.symm z1)));have kp:∀c o,c≠z->c≠TO->c≠i1->c≠i2->s.heap.get? c=some o->t5.get? c=some o:=fun c o c1 c2 c3 c4 e=>HD.extBut _ _ c2 (KH.extBut _ _ c4 (yu.extBut _ _ c2 (yt.extBut _ _ c3 (yr.extBut _ _ c1 e))));have q5:S1 (k+1) t5:=N1.keep _ _ _ q2 (fun o e=>HD.extBut _ _ D.TOi1.symm (KH.extBut _ _ D.i12 (yu.extBut _ _ D.TOi1.symm e))) fun o e=>HD.extBut _ _ D.l1TO (KH.extBut _ _ D.l1i2 (yu.extBut _ _ D.l1TO e));have w5:S2 (k+1) t5:=N2.keep _ _ _ w4 (fun o e=>HD.extBut _ _ D.TOi2.symm e) fun o e=>HD.extBut _ _ D.l2TO e;have zlt:z<t5.objs.size:=Heap.lt_size z5;show wpAny _ _ (Builtin.SmallTypes.ownedTupleHandOut (.ref z) (.ref t5.objs.size)>>=_) _ _ _;refine wpAny_bind ?_;unfold Builtin.SmallTypes.ownedTupleHandOut;have z6:IsZip (t5.push {cls:=.type "tuple",data:=.seq #[x,y]}) z TI TO .ellipsis:=Heap.get?_push_of_some _ z5;refine wpAny_bind (wpAny_setField_rec z6 (by simp) fun t7 z7 sb7=>?_);have z7:IsZip t7 z TI TO (rawInt t5.objs.size):=z7;refine wpAny_setField_rec z7 (by simp) fun t8 z8 sb8=>?_;have z8:IsZip t8 z TI TO (rawInt t5.objs.size):=z8;have up:∀c o,c≠z->t5.get? c=some o->t8.get? c=some o:=fun c o c1 e=>sb8.extBut _ _ c1 (sb7.extBut _ _ c1 (Heap.get?_push_of_some _ e));have T8:IsPair t8 t5.objs.size x y:=sb8.extBut _ _ (Nat.ne_of_gt zlt) (sb7.extBut _ _ (Nat.ne_of_gt zlt) (Heap.get?_push_size _ rfl));have n8:t8.objs.size=t5.objs.size+1:=by rw[sb8.1,sb7.1,Heap.size_push]
 rw[hsz]at z8 T8 n8;refine wpAny_pure ⟨_,rfl,?_⟩;show Q (.ref t5.objs.size) _;rw[hsz];exact hQ t8 z8 (up _ _ D.TOz p5) (N1.keep _ _ _ q5 (fun o e=>up _ o D.i1z e) fun o e=>up _ o D.l1z e) (N2.keep _ _ _ w5 (fun o e=>up _ o D.i2z e) fun o e=>up _ o D.l2z e) T8 n8 fun c o c1 c2 c3 c4 e=>up c o c1 (kp c o c1 c2 c3 c4 e)
theorem Fp{Q:Fin->Shared->Prop}(D:ZipApart z TI TO i1 i2 l1 l2)(N1:Nx prog w A i1 l1 S1 g1)(N2:Nx prog w A i2 l2 S2 g2)(hz:IsZip s.heap z TI TO .none)(hTI:IsPair s.heap TI (.ref i1) (.ref i2))(hTO:IsPair s.heap TO a b)(h1:S1 k s.heap)(h2:S2 k s.heap)(hend:g1 k=none\/g2 k=none)(hE:∀h' e,(∀c o,c≠z->c≠TO->c≠i1->c≠i2->s.heap.get? c=some o->h'.get? c=some o)->(∃o,h'.get? e=some o/\o.cls=.type "StopIteration")->E (.ref e) {s with heap:=h'}):wpAny (model prog w) A (Builtin.«zip.__next__» ⟨[.ref z],[]⟩) Q E s:=by
 show wpAny _ _ (field (.ref z) 2>>=_) _ _ _;refine wpAny_bind (wpAny_field hz rfl (x:=.bool false) rfl ?_);show wpAny _ _ (field (.ref z) 3>>=_) _ _ _;refine wpAny_bind (wpAny_field hz rfl (x:=.ref TI) rfl (wpAny_bind (wpAny_seqItems hTI rfl ?_)));show wpAny _ _ (Builtin.SmallTypes.ownedTupleIsFree (.ref z)>>=_) _ _ _;refine wpAny_bind ?_;unfold Builtin.SmallTypes.ownedTupleIsFree;refine wpAny_bind (wpAny_field hz rfl (x:=.none) rfl (wpAny_pure ?_));simp only[if_true];refine wpAny_bind (wpAny_rule (wpAny_bind (wpAny_field hz rfl (x:=.ref TO) rfl (wpAny_bind (wpAny_setField_rec hz (by simp) fun t1 z1 yr=>?_)))));have z1:IsZip t1 z TI TO .ellipsis:=z1;refine wpAny_bind ?_;simp only[List.zipIdx_cons,List.zipIdx_nil,List.forIn_cons,List.forIn_nil];refine wpAny_bind (wpAny_bind (wpAny_onRaise ?_));show wpAny _ _ (Builtin.SmallTypes.nextOf (.ref i1)>>=_) _ _ _
 have q1:S1 k t1:=N1.keep _ _ _ h1 (fun o e=>yr.extBut _ _ D.i1z e) fun o e=>yr.extBut _ _ D.l1z e;cases hx:g1 k with|none=>
   refine wpAny_bind (N1.fin k _ _ _ q1 hx fun t2 e yt he=>?_);obtain⟨oe,hoe,hce⟩:=he;have z2:IsZip t2 z TI TO .ellipsis:=yt _ _ D.i1z.symm z1;have hez:e≠z:=fun x=>by subst x;rw[z2]at hoe;cases hoe;simp at hce
   exact wpAny_setField_rec z2 (by simp) fun t3 _ yu=>hE t3 e (fun c o c1 _ c3 _ x=>yu.extBut _ _ c1 (yt _ _ c3 (yr.extBut _ _ c1 x))) ⟨oe,yu.extBut _ _ hez hoe,hce⟩|some x=>
   have hy:g2 k=none:=by rcases hend with h|h;rw[hx]at h;cases h;exact h
   refine wpAny_bind (N1.item k _ _ _ x q1 hx fun t2 q2 yt=>wpAny_pure ?_);have p2:IsPair t2 TO a b:=yt.extBut _ _ D.TOi1 (yr.extBut _ _ D.TOz hTO);refine wpAny_bind (wpAny_seqItems p2 rfl (wpAny_bind (wpAny_updateSeq_pair p2 fun t3 p3 yu=>?_)));refine wpAny_bind (wpAny_letGo (wpAny_pure (wpAny_bind (wpAny_bind (wpAny_onRaise ?_)))));show wpAny _ _ (Builtin.SmallTypes.nextOf (.ref i2)>>=_) _ _ _;have w3:S2 k t3:=N2.keep _ _ _ h2 (fun o e=>yu.extBut _ _ D.TOi2.symm (yt.extBut _ _ D.i12.symm (yr.extBut _ _ D.i2z e))) fun o e=>yu.extBut _ _ D.l2TO (yt.extBut _ _ D.l2i1 (yr.extBut _ _ D.l2z e));refine wpAny_bind (N2.fin k _ _ _ w3 hy fun t4 e KH he=>?_);obtain⟨oe,hoe,hce⟩:=he;have z4:IsZip t4 z TI TO .ellipsis:=KH _ _ D.i2z.symm (yu.extBut _ _ D.TOz.symm (yt.extBut _ _ D.i1z.symm z1));have hez:e≠z:=fun x=>by subst x;rw[z4]at hoe;cases hoe;simp at hce
   exact wpAny_setField_rec z4 (by simp) fun t5 _ HD=>hE t5 e (fun c o c1 c2 c3 c4 x=>HD.extBut _ _ c1 (KH _ _ c4 (yu.extBut _ _ c2 (yt.extBut _ _ c3 (yr.extBut _ _ c1 x))))) ⟨oe,HD.extBut _ _ hez hoe,hce⟩
theorem mJ{x y:Value}{Q:Option Value->Shared->Prop}(D:ZipApart z TI TO i1 i2 l1 l2)(N1:Nx prog w A.in1 i1 l1 S1 g1)(N2:Nx prog w A.in1 i2 l2 S2 g2)(hz:IsZip s.heap z TI TO .none)(hTI:IsPair s.heap TI (.ref i1) (.ref i2))(hTO:IsPair s.heap TO a b)(h1:S1 k s.heap)(h2:S2 k s.heap)(hx:g1 k=some x)(hy:g2 k=some y)(hQ:∀ h',IsZip h' z TI TO (rawInt s.heap.objs.size)->IsPair h' TO x y->S1 (k+1) h'->S2 (k+1) h'->IsPair h' s.heap.objs.size x y->h'.objs.size=s.heap.objs.size+1->(∀c o,c≠z->c≠TO->c≠i1->c≠i2->s.heap.get? c=some o->h'.get? c=some o)->Q (some (.ref s.heap.objs.size)) {s with heap:=h'}):wpAny (model prog w) A (pyNext (.ref z)) Q E s:=by have hT:s.TypeIs (.ref z) "zip":=⟨_,hz,rfl⟩;unfold pyNext;exact wpAny_bind (wpAny_attempt (wpAny_callSpecial?_slot (name:=Str.ofString "__next__") hT F.slot_zip_next (wpAny_call_entry F.slot_zip_next hT F.entry_zip_next (BL D N1 N2 hz hTI hTO h1 h2 hx hy fun h' a1 a2 a3 a4 a5 a6 a7=>wpAny_pure (hQ h' a1 a2 a3 a4 a5 a6 a7)) (F.args_zip_next_1 _))))
theorem nM{Q:Option Value->Shared->Prop}(D:ZipApart z TI TO i1 i2 l1 l2)(N1:Nx prog w A.in1 i1 l1 S1 g1)(N2:Nx prog w A.in1 i2 l2 S2 g2)(hz:IsZip s.heap z TI TO .none)(hTI:IsPair s.heap TI (.ref i1) (.ref i2))(hTO:IsPair s.heap TO a b)(h1:S1 k s.heap)(h2:S2 k s.heap)(hend:g1 k=none\/g2 k=none)(hQ:∀h',(∀c o,c≠z->c≠TO->c≠i1->c≠i2->s.heap.get? c=some o->h'.get? c=some o)->Q none {s with heap:=h'}):wpAny (model prog w) A (pyNext (.ref z)) Q E s:=by have hT:s.TypeIs (.ref z) "zip":=⟨_,hz,rfl⟩;unfold pyNext;refine wpAny_bind (wpAny_attempt (wpAny_callSpecial?_slot (name:=Str.ofString "__next__") hT F.slot_zip_next (wpAny_call_entry F.slot_zip_next hT F.entry_zip_next (Fp D N1 N2 hz hTI hTO h1 h2 hend fun h' e hk he=>?_) (F.args_zip_next_1 _))));obtain⟨o,ho,hc⟩:=he;exact wpAny_bind (wpAny_isInstance (T:="StopIteration") (b:=true) ⟨o,ho,hc⟩ isSubtype_stop (wpAny_pure (hQ _ hk)))
end
theorem nF(l1 l2:Addr)(xs ys:Array Value):Meets (Builtin.«zip.__new__» ⟨[.type "zip",.ref l1,.ref l2],[]⟩) (fun _ R s=>s.heap.IsList l1 xs/\s.heap.IsList l2 ys/\R (.ok (.ret (.ref (s.heap.objs.size+4)))) {s with heap:=((((s.heap.push {cls:=.type "list_iterator",data:=.fields #[.ref l1,.int 0 0]}).push {cls:=.type "list_iterator",data:=.fields #[.ref l2,.int 0 0]}).push {cls:=.type "tuple",data:=.seq #[.ref s.heap.objs.size,.ref (s.heap.objs.size+1)]}).push {cls:=.type "tuple",data:=.seq #[.none,.none]}).push {cls:=.type "zip",data:=.fields #[.none,.bool false,.bool false,.ref (s.heap.objs.size+2),.ref (s.heap.objs.size+3)]}}):=.of_wp fun prog w A R s h=>by obtain⟨hp,g,d,tk,os⟩:=s;obtain⟨hl1,hl2,h⟩:=h;have hsub:=sub_zip;have hL1:Heap.IsList (Shared.heap ⟨hp,g,d,tk,os⟩) l1 xs:=hl1;have hL2:Heap.IsList (Shared.heap ⟨hp.push {cls:=.type "list_iterator",data:=.fields #[.ref l1,.int 0 0]},g,d,tk,os⟩) l2 ys:=Heap.IsList.push hl2 _;wp_walk using wpAny_pyIter_list hL1,wpAny_pyIter_list hL2;simp only[Heap.size_push]at*;exact⟨_,rfl,h⟩
section
variable{prog:Program}{w:World}{A:Around}{E:Value->Shared->Prop}{s:Shared}
theorem xu{l1 l2:Addr}{xs ys:Array Value}{Q:Value->Shared->Prop}(hl1:s.heap.IsList l1 xs)(hl2:s.heap.IsList l2 ys)(h:∀ h',IsZip h' (s.heap.objs.size+4) (s.heap.objs.size+2) (s.heap.objs.size+3) .none->IsPair h' (s.heap.objs.size+2) (.ref s.heap.objs.size) (.ref (s.heap.objs.size+1))->IsPair h' (s.heap.objs.size+3) .none .none->h'.IsListIter s.heap.objs.size l1 0->h'.IsListIter (s.heap.objs.size+1) l2 0->(∀c o,s.heap.get? c=some o->h'.get? c=some o)->Q (.ref (s.heap.objs.size+4)) {s with heap:=h'}):wpAny (model prog w) A (call (.type "zip") [.ref l1,.ref l2]) Q E s:=by
 refine callType_new F.called_zip (by decide) (F.typeCall_zip_2 _ _) (F.newCall_zip_2 _ _) (fun obj=>F.args_object_init_3 obj _ _) F.entry_zip_new (nF l1 l2 xs ys) ⟨hl1,hl2,?_⟩;generalize e1:s.heap.push {cls:=.type "list_iterator",data:=.fields #[.ref l1,.int 0 0]}=t1;have n1:t1.objs.size=s.heap.objs.size+1:=by rw[<-e1,Heap.size_push]
 have a1:t1.get? s.heap.objs.size=some {cls:=.type "list_iterator",data:=.fields #[.ref l1,.int 0 0]}:=by rw[<-e1];exact Heap.get?_push_size _ rfl
 have k1:∀c o,s.heap.get? c=some o->t1.get? c=some o:=fun c o e=>by rw[<-e1];exact Heap.get?_push_of_some _ e
 generalize e2:t1.push {cls:=.type "list_iterator",data:=.fields #[.ref l2,.int 0 0]}=t2;have n2:t2.objs.size=s.heap.objs.size+2:=by rw[<-e2,Heap.size_push,n1]
 have a2:t2.get? (s.heap.objs.size+1)=some {cls:=.type "list_iterator",data:=.fields #[.ref l2,.int 0 0]}:=by rw[<-n1,<-e2];exact Heap.get?_push_size _ rfl
 have k2:∀c o,t1.get? c=some o->t2.get? c=some o:=fun c o e=>by rw[<-e2];exact Heap.get?_push_of_some _ e
 generalize e3:t2.push {cls:=.type "tuple",data:=.seq #[.ref s.heap.objs.size,.ref (s.heap.objs.size+1)]}=t3;have n3:t3.objs.size=s.heap.objs.size+3:=by rw[<-e3,Heap.size_push,n2]
 have a3:t3.get? (s.heap.objs.size+2)=some {cls:=.type "tuple",data:=.seq #[.ref s.heap.objs.size,.ref (s.heap.objs.size+1)]}:=by rw[<-n2,<-e3];exact Heap.get?_push_size _ rfl
 have k3:∀c o,t2.get? c=some o->t3.get? c=some o:=fun c o e=>by rw[<-e3];exact Heap.get?_push_of_some _ e
 generalize e4:t3.push {cls:=.type "tuple",data:=.seq #[.none,.none]}=t4;have n4:t4.objs.size=s.heap.objs.size+4:=by rw[<-e4,Heap.size_push,n3]
 have a4:t4.get? (s.heap.objs.size+3)=some {cls:=.type "tuple",data:=.seq #[.none,.none]}:=by rw[<-n3,<-e4];exact Heap.get?_push_size _ rfl
 have k4:∀c o,t3.get? c=some o->t4.get? c=some o:=fun c o e=>by rw[<-e4];exact Heap.get?_push_of_some _ e
 generalize e5:t4.push {cls:=.type "zip",data:=.fields #[.none,.bool false,.bool false,.ref (s.heap.objs.size+2),.ref (s.heap.objs.size+3)]}=t5;have a5:t5.get? (s.heap.objs.size+4)=some {cls:=.type "zip",data:=.fields #[.none,.bool false,.bool false,.ref (s.heap.objs.size+2),.ref (s.heap.objs.size+3)]}:=by rw[<-n4,<-e5];exact Heap.get?_push_size _ rfl
 have k5:∀c o,t4.get? c=some o->t5.get? c=some o:=fun c o e=>by rw[<-e5];exact Heap.get?_push_of_some _ e
 exact⟨⟨_,a5,rfl⟩,h t5 a5 (k5 _ _ (k4 _ _ a3)) (k5 _ _ a4) ⟨_,k5 _ _ (k4 _ _ (k3 _ _ (k2 _ _ a1))),rfl,rfl⟩ ⟨_,k5 _ _ (k4 _ _ (k3 _ _ a2)),rfl,rfl⟩ fun c o e=>k5 _ _ (k4 _ _ (k3 _ _ (k2 _ _ (k1 _ _ e))))⟩
end
theorem nD(l1 l2:Addr)(xs ys:Array Value):Meets (Builtin.«zip.__new__» ⟨[.type "zip",.ref l1,.ref l2],[]⟩) (fun _ R s=>s.heap.IsList l1 xs/\s.heap.IsTuple l2 ys/\R (.ok (.ret (.ref (s.heap.objs.size+4)))) {s with heap:=((((s.heap.push {cls:=.type "list_iterator",data:=.fields #[.ref l1,.int 0 0]}).push {cls:=.type "tuple_iterator",data:=.fields #[.ref l2,.int 0 0]}).push {cls:=.type "tuple",data:=.seq #[.ref s.heap.objs.size,.ref (s.heap.objs.size+1)]}).push {cls:=.type "tuple",data:=.seq #[.none,.none]}).push {cls:=.type "zip",data:=.fields #[.none,.bool false,.bool false,.ref (s.heap.objs.size+2),.ref (s.heap.objs.size+3)]}}):=.of_wp fun prog w A R s h=>by obtain⟨hp,g,d,tk,os⟩:=s;obtain⟨hl1,hl2,h⟩:=h;have hsub:=sub_zip;have hL1:Heap.IsList (Shared.heap ⟨hp,g,d,tk,os⟩) l1 xs:=hl1;have hL2:Heap.IsTuple (Shared.heap ⟨hp.push {cls:=.type "list_iterator",data:=.fields #[.ref l1,.int 0 0]},g,d,tk,os⟩) l2 ys:=Heap.IsTuple.push hl2 _;wp_walk using wpAny_pyIter_list hL1,wpAny_pyIter_tuple hL2;simp only[Heap.size_push]at*;exact⟨_,rfl,h⟩
section
variable{prog:Program}{w:World}{A:Around}{E:Value->Shared->Prop}{s:Shared}
theorem ye{l1 l2:Addr}{xs ys:Array Value}{Q:Value->Shared->Prop}(hl1:s.heap.IsList l1 xs)(hl2:s.heap.IsTuple l2 ys)(h:∀ h',IsZip h' (s.heap.objs.size+4) (s.heap.objs.size+2) (s.heap.objs.size+3) .none->IsPair h' (s.heap.objs.size+2) (.ref s.heap.objs.size) (.ref (s.heap.objs.size+1))->IsPair h' (s.heap.objs.size+3) .none .none->h'.IsListIter s.heap.objs.size l1 0->h'.IsTupleIter (s.heap.objs.size+1) l2 0->(∀c o,s.heap.get? c=some o->h'.get? c=some o)->Q (.ref (s.heap.objs.size+4)) {s with heap:=h'}):wpAny (model prog w) A (call (.type "zip") [.ref l1,.ref l2]) Q E s:=by
 refine callType_new F.called_zip (by decide) (F.typeCall_zip_2 _ _) (F.newCall_zip_2 _ _) (fun obj=>F.args_object_init_3 obj _ _) F.entry_zip_new (nD l1 l2 xs ys) ⟨hl1,hl2,?_⟩;generalize e1:s.heap.push {cls:=.type "list_iterator",data:=.fields #[.ref l1,.int 0 0]}=t1;have n1:t1.objs.size=s.heap.objs.size+1:=by rw[<-e1,Heap.size_push]
 have a1:t1.get? s.heap.objs.size=some {cls:=.type "list_iterator",data:=.fields #[.ref l1,.int 0 0]}:=by rw[<-e1];exact Heap.get?_push_size _ rfl
 have k1:∀c o,s.heap.get? c=some o->t1.get? c=some o:=fun c o e=>by rw[<-e1];exact Heap.get?_push_of_some _ e
 generalize e2:t1.push {cls:=.type "tuple_iterator",data:=.fields #[.ref l2,.int 0 0]}=t2;have n2:t2.objs.size=s.heap.objs.size+2:=by rw[<-e2,Heap.size_push,n1]
 have a2:t2.get? (s.heap.objs.size+1)=some {cls:=.type "tuple_iterator",data:=.fields #[.ref l2,.int 0 0]}:=by rw[<-n1,<-e2];exact Heap.get?_push_size _ rfl
 have k2:∀c o,t1.get? c=some o->t2.get? c=some o:=fun c o e=>by rw[<-e2];exact Heap.get?_push_of_some _ e
 generalize e3:t2.push {cls:=.type "tuple",data:=.seq #[.ref s.heap.objs.size,.ref (s.heap.objs.size+1)]}=t3;have n3:t3.objs.size=s.heap.objs.size+3:=by rw[<-e3,Heap.size_push,n2]
 have a3:t3.get? (s.heap.objs.size+2)=some {cls:=.type "tuple",data:=.seq #[.ref s.heap.objs.size,.ref (s.heap.objs.size+1)]}:=by rw[<-n2,<-e3];exact Heap.get?_push_size _ rfl
 have k3:∀c o,t2.get? c=some o->t3.get? c=some o:=fun c o e=>by rw[<-e3];exact Heap.get?_push_of_some _ e
 generalize e4:t3.push {cls:=.type "tuple",data:=.seq #[.none,.none]}=t4;have n4:t4.objs.size=s.heap.objs.size+4:=by rw[<-e4,Heap.size_push,n3]
 have a4:t4.get? (s.heap.objs.size+3)=some {cls:=.type "tuple",data:=.seq #[.none,.none]}:=by rw[<-n3,<-e4];exact Heap.get?_push_size _ rfl
 have k4:∀c o,t3.get? c=some o->t4.get? c=some o:=fun c o e=>by rw[<-e4];exact Heap.get?_push_of_some _ e
 generalize e5:t4.push {cls:=.type "zip",data:=.fields #[.none,.bool false,.bool false,.ref (s.heap.objs.size+2),.ref (s.heap.objs.size+3)]}=t5;have a5:t5.get? (s.heap.objs.size+4)=some {cls:=.type "zip",data:=.fields #[.none,.bool false,.bool false,.ref (s.heap.objs.size+2),.ref (s.heap.objs.size+3)]}:=by rw[<-n4,<-e5];exact Heap.get?_push_size _ rfl
 have k5:∀c o,t4.get? c=some o->t5.get? c=some o:=fun c o e=>by rw[<-e5];exact Heap.get?_push_of_some _ e
 exact⟨⟨_,a5,rfl⟩,h t5 a5 (k5 _ _ (k4 _ _ a3)) (k5 _ _ a4) ⟨_,k5 _ _ (k4 _ _ (k3 _ _ (k2 _ _ a1))),rfl,rfl⟩ ⟨_,k5 _ _ (k4 _ _ (k3 _ _ a2)),rfl,rfl⟩ fun c o e=>k5 _ _ (k4 _ _ (k3 _ _ (k2 _ _ (k1 _ _ e))))⟩
end
theorem nH(l1 l2:Addr)(xs ys:Array Value):Meets (Builtin.«zip.__new__» ⟨[.type "zip",.ref l1,.ref l2],[]⟩) (fun _ R s=>s.heap.IsTuple l1 xs/\s.heap.IsList l2 ys/\R (.ok (.ret (.ref (s.heap.objs.size+4)))) {s with heap:=((((s.heap.push {cls:=.type "tuple_iterator",data:=.fields #[.ref l1,.int 0 0]}).push {cls:=.type "list_iterator",data:=.fields #[.ref l2,.int 0 0]}).push {cls:=.type "tuple",data:=.seq #[.ref s.heap.objs.size,.ref (s.heap.objs.size+1)]}).push {cls:=.type "tuple",data:=.seq #[.none,.none]}).push {cls:=.type "zip",data:=.fields #[.none,.bool false,.bool false,.ref (s.heap.objs.size+2),.ref (s.heap.objs.size+3)]}}):=.of_wp fun prog w A R s h=>by obtain⟨hp,g,d,tk,os⟩:=s;obtain⟨hl1,hl2,h⟩:=h;have hsub:=sub_zip;have hL1:Heap.IsTuple (Shared.heap ⟨hp,g,d,tk,os⟩) l1 xs:=hl1;have hL2:Heap.IsList (Shared.heap ⟨hp.push {cls:=.type "tuple_iterator",data:=.fields #[.ref l1,.int 0 0]},g,d,tk,os⟩) l2 ys:=Heap.IsList.push hl2 _;wp_walk using wpAny_pyIter_tuple hL1,wpAny_pyIter_list hL2;simp only[Heap.size_push]at*;exact⟨_,rfl,h⟩
section
variable{prog:Program}{w:World}{A:Around}{E:Value->Shared->Prop}{s:Shared}
theorem xJ{l1 l2:Addr}{xs ys:Array Value}{Q:Value->Shared->Prop}(hl1:s.heap.IsTuple l1 xs)(hl2:s.heap.IsList l2 ys)(h:∀ h',IsZip h' (s.heap.objs.size+4) (s.heap.objs.size+2) (s.heap.objs.size+3) .none->IsPair h' (s.heap.objs.size+2) (.ref s.heap.objs.size) (.ref (s.heap.objs.size+1))->IsPair h' (s.heap.objs.size+3) .none .none->h'.IsTupleIter s.heap.objs.size l1 0->h'.IsListIter (s.heap.objs.size+1) l2 0->(∀c o,s.heap.get? c=some o->h'.get? c=some o)->Q (.ref (s.heap.objs.size+4)) {s with heap:=h'}):wpAny (model prog w) A (call (.type "zip") [.ref l1,.ref l2]) Q E s:=by
 refine callType_new F.called_zip (by decide) (F.typeCall_zip_2 _ _) (F.newCall_zip_2 _ _) (fun obj=>F.args_object_init_3 obj _ _) F.entry_zip_new (nH l1 l2 xs ys) ⟨hl1,hl2,?_⟩;generalize e1:s.heap.push {cls:=.type "tuple_iterator",data:=.fields #[.ref l1,.int 0 0]}=t1;have n1:t1.objs.size=s.heap.objs.size+1:=by rw[<-e1,Heap.size_push]
 have a1:t1.get? s.heap.objs.size=some {cls:=.type "tuple_iterator",data:=.fields #[.ref l1,.int 0 0]}:=by rw[<-e1];exact Heap.get?_push_size _ rfl
 have k1:∀c o,s.heap.get? c=some o->t1.get? c=some o:=fun c o e=>by rw[<-e1];exact Heap.get?_push_of_some _ e
 generalize e2:t1.push {cls:=.type "list_iterator",data:=.fields #[.ref l2,.int 0 0]}=t2;have n2:t2.objs.size=s.heap.objs.size+2:=by rw[<-e2,Heap.size_push,n1]
 have a2:t2.get? (s.heap.objs.size+1)=some {cls:=.type "list_iterator",data:=.fields #[.ref l2,.int 0 0]}:=by rw[<-n1,<-e2];exact Heap.get?_push_size _ rfl
 have k2:∀c o,t1.get? c=some o->t2.get? c=some o:=fun c o e=>by rw[<-e2];exact Heap.get?_push_of_some _ e
 generalize e3:t2.push {cls:=.type "tuple",data:=.seq #[.ref s.heap.objs.size,.ref (s.heap.objs.size+1)]}=t3;have n3:t3.objs.size=s.heap.objs.size+3:=by rw[<-e3,Heap.size_push,n2]
 have a3:t3.get? (s.heap.objs.size+2)=some {cls:=.type "tuple",data:=.seq #[.ref s.heap.objs.size,.ref (s.heap.objs.size+1)]}:=by rw[<-n2,<-e3];exact Heap.get?_push_size _ rfl
 have k3:∀c o,t2.get? c=some o->t3.get? c=some o:=fun c o e=>by rw[<-e3];exact Heap.get?_push_of_some _ e
 generalize e4:t3.push {cls:=.type "tuple",data:=.seq #[.none,.none]}=t4;have n4:t4.objs.size=s.heap.objs.size+4:=by rw[<-e4,Heap.size_push,n3]
 have a4:t4.get? (s.heap.objs.size+3)=some {cls:=.type "tuple",data:=.seq #[.none,.none]}:=by rw[<-n3,<-e4];exact Heap.get?_push_size _ rfl
 have k4:∀c o,t3.get? c=some o->t4.get? c=some o:=fun c o e=>by rw[<-e4];exact Heap.get?_push_of_some _ e
 generalize e5:t4.push {cls:=.type "zip",data:=.fields #[.none,.bool false,.bool false,.ref (s.heap.objs.size+2),.ref (s.heap.objs.size+3)]}=t5;have a5:t5.get? (s.heap.objs.size+4)=some {cls:=.type "zip",data:=.fields #[.none,.bool false,.bool false,.ref (s.heap.objs.size+2),.ref (s.heap.objs.size+3)]}:=by rw[<-n4,<-e5];exact Heap.get?_push_size _ rfl
 have k5:∀c o,t4.get? c=some o->t5.get? c=some o:=fun c o e=>by rw[<-e5];exact Heap.get?_push_of_some _ e
 exact⟨⟨_,a5,rfl⟩,h t5 a5 (k5 _ _ (k4 _ _ a3)) (k5 _ _ a4) ⟨_,k5 _ _ (k4 _ _ (k3 _ _ (k2 _ _ a1))),rfl,rfl⟩ ⟨_,k5 _ _ (k4 _ _ (k3 _ _ a2)),rfl,rfl⟩ fun c o e=>k5 _ _ (k4 _ _ (k3 _ _ (k2 _ _ (k1 _ _ e))))⟩
end
theorem nP(l1 l2:Addr)(xs ys:Array Value):Meets (Builtin.«zip.__new__» ⟨[.type "zip",.ref l1,.ref l2],[]⟩) (fun _ R s=>s.heap.IsTuple l1 xs/\s.heap.IsTuple l2 ys/\R (.ok (.ret (.ref (s.heap.objs.size+4)))) {s with heap:=((((s.heap.push {cls:=.type "tuple_iterator",data:=.fields #[.ref l1,.int 0 0]}).push {cls:=.type "tuple_iterator",data:=.fields #[.ref l2,.int 0 0]}).push {cls:=.type "tuple",data:=.seq #[.ref s.heap.objs.size,.ref (s.heap.objs.size+1)]}).push {cls:=.type "tuple",data:=.seq #[.none,.none]}).push {cls:=.type "zip",data:=.fields #[.none,.bool false,.bool false,.ref (s.heap.objs.size+2),.ref (s.heap.objs.size+3)]}}):=.of_wp fun prog w A R s h=>by obtain⟨hp,g,d,tk,os⟩:=s;obtain⟨hl1,hl2,h⟩:=h;have hsub:=sub_zip;have hL1:Heap.IsTuple (Shared.heap ⟨hp,g,d,tk,os⟩) l1 xs:=hl1;have hL2:Heap.IsTuple (Shared.heap ⟨hp.push {cls:=.type "tuple_iterator",data:=.fields #[.ref l1,.int 0 0]},g,d,tk,os⟩) l2 ys:=Heap.IsTuple.push hl2 _;wp_walk using wpAny_pyIter_tuple hL1,wpAny_pyIter_tuple hL2;simp only[Heap.size_push]at*;exact⟨_,rfl,h⟩
section
variable{prog:Program}{w:World}{A:Around}{E:Value->Shared->Prop}{s:Shared}
theorem xn{l1 l2:Addr}{xs ys:Array Value}{Q:Value->Shared->Prop}(hl1:s.heap.IsTuple l1 xs)(hl2:s.heap.IsTuple l2 ys)(h:∀ h',IsZip h' (s.heap.objs.size+4) (s.heap.objs.size+2) (s.heap.objs.size+3) .none->IsPair h' (s.heap.objs.size+2) (.ref s.heap.objs.size) (.ref (s.heap.objs.size+1))->IsPair h' (s.heap.objs.size+3) .none .none->h'.IsTupleIter s.heap.objs.size l1 0->h'.IsTupleIter (s.heap.objs.size+1) l2 0->(∀c o,s.heap.get? c=some o->h'.get? c=some o)->Q (.ref (s.heap.objs.size+4)) {s with heap:=h'}):wpAny (model prog w) A (call (.type "zip") [.ref l1,.ref l2]) Q E s:=by
 refine callType_new F.called_zip (by decide) (F.typeCall_zip_2 _ _) (F.newCall_zip_2 _ _) (fun obj=>F.args_object_init_3 obj _ _) F.entry_zip_new (nP l1 l2 xs ys) ⟨hl1,hl2,?_⟩;generalize e1:s.heap.push {cls:=.type "tuple_iterator",data:=.fields #[.ref l1,.int 0 0]}=t1;have n1:t1.objs.size=s.heap.objs.size+1:=by rw[<-e1,Heap.size_push]
 have a1:t1.get? s.heap.objs.size=some {cls:=.type "tuple_iterator",data:=.fields #[.ref l1,.int 0 0]}:=by rw[<-e1];exact Heap.get?_push_size _ rfl
 have k1:∀c o,s.heap.get? c=some o->t1.get? c=some o:=fun c o e=>by rw[<-e1];exact Heap.get?_push_of_some _ e
 generalize e2:t1.push {cls:=.type "tuple_iterator",data:=.fields #[.ref l2,.int 0 0]}=t2;have n2:t2.objs.size=s.heap.objs.size+2:=by rw[<-e2,Heap.size_push,n1]
 have a2:t2.get? (s.heap.objs.size+1)=some {cls:=.type "tuple_iterator",data:=.fields #[.ref l2,.int 0 0]}:=by rw[<-n1,<-e2];exact Heap.get?_push_size _ rfl
 have k2:∀c o,t1.get? c=some o->t2.get? c=some o:=fun c o e=>by rw[<-e2];exact Heap.get?_push_of_some _ e
 generalize e3:t2.push {cls:=.type "tuple",data:=.seq #[.ref s.heap.objs.size,.ref (s.heap.objs.size+1)]}=t3;have n3:t3.objs.size=s.heap.objs.size+3:=by rw[<-e3,Heap.size_push,n2]
 have a3:t3.get? (s.heap.objs.size+2)=some {cls:=.type "tuple",data:=.seq #[.ref s.heap.objs.size,.ref (s.heap.objs.size+1)]}:=by rw[<-n2,<-e3];exact Heap.get?_push_size _ rfl
 have k3:∀c o,t2.get? c=some o->t3.get? c=some o:=fun c o e=>by rw[<-e3];exact Heap.get?_push_of_some _ e
 generalize e4:t3.push {cls:=.type "tuple",data:=.seq #[.none,.none]}=t4;have n4:t4.objs.size=s.heap.objs.size+4:=by rw[<-e4,Heap.size_push,n3]
 have a4:t4.get? (s.heap.objs.size+3)=some {cls:=.type "tuple",data:=.seq #[.none,.none]}:=by rw[<-n3,<-e4];exact Heap.get?_push_size _ rfl
 have k4:∀c o,t3.get? c=some o->t4.get? c=some o:=fun c o e=>by rw[<-e4];exact Heap.get?_push_of_some _ e
 generalize e5:t4.push {cls:=.type "zip",data:=.fields #[.none,.bool false,.bool false,.ref (s.heap.objs.size+2),.ref (s.heap.objs.size+3)]}=t5;have a5:t5.get? (s.heap.objs.size+4)=some {cls:=.type "zip",data:=.fields #[.none,.bool false,.bool false,.ref (s.heap.objs.size+2),.ref (s.heap.objs.size+3)]}:=by rw[<-n4,<-e5];exact Heap.get?_push_size _ rfl
 have k5:∀c o,t4.get? c=some o->t5.get? c=some o:=fun c o e=>by rw[<-e5];exact Heap.get?_push_of_some _ e
 exact⟨⟨_,a5,rfl⟩,h t5 a5 (k5 _ _ (k4 _ _ a3)) (k5 _ _ a4) ⟨_,k5 _ _ (k4 _ _ (k3 _ _ (k2 _ _ a1))),rfl,rfl⟩ ⟨_,k5 _ _ (k4 _ _ (k3 _ _ a2)),rfl,rfl⟩ fun c o e=>k5 _ _ (k4 _ _ (k3 _ _ (k2 _ _ (k1 _ _ e))))⟩
end
end PySem
end
section
namespace L2
open PySem PySem.Spec PyProof.Rows
noncomputable def Sq(t:Bool)(K:PySem.W.Frag)(H:Hp)(a:Addr)(xs:List V):Prop:=if t then jH K H a xs else dX K H a xs
noncomputable def Sg(t:Bool)(h:Heap)(a:Addr)(xs:Array Value):Prop:=if t then h.IsTuple a xs else h.IsList a xs
noncomputable def Cp(t:Bool)(h:Heap)(i a:Addr)(k:Nat):Prop:=if t then h.IsTupleIter i a k else h.IsListIter i a k
section
variable{X:Cx}{pins:List (Addr×Obj)}{σ:L2.St}{H:Hp}{s:Shared}
theorem Inv.sq{t:Bool}{a:Addr}{xs:List V}(I:Inv X pins σ H s)(h:Sq t X.K H a xs):∃its:List Value,Vals xs its/\Sg t s.heap a its.toArray:=by cases t with|true=>obtain⟨its,rv,pl,_⟩:=I.tuple h;exact⟨its,rv,pl⟩|false=>obtain⟨its,rv,pl,_⟩:=I.list h;exact⟨its,rv,pl.isList⟩
theorem Inv.Gu{t:Bool}{a:Addr}{xs ys:List V}(I:Inv X pins σ H s)(h:Sq t X.K H a xs)(h':Sq t X.K H a ys):xs=ys:=by cases t with|true=>exact I.mL h h'|false=>exact I.pK h h'
theorem Sg.lt{t:Bool}{h:Heap}{a:Addr}{xs:Array Value}(q:Sg t h a xs):a<h.objs.size:=by cases t with|true=>obtain⟨o,e,_⟩:=id q;exact Heap.lt_size e|false=>obtain⟨o,e,_⟩:=id q;exact Heap.lt_size e
theorem Cp.obj{t:Bool}{h:Heap}{i a:Addr}{k:Nat}(q:Cp t h i a k):∃o,h.get? i=some o/\∀v,o.data≠.cell v:=by cases t with|true=>obtain⟨o,h2,h3,h4⟩:=id q;exact⟨o,h2,fun v z=>by rw[h4]at z;cases z⟩|false=>obtain⟨o,h2,h3,h4⟩:=id q;exact⟨o,h2,fun v z=>by rw[h4]at z;cases z⟩
theorem Cp.keep{t:Bool}{h h':Heap}{i a:Addr}{k:Nat}(q:Cp t h i a k)(e:∀o,h.get? i=some o->h'.get? i=some o):Cp t h' i a k:=by cases t with|true=>obtain⟨o,h2,r⟩:=id q;exact⟨o,e o h2,r⟩|false=>obtain⟨o,h2,r⟩:=id q;exact⟨o,e o h2,r⟩
theorem Jr(t:Bool){prog:Program}{w:World}{A:Around}(hh:A.handled=none)(it l:Addr)(hne:l≠it)(items:Array Value):Nx prog w A it l (fun k h=>Cp t h it l k/\Sg t h l items) (fun k=>items[k]?):=by cases t with|true=>exact Nx.tuple hh it l hne items|false=>exact Nx.list hh it l hne items
theorem Inv.DP{ch:List Addr}{h':Heap}(I:Inv X pins σ H s)(k:∀b u,b∉ch->s.heap.get? b=some u->h'.get? b=some u)(hf:∀b∈ch,mU X pins H b):Inv X pins σ H {s with heap:=h'}:=by
 have G7:∀b u,H b=some u->b∉ch:=fun b u e hb=>by rw[(hf b hb).1]at e;cases e
 refine I.call (g':=s.gens) (d':=s.drawn) (t':=s.toks) (ch:=ch) ⟨fun b u e n _ hx=>k b u hx e,fun b u e n _ hx=>⟨u.slots,k b u hx e⟩,fun b u e n hx=>n,fun b u e hx=>⟨u,k b u hx e⟩,fun b xs e=>e,fun b ob u e=>e,fun b ps e=>⟨#[],by rw[e];simp⟩⟩ ?_ I.bare fun b hb=>⟨(hf b hb).2.2.2.1,(hf b hb).2.1,(hf b hb).2.2.2.2.1,(hf b hb).2.2.2.2.2⟩;intro b u e;refine(I.hok b u e).stay (fun c v hc q=>k c v ?_ q) (fun c q=>q) fun c xs q=>q;rcases hc with rfl|hc;.exact G7 _ _ e
 .exact G7 _ _ hc
end
noncomputable def Uh(t1 t2:Bool)(K:PySem.W.Frag)(a b:Addr):It:=⟨fun i H=>∃ xs ys x y,Sq t1 K H a xs/\Sq t2 K H b ys/\xs[i]?=some x/\ys[i]?=some y,fun i H x H'=>∃T v w,H T=none/\x=.ref T/\H'=upd H T (.tup [v,w])/\(∀xs,Sq t1 K H a xs->xs[i]?=some v)/\∀ys,Sq t2 K H b ys->ys[i]?=some w,fun i H=>∃xs ys,Sq t1 K H a xs/\Sq t2 K H b ys/\(xs.length<=i\/ys.length<=i)⟩
theorem Gy{P:Program}{w:World}{K:PySem.W.Frag}{elts:List Expr}{x1}{tp:Pos}(t1 t2:Bool){z TI TO i1 i2 l1 l2:Addr}(D:ZipApart z TI TO i1 i2 l1 l2):Turn P w K (.Tuple elts x1 tp) (Uh t1 t2 K l1 l2) [z,TI,TO,i1,i2] z (fun i h=>IsZip h z TI TO .none/\IsPair h TI (.ref i1) (.ref i2)/\(∃a b,IsPair h TO a b)/\Cp t1 h i1 l1 i/\Cp t2 h i2 l2 i)where
 mem:=by simp
 obj:=fun i h st b hb=>by
  obtain⟨h1,h2,⟨u,v,h3⟩,h4,h5⟩:=st;simp only[List.mem_cons,List.not_mem_nil,or_false]at hb;rcases hb with rfl|rfl|rfl|rfl|rfl;.exact⟨_,h1,fun v z=>by cases z⟩
  .exact⟨_,h2,fun v z=>by cases z⟩
  .exact⟨_,h3,fun v z=>by cases z⟩
  .exact h4.obj
  .exact h5.obj
 keep:=fun i h h' st k=>by obtain⟨h1,h2,⟨u,v,h3⟩,h4,h5⟩:=st;exact⟨k z (by simp) _ h1,k TI (by simp) _ h2,⟨u,v,k TO (by simp) _ h3⟩,h4.keep (k i1 (by simp)),h5.keep (k i2 (by simp))⟩
 item:=fun X hP hw hK hc i pins s σ H E I hf st go=>by
  subst hP hw hK;obtain⟨h1,h2,⟨u,v,h3⟩,h4,h5⟩:=st;obtain⟨xs,ys,x,y,hq1,hq2,hx,hy⟩:=go;obtain⟨KJ,YZ,Tu⟩:=I.sq hq1;obtain⟨its2,Rf,Mw⟩:=I.sq hq2;obtain⟨ux,hu1,hu2⟩:=YZ.get hx;obtain⟨uy,hw1,hw2⟩:=Rf.get hy;have hh:X.A.in1.handled=none:=I.ok.hd hc;refine mJ D (Jr t1 hh i1 l1 D.l1i1 KJ.toArray) (Jr t2 hh i2 l2 D.l2i2 its2.toArray) h1 h2 h3 (k:=i) ⟨h4,Tu⟩ ⟨h5,Mw⟩ (x:=ux) (y:=uy) (by simpa using hu1) (by simpa using hw1) fun h' z1 p1 s1 s2 pT hsz kp=>?_;refine⟨_,rfl,wpAny_letOwnedTupleGo_zip z1 fun h'' z2 sb=>?_⟩;have hlt:∀b∈[z,TI,TO,i1,i2],b≠s.heap.objs.size:=fun b hb=>by
   simp only[List.mem_cons,List.not_mem_nil,or_false]at hb;rcases hb with rfl|rfl|rfl|rfl|rfl;.exact Nat.ne_of_lt (Heap.lt_size h1)
   .exact Nat.ne_of_lt (Heap.lt_size h2)
   .exact Nat.ne_of_lt (Heap.lt_size h3)
   .exact Nat.ne_of_lt (Heap.lt_size h4.obj.choose_spec.1)
   .exact Nat.ne_of_lt (Heap.lt_size h5.obj.choose_spec.1)
  have kp2:∀b o,b∉[z,TO,i1,i2]->s.heap.get? b=some o->h''.get? b=some o:=fun b o hb q=>by simp only[List.mem_cons,List.not_mem_nil,or_false,not_or]at hb;exact sb.extBut b o hb.1 (kp b o hb.1 hb.2.1 hb.2.2.1 hb.2.2.2 q)
  have pT2:IsPair h'' s.heap.objs.size ux uy:=sb.extBut _ _ (hlt z (by simp)).symm pT;have p2:IsPair h'' TO ux uy:=sb.extBut _ _ D.TOz p1;have j1:Cp t1 h'' i1 l1 (i+1):=s1.1.keep fun o e=>sb.extBut _ _ D.i1z e;have j2:Cp t2 h'' i2 l2 (i+1):=s2.1.keep fun o e=>sb.extBut _ _ D.i2z e;refine⟨.ref s.heap.objs.size,upd H s.heap.objs.size (.tup [x,y]),?_,rfl,⟨_,x,y,I.fresh,rfl,rfl,fun zs hz=>?_,fun zs hz=>?_⟩,⟨z2,kp2 TI _ ?_ h2,⟨_,_,p2⟩,j1,j2⟩,fun b hb=>?_⟩
  . refine I.PL (ch:=[z,TO,i1,i2]) (t':=s.toks) kp2 (fun b hb=>?_) (fun b hb=>hf b ?_) ⟨(by show 2<=sizeLine;decide),[ux,uy],.cons hu2 (.cons hw2 .nil),⟨_,pT2,rfl,_,rfl⟩⟩
    . simp only[List.mem_cons,List.not_mem_nil,or_false]at hb;rcases hb with rfl|rfl|rfl|rfl;.exact⟨_,z2⟩
      .exact⟨_,p2⟩
      .exact⟨_,j1.obj.choose_spec.1⟩
      .exact⟨_,j2.obj.choose_spec.1⟩
    .simp only[List.mem_cons,List.not_mem_nil,or_false]at hb ⊢;rcases hb with h|h|h|h<;>simp[h]
  .rw[I.Gu hz hq1];exact hx
  .rw[I.Gu hz hq2];exact hy
  .simp[D.TIz,D.TITO,D.TIi1,D.TIi2]
  .rw[aK (hlt b hb)];exact(hf b hb).1
 done:=fun X hP hw hK hc i pins s σ H E I hf st stop=>by
  subst hP hw hK;obtain⟨h1,h2,⟨u,v,h3⟩,h4,h5⟩:=st;obtain⟨xs,ys,hq1,hq2,hx⟩:=stop;obtain⟨KJ,YZ,Tu⟩:=I.sq hq1;obtain⟨its2,Rf,Mw⟩:=I.sq hq2;have hh:X.A.in1.handled=none:=I.ok.hd hc;refine nM D (Jr t1 hh i1 l1 D.l1i1 KJ.toArray) (Jr t2 hh i2 l2 D.l2i2 its2.toArray) h1 h2 h3 (k:=i) ⟨h4,Tu⟩ ⟨h5,Mw⟩ ?_ fun h' kp=>⟨rfl,?_⟩
  . rcases hx with hx|hx;.left;rw[YZ.length]at hx;simpa using hx
    .right;rw[Rf.length]at hx;simpa using hx
  .exact I.DP (ch:=[z,TO,i1,i2]) (fun b u hb q=>by simp only[List.mem_cons,List.not_mem_nil,or_false,not_or]at hb;exact kp b u hb.1 hb.2.1 hb.2.2.1 hb.2.2.2 q) fun b hb=>hf b (by simp only[List.mem_cons,List.not_mem_nil,or_false]at hb ⊢;rcases hb with h|h|h|h<;>simp[h])
 self:=fun A i s Q E st q=>wpAny_pyIter_zip st.1 q
section
variable{X:Cx}{elts:List Expr}{x1:Nat}{tp:Pos}
theorem Ay{prog:Program}{w:World}{A:Around}{E:Value->Shared->Prop}{s:Shared}(t1 t2:Bool){l1 l2:Addr}{xs ys:Array Value}{Q:Value->Shared->Prop}(hl1:Sg t1 s.heap l1 xs)(hl2:Sg t2 s.heap l2 ys)(h:∀ h',IsZip h' (s.heap.objs.size+4) (s.heap.objs.size+2) (s.heap.objs.size+3) .none->IsPair h' (s.heap.objs.size+2) (.ref s.heap.objs.size) (.ref (s.heap.objs.size+1))->IsPair h' (s.heap.objs.size+3) .none .none->Cp t1 h' s.heap.objs.size l1 0->Cp t2 h' (s.heap.objs.size+1) l2 0->(∀c o,s.heap.get? c=some o->h'.get? c=some o)->Q (.ref (s.heap.objs.size+4)) {s with heap:=h'}):wpAny (model prog w) A (call (.type "zip") [.ref l1,.ref l2]) Q E s:=by
 cases t1<;>cases t2;.exact xu hl1 hl2 h
 .exact ye hl1 hl2 h
 .exact xJ hl1 hl2 h
 .exact xn hl1 hl2 h
theorem Nz{n l m:Nat}(h1:l<n)(h2:m<n):ZipApart (n+4) (n+2) (n+3) n (n+1) l m:=by constructor<;>exact fun h=>absurd (show(_:Nat)=_ from h) (by omega)
noncomputable def aa1(K:PySem.W.Frag)(R:It->Hp->Prop)(vs:List V)(H1:Hp):Prop:=∃t1 t2 a b,vs=[.ref a,.ref b]/\(∃xs,Sq t1 K H1 a xs)/\(∃ys,Sq t2 K H1 b ys)/\R (Uh t1 t2 K a b) H1
noncomputable def aaL(K:PySem.W.Frag)(ta:TA):TI:=fun σ H R=>ta σ H (aa1 K R)
theorem boot_zip:bootBuiltins "zip"=some (.type "zip"):=by decide+kernel
theorem Oo{a b:Expr}{ta:TA}{p pos:Pos}(hg:Gl X "zip")(hm:X.mg "zip"=none)(ha:PA X [a,b] ta)(hs:starEach [a,b] X.env=[(false,eval a X.env),(false,eval b X.env)]:=by rfl)(hs2:starEach [b] X.env=[(false,eval b X.env)]:=by rfl):PI X (.Tuple elts x1 tp) (.Call (.Name "zip" p) [a,b] [] pos) (aaL X.K ta):=by
 intro pins s σ H R I h;refine Call_ (mq I hg hm boot_zip (PyProof.Rows.callWith_type1 (dz (ha pos pins s σ H _ I h) ?_) (by rw[hs,hs2]) (by rw[hs2];rfl)));rintro us s1⟨vs,H1,I1,r1,q1⟩;obtain⟨t1,t2,l1,l2,rfl,⟨xs,hq1⟩,⟨ys,hq2⟩,q⟩:=q1;obtain⟨u,v,rfl,ru,rv⟩:=r1.two;cases ru;cases rv;obtain⟨KJ,YZ,Tu⟩:=I1.sq hq1;obtain⟨its2,Rf,Mw⟩:=I1.sq hq2;have b1:=Tu.lt;have b2:=Mw.lt;refine Ay t1 t2 Tu Mw fun h' z0 p0 o0 j1 j2 kp=>?_;have D:ZipApart (s1.heap.objs.size+4) (s1.heap.objs.size+2) (s1.heap.objs.size+3) s1.heap.objs.size (s1.heap.objs.size+1) l1 l2:=Nz b1 b2;refine wpAny_pyIter_zip z0 ⟨_,_,_,_,H1,rfl,I1.kept (t':=s1.toks) kp,Gy t1 t2 D,⟨z0,p0,⟨_,_,o0⟩,j1,j2⟩,fun b hb=>?_,q⟩;have hb':s1.heap.objs.size<=b:=by simp only[List.mem_cons,List.not_mem_nil,or_false]at hb;rcases hb with rfl|rfl|rfl|rfl|rfl<;>first|exact Nat.le_add_right _ _|exact Nat.le_refl _
 exact I1.Bd hb' (I1.hok.fresh hb')
end
end L2
namespace HH
open PySem L2 PySem.Spec PyProof.Rows
section
variable{K:PySem.W.Frag}{F F1 H H1:Hp}{ρ ρ1:List Sl}{σ:L2.St}{ds es:List D}{a b:Addr}
theorem aP.sq{t:Bool}{xs:List V}(e:aP F H)(h:Sq t K F a xs):Sq t K H a xs:=by cases t with|true=>exact aP.iw e h|false=>exact e.seq h
theorem HX{t1 t2:Bool}{xs ys:List V}{F' H':Hp}(hq1:Sq t1 K H' a xs)(hq2:Sq t2 K H' b ys)(r1:aL K F' xs ds)(r2:aL K F' ys es)(s:aP F' H')(k:Nat):(∀d,((ds.zip es).map fun p=>D.tup [p.1,p.2])[k]?=some d->(Uh t1 t2 K a b).go k H'/\∀x nC,(Uh t1 t2 K a b).Kw k H' x nC->∃F'',Ext F' H' F'' nC/\Rep K F'' x d)/\(((ds.zip es).map fun p=>D.tup [p.1,p.2]).length<=k->(Uh t1 t2 K a b).stop k H'):=by refine⟨fun d hd=>?_,fun h=>⟨xs,ys,hq1,hq2,by rw[r1.length,r2.length];rw[List.length_map,List.length_zip]at h;omega⟩⟩;rw[List.getElem?_map]at hd;obtain⟨⟨d0,d1⟩,e1,e2⟩:=map_some hd;subst e2;obtain⟨f1,f2⟩:=List.getElem?_zip_eq_some.mp e1;obtain⟨w,h1,h2⟩:=r1.get f1;obtain⟨w',h1',h2'⟩:=r2.get f2;refine⟨⟨xs,ys,w,w',hq1,hq2,h1,h1'⟩,?_⟩;rintro x nC⟨T,v,v',hT,hx,hH,y,y'⟩;subst hx;subst hH;have:=y xs hq1;rw[h1]at this;cases this;have:=y' ys hq2;rw[h1']at this;cases this;exact Ge s hT h2 h2'
theorem En{v:V}{d:D}{ds:List D}(h:Rep K F v d)(e:items d=some ds):∃t a xs,v=.ref a/\Sq t K F a xs/\aL K F xs ds:=by cases d with|tup es=>cases e;rw[Rep]at h;obtain⟨a,xs,rfl,h1,h2⟩:=h;exact⟨true,a,xs,rfl,h1,h2⟩|lst es=>cases e;rw[Rep]at h;obtain⟨a,xs,rfl,h1,h2⟩:=h;exact⟨false,a,xs,rfl,h1,h2⟩|_=>cases e
end
section
variable{X:Cx}{c:Call}{e a b:Expr}{pa pb:P}{pos:Pos}{elts:List Expr}{x1:Nat}{tp:Pos}
theorem xP{x:Str}{p':Pos}(hx:x="zip")(hg:Gl X x)(hm:X.mg x=none)(ha:SX X c a pa)(hb:SX X c b pb)(hs:starEach [a,b] X.env=[(false,eval a X.env),(false,eval b X.env)]:=by rfl)(hs2:starEach [b] X.env=[(false,eval b X.env)]:=by rfl):SI X c (.Tuple elts x1 tp) (.Call (.Name x p') [a,b] [] pos) (.zip pa pb):=by subst hx;refine mX (Oo hg hm (ou ha (ou hb aR hs2) (by rw[hs,hs2])).1 hs hs2) ?_;rintro σ H R⟨F,ρ,ds,ρ1,g,e,k⟩;obtain⟨r,ρ2,e1,e2⟩:=aj e;have zz:=aF e2;clear e2;obtain⟨e2,e3⟩:=zz;subst e3;rw[HH.E21]at e1;obtain⟨x0,ρ3,e4,e7⟩:=aj e1;obtain⟨y0,ρ4,e5,e8⟩:=aj e7;have zz:=aF e8;clear e8;obtain⟨e8,e6⟩:=zz;subst e6;obtain⟨us,f1,e9⟩:=aW e8;obtain⟨ws,f2,f3⟩:=map_some e9;subst f3;cases e2;refine⟨F,ρ,[x0.d,y0.d],_,g,by rw[evs,e4];show(evs c [pb] ρ3).bind _=_;rw[evs,e5];rfl,fun vs F' H' s rr=>?_⟩;obtain⟨v,r',rfl,rv,rr⟩:=rr.cG;obtain⟨u,r'',rfl,ru,rr⟩:=rr.cG;rw[rr.gG];obtain⟨t1,a1,xs,rfl,q1,r1⟩:=En rv f1;obtain⟨t2,a2,ys,rfl,q2,r2⟩:=En ru f2;exact⟨t1,t2,a1,a2,rfl,⟨xs,aP.sq s.gs.sub q1⟩,⟨ys,aP.sq s.gs.sub q2⟩,k _ _ _ ⟨s.gs,fun n k F' ρ' σ' H' s'=>HX (aP.sq s'.gs.sub (aP.sq s'.bK q1)) (aP.sq s'.gs.sub (aP.sq s'.bK q2)) (r1.mono s'.bK) (r2.mono s'.bK) s'.gs.sub k,fun F3 ρ3 σ3 H3 s3=>⟨s.trans s3,fun v r rr=>rr.later s⟩⟩⟩
end
end HH
end
section
namespace HH
open PySem L2 PySem.Spec PyProof.Rows
structure cL(K:PySem.W.Frag)(x:Str)(st:Stmt):Prop where ex:∃f fd,PySem.W.nsIn K mainGlobals x=some (some (.ref f))/\j7 K x x st f fd
section
variable{Pg:Program}{w:World}{K:PySem.W.Frag}{mg:Str->Option Value}{base h:Heap}
theorem Qv{x:Str}{st:Stmt}{f:Addr}{oc:Value}{od an:Option Addr}{osl:Array (Option Value)}{kV doc pm cdv ct:Value}(a:PySem.W.nsIn K mainGlobals x=some (some (.ref f)))(l:K.lookup f=some ⟨oc,od,.func (PySem.W.fnOf x x (iC st) (fX st) (aM st) .none kV doc pm an cdv ct),osl⟩)(c:PySem.W.codeIn K cdv x=true)(k:PySem.W.keepIn K (.ref f)=true):cL K x st:=⟨_,_,a,Qa l c k⟩
theorem dm{Γ:Tab}{wl i np:Nat}{x:Str}{st:Stmt}{ps:List Str}(X:K.In h)(G:h.Ns mainGlobals mg)(D:cL K x st)(hp:ps.length=np)(hb:∀(kV doc pm:Value)(an:Option Addr)(cdv ct:Value)(us:List Value),us.length=ps.length->bindArgs (PySem.W.fnOf x x (iC st) (fX st) (aM st) .none kV doc pm an cdv ct) ⟨us,[]⟩=pure (ps.zip us)):aH Pg w K mg base 0 (run Γ wl 0) i x np:=by obtain⟨f,fd,a,F⟩:=D.ex;exact⟨f,fd,ps,⟨fun vs H Q E s=>s.1,fun A outer s H args us vs Q E hr e b v sp=>by obtain⟨_,F,as,r,as',_,z,_⟩:=sp;cases z⟩,PySem.W.mg_of X G a,F.kp,F.binds hb,hp⟩
theorem dh{Γ:Tab}{wl n i np:Nat}{x:Str}{st:Stmt}{ps:List Str}{d:Fd}(X:K.In h)(G:h.Ns mainGlobals mg)(D:cL K x st)(hp:ps.length=np)(hΓ:Γ i=some d)(hb:∀(kV doc pm:Value)(an:Option Addr)(cdv ct:Value)(us:List Value),us.length=ps.length->bindArgs (PySem.W.fnOf x x (iC st) (fX st) (aM st) .none kV doc pm an cdv ct) ⟨us,[]⟩=pure (ps.zip us))(ok:∀f fd,j7 K x x st f fd->cW Pg w K mg base jJ (n+1) f fd ps (j6 K np (fun args=>enter (run Γ wl n) wl d args))):aH Pg w K mg base (n+1) (run Γ wl (n+1)) i x np:=by
 obtain⟨f,fd,a,F⟩:=D.ex;refine⟨f,fd,ps,?_,PySem.W.mg_of X G a,F.kp,F.binds hb,hp⟩;have e:run Γ wl (n+1) i=fun args=>enter (run Γ wl n) wl d args:=by funext args;show(match Γ i with|some d=>enter (run Γ wl n) wl d args|none=>.stuck)=_;rw[hΓ]
 rw[e,hp];exact ok f fd F
theorem qO{F:Hp}:∀ns:List Int,aL K F (ns.map V.int) (ns.map D.int)|[]=>.nil|n::ns=>.cons (bJ n) (qO ns)
theorem Bm{H:Hp}{a:Addr}{ns:List Int}{g:List Sl->Res R}{as:List Sl}(hS:dX K H a (ns.map V.int))(hr:g [.val false (.lst (ns.map D.int))]=.ok (.val (.bl true)) as):j6 K 1 g [.ref a] H (fun v _=>v=.bl true) fun _ _ _=>False:=by
 refine⟨rfl,H,_,_,as,⟨.refl _,rfl,fun i b d e=>?_,fun i s ds e e'=>?_,fun i j c h=>?_⟩,hr,fun v F' σ' H' s rr=>?_⟩;.match i,e with|0,e=>cases e;refine⟨.ref a,rfl,?_⟩;rw[Rep];exact⟨a,_,rfl,hS,qO ns⟩|i+1,e=>simp at e
 .match i,e with|0,e=>cases e;cases e'|i+1,e=>simp at e
 .obtain⟨⟨s,ds,e,e'⟩,_⟩:=h;match i,e with|0,e=>cases e;cases e'|i+1,e=>simp at e
 .have rr:Rep K F' v (.bl true):=rr;rw[Rep]at rr;exact rr
end
end HH
end
section
namespace HH
open PySem
noncomputable def Res.sat{α:Type}(Q:α->List Sl->Prop)(x:Res α):Prop:=match x with|.ok a ρ=>Q a ρ|.exc _ _=>False|.stuck=>False
section
variable{α β:Type}{Q Q':α->List Sl->Prop}
@[simp]theorem Y8{a:α}{ρ:List Sl}:(Res.ok a ρ).sat Q=Q a ρ:=rfl
@[simp]theorem XS{k:Nat}{ρ:List Sl}:(Res.exc k ρ:Res α).sat Q=False:=rfl
@[simp]theorem RZ:(Res.stuck:Res α).sat Q=False:=rfl
theorem bL{x:Res β}{f:β->List Sl->Res α}:(x.bind f).sat Q=x.sat fun a ρ=>(f a ρ).sat Q:=by cases x<;>rfl
@[simp]theorem Ys{p:Prop}[Decidable p]{x y:Res α}:(if p then x else y).sat Q=((p->x.sat Q)/\(¬ p->y.sat Q)):=by by_cases h:p<;>simp[h]
@[simp]theorem HB{a:α}{ρ:List Sl}:(lift (some a) ρ).sat Q=Q a ρ:=rfl
@[simp]theorem Ho{ρ:List Sl}:(lift (none:Option α) ρ).sat Q=False:=rfl
theorem Res.sat.imp{x:Res α}(h:x.sat Q)(k:∀a ρ,Q a ρ->Q' a ρ):x.sat Q':=by cases x with|ok a ρ=>exact k a ρ h|exc _ _=>exact h|stuck=>exact h
theorem sat_iff{x:Res α}:x.sat Q↔∃a ρ,x=.ok a ρ/\Q a ρ:=by cases x with|ok a ρ=>exact⟨fun h=>⟨a,ρ,rfl,h⟩,fun⟨_,_,e,h⟩=>by cases e;exact h⟩|exc _ _=>exact⟨fun h=>h.elim,fun⟨_,_,e,_⟩=>by cases e⟩|stuck=>exact⟨fun h=>h.elim,fun⟨_,_,e,_⟩=>by cases e⟩
end
theorem Rx{α:Type}{x y:Res α}{Q:α->List Sl->Prop}(h:x=y):x.sat Q=y.sat Q:=by rw[h]
theorem bind_congr{α β:Type}{x y:Res α}{f:α->List Sl->Res β}(h:x=y):x.bind f=y.bind f:=by rw[h]
noncomputable def fr:Sl->Bool|.au=>true|.val b _=>!b|.own b _=>!b|.lent _=>false|.cM _=>false|.hold _=>false
@[simp]theorem aah:fr .au=true:=rfl
@[simp]theorem Zt{b:Bool}{d:D}:fr (.val b d)=!b:=rfl
@[simp]theorem ZL{b:Bool}{d:List D}:fr (.own b d)=!b:=rfl
@[simp]theorem Yn{d:List D}:fr (.lent d)=false:=rfl
theorem ym(ρ:List Sl)(i:Nat)(s:Sl):put ρ i s=match ρ[i]?with|some t=>if fr t=true then some (ρ.set i s)else none|none=>none:=by unfold put;cases h:ρ[i]?with|none=>rfl|some t=>cases t with|au=>rfl|val b d=>cases b<;>rfl|own b d=>cases b<;>rfl|lent d=>rfl|cM m=>rfl|hold m=>rfl
theorem Eb{Γ:Tab}{w n i:Nat}{d:Fd}{args:List Sl}(h:Γ i=some d):run Γ w (n+1) i args=enter (run Γ w n) w d args:=by rw[run,h]
noncomputable def fin(np:Nat):Fl->List Sl->Option (R×List Sl)|.next,ρ=>some (.val .non,ρ.take np)|.ret r,ρ=>some (r,ρ.take np)|_,_=>none
noncomputable def eQ(np:Nat)(Q:R->List Sl->Prop)(fl:Fl)(ρ:List Sl):Prop:=match fl with|.next=>Q (.val .non) (ρ.take np)|.ret r=>Q r (ρ.take np)|_=>False
noncomputable def sQ(c:Call)(n:Nat)(r:List S)(Q:Fl->List Sl->Prop)(fl:Fl)(ρ:List Sl):Prop:=match fl with|.next=>(eG c n r ρ).sat Q|fl=>Q fl ρ
noncomputable def fQ(J:List Sl->Prop)(Q:Fl->List Sl->Prop)(fl:Fl)(ρ:List Sl):Prop:=match fl with|.next=>J ρ|.cont=>J ρ|.brk=>Q .next ρ|.ret v=>Q (.ret v) ρ
section
variable{np:Nat}{Q:R->List Sl->Prop}{ρ:List Sl}{v:R}{c:Call}{n:Nat}{r:List S}{Q':Fl->List Sl->Prop}{J:List Sl->Prop}
@[simp]theorem Xo:eQ np Q .next ρ=Q (.val .non) (ρ.take np):=rfl
@[simp]theorem Z4:eQ np Q (.ret v) ρ=Q v (ρ.take np):=rfl
@[simp]theorem Zh:eQ np Q .brk ρ=False:=rfl
@[simp]theorem XH:eQ np Q .cont ρ=False:=rfl
@[simp]theorem Je:sQ c n r Q' .next ρ=(eG c n r ρ).sat Q':=rfl
@[simp]theorem aaj:sQ c n r Q' (.ret v) ρ=Q' (.ret v) ρ:=rfl
@[simp]theorem aaY:sQ c n r Q' .brk ρ=Q' .brk ρ:=rfl
@[simp]theorem Xn:sQ c n r Q' .cont ρ=Q' .cont ρ:=rfl
@[simp]theorem Yz:fQ J Q' .next ρ=J ρ:=rfl
@[simp]theorem Yw:fQ J Q' .cont ρ=J ρ:=rfl
@[simp]theorem aaJ:fQ J Q' .brk ρ=Q' .next ρ:=rfl
@[simp]theorem Zu:fQ J Q' (.ret v) ρ=Q' (.ret v) ρ:=rfl
end
theorem BK{c:Call}{n:Nat}{d:Fd}{args:List Sl}{Q:R->List Sl->Prop}(hl:args.length=d.np)(hd:d.np<=d.nn)(h:(eG c n d.body (args++List.replicate (d.nn-d.np) .au)).sat (eQ d.np Q)):(enter c n d args).sat Q:=by unfold enter;rw[if_pos ⟨hl,hd⟩];revert h;cases eG c n d.body (args++List.replicate (d.nn-d.np) .au)with|stuck=>exact fun h=>False.elim h|exc _ _=>exact fun h=>False.elim h|ok fl ρ=>cases fl<;>first|exact id|exact fun h=>False.elim h
theorem bH{Γ:Tab}{w n i:Nat}{d:Fd}{args:List Sl}{Q:R->List Sl->Prop}(hΓ:Γ i=some d)(hl:args.length=d.np)(hd:d.np<=d.nn)(h:(eG (run Γ w n) w d.body (args++List.replicate (d.nn-d.np) .au)).sat (eQ d.np Q)):(run Γ w (n+1) i args).sat Q:=by rw[Eb hΓ];exact BK hl hd h
theorem aa{c:Call}{n:Nat}{s:S}{r:List S}{ρ:List Sl}{Q:Fl->List Sl->Prop}(h:(ex c n s ρ).sat (sQ c n r Q)):(eG c n (s::r) ρ).sat Q:=by rw[eG,bL];refine h.imp fun fl ρ' q=>?_;cases fl<;>exact q
theorem aq{c:Call}{n:Nat}{s:S}{r:List S}{ρ:List Sl}{Q:Fl->List Sl->Prop}(h:(ex c n s ρ).sat (sQ c n r Q)):sQ c n (s::r) Q .next ρ:=aa h
@[simp]theorem XN{c:Call}{n:Nat}{ρ:List Sl}{Q:Fl->List Sl->Prop}:(eG c n [] ρ).sat Q=Q .next ρ:=by rw[eG];rfl
theorem iD{c:Call}{n:Nat}{s:S}{r:List S}{ρ:List Sl}{Q:Fl->List Sl->Prop}(M:List Sl->Prop)(h:(ex c n s ρ).sat fun fl ρ'=>fl=.next/\M ρ')(k:∀ρ',M ρ'->(eG c n r ρ').sat Q):(eG c n (s::r) ρ).sat Q:=aa (h.imp fun fl ρ'⟨e,q⟩=>by subst e;exact k ρ' q)
theorem cA{is:List Nat}{one:Bool}{body:List Sl->Res Fl}(J:List D->List Sl->Prop){Q:Fl->List Sl->Prop}(hb:∀d r ρ,J (d::r) ρ->∃ρ1,bV ρ is one d=some ρ1/\(body ρ1).sat (fQ (J r) Q))(hq:∀ρ,J [] ρ->Q .next ρ):∀{ds:List D}{ρ:List Sl},J ds ρ->(gB is one body ds ρ).sat Q|[],ρ,j=>hq ρ j|d::r,ρ,j=>by obtain⟨ρ1,e,h⟩:=hb d r ρ j;rw[gB,e];show((body ρ1).bind _).sat Q;rw[bL];refine h.imp fun fl ρ2 q=>?_;cases fl with|next=>exact cA J hb hq q|cont=>exact cA J hb hq q|brk=>exact q|ret v=>exact q
theorem mQ{is:List Nat}{one:Bool}{test:List Sl->Res Bool}{elt:Ev}(J:List Sl->Prop)(g:D->Option D){Q:List D->List Sl->Prop}:∀{ds acc:List D}{ρ:List Sl},J ρ->(∀ d,d ∈ ds->∀ ρ,J ρ->∃ ρ1,bV ρ is one d=some ρ1/\(test ρ1).sat fun b ρ2=>if b=true then(elt ρ2).sat fun r ρ3=>g d=some r.d/\J ρ3 else g d=none/\J ρ2)->(∀ ρ,J ρ->Q (acc++ds.filterMap g) ρ)->(turns is one test elt ds acc ρ).sat Q|[],acc,ρ,j,h,k=>by rw[turns];simpa using k ρ j|d::r,acc,ρ,j,h,k=>by obtain⟨ρ1,e,h1⟩:=h d (by simp) ρ j;rw[turns,e];show((test ρ1).bind _).sat Q;rw[bL];refine h1.imp fun b ρ2 q=>?_;cases b with|true=>rw[if_pos rfl]at q;rw[if_pos rfl,bL];refine q.imp fun x ρ3⟨e1,j3⟩=>?_;refine mQ J g j3 (fun d' hd'=>h d' (by simp[hd'])) fun ρ' j'=>?_;have:=k ρ' j';rw[List.filterMap_cons,e1]at this;rw[List.append_assoc];exact this|false=>rw[if_neg (by simp)]at q;rw[if_neg (by simp)];refine mQ J g q.2 (fun d' hd'=>h d' (by simp[hd'])) fun ρ' j'=>?_;have:=k ρ' j';rw[List.filterMap_cons,q.1]at this;exact this
section
variable{ρ l:List Sl}{a:Sl}{i j:Int}{k m:Nat}{b b':Bool}{s:Str}{d:D}{ds es:List D}{e f:Ev}{x:Option Sl}{c:Call}
@[simp]theorem QV:bZ .int .non=false:=rfl
@[simp]theorem RV:bZ .int (.bl b)=true:=rfl
@[simp]theorem Pa:bZ .int (.int i)=true:=rfl
@[simp]theorem Ol:bZ .int (.str s)=false:=rfl
@[simp]theorem QL:bZ .int (.tup ds)=false:=rfl
@[simp]theorem Oj:bZ .int (.lst ds)=false:=rfl
@[simp]theorem Lh:bZ .bool .non=false:=rfl
@[simp]theorem Qt:bZ .bool (.bl b)=true:=rfl
@[simp]theorem K4:bZ .bool (.int i)=false:=rfl
@[simp]theorem Lk:bZ .bool (.str s)=false:=rfl
@[simp]theorem Mp:bZ .bool (.tup ds)=false:=rfl
@[simp]theorem Mm:bZ .bool (.lst ds)=false:=rfl
@[simp]theorem Qy:bZ .str .non=false:=rfl
@[simp]theorem RN:bZ .str (.bl b)=false:=rfl
@[simp]theorem Px:bZ .str (.int i)=false:=rfl
@[simp]theorem Pz:bZ .str (.str s)=true:=rfl
@[simp]theorem Ni:bZ .str (.tup ds)=false:=rfl
@[simp]theorem N5:bZ .str (.lst ds)=false:=rfl
@[simp]theorem Ko:bZ .tuple .non=false:=rfl
@[simp]theorem Lb:bZ .tuple (.bl b)=false:=rfl
@[simp]theorem HW:bZ .tuple (.int i)=false:=rfl
@[simp]theorem J4:bZ .tuple (.str s)=false:=rfl
@[simp]theorem Jv:bZ .tuple (.tup ds)=true:=rfl
@[simp]theorem IW:bZ .tuple (.lst ds)=false:=rfl
@[simp]theorem Li:bZ .list .non=false:=rfl
@[simp]theorem Qz:bZ .list (.bl b)=false:=rfl
@[simp]theorem Ma:bZ .list (.int i)=false:=rfl
@[simp]theorem Ly:bZ .list (.str s)=false:=rfl
@[simp]theorem K6:bZ .list (.tup ds)=false:=rfl
@[simp]theorem Lw:bZ .list (.lst ds)=true:=rfl
@[simp]theorem Mi:bZ .none .non=true:=rfl
@[simp]theorem PX:bZ .none (.bl b)=false:=rfl
@[simp]theorem Mf:bZ .none (.int i)=false:=rfl
@[simp]theorem Lx:bZ .none (.str s)=false:=rfl
@[simp]theorem Lp:bZ .none (.tup ds)=false:=rfl
@[simp]theorem Ml:bZ .none (.lst ds)=false:=rfl
@[simp]theorem Rt:jM .non=true:=rfl
@[simp]theorem TX:jM (.bl b)=false:=rfl
@[simp]theorem Th:jM (.int i)=false:=rfl
@[simp]theorem SJ:jM (.str s)=false:=rfl
@[simp]theorem RM:jM (.tup ds)=false:=rfl
@[simp]theorem R8:jM (.lst ds)=false:=rfl
@[simp]theorem Vk:flat .non=true:=rfl
@[simp]theorem XD:flat (.bl b)=true:=rfl
@[simp]theorem vq:flat (.int i)=true:=rfl
@[simp]theorem Uw:flat (.str s)=true:=rfl
@[simp]theorem Vn:flat (.tup ds)=false:=rfl
@[simp]theorem VH:flat (.lst ds)=false:=rfl
@[simp]theorem aat:(R.val d).d=d:=rfl
@[simp]theorem aaR:(R.own ds).d=.lst ds:=rfl
@[simp]theorem Wx:v5 (.val d)=.val false d:=rfl
@[simp]theorem V2:v5 (.own ds)=.own false ds:=rfl
@[simp]theorem RB:uF (.val d)=.dat d:=rfl
@[simp]theorem Sy:uF (.own ds)=.tmp ds:=rfl
@[simp]theorem YJ:dC (.int i)=some i:=rfl
@[simp]theorem Zw:zZ (.bl b)=some b:=rfl
@[simp]theorem mD:items (.lst ds)=some ds:=rfl
@[simp]theorem RL:items (.tup ds)=some ds:=rfl
@[simp]theorem O2:Pb (.tup ds)=some ds:=rfl
@[simp]theorem O1:pH (.lst ds)=some ds:=rfl
@[simp]theorem Ym:sr .add=oM:=rfl
@[simp]theorem Yt:sr .sub=vW:=rfl
@[simp]theorem Xr:sr .mul=mZ:=rfl
@[simp]theorem Ww:sr .fdiv=oX:=rfl
@[simp]theorem Yo:sr .mod=vh:=rfl
@[simp]theorem Yd:sr .pow=u6:=rfl
@[simp]theorem R7:oM (.int i) (.int j)=some (.val (.int (i+j))):=rfl
@[simp]theorem S6:oM (.lst ds) (.lst es)=if ds.length+es.length<=lim then some (.own (ds++es))else none:=rfl
@[simp]theorem R3:oM (.tup ds) (.tup es)=if ds.length+es.length<=lim then some (.val (.tup (ds++es)))else none:=rfl
@[simp]theorem S8:vW (.int i) (.int j)=some (.val (.int (i-j))):=rfl
@[simp]theorem RX:mZ (.int i) (.int j)=if((-18446744073709551616<i/\i<18446744073709551616)\/(-18446744073709551616<j/\j<18446744073709551616))then some (.val (.int (i*j)))else none:=rfl
@[simp]theorem NP:oX (.int i) (.int j)=if 0<j/\j<1606938044258990275541962092341162602522202993782792835301376 then some (.val (.int (i/j)))else none:=rfl
@[simp]theorem RG:vh (.int i) (.int j)=if 0<j then some (.val (.int (i%j)))else none:=rfl
@[simp]theorem Rq:u6 (.int i) (.int j)=if 0<=j/\j<=1000/\i.natAbs<18446744073709551616 then some (.val (.int (i^j.toNat)))else none:=rfl
@[simp]theorem XF:lV (.lst ds) (.int i)=(at' ds i).map .val:=rfl
@[simp]theorem Yk:lV (.tup ds) (.int i)=(at' ds i).map .val:=rfl
@[simp]theorem UT:DY (.int i)=some (.val (.int (-i))):=rfl
@[simp]theorem Tp:cm .eq (.int i) (.int j)=some (i==j):=rfl
@[simp]theorem R5:cm .ne (.int i) (.int j)=some (!(i==j)):=rfl
@[simp]theorem Wn:cm .eq (.bl b) (.bl b')=some (b==b'):=rfl
@[simp]theorem Uc:cm .ne (.bl b) (.bl b')=some (!(b==b')):=rfl
@[simp]theorem R6:cm .lt (.int i) (.int j)=some (decide (i<j)):=rfl
@[simp]theorem Tn:cm .le (.int i) (.int j)=some (decide (i<=j)):=rfl
@[simp]theorem S5:cm .gt (.int i) (.int j)=some (decide (j<i)):=rfl
@[simp]theorem Tg:cm .ge (.int i) (.int j)=some (decide (j<=i)):=rfl
@[simp]theorem Y9:cm .isN d .non=some (jM d):=rfl
@[simp]theorem Yx:cm .WM d .non=some (!jM d):=rfl
@[simp]theorem Lg:blt .len [.lst ds]=some (.val (.int ds.length)):=rfl
@[simp]theorem Lr:blt .len [.tup ds]=some (.val (.int ds.length)):=rfl
@[simp]theorem Jq:blt .list [.lst ds]=some (.own ds):=rfl
@[simp]theorem Jc:blt .list [.tup ds]=some (.own ds):=rfl
@[simp]theorem Ht:blt .tuple [.lst ds]=some (.val (.tup ds)):=rfl
@[simp]theorem Hx:blt .tuple [.tup ds]=some (.val (.tup ds)):=rfl
@[simp]theorem Vx:blt .min2 [.int i,.int j]=some (.val (.int (if j<i then j else i))):=rfl
@[simp]theorem Vb:blt .max2 [.int i,.int j]=some (.val (.int (if i<j then j else i))):=rfl
@[simp]theorem Yy:blt .all [.lst ds]=(ds.mapM zZ).map fun bs=>.val (.bl (bs.all id)):=rfl
@[simp]theorem Rw:isVar (.var k)=some k:=rfl
@[simp]theorem XR:pk (a::l) k=match(a::l)[k]?with|some (.val _ d)=>some d|some (.own _ ds)=>some (.lst ds)|some (.lent ds)=>some (.lst ds)|_=>none:=rfl
@[simp]theorem Wv:JP (a::l) k=match pk (a::l) k with|some (.lst ds)=>some ds|_=>none:=rfl
@[simp]theorem Va:bI (some k) e ρ=lift (pk ρ k) ρ:=rfl
@[simp]theorem V4:bI none e ρ=(e ρ).bind fun r ρ=>.ok r.d ρ:=rfl
@[simp]theorem Rp{y:Option Nat}:iB (some k) e y f ρ=(lift (pk ρ k) ρ).bind fun _ ρ=>(bI y f ρ).bind fun y ρ=>(lift (pk ρ k) ρ).bind fun x ρ=>.ok (x,y) ρ:=rfl
@[simp]theorem Ro{y:Option Nat}:iB none e y f ρ=(bI none e ρ).bind fun x ρ=>(bI y f ρ).bind fun y ρ=>.ok (x,y) ρ:=rfl
@[simp]theorem Sw{es:List D}:fV (.own b ds) (some (.own b' es))=.own b es:=rfl
@[simp]theorem S9:fV (.own b ds) (some (.val b' d))=.val b d:=rfl
@[simp]theorem CJ:fV a none=a:=by cases a<;>rfl
@[simp]theorem Bv:fV (.val b d) x=.val b d:=by cases x<;>rfl
@[simp]theorem RT:fV .au x=.au:=by cases x<;>rfl
@[simp]theorem xN:fV (.lent ds) x=.lent ds:=by cases x<;>rfl
@[simp]theorem UJ:bV ρ [k] true d=put ρ k (.val false d):=rfl
@[simp]theorem Rr{is:List Nat}:bV ρ is false (.tup ds)=putAll ρ is ds:=by cases is<;>rfl
@[simp]theorem QQ:srcOf none e ρ=(e ρ).bind fun r ρ=>lift (items r.d) ρ:=rfl
@[simp]theorem jT:srcOf (some k) e (a::l)=match(a::l)[k]?with|some (.val _ d)=>lift (items d) (a::l)|some (.own _ ds)=>.ok ds ((a::l).set k (.lent ds))|some (.lent ds)=>.ok ds (a::l)|_=>.stuck:=rfl
@[simp]theorem Lj{ρ':List Sl}:bh ρ' none ρ=ρ:=rfl
@[simp]theorem iY:bh (a::l) (some k) ρ=match(a::l)[k]?with|some (.own b ds)=>ρ.set k (.own b ds)|_=>ρ:=rfl
@[simp]theorem Vh{s:Sl}:put (a::l) k s=match(a::l)[k]?with|some t=>if fr t=true then some ((a::l).set k s)else none|none=>none:=ym ..
@[simp]theorem xx:putAll ρ [] []=some ρ:=rfl
@[simp]theorem K7{is:List Nat}:putAll ρ (k::is) (d::ds)=(put ρ k (.val false d)).bind fun ρ=>putAll ρ is ds:=rfl
end
@[simp]theorem at_0{α:Type}{a0:α}{l:List α}:at' (a0::l) 0=some a0:=by unfold at' lU;rw[if_pos (by decide),if_pos (by simp only[List.length_cons];omega)];rfl
@[simp]theorem at_1{α:Type}{a0 a1:α}{l:List α}:at' (a0::a1::l) 1=some a1:=by unfold at' lU;rw[if_pos (by decide),if_pos (by simp only[List.length_cons];omega)];rfl
@[simp]theorem at_2{α:Type}{a0 a1 a2:α}{l:List α}:at' (a0::a1::a2::l) 2=some a2:=by unfold at' lU;rw[if_pos (by decide),if_pos (by simp only[List.length_cons];omega)];rfl
@[simp]theorem at_3{α:Type}{a0 a1 a2 a3:α}{l:List α}:at' (a0::a1::a2::a3::l) 3=some a3:=by unfold at' lU;rw[if_pos (by decide),if_pos (by simp only[List.length_cons];omega)];rfl
theorem jZ{α:Type}{l:List α}{i:Int}(h:0<=i)(h':i<l.length):at' l i=l[i.toNat]?:=by unfold at' lU;rw[if_pos h,if_pos h'];rfl
theorem DX{α:Type}{l:List α}{k:Nat}(h':k<l.length):at' l (k:Int)=l[k]?:=by rw[jZ (by omega) (by omega)];simp
@[simp]theorem Rm{d:D}:isVar (.con d)=none:=rfl
@[simp]theorem RK{o:Op}{p q:P}:isVar (.bin o p q)=none:=rfl
@[simp]theorem Ti{p:P}:isVar (.neg p)=none:=rfl
@[simp]theorem Ru{p:P}:isVar (.not p)=none:=rfl
@[simp]theorem Ss{p q:P}:isVar (.and p q)=none:=rfl
@[simp]theorem Vz{p q:P}:isVar (.or p q)=none:=rfl
@[simp]theorem Ry{o:Cm}{p q:P}:isVar (.cmp o p q)=none:=rfl
@[simp]theorem Lf{o o':Cm}{p q r:P}:isVar (.chain o o' p q r)=none:=rfl
@[simp]theorem R4{p q r:P}:isVar (.ife p q r)=none:=rfl
@[simp]theorem R0{as:List P}:isVar (.tup as)=none:=rfl
@[simp]theorem R9{as:List P}:isVar (.lst as)=none:=rfl
@[simp]theorem Sh{p q:P}:isVar (.idx p q)=none:=rfl
@[simp]theorem Ln{p q r:P}:isVar (.slice p q r)=none:=rfl
@[simp]theorem M7{f:Nat}{as:List P}:isVar (.call f as)=none:=rfl
@[simp]theorem Td{b:XX}{as:List P}:isVar (.blt b as)=none:=rfl
@[simp]theorem Np{ts:List Ty}{p:P}:isVar (.inst ts p)=none:=rfl
@[simp]theorem Oq{p e:P}{n:Nat}{is:List Nat}{one:Bool}{t:Option P}:isVar (.comp p n is one t e)=none:=rfl
@[simp]theorem RW{p q:P}:isVar (.lW p q)=none:=rfl
@[simp]theorem Su{p q:P}:isVar (.zip p q)=none:=rfl
noncomputable def ji(c:Call)(is:List Nat)(one:Bool)(test:Option P)(elt:P)(ds:List D)(ρ:List Sl):Res (List D):=turns is one (j5 c test) (ev c elt) ds [] ρ
@[simp]theorem Xv{c:Call}{src elt:P}{n:Nat}{is:List Nat}{one:Bool}{test:Option P}{ρ:List Sl}:ev c (.comp src n is one test elt) ρ=(srcOf (isVar src) (ev c src) ρ).bind fun ds ρ₁=>if ds.length<=lim then(ji c is one test elt ds (ρ₁++List.replicate n .au)).bind fun xs ρ₂=>.ok (.own xs) (bh ρ (isVar src) (ρ₂.take ρ₁.length))else .stuck:=(rfl)
theorem sX{α β γ:Type}{x:Res β}{f:β->List Sl->Res α}{g:α->List Sl->Res γ}:(x.bind f).bind g=x.bind fun a ρ=>(f a ρ).bind g:=by cases x<;>rfl
@[simp]theorem Z5{Γ:Tab}{w n i:Nat}{args:List Sl}{α:Type}{f:R->List Sl->Res α}{Q:α->List Sl->Prop}:((run Γ w n i args).bind f).sat Q=(run Γ w n i args).sat fun a ρ=>(f a ρ).sat Q:=bL
@[simp]theorem aan{Γ:Tab}{w n i:Nat}{args:List Sl}{α β:Type}{f:R->List Sl->Res α}{g:α->List Sl->Res β}:((run Γ w n i args).bind f).bind g=(run Γ w n i args).bind fun a ρ=>(f a ρ).bind g:=sX
@[simp]theorem Yi{c:Call}{is:List Nat}{one:Bool}{test:Option P}{elt:P}{ds:List D}{ρ:List Sl}{α:Type}{f:List D->List Sl->Res α}{Q:α->List Sl->Prop}:((ji c is one test elt ds ρ).bind f).sat Q=(ji c is one test elt ds ρ).sat fun a ρ=>(f a ρ).sat Q:=bL
@[simp]theorem XJ{c:Call}{is:List Nat}{one:Bool}{test:Option P}{elt:P}{ds:List D}{ρ:List Sl}{α β:Type}{f:List D->List Sl->Res α}{g:α->List Sl->Res β}:((ji c is one test elt ds ρ).bind f).bind g=(ji c is one test elt ds ρ).bind fun a ρ=>(f a ρ).bind g:=sX
@[simp]theorem Zd{is:List Nat}{one:Bool}{b:List Sl->Res Fl}{ds:List D}{ρ:List Sl}{α:Type}{f:Fl->List Sl->Res α}{Q:α->List Sl->Prop}:((gB is one b ds ρ).bind f).sat Q=(gB is one b ds ρ).sat fun a ρ=>(f a ρ).sat Q:=bL
@[simp]theorem Xu{α β:Type}{p:Prop}[Decidable p]{a:β}{ρ:List Sl}{f:β->List Sl->Res α}{Q:α->List Sl->Prop}:((lift (if p then some a else none) ρ).bind f).sat Q=(p/\(f a ρ).sat Q):=by by_cases h:p<;>simp[h,lift,Res.bind]
@[simp]theorem YG{α β γ:Type}{p:Prop}[Decidable p]{a:β}{ρ:List Sl}{f:β->List Sl->Res α}{g:α->List Sl->Res γ}:((lift (if p then some a else none) ρ).bind f).bind g=(lift (if p then some a else none) ρ).bind fun a ρ=>(f a ρ).bind g:=sX
@[simp]theorem bb_ite{α β:Type}{p:Prop}[Decidable p]{x y:Res β}{f:β->List Sl->Res α}:(if p then x else y).bind f=if p then x.bind f else y.bind f:=by by_cases h:p<;>simp[h]
@[simp]theorem aa0{α β:Type}{a:α}{ρ:List Sl}{f:α->List Sl->Res β}:(Res.ok a ρ).bind f=f a ρ:=rfl
@[simp]theorem Te{α β:Type}{f:α->List Sl->Res β}:(Res.stuck:Res α).bind f=.stuck:=rfl
@[simp]theorem T3{α:Type}{a:α}{ρ:List Sl}:lift (some a) ρ=.ok a ρ:=rfl
@[simp]theorem Vm{α:Type}{ρ:List Sl}:lift (none:Option α) ρ=.stuck:=rfl
noncomputable def An:List Sl->Nat->Sl->List Sl|[],_,_=>[]|t::ρ,0,s=>fV t (some s)::ρ|t::ρ,k+1,s=>t::An ρ k s
noncomputable def bk:List Arg->List Sl->List Sl->List Sl|.fJ k::as,s::ss,ρ=>bk as ss (An ρ k s)|.dat _::as,_::ss,ρ=>bk as ss ρ|.tmp _::as,_::ss,ρ=>bk as ss ρ|_,_,ρ=>ρ
section
variable{t s:Sl}{ρ ss:List Sl}{k:Nat}{as:List Arg}{d:D}{ds:List D}
@[simp]theorem acf:An (t::ρ) 0 s=fV t (some s)::ρ:=rfl
@[simp]theorem ab5:An (t::ρ) (k+1) s=t::An ρ k s:=rfl
@[simp]theorem Oa:bk (.fJ k::as) (s::ss) ρ=bk as ss (An ρ k s):=rfl
@[simp]theorem N7:bk (.dat d::as) (s::ss) ρ=bk as ss ρ:=rfl
@[simp]theorem QB:bk (.tmp ds::as) (s::ss) ρ=bk as ss ρ:=rfl
@[simp]theorem Zx:bk [] ss ρ=ρ:=rfl
end
theorem xY{s:Sl}:∀{ρ:List Sl}{k j:Nat},(An ρ k s)[j]?=(ρ[j]?).map fun t=>if j=k then fV t (some s)else t|[],_,_=>by simp[An]|t::ρ,0,0=>by simp[An]|t::ρ,0,j+1=>by simp[An]|t::ρ,k+1,0=>by simp[An]|t::ρ,k+1,j+1=>by have:=xY (s:=s) (ρ:=ρ) (k:=k) (j:=j);simp only[An,List.getElem?_cons_succ,this];congr 1;funext t;simp
theorem vI{as:List Arg}{ss:List Sl}:∀{ρ:List Sl}{i j:Nat},(cQ as ss i ρ)[j]?=(ρ[j]?).map fun t=>fV t (aZ (i+j) as ss)|[],_,_=>by simp[cQ]|t::ρ,i,0=>by simp[cQ]|t::ρ,i,j+1=>by have:=vI (as:=as) (ss:=ss) (ρ:=ρ) (i:=i+1) (j:=j);simp only[cQ,List.getElem?_cons_succ,this];rw[show i+1+j=i+(j+1)by omega]
noncomputable def stb(t:Sl):Prop:=∀x,fV t x=t
noncomputable def Pk(ρ:List Sl):List Arg->Prop|[]=>True|.fJ k::as=>(Arg.fJ k∈as->∀t,ρ[k]?=some t->stb t)/\Pk ρ as|_::as=>Pk ρ as
theorem oG{ρ:List Sl}:∀{as:List Arg}{ρ':List Sl},Pk ρ as->(∀k,Arg.fJ k∈as->∀t,ρ'[k]?=some t->ρ[k]?=some t\/stb t)->Pk ρ' as
 |[],_,_,_=>trivial|.fJ k::as,ρ',h,g=>⟨fun hm t ht=>by
  rcases g k (by simp) t ht with e|e;.exact h.1 hm t e
  .exact e,oG h.2 fun j hj=>g j (by simp[hj])⟩|.dat _::as,ρ',h,g=>oG (as:=as) h fun j hj=>g j (by simp[hj])|.tmp _::as,ρ',h,g=>oG (as:=as) h fun j hj=>g j (by simp[hj])
theorem lg{k:Nat}:∀{as:List Arg}{ss:List Sl},Arg.fJ k∉as->aZ k as ss=none|[],_,_=>by unfold aZ;rfl|.fJ j::as,[],_=>rfl|.dat _::as,[],_=>rfl|.tmp _::as,[],_=>rfl|.fJ j::as,s::ss,h=>by simp only[List.mem_cons,Arg.fJ.injEq,not_or]at h;rw[aZ,if_neg (fun e=>h.1 e.symm),lg h.2]|.dat _::as,s::ss,h=>by simp only[List.mem_cons,not_or]at h;rw[aZ,lg h.2]|.tmp _::as,s::ss,h=>by simp only[List.mem_cons,not_or]at h;rw[aZ,lg h.2]
theorem yI:∀{as:List Arg}{ss ρ:List Sl},Pk ρ as->∀j,(bk as ss ρ)[j]?=(ρ[j]?).map fun t=>fV t (aZ j as ss)
 |[],ss,ρ,_,j=>by cases ss<;>simp[aZ]|.fJ k::as,[],ρ,_,j=>by rw[show bk (.fJ k::as) [] ρ=ρ from rfl];simp[aZ]|.dat d::as,[],ρ,_,j=>by rw[show bk (.dat d::as) [] ρ=ρ from rfl];simp[aZ]|.tmp d::as,[],ρ,_,j=>by rw[show bk (.tmp d::as) [] ρ=ρ from rfl];simp[aZ]|.dat _::as,s::ss,ρ,h,j=>by rw[N7,aZ];exact yI (as:=as) h j|.tmp _::as,s::ss,ρ,h,j=>by rw[QB,aZ];exact yI (as:=as) h j|.fJ k::as,s::ss,ρ,h,j=>by
   have h2:Pk (An ρ k s) as:=oG h.2 fun i hi t ht=>by rw[xY]at ht;cases e:ρ[i]?with|none=>rw[e]at ht;cases ht|some t0=>
      rw[e]at ht;by_cases c:i=k;.subst c;have hs:=h.1 hi t0 e;simp[hs (some s)]at ht;exact .inl (by rw[ht])
      .simp[c]at ht;exact .inl (by rw[ht])
   rw[Oa,yI h2 j,xY,aZ];cases e:ρ[j]?with|none=>rfl|some t0=>
     simp only[Option.map_some];by_cases c:j=k
     . subst c;rw[if_pos rfl,if_pos rfl];by_cases hm:Arg.fJ j∈as;.have hs:=h.1 hm t0 e;rw[hs (some s),hs]
       .rw[lg hm,CJ]
     .rw[if_neg c,if_neg (fun z=>c z.symm)]
theorem fZ{ρ:List Sl}{k:Nat}{b:Bool}{ds:List D}(e:ρ[k]?=some (.own b ds)):∀{as:List Arg}{u:List Nat}{r:List Sl},k∈u->bO ρ as u=some r->Arg.fJ k∉as
 |[],_,_,_,_=>by simp|.dat _::as,u,r,hu,h=>by simp only[bO,Option.map_eq_some_iff]at h;obtain⟨r',h,_⟩:=h;simp[fZ e hu h]|.tmp _::as,u,r,hu,h=>by simp only[bO,Option.map_eq_some_iff]at h;obtain⟨r',h,_⟩:=h;simp[fZ e hu h]|.fJ i::as,u,r,hu,h=>by
   rw[bO]at h;have hi:i≠k:=by rintro rfl;rw[e]at h;simp[hu]at h
   have:Arg.fJ k∉as:=by
    split at h;.obtain⟨r',h,_⟩:=Option.map_eq_some_iff.mp h;exact fZ e hu h
    . split at h;.cases h
      .obtain⟨r',h,_⟩:=Option.map_eq_some_iff.mp h;exact fZ e (by simp[hu]) h
    . split at h;.cases h
      .obtain⟨r',h,_⟩:=Option.map_eq_some_iff.mp h;exact fZ e (by simp[hu]) h
    .cases h
   simp[this];exact fun z=>hi z.symm
theorem gh{ρ:List Sl}:∀{as:List Arg}{u:List Nat}{r:List Sl},bO ρ as u=some r->Pk ρ as
 |[],_,_,_=>trivial|.dat _::as,u,r,h=>by obtain⟨r',h,_⟩:=Option.map_eq_some_iff.mp h;exact gh (as:=as) h|.tmp _::as,u,r,h=>by obtain⟨r',h,_⟩:=Option.map_eq_some_iff.mp h;exact gh (as:=as) h|.fJ i::as,u,r,h=>by
   rw[bO]at h;split at h;.rename_i b d q;obtain⟨r',h,_⟩:=Option.map_eq_some_iff.mp h;exact⟨fun _ t ht=>by rw[q]at ht;cases ht;exact fun x=>Bv,gh h⟩
   . rename_i b ds q;split at h;.cases h
     .obtain⟨r',h,_⟩:=Option.map_eq_some_iff.mp h;exact⟨fun hm=>absurd hm (fZ q (by simp) h),gh h⟩
   . rename_i ds q;split at h;.cases h
     .obtain⟨r',h,_⟩:=Option.map_eq_some_iff.mp h;exact⟨fun _ t ht=>by rw[q]at ht;cases ht;exact fun x=>xN,gh h⟩
   .cases h
theorem Wu{as:List Arg}{ss ρ r:List Sl}{u:List Nat}(h:bO ρ as u=some r):cQ as ss 0 ρ=bk as ss ρ:=by apply List.ext_getElem?;intro j;rw[vI,yI (gh h),Nat.zero_add]
@[simp]theorem R1{c:Call}{k:Nat}{as:List Arg}{ρ:List Sl}:pB c k as ρ=match bO ρ as []with|none=>.stuck|some args=>(c k args).bind fun r args'=>.ok r (bk as args' ρ):=by unfold pB;cases e:bO ρ as []with|none=>rfl|some args=>simp only[<-Wu (r:=args) e];cases c k args<;>rfl
theorem rA{c:Call}{is:List Nat}{one:Bool}{elt t:P}(J:List Sl->Prop)(g:D->Option D){Q:List D->List Sl->Prop}{ds:List D}{ρ:List Sl}(j:J ρ)(h:∀d,d∈ds->∀ρ,J ρ->∃ρ1,bV ρ is one d=some ρ1/\(ev c t ρ1).sat fun r ρ2=>∃b,r.d=.bl b/\if b=true then(ev c elt ρ2).sat fun r ρ3=>g d=some r.d/\J ρ3 else g d=none/\J ρ2)(k:∀ρ,J ρ->Q (ds.filterMap g) ρ):(ji c is one (some t) elt ds ρ).sat Q:=mQ J g j (fun d hd ρ j=>by obtain⟨ρ1,e,h1⟩:=h d hd ρ j;refine⟨ρ1,e,?_⟩;rw[j5,iT,bL];refine h1.imp fun r ρ2⟨b,e,q⟩=>?_;rw[e];exact q) fun ρ j=>by simpa using k ρ j
@[simp]theorem LK:type_of%@HH.E1:=@HH.E1
@[simp]theorem acF:type_of%@HH.E2:=@HH.E2
@[simp]theorem acH:type_of%@HH.E3:=@HH.E3
@[simp]theorem ab3:type_of%@HH.E4:=@HH.E4
@[simp]theorem ab6:type_of%@HH.E5:=@HH.E5
@[simp]theorem acA:type_of%@HH.E6:=@HH.E6
@[simp]theorem acr:type_of%@HH.E7:=@HH.E7
@[simp]theorem abV:type_of%@HH.E8:=@HH.E8
@[simp]theorem aaP:type_of%@HH.E9:=@HH.E9
@[simp]theorem aai:type_of%@HH.E10:=@HH.E10
@[simp]theorem O5:type_of%@HH.E11:=@HH.E11
@[simp]theorem aaC:type_of%@HH.E12:=@HH.E12
@[simp]theorem aaE:type_of%@HH.E13:=@HH.E13
@[simp]theorem aae:type_of%@HH.E14:=@HH.E14
@[simp]theorem ZP:type_of%@HH.E15:=@HH.E15
@[simp]theorem aad:type_of%@HH.E16:=@HH.E16
@[simp]theorem aaB:type_of%@HH.E17:=@HH.E17
@[simp]theorem YH:type_of%@HH.U4:=@HH.U4
@[simp]theorem aaM:type_of%@HH.E18:=@HH.E18
@[simp]theorem Z0:type_of%@HH.E20:=@HH.E20
@[simp]theorem ZM:type_of%@HH.E21:=@HH.E21
@[simp]theorem ab2:type_of%@HH.X1:=@HH.X1
@[simp]theorem ace:type_of%@HH.X2:=@HH.X2
@[simp]theorem acG:type_of%@HH.X3:=@HH.X3
@[simp]theorem abZ:type_of%@HH.X4:=@HH.X4
@[simp]theorem acC:type_of%@HH.X5:=@HH.X5
@[simp]theorem VL:type_of%@HH.X6:=@HH.X6
@[simp]theorem acs:type_of%@HH.X7:=@HH.X7
@[simp]theorem acd:type_of%@HH.X8:=@HH.X8
@[simp]theorem ab0:type_of%@HH.X9:=@HH.X9
@[simp]theorem Z6:type_of%@HH.X10:=@HH.X10
@[simp]theorem aal:type_of%@HH.YB:=@HH.YB
@[simp]theorem ZD:type_of%@HH.X12:=@HH.X12
@[simp]theorem Zz:type_of%@HH.X13:=@HH.X13
@[simp]theorem aaH:type_of%@HH.X14:=@HH.X14
@[simp]theorem aaq:type_of%@HH.iT.eq_1:=@HH.iT.eq_1
@[simp]theorem aaS:type_of%@HH.evs.eq_1:=@HH.evs.eq_1
@[simp]theorem Zn:type_of%@HH.evs.eq_2:=@HH.evs.eq_2
@[simp]theorem aay:type_of%@HH.wV.eq_1:=@HH.wV.eq_1
@[simp]theorem ZC:type_of%@HH.wV.eq_2:=@HH.wV.eq_2
@[simp]theorem ZX:type_of%@HH.j5.eq_1:=@HH.j5.eq_1
@[simp]theorem aao:type_of%@HH.j5.eq_2:=@HH.j5.eq_2
@[simp]theorem aaT:type_of%@HH.uC.eq_1:=@HH.uC.eq_1
@[simp]theorem Vl:type_of%@HH.bO.eq_1:=@HH.bO.eq_1
@[simp]theorem TY:type_of%@HH.bO.eq_2:=@HH.bO.eq_2
@[simp]theorem U3:type_of%@HH.bO.eq_3:=@HH.bO.eq_3
@[simp]theorem Vg:type_of%@HH.bO.eq_4:=@HH.bO.eq_4
@[simp]theorem Ue:type_of%@HH.cQ.eq_1:=@HH.cQ.eq_1
@[simp]theorem Vs:type_of%@HH.cQ.eq_2:=@HH.cQ.eq_2
@[simp]theorem Ur:type_of%@HH.aZ.eq_1:=@HH.aZ.eq_1
@[simp]theorem Wd:type_of%@HH.aZ.eq_2:=@HH.aZ.eq_2
@[simp]theorem VM:type_of%@HH.aZ.eq_3:=@HH.aZ.eq_3
@[simp]theorem Wo:type_of%@HH.aZ.eq_4:=@HH.aZ.eq_4
end HH
end
section
namespace HH
open PySem L2 PySem.Spec PyProof.Rows
section
variable{X:Cx}{c:Call}{a b:Expr}{pa pb:P}{pos:Pos}
theorem lE:∀{ds:List D}{ns:List Int},ds.mapM dC=some ns->ds=ns.map D.int|[],ns,h=>by simp at h;subst h;rfl|d::ds,ns,h=>by simp[List.mapM_cons,Option.bind_eq_some_iff]at h;obtain⟨i,e1,ms,e2,rfl⟩:=h;rw[aY e1,lE e2];rfl
theorem dU{K:PySem.W.Frag}{F:Hp}:∀{ns:List Int}{ys:List V},aL K F ys (ns.map D.int)->ys=ns.map V.int|[],ys,h=>by rw[h.gG];rfl|n::ns,ys,h=>by obtain⟨v,r,rfl,h1,t⟩:=h.cG;rw[Rep]at h1;rw[h1,dU t];rfl
theorem lF{ns:List Int}{us:List Value}(h:Vals (ns.map V.int) us){i:Nat}{v:Value}(e:us.toArray[i]?=some v):∃t,v=.int (ns.getD i 0) t:=by
 have e:us[i]?=some v:=by simpa using e
 have hi:i<us.length:=(List.getElem?_eq_some_iff.mp e).1;have hl:=h.length;rw[List.length_map]at hl;have g:(ns.map V.int)[i]?=some (.int (ns.getD i 0)):=by rw[List.getElem?_map,List.getElem?_eq_getElem (by omega)];simp[List.getD,show i<ns.length by omega]
 obtain⟨w,g1,g2⟩:=h.get g;rw[e]at g1;cases g1;exact g2
theorem walked{pins:List (Addr×Obj)}{σ:L2.St}{H:Hp}{s:Shared}{p:Addr}{ys:List V}(I:L2.Inv X pins σ H s)(hc:X.calm=true)(hq:dX X.K H p ys\/jH X.K H p ys){Q:Value->Shared->Prop}{E:Value->Shared->Prop}(k:∀(it:Addr)(us:List Value)(s₂:Shared)(St:Nat->Heap->Prop),Vals ys us->Walks X.prog X.w X.A.in1 it [it,p] [it] us.toArray.size (fun i v=>us.toArray[i]?=some v) St->St 0 s₂.heap->(∀ b ∈[it,p],b<s₂.heap.objs.size)->(∀h' tk,(∀b o,b∉[it]->s₂.heap.get? b=some o->h'.get? b=some o)->L2.Inv X pins σ H {s₂ with heap:=h',toks:=tk})->Q (.ref it) s₂):wpAny (model X.prog X.w) X.A.in1 (pyIter (.ref p)) Q E s:=by
 have hh:X.A.in1.handled=none:=I.ok.hd hc;rcases hq with hq|hq
 . obtain⟨us,rv,pl,hz⟩:=I.list hq;have pl:=pl.isList;have hlt:p<s.heap.objs.size:=by obtain⟨o,h1,_⟩:=pl;exact Heap.lt_size h1
   refine wpAny_pyIter_list pl (k s.heap.objs.size us _ _ rv (Walks.list hh s.heap.objs.size p (Nat.ne_of_lt hlt) us.toArray) ⟨⟨_,Heap.get?_push_size _ rfl,rfl,rfl⟩,?_⟩ ?_ fun h' tk kp=>?_);.obtain⟨o,h1,h2⟩:=pl;exact⟨o,Heap.get?_push_of_some _ h1,h2⟩
   . intro b hb;obtain⟨o,h1,_⟩:=pl;simp at hb;rcases hb with rfl|rfl;.exact Heap.lt_size (Heap.get?_push_size _ rfl)
     .exact Heap.lt_size (Heap.get?_push_of_some _ h1)
   .exact I.kept (fun b o z=>kp b o (by simp;exact Nat.ne_of_lt (Heap.lt_size z)) (Heap.get?_push_of_some _ z))
 . obtain⟨us,rv,pl,hz⟩:=I.tuple hq;have hlt:p<s.heap.objs.size:=by obtain⟨o,h1,_⟩:=pl;exact Heap.lt_size h1
   refine wpAny_pyIter_tuple pl (k s.heap.objs.size us _ _ rv (Walks.tuple hh s.heap.objs.size p (Nat.ne_of_lt hlt) us.toArray) ⟨⟨_,Heap.get?_push_size _ rfl,rfl,rfl⟩,?_⟩ ?_ fun h' tk kp=>?_);.obtain⟨o,h1,h2⟩:=pl;exact⟨o,Heap.get?_push_of_some _ h1,h2⟩
   . intro b hb;obtain⟨o,h1,_⟩:=pl;simp at hb;rcases hb with rfl|rfl;.exact Heap.lt_size (Heap.get?_push_size _ rfl)
     .exact Heap.lt_size (Heap.get?_push_of_some _ h1)
   .exact I.kept (fun b o z=>kp b o (by simp;exact Nat.ne_of_lt (Heap.lt_size z)) (Heap.get?_push_of_some _ z))
theorem m7(ns:List Int):∀k,k<=ns.length->preSum (fun i=>ns.getD i 0) k=(ns.take k).sum|0,_=>by simp[preSum]|k+1,h=>by rw[preSum,m7 ns k (by omega),List.take_succ,List.sum_append];simp[List.getD,show k<ns.length by omega]
theorem T6(hc:X.calm=true):dq X (.builtin "sum") (DR X.K fun x=>blt .sum [x]):=by
 rintro pins s σ H xs us Q I r⟨x,hx,F,d,r',sm,px,he,k⟩;obtain⟨ns,e1,he⟩:=map_some (show((items d).bind fun ds=>ds.mapM dC).map _=some r' from he);subst he;obtain⟨ds,e2,e3⟩:=aW e1;obtain⟨p,ys,rfl,hq,rs⟩:=px.items sm e2;rw[lE e3]at rs;have ey:=dU rs;subst hx;obtain⟨u,rfl,rx⟩:=r.one;cases rx;refine call_sum_walkG (walked I hc hq fun it us s₂ St rv W h0 hl kp=>?_);subst ey;have hlen:us.toArray.size=ns.length:=by rw[List.size_toArray,<-rv.length,List.length_map]
 refine⟨it,_,_,_,_,St,fun i=>ns.getD i 0,rfl,W,h0,hl,fun i v e=>lF rv e,fun h' tk t' kk=>?_⟩;rw[hlen,m7 ns _ (Nat.le_refl _),List.take_length];exact⟨.int _,H,kp h' tk kk,⟨t',rfl⟩,cC.dJ sm (bJ _) k⟩
theorem Dt{ns:List Int}{m:Int}(hm:ns.min?=some m):ns.getD (argBest (fun i j=>decide (ns.getD i 0<ns.getD j 0)) (ns.length-1)) 0=m:=by
 have hne:ns≠[]:=by rintro rfl;simp at hm
 have hl:0<ns.length:=List.length_pos_iff.mpr hne;obtain⟨h1,h2⟩:=argBest_lt (fun i=>ns.getD i 0) (ns.length-1);have hb:=List.min?_eq_some_iff.mp hm;generalize argBest (fun i j=>decide (ns.getD i 0<ns.getD j 0)) (ns.length-1)=j at*;have hj:j<ns.length:=by omega
 have hmem:ns.getD j 0∈ns:=by simp[List.getD,hj]
 obtain⟨q,hq,e⟩:=List.getElem_of_mem hb.1;have h3:=h2 q (by omega);simp only[List.getD,List.getElem?_eq_getElem hq,Option.getD_some]at h3;rw[e]at h3;have h4:=hb.2 _ hmem;have h3:ns.getD j 0<=m:=h3;omega
theorem Et{ns:List Int}{m:Int}(hm:ns.max?=some m):ns.getD (argBest (fun i j=>decide (ns.getD i 0>ns.getD j 0)) (ns.length-1)) 0=m:=by
 have hne:ns≠[]:=by rintro rfl;simp at hm
 have hl:0<ns.length:=List.length_pos_iff.mpr hne;obtain⟨h1,h2⟩:=argBest_gt (fun i=>ns.getD i 0) (ns.length-1);have hb:=List.max?_eq_some_iff.mp hm;generalize argBest (fun i j=>decide (ns.getD i 0>ns.getD j 0)) (ns.length-1)=j at*;have hj:j<ns.length:=by omega
 have hmem:ns.getD j 0∈ns:=by simp[List.getD,hj]
 obtain⟨q,hq,e⟩:=List.getElem_of_mem hb.1;have h3:=h2 q (by omega);simp only[List.getD,List.getElem?_eq_getElem hq,Option.getD_some]at h3;rw[e]at h3;have h4:=hb.2 _ hmem;have h3:m<=ns.getD j 0:=h3;omega
theorem Nj(hc:X.calm=true):dq X (.builtin "min") (DR X.K fun x=>blt .BZ [x]):=by
 rintro pins s σ H xs us Q I r⟨x,hx,F,d,r',sm,px,he,k⟩;obtain⟨ns,e1,he⟩:=aW (show((items d).bind fun ds=>ds.mapM dC).bind _=some r' from he);obtain⟨m,hm,he⟩:=map_some he;subst he;obtain⟨ds,e2,e3⟩:=aW e1;obtain⟨p,ys,rfl,hq,rs⟩:=px.items sm e2;rw[lE e3]at rs;have ey:=dU rs;subst hx;obtain⟨u,rfl,rx⟩:=r.one;cases rx;refine call_min_walk (walked I hc hq fun it us s₂ St rv W h0 hl kp=>?_);subst ey;have hlen:us.toArray.size=ns.length:=by rw[List.size_toArray,<-rv.length,List.length_map]
 have hpos:0<ns.length:=by cases ns with|nil=>simp at hm|cons _ _=>simp
 refine⟨it,_,_,_,_,St,_,rfl,W,h0,hl,by rw[hlen];exact hpos,CmpOf.ints_lt (fun i=>ns.getD i 0) (fun i v e=>lF rv e),fun v h' tk hv kk=>?_⟩;rw[hlen]at hv;obtain⟨t,rfl⟩:=lF rv hv;rw[Dt hm];exact⟨.int _,H,kp h' tk kk,⟨t,rfl⟩,cC.dJ sm (bJ _) k⟩
theorem QT(hc:X.calm=true):dq X (.builtin "max") (DR X.K fun x=>blt .Ca [x]):=by
 rintro pins s σ H xs us Q I r⟨x,hx,F,d,r',sm,px,he,k⟩;obtain⟨ns,e1,he⟩:=aW (show((items d).bind fun ds=>ds.mapM dC).bind _=some r' from he);obtain⟨m,hm,he⟩:=map_some he;subst he;obtain⟨ds,e2,e3⟩:=aW e1;obtain⟨p,ys,rfl,hq,rs⟩:=px.items sm e2;rw[lE e3]at rs;have ey:=dU rs;subst hx;obtain⟨u,rfl,rx⟩:=r.one;cases rx;refine call_max_walk (walked I hc hq fun it us s₂ St rv W h0 hl kp=>?_);subst ey;have hlen:us.toArray.size=ns.length:=by rw[List.size_toArray,<-rv.length,List.length_map]
 have hpos:0<ns.length:=by cases ns with|nil=>simp at hm|cons _ _=>simp
 refine⟨it,_,_,_,_,St,_,rfl,W,h0,hl,by rw[hlen];exact hpos,CmpOf.ints_gt (fun i=>ns.getD i 0) (fun i v e=>lF rv e),fun v h' tk hv kk=>?_⟩;rw[hlen]at hv;obtain⟨t,rfl⟩:=lF rv hv;rw[Et hm];exact⟨.int _,H,kp h' tk kk,⟨t,rfl⟩,cC.dJ sm (bJ _) k⟩
theorem boot_sum:bootBuiltins "sum"=some (.builtin "sum"):=by decide+kernel
theorem Fg{x:Str}{p':Pos}(hx:x="sum")(hc:X.calm=true)(hg:Gl X x)(hm:X.mg x=none)(ha:SX X c a pa)(hs:starEach [a] X.env=(false,eval a X.env)::starEach [] X.env:=by rfl):SX X c (.Call (.Name x p') [a] [] pos) (.blt .sum [pa]):=by subst hx;exact jL (fun h=>dG (T6 hc) hg hm boot_sum h (he:=hs)) ha (fun ρ=>rfl) rfl hs
theorem JN{x:Str}{p':Pos}(hx:x="min")(hc:X.calm=true)(hg:Gl X x)(hm:X.mg x=none)(ha:SX X c a pa)(hs:starEach [a] X.env=(false,eval a X.env)::starEach [] X.env:=by rfl):SX X c (.Call (.Name x p') [a] [] pos) (.blt .BZ [pa]):=by subst hx;exact jL (fun h=>dG (Nj hc) hg hm boot_min h (he:=hs)) ha (fun ρ=>rfl) rfl hs
theorem JL{x:Str}{p':Pos}(hx:x="max")(hc:X.calm=true)(hg:Gl X x)(hm:X.mg x=none)(ha:SX X c a pa)(hs:starEach [a] X.env=(false,eval a X.env)::starEach [] X.env:=by rfl):SX X c (.Call (.Name x p') [a] [] pos) (.blt .Ca [pa]):=by subst hx;exact jL (fun h=>dG (QT hc) hg hm boot_max h (he:=hs)) ha (fun ρ=>rfl) rfl hs
end
end HH
end
section
namespace HH
open PySem
section
variable{i j:Int}{ds es:List D}{d:D}{b b':Bool}
@[simp]theorem Yr:sr .shl=Dr:=rfl
@[simp]theorem Xy:sr .shr=Dv:=rfl
@[simp]theorem Ux:sr .band=xq:=rfl
@[simp]theorem Tf:Dr (.int i) (.int j)=if 0<=j/\j<=1000/\i.natAbs<18446744073709551616 then some (.val (.int (i*2^j.toNat)))else none:=rfl
@[simp]theorem Sv:Dv (.int i) (.int j)=if 0<=j then some (.val (.int (i/2^j.toNat)))else none:=rfl
@[simp]theorem Qo:xq (.int i) (.int j)=some (.val (.int (Builtin.bitAnd i j))):=rfl
@[simp]theorem RJ:mZ (.lst ds) (.int i)=if 0<=i/\0<ds.length/\ds.length*i.toNat<=lim then some (.own (List.replicate i.toNat ds).flatten)else none:=rfl
@[simp]theorem Sd:mZ (.tup ds) (.int i)=if 0<=i/\0<ds.length/\ds.length*i.toNat<=lim then some (.val (.tup (List.replicate i.toNat ds).flatten))else none:=rfl
@[simp]theorem aaD:cm .isT (.bl b) (.bl true)=some b:=rfl
@[simp]theorem Yh:cm .WN (.bl b) (.bl true)=some (!b):=rfl
@[simp]theorem Xw:blt .sum [.lst ds]=(ds.mapM dC).map fun ns=>.val (.int ns.sum):=rfl
@[simp]theorem Ug:blt .BZ [.lst ds]=(ds.mapM dC).bind fun ns=>ns.min?.map fun i=>.val (.int i):=rfl
@[simp]theorem T5:blt .Ca [.lst ds]=(ds.mapM dC).bind fun ns=>ns.max?.map fun i=>.val (.int i):=rfl
end
@[simp]theorem aaA:type_of%@HH.X15:=@HH.X15
@[simp]theorem Zr:type_of%@HH.X16:=@HH.X16
theorem G4{ns:List Int}:(ns.map D.int).mapM dC=some ns:=by induction ns with|nil=>rfl|cons n ns ih=>simp[ih]
@[simp]theorem RD{ns:List Int}:ns.mapM (dC ∘ D.int)=some ns:=by rw[<-G4 (ns:=ns),List.mapM_map]
theorem zj{S:List Int}{i:Int}:((S.map D.int).any fun y=>jQ y (.int i))=S.contains i:=by induction S with|nil=>rfl|cons s S ih=>rw[List.map_cons,List.any_cons,List.contains_cons,ih,pqi];rw[show(s==i)=(i==s)from Bool.eq_iff_iff.mpr ⟨fun h=>by simp at h ⊢;exact h.symm,fun h=>by simp at h ⊢;exact h.symm⟩]
theorem vY{S:List Int}:(S.map D.int).all flat=true:=by rw[List.all_eq_true];intro d hd;obtain⟨i,_,rfl⟩:=List.mem_map.mp hd;rfl
theorem ZS{S:List Int}{i:Int}:cm .inn (.int i) (.lst (S.map D.int))=some (S.contains i):=by show Ba false _ _=_;unfold Ba;simp only[mD,Option.bind_some,vq,vY,Bool.and_true,zj];rfl
theorem S7{S:List Int}{i:Int}:cm .Mu (.int i) (.lst (S.map D.int))=some (!S.contains i):=by show Ba true _ _=_;unfold Ba;simp only[mD,Option.bind_some,vq,vY,Bool.and_true,zj];rfl
theorem oh{n:Nat}{S:List Int}:dZ (n+1) (.lst (S.map D.int))=true:=by rw[dZ,List.all_eq_true];intro d hd;obtain⟨i,_,rfl⟩:=List.mem_map.mp hd;cases n<;>rfl
theorem o6:∀{S T:List Int},gV (S.map D.int) (T.map D.int)=(S==T)|[],[]=>by simp[gV]|[],_::_=>by simp[gV]|_::_,[]=>by simp[gV]|s::S,t::T=>by rw[List.map_cons,List.map_cons,gV,o6,pqi];rfl
theorem Il{S T:List Int}:cm .eq (.lst (S.map D.int)) (.lst (T.map D.int))=some (S==T):=by show Gn _ _=_;unfold Gn;rw[oh,oh,Yp,o6];rfl
theorem Jf{S T:List Int}:cm .ne (.lst (S.map D.int)) (.lst (T.map D.int))=some (!(S==T)):=by show CT _ _=_;unfold CT;rw[oh,oh,Yp,o6];rfl
theorem Jh{S:List Int}:cm .eq (.lst (S.map D.int)) (.lst [])=some S.isEmpty:=by rw[show(.lst []:D)=.lst (([]:List Int).map D.int)from rfl,Il];cases S<;>rfl
theorem Ql{α:Type}{l:List α}{f:α->D}{k:Nat}{x:α}(h:l[k]?=some x):at' (l.map f) (k:Int)=some (f x):=by have hk:=(List.getElem?_eq_some_iff.mp h).1;rw[DX (by simpa using hk),List.getElem?_map,h];rfl
theorem dF{is:List Nat}{one:Bool}{body:List Sl->Res Fl}{g:Nat->D}{N:Nat}(J:Nat->List Sl->Prop){Q:Fl->List Sl->Prop}(hb:∀i ρ,i<N->J i ρ->∃ρ1,bV ρ is one (g i)=some ρ1/\(body ρ1).sat (fQ (J (i+1)) Q))(hq:∀ρ,J N ρ->Q .next ρ){ρ:List Sl}(h0:J 0 ρ):(gB is one body ((List.range N).map g) ρ).sat Q:=by
 refine cA (fun r ρ=>∃i,i<=N/\r=((List.range N).map g).drop i/\J i ρ) ?_ ?_ ⟨0,Nat.zero_le _,rfl,h0⟩
 . rintro d r ρ⟨i,hi,e,j⟩;have hlt:i<N:=by
    rcases Nat.lt_or_ge i N with h|h;.exact h
    .rw[List.drop_eq_nil_of_le (by simpa using h)]at e;cases e
   rw[List.drop_eq_getElem_cons (by simpa using hlt)]at e;injection e with e1 e2;simp at e1;subst e1;obtain⟨ρ1,h1,h2⟩:=hb i ρ hlt j;refine⟨ρ1,h1,h2.imp fun fl ρ2 q=>?_⟩;cases fl with|next=>exact⟨i+1,hlt,e2,q⟩|cont=>exact⟨i+1,hlt,e2,q⟩|brk=>exact q|ret v=>exact q
 . rintro ρ⟨i,hi,e,j⟩;have:i=N:=by have hl:=congrArg List.length e;simp at hl;omega
   subst this;exact hq ρ j
theorem rK{c:Call}{is:List Nat}{one:Bool}{elt:P}{t:Option P}(J:List Sl->Prop)(P:D->Prop){Q:List D->List Sl->Prop}{ds:List D}{ρ:List Sl}(j:J ρ)(h:∀d,d∈ds->∀ρ,J ρ->∃ρ1,bV ρ is one d=some ρ1/\(j5 c t ρ1).sat fun b ρ2=>if b=true then(ev c elt ρ2).sat fun r ρ3=>P r.d/\J ρ3 else J ρ2)(k:∀xs ρ,J ρ->xs.length<=ds.length->(∀x∈xs,P x)->Q xs ρ):(ji c is one t elt ds ρ).sat Q:=by suffices hh:∀(ds:List D)(acc:List D)(ρ:List Sl),J ρ->(∀x∈acc,P x)->(∀d,d∈ds->∀ρ,J ρ->∃ρ1,bV ρ is one d=some ρ1/\(j5 c t ρ1).sat fun b ρ2=>if b=true then(ev c elt ρ2).sat fun r ρ3=>P r.d/\J ρ3 else J ρ2)->(turns is one (j5 c t) (ev c elt) ds acc ρ).sat fun xs ρ=>J ρ/\(∀x∈xs,P x)/\xs.length<=acc.length+ds.length from(hh ds [] ρ j (by simp) h).imp fun xs ρ⟨q1,q2,q3⟩=>k xs ρ q1 (by simpa using q3) q2;intro ds;induction ds with|nil=>intro acc ρ j ha _;rw[turns];exact⟨j,ha,by simp⟩|cons d r ih=>
   intro acc ρ j ha h;obtain⟨ρ1,e,h1⟩:=h d (by simp) ρ j;rw[turns,e];show((j5 c t ρ1).bind _).sat _;rw[bL];refine h1.imp fun b ρ2 q=>?_
   cases b with|true=>
     rw[if_pos rfl]at q;rw[if_pos rfl,bL];refine q.imp fun x ρ3⟨p,j3⟩=>?_;refine(ih (acc++[x.d]) ρ3 j3 (fun y hy=>?_) fun d' hd'=>h d' (by simp[hd'])).imp fun xs ρ⟨q1,q2,q3⟩=>⟨q1,q2,by simp at q3 ⊢;omega⟩;rcases List.mem_append.mp hy with hy|hy;.exact ha y hy
     .rw[List.mem_singleton.mp hy];exact p|false=>rw[if_neg (by simp)]at q;rw[if_neg (by simp)];exact(ih acc ρ2 q ha fun d' hd'=>h d' (by simp[hd'])).imp fun xs ρ⟨q1,q2,q3⟩=>⟨q1,q2,by simp at q3 ⊢;omega⟩
theorem gf{c:Call}{is:List Nat}{one:Bool}{elt:P}(J:List Sl->Prop)(P:D->Prop){Q:List D->List Sl->Prop}{ds:List D}{ρ:List Sl}(j:J ρ)(h:∀d,d∈ds->∀ρ,J ρ->∃ρ1,bV ρ is one d=some ρ1/\(ev c elt ρ1).sat fun r ρ3=>P r.d/\J ρ3)(k:∀xs ρ,J ρ->xs.length=ds.length->(∀x∈xs,P x)->Q xs ρ):(ji c is one none elt ds ρ).sat Q:=by suffices hh:∀(ds:List D)(acc:List D)(ρ:List Sl),J ρ->(∀x∈acc,P x)->(∀d,d∈ds->∀ρ,J ρ->∃ρ1,bV ρ is one d=some ρ1/\(ev c elt ρ1).sat fun r ρ3=>P r.d/\J ρ3)->(turns is one (j5 c none) (ev c elt) ds acc ρ).sat fun xs ρ=>J ρ/\(∀x∈xs,P x)/\xs.length=acc.length+ds.length from(hh ds [] ρ j (by simp) h).imp fun xs ρ⟨q1,q2,q3⟩=>k xs ρ q1 (by simpa using q3) q2;intro ds;induction ds with|nil=>intro acc ρ j ha _;rw[turns];exact⟨j,ha,by simp⟩|cons d r ih=>
   intro acc ρ j ha h;obtain⟨ρ1,e,h1⟩:=h d (by simp) ρ j;rw[turns,e];show((j5 c none ρ1).bind _).sat _;rw[j5];show((ev c elt ρ1).bind _).sat _;rw[bL];refine h1.imp fun x ρ3⟨p,j3⟩=>?_;refine(ih (acc++[x.d]) ρ3 j3 (fun y hy=>?_) fun d' hd'=>h d' (by simp[hd'])).imp fun xs ρ⟨q1,q2,q3⟩=>⟨q1,q2,by simp at q3 ⊢;omega⟩;rcases List.mem_append.mp hy with hy|hy;.exact ha y hy
   .rw[List.mem_singleton.mp hy];exact p
inductive A3(a b c:Prop):Prop where|mk(ha:a)(hb:b)(hc:c)
inductive A4(a b c d:Prop):Prop where|mk(ha:a)(hb:b)(hc:c)(hd:d)
inductive A5(a b c d e:Prop):Prop where|mk(ha:a)(hb:b)(hc:c)(hd:d)(he:e)
inductive A6(a b c d e f:Prop):Prop where|mk(ha:a)(hb:b)(hc:c)(hd:d)(he:e)(hf:f)
inductive A7(a b c d e f g:Prop):Prop where|mk(ha:a)(hb:b)(hc:c)(hd:d)(he:e)(hf:f)(hg:g)
inductive A8(a b c d e f g h:Prop):Prop where|mk(ha:a)(hb:b)(hc:c)(hd:d)(he:e)(hf:f)(hg:g)(hh:h)
inductive A9(a b c d e f g h i:Prop):Prop where|mk(ha:a)(hb:b)(hc:c)(hd:d)(he:e)(hf:f)(hg:g)(hh:h)(hi:i)
end HH
end
section
namespace HH
open PySem L2 PySem.Spec PyProof.Rows
section
variable{X:Cx}{c:Call}{n:Nat}{e a b d tg:Expr}{p pa pb pd:P}{pos:Pos}
theorem tZ{g:TG}{is:List Nat}(he:SX X c e p)(hg:PG X tg g)(hgo:Du X.K (fun ρ d=>bV ρ is false d) g)(hs:swapsWithSole [tg] e pos.line X.env=pure false:=by rfl)(hw:swappedStores [tg] e X.env=pure none:=by rfl)(h1:(assignEach [tg] X.env).map (·.2)=[assign tg X.env]:=by rfl):SS X c n (.Assign [tg] e pos) (.Mv is p):=by
 refine dD (p6 he.ev hg hs hw h1) ?_;rintro D σ H⟨F,ρ,fl,ρ',g0,e,k⟩;rw[HH.X8]at e;obtain⟨r,ρ1,e1,e⟩:=aj e;refine⟨F,ρ,r,ρ1,g0,e1,fun v F1 H1 s1 rr=>?_⟩;obtain⟨F2,s2,_,rp⟩:=s1.fH rr;split at e;.rename_i ds hd;obtain⟨ρ2,ρ3,e2,e⟩:=aj e;cases e;have zz:=aF e2;clear e2;obtain⟨e2,e3⟩:=zz;rw[hd]at rp;exact hgo v (.tup ds) F2 ρ1 _ σ H1 _ s2.gs rp (by show bV ρ1 is false (.tup ds)=_;cases is<;>exact e2) fun σ' s3=>k F2 σ' H1 (s2.trans s3)
 .cases e
end
end HH
end
section
namespace HT
open PySem PySem.Spec PyProof.Rows
section
variable{prog:Program}{w:World}{A:Around}{E:Value->Shared->Prop}{s:Shared}
theorem uO{t sl:Addr}{its:Array Value}{vl vu:Value}{lo hi:Option Int}{Q:Value->Shared->Prop}(ht:IsTup s.heap t its)(hs:s.heap.IsSliceOf sl vl vu .none)(pl:IsPart vl lo)(pu:IsPart vu hi)(h1:cV its.size 0 lo=0)(h2:cV its.size its.size hi=its.size)(h:Q (.ref t) s):wpAny (model prog w) A (getItem (.ref t) (.ref sl)) Q E s:=by
 obtain⟨os,hos,hcs,hds⟩:=id hs;have hT:s.TypeIs (.ref sl) "slice":=⟨os,hos,hcs⟩;unfold getItem;try with_reducible refine wpAny_holding ?_
 first|refine wpAny_bind (wpAny_pure ?_)|skip
 refine wpAny_bind (wpAny_sequenceKey ht.typeIs (by decide) (wpAny_bind (wpAny_callSpecial?_slot (name:=Str.ofString "__getitem__") ht.typeIs slot_tuple_getitem (wpAny_call_entry slot_tuple_getitem ht.typeIs entry_tuple_getitem ?_ (args_tuple_getitem _ _)))));show wpAny _ _ (Builtin.Tuple.tupleItemsOf (.ref t)>>=_) _ _ s;refine wpAny_bind (tupleItemsOf_ ht (wpAny_bind (wpAny_typeOf hT ?_)));rw[if_pos (by decide)];refine wpAny_bind (gR hs pl pu ?_);have abl:((((cV its.size 0 lo:Nat):Int)==0&&(1:Int)==1&&(cV its.size its.size hi-cV its.size 0 lo)==its.size)=true):=by rw[h1,h2];simp
 show wpAny _ _ (if(((cV its.size 0 lo:Nat):Int)==0&&(1:Int)==1&&(cV its.size its.size hi-cV its.size 0 lo)==its.size)=true then _ else _) _ _ s;rw[if_pos abl];unfold Builtin.Tuple.tupleIsExact;refine wpAny_bind (wpAny_bind (wpAny_typeOf ht.typeIs (wpAny_pure ?_)));rw[if_pos (by decide)];exact wpAny_bind (wpAny_rule (wpAny_pure ⟨_,rfl,wpAny_pure h⟩))
end
end HT
namespace HH
open PySem L2 PySem.Spec PyProof.Rows
noncomputable def nst:Expr->Bool|.Starred _ _=>false|_=>true
theorem iI{e:Expr}{es:List Expr}{env:Env}(h:nst e=true):starEach (e::es) env=(false,eval e env)::starEach es env:=by cases e with|Starred a b=>cases h|_=>rw[starEach];(intro e p z;cases z)
noncomputable def pD:List Int->List Expr->Option (List Expr)|[],es=>some es|i::is,.Constant (.int j) _ _::es=>if i=j then pD is es else none|_,_=>none
theorem jw{X:L2.Cx}{c:Call}:∀(is:List Int){es es':List Expr}{ps':List P},pD is es=some es'->SA X c es' ps'->SA X c es (is.map (fun i=>P.con (.int i))++ps')|[],es,es',ps',h,r=>by cases h;exact r|i::is,[],es',ps',h,r=>by cases h|i::is,e::es,es',ps',h,r=>by cases e with
   |Constant v k p=>cases v with
     |int j=>
       replace h:(if i=j then pD is es else none)=some es':=h;split at h;.rename_i hij;subst hij;exact ou ao (jw is h r) (iI rfl)
       .cases h|_=>cases h
   |_=>cases h
theorem tL{n d:Nat}{o:Option Int}:HT.cV n d o=HH.cV n d o:=by cases o with|none=>rfl|some v=>
   show(if v<0 then(v+(n:Int)).toNat else min v.toNat n)=(if 0<=v then min v.toNat n else(v+n).toNat);by_cases h:0<=v;.rw[if_pos h,if_neg (by omega)]
   .rw[if_neg h,if_pos (by omega)]
theorem Gk{xs:List V}{lo hi:Option Int}:uJ xs lo hi=HH.cut xs lo hi:=by unfold uJ HH.cut;rw[tL,tL]
theorem aL.cut{K:PySem.W.Frag}{F:Hp}{ds:List D}{vs:List V}{lo hi:Option Int}(h:aL K F vs ds):aL K F (HH.cut vs lo hi) (HH.cut ds lo hi):=by unfold HH.cut;rw[h.length];exact(h.drop _).take _
section
variable{X:Cx}{c:Call}{n:Nat}{e a b:Expr}{p pa pb pl ph:P}{pos p2:Pos}{lo hi:Option Expr}
noncomputable def aap(K:PySem.W.Frag):V->Option Int->Option Int->Hp->VK->Prop:=fun x lo hi H Q=>∃F d r,aP F H/\eN K F H x d/\Hu d (some lo) (some hi)=some r/\∀v F' H',Ext F H F' H'->cC K F' H' H v r->Q v H'
theorem Up:XQ X (aap X.K):=by rintro pins s σ H x v vl vu lo hi sl Q I rx hs pl pu⟨F,d,r,sm,px,he,k⟩;cases d with|lst ds=>cases he;obtain⟨a,xs,rfl,hq,rs⟩:=px.lst sm;refine Ku pins s σ H _ v vl vu lo hi sl Q I rx hs pl pu ⟨a,xs,rfl,hq,fun p hp=>?_⟩;rw[Gk];exact Bg sm rs.cut hp k|tup ds=>
   cases he;obtain⟨a,xs,rfl,hq,rs,rt⟩:=px.tup sm;by_cases hw:HT.cV xs.length 0 lo=0/\HT.cV xs.length xs.length hi=xs.length
   . cases rx;obtain⟨its,rv,ht,hz⟩:=I.tuple hq;have hlen:its.toArray.size=xs.length:=by rw[List.size_toArray];exact rv.length.symm
     refine⟨"tuple",_,slot_tuple_getitem.lookup,ht.typeIs,HT.uO ht hs pl pu (by rw[hlen];exact hw.1) (by rw[hlen];exact hw.2) ⟨.ref a,H,I,rfl,?_⟩⟩;have hc:HH.cut ds lo hi=ds:=by unfold HH.cut;rw[<-rs.length,<-tL,<-tL,hw.1,hw.2];simp[rs.length]
     rw[hc]at k;exact cC.dJ sm rt k
   .refine QG pins s σ H _ v vl vu lo hi sl Q I rx hs pl pu ⟨a,xs,rfl,hq,hw,fun p hp=>?_⟩;rw[Gk];exact BW sm rs.cut hp k|_=>cases he
noncomputable def SO(X:Cx)(c:Call)(o:Option Expr)(p:P):Prop:=∃t,PO X o t/\∀{σ:L2.St}{H F:Hp}{ρ ρ':List Sl}{d:D}{i:Option Int}{Q:Option Int->Hp->Prop},GS X.K F ρ σ H->bI (isVar p) (HH.ev c p) ρ=.ok d ρ'->part p d=some i->(∀F' H',bF X.K F ρ σ H F' ρ' σ H'->Q i H')->t σ H Q
theorem tG:SO X c none (.con .non):=by refine⟨_,Js,fun{σ H F ρ ρ' d i Q}g e h k=>?_⟩;cases(show some none=some i from h);have e':(HH.ev c (.con .non) ρ).bind (fun r ρ=>.ok r.d ρ)=.ok d ρ':=e;clear e;rw[HH.E2]at e';cases e';exact k F H (.refl g)
theorem lK(h:SX X c e p)(hn:Bo p=false:=by rfl):SO X c (some e) p:=by obtain⟨t,h1,h2⟩:=h.bI;refine⟨_,J0 h1,fun{σ H F ρ ρ' d i Q}g e hp k=>?_⟩;unfold part at hp;rw[hn,if_neg (by decide)]at hp;obtain⟨j,e1,e2⟩:=map_some hp;cases aY e1;subst e2;exact h2 g e fun v F' H' s pv=>⟨j,pv.int,k F' H' s⟩
theorem wA{d:D}{x y:Option (Option Int)}{r:R}(h:Hu d x y=some r):∃lo hi,x=some lo/\y=some hi:=by cases x with|none=>cases d<;>cases h|some lo=>cases y with|none=>cases d<;>cases h|some hi=>exact⟨lo,hi,rfl,rfl⟩
theorem lu(ha:SX X c a pa)(hl:SO X c lo pl)(hh:SO X c hi ph):SX X c (.Subscript a (.Slice lo hi none p2) pos) (.slice pa pl ph):=by obtain⟨tl,l1,l2⟩:=hl;obtain⟨th,h1,h2⟩:=hh;cases hv:isVar pa with|none=>refine⟨fU (u9 Up ha.ev l1 h1) ?_,fun i h=>by cases h⟩;rintro σ H Q⟨F,ρ,r,ρ',g,e,k⟩;rw[HH.E14,hv]at e;obtain⟨x,ρ1,e1',ea⟩:=aj e;clear e;have W5:(HH.ev c pa ρ).bind (fun r ρ=>.ok r.d ρ)=.ok x ρ1:=e1';clear e1';obtain⟨rx,ρ1',e1,e0⟩:=aj W5;clear W5;cases e0;obtain⟨y,ρ2,e2,eb⟩:=aj ea;clear ea;obtain⟨z,ρ3,e3,ec⟩:=aj eb;clear eb;obtain⟨e,e4⟩:=aF ec;clear ec;subst e4;obtain⟨lo',hi',q1,q2⟩:=wA e;rw[q1,q2]at e;refine⟨F,ρ,rx,_,g,e1,fun v F1 H1 s1 rr=>?_⟩;obtain⟨F2,s2,_,rp⟩:=s1.fH rr;refine l2 s2.gs e2 q1 fun F3 H3 s3=>h2 s3.gs e3 q2 fun F4 H4 s4=>?_;have s5:=s2.trans (s3.trans s4);refine⟨F4,_,r,s4.gs.sub,.inl ((rp.mono s3.bK).mono s4.bK),e,fun v F5 H5 x rn=>?_⟩;exact k v F5 H5 (s5.trans (x.stp s5.gs)) (.later s5 (rn.vP s5.gs))|some i=>refine⟨fU (u9 Up (ha.var i hv) l1 h1) ?_,fun i h=>by cases h⟩;rintro σ H Q⟨F,ρ,r,ρ',g,e,k⟩;rw[HH.E14,hv]at e;obtain⟨x0,ρ0,e0',ea⟩:=aj e;clear e;obtain⟨e0,yp⟩:=aF e0';clear e0';subst yp;obtain⟨y,ρ2,e2,eb⟩:=aj ea;clear ea;obtain⟨z,ρ3,e3,ec⟩:=aj eb;clear eb;obtain⟨x,ρ4,e5',ed⟩:=aj ec;clear ec;obtain⟨e5,e6⟩:=aF e5';clear e5';subst e6;obtain⟨e,e4⟩:=aF ed;clear ed;subst e4;obtain⟨lo',hi',q1,q2⟩:=wA e;rw[q1,q2]at e;obtain⟨v,hv1,_⟩:=g.pk e0;refine⟨v,hv1,l2 g e2 q1 fun F3 H3 s3=>h2 s3.gs e3 q2 fun F4 H4 s4=>?_⟩;have s5:=s3.trans s4;obtain⟨v',hv2,pv⟩:=s5.gs.pk e5;rw[hv1]at hv2;cases hv2;refine⟨F4,_,r,s4.gs.sub,pv,e,fun v F5 H5 x rn=>?_⟩;exact k v F5 H5 (s5.trans (x.stp s5.gs)) (.later s5 (rn.vP s5.gs))
theorem Vf:dq X (.type "int") (DR X.K fun x=>blt .int [x]):=by rintro pins s σ H xs us Q I r⟨x,hx,F,d,r',sm,px,he,k⟩;cases d with|int i=>cases(show some _=some r' from he);exact qD pins s σ H xs us Q I r (.inl ⟨i,by rw[hx,px.int],cC.dJ sm (bJ _) k⟩)|bl b=>cases(show some _=some r' from he);exact qD pins s σ H xs us Q I r (.inr ⟨b,by rw[hx,px.bl],cC.dJ sm (bJ _) k⟩)|_=>cases he
theorem Wb:dq X (.builtin "abs") (DR X.K fun x=>blt .abs [x]):=by rintro pins s σ H xs us Q I r⟨x,hx,F,d,r',sm,px,he,k⟩;cases d with|int i=>cases(show some _=some r' from he);exact Fv pins s σ H xs us Q I r ⟨i,by rw[hx,px.int],cC.dJ sm (bJ _) k⟩|_=>cases he
theorem boot_abs:bootBuiltins "abs"=some (.builtin "abs"):=by decide+kernel
theorem Jk{x:Str}{p':Pos}(hx:x="int")(hg:Gl X x)(hm:X.mg x=none)(ha:SX X c a pa)(hs:starEach [a] X.env=(false,eval a X.env)::starEach [] X.env:=by rfl):SX X c (.Call (.Name x p') [a] [] pos) (.blt .int [pa]):=by subst hx;exact jL (fun h=>mF Vf hg hm (by decide+kernel) h (he:=hs)) ha (fun ρ=>rfl) rfl hs
theorem Ou{x:Str}{p':Pos}(hx:x="abs")(hg:Gl X x)(hm:X.mg x=none)(ha:SX X c a pa)(hs:starEach [a] X.env=(false,eval a X.env)::starEach [] X.env:=by rfl):SX X c (.Call (.Name x p') [a] [] pos) (.blt .abs [pa]):=by subst hx;exact jL (fun h=>dG Wb hg hm boot_abs h (he:=hs)) ha (fun ρ=>rfl) rfl hs
end
end HH
end
section
namespace HH
open PySem
theorem kJ:∀a b:List Int,bB a b=true->bB b a=false
 |[],[],h=>by simp[bB]at h|[],_::_,_=>by simp[bB]|_::_,[],h=>by simp[bB]at h|x::a,y::b,h=>by
   simp only[bB,Bool.or_eq_true,decide_eq_true_eq,Bool.and_eq_true]at h;simp only[bB,Bool.or_eq_false_iff,decide_eq_false_iff_not,Bool.and_eq_false_iff];rcases h with h|⟨h,h'⟩;.exact⟨by omega,.inl (by omega)⟩
   .exact⟨by omega,.inr (kJ a b h')⟩
theorem yl:∀a b c:List Int,bB b a=false->bB c b=false->bB c a=false
 |[],_,c,_,_=>by cases c<;>simp[bB]|_::_,[],_,h,_=>by simp[bB]at h|_::_,_::_,[],_,h=>by simp[bB]at h|x::a,y::b,z::c,h1,h2=>by
   simp only[bB,Bool.or_eq_false_iff,decide_eq_false_iff_not,Bool.and_eq_false_iff]at h1 h2 ⊢;refine⟨by omega,?_⟩;by_cases e:z=x;.right;exact yl a b c (h1.2.resolve_left (by omega)) (h2.2.resolve_left (by omega))
   .exact .inl e
theorem vO:∀a b:List Int,bB a b=false->bB b a=false->a=b
 |[],[],_,_=>rfl|[],_::_,h,_=>by simp[bB]at h|_::_,[],_,h=>by simp[bB]at h|x::a,y::b,h1,h2=>by
   simp only[bB,Bool.or_eq_false_iff,decide_eq_false_iff_not,Bool.and_eq_false_iff]at h1 h2;have e:x=y:=by omega
   subst e;rw[vO a b (h1.2.resolve_left (by simp)) (h2.2.resolve_left (by simp))]
theorem vV:∀{xs ys:List D},xs.all eZ=true->ys.all eZ=true->xs.map gA=ys.map gA->xs=ys
 |[],[],_,_,_=>rfl|[],_::_,_,_,h=>by simp at h|_::_,[],_,_,h=>by simp at h|x::xs,y::ys,h1,h2,h=>by
   simp only[List.all_cons,Bool.and_eq_true]at h1 h2;simp only[List.map_cons,List.cons.injEq]at h;obtain⟨i,rfl⟩:∃i,x=.int i:=by cases x<;>first|exact⟨_,rfl⟩|(have q:=h1.1;simp[eZ]at q;done)
   obtain⟨j,rfl⟩:∃j,y=.int j:=by cases y<;>first|exact⟨_,rfl⟩|(have q:=h2.1;simp[eZ]at q;done)
   rw[vV h1.2 h2.2 h.2,show i=j from h.1]
theorem yV{x y:D}(h:(eZ x=true/\eZ y=true)\/(qj x=true/\qj y=true))(e:bR x=bR y):x=y:=by
 rcases h with⟨h1,h2⟩|⟨h1,h2⟩
 . cases x<;>first|(simp[eZ]at h1;done)|skip
   cases y<;>first|(simp[eZ]at h2;done)|skip
   simpa[bR]using e
 . cases x<;>first|(simp[qj]at h1;done)|skip
   cases y<;>first|(simp[qj]at h2;done)|skip
   rename_i xs ys;cases xs<;>first|(simp[qj]at h1;done)|skip
   cases ys<;>first|(simp[qj]at h2;done)|skip
   rw[vV h1 h2 e]
noncomputable def nQ(a b:D):Bool:=!bB (bR b) (bR a)
theorem iW(ds:List D):(qu ds).Perm ds:=List.mergeSort_perm ..
theorem Kr(a b c:D)(h1:nQ a b=true)(h2:nQ b c=true):nQ a c=true:=by simp only[nQ,Bool.not_eq_true']at*;exact yl _ _ _ h1 h2
theorem Cy(a b:D):(nQ a b||nQ b a)=true:=by simp only[nQ,Bool.or_eq_true,Bool.not_eq_true'];cases h:bB (bR b) (bR a)with|false=>exact .inl rfl|true=>exact .inr (kJ _ _ h)
theorem xO(ds:List D):(qu ds).Pairwise fun a b=>nQ a b=true:=List.pairwise_mergeSort Kr Cy ds
theorem ue{ds:List D}(h:sortable ds=true):∀x∈ds,∀y∈ds,bR x=bR y->x=y:=by
 simp only[sortable,Bool.and_eq_true,Bool.or_eq_true,List.all_eq_true]at h;intro x hx y hy e;rcases h.2 with h|h;.exact yV (.inl ⟨h x hx,h y hy⟩) e
 .exact yV (.inr ⟨h x hx,h y hy⟩) e
theorem wB{ds l:List D}(h:sortable ds=true)(p:l.Perm ds)(s:l.Pairwise fun a b=>nQ a b=true):l=qu ds:=by refine List.Perm.eq_of_pairwise (le:=fun a b=>nQ a b=true) (fun a b ha hb h1 h2=>?_) s (xO ds) (p.trans (iW ds).symm);simp only[nQ,Bool.not_eq_true']at h1 h2;exact ue h a (p.mem_iff.mp ha) b ((iW ds).mem_iff.mp hb) (vO _ _ h2 h1)
end HH
end
section
namespace HH
open PySem PyProof.Rows
noncomputable abbrev SM:=StateT SortSt Sem
noncomputable def gal:Bool->Keyed->Array Keyed->Nat->Nat->Nat->SM (Option Nat):=sortPriv%PySem.Builtin.gallop
noncomputable def Q7(l:Bool)(k:Keyed)(xs:Array Keyed)(b i:Nat):SM (Option Bool):=elem' xs (b+i)>>=fun x=>if l=true then lt' x k else lt' k x>>=fun o=>pure (o.map fun x=>!x)
noncomputable def FJ(l:Bool)(k:Keyed)(xs:Array Keyed)(b n lo hi:Nat):SM (Option Nat):=(forIn [0:n] ((none,lo,hi):Option (Option Nat)× Nat × Nat) fun _ c=>if c.2.1 ≥ c.2.2 then pure (.done (none,c.2.1,c.2.2))else Q7 l k xs b (c.2.1+(c.2.2-c.2.1)/2)>>=fun o=>match o with|some m=>if m=true then pure (.yield (none,c.2.1+(c.2.2-c.2.1)/2+1,c.2.2))else pure (.yield (none,c.2.1,c.2.1+(c.2.2-c.2.1)/2))|_=>pure (.done (some none,c.2.1,c.2.2)))>>=fun c=>match c.1 with|some r=>pure r|none=>pure (some c.2.2)
theorem Qf(l:Bool)(k:Keyed)(xs:Array Keyed)(b n h:Nat):gal l k xs b n h=Q7 l k xs b h>>=fun o=>match o with
 |some r=>if r=true then(forIn [0:n] ((none,0,1):Option (Option Nat)× Nat × Nat) fun _ c=>if c.2.2 ≥ n-h then pure (.done (none,c.2.1,c.2.2))else Q7 l k xs b (h+c.2.2)>>=fun o=>match o with|some m=>if(!m)=true then pure (.done (none,c.2.1,c.2.2))else pure (.yield (none,c.2.2,2*c.2.2+1))|_=>pure (.done (some none,c.2.1,c.2.2)))>>=fun c=>match c.1 with|some r=>pure r|none=>FJ l k xs b n (h+c.2.1+1) (h+min c.2.2 (n-h))else(forIn [0:n] ((none,0,1):Option (Option Nat)× Nat × Nat) fun _ c=>if c.2.2 ≥ h+1 then pure (.done (none,c.2.1,c.2.2))else Q7 l k xs b (h-c.2.2)>>=fun o=>match o with|some m=>if m=true then pure (.done (none,c.2.1,c.2.2))else pure (.yield (none,c.2.2,2*c.2.2+1))|_=>pure (.done (some none,c.2.1,c.2.2)))>>=fun c=>match c.1 with|some r=>pure r|none=>FJ l k xs b n (h+1-min c.2.2 (h+1)) (h-c.2.1)
 |_=>pure none:=by unfold FJ;show Q7 l k xs b h>>=_=_;congr 1;funext o;cases o with|none=>rfl|some r=>dsimp only;cases r with
   |true=>simp only[if_true];congr 1;funext c;obtain⟨c1,c2,c3⟩:=c;cases c1 with|some r=>rfl|none=>dsimp only;congr 1;funext c;obtain⟨c1,c2,c3⟩:=c;cases c1<;>rfl
   |false=>simp only[Bool.false_eq_true,if_false];congr 1;funext c;obtain⟨c1,c2,c3⟩:=c;cases c1 with|some r=>rfl|none=>dsimp only;congr 1;funext c;obtain⟨c1,c2,c3⟩:=c;cases c1<;>rfl
structure Rk(M:Model)(A:Around)(E:Value->Shared->Prop)(s:Shared)(κ:SortKind)(ok:Keyed->Prop)(K:Keyed->Int):Prop where lt:∀{x y:Keyed}{Q:Option Bool->SortSt->Prop}{st:SortSt},ok x->ok y->kindOf st=κ->Q (some (decide (K x<K y))) st->wpS M A E s (lt' x y) Q st
section
variable{M:Model}{A:Around}{E:Value->Shared->Prop}{s:Shared}{κ:SortKind}{ok:Keyed->Prop}{K:Keyed->Int}
noncomputable def it(xs:Array Keyed)(i:Nat):Keyed:=xs.getD i (Value.none,Value.none)
theorem tD{xs:Array Keyed}{i:Nat}(h:i<xs.size):xs[i]?=some (it xs i):=by unfold it;simp[Array.getD,h]
theorem dI{xs:Array Keyed}{i:Nat}(h:i<xs.size):it xs i∈xs.toList:=by
 have:it xs i=xs[i]:=by unfold it;simp[Array.getD,h]
 rw[this];simp
theorem bC{xs:Array Keyed}{i:Nat}{Q:Keyed->SortSt->Prop}{st:SortSt}(h:i<xs.size)(q:Q (it xs i) st):wpS M A E s (elem' xs i) Q st:=by rw[elem'_eq,tD h];exact wpS_pure q
noncomputable def bb(K:Keyed->Int)(l:Bool)(k x:Keyed):Bool:=if l=true then decide (K x<K k)else !decide (K k<K x)
theorem sS(R:Rk M A E s κ ok K){l:Bool}{k:Keyed}{xs:Array Keyed}{b i:Nat}{Q:Option Bool->SortSt->Prop}{st:SortSt}(hk:ok k)(hx:∀x∈xs.toList,ok x)(hi:b+i<xs.size)(hs:kindOf st=κ)(q:Q (some (bb K l k (it xs (b+i)))) st):wpS M A E s (Q7 l k xs b i) Q st:=by unfold Q7;refine wpS_bind (bC hi ?_);have ho:=hx _ (dI hi);cases l with|true=>exact R.lt ho hk hs q|false=>exact wpS_bind (R.lt hk ho hs (wpS_pure q))
noncomputable def Kh(K:Keyed->Int)(l:Bool)(k:Keyed)(xs:Array Keyed)(b n:Nat):Prop:=∀i j,i<=j->j<n->bb K l k (it xs (b+j))=true->bb K l k (it xs (b+i))=true
theorem zT(R:Rk M A E s κ ok K){l:Bool}{k:Keyed}{xs:Array Keyed}{b n lo hi:Nat}{Q:Option Nat->SortSt->Prop}{st:SortSt}(hk:ok k)(hx:∀x∈xs.toList,ok x)(hb:b+n<=xs.size)(hs:kindOf st=κ)(hc:Kh K l k xs b n)(h1:lo<=hi)(h2:hi<=n)(h3:∀i,i<lo->bb K l k (it xs (b+i))=true)(h4:∀i,hi<=i->i<n->bb K l k (it xs (b+i))=false)(q:∀m,m<=n->(∀i,i<m->bb K l k (it xs (b+i))=true)->(∀i,m<=i->i<n->bb K l k (it xs (b+i))=false)->Q (some m) st):wpS M A E s (FJ l k xs b n lo hi) Q st:=by
 unfold FJ;refine wpS_bind (wpS_mono (wpS_forRange (I:=fun x c st'=>st'=st/\∃lo hi,c=(none,lo,hi)/\lo<=hi/\hi<=n/\hi-lo<=n-x/\(∀i,i<lo->bb K l k (it xs (b+i))=true)/\∀i,hi<=i->i<n->bb K l k (it xs (b+i))=false) (Q:=fun c st'=>st'=st/\∃m,c=(none,m,m)/\m<=n/\(∀i,i<m->bb K l k (it xs (b+i))=true)/\∀i,m<=i->i<n->bb K l k (it xs (b+i))=false) ?_ ?_ ⟨rfl,lo,hi,rfl,h1,h2,by omega,h3,h4⟩) ?_)
 . rintro x c st' _ hxn⟨rfl,lo,hi,rfl,a1,a2,a3,a4,a5⟩;dsimp only;by_cases e:lo ≥ hi
   . rw[if_pos e];have:lo=hi:=by omega
     subst this;exact wpS_pure ⟨rfl,lo,rfl,a2,a4,a5⟩
   .rw[if_neg e];refine wpS_bind (sS R hk hx (by omega) hs ?_);cases c:bb K l k (it xs (b+(lo+(hi-lo)/2)))with|true=>dsimp only;rw[if_pos rfl];exact wpS_pure ⟨rfl,_,_,rfl,by omega,a2,by omega,fun i hi'=>hc i (lo+(hi-lo)/2) (by omega) (by omega) c,a5⟩|false=>dsimp only;rw[if_neg (by simp)];refine wpS_pure ⟨rfl,_,_,rfl,by omega,by omega,by omega,a4,fun i i1 i2=>?_⟩;cases z:bb K l k (it xs (b+i))with|false=>rfl|true=>have:=hc (lo+(hi-lo)/2) i i1 i2 z;rw[c]at this;cases this
 . rintro c st'⟨rfl,lo,hi,rfl,a1,a2,a3,a4,a5⟩;have:lo=hi:=by omega
   subst this;exact⟨rfl,lo,rfl,a2,a4,a5⟩
 .rintro c st'⟨rfl,m,rfl,a1,a2,a3⟩;exact wpS_pure (q m a1 a2 a3)
theorem mC(R:Rk M A E s κ ok K){l:Bool}{k:Keyed}{xs:Array Keyed}{b n h:Nat}{Q:Option Nat->SortSt->Prop}{st:SortSt}(hk:ok k)(hx:∀x∈xs.toList,ok x)(hb:b+n<=xs.size)(hh:h<n)(hs:kindOf st=κ)(hc:Kh K l k xs b n)(q:∀m,m<=n->(∀i,i<m->bb K l k (it xs (b+i))=true)->(∀i,m<=i->i<n->bb K l k (it xs (b+i))=false)->Q (some m) st):wpS M A E s (gal l k xs b n h) Q st:=by
 have up:∀{i:Nat},i<n->bb K l k (it xs (b+i))=true->∀j,j<=i->bb K l k (it xs (b+j))=true:=fun hi c j hj=>hc _ _ hj hi c;have dn:∀{i:Nat},bb K l k (it xs (b+i))=false->∀j,i<=j->j<n->bb K l k (it xs (b+j))=false:=fun{i}c j h1 h2=>by cases z:bb K l k (it xs (b+j))with|false=>rfl|true=>have:=hc i j h1 h2 z;rw[c]at this;cases this
 rw[Qf];refine wpS_bind (sS R hk hx (by omega) hs ?_);cases c0:bb K l k (it xs (b+h))with
 |true=>
   dsimp only;rw[if_pos rfl];refine wpS_bind (wpS_mono (wpS_forRange (I:=fun x c st'=>st'=st/\∃a o,c=(none,a,o)/\x+1<=o/\a<o/\h+a<n/\bb K l k (it xs (b+(h+a)))=true) (Q:=fun c st'=>st'=st/\∃a o,c=(none,a,o)/\a<o/\h+a<n/\bb K l k (it xs (b+(h+a)))=true/\(n-h<=o\/o<n-h/\bb K l k (it xs (b+(h+o)))=false)) ?_ ?_ ⟨rfl,0,1,rfl,by omega,by omega,by omega,by simpa using c0⟩) ?_)
   . rintro x c st' _ hxn⟨rfl,a,o,rfl,a1,a2,a3,a4⟩;dsimp only;by_cases e:o ≥ n-h;.rw[if_pos e];exact wpS_pure ⟨rfl,a,o,rfl,a2,a3,a4,.inl e⟩
     .rw[if_neg e];refine wpS_bind (sS R hk hx (by omega) hs ?_);cases c:bb K l k (it xs (b+(h+o)))with|true=>dsimp only;rw[if_neg (by simp)];exact wpS_pure ⟨rfl,_,_,rfl,by omega,by omega,by omega,c⟩|false=>dsimp only;rw[if_pos (by simp)];exact wpS_pure ⟨rfl,a,o,rfl,a2,a3,a4,.inr ⟨by omega,c⟩⟩
   .rintro c st'⟨rfl,a,o,rfl,a1,a2,a3,a4⟩;exact⟨rfl,a,o,rfl,a2,a3,a4,.inl (by omega)⟩
   . rintro c st'⟨rfl,a,o,rfl,a2,a3,a4,a5⟩;dsimp only;refine zT R hk hx hb hs hc (by omega) (by omega) (fun i hi=>up a3 a4 i (by omega)) (fun i h1 h2=>?_) q;rcases a5 with z|⟨z1,z2⟩;.omega
     .exact dn z2 i (by omega) h2|false=>
   dsimp only;rw[if_neg (by simp)];refine wpS_bind (wpS_mono (wpS_forRange (I:=fun x c st'=>st'=st/\∃a o,c=(none,a,o)/\x+1<=o/\a<o/\a<=h/\bb K l k (it xs (b+(h-a)))=false) (Q:=fun c st'=>st'=st/\∃a o,c=(none,a,o)/\a<o/\a<=h/\bb K l k (it xs (b+(h-a)))=false/\(h+1<=o\/o<h+1/\bb K l k (it xs (b+(h-o)))=true)) ?_ ?_ ⟨rfl,0,1,rfl,by omega,by omega,by omega,by simpa using c0⟩) ?_)
   . rintro x c st' _ hxn⟨rfl,a,o,rfl,a1,a2,a3,a4⟩;dsimp only;by_cases e:o ≥ h+1;.rw[if_pos e];exact wpS_pure ⟨rfl,a,o,rfl,a2,a3,a4,.inl e⟩
     .rw[if_neg e];refine wpS_bind (sS R hk hx (by omega) hs ?_);cases c:bb K l k (it xs (b+(h-o)))with|false=>dsimp only;rw[if_neg (by simp)];exact wpS_pure ⟨rfl,_,_,rfl,by omega,by omega,by omega,c⟩|true=>dsimp only;rw[if_pos rfl];exact wpS_pure ⟨rfl,a,o,rfl,a2,a3,a4,.inr ⟨by omega,c⟩⟩
   .rintro c st'⟨rfl,a,o,rfl,a1,a2,a3,a4⟩;exact⟨rfl,a,o,rfl,a2,a3,a4,.inl (by omega)⟩
   . rintro c st'⟨rfl,a,o,rfl,a2,a3,a4,a5⟩;dsimp only;refine zT R hk hx hb hs hc (by omega) (by omega) (fun i hi=>?_) (fun i h1 h2=>dn a4 i (by omega) h2) q;rcases a5 with z|⟨z1,z2⟩;.omega
     .exact up (by omega) z2 i (by omega)
end
end HH
end
section
namespace HH
open PySem PyProof.Rows
section
variable{K:Keyed->Int}{T out A B P:List Keyed}{x y z:Keyed}
noncomputable def SL(K:Keyed->Int)(l:List Keyed):Prop:=l.Pairwise fun x y=>K x<=K y
theorem cN{l k:List Keyed}:SL K (l++k)↔SL K l/\SL K k/\∀x∈l,∀y∈k,K x<=K y:=List.pairwise_append
structure MW(K:Keyed->Int)(T out A B:List Keyed):Prop where
 perm:(out++(A++B)).Perm T
 sa:SL K (out++A)sb:SL K (out++B)
theorem MW.V7(w:MW K T out (P++A) B)(h:∀x∈P,∀y∈B,K x<=K y):MW K T (out++P) A B:=by
 refine⟨by simpa using w.perm,by simpa using w.sa,?_⟩;have h1:=cN.mp w.sb;have h2:=cN.mp (show SL K ((out++P)++A)by simpa using w.sa);refine cN.mpr ⟨h2.1,h1.2.1,fun x hx y hy=>?_⟩;rcases List.mem_append.mp hx with hx|hx;.exact h1.2.2 x hx y hy
 .exact h x hx y hy
theorem MW.Vv(w:MW K T out A (P++B))(h:∀x∈P,∀y∈A,K x<=K y):MW K T (out++P) A B:=by
 have h1:=cN.mp w.sa;have h2:=cN.mp (show SL K ((out++P)++B)by simpa using w.sb);refine⟨?_,cN.mpr ⟨h2.1,h1.2.1,fun x hx y hy=>?_⟩,by simpa using w.sb⟩;.refine List.Perm.trans ?_ w.perm;rw[List.append_assoc];refine List.Perm.append_left out ?_;rw[<-List.append_assoc,<-List.append_assoc];exact List.perm_append_comm.append_right B
 . rcases List.mem_append.mp hx with hx|hx;.exact h1.2.2 x hx y hy
   .exact h x hx y hy
theorem MW.Za(w:MW K T out A []):(out++A).Perm T/\SL K (out++A):=⟨by simpa using w.perm,w.sa⟩
theorem MW.aas(w:MW K T out [] B):(out++B).Perm T/\SL K (out++B):=⟨by simpa using w.perm,w.sb⟩
theorem MW.last(w:MW K T out [z] B)(h:∀y∈B,K y<=K z):(out++B++[z]).Perm T/\SL K (out++B++[z]):=by
 refine⟨?_,cN.mpr ⟨w.sb,List.pairwise_singleton _ _,fun x hx y hy=>?_⟩⟩;.refine List.Perm.trans ?_ w.perm;rw[List.append_assoc];exact List.Perm.append_left out List.perm_append_comm
 . rw[List.mem_singleton.mp hy];rcases List.mem_append.mp hx with hx|hx;.exact(cN.mp w.sa).2.2 x hx z (by simp)
   .exact h x hx
theorem sE{a:Array Keyed}{i:Nat}(h:i<a.size):a.toList.drop i=it a i::a.toList.drop (i+1):=by
 have e:it a i=a.toList[i]:=by unfold it;simp[Array.getD,h]
 rw[e];exact List.drop_eq_getElem_cons (by simpa using h)
theorem je{a:Array Keyed}{i j:Nat}(h:j<=a.size):(a.extract i j).toList=(a.toList.drop i).take (j-i):=by simp[Array.toList_extract,List.extract]
theorem jz{a:Array Keyed}{i:Nat}:(a.extract i a.size).toList=a.toList.drop i:=by rw[je (Nat.le_refl _)];exact List.take_of_length_le (by simp)
theorem jX{a:Array Keyed}{i k:Nat}(h:i+k<=a.size):a.toList.drop i=(a.extract i (i+k)).toList++a.toList.drop (i+k):=by rw[je h,Nat.add_sub_cancel_left];rw[show a.toList.drop (i+k)=(a.toList.drop i).drop k by rw[List.drop_drop]];exact(List.take_append_drop k _).symm
theorem ext_mem{a:Array Keyed}{i k:Nat}{x:Keyed}(h:i+k<=a.size)(hx:x∈(a.extract i (i+k)).toList):∃j,j<k/\x=it a (i+j):=by rw[je h,Nat.add_sub_cancel_left]at hx;obtain⟨j,hj,e⟩:=List.mem_iff_getElem.mp hx;simp only[List.length_take,List.length_drop,Array.length_toList]at hj;refine⟨j,by omega,?_⟩;rw[<-e];unfold it;simp[Array.getD,show i+j<a.size by omega]
theorem jd{a:Array Keyed}{i:Nat}{x:Keyed}(hx:x∈a.toList.drop i):∃j,i<=j/\j<a.size/\x=it a j:=by obtain⟨j,hj,e⟩:=List.mem_iff_getElem.mp hx;simp only[List.length_drop,Array.length_toList]at hj;refine⟨i+j,by omega,by omega,?_⟩;rw[<-e];unfold it;simp[Array.getD,show i+j<a.size by omega]
noncomputable def uw(K:Keyed->Int)(a:Array Keyed):Prop:=∀i j,i<=j->j<a.size->K (it a i)<=K (it a j)
theorem pN{a:Array Keyed}(h:uw K a):SL K a.toList:=by
 unfold SL;rw[List.pairwise_iff_getElem];intro i j hi hj hij;have:=h i j (by omega) (by simpa using hj);have hi':i<a.size:=by simpa using hi
 have hj':j<a.size:=by simpa using hj
 unfold it at this;simpa[Array.getD,hi',hj']using this
end
section
variable{M:Model}{A:Around}{E:Value->Shared->Prop}{s:Shared}{κ:SortKind}{ok:Keyed->Prop}{K:Keyed->Int}
structure qd(st st':SortSt):Prop where
 kind:kindOf st'=kindOf st
 arr:arrOf st'=arrOf st
 pend:pendingOf st'=pendingOf st
 fail:failedOf st'=failedOf st
theorem qd.refl(st:SortSt):qd st st:=⟨rfl,rfl,rfl,rfl⟩
theorem qd.trans{a b c:SortSt}(h:qd a b)(k:qd b c):qd a c:=⟨k.kind.trans h.kind,k.arr.trans h.arr,k.pend.trans h.pend,k.fail.trans h.fail⟩
noncomputable def setG:Nat->SM Unit:=sortPriv%PySem.Builtin.setMinGallop
theorem oE{g:Nat}{Q:Unit->SortSt->Prop}{st:SortSt}(q:∀st',qd st st'->Q () st'):wpS M A E s (setG g) Q st:=wpS_modify (q _ ⟨rfl,rfl,rfl,rfl⟩)
theorem wp_rule{x:String}{Q:Unit->SortSt->Prop}{st:SortSt}(q:Q () st):wpS M A E s (liftM (rule x):SM Unit) Q st:=wpS_lift (wpAny_rule ⟨rfl,q⟩)
noncomputable def mlo:Array Keyed->Array Keyed->SM (Array Keyed):=sortPriv%PySem.Builtin.mergeLo
structure MI(K:Keyed->Int)(a b out:Array Keyed)(ia ib:Nat):Prop where
 i1:ia+1<a.size
 i2:ib<b.size
 w:MW K (a.toList++b.toList) out.toList (a.toList.drop ia) (b.toList.drop ib)
structure Fin(K:Keyed->Int)(a b out:Array Keyed):Prop where perm:out.toList.Perm (a.toList++b.toList)qu:SL K out.toList
theorem ju{a b out:Array Keyed}{ia ib:Nat}(h:ib=b.size)(w:MW K (a.toList++b.toList) out.toList (a.toList.drop ia) (b.toList.drop ib)):Fin K a b (out++a.extract ia a.size++b.extract ib b.size):=by
 have e:b.toList.drop ib=[]:=by rw[h];simp
 rw[e]at w;obtain⟨h1,h2⟩:=w.Za;refine⟨?_,?_⟩<;>rw[Array.toList_append,Array.toList_append,jz,jz,e,List.append_nil]<;>assumption
theorem Bx{a b out:Array Keyed}{ia ib:Nat}(h:ia=a.size)(w:MW K (a.toList++b.toList) out.toList (a.toList.drop ia) (b.toList.drop ib)):Fin K a b (out++a.extract ia a.size++b.extract ib b.size):=by
 have e:a.toList.drop ia=[]:=by rw[h];simp
 rw[e]at w;obtain⟨h1,h2⟩:=w.aas;refine⟨?_,?_⟩<;>rw[Array.toList_append,Array.toList_append,jz,jz,e,List.append_nil]<;>assumption
theorem kI{a b out:Array Keyed}{ia ib:Nat}(h:ia+1=a.size)(hl:∀i,i<b.size->K (it b i)<=K (it a (a.size-1)))(w:MW K (a.toList++b.toList) out.toList (a.toList.drop ia) (b.toList.drop ib)):Fin K a b (out++b.extract ib b.size++a.extract ia a.size):=by
 have e:a.toList.drop ia=[it a ia]:=by rw[sE (by omega),h];simp
 rw[e]at w;obtain⟨h1,h2⟩:=w.last fun y hy=>by obtain⟨j,_,hj,rfl⟩:=jd hy;rw[show ia=a.size-1 by omega];exact hl j hj
 refine⟨?_,?_⟩<;>rw[Array.toList_append,Array.toList_append,jz,jz,e]<;>assumption
theorem MW.rH{a b out:Array Keyed}{ia ib:Nat}(h:ia<a.size)(w:MW K (a.toList++b.toList) out.toList (a.toList.drop ia) (b.toList.drop ib))(hb:uw K b)(hk:ib<b.size->K (it a ia)<=K (it b ib)):MW K (a.toList++b.toList) (out.push (it a ia)).toList (a.toList.drop (ia+1)) (b.toList.drop ib):=by rw[sE h]at w;rw[Array.toList_push];refine MW.V7 (P:=[it a ia]) w fun x hx y hy=>?_;rw[List.mem_singleton.mp hx];obtain⟨j,j1,j2,rfl⟩:=jd hy;exact Int.le_trans (hk (by omega)) (hb _ _ j1 j2)
theorem MW.qJ{a b out:Array Keyed}{ia ib:Nat}(h:ib<b.size)(w:MW K (a.toList++b.toList) out.toList (a.toList.drop ia) (b.toList.drop ib))(ha:uw K a)(hk:ia<a.size->K (it b ib)<=K (it a ia)):MW K (a.toList++b.toList) (out.push (it b ib)).toList (a.toList.drop ia) (b.toList.drop (ib+1)):=by rw[sE h]at w;rw[Array.toList_push];refine MW.Vv (P:=[it b ib]) w fun x hx y hy=>?_;rw[List.mem_singleton.mp hx];obtain⟨j,j1,j2,rfl⟩:=jd hy;exact Int.le_trans (hk (by omega)) (ha _ _ j1 j2)
theorem MW.Em{a b out:Array Keyed}{ia ib k:Nat}(h:ia+k<=a.size)(w:MW K (a.toList++b.toList) out.toList (a.toList.drop ia) (b.toList.drop ib))(hb:uw K b)(hk:∀j,j<k->ib<b.size->K (it a (ia+j))<=K (it b ib)):MW K (a.toList++b.toList) (out++a.extract ia (ia+k)).toList (a.toList.drop (ia+k)) (b.toList.drop ib):=by rw[jX h]at w;rw[Array.toList_append];refine MW.V7 w fun x hx y hy=>?_;obtain⟨i,hi,rfl⟩:=ext_mem h hx;obtain⟨j,j1,j2,rfl⟩:=jd hy;exact Int.le_trans (hk i hi (by omega)) (hb _ _ j1 j2)
theorem MW.Fq{a b out:Array Keyed}{ia ib k:Nat}(h:ib+k<=b.size)(w:MW K (a.toList++b.toList) out.toList (a.toList.drop ia) (b.toList.drop ib))(ha:uw K a)(hk:∀j,j<k->ia<a.size->K (it b (ib+j))<=K (it a ia)):MW K (a.toList++b.toList) (out++b.extract ib (ib+k)).toList (a.toList.drop ia) (b.toList.drop (ib+k)):=by rw[jX h]at w;rw[Array.toList_append];refine MW.Vv w fun x hx y hy=>?_;obtain⟨i,hi,rfl⟩:=ext_mem h hx;obtain⟨j,j1,j2,rfl⟩:=jd hy;exact Int.le_trans (hk i hi (by omega)) (ha _ _ j1 j2)
theorem tQ{l:Bool}{k:Keyed}{a:Array Keyed}{b n:Nat}(h:uw K a)(hn:b+n<=a.size):Kh K l k a b n:=fun i j hij hj c=>by have:=h (b+i) (b+j) (by omega) (by omega);unfold bb at*;cases l with|true=>simp only[if_true,decide_eq_true_eq]at*;omega|false=>simp only[Bool.false_eq_true,if_false,Bool.not_eq_true',decide_eq_false_iff_not]at*;omega
end
end HH
end
section
namespace HH
open PySem PyProof.Rows
section
variable{M:Model}{A:Around}{E:Value->Shared->Prop}{s:Shared}{κ:SortKind}{ok:Keyed->Prop}{K:Keyed->Int}
theorem Ft{α γ:Type}{T:PUnit->α->SM γ}{c:Prop}{d:Decidable c}{x y:α}{Q:γ->SortSt->Prop}{st:SortSt}(h:∀r u,wpS M A E s (T r u) Q st):wpS M A E s (@ite _ c d (T ⟨⟩ x) (T ⟨⟩ y)) Q st:=by split<;>exact h _ _
theorem nZ{α β γ:Type}{T:PUnit->α->β->SM γ}{c:Prop}{d:Decidable c}{B:SM γ}{x:α}{y:β}{Q:γ->SortSt->Prop}{st:SortSt}(C:α->β->Prop)(h:∀r u v,C u v->wpS M A E s (T r u v) Q st)(hB:c->(∀r u v,C u v->wpS M A E s (T r u v) Q st)->wpS M A E s B Q st)(hx:¬ c->C x y):wpS M A E s (@ite _ c d B (T ⟨⟩ x y)) Q st:=by
 split;.exact hB ‹_› h
 .exact h _ _ _ (hx ‹_›)
noncomputable abbrev MQ{γ:Type}(K:Keyed->Int)(a b:Array Keyed)(st:SortSt)(c:Option (Array Keyed)×γ)(st':SortSt):Prop:=qd st st'/\∃out,c.1=some out/\Fin K a b out
noncomputable abbrev MI1(K:Keyed->Int)(a b:Array Keyed)(st:SortSt)(x:Nat)(c:Option (Array Keyed)×Array Keyed×Nat×Nat×Nat)(st':SortSt):Prop:=qd st st'/\∃out ia ib mg,c=(none,out,ia,ib,mg)/\MI K a b out ia ib/\x+1<=ia+ib
noncomputable abbrev MI2(K:Keyed->Int)(a b:Array Keyed)(st:SortSt)(n y:Nat)(c:Option (Array Keyed)×Array Keyed×Nat×Nat×Nat×Nat)(st':SortSt):Prop:=qd st st'/\∃out jF il ac bc,c=(none,out,jF,il,ac,bc)/\MI K a b out jF il/\n+y<=jF+il
noncomputable abbrev MI3(K:Keyed->Int)(a b:Array Keyed)(st:SortSt)(n:Nat)(c:Option (Array Keyed)×Array Keyed×Nat×Nat×Nat×Nat×Nat)(st':SortSt):Prop:=qd st st'/\∃out jF il mg ac bc,c=(none,out,jF,il,mg,ac,bc)/\MI K a b out jF il/\n+1<=jF+il
noncomputable abbrev MQ2(K:Keyed->Int)(a b:Array Keyed)(st:SortSt)(n:Nat)(c:Option (Array Keyed)×Array Keyed×Nat×Nat×Nat×Nat)(st':SortSt):Prop:=qd st st'/\((∃out,c.1=some out/\Fin K a b out)\/∃out jF il ac bc,c=(none,out,jF,il,ac,bc)/\MI K a b out jF il/\n+1<=jF+il)
noncomputable abbrev MQ3(K:Keyed->Int)(a b:Array Keyed)(st:SortSt)(n:Nat)(c:Option (Array Keyed)×Array Keyed×Nat×Nat×Nat×Nat×Nat)(st':SortSt):Prop:=qd st st'/\((∃out,c.1=some out/\Fin K a b out)\/∃out jF il mg ac bc,c=(none,out,jF,il,mg,ac,bc)/\MI K a b out jF il/\n+1<=jF+il)
set_option maxHeartbeats 1000000 in
theorem PJ(R:Rk M A E s κ ok K){a b:Array Keyed}{Q:Array Keyed->SortSt->Prop}{st:SortSt}(ha:∀x∈a.toList,ok x)(hb:∀x∈b.toList,ok x)(hs:kindOf st=κ)(ua:uw K a)(ub:uw K b)(a1:1<=a.size)(b1:1<=b.size)(h0:K (it b 0)<=K (it a 0))(hl:∀i,i<b.size->K (it b i)<=K (it a (a.size-1)))(q:∀out st',Fin K a b out->qd st st'->Q out st'):wpS M A E s (mlo a b) Q st:=by
 show wpS M A E s (liftM (rule "list.sort.merge-lo")>>=_) Q st;refine wpS_bind (wp_rule ?_);extract_lets+onlyGivenNames-merge-underBinder x0 x1 x2;refine wpS_bind (bC (by omega) ?_);extract_lets+onlyGivenNames-merge-underBinder x3 x4 x5;dsimp-zeta-zetaHave only[x0,x1,x2,x3,x4,x5];have w0:MW K (a.toList++b.toList) (#[]:Array Keyed).toList (a.toList.drop 0) (b.toList.drop 0):=⟨by simp,by simpa using pN ua,by simpa using pN ub⟩;have w1:=w0.qJ (by omega) ua (fun _=>h0);rw[show(#[]:Array Keyed).push (it b 0)=#[it b 0]from rfl]at w1;by_cases c1:1=b.size;.rw[if_pos (by simpa using c1)];exact wpS_pure (q _ _ (ju c1 w1) (.refl _))
 rw[if_neg (by simpa using c1)];by_cases c2:0+1=a.size;.rw[if_pos (by simpa using c2)];exact wpS_pure (q _ _ (kI c2 hl w1) (.refl _))
 rw[if_neg (by simpa using c2)];refine wpS_bind (wpS_get ?_);extract_lets+onlyGivenNames-merge-underBinder x6;refine wpS_bind (wpS_mono (wpS_forRange (I:=MI1 K a b st) (Q:=MQ K a b st) ?_ ?_ ⟨.refl _,_,0,1,_,rfl,⟨by omega,by omega,w1⟩,by omega⟩) ?_)
 . rintro x c st1 _ hx⟨s1,out,ia,ib,mg,rfl,mi,hp⟩;extract_lets+onlyGivenNames-merge-underBinder y0 y1 y2 y3 y4 y5 y6 y7 y8;dsimp-zeta-zetaHave only[x0,x1,x2,x3,x4,x5,y0,y1,y2,y3,y4,y5,y6,y7,y8];refine wpS_bind (wpS_mono (wpS_forRange (I:=MI2 K a b st (ia+ib)) (Q:=MQ2 K a b st (ia+ib)) ?_ ?_ ⟨s1,out,ia,ib,0,0,rfl,mi,by omega⟩) ?_)
   . rintro y c st2 _ hy⟨s2,out,jF,il,ac,bc,rfl,mi,hp'⟩;have i1:=mi.i1;have i2:=mi.i2;try dsimp only
     refine wpS_bind (bC i2 (wpS_bind (bC (by omega) (wpS_bind (R.lt (hb _ (dI i2)) (ha _ (dI (by omega))) (s2.kind.trans hs) ?_)))));by_cases c:K (it b il)<K (it a jF)
     . rw[decide_eq_true c];try dsimp only
       rw[if_pos rfl];refine wpS_bind (bC i2 ?_);try dsimp only
       have w:=mi.w.qJ i2 ua (fun _=>by omega);by_cases e:il+1=b.size;.rw[if_pos (by simpa using e)];exact wpS_pure ⟨s2,.inl ⟨_,rfl,ju e w⟩⟩
       . rw[if_neg (by simpa using e)];have wI:MI K a b (out.push (it b il)) jF (il+1):=⟨i1,by omega,w⟩;split;.exact wpS_pure ⟨s2,.inr ⟨_,_,_,_,_,rfl,wI,by omega⟩⟩
         .exact wpS_pure ⟨s2,_,_,_,_,_,rfl,wI,by omega⟩
     . rw[decide_eq_false c];try dsimp only
       rw[if_neg (by simp)];refine wpS_bind (bC (by omega) ?_);try dsimp only
       have w:=mi.w.rH (by omega) ub (fun _=>by omega);by_cases e:jF+1+1=a.size;.rw[if_pos (by simpa using e)];exact wpS_pure ⟨s2,.inl ⟨_,rfl,kI e hl w⟩⟩
       . rw[if_neg (by simpa using e)];have wI:MI K a b (out.push (it a jF)) (jF+1) il:=⟨by omega,i2,w⟩;split;.exact wpS_pure ⟨s2,.inr ⟨_,_,_,_,_,rfl,wI,by omega⟩⟩
         .exact wpS_pure ⟨s2,_,_,_,_,_,rfl,wI,by omega⟩
   .rintro c st2⟨s2,out,jF,il,ac,bc,rfl,mi,hp'⟩;exact⟨s2,.inr ⟨_,_,_,_,_,rfl,mi,by omega⟩⟩
   . rintro c st2⟨s2,⟨out,hc,hf⟩|⟨out,jF,il,ac,bc,rfl,mi,hp'⟩⟩;.obtain⟨c1,c2,c3,c4,c5,c6⟩:=c;cases hc;exact wpS_pure ⟨s2,out,rfl,hf⟩
     . extract_lets+onlyGivenNames-merge-underBinder z0 z1 z2 z3 z4 z5 z6 z7 z8 z9;dsimp-zeta-zetaHave only[z0,z1,z2,z3,z4,z5,z6,z7,z8,z9];refine wpS_bind (wp_rule ?_);extract_lets+onlyGivenNames-merge-underBinder za;refine wpS_bind (wpS_mono (wpS_forRange (I:=fun _=>MI3 K a b st (ia+ib)) (Q:=MQ3 K a b st (ia+ib)) ?_ ?_ ⟨s2,out,jF,il,_,ac,bc,rfl,mi,by omega⟩) ?_)
       . rintro y c st3 _ hy⟨s3,out,jF,il,mg,ac,bc,rfl,mi,hp'⟩;have i1:=mi.i1;have i2:=mi.i2;extract_lets+onlyGivenNames-merge-underBinder t0 t1 t2 t3 t4 t5 t6 t7 t8 t9 ta jp;dsimp only[t0,t1,t2,t3,t4,t5,t6,t7,t8,t9,ta];refine Ft (T:=jp) ?_;intro _ mg;dsimp-zeta-zetaHave only[jp,t0,t1,t2,t3,t4,t5,t6,t7,t8,t9,ta];refine wpS_bind (oE fun HF Rg=>?_);have s4:=s3.trans Rg;refine wpS_bind (bC i2 ?_);refine wpS_bind (mC R (hb _ (dI i2)) ha (by omega) (by omega) (s4.kind.trans hs) (tQ ua (by omega)) fun k k1 k2 k3=>?_);have k2':∀j,j<k->K (it a (jF+j))<=K (it b il):=fun j hj=>by have:=k2 j hj;simp[bb]at this;omega
         have Tv:∀j,k<=j->j<a.size-jF->K (it b il)<=K (it a (jF+j)):=fun j h1 h2=>by have:=k3 j h1 h2;simp[bb]at this;omega
         try dsimp-zeta-zetaHave only
         extract_lets+onlyGivenNames-merge-underBinder u0 jp2;dsimp only[u0];refine nZ (T:=jp2) (x:=out) (y:=jF) (fun yw Cu=>(jF<=Cu/\Cu+1<a.size)/\MW K (a.toList++b.toList) yw.toList (a.toList.drop Cu) (b.toList.drop il)/\K (it b il)<=K (it a Cu)) ?_ (fun c key=>?_) (fun c=>⟨⟨Nat.le_refl _,i1⟩,mi.w,Tv 0 (by omega) (by omega)⟩)
         . rintro _ yw Cu⟨⟨j0,j1⟩,w,k4⟩;dsimp-zeta-zetaHave only[jp2,u0];refine wpS_bind (bC i2 ?_);have w2:=w.qJ i2 ua fun _=>k4;extract_lets+onlyGivenNames-merge-underBinder v0 v1;dsimp-zeta-zetaHave only[v0,v1];by_cases e3:il+1=b.size;.rw[if_pos (by simpa using e3)];exact wpS_pure ⟨s4,.inl ⟨_,rfl,ju e3 w2⟩⟩
           rw[if_neg (by simpa using e3)];have j3:il+1<b.size:=by omega
           refine wpS_bind (bC (by omega) ?_);refine wpS_bind (mC R (ha _ (dI (by omega))) hb (by omega) (by omega) (s4.kind.trans hs) (tQ ub (by omega)) fun m m1 m2 m3=>?_);have m2':∀j,j<m->K (it b (il+1+j))<=K (it a Cu):=fun j hj=>by have:=m2 j hj;simp[bb]at this;omega
           have m3':∀j,m<=j->j<b.size-(il+1)->K (it a Cu)<=K (it b (il+1+j)):=fun j h1 h2=>by have:=m3 j h1 h2;simp[bb]at this;omega
           try dsimp-zeta-zetaHave only
           extract_lets+onlyGivenNames-merge-underBinder v2 W6;dsimp only[v2];refine nZ (T:=W6) (x:=yw.push (it b il)) (y:=il+1) (fun yx Tw=>(il+1<=Tw/\Tw<b.size)/\MW K (a.toList++b.toList) yx.toList (a.toList.drop Cu) (b.toList.drop Tw)/\K (it a Cu)<=K (it b Tw)) ?_ (fun c key=>?_) (fun c=>⟨⟨Nat.le_refl _,j3⟩,w2,m3' 0 (by omega) (by omega)⟩)
           . rintro _ yx Tw⟨⟨j4,j2⟩,w3,m4⟩;dsimp only[W6,v2];refine wpS_bind (bC (by omega) ?_);have w4:=w3.rH (by omega) ub fun _=>m4;try dsimp only
             by_cases e5:Cu+1+1=a.size;.rw[if_pos (by simpa using e5)];exact wpS_pure ⟨s4,.inl ⟨_,rfl,kI e5 hl w4⟩⟩
             rw[if_neg (by simpa using e5)];have wI:MI K a b (yx.push (it a Cu)) (Cu+1) Tw:=⟨by omega,j2,w4⟩;split;.exact wpS_pure ⟨s4,.inr ⟨_,_,_,_,_,_,rfl,wI,by omega⟩⟩
             .exact wpS_pure ⟨s4,_,_,_,_,_,_,rfl,wI,by omega⟩
           . have w3:=w2.Fq (k:=m) (by omega) ua fun j hj _=>m2' j hj;by_cases e4:il+1+m=b.size;.rw[if_pos (by simpa using e4)];exact wpS_pure ⟨s4,.inl ⟨_,rfl,ju e4 w3⟩⟩
             rw[if_neg (by simpa using e4)];exact key ⟨⟩ _ _ ⟨⟨by omega,by omega⟩,w3,m3' m (Nat.le_refl _) (by omega)⟩
         . have w:=mi.w.Em (k:=k) (by omega) ub fun j hj _=>k2' j hj;by_cases e1:jF+k+1=a.size;.rw[if_pos (by simpa using e1)];exact wpS_pure ⟨s4,.inl ⟨_,rfl,kI e1 hl w⟩⟩
           rw[if_neg (by simpa using e1)];by_cases e2:jF+k=a.size;.rw[if_pos (by simpa using e2)];exact wpS_pure ⟨s4,.inl ⟨_,rfl,Bx e2 w⟩⟩
           rw[if_neg (by simpa using e2)];exact key ⟨⟩ _ _ ⟨⟨by omega,by omega⟩,w,Tv k (Nat.le_refl _) (by omega)⟩
       .rintro c st3⟨s3,out,jF,il,mg,ac,bc,rfl,mi,hp'⟩;exact⟨s3,.inr ⟨_,_,_,_,_,_,rfl,mi,hp'⟩⟩
       . rintro c st3⟨s3,⟨out,hc,hf⟩|⟨out,jF,il,mg,ac,bc,rfl,mi,hp'⟩⟩;.obtain⟨c1,c2,c3,c4,c5,c6,c7⟩:=c;cases hc;exact wpS_pure ⟨s3,out,rfl,hf⟩
         . try dsimp only
           exact wpS_bind (oE fun HF Rg=>wpS_pure ⟨s3.trans Rg,_,_,_,_,rfl,mi,by omega⟩)
 .rintro c st1⟨s1,out,ia,ib,mg,rfl,mi,hp⟩;have:=mi.i1;have:=mi.i2;omega
 .rintro c st1⟨s1,out,hc,hf⟩;obtain⟨c1,c2,c3,c4,c5⟩:=c;cases hc;exact wpS_pure (q _ _ hf s1)
end
end HH
end
section
namespace HH
open PySem PyProof.Rows
section
variable{K:Keyed->Int}{T A B S P:List Keyed}{z:Keyed}
structure MH(K:Keyed->Int)(T A B S:List Keyed):Prop where
 perm:(A++(B++S)).Perm T
 sa:SL K (A++S)sb:SL K (B++S)
theorem MH.V7(w:MH K T (A++P) B S)(h:∀x∈P,∀y∈B,K y<=K x):MH K T A B (P++S):=by
 have h1:=cN.mp w.sb;have h2:=cN.mp (show SL K (A++(P++S))by simpa using w.sa);refine⟨?_,by simpa using w.sa,cN.mpr ⟨h1.1,h2.2.1,fun x hx y hy=>?_⟩⟩;.refine List.Perm.trans ?_ w.perm;rw[List.append_assoc];refine List.Perm.append_left A ?_;rw[<-List.append_assoc,<-List.append_assoc];exact List.perm_append_comm.append_right S
 . rcases List.mem_append.mp hy with hy|hy;.exact h y hy x hx
   .exact h1.2.2 x hx y hy
theorem MH.Vv(w:MH K T A (B++P) S)(h:∀x∈P,∀y∈A,K y<=K x):MH K T A B (P++S):=by
 have h1:=cN.mp w.sa;have h2:=cN.mp (show SL K (B++(P++S))by simpa using w.sb);refine⟨by simpa using w.perm,cN.mpr ⟨h1.1,h2.2.1,fun x hx y hy=>?_⟩,by simpa using w.sb⟩;rcases List.mem_append.mp hy with hy|hy;.exact h y hy x hx
 .exact h1.2.2 x hx y hy
theorem MH.first(w:MH K T A [z] S)(h:∀x∈A,K z<=K x):([z]++A++S).Perm T/\SL K ([z]++A++S):=by
 refine⟨?_,?_⟩;.refine List.Perm.trans ?_ w.perm;rw[<-List.append_assoc];exact List.perm_append_comm.append_right S
 . rw[List.append_assoc];refine cN.mpr ⟨List.pairwise_singleton _ _,w.sa,fun x hx y hy=>?_⟩;rw[List.mem_singleton.mp hx];rcases List.mem_append.mp hy with hy|hy;.exact h y hy
   .exact(cN.mp w.sb).2.2 z (by simp) y hy
theorem gP{a:Array Keyed}{n:Nat}(h:n<=a.size):(a.extract 0 n).toList=a.toList.take n:=by rw[je h];simp
theorem iz{a:Array Keyed}{i n:Nat}(hi:i<=n)(h:n<=a.size):a.toList.take n=a.toList.take i++(a.extract i n).toList:=by
 rw[je h];have e:n=i+(n-i):=by omega
 conv=>lhs;rw[e,List.take_add]
theorem sH{a:Array Keyed}{n:Nat}(h0:1<=n)(h:n<=a.size):a.toList.take n=a.toList.take (n-1)++[it a (n-1)]:=by
 have e:it a (n-1)=a.toList[n-1]'(by simp;omega):=by unfold it;simp[Array.getD,show n-1<a.size by omega]
 have e2:n=(n-1)+1:=by omega
 conv=>lhs;rw[e2]
 rw[List.take_succ_eq_append_getElem (by simp;omega),e]
theorem jf{a:Array Keyed}{n:Nat}{x:Keyed}(h:n<=a.size)(hx:x∈a.toList.take n):∃j,j<n/\x=it a j:=by obtain⟨j,hj,e⟩:=List.mem_iff_getElem.mp hx;simp only[List.length_take,Array.length_toList]at hj;refine⟨j,by omega,?_⟩;rw[<-e];unfold it;simp[Array.getD,show j<a.size by omega]
theorem pC{a:Array Keyed}{i n:Nat}{x:Keyed}(hi:i<=n)(h:n<=a.size)(hx:x∈(a.extract i n).toList):∃j,i<=j/\j<n/\x=it a j:=by obtain⟨j,hj,e⟩:=ext_mem (a:=a) (i:=i) (k:=n-i) (by omega) (by rw[show i+(n-i)=n by omega];exact hx);exact⟨i+j,by omega,by omega,e⟩
end
section
variable{M:Model}{A:Around}{E:Value->Shared->Prop}{s:Shared}{κ:SortKind}{ok:Keyed->Prop}{K:Keyed->Int}
noncomputable def mhi:Array Keyed->Array Keyed->SM (Array Keyed):=sortPriv%PySem.Builtin.mergeHi
noncomputable abbrev MV(K:Keyed->Int)(a b out:Array Keyed)(na nb:Nat):Prop:=MH K (a.toList++b.toList) (a.toList.take na) (b.toList.take nb) out.toList.reverse
structure MJ(K:Keyed->Int)(a b out:Array Keyed)(na nb:Nat):Prop where
 i1:1<=na
 i2:2<=nb
 i3:na<=a.size
 i4:nb<=b.size
 w:MV K a b out na nb
theorem jl{out:Array Keyed}:out.reverse.toList=out.toList.reverse:=Array.toList_reverse
theorem sJ{a b out:Array Keyed}{na nb:Nat}(h:na=0)(hb:nb<=b.size)(w:MV K a b out na nb):Fin K a b (a.extract 0 na++b.extract 0 nb++out.reverse):=by
 subst h;have e:(a.extract 0 0++b.extract 0 nb++out.reverse).toList=b.toList.take nb++out.toList.reverse:=by rw[Array.toList_append,Array.toList_append,gP (Nat.zero_le _),gP hb,jl];simp
 exact⟨by rw[e];simpa using w.perm,by rw[e];exact w.sb⟩
theorem N8{a b out:Array Keyed}{na nb:Nat}(h:nb=0)(ha:na<=a.size)(w:MV K a b out na nb):Fin K a b (a.extract 0 na++b.extract 0 nb++out.reverse):=by
 subst h;have e:(a.extract 0 na++b.extract 0 0++out.reverse).toList=a.toList.take na++out.toList.reverse:=by rw[Array.toList_append,Array.toList_append,gP (Nat.zero_le _),gP ha,jl];simp
 exact⟨by rw[e];simpa using w.perm,by rw[e];exact w.sa⟩
theorem jC{a b out:Array Keyed}{na nb:Nat}(h:nb=1)(ha:na<=a.size)(hb:nb<=b.size)(ua:uw K a)(h0:K (it b 0)<=K (it a 0))(w:MV K a b out na nb):Fin K a b (b.extract 0 nb++a.extract 0 na++out.reverse):=by
 subst h;have e1:b.toList.take 1=[it b 0]:=by rw[sH (Nat.le_refl 1) hb];simp
 have e:(b.extract 0 1++a.extract 0 na++out.reverse).toList=[it b 0]++a.toList.take na++out.toList.reverse:=by rw[Array.toList_append,Array.toList_append,gP hb,gP ha,jl,e1]
 have w':=w;unfold MV at w';rw[e1]at w';obtain⟨h1,h2⟩:=w'.first fun x hx=>by obtain⟨j,hj,rfl⟩:=jf ha hx;exact Int.le_trans h0 (ua 0 j (by omega) (by omega))
 exact⟨by rw[e];exact h1,by rw[e];exact h2⟩
theorem MH.rH{a b out:Array Keyed}{na nb:Nat}(h:1<=na)(ha:na<=a.size)(hb:nb<=b.size)(w:MV K a b out na nb)(ub:uw K b)(hk:1<=nb->K (it b (nb-1))<=K (it a (na-1))):MV K a b (out.push (it a (na-1))) (na-1) nb:=by unfold MV at*;rw[sH h ha]at w;rw[Array.toList_push,List.reverse_append];refine MH.V7 (P:=[it a (na-1)]) w fun x hx y hy=>?_;rw[List.mem_singleton.mp hx];obtain⟨j,hj,rfl⟩:=jf hb hy;exact Int.le_trans (ub j (nb-1) (by omega) (by omega)) (hk (by omega))
theorem MH.qJ{a b out:Array Keyed}{na nb:Nat}(h:1<=nb)(ha:na<=a.size)(hb:nb<=b.size)(w:MV K a b out na nb)(ua:uw K a)(hk:1<=na->K (it a (na-1))<=K (it b (nb-1))):MV K a b (out.push (it b (nb-1))) na (nb-1):=by unfold MV at*;rw[sH h hb]at w;rw[Array.toList_push,List.reverse_append];refine MH.Vv (P:=[it b (nb-1)]) w fun x hx y hy=>?_;rw[List.mem_singleton.mp hx];obtain⟨j,hj,rfl⟩:=jf ha hy;exact Int.le_trans (ua j (na-1) (by omega) (by omega)) (hk (by omega))
theorem MH.Em{a b out:Array Keyed}{na nb i:Nat}(h:i<=na)(ha:na<=a.size)(hb:nb<=b.size)(w:MV K a b out na nb)(ub:uw K b)(hk:∀j,i<=j->j<na->1<=nb->K (it b (nb-1))<=K (it a j)):MV K a b (out++(a.extract i na).reverse) i nb:=by unfold MV at*;rw[iz h ha]at w;rw[Array.toList_append,List.reverse_append,jl,List.reverse_reverse];refine MH.V7 w fun x hx y hy=>?_;obtain⟨j,j1,j2,rfl⟩:=pC h ha hx;obtain⟨l,hl,rfl⟩:=jf hb hy;exact Int.le_trans (ub l (nb-1) (by omega) (by omega)) (hk j j1 j2 (by omega))
theorem MH.Fq{a b out:Array Keyed}{na nb i:Nat}(h:i<=nb)(ha:na<=a.size)(hb:nb<=b.size)(w:MV K a b out na nb)(ua:uw K a)(hk:∀j,i<=j->j<nb->1<=na->K (it a (na-1))<=K (it b j)):MV K a b (out++(b.extract i nb).reverse) na i:=by unfold MV at*;rw[iz h hb]at w;rw[Array.toList_append,List.reverse_append,jl,List.reverse_reverse];refine MH.Vv w fun x hx y hy=>?_;obtain⟨j,j1,j2,rfl⟩:=pC h hb hx;obtain⟨l,hl,rfl⟩:=jf ha hy;exact Int.le_trans (ua l (na-1) (by omega) (by omega)) (hk j j1 j2 (by omega))
set_option maxHeartbeats 1000000 in
theorem QC(R:Rk M A E s κ ok K){a b:Array Keyed}{Q:Array Keyed->SortSt->Prop}{st:SortSt}(ha:∀x∈a.toList,ok x)(hb:∀x∈b.toList,ok x)(hs:kindOf st=κ)(ua:uw K a)(ub:uw K b)(a1:1<=a.size)(b1:1<=b.size)(h0:K (it b 0)<=K (it a 0))(hl:∀i,i<b.size->K (it b i)<=K (it a (a.size-1)))(q:∀out st',Fin K a b out->qd st st'->Q out st'):wpS M A E s (mhi a b) Q st:=by
 show wpS M A E s (liftM (rule "list.sort.merge-hi")>>=_) Q st;refine wpS_bind (wp_rule ?_);extract_lets+onlyGivenNames-merge-underBinder x0 x1 x2 x3 x4;refine wpS_bind (bC (by omega) ?_);extract_lets+onlyGivenNames-merge-underBinder x5;dsimp-zeta-zetaHave only[x0,x1,x2,x3,x4,x5];have ta:∀c:Array Keyed,c.toList.take c.size=c.toList:=fun c=>List.take_of_length_le (by simp);have w0:MV K a b #[] a.size b.size:=by unfold MV;rw[ta,ta];exact⟨by simp,by simpa using pN ua,by simpa using pN ub⟩
 have w1:=MH.rH a1 (Nat.le_refl _) (Nat.le_refl _) w0 ub (fun _=>hl _ (by omega));rw[show(#[]:Array Keyed).push (it a (a.size-1))=#[it a (a.size-1)]from rfl]at w1;by_cases c1:a.size-1=0;.rw[if_pos (by simpa using c1)];exact wpS_pure (q _ _ (sJ c1 (Nat.le_refl _) w1) (.refl _))
 rw[if_neg (by simpa using c1)];by_cases c2:b.size=1;.rw[if_pos (by simpa using c2)];exact wpS_pure (q _ _ (jC c2 (by omega) (Nat.le_refl _) ua h0 w1) (.refl _))
 rw[if_neg (by simpa using c2)];refine wpS_bind (wpS_get ?_);extract_lets+onlyGivenNames-merge-underBinder x6;refine wpS_bind (wpS_mono (wpS_forRange (I:=fun x c st'=>qd st st'/\∃na nb out mg,c=(none,na,nb,out,mg)/\MJ K a b out na nb/\x+1+na+nb<=a.size+b.size) (Q:=fun c st'=>qd st st'/\∃out,c.1=some out/\Fin K a b out) ?_ ?_ ⟨.refl _,_,_,_,_,rfl,⟨by omega,by omega,by omega,Nat.le_refl _,w1⟩,by omega⟩) ?_)
 . rintro x c st1 _ hx⟨s1,na,nb,out,mg,rfl,mi,hp⟩;extract_lets+onlyGivenNames-merge-underBinder y0 y1 y2 y3 y4 y5 y6 y7 y8;dsimp-zeta-zetaHave only[x0,x1,x2,x3,x4,x5,y0,y1,y2,y3,y4,y5,y6,y7,y8];refine wpS_bind (wpS_mono (wpS_forRange (I:=fun y c st'=>qd st st'/\∃j8 iU out ac bc,c=(none,j8,iU,out,ac,bc)/\MJ K a b out j8 iU/\j8+iU+y<=na+nb) (Q:=fun c st'=>qd st st'/\((∃out,c.1=some out/\Fin K a b out)\/∃j8 iU out ac bc,c=(none,j8,iU,out,ac,bc)/\MJ K a b out j8 iU/\j8+iU+1<=na+nb)) ?_ ?_ ⟨s1,na,nb,out,0,0,rfl,mi,by omega⟩) ?_)
   . rintro y c st2 _ hy⟨s2,j8,iU,out,ac,bc,rfl,mi,hp'⟩;obtain⟨i1,i2,i3,i4,w⟩:=mi;try dsimp only
     refine wpS_bind (bC (by omega) (wpS_bind (bC (by omega) (wpS_bind (R.lt (hb _ (dI (by omega))) (ha _ (dI (by omega))) (s2.kind.trans hs) ?_)))));by_cases c:K (it b (iU-1))<K (it a (j8-1))
     . rw[decide_eq_true c];try dsimp only
       rw[if_pos rfl];refine wpS_bind (bC (by omega) ?_);try dsimp only
       have w':=MH.rH i1 i3 i4 w ub (fun _=>by omega);by_cases e:j8-1=0;.rw[if_pos (by simpa using e)];exact wpS_pure ⟨s2,.inl ⟨_,rfl,sJ e i4 w'⟩⟩
       . rw[if_neg (by simpa using e)];have wI:MJ K a b (out.push (it a (j8-1))) (j8-1) iU:=⟨by omega,i2,by omega,i4,w'⟩;split;.exact wpS_pure ⟨s2,.inr ⟨_,_,_,_,_,rfl,wI,by omega⟩⟩
         .exact wpS_pure ⟨s2,_,_,_,_,_,rfl,wI,by omega⟩
     . rw[decide_eq_false c];try dsimp only
       rw[if_neg (by simp)];refine wpS_bind (bC (by omega) ?_);try dsimp only
       have w':=MH.qJ (by omega) i3 i4 w ua (fun _=>by omega);by_cases e:iU-1=1;.rw[if_pos (by simpa using e)];exact wpS_pure ⟨s2,.inl ⟨_,rfl,jC e i3 (by omega) ua h0 w'⟩⟩
       . rw[if_neg (by simpa using e)];have wI:MJ K a b (out.push (it b (iU-1))) j8 (iU-1):=⟨i1,by omega,i3,by omega,w'⟩;split;.exact wpS_pure ⟨s2,.inr ⟨_,_,_,_,_,rfl,wI,by omega⟩⟩
         .exact wpS_pure ⟨s2,_,_,_,_,_,rfl,wI,by omega⟩
   .rintro c st2⟨s2,j8,iU,out,ac,bc,rfl,mi,hp'⟩;exact⟨s2,.inr ⟨_,_,_,_,_,rfl,mi,by omega⟩⟩
   . rintro c st2⟨s2,⟨out,hc,hf⟩|⟨j8,iU,out,ac,bc,rfl,mi,hp'⟩⟩;.obtain⟨c1,c2,c3,c4,c5,c6⟩:=c;cases hc;exact wpS_pure ⟨s2,out,rfl,hf⟩
     . extract_lets+onlyGivenNames-merge-underBinder z0 z1 z2 z3 z4 z5 z6 z7 z8 z9;dsimp-zeta-zetaHave only[z0,z1,z2,z3,z4,z5,z6,z7,z8,z9];refine wpS_bind (wp_rule ?_);extract_lets+onlyGivenNames-merge-underBinder za;refine wpS_bind (wpS_mono (wpS_forRange (I:=fun y c st'=>qd st st'/\∃j8 iU out mg ac bc,c=(none,j8,iU,out,mg,ac,bc)/\MJ K a b out j8 iU/\j8+iU+1<=na+nb) (Q:=fun c st'=>qd st st'/\((∃out,c.1=some out/\Fin K a b out)\/∃j8 iU out mg ac bc,c=(none,j8,iU,out,mg,ac,bc)/\MJ K a b out j8 iU/\j8+iU+1<=na+nb)) ?_ ?_ ⟨s2,j8,iU,out,_,ac,bc,rfl,mi,by omega⟩) ?_)
       . rintro y c st3 _ hy⟨s3,j8,iU,out,mg,ac,bc,rfl,mi,hp'⟩;obtain⟨i1,i2,i3,i4,w⟩:=mi;extract_lets+onlyGivenNames-merge-underBinder t0 t1 t2 t3 t4 t5 t6 t7 t8 t9 ta jp;dsimp only[t0,t1,t2,t3,t4,t5,t6,t7,t8,t9,ta];refine Ft (T:=jp) ?_;intro _ mg;dsimp-zeta-zetaHave only[jp,t0,t1,t2,t3,t4,t5,t6,t7,t8,t9,ta];refine wpS_bind (oE fun HF Rg=>?_);have s4:=s3.trans Rg;refine wpS_bind (bC (by omega) ?_);refine wpS_bind (mC R (hb _ (dI (by omega))) ha (by omega) (by omega) (s4.kind.trans hs) (tQ ua (by omega)) fun k k1 k2 k3=>?_);have k2':∀j,j<k->K (it a j)<=K (it b (iU-1)):=fun j hj=>by have:=k2 j hj;simp[bb]at this;omega
         have Tv:∀j,k<=j->j<j8->K (it b (iU-1))<=K (it a j):=fun j h1 h2=>by have:=k3 j h1 h2;simp[bb]at this;omega
         try dsimp-zeta-zetaHave only
         extract_lets+onlyGivenNames-merge-underBinder u0 u1 jp2;dsimp only[u0,u1];refine nZ (T:=jp2) (x:=j8) (y:=out) (fun n1 yw=>(1<=n1/\n1<=j8)/\MV K a b yw n1 iU/\K (it a (n1-1))<=K (it b (iU-1))) ?_ (fun c key=>?_) (fun c=>⟨⟨i1,Nat.le_refl _⟩,w,k2' _ (by omega)⟩)
         . rintro _ n1 yw⟨⟨j1,j0⟩,w1,k4⟩;dsimp-zeta-zetaHave only[jp2,u0,u1];extract_lets+onlyGivenNames-merge-underBinder v0;refine wpS_bind (bC (by dsimp only[v0];omega) ?_);have w2:=MH.qJ (by omega) (by omega) i4 w1 ua (fun _=>k4);extract_lets+onlyGivenNames-merge-underBinder v1;dsimp-zeta-zetaHave only[v0,v1];by_cases e3:iU-1=1;.rw[if_pos (by simpa using e3)];exact wpS_pure ⟨s4,.inl ⟨_,rfl,jC e3 (by omega) (by omega) ua h0 w2⟩⟩
           rw[if_neg (by simpa using e3)];refine wpS_bind (bC (by omega) ?_);refine wpS_bind (mC R (ha _ (dI (by omega))) hb (by omega) (by omega) (s4.kind.trans hs) (tQ ub (by omega)) fun m m1 m2 m3=>?_);have m2':∀j,j<m->K (it b j)<=K (it a (n1-1)):=fun j hj=>by have:=m2 j hj;simp[bb]at this;omega
           have m3':∀j,m<=j->j<iU-1->K (it a (n1-1))<=K (it b j):=fun j h1 h2=>by have:=m3 j h1 h2;simp[bb]at this;omega
           try dsimp-zeta-zetaHave only
           extract_lets+onlyGivenNames-merge-underBinder v2 v3 W6;dsimp only[v2,v3];refine nZ (T:=W6) (x:=iU-1) (y:=yw.push (it b (iU-1))) (fun n2 yx=>(2<=n2/\n2<=iU-1)/\MV K a b yx n1 n2/\K (it b (n2-1))<=K (it a (n1-1))) ?_ (fun c key=>?_) (fun c=>⟨⟨by omega,Nat.le_refl _⟩,w2,m2' _ (by omega)⟩)
           . rintro _ n2 yx⟨⟨j2,j3⟩,w3,m4⟩;dsimp only[W6,v2,v3];refine wpS_bind (bC (by omega) ?_);have w4:=MH.rH j1 (by omega) (by omega) w3 ub (fun _=>m4);try dsimp only
             by_cases e6:n1-1=0;.rw[if_pos (by simpa using e6)];exact wpS_pure ⟨s4,.inl ⟨_,rfl,sJ e6 (by omega) w4⟩⟩
             rw[if_neg (by simpa using e6)];have wI:MJ K a b (yx.push (it a (n1-1))) (n1-1) n2:=⟨by omega,j2,by omega,by omega,w4⟩;split;.exact wpS_pure ⟨s4,.inr ⟨_,_,_,_,_,_,rfl,wI,by omega⟩⟩
             .exact wpS_pure ⟨s4,_,_,_,_,_,_,rfl,wI,by omega⟩
           . have w3:=MH.Fq m1 (by omega) (by omega) w2 ua fun j h1 h2 _=>m3' j h1 h2;by_cases e4:m=1;.rw[if_pos (by simpa using e4)];exact wpS_pure ⟨s4,.inl ⟨_,rfl,jC e4 (by omega) (by omega) ua h0 w3⟩⟩
             rw[if_neg (by simpa using e4)];by_cases e5:m=0;.rw[if_pos (by simpa using e5)];exact wpS_pure ⟨s4,.inl ⟨_,rfl,N8 e5 (by omega) w3⟩⟩
             rw[if_neg (by simpa using e5)];exact key ⟨⟩ _ _ ⟨⟨by omega,m1⟩,w3,m2' _ (by omega)⟩
         . have w1:=MH.Em k1 i3 i4 w ub fun j h1 h2 _=>Tv j h1 h2;by_cases e1:k=0;.rw[if_pos (by simpa using e1)];exact wpS_pure ⟨s4,.inl ⟨_,rfl,sJ e1 i4 w1⟩⟩
           rw[if_neg (by simpa using e1)];exact key ⟨⟩ _ _ ⟨⟨by omega,k1⟩,w1,k2' _ (by omega)⟩
       .rintro c st3⟨s3,j8,iU,out,mg,ac,bc,rfl,mi,hp'⟩;exact⟨s3,.inr ⟨_,_,_,_,_,_,rfl,mi,hp'⟩⟩
       . rintro c st3⟨s3,⟨out,hc,hf⟩|⟨j8,iU,out,mg,ac,bc,rfl,mi,hp'⟩⟩;.obtain⟨c1,c2,c3,c4,c5,c6,c7⟩:=c;cases hc;exact wpS_pure ⟨s3,out,rfl,hf⟩
         . try dsimp only
           exact wpS_bind (oE fun HF Rg=>wpS_pure ⟨s3.trans Rg,_,_,_,_,rfl,mi,by omega⟩)
 .rintro c st1⟨s1,na,nb,out,mg,rfl,mi,hp⟩;have:=mi.i1;have:=mi.i2;omega
 .rintro c st1⟨s1,out,hc,hf⟩;obtain⟨c1,c2,c3,c4,c5⟩:=c;cases hc;exact wpS_pure (q _ _ hf s1)
end
end HH
end
section
namespace HH
open PySem PyProof.Rows
section
variable{K:Keyed->Int}
noncomputable def Seg(K:Keyed->Int)(xs:Array Keyed)(lo hi:Nat):Prop:=∀i j,lo<=i->i<=j->j<hi->K (it xs i)<=K (it xs j)
theorem yL{l:Bool}{k:Keyed}{a:Array Keyed}{b n:Nat}(h:Seg K a b (b+n)):Kh K l k a b n:=fun i j hij hj c=>by have:=h (b+i) (b+j) (by omega) (by omega) (by omega);unfold bb at*;cases l with|true=>simp only[if_true,decide_eq_true_eq]at*;omega|false=>simp only[Bool.false_eq_true,if_false,Bool.not_eq_true',decide_eq_false_iff_not]at*;omega
theorem iJ{xs:Array Keyed}{i:Nat}:it xs i=xs.toList.getD i (Value.none,Value.none):=by
 unfold it;by_cases h:i<xs.size;.simp[Array.getD,h]
 .simp[Array.getD,h]
theorem lY{a:Array Keyed}{i n j:Nat}(h:n<=a.size)(hj:j<n-i):it (a.extract i n) j=it a (i+j):=by
 have:j<(a.extract i n).size:=by simp;omega
 have e:(a.extract i n)[j]?=a[i+j]?:=by rw[Array.getElem?_extract,if_pos (by omega)]
 have e1:=tD this;have e2:=tD (show i+j<a.size by omega);rw[e,e2]at e1;injection e1 with e1;exact e1.symm
theorem sO{a:Array Keyed}{i n:Nat}(h:n<=a.size)(hs:Seg K a i n):uw K (a.extract i n):=fun u v huv hv=>by
 have hsz:(a.extract i n).size=n-i:=by simp;omega
 rw[hsz]at hv;rw[lY h (by omega),lY h hv];exact hs _ _ (by omega) (by omega) (by omega)
theorem uH:∀(m:List Keyed)(arr:Array Keyed)(o k:Nat),o+k+m.length<=arr.size->((m.zipIdx k).foldl (fun a x=>match x with|(p,j)=>a.setIfInBounds (o+j) p) arr).toList=arr.toList.take (o+k)++(m++arr.toList.drop (o+k+m.length))
 |[],arr,o,k,h=>by simp|x::m,arr,o,k,h=>by
   have hl:o+k<arr.size:=by simp at h;omega
   rw[List.zipIdx_cons,List.foldl_cons];have ih:=uH m (arr.setIfInBounds (o+k) x) o (k+1) (by simp at h ⊢;omega);rw[ih,Array.toList_setIfInBounds];have e1:(arr.toList.set (o+k) x).take (o+(k+1))=arr.toList.take (o+k)++[x]:=by rw[<-Nat.add_assoc,List.take_succ_eq_append_getElem (by simpa using hl),List.take_set_of_le (Nat.le_refl _)];simp
   have e2:(arr.toList.set (o+k) x).drop (o+(k+1)+m.length)=arr.toList.drop (o+k+(x::m).length):=by rw[List.drop_set_of_lt (by omega)];congr 1;simp;omega
   rw[e1,e2];simp
theorem Fin.mem{a b out:Array Keyed}{z:Keyed}(f:Fin K a b out)(h:z∈out.toList):z∈a.toList\/z∈b.toList:=List.mem_append.mp (f.perm.mem_iff.mp h)
theorem vK{xs:Array Keyed}{P Q S:List Keyed}{lo hi:Nat}(e:xs.toList=P++(Q++S))(hl:P.length=lo)(hh:P.length+Q.length=hi)(h:SL K Q):Seg K xs lo hi:=fun i j h1 h2 h3=>by
 rw[iJ,iJ,e];have gi:∀n,lo<=n->n<hi->(P++(Q++S)).getD n (Value.none,Value.none)=Q.getD (n-lo) (Value.none,Value.none):=fun n n1 n2=>by rw[List.getD_eq_getElem?_getD,List.getD_eq_getElem?_getD,List.getElem?_append_right (by omega),List.getElem?_append_left (by omega),hl]
 rw[gi i h1 (by omega),gi j (by omega) h3];by_cases hij:i=j;.rw[hij];exact Int.le_refl _
 .have:=List.pairwise_iff_getElem.mp h (i-lo) (j-lo) (by omega) (by omega) (by omega);simpa[List.getD_eq_getElem?_getD,show i-lo<Q.length by omega,show j-lo<Q.length by omega]using this
end
section
variable{M:Model}{A:Around}{E:Value->Shared->Prop}{s:Shared}{κ:SortKind}{ok:Keyed->Prop}{K:Keyed->Int}
theorem three{a:Array Keyed}{i n:Nat}(hi:i<=n)(h:n<=a.size):a.toList=a.toList.take i++((a.extract i n).toList++a.toList.drop n):=by rw[<-List.append_assoc,<-iz hi h,List.take_append_drop]
theorem FT{a:Array Keyed}{i n:Nat}(h:n<=a.size)(hs:Seg K a i n):SL K (a.extract i n).toList:=pN (sO h hs)
structure Tc(K:Keyed->Int)(xs ys:Array Keyed)(lo hi:Nat):Prop where
 perm:ys.toList.Perm xs.toList
 pre:ys.toList.take lo=xs.toList.take lo
 post:ys.toList.drop hi=xs.toList.drop hi
 seg:Seg K ys lo hi
theorem vG{xs:Array Keyed}{lo hi:Nat}(h:Seg K xs lo hi):Tc K xs xs lo hi:=⟨.refl _,rfl,rfl,h⟩
theorem Qn{xs ys:Array Keyed}{lo u v hi:Nat}{m:List Keyed}(h1:lo<=u)(h2:u<=v)(h3:v<=hi)(h4:hi<=xs.size)(hy:ys.toList=xs.toList.take u++(m++xs.toList.drop v))(hp:m.Perm (xs.extract u v).toList)(hs:SL K ((xs.extract lo u).toList++(m++(xs.extract v hi).toList))):Tc K xs ys lo hi:=by
 have hlm:m.length=v-u:=by rw[hp.length_eq];simp;omega
 have el:xs.toList.take u=xs.toList.take lo++(xs.extract lo u).toList:=iz h1 (by omega);have er:xs.toList.drop v=(xs.extract v hi).toList++xs.toList.drop hi:=by have:=jX (a:=xs) (i:=v) (k:=hi-v) (by omega);rwa[show v+(hi-v)=hi by omega]at this
 have e:ys.toList=xs.toList.take lo++(((xs.extract lo u).toList++(m++(xs.extract v hi).toList))++xs.toList.drop hi):=by rw[hy,el,er];simp
 have hlo:(xs.toList.take lo).length=lo:=by simp;omega
 have hmid:((xs.extract lo u).toList++(m++(xs.extract v hi).toList)).length=hi-lo:=by simp[hlm];omega
 refine⟨?_,?_,?_,vK e hlo (by omega) hs⟩;.have t:=three h2 (show v<=xs.size by omega);rw[hy];refine List.Perm.trans (List.Perm.append_left _ (List.Perm.append_right _ hp)) (.of_eq t.symm)
 .rw[e,List.take_append_of_le_length (by omega),List.take_of_length_le (by omega)]
 .rw[e,<-List.append_assoc,List.drop_append,List.drop_eq_nil_of_le (Nat.le_of_eq (by rw[List.length_append,hlo,hmid,Nat.add_sub_cancel' (Nat.le_trans h1 (Nat.le_trans h2 h3))])),List.nil_append,List.length_append,hlo,hmid,Nat.add_sub_cancel' (Nat.le_trans h1 (Nat.le_trans h2 h3)),Nat.sub_self];rfl
end
end HH
end
section
namespace HH
open PySem PyProof.Rows
section
variable{M:Model}{A:Around}{E:Value->Shared->Prop}{s:Shared}{κ:SortKind}{ok:Keyed->Prop}{K:Keyed->Int}
theorem M5{st st':SortSt}{Q:PUnit->SortSt->Prop}(h:Q ⟨⟩ st'):wpS M A E s (set st':SM PUnit) Q st:=by unfold wpS;rw[StateT.run_set];exact wpAny_pure ⟨rfl,h⟩
theorem jR{a:Array Keyed}{i n:Nat}{x:Keyed}(hi:i<=n)(h:n<=a.size)(hx:x∈(a.extract i n).toList):∃j,i<=j/\j<n/\x=it a j:=pC hi h hx
theorem Oh{arr merged:Array Keyed}{sa u sb v hi:Nat}(h1:sa<=u)(h2:u<=sb)(h3:sb<=v)(h4:v<=hi)(h5:hi<=arr.size)(hu:u<sb)(hv:sb<v)(s1:Seg K arr sa sb)(s2:Seg K arr sb hi)(f:Fin K (arr.extract u sb) (arr.extract sb v) merged)(k2:∀j,sa<=j->j<u->K (it arr j)<=K (it arr sb))(m3:∀j,v<=j->j<hi->K (it arr (sb-1))<=K (it arr j)):SL K ((arr.extract sa u).toList++(merged.toList++(arr.extract v hi).toList)):=by
 have inm:∀z∈merged.toList,(∃j,u<=j/\j<sb/\z=it arr j)\/∃j,sb<=j/\j<v/\z=it arr j:=fun z hz=>(f.mem hz).imp (jR h2 (by omega)) (jR h3 (by omega));refine cN.mpr ⟨FT (by omega) fun i j a b c=>s1 i j a b (by omega),cN.mpr ⟨f.qu,FT h5 fun i j a b c=>s2 i j (by omega) b c,fun z hz y hy=>?_⟩,fun x hx y hy=>?_⟩
 . obtain⟨j,j1,j2,rfl⟩:=jR h4 h5 hy;rcases inm z hz with⟨i,i1,i2,rfl⟩|⟨i,i1,i2,rfl⟩;.exact Int.le_trans (s1 i (sb-1) (by omega) (by omega) (by omega)) (m3 j j1 j2)
   .exact s2 i j (by omega) (by omega) (by omega)
 . obtain⟨i,i1,i2,rfl⟩:=jR h1 (by omega) hx;rcases List.mem_append.mp hy with hy|hy
   . rcases inm y hy with⟨j,j1,j2,rfl⟩|⟨j,j1,j2,rfl⟩;.exact s1 i j (by omega) (by omega) (by omega)
     .exact Int.le_trans (k2 i i1 i2) (s2 sb j (by omega) (by omega) (by omega))
   .obtain⟨j,j1,j2,rfl⟩:=jR h4 h5 hy;exact Int.le_trans (k2 i i1 i2) (s2 sb j (by omega) (by omega) (by omega))
set_option maxHeartbeats 1000000 in
theorem QJ(R:Rk M A E s κ ok K){i sa na pw sb nb pw2:Nat}{Q:Bool->SortSt->Prop}{st:SortSt}(hs:kindOf st=κ)(ho:∀x∈(arrOf st).toList,ok x)(hf:failedOf st=none)(hi:(pendingOf st)[i]?=some (sa,na,pw))(hj:(pendingOf st)[i+1]?=some (sb,nb,pw2))(hsb:sb=sa+na)(n1:1<=na)(m1:1<=nb)(hz:sb+nb<=(arrOf st).size)(s1:Seg K (arrOf st) sa sb)(s2:Seg K (arrOf st) sb (sb+nb))(q:∀st',kindOf st'=κ->failedOf st'=none->pendingOf st'=((pendingOf st).setIfInBounds i (sa,na+nb,pw)).eraseIdxIfInBounds (i+1)->Tc K (arrOf st) (arrOf st') sa (sb+nb)->Q true st'):wpS M A E s (mergeAt' i) Q st:=by
 obtain⟨kd,arr,pend,gm,fl⟩:=st;replace hs:kd=κ:=hs;replace ho:∀x∈arr.toList,ok x:=ho;replace hf:fl=none:=hf;replace hi:pend[i]?=some (sa,na,pw):=hi;replace hj:pend[i+1]?=some (sb,nb,pw2):=hj;replace hz:sb+nb<=arr.size:=hz;replace s1:Seg K arr sa sb:=s1;replace s2:Seg K arr sb (sb+nb):=s2;replace q:∀st',kindOf st'=κ->failedOf st'=none->pendingOf st'=(pend.setIfInBounds i (sa,na+nb,pw)).eraseIdxIfInBounds (i+1)->Tc K arr (arrOf st') sa (sb+nb)->Q true st':=q;show wpS M A E s (get>>=_) Q _;refine wpS_bind (wpS_get ?_);dsimp only;rw[hi,hj];try dsimp only
 refine wpS_bind (M5 ?_);refine wpS_bind (bC (by omega) ?_);refine wpS_bind (mC R (ho _ (dI (by omega))) ho (by omega) (by omega) hs (yL (by rw[<-hsb];exact s1)) fun k k1 k2 k3=>?_);have k2':∀j,sa<=j->j<sa+k->K (it arr j)<=K (it arr sb):=fun j h1 h2=>by have:=k2 (j-sa) (by omega);rw[show sa+(j-sa)=j by omega]at this;simp[bb]at this;omega
 try dsimp only
 by_cases c1:na-k=0
 . rw[if_pos (by simpa using c1)];refine wpS_pure (q _ hs hf rfl (vG fun u v u1 u2 u3=>?_));by_cases hv:v<sb;.exact s1 u v u1 u2 hv
   . by_cases hu:u<sb;.exact Int.le_trans (k2' u u1 (by omega)) (s2 sb v (by omega) (by omega) u3)
     .exact s2 u v (by omega) u2 u3
 rw[if_neg (by simpa using c1)];rw[show sa+k+(na-k)-1=sb-1 by omega];refine wpS_bind (bC (by show sb-1<arr.size;omega) ?_);refine wpS_bind (mC R (ho _ (dI (by omega))) ho (by omega) (by omega) hs (yL s2) fun m m1' m2 m3=>?_);have m2':∀j,sb<=j->j<sb+m->K (it arr j)<K (it arr (sb-1)):=fun j h1 h2=>by have:=m2 (j-sb) (by omega);rw[show sb+(j-sb)=j by omega]at this;simpa[bb]using this
 have m3':∀j,sb+m<=j->j<sb+nb->K (it arr (sb-1))<=K (it arr j):=fun j h1 h2=>by have:=m3 (j-sb) (by omega) (by omega);rw[show sb+(j-sb)=j by omega]at this;simp[bb]at this;omega
 have Tv:K (it arr sb)<=K (it arr (sa+k)):=by have:=k3 k (Nat.le_refl _) (by omega);simp[bb]at this;omega
 try dsimp only
 by_cases c2:m=0
 . rw[if_pos (by simpa using c2)];refine wpS_pure (q _ hs hf rfl (vG fun u v u1 u2 u3=>?_));by_cases hv:v<sb;.exact s1 u v u1 u2 hv
   . by_cases hu:u<sb;.exact Int.le_trans (s1 u (sb-1) u1 (by omega) (by omega)) (m3' v (by omega) u3)
     .exact s2 u v (by omega) u2 u3
 rw[if_neg (by simpa using c2)];have hxa:(arr.extract (sa+k) sb).size=sb-(sa+k):=by simp;omega
 have hya:(arr.extract sb (sb+m)).size=m:=by simp;omega
 have ux:uw K (arr.extract (sa+k) sb):=sO (by omega) fun u v a b c=>s1 u v (by omega) b c;have uy:uw K (arr.extract sb (sb+m)):=sO (by omega) fun u v a b c=>s2 u v a b (by omega);have ox:∀x∈(arr.extract (sa+k) sb).toList,ok x:=fun x hx=>by obtain⟨j,j1,j2,rfl⟩:=jR (by omega) (by omega) hx;exact ho _ (dI (by omega))
 have oy:∀x∈(arr.extract sb (sb+m)).toList,ok x:=fun x hx=>by obtain⟨j,j1,j2,rfl⟩:=jR (by omega) (by omega) hx;exact ho _ (dI (by omega))
 have hh0:K (it (arr.extract sb (sb+m)) 0)<=K (it (arr.extract (sa+k) sb) 0):=by rw[lY (by omega) (by omega),lY (by omega) (by omega)];exact Tv
 have hhl:∀j,j<(arr.extract sb (sb+m)).size->K (it (arr.extract sb (sb+m)) j)<=K (it (arr.extract (sa+k) sb) ((arr.extract (sa+k) sb).size-1)):=fun j hj=>by rw[hya]at hj;rw[hxa,lY (by omega) (by omega),lY (by omega) (by omega),show sa+k+(sb-(sa+k)-1)=sb-1 by omega];exact Int.le_of_lt (m2' _ (by omega) (by omega))
 have fin:∀(merged:Array Keyed)(st':SortSt),Fin K (arr.extract (sa+k) sb) (arr.extract sb (sb+m)) merged->qd (SortSt.mk' kd arr ((pend.setIfInBounds i (sa,na+nb,pw)).eraseIdxIfInBounds (i+1)) gm fl) st'->wpS M A E s ((modify fun s=>setArr s (List.foldl (fun a x=>match x with|(p,j)=>a.setIfInBounds (sa+k+j) p) (arrOf s) merged.toList.zipIdx))>>=fun _=>get>>=fun s=>pure (failedOf s).isNone) Q st':=fun merged st' f sm=>by
  refine wpS_bind (wpS_modify (wpS_bind (wpS_get (wpS_pure ?_))));have e1:arrOf st'=arr:=sm.arr;have e2:failedOf st'=none:=sm.fail.trans hf;have hlm:merged.toList.length=sb+m-(sa+k):=by rw[f.perm.length_eq];simp;omega
  show Q (failedOf st').isNone _;rw[e2];refine q _ (sm.kind.trans hs) e2 sm.pend ?_;show Tc K arr (List.foldl _ (arrOf st') merged.toList.zipIdx) sa (sb+nb);rw[e1];have hy:=uH merged.toList arr (sa+k) 0 (by omega);rw[Nat.add_zero,hlm,show sa+k+(sb+m-(sa+k))=sb+m by omega]at hy;have he:arr.extract (sa+k) (sb+m)=arr.extract (sa+k) sb++arr.extract sb (sb+m):=by simp[Array.extract_append_extract];congr 1<;>omega
  refine Qn (u:=sa+k) (v:=sb+m) (by omega) (by omega) (by omega) hz hy (f.perm.trans (.of_eq ?_)) (Oh (by omega) (by omega) (by omega) (by omega) hz (by omega) (by omega) s1 s2 f k2' m3');rw[he,Array.toList_append]
 try dsimp only
 split;.exact wpS_bind (PJ R ox oy hs ux uy (by omega) (by omega) hh0 hhl fun merged st' f sm=>fin merged st' f sm)
 .exact wpS_bind (QC R ox oy hs ux uy (by omega) (by omega) hh0 hhl fun merged st' f sm=>fin merged st' f sm)
end
end HH
end
section
namespace HH
open PySem PyProof.Rows
section
variable{K:Keyed->Int}
theorem wg{xs:Array Keyed}{i:Nat}:it xs i=(xs[i]?).getD (Value.none,Value.none):=by unfold it;by_cases h:i<xs.size<;>simp[Array.getD,h]
theorem jY{xs:Array Keyed}{i j:Nat}(hj:j<=xs.size)(k:Nat):it (mirror xs i j ((j-i)/2)) k=if i<=k/\k<j then it xs (i+j-1-k)else it xs k:=by rw[wg,getElem?_mirror_all hj];split<;>rw[wg]
theorem xf{xs:Array Keyed}{u d:Nat}(hs:u<xs.size)(hd:d<=u)(k:Nat):it (bubble xs u d) k=if k=u-d then it xs u else if u-d<k/\k<=u then it xs (k-1)else it xs k:=by
 rw[wg,getElem?_bubble hs d hd];by_cases h1:k=u-d;.rw[if_pos h1,if_pos h1,wg]
 .rw[if_neg h1,if_neg h1];split<;>rw[wg]
structure nR(xs ys:Array Keyed)(lo:Nat):Prop where
 perm:ys.toList.Perm xs.toList
 pre:∀i,i<lo->it ys i=it xs i
theorem nR.refl(xs:Array Keyed)(lo:Nat):nR xs xs lo:=⟨.refl _,fun _ _=>rfl⟩
theorem nR.trans{xs ys zs:Array Keyed}{lo:Nat}(a:nR xs ys lo)(b:nR ys zs lo):nR xs zs lo:=⟨b.perm.trans a.perm,fun i h=>(b.pre i h).trans (a.pre i h)⟩
theorem nR.size{xs ys:Array Keyed}{lo:Nat}(h:nR xs ys lo):ys.size=xs.size:=by simpa using h.perm.length_eq
theorem jD{xs:Array Keyed}{lo i j:Nat}(h:lo<=i)(hj:j<=xs.size):nR xs (mirror xs i j ((j-i)/2)) lo:=⟨Array.perm_iff_toList_perm.mp (mirror_perm ..),fun k hk=>by rw[jY hj,if_neg (by omega)]⟩
theorem HY{xs:Array Keyed}{lo u d:Nat}(hs:u<xs.size)(hd:d<=u)(h:lo<=u-d):nR xs (bubble xs u d) lo:=⟨Array.perm_iff_toList_perm.mp (bubble_perm ..),fun k hk=>by rw[xf hs hd,if_neg (by omega),if_neg (by omega)]⟩
noncomputable def Iz(K:Keyed->Int)(xs:Array Keyed)(lo hi:Nat):Prop:=∀i j,lo<=i->i<=j->j<hi->K (it xs j)<=K (it xs i)
end
section
variable{M:Model}{A:Around}{E:Value->Shared->Prop}{s:Shared}{κ:SortKind}{ok:Keyed->Prop}{K:Keyed->Int}
structure Sx(κ:SortKind)(ok:Keyed->Prop)(st:SortSt)(xs:Array Keyed)(st':SortSt):Prop where
 kind:kindOf st'=κ
 arr:arrOf st'=xs
 pend:pendingOf st'=pendingOf st
 fail:failedOf st'=none
 ok:∀x∈xs.toList,ok x
theorem Sx.set{st st':SortSt}{xs ys:Array Keyed}{lo:Nat}(h:Sx κ ok st xs st')(c:nR xs ys lo):Sx κ ok st ys (setArr st' ys):=⟨h.kind,rfl,h.pend,h.fail,fun x hx=>h.ok x (c.perm.mem_iff.mp hx)⟩
theorem kO(R:Rk M A E s κ ok K){st st':SortSt}{xs:Array Keyed}{i j:Nat}{Q:Option Bool->SortSt->Prop}(h:Sx κ ok st xs st')(hi:i<xs.size)(hj:j<xs.size)(q:Q (some (decide (K (it xs i)<K (it xs j)))) st'):wpS M A E s (ltAt' i j) Q st':=by rw[ltAt'_eq];refine wpS_bind (wpS_get ?_);show wpS M A E s (elem' (arrOf st') i>>=fun x=>elem' (arrOf st') j>>=fun y=>lt' x y) Q st';rw[h.arr];exact wpS_bind (bC hi (wpS_bind (bC hj (R.lt (h.ok _ (dI hi)) (h.ok _ (dI hj)) h.kind q))))
theorem pL{st st':SortSt}{xs:Array Keyed}{lo i j:Nat}{Q:Unit->SortSt->Prop}(h:Sx κ ok st xs st')(hl:lo<=i)(hj:j<=xs.size)(q:∀st2,Sx κ ok st (mirror xs i j ((j-i)/2)) st2->Q () st2):wpS M A E s (reverseSlice' i j) Q st':=by rw[reverseSlice'_eq];refine wpS_modify ?_;rw[h.arr];exact q _ (h.set (jD hl hj))
theorem xG(R:Rk M A E s κ ok K){st st':SortSt}{xs:Array Keyed}{lo a n:Nat}{Q:Option (Option Nat)×Nat->SortSt->Prop}(h:Sx κ ok st xs st')(hn:lo+n<=xs.size)(ha:1<=a)(han:a<=n)(hs:Seg K xs lo (lo+a))(q:∀m,a<=m->m<=n->Seg K xs lo (lo+m)->(m=n\/K (it xs (lo+m))<K (it xs (lo+m-1)))->Q (none,m) st'):wpS M A E s (forIn [a:n] ((none,a):Option (Option Nat)×Nat) fun _ c=>ltAt' (lo+c.2) (lo+c.2-1)>>=fun o=>match o with|some b=>if b=true then pure (.done (none,c.2))else pure (.yield (none,c.2+1))|_=>pure (.done (some none,c.2))) Q st':=by
 refine wpS_forRange (I:=fun x c st2=>st2=st'/\c=(none,x)/\Seg K xs lo (lo+x)) ?_ ?_ ⟨rfl,rfl,hs⟩
 . rintro x c st2 h1 h2⟨rfl,rfl,hs'⟩;try dsimp only
   refine wpS_bind (kO R h (by omega) (by omega) ?_);by_cases c:K (it xs (lo+x))<K (it xs (lo+x-1))
   . rw[decide_eq_true c];try dsimp only
     rw[if_pos rfl];exact wpS_pure (q x h1 (by omega) hs' (.inr c))
   . rw[decide_eq_false c];try dsimp only
     rw[if_neg (by simp)];refine wpS_pure ⟨rfl,rfl,fun i j i1 ij jx=>?_⟩;by_cases hj:j<lo+x;.exact hs' i j i1 ij hj
     . have:j=lo+x:=by omega
       subst this;by_cases e:i=lo+x;.rw[e];exact Int.le_refl _
       .have:=hs' i (lo+x-1) i1 (by omega) (by omega);omega
 .rintro c st2⟨rfl,rfl,hs'⟩;rw[show max a n=n by omega]at hs' ⊢;exact q n han (Nat.le_refl _) hs' (.inl rfl)
theorem Im(R:Rk M A E s κ ok K){st st':SortSt}{xs:Array Keyed}{lo a n:Nat}{Q:Option (Option Nat)×Nat×Nat->SortSt->Prop}(h:Sx κ ok st xs st')(hn:lo+n<=xs.size)(ha:1<=a)(han:a<=n)(hs:Iz K xs lo (lo+a))(q:∀ys st2 m e,nR xs ys lo->Sx κ ok st ys st2->a<=m->m<=n->Iz K ys lo (lo+m)->e+1<=m->(∀i,lo+m-(e+1)<=i->i<lo+m->K (it ys i)=K (it ys (lo+m-1)))->Q (none,m,e) st2):wpS M A E s (forIn [a:n] ((none,a,0):Option (Option Nat)×Nat×Nat) fun _ c=>ltAt' (lo+c.2.1) (lo+c.2.1-1)>>=fun o=>match o with
  |some b=>if b=true then(if c.2.2>0 then reverseSlice' (lo+c.2.1-(c.2.2+1)) (lo+c.2.1)>>=fun _=>pure (.yield (none,c.2.1+1,0))else pure (.yield (none,c.2.1+1,0)))else ltAt' (lo+c.2.1-1) (lo+c.2.1)>>=fun o=>match o with|some b=>if b=true then pure (.done (none,c.2.1,c.2.2))else pure (.yield (none,c.2.1+1,c.2.2+1))|_=>pure (.done (some none,c.2.1,c.2.2))
  |_=>pure (.done (some none,c.2.1,c.2.2))) Q st':=by
 refine wpS_forRange (I:=fun x c st2=>∃ys e,c=(none,x,e)/\nR xs ys lo/\Sx κ ok st ys st2/\Iz K ys lo (lo+x)/\e+1<=x/\∀i,lo+x-(e+1)<=i->i<lo+x->K (it ys i)=K (it ys (lo+x-1))) ?_ ?_ ⟨xs,0,rfl,.refl _ _,h,hs,by omega,fun i h1 h2=>by rw[show i=lo+a-1 by omega]⟩
 . rintro x c st2 h1 h2⟨ys,e,rfl,hc,hx,hd,he,hq⟩;have hsz:=hc.size;try dsimp only
   refine wpS_bind (kO R hx (by omega) (by omega) ?_);by_cases c:K (it ys (lo+x))<K (it ys (lo+x-1))
   . rw[decide_eq_true c];try dsimp only
     rw[if_pos rfl];have more:∀zs:Array Keyed,(∀i,K (it zs i)=K (it ys i))->Iz K zs lo (lo+(x+1)):=fun zs hz i j i1 ij jx=>by
      rw[hz,hz];by_cases hj:j<lo+x;.exact hd i j i1 ij hj
      . have:j=lo+x:=by omega
        subst this;by_cases e:i=lo+x;.rw[e];exact Int.le_refl _
        .have:=hd i (lo+x-1) i1 (by omega) (by omega);omega
     by_cases c2:e>0
     . rw[if_pos c2];refine wpS_bind (pL (lo:=lo) hx (by omega) (by omega) fun st3 h3=>wpS_pure ⟨_,0,rfl,hc.trans (jD (by omega) (by omega)),h3,more _ fun i=>?_,by omega,fun i h1 h2=>by rw[show i=lo+(x+1)-1 by omega]⟩);rw[jY (by omega)];split;.rw[hq _ (by omega) (by omega),hq i (by omega) (by omega)]
       .rfl
     .rw[if_neg c2];exact wpS_pure ⟨ys,0,rfl,hc,hx,more ys fun _=>rfl,by omega,fun i h1 h2=>by rw[show i=lo+(x+1)-1 by omega]⟩
   . rw[decide_eq_false c];try dsimp only
     rw[if_neg (by simp)];refine wpS_bind (kO R hx (by omega) (by omega) ?_);by_cases c2:K (it ys (lo+x-1))<K (it ys (lo+x))
     . rw[decide_eq_true c2];try dsimp only
       rw[if_pos rfl];exact wpS_pure (q ys st2 x e hc hx h1 (by omega) hd he hq)
     . rw[decide_eq_false c2];try dsimp only
       rw[if_neg (by simp)];have eqx:K (it ys (lo+x))=K (it ys (lo+x-1)):=by omega
       refine wpS_pure ⟨ys,e+1,rfl,hc,hx,fun i j i1 ij jx=>?_,by omega,fun i i1 i2=>?_⟩
       . by_cases hj:j<lo+x;.exact hd i j i1 ij hj
         . have:j=lo+x:=by omega
           subst this;by_cases e:i=lo+x;.rw[e];exact Int.le_refl _
           .rw[eqx];exact hd i (lo+x-1) i1 (by omega) (by omega)
       . rw[show lo+(x+1)-1=lo+x by omega];by_cases e':i=lo+x;.rw[e']
         .rw[eqx];exact hq i (by omega) (by omega)
 .rintro c st2⟨ys,e,rfl,hc,hx,hd,he,hq⟩;rw[show max a n=n by omega]at*;exact q ys st2 n e hc hx han (Nat.le_refl _) hd he hq
end
end HH
end
section
namespace HH
open PySem PyProof.Rows
section
variable{M:Model}{A:Around}{E:Value->Shared->Prop}{s:Shared}{κ:SortKind}{ok:Keyed->Prop}{K:Keyed->Int}
theorem Ga{xs:Array Keyed}{lo n:Nat}(hn:lo+n<=xs.size)(h:Iz K xs lo (lo+n)):Seg K (mirror xs lo (lo+n) ((lo+n-lo)/2)) lo (lo+n):=fun i j i1 ij jn=>by rw[jY hn,jY hn,if_pos (by omega),if_pos (by omega)];exact h _ _ (by omega) (by omega) (by omega)
theorem Ez(R:Rk M A E s κ ok K){st st':SortSt}{xs:Array Keyed}{lo n:Nat}{Q:Option Nat->SortSt->Prop}(h:Sx κ ok st xs st')(hn:lo+n<=xs.size)(h1:1<=n)(q:∀ys st2 m,nR xs ys lo->Sx κ ok st ys st2->1<=m->m<=n->Seg K ys lo (lo+m)->Q (some m) st2):wpS M A E s (countRun' lo n) Q st':=by
 have one:∀ys:Array Keyed,Seg K ys lo (lo+1):=fun ys i j i1 ij jn=>by rw[show i=j by omega];exact Int.le_refl _
 show wpS M A E s (_>>=_) Q st';refine wpS_bind (xG (a:=1) (n:=n) R h hn (Nat.le_refl 1) h1 (one xs) fun m m1 m2 sm hor=>?_);dsimp only;by_cases c1:m=n;.rw[if_pos (by simpa using c1)];exact wpS_pure (q xs st' m (.refl _ _) h m1 m2 sm)
 rw[if_neg (by simpa using c1)];have hlt:=hor.resolve_left c1;by_cases c2:m>1;rw[if_pos c2];refine wpS_bind (kO R h (by omega) (by omega) ?_);by_cases c3:K (it xs lo)<K (it xs (lo+m-1))
 . rw[decide_eq_true c3];try dsimp only
   rw[if_pos rfl];exact wpS_pure (q xs st' m (.refl _ _) h m1 m2 sm)
 rw[decide_eq_false c3];try dsimp only
 rw[if_neg (by simp)];have hall:∀k,lo<=k->k<lo+m->K (it xs k)=K (it xs (lo+m-1)):=fun k k1 k2=>by have a1:=sm lo k (Nat.le_refl _) k1 k2;have a2:=sm k (lo+m-1) k1 (by omega) (by omega);omega
 refine wpS_bind (pL (lo:=lo) h (Nat.le_refl _) (by omega) fun st2 h2=>?_);have hc:nR xs (mirror xs lo (lo+m) ((lo+m-lo)/2)) lo:=jD (Nat.le_refl _) (by omega);have hd:Iz K (mirror xs lo (lo+m) ((lo+m-lo)/2)) lo (lo+(m+1)):=fun i j i1 ij jn=>by
  have e:∀k,lo<=k->k<lo+m->K (it (mirror xs lo (lo+m) ((lo+m-lo)/2)) k)=K (it xs (lo+m-1)):=fun k k1 k2=>by rw[jY (by omega),if_pos (by omega)];exact hall _ (by omega) (by omega)
  by_cases hj:j<lo+m;.rw[e i i1 (by omega),e j (by omega) hj];exact Int.le_refl _
  . have:j=lo+m:=by omega
    subst this;by_cases e':i=lo+m;.rw[e'];exact Int.le_refl _
    .rw[e i i1 (by omega),jY (by omega),if_neg (by omega)];omega
 generalize mirror xs lo (lo+m) ((lo+m-lo)/2)=ys at h2 hc hd;rotate_left;rw[if_neg c2];have hd0:Iz K xs lo (lo+(m+1)):=fun i j i1 ij jn=>by
  by_cases e:i=j;.rw[e];exact Int.le_refl _
  . have e1:i=lo:=by omega
    have e2:j=lo+m:=by omega
    rw[e1,e2];rw[show lo+m-1=lo by omega]at hlt;omega
 obtain⟨ys,hc,h2,hd⟩:∃ys,nR xs ys lo/\Sx κ ok st ys st'/\Iz K ys lo (lo+(m+1)):=⟨xs,.refl _ _,h,hd0⟩;all_goals
  have hsz:=hc.size;refine wpS_bind (wp_rule ?_);refine wpS_bind (Im (a:=m+1) R h2 (by omega) (by omega) (by omega) hd fun zs st3 p e Y0 hx3 p1 p2 hdz he hq=>?_);have hsz2:=Y0.size;dsimp only;by_cases ce:e>0
  . rw[if_pos ce];refine wpS_bind (pL (lo:=lo) hx3 (by omega) (by omega) fun HF h4=>?_);have hc4:nR xs (mirror zs (lo+p-(e+1)) (lo+p) ((lo+p-(lo+p-(e+1)))/2)) lo:=hc.trans (Y0.trans (jD (by omega) (by omega)));have hd4:Iz K (mirror zs (lo+p-(e+1)) (lo+p) ((lo+p-(lo+p-(e+1)))/2)) lo (lo+p):=fun i j i1 ij jn=>by
     have ez:∀k,K (it (mirror zs (lo+p-(e+1)) (lo+p) ((lo+p-(lo+p-(e+1)))/2)) k)=K (it zs k):=fun k=>by
      rw[jY (by omega)];split;.rw[hq _ (by omega) (by omega),hq k (by omega) (by omega)]
      .rfl
     rw[ez,ez];exact hdz i j i1 ij jn
    generalize mirror zs (lo+p-(e+1)) (lo+p) ((lo+p-(lo+p-(e+1)))/2)=us at h4 hc4 hd4;have W7:=hc4.size;have hc5:nR us (mirror us lo (lo+p) ((lo+p-lo)/2)) lo:=jD (Nat.le_refl _) (by omega);refine wpS_bind (pL (lo:=lo) h4 (Nat.le_refl _) (by omega) fun Ky h5=>?_);refine wpS_bind (xG R h5 (by rw[hc5.size];omega) (by omega) p2 (Ga (by omega) hd4) fun u u1 u2 su _=>?_);exact wpS_pure (q _ Ky u (hc4.trans hc5) h5 (by omega) u2 su)
  .rw[if_neg ce];have W7:=(hc.trans Y0).size;have hc5:nR zs (mirror zs lo (lo+p) ((lo+p-lo)/2)) lo:=jD (Nat.le_refl _) (by omega);refine wpS_bind (pL (lo:=lo) hx3 (Nat.le_refl _) (by omega) fun Ky h5=>?_);refine wpS_bind (xG R h5 (by rw[hc5.size];omega) (by omega) p2 (Ga (by omega) hdz) fun u u1 u2 su _=>?_);exact wpS_pure (q _ Ky u ((hc.trans Y0).trans hc5) h5 (by omega) u2 su)
theorem Nq(R:Rk M A E s κ ok K){st st':SortSt}{xs:Array Keyed}{lo n o:Nat}{Q:Bool->SortSt->Prop}(h:Sx κ ok st xs st')(hn:lo+n<=xs.size)(ho:o<=n)(hs:Seg K xs lo (lo+o))(q:∀ys st2,nR xs ys lo->Sx κ ok st ys st2->Seg K ys lo (lo+n)->Q true st2):wpS M A E s (binarySort' lo n o) Q st':=by
 show wpS M A E s (_>>=_) Q st';refine wpS_bind (wpS_mono (wpS_forRange (I:=fun k c st2=>∃ys,c=(none,())/\nR xs ys lo/\Sx κ ok st ys st2/\Seg K ys lo (lo+min k n)) (Q:=fun c st2=>∃ys,c=(none,())/\nR xs ys lo/\Sx κ ok st ys st2/\Seg K ys lo (lo+n)) ?_ ?_ ?_) ?_)
 . rintro k c st2 k1 k2⟨ys,rfl,hc,hx,sg⟩;rw[show min k n=k by omega]at sg;have hsz:=hc.size;refine wpS_bind (wpS_mono (wpS_forRange (I:=fun x c st3=>st3=st2/\∃l r,c=(none,l,r)/\l<=r/\r<=k/\r-l<=k-x/\(∀i,lo<=i->i<lo+l->K (it ys i)<=K (it ys (lo+k)))/\∀i,lo+r<=i->i<lo+k->K (it ys (lo+k))<K (it ys i)) (Q:=fun c st3=>st3=st2/\∃l r,c=(none,l,r)/\l<=k/\(∀i,lo<=i->i<lo+l->K (it ys i)<=K (it ys (lo+k)))/\∀i,lo+l<=i->i<lo+k->K (it ys (lo+k))<K (it ys i)) ?_ ?_ ⟨rfl,0,k,rfl,by omega,by omega,by omega,fun i a b=>by omega,fun i a b=>by omega⟩) ?_)
   . rintro x c st3 _ xk⟨rfl,l,r,rfl,a1,a2,a3,a4,a5⟩;dsimp only;by_cases e:l ≥ r
     . rw[if_pos e];have:l=r:=by omega
       subst this;exact wpS_pure ⟨rfl,l,l,rfl,a2,a4,a5⟩
     . rw[if_neg e];refine wpS_bind (kO R hx (by omega) (by omega) ?_);by_cases c:K (it ys (lo+k))<K (it ys (lo+(l+r)/2));.rw[decide_eq_true c];dsimp only;rw[if_pos rfl];exact wpS_pure ⟨rfl,_,_,rfl,by omega,by omega,by omega,a4,fun i i1 i2=>Int.lt_of_lt_of_le c (sg _ _ (by omega) i1 i2)⟩
       .rw[decide_eq_false c];dsimp only;rw[if_neg (by simp)];exact wpS_pure ⟨rfl,_,_,rfl,by omega,a2,by omega,fun i i1 i2=>Int.le_trans (sg i (lo+(l+r)/2) i1 (by omega) (by omega)) (Int.not_lt.mp c),a5⟩
   . rintro c st3⟨rfl,l,r,rfl,a1,a2,a3,a4,a5⟩;have:l=r:=by omega
     subst this;exact⟨rfl,l,l,rfl,a2,a4,a5⟩
   . rintro c st3⟨rfl,l,r,rfl,a2,a4,a5⟩;show wpS M A E s (moveDown' (lo+k) (lo+l)>>=fun _=>pure (ForInStep.yield (none,()))) _ _;rw[moveDown'_eq];refine wpS_bind (wpS_modify (wpS_pure ?_));rw[hx.arr];have hb:nR ys (bubble ys (lo+k) (lo+k-(lo+l))) lo:=HY (by omega) (by omega) (by omega);refine⟨_,rfl,hc.trans hb,hx.set hb,fun i j i1 ij jn=>?_⟩;rw[show min (k+1) n=k+1 by omega]at jn;rw[xf (by omega) (by omega),xf (by omega) (by omega),show lo+k-(lo+k-(lo+l))=lo+l by omega];repeat' split
     all_goals first|(exfalso;omega)|exact Int.le_refl _|exact a4 _ (by omega) (by omega)|exact Int.le_of_lt (a5 _ (by omega) (by omega))|exact sg _ _ (by omega) (by omega) (by omega)
 .rintro c st2⟨ys,hc0,hc,hx,sg⟩;rw[show min (max (max o 1) n) n=n by omega]at sg;exact⟨ys,hc0,hc,hx,sg⟩
 . refine⟨xs,rfl,.refl _ _,h,fun i j i1 ij jn=>?_⟩;by_cases e:i=j;.rw[e];exact Int.le_refl _
   .exact hs i j i1 ij (by omega)
 .rintro c st2⟨ys,rfl,hc,hx,sg⟩;exact wpS_pure (q ys st2 hc hx sg)
end
end HH
end
section
namespace HH
open PySem PyProof.Rows
noncomputable abbrev Rn:=Nat×Nat×Nat
section
variable{K:Keyed->Int}{xs ys:Array Keyed}
noncomputable def Aw(K:Keyed->Int)(xs:Array Keyed):Nat->List Rn->Nat->Prop|a,[],b=>a=b|a,r::l,b=>r.1=a/\1<=r.2.1/\Seg K xs a (a+r.2.1)/\Aw K xs (a+r.2.1) l b
theorem gM:∀{l k:List Rn}{a b:Nat},Aw K xs a (l++k) b↔∃m,Aw K xs a l m/\Aw K xs m k b
 |[],k,a,b=>⟨fun h=>⟨a,rfl,h⟩,fun⟨m,h1,h2⟩=>by cases(show a=m from h1);exact h2⟩|r::l,k,a,b=>by
   rw[List.cons_append];constructor;.rintro⟨h1,h2,h3,h4⟩;obtain⟨m,h5,h6⟩:=gM.mp h4;exact⟨m,⟨h1,h2,h3,h5⟩,h6⟩
   .rintro⟨m,⟨h1,h2,h3,h4⟩,h5⟩;exact⟨h1,h2,h3,gM.mpr ⟨m,h4,h5⟩⟩
theorem pR:∀{l:List Rn}{a b:Nat},Aw K xs a l b->a+l.length<=b|[],a,b,h=>by cases(show a=b from h);simp|r::l,a,b,⟨_,h2,_,h4⟩=>by have:=pR h4;simp only[List.length_cons];omega
theorem wz{lo hi:Nat}(h:∀i,lo<=i->i<hi->it ys i=it xs i)(s:Seg K xs lo hi):Seg K ys lo hi:=fun i j i1 ij jn=>by rw[h i i1 (by omega),h j (by omega) jn];exact s i j i1 ij jn
theorem lr:∀{l:List Rn}{a b:Nat},(∀i,a<=i->i<b->it ys i=it xs i)->Aw K xs a l b->Aw K ys a l b|[],_,_,_,h=>h|r::l,a,b,e,⟨h1,h2,h3,h4⟩=>by have:=pR h4;exact⟨h1,h2,wz (fun i i1 i2=>e i i1 (by omega)) h3,lr (fun i i1 i2=>e i (by omega) i2) h4⟩
theorem Km{r r':Rn}{a b:Nat}(h1:r'.1=r.1)(h2:r'.2.1=r.2.1){l:List Rn}(h:Aw K xs a (l++[r]) b):Aw K xs a (l++[r']) b:=by obtain⟨m,g1,g2,g3,g4,g5⟩:=gM.mp h;exact gM.mpr ⟨m,g1,h1.trans g2,by omega,by rw[h2];exact g4,by rw[h2];exact g5⟩
theorem JH{lo:Nat}(h:ys.toList.take lo=xs.toList.take lo)(i:Nat)(hi:i<lo):it ys i=it xs i:=by rw[iJ,iJ,List.getD_eq_getElem?_getD,List.getD_eq_getElem?_getD];have e:=congrArg (fun l=>l[i]?) h;simp only[List.getElem?_take,hi,if_true]at e;rw[e]
theorem zP{hi:Nat}(h:ys.toList.drop hi=xs.toList.drop hi)(i:Nat)(h1:hi<=i):it ys i=it xs i:=by rw[iJ,iJ,List.getD_eq_getElem?_getD,List.getD_eq_getElem?_getD];have e:=congrArg (fun l=>l[i-hi]?) h;simp only[List.getElem?_drop,show hi+(i-hi)=i by omega]at e;rw[e]
theorem J2{l1 l2:List Rn}{a b:Nat}{r1 r2:Rn}{p:Nat}(h:Aw K xs a (l1++r1::r2::l2) b)(g:Tc K xs ys r1.1 (r2.1+r2.2.1)):Aw K ys a (l1++(r1.1,r1.2.1+r2.2.1,p)::l2) b:=by
 obtain⟨m,g1,g2,g3,g4,g5,g6,g7,g8⟩:=gM.mp h;subst g2;have e:=pR g8;refine gM.mpr ⟨r1.1,lr (fun i i1 i2=>JH g.pre i i2) g1,rfl,by show 1<=r1.2.1+r2.2.1;omega,?_,?_⟩;.show Seg K ys r1.1 (r1.1+(r1.2.1+r2.2.1));have:=g.seg;rw[g5]at this;rwa[<-Nat.add_assoc]
 .show Aw K ys (r1.1+(r1.2.1+r2.2.1)) l2 b;rw[<-Nat.add_assoc];exact lr (fun i i1 i2=>zP g.post i (by rw[g5];exact i1)) g8
theorem Fw{l:List Rn}{i:Nat}(h:i+1<l.length):∃l1 r1 r2 l2,l=l1++r1::r2::l2/\l1.length=i:=by refine⟨l.take i,l[i],l[i+1],l.drop (i+2),?_,by simp;omega⟩;rw[<-List.drop_eq_getElem_cons (by omega),<-List.drop_eq_getElem_cons (by omega),List.take_append_drop]
theorem oR:∀{l:List Rn},l≠[]->∃k r,l=k++[r]|[],h=>absurd rfl h|[r],_=>⟨[],r,rfl⟩|r::x::l,_=>by obtain⟨k,q,e⟩:=oR (l:=x::l) (by simp);exact⟨r::k,q,by rw[e];rfl⟩
theorem yU(x r1 r2:Rn)(l2:List Rn):∀l1:List Rn,((l1++r1::r2::l2).set l1.length x).eraseIdx (l1.length+1)=l1++x::l2|[]=>rfl|r::l1=>by show r::((l1++r1::r2::l2).set l1.length x).eraseIdx (l1.length+1)=r::(l1++x::l2);rw[yU x r1 r2 l2 l1]
end
section
variable{M:Model}{A:Around}{E:Value->Shared->Prop}{s:Shared}{κ:SortKind}{ok:Keyed->Prop}{K:Keyed->Int}
structure SR(κ:SortKind)(ok:Keyed->Prop)(K:Keyed->Int)(x0 ys:Array Keyed)(l:List Rn)(lo:Nat)(st:SortSt):Prop where
 kind:kindOf st=κ
 arr:arrOf st=ys
 fail:failedOf st=none
 pend:(pendingOf st).toList=l
 perm:ys.toList.Perm x0.toList
 ok:∀x∈ys.toList,ok x
 Tz:Aw K ys 0 l lo
 le:lo<=ys.size
theorem SR.sx{x0 ys:Array Keyed}{l:List Rn}{lo:Nat}{st:SortSt}(h:SR κ ok K x0 ys l lo st):Sx κ ok st ys st:=⟨h.kind,h.arr,rfl,h.fail,h.ok⟩
theorem zJ(R:Rk M A E s κ ok K){x0 ys:Array Keyed}{l:List Rn}{lo i:Nat}{st:SortSt}{Q:Bool->SortSt->Prop}(h:SR κ ok K x0 ys l lo st)(hi:i+1<l.length)(q:∀zs k st2,SR κ ok K x0 zs k lo st2->k.length+1=l.length->(∀j,lo<=j->it zs j=it ys j)->Q true st2):wpS M A E s (mergeAt' i) Q st:=by
 obtain⟨l1,r1,r2,l2,e,hl⟩:=Fw hi;have hr:=h.Tz;rw[e]at hr;obtain⟨m,g1,g2,g3,g4,g5,g6,g7,g8⟩:=gM.mp hr;have hle:=pR g8;have hz:=h.le;have hp:=h.pend;have ei:(pendingOf st)[i]?=some (r1.1,r1.2.1,r1.2.2):=by rw[<-Array.getElem?_toList,hp,e,<-hl];simp
 have ej:(pendingOf st)[i+1]?=some (r2.1,r2.2.1,r2.2.2):=by rw[<-Array.getElem?_toList,hp,e,<-hl];simp
 refine QJ R h.kind (by rw[h.arr];exact h.ok) h.fail ei ej (by omega) g3 g6 (by rw[h.arr];omega) (by rw[h.arr,g2,g5];exact g4) (by rw[h.arr,g5];exact g7) fun st2 a1 a2 a3 a4=>?_;rw[h.arr]at a4;have hr2:=J2 (p:=r1.2.2) hr a4;refine q (arrOf st2) (l1++(r1.1,r1.2.1+r2.2.1,r1.2.2)::l2) st2 ⟨a1,rfl,a2,?_,a4.perm.trans h.perm,fun x hx=>h.ok x (a4.perm.mem_iff.mp hx),hr2,?_⟩ (by rw[e];simp only[List.length_append,List.length_cons];omega) fun j hj=>zP a4.post j (by omega);.rw[a3];rw[Array.toList_eraseIdxIfInBounds,Array.toList_setIfInBounds,hp,e,<-hl];exact yU _ _ _ _ _
 .have:=a4.perm.length_eq;simp only[Array.length_toList]at this;omega
end
end HH
end
section
namespace HH
open PySem PyProof.Rows
section
variable{M:Model}{A:Around}{E:Value->Shared->Prop}{s:Shared}{κ:SortKind}{ok:Keyed->Prop}{K:Keyed->Int}
theorem SR.move{x0 ys zs:Array Keyed}{l:List Rn}{lo:Nat}{st st2:SortSt}(h:SR κ ok K x0 ys l lo st)(c:nR ys zs lo)(x:Sx κ ok st zs st2):SR κ ok K x0 zs l lo st2:=⟨x.kind,x.arr,x.fail,by rw[x.pend];exact h.pend,c.perm.trans h.perm,x.ok,lr (fun i _ i2=>c.pre i i2) h.Tz,by rw[c.size];exact h.le⟩
theorem vH{r:Rn}{f:Rn->Rn}:∀k:List Rn,(k++[r]).modify (k.length+1-1) f=k++[f r]|[]=>rfl|x::k=>by show x::(k++[r]).modify k.length f=x::(k++[f r]);rw[<-vH k];rfl
theorem pF{p:Array Rn}{k:List Rn}{r:Rn}{f:Rn->Rn}(h:p.toList=k++[r]):(p.modify (p.size-1) f).toList=k++[f r]:=by
 have hz:p.size=k.length+1:=by rw[<-Array.length_toList,h];simp
 rw[Array.toList_modify,h,hz];exact vH k
theorem SR.push{x0 ys:Array Keyed}{l:List Rn}{lo n:Nat}{st:SortSt}(h:SR κ ok K x0 ys l lo st)(h1:1<=n)(h2:lo+n<=ys.size)(hs:Seg K ys lo (lo+n)):SR κ ok K x0 ys (l++[(lo,n,0)]) (lo+n) (setPending st ((pendingOf st).push (lo,n,0))):=⟨h.kind,h.arr,h.fail,by show((pendingOf st).push (lo,n,0)).toList=_;rw[Array.toList_push,h.pend],h.perm,h.ok,gM.mpr ⟨lo,h.Tz,rfl,h1,hs,rfl⟩,h2⟩
theorem SR.pow{x0 ys:Array Keyed}{l:List Rn}{lo pw:Nat}{st:SortSt}(h:SR κ ok K x0 ys l lo st)(hl:l≠[]):∃k,k≠[]/\SR κ ok K x0 ys k lo (setPending st ((pendingOf st).modify ((pendingOf st).size-1) fun(a,b,_)=>(a,b,pw))):=by obtain⟨k,r,e⟩:=oR hl;have hr:=h.Tz;have hp:=h.pend;rw[e]at hr hp;exact⟨k++[(r.1,r.2.1,pw)],by simp,h.kind,h.arr,h.fail,pF hp,h.perm,h.ok,Km (r:=r) (r':=(r.1,r.2.1,pw)) rfl rfl hr,h.le⟩
theorem Qs{p:Prop}[Decidable p]{a n:Nat}(h:a+1<n):(if p then a-1 else a)+1<n:=by split<;>omega
theorem IV(R:Rk M A E s κ ok K){x0:Array Keyed}{Q:Unit->SortSt->Prop}{st:SortSt}(h:SR κ ok K x0 x0 [] 0 st)(q:∀ys st',arrOf st'=ys->failedOf st'=none->ys.toList.Perm x0.toList->Seg K ys 0 ys.size->Q () st'):wpS M A E s sortRuns' Q st:=by
 rw[sortRuns'_eq];refine wpS_bind (wpS_get ?_);dsimp only;simp only[h.arr];have big:∀{ys l lo st},SR κ ok K x0 ys l lo st->ys.size=x0.size:=fun h=>by simpa using h.perm.length_eq
 generalize minRun' x0.size x0.size 0=mr;refine wpS_bind (wpS_mono (wpS_forRange (I:=fun x c st'=>∃ys l lo,c=(none,lo)/\SR κ ok K x0 ys l lo st'/\x<=lo) (Q:=fun c st'=>∃ys l,c=(none,x0.size)/\SR κ ok K x0 ys l x0.size st') ?_ ?_ ⟨x0,[],0,rfl,h,Nat.le_refl _⟩) ?_)
 . rintro x c st1 _ hx⟨ys,l,lo,rfl,hS,hlo⟩;have hz:=big hS;have hle:=hS.le;dsimp only;by_cases c1:lo ≥ x0.size
   . rw[if_pos c1];have:lo=x0.size:=by omega
     subst this;exact wpS_pure ⟨ys,l,rfl,hS⟩
   rw[if_neg c1];refine wpS_bind (Ez R hS.sx (lo:=lo) (n:=x0.size-lo) (by omega) (by omega) fun ys1 st2 m ch hx1 m1 m2 sg=>?_);have hS1:=hS.move ch hx1;have hz1:=big hS1;dsimp only;by_cases c2:m<mr;case' pos=>
    rw[if_pos c2];refine wpS_bind (wpS_lift (wpAny_rule ⟨rfl,?_⟩));refine wpS_bind (Nq R hx1 (lo:=lo) (n:=min (x0.size-lo) mr) (by omega) (by omega) sg fun HJ st3 ch2 hx2 sg2=>?_);simp only[Bool.not_true,Bool.false_eq_true,if_false];replace hS1:=hS.move (ch.trans ch2) hx2;replace hz1:=big hS1;replace m1:1<=min (x0.size-lo) mr:=by omega
    replace m2:min (x0.size-lo) mr<=x0.size-lo:=by omega
    generalize min (x0.size-lo) mr=n at*
   case' neg=>rw[if_neg c2];clear ch;obtain⟨HJ,hys⟩:∃HJ,HJ=ys1:=⟨_,rfl⟩;obtain⟨st3,hst⟩:∃st3,st3=st2:=⟨_,rfl⟩;obtain⟨n,hn⟩:∃n,n=m:=⟨_,rfl⟩;subst hys hst hn;have sg2:=sg
   all_goals refine wpS_bind (wpS_get ?_);cases hb:(pendingOf st3).back? with|none=>dsimp only;exact wpS_bind (wpS_modify (wpS_pure ⟨HJ,_,lo+n,rfl,hS1.push m1 (by omega) sg2,by omega⟩))|some r=>
      obtain⟨s1,n1,p1⟩:=r;dsimp only;have hne:l≠[]:=by rintro rfl;have:pendingOf st3=#[]:=Array.toList_inj.mp hS1.pend;rw[this]at hb;exact nomatch hb
      generalize power' x0.size (2*s1+n1) (2*s1+n1+n1+n) x0.size=pw;refine wpS_bind (wpS_mono (wpS_forRange (I:=fun _ c st'=>∃ys k,c=(none,())/\k≠[]/\SR κ ok K x0 ys k lo st'/\∀j,lo<=j->it ys j=it HJ j) (Q:=fun c st'=>∃ys k,c=(none,())/\k≠[]/\SR κ ok K x0 ys k lo st'/\∀j,lo<=j->it ys j=it HJ j) ?_ (fun _ _ h=>h) ⟨HJ,l,rfl,hne,hS1,fun _ _=>rfl⟩) ?_)
      . rintro y c HF _ _⟨W8,k,rfl,hk,TF,sm⟩;refine wpS_bind (wpS_get ?_);try dsimp only
        have stop:∃ys k,((none,()):Option Unit×Unit)=(none,())/\k≠[]/\SR κ ok K x0 ys k lo HF/\∀j,lo<=j->it ys j=it HJ j:=⟨W8,k,rfl,hk,TF,sm⟩;split
        . rename_i older ho;split;.exact wpS_pure stop
          . have hp1:(pendingOf HF).size>1:=by
             by_cases hh:(pendingOf HF).size>1;.exact hh
             .rw[if_neg hh]at ho;exact nomatch ho
            have hkl:k.length=(pendingOf HF).size:=by rw[<-TF.pend];simp
            refine wpS_bind (zJ R TF (by omega) fun zs k2 Ky hS5 hk2 TJ=>?_);simp only[Bool.not_true,Bool.false_eq_true,if_false];exact wpS_pure ⟨zs,k2,rfl,by rintro rfl;simp at hk2;omega,hS5,fun j hj=>(TJ j hj).trans (sm j hj)⟩
        .exact wpS_pure stop
      .rintro c HF⟨W8,k,rfl,hk,TF,sm⟩;dsimp only;obtain⟨k2,_,hS4⟩:=TF.pow (pw:=pw) hk;refine wpS_bind (wpS_modify ?_);have hz3:=big TF;exact wpS_bind (wpS_modify (wpS_pure ⟨W8,_,lo+n,rfl,hS4.push m1 (by omega) (wz (fun i i1 _=>sm i i1) sg2),by omega⟩))
 . rintro c st1⟨ys,l,lo,rfl,hS,hlo⟩;have:=hS.le;have:=big hS;have:lo=x0.size:=by omega
   subst this;exact⟨ys,l,rfl,hS⟩
 . rintro c st1⟨ys,l,rfl,hS⟩;dsimp only;have hl:=pR hS.Tz;refine wpS_bind (wpS_mono (wpS_forRange (I:=fun x c st'=>∃ys l,c=(none,())/\SR κ ok K x0 ys l x0.size st'/\l.length<=max 1 (x0.size-x)) (Q:=fun c st'=>∃ys l,c=(none,())/\SR κ ok K x0 ys l x0.size st'/\l.length<=1) ?_ ?_ ⟨ys,l,rfl,hS,by omega⟩) ?_)
   . rintro x c st2 _ hx⟨zs,k,rfl,hZ,hk⟩;refine wpS_bind (wpS_get ?_);try dsimp only
     have hkl:k.length=(pendingOf st2).size:=by rw[<-hZ.pend];simp
     by_cases c1:(pendingOf st2).size<=1;.rw[if_pos c1];exact wpS_pure ⟨zs,k,rfl,hZ,by omega⟩
     rw[if_neg c1];refine wpS_bind (zJ R hZ (Qs (by omega)) fun zs2 k2 Ky hS5 hk2 _=>?_);simp only[Bool.not_true,Bool.false_eq_true,if_false];exact wpS_pure ⟨zs2,k2,rfl,hS5,by omega⟩
   .rintro c st2⟨zs,k,rfl,hZ,hk⟩;exact⟨zs,k,rfl,hZ,by omega⟩
   .rintro c st2⟨zs,k,rfl,hZ,hk⟩;dsimp only;have hz:=big hZ;refine wpS_pure (q zs st2 hZ.arr hZ.fail hZ.perm ?_);match k,hk,hZ.Tz with|[],_,e=>have e:0=x0.size:=e;intro i j _ _ _;omega|[r],_,⟨_,_,g,e⟩=>have e:0+r.2.1=x0.size:=e;rw[e]at g;rwa[hz]
end
end HH
end
section
namespace HH
open PySem PySem.W PyProof.Rows PySem.Calls L2 PySem.Spec
theorem Ao{α β:Type}{f:α->β}{l' m:List β}(h:l'.Perm m):∀{l:List α},m=l.map f->∃k:List α,k.Perm l/\k.map f=l':=by induction h with
 |nil=>intro l e;cases l with|nil=>exact⟨[],.refl _,rfl⟩|cons _ _=>cases e
 |cons x h ih=>intro l e;cases l with|nil=>cases e|cons a l=>obtain⟨e1,e2⟩:=List.cons.inj e;obtain⟨k,h1,h2⟩:=ih e2;exact⟨a::k,h1.cons a,by rw[List.map_cons,h2,e1]⟩
 |swap x y l0=>intro l e;match l,e with|a::b::l,e=>obtain⟨e1,e2⟩:=List.cons.inj e;obtain⟨e3,e4⟩:=List.cons.inj e2;exact⟨b::a::l,.swap ..,by rw[List.map_cons,List.map_cons,e1,e3,e4]⟩
 |trans h1 h2 ih1 ih2=>intro l e;obtain⟨k,p1,e1⟩:=ih2 e;obtain⟨k2,p2,e2⟩:=ih1 e1.symm;exact⟨k2,p2.trans p1,e2⟩
theorem Iv(a:List Int):bB a a=false:=by cases h:bB a a with|false=>rfl|true=>rw[kJ _ _ h]at h;cases h
theorem Ed{a b x:List Int}(h:bB b a=false)(hx:bB x a=true):bB x b=true:=by cases e:bB x b with|true=>rfl|false=>rw[yl _ _ _ h e]at hx;cases hx
theorem qH{α:Type}{p q:α->Bool}(h:∀x,p x=true->q x=true):∀{l:List α},(∃x,x∈l/\q x=true/\p x=false)->l.countP p<l.countP q
 |[],⟨x,hx,_⟩=>by cases hx|y::l,⟨x,hx,h1,h2⟩=>by
   rw[List.countP_cons,List.countP_cons];have m:=List.countP_mono_left (l:=l) (p:=p) (q:=q) fun x _=>h x;rcases List.mem_cons.mp hx with rfl|hx;.rw[h1,h2,if_pos rfl,if_neg (by simp)];omega
   .have:=qH h ⟨x,hx,h1,h2⟩;cases hp:p y with|true=>rw[h y hp];omega|false=>rw[if_neg (by simp)];omega
noncomputable def Qg(ds:List D)(d:D):Nat:=ds.countP fun e=>bB (bR e) (bR d)
theorem Dz{ds:List D}{d e:D}(hd:d∈ds):decide ((Qg ds d:Int)<Qg ds e)=bB (bR d) (bR e):=by cases h:bB (bR d) (bR e)with|true=>have:=qH (l:=ds) (p:=fun x=>bB (bR x) (bR d)) (q:=fun x=>bB (bR x) (bR e)) (fun x hx=>Ed (kJ _ _ h) hx) ⟨d,hd,h,Iv _⟩;rw[decide_eq_true_iff];unfold Qg;omega|false=>have:=List.countP_mono_left (l:=ds) (p:=fun x=>bB (bR x) (bR e)) (q:=fun x=>bB (bR x) (bR d)) fun x _ hx=>Ed h hx;rw[decide_eq_false_iff_not];unfold Qg;omega
open Classical in
noncomputable def rkK(P:Value->D->Prop)(ds:List D)(x:Keyed):Int:=if h:∃d,d∈ds/\P x.1 d then(Qg ds h.choose:Int)else 0
theorem zY{P:Value->D->Prop}{ds:List D}{x:Keyed}{d:D}(fn:∀u d e,P u d->P u e->bR d=bR e)(hd:d∈ds)(hp:P x.1 d):rkK P ds x=Qg ds d:=by have h:∃d,d∈ds/\P x.1 d:=⟨d,hd,hp⟩;unfold rkK;rw[dif_pos h];unfold Qg;rw[fn _ _ _ h.choose_spec.2 hp]
noncomputable def pick{α:Type}(d:α)(p:List Nat)(l:List α):List α:=p.map fun i=>l.getD i d
theorem oJ{α:Type}(d:α)(l:List α):pick d (List.range l.length) l=l:=by refine List.ext_getElem (by simp[pick]) fun i h1 h2=>?_;simp[pick,h2]
theorem pq{α:Type}{d:α}{p:List Nat}{l:List α}{n:Nat}(h:p.Perm (List.range n)):(pick d p l).length=n:=by rw[pick,List.length_map,h.length_eq,List.length_range]
theorem jt{P:Value->D->Prop}:∀{us:List Value}{ds:List D},Paired P us ds->∀i,i<us.length->P (us.getD i .none) (ds.getD i .non)/\ds.getD i .non∈ds|_,_,.cons r _,0,_=>⟨by simpa using r,by simp⟩|_,_,.cons _ t,i+1,hi=>by have:=jt t i (by simpa using hi);exact⟨by simpa using this.1,by simpa using Or.inr this.2⟩
section
variable{prog:Program}{w:World}{A:Around}{E:Value->Shared->Prop}{s:Shared}{vs:List Value}{κ:SortKind}{P:Value->D->Prop}{ds:List D}
theorem BP{a:Addr}{n:Nat}{O:PySem.Fin->Shared->Prop}(ho:s.heap.get? a=some (seqObj "list" vs.toArray n))(so:sortable ds=true)(hz:vs.length<=16777216)(pr:Paired P vs ds)(fn:∀u d e,P u d->P u e->bR d=bR e)(hk:∀h',(∀b o,b≠a->s.heap.get? b=some o->h'.get? b=some o)->∀C:SortKind->Shared->Prop,C κ {s with heap:=h'}->2<=vs.length->wpAny (model prog w) A (keyKind' vs.toArray) C (fun _ _=>False) {s with heap:=h'})(hl:∀h',(∀b o,b≠a->s.heap.get? b=some o->h'.get? b=some o)->∀u v d e,P u d->P v e->∀C:Bool->Shared->Prop,C (bB (bR d) (bR e)) {s with heap:=h'}->wpAny (model prog w) A (keyLt' κ u v) C (fun _ _=>False) {s with heap:=h'})(h:∀h' c p,(∀b o,b≠a->s.heap.get? b=some o->h'.get? b=some o)->p.Perm (List.range vs.length)->pick .non p ds=qu ds->h'.get? a=some (seqObj "list" (pick .none p vs).toArray c)->O (.done (.ret .none)) {s with heap:=h'}):wpAny (model prog w) A (Builtin.«list.sort» ⟨[.ref a],[]⟩) O E s:=by
 have ha:a<s.heap.objs.size:=Heap.lt_size ho;have hld:vs.length=ds.length:=Paired.length pr;obtain⟨e1,ho1⟩:∃e1,(s.heap.update a (Obj.mapSeq fun _=>(#[]:Array Value))).get? a=some (seqObj "list" #[] e1):=⟨_,get?_update_seq ho fun _=>#[]⟩;rw[list_sort_plain];refine wpAny_bind (listItems_at ho rfl ?_);refine wpAny_bind (listUpdate_at ho rfl ?_ (by rw[List.size_toArray,sizeLine_eq];omega) (Nat.zero_le _));refine wpAny_bind (seqEpoch_at ho1 rfl ?_);refine wpAny_bind (wpAny_newTuple ?_ (by show vs.length<=_;rw[sizeLine_eq];omega));refine wpAny_bind (wpAny_newList ?_ (Nat.zero_le _));refine wpAny_holding ?_;generalize hH:(((s.heap.update a (Obj.mapSeq fun _=>(#[]:Array Value))).push {cls:=.type "tuple",data:=.seq vs.toArray}).push {cls:=.type "list",data:=.seq #[]}:Heap)=H1;have W9:H1.get? a=some (seqObj "list" #[] e1):=by rw[<-hH];exact Heap.get?_push_of_some _ (Heap.get?_push_of_some _ ho1)
 have keep:∀b o,b≠a->s.heap.get? b=some o->H1.get? b=some o:=fun b o hb e=>by rw[<-hH];exact Heap.get?_push_of_some _ (Heap.get?_push_of_some _ ((Heap.get?_update_other _ _ (Ne.symm hb)).trans e))
 have fin:∀p:List Nat,p.Perm (List.range vs.length)->pick .non p ds=qu ds->O (.done (.ret .none)) {s with heap:=H1.update a (Obj.mapSeq fun _=>List.toArray (pick .none p vs))}:=by intro p h1 h2;obtain⟨c2,hc2⟩:∃c2,(H1.update a (Obj.mapSeq fun _=>List.toArray (pick Value.none p vs))).get? a=some (seqObj "list" (pick Value.none p vs).toArray c2):=⟨_,get?_update_seq W9 fun _=>List.toArray (pick Value.none p vs)⟩;exact h _ c2 p (fun b o hb e=>(Heap.get?_update_other _ _ (Ne.symm hb)).trans (keep b o hb e)) h1 h2 hc2
 show wpAny (model prog w) A _ O E {s with heap:=H1};dsimp only;by_cases h2:vs.toArray.size<2
 . rw[if_pos h2,if_pos h2];refine wpAny_bind (wpAny_pure ?_);rw[StateT.run_pure];refine wpAny_bind (wpAny_pure ?_);dsimp only;have eo:(arrOf (SortSt.mk' general' (vs.toArray.zip vs.toArray) #[] 7 none)).map (·.2)=List.toArray (pick Value.none (List.range vs.length) vs):=by rw[oJ];apply Array.toList_inj.mp;show((vs.toArray.zip vs.toArray).map (·.2)).toList=vs;simp[List.map_snd_zip]
   rw[eo];refine wpAny_bind (seqEpoch_at W9 rfl ?_);refine wpAny_bind (listUpdate_at W9 rfl ?_ (Nat.zero_le _) (by rw[List.size_toArray,pq (.refl _),sizeLine_eq];omega));simp only[bne_self_eq_false,Bool.false_eq_true,if_false];refine wpAny_pure (fin _ (.refl _) ?_);rw[hld,oJ];refine wB so (.refl _) ?_;match ds,(show ds.length<2 by simp at h2;omega)with|[],_=>exact .nil|[_],_=>exact List.pairwise_singleton ..|_::_::_,h2=>simp at h2;omega
 . rw[if_neg h2,if_neg h2];have h2':2<=vs.length:=by simpa using h2
   refine wpAny_bind (hk H1 keep _ ?_ h2'|>fun q=>wpAny_mono q (fun _ _ x=>x) fun _ _ x=>x.elim);have hzl:(vs.toArray.zip vs.toArray).toList=(List.range vs.length).map fun i=>(vs.getD i Value.none,vs.getD i Value.none):=by
    refine List.ext_getElem (by simp) fun i h1 h2=>?_;have:i<vs.length:=by simpa using h2
    simp[this]
   have okk:∀x∈(vs.toArray.zip vs.toArray).toList,∃d,d∈ds/\P x.1 d:=fun x hx=>by rw[hzl]at hx;obtain⟨i,hi,rfl⟩:=List.mem_map.mp hx;have:=jt pr i (List.mem_range.mp hi);exact⟨_,this.2,this.1⟩
   have R:Rk (model prog w) A E {s with heap:=H1} κ (fun x=>∃d,d∈ds/\P x.1 d) (rkK P ds):=⟨by rintro x y Q st⟨d,d1,d2⟩⟨e,e1,e2⟩hkd hq;rw[zY fn d1 d2,zY fn e1 e2,Dz d1]at hq;rw[lt'_eq];refine wpS_bind (wpS_get ?_);rw[hkd];refine wpS_bind (wpS_lift (wpAny_attempt (wpAny_mono (hl H1 keep x.1 y.1 d e d2 e2 (fun b s'=>s'={s with heap:=H1}/\b=bB (bR d) (bR e)) ⟨rfl,rfl⟩) ?_ fun _ _ h=>h.elim)));rintro b s'⟨rfl,rfl⟩;exact⟨rfl,wpS_pure hq⟩⟩;have run:=IV R (x0:=vs.toArray.zip vs.toArray) (st:=SortSt.mk' κ (vs.toArray.zip vs.toArray) #[] 7 none) (Q:=fun _ st'=>∃p:List Nat,p.Perm (List.range vs.length)/\pick .non p ds=qu ds/\(arrOf st').map (·.2)=(pick Value.none p vs).toArray/\failedOf st'=none) ⟨rfl,rfl,rfl,rfl,.refl _,okk,rfl,Nat.zero_le _⟩ fun ys st' e1 e2 e3 e4=>by
     rw[hzl]at e3;obtain⟨p,p1,p2⟩:=Ao e3 rfl;have hpl:p.length=vs.length:=by rw[p1.length_eq,List.length_range]
     have hys:ys.size=vs.length:=by rw[<-Array.length_toList,<-p2,List.length_map,hpl]
     refine⟨p,p1,wB so ?_ ?_,?_,e2⟩;.have:=p1.map fun i=>ds.getD i .non;rw[hld]at this;exact this.trans (.of_eq (oJ D.non ds))
     . rw[List.pairwise_iff_getElem];intro i j hi hj hij;simp only[pick,List.length_map]at hi hj;have sg:=e4 i j (Nat.zero_le _) (by omega) (by omega);have at':∀k(hk:k<p.length),it ys k=(vs.getD p[k] .none,vs.getD p[k] .none):=fun k hk=>by rw[iJ,<-p2];simp[hk]
       have inn:∀k(hk:k<p.length),p[k]<vs.length:=fun k hk=>List.mem_range.mp (p1.mem_iff.mp (List.getElem_mem hk));rw[at' i hi,at' j hj]at sg;have a1:=jt pr p[i] (inn i hi);have a2:=jt pr p[j] (inn j hj);rw[zY fn a1.2 a1.1,zY fn a2.2 a2.1]at sg;simp only[pick,List.getElem_map,nQ,Bool.not_eq_true'];rw[<-Dz a2.2,decide_eq_false_iff_not];omega
     .apply Array.toList_inj.mp;rw[e1,Array.toList_map,<-p2,List.map_map];rfl
   refine wpAny_bind (wpAny_mono run ?_ fun _ _ e=>e);rintro⟨⟨⟩,st'⟩s'⟨rfl,p,p1,p2,hout,hf⟩;dsimp only;rw[hout];refine wpAny_bind (seqEpoch_at W9 rfl ?_);refine wpAny_bind (listUpdate_at W9 rfl ?_ (Nat.zero_le _) (by rw[List.size_toArray,pq p1,sizeLine_eq];omega));rw[hf];simp only[bne_self_eq_false,Bool.false_eq_true,if_false];exact wpAny_pure (fin _ p1 p2)
end
end HH
end
section
namespace HH
open PySem L2 PySem.Spec PyProof.Rows PySem.Calls PySem.W
section
variable{prog:Program}{w:World}{A:Around}{E:Value->Shared->Prop}{s:Shared}{vs:List Value}{κ:SortKind}{P:Value->D->Prop}{ds:List D}
theorem m5{l:Addr}{Q:Value->Shared->Prop}(hl:s.heap.IsList l vs.toArray)(so:sortable ds=true)(hz:vs.length<=16777216)(pr:Paired P vs ds)(fn:∀u d e,P u d->P u e->bR d=bR e)(hk:∀h',(∀b o,s.heap.get? b=some o->h'.get? b=some o)->∀C:SortKind->Shared->Prop,C κ {s with heap:=h'}->2<=vs.length->wpAny (model prog w) A.in1.in1 (keyKind' vs.toArray) C (fun _ _=>False) {s with heap:=h'})(hlt:∀h',(∀b o,s.heap.get? b=some o->h'.get? b=some o)->∀u v d e,P u d->P v e->∀C:Bool->Shared->Prop,C (bB (bR d) (bR e)) {s with heap:=h'}->wpAny (model prog w) A.in1.in1 (keyLt' κ u v) C (fun _ _=>False) {s with heap:=h'})(h:∀h' c p,(∀b o,s.heap.get? b=some o->h'.get? b=some o)->p.Perm (List.range vs.length)->pick .non p ds=qu ds->h'.get? (s.heap.objs.size+1)=some (seqObj "list" (pick .none p vs).toArray c)->Q (.ref (s.heap.objs.size+1)) {s with heap:=h'}):wpAny (model prog w) A (call (.builtin "sorted") [.ref l]) Q E s:=by
 refine Calls.call_function_entry kind_sorted plain_sorted entry_sorted (args_sorted1 _) ?_;unfold Builtin.«sorted»;refine wpAny_bind (m:=checkCount "sorted" 1 1 _) (wpAny_pure ?_);refine wpAny_bind (collect_list hl ?_ (by rw[sizeLine_eq];omega));refine wpAny_bind (wpAny_newList ?_ (by rw[sizeLine_eq];omega));generalize hH:((s.heap.push (seqObj "list" #[] 0)).update s.heap.objs.size (Obj.mapSeq (·++vs.toArray)):Heap)=H1;have hsz:H1.objs.size=s.heap.objs.size+1:=by rw[<-hH,Heap.size_update,size_push']
 have keep:∀b o,s.heap.get? b=some o->H1.get? b=some o:=fun b o q=>by rw[<-hH,Heap.get?_update_ne _ _ _ _ (Nat.ne_of_lt (Heap.lt_size q))];exact Heap.get?_push_of_some _ q
 generalize hG:(H1.push {cls:=.type "list",data:=.seq vs.toArray}:Heap)=H2;have ho:H2.get? (s.heap.objs.size+1)=some (seqObj "list" vs.toArray 0):=by rw[<-hG,<-hsz];exact Heap.get?_push_size _ rfl
 have Hf:∀b o,s.heap.get? b=some o->H2.get? b=some o:=fun b o q=>by rw[<-hG];exact Heap.get?_push_of_some _ (keep b o q)
 have hne:∀b o,s.heap.get? b=some o->b≠s.heap.objs.size+1:=fun b o q=>Nat.ne_of_lt (Nat.lt_succ_of_lt (Heap.lt_size q));show wpAny _ _ _ _ _ {s with heap:=H2};rw[hsz];refine wpAny_bind (wpAny_holding (wpAny_call_entry slot_list_sort ⟨_,ho,rfl⟩ entry_list_sort ?body (args_list_sort _)));case body=>refine BP (s:={s with heap:=H2}) (κ:=κ) ho so hz pr fn (fun h' k' C hC h2=>hk h' (fun b o q=>k' b o (hne b o q) (Hf b o q)) C hC h2) (fun h' k' u v d e hd he C hC=>hlt h' (fun b o q=>k' b o (hne b o q) (Hf b o q)) u v d e hd he C hC) fun h' c p k' p1 p2 e=>?_;exact⟨_,rfl,wpAny_pure ⟨_,rfl,h h' c p (fun b o q=>k' b o (hne b o q) (Hf b o q)) p1 p2 e⟩⟩
theorem nj{b fin:Bool}{Q:Bool->Shared->Prop}:∀{xs ys:List Value}{is js:List Int}{i:Nat},IntsAre xs is->IntsAre ys js->fin=decide (is.length<js.length)->Q (bB is js) s->KatLex prog w A b fin Q (xs.zip ys) i s
 |_,_,_,_,_,.nil,.nil,e,h=>by subst e;exact kat_nil (by simpa[bB]using h)|_,_,_,_,_,.nil,.cons _ _ _,e,h=>by subst e;exact kat_nil (by simpa[bB]using h)|_,_,_,_,_,.cons _ _ _,.nil,e,h=>by subst e;exact kat_nil (by simpa[bB]using h)|_,_,_,_,i,.cons (ns:=is) x t r,.cons (ns:=js) y u r',e,h=>by
   refine kat_cons (wpAny_eqBool_int ?_);by_cases q:x=y;.subst q;rw[beq_self_eq_true];refine kat_yes (nj r r' (by rw[e];simp) ?_);simpa[bB]using h
   . rw[beq_eq_false_iff_ne.mpr q];refine kat_no ?_;have hx:Q (decide (x<y)) s:=by simpa[bB,q]using h
     cases(b&&i==0)with|true=>exact oneLt_int hx|false=>exact kat_one _ _ (wpAny_lt_int hx)
noncomputable def oV(h:Heap)(u:Value)(d:D):Prop:=∃a its is,u=.ref a/\IsTup h a (List.toArray its)/\IntsAre its is/\is≠[]/\bR d=is
theorem mV{h h':Heap}(k:∀b o,h.get? b=some o->h'.get? b=some o){u:Value}{d:D}(t:oV h u d):oV h' u d:=by obtain⟨a,its,is,e,⟨o,h1,h2⟩,h3⟩:=t;exact⟨a,its,is,e,⟨o,k _ _ h1,h2⟩,h3⟩
theorem qy{h h':Heap}(k:∀b o,h.get? b=some o->h'.get? b=some o):∀{us:List Value}{ds:List D},Paired (oV h) us ds->Paired (oV h') us ds|_,_,.nil=>.nil|_,_,.cons r t=>.cons (mV k r) (qy k t)
theorem m6{h:Heap}:∀{us:List Value}{ds:List D},Paired (oV h) us ds->∃fs,KatTups h us fs/\fs.length=us.length/\∀f∈fs,∃n t,f=Value.int n t|_,_,.nil=>⟨[],trivial,rfl,by simp⟩|_,_,.cons r t=>by obtain⟨fs,h1,h2,h3⟩:=m6 t;obtain⟨a,its,is,rfl,⟨o,o1,o2,n,o3⟩,hi,hne,_⟩:=r;cases hi with|nil=>exact absurd rfl hne|cons x tk r'=>
     refine⟨.int x tk::fs,KatTups.cons o1 o2 o3 (by simp) h1,by simp[h2],fun f hf=>?_⟩;rcases List.mem_cons.mp hf with rfl|hf;.exact⟨_,_,rfl⟩
     .exact h3 f hf
theorem Av{ds:List D}(t:Paired (oV s.heap) vs ds)(h2:2<=vs.length){C:SortKind->Shared->Prop}(hC:C (tuples' (Value.type "int"!=Value.type "tuple")) s):wpAny (model prog w) A (keyKind' vs.toArray) C E s:=by obtain⟨fs,h1,h3,h4⟩:=m6 t;refine kat_kind (T:=.type "int") h1 (by omega) (fun v hv=>?_) rfl hC;obtain⟨n,t,rfl⟩:=h4 v hv;exact Looks.now
theorem Kq{x y:Value}{d e:D}(hx:oV s.heap x d)(hy:oV s.heap y e){b:Bool}{C:Bool->Shared->Prop}(hC:C (bB (bR d) (bR e)) s):wpAny (model prog w) A (keyLt' (tuples' b) x y) C E s:=by obtain⟨a,its,is,rfl,⟨o,o1,o2,n,o3⟩,hi,hne,e1⟩:=hx;obtain⟨a',its',js,rfl,⟨o',p1,p2,n',p3⟩,hj,hne',e2⟩:=hy;refine kat_lt o1 o3 p1 p3 ?_;rw[e1,e2]at hC;refine nj (is:=is) (js:=js) (by simpa using hi) (by simpa using hj) ?_ hC;rw[List.size_toArray,List.size_toArray,IntsAre.length hi,IntsAre.length hj]
end
theorem Br{xs:List V}{us:List Value}(h:Vals xs us)(i:Nat):RelV (xs.getD i .non) (us.getD i .none):=by
 have hl:=h.length;by_cases hi:i<xs.length
 . obtain⟨u,e,r⟩:=h.get (i:=i) (x:=xs[i]) (List.getElem?_eq_getElem hi);have e1:xs.getD i .non=xs[i]:=by simp[hi]
   have e2:us.getD i .none=u:=by simp[e]
   rw[e1,e2];exact r
 . have e1:xs.getD i .non=.non:=by simp[Nat.le_of_not_lt hi]
   have e2:us.getD i .none=.none:=by simp[show us.length<=i by omega]
   rw[e1,e2];rfl
theorem wj{f:Nat->V}{g:Nat->Value}(h:∀i,RelV (f i) (g i)):∀l:List Nat,Vals (l.map f) (l.map g)|[]=>.nil|i::l=>.cons (h i) (wj h l)
theorem EY{p:List Nat}{xs:List V}{us:List Value}(h:Vals xs us):Vals (pick .non p xs) (pick .none p us):=wj (Br h) _
theorem vJ{K:PySem.W.Frag}{F:Hp}{f:Nat->V}{g:Nat->D}(h:∀i,Rep K F (f i) (g i)):∀l:List Nat,aL K F (l.map f) (l.map g)|[]=>.nil|i::l=>.cons (h i) (vJ h l)
theorem Fy{K:PySem.W.Frag}{F:Hp}{p:List Nat}{xs:List V}{ds:List D}(h:aL K F xs ds):aL K F (pick .non p xs) (pick .non p ds):=vJ (fun i=>by
 have hl:=h.length;by_cases hi:i<ds.length
 . obtain⟨u,e,r⟩:=h.get (i:=i) (d:=ds[i]) (List.getElem?_eq_getElem hi);have e1:ds.getD i .non=ds[i]:=by simp[hi]
   have e2:xs.getD i .non=u:=by simp[e]
   rw[e1,e2];exact r
 . have e1:ds.getD i .non=.non:=by simp[Nat.le_of_not_lt hi]
   have e2:xs.getD i .non=.non:=by simp[show xs.length<=i by omega]
   rw[e1,e2,Rep]) _
noncomputable def Ei(u:Value)(d:D):Prop:=∃n t,u=.int n t/\bR d=[n]
theorem JT(u:Value)(d e:D):Ei u d->Ei u e->bR d=bR e:=fun⟨n,t,h1,h2⟩⟨m,t',h3,h4⟩=>by rw[h1]at h3;cases h3;rw[h2,h4]
theorem Iu{prog:Program}{w:World}{A:Around}{E:Value->Shared->Prop}{s:Shared}{x y:Value}{d e:D}(hx:Ei x d)(hy:Ei y e){C:Bool->Shared->Prop}(hC:C (bB (bR d) (bR e)) s):wpAny (model prog w) A (keyLt' oneType' x y) C E s:=by obtain⟨n,t,rfl,k1⟩:=hx;obtain⟨m,t',rfl,k2⟩:=hy;refine kat_lt_int ?_;rw[k1,k2,show bB [n] [m]=decide (n<m)by simp[bB]]at hC;exact hC
theorem Mh:∀{us:List Value}{ns:List Int},IntsAre us ns->Paired Ei us (ns.map D.int)|_,_,.nil=>.nil|_,_,.cons n t r=>.cons ⟨n,t,rfl,rfl⟩ (Mh r)
theorem El{us:List Value}:∀{ns ms:List Int},IntsAre us ns->IntsAre us ms->ns=ms:=by induction us with|nil=>intro ns ms h1 h2;cases h1;cases h2;rfl|cons u us ih=>intro ns ms h1 h2;cases h1 with|cons n t r=>cases h2 with|cons m t' r'=>rw[ih r r']
theorem Jo{h:Heap}(u:Value)(d e:D):oV h u d->oV h u e->bR d=bR e:=fun⟨a,its,is,h1,⟨o,o1,o2,n,o3⟩,h3,_,h4⟩⟨b,jts,js,g1,⟨o',p1,p2,m,p3⟩,g3,_,g4⟩=>by rw[h1]at g1;cases g1;rw[o1]at p1;cases p1;rw[o3]at p3;cases p3;rw[h4,g4,El h3 g3]
theorem all_ints:∀{ds:List D},ds.all eZ=true->ds=(ds.map gA).map D.int
 |[],_=>rfl|d::ds,h=>by
   simp only[List.all_cons,Bool.and_eq_true]at h;cases d<;>first|(have q:=h.1;simp[eZ]at q;done)|skip
   rw[List.map_cons,List.map_cons,<-all_ints h.2];rfl
theorem intsAre_of:∀{ns:List Int}{us:List Value},Vals (ns.map V.int) us->IntsAre us ns|[],_,.nil=>.nil|n::ns,_,.cons r t=>by obtain⟨tk,rfl⟩:=r;exact .cons n tk (intsAre_of t)
section
variable{X:Cx}{c:Call}{a:Expr}{pa:P}{pos:Pos}
theorem zA{pins:List (Addr×Obj)}{σ:L2.St}{F H:Hp}{s:Shared}(I:L2.Inv X pins σ H s)(sm:aP F H):∀{ds:List D}{ys:List V}{us:List Value},aL X.K F ys ds->Vals ys us->ds.all qj=true->Paired (oV s.heap) us ds|[],ys,us,h,v,_=>by rw[h.gG]at v;cases v;exact .nil|d::ds,ys,us,h,v,o=>by obtain⟨y,r,rfl,h1,h2⟩:=h.cG;simp only[List.all_cons,Bool.and_eq_true]at o;cases v with|cons v1 v2=>
     refine .cons ?_ (zA I sm h2 v2 o.2);cases d<;>first|(have q:=o.1;simp[qj]at q;done)|skip
     rename_i ds';cases ds' with|nil=>exact absurd o.1 (by simp[qj])|cons x xs=>obtain⟨ad,zs,rfl,hq,rs,_⟩:=eN.tup sm (.inl h1);cases v1;obtain⟨its,rv,it,_⟩:=I.tuple hq;rw[all_ints o.1]at rs;rw[dU rs]at rv;exact⟨ad,its,_,rfl,it,intsAre_of rv,by simp,rfl⟩
theorem DW:dq X (.builtin "sorted") (DR X.K fun x=>blt .sorted [x]):=by
 rintro pins s σ H xs us Q I r⟨x,hx,F,d,r',sm,px,he,k⟩;have zz:=aW (show(pH d).bind (fun ds=>if sortable ds then some (.own (qu ds))else none)=some r' from he);clear he;obtain⟨ds,e2,he⟩:=zz
 cases d with|lst ds'=>
   cases e2;obtain⟨p,ys,rfl,hq,rs⟩:=px.lst sm;subst hx;obtain⟨u,rfl,rx⟩:=r.one;cases rx;obtain⟨its,rv,pl,hz⟩:=I.list hq;by_cases so:sortable ds=true
   . rw[if_pos so]at he;cases he;have hl:its.length=ds.length:=by rw[<-rv.length,rs.length]
     have so':=so;simp only[sortable,Bool.and_eq_true,Bool.or_eq_true,decide_eq_true_eq]at so';have fin:∀h' c p,(∀b o,s.heap.get? b=some o->h'.get? b=some o)->p.Perm (List.range its.length)->pick .non p ds=qu ds->h'.get? (s.heap.objs.size+1)=some (seqObj "list" (pick .none p its).toArray c)->EP X pins σ Q (.ref (s.heap.objs.size+1)) {s with heap:=h'}:=by
      intro h' c p kp p1 p2 e;refine⟨.ref (s.heap.objs.size+1),_,I.laid (t':=s.toks) (o:=.lst (pick .non p ys)) (h':=h') kp (Nat.le_succ _) ⟨by rw[pq p1,<-rv.length];exact hz,pick .none p its,c,EY rv,e⟩,rfl,?_⟩;have rs2:aL X.K F (pick .non p ys) (qu ds):=by rw[<-p2];exact Fy rs
      exact Bg sm rs2 (I.hok.fresh (Nat.le_succ _)) k
     rcases so'.2 with oi|ot
     . have rs':=rs;rw[all_ints oi]at rs';have ia:IntsAre its (ds.map gA):=intsAre_of (by rw[<-dU rs'];exact rv);refine m5 (vs:=its) (κ:=oneType') pl.isList so (by omega) (by have:=Mh ia;rwa[<-all_ints oi]at this) JT (fun h' kp C hC h2=>?_) (fun h' kp u v d e hd he C hC=>?_) fin;.match its,ia,h2 with|v1::v2::rest,ia,_=>rw[keyKind_ints ia];exact wpAny_pure hC
       .exact Iu hd he hC
     .have tt:=zA I sm rs rv ot;refine m5 (vs:=its) (κ:=tuples' (Value.type "int"!=Value.type "tuple")) pl.isList so (by omega) tt Jo (fun h' kp C hC h2=>Av (s:={s with heap:=h'}) (qy kp tt) h2 hC) (fun h' kp u v d e hd he C hC=>?_) fin;exact Kq (s:={s with heap:=h'}) (mV kp hd) (mV kp he) hC
   .rw[if_neg so]at he;cases he|_=>cases e2
theorem boot_sorted:bootBuiltins "sorted"=some (.builtin "sorted"):=by decide+kernel
theorem qz{x:Str}{p':Pos}(hx:x="sorted")(hg:Gl X x)(hm:X.mg x=none)(ha:SX X c a pa)(hs:starEach [a] X.env=(false,eval a X.env)::starEach [] X.env:=by rfl):SX X c (.Call (.Name x p') [a] [] pos) (.blt .sorted [pa]):=by subst hx;exact jL (fun h=>dG DW hg hm boot_sorted h (he:=hs)) ha (fun ρ=>rfl) rfl hs
end
end HH
end
section
namespace HH
open PySem L2 PySem.Spec PyProof.Rows PySem.Calls
theorem wY(l b:Addr)(items items2:List Value)(n n2:Nat)(dd dd2:Option Addr)(sl sl2:Array (Option Value))(is js:List Int)(hi:IntsAre items is)(hj:IntsAre items2 js):Meets (Builtin.«tuple.__lt__» ⟨[.ref l,.ref b],[]⟩) (fun A R s=>s.heap.get? l=some {cls:=.type "tuple",dict:=dd,data:=.seq items.toArray n,slots:=sl}/\s.heap.get? b=some {cls:=.type "tuple",dict:=dd2,data:=.seq items2.toArray n2,slots:=sl2}/\R (.ok (.ret (.bool (bB is js)))) s):=.of_wp fun prog w A R s h=>by
  obtain⟨hp,g,d,tk,os⟩:=s;obtain⟨hl,hb,h⟩:=h;have f2:=AutoSeq1.sub_tuple_tuple;wp_walk using wpAny_loadPart' hl,wpAny_loadPart' hb,wpAny_forIn_list _ (fun rest b s'=>b.1=none/\s'=⟨hp,g,d,tk,os⟩/\∃xs ys is' TQ,rest=xs.zip ys/\IntsAre xs is'/\IntsAre ys TQ/\decide (items.length<items2.length)=decide (is'.length<TQ.length)/\R (.ok (.ret (.bool (bB is' TQ)))) ⟨hp,g,d,tk,os⟩) _;case turn=>rintro⟨y,x⟩rest b s'⟨hb',rfl,xs,ys,is',TQ,hz,h1,h2,h3,hR⟩;cases h1 with|nil=>cases hz|cons p t h1=>cases h2 with|nil=>cases hz|cons q u h2=>
       injection hz with hyx hrest;cases hyx;refine wpAny_bind (wpAny_eqBool_int ?_);by_cases e:p=q;.subst e;rw[beq_self_eq_true];wp_walk;exact⟨rfl,rfl,_,_,_,_,hrest,h1,h2,by rw[h3];simp,by simpa[bB]using hR⟩
       . rw[beq_eq_false_iff_ne.mpr e];have hR':R (.ok (.ret (.bool (decide (p<q))))) ⟨hp,g,d,tk,os⟩:=by simpa[bB,e]using hR
         simp only[Bool.not_false,if_true];refine wpAny_bind (wpAny_rule ?_);refine wpAny_bind (show wpAny (model prog w) A.in1 (compareOp .Lt (Value.int p t) (Value.int q u)) _ _ _ from wpAny_lt_int ?_);refine wpAny_bind (wpAny_pure ?_);exact wpAny_pure (wpAny_pure ⟨_,rfl,hR'⟩)
  case fin=>
   rintro⟨b1,b2⟩s'⟨hb',rfl,xs,ys,is',TQ,hz,h1,h2,h3,hR⟩;simp only at hb';subst hb';have e:bB is' TQ=decide (items.length<items2.length):=by rw[h3];cases h1 with|nil=>cases h2<;>simp[bB]|cons _ _ _=>cases h2 with|nil=>simp[bB]|cons _ _ _=>cases hz
   rw[e]at hR;wp_walk;exact⟨_,rfl,by simpa[Builtin.Tuple.tupleCompareSizes]using hR⟩
  case h=>exact⟨rfl,rfl,items,items2,is,js,by simp,hi,hj,by rw[IntsAre.length hi,IntsAre.length hj],h⟩
section
variable{X:Cx}
theorem NZ(hu:X.A.units+8<cLine):gY X (compareOp .Lt) (rD X.K (uC .lt)):=by rintro pins s σ H x y v u Q I rx ry⟨F,d,e,r,sm,px,py,he,k⟩;obtain⟨t,e1,e2⟩:=map_some (show(Ud d e).map _=some r from he);subst e2;cases d with
 |int i=>cases e with|int j=>exact MT pins s σ H x y v u Q I rx ry ⟨F,.int i,.int j,_,sm,px,py,by have e2:Hw (fun i j=>decide (i<j)) (.int i) (.int j)=some t:=e1;simp only[e2];rfl,k⟩|_=>cases e1
 |tup xs=>cases e with|tup ys=>obtain⟨hc,e1⟩:=bw (show(if(xs.all eZ&&ys.all eZ)=true then some (bB (xs.map gA) (ys.map gA))else none)=some t from e1);rw[Bool.and_eq_true]at hc;obtain⟨a,vs,rfl,h1,h2,_⟩:=px.tup sm;obtain⟨b,ws,rfl,h3,h4,_⟩:=py.tup sm;cases rx;cases ry;obtain⟨its,rv,it,_⟩:=I.tuple h1;obtain⟨its2,Rf,it2,_⟩:=I.tuple h3;rw[all_ints hc.1]at h2;rw[all_ints hc.2]at h4;rw[dU h2]at rv;rw[dU h4]at Rf;have i1:=intsAre_of rv;have i2:=intsAre_of Rf;obtain⟨⟨cls,dd,data,sl⟩,ho,hc1,n,hd⟩:=it;obtain⟨⟨cls2,dd2,data2,sl2⟩,ho2,hc2,n2,hd2⟩:=it2;simp only at hc1 hd hc2 hd2;subst hc1 hd hc2 hd2;refine(show wpAny (model X.prog X.w) X.A (richCompare .Lt (.ref a) (.ref b)) _ _ s from richCompare_meets_room (op:=.Lt) ⟨_,ho,rfl⟩ ⟨_,ho2,rfl⟩ PySem.F.slot_tuple_lt PySem.F.entry_tuple_lt (PySem.F.args_tuple_lt_2 _ _) (wY a b its its2 n n2 dd dd2 sl sl2 _ _ i1 i2) ⟨ho,ho2,show Value.bool _≠Value.notImplemented/\_ from⟨(fun x=>nomatch x),⟨.bl t,H,I,by rw[<-e1];rfl,cC.dJ sm (lB _) k⟩⟩⟩ (by omega))|_=>cases e1
 |_=>cases e1
end
end HH
end
section
namespace L2
open PySem PySem.Spec PyProof.Rows
end L2
namespace L2
open PySem PySem.Spec PyProof.Rows
end L2
namespace L2
open PySem PySem.Spec PyProof.Rows
end L2
namespace L2
open PySem PySem.Spec PyProof.Rows
end L2
namespace L2
open PySem PySem.Spec PyProof.Rows
end L2
namespace L2
open PySem PySem.Spec PyProof.Rows
end L2
namespace L2
open PySem PySem.Spec PyProof.Rows
end L2
namespace L2
open PySem PySem.Spec PyProof.Rows
end L2
namespace L2
open PySem PySem.Spec PyProof.Rows
end L2
namespace L2
open PySem PySem.Spec PyProof.Rows
end L2
namespace L2
open PySem PySem.Spec PyProof.Rows
section
variable{κ:Type}[DecidableEq κ]
noncomputable def lG(kvs:List (κ×V))(k:κ):Option V:=(kvs.find? fun kv=>decide (kv.1=k)).map (·.2)
noncomputable def putK(kvs:List (κ×V))(k:κ)(v:V):List (κ×V):=if(kvs.any fun kv=>decide (kv.1=k))=true then kvs.map (fun kv=>if kv.1=k then(kv.1,v)else kv)else kvs++[(k,v)]
theorem pZ{p:κ×V}{r:List (κ×V)}{k:κ}(e:p.1=k):lG (p::r) k=some p.2:=by simp[lG,List.find?_cons,e]
theorem o5{p:κ×V}{r:List (κ×V)}{k:κ}(e:¬ p.1=k):lG (p::r) k=lG r k:=by simp[lG,List.find?_cons,e]
theorem uD(k:κ):∀kvs:List (κ×V),(kvs.any fun kv=>decide (kv.1=k))=(lG kvs k).isSome
 |[]=>rfl|p::r=>by
   rw[List.any_cons];by_cases e:p.1=k;.simp only[pZ e,decide_eq_true e,Bool.true_or,Option.isSome_some]
   .rw[o5 e,decide_eq_false e,Bool.false_or];exact uD k r
theorem ni(kvs:List (κ×V))(k:κ)(v:V):(putK kvs k v).length<=kvs.length+1:=by
 unfold putK;split;.rw[List.length_map];omega
 .rw[List.length_append,List.length_cons,List.length_nil];omega
theorem nG.Az{o:Option V}{u:Option Value}(r:nG o u):o.isSome=u.isSome:=by cases o with
 |none=>cases u with|none=>rfl|some _=>exact(show False from r).elim
 |some _=>cases u with|none=>exact(show False from r).elim|some _=>rfl
theorem nG.getD{o:Option V}{u:Option Value}{d:V}{d':Value}(r:nG o u)(rd:RelV d d'):RelV (o.getD d) (u.getD d'):=by cases o with
 |none=>cases u with|none=>exact rd|some _=>exact(show False from r).elim
 |some _=>cases u with|none=>exact(show False from r).elim|some _=>exact r
theorem KV.val{kvs:List (κ×V)}{vs:List (κ×Value)}(r:KV kvs vs)(k:κ):nG (lG kvs k) (valueAt vs k):=by unfold KV at r;induction r with|nil=>exact True.intro|@cons p q ps qs h t ih=>
   obtain⟨h1,h2⟩:=h;by_cases e:p.1=k
   . have e':q.1=k:=h1.symm.trans e;have b:valueAt (q::qs) k=some q.2:=by simp[valueAt,List.find?_cons,e']
     rw[pZ e,b];exact h2
   . have e':¬ q.1=k:=fun z=>e (h1.trans z);have b:valueAt (q::qs) k=valueAt qs k:=by simp[valueAt,List.find?_cons,e']
     rw[o5 e,b];exact ih
theorem KV.any{kvs:List (κ×V)}{vs:List (κ×Value)}(r:KV kvs vs)(k:κ):(kvs.any fun kv=>decide (kv.1=k))=vs.any fun kv=>decide (kv.1=k):=by unfold KV at r;induction r with|nil=>rfl|cons h t ih=>rw[List.any_cons,List.any_cons,ih,h.1]
theorem KV.repl{kvs:List (κ×V)}{vs:List (κ×Value)}(r:KV kvs vs)(k:κ){y:V}{u:Value}(ry:RelV y u):KV (kvs.map fun kv=>if kv.1=k then(kv.1,y)else kv) (vs.map fun kv=>if kv.1=k then(kv.1,u)else kv):=by unfold KV at r ⊢;induction r with|nil=>exact .nil|@cons p q ps qs h t ih=>
   rw[List.map_cons,List.map_cons];refine .cons ?_ ih;obtain⟨h1,h2⟩:=h;by_cases e:p.1=k;.rw[if_pos e,if_pos (h1.symm.trans e)];exact⟨h1,ry⟩
   .rw[if_neg e,if_neg (fun z=>e (h1.trans z))];exact⟨h1,h2⟩
theorem KV.put{kvs:List (κ×V)}{vs:List (κ×Value)}(r:KV kvs vs)(k:κ){y:V}{u:Value}(ry:RelV y u):KV (putK kvs k y) (stored vs k u):=by
 unfold putK stored;rw[r.any k];by_cases e:(vs.any fun kv=>decide (kv.1=k))=true;.rw[if_pos e,if_pos e];exact r.repl k ry
 .rw[if_neg e,if_neg e];exact Paired.snoc r ⟨rfl,ry⟩
theorem KV.length{kvs:List (κ×V)}{vs:List (κ×Value)}(r:KV kvs vs):kvs.length=vs.length:=Paired.length r
end
theorem Aa{P:Program}{w:World}{k:Key}{u:Value}(r:RelV (kV k) u):(bT P w).is k u=true:=by cases k with|inl i=>obtain⟨t,e⟩:=(show ∃t,u=Value.int i t from r);subst e;exact uR P w i t|inr x=>obtain⟨t,e⟩:=(show ∃t,u=Value.str x t from r);subst e;exact vA P w x t
theorem qF{P:Program}{w:World}:∀{ks:List Key}{us:List Value},Vals (ks.map kV) us->ItemsAre (bT P w) ks us|[],_,r=>by rw[List.map_nil]at r;cases r;exact .nil|k::ks,_,r=>by rw[List.map_cons]at r;cases r with|cons h t=>exact .cons (Aa h) (qF t)
noncomputable abbrev KT(H:Hp):List (List Key×V)->List (List Key×Addr×Value)->Prop:=Paired fun p q=>p.1=q.1/\H q.2.1=some (.tup (p.1.map kV))/\RelV p.2 q.2.2
theorem KT.val{H:Hp}{kvs:List (List Key×V)}{xs:List (List Key×Addr×Value)}(r:KT H kvs xs)(k:List Key):nG (lG kvs k) ((atKey xs k).map (·.2)):=by induction r with|nil=>exact True.intro|@cons p q ps qs h t ih=>
   obtain⟨h1,_,h2⟩:=h;by_cases e:p.1=k
   . have e':q.1=k:=h1.symm.trans e;have b:atKey (q::qs) k=some q.2:=by simp[atKey,List.find?_cons,e']
     rw[pZ e,b];exact h2
   . have e':¬ q.1=k:=fun z=>e (h1.trans z);have b:atKey (q::qs) k=atKey qs k:=by simp[atKey,List.find?_cons,e']
     rw[o5 e,b];exact ih
theorem KT.repl{H:Hp}{kvs:List (List Key×V)}{xs:List (List Key×Addr×Value)}(r:KT H kvs xs)(k:List Key){y:V}{u:Value}(ry:RelV y u):KT H (kvs.map fun kv=>if kv.1=k then(kv.1,y)else kv) (xs.map (putAt k u)):=by induction r with|nil=>exact .nil|@cons p q ps qs h t ih=>
   rw[List.map_cons,List.map_cons];refine .cons ?_ ih;obtain⟨h1,h2,h3⟩:=h;unfold putAt;by_cases e:p.1=k;.rw[if_pos e,if_pos (h1.symm.trans e)];exact⟨h1,h2,ry⟩
   .rw[if_neg e,if_neg (fun z=>e (h1.trans z))];exact⟨h1,h2,h3⟩
theorem KT.put{H:Hp}{kvs:List (List Key×V)}{xs:List (List Key×Addr×Value)}(r:KT H kvs xs)(k:List Key){b:Addr}{y:V}{u:Value}(hb:H b=some (.tup (k.map kV)))(ry:RelV y u):KT H (putK kvs k y) (storedH xs k b u):=by
 have e:(kvs.any fun kv=>decide (kv.1=k))=(atKey xs k).isSome:=by rw[uD,(r.val k).Az,Option.isSome_map]
 unfold putK storedH;rw[e];by_cases q:(atKey xs k).isSome=true;.rw[if_pos q,if_pos q];exact r.repl k ry
 .rw[if_neg q,if_neg q];exact Paired.snoc r ⟨rfl,hb,ry⟩
theorem KT.keeps{H H':Hp}{kvs:List (List Key×V)}{xs:List (List Key×Addr×Value)}(r:KT H kvs xs)(ht:∀b ys,H b=some (.tup ys)->H' b=some (.tup ys)):KT H' kvs xs:=Paired.Qk r fun _ _ z=>⟨z.1,ht _ _ z.2.1,z.2.2⟩
section
variable{P:Program}{w:World}{H:Hp}{h:Heap}{a:Addr}
theorem La{u:HO}(ok:lR P w H h)(e:Rd H a u):bU P w H h a u:=e.ok ok
theorem uQ{kvs:List (Key×V)}(ok:lR P w H h)(e:Rd H a (.dK kvs)):kvs.length<=sizeLine/\(a==sysModules)=false/\∃vs,KV kvs vs/\h.DictOf (bT P w) a vs:=show bU P w H h a (.dK kvs)from La ok e
theorem Ub{kvs:List (Key×V)}(ok:lR P w H h)(e:H a=some (.dK kvs)):kvs.length<=sizeLine/\(a==sysModules)=false/\∃vs,KV kvs vs/\h.DictOf (bT P w) a vs:=uQ ok (.inl e)
theorem uf{ks:List Key}(ok:lR P w H h)(e:H a=some (.tup (ks.map kV))):(tupleKind (bT P w)).is h ks a:=by obtain⟨_,its,r,o,h1,h2,n,h3⟩:=(show bU P w H h a (.tup (ks.map kV))from ok a _ e);exact⟨o,its.toArray,n,h1,h2,h3,by simpa using qF r⟩
theorem vN{kvs:List (List Key×V)}(ok:lR P w H h)(e:Rd H a (.dT kvs)):kvs.length<=sizeLine/\(a==sysModules)=false/\∃xs,KT H kvs xs/\h.DictOfH (tupleKind (bT P w)) a xs:=by
 obtain⟨z,y,xs,r,o,es,ep,h1,h2,h3,h4,h5⟩:=(show bU P w H h a (.dT kvs)from La ok e);refine⟨z,y,xs,r,o,es,ep,h1,h2,h3,h4,fun x hx=>?_,h5⟩;have all:∀{l:List (List Key×V)}{m:List (List Key×Addr×Value)},KT H l m->∀x∈m,(tupleKind (bT P w)).is h x.1 x.2.1:=by intro l m q;induction q with|nil=>intro x hx;exact nomatch hx|@cons p q ps qs hq t ih=>
    intro x hx;rcases List.mem_cons.mp hx with e|hx;.subst e;exact uf ok (by rw[<-hq.1];exact hq.2.1)
    .exact ih x hx
 exact all r x hx
theorem Uj{kvs:List (List Key×V)}(ok:lR P w H h)(e:H a=some (.dT kvs)):kvs.length<=sizeLine/\(a==sysModules)=false/\∃xs,KT H kvs xs/\h.DictOfH (tupleKind (bT P w)) a xs:=vN ok (.inl e)
end
noncomputable def xm(H:Hp)(a:Addr)(y:V)(r:Option V):Prop:=(∃kvs k,Rd H a (.dK kvs)/\y=kV k/\r=lG kvs k)\/∃kvs k b,Rd H a (.dT kvs)/\y=.ref b/\H b=some (.tup (k.map kV))/\r=lG kvs k
noncomputable def U6(H:Hp)(a:Addr)(y v:V)(H':Hp):Prop:=(∃kvs k,H a=some (.dK kvs)/\y=kV k/\kvs.length<sizeLine/\H'=upd H a (.dK (putK kvs k v)))\/∃kvs k b,H a=some (.dT kvs)/\y=.ref b/\H b=some (.tup (k.map kV))/\kvs.length<sizeLine/\H'=upd H a (.dT (putK kvs k v))
section
variable{X:Cx}{pins:List (Addr×Obj)}{σ:St}{H:Hp}{s:Shared}{a:Addr}{y v:V}{u r:Value}{o:Option V}{A:Around}{E:Value->Shared->Prop}
theorem Inv.big(I:Inv X pins σ H s):sysModules<s.heap.objs.size:=by have h:mainGlobals<s.heap.objs.size:=(I.mod.glob.keeps I.bk).lt;exact Nat.lt_trans (by decide) h
theorem rE{Q:Value->Shared->Prop}(hu:A.units+1<cLine)(I:Inv X pins σ H s)(g:xm H a y (some v))(ry:RelV y u)(h:∀w' s',Inv X pins σ H s'->RelV v w'->Q w' s'):wpAny (model X.prog X.w) A (getItem (.ref a) u) Q E s:=by
 rcases g with⟨kvs,k,e,ey,l⟩|⟨kvs,k,b,e,ey,eb,l⟩;.subst ey;obtain⟨z,hd,vs,rel,dd⟩:=uQ I.hok e;obtain⟨w',hw,BX⟩:=nG.some_of (v:=v) (o:=valueAt vs k) (by rw[l];exact rel.val k);exact wpAny_getItem_of (Aa ry) dd.mapOf hw (h w' _ (I.tok _) BX)
 .subst ey;cases(show u=Value.ref b from ry);obtain⟨z,hd,xs,rel,dd⟩:=vN I.hok e;obtain⟨w',hw,BX⟩:=nG.some_of (v:=v) (o:=(atKey xs k).map (·.2)) (by rw[l];exact rel.val k);obtain⟨p,hp,hp2⟩:=Option.map_eq_some_iff.mp hw;refine wpAny_getItem_heap (tupleKind_room_in1 hu) (uf I.hok eb) dd hp ?_;rw[hp2];exact h w' _ (I.tok _) BX
theorem yP{h':Heap}{t':Nat}{ob:HO}(I:Inv X pins σ H s)(mu:U0 (H a))(hs:Heap.SameBut a s.heap h')(he:∃q,h'.get? a=some q)(new:bU X.prog X.w (upd H a ob) h' a ob):Inv X pins σ (upd H a ob) {s with heap:=h',toks:=t'}:=I.write (x:=a) (e:=a) mu (.inl rfl) (fun b q hb z=>(hs.2 b hb).trans z) he new
theorem Nk{P:Program}{w:World}{H':Hp}{h':Heap}{kvs:List (Key×V)}{vs:List (Key×Value)}(z:kvs.length<=sizeLine)(hd:(a==sysModules)=false)(rel:KV kvs vs)(dd:h'.DictOf (bT P w) a vs):bU P w H' h' a (.dK kvs):=⟨z,hd,vs,rel,dd⟩
theorem Bj{H':Hp}{Q:Unit->Shared->Prop}(hu:A.units+1<cLine)(I:Inv X pins σ H s)(g:U6 H a y v H')(ry:RelV y u)(rv:RelV v r)(h:∀s',Inv X pins σ H' s'->Q () s'):wpAny (model X.prog X.w) A (setItem (.ref a) u r) Q E s:=by
 rcases g with⟨kvs,k,e,ey,l,eH⟩|⟨kvs,k,b,e,ey,eb,l,eH⟩
 . subst ey eH;obtain⟨z,hd,vs,rel,dd⟩:=Ub I.hok e;have hz:vs.length<=sizeLine:=by rw[<-rel.length];exact z
   have hl:(putK kvs k v).length<=sizeLine:=by have:=ni kvs k v;omega
   refine wpAny_setItem_pairs (hsz:=hz) (Aa ry) dd fun h' Y4 hs=>h _ ?_;have he:∃q,h'.get? a=some q:=let⟨q,_,_,hq,_⟩:=Y4;⟨q,hq⟩;exact yP I (by rw[e];exact True.intro) hs he (Nk hl hd (rel.put k rv) Y4)
 . subst ey eH;cases(show u=Value.ref b from ry);obtain⟨z,hd,xs,rel,dd⟩:=Uj I.hok e;have hz:xs.length<=sizeLine:=by rw[<-Paired.length rel];exact z
   have hl:(putK kvs k v).length<=sizeLine:=by have:=ni kvs k v;omega
   refine wpAny_setItem_heap (hsz:=hz) (tupleKind_room_in1 hu) (uf I.hok eb) dd fun h' Y4 hs=>h _ ?_;obtain⟨q,es,ep,hq,h2,h3,h4,_,h5⟩:=Y4;refine yP I (by rw[e];exact True.intro) hs ⟨q,hq⟩ ⟨hl,hd,_,(rel.put k eb rv).keeps fun c ys ec=>?_,q,es,ep,hq,h2,h3,h4,h5⟩;rw[aK (Wh ec e (fun z=>nomatch z))];exact ec
end
noncomputable def Jd(i:Expr):Prop:=∀ov iv,subscripted i false ov iv=operate [ov,iv] (getItem ov iv)
theorem zW{prog:Program}{w:World}{A:Around}{E:Value->Shared->Prop}{s:Shared}{env:Env}{value slice:Expr}{pos:Pos}{T id:String}{Q:Value->Shared->Prop}(hl:typeLookup (.type T) "__getitem__"=pure (some (.builtin id)))(hs:Jd slice)(h:wpAny (model prog w) A (eval value env) (fun o s₁=>wpAny (model prog w) A (eval slice env) (fun i s₂=>s₂.TypeIs o T/\wpAny (model prog w) A (getItem o i) Q E s₂) E s₁) E s):wpAny (model prog w) A (eval (.Subscript value slice pos) env) Q E s:=by
 refine Subscript_ (wpAny_mono h (fun o s₁ h₁=>wpAny_mono h₁ (fun i s₂ h₂=>?_) fun _ _ x=>x) fun _ _ x=>x);obtain⟨hT,h₂⟩:=h₂;unfold subscriptTail;refine wpAny_bind ?_;rw[getitemInPython_of_ne hT.not_modules];refine wpAny_bind (wpAny_specialOf hT hl ?_);have fin:wpAny (model prog w) A (subscripted slice false o i) (fun r s₃=>wpAny (model prog w) A (letTemporaryGo value o r>>=fun _=>pure r) Q E s₃) E s₂:=by rw[hs o i];exact wpAny_operating (wpAny_mono h₂ (fun r s₃ h₃=>wpAny_bind (wpAny_letTemporaryGo (wpAny_pure h₃))) fun _ _ x=>x)
 first|exact wpAny_pure (wpAny_bind fin)|exact wpAny_bind (wpAny_pure (wpAny_bind fin))|exact wpAny_bind fin
theorem m8{X:Cx}{pins:List (Addr×Obj)}{σ:St}{H:Hp}{s:Shared}{a:Addr}{y:V}{o:Option V}(I:Inv X pins σ H s)(g:xm H a y o):s.TypeIs (.ref a) "dict":=by
 rcases g with⟨kvs,k,e,_,_⟩|⟨kvs,k,b,e,_,_,_⟩;.obtain⟨_,_,vs,_,dd⟩:=uQ I.hok e;exact dd.typeIs
 .obtain⟨_,_,xs,_,dd⟩:=vN I.hok e;exact dd.typeIs
noncomputable def Ws(td ty:TE):TE:=fun σ H Q=>td σ H fun x H1=>ty σ H1 fun y H2=>∃a v,x=.ref a/\xm H2 a y (some v)/\Q v H2
noncomputable def Vw(td ty tv:TE):TS:=fun D σ H=>tv σ H fun v H1=>td σ H1 fun x H2=>ty σ H2 fun y H3=>∃a H4,x=.ref a/\U6 H3 a y v H4/\D.nx σ H4
section
variable{X:Cx}{o i e value:Expr}{pos pos' tpos:Pos}{td ty tv:TE}
theorem Jt(hu:X.A.units+1<cLine)(ho:PE X o td)(hi:PE X i ty)(hs:Jd i):PE X (.Subscript o i pos) (Ws td ty):=by intro pins s σ H Q I h;refine zW PySem.F.slot_dict_getitem.lookup hs (dz (ho pins s σ H _ I h) fun u s1⟨x,H1,I1,rx,q1⟩=>dz (hi pins s1 σ H1 _ I1 q1) fun iv s2⟨y,H2,I2,ry,a,v,ex,g,q2⟩=>?_);subst ex;obtain rfl:u=Value.ref a:=rx;exact⟨m8 I2 g,rE hu I2 g ry fun w' s3 I3 BX=>⟨v,H2,I3,BX,q2⟩⟩
theorem zG(hu:X.A.units+1<cLine)(ho:PE X o td)(hi:PE X i ty)(hv:PE X value tv)(hs:swapsWith value (some (.Subscript o i pos')) pos.line X.env=pure false):PS X (.Assign [.Subscript o i pos'] value pos) (Vw td ty tv):=by intro pins s σ H D I h;refine wpAny_Assign_Subscript (dz (hv pins s σ H _ I h) fun r s1⟨v,H1,I1,rv,q1⟩=>dz (ho pins s1 σ H1 _ I1 q1) fun u s2⟨x,H2,I2,rx,q2⟩=>dz (hi pins s2 σ H2 _ I2 q2) fun iv s3⟨y,H3,I3,ry,a,H4,ex,g,q3⟩=>?_) hs;subst ex;obtain rfl:u=Value.ref a:=rx;exact Bj hu I3 g ry rv fun s4 I4=>⟨σ,H4,I4,q3⟩
end
theorem Gh{P:Program}{w:World}{H:Hp}(h:Heap)(hb:sysModules<h.objs.size):bU P w H (h.push {cls:=.type "dict",data:=.dict #[]}) h.objs.size (.dK []):=⟨Nat.zero_le _,beq_eq_false_iff_ne.mpr (Ne.symm (Nat.ne_of_lt hb)),[],.nil,Heap.DictOf.new h⟩
theorem Gr{P:Program}{w:World}{H:Hp}(h:Heap)(hb:sysModules<h.objs.size):bU P w H (h.push {cls:=.type "dict",data:=.dict #[]}) h.objs.size (.dT []):=⟨Nat.zero_le _,beq_eq_false_iff_ne.mpr (Ne.symm (Nat.ne_of_lt hb)),[],.nil,_,#[],0,Heap.get?_push_size _ rfl,⟨rfl,rfl,rfl⟩,rfl,rfl,List.nodup_nil⟩
noncomputable def Qd:TE:=fun _ H Q=>∀p,H p=none->Q (.ref p) (upd H p (.dK []))
noncomputable def Nv:TE:=fun _ H Q=>∀p,H p=none->Q (.ref p) (upd H p (.dT []))
section
variable{X:Cx}{pos:Pos}
theorem CV:PE X (.Dict [] [] pos) Qd:=fun pins s σ H Q I h=>wpAny_Dict_empty ⟨.ref s.heap.objs.size,_,I.laid (a:=s.heap.objs.size) (o:=.dK []) (t':=s.toks) (fun _ _ q=>Heap.get?_push_of_some _ q) (Nat.le_refl _) (Gh s.heap I.big),rfl,h _ (I.hok.fresh (Nat.le_refl _))⟩
theorem Dk:PE X (.Dict [] [] pos) Nv:=fun pins s σ H Q I h=>wpAny_Dict_empty ⟨.ref s.heap.objs.size,_,I.laid (a:=s.heap.objs.size) (o:=.dT []) (t':=s.toks) (fun _ _ q=>Heap.get?_push_of_some _ q) (Nat.le_refl _) (Gr s.heap I.big),rfl,h _ (I.hok.fresh (Nat.le_refl _))⟩
end
structure M2(X:Cx)(o:Expr)(m:Str)(apos:Pos)(e f:Expr)(cpos:Pos):Prop where
 base:attributeBase o m X.env (eval o X.env)=eval o X.env
 few:((backTo cpos (starEach [e,f] X.env)).all (fun x=>!x.1)&&(backToKw cpos (keywordEach [] X.env)).all (fun x=>x.1.isSome)&&decide (([e,f]:List Expr).length+([]:List Keyword).length+(if([]:List Keyword).isEmpty then 0 else 1)<30))=true
 line:(apos.endLine==cpos.line)=true
 trees:backTo cpos (starEach [e,f] X.env)=[(false,eval e X.env),(false,eval f X.env)]
noncomputable def IsD(H:Hp)(a:Addr):Prop:=(∃kvs,Rd H a (.dK kvs))\/∃kvs,Rd H a (.dT kvs)
theorem Qe{X:Cx}{pins:List (Addr×Obj)}{σ:St}{H:Hp}{s:Shared}{a:Addr}(I:Inv X pins σ H s)(d:IsD H a):s.TypeIs (.ref a) "dict"/\(∀b,Value.ref a=.ref b->∃ob,s.heap.get? b=some ob/\ob.dict=none)/\(a==sysModules)=false:=by
 rcases d with⟨kvs,e⟩|⟨kvs,e⟩;.obtain⟨_,hd,vs,_,dd⟩:=uQ I.hok e;refine⟨dd.typeIs,fun b q=>?_,hd⟩;cases q;obtain⟨ob,_,_,h1,h2,_⟩:=dd;exact⟨ob,h1,h2.2.1⟩
 .obtain⟨_,hd,xs,_,dd⟩:=vN I.hok e;refine⟨dd.typeIs,fun b q=>?_,hd⟩;cases q;obtain⟨ob,_,_,h1,h2,_⟩:=dd;exact⟨ob,h1,h2.2.1⟩
section
variable{X:Cx}{pins:List (Addr×Obj)}{σ:St}{H:Hp}{s:Shared}{a:Addr}{y d:V}{u r:Value}{o:Option V}{A:Around}{E:Value->Shared->Prop}
theorem Od{Q:Value->Shared->Prop}(hu:A.units+1<cLine)(I:Inv X pins σ H s)(g:xm H a y o)(ry:RelV y u)(rd:RelV d r)(h:∀w' s',Inv X pins σ H s'->RelV (o.getD d) w'->Q w' s'):wpAny (model X.prog X.w) A (call (.builtin "dict.get") [.ref a,u,r]) Q E s:=by
 rcases g with⟨kvs,k,e,ey,l⟩|⟨kvs,k,b,e,ey,eb,l⟩;.subst ey;obtain⟨z,hd,vs,rel,dd⟩:=uQ I.hok e;refine call_meetsIn PySem.F.slot_dict_get dd.typeIs PySem.F.entry_dict_get (PySem.F.args_dict_get_3 _ _ _) (meets_dict_get_default (bT X.prog X.w) a (Aa ry) hd r) ⟨_,dd.mapOf,h _ _ (I.tok _) ?_⟩;rw[l];exact(rel.val k).getD rd
 .subst ey;cases(show u=Value.ref b from ry);obtain⟨z,hd,xs,rel,dd⟩:=vN I.hok e;refine call_meetsIn PySem.F.slot_dict_get dd.typeIs PySem.F.entry_dict_get (PySem.F.args_dict_get_3 _ _ _) (meetsH_dict_get_default (tupleKind (bT X.prog X.w)) a b hd r) ⟨tupleKind_room_in1 hu,k,xs,uf I.hok eb,dd,h _ _ (I.tok _) ?_⟩;rw[l];exact(rel.val k).getD rd
end
noncomputable def PQ(td ty tx:TE):TE:=fun σ H Q=>td σ H fun x H1=>∃a,x=.ref a/\IsD H1 a/\ty σ H1 fun y H2=>tx σ H2 fun z H3=>∃o,xm H3 a y o/\Q (o.getD z) H3
section
variable{X:Cx}{o e f:Expr}{apos cpos:Pos}{td ty tx:TE}
theorem vd(hu:X.A.units+1<cLine)(ho:PE X o td)(he:PE X e ty)(hf:PE X f tx)(m:M2 X o "get" apos e f cpos):PE X (.Call (.Attribute o "get" apos) [e,f] [] cpos) (PQ td ty tx):=by intro pins s σ H Q I h;refine wpAny_Call_method m.base m.few m.line PySem.F.plainAttrs_dict PySem.F.slot_dict_get PySem.F.type_dict_get (dz (ho pins s σ H _ I h) fun u s1⟨x,H1,I1,rx,a,ex,d,q1⟩=>?_);subst ex;obtain rfl:u=Value.ref a:=rx;obtain⟨t1,t2,_⟩:=Qe I1 d;refine⟨t1,t2,?_⟩;rw[m.trees];refine Calls.callWith_builtin rfl (Calls.evalArgs_plain (Calls.spliced_cons (dz (he pins s1 σ H1 _ I1 q1) fun iv s2⟨y,H2,I2,ry,q2⟩=>Calls.spliced_cons (dz (hf pins s2 σ H2 _ I2 q2) fun fv s3⟨z,H3,I3,rz,ov,g,q3⟩=>Calls.spliced_nil ?_))));exact Od hu I3 g ry rz fun w' s4 I4 BX=>⟨_,H3,I4,BX,q3⟩
end
end L2
namespace YQ
open PySem PySem.W PySem.Calls PyProof.Rows
end YQ
namespace L2
open PySem PySem.Spec PyProof.Rows
end L2
namespace L2
open PySem PySem.Spec PyProof.Rows
end L2
namespace L2
open PySem PySem.Spec PyProof.Rows
end L2
end
section
namespace HH
open PySem L2 PySem.Spec PyProof.Rows
section
variable{K:PySem.W.Frag}{F F1 H H1:Hp}{ρ ρ1 ρ2:List Sl}{σ σ1:L2.St}
theorem GS.Ve{x:Nat}{m m':Dc}{a:Addr}(g:GS K F ρ σ H)(e:ρ[x]?=some (.cM m))(hx:σ[x]?=some (some (.ref a))):bF K F ρ σ H F (ρ.set x (.cM m')) σ (upd H a m'.ho):=by
 have hi:x<ρ.length:=(List.getElem?_eq_some_iff.mp e).1;have oa:bA ρ σ x a:=⟨⟨_,_,e,rfl⟩,hx⟩;obtain⟨a',o0,h1,h2,h3,h4⟩:=g.own x _ _ e rfl;rw[hx]at h1;cases h1;have old:∀{j:Nat}{c:Addr},bA (ρ.set x (.cM m')) σ j c->bA ρ σ j c:=fun{j c}⟨⟨t,dt,q1,q2⟩,q3⟩=>by
  by_cases hj:j=x;.subst hj;exact⟨⟨_,_,e,rfl⟩,q3⟩
  .rw[List.getElem?_set_ne (Ne.symm hj)]at q1;exact⟨⟨t,dt,q1,q2⟩,q3⟩
 refine⟨⟨fun c o q=>?_,by simp[g.len],fun j b' d q=>?_,fun j t dt q q'=>?_,fun j k c q1 q2=>g.dis j k c (old q1) (old q2)⟩,.refl _,fun c n n'=>absurd n n',fun c o q n=>?_,fun c⟨j,q⟩=>.inl ⟨j,old q⟩,by simp,fun j t q l=>⟨rfl,?_⟩⟩
 . have:c≠a:=by rintro rfl;rw[h3]at q;cases q
   rw[aK this];exact g.sub c o q
 . by_cases hj:j=x;.subst hj;rw[List.getElem?_set_self hi]at q;cases q
   .rw[List.getElem?_set_ne (Ne.symm hj)]at q;exact g.val j b' d q
 . by_cases hj:j=x;.subst hj;rw[List.getElem?_set_self hi]at q;cases q;cases q';exact⟨a,_,hx,aX,h3,rfl⟩
   . rw[List.getElem?_set_ne (Ne.symm hj)]at q;obtain⟨c,zs,w1,w2,w3,w4⟩:=g.own j t dt q q';have:c≠a:=by rintro rfl;exact hj (g.dis j x c ⟨⟨t,dt,q,q'⟩,w1⟩ oa)
     exact⟨c,zs,w1,by rw[aK this];exact w2,w3,w4⟩
 . have:c≠a:=by rintro rfl;exact n ⟨x,oa⟩
   rw[aK this];exact q
 . by_cases hj:j=x;.subst hj;rw[e]at q;cases q;cases l
   .exact⟨t,by rw[List.getElem?_set_ne (Ne.symm hj)];exact q,.refl t⟩
theorem GS.newD{i:Nat}{m:Dc}{a:Addr}(g:GS K F ρ σ H)(e:ρ[i]?=some .au)(ha:H a=none):bF K F ρ σ H F (ρ.set i (.cM m)) (σ.set i (some (.ref a))) (upd H a m.ho):=by
 have hi:i<ρ.length:=(List.getElem?_eq_some_iff.mp e).1;have hi':i<σ.length:=by rw[<-g.len];exact hi
 have fa:F a=none:=by cases q:F a with|none=>rfl|some o=>rw[g.sub a o q]at ha;cases ha
 have old:∀{j:Nat}{c:Addr},j≠i->bA (ρ.set i (.cM m)) (σ.set i (some (.ref a))) j c->bA ρ σ j c:=fun{j c}hj⟨⟨t,ds,e1,e2⟩,e3⟩=>by rw[List.getElem?_set_ne (Ne.symm hj)]at e1 e3;exact⟨⟨t,ds,e1,e2⟩,e3⟩
 have new:∀{c:Addr},bA (ρ.set i (.cM m)) (σ.set i (some (.ref a))) i c->c=a:=fun{c}⟨_,e3⟩=>by rw[List.getElem?_set_self hi']at e3;cases e3;rfl
 have no:∀{j:Nat},¬ bA ρ σ j a:=fun{j}⟨⟨t,ds,e1,e2⟩,e3⟩=>by obtain⟨c,o,q1,q2,_⟩:=g.own j t ds e1 e2;rw[e3]at q1;cases q1;rw[ha]at q2;cases q2
 refine⟨⟨fun c o q=>?_,by simp[g.len],fun j b' d q=>?_,fun j t dt q q'=>?_,fun j k c q1 q2=>?_⟩,.refl _,fun c n n'=>absurd n n',fun c o q n=>?_,fun c⟨j,q⟩=>?_,by simp,fun j t q l=>?_⟩
 . have:c≠a:=by rintro rfl;rw[fa]at q;cases q
   rw[aK this];exact g.sub c o q
 . by_cases hj:j=i;.subst hj;rw[List.getElem?_set_self hi]at q;cases q
   .rw[List.getElem?_set_ne (Ne.symm hj)]at q ⊢;exact g.val j b' d q
 . by_cases hj:j=i;.subst hj;rw[List.getElem?_set_self hi]at q;cases q;cases q';exact⟨a,_,List.getElem?_set_self hi',aX,fa,rfl⟩
   . rw[List.getElem?_set_ne (Ne.symm hj)]at q ⊢;obtain⟨c,o,w1,w2,w3,w4⟩:=g.own j t dt q q';have:c≠a:=by rintro rfl;rw[ha]at w2;cases w2
     exact⟨c,o,w1,by rw[aK this];exact w2,w3,w4⟩
 . by_cases hj:j=i
   . by_cases hk:k=i;.rw[hj,hk]
     .subst hj;rw[new q1]at q2;exact absurd (old hk q2) no
   . by_cases hk:k=i;.subst hk;rw[new q2]at q1;exact absurd (old hj q1) no
     .exact g.dis j k c (old hj q1) (old hk q2)
 . have:c≠a:=by rintro rfl;rw[ha]at q;cases q
   rw[aK this];exact q
 . by_cases hj:j=i;.subst hj;rw[new q];exact .inr ha
   .exact .inl ⟨j,old hj q⟩
 . have hj:j≠i:=by rintro rfl;rw[e]at q;cases q;cases l
   exact⟨by rw[List.getElem?_set_ne (Ne.symm hj)],t,by rw[List.getElem?_set_ne (Ne.symm hj)];exact q,.refl t⟩
end
noncomputable def xM(p:Int×Int):Key×V:=(Sum.inl p.1,V.int p.2)
theorem GD(i:Int):∀kvs:List (Int×Int),lG (kvs.map xM) (Sum.inl i:Key)=((kvs.find? fun kv=>decide (kv.1=i)).map (·.2)).map V.int
 |[]=>rfl|p::kvs=>by
   have ih:=GD i kvs;unfold lG at ih ⊢;rw[List.map_cons,List.find?_cons,List.find?_cons];by_cases h:p.1=i
   . have e:decide ((xM p).1=(Sum.inl i:Key))=true:=by simp[xM,h]
     rw[e];simp[h,xM]
   . have e:decide ((xM p).1=(Sum.inl i:Key))=false:=by simp[xM,h]
     rw[e];simp only[h,decide_false];exact ih
theorem Nf(i v:Int)(kvs:List (Int×Int)):putK (kvs.map xM) (Sum.inl i:Key) (V.int v)=(putD kvs i v).map xM:=by
 have e:((kvs.map xM).any fun kv=>decide (kv.1=(Sum.inl i:Key)))=kvs.any fun kv=>decide (kv.1=i):=by rw[List.any_map];congr 1;funext p;simp[xM]
 unfold putK putD;rw[e];split
 . rw[List.map_map,List.map_map];refine List.map_congr_left fun p _=>?_;by_cases h:p.1=i;.simp[xM,h]
   .simp[xM,h]
 .rw[List.map_append];rfl
section
variable{X:Cx}{c:Call}{n:Nat}{a b e:Expr}{pa pb p:P}{pos:Pos}
theorem DK{H:Hp}{q:Addr}{m:Dc}{i:Int}{o:Option Int}(h:Rd H q m.ho)(e:m.get (.int i)=some o):xm H q (.int i) (o.map V.int):=by cases m with|k kvs=>cases e;exact .inl ⟨kvs.map xM,Sum.inl i,h,rfl,(GD i kvs).symm⟩|t kvs=>cases e
theorem yM(hu:X.A.units+8<cLine)(ha:SX X c a pa)(hb:SX X c b pb)(hs:Jd b):SX X c (.Subscript a b pos) (.bin .G8 pa pb):=by refine sy (f:=qt) (fun h1 h2=>?_) ha hb (fun ρ=>rfl) rfl;intro pins s σ H Q I h;refine zW PySem.F.slot_dict_getitem.lookup hs (dz (h1 pins s σ H _ I h) fun u s1⟨x,H1,I1,rx,q1⟩=>dz (h2 pins s1 σ H1 _ I1 q1) fun iv s2⟨y,H2,I2,ry,q2⟩=>?_);obtain⟨F,d,e,r,sm,px,py,he,k⟩:=q2;cases d with
 |cD m=>have zz:=aW (show(m.get e).bind (fun o=>o.map fun v=>R.val (.int v))=some r from he);clear he;obtain⟨o,e1,he⟩:=zz;cases o with|none=>cases he|some v=>
     cases he;obtain⟨i,rfl⟩:∃i,e=.int i:=by cases m with|t kvs=>cases e<;>cases e1|k kvs=>cases e<;>first|exact⟨_,rfl⟩|cases e1
     obtain⟨q,ob,rfl,hq⟩:=px.cD sm;rw[py.int]at ry;obtain rfl:u=Value.ref q:=rx;have g:=DK (.inr ⟨ob,hq⟩) e1;exact⟨m8 I2 g,rE (by omega) I2 g ry fun w' s3 I3 BX=>⟨.int v,H2,I3,BX,cC.dJ sm (bJ _) k⟩⟩
 |_=>cases he
theorem JV{i:Nat}{x:Str}{pos' p2:Pos}(hN:X.N.Nodup)(hi:X.N[i]?=some x)(hx:Loc X.env.scope x)(hs:swapsWith (.Dict [] [] p2) (some (.Name x pos')) pos.line X.env=pure false:=by rfl)(hf:X.fn x=true\/X.env.scope.names.lookup x=some .local:=by first|exact .inl rfl|exact .inr rfl|assumption):SS X c n (.Assign [.Name x pos'] (.Dict [] [] p2) pos) (.qm i false):=by
 refine dD (tK hN hi hx CV hs hf) ?_;rintro D σ H⟨F,ρ,fl,ρ',g,e,k⟩;rw[HH.X17]at e;split at e;.rename_i q;cases e;exact fun a ha=>k F _ _ (g.newD (m:=.k []) q ha)
 .cases e
theorem Eu{i:Nat}{x:Str}{px apos cpos:Pos}{pk pd:P}(hu:X.A.units+8<cLine)(hN:X.N[i]?=some x)(hv:sV X.env.scope x)(ha:SX X c a pk)(hb:SX X c b pd)(m:M2 X (.Name x px) "get" apos a b cpos)(hd:(x==("__debug__":Str))=false:=by decide)(hcd:(x==("__classdict__":Str))=false:=by decide):SX X c (.Call (.Attribute (.Name x px) "get" apos) [a,b] [] cpos) (.Rb i pk pd):=by
 obtain⟨ta,h1,h2⟩:=ha.bI;obtain⟨tb,h3,h4⟩:=hb.bI;refine⟨fU (vd (by omega) (dB hN hv hd hcd) h1 h3 m) ?_,fun i h=>by cases h⟩;rintro σ H Q⟨F,ρ,r,ρ',g,e,k⟩;rw[HH.E22]at e;split at e
 . rename_i m0 q;obtain⟨kd,ρ1,e1,eA⟩:=aj e;clear e;obtain⟨dd,ρ2,e2,eB⟩:=aj eA;clear eA;obtain⟨a0,o0,w1,w2,w3,w4⟩:=g.own i _ _ q rfl;refine⟨.ref a0,w1,a0,rfl,?_,?_⟩;.cases(show o0=m0.ho from w4);cases m0 with|k kvs=>exact .inl ⟨_,.inl w2⟩|t kvs=>exact .inr ⟨_,.inl w2⟩
   . refine h2 g e1 fun v F1 H1 s1 pv=>h4 s1.gs e2 fun z F2 H2 s2 pz=>?_;split at eB
     . rename_i m1 q1;obtain⟨eC,e3⟩:=aF eB;clear eB;subst e3;obtain⟨o,e4,eD⟩:=aW eC;clear eC;obtain⟨w,e5,e6⟩:=map_some eD;subst e6;obtain⟨a1,o1,y1,y2,y3,y4⟩:=s2.gs.own i _ _ q1 rfl;rw[w1]at y1;cases y1;cases(show o1=m1.ho from y4);obtain⟨j,rfl⟩:∃j,kd=.int j:=by cases m1 with|t kvs=>cases kd<;>cases e4|k kvs=>cases kd<;>first|exact⟨_,rfl⟩|cases e4
       rw[aY e5]at pz;rw[pv.int,pz.int];refine⟨o.map V.int,DK (.inl y2) e4,?_⟩;have:(o.map V.int).getD (V.int w)=V.int (o.getD w):=by cases o<;>rfl
       rw[this];exact k _ F2 H2 (s1.trans s2) (show Rep X.K F2 _ _ from bJ _)
     .cases eB
 .cases e
theorem Ab{i:Nat}{x:Str}{px pos':Pos}{pk:P}(hu:X.A.units+8<cLine)(hN:X.N[i]?=some x)(hv:sV X.env.scope x)(ha:SX X c a pk)(he:SX X c e p)(hs:swapsWith e (some (.Subscript (.Name x px) a pos')) pos.line X.env=pure false:=by rfl)(hd:(x==("__debug__":Str))=false:=by decide)(hcd:(x==("__classdict__":Str))=false:=by decide):SS X c n (.Assign [.Subscript (.Name x px) a pos'] e pos) (.dput i pk p):=by
 obtain⟨ta,h1,h2⟩:=ha.bI;refine dD (zG (by omega) (dB hN hv hd hcd) h1 he.ev hs) ?_;rintro D σ H⟨F,ρ,fl,ρ',g,e,k⟩;rw[HH.X18]at e;obtain⟨r,ρ1,e1,eA⟩:=aj e;clear e;refine⟨F,ρ,r,ρ1,g,e1,fun v F1 H1 s1 rr=>?_⟩;split at eA
 . rename_i m0 q0;obtain⟨kd,ρ2,e2,eB⟩:=aj eA;clear eA;obtain⟨a0,o0,w1,w2,w3,w4⟩:=s1.gs.own i _ _ q0 rfl;refine⟨.ref a0,w1,h2 s1.gs e2 fun y F2 H2 s2 py=>?_⟩;split at eB
   . rename_i m w q;split at eB;.rename_i m' e4;cases eB;obtain⟨a1,o1,y1,y2,y3,y4⟩:=s2.gs.own i _ _ q rfl;rw[w1]at y1;cases y1;cases(show o1=m.ho from y4);cases(show v=.int w by have:Rep X.K F1 v (.int w):=rr;rwa[Rep]at this);refine⟨a0,upd H2 a0 m'.ho,rfl,?_,k F2 σ _ ((s1.trans s2).trans (s2.gs.Ve q w1))⟩;cases m with|t kvs=>cases kd<;>cases e4|k kvs=>cases kd with|int j=>obtain⟨hl,e4⟩:=bw (show(if kvs.length<lim then some (Dc.k (putD kvs j w))else none)=some m' from e4);subst e4;rw[py.int];refine .inl ⟨kvs.map xM,Sum.inl j,y2,rfl,by rw[List.length_map,sizeLine_eq];exact hl,?_⟩;rw[Nf];rfl|_=>cases e4
     .cases eB
   .cases eB
 .cases eA
end
end HH
end
section
namespace L2
open PySem PySem.Spec PyProof.Rows
noncomputable def Itk(a:Addr)(ob:Obj)(kvs:List (Key×V)):It:=⟨fun i H=>H a=some (.fH ob (.dK kvs))/\i<kvs.length,fun i H x H'=>H'=H/\∃p,kvs[i]?=some p/\x=kV p.1,fun i H=>H a=some (.fH ob (.dK kvs))/\kvs.length<=i⟩
theorem KV.get:∀{κ:Type}{kvs:List (κ×V)}{vs:List (κ×Value)}{i:Nat}{p:κ×V},KV kvs vs->kvs[i]?=some p->∃v,vs[i]?=some (p.1,v)|_,_,_,_,_,.nil,e=>by simp at e|_,_,_,0,_,.cons r _,e=>by simp at e;subst e;exact⟨_,by rw[List.getElem?_cons_zero,r.1]⟩|_,_,_,i+1,p,.cons _ t,e=>by obtain⟨v,h⟩:=KV.get (i:=i) (p:=p) t (by simpa using e);exact⟨v,by simpa using h⟩
theorem qU{X:Cx}{pins:List (Addr×Obj)}{σ:St}{H:Hp}{s:Shared}{a:Addr}{ob:Obj}{kvs:List (Key×V)}{es:Array DictEntry}{ep:Nat}(I:Inv X pins σ H s)(h:H a=some (.fH ob (.dK kvs)))(hd:ob.data=.dict es ep):(a==sysModules)=false/\∃vs,KV kvs vs/\s.heap.DictAt (bT X.prog X.w) a vs ep:=by obtain⟨ho,hz,hS,vs,r,dd⟩:=(show bU X.prog X.w H s.heap a (.fH ob (.dK kvs))from I.hok a _ h);obtain⟨o,es',ep',h1,h2,h3,h4⟩:=dd;rw[ho]at h1;cases h1;rw[hd]at h3;cases h3;exact⟨hS,vs,r,⟨ob,es,ho,h2,hd,h4⟩⟩
theorem Qm{P:Program}{w:World}{k:Key}{u:Value}(h:(bT P w).is k u=true):RelV (kV k) u:=by
 rcases bQ h with⟨i,t,rfl,rfl⟩|⟨x,t,rfl,rfl⟩;.exact⟨t,rfl⟩
 .exact⟨t,rfl⟩
theorem Bw{P:Program}{w:World}{K:PySem.W.Frag}{tg:Expr}(a it:Addr)(ob:Obj)(kvs:List (Key×V))(es:Array DictEntry)(ep:Nat)(hd:ob.data=.dict es ep):Turn P w K tg (Itk a ob kvs) [it] it (fun i h=>h.IsKeyIter it a i kvs.length ep)where
 mem:=by simp
 obj:=fun i h st b hb=>by
  have e:b=it:=by simpa using hb
  subst e;obtain⟨o,e,c,d⟩:=st;exact⟨o,e,fun v z=>by rw[d]at z;cases z⟩
 keep:=fun i h h' st k=>st.at fun o e=>k it (by simp) o e;item:=by intro X hP hw hK hc i pins s σ H E I hf st hg;subst hP hw hK;obtain⟨hq,hi⟩:=hg;obtain⟨hS,vs,r,dd⟩:=qU I hq hd;have hl:vs.length=kvs.length:=(Paired.length r).symm;obtain⟨v,hx⟩:=KV.get r (show kvs[i]?=some kvs[i]by simp[hi]);obtain⟨f0,f1,f2,f3,f4,f5⟩:=hf it (by simp);refine wpAny_pyNext_dict_item (by rw[hl];exact st) dd hx fun u h' hu st' sb=>?_;have I1:Inv X pins σ H {s with heap:=h'}:=I.turned (t':=s.toks) (fun b o hb e=>(sb.2 b hb).trans e) f0 f1 f3 f4 f5;rw[hl]at st';obtain⟨o,e,c,d⟩:=id st';exact⟨u,rfl,yO (s:={s with heap:=h'}) e c d (by decide) ⟨_,H,I1,Qm hu,⟨rfl,_,by simp[hi],rfl⟩,st',fun b hb=>(hf b hb).1⟩⟩
 done:=by intro X hP hw hK hc i pins s σ H E I hf st hg;subst hP hw hK;obtain⟨hq,hi⟩:=hg;obtain⟨hS,vs,r,dd⟩:=qU I hq hd;have hl:vs.length=kvs.length:=(Paired.length r).symm;obtain⟨f0,f1,f2,f3,f4,f5⟩:=hf it (by simp);refine wpAny_pyNext_dict_end (I.ok.hd hc) (by rw[hl];exact st) dd (by simp[hl,hi]) fun h' he=>⟨rfl,?_⟩;exact I.turned (t':=s.toks) (fun b o hb e=>he b o hb e) f0 f1 f3 f4 f5
 self:=fun A i s Q E st hQ=>wpAny_pyIter_keyiter st hQ
section
variable{X:Cx}{tg:Expr}
theorem Ie{l:Expr}{tl:TE}(hl:PE X l tl):PI X tg l (fun σ H R=>tl σ H fun x H1=>∃a ob kvs,x=.ref a/\H1 a=some (.fH ob (.dK kvs))/\R (Itk a ob kvs) H1):=by
 intro pins s σ H R I h;refine dz (hl pins s σ H _ I h) ?_;rintro v s1⟨x,H1,I1,r1,a,ob,kvs,e,hq,q⟩;subst e;cases r1;obtain⟨ho,hz,hS,vs,r,dd⟩:=(show bU X.prog X.w H1 s1.heap a (.fH ob (.dK kvs))from I1.hok a _ hq);obtain⟨o,es,ep,h1,h2,h3,h4⟩:=id dd;rw[ho]at h1;cases h1;have hlen:vs.length=kvs.length:=(Paired.length r).symm;refine wpAny_pyIter_dict (knd:=bT X.prog X.w) (kvs:=vs) (ep:=ep) hS ⟨ob,es,ho,h2,h3,h4⟩ ?_;refine⟨s1.heap.objs.size,[s1.heap.objs.size],_,_,H1,rfl,I1.kept (t':=s1.toks) fun b o e=>Heap.get?_push_of_some _ e,Bw a _ ob kvs es ep h3,⟨_,Heap.get?_push_size _ rfl,rfl,by rw[hlen];rfl⟩,fun b hb=>?_,q⟩;have e:b=s1.heap.objs.size:=by simpa using hb
 subst e;exact I1.Bd (Nat.le_refl _) (I1.hok.fresh (Nat.le_refl _))
end
end L2
namespace HH
open PySem L2 PySem.Spec PyProof.Rows
section
variable{X:Cx}{c:Call}{tg e:Expr}{p:P}
theorem yX(h:SX X c e p):SI X c tg e (.blt .keys [p]):=by
 unfold SI;obtain⟨ta,h1,h2⟩:=h.bI;refine mX (Ie h1) ?_;rintro σ H R⟨F,ρ,ds,ρ1,g,eA,k⟩;obtain⟨r,ρ2,eB,eC⟩:=aj (show((HH.ev c (.blt .keys [p]) ρ).bind fun r ρ=>lift (items r.d) ρ)=.ok ds ρ1 from eA);obtain⟨eD,e3⟩:=aF eC;subst e3;rw[HH.E16]at eB;obtain⟨d,ρ3,e1,eE⟩:=aj eB;obtain⟨eF,e4⟩:=aF eE;subst e4;have hd:∃kvs,d=.cD (.k kvs):=by cases d with
  |cD m=>cases m with|k kvs=>exact⟨kvs,rfl⟩|t kvs=>cases eF
  |_=>cases eF
 obtain⟨kvs,rfl⟩:=hd;cases eF;cases eD;refine h2 g e1 fun v F' H' s pv=>?_;obtain⟨a,ob,rfl,hq⟩:=pv.cD s.gs.sub;refine⟨a,ob,kvs.map xM,rfl,hq,k _ F' H' ⟨s.gs,fun n j F2 ρ2 σ2 H2 s2=>?_,fun F2 ρ2 σ2 H2 s2=>⟨s.trans s2,fun v r rr=>rr.later s⟩⟩⟩;have gm:=s.gs.more (n:=n) (τ:=List.replicate n none) (by simp);have hq2:=s2.keep a _ hq fun⟨j,⟨t,dt,q1,q2⟩,q3⟩=>by obtain⟨a',o',z1,z2,z3,z4⟩:=gm.own j t dt q1 q2;rw[q3]at z1;cases z1;rw[hq]at z2;cases z2;cases dt with|l ds=>obtain⟨xs,z,_⟩:=z4;cases z|d m=>cases m<;>cases z4
 refine⟨fun d hd=>?_,fun hj=>⟨hq2,by simpa using hj⟩⟩;have hj:j<kvs.length:=by have:=(List.getElem?_eq_some_iff.mp hd).1;simpa using this
 refine⟨⟨hq2,by simpa using hj⟩,fun x nC⟨e5,q,e6,e7⟩=>?_⟩;subst e5;refine⟨F2,.refl s2.gs.sub,?_⟩;rw[List.getElem?_map,List.getElem?_eq_getElem hj]at e6 hd;cases e6;cases hd;rw[e7];exact bJ _
end
end HH
end
section
namespace HH
open PySem L2 PySem.Spec PyProof.Rows PySem.Calls PySem.W
section
variable{X:Cx}{c:Call}{a:Expr}{pa:P}{pos:Pos}
theorem rG{K:PySem.W.Frag}{F:Hp}:∀ns:List Int,aL K F (ns.map V.int) (ns.map D.int)|[]=>.nil|n::ns=>.cons (bJ n) (rG ns)
end
end HH
end
section
namespace HH
open PySem L2 PySem.Spec PyProof.Rows
theorem Ot{F H:Hp}{xs:List V}{p:Addr}(s:aP F H)(hp:H p=none):Ext F H (upd F p (.tup xs)) (upd H p (.tup xs)):=by
 have fp:F p=none:=by cases q:F p with|none=>rfl|some o=>have:=s p o q;rw[hp]at this;cases this
 refine⟨aP.cT hp,aP.cT fp,fun b o e=>?_,fun b n n'=>?_⟩
 . by_cases hb:b=p;.rw[hb,aX]at e ⊢;exact e
   .rw[aK hb]at e ⊢;exact s b o e
 . by_cases hb:b=p;.rw[hb];exact jy hp
   .rw[aK hb]at n';exact absurd n n'
noncomputable def Ew(p:List Int×Int):List Key×V:=(p.1.map Sum.inl,V.int p.2)
theorem vz:∀{a b:List Int},(a.map Sum.inl:List Key)=b.map Sum.inl->a=b|[],[],_=>rfl|[],_::_,h=>by cases h|_::_,[],h=>by cases h|x::a,y::b,h=>by rw[List.map_cons,List.map_cons]at h;injection h with h1 h2;injection h1 with h1;rw[h1,vz h2]
theorem uX(a b:List Int):decide ((a.map Sum.inl:List Key)=b.map Sum.inl)=decide (a=b):=by
 by_cases h:a=b;.subst h;simp
 .rw[decide_eq_false h,decide_eq_false fun e=>h (vz e)]
theorem CQ(k:List Int):∀kvs:List (List Int×Int),lG (kvs.map Ew) (k.map Sum.inl:List Key)=((kvs.find? fun kv=>decide (kv.1=k)).map (·.2)).map V.int|[]=>rfl|p::kvs=>by have ih:=CQ k kvs;unfold lG at ih ⊢;have e:decide ((Ew p).1=(k.map Sum.inl:List Key))=decide (p.1=k):=uX p.1 k;rw[List.map_cons,List.find?_cons,List.find?_cons,e];cases decide (p.1=k)with|true=>rfl|false=>exact ih
theorem MK(k:List Int)(v:Int)(kvs:List (List Int×Int)):putK (kvs.map Ew) (k.map Sum.inl:List Key) (V.int v)=(putD kvs k v).map Ew:=by
 have d:∀p:List Int×Int,decide ((Ew p).1=(k.map Sum.inl:List Key))=decide (p.1=k):=fun p=>uX p.1 k;have e:((kvs.map Ew).any fun kv=>decide (kv.1=(k.map Sum.inl:List Key)))=kvs.any fun kv=>decide (kv.1=k):=by rw[List.any_map];congr 1;funext p;exact d p
 unfold putK putD;rw[e];split
 . rw[List.map_map,List.map_map];refine List.map_congr_left fun p _=>?_;have h:=d p;by_cases q:p.1=k;.rw[decide_eq_true q]at h;have h':=of_decide_eq_true h;simp only[Function.comp_apply,if_pos q,if_pos h'];rfl
   .rw[decide_eq_false q]at h;have h':=of_decide_eq_false h;simp only[Function.comp_apply,if_neg q,if_neg h']
 .rw[List.map_append];rfl
theorem nY(k:List Int):(k.map Sum.inl:List Key).map kV=k.map V.int:=by rw[List.map_map];rfl
theorem GC{K:PySem.W.Frag}{F:Hp}{xs:List V}{ds:List D}(r:aL K F xs ds)(o:ds.all eZ=true):xs=(ds.map gA).map V.int:=by rw[all_ints o]at r;rw[dU r]
theorem G5{K:PySem.W.Frag}{F H:Hp}{q p:Addr}{m:Dc}{ds:List D}{xs:List V}{o:Option Int}(h:Rd H q m.ho)(r:aL K F xs ds)(hp:H p=some (.tup xs))(e:m.vm ds=some o):xm H q (.ref p) (o.map V.int):=by cases m with|k kvs=>cases e|t kvs=>obtain⟨ho,e⟩:=bw (show(if ds.all eZ=true then some ((kvs.find? fun kv=>decide (kv.1=ds.map gA)).map (·.2))else none)=some o from e);subst e;refine .inr ⟨kvs.map Ew,(ds.map gA).map Sum.inl,p,h,rfl,?_,(CQ _ kvs).symm⟩;rw[nY,<-GC r ho];exact hp
theorem Inv.ZJ{X:Cx}{pins:List (Addr×Obj)}{σ:L2.St}{H:Hp}{s:Shared}{a:Addr}{kvs:List (List Key×V)}(I:L2.Inv X pins σ H s)(h:H a=some (.dT kvs)):∃o,L2.Inv X pins σ (upd H a (.fH o (.dT kvs))) s:=by obtain⟨z,y,xs,r,o,es,ep,h1,h2,h3,h4,h5⟩:=(show bU X.prog X.w H s.heap a (.dT kvs)from I.hok a _ h);refine⟨o,I.write (h':=s.heap) (t':=s.toks) (by rw[h];exact trivial) (.inl rfl) (fun b u _ e=>e) ⟨o,h1⟩ ⟨h1,z,y,xs,KT.keeps r fun b ys q=>?_,o,es,ep,h1,h2,h3,h4,h5⟩⟩;rw[aK (by rintro rfl;rw[h]at q;cases q)];exact q
section
variable{X:Cx}{c:Call}{n:Nat}{a b e:Expr}{p pa pb:P}{pos:Pos}{es:List Expr}{ps:List P}{x1:Nat}{tpos:Pos}
theorem CP{i:Nat}{x:Str}{px:Pos}(hu:X.A.units+8<cLine)(hN:X.N[i]?=some x)(hv:sV X.env.scope x)(hk:SA X c es ps)(hs:Jd (.Tuple es x1 tpos))(hz:ps.length<=sizeLine:=by decide)(hd:(x==("__debug__":Str))=false:=by decide)(hcd:(x==("__classdict__":Str))=false:=by decide):SX X c (.Subscript (.Name x px) (.Tuple es x1 tpos) pos) (.Kz i ps):=by refine⟨fU (Jt (by omega) (dB hN hv hd hcd) (tH hk.1) hs) ?_,fun i h=>by cases h⟩;rintro σ H Q⟨F,ρ,r,ρ',g,e,k⟩;rw[HH.E24]at e;obtain⟨d0,ρ0,e0,eA⟩:=aj e;clear e;obtain⟨WX,yp⟩:=aF e0;subst yp;obtain⟨mW,ρ1,e1,eB⟩:=aj eA;clear eA;obtain⟨dd,ρ2,e2,eC⟩:=aj eB;clear eB;obtain⟨e20,e21⟩:=aF e2;subst e21;obtain⟨e3,e31⟩:=aF eC;clear eC;subst e31;obtain⟨v0,w1,_⟩:=g.pk WX;refine⟨v0,w1,F,ρ,mW,ρ1,g,e1,fun vs F1 H1 s1 rs=>⟨by rw[rs.length,jE e1];exact hz,fun q hq=>?_⟩⟩;have x1:=Ot (xs:=vs) s1.gs.sub hq;have s2:=s1.trans (x1.stp s1.gs);obtain⟨v1,w2,w3⟩:=s2.gs.pk e20;rw[w1]at w2;cases w2;cases dd with
 |cD m=>obtain⟨o,e4,e5⟩:=aW (show(m.vm mW).bind (fun o=>o.map fun v=>R.val (.int v))=some r from e3);cases o with|none=>cases e5|some v=>cases e5;obtain⟨ad,ob,rfl,ha⟩:=w3.cD s2.gs.sub;have dg:=G5 (o:=some v) (m:=m) (.inr ⟨ob,ha⟩) rs aX e4;exact⟨ad,V.int v,rfl,dg,k _ _ _ s2 (show Rep X.K _ _ _ from bJ _)⟩
 |_=>cases e3
theorem tX{i:Nat}{x:Str}{px apos cpos:Pos}{pd:P}(hu:X.A.units+8<cLine)(hN:X.N[i]?=some x)(hv:sV X.env.scope x)(hk:SA X c es ps)(hb:SX X c b pd)(m:M2 X (.Name x px) "get" apos (.Tuple es x1 tpos) b cpos)(hz:ps.length<=sizeLine:=by decide)(hd:(x==("__debug__":Str))=false:=by decide)(hcd:(x==("__classdict__":Str))=false:=by decide):SX X c (.Call (.Attribute (.Name x px) "get" apos) [.Tuple es x1 tpos,b] [] cpos) (.wD i ps pd):=by
 obtain⟨tb,h3,h4⟩:=hb.bI;refine⟨fU (vd (by omega) (dB hN hv hd hcd) (tH hk.1) h3 m) ?_,fun i h=>by cases h⟩;rintro σ H Q⟨F,ρ,r,ρ',g,e,k⟩;rw[HH.E25]at e;split at e
 . rename_i m0 q;obtain⟨mW,ρ1,e1,eA⟩:=aj e;clear e;obtain⟨dd,ρ2,e2,eB⟩:=aj eA;clear eA;obtain⟨a0,o0,w1,w2,w3,w4⟩:=g.own i _ _ q rfl;refine⟨.ref a0,w1,a0,rfl,?_,?_⟩;.cases(show o0=m0.ho from w4);cases m0 with|k kvs=>exact .inl ⟨_,.inl w2⟩|t kvs=>exact .inr ⟨_,.inl w2⟩
   . refine⟨F,ρ,mW,ρ1,g,e1,fun vs F1 H1 s1 rs=>⟨by rw[rs.length,jE e1];exact hz,fun p hp=>?_⟩⟩;have x1:=Ot (xs:=vs) s1.gs.sub hp;have s1':=s1.trans (x1.stp s1.gs);refine h4 s1'.gs e2 fun z F2 H2 s2 pz=>?_;split at eB
     . rename_i m1 q1;obtain⟨eC,e3⟩:=aF eB;clear eB;subst e3;obtain⟨o,e4,eD⟩:=aW eC;clear eC;obtain⟨w,e5,e6⟩:=map_some eD;subst e6;obtain⟨a1,o1,y1,y2,y3,y4⟩:=s2.gs.own i _ _ q1 rfl;rw[w1]at y1;cases y1;cases(show o1=m1.ho from y4);rw[aY e5]at pz;rw[pz.int];refine⟨o.map V.int,G5 (.inl y2) rs (s2.gs.sub _ _ (s2.bK _ _ aX)) e4,?_⟩;have:(o.map V.int).getD (V.int w)=V.int (o.getD w):=by cases o<;>rfl
       rw[this];exact k _ F2 H2 (s1'.trans s2) (show Rep X.K F2 _ _ from bJ _)
     .cases eB
 .cases e
theorem o7{i:Nat}{x:Str}{pos' p2:Pos}(hN:X.N.Nodup)(hi:X.N[i]?=some x)(hx:Loc X.env.scope x)(hs:swapsWith (.Dict [] [] p2) (some (.Name x pos')) pos.line X.env=pure false:=by rfl)(hf:X.fn x=true\/X.env.scope.names.lookup x=some .local:=by first|exact .inl rfl|exact .inr rfl|assumption):SS X c n (.Assign [.Name x pos'] (.Dict [] [] p2) pos) (.qm i true):=by
 refine dD (tK hN hi hx Dk hs hf) ?_;rintro D σ H⟨F,ρ,fl,ρ',g,e,k⟩;rw[HH.X17]at e;split at e;.rename_i q;cases e;exact fun a ha=>k F _ _ (g.newD (m:=.t []) q ha)
 .cases e
theorem lJ{i:Nat}{x:Str}{px pos':Pos}(hu:X.A.units+8<cLine)(hN:X.N[i]?=some x)(hv:sV X.env.scope x)(hk:SA X c es ps)(he:SX X c e p)(hs:swapsWith e (some (.Subscript (.Name x px) (.Tuple es x1 tpos) pos')) pos.line X.env=pure false:=by rfl)(hz:ps.length<=sizeLine:=by decide)(hd:(x==("__debug__":Str))=false:=by decide)(hcd:(x==("__classdict__":Str))=false:=by decide):SS X c n (.Assign [.Subscript (.Name x px) (.Tuple es x1 tpos) pos'] e pos) (.lM i ps p):=by
 refine dD (zG (by omega) (dB hN hv hd hcd) (tH hk.1) he.ev hs) ?_;rintro D σ H⟨F,ρ,fl,ρ',g,e,k⟩;rw[HH.X19]at e;obtain⟨r,ρ1,e1,eA⟩:=aj e;clear e;refine⟨F,ρ,r,ρ1,g,e1,fun v F1 H1 s1 rr=>?_⟩;split at eA
 . rename_i m0 q0;obtain⟨mW,ρ2,e2,eB⟩:=aj eA;clear eA;obtain⟨a0,o0,w1,w2,w3,w4⟩:=s1.gs.own i _ _ q0 rfl;refine⟨.ref a0,w1,F1,ρ1,mW,ρ2,s1.gs,e2,fun vs F2 H2 s2 rs=>⟨by rw[rs.length,jE e2];exact hz,fun q hq=>?_⟩⟩;have x1:=Ot (xs:=vs) s2.gs.sub hq;have s2':=s2.trans (x1.stp s2.gs);split at eB
   . rename_i m w q1;split at eB;.rename_i m' e4;cases eB;obtain⟨a1,o1,y1,y2,y3,y4⟩:=s2'.gs.own i _ _ q1 rfl;rw[w1]at y1;cases y1;cases(show o1=m.ho from y4);cases(show v=.int w by have:Rep X.K F1 v (.int w):=rr;rwa[Rep]at this);refine⟨a0,upd (upd H2 q (.tup vs)) a0 m'.ho,rfl,?_,k _ σ _ ((s1.trans s2').trans (s2'.gs.Ve q1 w1))⟩;cases m with|k kvs=>cases e4|t kvs=>
         obtain⟨⟨ho,hl⟩,e4⟩:=bw (show(if mW.all eZ=true/\kvs.length<lim then some (Dc.t (putD kvs (mW.map gA) w))else none)=some m' from e4);subst e4;refine .inr ⟨kvs.map Ew,(mW.map gA).map Sum.inl,q,y2,rfl,?_,by rw[List.length_map,sizeLine_eq];exact hl,?_⟩;.rw[nY,<-GC rs ho];exact aX
         .rw[MK];rfl
     .cases eB
   .cases eB
 .cases eA
theorem Le{i:Nat}{x:Str}{px:Pos}(hN:X.N[i]?=some x)(hv:sV X.env.scope x)(hd:(x==("__debug__":Str))=false:=by decide)(hcd:(x==("__classdict__":Str))=false:=by decide):SX X c (.Name x px) (.vw i):=by
 have h:=dB (X:=X) (pos:=px) hN hv hd hcd;refine⟨?_,fun i h=>by cases h⟩;rintro pins s σ H Q I⟨F,ρ,r,ρ',g,e,k⟩;rw[HH.E23]at e;split at e
 . rename_i m q;cases e;obtain⟨a,h1,h2,h3⟩:=g.zX q;refine dz (h pins s σ H (fun v H'=>v=.ref a/\H'=H) I ⟨.ref a,h1,rfl,rfl⟩) fun u s1⟨v,H1,I1,r1,e1,e2⟩=>?_;subst e1 e2;have zz:∃o,L2.Inv X pins σ (upd H1 a (.fH o m.ho)) s1:=by cases m with|k kvs=>exact Inv.U8 I1 h2|t kvs=>exact Inv.ZJ I1 h2
   obtain⟨o,I2⟩:=zz;exact⟨.ref a,_,I2,r1,k _ _ _ (h3 o).1 (h3 o).2⟩
 .cases e
end
end HH
end
section
namespace HH
open PySem L2 PySem.Spec PyProof.Rows PySem.Calls PySem.W
noncomputable def mR(h:Heap)(d:Addr)(es:Array DictEntry)(ep:Nat):Prop:=∃o,h.get? d=some o/\o.ExactDict/\o.data=.dict es ep
section
variable{prog:Program}{w:World}{A:Around}{E:Value->Shared->Prop}{s:Shared}{d it:Addr}{es:Array DictEntry}{ep i:Nat}
theorem mR.ty(r:mR s.heap d es ep):s.TypeIs (.ref d) "dict":=let⟨o,h1,h2,_⟩:=r;⟨o,h1,h2.1⟩
theorem mR.lt{h:Heap}(r:mR h d es ep):d<h.objs.size:=let⟨_,h1,_⟩:=r;Heap.lt_size h1
theorem mR.at{h h':Heap}(r:mR h d es ep)(k:∀o,h.get? d=some o->h'.get? d=some o):mR h' d es ep:=let⟨o,h1,q⟩:=r;⟨o,k o h1,q⟩
theorem Cz{Q:Value->Shared->Prop}(lo:(d==sysModules)=false)(r:mR s.heap d es ep)(q:Q (.ref s.heap.objs.size) {s with heap:=s.heap.push {cls:=.type "dict_keyiterator",data:=.fields #[.ref d,.int 0 0,.int es.size 0,.int ep 0]}}):wpAny (model prog w) A (pyIter (.ref d)) Q E s:=by obtain⟨ob,g1,g2,g3⟩:=id r;refine wpAny_pyIter_slot r.ty PySem.F.slot_dict_iter (wpAny_call_entry PySem.F.slot_dict_iter r.ty PySem.F.entry_dict_iter ?bd (PySem.F.args_dict_iter_1 _));unfold Builtin.«dict.__iter__» Builtin.Dict.dictSlotNone;refine wpAny_bind (wpAny_bind (wpAny_notOrdered_dict r.ty ?_));show wpAny _ _ (pure (Value.ref d)) _ _ s;refine wpAny_pure ?_;show wpAny _ _ (Builtin.Dict.showsAll d>>=_) _ _ s;unfold Builtin.Dict.showsAll;rw[if_neg (fun z=>Bool.false_ne_true (lo.symm.trans z))];refine wpAny_bind (wpAny_pure (wpAny_bind (wpAny_dictEntries g1 g3 (wpAny_bind (wpAny_dictEpoch g1 g3 ?_)))));refine wpAny_bind (wpAny_newObj_type (wpAny_pure ⟨_,rfl,"dict_keyiterator",_,⟨_,Heap.get?_push_size _ rfl,rfl⟩,PySem.F.slot_dict_keyiterator_next.lookup,?_⟩));simpa[rawInt]using q
theorem Eh{Q:Option Value->Shared->Prop}(hit:s.heap.IsKeyIter it d i es.size ep)(r:mR s.heap d es ep)(hi:i<es.size)(q:∀h',h'.IsKeyIter it d (i+1) es.size ep->Heap.SameBut it s.heap h'->Q (some es[i].key) {s with heap:=h'}):wpAny (model prog w) A (pyNext (.ref it)) Q E s:=by
 obtain⟨oi,i1,i2,i3⟩:=id hit;obtain⟨ob,g1,g2,g3⟩:=id r;unfold pyNext;refine wpAny_bind (wpAny_attempt (wpAny_callSpecial?_slot (name:=Str.ofString "__next__") hit.typeIs PySem.F.slot_dict_keyiterator_next (wpAny_call_entry PySem.F.slot_dict_keyiterator_next hit.typeIs PySem.F.entry_dict_keyiterator_next ?bd (PySem.F.args_dict_keyiterator_next_1 _))));refine wpAny_bind (wpAny_pure (wpAny_bind (wpAny_bind ?_)));first|refine wpAny_bind (wpAny_typeNameOfWhole_keyiter hit.typeIs (wpAny_pure (wpAny_bind (wpAny_fieldsOf i1 i3 ?_))))|refine wpAny_bind (wpAny_typeNameOf_keyiter hit.typeIs (wpAny_pure (wpAny_bind (wpAny_fieldsOf i1 i3 ?_))))
 simp only[show Builtin.Dict_items.ownsTuple "dict_keyiterator"=false by decide,Bool.false_eq_true,if_false];show wpAny _ _ (if(Value.ref d==Value.none)=true then _ else _) _ _ s;rw[if_neg (fun z:(Value.ref d==Value.none)=true=>Bool.false_ne_true z)];refine wpAny_bind (wpAny_pure (wpAny_bind (wpAny_dictEntries g1 g3 ?_)));rw[if_neg (by simp)];refine wpAny_bind (wpAny_pure (wpAny_bind (wpAny_dictEpoch g1 g3 ?_)));rw[if_neg (by simp)];refine wpAny_pure ?_;simp only[show ¬((i:Int)<0)from by omega,if_false,Int.toNat_natCast,Array.getElem?_eq_getElem hi];refine wpAny_bind ?_;first|refine wpAny_bind (wpAny_typeNameOfWhole_keyiter hit.typeIs (wpAny_pure (wpAny_bind (wpAny_isOneOf_keyiter hit.typeIs ?_))))|refine wpAny_bind (wpAny_typeNameOf_keyiter hit.typeIs (wpAny_pure (wpAny_bind (wpAny_isOneOf_keyiter hit.typeIs ?_))))
 show wpAny _ _ (setField (.ref it) 1 (rawInt ((i:Int)+1))>>=_) _ _ s;refine wpAny_bind (wpAny_setField i1 i3 (by simp) ?_);have on:(s.heap.update it (Obj.mapFields (·.setIfInBounds 1 (rawInt ((i:Int)+1))))).IsKeyIter it d (i+1) es.size ep:=⟨_,Heap.get?_update_self _ i1 (Obj.isFreed_of_fields (Obj.data_mapFields i3 _)),(Obj.cls_mapFields ..).trans i2,by rw[Obj.data_mapFields i3];simp[rawInt]⟩;refine wpAny_bind (wpAny_holding (wpAny_bind (wpAny_isOneOf_keyiter (s:={s with heap:=s.heap.update it (Obj.mapFields (·.setIfInBounds 1 (rawInt ((i:Int)+1))))}) on.typeIs ?_)));show wpAny _ _ (pure es[i].key) _ _ _;exact wpAny_pure (wpAny_pure ⟨_,rfl,wpAny_pure (q _ on (Heap.SameBut.update ..))⟩)
theorem JM{Q:Option Value->Shared->Prop}(hh:A.handled=none)(hit:s.heap.IsKeyIter it d es.size es.size ep)(r:mR s.heap d es ep)(q:∀h',Heap.ExtBut it s.heap h'->Q none {s with heap:=h'}):wpAny (model prog w) A (pyNext (.ref it)) Q E s:=by
 obtain⟨oi,i1,i2,i3⟩:=id hit;obtain⟨ob,g1,g2,g3⟩:=id r;unfold pyNext;refine wpAny_bind (wpAny_attempt (wpAny_callSpecial?_slot (name:=Str.ofString "__next__") hit.typeIs PySem.F.slot_dict_keyiterator_next (wpAny_call_entry PySem.F.slot_dict_keyiterator_next hit.typeIs PySem.F.entry_dict_keyiterator_next ?bd (PySem.F.args_dict_keyiterator_next_1 _))));refine wpAny_bind (wpAny_pure (wpAny_bind (wpAny_bind ?_)));first|refine wpAny_bind (wpAny_typeNameOfWhole_keyiter hit.typeIs (wpAny_pure (wpAny_bind (wpAny_fieldsOf i1 i3 ?_))))|refine wpAny_bind (wpAny_typeNameOf_keyiter hit.typeIs (wpAny_pure (wpAny_bind (wpAny_fieldsOf i1 i3 ?_))))
 simp only[show Builtin.Dict_items.ownsTuple "dict_keyiterator"=false by decide,Bool.false_eq_true,if_false];show wpAny _ _ (if(Value.ref d==Value.none)=true then _ else _) _ _ s;rw[if_neg (fun z:(Value.ref d==Value.none)=true=>Bool.false_ne_true z)];refine wpAny_bind (wpAny_pure (wpAny_bind (wpAny_dictEntries g1 g3 ?_)));rw[if_neg (by simp)];refine wpAny_bind (wpAny_pure (wpAny_bind (wpAny_dictEpoch g1 g3 ?_)));rw[if_neg (by simp)];refine wpAny_pure ?_;simp only[show ¬((es.size:Int)<0)from by omega,if_false,Int.toNat_natCast,Array.getElem?_eq_none (Nat.le_refl es.size)];refine wpAny_bind ?_;first|refine wpAny_bind (wpAny_typeNameOfWhole_keyiter hit.typeIs (wpAny_pure ?_))|refine wpAny_bind (wpAny_typeNameOf_keyiter hit.typeIs (wpAny_pure ?_))
 show wpAny _ _ (setField (.ref it) 0 .none>>=_) _ _ s;refine wpAny_bind (wpAny_setField i1 i3 (by simp) ?_);show wpAny _ _ (newExc (.type "StopIteration") []>>=_) _ _ _;refine wpAny_bind ?_;simp only[newExc,newTuple];refine wpAny_bind (wpAny_newObj_type ?_ (by size_fits));refine wpAny_bind (m:=firstArgMember _ _) (wpAny_of_eq (a:=Value.none) (by first|rfl|(simp only[firstArgMember];rfl)) (wpAny_newObj_type ?_ (by size_fits)));simp only[raiseNew];refine wpAny_bind (wpAny_handled ?_);rw[(hh:A.in1.handled=none)];refine wpAny_bind (wpAny_pure (wpAny_throw (wpAny_bind ?_)));refine wpAny_isInstance (T:="StopIteration") (b:=true) ⟨_,Heap.get?_push_size _ rfl,rfl⟩ isSubtype_stop ?_;exact wpAny_pure (q _ (((Heap.SameBut.update ..).extBut.push _).push _))
theorem BJ(hh:A.handled=none)(J d:Addr)(hne:d≠J)(es:Array DictEntry)(ep:Nat):Walks prog w A J [J,d] [J] es.size (fun i v=>∃e,es[i]?=some e/\v=e.key) (fun i h=>h.IsKeyIter J d i es.size ep/\mR h d es ep)where
 sub:=fun b hb=>by simp at hb;simp[hb]
 frame:=fun _ _ _ st hk=>⟨st.1.at fun o e=>hk J (by simp) o e,st.2.at fun o e=>hk d (by simp) o e⟩;item:=fun i s Q E hi st hQ=>Eh st.1 st.2 hi fun h' hit' hs'=>hQ _ h' s.toks ⟨es[i],by simp[hi],rfl⟩ ⟨hit',st.2.at fun o e=>hs'.extBut d o hne e⟩ fun b o hb e=>hs'.extBut b o (fun h=>hb (by simp[h])) e;done:=fun s Q E st hQ=>JM hh st.1 st.2 fun h' he'=>hQ h' s.toks fun b o hb e=>he' b o (fun h=>hb (by simp[h])) e;self:=fun _ _ _ _ st hQ=>wpAny_pyIter_keyiter st.1 hQ
theorem Jj(lo:(d==sysModules)=false):KdlSrc prog w "dict" d d es.size (fun i v=>∃e,es[i]?=some e/\v=e.key) (fun h=>mR h d es ep)where
 type:=fun _ r=>r.ty;there:=fun _ r=>⟨r.lt,r.lt⟩;keep:=fun _ _ r hk=>r.at fun o e=>hk d (.inl rfl) o e;notList:=by decide
 notTuple:=by decide
 hint:=fun _ _ _ _ r hq=>kdl_hint_dict r.ty hq;iter:=fun _ _ hh r=>⟨_,_,(fun _ _ hq=>Cz lo r hq),BJ hh _ d (Nat.ne_of_lt r.lt) es ep,⟨⟨_,Heap.get?_push_size _ rfl,rfl,rfl⟩,r.at fun o e=>Heap.get?_push_of_some _ e⟩⟩
end
end HH
end
section
namespace HH
open PySem L2 PySem.Spec PyProof.Rows PySem.Calls PySem.W
noncomputable def qY(F H:Hp)(bs:List Addr):Hp:=fun b=>if b∈bs then H b else F b
theorem Bt{F H:Hp}{bs:List Addr}(sm:aP F H)(ht:∀b∈bs,∃xs,H b=some (.tup xs)):Ext F H (qY F H bs) H:=by
 refine⟨.refl _,fun b o e=>?_,fun b o e=>?_,fun b n n'=>?_⟩
 . unfold qY;split;.exact sm b o e
   .exact e
 . unfold qY at e;split at e;.exact e
   .exact sm b o e
 . unfold qY at n';split at n';.rename_i hb;obtain⟨xs,e⟩:=ht b hb;rw[e];rfl
   .exact absurd n n'
theorem Ext.PN{F H F1 F2 H2:Hp}(a:Ext F H F1 H)(b:Ext F1 H F2 H2):Ext F H F2 H2:=by
 refine⟨b.hs,a.fs.trans b.fs,b.sub,fun c n n'=>?_⟩;by_cases e:F1 c=none;.exact b.gr c e n'
 .exact a.gr c n e
theorem Fb{H:Hp}:∀{kvs:List (List Int×Int)}{ts:List (List Key×Addr×Value)},KT H (kvs.map Ew) ts->∀t∈ts,∃k:List Int,H t.2.1=some (.tup (k.map V.int))
 |[],_,.nil,t,h=>by cases h|p::kvs,_,.cons r q,t,h=>by
   rcases List.mem_cons.mp h with rfl|h;.exact⟨p.1,by rw[<-nY];exact r.2.1⟩
   .exact Fb q t h
theorem zx{K:PySem.W.Frag}{F H:Hp}:∀{kvs:List (List Int×Int)}{ts:List (List Key×Addr×Value)},KT H (kvs.map Ew) ts->(∀t∈ts,F t.2.1=H t.2.1)->aL K F (ts.map fun t=>V.ref t.2.1) (kvs.map fun p=>D.tup (p.1.map D.int))|[],_,.nil,_=>.nil|p::kvs,_,.cons (b:=t) r q,h=>by refine .cons ?_ (zx q fun t ht=>h t (List.mem_cons_of_mem _ ht));rw[Rep];exact⟨_,p.1.map V.int,rfl,jH.of (by rw[h t (by simp),<-nY];exact r.2.1),rG _⟩
theorem qR{β:Type}{f:β->Addr}:∀ts:List β,Vals (ts.map fun t=>V.ref (f t)) (ts.map fun t=>Value.ref (f t))|[]=>.nil|t::ts=>.cons rfl (qR ts)
theorem yg{es:Array DictEntry}{acc:Array Value}{ts:List (List Key×Addr×Value)}(he:es.toList.map (·.key)=ts.map fun t=>Value.ref t.2.1)(h:ItemsOf (fun i v=>∃e,es[i]?=some e/\v=e.key) acc es.size):acc.toList=ts.map fun t=>Value.ref t.2.1:=by rw[<-he];refine List.ext_getElem? fun i=>?_;rw[List.getElem?_map,Array.getElem?_toList,Array.getElem?_toList];cases q:acc[i]?with
 |none=>
   have:es[i]?=none:=by rw[Array.getElem?_eq_none_iff]at q ⊢;rw[<-h.1];exact q
   rw[this];rfl|some v=>obtain⟨e,e1,e2⟩:=h.2 i v q;rw[e1,e2];rfl
end HH
end
section
namespace HH
open PySem L2 PySem.Spec PyProof.Rows
section
variable{K:PySem.W.Frag}{F H F' H':Hp}{ρ ρ':List Sl}{σ σ':L2.St}
noncomputable def Kp(ρ:List Sl)(σ:L2.St)(H:Hp)(a:Addr)(o:HO):Prop:=H a=some o/\¬ Own ρ σ a
theorem Kp.stp{a:Addr}{o:HO}(h:Kp ρ σ H a o)(s:bF K F ρ σ H F' ρ' σ' H'):Kp ρ' σ' H' a o:=⟨s.keep a o h.1 h.2,fun z=>(s.uh a z).elim h.2 fun e=>by rw[h.1]at e;cases e⟩
structure Wt(K:PySem.W.Frag)(F:Hp)(ρ:List Sl)(σ:L2.St)(H:Hp)(a:Addr)(ds:List D):Prop where
 ex:∃xs,Kp ρ σ H a (.lst xs)/\aL K F xs ds
 fr:F a=none
theorem Wt.stp{a:Addr}{ds:List D}(h:Wt K F ρ σ H a ds)(s:bF K F ρ σ H F' ρ' σ' H'):Wt K F' ρ' σ' H' a ds:=by obtain⟨⟨xs,h1,h2⟩,h3⟩:=h;refine⟨⟨xs,h1.stp s,h2.mono s.bK⟩,?_⟩;cases q:F' a with|none=>rfl|some o=>
   rcases s.wG a h3 (by rw[q];simp)with z|z;.exact absurd z h1.2
   .rw[h1.1]at z;cases z
end
end HH
end
section
namespace HH
open PySem L2 PySem.Spec PyProof.Rows
section
variable{K:PySem.W.Frag}{F F' F1 H H' H1 F0 H0:Hp}{ρ ρ' ρ1 ρ0:List Sl}{σ σ' σ1 σ0:L2.St}{x:Nat}{q:Addr}{as:List Addr}{rows lN:List (List D)}
noncomputable def Gs:Sl->Bool|.au=>true|.hold _=>true|_=>false
theorem gq{s:Sl}{i:Nat}{b:Addr}(hm:Gs s=true){o:Option V}(h:bA (ρ.set x s) (σ.set x o) i b):bA ρ σ i b/\i≠x:=by
 obtain⟨⟨t,ds,e,e'⟩,e1⟩:=h;by_cases c:x=i
 . subst c;rw[List.getElem?_set]at e;rw[if_pos rfl]at e;split at e;.cases e;cases s<;>first|(cases e';done)|(cases hm;done)
   .cases e
 .rw[List.getElem?_set_ne c]at e e1;exact⟨⟨⟨t,ds,e,e'⟩,e1⟩,fun z=>c z.symm⟩
theorem GS.uE{s:Sl}{o:Option V}(hm:Gs s=true)(g:GS K F ρ σ H):GS K F (ρ.set x s) (σ.set x o) H:=by
 refine⟨g.sub,by simp[g.len],fun i b d e=>?_,fun i t ds e e'=>?_,fun i j a h1 h2=>g.dis i j a (gq hm h1).1 (gq hm h2).1⟩
 . by_cases c:x=i
   . subst c;rw[List.getElem?_set,if_pos rfl]at e;split at e;.cases e;cases hm
     .cases e
   .rw[List.getElem?_set_ne c]at e ⊢;exact g.val i b d e
 . by_cases c:x=i
   . subst c;rw[List.getElem?_set,if_pos rfl]at e;split at e;.cases e;cases s<;>first|(cases e';done)|(cases hm;done)
     .cases e
   .rw[List.getElem?_set_ne c]at e ⊢;exact g.own i t ds e e'
theorem bF.uE{s:Sl}{o:Option V}(hm:Gs s=true)(t:bF K F ρ σ H F1 ρ1 σ1 H1)(hf:∀s0,ρ[x]?=some s0->uA s0=false):bF K F ρ σ H F1 (ρ1.set x s) (σ1.set x o) H1:=by
 refine⟨t.gs.uE hm,t.bK,t.wG,t.keep,fun b⟨i,h⟩=>t.uh b ⟨i,(gq hm h).1⟩,by simp[t.len],fun i s' e l=>?_⟩;have c:x≠i:=by rintro rfl;rw[hf _ e]at l;cases l
 obtain⟨z1,s2,z2,z3⟩:=t.lk i s' e l;exact⟨by rw[List.getElem?_set_ne c];exact z1,s2,by rw[List.getElem?_set_ne c];exact z2,z3⟩
theorem bF.free{i:Nat}{s1:Sl}(t:bF K F ρ σ H F1 ρ1 σ1 H1)(h:ρ1[i]?=some s1)(hl:uA s1=false):∀s0,ρ[i]?=some s0->uA s0=false:=fun s0 e=>by cases z:uA s0 with|false=>rfl|true=>obtain⟨_,s2,z2,z3⟩:=t.lk i s0 e z;rw[h]at z2;cases z2;rw[z3.uA z]at hl;cases hl
structure QS(F:Hp)(ρ:List Sl)(σ:L2.St)(H:Hp)(a:Addr)(xs:List V):Prop where kp:Kp ρ σ H a (.lst xs)fr:F a=none
theorem QS.stp{a:Addr}{xs:List V}(h:QS F ρ σ H a xs)(s:bF K F ρ σ H F' ρ' σ' H'):QS F' ρ' σ' H' a xs:=by refine⟨h.kp.stp s,?_⟩;cases z:F' a with|none=>rfl|some o=>
   rcases s.wG a h.fr (by rw[z];simp)with y|y;.exact absurd y h.kp.2
   .rw[h.kp.1]at y;cases y
structure Nw(K:PySem.W.Frag)(x:Nat)(q:Addr)(as:List Addr)(F:Hp)(ρ:List Sl)(σ:L2.St)(H:Hp)(rows:List (List D)):Prop where
 slot:ρ[x]?=some (.hold rows)val:σ[x]?=some (some (.ref q))out:QS F ρ σ H q (as.map V.ref)nd:(q::as).Nodup
 len:as.length=rows.length
 row:∀(k:Nat)(a:Addr)(ds:List D),as[k]?=some a->rows[k]?=some ds->Wt K F ρ σ H a ds
theorem Nw.stp(w:Nw K x q as F ρ σ H rows)(s:bF K F ρ σ H F' ρ' σ' H'):Nw K x q as F' ρ' σ' H' rows:=by obtain⟨z1,s2,z2,z3⟩:=s.lk x _ w.slot rfl;cases(show s2=.hold rows from z3);exact⟨z2,z1.trans w.val,w.out.stp s,w.nd,w.len,fun k a ds h1 h2=>(w.row k a ds h1 h2).stp s⟩
structure NB(K:PySem.W.Frag)(x:Nat)(q:Addr)(as:List Addr)(F0:Hp)(ρ0:List Sl)(σ0:L2.St)(H0:Hp)(F:Hp)(ρ:List Sl)(σ:L2.St)(H:Hp)(rows:List (List D)):Prop where
 stp:bF K F0 ρ0 σ0 H0 F ρ σ H
 fresh:∀b,b∈q::as->Own ρ0 σ0 b\/H0 b=none
 free:∀s0,ρ0[x]?=some s0->uA s0=false
 nw:Nw K x q as F ρ σ H rows
theorem NB.step(b:NB K x q as F0 ρ0 σ0 H0 F ρ σ H rows)(s:bF K F ρ σ H F' ρ' σ' H'):NB K x q as F0 ρ0 σ0 H0 F' ρ' σ' H' rows:=⟨b.stp.trans s,b.fresh,b.free,b.nw.stp s⟩
theorem rR{s:Sl}{o:Option V}{a:Addr}{ob:HO}(hm:Gs s=true)(h:Kp ρ σ H a ob):Kp (ρ.set x s) (σ.set x o) H a ob:=⟨h.1,fun⟨i,z⟩=>h.2 ⟨i,(gq hm z).1⟩⟩
theorem zg{s:Sl}{o:Option V}{a:Addr}{ds:List D}(hm:Gs s=true)(h:Wt K F ρ σ H a ds):Wt K F (ρ.set x s) (σ.set x o) H a ds:=by obtain⟨⟨xs,h1,h2⟩,h3⟩:=h;exact⟨⟨xs,rR hm h1,h2⟩,h3⟩
theorem bF.ZR{Da:Addr}{o:HO}(s:bF K F ρ σ H F1 ρ1 σ1 H1)(h:Own ρ σ Da\/H Da=none)(hf:F1 Da=none)(ho:¬ Own ρ1 σ1 Da):bF K F ρ σ H F1 ρ1 σ1 (upd H1 Da o):=by
 refine⟨⟨fun b u e=>?_,s.gs.len,s.gs.val,fun i t ds e e'=>?_,s.gs.dis⟩,s.bK,s.wG,fun b u e n=>?_,s.uh,s.len,s.lk⟩
 . have:b≠Da:=by rintro rfl;rw[hf]at e;cases e
   rw[aK this];exact s.gs.sub b u e
 . obtain⟨a,xs,q1,q2,q3,q4⟩:=s.gs.own i t ds e e';have:a≠Da:=by rintro rfl;exact ho ⟨i,⟨t,ds,e,e'⟩,q1⟩
   exact⟨a,xs,q1,by rw[aK this];exact q2,q3,q4⟩
 . have:b≠Da:=by
    rintro rfl;rcases h with h|h;.exact n h
    .rw[h]at e;cases e
   rw[aK this];exact s.keep b u e n
theorem NB.mut{r:Nat}{a:Addr}{row gD:List D}{ys:List V}(b:NB K x q as F0 ρ0 σ0 H0 F ρ σ H rows)(ha:as[r]?=some a)(hr:rows[r]?=some row)(rp:aL K F ys gD):NB K x q as F0 ρ0 σ0 H0 F (ρ.set x (.hold (rows.set r gD))) σ (upd H a (.lst ys)) (rows.set r gD):=by
 have w:=b.nw.row r a row ha hr;obtain⟨⟨xs,k1,r1⟩,f1⟩:=w;have hx:x<ρ.length:=(List.getElem?_eq_some_iff.mp b.nw.slot).1;have sx:σ.set x (some (.ref q))=σ:=by have:=b.nw.val;obtain⟨h1,h2⟩:=List.getElem?_eq_some_iff.mp this;rw[<-h2];simp
 have mem:a∈q::as:=List.mem_cons_of_mem _ (List.mem_of_getElem? ha);have s1:=(b.stp.ZR (o:=.lst ys) (b.fresh a mem) f1 k1.2).uE (x:=x) (s:=.hold (rows.set r gD)) (o:=some (.ref q)) rfl b.free;rw[sx]at s1;have nq:q≠a:=by have:=(List.nodup_cons.mp b.nw.nd).1;rintro rfl;exact this (List.mem_of_getElem? ha)
 have own:∀{c:Addr},¬ Own ρ σ c->¬ Own (ρ.set x (.hold (rows.set r gD))) σ c:=fun{c}h⟨i,z⟩=>h ⟨i,by have:=gq (x:=x) (s:=.hold (rows.set r gD)) (o:=some (.ref q)) (σ:=σ) (ρ:=ρ) rfl (b:=c) (i:=i) (by rw[sx];exact z);exact this.1⟩;refine⟨s1,b.fresh,b.free,⟨List.getElem?_set_self hx,b.nw.val,⟨⟨by rw[aK nq];exact b.nw.out.kp.1,own b.nw.out.kp.2⟩,b.nw.out.fr⟩,b.nw.nd,by simp[b.nw.len],fun k c ds h1 h2=>?_⟩⟩;by_cases hk:k=r;.subst hk;rw[ha]at h1;cases h1;have hl:k<rows.length:=(List.getElem?_eq_some_iff.mp hr).1;rw[List.getElem?_set_self hl]at h2;cases h2;exact⟨⟨ys,⟨aX,own k1.2⟩,rp⟩,f1⟩
 . rw[List.getElem?_set_ne (fun z=>hk z.symm)]at h2;obtain⟨⟨zs,k2,r2⟩,f2⟩:=b.nw.row k c ds h1 h2;have nc:c≠a:=by rintro rfl;have nd:=(List.nodup_cons.mp b.nw.nd).2;obtain⟨l1,e1⟩:=List.getElem?_eq_some_iff.mp h1;obtain⟨l2,e2⟩:=List.getElem?_eq_some_iff.mp ha;exact hk ((List.getElem_inj nd).mp (e1.trans e2.symm))
   exact⟨⟨zs,⟨by rw[aK nc];exact k2.1,own k2.2⟩,r2⟩,f2⟩
noncomputable def Fz(F H:Hp)(bs:List Addr):Hp:=fun b=>if b∈bs then H b else F b
theorem qK{G:Hp}:∀{as:List Addr}{rows:List (List D)},as.length=rows.length->(∀(k:Nat)(a:Addr)(ds:List D),as[k]?=some a->rows[k]?=some ds->Rep K G (.ref a) (.lst ds))->aL K G (as.map V.ref) (rows.map D.lst)|[],[],_,_=>.nil|a::as,ds::rows,h,k=>.cons (k 0 a ds rfl rfl) (qK (by simpa using h) fun j b es h1 h2=>k (j+1) b es (by simpa using h1) (by simpa using h2))|[],_::_,h,_=>by simp at h|_::_,[],h,_=>by simp at h
theorem Nw.KZ(w:Nw K x q as F ρ σ H rows){b:Addr}(hb:b∈q::as):F b=none/\¬ Own ρ σ b:=by
 rcases List.mem_cons.mp hb with rfl|hb;.exact⟨w.out.fr,w.out.kp.2⟩
 . obtain⟨k,hk⟩:=List.getElem?_of_mem hb;have hl:k<rows.length:=by rw[<-w.len];exact(List.getElem?_eq_some_iff.mp hk).1
   obtain⟨⟨xs,k1,_⟩,f1⟩:=w.row k b rows[k] hk (by simp[hl]);exact⟨f1,k1.2⟩
theorem Nw.fz(w:Nw K x q as F ρ σ H rows)(sm:aP F H):aP F (Fz F H (q::as))/\aP (Fz F H (q::as)) H/\Rep K (Fz F H (q::as)) (.ref q) (.lst (rows.map D.lst)):=by
 have s1:aP F (Fz F H (q::as)):=fun b o e=>by unfold Fz;rw[if_neg fun hb=>by rw[(w.KZ hb).1]at e;cases e];exact e
 refine⟨s1,fun b o e=>?_,?_⟩
 . unfold Fz at e;split at e;.exact e
   .exact sm b o e
 .rw[Rep];refine⟨q,as.map V.ref,rfl,dX.of (by unfold Fz;rw[if_pos List.mem_cons_self];exact w.out.kp.1),qK w.len fun k a ds h1 h2=>?_⟩;obtain⟨⟨xs,k1,r1⟩,f1⟩:=w.row k a ds h1 h2;rw[Rep];exact⟨a,xs,rfl,dX.of (by unfold Fz;rw[if_pos (List.mem_cons_of_mem _ (List.mem_of_getElem? h1))];exact k1.1),r1.mono s1⟩
theorem NB.fH(b:NB K x q as F0 ρ0 σ0 H0 F ρ σ H rows):bF K F0 ρ0 σ0 H0 (Fz F H (q::as)) (ρ.set x (.val false (.lst (rows.map D.lst)))) σ H:=by
 obtain⟨s1,s2,rp⟩:=b.nw.fz b.stp.gs.sub;have g:=b.stp.gs;have hx:x<ρ.length:=(List.getElem?_eq_some_iff.mp b.nw.slot).1;have old:∀{j:Nat}{c:Addr},bA (ρ.set x (.val false (.lst (rows.map D.lst)))) σ j c->bA ρ σ j c/\x≠j:=fun{j c}⟨⟨t,ds,e,e'⟩,e1⟩=>by
  by_cases hj:x=j;.subst hj;rw[List.getElem?_set_self hx]at e;cases e;cases e'
  .rw[List.getElem?_set_ne hj]at e;exact⟨⟨⟨t,ds,e,e'⟩,e1⟩,hj⟩
 refine⟨⟨s2,by simp[g.len],fun i bb d e=>?_,fun i t ds e e'=>?_,fun i j c h1 h2=>g.dis i j c (old h1).1 (old h2).1⟩,b.stp.bK.trans s1,fun c n n'=>?_,b.stp.keep,fun c⟨j,h⟩=>b.stp.uh c ⟨j,(old h).1⟩,by simp[b.stp.len],fun i t e l=>?_⟩
 . by_cases hj:x=i;.subst hj;rw[List.getElem?_set_self hx]at e;cases e;exact⟨_,b.nw.val,rp⟩
   .rw[List.getElem?_set_ne hj]at e;obtain⟨v,h1,h2⟩:=g.val i bb d e;exact⟨v,h1,h2.mono s1⟩
 . by_cases hj:x=i;.subst hj;rw[List.getElem?_set_self hx]at e;cases e;cases e'
   .rw[List.getElem?_set_ne hj]at e;obtain⟨a,o,h1,h2,h3,h4⟩:=g.own i t ds e e';refine⟨a,o,h1,h2,?_,h4.mono s1⟩;unfold Fz;rw[if_neg fun hb=>(b.nw.KZ hb).2 ⟨i,⟨t,ds,e,e'⟩,h1⟩];exact h3
 . by_cases hc:c∈q::as;.exact(b.fresh c hc).imp id jy
   . have:Fz F H (q::as) c=F c:=by unfold Fz;rw[if_neg hc]
     rw[this]at n';exact b.stp.wG c n n'
 . have c:x≠i:=by rintro rfl;rw[b.free _ e]at l;cases l
   obtain⟨z1,s3,z2,z3⟩:=b.stp.lk i t e l;exact⟨z1,s3,by rw[List.getElem?_set_ne c];exact z2,z3⟩
theorem pW{lX:List Nat}{d:D}:∀(ρ:List Sl)(n i:Nat),(hide lX x d n ρ)[i]?=(ρ[i]?).map fun s=>if n+i=x then .val true d else if lX.contains (n+i)=true then(match s with|.val _ d=>.val true d|_=>.au)else .au
 |[],n,i=>by simp[hide]|s::ρ,n,0=>by cases s<;>simp[hide]|s::ρ,n,i+1=>by
   have:(hide lX x d n (s::ρ))[i+1]?=(hide lX x d (n+1) ρ)[i]?:=by cases s<;>rfl
   rw[this,pW ρ (n+1) i,show n+1+i=n+(i+1)by omega];rfl
theorem uL{lX:List Nat}{d:D}:∀(ρ:List Sl)(n:Nat),(hide lX x d n ρ).length=ρ.length
 |[],n=>rfl|s::ρ,n=>by
   have:(hide lX x d n (s::ρ)).length=(hide lX x d (n+1) ρ).length+1:=by cases s<;>rfl
   rw[this,uL ρ];rfl
theorem NB.look{lX:List Nat}(b:NB K x q as F0 ρ0 σ0 H0 F ρ σ H rows):GS K (Fz F H (q::as)) (hide lX x (.lst (rows.map D.lst)) 0 ρ) σ H/\∀F' ρ' H',bF K (Fz F H (q::as)) (hide lX x (.lst (rows.map D.lst)) 0 ρ) σ H F' ρ' σ H'->bF K F ρ σ H F ρ σ H':=by
 obtain⟨s1,s2,rp⟩:=b.nw.fz b.stp.gs.sub;have g:=b.stp.gs;have no:∀{i:Nat}{t:Sl}{ds:Oc},(hide lX x (.lst (rows.map D.lst)) 0 ρ)[i]?=some t->lst? t=some ds->False:=fun{i t ds}e e'=>by
  rw[pW]at e;obtain⟨s,_,e2⟩:=map_some e;subst e2;split at e';.cases e'
  . split at e';.cases s<;>cases e'
    .cases e'
 refine⟨⟨s2,by rw[uL];exact g.len,fun i bb d e=>?_,fun i t ds e e'=>(no e e').elim,fun i j a⟨⟨t,ds,e,e'⟩,_⟩_=>(no e e').elim⟩,fun F' ρ' H' s=>?_⟩
 . rw[pW]at e;obtain⟨s,h1,e2⟩:=map_some e;rw[Nat.zero_add]at e2;split at e2;.rename_i hi;subst hi;cases e2;exact⟨_,b.nw.val,rp⟩
   . split at e2;.cases s with|val b0 d0=>cases e2;obtain⟨v,h2,h3⟩:=g.val i b0 d h1;exact⟨v,h2,h3.mono s1⟩|_=>cases e2
     .cases e2
 .have hs:aP H H':=fun c o e=>s.keep c o e fun⟨i,⟨t,ds,z,z'⟩,_⟩=>no z z';exact Ext.stp g ⟨hs,.refl _,s1.trans (s.bK.trans s.gs.sub),fun c n n'=>absurd n n'⟩
end
end HH
end
section
namespace HH
open PySem L2 PySem.Spec PyProof.Rows
inductive Pn(K:PySem.W.Frag)(x:Nat)(f:List Sl->Res Fl)(E:Ends)(σ:L2.St)(H:Hp):Prop where|mk(F0:Hp)(ρ0:List Sl)(σ0:L2.St)(H0 F:Hp)(ρ:List Sl)(q:Addr)(as:List Addr)(rows:List (List D))(fl:Fl)(ρ':List Sl)(b:NB K x q as F0 ρ0 σ0 H0 F ρ σ H rows)(e:f ρ=.ok fl ρ')(k:∀F' σ' H',bF K F0 ρ0 σ0 H0 F' ρ' σ' H'->aP F F'->((∀r,fl≠.ret r)->∃lN,NB K x q as F0 ρ0 σ0 H0 F' ρ' σ' H' lN)->Es K E F' ρ' σ' H' ρ0 σ0 H0 fl)
inductive T4(K:PySem.W.Frag)(x:Nat)(f:List Sl->Res Fl)(E:Ends)(σ:L2.St)(H:Hp):Prop where|mk(F0:Hp)(ρ0:List Sl)(σ0:L2.St)(H0 F:Hp)(ρ:List Sl)(q:Addr)(as:List Addr)(rows:List (List D))(fl:Fl)(ρ':List Sl)(b:NB K x q as F0 ρ0 σ0 H0 F ρ σ H rows)(e:f ρ=.ok fl ρ')(k:∀F' σ' H',bF K F0 ρ0 σ0 H0 F' ρ' σ' H'->Es K E F' ρ' σ' H' ρ0 σ0 H0 fl)
structure Hz(X:Cx)(c:Call)(n x:Nat)(st:Stmt)(s:S):Prop where p:PS X st (Pn X.K x (ex c n s))
structure RP(X:Cx)(c:Call)(n x:Nat)(st:List Stmt)(s:List S):Prop where p:wW X st (Pn X.K x (eG c n s))
structure UL(X:Cx)(c:Call)(n x:Nat)(st:List Stmt)(s:List S):Prop where p:wW X st (T4 X.K x (eG c n s))
section
variable{X:Cx}{c:Call}{n x:Nat}{e a b d tg iter:Expr}{p pa pb pd:P}{pos:Pos}{body:List Stmt}{ss:List S}{st:Stmt}{s:S}{sts:List Stmt}
theorem GX(h:SS X c n st s):Hz X c n x st s:=by refine⟨dD h ?_⟩;rintro D σ H⟨F0,ρ0,σ0,H0,F,ρ,q,as,rows,fl,ρ',nb,e,k⟩;refine⟨F,ρ,fl,ρ',nb.stp.gs,e,fun F' σ' H' t=>?_⟩;have z:=k F' σ' H' (nb.stp.trans t) t.bK fun _=>⟨rows,nb.step t⟩;cases fl with|next=>exact z|brk=>exact z|cont=>exact z|ret r=>exact fun v rr=>z v (rr.later nb.stp)
theorem lH:RP X c n x [] []:=⟨iV rO fun D σ H⟨F0,ρ0,σ0,H0,F,ρ,q,as,rows,fl,ρ',nb,e,k⟩=>by rw[eG]at e;cases e;exact k F σ H nb.stp (.refl _) fun _=>⟨rows,nb⟩⟩
theorem gW(h1:Hz X c n x st s)(h2:RP X c n x sts ss):RP X c n x (st::sts) (s::ss):=by refine⟨iV (gU h1.p h2.p) ?_⟩;rintro D σ H⟨F0,ρ0,σ0,H0,F,ρ,q,as,rows,fl,ρ',nb,e,k⟩;rw[eG]at e;obtain⟨f1,ρ1,e1,e⟩:=aj e;cases f1 with|next=>refine⟨F0,ρ0,σ0,H0,F,ρ,q,as,rows,.next,ρ1,nb,e1,fun F1 σ1 H1 s1 sm nn=>?_⟩;obtain⟨Hg,p8⟩:=nn (fun r z=>by cases z);exact⟨F0,ρ0,σ0,H0,F1,ρ1,q,as,Hg,fl,ρ',p8,e,fun F2 σ2 H2 s2 Rh nn2=>k F2 σ2 H2 s2 (sm.trans Rh) nn2⟩|brk=>cases e;exact⟨F0,ρ0,σ0,H0,F,ρ,q,as,rows,.brk,_,nb,e1,k⟩|cont=>cases e;exact⟨F0,ρ0,σ0,H0,F,ρ,q,as,rows,.cont,_,nb,e1,k⟩|ret r=>cases e;exact⟨F0,ρ0,σ0,H0,F,ρ,q,as,rows,.ret r,_,nb,e1,k⟩
theorem gZ(h1:Hz X c n x st s)(h2:UL X c n x sts ss):UL X c n x (st::sts) (s::ss):=by refine⟨iV (gU h1.p h2.p) ?_⟩;rintro D σ H⟨F0,ρ0,σ0,H0,F,ρ,q,as,rows,fl,ρ',nb,e,k⟩;rw[eG]at e;obtain⟨f1,ρ1,e1,e⟩:=aj e;cases f1 with|next=>refine⟨F0,ρ0,σ0,H0,F,ρ,q,as,rows,.next,ρ1,nb,e1,fun F1 σ1 H1 s1 sm nn=>?_⟩;obtain⟨Hg,p8⟩:=nn (fun r z=>by cases z);exact⟨F0,ρ0,σ0,H0,F1,ρ1,q,as,Hg,fl,ρ',p8,e,k⟩|brk=>cases e;exact⟨F0,ρ0,σ0,H0,F,ρ,q,as,rows,.brk,_,nb,e1,fun F1 σ1 H1 s1 _ _=>k F1 σ1 H1 s1⟩|cont=>cases e;exact⟨F0,ρ0,σ0,H0,F,ρ,q,as,rows,.cont,_,nb,e1,fun F1 σ1 H1 s1 _ _=>k F1 σ1 H1 s1⟩|ret r=>cases e;exact⟨F0,ρ0,σ0,H0,F,ρ,q,as,rows,.ret r,_,nb,e1,fun F1 σ1 H1 s1 _ _=>k F1 σ1 H1 s1⟩
theorem rP(h:SB X c n sts ss):UL X c n x sts (.fH x::ss):=by refine⟨iV h ?_⟩;rintro D σ H⟨F0,ρ0,σ0,H0,F,ρ,q,as,rows,fl,ρ',nb,e,k⟩;rw[eG]at e;obtain⟨f1,ρ1,e1,e⟩:=aj e;rw[HH.X29,nb.nw.slot]at e1;cases e1;have t:=nb.fH;refine⟨_,_,fl,ρ',t.gs,e,fun F' σ' H' s=>?_⟩;have z:=k F' σ' H' (t.trans s);cases fl with|next=>exact z|brk=>exact z|cont=>exact z|ret r=>exact fun v rr=>z v (rr.later t)
theorem K1{i:Nat}(h:SB X c n sts ss):SB X c n sts (.fz i::ss):=by
 refine iV h ?_;rintro D σ H⟨F,ρ,fl,ρ',g,e,k⟩;rw[eG]at e;obtain⟨f1,ρ1,e1,e⟩:=aj e;rw[HH.X30]at e1;split at e1;.rename_i bb ds z;cases e1;obtain⟨v,F1,h1,h2,h3⟩:=g.freeze z;refine⟨F1,_,fl,ρ',h2.gs,e,fun F' σ' H' s=>?_⟩;have z:=k F' σ' H' (h2.trans s);cases fl with|next=>exact z|brk=>exact z|cont=>exact z|ret r=>exact fun v rr=>z v (rr.later h2)
 .cases e1;exact⟨F,ρ,fl,ρ',g,e,k⟩
 .cases e1
theorem uZ{ρ:List Sl}{rows:List (List D)}(h:cz ρ x=some rows):ρ[x]?=some (.hold rows):=by
 unfold cz at h;split at h;.rename_i z;cases h;exact z
 .cases h
theorem Ij{sa sb:List Stmt}{ta tb:List S}{lX:List Nat}(hc:ST X c e p)(ha:RP X c n x sa ta)(hb:RP X c n x sb tb):Hz X c n x (.If e sa sb pos) (.WW x lX p ta tb):=by refine⟨dD (Mq hc ha.p hb.p) ?_⟩;rintro D σ H⟨F0,ρ0,σ0,H0,F,ρ,q,as,rows,fl,ρ',nb,e,k⟩;rw[HH.X31]at e;obtain⟨rs,ρ9,e0,e⟩:=aj e;have zz:=aF e0;clear e0;obtain⟨e0,yp⟩:=zz;subst yp;have hr:=uZ e0;rw[nb.nw.slot]at hr;cases hr;obtain⟨t,ρ1,e1,e⟩:=aj e;obtain⟨g,lk⟩:=nb.look (lX:=lX);refine⟨_,_,t,ρ1,g,e1,fun F1 H1 s1=>?_⟩;have s2:=lk _ _ _ s1;have go:∀{f:List Sl->Res Fl},f ρ=.ok fl ρ'->Pn X.K x f D σ H1:=fun{f}h=>⟨F0,ρ0,σ0,H0,F,ρ,q,as,rows,fl,ρ',nb.step s2,h,fun F2 σ2 H2 s3 sm nn=>k F2 σ2 H2 s3 sm nn⟩;cases t with|true=>rw[if_pos rfl]at e;exact go e|false=>rw[if_neg Bool.false_ne_true]at e;exact go e
noncomputable def WalkN(K:PySem.W.Frag)(J:It)(ds:List D)(F1:Hp):Prop:=∀(k:Nat)(F' H':Hp),aP F1 F'->aP F' H'->(∀d,ds[k]?=some d->J.go k H'/\∀x nC,J.Kw k H' x nC->∃F'',Ext F' H' F'' nC/\Rep K F'' x d)/\(ds.length<=k->J.stop k H')
inductive aak(K:PySem.W.Frag)(f:Ev)(σ:L2.St)(H:Hp)(R:It->Hp->Prop):Prop where|mk(F:Hp)(ρ:List Sl)(r:HH.R)(ρ1:List Sl)(ds:List D)(g:GS K F ρ σ H)(e:f ρ=.ok r ρ1)(e2:items r.d=some ds)(k:∀J F1 H1,bF K F ρ σ H F1 ρ1 σ H1->WalkN K J ds F1->R J H1)
structure SIN(X:Cx)(c:Call)(tg e:Expr)(p:P):Prop where p:PI X tg e (aak X.K (HH.ev c p))
theorem zV(h:SX X c e p):SIN X c tg e p:=by refine⟨mX (sW h.ev) ?_⟩;rintro σ H R⟨F,ρ,r,ρ1,ds,g,e,e2,k⟩;refine⟨F,ρ,r,ρ1,g,e,fun v F' H' s rr=>?_⟩;obtain⟨F2,s2,_,rp⟩:=s.fH rr;cases hd:r.d with|tup es=>rw[hd]at rp e2;cases e2;rw[Rep]at rp;obtain⟨a,xs,rfl,h1,h2⟩:=rp;exact⟨a,rfl,.inr ⟨⟨xs,aP.iw s2.gs.sub h1⟩,k _ _ _ s2 fun k F3 H3 Xa Rh=>zL (aP.iw Rh (aP.iw Xa h1)) (h2.mono Xa) Rh k⟩⟩|lst es=>rw[hd]at rp e2;cases e2;rw[Rep]at rp;obtain⟨a,xs,rfl,h1,h2⟩:=rp;exact⟨a,rfl,.inl ⟨⟨xs,s2.gs.sub.seq h1⟩,k _ _ _ s2 fun k F3 H3 Xa Rh=>pX (Rh.seq (Xa.seq h1)) (h2.mono Xa) Rh k⟩⟩|_=>rw[hd]at e2;cases e2
theorem Bb{K:PySem.W.Frag}{F1:Hp}(i j:Int):WalkN K (Rv i (j-i).toNat) ((List.range (j-i).toNat).map fun(k:Nat)=>D.int (i+(k:Int))) F1:=by
 refine fun k F' H' _ sm=>⟨fun d hd=>?_,fun h=>?_⟩;.rw[List.getElem?_map]at hd;obtain⟨m,e1,e2⟩:=map_some hd;obtain⟨h1,h2⟩:=List.getElem?_eq_some_iff.mp e1;rw[List.getElem_range]at h2;subst h2;subst e2;rw[List.length_range]at h1;refine⟨h1,?_⟩;rintro x nC⟨q1,q2⟩;subst q1;subst q2;exact⟨F',.refl sm,bJ _⟩
 .rw[List.length_map,List.length_range]at h;exact h
theorem FN{x:Str}{p':Pos}(hx:x="range")(hg:Gl X x)(hm:X.mg x=none)(ha:SX X c a pa)(hb:SX X c b pb)(hs:starEach [a,b] X.env=[(false,eval a X.env),(false,eval b X.env)]:=by rfl)(hs2:starEach [b] X.env=[(false,eval b X.env)]:=by rfl):SIN X c tg (.Call (.Name x p') [a,b] [] pos) (.lW pa pb):=by subst hx;obtain⟨ta,tb,h1,h2,h3⟩:=ha.iB hb;refine⟨mX (rF hg hm (cH h1 (cH h2 gO hs2) (by rw[hs,hs2])) hs hs2) ?_⟩;rintro σ H R⟨F,ρ,r,ρ1,ds,g,e1,e2,k⟩;rw[HH.E20]at e1;obtain⟨xy,ρ3,e4,e5⟩:=aj e1;have zz:=aF e5;clear e5;obtain⟨e5,e6⟩:=zz;subst e6;obtain⟨i,f1,e5⟩:=aW e5;obtain⟨j,f2,e5⟩:=aW e5;obtain⟨⟨b1,b2,b3,b4⟩,e5⟩:=bw e5;subst e5;cases e2;have f1:=aY f1;have f2:=aY f2;refine h3 g e4 fun v u F' H' s pv pu=>?_;rw[f1]at pv;rw[f2]at pu;refine⟨i,j,by rw[pv.int,pu.int],⟨by omega,by omega,by omega,by omega⟩,?_⟩;exact k _ F' H' s (Bb i j)
theorem rZ{g:TG}{is:List Nat}{one:Bool}(hp:PassesOwn (model X.prog X.w) X.A X.env X.xe)(hc:X.calm=true)(hi:SIN X c tg iter p)(hg:PG X tg g)(hgo:Du X.K (fun ρ d=>bV ρ is one d) g)(hb:RP X c n x body ss)(hs:∀x,foldedSetIterable iter X.env x=pure x:=by intro _;rfl):Hz X c n x (.For tg iter body [] pos) (.yo p is one ss):=by
 refine⟨dD (xQ hp hc hi.p hg hb.p hs) ?_⟩;rintro D σ H⟨F0,ρ0,σ0,H0,F,ρ,q,as,rows,fl,ρ',nb,e,k⟩;rw[HH.X28]at e;obtain⟨r,ρ1,e1,e⟩:=aj e;obtain⟨ds,ρ9,e9,e2⟩:=aj e;have zz:=aF e9;clear e9;obtain⟨e9,e91⟩:=zz;subst e91;refine⟨F,ρ,r,ρ1,ds,nb.stp.gs,e1,e9,fun J F1 H1 s1 w=>?_⟩;refine⟨fun i m σi Hi=>∃Fi ρi jo,NB X.K x q as F0 ρ0 σ0 H0 Fi ρi σi Hi jo/\aP F1 Fi/\m=ds.length-i/\i<=ds.length/\gB is one (eG c n ss) (ds.drop i) ρi=.ok fl ρ',⟨_,F1,ρ1,rows,nb.step s1,.refl _,rfl,Nat.zero_le _,e2⟩,?_⟩;rintro i m σi Hi⟨Fi,ρi,jo,Cj,TV,rfl,hle,ei⟩;obtain⟨w1,w2⟩:=w i Fi Hi TV Cj.stp.gs.sub;by_cases hlt:i<ds.length
 . right;have hd:ds[i]?=some ds[i]:=by simp[hlt]
   obtain⟨go,step⟩:=w1 _ hd;refine⟨go,fun σ' H'=>∃m',m'<ds.length-i/\∃Fi ρi jo,NB X.K x q as F0 ρ0 σ0 H0 Fi ρi σ' H' jo/\aP F1 Fi/\m'=ds.length-(i+1)/\i+1<=ds.length/\gB is one (eG c n ss) (ds.drop (i+1)) ρi=.ok fl ρ',fun σ' H' z=>z,fun y H' yy=>?_⟩;obtain⟨F2,ext,rx⟩:=step y H' yy;have t2:=ext.stp Cj.stp.gs;rw[List.drop_eq_getElem_cons hlt,gB]at ei;cases hbd:bV ρi is one ds[i]with|none=>rw[hbd]at ei;cases ei|some ρb=>rw[hbd]at ei;obtain⟨flb,ρc,eb,ei⟩:=aj ei;refine hgo y _ F2 ρi ρb σi H' _ t2.gs rx hbd fun σ2 sb=>?_;have t3:=t2.trans sb;refine⟨F0,ρ0,σ0,H0,F2,ρb,q,as,jo,flb,ρc,Cj.step t3,eb,fun F4 σ4 H4 s4 sm4 nn4=>?_⟩;have TJ:aP F1 F4:=TV.trans (ext.fs.trans sm4);cases flb with|next=>obtain⟨Hh,Ag⟩:=nn4 (fun r z=>by cases z);exact⟨_,by omega,F4,ρc,Hh,Ag,TJ,rfl,hlt,ei⟩|cont=>obtain⟨Hh,Ag⟩:=nn4 (fun r z=>by cases z);exact⟨_,by omega,F4,ρc,Hh,Ag,TJ,rfl,hlt,ei⟩|brk=>cases ei;exact k F4 σ4 H4 s4 (s1.bK.trans TJ) fun _=>nn4 (fun r z=>by cases z)|ret r=>cases ei;exact fun v rr=>k F4 σ4 H4 s4 (s1.bK.trans TJ) (fun h=>(h r rfl).elim) v rr
 . left;have hdr:ds.drop i=[]:=by rw[List.drop_eq_nil_iff];omega
   rw[hdr,gB]at ei;cases ei;exact⟨w2 (by omega),k Fi σi Hi Cj.stp (s1.bK.trans TV) fun _=>⟨jo,Cj⟩⟩
end
end HH
end
section
namespace HH
open PySem L2 PySem.Spec PyProof.Rows
section
variable{X:Cx}{c:Call}{n:Nat}{e a b d i j:Expr}{p pa pb pd pi pj:P}{pos:Pos}
theorem lD{ρ ρ':List Sl}{x:Nat}{o:Option (List (List D))}{fl:Fl}(h:jV ρ x o=.ok fl ρ'):∃rows,o=some rows/\fl=.next/\ρ'=ρ.set x (.hold rows):=by cases o with|none=>cases h|some rows=>cases h;exact⟨rows,rfl,rfl,rfl⟩
section
variable{K:PySem.W.Frag}{F H F0 H0:Hp}{ρ ρ0:List Sl}{σ σ0:L2.St}{x:Nat}{q:Addr}{as:List Addr}{rows lN:List (List D)}
theorem NB.hold(nb:NB K x q as F0 ρ0 σ0 H0 F ρ σ H rows)(h:cz ρ x=some lN):lN=rows:=by have:=uZ h;rw[nb.nw.slot]at this;cases this;rfl
theorem NB.at{k:Int}{r:Nat}{row:List D}(nb:NB K x q as F0 ρ0 σ0 H0 F ρ σ H rows)(h1:HH.lU rows.length k=some r)(h2:rows[r]?=some row):∃a ys,as[r]?=some a/\Ej (as.map V.ref) k=some (.ref a)/\H a=some (.lst ys)/\aL K F ys row:=by
 have hl:r<as.length:=by rw[nb.nw.len];exact(List.getElem?_eq_some_iff.mp h2).1
 obtain⟨⟨ys,k1,r1⟩,_⟩:=nb.nw.row r as[r] row (by simp[hl]) h2;refine⟨as[r],ys,by simp[hl],?_,k1.1,r1⟩;unfold Ej;rw[List.length_map,nb.nw.len];rw[show L2.lU rows.length k=some r from h1];simp[hl]
theorem NB.fO{dk:D}{row:List D}(nb:NB K x q as F0 ρ0 σ0 H0 F ρ σ H rows)(h:HH.fO ρ x dk=some row):∃k a,(∃r:Nat,as[r]?=some a)/\Ej (as.map V.ref) k=some (.ref a)/\dk=.int k/\∃ys,H a=some (.lst ys)/\aL K F ys row:=by unfold HH.fO at h;obtain⟨rows0,h1,h⟩:=aW h;cases nb.hold h1;obtain⟨k,h2,h⟩:=aW h;obtain⟨r,h3,h4⟩:=aW h;obtain⟨a,ys,g1,g2,g3,g4⟩:=nb.at h3 h4;exact⟨k,a,⟨r,g1⟩,g2,aY h2,ys,g3,g4⟩
theorem tM{ys:List V}{row:List D}{k:Int}{d:D}(r:aL K F ys row)(h:at' row k=some d):∃w,Ej ys k=some w/\Rep K F w d:=by obtain⟨j,h1,h2⟩:=Gg h;obtain⟨w,h3,h4⟩:=r.get h2;exact⟨w,by unfold Ej;rw[r.length,h1];exact h3,h4⟩
end
theorem jA{rows lN:List (List D)}{k:Int}{f:List D->Option (List D)}(h:cg rows k f=some lN):∃r row gD,HH.lU rows.length k=some r/\rows[r]?=some row/\f row=some gD/\lN=rows.set r gD:=by unfold cg at h;obtain⟨r,h1,h⟩:=aW h;obtain⟨row,h2,h⟩:=aW h;obtain⟨gD,h3,h⟩:=map_some h;exact⟨r,row,gD,h1,h2,h3,h.symm⟩
theorem oZ{l:Int}{d:D}{row gD:List D}(h:setAt l d row=some gD):∃m,HH.lU row.length l=some m/\gD=row.set m d:=by obtain⟨m,h1,h2⟩:=map_some h;exact⟨m,h1,h2.symm⟩
theorem GQ{x:Str}{k:Nat}{px ipos tpos:Pos}(hN:X.N[k]?=some x)(hv:sV X.env.scope x)(hi:SX X c i pi)(hj:SX X c j pj)(he:SX X c e p)(hpx:fc i:=by intro _ _;rfl)(ha:∀ v,assign (.Subscript (.Subscript (.Name x px) i ipos) j tpos) X.env v=(do
  let ov<-holding [v] (eval (.Subscript (.Name x px) i ipos) X.env)let iv<-holding [v,ov] (eval j X.env)standAt tpos
  holding [v,ov,iv] (setItem ov iv v)release [v,ov,iv] []):=by intro _;rfl)(hs:swapsWithSole [.Subscript (.Subscript (.Name x px) i ipos) j tpos] e pos.line X.env=pure false:=by rfl)(hw:swappedStores [.Subscript (.Subscript (.Name x px) i ipos) j tpos] e X.env=pure none:=by rfl)(h1:(assignEach [.Subscript (.Subscript (.Name x px) i ipos) j tpos] X.env).map (·.2)=[assign (.Subscript (.Subscript (.Name x px) i ipos) j tpos) X.env]:=by rfl)(hd:(x==("__debug__":Str))=false:=by decide)(hcd:(x==("__classdict__":Str))=false:=by decide):Hz X c n k (.Assign [.Subscript (.Subscript (.Name x px) i ipos) j tpos] e pos) (.Ce k pi pj p):=by obtain⟨ti,hi1,hi2⟩:=hi.bI;obtain⟨tj,hj1,hj2⟩:=hj.bI;refine⟨dD (p6 he.ev (tu (lq fW (dB hN hv hd hcd) hi1 hpx) hj1 set_list ha) hs hw h1) ?_⟩;rintro E σ H⟨F0,ρ0,σ0,H0,F,ρ,q,as,rows,fl,ρ',nb,e,kk⟩;rw[HH.X23]at e;obtain⟨r,ρ1,e1,e⟩:=aj e;obtain⟨dk,ρ2,e2,e⟩:=aj e;obtain⟨Xb,ρ2',e8,e⟩:=aj e;have zz:=aF e8;clear e8;obtain⟨e8,Xc⟩:=zz;subst Xc;obtain⟨dl,ρ3,e3,e⟩:=aj e;obtain⟨rs,e4,rfl,rfl⟩:=lD e;refine⟨F,ρ,r,ρ1,nb.stp.gs,e1,fun v F1 H1 s1 rr=>?_⟩;obtain⟨F2,s2,_,rp⟩:=s1.fH rr;have Hj:=nb.step s2;refine⟨.ref q,nb.nw.val,hi2 Hj.stp.gs e2 fun vi F3 H3 s3 pi=>?_⟩;have yz:=Hj.step s3;obtain⟨k0,a,g1,g2,g0,rest⟩:=yz.fO e8;rw[g0]at pi;refine⟨q,_,k0,_,rfl,pi.int,dX.of yz.nw.out.kp.1,g2,hj2 yz.stp.gs e3 fun vj F4 H4 s4 pj=>?_⟩;have Ag:=yz.step s4;obtain⟨rows0,e5,e4⟩:=aW e4;cases Ag.hold e5;obtain⟨k1,e6,e4⟩:=aW e4;obtain⟨l1,e7,e4⟩:=aW e4;obtain⟨m,row,gD,f1,f2,f3,rfl⟩:=jA e4;obtain⟨m2,f4,rfl⟩:=oZ f3;have:=aY e6;rw[g0]at this;cases this;rw[aY e7]at pj;obtain⟨a',ys',KN,Cv,HN,Hk⟩:=Ag.at f1 f2;rw[g2]at Cv;cases Cv;have rp4:aL X.K F4 (ys'.set m2 v) (row.set m2 r.d):=Hk.set (rp.mono (s3.bK.trans s4.bK)) m2;have Cw:=Ag.mut KN f2 rp4;refine⟨a,ys',l1,m2,rfl,pj.int,HN,by rw[Hk.length];exact f4,?_⟩;exact kk F4 σ _ Cw.stp (s2.bK.trans (s3.bK.trans s4.bK)) fun _=>⟨_,Cw⟩
theorem uG{x:Str}{k:Nat}{px ipos tpos Xd wJ wK um:Pos}{o:Operator}{sub:Bool}{i' j':Expr}(hN:X.N[k]?=some x)(hv:sV X.env.scope x)(hi:SX X c i pi)(hj:SX X c j pj)(hi':SX X c i' pi)(hj':SX X c j' pj)(he:SX X c e p)(ho:(o=.Sub/\sub=true)\/(o=.Add/\sub=false))(hpx:fc i:=by intro _ _;rfl)(abw:fc i':=by intro _ _;rfl)(hpj:fc j':=by intro _ _;rfl)(ha:∀ v,assign (.Subscript (.Subscript (.Name x px) i ipos) j tpos) X.env v=(do
  let ov<-holding [v] (eval (.Subscript (.Name x px) i ipos) X.env)let iv<-holding [v,ov] (eval j X.env)standAt tpos
  holding [v,ov,iv] (setItem ov iv v)release [v,ov,iv] []):=by intro _;rfl)(hs:swapsWithSole [.Subscript (.Subscript (.Name x px) i ipos) j tpos] (.BinOp (.Subscript (.Subscript (.Name x Xd) i' wJ) j' wK) o e um) pos.line X.env=pure false:=by rfl)(hw:swappedStores [.Subscript (.Subscript (.Name x px) i ipos) j tpos] (.BinOp (.Subscript (.Subscript (.Name x Xd) i' wJ) j' wK) o e um) X.env=pure none:=by rfl)(h1:(assignEach [.Subscript (.Subscript (.Name x px) i ipos) j tpos] X.env).map (·.2)=[assign (.Subscript (.Subscript (.Name x px) i ipos) j tpos) X.env]:=by rfl)(hd:(x==("__debug__":Str))=false:=by decide)(hcd:(x==("__classdict__":Str))=false:=by decide):Hz X c n k (.Assign [.Subscript (.Subscript (.Name x px) i ipos) j tpos] (.BinOp (.Subscript (.Subscript (.Name x Xd) i' wJ) j' wK) o e um) pos) (.wF k pi pj sub p):=by
 obtain⟨ti,hi1,hi2⟩:=hi.bI;obtain⟨tj,hj1,hj2⟩:=hj.bI;obtain⟨ti',abx,hi2'⟩:=hi'.bI;obtain⟨tj',hj1',hj2'⟩:=hj'.bI;obtain⟨te,he1,he2⟩:=he.bI;have lhs:PE X (.Subscript (.Subscript (.Name x Xd) i' wJ) j' wK) (Hv (CW X.K) (Hv (CW X.K) (CG k) ti') tj'):=lq fW (lq fW (dB hN hv hd hcd) abx abw) hj1' hpj;have val:PE X (.BinOp (.Subscript (.Subscript (.Name x Xd) i' wJ) j' wK) o e um) (fun σ H Q=>ZF (Hv (CW X.K) (Hv (CW X.K) (CG k) ti') tj') te (fun i j H2=>Q (.int (if sub then i-j else i+j)) H2) σ H):=by
  rcases ho with⟨rfl,rfl⟩|⟨rfl,rfl⟩;.exact Om lhs he1
  .exact Eg lhs he1
 refine⟨dD (p6 val (tu (lq fW (dB hN hv hd hcd) hi1 hpx) hj1 set_list ha) hs hw h1) ?_⟩;rintro E σ H⟨F0,ρ0,σ0,H0,F,ρ,q,as,rows,fl,ρ',nb,e,kk⟩;rw[HH.X24]at e;obtain⟨dk,ρ2,e2,e⟩:=aj e;obtain⟨Xb,ρ2',e8,e⟩:=aj e;have zz:=aF e8;clear e8;obtain⟨e8,Xc⟩:=zz;subst Xc;obtain⟨dl,ρ3,e3,e⟩:=aj e;obtain⟨u,ρ3',e9,e⟩:=aj e;have zz:=aF e9;clear e9;obtain⟨e9,e91⟩:=zz;subst e91;obtain⟨dw,ρ4,e10,e⟩:=aj e;obtain⟨dk2,ρ5,e12,e⟩:=aj e;obtain⟨row2,ρ5',Y5,e⟩:=aj e;have zz:=aF Y5;clear Y5;obtain⟨Y5,aby⟩:=zz;subst aby;obtain⟨dl2,ρ6,e14,e⟩:=aj e;obtain⟨rs,e4,rfl,rfl⟩:=lD e;refine⟨.ref q,nb.nw.val,hi2' nb.stp.gs e2 fun vi F1 H1 s1 pi=>?_⟩;have p8:=nb.step s1;obtain⟨k0,a,g1,g2,g0,_⟩:=p8.fO e8;rw[g0]at pi;refine⟨q,_,k0,_,rfl,pi.int,dX.of p8.nw.out.kp.1,g2,hj2' p8.stp.gs e3 fun vj F2 H2 s2 pj=>?_⟩;have Hj:=p8.step s2;obtain⟨abz,e15,e9⟩:=aW e9;obtain⟨k00,a2,w1,w2,w0,ys,w3,w4⟩:=Hj.fO e15;rw[g0]at w0;cases w0;rw[g2]at w2;cases w2;obtain⟨l0,e16,e9⟩:=aW e9;obtain⟨du,e17,e9⟩:=aW e9;cases aY e9;rw[aY e16]at pj;obtain⟨vu,y1,y2⟩:=tM w4 e17;rw[Rep]at y2;subst y2;refine⟨a,ys,l0,_,rfl,pj.int,dX.of w3,y1,he2 Hj.stp.gs e10 fun vw F3 H3 s3 pw=>?_⟩;have yz:=Hj.step s3;obtain⟨rows0,e5,e4⟩:=aW e4;obtain⟨v0,e18,e4⟩:=aW e4;rw[aY e18]at pw;refine⟨u,v0,rfl,pw.int,?_⟩;refine⟨.ref q,nb.nw.val,hi2 yz.stp.gs e12 fun vi2 F4 H4 s4 pi2=>?_⟩;have Ag:=yz.step s4;obtain⟨k3,a3,x1,x2,x0,_⟩:=Ag.fO Y5;rw[x0]at pi2;refine⟨q,_,k3,_,rfl,pi2.int,dX.of Ag.nw.out.kp.1,x2,hj2 Ag.stp.gs e14 fun vj2 F5 H5 s5 pj2=>?_⟩;have Cw:=Ag.step s5;cases Cw.hold e5;obtain⟨k1,e6,e4⟩:=aW e4;obtain⟨l1,e7,e4⟩:=aW e4;obtain⟨m,row,gD,f1,f2,f3,rfl⟩:=jA e4;obtain⟨m2,f4,rfl⟩:=oZ f3;have:=aY e6;rw[x0]at this;cases this;rw[aY e7]at pj2;obtain⟨a',ys',KN,Cv,HN,Hk⟩:=Cw.at f1 f2;rw[x2]at Cv;cases Cv;have rp4:aL X.K F5 (ys'.set m2 (.int (if sub then u-v0 else u+v0))) (row.set m2 (.int (if sub then u-v0 else u+v0))):=Hk.set (bJ _) m2;have nb6:=Cw.mut KN f2 rp4;refine⟨a3,ys',l1,m2,rfl,pj2.int,HN,by rw[Hk.length];exact f4,?_⟩;exact kk F5 σ _ nb6.stp (s1.bK.trans (s2.bK.trans (s3.bK.trans (s4.bK.trans s5.bK)))) fun _=>⟨_,nb6⟩
theorem Gf{x:Str}{k:Nat}{px ipos apos cpos:Pos}(hN:X.N[k]?=some x)(hv:sV X.env.scope x)(hi:SX X c i pi)(he:SX X c e p)(hpx:fc i:=by intro _ _;rfl)(hline:(apos.endLine==cpos.line)=true:=by rfl)(hs:starEach [e] X.env=(false,eval e X.env)::starEach [] X.env:=by rfl)(hbase:attributeBase (.Subscript (.Name x px) i ipos) "append" X.env (eval (.Subscript (.Name x px) i ipos) X.env)=eval (.Subscript (.Name x px) i ipos) X.env:=by rfl)(hfew:((backTo cpos (starEach [e] X.env)).all (fun x=>!x.1)&&(backToKw cpos (keywordEach [] X.env)).all (fun x=>x.1.isSome)&&decide ([e].length+([]:List Keyword).length+(if([]:List Keyword).isEmpty then 0 else 1)<30))=true:=by rfl)(hsw:swapsWith (.Call (.Attribute (.Subscript (.Name x px) i ipos) "append" apos) [e] [] cpos) none pos.line X.env=pure false:=by rfl)(hd:(x==("__debug__":Str))=false:=by decide)(hcd:(x==("__classdict__":Str))=false:=by decide):Hz X c n k (.Expr (.Call (.Attribute (.Subscript (.Name x px) i ipos) "append" apos) [e] [] cpos) pos) (.Hb k pi p):=by obtain⟨ti,hi1,hi2⟩:=hi.bI;refine⟨dD (tU (Lq PySem.F.plainAttrs_list PySem.F.slot_list_append PySem.F.type_list_append mK (lq fW (dB hN hv hd hcd) hi1 hpx) (cH he.ev gO hs) hbase hfew hline hs) hsw) ?_⟩;rintro E σ H⟨F0,ρ0,σ0,H0,F,ρ,q,as,rows,fl,ρ',nb,e,kk⟩;rw[HH.X25]at e;obtain⟨dk,ρ2,e2,e⟩:=aj e;obtain⟨Xb,ρ2',e8,e⟩:=aj e;have zz:=aF e8;clear e8;obtain⟨e8,Xc⟩:=zz;subst Xc;obtain⟨r,ρ3,e3,e⟩:=aj e;obtain⟨rs,e4,rfl,rfl⟩:=lD e;refine⟨.ref q,nb.nw.val,hi2 nb.stp.gs e2 fun vi F1 H1 s1 pi=>?_⟩;have p8:=nb.step s1;obtain⟨k0,a,g1,g2,g0,ys,g3,g4⟩:=p8.fO e8;rw[g0]at pi;refine⟨q,_,k0,_,rfl,pi.int,dX.of p8.nw.out.kp.1,g2,.inl ⟨rfl,ys,dX.of g3⟩,F1,ρ2,r,ρ3,p8.stp.gs,e3,fun v F2 H2 s2 rr=>?_⟩;obtain⟨F3,s3,_,rp⟩:=s2.fH rr;have yz:=p8.step s3;obtain⟨rows0,e5,e4⟩:=aW e4;cases yz.hold e5;obtain⟨k1,e6,e4⟩:=aW e4;obtain⟨m,row,gD,f1,f2,f3,rfl⟩:=jA e4;obtain⟨hlt,rfl⟩:=bw f3;have:=aY e6;rw[g0]at this;cases this;obtain⟨a',ys',KN,Cv,HN,Hk⟩:=yz.at f1 f2;rw[g2]at Cv;cases Cv;have Cw:=yz.mut KN f2 (Hk.append (.cons rp .nil));exact⟨a,ys',v,rfl,rfl,HN,by rw[Hk.length];exact hlt,kk F3 σ _ Cw.stp (s1.bK.trans s3.bK) fun _=>⟨_,Cw⟩⟩
theorem Ea{x:Str}{k:Nat}{px ipos apos cpos:Pos}(hN:X.N[k]?=some x)(hv:sV X.env.scope x)(hi:SX X c i pi)(hpx:fc i:=by intro _ _;rfl)(hline:(apos.endLine==cpos.line)=true:=by rfl)(hbase:attributeBase (.Subscript (.Name x px) i ipos) "clear" X.env (eval (.Subscript (.Name x px) i ipos) X.env)=eval (.Subscript (.Name x px) i ipos) X.env:=by rfl)(hsw:swapsWith (.Call (.Attribute (.Subscript (.Name x px) i ipos) "clear" apos) [] [] cpos) none pos.line X.env=pure false:=by rfl)(hd:(x==("__debug__":Str))=false:=by decide)(hcd:(x==("__classdict__":Str))=false:=by decide):Hz X c n k (.Expr (.Call (.Attribute (.Subscript (.Name x px) i ipos) "clear" apos) [] [] cpos) pos) (.Hc k pi):=by obtain⟨ti,hi1,hi2⟩:=hi.bI;refine⟨dD (tU (QK PySem.F.plainAttrs_list PySem.F.slot_list_clear PySem.F.type_list_clear Dh (lq fW (dB hN hv hd hcd) hi1 hpx) hbase hline) hsw) ?_⟩;rintro E σ H⟨F0,ρ0,σ0,H0,F,ρ,q,as,rows,fl,ρ',nb,e,kk⟩;rw[HH.X26]at e;obtain⟨dk,ρ2,e2,e⟩:=aj e;obtain⟨rs,e4,rfl,rfl⟩:=lD e;refine⟨.ref q,nb.nw.val,hi2 nb.stp.gs e2 fun vi F1 H1 s1 pi=>?_⟩;have p8:=nb.step s1;obtain⟨rows0,e5,e4⟩:=aW e4;cases p8.hold e5;obtain⟨k1,e6,e4⟩:=aW e4;obtain⟨m,row,gD,f1,f2,f3,rfl⟩:=jA e4;cases f3;rw[aY e6]at pi;obtain⟨a',ys',KN,Cv,HN,Hk⟩:=p8.at f1 f2;have Cw:=p8.mut KN f2 (gD:=[]) (ys:=[]) .nil;exact⟨q,_,k1,_,rfl,pi.int,dX.of p8.nw.out.kp.1,Cv,.inl ⟨rfl,ys',dX.of HN⟩,a',ys',rfl,rfl,HN,kk F1 σ _ Cw.stp s1.bK fun _=>⟨_,Cw⟩⟩
end
end HH
end
section
namespace HH
open PySem L2 PySem.Spec PyProof.Rows
section
variable{K:PySem.W.Frag}{F H F0 H0:Hp}{ρ ρ0:List Sl}{σ σ0:L2.St}{x y:Nat}{q:Addr}{as:List Addr}{rows lN:List (List D)}
theorem NB.other{s1:Sl}{o:Option V}(nb:NB K x q as F0 ρ0 σ0 H0 F ρ σ H rows)(h:ρ[y]?=some s1)(hl:uA s1=false):NB K x q as F0 ρ0 σ0 H0 F (ρ.set y .au) (σ.set y o) H rows:=by
 have hxy:y≠x:=by rintro rfl;rw[nb.nw.slot]at h;cases h;cases hl
 refine⟨nb.stp.uE rfl (nb.stp.free h hl),nb.fresh,nb.free,⟨by rw[List.getElem?_set_ne hxy];exact nb.nw.slot,by rw[List.getElem?_set_ne hxy];exact nb.nw.val,⟨rR rfl nb.nw.out.kp,nb.nw.out.fr⟩,nb.nw.nd,nb.nw.len,fun k a ds h1 h2=>zg rfl (nb.nw.row k a ds h1 h2)⟩⟩
theorem NB.nth{r:Nat}{row:List D}(nb:NB K x q as F0 ρ0 σ0 H0 F ρ σ H rows)(h2:rows[r]?=some row):∃a ys,as[r]?=some a/\H a=some (.lst ys)/\aL K F ys row:=by
 have hl:r<as.length:=by rw[nb.nw.len];exact(List.getElem?_eq_some_iff.mp h2).1
 obtain⟨⟨ys,k1,r1⟩,_⟩:=nb.nw.row r as[r] row (by simp[hl]) h2;exact⟨as[r],ys,by simp[hl],k1.1,r1⟩
end
section
variable{X:Cx}{c:Call}{n:Nat}{j k l:Expr}{pj pk pl:P}{pos:Pos}
theorem DQ{x y:Str}{kx ky:Nat}{px py MF Y6 py3 tpos KQ yC um spos:Pos}(hp:PassesOwn (model X.prog X.w) X.A X.env X.xe)(hc:X.calm=true)(hND:X.N.Nodup)(hx:X.N[kx]?=some x)(hvx:sV X.env.scope x)(hy:X.N[ky]?=some y)(hly:Loc X.env.scope y)(hvy:sV X.env.scope y)(hj:SX X c j pj)(hk:SX X c k pk)(hl:SX X c l pl)(hpk:fc k:=by intro _ _;rfl)(hpl:fc l:=by intro _ _;rfl)(ha:∀ v,assign (.Subscript (.Name y MF) j tpos) X.env v=(do
  let ov<-holding [v] (eval (.Name y MF) X.env)let iv<-holding [v,ov] (eval j X.env)standAt tpos
  holding [v,ov,iv] (setItem ov iv v)release [v,ov,iv] []):=by intro _;rfl)(hs:swapsWithSole [.Subscript (.Name y MF) j tpos] (.BinOp (.Subscript (.Name y Y6) k KQ) .Add (.Subscript (.Name y py3) l yC) um) spos.line X.env=pure false:=by rfl)(hw:swappedStores [.Subscript (.Name y MF) j tpos] (.BinOp (.Subscript (.Name y Y6) k KQ) .Add (.Subscript (.Name y py3) l yC) um) X.env=pure none:=by rfl)(h1:(assignEach [.Subscript (.Name y MF) j tpos] X.env).map (·.2)=[assign (.Subscript (.Name y MF) j tpos) X.env]:=by rfl)(hf:∀z,foldedSetIterable (.Name x px) X.env z=pure z:=by intro _;rfl)(hfn:X.fn y=true\/X.env.scope.names.lookup y=some .local:=by first|exact .inl rfl|exact .inr rfl|assumption)(hd:(x==("__debug__":Str))=false:=by decide)(hcd:(x==("__classdict__":Str))=false:=by decide)(hd2:(y==("__debug__":Str))=false:=by decide)(abA:(y==("__classdict__":Str))=false:=by decide):Hz X c n kx (.For (.Name y py) (.Name x px) [.Assign [.Subscript (.Name y MF) j tpos] (.BinOp (.Subscript (.Name y Y6) k KQ) .Add (.Subscript (.Name y py3) l yC) um) spos] [] pos) (.Hd kx ky pj pk pl):=by
 obtain⟨tj,hj1,hj2⟩:=hj.bI;obtain⟨tk,hk1,hk2⟩:=hk.bI;obtain⟨tl,hl1,hl2⟩:=hl.bI;have vy:∀{p:Pos},PE X (.Name y p) (CG ky):=fun{p}=>dB hy hvy hd2 abA;have body:=gU (p6 (Eg (pos:=um) (lq (pos:=KQ) fW (vy (p:=Y6)) hk1 hpk) (lq (pos:=yC) fW (vy (p:=py3)) hl1 hpl)) (tu (vy (p:=MF)) hj1 set_list ha) hs hw h1) rO;refine⟨dD (xQ hp hc (sW (dB hx hvx hd hcd)) (aA hND hy hly hfn) body hf) ?_⟩;rintro E σ H⟨F0,ρ0,σ0,H0,F,ρ,q,as,rows,fl,ρ',nb,e,kk⟩;rw[HH.X27]at e;obtain⟨rs,ρ9,e0,e⟩:=aj e;have zz:=aF e0;clear e0;obtain⟨e0,yp⟩:=zz;subst yp;cases nb.hold e0;refine⟨.ref q,nb.nw.val,q,rfl,.inl ⟨⟨_,dX.of nb.nw.out.kp.1⟩,?_⟩⟩;refine⟨fun i m σi Hi=>∃Fi ρi jo,NB X.K kx q as F0 ρ0 σ0 H0 Fi ρi σi Hi jo/\aP F Fi/\m=rows.length-i/\i<=rows.length/\as.length=rows.length/\gn kx ky (bI (isVar pj) (HH.ev c pj)) (bI (isVar pk) (HH.ev c pk)) (bI (isVar pl) (HH.ev c pl)) (rows.length-i) i ρi=.ok fl ρ',⟨_,F,ρ,rows,nb,.refl _,rfl,Nat.zero_le _,nb.nw.len,e⟩,?_⟩;rintro i m σi Hi⟨Fi,ρi,jo,Cj,TV,rfl,hle,hal,ei⟩;by_cases hlt:i<rows.length
 . right;have hai:(as.map V.ref)[i]?=some (.ref (as[i]'(by omega))):=by simp[hal,hlt]
   refine⟨⟨_,_,dX.of Cj.nw.out.kp.1,hai⟩,fun σ' H'=>∃m',m'<rows.length-i/\∃Fi ρi jo,NB X.K kx q as F0 ρ0 σ0 H0 Fi ρi σ' H' jo/\aP F Fi/\m'=rows.length-(i+1)/\i+1<=rows.length/\as.length=rows.length/\gn kx ky (bI (isVar pj) (HH.ev c pj)) (bI (isVar pk) (HH.ev c pk)) (bI (isVar pl) (HH.ev c pl)) (rows.length-(i+1)) (i+1) ρi=.ok fl ρ',fun σ' H' z=>z,?_⟩;rintro v H'⟨rfl,hv⟩;have hv:=hv _ (dX.of Cj.nw.out.kp.1);rw[hai]at hv;cases hv;rw[show rows.length-i=(rows.length-(i+1))+1 by omega,gn]at ei;obtain⟨ρa,ρ9,e1,ei⟩:=aj ei;have zz:=aF e1;clear e1;obtain⟨e1,e11⟩:=zz;clear e11;obtain⟨s1,h0,hl0,rfl⟩:=iK e1;obtain⟨f1,ρb,eo,ei⟩:=aj ei;have nba:=Cj.other (y:=ky) (o:=some (.ref (as[i]'(by omega)))) h0 hl0;have hky:ky<σi.length:=by rw[<-Cj.stp.gs.len];exact(List.getElem?_eq_some_iff.mp h0).1
   have hσ:(σi.set ky (some (.ref (as[i]'(by omega)))))[ky]?=some (some (.ref (as[i]'(by omega)))):=List.getElem?_set_self hky;show Wz (Jp _ _) Mg _ (σi.set ky (some (.ref (as[i]'(by omega))))) H';generalize σi.set ky (some (.ref (as[i]'(by omega))))=σ1 at*;have KR:as[i]?=some (as[i]'(by omega)):=by simp[hal,hlt]
   generalize as[i]'(by omega)=A at*;unfold rowOne at eo;obtain⟨dk,ρ2,e2,eo⟩:=aj eo;obtain⟨u,ρ2',e3,eo⟩:=aj eo;have zz:=aF e3;clear e3;obtain⟨e3,e31⟩:=zz;subst e31;obtain⟨dl,ρ3,e4,eo⟩:=aj eo;obtain⟨w,ρ3',e5,eo⟩:=aj eo;have zz:=aF e5;clear e5;obtain⟨e5,e51⟩:=zz;subst e51;obtain⟨dj,ρ4,e6,eo⟩:=aj eo;obtain⟨rs,e7,rfl,rfl⟩:=lD eo--y[k]
   refine⟨_,hσ,hk2 nba.stp.gs e2 fun vk F1 H1 t1 pk=>?_⟩;have p8:=nba.step t1;obtain⟨rs1,g1,e3⟩:=aW e3;cases p8.hold g1;obtain⟨row,g2,e3⟩:=aW e3;obtain⟨k1,g3,e3⟩:=aW e3;obtain⟨d1,g4,g5⟩:=aW e3;cases aY g5;rw[aY g3]at pk;obtain⟨A1,ys1,x1,x2,x3⟩:=p8.nth g2;rw[KR]at x1;cases x1;obtain⟨w1,y1,y2⟩:=tM x3 g4;rw[Rep]at y2;subst y2;refine⟨_,ys1,k1,_,rfl,pk.int,dX.of x2,y1,?_⟩--y[l]
   refine⟨_,hσ,hl2 p8.stp.gs e4 fun vl F2 H2 t2 pl=>?_⟩;have Hj:=p8.step t2;obtain⟨rs2,KN,e5⟩:=aW e5;cases Hj.hold KN;obtain⟨row2,Cv,e5⟩:=aW e5;obtain⟨l1,HN,e5⟩:=aW e5;obtain⟨d2,Hk,g5'⟩:=aW e5;cases aY g5';rw[aY HN]at pl;obtain⟨A2,HJ,x1',x2',x3'⟩:=Hj.nth Cv;rw[KR]at x1';cases x1';obtain⟨w2,y1',y2'⟩:=tM x3' Hk;rw[Rep]at y2';subst y2';refine⟨_,HJ,l1,_,rfl,pl.int,dX.of x2',y1',u,w,rfl,rfl,?_⟩--y[j]=
   refine⟨_,hσ,hj2 Hj.stp.gs e6 fun vj F3 H3 t3 pj=>?_⟩;have yz:=Hj.step t3;obtain⟨rs3,abB,e7⟩:=aW e7;cases yz.hold abB;obtain⟨abz,Xe,e7⟩:=aW e7;obtain⟨j1,abC,e7⟩:=aW e7;obtain⟨row4,abD,abE⟩:=map_some e7;subst abE;obtain⟨m2,g6,rfl⟩:=oZ abD;rw[aY abC]at pj;obtain⟨A3,W8,Xf,abF,Xg⟩:=yz.nth Xe;rw[KR]at Xf;cases Xf;have Ag:=yz.mut KR Xe (Xg.set (bJ (u+w)) m2);refine⟨_,W8,j1,m2,rfl,pj.int,abF,by rw[Xg.length];exact g6,?_⟩;exact⟨_,by omega,F3,_,_,Ag,TV.trans (t1.bK.trans (t2.bK.trans t3.bK)),rfl,hlt,hal,ei⟩
 . left;have h0:rows.length-i=0:=by omega
   rw[h0,gn]at ei;cases ei;exact⟨⟨_,dX.of Cj.nw.out.kp.1,by simp;omega⟩,kk Fi σi Hi Cj.stp TV fun _=>⟨_,Cj⟩⟩
end
end HH
end
section
namespace HH
open PySem L2 PySem.Spec PyProof.Rows
section
variable{K:PySem.W.Frag}{F H F1 H1:Hp}{ρ ρ1:List Sl}{σ σ1:L2.St}
theorem bF.since{b:Addr}(s:bF K F ρ σ H F1 ρ1 σ1 H1)(h:H1 b=none):Own ρ σ b\/H b=none:=by
 by_cases ho:Own ρ σ b;.exact .inl ho
 .right;cases e:H b with|none=>rfl|some o=>rw[s.keep b o e ho]at h;cases h
theorem NB.mk'{x:Nat}{q:Addr}{as:List Addr}{rows:List (List D)}{s1:Sl}(s:bF K F ρ σ H F1 ρ1 σ1 H1)(hx:ρ1[x]?=some s1)(hl:uA s1=false)(hq:QS F1 ρ1 σ1 H1 q (as.map V.ref))(nd:(q::as).Nodup)(len:as.length=rows.length)(row:∀(k:Nat)(a:Addr)(ds:List D),as[k]?=some a->rows[k]?=some ds->Wt K F1 ρ1 σ1 H1 a ds)(fr:∀b,b∈q::as->Own ρ σ b\/H b=none):NB K x q as F ρ σ H F1 (ρ1.set x (.hold rows)) (σ1.set x (some (.ref q))) H1 rows:=by
 have hi:x<ρ1.length:=(List.getElem?_eq_some_iff.mp hx).1;have hi':x<σ1.length:=by rw[<-s.gs.len];exact hi
 exact⟨s.uE rfl (s.free hx hl),fr,s.free hx hl,⟨List.getElem?_set_self hi,List.getElem?_set_self hi',⟨rR rfl hq.kp,hq.fr⟩,nd,len,fun k a ds h1 h2=>zg rfl (row k a ds h1 h2)⟩⟩
end
section
variable{X:Cx}{c:Call}{n:Nat}{a b:Expr}{pa pb:P}{pos:Pos}{sts:List Stmt}{ss:List S}
theorem JZ{x:Str}{k:Nat}{pos' yC:Pos}(hN:X.N.Nodup)(hx0:X.N[k]?=some x)(hx:Loc X.env.scope x)(ha:SX X c a pa)(hb:SX X c b pb)(ht:UL X c n k sts ss)(hs1:starEach [a,b] X.env=(false,eval a X.env)::starEach [b] X.env:=by rfl)(hs2:starEach [b] X.env=(false,eval b X.env)::starEach [] X.env:=by rfl)(hsw:swapsWith (.List [a,b] yC) (some (.Name x pos')) pos.line X.env=pure false:=by rfl)(hf:X.fn x=true\/X.env.scope.names.lookup x=some .local:=by first|exact .inl rfl|exact .inr rfl|assumption):SB X c n (.Assign [.Name x pos'] (.List [a,b] yC) pos::sts) (.Ha k pa pb::ss):=by refine iV (gU (tK hN hx0 hx (CZ (cH ha.ev (cH hb.ev gO hs2) hs1)) hsw hf) ht.p) ?_;rintro E σ H⟨F,ρ,fl,ρ',g0,e,kk⟩;rw[eG]at e;obtain⟨f1,ρ9,e1,e⟩:=aj e;rw[HH.X22]at e1;obtain⟨r,ρa,ea,e1⟩:=aj e1;obtain⟨u,ρb,eb,e1⟩:=aj e1;cases r with|val _=>cases e1|own ds=>cases u with|val _=>cases e1|own es=>
 obtain⟨ρc,ρc',ec,e1⟩:=aj e1;cases e1;have zz:=aF ec;clear ec;obtain⟨ec,_⟩:=zz;obtain⟨s1,h0,hl0,rfl⟩:=iK ec;refine⟨F,ρ,.own ds,ρa,g0,ea,fun v1 F1 H1 s1 r1=>⟨F1,ρa,.own es,ρb,s1.gs,eb,fun v2 F2 H2 s2 r2=>?_⟩⟩;refine⟨by show 2<=sizeLine;rw[sizeLine_eq];omega,fun q hq=>?_⟩;obtain⟨a1,xs1,rfl,b1,b2,b3,b4,b5⟩:=r1;obtain⟨a2,xs2,rfl,c1,c2,c3,c4,c5⟩:=r2;have w1:Wt X.K F2 ρb σ H2 a1 ds:=Wt.stp ⟨⟨xs1,⟨b1,b4⟩,b3⟩,b2⟩ s2;have w2:Wt X.K F2 ρb σ H2 a2 es:=⟨⟨xs2,⟨c1,c4⟩,c3⟩,c2⟩;have n12:a1≠a2:=by
  rintro rfl;rcases c5 with z|z;.exact b4 z
  .rw[b1]at z;cases z
 have c6:Own ρ σ a2\/H a2=none:=by
  rcases c5 with z|z;.exact s1.uh _ z
  .exact s1.since z
 have ne:∀{d:Addr}{zs:List D},Wt X.K F2 ρb σ H2 d zs->q≠d:=by rintro d zs⟨⟨xs,h1,_⟩,_⟩rfl;have:=h1.1;rw[hq]at this;cases this
 have fq:F2 q=none:=by cases z:F2 q with|none=>rfl|some o=>rw[s2.gs.sub q o z]at hq;cases hq
 have ext:Ext F2 H2 F2 (upd H2 q (.lst [.ref a1,.ref a2])):=⟨aP.cT hq,.refl _,s2.gs.sub.trans (aP.cT hq),fun _ a b=>absurd a b⟩;have s3:=ext.stp s2.gs;have s12:=s1.trans s2;have oq:¬ Own ρb σ q:=fun⟨j,⟨s',ds',y,y'⟩,y1⟩=>by obtain⟨ad,o,z1,z2,_⟩:=s2.gs.own j s' ds' y y';rw[y1]at z1;cases z1;rw[hq]at z2;cases z2
 have nb:=NB.mk' (x:=k) (q:=q) (as:=[a1,a2]) (rows:=[ds,es]) (s12.trans s3) h0 hl0 ⟨⟨aX,oq⟩,fq⟩ (by simp[ne w1,ne w2,n12]) rfl (fun k d zs h1 h2=>by match k with|0=>cases h1;cases h2;exact w1.stp s3|1=>cases h1;cases h2;exact w2.stp s3|k+2=>simp at h1) (fun d hd=>by
  simp at hd;rcases hd with rfl|rfl|rfl;.exact s12.since hq
  .exact b5
  .exact c6);exact⟨F,ρ,σ,H,F2,_,q,[a1,a2],[ds,es],fl,ρ',nb,e,fun F' σ' H' s=>kk F' σ' H' s⟩
end
theorem Dl{K:PySem.W.Frag}{F H:Hp}{ρ ρ1 ρ2:List Sl}{σ:L2.St}{ul:List Sl->List Sl}{ti:TI}{is:List Nat}{one:Bool}{c:Call}{el:Ev}{g:TG}{Q:VK}{ds:List D}{rows:List (List D)}{m n:Nat}(hm:σ.length=m)(hgo:m9 K m is one g)(hti:∀R:It->Hp->Prop,(∀J F1 H1,Walk K F ρ σ H ul J ds F1 ρ1 H1->R J H1)->ti σ H R)(hlim:ds.length<=lim)(e2:fM is one el ds [] (ρ1++List.replicate n .au)=.ok rows ρ2)(k:∀ q as F' H',bF K F ρ σ H F' (ul (ρ2.take ρ1.length)) σ H'->QS F' (ul (ρ2.take ρ1.length)) σ H' q (as.map V.ref)->(q::as).Nodup->as.length=rows.length->(∀(k:Nat)(a:Addr)(ds:List D),as[k]?=some a->rows[k]?=some ds->Wt K F' (ul (ρ2.take ρ1.length)) σ H' a ds)->(∀b,b∈q::as->Own ρ σ b\/H b=none)->Q (.ref q) H'):rB n ti g (Gz K (j5 c none)) (yh K el) σ H Q:=by
 refine hti _ fun J F1 H1 w Da Af=>?_;have hl1:ρ1.length=σ.length:=w.gs.len;have gm:=w.gs.more (n:=n) (τ:=List.replicate n none) (by simp);have fD:F1 Da=none:=by cases q:F1 Da with|none=>rfl|some o=>rw[w.gs.sub Da o q]at Af;cases Af
 have nO:¬ Own (ρ1++List.replicate n .au) (σ++List.replicate n none) Da:=fun⟨i,⟨t,dt,q1,q2⟩,q3⟩=>by obtain⟨a,ys,z1,z2,_⟩:=gm.own i t dt q1 q2;rw[q3]at z1;cases z1;rw[Af]at z2;cases z2
 refine⟨fun i mm ys σi Hi=>∃Fi ρi acc as,bF K F1 (ρ1++List.replicate n .au) (σ++List.replicate n none) H1 Fi ρi σi Hi/\σi.take m=σ/\ys=as.map V.ref/\Hi Da=some (.lst ys)/\Fi Da=none/\¬ Own ρi σi Da/\(Da::as).Nodup/\as.length=acc.length/\(∀(k:Nat)(a:Addr)(ds:List D),as[k]?=some a->acc[k]?=some ds->Wt K Fi ρi σi Hi a ds/\(Own (ρ1++List.replicate n .au) (σ++List.replicate n none) a\/H1 a=none))/\acc.length<=i/\mm=ds.length-i/\i<=ds.length/\fM is one el (ds.drop i) acc ρi=.ok rows ρ2,⟨_,F1,_,[],[],(bF.refl gm).Ec Af fD nO,by rw[List.take_append_of_le_length (by omega),List.take_of_length_le (by omega)],rfl,aX,fD,nO,by simp,rfl,fun k a ds h=>by simp at h,Nat.zero_le _,rfl,Nat.zero_le _,e2⟩,?_⟩;rintro i mm ys σi Hi⟨Fi,ρi,acc,as,si,hσ,hys,hD,hF,hO,hnd,hlen,hrow,hacc,rfl,hle,ei⟩;refine⟨hD,?_⟩;have stay:∀{F2 H2:Hp}{ρ3:List Sl}{σ2:L2.St},bF K Fi ρi σi Hi F2 ρ3 σ2 H2->H2 Da=some (.lst ys)/\F2 Da=none/\¬ Own ρ3 σ2 Da:=fun{F2 H2 ρ3 σ2}s=>by have:=(QS.stp (xs:=ys) ⟨⟨hD,hO⟩,hF⟩ s);exact⟨this.kp.1,this.fr,this.kp.2⟩
 obtain⟨s1,s2⟩:=w.src n i Fi ρi σi Hi si;by_cases hlt:i<ds.length
 . right;have hd:ds[i]?=some ds[i]:=by simp[hlt]
   obtain⟨go,step⟩:=s1 _ hd;refine⟨go,fun x H2 y=>?_⟩;obtain⟨F2,ext,rx⟩:=step x H2 y;have t2:=ext.stp si.gs;rw[List.drop_eq_getElem_cons hlt,fM]at ei;cases hbd:bV ρi is one ds[i]with|none=>rw[hbd]at ei;cases ei|some ρb=>rw[hbd]at ei;obtain⟨re,ρe,ee,ei⟩:=aj ei;cases re with|val _=>cases ei|own rw0=>
     replace ei:fM is one el (ds.drop (i+1)) (acc++[rw0]) ρe=.ok rows ρ2:=ei;refine hgo x _ F2 ρi ρb σi H2 _ t2.gs rx hbd fun σ2 sb htk=>?_;have t3:=t2.trans sb;refine⟨F2,ρb,true,ρb,t3.gs,by rw[j5],fun F4 H4 s4=>?_⟩;have t4:=t3.trans s4;refine(show yh K el σ2 H4 _ from⟨F4,ρb,.own rw0,ρe,t4.gs,ee,fun v F5 H5 s5 rr=>?_⟩);have t6:=t4.trans s5;obtain⟨y1,y2,y3⟩:=stay t6;obtain⟨z1,z2,z3⟩:=stay t4;have hlen2:ys.length<sizeLine:=by have h2:lim=sizeLine:=rfl;rw[hys,List.length_map];omega
     obtain⟨A,xs,rfl,a1,a2,a3,a4,a5⟩:=rr;have nDA:A≠Da:=by
      rintro rfl;rcases a5 with z|z;.exact z3 z
      .rw[z1]at z;cases z
     have nA:A∉as:=fun hA=>by
      obtain⟨k0,hk0⟩:=List.getElem?_of_mem hA;have hl0:k0<acc.length:=by rw[<-hlen];exact(List.getElem?_eq_some_iff.mp hk0).1
      obtain⟨⟨zs,k1,_⟩,_⟩:=(hrow k0 A acc[k0] hk0 (by simp[hl0])).1.stp t4;rcases a5 with z|z;.exact k1.2 z
      .rw[k1.1]at z;cases z
     have fA:Own (ρ1++List.replicate n .au) (σ++List.replicate n none) A\/H1 A=none:=by
      have t:=si.trans t4;rcases a5 with z|z;.exact t.uh A z
      .exact t.since z
     refine⟨y1,hlen2,_,by omega,F5,ρe,acc++[rw0],as++[A],(si.trans t6).Ec Af y2 y3,htk.trans hσ,by rw[hys];simp,aX,y2,y3,?_,by simp[hlen],fun k0 a0 ds0 h1 h2=>?_,by simp;omega,rfl,hlt,ei⟩
     . rw[<-List.cons_append,List.nodup_append];refine⟨hnd,by simp,fun p hp r hr=>?_⟩;simp at hr;subst hr;rcases List.mem_cons.mp hp with rfl|hp;.exact fun z=>nDA z.symm
       .rintro rfl;exact nA hp
     . by_cases hk0:k0<as.length
       . rw[List.getElem?_append_left hk0]at h1;rw[List.getElem?_append_left (by omega)]at h2;obtain⟨w0,f0⟩:=hrow k0 a0 ds0 h1 h2;obtain⟨⟨zs,k1,r1⟩,g1⟩:=w0.stp t6;have na:a0≠Da:=by rintro rfl;exact(List.nodup_cons.mp hnd).1 (List.mem_of_getElem? h1)
         exact⟨⟨⟨zs,⟨by rw[aK na];exact k1.1,k1.2⟩,r1⟩,g1⟩,f0⟩
       . rw[List.getElem?_append_right (by omega)]at h1;rw[List.getElem?_append_right (by omega)]at h2;have:k0-as.length=0:=by have:=(List.getElem?_eq_some_iff.mp h1).1;simp at this;exact this
         rw[this]at h1;rw[<-hlen,this]at h2;cases h1;cases h2;exact⟨⟨⟨xs,⟨by rw[aK nDA];exact a1,a4⟩,a3⟩,a2⟩,fA⟩
 . left;have hdr:ds.drop i=[]:=by rw[List.drop_eq_nil_iff];omega
   rw[hdr,fM]at ei;cases ei;refine⟨s2 (by omega),?_⟩;have hst:σi.take ρ1.length=σ:=by rw[hl1,hm];exact hσ
   obtain⟨l1,l2⟩:=bF.less (m:=ρ1.length) rfl w.gs (by simp) si;rw[hst]at l1;obtain⟨z1,z2⟩:=w.fin _ _ _ _ l1--the outer list:with nothing in it,it is like any new one
   have si':=si.Ec (o:=.lst []) Af hF hO;obtain⟨l1',W0⟩:=bF.less (m:=ρ1.length) rfl w.gs (by simp) si';rw[hst]at l1';obtain⟨z1',z2'⟩:=w.fin _ _ _ _ l1';have rr:cI K Fi ρ2 σi (upd Hi Da (.lst [])) (ρ1++List.replicate n .au) (σ++List.replicate n none) H1 (.ref Da) (.own []):=⟨Da,[],rfl,aX,hF,.nil,hO,.inr Af⟩;have Mz:=W0 _ _ rr;rw[hst]at Mz;obtain⟨_,_,q0,_,q3,_,q5,q6⟩:=z2' _ _ Mz;cases q0;have rws:∀(k:Nat)(a:Addr)(ds:List D),as[k]?=some a->rows[k]?=some ds->Wt K Fi (ul (ρ2.take ρ1.length)) σ Hi a ds/\(Own ρ σ a\/H a=none):=fun k a ds h1 h2=>by obtain⟨⟨⟨xs,k1,r1⟩,f1⟩,f2⟩:=hrow k a ds h1 h2;have rr:cI K Fi ρ2 σi Hi (ρ1++List.replicate n .au) (σ++List.replicate n none) H1 (.ref a) (.own ds):=⟨a,xs,rfl,k1.1,f1,r1,k1.2,f2⟩;have Mz:=l2 _ _ rr;rw[hst]at Mz;obtain⟨a',xs',q0,q2,q3,q4,q5,q6⟩:=z2 _ _ Mz;cases q0;exact⟨⟨⟨xs',⟨q2,q5⟩,q4⟩,q3⟩,q6⟩
   refine k Da as Fi Hi z1 ⟨⟨by rw[hD,hys],q5⟩,q3⟩ hnd hlen (fun k a ds h1 h2=>(rws k a ds h1 h2).1) fun b hb=>?_;rcases List.mem_cons.mp hb with rfl|hb;.exact q6
   . obtain⟨k0,hk0⟩:=List.getElem?_of_mem hb;have hl0:k0<rows.length:=by rw[<-hlen];exact(List.getElem?_eq_some_iff.mp hk0).1
     exact(rws k0 b rows[k0] hk0 (by simp[hl0])).2
section
variable{X:Cx}{c:Call}{nn n:Nat}{tg iter elt:Expr}{ps pe:P}{pos:Pos}{sts:List Stmt}{ss:List S}{scope:Scope}{N':List Str}
theorem zH{i:Nat}{x:Str}{pos' spos:Pos}{g:TG}{is:List Nat}{one:Bool}(hc:X.calm=true)(hN:X.N.Nodup)(hx0:X.N[i]?=some x)(hx:Loc X.env.scope x)(ok:fP X scope N' n)(hi:SI X c tg iter ps)(hg:∀cl C s₀ H₀ ex,PG (qw X scope N' cl C s₀ H₀ ex) tg g)(hgo:m9 X.K X.N.length is one g)(ht:∀cl C s₀ H₀ ex,SQ (qw X scope N' cl C s₀ H₀ ex) c [] none)(he:∀cl C s₀ H₀ ex,SX (qw X scope N' cl C s₀ H₀ ex) c elt pe)(hT:UL X c nn i sts ss)(hsw:swapsWith (.ListComp elt [⟨tg,iter,[],0⟩] scope pos) (some (.Name x pos')) spos.line X.env=pure true:=by rfl)(hs:∀x,foldedSetIterable iter X.env x=pure x:=by intro _;rfl)(hf:X.fn x=true\/X.env.scope.names.lookup x=some .local:=by first|exact .inl rfl|exact .inr rfl|assumption):SB X c nn (.Assign [.Name x pos'] (.ListComp elt [⟨tg,iter,[],0⟩] scope pos) spos::sts) (.Cd i ps n is one pe::ss):=by
 have h0:=yK (tt:=Gz X.K (j5 c none)) (te:=yh X.K (HH.ev c pe)) hc hN hx0 hx ok hi hg ht (fun cl C s₀ H₀ ex=>(he cl C s₀ H₀ ex).ev) hsw hs hf;refine fun pins s σ H D I q=>gU h0 hT.p pins s σ H D I ?_;have hl:σ.length=X.N.length:=I.len;obtain⟨F,ρ,fl,ρ',g0,e,kk⟩:=q;rw[eG]at e;obtain⟨f1,ρ9,e1,e⟩:=aj e;rw[HH.X21]at e1;obtain⟨ds,ρ1,e2,e1⟩:=aj e1;split at e1;.rename_i hlim;obtain⟨rows,ρ2,e3,e1⟩:=aj e1;obtain⟨ρ3,ρ3',e4,e1⟩:=aj e1;cases e1;have zz:=aF e4;clear e4;obtain⟨e4,_⟩:=zz;obtain⟨s1,h1,h2,rfl⟩:=iK e4;refine(show rB n (tIt X.K (isVar ps) (HH.ev c ps)) g (Gz X.K (j5 c none)) (yh X.K (HH.ev c pe)) σ H (fun v H1=>fj i v σ H1 (T4 X.K i (eG c nn ss) D))from Dl (c:=c) (ul:=bh ρ (isVar ps)) hl hgo (fun R h=>⟨F,ρ,ds,ρ1,g0,e2,h⟩) hlim e3 fun q as F' H' s wq nd len row fr=>?_);exact⟨F,ρ,σ,H,F',_,q,as,rows,fl,ρ',NB.mk' s h1 h2 wq nd len row fr,e,fun F2 σ2 H2 s2=>kk F2 σ2 H2 s2⟩
 .cases e1
end
end HH
end
section
namespace HH
open PySem L2 PySem.Spec PyProof.Rows PySem.Calls PySem.W
section
variable{X:Cx}{c:Call}{a:Expr}{pa:P}{pos p1 p2 p3:Pos}
theorem Us(hc:X.calm=true):dq X (.type "list") (DR X.K fun x=>blt .Tt [x]):=by
 rintro pins s σ H xs us Q I r⟨x,hx,F,d,r',sm,px,he,k⟩;obtain⟨kvs,rfl⟩:∃kvs,d=.cD (.t kvs):=by cases d with
  |cD m=>cases m with|t kvs=>exact⟨kvs,rfl⟩|k kvs=>cases he
  |_=>cases he
 obtain⟨hle,he⟩:=bw (show(if kvs.length<=16777216 then some (R.own (kvs.map fun p=>D.tup (p.1.map D.int)))else none)=some r' from he);subst he;obtain⟨q,ob,rfl,hq⟩:=px.cD sm;subst hx;obtain⟨u,rfl,rx⟩:=r.one;cases rx;obtain⟨ho,hz,hS,ts,rv,o',es,ep,g1,g2,g3,g4,g5⟩:=(show bU X.prog X.w H s.heap q (.fH ob (.dT (kvs.map Ew)))from I.hok q _ hq);have raw:mR s.heap q es ep:=⟨o',g1,g2,g3⟩;have hts:ts.length=kvs.length:=by rw[<-Paired.length rv,List.length_map]
 have hes:es.size=kvs.length:=by rw[<-Array.length_toList,g4,List.length_map,hts]
 have hke:es.toList.map (·.key)=ts.map fun t=>Value.ref t.2.1:=by rw[g4,List.map_map];rfl
 refine kdl_call (Jj (es:=es) (ep:=ep) hS) (I.ok.hd hc) raw (by rw[hes,sizeLine_eq];omega) fun h' tk acc c' kp hD hacc=>?_;have hia:=yg hke hacc;have hla:acc.toList.length=kvs.length:=by rw[hia,List.length_map,hts]
 have e0:Ext F H (qY F H (ts.map (·.2.1))) H:=Bt sm fun b hb=>by obtain⟨t,ht,rfl⟩:=List.mem_map.mp hb;obtain⟨ks,e⟩:=Fb rv t ht;exact⟨_,e⟩
 have rs:aL X.K (qY F H (ts.map (·.2.1))) (ts.map fun t=>V.ref t.2.1) (kvs.map fun p=>D.tup (p.1.map D.int)):=zx rv fun t ht=>if_pos (List.mem_map.mpr ⟨t,ht,rfl⟩);have vv:Vals (ts.map fun t=>V.ref t.2.1) acc.toList:=by rw[hia];exact qR ts
 refine⟨.ref s.heap.objs.size,_,I.laid (t':=tk) (o:=.lst (ts.map fun t=>V.ref t.2.1)) (h':=h') kp (Nat.le_refl _) ⟨by rw[List.length_map,hts,sizeLine_eq];omega,acc.toList,c',vv,by rw[Array.toArray_toList];exact hD⟩,rfl,?_⟩;exact Bg e0.sub rs (I.hok.fresh (Nat.le_refl _)) fun v F2 H2 x rn=>k v F2 H2 (e0.PN x) rn
theorem GK{x:Str}{p':Pos}(hx:x="list")(hc:X.calm=true)(hg:Gl X x)(hm:X.mg x=none)(ha:SX X c a pa)(hs:starEach [a] X.env=(false,eval a X.env)::starEach [] X.env:=by rfl):SX X c (.Call (.Name x p') [a] [] pos) (.blt .Tt [pa]):=by subst hx;exact jL (fun h=>mF (Us hc) hg hm (by decide+kernel) h (he:=hs)) ha (fun ρ=>rfl) rfl hs
end
end HH
end
section
set_option maxHeartbeats 4000000
namespace T
open PySem L2 PySem.Spec PyProof.Rows HH
local macro_rules|`(term|nofun)=>`(⟨rfl,rfl,rfl,by decide+kernel,rfl,by decide+kernel,by decide+kernel⟩)
local macro_rules|`(tactic|exists$e)=>`(tactic|with_reducible refine$e)
set_option hygiene false
local macro_rules|`(tactic|exists$i,$e)=>`(tactic|((with_reducible refine eU (i:=$i) ?_ ?_ ?_ ?_ ?_ ?_);exact nd;exact rfl;exact oi;rotate_left;rfl;exact oi;exact$e))
set_option hygiene true
local macro_rules|`(term|‹$l›)=>`((show(($l):List Str).Nodup by decide+kernel))
theorem hc:true=true:=rfl
theorem oi{α:Type}{a:α}{p:Prop}:a=a\/p:=.inl rfl
theorem bu{X:Cx}{c:Call}{a:Expr}{es:List Expr}{pa:P}{ps:List P}(ha:SX X c a pa)(hr:SG X c es ps)(h:nst a=true):SG X c (a::es) (pa::ps):=JX ha hr (iI h)
theorem cB{X:Cx}{c:Call}{a:Expr}{es:List Expr}{pa:P}{ps:List P}(ha:SX X c a pa)(hr:SA X c es ps)(h:nst a=true):SA X c (a::es) (pa::ps):=ou ha hr (iI h)
variable{Pg:Program}{w:World}{K:PySem.W.Frag}{mg:Str->Option Value}{base:Heap}{f:Addr}{fd:FuncData}{k n:Nat}{c:Call}{cl:Nat->Addr}
noncomputable def top(i:Nat):Stmt:=PySem.Challenge.pw_hourhaul_k61_brought_sent_stands.main.body.getD i (.Pass ⟨0,0,0,0⟩)
noncomputable abbrev s0:=top 1
noncomputable def b0:List S:=[.ret (.bin .add (.var 1) (.idx (.idx (.idx (.var 0) (.con (.int 1))) (.var 2)) (.con (.int 3))))]
noncomputable def f0:Fd:=⟨3,3,b0⟩
theorem sc0:bj ["net","hour","way"] ["net","hour","way"] (aM s0):=nofun
include cl in
theorem d0(Fu:j7 K "hour_out" "hour_out" s0 f fd):cW Pg w K mg base jJ (k+1) f fd ["net","hour","way"] (j6 K 3 (fun args=>enter c n f0 args)):=by
 refine di Fu sc0 rfl rfl fun cdv A outer s H E hr=>?_;have nd:=sc0.nd;refine ak ?_ ?_;.exists bD ?_;exact az aN (sv 1) (aG (aG (aG (sv 0) ao) (sv 2)) ao)
 exact aC
noncomputable abbrev s1:=top 3
noncomputable def b1:List S:=[.qm 3 false,.gC (.var 1) [4,5,6] false [.ifs (.cmp .eq (.idx (.idx (.idx (.var 0) (.con (.int 1))) (.var 5)) (.con (.int 1))) (.var 2)) [.asg 7 (.call 0 [.var 0,.var 4,.var 5]),.dput 3 (.var 7) (.bin .add (.Rb 3 (.var 7) (.con (.int 0))) (.var 6))] [],.ifs (.cmp .eq (.idx (.idx (.idx (.var 0) (.con (.int 1))) (.var 5)) (.con (.int 0))) (.var 2)) [.dput 3 (.var 4) (.bin .sub (.Rb 3 (.var 4) (.con (.int 0))) (.var 6))] []],.ret (.var 3)]
noncomputable def f1:Fd:=⟨3,8,b1⟩
theorem sc1:bj ["net","plan","place","changes","hour","way","loads","out"] ["net","plan","place"] (aM s1):=nofun
include cl in
theorem d1(Fu:j7 K "changes_at" "changes_at" s1 f fd)(yD:aH Pg w K mg base k c 0 "hour_out" 3):cW Pg w K mg base jJ (k+1) f fd ["net","plan","place"] (j6 K 3 (fun args=>enter c n f1 args)):=by
 refine di Fu sc1 rfl rfl fun cdv A outer s H E hr=>?_;have nd:=sc1.nd;refine ak ?_ ?_;.exact(JV (i:=3) nd rfl (Or.inl rfl) (by rfl) (Or.inl rfl))
 exists ak ?_ ?_;.exact(iZ PassesOwn.never hc (dO (sv 1)) (cR hc (aD (aA (i:=4) nd rfl (Or.inl rfl) (Or.inl rfl)) (aD (aA (i:=5) nd rfl (Or.inl rfl) (Or.inl rfl)) (aD (aA (i:=6) nd rfl (Or.inl rfl) (Or.inl rfl)) bW)))) (eY rfl (aQ _ _ (aQ _ _ (aQ _ _ cY 6) 5) 4)) (by exists ak ?_ ?_;(· exists gJ ?_ ?_ ?_;exact bN (eX (bz hr)) (aG (aG (aG (sv 0) ao) (sv 5)) ao) (sv 2) (bM _);(· exists ak ?_ ?_;(· exists 7,dY yD hr (bu (sv 0) (bu (sv 4) (bu (sv 5) aJ rfl) rfl) rfl));(· exists ak ?_ ?_;exact Ab (i:=3) (bz hr) rfl (by first|exact Or.inl rfl|exact Or.inr (Or.inl rfl)) (sv 7) (az aN (Eu (i:=3) (bz hr) rfl (by first|exact Or.inl rfl|exact Or.inr (Or.inl rfl)) (sv 7) ao ⟨rfl,rfl,rfl,rfl⟩) (sv 6)) (by rfl);exact aC));exact aC);(· exists ak ?_ ?_;(· exists gJ ?_ ?_ ?_;exact bN (eX (bz hr)) (aG (aG (aG (sv 0) ao) (sv 5)) ao) (sv 2) (bM _);(· exists ak ?_ ?_;exact Ab (i:=3) (bz hr) rfl (by first|exact Or.inl rfl|exact Or.inr (Or.inl rfl)) (sv 4) (az cZ (Eu (i:=3) (bz hr) rfl (by first|exact Or.inl rfl|exact Or.inr (Or.inl rfl)) (sv 4) ao ⟨rfl,rfl,rfl,rfl⟩) (sv 6)) (by rfl);exact aC);exact aC);exact aC)))
 exists ak ?_ ?_;.exists bD ?_;exact sv 3
 exact aC
noncomputable abbrev s2:=top 4
noncomputable def b2:List S:=[.asg 4 (.call 1 [.var 0,.var 1,.var 2]),.ret (.blt .sum [.comp (.blt .keys [.var 4]) 1 [5] true (some (.cmp .le (.var 5) (.var 3))) (.bin .G8 (.var 4) (.var 5))])]
noncomputable def f2:Fd:=⟨4,5,b2⟩
theorem sc2:bj ["net","plan","place","hour","changes"] ["net","plan","place","hour"] (aM s2):=nofun
include cl in
theorem d2(Fu:j7 K "stands_at" "stands_at" s2 f fd)(rM:mg "sum"=none)(iM:aH Pg w K mg base k c 1 "changes_at" 3):cW Pg w K mg base jJ (k+1) f fd ["net","plan","place","hour"] (j6 K 4 (fun args=>enter c n f2 args)):=by
 refine di Fu sc2 rfl rfl fun cdv A outer s H E hr=>?_;have nd:=sc2.nd;refine ak ?_ ?_;.exists eU (i:=4) ?_ ?_ ?_ ?_ ?_ ?_;exact nd;exact rfl;exact Or.inr rfl;rotate_left;rfl;exact oi;exact dY iM hr (bu (sv 0) (bu (sv 1) (bu (sv 2) aJ rfl) rfl) rfl)
 exists ak ?_ ?_;.exists bD ?_;exact Fg rfl hc (by rfl) rM (dM (N':=["net","plan","place","hour","changes","at"]) hc (uz rfl (by rfl)) (yX (sv 4)) (fun _ _ _ _ _=>aA (i:=5) ‹["net","plan","place","hour","changes","at"]› rfl (Or.inl rfl) (Or.inr rfl)) (bY (Nat.le_refl _)) (fun _ _ _ _ _=>nW (bN xg (sv 5) (sv 3) (bM _))) (fun _ _ _ _ _=>(yM (bz hr) (sv 4) (sv 5) (fun _ _=>rfl))))
 exact aC
noncomputable abbrev s3:=top 5
noncomputable def b3:List S:=[.ret (.call 2 [.var 0,.var 1,.bin .sub (.idx (.var 0) (.con (.int 0))) (.con (.int 1)),.var 2])]
noncomputable def f3:Fd:=⟨3,3,b3⟩
theorem sc3:bj ["net","plan","hour"] ["net","plan","hour"] (aM s3):=nofun
include cl in
theorem d3(Fu:j7 K "brought_by" "brought_by" s3 f fd)(jq:aH Pg w K mg base k c 2 "stands_at" 4):cW Pg w K mg base jJ (k+1) f fd ["net","plan","hour"] (j6 K 3 (fun args=>enter c n f3 args)):=by
 refine di Fu sc3 rfl rfl fun cdv A outer s H E hr=>?_;have nd:=sc3.nd;refine ak ?_ ?_;.exists bD ?_;exact dY jq hr (bu (sv 0) (bu (sv 1) (bu (az cZ (aG (sv 0) ao) ao) (bu (sv 2) aJ rfl) rfl) rfl) rfl)
 exact aC
noncomputable abbrev s4:=top 6
noncomputable def b4:List S:=[.asg 3 (.call 1 [.var 0,.var 1,.con (.int 0)]),.ret (.neg (.blt .sum [.comp (.blt .keys [.var 3]) 1 [4] true (some (.cmp .ge (.var 4) (.var 2))) (.bin .G8 (.var 3) (.var 4))]))]
noncomputable def f4:Fd:=⟨3,4,b4⟩
theorem sc4:bj ["net","plan","hour","changes"] ["net","plan","hour"] (aM s4):=nofun
include cl in
theorem d4(Fu:j7 K "sent_from" "sent_from" s4 f fd)(rM:mg "sum"=none)(iM:aH Pg w K mg base k c 1 "changes_at" 3):cW Pg w K mg base jJ (k+1) f fd ["net","plan","hour"] (j6 K 3 (fun args=>enter c n f4 args)):=by
 refine di Fu sc4 rfl rfl fun cdv A outer s H E hr=>?_;have nd:=sc4.nd;refine ak ?_ ?_;.exists eU (i:=3) ?_ ?_ ?_ ?_ ?_ ?_;exact nd;exact rfl;exact Or.inr rfl;rotate_left;rfl;exact oi;exact dY iM hr (bu (sv 0) (bu (sv 1) (bu ao aJ rfl) rfl) rfl)
 exists ak ?_ ?_;.exists bD ?_;exact FZ (Fg rfl hc (by rfl) rM (dM (N':=["net","plan","hour","changes","at"]) hc (uz rfl (by rfl)) (yX (sv 3)) (fun _ _ _ _ _=>aA (i:=4) ‹["net","plan","hour","changes","at"]› rfl (Or.inl rfl) (Or.inr rfl)) (bY (Nat.le_refl _)) (fun _ _ _ _ _=>nW (bN wX (sv 4) (sv 2) (bM _))) (fun _ _ _ _ _=>(yM (bz hr) (sv 3) (sv 4) (fun _ _=>rfl)))))
 exact aC
noncomputable abbrev s5:=top 8
noncomputable def b5:List S:=[.asg 1 (.comp (.zip (.idx (.var 0) (.con (.int 2))) (.idx (.var 0) (.con (.int 3)))) 2 [2,3] false none (.tup [.idx (.var 2) (.con (.int 0)),.idx (.var 2) (.con (.int 1)),.blt .Ca [.var 3],.idx (.var 2) (.con (.int 2))])),.ret (.tup [.idx (.var 0) (.con (.int 0)),.blt .tuple [.var 1]])]
noncomputable def f5:Fd:=⟨1,2,b5⟩
theorem sc5:bj ["calendar","ways"] ["calendar"] (aM s5):=nofun
include cl in
theorem d5(Fu:j7 K "roomiest_net" "roomiest_net" s5 f fd)(lO:mg "max"=none)(cP:mg "tuple"=none)(lQ:mg "zip"=none):cW Pg w K mg base jJ (k+1) f fd ["calendar"] (j6 K 1 (fun args=>enter c n f5 args)):=by
 refine di Fu sc5 rfl rfl fun cdv A outer s H E hr=>?_;have nd:=sc5.nd;refine ak ?_ ?_;.exact(kE (i:=1) (N':=["calendar","ways","way","row"]) hc nd rfl (Or.inl rfl) (uz rfl (by rfl)) (xP rfl (by rfl) lQ (aG (sv 0) ao) (aG (sv 0) ao)) (fun _ _ _ _ _=>cR hc (aD (aA (i:=2) ‹["calendar","ways","way","row"]› rfl (Or.inl rfl) (Or.inr rfl)) (aD (aA (i:=3) ‹["calendar","ways","way","row"]› rfl (Or.inl rfl) (Or.inr rfl)) bW))) (oA rfl (fB (show 2<=2 by decide) (fB (show 2<=3 by decide) n6))) (fun _ _ _ _ _=>cO) (fun _ _ _ _ _=>(fK (cB (aG (sv 2) ao) (cB (aG (sv 2) ao) (cB (JL rfl hc (by rfl) lO (sv 3)) (cB (aG (sv 2) ao) aR rfl) rfl) rfl) rfl))) (by rfl) (by intro _;rfl) (Or.inl rfl))
 exists ak ?_ ?_;.exists bD ?_;exact fK (cB (aG (sv 0) ao) (cB (fu rfl (by rfl) cP (sv 1)) aR rfl) rfl)
 exact aC
noncomputable abbrev s6:=top 9
noncomputable def b6:List S:=[.ret (.call 2 [.call 5 [.var 0],.var 1,.var 2,.var 3])]
noncomputable def f6:Fd:=⟨4,4,b6⟩
theorem sc6:bj ["calendar","plan","place","hour"] ["calendar","plan","place","hour"] (aM s6):=nofun
include cl in
theorem d6(Fu:j7 K "cal_stands" "cal_stands" s6 f fd)(cU:aH Pg w K mg base k c 5 "roomiest_net" 1)(jq:aH Pg w K mg base k c 2 "stands_at" 4):cW Pg w K mg base jJ (k+1) f fd ["calendar","plan","place","hour"] (j6 K 4 (fun args=>enter c n f6 args)):=by
 refine di Fu sc6 rfl rfl fun cdv A outer s H E hr=>?_;have nd:=sc6.nd;refine ak ?_ ?_;.exists bD ?_;exact dY jq hr (bu (dY cU hr (bu (sv 0) aJ rfl)) (bu (sv 1) (bu (sv 2) (bu (sv 3) aJ rfl) rfl) rfl) rfl)
 exact aC
noncomputable abbrev s7:=top 10
noncomputable def b7:List S:=[.asg 2 (.call 5 [.var 0]),.ret (.comp (.lW (.con (.int 0)) (.bin .add (.idx (.var 0) (.con (.int 1))) (.con (.int 1)))) 1 [3] true none (.call 3 [.var 2,.var 1,.var 3]))]
noncomputable def f7:Fd:=⟨2,3,b7⟩
theorem sc7:bj ["calendar","plan","net"] ["calendar","plan"] (aM s7):=nofun
include cl in
theorem d7(Fu:j7 K "cal_brought" "cal_brought" s7 f fd)(aU:mg "range"=none)(uo:aH Pg w K mg base k c 3 "brought_by" 3)(cU:aH Pg w K mg base k c 5 "roomiest_net" 1):cW Pg w K mg base jJ (k+1) f fd ["calendar","plan"] (j6 K 2 (fun args=>enter c n f7 args)):=by
 refine di Fu sc7 rfl rfl fun cdv A outer s H E hr=>?_;have nd:=sc7.nd;refine ak ?_ ?_;.exists eU (i:=2) ?_ ?_ ?_ ?_ ?_ ?_;exact nd;exact rfl;exact Or.inr rfl;rotate_left;rfl;exact oi;exact dY cU hr (bu (sv 0) aJ rfl)
 exists ak ?_ ?_;.exists bD ?_;exact dM (N':=["calendar","plan","net","hour"]) hc (uz rfl (by rfl)) (cj rfl (by rfl) aU (az aN (aG (sv 0) ao) ao)) (fun _ _ _ _ _=>aA (i:=3) ‹["calendar","plan","net","hour"]› rfl (Or.inl rfl) (Or.inr rfl)) (bY (Nat.le_refl _)) (fun _ _ _ _ _=>cO) (fun _ _ _ _ _=>(dY uo hr (bu (sv 2) (bu (sv 1) (bu (sv 3) aJ rfl) rfl) rfl)))
 exact aC
noncomputable abbrev s8:=top 11
noncomputable def b8:List S:=[.asg 2 (.call 5 [.var 0]),.ret (.comp (.lW (.con (.int 0)) (.bin .add (.idx (.var 0) (.con (.int 1))) (.con (.int 1)))) 1 [3] true none (.call 4 [.var 2,.var 1,.var 3]))]
noncomputable def f8:Fd:=⟨2,3,b8⟩
theorem sc8:bj ["calendar","plan","net"] ["calendar","plan"] (aM s8):=nofun
include cl in
theorem d8(Fu:j7 K "cal_sent" "cal_sent" s8 f fd)(aU:mg "range"=none)(cU:aH Pg w K mg base k c 5 "roomiest_net" 1)(wL:aH Pg w K mg base k c 4 "sent_from" 3):cW Pg w K mg base jJ (k+1) f fd ["calendar","plan"] (j6 K 2 (fun args=>enter c n f8 args)):=by
 refine di Fu sc8 rfl rfl fun cdv A outer s H E hr=>?_;have nd:=sc8.nd;refine ak ?_ ?_;.exists eU (i:=2) ?_ ?_ ?_ ?_ ?_ ?_;exact nd;exact rfl;exact Or.inr rfl;rotate_left;rfl;exact oi;exact dY cU hr (bu (sv 0) aJ rfl)
 exists ak ?_ ?_;.exists bD ?_;exact dM (N':=["calendar","plan","net","hour"]) hc (uz rfl (by rfl)) (cj rfl (by rfl) aU (az aN (aG (sv 0) ao) ao)) (fun _ _ _ _ _=>aA (i:=3) ‹["calendar","plan","net","hour"]› rfl (Or.inl rfl) (Or.inr rfl)) (bY (Nat.le_refl _)) (fun _ _ _ _ _=>cO) (fun _ _ _ _ _=>(dY wL hr (bu (sv 2) (bu (sv 1) (bu (sv 3) aJ rfl) rfl) rfl)))
 exact aC
noncomputable abbrev s9:=top 13
noncomputable def b9:List S:=[.ret (.lst [.blt .max2 [.con (.int 0),.bin .sub (.blt .abs [.var 0]) (.bin .pow (.con (.int 10)) (.con (.int 18)))],.bin .mod (.var 0) (.bin .pow (.con (.int 10)) (.con (.int 18))),.con (.int 0)])]
noncomputable def f9:Fd:=⟨1,1,b9⟩
theorem sc9:bj ["cell"] ["cell"] (aM s9):=nofun
include cl in
theorem d9(Fu:j7 K "_law_pool" "_law_pool" s9 f fd)(Hl:mg "abs"=none)(lO:mg "max"=none):cW Pg w K mg base jJ (k+1) f fd ["cell"] (j6 K 1 (fun args=>enter c n f9 args)):=by
 refine di Fu sc9 rfl rfl fun cdv A outer s H E hr=>?_;have nd:=sc9.nd;refine ak ?_ ?_;.exists bD ?_;exact cJ (cB (zu rfl hc (by rfl) lO (cB ao (cB (az cZ (Ou rfl (by rfl) Hl (sv 0)) (az jB ao ao)) aR rfl) rfl)) (cB (az gF (sv 0) (az jB ao ao)) (cB ao aR rfl) rfl) rfl)
 exact aC
noncomputable abbrev eV:=top 14
noncomputable def b10:List S:=[.ifs (.cmp .gt (.idx (.var 0) (.con (.int 0))) (.con (.int 0))) [.asg 2 (.bin .mod (.idx (.var 0) (.con (.int 0))) (.var 1)),.G9 0 (.con (.int 0)) (.bin .fdiv (.idx (.var 0) (.con (.int 0))) (.var 1)),.ret (.var 2)] [],.G9 0 (.con (.int 2)) (.bin .add (.idx (.var 0) (.con (.int 2))) (.con (.int 1))),.asg 3 (.bin .mod (.bin .add (.idx (.var 0) (.con (.int 1))) (.bin .mul (.con (.int 7919)) (.idx (.var 0) (.con (.int 2))))) (.con (.int 1000000007))),.asg 4 (.bin .mod (.bin .mul (.bin .add (.var 3) (.con (.int 11))) (.bin .add (.var 3) (.con (.int 48271)))) (.con (.int 998244353))),.ret (.bin .mod (.bin .fdiv (.bin .mod (.bin .mul (.var 4) (.var 4)) (.con (.int 2147483647))) (.con (.int 8))) (.var 1))]
noncomputable def Xp:Fd:=⟨2,5,b10⟩
theorem U5:bj ["pool","base","digit","near","stir"] ["pool","base"] (aM eV):=nofun
include cl in
theorem d10(Fu:j7 K "_law_next" "_law_next" eV f fd):cW Pg w K mg base jJ (k+1) f fd ["pool","base"] (j6 K 2 (fun args=>enter c n Xp args)):=by
 refine di Fu U5 rfl rfl fun cdv A outer s H E hr=>?_;have nd:=U5.nd;refine ak ?_ ?_;.exists gJ ?_ ?_ ?_;exact bN oK (aG (sv 0) ao) ao (bM _);(· exists ak ?_ ?_;(· exists 2,az gF (aG (sv 0) ao) (sv 1));(· exists ak ?_ ?_;exact zr (k:=0) rfl (by first|exact Or.inl rfl|exact Or.inr (Or.inl rfl)) ao (az wu (aG (sv 0) ao) (sv 1));(· exists ak ?_ ?_;(· exists bD ?_;exact sv 2);exact aC)));exact aC
 exists ak ?_ ?_;.exact(zr (k:=0) rfl (by first|exact Or.inl rfl|exact Or.inr (Or.inl rfl)) ao (az aN (aG (sv 0) ao) ao))
 exists ak ?_ ?_;.exists 3,az gF (az aN (aG (sv 0) ao) (az iu ao (aG (sv 0) ao))) ao
 exists ak ?_ ?_;.exists 4,az gF (az iu (az aN (sv 3) ao) (az aN (sv 3) ao)) ao
 exists ak ?_ ?_;.exists bD ?_;exact az gF (az wu (az gF (az iu (sv 4) (sv 4)) ao) ao) (sv 1)
 exact aC
noncomputable abbrev eO:=top 15
noncomputable def b11:List S:=[.ret (.bin .mod (.bin .add (.bin .mul (.call 10 [.var 0,.con (.int 100000)]) (.con (.int 100000))) (.call 10 [.var 0,.con (.int 100000)])) (.var 1))]
noncomputable def f11:Fd:=⟨2,2,b11⟩
theorem Wi:bj ["pool","base"] ["pool","base"] (aM eO):=nofun
include cl in
theorem d11(Fu:j7 K "_law_wide" "_law_wide" eO f fd)(aB:aH Pg w K mg base k c 10 "_law_next" 2):cW Pg w K mg base jJ (k+1) f fd ["pool","base"] (j6 K 2 (fun args=>enter c n f11 args)):=by
 refine di Fu Wi rfl rfl fun cdv A outer s H E hr=>?_;have nd:=Wi.nd;refine ak ?_ ?_;.exists bD ?_;exact az gF (az aN (az iu (dY aB hr (bu (sv 0) (bu ao aJ rfl) rfl)) ao) (dY aB hr (bu (sv 0) (bu ao aJ rfl) rfl))) (sv 1)
 exact aC
noncomputable abbrev s12:=top 16
noncomputable def b12:List S:=[.asg 2 (.lst []),.gC (.lW (.con (.int 0)) (.bin .sub (.var 1) (.con (.int 1)))) [3] true [.ifs (.cmp .gt (.call 10 [.var 0,.con (.int 8)]) (.con (.int 0))) [.app 2 (.tup [.var 3,.bin .add (.var 3) (.con (.int 1))])] []],.gC (.lW (.con (.int 0)) (.call 10 [.var 0,.bin .sub (.con (.int 13)) (.blt .len [.var 2])])) [4] true [.asg 5 (.call 10 [.var 0,.var 1]),.app 2 (.tup [.var 5,.bin .mod (.bin .add (.bin .add (.var 5) (.con (.int 1))) (.call 10 [.var 0,.bin .sub (.var 1) (.con (.int 1))])) (.var 1)])],.asg 6 (.lst []),.gC (.var 2) [5,7] false [.app 6 (.tup [.var 5,.var 7,.idx (.lst [.con (.int 1),.con (.int 1),.con (.int 2),.con (.int 2),.con (.int 3),.bin .add (.con (.int 1)) (.call 10 [.var 0,.con (.int 5)]),.bin .add (.con (.int 1)) (.call 11 [.var 0,.bin .pow (.con (.int 10)) (.con (.int 6))])]) (.call 10 [.var 0,.con (.int 7)])])],.ret (.var 6)]
noncomputable def XM:Fd:=⟨2,8,b12⟩
theorem VN:bj ["pool","many","roads","place","k","begin","found","end"] ["pool","many"] (aM s12):=nofun
include cl in
theorem d12(Fu:j7 K "_law_roads" "_law_roads" s12 f fd)(ig:mg "len"=none)(aU:mg "range"=none)(aB:aH Pg w K mg base k c 10 "_law_next" 2)(fG:aH Pg w K mg base k c 11 "_law_wide" 2):cW Pg w K mg base jJ (k+1) f fd ["pool","many"] (j6 K 2 (fun args=>enter c n XM args)):=by
 refine di Fu VN rfl rfl fun cdv A outer s H E hr=>?_;have nd:=VN.nd;refine ak ?_ ?_;.exists 2,cJ aR
 exists ak ?_ ?_;.exists dR (i:=3) ?_ ?_ ?_ ?_ ?_ ?_ ?_ ?_ ?_;exact PassesOwn.never;exact hc;exact nd;exact rfl;exact oi;exact cj rfl (by rfl) aU (az cZ (sv 1) ao);(· exists ak ?_ ?_;(· exists gJ ?_ ?_ ?_;exact bN oK (dY aB hr (bu (sv 0) (bu ao aJ rfl) rfl)) ao (bM _);(· exists ak ?_ ?_;exact cF (k:=2) rfl (by first|exact Or.inl rfl|exact Or.inr (Or.inl rfl)) (fK (cB (sv 3) (cB (az aN (sv 3) ao) aR rfl) rfl));exact aC);exact aC);exact aC);(· intro _;rfl);exact Or.inl rfl
 exists ak ?_ ?_;.exists dR (i:=4) ?_ ?_ ?_ ?_ ?_ ?_ ?_ ?_ ?_;exact PassesOwn.never;exact hc;exact nd;exact rfl;exact oi;exact cj rfl (by rfl) aU (dY aB hr (bu (sv 0) (bu (az cZ ao (o4 rfl (by rfl) ig (sv 2))) aJ rfl) rfl));(· exists ak ?_ ?_;(· exists 5,dY aB hr (bu (sv 0) (bu (sv 1) aJ rfl) rfl));(· exists ak ?_ ?_;exact cF (k:=2) rfl (by first|exact Or.inl rfl|exact Or.inr (Or.inl rfl)) (fK (cB (sv 5) (cB (az gF (az aN (az aN (sv 5) ao) (dY aB hr (bu (sv 0) (bu (az cZ (sv 1) ao) aJ rfl) rfl))) (sv 1)) aR rfl) rfl));exact aC));(· intro _;rfl);exact Or.inl rfl
 exists ak ?_ ?_;.exists 6,cJ aR
 exists ak ?_ ?_;.exact(iZ PassesOwn.never hc (dO (sv 2)) (cR hc (aD (aA (i:=5) nd rfl (Or.inl rfl) (Or.inl rfl)) (aD (aA (i:=7) nd rfl (Or.inl rfl) (Or.inl rfl)) bW))) (eY rfl (aQ _ _ (aQ _ _ cY 7) 5)) (by exists ak ?_ ?_;exact cF (k:=6) rfl (by first|exact Or.inl rfl|exact Or.inr (Or.inl rfl)) (fK (cB (sv 5) (cB (sv 7) (cB (aG (cJ (jw [1,1,2,2,3] rfl (cB (az aN ao (dY aB hr (bu (sv 0) (bu ao aJ rfl) rfl))) (cB (az aN ao (dY fG hr (bu (sv 0) (bu (az jB ao ao) aJ rfl) rfl))) aR rfl) rfl))) (dY aB hr (bu (sv 0) (bu ao aJ rfl) rfl))) aR rfl) rfl) rfl));exact aC))
 exists ak ?_ ?_;.exists bD ?_;exact sv 6
 exact aC
noncomputable abbrev vU:=top 17
noncomputable def M9:List S:=[.asg 4 (.con (.int 0)),.asg 5 (.call 10 [.var 0,.bin .add (.var 2) (.con (.int 1))]),.asg 6 (.lst []),.gC (.lW (.con (.int 0)) (.con (.int 8))) [7] true [.asg 8 (.comp (.lW (.con (.int 0)) (.blt .len [.var 3])) 1 [10] true (some (.and (.cmp .eq (.idx (.idx (.var 3) (.var 10)) (.con (.int 0))) (.var 4)) (.and (.cmp .gt (.idx (.idx (.var 3) (.var 10)) (.con (.int 1))) (.con (.int 0))) (.cmp .le (.bin .add (.var 5) (.idx (.idx (.var 3) (.var 10)) (.con (.int 2)))) (.var 2))))) (.var 10)),.ifs (.or (.cmp .eq (.var 4) (.bin .sub (.var 1) (.con (.int 1)))) (.cmp .eq (.var 8) (.lst []))) [.brk] [],.asg 9 (.idx (.var 8) (.call 10 [.var 0,.blt .len [.var 8]])),.app 6 (.tup [.var 5,.var 9]),.asg 4 (.idx (.idx (.var 3) (.var 9)) (.con (.int 1))),.asg 5 (.blt .min2 [.var 2,.bin .add (.bin .add (.var 5) (.idx (.idx (.var 3) (.var 9)) (.con (.int 2)))) (.idx (.lst [.con (.int 0),.con (.int 0),.con (.int 0),.con (.int 1),.con (.int 2)]) (.call 10 [.var 0,.con (.int 5)]))])],.ifs (.cmp .lt (.var 4) (.bin .sub (.var 1) (.con (.int 1)))) [.ret (.lst [])] [],.ret (.var 6)]
noncomputable def Yq:Fd:=⟨4,10,M9⟩
theorem Uu:bj ["pool","many","last","ways","place","hour","found","turn","some","k"] ["pool","many","last","ways"] (aM vU):=nofun
include cl in
theorem d13(Fu:j7 K "_law_route" "_law_route" vU f fd)(ig:mg "len"=none)(jO:mg "min"=none)(aU:mg "range"=none)(aB:aH Pg w K mg base k c 10 "_law_next" 2):cW Pg w K mg base jJ (k+1) f fd ["pool","many","last","ways"] (j6 K 4 (fun args=>enter c n Yq args)):=by
 refine di Fu Uu rfl rfl fun cdv A outer s H E hr=>?_;have nd:=Uu.nd;refine ak ?_ ?_;.exists eU (i:=4) ?_ ?_ ?_ ?_ ?_ ?_;exact nd;exact rfl;exact Or.inr rfl;rotate_left;rfl;exact oi;exact ao
 exists ak ?_ ?_;.exists eU (i:=5) ?_ ?_ ?_ ?_ ?_ ?_;exact nd;exact rfl;exact Or.inr rfl;rotate_left;rfl;exact oi;exact dY aB hr (bu (sv 0) (bu (az aN (sv 2) ao) aJ rfl) rfl)
 exists ak ?_ ?_;.exists 6,cJ aR
 exists ak ?_ ?_;.exists dR (i:=7) ?_ ?_ ?_ ?_ ?_ ?_ ?_ ?_ ?_;exact PassesOwn.never;exact hc;exact nd;exact rfl;exact oi;exact cj rfl (by rfl) aU ao;(· exists ak ?_ ?_;exact kE (i:=8) (N':=["pool","many","last","ways","place","hour","found","turn","some","k#9","k"]) hc nd rfl (Or.inl rfl) (uz rfl (by rfl)) (cj rfl (by rfl) aU (o4 rfl (by rfl) ig (sv 3))) (fun _ _ _ _ _=>aA (i:=10) ‹["pool","many","last","ways","place","hour","found","turn","some","k#9","k"]› rfl (Or.inl rfl) (Or.inr rfl)) (bY (Nat.le_refl _)) (fun _ _ _ _ _=>nW (SW.st (mz (bN (eX (bz hr)) (aG (aG (sv 3) (sv 10)) ao) (sv 4) (bM _)) (mz (bN oK (aG (aG (sv 3) (sv 10)) ao) ao (bM _)) (nU (bN xg (az aN (sv 5) (aG (aG (sv 3) (sv 10)) ao)) (sv 2) (bM _))))))) (fun _ _ _ _ _=>(sv 10)) (by rfl) (by intro _;rfl) (Or.inl rfl);(· exists ak ?_ ?_;(· exists gJ ?_ ?_ ?_;exact SW.st (uV (bN (eX (bz hr)) (sv 4) (az cZ (sv 1) ao) (bM _)) (p7 (bN (eX (bz hr)) (sv 8) (cJ aR) (bM _))));(· exists ak ?_ ?_;exact Nm;exact aC);exact aC);(· exists ak ?_ ?_;(· exists 9,aG (sv 8) (dY aB hr (bu (sv 0) (bu (o4 rfl (by rfl) ig (sv 8)) aJ rfl) rfl)));(· exists ak ?_ ?_;exact cF (k:=6) rfl (by first|exact Or.inl rfl|exact Or.inr (Or.inl rfl)) (fK (cB (sv 5) (cB (sv 9) aR rfl) rfl));(· exists ak ?_ ?_;(· exists eU (i:=4) ?_ ?_ ?_ ?_ ?_ ?_;exact nd;exact rfl;exact Or.inr rfl;rotate_left;rfl;exact oi;exact aG (aG (sv 3) (sv 9)) ao);(· exists ak ?_ ?_;(· exists eU (i:=5) ?_ ?_ ?_ ?_ ?_ ?_;exact nd;exact rfl;exact Or.inr rfl;rotate_left;rfl;exact oi;exact tV rfl hc (by rfl) jO (cB (sv 2) (cB (az aN (az aN (sv 5) (aG (aG (sv 3) (sv 9)) ao)) (aG (cJ (jw [0,0,0,1,2] rfl aR)) (dY aB hr (bu (sv 0) (bu ao aJ rfl) rfl)))) aR rfl) rfl));exact aC))))));(· intro _;rfl);exact Or.inl rfl
 exists ak ?_ ?_;.exists gJ ?_ ?_ ?_;exact bN (NZ (bz hr)) (sv 4) (az cZ (sv 1) ao) (bM _);(· exists ak ?_ ?_;(· exists bD ?_;exact cJ aR);exact aC);exact aC
 exists ak ?_ ?_;.exists bD ?_;exact sv 6
 exact aC
noncomputable abbrev mY:=top 18
noncomputable def b14:List S:=[.qm 4 true,.gC (.lW (.con (.int 0)) (.call 10 [.var 0,.con (.int 7)])) [5] true [.asg 6 (.idx (.lst [.con (.int 1),.con (.int 1),.con (.int 2),.bin .add (.con (.int 1)) (.call 10 [.var 0,.con (.int 5)]),.bin .add (.con (.int 1)) (.call 11 [.var 0,.bin .pow (.con (.int 10)) (.con (.int 8))])]) (.call 10 [.var 0,.con (.int 5)])),.gC (.call 13 [.var 0,.var 1,.var 2,.var 3]) [7,8] false [.lM 4 [.var 7,.var 8] (.bin .add (.wD 4 [.var 7,.var 8] (.con (.int 0))) (.var 6))]],.ret (.comp (.blt .sorted [.blt .Tt [.vw 4]]) 2 [9,10] false none (.tup [.var 9,.var 10,.Kz 4 [.var 9,.var 10]]))]
noncomputable def Yv:Fd:=⟨4,9,b14⟩
theorem Ua:bj ["pool","many","last","ways","table","turn","loads","hour","way"] ["pool","many","last","ways"] (aM mY):=nofun
include cl in
theorem d14(Fu:j7 K "_law_flow" "_law_flow" mY f fd)(iQ:mg "list"=none)(aU:mg "range"=none)(ik:mg "sorted"=none)(aB:aH Pg w K mg base k c 10 "_law_next" 2)(uq:aH Pg w K mg base k c 13 "_law_route" 4)(fG:aH Pg w K mg base k c 11 "_law_wide" 2):cW Pg w K mg base jJ (k+1) f fd ["pool","many","last","ways"] (j6 K 4 (fun args=>enter c n Yv args)):=by
 refine di Fu Ua rfl rfl fun cdv A outer s H E hr=>?_;have nd:=Ua.nd;refine ak ?_ ?_;.exact(o7 (i:=4) nd rfl (Or.inr rfl) (by rfl) (Or.inl rfl))
 exists ak ?_ ?_;.exists dR (i:=5) ?_ ?_ ?_ ?_ ?_ ?_ ?_ ?_ ?_;exact PassesOwn.never;exact hc;exact nd;exact rfl;exact oi;exact cj rfl (by rfl) aU (dY aB hr (bu (sv 0) (bu ao aJ rfl) rfl));(· exists ak ?_ ?_;(· exists 6,aG (cJ (jw [1,1,2] rfl (cB (az aN ao (dY aB hr (bu (sv 0) (bu ao aJ rfl) rfl))) (cB (az aN ao (dY fG hr (bu (sv 0) (bu (az jB ao ao) aJ rfl) rfl))) aR rfl) rfl))) (dY aB hr (bu (sv 0) (bu ao aJ rfl) rfl)));(· exists ak ?_ ?_;exact iZ PassesOwn.never hc (dO (dY uq hr (bu (sv 0) (bu (sv 1) (bu (sv 2) (bu (sv 3) aJ rfl) rfl) rfl) rfl))) (cR hc (aD (aA (i:=7) nd rfl (Or.inl rfl) (Or.inl rfl)) (aD (aA (i:=8) nd rfl (Or.inl rfl) (Or.inl rfl)) bW))) (eY rfl (aQ _ _ (aQ _ _ cY 8) 7)) (by exists ak ?_ ?_;exact lJ (i:=4) (bz hr) rfl (by first|exact Or.inl rfl|exact Or.inr (Or.inl rfl)) (cB (sv 7) (cB (sv 8) aR rfl) rfl) (az aN (tX (i:=4) (bz hr) rfl (by first|exact Or.inl rfl|exact Or.inr (Or.inl rfl)) (cB (sv 7) (cB (sv 8) aR rfl) rfl) ao ⟨rfl,rfl,rfl,rfl⟩) (sv 6)) (by rfl);exact aC);exact aC));(· intro _;rfl);exact Or.inl rfl
 exists ak ?_ ?_;.exists bD ?_;exact dM (N':=["pool","many","last","ways","table","turn","loads","hour#7","way#8","hour","way"]) hc (uz rfl (by rfl)) (dO (qz rfl (by rfl) ik (GK rfl hc (by rfl) iQ (Le (i:=4) rfl (by first|exact Or.inl rfl|exact Or.inr (Or.inl rfl)))))) (fun _ _ _ _ _=>cR hc (aD (aA (i:=9) ‹["pool","many","last","ways","table","turn","loads","hour#7","way#8","hour","way"]› rfl (Or.inl rfl) (Or.inr rfl)) (aD (aA (i:=10) ‹["pool","many","last","ways","table","turn","loads","hour#7","way#8","hour","way"]› rfl (Or.inl rfl) (Or.inr rfl)) bW))) (oA rfl (fB (show 9<=9 by decide) (fB (show 9<=10 by decide) n6))) (fun _ _ _ _ _=>cO) (fun _ _ _ _ _=>(fK (cB (sv 9) (cB (sv 10) (cB (CP (i:=4) (bz hr) rfl (by first|exact Or.inl rfl|exact Or.inr (Or.inl rfl)|exact Or.inr (Or.inr rfl)) (cB (sv 9) (cB (sv 10) aR rfl) rfl) (fun _ _=>rfl)) aR rfl) rfl) rfl)))
 exact aC
noncomputable abbrev xT:=top 19
noncomputable def b15:List S:=[.Cd 4 (.lW (.con (.int 0)) (.var 0)) 1 [12] true (.bin .mul (.lst [.con (.int 0)]) (.bin .add (.var 1) (.con (.int 1)))),.yo (.var 3) [5,6,7] false [.Mv [8,9,10] (.idx (.var 2) (.var 6)),.wF 4 (.var 8) (.var 5) true (.var 7),.wF 4 (.var 9) (.bin .add (.var 5) (.var 10)) false (.var 7)],.yo (.lW (.con (.int 1)) (.bin .add (.var 1) (.con (.int 1)))) [5] true [.Hd 4 11 (.var 5) (.var 5) (.bin .sub (.var 5) (.con (.int 1)))],.fH 4,.ret (.var 4)]
noncomputable def YF:Fd:=⟨4,12,b15⟩
theorem Vy:bj ["many","last","ways","plan","found","hour","way","loads","begin","end","hours","row"] ["many","last","ways","plan"] (aM xT):=nofun
include cl in
theorem d15(Fu:j7 K "_law_stocks" "_law_stocks" xT f fd)(aU:mg "range"=none):cW Pg w K mg base jJ (k+1) f fd ["many","last","ways","plan"] (j6 K 4 (fun args=>enter c n YF args)):=by refine di Fu Vy rfl rfl fun cdv A outer s H E hr=>?_;have nd:=Vy.nd;exact(by(refine zH (i:=4) (N':=["many","last","ways","plan","found","hour","way","loads","begin","end","hours","row","place"]) (g:=fj 12) ?_ ?_ ?_ ?_ ?_ ?_ ?_ ?_ ?_ ?_ ?_ ?_ ?_ ?_);exact hc;exact nd;exact rfl;exact oi;exact uz rfl (by rfl);exact cj rfl (by rfl) aU (sv 0);exact(fun _ _ _ _ _=>aA (i:=12) ‹["many","last","ways","plan","found","hour","way","loads","begin","end","hours","row","place"]› rfl (Or.inl rfl) (Or.inr rfl));exact bY (Nat.le_refl _);exact(fun _ _ _ _ _=>cO);exact(fun _ _ _ _ _=>(az iu (cJ (cB ao aR rfl)) (az aN (sv 1) ao)));(· exists gZ ?_ ?_;(· exists rZ (g:=Dd K 3 (kW (fj 5) (kW (fj 6) (kW (fj 7) GP)))) ?_ ?_ ?_ ?_ ?_ ?_ ?_;exact PassesOwn.never;exact hc;exact zV (sv 3);exact cR hc (aD (aA (i:=5) nd rfl (Or.inl rfl) (Or.inl rfl)) (aD (aA (i:=6) nd rfl (Or.inl rfl) (Or.inl rfl)) (aD (aA (i:=7) nd rfl (Or.inl rfl) (Or.inl rfl)) bW)));exact eY rfl (aQ _ _ (aQ _ _ (aQ _ _ cY 7) 6) 5);(· exists gW ?_ ?_;(· exists GX ?_;exact tZ (aG (sv 2) (sv 6)) (cR hc (aD (aA (i:=8) nd rfl (Or.inl rfl) (Or.inl rfl)) (aD (aA (i:=9) nd rfl (Or.inl rfl) (Or.inl rfl)) (aD (aA (i:=10) nd rfl (Or.inl rfl) (Or.inl rfl)) bW)))) (eY rfl (aQ _ _ (aQ _ _ (aQ _ _ cY 10) 9) 8)));(· exists gW ?_ ?_;(· exists uG (k:=4) ?_ ?_ ?_ ?_ ?_ ?_ ?_ ?_ ?_ ?_ ?_ ?_ ?_ ?_ ?_ ?_ ?_;exact rfl;(· first|exact Or.inl rfl|exact Or.inr (Or.inl rfl));exact sv 8;exact sv 5;exact sv 8;exact sv 5;exact sv 7;exact Or.inl ⟨rfl,rfl⟩;(· intro _ _;rfl);(· intro _ _;rfl);(· intro _ _;rfl);(· intro _;rfl);rfl;rfl;rfl;rfl;rfl);(· exists gW ?_ ?_;(· exists uG (k:=4) ?_ ?_ ?_ ?_ ?_ ?_ ?_ ?_ ?_ ?_ ?_ ?_ ?_ ?_ ?_ ?_ ?_;exact rfl;(· first|exact Or.inl rfl|exact Or.inr (Or.inl rfl));exact sv 9;exact az aN (sv 5) (sv 10);exact sv 9;exact az aN (sv 5) (sv 10);exact sv 7;exact Or.inr ⟨rfl,rfl⟩;(· intro _ _;rfl);(· intro _ _;rfl);(· intro _ _;rfl);(· intro _;rfl);rfl;rfl;rfl;rfl;rfl);exact lH)));(· intro _;rfl));(· exists gZ ?_ ?_;(· exists rZ (g:=fj 5) ?_ ?_ ?_ ?_ ?_ ?_ ?_;exact PassesOwn.never;exact hc;(· exists FN ?_ ?_ ?_ ?_ ?_ ?_ ?_;exact rfl;rfl;exact aU;exact ao;exact az aN (sv 1) ao;rfl;rfl);exact aA (i:=5) nd rfl (Or.inl rfl) (Or.inl rfl);(· rw[qG];exact yW 5);(· exists gW ?_ ?_;(· exists DQ (kx:=4) (ky:=11) ?_ ?_ ?_ ?_ ?_ ?_ ?_ ?_ ?_ ?_ ?_ ?_ ?_ ?_ ?_ ?_ ?_ ?_ ?_ ?_ ?_ ?_ ?_;exact PassesOwn.never;exact hc;exact nd;exact rfl;(· first|exact Or.inl rfl|exact Or.inr (Or.inl rfl));exact rfl;exact oi;(· first|exact Or.inl rfl|exact Or.inr (Or.inl rfl));exact sv 5;exact sv 5;exact az cZ (sv 5) ao;(· intro _ _;rfl);(· intro _ _;rfl);(· intro _;rfl);rfl;rfl;rfl;(· intro _;rfl);exact oi;rfl;rfl;rfl;rfl);exact lH);(· intro _;rfl));(· exists rP ?_;(· exists ak ?_ ?_;(· exists bD ?_;exact sv 4);exact aC))));rfl;(· intro _;rfl);exact oi)
noncomputable abbrev Gi:=top 20
noncomputable def Bs:List S:=[.asg 1 (.bin .add (.con (.int 2)) (.call 10 [.var 0,.con (.int 5)])),.asg 2 (.idx (.lst [.call 10 [.var 0,.con (.int 13)],.bin .add (.con (.int 4)) (.call 10 [.var 0,.con (.int 9)]),.con (.int 12)]) (.call 10 [.var 0,.con (.int 3)])),.asg 3 (.call 12 [.var 0,.var 1]),.asg 4 (.call 14 [.var 0,.var 1,.var 2,.var 3]),.qm 5 true,.gC (.var 4) [6,7,8] false [.lM 5 [.var 6,.var 7] (.var 8)],.asg 9 (.lst []),.gC (.lW (.con (.int 0)) (.blt .len [.var 3])) [7] true [.app 9 (.blt .tuple [.comp (.lW (.con (.int 0)) (.bin .add (.var 2) (.con (.int 1)))) 1 [13] true none (.blt .min2 [.bin .pow (.con (.int 10)) (.con (.int 9)),.bin .add (.wD 5 [.var 13,.var 7] (.con (.int 0))) (.idx (.lst [.con (.int 0),.con (.int 0),.con (.int 1),.call 10 [.var 0,.con (.int 4)],.call 11 [.var 0,.bin .pow (.con (.int 10)) (.con (.int 9))]]) (.call 10 [.var 0,.con (.int 5)]))])])],.asg 10 (.lst [.con .non]),.gC (.slice (.call 15 [.var 1,.var 2,.var 3,.var 4]) (.con (.int 1)) (.neg (.con (.int 1)))) [11] true [.asg 11 (.slice (.var 11) (.con .non) (.var 2)),.asg 12 (.comp (.var 11) 1 [13] true none (.idx (.lst [.con (.int 0),.con (.int 0),.con (.int 1),.call 10 [.var 0,.con (.int 3)]]) (.call 10 [.var 0,.con (.int 4)]))),.app 10 (.idx (.lst [.con .non,.blt .tuple [.comp (.zip (.var 11) (.var 12)) 2 [13,14] false none (.bin .add (.var 13) (.var 14))]]) (.blt .int [.cmp .gt (.call 10 [.var 0,.con (.int 3)]) (.con (.int 0))]))],.app 10 (.con .non),.ret (.tup [.tup [.var 1,.var 2,.blt .tuple [.var 3],.blt .tuple [.var 9],.blt .tuple [.var 10]],.var 4])]
noncomputable def Yu:Fd:=⟨1,13,Bs⟩
theorem Vr:bj ["pool","many","last","ways","plan","used","hour","way","loads","rooms","waits","row","more"] ["pool"] (aM Gi):=nofun
include cl in
theorem d16(Fu:j7 K "_law_case" "_law_case" Gi f fd)(rN:mg "int"=none)(ig:mg "len"=none)(jO:mg "min"=none)(aU:mg "range"=none)(cP:mg "tuple"=none)(lQ:mg "zip"=none)(wM:aH Pg w K mg base k c 14 "_law_flow" 4)(aB:aH Pg w K mg base k c 10 "_law_next" 2)(ur:aH Pg w K mg base k c 12 "_law_roads" 2)(dH:aH Pg w K mg base k c 15 "_law_stocks" 4)(fG:aH Pg w K mg base k c 11 "_law_wide" 2):cW Pg w K mg base jJ (k+1) f fd ["pool"] (j6 K 1 (fun args=>enter c n Yu args)):=by
 refine di Fu Vr rfl rfl fun cdv A outer s H E hr=>?_;have nd:=Vr.nd;refine ak ?_ ?_;.exists 1,az aN ao (dY aB hr (bu (sv 0) (bu ao aJ rfl) rfl))
 exists ak ?_ ?_;.exists 2,aG (cJ (cB (dY aB hr (bu (sv 0) (bu ao aJ rfl) rfl)) (cB (az aN ao (dY aB hr (bu (sv 0) (bu ao aJ rfl) rfl))) (cB ao aR rfl) rfl) rfl)) (dY aB hr (bu (sv 0) (bu ao aJ rfl) rfl))
 exists ak ?_ ?_;.exists 3,dY ur hr (bu (sv 0) (bu (sv 1) aJ rfl) rfl)
 exists ak ?_ ?_;.exists 4,dY wM hr (bu (sv 0) (bu (sv 1) (bu (sv 2) (bu (sv 3) aJ rfl) rfl) rfl) rfl)
 exists ak ?_ ?_;.exact(o7 (i:=5) nd rfl (Or.inr rfl) (by rfl) (Or.inl rfl))
 exists ak ?_ ?_;.exact(iZ PassesOwn.never hc (dO (sv 4)) (cR hc (aD (aA (i:=6) nd rfl (Or.inl rfl) (Or.inl rfl)) (aD (aA (i:=7) nd rfl (Or.inr rfl) (Or.inl rfl)) (aD (aA (i:=8) nd rfl (Or.inl rfl) (Or.inl rfl)) bW)))) (eY rfl (aQ _ _ (aQ _ _ (aQ _ _ cY 8) 7) 6)) (by exists ak ?_ ?_;exact lJ (i:=5) (bz hr) rfl (by first|exact Or.inl rfl|exact Or.inr (Or.inl rfl)) (cB (sv 6) (cB (sv 7) aR rfl) rfl) (sv 8) (by rfl);exact aC))
 exists ak ?_ ?_;.exists 9,cJ aR
 exists ak ?_ ?_;.exists dR (i:=7) ?_ ?_ ?_ ?_ ?_ ?_ ?_ ?_ ?_;exact PassesOwn.never;exact hc;exact nd;exact rfl;exact Or.inr rfl;exact cj rfl (by rfl) aU (o4 rfl (by rfl) ig (sv 3));(· exists ak ?_ ?_;exact cF (k:=9) rfl (by first|exact Or.inl rfl|exact Or.inr (Or.inl rfl)) (fu rfl (by rfl) cP (dM (N':=["pool","many","last","ways","plan","used","hour#6","way","loads","rooms","waits","row","more","hour"]) hc (uz rfl (by rfl)) (cj rfl (by rfl) aU (az aN (sv 2) ao)) (fun _ _ _ _ _=>aA (i:=13) ‹["pool","many","last","ways","plan","used","hour#6","way","loads","rooms","waits","row","more","hour"]› rfl (Or.inl rfl) (Or.inr rfl)) (bY (Nat.le_refl _)) (fun _ _ _ _ _=>cO) (fun _ _ _ _ _=>(tV rfl hc (by rfl) jO (cB (az jB ao ao) (cB (az aN (tX (i:=5) (bz hr) rfl (by first|exact Or.inl rfl|exact Or.inr (Or.inl rfl)) (cB (sv 13) (cB (sv 7) aR rfl) rfl) ao ⟨rfl,rfl,rfl,rfl⟩) (aG (cJ (jw [0,0,1] rfl (cB (dY aB hr (bu (sv 0) (bu ao aJ rfl) rfl)) (cB (dY fG hr (bu (sv 0) (bu (az jB ao ao) aJ rfl) rfl)) aR rfl) rfl))) (dY aB hr (bu (sv 0) (bu ao aJ rfl) rfl)))) aR rfl) rfl)))));exact aC);(· intro _;rfl);exact Or.inl rfl
 exists ak ?_ ?_;.exists 10,cJ (cB rY aR rfl)
 exists ak ?_ ?_;.exists dR (i:=11) ?_ ?_ ?_ ?_ ?_ ?_ ?_ ?_ ?_;exact PassesOwn.never;exact hc;exact nd;exact rfl;exact oi;exact dO (lu (dY dH hr (bu (sv 1) (bu (sv 2) (bu (sv 3) (bu (sv 4) aJ rfl) rfl) rfl) rfl)) (lK ao) (lK (FZ ao)));(· exists ak ?_ ?_;(· exists 11,lu (sv 11) tG (lK (sv 2)));(· exists ak ?_ ?_;exact kE (i:=12) (N':=["pool","many","last","ways","plan","used","hour","way","loads#8","rooms","waits","row","more","loads"]) hc nd rfl (Or.inl rfl) (uz rfl (by rfl)) (dO (sv 11)) (fun _ _ _ _ _=>aA (i:=13) ‹["pool","many","last","ways","plan","used","hour","way","loads#8","rooms","waits","row","more","loads"]› rfl (Or.inl rfl) (Or.inr rfl)) (bY (Nat.le_refl _)) (fun _ _ _ _ _=>cO) (fun _ _ _ _ _=>(aG (cJ (jw [0,0,1] rfl (cB (dY aB hr (bu (sv 0) (bu ao aJ rfl) rfl)) aR rfl))) (dY aB hr (bu (sv 0) (bu ao aJ rfl) rfl)))) (by rfl) (by intro _;rfl) (Or.inl rfl);(· exists ak ?_ ?_;exact cF (k:=10) rfl (by first|exact Or.inl rfl|exact Or.inr (Or.inl rfl)) (aG (cJ (cB rY (cB (fu rfl (by rfl) cP (dM (N':=["pool","many","last","ways","plan","used","hour","way","loads#8","rooms","waits","row","more","loads","other"]) hc (uz rfl (by rfl)) (xP rfl (by rfl) lQ (sv 11) (sv 12)) (fun _ _ _ _ _=>cR hc (aD (aA (i:=13) ‹["pool","many","last","ways","plan","used","hour","way","loads#8","rooms","waits","row","more","loads","other"]› rfl (Or.inl rfl) (Or.inr rfl)) (aD (aA (i:=14) ‹["pool","many","last","ways","plan","used","hour","way","loads#8","rooms","waits","row","more","loads","other"]› rfl (Or.inl rfl) (Or.inr rfl)) bW))) (oA rfl (fB (show 13<=13 by decide) (fB (show 13<=14 by decide) n6))) (fun _ _ _ _ _=>cO) (fun _ _ _ _ _=>(az aN (sv 13) (sv 14))))) aR rfl) rfl)) (Jk rfl (by rfl) rN (Qj oK (dY aB hr (bu (sv 0) (bu ao aJ rfl) rfl)) ao (bM _))));exact aC)));(· intro _;rfl);exact Or.inl rfl
 exists ak ?_ ?_;.exact(cF (k:=10) rfl (by first|exact Or.inl rfl|exact Or.inr (Or.inl rfl)) rY)
 exists ak ?_ ?_;.exists bD ?_;exact fK (cB (fK (cB (sv 1) (cB (sv 2) (cB (fu rfl (by rfl) cP (sv 3)) (cB (fu rfl (by rfl) cP (sv 9)) (cB (fu rfl (by rfl) cP (sv 10)) aR rfl) rfl) rfl) rfl) rfl)) (cB (sv 4) aR rfl) rfl)
 exact aC
noncomputable abbrev Zi:=top 21
noncomputable def b17:List S:=[.qm 5 true,.gC (.var 4) [6,7,8] false [.lM 5 [.var 6,.var 7] (.var 8)],.asg 9 (.call 15 [.var 1,.var 2,.var 3,.var 4]),.gC (.lW (.con (.int 0)) (.blt .len [.var 3])) [7] true [.Mv [10,11,12] (.idx (.var 3) (.var 7)),.asg 13 (.idx (.var 9) (.var 10)),.gC (.lW (.con (.int 0)) (.bin .sub (.bin .add (.var 2) (.con (.int 1))) (.blt .min2 [.var 12,.bin .add (.var 2) (.con (.int 1))]))) [6] true [.asg 14 (.blt .BZ [.slice (.var 13) (.var 6) (.con .non)]),.ifs (.and (.or (.cmp .eq (.var 11) (.con (.int 0))) (.cmp .eq (.var 10) (.bin .sub (.var 1) (.con (.int 1))))) (.and (.or (.cmp .eq (.var 10) (.con (.int 0))) (.cmp .gt (.var 14) (.con (.int 0)))) (.cmp .eq (.call 10 [.var 0,.con (.int 2)]) (.con (.int 0))))) [.lM 5 [.var 6,.var 7] (.bin .add (.wD 5 [.var 6,.var 7] (.con (.int 0))) (.con (.int 1))),.ret (.comp (.blt .sorted [.blt .Tt [.vw 5]]) 2 [15,16] false none (.tup [.var 15,.var 16,.Kz 5 [.var 15,.var 16]]))] []]],.ret (.var 4)]
noncomputable def Yb:Fd:=⟨5,15,b17⟩
theorem VB:bj ["pool","many","last","ways","plan","found","hour","way","loads","stocks","begin","end","hours","row","spare"] ["pool","many","last","ways","plan"] (aM Zi):=nofun
include cl in
theorem d17(Fu:j7 K "_law_back" "_law_back" Zi f fd)(ig:mg "len"=none)(iQ:mg "list"=none)(jO:mg "min"=none)(aU:mg "range"=none)(ik:mg "sorted"=none)(aB:aH Pg w K mg base k c 10 "_law_next" 2)(dH:aH Pg w K mg base k c 15 "_law_stocks" 4):cW Pg w K mg base jJ (k+1) f fd ["pool","many","last","ways","plan"] (j6 K 5 (fun args=>enter c n Yb args)):=by
 refine di Fu VB rfl rfl fun cdv A outer s H E hr=>?_;have nd:=VB.nd;refine ak ?_ ?_;.exact(o7 (i:=5) nd rfl (Or.inr rfl) (by rfl) (Or.inl rfl))
 exists ak ?_ ?_;.exact(iZ PassesOwn.never hc (dO (sv 4)) (cR hc (aD (aA (i:=6) nd rfl (Or.inl rfl) (Or.inl rfl)) (aD (aA (i:=7) nd rfl (Or.inl rfl) (Or.inl rfl)) (aD (aA (i:=8) nd rfl (Or.inl rfl) (Or.inl rfl)) bW)))) (eY rfl (aQ _ _ (aQ _ _ (aQ _ _ cY 8) 7) 6)) (by exists ak ?_ ?_;exact lJ (i:=5) (bz hr) rfl (by first|exact Or.inl rfl|exact Or.inr (Or.inl rfl)) (cB (sv 6) (cB (sv 7) aR rfl) rfl) (sv 8) (by rfl);exact aC))
 exists ak ?_ ?_;.exists 9,dY dH hr (bu (sv 1) (bu (sv 2) (bu (sv 3) (bu (sv 4) aJ rfl) rfl) rfl) rfl)
 exists ak ?_ ?_;.exists dR (i:=7) ?_ ?_ ?_ ?_ ?_ ?_ ?_ ?_ ?_;exact PassesOwn.never;exact hc;exact nd;exact rfl;exact oi;exact cj rfl (by rfl) aU (o4 rfl (by rfl) ig (sv 3));(· exists ak ?_ ?_;exact tZ (aG (sv 3) (sv 7)) (cR hc (aD (aA (i:=10) nd rfl (Or.inl rfl) (Or.inl rfl)) (aD (aA (i:=11) nd rfl (Or.inl rfl) (Or.inl rfl)) (aD (aA (i:=12) nd rfl (Or.inl rfl) (Or.inl rfl)) bW)))) (eY rfl (aQ _ _ (aQ _ _ (aQ _ _ cY 12) 11) 10));(· exists ak ?_ ?_;(· exists 13,aG (sv 9) (sv 10));(· exists ak ?_ ?_;(· exists dR (i:=6) ?_ ?_ ?_ ?_ ?_ ?_ ?_ ?_ ?_;exact PassesOwn.never;exact hc;exact nd;exact rfl;exact oi;exact cj rfl (by rfl) aU (az cZ (az aN (sv 2) ao) (tV rfl hc (by rfl) jO (cB (sv 12) (cB (az aN (sv 2) ao) aR rfl) rfl)));(· exists ak ?_ ?_;(· exists 14,JN rfl hc (by rfl) jO (lu (sv 13) (lK (sv 6)) tG));(· exists ak ?_ ?_;(· exists gJ ?_ ?_ ?_;exact SW.st (mz (SW.st (uV (bN (eX (bz hr)) (sv 11) ao (bM _)) (p7 (bN (eX (bz hr)) (sv 10) (az cZ (sv 1) ao) (bM _))))) (mz (SW.st (uV (bN (eX (bz hr)) (sv 10) ao (bM _)) (p7 (bN oK (sv 14) ao (bM _))))) (nU (bN (eX (bz hr)) (dY aB hr (bu (sv 0) (bu ao aJ rfl) rfl)) ao (bM _)))));(· exists ak ?_ ?_;exact lJ (i:=5) (bz hr) rfl (by first|exact Or.inl rfl|exact Or.inr (Or.inl rfl)) (cB (sv 6) (cB (sv 7) aR rfl) rfl) (az aN (tX (i:=5) (bz hr) rfl (by first|exact Or.inl rfl|exact Or.inr (Or.inl rfl)) (cB (sv 6) (cB (sv 7) aR rfl) rfl) ao ⟨rfl,rfl,rfl,rfl⟩) ao) (by rfl);(· exists ak ?_ ?_;(· exists bD ?_;exact dM (N':=["pool","many","last","ways","plan","found","hour","way","loads","stocks","begin","end","hours","row","spare","one","other"]) hc (uz rfl (by rfl)) (dO (qz rfl (by rfl) ik (GK rfl hc (by rfl) iQ (Le (i:=5) rfl (by first|exact Or.inl rfl|exact Or.inr (Or.inl rfl)))))) (fun _ _ _ _ _=>cR hc (aD (aA (i:=15) ‹["pool","many","last","ways","plan","found","hour","way","loads","stocks","begin","end","hours","row","spare","one","other"]› rfl (Or.inl rfl) (Or.inr rfl)) (aD (aA (i:=16) ‹["pool","many","last","ways","plan","found","hour","way","loads","stocks","begin","end","hours","row","spare","one","other"]› rfl (Or.inl rfl) (Or.inr rfl)) bW))) (oA rfl (fB (show 15<=15 by decide) (fB (show 15<=16 by decide) n6))) (fun _ _ _ _ _=>cO) (fun _ _ _ _ _=>(fK (cB (sv 15) (cB (sv 16) (cB (CP (i:=5) (bz hr) rfl (by first|exact Or.inl rfl|exact Or.inr (Or.inl rfl)|exact Or.inr (Or.inr rfl)) (cB (sv 15) (cB (sv 16) aR rfl) rfl) (fun _ _=>rfl)) aR rfl) rfl) rfl))));exact aC));exact aC);exact aC));(· intro _;rfl);exact oi);exact aC)));(· intro _;rfl);exact Or.inl rfl
 exists ak ?_ ?_;.exists bD ?_;exact sv 4
 exact aC
noncomputable abbrev Ze:=top 22
noncomputable def b18:List S:=[.asg 3 (.con (.int 0)),.gC (.var 1) [4,5,6] false [.ifs (.and (.cmp .eq (.idx (.idx (.var 0) (.var 5)) (.con (.int 0))) (.con (.int 0))) (.cmp .ge (.var 4) (.var 2))) [.asg 3 (.bin .add (.var 3) (.var 6))] [],.ifs (.and (.cmp .eq (.idx (.idx (.var 0) (.var 5)) (.con (.int 1))) (.con (.int 0))) (.cmp .ge (.bin .add (.var 4) (.idx (.idx (.var 0) (.var 5)) (.con (.int 2)))) (.var 2))) [.asg 3 (.bin .sub (.var 3) (.var 6))] []],.ret (.var 3)]
noncomputable def Yj:Fd:=⟨3,7,b18⟩
theorem Vq:bj ["ways","plan","hour","total","start","way","loads"] ["ways","plan","hour"] (aM Ze):=nofun
include cl in
theorem d18(Fu:j7 K "_law_sent" "_law_sent" Ze f fd):cW Pg w K mg base jJ (k+1) f fd ["ways","plan","hour"] (j6 K 3 (fun args=>enter c n Yj args)):=by
 refine di Fu Vq rfl rfl fun cdv A outer s H E hr=>?_;have nd:=Vq.nd;refine ak ?_ ?_;.exists 3,ao
 exists ak ?_ ?_;.exact(iZ PassesOwn.never hc (dO (sv 1)) (cR hc (aD (aA (i:=4) nd rfl (Or.inl rfl) (Or.inl rfl)) (aD (aA (i:=5) nd rfl (Or.inl rfl) (Or.inl rfl)) (aD (aA (i:=6) nd rfl (Or.inl rfl) (Or.inl rfl)) bW)))) (eY rfl (aQ _ _ (aQ _ _ (aQ _ _ cY 6) 5) 4)) (by exists ak ?_ ?_;(· exists gJ ?_ ?_ ?_;exact SW.st (mz (bN (eX (bz hr)) (aG (aG (sv 0) (sv 5)) ao) ao (bM _)) (nU (bN wX (sv 4) (sv 2) (bM _))));(· exists ak ?_ ?_;(· exists 3,az aN (sv 3) (sv 6));exact aC);exact aC);(· exists ak ?_ ?_;(· exists gJ ?_ ?_ ?_;exact SW.st (mz (bN (eX (bz hr)) (aG (aG (sv 0) (sv 5)) ao) ao (bM _)) (nU (bN wX (az aN (sv 4) (aG (aG (sv 0) (sv 5)) ao)) (sv 2) (bM _))));(· exists ak ?_ ?_;(· exists 3,az cZ (sv 3) (sv 6));exact aC);exact aC);exact aC)))
 exists ak ?_ ?_;.exists bD ?_;exact sv 3
 exact aC
noncomputable abbrev Hn:=top 23
noncomputable def b19:List S:=[.ifs (.or (.not (.inst [.list] (.var 0))) (.cmp .ne (.var 0) (.var 1))) [.ret (.con (.bl false))] [],.ret (.blt .all [.comp (.var 0) 1 [2] true none (.and (.inst [.int] (.var 2)) (.not (.inst [.bool] (.var 2))))])]
noncomputable def Vt:Fd:=⟨2,2,b19⟩
theorem V3:bj ["found","due"] ["found","due"] (aM Hn):=nofun
include cl in
theorem d19(Fu:j7 K "_law_told" "_law_told" Hn f fd)(Hm:mg "all"=none)(yE:mg "bool"=none)(rN:mg "int"=none)(dW:mg "isinstance"=none)(iQ:mg "list"=none):cW Pg w K mg base jJ (k+1) f fd ["found","due"] (j6 K 2 (fun args=>enter c n Vt args)):=by
 refine di Fu V3 rfl rfl fun cdv A outer s H E hr=>?_;have nd:=V3.nd;refine ak ?_ ?_;.exists gJ ?_ ?_ ?_;exact SW.st (uV (o8 (pO (pJ .list rfl (by rfl) dW (sv 0) (by rfl) iQ (by kernel_rfl) (by decide) (by rfl)))) (p7 (bN (Pq (bz hr)) (sv 0) (sv 1) (bM _))));(· exists ak ?_ ?_;(· exists bD ?_;exact qC);exact aC);exact aC
 exists ak ?_ ?_;.exists bD ?_;exact Pj rfl hc (by rfl) Hm (dM (N':=["found","due","one"]) hc (uz rfl (by rfl)) (dO (sv 0)) (fun _ _ _ _ _=>aA (i:=2) ‹["found","due","one"]› rfl (Or.inl rfl) (Or.inr rfl)) (bY (Nat.le_refl _)) (fun _ _ _ _ _=>cO) (fun _ _ _ _ _=>(Q0 (pJ .int rfl (by rfl) dW (sv 2) (by rfl) rN (by kernel_rfl) (by decide) (by rfl)) (Ir (Oi (pJ .bool rfl (by rfl) dW (sv 2) (by rfl) yE (by kernel_rfl) (by decide) (by rfl)))))))
 exact aC
noncomputable abbrev Dw:=top 24
noncomputable def uB:List S:=[.Mv [1,2] (.call 16 [.var 0]),.Mv [3,4,5,6,7] (.var 1),.ifs (.cmp .eq (.call 10 [.var 0,.con (.int 2)]) (.con (.int 0))) [.asg 8 (.call 10 [.var 0,.bin .add (.var 4) (.con (.int 1))]),.asg 2 (.comp (.var 2) 1 [23] true (some (.cmp .le (.bin .add (.idx (.var 23) (.con (.int 0))) (.idx (.idx (.var 5) (.idx (.var 23) (.con (.int 1)))) (.con (.int 2)))) (.var 8))) (.var 23))] [],.ifs (.cmp .eq (.call 10 [.var 0,.con (.int 3)]) (.con (.int 0))) [.asg 2 (.call 17 [.var 0,.var 3,.var 4,.var 5,.var 2])] [],.Cd 9 (.var 5) 1 [23] true (.bin .mul (.lst [.con (.int 0)]) (.bin .add (.var 4) (.con (.int 1)))),.yo (.var 2) [10,11,12] false [.Ce 9 (.var 11) (.var 10) (.var 12)],.fH 9,.asg 13 (.lst []),.gC (.zip (.var 6) (.var 9)) [14,15] false [.app 13 (.blt .tuple [.comp (.lW (.con (.int 0)) (.bin .add (.var 4) (.con (.int 1)))) 1 [23] true none (.blt .max2 [.idx (.var 14) (.var 23),.idx (.var 15) (.var 23)])])],.asg 1 (.tup [.var 3,.var 4,.var 5,.blt .tuple [.var 13],.bin .mul (.tup [.con .non]) (.var 3)]),.asg 16 (.comp (.lW (.con (.int 0)) (.bin .add (.var 4) (.con (.int 1)))) 1 [23] true none (.call 18 [.var 5,.var 2,.var 23])),.asg 17 (.call 15 [.var 3,.var 4,.var 5,.var 2]),.asg 18 (.idx (.var 17) (.bin .sub (.var 3) (.con (.int 1)))),.gC (.lW (.con (.int 0)) (.con (.int 2))) [19] true [.fz 16,.fz 18,.Ha 20 (.call 7 [.var 1,.var 2]) (.call 8 [.var 1,.var 2]),.WW 20 [16,18] (.or (.not (.call 19 [.idx (.var 20) (.con (.int 0)),.var 18])) (.not (.call 19 [.idx (.var 20) (.con (.int 1)),.var 16]))) [.ret (.con (.bl false))] [],.Hb 20 (.con (.int 0)) (.con (.int 1)),.Hc 20 (.con (.int 1)),.fH 20],.gC (.lW (.con (.int 1)) (.var 3)) [21] true [.asg 22 (.comp (.lW (.con (.int 0)) (.bin .add (.var 4) (.con (.int 1)))) 1 [23] true none (.call 6 [.var 1,.var 2,.var 21,.var 23])),.ifs (.not (.call 19 [.var 22,.idx (.var 17) (.var 21)])) [.ret (.con (.bl false))] []],.ret (.con (.bl true))]
noncomputable def Ye:Fd:=⟨1,23,uB⟩
theorem UG:bj ["pool","calendar","plan","many","last","ways","rooms","waits","till","used","hour","way","loads","wide","one","more","sent","stocks","brought","turn","found","place","row"] ["pool"] (aM Dw):=nofun
include cl in
theorem d20(Fu:j7 K "_law_one" "_law_one" Dw f fd)(lO:mg "max"=none)(aU:mg "range"=none)(cP:mg "tuple"=none)(lQ:mg "zip"=none)(wN:aH Pg w K mg base k c 17 "_law_back" 5)(wO:aH Pg w K mg base k c 16 "_law_case" 1)(aB:aH Pg w K mg base k c 10 "_law_next" 2)(wQ:aH Pg w K mg base k c 18 "_law_sent" 3)(dH:aH Pg w K mg base k c 15 "_law_stocks" 4)(jr:aH Pg w K mg base k c 19 "_law_told" 2)(qp:aH Pg w K mg base k c 7 "cal_brought" 2)(yF:aH Pg w K mg base k c 8 "cal_sent" 2)(uv:aH Pg w K mg base k c 6 "cal_stands" 4):cW Pg w K mg base jJ (k+1) f fd ["pool"] (j6 K 1 (fun args=>enter c n Ye args)):=by
 refine di Fu UG rfl rfl fun cdv A outer s H E hr=>?_;have nd:=UG.nd;refine ak ?_ ?_;.exact(tZ (dY wO hr (bu (sv 0) aJ rfl)) (cR hc (aD (aA (i:=1) nd rfl (Or.inr rfl) (Or.inl rfl)) (aD (aA (i:=2) nd rfl (Or.inr rfl) (Or.inl rfl)) bW))) (eY rfl (aQ _ _ (aQ _ _ cY 2) 1)))
 exists ak ?_ ?_;.exact(tZ (sv 1) (cR hc (aD (aA (i:=3) nd rfl (Or.inl rfl) (Or.inl rfl)) (aD (aA (i:=4) nd rfl (Or.inr rfl) (Or.inl rfl)) (aD (aA (i:=5) nd rfl (Or.inr rfl) (Or.inl rfl)) (aD (aA (i:=6) nd rfl (Or.inl rfl) (Or.inl rfl)) (aD (aA (i:=7) nd rfl (Or.inl rfl) (Or.inl rfl)) bW)))))) (eY rfl (aQ _ _ (aQ _ _ (aQ _ _ (aQ _ _ (aQ _ _ cY 7) 6) 5) 4) 3)))
 exists ak ?_ ?_;.exists gJ ?_ ?_ ?_;exact bN (eX (bz hr)) (dY aB hr (bu (sv 0) (bu ao aJ rfl) rfl)) ao (bM _);(· exists ak ?_ ?_;(· exists eU (i:=8) ?_ ?_ ?_ ?_ ?_ ?_;exact nd;exact rfl;exact Or.inr rfl;rotate_left;rfl;exact oi;exact dY aB hr (bu (sv 0) (bu (az aN (sv 4) ao) aJ rfl) rfl));(· exists ak ?_ ?_;(· exists eU (i:=2) ?_ ?_ ?_ ?_ ?_ ?_;exact nd;exact rfl;exact Or.inr rfl;rotate_left;rfl;exact oi;exact dM (N':=["pool","calendar","plan","many","last","ways","rooms","waits","till","used","hour","way","loads","wide","one#14","more","sent","stocks","brought","turn","found","place","row","one"]) hc (uz rfl (by rfl)) (dO (sv 2)) (fun _ _ _ _ _=>aA (i:=23) ‹["pool","calendar","plan","many","last","ways","rooms","waits","till","used","hour","way","loads","wide","one#14","more","sent","stocks","brought","turn","found","place","row","one"]› rfl (Or.inl rfl) (Or.inr rfl)) (bY (Nat.le_refl _)) (fun _ _ _ _ _=>nW (bN xg (az aN (aG (sv 23) ao) (aG (aG (sv 5) (aG (sv 23) ao)) ao)) (sv 8) (bM _))) (fun _ _ _ _ _=>(sv 23)));exact aC));exact aC
 exists ak ?_ ?_;.exists gJ ?_ ?_ ?_;exact bN (eX (bz hr)) (dY aB hr (bu (sv 0) (bu ao aJ rfl) rfl)) ao (bM _);(· exists ak ?_ ?_;(· exists eU (i:=2) ?_ ?_ ?_ ?_ ?_ ?_;exact nd;exact rfl;exact Or.inr rfl;rotate_left;rfl;exact oi;exact dY wN hr (bu (sv 0) (bu (sv 3) (bu (sv 4) (bu (sv 5) (bu (sv 2) aJ rfl) rfl) rfl) rfl) rfl));exact aC);exact aC
 exact(by exists zH (i:=9) (N':=["pool","calendar","plan","many","last","ways","rooms","waits","till","used","hour","way#11","loads","wide","one","more","sent","stocks","brought","turn","found","place","row","way"]) (g:=fj 23) ?_ ?_ ?_ ?_ ?_ ?_ ?_ ?_ ?_ ?_ ?_ ?_ ?_ ?_;exact hc;exact nd;exact rfl;exact oi;exact uz rfl (by rfl);exact dO (sv 5);exact(fun _ _ _ _ _=>aA (i:=23) ‹["pool","calendar","plan","many","last","ways","rooms","waits","till","used","hour","way#11","loads","wide","one","more","sent","stocks","brought","turn","found","place","row","way"]› rfl (Or.inl rfl) (Or.inr rfl));exact bY (Nat.le_refl _);exact(fun _ _ _ _ _=>cO);exact(fun _ _ _ _ _=>(az iu (cJ (cB ao aR rfl)) (az aN (sv 4) ao)));(· exists gZ ?_ ?_;(· exists rZ (g:=Dd K 3 (kW (fj 10) (kW (fj 11) (kW (fj 12) GP)))) ?_ ?_ ?_ ?_ ?_ ?_ ?_;exact PassesOwn.never;exact hc;exact zV (sv 2);exact cR hc (aD (aA (i:=10) nd rfl (Or.inl rfl) (Or.inl rfl)) (aD (aA (i:=11) nd rfl (Or.inl rfl) (Or.inl rfl)) (aD (aA (i:=12) nd rfl (Or.inl rfl) (Or.inl rfl)) bW)));exact eY rfl (aQ _ _ (aQ _ _ (aQ _ _ cY 12) 11) 10);(· exists gW ?_ ?_;(· exists GQ (k:=9) ?_ ?_ ?_ ?_ ?_ ?_ ?_ ?_ ?_ ?_ ?_ ?_;exact rfl;(· first|exact Or.inl rfl|exact Or.inr (Or.inl rfl));exact sv 11;exact sv 10;exact sv 12;(· intro _ _;rfl);(· intro _;rfl);rfl;rfl;rfl;rfl;rfl);exact lH);(· intro _;rfl));(· exists rP ?_;(· exists ak ?_ ?_;(· exists 13,cJ aR);(· exists ak ?_ ?_;exact iZ PassesOwn.never hc (xP rfl (by rfl) lQ (sv 6) (sv 9)) (cR hc (aD (aA (i:=14) nd rfl (Or.inr rfl) (Or.inl rfl)) (aD (aA (i:=15) nd rfl (Or.inr rfl) (Or.inl rfl)) bW))) (eY rfl (aQ _ _ (aQ _ _ cY 15) 14)) (by exists ak ?_ ?_;exact cF (k:=13) rfl (by first|exact Or.inl rfl|exact Or.inr (Or.inl rfl)) (fu rfl (by rfl) cP (dM (N':=["pool","calendar","plan","many","last","ways","rooms","waits","till","used","hour#10","way","loads","wide","one","more","sent","stocks","brought","turn","found","place","row","hour"]) hc (uz rfl (by rfl)) (cj rfl (by rfl) aU (az aN (sv 4) ao)) (fun _ _ _ _ _=>aA (i:=23) ‹["pool","calendar","plan","many","last","ways","rooms","waits","till","used","hour#10","way","loads","wide","one","more","sent","stocks","brought","turn","found","place","row","hour"]› rfl (Or.inl rfl) (Or.inr rfl)) (bY (Nat.le_refl _)) (fun _ _ _ _ _=>cO) (fun _ _ _ _ _=>(zu rfl hc (by rfl) lO (cB (aG (sv 14) (sv 23)) (cB (aG (sv 15) (sv 23)) aR rfl) rfl)))));exact aC);(· exists ak ?_ ?_;(· exists eU (i:=1) ?_ ?_ ?_ ?_ ?_ ?_;exact nd;exact rfl;exact Or.inr rfl;rotate_left;rfl;exact oi;exact fK (cB (sv 3) (cB (sv 4) (cB (sv 5) (cB (fu rfl (by rfl) cP (sv 13)) (cB (az iu (fK (cB rY aR rfl)) (sv 3)) aR rfl) rfl) rfl) rfl) rfl));(· exists ak ?_ ?_;exact kE (i:=16) (N':=["pool","calendar","plan","many","last","ways","rooms","waits","till","used","hour#10","way","loads","wide","one","more","sent","stocks","brought","turn","found","place","row","hour"]) hc nd rfl (Or.inl rfl) (uz rfl (by rfl)) (cj rfl (by rfl) aU (az aN (sv 4) ao)) (fun _ _ _ _ _=>aA (i:=23) ‹["pool","calendar","plan","many","last","ways","rooms","waits","till","used","hour#10","way","loads","wide","one","more","sent","stocks","brought","turn","found","place","row","hour"]› rfl (Or.inl rfl) (Or.inr rfl)) (bY (Nat.le_refl _)) (fun _ _ _ _ _=>cO) (fun _ _ _ _ _=>(dY wQ hr (bu (sv 5) (bu (sv 2) (bu (sv 23) aJ rfl) rfl) rfl))) (by rfl) (by intro _;rfl) (Or.inl rfl);(· exists ak ?_ ?_;(· exists 17,dY dH hr (bu (sv 3) (bu (sv 4) (bu (sv 5) (bu (sv 2) aJ rfl) rfl) rfl) rfl));(· exists ak ?_ ?_;(· exists 18,aG (sv 17) (az cZ (sv 3) ao));(· exists ak ?_ ?_;(· exists dR (i:=19) ?_ ?_ ?_ ?_ ?_ ?_ ?_ ?_ ?_;exact PassesOwn.never;exact hc;exact nd;exact rfl;exact oi;exact cj rfl (by rfl) aU ao;(· exists K1 (i:=16) ?_;(· exists K1 (i:=18) ?_;(· exists JZ (k:=20) ?_ ?_ ?_ ?_ ?_ ?_ ?_ ?_ ?_ ?_;exact nd;exact rfl;exact oi;exact dY qp hr (bu (sv 1) (bu (sv 2) aJ rfl) rfl);exact dY yF hr (bu (sv 1) (bu (sv 2) aJ rfl) rfl);(· exists gZ ?_ ?_;(· exists Ij ?_ ?_ ?_;exact SW.st (uV (o8 (pO (dY jr hr (bu (aG (sv 20) ao) (bu (sv 18) aJ rfl) rfl)))) (p7 (o8 (pO (dY jr hr (bu (aG (sv 20) ao) (bu (sv 16) aJ rfl) rfl))))));(· exists gW ?_ ?_;(· exists GX ?_;(· exists bD ?_;exact qC));exact lH);exact lH);(· exists gZ ?_ ?_;(· exists Gf (k:=20) ?_ ?_ ?_ ?_ ?_ ?_ ?_ ?_ ?_ ?_ ?_ ?_;exact rfl;(· first|exact Or.inl rfl|exact Or.inr (Or.inl rfl));exact ao;exact ao;(· intro _ _;rfl);rfl;rfl;rfl;rfl;rfl;rfl;rfl);(· exists gZ ?_ ?_;(· exists Ea (k:=20) ?_ ?_ ?_ ?_ ?_ ?_ ?_ ?_ ?_;exact rfl;(· first|exact Or.inl rfl|exact Or.inr (Or.inl rfl));exact ao;(· intro _ _;rfl);rfl;rfl;rfl;rfl;rfl);(· exists rP ?_;exact aC))));rfl;rfl;rfl;exact oi)));(· intro _;rfl);exact oi);(· exists ak ?_ ?_;(· exists dR (i:=21) ?_ ?_ ?_ ?_ ?_ ?_ ?_ ?_ ?_;exact PassesOwn.never;exact hc;exact nd;exact rfl;exact Or.inr rfl;exact JG rfl (by rfl) aU ao (sv 3);(· exists ak ?_ ?_;exact kE (i:=22) (N':=["pool","calendar","plan","many","last","ways","rooms","waits","till","used","hour#10","way","loads","wide","one","more","sent","stocks","brought","turn","found","place","row","hour"]) hc nd rfl (Or.inl rfl) (uz rfl (by rfl)) (cj rfl (by rfl) aU (az aN (sv 4) ao)) (fun _ _ _ _ _=>aA (i:=23) ‹["pool","calendar","plan","many","last","ways","rooms","waits","till","used","hour#10","way","loads","wide","one","more","sent","stocks","brought","turn","found","place","row","hour"]› rfl (Or.inl rfl) (Or.inr rfl)) (bY (Nat.le_refl _)) (fun _ _ _ _ _=>cO) (fun _ _ _ _ _=>(dY uv hr (bu (sv 1) (bu (sv 2) (bu (sv 21) (bu (sv 23) aJ rfl) rfl) rfl) rfl))) (by rfl) (by intro _;rfl) (Or.inl rfl);(· exists ak ?_ ?_;(· exists gJ ?_ ?_ ?_;exact o8 (pO (dY jr hr (bu (sv 22) (bu (aG (sv 17) (sv 21)) aJ rfl) rfl)));(· exists ak ?_ ?_;(· exists bD ?_;exact qC);exact aC);exact aC);exact aC));(· intro _;rfl);exact oi);(· exists ak ?_ ?_;(· exists bD ?_;exact qC);exact aC)))))))))));rfl;(· intro _;rfl);exact oi)
noncomputable abbrev LC:=top 25
noncomputable def b21:List S:=[.gC (.bin .add (.lst [.con (.int 0)]) (.slice (.var 0) (.con .non) (.con (.int 63)))) [1] true [.ifs (.not (.call 20 [.call 9 [.var 1]])) [.ret (.con (.bl false))] []],.ret (.con (.bl true))]
noncomputable def YD:Fd:=⟨1,2,b21⟩
theorem VD:bj ["script","cell"] ["script"] (aM LC):=nofun
include cl in
theorem d21(Fu:j7 K "law" "law" LC f fd)(yG:aH Pg w K mg base k c 20 "_law_one" 1)(wR:aH Pg w K mg base k c 9 "_law_pool" 1):cW Pg w K mg base jJ (k+1) f fd ["script"] (j6 K 1 (fun args=>enter c n YD args)):=by
 refine di Fu VD rfl rfl fun cdv A outer s H E hr=>?_;have nd:=VD.nd;refine ak ?_ ?_;.exists dR (i:=1) ?_ ?_ ?_ ?_ ?_ ?_ ?_ ?_ ?_;exact PassesOwn.never;exact hc;exact nd;exact rfl;exact oi;exact dO (az aN (cJ (cB ao aR rfl)) (lu (sv 0) tG (lK ao)));(· exists ak ?_ ?_;(· exists gJ ?_ ?_ ?_;exact o8 (pO (dY yG hr (bu (dY wR hr (bu (sv 1) aJ rfl)) aJ rfl)));(· exists ak ?_ ?_;(· exists bD ?_;exact qC);exact aC);exact aC);exact aC);(· intro _;rfl);exact Or.inl rfl
 exists ak ?_ ?_;.exists bD ?_;exact qC
 exact aC
end T
end
section
namespace T
open PySem L2 PySem.Spec PyProof.Rows HH
noncomputable def Γ:Tab:=fun i=>[f0,f1,f2,f3,f4,f5,f6,f7,f8,f9,Xp,f11,XM,Yq,Yv,YF,Yu,Yb,Yj,Vt,Ye,YD][i]?
end T
end
section
namespace T
open HH
noncomputable abbrev big:Int:=1606938044258990275541962092341162602522202993782792835301376
theorem aV{w n:Nat}{x y z m:Int}{Q:R->List Sl->Prop}(h0:0<m)(h2:m<big)(k:∀d x z:Int,0<=d->d<m->Q (.val (.int d)) [.own true [.int x,.int y,.int z],.val false (.int m)]):(run Γ w (n+1) 10 [.own true [.int x,.int y,.int z],.val false (.int m)]).sat Q:=by
 have h3:m<1606938044258990275541962092341162602522202993782792835301376:=h2;refine bH (d:=Xp) rfl rfl (by decide) ?_;first|apply aa|apply aq
 simp[Xp];constructor
 . intro _;first|apply aa|apply aq
   simp[h0];apply aa;simp[h0,h3,lU];apply aa;simp;exact k _ _ _ (Int.emod_nonneg _ (by omega)) (Int.emod_lt_of_pos _ h0)
 . intro _;first|apply aa|apply aq
   simp[lU];apply aa;simp;generalize hq:(y+7919*(z+1))%1000000007=q;have q0:0<=q/\q<1000000007:=by omega
   have q1:-18446744073709551616<q+11/\q+11<18446744073709551616:=by omega
   first|apply aa|apply aq
   simp[q1];generalize hs:(q+11)*(q+48271)%998244353=st;have q2:-18446744073709551616<st/\st<18446744073709551616:=by omega
   first|apply aa|apply aq
   simp[q2,h0];exact k _ _ _ (Int.emod_nonneg _ (by omega)) (Int.emod_lt_of_pos _ h0)
theorem Gd{w n:Nat}{x:Int}{Q:R->List Sl->Prop}(k:∀a b c:Int,Q (.own [.int a,.int b,.int c]) [.val false (.int x)]):(run Γ w (n+1) 9 [.val false (.int x)]).sat Q:=by
 refine bH (d:=f9) rfl rfl (by decide) ?_;first|apply aa|apply aq
 simp[f9];exact k _ _ _
end T
end
section
namespace T
open HH
structure Wy where(s t r h:Int)
noncomputable def Wy.d(w:Wy):D:=.tup [.int w.s,.int w.t,.int w.r,.int w.h]
structure Wy.Ok(m:Int)(w:Wy):Prop where
 s0:0<=w.s
 s1:w.s<m
 t0:0<=w.t
 t1:w.t<m
 ne:w.s≠w.t
 r0:0<=w.r
 r1:w.r<=1000000000
 h0:1<=w.h
 h1:w.h<=1000000
theorem other{a b m:Int}(h1:0<=a)(h2:a<m)(h3:0<=b)(h4:b<m-1):0<=(a+1+b)%m/\(a+1+b)%m<m/\(a+1+b)%m≠a:=by
 by_cases h:a+1+b<m;.rw[Int.emod_eq_of_lt (by omega) h];omega
 . have e:(a+1+b)%m=a+1+b-m:=by rw[<-Int.sub_emod_right,Int.emod_eq_of_lt (by omega) (by omega)]
   rw[e];omega
theorem aaN(w:Wy):dZ 7 w.d=true:=rfl
theorem Xx{ds:List D}{k:Nat}(h:∀d∈ds,dZ k d=true):dZ (k+1) (.lst ds)=true:=by rw[dZ];exact List.all_eq_true.mpr h
theorem Uq{ds:List D}{k:Nat}(h:∀d∈ds,dZ k d=true):dZ (k+1) (.tup ds)=true:=by rw[dZ];exact List.all_eq_true.mpr h
noncomputable def ie(m:Int)(ws:List Wy):D:=.tup [.int m,.tup (ws.map Wy.d)]
structure acB(m:Int)(ws:List Wy):Prop where
 m0:2<=m
 m1:m<=6
 len:ws.length<=12
 ok:∀w∈ws,w.Ok m
@[simp]theorem acz{m:Int}{ws:List Wy}:lV (ie m ws) (.int 0)=some (.val (.int m)):=rfl
@[simp]theorem abX{m:Int}{ws:List Wy}:lV (ie m ws) (.int 1)=some (.val (.tup (ws.map Wy.d))):=rfl
end T
end
section
namespace T
open HH
theorem qN{ns:List Int}{i lo hi:Int}(h0:0<=i)(h1:i<(ns.length:Int))(k:∀x∈ns,lo<=x/\x<=hi):∃r,at' (ns.map D.int) i=some (.int r)/\lo<=r/\r<=hi:=by
 have hk:i.toNat<ns.length:=by omega
 refine⟨ns[i.toNat],?_,k _ (List.getElem_mem hk)⟩;rw[jZ h0 (by simpa using h1)];simp[hk]
theorem mH{a:Int}(h:a<=1000000000000000000000):a<big:=by show _<(1606938044258990275541962092341162602522202993782792835301376:Int);omega
theorem pM{w n:Nat}{x y z m:Int}{Q:R->List Sl->Prop}(h0:0<m)(k:∀d x z:Int,0<=d->d<m->Q (.val (.int d)) [.own true [.int x,.int y,.int z],.val false (.int m)]):(run Γ w (n+2) 11 [.own true [.int x,.int y,.int z],.val false (.int m)]).sat Q:=by
 refine bH (d:=f11) rfl rfl (by decide) ?_;first|apply aa|apply aq
 simp[f11];refine aV (by decide) (by decide) fun d x z d0 d1=>?_;simp;refine aV (by decide) (by decide) fun e x z e0 e1=>?_;simp[h0];exact k _ _ _ (Int.emod_nonneg _ (by omega)) (Int.emod_lt_of_pos _ h0)
structure bf where(s t h:Int)
noncomputable def bf.d(r:bf):D:=.tup [.int r.s,.int r.t,.int r.h]
structure bf.Ok(m:Int)(r:bf):Prop where
 s0:0<=r.s
 s1:r.s<m
 t0:0<=r.t
 t1:r.t<m
 ne:r.s≠r.t
 h0:1<=r.h
 h1:r.h<=1000000
noncomputable def qe(p:Int×Int):D:=.tup [.int p.1,.int p.2]
noncomputable def Qi(m:Int)(p:Int×Int):Prop:=0<=p.1/\p.1<m/\0<=p.2/\p.2<m/\p.1≠p.2
inductive JRo(y m:Int)(b:Nat)(s4 s5 s6 s7:Sl)(i:Nat)(ρ:List Sl):Prop where|mk(x z:Int)(ps:List (Int×Int))(s3:Sl)(q0:ρ=[.own true [.int x,.int y,.int z],.val false (.int m),.own false (ps.map qe),s3,s4,s5,s6,s7])(q1:fr s3=true)(q2:(∀p∈ps,Qi m p))(q3:ps.length<=b+i)
inductive JRp(y m:Int)(b:Nat)(s3 s6 s7:Sl)(i:Nat)(ρ:List Sl):Prop where|mk(x z:Int)(ps:List (Int×Int))(s4 s5:Sl)(q0:ρ=[.own true [.int x,.int y,.int z],.val false (.int m),.own false (ps.map qe),s3,s4,s5,s6,s7])(q1:(fr s4=true/\fr s5=true))(q2:(∀p∈ps,Qi m p))(q3:ps.length<=b+i)
inductive JRq(y m:Int)(ds:List D)(s3 s4:Sl)(r:List D)(ρ:List Sl):Prop where|mk(x z:Int)(us:List (Int×Int))(vs:List bf)(s5 s7:Sl)(q0:ρ=[.own true [.int x,.int y,.int z],.val false (.int m),.lent ds,s3,s4,s5,.own false (vs.map bf.d),s7])(q1:(fr s5=true/\fr s7=true))(q2:r=us.map qe)(q3:(∀p∈us,Qi m p))(q4:(∀v∈vs,v.Ok m))(q5:us.length+vs.length<=12)
theorem Am{w n:Nat}{x y z m:Int}{Q:R->List Sl->Prop}(m0:2<=m)(m1:m<=6)(k:∀(vs:List bf)(x z:Int),(∀v∈vs,v.Ok m)->vs.length<=12->Q (.own (vs.map bf.d)) [.own true [.int x,.int y,.int z],.val false (.int m)]):(run Γ w (n+3) 12 [.own true [.int x,.int y,.int z],.val false (.int m)]).sat Q:=by
 refine bH (d:=XM) rfl rfl (by decide) ?_;first|apply aa|apply aq
 simp[XM];apply aa;simp[show m-1<=1000000000 by omega,show-1000000000<=m-1 by omega];refine dF (JRo y m 0 _ _ _ _) ?_ ?_ ⟨x,z,[],.au,rfl,rfl,by simp,by simp⟩
 . rintro i _ hi⟨x,z,ps,s3,rfl,h3,hp,hl⟩;simp[h3];apply aa;simp;refine aV (by decide) (by decide) fun d x z d0 d1=>?_;simp;refine⟨fun _=>?_,fun _=>?_⟩
   . first|apply aa|apply aq
     simp[show ps.length<lim by show _<16777216;omega];refine⟨x,z,ps++[((i:Int),(i:Int)+1)],_,by simp[qe];rfl,rfl,fun p hp'=>?_,by simp;omega⟩;rcases List.mem_append.mp hp' with hp'|hp';.exact hp p hp'
     .rw[List.mem_singleton.mp hp'];refine⟨?_,?_,?_,?_,?_⟩<;>simp<;>omega
   .exact⟨x,z,ps,_,rfl,rfl,hp,by omega⟩
 rintro _⟨x,z,ps,s3,rfl,h3,hp,hl⟩;first|apply aa|apply aq
 simp;have hl5:ps.length<=5:=by omega
 refine aV (by omega) (mH (by omega)) fun c x z c0 c1=>?_;simp;refine⟨by omega,?_⟩;refine dF (JRp y m ps.length _ _ _) ?_ ?_ ⟨x,z,ps,.au,.au,rfl,⟨rfl,rfl⟩,hp,by simp⟩
 . rintro i _ hi⟨x,z,qs,s4,s5,rfl,⟨h4,h5⟩,hq,hql⟩;simp[h4];apply aa;simp;refine aV (by omega) (mH (by omega)) fun a x z a0 a1=>?_;simp[h5];apply aa;simp;refine aV (by omega) (mH (by omega)) fun b x z b0 b1=>?_;obtain⟨t0,t1,tn⟩:=other a0 a1 b0 b1;simp[show 0<m by omega,show qs.length<lim by show _<16777216;omega];refine⟨x,z,qs++[(a,(a+1+b)%m)],.val false (.int i),.val false (.int a),by simp[qe],⟨rfl,rfl⟩,fun p hp'=>?_,by simp;omega⟩;rcases List.mem_append.mp hp' with hp'|hp';.exact hq p hp'
   .rw[List.mem_singleton.mp hp'];exact⟨a0,a1,t0,t1,fun z=>tn z.symm⟩
 rintro _⟨x,z,qs,s4,s5,rfl,⟨h4,h5⟩,hq,hql⟩;have abH:qs.length<=12:=by omega
 first|apply aa|apply aq
 simp;apply aa;simp;refine cA (JRq y m _ _ _) ?_ ?_ ⟨x,z,qs,[],s5,.au,rfl,⟨h5,rfl⟩,rfl,hq,by simp,by simpa using abH⟩;.rintro d r _⟨x,z,us,vs,s5,s7,rfl,⟨h5,h7⟩,hr,hu,hv,hl⟩;cases us with|nil=>cases hr|cons p us=>
     obtain⟨rfl,rfl⟩:d=qe p/\r=us.map qe:=by simpa using hr
     have hpo:=hu p (by simp);simp at hl;simp[h5,h7,qe];apply aa;simp;refine aV (by decide) (by decide) fun a x z a0 a1=>?_;simp;refine pM (by decide) fun b x z b0 b1=>?_;simp;refine aV (by decide) (by decide) fun e x z e0 e1=>?_;obtain⟨h,he,h0,h1⟩:=qN (ns:=[1,1,2,2,3,1+a,1+b]) (lo:=1) (hi:=1000000) e0 (by simpa using e1) (by simp;omega);simp only[List.map_cons,List.map_nil]at he;simp[he,show vs.length<lim by show _<16777216;omega];refine⟨x,z,us,vs++[⟨p.1,p.2,h⟩],.val false (.int p.1),.val false (.int p.2),by simp[bf.d],⟨rfl,rfl⟩,rfl,fun q hq=>hu q (by simp[hq]),fun v hv'=>?_,by simp;omega⟩;rcases List.mem_append.mp hv' with hv'|hv';.exact hv v hv'
     .rw[List.mem_singleton.mp hv'];exact⟨hpo.1,hpo.2.1,hpo.2.2.1,hpo.2.2.2.1,hpo.2.2.2.2,h0,h1⟩
 . rintro _⟨x,z,us,vs,s5,s7,rfl,⟨h5,h7⟩,hr,hu,hv,hl⟩;first|apply aa|apply aq
   simp;exact k vs x z hv (by omega)
end T
end
section
namespace T
open HH
@[simp]theorem Mj{α β:Type}{a:α}{ρ:List Sl}{f:α->List Sl->Res β}:(Res.ok a ρ).bind f=f a ρ:=rfl
@[simp]theorem Vp{α β:Type}{f:α->List Sl->Res β}:(Res.stuck:Res α).bind f=.stuck:=rfl
@[simp]theorem yS{α:Type}{a:α}{ρ:List Sl}:lift (some a) ρ=.ok a ρ:=rfl
theorem Wk{ws:List Wy}{k:Int}(h0:0<=k)(h1:k<(ws.length:Int)):∃v,ws[k.toNat]?=some v/\v∈ws/\at' (ws.map Wy.d) k=some v.d:=by
 have hk:k.toNat<ws.length:=by omega
 refine⟨ws[k.toNat],by simp[hk],List.getElem_mem hk,?_⟩;rw[jZ h0 (by simpa using h1)];simp[hk]
theorem Ob{v:Wy}:lV v.d (.int 0)=some (.val (.int v.s)):=by simp[Wy.d]
theorem Nu{v:Wy}:lV v.d (.int 1)=some (.val (.int v.t)):=by simp[Wy.d]
theorem wd_2{v:Wy}:lV v.d (.int 2)=some (.val (.int v.r)):=by simp[Wy.d]
theorem aab{v:Wy}:lV v.d (.int 3)=some (.val (.int v.h)):=by simp[Wy.d]
end T
end
section
namespace T
open HH
noncomputable def sm{α:Type}(f:α->Int):List α->Int|[]=>0|a::l=>f a+sm f l
section
variable{α β:Type}{f g:α->Int}{l k:List α}
@[simp]theorem FP:sm f []=0:=rfl
@[simp]theorem cX{a:α}:sm f (a::l)=f a+sm f l:=rfl
theorem Gp:sm f (l++k)=sm f l+sm f k:=by induction l with|nil=>simp|cons a l ih=>simp[ih];omega
theorem jh(h:∀a∈l,f a=g a):sm f l=sm g l:=by induction l with|nil=>rfl|cons a l ih=>rw[cX,cX,h a (by simp),ih fun b hb=>h b (by simp[hb])]
theorem QF:sm (fun a=>f a+g a) l=sm f l+sm g l:=by induction l with|nil=>rfl|cons a l ih=>simp only[cX,ih];omega
theorem QW:sm (fun a=>f a-g a) l=sm f l-sm g l:=by induction l with|nil=>rfl|cons a l ih=>simp only[cX,ih];omega
theorem QX{c:Int}:sm (fun a=>f a*c) l=sm f l*c:=by induction l with|nil=>simp|cons a l ih=>simp only[cX,ih,Int.add_mul]
theorem Z8{l:List Int}:l.sum=sm (fun i=>i) l:=by induction l with|nil=>rfl|cons a l ih=>simp[ih]
end
structure Tr where(h w l:Int)
noncomputable def Tr.d(x:Tr):D:=.tup [.int x.h,.int x.w,.int x.l]
noncomputable def Uv:D->Tr|.tup [.int h,.int w,.int l]=>⟨h,w,l⟩|_=>⟨0,0,0⟩
@[simp]theorem aaU{h w l:Int}:Uv (.tup [.int h,.int w,.int l])=⟨h,w,l⟩:=rfl
@[simp]theorem ZG{x:Tr}:Uv x.d=x:=rfl
@[simp]theorem Zy{i:Int}:gA (.int i)=i:=rfl
noncomputable def wy(ws:List Wy)(k:Int):Wy:=(ws[k.toNat]?).getD ⟨0,0,0,0⟩
noncomputable def PK(ws:List Wy)(x:Tr):Prop:=0<=x.w/\x.w<(ws.length:Int)
theorem Gx{ws:List Wy}{k:Int}(h0:0<=k)(h1:k<(ws.length:Int)):at' (ws.map Wy.d) k=some (wy ws k).d/\wy ws k∈ws:=by
 obtain⟨v,h2,h3,h4⟩:=Wk h0 h1;have:wy ws k=v:=by unfold wy;rw[h2];rfl
 rw[this];exact⟨h4,h3⟩
theorem aag{x:Tr}:lV x.d (.int 0)=some (.val (.int x.h)):=by simp[Tr.d]
theorem ZQ{x:Tr}:lV x.d (.int 1)=some (.val (.int x.w)):=by simp[Tr.d]
theorem td_2{x:Tr}:lV x.d (.int 2)=some (.val (.int x.l)):=by simp[Tr.d]
noncomputable def vp(ws:List Wy)(x:Tr):Int:=x.h+(wy ws x.w).h
noncomputable def JQ(ws:List Wy)(p:Int)(P:Int->Bool)(x:Tr):Int:=if(wy ws x.w).t=p/\P (vp ws x)=true then x.l else 0
noncomputable def HS(ws:List Wy)(p:Int)(P:Int->Bool)(x:Tr):Int:=if(wy ws x.w).s=p/\P x.h=true then x.l else 0
noncomputable def Ck(t:Int):Int->Bool:=fun k=>decide (k<=t)
noncomputable def Hy(t:Int):Int->Bool:=fun k=>decide (t<=k)
noncomputable def come(ws:List Wy)(pl:List Tr)(p t:Int):Int:=sm (JQ ws p (Ck t)) pl
noncomputable def left(ws:List Wy)(pl:List Tr)(p t:Int):Int:=sm (HS ws p (Ck t)) pl
noncomputable def stP(ws:List Wy)(pl:List Tr)(p:Int)(P:Int->Bool):Int:=sm (fun x=>JQ ws p P x-HS ws p P x) pl
theorem aaG{ws:List Wy}{pl:List Tr}{p t:Int}:stP ws pl p (Ck t)=come ws pl p t-left ws pl p t:=QW
noncomputable def LS(s:Sl)(ds:List D):Prop:=(∃b,s=.own b ds)\/∃b,s=.val b (.lst ds)
theorem oY{ρ:List Sl}{k:Nat}{s:Sl}{ds:List D}{e:Ev}(h:ρ[k]?=some s)(hs:LS s ds):∃s',srcOf (some k) e ρ=.ok ds (ρ.set k s')/\∀ρ',ρ'[k]?=some s'->bh ρ (some k) ρ'=ρ'.set k s:=by
 have hk:=(List.getElem?_eq_some_iff.mp h).1;rcases hs with⟨b,rfl⟩|⟨b,rfl⟩;.exact⟨.lent ds,by unfold srcOf;simp only[h],fun ρ' _=>by unfold bh;simp only[h]⟩
 . refine⟨.val b (.lst ds),?_,fun ρ' h'=>?_⟩;.unfold srcOf;simp only[h,mD,yS];obtain⟨h1,h2⟩:=List.getElem?_eq_some_iff.mp h;rw[<-h2,List.set_getElem_self]
   .unfold bh;simp only[h];obtain⟨h1,h2⟩:=List.getElem?_eq_some_iff.mp h';rw[<-h2,List.set_getElem_self]
noncomputable def LT(s:Sl)(ds:List D):Prop:=LS s ds\/s=.lent ds
noncomputable def gv{κ:Type}[DecidableEq κ](kvs:List (κ×Int))(k:κ):Int:=((kvs.find? fun kv=>decide (kv.1=k)).map (·.2)).getD 0
noncomputable def Cr{κ:Type}(P:κ->Bool)(kvs:List (κ×Int)):Int:=sm (fun kv=>if P kv.1=true then kv.2 else 0) kvs
section
variable{κ:Type}[DecidableEq κ]
theorem lz{a k:κ}{b:Int}{r:List (κ×Int)}:gv ((a,b)::r) k=if a=k then b else gv r k:=by unfold gv;by_cases h:a=k<;>simp[h]
theorem zO{k:κ}:∀{r:List (κ×Int)},k∉r.map (·.1)->gv r k=0|[],_=>rfl|(a,b)::r,h=>by simp at h;rw[lz,if_neg (fun e=>h.1 e.symm),zO (r:=r) (by simpa using h.2)]
theorem Bl{a k:κ}{b v:Int}{r:List (κ×Int)}(hn:a∉r.map (·.1)):putD ((a,b)::r) k v=if a=k then(a,v)::r else(a,b)::putD r k v:=by
 unfold putD;by_cases h:a=k;.subst h;rw[if_pos (by simp),if_pos rfl];simp;refine(List.map_congr_left (g:=id) fun kv hkv=>?_).trans (by simp);rw[if_neg];rfl;intro e;exact hn (List.mem_map.mpr ⟨kv,hkv,e⟩)
 . rw[if_neg h];by_cases h2:(r.any fun kv=>decide (kv.1=k))=true;.rw[if_pos h2,if_pos (by simp[h2])];simp[h]
   .rw[if_neg h2,if_neg (by simp[h];simpa using h2)];simp
theorem iK{k:κ}{v:Int}:∀{r:List (κ×Int)},(r.map (·.1)).Nodup->((putD r k v).map (·.1)).Nodup/\(putD r k v).length<=r.length+1/\(∀j∈(putD r k v).map (·.1),j=k\/j∈r.map (·.1))/\∀P,Cr P (putD r k v)=Cr P r+if P k=true then v-gv r k else 0
 |[],_=>by simp[putD,Cr,gv]|(a,b)::r,h=>by
   simp only[List.map_cons,List.nodup_cons]at h;obtain⟨i1,i2,i3,i4⟩:=iK (k:=k) (v:=v) (r:=r) h.2;rw[Bl h.1];by_cases e:a=k;.subst e;rw[if_pos rfl];refine⟨by simpa using h,by simp,fun j hj=>.inr (by simpa using hj),fun P=>?_⟩;have:=zO h.1;simp only[Cr,cX,lz,if_true];split<;>omega
   . rw[if_neg e];refine⟨?_,by simp;omega,fun j hj=>?_,fun P=>?_⟩
     . simp only[List.map_cons,List.nodup_cons];refine⟨fun hm=>?_,i1⟩;rcases i3 a hm with z|z;.exact e z
       .exact h.1 z
     . simp only[List.map_cons,List.mem_cons]at hj ⊢;rcases hj with rfl|hj;.exact .inr (.inl rfl)
       . rcases i3 j hj with z|z;.exact .inl z
         .exact .inr (.inr z)
     .have:=i4 P;simp only[Cr,cX,lz,if_neg e]at this ⊢;omega
theorem pA{P:κ->Bool}:∀{r:List (κ×Int)},(r.map (·.1)).Nodup->Cr P r=sm (fun k=>if P k=true then gv r k else 0) (r.map (·.1))|[],_=>rfl|(a,b)::r,h=>by simp only[List.map_cons,List.nodup_cons]at h;have ih:=pA (P:=P) (r:=r) h.2;simp only[Cr,cX,List.map_cons]at ih ⊢;rw[ih,lz,if_pos rfl];congr 1;refine jh fun k hk=>?_;have hne:¬ a=k:=fun e=>h.1 (by rw[e];exact hk);rw[lz,if_neg hne]
end
theorem tR{k:Int}:∀{r:List (Int×Int)},k∈r.map (·.1)->qt (.cD (.k r)) (.int k)=some (.val (.int (gv r k)))
 |[],h=>by simp at h|(a,b)::r,h=>by
   by_cases e:a=k;.simp[qt,Dc.get,gv,e]
   .simp at h;have ih:=tR (k:=k) (r:=r) (by rcases h with h|h;exact absurd h.symm e;simpa using h);simp[qt,Dc.get,gv,e]at ih ⊢;exact ih
end T
end
section
namespace T
open HH
theorem GZ{c:Call}{x:Nat}{k d:P}{ρ:List Sl}:ev c (.Rb x k d) ρ=match ρ[x]?with
 |some (.cM _)=>(bI (isVar k) (ev c k) ρ).bind fun kd ρ=>(bI (isVar d) (ev c d) ρ).bind fun dd ρ=>match ρ[x]?with|some (.cM m)=>lift ((m.get kd).bind fun o=>(dC dd).map fun v=>.val (.int (o.getD v))) ρ|_=>.stuck
 |_=>.stuck:=(rfl)
theorem Kd{c:Call}{n x:Nat}{ρ:List Sl}:ex c n (.qm x false) ρ=match ρ[x]?with|some .au=>.ok .next (ρ.set x (.cM (.k [])))|_=>.stuck:=(rfl)
theorem zm{c:Call}{n x:Nat}{k e:P}{ρ:List Sl}:ex c n (.dput x k e) ρ=(ev c e ρ).bind fun r ρ=>match ρ[x]?with
 |some (.cM _)=>(bI (isVar k) (ev c k) ρ).bind fun kd ρ=>match ρ[x]?,r with
   |some (.cM m),.val (.int v)=>match m.put kd v with|some m'=>.ok .next (ρ.set x (.cM m'))|none=>.stuck
   |_,_=>.stuck
 |_=>.stuck:=(rfl)
@[simp]theorem Rz{x:Nat}{k d:P}:isVar (.Rb x k d)=none:=rfl
@[simp]theorem V8:sr .G8=qt:=rfl
theorem uN{w n:Nat}{m h k:Int}{ws:List Wy}{Q:R->List Sl->Prop}(h0:0<=k)(h1:k<(ws.length:Int))(q:Q (.val (.int (h+(wy ws k).h))) [.val false (ie m ws),.val false (.int h),.val false (.int k)]):(run Γ w (n+1) 0 [.val false (ie m ws),.val false (.int h),.val false (.int k)]).sat Q:=by
 refine bH (d:=f0) rfl rfl (by decide) ?_;first|apply aa|apply aq
 simpa[f0,(Gx h0 h1).1,aab]using q
noncomputable def KP(ws:List Wy)(p:Int)(P:Int->Bool)(x:Tr):Int:=JQ ws p P x-HS ws p P x
inductive JCh(ws:List Wy)(pl:List Tr)(p:Int)(a0 a1 a2:Sl)(r:List D)(ρ:List Sl):Prop where|mk(rest:List Tr)(kvs:List (Int×Int))(s4 s5 s6 s7:Sl)(q0:ρ=[a0,a1,a2,.cM (.k kvs),s4,s5,s6,s7])(q1:A4 (fr s4=true) (fr s5=true) (fr s6=true) (fr s7=true))(q2:r=rest.map Tr.d)(q3:(∀x∈rest,PK ws x))(q4:(kvs.map (·.1)).Nodup)(q5:kvs.length+rest.length<=pl.length)(q6:∀P,Cr P kvs+sm (KP ws p P) rest=sm (KP ws p P) pl)
theorem De{kvs:List (Int×Int)}{i:Int}:(Dc.get (.k kvs) (.int i))=some ((kvs.find? fun kv=>decide (kv.1=i)).map (·.2)):=rfl
theorem Ls{kvs:List (Int×Int)}{i v:Int}(h:kvs.length<lim):Dc.put (.k kvs) (.int i) v=some (.k (putD kvs i v)):=by show(if _ then _ else _)=_;rw[if_pos h]
theorem gH{w n:Nat}{m p:Int}{ws:List Wy}{pl:List Tr}{s1:Sl}{Q:R->List Sl->Prop}(hs:LS s1 (pl.map Tr.d))(hw:∀x∈pl,PK ws x)(hne:∀v∈ws,v.s≠v.t)(hl:pl.length<=1000)(q:∀kvs:List (Int×Int),(kvs.map (·.1)).Nodup->kvs.length<=pl.length->(∀P,Cr P kvs=stP ws pl p P)->Q (.val (.cD (.k kvs))) [.val false (ie m ws),s1,.val false (.int p)]):(run Γ w (n+2) 1 [.val false (ie m ws),s1,.val false (.int p)]).sat Q:=by
 refine bH (d:=f1) rfl rfl (by decide) ?_;first|apply aa|apply aq
 simp[f1,Kd];apply aa;obtain⟨s',e1,e2⟩:=oY (ρ:=[.val false (ie m ws),s1,.val false (.int p),.cM (.k []),.au,.au,.au,.au]) (k:=1) (e:=ev (run Γ w (n+1)) (.var 1)) rfl hs;simp[-jT,-iY,e1];refine cA (JCh ws pl p _ s' _) ?_ ?_ ⟨pl,[],.au,.au,.au,.au,rfl,⟨rfl,rfl,rfl,rfl⟩,rfl,hw,by simp,by simp,fun P=>by simp[Cr]⟩;.rintro d r _⟨rest,kvs,s4,s5,s6,s7,rfl,⟨h4,h5,h6,h7⟩,hr,hi,hn,hk,hd⟩;cases rest with|nil=>cases hr|cons x rest=>
     obtain⟨rfl,rfl⟩:d=x.d/\r=rest.map Tr.d:=by simpa using hr
     have hx:=hi x (by simp);obtain⟨hg,hmem⟩:=Gx hx.1 hx.2;have hne':=hne _ hmem;have hi':∀y∈rest,PK ws y:=fun y hy=>hi y (by simp[hy]);simp at hk;have hlim:kvs.length<lim:=by show _<16777216;omega
     simp[Tr.d,h4,h5,h6];by_cases c1:(wy ws x.w).t=p
     . have c2:(wy ws x.w).s≠p:=fun z=>hne' (z.trans c1.symm);obtain⟨p1,p2,p3,p4⟩:=iK (k:=vp ws x) (v:=gv kvs (vp ws x)+x.l) hn;first|apply aa|apply aq
       simp[hg,Nu,c1];apply aa;simp;refine uN hx.1 hx.2 ?_;simp[h7];apply aa;simp[zm,GZ,De];rw[show(Option.map (fun x=>x.snd) (List.find? (fun kv=>decide (kv.fst=x.h+(wy ws x.w).h)) kvs)).getD 0=gv kvs (vp ws x)from rfl,Ls hlim];simp;apply aa;simp[hg,Ob,c2];refine⟨rest,putD kvs (vp ws x) (gv kvs (vp ws x)+x.l),_,_,_,_,rfl,⟨rfl,rfl,rfl,rfl⟩,rfl,hi',p1,by omega,fun P=>?_⟩;have:=hd P;rw[p4 P];simp only[cX,KP,JQ,HS,c1,c2,true_and,false_and,if_false]at this ⊢;split<;>split at this<;>simp_all<;>omega
     . by_cases c2:(wy ws x.w).s=p
       . obtain⟨p1,p2,p3,p4⟩:=iK (k:=x.h) (v:=gv kvs x.h-x.l) hn;first|apply aa|apply aq
         simp[hg,Nu,c1];apply aa;simp[hg,Ob,c2];apply aa;simp[zm,GZ,De];rw[show(Option.map (fun x=>x.snd) (List.find? (fun kv=>decide (kv.fst=x.h)) kvs)).getD 0=gv kvs x.h from rfl,Ls hlim];simp;refine⟨rest,_,_,_,_,_,rfl,⟨rfl,rfl,rfl,h7⟩,rfl,hi',p1,by omega,fun P=>?_⟩;have:=hd P;rw[p4 P];simp only[cX,KP,JQ,HS,c1,c2,true_and,false_and,if_false]at this ⊢;split<;>split at this<;>simp_all<;>omega
       . first|apply aa|apply aq
         simp[hg,Nu,c1];apply aa;simp[hg,Ob,c2];refine⟨rest,_,_,_,_,_,rfl,⟨rfl,rfl,rfl,h7⟩,rfl,hi',hn,by omega,fun P=>?_⟩;have:=hd P;simp only[cX,KP,JQ,HS,c1,c2,false_and,if_false]at this ⊢;omega
 . rintro _⟨rest,kvs,s4,s5,s6,s7,rfl,_,hr,hi,hn,hk,hd⟩;have hr':rest=[]:=by cases rest with|nil=>rfl|cons _ _=>cases hr
   subst hr';rw[e2 _ rfl];first|apply aa|apply aq
   simp;exact q kvs hn (by simpa using hk) fun P=>by have:=hd P;simp at this;exact this
inductive F5(a0 a1 a2 a3 a4:Sl)(ρ:List Sl):Prop where|mk(s:Sl)(q0:ρ=[a0,a1,a2,a3,a4,s])(q1:fr s=true)
end T
end
section
namespace T
open HH
theorem vM{kvs:List (Int×Int)}:blt .keys [.cD (.k kvs)]=some (.val (.tup ((kvs.map (·.1)).map D.int))):=by show some _=some _;simp
theorem Z3{P:Int->Bool}{kvs:List (Int×Int)}:∀l:List Int,∃ns:List Int,(l.map D.int).filterMap (fun d=>if P (gA d)=true then some (D.int (gv kvs (gA d)))else none)=ns.map D.int/\ns.sum=sm (fun k=>if P k=true then gv kvs k else 0) l
 |[]=>⟨[],rfl,rfl⟩|k::l=>by
   obtain⟨ns,h1,h2⟩:=Z3 (P:=P) (kvs:=kvs) l;by_cases h:P k=true;.exact⟨gv kvs k::ns,by simp[h];simpa using h1,by simp[h,h2]⟩
   .exact⟨ns,by simp[h];simpa using h1,by simp[h,h2]⟩
noncomputable def gK(P:Int->Bool)(kvs:List (Int×Int))(d:D):Option D:=if P (gA d)=true then some (D.int (gv kvs (gA d)))else none
theorem iH{w n:Nat}{m p t:Int}{ws:List Wy}{pl:List Tr}{s1:Sl}{Q:R->List Sl->Prop}(hs:LS s1 (pl.map Tr.d))(hw:∀x∈pl,PK ws x)(hne:∀v∈ws,v.s≠v.t)(hl:pl.length<=1000)(q:Q (.val (.int (stP ws pl p (Ck t)))) [.val false (ie m ws),s1,.val false (.int p),.val false (.int t)]):(run Γ w (n+3) 2 [.val false (ie m ws),s1,.val false (.int p),.val false (.int t)]).sat Q:=by
 refine bH (d:=f2) rfl rfl (by decide) ?_;refine iD (fun ρ=>∃kvs:List (Int×Int),ρ=[.val false (ie m ws),s1,.val false (.int p),.val false (.int t),.val false (.cD (.k kvs))]/\(kvs.map (·.1)).Nodup/\kvs.length<=pl.length/\∀P,Cr P kvs=stP ws pl p P) ?_ ?_
 . rcases hs with⟨b,rfl⟩|⟨b,rfl⟩;.simp[f2];refine gH (.inl ⟨_,rfl⟩) hw hne hl fun kvs h1 h2 h3=>?_;simp;exact⟨h1,h2,h3⟩
   .simp[f2];refine gH (.inr ⟨_,rfl⟩) hw hne hl fun kvs h1 h2 h3=>?_;simp;exact⟨h1,h2,h3⟩
 . rintro _⟨kvs,rfl,h1,h2,h3⟩;first|apply aa|apply aq
   simp[vM];refine⟨fun _=>?_,by show _<=16777216;omega⟩;refine rA (F5 _ _ _ _ _) (gK (Ck t) kvs) ⟨.au,rfl,rfl⟩ ?_ ?_
   . rintro d hd _⟨s,rfl,hs⟩;obtain⟨⟨k,v⟩,hk,rfl⟩:=List.mem_map.mp hd;have hf:=tR (r:=kvs) (k:=k) (List.mem_map.mpr ⟨_,hk,rfl⟩);by_cases c:k<=t;.simp[hs,c,hf,gK,Ck];exact⟨_,rfl,rfl⟩
     .simp[hs,c,gK,Ck];exact⟨_,rfl,rfl⟩
   . rintro _⟨s,rfl,hs⟩;obtain⟨ns,e1,e2⟩:=Z3 (P:=Ck t) (kvs:=kvs) (kvs.map (·.1));rw[List.map_map]at e1;have e3:kvs.filterMap (gK (Ck t) kvs ∘ D.int ∘ fun x=>x.1)=ns.map D.int:=by rw[<-List.filterMap_map];exact e1
     simp[e3];rw[e2,<-pA h1,h3];exact q
end T
end
section
namespace T
open HH
theorem v9{w n:Nat}{m t:Int}{ws:List Wy}{pl:List Tr}{s1:Sl}{Q:R->List Sl->Prop}(hs:LS s1 (pl.map Tr.d))(hw:∀x∈pl,PK ws x)(hne:∀v∈ws,v.s≠v.t)(hl:pl.length<=1000)(q:Q (.val (.int (stP ws pl (m-1) (Ck t)))) [.val false (ie m ws),s1,.val false (.int t)]):(run Γ w (n+4) 3 [.val false (ie m ws),s1,.val false (.int t)]).sat Q:=by
 refine bH (d:=f3) rfl rfl (by decide) ?_;first|apply aa|apply aq
 rcases hs with⟨b,rfl⟩|⟨b,rfl⟩;.simp[f3];refine iH (.inl ⟨_,rfl⟩) hw hne hl ?_;simpa using q
 .simp[f3];refine iH (.inr ⟨_,rfl⟩) hw hne hl ?_;simpa using q
inductive F4(a0 a1 a2 a3:Sl)(ρ:List Sl):Prop where|mk(s:Sl)(q0:ρ=[a0,a1,a2,a3,s])(q1:fr s=true)
theorem Di{w n:Nat}{m t:Int}{ws:List Wy}{pl:List Tr}{s1:Sl}{Q:R->List Sl->Prop}(hs:LS s1 (pl.map Tr.d))(hw:∀x∈pl,PK ws x)(hne:∀v∈ws,v.s≠v.t)(hl:pl.length<=1000)(q:Q (.val (.int (-stP ws pl 0 (Hy t)))) [.val false (ie m ws),s1,.val false (.int t)]):(run Γ w (n+3) 4 [.val false (ie m ws),s1,.val false (.int t)]).sat Q:=by
 refine bH (d:=f4) rfl rfl (by decide) ?_;refine iD (fun ρ=>∃kvs:List (Int×Int),ρ=[.val false (ie m ws),s1,.val false (.int t),.val false (.cD (.k kvs))]/\(kvs.map (·.1)).Nodup/\kvs.length<=pl.length/\∀P,Cr P kvs=stP ws pl 0 P) ?_ ?_
 . rcases hs with⟨b,rfl⟩|⟨b,rfl⟩;.simp[f4];refine gH (.inl ⟨_,rfl⟩) hw hne hl fun kvs h1 h2 h3=>?_;simp;exact⟨h1,h2,h3⟩
   .simp[f4];refine gH (.inr ⟨_,rfl⟩) hw hne hl fun kvs h1 h2 h3=>?_;simp;exact⟨h1,h2,h3⟩
 . rintro _⟨kvs,rfl,h1,h2,h3⟩;first|apply aa|apply aq
   simp[vM];refine⟨fun _=>?_,by show _<=16777216;omega⟩;refine rA (F4 _ _ _ _) (gK (Hy t) kvs) ⟨.au,rfl,rfl⟩ ?_ ?_
   . rintro d hd _⟨s,rfl,hs⟩;obtain⟨⟨k,v⟩,hk,rfl⟩:=List.mem_map.mp hd;have hf:=tR (r:=kvs) (k:=k) (List.mem_map.mpr ⟨_,hk,rfl⟩);by_cases c:t<=k;.simp[hs,c,hf,gK,Hy];exact⟨_,rfl,rfl⟩
     .simp[hs,c,gK,Hy];exact⟨_,rfl,rfl⟩
   . rintro _⟨s,rfl,hs⟩;obtain⟨ns,e1,e2⟩:=Z3 (P:=Hy t) (kvs:=kvs) (kvs.map (·.1));rw[List.map_map]at e1;have e3:kvs.filterMap (gK (Hy t) kvs ∘ D.int ∘ fun x=>x.1)=ns.map D.int:=by rw[<-List.filterMap_map];exact e1
     simp[e3];rw[e2,<-pA h1,h3];exact q
end T
end
section
namespace T
open HH
theorem zK{c:Call}{n x k:Nat}{src elt:P}{is:List Nat}{one:Bool}{ρ:List Sl}:ex c n (.Cd x src k is one elt) ρ=(srcOf (isVar src) (ev c src) ρ).bind fun ds ρ₁=>if ds.length<=lim then(fM is one (ev c elt) ds [] (ρ₁++List.replicate k .au)).bind fun rows ρ₂=>(lift (put (bh ρ (isVar src) (ρ₂.take ρ₁.length)) x (.hold rows)) ρ).bind fun ρ' _=>.ok .next ρ' else .stuck:=(rfl)
theorem kj{c:Call}{n:Nat}{src:P}{is:List Nat}{one:Bool}{body:List S}{ρ:List Sl}:ex c n (.yo src is one body) ρ=(ev c src ρ).bind fun r ρ₁=>(lift (items r.d) ρ₁).bind fun ds ρ₁=>gB is one (eG c n body) ds ρ₁:=(rfl)
theorem xj{c:Call}{n x:Nat}{ρ:List Sl}:ex c n (.fH x) ρ=match ρ[x]?with|some (.hold rows)=>.ok .next (ρ.set x (.val false (.lst (rows.map D.lst))))|_=>.stuck:=(rfl)
theorem Kl{c:Call}{n x:Nat}{i j e:P}{ρ:List Sl}:ex c n (.Ce x i j e) ρ=(ev c e ρ).bind fun r ρ=>(bI (isVar i) (ev c i) ρ).bind fun k ρ=>(lift (fO ρ x k) ρ).bind fun _ ρ=>(bI (isVar j) (ev c j) ρ).bind fun l ρ=>jV ρ x ((cz ρ x).bind fun rows=>(dC k).bind fun k=>(dC l).bind fun l=>cg rows k (setAt l r.d)):=(rfl)
theorem zQ{c:Call}{n x:Nat}{i j e:P}{sub:Bool}{ρ:List Sl}:ex c n (.wF x i j sub e) ρ=(bI (isVar i) (ev c i) ρ).bind fun k ρ=>(lift (fO ρ x k) ρ).bind fun _ ρ=>(bI (isVar j) (ev c j) ρ).bind fun l ρ=>(lift ((fO ρ x k).bind fun row=>(dC l).bind fun l=>(at' row l).bind dC) ρ).bind fun u ρ=>(bI (isVar e) (ev c e) ρ).bind fun w ρ=>(bI (isVar i) (ev c i) ρ).bind fun k ρ=>(lift (fO ρ x k) ρ).bind fun _ ρ=>(bI (isVar j) (ev c j) ρ).bind fun l ρ=>jV ρ x ((cz ρ x).bind fun rows=>(dC w).bind fun v=>(dC k).bind fun k=>(dC l).bind fun l=>cg rows k (setAt l (.int (if sub then u-v else u+v)))):=(rfl)
theorem JD{c:Call}{n x y:Nat}{j k l:P}{ρ:List Sl}:ex c n (.Hd x y j k l) ρ=(lift (cz ρ x) ρ).bind fun rows ρ=>gn x y (bI (isVar j) (ev c j)) (bI (isVar k) (ev c k)) (bI (isVar l) (ev c l)) rows.length 0 ρ:=(rfl)
@[simp]theorem YC{a:Sl}{l:List Sl}{x:Nat}:cz (a::l) x=match(a::l)[x]?with|some (.hold rows)=>some rows|_=>none:=rfl
@[simp]theorem Tj{ρ:List Sl}{x:Nat}{rows:List (List D)}:jV ρ x (some rows)=.ok .next (ρ.set x (.hold rows)):=rfl
@[simp]theorem Zj{a:Sl}{l:List Sl}{x:Nat}{k:Int}:fO (a::l) x (.int k)=match(a::l)[x]?with|some (.hold rows)=>rowAt rows k|_=>none:=by unfold fO cz;cases h:(a::l)[x]?with|none=>rfl|some s=>cases s<;>rfl
theorem jW{is:List Nat}{one:Bool}{elt:Ev}(J:List Sl->Prop)(g:D->List D){Q:List (List D)->List Sl->Prop}:∀{ds:List D}{acc:List (List D)}{ρ:List Sl},J ρ->(∀d,d∈ds->∀ρ,J ρ->∃ρ1,bV ρ is one d=some ρ1/\(elt ρ1).sat fun r ρ3=>r=.own (g d)/\J ρ3)->(∀ρ,J ρ->Q (acc++ds.map g) ρ)->(fM is one elt ds acc ρ).sat Q|[],acc,ρ,j,h,k=>by rw[fM];simpa using k ρ j|d::r,acc,ρ,j,h,k=>by obtain⟨ρ1,e,h1⟩:=h d (by simp) ρ j;rw[fM,e];show((elt ρ1).bind _).sat Q;rw[bL];refine h1.imp fun x ρ3⟨e1,j3⟩=>?_;subst e1;exact jW J g j3 (fun d' hd'=>h d' (by simp[hd'])) fun ρ' j'=>by simpa using k ρ' j'
theorem pQ{x y N:Nat}{ej ek el:List Sl->Res D}(J:Nat->List Sl->Prop){Q:Fl->List Sl->Prop}(h:∀r ρ,r<N->J r ρ->∃ρ1,put ρ y .au=some ρ1/\(rowOne x r ej ek el ρ1).sat fun _ ρ2=>J (r+1) ρ2)(k:∀ρ,J N ρ->Q .next ρ):∀(m r:Nat)(ρ:List Sl),r+m=N->J r ρ->(gn x y ej ek el m r ρ).sat Q|0,r,ρ,e,j=>by rw[gn];exact k ρ (by rw[<-e];exact j)|m+1,r,ρ,e,j=>by obtain⟨ρ1,e1,h1⟩:=h r ρ (by omega) j;rw[gn,e1];show((rowOne x r ej ek el ρ1).bind _).sat Q;rw[bL];exact h1.imp fun _ ρ2 j2=>pQ J h k m (r+1) ρ2 (by omega) j2
noncomputable def bG(L:Nat)(f:Int->Int):List D:=(List.range L).map fun(t:Nat)=>D.int (f (t:Int))
noncomputable def mat(M L:Nat)(F:Int->Int->Int):List (List D):=(List.range M).map fun(p:Nat)=>bG L (F (p:Int))
noncomputable def up(F:Int->Int->Int)(p t v:Int):Int->Int->Int:=fun a b=>if a=p/\b=t then v else F a b
@[simp]theorem uU{L:Nat}{f:Int->Int}:(bG L f).length=L:=by simp[bG]
@[simp]theorem yR{M L:Nat}{F:Int->Int->Int}:(mat M L F).length=M:=by simp[mat]
theorem tO{n:Nat}{i:Int}(h0:0<=i)(h1:i<(n:Int)):lU n i=some i.toNat:=by unfold lU;rw[if_pos h0,if_pos h1]
theorem jg{L:Nat}{f:Int->Int}{t:Int}(h0:0<=t)(h1:t<(L:Int)):at' (bG L f) t=some (.int (f t)):=by
 unfold at';rw[uU,tO h0 h1];have:t.toNat<L:=by omega
 simp[bG,this,Int.toNat_of_nonneg h0]
theorem lA{M L:Nat}{F:Int->Int->Int}{r:Nat}(h:r<M):(mat M L F)[r]?=some (bG L (F (r:Int))):=by simp[mat,h]
theorem sI{M L:Nat}{F:Int->Int->Int}{p:Int}(h0:0<=p)(h1:p<(M:Int)):rowAt (mat M L F) p=some (bG L (F p)):=by unfold rowAt;rw[yR,tO h0 h1];show(mat M L F)[p.toNat]?=_;rw[lA (by omega),Int.toNat_of_nonneg h0]
theorem uP{L:Nat}{f:Int->Int}{t v:Int}(h0:0<=t)(h1:t<(L:Int)):setAt t (.int v) (bG L f)=some (bG L fun b=>if b=t then v else f b):=by
 unfold setAt;rw[uU,tO h0 h1];show some _=some _;congr 1;refine List.ext_getElem (by simp) fun i h2 h3=>?_;simp at h2;rw[List.getElem_set];by_cases e:t.toNat=i
 . rw[if_pos e];have:(i:Int)=t:=by omega
   simp[bG,this]
 . rw[if_neg e];have:¬(i:Int)=t:=by omega
   simp[bG,this]
theorem yJ{M L:Nat}{F:Int->Int->Int}{p:Int}{r:Nat}{t v:Int}(hr:r<M)(hp:(r:Int)=p):(mat M L F).set r (bG L fun b=>if b=t then v else F p b)=mat M L (up F p t v):=by
 refine List.ext_getElem (by simp) fun i h2 h3=>?_;simp at h2;rw[List.getElem_set];by_cases e:r=i;.rw[if_pos e];subst e;simp[mat,hp];congr 1;funext b;simp[up]
 . rw[if_neg e];have:¬(i:Int)=p:=by omega
   simp[mat];congr 1;funext b;simp[up,this]
theorem sY{M L:Nat}{F:Int->Int->Int}{p t v:Int}(h0:0<=p)(h1:p<(M:Int))(h2:0<=t)(h3:t<(L:Int)):cg (mat M L F) p (setAt t (.int v))=some (mat M L (up F p t v)):=by unfold cg;rw[yR,tO h0 h1];show((mat M L F)[p.toNat]?).bind _=_;rw[lA (by omega),Int.toNat_of_nonneg h0];show((setAt t (.int v) (bG L (F p))).map _)=_;rw[uP h2 h3];show some ((mat M L F).set p.toNat _)=_;rw[yJ (by omega) (by omega)]
theorem qT{M L:Nat}{a:List D}(ha:a.length=M){f:Int->Int}:a.map (fun _=>bG L f)=mat M L fun _=>f:=by subst ha;refine List.ext_getElem (by simp) fun i h2 h3=>by simp[mat]
noncomputable def bd(l:List S)(k:Nat):List S:=l.drop k
theorem zR{l:List S}{k:Nat}{s:S}(h:l[k]?=some s):bd l k=s::bd l (k+1):=by obtain⟨h1,h2⟩:=List.getElem?_eq_some_iff.mp h;unfold bd;rw[List.drop_eq_getElem_cons h1,h2]
theorem aO{c:Call}{n:Nat}{l:List S}{s:S}{k:Nat}{ρ:List Sl}{Q:Fl->List Sl->Prop}(h:l[k]?=some s)(q:(ex c n s ρ).sat (sQ c n (bd l (k+1)) Q)):(eG c n (bd l k) ρ).sat Q:=by rw[zR h];exact aa q
theorem jm{c:Call}{n:Nat}{l:List S}{s:S}{k:Nat}{ρ:List Sl}{Q:Fl->List Sl->Prop}(h:l[k]?=some s)(M:List Sl->Prop)(q:(ex c n s ρ).sat fun fl ρ'=>fl=.next/\M ρ')(kk:∀ρ',M ρ'->(eG c n (bd l (k+1)) ρ').sat Q):(eG c n (bd l k) ρ).sat Q:=by rw[zR h];exact iD M q kk
end T
end
section
namespace T
open HH
noncomputable def toW(v:bf):Wy:=⟨v.s,v.t,0,v.h⟩
noncomputable def rd(vs:List bf)(k:Int):bf:=(vs[k.toNat]?).getD ⟨0,0,0⟩
theorem jk{vs:List bf}{k:Int}(h0:0<=k)(h1:k<(vs.length:Int)):at' (vs.map bf.d) k=some (rd vs k).d/\rd vs k∈vs:=by
 have hk:k.toNat<vs.length:=by omega
 have:rd vs k=vs[k.toNat]:=by unfold rd;simp[hk]
 rw[this];refine⟨?_,List.getElem_mem hk⟩;rw[jZ h0 (by simpa using h1)];simp[hk]
theorem T9{v:bf}:lV v.d (.int 0)=some (.val (.int v.s)):=by simp[bf.d]
theorem Ia{v:bf}:lV v.d (.int 1)=some (.val (.int v.t)):=by simp[bf.d]
theorem Hs{v:bf}:lV v.d (.int 2)=some (.val (.int v.h)):=by simp[bf.d]
structure gj(vs:List bf)(T:Int)(x:Tr):Prop where
 h0:0<=x.h
 w0:0<=x.w
 w1:x.w<(vs.length:Int)o1:x.h+(rd vs x.w).h<=T
noncomputable def dl(vs:List bf)(p t:Int)(x:Tr):Int:=(if(rd vs x.w).t=p/\x.h+(rd vs x.w).h=t then x.l else 0)-(if(rd vs x.w).s=p/\x.h=t then x.l else 0)
noncomputable def iR(vs:List bf)(pl:List Tr)(p t:Int):Int:=sm (fun x=>(if(rd vs x.w).t=p/\x.h+(rd vs x.w).h<=t then x.l else 0)-(if(rd vs x.w).s=p/\x.h<=t then x.l else 0)) pl
theorem Dm{vs:List bf}{pl:List Tr}{p t:Int}:iR vs pl p (t+1)=iR vs pl p t+sm (dl vs p (t+1)) pl:=by
 unfold iR;rw[<-QF];refine jh fun x _=>?_;unfold dl;repeat' split
 all_goals omega
theorem Fj{vs:List bf}{pl:List Tr}{p T:Int}(h:∀x∈pl,gj vs T x)(hv:∀v∈vs,1<=v.h):iR vs pl p 0=sm (dl vs p 0) pl:=by
 unfold iR;refine jh fun x hx=>?_;have f:=h x hx;have h1:=f.h0;have h2:=hv _ (jk f.w0 f.w1).2;unfold dl;repeat' split
 all_goals omega
noncomputable def WS(s:Sl)(vs:List bf):Prop:=(∃b,s=.own b (vs.map bf.d))\/∃b,s=.val b (.tup (vs.map bf.d))
noncomputable def wU:Sl->Sl|.own b ds=>.val b (.lst ds)|s=>s
theorem WS.pk{s:Sl}{vs:List bf}(h:WS s vs){ρ:List Sl}{k:Nat}(e:ρ[k]?=some s):∃d,pk ρ k=some d/\items d=some (vs.map bf.d):=by
 rcases h with⟨b,rfl⟩|⟨b,rfl⟩;.exact⟨_,by unfold HH.pk;rw[e],rfl⟩
 .exact⟨_,by unfold HH.pk;rw[e],rfl⟩
inductive Jx(l:List Sl)(ρ:List Sl):Prop where|mk(s:Sl)(q0:ρ=l++[s])(q1:fr s=true)
theorem zf{ds:List D}{k:Int}(h:0<=k)(h0:0<ds.length)(h1:ds.length*k.toNat<=lim):mZ (.lst ds) (.int k)=some (.own (List.replicate k.toNat ds).flatten):=by show(if _ then _ else _)=_;rw[if_pos ⟨h,h0,h1⟩]
inductive JS1(vs:List bf)(M L:Nat)(pl:List Tr)(a0 a1 s2 p3 eO:Sl)(r:List D)(ρ:List Sl):Prop where|mk(done rest:List Tr)(F:Int->Int->Int)(s5 s6 s7 s8 s9 eV:Sl)(q0:ρ=[a0,a1,s2,p3,.hold (mat M L F),s5,s6,s7,s8,s9,eV,eO])(q1:A6 (fr s5=true) (fr s6=true) (fr s7=true) (fr s8=true) (fr s9=true) (fr eV=true))(q2:r=rest.map Tr.d)(q3:pl=done++rest)(q4:∀p t,F p t=sm (dl vs p t) done)
inductive JS2(vs:List bf)(M L:Nat)(pl:List Tr)(a0 a1 s2 p3 s6 s7 s8 s9 eV:Sl)(i:Nat)(ρ:List Sl):Prop where|mk(F:Int->Int->Int)(s5 eO:Sl)(q0:ρ=[a0,a1,s2,p3,.hold (mat M L F),s5,s6,s7,s8,s9,eV,eO])(q1:(fr s5=true/\fr eO=true))(q2:∀p t,0<=p->p<(M:Int)->0<=t->F p t=if t<=(i:Int)then iR vs pl p t else sm (dl vs p t) pl)
inductive JS3(vs:List bf)(M L:Nat)(pl:List Tr)(i:Nat)(a0 a1 s2 p3 s5 s6 s7 s8 s9 eV:Sl)(r:Nat)(ρ:List Sl):Prop where|mk(F:Int->Int->Int)(eO:Sl)(q0:ρ=[a0,a1,s2,p3,.hold (mat M L F),s5,s6,s7,s8,s9,eV,eO])(q1:fr eO=true)(q2:∀p t,0<=p->p<(M:Int)->0<=t->F p t=if t<=(i:Int)\/(t=(i:Int)+1/\p<(r:Int))then iR vs pl p t else sm (dl vs p t) pl)
theorem iy{w n:Nat}{m T:Int}{vs:List bf}{pl:List Tr}{s2 s3:Sl}{Q:R->List Sl->Prop}(hs2:WS s2 vs)(hs3:LS s3 (pl.map Tr.d))(m0:2<=m)(m1:m<=6)(t0:0<=T)(t1:T<=12)(hv:∀v∈vs,v.Ok m)(hf:∀x∈pl,gj vs T x)(q:Q (.val (.lst ((mat m.toNat (T+1).toNat (iR vs pl)).map D.lst))) [.val false (.int m),.val false (.int T),s2,wU s3]):(run Γ w (n+1) 15 [.val false (.int m),.val false (.int T),s2,s3]).sat Q:=by
 refine bH (d:=YF) rfl rfl (by decide) ?_;have hM:(m.toNat:Int)=m:=by omega
 have hL:((T+1).toNat:Int)=T+1:=by omega
 generalize m.toNat=M at*;generalize Ri:(T+1).toNat=L at*;refine iD (fun ρ=>ρ=[.val false (.int m),.val false (.int T),s2,s3,.hold (mat M L fun _ _=>0),.au,.au,.au,.au,.au,.au,.au]) ?_ ?_
 . simp[YF,zK,show m<=1000000000 by omega,show-1000000000<=m by omega];refine⟨fun _=>?_,by omega⟩;rw[bL];refine jW (Jx [.val false (.int m),.val false (.int T),s2,s3,.au,.au,.au,.au,.au,.au,.au,.au]) (fun _=>bG L fun _=>0) ⟨.au,rfl,rfl⟩ ?_ ?_;.rintro d hd _⟨s,rfl,hs⟩;simp[hs,show 0<=T+1 by omega,show T+1<=16777216 by omega,zf];refine⟨?_,⟨_,rfl,rfl⟩⟩;rw[Ri];unfold bG;rw[List.map_const',List.length_range]
   .rintro _⟨s,rfl,hs⟩;rw[List.nil_append,qT (M:=M) (by simp;omega)];simp
 . rintro _ rfl;refine iD (fun ρ=>∃(F:Int->Int->Int)(s5 s6 s7 s8 s9 eV:Sl),ρ=[.val false (.int m),.val false (.int T),s2,wU s3,.hold (mat M L F),s5,s6,s7,s8,s9,eV,.au]/\(fr s5=true/\fr s6=true/\fr s7=true/\fr s8=true/\fr s9=true/\fr eV=true)/\∀p t,F p t=sm (dl vs p t) pl) ?_ ?_
   . have key:∀p3,(gB [5,6,7] false (eG (run Γ w n) w [.Mv [8,9,10] (.idx (.var 2) (.var 6)),.wF 4 (.var 8) (.var 5) true (.var 7),.wF 4 (.var 9) (.bin .add (.var 5) (.var 10)) false (.var 7)]) (pl.map Tr.d) [.val false (.int m),.val false (.int T),s2,p3,.hold (mat M L fun _ _=>0),.au,.au,.au,.au,.au,.au,.au]).sat (fun fl ρ=>fl=.next/\∃(F:Int->Int->Int)(s5 s6 s7 s8 s9 eV:Sl),ρ=[.val false (.int m),.val false (.int T),s2,p3,.hold (mat M L F),s5,s6,s7,s8,s9,eV,.au]/\(fr s5=true/\fr s6=true/\fr s7=true/\fr s8=true/\fr s9=true/\fr eV=true)/\∀p t,F p t=sm (dl vs p t) pl):=by
      intro p3;refine cA (JS1 vs M L pl _ _ s2 p3 _) ?_ ?_ ⟨[],pl,_,.au,.au,.au,.au,.au,.au,rfl,⟨rfl,rfl,rfl,rfl,rfl,rfl⟩,rfl,rfl,fun _ _=>rfl⟩;.rintro d r _⟨done,rest,F,s5,s6,s7,s8,s9,eV,rfl,⟨h5,h6,h7,h8,h9,h10⟩,hr,hpl,hF⟩;cases rest with|nil=>cases hr|cons x rest=>
          obtain⟨rfl,rfl⟩:d=x.d/\r=rest.map Tr.d:=by simpa using hr
          have fx:=hf x (by rw[hpl];simp);obtain⟨hg,hmem⟩:=jk fx.w0 fx.w1;have ok:=hv _ hmem;obtain⟨d2,e2,i2⟩:=hs2.pk (ρ:=[.val false (.int m),.val false (.int T),s2,p3,.hold (mat M L F),.val false (.int x.h),.val false (.int x.w),.val false (.int x.l),s8,s9,eV,.au]) (k:=2) rfl;have h0:=fx.h0;have o1:=fx.o1;have:=ok.s0;have:=ok.s1;have:=ok.t0;have:=ok.t1;have:=ok.h0;have:=ok.ne;simp[Tr.d,h5,h6,h7];apply aa;simp[e2,i2,lV,hg];generalize hvv:rd vs x.w=v at*;simp[bf.d,h8,h9,h10];have r1:rowAt (mat M L F) v.s=some (bG L (F v.s)):=sI (by omega) (by omega);have r2:at' (bG L (F v.s)) x.h=some (.int (F v.s x.h)):=jg (by omega) (by omega);have r3:cg (mat M L F) v.s (setAt x.h (.int (F v.s x.h-x.l)))=some (mat M L (up F v.s x.h (F v.s x.h-x.l))):=sY (by omega) (by omega) (by omega) (by omega);first|apply aa|apply aq
          simp[zQ,r1,r2,r3];have hG:∀p t,up F v.s x.h (F v.s x.h-x.l) p t=F p t-if v.s=p/\x.h=t then x.l else 0:=fun p t=>by
           unfold up;by_cases c:p=v.s/\t=x.h;.obtain⟨rfl,rfl⟩:=c;simp
           .rw[if_neg c,if_neg (fun z=>c ⟨z.1.symm,z.2.symm⟩)];omega
          generalize up F v.s x.h (F v.s x.h-x.l)=G at*;have r4:rowAt (mat M L G) v.t=some (bG L (G v.t)):=sI (by omega) (by omega);have r5:at' (bG L (G v.t)) (x.h+v.h)=some (.int (G v.t (x.h+v.h))):=jg (by omega) (by omega);have r6:cg (mat M L G) v.t (setAt (x.h+v.h) (.int (G v.t (x.h+v.h)+x.l)))=some (mat M L (up G v.t (x.h+v.h) (G v.t (x.h+v.h)+x.l))):=sY (by omega) (by omega) (by omega) (by omega);first|apply aa|apply aq
          simp[zQ,r4,r5,r6];refine⟨done++[x],rest,_,_,_,_,_,_,_,rfl,⟨rfl,rfl,rfl,rfl,rfl,rfl⟩,rfl,by rw[hpl];simp,fun p t=>?_⟩;rw[Gp,cX,FP,<-hF];unfold up dl;rw[hvv];have:=hG p t;by_cases c:p=v.t/\t=x.h+v.h;.obtain⟨rfl,rfl⟩:=c;rw[if_pos ⟨rfl,rfl⟩,if_pos ⟨rfl,rfl⟩];omega
          .rw[if_neg c,if_neg (fun z=>c ⟨z.1.symm,z.2.symm⟩)];omega
      . rintro _⟨done,rest,F,s5,s6,s7,s8,s9,eV,rfl,⟨h5,h6,h7,h8,h9,h10⟩,hr,hpl,hF⟩;have hr':rest=[]:=by cases rest with|nil=>rfl|cons _ _=>cases hr
        subst hr';rw[List.append_nil]at hpl;subst hpl;exact⟨rfl,F,s5,s6,s7,s8,s9,eV,rfl,⟨h5,h6,h7,h8,h9,h10⟩,hF⟩
     rcases hs3 with⟨b,rfl⟩|⟨b,rfl⟩;.simp[kj];exact key _
     .simp[kj];exact key _
   . rintro _⟨F,s5,s6,s7,s8,s9,eV,rfl,⟨h5,h6,h7,h8,h9,h10⟩,hF⟩;refine iD (fun ρ=>∃(F:Int->Int->Int)(s5 eO:Sl),ρ=[.val false (.int m),.val false (.int T),s2,wU s3,.hold (mat M L F),s5,s6,s7,s8,s9,eV,eO]/\∀p t,0<=p->p<(M:Int)->0<=t->t<=T->F p t=iR vs pl p t) ?_ ?_
     . simp[kj,show T+1<=1000000000 by omega,show-1000000000<=T+1 by omega];refine dF (JS2 vs M L pl _ _ s2 (wU s3) s6 s7 s8 s9 eV) ?_ ?_ ⟨F,s5,.au,rfl,⟨h5,rfl⟩,fun p t p0 p1 ht=>?_⟩
       . rintro i _ hi⟨F,s5,eO,rfl,⟨h5,h11⟩,hF⟩;simp[h5];apply aa;simp[JD];refine pQ (N:=M) (JS3 vs M L pl i _ _ s2 (wU s3) (.val false (.int (1+(i:Int)))) s6 s7 s8 s9 eV) ?_ ?_ M 0 _ (by omega) ⟨F,eO,rfl,h11,fun p t p0 p1 ht=>?_⟩
         . rintro r _ hr⟨F,eO,rfl,h11,hF⟩;have r1:at' (bG L (F r)) (1+(i:Int))=some (.int (F r (1+(i:Int)))):=jg (by omega) (by omega);have r2:at' (bG L (F r)) (1+(i:Int)-1)=some (.int (F r (1+(i:Int)-1))):=jg (by omega) (by omega);have r3:=uP (L:=L) (f:=F r) (t:=1+(i:Int)) (v:=F r (1+(i:Int))+F r (1+(i:Int)-1)) (by omega) (by omega);have e1:=hF r (1+(i:Int)) (by omega) (by omega) (by omega);have e2:=hF r (1+(i:Int)-1) (by omega) (by omega) (by omega);rw[if_neg (by omega)]at e1;rw[if_pos (by omega)]at e2;have e3:=Dm (vs:=vs) (pl:=pl) (p:=r) (t:=(i:Int));rw[show 1+(i:Int)-1=(i:Int)by omega]at e2;rw[show 1+(i:Int)=(i:Int)+1 by omega]at e1;simp[h11,rowOne,lA hr,r1,r2,r3,yJ hr rfl];refine⟨_,_,rfl,rfl,fun p t p0 p1 ht=>?_⟩;unfold up;by_cases c:p=(r:Int)/\t=1+(i:Int);.obtain⟨rfl,rfl⟩:=c;rw[if_pos ⟨rfl,rfl⟩,if_pos (by omega),show 1+(i:Int)-1=(i:Int)by omega,show 1+(i:Int)=(i:Int)+1 by omega];omega
           . rw[if_neg c,hF p t p0 p1 ht];by_cases c2:t<=(i:Int)\/t=(i:Int)+1/\p<(r:Int);.rw[if_pos c2,if_pos (by omega)]
             .rw[if_neg c2,if_neg (by omega)]
         . rintro _⟨F,eO,rfl,h11,hF⟩;simp;refine⟨F,_,eO,rfl,⟨rfl,h11⟩,fun p t p0 p1 ht=>?_⟩;rw[hF p t p0 p1 ht];by_cases c:t<=(i:Int)+1;.rw[if_pos (by omega),if_pos (by omega)]
           .rw[if_neg (by omega),if_neg (by omega)]
         . rw[hF p t p0 p1 ht];by_cases c:t<=(i:Int);.rw[if_pos c,if_pos (.inl c)]
           .rw[if_neg c,if_neg (by omega)]
       .rintro _⟨F,s5,eO,rfl,_,hF⟩;exact⟨rfl,F,⟨s5,eO,rfl⟩,fun p t p0 p1 ht h2=>by rw[hF p t p0 p1 ht,if_pos (by omega)]⟩
       . rw[hF];by_cases c:t<=((0:Nat):Int)
         . have:t=0:=by omega
           subst this;rw[if_pos c,Fj hf fun v h=>(hv v h).h0]
         .rw[if_neg c]
     . rintro _⟨F,s5,eO,rfl,hF⟩;have e:mat M L F=mat M L (iR vs pl):=by unfold mat bG;refine List.map_congr_left fun p hp=>List.map_congr_left fun t ht=>?_;simp at hp ht;rw[hF p t (by omega) (by omega) (by omega) (by omega)]
       rw[e];first|apply aa|apply aq
       simp[xj];apply aa;simp;exact q
end T
end
section
namespace T
open HH
noncomputable def qi(vs:List bf)(T:Int)(p:Int×Int):Prop:=0<=p.1/\0<=p.2/\p.2<(vs.length:Int)/\p.1+(rd vs p.2).h<=T
theorem Gm{vs:List bf}{T h:Int}:∀{xs:List D},(∀x∈xs,∃k:Int,x=D.int k/\qi vs T (h,k))->∃ks:List Int,xs=ks.map D.int/\∀k∈ks,qi vs T (h,k)|[],_=>⟨[],rfl,by simp⟩|x::xs,h=>by obtain⟨v,rfl,h1⟩:=h x (by simp);obtain⟨ws,rfl,h2⟩:=Gm (xs:=xs) fun y hy=>h y (by simp[hy]);exact⟨v::ws,rfl,fun u hu=>by
    rcases List.mem_cons.mp hu with rfl|hu;.exact h1
    .exact h2 u hu⟩
theorem WS.ix{s:Sl}{vs:List bf}(h:WS s vs){ρ:List Sl}{k:Nat}{i:Int}(e:ρ[k]?=some s)(h0:0<=i)(h1:i<(vs.length:Int)):∃d,HH.pk ρ k=some d/\lV d (.int i)=some (.val (rd vs i).d):=by obtain⟨d,e1,e2⟩:=h.pk e;exact⟨d,e1,by simp[lV,e2,(jk h0 h1).1]⟩
theorem WS.len{s:Sl}{vs:List bf}(h:WS s vs){ρ:List Sl}{k:Nat}(e:ρ[k]?=some s):∃d,HH.pk ρ k=some d/\blt .len [d]=some (.val (.int (vs.length:Int))):=by obtain⟨d,e1,e2⟩:=h.pk e;exact⟨d,e1,by show(items d).map (fun ds=>R.val (.int ds.length))=_;rw[e2];simp⟩
inductive JRt(y T:Int)(vs:List bf)(a1 a2 s3:Sl)(i:Nat)(ρ:List Sl):Prop where|mk(x z place hour:Int)(ps:List (Int×Int))(s7 s8 s9:Sl)(q0:ρ=[.own true [.int x,.int y,.int z],a1,a2,s3,.val false (.int place),.val false (.int hour),.own false (ps.map qe),s7,s8,s9])(q1:A3 (fr s7=true) (fr s8=true) (fr s9=true))(q2:0<=hour)(q3:hour<=T)(q4:(∀p∈ps,qi vs T p))(q5:ps.length<=i)
inductive MRt(y T:Int)(vs:List bf)(a1 a2 s3:Sl)(ρ:List Sl):Prop where|mk(x z place hour:Int)(ps:List (Int×Int))(s7 s8 s9:Sl)(q0:ρ=[.own true [.int x,.int y,.int z],a1,a2,s3,.val false (.int place),.val false (.int hour),.own false (ps.map qe),s7,s8,s9])(q1:(∀p∈ps,qi vs T p))(q2:ps.length<=8)
theorem Be{w n:Nat}{x y z m T:Int}{vs:List bf}{s3:Sl}{Q:R->List Sl->Prop}(hs3:WS s3 vs)(hl:vs.length<=12)(t0:0<=T)(t1:T<=12)(hv:∀v∈vs,v.Ok m)(k:∀(ps:List (Int×Int))(x z:Int),(∀p∈ps,qi vs T p)->ps.length<=8->Q (.own (ps.map qe)) [.own true [.int x,.int y,.int z],.val false (.int m),.val false (.int T),s3]):(run Γ w (n+2) 13 [.own true [.int x,.int y,.int z],.val false (.int m),.val false (.int T),s3]).sat Q:=by
 have hlim:vs.length<=lim:=by show _<=16777216;omega
 refine bH (d:=Yq) rfl rfl (by decide) ?_;refine aO (l:=M9) (k:=0) rfl ?_;simp[Yq];refine aO (l:=M9) (k:=1) rfl ?_;simp;refine aV (by omega) (mH (by omega)) fun h x z h0 h1=>?_;simp;refine aO (l:=M9) (k:=2) rfl ?_;simp;refine jm (l:=M9) (k:=3) rfl (MRt y T vs (.val false (.int m)) (.val false (.int T)) s3) ?_ ?_
 . simp;refine dF (JRt y T vs _ _ s3) ?_ ?_ ⟨x,z,0,h,[],.au,.au,.au,rfl,⟨rfl,rfl,rfl⟩,h0,by omega,by simp,by simp⟩
   . rintro i _ hi⟨x,z,place,hour,ps,s7,s8,s9,rfl,⟨h7,h8,h9⟩,r0,r1,hp,hpl⟩;obtain⟨d0,el,ll⟩:=hs3.len (ρ:=[.own true [.int x,.int y,.int z],.val false (.int m),.val false (.int T),s3,.val false (.int place),.val false (.int hour),.own false (ps.map qe),.val false (.int i),s8,s9]) (k:=3) rfl;simp[h7];apply aa;simp[el,ll,show(vs.length:Int)<=1000000000 by omega,hlim];refine rK (Jx [.own true [.int x,.int y,.int z],.val false (.int m),.val false (.int T),s3,.val false (.int place),.val false (.int hour),.own false (ps.map qe),.val false (.int i),s8,s9]) (fun d=>∃k:Int,d=D.int k/\qi vs T (hour,k)) ⟨.au,rfl,rfl⟩ ?_ ?_
     . rintro d hd _⟨s,rfl,hs⟩;obtain⟨j,hj,rfl⟩:=List.mem_map.mp hd;simp at hj;obtain⟨d1,e1,i1⟩:=hs3.ix (ρ:=[.own true [.int x,.int y,.int z],.val false (.int m),.val false (.int T),s3,.val false (.int place),.val false (.int hour),.own false (ps.map qe),.val false (.int i),s8,s9,.val false (.int (j:Int))]) (k:=3) (i:=(j:Int)) rfl (by omega) (by omega);have jx:Jx [.own true [.int x,.int y,.int z],.val false (.int m),.val false (.int T),s3,.val false (.int place),.val false (.int hour),.own false (ps.map qe),.val false (.int i),s8,s9] [.own true [.int x,.int y,.int z],.val false (.int m),.val false (.int T),s3,.val false (.int place),.val false (.int hour),.own false (ps.map qe),.val false (.int i),s8,s9,.val false (.int (j:Int))]:=⟨_,rfl,rfl⟩;simp[hs,e1,i1,T9,Ia,Hs];refine⟨fun _=>⟨fun _=>?_,fun _=>jx⟩,fun _=>jx⟩;split;.rename_i c;exact⟨⟨r0,by show(0:Int)<=(j:Int);omega,by show(j:Int)<_;omega,c⟩,jx⟩
       .exact jx
     . rintro xs _⟨s,rfl,hs⟩hxl hx;obtain⟨ks,rfl,hk⟩:=Gm hx;simp[h8];apply aa;simp[Jh];refine⟨fun _=>?_,fun _=>⟨fun _=>?_,fun hne=>?_⟩⟩
       . first|apply aa|apply aq
         simp;exact⟨x,z,place,hour,ps,_,_,_,rfl,hp,by omega⟩
       . first|apply aa|apply aq
         simp;exact⟨x,z,place,hour,ps,_,_,_,rfl,hp,by omega⟩
       have hk0:0<(ks.length:Int):=by cases ks with|nil=>exact absurd rfl hne|cons a l=>simp<;>omega
       have hk1:(ks.length:Int)<=12:=by simp at hxl;omega
       first|apply aa|apply aq
       simp;refine aV (by omega) (mH (by omega)) fun d x z d0 d1=>?_;have hdn:d.toNat<ks.length:=by omega
       have hat:at' (ks.map D.int) d=some (.int ks[d.toNat]):=by rw[jZ d0 (by simpa using d1)];simp[hdn]
       have hfit:=hk _ (List.getElem_mem hdn);generalize ks[d.toNat]=k1 at hat hfit;obtain⟨f1,f2,f3,f4⟩:=hfit;simp[hat,h9];apply aa;simp[show ps.length<lim by show _<16777216;omega];obtain⟨d1,e1,i1⟩:=hs3.ix (ρ:=[.own true [.int x,.int y,.int z],.val false (.int m),.val false (.int T),s3,.val false (.int place),.val false (.int hour),.own false (ps.map qe++[.tup [.int hour,.int k1]]),.val false (.int i),.own false (ks.map D.int),.val false (.int k1)]) (k:=3) (i:=k1) rfl f2 f3;first|apply aa|apply aq
       simp[e1,i1,Ia];obtain⟨d2,e2,i2⟩:=hs3.ix (ρ:=[.own true [.int x,.int y,.int z],.val false (.int m),.val false (.int T),s3,.val false (.int (rd vs k1).t),.val false (.int hour),.own false (ps.map qe++[.tup [.int hour,.int k1]]),.val false (.int i),.own false (ks.map D.int),.val false (.int k1)]) (k:=3) (i:=k1) rfl f2 f3;first|apply aa|apply aq
       simp[e2,i2,Hs];refine aV (by decide) (by decide) fun e x z e0 e1=>?_;obtain⟨hg,he,g0,g1⟩:=qN (ns:=[0,0,0,1,2]) (lo:=0) (hi:=2) e0 (by simpa using e1) (by simp);simp only[List.map_cons,List.map_nil]at he;simp[he];have ok:(rd vs k1).Ok m:=hv _ (jk f2 f3).2;have:=ok.h0;refine⟨x,z,_,_,ps++[(hour,k1)],_,_,_,by rw[List.map_append];rfl,⟨rfl,rfl,rfl⟩,?_,?_,fun p hp'=>?_,by simp;omega⟩;.split<;>omega
       .split<;>omega
       . rcases List.mem_append.mp hp' with hp'|hp';.exact hp p hp'
         .rw[List.mem_singleton.mp hp'];exact⟨f1,f2,f3,f4⟩
   .rintro _⟨x,z,place,hour,ps,s7,s8,s9,rfl,_,r0,r1,hp,hpl⟩;exact⟨rfl,x,z,place,hour,ps,s7,s8,s9,rfl,hp,hpl⟩
 . rintro _⟨x,z,place,hour,ps,s7,s8,s9,rfl,hp,hpl⟩;refine aO (l:=M9) (k:=4) rfl ?_;simp;refine⟨fun _=>?_,fun _=>?_⟩
   . first|apply aa|apply aq
     simp;exact k [] x z (by simp) (by simp)
   .refine aO (l:=M9) (k:=5) rfl ?_;simp;exact k ps x z hp hpl
end T
end
section
namespace T
open HH
@[simp]theorem Yl{c:Call}{x:Nat}{ks:List P}{d:P}{ρ:List Sl}:ev c (.wD x ks d) ρ=match ρ[x]?with
 |some (.cM _)=>(evs c ks ρ).bind fun mW ρ=>(bI (isVar d) (ev c d) ρ).bind fun dd ρ=>match ρ[x]?with|some (.cM m)=>lift ((m.vm mW).bind fun o=>(dC dd).map fun v=>.val (.int (o.getD v))) ρ|_=>.stuck
 |_=>.stuck:=(rfl)
theorem O4{c:Call}{x:Nat}{ks:List P}{ρ:List Sl}:ev c (.Kz x ks) ρ=(lift (pk ρ x) ρ).bind fun _ ρ=>(evs c ks ρ).bind fun mW ρ=>(lift (pk ρ x) ρ).bind fun dd ρ=>lift (Ac dd mW) ρ:=(rfl)
theorem K3{c:Call}{x:Nat}{ρ:List Sl}:ev c (.vw x) ρ=match ρ[x]?with|some (.cM m)=>.ok (.val (.cD m)) (ρ.set x (.val false (.cD m)))|_=>.stuck:=(rfl)
theorem pI{c:Call}{n x:Nat}{ρ:List Sl}:ex c n (.qm x true) ρ=match ρ[x]?with|some .au=>.ok .next (ρ.set x (.cM (.t [])))|_=>.stuck:=(rfl)
theorem pP{c:Call}{n x:Nat}{ks:List P}{e:P}{ρ:List Sl}:ex c n (.lM x ks e) ρ=(ev c e ρ).bind fun r ρ=>match ρ[x]?with
 |some (.cM _)=>(evs c ks ρ).bind fun mW ρ=>match ρ[x]?,r with
   |some (.cM m),.val (.int v)=>match m.JC mW v with|some m'=>.ok .next (ρ.set x (.cM m'))|none=>.stuck
   |_,_=>.stuck
 |_=>.stuck:=(rfl)
@[simp]theorem Qh{x:Nat}{ks:List P}{d:P}:isVar (.wD x ks d)=none:=rfl
@[simp]theorem RQ{x:Nat}{ks:List P}:isVar (.Kz x ks)=none:=rfl
@[simp]theorem Vu{x:Nat}:isVar (.vw x)=none:=rfl
@[simp]theorem JB{kvs:List (List Int×Int)}{a b:Int}:Dc.vm (.t kvs) [.int a,.int b]=some ((kvs.find? fun kv=>decide (kv.1=[a,b])).map (·.2)):=rfl
theorem yc{kvs:List (List Int×Int)}{a b v:Int}(h:kvs.length<lim):Dc.JC (.t kvs) [.int a,.int b] v=some (.t (putD kvs [a,b] v)):=by show(if _ then _ else _)=_;rw[if_pos ⟨rfl,h⟩];rfl
theorem vC{k:List Int}:∀{r:List (List Int×Int)},k∈r.map (·.1)->(r.find? fun kv=>decide (kv.1=k)).map (·.2)=some (gv r k)
 |[],h=>by simp at h|(a,b)::r,h=>by
   by_cases e:a=k;.simp[gv,e]
   .simp at h;have ih:=vC (k:=k) (r:=r) (by rcases h with h|h;exact absurd h.symm e;simpa using h);simp[gv,e]at ih ⊢;exact ih
structure jG(vs:List bf)(T:Int)(kvs:List (List Int×Int)):Prop where
 nd:(kvs.map (·.1)).Nodup
 fit:∀k∈kvs.map (·.1),∃h w:Int,k=[h,w]/\qi vs T (h,w)
theorem jG.nil{vs:List bf}{T:Int}:jG vs T []:=⟨by simp,by simp⟩
theorem jG.put{vs:List bf}{T:Int}{kvs:List (List Int×Int)}{h w v:Int}(t:jG vs T kvs)(f:qi vs T (h,w)):jG vs T (putD kvs [h,w] v)/\(putD kvs [h,w] v).length<=kvs.length+1:=by obtain⟨p1,p2,p3,_⟩:=iK (k:=[h,w]) (v:=v) t.nd;exact⟨⟨p1,fun k hk=>by
  rcases p3 k hk with rfl|z;.exact⟨h,w,rfl,f⟩
  .exact t.fit k z⟩,p2⟩
theorem yZ{kvs:List (List Int×Int)}(h:kvs.length<=1000):blt .Tt [.cD (.t kvs)]=some (.own (kvs.map fun p=>.tup (p.1.map D.int))):=by show(if _ then _ else _)=_;rw[if_pos (by omega)]
theorem uK{vs:List bf}{T:Int}{kvs:List (List Int×Int)}(h:kvs.length<=1000)(t:jG vs T kvs):blt .sorted [.lst (kvs.map fun p=>.tup (p.1.map D.int))]=some (.own (qu (kvs.map fun p=>.tup (p.1.map D.int)))):=by show(if _ then _ else _)=_;rw[if_pos];have h:=(show kvs.length<=16777216 by omega);simp only[sortable,List.length_map,h,decide_true,Bool.true_and,Bool.or_eq_true];right;rw[List.all_eq_true];intro d hd;obtain⟨p,hp,rfl⟩:=List.mem_map.mp hd;obtain⟨a,b,e,_⟩:=t.fit p.1 (List.mem_map.mpr ⟨p,hp,rfl⟩);rw[e];rfl
theorem Jg{vs:List bf}{T:Int}{kvs:List (List Int×Int)}(t:jG vs T kvs){d:D}(hd:d∈qu (kvs.map fun p=>D.tup (p.1.map D.int))):∃h w:Int,d=.tup [.int h,.int w]/\qi vs T (h,w)/\[h,w]∈kvs.map (·.1):=by obtain⟨p,hp,rfl⟩:=List.mem_map.mp ((iW _).mem_iff.mp hd);have hm:p.1∈kvs.map (·.1):=List.mem_map.mpr ⟨p,hp,rfl⟩;obtain⟨a,b,e,f⟩:=t.fit p.1 hm;exact⟨a,b,by rw[e];rfl,f,by rw[<-e];exact hm⟩
theorem zE{kvs:List (List Int×Int)}(h:kvs.length<=1000):(qu (kvs.map fun p=>D.tup (p.1.map D.int))).length<=lim:=by rw[(iW _).length_eq,List.length_map];show _<=16777216;omega
theorem GF{vs:List bf}{T:Int}:∀{xs:List D},(∀x∈xs,∃y:Tr,x=y.d/\gj vs T y)->∃pl:List Tr,xs=pl.map Tr.d/\∀y∈pl,gj vs T y|[],_=>⟨[],rfl,by simp⟩|x::xs,h=>by obtain⟨v,rfl,h1⟩:=h x (by simp);obtain⟨ws,rfl,h2⟩:=GF (xs:=xs) fun y hy=>h y (by simp[hy]);exact⟨v::ws,rfl,fun u hu=>by
    rcases List.mem_cons.mp hu with rfl|hu;.exact h1
    .exact h2 u hu⟩
theorem pY{c:Call}{l:List Sl}{i a b:Nat}{vs:List bf}{T:Int}{kvs:List (List Int×Int)}{Q:List D->List Sl->Prop}(t:jG vs T kvs)(hi:(l++[Sl.au,Sl.au])[i]?=some (.val false (.cD (.t kvs))))(ha:a=l.length)(hb:b=l.length+1)(q:∀(pl:List Tr)(s u:Sl),(∀y∈pl,gj vs T y)->pl.length<=kvs.length->Q (pl.map Tr.d) (l++[s,u])):(ji c [a,b] false none (.tup [.var a,.var b,.Kz i [.var a,.var b]]) (qu (kvs.map fun p=>.tup (p.1.map D.int))) (l++[.au,.au])).sat Q:=by
 subst ha hb;have hil:i<l.length:=by
  have:=(List.getElem?_eq_some_iff.mp hi).1;simp at this;rcases Nat.lt_or_ge i l.length with z|z;.exact z
  . rw[List.getElem?_append_right z]at hi;have:i-l.length=0\/i-l.length=1:=by omega
    rcases this with z|z<;>(rw[z]at hi;cases hi)
 have hi':l[i]?=some (.val false (.cD (.t kvs))):=by rw[List.getElem?_append_left hil]at hi;exact hi
 have ga:∀{s u:Sl},(l++[s,u])[l.length]?=some s:=fun{s u}=>by simp
 have gb:∀{s u:Sl},(l++[s,u])[l.length+1]?=some u:=fun{s u}=>by rw[List.getElem?_append_right (by omega)];simp
 have gi:∀{s u:Sl},(l++[s,u])[i]?=some (.val false (.cD (.t kvs))):=fun{s u}=>by rw[List.getElem?_append_left hil];exact hi'
 refine gf (fun ρ=>∃s u,ρ=l++[s,u]/\fr s=true/\fr u=true) (fun d=>∃y:Tr,d=y.d/\gj vs T y) ⟨_,_,rfl,rfl,rfl⟩ ?_ ?_
 . rintro d hd _⟨s,u,rfl,hs,hu⟩;obtain⟨h,w,rfl,f,hm⟩:=Jg t hd;refine⟨l++[.val false (.int h),.val false (.int w)],?_,?_⟩
   . show putAll _ _ _=_;rw[putAll,ym,ga];simp only[hs,if_true];show putAll ((l++[s,u]).set l.length _) _ _=_;have e1:(l++[s,u]).set l.length (.val false (.int h))=l++[.val false (.int h),u]:=by rw[List.set_append_right _ _ (Nat.le_refl _)];simp
     rw[e1,putAll,ym,gb];simp only[hu,if_true];show putAll ((l++[_,u]).set (l.length+1) _) _ _=_;rw[List.set_append_right _ _ (by omega),xx];simp
   . have pa:pk (l++[Sl.val false (.int h),Sl.val false (.int w)]) i=some (.cD (.t kvs)):=by unfold pk;rw[gi]
     have v1:ev c (.var l.length) (l++[Sl.val false (.int h),Sl.val false (.int w)])=.ok (.val (.int h)) (l++[Sl.val false (.int h),Sl.val false (.int w)]):=by rw[LK,ga]
     have v2:ev c (.var (l.length+1)) (l++[Sl.val false (.int h),Sl.val false (.int w)])=.ok (.val (.int w)) (l++[Sl.val false (.int h),Sl.val false (.int w)]):=by rw[LK,gb]
     have gd:Ac (.cD (.t kvs)) [.int h,.int w]=some (.val (.int (gv kvs [h,w]))):=by show((Dc.t kvs).vm [.int h,.int w]).bind (fun o=>o.map fun v=>R.val (.int v))=_;rw[JB,vC hm];rfl
     have v3:ev c (.Kz i [.var l.length,.var (l.length+1)]) (l++[Sl.val false (.int h),Sl.val false (.int w)])=.ok (.val (.int (gv kvs [h,w]))) (l++[Sl.val false (.int h),Sl.val false (.int w)]):=by rw[O4,pa];simp only[yS,Mj,evs,v1,v2,pa,R.d,gd]
     rw[O5];simp only[evs,v1,v2,v3,Mj,R.d];exact⟨⟨⟨h,w,gv kvs [h,w]⟩,rfl,⟨f.1,f.2.1,f.2.2.1,f.2.2.2⟩⟩,_,_,rfl,rfl,rfl⟩
 .rintro xs _⟨s,u,rfl,hs,hu⟩hl hx;obtain⟨pl,rfl,hp⟩:=GF hx;refine q pl s u hp ?_;rw[List.length_map]at hl;rw[hl,(iW _).length_eq,List.length_map];exact Nat.le_refl _
inductive JF2(y:Int)(vs:List bf)(T v:Int)(b:Nat)(a1 a2 a3 a5:Sl)(r:List D)(ρ:List Sl):Prop where|mk(x z:Int)(kvs:List (List Int×Int))(ps:List (Int×Int))(s7 s8:Sl)(q0:ρ=[.own true [.int x,.int y,.int z],a1,a2,a3,.cM (.t kvs),a5,.val false (.int v),s7,s8])(q1:(fr s7=true/\fr s8=true))(q2:r=ps.map qe)(q3:(∀p∈ps,qi vs T p))(q4:jG vs T kvs)(q5:kvs.length+ps.length<=b)
inductive JF1(y:Int)(vs:List bf)(T:Int)(a1 a2 a3:Sl)(i:Nat)(ρ:List Sl):Prop where|mk(x z:Int)(kvs:List (List Int×Int))(s5 s6 s7 s8:Sl)(q0:ρ=[.own true [.int x,.int y,.int z],a1,a2,a3,.cM (.t kvs),s5,s6,s7,s8])(q1:A4 (fr s5=true) (fr s6=true) (fr s7=true) (fr s8=true))(q2:jG vs T kvs)(q3:kvs.length<=8*i)
theorem Gj{w n:Nat}{x y z m T:Int}{vs:List bf}{Q:R->List Sl->Prop}(hl:vs.length<=12)(t0:0<=T)(t1:T<=12)(hv:∀v∈vs,v.Ok m)(k:∀(pl:List Tr)(x z:Int),(∀p∈pl,gj vs T p)->pl.length<=48->Q (.own (pl.map Tr.d)) [.own true [.int x,.int y,.int z],.val false (.int m),.val false (.int T),.own true (vs.map bf.d)]):(run Γ w (n+3) 14 [.own true [.int x,.int y,.int z],.val false (.int m),.val false (.int T),.own true (vs.map bf.d)]).sat Q:=by
 refine bH (d:=Yv) rfl rfl (by decide) ?_;first|apply aa|apply aq
 simp[Yv,pI];apply aa;simp;refine aV (by decide) (by decide) fun d x z d0 d1=>?_;simp[show d<=1000000000 by omega,show-1000000000<=d by omega];refine dF (JF1 y vs T _ _ _) ?_ ?_ ⟨x,z,[],.au,.au,.au,.au,rfl,⟨rfl,rfl,rfl,rfl⟩,jG.nil,by simp⟩
 . rintro i _ hi⟨x,z,kvs,s5,s6,s7,s8,rfl,⟨h5,h6,h7,h8⟩,ht,hkl⟩;simp[h5];apply aa;simp;refine aV (by decide) (by decide) fun a x z a0 a1=>?_;simp;refine pM (by decide) fun b x z b0 b1=>?_;simp;refine aV (by decide) (by decide) fun e x z e0 e1=>?_;obtain⟨v,he,_⟩:=qN (ns:=[1,1,2,1+a,1+b]) (i:=e) (lo:=0) (hi:=1000000000) e0 (by simpa using e1) (by simp;omega);simp only[List.map_cons,List.map_nil]at he;simp[he,h6];apply aa;simp;refine Be (.inl ⟨_,rfl⟩) hl t0 t1 hv fun ps x z hp hpl=>?_;simp;refine cA (JF2 y vs T v (8*(i+1)) _ _ _ _) ?_ ?_ ⟨x,z,kvs,ps,s7,s8,rfl,⟨h7,h8⟩,rfl,hp,ht,by omega⟩;.rintro d r _⟨x,z,kvs,ps,s7,s8,rfl,⟨h7,h8⟩,hr,hp,ht,hkl⟩;cases ps with|nil=>cases hr|cons p ps=>
       obtain⟨rfl,rfl⟩:d=qe p/\r=ps.map qe:=by simpa using hr
       simp at hkl;have hlim:kvs.length<lim:=by show _<16777216;omega
       simp[qe,h7,h8];apply aa;simp[pP,yc hlim];obtain⟨q1,q2⟩:=ht.put (v:=((kvs.find? fun kv=>decide (kv.1=[p.1,p.2])).map (·.2)).getD 0+v) (hp p (by simp));exact⟨x,z,_,ps,_,_,rfl,⟨rfl,rfl⟩,rfl,fun p' h'=>hp p' (by simp[h']),q1,by omega⟩
   .rintro _⟨x,z,kvs,ps,s7,s8,rfl,⟨h7,h8⟩,hr,hp,ht,hkl⟩;simp;exact⟨x,z,kvs,_,_,_,_,rfl,⟨rfl,rfl,h7,h8⟩,ht,by omega⟩
 . rintro _⟨x,z,kvs,s5,s6,s7,s8,rfl,_,ht,hkl⟩;have hk1:kvs.length<=1000:=by omega
   first|apply aa|apply aq
   simp[K3,yZ hk1,uK hk1 ht];refine⟨fun _=>?_,zE hk1⟩;refine pY (l:=[.own true [.int x,.int y,.int z],.val false (.int m),.val false (.int T),.own true (vs.map bf.d),.val false (.cD (.t kvs)),s5,s6,s7,s8]) (i:=4) ht rfl rfl rfl fun pl s u hp hpl=>?_;exact k pl x z hp (by omega)
end T
end
section
namespace T
open HH
noncomputable def cu(r:List Int):D:=.tup (r.map D.int)
theorem intsOf:∀{xs:List D},(∀x∈xs,∃i,x=D.int i)->∃rs:List Int,xs=rs.map D.int|[],_=>⟨[],rfl⟩|x::xs,h=>by obtain⟨v,rfl⟩:=h x (by simp);obtain⟨ws,rfl⟩:=intsOf (xs:=xs) fun y hy=>h y (by simp[hy]);exact⟨v::ws,rfl⟩
structure xV(m T:Int)(vs:List bf)(rooms:List (List Int)):Prop where
 m0:2<=m
 m1:m<=6
 t0:0<=T
 t1:T<=12
 vl:vs.length<=12
 hv:∀v∈vs,v.Ok m
 rl:rooms.length=vs.length
 ro:∀r∈rooms,(r.length:Int)=T+1
theorem v8{L:Nat}{f:Int->Int}{lo hi:Option Int}:∃is:List Int,cut (bG L f) lo hi=is.map D.int/\is.length<=L:=by
 refine⟨cut ((List.range L).map fun(t:Nat)=>f (t:Int)) lo hi,?_,?_⟩
 . have:bG L f=((List.range L).map fun(t:Nat)=>f (t:Int)).map D.int:=by unfold bG;rw[List.map_map];rfl
   rw[this];simp[cut,List.map_take,List.map_drop]
 .simp[cut];omega
theorem vD:blt .int [.bl true]=some (.val (.int 1)):=rfl
theorem uW:blt .int [.bl false]=some (.val (.int 0)):=rfl
inductive JU(vs:List bf)(T:Int)(a0 a1 a2 a3 a4:Sl)(tl:List Sl)(r:List D)(ρ:List Sl):Prop where|mk(kvs:List (List Int×Int))(rest:List Tr)(s6 s7 s8:Sl)(q0:ρ=a0::a1::a2::a3::a4::.cM (.t kvs)::s6::s7::s8::tl)(q1:A3 (fr s6=true) (fr s7=true) (fr s8=true))(q2:r=rest.map Tr.d)(q3:(∀x∈rest,gj vs T x))(q4:jG vs T kvs)(q5:kvs.length+rest.length<=100)
theorem qZ{c:Call}{w:Nat}{vs:List bf}{T:Int}{a0 a1 a2 a3 a4:Sl}{tl:List Sl}{pl:List Tr}{Q:Fl->List Sl->Prop}(hp:∀x∈pl,gj vs T x)(hl:pl.length<=100)(q:∀(kvs:List (List Int×Int))(s6 s7 s8:Sl),(fr s6=true/\fr s7=true/\fr s8=true)->jG vs T kvs->kvs.length<=100->Q .next (a0::a1::a2::a3::a4::.cM (.t kvs)::s6::s7::s8::tl)):(gB [6,7,8] false (eG c w [.lM 5 [.var 6,.var 7] (.var 8)]) (pl.map Tr.d) (a0::a1::a2::a3::a4::.cM (.t [])::.au::.au::.au::tl)).sat Q:=by
 refine cA (JU vs T a0 a1 a2 a3 a4 tl) ?_ ?_ ⟨[],pl,.au,.au,.au,rfl,⟨rfl,rfl,rfl⟩,rfl,hp,jG.nil,by simpa using hl⟩;.rintro d r _⟨kvs,rest,s6,s7,s8,rfl,⟨h6,h7,h8⟩,hr,hp,ht,hk⟩;cases rest with|nil=>cases hr|cons x rest=>
     obtain⟨rfl,rfl⟩:d=x.d/\r=rest.map Tr.d:=by simpa using hr
     simp at hk;have hlim:kvs.length<lim:=by show _<16777216;omega
     simp[Tr.d,h6,h7,h8];apply aa;simp[pP,yc hlim];have f:=hp x (by simp);obtain⟨q1,q2⟩:=ht.put (v:=x.l) (h:=x.h) (w:=x.w) ⟨f.h0,f.w0,f.w1,f.o1⟩;exact⟨_,rest,_,_,_,rfl,⟨rfl,rfl,rfl⟩,rfl,fun y hy=>hp y (by simp[hy]),q1,by omega⟩
 .rintro _⟨kvs,rest,s6,s7,s8,rfl,⟨h6,h7,h8⟩,hr,hp,ht,hk⟩;exact q kvs s6 s7 s8 ⟨h6,h7,h8⟩ ht (by omega)
inductive Jy(y:Int)(l:List Sl)(ρ:List Sl):Prop where|mk(x z:Int)(s:Sl)(q0:ρ=.own true [.int x,.int y,.int z]::(l++[s]))(q1:fr s=true)
inductive JRm(y T:Int)(vs:List bf)(a1 a2 a3 a4 a5 a6 s8 eV eO s12:Sl)(i:Nat)(ρ:List Sl):Prop where|mk(x z:Int)(rooms:List (List Int))(s7:Sl)(q0:ρ=[.own true [.int x,.int y,.int z],a1,a2,a3,a4,a5,a6,s7,s8,.own false (rooms.map cu),eV,eO,s12])(q1:fr s7=true)(q2:rooms.length=i)(q3:∀r∈rooms,(r.length:Int)=T+1)
inductive JWt(y:Int)(L:Nat)(a1 a2 a3 a4 a5 a6 a7 a8 a9:Sl)(r:List D)(ρ:List Sl):Prop where|mk(x z:Int)(ws:List D)(eO s12:Sl)(q0:ρ=[.own true [.int x,.int y,.int z],a1,a2,a3,a4,a5,a6,a7,a8,a9,.own false ws,eO,s12])(q1:(fr eO=true/\fr s12=true))(q2:(∀d∈r,∃f:Int->Int,d=.lst (bG L f)))(q3:ws.length+r.length<=8)
inductive Jyy(y:Int)(l:List Sl)(ρ:List Sl):Prop where|mk(x z:Int)(s u:Sl)(q0:ρ=.own true [.int x,.int y,.int z]::(l++[s,u]))(q1:fr s=true)(q2:fr u=true)
theorem Ex{w n:Nat}{x y z:Int}{Q:R->List Sl->Prop}(k:∀(m T:Int)(vs:List bf)(rooms:List (List Int))(wd:D)(pl:List Tr)(x z:Int),xV m T vs rooms->(∀x∈pl,gj vs T x)->pl.length<=48->Q (.val (.tup [.tup [.int m,.int T,.tup (vs.map bf.d),.tup (rooms.map cu),wd],.lst (pl.map Tr.d)])) [.own true [.int x,.int y,.int z]]):(run Γ w (n+4) 16 [.own true [.int x,.int y,.int z]]).sat Q:=by
 refine bH (d:=Yu) rfl rfl (by decide) ?_;refine aO (l:=Bs) (k:=0) rfl ?_;simp[Yu];refine aV (by decide) (by decide) fun a x z a0 a1=>?_;simp;obtain⟨m,hm,m0,m1⟩:∃m,m=2+a/\2<=m/\m<=6:=⟨_,rfl,by omega,by omega⟩;rw[<-hm];refine aO (l:=Bs) (k:=1) rfl ?_;simp;refine aV (by decide) (by decide) fun b x z b0 b1=>?_;simp;refine aV (by decide) (by decide) fun c x z c0 c1=>?_;simp;refine aV (by decide) (by decide) fun e x z e0 e1=>?_;obtain⟨T,he,t0,t1⟩:=qN (ns:=[b,4+c,12]) (i:=e) (lo:=0) (hi:=12) e0 (by simpa using e1) (by simp;omega);simp only[List.map_cons,List.map_nil]at he;simp[he];refine aO (l:=Bs) (k:=2) rfl ?_;simp;refine Am m0 m1 fun vs x z hv hvl=>?_;simp;refine aO (l:=Bs) (k:=3) rfl ?_;simp;refine Gj hvl t0 t1 hv fun pl x z hp hpl=>?_;simp;refine aO (l:=Bs) (k:=4) rfl ?_;simp[pI];refine aO (l:=Bs) (k:=5) rfl ?_;simp;refine qZ (vs:=vs) (T:=T) hp (by omega) fun kvs s6 s7 s8 hs ht hk=>?_;obtain⟨h6,h7,h8⟩:=hs;simp;refine aO (l:=Bs) (k:=6) rfl ?_;simp;refine aO (l:=Bs) (k:=7) rfl ?_;simp[show(vs.length:Int)<=1000000000 by omega];have hT1:T+1<=1000000000:=by omega
 have hT2:-1000000000<=T+1:=by omega
 have hTl:(T+1).toNat<=lim:=by show _<=16777216;omega
 refine dF (JRm y T vs _ _ _ _ _ s6 s8 _ _ _) ?_ ?_ ⟨x,z,[],s7,rfl,h7,rfl,by simp⟩
 . rintro i _ hi⟨x,z,rooms,s7,rfl,h7,hrl,Xh⟩;simp[h7];apply aa;simp[hT1,hT2,hTl];refine gf (Jy y [.val false (.int m),.val false (.int T),.own false (vs.map bf.d),.own false (pl.map Tr.d),.cM (.t kvs),s6,.val false (.int i),s8,.own false (rooms.map cu),.au,.au,.au]) (fun d=>∃i,d=D.int i) ⟨x,z,.au,rfl,rfl⟩ ?_ ?_;.rintro d hd _⟨x,z,s,rfl,hs⟩;obtain⟨j,_,rfl⟩:=List.mem_map.mp hd;simp[hs];refine aV (by decide) (by decide) fun a x z a0 a1=>?_;simp;refine pM (by decide) fun b x z b0 b1=>?_;simp;refine aV (by decide) (by decide) fun e x z e0 e1=>?_;obtain⟨v,he,_⟩:=qN (ns:=[0,0,1,a,b]) (i:=e) (lo:=0) (hi:=1000000000) e0 (by simpa using e1) (by simp;omega);simp only[List.map_cons,List.map_nil]at he;simp[he];exact⟨x,z,_,rfl,rfl⟩
   . rintro xs _⟨x,z,s,rfl,hs⟩hl hx;obtain⟨is,rfl⟩:=intsOf hx;simp at hl;simp[show rooms.length<lim by show _<16777216;omega];refine⟨x,z,rooms++[is],_,by rw[List.map_append];rfl,rfl,by simp[hrl],fun r hr=>?_⟩;rcases List.mem_append.mp hr with hr|hr;.exact Xh r hr
     .rw[List.mem_singleton.mp hr];omega
 . rintro _⟨x,z,rooms,s7,rfl,h7,hrl,Xh⟩;simp;refine aO (l:=Bs) (k:=8) rfl ?_;simp;refine aO (l:=Bs) (k:=9) rfl ?_;simp;refine iy (.inl ⟨_,rfl⟩) (.inl ⟨_,rfl⟩) m0 m1 t0 t1 hv hp ?_;simp[wU,Hu,part,Bo];refine cA (JWt y (T+1).toNat _ _ _ _ _ _ _ _ _) ?_ ?_ ⟨x,z,[.non],.au,.au,rfl,⟨rfl,rfl⟩,fun d hd=>?_,?_⟩
   . rintro d r _⟨x,z,ws,eO,s12,rfl,⟨h11,h12⟩,hd,hwl⟩;obtain⟨f,rfl⟩:=hd d (by simp);simp[h11];apply aa;simp[Hu,part,Bo];obtain⟨is,hc,hcl⟩:=v8 (L:=(T+1).toNat) (f:=f) (lo:=none) (hi:=some T);rw[hc];have hil:is.length<=lim:=by show _<=16777216;omega
     first|apply aa|apply aq
     simp[hil];refine gf (Jy y [.val false (.int m),.val false (.int T),.own false (vs.map bf.d),.val false (.lst (pl.map Tr.d)),.cM (.t kvs),s6,s7,s8,.own false (rooms.map cu),.own false ws,.lent (is.map D.int),s12]) (fun d=>∃i,d=D.int i) ⟨x,z,.au,rfl,rfl⟩ ?_ ?_;.rintro d hd _⟨x,z,s,rfl,hs⟩;simp[hs];refine aV (by decide) (by decide) fun a x z a0 a1=>?_;simp;refine aV (by decide) (by decide) fun e x z e0 e1=>?_;obtain⟨v,he,_⟩:=qN (ns:=[0,0,1,a]) (i:=e) (lo:=0) (hi:=1000000000) e0 (by simpa using e1) (by simp;omega);simp only[List.map_cons,List.map_nil]at he;simp[he];exact⟨x,z,_,rfl,rfl⟩
     . rintro xs _⟨x,z,s,rfl,hs⟩hl hx;obtain⟨js,rfl⟩:=intsOf hx;simp at hl;simp[h12];apply aa;simp;refine⟨fun _=>?_,by show _<=16777216;omega⟩;refine gf (Jyy y [.val false (.int m),.val false (.int T),.own false (vs.map bf.d),.val false (.lst (pl.map Tr.d)),.cM (.t kvs),s6,s7,s8,.own false (rooms.map cu),.own false ws,.val false (.lst (is.map D.int)),.val false (.lst (js.map D.int))]) (fun d=>∃i,d=D.int i) ⟨x,z,.au,.au,rfl,rfl,rfl⟩ ?_ ?_;.rintro d hd _⟨x,z,s,u,rfl,hs,hu⟩;obtain⟨p,hp,rfl⟩:=List.mem_map.mp hd;obtain⟨h1,h2⟩:=List.of_mem_zip hp;obtain⟨i1,_,e1⟩:=List.mem_map.mp h1;obtain⟨i2,_,e2⟩:=List.mem_map.mp h2;simp[hs,hu,<-e1,<-e2];exact⟨x,z,_,_,rfl,rfl,rfl⟩
       . rintro xs _⟨x,z,s,u,rfl,hs,hu⟩hl2 hx;simp at hwl;simp;refine aV (by decide) (by decide) fun e x z e0 e1=>?_;by_cases ce:0<e;.simp[ce,vD,uW,show ws.length<lim by show _<16777216;omega];exact⟨x,z,_,_,_,rfl,⟨rfl,rfl⟩,fun d hd'=>hd d (by simp[hd']),by simp;omega⟩
         .simp[ce,vD,uW,show ws.length<lim by show _<16777216;omega];exact⟨x,z,_,_,_,rfl,⟨rfl,rfl⟩,fun d hd'=>hd d (by simp[hd']),by simp;omega⟩
   .rintro _⟨x,z,ws,eO,s12,rfl,⟨h11,h12⟩,hd,hwl⟩;simp at hwl;simp;refine aO (l:=Bs) (k:=10) rfl ?_;simp[show ws.length<lim by show _<16777216;omega];refine aO (l:=Bs) (k:=11) rfl ?_;simp;exact k m T vs rooms _ pl x z ⟨m0,m1,t0,t1,hvl,hv,hrl,Xh⟩ hp hpl
   .obtain⟨p,_,rfl⟩:=List.mem_map.mp (List.mem_of_mem_drop (List.mem_of_mem_take hd));unfold mat at*;rename_i hp2;obtain⟨r,_,rfl⟩:=List.mem_map.mp hp2;exact⟨_,rfl⟩
   .simp[cut,mat];omega
end T
end
section
namespace T
open HH
theorem J1{L:Nat}{f:Int->Int}{h:Nat}(hl:h<L):∃i:Int,blt .BZ [.lst (cut (bG L f) (some (h:Int)) none)]=some (.val (.int i)):=by
 obtain⟨is,e1,_⟩:=v8 (L:=L) (f:=f) (lo:=some (h:Int)) (hi:=none);have hn:(cut (bG L f) (some (h:Int)) none).length=L-h:=by simp[cut,cV];omega
 rw[e1]at hn ⊢;have e2:(is.map D.int).mapM dC=some is:=by clear e1 hn;induction is with|nil=>rfl|cons a l ih=>simp[List.mapM_cons,ih,dC]
 cases is with|nil=>simp at hn;omega|cons a l=>obtain⟨i,hi⟩:∃i,(a::l).min?=some i:=⟨_,List.min?_cons'⟩;refine⟨i,?_⟩;show((some ((a::l).map D.int)).bind fun ds=>ds.mapM dC).bind (fun ns=>ns.min?.map fun i=>R.val (.int i))=_;rw[Option.bind_some,e2,Option.bind_some,hi];rfl
inductive JB1(y:Int)(vs:List bf)(T:Int)(a1 a2 a3 a4 a9:Sl)(i:Nat)(ρ:List Sl):Prop where|mk(x z:Int)(kvs:List (List Int×Int))(s6 s7 s8 eV eO s12 vU mY:Sl)(q0:ρ=[.own true [.int x,.int y,.int z],a1,a2,a3,a4,.cM (.t kvs),s6,s7,s8,a9,eV,eO,s12,vU,mY])(q1:A7 (fr s6=true) (fr s7=true) (fr eV=true) (fr eO=true) (fr s12=true) (fr vU=true) (fr mY=true))(q2:jG vs T kvs)(q3:kvs.length<=100)
inductive JB2(y:Int)(vs:List bf)(T:Int)(a1 a2 a3 a4 s7 s8 a9 eV eO s12 vU:Sl)(i:Nat)(ρ:List Sl):Prop where|mk(x z:Int)(kvs:List (List Int×Int))(s6 mY:Sl)(q0:ρ=[.own true [.int x,.int y,.int z],a1,a2,a3,a4,.cM (.t kvs),s6,s7,s8,a9,eV,eO,s12,vU,mY])(q1:(fr s6=true/\fr mY=true))(q2:jG vs T kvs)(q3:kvs.length<=100)
theorem vg{w n:Nat}{x y z m T:Int}{vs:List bf}{pl:List Tr}{s4:Sl}{Q:R->List Sl->Prop}(W7:LS s4 (pl.map Tr.d))(m0:2<=m)(m1:m<=6)(t0:0<=T)(t1:T<=12)(hvl:vs.length<=12)(hv:∀v∈vs,v.Ok m)(hp:∀x∈pl,gj vs T x)(hl:pl.length<=48)(k:∀(Ah:List Tr)(r:R)(x z:Int),(r=.own (Ah.map Tr.d)\/r=.val (.lst (Ah.map Tr.d)))->(∀x∈Ah,gj vs T x)->Ah.length<=101->Q r [.own true [.int x,.int y,.int z],.val false (.int m),.val false (.int T),.val false (.tup (vs.map bf.d)),wU s4]):(run Γ w (n+2) 17 [.own true [.int x,.int y,.int z],.val false (.int m),.val false (.int T),.val false (.tup (vs.map bf.d)),s4]).sat Q:=by
 have hfz:∃b,wU s4=.val b (.lst (pl.map Tr.d)):=by rcases W7 with⟨b,rfl⟩|⟨b,rfl⟩<;>exact⟨b,rfl⟩
 refine bH (d:=Yb) rfl rfl (by decide) ?_;first|apply aa|apply aq
 simp[Yb,pI];apply aa;obtain⟨s',e1,e2⟩:=oY (ρ:=[.own true [.int x,.int y,.int z],.val false (.int m),.val false (.int T),.val false (.tup (vs.map bf.d)),s4,.cM (.t []),.au,.au,.au,.au,.au,.au,.au,.au,.au]) (k:=4) (e:=ev (run Γ w (n+1)) (.var 4)) rfl W7;simp[-jT,-iY,e1];refine qZ (vs:=vs) (T:=T) hp (by omega) fun kvs s6 s7 s8 hs ht hk=>?_;obtain⟨h6,h7,h8⟩:=hs;rw[e2 _ rfl];first|apply aa|apply aq
 have key:∀{P:R->List Sl->Prop},P (.val (.lst ((mat m.toNat (T+1).toNat (iR vs pl)).map D.lst))) [.own true [.int x,.int y,.int z],.val false (.int m),.val false (.int T),.val false (.tup (vs.map bf.d)),wU s4,.cM (.t kvs),s6,s7,s8,.au,.au,.au,.au,.au,.au]->(ev (run Γ w (n+1)) (.call 15 [.var 1,.var 2,.var 3,.var 4]) [.own true [.int x,.int y,.int z],.val false (.int m),.val false (.int T),.val false (.tup (vs.map bf.d)),s4,.cM (.t kvs),s6,s7,s8,.au,.au,.au,.au,.au,.au]).sat P:=fun{P}h=>by
  rcases W7 with⟨b,rfl⟩|⟨b,rfl⟩;.simp;refine iy (.inr ⟨_,rfl⟩) (.inl ⟨_,rfl⟩) m0 m1 t0 t1 hv hp ?_;simpa[wU]using h
  .simp;refine iy (.inr ⟨_,rfl⟩) (.inr ⟨_,rfl⟩) m0 m1 t0 t1 hv hp ?_;simpa[wU]using h
 simp only[List.set_cons_succ,List.set_cons_zero];rw[show ex (run Γ w (n+1)) w (.asg 9 (.call 15 [.var 1,.var 2,.var 3,.var 4]))=fun ρ=>(ev (run Γ w (n+1)) (.call 15 [.var 1,.var 2,.var 3,.var 4]) ρ).bind fun r ρ=>(lift (put ρ 9 (v5 r)) ρ).bind fun ρ' _=>.ok .next ρ' by funext ρ;rw[VL]];show((ev _ _ _).bind _).sat _;rw[bL];refine key ?_;obtain⟨b,hb⟩:=hfz;rw[hb];rw[hb]at k;generalize hM:m.toNat=M at*;generalize hL:(T+1).toNat=L at*;simp;apply aa;simp[show(vs.length:Int)<=1000000000 by omega];refine dF (JB1 y vs T _ _ _ _ _) ?_ ?_ ⟨x,z,kvs,s6,s7,s8,.au,.au,.au,.au,.au,rfl,⟨h6,h7,rfl,rfl,rfl,rfl,rfl⟩,ht,hk⟩
 . rintro i _ hi⟨x,z,kvs,s6,s7,s8,eV,eO,s12,vU,mY,rfl,⟨h6,h7,h10,h11,h12,h13,h14⟩,ht,hk⟩;obtain⟨hg,hmem⟩:=jk (vs:=vs) (k:=(i:Int)) (by omega) (by omega);have ok:=hv _ hmem;generalize hvv:rd vs (i:Int)=v at*;have:=ok.s0;have:=ok.s1;have:=ok.h0;simp[h7];apply aa;simp[hg,bf.d,h10,h11,h12];have hrow:at' ((mat M L (iR vs pl)).map D.lst) v.s=some (.lst (bG L (iR vs pl v.s))):=by
    rw[jZ (by omega) (by simp;omega)];rw[List.getElem?_map,lA (by omega)];have:((v.s.toNat:Nat):Int)=v.s:=by omega
    rw[this];rfl
   first|apply aa|apply aq
   simp[hrow,h13];apply aa;obtain⟨N,hN,hN0,hN1⟩:∃N:Int,(T+1-if T+1<v.h then T+1 else v.h)=N/\(-1000000000<=N/\N<=13)/\∀h:Int,0<=h->h<N->h+v.h<=T:=⟨_,rfl,by split<;>omega,fun h h0 hh=>by split at hh<;>omega⟩;simp[hN,hN0.1,show N<=1000000000 by omega];refine dF (JB2 y vs T _ _ _ _ _ s8 _ _ _ _ _) ?_ ?_ ⟨x,z,kvs,s6,mY,rfl,⟨h6,h14⟩,ht,hk⟩
   . rintro j _ hj⟨x,z,kvs,s6,mY,rfl,⟨h6,h14⟩,ht,hk⟩;have hjn:=hN1 (j:Int) (by omega) (by omega);obtain⟨sp,hsp⟩:=J1 (L:=L) (f:=iR vs pl v.s) (h:=j) (by omega);simp[h6];apply aa;simp[Hu,part,Bo,hsp,h14];have skip:∀x z:Int,JB2 y vs T (.val false (.int m)) (.val false (.int T)) (.val false (.tup (vs.map bf.d))) (.val b (.lst (pl.map Tr.d))) (.val false (.int i)) s8 (.val false (.lst ((mat M L (iR vs pl)).map D.lst))) (.val false (.int v.s)) (.val false (.int v.t)) (.val false (.int v.h)) (.val false (.lst (bG L (iR vs pl v.s)))) (j+1) [.own true [.int x,.int y,.int z],.val false (.int m),.val false (.int T),.val false (.tup (vs.map bf.d)),.val b (.lst (pl.map Tr.d)),.cM (.t kvs),.val false (.int j),.val false (.int i),s8,.val false (.lst ((mat M L (iR vs pl)).map D.lst)),.val false (.int v.s),.val false (.int v.t),.val false (.int v.h),.val false (.lst (bG L (iR vs pl v.s))),.val false (.int sp)]:=fun x z=>⟨x,z,kvs,_,_,rfl,⟨rfl,rfl⟩,ht,hk⟩;first|apply aa|apply aq
     simp;refine(fun tk=>⟨fun _=>⟨fun _=>tk,fun _=>⟨fun _=>tk,fun _=>skip x z⟩⟩,fun _=>⟨fun _=>⟨fun _=>tk,fun _=>⟨fun _=>tk,fun _=>skip x z⟩⟩,fun _=>skip x z⟩⟩) ?_;have hlim:kvs.length<lim:=by show _<16777216;omega
     refine aV (by decide) (by decide) fun e x z e0 e1=>?_;by_cases ce:e=0
     . simp[ce];first|apply aa|apply aq
       simp[pP,yc hlim];obtain⟨q1,q2⟩:=ht.put (v:=((kvs.find? fun kv=>decide (kv.1=[(j:Int),(i:Int)])).map (·.2)).getD 0+1) (h:=(j:Int)) (w:=(i:Int)) ⟨by show(0:Int)<=(j:Int);omega,by show(0:Int)<=(i:Int);omega,by show(i:Int)<_;omega,by show(j:Int)+(rd vs (i:Int)).h<=T;rw[hvv];exact hjn⟩;generalize putD kvs [(j:Int),(i:Int)] _=Xi at q1 q2 ⊢;have hk1:Xi.length<=1000:=by omega
       first|apply aa|apply aq
       simp[K3,yZ hk1,uK hk1 q1];refine⟨fun _=>?_,zE hk1⟩;refine pY (l:=[.own true [.int x,.int y,.int z],.val false (.int m),.val false (.int T),.val false (.tup (vs.map bf.d)),.val b (.lst (pl.map Tr.d)),.val false (.cD (.t Xi)),.val false (.int j),.val false (.int i),s8,.val false (.lst ((mat M L (iR vs pl)).map D.lst)),.val false (.int v.s),.val false (.int v.t),.val false (.int v.h),.val false (.lst (bG L (iR vs pl v.s))),.val false (.int sp)]) (i:=5) q1 rfl rfl rfl fun Ah s u hp' hl'=>?_;simp;exact k Ah _ x z (.inl rfl) hp' (by omega)
     .simp[ce];exact skip x z
   .rintro _⟨x,z,kvs,s6,mY,rfl,⟨h6,h14⟩,ht,hk⟩;simp;exact⟨x,z,kvs,_,_,_,_,_,_,_,_,rfl,⟨h6,rfl,rfl,rfl,rfl,rfl,h14⟩,ht,hk⟩
 . rintro _⟨x,z,kvs,s6,s7,s8,eV,eO,s12,vU,mY,rfl,_,ht,hk⟩;first|apply aa|apply aq
   simp;exact k pl _ x z (.inr rfl) hp (by omega)
end T
end
section
namespace T
open HH
theorem gQ{α:Type}{c:Call}{is:List Nat}{one:Bool}{elt:P}(J:List Sl->Prop)(e g:α->D){Q:List D->List Sl->Prop}{l:List α}{ρ:List Sl}(j:J ρ)(h:∀p∈l,∀ρ,J ρ->∃ρ1,bV ρ is one (e p)=some ρ1/\(ev c elt ρ1).sat fun r ρ3=>r.d=g p/\J ρ3)(k:∀ρ,J ρ->Q (l.map g) ρ):(ji c is one none elt (l.map e) ρ).sat Q:=by
 suffices hh:∀(l:List α)(acc:List D)(ρ:List Sl),J ρ->(∀p∈l,∀ρ,J ρ->∃ρ1,bV ρ is one (e p)=some ρ1/\(ev c elt ρ1).sat fun r ρ3=>r.d=g p/\J ρ3)->(turns is one (j5 c none) (ev c elt) (l.map e) acc ρ).sat fun xs ρ=>J ρ/\xs=acc++l.map g from(hh l [] ρ j h).imp fun xs ρ⟨q1,q2⟩=>by rw[q2];exact k ρ q1
 intro l;induction l with|nil=>intro acc ρ j _;exact⟨j,by simp⟩|cons p l ih=>intro acc ρ j h;obtain⟨ρ1,e1,h1⟩:=h p (by simp) ρ j;rw[List.map_cons];show(match bV ρ is one (e p)with|none=>Res.stuck|some ρ=>(j5 c none ρ).bind fun(b:Bool)(ρ:List Sl)=>if b=true then(ev c elt ρ).bind fun(x:R)(ρ:List Sl)=>turns is one (j5 c none) (ev c elt) (l.map e) (acc++[x.d]) ρ else turns is one (j5 c none) (ev c elt) (l.map e) acc ρ).sat _;rw[e1];show((j5 c none ρ1).bind _).sat _;rw[j5];show((ev c elt ρ1).bind _).sat _;rw[bL];refine h1.imp fun r ρ3⟨e2,j3⟩=>?_;rw[e2];exact(ih (acc++[g p]) ρ3 j3 fun q hq=>h q (by simp[hq])).imp fun xs ρ⟨q1,q2⟩=>⟨q1,by rw[q2];simp⟩
noncomputable def Vd(r:List Int):Int:=(r.max?).getD 0
theorem HQ{r:List Int}(h:r≠[]):blt .Ca [cu r]=some (.val (.int (Vd r))):=by
 have e2:(r.map D.int).mapM dC=some r:=by clear h;induction r with|nil=>rfl|cons a l ih=>simp[List.mapM_cons,ih,dC]
 obtain⟨i,hi⟩:∃i,r.max?=some i:=by cases r with|nil=>exact absurd rfl h|cons a l=>exact⟨_,List.max?_cons'⟩
 show((some (r.map D.int)).bind fun ds=>ds.mapM dC).bind (fun ns=>ns.max?.map fun i=>R.val (.int i))=_;rw[Option.bind_some,e2,Option.bind_some,hi];unfold Vd;rw[hi];rfl
noncomputable def fL(m T:Int)(vs:List bf)(rooms:List (List Int))(wd:D):D:=.tup [.int m,.int T,.tup (vs.map bf.d),.tup (rooms.map cu),wd]
@[simp]theorem cD0{m T:Int}{vs:List bf}{rooms:List (List Int)}{wd:D}:lV (fL m T vs rooms wd) (.int 0)=some (.val (.int m)):=by simp[fL]
@[simp]theorem cD1{m T:Int}{vs:List bf}{rooms:List (List Int)}{wd:D}:lV (fL m T vs rooms wd) (.int 1)=some (.val (.int T)):=by simp[fL]
@[simp]theorem cD2{m T:Int}{vs:List bf}{rooms:List (List Int)}{wd:D}:lV (fL m T vs rooms wd) (.int 2)=some (.val (.tup (vs.map bf.d))):=by simp[fL]
@[simp]theorem cD3{m T:Int}{vs:List bf}{rooms:List (List Int)}{wd:D}:lV (fL m T vs rooms wd) (.int 3)=some (.val (.tup (rooms.map cu))):=by simp[fL]
noncomputable def vB(vs:List bf)(rooms:List (List Int)):List Wy:=(vs.zip rooms).map fun p=>⟨p.1.s,p.1.t,Vd p.2,p.1.h⟩
theorem aaV{vs:List bf}{rooms:List (List Int)}:((vs.map bf.d).zip (rooms.map cu)).map (fun p=>D.tup [p.1,p.2])=(vs.zip rooms).map fun p=>D.tup [p.1.d,cu p.2]:=by rw[List.zip_map,List.map_map];rfl
inductive Jxx(l:List Sl)(ρ:List Sl):Prop where|mk(s:Sl)(u:Sl)(q0:ρ=l++[s,u])(q1:fr s=true)(q2:fr u=true)
theorem fY{w n:Nat}{m T:Int}{vs:List bf}{rooms:List (List Int)}{wd:D}{Q:R->List Sl->Prop}(ok:xV m T vs rooms)(q:Q (.val (ie m (vB vs rooms))) [.val false (fL m T vs rooms wd)]):(run Γ w (n+1) 5 [.val false (fL m T vs rooms wd)]).sat Q:=by
 refine bH (d:=f5) rfl rfl (by decide) ?_;first|apply aa|apply aq
 have hl:=ok.vl;have hr:=ok.rl;simp[f5];refine⟨fun _=>?_,by show _<=16777216;omega⟩;rw[aaV];refine gQ (Jxx [.val false (fL m T vs rooms wd),.au]) _ (fun p=>(⟨p.1.s,p.1.t,Vd p.2,p.1.h⟩:Wy).d) ⟨.au,.au,rfl,rfl,rfl⟩ ?_ ?_
 . rintro⟨v,r⟩hp _⟨s,u,rfl,hs,hu⟩;have Xh:=ok.ro r (List.of_mem_zip hp).2;have hne:r≠[]:=by rintro rfl;have:=ok.t0;simp at Xh;omega
   simp[hs,hu,T9,Ia,Hs,HQ hne,Wy.d];exact⟨_,_,rfl,rfl,rfl⟩
 . rintro _⟨s,u,rfl,hs,hu⟩;simp;apply aa;simp;have e:D.tup [.int m,.tup ((vs.zip rooms).map fun p=>(⟨p.1.s,p.1.t,Vd p.2,p.1.h⟩:Wy).d)]=ie m (vB vs rooms):=by unfold ie vB;rw[List.map_map];rfl
   rw[e];exact q
noncomputable def vR(vs:List bf)(pl:List Tr)(t:Int):Int:=sm (fun x=>(if(rd vs x.w).s=0/\t<=x.h then x.l else 0)-(if(rd vs x.w).t=0/\t<=x.h+(rd vs x.w).h then x.l else 0)) pl
section
variable{m T:Int}{vs:List bf}{rooms:List (List Int)}{pl:List Tr}
theorem Ny(h:rooms.length=vs.length):(vB vs rooms).length=vs.length:=by unfold vB;rw[List.length_map,List.length_zip];omega
theorem Ld(h:rooms.length=vs.length){k:Int}(h0:0<=k)(h1:k<(vs.length:Int)):(wy (vB vs rooms) k).s=(rd vs k).s/\(wy (vB vs rooms) k).t=(rd vs k).t/\(wy (vB vs rooms) k).h=(rd vs k).h:=by
 have hk:k.toNat<vs.length:=by omega
 have hk2:k.toNat<rooms.length:=by omega
 have e:(vs.zip rooms)[k.toNat]?=some (vs[k.toNat],rooms[k.toNat]):=by rw[List.getElem?_eq_getElem (by simp;omega),List.getElem_zip]
 unfold wy rd vB;simp[hk,e]
theorem yH(h:rooms.length=vs.length)(hp:∀x∈pl,gj vs T x):∀x∈pl,PK (vB vs rooms) x:=fun x hx=>by have f:=hp x hx;exact⟨f.w0,by rw[Ny h];exact f.w1⟩
theorem zN(hv:∀v∈vs,v.Ok m):∀v∈vB vs rooms,v.s≠v.t:=fun v hv'=>by obtain⟨p,hp,rfl⟩:=List.mem_map.mp hv';exact(hv p.1 (List.of_mem_zip hp).1).ne
theorem DG(h:rooms.length=vs.length)(hp:∀x∈pl,gj vs T x){p t:Int}:stP (vB vs rooms) pl p (Ck t)=iR vs pl p t:=by unfold stP iR;refine jh fun x hx=>?_;have f:=hp x hx;obtain⟨e1,e2,e3⟩:=Ld h f.w0 f.w1;unfold JQ HS vp Ck;rw[e1,e2,e3];simp only[decide_eq_true_eq]
theorem Wm(h:rooms.length=vs.length)(hp:∀x∈pl,gj vs T x){t:Int}:-stP (vB vs rooms) pl 0 (Hy t)=vR vs pl t:=by
 have:vR vs pl t=sm (fun x=>(JQ (vB vs rooms) 0 (Hy t) x-HS (vB vs rooms) 0 (Hy t) x)*(-1)) pl:=by unfold vR;refine jh fun x hx=>?_;have f:=hp x hx;obtain⟨e1,e2,e3⟩:=Ld h f.w0 f.w1;unfold JQ HS vp Hy;rw[e1,e2,e3];simp only[decide_eq_true_eq];omega
 rw[this,QX];unfold stP;omega
end
theorem vf{w n:Nat}{m T p t:Int}{vs:List bf}{rooms:List (List Int)}{wd:D}{pl:List Tr}{s1:Sl}{Q:R->List Sl->Prop}(ok:xV m T vs rooms)(hs:LS s1 (pl.map Tr.d))(hp:∀x∈pl,gj vs T x)(hl:pl.length<=1000)(q:Q (.val (.int (iR vs pl p t))) [.val false (fL m T vs rooms wd),s1,.val false (.int p),.val false (.int t)]):(run Γ w (n+4) 6 [.val false (fL m T vs rooms wd),s1,.val false (.int p),.val false (.int t)]).sat Q:=by
 refine bH (d:=f6) rfl rfl (by decide) ?_;first|apply aa|apply aq
 rcases hs with⟨b,rfl⟩|⟨b,rfl⟩;.simp[f6];refine fY ok ?_;simp;refine iH (.inl ⟨_,rfl⟩) (yH ok.rl hp) (zN ok.hv) hl ?_;rw[DG ok.rl hp];simpa using q
 .simp[f6];refine fY ok ?_;simp;refine iH (.inr ⟨_,rfl⟩) (yH ok.rl hp) (zN ok.hv) hl ?_;rw[DG ok.rl hp];simpa using q
theorem rW{w n:Nat}{m T:Int}{vs:List bf}{rooms:List (List Int)}{wd:D}{pl:List Tr}{b1:Bool}{Q:R->List Sl->Prop}(ok:xV m T vs rooms)(hp:∀x∈pl,gj vs T x)(hl:pl.length<=1000)(q:Q (.own (bG (T+1).toNat (iR vs pl (m-1)))) [.val false (fL m T vs rooms wd),.val b1 (.lst (pl.map Tr.d))]):(run Γ w (n+5) 7 [.val false (fL m T vs rooms wd),.val b1 (.lst (pl.map Tr.d))]).sat Q:=by
 have t0:=ok.t0;have t1:=ok.t1;refine bH (d:=f7) rfl rfl (by decide) ?_;first|apply aa|apply aq
 simp[f7];refine fY ok ?_;simp;apply aa;simp[show T+1<=1000000000 by omega,show-1000000000<=T+1 by omega,show(T+1).toNat<=lim by show _<=16777216;omega];refine gQ (Jx [.val false (fL m T vs rooms wd),.val b1 (.lst (pl.map Tr.d)),.val false (ie m (vB vs rooms))]) _ (fun(k:Nat)=>D.int (iR vs pl (m-1) (k:Int))) ⟨.au,rfl,rfl⟩ ?_ ?_;.rintro j hj _⟨s,rfl,hs⟩;simp[hs];refine v9 (.inr ⟨_,rfl⟩) (yH ok.rl hp) (zN ok.hv) hl ?_;rw[DG ok.rl hp];simp;exact⟨_,rfl,rfl⟩
 .rintro _⟨s,rfl,hs⟩;simpa[bG]using q
theorem Bf{w n:Nat}{m T:Int}{vs:List bf}{rooms:List (List Int)}{wd:D}{pl:List Tr}{b1:Bool}{Q:R->List Sl->Prop}(ok:xV m T vs rooms)(hp:∀x∈pl,gj vs T x)(hl:pl.length<=1000)(q:Q (.own (bG (T+1).toNat (vR vs pl))) [.val false (fL m T vs rooms wd),.val b1 (.lst (pl.map Tr.d))]):(run Γ w (n+5) 8 [.val false (fL m T vs rooms wd),.val b1 (.lst (pl.map Tr.d))]).sat Q:=by
 have t0:=ok.t0;have t1:=ok.t1;refine bH (d:=f8) rfl rfl (by decide) ?_;first|apply aa|apply aq
 simp[f8];refine fY ok ?_;simp;apply aa;simp[show T+1<=1000000000 by omega,show-1000000000<=T+1 by omega,show(T+1).toNat<=lim by show _<=16777216;omega];refine gQ (Jx [.val false (fL m T vs rooms wd),.val b1 (.lst (pl.map Tr.d)),.val false (ie m (vB vs rooms))]) _ (fun(k:Nat)=>D.int (vR vs pl (k:Int))) ⟨.au,rfl,rfl⟩ ?_ ?_;.rintro j hj _⟨s,rfl,hs⟩;simp[hs];refine Di (.inr ⟨_,rfl⟩) (yH ok.rl hp) (zN ok.hv) hl ?_;rw[Wm ok.rl hp];simp;exact⟨_,rfl,rfl⟩
 .rintro _⟨s,rfl,hs⟩;simpa[bG]using q
end T
end
section
namespace T
open HH
theorem zU{ns:List Int}:cm .ne (.lst (ns.map D.int)) (.lst (ns.map D.int))=some false:=by rw[Jf];simp
theorem qI{l:List D}(h:∀x∈l,x=.bl true):l.mapM zZ=some (l.map fun _=>true):=by induction l with|nil=>rfl|cons a l ih=>rw[List.mapM_cons,h a (by simp),ih fun x hx=>h x (by simp[hx])];rfl
theorem oH{w n:Nat}{ns:List Int}{s0:Sl}{Q:R->List Sl->Prop}(hs:LS s0 (ns.map D.int))(hl:ns.length<=1000)(q:Q (.val (.bl true)) [s0,.val false (.lst (ns.map D.int))]):(run Γ w (n+1) 19 [s0,.val false (.lst (ns.map D.int))]).sat Q:=by
 have hlim:ns.length<=lim:=by show _<=16777216;omega
 refine bH (d:=Vt) rfl rfl (by decide) ?_;have go:∀s',(ji (run Γ w n) [2] true none (.and (.inst [.int] (.var 2)) (.not (.inst [.bool] (.var 2)))) (ns.map D.int) [s',.val false (.lst (ns.map D.int)),.au]).sat fun xs ρ=>(∀x∈xs,x=.bl true)/\∃s,ρ=[s',.val false (.lst (ns.map D.int)),s]:=fun s'=>by
  refine gf (Jx [s',.val false (.lst (ns.map D.int))]) (fun d=>d=.bl true) ⟨.au,rfl,rfl⟩ ?_ ?_;.rintro d hd _⟨s,rfl,hs⟩;obtain⟨i,_,rfl⟩:=List.mem_map.mp hd;simp[hs,bZ];exact⟨_,rfl,rfl⟩
  .rintro xs _⟨s,rfl,hs⟩_ hx;exact⟨hx,s,rfl⟩
 first|apply aa|apply aq
 rcases hs with⟨b,rfl⟩|⟨b,rfl⟩
 . simp[Vt,bZ,zU];first|apply aa|apply aq
   simp[hlim];refine(go _).imp ?_;rintro xs _⟨hx,s,rfl⟩;simp[qI hx];rw[show(xs.all fun _=>true)=true by simp];exact q
 . simp[Vt,bZ,zU];first|apply aa|apply aq
   simp[hlim];refine(go _).imp ?_;rintro xs _⟨hx,s,rfl⟩;simp[qI hx];rw[show(xs.all fun _=>true)=true by simp];exact q
inductive JSe(vs:List bf)(t:Int)(pl:List Tr)(a0 a1 a2:Sl)(r:List D)(ρ:List Sl):Prop where|mk(done rest:List Tr)(v:Int)(s4 s5 s6:Sl)(q0:ρ=[a0,a1,a2,.val false (.int v),s4,s5,s6])(q1:A3 (fr s4=true) (fr s5=true) (fr s6=true))(q2:r=rest.map Tr.d)(q3:pl=done++rest)(q4:v=vR vs done t)
theorem BV{w n:Nat}{T t:Int}{vs:List bf}{pl:List Tr}{s1:Sl}{Q:R->List Sl->Prop}(hs1:LS s1 (pl.map Tr.d))(hp:∀x∈pl,gj vs T x)(q:Q (.val (.int (vR vs pl t))) [.val false (.tup (vs.map bf.d)),s1,.val false (.int t)]):(run Γ w (n+1) 18 [.val false (.tup (vs.map bf.d)),s1,.val false (.int t)]).sat Q:=by
 refine bH (d:=Yj) rfl rfl (by decide) ?_;first|apply aa|apply aq
 simp[Yj];apply aa;obtain⟨s',e1,e2⟩:=oY (ρ:=[.val false (.tup (vs.map bf.d)),s1,.val false (.int t),.val false (.int 0),.au,.au,.au]) (k:=1) (e:=ev (run Γ w n) (.var 1)) rfl hs1;simp[-jT,-iY,e1];refine cA (JSe vs t pl _ s' _) ?_ ?_ ⟨[],pl,0,.au,.au,.au,rfl,⟨rfl,rfl,rfl⟩,rfl,rfl,rfl⟩;.rintro d r _⟨done,rest,v,s4,s5,s6,rfl,⟨h4,h5,h6⟩,hr,hpl,hF⟩;cases rest with|nil=>cases hr|cons x rest=>
     obtain⟨rfl,rfl⟩:d=x.d/\r=rest.map Tr.d:=by simpa using hr
     have f:=hp x (by rw[hpl];simp);obtain⟨hg,_⟩:=jk f.w0 f.w1;have hse:∀v',v'=v+((if(rd vs x.w).s=0/\t<=x.h then x.l else 0)-(if(rd vs x.w).t=0/\t<=x.h+(rd vs x.w).h then x.l else 0))->v'=vR vs (done++[x]) t:=fun v' h=>by rw[h,hF];unfold vR;rw[Gp,cX,FP];omega
     have fin:∀v',v'=vR vs (done++[x]) t->JSe vs t pl (.val false (.tup (vs.map bf.d))) s' (.val false (.int t)) (rest.map Tr.d) [.val false (.tup (vs.map bf.d)),s',.val false (.int t),.val false (.int v'),.val false (.int x.h),.val false (.int x.w),.val false (.int x.l)]:=fun v' h=>⟨done++[x],rest,v',_,_,_,rfl,⟨rfl,rfl,rfl⟩,rfl,by rw[hpl];simp,h⟩;generalize rd vs x.w=u at*;simp[Tr.d,h4,h5,h6];by_cases c1:u.s=0/\t<=x.h
     . first|apply aa|apply aq
       simp[hg,T9,c1.1,c1.2];apply aa;simp;by_cases c2:u.t=0/\t<=x.h+u.h
       . first|apply aa|apply aq
         simp[hg,Ia,Hs,c2.1,c2.2];apply aa;simp;exact fin _ (hse _ (by rw[if_pos c1,if_pos c2];omega))
       . first|apply aa|apply aq
         by_cases c3:u.t=0;.simp[hg,Ia,Hs,c3,show ¬ t<=x.h+u.h from fun z=>c2 ⟨c3,z⟩];exact fin _ (hse _ (by rw[if_pos c1,if_neg c2];omega))
         .simp[hg,Ia,Hs,c3];exact fin _ (hse _ (by rw[if_pos c1,if_neg c2];omega))
     . have Xj:(ex (run Γ w n) w (.ifs (.and (.cmp .eq (.idx (.idx (.var 0) (.var 5)) (.con (.int 0))) (.con (.int 0))) (.cmp .ge (.var 4) (.var 2))) [.asg 3 (.bin .add (.var 3) (.var 6))] []) [.val false (.tup (vs.map bf.d)),s',.val false (.int t),.val false (.int v),.val false (.int x.h),.val false (.int x.w),.val false (.int x.l)])=.ok .next [.val false (.tup (vs.map bf.d)),s',.val false (.int t),.val false (.int v),.val false (.int x.h),.val false (.int x.w),.val false (.int x.l)]:=by
        by_cases c3:u.s=0;.simp[hg,T9,c3,show ¬ t<=x.h from fun z=>c1 ⟨c3,z⟩,eG]
        .simp[hg,T9,c3,eG]
       first|apply aa|apply aq
       rw[Xj];simp;by_cases c2:u.t=0/\t<=x.h+u.h
       . first|apply aa|apply aq
         simp[hg,Ia,Hs,c2.1,c2.2];apply aa;simp;exact fin _ (hse _ (by rw[if_neg c1,if_pos c2];omega))
       . first|apply aa|apply aq
         by_cases c3:u.t=0;.simp[hg,Ia,Hs,c3,show ¬ t<=x.h+u.h from fun z=>c2 ⟨c3,z⟩];exact fin _ (hse _ (by rw[if_neg c1,if_neg c2];omega))
         .simp[hg,Ia,Hs,c3];exact fin _ (hse _ (by rw[if_neg c1,if_neg c2];omega))
 . rintro _⟨done,rest,v,s4,s5,s6,rfl,_,hr,hpl,hF⟩;have hr':rest=[]:=by cases rest with|nil=>rfl|cons _ _=>cases hr
   subst hr';rw[List.append_nil]at hpl;subst hpl hF;rw[e2 _ rfl];first|apply aa|apply aq
   simp;exact q
end T
end
section
namespace T
open HH
theorem Ju{c:Call}{n x:Nat}{a b:P}{ρ:List Sl}:ex c n (.Ha x a b) ρ=(ev c a ρ).bind fun r ρ=>(ev c b ρ).bind fun u ρ=>match r,u with|.own ds,.own es=>(lift (put ρ x (.hold [ds,es])) ρ).bind fun ρ' _=>.ok .next ρ'|_,_=>.stuck:=(rfl)
theorem JF{c:Call}{n x:Nat}{i e:P}{ρ:List Sl}:ex c n (.Hb x i e) ρ=(bI (isVar i) (ev c i) ρ).bind fun k ρ=>(lift (fO ρ x k) ρ).bind fun _ ρ=>(ev c e ρ).bind fun r ρ=>jV ρ x ((cz ρ x).bind fun rows=>(dC k).bind fun k=>cg rows k fun row=>if row.length<lim then some (row++[r.d])else none):=(rfl)
theorem Ib{c:Call}{n x:Nat}{i:P}{ρ:List Sl}:ex c n (.Hc x i) ρ=(bI (isVar i) (ev c i) ρ).bind fun k ρ=>jV ρ x ((cz ρ x).bind fun rows=>(dC k).bind fun k=>cg rows k fun _=>some []):=(rfl)
theorem Fx{c:Call}{n x:Nat}{ρ:List Sl}:ex c n (.fz x) ρ=match ρ[x]?with|some (.own b ds)=>.ok .next (ρ.set x (.val b (.lst ds)))|some (.val _ _)=>.ok .next ρ|_=>.stuck:=(rfl)
theorem Ow{c:Call}{n x:Nat}{lX:List Nat}{t:P}{a b:List S}{ρ:List Sl}:ex c n (.WW x lX t a b) ρ=(lift (cz ρ x) ρ).bind fun rows ρ=>(iT (ev c t) (hide lX x (.lst (rows.map D.lst)) 0 ρ)).bind fun k _=>if k then eG c n a ρ else eG c n b ρ:=(rfl)
theorem oO{L:Nat}{f:Int->Int}:∃ns:List Int,bG L f=ns.map D.int/\ns.length=L:=⟨(List.range L).map fun(t:Nat)=>f (t:Int),by unfold bG;rw[List.map_map];rfl,by simp⟩
theorem Ff{M L:Nat}{F:Int->Int->Int}{p:Int}(h0:0<=p)(h1:p<(M:Int)):at' ((mat M L F).map D.lst) p=some (.lst (bG L (F p))):=by rw[jZ h0 (by simpa using h1),List.getElem?_map,lA (by omega),Int.toNat_of_nonneg h0];rfl
inductive M3(y:Int)(vs:List bf)(T:Int)(b:Nat)(a1 a3 a4 a5 a6 a7:Sl)(ρ:List Sl):Prop where|mk(x z:Int)(pl:List Tr)(s2 s8:Sl)(q0:ρ=[.own false [.int x,.int y,.int z],a1,s2,a3,a4,a5,a6,a7,s8,.au,.au,.au,.au,.au,.au,.au,.au,.au,.au,.au,.au,.au,.au])(q1:(s2=.own false (pl.map Tr.d)\/s2=.val false (.lst (pl.map Tr.d))))(q2:(∀x∈pl,gj vs T x))(q3:pl.length<=b)
inductive M6(l:List Sl)(V L:Nat)(ρ:List Sl):Prop where|mk(F:Int->Int->Int)(eV eO s12:Sl)(q0:ρ=l++[.hold (mat V L F),eV,eO,s12,.au,.au,.au,.au,.au,.au,.au,.au,.au,.au])(q1:fr eV=true)(q2:fr eO=true)(q3:fr s12=true)
inductive J6(vs:List bf)(T:Int)(l:List Sl)(V L:Nat)(r:List D)(ρ:List Sl):Prop where|mk(rest:List Tr)(F:Int->Int->Int)(eV eO s12:Sl)(q0:ρ=l++[.hold (mat V L F),eV,eO,s12,.au,.au,.au,.au,.au,.au,.au,.au,.au,.au])(q1:A3 (fr eV=true) (fr eO=true) (fr s12=true))(q2:r=rest.map Tr.d)(q3:∀x∈rest,gj vs T x)
inductive J14(vs:List bf)(pl:List Tr)(L:Nat)(l:List Sl)(a17 a18 a21 a22:Sl)(i:Nat)(ρ:List Sl):Prop where|mk(Gi:Sl)(Hn:Sl)(Dw:Sl)(q0:ρ=l++[Gi,a17,a18,Hn,Dw,a21,a22])(q1:(Gi=.own false (bG L (vR vs pl))\/Gi=.val false (.lst (bG L (vR vs pl)))))(q2:fr Hn=true)(q3:fr Dw=true)
inductive J15(l:List Sl)(i:Nat)(ρ:List Sl):Prop where|mk(LC:Sl)(Xk:Sl)(q0:ρ=l++[LC,Xk])(q1:fr LC=true)(q2:fr Xk=true)
theorem Fo{w n:Nat}{x y z m T:Int}{vs:List bf}{rws:List (List Int)}{wd:D}{pl:List Tr}{a6 a7 s8 a9 eV eO s12 vU mY xT:Sl}{Q:R->List Sl->Prop}(ok:xV m T vs rws)(hp:∀x∈pl,gj vs T x)(hpl:pl.length<=101)(q:∀x z:Int,Q (.val (.bl true)) [.own false [.int x,.int y,.int z]]):(eG (run Γ w (n+5)) w (bd uB 10) [.own false [.int x,.int y,.int z],.val false (fL m T vs rws wd),.val false (.lst (pl.map Tr.d)),.val false (.int m),.val false (.int T),.val false (.tup (vs.map bf.d)),a6,a7,s8,a9,eV,eO,s12,vU,mY,xT,.au,.au,.au,.au,.au,.au,.au]).sat (eQ 1 Q):=by
 have m0:=ok.m0;have m1:=ok.m1;have t0:=ok.t0;have t1:=ok.t1;have hvl:=ok.vl;have hv:=ok.hv;have hL:((T+1).toNat:Int)=T+1:=by omega
 have Ai:(T+1).toNat<=lim:=by show _<=16777216;omega
 have hT1:T+1<=1000000000:=by omega
 have hT2:-1000000000<=T+1:=by omega
 refine aO (l:=uB) (k:=10) rfl ?_;simp[hT1,hT2,Ai];refine gQ (Jx [.own false [.int x,.int y,.int z],.val false (fL m T vs rws wd),.val false (.lst (pl.map Tr.d)),.val false (.int m),.val false (.int T),.val false (.tup (vs.map bf.d)),a6,a7,s8,a9,eV,eO,s12,vU,mY,xT,.au,.au,.au,.au,.au,.au,.au]) _ (fun(k:Nat)=>D.int (vR vs pl (k:Int))) ⟨.au,rfl,rfl⟩ ?_ ?_;.rintro j hj _⟨s,rfl,hs⟩;simp[hs];refine BV (.inr ⟨_,rfl⟩) hp ?_;simp;exact⟨_,rfl,rfl⟩
 rintro _⟨s,rfl,hs⟩;rw[show(List.range (T+1).toNat).map (fun(k:Nat)=>D.int (vR vs pl (k:Int)))=bG (T+1).toNat (vR vs pl)from rfl];simp;refine aO (l:=uB) (k:=11) rfl ?_;simp;refine iy (.inr ⟨_,rfl⟩) (.inr ⟨_,rfl⟩) m0 m1 t0 t1 hv hp ?_;simp[wU];have hb:at' ((mat m.toNat (T+1).toNat (iR vs pl)).map D.lst) (m-1)=some (.lst (bG (T+1).toNat (iR vs pl (m-1)))):=Ff (by omega) (by omega);refine aO (l:=uB) (k:=12) rfl ?_;simp[hb];refine aO (l:=uB) (k:=13) rfl ?_;simp;generalize hMM:(mat m.toNat (T+1).toNat (iR vs pl)).map D.lst=MM at*;have abK:∀p:Int,0<=p->p<m->at' MM p=some (.lst (bG (T+1).toNat (iR vs pl p))):=fun p h0 h1=>by rw[<-hMM];exact Ff h0 (by omega)
 generalize Ri:(T+1).toNat=L at*;obtain⟨nb,hnb,lnb⟩:=oO (L:=L) (f:=iR vs pl (m-1));obtain⟨ns,hns,lns⟩:=oO (L:=L) (f:=vR vs pl);refine dF (J14 vs pl L [.own false [.int x,.int y,.int z],.val false (fL m T vs rws wd),.val false (.lst (pl.map Tr.d)),.val false (.int m),.val false (.int T),.val false (.tup (vs.map bf.d)),a6,a7,s8,a9,eV,eO,s12,vU,mY,xT] (.val false (.lst MM)) (.val false (.lst (bG L (iR vs pl (m-1))))) .au .au) ?_ ?_ ⟨_,_,_,rfl,.inl rfl,rfl,rfl⟩
 . rintro i _ hi⟨Gi,Hn,Dw,rfl,h16,h19,h20⟩;simp[h19];refine iD (fun ρ=>ρ=[.own false [.int x,.int y,.int z],.val false (fL m T vs rws wd),.val false (.lst (pl.map Tr.d)),.val false (.int m),.val false (.int T),.val false (.tup (vs.map bf.d)),a6,a7,s8,a9,eV,eO,s12,vU,mY,xT,.val false (.lst (bG L (vR vs pl))),.val false (.lst MM),.val false (.lst (bG L (iR vs pl (m-1)))),.val false (.int i),Dw,.au,.au]) ?_ ?_
   . rcases h16 with rfl|rfl;.simp[Fx]
     .simp[Fx]
   rintro _ rfl;first|apply aa|apply aq
   simp[Fx];apply aa;simp[Ju];refine rW ok hp (by omega) ?_;simp;refine Bf ok hp (by omega) ?_;simp[h20,Ri];apply aa;simp[Ow,hide];rw[hnb,hns];refine oH (.inr ⟨_,rfl⟩) (by omega) ?_;simp;refine oH (.inr ⟨_,rfl⟩) (by omega) ?_;simp;apply aa;simp[JF,rowAt,cg,lU,show nb.length<lim by show _<16777216;omega];apply aa;simp[Ib,cg,lU];apply aa;simp[xj];exact⟨_,_,_,rfl,.inr (by rw[hns]),rfl,rfl⟩
 . rintro _⟨Gi,Hn,Dw,rfl,h16,h19,h20⟩;simp;refine aO (l:=uB) (k:=14) rfl ?_;simp[show m<=1000000000 by omega,show-1000000000<=m by omega];refine dF (J15 [.own false [.int x,.int y,.int z],.val false (fL m T vs rws wd),.val false (.lst (pl.map Tr.d)),.val false (.int m),.val false (.int T),.val false (.tup (vs.map bf.d)),a6,a7,s8,a9,eV,eO,s12,vU,mY,xT,Gi,.val false (.lst MM),.val false (.lst (bG L (iR vs pl (m-1)))),Hn,Dw]) ?_ ?_ ⟨_,_,rfl,rfl,rfl⟩
   . rintro i _ hi⟨LC,Xk,rfl,h21,h22⟩;simp[h21];apply aa;simp[hT1,hT2,Ri,Ai];refine gQ (Jx [.own false [.int x,.int y,.int z],.val false (fL m T vs rws wd),.val false (.lst (pl.map Tr.d)),.val false (.int m),.val false (.int T),.val false (.tup (vs.map bf.d)),a6,a7,s8,a9,eV,eO,s12,vU,mY,xT,Gi,.val false (.lst MM),.val false (.lst (bG L (iR vs pl (m-1)))),Hn,Dw,.val false (.int (1+(i:Int))),Xk]) _ (fun(k:Nat)=>D.int (iR vs pl (1+(i:Int)) (k:Int))) ⟨.au,rfl,rfl⟩ ?_ ?_;.rintro j hj _⟨s,rfl,hs⟩;simp[hs];refine vf ok (.inr ⟨_,rfl⟩) hp (by omega) ?_;simp;exact⟨_,rfl,rfl⟩
     rintro _⟨s,rfl,hs⟩;rw[show(List.range L).map (fun(k:Nat)=>D.int (iR vs pl (1+(i:Int)) (k:Int)))=bG L (iR vs pl (1+(i:Int)))from rfl];have hm:=abK (1+(i:Int)) (by omega) (by omega);obtain⟨nr,hnr,lnr⟩:=oO (L:=L) (f:=iR vs pl (1+(i:Int)));rw[hnr]at hm ⊢;simp[h22];apply aa;simp[hm];refine oH (.inl ⟨_,rfl⟩) (by omega) ?_;simp;exact⟨_,_,rfl,rfl,rfl⟩
   .rintro _⟨LC,Xk,rfl,h21,h22⟩;rw[Je];refine aO (l:=uB) (k:=15) rfl ?_;simp;exact q x z
inductive J9(T:Int)(V L:Nat)(l:List Sl)(r:List D)(ρ:List Sl):Prop where|mk(rws:List (List Int))(mY xT:Sl)(q0:ρ=l++[.own false (rws.map cu),mY,xT,.au,.au,.au,.au,.au,.au,.au])(q1:(fr mY=true/\fr xT=true))(q2:(∀row∈rws,(row.length:Int)=T+1))(q3:rws.length+r.length=V)(q4:∀d∈r,∃(r1:List Int)(f:Int->Int),d=.tup [cu r1,.lst (bG L f)]/\(r1.length:Int)=T+1)
theorem JR{w n:Nat}{x y z:Int}{Q:R->List Sl->Prop}(q:∀x z:Int,Q (.val (.bl true)) [.own false [.int x,.int y,.int z]]):(run Γ w (n+6) 20 [.own false [.int x,.int y,.int z]]).sat Q:=by
 refine bH (d:=Ye) rfl rfl (by decide) ?_;refine aO (l:=uB) (k:=0) rfl ?_;simp[Ye];refine Ex fun m T vs rooms wd pl x z ok hp hpl=>?_;have m0:=ok.m0;have m1:=ok.m1;have t0:=ok.t0;have t1:=ok.t1;have hvl:=ok.vl;have hv:=ok.hv;simp;refine aO (l:=uB) (k:=1) rfl ?_;simp;refine jm (l:=uB) (k:=2) rfl (M3 y vs T 48 (.val false (.tup [.int m,.int T,.tup (vs.map bf.d),.tup (rooms.map cu),wd])) (.val false (.int m)) (.val false (.int T)) (.val false (.tup (vs.map bf.d))) (.val false (.tup (rooms.map cu))) (.val false wd)) ?_ ?_
 . simp;refine aV (by decide) (by decide) fun e x z e0 e1=>?_;by_cases ce:e=0
   . simp[ce];first|apply aa|apply aq
     simp;refine aV (by omega) (mH (by omega)) fun tl x z _ _=>?_;simp;apply aa;simp[show pl.length<=lim by show _<=16777216;omega];refine rK (Jx [.own false [.int x,.int y,.int z],.val false (.tup [.int m,.int T,.tup (vs.map bf.d),.tup (rooms.map cu),wd]),.val false (.lst (pl.map Tr.d)),.val false (.int m),.val false (.int T),.val false (.tup (vs.map bf.d)),.val false (.tup (rooms.map cu)),.val false wd,.val false (.int tl),.au,.au,.au,.au,.au,.au,.au,.au,.au,.au,.au,.au,.au,.au]) (fun d=>∃y:Tr,d=y.d/\gj vs T y) ⟨.au,rfl,rfl⟩ ?_ ?_
     . rintro d hd _⟨s,rfl,hs⟩;obtain⟨u,hu,rfl⟩:=List.mem_map.mp hd;have f:=hp u hu;simp[hs,aag,ZQ,(jk f.w0 f.w1).1,Hs];split;.exact⟨⟨u,rfl,f⟩,_,rfl,rfl⟩
       .exact⟨_,rfl,rfl⟩
     .rintro xs _⟨s,rfl,hs⟩hxl hx;obtain⟨Ah,rfl,hp'⟩:=GF hx;simp at hxl;simp;exact⟨x,z,Ah,_,_,rfl,.inl rfl,hp',by omega⟩
   .simp[ce];exact⟨x,z,pl,_,_,rfl,.inr rfl,hp,hpl⟩
 rintro _⟨x,z,pl,s2,s8,rfl,hs2,hp,hpl⟩;refine jm (l:=uB) (k:=3) rfl (M3 y vs T 101 (.val false (.tup [.int m,.int T,.tup (vs.map bf.d),.tup (rooms.map cu),wd])) (.val false (.int m)) (.val false (.int T)) (.val false (.tup (vs.map bf.d))) (.val false (.tup (rooms.map cu))) (.val false wd)) ?_ ?_
 . simp;refine aV (by decide) (by decide) fun e x z e0 e1=>?_;by_cases ce:e=0
   . simp[ce];first|apply aa|apply aq
     rcases hs2 with rfl|rfl
     . simp;refine vg (.inl ⟨_,rfl⟩) m0 m1 t0 t1 hvl hv hp hpl fun Ah r x z hr hp' hl'=>?_;rcases hr with rfl|rfl;.simp[wU];exact⟨x,z,Ah,_,_,rfl,.inl rfl,hp',hl'⟩
       .simp[wU];exact⟨x,z,Ah,_,_,rfl,.inr rfl,hp',hl'⟩
     . simp;refine vg (.inr ⟨_,rfl⟩) m0 m1 t0 t1 hvl hv hp hpl fun Ah r x z hr hp' hl'=>?_;rcases hr with rfl|rfl;.simp[wU];exact⟨x,z,Ah,_,_,rfl,.inl rfl,hp',hl'⟩
       .simp[wU];exact⟨x,z,Ah,_,_,rfl,.inr rfl,hp',hl'⟩
   .simp[ce];exact⟨x,z,pl,_,_,rfl,hs2,hp,by omega⟩
 rintro _⟨x,z,pl,s2,s8,rfl,hs2,hp,hpl⟩;have hL:((T+1).toNat:Int)=T+1:=by omega
 generalize Ri:(T+1).toNat=L at*;have Ai:L<=lim:=by show _<=16777216;omega--used
 refine jm (l:=uB) (k:=4) rfl (fun ρ=>ρ=[.own false [.int x,.int y,.int z],.val false (.tup [.int m,.int T,.tup (vs.map bf.d),.tup (rooms.map cu),wd]),s2,.val false (.int m),.val false (.int T),.val false (.tup (vs.map bf.d)),.val false (.tup (rooms.map cu)),.val false wd,s8,.hold (mat vs.length L fun _ _=>0),.au,.au,.au,.au,.au,.au,.au,.au,.au,.au,.au,.au,.au]) ?_ ?_
 . simp[zK,show vs.length<=lim by show _<=16777216;omega];rw[bL];refine jW (Jx [.own false [.int x,.int y,.int z],.val false (.tup [.int m,.int T,.tup (vs.map bf.d),.tup (rooms.map cu),wd]),s2,.val false (.int m),.val false (.int T),.val false (.tup (vs.map bf.d)),.val false (.tup (rooms.map cu)),.val false wd,s8,.au,.au,.au,.au,.au,.au,.au,.au,.au,.au,.au,.au,.au,.au]) (fun _=>bG L fun _=>0) ⟨.au,rfl,rfl⟩ ?_ ?_;.rintro d hd _⟨s,rfl,hs⟩;simp[hs,show 0<=T+1 by omega,show T+1<=16777216 by omega,zf];refine⟨?_,⟨_,rfl,rfl⟩⟩;rw[Ri];unfold bG;rw[List.map_const',List.length_range]
   .rintro _⟨s,rfl,hs⟩;rw[List.nil_append,qT (M:=vs.length) (by simp)];simp
 rintro _ rfl;refine jm (l:=uB) (k:=5) rfl (M6 [.own false [.int x,.int y,.int z],.val false (.tup [.int m,.int T,.tup (vs.map bf.d),.tup (rooms.map cu),wd]),.val false (.lst (pl.map Tr.d)),.val false (.int m),.val false (.int T),.val false (.tup (vs.map bf.d)),.val false (.tup (rooms.map cu)),.val false wd,s8] vs.length L) ?_ ?_
 . have key:(gB [10,11,12] false (eG (run Γ w (n+5)) w [.Ce 9 (.var 11) (.var 10) (.var 12)]) (pl.map Tr.d) [.own false [.int x,.int y,.int z],.val false (.tup [.int m,.int T,.tup (vs.map bf.d),.tup (rooms.map cu),wd]),.val false (.lst (pl.map Tr.d)),.val false (.int m),.val false (.int T),.val false (.tup (vs.map bf.d)),.val false (.tup (rooms.map cu)),.val false wd,s8,.hold (mat vs.length L fun _ _=>0),.au,.au,.au,.au,.au,.au,.au,.au,.au,.au,.au,.au,.au]).sat (fun fl ρ=>fl=.next/\M6 [.own false [.int x,.int y,.int z],.val false (.tup [.int m,.int T,.tup (vs.map bf.d),.tup (rooms.map cu),wd]),.val false (.lst (pl.map Tr.d)),.val false (.int m),.val false (.int T),.val false (.tup (vs.map bf.d)),.val false (.tup (rooms.map cu)),.val false wd,s8] vs.length L ρ):=by
    refine cA (J6 vs T [.own false [.int x,.int y,.int z],.val false (.tup [.int m,.int T,.tup (vs.map bf.d),.tup (rooms.map cu),wd]),.val false (.lst (pl.map Tr.d)),.val false (.int m),.val false (.int T),.val false (.tup (vs.map bf.d)),.val false (.tup (rooms.map cu)),.val false wd,s8] vs.length L) ?_ ?_ ⟨pl,_,.au,.au,.au,rfl,⟨rfl,rfl,rfl⟩,rfl,hp⟩;.rintro d r _⟨rest,F,eV,eO,s12,rfl,⟨h10,h11,h12⟩,hr,hp⟩;cases rest with|nil=>cases hr|cons u rest=>
        obtain⟨rfl,rfl⟩:d=u.d/\r=rest.map Tr.d:=by simpa using hr
        have f:=hp u (by simp);have:=f.h0;have:=f.o1;have:=f.w0;have:=f.w1;have:=(hv _ (jk f.w0 f.w1).2).h0;have r1:rowAt (mat vs.length L F) u.w=some (bG L (F u.w)):=sI (by omega) (by omega);have r3:cg (mat vs.length L F) u.w (setAt u.h (.int u.l))=some (mat vs.length L (up F u.w u.h u.l)):=sY (by omega) (by omega) (by omega) (by omega);simp[Tr.d,h10,h11,h12];apply aa;simp[Kl,r1,r3];exact⟨rest,_,_,_,_,rfl,⟨rfl,rfl,rfl⟩,rfl,fun y hy=>hp y (by simp[hy])⟩
    .rintro _⟨rest,F,eV,eO,s12,rfl,⟨h10,h11,h12⟩,hr,hp⟩;exact⟨rfl,F,eV,eO,s12,rfl,h10,h11,h12⟩
   rcases hs2 with rfl|rfl;.simp[kj];exact key
   .simp[kj];exact key
 rintro _⟨F,eV,eO,s12,rfl,h10,h11,h12⟩;refine aO (l:=uB) (k:=6) rfl ?_;simp[xj];refine aO (l:=uB) (k:=7) rfl ?_;simp--wide
 refine aO (l:=uB) (k:=8) rfl ?_;have hrl:=ok.rl;simp;generalize Rj:[Sl.own false [.int x,.int y,.int z],.val false (.tup [.int m,.int T,.tup (vs.map bf.d),.tup (rooms.map cu),wd]),.val false (.lst (pl.map Tr.d)),.val false (.int m),.val false (.int T),.val false (.tup (vs.map bf.d)),.val false (.tup (rooms.map cu)),.val false wd,s8,.val false (.lst ((mat vs.length L F).map D.lst)),eV,eO,s12]=l13;have abL:∀tl:List Sl,Sl.own false [.int x,.int y,.int z]::.val false (.tup [.int m,.int T,.tup (vs.map bf.d),.tup (rooms.map cu),wd])::.val false (.lst (pl.map Tr.d))::.val false (.int m)::.val false (.int T)::.val false (.tup (vs.map bf.d))::.val false (.tup (rooms.map cu))::.val false wd::s8::.val false (.lst ((mat vs.length L F).map D.lst))::eV::eO::s12::tl=l13++tl:=fun tl=>by rw[<-Rj];rfl
 rw[abL];refine cA (J9 T vs.length L l13) ?_ ?_ ⟨[],.au,.au,rfl,⟨rfl,rfl⟩,by simp,by simp[hrl],fun d hd=>?_⟩
 . rintro d r _⟨rws,mY,xT,rfl,⟨h14,h15⟩,hrw,hlen,hd⟩;obtain⟨r1,f,rfl,hr1⟩:=hd d (by simp);simp at hlen;subst Rj;simp[h14,h15];apply aa;simp[show T+1<=1000000000 by omega,show-1000000000<=T+1 by omega,Ri,Ai];refine gf (Jx [.own false [.int x,.int y,.int z],.val false (.tup [.int m,.int T,.tup (vs.map bf.d),.tup (rooms.map cu),wd]),.val false (.lst (pl.map Tr.d)),.val false (.int m),.val false (.int T),.val false (.tup (vs.map bf.d)),.val false (.tup (rooms.map cu)),.val false wd,s8,.val false (.lst ((mat vs.length L F).map D.lst)),eV,eO,s12,.own false (rws.map cu),.val false (cu r1),.val false (.lst (bG L f)),.au,.au,.au,.au,.au,.au,.au]) (fun d=>∃i,d=D.int i) ⟨.au,rfl,rfl⟩ ?_ ?_
   . rintro d hd' _⟨s,rfl,hs⟩;obtain⟨j,hj,rfl⟩:=List.mem_map.mp hd';simp at hj;have hj1:j<r1.length:=by omega
     have g1:lV (cu r1) (.int (j:Int))=some (.val (.int r1[j])):=by unfold cu;simp[lV,Ql,hj1]
     have g2:at' (bG L f) (j:Int)=some (.int (f (j:Int))):=jg (by omega) (by omega);simp[hs,g1,g2];exact⟨_,rfl,rfl⟩
   . rintro xs _⟨s,rfl,hs⟩hl hx;obtain⟨is,rfl⟩:=intsOf hx;simp at hl;simp[show rws.length<lim by show _<16777216;omega];refine⟨rws++[is],_,_,by rw[List.map_append];rfl,⟨rfl,rfl⟩,fun row hr=>?_,by simp;omega,fun d hd'=>hd d (by simp[hd'])⟩;rcases List.mem_append.mp hr with hr|hr;.exact hrw row hr
     .rw[List.mem_singleton.mp hr];omega
 .rintro _⟨rws,mY,xT,rfl,⟨h14,h15⟩,hrw,hlen,_⟩;simp at hlen;have ok2:xV m T vs rws:=⟨m0,m1,t0,t1,hvl,hv,hlen,hrw⟩;subst Rj;simp;refine aO (l:=uB) (k:=9) rfl ?_;simp;refine⟨⟨by omega,by omega⟩,?_⟩;exact Fo ok2 hp hpl fun x z=>q x z
 .rw[List.zip_map,List.map_map]at hd;obtain⟨p,hp,rfl⟩:=List.mem_map.mp hd;obtain⟨h1,h2⟩:=List.of_mem_zip hp;unfold mat at h2;obtain⟨k,_,e⟩:=List.mem_map.mp h2;exact⟨p.1,_,by show D.tup [cu p.1,D.lst p.2]=_;rw[<-e],ok.ro _ h1⟩
inductive J61(v:Sl)(r:List D)(ρ:List Sl):Prop where|mk(s1:Sl)(q0:ρ=[v,s1])(q1:fr s1=true)(q2:∀d∈r,∃i,d=D.int i)
theorem Ih(ns:List Int)(hn:ns.length<=63):∃as,run Γ 1000 40 21 [.val false (.lst (ns.map D.int))]=.ok (.val (.bl true)) as:=by
 suffices h:(run Γ 1000 40 21 [.val false (.lst (ns.map D.int))]).sat fun r _=>r=.val (.bl true)by obtain⟨a,ρ,e,rfl⟩:=sat_iff.mp h;exact⟨ρ,e⟩
 refine bH (d:=YD) rfl rfl (by decide) ?_;first|apply aa|apply aq
 have ec:cut (ns.map D.int) none (some 63)=ns.map D.int:=by unfold cut cV;simp;exact List.take_of_length_le (by simp;omega)
 have hl:1+ns.length<=lim:=by show _<=16777216;omega
 simp[YD,Hu,part,Bo,ec,hl];refine cA (J61 (.val false (.lst (ns.map D.int)))) ?_ ?_ ?_;.rintro d r _⟨s1,rfl,h1,hd⟩;obtain⟨x,rfl⟩:=hd d (by simp);simp[h1];apply aa;simp;refine Gd fun a b c=>?_;simp;refine JR fun x z=>?_;simp;exact⟨_,rfl,rfl,fun d h=>hd d (List.mem_cons_of_mem _ h)⟩
 . rintro _⟨s1,rfl,h1,hd⟩;first|apply aa|apply aq
   simp
 . refine⟨.au,rfl,rfl,fun d hd=>?_⟩;simp at hd;rcases hd with rfl|⟨i,_,rfl⟩;.exact⟨_,rfl⟩
   .exact⟨_,rfl⟩
end T
end
namespace PySem.W.Fast
def tw12269920322028005205:=0
def tw6066294441883999667:=0
def tw2119455262937009207:=0
def tw7904482549844616337:=0
def tw16586887672591559299:=0
def tw8524933167854698149:=0
def tw10214563216392822572:=0
def tw10800565747938762481:=0
def tw7848085890672295410:=0
def tw2489860432020075548:=0
def tw12978166828447656029:=0
def tw1162131608450123073:=0
def tw3906173763684804934:=0
def tw9158586652488512664:=0
def tw1957773938668290683:=0
def tw15501340758303656945:=0
def tw2391369173594019760:=0
def tw12922118330156077266:=0
def tw9551491831386025016:=0
def tw5371275963017979106:=0
def tw16289425522926025818:=0
def tw16866942681151177568:=0
def tw12451178003111844017:=0
def tw11443284306286166118:=0
def tw11997573764546544710:=0
def tw8959581734144542835:=0
def tw11092583674025881570:=0
def tw2442627171250748916:=0
def tw15934660487646187404:=0
def tw8445584775998054619:=0
def tw10963316271473081795:=0
def tw14918771204938247184:=0
def tw3004631823874026523:=0
def tw18408433566083882286:=0
def tw1855462835752854857:=0
def tw17558305254581776662:=0
def tw10834836524598362453:=0
def tw2487365267370983427:=0
def tw2703383315335426838:=0
def tw1036088891018965314:=0
def tw15389453266677653292:=0
def tw9721162494398897014:=0
def tw6202441361828645049:=0
def tw2079367404559187882:=0
def tw15954995136597602517:=0
def tw8578891585868810443:=0
def tw207340611705407883:=0
def tw6130093271186835495:=0
def tw16213385837289586619:=0
def tw14575041849753179452:=0
def tw8759361440178708642:=0
def tw16018336935666232630:=0
def tw11705913561297858398:=0
def tw17823434030573417982:=0
def tw8307689595607684925:=0
def tw11773707379165677431:=0
def tw17212407426606197450:=0
def tw4320682145838628728:=0
def tw1242256125674632696:=0
def tw14443384491855800999:=0
def tw18276836610112615813:=0
def tw16478578716783373681:=0
def tw7487350834385791685:=0
def tw15466156328539958037:=0
def tw7045964466923718232:=0
def tw18120976512437156100:=0
def tw14303884188419384538:=0
def tw16861852129906429390:=0
def tw13905139521164087743:=0
def tw14235632163942392974:=0
def tw5228967420311937718:=0
def tw15619674066219116969:=0
def tw17724628952870383798:=0
def tw10913313920743831619:=0
def tw9922423981601964467:=0
def tw1325775146906094947:=0
def tw3162376907443647805:=0
def tw7136529772719880295:=0
def tw8093910969117281381:=0
def tw5485508378777776311:=0
def tw3018364256990649726:=0
def tw10845411080883112332:=0
def tw11917643277643423206:=0
def tw5731853932861428927:=0
def tw13525248807329539834:=0
def tw15620400612275982785:=0
def tw14569932173003673309:=0
def tw4998219798979250153:=0
def tw11473000693944155531:=0
def tw2120413432701802808:=0
def tw14975053858596554702:=0
def tw15151900425951462286:=0
def tw10342993101823554536:=0
def tw2398231686133039482:=0
def tw11051392194437152158:=0
def tw10775879283591160495:=0
def tw4677697601054606353:=0
def tw7877755629486879034:=0
def tw2686809201277861903:=0
def tw17801692312524494001:=0
def tw13430084610885365842:=0
def tw9341676584705374812:=0
def tw25241590110985490:=0
def tw11426975663844627963:=0
def tw11656120667251851253:=0
def tw14633081366783719813:=0
def tw13807736996269266431:=0
def tw7063370783870685666:=0
def tw6120501304464452635:=0
def tw3371481428117829589:=0
def tw16978623489306210160:=0
def tw5000990526817703259:=0
def tw3312196515707663074:=0
def tw7955628713104154446:=0
def tw14124355028249413707:=0
def tw9499607706227027344:=0
def tw7662993136180290324:=0
def tw8441898839077635712:=0
def tw2500629899773037980:=0
def tw9872167391565868006:=0
def tw4118257111692253852:=0
def tw7101357908919494043:=0
def tw49972896041921882:=0
def tw667107992628023333:=0
def tw4660685989917541312:=0
end PySem.W.Fast
namespace T
open PySem L2 PySem.Spec PyProof.Rows HH
theorem Uo{P:List Value → Prop}{n:Nat}(h:∀(a:Value)(us:List Value),us.length=n → P (a::us))(us:List Value)(hl:us.length=n+1):P us:=by cases us with|nil=>cases hl|cons a us=>exact h a us (Nat.succ.inj hl)
theorem lk0{P:List Value → Prop}(h:P [])(us:List Value)(hl:us.length=0):P us:=by cases us with|nil=>exact h|cons a us=>cases hl
theorem DN{P:List Value → Prop}(h:∀a,P [a]):∀us:List Value,us.length=1 → P us:=Uo fun a=>lk0 (h a)
theorem By{P:List Value → Prop}(h:∀a b,P [a,b]):∀us:List Value,us.length=2 → P us:=Uo fun a=>DN (h a)
theorem Ep{P:List Value → Prop}(h:∀a b c,P [a,b,c]):∀us:List Value,us.length=3 → P us:=Uo fun a=>By (h a)
theorem Ef{P:List Value → Prop}(h:∀a b c d,P [a,b,c,d]):∀us:List Value,us.length=4 → P us:=Uo fun a=>Ep (h a)
theorem lk5{P:List Value → Prop}(h:∀a b c d e,P [a,b,c,d,e]):∀us:List Value,us.length=5 → P us:=Uo fun a=>Ef (h a)
local macro_rules|`(term|‹$p›)=>`(fun _ _ _ _ _ _=>$p)
structure Txt(K:PySem.W.Frag):Prop where
 D0:cL K "hour_out" s0
 D1:cL K "changes_at" s1
 D2:cL K "stands_at" s2
 D3:cL K "brought_by" s3
 D4:cL K "sent_from" s4
 D5:cL K "roomiest_net" s5
 D6:cL K "cal_stands" s6
 D7:cL K "cal_brought" s7
 D8:cL K "cal_sent" s8
 D9:cL K "_law_pool" s9
 D10:cL K "_law_next" eV
 D11:cL K "_law_wide" eO
 D12:cL K "_law_roads" s12
 D13:cL K "_law_route" vU
 D14:cL K "_law_flow" mY
 D15:cL K "_law_stocks" xT
 D16:cL K "_law_case" Gi
 D17:cL K "_law_back" Zi
 D18:cL K "_law_sent" Ze
 D19:cL K "_law_told" Hn
 D20:cL K "_law_one" Dw
 D21:cL K "law" LC
 Hl:PySem.W.nsIn K mainGlobals "abs"=some none
 Hm:PySem.W.nsIn K mainGlobals "all"=some none
 yE:PySem.W.nsIn K mainGlobals "bool"=some none
 rN:PySem.W.nsIn K mainGlobals "int"=some none
 dW:PySem.W.nsIn K mainGlobals "isinstance"=some none
 ig:PySem.W.nsIn K mainGlobals "len"=some none
 iQ:PySem.W.nsIn K mainGlobals "list"=some none
 lO:PySem.W.nsIn K mainGlobals "max"=some none
 jO:PySem.W.nsIn K mainGlobals "min"=some none
 aU:PySem.W.nsIn K mainGlobals "range"=some none
 ik:PySem.W.nsIn K mainGlobals "sorted"=some none
 rM:PySem.W.nsIn K mainGlobals "sum"=some none
 cP:PySem.W.nsIn K mainGlobals "tuple"=some none
 lQ:PySem.W.nsIn K mainGlobals "zip"=some none
noncomputable def oF{K:PySem.W.Frag}(T:Txt K):Nat->Addr:=fun k=>0
structure Oks(Pg:Program)(w:World)(K:PySem.W.Frag)(mg:Str->Option Value)(base:Heap)(cl:Nat->Addr)(n:Nat):Prop where
 c0:aH Pg w K mg base n (run Γ 1000 n) 0 "hour_out" 3
 c1:aH Pg w K mg base n (run Γ 1000 n) 1 "changes_at" 3
 c2:aH Pg w K mg base n (run Γ 1000 n) 2 "stands_at" 4
 c3:aH Pg w K mg base n (run Γ 1000 n) 3 "brought_by" 3
 c4:aH Pg w K mg base n (run Γ 1000 n) 4 "sent_from" 3
 c5:aH Pg w K mg base n (run Γ 1000 n) 5 "roomiest_net" 1
 c6:aH Pg w K mg base n (run Γ 1000 n) 6 "cal_stands" 4
 c7:aH Pg w K mg base n (run Γ 1000 n) 7 "cal_brought" 2
 c8:aH Pg w K mg base n (run Γ 1000 n) 8 "cal_sent" 2
 c9:aH Pg w K mg base n (run Γ 1000 n) 9 "_law_pool" 1
 KY:aH Pg w K mg base n (run Γ 1000 n) 10 "_law_next" 2
 Xl:aH Pg w K mg base n (run Γ 1000 n) 11 "_law_wide" 2
 c12:aH Pg w K mg base n (run Γ 1000 n) 12 "_law_roads" 2
 c13:aH Pg w K mg base n (run Γ 1000 n) 13 "_law_route" 4
 c14:aH Pg w K mg base n (run Γ 1000 n) 14 "_law_flow" 4
 Xm:aH Pg w K mg base n (run Γ 1000 n) 15 "_law_stocks" 4
 c16:aH Pg w K mg base n (run Γ 1000 n) 16 "_law_case" 1
 c17:aH Pg w K mg base n (run Γ 1000 n) 17 "_law_back" 5
 c18:aH Pg w K mg base n (run Γ 1000 n) 18 "_law_sent" 3
 c19:aH Pg w K mg base n (run Γ 1000 n) 19 "_law_told" 2
 Y7:aH Pg w K mg base n (run Γ 1000 n) 20 "_law_one" 1
 c21:aH Pg w K mg base n (run Γ 1000 n) 21 "law" 1
set_option maxHeartbeats 0 in
theorem FQ{Pg:Program}{w:World}{K:PySem.W.Frag}{mg:Str->Option Value}{base:Heap}(T:Txt K)(X:K.In base)(G:base.Ns mainGlobals mg):∀n,Oks Pg w K mg base (oF T) n
 |0=>{
   c0:=dm (ps:=["net","hour","way"]) X G T.D0 rfl ‹Ep fun _ _ _=>rfl›
   c1:=dm (ps:=["net","plan","place"]) X G T.D1 rfl ‹Ep fun _ _ _=>rfl›
   c2:=dm (ps:=["net","plan","place","hour"]) X G T.D2 rfl ‹Ef fun _ _ _ _=>rfl›
   c3:=dm (ps:=["net","plan","hour"]) X G T.D3 rfl ‹Ep fun _ _ _=>rfl›
   c4:=dm (ps:=["net","plan","hour"]) X G T.D4 rfl ‹Ep fun _ _ _=>rfl›
   c5:=dm (ps:=["calendar"]) X G T.D5 rfl ‹DN fun _=>rfl›
   c6:=dm (ps:=["calendar","plan","place","hour"]) X G T.D6 rfl ‹Ef fun _ _ _ _=>rfl›
   c7:=dm (ps:=["calendar","plan"]) X G T.D7 rfl ‹By fun _ _=>rfl›
   c8:=dm (ps:=["calendar","plan"]) X G T.D8 rfl ‹By fun _ _=>rfl›
   c9:=dm (ps:=["cell"]) X G T.D9 rfl ‹DN fun _=>rfl›
   KY:=dm (ps:=["pool","base"]) X G T.D10 rfl ‹By fun _ _=>rfl›
   Xl:=dm (ps:=["pool","base"]) X G T.D11 rfl ‹By fun _ _=>rfl›
   c12:=dm (ps:=["pool","many"]) X G T.D12 rfl ‹By fun _ _=>rfl›
   c13:=dm (ps:=["pool","many","last","ways"]) X G T.D13 rfl ‹Ef fun _ _ _ _=>rfl›
   c14:=dm (ps:=["pool","many","last","ways"]) X G T.D14 rfl ‹Ef fun _ _ _ _=>rfl›
   Xm:=dm (ps:=["many","last","ways","plan"]) X G T.D15 rfl ‹Ef fun _ _ _ _=>rfl›
   c16:=dm (ps:=["pool"]) X G T.D16 rfl ‹DN fun _=>rfl›
   c17:=dm (ps:=["pool","many","last","ways","plan"]) X G T.D17 rfl ‹lk5 fun _ _ _ _ _=>rfl›
   c18:=dm (ps:=["ways","plan","hour"]) X G T.D18 rfl ‹Ep fun _ _ _=>rfl›
   c19:=dm (ps:=["found","due"]) X G T.D19 rfl ‹By fun _ _=>rfl›
   Y7:=dm (ps:=["pool"]) X G T.D20 rfl ‹DN fun _=>rfl›
   c21:=dm (ps:=["script"]) X G T.D21 rfl ‹DN fun _=>rfl›}|n+1=>have ih:=FQ (Pg:=Pg) (w:=w) (base:=base) T X G n
   {c0:=dh (ps:=["net","hour","way"]) X G T.D0 rfl rfl ‹Ep fun _ _ _=>rfl› fun _ _ F=>d0 (cl:=oF T) F
    c1:=dh (ps:=["net","plan","place"]) X G T.D1 rfl rfl ‹Ep fun _ _ _=>rfl› fun _ _ F=>d1 (cl:=oF T) F ih.c0
    c2:=dh (ps:=["net","plan","place","hour"]) X G T.D2 rfl rfl ‹Ef fun _ _ _ _=>rfl› fun _ _ F=>d2 (cl:=oF T) F (PySem.W.mg_none_of X G T.rM) ih.c1
    c3:=dh (ps:=["net","plan","hour"]) X G T.D3 rfl rfl ‹Ep fun _ _ _=>rfl› fun _ _ F=>d3 (cl:=oF T) F ih.c2
    c4:=dh (ps:=["net","plan","hour"]) X G T.D4 rfl rfl ‹Ep fun _ _ _=>rfl› fun _ _ F=>d4 (cl:=oF T) F (PySem.W.mg_none_of X G T.rM) ih.c1
    c5:=dh (ps:=["calendar"]) X G T.D5 rfl rfl ‹DN fun _=>rfl› fun _ _ F=>d5 (cl:=oF T) F (PySem.W.mg_none_of X G T.lO) (PySem.W.mg_none_of X G T.cP) (PySem.W.mg_none_of X G T.lQ)
    c6:=dh (ps:=["calendar","plan","place","hour"]) X G T.D6 rfl rfl ‹Ef fun _ _ _ _=>rfl› fun _ _ F=>d6 (cl:=oF T) F ih.c5 ih.c2
    c7:=dh (ps:=["calendar","plan"]) X G T.D7 rfl rfl ‹By fun _ _=>rfl› fun _ _ F=>d7 (cl:=oF T) F (PySem.W.mg_none_of X G T.aU) ih.c3 ih.c5
    c8:=dh (ps:=["calendar","plan"]) X G T.D8 rfl rfl ‹By fun _ _=>rfl› fun _ _ F=>d8 (cl:=oF T) F (PySem.W.mg_none_of X G T.aU) ih.c5 ih.c4
    c9:=dh (ps:=["cell"]) X G T.D9 rfl rfl ‹DN fun _=>rfl› fun _ _ F=>d9 (cl:=oF T) F (PySem.W.mg_none_of X G T.Hl) (PySem.W.mg_none_of X G T.lO)
    KY:=dh (ps:=["pool","base"]) X G T.D10 rfl rfl ‹By fun _ _=>rfl› fun _ _ F=>d10 (cl:=oF T) F
    Xl:=dh (ps:=["pool","base"]) X G T.D11 rfl rfl ‹By fun _ _=>rfl› fun _ _ F=>d11 (cl:=oF T) F ih.KY
    c12:=dh (ps:=["pool","many"]) X G T.D12 rfl rfl ‹By fun _ _=>rfl› fun _ _ F=>d12 (cl:=oF T) F (PySem.W.mg_none_of X G T.ig) (PySem.W.mg_none_of X G T.aU) ih.KY ih.Xl
    c13:=dh (ps:=["pool","many","last","ways"]) X G T.D13 rfl rfl ‹Ef fun _ _ _ _=>rfl› fun _ _ F=>d13 (cl:=oF T) F (PySem.W.mg_none_of X G T.ig) (PySem.W.mg_none_of X G T.jO) (PySem.W.mg_none_of X G T.aU) ih.KY
    c14:=dh (ps:=["pool","many","last","ways"]) X G T.D14 rfl rfl ‹Ef fun _ _ _ _=>rfl› fun _ _ F=>d14 (cl:=oF T) F (PySem.W.mg_none_of X G T.iQ) (PySem.W.mg_none_of X G T.aU) (PySem.W.mg_none_of X G T.ik) ih.KY ih.c13 ih.Xl
    Xm:=dh (ps:=["many","last","ways","plan"]) X G T.D15 rfl rfl ‹Ef fun _ _ _ _=>rfl› fun _ _ F=>d15 (cl:=oF T) F (PySem.W.mg_none_of X G T.aU)
    c16:=dh (ps:=["pool"]) X G T.D16 rfl rfl ‹DN fun _=>rfl› fun _ _ F=>d16 (cl:=oF T) F (PySem.W.mg_none_of X G T.rN) (PySem.W.mg_none_of X G T.ig) (PySem.W.mg_none_of X G T.jO) (PySem.W.mg_none_of X G T.aU) (PySem.W.mg_none_of X G T.cP) (PySem.W.mg_none_of X G T.lQ) ih.c14 ih.KY ih.c12 ih.Xm ih.Xl
    c17:=dh (ps:=["pool","many","last","ways","plan"]) X G T.D17 rfl rfl ‹lk5 fun _ _ _ _ _=>rfl› fun _ _ F=>d17 (cl:=oF T) F (PySem.W.mg_none_of X G T.ig) (PySem.W.mg_none_of X G T.iQ) (PySem.W.mg_none_of X G T.jO) (PySem.W.mg_none_of X G T.aU) (PySem.W.mg_none_of X G T.ik) ih.KY ih.Xm
    c18:=dh (ps:=["ways","plan","hour"]) X G T.D18 rfl rfl ‹Ep fun _ _ _=>rfl› fun _ _ F=>d18 (cl:=oF T) F
    c19:=dh (ps:=["found","due"]) X G T.D19 rfl rfl ‹By fun _ _=>rfl› fun _ _ F=>d19 (cl:=oF T) F (PySem.W.mg_none_of X G T.Hm) (PySem.W.mg_none_of X G T.yE) (PySem.W.mg_none_of X G T.rN) (PySem.W.mg_none_of X G T.dW) (PySem.W.mg_none_of X G T.iQ)
    Y7:=dh (ps:=["pool"]) X G T.D20 rfl rfl ‹DN fun _=>rfl› fun _ _ F=>d20 (cl:=oF T) F (PySem.W.mg_none_of X G T.lO) (PySem.W.mg_none_of X G T.aU) (PySem.W.mg_none_of X G T.cP) (PySem.W.mg_none_of X G T.lQ) ih.c17 ih.c16 ih.KY ih.c18 ih.Xm ih.c19 ih.c7 ih.c8 ih.c6
    c21:=dh (ps:=["script"]) X G T.D21 rfl rfl ‹DN fun _=>rfl› fun _ _ F=>d21 (cl:=oF T) F ih.Y7 ih.c9}
theorem gin{K:PySem.W.Frag}{x:Str}{i:Int}{t:Tok}(a:PySem.W.nsIn K mainGlobals x=some (some (Value.int i t))):∃t,PySem.W.nsIn K mainGlobals x=some (some (Value.int i t)):=⟨t,a⟩
set_option maxHeartbeats 0 in
theorem Qw{Pg:Program}{w:World}{K:PySem.W.Frag}{mg:Str->Option Value}{h:Heap}{fa:Addr}(T:Txt K)(X:K.In h)(G:h.Ns mainGlobals mg)(hmg:mg "law"=some (.ref fa)):∃fd:FuncData,(∀(s:Shared)(u:Value),BindsTo s fd ⟨[u],[]⟩ [("script",u)])/\∀base:Heap,K.In base->base.Ns mainGlobals mg->cW Pg w K mg base jJ 40 fa fd ["script"] (j6 K 1 (run Γ 1000 40 21)):=by
 obtain⟨f,fd,a,F⟩:=T.D21.ex;have e:=hmg.symm.trans (PySem.W.mg_of X G a);cases e;refine⟨fd,fun s u=>?_,fun base kb nb=>?_⟩;.obtain⟨oc,od,kV,doc,pm,an,cdv,ct,osl,rfl,lk,hcd⟩:=F.ex;exact .of_eq rfl
 .have ih:=FQ (Pg:=Pg) (w:=w) (base:=base) T kb nb 39;exact d21 (cl:=oF T) (k:=39) (n:=1000) (c:=run Γ 1000 39) F ih.Y7 ih.c9
end T
open PySem PySem.W PyProof.Rows
set_option maxRecDepth 100000 in
set_option maxHeartbeats 0 in
theorem PySem.Challenge.cw_hourhaul_k61_brought_sent_stands_holds : PySem.Challenge.rw_hourhaul_k61_brought_sent_stands.Holds := by
 w_on;o_law;k_head;(case hw=>w_witness2);k_fill;refine L2.Dy (l:=PySem.Challenge.rw_hourhaul_k61_brought_sent_stands) (n:=63) (k:=40) (x:="script") (CX:=L2.jJ) (sp:=fun K=>HH.j6 K 1 (HH.run T.Γ 1000 40 21)) rfl (by decide) rfl ⟨rfl,by decide,by decide⟩ (fun w h Y=>PySem.W.kIn_of Y) ?F ?S ?C;case F=>
  intro w mg fa h KX G hmg;refine T.Qw ?T KX G hmg;constructor;iterate 22(· refine' HH.Qv ?a ?l ?c ?k;case a|l|c|k=>k_is)
  all_goals k_is
 case S=>intro K H a ns hl hO hS;obtain⟨as,e⟩:=T.Ih ns hl;exact HH.Bm hS e
 case C=>exact fun H s e s' z=>z
