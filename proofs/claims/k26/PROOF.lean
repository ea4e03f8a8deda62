import PyProof.Rows.All
import Wide.All
import OpenK.AllK
import Wide.FinOn
import Lean
import PyProof.EqAt
import PyProof.EqKinds
import PyProof.TupleCall
import PySem.Str
import PySem.Builtin.Int.W1All
import PyProof.NeKinds
import PyProof.ZipIter
import PyProof.SumWalkG
import PyProof.MinMaxWalk
import PyProof.WalksMore
import PyProof.SeqI3
import PyProof.WalkInts
import PyProof.Rows.CallKwBuiltin
import PyProof.Rows.Tup
import PyProof.CollectIter
import PyProof.EnumMake
import PyProof.TupleOfSeq
import PyProof.ListNew
import PyProof.ReprLoop
import PyProof.StationsW
import PyProof.ExcClass3
import PyProof.Rows.CatchBare
import OpenK.KOwn
import KE.KIsAll
import PyProof.NsDelKeeps
import PyProof.RulesAs
import PyProof.ExcArgsOwn
import PyProof.ListRange
import KE.RegKIsAll
import KE.KRevIter
import PyProof.Rows.SortRuns
import KE.KSortTup
import PyProof.DictWalks
import KE.KDictList
import PyProof.ExcBaseAll.ValueError
import PySem.Challenge.RW_hourhaul_k26_streams_parted_into_rounds
set_option Elab.async false
set_option linter.all false
set_option maxRecDepth 100000
set_option genSizeOf false
set_option compiler.extract_closed false
set_option bootstrap.genMatcherCode false
open List(replicate getElem?_set_ne getElem?_set_self mem_map mem_cons size_toArray map_cons length_map map_map length_cons getElem?_append_left all_eq_true getElem?_map getElem?_eq_getElem mem_cons_of_mem mem_of_getElem? mem_append nodup_cons length_append lookup_cons mem_singleton mem_append_right append_nil drop_eq_getElem_cons all_cons any_cons append_assoc find?_cons getElem_mem mem_cons_self getElem?_replicate getD not_mem_nil mem_filter filterMap_cons replicate_succ foldl getElem?_cons_succ length_nil mem_range getElem?_append_right reverse_cons sum_cons mem_append_left length_take length_replicate length_range nodup_append map_set map_append foldl_append of_mem_zip flatten_cons foldl_cons map_nil nil_append drop_eq_nil_iff map_congr_left forIn_cons forIn_nil map_id map)
open PySem.W(mg_none_of keepIn methodObj mg_of kitx_dict)
open PySem.Heap(get?_push_of_some lt_size get?_push_size size_push get?_update_other SameBut get?_update_self IsTuple IsList)
open Nat(le_refl ne_of_lt lt_of_lt_of_le le_trans zero_le lt_irrefl le_of_lt ne_of_gt le_succ)
open PySem.Builtin.SmallTypes(nextOf ownedTupleIsFree ownedTupleHandOut)
open Bool(and_eq_true or_eq_true false_eq_true not_eq_true')
open PySem.Builtin.Tuple(tupleExact tupleItemsOf)
open Option(map_eq_some_iff bind_some isSome_map getD_none)
open PySem.Builtin.List(listExtendWith listTooLong listLengthHint listSameRef)
open PySem.Builtin.Slice(slicePlaces sliceAdjust sliceApplied)
open Array(length_toList toList)
open PySem.SeqAt.EqAt(int_str str_int none_bool none_int none_str bool_none bool_bool bool_int bool_str int_none int_bool int_int str_none str_bool str_str)
open PySem.F(slot_tuple_add entry_tuple_add args_tuple_add_2 slot_tuple_mul)
open PySem.SeqAt.RcAt(lists_lengths)
open Int(sub_zero mul_add add_mul)
open PySem.SeqAt.RcNeAt(int_list str_list list_int list_str)
section
namespace L2
open PySem PySem.Spec PyProof.Rows
noncomputable abbrev Key:=Sum Int Str
noncomputable def oY:Key->Value->Bool|.inl k,v=>Value.isInt k v|.inr x,v=>Value.isStrOf x v
noncomputable def acr(w:World):Key->Int|.inl k=>hashInt k|.inr x=>hashStr w x
theorem bN:∀{k:Key}{v:Value},oY k v=true->(∃i t,k=Sum.inl i/\v=Value.int i t)\/(∃x t,k=Sum.inr x/\v=Value.str x t)|.inl i,v,h=>by obtain⟨t,e⟩:=Value.isInt_shape (k:=i) (v:=v) h;exact .inl ⟨i,t,rfl,e⟩|.inr x,v,h=>by obtain⟨t,e⟩:=Value.isStrOf_shape (x:=x) (v:=v) h;exact .inr ⟨x,t,rfl,e⟩
theorem zO(i:Int)(t:Tok):oY (.inl i) (.int i t)=true:=by simp[oY,Value.isInt]
theorem Ak(x:Str)(t:Tok):oY (.inr x) (.str x t)=true:=by simp[oY,Value.isStrOf]
theorem Pz(a b:Int):decide ((Sum.inl a:Key)=Sum.inl b)=(a==b):=by
 by_cases e:a=b;.subst e;simp
 .have h:¬(Sum.inl a:Key)=Sum.inl b:=fun q=>e (Sum.inl.inj q);rw[decide_eq_false h];exact(beq_eq_false_iff_ne.mpr e).symm
theorem QC(a b:Str):decide ((Sum.inr a:Key)=Sum.inr b)=decide (a=b):=by
 by_cases e:a=b;.subst e;simp
 .have h:¬(Sum.inr a:Key)=Sum.inr b:=fun q=>e (Sum.inr.inj q);rw[decide_eq_false h,decide_eq_false e]
theorem O1(a:Int)(b:Str):decide ((Sum.inl a:Key)=Sum.inr b)=false:=decide_eq_false (fun q=>nomatch q)
theorem MN(a:Str)(b:Int):decide ((Sum.inr a:Key)=Sum.inl b)=false:=decide_eq_false (fun q=>nomatch q)
noncomputable def bL(prog:Program)(w:World):PySem.KeyKind prog w Key where
 is:=oY;hash:=acr w;inj:=fun v a b ha hb=>by
  rcases bN ha with⟨i,t,rfl,rfl⟩|⟨x,t,rfl,rfl⟩
  . rcases bN hb with⟨j,u,rfl,e⟩|⟨y,u,rfl,e⟩;.injection e with e1 _;rw[e1]
    .exact nomatch e
  . rcases bN hb with⟨j,u,rfl,e⟩|⟨y,u,rfl,e⟩;.exact nomatch e
    .injection e with e1 _;rw[e1]
 byValue:=fun k v h=>by rcases bN h with⟨i,t,rfl,rfl⟩|⟨x,t,rfl,rfl⟩<;>rfl
 pyHash:=fun hv h=>by
  rcases bN hv with⟨i,t,rfl,rfl⟩|⟨x,t,rfl,rfl⟩;.exact wpAny_pyHash_int h
  .exact wpAny_pyHash_str h
 eqBool:=fun hu hv h=>by
  rcases bN hu with⟨i,t,rfl,rfl⟩|⟨x,t,rfl,rfl⟩
  . rcases bN hv with⟨j,u,rfl,rfl⟩|⟨y,u,rfl,rfl⟩;.rw[Pz]at h;exact wpAny_eqBool_int h
    .rw[O1]at h;exact int_str i t y u _ _ _ _ h
  . rcases bN hv with⟨j,u,rfl,rfl⟩|⟨y,u,rfl,rfl⟩;.rw[MN]at h;exact str_int x t j u _ _ _ _ h
    .rw[QC]at h;exact wpAny_eqBool_str h
 «strs»:=fun k x t v h=>by
  rcases bN h with⟨i,u,rfl,e⟩|⟨y,u,rfl,e⟩;.exact nomatch e
  .injection e with e1 _;subst e1;cases v<;>rfl
theorem uJ(prog:Program)(w:World)(i:Int)(t:Tok):(bL prog w).is (.inl i) (.int i t)=true:=zO i t
theorem vC(prog:Program)(w:World)(x:Str)(t:Tok):(bL prog w).is (.inr x) (.str x t)=true:=Ak x t
inductive V where|non|bl(b:Bool)|int(i:Int)|str(x:Str)|byt(b:Array UInt8)|flt(b:UInt64)|ref(a:Addr)|ty(n:String)deriving DecidableEq
def RelV:V->Value->Prop|.non,u=>u=Value.none|.bl b,u=>u=Value.bool b|.int i,u=>∃t,u=Value.int i t|.str x,u=>∃t,u=Value.str x t|.byt b,u=>∃t,u=Value.bytes b t|.flt b,u=>∃t,u=Value.float b t|.ref a,u=>u=Value.ref a|.ty n,u=>u=Value.type n
abbrev Vals:List V->List Value->Prop:=Paired RelV
theorem Vals.length{xs:List V}{us:List Value}(r:Vals xs us):xs.length=us.length:=Paired.length r
theorem Vals.get:∀{xs:List V}{us:List Value}{i:Nat}{x:V},Vals xs us->xs[i]?=some x->∃u,us[i]?=some u/\RelV x u|_,_,_,_,.nil,e=>by simp at e|_,_,0,_,.cons r _,e=>by simp at e;subst e;exact⟨_,rfl,r⟩|_,_,i+1,x,.cons _ t,e=>by obtain⟨u,h1,h2⟩:=Vals.get (i:=i) (x:=x) t (by simpa using e);exact⟨u,by simpa using h1,h2⟩
theorem Vals.set{x:V}{u:Value}(r:RelV x u):∀{xs:List V}{us:List Value}(i:Nat),Vals xs us->Vals (xs.set i x) (us.set i u)|_,_,_,.nil=>.nil|_,_,0,.cons _ t=>.cons r t|_,_,i+1,.cons q t=>.cons q (Vals.set r i t)
theorem Vals.append:∀{xs ys:List V}{us ws:List Value},Vals xs us->Vals ys ws->Vals (xs++ys) (us++ws)|_,_,_,_,.nil,s=>s|_,_,_,_,.cons r t,s=>.cons r (Vals.append t s)
theorem Vals.take:∀{xs:List V}{us:List Value}(n:Nat),Vals xs us->Vals (xs.take n) (us.take n)|_,_,0,_=>.nil|_,_,_+1,.nil=>.nil|_,_,n+1,.cons r t=>.cons r (Vals.take n t)
theorem Vals.drop:∀{xs:List V}{us:List Value}(n:Nat),Vals xs us->Vals (xs.drop n) (us.drop n)|_,_,0,r=>r|_,_,_+1,.nil=>.nil|_,_,n+1,.cons _ t=>Vals.drop n t
def qt:Option V->Option Value->Prop|some v,some u=>RelV v u|none,none=>True|_,_=>False
def KV{κ:Type}:List (κ×V)->List (κ×Value)->Prop:=Paired fun(p:κ×V)(q:κ×Value)=>p.1=q.1/\RelV p.2 q.2
noncomputable def kV:Key->V|.inl i=>.int i|.inr x=>.str x
inductive HO where/--a list -/|lst(xs:List V)/--a tuple (never changes) -/|tup(xs:List V)/--a dict whose keys are ints and texts;one whose keys are tuples of ints and texts (the empty one is both) -/|dK(kvs:List (Key×V))|dT(kvs:List (List Key×V))/--a set of ints: its members,its size -/|set(S:Int->Bool)(n:Nat)/--an instance of the class at C,its dict at dx,its attributes -/|ins(C dx:Addr)(fs:List (Str×V))/--the dict of the instance at x -/|own(x:Addr)/--the dict of an exception -/|xd(fs:List (Str×V))/--a bound method,f of x -/|met(f x:Addr)/--a range object lo,lo+1,.. below hi -/|tZ(lo hi:Int)/--a thing that is known to the object (the script;a dict while a loop walks it): read,never written while it is so -/|cW(o:Obj)(u:HO)/--a code object's table -/|QX(ps:Array Value)/--any other thing,by what is true of its one object (a def of one's own: SetO a S n:=HO.ext fun h=>..) -/|ext(φ:Heap->Prop)
noncomputable abbrev Hp:=Addr->Option HO
noncomputable def upd(H:Hp)(a:Addr)(o:HO):Hp:=fun b=>if b=a then some o else H b
theorem aV{H:Hp}{a:Addr}{o:HO}:upd H a o a=some o:=by unfold upd;rw[if_pos rfl]
theorem aC{H:Hp}{a b:Addr}{o:HO}(h:b≠a):upd H a o b=H b:=by unfold upd;rw[if_neg h]
theorem yF{H:Hp}{a:Addr}{o u:HO}:upd (upd H a o) a u=upd H a u:=by funext b;unfold upd;split<;>rfl
theorem Ux{H:Hp}{a b:Addr}{o u:HO}(h:H a=some o)(h':H b=some u)(d:o≠u):a≠b:=by intro e;subst e;rw[h]at h';exact d (Option.some.inj h')
theorem fM{H:Hp}{a b:Addr}{o:HO}(h:H a=some o)(h':H b=none):a≠b:=by intro e;subst e;rw[h]at h';cases h'
section
variable(P:Program)(w:World)
def bR(H:Hp)(h:Heap)(a:Addr):HO->Prop|.lst xs=>xs.length<=sizeLine/\∃(its:List Value)(n:Nat),Vals xs its/\h.get? a=some {cls:=.type "list",data:=.seq its.toArray n}|.tup xs=>xs.length<=sizeLine/\∃its:List Value,Vals xs its/\IsTup h a its.toArray|.dK kvs=>kvs.length<=sizeLine/\(a==sysModules)=false/\∃vs,KV kvs vs/\h.DictOf (bL P w) a vs|.dT kvs=>kvs.length<=sizeLine/\(a==sysModules)=false/\∃xs:List (List Key×Addr×Value),Paired (fun(p:List Key×V)(q:List Key×Addr×Value)=>p.1=q.1/\H q.2.1=some (.tup (p.1.map kV))/\RelV p.2 q.2.2) kvs xs/\∃o es ep,h.get? a=some o/\o.ExactDict/\o.data=.dict es ep/\es.toList=xs.map (entryOfKey (tupleKind (bL P w)))/\(xs.map (·.1)).Nodup|.set S n=>h.SetOf (intKind P w) a S n|.ins C dx fs=>H dx=some (.own a)/\fs.length<=1000/\dx≠a/\h.get? a=some (PySem.W.instObj C dx)/\∃mA,h.Ns1 dx mA/\(∀f,qt (fs.lookup f) (mA f))/\PySem.Within mA (fs.map (·.1))|.own _=>∃o,h.get? a=some o|.xd fs=>∃mA,h.Ns1 a mA/\∀f,qt (fs.lookup f) (mA f)|.tZ lo hi=>∃t u v,h.get? a=some {cls:=.type "range",data:=.fields #[.int lo t,.int hi u,.int 1 v]}|.cW o u=>h.get? a=some o/\bR H h a u|.QX ps=>h.get? a=some {cls:=.none,data:=.fields ps}|.met f x=>h.get? a=some (methodObj (.ref f) (.ref x))|.ext φ=>φ h/\(∃o,h.get? a=some o)/\∀h1 h2:Heap,φ h1->(∀o,h1.get? a=some o->h2.get? a=some o)->φ h2
def lO(H:Hp)(h:Heap):Prop:=∀a o,H a=some o->bR P w H h a o
end
section
variable{P:Program}{w:World}{H H':Hp}{h h':Heap}{a:Addr}{o:HO}
theorem bR.lt(x:bR P w H h a o):a<h.objs.size:=by cases o with|lst xs=>obtain⟨_,_,_,_,e⟩:=x;exact lt_size e|tup xs=>obtain⟨_,_,_,p⟩:=x;exact p.lt|dK kvs=>obtain⟨_,_,_,_,o,_,_,e,_⟩:=x;exact lt_size e|dT kvs=>obtain⟨_,_,_,_,o,_,_,e,_⟩:=x;exact lt_size e|set S n=>obtain⟨o,_,_,_,e,_⟩:=x;exact lt_size e|ins C dx fs=>obtain⟨_,_,_,e,_⟩:=x;exact lt_size e|own y=>obtain⟨_,e⟩:=x;exact lt_size e|xd fs=>obtain⟨_,⟨_,_,_,e,_⟩,_⟩:=x;exact lt_size e|tZ lo hi=>obtain⟨_,_,_,e⟩:=x;exact lt_size e|cW ob u=>obtain⟨e,_⟩:=x;exact lt_size e|QX ps=>exact lt_size (show h.get? a=some _ from x)|met f y=>exact lt_size (show h.get? a=some _ from x)|ext φ=>obtain⟨_,⟨_,e⟩,_⟩:=x;exact lt_size e
theorem Paired.Om{α β:Type}{F G:α->β->Prop}:∀{l₁:List α}{l₂:List β},Paired F l₁ l₂->(∀a b,F a b->G a b)->Paired G l₁ l₂|_,_,.nil,_=>.nil|_,_,.cons r t,f=>.cons (f _ _ r) (Paired.Om t f)
theorem bR.stay(x:bR P w H h a o)(k:∀b u,(b=a\/H b=some (.own a))->h.get? b=some u->h'.get? b=some u)(ho:∀b,H b=some (.own a)->H' b=some (.own a))(ht:∀b xs,H b=some (.tup xs)->H' b=some (.tup xs)):bR P w H' h' a o:=by induction o with|lst xs=>obtain⟨z,its,n,r,e⟩:=x;exact⟨z,its,n,r,k _ _ (.inl rfl) e⟩|tup xs=>obtain⟨z,its,r,ob,e,c⟩:=x;exact⟨z,its,r,ob,k _ _ (.inl rfl) e,c⟩|dK kvs=>obtain⟨z,y,vs,r,ob,es,ep,e,c⟩:=x;exact⟨z,y,vs,r,ob,es,ep,k _ _ (.inl rfl) e,c⟩|dT kvs=>obtain⟨z,y,xs,r,ob,es,ep,e,c⟩:=x;exact⟨z,y,xs,Paired.Om r fun p q z=>⟨z.1,ht _ _ z.2.1,z.2.2⟩,ob,es,ep,k _ _ (.inl rfl) e,c⟩|set S n=>obtain⟨ob,es,ep,t,e,c⟩:=x;exact⟨ob,es,ep,t,k _ _ (.inl rfl) e,c⟩|ins C dx fs=>obtain⟨d,z,ne,e,mA,⟨od,es,ep,e2,c⟩,r⟩:=x;exact⟨ho _ d,z,ne,k _ _ (.inl rfl) e,mA,⟨od,es,ep,k _ _ (.inr d) e2,c⟩,r⟩|own y=>obtain⟨ob,e⟩:=x;exact⟨ob,k _ _ (.inl rfl) e⟩|xd fs=>obtain⟨mA,⟨od,es,ep,e,c⟩,r⟩:=x;exact⟨mA,⟨od,es,ep,k _ _ (.inl rfl) e,c⟩,r⟩|tZ lo hi=>obtain⟨t,u,v,e⟩:=x;exact⟨t,u,v,k _ _ (.inl rfl) e⟩|cW ob u ih=>obtain⟨e,q⟩:=x;exact⟨k _ _ (.inl rfl) e,ih q⟩|QX ps=>have e:h.get? a=some {cls:=.none,data:=.fields ps}:=x;show h'.get? a=some {cls:=.none,data:=.fields ps};exact k a _ (.inl rfl) e|met f y=>have e:h.get? a=some (methodObj (.ref f) (.ref y)):=x;show h'.get? a=some (methodObj (.ref f) (.ref y));exact k a _ (.inl rfl) e|ext φ=>obtain⟨p,⟨o,e⟩,st⟩:=x;exact⟨st _ _ p fun o q=>k _ _ (.inl rfl) q,⟨o,k _ _ (.inl rfl) e⟩,st⟩
theorem lO.lt(x:lO P w H h)(e:H a=some o):a<h.objs.size:=(x a o e).lt
theorem lO.fresh(x:lO P w H h)(e:h.objs.size<=a):H a=none:=by cases q:H a with|none=>rfl|some u=>exact absurd (lt_of_lt_of_le (x.lt q) e) (lt_irrefl _)
theorem lO.kept(x:lO P w H h)(k:∀b u,h.get? b=some u->h'.get? b=some u):lO P w H h':=fun a o e=>(x a o e).stay (fun b u _ q=>k b u q) (fun _ q=>q) fun _ _ q=>q
theorem lO.laid(x:lO P w H h)(k:∀b u,h.get? b=some u->h'.get? b=some u)(hp:h.objs.size<=a)(new:bR P w (upd H a o) h' a o):lO P w (upd H a o) h':=fun b u e=>by
 have hn:=x.fresh hp;by_cases hb:b=a;.subst hb;rw[aV]at e;cases e;exact new
 .rw[aC hb]at e;exact(x b u e).stay (fun c v _ q=>k c v q) (fun c q=>by rw[aC (fM q hn)];exact q) fun c xs q=>by rw[aC (fM q hn)];exact q
end
def Rd(H:Hp)(a:Addr)(u:HO):Prop:=H a=some u\/∃o,H a=some (.cW o u)
theorem Rd.ok{P:Program}{w:World}{H:Hp}{h:Heap}{a:Addr}{u:HO}(r:Rd H a u)(x:lO P w H h):bR P w H h a u:=by
 rcases r with r|⟨o,r⟩;.exact x a u r
 .obtain⟨_,q⟩:=x a _ r;exact q
def T7:Option HO->Prop|some (.lst _)=>True|some (.dK _)=>True|some (.dT _)=>True|some (.set _ _)=>True|some (.ins _ _ _)=>True|some (.ext _)=>True|_=>False
section
variable{P:Program}{w:World}{H:Hp}{h h':Heap}{x e:Addr}{o':HO}
theorem lO.write(ok:lO P w H h)(mu:T7 (H x))(he:e=x\/H e=some (.own x))(k:∀b u,b≠e->h.get? b=some u->h'.get? b=some u)(heo:∃u,h'.get? e=some u)(new:bR P w (upd H x o') h' x o'):lO P w (upd H x o') h':=fun b u q=>by
 have Ws:∀c y,H c=some (.own y)->c≠x:=fun c y r z=>by subst z;rw[r]at mu;exact mu
 have acA:∀c xs,H c=some (.tup xs)->c≠x:=fun c xs r z=>by subst z;rw[r]at mu;exact mu
 by_cases hb:b=x;.subst hb;rw[aV]at q;cases q;exact new
 . rw[aC hb]at q;by_cases hbe:b=e
   . have q':H b=some (.own x):=by
      rcases he with z|z;.exact absurd (hbe.trans z) hb
      .rw[hbe];exact z
     rw[q]at q';cases q';obtain⟨v,hv⟩:=heo;exact⟨v,by rw[hbe];exact hv⟩
   . refine(ok b u q).stay (fun c v hc r=>k c v ?_ r) (fun c r=>by rw[aC (Ws c b r)];exact r) fun c xs r=>by rw[aC (acA c xs r)];exact r
     rcases hc with rfl|hc;.exact hbe
     . rintro rfl;rcases he with z|z;.exact Ws c b hc z
       .rw[hc]at z;cases z;exact hb rfl
end
structure Un(fs ex:List Addr)(H H':Hp)(h h':Heap):Prop where
 keep:∀b o,h.get? b=some o->H b=none->b∉fs->b∉ex->h'.get? b=some o
 slot:∀b o,h.get? b=some o->H b=none->b∈fs->b∉ex->∃sl,h'.get? b=some {o with slots:=sl}free:∀b o,h.get? b=some o->H b=none->b∉ex->H' b=none
 there:∀b o,h.get? b=some o->b∉ex->∃o',h'.get? b=some o'
 tups:∀b xs,H b=some (.tup xs)->H' b=some (.tup xs)uc:∀b o u,H b=some (.cW o u)->H' b=some (.cW o u)vK:∀b ps,H b=some (.QX ps)->∃more,H' b=some (.QX (ps++more))
section
variable{fs fs' ex ex':List Addr}{H H1 H2:Hp}{h h1 h2 h':Heap}{a x e:Addr}{o:HO}
theorem Un.any(u:Un fs ex H H1 h h1){b:Addr}{ob:Obj}(q:h.get? b=some ob)(n:H b=none)(hx:b∉ex):∃sl,h1.get? b=some {ob with slots:=sl}:=by
 by_cases hb:b∈fs;.exact u.slot b ob q n hb hx
 .exact⟨ob.slots,u.keep b ob q n hb hx⟩
theorem Un.kept(k:∀b u,h.get? b=some u->h'.get? b=some u):Un fs ex H H h h':=⟨fun b ob q _ _ _=>k b ob q,fun b ob q _ _ _=>⟨ob.slots,k b ob q⟩,fun _ _ _ n _=>n,fun b ob q _=>⟨ob,k b ob q⟩,fun _ _ q=>q,fun _ _ _ q=>q,fun _ ps q=>⟨#[],by rw[q];simp⟩⟩
theorem Un.refl:Un fs ex H H h h:=Un.kept fun _ _ q=>q
theorem Un.laid(k:∀b u,h.get? b=some u->h'.get? b=some u)(hp:h.objs.size<=a)(hn:H a=none):Un fs ex H (upd H a o) h h' where
 keep:=fun b u q _ _ _=>k b u q;slot:=fun b u q _ _ _=>⟨u.slots,k b u q⟩;free:=fun b u q n _=>by rw[aC (ne_of_lt (lt_of_lt_of_le (lt_size q) hp))];exact n
 there:=fun b u q _=>⟨u,k b u q⟩;tups:=fun b xs q=>by rw[aC (fM q hn)];exact q
 uc:=fun b u xs q=>by rw[aC (fM q hn)];exact q
 vK:=fun b ps q=>⟨#[],by rw[aC (fM q hn),q];simp⟩
theorem Un.write(mu:T7 (H x))(he:e=x\/H e=some (.own x))(k:∀b u,b≠e->h.get? b=some u->h'.get? b=some u)(heo:∃u,h'.get? e=some u):Un fs ex H (upd H x o) h h':=by
 have hx:∀b,H b=none->b≠x:=fun b n z=>by subst z;rw[n]at mu;exact mu
 have hb:∀b,H b=none->b≠e:=fun b n z=>by
  subst z;rcases he with r|r;.exact hx b n r
  .rw[n]at r;cases r
 have hm:∀b u,H b=some u->¬ T7 (some u)->b≠x:=fun b u q nm z=>by subst z;rw[q]at mu;exact nm mu
 refine⟨fun b u q n _ _=>k b u (hb b n) q,fun b u q n _ _=>⟨u.slots,k b u (hb b n) q⟩,fun b u q n _=>by rw[aC (hx b n)];exact n,fun b u q _=>?_,fun b xs q=>by rw[aC (hm b _ q fun z=>z)];exact q,fun b u xs q=>by rw[aC (hm b _ q fun z=>z)];exact q,fun b ps q=>⟨#[],by rw[aC (hm b _ q fun z=>z),q];simp⟩⟩;by_cases hbe:b=e;.subst hbe;exact heo
 .exact⟨u,k b u hbe q⟩
end
noncomputable def Xd(h:Heap)(H:Hp):List Addr:=(List.range h.objs.size).filter fun a=>(H a).isSome
noncomputable def tY(h:Heap)(H:Hp):Heap:=PySem.W.hideAll h (Xd h H)
theorem Bl(h:Heap)(H:Hp):(tY h H).objs.size=h.objs.size:=PySem.W.hideAll_size _ _
theorem BW{h:Heap}{H:Hp}{b:Addr}{o:Obj}(e:h.get? b=some o)(n:H b=none):(tY h H).get? b=some o:=PySem.W.hideAll_get _ e fun hm=>by have q:(H b).isSome=true:=(mem_filter.mp hm).2;rw[n]at q;simp at q
theorem HQ{h:Heap}{H:Hp}{b:Addr}{o:Obj}(e:(tY h H).get? b=some o):h.get? b=some o/\H b=none:=by have e':h.get? b=some o:=PySem.W.of_hideAll (Xd h H) e;refine⟨e',?_⟩;cases q:H b with|none=>rfl|some x=>have hm:b∈Xd h H:=mem_filter.mpr ⟨mem_range.mpr (lt_size e'),by simp[q]⟩;have z:(tY h H).get? b=none:=PySem.W.hideAll_none (Xd h H) hm;rw[z]at e;cases e
structure Mod(K:PySem.W.Frag)(mg:Str->Option Value)(base:Heap):Prop where
 uo:K.In base
 glob:base.Ns mainGlobals mg
 blt:∃mb,base.Ns builtinsNs mb/\∀x:Str,x≠"__name__"->mb x=bootBuiltins x
 nolimit:base.NoLimit
structure Cx where
 prog:Program
 w:World
 K:PySem.W.Frag
 mg:Str->Option Value
 base:Heap
 A:Around
 N:List Str
 s₀:Shared
 H₀:Hp
 env:Env
 outer:List Env
 stack:List Env
 ex:List Addr
 fn:Str->Bool
 calm:Bool
 pn:List (Addr×Obj)xe:Value->Shared->Prop
noncomputable def frs(l:List Env):List Addr:=l.filterMap (·.frame)
noncomputable abbrev Cx.fs(X:Cx):List Addr:=frs X.outer
def v8(sc:Scope)(x:Str):Prop:=sc.names.lookup x=some .local\/sc.names.lookup x=some .cell\/sc.names.lookup x=some .free
def Loc(sc:Scope)(x:Str):Prop:=sc.names.lookup x=some .local\/sc.names.lookup x=some .cell
def Look(env:Env)(h:Heap)(m:Str->Option Value)(x:Str)(u:Value):Prop:=(env.kindOf x=some .local/\m x=some u)\/((env.kindOf x=some .cell\/env.kindOf x=some .free)/\∃c,env.cells.lookup x=some c/\h.IsCell c (some u))
structure Cx.Ok(X:Cx):Prop where
 mod:Mod X.K X.mg X.base
 kind:X.env.scope.kind=.function
 glob:X.env.globals=mainGlobals
 blt:X.env.builtins=builtinsNs
 above:X.s₀.heap.objs.size<=X.env.locals
 inj:∀x y c,X.env.cells.lookup x=some c->X.env.cells.lookup y=some c->x=y
 has:∀x,(X.env.kindOf x=some .cell\/X.env.kindOf x=some .free)->∃c,X.env.cells.lookup x=some c
 cab:∀x c,X.fn x=true->X.env.cells.lookup x=some c->X.s₀.heap.objs.size<=c
 hd:X.calm=true->X.A.handled=none
 frames:X.A.frames=some X.stack
 Zb:X.stack=X.outer\/(X.stack=X.env::X.outer/\X.env.frame=some X.env.locals)exf:∀b∈X.ex,b≠X.env.locals/\∀x c,X.env.cells.lookup x=some c->c≠b
 bs:∀b o,X.base.get? b=some o->X.s₀.heap.get? b=some o/\X.H₀ b=none
 Lx:X.base.objs.size<=X.s₀.heap.objs.size
 Gz:∀b o,X.base.get? b=some o->b∉X.ex
 J4:∀b∈X.ex,b∉X.fs
 pM:X.s₀.heap.FunFrames X.base X.outer
 Tq:∀b∈X.fs,X.H₀ b=none
structure Inv(X:Cx)(pins:List (Addr×Obj))(σ:List (Option V))(H:Hp)(s:Shared):Prop where
 ok:X.Ok
 os:s.os=X.s₀.os
 bare:AllBare s.gens
 base:Un X.fs X.ex X.H₀ H X.s₀.heap s.heap
 loc:∃m,s.heap.Ns X.env.locals m/\∀(i:Nat)(x:Str)(v:V),X.N[i]?=some x->σ[i]?=some (some v)->v8 X.env.scope x->∃u,RelV v u/\Look X.env s.heap m x u
 cell:∀x c,X.env.cells.lookup x=some c->∃v,s.heap.IsCell c v
 free:H X.env.locals=none
 jP:∀x c,X.env.cells.lookup x=some c->H c=none
 pin:∀p∈X.pn++pins,s.heap.get? p.1=some p.2/\H p.1=none/\p.1≠X.env.locals/\p.1∉X.fs/\∀v,p.2.data≠.cell v
 hok:lO X.prog X.w H s.heap
 len:σ.length=X.N.length
section
variable{X:Cx}{pins:List (Addr×Obj)}{σ:List (Option V)}{H H':Hp}{s:Shared}{h':Heap}
theorem Cx.Ok.ab0(ok:X.Ok){b:Addr}{o:Obj}(e:X.base.get? b=some o):b∉X.fs:=fun hb=>by have:=(ok.pM.mem hb).1;rw[e]at this;cases this
theorem Inv.bs(I:Inv X pins σ H s):∀b o,X.base.get? b=some o->s.heap.get? b=some o/\H b=none:=fun b o e=>⟨I.base.keep b o (I.ok.bs b o e).1 (I.ok.bs b o e).2 (I.ok.ab0 e) (I.ok.Gz b o e),I.base.free b o (I.ok.bs b o e).1 (I.ok.bs b o e).2 (I.ok.Gz b o e)⟩
theorem Inv.bk(I:Inv X pins σ H s):∀b o,X.base.get? b=some o->s.heap.get? b=some o:=fun b o e=>(I.bs b o e).1
theorem Inv.mod(I:Inv X pins σ H s):Mod X.K X.mg X.base:=I.ok.mod
theorem Inv.Mj(I:Inv X pins σ H s):X.K.In s.heap:=I.ok.mod.uo.keeps I.bk
theorem Inv.lt(I:Inv X pins σ H s):X.env.locals<s.heap.objs.size:=let⟨_,hn,_⟩:=I.loc;hn.lt
theorem Inv.sz(I:Inv X pins σ H s):X.s₀.heap.objs.size<=s.heap.objs.size:=le_trans I.ok.above (le_of_lt I.lt)
theorem Inv.ZQ(I:Inv X pins σ H s){a:Addr}(h:s.heap.objs.size<=a):a∉X.fs:=fun hb=>by obtain⟨_,o,ho,_⟩:=I.ok.pM.mem hb;exact absurd (lt_of_lt_of_le (lt_size ho) (le_trans I.sz h)) (lt_irrefl _)
theorem Inv.QJ(I:Inv X pins σ H s):∀x c,X.env.cells.lookup x=some c->c≠X.env.locals:=fun x c e z=>by obtain⟨v,o,ho,hd⟩:=I.cell x c e;obtain⟨m,⟨o',es,ep,ho',hd',_⟩,_⟩:=I.loc;rw[z,ho']at ho;cases ho;rw[hd']at hd;cases hd
theorem Inv.pM(I:Inv X pins σ H s):s.heap.FunFrames X.base X.outer:=by
 have all:∀(l:List Env),(∀b∈frs l,b∈X.fs)->X.s₀.heap.FunFrames X.base l->s.heap.FunFrames X.base l:=by intro l;induction l with|nil=>intro _ _;trivial|cons env r ih=>intro hs hl;obtain⟨hk,⟨L,o,hf,hn,ho,hd⟩,hr⟩:=hl;have hL:L∈X.fs:=hs L (by unfold frs;rw[filterMap_cons,hf];exact mem_cons_self);obtain⟨sl,e⟩:=I.base.slot L o ho (I.ok.Tq L hL) hL fun z=>I.ok.J4 L z hL;exact⟨hk,⟨L,_,hf,hn,e,hd⟩,ih (fun b hb=>hs b (by unfold frs;rw[filterMap_cons,hf];exact mem_cons_of_mem _ hb)) hr⟩
 exact all X.outer (fun _ hb=>hb) I.ok.pM
theorem Inv.stack(I:Inv X pins σ H s):s.heap.FunFrames X.base X.stack:=by
 rcases I.ok.Zb with e|⟨e,hf⟩;.rw[e];exact I.pM
 .rw[e];obtain⟨m,hn,_⟩:=I.loc;refine .cons (by rw[I.ok.kind];decide) hf hn ?_ I.pM;exact Heap.get?_none_of_le (le_trans I.ok.Lx I.ok.above)
theorem Inv.rP(I:Inv X pins σ H s):∀b∈frs X.stack,b∈X.env.locals::X.fs:=fun b hb=>by
 rcases I.ok.Zb with e|⟨e,hf⟩;.rw[e]at hb;exact mem_cons_of_mem _ hb
 .rw[e]at hb;unfold frs at hb;rw[filterMap_cons,hf]at hb;exact hb
theorem Inv.zJ(I:Inv X pins σ H s):∀b∈frs X.stack,H b=none:=fun b hb=>by
 rcases mem_cons.mp (I.rP b hb)with e|hb;.rw[e];exact I.free
 .obtain⟨_,o,ho,_⟩:=I.ok.pM.mem hb;exact I.base.free b o ho (I.ok.Tq b hb) fun z=>I.ok.J4 b z hb
theorem Inv.step{g':Array GenState}{t':Nat}{d':Drawn}{ch:List Addr}(I:Inv X pins σ H s)(hch:∀b∈ch,(b∈X.ex\/X.s₀.heap.objs.size<=b)/\b≠X.env.locals/\(∀x c,X.env.cells.lookup x=some c->c≠b)/\∀p∈X.pn++pins,p.1≠b)(keep:∀b o,b≠X.env.locals->b∉X.fs->b∉ch->s.heap.get? b=some o->H b=none->h'.get? b=some o)(slot:∀b o,b≠X.env.locals->b∈X.fs->b∉ch->s.heap.get? b=some o->H b=none->∃sl,h'.get? b=some {o with slots:=sl})(free:∀b o,b∉ch->s.heap.get? b=some o->H b=none->H' b=none)(there:∀b o,b∉ch->s.heap.get? b=some o->∃o',h'.get? b=some o')(tups:∀b xs,H b=some (.tup xs)->H' b=some (.tup xs))(uc:∀b o u,H b=some (.cW o u)->H' b=some (.cW o u))(vK:∀b ps,H b=some (.QX ps)->∃more,H' b=some (.QX (ps++more)))(ns:∀m,s.heap.Ns X.env.locals m->h'.Ns X.env.locals m)(hok:lO X.prog X.w H' h')(hg:AllBare g'):Inv X pins σ H' {s with heap:=h',gens:=g',drawn:=d',toks:=t'}:=by
 have neL:∀b o,X.s₀.heap.get? b=some o->b≠X.env.locals:=fun b o e=>ne_of_lt (lt_of_lt_of_le (lt_size e) I.ok.above);have Zc:∀b o,X.s₀.heap.get? b=some o->b∉X.ex->b∉ch:=fun b o e hx hb=>by
  rcases(hch b hb).1 with z|z;.exact hx z
  .exact absurd (lt_of_lt_of_le (lt_size e) z) (lt_irrefl _)
 have cellK:∀x c,X.env.cells.lookup x=some c->∀v,s.heap.IsCell c v->h'.IsCell c v:=fun x c e v⟨o,ho,hd⟩=>by
  have GC:c∉ch:=fun z=>(hch c z).2.2.1 x c e rfl;by_cases hc:c∈X.fs;.obtain⟨sl,q⟩:=slot c o (I.QJ x c e) hc GC ho (I.jP x c e);exact⟨_,q,hd⟩
  .exact⟨o,keep c o (I.QJ x c e) hc GC ho (I.jP x c e),hd⟩
 refine⟨I.ok,I.os,hg,⟨fun b o e n hb hx=>?_,fun b o e n hb hx=>?_,fun b o e n hx=>?_,fun b o e hx=>?_,fun b xs e=>tups b xs (I.base.tups b xs e),fun b o xs e=>uc b o xs (I.base.uc b o xs e),fun b ps e=>?_⟩,?_,fun x c e=>?_,?_,fun x c e=>?_,fun p hp=>?_,hok,I.len⟩;.exact keep b o (neL b o e) hb (Zc b o e hx) (I.base.keep b o e n hb hx) (I.base.free b o e n hx)
 .obtain⟨sl,e1⟩:=I.base.slot b o e n hb hx;obtain⟨sl',e2⟩:=slot b _ (neL b o e) hb (Zc b o e hx) e1 (I.base.free b o e n hx);exact⟨sl',e2⟩
 .obtain⟨o',e1⟩:=I.base.there b o e hx;exact free b o' (Zc b o e hx) e1 (I.base.free b o e n hx)
 .obtain⟨o',e1⟩:=I.base.there b o e hx;exact there b o' (Zc b o e hx) e1
 .obtain⟨m1,e1⟩:=I.base.vK b ps e;obtain⟨m2,e2⟩:=vK b _ e1;exact⟨m1++m2,by rw[e2,Array.append_assoc]⟩
 . obtain⟨m,hn,hl⟩:=I.loc;refine⟨m,ns m hn,fun i x v e1 e2 e3=>?_⟩;obtain⟨u,r,l⟩:=hl i x v e1 e2 e3;refine⟨u,r,?_⟩;rcases l with l|⟨k,c,e,z⟩;.exact .inl l
   .exact .inr ⟨k,c,e,cellK x c e _ z⟩
 .obtain⟨v,z⟩:=I.cell x c e;exact⟨v,cellK x c e v z⟩
 .obtain⟨m,⟨o,_,_,ho,_⟩,_⟩:=I.loc;exact free _ o (fun z=>(hch _ z).2.1 rfl) ho I.free
 .obtain⟨v,o,ho,hd⟩:=I.cell x c e;exact free c o (fun z=>(hch c z).2.2.1 x c e rfl) ho (I.jP x c e)
 .obtain⟨e,n,ne,nf,d⟩:=I.pin p hp;have GC:p.1∉ch:=fun z=>(hch p.1 z).2.2.2 p hp rfl;exact⟨keep p.1 p.2 ne nf GC e n,free p.1 p.2 GC e n,ne,nf,d⟩
theorem Inv.un{t':Nat}(I:Inv X pins σ H s)(u:Un X.fs [] H H' s.heap h')(hok:lO X.prog X.w H' h'):Inv X pins σ H' {s with heap:=h',toks:=t'}:=by obtain⟨m,⟨o,es,ep,ho,r⟩,_⟩:=id I.loc;obtain⟨sl,hL⟩:=u.any ho I.free (by simp);exact I.step (g':=s.gens) (d':=s.drawn) (ch:=[]) (fun _ z=>nomatch z) (fun b o _ hb _ e n=>u.keep b o e n hb (by simp)) (fun b o _ hb _ e n=>u.slot b o e n hb (by simp)) (fun b o _ e n=>u.free b o e n (by simp)) (fun b o _ e=>u.there b o e (by simp)) u.tups u.uc u.vK (fun m' hm=>by obtain⟨o',es',ep',ho',r'⟩:=hm;rw[ho]at ho';cases ho';exact⟨_,es',ep',hL,r'⟩) hok I.bare
theorem Inv.call{g':Array GenState}{t':Nat}{d':Drawn}{ch:List Addr}(I:Inv X pins σ H s)(u:Un (frs X.stack) ch H H' s.heap h')(hok:lO X.prog X.w H' h')(hg:AllBare g')(hch:∀b∈ch,(b∈X.ex\/X.s₀.heap.objs.size<=b)/\b≠X.env.locals/\(∀x c,X.env.cells.lookup x=some c->c≠b)/\∀p∈X.pn++pins,p.1≠b):Inv X pins σ H' {s with heap:=h',gens:=g',drawn:=d',toks:=t'}:=by obtain⟨m,⟨o,es,ep,ho,r⟩,_⟩:=id I.loc;obtain⟨sl,hL⟩:=u.any ho I.free fun z=>(hch _ z).2.1 rfl;exact I.step (ch:=ch) hch (fun b o hL hb hc e n=>u.keep b o e n (fun z=>(mem_cons.mp (I.rP b z)).elim hL hb) hc) (fun b o _ _ hc e n=>u.any e n hc) (fun b o hc e n=>u.free b o e n hc) (fun b o hc e=>u.there b o e hc) u.tups u.uc u.vK (fun m' hm=>by obtain⟨o',es',ep',ho',r'⟩:=hm;rw[ho]at ho';cases ho';exact⟨_,es',ep',hL,r'⟩) hok hg
theorem Inv.turned{t':Nat}{it:Addr}(I:Inv X pins σ H s)(k:∀b o,b≠it->s.heap.get? b=some o->h'.get? b=some o)(hn:H it=none)(hL:it≠X.env.locals)(h1:it∈X.ex\/X.s₀.heap.objs.size<=it)(h2:∀x c,X.env.cells.lookup x=some c->c≠it)(h3:∀p∈X.pn++pins,p.1≠it):Inv X pins σ H {s with heap:=h',toks:=t'}:=by
 have nit:∀b u,H b=some u->b≠it:=fun b u e z=>by rw[z,hn]at e;cases e
 refine I.step (g':=s.gens) (d':=s.drawn) (ch:=[it]) (fun b hb=>?_) (fun b o _ _ hc e _=>k b o (fun z=>hc (by simp[z])) e) (fun b o _ _ hc e _=>⟨o.slots,k b o (fun z=>hc (by simp[z])) e⟩) (fun _ _ _ _ n=>n) (fun b o hc e=>⟨o,k b o (fun z=>hc (by simp[z])) e⟩) (fun _ _ e=>e) (fun _ _ _ e=>e) (fun b ps e=>⟨#[],by rw[e];simp⟩) (fun m hm=>?_) (fun b u e=>?_) I.bare
 . have e:b=it:=by simpa using hb
   subst e;exact⟨h1,hL,h2,h3⟩
 .obtain⟨o,es,ep,ho,r⟩:=hm;exact⟨o,es,ep,k _ o (Ne.symm hL) ho,r⟩
 . refine(I.hok b u e).stay (fun c v hc q=>k c v ?_ q) (fun _ q=>q) fun _ _ q=>q;rcases hc with z|z;.rw[z];exact nit b u e
   .exact nit c _ z
theorem Inv.tok(I:Inv X pins σ H s)(t:Nat):Inv X pins σ H {s with toks:=t}:=I.un (h':=s.heap) (t':=t) Un.refl I.hok
theorem Inv.kept{t':Nat}(I:Inv X pins σ H s)(k:∀b u,s.heap.get? b=some u->h'.get? b=some u):Inv X pins σ H {s with heap:=h',toks:=t'}:=I.un (Un.kept k) (I.hok.kept k)
theorem Inv.laid{a:Addr}{o:HO}{t':Nat}(I:Inv X pins σ H s)(k:∀b u,s.heap.get? b=some u->h'.get? b=some u)(hp:s.heap.objs.size<=a)(new:bR X.prog X.w (upd H a o) h' a o):Inv X pins σ (upd H a o) {s with heap:=h',toks:=t'}:=I.un (Un.laid k hp (I.hok.fresh hp)) (I.hok.laid k hp new)
theorem Inv.write{x e:Addr}{o:HO}{t':Nat}(I:Inv X pins σ H s)(mu:T7 (H x))(he:e=x\/H e=some (.own x))(k:∀b u,b≠e->s.heap.get? b=some u->h'.get? b=some u)(heo:∃u,h'.get? e=some u)(new:bR X.prog X.w (upd H x o) h' x o):Inv X pins σ (upd H x o) {s with heap:=h',toks:=t'}:=I.un (Un.write mu he k heo) (I.hok.write mu he k heo new)
theorem Inv.za{Ly:List (Addr×Obj)}(I:Inv X pins σ H s)(h:∀p∈Ly,s.heap.get? p.1=some p.2/\H p.1=none/\p.1≠X.env.locals/\p.1∉X.fs/\∀v,p.2.data≠.cell v):Inv X Ly σ H s:=⟨I.ok,I.os,I.bare,I.base,I.loc,I.cell,I.free,I.jP,fun p hp=>(mem_append.mp hp).elim (fun z=>I.pin p (mem_append_left _ z)) (h p),I.hok,I.len⟩
theorem uG{N:List Str}(hN:N.Nodup){i j:Nat}{x:Str}(a:N[i]?=some x)(b:N[j]?=some x):i=j:=by obtain⟨h1,e1⟩:=List.getElem?_eq_some_iff.mp a;obtain⟨h2,e2⟩:=List.getElem?_eq_some_iff.mp b;exact(List.getElem_inj hN).mp (e1.trans e2.symm)
theorem qX{M:Model}{A:Around}{E:Value->Shared->Prop}{i:Nat}{x:Str}{v:V}{u:Value}{Q:Unit->Shared->Prop}(I:Inv X pins σ H s)(hN:X.N.Nodup)(hi:X.N[i]?=some x)(hx:Loc X.env.scope x)(r:RelV v u)(h:∀s',Inv X pins (σ.set i (some v)) H s'->(∃a,SameBut a s.heap s'.heap/\(a=X.env.locals\/X.env.cells.lookup x=some a))->Q () s')(hf:X.fn x=true\/X.env.scope.names.lookup x=some .local:=by first|exact .inl rfl|exact .inr rfl|assumption):wpAny M A (storeName X.env x u) Q E s:=by
 obtain⟨m,hn,hl⟩:=id I.loc;have hcls:(X.env.scope.kind==.class||(X.env.scope.kind==.module&&X.env.locals !=X.env.globals))=false:=by rw[I.ok.kind];rfl
 have hiσ:i<σ.length:=by rw[I.len];exact(List.getElem?_eq_some_iff.mp hi).1
 have QJ:=I.QJ;have tracked:∀{a:Addr}{h':Heap},(∃o,s.heap.get? a=some o/\H a=none)->SameBut a s.heap h'->lO X.prog X.w H h':=fun{a h'}ha hs b ob e=>by
  obtain⟨_,_,hfree⟩:=ha;refine(I.hok b ob e).stay (fun c w' hc q=>(hs.2 c ?_).trans q) (fun _ q=>q) fun _ _ q=>q;rintro rfl;rcases hc with rfl|hc;.rw[hfree]at e;cases e
  .rw[hfree]at hc;cases hc
 rcases hx with hk|hk
 . refine wpAny_storeName_local hk hn (fun h' hn' hs=>?_) hcls;obtain⟨oL,_,_,hoL,_⟩:=id hn;refine h _ ⟨I.ok,I.os,I.bare,⟨fun b o e n hb hx=>?_,fun b o e n hb hx=>?_,I.base.free,fun b o e hx=>?_,I.base.tups,I.base.uc,I.base.vK⟩,⟨_,hn',fun j y v' e1 e2 e3=>?_⟩,fun y c e=>?_,I.free,I.jP,fun p hp=>?_,tracked ⟨oL,hoL,I.free⟩ hs,by simpa using I.len⟩ ⟨_,hs,.inl rfl⟩;.exact(hs.2 b (ne_of_lt (lt_of_lt_of_le (lt_size e) I.ok.above))).trans (I.base.keep b o e n hb hx)
   .obtain⟨sl,e1⟩:=I.base.slot b o e n hb hx;exact⟨sl,(hs.2 b (ne_of_lt (lt_of_lt_of_le (lt_size e) I.ok.above))).trans e1⟩
   .obtain⟨o',e1⟩:=I.base.there b o e hx;exact⟨o',(hs.2 b (ne_of_lt (lt_of_lt_of_le (lt_size e) I.ok.above))).trans e1⟩
   . by_cases hj:j=i;.subst hj;rw[hi]at e1;cases e1;rw[getElem?_set_self hiσ]at e2;cases e2;exact⟨u,r,.inl ⟨hk,by simp⟩⟩
     . rw[getElem?_set_ne (Ne.symm hj)]at e2;obtain⟨u',r',q⟩:=hl j y v' e1 e2 e3;refine⟨u',r',?_⟩;rcases q with⟨k,e⟩|⟨k,c,e,z⟩;.refine .inl ⟨k,?_⟩;have:y≠x:=fun e=>hj (uG hN e1 (e▸hi));simp[this,e]
       .exact .inr ⟨k,c,e,z.sameBut hs (QJ y c e)⟩
   .obtain⟨w',z⟩:=I.cell y c e;exact⟨w',z.sameBut hs (QJ y c e)⟩
   .obtain⟨e,n,ne,nf,d⟩:=I.pin p hp;exact⟨(hs.2 p.1 ne).trans e,n,ne,nf,d⟩
 . have hfn:X.fn x=true:=by
    rcases hf with z|z;.exact z
    .rw[z]at hk;cases hk
   obtain⟨c,hc⟩:=I.ok.has x (.inl hk);obtain⟨w',z⟩:=I.cell x c hc;refine wpAny_storeName_cell I.ok.kind hk hc z (fun h' hc' hs=>?_);obtain⟨oc,hoc,acB⟩:=id z;refine h {s with heap:=h'} ⟨I.ok,I.os,I.bare,⟨fun b o e n hb hx=>?_,fun b o e n hb hx=>?_,I.base.free,fun b o e hx=>?_,I.base.tups,I.base.uc,I.base.vK⟩,⟨m,hn.sameBut hs (Ne.symm (QJ x c hc)),fun j y v' e1 e2 e3=>?_⟩,fun y c' e=>?_,I.free,I.jP,fun p hp=>?_,tracked ⟨oc,hoc,I.jP x c hc⟩ hs,by simpa using I.len⟩ ⟨c,hs,.inr hc⟩;.exact(hs.2 b (ne_of_lt (lt_of_lt_of_le (lt_size e) (I.ok.cab x c hfn hc)))).trans (I.base.keep b o e n hb hx)
   .obtain⟨sl,e1⟩:=I.base.slot b o e n hb hx;exact⟨sl,(hs.2 b (ne_of_lt (lt_of_lt_of_le (lt_size e) (I.ok.cab x c hfn hc)))).trans e1⟩
   .obtain⟨o',e1⟩:=I.base.there b o e hx;exact⟨o',(hs.2 b (ne_of_lt (lt_of_lt_of_le (lt_size e) (I.ok.cab x c hfn hc)))).trans e1⟩
   . by_cases hj:j=i;.subst hj;rw[hi]at e1;cases e1;rw[getElem?_set_self hiσ]at e2;cases e2;exact⟨u,r,.inr ⟨.inl hk,c,hc,hc'⟩⟩
     . rw[getElem?_set_ne (Ne.symm hj)]at e2;obtain⟨u',r',q⟩:=hl j y v' e1 e2 e3;refine⟨u',r',?_⟩;rcases q with q|⟨k,c',e,z'⟩;.exact .inl q
       .refine .inr ⟨k,c',e,z'.sameBut hs ?_⟩;rintro rfl;exact hj (uG hN e1 (I.ok.inj _ _ _ e hc▸hi))
   . by_cases hcc:c'=c;.subst hcc;exact⟨_,hc'⟩
     .obtain⟨w2,z2⟩:=I.cell y c' e;exact⟨w2,z2.sameBut hs hcc⟩
   .obtain⟨e,n,ne,nf,d⟩:=I.pin p hp;refine⟨(hs.2 p.1 ?_).trans e,n,ne,nf,d⟩;intro q;rw[q,hoc]at e;have q':oc=p.2:=Option.some.inj e;exact d w' (by rw[<-q'];exact acB)
theorem jr{M:Model}{A:Around}{E:Value->Shared->Prop}{i:Nat}{x:Str}{v:V}{u:Value}{Q:Unit->Shared->Prop}(I:Inv X pins σ H s)(hN:X.N.Nodup)(hi:X.N[i]?=some x)(hx:Loc X.env.scope x)(r:RelV v u)(h:∀s',Inv X pins (σ.set i (some v)) H s'->Q () s')(hf:X.fn x=true\/X.env.scope.names.lookup x=some .local:=by first|exact .inl rfl|exact .inr rfl|assumption):wpAny M A (storeName X.env x u) Q E s:=qX I hN hi hx r (fun s' I' _=>h s' I') hf
end
abbrev XK:=Value->Option Addr->Hp->Prop
noncomputable abbrev St:=List (Option V)
abbrev VK:=V->Hp->Prop
abbrev TE:=St->Hp->VK->Prop
abbrev TT:=St->Hp->(Bool->Hp->Prop)->Prop
abbrev TA:=St->Hp->(List V->Hp->Prop)->Prop
structure Ends where
 nx:St->Hp->Prop
 rt:VK
 bk:St->Hp->Prop:=fun _ _=>False
 ct:St->Hp->Prop:=fun _ _=>False
abbrev TS:=Ends->St->Hp->Prop
inductive EP(X:Cx)(pins:List (Addr×Obj))(σ:St)(Q:VK)(u:Value)(s':Shared):Prop where|mk(v:V)(H':Hp)(q0:Inv X pins σ H' s')(q1:RelV v u)(q2:Q v H')
def TP(X:Cx)(pins:List (Addr×Obj))(σ:St)(Q:Bool->Hp->Prop)(b:Bool)(s':Shared):Prop:=∃H',Inv X pins σ H' s'/\Q b H'
inductive AP(X:Cx)(pins:List (Addr×Obj))(σ:St)(Q:List V->Hp->Prop)(us:List Value)(s':Shared):Prop where|mk(vs:List V)(H':Hp)(q0:Inv X pins σ H' s')(q1:Vals vs us)(q2:Q vs H')
def SP(X:Cx)(pins:List (Addr×Obj))(D:Ends)(f:Flow)(s':Shared):Prop:=match f with|.next=>∃σ' H',Inv X pins σ' H' s'/\D.nx σ' H'|.brk=>∃σ' H',Inv X pins σ' H' s'/\D.bk σ' H'|.cont=>∃σ' H',Inv X pins σ' H' s'/\D.ct σ' H'|.ret u=>∃v σ' H',Inv X pins σ' H' s'/\RelV v u/\D.rt v H'
def PE(X:Cx)(e:Expr)(t:TE):Prop:=∀(pins:List (Addr×Obj))(s:Shared)(σ:St)(H:Hp)(Q:VK),Inv X pins σ H s->t σ H Q->wpAny (model X.prog X.w) X.A (eval e X.env) (EP X pins σ Q) X.xe s
def PT(X:Cx)(e:Expr)(t:TT):Prop:=∀(pins:List (Addr×Obj))(s:Shared)(σ:St)(H:Hp)(Q:Bool->Hp->Prop),Inv X pins σ H s->t σ H Q->wpAny (model X.prog X.w) X.A (isTrue e X.env (eval e X.env)) (TP X pins σ Q) X.xe s
def PW(X:Cx)(e:Expr)(t:TT):Prop:=∀(whole:Sem Value)(pins:List (Addr×Obj))(s:Shared)(σ:St)(H:Hp)(Q:Bool->Hp->Prop),Inv X pins σ H s->t σ H Q->wpAny (model X.prog X.w) X.A (isTrue e X.env whole) (TP X pins σ Q) X.xe s
theorem PW.pt{X:Cx}{e:Expr}{t:TT}(h:PW X e t):PT X e t:=h _
def PA(X:Cx)(es:List Expr)(t:TA):Prop:=∀(pos:Pos)(pins:List (Addr×Obj))(s:Shared)(σ:St)(H:Hp)(Q:List V->Hp->Prop),Inv X pins σ H s->t σ H Q->wpAny (model X.prog X.w) X.A (spliced (backTo pos (starEach es X.env))) (AP X pins σ Q) X.xe s
def PS(X:Cx)(st:Stmt)(t:TS):Prop:=∀(pins:List (Addr×Obj))(s:Shared)(σ:St)(H:Hp)(D:Ends),Inv X pins σ H s->t D σ H->wpAny (model X.prog X.w) X.A (exec st X.env) (SP X pins D) X.xe s
def uK(X:Cx)(st:List Stmt)(t:TS):Prop:=∀(pins:List (Addr×Obj))(s:Shared)(σ:St)(H:Hp)(D:Ends),Inv X pins σ H s->t D σ H->wpAny (model X.prog X.w) X.A (execs st X.env) (SP X pins D) X.xe s
theorem bZ{α:Type}{t:Sem α}{Q Q':α->Shared->Prop}{M:Model}{A:Around}{E:Value->Shared->Prop}{s:Shared}(h:wpAny M A t Q E s)(hQ:∀a s,Q a s->Q' a s):wpAny M A t Q' E s:=wpAny_mono h hQ fun _ _ x=>x
section
variable{X:Cx}
def Nt(i:Nat):TE:=fun σ H Q=>∃v,σ[i]?=some (some v)/\Q v H
def tC(v:V):TE:=fun _ H Q=>Q v H
theorem gF{i:Nat}{x:Str}{pos:Pos}(hN:X.N[i]?=some x)(hv:v8 X.env.scope x)(hd:(x==("__debug__":Str))=false:=by decide)(hcd:(x==("__classdict__":Str))=false:=by decide):PE X (.Name x pos) (Nt i):=by
 intro pins s σ H Q I h;obtain⟨v,e,h⟩:=h;obtain⟨m,hn,hl⟩:=I.loc;obtain⟨u,r,l⟩:=hl i x v hN e hv;have fin:EP X pins σ Q u s:=⟨v,H,I,r,h⟩;rcases l with⟨hk,hm⟩|⟨hk,c,hc,hcell⟩;.exact wpAny_Name (wpAny_loadName_local I.ok.kind hk hn hm fin) hd
 . rcases hk with hk|hk;.exact wpAny_Name (wpAny_loadName_cell I.ok.kind hk hc hcell fin) hd
   .exact wpAny_Name (wpAny_loadName_free I.ok.kind hk hc hcell fin hcd) hd
theorem xW{i j pos}:PE X (.Constant (.int i) j pos) (tC (.int i)):=fun _ _ _ H _ I h=>wpAny_Constant_int ⟨.int i,H,I.tok _,⟨_,rfl⟩,h⟩
theorem Uv{b j pos}:PE X (.Constant (.bool b) j pos) (tC (.bl b)):=fun _ _ _ H _ I h=>Constant_bool ⟨.bl b,H,I,rfl,h⟩
theorem PK{j pos}:PE X (.Constant .none j pos) (tC .non):=fun _ _ _ H _ I h=>Constant_none ⟨.non,H,I,rfl,h⟩
def Gl(X:Cx)(x:Str):Prop:=X.env.kindOf x=some .globalImplicit
theorem Hs{E:Value->Shared->Prop}{pins:List (Addr×Obj)}{s:Shared}{σ:St}{H:Hp}{x:Str}{u:Value}{pos:Pos}{Q:Value->Shared->Prop}(I:Inv X pins σ H s)(hg:Gl X x)(hm:X.mg x=some u)(h:Q u s)(hd:(x==("__debug__":Str))=false:=by decide):wpAny (model X.prog X.w) X.A (eval (.Name x pos) X.env) Q E s:=Calls.Name_function_global I.ok.kind hg (Calls.loadGlobal_global (by rw[I.ok.glob];exact I.mod.glob.keeps I.bk) hm h) hd
theorem gJ{E:Value->Shared->Prop}{pins:List (Addr×Obj)}{s:Shared}{σ:St}{H:Hp}{x:Str}{u:Value}{pos:Pos}{Q:Value->Shared->Prop}(I:Inv X pins σ H s)(hg:Gl X x)(hm:X.mg x=none)(hv:bootBuiltins x=some u)(h:Q u s)(hn:x≠"__name__":=by decide)(hd:(x==("__debug__":Str))=false:=by decide):wpAny (model X.prog X.w) X.A (eval (.Name x pos) X.env) Q E s:=by obtain⟨mb,h1,h2⟩:=I.mod.blt;exact Calls.Name_function_global I.ok.kind hg (Calls.loadGlobal_builtin (by rw[I.ok.glob];exact I.mod.glob.keeps I.bk) hm (by rw[I.ok.blt];exact h1.keeps I.bk) ((h2 x hn).trans hv) h) hd
theorem Jw{x:Str}{v:V}{u:Value}{pos:Pos}(hg:Gl X x)(hm:X.mg x=none)(hv:bootBuiltins x=some u)(r:RelV v u)(hn:x≠"__name__":=by decide)(hd:(x==("__debug__":Str))=false:=by decide):PE X (.Name x pos) (tC v):=fun _ _ _ H _ I h=>gJ I hg hm hv ⟨v,H,I,r,h⟩ hn hd
variable{a b:Expr}{ta tb:TE}{pos:Pos}
def PC(X:Cx)(op:CmpOp)(a b:Expr)(t:TE):Prop:=∀(pins:List (Addr × Obj))(s:Shared)(σ:St)(H:Hp)(Q:VK),Inv X pins σ H s->t σ H Q->wpAny (model X.prog X.w) X.A (eval a X.env) (fun v s₁=>wpAny (model X.prog X.w) X.A (eval b X.env) (fun u s₂=>wpAny (model X.prog X.w) X.A (compareOp op v u) (EP X pins σ Q) X.xe s₂) X.xe s₁) X.xe s
def tB(t:TE):TT:=fun σ H Q=>t σ H fun x H1=>∃c,x=.bl c/\Q c H1
theorem Qk{op:CmpOp}{t:TE}(h:PC X op a b t)(h1:behindInMarks op b=false:=by first|exact Wu _ (by decide) (by decide)|rfl):PT X (.Compare a [op] [b] pos) (tB t):=by intro pins s σ H Q I hw;refine wpAny_isTrue_Compare1 (bZ (h pins s σ H _ I hw) fun v s1 h1=>bZ h1 fun u s2 h2=>bZ h2 fun c s3⟨x,H1,I1,r1,q1⟩=>?_) h1;obtain⟨d,rfl,q⟩:=q1;cases r1;exact wpAny_truthy_bool ⟨H1,I1,q⟩
theorem QV{e:Expr}{t:TE}(h:PE X e t)(he:∀whole,isTrue e X.env whole=(do let v<-whole;standAt e.pos;holding [v] (truthy v)):=by intro _;rfl):PT X e (tB t):=by intro pins s σ H Q I hw;refine isTrue_plain (bZ (h pins s σ H _ I hw) fun v s1⟨x,H1,I1,r1,q1⟩=>?_) (he _);obtain⟨d,rfl,q⟩:=q1;cases r1;exact wpAny_truthy_bool ⟨H1,I1,q⟩
variable{tA Zd:TT}{rest:List Expr}
def aa7(t u:TT):TT:=fun σ H Q=>t σ H fun c H1=>if c=true then u σ H1 Q else Q false H1
def tOr(t u:TT):TT:=fun σ H Q=>t σ H fun c H1=>if c=true then Q true H1 else u σ H1 Q
def aaX(t:TT):TT:=fun σ H Q=>t σ H fun c H1=>Q (!c) H1
theorem Jo(ha:PT X a tA):PW X (.BoolOp .And [a] pos) tA:=by intro wh pins s σ H Q I h;refine isTrue_and (bZ (ha pins s σ H Q I h) fun c s1 e=>?_);cases c with|true=>exact isTrue_and_nil e|false=>exact e
theorem Qv(ha:PT X a tA):PW X (.BoolOp .Or [a] pos) tA:=by intro wh pins s σ H Q I h;refine isTrue_or (bZ (ha pins s σ H Q I h) fun c s1 e=>?_);cases c with|false=>exact isTrue_or_nil e|true=>exact e
theorem MF(ha:PT X a tA)(hb:PW X (.BoolOp .And (b::rest) pos) Zd):PW X (.BoolOp .And (a::b::rest) pos) (aa7 tA Zd):=by intro wh pins s σ H Q I h;refine isTrue_and (bZ (ha pins s σ H _ I h) fun c s1⟨H1,I1,q1⟩=>?_);cases c with|true=>exact hb wh pins s1 σ H1 Q I1 q1|false=>exact⟨H1,I1,q1⟩
theorem Wr(ha:PT X a tA)(hb:PW X (.BoolOp .Or (b::rest) pos) Zd):PW X (.BoolOp .Or (a::b::rest) pos) (tOr tA Zd):=by intro wh pins s σ H Q I h;refine isTrue_or (bZ (ha pins s σ H _ I h) fun c s1⟨H1,I1,q1⟩=>?_);cases c with|true=>exact⟨H1,I1,q1⟩|false=>exact hb wh pins s1 σ H1 Q I1 q1
theorem Pq(ha:PT X a tA):PT X (.UnaryOp .Not a pos) (aaX tA):=by intro pins s σ H Q I h;exact isTrue_not (ha pins s σ H (fun c H1=>Q (!c) H1) I h)
def Ve(ta tb:TE):TE:=fun σ H Q=>ta σ H fun x H1=>∃c,x=.bl c/\if c=true then tb σ H1 Q else Q (.bl false) H1
def Vo(ta:TE):TE:=fun σ H Q=>ta σ H fun x H1=>∃c,x=.bl c/\Q (.bl (!c)) H1
theorem QM{op}{t:TE}(h:PE X a t):PE X (.BoolOp op [a] pos) t:=fun pins s σ H Q I hw=>BoolOp_one (h pins s σ H Q I hw)
theorem Oj(ha:PE X a ta)(hb:PE X (.BoolOp .And (b::rest) pos) tb):PE X (.BoolOp .And (a::b::rest) pos) (Ve ta tb):=by intro pins s σ H Q I h;refine BoolOp_and (bZ (ha pins s σ H _ I h) fun v s1⟨x,H1,I1,r1,q1⟩=>?_);obtain⟨c,rfl,q1⟩:=q1;cases r1;refine wpAny_truthy_bool ?_;cases c with|true=>exact hb pins s1 σ H1 Q I1 q1|false=>exact⟨.bl false,H1,I1,rfl,q1⟩
theorem Qn(ha:PE X a ta):PE X (.UnaryOp .Not a pos) (Vo ta):=by intro pins s σ H Q I h;refine UnaryOp_ (bZ (ha pins s σ H _ I h) fun v s1⟨x,H1,I1,r1,q1⟩=>?_);obtain⟨c,rfl,q1⟩:=q1;cases r1;exact not_of (wpAny_truthy_bool ⟨.bl (!c),H1,I1,rfl,q1⟩)
def tIf(t:TT)(ta tb:TE):TE:=fun σ H Q=>t σ H fun c H1=>if c=true then ta σ H1 Q else tb σ H1 Q
theorem CK{c:Expr}(hc:PT X c tA)(ha:PE X a ta)(hb:PE X b tb):PE X (.IfExp c a b pos) (tIf tA ta tb):=by intro pins s σ H Q I h;refine wpAny_IfExp (bZ (hc pins s σ H _ I h) fun d s1⟨H1,I1,q1⟩=>?_);cases d with|true=>exact ha pins s1 σ H1 Q I1 q1|false=>exact hb pins s1 σ H1 Q I1 q1
end
def dq(K:PySem.W.Frag)(H:Hp)(a:Addr)(xs:List V):Prop:=Rd H a (.lst xs)\/∃(o:Obj)(its:Array Value)(n:Nat),K.lookup a=some o/\o.cls=.type "list"/\o.dict=none/\o.data=.seq its n/\its.size<=sizeLine/\Vals xs its.toList
def gO(K:PySem.W.Frag)(H:Hp)(a:Addr)(xs:List V):Prop:=Rd H a (.tup xs)\/∃(o:Obj)(its:Array Value)(n:Nat),K.lookup a=some o/\o.cls=.type "tuple"/\o.data=.seq its n/\its.size<=sizeLine/\Vals xs its.toList
noncomputable def abj:Value->Option V|.none=>some .non|.bool b=>some (.bl b)|.int i _=>some (.int i)|.str x _=>some (.str x)|.bytes b _=>some (.byt b)|.float b _=>some (.flt b)|.ref a=>some (.ref a)|.type n=>some (.ty n)|_=>none
theorem RelV.abs{x:V}{u:Value}(r:RelV x u):abj u=some x:=by cases x with|non=>cases r;rfl|bl _=>cases r;rfl|int _=>obtain⟨t,rfl⟩:=r;rfl|str _=>obtain⟨t,rfl⟩:=r;rfl|byt _=>obtain⟨t,rfl⟩:=r;rfl|flt _=>obtain⟨t,rfl⟩:=r;rfl|ref _=>cases r;rfl|ty _=>cases r;rfl
theorem RelV.inj{x y:V}{u:Value}(r:RelV x u)(q:RelV y u):x=y:=Option.some.inj (r.abs.symm.trans q.abs)
theorem Vals.inj:∀{xs ys:List V}{us:List Value},Vals xs us->Vals ys us->xs=ys|_,_,_,.nil,.nil=>rfl|_,_,_,.cons r t,.cons r' t'=>by rw[r.inj r',Vals.inj t t']
section
variable{X:Cx}{pins:List (Addr×Obj)}{σ:St}{H:Hp}{s:Shared}{a:Addr}{xs ys:List V}
theorem dq.of{K:PySem.W.Frag}(h:H a=some (.lst xs)):dq K H a xs:=.inl (.inl h)
theorem gO.of{K:PySem.W.Frag}(h:H a=some (.tup xs)):gO K H a xs:=.inl (.inl h)
theorem Inv.list(I:Inv X pins σ H s)(h:dq X.K H a xs):∃its:List Value,Vals xs its/\PlainL s.heap a its.toArray/\xs.length<=sizeLine:=by
 rcases h with h|⟨o,its,n,hk,hc,hd,hs,hz,r⟩;.obtain⟨z,its,n,r,e⟩:=h.ok I.hok;exact⟨its,r,⟨_,n,e,rfl,rfl,rfl⟩,z⟩
 .refine⟨its.toList,r,⟨o,n,I.Mj a o hk,hc,hd,by simpa using hs⟩,?_⟩;have e:=r.length;simp only[length_toList]at e;omega
theorem Inv.tuple(I:Inv X pins σ H s)(h:gO X.K H a xs):∃its:List Value,Vals xs its/\IsTup s.heap a its.toArray/\xs.length<=sizeLine:=by
 rcases h with h|⟨o,its,n,hk,hc,hs,hz,r⟩;.obtain⟨z,its,r,p⟩:=h.ok I.hok;exact⟨its,r,p,z⟩
 .refine⟨its.toList,r,⟨o,I.Mj a o hk,hc,n,by simpa using hs⟩,?_⟩;have e:=r.length;simp only[length_toList]at e;omega
theorem Inv.lG(I:Inv X pins σ H s)(h:dq X.K H a xs)(h':dq X.K H a ys):xs=ys:=by
 obtain⟨its,r,⟨o,n,e,_,_,d⟩,_⟩:=I.list h;obtain⟨its',r',⟨o',n',e',_,_,d'⟩,_⟩:=I.list h';rw[e]at e';cases e';rw[d]at d';injection d' with d1 _;have:its=its':=by simpa using congrArg toList d1
 subst this;exact r.inj r'
theorem Inv.jC(I:Inv X pins σ H s)(h:gO X.K H a xs)(h':gO X.K H a ys):xs=ys:=by
 obtain⟨its,r,⟨o,e,_,n,d⟩,_⟩:=I.tuple h;obtain⟨its',r',⟨o',e',_,n',d'⟩,_⟩:=I.tuple h';rw[e]at e';cases e';rw[d]at d';injection d' with d1 _;have:its=its':=by simpa using congrArg toList d1
 subst this;exact r.inj r'
end
noncomputable abbrev Cx.wish(X:Cx)(E:Value->Shared->Prop):Cx:={X with xe:=E}
noncomputable abbrev Cx.Wa(X:Cx):Cx:=X.wish fun _ _=>False
theorem Cx.Ok.wish{X:Cx}(ok:X.Ok)(E:Value->Shared->Prop):(X.wish E).Ok:=⟨ok.mod,ok.kind,ok.glob,ok.blt,ok.above,ok.inj,ok.has,ok.cab,ok.hd,ok.frames,ok.Zb,ok.exf,ok.bs,ok.Lx,ok.Gz,ok.J4,ok.pM,ok.Tq⟩
theorem Cx.Ok.je{X:Cx}{E:Value->Shared->Prop}(ok:(X.wish E).Ok):X.Ok:=⟨ok.mod,ok.kind,ok.glob,ok.blt,ok.above,ok.inj,ok.has,ok.cab,ok.hd,ok.frames,ok.Zb,ok.exf,ok.bs,ok.Lx,ok.Gz,ok.J4,ok.pM,ok.Tq⟩
section
variable{X:Cx}{pins:List (Addr×Obj)}{σ:St}{H:Hp}{s:Shared}{E:Value->Shared->Prop}
theorem Inv.wish(I:Inv X pins σ H s)(E:Value->Shared->Prop):Inv (X.wish E) pins σ H s:=⟨I.ok.wish E,I.os,I.bare,I.base,I.loc,I.cell,I.free,I.jP,I.pin,I.hok,I.len⟩
theorem Inv.je(I:Inv (X.wish E) pins σ H s):Inv X pins σ H s:=⟨I.ok.je,I.os,I.bare,I.base,I.loc,I.cell,I.free,I.jP,I.pin,I.hok,I.len⟩
theorem SP.je{D:Ends}{f:Flow}{s':Shared}(h:SP (X.wish E) pins D f s'):SP X pins D f s':=by cases f with|next=>obtain⟨σ',H',I,q⟩:=h;exact⟨σ',H',I.je,q⟩|brk=>obtain⟨σ',H',I,q⟩:=h;exact⟨σ',H',I.je,q⟩|cont=>obtain⟨σ',H',I,q⟩:=h;exact⟨σ',H',I.je,q⟩|ret u=>obtain⟨v,σ',H',I,r,q⟩:=h;exact⟨v,σ',H',I.je,r,q⟩
theorem uK.Wa{st:List Stmt}{t:TS}(h:uK X.Wa st t):uK X st t:=fun pins s σ H D I hw=>wpAny_mono (h pins s σ H D (I.wish _) hw) (fun _ _ q=>q.je) fun _ _ z=>False.elim z
end
section
variable{X:Cx}{st:Stmt}{rest:List Stmt}{t u:TS}{e:Expr}{te:TE}{pos:Pos}
def Vj:TS:=fun D σ H=>D.nx σ H
def aa0(t u:TS):TS:=fun D σ H=>t {D with nx:=u D} σ H
theorem yG:uK X [] Vj:=fun _ _ σ H _ I h=>wpAny_execs_nil ⟨σ,H,I,h⟩
theorem lC(h1:PS X st t)(h2:uK X rest u):uK X (st::rest) (aa0 t u):=by intro pins s σ H D I h;refine wpAny_execs_cons (bZ (h1 pins s σ H {D with nx:=u D} I h) fun f s1 q=>?_);cases f with|next=>obtain⟨σ',H',I',q⟩:=q;exact h2 pins s1 σ' H' D I' q|ret v=>exact q|brk=>exact q|cont=>exact q
theorem Inv.quiet{pins:List (Addr×Obj)}{σ:St}{H:Hp}{s:Shared}(I:Inv X pins σ H s):interactive X.env=false:=by simp[interactive,I.ok.kind]
def Ur(te:TE):TS:=fun D σ H=>te σ H fun _ H1=>D.nx σ H1
theorem yW(he:PE X e te)(hs:swapsWith e none pos.line X.env=pure false:=by rfl):PS X (.Expr e pos) (Ur te):=by intro pins s σ H D I h;exact wpAny_Expr_any (bZ (he pins s σ H _ I h) fun v s1⟨x,H1,I1,r1,q1⟩=>⟨σ,H1,I1,q1⟩) I.quiet hs
def abv(te:TE):TS:=fun D σ H=>te σ H D.rt
theorem Dl(he:PE X e te):PS X (.Return (some e) pos) (abv te):=by intro pins s σ H D I h;exact wpAny_Return_some (bZ (he pins s σ H _ I h) fun v s1⟨x,H1,I1,r1,q1⟩=>⟨x,σ,H1,I1,r1,q1⟩)
def abI(c:TT)(t u:TS):TS:=fun D σ H=>c σ H fun b H1=>if b=true then t D σ H1 else u D σ H1
theorem Lf{c:Expr}{a b:List Stmt}{tc:TT}(hc:PT X c tc)(ha:uK X a t)(hb:uK X b u):PS X (.If c a b pos) (abI tc t u):=by intro pins s σ H D I h;refine wpAny_If (bZ (hc pins s σ H _ I h) fun d s1⟨H1,I1,q1⟩=>?_);cases d with|true=>exact ha pins s1 σ H1 D I1 q1|false=>exact hb pins s1 σ H1 D I1 q1
def Ol:TS:=fun _ _ _=>False
theorem FN:PS X st Ol:=fun _ _ _ _ _ _ h=>h.elim
end
abbrev TG:=V->St->Hp->(St->Hp->Prop)->Prop
abbrev BL:=List V->St->Hp->(St->Hp->Prop)->Prop
def PG(X:Cx)(target:Expr)(t:TG):Prop:=∀(pins:List (Addr × Obj))(s:Shared)(σ:St)(H:Hp)(v:V)(u:Value)(Q:St->Hp->Prop),Inv X pins σ H s->RelV v u->t v σ H Q->wpAny (model X.prog X.w) X.A (assign target X.env u) (fun _ s'=>∃σ' H',Inv X pins σ' H' s'/\Q σ' H') X.xe s
def Yi(X:Cx)(ts:List Expr)(t:BL):Prop:=∀(pins:List (Addr × Obj))(s:Shared)(σ:St)(H:Hp)(vs:List V)(us:List Value)(Q:St->Hp->Prop),Inv X pins σ H s->Vals vs us->t vs σ H Q->wpAny (model X.prog X.w) X.A (assignInOrder ((assignEach ts X.env).map (·.2)) us) (fun _ s'=>∃σ' H',Inv X pins σ' H' s'/\Q σ' H') X.xe s
abbrev FP:=V->V->V->Hp->(Hp->Prop)->Prop
def Qe(X:Cx)(t:FP):Prop:=∀(pins:List (Addr × Obj))(s:Shared)(σ:St)(H:Hp)(o i v:V)(ov iv u:Value)(Q:Hp->Prop),Inv X pins σ H s->RelV o ov->RelV i iv->RelV v u->t o i v H Q->wpAny (model X.prog X.w) X.A (setItem ov iv u) (fun _ s'=>∃H',Inv X pins σ H' s'/\Q H') X.xe s
abbrev Rt:=V->V->Hp->VK->Prop
def La(X:Cx)(op:Operator)(t:Rt):Prop:=∀(pins:List (Addr × Obj))(s:Shared)(σ:St)(H:Hp)(x y:V)(v u:Value)(Q:VK),Inv X pins σ H s->RelV x v->RelV y u->t x y H Q->wpAny (model X.prog X.w) X.A (inplaceOp op v u) (EP X pins σ Q) X.xe s
section
variable{X:Cx}{pos:Pos}
def iT(i:Nat):TG:=fun v σ H Q=>Q (σ.set i (some v)) H
theorem aN{i:Nat}{x:Str}(hN:X.N.Nodup)(hi:X.N[i]?=some x)(hx:Loc X.env.scope x)(hf:X.fn x=true\/X.env.scope.names.lookup x=some .local:=by first|exact .inl rfl|exact .inr rfl|assumption):PG X (.Name x pos) (iT i):=by intro pins s σ H v u Q I r h;exact wpAny_assign_Name (jr I hN hi hx r (fun s' I'=>⟨_,H,I',h⟩) hf)
def QS:BL:=fun vs σ H Q=>vs=[]/\Q σ H
def Gv(t:TG)(u:BL):BL:=fun vs σ H Q=>∃v r,vs=v::r/\t v σ H fun σ' H'=>u r σ' H' Q
theorem fu:Yi X [] QS:=by intro pins s σ H vs us Q I r h;obtain⟨e,h⟩:=h;subst e;cases r;exact assignInOrder_nil ⟨σ,H,I,h⟩
theorem bA{e:Expr}{es:List Expr}{t:TG}{u:BL}(h1:PG X e t)(h2:Yi X es u)(hs:(assignEach (e::es) X.env).map (·.2)=assign e X.env::(assignEach es X.env).map (·.2):=by rfl):Yi X (e::es) (Gv t u):=by intro pins s σ H vs us Q I r h;obtain⟨v,vr,e1,h⟩:=h;subst e1;cases r with|cons r rr=>rw[hs];refine assignInOrder_cons (bZ (h1 pins s σ H _ _ _ I r h) fun _ s1⟨σ1,H1,I1,q1⟩=>?_);exact h2 pins s1 σ1 H1 _ _ Q I1 rr q1
def M9(K:PySem.W.Frag)(n:Nat)(t:BL):TG:=fun v σ H Q=>∃a xs,v=.ref a/\gO K H a xs/\xs.length=n/\t xs σ H Q
theorem ik{es:List Expr}{k:Nat}{t:BL}{n:Nat}(hc:X.calm=true)(h:Yi X es t)(hn:(assignEach es X.env).length=n:=by rfl)(hst:(assignEach es X.env).findIdx? (·.1)=none:=by rfl):PG X (.Tuple es k pos) (M9 X.K n t):=by intro pins s σ H v u Q I r hw;obtain⟨a,xs,e1,hq,hl,hw⟩:=hw;subst e1;cases r;obtain⟨its,rv,ht,hz⟩:=I.tuple hq;refine assign_Tuple_tuple (I.ok.hd hc) ht (by simp[hn,<-hl,rv.length]) hst fun h' hx=>?_;have I1:Inv X pins σ H {s with heap:=h'}:=I.kept (t':=s.toks) fun b o e=>hx b o (ne_of_lt (lt_size e)) e;exact h pins _ σ H xs _ Q I1 (by simpa using rv) hw
def aaC(to ti:TE)(t:FP):TG:=fun v σ H Q=>to σ H fun o H1=>ti σ H1 fun i H2=>t o i v H2 fun H3=>Q σ H3
theorem Nz{o i:Expr}{to ti:TE}{t:FP}(ho:PE X o to)(hi:PE X i ti)(hs:Qe X t)(ha:∀ v,assign (.Subscript o i pos) X.env v=(do
  let ov<-holding [v] (eval o X.env)let iv<-holding [v,ov] (eval i X.env)standAt pos
  holding [v,ov,iv] (setItem ov iv v)release [v,ov,iv] []):=by intro _;rfl):PG X (.Subscript o i pos) (aaC to ti t):=by intro pins s σ H v u Q I r h;rw[ha];refine wpAny_bind (wpAny_holding (bZ (ho pins s σ H _ I h) fun ov s1⟨x,H1,I1,r1,q1⟩=>?_));refine wpAny_bind (wpAny_holding (bZ (hi pins s1 σ H1 _ I1 q1) fun iv s2⟨y,H2,I2,r2,q2⟩=>?_));refine wpAny_bind (wpAny_standAt (wpAny_bind (wpAny_holding (bZ (hs pins s2 σ H2 x y v ov iv u _ I2 r1 r2 r q2) fun _ s3⟨H3,I3,q3⟩=>?_))));exact wpAny_release ⟨σ,H3,I3,q3⟩
def Mz(te:TE)(g:TG):TS:=fun D σ H=>te σ H fun x H1=>g x σ H1 D.nx
theorem Em{tg e:Expr}{te:TE}{g:TG}(he:PE X e te)(hg:PG X tg g)(hs:swapsWithSole [tg] e pos.line X.env=pure false:=by rfl)(hw:swappedStores [tg] e X.env=pure none:=by rfl)(h1:(assignEach [tg] X.env).map (·.2)=[assign tg X.env]:=by rfl):PS X (.Assign [tg] e pos) (Mz te g):=by intro pins s σ H D I h;refine wpAny_Assign_stores (bZ (he pins s σ H _ I h) fun v s1⟨x,H1,I1,r1,q1⟩=>?_) hs hw;rw[h1];exact bZ (hg pins s1 σ H1 x v _ I1 r1 q1) fun _ s2 q=>q
theorem CW{i:Nat}{x:Str}{e:Expr}{te:TE}{pos':Pos}(hN:X.N.Nodup)(hi:X.N[i]?=some x)(hx:Loc X.env.scope x)(he:PE X e te)(hs:swapsWith e (some (.Name x pos')) pos.line X.env=pure false:=by rfl)(hf:X.fn x=true\/X.env.scope.names.lookup x=some .local:=by first|exact .inl rfl|exact .inr rfl|assumption):PS X (.Assign [.Name x pos'] e pos) (Mz te (iT i)):=by intro pins s σ H D I h;refine wpAny_Assign_Name (bZ (he pins s σ H _ I h) fun v s1⟨y,H1,I1,r1,q1⟩=>?_) hs;exact jr I1 hN hi hx r1 (fun s2 I2=>⟨_,H1,I2,q1⟩) hf
def abO(i j:Nat)(ta:TA):TS:=fun D σ H=>ta σ H fun vs H1=>∃v w,vs=[v,w]/\D.nx ((σ.set i (some v)).set j (some w)) H1
theorem M5{i j:Nat}{x y:Str}{a b:Expr}{ta:TA}{px py pt:Pos}{kt k2 QZ}(hc:X.calm=true)(hN:X.N.Nodup)(hi:X.N[i]?=some x)(hj:X.N[j]?=some y)(hij:i≠j)(hx:X.env.scope.names.lookup x=some .local)(hy:X.env.scope.names.lookup y=some .local)(ha:PA X [a,b] ta)(hw:swappedStores [.Tuple [.Name x px,.Name y py] kt pt] (.Tuple [a,b] k2 QZ) X.env=pure (some [x,y]))(hs:swapsWithSole [.Tuple [.Name x px,.Name y py] kt pt] (.Tuple [a,b] k2 QZ) pos.line X.env=pure false:=by rfl):PS X (.Assign [.Tuple [.Name x px,.Name y py] kt pt] (.Tuple [a,b] k2 QZ) pos) (abO i j ta):=by
 intro pins s σ H D I h;rw[exec_Assign_arm];refine wpAny_bind (wpAny_standAt ?_);rw[hs];refine wpAny_bind (wpAny_pure ?_);rw[if_neg (by decide)];refine wpAny_bind (Tuple_ (bZ (ha _ pins s σ H _ I h) fun us s1⟨vs,H1,I1,r1,q1⟩=>?_));obtain⟨v,w,e1,q1⟩:=q1;subst e1;obtain⟨u1,u2,rfl,rv,vL⟩:∃u1 u2,us=[u1,u2]/\RelV v u1/\RelV w u2:=by cases r1 with|cons p q=>cases q with|cons p' q'=>cases q';exact⟨_,_,rfl,p,p'⟩
 refine wpAny_newObj_type ?_ (by show 2<=sizeLine;decide);have I2:Inv X pins σ H1 {s1 with heap:=s1.heap.push {cls:=.type "tuple",data:=.seq [u1,u2].toArray}}:=I1.kept (t':=s1.toks) fun b o e=>get?_push_of_some _ e;rw[hw];refine wpAny_bind (wpAny_pure ?_);show wpAny (model X.prog X.w) X.A (do rule "assign.swapped-stores";let items<-unpackItems (.ref s1.heap.objs.size) 2 none;assignInOrder [fun v=>bindName X.env y v,fun v=>bindName X.env x v] items.reverse;pure Flow.next) _ _ _;refine wpAny_bind (wpAny_rule (wpAny_bind (unpackItems_tuple (items:=#[u1,u2]) (I.ok.hd hc) (IsTup.new s1.heap _) fun h' hx'=>?_)));have I3:=I2.kept (h':=h') (t':=s1.toks) fun b o e=>hx' b o (ne_of_lt (lt_size e)) e;show wpAny _ _ (assignInOrder [fun v=>bindName X.env y v,fun v=>bindName X.env x v] [u2,u1]>>=fun _=>pure Flow.next) _ _ _;refine wpAny_bind (assignInOrder_cons (wpAny_bindName (jr I3 hN hj (.inl hy) vL (fun s2 I4=>?_) (.inr hy))));refine assignInOrder_cons (wpAny_bindName (jr I4 hN hi (.inl hx) rv (fun s3 I5=>assignInOrder_nil (wpAny_pure ?_)) (.inr hx)));rw[List.set_comm _ _ (Ne.symm hij)]at I5;exact⟨_,H1,I5,q1⟩
def acy(i:Nat)(te:TE)(ti:Rt):TS:=fun D σ H=>∃x,σ[i]?=some (some x)/\te σ H fun y H1=>ti x y H1 fun z H2=>D.nx (σ.set i (some z)) H2
theorem Oq{i:Nat}{x:Str}{e:Expr}{te:TE}{op:Operator}{ti:Rt}{pos':Pos}(hN:X.N.Nodup)(hi:X.N[i]?=some x)(hx:Loc X.env.scope x)(he:PE X e te)(ho:La X op ti)(hf:X.fn x=true\/X.env.scope.names.lookup x=some .local:=by first|exact .inl rfl|exact .inr rfl|assumption):PS X (.AugAssign (.Name x pos') op e pos) (acy i te ti):=by
 intro pins s σ H D I h;obtain⟨v,e1,h⟩:=h;obtain⟨m,hn,hl⟩:=I.loc;have Ze:v8 X.env.scope x:=by rcases hx with k|k;exact .inl k;exact .inr (.inl k)
 obtain⟨u,r,l⟩:=hl i x v hi e1 Ze;refine wpAny_AugAssign_Name ?_;have go:wpAny (model X.prog X.w) X.A (eval e X.env) (fun w s₂=>wpAny (model X.prog X.w) X.A (inplaceOp op u w) (fun r s₃=>wpAny (model X.prog X.w) X.A (storeName X.env x r) (fun _=>SP X pins D .next) X.xe s₃) X.xe s₂) X.xe s:=by refine bZ (he pins s σ H _ I h) fun w s1⟨y,H1,I1,r1,q1⟩=>?_;refine bZ (ho pins s1 σ H1 v y u w _ I1 r r1 q1) fun z s2⟨zv,H2,I2,r2,q2⟩=>?_;exact jr I2 hN hi hx r2 (fun s3 I3=>⟨_,H2,I3,q2⟩) hf
 rcases l with⟨hk,hm⟩|⟨hk,c,hc,hcell⟩;.exact wpAny_loadName_local I.ok.kind hk hn hm go
 . rcases hk with hk|hk;.exact wpAny_loadName_cell I.ok.kind hk hc hcell go
   . rcases hx with k|k;.have:X.env.scope.names.lookup x=some .free:=hk;rw[k]at this;cases this
     .have:X.env.scope.names.lookup x=some .free:=hk;rw[k]at this;cases this
def Uu(to ti te:TE)(J5:V->V->Hp->VK->Prop)(Zf:Rt)(J6:FP):TS:=fun D σ H=>to σ H fun o H1=>ti σ H1 fun i H2=>J5 o i H2 fun x H3=>te σ H3 fun y H4=>Zf x y H4 fun z H5=>J6 o i z H5 fun H6=>D.nx σ H6
def VH(X:Cx)(t:V->V->Hp->VK->Prop):Prop:=∀(pins:List (Addr × Obj))(s:Shared)(σ:St)(H:Hp)(o i:V)(ov iv:Value)(Q:VK),Inv X pins σ H s->RelV o ov->RelV i iv->t o i H Q->wpAny (model X.prog X.w) X.A (getItem ov iv) (EP X pins σ Q) X.xe s
theorem Hu{o i e:Expr}{to ti te:TE}{J5:V->V->Hp->VK->Prop}{Zf:Rt}{J6:FP}{op:Operator}{tpos:Pos}(ho:PE X o to)(hi:PE X i ti)(hg:VH X J5)(he:PE X e te)(hp:La X op Zf)(hs:Qe X J6)(ha:∀ov iv new,augStore i ov iv new=(do holding [new,ov,iv] (setItem ov iv new);release [new,ov,iv] [];pure .next):=by intros;rfl):PS X (.AugAssign (.Subscript o i tpos) op e pos) (Uu to ti te J5 Zf J6):=by intro pins s σ H D I h;refine wpAny_AugAssign_SubscriptAny (bZ (ho pins s σ H _ I h) fun ov s1⟨x1,H1,I1,r1,q1⟩=>?_) ha;refine bZ (hi pins s1 σ H1 _ I1 q1) fun iv s2⟨x2,H2,I2,r2,q2⟩=>?_;refine bZ (hg pins s2 σ H2 x1 x2 ov iv _ I2 r1 r2 q2) fun old s3⟨x3,H3,I3,r3,q3⟩=>?_;refine bZ (he pins s3 σ H3 _ I3 q3) fun v s4⟨x4,H4,I4,r4,q4⟩=>?_;refine bZ (hp pins s4 σ H4 x3 x4 old v _ I4 r3 r4 q4) fun new s5⟨x5,H5,I5,r5,q5⟩=>?_;exact bZ (hs pins s5 σ H5 x1 x2 x5 ov iv new _ I5 r1 r2 r5 q5) fun _ s6⟨H6,I6,q6⟩=>⟨σ,H6,I6,q6⟩
def RV(f:Int->Int->Int):Rt:=fun x y H Q=>∃i j,x=.int i/\y=.int j/\Q (.int (f i j)) H
theorem Pb:La X .Add (RV fun i j=>i+j):=by intro pins s σ H x y v u Q I r1 r2 h;obtain⟨i,j,e1,e2,q⟩:=h;subst e1;subst e2;obtain⟨t,rfl⟩:=r1;obtain⟨t',rfl⟩:=r2;exact iadd_int ⟨.int _,H,I.tok _,⟨_,rfl⟩,q⟩
theorem Qu:La X .Sub (RV fun i j=>i-j):=by intro pins s σ H x y v u Q I r1 r2 h;obtain⟨i,j,e1,e2,q⟩:=h;subst e1;subst e2;obtain⟨t,rfl⟩:=r1;obtain⟨t',rfl⟩:=r2;exact isub_int ⟨.int _,H,I.tok _,⟨_,rfl⟩,q⟩
end
section
variable{X:Cx}{pos:Pos}
def Ox(c:TT)(tb:TS):TS:=fun D σ H=>∃W:Nat->St->Hp->Prop,(∃m,W m σ H)/\∀m σ H,W m σ H->c σ H fun b H1=>if b=true then ∃N:St->Hp->Prop,(∀σ' H',N σ' H'->∃m',m'<m/\W m' σ' H')/\tb {D with nx:=N,ct:=N,bk:=D.nx} σ H1 else D.nx σ H1
theorem BX{c:Expr}{body:List Stmt}{tc:TT}{tb:TS}(hp:PassesOwn (model X.prog X.w) X.A X.env X.xe)(hc:PT X c tc)(hb:uK X body tb):PS X (.While c body [] pos) (Ox tc tb):=by intro pins s σ H D I h;obtain⟨W,⟨m0,w0⟩,turn⟩:=h;refine wpAny_While (codeAny_whileLoop (fun n s'=>∃σ' H',Inv X pins σ' H' s'/\W n σ' H') ?_ m0 ⟨σ,H,I,w0⟩);rintro n s1⟨σ1,H1,I1,w1⟩;refine wpAny_passesOwn hp (bZ (hc pins s1 σ1 H1 _ I1 (turn n σ1 H1 w1)) fun b s2⟨H2,I2,q2⟩=>?_);cases b with
 |true=>obtain⟨N,hN,q2⟩:=q2;rw[if_pos rfl];refine wpAny_passesOwn hp (bZ (hb pins s2 σ1 H2 _ I2 q2) fun f s3 q3=>?_);cases f with|next=>obtain⟨σ3,H3,I3,n3⟩:=q3;obtain⟨m',hm,w3⟩:=hN σ3 H3 n3;exact⟨m',hm,σ3,H3,I3,w3⟩|cont=>obtain⟨σ3,H3,I3,n3⟩:=q3;obtain⟨m',hm,w3⟩:=hN σ3 H3 n3;exact⟨m',hm,σ3,H3,I3,w3⟩|brk=>exact q3|ret v=>exact q3
 |false=>rw[if_neg Bool.false_ne_true];exact wpAny_execs_nil ⟨σ1,H2,I2,q2⟩
end
structure It where
 go:Nat->Hp->Prop
 GD:Nat->Hp->V->Hp->Prop
 stop:Nat->Hp->Prop
def lX(X:Cx)(pins:List (Addr×Obj))(H:Hp)(b:Addr):Prop:=H b=none/\b≠X.env.locals/\b∉X.fs/\(b∈X.ex\/X.s₀.heap.objs.size<=b)/\(∀x c,X.env.cells.lookup x=some c->c≠b)/\∀p∈X.pn++pins,p.1≠b
theorem Inv.xY{X:Cx}{pins:List (Addr×Obj)}{σ:St}{H H':Hp}{s:Shared}{b:Addr}(I:Inv X pins σ H s)(hb:s.heap.objs.size<=b)(hn:H' b=none):lX X pins H' b:=by
 refine⟨hn,ne_of_gt (lt_of_lt_of_le I.lt hb),I.ZQ hb,.inr (le_trans I.sz hb),fun x c e z=>?_,fun p hp z=>?_⟩;.obtain⟨v,q⟩:=I.cell x c e;exact absurd (lt_of_lt_of_le q.lt (by rw[z];exact hb)) (lt_irrefl _)
 .exact absurd (lt_of_lt_of_le (lt_size (I.pin p hp).1) (by rw[z];exact hb)) (lt_irrefl _)
structure Turn(P:Program)(w:World)(K:PySem.W.Frag)(tg:Expr)(J:It)(fp:List Addr)(it:Addr)(tn:Nat->Heap->Prop):Prop where
 mem:it∈fp
 obj:∀i h,tn i h->∀b∈fp,∃o,h.get? b=some o/\∀v,o.data≠.cell v
 keep:∀i h h',tn i h->(∀b∈fp,∀o,h.get? b=some o->h'.get? b=some o)->tn i h'
 item:∀(X:Cx),X.prog=P->X.w=w->X.K=K->X.calm=true->∀(i:Nat)(pins:List (Addr×Obj))(s:Shared)(σ:St)(H:Hp)(E:Value->Shared->Prop),Inv X pins σ H s->(∀b∈fp,lX X pins H b)->tn i s.heap->J.go i H->wpAny (model P w) X.A (pyNext (.ref it)) (fun r s1=>∃u,r=some u/\wpAny (model P w) X.A (letOwnedTupleGo tg (.ref it) u) (fun _ s2=>∃x H',Inv X pins σ H' s2/\RelV x u/\J.GD i H x H'/\tn (i+1) s2.heap/\∀b∈fp,H' b=none) E s1) E s
 done:∀(X:Cx),X.prog=P->X.w=w->X.K=K->X.calm=true->∀(i:Nat)(pins:List (Addr×Obj))(s:Shared)(σ:St)(H:Hp)(E:Value->Shared->Prop),Inv X pins σ H s->(∀b∈fp,lX X pins H b)->tn i s.heap->J.stop i H->wpAny (model P w) X.A (pyNext (.ref it)) (fun r s1=>r=none/\Inv X pins σ H s1) E s
 self:∀(A:Around)(i:Nat)(s:Shared)(Q:Value->Shared->Prop)(E:Value->Shared->Prop),tn i s.heap->Q (.ref it) s->wpAny (model P w) A (pyIter (.ref it)) Q E s
abbrev TI:=St->Hp->(It->Hp->Prop)->Prop
def PIE(X:Cx)(pins:List (Addr×Obj))(σ:St)(tg:Expr)(R:It->Hp->Prop)(itv:Value)(s2:Shared):Prop:=∃(it:Addr)(fp:List Addr)(tn:Nat->Heap->Prop)(J:It)(H':Hp),itv=.ref it/\Inv X pins σ H' s2/\Turn X.prog X.w X.K tg J fp it tn/\tn 0 s2.heap/\(∀b∈fp,lX X pins H' b)/\R J H'
def PI(X:Cx)(tg iter:Expr)(wi:TI):Prop:=∀(pins:List (Addr × Obj))(s:Shared)(σ:St)(H:Hp)(R:It->Hp->Prop),Inv X pins σ H s->wi σ H R->wpAny (model X.prog X.w) X.A (eval iter X.env) (fun v s1=>wpAny (model X.prog X.w) X.A (pyIter v) (PIE X pins σ tg R) X.xe s1) X.xe s
theorem yZ{M:Model}{A:Around}{E:Value->Shared->Prop}{s:Shared}{tg:Expr}{it:Addr}{u:Value}{o:Obj}{n:String}{vs:Array Value}{Q:Unit->Shared->Prop}(ho:s.heap.get? it=some o)(hc:o.cls=.type n)(hd:o.data=.fields vs)(hn:["enumerate","zip","dict_itemiterator","dict_reverseitemiterator","odict_iterator","itertools.zip_longest","itertools.pairwise"].contains n=false)(hQ:Q () s):wpAny M A (letOwnedTupleGo tg (.ref it) u) Q E s:=by unfold letOwnedTupleGo;cases tg<;>first|exact wpAny_pure hQ|(cases u<;>first|exact wpAny_pure hQ|(refine wpAny_bind (wpAny_load ho ?_);rw[hc,hd];show wpAny M A (if(["enumerate","zip","dict_itemiterator","dict_reverseitemiterator","odict_iterator","itertools.zip_longest","itertools.pairwise"].contains n&&vs[0]?==some (rawInt _))=true then _ else _) Q E s;rw[if_neg (by intro h;rw[hn,Bool.false_and]at h;cases h)];exact wpAny_pure hQ))
noncomputable def Ml(K:PySem.W.Frag)(a:Addr):It:=⟨fun i H=>∃xs x,dq K H a xs/\xs[i]?=some x,fun i H x H'=>H'=H/\∀xs,dq K H a xs->xs[i]?=some x,fun i H=>∃xs,dq K H a xs/\xs.length<=i⟩
noncomputable def RW(K:PySem.W.Frag)(a:Addr):It:=⟨fun i H=>∃xs x,gO K H a xs/\xs[i]?=some x,fun i H x H'=>H'=H/\∀xs,gO K H a xs->xs[i]?=some x,fun i H=>∃xs,gO K H a xs/\xs.length<=i⟩
noncomputable def V1(lo:Int)(n:Nat):It:=⟨fun i _=>i<n,fun i H x H'=>H'=H/\x=.int (lo+i),fun i _=>n<=i⟩
theorem Br{P:Program}{w:World}{K:PySem.W.Frag}{tg:Expr}(a it:Addr):Turn P w K tg (Ml K a) [it] it (fun i h=>h.IsListIter it a i)where
 mem:=by simp
 obj:=fun i h st b hb=>by
  have e:b=it:=by simpa using hb
  subst e;obtain⟨o,e,c,d⟩:=st;exact⟨o,e,fun v z=>by rw[d]at z;cases z⟩
 keep:=fun i h h' st k=>st.at fun o e=>k it (by simp) o e;item:=by intro X hP hw hK hc i pins s σ H E I hf st hg;subst hP hw hK;obtain⟨xs,x,hq,hx⟩:=hg;obtain⟨its,rv,p,hz⟩:=I.list hq;obtain⟨u,hu,ru⟩:=rv.get hx;obtain⟨f0,f1,f2,f3,f4,f5⟩:=hf it (by simp);refine wpAny_pyNext_list_item st p.isList (x:=u) (by simpa using hu) fun h' st' sb=>?_;have I1:Inv X pins σ H {s with heap:=h'}:=I.turned (t':=s.toks) (fun b o hb e=>(sb.2 b hb).trans e) f0 f1 f3 f4 f5;obtain⟨o,e,c,d⟩:=id st';exact⟨u,rfl,yZ (s:={s with heap:=h'}) e c d (by decide) ⟨x,H,I1,ru,⟨rfl,fun ys hy=>by rw[I.lG hy hq];exact hx⟩,st',fun b hb=>(hf b hb).1⟩⟩
 done:=by intro X hP hw hK hc i pins s σ H E I hf st hg;subst hP hw hK;obtain⟨xs,hq,hx⟩:=hg;obtain⟨its,rv,p,hz⟩:=I.list hq;obtain⟨f0,f1,f2,f3,f4,f5⟩:=hf it (by simp);have hl:=rv.length;exact wpAny_pyNext_list_end (I.ok.hd hc) st p.isList (by simp;omega) fun h' eb=>⟨rfl,I.turned (t':=s.toks) (fun b o hb e=>eb b o hb e) f0 f1 f3 f4 f5⟩
 self:=fun _ _ _ _ _ st h=>wpAny_pyIter_listiter st h
theorem wL{P:Program}{w:World}{K:PySem.W.Frag}{tg:Expr}(a it:Addr):Turn P w K tg (RW K a) [it] it (fun i h=>h.IsTupleIter it a i)where
 mem:=by simp
 obj:=fun i h st b hb=>by
  have e:b=it:=by simpa using hb
  subst e;obtain⟨o,e,c,d⟩:=st;exact⟨o,e,fun v z=>by rw[d]at z;cases z⟩
 keep:=fun i h h' st k=>st.at fun o e=>k it (by simp) o e;item:=by intro X hP hw hK hc i pins s σ H E I hf st hg;subst hP hw hK;obtain⟨xs,x,hq,hx⟩:=hg;obtain⟨its,rv,p,hz⟩:=I.tuple hq;obtain⟨u,hu,ru⟩:=rv.get hx;obtain⟨f0,f1,f2,f3,f4,f5⟩:=hf it (by simp);refine wpAny_pyNext_tuple_item st (show s.heap.IsTuple a its.toArray from p) (x:=u) (by simpa using hu) fun h' st' sb=>?_;have I1:Inv X pins σ H {s with heap:=h'}:=I.turned (t':=s.toks) (fun b o hb e=>(sb.2 b hb).trans e) f0 f1 f3 f4 f5;obtain⟨o,e,c,d⟩:=id st';exact⟨u,rfl,yZ (s:={s with heap:=h'}) e c d (by decide) ⟨x,H,I1,ru,⟨rfl,fun ys hy=>by rw[I.jC hy hq];exact hx⟩,st',fun b hb=>(hf b hb).1⟩⟩
 done:=by intro X hP hw hK hc i pins s σ H E I hf st hg;subst hP hw hK;obtain⟨xs,hq,hx⟩:=hg;obtain⟨its,rv,p,hz⟩:=I.tuple hq;obtain⟨f0,f1,f2,f3,f4,f5⟩:=hf it (by simp);have hl:=rv.length;exact wpAny_pyNext_tuple_end (I.ok.hd hc) st (show s.heap.IsTuple a its.toArray from p) (by simp;omega) fun h' eb=>⟨rfl,I.turned (t':=s.toks) (fun b o hb e=>eb b o hb e) f0 f1 f3 f4 f5⟩
 self:=fun _ _ _ _ _ st h=>wpAny_pyIter_tupleiter st h
theorem xU{P:Program}{w:World}{K:PySem.W.Frag}{tg:Expr}(it:Addr)(lo:Int)(n:Nat):Turn P w K tg (V1 lo n) [it] it (fun i h=>IsRangeIter h it (lo+(i:Nat)*1) ((n:Int)-(i:Nat)) 1)where
 mem:=by simp
 obj:=fun i h st b hb=>by
  have e:b=it:=by simpa using hb
  subst e;exact⟨_,st,fun v z=>by have z':Data.fields _=Data.cell v:=z;cases z'⟩
 keep:=fun i h h' st k=>k it (by simp) _ st;item:=by intro X hP hw hK hc i pins s σ H E I hf st hg;subst hP hw hK;obtain⟨f0,f1,f2,f3,f4,f5⟩:=hf it (by simp);have W:=Walks.range (prog:=X.prog) (w:=X.w) (I.ok.hd hc) it lo 1 n;refine W.item i s _ _ hg st fun v h' tk hv st' kk=>?_;obtain⟨t,rfl⟩:=hv;have I1:Inv X pins σ H {s with heap:=h',toks:=tk}:=I.turned (fun b o hb e=>kk b o (by simpa using hb) e) f0 f1 f3 f4 f5;refine⟨_,rfl,yZ (s:={s with heap:=h',toks:=tk}) (n:="range_iterator") st' rfl rfl (by decide) ⟨.int (lo+i),H,I1,⟨t,?_⟩,⟨rfl,rfl⟩,st',fun b hb=>(hf b hb).1⟩⟩;rw[Int.mul_one]
 done:=by intro X hP hw hK hc i pins s σ H E I hf st hg;subst hP hw hK;obtain⟨f0,f1,f2,f3,f4,f5⟩:=hf it (by simp);exact wpAny_pyNext_range_end (I.ok.hd hc) st (by have:n<=i:=hg;omega) fun h' eb=>⟨rfl,I.turned (t':=s.toks) (fun b o hb e=>eb b o hb e) f0 f1 f3 f4 f5⟩
 self:=fun _ _ _ _ _ st h=>wpAny_pyIter_rangeiter st h
section
variable{X:Cx}{tg:Expr}
theorem CT{pins:List (Addr×Obj)}{σ:St}{H:Hp}{s:Shared}{R:It->Hp->Prop}{E:Value->Shared->Prop}{lo hi:Int}{t u v:Tok}{tk:Nat}(I:Inv X pins σ H s)(h1:-(2^62)<=lo)(h2:lo<2^62)(h3:-(2^62)<=hi)(h4:hi<2^62)(q:R (V1 lo (hi-lo).toNat) H):wpAny (model X.prog X.w) X.A (pyIter (.ref s.heap.objs.size)) (PIE X pins σ tg R) E {s with heap:=s.heap.push {cls:=.type "range",data:=.fields #[.int lo t,.int hi u,.int 1 v]},toks:=tk}:=by
 refine wpAny_pyIter_range (IsRange.new ..) (small_one h1 h2 h3 h4) ?_;have I1:Inv X pins σ H {s with heap:=s.heap.push {cls:=.type "range",data:=.fields #[.int lo t,.int hi u,.int 1 v]},toks:=tk}:=I.kept fun b o e=>get?_push_of_some _ e;refine⟨(s.heap.push {cls:=.type "range",data:=.fields #[.int lo t,.int hi u,.int 1 v]}).objs.size,[(s.heap.push {cls:=.type "range",data:=.fields #[.int lo t,.int hi u,.int 1 v]}).objs.size],_,_,H,rfl,I1.kept (t':=tk) fun b o e=>get?_push_of_some _ e,xU _ lo (hi-lo).toNat,?_,fun b hb=>?_,q⟩
 . have e1:lo+((0:Nat):Int)*1=lo:=by simp
   have e2:(((hi-lo).toNat:Nat):Int)-((0:Nat):Int)=Builtin.Range.rangeSize lo hi 1:=by rw[rangeSize_one];split<;>omega
   show IsRangeIter _ _ (lo+((0:Nat):Int)*1) ((((hi-lo).toNat:Nat):Int)-((0:Nat):Int)) 1;rw[e1,e2];exact get?_push_size _ rfl
 . have e:b=(s.heap.push {cls:=.type "range",data:=.fields #[.int lo t,.int hi u,.int 1 v]}).objs.size:=by simpa using hb
   subst e;exact I1.xY (le_refl _) (I1.hok.fresh (le_refl _))
def V2(ta:TA):TI:=fun σ H R=>ta σ H fun vs H1=>∃j:Int,vs=[.int j]/\-(2^62)<=j/\j<2^62/\R (V1 0 j.toNat) H1
theorem rm{a:Expr}{ta:TA}{p pos:Pos}(hg:Gl X "range")(hm:X.mg "range"=none)(ha:PA X [a] ta)(hs:starEach [a] X.env=[(false,eval a X.env)]:=by rfl):PI X tg (.Call (.Name "range" p) [a] [] pos) (V2 ta):=by intro pins s σ H R I h;refine Call_ (gJ I hg hm boot_range (PyProof.Rows.callWith_type1 (bZ (ha pos pins s σ H _ I h) fun us s1⟨vs,H1,I1,r1,q1⟩=>?_) hs rfl));obtain⟨j,e,q1,q2,q⟩:=q1;subst e;cases r1 with|cons r rr=>cases rr;obtain⟨t,rfl⟩:=r;exact call_range_1 (CT I1 (by omega) (by omega) q1 q2 (by simpa using q))
def aas(wi:TI)(g:TG)(tb:TS):TS:=fun D σ H=>wi σ H fun J H1=>∃W:Nat->Nat->St->Hp->Prop,(∃m,W 0 m σ H1)/\∀i m σ H,W i m σ H->(J.stop i H/\D.nx σ H)\/(J.go i H/\∃N:St->Hp->Prop,(∀σ' H',N σ' H'->∃m',m'<m/\W (i+1) m' σ' H')/\∀x H',J.GD i H x H'->g x σ H' fun σ2 H2=>tb {D with nx:=N,ct:=N,bk:=D.nx} σ2 H2)
noncomputable def oW(fp:List Addr)(h:Heap):List (Addr×Obj):=fp.filterMap fun b=>(h.get? b).map fun o=>(b,o)
theorem iz{fp:List Addr}{h:Heap}{b:Addr}{o:Obj}(hb:b∈fp)(e:h.get? b=some o):(b,o)∈oW fp h:=List.mem_filterMap.mpr ⟨b,hb,by rw[e];rfl⟩
theorem Be{fp:List Addr}{h:Heap}{p:Addr×Obj}(hp:p∈oW fp h):p.1∈fp/\h.get? p.1=some p.2:=by obtain⟨b,hb,e⟩:=List.mem_filterMap.mp hp;cases q:h.get? b with|none=>rw[q]at e;cases e|some o=>rw[q]at e;have e':(b,o)=p:=Option.some.inj e;subst e';exact⟨hb,q⟩
theorem Inv.pinned{pins:List (Addr×Obj)}{σ:St}{H:Hp}{s:Shared}{fp:List Addr}(I:Inv X pins σ H s)(hf:∀b∈fp,lX X pins H b)(ho:∀b∈fp,∃o,s.heap.get? b=some o/\∀v,o.data≠.cell v):Inv X (pins++oW fp s.heap) σ H s:=I.za fun p hp=>(mem_append.mp hp).elim (fun z=>I.pin p (mem_append_right _ z)) fun z=>by obtain⟨hb,e⟩:=Be z;obtain⟨f0,f1,f2,_⟩:=hf p.1 hb;obtain⟨o,e',d⟩:=ho p.1 hb;rw[e]at e';cases e';exact⟨e,f0,f1,f2,d⟩
theorem Inv.kY{pins pl:List (Addr×Obj)}{σ:St}{H:Hp}{s:Shared}(I:Inv X (pins++pl) σ H s):Inv X pins σ H s:=I.za fun p hp=>I.pin p (mem_append_right _ (mem_append_left _ hp))
theorem Cp{iter:Expr}{body:List Stmt}{wi:TI}{g:TG}{tb:TS}{pos:Pos}(hp:PassesOwn (model X.prog X.w) X.A X.env X.xe)(hc:X.calm=true)(hi:PI X tg iter wi)(hg:PG X tg g)(hb:uK X body tb)(hs:∀x,foldedSetIterable iter X.env x=pure x:=by intro _;rfl):PS X (.For tg iter body [] pos) (aas wi g tb):=by
 intro pins s σ H D I h;refine wpAny_For (bZ (hi pins s σ H _ I h) fun v s1 h1=>bZ h1 fun itv s2 h2=>?_) hs;obtain⟨it,fp,tn,J,H2,e,I2,T,st2,f2,W,⟨m0,w0⟩,turn⟩:=h2;subst e--what stays true of the iterator's objects through the loop
 have stat:∀{H':Hp},(∀b∈fp,H' b=none)->∀b∈fp,lX X pins H' b:=fun hn b hb=>⟨hn b hb,(f2 b hb).2⟩;refine codeAny_forLoop_any (fun n s'=>∃i σ' H',Inv X pins σ' H' s'/\tn i s'.heap/\(∀b∈fp,H' b=none)/\W i n σ' H') ?_ m0 ⟨0,σ,H2,I2,st2,fun b hb=>(f2 b hb).1,w0⟩;rintro n s3⟨i,σ3,H3,I3,st3,fr3,w3⟩;rcases turn i n σ3 H3 w3 with⟨stop,qn⟩|⟨go,N,hN,step⟩;.refine wpAny_passesOwn hp (bZ (T.done X rfl rfl rfl hc i pins s3 σ3 H3 X.xe I3 (stat fr3) st3 stop) fun r s4⟨hr,I4⟩=>?_);subst hr;exact wpAny_execs_nil ⟨σ3,H3,I4,qn⟩
 . refine wpAny_passesOwn hp (bZ (T.item X rfl rfl rfl hc i pins s3 σ3 H3 X.xe I3 (stat fr3) st3 go) fun r s4⟨u,hr,h4⟩=>?_);subst hr;refine wpAny_passesOwn hp (bZ h4 fun _ s5⟨x,H5,I5,r5,y5,st5,fr5⟩=>?_);have I5':=I5.pinned (stat fr5) (T.obj _ _ st5);refine wpAny_passesOwn hp (bZ (hg _ s5 σ3 H5 x u _ I5' r5 (step x H5 y5)) fun _ s6⟨σ6,H6,I6,q6⟩=>?_);refine wpAny_passesOwn hp (bZ (hb _ s6 σ6 H6 _ I6 q6) fun f s7 q7=>?_);have again:∀{σ7:St}{H7:Hp},Inv X (pins++oW fp s5.heap) σ7 H7 s7->N σ7 H7->∃m,m<n/\∃i σ' H',Inv X pins σ' H' s7/\tn i s7.heap/\(∀b∈fp,H' b=none)/\W i m σ' H':=fun{σ7 H7}I7 n7=>by obtain⟨m',hm,w7⟩:=hN σ7 H7 n7;refine⟨m',hm,i+1,σ7,H7,I7.kY,T.keep _ _ _ st5 fun b hb o e=>(I7.pin (b,o) (mem_append_right _ (mem_append_right _ (iz hb e)))).1,fun b hb=>?_,w7⟩;obtain⟨o,e,d⟩:=T.obj _ _ st5 b hb;exact(I7.pin (b,o) (mem_append_right _ (mem_append_right _ (iz hb e)))).2.1
   cases f with|next=>obtain⟨σ7,H7,I7,n7⟩:=q7;exact again I7 n7|cont=>obtain⟨σ7,H7,I7,n7⟩:=q7;exact again I7 n7|brk=>obtain⟨σ7,H7,I7,q7⟩:=q7;exact⟨σ7,H7,I7.kY,q7⟩|ret v=>obtain⟨x7,σ7,H7,I7,r7,q7⟩:=q7;exact⟨x7,σ7,H7,I7.kY,r7,q7⟩
end
abbrev R2:=V->V->Hp->VK->Prop
def dW(X:Cx)(f:Value->Value->Sem Value)(r:R2):Prop:=∀(pins:List (Addr × Obj))(s:Shared)(σ:St)(H:Hp)(x y:V)(v u:Value)(Q:VK),Inv X pins σ H s->RelV x v->RelV y u->r x y H Q->wpAny (model X.prog X.w) X.A (f v u) (EP X pins σ Q) X.xe s
def UnR(X:Cx)(f:Value->Sem Value)(r:V->Hp->VK->Prop):Prop:=∀(pins:List (Addr × Obj))(s:Shared)(σ:St)(H:Hp)(x:V)(v:Value)(Q:VK),Inv X pins σ H s->RelV x v->r x H Q->wpAny (model X.prog X.w) X.A (f v) (EP X pins σ Q) X.xe s
def eO(X:Cx)(f:Value)(r:List V->Hp->VK->Prop):Prop:=∀(pins:List (Addr × Obj))(s:Shared)(σ:St)(H:Hp)(xs:List V)(us:List Value)(Q:VK),Inv X pins σ H s->Vals xs us->r xs H Q->wpAny (model X.prog X.w) X.A (call f us) (EP X pins σ Q) X.xe s
def Qt(r:R2)(ta tb:TE):TE:=fun σ H Q=>ta σ H fun x H1=>tb σ H1 fun y H2=>r x y H2 Q
def tUn(r:V->Hp->VK->Prop)(ta:TE):TE:=fun σ H Q=>ta σ H fun x H1=>r x H1 Q
def rI(C:Int->Int->Prop)(g:Int->Int->V):R2:=fun x y H Q=>∃i j,x=.int i/\y=.int j/\C i j/\Q (g i j) H
def G4(g:Int->Int->V):R2:=fun x y H Q=>∃i j,x=.int i/\y=.int j/\Q (g i j) H
def rU(g:Int->V):V->Hp->VK->Prop:=fun x H Q=>∃i,x=.int i/\Q (g i) H
section
variable{X:Cx}{a b c:Expr}{ta tb tc:TE}{pos:Pos}
theorem QG(ha:PE X a ta)(hb:PE X b tb){pins:List (Addr×Obj)}{s:Shared}{σ:St}{H:Hp}{R:V->V->Hp->Prop}(I:Inv X pins σ H s)(h:ta σ H fun x H1=>tb σ H1 fun y H2=>R x y H2){Q:Value->Shared->Prop}{f:Value->Value->Sem Value}(hf:∀v u s2 x y H2,Inv X pins σ H2 s2->RelV x v->RelV y u->R x y H2->wpAny (model X.prog X.w) X.A (f v u) Q X.xe s2):wpAny (model X.prog X.w) X.A (eval a X.env) (fun v s₁=>wpAny (model X.prog X.w) X.A (eval b X.env) (fun u s₂=>wpAny (model X.prog X.w) X.A (f v u) Q X.xe s₂) X.xe s₁) X.xe s:=by refine bZ (ha pins s σ H _ I h) fun v s1⟨x,H1,I1,r1,q1⟩=>?_;refine bZ (hb pins s1 σ H1 _ I1 q1) fun u s2⟨y,H2,I2,r2,q2⟩=>?_;exact hf v u s2 x y H2 I2 r1 r2 q2
theorem T5{op:Operator}{r:R2}(ho:dW X (binaryOp op) r)(ha:PE X a ta)(hb:PE X b tb):PE X (.BinOp a op b pos) (Qt r ta tb):=by intro pins s σ H Q I h;exact wpAny_BinOp (QG ha hb I h fun v u s2 x y H2 I2 rx ry q=>ho pins s2 σ H2 x y v u Q I2 rx ry q)
theorem U7{op:UnaryOp}{r:V->Hp->VK->Prop}(ho:UnR X (unaryOp op) r)(ha:PE X a ta):PE X (.UnaryOp op a pos) (tUn r ta):=by intro pins s σ H Q I h;exact UnaryOp_ (bZ (ha pins s σ H _ I h) fun v s1⟨x,H1,I1,r1,q1⟩=>ho pins s1 σ H1 x v Q I1 r1 q1)
theorem opI{f:Value->Value->Sem Value}{C:Int->Int->Prop}{g:Int->Int->Int}(rule:∀(i j:Int)(t u:Tok)(s:Shared)(Q:Value->Shared->Prop)(E:Value->Shared->Prop),C i j->Q (.int (g i j) s.toks) {s with toks:=s.toks+1}->wpAny (model X.prog X.w) X.A (f (.int i t) (.int j u)) Q E s):dW X f (rI C fun i j=>.int (g i j)):=by intro pins s σ H x y v u Q I rx ry h;obtain⟨i,j,rfl,rfl,hc,q⟩:=h;obtain⟨t,rfl⟩:=rx;obtain⟨t',rfl⟩:=ry;exact rule i j t t' s _ _ hc ⟨.int (g i j),H,I.tok _,⟨_,rfl⟩,q⟩
theorem Vy{f:Value->Value->Sem Value}{g:Int->Int->Int}(rule:∀(i j:Int)(t u:Tok)(s:Shared)(Q:Value->Shared->Prop)(E:Value->Shared->Prop),Q (.int (g i j) s.toks) {s with toks:=s.toks+1}->wpAny (model X.prog X.w) X.A (f (.int i t) (.int j u)) Q E s):dW X f (G4 fun i j=>.int (g i j)):=by intro pins s σ H x y v u Q I rx ry h;obtain⟨i,j,rfl,rfl,q⟩:=h;obtain⟨t,rfl⟩:=rx;obtain⟨t',rfl⟩:=ry;exact rule i j t t' s _ _ ⟨.int (g i j),H,I.tok _,⟨_,rfl⟩,q⟩
theorem Hx{f:Value->Value->Sem Value}{g:Int->Int->Bool}(rule:∀(i j:Int)(t u:Tok)(s:Shared)(Q:Value->Shared->Prop)(E:Value->Shared->Prop),Q (.bool (g i j)) s->wpAny (model X.prog X.w) X.A (f (.int i t) (.int j u)) Q E s):dW X f (G4 fun i j=>.bl (g i j)):=by intro pins s σ H x y v u Q I rx ry h;obtain⟨i,j,rfl,rfl,q⟩:=h;obtain⟨t,rfl⟩:=rx;obtain⟨t',rfl⟩:=ry;exact rule i j t t' s _ _ ⟨.bl (g i j),H,I,rfl,q⟩
def aax(i j:Int):Prop:=0<=j/\j<=1000000/\i.natAbs<2^64
def N8(i j:Int):Prop:=(-(2^64)<i/\i<2^64)\/(-(2^64)<j/\j<2^64)
theorem N8.ok{i j:Int}(h:N8 i j):IntMulOk i j:=by
 rcases h with⟨h1,h2⟩|⟨h1,h2⟩;.exact .of_left (intBits_le_64 h1 h2)
 .exact .of_right (intBits_le_64 h1 h2)
theorem MP:dW X (binaryOp .Add) (G4 fun i j=>.int (i+j)):=Vy fun _ _ _ _ _ _ _ q=>add_int q
theorem Ng:dW X (binaryOp .Sub) (G4 fun i j=>.int (i-j)):=Vy fun _ _ _ _ _ _ _ q=>sub_int q
theorem Np:dW X (binaryOp .Mult) (rI N8 fun i j=>.int (i*j)):=opI fun _ _ _ _ _ _ _ hc q=>mul_int q hc.ok
theorem M8:dW X (binaryOp .Mod) (rI (fun _ j=>0<j) fun i j=>.int (i%j)):=opI fun i j _ _ _ _ _ hc q=>by have h1:(0:Int)<j:=hc;exact mod_int' (by omega) (by rw[Int.fmod_eq_emod_of_nonneg i (by omega)];exact q)
theorem NP:dW X (binaryOp .Pow) (rI aax fun i j=>.int (i^j.toNat)):=opI fun _ _ _ _ _ _ _ hc q=>pow_int_small hc.1 hc.2.1 hc.2.2 q
theorem unI{f:Value->Sem Value}{g:Int->Int}(rule:∀(i:Int)(t:Tok)(s:Shared)(Q:Value->Shared->Prop)(E:Value->Shared->Prop),Q (.int (g i) s.toks) {s with toks:=s.toks+1}->wpAny (model X.prog X.w) X.A (f (.int i t)) Q E s):UnR X f (rU fun i=>.int (g i)):=by intro pins s σ H x v Q I rx h;obtain⟨i,rfl,q⟩:=h;obtain⟨t,rfl⟩:=rx;exact rule i t s _ _ ⟨.int (g i),H,I.tok _,⟨_,rfl⟩,q⟩
theorem Qh:UnR X (unaryOp .USub) (rU fun i=>.int (-i)):=unI fun _ _ _ _ _ q=>neg_int q
end
section
variable{X:Cx}{a b c:Expr}{ta tb tc:TE}{pos:Pos}
theorem Dm{pins:List (Addr×Obj)}{σ:St}{H:Hp}{s:Shared}{Q:VK}{k k':Bool}(I:Inv X pins σ H s)(q:Q (.bl k) H)(e:k=k'):EP X pins σ Q (.bool k') s:=by subst e;exact⟨.bl k,H,I,rfl,q⟩
theorem Vd:dW X (compareOp .Lt) (G4 fun i j=>.bl (decide (i<j))):=Hx fun _ _ _ _ _ _ _ q=>lt_int q
theorem V5:dW X (compareOp .LtE) (G4 fun i j=>.bl (decide (i<=j))):=Hx fun _ _ _ _ _ _ _ q=>le_int q
theorem Ua:dW X (compareOp .Gt) (G4 fun i j=>.bl (decide (j<i))):=Hx fun _ _ _ _ _ _ _ q=>gt_int q
theorem Ub:dW X (compareOp .GtE) (G4 fun i j=>.bl (decide (j<=i))):=Hx fun _ _ _ _ _ _ _ q=>ge_int q
theorem Qx:dW X (compareOp .Is) (fun x y H Q=>y=.non/\Q (.bl (decide (x=.non))) H):=by intro pins s σ H x y v u Q I rx ry h;obtain⟨rfl,q⟩:=h;cases ry;refine is_none_gen (Dm I q ?_);cases x<;>first|(cases rx;rfl)|(obtain⟨t,rfl⟩:=rx;rfl)
theorem Hn:dW X (compareOp .IsNot) (fun x y H Q=>y=.non/\Q (.bl (!decide (x=.non))) H):=by intro pins s σ H x y v u Q I rx ry h;obtain⟨rfl,q⟩:=h;cases ry;refine isnot_none_gen (Dm I q ?_);cases x<;>first|(cases rx;rfl)|(obtain⟨t,rfl⟩:=rx;rfl)
theorem aU(b:Expr){op:CmpOp}(h:op≠.In:=by decide)(h2:op≠.NotIn:=by decide):behindInMarks op b=false:=by
 have e1:(op==CmpOp.In)=false:=by cases op<;>first|rfl|exact absurd rfl h
 have e2:(op==CmpOp.NotIn)=false:=by cases op<;>first|rfl|exact absurd rfl h2
 cases b<;>simp[behindInMarks,e1,e2]
theorem Hk{op:CmpOp}{r:R2}(ho:dW X (compareOp op) r)(ha:PE X a ta)(hb:PE X b tb)(hm:behindInMarks op b=false):PE X (.Compare a [op] [b] pos) (Qt r ta tb):=by intro pins s σ H Q I h;exact wpAny_Compare1 (QG ha hb I h fun v u s2 x y H2 I2 rx ry q=>ho pins s2 σ H2 x y v u Q I2 rx ry q) hm
def KY(t:TE):TT:=fun σ H Q=>t σ H fun x H'=>∃k,x=.bl k/\Q k H'
theorem zG{op:CmpOp}{r:R2}(ho:dW X (compareOp op) r)(ha:PE X a ta)(hb:PE X b tb)(hm:behindInMarks op b=false):PT X (.Compare a [op] [b] pos) (KY (Qt r ta tb)):=by intro pins s σ H Q I h;refine wpAny_isTrue_Compare1 (bZ (ha pins s σ H _ I h) fun v s1⟨x,H1,I1,r1,q1⟩=>bZ (hb pins s1 σ H1 _ I1 q1) fun u s2⟨y,H2,I2,r2,q2⟩=>bZ (ho pins s2 σ H2 x y v u _ I2 r1 r2 q2) fun c s3⟨z,H3,I3,r3,k,e,q3⟩=>?_) hm;subst e;cases r3;exact wpAny_truthy_bool ⟨H3,I3,q3⟩
def EY(r r':R2)(ta tb tc:TE):TE:=fun σ H Q=>ta σ H fun x H1=>tb σ H1 fun y H2=>r x y H2 fun z H3=>∃k,z=.bl k/\(if k=true then tc σ H3 fun w' H4=>r' y w' H4 Q else Q (.bl false) H3)
theorem Ci{op op':CmpOp}{r r':R2}(ho:dW X (compareOp op) r)(ho':dW X (compareOp op') r')(ha:PE X a ta)(hb:PE X b tb)(hc:PE X c tc)(hm:lastMarks [op,op'] [b,c]=false:=by with_unfolding_all rfl):PT X (.Compare a [op,op'] [b,c] pos) (KY (EY r r' ta tb tc)):=by intro pins s σ H Q I h;refine isTrue_chain (bZ (ha pins s σ H _ I h) fun v s1⟨x,H1,I1,r1,q1⟩=>test_link (bZ (hb pins s1 σ H1 _ I1 q1) fun u s2⟨y,H2,I2,r2,q2⟩=>bZ (ho pins s2 σ H2 x y v u _ I2 r1 r2 q2) fun d s3⟨z,H3,I3,r3,k,e,q3⟩=>?_)) hm;subst e;cases r3;refine wpAny_truthy_bool ?_;cases k with|false=>obtain⟨k',e',q'⟩:=q3;cases e';exact ite_ff ⟨H3,I3,q'⟩|true=>refine ite_tt (test_last (bZ (hc pins s3 σ H3 _ I3 q3) fun w' s4⟨z',H4,I4,r4,q4⟩=>bZ (ho' pins s4 σ H4 y z' u w' _ I4 r2 r4 q4) fun d' s5⟨z2,H5,I5,r5,k2,e2,q5⟩=>?_));subst e2;cases r5;exact wpAny_truthy_bool ⟨H5,I5,q5⟩
theorem pL:(sizeLine:Nat)<2^63:=by rw[sizeLine_eq];decide
theorem v9:dW X (binaryOp .Add) (fun x y H Q=>∃i j,x=.str i/\y=.str j/\i.length+j.length<=sizeLine/\Q (.str (i++j)) H):=by intro pins s σ H x y v u Q I rx ry h;obtain⟨i,j,rfl,rfl,hz,q⟩:=h;obtain⟨t,rfl⟩:=rx;obtain⟨t',rfl⟩:=ry;exact add_str (fun t' tk=>⟨.str (i++j),H,I.tok _,⟨_,rfl⟩,q⟩) hz
theorem vals1{x:V}{us:List Value}(r:Vals [x] us):∃u,us=[u]/\RelV x u:=by cases r with|cons r1 r2=>cases r2;exact⟨_,rfl,r1⟩
theorem vals2{x y:V}{us:List Value}(r:Vals [x,y] us):∃u w',us=[u,w']/\RelV x u/\RelV y w':=by cases r with|cons r1 r2=>cases r2 with|cons r3 r4=>cases r4;exact⟨_,_,rfl,r1,r3⟩
theorem zU(hc:X.calm=true):eO X (.builtin "max") (fun xs H Q=>∃i j,xs=[.int i,.int j]/\Q (.int (if j>i then j else i)) H):=by
 intro pins s σ H xs us Q I r h;obtain⟨i,j,rfl,q⟩:=h;obtain⟨u,w',rfl,⟨t,rfl⟩,⟨t',rfl⟩⟩:=vals2 r;refine max_two_ints (I.ok.hd hc) fun h' tk k=>⟨_,H,I.kept k,?_,q⟩;by_cases hj:j>i;.rw[if_pos hj,if_pos hj];exact⟨_,rfl⟩
 .rw[if_neg hj,if_neg hj];exact⟨_,rfl⟩
end
theorem qt.some_of{v:V}{o:Option Value}(r:qt (some v) o):∃u,o=some u/\RelV v u:=by cases o with|none=>exact(show False from r).elim|some u=>exact⟨u,rfl,r⟩
structure ju(k:Nat)(A:Around):Prop where
 hd:A.handled=none
 dp:A.depth+3*k+5<recursionLimit
 un:A.units+16*k+200<cLine
theorem ju.deeper{k:Nat}{A:Around}(r:ju (k+1) A)(env:Env):ju k (A.deeper env):=⟨r.hd,by have:=r.dp;show A.depth+1+3*k+5<_;omega,by have:=r.un;show A.units+3+16*k+200<_;omega⟩
theorem ju.depth{k:Nat}{A:Around}(r:ju k A):A.depth<recursionLimit:=by have:=r.dp;omega
def aau:TA:=fun _ H Q=>Q [] H
def Uj(ta:TE)(tr:TA):TA:=fun σ H Q=>ta σ H fun x H1=>tr σ H1 fun xs H2=>Q (x::xs) H2
section
variable{X:Cx}{e:Expr}{es:List Expr}{te:TE}{t:TA}{pos:Pos}
theorem dR:PA X [] aau:=fun _ _ _ _ H Q I h=>Calls.spliced_nil ⟨[],H,I,.nil,h⟩
theorem cz(ha:PE X e te)(hr:PA X es t)(hs:starEach (e::es) X.env=(false,eval e X.env)::starEach es X.env:=by rfl):PA X (e::es) (Uj te t):=by intro pos pins s σ H Q I h;rw[hs];show wpAny _ _ (spliced ((false,eval e X.env)::backTo pos (starEach es X.env))) _ _ s;refine Calls.spliced_cons (bZ (ha pins s σ H _ I h) fun u s1⟨x,H1,I1,r1,q1⟩=>?_);exact bZ (hr pos pins s1 σ H1 _ I1 q1) fun us s2⟨xs,H2,I2,r2,q2⟩=>⟨x::xs,H2,I2,.cons r1 r2,q2⟩
def abl(t:TA):TE:=fun σ H Q=>t σ H fun xs H1=>xs.length<=sizeLine/\∀p,H1 p=none->Q (.ref p) (upd H1 p (.tup xs))
def abb(t:TA):TE:=fun σ H Q=>t σ H fun xs H1=>xs.length<=sizeLine/\∀p,H1 p=none->Q (.ref p) (upd H1 p (.lst xs))
theorem QD{x1}(h:PA X es t):PE X (.Tuple es x1 pos) (abl t):=by intro pins s σ H Q I hq;refine wpAny_Tuple_spliced (bZ (h pos pins s σ H _ I hq) fun us s1⟨xs,H1,I1,r,z,q⟩=>⟨by rw[<-r.length];exact z,?_⟩);have hf:H1 s1.heap.objs.size=none:=I1.hok.fresh (le_refl _);refine⟨.ref s1.heap.objs.size,upd H1 s1.heap.objs.size (.tup xs),I1.laid (t':=s1.toks) (fun b u e=>get?_push_of_some _ e) (le_refl _) ?_,rfl,q _ hf⟩;exact⟨z,us,r,⟨_,get?_push_size _ rfl,rfl,_,rfl⟩⟩
theorem Mv(h:PA X es t):PE X (.List es pos) (abb t):=by intro pins s σ H Q I hq;refine wpAny_List_spliced (bZ (h pos pins s σ H _ I hq) fun us s1⟨xs,H1,I1,r,z,q⟩=>⟨by rw[<-r.length];exact z,?_⟩);have hf:H1 s1.heap.objs.size=none:=I1.hok.fresh (le_refl _);refine⟨.ref s1.heap.objs.size,upd H1 s1.heap.objs.size (.lst xs),I1.laid (t':=s1.toks) (fun b u e=>get?_push_of_some _ e) (le_refl _) ?_,rfl,q _ hf⟩;exact⟨z,us,0,r,get?_push_size _ rfl⟩
end
abbrev Sp:=List V->Hp->VK->XK->Prop
abbrev Dy:=List Env->Hp->Shared->XK->Value->Shared->Prop
structure Jm(P:Program)(w:World)(K:PySem.W.Frag)(mg:Str->Option Value)(base:Heap)(A:Around)(outer:List Env)(s:Shared)(H:Hp):Prop where
 frames:A.frames=some outer
 mod:Mod K mg base
 bs:∀b o,base.get? b=some o->s.heap.get? b=some o/\H b=none
 Lx:base.objs.size<=s.heap.objs.size
 pM:s.heap.FunFrames base outer
 Tq:∀b∈frs outer,H b=none
 hok:lO P w H s.heap
 bare:AllBare s.gens
def CE(outer:List Env)(P:Program)(w:World)(H:Hp)(s:Shared)(Q:VK)(u:Value)(s':Shared):Prop:=∃v H',s'.os=s.os/\AllBare s'.gens/\Un (frs outer) [] H H' s.heap s'.heap/\lO P w H' s'.heap/\RelV v u/\Q v H'
def CR(CX:Dy)(outer:List Env)(P:Program)(w:World)(H:Hp)(s:Shared)(Q:VK)(E:XK)(r:Result)(s':Shared):Prop:=match r with|.ok (.ret u)=>CE outer P w H s Q u s'|.ok _=>False|.error e=>CX outer H s E e s'
structure bW(P:Program)(w:World)(K:PySem.W.Frag)(mg:Str->Option Value)(base:Heap)(CX:Dy)(k:Nat)(f:Addr)(fd:FuncData)(ps:List Str)(sp:Sp):Prop where
 len:∀vs H Q E,sp vs H Q E->vs.length=ps.length
 run:∀(A:Around)(outer:List Env)(s:Shared)(H:Hp)(args:Args)(us:List Value)(vs:List V)(Q:VK)(E:XK),ju k A->Jm P w K mg base A outer s H->BindsTo s fd args (ps.zip us)->Vals vs us->sp vs H Q E->codeAny (model P w) A (.call (.ref f) args) (CR CX outer P w H s Q E) s
section
variable{X:Cx}{pins:List (Addr×Obj)}{σ:St}{H:Hp}{s s':Shared}
theorem Inv.env0(I:Inv X pins σ H s):Jm X.prog X.w X.K X.mg X.base X.A X.stack s H:=⟨I.ok.frames,I.ok.mod,I.bs,le_trans I.ok.Lx I.sz,I.stack,I.zJ,I.hok,I.bare⟩
theorem Inv.after{Q:VK}{u:Value}(I:Inv X pins σ H s)(h:CE X.stack X.prog X.w H s Q u s'):EP X pins σ Q u s':=by obtain⟨v,H',os,bare,un,hok,r,q⟩:=h;obtain⟨hh,g,d,t,os'⟩:=s';obtain rfl:os'=s.os:=os;exact⟨v,H',I.call (h':=hh) (g':=g) (d':=d) (t':=t) (ch:=[]) un hok bare (fun b z=>absurd z (by simp)),r,q⟩
end
def V3(sp:Sp)(Lz:List V)(E:XK)(t:TA):TE:=fun σ H Q=>t σ H fun vs H1=>sp (vs++Lz) H1 Q E
def Binds(K:PySem.W.Frag)(fd:FuncData)(ps:List Str)(ds:List Value):Prop:=∀(s:Shared)(us:List Value),K.In s.heap->(us++ds).length=ps.length->BindsTo s fd ⟨us,[]⟩ (ps.zip (us++ds))
theorem Binds.all{K:PySem.W.Frag}{fd:FuncData}{ps:List Str}(h:∀us:List Value,us.length=ps.length->bindArgs fd ⟨us,[]⟩=pure (ps.zip us)):Binds K fd ps []:=fun s us _ hl=>by rw[append_nil]at hl ⊢;exact .of_eq (h us hl)
def Passes(CX:Dy)(X:Cx)(E:XK):Prop:=∀(pins:List (Addr×Obj))(σ:St)(H:Hp)(s:Shared)(e:Value)(s':Shared),Inv X pins σ H s->CX X.stack H s E e s'->X.xe e s'
section
variable{X:Cx}{CX:Dy}{k:Nat}{f C:Addr}{fd:FuncData}{ps:List Str}{sp:Sp}{Lz:List V}{ds:List Value}{E:XK}{x m:Str}{p pos apos:Pos}{e o:Expr}{es:List Expr}{ta:TE}{t:TA}
theorem Nk{pins:List (Addr×Obj)}{σ:St}{H:Hp}{s:Shared}{Q:VK}{us:List Value}{vs:List V}(F:bW X.prog X.w X.K X.mg X.base CX k f fd ps sp)(hr:ju k X.A)(hb:Binds X.K fd ps ds)(hd:Vals Lz ds)(hx:Passes CX X E)(I:Inv X pins σ H s)(r:Vals vs us)(h:sp (vs++Lz) H Q E):wpAny (model X.prog X.w) X.A (call (.ref f) us) (EP X pins σ Q) X.xe s:=by
 have r2:Vals (vs++Lz) (us++ds):=r.append hd;have hl:(us++ds).length=ps.length:=by rw[<-r2.length];exact F.len _ _ _ _ h
 refine wpAny_call (codeAny_mono (F.run X.A X.stack s H ⟨us,[]⟩ (us++ds) (vs++Lz) Q E hr I.env0 (hb s us I.Mj hl) r2 h) fun r s' hq=>?_);cases r with|error e=>exact hx pins σ H s e s' I hq|ok fl=>cases fl with|ret u=>exact I.after hq|next=>exact False.elim hq|brk=>exact False.elim hq|cont=>exact False.elim hq
theorem Ja(F:bW X.prog X.w X.K X.mg X.base CX k f fd ps sp)(hr:ju k X.A)(hg:Gl X x)(hm:X.mg x=some (.ref f))(hk:keepIn X.K (.ref f)=true)(hb:Binds X.K fd ps ds)(hd:Vals Lz ds)(hx:Passes CX X E)(ha:PA X (e::es) t)(hdb:(x==("__debug__":Str))=false:=by decide)(he:starEach (e::es) X.env=(false,eval e X.env)::starEach es X.env:=by rfl)(hpl:(backTo pos (starEach es X.env)).any (·.1)=false:=by rfl):PE X (.Call (.Name x p) (e::es) [] pos) (V3 sp Lz E t):=by intro pins s σ H Q I h;refine wpAny_Call_Name_kw (Hs I hg hm ?_ hdb);refine PySem.W.callWith_K (h₀:=X.base) I.ok.mod.uo hk (bZ (ha pos pins s σ H _ I h) fun us s1⟨vs,H1,I1,r,q⟩=>⟨I1.Mj,?_⟩) he hpl;exact Nk F hr hb hd hx I1 r q
end
structure aL(N P:List Str)(sc:Scope):Prop where
 kind:sc.kind=.function
 co:sc.isCoroutine=false
 gen:sc.isGenerator=false
 nd:N.Nodup
 pre:N.take P.length=P
 par:∀x∈P,sc.names.lookup x=some .local\/sc.names.lookup x=some .cell
 Q0:∀y∈sc.names,y.2≠.free
theorem rz{kindOf:Str->Option NameKind}{x:Str}:∀{binds:List (Str×Value)}{m:Str->Option Value},(∀v,(x,v)∉binds)->bindL kindOf binds m x=m x
 |[],_,_=>rfl|(n,v)::r,m,h=>by
   unfold bindL;rw[rz fun w hw=>h w (mem_cons_of_mem _ hw)];split
   . have:x≠n:=by rintro rfl;exact h v mem_cons_self
     simp[this]
   .rfl
theorem qO{kindOf:Str->Option NameKind}{x:Str}:∀{binds:List (Str×Value)}{m:Str->Option Value},(∀v,(x,v)∉binds)->bindC kindOf binds m x=m x
 |[],_,_=>rfl|(n,v)::r,m,h=>by
   unfold bindC;rw[qO fun w hw=>h w (mem_cons_of_mem _ hw)];split;.rfl
   . have:x≠n:=by rintro rfl;exact h v mem_cons_self
     simp[this]
theorem qH{kindOf:Str->Option NameKind}{x:Str}{v:Value}:∀{P:List Str}{vs:List Value}{i:Nat}{m:Str->Option Value},P.Nodup->P[i]?=some x->vs[i]?=some v->kindOf x=some .local->bindL kindOf (P.zip vs) m x=some v|[],_,_,_,_,h,_,_=>by simp at h|_::_,[],_,_,_,_,h,_=>by simp at h|p::P,w::vs,0,m,nd,h1,h2,hk=>by simp at h1 h2;subst h1;subst h2;show bindL kindOf ((p,w)::P.zip vs) m p=_;unfold bindL;rw[rz fun v hv=>(nodup_cons.mp nd).1 (of_mem_zip hv).1,if_pos hk];simp|p::P,w::vs,i+1,m,nd,h1,h2,hk=>by show bindL kindOf ((p,w)::P.zip vs) m x=_;unfold bindL;exact qH (i:=i) (nodup_cons.mp nd).2 (by simpa using h1) (by simpa using h2) hk
theorem qR{kindOf:Str->Option NameKind}{x:Str}{v:Value}:∀{P:List Str}{vs:List Value}{i:Nat}{m:Str->Option Value},P.Nodup->P[i]?=some x->vs[i]?=some v->kindOf x≠some .local->bindC kindOf (P.zip vs) m x=some v|[],_,_,_,_,h,_,_=>by simp at h|_::_,[],_,_,_,_,h,_=>by simp at h|p::P,w::vs,0,m,nd,h1,h2,hk=>by simp at h1 h2;subst h1;subst h2;show bindC kindOf ((p,w)::P.zip vs) m p=_;unfold bindC;rw[qO fun v hv=>(nodup_cons.mp nd).1 (of_mem_zip hv).1,if_neg hk];simp|p::P,w::vs,i+1,m,nd,h1,h2,hk=>by show bindC kindOf ((p,w)::P.zip vs) m x=_;unfold bindC;exact qR (i:=i) (nodup_cons.mp nd).2 (by simpa using h1) (by simpa using h2) hk
noncomputable def start(N:List Str)(vs:List V):St:=vs.map some++replicate (N.length-vs.length) none
noncomputable def xJ(CX:Dy)(P:Program)(w:World)(K:PySem.W.Frag)(mg:Str->Option Value)(base:Heap)(N:List Str)(qual:Str)(scope:Scope)(f:Addr)(cd:Value)(A:Around)(outer:List Env)(s:Shared)(H:Hp)(E:XK):Cx where prog:=P;w:=w;K:=K;mg:=mg;base:=base;A:=A.deeper (envOfC qual scope s.heap.objs.size f cd);N:=N;s₀:=s;H₀:=H;env:=envOfC qual scope s.heap.objs.size f cd;outer:=outer;stack:=envOfC qual scope s.heap.objs.size f cd::outer;ex:=[];calm:=true;fn:=fun _=>true;pn:=[];xe:=fun e s'=>wpAny (model P w) (A.deeper (envOfC qual scope s.heap.objs.size f cd)) (leaving (envOfC qual scope s.heap.objs.size f cd) e) (fun _ s''=>CX outer H s E e s'') (fun e' s''=>CX outer H s E e' s'') s'
theorem uN{sc:Scope}{n:Nat}{x:Str}(h:sc.names.lookup x=some .cell):∃c,(cellsFrom n sc.names []).lookup x=some c:=by have q:=PySem.W.cellsFrom_some sc.names n [] (.inl h);exact Option.isSome_iff_exists.mp q
theorem Ah{CX:Dy}{P:Program}{w:World}{K:PySem.W.Frag}{mg:Str->Option Value}{base:Heap}{N ps:List Str}{qual:Str}{scope:Scope}{f:Addr}{cd:Value}{A:Around}{outer:List Env}{s s1:Shared}{H:Hp}{E:XK}{us:List Value}{vs:List V}(S:aL N ps scope)(hd:A.handled=none)(e0:Jm P w K mg base A outer s H)(hl:vs.length=ps.length)(r:Vals vs us)(x:InCallC s s.heap.objs.size (bindL (envOfC qual scope s.heap.objs.size f cd).kindOf (ps.zip us) fun _=>none) (cellsFrom (s.heap.objs.size+1) scope.names []) (bindC (envOfC qual scope s.heap.objs.size f cd).kindOf (ps.zip us) fun _=>none) s1):Inv (xJ CX P w K mg base N qual scope f cd A outer s H E) [] (start N vs) H s1:=by
 have hpl:ps.length<=N.length:=by have:=congrArg List.length S.pre;rw[length_take]at this;omega
 obtain⟨h1,tk,rfl,hk⟩:=x.done;have Wv:∀b:Addr,b∉(xJ CX P w K mg base N qual scope f cd A outer s H E).ex:=fun b z=>absurd (show b∈([]:List Addr)from z) (by simp);refine⟨⟨e0.mod,S.kind,rfl,rfl,le_refl _,fun y z c h1 h2=>?_,fun y hy=>?_,fun y c _ h=>?_,fun _=>hd,Around.frames_deeper e0.frames,.inr ⟨rfl,rfl⟩,fun b z=>absurd z (Wv b),e0.bs,e0.Lx,fun b _ _=>Wv b,fun b z=>absurd z (Wv b),e0.pM,e0.Tq⟩,rfl,e0.bare,Un.kept hk,⟨_,x.toInCall.ns,fun i y v h1 h2 h3=>?_⟩,fun y c h=>⟨_,x.cell y c h⟩,e0.hok.fresh (le_refl _),fun y c h=>?_,fun p hp=>absurd (show p∈([]:List (Addr×Obj))from hp) (by simp),e0.hok.kept hk,?_⟩;.exact name_of_addr x.apart (PySem.mem_of_lookup h1) (PySem.mem_of_lookup h2)
 . have hy:scope.names.lookup y=some .cell\/scope.names.lookup y=some .free:=hy;rcases hy with hy|hy;.exact uN hy
   .exact absurd rfl (S.Q0 _ (PySem.mem_of_lookup hy))
 .exact le_of_lt (x.above y c (PySem.mem_of_lookup h))
 . have hi:i<vs.length:=by
    unfold start at h2;by_cases hi:i<vs.length;.exact hi
    .rw[getElem?_append_right (by simpa using hi)]at h2;rw[getElem?_replicate]at h2;split at h2<;>cases h2
   have ha:vs[i]?=some v:=by unfold start at h2;rw[getElem?_append_left (by simpa using hi),getElem?_map]at h2;cases e:vs[i]?with|none=>rw[e]at h2;cases h2|some a=>rw[e]at h2;cases h2;rfl
   obtain⟨u,hu,rv⟩:=r.get ha;have hp:ps[i]?=some y:=by rw[<-S.pre,List.getElem?_take_of_lt (by omega)];exact h1
   have ndP:ps.Nodup:=by rw[<-S.pre];exact S.nd.sublist (List.take_sublist _ _)
   refine⟨u,rv,?_⟩;rcases S.par y (mem_of_getElem? hp)with k|k;.exact .inl ⟨k,qH ndP hp hu k⟩
   .obtain⟨c,e⟩:=uN (n:=s.heap.objs.size+1) k;refine .inr ⟨.inl k,c,e,?_⟩;have q:=x.cell y c e;rw[qR ndP hp hu (by show scope.names.lookup y≠_;rw[k];decide)]at q;exact q
 .exact e0.hok.fresh (le_of_lt (x.above y c (PySem.mem_of_lookup h)))
 .unfold start;show _=N.length;rw[length_append,length_map,length_replicate];omega
theorem VN{CX:Dy}{P:Program}{w:World}{K:PySem.W.Frag}{mg:Str->Option Value}{base:Heap}{k:Nat}{f:Addr}{name qual:Str}{params:Arguments}{body:List Stmt}{scope:Scope}{dV kV doc pm cdv ct oc:Value}{an od:Option Addr}{osl:Array (Option Value)}{N ps:List Str}{sp:Sp}(lk:K.lookup f=some ⟨oc,od,.func (PySem.W.fnOf name qual params body scope dV kV doc pm an cdv ct),osl⟩)(hcd:PySem.W.codeIn K cdv qual=true)(S:aL N ps scope)(len:∀vs H Q E,sp vs H Q E->vs.length=ps.length)(hbody:∀(A:Around)(outer:List Env)(s:Shared)(H:Hp)(vs:List V)(Q:VK)(E:XK),ju k (A.deeper (envOfC qual scope s.heap.objs.size f cdv))->sp vs H Q E->∃t,uK (xJ CX P w K mg base N qual scope f cdv A outer s H E) body t/\t {nx:=fun _ H'=>Q .non H',rt:=Q} (start N vs) H):bW P w K mg base CX (k+1) f (PySem.W.fnOf name qual params body scope dV kV doc pm an cdv ct) ps sp:=by
 refine⟨len,fun A outer s H args us vs Q E hr e0 hb r hsp=>?_⟩;have hl:=len _ _ _ _ hsp;have KX:K.In s.heap:=e0.mod.uo.keeps fun b o e=>(e0.bs b o e).1;have lim:s.heap.NoLimit:=e0.mod.nolimit.keeps fun b o e=>(e0.bs b o e).1;have hkind:∀y∈ps.zip us,scope.names.lookup y.1=some .local\/(scope.names.lookup y.1=some .cell/\((cellsFrom (s.heap.objs.size+1) scope.names []).lookup y.1).isSome=true):=fun⟨n,v⟩hy=>by
  rcases S.par n (of_mem_zip hy).1 with q|q;.exact .inl q
  .exact .inr ⟨q,PySem.W.cellsFrom_some _ _ _ (.inl q)⟩
 refine codeAny_call_function hr.depth (KX _ _ lk) rfl S.co S.gen rfl (PySem.W.codeRec_of KX hcd) (hb _ _ _ _ ?_);refine wpAny_newFunctionEnv_cells S.kind hkind fun env he s1 x=>?_;subst he;refine⟨lim.keeps x.toInCall.keep,codeAny_func ?_⟩;obtain⟨t,ht,hq⟩:=hbody A outer s H vs Q E (hr.deeper _) hsp;have I:Inv (xJ CX P w K mg base N qual scope f cdv A outer s H E) [] (start N vs) H s1:=Ah S hr.hd e0 hl r x;refine wpAny_mono (ht [] s1 (start N vs) H _ I hq) (fun fl s' hs=>?_) fun e s' hs=>hs;have fin:∀{σ':St}{H':Hp}{v:V}{u:Value},Inv (xJ CX P w K mg base N qual scope f cdv A outer s H E) [] σ' H' s'->RelV v u->Q v H'->CE outer P w H s Q u s':=fun{σ' H' v u}J rv q=>⟨v,H',J.os,J.bare,J.base,J.hok,rv,q⟩;cases fl with|ret u=>obtain⟨v,σ',H',J,rv,q⟩:=hs;exact fin J rv q|next=>obtain⟨σ',H',J,q⟩:=hs;exact fin (v:=V.non) (u:=Value.none) J rfl q|brk=>obtain⟨_,_,_,q⟩:=hs;exact False.elim q|cont=>obtain⟨_,_,_,q⟩:=hs;exact False.elim q
section
variable{X:Cx}{x:Str}{p pos:Pos}{e:Expr}{es:List Expr}{t:TA}{id T:String}{r:List V->Hp->VK->Prop}
def YS(r:List V->Hp->VK->Prop)(t:TA):TE:=fun σ H Q=>t σ H fun vs H1=>r vs H1 Q
theorem fO(hc:eO X (.builtin id) r)(hg:Gl X x)(hm:X.mg x=none)(hv:bootBuiltins x=some (.builtin id))(ha:PA X (e::es) t)(hn:x≠"__name__":=by decide)(hdb:(x==("__debug__":Str))=false:=by decide)(he:starEach (e::es) X.env=(false,eval e X.env)::starEach es X.env:=by rfl)(hpl:(backTo pos (starEach es X.env)).any (·.1)=false:=by rfl):PE X (.Call (.Name x p) (e::es) [] pos) (YS r t):=by intro pins s σ H Q I h;refine wpAny_Call_Name_kw (gJ I hg hm hv ?_ hn hdb);exact PyProof.Rows.callWith_builtin1 (bZ (ha pos pins s σ H _ I h) fun us s1⟨vs,H1,I1,r1,q1⟩=>hc pins s1 σ H1 vs us Q I1 r1 q1) he hpl
theorem mj(hc:eO X (.type T) r)(hg:Gl X x)(hm:X.mg x=none)(hv:bootBuiltins x=some (.type T))(ha:PA X (e::es) t)(hn:x≠"__name__":=by decide)(hdb:(x==("__debug__":Str))=false:=by decide)(he:starEach (e::es) X.env=(false,eval e X.env)::starEach es X.env:=by rfl)(hpl:(backTo pos (starEach es X.env)).any (·.1)=false:=by rfl):PE X (.Call (.Name x p) (e::es) [] pos) (YS r t):=by intro pins s σ H Q I h;refine wpAny_Call_Name_kw (gJ I hg hm hv ?_ hn hdb);exact PyProof.Rows.callWith_type1 (bZ (ha pos pins s σ H _ I h) fun us s1⟨vs,H1,I1,r1,q1⟩=>hc pins s1 σ H1 vs us Q I1 r1 q1) he hpl
end
end L2
namespace HT
open PySem PyProof.Rows
section
variable{prog:Program}{w:World}{A:Around}{E:Value->Shared->Prop}{s:Shared}
theorem Jr{t b:Addr}{vs ws:List Value}{Q:Value->Shared->Prop}(ht:IsTup s.heap t vs.toArray)(hb:IsTup s.heap b ws.toArray)(hv:vs≠[])(h1:ws=[]->Q (.ref t) s)(h2:ws≠[]->Q (.ref s.heap.objs.size) {s with heap:=s.heap.push {cls:=.type "tuple",data:=.seq (vs++ws).toArray}})(hsz:vs.length+ws.length<=sizeLine):wpAny (model prog w) A (binaryOp .Add (.ref t) (.ref b)) Q E s:=by
 obtain⟨⟨cls,dd,data,sl⟩,ho,hc,n,hd⟩:=id ht;obtain⟨⟨cls2,dd2,data2,sl2⟩,ho2,hc2,n2,hd2⟩:=id hb;simp only at hc hd hc2 hd2;subst hc hd hc2 hd2;have e:vs.toArray++ws.toArray=(vs++ws).toArray:=by simp
 by_cases hw:ws=[];.exact concat_meets ⟨_,ho,rfl⟩ ⟨_,ho2,rfl⟩ noFill_tuple_add seq_tuple_add slot_tuple_add entry_tuple_add (args_tuple_add_2 _ _) (tuple_addW1 t b vs.toArray ws.toArray n n2 dd dd2 sl sl2 (by simpa using hv) (by simp[hw])) ⟨ho,ho2,h1 hw⟩
 .refine concat_meets ⟨_,ho,rfl⟩ ⟨_,ho2,rfl⟩ noFill_tuple_add seq_tuple_add slot_tuple_add entry_tuple_add (args_tuple_add_2 _ _) (tuple_addW2 t b vs.toArray ws.toArray n n2 dd dd2 sl sl2 (by simpa using hv) (by simpa using hw) (by rw[size_toArray,size_toArray];exact hsz)) ⟨ho,ho2,?_⟩;rw[e];exact h2 hw
noncomputable def dg(n d:Nat):Option Int->Nat|none=>d|some v=>if v<0 then(v+(n:Int)).toNat else min v.toNat n
theorem O7(n d:Nat)(hd:d<=n)(o:Option Int):dg n d o<=n:=by cases o with|none=>exact hd|some v=>
   show(if v<0 then(v+(n:Int)).toNat else min v.toNat n)<=n;by_cases hv:v<0;.rw[if_pos hv];omega
   .rw[if_neg hv];exact Nat.min_le_right _ _
theorem yx(v:Int)(n d:Nat):(if v<0 then max (v+(n:Int)) 0 else min v (n:Int))=((dg n d (some v):Nat):Int):=by
 show(if v<0 then max (v+(n:Int)) 0 else min v (n:Int))=(((if v<0 then(v+(n:Int)).toNat else min v.toNat n):Nat):Int);by_cases hv:v<0;.simp only[if_pos hv];omega
 .simp only[if_neg hv];omega
theorem wI(lo hi:Option Int)(n:Nat):sliceAdjust lo hi 1 (n:Int)=(((dg n 0 lo:Nat):Int),((dg n n hi:Nat):Int)):=by
 have h1:¬((1:Int)<0):=by omega
 unfold sliceAdjust;simp only[h1,if_false];refine Prod.ext ?_ ?_;.cases lo with|none=>rfl|some v=>exact yx v n 0
 .cases hi with|none=>rfl|some v=>exact yx v n n
theorem yd(i j:Nat):slicePlaces (i:Int) (j:Int) 1=j-i:=by
 unfold slicePlaces;have h1:(1:Int)>0:=by omega
 simp only[h1,if_true,Int.ediv_one];split<;>omega
theorem pC{v:Value}{o:Option Int}{Q:Option Int->Shared->Prop}(p:IsPart v o)(h:Q o s):wpAny (model prog w) A (Builtin.Slice.slicePartIndex v) Q E s:=by cases p with|none=>exact slicePart_none h|int i t=>exact slicePart_int h
theorem gV{sl:Addr}{vl vu:Value}{lo hi:Option Int}{n:Nat}{Q:Int×Int×Nat->Shared->Prop}(hs:s.heap.IsSliceOf sl vl vu .none)(pl:IsPart vl lo)(pu:IsPart vu hi)(h:Q (((dg n 0 lo:Nat):Int),1,dg n n hi-dg n 0 lo) s):wpAny (model prog w) A (sliceApplied (.ref sl) (pure (n:Int))) Q E s:=by obtain⟨os,hos,hcs,hds⟩:=id hs;unfold sliceApplied Builtin.Slice.sliceFields;refine wpAny_bind (wpAny_bind (wpAny_field hos hds (x:=vl) rfl (wpAny_bind (wpAny_field hos hds (x:=vu) rfl (wpAny_bind (wpAny_field hos hds (x:=.none) rfl (wpAny_pure ?_)))))));refine wpAny_bind (slicePart_none ?_);show wpAny _ _ (if((1:Int)==0)=true then _ else _) _ _ s;rw[if_neg (by decide)];refine wpAny_bind (pC pl (wpAny_bind (pC pu (wpAny_bind (wpAny_pure ?_)))));show wpAny _ _ (match sliceAdjust lo hi 1 (n:Int)with|(lo,hi)=>pure (lo,(1:Int),slicePlaces lo hi 1)) _ _ s;rw[wI lo hi n];show wpAny _ _ (pure (((dg n 0 lo:Nat):Int),(1:Int),slicePlaces ((dg n 0 lo:Nat):Int) ((dg n n hi:Nat):Int) 1)) _ _ s;rw[yd];exact wpAny_pure h
theorem Dz(xs:Array Value)(i k:Nat):((List.range k).filterMap fun(m:Nat)=>xs[((i:Int)+(m:Int)*1).toNat]?).toArray=((xs.toList.drop i).take k).toArray:=by
 have e:(fun(m:Nat)=>xs[((i:Int)+(m:Int)*1).toNat]?)=fun m=>xs[i+m]?:=by
  funext m;have:((i:Int)+(m:Int)*1).toNat=i+m:=by omega
  rw[this]
 rw[e];have:=pick_run xs i k;rw[List.filterMap_map]at this;have e2:((fun x=>xs[x]?)∘ fun x=>i+x)=fun m=>xs[i+m]?:=rfl;rw[e2]at this;rw[this]
theorem lD{t sl:Addr}{items:Array Value}{vl vu:Value}{lo hi:Option Int}{Q:Value->Shared->Prop}(ht:IsTup s.heap t items)(hs:s.heap.IsSliceOf sl vl vu .none)(pl:IsPart vl lo)(pu:IsPart vu hi)(hw:¬(dg items.size 0 lo=0/\dg items.size items.size hi=items.size))(h:Q (.ref s.heap.objs.size) {s with heap:=s.heap.push {cls:=.type "tuple",data:=.seq ((items.toList.drop (dg items.size 0 lo)).take (dg items.size items.size hi-dg items.size 0 lo)).toArray}})(hsz:items.size<=sizeLine):wpAny (model prog w) A (getItem (.ref t) (.ref sl)) Q E s:=by
 have zK:sizeOk (.seq ((items.toList.drop (dg items.size 0 lo)).take (dg items.size items.size hi-dg items.size 0 lo)).toArray):=by show((items.toList.drop (dg items.size 0 lo)).take (dg items.size items.size hi-dg items.size 0 lo)).toArray.size<=sizeLine;rw[size_toArray,length_take,List.length_drop,length_toList];omega
 have hj:dg items.size items.size hi<=items.size:=O7 _ _ (le_refl _) hi;obtain⟨os,hos,hcs,hds⟩:=id hs;have hTs:s.TypeIs (.ref sl) "slice":=⟨os,hos,hcs⟩;unfold getItem;try with_reducible refine wpAny_holding ?_
 first|refine wpAny_bind (wpAny_pure ?_)|skip
 refine wpAny_bind (wpAny_sequenceKey ht.typeIs (by decide) ?_);refine wpAny_bind (wpAny_callSpecial?_slot (name:=Str.ofString "__getitem__") ht.typeIs PyProof.Rows.slot_tuple_getitem (wpAny_call_entry PyProof.Rows.slot_tuple_getitem ht.typeIs entry_tuple_getitem ?_ (args_tuple_getitem _ _)));show wpAny _ _ (tupleItemsOf (.ref t)>>=_) _ _ s;refine wpAny_bind (tupleItemsOf_ ht ?_);refine wpAny_bind (wpAny_typeOf hTs ?_);rw[if_pos (by decide)];refine wpAny_bind (gV hs pl pu ?_);have hno:¬((((dg items.size 0 lo:Nat):Int)==0&&(1:Int)==1&&(dg items.size items.size hi-dg items.size 0 lo)==items.size)=true):=by intro q;rw[and_eq_true,and_eq_true]at q;have q1:((dg items.size 0 lo:Nat):Int)=0:=eq_of_beq q.1.1;have q2:dg items.size items.size hi-dg items.size 0 lo=items.size:=eq_of_beq q.2;exact hw ⟨by omega,by omega⟩
 show wpAny _ _ (if(((dg items.size 0 lo:Nat):Int)==0&&(1:Int)==1&&(dg items.size items.size hi-dg items.size 0 lo)==items.size)=true then _ else _) _ _ s;rw[if_neg hno,Dz];first|exact wpAny_bind (m:=tupleExact _) (wpAny_newObj_type (wpAny_pure ⟨_,rfl,wpAny_pure h⟩) zK)|exact wpAny_bind (m:=tupleExact _) (wpAny_newObj_type (wpAny_bind (wpAny_pure (wpAny_pure ⟨_,rfl,wpAny_pure h⟩))) zK)|exact wpAny_bind (wpAny_bind (m:=tupleExact _) (wpAny_newObj_type (wpAny_pure (wpAny_pure ⟨_,rfl,wpAny_pure h⟩)) zK))|exact wpAny_bind (wpAny_bind (m:=tupleExact _) (wpAny_newObj_type (wpAny_pure ⟨_,rfl,wpAny_pure h⟩) zK))
end
end HT
namespace L2
open PySem PySem.Spec PyProof.Rows
abbrev TO:=St->Hp->(Option Int->Hp->Prop)->Prop
def PO(X:Cx)(e:Option Expr)(t:TO):Prop:=∀(pins:List (Addr × Obj))(s:Shared)(σ:St)(H:Hp)(Q:Option Int->Hp->Prop),Inv X pins σ H s->t σ H Q->wpAny (model X.prog X.w) X.A (evalPart e X.env) (fun u s'=>∃o H',Inv X pins σ H' s'/\IsPart u o/\Q o H') X.xe s
def Jb:TO:=fun _ H Q=>Q none H
def Vh(t:TE):TO:=fun σ H Q=>t σ H fun x H1=>∃i,x=.int i/\Q (some i) H1
section
variable{X:Cx}{e:Expr}{te:TE}{lo hi:Option Expr}{tl th:TO}{pos p2:Pos}
theorem Ir:PO X none Jb:=by intro pins s σ H Q I h;rw[evalPart_none];exact wpAny_pure ⟨none,H,I,.none,h⟩
theorem Jg(h:PE X e te):PO X (some e) (Vh te):=by intro pins s σ H Q I hw;rw[evalPart_some];refine bZ (h pins s σ H _ I hw) fun u s1⟨x,H1,I1,r1,q1⟩=>?_;obtain⟨i,rfl,q⟩:=q1;obtain⟨t,rfl⟩:=r1;exact⟨some i,H1,I1,.int i t,q⟩
def YF(X:Cx)(r:V->Option Int->Option Int->Hp->VK->Prop):Prop:=∀(pins:List (Addr × Obj))(s:Shared)(σ:St)(H:Hp)(x:V)(v vl vu:Value)(lo hi:Option Int)(sl:Addr)(Q:VK),Inv X pins σ H s->RelV x v->s.heap.IsSliceOf sl vl vu .none->IsPart vl lo->IsPart vu hi->r x lo hi H Q->∃T id,typeLookup (.type T) "__getitem__"=pure (some (.builtin id))/\s.TypeIs v T/\wpAny (model X.prog X.w) X.A (getItem v (.ref sl)) (EP X pins σ Q) X.xe s
def tSl(r:V->Option Int->Option Int->Hp->VK->Prop)(te:TE)(tl th:TO):TE:=fun σ H Q=>te σ H fun x H1=>tl σ H1 fun l H2=>th σ H2 fun u H3=>r x l u H3 Q
theorem uF{r:V->Option Int->Option Int->Hp->VK->Prop}(hr:YF X r)(he:PE X e te)(hl:PO X lo tl)(hu:PO X hi th):PE X (.Subscript e (.Slice lo hi none p2) pos) (tSl r te tl th):=by intro pins s σ H Q I h;refine Subscript_ (bZ (he pins s σ H _ I h) fun v s1⟨x,H1,I1,r1,q1⟩=>?_);refine wpAny_Slice (bZ (hl pins s1 σ H1 _ I1 q1) fun vl s2⟨l,H2,I2,pl,q2⟩=>bZ (hu pins s2 σ H2 _ I2 q2) fun vu s3⟨u,H3,I3,pu,q3⟩=>?_);rw[evalPart_none];refine wpAny_pure ?_;have I4:Inv X pins σ H3 {s3 with heap:=s3.heap.push {cls:=.type "slice",data:=.fields #[vl,vu,.none]}}:=I3.kept (t':=s3.toks) fun b ob q=>get?_push_of_some _ q;obtain⟨T,id,hT,ht,hg⟩:=hr pins {s3 with heap:=s3.heap.push {cls:=.type "slice",data:=.fields #[vl,vu,.none]}} σ H3 x v vl vu l u s3.heap.objs.size Q I4 r1 (Heap.IsSliceOf.new ..) pl pu q3;show wpAny (model X.prog X.w) X.A (subscriptTail e (.Slice lo hi none p2) v (.ref s3.heap.objs.size)) (EP X pins σ Q) X.xe {s3 with heap:=s3.heap.push {cls:=.type "slice",data:=.fields #[vl,vu,.none]}};exact tail_any (ops:=[.ref s3.heap.objs.size,v]) ht hT hg (by with_unfolding_all rfl)
noncomputable def vm(xs:List V)(lo hi:Option Int):List V:=(xs.drop (HT.dg xs.length 0 lo)).take (HT.dg xs.length xs.length hi-HT.dg xs.length 0 lo)
theorem mR(xs:List V)(lo hi:Option Int):(vm xs lo hi).length<=xs.length:=by unfold vm;rw[length_take,List.length_drop];omega
def ZK(K:PySem.W.Frag):V->Option Int->Option Int->Hp->VK->Prop:=fun x lo hi H Q=>∃a xs,x=.ref a/\gO K H a xs/\¬(HT.dg xs.length 0 lo=0/\HT.dg xs.length xs.length hi=xs.length)/\∀p,H p=none->Q (.ref p) (upd H p (.tup (vm xs lo hi)))
theorem Od:YF X (ZK X.K):=by
 intro pins s σ H x v vl vu lo hi sl Q I rx hs pl pu h;obtain⟨a,xs,rfl,hx,hw,q⟩:=h;cases rx;obtain⟨its,r,ht,hz⟩:=I.tuple hx;have hlen:its.toArray.size=xs.length:=by rw[size_toArray];exact r.length.symm
 refine⟨"tuple",_,PyProof.Rows.slot_tuple_getitem.lookup,ht.typeIs,?_⟩;refine HT.lD ht hs pl pu (by rw[hlen];exact hw) ?_ (by rw[hlen];exact hz);rw[hlen];refine⟨.ref s.heap.objs.size,_,I.laid (t':=s.toks) (o:=.tup (vm xs lo hi)) (fun b ob q=>get?_push_of_some _ q) (le_refl _) ?_,rfl,q _ (I.hok.fresh (le_refl _))⟩;exact⟨le_trans (mR xs lo hi) hz,_,(r.drop (HT.dg xs.length 0 lo)).take (HT.dg xs.length xs.length hi-HT.dg xs.length 0 lo),IsTup.new _ _⟩
def Up(K:PySem.W.Frag):R2:=fun x y H Q=>∃a b xs ys,x=.ref a/\y=.ref b/\gO K H a xs/\gO K H b ys/\xs≠[]/\xs.length+ys.length<=sizeLine/\(ys=[]->Q (.ref a) H)/\(ys≠[]->∀p,H p=none->Q (.ref p) (upd H p (.tup (xs++ys))))
theorem Vals.nW{xs:List V}{us:List Value}(r:Vals xs us):us=[]↔xs=[]:=by cases r with|nil=>simp|cons _ _=>simp
theorem J0:dW X (binaryOp .Add) (Up X.K):=by intro pins s σ H x y v u Q I rx ry h;obtain⟨a,b,xs,ys,rfl,rfl,ha,hb,hx,hz,q1,q2⟩:=h;cases rx;cases ry;obtain⟨its,r1,p1,_⟩:=I.tuple ha;obtain⟨its2,r2,p2,_⟩:=I.tuple hb;refine HT.Jr p1 p2 (fun z=>hx (r1.nW.mp z)) (fun z=>⟨.ref a,H,I,rfl,q1 (r2.nW.mp z)⟩) (fun z=>?_) (by rw[<-r1.length,<-r2.length];exact hz);refine⟨.ref s.heap.objs.size,_,I.laid (t':=s.toks) (o:=.tup (xs++ys)) (fun b ob q=>get?_push_of_some _ q) (le_refl _) ?_,rfl,q2 (fun w=>z (r2.nW.mpr w)) _ (I.hok.fresh (le_refl _))⟩;exact⟨by rw[length_append];exact hz,_,r1.append r2,IsTup.new _ _⟩
end
noncomputable def gq(n:Nat)(i:Int):Option Nat:=if 0<=i then(if i<n then some i.toNat else none)else if-(n:Int)<=i then some (i+n).toNat else none
noncomputable def Dd{α:Type}(xs:List α)(i:Int):Option α:=(gq xs.length i).bind fun j=>xs[j]?
theorem yE{n:Nat}{i:Int}{j:Nat}(h:gq n i=some j):seqIndex? i n=some j/\j<n/\-(n:Int)<=i/\i<n:=by
 unfold gq at h;by_cases h0:0<=i
 . rw[if_pos h0]at h;by_cases h1:i<n;.rw[if_pos h1]at h;have e:i.toNat=j:=Option.some.inj h;exact⟨by rw[seqIndex_of h0 h1,e],by omega,by omega,h1⟩
   .rw[if_neg h1]at h;cases h
 . rw[if_neg h0]at h;by_cases h1:-(n:Int)<=i;.rw[if_pos h1]at h;have e:(i+n).toNat=j:=Option.some.inj h;exact⟨by rw[seqIndex_neg (by omega) h1,e],by omega,h1,by omega⟩
   .rw[if_neg h1]at h;cases h
theorem tD{α:Type}{xs:List α}{i:Int}{v:α}(h:Dd xs i=some v):∃j,seqIndex? i xs.length=some j/\xs[j]?=some v/\j<xs.length/\-(xs.length:Int)<=i/\i<xs.length:=by unfold Dd at h;cases e:gq xs.length i with|none=>rw[e]at h;cases h|some j=>rw[e]at h;obtain⟨h1,h2,h3,h4⟩:=yE e;exact⟨j,h1,h,h2,h3,h4⟩
def tQ(b:Expr):Prop:=∀o i,subscripted b false o i=operate [o,i] (getItem o i)
def W9(X:Cx)(r:R2):Prop:=∀(value slice:Expr)(pins:List (Addr × Obj))(s:Shared)(σ:St)(H:Hp)(x y:V)(v u:Value)(Q:VK),Inv X pins σ H s->RelV x v->RelV y u->r x y H Q->subscripted slice false v u=operate [v,u] (getItem v u)->wpAny (model X.prog X.w) X.A (subscriptTail value slice v u) (EP X pins σ Q) X.xe s
def MtR(X:Cx)(id:String)(r:V->List V->Hp->VK->Prop):Prop:=∀(pins:List (Addr × Obj))(s:Shared)(σ:St)(H:Hp)(x:V)(xs:List V)(v:Value)(us:List Value)(Q:VK),Inv X pins σ H s->RelV x v->Vals xs us->r x xs H Q->wpAny (model X.prog X.w) X.A (call (.builtin id) (v::us)) (EP X pins σ Q) X.xe s
section
variable{X:Cx}{a b:Expr}{ta tb:TE}{pos:Pos}
theorem Ls{r:R2}(hr:W9 X r)(ha:PE X a ta)(hb:PE X b tb)(hs:tQ b):PE X (.Subscript a b pos) (Qt r ta tb):=by intro pins s σ H Q I h;exact Subscript_ (QG ha hb I h fun v u s2 x y H2 I2 rx ry q=>hr a b pins s2 σ H2 x y v u Q I2 rx ry q (hs _ _))
def VM(K:PySem.W.Frag):R2:=fun x y H Q=>∃p xs i v,x=.ref p/\y=.int i/\dq K H p xs/\Dd xs i=some v/\Q v H
def aae(K:PySem.W.Frag):R2:=fun x y H Q=>∃p xs i v,x=.ref p/\y=.int i/\gO K H p xs/\Dd xs i=some v/\Q v H
theorem yJ:W9 X (VM X.K):=by
 intro value slice pins s σ H x y v u Q I rx ry h hs;obtain⟨p,xs,i,z,rfl,rfl,hq,he,q⟩:=h;cases rx;obtain⟨t,rfl⟩:=ry;obtain⟨its,r,pl,hz⟩:=I.list hq;obtain⟨j,h1,h2,h3,h4,h5⟩:=tD he;obtain⟨w,ew,vL⟩:=r.get h2;have hl:=r.length;have hn:=pL;have fin:EP X pins σ Q w s:=⟨z,H,I,vL,q⟩;by_cases h0:0<=i
 . have hj:i.toNat=j:=by rw[seqIndex_of h0 h5]at h1;exact Option.some.inj h1
   exact item_listR pl.isList h0 (by omega) (by rw[hj];simpa using ew) fin hs
 . have hj:(i+(its.toArray.size:Int)).toNat=j:=by rw[seqIndex_neg (by omega) h4]at h1;rw[size_toArray,<-hl];exact Option.some.inj h1
   exact subscriptTail_builtinR (x:=w) pl.isList.typeIs slot_list_getitem.lookup (wpAny_getItem_list_neg (Q:=fun r s'=>r=w/\EP X pins σ Q r s') pl.isList (by omega) (by rw[size_toArray]<;>omega) (by omega) (by rw[hj];simpa using ew) ⟨rfl,fin⟩) hs
theorem PN:W9 X (aae X.K):=by intro value slice pins s σ H x y v u Q I rx ry h hs;obtain⟨p,xs,i,z,rfl,rfl,hq,he,q⟩:=h;cases rx;obtain⟨t,rfl⟩:=ry;obtain⟨its,r,pl,hz⟩:=I.tuple hq;obtain⟨j,h1,h2,h3,h4,h5⟩:=tD he;obtain⟨w,ew,vL⟩:=r.get h2;have hl:=r.length;have hn:=pL;have fin:EP X pins σ Q w s:=⟨z,H,I,vL,q⟩;exact subscriptTail_builtinR (x:=w) pl.typeIs slot_tuple_getitem.lookup (getItem_tuple (j:=j) (Q:=fun r s'=>r=w/\EP X pins σ Q r s') pl (by omega) (by omega) (by rw[size_toArray,<-hl];exact h1) (by simpa using ew) ⟨rfl,fin⟩) hs
theorem wY(its:List Value)(n j:Nat)(u:Value):Obj.mapSeq (·.setIfInBounds j u) {cls:=.type "list",data:=.seq its.toArray n}={cls:=.type "list",data:=.seq (its.set j u).toArray n}:=by simp[Obj.mapSeq]
theorem Inv.lst{pins:List (Addr×Obj)}{σ:St}{H:Hp}{s:Shared}{p:Addr}{xs:List V}(I:Inv X pins σ H s)(h:H p=some (.lst xs)):∃(its:List Value)(n:Nat),Vals xs its/\s.heap.get? p=some {cls:=.type "list",data:=.seq its.toArray n}/\xs.length<=sizeLine:=by obtain⟨z,its,n,r,e⟩:=I.hok p _ h;exact⟨its,n,r,e,z⟩
theorem Inv.Qj{pins:List (Addr×Obj)}{σ:St}{H:Hp}{s:Shared}{p:Addr}{xs ys:List V}{its its':List Value}{n n':Nat}{f:Obj->Obj}(I:Inv X pins σ H s)(h:H p=some (.lst xs))(ho:s.heap.get? p=some {cls:=.type "list",data:=.seq its.toArray n})(hf:f {cls:=.type "list",data:=.seq its.toArray n}={cls:=.type "list",data:=.seq its'.toArray n'})(r:Vals ys its')(hz:ys.length<=sizeLine)(t:Nat):Inv X pins σ (upd H p (.lst ys)) {s with heap:=s.heap.update p f,toks:=t}:=by
 have e:(s.heap.update p f).get? p=some {cls:=.type "list",data:=.seq its'.toArray n'}:=by rw[get?_update_self f ho (by rw[hf]<;>rfl),hf]
 refine I.write (x:=p) (e:=p) (by rw[h];trivial) (.inl rfl) (fun b u hb q=>(get?_update_other _ _ (Ne.symm hb)).trans q) ⟨_,e⟩ ?_;exact⟨hz,its',n',r,e⟩
def VF:V->V->V->Hp->(Hp->Prop)->Prop:=fun o i v H Q=>∃p xs k j,o=.ref p/\i=.int k/\H p=some (.lst xs)/\gq xs.length k=some j/\Q (upd H p (.lst (xs.set j v)))
theorem set_list:Qe X VF:=by
 intro pins s σ H o i v ov iv u Q I ro ri rv h;obtain⟨p,xs,k,j,rfl,rfl,hp,hj,q⟩:=h;cases ro;obtain⟨t,rfl⟩:=ri;obtain⟨its,n,r,ho,hz⟩:=I.lst hp;obtain⟨h1,h2,h3,h4⟩:=yE hj;have hl:=r.length;have hn:=pL;have I':Inv X pins σ (upd H p (.lst (xs.set j v))) {s with heap:=s.heap.update p (Obj.mapSeq (·.setIfInBounds j u))}:=I.Qj hp ho (wY its n j u) (r.set rv j) (by rw[List.length_set];exact hz) s.toks;by_cases h0:0<=k
 . have hk:k.toNat=j:=by rw[seqIndex_of h0 h4]at h1;exact Option.some.inj h1
   exact PySem.W.ki_setAt ho h0 (by omega) (by rw[size_toArray,<-hl];exact h4) (by rw[hk];exact⟨_,I',q⟩)
 . have hk:(k+(its.toArray.size:Int)).toNat=j:=by rw[seqIndex_neg (by omega) h3]at h1;rw[size_toArray,<-hl];exact Option.some.inj h1
   exact PySem.W.ki_setBack ho (by omega) (by rw[size_toArray,<-hl];exact h3) (by omega) (by rw[hk];exact⟨_,I',q⟩)
theorem rO(lo hi:Option Int)(n:Nat):(sliceBounds lo hi none n).1=((HT.dg n 0 lo:Nat):Int)/\(sliceBounds lo hi none n).2.1=((HT.dg n n hi:Nat):Int)/\(sliceBounds lo hi none n).2.2=1:=by
 refine⟨?_,?_,rfl⟩;.cases lo with|none=>simp[sliceBounds,HT.dg]|some i=>
     simp only[sliceBounds,HT.dg,getD_none,show(1:Int)>0 by decide,if_true];by_cases h:i<0;.simp only[h,if_true]<;>omega
     .simp only[h,if_false]<;>omega
 .cases hi with|none=>simp[sliceBounds,HT.dg]|some i=>
     simp only[sliceBounds,HT.dg,getD_none,show(1:Int)>0 by decide,if_true];by_cases h:i<0;.simp only[h,if_true]<;>omega
     .simp only[h,if_false]<;>omega
theorem qu(its:List Value)(lo hi:Option Int):slicePick its.toArray lo hi none=((its.drop (HT.dg its.length 0 lo)).take (HT.dg its.length its.length hi-HT.dg its.length 0 lo)).toArray:=by obtain⟨h1,h2,h3⟩:=rO lo hi its.toArray.size;unfold slicePick;rw[h1,h2,h3];simp only[sliceRange_one,pick_run,size_toArray]<;>rfl
def acj(K:PySem.W.Frag):V->Option Int->Option Int->Hp->VK->Prop:=fun x lo hi H Q=>∃a xs,x=.ref a/\dq K H a xs/\∀p,H p=none->Q (.ref p) (upd H p (.lst (vm xs lo hi)))
theorem Ij:YF X (acj X.K):=by intro pins s σ H x v vl vu lo hi sl Q I rx hs pl pu h;obtain⟨a,xs,rfl,hx,q⟩:=h;cases rx;obtain⟨its,r,ht,hz⟩:=I.list hx;have hlen:=r.length;refine⟨"list",_,slot_list_getitem.lookup,ht.isList.typeIs,?_⟩;refine wpAny_getItem_list_slice ht.isList hs pl pu .none (by simp) ?_ (by rw[size_toArray]<;>omega);rw[qu,<-hlen];refine⟨.ref s.heap.objs.size,_,I.laid (t':=s.toks) (o:=.lst (vm xs lo hi)) (fun b ob q=>get?_push_of_some _ q) (le_refl _) ?_,rfl,q _ (I.hok.fresh (le_refl _))⟩;exact⟨le_trans (mR xs lo hi) hz,_,0,(r.drop (HT.dg xs.length 0 lo)).take (HT.dg xs.length xs.length hi-HT.dg xs.length 0 lo),get?_push_size _ rfl⟩
noncomputable def jN:V->Bool|.non=>true|.bl _=>true|.int _=>true|.str _=>true|_=>false
noncomputable def JL:V->V->Bool|.non,.non=>true|.bl a,.bl b=>a==b|.bl a,.int b=>(if a then 1 else 0)==b|.int a,.bl b=>a==(if b then 1 else 0)|.int a,.int b=>a==b|.str a,.str b=>a==b|_,_=>false
theorem Mx{A:Around}{s:Shared}{y x:V}{u v:Value}(ry:RelV y u)(rx:RelV x v)(fy:jN y=true)(fx:jN x=true):SeqAt.EqAt A s u v (JL y x):=by cases y with
 |non=>cases ry;cases x with|non=>cases rx;exact SeqAt.EqAt.same _|bl b=>cases rx;exact none_bool b|int b=>obtain⟨t,rfl⟩:=rx;exact none_int b t|str b=>obtain⟨t,rfl⟩:=rx;exact none_str b t|_=>exact absurd (show false=true from fx) Bool.false_ne_true
 |bl a=>cases ry;cases x with|non=>cases rx;exact bool_none a|bl b=>cases rx;exact bool_bool a b|int b=>obtain⟨t,rfl⟩:=rx;exact bool_int a b t|str b=>obtain⟨t,rfl⟩:=rx;exact bool_str a b t|_=>exact absurd (show false=true from fx) Bool.false_ne_true
 |int a=>obtain⟨t',rfl⟩:=ry;cases x with|non=>cases rx;exact int_none a t'|bl b=>cases rx;exact int_bool a t' b|int b=>obtain⟨t,rfl⟩:=rx;exact int_int a t' b t|str b=>obtain⟨t,rfl⟩:=rx;exact int_str a t' b t|_=>exact absurd (show false=true from fx) Bool.false_ne_true
 |str a=>obtain⟨t',rfl⟩:=ry;cases x with|non=>cases rx;exact str_none a t'|bl b=>cases rx;exact str_bool a t' b|int b=>obtain⟨t,rfl⟩:=rx;exact str_int a t' b t|str b=>obtain⟨t,rfl⟩:=rx;exact str_str a t' b t|_=>exact absurd (show false=true from fx) Bool.false_ne_true
 |_=>exact absurd (show false=true from fy) Bool.false_ne_true
noncomputable def wW(x:V)(u:Value):Bool:=match u with|.none=>JL .non x|.bool b=>JL (.bl b) x|.int i _=>JL (.int i) x|.str z _=>JL (.str z) x|_=>false
theorem DR{x y:V}{u:Value}(r:RelV y u)(f:jN y=true):wW x u=JL y x:=by cases y with|non=>cases r;rfl|bl b=>cases r;rfl|int i=>obtain⟨t,rfl⟩:=r;rfl|str z=>obtain⟨t,rfl⟩:=r;rfl|_=>exact absurd (show false=true from f) Bool.false_ne_true
theorem lq{x:V}:∀{xs:List V}{us:List Value},Vals xs us->xs.all jN=true->us.any (wW x)=xs.any fun y=>JL y x|_,_,.nil,_=>rfl|y::xs,u::us,.cons r t,f=>by rw[all_cons,and_eq_true]at f;rw[any_cons,any_cons,DR r f.1,lq t f.2]
theorem iW{A:Around}{s:Shared}{x:V}{v:Value}(rx:RelV x v)(fx:jN x=true):∀{xs:List V}{us:List Value},Vals xs us->xs.all jN=true->∀u∈us,SeqAt.EqAt A s u v (wW x u)
 |_,_,.nil,_=>fun u hu=>by cases hu|y::xs,u::us,.cons r t,f=>fun u' hu=>by
   rw[all_cons,and_eq_true]at f;rcases mem_cons.mp hu with rfl|hu;.rw[DR r f.1];exact Mx r rx f.1 fx
   .exact iW rx fx t f.2 u' hu
noncomputable def inV(x:V)(xs:List V):Bool:=xs.any fun y=>JL y x
def rIn(K:PySem.W.Frag)(neg:Bool):R2:=fun x y H Q=>∃p xs,y=.ref p/\(dq K H p xs\/gO K H p xs)/\jN x=true/\xs.all jN=true/\Q (.bl (if neg then !inV x xs else inV x xs)) H
theorem Bd:dW X (compareOp .In) (rIn X.K false):=by
 intro pins s σ H x y v u Q I rx ry h;obtain⟨p,xs,rfl,hq,fx,fs,q⟩:=h;cases ry;rcases hq with hq|hq;.obtain⟨its,r,pl,hz⟩:=I.list hq;refine SeqAt.in_listAt (wW x) pl.isList (fun w hw=>iW rx fx r fs w (by simpa using hw)) ⟨.bl _,H,I,rfl,?_⟩;rw[show its.toArray.any (wW x)=its.any (wW x)by simp,lq r fs];exact q
 .obtain⟨its,r,pl,hz⟩:=I.tuple hq;refine SeqAt.in_tupleAt (wW x) pl (fun w hw=>iW rx fx r fs w (by simpa using hw)) ⟨.bl _,H,I,rfl,?_⟩;rw[show its.toArray.any (wW x)=its.any (wW x)by simp,lq r fs];exact q
theorem rJ:dW X (compareOp .NotIn) (rIn X.K true):=by
 intro pins s σ H x y v u Q I rx ry h;obtain⟨p,xs,rfl,hq,fx,fs,q⟩:=h;cases ry;rcases hq with hq|hq;.obtain⟨its,r,pl,hz⟩:=I.list hq;refine SeqAt.notIn_listAt (wW x) pl.isList (fun w hw=>iW rx fx r fs w (by simpa using hw)) ⟨.bl _,H,I,rfl,?_⟩;rw[show its.toArray.any (wW x)=its.any (wW x)by simp,lq r fs];exact q
 .obtain⟨its,r,pl,hz⟩:=I.tuple hq;refine SeqAt.notIn_tupleAt (wW x) pl (fun w hw=>iW rx fx r fs w (by simpa using hw)) ⟨.bl _,H,I,rfl,?_⟩;rw[show its.toArray.any (wW x)=its.any (wW x)by simp,lq r fs];exact q
theorem sr:eO X (.builtin "len") (fun xs H Q=>∃p ys,xs=[.ref p]/\(dq X.K H p ys\/gO X.K H p ys)/\Q (.int ys.length) H):=by
 intro pins s σ H xs us Q I r h;obtain⟨p,ys,rfl,hq,q⟩:=h;obtain⟨u,rfl,rx⟩:=vals1 r;cases rx;have hn:=pL;rcases hq with hq|hq;.obtain⟨its,r',pl,hz⟩:=I.list hq;have hlen:=r'.length;exact Calls.call_len_list pl.isList (by simp only[size_toArray]<;>omega) ⟨.int ys.length,H,I.tok _,⟨s.toks+1,by rw[size_toArray,hlen]⟩,q⟩
 .obtain⟨its,r',pl,hz⟩:=I.tuple hq;have hlen:=r'.length;exact len_tuple pl (by simp only[size_toArray]<;>omega) ⟨.int ys.length,H,I.tok _,⟨s.toks+1,by rw[size_toArray,hlen]⟩,q⟩
theorem sE:eO X (.type "list") (fun xs H Q=>∃p ys,xs=[.ref p]/\(dq X.K H p ys\/gO X.K H p ys)/\∀l,H l=none->Q (.ref l) (upd H l (.lst ys))):=by
 intro pins s σ H xs us Q I r h;obtain⟨p,ys,rfl,hq,q⟩:=h;obtain⟨u,rfl,rx⟩:=vals1 r;cases rx;have fin:∀(its:List Value),Vals ys its->ys.length<=sizeLine->∀(h':Heap)(c':Nat),(∀b o',s.heap.get? b=some o'->h'.get? b=some o')->h'.get? s.heap.objs.size=some {cls:=.type "list",dict:=none,data:=.seq its.toArray c',slots:=#[]}->EP X pins σ Q (.ref s.heap.objs.size) {s with heap:=h'}:=fun its r' hz h' c' kp e=>⟨.ref s.heap.objs.size,_,I.laid (t':=s.toks) kp (le_refl _) (show bR X.prog X.w _ h' _ (.lst ys)from⟨hz,its,c',r',e⟩),rfl,q _ (I.hok.fresh (le_refl _))⟩;rcases hq with hq|hq;.obtain⟨its,r',pl,hz⟩:=I.list hq;have hlen:=r'.length;obtain⟨o,ho,hc,n,hd⟩:=pl.isList;exact call_list_seq p (.inl rfl) ho hc hd (fun h' c' kp e=>fin its r' hz h' c' kp e) (by simp only[size_toArray]<;>omega)
 .obtain⟨its,r',pl,hz⟩:=I.tuple hq;have hlen:=r'.length;obtain⟨o,ho,hc,n,hd⟩:=pl;exact call_list_seq p (.inr rfl) ho hc hd (fun h' c' kp e=>fin its r' hz h' c' kp e) (by simp only[size_toArray]<;>omega)
theorem jO:eO X (.type "tuple") (fun xs H Q=>∃p ys,xs=[.ref p]/\((dq X.K H p ys/\∀l,H l=none->Q (.ref l) (upd H l (.tup ys)))\/(gO X.K H p ys/\Q (.ref p) H))):=by
 intro pins s σ H xs us Q I r h;obtain⟨p,ys,rfl,h⟩:=h;obtain⟨u,rfl,rx⟩:=vals1 r;cases rx;rcases h with⟨hq,q⟩|⟨hq,q⟩;.obtain⟨its,r',pl,hz⟩:=I.list hq;have hlen:=r'.length;refine call_tuple_list pl.isList (fun h' kp=>?_) (by simp only[size_toArray]<;>omega);have I1:Inv X pins σ H {s with heap:=h'}:=I.kept (t':=s.toks) kp;have I2:Inv X pins σ (upd H h'.objs.size (.tup ys)) {s with heap:=h'.push {cls:=.type "tuple",data:=.seq its.toArray}}:=I1.laid (t':=s.toks) (fun b o e=>get?_push_of_some _ e) (le_refl _) (show bR X.prog X.w _ _ _ (.tup ys)from⟨hz,its,r',IsTup.new _ _⟩);exact⟨.ref h'.objs.size,_,I2,rfl,q _ (I1.hok.fresh (le_refl _))⟩
 .obtain⟨its,r',pl,hz⟩:=I.tuple hq;exact call_tuple_same pl ⟨.ref p,H,I,rfl,q⟩
def tyV(K:PySem.W.Frag)(T:String)(x:V)(H:Hp):Prop:=match x with|.str _=>T="str"|.int _=>T="int"|.ref p=>(T="list"/\∃xs,dq K H p xs)\/(T="tuple"/\∃o,K.lookup p=some o/\o.cls=.type "tuple"/\o.dict=none)\/(T="dict"/\((∃kvs,H p=some (.dK kvs))\/∃kvs,H p=some (.dT kvs)))\/(T="set"/\∃S n,H p=some (.set S n))|_=>False
theorem PB{pins:List (Addr×Obj)}{σ:St}{H:Hp}{s:Shared}{T:String}{x:V}{v:Value}(I:Inv X pins σ H s)(r:RelV x v)(ty:tyV X.K T x H):
 s.TypeIs v T/\∀a,v=.ref a->∃ob,s.heap.get? a=some ob/\ob.dict=none:=by cases x with|str z=>obtain⟨t,rfl⟩:=r;cases(show T="str"from ty);exact⟨typeIs_str s z t,fun _ e=>nomatch e⟩|int i=>obtain⟨t,rfl⟩:=r;cases(show T="int"from ty);exact⟨typeIs_int s i t,fun _ e=>nomatch e⟩|ref p=>
   cases r;rcases ty with⟨rfl,xs,hq⟩|⟨rfl,o,hk,hc,hd⟩|⟨rfl,hk⟩|⟨rfl,S,n,hk⟩;.obtain⟨its,_,pl,_⟩:=I.list hq;refine⟨pl.isList.typeIs,fun a e=>?_⟩;cases e;obtain⟨o,n,e,c,hd,_⟩:=pl;exact⟨o,e,hd⟩
   .refine⟨⟨o,I.Mj p o hk,hc⟩,fun a e=>?_⟩;cases e;exact⟨o,I.Mj _ o hk,hd⟩
   . have z:∃o,s.heap.get? p=some o/\o.ExactDict:=by
      rcases hk with⟨kvs,hk⟩|⟨kvs,hk⟩;.obtain⟨_,_,_,_,o,_,_,e,ex,_⟩:=I.hok p _ hk;exact⟨o,e,ex⟩
      .obtain⟨_,_,_,_,o,_,_,e,ex,_⟩:=I.hok p _ hk;exact⟨o,e,ex⟩
     obtain⟨o,e,ex⟩:=z;refine⟨⟨o,e,ex.1⟩,fun a e2=>?_⟩;cases e2;exact⟨o,e,ex.2.1⟩
   .obtain⟨o,_,_,_,e,ex,_⟩:=I.hok p _ hk;refine⟨⟨o,e,ex.1⟩,fun a e2=>?_⟩;cases e2;exact⟨o,e,ex.2.1⟩|_=>exact False.elim ty
def tBM(K:PySem.W.Frag)(T:String)(r:V->List V->Hp->VK->Prop)(to:TE)(t:TA):TE:=fun σ H Q=>to σ H fun x H1=>tyV K T x H1/\t σ H1 fun xs H2=>r x xs H2 Q
variable{o e:Expr}{es:List Expr}{to:TE}{t:TA}{name:Str}{apos cpos:Pos}{T id:String}{r:V->List V->Hp->VK->Prop}
theorem Lj(pa:PlainAttrs T)(slot:Slot T name id)(hty:typeOf (.builtin id)=pure (.type "method_descriptor"))(hm:MtR X id r)(ho:PE X o to)(ha:PA X (e::es) t)(hbase:attributeBase o name X.env (eval o X.env)=eval o X.env:=by rfl)(hfew:((backTo cpos (starEach (e::es) X.env)).all (fun x=>!x.1)&&(backToKw cpos (keywordEach [] X.env)).all (fun x=>x.1.isSome)&&decide ((e::es).length+([]:List Keyword).length+(if([]:List Keyword).isEmpty then 0 else 1)<30))=true:=by rfl)(hline:(apos.endLine==cpos.line)=true:=by rfl)(hs:starEach (e::es) X.env=(false,eval e X.env)::starEach es X.env:=by rfl)(hplain:(backTo cpos (starEach es X.env)).any (·.1)=false:=by rfl):PE X (.Call (.Attribute o name apos) (e::es) [] cpos) (tBM X.K T r to t):=by intro pins s σ H Q I h;refine wpAny_Call_method_late hbase hfew hline rfl (bZ (ho pins s σ H _ I h) fun v s1⟨x,H1,I1,r1,ty,q1⟩=>?_);obtain⟨h1,h2⟩:=PB I1 r1 ty;refine⟨T,id,pa,slot,hty,h1,h2,?_⟩;have hA:=ha cpos pins s1 σ H1 _ I1 q1;rw[hs]at hA ⊢;refine Calls.callWith_builtin (by show(false||(backTo cpos (starEach es X.env)).any (·.1))=false;rw[hplain]<;>rfl) (Calls.evalArgs_plain ?_);exact bZ hA fun us s2⟨vs,H2,I2,r2,q2⟩=>hm pins s2 σ H2 x vs v us Q I2 r1 r2 q2/-xs.append(e),list.index on a module's tuple..are MtR facts of 06m-/
end
def MtM(X:Cx)(id:String)(r:V->List V->Hp->VK->Prop):Prop:=∀(pins:List (Addr × Obj))(s:Shared)(σ:St)(H:Hp)(x:V)(xs:List V)(v:Value)(us:List Value)(Q:VK),Inv X pins σ H s->RelV x v->Vals xs us->r x xs H Q->wpAny (model X.prog X.w) X.A (call (.builtin id) (v::us)) (EP X pins σ Q) X.xe s
theorem Vals.one:∀{x:V}{us:List Value},Vals [x] us->∃u,us=[u]/\RelV x u|x,us,h=>by cases h with|cons r t=>cases t;exact⟨_,rfl,r⟩
theorem Vals.two:∀{x y:V}{us:List Value},Vals [x,y] us->∃u v,us=[u,v]/\RelV x u/\RelV y v|x,y,us,h=>by cases h with|cons r t=>cases t with|cons q z=>cases z;exact⟨_,_,rfl,r,q⟩
theorem Vals.zero:∀{us:List Value},Vals [] us->us=[]|_,.nil=>rfl
theorem Vals.reverse{xs:List V}{us:List Value}(h:Vals xs us):Vals xs.reverse us.reverse:=by induction h with|nil=>exact .nil|cons r t ih=>rw[reverse_cons,reverse_cons];exact Vals.append ih (.cons r .nil)
theorem Vals.rep{xs:List V}{us:List Value}(h:Vals xs us):∀k:Nat,Vals (replicate k xs).flatten (replicate k us).flatten|0=>.nil|k+1=>by rw[replicate_succ,replicate_succ,flatten_cons,flatten_cons];exact Vals.append h (Vals.rep h k)
theorem foldl_rep(its:List Value):∀(k:Nat)(acc:List Value),foldl (fun x1 x2=>x1++x2) acc.toArray (replicate k its.toArray)=(acc++(replicate k its).flatten).toArray
 |0,acc=>by simp|k+1,acc=>by
   have e:acc.toArray++its.toArray=(acc++its).toArray:=by simp
   have e2:(acc++its)++(replicate k its).flatten=acc++(replicate (k+1) its).flatten:=by rw[replicate_succ,flatten_cons,append_assoc]
   rw[<-e2,<-foldl_rep its k (acc++its),<-e,replicate_succ,foldl_cons]
section
variable{X:Cx}{pins:List (Addr×Obj)}{σ:St}{H:Hp}{s:Shared}{l b:Addr}{xs ys zs:List V}
theorem Inv.Z5{its its':List Value}{n:Nat}{f:Array Value->Array Value}{t':Nat}(I:Inv X pins σ H s)(hH:H l=some (.lst xs))(e:s.heap.get? l=some {cls:=.type "list",data:=.seq its.toArray n})(hf:f its.toArray=its'.toArray)(hv:Vals ys its')(hz:ys.length<=sizeLine):Inv X pins σ (upd H l (.lst ys)) {s with heap:=s.heap.update l (Obj.mapSeq f),toks:=t'}:=by have q:=PySem.IsL.update e f;rw[hf]at q;refine I.write (x:=l) (e:=l) (by rw[hH];exact trivial) (.inl rfl) (fun b' u hb hu=>(get?_update_other s.heap (Obj.mapSeq f) (Ne.symm hb)).trans hu) ⟨_,q⟩ ?_;exact⟨hz,its',_,hv,q⟩
theorem Inv.Nf{its:List Value}{t':Nat}(I:Inv X pins σ H s)(hv:Vals ys its)(hz:ys.length<=sizeLine):Inv X pins σ (upd H s.heap.objs.size (.lst ys)) {s with heap:=s.heap.push {cls:=.type "list",data:=.seq its.toArray},toks:=t'}:=I.laid (fun _ _ q=>get?_push_of_some _ q) (le_refl _) ⟨hz,its,0,hv,get?_push_size _ rfl⟩
theorem Inv.fresh(I:Inv X pins σ H s):H s.heap.objs.size=none:=I.hok.fresh (le_refl _)
theorem Inv.ZV(I:Inv X pins σ H s)(hH:H l=some (.lst xs)):xs.length<=sizeLine/\∃(its:List Value)(n:Nat),Vals xs its/\xs.length=its.length/\s.heap.get? l=some {cls:=.type "list",data:=.seq its.toArray n}:=by obtain⟨z,its,n,r,e⟩:=I.hok l _ hH;exact⟨z,its,n,r,r.length,e⟩
theorem DQ{n:Nat}(h:n<=sizeLine):listTooLong n=false:=by unfold listTooLong;exact decide_eq_false (by omega)
end
section
variable{X:Cx}
def J3:V->List V->Hp->VK->Prop:=fun x vs H Q=>∃l xs y,x=.ref l/\vs=[y]/\H l=some (.lst xs)/\xs.length<sizeLine/\Q .non (upd H l (.lst (xs++[y])))
theorem mD:MtM X "list.append" J3:=by intro pins s σ H x vs v us Q I rx rv h;obtain⟨l,xs,y,rfl,rfl,hH,hz,q⟩:=h;cases rx;obtain⟨u,rfl,ru⟩:=rv.one;obtain⟨z,its,n,r,hl,e⟩:=I.ZV hH;refine call_meets F.slot_list_append ⟨_,e,rfl⟩ F.entry_list_append (F.args_list_append_2 _ _) (PySem.list_append l its.toArray n u (by rw[size_toArray];omega)) ⟨e,?_⟩;refine⟨.non,_,I.Z5 (its':=its++[u]) hH e (by simp) (r.append (.cons ru .nil)) ?_,rfl,q⟩;rw[length_append,List.length_singleton];omega
theorem len_rep{α:Type}(xs:List α)(k:Nat):(replicate k xs).flatten.length=k*xs.length:=by induction k with|zero=>simp|succ k ih=>rw[replicate_succ,flatten_cons,length_append,ih,Nat.succ_mul,Nat.add_comm]
end
end L2
namespace Zg
open PySem PySem.W PySem.Calls PyProof.Rows
theorem nC{P:Params}{h:Heap}:∀(ns:List Int)(vs:List Value),WellAll P h vs (ns.map WData.int)->IntsAre vs ns:=by intro ns;induction ns with|nil=>intro vs w;rw[map_nil]at w;cases w;exact .nil|cons n ns ih=>intro vs w;rw[map_cons]at w;cases w with|cons a b=>cases a;exact .cons _ _ (ih _ b)
theorem Bo{l:OpenLaw}{n:Nat}(hn:l.most=some n){P:Params}{h:Heap}{args:List WData}{vals:List Value}(hpre:l.row.toRowW.claim.pre args=true)(hwl:WellAll P h vals args):∃a vs ns,vals=[Value.ref a]/\args=[WData.list (ns.map WData.int)]/\h.get? a=some {cls:=.type "list",data:=.seq vs.toArray}/\IntsAre vs ns/\ns.length<=n:=by
 have hsh:WShape.hasAll [] args [.list .int]=true:=(pre_splitW hpre).1;have hc:l.pre.holds [] {args:=args}=true:=(pre_splitW hpre).2;obtain⟨d,r,rfl,h1,h2⟩:=hasAllW_cons hsh;obtain rfl:=hasAllW_nil h2;obtain⟨xs,rfl,h3⟩:=hasW_list h1;obtain⟨ns,rfl⟩:=items_int h3;have hlen:ns.length<=n:=by
  unfold OpenLaw.pre at hc;have h4:(WTm.not (.lt (.lit (.int (n:Int))) (.len (.arg 0)))).holds [] {args:=[.list (ns.map .int)]}=true:=by have h4:=(holds_andW hc).1;rw[hn]at h4;exact h4
  have h5:=condW_of h4 (w_not (w_lt w_lit (w_len_list (w_arg rfl))));rw[length_map]at h5;refine Nat.le_of_not_lt fun q=>?_;have q':(n:Int)<((ns.length:Nat):Int):=by omega
  first|(rw[decide_eq_true q']at h5;exact absurd h5 (by decide))|(simp at h5;omega)
 cases hwl with|cons w1 w2=>cases w2;cases w1 with|list ho hall=>exact⟨_,_,ns,rfl,rfl,ho,nC ns _ hall,hlen⟩
theorem Af(l:OpenLaw)(args:List WData):l.row.toRowW.claim.post args (.bool true) args=true:=postW_of (r:=l.row.toRowW) (X:=(true==true)) (show WShape.has [] (.bool true) .bool=true by first|rfl|decide|simp[WShape.has,WShape.arms,WShape.armsAll]) (show(WTm.eq .res (.lit (.bool true))).value [] {args:=args,res:=some (.bool true),after:=args}=some (.bool (true==true))from w_eq_bool (w_res rfl) w_lit) rfl
theorem uI{l:OpenLaw}{n:Nat}{q:Program}{loose:List Str}{XP:(Str->Option Value)->Heap->Prop}{YP:World->Heap->Prop}{d:DefRec}(hn:l.most=some n)(hdf:d.params.defaults=[])(call:∀(w:World)(s₀ s₁:Shared)(mg mb:Str->Option Value)(fa:Addr)(o:Obj)(pm cd doc:Value)(a:Addr)(vs:List Value)(ns:List Int),Ground q loose [] XP w s₀ mg mb s₁.heap->YP w s₁.heap->s₁.heap.get? fa=some o->o.data=.func (docDef d.name d.params d.body d.scope pm cd doc)->s₁.heap.CodeRec cd d.name->mg d.name=some (.ref fa)->s₁.heap.get? a=some {cls:=.type "list",data:=.seq vs.toArray}->IntsAre vs ns->ns.length<=n->s₁.gens=#[]->codeAny (model l.prog w) callerA (.call (.ref fa) ⟨[.ref a],[]⟩) (fun r s'=>r=.ok (.ret (.bool true))/\OldK s₁.heap s'.heap/\s'.os=s₁.os/\AllBare s'.gens) s₁):WalkO q loose XP YP l.row.toRowW d [] (fun f vs=>PySem.call f vs):=by intro w s₀ s₁ mg mb G Y fa o pm cd doc dV kV ho hd hcd hD hmg hg args vals as hpre hlay hrd hwl hlo;obtain rfl:dV=.none:=Dflts.none hD hdf;obtain rfl:kV=.none:=Dflts.noKw hD;obtain⟨a,vs,ns,rfl,rfl,hobj,hints,hlen⟩:=Bo hn hpre hwl;refine enter_call (codeAny_mono (call w s₀ s₁ mg mb fa o pm cd doc a vs ns G Y ho (fd_plain hd) hcd hmg hobj hints hlen hg) fun r s' hq=>?_);obtain⟨rfl,h2,h3,h4⟩:=hq;exact⟨.inl ⟨.bool true,.bool true,[],rfl,fun _=>rfl,.bool true,Af l _,fun _=>⟨List.Pairwise.nil,fun _ hm=>(nomatch hm)⟩⟩,h2,h3,h4⟩
end Zg
namespace L2
open PySem PySem.Spec PyProof.Rows
theorem qI:∀{vs:List Value}{ns:List Int},IntsAre vs ns->Vals (ns.map V.int) vs|_,_,.nil=>.nil|_,_,.cons n t h=>.cons ⟨t,rfl⟩ (qI h)
def Only(H:Hp):Prop:=∀b,H b=none\/∃o xs,H b=some (.cW o (.lst xs))
theorem Ey{P:Program}{w:World}{K:PySem.W.Frag}{mg mb:Str->Option Value}{CX:Dy}{k:Nat}{fa a:Addr}{fd:FuncData}{x:Str}{sp:Sp}{s₁:Shared}{vs:List Value}{ns:List Int}(KX:K.In s₁.heap)(hns:s₁.heap.Ns mainGlobals mg)(hb:s₁.heap.Ns builtinsNs mb)(hbb:∀x:Str,x≠"__name__"->mb x=bootBuiltins x)(hlim:s₁.heap.NoLimit)(hg:s₁.gens=#[])(ha:s₁.heap.get? a=some {cls:=.type "list",data:=.seq vs.toArray})(hi:IntsAre vs ns)(hl:ns.length<=sizeLine)(hr:ju k callerA)(F:∀base:Heap,K.In base->base.Ns mainGlobals mg->bW P w K mg base CX k fa fd [x] sp)(hbind:∀(s:Shared)(u:Value),BindsTo s fd ⟨[u],[]⟩ [(x,u)])(hsp:∀H:Hp,Only H->dq K H a (ns.map V.int)->sp [.ref a] H (fun v _=>v=.bl true) fun _ _ _=>False)(Ww:∀H e s',CX [] H s₁ (fun _ _ _=>False) e s'->False):codeAny (model P w) callerA (.call (.ref fa) ⟨[.ref a],[]⟩) (fun r s'=>r=.ok (.ret (.bool true))/\OldK s₁.heap s'.heap/\s'.os=s₁.os/\AllBare s'.gens) s₁:=by
 have rv:=qI hi;have lenV:=hi.length--from an abstract heap in which nothing but the script may be tracked
 have core:∀H:Hp,Only H->dq K H a (ns.map V.int)->lO P w H s₁.heap->(∀b,H b≠none->b=a)->(H a≠none->K.lookup a=none)->codeAny (model P w) callerA (.call (.ref fa) ⟨[.ref a],[]⟩) (fun r s'=>r=.ok (.ret (.bool true))/\OldK s₁.heap s'.heap/\s'.os=s₁.os/\AllBare s'.gens) s₁:=by
  intro H hO hS hok hA hK;have zL:∀{b:Addr}{o:Obj},s₁.heap.get? b=some o->H b=none->(tY s₁.heap H).get? b=some o:=fun e n=>BW e n;have Wv:∀{b:Addr}{o:Obj}{es:Array DictEntry}{ep:Nat},s₁.heap.get? b=some o->o.data=.dict es ep->H b=none:=fun{b o es ep}e d=>by cases q:H b with|none=>rfl|some u=>have e':b=a:=hA b (by rw[q];simp);subst e';rw[ha]at e;cases e;have d':Data.seq vs.toArray _=Data.dict es ep:=d;cases d'
  have Zh:∀{b:Addr}{m:Str->Option Value},s₁.heap.Ns b m->(tY s₁.heap H).Ns b m:=fun{b m}⟨o,es,ep,e,d,r⟩=>⟨o,es,ep,zL e (Wv e d),d,r⟩;have hKb:K.In (tY s₁.heap H):=fun b o e=>zL (KX b o e) (by cases q:H b with|none=>rfl|some u=>have e':b=a:=hA b (by rw[q];simp);subst e';rw[hK (by rw[q];simp)]at e;cases e);have hM:Mod K mg (tY s₁.heap H):=⟨hKb,Zh hns,⟨mb,Zh hb,hbb⟩,let⟨mc,h1,h2⟩:=hlim;⟨mc,Zh h1,h2⟩⟩;have e0:Jm P w K mg (tY s₁.heap H) callerA [] s₁ H:=⟨rfl,hM,fun b o e=>HQ e,Nat.le_of_eq (Bl _ _),trivial,fun b hb=>absurd (show b∈([]:List Addr)from hb) (by simp),hok,.of_eq hg⟩;refine codeAny_mono ((F _ hKb (Zh hns)).run callerA [] s₁ H ⟨[.ref a],[]⟩ [.ref a] [.ref a] _ _ hr e0 (hbind s₁ (.ref a)) (.cons rfl .nil) (hsp H hO hS)) fun r s' h=>?_;cases r with|error e=>exact(Ww H e s' h).elim|ok fl=>cases fl with|next=>exact False.elim h|brk=>exact False.elim h|cont=>exact False.elim h|ret u=>obtain⟨v,H',os,bare,un,hok',r',q⟩:=h;have q':v=.bl true:=q;subst q';obtain rfl:u=Value.bool true:=r';refine⟨rfl,OldK.of_keep fun b o e=>?_,os,bare⟩;cases q:H b with|none=>exact un.keep b o e q (by intro z;exact absurd (show b∈([]:List Addr)from z) (by simp)) (by simp)|some u=>
        rcases hO b with z|⟨ob,xs,z⟩;.rw[q]at z;cases z
        .have z2:=un.uc b ob _ z;obtain⟨e1,_⟩:=hok b _ z;obtain⟨e2,_⟩:=hok' b _ z2;rw[e]at e1;cases e1;exact e2
 cases hk:K.lookup a with|some o=>--the script is one of the module's own objects
   have e:=KX a o hk;rw[ha]at e;cases e;refine core (fun _=>none) (fun _=>.inl rfl) (.inr ⟨_,vs.toArray,_,hk,rfl,rfl,rfl,by rw[size_toArray,lenV];exact hl,by simpa using rv⟩) (fun b u z=>by have z':(none:Option HO)=some u:=z;cases z') (fun b z=>absurd rfl z) fun z=>absurd rfl z|none=>
   refine core (fun b=>if b=a then some (.cW {cls:=.type "list",data:=.seq vs.toArray} (.lst (ns.map V.int)))else none) (fun b=>?_) (.inl (.inr ⟨{cls:=.type "list",data:=.seq vs.toArray},if_pos rfl⟩)) (fun b u z=>?_) (fun b z=>?_) fun _=>hk
   . by_cases hb:b=a;.exact .inr ⟨_,_,if_pos hb⟩
     .exact .inl (if_neg hb)
   . by_cases hb:b=a;.have z':=(if_pos hb).symm.trans z;cases z';subst hb;exact⟨ha,by rw[length_map];exact hl,vs,_,rv,ha⟩
     .have z':=(if_neg hb).symm.trans z;cases z'
   . by_cases hb:b=a;.exact hb
     .exact absurd (if_neg hb) z
theorem Hh{l:PySem.W.OpenLaw}{n k:Nat}{q:Program}{loose:List Str}{XP:(Str->Option Value)->Heap->Prop}{YP:World->Heap->Prop}{d:DefRec}{K:Params->PySem.W.Frag}{CX:World->Dy}{sp:World->Sp}{x:Str}(hn:l.most=some n)(hn2:n<=sizeLine)(hdf:d.params.defaults=[])(hr:ju k callerA)(hY:∀(w:World)(h:Heap),YP w h->(K w.params).In h)(F:∀(w:World)(mg:Str->Option Value)(fa:Addr)(h:Heap),(K w.params).In h->h.Ns mainGlobals mg->mg d.name=some (.ref fa)->∃ fd:FuncData,(∀(s:Shared)(u:Value),BindsTo s fd ⟨[u],[]⟩ [(x,u)])/\∀base:Heap,(K w.params).In base->base.Ns mainGlobals mg->bW l.prog w (K w.params) mg base (CX w) k fa fd [x] (sp w))(hsp:∀(w:World)(H:Hp)(a:Addr)(ns:List Int),ns.length<=n->Only H->dq (K w.params) H a (ns.map V.int)->sp w [.ref a] H (fun v _=>v=.bl true) fun _ _ _=>False)(Ww:∀(w:World)(H:Hp)(s:Shared)(e:Value)(s':Shared),CX w [] H s (fun _ _ _=>False) e s'->False):PySem.W.WalkO q loose XP YP l.row.toRowW d [] (fun f vs=>PySem.call f vs):=by refine Zg.uI hn hdf fun w s₀ s₁ mg mb fa o pm cd doc a vs ns G Y ho hd hcd hmg hobj hints hlen hg=>?_;have KX:=hY w _ Y;obtain⟨fd,hb,hF⟩:=F w mg fa _ KX G.T.g hmg;exact Ey KX G.T.g G.T.b G.T.builtins G.T.nolimit hg hobj hints (le_trans hlen hn2) hr hF hb (fun H hO hS=>hsp w H a ns hlen hO hS) fun H e s'=>Ww w H s₁ e s'
theorem Gq{l:PySem.W.OpenLaw}{n k:Nat}{q:Program}{loose:List Str}{XP:(Str->Option Value)->Heap->Prop}{YP:World->Heap->Prop}{d:DefRec}{K:Params->PySem.W.Frag}{CX:Dy}{sp:PySem.W.Frag->Sp}{x:Str}(hn:l.most=some n)(hn2:n<=sizeLine)(hdf:d.params.defaults=[])(hr:ju k callerA)(hY:∀(w:World)(h:Heap),YP w h->(K w.params).In h)(F:∀(w:World)(mg:Str->Option Value)(fa:Addr)(h:Heap),(K w.params).In h->h.Ns mainGlobals mg->mg d.name=some (.ref fa)->∃ fd:FuncData,(∀(s:Shared)(u:Value),BindsTo s fd ⟨[u],[]⟩ [(x,u)])/\∀base:Heap,(K w.params).In base->base.Ns mainGlobals mg->bW l.prog w (K w.params) mg base CX k fa fd [x] (sp (K w.params)))(hsp:∀(K:PySem.W.Frag)(H:Hp)(a:Addr)(ns:List Int),ns.length<=n->Only H->dq K H a (ns.map V.int)->sp K [.ref a] H (fun v _=>v=.bl true) fun _ _ _=>False)(Ww:∀(H:Hp)(s:Shared)(e:Value)(s':Shared),CX [] H s (fun _ _ _=>False) e s'->False):PySem.W.WalkO q loose XP YP l.row.toRowW d [] (fun f vs=>PySem.call f vs):=Hh (K:=K) (CX:=fun _=>CX) (sp:=fun w=>sp (K w.params)) hn hn2 hdf hr hY F (fun w H a ns h1 h2 h3=>hsp (K w.params) H a ns h1 h2 h3) fun _ H s e s'=>Ww H s e s'
end L2/-THE LAST THEOREM(shape;LID,My.*are aef):My.Adr:a structure of the addresses that your layer names(classes,functions);My.Txt K t:a structure(Prop)of the equations over K;My.acD:{K}{implicit addresses..}(e1:nsIn K mainGlobals"law"=some(some(.ref f)))(e2:K.lookup f=some⟨oc,od,.func(fnOf"law""law"params body scope dV kV doc pm an cdv ct),sl⟩)(e3:codeIn K cdv"law"=true)..:∃t,My.Txt K t;set_option maxRecDepth 100000 in;set_option maxHeartbeats 0 in(the tactic k_is has no namespace:write k_is)-/
namespace L2
open PySem PySem.Spec PyProof.Rows
noncomputable def gZ(s:Stmt):Arguments:=match s with|.FunctionDef _ a _ _ _ _ _ _ _ _=>a|_=>{posonlyargs:=[],args:=[],vararg:=none,kwonlyargs:=[],kw_defaults:=[],kwarg:=none,defaults:=[]}
noncomputable def fG(s:Stmt):List Stmt:=match s with|.FunctionDef _ _ b _ _ _ _ _ _ _=>b|_=>[]
noncomputable def az(s:Stmt):Scope:=match s with|.FunctionDef _ _ _ _ _ _ sc _ _ _=>sc|_=>{kind:=.function,names:=[],isGenerator:=false,isCoroutine:=false}
abbrev fZ:Dy:=fun _ _ _ _ _ _=>False
abbrev E0:XK:=fun _ _ _=>False
theorem T3{X:Cx}:Passes fZ X E0:=fun _ _ _ _ _ _ _ h=>h.elim
structure gB(K:PySem.W.Frag)(x qual:Str)(st:Stmt)(f:Addr)(fd:FuncData):Prop where
 ex:∃(oc:Value)(od:Option Addr)(kV doc pm:Value)(an:Option Addr)(cdv ct:Value)(osl:Array (Option Value)),fd=PySem.W.fnOf x qual (gZ st) (fG st) (az st) .none kV doc pm an cdv ct/\K.lookup f=some ⟨oc,od,.func fd,osl⟩/\PySem.W.codeIn K cdv qual=true
 kp:keepIn K (.ref f)=true
section
variable{P:Program}{w:World}{K:PySem.W.Frag}{mg:Str->Option Value}{base:Heap}
theorem gB.ok{x qual:Str}{st:Stmt}{f:Addr}{fd:FuncData}{N ps:List Str}{k:Nat}{sp:Sp}(F:gB K x qual st f fd)(S:aL N ps (az st))(len:∀vs H Q E,sp vs H Q E->vs.length=ps.length)(hbody:∀(cdv:Value)(A:Around)(outer:List Env)(s:Shared)(H:Hp)(vs:List V)(Q:VK)(E:XK),ju k (A.deeper (envOfC qual (az st) s.heap.objs.size f cdv))->sp vs H Q E->∃t,uK (xJ fZ P w K mg base N qual (az st) f cdv A outer s H E).Wa (fG st) t/\t {nx:=fun _ H'=>Q .non H',rt:=Q} (start N vs) H):bW P w K mg base fZ (k+1) f fd ps sp:=by obtain⟨oc,od,kV,doc,pm,an,cdv,ct,osl,rfl,lk,hcd⟩:=F.ex;refine VN lk hcd S len fun A outer s H vs Q E hr hsp=>?_;obtain⟨t,h,q⟩:=hbody cdv A outer s H vs Q E hr hsp;exact⟨t,h.Wa,q⟩
theorem gB.binds{x qual:Str}{st:Stmt}{f:Addr}{fd:FuncData}{ps:List Str}(F:gB K x qual st f fd)(h:∀(kV doc pm:Value)(an:Option Addr)(cdv ct:Value)(us:List Value),us.length=ps.length->bindArgs (PySem.W.fnOf x qual (gZ st) (fG st) (az st) .none kV doc pm an cdv ct) ⟨us,[]⟩=pure (ps.zip us)):Binds K fd ps []:=by obtain⟨oc,od,kV,doc,pm,an,cdv,ct,osl,rfl,lk,hcd⟩:=F.ex;exact .all (h kV doc pm an cdv ct)
theorem N5{x qual:Str}{st:Stmt}{f:Addr}{oc:Value}{od an:Option Addr}{osl:Array (Option Value)}{kV doc pm cdv ct:Value}(l:K.lookup f=some ⟨oc,od,.func (PySem.W.fnOf x qual (gZ st) (fG st) (az st) .none kV doc pm an cdv ct),osl⟩)(c:PySem.W.codeIn K cdv qual=true)(k:keepIn K (.ref f)=true):gB K x qual st f (PySem.W.fnOf x qual (gZ st) (fG st) (az st) .none kV doc pm an cdv ct):=⟨⟨oc,od,kV,doc,pm,an,cdv,ct,osl,rfl,l,c⟩,k⟩
end
def aG(H H':Hp):Prop:=∀b o,H b=some o->H' b=some o
theorem aG.refl(H:Hp):aG H H:=fun _ _ h=>h
theorem aG.trans{H H1 H2:Hp}(a:aG H H1)(b:aG H1 H2):aG H H2:=fun c o h=>b c o (a c o h)
theorem aG.seq{K:PySem.W.Frag}{H H':Hp}{a:Addr}{xs:List V}(e:aG H H')(h:dq K H a xs):dq K H' a xs:=by
 rcases h with(h|⟨o,h⟩)|h;.exact .inl (.inl (e _ _ h))
 .exact .inl (.inr ⟨o,e _ _ h⟩)
 .exact .inr h
end L2
end
section
namespace HH
open PySem
inductive Dc where|k(kvs:List (Int×Int))|t(kvs:List (List Int×Int))deriving DecidableEq
inductive D where|non|bl(b:Bool)|int(i:Int)|str(s:Str)|tup(ds:List D)|lst(ds:List D)|cY(m:Dc)|dv(ks:List Int)(ds:List D)deriving Inhabited
mutual
noncomputable def iG:D->D->Bool|.non,.non=>true|.bl a,.bl b=>a==b|.bl a,.int i=>(if a then(1:Int)else 0)==i|.int i,.bl a=>i==(if a then(1:Int)else 0)|.int i,.int j=>i==j|.str a,.str b=>a==b|.tup xs,.tup ys=>fj xs ys|.lst xs,.lst ys=>fj xs ys|.cY a,.cY b=>decide (a=b)|.dv a xs,.dv b ys=>decide (a=b)&&fj xs ys|_,_=>false
noncomputable def fj:List D->List D->Bool|[],[]=>true|x::xs,y::ys=>iG x y&&fj xs ys|_,_=>false
end
theorem pqi{i j}:iG (.int i) (.int j)=(i==j):=(rfl)
theorem pqt{x y}:iG (.tup x) (.tup y)=fj x y:=(rfl)
theorem Y0{x y}:iG (.lst x) (.lst y)=fj x y:=(rfl)
noncomputable def cX:Nat->D->Bool|_,.non=>true|_,.bl _=>true|_,.int _=>true|_,.str _=>true|0,.tup _=>false|0,.lst _=>false|_,.cY _=>false|_,.dv _ _=>false|n+1,.tup ds=>ds.all (cX n)|n+1,.lst ds=>ds.all (cX n)
inductive Sl where|aP|val(b:Bool)(d:D)|own(b:Bool)(ds:List D)|lent(ds:List D)|qx(m:Dc)|hold(rows:List (List D))|cV(kvs:List (Int×D))deriving Inhabited
inductive R where|val(d:D)|own(ds:List D)deriving Inhabited
noncomputable def R.d:R->D|.val d=>d|.own ds=>.lst ds
inductive Res(α:Type)where|ok(a:α)(ρ:List Sl)|exc(k:Nat)(ρ:List Sl)|stuck deriving Inhabited
noncomputable def Res.bind{α β:Type}(f:α->List Sl->Res β):Res α->Res β|.ok a ρ=>f a ρ|.exc _ _=>.stuck|.stuck=>.stuck
noncomputable def lift{α:Type}(o:Option α)(ρ:List Sl):Res α:=match o with|some a=>.ok a ρ|none=>.stuck
inductive Op where|add|sub|mul|fdiv|mod|pow|shl|shr|band|Bs|Zi|acE deriving DecidableEq
inductive Cm where|eq|ne|lt|le|gt|ge|Wx|Bt|inn|vM|isT|Wz|leT deriving DecidableEq
inductive Ty where|int|bool|str|tuple|list|none deriving DecidableEq
inductive Yt where|len|list|tuple|max2|vN|sum|all|int|J7|keys|Tr|mO|Zj deriving DecidableEq
inductive P where|var(i:Nat)|con(d:D)|bin(o:Op)(a b:P)|neg(a:P)|not(a:P)|and(a b:P)|or(a b:P)|cmp(o:Cm)(a b:P)|chain(o o':Cm)(a b c:P)|LC(c a b:P)|tup(as:List P)|lst(as:List P)|idx(a i:P)|slice(a lo hi:P)|call(f:Nat)(as:List P)|blt(b:Yt)(as:List P)|inst(ts:List Ty)(a:P)|comp(src:P)(n:Nat)(is:List Nat)(one:Bool)(test:Option P)(elt:P)|tZ(a b:P)|Tt(a:P)|zip(a b:P)|vw(x:Nat)|LK(x:Nat)(k:P)|LQ(x:Nat)(k:P)(neg:Bool)|vO(k e:Int)|vP(i:Nat)(a:P)(n:Nat)(is:List Nat)(one:Bool)(test:Option P)(elt:P)deriving Inhabited
noncomputable abbrev lim:Nat:=16777216
noncomputable def pA:D->D->Option R|.int i,.int j=>some (.val (.int (i+j)))|.lst xs,.lst ys=>if xs.length+ys.length<=lim then some (.own (xs++ys))else none|.tup xs,.tup ys=>if xs.length+ys.length<=lim then some (.val (.tup (xs++ys)))else none|.str x,.str y=>if x.length+y.length<=lim then some (.val (.str (x++y)))else none|_,_=>none
noncomputable def oU:D->D->Option R|.int i,.int j=>if((-18446744073709551616<i/\i<18446744073709551616)\/(-18446744073709551616<j/\j<18446744073709551616))then some (.val (.int (i*j)))else none|.lst xs,.int k=>if 0<=k/\0<xs.length/\xs.length*k.toNat<=lim then some (.own (replicate k.toNat xs).flatten)else none|.tup xs,.int k=>if 0<=k/\0<xs.length/\xs.length*k.toNat<=lim then some (.val (.tup (replicate k.toNat xs).flatten))else none|_,_=>none
noncomputable def vy:D->D->Option R|.int i,.int j=>some (.val (.int (i-j)))|_,_=>none
noncomputable def pP:D->D->Option R|.int i,.int j=>if 0<j/\j<1606938044258990275541962092341162602522202993782792835301376 then some (.val (.int (i/j)))else none|_,_=>none
noncomputable def vq:D->D->Option R|.int i,.int j=>if 0<j then some (.val (.int (i%j)))else none|_,_=>none
noncomputable def vg:D->D->Option R|.int i,.int j=>if 0<=j/\j<=1000/\i.natAbs<18446744073709551616 then some (.val (.int (i^j.toNat)))else none|_,_=>none
noncomputable def Du:D->D->Option R|.int i,.int j=>if 0<=j/\j<=1000/\i.natAbs<18446744073709551616 then some (.val (.int (i*2^j.toNat)))else none|_,_=>none
noncomputable def Ex:D->D->Option R|.int i,.int j=>if 0<=j then some (.val (.int (i/2^j.toNat)))else none|_,_=>none
noncomputable def wU:D->D->Option R|.int i,.int j=>some (.val (.int (Builtin.bitAnd i j)))|_,_=>none
noncomputable def flat:D->Bool|.tup _=>false|.lst _=>false|.cY _=>false|.dv _ _=>false|_=>true
noncomputable def items:D->Option (List D)|.lst ds=>some ds|.tup ds=>some ds|_=>none
noncomputable def Nj:D->Option (List D)|.tup ds=>some ds|_=>none
noncomputable def wN(x y:D):Option Bool:=if cX 8 x&&cX 8 y then some (iG x y)else none
noncomputable def rY(x y:D):Option Bool:=if cX 8 x&&cX 8 y then some (!iG x y)else none
noncomputable def Hb(f:Int->Int->Bool):D->D->Option Bool|.int i,.int j=>some (f i j)|_,_=>none
noncomputable def gR:D->Bool|.non=>true|_=>false
noncomputable def Ri(neg:Bool)(x:D):D->Option Bool|.non=>some (if neg then !gR x else gR x)|_=>none
noncomputable def m6(neg:Bool)(x y:D):Option Bool:=(items y).bind fun ys=>if(flat x&&ys.all flat)=true then some (if neg then !(ys.any fun y=>iG y x)else ys.any fun y=>iG y x)else none
noncomputable def cmT(neg:Bool):D->D->Option Bool|.bl b,.bl true=>some (if neg then !b else b)|_,_=>none
noncomputable def cQ:List Int->List Int->Bool|[],_::_=>true|i::is,j::js=>decide (i<j)||(decide (i=j)&&cQ is js)|_,[]=>false
noncomputable def jU:D->Int|.int i=>i|_=>0
noncomputable def nD:D->List Int|.int i=>[i]|.tup ds=>ds.map jU|_=>[]
noncomputable def fH:D->Bool|.int _=>true|_=>false
noncomputable def Dc.get:Dc->D->Option (Option Int)|.k kvs,.int i=>some ((kvs.find? fun kv=>decide (kv.1=i)).map (·.2))|_,_=>none
noncomputable def putD{κ:Type}[DecidableEq κ](kvs:List (κ×Int))(k:κ)(v:Int):List (κ×Int):=if(kvs.any fun kv=>decide (kv.1=k))=true then kvs.map (fun kv=>if kv.1=k then(kv.1,v)else kv)else kvs++[(k,v)]
noncomputable def Dc.put:Dc->D->Int->Option Dc|.k kvs,.int i,v=>if kvs.length<lim then some (.k (putD kvs i v))else none|_,_,_=>none
noncomputable def Dc.abH:Dc->List D->Option (Option Int)|.t kvs,ds=>if ds.all fH=true then some ((kvs.find? fun kv=>decide (kv.1=ds.map jU)).map (·.2))else none|_,_=>none
noncomputable def Dc.putT:Dc->List D->Int->Option Dc|.t kvs,ds,v=>if ds.all fH=true/\kvs.length<lim then some (.t (putD kvs (ds.map jU) v))else none|_,_,_=>none
noncomputable def adC:D->List D->Option R|.cY m,ks=>(m.abH ks).bind fun o=>o.map fun v=>.val (.int v)|_,_=>none
noncomputable def mz(kvs:List (Int×D))(k:Int):Option D:=(kvs.find? fun p=>decide (p.1=k)).map (·.2)
noncomputable def jn(kvs:List (Int×D))(k:Int)(d:D):List (Int×D):=if(kvs.any fun p=>decide (p.1=k))=true then kvs.map (fun p=>if p.1=k then(p.1,d)else p)else kvs++[(k,d)]
noncomputable def uM(neg:Bool):D->D->Option R|.int k,.dv ks _=>some (.val (.bl (if neg then !ks.contains k else ks.contains k)))|_,_=>none
noncomputable def zu:D->D->Option R|.cY m,k=>(m.get k).bind fun o=>o.map fun v=>.val (.int v)|.dv ks ds,.int k=>(mz (ks.zip ds) k).map .val|_,_=>none
noncomputable def qm:Op->D->D->Option R|.add=>pA|.mul=>oU|.sub=>vy|.fdiv=>pP|.mod=>vq|.pow=>vg|.shl=>Du|.shr=>Ex|.band=>wU|.Bs=>zu|.Zi=>uM false|.acE=>uM true
noncomputable def Vp:D->D->Option Bool|.int i,.int j=>some (decide (i<j))|.tup xs,.tup ys=>if(xs.all fH&&ys.all fH)=true then some (cQ (xs.map jU) (ys.map jU))else none|_,_=>none
noncomputable def aa6:D->D->Option Bool|.int i,.int j=>some (decide (i<=j))|.tup xs,.tup ys=>if(xs.all fH&&ys.all fH)=true then some (!cQ (ys.map jU) (xs.map jU))else none|_,_=>none
noncomputable def cm:Cm->D->D->Option Bool|.eq=>wN|.ne=>rY|.lt=>Vp|.le=>Hb fun i j=>decide (i<=j)|.leT=>aa6|.gt=>Hb fun i j=>decide (j<i)|.ge=>Hb fun i j=>decide (j<=i)|.Wx=>Ri false|.Bt=>Ri true|.inn=>m6 false|.vM=>m6 true|.isT=>cmT false|.Wz=>cmT true
noncomputable def mL(o:Cm)(x y:D):Option R:=(cm o x y).map fun k=>.val (.bl k)
noncomputable def stD(ks:List Int)(k:Int):List Int:=if ks.contains k=true then ks else ks++[k]
noncomputable def dedI(ns:List Int):List Int:=ns.foldl stD []
noncomputable def gq(n:Nat)(i:Int):Option Nat:=if 0<=i then(if i<n then some i.toNat else none)else if-(n:Int)<=i then some (i+n).toNat else none
noncomputable def at'{α:Type}(xs:List α)(i:Int):Option α:=(gq xs.length i).bind fun j=>xs[j]?
noncomputable def dg(n d:Nat):Option Int->Nat|none=>d|some i=>if 0<=i then min i.toNat n else(i+n).toNat
noncomputable def cut{α:Type}(xs:List α)(lo hi:Option Int):List α:=(xs.drop (dg xs.length 0 lo)).take (dg xs.length xs.length hi-dg xs.length 0 lo)
noncomputable def optI:D->Option (Option Int)|.non=>some none|.int i=>some (some i)|_=>none
noncomputable def iQ:D->Option Int|.int i=>some i|_=>none
noncomputable def tX:D->Option Bool|.bl b=>some b|_=>none
noncomputable def Aa(x y:D):Option R:=(items x).bind fun ds=>(iQ y).bind fun i=>(at' ds i).map .val
noncomputable def Ce(x:D):Option R:=(iQ x).map fun i=>.val (.int (-i))
noncomputable def Vz:P->Bool|.con .non=>true|_=>false
noncomputable def part(p:P)(d:D):Option (Option Int):=if Vz p then some none else(iQ d).map some
noncomputable def Oz:D->Option (Option Int)->Option (Option Int)->Option R|.lst xs,some lo,some hi=>some (.own (cut xs lo hi))|.tup xs,some lo,some hi=>some (.val (.tup (cut xs lo hi)))|_,_,_=>none
noncomputable def cH:Ty->D->Bool|.int,.int _=>true|.int,.bl _=>true|.bool,.bl _=>true|.str,.str _=>true|.tuple,.tup _=>true|.list,.lst _=>true|.none,.non=>true|_,_=>false
noncomputable def wZ:D->Bool|.tup (x::xs)=>(x::xs).all fH|_=>false
noncomputable def sortable(ds:List D):Bool:=decide (ds.length<=16777216)&&(ds.all fH||ds.all wZ)
noncomputable def yw(ds:List D):List D:=ds.mergeSort fun a b=>!cQ (nD b) (nD a)
noncomputable def xZ:D->Option (List D)|.lst ds=>some ds|_=>none
noncomputable def blt:Yt->List D->Option R|.len,[x]=>(items x).map fun ds=>.val (.int ds.length)|.list,[x]=>(items x).map fun ds=>.own ds|.tuple,[x]=>(items x).map fun ds=>.val (.tup ds)|.max2,[.int i,.int j]=>some (.val (.int (if i<j then j else i)))|.vN,[x]=>((items x).bind fun ds=>ds.mapM iQ).bind fun ns=>ns.min?.map fun i=>.val (.int i)|.sum,[x]=>((items x).bind fun ds=>ds.mapM iQ).map fun ns=>.val (.int ns.sum)|.all,[x]=>((xZ x).bind fun ds=>ds.mapM tX).map fun bs=>.val (.bl (bs.all id))|.int,[.int i]=>some (.val (.int i))|.int,[.bl b]=>some (.val (.int (if b then 1 else 0)))|.J7,[.lst ds]=>some (.own ds.reverse)|.keys,[.cY (.k kvs)]=>some (.val (.tup (kvs.map fun p=>.int p.1)))|.keys,[.dv ks _]=>some (.val (.tup (ks.map D.int)))|.Tr,[.dv ks _]=>if ks.length<=16777216 then some (.own (ks.map D.int))else none|.Zj,[.lst ds]=>some (.val (.tup ds.reverse))|.mO,[.dv ks _]=>if ks.length<64 then some (.own (yw (ks.map D.int)))else none|_,_=>none
noncomputable def pk(ρ:List Sl)(i:Nat):Option D:=match ρ[i]?with|some (.val _ d)=>some d|some (.own _ ds)=>some (.lst ds)|some (.lent ds)=>some (.lst ds)|_=>none
noncomputable def BV(ρ:List Sl)(i:Nat):Option (List D):=match pk ρ i with|some (.lst ds)=>some ds|_=>none
noncomputable abbrev Ev:=List Sl->Res R
noncomputable def isVar:P->Option Nat|.var i=>some i|_=>none
noncomputable def cR(i:Option Nat)(e:Ev)(ρ:List Sl):Res D:=match i with|some i=>lift (pk ρ i) ρ|none=>(e ρ).bind fun r ρ=>.ok r.d ρ
noncomputable def ig(i:Option Nat)(e:Ev)(j:Option Nat)(f:Ev)(ρ:List Sl):Res (D×D):=match i with|some i=>(lift (pk ρ i) ρ).bind fun _ ρ=>(cR j f ρ).bind fun y ρ=>(lift (pk ρ i) ρ).bind fun x ρ=>.ok (x,y) ρ|none=>(cR none e ρ).bind fun x ρ=>(cR j f ρ).bind fun y ρ=>.ok (x,y) ρ
noncomputable def iu(e:Ev)(ρ:List Sl):Res Bool:=(e ρ).bind fun r ρ=>lift (tX r.d) ρ
inductive Arg where|dat(d:D)|tmp(ds:List D)|eX(i:Nat)
noncomputable def uC:R->Arg|.val d=>.dat d|.own ds=>.tmp ds
noncomputable def bO(ρ:List Sl):List Arg->List Nat->Option (List Sl)|[],_=>some []|.dat d::r,used=>(bO ρ r used).map fun s=>.val false d::s|.tmp ds::r,used=>(bO ρ r used).map fun s=>.own false ds::s|.eX i::r,used=>match ρ[i]?with|some (.val _ d)=>(bO ρ r used).map fun s=>.val false d::s|some (.own _ ds)=>if used.contains i then none else(bO ρ r (i::used)).map fun s=>.own true ds::s|some (.lent ds)=>if used.contains i then none else(bO ρ r (i::used)).map fun s=>.lent ds::s|_=>none
noncomputable def aZ(i:Nat):List Arg->List Sl->Option Sl|.eX k::as,s::ss=>if k=i then some s else aZ i as ss|.dat _::as,_::ss=>aZ i as ss|.tmp _::as,_::ss=>aZ i as ss|_,_=>none
noncomputable def dM:Sl->Option Sl->Sl|.own b _,some (.own _ ds)=>.own b ds|.own b _,some (.val _ d)=>.val b d|s,_=>s
noncomputable def cO(as:List Arg)(ss:List Sl):Nat->List Sl->List Sl|_,[]=>[]|i,s::ρ=>dM s (aZ i as ss)::cO as ss (i+1) ρ
noncomputable abbrev Call:=Nat->List Sl->Res R
noncomputable def j6(c:Call)(f:Nat)(as:List Arg)(ρ:List Sl):Res R:=match bO ρ as []with|none=>.stuck|some args=>match c f args with|.ok r args'=>.ok r (cO as args' 0 ρ)|.exc _ _=>.stuck|.stuck=>.stuck
noncomputable def put(ρ:List Sl)(i:Nat)(s:Sl):Option (List Sl):=match ρ[i]?with|some .aP=>some (ρ.set i s)|some (.val false _)=>some (ρ.set i s)|some (.own false _)=>some (ρ.set i s)|_=>none
noncomputable def putAll(ρ:List Sl):List Nat->List D->Option (List Sl)|[],[]=>some ρ|i::is,d::ds=>(put ρ i (.val false d)).bind fun ρ=>putAll ρ is ds|_,_=>none
noncomputable def cu(ρ:List Sl)(is:List Nat)(one:Bool)(d:D):Option (List Sl):=match one,is,d with|true,[i],d=>put ρ i (.val false d)|false,is,.tup ds=>putAll ρ is ds|_,_,_=>none
noncomputable def srcOf(i:Option Nat)(e:Ev)(ρ:List Sl):Res (List D):=match i with
 |some i=>match ρ[i]?with|some (.val _ d)=>lift (items d) ρ|some (.own _ ds)=>.ok ds (ρ.set i (.lent ds))|some (.lent ds)=>.ok ds ρ|_=>.stuck
 |none=>(e ρ).bind fun r ρ=>lift (items r.d) ρ
noncomputable def aW(ρ₀:List Sl)(i:Option Nat)(ρ:List Sl):List Sl:=match i with
 |some i=>match ρ₀[i]?with|some (.own b ds)=>ρ.set i (.own b ds)|_=>ρ
 |none=>ρ
noncomputable def srcZ(i:Nat)(f:Ev)(ρ:List Sl):Res (List D×List Sl):=(lift (pk ρ i) ρ).bind fun _ ρ=>(f ρ).bind fun r ρb=>(lift (items r.d) ρb).bind fun es ρb=>match ρb[i]?with|some (.val _ d)=>(lift (items d) ρb).bind fun ds ρb=>.ok ((ds.zip es).map fun p=>D.tup [p.1,p.2],ρb) ρb|some (.own _ ds)=>.ok ((ds.zip es).map fun p=>D.tup [p.1,p.2],ρb) (ρb.set i (.lent ds))|some (.lent ds)=>.ok ((ds.zip es).map fun p=>D.tup [p.1,p.2],ρb) ρb|_=>.stuck
noncomputable def Ge(i:Nat)(f:Ev)(ρ:List Sl):Res (List D×List Sl):=(f ρ).bind fun r ρb=>(lift (items r.d) ρb).bind fun es ρb=>match ρb[i]?with|some (.val _ d)=>(lift (items d) ρb).bind fun ds ρb=>.ok ((es.zip ds).map fun p=>D.tup [p.1,p.2],ρb) ρb|some (.own _ ds)=>.ok ((es.zip ds).map fun p=>D.tup [p.1,p.2],ρb) (ρb.set i (.lent ds))|some (.lent ds)=>.ok ((es.zip ds).map fun p=>D.tup [p.1,p.2],ρb) ρb|_=>.stuck
noncomputable def turns(is:List Nat)(one:Bool)(test:List Sl->Res Bool)(elt:Ev):List D->List D->List Sl->Res (List D)|[],acc,ρ=>.ok acc ρ|d::r,acc,ρ=>match cu ρ is one d with|none=>.stuck|some ρ=>(test ρ).bind fun b ρ=>if b then(elt ρ).bind fun x ρ=>turns is one test elt r (acc++[x.d]) ρ else turns is one test elt r acc ρ
mutual
noncomputable def ev(c:Call):P->List Sl->Res R
 |.var i,ρ=>match ρ[i]?with|some (.val _ d)=>.ok (.val d) ρ|some (.own b ds)=>.ok (.val (.lst ds)) (ρ.set i (.val b (.lst ds)))|some (.qx (.k kvs))=>.ok (.val (.cY (.k kvs))) (ρ.set i (.val false (.cY (.k kvs))))|some (.cV kvs)=>.ok (.val (.dv (kvs.map (·.1)) (kvs.map (·.2)))) (ρ.set i (.val false (.dv (kvs.map (·.1)) (kvs.map (·.2)))))|_=>.stuck
 |.con d,ρ=>.ok (.val d) ρ|.bin o a b,ρ=>(ig (isVar a) (ev c a) (isVar b) (ev c b) ρ).bind fun xy ρ=>lift (qm o xy.1 xy.2) ρ|.neg a,ρ=>(cR (isVar a) (ev c a) ρ).bind fun x ρ=>lift (Ce x) ρ|.not a,ρ=>(iu (ev c a) ρ).bind fun b ρ=>.ok (.val (.bl (!b))) ρ|.and a b,ρ=>(iu (ev c a) ρ).bind fun x ρ=>if x then(iu (ev c b) ρ).bind fun y ρ=>.ok (.val (.bl y)) ρ else .ok (.val (.bl false)) ρ|.or a b,ρ=>(iu (ev c a) ρ).bind fun x ρ=>if x then .ok (.val (.bl true)) ρ else(iu (ev c b) ρ).bind fun y ρ=>.ok (.val (.bl y)) ρ|.cmp o a b,ρ=>(ig (isVar a) (ev c a) (isVar b) (ev c b) ρ).bind fun xy ρ=>lift (mL o xy.1 xy.2) ρ|.chain o o' a b d,ρ=>(ig (isVar a) (ev c a) (isVar b) (ev c b) ρ).bind fun xy ρ=>(lift (if flat xy.2=true then cm o xy.1 xy.2 else none) ρ).bind fun k ρ=>if k then(cR (isVar d) (ev c d) ρ).bind fun z ρ=>lift (mL o' xy.2 z) ρ else .ok (.val (.bl false)) ρ|.LC t a b,ρ=>(iu (ev c t) ρ).bind fun k ρ=>if k then(ev c a ρ).bind fun r ρ=>.ok (.val r.d) ρ else(ev c b ρ).bind fun r ρ=>.ok (.val r.d) ρ|.tup as,ρ=>(evs c as ρ).bind fun ds ρ=>.ok (.val (.tup ds)) ρ|.lst as,ρ=>(evs c as ρ).bind fun ds ρ=>.ok (.own ds) ρ|.idx a i,ρ=>(ig (isVar a) (ev c a) (isVar i) (ev c i) ρ).bind fun xy ρ=>lift (Aa xy.1 xy.2) ρ|.slice a l h,ρ=>match isVar a with|some i=>(lift (pk ρ i) ρ).bind fun _ ρ=>(cR (isVar l) (ev c l) ρ).bind fun y ρ=>(cR (isVar h) (ev c h) ρ).bind fun z ρ=>(lift (pk ρ i) ρ).bind fun x ρ=>lift (Oz x (part l y) (part h z)) ρ|none=>(cR none (ev c a) ρ).bind fun x ρ=>(cR (isVar l) (ev c l) ρ).bind fun y ρ=>(cR (isVar h) (ev c h) ρ).bind fun z ρ=>lift (Oz x (part l y) (part h z)) ρ
 |.call f as,ρ=>(vY c as ρ).bind fun xs ρ=>j6 c f xs ρ|.blt b [a],ρ=>(cR (isVar a) (ev c a) ρ).bind fun x ρ=>lift (blt b [x]) ρ|.blt b as,ρ=>(evs c as ρ).bind fun ds ρ=>lift (blt b ds) ρ|.inst ts a,ρ=>(cR (isVar a) (ev c a) ρ).bind fun x ρ=>.ok (.val (.bl (ts.any fun t=>cH t x))) ρ|.comp src n is one test elt,ρ=>(srcOf (isVar src) (ev c src) ρ).bind fun ds ρ₁=>if ds.length<=lim then(turns is one (kO c test) (ev c elt) ds [] (ρ₁++replicate n .aP)).bind fun xs ρ₂=>.ok (.own xs) (aW ρ (isVar src) (ρ₂.take ρ₁.length))else .stuck|.tZ a b,ρ=>(ig (isVar a) (ev c a) (isVar b) (ev c b) ρ).bind fun xy ρ=>lift ((iQ xy.1).bind fun i=>(iQ xy.2).bind fun j=>if-1000000<=i/\i<=1000000000/\j<=1000000000/\-1000000000<=j then some (.val (.lst ((List.range (j-i).toNat).map fun(k:Nat)=>D.int (i+(k:Int)))))else none) ρ|.Tt a,ρ=>(ev c a ρ).bind fun r ρ=>lift ((items r.d).map fun ds=>.val (.lst (ds.mapIdx fun i d=>D.tup [.int (i:Int),d]))) ρ|.zip a b,ρ=>(ev c a ρ).bind fun x ρ=>(ev c b ρ).bind fun y ρ=>lift ((items x.d).bind fun ds=>(items y.d).map fun es=>.val (.lst ((ds.zip es).map fun p=>D.tup [p.1,p.2]))) ρ|.vw x,ρ=>match ρ[x]?with|some (.qx m)=>.ok (.val (.cY m)) (ρ.set x (.val false (.cY m)))|some (.cV kvs)=>.ok (.val (.dv (kvs.map (·.1)) (kvs.map (·.2)))) (ρ.set x (.val false (.dv (kvs.map (·.1)) (kvs.map (·.2)))))|_=>.stuck
 |.LK x k,ρ=>match ρ[x]?with
   |some (.cV _)=>(cR (isVar k) (ev c k) ρ).bind fun kd ρ=>match ρ[x]?with|some (.cV kvs)=>lift ((iQ kd).bind fun k=>(mz kvs k).map .val) ρ|_=>.stuck
   |_=>.stuck
 |.LQ x k neg,ρ=>(cR (isVar k) (ev c k) ρ).bind fun kd ρ=>match ρ[x]?with|some (.cV kvs)=>lift ((iQ kd).map fun k=>.val (.bl (if neg then !(kvs.map (·.1)).contains k else(kvs.map (·.1)).contains k))) ρ|_=>.stuck
 |.vO k e,ρ=>.ok (.val (.dv [k] [.int e])) ρ|.vP i a n is one test elt,ρ=>(Ge i (ev c a) ρ).bind fun du ρ₁=>if du.1.length<=lim then(turns is one (kO c test) (ev c elt) du.1 [] (ρ₁++replicate n .aP)).bind fun xs ρ₂=>.ok (.own xs) (aW du.2 (some i) (ρ₂.take ρ₁.length))else .stuck
noncomputable def evs(c:Call):List P->List Sl->Res (List D)|[],ρ=>.ok [] ρ|a::r,ρ=>(ev c a ρ).bind fun x ρ=>(evs c r ρ).bind fun xs ρ=>.ok (x.d::xs) ρ
noncomputable def vY(c:Call):List P->List Sl->Res (List Arg)|[],ρ=>.ok [] ρ|a::r,ρ=>match isVar a with|some i=>(lift (pk ρ i) ρ).bind fun _ ρ=>(vY c r ρ).bind fun xs ρ=>.ok (.eX i::xs) ρ|none=>(ev c a ρ).bind fun x ρ=>(vY c r ρ).bind fun xs ρ=>.ok (uC x::xs) ρ
noncomputable def kO(c:Call):Option P->List Sl->Res Bool|none,ρ=>.ok true ρ|some t,ρ=>iu (ev c t) ρ
end
theorem E1{c i ρ}:ev c (.var i) ρ=match ρ[i]?with|some (.val _ d)=>.ok (.val d) ρ|some (.own b ds)=>.ok (.val (.lst ds)) (ρ.set i (.val b (.lst ds)))|some (.qx (.k kvs))=>.ok (.val (.cY (.k kvs))) (ρ.set i (.val false (.cY (.k kvs))))|some (.cV kvs)=>.ok (.val (.dv (kvs.map (·.1)) (kvs.map (·.2)))) (ρ.set i (.val false (.dv (kvs.map (·.1)) (kvs.map (·.2)))))|_=>.stuck:=(rfl)
theorem E2{c d ρ}:ev c (.con d) ρ=.ok (.val d) ρ:=(rfl)
theorem E3{c o a b ρ}:ev c (.bin o a b) ρ=(ig (isVar a) (ev c a) (isVar b) (ev c b) ρ).bind fun xy ρ=>lift (qm o xy.1 xy.2) ρ:=(rfl)
theorem E4{c a ρ}:ev c (.neg a) ρ=(cR (isVar a) (ev c a) ρ).bind fun x ρ=>lift (Ce x) ρ:=(rfl)
theorem E5{c a ρ}:ev c (.not a) ρ=(iu (ev c a) ρ).bind fun b ρ=>.ok (.val (.bl (!b))) ρ:=(rfl)
theorem E6{c a b ρ}:ev c (.and a b) ρ=(iu (ev c a) ρ).bind fun x ρ=>if x then(iu (ev c b) ρ).bind fun y ρ=>.ok (.val (.bl y)) ρ else .ok (.val (.bl false)) ρ:=(rfl)
theorem E7{c a b ρ}:ev c (.or a b) ρ=(iu (ev c a) ρ).bind fun x ρ=>if x then .ok (.val (.bl true)) ρ else(iu (ev c b) ρ).bind fun y ρ=>.ok (.val (.bl y)) ρ:=(rfl)
theorem E8{c o a b ρ}:ev c (.cmp o a b) ρ=(ig (isVar a) (ev c a) (isVar b) (ev c b) ρ).bind fun xy ρ=>lift (mL o xy.1 xy.2) ρ:=(rfl)
theorem E9{c o o' a b d ρ}:ev c (.chain o o' a b d) ρ=(ig (isVar a) (ev c a) (isVar b) (ev c b) ρ).bind fun xy ρ=>(lift (if flat xy.2=true then cm o xy.1 xy.2 else none) ρ).bind fun k ρ=>if k then(cR (isVar d) (ev c d) ρ).bind fun z ρ=>lift (mL o' xy.2 z) ρ else .ok (.val (.bl false)) ρ:=(rfl)
theorem E10{c t a b ρ}:ev c (.LC t a b) ρ=(iu (ev c t) ρ).bind fun k ρ=>if k then(ev c a ρ).bind fun r ρ=>.ok (.val r.d) ρ else(ev c b ρ).bind fun r ρ=>.ok (.val r.d) ρ:=(rfl)
theorem E11{c as ρ}:ev c (.tup as) ρ=(evs c as ρ).bind fun ds ρ=>.ok (.val (.tup ds)) ρ:=(rfl)
theorem E12{c as ρ}:ev c (.lst as) ρ=(evs c as ρ).bind fun ds ρ=>.ok (.own ds) ρ:=(rfl)
theorem E13{c a i ρ}:ev c (.idx a i) ρ=(ig (isVar a) (ev c a) (isVar i) (ev c i) ρ).bind fun xy ρ=>lift (Aa xy.1 xy.2) ρ:=(rfl)
theorem E14{c a l h ρ}:ev c (.slice a l h) ρ=match isVar a with|some i=>(lift (pk ρ i) ρ).bind fun _ ρ=>(cR (isVar l) (ev c l) ρ).bind fun y ρ=>(cR (isVar h) (ev c h) ρ).bind fun z ρ=>(lift (pk ρ i) ρ).bind fun x ρ=>lift (Oz x (part l y) (part h z)) ρ|none=>(cR none (ev c a) ρ).bind fun x ρ=>(cR (isVar l) (ev c l) ρ).bind fun y ρ=>(cR (isVar h) (ev c h) ρ).bind fun z ρ=>lift (Oz x (part l y) (part h z)) ρ:=(rfl)
theorem E15{c f as ρ}:ev c (.call f as) ρ=(vY c as ρ).bind fun xs ρ=>j6 c f xs ρ:=(rfl)
theorem E16{c b a ρ}:ev c (.blt b [a]) ρ=(cR (isVar a) (ev c a) ρ).bind fun x ρ=>lift (blt b [x]) ρ:=(rfl)
theorem E17{c b x y r ρ}:ev c (.blt b (x::y::r)) ρ=(evs c (x::y::r) ρ).bind fun ds ρ=>lift (blt b ds) ρ:=(rfl)
theorem T9{c b ρ}:ev c (.blt b []) ρ=(evs c [] ρ).bind fun ds ρ=>lift (blt b ds) ρ:=(rfl)
theorem E18{c ts a ρ}:ev c (.inst ts a) ρ=(cR (isVar a) (ev c a) ρ).bind fun x ρ=>.ok (.val (.bl (ts.any fun t=>cH t x))) ρ:=(rfl)
theorem E19{c src n is one test elt ρ}:ev c (.comp src n is one test elt) ρ=(srcOf (isVar src) (ev c src) ρ).bind fun ds ρ₁=>if ds.length<=lim then(turns is one (kO c test) (ev c elt) ds [] (ρ₁++replicate n .aP)).bind fun xs ρ₂=>.ok (.own xs) (aW ρ (isVar src) (ρ₂.take ρ₁.length))else .stuck:=(rfl)
theorem E20{c a b ρ}:ev c (.tZ a b) ρ=(ig (isVar a) (ev c a) (isVar b) (ev c b) ρ).bind fun xy ρ=>lift ((iQ xy.1).bind fun i=>(iQ xy.2).bind fun j=>if-1000000<=i/\i<=1000000000/\j<=1000000000/\-1000000000<=j then some (.val (.lst ((List.range (j-i).toNat).map fun(k:Nat)=>D.int (i+(k:Int)))))else none) ρ:=(rfl)
theorem E21{c a ρ}:ev c (.Tt a) ρ=(ev c a ρ).bind fun r ρ=>lift ((items r.d).map fun ds=>.val (.lst (ds.mapIdx fun i d=>D.tup [.int (i:Int),d]))) ρ:=(rfl)
theorem E22{c a b ρ}:ev c (.zip a b) ρ=(ev c a ρ).bind fun x ρ=>(ev c b ρ).bind fun y ρ=>lift ((items x.d).bind fun ds=>(items y.d).map fun es=>.val (.lst ((ds.zip es).map fun p=>D.tup [p.1,p.2]))) ρ:=(rfl)
theorem E23{c x ρ}:ev c (.vw x) ρ=match ρ[x]?with|some (.qx m)=>.ok (.val (.cY m)) (ρ.set x (.val false (.cY m)))|some (.cV kvs)=>.ok (.val (.dv (kvs.map (·.1)) (kvs.map (·.2)))) (ρ.set x (.val false (.dv (kvs.map (·.1)) (kvs.map (·.2)))))|_=>.stuck:=(rfl)
theorem E24{c x k ρ}:ev c (.LK x k) ρ=match ρ[x]?with
 |some (.cV _)=>(cR (isVar k) (ev c k) ρ).bind fun kd ρ=>match ρ[x]?with|some (.cV kvs)=>lift ((iQ kd).bind fun k=>(mz kvs k).map .val) ρ|_=>.stuck
 |_=>.stuck:=(rfl)
theorem E25{c x k neg ρ}:ev c (.LQ x k neg) ρ=(cR (isVar k) (ev c k) ρ).bind fun kd ρ=>match ρ[x]?with|some (.cV kvs)=>lift ((iQ kd).map fun k=>.val (.bl (if neg then !(kvs.map (·.1)).contains k else(kvs.map (·.1)).contains k))) ρ|_=>.stuck:=(rfl)
theorem E26{c k e ρ}:ev c (.vO k e) ρ=.ok (.val (.dv [k] [.int e])) ρ:=(rfl)
theorem E27{c i a n is one test elt ρ}:ev c (.vP i a n is one test elt) ρ=(Ge i (ev c a) ρ).bind fun du ρ₁=>if du.1.length<=lim then(turns is one (kO c test) (ev c elt) du.1 [] (ρ₁++replicate n .aP)).bind fun xs ρ₂=>.ok (.own xs) (aW du.2 (some i) (ρ₂.take ρ₁.length))else .stuck:=(rfl)
inductive S where|pass|brk|cont|bad|expr(e:P)|asg(i:Nat)(e:P)|par(i j:Nat)(a b:P)|Zk(i:List Nat)(e:P)|p7(x:Nat)(i e:P)|app(x:Nat)(e:P)|ret(e:P)|WD|ifs(c:P)(a b:List S)|fJ(src:P)(i:List Nat)(one:Bool)(body:List S)|whl(c:P)(body:List S)|aug(x:Nat)(sub:Bool)(e:P)|Bu(x:Nat)(i:P)(sub:Bool)(e:P)|GF(x:Nat)(src:P)(k:Nat)(is:List Nat)(one:Bool)(elt:P)|GJ(x:Nat)(i e:P)|Bv(src:P)(is:List Nat)(one:Bool)(body:List S)|cW(x:Nat)|Bw(x:Nat)|jn(x:Nat)(k e:P)deriving Inhabited
inductive Fl where|next|brk|cont|ret(r:R)deriving Inhabited
noncomputable def wM:R->Sl|.val d=>.val false d|.own ds=>.own false ds
noncomputable def gW(is:List Nat)(one:Bool)(body:List Sl->Res Fl):List D->List Sl->Res Fl|[],ρ=>.ok .next ρ|d::r,ρ=>match cu ρ is one d with|none=>.stuck|some ρ=>(body ρ).bind fun fl ρ=>match fl with|.next=>gW is one body r ρ|.cont=>gW is one body r ρ|.brk=>.ok .next ρ|.ret r=>.ok (.ret r) ρ
noncomputable def TY(x:Nat)(body:List Sl->Res Fl):List (List D)->List Sl->Res Fl|[],ρ=>.ok .next ρ|ds::r,ρ=>match put ρ x (.own false ds)with|none=>.stuck|some ρ=>(body ρ).bind fun fl ρ=>match fl with|.next=>TY x body r ρ|.cont=>TY x body r ρ|.brk=>.ok .next ρ|.ret r=>.ok (.ret r) ρ
noncomputable def qw(test:List Sl->Res Bool)(body:List Sl->Res Fl):Nat->List Sl->Res Fl|0,_=>.stuck|n+1,ρ=>(test ρ).bind fun b ρ=>if b then(body ρ).bind fun fl ρ=>match fl with|.next=>qw test body n ρ|.cont=>qw test body n ρ|.brk=>.ok .next ρ|.ret r=>.ok (.ret r) ρ else .ok .next ρ
noncomputable def eY(is:List Nat)(one:Bool)(elt:Ev):List D->List (List D)->List Sl->Res (List (List D))|[],acc,ρ=>.ok acc ρ|d::r,acc,ρ=>match cu ρ is one d with|none=>.stuck|some ρ=>(elt ρ).bind fun x ρ=>match x with|.own ds=>eY is one elt r (acc++[ds]) ρ|.val _=>.stuck
noncomputable def rowAt(rows:List (List D))(k:Int):Option (List D):=(gq rows.length k).bind fun r=>rows[r]?
noncomputable def jm(rows:List (List D))(k:Int)(f:List D->Option (List D)):Option (List (List D)):=(gq rows.length k).bind fun r=>(rows[r]?).bind fun row=>(f row).map fun jJ=>rows.set r jJ
noncomputable def setAt(l:Int)(d:D)(row:List D):Option (List D):=(gq row.length l).map fun m=>row.set m d
noncomputable def iJ(ρ:List Sl)(x:Nat):Option (List (List D)):=match ρ[x]?with|some (.hold rows)=>some rows|_=>none
noncomputable def sy(ρ:List Sl)(x:Nat)(k:D):Option (List D):=(iJ ρ x).bind fun rows=>(iQ k).bind fun k=>rowAt rows k
noncomputable def rH(ρ:List Sl)(x:Nat)(o:Option (List (List D))):Res Fl:=match o with|some rows=>.ok .next (ρ.set x (.hold rows))|none=>.stuck
noncomputable def rowOne(x r:Nat)(ej ek el:List Sl->Res D)(ρ:List Sl):Res Fl:=(ek ρ).bind fun k ρ=>(lift ((iJ ρ x).bind fun rows=>(rows[r]?).bind fun row=>(iQ k).bind fun k=>(at' row k).bind iQ) ρ).bind fun u ρ=>(el ρ).bind fun l ρ=>(lift ((iJ ρ x).bind fun rows=>(rows[r]?).bind fun row=>(iQ l).bind fun l=>(at' row l).bind iQ) ρ).bind fun v ρ=>(ej ρ).bind fun j ρ=>rH ρ x ((iJ ρ x).bind fun rows=>(rows[r]?).bind fun row=>(iQ j).bind fun j=>(setAt j (.int (u+v)) row).map fun jJ=>rows.set r jJ)
noncomputable def O2(x y:Nat)(ej ek el:List Sl->Res D):Nat->Nat->List Sl->Res Fl|0,_,ρ=>.ok .next ρ|m+1,r,ρ=>(lift (put ρ y .aP) ρ).bind fun ρ _=>(rowOne x r ej ek el ρ).bind fun _ ρ=>O2 x y ej ek el m (r+1) ρ
noncomputable def hide(Ze:List Nat)(x:Nat)(d:D):Nat->List Sl->List Sl|_,[]=>[]|i,s::ρ=>(if i=x then .val true d else if Ze.contains i=true then(match s with|.val _ d=>.val true d|_=>.aP)else .aP)::hide Ze x d (i+1) ρ
noncomputable def O6(is:List Nat)(one:Bool)(body:List Sl->Res Fl)(bx:List Sl->Option (Nat×List Sl)):List D->List Sl->Option (Nat×List Sl)|[],_=>none|d::r,ρ=>match cu ρ is one d with|none=>none|some ρ=>match bx ρ with|some x=>some x|none=>match body ρ with|.ok .next ρ1=>O6 is one body bx r ρ1|.ok .cont ρ1=>O6 is one body bx r ρ1|_=>none
noncomputable def QK:P->P|.idx a _=>a|e=>e
noncomputable def unl:Sl->Bool|.aP=>true|.val b _=>!b|.own b _=>!b|.lent _=>false|.qx _=>true|.hold _=>false|.cV _=>true
noncomputable def Lp(c:Call)(e:P)(ρ:List Sl):Option (Nat×List Sl):=match QK e with
 |.call f as=>match vY c as ρ with
   |.ok xs ρ1=>match bO ρ1 xs []with
     |some args=>match c f args with|.exc k args'=>some (k,cO xs args' 0 ρ1)|_=>none
     |none=>none
   |_=>none
 |_=>none
mutual
noncomputable def ex(c:Call)(n:Nat):S->List Sl->Res Fl
 |.pass,ρ=>.ok .next ρ|.brk,ρ=>.ok .brk ρ|.cont,ρ=>.ok .cont ρ|.bad,_=>.stuck|.expr e,ρ=>(ev c e ρ).bind fun _ ρ=>.ok .next ρ|.asg i e,ρ=>(ev c e ρ).bind fun r ρ=>(lift (put ρ i (wM r)) ρ).bind fun ρ' _=>.ok .next ρ'|.par i j a b,ρ=>(ev c a ρ).bind fun x ρ=>(ev c b ρ).bind fun y ρ=>(lift ((put ρ i (.val false x.d)).bind fun ρ=>put ρ j (.val false y.d)) ρ).bind fun ρ' _=>.ok .next ρ'|.Zk is e,ρ=>(ev c e ρ).bind fun r ρ=>match r.d with|.tup ds=>(lift (putAll ρ is ds) ρ).bind fun ρ' _=>.ok .next ρ'|_=>.stuck
 |.p7 x i e,ρ=>(ev c e ρ).bind fun r ρ=>(lift (pk ρ x) ρ).bind fun _ ρ=>(cR (isVar i) (ev c i) ρ).bind fun k ρ=>match ρ[x]?,k with
   |some (.own b ds),.int k=>match gq ds.length k with|some j=>.ok .next (ρ.set x (.own b (ds.set j r.d)))|none=>.stuck
   |_,_=>.stuck
 |.app x e,ρ=>(lift (BV ρ x) ρ).bind fun _ ρ=>(ev c e ρ).bind fun r ρ=>match ρ[x]?with|some (.own b ds)=>if ds.length<lim then .ok .next (ρ.set x (.own b (ds++[r.d])))else .stuck|_=>.stuck
 |.ret e,ρ=>match isVar e with
   |some i=>match ρ[i]?with|some (.own false ds)=>.ok (.ret (.own ds)) (ρ.set i .aP)|_=>(ev c e ρ).bind fun r ρ=>.ok (.ret r) ρ
   |none=>(ev c e ρ).bind fun r ρ=>.ok (.ret r) ρ
 |.WD,ρ=>.ok (.ret (.val .non)) ρ|.ifs t a b,ρ=>(iu (ev c t) ρ).bind fun k ρ=>if k then gf c n a ρ else gf c n b ρ|.fJ src is one body,ρ=>(srcOf (isVar src) (ev c src) ρ).bind fun ds ρ₁=>(gW is one (gf c n body) ds ρ₁).bind fun fl ρ₂=>.ok fl (aW ρ (isVar src) ρ₂)|.whl t body,ρ=>qw (iu (ev c t)) (gf c n body) n ρ|.aug x sub e,ρ=>(lift (pk ρ x) ρ).bind fun a ρ=>(cR (isVar e) (ev c e) ρ).bind fun b ρ=>match a,b with|.int i,.int j=>(lift (put ρ x (.val false (.int (if sub then i-j else i+j)))) ρ).bind fun ρ' _=>.ok .next ρ'|_,_=>.stuck
 |.Bu x i sub e,ρ=>(lift (BV ρ x) ρ).bind fun _ ρ=>(cR (isVar i) (ev c i) ρ).bind fun k ρ=>(lift (BV ρ x) ρ).bind fun l ρ=>(lift ((iQ k).bind fun i=>at' l i) ρ).bind fun a ρ=>(cR (isVar e) (ev c e) ρ).bind fun b ρ=>match a,b,ρ[x]?,k with
   |.int u,.int v,some (.own bb ds),.int k=>match gq ds.length k with|some j=>.ok .next (ρ.set x (.own bb (ds.set j (.int (if sub then u-v else u+v)))))|none=>.stuck
   |_,_,_,_=>.stuck
 |.GF x src k is one elt,ρ=>(srcOf (isVar src) (ev c src) ρ).bind fun ds ρ₁=>if ds.length<=lim then(eY is one (ev c elt) ds [] (ρ₁++replicate k .aP)).bind fun rows ρ₂=>(lift (put (aW ρ (isVar src) (ρ₂.take ρ₁.length)) x (.hold rows)) ρ).bind fun ρ' _=>.ok .next ρ' else .stuck|.GJ x i e,ρ=>(cR (isVar i) (ev c i) ρ).bind fun k ρ=>(lift (sy ρ x k) ρ).bind fun _ ρ=>(ev c e ρ).bind fun r ρ=>rH ρ x ((iJ ρ x).bind fun rows=>(iQ k).bind fun k=>jm rows k fun row=>if row.length<lim then some (row++[r.d])else none)|.Bv src is one body,ρ=>(ev c src ρ).bind fun r ρ₁=>(lift (items r.d) ρ₁).bind fun ds ρ₁=>gW is one (gf c n body) ds ρ₁|.cW x,ρ=>match ρ[x]?with|some (.hold rows)=>.ok .next (ρ.set x (.val false (.lst (rows.map D.lst))))|_=>.stuck
 |.Bw x,ρ=>match ρ[x]?with|some .aP=>.ok .next (ρ.set x (.cV []))|some (.cV _)=>.ok .next (ρ.set x (.cV []))|some (.val false _)=>.ok .next (ρ.set x (.cV []))|_=>.stuck
 |.jn x k e,ρ=>(ev c e ρ).bind fun r ρ=>match ρ[x]?with
   |some (.cV _)=>(cR (isVar k) (ev c k) ρ).bind fun kd ρ=>match ρ[x]?,kd with|some (.cV kvs),.int k=>if kvs.length<lim then .ok .next (ρ.set x (.cV (jn kvs k r.d)))else .stuck|_,_=>.stuck
   |_=>.stuck
noncomputable def gf(c:Call)(n:Nat):List S->List Sl->Res Fl|[],ρ=>.ok .next ρ|s::r,ρ=>(ex c n s ρ).bind fun fl ρ=>match fl with|.next=>gf c n r ρ|fl=>.ok fl ρ
noncomputable def exX(c:Call)(n:Nat):S->List Sl->Option (Nat×List Sl)
 |.ifs t a b,ρ=>match iu (ev c t) ρ with|.ok x ρ1=>if x then Et c n a ρ1 else Et c n b ρ1|_=>none
 |.fJ src is one body,ρ=>match srcOf (isVar src) (ev c src) ρ with|.ok ds ρ1=>(O6 is one (gf c n body) (Et c n body) ds ρ1).map fun x=>(x.1,aW ρ (isVar src) x.2)|_=>none
 |.asg _ e,ρ=>Lp c e ρ|.expr e,ρ=>Lp c e ρ|_,_=>none
noncomputable def Et(c:Call)(n:Nat):List S->List Sl->Option (Nat×List Sl)|[],_=>none|s::r,ρ=>match exX c n s ρ with|some x=>some x|none=>match ex c n s ρ with|.ok .next ρ1=>Et c n r ρ1|_=>none
end
theorem X1{c n ρ}:ex c n (.pass) ρ=.ok .next ρ:=(rfl)
theorem X2{c n ρ}:ex c n (.brk) ρ=.ok .brk ρ:=(rfl)
theorem X3{c n ρ}:ex c n (.cont) ρ=.ok .cont ρ:=(rfl)
theorem X4{c n ρ}:ex c n (.bad) ρ=.stuck:=(rfl)
theorem X5{c n e ρ}:ex c n (.expr e) ρ=(ev c e ρ).bind fun _ ρ=>.ok .next ρ:=(rfl)
theorem X6{c n i e ρ}:ex c n (.asg i e) ρ=(ev c e ρ).bind fun r ρ=>(lift (put ρ i (wM r)) ρ).bind fun ρ' _=>.ok .next ρ':=(rfl)
theorem X7{c n i j a b ρ}:ex c n (.par i j a b) ρ=(ev c a ρ).bind fun x ρ=>(ev c b ρ).bind fun y ρ=>(lift ((put ρ i (.val false x.d)).bind fun ρ=>put ρ j (.val false y.d)) ρ).bind fun ρ' _=>.ok .next ρ':=(rfl)
theorem X8{c n is e ρ}:ex c n (.Zk is e) ρ=(ev c e ρ).bind fun r ρ=>match r.d with|.tup ds=>(lift (putAll ρ is ds) ρ).bind fun ρ' _=>.ok .next ρ'|_=>.stuck:=(rfl)
theorem X9{c n x i e ρ}:ex c n (.p7 x i e) ρ=(ev c e ρ).bind fun r ρ=>(lift (pk ρ x) ρ).bind fun _ ρ=>(cR (isVar i) (ev c i) ρ).bind fun k ρ=>match ρ[x]?,k with
 |some (.own b ds),.int k=>match gq ds.length k with|some j=>.ok .next (ρ.set x (.own b (ds.set j r.d)))|none=>.stuck
 |_,_=>.stuck:=(rfl)
theorem X10{c n x e ρ}:ex c n (.app x e) ρ=(lift (BV ρ x) ρ).bind fun _ ρ=>(ev c e ρ).bind fun r ρ=>match ρ[x]?with|some (.own b ds)=>if ds.length<lim then .ok .next (ρ.set x (.own b (ds++[r.d])))else .stuck|_=>.stuck:=(rfl)
theorem Xn{c n e ρ}:ex c n (.ret e) ρ=match isVar e with
 |some i=>match ρ[i]?with|some (.own false ds)=>.ok (.ret (.own ds)) (ρ.set i .aP)|_=>(ev c e ρ).bind fun r ρ=>.ok (.ret r) ρ
 |none=>(ev c e ρ).bind fun r ρ=>.ok (.ret r) ρ:=(rfl)
theorem X12{c n ρ}:ex c n (.WD) ρ=.ok (.ret (.val .non)) ρ:=(rfl)
theorem Xw{c n t a b ρ}:ex c n (.ifs t a b) ρ=(iu (ev c t) ρ).bind fun k ρ=>if k then gf c n a ρ else gf c n b ρ:=(rfl)
theorem X14{c n src is one body ρ}:ex c n (.fJ src is one body) ρ=(srcOf (isVar src) (ev c src) ρ).bind fun ds ρ₁=>(gW is one (gf c n body) ds ρ₁).bind fun fl ρ₂=>.ok fl (aW ρ (isVar src) ρ₂):=(rfl)
theorem X15{c n t body ρ}:ex c n (.whl t body) ρ=qw (iu (ev c t)) (gf c n body) n ρ:=(rfl)
theorem X16{c n x sub e ρ}:ex c n (.aug x sub e) ρ=(lift (pk ρ x) ρ).bind fun a ρ=>(cR (isVar e) (ev c e) ρ).bind fun b ρ=>match a,b with|.int i,.int j=>(lift (put ρ x (.val false (.int (if sub then i-j else i+j)))) ρ).bind fun ρ' _=>.ok .next ρ'|_,_=>.stuck:=(rfl)
theorem X17{c n x i sub e ρ}:ex c n (.Bu x i sub e) ρ=(lift (BV ρ x) ρ).bind fun _ ρ=>(cR (isVar i) (ev c i) ρ).bind fun k ρ=>(lift (BV ρ x) ρ).bind fun l ρ=>(lift ((iQ k).bind fun i=>at' l i) ρ).bind fun a ρ=>(cR (isVar e) (ev c e) ρ).bind fun b ρ=>match a,b,ρ[x]?,k with
 |.int u,.int v,some (.own bb ds),.int k=>match gq ds.length k with|some j=>.ok .next (ρ.set x (.own bb (ds.set j (.int (if sub then u-v else u+v)))))|none=>.stuck
 |_,_,_,_=>.stuck:=(rfl)
theorem X18{c n x src k is one elt ρ}:ex c n (.GF x src k is one elt) ρ=(srcOf (isVar src) (ev c src) ρ).bind fun ds ρ₁=>if ds.length<=lim then(eY is one (ev c elt) ds [] (ρ₁++replicate k .aP)).bind fun rows ρ₂=>(lift (put (aW ρ (isVar src) (ρ₂.take ρ₁.length)) x (.hold rows)) ρ).bind fun ρ' _=>.ok .next ρ' else .stuck:=(rfl)
theorem X19{c n x i e ρ}:ex c n (.GJ x i e) ρ=(cR (isVar i) (ev c i) ρ).bind fun k ρ=>(lift (sy ρ x k) ρ).bind fun _ ρ=>(ev c e ρ).bind fun r ρ=>rH ρ x ((iJ ρ x).bind fun rows=>(iQ k).bind fun k=>jm rows k fun row=>if row.length<lim then some (row++[r.d])else none):=(rfl)
theorem X20{c n src is one body ρ}:ex c n (.Bv src is one body) ρ=(ev c src ρ).bind fun r ρ₁=>(lift (items r.d) ρ₁).bind fun ds ρ₁=>gW is one (gf c n body) ds ρ₁:=(rfl)
theorem X21{c n x ρ}:ex c n (.cW x) ρ=match ρ[x]?with|some (.hold rows)=>.ok .next (ρ.set x (.val false (.lst (rows.map D.lst))))|_=>.stuck:=(rfl)
theorem X22{c n x ρ}:ex c n (.Bw x) ρ=match ρ[x]?with|some .aP=>.ok .next (ρ.set x (.cV []))|some (.cV _)=>.ok .next (ρ.set x (.cV []))|some (.val false _)=>.ok .next (ρ.set x (.cV []))|_=>.stuck:=(rfl)
theorem X23{c n x k e ρ}:ex c n (.jn x k e) ρ=(ev c e ρ).bind fun r ρ=>match ρ[x]?with
 |some (.cV _)=>(cR (isVar k) (ev c k) ρ).bind fun kd ρ=>match ρ[x]?,kd with|some (.cV kvs),.int k=>if kvs.length<lim then .ok .next (ρ.set x (.cV (jn kvs k r.d)))else .stuck|_,_=>.stuck
 |_=>.stuck:=(rfl)
structure Fd where
 np:Nat
 nn:Nat
 body:List S deriving Inhabited
noncomputable abbrev Tab:=Nat->Option Fd
noncomputable def enter(c:Call)(n:Nat)(d:Fd)(args:List Sl):Res R:=if args.length=d.np/\d.np<=d.nn then match gf c n d.body (args++replicate (d.nn-d.np) .aP)with|.ok .next ρ=>.ok (.val .non) (ρ.take d.np)|.ok (.ret r) ρ=>.ok r (ρ.take d.np)|_=>match Et c n d.body (args++replicate (d.nn-d.np) .aP)with|some (k,ρ)=>.exc k (ρ.take d.np)|none=>.stuck else .stuck
noncomputable def run(Γ:Tab)(w:Nat):Nat->Call|0,_,_=>.stuck|n+1,f,args=>match Γ f with|some d=>enter (run Γ w n) w d args|none=>.stuck
end HH
end
section
namespace HH
open PySem L2
noncomputable def Dc.ho:Dc->HO|.k kvs=>.dK (kvs.map fun p=>(Sum.inl p.1,V.int p.2))|.t kvs=>.dT (kvs.map fun p=>(p.1.map Sum.inl,V.int p.2))
noncomputable def yu(ks:List Int)(vs:List V):HO:=.dK ((ks.zip vs).map fun p=>(Sum.inl p.1,p.2))
section
variable(K:PySem.W.Frag)
mutual
def Rep(F:Hp):V->D->Prop|v,.non=>v=.non|v,.bl b=>v=.bl b|v,.int i=>v=.int i|v,.str x=>v=.str x|v,.tup ds=>∃a xs,v=.ref a/\gO K F a xs/\aF F xs ds|v,.lst ds=>∃a xs,v=.ref a/\dq K F a xs/\aF F xs ds|v,.cY m=>∃a o,v=.ref a/\F a=some (.cW o m.ho)|v,.dv ks ds=>∃a o vs,v=.ref a/\F a=some (.cW o (yu ks vs))/\aF F vs ds/\ks.length=ds.length
def aF(F:Hp):List V->List D->Prop|vs,[]=>vs=[]|vs,d::ds=>∃v r,vs=v::r/\Rep F v d/\aF F r ds
end
end
section
variable{K:PySem.W.Frag}{F F' H H':Hp}
theorem aG.fW{a:Addr}{xs:List V}(e:aG H H')(h:gO K H a xs):gO K H' a xs:=by
 rcases h with(h|⟨o,h⟩)|h;.exact .inl (.inl (e _ _ h))
 .exact .inl (.inr ⟨o,e _ _ h⟩)
 .exact .inr h
mutual
theorem Rep.mono(e:aG F F'):∀{d:D}{v:V},Rep K F v d->Rep K F' v d|.non,_,h=>by rw[Rep]at h ⊢;exact h|.bl _,_,h=>by rw[Rep]at h ⊢;exact h|.int _,_,h=>by rw[Rep]at h ⊢;exact h|.str _,_,h=>by rw[Rep]at h ⊢;exact h|.tup ds,_,h=>by rw[Rep]at h ⊢;obtain⟨a,xs,rfl,hs,r⟩:=h;exact⟨a,xs,rfl,aG.fW e hs,aF.mono e r⟩|.lst ds,_,h=>by rw[Rep]at h ⊢;obtain⟨a,xs,rfl,hs,r⟩:=h;exact⟨a,xs,rfl,e.seq hs,aF.mono e r⟩|.cY m,_,h=>by rw[Rep]at h ⊢;obtain⟨a,o,rfl,hs⟩:=h;exact⟨a,o,rfl,e _ _ hs⟩|.dv ks ds,_,h=>by rw[Rep]at h ⊢;obtain⟨a,o,vs,rfl,hs,r,hl⟩:=h;exact⟨a,o,vs,rfl,e _ _ hs,aF.mono e r,hl⟩theorem aF.mono(e:aG F F'):∀{ds:List D}{vs:List V},aF K F vs ds->aF K F' vs ds|[],_,h=>by rw[aF]at h ⊢;exact h|d::ds,_,h=>by rw[aF]at h ⊢;obtain⟨v,r,rfl,h1,h2⟩:=h;exact⟨v,r,rfl,Rep.mono e h1,aF.mono e h2⟩end
theorem aF.nil:aF K F [] []:=by rw[aF]
theorem aF.cons{v:V}{d:D}{vs:List V}{ds:List D}(h:Rep K F v d)(t:aF K F vs ds):aF K F (v::vs) (d::ds):=by rw[aF];exact⟨v,vs,rfl,h,t⟩
theorem aF.cF{vs:List V}{d:D}{ds:List D}(h:aF K F vs (d::ds)):∃v r,vs=v::r/\Rep K F v d/\aF K F r ds:=by rw[aF]at h;exact h
theorem aF.fc{vs:List V}(h:aF K F vs []):vs=[]:=by rw[aF]at h;exact h
theorem aF.length:∀{ds:List D}{vs:List V},aF K F vs ds->vs.length=ds.length|[],_,h=>by rw[h.fc];rfl|d::ds,_,h=>by obtain⟨v,r,rfl,_,t⟩:=h.cF;simp[aF.length t]
theorem aF.get:∀{ds:List D}{vs:List V}{i:Nat}{d:D},aF K F vs ds->ds[i]?=some d->∃v,vs[i]?=some v/\Rep K F v d|[],_,_,_,h,e=>by simp at e|d::ds,_,0,_,h,e=>by obtain⟨v,r,rfl,h1,t⟩:=h.cF;simp at e;subst e;exact⟨v,rfl,h1⟩|d::ds,_,i+1,_,h,e=>by obtain⟨v,r,rfl,_,t⟩:=h.cF;simp at e;obtain⟨w,e1,e2⟩:=t.get e;exact⟨w,by simpa using e1,e2⟩
theorem aF.append:∀{ds es:List D}{vs us:List V},aF K F vs ds->aF K F us es->aF K F (vs++us) (ds++es)|[],_,_,_,h,h'=>by rw[h.fc];exact h'|d::ds,_,_,_,h,h'=>by obtain⟨v,r,rfl,h1,t⟩:=h.cF;exact .cons h1 (t.append h')
theorem aF.set{v:V}{d:D}(hr:Rep K F v d):∀{ds:List D}{vs:List V}(i:Nat),aF K F vs ds->aF K F (vs.set i v) (ds.set i d)|[],_,_,h=>by rw[h.fc];exact .nil|_::_,_,0,h=>by obtain⟨w,r,rfl,h1,t⟩:=h.cF;exact .cons hr t|_::_,_,i+1,h=>by obtain⟨w,r,rfl,h1,t⟩:=h.cF;exact .cons h1 (aF.set hr i t)
theorem aF.take:∀{ds:List D}{vs:List V}(n:Nat),aF K F vs ds->aF K F (vs.take n) (ds.take n)|[],_,n,h=>by rw[h.fc];simpa using aF.nil|_::_,_,0,h=>.nil|_::_,_,n+1,h=>by obtain⟨w,r,rfl,h1,t⟩:=h.cF;exact .cons h1 (t.take n)
theorem aF.drop:∀{ds:List D}{vs:List V}(n:Nat),aF K F vs ds->aF K F (vs.drop n) (ds.drop n)|[],_,n,h=>by rw[h.fc];simpa using aF.nil|_::_,_,0,h=>h|_::_,_,n+1,h=>by obtain⟨w,r,rfl,h1,t⟩:=h.cF;exact t.drop n
theorem aF.rep{ds:List D}{vs:List V}(h:aF K F vs ds):∀n,aF K F (replicate n vs).flatten (replicate n ds).flatten|0=>by simpa using aF.nil|n+1=>by simpa[replicate_succ]using h.append (aF.rep h n)
inductive Oc where|l(ds:List D)|d(m:Dc)|v(kvs:List (Int×D))
noncomputable def lst?:Sl->Option Oc|.own _ ds=>some (.l ds)|.lent ds=>some (.l ds)|.qx m=>some (.d m)|.cV kvs=>some (.v kvs)|_=>none
def jK(K:PySem.W.Frag)(F:Hp)(o:HO):Oc->Prop|.l ds=>∃xs,o=.lst xs/\aF K F xs ds|.d m=>o=m.ho|.v kvs=>∃vs,o=yu (kvs.map (·.1)) vs/\aF K F vs (kvs.map (·.2))
theorem jK.mono{o:HO}{x:Oc}(e:aG F F')(h:jK K F o x):jK K F' o x:=by cases x with|l ds=>obtain⟨xs,e1,h⟩:=h;exact⟨xs,e1,h.mono e⟩|d m=>exact h|v kvs=>obtain⟨xs,e1,h⟩:=h;exact⟨xs,e1,h.mono e⟩
def bB(ρ:List Sl)(σ:St)(i:Nat)(a:Addr):Prop:=(∃s ds,ρ[i]?=some s/\lst? s=some ds)/\σ[i]?=some (some (V.ref a))
def Own(ρ:List Sl)(σ:St)(a:Addr):Prop:=∃i,bB ρ σ i a
structure GS(K:PySem.W.Frag)(F:Hp)(ρ:List Sl)(σ:St)(H:Hp):Prop where
 sub:aG F H
 len:ρ.length=σ.length
 val:∀(i:Nat)(b:Bool)(d:D),ρ[i]?=some (Sl.val b d)->∃v:V,σ[i]?=some (some v)/\Rep K F v d
 own:∀(i:Nat)(s:Sl)(ds:Oc),ρ[i]?=some s->lst? s=some ds->∃(a:Addr)(xs:HO),σ[i]?=some (some (V.ref a))/\H a=some xs/\F a=none/\jK K F xs ds
 dis:∀(i j:Nat)(a:Addr),bB ρ σ i a->bB ρ σ j a->i=j
theorem GS.kh{ρ:List Sl}{σ:St}(g:GS K F ρ σ H)(i:Nat)(s:Sl)(ds:List D)(e:ρ[i]?=some s)(e':lst? s=some (.l ds)):∃(a:Addr)(xs:List V),σ[i]?=some (some (V.ref a))/\H a=some (.lst xs)/\F a=none/\aF K F xs ds:=by obtain⟨a,o,h1,h2,h3,xs,rfl,h4⟩:=g.own i s (.l ds) e e';exact⟨a,xs,h1,h2,h3,h4⟩
noncomputable def sU:Sl->Bool|.val b _=>b|.own b _=>b|.lent _=>true|.aP=>false|.qx _=>false|.cV _=>false|.hold _=>true
def lH:Sl->Sl->Prop|.val true d,s=>s=.val true d|.own true _,s=>(∃ds,s=.own true ds)\/∃d,s=.val true d|.lent ds,s=>s=.lent ds|.hold ds,s=>s=.hold ds|_,_=>True
theorem lH.refl(s:Sl):lH s s:=by unfold lH;split<;>first|rfl|exact .inl ⟨_,rfl⟩|trivial
theorem lH.sU{s s':Sl}(h:lH s s')(l:sU s=true):HH.sU s'=true:=by cases s with
 |aP=>cases l|qx _=>cases l|cV _=>cases l|val b d=>cases b with|true=>cases h;rfl|false=>cases l
 |own b d=>cases b with|true=>rcases h with⟨_,rfl⟩|⟨_,rfl⟩<;>rfl|false=>cases l
 |lent d=>cases h;rfl|hold d=>cases h;rfl
theorem lH.trans{s s' s'':Sl}(l:HH.sU s=true)(h:lH s s')(h':lH s' s''):lH s s'':=by cases s with
 |aP=>cases l|qx _=>cases l|cV _=>cases l|val b d=>cases b with|true=>cases h;exact h'|false=>cases l
 |own b d=>cases b with
   | true => rcases h with⟨_,rfl⟩|⟨d,rfl⟩;.exact h'
             .exact .inr ⟨d,h'⟩|false=>cases l
 |lent d=>cases h;exact h'|hold d=>cases h;exact h'
noncomputable def nt:Option HO->Option HO|some (.tup _)=>none|o=>o
theorem jE{o:Option HO}(h:o=none):nt o=none:=by rw[h];rfl
theorem Gd{H:Hp}{b:Addr}{xs:List V}(h:H b=some (.lst xs))(z:nt (H b)=none):False:=by rw[h]at z;cases z
theorem Ej{o:HO}{x:Oc}(h:jK K F o x)(z:nt (some o)=none):False:=by cases x with|l ds=>obtain⟨xs,rfl,_⟩:=h;cases z|d m=>cases m<;>(cases(show o=_ from h);cases z)|v kvs=>obtain⟨xs,rfl,_⟩:=h;cases z
structure aJ(K:PySem.W.Frag)(F:Hp)(ρ:List Sl)(σ:St)(H:Hp)(F':Hp)(ρ':List Sl)(σ':St)(H':Hp):Prop where
 gs:GS K F' ρ' σ' H'
 bU:aG F F'
 vQ:∀b,F b=none->F' b≠none->Own ρ σ b\/nt (H b)=none
 keep:∀b o,H b=some o->¬ Own ρ σ b->H' b=some o
 ur:∀b,Own ρ' σ' b->Own ρ σ b\/H b=none
 len:ρ'.length=ρ.length
 lk:∀(i:Nat)(s:Sl),ρ[i]?=some s->sU s=true->σ'[i]?=σ[i]?/\∃s',ρ'[i]?=some s'/\lH s s'
theorem aJ.refl{ρ:List Sl}{σ:St}(g:GS K F ρ σ H):aJ K F ρ σ H F ρ σ H:=⟨g,aG.refl _,fun b h h'=>absurd h h',fun _ _ h _=>h,fun _ h=>.inl h,rfl,fun i s h _=>⟨rfl,s,h,.refl s⟩⟩
theorem aJ.trans{F1 F2 H1 H2:Hp}{ρ ρ1 ρ2:List Sl}{σ σ1 σ2:St}(a:aJ K F ρ σ H F1 ρ1 σ1 H1)(b:aJ K F1 ρ1 σ1 H1 F2 ρ2 σ2 H2):aJ K F ρ σ H F2 ρ2 σ2 H2:=by
 have back:∀c,Own ρ1 σ1 c\/H1 c=none->Own ρ σ c\/H c=none:=fun c h=>by
  rcases h with h|h;.exact a.ur c h
  . by_cases ho:Own ρ σ c;.exact .inl ho
    .right;cases e:H c with|none=>rfl|some o=>rw[a.keep c o e ho]at h;cases h
 refine⟨b.gs,a.bU.trans b.bU,fun c h h'=>?_,fun c o h n=>?_,fun c h=>back c (b.ur c h),b.len.trans a.len,fun i s h l=>?_⟩
 . by_cases e:F1 c=none
   . by_cases ho:Own ρ σ c;.exact .inl ho
     . rcases b.vQ c e h' with z|z;.exact(back c (.inl z)).imp id jE
       .right;cases q:H c with|none=>rfl|some o=>rw[a.keep c o q ho]at z;exact z
   .exact a.vQ c h e
 . refine b.keep c o (a.keep c o h n) fun h'=>?_;rcases a.ur c h' with h'|h';.exact n h'
   .rw[h]at h';cases h'
 .obtain⟨e1,s1,h1,k1⟩:=a.lk i s h l;obtain⟨e2,s2,h2,k2⟩:=b.lk i s1 h1 (k1.sU l);exact⟨e2.trans e1,s2,h2,.trans l k1 k2⟩
def cU(K:PySem.W.Frag)(F H:Hp)(v:V)(d:D):Prop:=Rep K F v d\/∃a xs ds,v=.ref a/\H a=some (.lst xs)/\aF K F xs ds/\d=.lst ds
def cJ(K:PySem.W.Frag)(F':Hp)(ρ':List Sl)(σ':St)(H':Hp)(ρ:List Sl)(σ:St)(H:Hp)(v:V):R->Prop|.val d=>Rep K F' v d|.own ds=>∃a xs,v=.ref a/\H' a=some (.lst xs)/\F' a=none/\aF K F' xs ds/\¬ Own ρ' σ' a/\(Own ρ σ a\/H a=none)
theorem aG.dj{F:Hp}{a:Addr}{o:HO}(h:F a=none):aG F (upd F a o):=fun b u e=>by
 have:b≠a:=by rintro rfl;rw[h]at e;cases e
 rw[aC this];exact e
theorem aJ.cW{ρ ρ':List Sl}{σ σ':St}{v:V}{r:R}(s:aJ K F ρ σ H F' ρ' σ' H')(h:cJ K F' ρ' σ' H' ρ σ H v r):∃F'',aJ K F ρ σ H F'' ρ' σ' H'/\aG F' F''/\Rep K F'' v r.d:=by cases r with|val d=>exact⟨F',s,.refl _,h⟩|own ds=>
   obtain⟨a,xs,rfl,h1,h2,h3,h4,h5⟩:=h;have sm:aG F' (upd F' a (.lst xs)):=aG.dj h2;refine⟨upd F' a (.lst xs),⟨⟨fun b o e=>?_,s.gs.len,fun i b d e=>?_,fun i sl ds' e e'=>?_,s.gs.dis⟩,s.bU.trans sm,fun b n n'=>?_,s.keep,s.ur,s.len,s.lk⟩,sm,?_⟩
   . by_cases hb:b=a;.subst hb;rw[aV]at e;cases e;exact h1
     .rw[aC hb]at e;exact s.gs.sub b o e
   .obtain⟨v,e1,e2⟩:=s.gs.val i b d e;exact⟨v,e1,e2.mono sm⟩
   . obtain⟨b,ys,e1,e2,e3,e4⟩:=s.gs.own i sl ds' e e';have hb:b≠a:=by rintro rfl;exact h4 ⟨i,⟨sl,ds',e,e'⟩,e1⟩
     exact⟨b,ys,e1,e2,by rw[aC hb];exact e3,e4.mono sm⟩
   . by_cases hb:b=a;.subst hb;exact h5.imp id jE
     .rw[aC hb]at n';exact s.vQ b n n'
   .show Rep K _ _ (.lst ds);rw[Rep];exact⟨a,xs,rfl,dq.of aV,h3.mono sm⟩
theorem GS.pk{ρ:List Sl}{σ:St}{i:Nat}{d:D}(g:GS K F ρ σ H)(e:HH.pk ρ i=some d):∃v:V,σ[i]?=some (some v)/\cU K F H v d:=by
 unfold HH.pk at e;split at e;.rename_i b d' h;cases e;obtain⟨v,h1,h2⟩:=g.val i b d h;exact⟨v,h1,.inl h2⟩
 .rename_i b ds h;cases e;obtain⟨a,xs,h1,h2,h3,h4⟩:=g.kh i _ ds h rfl;exact⟨.ref a,h1,.inr ⟨a,xs,ds,rfl,h2,h4,rfl⟩⟩
 .rename_i ds h;cases e;obtain⟨a,xs,h1,h2,h3,h4⟩:=g.kh i _ ds h rfl;exact⟨.ref a,h1,.inr ⟨a,xs,ds,rfl,h2,h4,rfl⟩⟩
 .cases e
structure Ext(F H F' H':Hp):Prop where
 hs:aG H H'
 fs:aG F F'
 sub:aG F' H'
 gr:∀b,F b=none->F' b≠none->nt (H b)=none
theorem Ext.refl(h:aG F H):Ext F H F H:=⟨.refl _,.refl _,h,fun _ a b=>absurd a b⟩
theorem Ext.stp{ρ:List Sl}{σ:St}(g:GS K F ρ σ H)(e:Ext F H F' H'):aJ K F ρ σ H F' ρ σ H':=by
 refine⟨⟨e.sub,g.len,fun i b d h=>?_,fun i s ds h h'=>?_,g.dis⟩,e.fs,fun b n n'=>.inr (e.gr b n n'),fun b o h _=>e.hs b o h,fun _ h=>.inl h,rfl,fun i s h _=>⟨rfl,s,h,.refl s⟩⟩;.obtain⟨v,h1,h2⟩:=g.val i b d h;exact⟨v,h1,h2.mono e.fs⟩
 .obtain⟨a,xs,h1,h2,h3,h4⟩:=g.own i s ds h h';refine⟨a,xs,h1,e.hs _ _ h2,?_,h4.mono e.fs⟩;cases q:F' a with|none=>rfl|some o=>have:=e.gr a h3 (by rw[q];simp);rw[h2]at this;exact(Ej h4 this).elim
def cB(K:PySem.W.Frag)(F' H' H:Hp)(v:V):R->Prop|.val d=>Rep K F' v d|.own ds=>∃a xs,v=.ref a/\H' a=some (.lst xs)/\F' a=none/\aF K F' xs ds/\H a=none
theorem cB.nF{ρ:List Sl}{σ:St}{v:V}{r:R}(g:GS K F ρ σ H)(h:cB K F' H' H v r):cJ K F' ρ σ H' ρ σ H v r:=by cases r with|val d=>exact h|own ds=>obtain⟨a,xs,rfl,h1,h2,h3,h4⟩:=h;refine⟨a,xs,rfl,h1,h2,h3,?_,.inr h4⟩;rintro⟨i,⟨s,ds',e,e'⟩,e2⟩;obtain⟨b,ys,q1,q2,_⟩:=g.own i s ds' e e';rw[e2]at q1;cases q1;rw[h4]at q2;cases q2
theorem cJ.later{F1 H1 F2 H2:Hp}{ρ ρ1 ρ2:List Sl}{σ σ1 σ2:St}{v:V}{r:R}(a:aJ K F ρ σ H F1 ρ1 σ1 H1)(h:cJ K F2 ρ2 σ2 H2 ρ1 σ1 H1 v r):cJ K F2 ρ2 σ2 H2 ρ σ H v r:=by cases r with|val d=>exact h|own ds=>
   obtain⟨b,xs,rfl,h1,h2,h3,h4,h5⟩:=h;refine⟨b,xs,rfl,h1,h2,h3,h4,?_⟩;rcases h5 with h5|h5;.exact a.ur b h5
   . by_cases ho:Own ρ σ b;.exact .inl ho
     .right;cases e:H b with|none=>rfl|some o=>rw[a.keep b o e ho]at h5;cases h5
end
end HH
end
section
namespace HH
open PySem L2 PySem.Spec PyProof.Rows
theorem ak{α β:Type}{x:Res α}{f:α->List Sl->Res β}{b:β}{ρ':List Sl}(h:x.bind f=.ok b ρ'):∃a ρ,x=.ok a ρ/\f a ρ=.ok b ρ':=by cases x with|ok a ρ=>exact⟨a,ρ,rfl,h⟩|exc _ _=>cases h|stuck=>cases h
theorem aD{α:Type}{o:Option α}{ρ ρ':List Sl}{a:α}(h:lift o ρ=.ok a ρ'):o=some a/\ρ=ρ':=by cases o with|none=>cases h|some b=>cases h;exact⟨rfl,rfl⟩
theorem map_some{α β:Type}{o:Option α}{f:α->β}{b:β}(h:o.map f=some b):∃a,o=some a/\f a=b:=by cases o with|none=>cases h|some a=>cases h;exact⟨a,rfl,rfl⟩
theorem cC{α β:Type}{o:Option α}{f:α->Option β}{b:β}(h:o.bind f=some b):∃a,o=some a/\f a=some b:=by cases o with|none=>cases h|some a=>exact⟨a,rfl,h⟩
theorem bD{α:Type}{c:Prop}[Decidable c]{a b:α}(h:(if c then some a else none)=some b):c/\a=b:=by
 split at h;.rename_i hc;cases h;exact⟨hc,rfl⟩
 .cases h
section
variable{X:Cx}{c:Call}{e a b:Expr}{p pa pb:P}{pos:Pos}
theorem dZ{t t':TE}(h:PE X e t)(i:∀σ H Q,t' σ H Q->t σ H Q):PE X e t':=fun pins s σ H Q I q=>h pins s σ H Q I (i σ H Q q)
theorem qW{t t':TT}(h:PT X e t)(i:∀σ H Q,t' σ H Q->t σ H Q):PT X e t':=fun pins s σ H Q I q=>h pins s σ H Q I (i σ H Q q)
theorem Kv{t t':TT}(h:PW X e t)(i:∀σ H Q,t' σ H Q->t σ H Q):PW X e t':=fun wh pins s σ H Q I q=>h wh pins s σ H Q I (i σ H Q q)
theorem u9{es:List Expr}{t t':TA}(h:PA X es t)(i:∀σ H Q,t' σ H Q->t σ H Q):PA X es t':=fun pos pins s σ H Q I q=>h pos pins s σ H Q I (i σ H Q q)
inductive uq(K:PySem.W.Frag)(f:Ev)(σ:L2.St)(H:Hp)(Q:VK):Prop where|mk(F:Hp)(ρ:List Sl)(r:R)(ρ':List Sl)(g:GS K F ρ σ H)(e:f ρ=.ok r ρ')(k:∀v F' H',aJ K F ρ σ H F' ρ' σ H'->cJ K F' ρ' σ H' ρ σ H v r->Q v H')
inductive BR(K:PySem.W.Frag)(f:List Sl->Res Bool)(σ:L2.St)(H:Hp)(Q:Bool->Hp->Prop):Prop where|mk(F:Hp)(ρ:List Sl)(b:Bool)(ρ':List Sl)(g:GS K F ρ σ H)(e:f ρ=.ok b ρ')(k:∀F' H',aJ K F ρ σ H F' ρ' σ H'->Q b H')
inductive abU(K:PySem.W.Frag)(f:List Sl->Res (List D))(σ:L2.St)(H:Hp)(Q:List V->Hp->Prop):Prop where|mk(F:Hp)(ρ:List Sl)(ds:List D)(ρ':List Sl)(g:GS K F ρ σ H)(e:f ρ=.ok ds ρ')(k:∀vs F' H',aJ K F ρ σ H F' ρ' σ H'->aF K F' vs ds->Q vs H')
structure SX(X:Cx)(c:Call)(e:Expr)(p:P):Prop where ev:PE X e (uq X.K (HH.ev c p))var:∀i,isVar p=some i->PE X e (Nt i)
def SA(X:Cx)(c:Call)(es:List Expr)(ps:List P):Prop:=PA X es (abU X.K (evs c ps))/\ps.length=es.length
theorem SX.cR(h:SX X c e p):∃t,PE X e t/\∀{σ:L2.St}{H F:Hp}{ρ ρ':List Sl}{d:D}{Q:VK},GS X.K F ρ σ H->cR (isVar p) (HH.ev c p) ρ=.ok d ρ'->(∀v F' H',aJ X.K F ρ σ H F' ρ' σ H'->cU X.K F' H' v d->Q v H')->t σ H Q:=by cases hv:isVar p with|none=>refine⟨_,h.ev,fun{σ H F ρ ρ' d Q}g e k=>?_⟩;obtain⟨r,ρ1,e1,e2⟩:=ak e;cases e2;refine⟨F,ρ,r,_,g,e1,fun v F' H' s rr=>?_⟩;obtain⟨F'',s',_,rp⟩:=s.cW rr;exact k v F'' H' s' (.inl rp)|some i=>refine⟨_,h.var i hv,fun{σ H F ρ ρ' d Q}g e k=>?_⟩;obtain⟨e1,e2⟩:=aD e;subst e2;obtain⟨v,h1,h2⟩:=g.pk e1;exact⟨v,h1,k v F H (.refl g) h2⟩
theorem SX.ig(ha:SX X c a pa)(hb:SX X c b pb):∃ta tb,PE X a ta/\PE X b tb/\∀{σ:L2.St}{H F:Hp}{ρ ρ':List Sl}{xy:D×D}{R:V->V->Hp->Prop},GS X.K F ρ σ H->ig (isVar pa) (HH.ev c pa) (isVar pb) (HH.ev c pb) ρ=.ok xy ρ'->(∀v u F' H',aJ X.K F ρ σ H F' ρ' σ H'->cU X.K F' H' v xy.1->cU X.K F' H' u xy.2->R v u H')->ta σ H fun x H1=>tb σ H1 fun y H2=>R x y H2:=by obtain⟨tb,hb1,hb2⟩:=hb.cR;cases hv:isVar pa with|none=>refine⟨_,tb,ha.ev,hb1,fun{σ H F ρ ρ' xy R}g e k=>?_⟩;obtain⟨x,ρ1,e1,e⟩:=ak e;obtain⟨y,ρ2,e2,e⟩:=ak e;cases e;obtain⟨r,ρ1',e1,e0⟩:=ak e1;cases e0;refine⟨F,ρ,r,_,g,e1,fun v F' H' s rr=>?_⟩;obtain⟨F1,s1,_,rp⟩:=s.cW rr;refine hb2 s1.gs e2 fun u F2 H2 s2 pu=>?_;exact k v u F2 H2 (s1.trans s2) (.inl (rp.mono s2.bU)) pu|some i=>refine⟨_,tb,ha.var i hv,hb1,fun{σ H F ρ ρ' xy R}g e k=>?_⟩;obtain⟨x0,ρ0,e0,e⟩:=ak e;obtain⟨e00,Bx⟩:=aD e0;subst Bx;obtain⟨y,ρ1,e1,e⟩:=ak e;obtain⟨x,ρ2,e2,e⟩:=ak e;cases e;have zz:=aD e2;clear e2;obtain⟨e2,e3⟩:=zz;subst e3;obtain⟨v,h1,_⟩:=g.pk e00;refine⟨v,h1,hb2 g e1 fun u F1 H1 s1 pu=>?_⟩;obtain⟨v',h1',pv⟩:=s1.gs.pk e2;rw[h1]at h1';cases h1';exact k v u F1 H1 s1 pv pu
inductive rD(K:PySem.W.Frag)(f:D->D->Option R)(x y:V)(H:Hp)(Q:VK):Prop where|mk(F:Hp)(d e:D)(r:R)(sm:aG F H)(px:cU K F H x d)(py:cU K F H y e)(he:f d e=some r)(k:∀v F' H',Ext F H F' H'->cB K F' H' H v r->Q v H')
inductive rD1(K:PySem.W.Frag)(f:D->Option R)(x:V)(H:Hp)(Q:VK):Prop where|mk(F:Hp)(d:D)(r:R)(sm:aG F H)(px:cU K F H x d)(he:f d=some r)(k:∀v F' H',Ext F H F' H'->cB K F' H' H v r->Q v H')
theorem sI{E:Expr}{f:D->D->Option R}{q:P}(hp:∀{ta tb},PE X a ta->PE X b tb->PE X E (Qt (rD X.K f) ta tb))(ha:SX X c a pa)(hb:SX X c b pb)(hq:∀ρ,HH.ev c q ρ=(HH.ig (isVar pa) (HH.ev c pa) (isVar pb) (HH.ev c pb) ρ).bind fun xy ρ=>lift (f xy.1 xy.2) ρ)(hv:isVar q=none):SX X c E q:=by obtain⟨ta,tb,h1,h2,h3⟩:=ha.ig hb;refine⟨dZ (hp h1 h2) ?_,fun i h=>by rw[hv]at h;cases h⟩;rintro σ H Q⟨F,ρ,r,ρ',g,e,k⟩;rw[hq]at e;obtain⟨xy,ρ1,e1,e2⟩:=ak e;have zz:=aD e2;clear e2;obtain⟨e2,e3⟩:=zz;subst e3;refine h3 g e1 fun v u F' H' s pv pu=>⟨F',xy.1,xy.2,r,s.gs.sub,pv,pu,e2,fun w F2 H2 x rn=>?_⟩;exact k w F2 H2 (s.trans (x.stp s.gs)) (.later s (rn.nF s.gs))
theorem QT{E:Expr}{f:D->Option R}{q:P}(hp:∀{ta},PE X a ta->PE X E (tUn (rD1 X.K f) ta))(ha:SX X c a pa)(hq:∀ρ,HH.ev c q ρ=(HH.cR (isVar pa) (HH.ev c pa) ρ).bind fun x ρ=>lift (f x) ρ)(hv:isVar q=none):SX X c E q:=by obtain⟨ta,h1,h3⟩:=ha.cR;refine⟨dZ (hp h1) ?_,fun i h=>by rw[hv]at h;cases h⟩;rintro σ H Q⟨F,ρ,r,ρ',g,e,k⟩;rw[hq]at e;obtain⟨x,ρ1,e1,e2⟩:=ak e;have zz:=aD e2;clear e2;obtain⟨e2,e3⟩:=zz;subst e3;refine h3 g e1 fun v F' H' s pv=>⟨F',x,r,s.gs.sub,pv,e2,fun w F2 H2 x rn=>?_⟩;exact k w F2 H2 (s.trans (x.stp s.gs)) (.later s (rn.nF s.gs))
theorem GS.freeze{K:PySem.W.Frag}{F H:Hp}{ρ:List Sl}{σ:L2.St}{i:Nat}{b:Bool}{ds:List D}(g:GS K F ρ σ H)(e:ρ[i]?=some (.own b ds)):∃v F',σ[i]?=some (some v)/\aJ K F ρ σ H F' (ρ.set i (.val b (.lst ds))) σ H/\Rep K F' v (.lst ds):=by
 obtain⟨a,xs,h1,h2,h3,h4⟩:=g.kh i _ ds e rfl;have hi:i<ρ.length:=(List.getElem?_eq_some_iff.mp e).1;have sm:aG F (upd F a (.lst xs)):=aG.dj h3;have rp:Rep K (upd F a (.lst xs)) (.ref a) (.lst ds):=by rw[Rep];exact⟨a,xs,rfl,dq.of aV,h4.mono sm⟩
 have oa:Own ρ σ a:=⟨i,⟨_,_,e,rfl⟩,h1⟩;have old:∀j x,bB (ρ.set i (.val b (.lst ds))) σ j x->bB ρ σ j x/\j≠i:=fun j x⟨⟨s,ds',q1,q2⟩,q3⟩=>by
  by_cases hj:j=i;.subst hj;rw[getElem?_set_self hi]at q1;cases q1;cases q2
  .rw[getElem?_set_ne (Ne.symm hj)]at q1;exact⟨⟨⟨s,ds',q1,q2⟩,q3⟩,hj⟩
 refine⟨.ref a,upd F a (.lst xs),h1,⟨⟨fun x o q=>?_,by simpa using g.len,fun j b' d q=>?_,fun j s ds' q q'=>?_,fun j k x q q'=>g.dis j k x (old j x q).1 (old k x q').1⟩,sm,fun x n n'=>?_,fun _ _ q _=>q,fun x⟨j,q⟩=>.inl ⟨j,(old j x q).1⟩,by simp,fun j s q l=>⟨rfl,?_⟩⟩,rp⟩
 . by_cases hx:x=a;.subst hx;rw[aV]at q;cases q;exact h2
   .rw[aC hx]at q;exact g.sub x o q
 . by_cases hj:j=i;.subst hj;rw[getElem?_set_self hi]at q;cases q;exact⟨_,h1,rp⟩
   .rw[getElem?_set_ne (Ne.symm hj)]at q;obtain⟨v,q1,q2⟩:=g.val j b' d q;exact⟨v,q1,q2.mono sm⟩
 . by_cases hj:j=i;.subst hj;rw[getElem?_set_self hi]at q;cases q;cases q'
   . rw[getElem?_set_ne (Ne.symm hj)]at q;obtain⟨x,ys,q1,q2,q3,q4⟩:=g.own j s ds' q q';have hx:x≠a:=by rintro rfl;exact hj (g.dis j i x ⟨⟨s,ds',q,q'⟩,q1⟩ ⟨⟨_,_,e,rfl⟩,h1⟩)
     exact⟨x,ys,q1,q2,by rw[aC hx];exact q3,q4.mono sm⟩
 . by_cases hx:x=a;.subst hx;exact .inl oa
   .rw[aC hx]at n';exact absurd n n'
 . by_cases hj:j=i;.subst hj;rw[e]at q;cases q;refine⟨_,getElem?_set_self hi,?_⟩;cases b with|true=>exact .inr ⟨_,rfl⟩|false=>cases l
   .exact⟨s,by rw[getElem?_set_ne (Ne.symm hj)];exact q,.refl s⟩
theorem GS.yU{K:PySem.W.Frag}{F H:Hp}{ρ:List Sl}{σ:L2.St}{i:Nat}{m:Dc}(g:GS K F ρ σ H)(e:ρ[i]?=some (.qx m)):∃a,σ[i]?=some (some (.ref a))/\H a=some m.ho/\∀ob,aJ K F ρ σ H (upd F a (.cW ob m.ho)) (ρ.set i (.val false (.cY m))) σ (upd H a (.cW ob m.ho))/\Rep K (upd F a (.cW ob m.ho)) (.ref a) (.cY m):=by
 obtain⟨a,o0,h1,h2,h3,h4⟩:=g.own i _ _ e rfl;cases(show o0=m.ho from h4);have hi:i<ρ.length:=(List.getElem?_eq_some_iff.mp e).1;refine⟨a,h1,h2,fun ob=>?_⟩;have sm:aG F (upd F a (.cW ob m.ho)):=aG.dj h3;have rp:Rep K (upd F a (.cW ob m.ho)) (.ref a) (.cY m):=by rw[Rep];exact⟨a,ob,rfl,aV⟩
 have oa:Own ρ σ a:=⟨i,⟨_,_,e,rfl⟩,h1⟩;have old:∀j x,bB (ρ.set i (.val false (.cY m))) σ j x->bB ρ σ j x/\j≠i:=fun j x⟨⟨s,ds',q1,q2⟩,q3⟩=>by
  by_cases hj:j=i;.subst hj;rw[getElem?_set_self hi]at q1;cases q1;cases q2
  .rw[getElem?_set_ne (Ne.symm hj)]at q1;exact⟨⟨⟨s,ds',q1,q2⟩,q3⟩,hj⟩
 refine⟨⟨⟨fun x o q=>?_,by simpa using g.len,fun j b' d q=>?_,fun j s ds' q q'=>?_,fun j k x q q'=>g.dis j k x (old j x q).1 (old k x q').1⟩,sm,fun x n n'=>?_,fun x o q n=>?_,fun x⟨j,q⟩=>.inl ⟨j,(old j x q).1⟩,by simp,fun j s q l=>⟨rfl,?_⟩⟩,rp⟩
 . by_cases hx:x=a;.subst hx;rw[aV]at q ⊢;exact q
   .rw[aC hx]at q ⊢;exact g.sub x o q
 . by_cases hj:j=i;.subst hj;rw[getElem?_set_self hi]at q;cases q;exact⟨_,h1,rp⟩
   .rw[getElem?_set_ne (Ne.symm hj)]at q;obtain⟨v,q1,q2⟩:=g.val j b' d q;exact⟨v,q1,q2.mono sm⟩
 . by_cases hj:j=i;.subst hj;rw[getElem?_set_self hi]at q;cases q;cases q'
   . rw[getElem?_set_ne (Ne.symm hj)]at q;obtain⟨x,ys,q1,q2,q3,q4⟩:=g.own j s ds' q q';have hx:x≠a:=by rintro rfl;exact hj (g.dis j i x ⟨⟨s,ds',q,q'⟩,q1⟩ ⟨⟨_,_,e,rfl⟩,h1⟩)
     exact⟨x,ys,q1,by rw[aC hx];exact q2,by rw[aC hx];exact q3,q4.mono sm⟩
 . by_cases hx:x=a;.subst hx;exact .inl oa
   .rw[aC hx]at n';exact absurd n n'
 . have hx:x≠a:=by rintro rfl;exact n oa
   rw[aC hx];exact q
 . by_cases hj:j=i;.subst hj;rw[e]at q;cases q;cases l
   .exact⟨s,by rw[getElem?_set_ne (Ne.symm hj)];exact q,.refl s⟩
theorem GS.zq{K:PySem.W.Frag}{F H:Hp}{ρ:List Sl}{σ:L2.St}{i:Nat}{kvs:List (Int×D)}(g:GS K F ρ σ H)(e:ρ[i]?=some (.cV kvs)):∃a vs,σ[i]?=some (some (.ref a))/\H a=some (yu (kvs.map (·.1)) vs)/\∀ob,aJ K F ρ σ H (upd F a (.cW ob (yu (kvs.map (·.1)) vs))) (ρ.set i (.val false (.dv (kvs.map (·.1)) (kvs.map (·.2))))) σ (upd H a (.cW ob (yu (kvs.map (·.1)) vs)))/\Rep K (upd F a (.cW ob (yu (kvs.map (·.1)) vs))) (.ref a) (.dv (kvs.map (·.1)) (kvs.map (·.2))):=by
 obtain⟨a,o0,h1,h2,h3,h4⟩:=g.own i _ _ e rfl;obtain⟨vs,rfl,h5⟩:=h4;have hi:i<ρ.length:=(List.getElem?_eq_some_iff.mp e).1;refine⟨a,vs,h1,h2,fun ob=>?_⟩;have sm:aG F (upd F a (.cW ob (yu (kvs.map (·.1)) vs))):=aG.dj h3;have rp:Rep K (upd F a (.cW ob (yu (kvs.map (·.1)) vs))) (.ref a) (.dv (kvs.map (·.1)) (kvs.map (·.2))):=by rw[Rep];exact⟨a,ob,vs,rfl,aV,h5.mono sm,by simp⟩
 have oa:Own ρ σ a:=⟨i,⟨_,_,e,rfl⟩,h1⟩;have old:∀j x,bB (ρ.set i (.val false (.dv (kvs.map (·.1)) (kvs.map (·.2))))) σ j x->bB ρ σ j x/\j≠i:=fun j x⟨⟨s,ds',q1,q2⟩,q3⟩=>by
  by_cases hj:j=i;.subst hj;rw[getElem?_set_self hi]at q1;cases q1;cases q2
  .rw[getElem?_set_ne (Ne.symm hj)]at q1;exact⟨⟨⟨s,ds',q1,q2⟩,q3⟩,hj⟩
 refine⟨⟨⟨fun x o q=>?_,by simpa using g.len,fun j b' d q=>?_,fun j s ds' q q'=>?_,fun j k x q q'=>g.dis j k x (old j x q).1 (old k x q').1⟩,sm,fun x n n'=>?_,fun x o q n=>?_,fun x⟨j,q⟩=>.inl ⟨j,(old j x q).1⟩,by simp,fun j s q l=>⟨rfl,?_⟩⟩,rp⟩
 . by_cases hx:x=a;.subst hx;rw[aV]at q ⊢;exact q
   .rw[aC hx]at q ⊢;exact g.sub x o q
 . by_cases hj:j=i;.subst hj;rw[getElem?_set_self hi]at q;cases q;exact⟨_,h1,rp⟩
   .rw[getElem?_set_ne (Ne.symm hj)]at q;obtain⟨v,q1,q2⟩:=g.val j b' d q;exact⟨v,q1,q2.mono sm⟩
 . by_cases hj:j=i;.subst hj;rw[getElem?_set_self hi]at q;cases q;cases q'
   . rw[getElem?_set_ne (Ne.symm hj)]at q;obtain⟨x,ys,q1,q2,q3,q4⟩:=g.own j s ds' q q';have hx:x≠a:=by rintro rfl;exact hj (g.dis j i x ⟨⟨s,ds',q,q'⟩,q1⟩ ⟨⟨_,_,e,rfl⟩,h1⟩)
     exact⟨x,ys,q1,by rw[aC hx];exact q2,by rw[aC hx];exact q3,q4.mono sm⟩
 . by_cases hx:x=a;.subst hx;exact .inl oa
   .rw[aC hx]at n';exact absurd n n'
 . have hx:x≠a:=by rintro rfl;exact n oa
   rw[aC hx];exact q
 . by_cases hj:j=i;.subst hj;rw[e]at q;cases q;cases l
   .exact⟨s,by rw[getElem?_set_ne (Ne.symm hj)];exact q,.refl s⟩
theorem Inv.Ck{X:Cx}{pins:List (Addr×Obj)}{σ:L2.St}{H:Hp}{s:Shared}{a:Addr}{kvs:List (Key×V)}(I:L2.Inv X pins σ H s)(h:H a=some (.dK kvs)):∃o,L2.Inv X pins σ (upd H a (.cW o (.dK kvs))) s:=by obtain⟨hz,hS,vs,r,dd⟩:=(show bR X.prog X.w H s.heap a (.dK kvs)from I.hok a _ h);obtain⟨o,ho,_⟩:=dd.typeIs;exact⟨o,I.write (h':=s.heap) (t':=s.toks) (by rw[h];exact trivial) (.inl rfl) (fun b u _ e=>e) ⟨o,ho⟩ ⟨ho,hz,hS,vs,r,dd⟩⟩
theorem Oi{i:Nat}{x:Str}(hN:X.N[i]?=some x)(hv:v8 X.env.scope x)(hd:(x==("__debug__":Str))=false:=by decide)(hcd:(x==("__classdict__":Str))=false:=by decide):SX X c (.Name x pos) (.var i):=by
 have h:=gF (X:=X) (pos:=pos) hN hv hd hcd;refine⟨?_,fun j hj=>by cases hj;exact h⟩;rintro pins s σ H Q I⟨F,ρ,r,ρ',g,e,k⟩;rw[HH.E1]at e;split at e;.rename_i b d q;cases e;obtain⟨v,h1,h2⟩:=g.val i b d q;exact h pins s σ H Q I ⟨v,h1,k v F H (.refl g) h2⟩
 .rename_i b ds q;cases e;obtain⟨v,F',h1,h2,h3⟩:=g.freeze q;exact h pins s σ H Q I ⟨v,h1,k v F' H h2 h3⟩
 .rename_i kvs q;cases e;obtain⟨a,h1,h2,h3⟩:=g.yU q;refine bZ (h pins s σ H (fun v H'=>v=.ref a/\H'=H) I ⟨.ref a,h1,rfl,rfl⟩) fun u s1⟨v,H1,I1,r1,e1,e2⟩=>?_;subst e1 e2;obtain⟨o,I2⟩:=Inv.Ck I1 h2;exact⟨.ref a,_,I2,r1,k _ _ _ (h3 o).1 (h3 o).2⟩
 .rename_i kvs q;cases e;obtain⟨a,vs,h1,h2,h3⟩:=g.zq q;refine bZ (h pins s σ H (fun v H'=>v=.ref a/\H'=H) I ⟨.ref a,h1,rfl,rfl⟩) fun u s1⟨v,H1,I1,r1,e1,e2⟩=>?_;subst e1 e2;obtain⟨o,I2⟩:=Inv.Ck I1 h2;exact⟨.ref a,_,I2,r1,k _ _ _ (h3 o).1 (h3 o).2⟩
 .cases e
theorem xN{d:D}{v:V}(h:PE X e (tC v))(hr:∀F,Rep X.K F v d):SX X c e (.con d):=⟨dZ h fun σ H Q⟨F,ρ,r,ρ',g,e,k⟩=>by rw[HH.E2]at e;cases e;exact k v F H (.refl g) (hr F),fun i h=>by cases h⟩
theorem aa{i j}:SX X c (.Constant (.int i) j pos) (.con (.int i)):=xN xW fun F=>by rw[Rep]
theorem eV{i j}:SX X c (.Constant (.bool i) j pos) (.con (.bl i)):=xN Uv fun F=>by rw[Rep]
theorem j4{j}:SX X c (.Constant .none j pos) (.con .non):=xN PK fun F=>by rw[Rep]
theorem cU.int{K:PySem.W.Frag}{F H:Hp}{v:V}{i:Int}(h:cU K F H v (.int i)):v=.int i:=by
 rcases h with h|⟨_,_,_,_,_,_,h⟩;.rw[Rep]at h;exact h
 .cases h
theorem cU.bl{K:PySem.W.Frag}{F H:Hp}{v:V}{i:Bool}(h:cU K F H v (.bl i)):v=.bl i:=by
 rcases h with h|⟨_,_,_,_,_,_,h⟩;.rw[Rep]at h;exact h
 .cases h
theorem cU.str{K:PySem.W.Frag}{F H:Hp}{v:V}{i:Str}(h:cU K F H v (.str i)):v=.str i:=by
 rcases h with h|⟨_,_,_,_,_,_,h⟩;.rw[Rep]at h;exact h
 .cases h
theorem cU.non{K:PySem.W.Frag}{F H:Hp}{v:V}(h:cU K F H v .non):v=.non:=by
 rcases h with h|⟨_,_,_,_,_,_,h⟩;.rw[Rep]at h;exact h
 .cases h
theorem cU.tup{K:PySem.W.Frag}{F H:Hp}{v:V}{ds:List D}(s:aG F H)(h:cU K F H v (.tup ds)):∃a xs,v=.ref a/\gO K H a xs/\aF K F xs ds/\Rep K F v (.tup ds):=by
 rcases h with h|⟨_,_,_,_,_,_,h⟩;.have h':=h;rw[Rep]at h;obtain⟨a,xs,rfl,h1,h2⟩:=h;exact⟨a,xs,rfl,aG.fW s h1,h2,h'⟩
 .cases h
theorem cU.lst{K:PySem.W.Frag}{F H:Hp}{v:V}{ds:List D}(s:aG F H)(h:cU K F H v (.lst ds)):∃a xs,v=.ref a/\dq K H a xs/\aF K F xs ds:=by
 rcases h with h|⟨a,xs,es,h1,h2,h3,h⟩;.rw[Rep]at h;obtain⟨a,xs,rfl,h1,h2⟩:=h;exact⟨a,xs,rfl,s.seq h1,h2⟩
 .cases h;exact⟨a,xs,h1,dq.of h2,h3⟩
theorem cU.cY{K:PySem.W.Frag}{F H:Hp}{v:V}{m:Dc}(s:aG F H)(h:cU K F H v (.cY m)):∃a o,v=.ref a/\H a=some (.cW o m.ho):=by
 rcases h with h|⟨_,_,_,_,_,_,h⟩;.rw[Rep]at h;obtain⟨a,o,rfl,h⟩:=h;exact⟨a,o,rfl,s _ _ h⟩
 .cases h
theorem Dn{X:Cx}{pins:List (Addr×Obj)}{σ:L2.St}{H:Hp}{s:Shared}{a:Addr}{ob:Obj}{m:Dc}(I:L2.Inv X pins σ H s)(h:H a=some (.cW ob m.ho)):∃o,s.heap.get? a=some o/\o.cls=.type "dict":=by have z:=(show bR X.prog X.w H s.heap a (.cW ob m.ho)from I.hok a _ h).2;cases m with|k kvs=>obtain⟨_,_,vs,_,d2⟩:=(show bR X.prog X.w H s.heap a (.dK _)from z);exact d2.typeIs|t kvs=>obtain⟨_,_,xs,_,o,es,ep,h1,h2,_⟩:=(show bR X.prog X.w H s.heap a (.dT _)from z);exact⟨o,h1,h2.1⟩
theorem cU.dv{K:PySem.W.Frag}{F H:Hp}{v:V}{ks:List Int}{ds:List D}(s:aG F H)(h:cU K F H v (.dv ks ds)):∃a o vs,v=.ref a/\H a=some (.cW o (yu ks vs))/\aF K F vs ds/\ks.length=ds.length:=by
 rcases h with h|⟨_,_,_,_,_,_,h⟩;.rw[Rep]at h;obtain⟨a,o,vs,rfl,h,h1,h2⟩:=h;exact⟨a,o,vs,rfl,s _ _ h,h1,h2⟩
 .cases h
theorem Gr{X:Cx}{pins:List (Addr×Obj)}{σ:L2.St}{H:Hp}{s:Shared}{a:Addr}{ob:Obj}{ks:List Int}{vs:List V}(I:L2.Inv X pins σ H s)(h:H a=some (.cW ob (yu ks vs))):∃o,s.heap.get? a=some o/\o.cls=.type "dict":=by have z:=(show bR X.prog X.w H s.heap a (.cW ob (yu ks vs))from I.hok a _ h).2;obtain⟨_,_,vs,_,d2⟩:=(show bR X.prog X.w H s.heap a (.dK _)from z);exact d2.typeIs
theorem cU.items{K:PySem.W.Frag}{F H:Hp}{v:V}{d:D}{ds:List D}(s:aG F H)(h:cU K F H v d)(e:items d=some ds):∃a xs,v=.ref a/\(dq K H a xs\/gO K H a xs)/\aF K F xs ds:=by cases d with|tup es=>cases e;obtain⟨a,xs,h1,h2,h3,_⟩:=h.tup s;exact⟨a,xs,h1,.inr h2,h3⟩|lst es=>cases e;obtain⟨a,xs,h1,h2,h3⟩:=h.lst s;exact⟨a,xs,h1,.inl h2,h3⟩|_=>cases e
theorem cB.dm{K:PySem.W.Frag}{F H:Hp}{Q:VK}{v:V}{d:D}(s:aG F H)(r:Rep K F v d)(k:∀v F' H',Ext F H F' H'->cB K F' H' H v (.val d)->Q v H'):Q v H:=k v F H (.refl s) r
theorem cj{K:PySem.W.Frag}{F:Hp}(i:Int):Rep K F (.int i) (.int i):=by rw[Rep]
theorem dX{K:PySem.W.Frag}{F:Hp}(i:Bool):Rep K F (.bl i) (.bl i):=by rw[Rep]
theorem Mw{K:PySem.W.Frag}{F:Hp}(i:Str):Rep K F (.str i) (.str i):=by rw[Rep]
theorem Qi{K:PySem.W.Frag}{F:Hp}:Rep K F .non .non:=by rw[Rep]
theorem vd{K:PySem.W.Frag}{F H:Hp}{Q:VK}{xs:List V}{ds:List D}{p:Addr}(s:aG F H)(r:aF K F xs ds)(hp:H p=none)(k:∀v F' H',Ext F H F' H'->cB K F' H' H v (.own ds)->Q v H'):Q (.ref p) (upd H p (.lst xs)):=by
 have fp:F p=none:=by cases q:F p with|none=>rfl|some o=>rw[s p o q]at hp;cases hp
 exact k _ F _ ⟨aG.dj hp,.refl _,s.trans (aG.dj hp),fun _ a b=>absurd a b⟩ ⟨p,xs,rfl,aV,fp,r,hp⟩
theorem yc{K:PySem.W.Frag}{F H:Hp}{Q:VK}{xs:List V}{ds:List D}{p:Addr}(s:aG F H)(r:aF K F xs ds)(hp:H p=none)(k:∀v F' H',Ext F H F' H'->cB K F' H' H v (.val (.tup ds))->Q v H'):Q (.ref p) (upd H p (.tup xs)):=by
 have fp:F p=none:=by cases q:F p with|none=>rfl|some o=>rw[s p o q]at hp;cases hp
 have sm:aG F (upd F p (.tup xs)):=aG.dj fp;refine k _ (upd F p (.tup xs)) _ ⟨aG.dj hp,sm,fun b o e=>?_,fun b n n'=>?_⟩ ?_
 . by_cases hb:b=p;.subst hb;rw[aV]at e ⊢;exact e
   .rw[aC hb]at e ⊢;exact s b o e
 . by_cases hb:b=p;.subst hb;exact jE hp
   .rw[aC hb]at n';exact absurd n n'
 .show Rep K _ _ (.tup ds);rw[Rep];exact⟨p,xs,rfl,gO.of aV,r.mono sm⟩
end
theorem qp(k:Int)(t:Tok)(l:Addr)(its:Array Value)(n:Nat)(dd:Option Addr)(sl:Array (Option Value)):Meets (Builtin.«int.__rmul__» ⟨[.int k t,.ref l],[]⟩) (fun _ R s=>s.heap.get? l=some ⟨.type "list",dd,.seq its n,sl⟩/\R (.ok (.ret Value.notImplemented)) s):=.of_wp fun prog w A R s h=>by obtain⟨hp,g,d,tk,os⟩:=s;obtain⟨hl,h⟩:=h;wp_walk;exact⟨_,rfl,h⟩
theorem zW(l:Addr)(its:Array Value)(n:Nat)(dd:Option Addr)(sl:Array (Option Value))(k:Int)(t:Tok)(h0:¬(!Builtin.List.listFitsIndex k)=true)(h1:¬its.size*k.toNat>(2^63-1)/8)(h2:¬listTooLong (its.size*k.toNat)=true):Meets (Builtin.«list.__mul__» ⟨[.ref l,.int k t],[]⟩) (fun _ R s=>s.heap.get? l=some ⟨.type "list",dd,.seq its n,sl⟩/\R (.ok (.ret (Value.ref s.heap.objs.size))) {s with heap:=s.heap.push {cls:=.type "list",data:=.seq (foldl (·++·) #[] (replicate (if its.isEmpty=true then 0 else k.toNat) its))}}):=.of_wp fun prog w A R s h=>by obtain⟨hp,g,d,tk,os⟩:=s;obtain⟨hl,h⟩:=h;have hz:=AutoListH.joined_fits h2;wp_walk using wpAny_loadPart' hl;refine wpAny_ite_false (decide_eq_false (Nat.not_lt.mpr hz)) ?_;wp_walk;exact⟨_,rfl,h⟩
section
variable{X:Cx}{c:Call}{e a b d:Expr}{p pa pb pd:P}{pos:Pos}
theorem Io:dW X (binaryOp .Add) (fun x y H Q=>∃l b xs zs,x=.ref l/\y=.ref b/\dq X.K H l xs/\dq X.K H b zs/\xs.length+zs.length<=sizeLine/\∀p,H p=none->Q (.ref p) (upd H p (.lst (xs++zs)))):=by
 intro pins s σ H x y v u Q I rx ry h;obtain⟨l,b,xs,zs,rfl,rfl,hl,hb,hz,q⟩:=h;cases rx;cases ry;obtain⟨its,r,pl,_⟩:=I.list hl;obtain⟨its2,r2,LR,_⟩:=I.list hb;obtain⟨⟨cls,dd,data,sl⟩,ho,hc,n,hd⟩:=id pl.isList;obtain⟨⟨cls2,dd2,data2,sl2⟩,ho2,hc2,n2,hd2⟩:=id LR.isList;simp only at hc hd hc2 hd2;subst hc hd hc2 hd2;have e:its.toArray++its2.toArray=(its++its2).toArray:=by simp
 refine concat_meets ⟨_,ho,rfl⟩ ⟨_,ho2,rfl⟩ noFill_list_add seq_list_add PySem.F.slot_list_add PySem.F.entry_list_add (PySem.F.args_list_add_2 _ _) (list_addW l b its.toArray its2.toArray n n2 dd dd2 sl sl2 (by simp only[size_toArray];rw[<-r.length,<-r2.length];exact hz)) ⟨ho,ho2,?_⟩;rw[e];exact⟨.ref _,_,I.Nf (t':=s.toks) (r.append r2) (by rw[length_append];exact hz),rfl,q _ I.fresh⟩
theorem Dh:dW X (binaryOp .Add) (fun x y H Q=>∃a b ys,x=.ref a/\y=.ref b/\gO X.K H a []/\gO X.K H b ys/\Q (.ref b) H):=by intro pins s σ H x y v u Q I rx ry h;obtain⟨a,b,ys,rfl,rfl,ha,hb,q⟩:=h;cases rx;cases ry;obtain⟨its,r1,p1,_⟩:=I.tuple ha;obtain⟨its2,r2,p2,_⟩:=I.tuple hb;obtain⟨⟨cls,dd,data,sl⟩,ho,hc,n,hd⟩:=id p1;obtain⟨⟨cls2,dd2,data2,sl2⟩,ho2,hc2,n2,hd2⟩:=id p2;simp only at hc hd hc2 hd2;subst hc hd hc2 hd2;have e0:its=[]:=r1.nW.mpr rfl;subst e0;exact concat_meets ⟨_,ho,rfl⟩ ⟨_,ho2,rfl⟩ noFill_tuple_add seq_tuple_add slot_tuple_add entry_tuple_add (args_tuple_add_2 _ _) (tuple_addW0 a b _ its2.toArray n n2 dd dd2 sl sl2 (by simp)) ⟨ho,ho2,⟨.ref b,H,I,rfl,q⟩⟩
theorem bh:dW X (binaryOp .Add) (rD X.K (qm .add)):=by
 rintro pins s σ H x y v u Q I rx ry⟨F,d,e,r,sm,px,py,he,k⟩;replace he:pA d e=some r:=he;unfold pA at he;split at he;.cases he;rw[px.int]at rx;rw[py.int]at ry;exact MP pins s σ H _ _ v u Q I rx ry ⟨_,_,rfl,rfl,cB.dm sm (cj _) k⟩
 .rename_i xs ys;obtain⟨hl,he⟩:=bD he;subst he;obtain⟨a,vs,rfl,ha,ra⟩:=px.lst sm;obtain⟨b,us,rfl,hb,rb⟩:=py.lst sm;exact Io pins s σ H _ _ v u Q I rx ry ⟨a,b,vs,us,rfl,rfl,ha,hb,by rw[ra.length,rb.length];exact hl,fun p hp=>vd sm (ra.append rb) hp k⟩
 . rename_i xs ys;obtain⟨hl,he⟩:=bD he;subst he;obtain⟨a,vs,rfl,ha,ra,ta⟩:=px.tup sm;obtain⟨b,us,rfl,hb,rb,tb⟩:=py.tup sm;by_cases h0:vs=[]
   . subst h0;have e0:xs=[]:=by have:=ra.length;exact List.eq_nil_of_length_eq_zero this.symm
     subst e0;exact Dh pins s σ H _ _ v u Q I rx ry ⟨a,b,us,rfl,rfl,ha,hb,cB.dm sm tb k⟩
   . refine J0 pins s σ H _ _ v u Q I rx ry ⟨a,b,vs,us,rfl,rfl,ha,hb,h0,by rw[ra.length,rb.length];exact hl,fun e=>?_,fun _ p hp=>yc sm (ra.append rb) hp k⟩;subst e;have e0:ys=[]:=by have:=rb.length;exact List.eq_nil_of_length_eq_zero this.symm
     subst e0;rw[append_nil]at k;exact cB.dm sm ta k
 .rename_i x1 y1;obtain⟨hl,he⟩:=bD he;subst he;rw[px.str]at rx;rw[py.str]at ry;exact v9 pins s σ H _ _ v u Q I rx ry ⟨_,_,rfl,rfl,hl,cB.dm sm (Mw _) k⟩
 .cases he
theorem bT:dW X (binaryOp .Sub) (rD X.K (qm .sub)):=by
 rintro pins s σ H x y v u Q I rx ry⟨F,d,e,r,sm,px,py,he,k⟩;replace he:vy d e=some r:=he;unfold vy at he;split at he;.cases he;rw[px.int]at rx;rw[py.int]at ry;exact Ng pins s σ H _ _ v u Q I rx ry ⟨_,_,rfl,rfl,cB.dm sm (cj _) k⟩
 .cases he
theorem JC:dW X (binaryOp .Mult) (fun x y H Q=>∃l k xs,x=.ref l/\y=.int k/\dq X.K H l xs/\-(2^63)<=k/\k<2^63/\xs.length*k.toNat<=sizeLine/\∀p,H p=none->Q (.ref p) (upd H p (.lst (replicate k.toNat xs).flatten))):=by
 intro pins s σ H x y v u Q I rx ry h;obtain⟨l,k,xs,rfl,rfl,hl,h1,h2,hz,q⟩:=h;cases rx;obtain⟨t,rfl⟩:=ry;obtain⟨its,r,pl,_⟩:=I.list hl;obtain⟨⟨cls,dd,data,sl⟩,ho,hc,n,hd⟩:=id pl.isList;simp only at hc hd;subst hc hd;have hlen:its.toArray.size*k.toNat<=sizeLine:=by rw[size_toArray,<-r.length];exact hz
 have acG:¬ its.toArray.size*k.toNat>(2^63-1)/8:=by
  have:(sizeLine:Nat)<=(2^63-1)/8:=by decide
  omega
 have hnew:foldl (·++·) #[] (replicate (if its.toArray.isEmpty=true then 0 else k.toNat) its.toArray)=(replicate k.toNat its).flatten.toArray:=by
  have f0:∀m:Nat,foldl (·++·) #[] (replicate m its.toArray)=(replicate m its).flatten.toArray:=fun m=>by have:=foldl_rep its m [];rw[nil_append]at this;exact this
  rw[f0];cases its with|nil=>simp|cons a r'=>rw[if_neg (by simp)]
 refine wpAny_binaryOp_repeat_ref (T:="list") (U:="int") (by decide) ⟨_,ho,rfl⟩ (fun s'=>typeIs_int s' k t) noFill_list_mul F.fills_int_mul F.slot_int_rmul repeat_list F.slot_int_index.lookup ?_;refine call_meets F.slot_int_rmul (typeIs_int s k t) F.entry_int_rmul (F.args_int_rmul_2 _ _) (qp k t l its.toArray n dd sl) ⟨ho,rfl,⟨_,ho,rfl⟩,?_⟩;refine call_meets F.slot_list_mul ⟨_,ho,rfl⟩ F.entry_list_mul (F.args_list_mul_2 _ _) (zW l its.toArray n dd sl k t (by rw[fitsIndex_both h1 h2];exact Bool.false_ne_true) acG (by rw[DQ hlen];exact Bool.false_ne_true)) ⟨ho,?_⟩;rw[hnew];exact⟨.ref _,_,I.Nf (t':=s.toks) (r.rep k.toNat) (by rw[len_rep,Nat.mul_comm];exact hz),rfl,q _ I.fresh⟩
theorem lV:fillsNumberSlot (.type "tuple") "mul"=pure false:=PySem.fillsNumberSlot_seq (id:="tuple.__mul__") (r:=some (.builtin "tuple.__rmul__")) slot_tuple_mul.lookup (by decide+kernel) PySem.F.slot_tuple_rmul.lookup (by decide+kernel)
theorem tK:seqRepeat? (.type "tuple")=pure (some (.builtin "tuple.__mul__")):=by unfold seqRepeat?;rw[PySem.seqSlot_of (T:="tuple") (name:="__mul__") (id:="tuple.__mul__") slot_tuple_mul.lookup (by decide+kernel),PySem.seqSlot_of (T:="tuple") (name:="__rmul__") (id:="tuple.__rmul__") PySem.F.slot_tuple_rmul.lookup (by decide+kernel)];rfl
theorem oV(k:Int)(t:Tok)(l:Addr)(its:Array Value)(n:Nat)(dd:Option Addr)(sl:Array (Option Value)):Meets (Builtin.«int.__rmul__» ⟨[.int k t,.ref l],[]⟩) (fun _ R s=>s.heap.get? l=some ⟨.type "tuple",dd,.seq its n,sl⟩/\R (.ok (.ret Value.notImplemented)) s):=.of_wp fun prog w A R s h=>by obtain⟨hp,g,d,tk,os⟩:=s;obtain⟨hl,h⟩:=h;wp_walk;exact⟨_,rfl,h⟩
theorem wO(l:Addr)(its:Array Value)(n:Nat)(dd:Option Addr)(sl:Array (Option Value))(k:Int)(t:Tok)(h0:0<=k)(h1:k<2^63)(hz:its.size*k.toNat<=sizeLine)(hne:0<its.size):Meets (Builtin.«tuple.__mul__» ⟨[.ref l,.int k t],[]⟩) (fun _ R s=>s.heap.get? l=some ⟨.type "tuple",dd,.seq its n,sl⟩/\(k=1->R (.ok (.ret (Value.ref l))) s)/\(k≠1->R (.ok (.ret (Value.ref s.heap.objs.size))) {s with heap:=s.heap.push {cls:=.type "tuple",data:=.seq (foldl (·++·) #[] (replicate k.toNat its))}})):=.of_wp fun prog w A R s h=>by
  obtain⟨hp,g,d,tk,os⟩:=s;obtain⟨hl,q1,q2⟩:=h;have hem:its.isEmpty=false:=by cases e:its.isEmpty with|false=>rfl|true=>rw[Array.isEmpty_iff_size_eq_zero]at e;omega
  show wpAny _ _ (asIndex (.int k t)>>=_) _ _ _;wp_walk using wpAny_loadPart' hl;have hI:IsTup hp l its:=⟨_,hl,rfl,n,rfl⟩;rw[if_neg (by simp;omega)];refine wpAny_bind (PyProof.Rows.tupleItemsOf_ hI ?_);try dsimp only
  by_cases e1:k=1;.rw[if_pos (by simp[e1])];wp_walk using wpAny_loadPart' hl;exact⟨_,rfl,q1 e1⟩
  . have q:=q2 e1;rw[if_neg (by simp[hem,e1])];by_cases e0:k=0;.subst e0;rw[if_pos (by simp)];unfold tupleExact;refine wpAny_bind (wpAny_newObj_type ?_);exact wpAny_pure ⟨_,rfl,q⟩
    . have hb:(its.size:Int)*k<=sizeLine:=by
       have:((its.size*k.toNat:Nat):Int)<=(sizeLine:Nat):=by exact_mod_cast hz
       rw[Int.natCast_mul,show((k.toNat:Nat):Int)=k by omega]at this;exact this
      have hs2:(sizeLine:Int)<=(2^63-1)/8:=by decide
      rw[if_neg (by simp[hem];omega),if_neg (by omega),if_neg (by simp[Builtin.Tuple.tupleTooMany];omega)];unfold tupleExact;refine wpAny_bind (wpAny_newObj_type ?_ ?_);.exact wpAny_pure ⟨_,rfl,q⟩
      .have:=foldl_rep its.toList k.toNat [];rw[nil_append,show its.toList.toArray=its by simp]at this;show(foldl (·++·) #[] (replicate k.toNat its)).size<=sizeLine;rw[show(#[]:Array Value)=([]:List Value).toArray from rfl,this,size_toArray,len_rep,length_toList,Nat.mul_comm];exact hz
theorem Hl:dW X (binaryOp .Mult) (fun x y H Q=>∃l k xs,x=.ref l/\y=.int k/\gO X.K H l xs/\0<xs.length/\0<=k/\k<2^63/\xs.length*k.toNat<=sizeLine/\(k=1->Q (.ref l) H)/\(k≠1->∀p,H p=none->Q (.ref p) (upd H p (.tup (replicate k.toNat xs).flatten)))):=by
 intro pins s σ H x y v u Q I rx ry h;obtain⟨l,k,xs,rfl,rfl,hl,hne,h1,h2,hz,qa,qb⟩:=h;cases rx;obtain⟨t,rfl⟩:=ry;obtain⟨its,r,pl,_⟩:=I.tuple hl;obtain⟨⟨cls,dd,data,sl⟩,ho,hc,n,hd⟩:=id pl;simp only at hc hd;subst hc hd;have hlen:its.toArray.size*k.toNat<=sizeLine:=by rw[size_toArray,<-r.length];exact hz
 have hnew:foldl (·++·) #[] (replicate k.toNat its.toArray)=(replicate k.toNat its).flatten.toArray:=by have:=foldl_rep its k.toNat [];rw[nil_append]at this;exact this
 refine wpAny_binaryOp_repeat_ref (T:="tuple") (U:="int") (by decide) ⟨_,ho,rfl⟩ (fun s'=>typeIs_int s' k t) lV F.fills_int_mul F.slot_int_rmul tK F.slot_int_index.lookup ?_;refine call_meets F.slot_int_rmul (typeIs_int s k t) F.entry_int_rmul (F.args_int_rmul_2 _ _) (oV k t l its.toArray n dd sl) ⟨ho,rfl,⟨_,ho,rfl⟩,?_⟩;refine call_meets slot_tuple_mul ⟨_,ho,rfl⟩ PySem.F.entry_tuple_mul (PySem.F.args_tuple_mul_2 _ _) (wO l its.toArray n dd sl k t h1 h2 hlen (by rw[size_toArray,<-r.length];exact hne)) ⟨ho,fun e=>⟨.ref l,H,I,rfl,qa e⟩,fun e=>?_⟩;rw[hnew];refine⟨.ref s.heap.objs.size,_,I.laid (t':=s.toks) (o:=.tup (replicate k.toNat xs).flatten) (fun b ob q=>get?_push_of_some _ q) (le_refl _) ?_,rfl,qb e _ (I.hok.fresh (le_refl _))⟩;exact⟨by rw[len_rep,Nat.mul_comm];exact hz,_,r.rep k.toNat,IsTup.new _ _⟩
theorem fB:dW X (binaryOp .Mult) (rD X.K (qm .mul)):=by
 rintro pins s σ H x y v u Q I rx ry⟨F,d,e,r,sm,px,py,he,k⟩;replace he:oU d e=some r:=he;unfold oU at he;split at he;.obtain⟨hc,he⟩:=bD he;subst he;rw[px.int]at rx;rw[py.int]at ry;exact Np pins s σ H _ _ v u Q I rx ry ⟨_,_,rfl,rfl,hc,cB.dm sm (cj _) k⟩
 . rename_i xs i;obtain⟨⟨h1,h2,h3⟩,he⟩:=bD he;subst he;obtain⟨a,vs,rfl,ha,ra⟩:=px.lst sm;rw[py.int]at ry;have hk:i<2^63:=by have h4:=Nat.le_mul_of_pos_left i.toNat h2;have h5:i.toNat<=16777216:=le_trans h4 h3;omega
   exact JC pins s σ H _ _ v u Q I rx ry ⟨a,i,vs,rfl,rfl,ha,by omega,hk,by rw[ra.length];exact h3,fun p hp=>vd sm (ra.rep i.toNat) hp k⟩
 . rename_i xs i;obtain⟨⟨h1,h2,h3⟩,he⟩:=bD he;subst he;obtain⟨a,vs,rfl,ha,ra,rr⟩:=px.tup sm;rw[py.int]at ry;have hk:i<2^63:=by have h4:=Nat.le_mul_of_pos_left i.toNat h2;have h5:i.toNat<=16777216:=le_trans h4 h3;omega
   refine Hl pins s σ H _ _ v u Q I rx ry ⟨a,i,vs,rfl,rfl,ha,by rw[ra.length];exact h2,h1,hk,by rw[ra.length];exact h3,fun e=>?_,fun e p hp=>yc sm (ra.rep i.toNat) hp k⟩;subst e;refine cB.dm sm ?_ k;have e1:(replicate (1:Int).toNat xs).flatten=xs:=by simp
   rw[e1];exact rr
 .cases he
theorem uB:dW X (binaryOp .FloorDiv) (rD X.K (qm .fdiv)):=by
 rintro pins s σ H x y v u Q I rx ry⟨F,d,e,r,sm,px,py,he,k⟩;replace he:pP d e=some r:=he;unfold pP at he;split at he
 . rename_i i j;obtain⟨⟨h1,h2⟩,he⟩:=bD he;subst he;rw[px.int]at rx;rw[py.int]at ry;obtain⟨t,rfl⟩:=rx;obtain⟨t',rfl⟩:=ry;have hl:j.natAbs.log2<9000:=by
    have:j.natAbs<2^200:=by
     have:(2:Nat)^200=1606938044258990275541962092341162602522202993782792835301376:=by decide
     omega
    have h3:=(Nat.log2_lt (by omega)).mpr this;omega
   exact floordiv_int (by omega) (by rw[Int.fdiv_eq_ediv_of_nonneg i (by omega)];exact⟨.int _,H,I.tok _,⟨_,rfl⟩,cB.dm sm (cj _) k⟩) (.inl (PyProof.noPylong_of_log2 hl))
 .cases he
theorem gn:dW X (binaryOp .Mod) (rD X.K (qm .mod)):=by
 rintro pins s σ H x y v u Q I rx ry⟨F,d,e,r,sm,px,py,he,k⟩;replace he:vq d e=some r:=he;unfold vq at he;split at he;.obtain⟨h1,he⟩:=bD he;subst he;rw[px.int]at rx;rw[py.int]at ry;exact M8 pins s σ H _ _ v u Q I rx ry ⟨_,_,rfl,rfl,h1,cB.dm sm (cj _) k⟩
 .cases he
theorem jG:dW X (binaryOp .Pow) (rD X.K (qm .pow)):=by
 rintro pins s σ H x y v u Q I rx ry⟨F,d,e,r,sm,px,py,he,k⟩;replace he:vg d e=some r:=he;unfold vg at he;split at he;.obtain⟨⟨h1,h2,h3⟩,he⟩:=bD he;subst he;rw[px.int]at rx;rw[py.int]at ry;exact NP pins s σ H _ _ v u Q I rx ry ⟨_,_,rfl,rfl,⟨h1,by omega,h3⟩,cB.dm sm (cj _) k⟩
 .cases he
theorem aA{o:Op}{op:Operator}(ho:dW X (binaryOp op) (rD X.K (qm o)))(ha:SX X c a pa)(hb:SX X c b pb):SX X c (.BinOp a op b pos) (.bin o pa pb):=sI (fun h1 h2=>T5 ho h1 h2) ha hb (fun ρ=>rfl) rfl
theorem mG(ha:SX X c a pa):SX X c (.UnaryOp .USub a pos) (.neg pa):=by refine QT (f:=Ce) (fun h1=>U7 ?_ h1) ha (fun ρ=>rfl) rfl;rintro pins s σ H x v Q I rx⟨F,d,r,sm,px,he,k⟩;unfold Ce at he;obtain⟨i,e1,e2⟩:=map_some he;subst e2;cases d<;>cases e1;rw[px.int]at rx;exact Qh pins s σ H _ v Q I rx ⟨_,rfl,cB.dm sm (cj _) k⟩
theorem yz{op:CmpOp}{f:Int->Int->Bool}(ho:dW X (compareOp op) (G4 fun i j=>.bl (f i j))):dW X (compareOp op) (rD X.K fun x y=>(Hb f x y).map fun k=>.val (.bl k)):=by
 rintro pins s σ H x y v u Q I rx ry⟨F,d,e,r,sm,px,py,he,k⟩;obtain⟨t,e1,e2⟩:=map_some (show(Hb f d e).map _=some r from he);subst e2;unfold Hb at e1;split at e1;.cases e1;rw[px.int]at rx;rw[py.int]at ry;exact ho pins s σ H _ _ v u Q I rx ry ⟨_,_,rfl,rfl,cB.dm sm (dX _) k⟩
 .cases e1
theorem xP{op:CmpOp}{f:Int->Int->Bool}(ho:dW X (compareOp op) (G4 fun i j=>.bl (f i j))){o:Cm}(hc:cm o=Hb f):dW X (compareOp op) (rD X.K (mL o)):=by
 have e:mL o=fun x y=>(Hb f x y).map fun k=>.val (.bl k):=by funext x y;unfold mL;rw[hc]
 rw[e];exact yz ho
theorem Pj:dW X (compareOp .Lt) (rD X.K fun x y=>(Hb (fun i j=>decide (i<j)) x y).map fun k=>.val (.bl k)):=yz Vd
theorem xK:dW X (compareOp .LtE) (rD X.K (mL .le)):=xP V5 rfl
theorem iC:dW X (compareOp .Gt) (rD X.K (mL .gt)):=xP Ua rfl
theorem M7:dW X (compareOp .GtE) (rD X.K (mL .ge)):=xP Ub rfl
theorem qM{K:PySem.W.Frag}{F H:Hp}{v:V}{d:D}(h:cU K F H v d):decide (v=.non)=gR d:=by cases d with
 |non=>rw[h.non];rfl|bl _=>rw[h.bl];rfl|int _=>rw[h.int];rfl|str _=>rw[h.str];rfl|tup _=>
   rcases h with h|⟨a,_,_,rfl,_⟩;.rw[Rep]at h;obtain⟨a,_,rfl,_⟩:=h;rfl
   .rfl|lst _=>
   rcases h with h|⟨a,_,_,rfl,_⟩;.rw[Rep]at h;obtain⟨a,_,rfl,_⟩:=h;rfl
   .rfl|cY _=>
   rcases h with h|⟨a,_,_,rfl,_⟩;.rw[Rep]at h;obtain⟨a,_,rfl,_⟩:=h;rfl
   .rfl|dv _ _=>
   rcases h with h|⟨a,_,_,rfl,_⟩;.rw[Rep]at h;obtain⟨a,_,_,rfl,_⟩:=h;rfl
   .rfl
theorem Dp:dW X (compareOp .Is) (rD X.K (mL .Wx)):=by
 rintro pins s σ H x y v u Q I rx ry⟨F,d,e,r,sm,px,py,he,k⟩;obtain⟨t,e1,e2⟩:=map_some (show(Ri false d e).map _=some r from he);subst e2;unfold Ri at e1;split at e1;.cases e1;exact Qx pins s σ H x y v u Q I rx ry ⟨py.non,by rw[qM px];exact cB.dm sm (dX _) k⟩
 .cases e1
theorem sG:dW X (compareOp .IsNot) (rD X.K (mL .Bt)):=by
 rintro pins s σ H x y v u Q I rx ry⟨F,d,e,r,sm,px,py,he,k⟩;obtain⟨t,e1,e2⟩:=map_some (show(Ri true d e).map _=some r from he);subst e2;unfold Ri at e1;split at e1;.cases e1;exact Hn pins s σ H x y v u Q I rx ry ⟨py.non,by rw[qM px];exact cB.dm sm (dX _) k⟩
 .cases e1
theorem jR{o:Cm}{op:CmpOp}(ho:dW X (compareOp op) (rD X.K (mL o)))(ha:SX X c a pa)(hb:SX X c b pb)(hm:behindInMarks op b=false):SX X c (.Compare a [op] [b] pos) (.cmp o pa pb):=sI (fun h1 h2=>Hk ho h1 h2 hm) ha hb (fun ρ=>rfl) rfl
end
section
variable{X:Cx}{c:Call}{e a b d:Expr}{p pa pb pd:P}{pos:Pos}{rest:List Expr}
theorem pF{x:D}{k:Bool}(h:tX x=some k):x=.bl k:=by cases x<;>cases h;rfl
theorem dI{x:D}{k:Int}(h:iQ x=some k):x=.int k:=by cases x<;>cases h;rfl
theorem cJ.bool{K:PySem.W.Frag}{F' H' H:Hp}{ρ' ρ:List Sl}{σ' σ:L2.St}{v:V}{r:R}{k:Bool}(h:cJ K F' ρ' σ' H' ρ σ H v r)(e:r.d=.bl k):v=.bl k:=by cases r with|val d=>cases(show d=.bl k from e);have h:Rep K F' v (.bl k):=h;rw[Rep]at h;exact h|own ds=>cases e
def ST(X:Cx)(c:Call)(e:Expr)(p:P):Prop:=PT X e (BR X.K (iu (HH.ev c p)))
def SW(X:Cx)(c:Call)(e:Expr)(p:P):Prop:=PW X e (BR X.K (iu (HH.ev c p)))
theorem SW.st(h:SW X c e p):ST X c e p:=PW.pt h
theorem jZ{t:TE}{Q:Bool->Hp->Prop}{σ:L2.St}{H:Hp}(hi:∀Q,uq X.K (HH.ev c p) σ H Q->t σ H Q)(h:BR X.K (iu (HH.ev c p)) σ H Q):t σ H fun x H1=>∃k,x=.bl k/\Q k H1:=by obtain⟨F,ρ,k,ρ',g,e,q⟩:=h;obtain⟨r,ρ1,e1,e2⟩:=ak e;have zz:=aD e2;clear e2;obtain⟨e2,e3⟩:=zz;subst e3;exact hi _ ⟨F,ρ,r,ρ1,g,e1,fun v F' H' s rr=>⟨k,rr.bool (pF e2),q F' H' s⟩⟩
theorem cZ(h:SX X c e p)(he:∀whole,isTrue e X.env whole=(do let v<-whole;standAt e.pos;holding [v] (truthy v)):=by intro _;rfl):ST X c e p:=qW (QV h.ev he) fun σ H Q q=>jZ (fun _ z=>z) q
theorem aX{o:Cm}{op:CmpOp}(ho:dW X (compareOp op) (rD X.K (mL o)))(ha:SX X c a pa)(hb:SX X c b pb)(hm:behindInMarks op b=false):ST X c (.Compare a [op] [b] pos) (.cmp o pa pb):=by obtain⟨ta,tb,h1,h2,h3⟩:=ha.ig hb;refine qW (zG ho h1 h2 hm) fun σ H Q q=>jZ (t:=Qt (rD X.K (mL o)) ta tb) (fun Q z=>?_) q;obtain⟨F,ρ,r,ρ',g,e,k⟩:=z;rw[HH.E8]at e;obtain⟨xy,ρ1,e1,e2⟩:=ak e;have zz:=aD e2;clear e2;obtain⟨e2,e3⟩:=zz;subst e3;refine h3 g e1 fun v u F' H' s pv pu=>⟨F',xy.1,xy.2,r,s.gs.sub,pv,pu,e2,fun w F2 H2 x rn=>?_⟩;exact k w F2 H2 (s.trans (x.stp s.gs)) (.later s (rn.nF s.gs))
theorem fY(ha:ST X c a pa):ST X c (.UnaryOp .Not a pos) (.not pa):=by
 refine qW (Pq ha) ?_;rintro σ H Q⟨F,ρ,k,ρ',g,e,q⟩;unfold iu at e;rw[HH.E5]at e;obtain⟨r,ρ1,e1,e2⟩:=ak e;obtain⟨k',ρ2,e3,e4⟩:=ak e1;cases e4;have zz:=aD e2;clear e2;obtain⟨e2,e5⟩:=zz;subst e5;have e2:(!k')=k:=by cases e2;rfl
 exact⟨F,ρ,k',_,g,e3,fun F' H' s=>by show Q (!k') H';rw[e2];exact q F' H' s⟩
theorem JH(ρ:List Sl):iu (HH.ev c (.and pa pb)) ρ=(iu (HH.ev c pa) ρ).bind fun x ρ=>if x then iu (HH.ev c pb) ρ else .ok false ρ:=by unfold iu;rw[HH.E6];unfold iu;cases HH.ev c pa ρ with|exc _ _=>rfl|stuck=>rfl|ok r ρ1=>simp only[Res.bind];cases h:tX r.d with|none=>rfl|some k=>cases k with|false=>rfl|true=>simp only[lift,if_true];cases HH.ev c pb ρ1 with|exc _ _=>rfl|stuck=>rfl|ok r2 ρ2=>simp only[Res.bind];cases h2:tX r2.d with|none=>rfl|some k2=>rfl
theorem Qm(ρ:List Sl):iu (HH.ev c (.or pa pb)) ρ=(iu (HH.ev c pa) ρ).bind fun x ρ=>if x then .ok true ρ else iu (HH.ev c pb) ρ:=by unfold iu;rw[HH.E7];unfold iu;cases HH.ev c pa ρ with|exc _ _=>rfl|stuck=>rfl|ok r ρ1=>simp only[Res.bind];cases h:tX r.d with|none=>rfl|some k=>cases k with|true=>rfl|false=>simp only[lift,false_eq_true,if_false];cases HH.ev c pb ρ1 with|exc _ _=>rfl|stuck=>rfl|ok r2 ρ2=>simp only[Res.bind];cases h2:tX r2.d with|none=>rfl|some k2=>rfl
theorem zE(ha:ST X c a pa):SW X c (.BoolOp .And [a] pos) pa:=Jo ha
theorem ir(ha:ST X c a pa):SW X c (.BoolOp .Or [a] pos) pa:=Qv ha
theorem Cr(ha:ST X c a pa)(hb:SW X c (.BoolOp .And (b::rest) pos) pb):SW X c (.BoolOp .And (a::b::rest) pos) (.and pa pb):=by refine Kv (MF ha hb) ?_;rintro σ H Q⟨F,ρ,k,ρ',g,e,q⟩;rw[JH]at e;obtain⟨x,ρ1,e1,e⟩:=ak e;refine⟨F,ρ,x,ρ1,g,e1,fun F1 H1 s1=>?_⟩;cases x with|true=>rw[if_pos rfl]at e ⊢;exact⟨F1,ρ1,k,ρ',s1.gs,e,fun F2 H2 s2=>q F2 H2 (s1.trans s2)⟩|false=>rw[if_neg Bool.false_ne_true]at e ⊢;cases e;exact q F1 H1 s1
theorem iD(ha:ST X c a pa)(hb:SW X c (.BoolOp .Or (b::rest) pos) pb):SW X c (.BoolOp .Or (a::b::rest) pos) (.or pa pb):=by refine Kv (Wr ha hb) ?_;rintro σ H Q⟨F,ρ,k,ρ',g,e,q⟩;rw[Qm]at e;obtain⟨x,ρ1,e1,e⟩:=ak e;refine⟨F,ρ,x,ρ1,g,e1,fun F1 H1 s1=>?_⟩;cases x with|true=>rw[if_pos rfl]at e ⊢;cases e;exact q F1 H1 s1|false=>rw[if_neg Bool.false_ne_true]at e ⊢;exact⟨F1,ρ1,k,ρ',s1.gs,e,fun F2 H2 s2=>q F2 H2 (s1.trans s2)⟩
theorem Qy(ha:SX X c a pa):SX X c (.UnaryOp .Not a pos) (.not pa):=by refine⟨dZ (Qn ha.ev) ?_,fun i h=>by cases h⟩;rintro σ H Q⟨F,ρ,r,ρ',g,e,k⟩;rw[HH.E5]at e;obtain⟨x,ρ1,e1,e2⟩:=ak e;cases e2;exact jZ (c:=c) (fun _ z=>z) ⟨F,ρ,x,_,g,e1,fun F' H' s=>k _ F' H' s (show Rep X.K F' _ _ from dX _)⟩
theorem zp{op}(ha:SX X c a pa):PE X (.BoolOp op [a] pos) (uq X.K (HH.ev c pa)):=QM ha.ev
theorem wR(ha:SX X c a pa)(hb:PE X (.BoolOp .And (b::rest) pos) (uq X.K (HH.ev c pb))):SX X c (.BoolOp .And (a::b::rest) pos) (.and pa pb):=by refine⟨dZ (Oj ha.ev hb) ?_,fun i h=>by cases h⟩;rintro σ H Q⟨F,ρ,r,ρ',g,e,k⟩;rw[HH.E6]at e;obtain⟨x,ρ1,e1,e⟩:=ak e;refine jZ (c:=c) (fun _ z=>z) (Q:=fun x H1=>if x=true then uq X.K (HH.ev c pb) σ H1 Q else Q (.bl false) H1) ⟨F,ρ,x,ρ1,g,e1,fun F1 H1 s1=>?_⟩;cases x with|true=>rw[if_pos rfl]at e ⊢;obtain⟨y,ρ2,e2,e3⟩:=ak e;cases e3;obtain⟨r2,ρ3,e4,e5⟩:=ak e2;have zz:=aD e5;clear e5;obtain⟨e5,e6⟩:=zz;subst e6;refine⟨F1,ρ1,r2,_,s1.gs,e4,fun v F2 H2 s2 rr=>?_⟩;rw[rr.bool (pF e5)];exact k _ F2 H2 (s1.trans s2) (show Rep X.K F2 _ _ from dX _)|false=>rw[if_neg Bool.false_ne_true]at e ⊢;cases e;exact k _ F1 H1 s1 (show Rep X.K F1 _ _ from dX _)
theorem tM(hc:ST X c e p)(ha:SX X c a pa)(hb:SX X c b pb):SX X c (.IfExp e a b pos) (.LC p pa pb):=by refine⟨dZ (CK hc ha.ev hb.ev) ?_,fun i h=>by cases h⟩;rintro σ H Q⟨F,ρ,r,ρ',g,e,k⟩;rw[HH.E10]at e;obtain⟨x,ρ1,e1,e⟩:=ak e;refine⟨F,ρ,x,ρ1,g,e1,fun F1 H1 s1=>?_⟩;cases x with|true=>rw[if_pos rfl]at e ⊢;obtain⟨r2,ρ2,e2,e3⟩:=ak e;cases e3;refine⟨F1,ρ1,r2,_,s1.gs,e2,fun v F2 H2 s2 rr=>?_⟩;obtain⟨F3,s3,_,rp⟩:=s2.cW rr;exact k v F3 H2 (s1.trans s3) rp|false=>rw[if_neg Bool.false_ne_true]at e ⊢;obtain⟨r2,ρ2,e2,e3⟩:=ak e;cases e3;refine⟨F1,ρ1,r2,_,s1.gs,e2,fun v F2 H2 s2 rr=>?_⟩;obtain⟨F3,s3,_,rp⟩:=s2.cW rr;exact k v F3 H2 (s1.trans s3) rp
theorem rM:∀{ps:List P}{ρ ρ':List Sl}{ds:List D},evs c ps ρ=.ok ds ρ'->ds.length=ps.length|[],_,_,_,h=>by rw[evs]at h;cases h;rfl|p::ps,_,_,_,h=>by rw[evs]at h;obtain⟨r,ρ1,_,h⟩:=ak h;obtain⟨xs,ρ2,h2,h⟩:=ak h;cases h;simp[rM h2]
theorem aR:SA X c [] []:=⟨u9 dR fun σ H Q⟨F,ρ,ds,ρ',g,e,k⟩=>by rw[evs]at e;cases e;exact k [] F H (.refl g) .nil,rfl⟩
theorem yQ{es:List Expr}{ps:List P}(ha:SX X c a pa)(hr:SA X c es ps)(hs:starEach (a::es) X.env=(false,eval a X.env)::starEach es X.env:=by rfl):SA X c (a::es) (pa::ps):=by refine⟨u9 (cz ha.ev hr.1 hs) ?_,by simp[hr.2]⟩;rintro σ H Q⟨F,ρ,ds,ρ',g,e,k⟩;rw[evs]at e;obtain⟨r,ρ1,e1,e⟩:=ak e;obtain⟨xs,ρ2,e2,e⟩:=ak e;cases e;refine⟨F,ρ,r,ρ1,g,e1,fun v F' H' s rr=>?_⟩;obtain⟨F1,s1,_,rp⟩:=s.cW rr;refine⟨F1,ρ1,xs,_,s1.gs,e2,fun vs F2 H2 s2 rs=>?_⟩;exact k _ F2 H2 (s1.trans s2) (.cons (rp.mono s2.bU) rs)
theorem Ext.Jv{K:PySem.W.Frag}{F H:Hp}{ρ ρ':List Sl}{σ:L2.St}{H0 F0:Hp}{Q:VK}{xs:List V}{ds:List D}(s:aJ K F0 ρ σ H0 F ρ' σ H)(r:aF K F xs ds)(k:∀v F' H',aJ K F0 ρ σ H0 F' ρ' σ H'->cJ K F' ρ' σ H' ρ σ H0 v (.val (.tup ds))->Q v H')(p:Addr)(hp:H p=none):Q (.ref p) (upd H p (.tup xs)):=yc s.gs.sub r hp fun v F' H' x rn=>k v F' H' (s.trans (x.stp s.gs)) rn
theorem cA{es:List Expr}{ps:List P}{x1}(h:SA X c es ps)(hz:ps.length<=sizeLine:=by decide):SX X c (.Tuple es x1 pos) (.tup ps):=by refine⟨dZ (QD h.1) ?_,fun i h=>by cases h⟩;rintro σ H Q⟨F,ρ,r,ρ',g,e,k⟩;rw[HH.E11]at e;obtain⟨ds,ρ1,e1,e⟩:=ak e;cases e;exact⟨F,ρ,ds,_,g,e1,fun vs F' H' s rs=>⟨by rw[rs.length,rM e1];exact hz,fun p hp=>Ext.Jv s rs k p hp⟩⟩
theorem cg{es:List Expr}{ps:List P}(h:SA X c es ps)(hz:ps.length<=sizeLine:=by decide):SX X c (.List es pos) (.lst ps):=by refine⟨dZ (Mv h.1) ?_,fun i h=>by cases h⟩;rintro σ H Q⟨F,ρ,r,ρ',g,e,k⟩;rw[HH.E12]at e;obtain⟨ds,ρ1,e1,e⟩:=ak e;cases e;exact⟨F,ρ,ds,_,g,e1,fun vs F' H' s rs=>⟨by rw[rs.length,rM e1];exact hz,fun p hp=>vd s.gs.sub rs hp fun v F2 H2 x rn=>k v F2 H2 (s.trans (x.stp s.gs)) (.later s (rn.nF s.gs))⟩⟩
theorem Fo{ds:List D}{i:Int}{d:D}(h:at' ds i=some d):∃j,L2.gq ds.length i=some j/\ds[j]?=some d:=cC h
theorem abN:W9 X (rD X.K Aa):=by
 rintro value slice pins s σ H x y v u Q I rx ry⟨F,d,e,r,sm,px,py,he,k⟩hs;unfold Aa at he;obtain⟨ds,e1,he⟩:=cC he;obtain⟨i,e2,he⟩:=cC he;obtain⟨z,e3,he⟩:=map_some he;subst he;cases dI e2;rw[py.int]at ry;obtain⟨p,xs,rfl,hq,rs⟩:=px.items sm e1;obtain⟨j,h1,h2⟩:=Fo e3;obtain⟨w,h3,h4⟩:=rs.get h2;have hat:Dd xs i=some w:=by unfold Dd;rw[rs.length,h1];exact h3
 rcases hq with hq|hq;.exact yJ value slice pins s σ H _ _ v u Q I rx ry ⟨p,xs,i,w,rfl,rfl,hq,hat,cB.dm sm h4 k⟩ hs
 .exact PN value slice pins s σ H _ _ v u Q I rx ry ⟨p,xs,i,w,rfl,rfl,hq,hat,cB.dm sm h4 k⟩ hs
theorem ao(ha:SX X c a pa)(hb:SX X c b pb)(hs:tQ b:=by intro _ _;rfl):SX X c (.Subscript a b pos) (.idx pa pb):=sI (f:=Aa) (fun h1 h2=>Ls abN h1 h2 hs) ha hb (fun ρ=>rfl) rfl
def Ho(K:PySem.W.Frag)(f:D->Option R):List V->Hp->VK->Prop:=fun xs H Q=>∃x,xs=[x]/\rD1 K f x H Q
theorem mX{E:Expr}{f:D->Option R}{q:P}(hp:∀{t},PA X [a] t->PE X E (YS (Ho X.K f) t))(ha:SX X c a pa)(hq:∀ρ,HH.ev c q ρ=(HH.cR (isVar pa) (HH.ev c pa) ρ).bind fun x ρ=>lift (f x) ρ)(hv:isVar q=none)(hs:starEach [a] X.env=(false,eval a X.env)::starEach [] X.env:=by rfl):SX X c E q:=by obtain⟨ta,h1,h3⟩:=ha.cR;refine⟨dZ (hp (cz h1 dR hs)) ?_,fun i h=>by rw[hv]at h;cases h⟩;rintro σ H Q⟨F,ρ,r,ρ',g,e,k⟩;rw[hq]at e;obtain⟨x,ρ1,e1,e2⟩:=ak e;have zz:=aD e2;clear e2;obtain⟨e2,e3⟩:=zz;subst e3;refine h3 g e1 fun v F' H' s pv=>⟨v,rfl,F',x,r,s.gs.sub,pv,e2,fun w F2 H2 x rn=>?_⟩;exact k w F2 H2 (s.trans (x.stp s.gs)) (.later s (rn.nF s.gs))
theorem UL:eO X (.builtin "len") (Ho X.K fun x=>blt .len [x]):=by rintro pins s σ H xs us Q I r⟨x,hx,F,d,r',sm,px,he,k⟩;obtain⟨ds,e1,he⟩:=map_some (show(items d).map _=some r' from he);subst he;obtain⟨p,ys,rfl,hq,rs⟩:=px.items sm e1;exact sr pins s σ H xs us Q I r ⟨p,ys,hx,hq,by rw[rs.length];exact cB.dm sm (cj _) k⟩
theorem NK:eO X (.type "list") (Ho X.K fun x=>blt .list [x]):=by rintro pins s σ H xs us Q I r⟨x,hx,F,d,r',sm,px,he,k⟩;obtain⟨ds,e1,he⟩:=map_some (show(items d).map _=some r' from he);subst he;obtain⟨p,ys,rfl,hq,rs⟩:=px.items sm e1;exact sE pins s σ H xs us Q I r ⟨p,ys,hx,hq,fun l hl=>vd sm rs hl k⟩
theorem HS:eO X (.type "tuple") (Ho X.K fun x=>blt .tuple [x]):=by rintro pins s σ H xs us Q I r⟨x,hx,F,d,r',sm,px,he,k⟩;obtain⟨ds,e1,he⟩:=map_some (show(items d).map _=some r' from he);subst he;cases d with|tup es=>cases e1;obtain⟨a,ys,rfl,hq,rs,rt⟩:=px.tup sm;exact jO pins s σ H xs us Q I r ⟨a,ys,hx,.inr ⟨hq,cB.dm sm rt k⟩⟩|lst es=>cases e1;obtain⟨a,ys,rfl,hq,rs⟩:=px.lst sm;exact jO pins s σ H xs us Q I r ⟨a,ys,hx,.inl ⟨hq,fun l hl=>yc sm rs hl k⟩⟩|_=>cases e1
theorem dC{x:Str}{p':Pos}(hx:x="len")(hg:Gl X x)(hm:X.mg x=none)(ha:SX X c a pa)(hs:starEach [a] X.env=(false,eval a X.env)::starEach [] X.env:=by rfl):SX X c (.Call (.Name x p') [a] [] pos) (.blt .len [pa]):=by subst hx;exact mX (fun h=>fO UL hg hm PySem.boot_len h (he:=hs)) ha (fun ρ=>rfl) rfl hs
theorem oE{x:Str}{p':Pos}(hx:x="list")(hg:Gl X x)(hm:X.mg x=none)(ha:SX X c a pa)(hs:starEach [a] X.env=(false,eval a X.env)::starEach [] X.env:=by rfl):SX X c (.Call (.Name x p') [a] [] pos) (.blt .list [pa]):=by subst hx;exact mX (fun h=>mj NK hg hm (by decide+kernel) h (he:=hs)) ha (fun ρ=>rfl) rfl hs
theorem gP{x:Str}{p':Pos}(hx:x="tuple")(hg:Gl X x)(hm:X.mg x=none)(ha:SX X c a pa)(hs:starEach [a] X.env=(false,eval a X.env)::starEach [] X.env:=by rfl):SX X c (.Call (.Name x p') [a] [] pos) (.blt .tuple [pa]):=by subst hx;exact mX (fun h=>mj HS hg hm (by decide+kernel) h (he:=hs)) ha (fun ρ=>rfl) rfl hs
end
def gw(K:PySem.W.Frag)(np:Nat)(f:List Sl->Res R):Sp:=fun vs H Q _=>vs.length=np/\∃F args r args',GS K F args (vs.map some) H/\f args=.ok r args'/\∀v F' σ' H',aJ K F args (vs.map some) H F' args' σ' H'->cJ K F' args' σ' H' args (vs.map some) H v r->Q v H'
section
variable{K:PySem.W.Frag}
def xT(K:PySem.W.Frag)(F:Hp)(ρ:List Sl)(σ:L2.St)(H:Hp)(ρ₀:List Sl)(H₀:Hp)(v:V):Arg->Prop|.dat d=>Rep K F v d|.tmp ds=>∃x xs,v=.ref x/\H x=some (.lst xs)/\F x=none/\aF K F xs ds/\¬ Own ρ σ x/\(Own ρ₀ σ x\/H₀ x=none)|.eX i=>σ[i]?=some (some v)
structure vB(K:PySem.W.Frag)(F:Hp)(ρ:List Sl)(σ:L2.St)(H:Hp)(ρ₀:List Sl)(H₀:Hp)(as:List Arg)(vs:List V):Prop where
 len:as.length=vs.length
 one:∀(j:Nat)(a:Arg)(v:V),as[j]?=some a->vs[j]?=some v->xT K F ρ σ H ρ₀ H₀ v a
 dis:∀(j k:Nat)(ds es:List D)(x:Addr),as[j]?=some (.tmp ds)->as[k]?=some (.tmp es)->vs[j]?=some (.ref x)->vs[k]?=some (.ref x)->j=k
theorem xT.later{F F' H H' H₀:Hp}{ρ ρ' ρ₀:List Sl}{σ:L2.St}{v:V}{a:Arg}(s:aJ K F ρ σ H F' ρ' σ H')(h:xT K F ρ σ H ρ₀ H₀ v a):xT K F' ρ' σ H' ρ₀ H₀ v a:=by cases a with|dat d=>exact Rep.mono s.bU h|eX i=>exact h|tmp ds=>
   obtain⟨x,xs,h1,h2,h3,h4,h5,h6⟩:=h;refine⟨x,xs,h1,s.keep x _ h2 h5,?_,h4.mono s.bU,fun o=>?_,h6⟩;.cases q:F' x with|none=>rfl|some o=>
       rcases s.vQ x h3 (by rw[q];simp)with z|z;.exact absurd z h5
       .exact(Gd h2 z).elim
   . rcases s.ur x o with z|z;.exact h5 z
     .rw[h2]at z;cases z
theorem vB.nil{F H H₀:Hp}{ρ ρ₀:List Sl}{σ:L2.St}:vB K F ρ σ H ρ₀ H₀ [] []:=⟨rfl,fun j a v h=>by simp at h,fun j k ds es x h=>by simp at h⟩
theorem vB.cons{F H H₀:Hp}{ρ ρ₀:List Sl}{σ:L2.St}{a:Arg}{v:V}{as:List Arg}{vs:List V}(h:xT K F ρ σ H ρ₀ H₀ v a)(t:vB K F ρ σ H ρ₀ H₀ as vs)(hd:∀ds x,a=.tmp ds->v=.ref x->∀(k:Nat)es,as[k]?=some (.tmp es)->vs[k]?≠some (.ref x)):vB K F ρ σ H ρ₀ H₀ (a::as) (v::vs):=by
 refine⟨by simp[t.len],fun j b u h1 h2=>?_,fun j k ds es x h1 h2 h3 h4=>?_⟩;.cases j with|zero=>simp at h1 h2;subst h1;subst h2;exact h|succ j=>exact t.one j b u (by simpa using h1) (by simpa using h2)
 .cases j with
   |zero=>cases k with|zero=>rfl|succ k=>simp at h1 h3;exact absurd (by simpa using h4) (hd ds x h1 h3 k es (by simpa using h2))
   |succ j=>cases k with|zero=>simp at h2 h4;exact absurd (by simpa using h3) (hd es x h2 h4 j ds (by simpa using h1))|succ k=>rw[t.dis j k ds es x (by simpa using h1) (by simpa using h2) (by simpa using h3) (by simpa using h4)]
def Gs(ρ:List Sl):Arg->Sl->Prop|.dat d,s=>s=.val false d|.tmp ds,s=>s=.own false ds|.eX i,s=>(∃b d,ρ[i]?=some (.val b d)/\s=.val false d)\/(∃b ds,ρ[i]?=some (.own b ds)/\s=.own true ds)\/∃ds,ρ[i]?=some (.lent ds)/\s=.lent ds
theorem oJ{ρ:List Sl}:∀{as:List Arg}{used:List Nat}{args:List Sl},bO ρ as used=some args->args.length=as.length/\(∀(j:Nat)(a:Arg)(s:Sl),as[j]?=some a->args[j]?=some s->Gs ρ a s)/\(∀(j:Nat)(i:Nat)(s:Sl)ds,as[j]?=some (.eX i)->args[j]?=some s->lst? s=some ds->i∉used)/\(∀(j k:Nat)(i:Nat)(s t:Sl)ds es,as[j]?=some (.eX i)->as[k]?=some (.eX i)->args[j]?=some s->args[k]?=some t->lst? s=some ds->lst? t=some es->j=k)
 |[],used,args,h=>by rw[bO]at h;cases h;exact⟨rfl,fun j a s h=>by simp at h,fun j i s ds h=>by simp at h,fun j k i s t ds es h=>by simp at h⟩|a::as,used,args,h=>by--the acH slot,the acI
   have key:∃s0 r vR,args=s0::r/\bO ρ as vR=some r/\Gs ρ a s0/\((∃i ds,a=.eX i/\lst? s0=some ds/\vR=i::used/\i∉used)\/((∀i ds,a=.eX i->lst? s0≠some ds)/\vR=used)):=by cases a with|dat d=>rw[bO]at h;obtain⟨r,e1,e2⟩:=map_some h;exact⟨_,r,used,e2.symm,e1,rfl,.inr ⟨fun i ds z=>(by cases z),rfl⟩⟩|tmp d=>rw[bO]at h;obtain⟨r,e1,e2⟩:=map_some h;exact⟨_,r,used,e2.symm,e1,rfl,.inr ⟨fun i ds z=>(by cases z),rfl⟩⟩|eX i=>
      rw[bO]at h;split at h;.rename_i b d q;obtain⟨r,e1,e2⟩:=map_some h;exact⟨_,r,used,e2.symm,e1,.inl ⟨b,d,q,rfl⟩,.inr ⟨fun _ _ _ z=>(by cases z),rfl⟩⟩
      . rename_i b ds q;split at h;.cases h
        .rename_i hu;obtain⟨r,e1,e2⟩:=map_some h;exact⟨_,r,_,e2.symm,e1,.inr (.inl ⟨b,ds,q,rfl⟩),.inl ⟨i,_,rfl,rfl,rfl,by simpa using hu⟩⟩
      . rename_i ds q;split at h;.cases h
        .rename_i hu;obtain⟨r,e1,e2⟩:=map_some h;exact⟨_,r,_,e2.symm,e1,.inr (.inr ⟨ds,q,rfl⟩),.inl ⟨i,_,rfl,rfl,rfl,by simpa using hu⟩⟩
      .cases h
   obtain⟨s0,r,vR,rfl,hr,hs0,hu⟩:=key;obtain⟨l1,l2,l3,l4⟩:=oJ hr;have sub:∀i,i∉vR->i∉used:=fun i hi hm=>by
    rcases hu with⟨_,_,_,_,rfl,_⟩|⟨_,rfl⟩;.exact hi (mem_cons_of_mem _ hm)
    .exact hi hm
   refine⟨by simp[l1],fun j b s h1 h2=>?_,fun j i s ds h1 h2 h3=>?_,fun j k i s t ds es h1 h2 h3 h4 h5 h6=>?_⟩;.cases j with|zero=>simp at h1 h2;subst h1;subst h2;exact hs0|succ j=>exact l2 j b s (by simpa using h1) (by simpa using h2)
   .cases j with|zero=>
       simp at h1 h2;subst h1;subst h2;rcases hu with⟨i',_,e,_,_,hn⟩|⟨hn,_⟩;.cases e;exact hn
       .exact absurd h3 (hn i ds rfl)|succ j=>exact sub i (l3 j i s ds (by simpa using h1) (by simpa using h2) h3)
   . have z0:∀(k:Nat)(t:Sl)es,a=.eX i->lst? s0=some ds->(as[k]?=some (.eX i))->r[k]?=some t->lst? t=some es->False:=fun k t es ea e0 hk ht he=>by
      rcases hu with⟨i',_,e,_,rfl,hn⟩|⟨hn,_⟩;.rw[ea]at e;cases e;exact l3 k i t es hk ht he mem_cons_self
      .exact hn i ds ea e0
     have z1:∀(k:Nat)(t:Sl)es,a=.eX i->lst? s0=some es->(as[k]?=some (.eX i))->r[k]?=some t->lst? t=some ds->False:=fun k t es ea e0 hk ht he=>by
      rcases hu with⟨i',_,e,_,rfl,hn⟩|⟨hn,_⟩;.rw[ea]at e;cases e;exact l3 k i t ds hk ht he mem_cons_self
      .exact hn i es ea e0
     cases j with
     |zero=>cases k with|zero=>rfl|succ k=>simp at h1 h3;subst h3;exact(z0 k t es h1 h5 (by simpa using h2) (by simpa using h4) h6).elim
     |succ j=>cases k with|zero=>simp at h2 h4;subst h4;exact(z1 j s es h2 h6 (by simpa using h1) (by simpa using h3) h5).elim|succ k=>rw[l4 j k i s t ds es (by simpa using h1) (by simpa using h2) (by simpa using h3) (by simpa using h4) h5 h6]
theorem vB.get{F H H₀:Hp}{ρ ρ₀:List Sl}{σ:L2.St}{as:List Arg}{vs:List V}(A:vB K F ρ σ H ρ₀ H₀ as vs){args:List Sl}{j:Nat}{s:Sl}(hl:args.length=as.length)(h:args[j]?=some s):∃a v,as[j]?=some a/\vs[j]?=some v/\xT K F ρ σ H ρ₀ H₀ v a:=by
 have hj:j<args.length:=(List.getElem?_eq_some_iff.mp h).1;have h1:j<as.length:=by omega
 have h2:j<vs.length:=by rw[<-A.len];exact h1
 exact⟨as[j],vs[j],by simp[h1],by simp[h2],A.one j _ _ (by simp[h1]) (by simp[h2])⟩
theorem args_gs{F H H₀:Hp}{ρ ρ₀:List Sl}{σ:L2.St}{as:List Arg}{vs:List V}{args:List Sl}(g:GS K F ρ σ H)(A:vB K F ρ σ H ρ₀ H₀ as vs)(h:bO ρ as []=some args):GS K F args (vs.map some) H:=by
 obtain⟨l1,l2,l3,l4⟩:=oJ h;have up:∀{j:Nat}{v:V},vs[j]?=some v->(vs.map some)[j]?=some (some v):=fun e=>by rw[getElem?_map,e];rfl
 have dn:∀{j:Nat}{v:V},(vs.map some)[j]?=some (some v)->vs[j]?=some v:=fun{j v}e=>by rw[getElem?_map]at e;cases q:vs[j]?with|none=>rw[q]at e;cases e|some w=>rw[q]at e;cases e;rfl
 refine⟨g.sub,by rw[l1,A.len,length_map],fun j b d e=>?_,fun j s ds e e'=>?_,fun j k x⟨⟨s,ds,e1,e2⟩,e3⟩⟨⟨t,es,f1,f2⟩,f3⟩=>?_⟩;.obtain⟨a,v,h1,h2,h3⟩:=A.get l1 e;have h4:=l2 j a _ h1 e;refine⟨v,up h2,?_⟩;cases a with|dat d'=>cases h4;exact h3|tmp ds=>cases h4|eX i=>
     rcases h4 with⟨b',d',q1,q2⟩|⟨_,_,_,q2⟩|⟨_,_,q2⟩;.cases q2;obtain⟨w,q3,q4⟩:=g.val i b' d q1;have h3:σ[i]?=some (some v):=h3;rw[h3]at q3;cases q3;exact q4
     .cases q2
     .cases q2
 .obtain⟨a,v,h1,h2,h3⟩:=A.get l1 e;have h4:=l2 j a _ h1 e;cases a with|dat d'=>cases h4;cases e'|tmp es=>cases h4;cases e';obtain⟨x,xs,rfl,q2,q3,q4,_⟩:=h3;exact⟨x,_,up h2,q2,q3,xs,rfl,q4⟩|eX i=>
     have h3:σ[i]?=some (some v):=h3;rcases h4 with⟨b',d',q1,q2⟩|⟨b',es,q1,q2⟩|⟨es,q1,q2⟩;.cases q2;cases e'
     .cases q2;cases e';obtain⟨x,xs,q3,q4⟩:=g.own i _ _ q1 rfl;rw[h3]at q3;cases q3;exact⟨x,xs,up h2,q4⟩
     .cases q2;cases e';obtain⟨x,xs,q3,q4⟩:=g.own i _ _ q1 rfl;rw[h3]at q3;cases q3;exact⟨x,xs,up h2,q4⟩
 . obtain⟨a,v,h1,h2,h3⟩:=A.get l1 e1;obtain⟨a',v',h1',h2',h3'⟩:=A.get l1 f1;have e3:=dn e3;have f3:=dn f3;rw[h2]at e3;cases e3;rw[h2']at f3;cases f3;have s1:=l2 j a _ h1 e1;have s2:=l2 k a' _ h1' f1;have nm:∀{i:Nat}{s:Sl}{ds:Oc},lst? s=some ds->Gs ρ (.eX i) s->∃s' ds',ρ[i]?=some s'/\lst? s'=some ds':=fun{i s ds}l z=>by
    rcases z with⟨_,_,_,z⟩|⟨b,es,q,_⟩|⟨es,q,_⟩;.subst z;cases l
    .exact⟨_,_,q,rfl⟩
    .exact⟨_,_,q,rfl⟩
   cases a with
   |dat d=>cases s1;cases e2|tmp Q3=>cases a' with|dat d=>cases s2;cases f2|tmp J8=>exact A.dis j k Q3 J8 x h1 h1' h2 h2'|eX i=>obtain⟨y,_,q1,_,_,_,q2,_⟩:=h3;cases q1;obtain⟨s',ds',q3,q4⟩:=nm f2 s2;exact absurd ⟨i,⟨s',ds',q3,q4⟩,h3'⟩ q2
   |eX i=>obtain⟨s',ds',q3,q4⟩:=nm e2 s1;cases a' with|dat d=>cases s2;cases f2|tmp J8=>obtain⟨y,_,q1,_,_,_,q2,_⟩:=h3';cases q1;exact absurd ⟨i,⟨s',ds',q3,q4⟩,h3⟩ q2|eX i'=>obtain⟨s'',acJ,q5,q6⟩:=nm f2 s2;have:=g.dis i i' x ⟨⟨s',ds',q3,q4⟩,h3⟩ ⟨⟨s'',acJ,q5,q6⟩,h3'⟩;subst this;exact l4 j k i s t ds es h1 h1' e1 f1 e2 f2
theorem mJ{as:List Arg}{ss:List Sl}:∀(ρ:List Sl)(n i:Nat),(cO as ss n ρ)[i]?=(ρ[i]?).map fun s=>dM s (aZ (n+i) as ss)
 |[],n,i=>by simp[cO]|s::ρ,n,0=>by simp[cO]|s::ρ,n,i+1=>by
   rw[cO];simp only[getElem?_cons_succ];rw[mJ ρ (n+1) i];have:n+1+i=n+(i+1):=by omega
   rw[this]
theorem mC{as:List Arg}{ss:List Sl}:∀(ρ:List Sl)(n:Nat),(cO as ss n ρ).length=ρ.length|[],n=>rfl|s::ρ,n=>by rw[cO];simp[mC ρ]
theorem iy{i:Nat}:∀{as:List Arg}{ss:List Sl}{t:Sl},aZ i as ss=some t->∃j:Nat,as[j]?=some (.eX i)/\ss[j]?=some t
 |[],_,_,h=>by simp[aZ]at h|a::as,[],_,h=>by cases a<;>simp[aZ]at h|a::as,s::ss,t,h=>by
   have tl:aZ i as ss=some t->∃j:Nat,(a::as)[j]?=some (.eX i)/\(s::ss)[j]?=some t:=fun h=>by obtain⟨j,h1,h2⟩:=iy h;exact⟨j+1,by simpa using h1,by simpa using h2⟩
   cases a with|dat d=>exact tl (by simpa[aZ]using h)|tmp d=>exact tl (by simpa[aZ]using h)|eX k=>
     rw[aZ]at h;split at h;.rename_i hk;cases h;subst hk;exact⟨0,rfl,rfl⟩
     .exact tl h
theorem j5{i:Nat}:∀{as:List Arg}{ss:List Sl},as.length=ss.length->aZ i as ss=none->∀j:Nat,as[j]?≠some (.eX i)
 |[],_,_,_=>fun j h=>by simp at h|a::as,[],hl,_=>by simp at hl|a::as,s::ss,hl,h=>fun j hj=>by
   have hl':as.length=ss.length:=by simpa using hl
   have tl:aZ i as ss=none/\a≠.eX i:=by cases a with|dat d=>exact⟨by simpa[aZ]using h,by simp⟩|tmp d=>exact⟨by simpa[aZ]using h,by simp⟩|eX k=>
      rw[aZ]at h;split at h;.cases h
      .rename_i hk;exact⟨h,fun e=>hk (by cases e;rfl)⟩
   cases j with|zero=>simp at hj;exact tl.2 hj|succ j=>exact j5 hl' tl.1 j (by simpa using hj)
theorem Gk{F₀ H₀ F H F' H':Hp}{ρ₀ ρ args args':List Sl}{σ σ':L2.St}{as:List Arg}{vs:List V}(s0:aJ K F₀ ρ₀ σ H₀ F ρ σ H)(A:vB K F ρ σ H ρ₀ H₀ as vs)(hb:bO ρ as []=some args)(s:aJ K F args (vs.map some) H F' args' σ' H'):aJ K F₀ ρ₀ σ H₀ F' (cO as args' 0 ρ) σ H'/\∀v r,cJ K F' args' σ' H' args (vs.map some) H v r->cJ K F' (cO as args' 0 ρ) σ H' ρ₀ σ H₀ v r:=by
 have g:=s0.gs;obtain⟨l1,l2,l3,l4⟩:=oJ hb;have up:∀{j:Nat}{v:V},vs[j]?=some v->(vs.map some)[j]?=some (some v):=fun e=>by rw[getElem?_map,e];rfl
 have dn:∀{j:Nat}{v:V},(vs.map some)[j]?=some (some v)->vs[j]?=some v:=fun{j v}e=>by rw[getElem?_map]at e;cases q:vs[j]?with|none=>rw[q]at e;cases e|some w=>rw[q]at e;cases e;rfl
 have la:as.length=args'.length:=by rw[s.len,l1]--whose are the lists that the callee holds
 have own:∀b,Own args (vs.map some) b->(∃(j:Nat)(ds:List D),as[j]?=some (Arg.tmp ds)/\vs[j]?=some (V.ref b)/\¬ Own ρ σ b/\(Own ρ₀ σ b\/H₀ b=none))\/Own ρ σ b:=fun b⟨j,⟨sl,ds,e1,e2⟩,e3⟩=>by obtain⟨a,v,h1,h2,h3⟩:=A.get l1 e1;have s1:=l2 j a _ h1 e1;have e3:=dn e3;rw[h2]at e3;cases e3;cases a with|dat d=>cases s1;cases e2|tmp es=>obtain⟨x,_,q1,_,_,_,q2,q3⟩:=h3;cases q1;exact .inl ⟨j,es,h1,h2,q2,q3⟩|eX i=>
    right;rcases s1 with⟨_,_,_,z⟩|⟨b',es,q,_⟩|⟨es,q,_⟩;.subst z;cases e2
    .exact⟨i,⟨_,_,q,rfl⟩,h3⟩
    .exact⟨i,⟨_,_,q,rfl⟩,h3⟩
 have back:∀b,Own ρ σ b\/H b=none->Own ρ₀ σ b\/H₀ b=none:=fun b h=>by
  rcases h with h|h;.exact s0.ur b h
  . by_cases ho:Own ρ₀ σ b;.exact .inl ho
    .right;cases e:H₀ b with|none=>rfl|some o=>rw[s0.keep b o e ho]at h;cases h
 have own':∀b,Own args (vs.map some) b->Own ρ₀ σ b\/H₀ b=none:=fun b h=>by
  rcases own b h with⟨_,_,_,_,_,z⟩|z;.exact z
  .exact back b (.inl z)--a name's slot behind the call
 have slot:∀{i:Nat}{t:Sl},(cO as args' 0 ρ)[i]?=some t->∃s1,ρ[i]?=some s1/\t=dM s1 (aZ i as args'):=fun{i t}h=>by rw[mJ]at h;obtain⟨s1,e1,e2⟩:=map_some h;exact⟨s1,e1,by rw[<-e2,Nat.zero_add]⟩
 have WK:∀{i:Nat}{s1:Sl},ρ[i]?=some s1->(cO as args' 0 ρ)[i]?=some (dM s1 (aZ i as args')):=fun{i s1}h=>by rw[mJ,h,Nat.zero_add];rfl--what the callee left of a list that was lent to it
 have lent:∀{i j:Nat}{s1 t:Sl}{ds:List D},ρ[i]?=some s1->lst? s1=some (.l ds)->as[j]?=some (.eX i)->args'[j]?=some t->∃v s2,σ[i]?=some (some v)/\σ'[j]?=some (some v)/\args[j]?=some s2/\lH s2 t/\((∃b,s1=.own b ds/\s2=.own true ds)\/(s1=.lent ds/\s2=.lent ds)):=fun{i j s1 t ds}h1 h2 h3 h4=>by
  have hj:j<args.length:=by rw[l1];exact(List.getElem?_eq_some_iff.mp h3).1
  have e1:args[j]?=some args[j]:=by simp[hj]
  obtain⟨a,v,q1,q2,q3⟩:=A.get l1 e1;rw[h3]at q1;cases q1;have q4:=l2 j _ _ h3 e1;have kind:(∃b,s1=.own b ds/\args[j]=.own true ds)\/(s1=.lent ds/\args[j]=.lent ds):=by
   rcases q4 with⟨_,_,z,_⟩|⟨b,es,z,z'⟩|⟨es,z,z'⟩;.rw[h1]at z;cases z;cases h2
   .rw[h1]at z;cases z;cases h2;exact .inl ⟨b,rfl,z'⟩
   .rw[h1]at z;cases z;cases h2;exact .inr ⟨rfl,z'⟩
  have lk:sU args[j]=true:=by rcases kind with⟨_,_,z⟩|⟨_,z⟩<;>rw[z]<;>rfl
  obtain⟨z1,s',z2,z3⟩:=s.lk j _ e1 lk;rw[h4]at z2;cases z2;exact⟨v,_,q3,by rw[z1];exact up q2,e1,z3,kind⟩
 have J9:∀{i:Nat}{x:Addr},bB (cO as args' 0 ρ) σ i x->bB ρ σ i x:=fun{i x}⟨⟨t,ds,e1,e2⟩,e3⟩=>by obtain⟨s1,q1,q2⟩:=slot e1;refine⟨?_,e3⟩;cases s1 with|aP=>subst q2;cases e2|val b d=>subst q2;cases e2|own b es=>exact⟨_,_,q1,rfl⟩|lent es=>exact⟨_,_,q1,rfl⟩|qx m=>exact⟨_,_,q1,rfl⟩|cV m=>exact⟨_,_,q1,rfl⟩|hold _=>subst q2;cases e2
 refine⟨?_,fun v r h=>?_⟩;rotate_left;.cases r with|val d=>exact h|own ds=>
     obtain⟨x,xs,h1,h2,h3,h4,h5,h6⟩:=h;refine⟨x,xs,h1,h2,h3,h4,fun⟨i,h⟩=>?_,?_⟩
     . have hO:=J9 h;obtain⟨⟨s1,Q3,q1,q2⟩,q3⟩:=hO;obtain⟨x',xs',w1,w2,_⟩:=g.own i s1 Q3 q1 q2;rw[q3]at w1;cases w1;rcases h6 with h6|h6
       . rcases own x h6 with⟨_,_,_,_,z,_⟩|_;.exact z ⟨i,⟨s1,Q3,q1,q2⟩,q3⟩
         .--a name was lent
           obtain⟨j,⟨sl,es,w3,w4⟩,w5⟩:=h6;obtain⟨a',v',y1,y2,y3⟩:=A.get l1 w3;have sa:=l2 j a' _ y1 w3;have w5:=dn w5;rw[y2]at w5;cases w5;cases a' with|dat d=>cases sa;cases w4|tmp es'=>obtain⟨_,_,u1,_,_,_,u2,_⟩:=y3;cases u1;exact u2 ⟨i,⟨s1,Q3,q1,q2⟩,q3⟩|eX i'=>
             have ex:∃s' ds',ρ[i']?=some s'/\lst? s'=some ds':=by
              rcases sa with⟨_,_,_,z⟩|⟨b,es,q,_⟩|⟨es,q,_⟩;.subst z;cases w4
              .exact⟨_,_,q,rfl⟩
              .exact⟨_,_,q,rfl⟩
             have:=g.dis i i' x ⟨⟨s1,Q3,q1,q2⟩,q3⟩ ⟨ex,y3⟩;subst this;have hk:∃J8,Q3=.l J8:=by
              rcases sa with⟨_,_,_,z⟩|⟨b,es,q,_⟩|⟨es,q,_⟩;.subst z;cases w4
              .rw[q1]at q;cases q;cases q2;exact⟨_,rfl⟩
              .rw[q1]at q;cases q;cases q2;exact⟨_,rfl⟩
             obtain⟨J8,rfl⟩:=hk;have hj:j<args'.length:=by rw[<-la];exact(List.getElem?_eq_some_iff.mp y1).1
             have e':args'[j]?=some args'[j]:=by simp[hj]
             obtain⟨v2,s2,u1,u2,u3,u4,u5⟩:=lent q1 q2 y1 e';rw[q3]at u1;cases u1--the slot behind the call is a list's
             obtain⟨⟨t,dt,t1,t2⟩,_⟩:=h;obtain⟨s3,t3,t4⟩:=slot t1;rw[q1]at t3;cases t3;have lo:∃t5,aZ i as args'=some t5:=by cases hl:aZ i as args' with|none=>exact absurd y1 (j5 la hl j)|some t5=>exact⟨t5,rfl⟩
             obtain⟨t5,hl⟩:=lo;obtain⟨j2,t6,t7⟩:=iy hl;have hj2:j2<args.length:=by rw[l1];exact(List.getElem?_eq_some_iff.mp t6).1
             obtain⟨_,s6,_,v2',v3',v4',v5'⟩:=lent q1 q2 t6 t7;have l4':j2=j:=by
              have a1:lst? s6=some (.l J8):=by rcases v5' with⟨_,_,z⟩|⟨_,z⟩<;>rw[z]<;>rfl
              have a2:lst? s2=some (.l J8):=by rcases u5 with⟨_,_,z⟩|⟨_,z⟩<;>rw[z]<;>rfl
              exact l4 j2 j i s6 s2 _ _ t6 y1 v3' u3 a1 a2
             subst l4';rw[e']at t7;cases t7;rw[hl]at t4;refine h5 ⟨j2,?_,u2⟩;rcases u5 with⟨b,z1,z2⟩|⟨z1,z2⟩
             . subst z1;subst z2;rcases u4 with⟨d2,z⟩|⟨d2,z⟩;.exact⟨_,.l d2,e',by rw[z];rfl⟩
               .rw[z]at t4;subst t4;cases t2
             .subst z1;subst z2;exact⟨_,.l J8,e',by rw[show args'[j2]=.lent J8 from u4];rfl⟩
       .rw[w2]at h6;cases h6
     . rcases h6 with h6|h6;.exact own' x h6
       .exact back x (.inr h6)
 refine⟨⟨s.gs.sub,by rw[mC];exact g.len,fun i b d e=>?_,fun i t ds e e'=>?_,fun i j x h1 h2=>g.dis i j x (J9 h1) (J9 h2)⟩,s0.bU.trans s.bU,fun b n n'=>?_,fun b o h n=>?_,fun b⟨i,h⟩=>back b (.inl ⟨i,J9 h⟩),by rw[mC];exact s0.len,fun i s1 h l=>?_⟩;.--data
   obtain⟨s1,q1,q2⟩:=slot e;cases s1 with|aP=>cases q2|lent es=>cases q2|qx _=>cases q2|cV _=>cases q2|hold _=>cases q2|val b' d'=>cases q2;obtain⟨v,z1,z2⟩:=g.val i b d q1;exact⟨v,z1,z2.mono s.bU⟩|own b' es=>cases hl:aZ i as args' with|none=>rw[hl]at q2;cases q2|some t=>rw[hl]at q2;obtain⟨j,z1,z2⟩:=iy hl;obtain⟨v,s2,y1,y2,y3,y4,y5⟩:=lent q1 rfl z1 z2;cases t with|aP=>cases q2|own _ _=>cases q2|lent _=>cases q2|qx _=>cases q2|cV _=>cases q2|hold _=>cases q2|val b2 d2=>cases q2;obtain⟨w,x1,x2⟩:=s.gs.val j b2 d z2;rw[y2]at x1;cases x1;exact⟨v,y1,x2⟩
 .--lists
   obtain⟨s1,q1,q2⟩:=slot e--a list that was not lent
   have stay:∀es,lst? s1=some es->(∀j:Nat,as[j]?≠some (.eX i))->t=s1->∃(a:Addr)(xs:HO),σ[i]?=some (some (V.ref a))/\H' a=some xs/\F' a=none/\jK K F' xs ds:=fun es he hn ht=>by
    subst ht;rw[he]at e';cases e';obtain⟨a,xs,z1,z2,z3,z4⟩:=g.own i _ ds q1 he;have no:¬ Own args (vs.map some) a:=fun h=>by obtain⟨j,⟨sl,es,w1,w2⟩,w3⟩:=h;obtain⟨a',v,h1,h2,h3⟩:=A.get l1 w1;have sa:=l2 j a' _ h1 w1;have w3:=dn w3;rw[h2]at w3;cases w3;cases a' with|dat d=>cases sa;cases w2|tmp es=>obtain⟨x,_,y1,_,_,_,y2,_⟩:=h3;cases y1;exact y2 ⟨i,⟨_,ds,q1,he⟩,z1⟩|eX i'=>
       have:∃s' ds',ρ[i']?=some s'/\lst? s'=some ds':=by
        rcases sa with⟨_,_,_,z⟩|⟨b,es,q,_⟩|⟨es,q,_⟩;.subst z;cases w2
        .exact⟨_,_,q,rfl⟩
        .exact⟨_,_,q,rfl⟩
       have:=g.dis i i' a ⟨⟨_,ds,q1,he⟩,z1⟩ ⟨this,h3⟩;subst this;exact hn j h1
    refine⟨a,xs,z1,s.keep a _ z2 no,?_,z4.mono s.bU⟩;cases q:F' a with|none=>rfl|some o=>
      rcases s.vQ a z3 (by rw[q];simp)with z|z;.exact absurd z no
      .rw[z2]at z;exact(Ej z4 z).elim
   cases hl:aZ i as args' with
   |none=>have hn:=j5 la hl;rw[hl]at q2;cases s1 with|aP=>subst q2;cases e'|val b' d'=>subst q2;cases e'|own b' es=>exact stay _ rfl hn q2|lent es=>exact stay _ rfl hn q2|qx m=>exact stay _ rfl hn q2|cV m=>exact stay _ rfl hn q2|hold _=>subst q2;cases e'
   |some t2=>rw[hl]at q2;obtain⟨j,z1,z2⟩:=iy hl;cases s1 with
     |aP=>subst q2;cases e'|val b' d'=>subst q2;cases e'|hold _=>subst q2;cases e'|qx m=>
       have hj:j<args.length:=by rw[l1];exact(List.getElem?_eq_some_iff.mp z1).1
       rcases l2 j _ _ z1 (show args[j]?=some args[j]by simp[hj])with⟨_,_,z,_⟩|⟨_,_,z,_⟩|⟨_,z,_⟩<;>(rw[q1]at z;cases z)|cV m=>
       have hj:j<args.length:=by rw[l1];exact(List.getElem?_eq_some_iff.mp z1).1
       rcases l2 j _ _ z1 (show args[j]?=some args[j]by simp[hj])with⟨_,_,z,_⟩|⟨_,_,z,_⟩|⟨_,z,_⟩<;>(rw[q1]at z;cases z)|own b' es=>
       obtain⟨v,s2,y1,y2,y3,y4,y5⟩:=lent q1 rfl z1 z2;have:t2≠.aP/\∀x,t2≠.lent x:=by
        rcases y5 with⟨_,_,y5⟩|⟨y5,_⟩;.subst y5;rcases y4 with⟨_,rfl⟩|⟨_,rfl⟩<;>simp
        .cases y5
       cases t2 with
       |aP=>exact absurd rfl this.1|hold x=>
         rcases y5 with⟨_,_,y5⟩|⟨y5,_⟩;.subst y5;rcases y4 with⟨_,h⟩|⟨_,h⟩<;>cases h
         .cases y5|qx x=>
         rcases y5 with⟨_,_,y5⟩|⟨y5,_⟩;.subst y5;rcases y4 with⟨_,h⟩|⟨_,h⟩<;>cases h
         .cases y5|cV x=>
         rcases y5 with⟨_,_,y5⟩|⟨y5,_⟩;.subst y5;rcases y4 with⟨_,h⟩|⟨_,h⟩<;>cases h
         .cases y5|lent x=>exact absurd rfl (this.2 x)|val b2 d2=>subst q2;cases e'|own b2 es2=>subst q2;cases e';obtain⟨a,xs,x1,x2⟩:=s.gs.own j _ _ z2 rfl;rw[y2]at x1;cases x1;exact⟨a,xs,y1,x2⟩
     |lent es=>
       obtain⟨v,s2,y1,y2,y3,y4,y5⟩:=lent q1 rfl z1 z2;have ht:t=.lent es:=by rw[q2];cases t2<;>rfl
       subst ht;cases e';rcases y5 with⟨_,y5,_⟩|⟨_,y5⟩;.cases y5
       .subst y5;cases(show t2=.lent es from y4);obtain⟨a,xs,x1,x2⟩:=s.gs.own j _ _ z2 rfl;rw[y2]at x1;cases x1;exact⟨a,xs,y1,x2⟩
 . by_cases q:F b=none
   . rcases s.vQ b q n' with z|z;.exact(own' b z).imp id jE
     . by_cases ho:Own ρ₀ σ b;.exact .inl ho
       .right;cases q2:H₀ b with|none=>rfl|some o=>rw[s0.keep b o q2 ho]at z;exact z
   .exact s0.vQ b n q
 . refine s.keep b o (s0.keep b o h n) fun z=>?_;rcases own' b z with z|z;.exact n z
   .rw[h]at z;cases z
 .obtain⟨e1,s2,h2,k2⟩:=s0.lk i s1 h l;refine⟨e1,_,WK h2,?_⟩;have Tu:=k2.sU l;refine lH.trans l k2 ?_;cases s2 with
   |aP=>cases Tu|qx _=>cases Tu|cV _=>cases Tu|hold _=>exact lH.refl _|val b d=>exact lH.refl _|lent es=>cases aZ i as args' with|none=>rfl|some t=>cases t<;>rfl
   |own b es=>cases b with|false=>cases Tu|true=>cases aZ i as args' with|none=>exact .inl ⟨_,rfl⟩|some t=>cases t with|aP=>exact .inl ⟨_,rfl⟩|lent _=>exact .inl ⟨_,rfl⟩|qx _=>exact .inl ⟨_,rfl⟩|cV _=>exact .inl ⟨_,rfl⟩|hold _=>exact .inl ⟨_,rfl⟩|own _ ds=>exact .inl ⟨_,rfl⟩|val _ d=>exact .inr ⟨_,rfl⟩
theorem vB.rebase{F1 H1 F2 H2 F H:Hp}{ρ ρ1 ρ2:List Sl}{σ:L2.St}{as:List Arg}{vs:List V}(a:aJ K F ρ σ H F1 ρ1 σ H1)(A:vB K F2 ρ2 σ H2 ρ1 H1 as vs):vB K F2 ρ2 σ H2 ρ H as vs:=by refine⟨A.len,fun j b v h1 h2=>?_,A.dis⟩;have h:=A.one j b v h1 h2;cases b with|dat d=>exact h|eX i=>exact h|tmp ds=>
   obtain⟨x,xs,q1,q2,q3,q4,q5,q6⟩:=h;refine⟨x,xs,q1,q2,q3,q4,q5,?_⟩;rcases q6 with q6|q6;.exact a.ur x q6
   . by_cases ho:Own ρ σ x;.exact .inl ho
     .right;cases e:H x with|none=>rfl|some o=>rw[a.keep x o e ho]at q6;cases q6
theorem vB.Wf{F1 H1 F2 H2 F H:Hp}{ρ ρ1 ρ2:List Sl}{σ:L2.St}{as:List Arg}{vs:List V}{v:V}{r:R}(s1:aJ K F ρ σ H F1 ρ1 σ H1)(rr:cJ K F1 ρ1 σ H1 ρ σ H v r)(s2:aJ K F1 ρ1 σ H1 F2 ρ2 σ H2)(A:vB K F2 ρ2 σ H2 ρ1 H1 as vs):vB K F2 ρ2 σ H2 ρ H (uC r::as) (v::vs):=by
 have h1:xT K F1 ρ1 σ H1 ρ H v (uC r):=by cases r with|val d=>exact rr|own ds=>exact rr
 refine .cons (h1.later s2) (A.rebase s1) fun ds x ea ev k es ek evk=>?_;cases r with|val d=>cases ea|own ds'=>
   obtain⟨y,xs,q1,q2,q3,q4,q5,q6⟩:=rr;rw[ev]at q1;cases q1;have h:=A.one k _ _ ek evk;obtain⟨z,zs,w1,_,_,_,_,w6⟩:=h;cases w1;rcases w6 with w6|w6;.exact q5 w6
   .rw[q2]at w6;cases w6
end
section
variable{K:PySem.W.Frag}{F F1 H H1:Hp}{ρ ρ1 ρ2:List Sl}{σ σ1:L2.St}
theorem Dw{i:Nat}{s:Sl}(h:put ρ i s=some ρ1):∃s0,ρ[i]?=some s0/\sU s0=false/\ρ1=ρ.set i s:=by
 unfold put at h;split at h;.rename_i q;cases h;exact⟨_,q,rfl,rfl⟩
 .rename_i q;cases h;exact⟨_,q,rfl,rfl⟩
 .rename_i q;cases h;exact⟨_,q,rfl,rfl⟩
 .cases h
theorem aJ.put{i:Nat}{v:V}{r:R}(s:aJ K F ρ σ H F1 ρ1 σ1 H1)(rr:cJ K F1 ρ1 σ1 H1 ρ σ H v r)(h:HH.put ρ1 i (wM r)=some ρ2):aJ K F ρ σ H F1 ρ2 (σ1.set i (some v)) H1:=by
 obtain⟨s0,h0,hl,rfl⟩:=Dw h;have hi:i<ρ1.length:=(List.getElem?_eq_some_iff.mp h0).1;have hi':i<σ1.length:=by rw[<-s.gs.len];exact hi
 have old:∀{j:Nat}{a:Addr},j≠i->bB (ρ1.set i (wM r)) (σ1.set i (some v)) j a->bB ρ1 σ1 j a:=fun{j a}hj⟨⟨t,ds,e1,e2⟩,e3⟩=>by rw[getElem?_set_ne (Ne.symm hj)]at e1 e3;exact⟨⟨t,ds,e1,e2⟩,e3⟩
 have new:∀{a:Addr},bB (ρ1.set i (wM r)) (σ1.set i (some v)) i a->¬ Own ρ1 σ1 a/\(Own ρ σ a\/H a=none):=fun{a}⟨⟨t,ds,e1,e2⟩,e3⟩=>by rw[getElem?_set_self hi]at e1;rw[getElem?_set_self hi']at e3;cases e1;cases e3;cases r with|val d=>cases e2|own es=>obtain⟨x,xs,q1,q2,q3,q4,q5,q6⟩:=rr;cases q1;exact⟨q5,q6⟩
 refine⟨⟨s.gs.sub,by simp[s.gs.len],fun j b d e=>?_,fun j t ds e e'=>?_,fun j k a h1 h2=>?_⟩,s.bU,s.vQ,s.keep,fun a⟨j,hj⟩=>?_,by simp[s.len],fun j t e l=>?_⟩
 . by_cases hj:j=i;.subst hj;rw[getElem?_set_self hi]at e;cases r with|own es=>cases e|val d'=>cases e;exact⟨v,getElem?_set_self hi',rr⟩
   .rw[getElem?_set_ne (Ne.symm hj)]at e ⊢;exact s.gs.val j b d e
 . by_cases hj:j=i;.subst hj;rw[getElem?_set_self hi]at e;cases r with|val d'=>cases e;cases e'|own es=>cases e;cases e';obtain⟨x,xs,rfl,q2,q3,q4,_⟩:=rr;exact⟨x,_,getElem?_set_self hi',q2,q3,xs,rfl,q4⟩
   .rw[getElem?_set_ne (Ne.symm hj)]at e ⊢;exact s.gs.own j t ds e e'
 . by_cases hj:j=i
   . by_cases hk:k=i;.rw[hj,hk]
     .subst hj;exact absurd ⟨k,old hk h2⟩ (new h1).1
   . by_cases hk:k=i;.subst hk;exact absurd ⟨j,old hj h1⟩ (new h2).1
     .exact s.gs.dis j k a (old hj h1) (old hk h2)
 . by_cases hji:j=i;.subst hji;exact(new hj).2
   .exact s.ur a ⟨j,old hji hj⟩
 . obtain⟨e1,t1,e2,e3⟩:=s.lk j t e l;have hj:j≠i:=by rintro rfl;rw[h0]at e2;cases e2;rw[e3.sU l]at hl;cases hl
   exact⟨by rw[getElem?_set_ne (Ne.symm hj)];exact e1,t1,by rw[getElem?_set_ne (Ne.symm hj)];exact e2,e3⟩
theorem GS.mut{x:Nat}{b:Bool}{ds es:List D}{a:Addr}{ys:List V}(g:GS K F ρ σ H)(e:ρ[x]?=some (.own b ds))(hx:σ[x]?=some (some (.ref a)))(r:aF K F ys es):aJ K F ρ σ H F (ρ.set x (.own b es)) σ (upd H a (.lst ys)):=by
 have hi:x<ρ.length:=(List.getElem?_eq_some_iff.mp e).1;have oa:bB ρ σ x a:=⟨⟨_,_,e,rfl⟩,hx⟩;obtain⟨a',xs,h1,h2,h3,h4⟩:=g.kh x _ ds e rfl;rw[hx]at h1;cases h1;have old:∀{j:Nat}{c:Addr},bB (ρ.set x (.own b es)) σ j c->bB ρ σ j c:=fun{j c}⟨⟨t,dt,q1,q2⟩,q3⟩=>by
  by_cases hj:j=x;.subst hj;exact⟨⟨_,_,e,rfl⟩,q3⟩
  .rw[getElem?_set_ne (Ne.symm hj)]at q1;exact⟨⟨t,dt,q1,q2⟩,q3⟩
 refine⟨⟨fun c o q=>?_,by simp[g.len],fun j b' d q=>?_,fun j t dt q q'=>?_,fun j k c q1 q2=>g.dis j k c (old q1) (old q2)⟩,.refl _,fun c n n'=>absurd n n',fun c o q n=>?_,fun c⟨j,q⟩=>.inl ⟨j,old q⟩,by simp,fun j t q l=>⟨rfl,?_⟩⟩
 . have:c≠a:=by rintro rfl;rw[h3]at q;cases q
   rw[aC this];exact g.sub c o q
 . by_cases hj:j=x;.subst hj;rw[getElem?_set_self hi]at q;cases q
   .rw[getElem?_set_ne (Ne.symm hj)]at q;exact g.val j b' d q
 . by_cases hj:j=x;.subst hj;rw[getElem?_set_self hi]at q;cases q;cases q';exact⟨a,_,hx,aV,h3,ys,rfl,r⟩
   . rw[getElem?_set_ne (Ne.symm hj)]at q;obtain⟨c,zs,w1,w2,w3,w4⟩:=g.own j t dt q q';have:c≠a:=by rintro rfl;exact hj (g.dis j x c ⟨⟨t,dt,q,q'⟩,w1⟩ oa)
     exact⟨c,zs,w1,by rw[aC this];exact w2,w3,w4⟩
 . have:c≠a:=by rintro rfl;exact n ⟨x,oa⟩
   rw[aC this];exact q
 . by_cases hj:j=x;.subst hj;rw[e]at q;cases q;refine⟨_,getElem?_set_self hi,?_⟩;cases b with|true=>exact .inl ⟨_,rfl⟩|false=>cases l
   .exact⟨t,by rw[getElem?_set_ne (Ne.symm hj)];exact q,.refl t⟩
theorem GS.lend{i:Nat}{b:Bool}{ds:List D}(g:GS K F ρ σ H)(e:ρ[i]?=some (.own b ds)):GS K F (ρ.set i (.lent ds)) σ H:=by
 have hi:i<ρ.length:=(List.getElem?_eq_some_iff.mp e).1;have old:∀{j:Nat}{c:Addr},bB (ρ.set i (.lent ds)) σ j c->bB ρ σ j c:=fun{j c}⟨⟨t,dt,q1,q2⟩,q3⟩=>by
  by_cases hj:j=i;.subst hj;exact⟨⟨_,_,e,rfl⟩,q3⟩
  .rw[getElem?_set_ne (Ne.symm hj)]at q1;exact⟨⟨t,dt,q1,q2⟩,q3⟩
 refine⟨g.sub,by simp[g.len],fun j b' d q=>?_,fun j t dt q q'=>?_,fun j k c q1 q2=>g.dis j k c (old q1) (old q2)⟩
 . by_cases hj:j=i;.subst hj;rw[getElem?_set_self hi]at q;cases q
   .rw[getElem?_set_ne (Ne.symm hj)]at q;exact g.val j b' d q
 . by_cases hj:j=i;.subst hj;rw[getElem?_set_self hi]at q;cases q;cases q';exact g.own j _ _ e rfl
   .rw[getElem?_set_ne (Ne.symm hj)]at q;exact g.own j t dt q q'
theorem aJ.aW{i:Nat}{b:Bool}{ds:List D}(g:GS K F ρ σ H)(e:ρ[i]?=some (.own b ds))(s:aJ K F (ρ.set i (.lent ds)) σ H F1 ρ1 σ1 H1):aJ K F ρ σ H F1 (ρ1.set i (.own b ds)) σ1 H1/\∀v r,cJ K F1 ρ1 σ1 H1 (ρ.set i (.lent ds)) σ H v r->cJ K F1 (ρ1.set i (.own b ds)) σ1 H1 ρ σ H v r:=by
 have hi:i<ρ.length:=(List.getElem?_eq_some_iff.mp e).1;have h1:(ρ.set i (.lent ds))[i]?=some (.lent ds):=getElem?_set_self hi;obtain⟨z1,s',z2,z3⟩:=s.lk i _ h1 rfl;cases(show s'=.lent ds from z3);have hi1:i<ρ1.length:=(List.getElem?_eq_some_iff.mp z2).1;have o1:∀{j:Nat}{c:Addr},bB (ρ.set i (.lent ds)) σ j c->bB ρ σ j c:=fun{j c}⟨⟨t,dt,q1,q2⟩,q3⟩=>by
  by_cases hj:j=i;.subst hj;exact⟨⟨_,_,e,rfl⟩,q3⟩
  .rw[getElem?_set_ne (Ne.symm hj)]at q1;exact⟨⟨t,dt,q1,q2⟩,q3⟩
 have o1':∀{c:Addr},Own ρ σ c->Own (ρ.set i (.lent ds)) σ c:=fun{c}⟨j,⟨t,dt,q1,q2⟩,q3⟩=>by
  by_cases hj:j=i;.subst hj;exact⟨j,⟨_,_,h1,rfl⟩,q3⟩
  .exact⟨j,⟨t,dt,by rw[getElem?_set_ne (Ne.symm hj)];exact q1,q2⟩,q3⟩
 have o2:∀{j:Nat}{c:Addr},bB (ρ1.set i (.own b ds)) σ1 j c->bB ρ1 σ1 j c:=fun{j c}⟨⟨t,dt,q1,q2⟩,q3⟩=>by
  by_cases hj:j=i;.subst hj;exact⟨⟨_,_,z2,rfl⟩,q3⟩
  .rw[getElem?_set_ne (Ne.symm hj)]at q1;exact⟨⟨t,dt,q1,q2⟩,q3⟩
 have w:∀{c:Addr}{h:Hp},Own (ρ.set i (.lent ds)) σ c\/h c=none->Own ρ σ c\/h c=none:=fun{c h}q=>q.imp (fun⟨j,q⟩=>⟨j,o1 q⟩) id;have w':∀{c:Addr}{h:Hp},Own (ρ.set i (.lent ds)) σ c\/nt (h c)=none->Own ρ σ c\/nt (h c)=none:=fun{c h}q=>q.imp (fun⟨j,q⟩=>⟨j,o1 q⟩) id;refine⟨⟨⟨s.gs.sub,by simp[s.gs.len],fun j b' d q=>?_,fun j t dt q q'=>?_,fun j k c q1 q2=>s.gs.dis j k c (o2 q1) (o2 q2)⟩,s.bU,fun c n n'=>w' (s.vQ c n n'),fun c o q n=>s.keep c o q fun⟨j,x⟩=>n ⟨j,o1 x⟩,fun c⟨j,q⟩=>w (s.ur c ⟨j,o2 q⟩),by simpa using s.len,fun j t q l=>?_⟩,fun v r h=>?_⟩
 . by_cases hj:j=i;.subst hj;rw[getElem?_set_self hi1]at q;cases q
   .rw[getElem?_set_ne (Ne.symm hj)]at q;exact s.gs.val j b' d q
 . by_cases hj:j=i;.subst hj;rw[getElem?_set_self hi1]at q;cases q;cases q';exact s.gs.own j _ _ z2 rfl
   .rw[getElem?_set_ne (Ne.symm hj)]at q;exact s.gs.own j t dt q q'
 . by_cases hj:j=i;.subst hj;rw[e]at q;cases q;refine⟨z1,_,getElem?_set_self hi1,?_⟩;cases b with|true=>exact .inl ⟨_,rfl⟩|false=>cases l
   .obtain⟨y1,t',y2,y3⟩:=s.lk j t (by rw[getElem?_set_ne (Ne.symm hj)];exact q) l;exact⟨y1,t',by rw[getElem?_set_ne (Ne.symm hj)];exact y2,y3⟩
 .cases r with|val d=>exact h|own es=>obtain⟨x,xs,q1,q2,q3,q4,q5,q6⟩:=h;exact⟨x,xs,q1,q2,q3,q4,fun⟨j,q⟩=>q5 ⟨j,o2 q⟩,w q6⟩
theorem GS.give{i:Nat}{ds:List D}(g:GS K F ρ σ H)(e:ρ[i]?=some (.own false ds)):∃v,σ[i]?=some (some v)/\aJ K F ρ σ H F (ρ.set i .aP) σ H/\cJ K F (ρ.set i .aP) σ H ρ σ H v (.own ds):=by
 have hi:i<ρ.length:=(List.getElem?_eq_some_iff.mp e).1;obtain⟨a,xs,h1,h2,h3,h4⟩:=g.kh i _ ds e rfl;have old:∀{j:Nat}{c:Addr},bB (ρ.set i .aP) σ j c->bB ρ σ j c/\j≠i:=fun{j c}⟨⟨t,dt,q1,q2⟩,q3⟩=>by
  by_cases hj:j=i;.subst hj;rw[getElem?_set_self hi]at q1;cases q1;cases q2
  .rw[getElem?_set_ne (Ne.symm hj)]at q1;exact⟨⟨⟨t,dt,q1,q2⟩,q3⟩,hj⟩
 have oa:bB ρ σ i a:=⟨⟨_,_,e,rfl⟩,h1⟩;refine⟨.ref a,h1,⟨⟨g.sub,by simp[g.len],fun j b' d q=>?_,fun j t dt q q'=>?_,fun j k c q1 q2=>g.dis j k c (old q1).1 (old q2).1⟩,.refl _,fun c n n'=>absurd n n',fun _ _ q _=>q,fun c⟨j,q⟩=>.inl ⟨j,(old q).1⟩,by simp,fun j t q l=>⟨rfl,?_⟩⟩,a,xs,rfl,h2,h3,h4,fun⟨j,q⟩=>?_,.inl ⟨i,oa⟩⟩
 . by_cases hj:j=i;.subst hj;rw[getElem?_set_self hi]at q;cases q
   .rw[getElem?_set_ne (Ne.symm hj)]at q;exact g.val j b' d q
 . by_cases hj:j=i;.subst hj;rw[getElem?_set_self hi]at q;cases q;cases q'
   .rw[getElem?_set_ne (Ne.symm hj)]at q;exact g.own j t dt q q'
 . by_cases hj:j=i;.subst hj;rw[e]at q;cases q;cases l
   .exact⟨t,by rw[getElem?_set_ne (Ne.symm hj)];exact q,.refl t⟩
 .exact(old q).2 (g.dis j i a (old q).1 oa)
theorem GS.more{n:Nat}{τ:List (Option V)}(g:GS K F ρ σ H)(hn:τ.length=n):GS K F (ρ++replicate n .aP) (σ++τ) H:=by
 have get:∀{j:Nat}{t:Sl},(ρ++replicate n Sl.aP)[j]?=some t->t≠.aP->ρ[j]?=some t/\j<ρ.length:=fun{j t}q ne=>by
  by_cases hj:j<ρ.length;.rw[getElem?_append_left hj]at q;exact⟨q,hj⟩
  . rw[getElem?_append_right (by omega),getElem?_replicate]at q;split at q;.cases q;exact absurd rfl ne
    .cases q
 have up:∀{j:Nat}{v:Option V},j<ρ.length->(σ[j]?=some v↔(σ++τ)[j]?=some v):=fun{j v}hj=>by rw[getElem?_append_left (by rw[<-g.len];exact hj)]
 have old:∀{j:Nat}{c:Addr},bB (ρ++replicate n .aP) (σ++τ) j c->bB ρ σ j c:=fun{j c}⟨⟨t,dt,q1,q2⟩,q3⟩=>by obtain⟨h1,h2⟩:=get q1 (by rintro rfl;cases q2);exact⟨⟨t,dt,h1,q2⟩,(up h2).mpr q3⟩
 refine⟨g.sub,by simp[g.len,hn],fun j b d q=>?_,fun j t dt q q'=>?_,fun j k c q1 q2=>g.dis j k c (old q1) (old q2)⟩;.obtain⟨h1,h2⟩:=get q (by simp);obtain⟨v,e1,e2⟩:=g.val j b d h1;exact⟨v,(up h2).mp e1,e2⟩
 .obtain⟨h1,h2⟩:=get q (by rintro rfl;cases q');obtain⟨a,xs,e1,e2⟩:=g.own j t dt h1 q';exact⟨a,xs,(up h2).mp e1,e2⟩
theorem aJ.less{n:Nat}{τ:List (Option V)}{m:Nat}(hm:m=ρ.length)(g:GS K F ρ σ H)(hn:τ.length=n)(s:aJ K F (ρ++replicate n .aP) (σ++τ) H F1 ρ1 σ1 H1):aJ K F ρ σ H F1 (ρ1.take m) (σ1.take m) H1/\∀v r,cJ K F1 ρ1 σ1 H1 (ρ++replicate n .aP) (σ++τ) H v r->cJ K F1 (ρ1.take m) (σ1.take m) H1 ρ σ H v r:=by
 subst hm;have l1:ρ.length<=ρ1.length:=by rw[s.len];simp
 have l2:ρ.length<=σ1.length:=by rw[<-s.gs.len];exact l1
 have tk:∀{α:Type}{l:List α}{j:Nat}{x:α},(l.take ρ.length)[j]?=some x->l[j]?=some x/\j<ρ.length:=fun{α l j x}q=>by
  rw[List.getElem?_take]at q;split at q;.exact⟨q,by assumption⟩
  .cases q
 have kt:∀{α:Type}{l:List α}{j:Nat}{x:α},j<ρ.length->l[j]?=some x->(l.take ρ.length)[j]?=some x:=fun{α l j x}hj q=>by rw[List.getElem?_take,if_pos hj];exact q
 have oN:∀{c:Addr},Own (ρ++replicate n .aP) (σ++τ) c->Own ρ σ c:=fun{c}⟨j,⟨t,dt,q1,q2⟩,q3⟩=>by
  by_cases hj:j<ρ.length;.rw[getElem?_append_left hj]at q1;rw[getElem?_append_left (by rw[<-g.len];exact hj)]at q3;exact⟨j,⟨t,dt,q1,q2⟩,q3⟩
  . rw[getElem?_append_right (by omega),getElem?_replicate]at q1;split at q1;.cases q1;cases q2
    .cases q1
 have oN':∀{c:Addr},Own ρ σ c->Own (ρ++replicate n .aP) (σ++τ) c:=fun{c}⟨j,⟨t,dt,q1,q2⟩,q3⟩=>by have hj:j<ρ.length:=(List.getElem?_eq_some_iff.mp q1).1;exact⟨j,⟨t,dt,by rw[getElem?_append_left hj];exact q1,q2⟩,by rw[getElem?_append_left (by rw[<-g.len];exact hj)];exact q3⟩
 have o1:∀{j:Nat}{c:Addr},bB (ρ1.take ρ.length) (σ1.take ρ.length) j c->bB ρ1 σ1 j c:=fun{j c}⟨⟨t,dt,q1,q2⟩,q3⟩=>⟨⟨t,dt,(tk q1).1,q2⟩,(tk q3).1⟩;have w:∀{c:Addr}{h:Hp},Own (ρ++replicate n .aP) (σ++τ) c\/h c=none->Own ρ σ c\/h c=none:=fun{c h}q=>q.imp oN id;have w':∀{c:Addr}{h:Hp},Own (ρ++replicate n .aP) (σ++τ) c\/nt (h c)=none->Own ρ σ c\/nt (h c)=none:=fun{c h}q=>q.imp oN id;refine⟨⟨⟨s.gs.sub,by simp only[length_take];omega,fun j b d q=>?_,fun j t dt q q'=>?_,fun j k c q1 q2=>s.gs.dis j k c (o1 q1) (o1 q2)⟩,s.bU,fun c a b=>w' (s.vQ c a b),fun c o q n=>s.keep c o q fun x=>n (oN x),fun c⟨j,q⟩=>w (s.ur c ⟨j,o1 q⟩),by simp only[length_take];omega,fun j t q l=>?_⟩,fun v r h=>?_⟩;.obtain⟨h1,h2⟩:=tk q;obtain⟨v,e1,e2⟩:=s.gs.val j b d h1;exact⟨v,kt h2 e1,e2⟩
 .obtain⟨h1,h2⟩:=tk q;obtain⟨a,xs,e1,e2⟩:=s.gs.own j t dt h1 q';exact⟨a,xs,kt h2 e1,e2⟩
 .have hj:j<ρ.length:=(List.getElem?_eq_some_iff.mp q).1;obtain⟨y1,t',y2,y3⟩:=s.lk j t (by rw[getElem?_append_left hj];exact q) l;rw[getElem?_append_left (by rw[<-g.len];exact hj)]at y1;refine⟨?_,t',kt hj y2,y3⟩;rw[List.getElem?_take,if_pos hj];exact y1
 .cases r with|val d=>exact h|own es=>obtain⟨x,xs,q1,q2,q3,q4,q5,q6⟩:=h;exact⟨x,xs,q1,q2,q3,q4,fun⟨j,q⟩=>q5 ⟨j,o1 q⟩,w q6⟩
end
section
variable{X:Cx}{c:Call}{n:Nat}{e a b d:Expr}{p pa pb pd:P}{pos:Pos}{es:List Expr}{ps:List P}
inductive aaI(K:PySem.W.Frag)(f:List Sl->Res (List Arg))(σ:L2.St)(H:Hp)(Q:List V->Hp->Prop):Prop where|mk(F:Hp)(ρ:List Sl)(as:List Arg)(ρ':List Sl)(g:GS K F ρ σ H)(e:f ρ=.ok as ρ')(k:∀vs F' H',aJ K F ρ σ H F' ρ' σ H'->vB K F' ρ' σ H' ρ H as vs->Q vs H')
def SG(X:Cx)(c:Call)(es:List Expr)(ps:List P):Prop:=PA X es (aaI X.K (vY c ps))
theorem aB:SG X c [] []:=u9 dR fun σ H Q⟨F,ρ,as,ρ',g,e,k⟩=>by rw[vY]at e;cases e;exact k [] F H (.refl g) .nil
theorem Jp(ha:SX X c a pa)(hr:SG X c es ps)(hs:starEach (a::es) X.env=(false,eval a X.env)::starEach es X.env:=by rfl):SG X c (a::es) (pa::ps):=by cases hv:isVar pa with|none=>refine u9 (cz ha.ev hr hs) ?_;rintro σ H Q⟨F,ρ,as,ρ',g,e,k⟩;rw[vY,hv]at e;obtain⟨r,ρ1,e1,e⟩:=ak e;obtain⟨xs,ρ2,e2,e⟩:=ak e;cases e;refine⟨F,ρ,r,ρ1,g,e1,fun v F1 H1 s1 rr=>⟨F1,ρ1,xs,_,s1.gs,e2,fun vs F2 H2 s2 A=>k _ F2 H2 (s1.trans s2) (vB.Wf s1 rr s2 A)⟩⟩|some i=>refine u9 (cz (ha.var i hv) hr hs) ?_;rintro σ H Q⟨F,ρ,as,ρ',g,e,k⟩;rw[vY,hv]at e;obtain⟨x0,ρ0,e0,e⟩:=ak e;obtain⟨e00,Bx⟩:=aD e0;subst Bx;obtain⟨xs,ρ2,e2,e⟩:=ak e;cases e;obtain⟨v,h1,_⟩:=g.pk e00;exact⟨v,h1,F,ρ,xs,_,g,e2,fun vs F2 H2 s2 A=>k _ F2 H2 s2 (.cons h1 A fun ds x z=>by cases z)⟩
theorem Ik{k f:Nat}{fa:Addr}{fd:FuncData}{qs:List Str}{x:Str}{p':Pos}(Fn:bW X.prog X.w X.K X.mg X.base fZ k fa fd qs (gw X.K qs.length (c f)))(hr:ju k X.A)(hg:Gl X x)(hm:X.mg x=some (.ref fa))(hk:keepIn X.K (.ref fa)=true)(hb:Binds X.K fd qs [])(ha:SG X c (e::es) ps)(hl:(e::es).length=qs.length)(hdb:(x==("__debug__":Str))=false:=by decide)(he:starEach (e::es) X.env=(false,eval e X.env)::starEach es X.env:=by rfl)(hpl:(backTo pos (starEach es X.env)).any (·.1)=false:=by rfl)(hl2:ps.length=(e::es).length:=by rfl):SX X c (.Call (.Name x p') (e::es) [] pos) (.call f ps):=by
 refine⟨dZ (Ja (E:=E0) Fn hr hg hm hk hb .nil T3 ha hdb he hpl) ?_,fun i h=>by cases h⟩;rintro σ H Q⟨F,ρ,r,ρ',g,e,k⟩;rw[HH.E15]at e;obtain⟨as,ρ1,e1,e⟩:=ak e;unfold j6 at e;split at e;.cases e
 . rename_i args hb';split at e
   . rename_i r' args' hc;cases e;refine⟨F,ρ,as,ρ1,g,e1,fun vs F1 H1 s1 A=>?_⟩;have hlen:vs.length=qs.length:=by
      have:∀{ps:List P}{ρ ρ':List Sl}{as:List Arg},vY c ps ρ=.ok as ρ'->as.length=ps.length:=by intro ps;induction ps with|nil=>intro ρ ρ' as h;rw[vY]at h;cases h;rfl|cons q qs ih=>
         intro ρ ρ' as h;rw[vY]at h;split at h;.obtain⟨_,_,_,h⟩:=ak h;obtain⟨xs,ρ2,h2,h⟩:=ak h;cases h;simp[ih h2]
         .obtain⟨_,_,_,h⟩:=ak h;obtain⟨xs,ρ2,h2,h⟩:=ak h;cases h;simp[ih h2]
      rw[<-A.len,this e1,hl2,hl]
     show gw X.K qs.length (c f) (vs++[]) H1 Q E0;rw[append_nil];refine⟨hlen,F1,args,r,args',args_gs s1.gs A hb',hc,fun v F' σ' H' s rr=>?_⟩;obtain⟨z1,z2⟩:=Gk s1 A hb' s;exact k v F' H' z1 (z2 v r rr)
   .cases e
   .cases e
def Gg(K:PySem.W.Frag)(D:Ends)(F':Hp)(ρ':List Sl)(σ':L2.St)(H':Hp)(ρ:List Sl)(σ:L2.St)(H:Hp)(fl:Fl):Prop:=match fl with|.next=>D.nx σ' H'|.brk=>D.bk σ' H'|.cont=>D.ct σ' H'|.ret r=>∀v,cJ K F' ρ' σ' H' ρ σ H v r->D.rt v H'
inductive Xu(K:PySem.W.Frag)(f:List Sl->Res Fl)(D:Ends)(σ:L2.St)(H:Hp):Prop where|mk(F:Hp)(ρ:List Sl)(fl:Fl)(ρ':List Sl)(g:GS K F ρ σ H)(e:f ρ=.ok fl ρ')(k:∀F' σ' H',aJ K F ρ σ H F' ρ' σ' H'->Gg K D F' ρ' σ' H' ρ σ H fl)
def SS(X:Cx)(c:Call)(n:Nat)(st:Stmt)(s:S):Prop:=PS X st (Xu X.K (ex c n s))
def SB(X:Cx)(c:Call)(n:Nat)(st:List Stmt)(s:List S):Prop:=uK X st (Xu X.K (gf c n s))
theorem dJ{st:Stmt}{t t':TS}(h:PS X st t)(i:∀D σ H,t' D σ H->t D σ H):PS X st t':=fun pins s σ H D I q=>h pins s σ H D I (i D σ H q)
theorem mF{st:List Stmt}{t t':TS}(h:uK X st t)(i:∀D σ H,t' D σ H->t D σ H):uK X st t':=fun pins s σ H D I q=>h pins s σ H D I (i D σ H q)
theorem aq:SB X c n [] []:=mF yG fun D σ H⟨F,ρ,fl,ρ',g,e,k⟩=>by rw[gf]at e;cases e;exact k F σ H (.refl g)
theorem aQ{st:Stmt}{s:S}{sts:List Stmt}{ss:List S}(h1:SS X c n st s)(h2:SB X c n sts ss):SB X c n (st::sts) (s::ss):=by refine mF (lC h1 h2) ?_;rintro D σ H⟨F,ρ,fl,ρ',g,e,k⟩;rw[gf]at e;obtain⟨f1,ρ1,e1,e⟩:=ak e;cases f1 with
 |next=>refine⟨F,ρ,.next,ρ1,g,e1,fun F1 σ1 H1 s1=>⟨F1,ρ1,fl,ρ',s1.gs,e,fun F2 σ2 H2 s2=>?_⟩⟩;have q:=k F2 σ2 H2 (s1.trans s2);cases fl with|next=>exact q|brk=>exact q|cont=>exact q|ret r=>exact fun v rr=>q v (rr.later s1)
 |brk=>cases e;exact⟨F,ρ,.brk,_,g,e1,k⟩|cont=>cases e;exact⟨F,ρ,.cont,_,g,e1,k⟩|ret r=>cases e;exact⟨F,ρ,.ret r,_,g,e1,k⟩
theorem Cy{st:Stmt}:SS X c n st .bad:=dJ FN fun D σ H⟨F,ρ,fl,ρ',g,e,k⟩=>by rw[HH.X4]at e;cases e
theorem Ut{t1 t2:TE}(h1:PE X e t1)(h2:PE X e t2):PE X e (fun σ H Q=>t1 σ H Q\/t2 σ H Q):=fun pins s σ H Q I h=>h.elim (h1 pins s σ H Q I) (h2 pins s σ H Q I)
theorem Qd(he:SX X c e p):SS X c n (.Return (some e) pos) (.ret p):=by
 have plain:∀(D:Ends)(σ:L2.St)(H:Hp),(∃F ρ fl ρ',GS X.K F ρ σ H/\((HH.ev c p ρ).bind fun r ρ=>.ok (Fl.ret r) ρ)=.ok fl ρ'/\∀F' σ' H',aJ X.K F ρ σ H F' ρ' σ' H'->(match fl with|.next=>D.nx σ' H'|.brk=>D.bk σ' H'|.cont=>D.ct σ' H'|.ret r=>∀v,cJ X.K F' ρ' σ' H' ρ σ H v r->D.rt v H'))->uq X.K (HH.ev c p) σ H D.rt:=fun D σ H⟨F,ρ,fl,ρ',g,e,k⟩=>by obtain⟨r,ρ1,e1,e⟩:=ak e;cases e;exact⟨F,ρ,r,_,g,e1,fun v F1 H1 s1 rr=>k F1 σ H1 s1 v rr⟩
 cases hv:isVar p with|none=>refine dJ (Dl he.ev) fun D σ H⟨F,ρ,fl,ρ',g,e,k⟩=>plain D σ H ⟨F,ρ,fl,ρ',g,?_,k⟩;rw[HH.Xn,hv]at e;exact e|some i=>--by the name itself:its own list is handed back,else its data
   have hp:p=.var i:=by cases p<;>cases hv;rfl
   subst hp;refine dJ (Dl (Ut (he.var i hv) he.ev)) ?_;rintro D σ H⟨F,ρ,fl,ρ',g,e,k⟩;rw[HH.Xn,hv]at e;dsimp only at e;split at e;.rename_i ds q;cases e;obtain⟨v,h1,h2,h3⟩:=g.give q;exact .inl ⟨v,h1,k F σ H h2 v h3⟩
   .exact .inr (plain D σ H ⟨F,ρ,fl,ρ',g,e,k⟩)
theorem cM{sa sb:List Stmt}{ta tb:List S}(hc:ST X c e p)(ha:SB X c n sa ta)(hb:SB X c n sb tb):SS X c n (.If e sa sb pos) (.ifs p ta tb):=by refine dJ (Lf hc ha hb) ?_;rintro D σ H⟨F,ρ,fl,ρ',g,e,k⟩;rw[HH.Xw]at e;obtain⟨x,ρ1,e1,e⟩:=ak e;refine⟨F,ρ,x,ρ1,g,e1,fun F1 H1 s1=>?_⟩;have go:∀{f:List Sl->Res Fl},f ρ1=.ok fl ρ'->Xu X.K f D σ H1:=fun{f}h=>⟨F1,ρ1,fl,ρ',s1.gs,h,fun F2 σ2 H2 s2=>by have q:=k F2 σ2 H2 (s1.trans s2);cases fl with|next=>exact q|brk=>exact q|cont=>exact q|ret r=>exact fun v rr=>q v (rr.later s1)⟩;cases x with|true=>rw[if_pos rfl]at e;exact go e|false=>rw[if_neg Bool.false_ne_true]at e;exact go e
theorem eZ{i:Nat}{x:Str}{pos':Pos}(hN:X.N.Nodup)(hi:X.N[i]?=some x)(hx:Loc X.env.scope x)(he:SX X c e p)(hs:swapsWith e (some (.Name x pos')) pos.line X.env=pure false:=by rfl)(hf:X.fn x=true\/X.env.scope.names.lookup x=some .local:=by first|exact .inl rfl|exact .inr rfl|assumption):SS X c n (.Assign [.Name x pos'] e pos) (.asg i p):=by refine dJ (CW hN hi hx he.ev hs hf) ?_;rintro D σ H⟨F,ρ,fl,ρ',g,e,k⟩;rw[HH.X6]at e;obtain⟨r,ρ1,e1,e⟩:=ak e;obtain⟨ρ2,ρ3,e2,e⟩:=ak e;cases e;have zz:=aD e2;clear e2;obtain⟨e2,e3⟩:=zz;exact⟨F,ρ,r,ρ1,g,e1,fun v F1 H1 s1 rr=>k F1 _ H1 (s1.put rr e2)⟩
end
end HH
end
section
namespace L2
open PySem PySem.Spec PyProof.Rows
noncomputable def o9(X:Cx)(scope:Scope)(N':List Str)(cl:List (Str×Addr))(C:Addr)(s₀:Shared)(H₀:Hp)(ex:List Addr):Cx:={X with N:=N',s₀:=s₀,H₀:=H₀,env:=compEnvC scope cl C X.env,outer:=X.stack,stack:=X.stack,ex:=ex,fn:=fun x=>scope.names.lookup x==some .cell,pn:=[],xe:=fun _ _=>False}
theorem wD{env:Env}(l:List (Str×NameKind)):∀(cs:List (Str×Addr)),(∀n,(n,NameKind.free)∈l->∃c,env.cells.lookup n=some c)->(∀n c,cs.lookup n=some c->env.cells.lookup n=some c)->∃ cl,(forIn l cs (fun(x:Str × NameKind)(r:List (Str × Addr))=>(if(x.2==NameKind.free)=true then(do let a<-cellOf env x.1;pure (ForInStep.yield ((x.1,a)::r)))else pure (ForInStep.yield r):Sem (ForInStep (List (Str × Addr))))):Sem (List (Str × Addr)))=pure cl/\(∀n c,cl.lookup n=some c->env.cells.lookup n=some c)/\(∀n,((n,NameKind.free)∈l\/(cs.lookup n).isSome)->(cl.lookup n).isSome):=by induction l with|nil=>intro cs _ h;exact⟨cs,rfl,h,fun n hn=>by rcases hn with hn|hn;cases hn;exact hn⟩|cons y l ih=>
   obtain⟨n,k⟩:=y;intro cs hl hc;rw[forIn_cons];by_cases hk:k=.free
   . subst hk;obtain⟨a,ha⟩:=hl n mem_cons_self;obtain⟨cl,e,h1,h2⟩:=ih ((n,a)::cs) (fun m hm=>hl m (mem_cons_of_mem _ hm)) fun m c hm=>by
      rw[lookup_cons]at hm;split at hm;.rename_i q;have q:=eq_of_beq q;subst q;cases hm;exact ha
      .exact hc m c hm
     refine⟨cl,?_,h1,fun m hm=>h2 m ?_⟩
     . rw[<-e];have:cellOf env n=pure a:=by unfold cellOf;rw[ha]
       simp only[beq_self_eq_true,if_true,this];rfl
     . rcases hm with hm|hm
       . rcases mem_cons.mp hm with hm|hm;.cases hm;right;simp[lookup_cons]
         .exact .inl hm
       . right;rw[lookup_cons];split;.rfl
         .exact hm
   . obtain⟨cl,e,h1,h2⟩:=ih cs (fun m hm=>hl m (mem_cons_of_mem _ hm)) hc;refine⟨cl,?_,h1,fun m hm=>h2 m ?_⟩
     . rw[<-e];have:(k==NameKind.free)=false:=by simpa using hk
       simp only[this,false_eq_true,if_false];rfl
     . rcases hm with hm|hm
       . rcases mem_cons.mp hm with hm|hm;.cases hm;exact absurd rfl hk
         .exact .inl hm
       .exact .inr hm
theorem wV{env:Env}{scope:Scope}(hl:∀n,(n,NameKind.free)∈scope.names->∃c,env.cells.lookup n=some c):∃cl,closureFor scope env=pure cl/\(∀n c,cl.lookup n=some c->env.cells.lookup n=some c)/\∀n,(n,NameKind.free)∈scope.names->(cl.lookup n).isSome:=by obtain⟨cl,e,h1,h2⟩:=wD (env:=env) scope.names [] hl (by simp);refine⟨cl,?_,h1,fun n hn=>h2 n (.inl hn)⟩;unfold closureFor;exact(congrArg (fun t=>t>>=fun r=>pure r) e).trans rfl
theorem dH{env:Env}:∀(names:List (Str×NameKind))(x:Str),(names.map fun(n,k)=>if(k==NameKind.free&&env.scope.kind==.function&&env.kindOf n==some .cell)then(n,NameKind.cell)else(n,k)).lookup x=(names.lookup x).map fun k=>if(k==NameKind.free&&env.scope.kind==.function&&env.kindOf x==some .cell)=true then NameKind.cell else k
 |[],x=>rfl|(n,k)::r,x=>by
   have ih:=dH (env:=env) r x;show List.lookup x ((if(k==NameKind.free&&env.scope.kind==.function&&env.kindOf n==some .cell)=true then(n,NameKind.cell)else(n,k))::_)=_;by_cases hc:(k==NameKind.free&&env.scope.kind==.function&&env.kindOf n==some .cell)=true;.rw[if_pos hc,lookup_cons,lookup_cons];cases hx:x==n with|true=>have:=eq_of_beq hx;subst this;show some NameKind.cell=some (if _ then _ else _);rw[if_pos hc]|false=>exact ih
   .rw[if_neg hc,lookup_cons,lookup_cons];cases hx:x==n with|true=>have:=eq_of_beq hx;subst this;show some k=some (if _ then _ else _);rw[if_neg hc]|false=>exact ih
noncomputable def TQ(N N':List Str)(sc:Scope):Bool:=(N.zip N').all fun p=>(p.1==p.2&&sc.names.lookup p.2==some .free)||(sc.names.lookup p.2!=some .local&&sc.names.lookup p.2!=some .cell&&sc.names.lookup p.2!=some .free)
structure dO(X:Cx)(scope:Scope)(N':List Str)(n:Nat):Prop where
 kind:scope.kind=.function
 cons:∀y∈scope.names,scope.names.lookup y.1=some y.2
 names:∀y∈scope.names,y.2=.local->scope.names.lookup y.1=some .local
 cap:∀y∈scope.names,y.2=.free->X.env.scope.names.lookup y.1=some .cell\/X.env.scope.names.lookup y.1=some .free
 len:N'.length=X.N.length+n
 same:TQ X.N N' scope=true
theorem dO.get{X:Cx}{scope:Scope}{N':List Str}{n:Nat}(c:dO X scope N' n){i:Nat}{x:Str}(hi:i<X.N.length)(h:N'[i]?=some x)(hv:v8 (relabel scope X.env) x):X.N[i]?=some x/\scope.names.lookup x=some .free:=by
 have hz:(X.N.zip N')[i]?=some (X.N[i],x):=by rw[List.getElem?_zip_eq_some];exact⟨by simp[hi],h⟩
 have:=(all_eq_true.mp c.same) _ (mem_of_getElem? hz);simp only[or_eq_true,and_eq_true]at this;rcases this with⟨h1,h2⟩|⟨⟨h1,h2⟩,h3⟩;.have h1:=eq_of_beq h1;have h2:=eq_of_beq h2;exact⟨by simp[hi,h1],h2⟩
 . exfalso;have h1:scope.names.lookup x≠some .local:=by simpa using h1
   have h2:scope.names.lookup x≠some .cell:=by simpa using h2
   have h3:scope.names.lookup x≠some .free:=by simpa using h3
   have e:=dH (env:=X.env) scope.names x;have hv:(relabel scope X.env).names.lookup x=some .local\/(relabel scope X.env).names.lookup x=some .cell\/(relabel scope X.env).names.lookup x=some .free:=hv;rw[show(relabel scope X.env).names.lookup x=_ from e]at hv;cases q:scope.names.lookup x with|none=>rw[q]at hv;simp at hv|some k=>
     rw[q]at hv h1 h2 h3;have hk:(k==NameKind.free)=false:=by cases k<;>first|rfl|exact absurd rfl h3
     simp only[Option.map_some,hk,Bool.false_and,false_eq_true,if_false,Option.some.injEq]at hv;rcases hv with rfl|rfl|rfl;.exact h1 rfl
     .exact h2 rfl
     .exact h3 rfl
structure CI(cl:List (Str×Addr))(z:Nat)(h:Heap)(acc:List (Str×Addr)):Prop where from':∀n c,acc.lookup n=some c->cl.lookup n=some c\/(z<=c/\h.IsCell c none)inj:∀n n' c,acc.lookup n=some c->acc.lookup n'=some c->n=n'
theorem Eu{cl:List (Str×Addr)}{z:Nat}(hcl:∀n c,cl.lookup n=some c->c<z):∀(names:List (Str×NameKind))(h:Heap)(acc:List (Str×Addr)),z<=h.objs.size->CI cl z h acc->CI cl z (pushCells h names) (cellsFrom h.objs.size names acc)/\(∀n,(acc.lookup n).isSome->((cellsFrom h.objs.size names acc).lookup n).isSome)/\(∀n,((∃c,acc.lookup n=some c/\z<=c)\/(n,NameKind.cell)∈names)->∃c,(cellsFrom h.objs.size names acc).lookup n=some c/\z<=c)/\(∀n c,(n,NameKind.cell)∉names->(cellsFrom h.objs.size names acc).lookup n=some c->acc.lookup n=some c)
 |[],h,acc,hz,x=>by
   refine⟨x,fun _ q=>q,fun n q=>?_,fun _ _ _ q=>q⟩;rcases q with q|q;.exact q
   .cases q|(name,kind)::r,h,acc,hz,x=>by
   unfold pushCells cellsFrom;by_cases hk:kind=.cell
   . subst hk;rw[if_pos (by rfl),if_pos (by rfl)];have hx:CI cl z (h.push {cls:=.type "cell",data:=.cell none}) ((name,h.objs.size)::acc):=by
      have lt:∀n c,acc.lookup n=some c->c<h.objs.size:=fun n c e=>by
       rcases x.from' n c e with q|q;.exact lt_of_lt_of_le (hcl n c q) hz
       .exact q.2.lt
      refine⟨fun n c e=>?_,fun n n' c e e'=>?_⟩
      . rw[lookup_cons]at e;split at e;.cases e;exact .inr ⟨hz,_,get?_push_size _ rfl,rfl⟩
        . rcases x.from' n c e with q|q;.exact .inl q
          .exact .inr ⟨q.1,q.2.keeps fun b o e=>get?_push_of_some _ e⟩
      . rw[lookup_cons]at e e';split at e<;>split at e';.rename_i _ a _ b;rw[eq_of_beq a,eq_of_beq b]
        .cases e;exact absurd (lt n' _ e') (lt_irrefl _)
        .cases e';exact absurd (lt n _ e) (lt_irrefl _)
        .exact x.inj n n' c e e'
     have ih:=Eu hcl r (h.push {cls:=.type "cell",data:=.cell none}) ((name,h.objs.size)::acc) (by rw[size_push];omega) hx;rw[size_push]at ih;refine⟨ih.1,fun n q=>ih.2.1 n ?_,fun n q=>ih.2.2.1 n ?_,fun n c q e=>?_⟩
     . rw[lookup_cons];split;.rfl
       .exact q
     . rcases q with⟨c,e,hc⟩|q
       . left;rw[lookup_cons];split;.exact⟨_,rfl,hz⟩
         .exact⟨c,e,hc⟩
       . rcases mem_cons.mp q with q|q;.cases q;left;exact⟨_,by simp[lookup_cons],hz⟩
         .exact .inr q
     . have:=ih.2.2.2 n c (fun z=>q (mem_cons_of_mem _ z)) e;rw[lookup_cons]at this;split at this;.rename_i a;exact absurd (by rw[eq_of_beq a];exact mem_cons_self) q
       .exact this
   . have hk':(kind==NameKind.cell)=false:=by simpa using hk
     rw[if_neg (by rw[hk'];decide),if_neg (by rw[hk'];decide)];have ih:=Eu hcl r h acc hz x;refine⟨ih.1,ih.2.1,fun n q=>ih.2.2.1 n ?_,fun n c q e=>ih.2.2.2 n c (fun z=>q (mem_cons_of_mem _ z)) e⟩;rcases q with q|q;.exact .inl q
     . rcases mem_cons.mp q with q|q;.cases q;exact absurd rfl hk
       .exact .inr q
structure Ew(X:Cx)(scope:Scope)(z:Nat)(h:Heap)(cs:List (Str×Addr)):Prop where
 from':∀n c,cs.lookup n=some c->X.env.cells.lookup n=some c\/(z<c/\h.IsCell c none)inj:∀n n' c,cs.lookup n=some c->cs.lookup n'=some c->n=n'
 has:∀n,(scope.names.lookup n=some .free\/scope.names.lookup n=some .cell)->∃c,cs.lookup n=some c
 fre:∀n c,scope.names.lookup n=some .free->cs.lookup n=some c->X.env.cells.lookup n=some c
 own:∀n c,scope.names.lookup n=some .cell->cs.lookup n=some c->z<c
theorem Az{M:Model}{A:Around}{E:Value->Shared->Prop}{X:Cx}{s:Shared}{scope:Scope}{N':List Str}{n:Nat}{cl:List (Str×Addr)}{Q:Env->Shared->Prop}(ok:dO X scope N' n)(hlt:∀n c,X.env.cells.lookup n=some c->c<s.heap.objs.size)(hinj:∀x y c,X.env.cells.lookup x=some c->X.env.cells.lookup y=some c->x=y)(hcl:∀n c,cl.lookup n=some c->X.env.cells.lookup n=some c)(ye:∀n,(n,NameKind.free)∈scope.names->(cl.lookup n).isSome)(hQ:∀ cs h',h'.Ns s.heap.objs.size (fun _=>none)->(∀ b o,s.heap.get? b=some o->h'.get? b=some o)->Ew X scope s.heap.objs.size h' cs->Q {scope:=scope,locals:=s.heap.objs.size,globals:=X.env.globals,cells:=cs,qual:=X.env.qual,func:=none,code:=X.env.code,frame:=X.env.frame,builtins:=X.env.builtins} {s with heap:=h'}):wpAny M A (newFunctionEnv scope X.env.globals cl [] X.env.qual none .none (some X.env)) Q E s:=by
 simp only[newFunctionEnv,Option.isSome_some,if_true];refine wpAny_bind (wpAny_alloc ?_);refine wpAny_bind (wpAny_layCells _ (fun name kind cells=>by cases hkc:kind==NameKind.cell<;>simp[hkc]) _ _ _ _ ?_);have ck:=Eu (cl:=cl) (z:=s.heap.objs.size+1) (fun n c e=>Nat.lt_succ_of_lt (hlt n c (hcl n c e))) scope.names (s.heap.push {cls:=.type "dict",data:=.dict #[]}) cl (by rw[size_push];exact le_refl _) ⟨fun n c e=>.inl e,fun n n' c e e'=>hinj n n' c (hcl n c e) (hcl n' c e')⟩;obtain⟨c1,c2,c3,c4⟩:=ck;rw[show({s with heap:=s.heap.push {cls:=.type "dict",data:=.dict #[]}}:Shared).heap.objs.size=(s.heap.push {cls:=.type "dict",data:=.dict #[]}).objs.size from rfl];refine wpAny_bind ?_;rw[forIn_nil];refine wpAny_pure (wpAny_pure (hQ _ _ ((Heap.Ns.new s.heap (.type "dict")).keeps (pushCells_keeps _ _)) (fun b o e=>pushCells_keeps _ _ b o (get?_push_of_some _ e)) ⟨fun n c e=>?_,c1.inj,fun n q=>?_,fun n c q e=>?_,fun n c q e=>?_⟩))
 . rcases c1.from' n c e with z|z;.exact .inl (hcl n c z)
   .exact .inr ⟨z.1,z.2⟩
 . rcases q with q|q;.exact Option.isSome_iff_exists.mp (c2 n (ye n (PySem.mem_of_lookup q)))
   .obtain⟨c,e,_⟩:=c3 n (.inr (PySem.mem_of_lookup q));exact⟨c,e⟩
 .refine hcl n c (c4 n c (fun z=>?_) e);have:=ok.cons _ z;rw[q]at this;cases this
 .obtain⟨c',e',hc'⟩:=c3 n (.inr (PySem.mem_of_lookup q));rw[e]at e';cases e';exact hc'
section
variable{X:Cx}{pins:List (Addr×Obj)}{σ:L2.St}{H:Hp}{s:Shared}{scope:Scope}{N':List Str}{n:Nat}{fp:List Addr}{cl:List (Str×Addr)}
theorem Fe{h1:Heap}{m:Str->Option Value}{t:Nat}{cs:List (Str×Addr)}(ok:dO X scope N' n)(I:Inv X pins σ H s)(hf:∀b∈fp,lX X pins H b/\b<s.heap.objs.size)(bc:Ew X scope s.heap.objs.size h1 cs)(hn:h1.Ns s.heap.objs.size m)(old:∀b u,s.heap.get? b=some u->h1.get? b=some u):Inv (o9 X scope N' cs s.heap.objs.size s H fp) [] (σ++replicate n none) H {s with heap:=h1,toks:=t}:=by
 have WL:∀x,scope.names.lookup x=some .free->(relabel scope X.env).names.lookup x=some .cell\/(relabel scope X.env).names.lookup x=some .free:=fun x h=>by
  have e:=dH (env:=X.env) scope.names x;rw[h]at e;have e':(relabel scope X.env).names.lookup x=_:=e;rw[e'];simp only[Option.map_some];split;.exact .inl rfl
  .exact .inr rfl
 refine⟨⟨I.ok.mod,ok.kind,I.ok.glob,I.ok.blt,le_refl _,fun x y c h1 h2=>bc.inj x y c h1 h2,fun x hx=>?_,fun x c h e=>le_of_lt (bc.own x c (eq_of_beq (show(scope.names.lookup x==some NameKind.cell)=true from h)) e),I.ok.hd,I.ok.frames,.inl rfl,fun b hb=>?_,I.bs,le_trans I.ok.Lx I.sz,fun b u e hb=>?_,fun b hb hfs=>?_,I.stack,I.zJ⟩,rfl,I.bare,Un.kept old,⟨m,hn,fun i x v e1 e2 hv=>?_⟩,fun x c e=>?_,I.hok.fresh (le_refl _),fun x c e=>?_,fun p hp=>(by cases hp),I.hok.kept old,?_⟩;.--a WM name has its cell
   have hx:(relabel scope X.env).names.lookup x=some .cell\/(relabel scope X.env).names.lookup x=some .free:=hx;have e:=dH (env:=X.env) scope.names x;have e':(relabel scope X.env).names.lookup x=_:=e;rw[e']at hx;refine bc.has x ?_;cases q:scope.names.lookup x with|none=>rw[q]at hx;simp at hx|some k=>
     rw[q]at hx;by_cases hk:k=.free;.rw[hk];exact .inl rfl
     . have hk':(k==NameKind.free)=false:=by simpa using hk
       simp only[Option.map_some,hk',Bool.false_and,false_eq_true,if_false,Option.some.injEq]at hx;rcases hx with rfl|rfl;.exact .inr rfl
       .exact absurd rfl hk
 . obtain⟨f,lt⟩:=hf b hb;refine⟨ne_of_lt lt,fun x c e=>?_⟩;rcases bc.from' x c e with e|e;.exact f.2.2.2.2.1 x c e
   .rintro rfl;exact absurd (Nat.lt_trans e.1 lt) (lt_irrefl _)
 . obtain⟨f,lt⟩:=hf b hb;rcases f.2.2.2.1 with h|h;.exact I.ok.Gz b u e h
   .have this:b<X.base.objs.size:=lt_size e;exact absurd (lt_of_lt_of_le this (le_trans I.ok.Lx h)) (lt_irrefl _)
 . obtain⟨f,lt⟩:=hf b hb;rcases mem_cons.mp (I.rP b hfs)with h|h;.exact f.2.1 h
   .exact f.2.2.1 h
 .--the names
   have hi:i<σ.length:=by
    by_cases hi:i<σ.length;.exact hi
    .rw[getElem?_append_right (by omega),getElem?_replicate]at e2;split at e2<;>cases e2
   rw[getElem?_append_left hi]at e2;obtain⟨h1',h2'⟩:=ok.get (by rw[<-I.len];exact hi) e1 hv;have hk:=ok.cap (x,.free) (PySem.mem_of_lookup h2') rfl;obtain⟨m0,hn0,hl⟩:=I.loc;obtain⟨u,r,l⟩:=hl i x v h1' e2 (.inr hk);refine⟨u,r,.inr ⟨WL x h2',?_⟩⟩;rcases l with⟨hk',_⟩|⟨_,c,hc,hcell⟩;.have hk':X.env.scope.names.lookup x=some .local:=hk';rcases hk with hk|hk<;>(rw[hk']at hk;cases hk)
   .obtain⟨c',hc'⟩:=bc.has x (.inl h2');have:=bc.fre x c' h2' hc';rw[hc]at this;cases this;refine⟨c,hc',?_⟩;obtain⟨oc,e3,e4⟩:=hcell;exact⟨oc,old c oc e3,e4⟩
 . rcases bc.from' x c e with e|e;.obtain⟨v,oc,e3,e4⟩:=I.cell x c e;exact⟨v,oc,old c oc e3,e4⟩
   .exact⟨_,e.2⟩
 . rcases bc.from' x c e with e|e;.exact I.jP x c e
   .exact I.hok.fresh (le_of_lt e.1)
 .show(σ++replicate n none).length=N'.length;rw[length_append,length_replicate,I.len,ok.len]
theorem sS{prog:Program}{w:World}{A:Around}{R:Result->Shared->Prop}{elt target iter:Expr}{ifs:List Expr}{scope:Scope}{pos:Pos}{it acc:Value}{env:Env}(I:Nat->Shared->Prop)(turn:∀ n s,I n s->wpAny (model prog w) A (pyNext it) (fun r s₁=>match r with|none=>R (.ok .next) s₁|some v=>wpAny (model prog w) A (letOwnedTupleGo target it v) (fun _ s₁=>wpAny (model prog w) A (assign target env v) (fun _ s₂=>wpAny (model prog w) A (forIn ifs true fun c r=>if r=true then do let ok<-isTrue c env (eval c env);pure (ForInStep.yield ok)else pure (ForInStep.yield r)) (fun ok s₃=>if ok=true then wpAny (model prog w) A (eval elt env) (fun x s₄=>wpAny (model prog w) A (call (.builtin "list.append") [acc,x]) (fun _ s₅=>∃m,m<n/\I m s₅) (notedBy (model prog w) A env fun e s'=>R (.error e) s') s₄) (notedBy (model prog w) A env fun e s'=>R (.error e) s') s₃ else ∃m,m<n/\I m s₃) (notedBy (model prog w) A env fun e s'=>R (.error e) s') s₂) (notedBy (model prog w) A env fun e s'=>R (.error e) s') s₁) (notedBy (model prog w) A env fun e s'=>R (.error e) s') s₁) (notedBy (model prog w) A env fun e s'=>R (.error e) s') s)(n:Nat){s:Shared}(h:I n s):codeAny (model prog w) A (.compLoop (.ListComp elt [⟨target,iter,ifs,0⟩] scope pos) 0 it acc env) R s:=by refine codeAny_loop rfl I (fun n s hI=>?_) n h;show wpAny _ A ((compTurn (.ListComp elt [⟨target,iter,ifs,0⟩] scope pos) 0 it acc env).onRaise (fun x=>do noteFrame x env;theTreesLotGoes x)) _ _ s;refine wpAny_noted ?_;rw[compTurn_list];refine wpAny_bind (wpAny_standAt (wpAny_bind (wpAny_mono (turn n s hI) (fun r s₁ h₁=>?_) fun _ _ h'=>h')));cases r with|none=>exact wpAny_pure h₁|some v=>refine wpAny_bind (wpAny_mono h₁ (fun _ s₁ h₁=>?_) fun _ _ h'=>h');refine wpAny_bind (wpAny_mono h₁ (fun _ s₂ h₂=>wpAny_bind (wpAny_mono h₂ (fun ok s₃ h₃=>?_) fun _ _ h'=>h')) fun _ _ h'=>h');cases ok with|false=>exact wpAny_pure ⟨rfl,h₃⟩|true=>exact wpAny_bind (wpAny_bind (wpAny_mono h₃ (fun x s₄ h₄=>wpAny_bind (wpAny_mono h₄ (fun _ s₅ h₅=>wpAny_pure (wpAny_pure ⟨rfl,h₅⟩)) fun _ _ h'=>h')) fun _ _ h'=>h'))
def Ny(X:Cx)(ifs:List Expr)(t:TT):Prop:=∀(pins:List (Addr × Obj))(s:Shared)(σ:L2.St)(H:Hp)(Q:Bool->Hp->Prop),Inv X pins σ H s->t σ H Q->wpAny (model X.prog X.w) X.A (forIn ifs true fun c r=>if r=true then do let ok<-isTrue c X.env (eval c X.env);pure (ForInStep.yield ok)else pure (ForInStep.yield r)) (TP X pins σ Q) X.xe s
theorem IW{X:Cx}:Ny X [] (fun _ H Q=>Q true H):=fun pins s σ H Q I h=>wpAny_tests_nil ⟨H,I,h⟩
theorem Hy{X:Cx}{c:Expr}{t:TT}(h:PT X c t):Ny X [c] t:=fun pins s σ H Q I q=>wpAny_tests_one (h pins s σ H Q I q)
def K3(J:It)(g:TG)(tt:TT)(te:TE)(D:Addr)(Q:Hp->Prop)(W:Nat->Nat->List V->L2.St->Hp->Prop):Prop:=∀ i m ys σ H,W i m ys σ H->H D=some (.lst ys)/\((J.stop i H/\Q H)\/(J.go i H/\∀ x H2,J.GD i H x H2->g x σ H2 fun σ3 H3=>tt σ3 H3 fun b H4=>if b=true then te σ3 H4 fun y H5=>H5 D=some (.lst ys)/\ys.length<sizeLine/\∃m',m'<m/\W (i+1) m' (ys++[y]) σ3 (upd H5 D (.lst (ys++[y])))else ∃m',m'<m/\W (i+1) m' ys σ3 H4))
theorem qG{E:Value->Shared->Prop}{elt target iter:Expr}{ifs:List Expr}{pos:Pos}{it:Addr}{tn:Nat->Heap->Prop}{J:It}{g:TG}{tt:TT}{te:TE}{Q:Addr->Hp->Prop}{RR:Value->Addr->Result->Shared->Prop}(hc:X.calm=true)(ok:dO X scope N' n)(I:Inv X pins σ H s)(hcl:∀n c,cl.lookup n=some c->X.env.cells.lookup n=some c)(ye:∀n,(n,NameKind.free)∈scope.names->(cl.lookup n).isSome)(T:Turn X.prog X.w X.K target J fp it tn)(h0:tn 0 s.heap)(hf:∀b∈fp,lX X pins H b)(hg:∀cl C s₀ H₀ ex,PG (o9 X scope N' cl C s₀ H₀ ex) target g)(ht:∀cl C s₀ H₀ ex,Ny (o9 X scope N' cl C s₀ H₀ ex) ifs tt)(he:∀cl C s₀ H₀ ex,PE (o9 X scope N' cl C s₀ H₀ ex) elt te)(hw:∀D,H D=none->∃W,(∃m,W 0 m [] (σ++replicate n none) (upd H D (.lst [])))/\K3 J g tt te D (Q D) W)(hRR:∀D C s' H',Q D H'->(∃m,s'.heap.Ns C m)->lX X pins H' C->Inv X pins σ H' s'->RR (.ref D) C (.ok .next) s'):wpAny (model X.prog X.w) X.A (newList []) (fun acc s₃=>wpAny (model X.prog X.w) X.A (newFunctionEnv scope X.env.globals cl [] X.env.qual none .none (some X.env)) (fun cenv s₄=>codeAny (model X.prog X.w) X.A (.compStart (.ListComp elt [⟨target,iter,ifs,0⟩] scope pos) 0 (.ref it) acc {cenv with scope:=relabel scope X.env}) (RR acc cenv.locals) s₄) E s₃) E s:=by
 refine wpAny_newObj_type (Az ok (fun x c e=>?lt) I.ok.inj hcl ye (fun cs h₁ hns hold bc=>?_));case lt=>obtain⟨v,z⟩:=I.cell x c e;exact lt_of_lt_of_le z.lt (by show _<=(s.heap.push _).objs.size;rw[size_push];exact le_succ _)
 dsimp only at hns hold bc ⊢--the new list,tracked
 have I3:Inv X pins σ (upd H s.heap.objs.size (.lst [])) {s with heap:=s.heap.push {cls:=.type "list",data:=.seq ([]:List Value).toArray}}:=I.Nf (t':=s.toks) .nil (zero_le _);generalize hs3:({s with heap:=s.heap.push {cls:=.type "list",data:=.seq ([]:List Value).toArray}}:Shared)=s3 at I3;have hsz:s3.heap.objs.size=s.heap.objs.size+1:=by rw[<-hs3];exact size_push _ _
 have Ma:s3.heap=s.heap.push {cls:=.type "list",data:=.seq ([]:List Value).toArray}:=by rw[<-hs3]
 obtain⟨W,⟨m0,w0⟩,turn⟩:=hw s.heap.objs.size I.fresh;have tnK:∀{h':Heap},(∀b o,s.heap.get? b=some o->h'.get? b=some o)->tn 0 h':=fun k=>T.keep _ _ _ h0 fun b hb o e=>k b o e;have Zm:∀b∈fp,lX X pins (upd H s.heap.objs.size (.lst [])) b/\b<s3.heap.objs.size:=fun b hb=>by obtain⟨o,e,_⟩:=T.obj 0 _ h0 b hb;have lt:=lt_size e;obtain⟨f1,f2⟩:=hf b hb;exact⟨⟨by rw[aC (ne_of_lt lt)];exact f1,f2⟩,by rw[hsz];exact Nat.lt_succ_of_lt lt⟩
 rw[<-Ma]at hns hold bc ⊢;have I4:=Fe (t:=s3.toks) ok I3 Zm bc hns hold;have WN:∀b o,s.heap.get? b=some o->h₁.get? b=some o:=fun b o e=>hold b o (by rw[Ma];exact get?_push_of_some _ e);generalize hX:o9 X scope N' cs s3.heap.objs.size s3 (upd H s.heap.objs.size (.lst [])) fp=X' at I4;have hA:X'.A=X.A:=by rw[<-hX];rfl
 have hpr:X'.prog=X.prog:=by rw[<-hX];rfl
 have hwr:X'.w=X.w:=by rw[<-hX];rfl
 have hKK:X'.K=X.K:=by rw[<-hX];rfl
 have hcalm:X'.calm=true:=by rw[<-hX];exact hc
 have hxe:X'.xe=fun _ _=>False:=by rw[<-hX];rfl
 have henv:X'.env=compEnvC scope cs s3.heap.objs.size X.env:=by rw[<-hX];rfl
 have hg':PG X' target g:=by rw[<-hX];exact hg _ _ _ _ _
 have ht':Ny X' ifs tt:=by rw[<-hX];exact ht _ _ _ _ _
 have he':PE X' elt te:=by rw[<-hX];exact he _ _ _ _ _
 have ff:∀{H':Hp}{b:Addr},b∈fp->H' b=none->lX X' [] H' b:=fun{H' b}hb hn=>by
  obtain⟨f,lt⟩:=Zm b hb;rw[<-hX];refine⟨hn,ne_of_lt lt,fun hfs=>?_,.inl hb,fun x c e=>?_,fun p hp=>by cases hp⟩
  . rcases mem_cons.mp (I3.rP b hfs)with h|h;.exact f.2.1 h
    .exact f.2.2.1 h
  . rcases bc.from' x c e with e|e;.exact f.2.2.2.2.1 x c e
    .rintro rfl;exact absurd (Nat.lt_trans e.1 lt) (lt_irrefl _)--behind the block
 have fin:∀{σ':L2.St}{H':Hp}{s':Shared},Inv X' [] σ' H' s'->Q s.heap.objs.size H'->RR (.ref s.heap.objs.size) s3.heap.objs.size (.ok .next) s':=fun{σ' H' s'}J' q=>by
  rw[<-hX]at J';have hC:H' s3.heap.objs.size=none:=J'.free;obtain⟨hh,gg,dd,tt',os'⟩:=s';have eos:os'=s3.os:=J'.os;subst eos;refine hRR _ _ _ H' q (let⟨m,hm,_⟩:=J'.loc;⟨m,hm⟩) ?_ (I3.call (h':=hh) (g':=gg) (d':=dd) (t':=tt') (ch:=fp) J'.base J'.hok J'.bare fun b hb=>?_);.exact I3.xY (le_refl _) hC
  .obtain⟨f,lt⟩:=Zm b hb;exact⟨f.2.2.2.1,f.2.1,f.2.2.2.2.1,f.2.2.2.2.2⟩
 have main:codeAny (model X.prog X.w) X.A (.compLoop (.ListComp elt [⟨target,iter,ifs,0⟩] scope pos) 0 (.ref it) (.ref s.heap.objs.size) X'.env) (RR (.ref s.heap.objs.size) s3.heap.objs.size) {s3 with heap:=h₁,toks:=s3.toks}:=by
  refine sS (fun k s'=>∃i ys σ' H',Inv X' [] σ' H' s'/\tn i s'.heap/\(∀b∈fp,H' b=none)/\W i k ys σ' H') (fun k s5 hI=>?_) m0 ⟨0,[],_,_,I4,tnK WN,fun b hb=>(Zm b hb).1.1,w0⟩;obtain⟨i,ys,σ5,H5,I5,t5,f5,w5⟩:=hI;obtain⟨hD,hturn⟩:=turn i k ys σ5 H5 w5;have Zn:∀{Z:Value->Shared->Prop},∀(e:Value)(s':Shared),X'.xe e s'->Z e s':=fun e s' z=>by rw[hxe]at z;exact False.elim z
  rcases hturn with⟨stop,q⟩|⟨go,step⟩;.have z:=T.done X' hpr hwr hKK hcalm i [] s5 σ5 H5 (fun _ _=>False) I5 (fun b hb=>ff hb (f5 b hb)) t5 stop;rw[hA]at z;refine wpAny_mono z (?_) fun _ _ z=>False.elim z;rintro r s6⟨hr,I6⟩;subst hr;exact fin I6 q
  . have z:=T.item X' hpr hwr hKK hcalm i [] s5 σ5 H5 (fun _ _=>False) I5 (fun b hb=>ff hb (f5 b hb)) t5 go;rw[hA]at z;refine wpAny_mono z (?_) fun _ _ z=>False.elim z;rintro r s6⟨u,hr,z6⟩;subst hr;refine wpAny_mono z6 (?_) fun _ _ z=>False.elim z;rintro _ s7⟨x,H7,I7,r7,y7,t7,f7⟩;have I7':=I7.pinned (fun b hb=>ff hb (f7 b hb)) (T.obj _ _ t7)--what the pins keep
    have back:∀{σ':L2.St}{H':Hp}{s':Shared},Inv X' ([]++oW fp s7.heap) σ' H' s'->Inv X' [] σ' H' s'/\tn (i+1) s'.heap/\∀b∈fp,H' b=none:=fun{σ' H' s'}J'=>by refine⟨J'.kY,T.keep _ _ _ t7 fun b hb o e=>(J'.pin (b,o) (mem_append_right _ (mem_append_right _ (iz hb e)))).1,fun b hb=>?_⟩;obtain⟨o,e,_⟩:=T.obj _ _ t7 b hb;exact(J'.pin (b,o) (mem_append_right _ (mem_append_right _ (iz hb e)))).2.1
    have z7:=hg' _ s7 σ5 H7 x u _ I7' r7 (step x H7 y7);rw[hA,hpr,hwr]at z7;refine wpAny_mono z7 (?_) Zn;rintro _ s8⟨σ8,H8,I8,q8⟩;have z8:=ht' _ s8 σ8 H8 _ I8 q8;rw[hA,hpr,hwr]at z8;refine wpAny_mono z8 (?_) Zn;rintro b s9⟨H9,I9,q9⟩;cases b with|false=>rw[if_neg Bool.false_ne_true]at q9 ⊢;obtain⟨m',hm,w'⟩:=q9;obtain⟨b1,b2,b3⟩:=back I9;exact⟨m',hm,i+1,ys,σ8,H9,b1,b2,b3,w'⟩|true=>rw[if_pos rfl]at q9 ⊢;have z9:=he' _ s9 σ8 H9 _ I9 q9;rw[hA,hpr,hwr]at z9;refine wpAny_mono z9 (?_) Zn;rintro y jy⟨yv,H10,I10,r10,acK,hlen,m',hm,w'⟩;have z10:=mD _ jy σ8 H10 (.ref s.heap.objs.size) [yv] (.ref s.heap.objs.size) [y] (fun v H11=>H11=upd H10 s.heap.objs.size (.lst (ys++[yv]))) I10 rfl (.cons r10 .nil) ⟨_,ys,yv,rfl,rfl,acK,hlen,rfl⟩;rw[hA,hpr,hwr]at z10;refine wpAny_mono z10 (?_) Zn;rintro _ Xz⟨_,H11,I11,_,e11⟩;subst e11;obtain⟨b1,b2,b3⟩:=back I11;exact⟨m',hm,i+1,ys++[yv],σ8,_,b1,b2,b3,w'⟩
 have e3:({s3 with heap:=h₁,toks:=s3.toks}:Shared)={s with heap:=h₁}:=by rw[<-hs3]
 rw[henv,e3]at main;exact codeAny_compStart_list main (T.self _ 0 _ _ _ (tnK WN) main)
end
section
variable{X:Cx}{elt target iter:Expr}{ifs:List Expr}{scope:Scope}{pos:Pos}{N':List Str}{n:Nat}{wi:TI}{g:TG}{tt:TT}{te:TE}
def qT(n:Nat)(wi:TI)(g:TG)(tt:TT)(te:TE):TE:=fun σ H Q=>wi σ H fun J H1=>∀D,H1 D=none->∃W,(∃m,W 0 m [] (σ++replicate n none) (upd H1 D (.lst [])))/\K3 J g tt te D (fun H'=>Q (.ref D) H') W
theorem kE{pins:List (Addr×Obj)}{σ:L2.St}{H:Hp}{s:Shared}(I:Inv X pins σ H s)(ok:dO X scope N' n):∃cl,closureFor scope X.env=pure cl/\(∀n c,cl.lookup n=some c->X.env.cells.lookup n=some c)/\∀n,(n,NameKind.free)∈scope.names->(cl.lookup n).isSome:=wV fun m hm=>I.ok.has m (ok.cap (m,.free) hm rfl)
theorem Jx(hc:X.calm=true)(ok:dO X scope N' n)(hi:PI X target iter wi)(hg:∀cl C s₀ H₀ ex,PG (o9 X scope N' cl C s₀ H₀ ex) target g)(ht:∀cl C s₀ H₀ ex,Ny (o9 X scope N' cl C s₀ H₀ ex) ifs tt)(he:∀cl C s₀ H₀ ex,PE (o9 X scope N' cl C s₀ H₀ ex) elt te)(hs:∀x,foldedSetIterable iter X.env x=pure x:=by intro _;rfl):PE X (.ListComp elt [⟨target,iter,ifs,0⟩] scope pos) (qT n wi g tt te):=by intro pins s σ H Q I h;obtain⟨cl,hclos,hcl,ye⟩:=kE I ok;rw[eval_ListComp];refine wpAny_comprehension_free (use:=none) rfl hs hclos ok.kind ok.names (bZ (hi pins s σ H _ I h) fun v s1 h1=>bZ h1 fun itv s2 h2=>?_);obtain⟨it,fp,tn,J,H2,rfl,I2,T,t0,f2,hw⟩:=h2;refine qG (Q:=fun D H'=>Q (.ref D) H') (RR:=fun acc C=>compPost (model X.prog X.w) X.A X.xe none (EP X pins σ Q) acc C) hc ok I2 hcl ye T t0 f2 hg ht he hw fun D C s' H' q hm By I'=>?_;obtain⟨m,hm⟩:=hm;refine⟨m,hm,fun h' hs'=>⟨.ref D,H',?_,rfl,q⟩⟩;exact I'.turned (t':=s'.toks) (fun b o hb e=>hs'.extBut b o hb e) By.1 By.2.1 By.2.2.2.1 By.2.2.2.2.1 By.2.2.2.2.2
theorem tW{i:Nat}{x:Str}{pos' spos:Pos}(hc:X.calm=true)(hN:X.N.Nodup)(hx0:X.N[i]?=some x)(hx:Loc X.env.scope x)(ok:dO X scope N' n)(hi:PI X target iter wi)(hg:∀cl C s₀ H₀ ex,PG (o9 X scope N' cl C s₀ H₀ ex) target g)(ht:∀cl C s₀ H₀ ex,Ny (o9 X scope N' cl C s₀ H₀ ex) ifs tt)(he:∀cl C s₀ H₀ ex,PE (o9 X scope N' cl C s₀ H₀ ex) elt te)(hsw:swapsWith (.ListComp elt [⟨target,iter,ifs,0⟩] scope pos) (some (.Name x pos')) spos.line X.env=pure true)(hs:∀x,foldedSetIterable iter X.env x=pure x:=by intro _;rfl)(hf:X.fn x=true\/X.env.scope.names.lookup x=some .local:=by first|exact .inl rfl|exact .inr rfl|assumption):PS X (.Assign [.Name x pos'] (.ListComp elt [⟨target,iter,ifs,0⟩] scope pos) spos) (Mz (qT n wi g tt te) (iT i)):=by
 intro pins s σ H D I h;obtain⟨cl,hclos,hcl,ye⟩:=kE I ok;rw[exec_Assign_Name_used _ _ _ _ hsw];refine wpAny_bind (wpAny_standAt (wpAny_bind ?_));show wpAny _ X.A (do let _<-comprehension (.ListComp elt [⟨target,iter,ifs,0⟩] scope pos) scope X.env _ (newList []) false (eval iter X.env) (some (assign (.Name x pos') X.env))) _ _ s;refine wpAny_bind (wpAny_mono (wpAny_comprehension_free (use:=some (assign (.Name x pos') X.env)) (Q:=fun _ s'=>SP X pins D .next s') rfl hs hclos ok.kind ok.names (bZ (hi pins s σ H _ I h) fun v s1 h1=>bZ h1 fun itv s2 h2=>?_)) (fun _ s' hq=>wpAny_pure (wpAny_pure hq)) fun _ _ e=>e);obtain⟨it,fp,tn,J,H2,rfl,I2,T,t0,f2,hw⟩:=h2;refine qG (Q:=fun Da H'=>D.nx (σ.set i (some (.ref Da))) H') (RR:=fun acc C=>compPost (model X.prog X.w) X.A X.xe (some (assign (.Name x pos') X.env)) (fun _ s'=>SP X pins D .next s') acc C) hc ok I2 hcl ye T t0 f2 hg ht he hw fun Da C s' H' q hm By I'=>?_;obtain⟨m,hm⟩:=hm;show wpAny _ X.A (assign (.Name x pos') X.env (.ref Da)) _ _ _;refine wpAny_assign_Name (qX I' hN hx0 hx (show RelV (.ref Da) (.ref Da)from rfl) (?_) hf);rintro s'' I''⟨a,sb,ha⟩;have hCa:C≠a:=by
  rcases ha with rfl|ha;.exact By.2.1
  .exact fun z=>By.2.2.2.2.1 x a ha z.symm
 refine⟨m,hm.sameBut sb hCa,fun h' hs'=>⟨_,H',?_,q⟩⟩;exact I''.turned (t':=s''.toks) (fun b o hb e=>hs'.extBut b o hb e) By.1 By.2.1 By.2.2.2.1 By.2.2.2.2.1 By.2.2.2.2.2
def ZM(K:PySem.W.Frag)(tl:TE):TI:=fun σ H R=>tl σ H fun x H1=>∃a,x=.ref a/\(((∃xs,dq K H1 a xs)/\R (Ml K a) H1)\/((∃xs,gO K H1 a xs)/\R (RW K a) H1))
theorem wg{tg l:Expr}{tl:TE}(hl:PE X l tl):PI X tg l (ZM X.K tl):=by
 intro pins s σ H R I h;refine bZ (hl pins s σ H _ I h) ?_;rintro v s1⟨x,H1,I1,r1,q1⟩;obtain⟨a,e,q1⟩:=q1;subst e;cases r1;rcases q1 with⟨⟨xs,hq⟩,q⟩|⟨⟨xs,hq⟩,q⟩
 . obtain⟨its,rv,p,hz⟩:=I1.list hq;refine wpAny_pyIter_list p.isList ?_;refine⟨s1.heap.objs.size,[s1.heap.objs.size],_,_,H1,rfl,I1.kept (t':=s1.toks) fun b o e=>get?_push_of_some _ e,Br a _,⟨_,get?_push_size _ rfl,rfl,rfl⟩,fun b hb=>?_,q⟩;have e:b=s1.heap.objs.size:=by simpa using hb
   subst e;exact I1.xY (le_refl _) (I1.hok.fresh (le_refl _))
 . obtain⟨its,rv,p,hz⟩:=I1.tuple hq;refine wpAny_pyIter_tuple (show s1.heap.IsTuple a its.toArray from p) ?_;refine⟨s1.heap.objs.size,[s1.heap.objs.size],_,_,H1,rfl,I1.kept (t':=s1.toks) fun b o e=>get?_push_of_some _ e,wL a _,⟨_,get?_push_size _ rfl,rfl,rfl⟩,fun b hb=>?_,q⟩;have e:b=s1.heap.objs.size:=by simpa using hb
   subst e;exact I1.xY (le_refl _) (I1.hok.fresh (le_refl _))
end
end L2
end
section
namespace HH
open PySem L2 PySem.Spec PyProof.Rows
structure Walk(K:PySem.W.Frag)(F:Hp)(ρ:List Sl)(σ:L2.St)(H:Hp)(ul:List Sl->List Sl)(J:It)(ds:List D)(F1:Hp)(ρ1:List Sl)(H1:Hp):Prop where
 gs:GS K F1 ρ1 σ H1
 src:∀(n k:Nat)(F':Hp)(ρ':List Sl)(σ':L2.St)(H':Hp),aJ K F1 (ρ1++replicate n .aP) (σ++replicate n none) H1 F' ρ' σ' H'->(∀d,ds[k]?=some d->J.go k H'/\∀x jH,J.GD k H' x jH->∃F'',Ext F' H' F'' jH/\Rep K F'' x d)/\(ds.length<=k->J.stop k H')fin:∀F2 ρ2 σ2 H2,aJ K F1 ρ1 σ H1 F2 ρ2 σ2 H2->aJ K F ρ σ H F2 (ul ρ2) σ2 H2/\∀v r,cJ K F2 ρ2 σ2 H2 ρ1 σ H1 v r->cJ K F2 (ul ρ2) σ2 H2 ρ σ H v r
inductive tIt(K:PySem.W.Frag)(iv:Option Nat)(f:Ev)(σ:L2.St)(H:Hp)(R:It->Hp->Prop):Prop where|mk(F:Hp)(ρ:List Sl)(ds:List D)(ρ1:List Sl)(g:GS K F ρ σ H)(e:srcOf iv f ρ=.ok ds ρ1)(k:∀J F1 H1,Walk K F ρ σ H (aW ρ iv) J ds F1 ρ1 H1->R J H1)
section
variable{K:PySem.W.Frag}{F F1 H H1:Hp}{ρ ρ1:List Sl}{σ:L2.St}{ds:List D}{a:Addr}
theorem yK{xs:List V}{F' H':Hp}(hq:gO K H' a xs)(r:aF K F' xs ds)(s:aG F' H')(k:Nat):(∀d,ds[k]?=some d->(RW K a).go k H'/\∀x jH,(RW K a).GD k H' x jH->∃F'',Ext F' H' F'' jH/\Rep K F'' x d)/\(ds.length<=k->(RW K a).stop k H'):=by refine⟨fun d hd=>?_,fun h=>⟨xs,hq,by rw[r.length];exact h⟩⟩;obtain⟨w,h1,h2⟩:=r.get hd;refine⟨⟨xs,w,hq,h1⟩,?_⟩;rintro x jH⟨e,y⟩;subst e;have:=y xs hq;rw[h1]at this;cases this;exact⟨F',.refl s,h2⟩
theorem pB{xs:List V}{F' H':Hp}(hq:dq K H' a xs)(r:aF K F' xs ds)(s:aG F' H')(k:Nat):(∀d,ds[k]?=some d->(Ml K a).go k H'/\∀x jH,(Ml K a).GD k H' x jH->∃F'',Ext F' H' F'' jH/\Rep K F'' x d)/\(ds.length<=k->(Ml K a).stop k H'):=by refine⟨fun d hd=>?_,fun h=>⟨xs,hq,by rw[r.length];exact h⟩⟩;obtain⟨w,h1,h2⟩:=r.get hd;refine⟨⟨xs,w,hq,h1⟩,?_⟩;rintro x jH⟨e,y⟩;subst e;have:=y xs hq;rw[h1]at this;cases this;exact⟨F',.refl s,h2⟩
theorem uT{ul:List Sl->List Sl}{v:V}{d:D}(s:aJ K F ρ σ H F1 ρ1 σ H1)(r:Rep K F1 v d)(hi:items d=some ds)(fin:∀F2 ρ2 σ2 H2,aJ K F1 ρ1 σ H1 F2 ρ2 σ2 H2->aJ K F ρ σ H F2 (ul ρ2) σ2 H2/\∀v r,cJ K F2 ρ2 σ2 H2 ρ1 σ H1 v r->cJ K F2 (ul ρ2) σ2 H2 ρ σ H v r):∃a,v=.ref a/\(((∃xs,dq K H1 a xs)/\Walk K F ρ σ H ul (Ml K a) ds F1 ρ1 H1)\/((∃xs,gO K H1 a xs)/\Walk K F ρ σ H ul (RW K a) ds F1 ρ1 H1)):=by cases d with|tup es=>cases hi;rw[Rep]at r;obtain⟨a,xs,rfl,h1,h2⟩:=r;exact⟨a,rfl,.inr ⟨⟨xs,aG.fW s.gs.sub h1⟩,s.gs,fun n k F' ρ' σ' H' s'=>yK (aG.fW s'.gs.sub (aG.fW s'.bU h1)) (h2.mono s'.bU) s'.gs.sub k,fin⟩⟩|lst es=>cases hi;rw[Rep]at r;obtain⟨a,xs,rfl,h1,h2⟩:=r;exact⟨a,rfl,.inl ⟨⟨xs,s.gs.sub.seq h1⟩,s.gs,fun n k F' ρ' σ' H' s'=>pB (s'.gs.sub.seq (s'.bU.seq h1)) (h2.mono s'.bU) s'.gs.sub k,fin⟩⟩|_=>cases hi
theorem rE{i:Nat}{ul:List Sl->List Sl}(g:GS K F ρ1 σ H)(e:ρ1[i]?=some (.lent ds))(fin:∀F2 ρ2 σ2 H2,aJ K F ρ1 σ H F2 ρ2 σ2 H2->aJ K F ρ σ H F2 (ul ρ2) σ2 H2/\∀v r,cJ K F2 ρ2 σ2 H2 ρ1 σ H v r->cJ K F2 (ul ρ2) σ2 H2 ρ σ H v r):∃a,σ[i]?=some (some (.ref a))/\(∃xs,dq K H a xs)/\Walk K F ρ σ H ul (Ml K a) ds F ρ1 H:=by obtain⟨a,xs,h1,h2,h3,h4⟩:=g.kh i _ ds e rfl;have hi:i<ρ1.length:=(List.getElem?_eq_some_iff.mp e).1;refine⟨a,h1,⟨xs,dq.of h2⟩,g,fun n k F' ρ' σ' H' s'=>?_,fin⟩;obtain⟨z1,t,z2,z3⟩:=s'.lk i _ (by rw[getElem?_append_left hi];exact e) rfl;cases(show t=.lent ds from z3);rw[getElem?_append_left (by rw[<-g.len];exact hi),h1]at z1;obtain⟨a',ys,w1,w2,w3,w4⟩:=s'.gs.kh i _ ds z2 rfl;rw[z1]at w1;cases w1;exact pB (dq.of w2) w4 s'.gs.sub k
end
section
variable{X:Cx}{c:Call}{n:Nat}{e a b d tg:Expr}{p pa pb pd:P}{pos:Pos}
theorem mU{t t':TI}(h:PI X tg e t)(i:∀σ H R,t' σ H R->t σ H R):PI X tg e t':=fun pins s σ H R I q=>h pins s σ H R I (i σ H R q)
def SI(X:Cx)(c:Call)(tg e:Expr)(p:P):Prop:=PI X tg e (tIt X.K (isVar p) (HH.ev c p))
theorem bQ(h:SX X c e p):SI X c tg e p:=by unfold SI;cases hv:isVar p with|none=>refine mU (wg h.ev) ?_;rintro σ H R⟨F,ρ,ds,ρ1,g,e,k⟩;obtain⟨r,ρ2,e1,e2⟩:=ak e;have zz:=aD e2;clear e2;obtain⟨e2,e3⟩:=zz;subst e3;refine⟨F,ρ,r,_,g,e1,fun v F' H' s rr=>?_⟩;obtain⟨F2,s2,_,rp⟩:=s.cW rr;obtain⟨a,ha,hw⟩:=uT (ul:=aW ρ none) s2 rp e2 fun F3 ρ3 σ3 H3 s3=>⟨s2.trans s3,fun v r rr=>rr.later s2⟩;exact⟨a,ha,hw.imp (fun⟨z,w⟩=>⟨z,k _ _ _ w⟩) (fun⟨z,w⟩=>⟨z,k _ _ _ w⟩)⟩|some i=>
   refine mU (wg (h.var i hv)) ?_;rintro σ H R⟨F,ρ,ds,ρ1,g,e,k⟩;unfold srcOf at e;dsimp only at e;split at e
   . rename_i b d q;have zz:=aD e;clear e;obtain⟨e2,e3⟩:=zz;subst e3;obtain⟨v,h1,h2⟩:=g.val i b d q;have fin:∀F2 ρ2 σ2 H2,aJ X.K F ρ σ H F2 ρ2 σ2 H2->aJ X.K F ρ σ H F2 (aW ρ (some i) ρ2) σ2 H2/\∀v r,cJ X.K F2 ρ2 σ2 H2 ρ σ H v r->cJ X.K F2 (aW ρ (some i) ρ2) σ2 H2 ρ σ H v r:=fun F2 ρ2 σ2 H2 s=>by unfold aW;dsimp only;rw[q];exact⟨s,fun _ _ z=>z⟩
     obtain⟨a,ha,hw⟩:=uT (ul:=aW ρ (some i)) (.refl g) h2 e2 fin;exact⟨v,h1,a,ha,hw.imp (fun⟨z,w⟩=>⟨z,k _ _ _ w⟩) (fun⟨z,w⟩=>⟨z,k _ _ _ w⟩)⟩
   . rename_i b ds' q;cases e;have hi:i<ρ.length:=(List.getElem?_eq_some_iff.mp q).1;have fin:∀F2 ρ2 σ2 H2,aJ X.K F (ρ.set i (.lent ds)) σ H F2 ρ2 σ2 H2->aJ X.K F ρ σ H F2 (aW ρ (some i) ρ2) σ2 H2/\∀v r,cJ X.K F2 ρ2 σ2 H2 (ρ.set i (.lent ds)) σ H v r->cJ X.K F2 (aW ρ (some i) ρ2) σ2 H2 ρ σ H v r:=fun F2 ρ2 σ2 H2 s=>by unfold aW;dsimp only;rw[q];exact aJ.aW g q s
     obtain⟨a,h1,hx,w⟩:=rE (ul:=aW ρ (some i)) (g.lend q) (getElem?_set_self hi) fin;exact⟨_,h1,a,rfl,.inl ⟨hx,k _ _ _ w⟩⟩
   . rename_i ds' q;cases e;have fin:∀F2 ρ2 σ2 H2,aJ X.K F ρ σ H F2 ρ2 σ2 H2->aJ X.K F ρ σ H F2 (aW ρ (some i) ρ2) σ2 H2/\∀v r,cJ X.K F2 ρ2 σ2 H2 ρ σ H v r->cJ X.K F2 (aW ρ (some i) ρ2) σ2 H2 ρ σ H v r:=fun F2 ρ2 σ2 H2 s=>by unfold aW;dsimp only;rw[q];exact⟨s,fun _ _ z=>z⟩
     obtain⟨a,h1,hx,w⟩:=rE (ul:=aW ρ (some i)) g q fin;exact⟨_,h1,a,rfl,.inl ⟨hx,k _ _ _ w⟩⟩
   .cases e
theorem Dj{K:PySem.W.Frag}{F F1 H H1:Hp}{ρ ρ1:List Sl}{σ:L2.St}(s:aJ K F ρ σ H F1 ρ1 σ H1)(i j:Int):Walk K F ρ σ H (aW ρ none) (V1 i (j-i).toNat) ((List.range (j-i).toNat).map fun(k:Nat)=>D.int (i+(k:Int))) F1 ρ1 H1:=by
 refine⟨s.gs,fun n k F' ρ' σ' H' s'=>⟨fun d hd=>?_,fun h=>?_⟩,fun F3 ρ3 σ3 H3 s3=>⟨s.trans s3,fun v r rr=>rr.later s⟩⟩;.rw[getElem?_map]at hd;obtain⟨m,e1,e2⟩:=map_some hd;obtain⟨h1,h2⟩:=List.getElem?_eq_some_iff.mp e1;rw[List.getElem_range]at h2;subst h2;subst e2;rw[length_range]at h1;refine⟨h1,?_⟩;rintro x jH⟨q1,q2⟩;subst q1;subst q2;exact⟨F',.refl s'.gs.sub,cj _⟩
 .rw[length_map,length_range]at h;exact h
theorem fC{x:Str}{p':Pos}(hx:x="range")(hg:Gl X x)(hm:X.mg x=none)(ha:SX X c a pa)(hs:starEach [a] X.env=[(false,eval a X.env)]:=by rfl):SI X c tg (.Call (.Name x p') [a] [] pos) (.tZ (.con (.int 0)) pa):=by
 subst hx;obtain⟨ta,h1,h2⟩:=ha.cR;refine mU (rm hg hm (cz h1 dR hs) hs) ?_;rintro σ H R⟨F,ρ,ds,ρ1,g,e,k⟩;obtain⟨r,ρ2,e1,e2⟩:=ak e;have zz:=aD e2;clear e2;obtain⟨e2,e3⟩:=zz;subst e3;rw[HH.E20]at e1;obtain⟨xy,ρ3,e4,e5⟩:=ak e1;have zz:=aD e5;clear e5;obtain⟨e5,e6⟩:=zz;subst e6;obtain⟨y0,ρ5,e9,e10⟩:=ak e4;cases e10;obtain⟨i,f1,e5⟩:=cC e5;obtain⟨j,f2,e5⟩:=cC e5;obtain⟨⟨b1,b2,b3,b4⟩,e5⟩:=bD e5;have f1:i=0:=by cases f1;rfl
 subst f1;subst e5;cases e2;cases dI f2;refine h2 g e9 fun v F' H' s pv=>⟨j,by rw[pv.int],by omega,by omega,?_⟩;have:=Dj s 0 j;rw[sub_zero]at this;refine k _ F' H' ?_;rw[sub_zero];exact this
end
section
variable{X:Cx}{c:Call}{n:Nat}{e a b d tg iter:Expr}{p pa pb pd:P}{pos:Pos}{body:List Stmt}{ss:List S}
def Cv(K:PySem.W.Frag)(bd:List Sl->D->Option (List Sl))(g:TG):Prop:=∀(x:V)(d:D)(F:Hp)(ρ ρ':List Sl)(σ:L2.St)(H:Hp)(Q:L2.St->Hp->Prop),GS K F ρ σ H->Rep K F x d->bd ρ d=some ρ'->(∀σ',aJ K F ρ σ H F ρ' σ' H->Q σ' H)->g x σ H Q
theorem tR{K:PySem.W.Frag}(i:Nat):Cv K (fun ρ d=>put ρ i (.val false d)) (iT i):=fun x d F ρ ρ' σ H Q g r h k=>k _ (aJ.put (r:=.val d) (.refl g) r h)
theorem dz{K:PySem.W.Frag}:∀(is:List Nat)(gs:BL),(∀(xs:List V)(ds:List D)(F:Hp)(ρ ρ':List Sl)(σ:L2.St)(H:Hp)(Q:L2.St->Hp->Prop),GS K F ρ σ H->aF K F xs ds->putAll ρ is ds=some ρ'->(∀σ',aJ K F ρ σ H F ρ' σ' H->Q σ' H)->gs xs σ H Q)->∀i,∀(xs:List V)(ds:List D)(F:Hp)(ρ ρ':List Sl)(σ:L2.St)(H:Hp)(Q:L2.St->Hp->Prop),GS K F ρ σ H->aF K F xs ds->putAll ρ (i::is) ds=some ρ'->(∀σ',aJ K F ρ σ H F ρ' σ' H->Q σ' H)->Gv (iT i) gs xs σ H Q:=by intro is gs ih i xs ds F ρ ρ' σ H Q g r h k;cases ds with|nil=>simp[putAll]at h|cons d ds=>obtain⟨v,vs,rfl,h1,h2⟩:=r.cF;rw[putAll]at h;obtain⟨ρ1,e1,e2⟩:=cC h;have s1:=aJ.put (r:=.val d) (.refl g) h1 e1;refine⟨v,vs,rfl,ih vs ds F ρ1 ρ' _ H _ s1.gs h2 e2 fun σ' s2=>k σ' (s1.trans s2)⟩
theorem kZ{K:PySem.W.Frag}:∀(xs:List V)(ds:List D)(F:Hp)(ρ ρ':List Sl)(σ:L2.St)(H:Hp)(Q:L2.St->Hp->Prop),GS K F ρ σ H->aF K F xs ds->putAll ρ [] ds=some ρ'->(∀σ',aJ K F ρ σ H F ρ' σ' H->Q σ' H)->QS xs σ H Q:=by intro xs ds F ρ ρ' σ H Q g r h k;cases ds with|nil=>rw[putAll]at h;cases h;exact⟨r.fc,k σ (.refl g)⟩|cons d ds=>simp[putAll]at h
theorem jY:∀{is:List Nat}{ds:List D}{ρ ρ':List Sl},putAll ρ is ds=some ρ'->ds.length=is.length|[],[],_,_,_=>rfl|[],_::_,_,_,h=>by simp[putAll]at h|_::_,[],_,_,h=>by simp[putAll]at h|i::is,d::ds,ρ,ρ',h=>by rw[putAll]at h;obtain⟨ρ1,e1,e2⟩:=cC h;simp[jY e2]
theorem pq{K:PySem.W.Frag}{is:List Nat}{gs:BL}{m:Nat}(hm:m=is.length)(h:∀(xs:List V)(ds:List D)(F:Hp)(ρ ρ':List Sl)(σ:L2.St)(H:Hp)(Q:L2.St->Hp->Prop),GS K F ρ σ H->aF K F xs ds->putAll ρ is ds=some ρ'->(∀σ',aJ K F ρ σ H F ρ' σ' H->Q σ' H)->gs xs σ H Q):Cv K (fun ρ d=>cu ρ is false d) (M9 K m gs):=by intro x d F ρ ρ' σ H Q g r hb k;replace hb:cu ρ is false d=some ρ':=hb;cases d with|tup ds=>replace hb:putAll ρ is ds=some ρ':=hb;rw[Rep]at r;obtain⟨a,xs,rfl,h1,h2⟩:=r;exact⟨a,xs,rfl,aG.fW g.sub h1,by rw[h2.length,jY hb,hm],h xs _ F ρ ρ' σ H Q g h2 hb k⟩|_=>cases hb
theorem oF{g:TG}{is:List Nat}{one:Bool}(hp:PassesOwn (model X.prog X.w) X.A X.env X.xe)(hc:X.calm=true)(hi:SI X c tg iter p)(hg:PG X tg g)(hgo:Cv X.K (fun ρ d=>cu ρ is one d) g)(hb:SB X c n body ss)(hs:∀x,foldedSetIterable iter X.env x=pure x:=by intro _;rfl):SS X c n (.For tg iter body [] pos) (.fJ p is one ss):=by
 refine dJ (Cp hp hc hi hg hb hs) ?_;rintro D σ H⟨F,ρ,fl,ρ',g0,e,k⟩;rw[HH.X14]at e;obtain⟨ds,ρ1,e1,e⟩:=ak e;obtain⟨fl',ρ2,e2,e⟩:=ak e;cases e;refine⟨F,ρ,ds,ρ1,g0,e1,fun J F1 H1 w=>?_⟩;have src:∀(i:Nat)(F':Hp)(ρ':List Sl)(σ':L2.St)(H':Hp),aJ X.K F1 ρ1 σ H1 F' ρ' σ' H'->(∀d,ds[i]?=some d->J.go i H'/\∀x jH,J.GD i H' x jH->∃F'',Ext F' H' F'' jH/\Rep X.K F'' x d)/\(ds.length<=i->J.stop i H'):=fun i F' ρ' σ' H' s=>w.src 0 i F' ρ' σ' H' (by simpa using s);refine⟨fun i m σi Hi=>∃Fi ρi,aJ X.K F1 ρ1 σ H1 Fi ρi σi Hi/\m=ds.length-i/\i<=ds.length/\gW is one (gf c n ss) (ds.drop i) ρi=.ok fl ρ2,⟨_,F1,ρ1,.refl w.gs,rfl,zero_le _,e2⟩,?_⟩;rintro i m σi Hi⟨Fi,ρi,si,rfl,hle,ei⟩;obtain⟨s1,s2⟩:=src i Fi ρi σi Hi si;by_cases hlt:i<ds.length
 . right;have hd:ds[i]?=some ds[i]:=by simp[hlt]
   obtain⟨go,step⟩:=s1 _ hd;refine⟨go,fun σ' H'=>∃m',m'<ds.length-i/\∃Fi ρi,aJ X.K F1 ρ1 σ H1 Fi ρi σ' H'/\m'=ds.length-(i+1)/\i+1<=ds.length/\gW is one (gf c n ss) (ds.drop (i+1)) ρi=.ok fl ρ2,fun σ' H' z=>z,fun x H' y=>?_⟩;obtain⟨F2,ext,rx⟩:=step x H' y;have si2:=si.trans (ext.stp si.gs);rw[drop_eq_getElem_cons hlt,gW]at ei;cases hbd:cu ρi is one ds[i]with|none=>rw[hbd]at ei;cases ei|some ρb=>rw[hbd]at ei;obtain⟨flb,ρc,eb,ei⟩:=ak ei;refine hgo x _ F2 ρi ρb σi H' _ si2.gs rx hbd fun σ2 sb=>?_;have si3:=si2.trans sb;refine⟨F2,ρb,flb,ρc,si3.gs,eb,fun F4 σ4 H4 s4=>?_⟩;have Zo:=si3.trans s4;cases flb with|next=>exact⟨_,by omega,F4,ρc,Zo,rfl,hlt,ei⟩|cont=>exact⟨_,by omega,F4,ρc,Zo,rfl,hlt,ei⟩|brk=>cases ei;exact k F4 σ4 H4 (w.fin _ _ _ _ Zo).1|ret r=>cases ei;intro v rr;obtain⟨z1,z2⟩:=w.fin _ _ _ _ Zo;exact k F4 σ4 H4 z1 v (z2 v r (rr.later si3))
 . left;have hdr:ds.drop i=[]:=by rw[drop_eq_nil_iff];omega
   rw[hdr,gW]at ei;cases ei;exact⟨s2 (by omega),k Fi σi Hi (w.fin _ _ _ _ si).1⟩
theorem lR(i:Nat):(fun(ρ:List Sl)(d:D)=>cu ρ [i] true d)=fun ρ d=>put ρ i (.val false d):=by funext ρ d;rfl
theorem Im{i:Nat}{x:Str}{pos':Pos}(hp:PassesOwn (model X.prog X.w) X.A X.env X.xe)(hc:X.calm=true)(hN:X.N.Nodup)(hx0:X.N[i]?=some x)(hx:Loc X.env.scope x)(hi:SI X c (.Name x pos') iter p)(hb:SB X c n body ss)(hs:∀x,foldedSetIterable iter X.env x=pure x:=by intro _;rfl)(hf:X.fn x=true\/X.env.scope.names.lookup x=some .local:=by first|exact .inl rfl|exact .inr rfl|assumption):SS X c n (.For (.Name x pos') iter body [] pos) (.fJ p [i] true ss):=oF hp hc hi (aN hN hx0 hx hf) (by rw[lR];exact tR i) hb hs
theorem lW(hp:PassesOwn (model X.prog X.w) X.A X.env X.xe)(ht:ST X c e p)(hb:SB X c n body ss):SS X c n (.While e body [] pos) (.whl p ss):=by refine dJ (BX hp ht hb) ?_;rintro D σ H⟨F,ρ,fl,ρ',g,e,k⟩;rw[HH.X15]at e;refine⟨fun m σi Hi=>∃Fi ρi,aJ X.K F ρ σ H Fi ρi σi Hi/\qw (iu (HH.ev c p)) (gf c n ss) m ρi=.ok fl ρ',⟨n,F,ρ,.refl g,e⟩,?_⟩;rintro m σi Hi⟨Fi,ρi,si,ei⟩;cases m with|zero=>rw[qw]at ei;cases ei|succ m=>rw[qw]at ei;obtain⟨b,ρ1,e1,ei⟩:=ak ei;refine⟨Fi,ρi,b,ρ1,si.gs,e1,fun F1 H1 s1=>?_⟩;have s2:=si.trans s1;cases b with|false=>rw[if_neg Bool.false_ne_true]at ei;cases ei;exact k F1 σi H1 s2|true=>rw[if_pos rfl]at ei;obtain⟨flb,ρc,eb,ei⟩:=ak ei;refine(show ∃N:L2.St->Hp->Prop,_/\_ from⟨fun σ' H'=>∃m',m'<m+1/\∃Fi ρi,aJ X.K F ρ σ H Fi ρi σ' H'/\qw (iu (HH.ev c p)) (gf c n ss) m' ρi=.ok fl ρ',fun σ' H' z=>z,F1,ρ1,flb,ρc,s2.gs,eb,fun F4 σ4 H4 s4=>?_⟩);have s5:=s2.trans s4;cases flb with|next=>exact⟨m,by omega,F4,ρc,s5,ei⟩|cont=>exact⟨m,by omega,F4,ρc,s5,ei⟩|brk=>cases ei;exact k F4 σ4 H4 s5|ret r=>cases ei;exact fun v rr=>k F4 σ4 H4 s5 v (rr.later s2)
end
section
variable{X:Cx}{c:Call}{n:Nat}{e elt tg iter:Expr}{p ps pe:P}{pos:Pos}{scope:Scope}{N':List Str}{ifs:List Expr}
theorem NT{t t':TE}(h:PE X e t)(i:∀σ H Q,σ.length=X.N.length->t' σ H Q->t σ H Q):PE X e t':=fun pins s σ H Q I q=>h pins s σ H Q I (i σ H Q I.len q)
theorem CQ{st:Stmt}{t t':TS}(h:PS X st t)(i:∀D σ H,σ.length=X.N.length->t' D σ H->t D σ H):PS X st t':=fun pins s σ H D I q=>h pins s σ H D I (i D σ H I.len q)
def lB(K:PySem.W.Frag)(m:Nat)(is:List Nat)(one:Bool)(g:TG):Prop:=∀(x:V)(d:D)(F:Hp)(ρ ρ':List Sl)(σ:L2.St)(H:Hp)(Q:L2.St->Hp->Prop),GS K F ρ σ H->Rep K F x d->cu ρ is one d=some ρ'->(∀σ',aJ K F ρ σ H F ρ' σ' H->σ'.take m=σ.take m->Q σ' H)->g x σ H Q
theorem take_set{α:Type}{l:List α}{i m:Nat}{a:α}(h:m<=i):(l.set i a).take m=l.take m:=by rw[List.take_set_of_le h]
theorem bY{K:PySem.W.Frag}{i m:Nat}(h:m<=i):lB K m [i] true (iT i):=fun x d F ρ ρ' σ H Q g r hb k=>k _ (aJ.put (r:=.val d) (.refl g) r hb) (take_set h)
def Ji(K:PySem.W.Frag)(m:Nat)(is:List Nat)(gs:BL):Prop:=∀(xs:List V)(ds:List D)(F:Hp)(ρ ρ':List Sl)(σ:L2.St)(H:Hp)(Q:L2.St->Hp->Prop),GS K F ρ σ H->aF K F xs ds->putAll ρ is ds=some ρ'->(∀σ',aJ K F ρ σ H F ρ' σ' H->σ'.take m=σ.take m->Q σ' H)->gs xs σ H Q
theorem eG{K:PySem.W.Frag}{m i:Nat}{is:List Nat}{gs:BL}(hi:m<=i)(ih:Ji K m is gs):Ji K m (i::is) (Gv (iT i) gs):=by intro xs ds F ρ ρ' σ H Q g r h k;cases ds with|nil=>simp[putAll]at h|cons d ds=>obtain⟨v,vs,rfl,h1,h2⟩:=r.cF;rw[putAll]at h;obtain⟨ρ1,e1,e2⟩:=cC h;have s1:=aJ.put (r:=.val d) (.refl g) h1 e1;exact⟨v,vs,rfl,ih vs ds F ρ1 ρ' _ H _ s1.gs h2 e2 fun σ' s2 z=>k σ' (s1.trans s2) (z.trans (take_set hi))⟩
theorem n6{K:PySem.W.Frag}{m:Nat}:Ji K m [] QS:=by intro xs ds F ρ ρ' σ H Q g r h k;cases ds with|nil=>rw[putAll]at h;cases h;exact⟨r.fc,k σ (.refl g) rfl⟩|cons d ds=>simp[putAll]at h
theorem nY{K:PySem.W.Frag}{is:List Nat}{gs:BL}{m l:Nat}(hm:l=is.length)(h:Ji K m is gs):lB K m is false (M9 K l gs):=by intro x d F ρ ρ' σ H Q g r hb k;cases d with|tup ds=>replace hb:putAll ρ is ds=some ρ':=hb;rw[Rep]at r;obtain⟨a,xs,rfl,h1,h2⟩:=r;exact⟨a,xs,rfl,aG.fW g.sub h1,by rw[h2.length,jY hb,hm],h xs _ F ρ ρ' σ H Q g h2 hb k⟩|_=>cases hb
def SQ(X:Cx)(c:Call)(ifs:List Expr)(t:Option P):Prop:=Ny X ifs (BR X.K (kO c t))
theorem cP:SQ X c [] none:=fun pins s σ H Q I⟨F,ρ,k,ρ',g,e,q⟩=>by rw[kO]at e;cases e;exact IW pins s σ H Q I (q F H (.refl g))
theorem lF(h:ST X c e p):SQ X c [e] (some p):=fun pins s σ H Q I⟨F,ρ,k,ρ',g,e,q⟩=>by rw[kO]at e;exact Hy h pins s σ H Q I ⟨F,ρ,k,ρ',g,e,q⟩
theorem aJ.Fj{K:PySem.W.Frag}{F H F1 H1:Hp}{ρ ρ1:List Sl}{σ σ1:L2.St}{Da:Addr}{o:HO}(s:aJ K F ρ σ H F1 ρ1 σ1 H1)(h:H Da=none)(hf:F1 Da=none)(ho:¬ Own ρ1 σ1 Da):aJ K F ρ σ H F1 ρ1 σ1 (upd H1 Da o):=by
 refine⟨⟨fun b u e=>?_,s.gs.len,s.gs.val,fun i t ds e e'=>?_,s.gs.dis⟩,s.bU,s.vQ,fun b u e n=>?_,s.ur,s.len,s.lk⟩
 . have:b≠Da:=by rintro rfl;rw[hf]at e;cases e
   rw[aC this];exact s.gs.sub b u e
 . obtain⟨a,xs,q1,q2,q3,q4⟩:=s.gs.own i t ds e e';have:a≠Da:=by rintro rfl;exact ho ⟨i,⟨t,ds,e,e'⟩,q1⟩
   exact⟨a,xs,q1,by rw[aC this];exact q2,q3,q4⟩
 . have:b≠Da:=by rintro rfl;rw[h]at e;cases e
   rw[aC this];exact s.keep b u e n
theorem uv{K:PySem.W.Frag}{F H:Hp}{ρ ρ1 ρ2:List Sl}{σ:L2.St}{ul:List Sl->List Sl}{ti:TI}{is:List Nat}{one:Bool}{test:List Sl->Res Bool}{el:Ev}{g:TG}{Q:VK}{ds xs:List D}{m:Nat}(hm:σ.length=m)(hgo:lB K m is one g)(hti:∀R:It->Hp->Prop,(∀J F1 H1,Walk K F ρ σ H ul J ds F1 ρ1 H1->R J H1)->ti σ H R)(hlim:ds.length<=lim)(e2:turns is one test el ds [] (ρ1++replicate n .aP)=.ok xs ρ2)(k:∀v F' H',aJ K F ρ σ H F' (ul (ρ2.take ρ1.length)) σ H'->cJ K F' (ul (ρ2.take ρ1.length)) σ H' ρ σ H v (.own xs)->Q v H'):qT n ti g (BR K test) (uq K el) σ H Q:=by
 refine hti _ fun J F1 H1 w Da zM=>?_;have hl1:ρ1.length=σ.length:=w.gs.len;have gm:=w.gs.more (n:=n) (τ:=replicate n none) (by simp);have fD:F1 Da=none:=by cases q:F1 Da with|none=>rfl|some o=>rw[w.gs.sub Da o q]at zM;cases zM
 have nO:¬ Own (ρ1++replicate n .aP) (σ++replicate n none) Da:=fun⟨i,⟨t,dt,q1,q2⟩,q3⟩=>by obtain⟨a,ys,z1,z2,_⟩:=gm.own i t dt q1 q2;rw[q3]at z1;cases z1;rw[zM]at z2;cases z2
 refine⟨fun i mm ys σi Hi=>∃Fi ρi acc,aJ K F1 (ρ1++replicate n .aP) (σ++replicate n none) H1 Fi ρi σi Hi/\σi.take m=σ/\Hi Da=some (.lst ys)/\Fi Da=none/\¬ Own ρi σi Da/\aF K Fi ys acc/\acc.length<=i/\mm=ds.length-i/\i<=ds.length/\turns is one test el (ds.drop i) acc ρi=.ok xs ρ2,⟨_,F1,_,[],(aJ.refl gm).Fj zM fD nO,by rw[List.take_append_of_le_length (by omega),List.take_of_length_le (by omega)],aV,fD,nO,.nil,zero_le _,rfl,zero_le _,e2⟩,?_⟩;rintro i mm ys σi Hi⟨Fi,ρi,acc,si,hσ,hD,hF,hO,rs,hacc,rfl,hle,ei⟩;refine⟨hD,?_⟩--what stays of the new list through a step
 have stay:∀{F2 H2:Hp}{ρ3:List Sl}{σ2:L2.St},aJ K Fi ρi σi Hi F2 ρ3 σ2 H2->H2 Da=some (.lst ys)/\F2 Da=none/\¬ Own ρ3 σ2 Da:=fun{F2 H2 ρ3 σ2}s=>by
  refine⟨s.keep Da _ hD hO,?_,fun o=>?_⟩;.cases q:F2 Da with|none=>rfl|some o=>
      rcases s.vQ Da hF (by rw[q];simp)with z|z;.exact absurd z hO
      .exact(Gd hD z).elim
  . rcases s.ur Da o with z|z;.exact hO z
    .rw[hD]at z;cases z
 obtain⟨s1,s2⟩:=w.src n i Fi ρi σi Hi si;by_cases hlt:i<ds.length
 . right;have hd:ds[i]?=some ds[i]:=by simp[hlt]
   obtain⟨go,step⟩:=s1 _ hd;refine⟨go,fun x H2 y=>?_⟩;obtain⟨F2,ext,rx⟩:=step x H2 y;have t2:=ext.stp si.gs;rw[drop_eq_getElem_cons hlt,turns]at ei;cases hbd:cu ρi is one ds[i]with|none=>rw[hbd]at ei;cases ei|some ρb=>rw[hbd]at ei;obtain⟨bb,ρc,eb,ei⟩:=ak ei;refine hgo x _ F2 ρi ρb σi H2 _ t2.gs rx hbd fun σ2 sb htk=>?_;have t3:=t2.trans sb;refine⟨F2,ρb,bb,ρc,t3.gs,eb,fun F4 H4 s4=>?_⟩;have t4:=t3.trans s4;cases bb with|false=>rw[if_neg Bool.false_ne_true]at ei;obtain⟨y1,y2,y3⟩:=stay t4;exact⟨_,by omega,F4,ρc,acc,si.trans t4,htk.trans hσ,y1,y2,y3,rs.mono t4.bU,by omega,rfl,hlt,ei⟩|true=>
       rw[if_pos rfl]at ei;obtain⟨re,ρe,ee,ei⟩:=ak ei;refine(show uq K el σ2 H4 _ from⟨F4,ρc,re,ρe,t4.gs,ee,fun v F5 H5 s5 rr=>?_⟩);obtain⟨F6,s6,_,rp⟩:=s5.cW rr;have t6:=t4.trans s6;obtain⟨y1,y2,y3⟩:=stay t6;have hlen:ys.length<sizeLine:=by have h1:=rs.length;have h2:lim=sizeLine:=rfl;omega
       exact⟨y1,hlen,_,by omega,F6,ρe,acc++[re.d],(si.trans t6).Fj zM y2 y3,htk.trans hσ,aV,y2,y3,(rs.mono t6.bU).append (.cons rp .nil),by simp;omega,rfl,hlt,ei⟩
 . left;have hdr:ds.drop i=[]:=by rw[drop_eq_nil_iff];omega
   rw[hdr,turns]at ei;cases ei;refine⟨s2 (by omega),?_⟩;obtain⟨l1,l2⟩:=aJ.less (m:=ρ1.length) rfl w.gs (by simp) si;have hst:σi.take ρ1.length=σ:=by rw[hl1,hm];exact hσ
   rw[hst]at l1;have rr:cJ K Fi ρ2 σi Hi (ρ1++replicate n .aP) (σ++replicate n none) H1 (.ref Da) (.own xs):=⟨Da,ys,rfl,hD,hF,rs,hO,.inr zM⟩;have Mf:=l2 _ _ rr;rw[hst]at Mf;obtain⟨z1,z2⟩:=w.fin _ _ _ _ l1;exact k _ Fi Hi z1 (z2 _ _ Mf)
theorem zB{K:PySem.W.Frag}{F H:Hp}{ρ:List Sl}{σ:L2.St}{iv:Option Nat}{f:Ev}{is:List Nat}{one:Bool}{test:List Sl->Res Bool}{el:Ev}{g:TG}{Q:VK}{r:R}{ρ':List Sl}{m:Nat}(hm:σ.length=m)(hgo:lB K m is one g)(g0:GS K F ρ σ H)(e:((srcOf iv f ρ).bind fun ds ρ₁=>if ds.length<=lim then(turns is one test el ds [] (ρ₁++replicate n .aP)).bind fun xs ρ₂=>Res.ok (R.own xs) (aW ρ iv (ρ₂.take ρ₁.length))else .stuck)=.ok r ρ')(k:∀v F' H',aJ K F ρ σ H F' ρ' σ H'->cJ K F' ρ' σ H' ρ σ H v r->Q v H'):qT n (tIt K iv f) g (BR K test) (uq K el) σ H Q:=by
 obtain⟨ds,ρ1,e1,e⟩:=ak e;split at e;.rename_i hlim;obtain⟨xs,ρ2,e2,e⟩:=ak e;cases e;exact uv hm hgo (fun R h=>⟨F,ρ,ds,ρ1,g0,e1,h⟩) hlim e2 k
 .cases e
theorem cN{g:TG}{is:List Nat}{one:Bool}{t:Option P}(hc:X.calm=true)(ok:dO X scope N' n)(hi:SI X c tg iter ps)(hg:∀cl C s₀ H₀ ex,PG (o9 X scope N' cl C s₀ H₀ ex) tg g)(hgo:lB X.K X.N.length is one g)(ht:∀cl C s₀ H₀ ex,SQ (o9 X scope N' cl C s₀ H₀ ex) c ifs t)(he:∀cl C s₀ H₀ ex,SX (o9 X scope N' cl C s₀ H₀ ex) c elt pe)(hs:∀x,foldedSetIterable iter X.env x=pure x:=by intro _;rfl):SX X c (.ListComp elt [⟨tg,iter,ifs,0⟩] scope pos) (.comp ps n is one t pe):=by refine⟨NT (Jx (tt:=BR X.K (kO c t)) (te:=uq X.K (HH.ev c pe)) hc ok hi hg ht (fun cl C s₀ H₀ ex=>(he cl C s₀ H₀ ex).ev) hs) ?_,fun i h=>by cases h⟩;rintro σ H Q hl⟨F,ρ,r,ρ',g0,e,k⟩;rw[HH.E19]at e;exact zB hl hgo g0 e k
theorem sH{i:Nat}{x:Str}{pos' spos:Pos}{nn:Nat}{g:TG}{is:List Nat}{one:Bool}{t:Option P}(hc:X.calm=true)(hN:X.N.Nodup)(hx0:X.N[i]?=some x)(hx:Loc X.env.scope x)(ok:dO X scope N' n)(hi:SI X c tg iter ps)(hg:∀cl C s₀ H₀ ex,PG (o9 X scope N' cl C s₀ H₀ ex) tg g)(hgo:lB X.K X.N.length is one g)(ht:∀cl C s₀ H₀ ex,SQ (o9 X scope N' cl C s₀ H₀ ex) c ifs t)(he:∀cl C s₀ H₀ ex,SX (o9 X scope N' cl C s₀ H₀ ex) c elt pe)(hsw:swapsWith (.ListComp elt [⟨tg,iter,ifs,0⟩] scope pos) (some (.Name x pos')) spos.line X.env=pure true:=by rfl)(hs:∀x,foldedSetIterable iter X.env x=pure x:=by intro _;rfl)(hf:X.fn x=true\/X.env.scope.names.lookup x=some .local:=by first|exact .inl rfl|exact .inr rfl|assumption):SS X c nn (.Assign [.Name x pos'] (.ListComp elt [⟨tg,iter,ifs,0⟩] scope pos) spos) (.asg i (.comp ps n is one t pe)):=by refine CQ (tW (tt:=BR X.K (kO c t)) (te:=uq X.K (HH.ev c pe)) hc hN hx0 hx ok hi hg ht (fun cl C s₀ H₀ ex=>(he cl C s₀ H₀ ex).ev) hsw hs hf) ?_;rintro D σ H hl⟨F,ρ,fl,ρ',g0,e,k⟩;rw[HH.X6]at e;obtain⟨r,ρ1,e1,e⟩:=ak e;obtain⟨ρ2,ρ3,e2,e⟩:=ak e;cases e;have zz:=aD e2;clear e2;obtain⟨e2,e3⟩:=zz;rw[HH.E19]at e1;exact zB hl hgo g0 e1 fun v F1 H1 s1 rr=>k F1 _ H1 (s1.put rr e2)
end
section
variable{X:Cx}{c:Call}{n:Nat}{e a b d:Expr}{p pa pb pd:P}{pos:Pos}{es:List Expr}{ps:List P}
noncomputable def tyN:D->String|.non=>"NoneType"|.bl _=>"bool"|.int _=>"int"|.str _=>"str"|.tup _=>"tuple"|.lst _=>"list"|.cY _=>"dict"|.dv _ _=>"dict"
noncomputable def V8:Ty->String|.none=>"NoneType"|.bool=>"bool"|.int=>"int"|.str=>"str"|.tuple=>"tuple"|.list=>"list"
theorem Vw(K:PySem.W.Frag)(t:Ty)(d:D):PySem.W.kitOne K (.type (tyN d)) (.type (V8 t))=some (cH t d):=by cases t<;>cases d<;>rfl
theorem Um{pins:List (Addr×Obj)}{σ:L2.St}{H F:Hp}{s:Shared}{x:V}{u:Value}{dt:D}(I:L2.Inv X pins σ H s)(sm:aG F H)(px:cU X.K F H x dt)(rx:RelV x u):(∃Hq,PySem.W.KitX X.K u (.type (tyN dt)) Hq/\Hq s.heap)/\u≠.builtin "__main__.__loader__#opaque":=by cases dt with|non=>rw[px.non]at rx;cases rx;exact⟨⟨_,PySem.W.kitx_none,trivial⟩,nofun⟩|bl y=>rw[px.bl]at rx;cases rx;exact⟨⟨_,PySem.W.kitx_bool,trivial⟩,nofun⟩|int i=>rw[px.int]at rx;obtain⟨t,rfl⟩:=rx;exact⟨⟨_,PySem.W.kitx_int,trivial⟩,nofun⟩|str y=>rw[px.str]at rx;obtain⟨t,rfl⟩:=rx;exact⟨⟨_,PySem.W.kitx_str,trivial⟩,nofun⟩|tup ds=>obtain⟨q,xs,rfl,hq,_⟩:=px.tup sm;cases rx;obtain⟨its,_,⟨o,h1,h2,_⟩,_⟩:=I.tuple hq;exact⟨⟨_,PySem.W.kitx_tuple,⟨o,h1,h2⟩⟩,nofun⟩|lst ds=>obtain⟨q,xs,rfl,hq,_⟩:=px.lst sm;cases rx;obtain⟨its,_,pl,_⟩:=I.list hq;obtain⟨o,h1,h2,_⟩:=pl.isList;exact⟨⟨_,PySem.W.kitx_list,⟨o,h1,h2⟩⟩,nofun⟩|cY m=>obtain⟨q,_,rfl,hq⟩:=px.cY sm;cases rx;obtain⟨o,h1,h2⟩:=Dn I hq;exact⟨⟨_,kitx_dict,⟨o,h1,h2⟩⟩,nofun⟩|dv ks ds=>obtain⟨q,_,vs,rfl,hq,_⟩:=px.dv sm;cases rx;obtain⟨o,h1,h2⟩:=Gr I hq;exact⟨⟨_,kitx_dict,⟨o,h1,h2⟩⟩,nofun⟩
theorem Nu(t:Ty):eO X (.builtin "isinstance") (fun xs H Q=>∃x F dt,xs=[x,.ty (V8 t)]/\aG F H/\cU X.K F H x dt/\Q (.bl (cH t dt)) H):=by rintro pins s σ H xs us Q I r⟨x,F,dt,hx,sm,px,q⟩;subst hx;obtain⟨u,w',rfl,rx,rt⟩:=r.two;cases(show w'=Value.type (V8 t)from rt);obtain⟨⟨Hq,Z,hz⟩,hne⟩:=Um I sm px rx;exact PySem.W.kia_one Z I.Mj hz (Vw _ t dt) hne fun tk=>⟨.bl _,H,I.tok tk,rfl,q⟩
theorem Ei:bootBuiltins "isinstance"=some (.builtin "isinstance"):=by decide+kernel
theorem jd{x y:Str}{p' p2:Pos}(t:Ty)(hx:x="isinstance")(hg:Gl X x)(hm:X.mg x=none)(ha:SX X c a pa)(hgy:Gl X y)(hmy:X.mg y=none)(hy:bootBuiltins y=some (.type (V8 t)))(hny:y≠"__name__":=by decide)(hdy:(y==("__debug__":Str))=false:=by decide)(hs:starEach [a,.Name y p2] X.env=(false,eval a X.env)::starEach [.Name y p2] X.env:=by rfl):SX X c (.Call (.Name x p') [a,.Name y p2] [] pos) (.inst [t] pa):=by subst hx;obtain⟨ta,h1,h2⟩:=ha.cR;refine⟨dZ (fO (Nu t) hg hm Ei (cz h1 (cz (Jw (v:=.ty (V8 t)) hgy hmy hy rfl hny hdy) dR) hs) (he:=hs)) ?_,fun i h=>by cases h⟩;rintro σ H Q⟨F,ρ,r,ρ',g,e,k⟩;rw[HH.E18]at e;obtain⟨dt,ρ1,e1,e⟩:=ak e;cases e;refine h2 g e1 fun v F' H' s pv=>⟨v,F',dt,rfl,s.gs.sub,pv,k _ F' H' s ?_⟩;show Rep X.K F' _ _;rw[any_cons,List.any_nil,Bool.or_false];exact dX _
inductive rBn(K:PySem.W.Frag)(f:List D->Option R)(xs:List V)(H:Hp)(Q:VK):Prop where|mk(F:Hp)(ds:List D)(r:R)(sm:aG F H)(rs:aF K F xs ds)(he:f ds=some r)(k:∀v F' H',Ext F H F' H'->cB K F' H' H v r->Q v H')
theorem V6{E:Expr}{f:List D->Option R}{q:P}(hp:∀{t},PA X es t->PE X E (YS (rBn X.K f) t))(ha:SA X c es ps)(hq:∀ρ,HH.ev c q ρ=(evs c ps ρ).bind fun ds ρ=>lift (f ds) ρ)(hv:isVar q=none):SX X c E q:=by refine⟨dZ (hp ha.1) ?_,fun i h=>by rw[hv]at h;cases h⟩;rintro σ H Q⟨F,ρ,r,ρ',g,e,k⟩;rw[hq]at e;obtain⟨ds,ρ1,e1,e2⟩:=ak e;have zz:=aD e2;clear e2;obtain⟨e2,e3⟩:=zz;subst e3;exact⟨F,ρ,ds,ρ1,g,e1,fun vs F' H' s rs=>⟨F',ds,r,s.gs.sub,rs,e2,fun w F2 H2 x rn=>k w F2 H2 (s.trans (x.stp s.gs)) (.later s (rn.nF s.gs))⟩⟩
theorem Wd{K:PySem.W.Frag}{F:Hp}{xs:List V}{i j:Int}(h:aF K F xs [.int i,.int j]):xs=[.int i,.int j]:=by obtain⟨v,r,rfl,h1,h2⟩:=h.cF;obtain⟨u,r2,rfl,h3,h4⟩:=h2.cF;rw[Rep]at h1 h3;rw[h1,h3,h4.fc]
theorem inv2{f:Yt}{g:Int->Int->Int}{ds:List D}{r:R}(h0:blt f []=none)(h1:∀a,blt f [a]=none)(h3:∀a b c l,blt f (a::b::c::l)=none)(hn:∀a b,fH a=false->blt f [a,b]=none)(hm:∀i b,fH b=false->blt f [.int i,b]=none)(hi:∀i j,blt f [.int i,.int j]=some (.val (.int (g i j))))(he:blt f ds=some r):∃i j,ds=[.int i,.int j]/\r=.val (.int (g i j)):=by
 rcases ds with _|⟨a,_|⟨b,_|⟨c,l⟩⟩⟩;.rw[h0]at he;cases he
 .rw[h1]at he;cases he
 . by_cases ha:fH a=true
   . obtain⟨i,rfl⟩:∃i,a=.int i:=by cases a<;>first|exact⟨_,rfl⟩|cases ha
     by_cases hb:fH b=true
     . obtain⟨j,rfl⟩:∃j,b=.int j:=by cases b<;>first|exact⟨_,rfl⟩|cases hb
       rw[hi]at he;cases he;exact⟨i,j,rfl,rfl⟩
     .rw[hm i b (by simpa using hb)]at he;cases he
   .rw[hn a b (by simpa using ha)]at he;cases he
 .rw[h3]at he;cases he
theorem Qg(hc:X.calm=true):eO X (.builtin "max") (rBn X.K (blt .max2)):=by rintro pins s σ H xs us Q I r⟨F,ds,r',sm,rs,he,k⟩;obtain⟨i,j,rfl,rfl⟩:=inv2 (g:=fun i j=>if i<j then j else i) rfl (fun a=>by cases a<;>rfl) (fun a b c l=>by cases a<;>first|rfl|(cases b<;>rfl)) (fun a b h=>by cases a<;>first|rfl|cases h) (fun i b h=>by cases b<;>first|rfl|cases h) (fun _ _=>rfl) he;rw[Wd rs]at r;exact zU hc pins s σ H _ us Q I r ⟨_,_,rfl,cB.dm sm (cj _) k⟩
theorem boot_min:bootBuiltins "min"=some (.builtin "min"):=by decide+kernel
theorem boot_max:bootBuiltins "max"=some (.builtin "max"):=by decide+kernel
theorem Jl{x:Str}{p':Pos}(hx:x="max")(hc:X.calm=true)(hg:Gl X x)(hm:X.mg x=none)(ha:SA X c [a,b] [pa,pb])(hs:starEach [a,b] X.env=(false,eval a X.env)::starEach [b] X.env:=by rfl)(hpl:(backTo pos (starEach [b] X.env)).any (·.1)=false:=by rfl):SX X c (.Call (.Name x p') [a,b] [] pos) (.blt .max2 [pa,pb]):=by subst hx;exact V6 (fun h=>fO (Qg hc) hg hm boot_max h (he:=hs) (hpl:=hpl)) ha (fun ρ=>rfl) rfl
end
section
variable{X:Cx}{c:Call}{n:Nat}{e a b d:Expr}{p pa pb pd:P}{pos:Pos}{es:List Expr}{ps:List P}
theorem yD{K:PySem.W.Frag}{F H:Hp}{ρ:List Sl}{σ:L2.St}{i:Nat}{ds:List D}(g:GS K F ρ σ H)(h:BV ρ i=some ds):∃a xs,σ[i]?=some (some (V.ref a))/\dq K H a xs:=by
 unfold BV at h;split at h;.rename_i q;cases h;obtain⟨v,h1,h2⟩:=g.pk q;obtain⟨a,xs,rfl,h3,_⟩:=h2.lst g.sub;exact⟨a,xs,h1,h3⟩
 .cases h
theorem gj{x:Str}{k:Nat}{px tpos:Pos}(hN:X.N[k]?=some x)(hv:v8 X.env.scope x)(hi:SX X c b pb)(he:SX X c e p)(ha:∀ v,assign (.Subscript (.Name x px) b tpos) X.env v=(do
  let ov<-holding [v] (eval (.Name x px) X.env)let iv<-holding [v,ov] (eval b X.env)standAt tpos
  holding [v,ov,iv] (setItem ov iv v)release [v,ov,iv] []):=by intro _;rfl)(hs:swapsWithSole [.Subscript (.Name x px) b tpos] e pos.line X.env=pure false:=by rfl)(hw:swappedStores [.Subscript (.Name x px) b tpos] e X.env=pure none:=by rfl)(h1:(assignEach [.Subscript (.Name x px) b tpos] X.env).map (·.2)=[assign (.Subscript (.Name x px) b tpos) X.env]:=by rfl)(hd:(x==("__debug__":Str))=false:=by decide)(hcd:(x==("__classdict__":Str))=false:=by decide):SS X c n (.Assign [.Subscript (.Name x px) b tpos] e pos) (.p7 k pb p):=by
 obtain⟨ti,hi1,hi2⟩:=hi.cR;refine dJ (Em he.ev (Nz (gF hN hv hd hcd) hi1 set_list ha) hs hw h1) ?_;rintro D σ H⟨F,ρ,fl,ρ',g,e,kk⟩;rw[HH.X9]at e;obtain⟨r,ρ1,e1,e⟩:=ak e;obtain⟨x0,ρ1',e0,e⟩:=ak e;have zz:=aD e0;clear e0;obtain⟨e0,Bx⟩:=zz;subst Bx;obtain⟨dk,ρ2,e2,e⟩:=ak e;refine⟨F,ρ,r,ρ1,g,e1,fun v F1 H1 s1 rr=>?_⟩;obtain⟨F2,s2,_,rp⟩:=s1.cW rr;obtain⟨o,ho,_⟩:=s2.gs.pk e0;refine⟨o,ho,hi2 s2.gs e2 fun vi F3 H3 s3 pi=>?_⟩;split at e
 . rename_i bb ds kk' q;split at e;.rename_i j hj;cases e;obtain⟨ad,xs,q1,q2,q3,q4⟩:=s3.gs.kh k _ ds q rfl;rw[ho]at q1;cases q1;refine⟨ad,xs,kk',j,rfl,pi.int,q2,by rw[q4.length];exact hj,?_⟩;exact kk F3 σ _ ((s2.trans s3).trans (s3.gs.mut q ho (q4.set (rp.mono s3.bU) j)))
   .cases e
 .cases e
theorem cI{x:Str}{k:Nat}{px apos cpos:Pos}(hN:X.N[k]?=some x)(hv:v8 X.env.scope x)(he:SX X c e p)(hline:(apos.endLine==cpos.line)=true:=by rfl)(hs:starEach [e] X.env=(false,eval e X.env)::starEach [] X.env:=by rfl)(hbase:attributeBase (.Name x px) "append" X.env (eval (.Name x px) X.env)=eval (.Name x px) X.env:=by rfl)(hfew:((backTo cpos (starEach [e] X.env)).all (fun x=>!x.1)&&(backToKw cpos (keywordEach [] X.env)).all (fun x=>x.1.isSome)&&decide ([e].length+([]:List Keyword).length+(if([]:List Keyword).isEmpty then 0 else 1)<30))=true:=by rfl)(hsw:swapsWith (.Call (.Attribute (.Name x px) "append" apos) [e] [] cpos) none pos.line X.env=pure false:=by rfl)(hd:(x==("__debug__":Str))=false:=by decide)(hcd:(x==("__classdict__":Str))=false:=by decide):SS X c n (.Expr (.Call (.Attribute (.Name x px) "append" apos) [e] [] cpos) pos) (.app k p):=by
 refine dJ (yW (Lj PySem.F.plainAttrs_list PySem.F.slot_list_append PySem.F.type_list_append mD (gF hN hv hd hcd) (cz he.ev dR hs) hbase hfew hline hs) hsw) ?_;rintro D σ H⟨F,ρ,fl,ρ',g,e,kk⟩;rw[HH.X10]at e;obtain⟨d0,ρ0,e0,e⟩:=ak e;have zz:=aD e0;clear e0;obtain⟨e0,Bx⟩:=zz;subst Bx;obtain⟨r,ρ1,e1,e⟩:=ak e;obtain⟨a,xs,h1,h2⟩:=yD g e0;refine⟨.ref a,h1,.inl ⟨rfl,xs,h2⟩,F,ρ,r,ρ1,g,e1,fun v F1 H1 s1 rr=>?_⟩;obtain⟨F2,s2,_,rp⟩:=s1.cW rr;split at e
 . rename_i bb ds q;split at e;.rename_i hlt;cases e;obtain⟨ad,ys,q1,q2,q3,q4⟩:=s2.gs.kh k _ ds q rfl;rw[h1]at q1;cases q1;exact⟨_,ys,v,rfl,rfl,q2,by rw[q4.length];exact hlt,kk F2 σ _ (s2.trans (s2.gs.mut q h1 (q4.append (.cons rp .nil))))⟩
   .cases e
 .cases e
theorem Qz{i j:Nat}{x y:Str}{px py pt:Pos}{kt k2 QZ}(hc:X.calm=true)(hN:X.N.Nodup)(hi:X.N[i]?=some x)(hj:X.N[j]?=some y)(hij:i≠j)(hx:X.env.scope.names.lookup x=some .local)(hy:X.env.scope.names.lookup y=some .local)(ha:SX X c a pa)(hb:SX X c b pb)(hw:swappedStores [.Tuple [.Name x px,.Name y py] kt pt] (.Tuple [a,b] k2 QZ) X.env=pure (some [x,y]):=by rfl)(hs:swapsWithSole [.Tuple [.Name x px,.Name y py] kt pt] (.Tuple [a,b] k2 QZ) pos.line X.env=pure false:=by rfl)(h1:starEach [a,b] X.env=(false,eval a X.env)::starEach [b] X.env:=by rfl)(h2:starEach [b] X.env=(false,eval b X.env)::starEach [] X.env:=by rfl):SS X c n (.Assign [.Tuple [.Name x px,.Name y py] kt pt] (.Tuple [a,b] k2 QZ) pos) (.par i j pa pb):=by refine dJ (L2.M5 hc hN hi hj hij hx hy (cz ha.ev (cz hb.ev dR h2) h1) hw hs) ?_;rintro D σ H⟨F,ρ,fl,ρ',g,e,k⟩;rw[HH.X7]at e;obtain⟨r,ρ1,e1,e⟩:=ak e;obtain⟨r2,ρ2,e2,e⟩:=ak e;obtain⟨ρ3,ρ4,e3,e⟩:=ak e;cases e;have zz:=aD e3;clear e3;obtain⟨e3,e4⟩:=zz;obtain⟨ρ5,e5,e6⟩:=cC e3;refine⟨F,ρ,r,ρ1,g,e1,fun v F1 H1 s1 rr=>?_⟩;obtain⟨F2,s2,_,rp⟩:=s1.cW rr;refine⟨F2,ρ1,r2,ρ2,s2.gs,e2,fun u F3 H3 s3 rr3=>?_⟩;obtain⟨F4,s4,_,rp4⟩:=s3.cW rr3;refine⟨v,u,rfl,?_⟩;have t4:=s2.trans s4;have t5:=t4.put (r:=.val r.d) (v:=v) (rp.mono s4.bU) e5;exact k F4 _ H3 (t5.put (r:=.val r2.d) (v:=u) rp4 e6)
theorem BZ{ds:List D}{bs:List Bool}(h:ds.mapM tX=some bs):ds=bs.map D.bl:=by induction ds generalizing bs with|nil=>simp at h;subst h;rfl|cons d ds ih=>rw[List.mapM_cons]at h;cases hd:tX d with|none=>rw[hd]at h;cases h|some k=>rw[hd]at h;cases hr:ds.mapM tX with|none=>rw[hr]at h;cases h|some r=>rw[hr]at h;cases h;rw[map_cons,<-ih hr,pF hd]
theorem zF{K:PySem.W.Frag}{F:Hp}:∀{bs:List Bool}{xs:List V},aF K F xs (bs.map D.bl)->xs=bs.map V.bl|[],_,h=>h.fc|k::bs,_,h=>by obtain⟨v,r,rfl,h1,h2⟩:=h.cF;rw[Rep]at h1;rw[h1,zF h2];rfl
theorem zf:∀{bs:List Bool}{us:List Value},Vals (bs.map V.bl) us->us=bs.map Value.bool|[],_,h=>h.zero|k::bs,_,.cons r t=>by rw[map_cons,<-zf t,show _=_ from r]
theorem Il{id:String}{f:List Bool->Bool}(hc:X.calm=true)(rule:∀{x:Value}{Q:Value->Shared->Prop}{s:Shared},wpAny (model X.prog X.w) X.A.in1 (pyIter x) (fun it s₂=>∃ I fp wr n P St tr,it=.ref I/\Walks X.prog X.w X.A.in1 I fp wr n P St/\St 0 s₂.heap/\TruthOf X.prog X.w X.A.in1 P tr/\∀h' tk,(∀b o,b∉wr->s₂.heap.get? b=some o->h'.get? b=some o)->Q (.bool (f ((List.range n).map tr))) {s₂ with heap:=h',toks:=tk}) X.xe s->wpAny (model X.prog X.w) X.A (call (.builtin id) [x]) Q X.xe s):eO X (.builtin id) (fun xs H Q=>∃p ys bs,xs=[.ref p]/\dq X.K H p ys/\ys=bs.map V.bl/\Q (.bl (f bs)) H):=by
 rintro pins s σ H xs us Q I r⟨p,ys,bs,hx,hq,hy,k⟩;subst hx;subst hy;obtain⟨u,rfl,rx⟩:=r.one;cases rx;obtain⟨its,rv,pl,hz⟩:=I.list hq;have hits:=zf rv;subst hits;refine rule (wpAny_pyIter_list pl.isList ?_);have hne:p≠s.heap.objs.size:=by obtain⟨o,h1,_⟩:=pl.isList;exact ne_of_lt (lt_size h1)
 refine⟨s.heap.objs.size,_,_,_,_,_,fun i=>bs.getD i false,rfl,Walks.list (prog:=X.prog) (w:=X.w) (A:=X.A.in1) (show X.A.in1.handled=none from I.ok.hd hc) s.heap.objs.size p hne (bs.map Value.bool).toArray,⟨⟨_,get?_push_size _ rfl,rfl,rfl⟩,?_⟩,?_,fun h' tk kp=>?_⟩;.obtain⟨o,h1,h2⟩:=pl.isList;exact⟨o,get?_push_of_some _ h1,h2⟩
 . intro i v s' Q' E' hP hQ;have hv:v=.bool (bs.getD i false):=by
    have hP:(bs.map Value.bool)[i]?=some v:=by simpa using hP
    rw[getElem?_map]at hP;obtain⟨k',e1,e2⟩:=map_some hP;rw[<-e2,List.getD_eq_getElem?_getD,e1];rfl
   subst hv;exact wpAny_truthy_bool hQ
 . have e:f ((List.range (bs.map Value.bool).toArray.size).map fun i=>bs.getD i false)=f bs:=by
    congr 1;apply List.ext_getElem;.simp
    .intro i h1 h2;simp at h1;simp[h1]
   rw[e];exact⟨.bl _,H,I.kept (fun b o z=>kp b o (by simp;exact ne_of_lt (lt_size z)) (get?_push_of_some _ z)),rfl,k⟩
theorem U5(hc:X.calm=true):eO X (.builtin "all") (Ho X.K fun x=>blt .all [x]):=by rintro pins s σ H xs us Q I r⟨x,hx,F,d,r',sm,px,he,k⟩;obtain⟨bs,e1,he⟩:=map_some (show((xZ d).bind fun ds=>ds.mapM tX).map _=some r' from he);subst he;obtain⟨ds,e2,e3⟩:=cC e1;have e4:=BZ e3;cases d with|lst es=>cases e2;obtain⟨p,ys,rfl,hq,rs⟩:=px.lst sm;rw[e4]at rs;refine Il (f:=fun bs=>bs.all id) hc (fun h=>call_all_walk (wpAny_mono h (fun it s₂⟨I,fp,wr,n,P,Sx,tr,h1,h2,h3,h4,h5⟩=>⟨I,fp,wr,n,P,Sx,tr,h1,h2,h3,h4,fun h' tk kp=>?_⟩) fun _ _ z=>z)) pins s σ H xs us Q I r ⟨p,ys,bs,hx,hq,zF rs,cB.dm sm (dX _) k⟩;have z:=h5 h' tk kp;rw[List.all_map]at z;exact z|_=>cases e2
theorem boot_all:bootBuiltins "all"=some (.builtin "all"):=by decide+kernel
theorem wK{x:Str}{p':Pos}(hx:x="all")(hc:X.calm=true)(hg:Gl X x)(hm:X.mg x=none)(ha:SX X c a pa)(hs:starEach [a] X.env=(false,eval a X.env)::starEach [] X.env:=by rfl):SX X c (.Call (.Name x p') [a] [] pos) (.blt .all [pa]):=by subst hx;exact mX (fun h=>fO (U5 hc) hg hm boot_all h (he:=hs)) ha (fun ρ=>rfl) rfl hs
end
section
variable{K:PySem.W.Frag}
theorem iY:∀{xs ys:List D},xs.length≠ys.length->fj xs ys=false|[],[],h=>absurd rfl h|[],_::_,_=>by simp[fj]|_::_,[],_=>by simp[fj]|x::xs,y::ys,h=>by rw[fj,iY (xs:=xs) (ys:=ys) (by simpa using h),Bool.and_false]
theorem fU:∀{xs ys:List D},xs.length=ys.length->fj xs ys=(List.range xs.length).all fun j=>iG (xs.getD j .non) (ys.getD j .non)|[],[],_=>by rw[fj];rfl|[],_::_,h=>by simp at h|_::_,[],h=>by simp at h|x::xs,y::ys,h=>by rw[fj,fU (xs:=xs) (ys:=ys) (by simpa using h),length_cons,List.range_succ_eq_map,all_cons,List.all_map];rfl
mutual
theorem jk:∀d:D,iG d d=true|.non=>rfl|.bl _=>by exact beq_self_eq_true _|.int _=>by exact beq_self_eq_true _|.str _=>by exact beq_self_eq_true _|.tup ds=>by exact jA ds|.lst ds=>by exact jA ds|.cY _=>by exact decide_eq_true rfl|.dv ks ds=>by rw[iG,jA ds];simp
theorem jA:∀ds:List D,fj ds ds=true|[]=>by rw[fj]|d::ds=>by rw[fj,jk d,jA ds];rfl
end
theorem eN{F:Hp}{d e:D}{v:V}(hf:flat d=true)(h1:Rep K F v d)(h2:Rep K F v e):d=e:=by cases d with
 |tup _=>cases hf|lst _=>cases hf|cY _=>cases hf|dv _ _=>cases hf|non=>rw[Rep]at h1;subst h1;cases e with|non=>rfl|tup _=>rw[Rep]at h2;obtain⟨_,_,q,_⟩:=h2;cases q|lst _=>rw[Rep]at h2;obtain⟨_,_,q,_⟩:=h2;cases q|cY _=>rw[Rep]at h2;obtain⟨_,_,q,_⟩:=h2;cases q|dv _ _=>rw[Rep]at h2;obtain⟨_,_,_,q,_⟩:=h2;cases q|_=>rw[Rep]at h2;cases h2
 |bl k=>rw[Rep]at h1;subst h1;cases e with|bl _=>rw[Rep]at h2;cases h2;rfl|tup _=>rw[Rep]at h2;obtain⟨_,_,q,_⟩:=h2;cases q|lst _=>rw[Rep]at h2;obtain⟨_,_,q,_⟩:=h2;cases q|cY _=>rw[Rep]at h2;obtain⟨_,_,q,_⟩:=h2;cases q|dv _ _=>rw[Rep]at h2;obtain⟨_,_,_,q,_⟩:=h2;cases q|_=>rw[Rep]at h2;cases h2
 |int k=>rw[Rep]at h1;subst h1;cases e with|int _=>rw[Rep]at h2;cases h2;rfl|tup _=>rw[Rep]at h2;obtain⟨_,_,q,_⟩:=h2;cases q|lst _=>rw[Rep]at h2;obtain⟨_,_,q,_⟩:=h2;cases q|cY _=>rw[Rep]at h2;obtain⟨_,_,q,_⟩:=h2;cases q|dv _ _=>rw[Rep]at h2;obtain⟨_,_,_,q,_⟩:=h2;cases q|_=>rw[Rep]at h2;cases h2
 |str k=>rw[Rep]at h1;subst h1;cases e with|str _=>rw[Rep]at h2;cases h2;rfl|tup _=>rw[Rep]at h2;obtain⟨_,_,q,_⟩:=h2;cases q|lst _=>rw[Rep]at h2;obtain⟨_,_,q,_⟩:=h2;cases q|cY _=>rw[Rep]at h2;obtain⟨_,_,q,_⟩:=h2;cases q|dv _ _=>rw[Rep]at h2;obtain⟨_,_,_,q,_⟩:=h2;cases q|_=>rw[Rep]at h2;cases h2
theorem Ib{X:Cx}{pins:List (Addr×Obj)}{σ:L2.St}{H F:Hp}{s:Shared}(I:L2.Inv X pins σ H s)(sm:aG F H):∀n:Nat,(∀d:D,cX n d=true->∀(v:V)(e:D),Rep X.K F v d->Rep X.K F v e->d=e):=by
 have tl:∀{a:Addr}{xs ys:List V},gO X.K F a xs->dq X.K F a ys->False:=fun{a xs ys}h1 h2=>by obtain⟨_,_,⟨o,q1,q2,_⟩,_⟩:=I.tuple (aG.fW sm h1);obtain⟨_,_,pl,_⟩:=I.list (sm.seq h2);obtain⟨o',q3,q4,_⟩:=pl.isList;rw[q1]at q3;cases q3;rw[q2]at q4;exact absurd q4 (by decide)
 have dd:∀{a:Addr}{kvs:Dc},Rep X.K F (.ref a) (.cY kvs)->∃o,s.heap.get? a=some o/\o.cls=.type "dict":=fun{a kvs}h=>by rw[Rep]at h;obtain⟨a',_,q,hq⟩:=h;cases q;exact Dn I (sm _ _ hq)
 have td:∀{a:Addr}{xs:List V}{kvs:Dc},gO X.K F a xs->Rep X.K F (.ref a) (.cY kvs)->False:=fun{a xs kvs}h1 h2=>by obtain⟨_,_,⟨o,q1,q2,_⟩,_⟩:=I.tuple (aG.fW sm h1);obtain⟨o',q3,q4⟩:=dd h2;rw[q1]at q3;cases q3;rw[q2]at q4;exact absurd q4 (by decide)
 have ld:∀{a:Addr}{xs:List V}{kvs:Dc},dq X.K F a xs->Rep X.K F (.ref a) (.cY kvs)->False:=fun{a xs kvs}h1 h2=>by obtain⟨_,_,pl,_⟩:=I.list (sm.seq h1);obtain⟨o,q1,q2,_⟩:=pl.isList;obtain⟨o',q3,q4⟩:=dd h2;rw[q1]at q3;cases q3;rw[q2]at q4;exact absurd q4 (by decide)
 have dd2:∀{a:Addr}{ks:List Int}{es:List D},Rep X.K F (.ref a) (.dv ks es)->∃o,s.heap.get? a=some o/\o.cls=.type "dict":=fun{a ks es}h=>by rw[Rep]at h;obtain⟨a',_,_,q,hq,_⟩:=h;cases q;exact Gr I (sm _ _ hq)
 have td2:∀{a:Addr}{xs:List V}{ks:List Int}{es:List D},gO X.K F a xs->Rep X.K F (.ref a) (.dv ks es)->False:=fun{a xs ks es}h1 h2=>by obtain⟨_,_,⟨o,q1,q2,_⟩,_⟩:=I.tuple (aG.fW sm h1);obtain⟨o',q3,q4⟩:=dd2 h2;rw[q1]at q3;cases q3;rw[q2]at q4;exact absurd q4 (by decide)
 have ld2:∀{a:Addr}{xs:List V}{ks:List Int}{es:List D},dq X.K F a xs->Rep X.K F (.ref a) (.dv ks es)->False:=fun{a xs ks es}h1 h2=>by obtain⟨_,_,pl,_⟩:=I.list (sm.seq h1);obtain⟨o,q1,q2,_⟩:=pl.isList;obtain⟨o',q3,q4⟩:=dd2 h2;rw[q1]at q3;cases q3;rw[q2]at q4;exact absurd q4 (by decide)
 intro n;induction n with
 |zero=>intro d hd v e h1 h2;cases d with|tup _=>simp[cX]at hd|lst _=>simp[cX]at hd|cY _=>simp[cX]at hd|dv _ _=>simp[cX]at hd|non=>exact eN rfl h1 h2|bl k=>exact eN rfl h1 h2|int k=>exact eN rfl h1 h2|str k=>exact eN rfl h1 h2
 |succ n ih=>
   have all:∀{xs:List V}{ds es:List D},ds.all (cX n)=true->aF X.K F xs ds->aF X.K F xs es->ds=es:=fun{xs ds}=>by induction ds generalizing xs with|nil=>intro es _ h1 h2;rw[h1.fc]at h2;have:=h2.length;exact(List.eq_nil_of_length_eq_zero this.symm).symm|cons d ds ih2=>intro es ha h1 h2;rw[all_cons,and_eq_true]at ha;obtain⟨v,r,rfl,q1,q2⟩:=h1.cF;cases es with|nil=>cases h2.fc|cons e es=>obtain⟨v',r',q0,q3,q4⟩:=h2.cF;cases q0;rw[ih d ha.1 v e q1 q3,ih2 ha.2 q2 q4]
   intro d hd v e h1 h2;cases d with
   |cY _=>simp[cX]at hd|dv _ _=>simp[cX]at hd|tup ds=>
     have ha:ds.all (cX n)=true:=by simpa[cX]using hd
     rw[Rep]at h1;obtain⟨a,xs,rfl,z1,z2⟩:=h1;cases e with|tup es=>rw[Rep]at h2;obtain⟨a',ys,q,w1,w2⟩:=h2;cases q;have:=I.jC (aG.fW sm z1) (aG.fW sm w1);subst this;rw[all ha z2 w2]|lst es=>rw[Rep]at h2;obtain⟨a',ys,q,w1,w2⟩:=h2;cases q;exact(tl z1 w1).elim|cY _=>exact(td z1 h2).elim|dv _ _=>exact(td2 z1 h2).elim|_=>rw[Rep]at h2;cases h2
   |lst ds=>
     have ha:ds.all (cX n)=true:=by simpa[cX]using hd
     rw[Rep]at h1;obtain⟨a,xs,rfl,z1,z2⟩:=h1;cases e with|lst es=>rw[Rep]at h2;obtain⟨a',ys,q,w1,w2⟩:=h2;cases q;have:=I.lG (sm.seq z1) (sm.seq w1);subst this;rw[all ha z2 w2]|tup es=>rw[Rep]at h2;obtain⟨a',ys,q,w1,w2⟩:=h2;cases q;exact(tl w1 z1).elim|cY _=>exact(ld z1 h2).elim|dv _ _=>exact(ld2 z1 h2).elim|_=>rw[Rep]at h2;cases h2
   |non=>exact eN rfl h1 h2|bl k=>exact eN rfl h1 h2|int k=>exact eN rfl h1 h2|str k=>exact eN rfl h1 h2
theorem zr{A:Around}{s:Shared}{F:Hp}{d e:D}{v u:V}{v' u':Value}(hd:flat d=true)(he:flat e=true)(h1:Rep K F v d)(h2:Rep K F u e)(r1:RelV v v')(r2:RelV u u'):SeqAt.EqAt A s v' u' (iG d e):=by cases d with
 |tup _=>cases hd|lst _=>cases hd|cY _=>cases hd|dv _ _=>cases hd|non=>rw[Rep]at h1;subst h1;cases(show v'=.none from r1);cases e with|tup _=>cases he|lst _=>cases he|cY _=>cases he|dv _ _=>cases he|non=>rw[Rep]at h2;subst h2;cases(show u'=.none from r2);exact SeqAt.EqAt.same _|bl _=>rw[Rep]at h2;subst h2;cases(show u'=.bool _ from r2);exact none_bool _|int _=>rw[Rep]at h2;subst h2;obtain⟨t,rfl⟩:=r2;exact none_int _ _|str _=>rw[Rep]at h2;subst h2;obtain⟨t,rfl⟩:=r2;exact none_str _ _
 |bl _=>rw[Rep]at h1;subst h1;cases(show v'=.bool _ from r1);cases e with|tup _=>cases he|lst _=>cases he|cY _=>cases he|dv _ _=>cases he|non=>rw[Rep]at h2;subst h2;cases(show u'=.none from r2);exact bool_none _|bl _=>rw[Rep]at h2;subst h2;cases(show u'=.bool _ from r2);exact bool_bool _ _|int _=>rw[Rep]at h2;subst h2;obtain⟨t,rfl⟩:=r2;exact bool_int _ _ _|str _=>rw[Rep]at h2;subst h2;obtain⟨t,rfl⟩:=r2;exact bool_str _ _ _
 |int _=>rw[Rep]at h1;subst h1;obtain⟨t0,rfl⟩:=r1;cases e with|tup _=>cases he|lst _=>cases he|cY _=>cases he|dv _ _=>cases he|non=>rw[Rep]at h2;subst h2;cases(show u'=.none from r2);exact int_none _ _|bl _=>rw[Rep]at h2;subst h2;cases(show u'=.bool _ from r2);exact int_bool _ _ _|int _=>rw[Rep]at h2;subst h2;obtain⟨t,rfl⟩:=r2;exact int_int _ _ _ _|str _=>rw[Rep]at h2;subst h2;obtain⟨t,rfl⟩:=r2;exact int_str _ _ _ _
 |str _=>rw[Rep]at h1;subst h1;obtain⟨t0,rfl⟩:=r1;cases e with|tup _=>cases he|lst _=>cases he|cY _=>cases he|dv _ _=>cases he|non=>rw[Rep]at h2;subst h2;cases(show u'=.none from r2);exact str_none _ _|bl _=>rw[Rep]at h2;subst h2;cases(show u'=.bool _ from r2);exact str_bool _ _ _|int _=>rw[Rep]at h2;subst h2;obtain⟨t,rfl⟩:=r2;exact str_int _ _ _ _|str _=>rw[Rep]at h2;subst h2;obtain⟨t,rfl⟩:=r2;exact str_str _ _ _ _
theorem j8{A:Around}{s:Shared}{F:Hp}{ds:List D}{e:D}{u:V}{u':Value}{a:Addr}{its:Array Value}(ht:s.heap.IsTuple a its)(hu:A.units<cLine)(he:flat e=true)(h2:Rep K F u e)(r2:RelV u u'):SeqAt.EqAt A s (.ref a) u' (iG (.tup ds) e)/\SeqAt.EqAt A s u' (.ref a) (iG e (.tup ds)):=by cases e with|tup _=>cases he|lst _=>cases he|cY _=>cases he|dv _ _=>cases he|non=>rw[Rep]at h2;subst h2;cases(show u'=.none from r2);exact⟨SeqAt.EqAt.tuple_none ht hu,SeqAt.EqAt.none_tuple ht hu⟩|bl _=>rw[Rep]at h2;subst h2;cases(show u'=.bool _ from r2);exact⟨SeqAt.EqAt.tuple_bool _ ht hu,SeqAt.EqAt.bool_tuple _ ht hu⟩|int _=>rw[Rep]at h2;subst h2;obtain⟨t,rfl⟩:=r2;exact⟨SeqAt.EqAt.tuple_int _ _ ht hu,SeqAt.EqAt.int_tuple _ _ ht hu⟩|str _=>rw[Rep]at h2;subst h2;obtain⟨t,rfl⟩:=r2;exact⟨SeqAt.EqAt.tuple_str _ _ ht hu,SeqAt.EqAt.str_tuple _ _ ht hu⟩
theorem kI{A:Around}{s:Shared}{F:Hp}{ds:List D}{e:D}{u:V}{u':Value}{a:Addr}{its:Array Value}(ht:s.heap.IsList a its)(hu:A.units<cLine)(he:flat e=true)(h2:Rep K F u e)(r2:RelV u u'):SeqAt.EqAt A s (.ref a) u' (iG (.lst ds) e)/\SeqAt.EqAt A s u' (.ref a) (iG e (.lst ds)):=by cases e with|tup _=>cases he|lst _=>cases he|cY _=>cases he|dv _ _=>cases he|non=>rw[Rep]at h2;subst h2;cases(show u'=.none from r2);exact⟨SeqAt.EqAt.list_none ht hu,SeqAt.EqAt.none_list ht hu⟩|bl _=>rw[Rep]at h2;subst h2;cases(show u'=.bool _ from r2);exact⟨SeqAt.EqAt.list_bool _ ht hu,SeqAt.EqAt.bool_list _ ht hu⟩|int _=>rw[Rep]at h2;subst h2;obtain⟨t,rfl⟩:=r2;exact⟨SeqAt.EqAt.list_int _ _ ht hu,SeqAt.EqAt.int_list _ _ ht hu⟩|str _=>rw[Rep]at h2;subst h2;obtain⟨t,rfl⟩:=r2;exact⟨SeqAt.EqAt.list_str _ _ ht hu,SeqAt.EqAt.str_list _ _ ht hu⟩
theorem uz{n:Nat}{d:D}(h:cX n d=true)(h0:n=0):flat d=true:=by subst h0;cases d<;>first|rfl|simp[cX]at h
theorem aa3{X:Cx}{pins:List (Addr×Obj)}{σ:L2.St}{H F:Hp}{s:Shared}(I:L2.Inv X pins σ H s)(sm:aG F H):∀(n:Nat)(A:Around),A.units+n<cLine->∀(d e:D),cX n d=true->cX n e=true->∀(v u:V)(v' u':Value),Rep X.K F v d->Rep X.K F u e->RelV v v'->RelV u u'->SeqAt.EqAt A s v' u' (iG d e):=by intro n;induction n with|zero=>intro A hu d e hd he v u v' u' h1 h2 r1 r2;exact zr (uz hd rfl) (uz he rfl) h1 h2 r1 r2|succ n ih=>
   intro A hu d e hd he v u v' u' h1 h2 r1 r2;have hu0:A.units<cLine:=by omega
   have hu1:A.in1.units+n<cLine:=by show A.units+1+n<cLine;omega--items by place
   have at_:∀{xs ys:List V}{us ws:List Value}{ds es:List D}{j:Nat}(k1:j<us.toArray.size)(k2:j<ws.toArray.size),ds.all (cX n)=true->es.all (cX n)=true->Vals xs us->Vals ys ws->aF X.K F xs ds->aF X.K F ys es->SeqAt.EqAt A.in1 s us.toArray[j] ws.toArray[j] (iG (ds.getD j .non) (es.getD j .non)):=fun{xs ys us ws ds es j}k1 k2 a1 a2 v1 v2 p1 p2=>by
    have k1:j<us.length:=by simpa using k1
    have k2:j<ws.length:=by simpa using k2
    have l1:j<ds.length:=by rw[<-p1.length,v1.length];exact k1
    have l2:j<es.length:=by rw[<-p2.length,v2.length];exact k2
    obtain⟨x,g1,g2⟩:=p1.get (show ds[j]?=some ds[j]by simp[l1]);obtain⟨y,g3,g4⟩:=p2.get (show es[j]?=some es[j]by simp[l2]);obtain⟨x',g5,g6⟩:=v1.get g1;obtain⟨y',g7,g8⟩:=v2.get g3;have e1:us.toArray[j]=x':=by have:=(List.getElem?_eq_some_iff.mp g5).2;simpa using this
    have e2:ws.toArray[j]=y':=by have:=(List.getElem?_eq_some_iff.mp g7).2;simpa using this
    have e3:ds.getD j .non=ds[j]:=by simp[getD,l1]
    have e4:es.getD j .non=es[j]:=by simp[getD,l2]
    rw[e1,e2,e3,e4];exact ih A.in1 hu1 _ _ (all_eq_true.mp a1 _ (getElem_mem l1)) (all_eq_true.mp a2 _ (getElem_mem l2)) x y x' y' g2 g4 g6 g8--the same object
   have same:∀{a:Addr},v=.ref a->u=.ref a->SeqAt.EqAt A s v' u' (iG d e):=fun{a}q1 q2=>by subst q1;subst q2;have:=Ib I sm (n+1) d hd _ e h1 h2;subst this;rw[jk];cases r1;cases r2;exact SeqAt.EqAt.same _
   cases d with
   |cY _=>simp[cX]at hd|dv _ _=>simp[cX]at hd|tup ds=>
     have ha:ds.all (cX n)=true:=by simpa[cX]using hd
     have h1':=h1;rw[Rep]at h1';obtain⟨a,xs,rfl,z1,z2⟩:=h1';cases r1;obtain⟨us,v1,p1,_⟩:=I.tuple (aG.fW sm z1)
     cases e with|cY _=>simp[cX]at he|dv _ _=>simp[cX]at he|tup es=>
       have hb:es.all (cX n)=true:=by simpa[cX]using he
       have h2':=h2;rw[Rep]at h2';obtain⟨b,ys,rfl,w1,w2⟩:=h2';by_cases hab:a=b;.subst hab;exact same rfl rfl
       . cases r2;obtain⟨ws,v2,p2,_⟩:=I.tuple (aG.fW sm w1);refine .of_refs hab ?_;have z:=SeqAt.RcAt.tuples (A:=A) (e:=fun j=>iG (ds.getD j .non) (es.getD j .non)) p1 p2 hu0 fun j k1 k2=>at_ k1 k2 ha hb v1 v2 z2 w2;have l1:us.toArray.size=ds.length:=by rw[size_toArray,<-v1.length,z2.length]
         have l2:ws.toArray.size=es.length:=by rw[size_toArray,<-v2.length,w2.length]
         rw[l1,l2]at z;have e0:iG (.tup ds) (.tup es)=((List.range (min ds.length es.length)).all (fun j=>iG (ds.getD j .non) (es.getD j .non))&&ds.length==es.length):=by
          rw[pqt];by_cases hl:ds.length=es.length;.rw[fU hl,hl];simp
          . rw[iY hl];have:(ds.length==es.length)=false:=by simpa using hl
            rw[this,Bool.and_false]
         rw[e0];exact z|lst es=>rw[Rep]at h2;obtain⟨b,ys,rfl,w1,w2⟩:=h2;cases r2;obtain⟨ws,v2,p2,_⟩:=I.list (sm.seq w1);exact SeqAt.EqAt.tuple_list p1 p2.isList hu0|non=>exact(j8 p1 hu0 rfl h2 r2).1|bl _=>exact(j8 p1 hu0 rfl h2 r2).1|int _=>exact(j8 p1 hu0 rfl h2 r2).1|str _=>exact(j8 p1 hu0 rfl h2 r2).1
   |lst ds=>
     have ha:ds.all (cX n)=true:=by simpa[cX]using hd
     have h1':=h1;rw[Rep]at h1'
     obtain⟨a,xs,rfl,z1,z2⟩:=h1';cases r1;obtain⟨us,v1,p1,_⟩:=I.list (sm.seq z1);cases e with|cY _=>simp[cX]at he|dv _ _=>simp[cX]at he|lst es=>
       have hb:es.all (cX n)=true:=by simpa[cX]using he
       have h2':=h2;rw[Rep]at h2';obtain⟨b,ys,rfl,w1,w2⟩:=h2';by_cases hab:a=b;.subst hab;exact same rfl rfl
       . cases r2;obtain⟨ws,v2,p2,_⟩:=I.list (sm.seq w1);refine .of_refs hab ?_;have l1:us.toArray.size=ds.length:=by rw[size_toArray,<-v1.length,z2.length]
         have l2:ws.toArray.size=es.length:=by rw[size_toArray,<-v2.length,w2.length]
         rw[Y0];by_cases hl:ds.length=es.length;.have z:=SeqAt.RcAt.lists (A:=A) (e:=fun j=>iG (ds.getD j .non) (es.getD j .non)) p1.isList p2.isList (by rw[l1,l2,hl]) hu0 fun j k1 k2=>at_ k1 k2 ha hb v1 v2 z2 w2;rw[l1]at z;rw[fU hl];exact z
         .rw[iY hl];exact lists_lengths p1.isList p2.isList (by rw[l1,l2];simpa using hl) hu0|tup es=>rw[Rep]at h2;obtain⟨b,ys,rfl,w1,w2⟩:=h2;cases r2;obtain⟨ws,v2,p2,_⟩:=I.tuple (aG.fW sm w1);exact SeqAt.EqAt.list_tuple p1.isList p2 hu0|non=>exact(kI p1.isList hu0 rfl h2 r2).1|bl _=>exact(kI p1.isList hu0 rfl h2 r2).1|int _=>exact(kI p1.isList hu0 rfl h2 r2).1|str _=>exact(kI p1.isList hu0 rfl h2 r2).1
   |non|bl _|int _|str _=>cases e with|cY _=>simp[cX]at he|dv _ _=>simp[cX]at he|tup es=>rw[Rep]at h2;obtain⟨b,ys,rfl,w1,w2⟩:=h2;cases r2;obtain⟨ws,v2,p2,_⟩:=I.tuple (aG.fW sm w1);exact(j8 p2 hu0 rfl h1 r1).2|lst es=>rw[Rep]at h2;obtain⟨b,ys,rfl,w1,w2⟩:=h2;cases r2;obtain⟨ws,v2,p2,_⟩:=I.list (sm.seq w1);exact(kI p2.isList hu0 rfl h1 r1).2|_=>exact zr rfl rfl h1 h2 r1 r2
end
section
variable{X:Cx}{pins:List (Addr×Obj)}{σ:L2.St}{H F:Hp}{s:Shared}{A:Around}
abbrev RC(A:Around)(s:Shared)(v u:Value)(k:Bool):Prop:=SeqAt.RcAt A s v u k/\SeqAt.RcNeAt A s v u (!k)
inductive Top(X:Cx)(F H:Hp)(s:Shared):Value->D->Prop where|non:Top X F H s .none .non|bl(b:Bool):Top X F H s (.bool b) (.bl b)|int(i:Int)(t:Tok):Top X F H s (.int i t) (.int i)|str(x:Str)(t:Tok):Top X F H s (.str x t) (.str x)|tup{a:Addr}{us:List Value}{xs:List V}{ds:List D}(ht:s.heap.IsTuple a us.toArray)(hv:Vals xs us)(hr:aF X.K F xs ds):Top X F H s (.ref a) (.tup ds)|lst{a:Addr}{us:List Value}{xs:List V}{ds:List D}(ht:s.heap.IsList a us.toArray)(hv:Vals xs us)(hr:aF X.K F xs ds):Top X F H s (.ref a) (.lst ds)
theorem tu(I:L2.Inv X pins σ H s)(sm:aG F H){v:V}{v':Value}{d:D}(hd:cX 8 d=true)(h:cU X.K F H v d)(r:RelV v v'):Top X F H s v' d:=by cases d with|cY _=>simp[cX]at hd|dv _ _=>simp[cX]at hd|non=>rw[h.non]at r;cases r;exact .non|bl b=>rw[h.bl]at r;cases r;exact .bl b|int i=>rw[h.int]at r;obtain⟨t,rfl⟩:=r;exact .int i t|str x=>rw[h.str]at r;obtain⟨t,rfl⟩:=r;exact .str x t|tup ds=>obtain⟨a,xs,rfl,h1,h2,_⟩:=h.tup sm;cases r;obtain⟨us,v1,p1,_⟩:=I.tuple h1;exact .tup p1 v1 h2|lst ds=>obtain⟨a,xs,rfl,h1,h2⟩:=h.lst sm;cases r;obtain⟨us,v1,p1,_⟩:=I.list h1;exact .lst p1.isList v1 h2
theorem Va(I:L2.Inv X pins σ H s)(sm:aG F H){n:Nat}(hu:A.units+(n+1)<cLine){d e:D}(hd:cX (n+1) d=true)(he:cX (n+1) e=true){v' u':Value}(h1:Top X F H s v' d)(h2:Top X F H s u' e):RC A s v' u' (iG d e):=by
 have hu0:A.units<cLine:=by omega
 have hu1:A.in1.units+n<cLine:=by show A.units+1+n<cLine;omega
 have at_:∀{xs ys:List V}{us ws:List Value}{ds es:List D}{j:Nat}(k1:j<us.toArray.size)(k2:j<ws.toArray.size),ds.all (cX n)=true->es.all (cX n)=true->Vals xs us->Vals ys ws->aF X.K F xs ds->aF X.K F ys es->SeqAt.EqAt A.in1 s us.toArray[j] ws.toArray[j] (iG (ds.getD j .non) (es.getD j .non)):=fun{xs ys us ws ds es j}k1 k2 a1 a2 v1 v2 p1 p2=>by
  have k1:j<us.length:=by simpa using k1
  have k2:j<ws.length:=by simpa using k2
  have l1:j<ds.length:=by rw[<-p1.length,v1.length];exact k1
  have l2:j<es.length:=by rw[<-p2.length,v2.length];exact k2
  obtain⟨x,g1,g2⟩:=p1.get (show ds[j]?=some ds[j]by simp[l1]);obtain⟨y,g3,g4⟩:=p2.get (show es[j]?=some es[j]by simp[l2]);obtain⟨x',g5,g6⟩:=v1.get g1;obtain⟨y',g7,g8⟩:=v2.get g3;have e1:us.toArray[j]=x':=by have:=(List.getElem?_eq_some_iff.mp g5).2;simpa using this
  have e2:ws.toArray[j]=y':=by have:=(List.getElem?_eq_some_iff.mp g7).2;simpa using this
  have e3:ds.getD j .non=ds[j]:=by simp[getD,l1]
  have e4:es.getD j .non=es[j]:=by simp[getD,l2]
  rw[e1,e2,e3,e4];exact aa3 I sm n A.in1 hu1 _ _ (all_eq_true.mp a1 _ (getElem_mem l1)) (all_eq_true.mp a2 _ (getElem_mem l2)) x y x' y' g2 g4 g6 g8
 cases h1 with
 |non=>cases h2 with|non=>exact⟨SeqAt.RcAt.none_none,SeqAt.RcNeAt.none_none⟩|bl b=>exact⟨SeqAt.RcAt.none_bool _,SeqAt.RcNeAt.none_bool _⟩|int i t=>exact⟨SeqAt.RcAt.none_int _ _,SeqAt.RcNeAt.none_int _ _⟩|str i t=>exact⟨SeqAt.RcAt.none_str _ _,SeqAt.RcNeAt.none_str _ _⟩|tup ht _ _=>exact⟨SeqAt.RcAt.none_tuple ht hu0,SeqAt.RcNeAt.none_tuple ht hu0⟩|lst ht _ _=>exact⟨SeqAt.RcAt.none_list ht hu0,SeqAt.RcNeAt.none_list ht hu0⟩
 |bl b0=>cases h2 with|non=>exact⟨SeqAt.RcAt.bool_none _,SeqAt.RcNeAt.bool_none _⟩|bl b=>exact⟨SeqAt.RcAt.bool_bool _ _,SeqAt.RcNeAt.bool_bool _ _⟩|int i t=>exact⟨SeqAt.RcAt.bool_int _ _ _,SeqAt.RcNeAt.bool_int _ _ _⟩|str i t=>exact⟨SeqAt.RcAt.bool_str _ _ _,SeqAt.RcNeAt.bool_str _ _ _⟩|tup ht _ _=>exact⟨SeqAt.RcAt.bool_tuple _ ht hu0,SeqAt.RcNeAt.bool_tuple _ ht hu0⟩|lst ht _ _=>exact⟨SeqAt.RcAt.bool_list _ ht hu0,SeqAt.RcNeAt.bool_list _ ht hu0⟩
 |int i0 t0=>cases h2 with|non=>exact⟨SeqAt.RcAt.int_none _ _,SeqAt.RcNeAt.int_none _ _⟩|bl b=>exact⟨SeqAt.RcAt.int_bool _ _ _,SeqAt.RcNeAt.int_bool _ _ _⟩|int i t=>exact⟨SeqAt.RcAt.int_int _ _ _ _,SeqAt.RcNeAt.int_int _ _ _ _⟩|str i t=>exact⟨SeqAt.RcAt.int_str _ _ _ _,SeqAt.RcNeAt.int_str _ _ _ _⟩|tup ht _ _=>exact⟨SeqAt.RcAt.int_tuple _ _ ht hu0,SeqAt.RcNeAt.int_tuple _ _ ht hu0⟩|lst ht _ _=>exact⟨SeqAt.RcAt.int_list _ _ ht hu0,int_list _ _ ht hu0⟩
 |str i0 t0=>cases h2 with|non=>exact⟨SeqAt.RcAt.str_none _ _,SeqAt.RcNeAt.str_none _ _⟩|bl b=>exact⟨SeqAt.RcAt.str_bool _ _ _,SeqAt.RcNeAt.str_bool _ _ _⟩|int i t=>exact⟨SeqAt.RcAt.str_int _ _ _ _,SeqAt.RcNeAt.str_int _ _ _ _⟩|str i t=>exact⟨SeqAt.RcAt.str_str _ _ _ _,SeqAt.RcNeAt.str_str _ _ _ _⟩|tup ht _ _=>exact⟨SeqAt.RcAt.str_tuple _ _ ht hu0,SeqAt.RcNeAt.str_tuple _ _ ht hu0⟩|lst ht _ _=>exact⟨SeqAt.RcAt.str_list _ _ ht hu0,str_list _ _ ht hu0⟩
 |@tup a us xs ds ht hv hr=>
   have ha:ds.all (cX n)=true:=by simpa[cX]using hd
   cases h2 with|non=>exact⟨SeqAt.RcAt.tuple_none ht hu0,SeqAt.RcNeAt.tuple_none ht hu0⟩|bl b=>exact⟨SeqAt.RcAt.tuple_bool _ ht hu0,SeqAt.RcNeAt.tuple_bool _ ht hu0⟩|int i t=>exact⟨SeqAt.RcAt.tuple_int _ _ ht hu0,SeqAt.RcNeAt.tuple_int _ _ ht hu0⟩|str i t=>exact⟨SeqAt.RcAt.tuple_str _ _ ht hu0,SeqAt.RcNeAt.tuple_str _ _ ht hu0⟩|lst vU _ _=>exact⟨SeqAt.RcAt.tuple_list ht vU hu0,SeqAt.RcNeAt.tuple_list ht vU hu0⟩|@tup b ws ys es vU hv2 hr2=>
     have hb:es.all (cX n)=true:=by simpa[cX]using he
     have l1:us.toArray.size=ds.length:=by rw[size_toArray,<-hv.length,hr.length]
     have l2:ws.toArray.size=es.length:=by rw[size_toArray,<-hv2.length,hr2.length]
     have z1:=SeqAt.RcAt.tuples (A:=A) (e:=fun j=>iG (ds.getD j .non) (es.getD j .non)) ht vU hu0 fun j k1 k2=>at_ k1 k2 ha hb hv hv2 hr hr2;have z2:=SeqAt.RcNeAt.tuples (A:=A) (e:=fun j=>iG (ds.getD j .non) (es.getD j .non)) ht vU hu0 fun j k1 k2=>at_ k1 k2 ha hb hv hv2 hr hr2;rw[l1,l2]at z1 z2;have e0:iG (.tup ds) (.tup es)=((List.range (min ds.length es.length)).all (fun j=>iG (ds.getD j .non) (es.getD j .non))&&ds.length==es.length):=by
      rw[pqt];by_cases hl:ds.length=es.length;.rw[fU hl,hl];simp
      . rw[iY hl];have:(ds.length==es.length)=false:=by simpa using hl
        rw[this,Bool.and_false]
     rw[e0];exact⟨z1,z2⟩
 |@lst a us xs ds ht hv hr=>
   have ha:ds.all (cX n)=true:=by simpa[cX]using hd
   cases h2 with|non=>exact⟨SeqAt.RcAt.list_none ht hu0,SeqAt.RcNeAt.list_none ht hu0⟩|bl b=>exact⟨SeqAt.RcAt.list_bool _ ht hu0,SeqAt.RcNeAt.list_bool _ ht hu0⟩|int i t=>exact⟨SeqAt.RcAt.list_int _ _ ht hu0,list_int _ _ ht hu0⟩|str i t=>exact⟨SeqAt.RcAt.list_str _ _ ht hu0,list_str _ _ ht hu0⟩|tup vU _ _=>exact⟨SeqAt.RcAt.list_tuple ht vU hu0,SeqAt.RcNeAt.list_tuple ht vU hu0⟩|@lst b ws ys es vU hv2 hr2=>
     have hb:es.all (cX n)=true:=by simpa[cX]using he
     have l1:us.toArray.size=ds.length:=by rw[size_toArray,<-hv.length,hr.length]
     have l2:ws.toArray.size=es.length:=by rw[size_toArray,<-hv2.length,hr2.length]
     rw[Y0];by_cases hl:ds.length=es.length;.have z1:=SeqAt.RcAt.lists (A:=A) (e:=fun j=>iG (ds.getD j .non) (es.getD j .non)) ht vU (by rw[l1,l2,hl]) hu0 fun j k1 k2=>at_ k1 k2 ha hb hv hv2 hr hr2;have z2:=SeqAt.RcNeAt.lists (A:=A) (e:=fun j=>iG (ds.getD j .non) (es.getD j .non)) ht vU (by rw[l1,l2,hl]) hu0 fun j k1 k2=>at_ k1 k2 ha hb hv hv2 hr hr2;rw[l1]at z1 z2;rw[fU hl];exact⟨z1,z2⟩
     .rw[iY hl];exact⟨lists_lengths ht vU (by rw[l1,l2];simpa using hl) hu0,SeqAt.RcNeAt.lists_lengths ht vU (by rw[l1,l2];simpa using hl) hu0⟩
theorem dG(hu:X.A.units+8<cLine):dW X (compareOp .Eq) (rD X.K (mL .eq)):=by rintro pins s σ H x y v u Q I rx ry⟨F,d,e,r,sm,px,py,he,k⟩;obtain⟨t,e1,e2⟩:=map_some (show(wN d e).map _=some r from he);subst e2;unfold wN at e1;obtain⟨hd,e1⟩:=bD e1;rw[and_eq_true]at hd;subst e1;exact(Va I sm (n:=7) hu hd.1 hd.2 (tu I sm hd.1 px rx) (tu I sm hd.2 py ry)).1 _ _ _ _ ⟨.bl _,H,I,rfl,cB.dm sm (dX _) k⟩
theorem my(hu:X.A.units+8<cLine):dW X (compareOp .NotEq) (rD X.K (mL .ne)):=by rintro pins s σ H x y v u Q I rx ry⟨F,d,e,r,sm,px,py,he,k⟩;obtain⟨t,e1,e2⟩:=map_some (show(rY d e).map _=some r from he);subst e2;unfold rY at e1;obtain⟨hd,e1⟩:=bD e1;rw[and_eq_true]at hd;subst e1;exact(Va I sm (n:=7) hu hd.1 hd.2 (tu I sm hd.1 px rx) (tu I sm hd.2 py ry)).2 _ _ _ _ ⟨.bl _,H,I,rfl,cB.dm sm (dX _) k⟩
end
section
variable{Pg:Program}{w:World}{K:PySem.W.Frag}{mg:Str->Option Value}{base:Heap}
theorem Uw{x qual:Str}{st:Stmt}{f:Addr}{fd:FuncData}{N ps:List Str}{k n:Nat}{c:Call}{d:Fd}(Fu:gB K x qual st f fd)(S:aL N ps (az st))(h1:d.np=ps.length)(h2:d.nn=N.length)(hb:∀(cdv:Value)(A:Around)(outer:List Env)(s:Shared)(H:Hp)(E:XK),ju k (A.deeper (envOfC qual (az st) s.heap.objs.size f cdv))->SB (xJ fZ Pg w K mg base N qual (az st) f cdv A outer s H E).Wa c n (fG st) d.body):bW Pg w K mg base fZ (k+1) f fd ps (gw K ps.length (fun args=>enter c n d args)):=by
 refine Fu.ok S (fun vs H Q E h=>h.1) fun cdv A outer s H vs Q E hr h=>?_;obtain⟨hl,F,args,r,args',g,e,q⟩:=h;refine⟨_,hb cdv A outer s H E hr,?_⟩;replace e:enter c n d args=.ok r args':=e;unfold enter at e;split at e
 . rename_i hc;obtain⟨c1,c2⟩:=hc;have hg:=g.more (n:=d.nn-d.np) (τ:=replicate (N.length-vs.length) none) (by simp[h1,h2,hl]);have hla:args.length=d.np:=c1;have go:∀{fl:Fl}{ρ':List Sl},gf c n d.body (args++replicate (d.nn-d.np) .aP)=.ok fl ρ'->(∀F' σ' H',aJ K F (args++replicate (d.nn-d.np) .aP) (start N vs) H F' ρ' σ' H'->(match fl with|.next=>Q .non H'|.brk=>False|.cont=>False|.ret r=>∀v,cJ K F' ρ' σ' H' (args++replicate (d.nn-d.np) .aP) (start N vs) H v r->Q v H'))->Xu K (gf c n d.body) {nx:=fun _ H'=>Q .non H',rt:=Q} (start N vs) H:=fun{fl ρ'}z k=>⟨F,_,fl,ρ',hg,z,fun F' σ' H' s=>by have:=k F' σ' H' s;cases fl<;>exact this⟩;split at e;.rename_i ρ' z;cases e;refine go z fun F' σ' H' s=>?_;obtain⟨z1,z2⟩:=aJ.less (m:=d.np) hla.symm g (by simp[h1,h2,hl]) s;exact q .non F' _ H' z1 (show Rep K F' _ _ from Qi)
   .rename_i r' ρ' z;cases e;refine go z fun F' σ' H' s v rr=>?_;obtain⟨z1,z2⟩:=aJ.less (m:=d.np) hla.symm g (by simp[h1,h2,hl]) s;exact q v F' _ H' z1 (z2 v r rr)
   .split at e<;>cases e
 .cases e
structure au(Pg:Program)(w:World)(K:PySem.W.Frag)(mg:Str->Option Value)(base:Heap)(k:Nat)(c:Call)(i:Nat)(x:Str)(np:Nat):Prop where ex:∃fa fd qs,bW Pg w K mg base fZ k fa fd qs (gw K qs.length (c i))/\mg x=some (.ref fa)/\keepIn K (.ref fa)=true/\Binds K fd qs []/\qs.length=np
end
section
variable{X:Cx}{c:Call}{n k:Nat}{e a b:Expr}{es:List Expr}{p pa pb:P}{ps:List P}{pos:Pos}
theorem sv(i:Nat){x:Str}(hN:X.N[i]?=some x:=by rfl)(hv:v8 X.env.scope x:=by first|exact Or.inl rfl|exact Or.inr (Or.inl rfl)|exact Or.inr (Or.inr rfl))(hd:(x==("__debug__":Str))=false:=by rfl)(hcd:(x==("__classdict__":Str))=false:=by rfl):SX X c (.Name x pos) (.var i):=Oi hN hv hd hcd
theorem dh{i np:Nat}{x:Str}{p':Pos}(C:au X.prog X.w X.K X.mg X.base k c i x np)(hr:ju k X.A)(ha:SG X c (e::es) ps)(hg:Gl X x:=by rfl)(hl:(e::es).length=np:=by rfl)(hdb:(x==("__debug__":Str))=false:=by rfl)(he:starEach (e::es) X.env=(false,eval e X.env)::starEach es X.env:=by rfl)(hpl:(backTo pos (starEach es X.env)).any (·.1)=false:=by rfl)(hl2:ps.length=(e::es).length:=by rfl):SX X c (.Call (.Name x p') (e::es) [] pos) (.call i ps):=by obtain⟨fa,fd,qs,h1,h2,h3,h4,h5⟩:=C.ex;exact Ik h1 hr hg h2 h3 h4 ha (hl.trans h5.symm) hdb he hpl hl2
noncomputable def K5(names outer:List (Str×NameKind))(N N':List Str)(n:Nat):Bool:=(names.all fun y=>names.lookup y.1==some y.2)&&(names.all fun y=>y.2!=.local||names.lookup y.1==some .local)&&(names.all fun y=>y.2!=.free||outer.lookup y.1==some .cell||outer.lookup y.1==some .free)&&N'.length==N.length+n&&((N.zip N').all fun p=>(p.1==p.2&&names.lookup p.2==some .free)||(names.lookup p.2!=some .local&&names.lookup p.2!=some .cell&&names.lookup p.2!=some .free))
theorem rK{scope:Scope}{N':List Str}(hk:scope.kind=.function)(h:K5 scope.names X.env.scope.names X.N N' n=true):dO X scope N' n:=by
 unfold K5 at h;simp only[and_eq_true]at h;obtain⟨⟨⟨⟨h1,h2⟩,h3⟩,h4⟩,h5⟩:=h;refine⟨hk,fun y hy=>eq_of_beq (all_eq_true.mp h1 y hy),fun y hy e=>?_,fun y hy e=>?_,by simpa using h4,h5⟩;.have:=all_eq_true.mp h2 y hy;rw[e]at this;simpa using this
 . have:=all_eq_true.mp h3 y hy;rw[e]at this;simp only[or_eq_true]at this;rcases this with(z|z)|z;.cases z
   .exact .inl (eq_of_beq z)
   .exact .inr (eq_of_beq z)
theorem aY{A:Around}(h:ju k A):A.units+8<cLine:=by have:=h.un;omega
end
end HH
end
section
namespace PySem
open AutoSeq1(wpAny_loadPart')
section
variable{prog:Program}{w:World}{A:Around}{E:Value->Shared->Prop}{s:Shared}
theorem gA{it l:Addr}{i:Nat}{items:Array Value}{x:Value}{Q:Value->Shared->Prop}(hit:s.heap.IsTupleIter it l i)(hl:s.heap.IsTuple l items)(hx:items[i]?=some x)(hQ:∀h',h'.IsTupleIter it l (i+1)->SameBut it s.heap h'->Q x {s with heap:=h'}):wpAny (model prog w) A (nextOf (.ref it)) Q E s:=by obtain⟨o,ho,hc,hd⟩:=id hit;obtain⟨ol,hol,_,nl,hdl⟩:=hl;unfold nextOf;refine wpAny_bind (wpAny_callSpecial?_slot (name:=Str.ofString "__next__") hit.typeIs F.slot_tuple_iterator_next (wpAny_call_entry F.slot_tuple_iterator_next hit.typeIs F.entry_tuple_iterator_next ?_ (F.args_tuple_iterator_next_1 _)));show wpAny _ _ (field (.ref it) 0>>=_) _ _ s;refine wpAny_bind (wpAny_field ho hd (x:=.ref l) rfl ?_);show wpAny _ _ (if(Value.ref l==Value.none)=true then _ else _) _ _ s;rw[if_neg (show ¬((Value.ref l==Value.none)=true)from Bool.false_ne_true)];show wpAny _ _ (field (.ref it) 1>>=_) _ _ s;refine wpAny_bind (wpAny_field ho hd (x:=.int i 0) rfl ?_);show wpAny _ _ (seqItems? (.ref l)>>=_) _ _ s;refine wpAny_bind (wpAny_seqItems hol hdl ?_);simp only[Int.toNat_natCast,hx];refine wpAny_bind (wpAny_setField ho hd (by simp) (wpAny_pure ⟨x,rfl,wpAny_pure (hQ _ ?_ (Heap.SameBut.update ..))⟩));exact⟨_,get?_update_self _ ho (Obj.isFreed_of_fields (Obj.data_mapFields hd _)),(Obj.cls_mapFields ..).trans hc,by rw[Obj.data_mapFields hd];simp[rawInt]⟩
theorem dN{it l:Addr}{i:Nat}{items:Array Value}{Q:Value->Shared->Prop}(hh:A.handled=none)(hit:s.heap.IsTupleIter it l i)(hl:s.heap.IsTuple l items)(hx:items[i]?=none)(hE:∀h' e,Heap.ExtBut it s.heap h'->(∃o,h'.get? e=some o/\o.cls=.type "StopIteration")->E (.ref e) {s with heap:=h'}):wpAny (model prog w) A (nextOf (.ref it)) Q E s:=by
 obtain⟨o,ho,hc,hd⟩:=id hit;obtain⟨ol,hol,_,nl,hdl⟩:=hl;unfold nextOf;refine wpAny_bind (wpAny_callSpecial?_slot (name:=Str.ofString "__next__") hit.typeIs F.slot_tuple_iterator_next (wpAny_call_entry F.slot_tuple_iterator_next hit.typeIs F.entry_tuple_iterator_next ?_ (F.args_tuple_iterator_next_1 _)));show wpAny _ _ (field (.ref it) 0>>=_) _ _ s;refine wpAny_bind (wpAny_field ho hd (x:=.ref l) rfl ?_);show wpAny _ _ (if(Value.ref l==Value.none)=true then _ else _) _ _ s;rw[if_neg (show ¬((Value.ref l==Value.none)=true)from Bool.false_ne_true)];show wpAny _ _ (field (.ref it) 1>>=_) _ _ s;refine wpAny_bind (wpAny_field ho hd (x:=.int i 0) rfl ?_);show wpAny _ _ (seqItems? (.ref l)>>=_) _ _ s;refine wpAny_bind (wpAny_seqItems hol hdl ?_);simp only[Int.toNat_natCast,hx];refine wpAny_bind (wpAny_rule (wpAny_bind (wpAny_setField ho hd (by simp) ?_)));show wpAny _ _ (newExc (.type "StopIteration") []>>=_) _ _ _;refine wpAny_bind ?_;simp only[newExc,newTuple];refine wpAny_bind (wpAny_newObj_type ?_ (by size_fits));refine wpAny_bind (m:=firstArgMember _ _) (wpAny_of_eq (a:=Value.none) (by first|rfl|(simp only[firstArgMember];rfl)) ?_);refine wpAny_newObj_type ?_ (by size_fits);simp only[raiseNew];refine wpAny_bind (wpAny_handled ?_);first|rw[show A.in1.handled=none from hh]|rw[hh]
 refine wpAny_bind (wpAny_pure (wpAny_throw ?_));exact hE _ _ (((Heap.SameBut.update ..).extBut.push _).push _) ⟨_,get?_push_size _ rfl,rfl⟩
end
theorem jc(l:Addr)(items:Array Value)(n:Nat)(dct:Option Addr)(sl:Array (Option Value)):Meets (Builtin.«enumerate.__new__» ⟨[.type "enumerate",.ref l],[]⟩) (fun _ R s=>s.heap.get? l=some {cls:=.type "tuple",dict:=dct,data:=.seq items n,slots:=sl}/\R (.ok (.ret (.ref (s.heap.push {cls:=.type "tuple_iterator",data:=.fields #[.ref l,.int 0 0]}).objs.size))) {s with heap:=(s.heap.push {cls:=.type "tuple_iterator",data:=.fields #[.ref l,.int 0 0]}).push {cls:=.type "enumerate",data:=.fields #[.none,.bool false,.ref s.heap.objs.size,rawInt 0,.none,.none]}}):=.of_wp fun prog w A R s h=>by
  obtain⟨hp,g,d,tk,os⟩:=s;obtain⟨hl,h⟩:=h;have hsub:=sub_enumerate;have hL:IsTuple (Shared.heap ⟨hp,g,d,tk,os⟩) l items:=⟨_,hl,rfl,n,rfl⟩;wp_walk using wpAny_loadPart' hl;refine wpAny_stack_any fun st=>wpAny_pure ?_;split
  . rename_i c _ _ _ _ _;cases(c==Value.type "enumerate");.wp_walk using wpAny_loadPart' hl,wpAny_pyIter_tuple hL;exact⟨_,rfl,h⟩
    .wp_walk using wpAny_loadPart' hl,wpAny_pyIter_tuple hL;exact⟨_,rfl,h⟩
  .wp_walk using wpAny_loadPart' hl,wpAny_pyIter_tuple hL;exact⟨_,rfl,h⟩
section
variable{prog:Program}{w:World}{A:Around}{E:Value->Shared->Prop}{s:Shared}
theorem jj{l:Addr}{items:Array Value}{Q:Value->Shared->Prop}(hL:s.heap.IsTuple l items)(h:∀ h',IsEnum h' (s.heap.objs.size+1) s.heap.objs.size 0 .none->h'.IsTupleIter s.heap.objs.size l 0->h'.objs.size=s.heap.objs.size+2->(∀b o,s.heap.get? b=some o->h'.get? b=some o)->Q (.ref (s.heap.objs.size+1)) {s with heap:=h'}):wpAny (model prog w) A (call (.type "enumerate") [.ref l]) Q E s:=by
 obtain⟨⟨c,dct,dt,sl⟩,hl,hc,n,hd⟩:=hL;replace hc:c=.type "tuple":=hc;replace hd:dt=.seq items n:=hd;subst hc hd;refine callType_new F.called_enumerate (by decide) (F.typeCall_enumerate_1 _) (F.newCall_enumerate_1 _) (fun obj=>F.args_object_init_2 obj _) F.entry_enumerate_new (jc l items n dct sl) ⟨hl,?_⟩;have hz:(s.heap.push {cls:=.type "tuple_iterator",data:=.fields #[.ref l,.int 0 0]}).objs.size=s.heap.objs.size+1:=size_push ..;show _/\_;rw[hz];have he:IsEnum ((s.heap.push {cls:=.type "tuple_iterator",data:=.fields #[.ref l,.int 0 0]}).push {cls:=.type "enumerate",data:=.fields #[.none,.bool false,.ref s.heap.objs.size,rawInt 0,.none,.none]}) (s.heap.objs.size+1) s.heap.objs.size 0 .none:=by have:=get?_push_size (s.heap.push {cls:=.type "tuple_iterator",data:=.fields #[.ref l,.int 0 0]}) (o:={cls:=.type "enumerate",data:=.fields #[.none,.bool false,.ref s.heap.objs.size,rawInt 0,.none,.none]}) rfl;rw[hz]at this;exact this
 refine⟨⟨_,he,rfl⟩,h _ he ⟨_,get?_push_of_some _ (get?_push_size _ rfl),rfl,rfl⟩ (by rw[size_push,hz]) fun b o x=>get?_push_of_some _ (get?_push_of_some _ x)⟩
end
end PySem
end
section
namespace L2
open PySem PySem.Spec PyProof.Rows
section
variable{X:Cx}{pins:List (Addr×Obj)}{σ:L2.St}{H:Hp}{s:Shared}
theorem Inv.wA{ch:List Addr}{h':Heap}{o:HO}{t':Nat}(I:Inv X pins σ H s)(k:∀b u,b∉ch->s.heap.get? b=some u->h'.get? b=some u)(hl:∀b∈ch,∃u,h'.get? b=some u)(hf:∀b∈ch,lX X pins H b)(new:bR X.prog X.w (upd H s.heap.objs.size o) h' s.heap.objs.size o):Inv X pins σ (upd H s.heap.objs.size o) {s with heap:=h',toks:=t'}:=by
 have fr:H s.heap.objs.size=none:=I.hok.fresh (le_refl _);have GC:∀b u,H b=some u->b∉ch:=fun b u e hb=>by rw[(hf b hb).1]at e;cases e
 have up:∀b u,H b=some u->upd H s.heap.objs.size o b=some u:=fun b u e=>by
  have:b≠s.heap.objs.size:=by rintro rfl;rw[fr]at e;cases e
  rw[aC this];exact e
 refine I.call (g':=s.gens) (d':=s.drawn) (ch:=ch) ⟨fun b u e n _ hx=>k b u hx e,fun b u e n _ hx=>⟨u.slots,k b u hx e⟩,fun b u e n hx=>?_,fun b u e hx=>⟨u,k b u hx e⟩,fun b xs e=>up b _ e,fun b ob u e=>up b _ e,fun b ps e=>⟨#[],by rw[up b _ e];simp⟩⟩ ?_ I.bare fun b hb=>⟨(hf b hb).2.2.2.1,(hf b hb).2.1,(hf b hb).2.2.2.2.1,(hf b hb).2.2.2.2.2⟩;.have:b≠s.heap.objs.size:=ne_of_lt (lt_size e);rw[aC this];exact n
 . intro b u e;by_cases hb:b=s.heap.objs.size;.subst hb;rw[aV]at e;cases e;exact new
   . rw[aC hb]at e;refine(I.hok b u e).stay (fun c v hc q=>k c v ?_ q) (fun c q=>up c _ q) fun c xs q=>up c _ q;rcases hc with rfl|hc;.exact GC _ _ e
     .exact GC _ _ hc
end
noncomputable def xX(K:PySem.W.Frag)(a:Addr):It:=⟨fun i H=>∃xs x,dq K H a xs/\xs[i]?=some x,fun i H x H'=>∃T v,H T=none/\x=.ref T/\H'=upd H T (.tup [.int (i:Int),v])/\∀xs,dq K H a xs->xs[i]?=some v,fun i H=>∃xs,dq K H a xs/\xs.length<=i⟩
theorem QW{prog:Program}{w:World}{A:Around}(hh:A.handled=none)(it l:Addr)(hne:l≠it)(items:Array Value):Draws prog w A it [it,l] items.size (fun i v=>items[i]?=some v) (fun i h=>h.IsListIter it l i/\h.IsList l items)where
 live:=fun _ _ st=>let⟨o,ho,_⟩:=st.1;⟨o,ho⟩;frame:=fun _ _ _ st hk=>⟨(let⟨o,ho,r⟩:=st.1;⟨o,hk it (by simp) o ho,r⟩),(let⟨o,ho,r⟩:=st.2;⟨o,hk l (by simp) o ho,r⟩)⟩;item:=fun i s Q E hi st hQ=>by refine wpAny_nextOf_list_item st.1 st.2 (x:=items[i]) (by simp[hi]) fun h' hit' hs'=>?_;exact hQ _ h' s.toks (by simp[hi]) ⟨hit',(let⟨o,ho,r⟩:=st.2;⟨o,hs'.extBut l o hne ho,r⟩)⟩ hs'
 done:=fun s Q E st hE=>wpAny_nextOf_list_end hh st.1 st.2 (by simp) hE
theorem Aq{prog:Program}{w:World}{A:Around}(hh:A.handled=none)(it l:Addr)(items:Array Value)(n:Nat)(hn:items.size<=n):Draws prog w A it [it,l] n (fun _ _=>True) (fun i h=>i=n/\h.IsListIter it l i/\h.IsList l items)where live:=fun _ _ st=>let⟨o,ho,_⟩:=st.2.1;⟨o,ho⟩;frame:=fun _ _ _ st hk=>⟨st.1,(let⟨o,ho,r⟩:=st.2.1;⟨o,hk it (by simp) o ho,r⟩),(let⟨o,ho,r⟩:=st.2.2;⟨o,hk l (by simp) o ho,r⟩)⟩;item:=fun i s Q E hi st hQ=>absurd st.1 (ne_of_lt hi);done:=fun s Q E st hE=>wpAny_nextOf_list_end hh st.2.1 st.2.2 (by simp;exact hn) hE
theorem Bm{P:Program}{w:World}{K:PySem.W.Frag}{elts:List Expr}{x1}{tp:Pos}(a it e:Addr)(hei:e≠it):Turn P w K (.Tuple elts x1 tp) (xX K a) [e,it] e (fun i h=>(∃old,IsEnum h e it (i:Int) old)/\h.IsListIter it a i)where
 mem:=by simp
 obj:=fun i h st b hb=>by
  obtain⟨⟨old,h1⟩,o,h2,h3,h4⟩:=st;rcases mem_cons.mp hb with rfl|hb;.exact⟨_,h1,fun v z=>by cases z⟩
  . have:b=it:=by simpa using hb
    subst this;exact⟨o,h2,fun v z=>by rw[h4]at z;cases z⟩
 keep:=fun i h h' st k=>by obtain⟨⟨old,h1⟩,o,h2,h3⟩:=st;exact⟨⟨old,k e (by simp) _ h1⟩,o,k it (by simp) _ h2,h3⟩
 item:=fun X hP hw hK hc i pins s σ H E I hf st go=>by
  subst hP hw hK;obtain⟨⟨old,he⟩,hit⟩:=st;obtain⟨xs,x,hq,hx⟩:=go;obtain⟨its,rv,pl,hz⟩:=I.list hq;have hL:s.heap.IsList a its.toArray:=pl.isList;obtain⟨oa,ha,hca,_⟩:=id hL;have hea:e≠a:=by rintro rfl;rw[he]at ha;cases ha;exact absurd (show Value.type "enumerate"=Value.type _ from hca) (by decide)
  have hia:a≠it:=by rintro rfl;obtain⟨o,h2,h3,_⟩:=id hit;rw[h2]at ha;cases ha;rw[h3]at hca;exact absurd hca (by decide)
  have hlt:i<its.toArray.size:=by rw[size_toArray,<-rv.length];exact(List.getElem?_eq_some_iff.mp hx).1
  refine wpAny_pyNext_enum_itemD (QW (show X.A.in1.handled=none from I.ok.hd hc) it a hia its.toArray) he ⟨hit,hL⟩ hlt hei (by simp[hei,hea]) fun y h' tk hy heo hst ht hsz kp=>?_;refine⟨_,rfl,wpAny_letOwnedTupleGo_enum heo fun h'' GK sb=>?_⟩;obtain⟨u,hu1,hu2⟩:=rv.get hx;have hyu:y=u:=by
   have hy:its[i]?=some y:=by simpa using hy
   rw[hu1]at hy;cases hy;rfl
  subst hyu;have hT:∀b∈[e,it],b≠s.heap.objs.size:=fun b hb=>by
   rcases mem_cons.mp hb with rfl|hb;.exact ne_of_lt (lt_size he)
   . have:b=it:=by simpa using hb
     subst this;obtain⟨o,h2,_⟩:=id hit;exact ne_of_lt (lt_size h2)
  have hTe:s.heap.objs.size≠e:=(hT e (by simp)).symm;have Tv:∀b o,b∉[e,it]->s.heap.get? b=some o->h''.get? b=some o:=fun b o hb q=>by have h1:b≠e:=fun z=>hb (by simp[z]);have h2:b≠it:=fun z=>hb (by simp[z]);exact sb.extBut b o h1 (kp b o h1 h2 q)
  have vU:h''.get? s.heap.objs.size=some {cls:=.type "tuple",data:=.seq #[.int i tk,y]}:=sb.extBut _ _ hTe ht;refine⟨.ref s.heap.objs.size,upd H s.heap.objs.size (.tup [.int (i:Int),x]),?_,rfl,⟨_,x,I.fresh,rfl,rfl,fun ys hys=>?_⟩,⟨⟨_,GK⟩,?_⟩,fun b hb=>?_⟩
  . refine I.wA (ch:=[e,it]) (t':=tk+1) Tv (fun b hb=>?_) (fun b hb=>(hf b hb)) ⟨(by show 2<=sizeLine;decide),[.int i tk,y],.cons ⟨_,rfl⟩ (.cons hu2 .nil),⟨_,vU,rfl,_,rfl⟩⟩;rcases mem_cons.mp hb with rfl|hb;.exact⟨_,GK⟩
    . have:b=it:=by simpa using hb
      subst this;obtain⟨o,h2,_⟩:=id hst.1;exact⟨o,sb.extBut _ _ (Ne.symm hei) h2⟩
  .rw[I.lG hys hq];exact hx
  .obtain⟨o,h2,r⟩:=hst.1;exact⟨o,sb.extBut _ _ (Ne.symm hei) h2,r⟩
  .rw[aC (hT b hb)];exact(hf b hb).1
 done:=fun X hP hw hK hc i pins s σ H E I hf st stop=>by subst hP hw hK;obtain⟨⟨old,he⟩,hit⟩:=st;obtain⟨xs,hq,hx⟩:=stop;obtain⟨its,rv,pl,hz⟩:=I.list hq;have hL:s.heap.IsList a its.toArray:=pl.isList;refine wpAny_pyNext_enum_endD (Aq (show X.A.in1.handled=none from I.ok.hd hc) it a its.toArray i (by rw[size_toArray,<-rv.length];exact hx)) he ⟨rfl,hit,hL⟩ fun h' hs=>⟨rfl,?_⟩;have f:=hf it (by simp);exact I.turned (t':=s.toks) (fun b o hb q=>hs b o hb q) f.1 f.2.1 f.2.2.2.1 f.2.2.2.2.1 f.2.2.2.2.2
 self:=fun A i s Q E st q=>wpAny_pyIter_enum st.1.choose_spec q
noncomputable def xO(K:PySem.W.Frag)(a:Addr):It:=⟨fun i H=>∃xs x,gO K H a xs/\xs[i]?=some x,fun i H x H'=>∃T v,H T=none/\x=.ref T/\H'=upd H T (.tup [.int (i:Int),v])/\∀xs,gO K H a xs->xs[i]?=some v,fun i H=>∃xs,gO K H a xs/\xs.length<=i⟩
theorem NZ{prog:Program}{w:World}{A:Around}(hh:A.handled=none)(it l:Addr)(hne:l≠it)(items:Array Value):Draws prog w A it [it,l] items.size (fun i v=>items[i]?=some v) (fun i h=>h.IsTupleIter it l i/\h.IsTuple l items)where
 live:=fun _ _ st=>let⟨o,ho,_⟩:=st.1;⟨o,ho⟩;frame:=fun _ _ _ st hk=>⟨(let⟨o,ho,r⟩:=st.1;⟨o,hk it (by simp) o ho,r⟩),(let⟨o,ho,r⟩:=st.2;⟨o,hk l (by simp) o ho,r⟩)⟩;item:=fun i s Q E hi st hQ=>by refine gA st.1 st.2 (x:=items[i]) (by simp[hi]) fun h' hit' hs'=>?_;exact hQ _ h' s.toks (by simp[hi]) ⟨hit',(let⟨o,ho,r⟩:=st.2;⟨o,hs'.extBut l o hne ho,r⟩)⟩ hs'
 done:=fun s Q E st hE=>dN hh st.1 st.2 (by simp) hE
theorem Al{prog:Program}{w:World}{A:Around}(hh:A.handled=none)(it l:Addr)(items:Array Value)(n:Nat)(hn:items.size<=n):Draws prog w A it [it,l] n (fun _ _=>True) (fun i h=>i=n/\h.IsTupleIter it l i/\h.IsTuple l items)where live:=fun _ _ st=>let⟨o,ho,_⟩:=st.2.1;⟨o,ho⟩;frame:=fun _ _ _ st hk=>⟨st.1,(let⟨o,ho,r⟩:=st.2.1;⟨o,hk it (by simp) o ho,r⟩),(let⟨o,ho,r⟩:=st.2.2;⟨o,hk l (by simp) o ho,r⟩)⟩;item:=fun i s Q E hi st hQ=>absurd st.1 (ne_of_lt hi);done:=fun s Q E st hE=>dN hh st.2.1 st.2.2 (by simp;exact hn) hE
theorem Bf{P:Program}{w:World}{K:PySem.W.Frag}{elts:List Expr}{x1}{tp:Pos}(a it e:Addr)(hei:e≠it):Turn P w K (.Tuple elts x1 tp) (xO K a) [e,it] e (fun i h=>(∃old,IsEnum h e it (i:Int) old)/\h.IsTupleIter it a i)where
 mem:=by simp
 obj:=fun i h st b hb=>by
  obtain⟨⟨old,h1⟩,o,h2,h3,h4⟩:=st;rcases mem_cons.mp hb with rfl|hb;.exact⟨_,h1,fun v z=>by cases z⟩
  . have:b=it:=by simpa using hb
    subst this;exact⟨o,h2,fun v z=>by rw[h4]at z;cases z⟩
 keep:=fun i h h' st k=>by obtain⟨⟨old,h1⟩,o,h2,h3⟩:=st;exact⟨⟨old,k e (by simp) _ h1⟩,o,k it (by simp) _ h2,h3⟩
 item:=fun X hP hw hK hc i pins s σ H E I hf st go=>by
  subst hP hw hK;obtain⟨⟨old,he⟩,hit⟩:=st;obtain⟨xs,x,hq,hx⟩:=go;obtain⟨its,rv,pl,hz⟩:=I.tuple hq;have hL:s.heap.IsTuple a its.toArray:=pl;obtain⟨oa,ha,hca,_⟩:=id hL;have hea:e≠a:=by rintro rfl;rw[he]at ha;cases ha;exact absurd (show Value.type "enumerate"=Value.type _ from hca) (by decide)
  have hia:a≠it:=by rintro rfl;obtain⟨o,h2,h3,_⟩:=id hit;rw[h2]at ha;cases ha;rw[h3]at hca;exact absurd hca (by decide)
  have hlt:i<its.toArray.size:=by rw[size_toArray,<-rv.length];exact(List.getElem?_eq_some_iff.mp hx).1
  refine wpAny_pyNext_enum_itemD (NZ (show X.A.in1.handled=none from I.ok.hd hc) it a hia its.toArray) he ⟨hit,hL⟩ hlt hei (by simp[hei,hea]) fun y h' tk hy heo hst ht hsz kp=>?_;refine⟨_,rfl,wpAny_letOwnedTupleGo_enum heo fun h'' GK sb=>?_⟩;obtain⟨u,hu1,hu2⟩:=rv.get hx;have hyu:y=u:=by
   have hy:its[i]?=some y:=by simpa using hy
   rw[hu1]at hy;cases hy;rfl
  subst hyu;have hT:∀b∈[e,it],b≠s.heap.objs.size:=fun b hb=>by
   rcases mem_cons.mp hb with rfl|hb;.exact ne_of_lt (lt_size he)
   . have:b=it:=by simpa using hb
     subst this;obtain⟨o,h2,_⟩:=id hit;exact ne_of_lt (lt_size h2)
  have hTe:s.heap.objs.size≠e:=(hT e (by simp)).symm;have Tv:∀b o,b∉[e,it]->s.heap.get? b=some o->h''.get? b=some o:=fun b o hb q=>by have h1:b≠e:=fun z=>hb (by simp[z]);have h2:b≠it:=fun z=>hb (by simp[z]);exact sb.extBut b o h1 (kp b o h1 h2 q)
  have vU:h''.get? s.heap.objs.size=some {cls:=.type "tuple",data:=.seq #[.int i tk,y]}:=sb.extBut _ _ hTe ht;refine⟨.ref s.heap.objs.size,upd H s.heap.objs.size (.tup [.int (i:Int),x]),?_,rfl,⟨_,x,I.fresh,rfl,rfl,fun ys hys=>?_⟩,⟨⟨_,GK⟩,?_⟩,fun b hb=>?_⟩
  . refine I.wA (ch:=[e,it]) (t':=tk+1) Tv (fun b hb=>?_) (fun b hb=>(hf b hb)) ⟨(by show 2<=sizeLine;decide),[.int i tk,y],.cons ⟨_,rfl⟩ (.cons hu2 .nil),⟨_,vU,rfl,_,rfl⟩⟩;rcases mem_cons.mp hb with rfl|hb;.exact⟨_,GK⟩
    . have:b=it:=by simpa using hb
      subst this;obtain⟨o,h2,_⟩:=id hst.1;exact⟨o,sb.extBut _ _ (Ne.symm hei) h2⟩
  .rw[I.jC hys hq];exact hx
  .obtain⟨o,h2,r⟩:=hst.1;exact⟨o,sb.extBut _ _ (Ne.symm hei) h2,r⟩
  .rw[aC (hT b hb)];exact(hf b hb).1
 done:=fun X hP hw hK hc i pins s σ H E I hf st stop=>by subst hP hw hK;obtain⟨⟨old,he⟩,hit⟩:=st;obtain⟨xs,hq,hx⟩:=stop;obtain⟨its,rv,pl,hz⟩:=I.tuple hq;have hL:s.heap.IsTuple a its.toArray:=pl;refine wpAny_pyNext_enum_endD (Al (show X.A.in1.handled=none from I.ok.hd hc) it a its.toArray i (by rw[size_toArray,<-rv.length];exact hx)) he ⟨rfl,hit,hL⟩ fun h' hs=>⟨rfl,?_⟩;have f:=hf it (by simp);exact I.turned (t':=s.toks) (fun b o hb q=>hs b o hb q) f.1 f.2.1 f.2.2.2.1 f.2.2.2.2.1 f.2.2.2.2.2
 self:=fun A i s Q E st q=>wpAny_pyIter_enum st.1.choose_spec q
section
variable{X:Cx}{elts:List Expr}{x1:Nat}{tp:Pos}
def Z2(K:PySem.W.Frag)(tl:TE):TI:=fun σ H R=>tl σ H fun x H1=>∃a,x=.ref a/\(((∃xs,dq K H1 a xs)/\R (xX K a) H1)\/((∃xs,gO K H1 a xs)/\R (xO K a) H1))
theorem boot_enumerate:bootBuiltins "enumerate"=some (.type "enumerate"):=by decide+kernel
theorem PL{a:Expr}{ta:TE}{p pos:Pos}(hg:Gl X "enumerate")(hm:X.mg "enumerate"=none)(ha:PE X a ta)(hs:starEach [a] X.env=[(false,eval a X.env)]:=by rfl):PI X (.Tuple elts x1 tp) (.Call (.Name "enumerate" p) [a] [] pos) (Z2 X.K ta):=by
 intro pins s σ H R I h;refine Call_ (gJ I hg hm boot_enumerate (PyProof.Rows.callWith_type1 (bZ ((cz ha dR hs) pos pins s σ H (fun vs H1=>match vs with|[x]=>∃a,x=.ref a/\(((∃xs,dq X.K H1 a xs)/\R (xX X.K a) H1)\/((∃xs,gO X.K H1 a xs)/\R (xO X.K a) H1))|_=>False) I h) ?_) hs rfl));rintro us s1⟨vs,H1,I1,r1,q1⟩
 . obtain⟨ad,q,vs1⟩:∃ad,(((∃xs,dq X.K H1 ad xs)/\R (xX X.K ad) H1)\/((∃xs,gO X.K H1 ad xs)/\R (xO X.K ad) H1))/\vs=[.ref ad]:=by cases vs with|nil=>cases q1|cons x r=>cases r with|nil=>obtain⟨ad,rfl,q⟩:=q1;exact⟨ad,q,rfl⟩|cons _ _=>cases q1
   subst vs1;obtain⟨u,rfl,ru⟩:=r1.one;cases ru;have fin:∀(h':Heap)(tn:Nat->Heap->Prop)(J:It),Turn X.prog X.w X.K (.Tuple elts x1 tp) J [s1.heap.objs.size+1,s1.heap.objs.size] (s1.heap.objs.size+1) tn->tn 0 h'->IsEnum h' (s1.heap.objs.size+1) s1.heap.objs.size 0 .none->(∀b o,s1.heap.get? b=some o->h'.get? b=some o)->R J H1->wpAny (model X.prog X.w) X.A (pyIter (.ref (s1.heap.objs.size+1))) (PIE X pins σ (.Tuple elts x1 tp) R) X.xe {s1 with heap:=h'}:=fun h' tn J T t0 he kp q=>by
    refine wpAny_pyIter_enum he ⟨_,_,tn,J,H1,rfl,I1.kept (t':=s1.toks) kp,T,t0,fun b hb=>?_,q⟩;have hb':s1.heap.objs.size<=b:=by
     rcases mem_cons.mp hb with rfl|hb;.exact le_succ _
     . have:b=s1.heap.objs.size:=by simpa using hb
       rw[this];exact le_refl _
    exact I1.xY hb' (I1.hok.fresh hb')
   rcases q with⟨⟨xs,hq⟩,q⟩|⟨⟨xs,hq⟩,q⟩;.obtain⟨its,rv,pl,hz⟩:=I1.list hq;exact call_enumerate_list pl.isList fun h' he hi hsz kp=>fin h' _ _ (Bm ad s1.heap.objs.size (s1.heap.objs.size+1) (Nat.succ_ne_self _)) ⟨⟨_,he⟩,hi⟩ he kp q
   .obtain⟨its,rv,pl,hz⟩:=I1.tuple hq;exact jj pl fun h' he hi hsz kp=>fin h' _ _ (Bf ad s1.heap.objs.size (s1.heap.objs.size+1) (Nat.succ_ne_self _)) ⟨⟨_,he⟩,hi⟩ he kp q
end
end L2
namespace HH
open PySem L2 PySem.Spec PyProof.Rows
section
variable{K:PySem.W.Frag}{F F1 H H1:Hp}{ρ ρ1:List Sl}{σ:L2.St}{ds:List D}{a:Addr}
theorem o4{F' H':Hp}{T:Addr}{v w:V}{d1 d2:D}(sm:aG F' H')(hT:H' T=none)(r1:Rep K F' v d1)(r2:Rep K F' w d2):∃F'',Ext F' H' F'' (upd H' T (.tup [v,w]))/\Rep K F'' (.ref T) (.tup [d1,d2]):=yc (Q:=fun v jH=>∃F'',Ext F' H' F'' jH/\Rep K F'' v (.tup [d1,d2])) sm (.cons r1 (.cons r2 .nil)) hT fun v F'' jH x rn=>⟨F'',x,rn⟩
theorem CN{xs:List V}{F' H':Hp}(hq:dq K H' a xs)(r:aF K F' xs ds)(s:aG F' H')(k:Nat):(∀d,(ds.mapIdx fun i d=>D.tup [.int (i:Int),d])[k]?=some d->(xX K a).go k H'/\∀x jH,(xX K a).GD k H' x jH->∃F'',Ext F' H' F'' jH/\Rep K F'' x d)/\((ds.mapIdx fun i d=>D.tup [.int (i:Int),d]).length<=k->(xX K a).stop k H'):=by refine⟨fun d hd=>?_,fun h=>⟨xs,hq,by rw[r.length];simpa using h⟩⟩;rw[List.getElem?_mapIdx]at hd;obtain⟨d0,e1,e2⟩:=map_some hd;subst e2;obtain⟨w,h1,h2⟩:=r.get e1;refine⟨⟨xs,w,hq,h1⟩,?_⟩;rintro x jH⟨T,v,hT,hx,hH,y⟩;subst hx;subst hH;have:=y xs hq;rw[h1]at this;cases this;exact o4 s hT (cj _) h2
theorem Df{xs:List V}{F' H':Hp}(hq:gO K H' a xs)(r:aF K F' xs ds)(s:aG F' H')(k:Nat):(∀d,(ds.mapIdx fun i d=>D.tup [.int (i:Int),d])[k]?=some d->(xO K a).go k H'/\∀x jH,(xO K a).GD k H' x jH->∃F'',Ext F' H' F'' jH/\Rep K F'' x d)/\((ds.mapIdx fun i d=>D.tup [.int (i:Int),d]).length<=k->(xO K a).stop k H'):=by refine⟨fun d hd=>?_,fun h=>⟨xs,hq,by rw[r.length];simpa using h⟩⟩;rw[List.getElem?_mapIdx]at hd;obtain⟨d0,e1,e2⟩:=map_some hd;subst e2;obtain⟨w,h1,h2⟩:=r.get e1;refine⟨⟨xs,w,hq,h1⟩,?_⟩;rintro x jH⟨T,v,hT,hx,hH,y⟩;subst hx;subst hH;have:=y xs hq;rw[h1]at this;cases this;exact o4 s hT (cj _) h2
end
section
variable{X:Cx}{c:Call}{e a:Expr}{pa:P}{pos:Pos}{elts:List Expr}{x1:Nat}{tp:Pos}
theorem CP{x:Str}{p':Pos}(hx:x="enumerate")(hg:Gl X x)(hm:X.mg x=none)(ha:SX X c a pa)(hs:starEach [a] X.env=[(false,eval a X.env)]:=by rfl):SI X c (.Tuple elts x1 tp) (.Call (.Name x p') [a] [] pos) (.Tt pa):=by subst hx;refine mU (PL hg hm ha.ev hs) ?_;rintro σ H R⟨F,ρ,ds,ρ1,g,e,k⟩;obtain⟨r,ρ2,e1,e2⟩:=ak e;have zz:=aD e2;clear e2;obtain⟨e2,e3⟩:=zz;subst e3;rw[HH.E21]at e1;obtain⟨r0,ρ3,e4,e5⟩:=ak e1;have zz:=aD e5;clear e5;obtain⟨e5,e6⟩:=zz;subst e6;obtain⟨es,f1,f2⟩:=map_some e5;subst f2;cases e2;refine⟨F,ρ,r0,_,g,e4,fun v F' H' s rr=>?_⟩;obtain⟨F2,s2,_,rp⟩:=s.cW rr;cases hd:r0.d with|tup es'=>rw[hd]at f1 rp;cases f1;rw[Rep]at rp;obtain⟨ad,xs,rfl,h1,h2⟩:=rp;exact⟨ad,rfl,.inr ⟨⟨xs,aG.fW s2.gs.sub h1⟩,k _ _ _ ⟨s2.gs,fun n k F' ρ' σ' H' s'=>Df (aG.fW s'.gs.sub (aG.fW s'.bU h1)) (h2.mono s'.bU) s'.gs.sub k,fun F3 ρ3 σ3 H3 s3=>⟨s2.trans s3,fun v r rr=>rr.later s2⟩⟩⟩⟩|lst es'=>rw[hd]at f1 rp;cases f1;rw[Rep]at rp;obtain⟨ad,xs,rfl,h1,h2⟩:=rp;exact⟨ad,rfl,.inl ⟨⟨xs,s2.gs.sub.seq h1⟩,k _ _ _ ⟨s2.gs,fun n k F' ρ' σ' H' s'=>CN (s'.gs.sub.seq (s'.bU.seq h1)) (h2.mono s'.bU) s'.gs.sub k,fun F3 ρ3 σ3 H3 s3=>⟨s2.trans s3,fun v r rr=>rr.later s2⟩⟩⟩⟩|_=>rw[hd]at f1;cases f1
end
end HH
end
section
namespace PySem
structure Nx(prog:Program)(w:World)(A:Around)(it src:Addr)(Sx:Nat->Heap->Prop)(get:Nat->Option Value):Prop where
 obj:∀k h,Sx k h->∃o,h.get? it=some o/\∀v,o.data≠.cell v
 keep:∀k h h',Sx k h->(∀o,h.get? it=some o->h'.get? it=some o)->(∀o,h.get? src=some o->h'.get? src=some o)->Sx k h'
 item:∀k(s:Shared)(Q:Value->Shared->Prop)(E:Value->Shared->Prop)x,Sx k s.heap->get k=some x->(∀h',Sx (k+1) h'->SameBut it s.heap h'->Q x {s with heap:=h'})->wpAny (model prog w) A (nextOf (.ref it)) Q E s
 fin:∀k(s:Shared)(Q:Value->Shared->Prop)(E:Value->Shared->Prop),Sx k s.heap->get k=none->(∀h' e,Heap.ExtBut it s.heap h'->(∃o,h'.get? e=some o/\o.cls=.type "StopIteration")->E (.ref e) {s with heap:=h'})->wpAny (model prog w) A (nextOf (.ref it)) Q E s
section
variable{prog:Program}{w:World}{A:Around}{E:Value->Shared->Prop}{s:Shared}
theorem Nx.list(hh:A.handled=none)(it l:Addr)(hne:l≠it)(items:Array Value):Nx prog w A it l (fun k h=>h.IsListIter it l k/\h.IsList l items) (fun k=>items[k]?)where obj:=fun k h st=>let⟨o,h1,_,h3⟩:=st.1;⟨o,h1,fun v z=>by rw[h3]at z;cases z⟩;keep:=fun k h h' st a b=>⟨(let⟨o,ho,r⟩:=st.1;⟨o,a o ho,r⟩),(let⟨o,ho,r⟩:=st.2;⟨o,b o ho,r⟩)⟩;item:=fun k s Q E x st hx hQ=>wpAny_nextOf_list_item st.1 st.2 hx fun h' hit hs=>hQ h' ⟨hit,(let⟨o,ho,r⟩:=st.2;⟨o,hs.extBut l o hne ho,r⟩)⟩ hs;fin:=fun k s Q E st hx hE=>wpAny_nextOf_list_end hh st.1 st.2 hx hE
theorem Nx.tuple(hh:A.handled=none)(it l:Addr)(hne:l≠it)(items:Array Value):Nx prog w A it l (fun k h=>h.IsTupleIter it l k/\h.IsTuple l items) (fun k=>items[k]?)where obj:=fun k h st=>let⟨o,h1,_,h3⟩:=st.1;⟨o,h1,fun v z=>by rw[h3]at z;cases z⟩;keep:=fun k h h' st a b=>⟨(let⟨o,ho,r⟩:=st.1;⟨o,a o ho,r⟩),(let⟨o,ho,r⟩:=st.2;⟨o,b o ho,r⟩)⟩;item:=fun k s Q E x st hx hQ=>gA st.1 st.2 hx fun h' hit hs=>hQ h' ⟨hit,(let⟨o,ho,r⟩:=st.2;⟨o,hs.extBut l o hne ho,r⟩)⟩ hs;fin:=fun k s Q E st hx hE=>dN hh st.1 st.2 hx hE
variable{z TI TO i1 i2 l1 l2:Addr}{k:Nat}{S1 S2:Nat->Heap->Prop}{g1 g2:Nat->Option Value}{a b:Value}
theorem Bb{x y:Value}{Q:Value->Shared->Prop}(D:ZipApart z TI TO i1 i2 l1 l2)(N1:Nx prog w A i1 l1 S1 g1)(N2:Nx prog w A i2 l2 S2 g2)(hz:IsZip s.heap z TI TO .none)(hTI:IsPair s.heap TI (.ref i1) (.ref i2))(hTO:IsPair s.heap TO a b)(h1:S1 k s.heap)(h2:S2 k s.heap)(hx:g1 k=some x)(hy:g2 k=some y)(hQ:∀ h',IsZip h' z TI TO (rawInt s.heap.objs.size)->IsPair h' TO x y->S1 (k+1) h'->S2 (k+1) h'->IsPair h' s.heap.objs.size x y->h'.objs.size=s.heap.objs.size+1->(∀c o,c≠z->c≠TO->c≠i1->c≠i2->s.heap.get? c=some o->h'.get? c=some o)->Q (.ref s.heap.objs.size) {s with heap:=h'}):wpAny (model prog w) A (Builtin.«zip.__next__» ⟨[.ref z],[]⟩) (fun fin s'=>∃v,fin=.done (.ret v)/\Q v s') E s:=by
 show wpAny _ _ (field (.ref z) 2>>=_) _ _ _;refine wpAny_bind (wpAny_field hz rfl (x:=.bool false) rfl ?_);show wpAny _ _ (field (.ref z) 3>>=_) _ _ _;refine wpAny_bind (wpAny_field hz rfl (x:=.ref TI) rfl (wpAny_bind (wpAny_seqItems hTI rfl ?_)));show wpAny _ _ (ownedTupleIsFree (.ref z)>>=_) _ _ _;refine wpAny_bind ?_;unfold ownedTupleIsFree;refine wpAny_bind (wpAny_field hz rfl (x:=.none) rfl (wpAny_pure ?_));simp only[if_true];refine wpAny_bind (wpAny_rule (wpAny_bind (wpAny_field hz rfl (x:=.ref TO) rfl (wpAny_bind (wpAny_setField_rec hz (by simp) fun t1 z1 yf=>?_)))));have z1:IsZip t1 z TI TO .ellipsis:=z1;refine wpAny_bind ?_;simp only[List.zipIdx_cons,List.zipIdx_nil,forIn_cons,forIn_nil];refine wpAny_bind (wpAny_bind (wpAny_onRaise ?_));show wpAny _ _ (nextOf (.ref i1)>>=_) _ _ _;have q1:S1 k t1:=N1.keep _ _ _ h1 (fun o e=>yf.extBut _ _ D.i1z e) fun o e=>yf.extBut _ _ D.l1z e;refine wpAny_bind (N1.item k _ _ _ x q1 hx fun t2 q2 yg=>wpAny_pure ?_);have p2:IsPair t2 TO a b:=yg.extBut _ _ D.TOi1 (yf.extBut _ _ D.TOz hTO);refine wpAny_bind (wpAny_seqItems p2 rfl (wpAny_bind (wpAny_updateSeq_pair p2 fun t3 p3 yh=>?_)));have p3:IsPair t3 TO x b:=p3;refine wpAny_bind (wpAny_letGo (wpAny_pure (wpAny_bind (wpAny_bind (wpAny_onRaise ?_)))));show wpAny _ _ (nextOf (.ref i2)>>=_) _ _ _;have w3:S2 k t3:=N2.keep _ _ _ h2 (fun o e=>yh.extBut _ _ D.TOi2.symm (yg.extBut _ _ D.i12.symm (yf.extBut _ _ D.i2z e))) fun o e=>yh.extBut _ _ D.l2TO (yg.extBut _ _ D.l2i1 (yf.extBut _ _ D.l2z e));refine wpAny_bind (N2.item k _ _ _ y w3 hy fun t4 w4 Ka=>wpAny_pure ?_);have p4:IsPair t4 TO x b:=Ka.extBut _ _ D.TOi2 p3;refine wpAny_bind (wpAny_seqItems p4 rfl (wpAny_bind (wpAny_updateSeq_pair p4 fun t5 p5 Hd=>?_)));have p5:IsPair t5 TO x y:=p5;refine wpAny_bind (wpAny_letGo (wpAny_pure (wpAny_pure (wpAny_bind (wpAny_seqItems p5 rfl (wpAny_bind (wpAny_newTuple ?_)))))));have hsz:t5.objs.size=s.heap.objs.size:=by rw[Hd.1,Ka.1,yh.1,yg.1,yf.1]
 have z5:IsZip t5 z TI TO .ellipsis:=Hd.extBut _ _ D.TOz.symm (Ka.extBut _ _ D.i2z.symm (yh.extBut _ _ D.TOz.symm (yg.extBut _ _ D.i1z.symm z1)));have kp:∀c o,c≠z->c≠TO->c≠i1->c≠i2->s.heap.get? c=some o->t5.get? c=some o:=fun c o c1 c2 c3 c4 e=>Hd.extBut _ _ c2 (Ka.extBut _ _ c4 (yh.extBut _ _ c2 (yg.extBut _ _ c3 (yf.extBut _ _ c1 e))));have q5:S1 (k+1) t5:=N1.keep _ _ _ q2 (fun o e=>Hd.extBut _ _ D.TOi1.symm (Ka.extBut _ _ D.i12 (yh.extBut _ _ D.TOi1.symm e))) fun o e=>Hd.extBut _ _ D.l1TO (Ka.extBut _ _ D.l1i2 (yh.extBut _ _ D.l1TO e));have w5:S2 (k+1) t5:=N2.keep _ _ _ w4 (fun o e=>Hd.extBut _ _ D.TOi2.symm e) fun o e=>Hd.extBut _ _ D.l2TO e;have zlt:z<t5.objs.size:=lt_size z5;show wpAny _ _ (ownedTupleHandOut (.ref z) (.ref t5.objs.size)>>=_) _ _ _;refine wpAny_bind ?_;unfold ownedTupleHandOut;have z6:IsZip (t5.push {cls:=.type "tuple",data:=.seq #[x,y]}) z TI TO .ellipsis:=get?_push_of_some _ z5;refine wpAny_bind (wpAny_setField_rec z6 (by simp) fun t7 z7 sb7=>?_);have z7:IsZip t7 z TI TO (rawInt t5.objs.size):=z7;refine wpAny_setField_rec z7 (by simp) fun t8 z8 sb8=>?_;have z8:IsZip t8 z TI TO (rawInt t5.objs.size):=z8;have up:∀c o,c≠z->t5.get? c=some o->t8.get? c=some o:=fun c o c1 e=>sb8.extBut _ _ c1 (sb7.extBut _ _ c1 (get?_push_of_some _ e));have T8:IsPair t8 t5.objs.size x y:=sb8.extBut _ _ (ne_of_gt zlt) (sb7.extBut _ _ (ne_of_gt zlt) (get?_push_size _ rfl));have n8:t8.objs.size=t5.objs.size+1:=by rw[sb8.1,sb7.1,size_push]
 rw[hsz]at z8 T8 n8;refine wpAny_pure ⟨_,rfl,?_⟩;show Q (.ref t5.objs.size) _;rw[hsz];exact hQ t8 z8 (up _ _ D.TOz p5) (N1.keep _ _ _ q5 (fun o e=>up _ o D.i1z e) fun o e=>up _ o D.l1z e) (N2.keep _ _ _ w5 (fun o e=>up _ o D.i2z e) fun o e=>up _ o D.l2z e) T8 n8 fun c o c1 c2 c3 c4 e=>up c o c1 (kp c o c1 c2 c3 c4 e)
theorem Gu{Q:Fin->Shared->Prop}(D:ZipApart z TI TO i1 i2 l1 l2)(N1:Nx prog w A i1 l1 S1 g1)(N2:Nx prog w A i2 l2 S2 g2)(hz:IsZip s.heap z TI TO .none)(hTI:IsPair s.heap TI (.ref i1) (.ref i2))(hTO:IsPair s.heap TO a b)(h1:S1 k s.heap)(h2:S2 k s.heap)(hend:g1 k=none\/g2 k=none)(hE:∀h' e,(∀c o,c≠z->c≠TO->c≠i1->c≠i2->s.heap.get? c=some o->h'.get? c=some o)->(∃o,h'.get? e=some o/\o.cls=.type "StopIteration")->E (.ref e) {s with heap:=h'}):wpAny (model prog w) A (Builtin.«zip.__next__» ⟨[.ref z],[]⟩) Q E s:=by
 show wpAny _ _ (field (.ref z) 2>>=_) _ _ _;refine wpAny_bind (wpAny_field hz rfl (x:=.bool false) rfl ?_);show wpAny _ _ (field (.ref z) 3>>=_) _ _ _;refine wpAny_bind (wpAny_field hz rfl (x:=.ref TI) rfl (wpAny_bind (wpAny_seqItems hTI rfl ?_)));show wpAny _ _ (ownedTupleIsFree (.ref z)>>=_) _ _ _;refine wpAny_bind ?_;unfold ownedTupleIsFree;refine wpAny_bind (wpAny_field hz rfl (x:=.none) rfl (wpAny_pure ?_));simp only[if_true];refine wpAny_bind (wpAny_rule (wpAny_bind (wpAny_field hz rfl (x:=.ref TO) rfl (wpAny_bind (wpAny_setField_rec hz (by simp) fun t1 z1 yf=>?_)))));have z1:IsZip t1 z TI TO .ellipsis:=z1;refine wpAny_bind ?_;simp only[List.zipIdx_cons,List.zipIdx_nil,forIn_cons,forIn_nil];refine wpAny_bind (wpAny_bind (wpAny_onRaise ?_))
 show wpAny _ _ (nextOf (.ref i1)>>=_) _ _ _;have q1:S1 k t1:=N1.keep _ _ _ h1 (fun o e=>yf.extBut _ _ D.i1z e) fun o e=>yf.extBut _ _ D.l1z e;cases hx:g1 k with|none=>
   refine wpAny_bind (N1.fin k _ _ _ q1 hx fun t2 e yg he=>?_);obtain⟨oe,hoe,hce⟩:=he;have z2:IsZip t2 z TI TO .ellipsis:=yg _ _ D.i1z.symm z1;have hez:e≠z:=fun x=>by subst x;rw[z2]at hoe;cases hoe;simp at hce
   exact wpAny_setField_rec z2 (by simp) fun t3 _ yh=>hE t3 e (fun c o c1 _ c3 _ x=>yh.extBut _ _ c1 (yg _ _ c3 (yf.extBut _ _ c1 x))) ⟨oe,yh.extBut _ _ hez hoe,hce⟩|some x=>
   have hy:g2 k=none:=by rcases hend with h|h;rw[hx]at h;cases h;exact h
   refine wpAny_bind (N1.item k _ _ _ x q1 hx fun t2 q2 yg=>wpAny_pure ?_);have p2:IsPair t2 TO a b:=yg.extBut _ _ D.TOi1 (yf.extBut _ _ D.TOz hTO);refine wpAny_bind (wpAny_seqItems p2 rfl (wpAny_bind (wpAny_updateSeq_pair p2 fun t3 p3 yh=>?_)));refine wpAny_bind (wpAny_letGo (wpAny_pure (wpAny_bind (wpAny_bind (wpAny_onRaise ?_)))));show wpAny _ _ (nextOf (.ref i2)>>=_) _ _ _;have w3:S2 k t3:=N2.keep _ _ _ h2 (fun o e=>yh.extBut _ _ D.TOi2.symm (yg.extBut _ _ D.i12.symm (yf.extBut _ _ D.i2z e))) fun o e=>yh.extBut _ _ D.l2TO (yg.extBut _ _ D.l2i1 (yf.extBut _ _ D.l2z e));refine wpAny_bind (N2.fin k _ _ _ w3 hy fun t4 e Ka he=>?_);obtain⟨oe,hoe,hce⟩:=he;have z4:IsZip t4 z TI TO .ellipsis:=Ka _ _ D.i2z.symm (yh.extBut _ _ D.TOz.symm (yg.extBut _ _ D.i1z.symm z1));have hez:e≠z:=fun x=>by subst x;rw[z4]at hoe;cases hoe;simp at hce
   exact wpAny_setField_rec z4 (by simp) fun t5 _ Hd=>hE t5 e (fun c o c1 c2 c3 c4 x=>Hd.extBut _ _ c1 (Ka _ _ c4 (yh.extBut _ _ c2 (yg.extBut _ _ c3 (yf.extBut _ _ c1 x))))) ⟨oe,Hd.extBut _ _ hez hoe,hce⟩
theorem mK{x y:Value}{Q:Option Value->Shared->Prop}(D:ZipApart z TI TO i1 i2 l1 l2)(N1:Nx prog w A.in1 i1 l1 S1 g1)(N2:Nx prog w A.in1 i2 l2 S2 g2)(hz:IsZip s.heap z TI TO .none)(hTI:IsPair s.heap TI (.ref i1) (.ref i2))(hTO:IsPair s.heap TO a b)(h1:S1 k s.heap)(h2:S2 k s.heap)(hx:g1 k=some x)(hy:g2 k=some y)(hQ:∀ h',IsZip h' z TI TO (rawInt s.heap.objs.size)->IsPair h' TO x y->S1 (k+1) h'->S2 (k+1) h'->IsPair h' s.heap.objs.size x y->h'.objs.size=s.heap.objs.size+1->(∀c o,c≠z->c≠TO->c≠i1->c≠i2->s.heap.get? c=some o->h'.get? c=some o)->Q (some (.ref s.heap.objs.size)) {s with heap:=h'}):wpAny (model prog w) A (pyNext (.ref z)) Q E s:=by have hT:s.TypeIs (.ref z) "zip":=⟨_,hz,rfl⟩;unfold pyNext;exact wpAny_bind (wpAny_attempt (wpAny_callSpecial?_slot (name:=Str.ofString "__next__") hT F.slot_zip_next (wpAny_call_entry F.slot_zip_next hT F.entry_zip_next (Bb D N1 N2 hz hTI hTO h1 h2 hx hy fun h' a1 a2 a3 a4 a5 a6 a7=>wpAny_pure (hQ h' a1 a2 a3 a4 a5 a6 a7)) (F.args_zip_next_1 _))))
theorem m9{Q:Option Value->Shared->Prop}(D:ZipApart z TI TO i1 i2 l1 l2)(N1:Nx prog w A.in1 i1 l1 S1 g1)(N2:Nx prog w A.in1 i2 l2 S2 g2)(hz:IsZip s.heap z TI TO .none)(hTI:IsPair s.heap TI (.ref i1) (.ref i2))(hTO:IsPair s.heap TO a b)(h1:S1 k s.heap)(h2:S2 k s.heap)(hend:g1 k=none\/g2 k=none)(hQ:∀h',(∀c o,c≠z->c≠TO->c≠i1->c≠i2->s.heap.get? c=some o->h'.get? c=some o)->Q none {s with heap:=h'}):wpAny (model prog w) A (pyNext (.ref z)) Q E s:=by have hT:s.TypeIs (.ref z) "zip":=⟨_,hz,rfl⟩;unfold pyNext;refine wpAny_bind (wpAny_attempt (wpAny_callSpecial?_slot (name:=Str.ofString "__next__") hT F.slot_zip_next (wpAny_call_entry F.slot_zip_next hT F.entry_zip_next (Gu D N1 N2 hz hTI hTO h1 h2 hend fun h' e hk he=>?_) (F.args_zip_next_1 _))));obtain⟨o,ho,hc⟩:=he;exact wpAny_bind (wpAny_isInstance (T:="StopIteration") (b:=true) ⟨o,ho,hc⟩ isSubtype_stop (wpAny_pure (hQ _ hk)))
end
theorem nj(l1 l2:Addr)(xs ys:Array Value):Meets (Builtin.«zip.__new__» ⟨[.type "zip",.ref l1,.ref l2],[]⟩) (fun _ R s=>s.heap.IsList l1 xs/\s.heap.IsList l2 ys/\R (.ok (.ret (.ref (s.heap.objs.size+4)))) {s with heap:=((((s.heap.push {cls:=.type "list_iterator",data:=.fields #[.ref l1,.int 0 0]}).push {cls:=.type "list_iterator",data:=.fields #[.ref l2,.int 0 0]}).push {cls:=.type "tuple",data:=.seq #[.ref s.heap.objs.size,.ref (s.heap.objs.size+1)]}).push {cls:=.type "tuple",data:=.seq #[.none,.none]}).push {cls:=.type "zip",data:=.fields #[.none,.bool false,.bool false,.ref (s.heap.objs.size+2),.ref (s.heap.objs.size+3)]}}):=.of_wp fun prog w A R s h=>by obtain⟨hp,g,d,tk,os⟩:=s;obtain⟨hl1,hl2,h⟩:=h;have hsub:=sub_zip;have hL1:IsList (Shared.heap ⟨hp,g,d,tk,os⟩) l1 xs:=hl1;have hL2:IsList (Shared.heap ⟨hp.push {cls:=.type "list_iterator",data:=.fields #[.ref l1,.int 0 0]},g,d,tk,os⟩) l2 ys:=Heap.IsList.push hl2 _;wp_walk using wpAny_pyIter_list hL1,wpAny_pyIter_list hL2;simp only[size_push]at*;exact⟨_,rfl,h⟩
section
variable{prog:Program}{w:World}{A:Around}{E:Value->Shared->Prop}{s:Shared}
theorem xj{l1 l2:Addr}{xs ys:Array Value}{Q:Value->Shared->Prop}(hl1:s.heap.IsList l1 xs)(hl2:s.heap.IsList l2 ys)(h:∀ h',IsZip h' (s.heap.objs.size+4) (s.heap.objs.size+2) (s.heap.objs.size+3) .none->IsPair h' (s.heap.objs.size+2) (.ref s.heap.objs.size) (.ref (s.heap.objs.size+1))->IsPair h' (s.heap.objs.size+3) .none .none->h'.IsListIter s.heap.objs.size l1 0->h'.IsListIter (s.heap.objs.size+1) l2 0->(∀c o,s.heap.get? c=some o->h'.get? c=some o)->Q (.ref (s.heap.objs.size+4)) {s with heap:=h'}):wpAny (model prog w) A (call (.type "zip") [.ref l1,.ref l2]) Q E s:=by
 refine callType_new F.called_zip (by decide) (F.typeCall_zip_2 _ _) (F.newCall_zip_2 _ _) (fun obj=>F.args_object_init_3 obj _ _) F.entry_zip_new (nj l1 l2 xs ys) ⟨hl1,hl2,?_⟩;generalize e1:s.heap.push {cls:=.type "list_iterator",data:=.fields #[.ref l1,.int 0 0]}=t1;have n1:t1.objs.size=s.heap.objs.size+1:=by rw[<-e1,size_push]
 have a1:t1.get? s.heap.objs.size=some {cls:=.type "list_iterator",data:=.fields #[.ref l1,.int 0 0]}:=by rw[<-e1];exact get?_push_size _ rfl
 have k1:∀c o,s.heap.get? c=some o->t1.get? c=some o:=fun c o e=>by rw[<-e1];exact get?_push_of_some _ e
 generalize e2:t1.push {cls:=.type "list_iterator",data:=.fields #[.ref l2,.int 0 0]}=t2;have n2:t2.objs.size=s.heap.objs.size+2:=by rw[<-e2,size_push,n1]
 have a2:t2.get? (s.heap.objs.size+1)=some {cls:=.type "list_iterator",data:=.fields #[.ref l2,.int 0 0]}:=by rw[<-n1,<-e2];exact get?_push_size _ rfl
 have k2:∀c o,t1.get? c=some o->t2.get? c=some o:=fun c o e=>by rw[<-e2];exact get?_push_of_some _ e
 generalize e3:t2.push {cls:=.type "tuple",data:=.seq #[.ref s.heap.objs.size,.ref (s.heap.objs.size+1)]}=t3;have n3:t3.objs.size=s.heap.objs.size+3:=by rw[<-e3,size_push,n2]
 have a3:t3.get? (s.heap.objs.size+2)=some {cls:=.type "tuple",data:=.seq #[.ref s.heap.objs.size,.ref (s.heap.objs.size+1)]}:=by rw[<-n2,<-e3];exact get?_push_size _ rfl
 have k3:∀c o,t2.get? c=some o->t3.get? c=some o:=fun c o e=>by rw[<-e3];exact get?_push_of_some _ e
 generalize e4:t3.push {cls:=.type "tuple",data:=.seq #[.none,.none]}=t4;have n4:t4.objs.size=s.heap.objs.size+4:=by rw[<-e4,size_push,n3]
 have a4:t4.get? (s.heap.objs.size+3)=some {cls:=.type "tuple",data:=.seq #[.none,.none]}:=by rw[<-n3,<-e4];exact get?_push_size _ rfl
 have k4:∀c o,t3.get? c=some o->t4.get? c=some o:=fun c o e=>by rw[<-e4];exact get?_push_of_some _ e
 generalize e5:t4.push {cls:=.type "zip",data:=.fields #[.none,.bool false,.bool false,.ref (s.heap.objs.size+2),.ref (s.heap.objs.size+3)]}=t5;have a5:t5.get? (s.heap.objs.size+4)=some {cls:=.type "zip",data:=.fields #[.none,.bool false,.bool false,.ref (s.heap.objs.size+2),.ref (s.heap.objs.size+3)]}:=by rw[<-n4,<-e5];exact get?_push_size _ rfl
 have k5:∀c o,t4.get? c=some o->t5.get? c=some o:=fun c o e=>by rw[<-e5];exact get?_push_of_some _ e
 exact⟨⟨_,a5,rfl⟩,h t5 a5 (k5 _ _ (k4 _ _ a3)) (k5 _ _ a4) ⟨_,k5 _ _ (k4 _ _ (k3 _ _ (k2 _ _ a1))),rfl,rfl⟩ ⟨_,k5 _ _ (k4 _ _ (k3 _ _ a2)),rfl,rfl⟩ fun c o e=>k5 _ _ (k4 _ _ (k3 _ _ (k2 _ _ (k1 _ _ e))))⟩
end
theorem m8(l1 l2:Addr)(xs ys:Array Value):Meets (Builtin.«zip.__new__» ⟨[.type "zip",.ref l1,.ref l2],[]⟩) (fun _ R s=>s.heap.IsList l1 xs/\s.heap.IsTuple l2 ys/\R (.ok (.ret (.ref (s.heap.objs.size+4)))) {s with heap:=((((s.heap.push {cls:=.type "list_iterator",data:=.fields #[.ref l1,.int 0 0]}).push {cls:=.type "tuple_iterator",data:=.fields #[.ref l2,.int 0 0]}).push {cls:=.type "tuple",data:=.seq #[.ref s.heap.objs.size,.ref (s.heap.objs.size+1)]}).push {cls:=.type "tuple",data:=.seq #[.none,.none]}).push {cls:=.type "zip",data:=.fields #[.none,.bool false,.bool false,.ref (s.heap.objs.size+2),.ref (s.heap.objs.size+3)]}}):=.of_wp fun prog w A R s h=>by obtain⟨hp,g,d,tk,os⟩:=s;obtain⟨hl1,hl2,h⟩:=h;have hsub:=sub_zip;have hL1:IsList (Shared.heap ⟨hp,g,d,tk,os⟩) l1 xs:=hl1;have hL2:IsTuple (Shared.heap ⟨hp.push {cls:=.type "list_iterator",data:=.fields #[.ref l1,.int 0 0]},g,d,tk,os⟩) l2 ys:=Heap.IsTuple.push hl2 _;wp_walk using wpAny_pyIter_list hL1,wpAny_pyIter_tuple hL2;simp only[size_push]at*;exact⟨_,rfl,h⟩
section
variable{prog:Program}{w:World}{A:Around}{E:Value->Shared->Prop}{s:Shared}
theorem xm{l1 l2:Addr}{xs ys:Array Value}{Q:Value->Shared->Prop}(hl1:s.heap.IsList l1 xs)(hl2:s.heap.IsTuple l2 ys)(h:∀ h',IsZip h' (s.heap.objs.size+4) (s.heap.objs.size+2) (s.heap.objs.size+3) .none->IsPair h' (s.heap.objs.size+2) (.ref s.heap.objs.size) (.ref (s.heap.objs.size+1))->IsPair h' (s.heap.objs.size+3) .none .none->h'.IsListIter s.heap.objs.size l1 0->h'.IsTupleIter (s.heap.objs.size+1) l2 0->(∀c o,s.heap.get? c=some o->h'.get? c=some o)->Q (.ref (s.heap.objs.size+4)) {s with heap:=h'}):wpAny (model prog w) A (call (.type "zip") [.ref l1,.ref l2]) Q E s:=by
 refine callType_new F.called_zip (by decide) (F.typeCall_zip_2 _ _) (F.newCall_zip_2 _ _) (fun obj=>F.args_object_init_3 obj _ _) F.entry_zip_new (m8 l1 l2 xs ys) ⟨hl1,hl2,?_⟩;generalize e1:s.heap.push {cls:=.type "list_iterator",data:=.fields #[.ref l1,.int 0 0]}=t1;have n1:t1.objs.size=s.heap.objs.size+1:=by rw[<-e1,size_push]
 have a1:t1.get? s.heap.objs.size=some {cls:=.type "list_iterator",data:=.fields #[.ref l1,.int 0 0]}:=by rw[<-e1];exact get?_push_size _ rfl
 have k1:∀c o,s.heap.get? c=some o->t1.get? c=some o:=fun c o e=>by rw[<-e1];exact get?_push_of_some _ e
 generalize e2:t1.push {cls:=.type "tuple_iterator",data:=.fields #[.ref l2,.int 0 0]}=t2;have n2:t2.objs.size=s.heap.objs.size+2:=by rw[<-e2,size_push,n1]
 have a2:t2.get? (s.heap.objs.size+1)=some {cls:=.type "tuple_iterator",data:=.fields #[.ref l2,.int 0 0]}:=by rw[<-n1,<-e2];exact get?_push_size _ rfl
 have k2:∀c o,t1.get? c=some o->t2.get? c=some o:=fun c o e=>by rw[<-e2];exact get?_push_of_some _ e
 generalize e3:t2.push {cls:=.type "tuple",data:=.seq #[.ref s.heap.objs.size,.ref (s.heap.objs.size+1)]}=t3;have n3:t3.objs.size=s.heap.objs.size+3:=by rw[<-e3,size_push,n2]
 have a3:t3.get? (s.heap.objs.size+2)=some {cls:=.type "tuple",data:=.seq #[.ref s.heap.objs.size,.ref (s.heap.objs.size+1)]}:=by rw[<-n2,<-e3];exact get?_push_size _ rfl
 have k3:∀c o,t2.get? c=some o->t3.get? c=some o:=fun c o e=>by rw[<-e3];exact get?_push_of_some _ e
 generalize e4:t3.push {cls:=.type "tuple",data:=.seq #[.none,.none]}=t4;have n4:t4.objs.size=s.heap.objs.size+4:=by rw[<-e4,size_push,n3]
 have a4:t4.get? (s.heap.objs.size+3)=some {cls:=.type "tuple",data:=.seq #[.none,.none]}:=by rw[<-n3,<-e4];exact get?_push_size _ rfl
 have k4:∀c o,t3.get? c=some o->t4.get? c=some o:=fun c o e=>by rw[<-e4];exact get?_push_of_some _ e
 generalize e5:t4.push {cls:=.type "zip",data:=.fields #[.none,.bool false,.bool false,.ref (s.heap.objs.size+2),.ref (s.heap.objs.size+3)]}=t5;have a5:t5.get? (s.heap.objs.size+4)=some {cls:=.type "zip",data:=.fields #[.none,.bool false,.bool false,.ref (s.heap.objs.size+2),.ref (s.heap.objs.size+3)]}:=by rw[<-n4,<-e5];exact get?_push_size _ rfl
 have k5:∀c o,t4.get? c=some o->t5.get? c=some o:=fun c o e=>by rw[<-e5];exact get?_push_of_some _ e
 exact⟨⟨_,a5,rfl⟩,h t5 a5 (k5 _ _ (k4 _ _ a3)) (k5 _ _ a4) ⟨_,k5 _ _ (k4 _ _ (k3 _ _ (k2 _ _ a1))),rfl,rfl⟩ ⟨_,k5 _ _ (k4 _ _ (k3 _ _ a2)),rfl,rfl⟩ fun c o e=>k5 _ _ (k4 _ _ (k3 _ _ (k2 _ _ (k1 _ _ e))))⟩
end
theorem nH(l1 l2:Addr)(xs ys:Array Value):Meets (Builtin.«zip.__new__» ⟨[.type "zip",.ref l1,.ref l2],[]⟩) (fun _ R s=>s.heap.IsTuple l1 xs/\s.heap.IsList l2 ys/\R (.ok (.ret (.ref (s.heap.objs.size+4)))) {s with heap:=((((s.heap.push {cls:=.type "tuple_iterator",data:=.fields #[.ref l1,.int 0 0]}).push {cls:=.type "list_iterator",data:=.fields #[.ref l2,.int 0 0]}).push {cls:=.type "tuple",data:=.seq #[.ref s.heap.objs.size,.ref (s.heap.objs.size+1)]}).push {cls:=.type "tuple",data:=.seq #[.none,.none]}).push {cls:=.type "zip",data:=.fields #[.none,.bool false,.bool false,.ref (s.heap.objs.size+2),.ref (s.heap.objs.size+3)]}}):=.of_wp fun prog w A R s h=>by obtain⟨hp,g,d,tk,os⟩:=s;obtain⟨hl1,hl2,h⟩:=h;have hsub:=sub_zip;have hL1:IsTuple (Shared.heap ⟨hp,g,d,tk,os⟩) l1 xs:=hl1;have hL2:IsList (Shared.heap ⟨hp.push {cls:=.type "tuple_iterator",data:=.fields #[.ref l1,.int 0 0]},g,d,tk,os⟩) l2 ys:=Heap.IsList.push hl2 _;wp_walk using wpAny_pyIter_tuple hL1,wpAny_pyIter_list hL2;simp only[size_push]at*;exact⟨_,rfl,h⟩
section
variable{prog:Program}{w:World}{A:Around}{E:Value->Shared->Prop}{s:Shared}
theorem xf{l1 l2:Addr}{xs ys:Array Value}{Q:Value->Shared->Prop}(hl1:s.heap.IsTuple l1 xs)(hl2:s.heap.IsList l2 ys)(h:∀ h',IsZip h' (s.heap.objs.size+4) (s.heap.objs.size+2) (s.heap.objs.size+3) .none->IsPair h' (s.heap.objs.size+2) (.ref s.heap.objs.size) (.ref (s.heap.objs.size+1))->IsPair h' (s.heap.objs.size+3) .none .none->h'.IsTupleIter s.heap.objs.size l1 0->h'.IsListIter (s.heap.objs.size+1) l2 0->(∀c o,s.heap.get? c=some o->h'.get? c=some o)->Q (.ref (s.heap.objs.size+4)) {s with heap:=h'}):wpAny (model prog w) A (call (.type "zip") [.ref l1,.ref l2]) Q E s:=by
 refine callType_new F.called_zip (by decide) (F.typeCall_zip_2 _ _) (F.newCall_zip_2 _ _) (fun obj=>F.args_object_init_3 obj _ _) F.entry_zip_new (nH l1 l2 xs ys) ⟨hl1,hl2,?_⟩;generalize e1:s.heap.push {cls:=.type "tuple_iterator",data:=.fields #[.ref l1,.int 0 0]}=t1;have n1:t1.objs.size=s.heap.objs.size+1:=by rw[<-e1,size_push]
 have a1:t1.get? s.heap.objs.size=some {cls:=.type "tuple_iterator",data:=.fields #[.ref l1,.int 0 0]}:=by rw[<-e1];exact get?_push_size _ rfl
 have k1:∀c o,s.heap.get? c=some o->t1.get? c=some o:=fun c o e=>by rw[<-e1];exact get?_push_of_some _ e
 generalize e2:t1.push {cls:=.type "list_iterator",data:=.fields #[.ref l2,.int 0 0]}=t2;have n2:t2.objs.size=s.heap.objs.size+2:=by rw[<-e2,size_push,n1]
 have a2:t2.get? (s.heap.objs.size+1)=some {cls:=.type "list_iterator",data:=.fields #[.ref l2,.int 0 0]}:=by rw[<-n1,<-e2];exact get?_push_size _ rfl
 have k2:∀c o,t1.get? c=some o->t2.get? c=some o:=fun c o e=>by rw[<-e2];exact get?_push_of_some _ e
 generalize e3:t2.push {cls:=.type "tuple",data:=.seq #[.ref s.heap.objs.size,.ref (s.heap.objs.size+1)]}=t3;have n3:t3.objs.size=s.heap.objs.size+3:=by rw[<-e3,size_push,n2]
 have a3:t3.get? (s.heap.objs.size+2)=some {cls:=.type "tuple",data:=.seq #[.ref s.heap.objs.size,.ref (s.heap.objs.size+1)]}:=by rw[<-n2,<-e3];exact get?_push_size _ rfl
 have k3:∀c o,t2.get? c=some o->t3.get? c=some o:=fun c o e=>by rw[<-e3];exact get?_push_of_some _ e
 generalize e4:t3.push {cls:=.type "tuple",data:=.seq #[.none,.none]}=t4;have n4:t4.objs.size=s.heap.objs.size+4:=by rw[<-e4,size_push,n3]
 have a4:t4.get? (s.heap.objs.size+3)=some {cls:=.type "tuple",data:=.seq #[.none,.none]}:=by rw[<-n3,<-e4];exact get?_push_size _ rfl
 have k4:∀c o,t3.get? c=some o->t4.get? c=some o:=fun c o e=>by rw[<-e4];exact get?_push_of_some _ e
 generalize e5:t4.push {cls:=.type "zip",data:=.fields #[.none,.bool false,.bool false,.ref (s.heap.objs.size+2),.ref (s.heap.objs.size+3)]}=t5;have a5:t5.get? (s.heap.objs.size+4)=some {cls:=.type "zip",data:=.fields #[.none,.bool false,.bool false,.ref (s.heap.objs.size+2),.ref (s.heap.objs.size+3)]}:=by rw[<-n4,<-e5];exact get?_push_size _ rfl
 have k5:∀c o,t4.get? c=some o->t5.get? c=some o:=fun c o e=>by rw[<-e5];exact get?_push_of_some _ e
 exact⟨⟨_,a5,rfl⟩,h t5 a5 (k5 _ _ (k4 _ _ a3)) (k5 _ _ a4) ⟨_,k5 _ _ (k4 _ _ (k3 _ _ (k2 _ _ a1))),rfl,rfl⟩ ⟨_,k5 _ _ (k4 _ _ (k3 _ _ a2)),rfl,rfl⟩ fun c o e=>k5 _ _ (k4 _ _ (k3 _ _ (k2 _ _ (k1 _ _ e))))⟩
end
theorem nG(l1 l2:Addr)(xs ys:Array Value):Meets (Builtin.«zip.__new__» ⟨[.type "zip",.ref l1,.ref l2],[]⟩) (fun _ R s=>s.heap.IsTuple l1 xs/\s.heap.IsTuple l2 ys/\R (.ok (.ret (.ref (s.heap.objs.size+4)))) {s with heap:=((((s.heap.push {cls:=.type "tuple_iterator",data:=.fields #[.ref l1,.int 0 0]}).push {cls:=.type "tuple_iterator",data:=.fields #[.ref l2,.int 0 0]}).push {cls:=.type "tuple",data:=.seq #[.ref s.heap.objs.size,.ref (s.heap.objs.size+1)]}).push {cls:=.type "tuple",data:=.seq #[.none,.none]}).push {cls:=.type "zip",data:=.fields #[.none,.bool false,.bool false,.ref (s.heap.objs.size+2),.ref (s.heap.objs.size+3)]}}):=.of_wp fun prog w A R s h=>by obtain⟨hp,g,d,tk,os⟩:=s;obtain⟨hl1,hl2,h⟩:=h;have hsub:=sub_zip;have hL1:IsTuple (Shared.heap ⟨hp,g,d,tk,os⟩) l1 xs:=hl1;have hL2:IsTuple (Shared.heap ⟨hp.push {cls:=.type "tuple_iterator",data:=.fields #[.ref l1,.int 0 0]},g,d,tk,os⟩) l2 ys:=Heap.IsTuple.push hl2 _;wp_walk using wpAny_pyIter_tuple hL1,wpAny_pyIter_tuple hL2;simp only[size_push]at*;exact⟨_,rfl,h⟩
section
variable{prog:Program}{w:World}{A:Around}{E:Value->Shared->Prop}{s:Shared}
theorem v7{l1 l2:Addr}{xs ys:Array Value}{Q:Value->Shared->Prop}(hl1:s.heap.IsTuple l1 xs)(hl2:s.heap.IsTuple l2 ys)(h:∀ h',IsZip h' (s.heap.objs.size+4) (s.heap.objs.size+2) (s.heap.objs.size+3) .none->IsPair h' (s.heap.objs.size+2) (.ref s.heap.objs.size) (.ref (s.heap.objs.size+1))->IsPair h' (s.heap.objs.size+3) .none .none->h'.IsTupleIter s.heap.objs.size l1 0->h'.IsTupleIter (s.heap.objs.size+1) l2 0->(∀c o,s.heap.get? c=some o->h'.get? c=some o)->Q (.ref (s.heap.objs.size+4)) {s with heap:=h'}):wpAny (model prog w) A (call (.type "zip") [.ref l1,.ref l2]) Q E s:=by
 refine callType_new F.called_zip (by decide) (F.typeCall_zip_2 _ _) (F.newCall_zip_2 _ _) (fun obj=>F.args_object_init_3 obj _ _) F.entry_zip_new (nG l1 l2 xs ys) ⟨hl1,hl2,?_⟩;generalize e1:s.heap.push {cls:=.type "tuple_iterator",data:=.fields #[.ref l1,.int 0 0]}=t1;have n1:t1.objs.size=s.heap.objs.size+1:=by rw[<-e1,size_push]
 have a1:t1.get? s.heap.objs.size=some {cls:=.type "tuple_iterator",data:=.fields #[.ref l1,.int 0 0]}:=by rw[<-e1];exact get?_push_size _ rfl
 have k1:∀c o,s.heap.get? c=some o->t1.get? c=some o:=fun c o e=>by rw[<-e1];exact get?_push_of_some _ e
 generalize e2:t1.push {cls:=.type "tuple_iterator",data:=.fields #[.ref l2,.int 0 0]}=t2;have n2:t2.objs.size=s.heap.objs.size+2:=by rw[<-e2,size_push,n1]
 have a2:t2.get? (s.heap.objs.size+1)=some {cls:=.type "tuple_iterator",data:=.fields #[.ref l2,.int 0 0]}:=by rw[<-n1,<-e2];exact get?_push_size _ rfl
 have k2:∀c o,t1.get? c=some o->t2.get? c=some o:=fun c o e=>by rw[<-e2];exact get?_push_of_some _ e
 generalize e3:t2.push {cls:=.type "tuple",data:=.seq #[.ref s.heap.objs.size,.ref (s.heap.objs.size+1)]}=t3;have n3:t3.objs.size=s.heap.objs.size+3:=by rw[<-e3,size_push,n2]
 have a3:t3.get? (s.heap.objs.size+2)=some {cls:=.type "tuple",data:=.seq #[.ref s.heap.objs.size,.ref (s.heap.objs.size+1)]}:=by rw[<-n2,<-e3];exact get?_push_size _ rfl
 have k3:∀c o,t2.get? c=some o->t3.get? c=some o:=fun c o e=>by rw[<-e3];exact get?_push_of_some _ e
 generalize e4:t3.push {cls:=.type "tuple",data:=.seq #[.none,.none]}=t4;have n4:t4.objs.size=s.heap.objs.size+4:=by rw[<-e4,size_push,n3]
 have a4:t4.get? (s.heap.objs.size+3)=some {cls:=.type "tuple",data:=.seq #[.none,.none]}:=by rw[<-n3,<-e4];exact get?_push_size _ rfl
 have k4:∀c o,t3.get? c=some o->t4.get? c=some o:=fun c o e=>by rw[<-e4];exact get?_push_of_some _ e
 generalize e5:t4.push {cls:=.type "zip",data:=.fields #[.none,.bool false,.bool false,.ref (s.heap.objs.size+2),.ref (s.heap.objs.size+3)]}=t5;have a5:t5.get? (s.heap.objs.size+4)=some {cls:=.type "zip",data:=.fields #[.none,.bool false,.bool false,.ref (s.heap.objs.size+2),.ref (s.heap.objs.size+3)]}:=by rw[<-n4,<-e5];exact get?_push_size _ rfl
 have k5:∀c o,t4.get? c=some o->t5.get? c=some o:=fun c o e=>by rw[<-e5];exact get?_push_of_some _ e
 exact⟨⟨_,a5,rfl⟩,h t5 a5 (k5 _ _ (k4 _ _ a3)) (k5 _ _ a4) ⟨_,k5 _ _ (k4 _ _ (k3 _ _ (k2 _ _ a1))),rfl,rfl⟩ ⟨_,k5 _ _ (k4 _ _ (k3 _ _ a2)),rfl,rfl⟩ fun c o e=>k5 _ _ (k4 _ _ (k3 _ _ (k2 _ _ (k1 _ _ e))))⟩
end
end PySem
end
section
namespace L2
open PySem PySem.Spec PyProof.Rows
def Sq(t:Bool)(K:PySem.W.Frag)(H:Hp)(a:Addr)(xs:List V):Prop:=if t then gO K H a xs else dq K H a xs
def R9(t:Bool)(h:Heap)(a:Addr)(xs:Array Value):Prop:=if t then h.IsTuple a xs else h.IsList a xs
def BP(t:Bool)(h:Heap)(i a:Addr)(k:Nat):Prop:=if t then h.IsTupleIter i a k else h.IsListIter i a k
section
variable{X:Cx}{pins:List (Addr×Obj)}{σ:L2.St}{H:Hp}{s:Shared}
theorem Inv.sq{t:Bool}{a:Addr}{xs:List V}(I:Inv X pins σ H s)(h:Sq t X.K H a xs):∃its:List Value,Vals xs its/\R9 t s.heap a its.toArray:=by cases t with|true=>obtain⟨its,rv,pl,_⟩:=I.tuple h;exact⟨its,rv,pl⟩|false=>obtain⟨its,rv,pl,_⟩:=I.list h;exact⟨its,rv,pl.isList⟩
theorem Inv.Fw{t:Bool}{a:Addr}{xs ys:List V}(I:Inv X pins σ H s)(h:Sq t X.K H a xs)(h':Sq t X.K H a ys):xs=ys:=by cases t with|true=>exact I.jC h h'|false=>exact I.lG h h'
theorem R9.lt{t:Bool}{h:Heap}{a:Addr}{xs:Array Value}(q:R9 t h a xs):a<h.objs.size:=by cases t with|true=>obtain⟨o,e,_⟩:=id q;exact lt_size e|false=>obtain⟨o,e,_⟩:=id q;exact lt_size e
theorem BP.obj{t:Bool}{h:Heap}{i a:Addr}{k:Nat}(q:BP t h i a k):∃o,h.get? i=some o/\∀v,o.data≠.cell v:=by cases t with|true=>obtain⟨o,h2,h3,h4⟩:=id q;exact⟨o,h2,fun v z=>by rw[h4]at z;cases z⟩|false=>obtain⟨o,h2,h3,h4⟩:=id q;exact⟨o,h2,fun v z=>by rw[h4]at z;cases z⟩
theorem BP.keep{t:Bool}{h h':Heap}{i a:Addr}{k:Nat}(q:BP t h i a k)(e:∀o,h.get? i=some o->h'.get? i=some o):BP t h' i a k:=by cases t with|true=>obtain⟨o,h2,r⟩:=id q;exact⟨o,e o h2,r⟩|false=>obtain⟨o,h2,r⟩:=id q;exact⟨o,e o h2,r⟩
theorem Hj(t:Bool){prog:Program}{w:World}{A:Around}(hh:A.handled=none)(it l:Addr)(hne:l≠it)(items:Array Value):Nx prog w A it l (fun k h=>BP t h it l k/\R9 t h l items) (fun k=>items[k]?):=by cases t with|true=>exact Nx.tuple hh it l hne items|false=>exact Nx.list hh it l hne items
theorem Inv.Ez{ch:List Addr}{h':Heap}(I:Inv X pins σ H s)(k:∀b u,b∉ch->s.heap.get? b=some u->h'.get? b=some u)(hf:∀b∈ch,lX X pins H b):Inv X pins σ H {s with heap:=h'}:=by
 have GC:∀b u,H b=some u->b∉ch:=fun b u e hb=>by rw[(hf b hb).1]at e;cases e
 refine I.call (g':=s.gens) (d':=s.drawn) (t':=s.toks) (ch:=ch) ⟨fun b u e n _ hx=>k b u hx e,fun b u e n _ hx=>⟨u.slots,k b u hx e⟩,fun b u e n hx=>n,fun b u e hx=>⟨u,k b u hx e⟩,fun b xs e=>e,fun b ob u e=>e,fun b ps e=>⟨#[],by rw[e];simp⟩⟩ ?_ I.bare fun b hb=>⟨(hf b hb).2.2.2.1,(hf b hb).2.1,(hf b hb).2.2.2.2.1,(hf b hb).2.2.2.2.2⟩;intro b u e;refine(I.hok b u e).stay (fun c v hc q=>k c v ?_ q) (fun c q=>q) fun c xs q=>q;rcases hc with rfl|hc;.exact GC _ _ e
 .exact GC _ _ hc
end
noncomputable def Vl(t1 t2:Bool)(K:PySem.W.Frag)(a b:Addr):It:=⟨fun i H=>∃ xs ys x y,Sq t1 K H a xs/\Sq t2 K H b ys/\xs[i]?=some x/\ys[i]?=some y,fun i H x H'=>∃T v w,H T=none/\x=.ref T/\H'=upd H T (.tup [v,w])/\(∀xs,Sq t1 K H a xs->xs[i]?=some v)/\∀ys,Sq t2 K H b ys->ys[i]?=some w,fun i H=>∃xs ys,Sq t1 K H a xs/\Sq t2 K H b ys/\(xs.length<=i\/ys.length<=i)⟩
theorem Gy{P:Program}{w:World}{K:PySem.W.Frag}{elts:List Expr}{x1}{tp:Pos}(t1 t2:Bool){z TI TO i1 i2 l1 l2:Addr}(D:ZipApart z TI TO i1 i2 l1 l2):Turn P w K (.Tuple elts x1 tp) (Vl t1 t2 K l1 l2) [z,TI,TO,i1,i2] z (fun i h=>IsZip h z TI TO .none/\IsPair h TI (.ref i1) (.ref i2)/\(∃a b,IsPair h TO a b)/\BP t1 h i1 l1 i/\BP t2 h i2 l2 i)where
 mem:=by simp
 obj:=fun i h st b hb=>by
  obtain⟨h1,h2,⟨u,v,h3⟩,h4,h5⟩:=st;simp only[mem_cons,not_mem_nil,or_false]at hb;rcases hb with rfl|rfl|rfl|rfl|rfl;.exact⟨_,h1,fun v z=>by cases z⟩
  .exact⟨_,h2,fun v z=>by cases z⟩
  .exact⟨_,h3,fun v z=>by cases z⟩
  .exact h4.obj
  .exact h5.obj
 keep:=fun i h h' st k=>by obtain⟨h1,h2,⟨u,v,h3⟩,h4,h5⟩:=st;exact⟨k z (by simp) _ h1,k TI (by simp) _ h2,⟨u,v,k TO (by simp) _ h3⟩,h4.keep (k i1 (by simp)),h5.keep (k i2 (by simp))⟩
 item:=fun X hP hw hK hc i pins s σ H E I hf st go=>by
  subst hP hw hK;obtain⟨h1,h2,⟨u,v,h3⟩,h4,h5⟩:=st;obtain⟨xs,ys,x,y,hq1,hq2,hx,hy⟩:=go;obtain⟨Kc,Zq,Tw⟩:=I.sq hq1;obtain⟨its2,Q4,LR⟩:=I.sq hq2;obtain⟨ux,hu1,hu2⟩:=Zq.get hx;obtain⟨uy,hw1,hw2⟩:=Q4.get hy;have hh:X.A.in1.handled=none:=I.ok.hd hc;refine mK D (Hj t1 hh i1 l1 D.l1i1 Kc.toArray) (Hj t2 hh i2 l2 D.l2i2 its2.toArray) h1 h2 h3 (k:=i) ⟨h4,Tw⟩ ⟨h5,LR⟩ (x:=ux) (y:=uy) (by simpa using hu1) (by simpa using hw1) fun h' z1 p1 s1 s2 pT hsz kp=>?_;refine⟨_,rfl,wpAny_letOwnedTupleGo_zip z1 fun h'' z2 sb=>?_⟩;have hlt:∀b∈[z,TI,TO,i1,i2],b≠s.heap.objs.size:=fun b hb=>by
   simp only[mem_cons,not_mem_nil,or_false]at hb;rcases hb with rfl|rfl|rfl|rfl|rfl;.exact ne_of_lt (lt_size h1)
   .exact ne_of_lt (lt_size h2)
   .exact ne_of_lt (lt_size h3)
   .exact ne_of_lt (lt_size h4.obj.choose_spec.1)
   .exact ne_of_lt (lt_size h5.obj.choose_spec.1)
  have Tv:∀b o,b∉[z,TO,i1,i2]->s.heap.get? b=some o->h''.get? b=some o:=fun b o hb q=>by simp only[mem_cons,not_mem_nil,or_false,not_or]at hb;exact sb.extBut b o hb.1 (kp b o hb.1 hb.2.1 hb.2.2.1 hb.2.2.2 q)
  have pT2:IsPair h'' s.heap.objs.size ux uy:=sb.extBut _ _ (hlt z (by simp)).symm pT;have p2:IsPair h'' TO ux uy:=sb.extBut _ _ D.TOz p1;have j1:BP t1 h'' i1 l1 (i+1):=s1.1.keep fun o e=>sb.extBut _ _ D.i1z e;have j2:BP t2 h'' i2 l2 (i+1):=s2.1.keep fun o e=>sb.extBut _ _ D.i2z e;refine⟨.ref s.heap.objs.size,upd H s.heap.objs.size (.tup [x,y]),?_,rfl,⟨_,x,y,I.fresh,rfl,rfl,fun zs hz=>?_,fun zs hz=>?_⟩,⟨z2,Tv TI _ ?_ h2,⟨_,_,p2⟩,j1,j2⟩,fun b hb=>?_⟩
  . refine I.wA (ch:=[z,TO,i1,i2]) (t':=s.toks) Tv (fun b hb=>?_) (fun b hb=>hf b ?_) ⟨(by show 2<=sizeLine;decide),[ux,uy],.cons hu2 (.cons hw2 .nil),⟨_,pT2,rfl,_,rfl⟩⟩
    . simp only[mem_cons,not_mem_nil,or_false]at hb;rcases hb with rfl|rfl|rfl|rfl;.exact⟨_,z2⟩
      .exact⟨_,p2⟩
      .exact⟨_,j1.obj.choose_spec.1⟩
      .exact⟨_,j2.obj.choose_spec.1⟩
    .simp only[mem_cons,not_mem_nil,or_false]at hb ⊢;rcases hb with h|h|h|h<;>simp[h]
  .rw[I.Fw hz hq1];exact hx
  .rw[I.Fw hz hq2];exact hy
  .simp[D.TIz,D.TITO,D.TIi1,D.TIi2]
  .rw[aC (hlt b hb)];exact(hf b hb).1
 done:=fun X hP hw hK hc i pins s σ H E I hf st stop=>by
  subst hP hw hK;obtain⟨h1,h2,⟨u,v,h3⟩,h4,h5⟩:=st;obtain⟨xs,ys,hq1,hq2,hx⟩:=stop;obtain⟨Kc,Zq,Tw⟩:=I.sq hq1;obtain⟨its2,Q4,LR⟩:=I.sq hq2;have hh:X.A.in1.handled=none:=I.ok.hd hc;refine m9 D (Hj t1 hh i1 l1 D.l1i1 Kc.toArray) (Hj t2 hh i2 l2 D.l2i2 its2.toArray) h1 h2 h3 (k:=i) ⟨h4,Tw⟩ ⟨h5,LR⟩ ?_ fun h' kp=>⟨rfl,?_⟩
  . rcases hx with hx|hx;.left;rw[Zq.length]at hx;simpa using hx
    .right;rw[Q4.length]at hx;simpa using hx
  .exact I.Ez (ch:=[z,TO,i1,i2]) (fun b u hb q=>by simp only[mem_cons,not_mem_nil,or_false,not_or]at hb;exact kp b u hb.1 hb.2.1 hb.2.2.1 hb.2.2.2 q) fun b hb=>hf b (by simp only[mem_cons,not_mem_nil,or_false]at hb ⊢;rcases hb with h|h|h|h<;>simp[h])
 self:=fun A i s Q E st q=>wpAny_pyIter_zip st.1 q
section
variable{X:Cx}{elts:List Expr}{x1:Nat}{tp:Pos}
theorem zN{prog:Program}{w:World}{A:Around}{E:Value->Shared->Prop}{s:Shared}(t1 t2:Bool){l1 l2:Addr}{xs ys:Array Value}{Q:Value->Shared->Prop}(hl1:R9 t1 s.heap l1 xs)(hl2:R9 t2 s.heap l2 ys)(h:∀ h',IsZip h' (s.heap.objs.size+4) (s.heap.objs.size+2) (s.heap.objs.size+3) .none->IsPair h' (s.heap.objs.size+2) (.ref s.heap.objs.size) (.ref (s.heap.objs.size+1))->IsPair h' (s.heap.objs.size+3) .none .none->BP t1 h' s.heap.objs.size l1 0->BP t2 h' (s.heap.objs.size+1) l2 0->(∀c o,s.heap.get? c=some o->h'.get? c=some o)->Q (.ref (s.heap.objs.size+4)) {s with heap:=h'}):wpAny (model prog w) A (call (.type "zip") [.ref l1,.ref l2]) Q E s:=by
 cases t1<;>cases t2;.exact xj hl1 hl2 h
 .exact xm hl1 hl2 h
 .exact xf hl1 hl2 h
 .exact v7 hl1 hl2 h
theorem Py{n l m:Nat}(h1:l<n)(h2:m<n):ZipApart (n+4) (n+2) (n+3) n (n+1) l m:=by constructor<;>exact fun h=>absurd (show(_:Nat)=_ from h) (by omega)
def ZX(K:PySem.W.Frag)(R:It->Hp->Prop)(vs:List V)(H1:Hp):Prop:=∃t1 t2 a b,vs=[.ref a,.ref b]/\(∃xs,Sq t1 K H1 a xs)/\(∃ys,Sq t2 K H1 b ys)/\R (Vl t1 t2 K a b) H1
def aav(K:PySem.W.Frag)(ta:TA):TI:=fun σ H R=>ta σ H (ZX K R)
theorem boot_zip:bootBuiltins "zip"=some (.type "zip"):=by decide+kernel
theorem O8{a b:Expr}{ta:TA}{p pos:Pos}(hg:Gl X "zip")(hm:X.mg "zip"=none)(ha:PA X [a,b] ta)(hs:starEach [a,b] X.env=[(false,eval a X.env),(false,eval b X.env)]:=by rfl)(hs2:starEach [b] X.env=[(false,eval b X.env)]:=by rfl):PI X (.Tuple elts x1 tp) (.Call (.Name "zip" p) [a,b] [] pos) (aav X.K ta):=by
 intro pins s σ H R I h;refine Call_ (gJ I hg hm boot_zip (PyProof.Rows.callWith_type1 (bZ (ha pos pins s σ H _ I h) ?_) (by rw[hs,hs2]) (by rw[hs2];rfl)));rintro us s1⟨vs,H1,I1,r1,q1⟩;obtain⟨t1,t2,l1,l2,rfl,⟨xs,hq1⟩,⟨ys,hq2⟩,q⟩:=q1;obtain⟨u,v,rfl,ru,rv⟩:=r1.two;cases ru;cases rv;obtain⟨Kc,Zq,Tw⟩:=I1.sq hq1;obtain⟨its2,Q4,LR⟩:=I1.sq hq2;have b1:=Tw.lt;have b2:=LR.lt;refine zN t1 t2 Tw LR fun h' z0 p0 o0 j1 j2 kp=>?_;have D:ZipApart (s1.heap.objs.size+4) (s1.heap.objs.size+2) (s1.heap.objs.size+3) s1.heap.objs.size (s1.heap.objs.size+1) l1 l2:=Py b1 b2;refine wpAny_pyIter_zip z0 ⟨_,_,_,_,H1,rfl,I1.kept (t':=s1.toks) kp,Gy t1 t2 D,⟨z0,p0,⟨_,_,o0⟩,j1,j2⟩,fun b hb=>?_,q⟩;have hb':s1.heap.objs.size<=b:=by simp only[mem_cons,not_mem_nil,or_false]at hb;rcases hb with rfl|rfl|rfl|rfl|rfl<;>first|exact Nat.le_add_right _ _|exact le_refl _
 exact I1.xY hb' (I1.hok.fresh hb')
end
end L2
namespace HH
open PySem L2 PySem.Spec PyProof.Rows
section
variable{K:PySem.W.Frag}{F F1 H H1:Hp}{ρ ρ1:List Sl}{σ:L2.St}{ds es:List D}{a b:Addr}
theorem aG.sq{t:Bool}{xs:List V}(e:aG F H)(h:Sq t K F a xs):Sq t K H a xs:=by cases t with|true=>exact aG.fW e h|false=>exact e.seq h
theorem rN{t1 t2:Bool}{xs ys:List V}{F' H':Hp}(hq1:Sq t1 K H' a xs)(hq2:Sq t2 K H' b ys)(r1:aF K F' xs ds)(r2:aF K F' ys es)(s:aG F' H')(k:Nat):(∀d,((ds.zip es).map fun p=>D.tup [p.1,p.2])[k]?=some d->(Vl t1 t2 K a b).go k H'/\∀x jH,(Vl t1 t2 K a b).GD k H' x jH->∃F'',Ext F' H' F'' jH/\Rep K F'' x d)/\(((ds.zip es).map fun p=>D.tup [p.1,p.2]).length<=k->(Vl t1 t2 K a b).stop k H'):=by refine⟨fun d hd=>?_,fun h=>⟨xs,ys,hq1,hq2,by rw[r1.length,r2.length];rw[length_map,List.length_zip]at h;omega⟩⟩;rw[getElem?_map]at hd;obtain⟨⟨d0,d1⟩,e1,e2⟩:=map_some hd;subst e2;obtain⟨f1,f2⟩:=List.getElem?_zip_eq_some.mp e1;obtain⟨w,h1,h2⟩:=r1.get f1;obtain⟨w',h1',h2'⟩:=r2.get f2;refine⟨⟨xs,ys,w,w',hq1,hq2,h1,h1'⟩,?_⟩;rintro x jH⟨T,v,v',hT,hx,hH,y,y'⟩;subst hx;subst hH;have:=y xs hq1;rw[h1]at this;cases this;have:=y' ys hq2;rw[h1']at this;cases this;exact o4 s hT h2 h2'
theorem DW{v:V}{d:D}{ds:List D}(h:Rep K F v d)(e:items d=some ds):∃t a xs,v=.ref a/\Sq t K F a xs/\aF K F xs ds:=by cases d with|tup es=>cases e;rw[Rep]at h;obtain⟨a,xs,rfl,h1,h2⟩:=h;exact⟨true,a,xs,rfl,h1,h2⟩|lst es=>cases e;rw[Rep]at h;obtain⟨a,xs,rfl,h1,h2⟩:=h;exact⟨false,a,xs,rfl,h1,h2⟩|_=>cases e
end
structure bF(K:PySem.W.Frag)(x:Str)(st:Stmt):Prop where ex:∃f fd,PySem.W.nsIn K mainGlobals x=some (some (.ref f))/\gB K x x st f fd
section
variable{Pg:Program}{w:World}{K:PySem.W.Frag}{mg:Str->Option Value}{base h:Heap}
theorem PX{x:Str}{st:Stmt}{f:Addr}{oc:Value}{od an:Option Addr}{osl:Array (Option Value)}{kV doc pm cdv ct:Value}(a:PySem.W.nsIn K mainGlobals x=some (some (.ref f)))(l:K.lookup f=some ⟨oc,od,.func (PySem.W.fnOf x x (gZ st) (fG st) (az st) .none kV doc pm an cdv ct),osl⟩)(c:PySem.W.codeIn K cdv x=true)(k:keepIn K (.ref f)=true):bF K x st:=⟨_,_,a,N5 l c k⟩
theorem bJ{Γ:Tab}{wl i np:Nat}{x:Str}{st:Stmt}{ps:List Str}(X:K.In h)(G:h.Ns mainGlobals mg)(D:bF K x st)(hp:ps.length=np)(hb:∀(kV doc pm:Value)(an:Option Addr)(cdv ct:Value)(us:List Value),us.length=ps.length->bindArgs (PySem.W.fnOf x x (gZ st) (fG st) (az st) .none kV doc pm an cdv ct) ⟨us,[]⟩=pure (ps.zip us)):au Pg w K mg base 0 (run Γ wl 0) i x np:=by obtain⟨f,fd,a,F⟩:=D.ex;exact⟨f,fd,ps,⟨fun vs H Q E s=>s.1,fun A outer s H args us vs Q E hr e b v sp=>by obtain⟨_,F,as,r,as',_,z,_⟩:=sp;cases z⟩,mg_of X G a,F.kp,F.binds hb,hp⟩
theorem bK{Γ:Tab}{wl n i np:Nat}{x:Str}{st:Stmt}{ps:List Str}{d:Fd}(X:K.In h)(G:h.Ns mainGlobals mg)(D:bF K x st)(hp:ps.length=np)(hΓ:Γ i=some d)(hb:∀(kV doc pm:Value)(an:Option Addr)(cdv ct:Value)(us:List Value),us.length=ps.length->bindArgs (PySem.W.fnOf x x (gZ st) (fG st) (az st) .none kV doc pm an cdv ct) ⟨us,[]⟩=pure (ps.zip us))(ok:∀f fd,gB K x x st f fd->bW Pg w K mg base fZ (n+1) f fd ps (gw K np (fun args=>enter (run Γ wl n) wl d args))):au Pg w K mg base (n+1) (run Γ wl (n+1)) i x np:=by
 obtain⟨f,fd,a,F⟩:=D.ex;refine⟨f,fd,ps,?_,mg_of X G a,F.kp,F.binds hb,hp⟩;have e:run Γ wl (n+1) i=fun args=>enter (run Γ wl n) wl d args:=by funext args;show(match Γ i with|some d=>enter (run Γ wl n) wl d args|none=>.stuck)=_;rw[hΓ]
 rw[e,hp];exact ok f fd F
theorem qY{F:Hp}:∀ns:List Int,aF K F (ns.map V.int) (ns.map D.int)|[]=>.nil|n::ns=>.cons (cj n) (qY ns)
theorem Ay{H:Hp}{a:Addr}{ns:List Int}{g:List Sl->Res R}{as:List Sl}(hS:dq K H a (ns.map V.int))(hr:g [.val false (.lst (ns.map D.int))]=.ok (.val (.bl true)) as):gw K 1 g [.ref a] H (fun v _=>v=.bl true) fun _ _ _=>False:=by
 refine⟨rfl,H,_,_,as,⟨.refl _,rfl,fun i b d e=>?_,fun i s ds e e'=>?_,fun i j c h=>?_⟩,hr,fun v F' σ' H' s rr=>?_⟩;.match i,e with|0,e=>cases e;refine⟨.ref a,rfl,?_⟩;rw[Rep];exact⟨a,_,rfl,hS,qY ns⟩|i+1,e=>simp at e
 .match i,e with|0,e=>cases e;cases e'|i+1,e=>simp at e
 .obtain⟨⟨s,ds,e,e'⟩,_⟩:=h;match i,e with|0,e=>cases e;cases e'|i+1,e=>simp at e
 .have rr:Rep K F' v (.bl true):=rr;rw[Rep]at rr;exact rr
end
end HH
end
section
namespace HH
open PySem
def Res.sat{α:Type}(Q:α->List Sl->Prop)(x:Res α):Prop:=match x with|.ok a ρ=>Q a ρ|.exc _ _=>False|.stuck=>False
section
variable{α β:Type}{Q Q':α->List Sl->Prop}
@[simp]theorem MT{a:α}{ρ:List Sl}:(Res.ok a ρ).sat Q=Q a ρ:=rfl
@[simp]theorem XQ{k:Nat}{ρ:List Sl}:(Res.exc k ρ:Res α).sat Q=False:=rfl
@[simp]theorem RL:(Res.stuck:Res α).sat Q=False:=rfl
theorem bM{x:Res β}{f:β->List Sl->Res α}:(x.bind f).sat Q=x.sat fun a ρ=>(f a ρ).sat Q:=by cases x<;>rfl
@[simp]theorem Yq{p:Prop}[Decidable p]{x y:Res α}:(if p then x else y).sat Q=((p->x.sat Q)/\(¬ p->y.sat Q)):=by by_cases h:p<;>simp[h]
@[simp]theorem G5{a:α}{ρ:List Sl}:(lift (some a) ρ).sat Q=Q a ρ:=rfl
@[simp]theorem Hc{ρ:List Sl}:(lift (none:Option α) ρ).sat Q=False:=rfl
@[simp]theorem Hz{p:Prop}[Decidable p]{a:α}{ρ:List Sl}:(lift (if p then some a else none) ρ).sat Q=(p/\Q a ρ):=by by_cases h:p<;>simp[h]
theorem Res.sat.imp{x:Res α}(h:x.sat Q)(k:∀a ρ,Q a ρ->Q' a ρ):x.sat Q':=by cases x with|ok a ρ=>exact k a ρ h|exc _ _=>exact h|stuck=>exact h
theorem sat_iff{x:Res α}:x.sat Q↔∃a ρ,x=.ok a ρ/\Q a ρ:=by cases x with|ok a ρ=>exact⟨fun h=>⟨a,ρ,rfl,h⟩,fun⟨_,_,e,h⟩=>by cases e;exact h⟩|exc _ _=>exact⟨fun h=>h.elim,fun⟨_,_,e,_⟩=>by cases e⟩|stuck=>exact⟨fun h=>h.elim,fun⟨_,_,e,_⟩=>by cases e⟩
end
theorem Rw{α:Type}{x y:Res α}{Q:α->List Sl->Prop}(h:x=y):x.sat Q=y.sat Q:=by rw[h]
theorem bind_congr{α β:Type}{x y:Res α}{f:α->List Sl->Res β}(h:x=y):x.bind f=y.bind f:=by rw[h]
noncomputable def fr:Sl->Bool|.aP=>true|.val b _=>!b|.own b _=>!b|.lent _=>false|.qx _=>false|.cV _=>false|.hold _=>false
@[simp]theorem abP:fr .aP=true:=rfl
@[simp]theorem aad{b:Bool}{d:D}:fr (.val b d)=!b:=rfl
@[simp]theorem ach{b:Bool}{d:List D}:fr (.own b d)=!b:=rfl
@[simp]theorem Xa{d:List D}:fr (.lent d)=false:=rfl
theorem MK(ρ:List Sl)(i:Nat)(s:Sl):put ρ i s=match ρ[i]?with|some t=>if fr t=true then some (ρ.set i s)else none|none=>none:=by unfold put;cases h:ρ[i]?with|none=>rfl|some t=>cases t with|aP=>rfl|val b d=>cases b<;>rfl|own b d=>cases b<;>rfl|lent d=>rfl|qx m=>rfl|cV m=>rfl|hold m=>rfl
theorem Ff{Γ:Tab}{w n i:Nat}{d:Fd}{args:List Sl}(h:Γ i=some d):run Γ w (n+1) i args=enter (run Γ w n) w d args:=by rw[run,h]
noncomputable def fin(np:Nat):Fl->List Sl->Option (R×List Sl)|.next,ρ=>some (.val .non,ρ.take np)|.ret r,ρ=>some (r,ρ.take np)|_,_=>none
def eQ(np:Nat)(Q:R->List Sl->Prop)(fl:Fl)(ρ:List Sl):Prop:=match fl with|.next=>Q (.val .non) (ρ.take np)|.ret r=>Q r (ρ.take np)|_=>False
def sQ(c:Call)(n:Nat)(r:List S)(Q:Fl->List Sl->Prop)(fl:Fl)(ρ:List Sl):Prop:=match fl with|.next=>(gf c n r ρ).sat Q|fl=>Q fl ρ
def fQ(J:List Sl->Prop)(Q:Fl->List Sl->Prop)(fl:Fl)(ρ:List Sl):Prop:=match fl with|.next=>J ρ|.cont=>J ρ|.brk=>Q .next ρ|.ret v=>Q (.ret v) ρ
section
variable{np:Nat}{Q:R->List Sl->Prop}{ρ:List Sl}{v:R}{c:Call}{n:Nat}{r:List S}{Q':Fl->List Sl->Prop}{J:List Sl->Prop}
@[simp]theorem YJ:eQ np Q .next ρ=Q (.val .non) (ρ.take np):=rfl
@[simp]theorem aaj:eQ np Q (.ret v) ρ=Q v (ρ.take np):=rfl
@[simp]theorem abk:eQ np Q .brk ρ=False:=rfl
@[simp]theorem Xm:eQ np Q .cont ρ=False:=rfl
@[simp]theorem XD:sQ c n r Q' .next ρ=(gf c n r ρ).sat Q':=rfl
@[simp]theorem aah:sQ c n r Q' (.ret v) ρ=Q' (.ret v) ρ:=rfl
@[simp]theorem abn:sQ c n r Q' .brk ρ=Q' .brk ρ:=rfl
@[simp]theorem Yc:sQ c n r Q' .cont ρ=Q' .cont ρ:=rfl
@[simp]theorem Yw:fQ J Q' .next ρ=J ρ:=rfl
@[simp]theorem Xv:fQ J Q' .cont ρ=J ρ:=rfl
@[simp]theorem ZS:fQ J Q' .brk ρ=Q' .next ρ:=rfl
@[simp]theorem Z0:fQ J Q' (.ret v) ρ=Q' (.ret v) ρ:=rfl
end
theorem zV{c:Call}{n:Nat}{d:Fd}{args:List Sl}{Q:R->List Sl->Prop}(hl:args.length=d.np)(hd:d.np<=d.nn)(h:(gf c n d.body (args++replicate (d.nn-d.np) .aP)).sat (eQ d.np Q)):(enter c n d args).sat Q:=by unfold enter;rw[if_pos ⟨hl,hd⟩];revert h;cases gf c n d.body (args++replicate (d.nn-d.np) .aP)with|stuck=>exact fun h=>False.elim h|exc _ _=>exact fun h=>False.elim h|ok fl ρ=>cases fl<;>first|exact id|exact fun h=>False.elim h
theorem aO{Γ:Tab}{w n i:Nat}{d:Fd}{args:List Sl}{Q:R->List Sl->Prop}(hΓ:Γ i=some d)(hl:args.length=d.np)(hd:d.np<=d.nn)(h:(gf (run Γ w n) w d.body (args++replicate (d.nn-d.np) .aP)).sat (eQ d.np Q)):(run Γ w (n+1) i args).sat Q:=by rw[Ff hΓ];exact zV hl hd h
theorem aj{c:Call}{n:Nat}{s:S}{r:List S}{ρ:List Sl}{Q:Fl->List Sl->Prop}(h:(ex c n s ρ).sat (sQ c n r Q)):(gf c n (s::r) ρ).sat Q:=by rw[gf,bM];refine h.imp fun fl ρ' q=>?_;cases fl<;>exact q
theorem Bh{c:Call}{n:Nat}{s:S}{r:List S}{ρ:List Sl}{Q:Fl->List Sl->Prop}(h:(ex c n s ρ).sat (sQ c n r Q)):sQ c n (s::r) Q .next ρ:=aj h
@[simp]theorem XS{c:Call}{n:Nat}{ρ:List Sl}{Q:Fl->List Sl->Prop}:(gf c n [] ρ).sat Q=Q .next ρ:=by rw[gf];rfl
theorem cL{c:Call}{n:Nat}{s:S}{r:List S}{ρ:List Sl}{Q:Fl->List Sl->Prop}(M:List Sl->Prop)(h:(ex c n s ρ).sat fun fl ρ'=>fl=.next/\M ρ')(k:∀ρ',M ρ'->(gf c n r ρ').sat Q):(gf c n (s::r) ρ).sat Q:=aj (h.imp fun fl ρ'⟨e,q⟩=>by subst e;exact k ρ' q)
theorem bI{is:List Nat}{one:Bool}{body:List Sl->Res Fl}(J:List D->List Sl->Prop){Q:Fl->List Sl->Prop}(hb:∀d r ρ,J (d::r) ρ->∃ρ1,cu ρ is one d=some ρ1/\(body ρ1).sat (fQ (J r) Q))(hq:∀ρ,J [] ρ->Q .next ρ):∀{ds:List D}{ρ:List Sl},J ds ρ->(gW is one body ds ρ).sat Q|[],ρ,j=>hq ρ j|d::r,ρ,j=>by obtain⟨ρ1,e,h⟩:=hb d r ρ j;rw[gW,e];show((body ρ1).bind _).sat Q;rw[bM];refine h.imp fun fl ρ2 q=>?_;cases fl with|next=>exact bI J hb hq q|cont=>exact bI J hb hq q|brk=>exact q|ret v=>exact q
theorem jD{is:List Nat}{one:Bool}{test:List Sl->Res Bool}{elt:Ev}(J:List Sl->Prop)(g:D->Option D){Q:List D->List Sl->Prop}:∀{ds acc:List D}{ρ:List Sl},J ρ->(∀ d,d ∈ ds->∀ ρ,J ρ->∃ ρ1,cu ρ is one d=some ρ1/\(test ρ1).sat fun b ρ2=>if b=true then(elt ρ2).sat fun r ρ3=>g d=some r.d/\J ρ3 else g d=none/\J ρ2)->(∀ ρ,J ρ->Q (acc++ds.filterMap g) ρ)->(turns is one test elt ds acc ρ).sat Q|[],acc,ρ,j,h,k=>by rw[turns];simpa using k ρ j|d::r,acc,ρ,j,h,k=>by obtain⟨ρ1,e,h1⟩:=h d (by simp) ρ j;rw[turns,e];show((test ρ1).bind _).sat Q;rw[bM];refine h1.imp fun b ρ2 q=>?_;cases b with|true=>rw[if_pos rfl]at q;rw[if_pos rfl,bM];refine q.imp fun x ρ3⟨e1,j3⟩=>?_;refine jD J g j3 (fun d' hd'=>h d' (by simp[hd'])) fun ρ' j'=>?_;have:=k ρ' j';rw[filterMap_cons,e1]at this;rw[append_assoc];exact this|false=>rw[if_neg (by simp)]at q;rw[if_neg (by simp)];refine jD J g q.2 (fun d' hd'=>h d' (by simp[hd'])) fun ρ' j'=>?_;have:=k ρ' j';rw[filterMap_cons,q.1]at this;exact this
theorem wy{is:List Nat}{one:Bool}{elt:Ev}{c:Call}(J:List Sl->Prop)(g:D->D){Q:List D->List Sl->Prop}{ds:List D}{ρ:List Sl}(j:J ρ)(h:∀d,d∈ds->∀ρ,J ρ->∃ρ1,cu ρ is one d=some ρ1/\(elt ρ1).sat fun r ρ3=>g d=r.d/\J ρ3)(k:∀ρ,J ρ->Q (ds.map g) ρ):(turns is one (kO c none) elt ds [] ρ).sat Q:=jD J (fun d=>some (g d)) j (fun d hd ρ j=>by obtain⟨ρ1,e,h1⟩:=h d hd ρ j;refine⟨ρ1,e,?_⟩;rw[kO,MT,if_pos rfl];exact h1.imp fun r ρ3 q=>⟨by rw[q.1],q.2⟩) fun ρ j=>by simpa using k ρ j
section
variable{ρ l:List Sl}{a:Sl}{i j:Int}{k m:Nat}{b b':Bool}{s:Str}{d:D}{ds es:List D}{e f:Ev}{x:Option Sl}{c:Call}
@[simp]theorem Pa:cH .int .non=false:=rfl
@[simp]theorem RJ:cH .int (.bl b)=true:=rfl
@[simp]theorem QR:cH .int (.int i)=true:=rfl
@[simp]theorem N6:cH .int (.str s)=false:=rfl
@[simp]theorem Og:cH .int (.tup ds)=false:=rfl
@[simp]theorem NQ:cH .int (.lst ds)=false:=rfl
@[simp]theorem Le:cH .bool .non=false:=rfl
@[simp]theorem Ms:cH .bool (.bl b)=true:=rfl
@[simp]theorem K6:cH .bool (.int i)=false:=rfl
@[simp]theorem Lr:cH .bool (.str s)=false:=rfl
@[simp]theorem Lh:cH .bool (.tup ds)=false:=rfl
@[simp]theorem Lk:cH .bool (.lst ds)=false:=rfl
@[simp]theorem Qf:cH .str .non=false:=rfl
@[simp]theorem Rv:cH .str (.bl b)=false:=rfl
@[simp]theorem Px:cH .str (.int i)=false:=rfl
@[simp]theorem Oe:cH .str (.str s)=true:=rfl
@[simp]theorem Nh:cH .str (.tup ds)=false:=rfl
@[simp]theorem Mt:cH .str (.lst ds)=false:=rfl
@[simp]theorem JR:cH .tuple .non=false:=rfl
@[simp]theorem K8:cH .tuple (.bl b)=false:=rfl
@[simp]theorem Ie:cH .tuple (.int i)=false:=rfl
@[simp]theorem Ig:cH .tuple (.str s)=false:=rfl
@[simp]theorem Ii:cH .tuple (.tup ds)=true:=rfl
@[simp]theorem Iu:cH .tuple (.lst ds)=false:=rfl
@[simp]theorem Ku:cH .list .non=false:=rfl
@[simp]theorem Mi:cH .list (.bl b)=false:=rfl
@[simp]theorem Lg:cH .list (.int i)=false:=rfl
@[simp]theorem KJ:cH .list (.str s)=false:=rfl
@[simp]theorem Lw:cH .list (.tup ds)=false:=rfl
@[simp]theorem Ko:cH .list (.lst ds)=true:=rfl
@[simp]theorem KC:cH .none .non=true:=rfl
@[simp]theorem Mp:cH .none (.bl b)=false:=rfl
@[simp]theorem Km:cH .none (.int i)=false:=rfl
@[simp]theorem K9:cH .none (.str s)=false:=rfl
@[simp]theorem Ld:cH .none (.tup ds)=false:=rfl
@[simp]theorem Kr:cH .none (.lst ds)=false:=rfl
@[simp]theorem RK:gR .non=true:=rfl
@[simp]theorem Wo:gR (.bl b)=false:=rfl
@[simp]theorem Td:gR (.int i)=false:=rfl
@[simp]theorem Th:gR (.str s)=false:=rfl
@[simp]theorem SJ:gR (.tup ds)=false:=rfl
@[simp]theorem Ru:gR (.lst ds)=false:=rfl
@[simp]theorem TX:flat .non=true:=rfl
@[simp]theorem Yg:flat (.bl b)=true:=rfl
@[simp]theorem j9:flat (.int i)=true:=rfl
@[simp]theorem V7:flat (.str s)=true:=rfl
@[simp]theorem Wj:flat (.tup ds)=false:=rfl
@[simp]theorem VP:flat (.lst ds)=false:=rfl
@[simp]theorem aac:(R.val d).d=d:=rfl
@[simp]theorem ack:(R.own ds).d=.lst ds:=rfl
@[simp]theorem VB:wM (.val d)=.val false d:=rfl
@[simp]theorem Ui:wM (.own ds)=.own false ds:=rfl
@[simp]theorem Te:uC (.val d)=.dat d:=rfl
@[simp]theorem RQ:uC (.own ds)=.tmp ds:=rfl
@[simp]theorem Yb:iQ (.int i)=some i:=rfl
@[simp]theorem abr:tX (.bl b)=some b:=rfl
@[simp]theorem qK:items (.lst ds)=some ds:=rfl
@[simp]theorem qF:items (.tup ds)=some ds:=rfl
@[simp]theorem Pu:Nj (.tup ds)=some ds:=rfl
@[simp]theorem P0:xZ (.lst ds)=some ds:=rfl
@[simp]theorem Xr:qm .add=pA:=rfl
@[simp]theorem XN:qm .sub=vy:=rfl
@[simp]theorem YH:qm .mul=oU:=rfl
@[simp]theorem Vm:qm .fdiv=pP:=rfl
@[simp]theorem Xo:qm .mod=vq:=rfl
@[simp]theorem Ye:qm .pow=vg:=rfl
@[simp]theorem SM:pA (.int i) (.int j)=some (.val (.int (i+j))):=rfl
@[simp]theorem Sv:pA (.lst ds) (.lst es)=if ds.length+es.length<=lim then some (.own (ds++es))else none:=rfl
@[simp]theorem Ss:pA (.tup ds) (.tup es)=if ds.length+es.length<=lim then some (.val (.tup (ds++es)))else none:=rfl
@[simp]theorem Rr:vy (.int i) (.int j)=some (.val (.int (i-j))):=rfl
@[simp]theorem R3:oU (.int i) (.int j)=if((-18446744073709551616<i/\i<18446744073709551616)\/(-18446744073709551616<j/\j<18446744073709551616))then some (.val (.int (i*j)))else none:=rfl
@[simp]theorem Ql:pP (.int i) (.int j)=if 0<j/\j<1606938044258990275541962092341162602522202993782792835301376 then some (.val (.int (i/j)))else none:=rfl
@[simp]theorem S8:vq (.int i) (.int j)=if 0<j then some (.val (.int (i%j)))else none:=rfl
@[simp]theorem S7:vg (.int i) (.int j)=if 0<=j/\j<=1000/\i.natAbs<18446744073709551616 then some (.val (.int (i^j.toNat)))else none:=rfl
@[simp]theorem Ys:Aa (.lst ds) (.int i)=(at' ds i).map .val:=rfl
@[simp]theorem Xk:Aa (.tup ds) (.int i)=(at' ds i).map .val:=rfl
@[simp]theorem Wi:Ce (.int i)=some (.val (.int (-i))):=rfl
@[simp]theorem Sh:cm .eq (.int i) (.int j)=some (i==j):=rfl
@[simp]theorem S6:cm .ne (.int i) (.int j)=some (!(i==j)):=rfl
@[simp]theorem Vf:cm .eq (.bl b) (.bl b')=some (b==b'):=rfl
@[simp]theorem Vv:cm .ne (.bl b) (.bl b')=some (!(b==b')):=rfl
@[simp]theorem Rj:cm .lt (.int i) (.int j)=some (decide (i<j)):=rfl
@[simp]theorem Rk:cm .le (.int i) (.int j)=some (decide (i<=j)):=rfl
@[simp]theorem Rp:cm .gt (.int i) (.int j)=some (decide (j<i)):=rfl
@[simp]theorem RN:cm .ge (.int i) (.int j)=some (decide (j<=i)):=rfl
@[simp]theorem ZR:cm .Wx d .non=some (gR d):=rfl
@[simp]theorem Yz:cm .Bt d .non=some (!gR d):=rfl
@[simp]theorem Kw:blt .len [.lst ds]=some (.val (.int ds.length)):=rfl
@[simp]theorem KN:blt .len [.tup ds]=some (.val (.int ds.length)):=rfl
@[simp]theorem Jz:blt .list [.lst ds]=some (.own ds):=rfl
@[simp]theorem Je:blt .list [.tup ds]=some (.own ds):=rfl
@[simp]theorem Ha:blt .tuple [.lst ds]=some (.val (.tup ds)):=rfl
@[simp]theorem G6:blt .tuple [.tup ds]=some (.val (.tup ds)):=rfl
@[simp]theorem Uo:blt .max2 [.int i,.int j]=some (.val (.int (if i<j then j else i))):=rfl
@[simp]theorem YC:blt .all [.lst ds]=(ds.mapM tX).map fun bs=>.val (.bl (bs.all id)):=rfl
@[simp]theorem Ro:isVar (.var k)=some k:=rfl
@[simp]theorem Xq:pk (a::l) k=match(a::l)[k]?with|some (.val _ d)=>some d|some (.own _ ds)=>some (.lst ds)|some (.lent ds)=>some (.lst ds)|_=>none:=rfl
@[simp]theorem Uq:BV (a::l) k=match pk (a::l) k with|some (.lst ds)=>some ds|_=>none:=rfl
@[simp]theorem Vt:cR (some k) e ρ=lift (pk ρ k) ρ:=rfl
@[simp]theorem Vx:cR none e ρ=(e ρ).bind fun r ρ=>.ok r.d ρ:=rfl
@[simp]theorem R7{y:Option Nat}:ig (some k) e y f ρ=(lift (pk ρ k) ρ).bind fun _ ρ=>(cR y f ρ).bind fun y ρ=>(lift (pk ρ k) ρ).bind fun x ρ=>.ok (x,y) ρ:=rfl
@[simp]theorem Rm{y:Option Nat}:ig none e y f ρ=(cR none e ρ).bind fun x ρ=>(cR y f ρ).bind fun y ρ=>.ok (x,y) ρ:=rfl
@[simp]theorem Sw{es:List D}:dM (.own b ds) (some (.own b' es))=.own b es:=rfl
@[simp]theorem Ti:dM (.own b ds) (some (.val b' d))=.val b d:=rfl
@[simp]theorem Fy:dM a none=a:=by cases a<;>rfl
@[simp]theorem Bj:dM (.val b d) x=.val b d:=by cases x<;>rfl
@[simp]theorem SN:dM .aP x=.aP:=by cases x<;>rfl
@[simp]theorem xQ:dM (.lent ds) x=.lent ds:=by cases x<;>rfl
@[simp]theorem VR:cu ρ [k] true d=put ρ k (.val false d):=rfl
@[simp]theorem Sd{is:List Nat}:cu ρ is false (.tup ds)=putAll ρ is ds:=by cases is<;>rfl
@[simp]theorem Nq:srcOf none e ρ=(e ρ).bind fun r ρ=>lift (items r.d) ρ:=rfl
@[simp]theorem Pk:srcOf (some k) e (a::l)=match(a::l)[k]?with|some (.val _ d)=>lift (items d) (a::l)|some (.own _ ds)=>.ok ds ((a::l).set k (.lent ds))|some (.lent ds)=>.ok ds (a::l)|_=>.stuck:=rfl
@[simp]theorem KD{ρ':List Sl}:aW ρ' none ρ=ρ:=rfl
@[simp]theorem Ln:aW (a::l) (some k) ρ=match(a::l)[k]?with|some (.own b ds)=>ρ.set k (.own b ds)|_=>ρ:=rfl
@[simp]theorem Vn{s:Sl}:put (a::l) k s=match(a::l)[k]?with|some t=>if fr t=true then some ((a::l).set k s)else none|none=>none:=MK ..
@[simp]theorem Ot:putAll ρ [] []=some ρ:=rfl
@[simp]theorem Kg{is:List Nat}:putAll ρ (k::is) (d::ds)=(put ρ k (.val false d)).bind fun ρ=>putAll ρ is ds:=rfl
theorem Qw{as:List Arg}{Q:R->List Sl->Prop}:(j6 c k as ρ).sat Q=match bO ρ as []with|none=>False|some args=>(c k args).sat fun r args'=>Q r (cO as args' 0 ρ):=by unfold j6;cases bO ρ as []with|none=>rfl|some args=>simp only;cases c k args<;>rfl
end
@[simp]theorem V0{α:Type}{a0:α}{l:List α}:at' (a0::l) 0=some a0:=by unfold at' gq;rw[if_pos (by decide),if_pos (by simp only[length_cons];omega)];rfl
@[simp]theorem Vs{α:Type}{a0 a1:α}{l:List α}:at' (a0::a1::l) 1=some a1:=by unfold at' gq;rw[if_pos (by decide),if_pos (by simp only[length_cons];omega)];rfl
@[simp]theorem abz{α:Type}{a0 a1 a2:α}{l:List α}:at' (a0::a1::a2::l) 2=some a2:=by unfold at' gq;rw[if_pos (by decide),if_pos (by simp only[length_cons];omega)];rfl
@[simp]theorem ZJ{α:Type}{a0 a1 a2 a3:α}{l:List α}:at' (a0::a1::a2::a3::l) 3=some a3:=by unfold at' gq;rw[if_pos (by decide),if_pos (by simp only[length_cons];omega)];rfl
@[simp]theorem at_4{α:Type}{a0 a1 a2 a3 a4:α}{l:List α}:at' (a0::a1::a2::a3::a4::l) 4=some a4:=by unfold at' gq;rw[if_pos (by decide),if_pos (by simp only[length_cons];omega)];rfl
@[simp]theorem at_5{α:Type}{a0 a1 a2 a3 a4 a5:α}{l:List α}:at' (a0::a1::a2::a3::a4::a5::l) 5=some a5:=by unfold at' gq;rw[if_pos (by decide),if_pos (by simp only[length_cons];omega)];rfl
@[simp]theorem at_6{α:Type}{a0 a1 a2 a3 a4 a5 a6:α}{l:List α}:at' (a0::a1::a2::a3::a4::a5::a6::l) 6=some a6:=by unfold at' gq;rw[if_pos (by decide),if_pos (by simp only[length_cons];omega)];rfl
@[simp]theorem at_7{α:Type}{a0 a1 a2 a3 a4 a5 a6 a7:α}{l:List α}:at' (a0::a1::a2::a3::a4::a5::a6::a7::l) 7=some a7:=by unfold at' gq;rw[if_pos (by decide),if_pos (by simp only[length_cons];omega)];rfl
theorem iB{α:Type}{l:List α}{i:Int}(h:0<=i)(h':i<l.length):at' l i=l[i.toNat]?:=by unfold at' gq;rw[if_pos h,if_pos h'];rfl
theorem Es{α:Type}{l:List α}{k:Nat}(h':k<l.length):at' l (k:Int)=l[k]?:=by rw[iB (by omega) (by omega)];simp
theorem Xg{α:Type}{l:List α}{i:Int}(h:(l.length:Int)<=i):at' l i=none:=by unfold at' gq;rw[if_pos (by omega),if_neg (by omega)];rfl
theorem T6{p:P}(h:∀i,p≠.var i):isVar p=none:=by cases p<;>first|rfl|exact absurd rfl (h _)
@[simp]theorem R6{d:D}:isVar (.con d)=none:=rfl
@[simp]theorem R4{o:Op}{p q:P}:isVar (.bin o p q)=none:=rfl
@[simp]theorem RM{p:P}:isVar (.neg p)=none:=rfl
@[simp]theorem RT{p:P}:isVar (.not p)=none:=rfl
@[simp]theorem Ry{p q:P}:isVar (.and p q)=none:=rfl
@[simp]theorem U0{p q:P}:isVar (.or p q)=none:=rfl
@[simp]theorem R8{o:Cm}{p q:P}:isVar (.cmp o p q)=none:=rfl
@[simp]theorem Lb{o o':Cm}{p q r:P}:isVar (.chain o o' p q r)=none:=rfl
@[simp]theorem RB{p q r:P}:isVar (.LC p q r)=none:=rfl
@[simp]theorem Su{as:List P}:isVar (.tup as)=none:=rfl
@[simp]theorem Sy{as:List P}:isVar (.lst as)=none:=rfl
@[simp]theorem RG{p q:P}:isVar (.idx p q)=none:=rfl
@[simp]theorem Kq{p q r:P}:isVar (.slice p q r)=none:=rfl
@[simp]theorem Nm{f:Nat}{as:List P}:isVar (.call f as)=none:=rfl
@[simp]theorem RP{b:Yt}{as:List P}:isVar (.blt b as)=none:=rfl
@[simp]theorem Qp{ts:List Ty}{p:P}:isVar (.inst ts p)=none:=rfl
@[simp]theorem Mq{p e:P}{n:Nat}{is:List Nat}{one:Bool}{t:Option P}:isVar (.comp p n is one t e)=none:=rfl
@[simp]theorem Tg{p q:P}:isVar (.tZ p q)=none:=rfl
@[simp]theorem R1{p:P}:isVar (.Tt p)=none:=rfl
@[simp]theorem Rh{p q:P}:isVar (.zip p q)=none:=rfl
noncomputable def jL(c:Call)(is:List Nat)(one:Bool)(test:Option P)(elt:P)(ds:List D)(ρ:List Sl):Res (List D):=turns is one (kO c test) (ev c elt) ds [] ρ
@[simp]theorem Xp{c:Call}{src elt:P}{n:Nat}{is:List Nat}{one:Bool}{test:Option P}{ρ:List Sl}:ev c (.comp src n is one test elt) ρ=(srcOf (isVar src) (ev c src) ρ).bind fun ds ρ₁=>if ds.length<=lim then(jL c is one test elt ds (ρ₁++replicate n .aP)).bind fun xs ρ₂=>.ok (.own xs) (aW ρ (isVar src) (ρ₂.take ρ₁.length))else .stuck:=(rfl)
noncomputable def Dt(c:Call)(n:Nat)(t:P)(body:List S)(k:Nat)(ρ:List Sl):Res Fl:=qw (iu (ev c t)) (gf c n body) k ρ
@[simp]theorem Z3{c:Call}{n:Nat}{t:P}{body:List S}{ρ:List Sl}:ex c n (.whl t body) ρ=Dt c n t body n ρ:=(rfl)
theorem rZ{α β γ:Type}{x:Res β}{f:β->List Sl->Res α}{g:α->List Sl->Res γ}:(x.bind f).bind g=x.bind fun a ρ=>(f a ρ).bind g:=by cases x<;>rfl
@[simp]theorem ab8{Γ:Tab}{w n i:Nat}{args:List Sl}{α:Type}{f:R->List Sl->Res α}{Q:α->List Sl->Prop}:((run Γ w n i args).bind f).sat Q=(run Γ w n i args).sat fun a ρ=>(f a ρ).sat Q:=bM
@[simp]theorem aaq{Γ:Tab}{w n i:Nat}{args:List Sl}{α β:Type}{f:R->List Sl->Res α}{g:α->List Sl->Res β}:((run Γ w n i args).bind f).bind g=(run Γ w n i args).bind fun a ρ=>(f a ρ).bind g:=rZ
@[simp]theorem YK{c:Call}{is:List Nat}{one:Bool}{test:Option P}{elt:P}{ds:List D}{ρ:List Sl}{α:Type}{f:List D->List Sl->Res α}{Q:α->List Sl->Prop}:((jL c is one test elt ds ρ).bind f).sat Q=(jL c is one test elt ds ρ).sat fun a ρ=>(f a ρ).sat Q:=bM
@[simp]theorem YM{c:Call}{is:List Nat}{one:Bool}{test:Option P}{elt:P}{ds:List D}{ρ:List Sl}{α β:Type}{f:List D->List Sl->Res α}{g:α->List Sl->Res β}:((jL c is one test elt ds ρ).bind f).bind g=(jL c is one test elt ds ρ).bind fun a ρ=>(f a ρ).bind g:=rZ
@[simp]theorem abq{is:List Nat}{one:Bool}{b:List Sl->Res Fl}{ds:List D}{ρ:List Sl}{α:Type}{f:Fl->List Sl->Res α}{Q:α->List Sl->Prop}:((gW is one b ds ρ).bind f).sat Q=(gW is one b ds ρ).sat fun a ρ=>(f a ρ).sat Q:=bM
@[simp]theorem Xc{α β:Type}{p:Prop}[Decidable p]{a:β}{ρ:List Sl}{f:β->List Sl->Res α}{Q:α->List Sl->Prop}:((lift (if p then some a else none) ρ).bind f).sat Q=(p/\(f a ρ).sat Q):=by by_cases h:p<;>simp[h,lift,Res.bind]
@[simp]theorem Yy{α β γ:Type}{p:Prop}[Decidable p]{a:β}{ρ:List Sl}{f:β->List Sl->Res α}{g:α->List Sl->Res γ}:((lift (if p then some a else none) ρ).bind f).bind g=(lift (if p then some a else none) ρ).bind fun a ρ=>(f a ρ).bind g:=rZ
@[simp]theorem bb_ite{α β:Type}{p:Prop}[Decidable p]{x y:Res β}{f:β->List Sl->Res α}:(if p then x else y).bind f=if p then x.bind f else y.bind f:=by by_cases h:p<;>simp[h]
@[simp]theorem abx{c:Call}{n k:Nat}{t:P}{b:List S}{ρ:List Sl}{α:Type}{f:Fl->List Sl->Res α}{Q:α->List Sl->Prop}:((Dt c n t b k ρ).bind f).sat Q=(Dt c n t b k ρ).sat fun a ρ=>(f a ρ).sat Q:=bM
@[simp]theorem ab6{α β:Type}{a:α}{ρ:List Sl}{f:α->List Sl->Res β}:(Res.ok a ρ).bind f=f a ρ:=rfl
@[simp]theorem R5{α β:Type}{f:α->List Sl->Res β}:(Res.stuck:Res α).bind f=.stuck:=rfl
@[simp]theorem U6{α:Type}{a:α}{ρ:List Sl}:lift (some a) ρ=.ok a ρ:=rfl
@[simp]theorem Ul{α:Type}{ρ:List Sl}:lift (none:Option α) ρ=.stuck:=rfl
noncomputable def Bc:List Sl->Nat->Sl->List Sl|[],_,_=>[]|t::ρ,0,s=>dM t (some s)::ρ|t::ρ,k+1,s=>t::Bc ρ k s
noncomputable def bk:List Arg->List Sl->List Sl->List Sl|.eX k::as,s::ss,ρ=>bk as ss (Bc ρ k s)|.dat _::as,_::ss,ρ=>bk as ss ρ|.tmp _::as,_::ss,ρ=>bk as ss ρ|_,_,ρ=>ρ
section
variable{t s:Sl}{ρ ss:List Sl}{k:Nat}{as:List Arg}{d:D}{ds:List D}
@[simp]theorem adG:Bc (t::ρ) 0 s=dM t (some s)::ρ:=rfl
@[simp]theorem adS:Bc (t::ρ) (k+1) s=t::Bc ρ k s:=rfl
@[simp]theorem QF:bk (.eX k::as) (s::ss) ρ=bk as ss (Bc ρ k s):=rfl
@[simp]theorem QL:bk (.dat d::as) (s::ss) ρ=bk as ss ρ:=rfl
@[simp]theorem Ov:bk (.tmp ds::as) (s::ss) ρ=bk as ss ρ:=rfl
@[simp]theorem abC:bk [] ss ρ=ρ:=rfl
end
theorem xu{s:Sl}:∀{ρ:List Sl}{k j:Nat},(Bc ρ k s)[j]?=(ρ[j]?).map fun t=>if j=k then dM t (some s)else t|[],_,_=>by simp[Bc]|t::ρ,0,0=>by simp[Bc]|t::ρ,0,j+1=>by simp[Bc]|t::ρ,k+1,0=>by simp[Bc]|t::ρ,k+1,j+1=>by have:=xu (s:=s) (ρ:=ρ) (k:=k) (j:=j);simp only[Bc,getElem?_cons_succ,this];congr 1;funext t;simp
theorem uw{as:List Arg}{ss:List Sl}:∀{ρ:List Sl}{i j:Nat},(cO as ss i ρ)[j]?=(ρ[j]?).map fun t=>dM t (aZ (i+j) as ss)|[],_,_=>by simp[cO]|t::ρ,i,0=>by simp[cO]|t::ρ,i,j+1=>by have:=uw (as:=as) (ss:=ss) (ρ:=ρ) (i:=i+1) (j:=j);simp only[cO,getElem?_cons_succ,this];rw[show i+1+j=i+(j+1)by omega]
def stb(t:Sl):Prop:=∀x,dM t x=t
def O4(ρ:List Sl):List Arg->Prop|[]=>True|.eX k::as=>(Arg.eX k∈as->∀t,ρ[k]?=some t->stb t)/\O4 ρ as|_::as=>O4 ρ as
theorem nU{ρ:List Sl}:∀{as:List Arg}{ρ':List Sl},O4 ρ as->(∀k,Arg.eX k∈as->∀t,ρ'[k]?=some t->ρ[k]?=some t\/stb t)->O4 ρ' as
 |[],_,_,_=>trivial|.eX k::as,ρ',h,g=>⟨fun hm t ht=>by
  rcases g k (by simp) t ht with e|e;.exact h.1 hm t e
  .exact e,nU h.2 fun j hj=>g j (by simp[hj])⟩|.dat _::as,ρ',h,g=>nU (as:=as) h fun j hj=>g j (by simp[hj])|.tmp _::as,ρ',h,g=>nU (as:=as) h fun j hj=>g j (by simp[hj])
theorem lE{k:Nat}:∀{as:List Arg}{ss:List Sl},Arg.eX k∉as->aZ k as ss=none|[],_,_=>by unfold aZ;rfl|.eX j::as,[],_=>rfl|.dat _::as,[],_=>rfl|.tmp _::as,[],_=>rfl|.eX j::as,s::ss,h=>by simp only[mem_cons,Arg.eX.injEq,not_or]at h;rw[aZ,if_neg (fun e=>h.1 e.symm),lE h.2]|.dat _::as,s::ss,h=>by simp only[mem_cons,not_or]at h;rw[aZ,lE h.2]|.tmp _::as,s::ss,h=>by simp only[mem_cons,not_or]at h;rw[aZ,lE h.2]
theorem yO:∀{as:List Arg}{ss ρ:List Sl},O4 ρ as->∀j,(bk as ss ρ)[j]?=(ρ[j]?).map fun t=>dM t (aZ j as ss)
 |[],ss,ρ,_,j=>by cases ss<;>simp[aZ]|.eX k::as,[],ρ,_,j=>by rw[show bk (.eX k::as) [] ρ=ρ from rfl];simp[aZ]|.dat d::as,[],ρ,_,j=>by rw[show bk (.dat d::as) [] ρ=ρ from rfl];simp[aZ]|.tmp d::as,[],ρ,_,j=>by rw[show bk (.tmp d::as) [] ρ=ρ from rfl];simp[aZ]|.dat _::as,s::ss,ρ,h,j=>by rw[QL,aZ];exact yO (as:=as) h j|.tmp _::as,s::ss,ρ,h,j=>by rw[Ov,aZ];exact yO (as:=as) h j|.eX k::as,s::ss,ρ,h,j=>by
   have h2:O4 (Bc ρ k s) as:=nU h.2 fun i hi t ht=>by rw[xu]at ht;cases e:ρ[i]?with|none=>rw[e]at ht;cases ht|some t0=>
      rw[e]at ht;by_cases c:i=k;.subst c;have hs:=h.1 hi t0 e;simp[hs (some s)]at ht;exact .inl (by rw[ht])
      .simp[c]at ht;exact .inl (by rw[ht])
   rw[QF,yO h2 j,xu,aZ];cases e:ρ[j]?with|none=>rfl|some t0=>
     simp only[Option.map_some];by_cases c:j=k
     . subst c;rw[if_pos rfl,if_pos rfl];by_cases hm:Arg.eX j∈as;.have hs:=h.1 hm t0 e;rw[hs (some s),hs]
       .rw[lE hm,Fy]
     .rw[if_neg c,if_neg (fun z=>c z.symm)]
theorem fL{ρ:List Sl}{k:Nat}{b:Bool}{ds:List D}(e:ρ[k]?=some (.own b ds)):∀{as:List Arg}{u:List Nat}{r:List Sl},k∈u->bO ρ as u=some r->Arg.eX k∉as
 |[],_,_,_,_=>by simp|.dat _::as,u,r,hu,h=>by simp only[bO,map_eq_some_iff]at h;obtain⟨r',h,_⟩:=h;simp[fL e hu h]|.tmp _::as,u,r,hu,h=>by simp only[bO,map_eq_some_iff]at h;obtain⟨r',h,_⟩:=h;simp[fL e hu h]|.eX i::as,u,r,hu,h=>by
   rw[bO]at h;have hi:i≠k:=by rintro rfl;rw[e]at h;simp[hu]at h
   have:Arg.eX k∉as:=by
    split at h;.obtain⟨r',h,_⟩:=map_eq_some_iff.mp h;exact fL e hu h
    . split at h;.cases h
      .obtain⟨r',h,_⟩:=map_eq_some_iff.mp h;exact fL e (by simp[hu]) h
    . split at h;.cases h
      .obtain⟨r',h,_⟩:=map_eq_some_iff.mp h;exact fL e (by simp[hu]) h
    .cases h
   simp[this];exact fun z=>hi z.symm
theorem fK{ρ:List Sl}:∀{as:List Arg}{u:List Nat}{r:List Sl},bO ρ as u=some r->O4 ρ as
 |[],_,_,_=>trivial|.dat _::as,u,r,h=>by obtain⟨r',h,_⟩:=map_eq_some_iff.mp h;exact fK (as:=as) h|.tmp _::as,u,r,h=>by obtain⟨r',h,_⟩:=map_eq_some_iff.mp h;exact fK (as:=as) h|.eX i::as,u,r,h=>by
   rw[bO]at h;split at h;.rename_i b d q;obtain⟨r',h,_⟩:=map_eq_some_iff.mp h;exact⟨fun _ t ht=>by rw[q]at ht;cases ht;exact fun x=>Bj,fK h⟩
   . rename_i b ds q;split at h;.cases h
     .obtain⟨r',h,_⟩:=map_eq_some_iff.mp h;exact⟨fun hm=>absurd hm (fL q (by simp) h),fK h⟩
   . rename_i ds q;split at h;.cases h
     .obtain⟨r',h,_⟩:=map_eq_some_iff.mp h;exact⟨fun _ t ht=>by rw[q]at ht;cases ht;exact fun x=>xQ,fK h⟩
   .cases h
theorem Uy{as:List Arg}{ss ρ r:List Sl}{u:List Nat}(h:bO ρ as u=some r):cO as ss 0 ρ=bk as ss ρ:=by apply List.ext_getElem?;intro j;rw[uw,yO (fK h),Nat.zero_add]
@[simp]theorem RX{c:Call}{k:Nat}{as:List Arg}{ρ:List Sl}:j6 c k as ρ=match bO ρ as []with|none=>.stuck|some args=>(c k args).bind fun r args'=>.ok r (bk as args' ρ):=by unfold j6;cases e:bO ρ as []with|none=>rfl|some args=>simp only[<-Uy (r:=args) e];cases c k args<;>rfl
theorem bC{c:Call}{is:List Nat}{one:Bool}{elt:P}(J:List Sl->Prop)(g:D->D){Q:List D->List Sl->Prop}{ds:List D}{ρ:List Sl}(j:J ρ)(h:∀d,d∈ds->∀ρ,J ρ->∃ρ1,cu ρ is one d=some ρ1/\(ev c elt ρ1).sat fun r ρ3=>g d=r.d/\J ρ3)(k:∀ρ,J ρ->Q (ds.map g) ρ):(jL c is one none elt ds ρ).sat Q:=wy J g j h k
theorem lY{c:Call}{is:List Nat}{one:Bool}{elt t:P}(J:List Sl->Prop)(g:D->Option D){Q:List D->List Sl->Prop}{ds:List D}{ρ:List Sl}(j:J ρ)(h:∀d,d∈ds->∀ρ,J ρ->∃ρ1,cu ρ is one d=some ρ1/\(ev c t ρ1).sat fun r ρ2=>∃b,r.d=.bl b/\if b=true then(ev c elt ρ2).sat fun r ρ3=>g d=some r.d/\J ρ3 else g d=none/\J ρ2)(k:∀ρ,J ρ->Q (ds.filterMap g) ρ):(jL c is one (some t) elt ds ρ).sat Q:=jD J g j (fun d hd ρ j=>by obtain⟨ρ1,e,h1⟩:=h d hd ρ j;refine⟨ρ1,e,?_⟩;rw[kO,iu,bM];refine h1.imp fun r ρ2⟨b,e,q⟩=>?_;rw[e];exact q) fun ρ j=>by simpa using k ρ j
theorem dY{c:Call}{n:Nat}{t:P}{body:List S}(J:Nat->List Sl->Prop){Q:Fl->List Sl->Prop}(h:∀m ρ,J m ρ->(ev c t ρ).sat fun r ρ1=>∃b,r.d=.bl b/\if b=true then(gf c n body ρ1).sat (fQ (fun ρ2=>∃m',m'<m/\J m' ρ2) Q)else Q .next ρ1):∀{k m:Nat}{ρ:List Sl},m<k->J m ρ->(Dt c n t body k ρ).sat Q|0,m,ρ,hk,_=>absurd hk (Nat.not_lt_zero _)|k+1,m,ρ,hk,j=>by unfold Dt;rw[qw,bM,iu,bM];refine(h m ρ j).imp fun r ρ1⟨b,e,q⟩=>?_;rw[e];show(if b=true then _ else _:Res Fl).sat Q;cases b with|false=>rw[if_neg (by simp)]at q;rw[if_neg (by simp)];exact q|true=>rw[if_pos rfl]at q;rw[if_pos rfl,bM];refine q.imp fun fl ρ2 q=>?_;cases fl with|next=>obtain⟨m',hm,j'⟩:=q;exact dY J h (lt_of_lt_of_le hm (Nat.lt_succ_iff.mp hk)) j'|cont=>obtain⟨m',hm,j'⟩:=q;exact dY J h (lt_of_lt_of_le hm (Nat.lt_succ_iff.mp hk)) j'|brk=>exact q|ret v=>exact q
@[simp]theorem adu:type_of%@HH.E1:=@HH.E1
@[simp]theorem adi:type_of%@HH.E2:=@HH.E2
@[simp]theorem adq:type_of%@HH.E3:=@HH.E3
@[simp]theorem ady:type_of%@HH.E4:=@HH.E4
@[simp]theorem adK:type_of%@HH.E5:=@HH.E5
@[simp]theorem adh:type_of%@HH.E6:=@HH.E6
@[simp]theorem adR:type_of%@HH.E7:=@HH.E7
@[simp]theorem adw:type_of%@HH.E8:=@HH.E8
@[simp]theorem aaz:type_of%@HH.E9:=@HH.E9
@[simp]theorem aam:type_of%@HH.E10:=@HH.E10
@[simp]theorem abW:type_of%@HH.E11:=@HH.E11
@[simp]theorem aaA:type_of%@HH.E12:=@HH.E12
@[simp]theorem aci:type_of%@HH.E13:=@HH.E13
@[simp]theorem abt:type_of%@HH.E14:=@HH.E14
@[simp]theorem acv:type_of%@HH.E15:=@HH.E15
@[simp]theorem aat:type_of%@HH.E16:=@HH.E16
@[simp]theorem acu:type_of%@HH.E17:=@HH.E17
@[simp]theorem XJ:type_of%@HH.T9:=@HH.T9
@[simp]theorem abo:type_of%@HH.E18:=@HH.E18
@[simp]theorem abe:type_of%@HH.E20:=@HH.E20
@[simp]theorem acd:type_of%@HH.E21:=@HH.E21
@[simp]theorem aaH:type_of%@HH.E22:=@HH.E22
@[simp]theorem ad5:type_of%@HH.X1:=@HH.X1
@[simp]theorem adm:type_of%@HH.X2:=@HH.X2
@[simp]theorem ad1:type_of%@HH.X3:=@HH.X3
@[simp]theorem ad0:type_of%@HH.X4:=@HH.X4
@[simp]theorem adt:type_of%@HH.X5:=@HH.X5
@[simp]theorem ado:type_of%@HH.X6:=@HH.X6
@[simp]theorem ad6:type_of%@HH.X7:=@HH.X7
@[simp]theorem adA:type_of%@HH.X8:=@HH.X8
@[simp]theorem adB:type_of%@HH.X9:=@HH.X9
@[simp]theorem ab3:type_of%@HH.X10:=@HH.X10
@[simp]theorem abR:type_of%@HH.Xn:=@HH.Xn
@[simp]theorem aco:type_of%@HH.X12:=@HH.X12
@[simp]theorem aai:type_of%@HH.Xw:=@HH.Xw
@[simp]theorem ZP:type_of%@HH.X14:=@HH.X14
@[simp]theorem abh:type_of%@HH.iu.eq_1:=@HH.iu.eq_1
@[simp]theorem ab7:type_of%@HH.evs.eq_1:=@HH.evs.eq_1
@[simp]theorem Z1:type_of%@HH.evs.eq_2:=@HH.evs.eq_2
@[simp]theorem aaB:type_of%@HH.vY.eq_1:=@HH.vY.eq_1
@[simp]theorem aaL:type_of%@HH.vY.eq_2:=@HH.vY.eq_2
@[simp]theorem aaQ:type_of%@HH.kO.eq_1:=@HH.kO.eq_1
@[simp]theorem acs:type_of%@HH.kO.eq_2:=@HH.kO.eq_2
@[simp]theorem abF:type_of%@HH.mL.eq_1:=@HH.mL.eq_1
@[simp]theorem Wc:type_of%@HH.bO.eq_1:=@HH.bO.eq_1
@[simp]theorem Wg:type_of%@HH.bO.eq_2:=@HH.bO.eq_2
@[simp]theorem Vk:type_of%@HH.bO.eq_3:=@HH.bO.eq_3
@[simp]theorem TV:type_of%@HH.bO.eq_4:=@HH.bO.eq_4
@[simp]theorem U8:type_of%@HH.cO.eq_1:=@HH.cO.eq_1
@[simp]theorem Vi:type_of%@HH.cO.eq_2:=@HH.cO.eq_2
@[simp]theorem Ug:type_of%@HH.aZ.eq_1:=@HH.aZ.eq_1
@[simp]theorem Wb:type_of%@HH.aZ.eq_2:=@HH.aZ.eq_2
@[simp]theorem Uc:type_of%@HH.aZ.eq_3:=@HH.aZ.eq_3
@[simp]theorem Vc:type_of%@HH.aZ.eq_4:=@HH.aZ.eq_4
end HH
end
section
namespace HH
open PySem L2 PySem.Spec PyProof.Rows
section
variable{X:Cx}{c:Call}{a b:Expr}{pa pb:P}{pos:Pos}
theorem pY:∀{ds:List D}{ns:List Int},ds.mapM iQ=some ns->ds=ns.map D.int|[],ns,h=>by simp at h;subst h;rfl|d::ds,ns,h=>by simp[List.mapM_cons,Option.bind_eq_some_iff]at h;obtain⟨i,e1,ms,e2,rfl⟩:=h;rw[dI e1,pY e2];rfl
theorem jl{K:PySem.W.Frag}{F:Hp}:∀{ns:List Int}{ys:List V},aF K F ys (ns.map D.int)->ys=ns.map V.int|[],ys,h=>by rw[h.fc];rfl|n::ns,ys,h=>by obtain⟨v,r,rfl,h1,t⟩:=h.cF;rw[Rep]at h1;rw[h1,jl t];rfl
theorem tE{ns:List Int}{us:List Value}(h:Vals (ns.map V.int) us){i:Nat}{v:Value}(e:us.toArray[i]?=some v):∃t,v=.int (ns.getD i 0) t:=by
 have e:us[i]?=some v:=by simpa using e
 have hi:i<us.length:=(List.getElem?_eq_some_iff.mp e).1;have hl:=h.length;rw[length_map]at hl;have g:(ns.map V.int)[i]?=some (.int (ns.getD i 0)):=by rw[getElem?_map,getElem?_eq_getElem (by omega)];simp[getD,show i<ns.length by omega]
 obtain⟨w,g1,g2⟩:=h.get g;rw[e]at g1;cases g1;exact g2
theorem walked{pins:List (Addr×Obj)}{σ:L2.St}{H:Hp}{s:Shared}{p:Addr}{ys:List V}(I:L2.Inv X pins σ H s)(hc:X.calm=true)(hq:dq X.K H p ys\/gO X.K H p ys){Q:Value->Shared->Prop}{E:Value->Shared->Prop}(k:∀(it:Addr)(us:List Value)(s₂:Shared)(St:Nat->Heap->Prop),Vals ys us->Walks X.prog X.w X.A.in1 it [it,p] [it] us.toArray.size (fun i v=>us.toArray[i]?=some v) St->St 0 s₂.heap->(∀ b ∈[it,p],b<s₂.heap.objs.size)->(∀h' tk,(∀b o,b∉[it]->s₂.heap.get? b=some o->h'.get? b=some o)->L2.Inv X pins σ H {s₂ with heap:=h',toks:=tk})->Q (.ref it) s₂):wpAny (model X.prog X.w) X.A.in1 (pyIter (.ref p)) Q E s:=by
 have hh:X.A.in1.handled=none:=I.ok.hd hc;rcases hq with hq|hq
 . obtain⟨us,rv,pl,hz⟩:=I.list hq;have pl:=pl.isList;have hlt:p<s.heap.objs.size:=by obtain⟨o,h1,_⟩:=pl;exact lt_size h1
   refine wpAny_pyIter_list pl (k s.heap.objs.size us _ _ rv (Walks.list hh s.heap.objs.size p (ne_of_lt hlt) us.toArray) ⟨⟨_,get?_push_size _ rfl,rfl,rfl⟩,?_⟩ ?_ fun h' tk kp=>?_);.obtain⟨o,h1,h2⟩:=pl;exact⟨o,get?_push_of_some _ h1,h2⟩
   . intro b hb;obtain⟨o,h1,_⟩:=pl;simp at hb;rcases hb with rfl|rfl;.exact lt_size (get?_push_size _ rfl)
     .exact lt_size (get?_push_of_some _ h1)
   .exact I.kept (fun b o z=>kp b o (by simp;exact ne_of_lt (lt_size z)) (get?_push_of_some _ z))
 . obtain⟨us,rv,pl,hz⟩:=I.tuple hq;have hlt:p<s.heap.objs.size:=by obtain⟨o,h1,_⟩:=pl;exact lt_size h1
   refine wpAny_pyIter_tuple pl (k s.heap.objs.size us _ _ rv (Walks.tuple hh s.heap.objs.size p (ne_of_lt hlt) us.toArray) ⟨⟨_,get?_push_size _ rfl,rfl,rfl⟩,?_⟩ ?_ fun h' tk kp=>?_);.obtain⟨o,h1,h2⟩:=pl;exact⟨o,get?_push_of_some _ h1,h2⟩
   . intro b hb;obtain⟨o,h1,_⟩:=pl;simp at hb;rcases hb with rfl|rfl;.exact lt_size (get?_push_size _ rfl)
     .exact lt_size (get?_push_of_some _ h1)
   .exact I.kept (fun b o z=>kp b o (by simp;exact ne_of_lt (lt_size z)) (get?_push_of_some _ z))
theorem mY(ns:List Int):∀k,k<=ns.length->preSum (fun i=>ns.getD i 0) k=(ns.take k).sum|0,_=>by simp[preSum]|k+1,h=>by rw[preSum,mY ns k (by omega),List.take_succ,List.sum_append];simp[getD,show k<ns.length by omega]
theorem Uk(hc:X.calm=true):eO X (.builtin "sum") (Ho X.K fun x=>blt .sum [x]):=by
 rintro pins s σ H xs us Q I r⟨x,hx,F,d,r',sm,px,he,k⟩;obtain⟨ns,e1,he⟩:=map_some (show((items d).bind fun ds=>ds.mapM iQ).map _=some r' from he);subst he;obtain⟨ds,e2,e3⟩:=cC e1;obtain⟨p,ys,rfl,hq,rs⟩:=px.items sm e2;rw[pY e3]at rs;have ey:=jl rs;subst hx;obtain⟨u,rfl,rx⟩:=r.one;cases rx;refine call_sum_walkG (walked I hc hq fun it us s₂ St rv W h0 hl kp=>?_);subst ey;have hlen:us.toArray.size=ns.length:=by rw[size_toArray,<-rv.length,length_map]
 refine⟨it,_,_,_,_,St,fun i=>ns.getD i 0,rfl,W,h0,hl,fun i v e=>tE rv e,fun h' tk t' kk=>?_⟩;rw[hlen,mY ns _ (le_refl _),List.take_length];exact⟨.int _,H,kp h' tk kk,⟨t',rfl⟩,cB.dm sm (cj _) k⟩
theorem Gj{ns:List Int}{m:Int}(hm:ns.min?=some m):ns.getD (argBest (fun i j=>decide (ns.getD i 0<ns.getD j 0)) (ns.length-1)) 0=m:=by
 have hne:ns≠[]:=by rintro rfl;simp at hm
 have hl:0<ns.length:=List.length_pos_iff.mpr hne;obtain⟨h1,h2⟩:=argBest_lt (fun i=>ns.getD i 0) (ns.length-1);have hb:=List.min?_eq_some_iff.mp hm;generalize argBest (fun i j=>decide (ns.getD i 0<ns.getD j 0)) (ns.length-1)=j at*;have hj:j<ns.length:=by omega
 have hmem:ns.getD j 0∈ns:=by simp[getD,hj]
 obtain⟨q,hq,e⟩:=List.getElem_of_mem hb.1;have h3:=h2 q (by omega);simp only[getD,getElem?_eq_getElem hq,Option.getD_some]at h3;rw[e]at h3;have h4:=hb.2 _ hmem;have h3:ns.getD j 0<=m:=h3;omega
theorem OD(hc:X.calm=true):eO X (.builtin "min") (Ho X.K fun x=>blt .vN [x]):=by
 rintro pins s σ H xs us Q I r⟨x,hx,F,d,r',sm,px,he,k⟩;obtain⟨ns,e1,he⟩:=cC (show((items d).bind fun ds=>ds.mapM iQ).bind _=some r' from he);obtain⟨m,hm,he⟩:=map_some he;subst he;obtain⟨ds,e2,e3⟩:=cC e1;obtain⟨p,ys,rfl,hq,rs⟩:=px.items sm e2;rw[pY e3]at rs;have ey:=jl rs;subst hx;obtain⟨u,rfl,rx⟩:=r.one;cases rx;refine call_min_walk (walked I hc hq fun it us s₂ St rv W h0 hl kp=>?_);subst ey;have hlen:us.toArray.size=ns.length:=by rw[size_toArray,<-rv.length,length_map]
 have hpos:0<ns.length:=by cases ns with|nil=>simp at hm|cons _ _=>simp
 refine⟨it,_,_,_,_,St,_,rfl,W,h0,hl,by rw[hlen];exact hpos,CmpOf.ints_lt (fun i=>ns.getD i 0) (fun i v e=>tE rv e),fun v h' tk hv kk=>?_⟩;rw[hlen]at hv;obtain⟨t,rfl⟩:=tE rv hv;rw[Gj hm];exact⟨.int _,H,kp h' tk kk,⟨t,rfl⟩,cB.dm sm (cj _) k⟩
theorem boot_sum:bootBuiltins "sum"=some (.builtin "sum"):=by decide+kernel
theorem vZ{x:Str}{p':Pos}(hx:x="sum")(hc:X.calm=true)(hg:Gl X x)(hm:X.mg x=none)(ha:SX X c a pa)(hs:starEach [a] X.env=(false,eval a X.env)::starEach [] X.env:=by rfl):SX X c (.Call (.Name x p') [a] [] pos) (.blt .sum [pa]):=by subst hx;exact mX (fun h=>fO (Uk hc) hg hm boot_sum h (he:=hs)) ha (fun ρ=>rfl) rfl hs
theorem nP{x:Str}{p':Pos}(hx:x="min")(hc:X.calm=true)(hg:Gl X x)(hm:X.mg x=none)(ha:SX X c a pa)(hs:starEach [a] X.env=(false,eval a X.env)::starEach [] X.env:=by rfl):SX X c (.Call (.Name x p') [a] [] pos) (.blt .vN [pa]):=by subst hx;exact mX (fun h=>fO (OD hc) hg hm boot_min h (he:=hs)) ha (fun ρ=>rfl) rfl hs
theorem xq{K:PySem.W.Frag}{F H:Hp}{v:V}{d:D}(h:cU K F H v d)(f:flat d=true):jN v=true:=by cases d with|non=>rw[h.non];rfl|bl _=>rw[h.bl];rfl|int _=>rw[h.int];rfl|str _=>rw[h.str];rfl|tup _=>cases f|lst _=>cases f|cY _=>cases f|dv _ _=>cases f
theorem abA{K:PySem.W.Frag}{F H:Hp}{v u:V}{d e:D}(h:cU K F H v d)(h':cU K F H u e)(f:flat d=true)(g:flat e=true):JL v u=iG d e:=by cases d with
 |tup _=>cases f|lst _=>cases f|cY _=>cases f|dv _ _=>cases f|non=>rw[h.non];cases e with|tup _=>cases g|lst _=>cases g|cY _=>cases g|dv _ _=>cases g|non=>rw[h'.non];rfl|bl _=>rw[h'.bl];rfl|int _=>rw[h'.int];rfl|str _=>rw[h'.str];rfl
 |bl _=>rw[h.bl];cases e with|tup _=>cases g|lst _=>cases g|cY _=>cases g|dv _ _=>cases g|non=>rw[h'.non];rfl|bl _=>rw[h'.bl];rfl|int _=>rw[h'.int];rfl|str _=>rw[h'.str];rfl
 |int _=>rw[h.int];cases e with|tup _=>cases g|lst _=>cases g|cY _=>cases g|dv _ _=>cases g|non=>rw[h'.non];rfl|bl _=>rw[h'.bl];rfl|int _=>rw[h'.int];rfl|str _=>rw[h'.str];rfl
 |str _=>rw[h.str];cases e with|tup _=>cases g|lst _=>cases g|cY _=>cases g|dv _ _=>cases g|non=>rw[h'.non];rfl|bl _=>rw[h'.bl];rfl|int _=>rw[h'.int];rfl|str _=>rw[h'.str];rfl
theorem O3{K:PySem.W.Frag}{F H:Hp}{v:V}{d:D}(h:cU K F H v d)(f:flat d=true):∀{ds:List D}{vs:List V},aF K F vs ds->ds.all flat=true->vs.all jN=true/\inV v vs=ds.any fun y=>iG y d|[],vs,r,_=>by rw[r.fc];exact⟨rfl,rfl⟩|e::ds,vs,r,g=>by obtain⟨w,ws,rfl,h1,t⟩:=r.cF;rw[all_cons,and_eq_true]at g;obtain⟨i1,i2⟩:=O3 h f t g.2;have q:cU K F H w e:=.inl h1;refine⟨by rw[all_cons,xq q g.1,i1];rfl,?_⟩;unfold inV at i2 ⊢;rw[any_cons,any_cons,i2,abA q h g.1 f]
theorem Hm:dW X (compareOp .In) (rD X.K (mL .inn)):=by rintro pins s σ H x y v u Q I rx ry⟨F,d,e,r,sm,px,py,he,k⟩;obtain⟨t,e1,e2⟩:=map_some (show(m6 false d e).map _=some r from he);subst e2;obtain⟨ds,e3,e4⟩:=cC e1;obtain⟨hf,e5⟩:=bD e4;rw[and_eq_true]at hf;obtain⟨p,xs,rfl,hq,rs⟩:=py.items sm e3;obtain⟨i1,i2⟩:=O3 px hf.1 rs hf.2;subst e5;refine Bd pins s σ H x _ v u Q I rx ry ⟨p,xs,rfl,hq,xq px hf.1,i1,?_⟩;rw[i2];exact cB.dm sm (dX _) k
theorem Bg:dW X (compareOp .NotIn) (rD X.K (mL .vM)):=by rintro pins s σ H x y v u Q I rx ry⟨F,d,e,r,sm,px,py,he,k⟩;obtain⟨t,e1,e2⟩:=map_some (show(m6 true d e).map _=some r from he);subst e2;obtain⟨ds,e3,e4⟩:=cC e1;obtain⟨hf,e5⟩:=bD e4;rw[and_eq_true]at hf;obtain⟨p,xs,rfl,hq,rs⟩:=py.items sm e3;obtain⟨i1,i2⟩:=O3 px hf.1 rs hf.2;subst e5;refine rJ pins s σ H x _ v u Q I rx ry ⟨p,xs,rfl,hq,xq px hf.1,i1,?_⟩;rw[i2];exact cB.dm sm (dX _) k
end
end HH
end
section
namespace HH
open PySem
section
variable{i j:Int}{ds es:List D}{d:D}{b b':Bool}
@[simp]theorem Yl:qm .shl=Du:=rfl
@[simp]theorem YB:qm .shr=Ex:=rfl
@[simp]theorem Vg:qm .band=wU:=rfl
@[simp]theorem Tc:Du (.int i) (.int j)=if 0<=j/\j<=1000/\i.natAbs<18446744073709551616 then some (.val (.int (i*2^j.toNat)))else none:=rfl
@[simp]theorem RZ:Ex (.int i) (.int j)=if 0<=j then some (.val (.int (i/2^j.toNat)))else none:=rfl
@[simp]theorem Mu:wU (.int i) (.int j)=some (.val (.int (Builtin.bitAnd i j))):=rfl
@[simp]theorem Sg:oU (.lst ds) (.int i)=if 0<=i/\0<ds.length/\ds.length*i.toNat<=lim then some (.own (replicate i.toNat ds).flatten)else none:=rfl
@[simp]theorem S5:oU (.tup ds) (.int i)=if 0<=i/\0<ds.length/\ds.length*i.toNat<=lim then some (.val (.tup (replicate i.toNat ds).flatten))else none:=rfl
@[simp]theorem Z6:cm .isT (.bl b) (.bl true)=some b:=rfl
@[simp]theorem Yj:cm .Wz (.bl b) (.bl true)=some (!b):=rfl
@[simp]theorem Yk:blt .sum [.lst ds]=(ds.mapM iQ).map fun ns=>.val (.int ns.sum):=rfl
@[simp]theorem We:blt .vN [.lst ds]=(ds.mapM iQ).bind fun ns=>ns.min?.map fun i=>.val (.int i):=rfl
end
@[simp]theorem ZL:type_of%@HH.X16:=@HH.X16
@[simp]theorem abD:type_of%@HH.X17:=@HH.X17
theorem gY{ns:List Int}:(ns.map D.int).mapM iQ=some ns:=by induction ns with|nil=>rfl|cons n ns ih=>simp[ih]
@[simp]theorem Rq{ns:List Int}:ns.mapM (iQ ∘ D.int)=some ns:=by rw[<-gY (ns:=ns),List.mapM_map]
@[simp]theorem UJ{bs:List Bool}:bs.mapM (tX ∘ D.bl)=some bs:=by induction bs with|nil=>rfl|cons b bs ih=>simp[ih]
theorem nQ{S:List Int}{i:Int}:((S.map D.int).any fun y=>iG y (.int i))=S.contains i:=by induction S with|nil=>rfl|cons s S ih=>rw[map_cons,any_cons,List.contains_cons,ih,pqi];rw[show(s==i)=(i==s)from Bool.eq_iff_iff.mpr ⟨fun h=>by simp at h ⊢;exact h.symm,fun h=>by simp at h ⊢;exact h.symm⟩]
theorem lg{S:List Int}:(S.map D.int).all flat=true:=by rw[all_eq_true];intro d hd;obtain⟨i,_,rfl⟩:=mem_map.mp hd;rfl
theorem M6{S:List Int}{i:Int}:cm .inn (.int i) (.lst (S.map D.int))=some (S.contains i):=by show m6 false _ _=_;unfold m6;simp only[qK,bind_some,j9,lg,Bool.and_true,nQ];rfl
theorem aaJ{S:List Int}{i:Int}:cm .inn (.int i) (.tup (S.map D.int))=some (S.contains i):=by show m6 false _ _=_;unfold m6;simp only[qF,bind_some,j9,lg,Bool.and_true,nQ];rfl
theorem Am{S:List Int}{i:Int}:cm .vM (.int i) (.lst (S.map D.int))=some (!S.contains i):=by show m6 true _ _=_;unfold m6;simp only[qK,bind_some,j9,lg,Bool.and_true,nQ];rfl
theorem Tp{S:List Int}{i:Int}:cm .vM (.int i) (.tup (S.map D.int))=some (!S.contains i):=by show m6 true _ _=_;unfold m6;simp only[qF,bind_some,j9,lg,Bool.and_true,nQ];rfl
theorem lr{n:Nat}{S:List Int}:cX (n+1) (.lst (S.map D.int))=true:=by rw[cX,all_eq_true];intro d hd;obtain⟨i,_,rfl⟩:=mem_map.mp hd;cases n<;>rfl
theorem lu:∀{S T:List Int},fj (S.map D.int) (T.map D.int)=(S==T)|[],[]=>by simp[fj]|[],_::_=>by simp[fj]|_::_,[]=>by simp[fj]|s::S,t::T=>by rw[map_cons,map_cons,fj,lu,pqi];rfl
theorem zy{S T:List Int}:cm .eq (.lst (S.map D.int)) (.lst (T.map D.int))=some (S==T):=by show wN _ _=_;unfold wN;rw[lr,lr,Y0,lu];rfl
theorem HJ{S T:List Int}:cm .ne (.lst (S.map D.int)) (.lst (T.map D.int))=some (!(S==T)):=by show rY _ _=_;unfold rY;rw[lr,lr,Y0,lu];rfl
theorem IV{S:List Int}:cm .eq (.lst (S.map D.int)) (.lst [])=some S.isEmpty:=by rw[show(.lst []:D)=.lst (([]:List Int).map D.int)from rfl,zy];cases S<;>rfl
theorem Hv{S:List Int}:cm .ne (.lst (S.map D.int)) (.lst [])=some (!S.isEmpty):=by rw[show(.lst []:D)=.lst (([]:List Int).map D.int)from rfl,HJ];cases S<;>rfl
theorem yH{α:Type}{l:List α}{x:α}:at' (l++[x]) (-1)=some x:=by
 unfold at' gq;rw[if_neg (by decide),if_pos (by simp only[length_append,List.length_singleton];omega)];have:(-1+((l++[x]).length:Int)).toNat=l.length:=by simp only[length_append,List.length_singleton];omega
 rw[this];simp
theorem bw{α:Type}{l:List α}{f:α->D}{k:Nat}{x:α}(h:l[k]?=some x):at' (l.map f) (k:Int)=some (f x):=by have hk:=(List.getElem?_eq_some_iff.mp h).1;rw[Es (by simpa using hk),getElem?_map,h];rfl
theorem rT{n k:Nat}(h:k<n):gq n (k:Int)=some k:=by unfold gq;rw[if_pos (by omega),if_pos (by omega)];simp
theorem JK{α:Type}{l:List α}{i:Int}(h:0<=i)(h':i<l.length):∃x,at' l i=some x/\x∈l:=by
 rw[iB h h'];have hk:i.toNat<l.length:=by omega
 exact⟨l[i.toNat],by simp[hk],getElem_mem hk⟩
theorem fV{is:List Nat}{one:Bool}{body:List Sl->Res Fl}{g:Nat->D}{N:Nat}(J:Nat->List Sl->Prop){Q:Fl->List Sl->Prop}(hb:∀i ρ,i<N->J i ρ->∃ρ1,cu ρ is one (g i)=some ρ1/\(body ρ1).sat (fQ (J (i+1)) Q))(hq:∀ρ,J N ρ->Q .next ρ){ρ:List Sl}(h0:J 0 ρ):(gW is one body ((List.range N).map g) ρ).sat Q:=by
 refine bI (fun r ρ=>∃i,i<=N/\r=((List.range N).map g).drop i/\J i ρ) ?_ ?_ ⟨0,zero_le _,rfl,h0⟩
 . rintro d r ρ⟨i,hi,e,j⟩;have hlt:i<N:=by
    rcases Nat.lt_or_ge i N with h|h;.exact h
    .rw[List.drop_eq_nil_of_le (by simpa using h)]at e;cases e
   rw[drop_eq_getElem_cons (by simpa using hlt)]at e;injection e with e1 e2;simp at e1;subst e1;obtain⟨ρ1,h1,h2⟩:=hb i ρ hlt j;refine⟨ρ1,h1,h2.imp fun fl ρ2 q=>?_⟩;cases fl with|next=>exact⟨i+1,hlt,e2,q⟩|cont=>exact⟨i+1,hlt,e2,q⟩|brk=>exact q|ret v=>exact q
 . rintro ρ⟨i,hi,e,j⟩;have:i=N:=by have hl:=congrArg List.length e;simp at hl;omega
   subst this;exact hq ρ j
theorem qD{c:Call}{is:List Nat}{one:Bool}{elt:P}{t:Option P}(J:List Sl->Prop)(P:D->Prop){Q:List D->List Sl->Prop}{ds:List D}{ρ:List Sl}(j:J ρ)(h:∀d,d∈ds->∀ρ,J ρ->∃ρ1,cu ρ is one d=some ρ1/\(kO c t ρ1).sat fun b ρ2=>if b=true then(ev c elt ρ2).sat fun r ρ3=>P r.d/\J ρ3 else J ρ2)(k:∀xs ρ,J ρ->xs.length<=ds.length->(∀x∈xs,P x)->Q xs ρ):(jL c is one t elt ds ρ).sat Q:=by suffices hh:∀(ds:List D)(acc:List D)(ρ:List Sl),J ρ->(∀x∈acc,P x)->(∀d,d∈ds->∀ρ,J ρ->∃ρ1,cu ρ is one d=some ρ1/\(kO c t ρ1).sat fun b ρ2=>if b=true then(ev c elt ρ2).sat fun r ρ3=>P r.d/\J ρ3 else J ρ2)->(turns is one (kO c t) (ev c elt) ds acc ρ).sat fun xs ρ=>J ρ/\(∀x∈xs,P x)/\xs.length<=acc.length+ds.length from(hh ds [] ρ j (by simp) h).imp fun xs ρ⟨q1,q2,q3⟩=>k xs ρ q1 (by simpa using q3) q2;intro ds;induction ds with|nil=>intro acc ρ j ha _;rw[turns];exact⟨j,ha,by simp⟩|cons d r ih=>
   intro acc ρ j ha h;obtain⟨ρ1,e,h1⟩:=h d (by simp) ρ j;rw[turns,e];show((kO c t ρ1).bind _).sat _;rw[bM];refine h1.imp fun b ρ2 q=>?_
   cases b with|true=>
     rw[if_pos rfl]at q;rw[if_pos rfl,bM];refine q.imp fun x ρ3⟨p,j3⟩=>?_;refine(ih (acc++[x.d]) ρ3 j3 (fun y hy=>?_) fun d' hd'=>h d' (by simp[hd'])).imp fun xs ρ⟨q1,q2,q3⟩=>⟨q1,q2,by simp at q3 ⊢;omega⟩;rcases mem_append.mp hy with hy|hy;.exact ha y hy
     .rw[mem_singleton.mp hy];exact p|false=>rw[if_neg (by simp)]at q;rw[if_neg (by simp)];exact(ih acc ρ2 q ha fun d' hd'=>h d' (by simp[hd'])).imp fun xs ρ⟨q1,q2,q3⟩=>⟨q1,q2,by simp at q3 ⊢;omega⟩
theorem RD{c:Call}{is:List Nat}{one:Bool}{elt:P}(J:List Sl->Prop)(P:D->Prop){Q:List D->List Sl->Prop}{ds:List D}{ρ:List Sl}(j:J ρ)(h:∀d,d∈ds->∀ρ,J ρ->∃ρ1,cu ρ is one d=some ρ1/\(ev c elt ρ1).sat fun r ρ3=>P r.d/\J ρ3)(k:∀xs ρ,J ρ->xs.length=ds.length->(∀x∈xs,P x)->Q xs ρ):(jL c is one none elt ds ρ).sat Q:=by suffices hh:∀(ds:List D)(acc:List D)(ρ:List Sl),J ρ->(∀x∈acc,P x)->(∀d,d∈ds->∀ρ,J ρ->∃ρ1,cu ρ is one d=some ρ1/\(ev c elt ρ1).sat fun r ρ3=>P r.d/\J ρ3)->(turns is one (kO c none) (ev c elt) ds acc ρ).sat fun xs ρ=>J ρ/\(∀x∈xs,P x)/\xs.length=acc.length+ds.length from(hh ds [] ρ j (by simp) h).imp fun xs ρ⟨q1,q2,q3⟩=>k xs ρ q1 (by simpa using q3) q2;intro ds;induction ds with|nil=>intro acc ρ j ha _;rw[turns];exact⟨j,ha,by simp⟩|cons d r ih=>
   intro acc ρ j ha h;obtain⟨ρ1,e,h1⟩:=h d (by simp) ρ j;rw[turns,e];show((kO c none ρ1).bind _).sat _;rw[kO];show((ev c elt ρ1).bind _).sat _;rw[bM];refine h1.imp fun x ρ3⟨p,j3⟩=>?_;refine(ih (acc++[x.d]) ρ3 j3 (fun y hy=>?_) fun d' hd'=>h d' (by simp[hd'])).imp fun xs ρ⟨q1,q2,q3⟩=>⟨q1,q2,by simp at q3 ⊢;omega⟩;rcases mem_append.mp hy with hy|hy;.exact ha y hy
   .rw[mem_singleton.mp hy];exact p
inductive A3(a b c:Prop):Prop where|mk(ha:a)(hb:b)(hc:c)
inductive A4(a b c d:Prop):Prop where|mk(ha:a)(hb:b)(hc:c)(hd:d)
inductive A5(a b c d e:Prop):Prop where|mk(ha:a)(hb:b)(hc:c)(hd:d)(he:e)
inductive A6(a b c d e f:Prop):Prop where|mk(ha:a)(hb:b)(hc:c)(hd:d)(he:e)(hf:f)
inductive A7(a b c d e f g:Prop):Prop where|mk(ha:a)(hb:b)(hc:c)(hd:d)(he:e)(hf:f)(hg:g)
inductive A8(a b c d e f g h:Prop):Prop where|mk(ha:a)(hb:b)(hc:c)(hd:d)(he:e)(hf:f)(hg:g)(hh:h)
inductive A9(a b c d e f g h i:Prop):Prop where|mk(ha:a)(hb:b)(hc:c)(hd:d)(he:e)(hf:f)(hg:g)(hh:h)(hi:i)
end HH
end
section
namespace HH
open PySem L2 PySem.Spec PyProof.Rows
section
variable{X:Cx}{c:Call}{n:Nat}{e a b d tg:Expr}{p pa pb pd:P}{pos:Pos}
theorem QB{g:TG}{is:List Nat}(he:SX X c e p)(hg:PG X tg g)(hgo:Cv X.K (fun ρ d=>cu ρ is false d) g)(hs:swapsWithSole [tg] e pos.line X.env=pure false:=by rfl)(hw:swappedStores [tg] e X.env=pure none:=by rfl)(h1:(assignEach [tg] X.env).map (·.2)=[assign tg X.env]:=by rfl):SS X c n (.Assign [tg] e pos) (.Zk is p):=by
 refine dJ (Em he.ev hg hs hw h1) ?_;rintro D σ H⟨F,ρ,fl,ρ',g0,e,k⟩;rw[HH.X8]at e;obtain⟨r,ρ1,e1,e⟩:=ak e;refine⟨F,ρ,r,ρ1,g0,e1,fun v F1 H1 s1 rr=>?_⟩;obtain⟨F2,s2,_,rp⟩:=s1.cW rr;split at e;.rename_i ds hd;obtain⟨ρ2,ρ3,e2,e⟩:=ak e;cases e;have zz:=aD e2;clear e2;obtain⟨e2,e3⟩:=zz;rw[hd]at rp;exact hgo v (.tup ds) F2 ρ1 _ σ H1 _ s2.gs rp (by show cu ρ1 is false (.tup ds)=_;cases is<;>exact e2) fun σ' s3=>k F2 σ' H1 (s2.trans s3)
 .cases e
end
end HH
end
section
namespace HT
open PySem PySem.Spec PyProof.Rows
section
variable{prog:Program}{w:World}{A:Around}{E:Value->Shared->Prop}{s:Shared}
theorem vD{t sl:Addr}{its:Array Value}{vl vu:Value}{lo hi:Option Int}{Q:Value->Shared->Prop}(ht:IsTup s.heap t its)(hs:s.heap.IsSliceOf sl vl vu .none)(pl:IsPart vl lo)(pu:IsPart vu hi)(h1:dg its.size 0 lo=0)(h2:dg its.size its.size hi=its.size)(h:Q (.ref t) s):wpAny (model prog w) A (getItem (.ref t) (.ref sl)) Q E s:=by
 obtain⟨os,hos,hcs,hds⟩:=id hs;have hT:s.TypeIs (.ref sl) "slice":=⟨os,hos,hcs⟩;unfold getItem;try with_reducible refine wpAny_holding ?_
 first|refine wpAny_bind (wpAny_pure ?_)|skip
 refine wpAny_bind (wpAny_sequenceKey ht.typeIs (by decide) (wpAny_bind (wpAny_callSpecial?_slot (name:=Str.ofString "__getitem__") ht.typeIs slot_tuple_getitem (wpAny_call_entry slot_tuple_getitem ht.typeIs entry_tuple_getitem ?_ (args_tuple_getitem _ _)))));show wpAny _ _ (tupleItemsOf (.ref t)>>=_) _ _ s;refine wpAny_bind (tupleItemsOf_ ht (wpAny_bind (wpAny_typeOf hT ?_)));rw[if_pos (by decide)];refine wpAny_bind (gV hs pl pu ?_);have acQ:((((dg its.size 0 lo:Nat):Int)==0&&(1:Int)==1&&(dg its.size its.size hi-dg its.size 0 lo)==its.size)=true):=by rw[h1,h2];simp
 show wpAny _ _ (if(((dg its.size 0 lo:Nat):Int)==0&&(1:Int)==1&&(dg its.size its.size hi-dg its.size 0 lo)==its.size)=true then _ else _) _ _ s;rw[if_pos acQ];unfold Builtin.Tuple.tupleIsExact;refine wpAny_bind (wpAny_bind (wpAny_typeOf ht.typeIs (wpAny_pure ?_)));rw[if_pos (by decide)];exact wpAny_bind (wpAny_rule (wpAny_pure ⟨_,rfl,wpAny_pure h⟩))
end
end HT
namespace HH
open PySem L2 PySem.Spec PyProof.Rows
noncomputable def nst:Expr->Bool|.Starred _ _=>false|_=>true
theorem il{e:Expr}{es:List Expr}{env:Env}(h:nst e=true):starEach (e::es) env=(false,eval e env)::starEach es env:=by cases e with|Starred a b=>cases h|_=>rw[starEach];(intro e p z;cases z)
noncomputable def oH:List Int->List Expr->Option (List Expr)|[],es=>some es|i::is,.Constant (.int j) _ _::es=>if i=j then oH is es else none|_,_=>none
theorem sX{X:L2.Cx}{c:Call}:∀(is:List Int){es es':List Expr}{ps':List P},oH is es=some es'->SA X c es' ps'->SA X c es (is.map (fun i=>P.con (.int i))++ps')|[],es,es',ps',h,r=>by cases h;exact r|i::is,[],es',ps',h,r=>by cases h|i::is,e::es,es',ps',h,r=>by cases e with
   |Constant v k p=>cases v with
     |int j=>
       replace h:(if i=j then oH is es else none)=some es':=h;split at h;.rename_i hij;subst hij;exact yQ aa (sX is h r) (il rfl)
       .cases h|_=>cases h
   |_=>cases h
theorem rQ{n d:Nat}{o:Option Int}:HT.dg n d o=HH.dg n d o:=by cases o with|none=>rfl|some v=>
   show(if v<0 then(v+(n:Int)).toNat else min v.toNat n)=(if 0<=v then min v.toNat n else(v+n).toNat);by_cases h:0<=v;.rw[if_pos h,if_neg (by omega)]
   .rw[if_neg h,if_pos (by omega)]
theorem Ef{xs:List V}{lo hi:Option Int}:vm xs lo hi=HH.cut xs lo hi:=by unfold vm HH.cut;rw[rQ,rQ]
theorem aF.cut{K:PySem.W.Frag}{F:Hp}{ds:List D}{vs:List V}{lo hi:Option Int}(h:aF K F vs ds):aF K F (HH.cut vs lo hi) (HH.cut ds lo hi):=by unfold HH.cut;rw[h.length];exact(h.drop _).take _
section
variable{X:Cx}{c:Call}{n:Nat}{e a b:Expr}{p pa pb pl ph:P}{pos p2:Pos}{lo hi:Option Expr}
def aa8(K:PySem.W.Frag):V->Option Int->Option Int->Hp->VK->Prop:=fun x lo hi H Q=>∃F d r,aG F H/\cU K F H x d/\Oz d (some lo) (some hi)=some r/\∀v F' H',Ext F H F' H'->cB K F' H' H v r->Q v H'
theorem VJ:YF X (aa8 X.K):=by rintro pins s σ H x v vl vu lo hi sl Q I rx hs pl pu⟨F,d,r,sm,px,he,k⟩;cases d with|lst ds=>cases he;obtain⟨a,xs,rfl,hq,rs⟩:=px.lst sm;refine Ij pins s σ H _ v vl vu lo hi sl Q I rx hs pl pu ⟨a,xs,rfl,hq,fun p hp=>?_⟩;rw[Ef];exact vd sm rs.cut hp k|tup ds=>
   cases he;obtain⟨a,xs,rfl,hq,rs,rt⟩:=px.tup sm;by_cases hw:HT.dg xs.length 0 lo=0/\HT.dg xs.length xs.length hi=xs.length
   . cases rx;obtain⟨its,rv,ht,hz⟩:=I.tuple hq;have hlen:its.toArray.size=xs.length:=by rw[size_toArray];exact rv.length.symm
     refine⟨"tuple",_,slot_tuple_getitem.lookup,ht.typeIs,HT.vD ht hs pl pu (by rw[hlen];exact hw.1) (by rw[hlen];exact hw.2) ⟨.ref a,H,I,rfl,?_⟩⟩;have hc:HH.cut ds lo hi=ds:=by unfold HH.cut;rw[<-rs.length,<-rQ,<-rQ,hw.1,hw.2];simp[rs.length]
     rw[hc]at k;exact cB.dm sm rt k
   .refine Od pins s σ H _ v vl vu lo hi sl Q I rx hs pl pu ⟨a,xs,rfl,hq,hw,fun p hp=>?_⟩;rw[Ef];exact yc sm rs.cut hp k|_=>cases he
def SO(X:Cx)(c:Call)(o:Option Expr)(p:P):Prop:=∃t,PO X o t/\∀{σ:L2.St}{H F:Hp}{ρ ρ':List Sl}{d:D}{i:Option Int}{Q:Option Int->Hp->Prop},GS X.K F ρ σ H->cR (isVar p) (HH.ev c p) ρ=.ok d ρ'->part p d=some i->(∀F' H',aJ X.K F ρ σ H F' ρ' σ H'->Q i H')->t σ H Q
theorem JB:SO X c none (.con .non):=by refine⟨_,Ir,fun{σ H F ρ ρ' d i Q}g e h k=>?_⟩;cases(show some none=some i from h);have e':(HH.ev c (.con .non) ρ).bind (fun r ρ=>.ok r.d ρ)=.ok d ρ':=e;clear e;rw[HH.E2]at e';cases e';exact k F H (.refl g)
theorem Jy(h:SX X c e p)(hn:Vz p=false:=by rfl):SO X c (some e) p:=by obtain⟨t,h1,h2⟩:=h.cR;refine⟨_,Jg h1,fun{σ H F ρ ρ' d i Q}g e hp k=>?_⟩;unfold part at hp;rw[hn,if_neg (by decide)]at hp;obtain⟨j,e1,e2⟩:=map_some hp;cases dI e1;subst e2;exact h2 g e fun v F' H' s pv=>⟨j,pv.int,k F' H' s⟩
theorem uZ{d:D}{x y:Option (Option Int)}{r:R}(h:Oz d x y=some r):∃lo hi,x=some lo/\y=some hi:=by cases x with|none=>cases d<;>cases h|some lo=>cases y with|none=>cases d<;>cases h|some hi=>exact⟨lo,hi,rfl,rfl⟩
theorem CV(ha:SX X c a pa)(hl:SO X c lo pl)(hh:SO X c hi ph):SX X c (.Subscript a (.Slice lo hi none p2) pos) (.slice pa pl ph):=by obtain⟨tl,l1,l2⟩:=hl;obtain⟨th,h1,h2⟩:=hh;cases hv:isVar pa with|none=>refine⟨dZ (uF VJ ha.ev l1 h1) ?_,fun i h=>by cases h⟩;rintro σ H Q⟨F,ρ,r,ρ',g,e,k⟩;rw[HH.E14,hv]at e;obtain⟨x,ρ1,e1',ea⟩:=ak e;clear e;have WQ:(HH.ev c pa ρ).bind (fun r ρ=>.ok r.d ρ)=.ok x ρ1:=e1';clear e1';obtain⟨rx,ρ1',e1,e0⟩:=ak WQ;clear WQ;cases e0;obtain⟨y,ρ2,e2,eb⟩:=ak ea;clear ea;obtain⟨z,ρ3,e3,ec⟩:=ak eb;clear eb;obtain⟨e,e4⟩:=aD ec;clear ec;subst e4;obtain⟨lo',hi',q1,q2⟩:=uZ e;rw[q1,q2]at e;refine⟨F,ρ,rx,_,g,e1,fun v F1 H1 s1 rr=>?_⟩;obtain⟨F2,s2,_,rp⟩:=s1.cW rr;refine l2 s2.gs e2 q1 fun F3 H3 s3=>h2 s3.gs e3 q2 fun F4 H4 s4=>?_;have s5:=s2.trans (s3.trans s4);refine⟨F4,_,r,s4.gs.sub,.inl ((rp.mono s3.bU).mono s4.bU),e,fun v F5 H5 x rn=>?_⟩;exact k v F5 H5 (s5.trans (x.stp s5.gs)) (.later s5 (rn.nF s5.gs))|some i=>refine⟨dZ (uF VJ (ha.var i hv) l1 h1) ?_,fun i h=>by cases h⟩;rintro σ H Q⟨F,ρ,r,ρ',g,e,k⟩;rw[HH.E14,hv]at e;obtain⟨x0,ρ0,e0',ea⟩:=ak e;clear e;obtain⟨e0,Bx⟩:=aD e0';clear e0';subst Bx;obtain⟨y,ρ2,e2,eb⟩:=ak ea;clear ea;obtain⟨z,ρ3,e3,ec⟩:=ak eb;clear eb;obtain⟨x,ρ4,e5',ed⟩:=ak ec;clear ec;obtain⟨e5,e6⟩:=aD e5';clear e5';subst e6;obtain⟨e,e4⟩:=aD ed;clear ed;subst e4;obtain⟨lo',hi',q1,q2⟩:=uZ e;rw[q1,q2]at e;obtain⟨v,hv1,_⟩:=g.pk e0;refine⟨v,hv1,l2 g e2 q1 fun F3 H3 s3=>h2 s3.gs e3 q2 fun F4 H4 s4=>?_⟩;have s5:=s3.trans s4;obtain⟨v',hv2,pv⟩:=s5.gs.pk e5;rw[hv1]at hv2;cases hv2;refine⟨F4,_,r,s4.gs.sub,pv,e,fun v F5 H5 x rn=>?_⟩;exact k v F5 H5 (s5.trans (x.stp s5.gs)) (.later s5 (rn.nF s5.gs))
theorem Ph{i:Nat}{x:Str}{p':Pos}{op:Operator}{sub:Bool}(ho:La X op (RV fun i j=>if sub then i-j else i+j))(hN:X.N.Nodup)(hi:X.N[i]?=some x)(hx:Loc X.env.scope x)(he:SX X c e p)(hf:X.fn x=true\/X.env.scope.names.lookup x=some .local:=by first|exact .inl rfl|exact .inr rfl|assumption):SS X c n (.AugAssign (.Name x p') op e pos) (.aug i sub p):=by
 obtain⟨te,h1,h2⟩:=he.cR;refine dJ (Oq hN hi hx h1 ho hf) ?_;rintro D σ H⟨F,ρ,fl,ρ',g,e,k⟩;rw[HH.X16]at e;obtain⟨a0,ρ0,e0',ea⟩:=ak e;clear e;obtain⟨e0,Bx⟩:=aD e0';clear e0';subst Bx;obtain⟨b0,ρ1,e1,eb⟩:=ak ea;clear ea;obtain⟨v,hv1,pv⟩:=g.pk e0;refine⟨v,hv1,h2 g e1 fun u F1 H1 s1 pu=>?_⟩;split at eb;.rename_i i1 j1;obtain⟨ρ2,ρ3,e2',ec⟩:=ak eb;clear eb;cases ec;obtain⟨e2,e3⟩:=aD e2';clear e2';have rr:Rep X.K F1 (.int (if sub then i1-j1 else i1+j1)) (.int (if sub then i1-j1 else i1+j1)):=cj _;exact⟨i1,j1,pv.int,pu.int,k F1 _ H1 (aJ.put (r:=.val (.int _)) s1 rr e2)⟩
 .cases eb
theorem JP:La X .Add (RV fun i j=>if false then i-j else i+j):=Pb
theorem zx:La X .Sub (RV fun i j=>if true then i-j else i+j):=Qu
end
end HH
end
section
namespace L2
open PySem PySem.Spec PyProof.Rows
section
variable{X:Cx}{tg:Expr}
theorem vH:bootBuiltins "tuple"=some (.type "tuple"):=by decide+kernel
theorem jh:bootBuiltins "reversed"=some (.type "reversed"):=by decide+kernel
end
end L2
namespace HH
open PySem L2 PySem.Spec PyProof.Rows
section
variable{K:PySem.W.Frag}{F F1 H H1:Hp}{ρ ρ1:List Sl}{σ:L2.St}{ds:List D}{a:Addr}
theorem aF.rev:∀{ds:List D}{xs:List V},aF K F xs ds->aF K F xs.reverse ds.reverse|[],_,h=>by rw[h.fc];exact .nil|d::ds,_,h=>by obtain⟨v,r,rfl,h1,h2⟩:=h.cF;rw[reverse_cons,reverse_cons];exact(aF.rev h2).append (.cons h1 .nil)
end
section
variable{X:Cx}{c:Call}{a b d:Expr}{pa pb pd:P}{pos:Pos}
theorem Cq{o o':Cm}{op op':CmpOp}(ho:dW X (compareOp op) (rD X.K (mL o)))(ho':dW X (compareOp op') (rD X.K (mL o')))(ha:SX X c a pa)(hb:SX X c b pb)(hd:SX X c d pd)(hm:lastMarks [op,op'] [b,d]=false:=by with_unfolding_all rfl):ST X c (.Compare a [op,op'] [b,d] pos) (.chain o o' pa pb pd):=by
 obtain⟨ta,tb,h1,h2,h3⟩:=ha.ig hb;obtain⟨td,h4,h5⟩:=hd.cR;refine qW (Ci ho ho' h1 h2 h4 hm) fun σ H Q q=>jZ (t:=EY (rD X.K (mL o)) (rD X.K (mL o')) ta tb td) (fun Q z=>?_) q;obtain⟨F,ρ,r,ρ',g,e,k⟩:=z;rw[HH.E9]at e;obtain⟨xy,ρ1,e1,e⟩:=ak e;obtain⟨t,ρ2,e2,e⟩:=ak e;have zz:=aD e2;clear e2;obtain⟨e2,e3⟩:=zz;subst e3;have hfl:flat xy.2=true/\cm o xy.1 xy.2=some t:=by
  split at e2;.rename_i hf;exact⟨hf,e2⟩
  .cases e2
 obtain⟨hfl,e2⟩:=hfl;refine h3 g e1 fun v u F' H' s pv pu=>⟨F',xy.1,xy.2,.val (.bl t),s.gs.sub,pv,pu,by unfold mL;rw[e2];rfl,fun w F2 H2 x rn=>?_⟩;have s2:=s.trans (x.stp s.gs);have rn:Rep X.K F2 w (.bl t):=rn;rw[Rep]at rn;subst rn;refine⟨t,rfl,?_⟩;cases t with|false=>rw[if_neg Bool.false_ne_true]at e ⊢;cases e;exact k _ F2 H2 s2 (show Rep X.K F2 _ _ from dX _)|true=>
   rw[if_pos rfl]at e ⊢;obtain⟨z,ρ3,e3,e⟩:=ak e;obtain⟨e4,e5⟩:=aD e;subst e5;refine h5 s2.gs e3 fun w F3 H3 s3 pw=>⟨F3,xy.2,z,r,s3.gs.sub,?_,pw,e4,fun w' F4 H4 x4 rn=>?_⟩
   . have x1:=x.fs;have x2:=s3.bU;rcases pu with pu|⟨_,_,_,_,_,_,h⟩;.exact .inl ((pu.mono x1).mono x2)
     .rw[h]at hfl;cases hfl
   .have s4:=s2.trans s3;exact k w' F4 H4 (s4.trans (x4.stp s4.gs)) (.later s4 (rn.nF s4.gs))
end
end HH
end
section
namespace L2
open PySem PySem.Spec PyProof.Rows
theorem vI:bootBuiltins "list"=some (.type "list"):=by decide+kernel
end L2
namespace HH
open PySem L2 PySem.Spec PyProof.Rows
end HH
end
section
namespace PySem
namespace F
theorem FJ:typeLookup (.type "list_reverseiterator") "__len__"=pure none:=by rw[typeLookup_type,builtinLookup_eq_fast];kernel_rfl
theorem Jk:typeLookup (.type "list_reverseiterator") "__length_hint__"=pure (some (.builtin "list_reverseiterator.__length_hint__")):=by rw[typeLookup_type,builtinLookup_eq_fast];kernel_rfl
end F
section
variable{prog:Program}{w:World}{A:Around}{E:Value->Shared->Prop}{s:Shared}
theorem m5{it l:Addr}{items:Array Value}{Q:Bool->Shared->Prop}(hit:s.heap.IsRevIter it l ((items.size:Int)-1))(hl:s.heap.IsList l items)(hlen:items.size<=2^24)(h:∀b tk,s.toks<=tk->Q b {s with toks:=tk}):wpAny (model prog w) A (listLengthHint (.ref it)) Q E s:=by
 have hT:=hit.typeIs;unfold listLengthHint;refine wpAny_bind (wpAny_specialOf hT F.FJ ?_);show wpAny _ _ (specialOf (Value.ref it) (Str.ofString "__length_hint__")>>=_) _ _ _;refine wpAny_bind (wpAny_specialOf hT F.Jk ?_);generalize hid:("list_reverseiterator.__length_hint__":String)=id0;(fail_if_success(clear hid id0));wp_delta;rw[show splitId id0=some ("list_reverseiterator","__length_hint__")from by subst hid;decide+kernel];subst hid;refine wpAny_bind (wpAny_isInstance (b:=true) hT (by rw[isSubtype_type];kernel_rfl) ?_);rw[if_neg (by decide)];dsimp only;split;.refine wpAny_ite_split (fun hab=>absurd hab (by decide+kernel)) (fun _=>?_);exact wpAny_pure (h _ s.toks (le_refl _))
 .rename_i hq;exact absurd (by decide+kernel) hq
theorem gk{R:Result->Shared->Prop}{I l:Addr}{items:Array Value}(hh:A.handled=none)(hit:s.heap.IsRevIter I l ((items.size:Int)-1))(hl:s.heap.IsList l items)(hne:l≠I)(hlen:items.size<=2^24)(S:Addr)(hSI:S≠I)(hSl:S≠l)(res:Value)(c₀:Nat)(hS:s.heap.get? S=some {cls:=.type "list",data:=.seq #[] c₀})(hR:∀ h' tk acc' c',(∀ b o,b ≠ S->b ≠ I->s.heap.get? b=some o->h'.get? b=some o)->h'.get? S=some {cls:=.type "list",dict:=none,data:=.seq acc' c',slots:=#[]}->ItemsOf (fun i v=>items[items.size-1-i]?=some v) acc' items.size->R (.ok (.ret res)) {s with heap:=h',toks:=tk}):wpAny (model prog w) A.in1 (listExtendWith (.ref S) (.ref I) res) (fun fin s'=>match fin with|.done f=>R (.ok f) s'|.again c'=>c'.quiet=true/\codeAny (model prog w) A c' R s') (fun e s'=>R (.error e) s') s:=by
 have hSf:S∉[I,l]:=fun hm=>by
  rcases mem_cons.mp hm with e|hm;.exact hSI e
  .exact hSl (mem_singleton.mp hm)
 have W:=(Walks.listRev (prog:=prog) (w:=w) (A:=A.in1) hh I l hne items).toS;have hT:s.TypeIs (.ref I) "list_reverseiterator":=hit.typeIs;have key:∀(h:Heap)(c₁ tk:Nat),h.IsRevIter I l ((items.size:Int)-1-((0:Nat):Int))->h.IsList l items->(∀b o,b≠S->s.heap.get? b=some o->h.get? b=some o)->h.get? S=some {cls:=.type "list",data:=.seq #[] c₁}->codeAny (model prog w) A (.builtin "list.extend.loop" ⟨[.ref S,.ref I,res],[]⟩) R {s with heap:=h,toks:=tk}:=by
  intro h c₁ tk hi hl' hk hS₁;refine codeAny_extend_loopS W (by rw[sizeLine_eq];omega) S hSf res items.size 0 _ #[] c₁ rfl (zero_le _) ⟨zero_le _,hi,hl'⟩ hS₁ (ItemsOf.nil _) fun s' acc' c' hm hS' hacc=>?_;rw[Moved.eq_with hm];refine hR s'.heap s'.toks acc' c' (fun b o hb hbI e=>hm.heap b o (fun hmem=>?_) (hk b o hb e)) hS' hacc;rcases mem_cons.mp hmem with e'|hmem;.exact hb e'
  .exact hbI (mem_singleton.mp hmem)
 unfold listExtendWith;refine wpAny_bind (wpAny_typeOf hT ?_);have h1:listSameRef (.ref S) (.ref I)=false:=by simp[listSameRef,hSI]
 have h2:(Value.type "list_reverseiterator"==Value.type "list")=false:=by decide
 have h3:(Value.type "list_reverseiterator"==Value.type "tuple")=false:=by decide
 simp only[h1,h2,h3,Bool.or_false,false_eq_true,if_false];refine wpAny_bind (wpAny_pyIter_revIter hit ?_);refine wpAny_bind (wpAny_holding (m5 hit hl hlen fun bb tk htk=>?_));have hi0:s.heap.IsRevIter I l ((items.size:Int)-1-((0:Nat):Int)):=by simpa using hit
 refine wpAny_ite_split (fun _=>?_) (fun _=>wpAny_pure ⟨plainId_quiet F.plain_extend_loop _,key _ c₀ _ hi0 hl (fun b o _ e=>e) hS⟩);refine wpAny_bind (wpAny_rule ?_);refine wpAny_bind ?_;show wpAny _ _ (updateSeq S (·.push .none)>>=fun _=>updateSeq S (·.pop)) _ _ _;refine wpAny_bind (wpAny_updateSeq hS rfl ?_);have hS₂:=get?_update_self (Obj.mapSeq (·.push Value.none)) hS rfl;refine wpAny_updateSeq (hz:=by seq_fits) hS₂ rfl ?_;have hS₃:=get?_update_self (Obj.mapSeq (·.pop)) hS₂ rfl;have oth:∀b o,b≠S->s.heap.get? b=some o->((s.heap.update S (Obj.mapSeq (·.push Value.none))).update S (Obj.mapSeq (·.pop))).get? b=some o:=fun b o hb e=>(get?_update_other _ _ (Ne.symm hb)).trans ((get?_update_other _ _ (Ne.symm hb)).trans e);exact wpAny_pure ⟨plainId_quiet F.plain_extend_loop _,key _ _ _ (hi0.at fun o e=>oth I o (Ne.symm hSI) e) (hl.at fun o e=>oth l o (Ne.symm hSl) e) oth hS₃⟩
theorem pU{Q:Value->Shared->Prop}{I l:Addr}{items:Array Value}(hh:A.handled=none)(hit:s.heap.IsRevIter I l ((items.size:Int)-1))(hl:s.heap.IsList l items)(hne:l≠I)(hlen:items.size<=2^24)(hQ:∀ h' tk acc' c',(∀ b o,b ≠ I->s.heap.get? b=some o->h'.get? b=some o)->h'.get? s.heap.objs.size=some {cls:=.type "list",dict:=none,data:=.seq acc' c',slots:=#[]}->ItemsOf (fun i v=>items[items.size-1-i]?=some v) acc' items.size->Q (.ref s.heap.objs.size) {s with heap:=h',toks:=tk}):wpAny (model prog w) A (call (.type "list") [.ref I]) Q E s:=by
 refine callType_codes (Q₁:=fun obj s₁=>obj=.ref s.heap.objs.size/\s₁={s with heap:=s.heap.push {cls:=.type "list",data:=.seq #[]}}) F.called_list (F.typeCall_list_1 _) F.entry_list_init (code_list_new _ ⟨rfl,rfl⟩) fun obj s₁ h₁=>?_;obtain⟨rfl,rfl⟩:=h₁;have hIlt:I<s.heap.objs.size:=let⟨_,ho,_⟩:=hit;lt_size ho;have Q5:l<s.heap.objs.size:=let⟨_,ho,_⟩:=hl;lt_size ho;have hSI:s.heap.objs.size≠I:=Ne.symm (ne_of_lt hIlt);have hSl:s.heap.objs.size≠l:=Ne.symm (ne_of_lt Q5);generalize hZ:s.heap.objs.size=S at*;have hS:(s.heap.push {cls:=.type "list",data:=.seq #[]}).get? S=some {cls:=.type "list",data:=.seq #[]}:=by rw[<-hZ];exact get?_push_size _ rfl
 refine⟨⟨_,hS,rfl⟩,F.args_list_init_2 _ _,?_⟩;show wpAny _ _ (do let old<-Builtin.List.listItems (.ref S);Builtin.List.listUpdate (.ref S) (fun _=>#[]);letGo old.toList.reverse;listExtendWith (.ref S) (.ref I) .none) _ _ _;refine wpAny_bind ?_;unfold Builtin.List.listItems;refine wpAny_bind (wpAny_seqItems hS rfl (wpAny_pure ?_));show wpAny _ _ (updateSeq S (fun _=>#[])>>=fun _=>letGo (#[]:Array Value).toList.reverse>>=fun _=>listExtendWith (.ref S) (.ref I) .none) _ _ _;refine wpAny_bind (wpAny_updateSeq hS rfl ?_);have hS₂:=get?_update_self (Obj.mapSeq (fun _=>(#[]:Array Value))) hS rfl;have oth:∀b o,b≠S->s.heap.get? b=some o->((s.heap.push {cls:=.type "list",data:=.seq #[]}).update S (Obj.mapSeq (fun _=>(#[]:Array Value)))).get? b=some o:=fun b o hb e=>(get?_update_other _ _ (Ne.symm hb)).trans (get?_push_of_some _ e);refine wpAny_bind (wpAny_letGo ?_);refine gk (A:=A.in1) (items:=items) hh (hit.at fun o e=>oth I o (Ne.symm hSI) e) (hl.at fun o e=>oth l o (Ne.symm hSl) e) hne hlen S hSI hSl .none _ hS₂ fun h' tk acc' c' hk hS' hacc=>?_;exact⟨rfl,hQ h' tk acc' c' (fun b o hb e=>hk b o (by rw[<-hZ];exact ne_of_lt (lt_size e)) hb (oth b o (by rw[<-hZ];exact ne_of_lt (lt_size e)) e)) hS' hacc⟩
end
end PySem
namespace L2
open PySem PySem.Spec PyProof.Rows
theorem zg:∀{xs:List V}{us:List Value},Vals xs us->Vals xs.reverse us.reverse|_,_,.nil=>.nil|_,_,.cons r rs=>by rw[reverse_cons,reverse_cons];exact(zg rs).append (.cons r .nil)
section
variable{X:Cx}{pins:List (Addr×Obj)}{σ:St}{H:Hp}{s:Shared}{E:Value->Shared->Prop}
theorem wJ{a:Expr}{ta:TE}{p pos p2 pos2:Pos}(hc:X.calm=true)(Q6:Gl X "list")(Q7:X.mg "list"=none)(hg:Gl X "reversed")(hm:X.mg "reversed"=none)(ha:PE X a ta)(hs:starEach [a] X.env=[(false,eval a X.env)]:=by rfl)(hs2:starEach [.Call (.Name "reversed" p) [a] [] pos] X.env=[(false,eval (.Call (.Name "reversed" p) [a] [] pos) X.env)]:=by rfl):PE X (.Call (.Name "list" p2) [.Call (.Name "reversed" p) [a] [] pos] [] pos2) (fun σ H Q=>ta σ H fun x H1=>∃ad xs,x=.ref ad/\dq X.K H1 ad xs/\∀l,H1 l=none->Q (.ref l) (upd H1 l (.lst xs.reverse))):=by
 intro pins s σ H Q I h;refine Call_ (gJ I Q6 Q7 vI (PyProof.Rows.callWith_type1 ?_ hs2 rfl));rw[hs2];show wpAny _ _ (spliced ((false,eval (.Call (.Name "reversed" p) [a] [] pos) X.env)::[])) _ _ _;refine Calls.spliced_cons (Call_ (gJ I hg hm jh (PyProof.Rows.callWith_type1 (bZ ((cz ha dR hs) pos pins s σ H (fun vs H1=>match vs with|[x]=>∃ad xs,x=.ref ad/\dq X.K H1 ad xs/\∀l,H1 l=none->Q (.ref l) (upd H1 l (.lst xs.reverse))|_=>False) I h) ?_) hs rfl)));rintro us s1⟨vs,H1,I1,r1,q1⟩;obtain⟨ad,xs,hq,q,vs1⟩:∃ad xs,dq X.K H1 ad xs/\(∀l,H1 l=none->Q (.ref l) (upd H1 l (.lst xs.reverse)))/\vs=[.ref ad]:=by cases vs with|nil=>cases q1|cons x r=>cases r with|nil=>obtain⟨ad,xs,rfl,q,q'⟩:=q1;exact⟨ad,xs,q,q',rfl⟩|cons _ _=>cases q1
 subst vs1;obtain⟨u,rfl,ru⟩:=r1.one;cases ru;obtain⟨its,rv,pl,hz⟩:=I1.list hq;have hsz:its.toArray.size=xs.length:=by rw[size_toArray,<-rv.length]
 refine call_reversed_list pl.isList (Calls.spliced_nil ?_);have hne:ad≠s1.heap.objs.size:=ne_of_lt (let⟨_,ho,_⟩:=pl.isList;lt_size ho);have hl2:(s1.heap.push (revObj ad ((its.toArray.size:Int)-1))).IsList ad its.toArray:=pl.isList.at fun o e=>get?_push_of_some _ e;refine pU (I1.ok.hd hc) (I:=s1.heap.objs.size) (l:=ad) (items:=its.toArray) ⟨_,get?_push_size _ rfl,rfl,rfl⟩ hl2 hne (by rw[hsz];exact le_trans hz (by decide)) fun h' tk acc' c' hk hS hacc=>?_;have hsz2:(s1.heap.push (revObj ad ((its.toArray.size:Int)-1))).objs.size=s1.heap.objs.size+1:=size_push ..;have ea:acc'.toList=its.reverse:=by
  obtain⟨h1,h2⟩:=hacc;apply List.ext_getElem;.simpa using h1
  . intro j j1 j2;have hj:j<its.length:=by simpa using j2
    have:=h2 j acc'[j] (Array.getElem?_eq_getElem (by simpa using j1));simp only[size_toArray]at this;have h3:=Array.getElem?_eq_some_iff.mp this;rw[List.getElem_reverse];simpa using h3.2.symm
 dsimp only at hS hk ⊢;rw[hsz2]at hS ⊢;refine⟨.ref (s1.heap.objs.size+1),_,I1.laid (t':=tk) (o:=.lst xs.reverse) (h':=h') (fun b o e=>hk b o (ne_of_lt (lt_size e)) (get?_push_of_some _ e)) (le_succ _) ?_,rfl,q _ (I1.hok.fresh (le_succ _))⟩;exact⟨by simpa using hz,acc'.toList,c',by rw[ea];exact zg rv,by simpa using hS⟩
end
end L2
namespace HH
open PySem L2 PySem.Spec PyProof.Rows
section
variable{X:Cx}{c:Call}{a:Expr}{pa:P}{pos:Pos}
theorem wF{x y:Str}{p' q' pos':Pos}(hy:y="list")(hx:x="reversed")(hc:X.calm=true)(Q6:Gl X y)(Q7:X.mg y=none)(hg:Gl X x)(hm:X.mg x=none)(ha:SX X c a pa)(hs:starEach [a] X.env=[(false,eval a X.env)]:=by rfl)(hs2:starEach [.Call (.Name x p') [a] [] pos] X.env=[(false,eval (.Call (.Name x p') [a] [] pos) X.env)]:=by rfl):SX X c (.Call (.Name y q') [.Call (.Name x p') [a] [] pos] [] pos') (.blt .J7 [pa]):=by subst hx hy;obtain⟨ta,h1,h2⟩:=ha.cR;refine⟨dZ (wJ hc Q6 Q7 hg hm h1 hs hs2) ?_,fun i h=>by cases h⟩;rintro σ H Q⟨F,ρ,r,ρ',g,e,k⟩;rw[HH.E16]at e;obtain⟨d,ρ2,e1,e2⟩:=ak e;have zz:=aD e2;clear e2;obtain⟨e2,e3⟩:=zz;subst e3;cases d with|lst ds=>cases e2;refine h2 g e1 ?_;rintro v F' H' s pv;obtain⟨ad,xs,rfl,hq,rs⟩:=pv.lst s.gs.sub;exact⟨ad,xs,rfl,hq,fun l hl=>vd s.gs.sub (aF.rev rs) hl fun v F2 H2 xt rn=>k v F2 H2 (s.trans (xt.stp s.gs)) (.later s (rn.nF s.gs))⟩|_=>cases e2
end
end HH
end
section
namespace HH
open PySem
theorem vh:∀a b:List Int,cQ a b=true->cQ b a=false
 |[],[],h=>by simp[cQ]at h|[],_::_,_=>by simp[cQ]|_::_,[],h=>by simp[cQ]at h|x::a,y::b,h=>by
   simp only[cQ,or_eq_true,decide_eq_true_eq,and_eq_true]at h;simp only[cQ,Bool.or_eq_false_iff,decide_eq_false_iff_not,Bool.and_eq_false_iff];rcases h with h|⟨h,h'⟩;.exact⟨by omega,.inl (by omega)⟩
   .exact⟨by omega,.inr (vh a b h')⟩
theorem Ca:∀a b c:List Int,cQ b a=false->cQ c b=false->cQ c a=false
 |[],_,c,_,_=>by cases c<;>simp[cQ]|_::_,[],_,h,_=>by simp[cQ]at h|_::_,_::_,[],_,h=>by simp[cQ]at h|x::a,y::b,z::c,h1,h2=>by
   simp only[cQ,Bool.or_eq_false_iff,decide_eq_false_iff_not,Bool.and_eq_false_iff]at h1 h2 ⊢;refine⟨by omega,?_⟩;by_cases e:z=x;.right;exact Ca a b c (h1.2.resolve_left (by omega)) (h2.2.resolve_left (by omega))
   .exact .inl e
theorem uV:∀a b:List Int,cQ a b=false->cQ b a=false->a=b
 |[],[],_,_=>rfl|[],_::_,h,_=>by simp[cQ]at h|_::_,[],_,h=>by simp[cQ]at h|x::a,y::b,h1,h2=>by
   simp only[cQ,Bool.or_eq_false_iff,decide_eq_false_iff_not,Bool.and_eq_false_iff]at h1 h2;have e:x=y:=by omega
   subst e;rw[uV a b (h1.2.resolve_left (by simp)) (h2.2.resolve_left (by simp))]
theorem uA:∀{xs ys:List D},xs.all fH=true->ys.all fH=true->xs.map jU=ys.map jU->xs=ys
 |[],[],_,_,_=>rfl|[],_::_,_,_,h=>by simp at h|_::_,[],_,_,h=>by simp at h|x::xs,y::ys,h1,h2,h=>by
   simp only[all_cons,and_eq_true]at h1 h2;simp only[map_cons,List.cons.injEq]at h;obtain⟨i,rfl⟩:∃i,x=.int i:=by cases x<;>first|exact⟨_,rfl⟩|(have q:=h1.1;simp[fH]at q;done)
   obtain⟨j,rfl⟩:∃j,y=.int j:=by cases y<;>first|exact⟨_,rfl⟩|(have q:=h2.1;simp[fH]at q;done)
   rw[uA h1.2 h2.2 h.2,show i=j from h.1]
theorem yL{x y:D}(h:(fH x=true/\fH y=true)\/(wZ x=true/\wZ y=true))(e:nD x=nD y):x=y:=by
 rcases h with⟨h1,h2⟩|⟨h1,h2⟩
 . cases x<;>first|(simp[fH]at h1;done)|skip
   cases y<;>first|(simp[fH]at h2;done)|skip
   simpa[nD]using e
 . cases x<;>first|(simp[wZ]at h1;done)|skip
   cases y<;>first|(simp[wZ]at h2;done)|skip
   rename_i xs ys;cases xs<;>first|(simp[wZ]at h1;done)|skip
   cases ys<;>first|(simp[wZ]at h2;done)|skip
   rw[uA h1 h2 e]
noncomputable def nu(a b:D):Bool:=!cQ (nD b) (nD a)
theorem o7(ds:List D):(yw ds).Perm ds:=List.mergeSort_perm ..
theorem Jj(a b c:D)(h1:nu a b=true)(h2:nu b c=true):nu a c=true:=by simp only[nu,not_eq_true']at*;exact Ca _ _ _ h1 h2
theorem Ed(a b:D):(nu a b||nu b a)=true:=by simp only[nu,or_eq_true,not_eq_true'];cases h:cQ (nD b) (nD a)with|false=>exact .inl rfl|true=>exact .inr (vh _ _ h)
theorem v5(ds:List D):(yw ds).Pairwise fun a b=>nu a b=true:=List.pairwise_mergeSort Jj Ed ds
theorem tU{ds:List D}(h:sortable ds=true):∀x∈ds,∀y∈ds,nD x=nD y->x=y:=by
 simp only[sortable,and_eq_true,or_eq_true,all_eq_true]at h;intro x hx y hy e;rcases h.2 with h|h;.exact yL (.inl ⟨h x hx,h y hy⟩) e
 .exact yL (.inr ⟨h x hx,h y hy⟩) e
theorem Gn{ds l:List D}(h:sortable ds=true)(p:l.Perm ds)(s:l.Pairwise fun a b=>nu a b=true):l=yw ds:=by refine List.Perm.eq_of_pairwise (le:=fun a b=>nu a b=true) (fun a b ha hb h1 h2=>?_) s (v5 ds) (p.trans (o7 ds).symm);simp only[nu,not_eq_true']at h1 h2;exact tU h a (p.mem_iff.mp ha) b ((o7 ds).mem_iff.mp hb) (uV _ _ h2 h1)
end HH
end
section
namespace HH
open PySem L2 PySem.Spec PyProof.Rows PySem.Calls PySem.W
theorem all_ints:∀{ds:List D},ds.all fH=true->ds=(ds.map jU).map D.int
 |[],_=>rfl|d::ds,h=>by
   simp only[all_cons,and_eq_true]at h;cases d<;>first|(have q:=h.1;simp[fH]at q;done)|skip
   rw[map_cons,map_cons,<-all_ints h.2];rfl
theorem intsAre_of:∀{ns:List Int}{us:List Value},Vals (ns.map V.int) us->IntsAre us ns|[],_,.nil=>.nil|n::ns,_,.cons r t=>by obtain⟨tk,rfl⟩:=r;exact .cons n tk (intsAre_of t)
section
variable{X:Cx}{c:Call}{a:Expr}{pa:P}{pos:Pos}
theorem boot_sorted:bootBuiltins "sorted"=some (.builtin "sorted"):=by decide+kernel
end
end HH
end
section
namespace HH
open PySem L2 PySem.Spec PyProof.Rows PySem.Calls
theorem xg(l b:Addr)(items items2:List Value)(n n2:Nat)(dd dd2:Option Addr)(sl sl2:Array (Option Value))(is js:List Int)(hi:IntsAre items is)(hj:IntsAre items2 js):Meets (Builtin.«tuple.__lt__» ⟨[.ref l,.ref b],[]⟩) (fun A R s=>s.heap.get? l=some {cls:=.type "tuple",dict:=dd,data:=.seq items.toArray n,slots:=sl}/\s.heap.get? b=some {cls:=.type "tuple",dict:=dd2,data:=.seq items2.toArray n2,slots:=sl2}/\R (.ok (.ret (.bool (cQ is js)))) s):=.of_wp fun prog w A R s h=>by
  obtain⟨hp,g,d,tk,os⟩:=s;obtain⟨hl,hb,h⟩:=h;have f2:=AutoSeq1.sub_tuple_tuple;wp_walk using wpAny_loadPart' hl,wpAny_loadPart' hb,wpAny_forIn_list _ (fun rest b s'=>b.1=none/\s'=⟨hp,g,d,tk,os⟩/\∃xs ys is' Tz,rest=xs.zip ys/\IntsAre xs is'/\IntsAre ys Tz/\decide (items.length<items2.length)=decide (is'.length<Tz.length)/\R (.ok (.ret (.bool (cQ is' Tz)))) ⟨hp,g,d,tk,os⟩) _;case turn=>rintro⟨y,x⟩rest b s'⟨hb',rfl,xs,ys,is',Tz,hz,h1,h2,h3,hR⟩;cases h1 with|nil=>cases hz|cons p t h1=>cases h2 with|nil=>cases hz|cons q u h2=>
       injection hz with hyx hrest;cases hyx;refine wpAny_bind (wpAny_eqBool_int ?_);by_cases e:p=q;.subst e;rw[beq_self_eq_true];wp_walk;exact⟨rfl,rfl,_,_,_,_,hrest,h1,h2,by rw[h3];simp,by simpa[cQ]using hR⟩
       . rw[beq_eq_false_iff_ne.mpr e];have hR':R (.ok (.ret (.bool (decide (p<q))))) ⟨hp,g,d,tk,os⟩:=by simpa[cQ,e]using hR
         simp only[Bool.not_false,if_true];refine wpAny_bind (wpAny_rule ?_);refine wpAny_bind (show wpAny (model prog w) A.in1 (compareOp .Lt (Value.int p t) (Value.int q u)) _ _ _ from wpAny_lt_int ?_);refine wpAny_bind (wpAny_pure ?_);exact wpAny_pure (wpAny_pure ⟨_,rfl,hR'⟩)
  case fin=>
   rintro⟨b1,b2⟩s'⟨hb',rfl,xs,ys,is',Tz,hz,h1,h2,h3,hR⟩;simp only at hb';subst hb';have e:cQ is' Tz=decide (items.length<items2.length):=by rw[h3];cases h1 with|nil=>cases h2<;>simp[cQ]|cons _ _ _=>cases h2 with|nil=>simp[cQ]|cons _ _ _=>cases hz
   rw[e]at hR;wp_walk;exact⟨_,rfl,by simpa[Builtin.Tuple.tupleCompareSizes]using hR⟩
  case h=>exact⟨rfl,rfl,items,items2,is,js,by simp,hi,hj,by rw[IntsAre.length hi,IntsAre.length hj],h⟩
section
variable{X:Cx}
theorem pJ(hu:X.A.units+8<cLine):dW X (compareOp .Lt) (rD X.K (mL .lt)):=by rintro pins s σ H x y v u Q I rx ry⟨F,d,e,r,sm,px,py,he,k⟩;obtain⟨t,e1,e2⟩:=map_some (show(Vp d e).map _=some r from he);subst e2;cases d with
 |int i=>cases e with|int j=>exact Pj pins s σ H x y v u Q I rx ry ⟨F,.int i,.int j,_,sm,px,py,by have e2:Hb (fun i j=>decide (i<j)) (.int i) (.int j)=some t:=e1;simp only[e2];rfl,k⟩|_=>cases e1
 |tup xs=>cases e with|tup ys=>obtain⟨hc,e1⟩:=bD (show(if(xs.all fH&&ys.all fH)=true then some (cQ (xs.map jU) (ys.map jU))else none)=some t from e1);rw[and_eq_true]at hc;obtain⟨a,vs,rfl,h1,h2,_⟩:=px.tup sm;obtain⟨b,ws,rfl,h3,h4,_⟩:=py.tup sm;cases rx;cases ry;obtain⟨its,rv,it,_⟩:=I.tuple h1;obtain⟨its2,Q4,it2,_⟩:=I.tuple h3;rw[all_ints hc.1]at h2;rw[all_ints hc.2]at h4;rw[jl h2]at rv;rw[jl h4]at Q4;have i1:=intsAre_of rv;have i2:=intsAre_of Q4;obtain⟨⟨cls,dd,data,sl⟩,ho,hc1,n,hd⟩:=it;obtain⟨⟨cls2,dd2,data2,sl2⟩,ho2,hc2,n2,hd2⟩:=it2;simp only at hc1 hd hc2 hd2;subst hc1 hd hc2 hd2;refine(show wpAny (model X.prog X.w) X.A (richCompare .Lt (.ref a) (.ref b)) _ _ s from richCompare_meets_room (op:=.Lt) ⟨_,ho,rfl⟩ ⟨_,ho2,rfl⟩ PySem.F.slot_tuple_lt PySem.F.entry_tuple_lt (PySem.F.args_tuple_lt_2 _ _) (xg a b its its2 n n2 dd dd2 sl sl2 _ _ i1 i2) ⟨ho,ho2,show Value.bool _≠Value.notImplemented/\_ from⟨(fun x=>nomatch x),⟨.bl t,H,I,by rw[<-e1];rfl,cB.dm sm (dX _) k⟩⟩⟩ (by omega))|_=>cases e1
 |_=>cases e1
end
end HH
end
section
namespace L2
open PySem PySem.Spec PyProof.Rows
section
variable{κ:Type}[DecidableEq κ]
noncomputable def iR(kvs:List (κ×V))(k:κ):Option V:=(kvs.find? fun kv=>decide (kv.1=k)).map (·.2)
noncomputable def putK(kvs:List (κ×V))(k:κ)(v:V):List (κ×V):=if(kvs.any fun kv=>decide (kv.1=k))=true then kvs.map (fun kv=>if kv.1=k then(kv.1,v)else kv)else kvs++[(k,v)]
theorem lA{p:κ×V}{r:List (κ×V)}{k:κ}(e:p.1=k):iR (p::r) k=some p.2:=by simp[iR,find?_cons,e]
theorem kJ{p:κ×V}{r:List (κ×V)}{k:κ}(e:¬ p.1=k):iR (p::r) k=iR r k:=by simp[iR,find?_cons,e]
theorem pg(k:κ):∀kvs:List (κ×V),(kvs.any fun kv=>decide (kv.1=k))=(iR kvs k).isSome
 |[]=>rfl|p::r=>by
   rw[any_cons];by_cases e:p.1=k;.simp only[lA e,decide_eq_true e,Bool.true_or,Option.isSome_some]
   .rw[kJ e,decide_eq_false e,Bool.false_or];exact pg k r
theorem jq(kvs:List (κ×V))(k:κ)(v:V):(putK kvs k v).length<=kvs.length+1:=by
 unfold putK;split;.rw[length_map];omega
 .rw[length_append,length_cons,length_nil];omega
theorem qt.gU{o:Option V}{u:Option Value}(r:qt o u):o.isSome=u.isSome:=by cases o with
 |none=>cases u with|none=>rfl|some _=>exact(show False from r).elim
 |some _=>cases u with|none=>exact(show False from r).elim|some _=>rfl
theorem KV.val{kvs:List (κ×V)}{vs:List (κ×Value)}(r:KV kvs vs)(k:κ):qt (iR kvs k) (valueAt vs k):=by unfold KV at r;induction r with|nil=>exact True.intro|@cons p q ps qs h t ih=>
   obtain⟨h1,h2⟩:=h;by_cases e:p.1=k
   . have e':q.1=k:=h1.symm.trans e;have b:valueAt (q::qs) k=some q.2:=by simp[valueAt,find?_cons,e']
     rw[lA e,b];exact h2
   . have e':¬ q.1=k:=fun z=>e (h1.trans z);have b:valueAt (q::qs) k=valueAt qs k:=by simp[valueAt,find?_cons,e']
     rw[kJ e,b];exact ih
theorem KV.any{kvs:List (κ×V)}{vs:List (κ×Value)}(r:KV kvs vs)(k:κ):(kvs.any fun kv=>decide (kv.1=k))=vs.any fun kv=>decide (kv.1=k):=by unfold KV at r;induction r with|nil=>rfl|cons h t ih=>rw[any_cons,any_cons,ih,h.1]
theorem KV.repl{kvs:List (κ×V)}{vs:List (κ×Value)}(r:KV kvs vs)(k:κ){y:V}{u:Value}(ry:RelV y u):KV (kvs.map fun kv=>if kv.1=k then(kv.1,y)else kv) (vs.map fun kv=>if kv.1=k then(kv.1,u)else kv):=by unfold KV at r ⊢;induction r with|nil=>exact .nil|@cons p q ps qs h t ih=>
   rw[map_cons,map_cons];refine .cons ?_ ih;obtain⟨h1,h2⟩:=h;by_cases e:p.1=k;.rw[if_pos e,if_pos (h1.symm.trans e)];exact⟨h1,ry⟩
   .rw[if_neg e,if_neg (fun z=>e (h1.trans z))];exact⟨h1,h2⟩
theorem KV.put{kvs:List (κ×V)}{vs:List (κ×Value)}(r:KV kvs vs)(k:κ){y:V}{u:Value}(ry:RelV y u):KV (putK kvs k y) (stored vs k u):=by
 unfold putK stored;rw[r.any k];by_cases e:(vs.any fun kv=>decide (kv.1=k))=true;.rw[if_pos e,if_pos e];exact r.repl k ry
 .rw[if_neg e,if_neg e];exact Paired.snoc r ⟨rfl,ry⟩
theorem KV.length{kvs:List (κ×V)}{vs:List (κ×Value)}(r:KV kvs vs):kvs.length=vs.length:=Paired.length r
end
theorem qC{P:Program}{w:World}{k:Key}{u:Value}(r:RelV (kV k) u):(bL P w).is k u=true:=by cases k with|inl i=>obtain⟨t,e⟩:=(show ∃t,u=Value.int i t from r);subst e;exact uJ P w i t|inr x=>obtain⟨t,e⟩:=(show ∃t,u=Value.str x t from r);subst e;exact vC P w x t
theorem qL{P:Program}{w:World}:∀{ks:List Key}{us:List Value},Vals (ks.map kV) us->ItemsAre (bL P w) ks us|[],_,r=>by rw[map_nil]at r;cases r;exact .nil|k::ks,_,r=>by rw[map_cons]at r;cases r with|cons h t=>exact .cons (qC h) (qL t)
abbrev KT(H:Hp):List (List Key×V)->List (List Key×Addr×Value)->Prop:=Paired fun p q=>p.1=q.1/\H q.2.1=some (.tup (p.1.map kV))/\RelV p.2 q.2.2
theorem KT.val{H:Hp}{kvs:List (List Key×V)}{xs:List (List Key×Addr×Value)}(r:KT H kvs xs)(k:List Key):qt (iR kvs k) ((atKey xs k).map (·.2)):=by induction r with|nil=>exact True.intro|@cons p q ps qs h t ih=>
   obtain⟨h1,_,h2⟩:=h;by_cases e:p.1=k
   . have e':q.1=k:=h1.symm.trans e;have b:atKey (q::qs) k=some q.2:=by simp[atKey,find?_cons,e']
     rw[lA e,b];exact h2
   . have e':¬ q.1=k:=fun z=>e (h1.trans z);have b:atKey (q::qs) k=atKey qs k:=by simp[atKey,find?_cons,e']
     rw[kJ e,b];exact ih
theorem KT.repl{H:Hp}{kvs:List (List Key×V)}{xs:List (List Key×Addr×Value)}(r:KT H kvs xs)(k:List Key){y:V}{u:Value}(ry:RelV y u):KT H (kvs.map fun kv=>if kv.1=k then(kv.1,y)else kv) (xs.map (putAt k u)):=by induction r with|nil=>exact .nil|@cons p q ps qs h t ih=>
   rw[map_cons,map_cons];refine .cons ?_ ih;obtain⟨h1,h2,h3⟩:=h;unfold putAt;by_cases e:p.1=k;.rw[if_pos e,if_pos (h1.symm.trans e)];exact⟨h1,h2,ry⟩
   .rw[if_neg e,if_neg (fun z=>e (h1.trans z))];exact⟨h1,h2,h3⟩
theorem KT.put{H:Hp}{kvs:List (List Key×V)}{xs:List (List Key×Addr×Value)}(r:KT H kvs xs)(k:List Key){b:Addr}{y:V}{u:Value}(hb:H b=some (.tup (k.map kV)))(ry:RelV y u):KT H (putK kvs k y) (storedH xs k b u):=by
 have e:(kvs.any fun kv=>decide (kv.1=k))=(atKey xs k).isSome:=by rw[pg,(r.val k).gU,isSome_map]
 unfold putK storedH;rw[e];by_cases q:(atKey xs k).isSome=true;.rw[if_pos q,if_pos q];exact r.repl k ry
 .rw[if_neg q,if_neg q];exact Paired.snoc r ⟨rfl,hb,ry⟩
theorem KT.keeps{H H':Hp}{kvs:List (List Key×V)}{xs:List (List Key×Addr×Value)}(r:KT H kvs xs)(ht:∀b ys,H b=some (.tup ys)->H' b=some (.tup ys)):KT H' kvs xs:=Paired.Om r fun _ _ z=>⟨z.1,ht _ _ z.2.1,z.2.2⟩
section
variable{P:Program}{w:World}{H:Hp}{h:Heap}{a:Addr}
theorem Kz{u:HO}(ok:lO P w H h)(e:Rd H a u):bR P w H h a u:=e.ok ok
theorem uR{kvs:List (Key×V)}(ok:lO P w H h)(e:Rd H a (.dK kvs)):kvs.length<=sizeLine/\(a==sysModules)=false/\∃vs,KV kvs vs/\h.DictOf (bL P w) a vs:=show bR P w H h a (.dK kvs)from Kz ok e
theorem Lq{kvs:List (Key×V)}(ok:lO P w H h)(e:H a=some (.dK kvs)):kvs.length<=sizeLine/\(a==sysModules)=false/\∃vs,KV kvs vs/\h.DictOf (bL P w) a vs:=uR ok (.inl e)
theorem pK{ks:List Key}(ok:lO P w H h)(e:H a=some (.tup (ks.map kV))):(tupleKind (bL P w)).is h ks a:=by obtain⟨_,its,r,o,h1,h2,n,h3⟩:=(show bR P w H h a (.tup (ks.map kV))from ok a _ e);exact⟨o,its.toArray,n,h1,h2,h3,by simpa using qL r⟩
theorem vG{kvs:List (List Key×V)}(ok:lO P w H h)(e:Rd H a (.dT kvs)):kvs.length<=sizeLine/\(a==sysModules)=false/\∃xs,KT H kvs xs/\h.DictOfH (tupleKind (bL P w)) a xs:=by
 obtain⟨z,y,xs,r,o,es,ep,h1,h2,h3,h4,h5⟩:=(show bR P w H h a (.dT kvs)from Kz ok e);refine⟨z,y,xs,r,o,es,ep,h1,h2,h3,h4,fun x hx=>?_,h5⟩;have all:∀{l:List (List Key×V)}{m:List (List Key×Addr×Value)},KT H l m->∀x∈m,(tupleKind (bL P w)).is h x.1 x.2.1:=by intro l m q;induction q with|nil=>intro x hx;exact nomatch hx|@cons p q ps qs hq t ih=>
    intro x hx;rcases mem_cons.mp hx with e|hx;.subst e;exact pK ok (by rw[<-hq.1];exact hq.2.1)
    .exact ih x hx
 exact all r x hx
theorem Vq{kvs:List (List Key×V)}(ok:lO P w H h)(e:H a=some (.dT kvs)):kvs.length<=sizeLine/\(a==sysModules)=false/\∃xs,KT H kvs xs/\h.DictOfH (tupleKind (bL P w)) a xs:=vG ok (.inl e)
end
def pH(H:Hp)(a:Addr)(y:V)(r:Option V):Prop:=(∃kvs k,Rd H a (.dK kvs)/\y=kV k/\r=iR kvs k)\/∃kvs k b,Rd H a (.dT kvs)/\y=.ref b/\H b=some (.tup (k.map kV))/\r=iR kvs k
def Wl(H:Hp)(a:Addr)(y v:V)(H':Hp):Prop:=(∃kvs k,H a=some (.dK kvs)/\y=kV k/\kvs.length<sizeLine/\H'=upd H a (.dK (putK kvs k v)))\/∃kvs k b,H a=some (.dT kvs)/\y=.ref b/\H b=some (.tup (k.map kV))/\kvs.length<sizeLine/\H'=upd H a (.dT (putK kvs k v))
section
variable{X:Cx}{pins:List (Addr×Obj)}{σ:St}{H:Hp}{s:Shared}{a:Addr}{y v:V}{u r:Value}{o:Option V}{A:Around}{E:Value->Shared->Prop}
theorem Inv.big(I:Inv X pins σ H s):sysModules<s.heap.objs.size:=by have h:mainGlobals<s.heap.objs.size:=(I.mod.glob.keeps I.bk).lt;exact Nat.lt_trans (by decide) h
theorem mH{Q:Value->Shared->Prop}(hu:A.units+1<cLine)(I:Inv X pins σ H s)(g:pH H a y (some v))(ry:RelV y u)(h:∀w' s',Inv X pins σ H s'->RelV v w'->Q w' s'):wpAny (model X.prog X.w) A (getItem (.ref a) u) Q E s:=by
 rcases g with⟨kvs,k,e,ey,l⟩|⟨kvs,k,b,e,ey,eb,l⟩;.subst ey;obtain⟨z,hd,vs,rel,dd⟩:=uR I.hok e;obtain⟨w',hw,vL⟩:=qt.some_of (v:=v) (o:=valueAt vs k) (by rw[l];exact rel.val k);exact wpAny_getItem_of (qC ry) dd.mapOf hw (h w' _ (I.tok _) vL)
 .subst ey;cases(show u=Value.ref b from ry);obtain⟨z,hd,xs,rel,dd⟩:=vG I.hok e;obtain⟨w',hw,vL⟩:=qt.some_of (v:=v) (o:=(atKey xs k).map (·.2)) (by rw[l];exact rel.val k);obtain⟨p,hp,hp2⟩:=map_eq_some_iff.mp hw;refine wpAny_getItem_heap (tupleKind_room_in1 hu) (pK I.hok eb) dd hp ?_;rw[hp2];exact h w' _ (I.tok _) vL
theorem V9{Q:Value->Shared->Prop}(hu:A.units+1<cLine)(I:Inv X pins σ H s)(g:pH H a y o)(ry:RelV y u)(h:∀s',Inv X pins σ H s'->Q (.bool o.isSome) s'):wpAny (model X.prog X.w) A (compareOp .In u (.ref a)) Q E s:=by
 rcases g with⟨kvs,k,e,ey,l⟩|⟨kvs,k,b,e,ey,eb,l⟩;.subst ey;obtain⟨z,hd,vs,rel,dd⟩:=uR I.hok e;refine wpAny_in_of (qC ry) hd dd.mapOf ?_;rw[<-(rel.val k).gU,<-l];exact h _ (I.tok _)
 .subst ey;cases(show u=Value.ref b from ry);obtain⟨z,hd,xs,rel,dd⟩:=vG I.hok e;refine wpAny_in_heap (tupleKind_room_in1 hu) (pK I.hok eb) hd dd ?_;have q:=(rel.val k).gU;rw[isSome_map]at q;rw[<-q,<-l];exact h _ (I.tok _)
theorem zj{Q:Value->Shared->Prop}(hu:A.units+1<cLine)(I:Inv X pins σ H s)(g:pH H a y o)(ry:RelV y u)(h:∀s',Inv X pins σ H s'->Q (.bool (!o.isSome)) s'):wpAny (model X.prog X.w) A (compareOp .NotIn u (.ref a)) Q E s:=by
 rcases g with⟨kvs,k,e,ey,l⟩|⟨kvs,k,b,e,ey,eb,l⟩;.subst ey;obtain⟨z,hd,vs,rel,dd⟩:=uR I.hok e;refine wpAny_notIn_of (qC ry) hd dd.mapOf ?_;rw[<-(rel.val k).gU,<-l];exact h _ (I.tok _)
 .subst ey;cases(show u=Value.ref b from ry);obtain⟨z,hd,xs,rel,dd⟩:=vG I.hok e;refine wpAny_notIn_heap (tupleKind_room_in1 hu) (pK I.hok eb) hd dd ?_;have q:=(rel.val k).gU;rw[isSome_map]at q;rw[<-q,<-l];exact h _ (I.tok _)
theorem sJ{h':Heap}{t':Nat}{ob:HO}(I:Inv X pins σ H s)(mu:T7 (H a))(hs:SameBut a s.heap h')(he:∃q,h'.get? a=some q)(new:bR X.prog X.w (upd H a ob) h' a ob):Inv X pins σ (upd H a ob) {s with heap:=h',toks:=t'}:=I.write (x:=a) (e:=a) mu (.inl rfl) (fun b q hb z=>(hs.2 b hb).trans z) he new
theorem Gp{P:Program}{w:World}{H':Hp}{h':Heap}{kvs:List (Key×V)}{vs:List (Key×Value)}(z:kvs.length<=sizeLine)(hd:(a==sysModules)=false)(rel:KV kvs vs)(dd:h'.DictOf (bL P w) a vs):bR P w H' h' a (.dK kvs):=⟨z,hd,vs,rel,dd⟩
theorem zX{H':Hp}{Q:Unit->Shared->Prop}(hu:A.units+1<cLine)(I:Inv X pins σ H s)(g:Wl H a y v H')(ry:RelV y u)(rv:RelV v r)(h:∀s',Inv X pins σ H' s'->Q () s'):wpAny (model X.prog X.w) A (setItem (.ref a) u r) Q E s:=by
 rcases g with⟨kvs,k,e,ey,l,eH⟩|⟨kvs,k,b,e,ey,eb,l,eH⟩
 . subst ey eH;obtain⟨z,hd,vs,rel,dd⟩:=Lq I.hok e;have hz:vs.length<=sizeLine:=by rw[<-rel.length];exact z
   have hl:(putK kvs k v).length<=sizeLine:=by have:=jq kvs k v;omega
   refine wpAny_setItem_pairs (hsz:=hz) (qC ry) dd fun h' Q8 hs=>h _ ?_;have he:∃q,h'.get? a=some q:=let⟨q,_,_,hq,_⟩:=Q8;⟨q,hq⟩;exact sJ I (by rw[e];exact True.intro) hs he (Gp hl hd (rel.put k rv) Q8)
 . subst ey eH;cases(show u=Value.ref b from ry);obtain⟨z,hd,xs,rel,dd⟩:=Vq I.hok e;have hz:xs.length<=sizeLine:=by rw[<-Paired.length rel];exact z
   have hl:(putK kvs k v).length<=sizeLine:=by have:=jq kvs k v;omega
   refine wpAny_setItem_heap (hsz:=hz) (tupleKind_room_in1 hu) (pK I.hok eb) dd fun h' Q8 hs=>h _ ?_;obtain⟨q,es,ep,hq,h2,h3,h4,_,h5⟩:=Q8;refine sJ I (by rw[e];exact True.intro) hs ⟨q,hq⟩ ⟨hl,hd,_,(rel.put k eb rv).keeps fun c ys ec=>?_,q,es,ep,hq,h2,h3,h4,h5⟩;rw[aC (Ux ec e (fun z=>nomatch z))];exact ec
end
def HR(i:Expr):Prop:=∀ov iv,subscripted i false ov iv=operate [ov,iv] (getItem ov iv)
theorem yN{prog:Program}{w:World}{A:Around}{E:Value->Shared->Prop}{s:Shared}{env:Env}{value slice:Expr}{pos:Pos}{T id:String}{Q:Value->Shared->Prop}(hl:typeLookup (.type T) "__getitem__"=pure (some (.builtin id)))(hs:HR slice)(h:wpAny (model prog w) A (eval value env) (fun o s₁=>wpAny (model prog w) A (eval slice env) (fun i s₂=>s₂.TypeIs o T/\wpAny (model prog w) A (getItem o i) Q E s₂) E s₁) E s):wpAny (model prog w) A (eval (.Subscript value slice pos) env) Q E s:=by
 refine Subscript_ (wpAny_mono h (fun o s₁ h₁=>wpAny_mono h₁ (fun i s₂ h₂=>?_) fun _ _ x=>x) fun _ _ x=>x);obtain⟨hT,h₂⟩:=h₂;unfold subscriptTail;refine wpAny_bind ?_;rw[getitemInPython_of_ne hT.not_modules];refine wpAny_bind (wpAny_specialOf hT hl ?_);have fin:wpAny (model prog w) A (subscripted slice false o i) (fun r s₃=>wpAny (model prog w) A (letTemporaryGo value o r>>=fun _=>pure r) Q E s₃) E s₂:=by rw[hs o i];exact wpAny_operating (wpAny_mono h₂ (fun r s₃ h₃=>wpAny_bind (wpAny_letTemporaryGo (wpAny_pure h₃))) fun _ _ x=>x)
 first|exact wpAny_pure (wpAny_bind fin)|exact wpAny_bind (wpAny_pure (wpAny_bind fin))|exact wpAny_bind fin
theorem iZ{X:Cx}{pins:List (Addr×Obj)}{σ:St}{H:Hp}{s:Shared}{a:Addr}{y:V}{o:Option V}(I:Inv X pins σ H s)(g:pH H a y o):s.TypeIs (.ref a) "dict":=by
 rcases g with⟨kvs,k,e,_,_⟩|⟨kvs,k,b,e,_,_,_⟩;.obtain⟨_,_,vs,_,dd⟩:=uR I.hok e;exact dd.typeIs
 .obtain⟨_,_,xs,_,dd⟩:=vG I.hok e;exact dd.typeIs
def Vr(td ty:TE):TE:=fun σ H Q=>td σ H fun x H1=>ty σ H1 fun y H2=>∃a v,x=.ref a/\pH H2 a y (some v)/\Q v H2
def abu(ty td:TE):TE:=fun σ H Q=>ty σ H fun y H1=>td σ H1 fun x H2=>∃a o,x=.ref a/\pH H2 a y o/\Q (.bl o.isSome) H2
def J2(ty td:TE):TE:=fun σ H Q=>ty σ H fun y H1=>td σ H1 fun x H2=>∃a o,x=.ref a/\pH H2 a y o/\Q (.bl (!o.isSome)) H2
def Ue(td ty tv:TE):TS:=fun D σ H=>tv σ H fun v H1=>td σ H1 fun x H2=>ty σ H2 fun y H3=>∃a H4,x=.ref a/\Wl H3 a y v H4/\D.nx σ H4
section
variable{X:Cx}{o i e value:Expr}{pos pos' tpos:Pos}{td ty tv:TE}
theorem Iz(hu:X.A.units+1<cLine)(ho:PE X o td)(hi:PE X i ty)(hs:HR i):PE X (.Subscript o i pos) (Vr td ty):=by intro pins s σ H Q I h;refine yN PySem.F.slot_dict_getitem.lookup hs (bZ (ho pins s σ H _ I h) fun u s1⟨x,H1,I1,rx,q1⟩=>bZ (hi pins s1 σ H1 _ I1 q1) fun iv s2⟨y,H2,I2,ry,a,v,ex,g,q2⟩=>?_);subst ex;obtain rfl:u=Value.ref a:=rx;exact⟨iZ I2 g,mH hu I2 g ry fun w' s3 I3 vL=>⟨v,H2,I3,vL,q2⟩⟩
theorem Mm(hu:X.A.units+1<cLine)(hi:PE X i ty)(ho:PE X o td):PC X .In i o (abu ty td):=by intro pins s σ H Q I h;refine bZ (hi pins s σ H _ I h) fun iv s1⟨y,H1,I1,ry,q1⟩=>bZ (ho pins s1 σ H1 _ I1 q1) fun u s2⟨x,H2,I2,rx,a,ov,ex,g,q2⟩=>?_;subst ex;obtain rfl:u=Value.ref a:=rx;exact V9 hu I2 g ry fun s3 I3=>⟨.bl ov.isSome,H2,I3,rfl,q2⟩
theorem zQ(hu:X.A.units+1<cLine)(hi:PE X i ty)(ho:PE X o td):PC X .NotIn i o (J2 ty td):=by intro pins s σ H Q I h;refine bZ (hi pins s σ H _ I h) fun iv s1⟨y,H1,I1,ry,q1⟩=>bZ (ho pins s1 σ H1 _ I1 q1) fun u s2⟨x,H2,I2,rx,a,ov,ex,g,q2⟩=>?_;subst ex;obtain rfl:u=Value.ref a:=rx;exact zj hu I2 g ry fun s3 I3=>⟨.bl (!ov.isSome),H2,I3,rfl,q2⟩
theorem Js(hu:X.A.units+1<cLine)(ho:PE X o td)(hi:PE X i ty)(hv:PE X value tv)(hs:swapsWith value (some (.Subscript o i pos')) pos.line X.env=pure false):PS X (.Assign [.Subscript o i pos'] value pos) (Ue td ty tv):=by intro pins s σ H D I h;refine wpAny_Assign_Subscript (bZ (hv pins s σ H _ I h) fun r s1⟨v,H1,I1,rv,q1⟩=>bZ (ho pins s1 σ H1 _ I1 q1) fun u s2⟨x,H2,I2,rx,q2⟩=>bZ (hi pins s2 σ H2 _ I2 q2) fun iv s3⟨y,H3,I3,ry,a,H4,ex,g,q3⟩=>?_) hs;subst ex;obtain rfl:u=Value.ref a:=rx;exact zX hu I3 g ry rv fun s4 I4=>⟨σ,H4,I4,q3⟩
end
theorem uO{P:Program}{w:World}{H:Hp}(h:Heap)(hb:sysModules<h.objs.size):bR P w H (h.push {cls:=.type "dict",data:=.dict #[]}) h.objs.size (.dK []):=⟨zero_le _,beq_eq_false_iff_ne.mpr (Ne.symm (ne_of_lt hb)),[],.nil,Heap.DictOf.new h⟩
def Qa:TE:=fun _ H Q=>∀p,H p=none->Q (.ref p) (upd H p (.dK []))
section
variable{X:Cx}{pos:Pos}
theorem Cz:PE X (.Dict [] [] pos) Qa:=fun pins s σ H Q I h=>wpAny_Dict_empty ⟨.ref s.heap.objs.size,_,I.laid (a:=s.heap.objs.size) (o:=.dK []) (t':=s.toks) (fun _ _ q=>get?_push_of_some _ q) (le_refl _) (uO s.heap I.big),rfl,h _ (I.hok.fresh (le_refl _))⟩
end
def xF:List (TE×TE)->St->Hp->(List (V×V)->Hp->Prop)->Prop|[],_,H,Q=>Q [] H|(tk,tv)::r,σ,H,Q=>tk σ H fun x H1=>tv σ H1 fun y H2=>xF r σ H2 fun ps H3=>Q ((x,y)::ps) H3
abbrev VV:List (V×V)->List (Value×Value)->Prop:=Paired fun p q=>RelV p.1 q.1/\RelV p.2 q.2
def Yu(X:Cx)(pos:Pos)(keys:List (Option Expr))(values:List Expr)(Kd:List (TE×TE)):Prop:=∀(pins:List (Addr × Obj))(s:Shared)(σ:St)(H:Hp)(Q:List (V × V)->Hp->Prop),Inv X pins σ H s->xF Kd σ H Q->wpAny (model X.prog X.w) X.A (evalPairs (pairTrees keys values X.env pos)) (fun vs s'=>∃ps H',Inv X pins σ H' s'/\VV ps vs/\Q ps H') X.xe s
theorem JD{X:Cx}{pos:Pos}:Yu X pos [] [] []:=fun pins s σ H Q I h=>pairTrees_nil_walk ⟨[],H,I,.nil,h⟩
theorem Fg{X:Cx}{pos:Pos}{k v:Expr}{ks:List (Option Expr)}{vs:List Expr}{tk tv:TE}{Kd:List (TE×TE)}(hk:PE X k tk)(hv:PE X v tv)(hr:Yu X pos ks vs Kd):Yu X pos (some k::ks) (v::vs) ((tk,tv)::Kd):=fun pins s σ H Q I h=>pairTrees_cons_walk (bZ (hk pins s σ H _ I h) fun u s1⟨x,H1,I1,rx,q1⟩=>bZ (hv pins s1 σ H1 _ I1 q1) fun w2 s2⟨y,H2,I2,ry,q2⟩=>bZ (hr pins s2 σ H2 _ I2 q2) fun ws s3⟨ps,H3,I3,rel,q3⟩=>⟨(x,y)::ps,H3,I3,.cons ⟨rx,ry⟩ rel,q3⟩)
noncomputable def mq(kvs more:List (Key×V)):List (Key×V):=more.foldl (fun acc kv=>putK acc kv.1 kv.2) kvs
theorem KV.merge:∀{more:List (Key×V)}{rs:List (Key×Value)}{kvs:List (Key×V)}{vs:List (Key×Value)},KV more rs->KV kvs vs->KV (mq kvs more) (merged vs rs):=by intro more rs kvs vs r;unfold KV at r;induction r generalizing kvs vs with|nil=>intro q;exact q|@cons p q ps qs h t ih=>
   intro r0;have e:KV (putK kvs p.1 p.2) (stored vs q.1 q.2):=by have:=r0.put p.1 h.2;rw[<-h.1];exact this
   exact ih e
theorem jM:∀(more kvs:List (Key×V)),(mq kvs more).length<=kvs.length+more.length|[],kvs=>by show kvs.length<=kvs.length+0;omega|p::r,kvs=>by have h1:=jM r (putK kvs p.1 p.2);have h2:=jq kvs p.1 p.2;show(mq (putK kvs p.1 p.2) r).length<=_;rw[length_cons];omega
theorem pR{P:Program}{w:World}:∀{kvs:List (Key×V)}{ws:List (Value×Value)},VV (kvs.map fun kv=>(kV kv.1,kv.2)) ws->∃rs,Carries (bL P w) ws rs/\KV kvs rs|[],_,r=>by rw[map_nil]at r;cases r;exact⟨[],True.intro,.nil⟩|p::kvs,_,r=>by rw[map_cons]at r;cases r with|@cons a b as bs h t=>obtain⟨rs,c,q⟩:=pR (P:=P) (w:=w) t;obtain⟨b1,b2⟩:=b;exact⟨(p.1,b2)::rs,⟨qC h.1,rfl,c⟩,.cons ⟨rfl,h.2⟩ q⟩
def Uz(Kd:List (TE×TE)):TE:=fun σ H Q=>∀p,H p=none->xF Kd σ (upd H p (.dK [])) fun ps H2=>H2 p=some (.dK [])/\∃kvs:List (Key×V),ps=kvs.map (fun kv=>(kV kv.1,kv.2))/\kvs.length<=15/\Q (.ref p) (upd H2 p (.dK (mq [] kvs)))
theorem Iv{X:Cx}{pos:Pos}{keys:List (Option Expr)}{values:List Expr}{Kd:List (TE×TE)}(h:Yu X pos keys values Kd)(hall:keys.all (·.isSome)=true)(hl:keys.length=values.length)(h0:keys≠[])(h15:keys.length<=15):PE X (.Dict keys values pos) (Uz Kd):=by
 intro pins s σ H Q I q;have hn:=I.hok.fresh (le_refl s.heap.objs.size);have I1:=I.laid (a:=s.heap.objs.size) (o:=.dK []) (h':=s.heap.push {cls:=.type "dict",data:=.dict #[]}) (t':=s.toks) (fun _ _ q=>get?_push_of_some _ q) (le_refl _) (uO s.heap I.big);refine wpAny_Dict_walk (knd:=bL X.prog X.w) hall hl h0 h15 (bZ (h pins _ σ _ _ I1 (q _ hn)) fun ws s2⟨ps,H2,I2,rel,e,kvs,ep,lk,q2⟩=>?_);subst ep;obtain⟨rs,c,rk⟩:=pR (P:=X.prog) (w:=X.w) rel;obtain⟨z,hd,TF,r0,dd⟩:=Lq I2.hok e;cases r0;refine⟨rs,c,dd,fun h' Q8 hs=>⟨.ref s.heap.objs.size,_,?_,rfl,q2⟩⟩;have hz:(mq [] kvs).length<=sizeLine:=by have h1:=jM kvs [];rw[length_nil]at h1;rw[sizeLine_eq];omega
 have he:∃q,h'.get? s.heap.objs.size=some q:=let⟨q,_,_,hq,_⟩:=Q8;⟨q,hq⟩;exact sJ I2 (by rw[e];exact True.intro) hs he (Gp hz hd (rk.merge .nil) Q8)
end L2
namespace Zg
open PySem PySem.W PySem.Calls PyProof.Rows
end Zg
namespace L2
open PySem PySem.Spec PyProof.Rows
end L2
end
section
namespace HH
open PySem L2 PySem.Spec PyProof.Rows
inductive KR(K:PySem.W.Frag)(F:Hp):List (Int×D)->List (Key×V)->Prop where|nil:KR K F [] []|cons{k:Int}{d:D}{v:V}{kvs:List (Int×D)}{es:List (Key×V)}(h:Rep K F v d)(t:KR K F kvs es):KR K F ((k,d)::kvs) ((Sum.inl k,v)::es)
section
variable{K:PySem.W.Frag}{F F':Hp}
noncomputable def ent(ks:List Int)(vs:List V):List (Key×V):=(ks.zip vs).map fun p=>(Sum.inl p.1,p.2)
theorem KR.of:∀{kvs:List (Int×D)}{vs:List V},aF K F vs (kvs.map (·.2))->KR K F kvs (ent (kvs.map (·.1)) vs)|[],vs,h=>by rw[map_nil]at h;rw[h.fc];exact .nil|(k,d)::kvs,vs,h=>by obtain⟨v,r,rfl,h1,h2⟩:=h.cF;exact .cons h1 (KR.of h2)
theorem KR.to{kvs:List (Int×D)}{es:List (Key×V)}(h:KR K F kvs es):∃vs,es=ent (kvs.map (·.1)) vs/\aF K F vs (kvs.map (·.2)):=by induction h with|nil=>exact⟨[],rfl,.nil⟩|@cons k d v kvs es h t ih=>obtain⟨vs,rfl,r⟩:=ih;exact⟨v::vs,rfl,.cons h r⟩
theorem KR.oc{kvs:List (Int×D)}{es:List (Key×V)}(h:KR K F kvs es):jK K F (.dK es) (.v kvs):=by obtain⟨vs,rfl,r⟩:=h.to;exact⟨vs,rfl,r⟩
theorem KR.QQ{kvs:List (Int×D)}{o:HO}(h:jK K F o (.v kvs)):∃es,o=.dK es/\KR K F kvs es:=by obtain⟨vs,rfl,r⟩:=h;exact⟨_,rfl,.of r⟩
theorem KR.len{kvs:List (Int×D)}{es:List (Key×V)}(h:KR K F kvs es):es.length=kvs.length:=by induction h with|nil=>rfl|cons h t ih=>simp[ih]
theorem KR.get{kvs:List (Int×D)}{es:List (Key×V)}{k:Int}{d:D}(h:KR K F kvs es)(e:mz kvs k=some d):∃v,iR es (Sum.inl k:Key)=some v/\Rep K F v d:=by induction h with|nil=>cases e|@cons j d' v kvs es h t ih=>
   unfold mz at e ih;rw[find?_cons]at e;by_cases c:j=k;.simp[c]at e;subst e;exact⟨v,lA (by rw[c]),h⟩
   .simp[c]at e;obtain⟨v',h1,h2⟩:=ih (by simpa using e);exact⟨v',by rw[kJ (by simpa using c)];exact h1,h2⟩
theorem KR.any{kvs:List (Int×D)}{es:List (Key×V)}(k:Int)(h:KR K F kvs es):(es.any fun kv=>decide (kv.1=(Sum.inl k:Key)))=kvs.any fun p=>decide (p.1=k):=by induction h with|nil=>rfl|cons h t ih=>simp[ih]
theorem KR.has{kvs:List (Int×D)}{es:List (Key×V)}(k:Int)(h:KR K F kvs es):(iR es (Sum.inl k:Key)).isSome=(kvs.map (·.1)).contains k:=by rw[<-pg,h.any k];induction h with|nil=>rfl|@cons j d v kvs es h t ih=>rw[any_cons,ih,map_cons,List.contains_cons];congr 1;exact Bool.eq_iff_iff.mpr ⟨fun z=>by simp at z ⊢;exact z.symm,fun z=>by simp at z ⊢;exact z.symm⟩
theorem KR.repl{kvs:List (Int×D)}{es:List (Key×V)}{k:Int}{d:D}{v:V}(r:Rep K F v d)(h:KR K F kvs es):KR K F (kvs.map fun p=>if p.1=k then(p.1,d)else p) (es.map fun kv=>if kv.1=(Sum.inl k:Key)then(kv.1,v)else kv):=by induction h with|nil=>exact .nil|@cons j d' v' kvs es h t ih=>
   by_cases c:j=k;.subst c;simp;exact .cons r ih
   . have:¬(Sum.inl j:Key)=Sum.inl k:=by simpa using c
     simp[c,this];exact .cons h ih
theorem KR.snoc{kvs:List (Int×D)}{es:List (Key×V)}{k:Int}{d:D}{v:V}(r:Rep K F v d)(h:KR K F kvs es):KR K F (kvs++[(k,d)]) (es++[(Sum.inl k,v)]):=by induction h with|nil=>exact .cons r .nil|cons h t ih=>exact .cons h ih
theorem KR.put{kvs:List (Int×D)}{es:List (Key×V)}{k:Int}{d:D}{v:V}(r:Rep K F v d)(h:KR K F kvs es):KR K F (jn kvs k d) (putK es (Sum.inl k:Key) v):=by
 unfold jn putK;rw[h.any k];split;.exact h.repl r
 .exact h.snoc r
theorem KR.zip{ks:List Int}{ds:List D}{vs:List V}(h:aF K F vs ds)(hl:ks.length=ds.length):KR K F (ks.zip ds) (ent ks vs):=by induction ds generalizing ks vs with
 |nil=>rw[h.fc];cases ks with|nil=>exact .nil|cons _ _=>simp at hl
 |cons d ds ih=>obtain⟨v,r,rfl,h1,h2⟩:=h.cF;cases ks with|nil=>simp at hl|cons k ks=>exact .cons h1 (ih h2 (by simpa using hl))
end
noncomputable def K1(p:Int×Int):Key×V:=(Sum.inl p.1,V.int p.2)
theorem Eg(i:Int):∀kvs:List (Int×Int),iR (kvs.map K1) (Sum.inl i:Key)=((kvs.find? fun kv=>decide (kv.1=i)).map (·.2)).map V.int
 |[]=>rfl|p::kvs=>by
   have ih:=Eg i kvs;unfold iR at ih ⊢;rw[map_cons,find?_cons,find?_cons];by_cases h:p.1=i
   . have e:decide ((K1 p).1=(Sum.inl i:Key))=true:=by simp[K1,h]
     rw[e];simp[h,K1]
   . have e:decide ((K1 p).1=(Sum.inl i:Key))=false:=by simp[K1,h]
     rw[e];simp only[h,decide_false];exact ih
section
variable{X:Cx}{c:Call}{n:Nat}{a b e:Expr}{pa pb p:P}{pos:Pos}
theorem QH{H:Hp}{q:Addr}{m:Dc}{i:Int}{o:Option Int}(h:Rd H q m.ho)(e:m.get (.int i)=some o):pH H q (.int i) (o.map V.int):=by cases m with|k kvs=>cases e;exact .inl ⟨kvs.map K1,Sum.inl i,h,rfl,(Eg i kvs).symm⟩|t kvs=>cases e
theorem sO(hu:X.A.units+8<cLine)(ha:SX X c a pa)(hb:SX X c b pb)(hs:HR b):SX X c (.Subscript a b pos) (.bin .Bs pa pb):=by refine sI (f:=zu) (fun h1 h2=>?_) ha hb (fun ρ=>rfl) rfl;intro pins s σ H Q I h;refine yN PySem.F.slot_dict_getitem.lookup hs (bZ (h1 pins s σ H _ I h) fun u s1⟨x,H1,I1,rx,q1⟩=>bZ (h2 pins s1 σ H1 _ I1 q1) fun iv s2⟨y,H2,I2,ry,q2⟩=>?_);obtain⟨F,d,e,r,sm,px,py,he,k⟩:=q2;cases d with
 |cY m=>have zz:=cC (show(m.get e).bind (fun o=>o.map fun v=>R.val (.int v))=some r from he);clear he;obtain⟨o,e1,he⟩:=zz;cases o with|none=>cases he|some v=>
     cases he;obtain⟨i,rfl⟩:∃i,e=.int i:=by cases m with|t kvs=>cases e<;>cases e1|k kvs=>cases e<;>first|exact⟨_,rfl⟩|cases e1
     obtain⟨q,ob,rfl,hq⟩:=px.cY sm;rw[py.int]at ry;obtain rfl:u=Value.ref q:=rx;have g:=QH (.inr ⟨ob,hq⟩) e1;exact⟨iZ I2 g,mH (by omega) I2 g ry fun w' s3 I3 vL=>⟨.int v,H2,I3,vL,cB.dm sm (cj _) k⟩⟩
 |dv ks ds=>cases e with|int j=>obtain⟨d',e5,he⟩:=map_some (show(mz (ks.zip ds) j).map R.val=some r from he);subst he;obtain⟨q,ob,vs,rfl,hq,rs,hl⟩:=px.dv sm;obtain⟨v',g1,g2⟩:=(KR.zip rs hl).get e5;rw[py.int]at ry;obtain rfl:u=Value.ref q:=rx;have g:pH H2 q (.int j) (some v'):=.inl ⟨_,Sum.inl j,.inr ⟨ob,hq⟩,rfl,g1.symm⟩;exact⟨iZ I2 g,mH (by omega) I2 g ry fun w' s3 I3 vL=>⟨v',H2,I3,vL,cB.dm sm g2 k⟩⟩|_=>cases he
 |_=>cases he
end
end HH
end
section
namespace L2
open PySem PySem.Spec PyProof.Rows
noncomputable def Itk(a:Addr)(ob:Obj)(kvs:List (Key×V)):It:=⟨fun i H=>H a=some (.cW ob (.dK kvs))/\i<kvs.length,fun i H x H'=>H'=H/\∃p,kvs[i]?=some p/\x=kV p.1,fun i H=>H a=some (.cW ob (.dK kvs))/\kvs.length<=i⟩
theorem KV.get:∀{κ:Type}{kvs:List (κ×V)}{vs:List (κ×Value)}{i:Nat}{p:κ×V},KV kvs vs->kvs[i]?=some p->∃v,vs[i]?=some (p.1,v)|_,_,_,_,_,.nil,e=>by simp at e|_,_,_,0,_,.cons r _,e=>by simp at e;subst e;exact⟨_,by rw[List.getElem?_cons_zero,r.1]⟩|_,_,_,i+1,p,.cons _ t,e=>by obtain⟨v,h⟩:=KV.get (i:=i) (p:=p) t (by simpa using e);exact⟨v,by simpa using h⟩
theorem qN{X:Cx}{pins:List (Addr×Obj)}{σ:St}{H:Hp}{s:Shared}{a:Addr}{ob:Obj}{kvs:List (Key×V)}{es:Array DictEntry}{ep:Nat}(I:Inv X pins σ H s)(h:H a=some (.cW ob (.dK kvs)))(hd:ob.data=.dict es ep):(a==sysModules)=false/\∃vs,KV kvs vs/\s.heap.DictAt (bL X.prog X.w) a vs ep:=by obtain⟨ho,hz,hS,vs,r,dd⟩:=(show bR X.prog X.w H s.heap a (.cW ob (.dK kvs))from I.hok a _ h);obtain⟨o,es',ep',h1,h2,h3,h4⟩:=dd;rw[ho]at h1;cases h1;rw[hd]at h3;cases h3;exact⟨hS,vs,r,⟨ob,es,ho,h2,hd,h4⟩⟩
theorem O5{P:Program}{w:World}{k:Key}{u:Value}(h:(bL P w).is k u=true):RelV (kV k) u:=by
 rcases bN h with⟨i,t,rfl,rfl⟩|⟨x,t,rfl,rfl⟩;.exact⟨t,rfl⟩
 .exact⟨t,rfl⟩
theorem Ab{P:Program}{w:World}{K:PySem.W.Frag}{tg:Expr}(a it:Addr)(ob:Obj)(kvs:List (Key×V))(es:Array DictEntry)(ep:Nat)(hd:ob.data=.dict es ep):Turn P w K tg (Itk a ob kvs) [it] it (fun i h=>h.IsKeyIter it a i kvs.length ep)where
 mem:=by simp
 obj:=fun i h st b hb=>by
  have e:b=it:=by simpa using hb
  subst e;obtain⟨o,e,c,d⟩:=st;exact⟨o,e,fun v z=>by rw[d]at z;cases z⟩
 keep:=fun i h h' st k=>st.at fun o e=>k it (by simp) o e;item:=by intro X hP hw hK hc i pins s σ H E I hf st hg;subst hP hw hK;obtain⟨hq,hi⟩:=hg;obtain⟨hS,vs,r,dd⟩:=qN I hq hd;have hl:vs.length=kvs.length:=(Paired.length r).symm;obtain⟨v,hx⟩:=KV.get r (show kvs[i]?=some kvs[i]by simp[hi]);obtain⟨f0,f1,f2,f3,f4,f5⟩:=hf it (by simp);refine wpAny_pyNext_dict_item (by rw[hl];exact st) dd hx fun u h' hu st' sb=>?_;have I1:Inv X pins σ H {s with heap:=h'}:=I.turned (t':=s.toks) (fun b o hb e=>(sb.2 b hb).trans e) f0 f1 f3 f4 f5;rw[hl]at st';obtain⟨o,e,c,d⟩:=id st';exact⟨u,rfl,yZ (s:={s with heap:=h'}) e c d (by decide) ⟨_,H,I1,O5 hu,⟨rfl,_,by simp[hi],rfl⟩,st',fun b hb=>(hf b hb).1⟩⟩
 done:=by intro X hP hw hK hc i pins s σ H E I hf st hg;subst hP hw hK;obtain⟨hq,hi⟩:=hg;obtain⟨hS,vs,r,dd⟩:=qN I hq hd;have hl:vs.length=kvs.length:=(Paired.length r).symm;obtain⟨f0,f1,f2,f3,f4,f5⟩:=hf it (by simp);refine wpAny_pyNext_dict_end (I.ok.hd hc) (by rw[hl];exact st) dd (by simp[hl,hi]) fun h' he=>⟨rfl,?_⟩;exact I.turned (t':=s.toks) (fun b o hb e=>he b o hb e) f0 f1 f3 f4 f5
 self:=fun A i s Q E st hQ=>wpAny_pyIter_keyiter st hQ
section
variable{X:Cx}{tg:Expr}
theorem Jc{l:Expr}{tl:TE}(hl:PE X l tl):PI X tg l (fun σ H R=>tl σ H fun x H1=>∃a ob kvs,x=.ref a/\H1 a=some (.cW ob (.dK kvs))/\R (Itk a ob kvs) H1):=by
 intro pins s σ H R I h;refine bZ (hl pins s σ H _ I h) ?_;rintro v s1⟨x,H1,I1,r1,a,ob,kvs,e,hq,q⟩;subst e;cases r1;obtain⟨ho,hz,hS,vs,r,dd⟩:=(show bR X.prog X.w H1 s1.heap a (.cW ob (.dK kvs))from I1.hok a _ hq);obtain⟨o,es,ep,h1,h2,h3,h4⟩:=id dd;rw[ho]at h1;cases h1;have hlen:vs.length=kvs.length:=(Paired.length r).symm;refine wpAny_pyIter_dict (knd:=bL X.prog X.w) (kvs:=vs) (ep:=ep) hS ⟨ob,es,ho,h2,h3,h4⟩ ?_;refine⟨s1.heap.objs.size,[s1.heap.objs.size],_,_,H1,rfl,I1.kept (t':=s1.toks) fun b o e=>get?_push_of_some _ e,Ab a _ ob kvs es ep h3,⟨_,get?_push_size _ rfl,rfl,by rw[hlen];rfl⟩,fun b hb=>?_,q⟩;have e:b=s1.heap.objs.size:=by simpa using hb
 subst e;exact I1.xY (le_refl _) (I1.hok.fresh (le_refl _))
end
end L2
namespace HH
open PySem L2 PySem.Spec PyProof.Rows
section
variable{X:Cx}{c:Call}{tg e:Expr}{p:P}
theorem J1{ks:List Int}{es:List (Key×V)}{j:Nat}{p:Key×V}{i:Int}(h:es.map (·.1)=ks.map (Sum.inl:Int->Key))(e1:es[j]?=some p)(e2:ks[j]?=some i):p.1=Sum.inl i:=by
 have:(es.map (·.1))[j]?=(ks.map (Sum.inl:Int->Key))[j]?:=by rw[h]
 rw[getElem?_map,getElem?_map,e1,e2]at this;exact Option.some.inj this
theorem km:∀{ks:List Int}{vs:List V},ks.length=vs.length->(ent ks vs).map (·.1)=ks.map (Sum.inl:Int->Key)|[],[],_=>rfl|k::ks,v::vs,h=>by have:=km (ks:=ks) (vs:=vs) (by simpa using h);unfold ent at this ⊢;simpa using this|[],_::_,h=>by simp at h|_::_,[],h=>by simp at h
theorem Iw(h:SX X c e p):SI X c tg e (.blt .keys [p]):=by
 unfold SI;obtain⟨ta,h1,h2⟩:=h.cR;refine mU (Jc h1) ?_;rintro σ H R⟨F,ρ,ds,ρ1,g,eA,k⟩;obtain⟨r,ρ2,eB,eC⟩:=ak (show((HH.ev c (.blt .keys [p]) ρ).bind fun r ρ=>lift (items r.d) ρ)=.ok ds ρ1 from eA);obtain⟨eD,e3⟩:=aD eC;subst e3;rw[HH.E16]at eB;obtain⟨d,ρ3,e1,eE⟩:=ak eB;obtain⟨eF,e4⟩:=aD eE;subst e4;refine h2 g e1 fun v F' H' s pv=>?_;have hd:∃(ks:List Int)(es:List (Key×V))(a:Addr)(ob:Obj),ds=ks.map D.int/\v=.ref a/\H' a=some (.cW ob (.dK es))/\es.map (·.1)=ks.map (Sum.inl:Int->Key):=by cases d with
  |cY m=>cases m with|k kvs=>cases eF;cases eD;obtain⟨a,ob,rfl,hq⟩:=pv.cY s.gs.sub;exact⟨kvs.map (·.1),kvs.map K1,a,ob,by rw[map_map];rfl,rfl,hq,by rw[map_map,map_map];rfl⟩|t kvs=>cases eF
  |dv ks ds'=>cases eF;cases eD;obtain⟨a,ob,vs,rfl,hq,rs,hl⟩:=pv.dv s.gs.sub;exact⟨ks,ent ks vs,a,ob,rfl,rfl,hq,km (by rw[rs.length];exact hl)⟩|_=>cases eF
 obtain⟨ks,es,a,ob,rfl,rfl,hq,hes⟩:=hd;have hle:es.length=ks.length:=by have:=congrArg List.length hes;simpa using this
 refine⟨a,ob,es,rfl,hq,k _ F' H' ⟨s.gs,fun n j F2 ρ2 σ2 H2 s2=>?_,fun F2 ρ2 σ2 H2 s2=>⟨s.trans s2,fun v r rr=>rr.later s⟩⟩⟩;have gm:=s.gs.more (n:=n) (τ:=replicate n none) (by simp);have hq2:=s2.keep a _ hq fun⟨j,⟨t,dt,q1,q2⟩,q3⟩=>by obtain⟨a',o',z1,z2,z3,z4⟩:=gm.own j t dt q1 q2;rw[q3]at z1;cases z1;rw[hq]at z2;cases z2;cases dt with|l ds=>obtain⟨xs,z,_⟩:=z4;cases z|d m=>cases m<;>cases z4|v kvs=>obtain⟨xs,z,_⟩:=z4;cases z
 refine⟨fun d hd=>?_,fun hj=>⟨hq2,by rw[hle];simpa using hj⟩⟩;have hj:j<ks.length:=by have:=(List.getElem?_eq_some_iff.mp hd).1;simpa using this
 refine⟨⟨hq2,by omega⟩,fun x jH⟨e5,q,e6,e7⟩=>?_⟩;subst e5;refine⟨F2,.refl s2.gs.sub,?_⟩;rw[getElem?_map]at hd;obtain⟨i,e8,e9⟩:=map_some hd;rw[e7,J1 hes e6 e8,<-e9];exact cj _
end
end HH
end
section
namespace HH
open PySem L2 PySem.Spec PyProof.Rows PySem.Calls PySem.W
section
variable{prog:Program}{w:World}{A:Around}{E:Value->Shared->Prop}{s:Shared}
theorem tH{κ:Type}[DecidableEq κ]{knd:PySem.KeyKind prog w κ}{d:Addr}{kvs:List (κ×Value)}{ep:Nat}{Q:List Value->Shared->Prop}(hh:A.handled=none)(lo:(d==sysModules)=false)(dd:s.heap.DictAt knd d kvs ep)(hn:kvs.length<=sizeLine)(hQ:∀h' tk acc,(∀b o,s.heap.get? b=some o->h'.get? b=some o)->s.heap.objs.size<h'.objs.size->ItemsOf (fun i v=>∃k x,kvs[i]?=some (k,x)/\knd.is k v=true) acc kvs.length->Q acc.toList {s with heap:=h',toks:=tk}):
 wpAny (model prog w) A (collect (.ref d)) Q E s:=by have hlt:=dd.lt_size;unfold collect;refine wpAny_bind (wpAny_runValue (codeAny_builtin F.entry_proto_collect ?_));rw[Around.under_plainId F.plain_proto_collect _];show wpAny _ A.in1 (newList []>>=fun l=>again (.builtin "list.__iadd__" ⟨[l,.ref d],[]⟩)) _ _ s;refine wpAny_bind (wpAny_newObj_type ?_);refine wpAny_pure ⟨plainId_quiet F.plain_list_iadd _,codeAny_builtin F.entry_list_iadd ?_⟩;rw[Around.under_plainId F.plain_list_iadd _];show wpAny _ A.in1 (listExtendWith (.ref s.heap.objs.size) (.ref d) (.ref s.heap.objs.size)) _ _ _;refine kdl_extend (A:=A) (R:=fun r s'=>match r with
  |.ok (.ret v)=>wpAny (model prog w) A (match v with
   |.ref a=>do let o<-load a match o.data with|.seq xs _=>pure xs.toList|_=>unsupported "internal:collect"
   |_=>unsupported "internal:collect") Q E s'|.ok _=>False|.error e=>E e s') (s:={s with heap:=s.heap.push {cls:=.type "list",data:=.seq #[]}}) (kdl_dict (knd:=knd) (kvs:=kvs) (ep:=ep) lo) hh (dd.push _) s.heap.objs.size (ne_of_gt hlt) (ne_of_gt hlt) _ 0 (get?_push_size _ rfl) (fun h' tk acc c' hk hS hacc=>?_) hn;refine wpAny_bind (wpAny_load hS ?_);exact wpAny_pure (hQ h' tk acc (fun b o e=>hk b o (ne_of_lt (lt_size e)) (get?_push_of_some _ e)) (lt_size hS) hacc)
end
section
variable{X:Cx}{c:Call}{a:Expr}{pa:P}{pos:Pos}
theorem ie:∀{ns:List Int}{us:List Value},IntsAre us ns->Vals (ns.map V.int) us|_,_,.nil=>.nil|_,_,.cons n t r=>.cons ⟨t,rfl⟩ (ie r)
theorem lZ{K:PySem.W.Frag}{F:Hp}:∀ns:List Int,aF K F (ns.map V.int) (ns.map D.int)|[]=>.nil|n::ns=>.cons (cj n) (lZ ns)
end
end HH
end
section
namespace HH
open PySem L2 PySem.Spec PyProof.Rows
theorem Inv.abp{X:Cx}{pins:List (Addr×Obj)}{σ:L2.St}{H:Hp}{s:Shared}{a:Addr}{kvs:List (List Key×V)}(I:L2.Inv X pins σ H s)(h:H a=some (.dT kvs)):∃o,L2.Inv X pins σ (upd H a (.cW o (.dT kvs))) s:=by obtain⟨z,y,xs,r,o,es,ep,h1,h2,h3,h4,h5⟩:=(show bR X.prog X.w H s.heap a (.dT kvs)from I.hok a _ h);refine⟨o,I.write (h':=s.heap) (t':=s.toks) (by rw[h];exact trivial) (.inl rfl) (fun b u _ e=>e) ⟨o,h1⟩ ⟨h1,z,y,xs,KT.keeps r fun b ys q=>?_,o,es,ep,h1,h2,h3,h4,h5⟩⟩;rw[aC (by rintro rfl;rw[h]at q;cases q)];exact q
section
variable{X:Cx}{c:Call}{n:Nat}{a b e:Expr}{p pa pb:P}{pos:Pos}{es:List Expr}{ps:List P}{x1:Nat}{tpos:Pos}
theorem T4{i:Nat}{x:Str}{px:Pos}(hN:X.N[i]?=some x)(hv:v8 X.env.scope x)(hd:(x==("__debug__":Str))=false:=by decide)(hcd:(x==("__classdict__":Str))=false:=by decide):SX X c (.Name x px) (.vw i):=by
 have h:=gF (X:=X) (pos:=px) hN hv hd hcd;refine⟨?_,fun i h=>by cases h⟩;rintro pins s σ H Q I⟨F,ρ,r,ρ',g,e,k⟩;rw[HH.E23]at e;split at e
 . rename_i m q;cases e;obtain⟨a,h1,h2,h3⟩:=g.yU q;refine bZ (h pins s σ H (fun v H'=>v=.ref a/\H'=H) I ⟨.ref a,h1,rfl,rfl⟩) fun u s1⟨v,H1,I1,r1,e1,e2⟩=>?_;subst e1 e2;have zz:∃o,L2.Inv X pins σ (upd H1 a (.cW o m.ho)) s1:=by cases m with|k kvs=>exact Inv.Ck I1 h2|t kvs=>exact Inv.abp I1 h2
   obtain⟨o,I2⟩:=zz;exact⟨.ref a,_,I2,r1,k _ _ _ (h3 o).1 (h3 o).2⟩
 .rename_i kvs q;cases e;obtain⟨a,vs,h1,h2,h3⟩:=g.zq q;refine bZ (h pins s σ H (fun v H'=>v=.ref a/\H'=H) I ⟨.ref a,h1,rfl,rfl⟩) fun u s1⟨v,H1,I1,r1,e1,e2⟩=>?_;subst e1 e2;obtain⟨o,I2⟩:=Inv.Ck I1 h2;exact⟨.ref a,_,I2,r1,k _ _ _ (h3 o).1 (h3 o).2⟩
 .cases e
end
end HH
end
section
namespace HH
open PySem L2 PySem.Spec PyProof.Rows
section
variable{K:PySem.W.Frag}{F H F' H':Hp}{ρ ρ':List Sl}{σ σ':L2.St}
def Kp(ρ:List Sl)(σ:L2.St)(H:Hp)(a:Addr)(o:HO):Prop:=H a=some o/\¬ Own ρ σ a
theorem Kp.stp{a:Addr}{o:HO}(h:Kp ρ σ H a o)(s:aJ K F ρ σ H F' ρ' σ' H'):Kp ρ' σ' H' a o:=⟨s.keep a o h.1 h.2,fun z=>(s.ur a z).elim h.2 fun e=>by rw[h.1]at e;cases e⟩
structure Wt(K:PySem.W.Frag)(F:Hp)(ρ:List Sl)(σ:L2.St)(H:Hp)(a:Addr)(ds:List D):Prop where
 ex:∃xs,Kp ρ σ H a (.lst xs)/\aF K F xs ds
 fr:F a=none
theorem Wt.stp{a:Addr}{ds:List D}(h:Wt K F ρ σ H a ds)(s:aJ K F ρ σ H F' ρ' σ' H'):Wt K F' ρ' σ' H' a ds:=by obtain⟨⟨xs,h1,h2⟩,h3⟩:=h;refine⟨⟨xs,h1.stp s,h2.mono s.bU⟩,?_⟩;cases q:F' a with|none=>rfl|some o=>
   rcases s.vQ a h3 (by rw[q];simp)with z|z;.exact absurd z h1.2
   .rw[h1.1]at z;cases z
end
end HH
end
section
namespace HH
open PySem L2 PySem.Spec PyProof.Rows
section
variable{X:Cx}{c:Call}{n:Nat}{e a b d elt tg:Expr}{p pa pb pe:P}{pos:Pos}{elts:List Expr}{x1:Nat}{tp:Pos}
def Wn(K:PySem.W.Frag)(i:Nat)(f:Ev):TI:=fun σ H R=>∃F ρ ds ρb ρ1,GS K F ρ σ H/\Ge i f ρ=.ok (ds,ρb) ρ1/\∀J F1 H1,Walk K F ρ σ H (aW ρb (some i)) J ds F1 ρ1 H1->R J H1
theorem Ip{x:Str}{p':Pos}{i:Nat}(hx:x="zip")(hg:Gl X x)(hm:X.mg x=none)(hv:isVar pb=some i)(ha:SX X c a pa)(hb:SX X c b pb)(hs:starEach [a,b] X.env=[(false,eval a X.env),(false,eval b X.env)]:=by rfl)(hs2:starEach [b] X.env=[(false,eval b X.env)]:=by rfl):PI X (.Tuple elts x1 tp) (.Call (.Name x p') [a,b] [] pos) (Wn X.K i (HH.ev c pa)):=by
 subst hx;refine mU (O8 hg hm (cz ha.ev (cz (hb.var i hv) dR hs2) (by rw[hs,hs2])) hs hs2) ?_;rintro σ H R⟨F,ρ,ds,ρb,ρ1,g,e,k⟩;obtain⟨r,ρ2,e1,e⟩:=ak e;obtain⟨es,ρ3,e2,e⟩:=ak e;have zz:=aD e2;clear e2;obtain⟨e2,e3⟩:=zz;subst e3;refine⟨F,ρ,r,ρ2,g,e1,fun u F' H' s rr=>?_⟩;obtain⟨F2,s2,_,ru⟩:=s.cW rr;obtain⟨t2,a2,ys,rfl,q2,r2⟩:=DW ru e2;split at e;.rename_i bb d' q;obtain⟨ds',ρ4,e4,e⟩:=ak e;have zz:=aD e4;clear e4;obtain⟨e4,e5⟩:=zz;subst e5;cases e;obtain⟨v',h1,rv⟩:=s2.gs.val i bb d' q;obtain⟨t1,a1,xs,rfl,q1,r1⟩:=DW rv e4;refine⟨_,h1,t2,t1,a2,a1,rfl,⟨ys,aG.sq s2.gs.sub q2⟩,⟨xs,aG.sq s2.gs.sub q1⟩,k _ _ _ ⟨s2.gs,fun n k F' ρ' σ' H' s'=>rN (aG.sq s'.gs.sub (aG.sq s'.bU q2)) (aG.sq s'.gs.sub (aG.sq s'.bU q1)) (r2.mono s'.bU) (r1.mono s'.bU) s'.gs.sub k,fun F3 ρ3 σ3 H3 s3=>?_⟩⟩;unfold aW;dsimp only;rw[q];exact⟨s2.trans s3,fun v r rr=>rr.later s2⟩
 . rename_i bb ds' q;cases e;have hi:i<ρb.length:=(List.getElem?_eq_some_iff.mp q).1;have gl:=s2.gs.lend q;have ql:(ρb.set i (.lent ds'))[i]?=some (.lent ds'):=getElem?_set_self hi;obtain⟨a1,xs,h1,w2,w3,w4⟩:=gl.kh i _ ds' ql rfl;refine⟨_,h1,t2,false,a2,a1,rfl,⟨ys,aG.sq s2.gs.sub q2⟩,⟨xs,dq.of w2⟩,k _ _ _ ⟨gl,fun n k F' ρ' σ' H' s'=>?_,fun F3 ρ3 σ3 H3 s3=>?_⟩⟩;.obtain⟨z1,t,z2,z3⟩:=s'.lk i _ (by rw[getElem?_append_left (by simpa using hi)];exact ql) rfl;cases(show t=.lent ds' from z3);rw[getElem?_append_left (by rw[<-gl.len];simpa using hi),h1]at z1;obtain⟨a',ys',u1,u2,u3,u4⟩:=s'.gs.kh i _ ds' z2 rfl;rw[z1]at u1;cases u1;exact rN (aG.sq s'.gs.sub (aG.sq s'.bU q2)) (show Sq false X.K H' a1 ys' from dq.of u2) (r2.mono s'.bU) u4 s'.gs.sub k
   .unfold aW;dsimp only;rw[q];obtain⟨y1,y2⟩:=aJ.aW s2.gs q s3;exact⟨s2.trans y1,fun v r rr=>(y2 v r rr).later s2⟩
 . rename_i ds' q;cases e;have hi:i<ρb.length:=(List.getElem?_eq_some_iff.mp q).1;obtain⟨a1,xs,h1,w2,w3,w4⟩:=s2.gs.kh i _ ds' q rfl;refine⟨_,h1,t2,false,a2,a1,rfl,⟨ys,aG.sq s2.gs.sub q2⟩,⟨xs,dq.of w2⟩,k _ _ _ ⟨s2.gs,fun n k F' ρ' σ' H' s'=>?_,fun F3 ρ3 σ3 H3 s3=>?_⟩⟩;.obtain⟨z1,t,z2,z3⟩:=s'.lk i _ (by rw[getElem?_append_left hi];exact q) rfl;cases(show t=.lent ds' from z3);rw[getElem?_append_left (by rw[<-s2.gs.len];exact hi),h1]at z1;obtain⟨a',ys',u1,u2,u3,u4⟩:=s'.gs.kh i _ ds' z2 rfl;rw[z1]at u1;cases u1;exact rN (aG.sq s'.gs.sub (aG.sq s'.bU q2)) (show Sq false X.K H' a1 ys' from dq.of u2) (r2.mono s'.bU) u4 s'.gs.sub k
   .unfold aW;dsimp only;rw[q];exact⟨s2.trans s3,fun v r rr=>rr.later s2⟩
 .cases e
variable{scope:Scope}{N':List Str}{ifs:List Expr}{iter:Expr}
theorem HW{i j:Nat}{x:Str}{pos' spos:Pos}{nn:Nat}{g:TG}{is:List Nat}{one:Bool}{t:Option P}(hc:X.calm=true)(hN:X.N.Nodup)(hx0:X.N[i]?=some x)(hx:Loc X.env.scope x)(ok:dO X scope N' n)(hi:PI X tg iter (Wn X.K j (HH.ev c pb)))(hg:∀cl C s₀ H₀ ex,PG (o9 X scope N' cl C s₀ H₀ ex) tg g)(hgo:lB X.K X.N.length is one g)(ht:∀cl C s₀ H₀ ex,SQ (o9 X scope N' cl C s₀ H₀ ex) c ifs t)(he:∀cl C s₀ H₀ ex,SX (o9 X scope N' cl C s₀ H₀ ex) c elt pe)(hsw:swapsWith (.ListComp elt [⟨tg,iter,ifs,0⟩] scope pos) (some (.Name x pos')) spos.line X.env=pure true:=by rfl)(hs:∀x,foldedSetIterable iter X.env x=pure x:=by intro _;rfl)(hf:X.fn x=true\/X.env.scope.names.lookup x=some .local:=by first|exact .inl rfl|exact .inr rfl|assumption):SS X c nn (.Assign [.Name x pos'] (.ListComp elt [⟨tg,iter,ifs,0⟩] scope pos) spos) (.asg i (.vP j pb n is one t pe)):=by
 refine CQ (tW (tt:=BR X.K (kO c t)) (te:=uq X.K (HH.ev c pe)) hc hN hx0 hx ok hi hg ht (fun cl C s₀ H₀ ex=>(he cl C s₀ H₀ ex).ev) hsw hs hf) ?_;rintro D σ H hl⟨F,ρ,fl,ρ',g0,e,k⟩;rw[HH.X6]at e;obtain⟨r,ρ1,e1,e⟩:=ak e;obtain⟨ρ2,ρ3,e2,e⟩:=ak e;cases e;have zz:=aD e2;clear e2;obtain⟨e2,e3⟩:=zz;rw[HH.E27]at e1;obtain⟨⟨ds,ρb⟩,ρ5,e5,e⟩:=ak e1;dsimp only at e;split at e;.rename_i hlim;obtain⟨xs,ρ4,e4,e⟩:=ak e;cases e;exact uv hl hgo (fun R h=>⟨F,ρ,ds,ρb,ρ5,g0,e5,h⟩) hlim e4 fun v F1 H1 s1 rr=>k F1 _ H1 (s1.put rr e2)
 .cases e
end
end HH
end
section
namespace HH
open PySem L2 PySem.Spec PyProof.Rows PySem.Calls PySem.W
theorem JX{ns js:List Int}(p:js.Perm ns)(s:js.Pairwise (·<=·))(hl:ns.length<64):yw (ns.map D.int)=js.map D.int:=by
 refine(Gn ?_ (p.map D.int) ?_).symm;.simp only[sortable,length_map,and_eq_true,or_eq_true,decide_eq_true_eq];refine⟨by omega,.inl ?_⟩;rw[all_eq_true];intro x hx;obtain⟨i,_,rfl⟩:=mem_map.mp hx;rfl
 .rw[List.pairwise_map];refine s.imp fun{a b}h=>?_;simp only[nu,nD,cQ,not_eq_true'];simp;omega
theorem zZ{prog:Program}{w:World}{A:Around}{E:Value->Shared->Prop}{s:Shared}{vs:List Value}{ns:List Int}{a:Addr}{n:Nat}{O:PySem.Fin->Shared->Prop}(ho:s.heap.get? a=some (seqObj "list" vs.toArray n))(ia:IntsAre vs ns)(h64:vs.length<64)(h:∀h' c(out:List Value)(js:List Int),(∀b o,b≠a->s.heap.get? b=some o->h'.get? b=some o)->IntsAre out js->yw (ns.map D.int)=js.map D.int->js.length=ns.length->h'.get? a=some (seqObj "list" out.toArray c)->O (.done (.ret .none)) {s with heap:=h'}):wpAny (model prog w) A (Builtin.«list.sort» ⟨[.ref a],[]⟩) O E s:=by refine list_sort_tree ho ia h64 fun out js i1 p1 s1=>?_;have ha:a<s.heap.objs.size:=lt_size ho;obtain⟨e1,ho1⟩:∃e1,(s.heap.update a (Obj.mapSeq fun _=>(#[]:Array Value))).get? a=some (seqObj "list" #[] e1):=⟨_,get?_update_seq ho fun _=>#[]⟩;have ho6:(((s.heap.update a (Obj.mapSeq fun _=>(#[]:Array Value))).push (seqObj "tuple" vs.toArray 0)).push (seqObj "list" #[] 0)).get? a=some (seqObj "list" #[] e1):=get?_push_of_some _ (get?_push_of_some _ ho1);obtain⟨c,hc⟩:∃c,(sortedHeap s.heap a vs out).get? a=some (seqObj "list" out c):=⟨_,get?_update_seq ho6 fun _=>out⟩;refine h (sortedHeap s.heap a vs out) c out.toList js (fun b o hb e=>?_) i1 (JX p1 s1 (by rw[<-IntsAre.length ia];exact h64)) p1.length_eq (by rw[hc]);exact(get?_update_other _ _ (Ne.symm hb)).trans (get?_push_of_some _ (get?_push_of_some _ ((get?_update_other _ _ (Ne.symm hb)).trans e)))
end HH
end
section
namespace HH
open PySem L2 PySem.Spec PyProof.Rows
section
variable{K:PySem.W.Frag}{F F' F1 H H' H1 F0 H0:Hp}{ρ ρ' ρ1 ρ0:List Sl}{σ σ' σ1 σ0:L2.St}{x:Nat}{q:Addr}{as:List Addr}{rows mZ:List (List D)}
noncomputable def Cj:Sl->Bool|.aP=>true|.hold _=>true|_=>false
theorem fX{s:Sl}{i:Nat}{b:Addr}(hm:Cj s=true){o:Option V}(h:bB (ρ.set x s) (σ.set x o) i b):bB ρ σ i b/\i≠x:=by
 obtain⟨⟨t,ds,e,e'⟩,e1⟩:=h;by_cases c:x=i
 . subst c;rw[List.getElem?_set]at e;rw[if_pos rfl]at e;split at e;.cases e;cases s<;>first|(cases e';done)|(cases hm;done)
   .cases e
 .rw[getElem?_set_ne c]at e e1;exact⟨⟨⟨t,ds,e,e'⟩,e1⟩,fun z=>c z.symm⟩
theorem GS.yC{s:Sl}{o:Option V}(hm:Cj s=true)(g:GS K F ρ σ H):GS K F (ρ.set x s) (σ.set x o) H:=by
 refine⟨g.sub,by simp[g.len],fun i b d e=>?_,fun i t ds e e'=>?_,fun i j a h1 h2=>g.dis i j a (fX hm h1).1 (fX hm h2).1⟩
 . by_cases c:x=i
   . subst c;rw[List.getElem?_set,if_pos rfl]at e;split at e;.cases e;cases hm
     .cases e
   .rw[getElem?_set_ne c]at e ⊢;exact g.val i b d e
 . by_cases c:x=i
   . subst c;rw[List.getElem?_set,if_pos rfl]at e;split at e;.cases e;cases s<;>first|(cases e';done)|(cases hm;done)
     .cases e
   .rw[getElem?_set_ne c]at e ⊢;exact g.own i t ds e e'
theorem aJ.yC{s:Sl}{o:Option V}(hm:Cj s=true)(t:aJ K F ρ σ H F1 ρ1 σ1 H1)(hf:∀s0,ρ[x]?=some s0->sU s0=false):aJ K F ρ σ H F1 (ρ1.set x s) (σ1.set x o) H1:=by
 refine⟨t.gs.yC hm,t.bU,t.vQ,t.keep,fun b⟨i,h⟩=>t.ur b ⟨i,(fX hm h).1⟩,by simp[t.len],fun i s' e l=>?_⟩;have c:x≠i:=by rintro rfl;rw[hf _ e]at l;cases l
 obtain⟨z1,s2,z2,z3⟩:=t.lk i s' e l;exact⟨by rw[getElem?_set_ne c];exact z1,s2,by rw[getElem?_set_ne c];exact z2,z3⟩
theorem aJ.free{i:Nat}{s1:Sl}(t:aJ K F ρ σ H F1 ρ1 σ1 H1)(h:ρ1[i]?=some s1)(hl:sU s1=false):∀s0,ρ[i]?=some s0->sU s0=false:=fun s0 e=>by cases z:sU s0 with|false=>rfl|true=>obtain⟨_,s2,z2,z3⟩:=t.lk i s0 e z;rw[h]at z2;cases z2;rw[z3.sU z]at hl;cases hl
structure Ow(F:Hp)(ρ:List Sl)(σ:L2.St)(H:Hp)(a:Addr)(xs:List V):Prop where kp:Kp ρ σ H a (.lst xs)fr:F a=none
theorem Ow.stp{a:Addr}{xs:List V}(h:Ow F ρ σ H a xs)(s:aJ K F ρ σ H F' ρ' σ' H'):Ow F' ρ' σ' H' a xs:=by refine⟨h.kp.stp s,?_⟩;cases z:F' a with|none=>rfl|some o=>
   rcases s.vQ a h.fr (by rw[z];simp)with y|y;.exact absurd y h.kp.2
   .rw[h.kp.1]at y;cases y
structure Nw(K:PySem.W.Frag)(x:Nat)(q:Addr)(as:List Addr)(F:Hp)(ρ:List Sl)(σ:L2.St)(H:Hp)(rows:List (List D)):Prop where
 slot:ρ[x]?=some (.hold rows)val:σ[x]?=some (some (.ref q))out:Ow F ρ σ H q (as.map V.ref)nd:(q::as).Nodup
 len:as.length=rows.length
 row:∀(k:Nat)(a:Addr)(ds:List D),as[k]?=some a->rows[k]?=some ds->Wt K F ρ σ H a ds
theorem Nw.stp(w:Nw K x q as F ρ σ H rows)(s:aJ K F ρ σ H F' ρ' σ' H'):Nw K x q as F' ρ' σ' H' rows:=by obtain⟨z1,s2,z2,z3⟩:=s.lk x _ w.slot rfl;cases(show s2=.hold rows from z3);exact⟨z2,z1.trans w.val,w.out.stp s,w.nd,w.len,fun k a ds h1 h2=>(w.row k a ds h1 h2).stp s⟩
structure NB(K:PySem.W.Frag)(x:Nat)(q:Addr)(as:List Addr)(F0:Hp)(ρ0:List Sl)(σ0:L2.St)(H0:Hp)(F:Hp)(ρ:List Sl)(σ:L2.St)(H:Hp)(rows:List (List D)):Prop where
 stp:aJ K F0 ρ0 σ0 H0 F ρ σ H
 fresh:∀b,b∈q::as->Own ρ0 σ0 b\/H0 b=none
 free:∀s0,ρ0[x]?=some s0->sU s0=false
 nw:Nw K x q as F ρ σ H rows
theorem NB.step(b:NB K x q as F0 ρ0 σ0 H0 F ρ σ H rows)(s:aJ K F ρ σ H F' ρ' σ' H'):NB K x q as F0 ρ0 σ0 H0 F' ρ' σ' H' rows:=⟨b.stp.trans s,b.fresh,b.free,b.nw.stp s⟩
theorem yP{s:Sl}{o:Option V}{a:Addr}{ob:HO}(hm:Cj s=true)(h:Kp ρ σ H a ob):Kp (ρ.set x s) (σ.set x o) H a ob:=⟨h.1,fun⟨i,z⟩=>h.2 ⟨i,(fX hm z).1⟩⟩
theorem HY{s:Sl}{o:Option V}{a:Addr}{ds:List D}(hm:Cj s=true)(h:Wt K F ρ σ H a ds):Wt K F (ρ.set x s) (σ.set x o) H a ds:=by obtain⟨⟨xs,h1,h2⟩,h3⟩:=h;exact⟨⟨xs,yP hm h1,h2⟩,h3⟩
theorem aJ.aaF{Da:Addr}{o:HO}(s:aJ K F ρ σ H F1 ρ1 σ1 H1)(h:Own ρ σ Da\/H Da=none)(hf:F1 Da=none)(ho:¬ Own ρ1 σ1 Da):aJ K F ρ σ H F1 ρ1 σ1 (upd H1 Da o):=by
 refine⟨⟨fun b u e=>?_,s.gs.len,s.gs.val,fun i t ds e e'=>?_,s.gs.dis⟩,s.bU,s.vQ,fun b u e n=>?_,s.ur,s.len,s.lk⟩
 . have:b≠Da:=by rintro rfl;rw[hf]at e;cases e
   rw[aC this];exact s.gs.sub b u e
 . obtain⟨a,xs,q1,q2,q3,q4⟩:=s.gs.own i t ds e e';have:a≠Da:=by rintro rfl;exact ho ⟨i,⟨t,ds,e,e'⟩,q1⟩
   exact⟨a,xs,q1,by rw[aC this];exact q2,q3,q4⟩
 . have:b≠Da:=by
    rintro rfl;rcases h with h|h;.exact n h
    .rw[h]at e;cases e
   rw[aC this];exact s.keep b u e n
theorem NB.mut{r:Nat}{a:Addr}{row jJ:List D}{ys:List V}(b:NB K x q as F0 ρ0 σ0 H0 F ρ σ H rows)(ha:as[r]?=some a)(hr:rows[r]?=some row)(rp:aF K F ys jJ):NB K x q as F0 ρ0 σ0 H0 F (ρ.set x (.hold (rows.set r jJ))) σ (upd H a (.lst ys)) (rows.set r jJ):=by
 have w:=b.nw.row r a row ha hr;obtain⟨⟨xs,k1,r1⟩,f1⟩:=w;have hx:x<ρ.length:=(List.getElem?_eq_some_iff.mp b.nw.slot).1;have sx:σ.set x (some (.ref q))=σ:=by have:=b.nw.val;obtain⟨h1,h2⟩:=List.getElem?_eq_some_iff.mp this;rw[<-h2];simp
 have mem:a∈q::as:=mem_cons_of_mem _ (mem_of_getElem? ha);have s1:=(b.stp.aaF (o:=.lst ys) (b.fresh a mem) f1 k1.2).yC (x:=x) (s:=.hold (rows.set r jJ)) (o:=some (.ref q)) rfl b.free;rw[sx]at s1;have nq:q≠a:=by have:=(nodup_cons.mp b.nw.nd).1;rintro rfl;exact this (mem_of_getElem? ha)
 have own:∀{c:Addr},¬ Own ρ σ c->¬ Own (ρ.set x (.hold (rows.set r jJ))) σ c:=fun{c}h⟨i,z⟩=>h ⟨i,by have:=fX (x:=x) (s:=.hold (rows.set r jJ)) (o:=some (.ref q)) (σ:=σ) (ρ:=ρ) rfl (b:=c) (i:=i) (by rw[sx];exact z);exact this.1⟩;refine⟨s1,b.fresh,b.free,⟨getElem?_set_self hx,b.nw.val,⟨⟨by rw[aC nq];exact b.nw.out.kp.1,own b.nw.out.kp.2⟩,b.nw.out.fr⟩,b.nw.nd,by simp[b.nw.len],fun k c ds h1 h2=>?_⟩⟩;by_cases hk:k=r;.subst hk;rw[ha]at h1;cases h1;have hl:k<rows.length:=(List.getElem?_eq_some_iff.mp hr).1;rw[getElem?_set_self hl]at h2;cases h2;exact⟨⟨ys,⟨aV,own k1.2⟩,rp⟩,f1⟩
 . rw[getElem?_set_ne (fun z=>hk z.symm)]at h2;obtain⟨⟨zs,k2,r2⟩,f2⟩:=b.nw.row k c ds h1 h2;have nc:c≠a:=by rintro rfl;have nd:=(nodup_cons.mp b.nw.nd).2;obtain⟨l1,e1⟩:=List.getElem?_eq_some_iff.mp h1;obtain⟨l2,e2⟩:=List.getElem?_eq_some_iff.mp ha;exact hk ((List.getElem_inj nd).mp (e1.trans e2.symm))
   exact⟨⟨zs,⟨by rw[aC nc];exact k2.1,own k2.2⟩,r2⟩,f2⟩
noncomputable def Fz(F H:Hp)(bs:List Addr):Hp:=fun b=>if b∈bs then H b else F b
theorem qQ{G:Hp}:∀{as:List Addr}{rows:List (List D)},as.length=rows.length->(∀(k:Nat)(a:Addr)(ds:List D),as[k]?=some a->rows[k]?=some ds->Rep K G (.ref a) (.lst ds))->aF K G (as.map V.ref) (rows.map D.lst)|[],[],_,_=>.nil|a::as,ds::rows,h,k=>.cons (k 0 a ds rfl rfl) (qQ (by simpa using h) fun j b es h1 h2=>k (j+1) b es (by simpa using h1) (by simpa using h2))|[],_::_,h,_=>by simp at h|_::_,[],h,_=>by simp at h
theorem Nw.Li(w:Nw K x q as F ρ σ H rows){b:Addr}(hb:b∈q::as):F b=none/\¬ Own ρ σ b:=by
 rcases mem_cons.mp hb with rfl|hb;.exact⟨w.out.fr,w.out.kp.2⟩
 . obtain⟨k,hk⟩:=List.getElem?_of_mem hb;have hl:k<rows.length:=by rw[<-w.len];exact(List.getElem?_eq_some_iff.mp hk).1
   obtain⟨⟨xs,k1,_⟩,f1⟩:=w.row k b rows[k] hk (by simp[hl]);exact⟨f1,k1.2⟩
theorem Nw.fz(w:Nw K x q as F ρ σ H rows)(sm:aG F H):aG F (Fz F H (q::as))/\aG (Fz F H (q::as)) H/\Rep K (Fz F H (q::as)) (.ref q) (.lst (rows.map D.lst)):=by
 have s1:aG F (Fz F H (q::as)):=fun b o e=>by unfold Fz;rw[if_neg fun hb=>by rw[(w.Li hb).1]at e;cases e];exact e
 refine⟨s1,fun b o e=>?_,?_⟩
 . unfold Fz at e;split at e;.exact e
   .exact sm b o e
 .rw[Rep];refine⟨q,as.map V.ref,rfl,dq.of (by unfold Fz;rw[if_pos mem_cons_self];exact w.out.kp.1),qQ w.len fun k a ds h1 h2=>?_⟩;obtain⟨⟨xs,k1,r1⟩,f1⟩:=w.row k a ds h1 h2;rw[Rep];exact⟨a,xs,rfl,dq.of (by unfold Fz;rw[if_pos (mem_cons_of_mem _ (mem_of_getElem? h1))];exact k1.1),r1.mono s1⟩
theorem NB.cW(b:NB K x q as F0 ρ0 σ0 H0 F ρ σ H rows):aJ K F0 ρ0 σ0 H0 (Fz F H (q::as)) (ρ.set x (.val false (.lst (rows.map D.lst)))) σ H:=by
 obtain⟨s1,s2,rp⟩:=b.nw.fz b.stp.gs.sub;have g:=b.stp.gs;have hx:x<ρ.length:=(List.getElem?_eq_some_iff.mp b.nw.slot).1;have old:∀{j:Nat}{c:Addr},bB (ρ.set x (.val false (.lst (rows.map D.lst)))) σ j c->bB ρ σ j c/\x≠j:=fun{j c}⟨⟨t,ds,e,e'⟩,e1⟩=>by
  by_cases hj:x=j;.subst hj;rw[getElem?_set_self hx]at e;cases e;cases e'
  .rw[getElem?_set_ne hj]at e;exact⟨⟨⟨t,ds,e,e'⟩,e1⟩,hj⟩
 refine⟨⟨s2,by simp[g.len],fun i bb d e=>?_,fun i t ds e e'=>?_,fun i j c h1 h2=>g.dis i j c (old h1).1 (old h2).1⟩,b.stp.bU.trans s1,fun c n n'=>?_,b.stp.keep,fun c⟨j,h⟩=>b.stp.ur c ⟨j,(old h).1⟩,by simp[b.stp.len],fun i t e l=>?_⟩
 . by_cases hj:x=i;.subst hj;rw[getElem?_set_self hx]at e;cases e;exact⟨_,b.nw.val,rp⟩
   .rw[getElem?_set_ne hj]at e;obtain⟨v,h1,h2⟩:=g.val i bb d e;exact⟨v,h1,h2.mono s1⟩
 . by_cases hj:x=i;.subst hj;rw[getElem?_set_self hx]at e;cases e;cases e'
   .rw[getElem?_set_ne hj]at e;obtain⟨a,o,h1,h2,h3,h4⟩:=g.own i t ds e e';refine⟨a,o,h1,h2,?_,h4.mono s1⟩;unfold Fz;rw[if_neg fun hb=>(b.nw.Li hb).2 ⟨i,⟨t,ds,e,e'⟩,h1⟩];exact h3
 . by_cases hc:c∈q::as;.exact(b.fresh c hc).imp id jE
   . have:Fz F H (q::as) c=F c:=by unfold Fz;rw[if_neg hc]
     rw[this]at n';exact b.stp.vQ c n n'
 . have c:x≠i:=by rintro rfl;rw[b.free _ e]at l;cases l
   obtain⟨z1,s3,z2,z3⟩:=b.stp.lk i t e l;exact⟨z1,s3,by rw[getElem?_set_ne c];exact z2,z3⟩
end
inductive Nb(K:PySem.W.Frag)(x:Nat)(f:List Sl->Res Fl)(E:Ends)(σ:L2.St)(H:Hp):Prop where|mk(F0:Hp)(ρ0:List Sl)(σ0:L2.St)(H0 F:Hp)(ρ:List Sl)(q:Addr)(as:List Addr)(rows:List (List D))(fl:Fl)(ρ':List Sl)(b:NB K x q as F0 ρ0 σ0 H0 F ρ σ H rows)(e:f ρ=.ok fl ρ')(k:∀F' σ' H',aJ K F0 ρ0 σ0 H0 F' ρ' σ' H'->aG F F'->((∀r,fl≠.ret r)->∃mZ,NB K x q as F0 ρ0 σ0 H0 F' ρ' σ' H' mZ)->Gg K E F' ρ' σ' H' ρ0 σ0 H0 fl)
inductive Ud(K:PySem.W.Frag)(x:Nat)(f:List Sl->Res Fl)(E:Ends)(σ:L2.St)(H:Hp):Prop where|mk(F0:Hp)(ρ0:List Sl)(σ0:L2.St)(H0 F:Hp)(ρ:List Sl)(q:Addr)(as:List Addr)(rows:List (List D))(fl:Fl)(ρ':List Sl)(b:NB K x q as F0 ρ0 σ0 H0 F ρ σ H rows)(e:f ρ=.ok fl ρ')(k:∀F' σ' H',aJ K F0 ρ0 σ0 H0 F' ρ' σ' H'->Gg K E F' ρ' σ' H' ρ0 σ0 H0 fl)
structure U3(X:Cx)(c:Call)(n x:Nat)(st:Stmt)(s:S):Prop where p:PS X st (Nb X.K x (ex c n s))
structure Tn(X:Cx)(c:Call)(n x:Nat)(st:List Stmt)(s:List S):Prop where p:uK X st (Nb X.K x (gf c n s))
structure Y6(X:Cx)(c:Call)(n x:Nat)(st:List Stmt)(s:List S):Prop where p:uK X st (Ud X.K x (gf c n s))
section
variable{X:Cx}{c:Call}{n x:Nat}{e a b d tg iter:Expr}{p pa pb pd:P}{pos:Pos}{body:List Stmt}{ss:List S}{st:Stmt}{s:S}{sts:List Stmt}
theorem nR:Tn X c n x [] []:=⟨mF yG fun D σ H⟨F0,ρ0,σ0,H0,F,ρ,q,as,rows,fl,ρ',nb,e,k⟩=>by rw[gf]at e;cases e;exact k F σ H nb.stp (.refl _) fun _=>⟨rows,nb⟩⟩
theorem oR(h1:U3 X c n x st s)(h2:Tn X c n x sts ss):Tn X c n x (st::sts) (s::ss):=by refine⟨mF (lC h1.p h2.p) ?_⟩;rintro D σ H⟨F0,ρ0,σ0,H0,F,ρ,q,as,rows,fl,ρ',nb,e,k⟩;rw[gf]at e;obtain⟨f1,ρ1,e1,e⟩:=ak e;cases f1 with|next=>refine⟨F0,ρ0,σ0,H0,F,ρ,q,as,rows,.next,ρ1,nb,e1,fun F1 σ1 H1 s1 sm nn=>?_⟩;obtain⟨GP,Mg⟩:=nn (fun r z=>by cases z);exact⟨F0,ρ0,σ0,H0,F1,ρ1,q,as,GP,fl,ρ',Mg,e,fun F2 σ2 H2 s2 Q9 nn2=>k F2 σ2 H2 s2 (sm.trans Q9) nn2⟩|brk=>cases e;exact⟨F0,ρ0,σ0,H0,F,ρ,q,as,rows,.brk,_,nb,e1,k⟩|cont=>cases e;exact⟨F0,ρ0,σ0,H0,F,ρ,q,as,rows,.cont,_,nb,e1,k⟩|ret r=>cases e;exact⟨F0,ρ0,σ0,H0,F,ρ,q,as,rows,.ret r,_,nb,e1,k⟩
theorem Ft(h1:U3 X c n x st s)(h2:Y6 X c n x sts ss):Y6 X c n x (st::sts) (s::ss):=by refine⟨mF (lC h1.p h2.p) ?_⟩;rintro D σ H⟨F0,ρ0,σ0,H0,F,ρ,q,as,rows,fl,ρ',nb,e,k⟩;rw[gf]at e;obtain⟨f1,ρ1,e1,e⟩:=ak e;cases f1 with|next=>refine⟨F0,ρ0,σ0,H0,F,ρ,q,as,rows,.next,ρ1,nb,e1,fun F1 σ1 H1 s1 sm nn=>?_⟩;obtain⟨GP,Mg⟩:=nn (fun r z=>by cases z);exact⟨F0,ρ0,σ0,H0,F1,ρ1,q,as,GP,fl,ρ',Mg,e,k⟩|brk=>cases e;exact⟨F0,ρ0,σ0,H0,F,ρ,q,as,rows,.brk,_,nb,e1,fun F1 σ1 H1 s1 _ _=>k F1 σ1 H1 s1⟩|cont=>cases e;exact⟨F0,ρ0,σ0,H0,F,ρ,q,as,rows,.cont,_,nb,e1,fun F1 σ1 H1 s1 _ _=>k F1 σ1 H1 s1⟩|ret r=>cases e;exact⟨F0,ρ0,σ0,H0,F,ρ,q,as,rows,.ret r,_,nb,e1,fun F1 σ1 H1 s1 _ _=>k F1 σ1 H1 s1⟩
theorem Ht(h:SB X c n sts ss):Y6 X c n x sts (.cW x::ss):=by refine⟨mF h ?_⟩;rintro D σ H⟨F0,ρ0,σ0,H0,F,ρ,q,as,rows,fl,ρ',nb,e,k⟩;rw[gf]at e;obtain⟨f1,ρ1,e1,e⟩:=ak e;rw[HH.X21,nb.nw.slot]at e1;cases e1;have t:=nb.cW;refine⟨_,_,fl,ρ',t.gs,e,fun F' σ' H' s=>?_⟩;have z:=k F' σ' H' (t.trans s);cases fl with|next=>exact z|brk=>exact z|cont=>exact z|ret r=>exact fun v rr=>z v (rr.later t)
theorem Nr{sa sb:List Stmt}{ta tb:List S}(hc:ST X c e p)(ha:Tn X c n x sa ta)(hb:Tn X c n x sb tb):U3 X c n x (.If e sa sb pos) (.ifs p ta tb):=by refine⟨dJ (Lf hc ha.p hb.p) ?_⟩;rintro D σ H⟨F0,ρ0,σ0,H0,F,ρ,q,as,rows,fl,ρ',nb,e,k⟩;rw[HH.Xw]at e;obtain⟨t,ρ1,e1,e⟩:=ak e;refine⟨F,ρ,t,ρ1,nb.stp.gs,e1,fun F1 H1 s1=>?_⟩;have go:∀{f:List Sl->Res Fl},f ρ1=.ok fl ρ'->Nb X.K x f D σ H1:=fun{f}h=>⟨F0,ρ0,σ0,H0,F1,ρ1,q,as,rows,fl,ρ',nb.step s1,h,fun F2 σ2 H2 s2 sm nn=>k F2 σ2 H2 s2 (s1.bU.trans sm) nn⟩;cases t with|true=>rw[if_pos rfl]at e;exact go e|false=>rw[if_neg Bool.false_ne_true]at e;exact go e
theorem Dr{ρ:List Sl}{rows:List (List D)}(h:iJ ρ x=some rows):ρ[x]?=some (.hold rows):=by
 unfold iJ at h;split at h;.rename_i z;cases h;exact z
 .cases h
def WalkN(K:PySem.W.Frag)(J:It)(ds:List D)(F1:Hp):Prop:=∀(k:Nat)(F' H':Hp),aG F1 F'->aG F' H'->(∀d,ds[k]?=some d->J.go k H'/\∀x jH,J.GD k H' x jH->∃F'',Ext F' H' F'' jH/\Rep K F'' x d)/\(ds.length<=k->J.stop k H')
inductive ab9(K:PySem.W.Frag)(f:Ev)(σ:L2.St)(H:Hp)(R:It->Hp->Prop):Prop where|mk(F:Hp)(ρ:List Sl)(r:HH.R)(ρ1:List Sl)(ds:List D)(g:GS K F ρ σ H)(e:f ρ=.ok r ρ1)(e2:items r.d=some ds)(k:∀J F1 H1,aJ K F ρ σ H F1 ρ1 σ H1->WalkN K J ds F1->R J H1)
structure SIN(X:Cx)(c:Call)(tg e:Expr)(p:P):Prop where p:PI X tg e (ab9 X.K (HH.ev c p))
theorem Jt(h:SX X c e p):SIN X c tg e p:=by refine⟨mU (wg h.ev) ?_⟩;rintro σ H R⟨F,ρ,r,ρ1,ds,g,e,e2,k⟩;refine⟨F,ρ,r,ρ1,g,e,fun v F' H' s rr=>?_⟩;obtain⟨F2,s2,_,rp⟩:=s.cW rr;cases hd:r.d with|tup es=>rw[hd]at rp e2;cases e2;rw[Rep]at rp;obtain⟨a,xs,rfl,h1,h2⟩:=rp;exact⟨a,rfl,.inr ⟨⟨xs,aG.fW s2.gs.sub h1⟩,k _ _ _ s2 fun k F3 H3 WR Q9=>yK (aG.fW Q9 (aG.fW WR h1)) (h2.mono WR) Q9 k⟩⟩|lst es=>rw[hd]at rp e2;cases e2;rw[Rep]at rp;obtain⟨a,xs,rfl,h1,h2⟩:=rp;exact⟨a,rfl,.inl ⟨⟨xs,s2.gs.sub.seq h1⟩,k _ _ _ s2 fun k F3 H3 WR Q9=>pB (Q9.seq (WR.seq h1)) (h2.mono WR) Q9 k⟩⟩|_=>rw[hd]at e2;cases e2
theorem Ar{K:PySem.W.Frag}{F1:Hp}(i j:Int):WalkN K (V1 i (j-i).toNat) ((List.range (j-i).toNat).map fun(k:Nat)=>D.int (i+(k:Int))) F1:=by
 refine fun k F' H' _ sm=>⟨fun d hd=>?_,fun h=>?_⟩;.rw[getElem?_map]at hd;obtain⟨m,e1,e2⟩:=map_some hd;obtain⟨h1,h2⟩:=List.getElem?_eq_some_iff.mp e1;rw[List.getElem_range]at h2;subst h2;subst e2;rw[length_range]at h1;refine⟨h1,?_⟩;rintro x jH⟨q1,q2⟩;subst q1;subst q2;exact⟨F',.refl sm,cj _⟩
 .rw[length_map,length_range]at h;exact h
theorem DG{x:Str}{p':Pos}(hx:x="range")(hg:Gl X x)(hm:X.mg x=none)(ha:SX X c a pa)(hs:starEach [a] X.env=[(false,eval a X.env)]:=by rfl):SIN X c tg (.Call (.Name x p') [a] [] pos) (.tZ (.con (.int 0)) pa):=by
 subst hx;obtain⟨ta,h1,h2⟩:=ha.cR;refine⟨mU (rm hg hm (cz h1 dR hs) hs) ?_⟩;rintro σ H R⟨F,ρ,r,ρ1,ds,g,e1,e2,k⟩;rw[HH.E20]at e1;obtain⟨xy,ρ3,e4,e5⟩:=ak e1;have zz:=aD e5;clear e5;obtain⟨e5,e6⟩:=zz;subst e6;obtain⟨y0,ρ5,e9,e10⟩:=ak e4;cases e10;obtain⟨i,f1,e5⟩:=cC e5;obtain⟨j,f2,e5⟩:=cC e5;obtain⟨⟨b1,b2,b3,b4⟩,e5⟩:=bD e5;have f1:i=0:=by cases f1;rfl
 subst f1;subst e5;cases e2;cases dI f2;refine h2 g e9 fun v F' H' s pv=>⟨j,by rw[pv.int],by omega,by omega,?_⟩;have:=Ar (K:=X.K) (F1:=F') 0 j;rw[sub_zero]at this;refine k _ F' H' s ?_;rw[sub_zero];exact this
theorem yX{g:TG}{is:List Nat}{one:Bool}(hp:PassesOwn (model X.prog X.w) X.A X.env X.xe)(hc:X.calm=true)(hi:SIN X c tg iter p)(hg:PG X tg g)(hgo:Cv X.K (fun ρ d=>cu ρ is one d) g)(hb:Tn X c n x body ss)(hs:∀x,foldedSetIterable iter X.env x=pure x:=by intro _;rfl):U3 X c n x (.For tg iter body [] pos) (.Bv p is one ss):=by
 refine⟨dJ (Cp hp hc hi.p hg hb.p hs) ?_⟩;rintro D σ H⟨F0,ρ0,σ0,H0,F,ρ,q,as,rows,fl,ρ',nb,e,k⟩;rw[HH.X20]at e;obtain⟨r,ρ1,e1,e⟩:=ak e;obtain⟨ds,ρ9,e9,e2⟩:=ak e;have zz:=aD e9;clear e9;obtain⟨e9,e91⟩:=zz;subst e91;refine⟨F,ρ,r,ρ1,ds,nb.stp.gs,e1,e9,fun J F1 H1 s1 w=>?_⟩;refine⟨fun i m σi Hi=>∃Fi ρi rF,NB X.K x q as F0 ρ0 σ0 H0 Fi ρi σi Hi rF/\aG F1 Fi/\m=ds.length-i/\i<=ds.length/\gW is one (gf c n ss) (ds.drop i) ρi=.ok fl ρ',⟨_,F1,ρ1,rows,nb.step s1,.refl _,rfl,zero_le _,e2⟩,?_⟩;rintro i m σi Hi⟨Fi,ρi,rF,WT,smi,rfl,hle,ei⟩;obtain⟨w1,w2⟩:=w i Fi Hi smi WT.stp.gs.sub;by_cases hlt:i<ds.length
 . right;have hd:ds[i]?=some ds[i]:=by simp[hlt]
   obtain⟨go,step⟩:=w1 _ hd;refine⟨go,fun σ' H'=>∃m',m'<ds.length-i/\∃Fi ρi rF,NB X.K x q as F0 ρ0 σ0 H0 Fi ρi σ' H' rF/\aG F1 Fi/\m'=ds.length-(i+1)/\i+1<=ds.length/\gW is one (gf c n ss) (ds.drop (i+1)) ρi=.ok fl ρ',fun σ' H' z=>z,fun y H' yy=>?_⟩;obtain⟨F2,ext,rx⟩:=step y H' yy;have t2:=ext.stp WT.stp.gs;rw[drop_eq_getElem_cons hlt,gW]at ei;cases hbd:cu ρi is one ds[i]with|none=>rw[hbd]at ei;cases ei|some ρb=>rw[hbd]at ei;obtain⟨flb,ρc,eb,ei⟩:=ak ei;refine hgo y _ F2 ρi ρb σi H' _ t2.gs rx hbd fun σ2 sb=>?_;have t3:=t2.trans sb;refine⟨F0,ρ0,σ0,H0,F2,ρb,q,as,rF,flb,ρc,WT.step t3,eb,fun F4 σ4 H4 s4 sm4 nn4=>?_⟩;have Zr:aG F1 F4:=smi.trans (ext.fs.trans sm4);cases flb with|next=>obtain⟨GQ,nb4⟩:=nn4 (fun r z=>by cases z);exact⟨_,by omega,F4,ρc,GQ,nb4,Zr,rfl,hlt,ei⟩|cont=>obtain⟨GQ,nb4⟩:=nn4 (fun r z=>by cases z);exact⟨_,by omega,F4,ρc,GQ,nb4,Zr,rfl,hlt,ei⟩|brk=>cases ei;exact k F4 σ4 H4 s4 (s1.bU.trans Zr) fun _=>nn4 (fun r z=>by cases z)|ret r=>cases ei;exact fun v rr=>k F4 σ4 H4 s4 (s1.bU.trans Zr) (fun h=>(h r rfl).elim) v rr
 . left;have hdr:ds.drop i=[]:=by rw[drop_eq_nil_iff];omega
   rw[hdr,gW]at ei;cases ei;exact⟨w2 (by omega),k Fi σi Hi WT.stp (s1.bU.trans smi) fun _=>⟨rF,WT⟩⟩
end
section
variable{X:Cx}{c:Call}{n:Nat}{e a b d i j:Expr}{p pa pb pd pi pj:P}{pos:Pos}
theorem Ju{ρ ρ':List Sl}{x:Nat}{o:Option (List (List D))}{fl:Fl}(h:rH ρ x o=.ok fl ρ'):∃rows,o=some rows/\fl=.next/\ρ'=ρ.set x (.hold rows):=by cases o with|none=>cases h|some rows=>cases h;exact⟨rows,rfl,rfl,rfl⟩
section
variable{K:PySem.W.Frag}{F H F0 H0:Hp}{ρ ρ0:List Sl}{σ σ0:L2.St}{x:Nat}{q:Addr}{as:List Addr}{rows mZ:List (List D)}
theorem NB.hold(nb:NB K x q as F0 ρ0 σ0 H0 F ρ σ H rows)(h:iJ ρ x=some mZ):mZ=rows:=by have:=Dr h;rw[nb.nw.slot]at this;cases this;rfl
theorem NB.at{k:Int}{r:Nat}{row:List D}(nb:NB K x q as F0 ρ0 σ0 H0 F ρ σ H rows)(h1:HH.gq rows.length k=some r)(h2:rows[r]?=some row):∃a ys,as[r]?=some a/\Dd (as.map V.ref) k=some (.ref a)/\H a=some (.lst ys)/\aF K F ys row:=by
 have hl:r<as.length:=by rw[nb.nw.len];exact(List.getElem?_eq_some_iff.mp h2).1
 obtain⟨⟨ys,k1,r1⟩,_⟩:=nb.nw.row r as[r] row (by simp[hl]) h2;refine⟨as[r],ys,by simp[hl],?_,k1.1,r1⟩;unfold Dd;rw[length_map,nb.nw.len];rw[show L2.gq rows.length k=some r from h1];simp[hl]
theorem NB.sy{dk:D}{row:List D}(nb:NB K x q as F0 ρ0 σ0 H0 F ρ σ H rows)(h:HH.sy ρ x dk=some row):∃k a,(∃r:Nat,as[r]?=some a)/\Dd (as.map V.ref) k=some (.ref a)/\dk=.int k/\∃ys,H a=some (.lst ys)/\aF K F ys row:=by unfold HH.sy at h;obtain⟨rows0,h1,h⟩:=cC h;cases nb.hold h1;obtain⟨k,h2,h⟩:=cC h;obtain⟨r,h3,h4⟩:=cC h;obtain⟨a,ys,g1,g2,g3,g4⟩:=nb.at h3 h4;exact⟨k,a,⟨r,g1⟩,g2,dI h2,ys,g3,g4⟩
end
theorem Ac{rows mZ:List (List D)}{k:Int}{f:List D->Option (List D)}(h:jm rows k f=some mZ):∃r row jJ,HH.gq rows.length k=some r/\rows[r]?=some row/\f row=some jJ/\mZ=rows.set r jJ:=by unfold jm at h;obtain⟨r,h1,h⟩:=cC h;obtain⟨row,h2,h⟩:=cC h;obtain⟨jJ,h3,h⟩:=map_some h;exact⟨r,row,jJ,h1,h2,h3,h.symm⟩
theorem De{x:Str}{k:Nat}{px ipos apos cpos:Pos}(hN:X.N[k]?=some x)(hv:v8 X.env.scope x)(hi:SX X c i pi)(he:SX X c e p)(hpx:tQ i:=by intro _ _;rfl)(hline:(apos.endLine==cpos.line)=true:=by rfl)(hs:starEach [e] X.env=(false,eval e X.env)::starEach [] X.env:=by rfl)(hbase:attributeBase (.Subscript (.Name x px) i ipos) "append" X.env (eval (.Subscript (.Name x px) i ipos) X.env)=eval (.Subscript (.Name x px) i ipos) X.env:=by rfl)(hfew:((backTo cpos (starEach [e] X.env)).all (fun x=>!x.1)&&(backToKw cpos (keywordEach [] X.env)).all (fun x=>x.1.isSome)&&decide ([e].length+([]:List Keyword).length+(if([]:List Keyword).isEmpty then 0 else 1)<30))=true:=by rfl)(hsw:swapsWith (.Call (.Attribute (.Subscript (.Name x px) i ipos) "append" apos) [e] [] cpos) none pos.line X.env=pure false:=by rfl)(hd:(x==("__debug__":Str))=false:=by decide)(hcd:(x==("__classdict__":Str))=false:=by decide):U3 X c n k (.Expr (.Call (.Attribute (.Subscript (.Name x px) i ipos) "append" apos) [e] [] cpos) pos) (.GJ k pi p):=by obtain⟨ti,hi1,hi2⟩:=hi.cR;refine⟨dJ (yW (Lj PySem.F.plainAttrs_list PySem.F.slot_list_append PySem.F.type_list_append mD (Ls yJ (gF hN hv hd hcd) hi1 hpx) (cz he.ev dR hs) hbase hfew hline hs) hsw) ?_⟩;rintro E σ H⟨F0,ρ0,σ0,H0,F,ρ,q,as,rows,fl,ρ',nb,e,kk⟩;rw[HH.X19]at e;obtain⟨dk,ρ2,e2,e⟩:=ak e;obtain⟨row0,ρ2',e8,e⟩:=ak e;have zz:=aD e8;clear e8;obtain⟨e8,e81⟩:=zz;subst e81;obtain⟨r,ρ3,e3,e⟩:=ak e;obtain⟨rs,e4,rfl,rfl⟩:=Ju e;refine⟨.ref q,nb.nw.val,hi2 nb.stp.gs e2 fun vi F1 H1 s1 pi=>?_⟩;have Mg:=nb.step s1;obtain⟨k0,a,g1,g2,g0,ys,g3,g4⟩:=Mg.sy e8;rw[g0]at pi;refine⟨q,_,k0,_,rfl,pi.int,dq.of Mg.nw.out.kp.1,g2,.inl ⟨rfl,ys,dq.of g3⟩,F1,ρ2,r,ρ3,Mg.stp.gs,e3,fun v F2 H2 s2 rr=>?_⟩;obtain⟨F3,s3,_,rp⟩:=s2.cW rr;have nb3:=Mg.step s3;obtain⟨rows0,e5,e4⟩:=cC e4;cases nb3.hold e5;obtain⟨k1,e6,e4⟩:=cC e4;obtain⟨m,row,jJ,f1,f2,f3,rfl⟩:=Ac e4;obtain⟨hlt,rfl⟩:=bD f3;have:=dI e6;rw[g0]at this;cases this;obtain⟨a',ys',g1',g2',g3',g4'⟩:=nb3.at f1 f2;rw[g2]at g2';cases g2';have nb5:=nb3.mut g1' f2 (g4'.append (.cons rp .nil));exact⟨a,ys',v,rfl,rfl,g3',by rw[g4'.length];exact hlt,kk F3 σ _ nb5.stp (s1.bU.trans s3.bU) fun _=>⟨_,nb5⟩⟩
end
section
variable{K:PySem.W.Frag}{F H F1 H1:Hp}{ρ ρ1:List Sl}{σ σ1:L2.St}
theorem aJ.since{b:Addr}(s:aJ K F ρ σ H F1 ρ1 σ1 H1)(h:H1 b=none):Own ρ σ b\/H b=none:=by
 by_cases ho:Own ρ σ b;.exact .inl ho
 .right;cases e:H b with|none=>rfl|some o=>rw[s.keep b o e ho]at h;cases h
theorem NB.mk'{x:Nat}{q:Addr}{as:List Addr}{rows:List (List D)}{s1:Sl}(s:aJ K F ρ σ H F1 ρ1 σ1 H1)(hx:ρ1[x]?=some s1)(hl:sU s1=false)(hq:Ow F1 ρ1 σ1 H1 q (as.map V.ref))(nd:(q::as).Nodup)(len:as.length=rows.length)(row:∀(k:Nat)(a:Addr)(ds:List D),as[k]?=some a->rows[k]?=some ds->Wt K F1 ρ1 σ1 H1 a ds)(fr:∀b,b∈q::as->Own ρ σ b\/H b=none):NB K x q as F ρ σ H F1 (ρ1.set x (.hold rows)) (σ1.set x (some (.ref q))) H1 rows:=by
 have hi:x<ρ1.length:=(List.getElem?_eq_some_iff.mp hx).1;have hi':x<σ1.length:=by rw[<-s.gs.len];exact hi
 exact⟨s.yC rfl (s.free hx hl),fr,s.free hx hl,⟨getElem?_set_self hi,getElem?_set_self hi',⟨yP rfl hq.kp,hq.fr⟩,nd,len,fun k a ds h1 h2=>HY rfl (row k a ds h1 h2)⟩⟩
end
theorem Eh{K:PySem.W.Frag}{F H:Hp}{ρ ρ1 ρ2:List Sl}{σ:L2.St}{ul:List Sl->List Sl}{ti:TI}{is:List Nat}{one:Bool}{c:Call}{el:Ev}{g:TG}{Q:VK}{ds:List D}{rows:List (List D)}{m n:Nat}(hm:σ.length=m)(hgo:lB K m is one g)(hti:∀R:It->Hp->Prop,(∀J F1 H1,Walk K F ρ σ H ul J ds F1 ρ1 H1->R J H1)->ti σ H R)(hlim:ds.length<=lim)(e2:eY is one el ds [] (ρ1++replicate n .aP)=.ok rows ρ2)(k:∀ q as F' H',aJ K F ρ σ H F' (ul (ρ2.take ρ1.length)) σ H'->Ow F' (ul (ρ2.take ρ1.length)) σ H' q (as.map V.ref)->(q::as).Nodup->as.length=rows.length->(∀(k:Nat)(a:Addr)(ds:List D),as[k]?=some a->rows[k]?=some ds->Wt K F' (ul (ρ2.take ρ1.length)) σ H' a ds)->(∀b,b∈q::as->Own ρ σ b\/H b=none)->Q (.ref q) H'):qT n ti g (BR K (kO c none)) (uq K el) σ H Q:=by
 refine hti _ fun J F1 H1 w Da zM=>?_;have hl1:ρ1.length=σ.length:=w.gs.len;have gm:=w.gs.more (n:=n) (τ:=replicate n none) (by simp);have fD:F1 Da=none:=by cases q:F1 Da with|none=>rfl|some o=>rw[w.gs.sub Da o q]at zM;cases zM
 have nO:¬ Own (ρ1++replicate n .aP) (σ++replicate n none) Da:=fun⟨i,⟨t,dt,q1,q2⟩,q3⟩=>by obtain⟨a,ys,z1,z2,_⟩:=gm.own i t dt q1 q2;rw[q3]at z1;cases z1;rw[zM]at z2;cases z2
 refine⟨fun i mm ys σi Hi=>∃Fi ρi acc as,aJ K F1 (ρ1++replicate n .aP) (σ++replicate n none) H1 Fi ρi σi Hi/\σi.take m=σ/\ys=as.map V.ref/\Hi Da=some (.lst ys)/\Fi Da=none/\¬ Own ρi σi Da/\(Da::as).Nodup/\as.length=acc.length/\(∀(k:Nat)(a:Addr)(ds:List D),as[k]?=some a->acc[k]?=some ds->Wt K Fi ρi σi Hi a ds/\(Own (ρ1++replicate n .aP) (σ++replicate n none) a\/H1 a=none))/\acc.length<=i/\mm=ds.length-i/\i<=ds.length/\eY is one el (ds.drop i) acc ρi=.ok rows ρ2,⟨_,F1,_,[],[],(aJ.refl gm).Fj zM fD nO,by rw[List.take_append_of_le_length (by omega),List.take_of_length_le (by omega)],rfl,aV,fD,nO,by simp,rfl,fun k a ds h=>by simp at h,zero_le _,rfl,zero_le _,e2⟩,?_⟩;rintro i mm ys σi Hi⟨Fi,ρi,acc,as,si,hσ,hys,hD,hF,hO,hnd,hlen,hrow,hacc,rfl,hle,ei⟩;refine⟨hD,?_⟩;have stay:∀{F2 H2:Hp}{ρ3:List Sl}{σ2:L2.St},aJ K Fi ρi σi Hi F2 ρ3 σ2 H2->H2 Da=some (.lst ys)/\F2 Da=none/\¬ Own ρ3 σ2 Da:=fun{F2 H2 ρ3 σ2}s=>by have:=(Ow.stp (xs:=ys) ⟨⟨hD,hO⟩,hF⟩ s);exact⟨this.kp.1,this.fr,this.kp.2⟩
 obtain⟨s1,s2⟩:=w.src n i Fi ρi σi Hi si;by_cases hlt:i<ds.length
 . right;have hd:ds[i]?=some ds[i]:=by simp[hlt]
   obtain⟨go,step⟩:=s1 _ hd;refine⟨go,fun x H2 y=>?_⟩;obtain⟨F2,ext,rx⟩:=step x H2 y;have t2:=ext.stp si.gs;rw[drop_eq_getElem_cons hlt,eY]at ei;cases hbd:cu ρi is one ds[i]with|none=>rw[hbd]at ei;cases ei|some ρb=>rw[hbd]at ei;obtain⟨re,ρe,ee,ei⟩:=ak ei;cases re with|val _=>cases ei|own rw0=>
     replace ei:eY is one el (ds.drop (i+1)) (acc++[rw0]) ρe=.ok rows ρ2:=ei;refine hgo x _ F2 ρi ρb σi H2 _ t2.gs rx hbd fun σ2 sb htk=>?_;have t3:=t2.trans sb;refine⟨F2,ρb,true,ρb,t3.gs,by rw[kO],fun F4 H4 s4=>?_⟩;have t4:=t3.trans s4;refine(show uq K el σ2 H4 _ from⟨F4,ρb,.own rw0,ρe,t4.gs,ee,fun v F5 H5 s5 rr=>?_⟩);have t6:=t4.trans s5;obtain⟨y1,y2,y3⟩:=stay t6;obtain⟨z1,z2,z3⟩:=stay t4;have hlen2:ys.length<sizeLine:=by have h2:lim=sizeLine:=rfl;rw[hys,length_map];omega
     obtain⟨A,xs,rfl,a1,a2,a3,a4,a5⟩:=rr;have nDA:A≠Da:=by
      rintro rfl;rcases a5 with z|z;.exact z3 z
      .rw[z1]at z;cases z
     have nA:A∉as:=fun hA=>by
      obtain⟨k0,hk0⟩:=List.getElem?_of_mem hA;have hl0:k0<acc.length:=by rw[<-hlen];exact(List.getElem?_eq_some_iff.mp hk0).1
      obtain⟨⟨zs,k1,_⟩,_⟩:=(hrow k0 A acc[k0] hk0 (by simp[hl0])).1.stp t4;rcases a5 with z|z;.exact k1.2 z
      .rw[k1.1]at z;cases z
     have fA:Own (ρ1++replicate n .aP) (σ++replicate n none) A\/H1 A=none:=by
      have t:=si.trans t4;rcases a5 with z|z;.exact t.ur A z
      .exact t.since z
     refine⟨y1,hlen2,_,by omega,F5,ρe,acc++[rw0],as++[A],(si.trans t6).Fj zM y2 y3,htk.trans hσ,by rw[hys];simp,aV,y2,y3,?_,by simp[hlen],fun k0 a0 ds0 h1 h2=>?_,by simp;omega,rfl,hlt,ei⟩
     . rw[<-List.cons_append,nodup_append];refine⟨hnd,by simp,fun p hp r hr=>?_⟩;simp at hr;subst hr;rcases mem_cons.mp hp with rfl|hp;.exact fun z=>nDA z.symm
       .rintro rfl;exact nA hp
     . by_cases hk0:k0<as.length
       . rw[getElem?_append_left hk0]at h1;rw[getElem?_append_left (by omega)]at h2;obtain⟨w0,f0⟩:=hrow k0 a0 ds0 h1 h2;obtain⟨⟨zs,k1,r1⟩,g1⟩:=w0.stp t6;have na:a0≠Da:=by rintro rfl;exact(nodup_cons.mp hnd).1 (mem_of_getElem? h1)
         exact⟨⟨⟨zs,⟨by rw[aC na];exact k1.1,k1.2⟩,r1⟩,g1⟩,f0⟩
       . rw[getElem?_append_right (by omega)]at h1;rw[getElem?_append_right (by omega)]at h2;have:k0-as.length=0:=by have:=(List.getElem?_eq_some_iff.mp h1).1;simp at this;exact this
         rw[this]at h1;rw[<-hlen,this]at h2;cases h1;cases h2;exact⟨⟨⟨xs,⟨by rw[aC nDA];exact a1,a4⟩,a3⟩,a2⟩,fA⟩
 . left;have hdr:ds.drop i=[]:=by rw[drop_eq_nil_iff];omega
   rw[hdr,eY]at ei;cases ei;refine⟨s2 (by omega),?_⟩;have hst:σi.take ρ1.length=σ:=by rw[hl1,hm];exact hσ
   obtain⟨l1,l2⟩:=aJ.less (m:=ρ1.length) rfl w.gs (by simp) si;rw[hst]at l1;obtain⟨z1,z2⟩:=w.fin _ _ _ _ l1--the outer list:with nothing in it,it is like any new one
   have si':=si.Fj (o:=.lst []) zM hF hO;obtain⟨l1',Tu⟩:=aJ.less (m:=ρ1.length) rfl w.gs (by simp) si';rw[hst]at l1';obtain⟨z1',z2'⟩:=w.fin _ _ _ _ l1';have rr:cJ K Fi ρ2 σi (upd Hi Da (.lst [])) (ρ1++replicate n .aP) (σ++replicate n none) H1 (.ref Da) (.own []):=⟨Da,[],rfl,aV,hF,.nil,hO,.inr zM⟩;have Mf:=Tu _ _ rr;rw[hst]at Mf;obtain⟨_,_,q0,_,q3,_,q5,q6⟩:=z2' _ _ Mf;cases q0;have rws:∀(k:Nat)(a:Addr)(ds:List D),as[k]?=some a->rows[k]?=some ds->Wt K Fi (ul (ρ2.take ρ1.length)) σ Hi a ds/\(Own ρ σ a\/H a=none):=fun k a ds h1 h2=>by obtain⟨⟨⟨xs,k1,r1⟩,f1⟩,f2⟩:=hrow k a ds h1 h2;have rr:cJ K Fi ρ2 σi Hi (ρ1++replicate n .aP) (σ++replicate n none) H1 (.ref a) (.own ds):=⟨a,xs,rfl,k1.1,f1,r1,k1.2,f2⟩;have Mf:=l2 _ _ rr;rw[hst]at Mf;obtain⟨a',xs',q0,q2,q3,q4,q5,q6⟩:=z2 _ _ Mf;cases q0;exact⟨⟨⟨xs',⟨q2,q5⟩,q4⟩,q3⟩,q6⟩
   refine k Da as Fi Hi z1 ⟨⟨by rw[hD,hys],q5⟩,q3⟩ hnd hlen (fun k a ds h1 h2=>(rws k a ds h1 h2).1) fun b hb=>?_;rcases mem_cons.mp hb with rfl|hb;.exact q6
   . obtain⟨k0,hk0⟩:=List.getElem?_of_mem hb;have hl0:k0<rows.length:=by rw[<-hlen];exact(List.getElem?_eq_some_iff.mp hk0).1
     exact(rws k0 b rows[k0] hk0 (by simp[hl0])).2
section
variable{X:Cx}{c:Call}{nn n:Nat}{tg iter elt:Expr}{ps pe:P}{pos:Pos}{sts:List Stmt}{ss:List S}{scope:Scope}{N':List Str}
theorem Hg{i:Nat}{x:Str}{pos' spos:Pos}{g:TG}{is:List Nat}{one:Bool}(hc:X.calm=true)(hN:X.N.Nodup)(hx0:X.N[i]?=some x)(hx:Loc X.env.scope x)(ok:dO X scope N' n)(hi:SI X c tg iter ps)(hg:∀cl C s₀ H₀ ex,PG (o9 X scope N' cl C s₀ H₀ ex) tg g)(hgo:lB X.K X.N.length is one g)(ht:∀cl C s₀ H₀ ex,SQ (o9 X scope N' cl C s₀ H₀ ex) c [] none)(he:∀cl C s₀ H₀ ex,SX (o9 X scope N' cl C s₀ H₀ ex) c elt pe)(hT:Y6 X c nn i sts ss)(hsw:swapsWith (.ListComp elt [⟨tg,iter,[],0⟩] scope pos) (some (.Name x pos')) spos.line X.env=pure true:=by rfl)(hs:∀x,foldedSetIterable iter X.env x=pure x:=by intro _;rfl)(hf:X.fn x=true\/X.env.scope.names.lookup x=some .local:=by first|exact .inl rfl|exact .inr rfl|assumption):SB X c nn (.Assign [.Name x pos'] (.ListComp elt [⟨tg,iter,[],0⟩] scope pos) spos::sts) (.GF i ps n is one pe::ss):=by
 have h0:=tW (tt:=BR X.K (kO c none)) (te:=uq X.K (HH.ev c pe)) hc hN hx0 hx ok hi hg ht (fun cl C s₀ H₀ ex=>(he cl C s₀ H₀ ex).ev) hsw hs hf;refine fun pins s σ H D I q=>lC h0 hT.p pins s σ H D I ?_;have hl:σ.length=X.N.length:=I.len;obtain⟨F,ρ,fl,ρ',g0,e,kk⟩:=q;rw[gf]at e;obtain⟨f1,ρ9,e1,e⟩:=ak e;rw[HH.X18]at e1;obtain⟨ds,ρ1,e2,e1⟩:=ak e1;split at e1;.rename_i hlim;obtain⟨rows,ρ2,e3,e1⟩:=ak e1;obtain⟨ρ3,ρ3',e4,e1⟩:=ak e1;cases e1;have zz:=aD e4;clear e4;obtain⟨e4,_⟩:=zz;obtain⟨s1,h1,h2,rfl⟩:=Dw e4;refine(show qT n (tIt X.K (isVar ps) (HH.ev c ps)) g (BR X.K (kO c none)) (uq X.K (HH.ev c pe)) σ H (fun v H1=>iT i v σ H1 (Ud X.K i (gf c nn ss) D))from Eh (c:=c) (ul:=aW ρ (isVar ps)) hl hgo (fun R h=>⟨F,ρ,ds,ρ1,g0,e2,h⟩) hlim e3 fun q as F' H' s wq nd len row fr=>?_);exact⟨F,ρ,σ,H,F',_,q,as,rows,fl,ρ',NB.mk' s h1 h2 wq nd len row fr,e,fun F2 σ2 H2 s2=>kk F2 σ2 H2 s2⟩
 .cases e1
end
end HH
end
section
namespace HH
open PySem L2 PySem.Spec PyProof.Rows PySem.Calls PySem.W
section
variable{K:PySem.W.Frag}{F F1 H H1:Hp}{ρ ρ1 ρ2:List Sl}{σ σ1:L2.St}
theorem GS.aaV{x:Nat}{kvs kvs':List (Int×D)}{a:Addr}{o':HO}(g:GS K F ρ σ H)(e:ρ[x]?=some (.cV kvs))(hx:σ[x]?=some (some (.ref a)))(r:jK K F o' (.v kvs')):aJ K F ρ σ H F (ρ.set x (.cV kvs')) σ (upd H a o'):=by
 have hi:x<ρ.length:=(List.getElem?_eq_some_iff.mp e).1;have oa:bB ρ σ x a:=⟨⟨_,_,e,rfl⟩,hx⟩;obtain⟨a',o0,h1,h2,h3,h4⟩:=g.own x _ _ e rfl;rw[hx]at h1;cases h1;have old:∀{j:Nat}{c:Addr},bB (ρ.set x (.cV kvs')) σ j c->bB ρ σ j c:=fun{j c}⟨⟨t,dt,q1,q2⟩,q3⟩=>by
  by_cases hj:j=x;.subst hj;exact⟨⟨_,_,e,rfl⟩,q3⟩
  .rw[getElem?_set_ne (Ne.symm hj)]at q1;exact⟨⟨t,dt,q1,q2⟩,q3⟩
 refine⟨⟨fun c o q=>?_,by simp[g.len],fun j b' d q=>?_,fun j t dt q q'=>?_,fun j k c q1 q2=>g.dis j k c (old q1) (old q2)⟩,.refl _,fun c n n'=>absurd n n',fun c o q n=>?_,fun c⟨j,q⟩=>.inl ⟨j,old q⟩,by simp,fun j t q l=>⟨rfl,?_⟩⟩
 . have:c≠a:=by rintro rfl;rw[h3]at q;cases q
   rw[aC this];exact g.sub c o q
 . by_cases hj:j=x;.subst hj;rw[getElem?_set_self hi]at q;cases q
   .rw[getElem?_set_ne (Ne.symm hj)]at q;exact g.val j b' d q
 . by_cases hj:j=x;.subst hj;rw[getElem?_set_self hi]at q;cases q;cases q';exact⟨a,_,hx,aV,h3,r⟩
   . rw[getElem?_set_ne (Ne.symm hj)]at q;obtain⟨c,zs,w1,w2,w3,w4⟩:=g.own j t dt q q';have:c≠a:=by rintro rfl;exact hj (g.dis j x c ⟨⟨t,dt,q,q'⟩,w1⟩ oa)
     exact⟨c,zs,w1,by rw[aC this];exact w2,w3,w4⟩
 . have:c≠a:=by rintro rfl;exact n ⟨x,oa⟩
   rw[aC this];exact q
 . by_cases hj:j=x;.subst hj;rw[e]at q;cases q;cases l
   .exact⟨t,by rw[getElem?_set_ne (Ne.symm hj)];exact q,.refl t⟩
theorem GS.newV{i:Nat}{kvs:List (Int×D)}{a:Addr}{o':HO}{s0:Sl}(g:GS K F ρ σ H)(e:ρ[i]?=some s0)(hl0:sU s0=false)(r:jK K F o' (.v kvs))(ha:H a=none):aJ K F ρ σ H F (ρ.set i (.cV kvs)) (σ.set i (some (.ref a))) (upd H a o'):=by
 have hi:i<ρ.length:=(List.getElem?_eq_some_iff.mp e).1;have hi':i<σ.length:=by rw[<-g.len];exact hi
 have fa:F a=none:=by cases q:F a with|none=>rfl|some o=>rw[g.sub a o q]at ha;cases ha
 have old:∀{j:Nat}{c:Addr},j≠i->bB (ρ.set i (.cV kvs)) (σ.set i (some (.ref a))) j c->bB ρ σ j c:=fun{j c}hj⟨⟨t,ds,e1,e2⟩,e3⟩=>by rw[getElem?_set_ne (Ne.symm hj)]at e1 e3;exact⟨⟨t,ds,e1,e2⟩,e3⟩
 have new:∀{c:Addr},bB (ρ.set i (.cV kvs)) (σ.set i (some (.ref a))) i c->c=a:=fun{c}⟨_,e3⟩=>by rw[getElem?_set_self hi']at e3;cases e3;rfl
 have no:∀{j:Nat},¬ bB ρ σ j a:=fun{j}⟨⟨t,ds,e1,e2⟩,e3⟩=>by obtain⟨c,o,q1,q2,_⟩:=g.own j t ds e1 e2;rw[e3]at q1;cases q1;rw[ha]at q2;cases q2
 refine⟨⟨fun c o q=>?_,by simp[g.len],fun j b' d q=>?_,fun j t dt q q'=>?_,fun j k c q1 q2=>?_⟩,.refl _,fun c n n'=>absurd n n',fun c o q n=>?_,fun c⟨j,q⟩=>?_,by simp,fun j t q l=>?_⟩
 . have:c≠a:=by rintro rfl;rw[fa]at q;cases q
   rw[aC this];exact g.sub c o q
 . by_cases hj:j=i;.subst hj;rw[getElem?_set_self hi]at q;cases q
   .rw[getElem?_set_ne (Ne.symm hj)]at q ⊢;exact g.val j b' d q
 . by_cases hj:j=i;.subst hj;rw[getElem?_set_self hi]at q;cases q;cases q';exact⟨a,_,getElem?_set_self hi',aV,fa,r⟩
   . rw[getElem?_set_ne (Ne.symm hj)]at q ⊢;obtain⟨c,o,w1,w2,w3,w4⟩:=g.own j t dt q q';have:c≠a:=by rintro rfl;rw[ha]at w2;cases w2
     exact⟨c,o,w1,by rw[aC this];exact w2,w3,w4⟩
 . by_cases hj:j=i
   . by_cases hk:k=i;.rw[hj,hk]
     .subst hj;rw[new q1]at q2;exact absurd (old hk q2) no
   . by_cases hk:k=i;.subst hk;rw[new q2]at q1;exact absurd (old hj q1) no
     .exact g.dis j k c (old hj q1) (old hk q2)
 . have:c≠a:=by rintro rfl;rw[ha]at q;cases q
   rw[aC this];exact q
 . by_cases hj:j=i;.subst hj;rw[new q];exact .inr ha
   .exact .inl ⟨j,old hj q⟩
 . have hj:j≠i:=by rintro rfl;rw[e]at q;cases q;rw[hl0]at l;cases l
   exact⟨by rw[getElem?_set_ne (Ne.symm hj)],t,by rw[getElem?_set_ne (Ne.symm hj)];exact q,.refl t⟩
end
section
variable{X:Cx}{c:Call}{n:Nat}{a b e:Expr}{pa pb p:P}{pos:Pos}
theorem yI{i:Nat}{x:Str}{pos' p2:Pos}(hN:X.N.Nodup)(hi:X.N[i]?=some x)(hx:Loc X.env.scope x)(hs:swapsWith (.Dict [] [] p2) (some (.Name x pos')) pos.line X.env=pure false:=by rfl)(hf:X.fn x=true\/X.env.scope.names.lookup x=some .local:=by first|exact .inl rfl|exact .inr rfl|assumption):SS X c n (.Assign [.Name x pos'] (.Dict [] [] p2) pos) (.Bw i):=by
 refine dJ (CW hN hi hx Cz hs hf) ?_;rintro D σ H⟨F,ρ,fl,ρ',g,e,k⟩;rw[HH.X22]at e;have go:∀s0,ρ[i]?=some s0->sU s0=false->fl=.next->ρ'=ρ.set i (.cV [])->∀a,H a=none->D.nx (σ.set i (some (.ref a))) (upd H a (.dK [])):=fun s0 q hl hfl hρ a ha=>by subst hfl hρ;exact k F _ _ (g.newV (kvs:=[]) q hl (KR.oc .nil) ha)
 split at e;.rename_i q;cases e;exact go _ q rfl rfl rfl
 .rename_i q;cases e;exact go _ q rfl rfl rfl
 .rename_i q;cases e;exact go _ q rfl rfl rfl
 .cases e
theorem sW{i:Nat}{x:Str}{px pos':Pos}{pk:P}(hu:X.A.units+8<cLine)(hN:X.N[i]?=some x)(hv:v8 X.env.scope x)(ha:SX X c a pk)(he:SX X c e p)(hs:swapsWith e (some (.Subscript (.Name x px) a pos')) pos.line X.env=pure false:=by rfl)(hd:(x==("__debug__":Str))=false:=by decide)(hcd:(x==("__classdict__":Str))=false:=by decide):SS X c n (.Assign [.Subscript (.Name x px) a pos'] e pos) (.jn i pk p):=by
 obtain⟨ta,h1,h2⟩:=ha.cR;refine dJ (Js (by omega) (gF hN hv hd hcd) h1 he.ev hs) ?_;rintro D σ H⟨F,ρ,fl,ρ',g,e,k⟩;rw[HH.X23]at e;obtain⟨r,ρ1,e1,eA⟩:=ak e;clear e;refine⟨F,ρ,r,ρ1,g,e1,fun v F1 H1 s1 rr=>?_⟩;obtain⟨F2,s2,_,rp⟩:=s1.cW rr;split at eA
 . rename_i acW q0;obtain⟨kd,ρ2,e2,eB⟩:=ak eA;clear eA;obtain⟨a0,o0,w1,w2,w3,w4⟩:=s2.gs.own i _ _ q0 rfl;refine⟨.ref a0,w1,h2 s2.gs e2 fun y F3 H3 s3 py=>?_⟩;split at eB
   . rename_i kvs j q;split at eB;.rename_i hl;cases eB;obtain⟨a1,o1,y1,y2,y3,y4⟩:=s3.gs.own i _ _ q rfl;rw[w1]at y1;cases y1;obtain⟨es,rfl,kr⟩:=KR.QQ y4;have kr2:=kr.put (k:=j) (rp.mono s3.bU);refine⟨a0,upd H3 a0 (.dK (putK es (Sum.inl j:Key) v)),rfl,?_,k F3 σ _ ((s2.trans s3).trans (s3.gs.aaV q w1 kr2.oc))⟩;rw[py.int];exact .inl ⟨es,Sum.inl j,y2,rfl,by rw[kr.len,sizeLine_eq];exact hl,rfl⟩
     .cases eB
   .cases eB
 .cases eA
theorem xV{i:Nat}{x:Str}{px:Pos}{pk:P}(hu:X.A.units+8<cLine)(hN:X.N[i]?=some x)(hv:v8 X.env.scope x)(ha:SX X c a pk)(hs:HR a)(hd:(x==("__debug__":Str))=false:=by decide)(hcd:(x==("__classdict__":Str))=false:=by decide):SX X c (.Subscript (.Name x px) a pos) (.LK i pk):=by
 obtain⟨ta,h1,h2⟩:=ha.cR;refine⟨dZ (Iz (by omega) (gF hN hv hd hcd) h1 hs) ?_,fun i h=>by cases h⟩;rintro σ H Q⟨F,ρ,r,ρ',g,e,k⟩;rw[HH.E24]at e;split at e
 . rename_i acW q;obtain⟨kd,ρ1,e1,eA⟩:=ak e;clear e;obtain⟨a0,o0,w1,w2,w3,w4⟩:=g.own i _ _ q rfl;refine⟨.ref a0,w1,h2 g e1 fun v F1 H1 s1 pv=>?_⟩;split at eA;.rename_i kvs q1;obtain⟨eC,e3⟩:=aD eA;clear eA;subst e3;obtain⟨j,e4,eD⟩:=cC eC;clear eC;obtain⟨d,e5,e6⟩:=map_some eD;subst e6;rw[dI e4]at pv;obtain⟨a1,o1,y1,y2,y3,y4⟩:=s1.gs.own i _ _ q1 rfl;rw[w1]at y1;cases y1;obtain⟨es,rfl,kr⟩:=KR.QQ y4;obtain⟨v',g1,g2⟩:=kr.get e5;rw[pv.int];exact⟨a0,v',rfl,.inl ⟨es,Sum.inl j,.inl y2,rfl,g1.symm⟩,k v' F1 H1 s1 (show Rep X.K F1 _ _ from g2)⟩
   .cases eA
 .cases e
theorem Ob{i:Nat}{x:Str}{px:Pos}{pk:P}{neg:Bool}{op:CmpOp}(hop:(op=.In/\neg=false)\/(op=.NotIn/\neg=true))(hu:X.A.units+8<cLine)(hN:X.N[i]?=some x)(hv:v8 X.env.scope x)(ha:SX X c a pk)(hd:(x==("__debug__":Str))=false:=by decide)(hcd:(x==("__classdict__":Str))=false:=by decide):PC X op a (.Name x px) (uq X.K (HH.ev c (.LQ i pk neg))):=by
 obtain⟨ta,h1,h2⟩:=ha.cR;have main:∀{σ:L2.St}{H:Hp}{Q:VK},uq X.K (HH.ev c (.LQ i pk neg)) σ H Q->ta σ H fun y H1=>Nt i σ H1 fun x H2=>∃a o,x=.ref a/\pH H2 a y o/\Q (.bl (if neg then !o.isSome else o.isSome)) H2:=fun{σ H Q}⟨F,ρ,r,ρ',g,e,k⟩=>by
  rw[HH.E25]at e;obtain⟨kd,ρ1,e1,eA⟩:=ak e;clear e;refine h2 g e1 fun v F1 H1 s1 pv=>?_;split at eA;.rename_i kvs q1;obtain⟨eC,e3⟩:=aD eA;clear eA;subst e3;obtain⟨j,e4,e5⟩:=map_some eC;subst e5;rw[dI e4]at pv;obtain⟨a1,o1,y1,y2,y3,y4⟩:=s1.gs.own i _ _ q1 rfl;obtain⟨es,rfl,kr⟩:=KR.QQ y4;rw[pv.int];refine⟨.ref a1,y1,a1,_,rfl,.inl ⟨es,Sum.inl j,.inl y2,rfl,rfl⟩,?_⟩;rw[kr.has j];exact k _ F1 H1 s1 (show Rep X.K F1 _ _ from dX _)
  .cases eA
 rcases hop with⟨rfl,rfl⟩|⟨rfl,rfl⟩;.exact fun pins s σ H Q I h=>Mm (by omega) h1 (gF hN hv hd hcd) pins s σ H Q I (main h)
 .exact fun pins s σ H Q I h=>zQ (by omega) h1 (gF hN hv hd hcd) pins s σ H Q I (main h)
end
theorem iV{P:Program}{w:World}:∀{ks:List Int}{es:List (Key×V)}{vs:List (Key×Value)}{acc:List Value},es.map (·.1)=ks.map (Sum.inl:Int->Key)->KV es vs->acc.length=vs.length->(∀(j:Nat)(v:Value),acc[j]?=some v->∃(k:Key)(x:Value),vs[j]?=some (k,x)/\(bL P w).is k v=true)->IntsAre acc ks
 |[],es,_,acc,he,r,h,_=>by cases es with
   |nil=>cases r;cases acc with|nil=>exact .nil|cons _ _=>simp at h
   |cons _ _=>simp at he
 |i::ks,es,_,acc,he,r,h,k=>by cases es with|nil=>simp at he|cons p es=>cases r with|@cons _ q _ _ r t=>rw[map_cons,map_cons]at he;cases acc with|nil=>simp at h|cons v acc=>
         obtain⟨k',x,e1,e2⟩:=k 0 v rfl;simp at e1;have e3:k'=Sum.inl i:=by have z:=r.1;rw[e1]at z;rw[<-(List.cons.inj he).1];exact z.symm
         subst e3;obtain⟨i',tk,e4,rfl⟩|⟨_,_,e4,_⟩:=bN (show oY (Sum.inl i) v=true from e2);.cases e4;exact .cons _ tk (iV (List.cons.inj he).2 t (by simpa using h) fun j v e=>k (j+1) v (by simpa using e))
         .cases e4
section
variable{X:Cx}{c:Call}{n:Nat}{a b e:Expr}{pa pb p:P}{pos:Pos}
theorem U4(hc:X.calm=true):eO X (.type "list") (Ho X.K fun x=>blt .Tr [x]):=by rintro pins s σ H xs us Q I r⟨x,hx,F,d,r',sm,px,he,k⟩;cases d with|dv ks ds=>
   obtain⟨hle,he⟩:=bD (show(if ks.length<=16777216 then some (R.own (ks.map D.int))else none)=some r' from he);subst he;obtain⟨q,ob,TF,rfl,hq,rs,hl⟩:=px.dv sm;subst hx;obtain⟨u,rfl,rx⟩:=r.one;cases rx;obtain⟨ho,hz,hS,vs,rv,dd⟩:=(show bR X.prog X.w H s.heap q (.cW ob (.dK (ent ks TF)))from I.hok q _ hq);obtain⟨ep,dd⟩:=dd.dictAt;have hk:=km (ks:=ks) (vs:=TF) (by rw[rs.length];exact hl);have hlv:vs.length=ks.length:=by rw[<-Paired.length rv];have:=congrArg List.length hk;simpa using this
   refine kdl_call (kdl_dict (knd:=bL X.prog X.w) (kvs:=vs) (ep:=ep) hS) (I.ok.hd hc) dd (by rw[hlv,sizeLine_eq];omega) fun h' tk acc c' kp hD hacc=>?_;have ia:IntsAre acc.toList ks:=iV (P:=X.prog) (w:=X.w) hk rv (by rw[length_toList];exact hacc.1) fun j v e=>hacc.2 j v (by rw[<-Array.getElem?_toList];exact e);refine⟨.ref s.heap.objs.size,_,I.laid (t':=tk) (o:=.lst (ks.map V.int)) (h':=h') kp (le_refl _) ⟨by rw[length_map,sizeLine_eq];omega,acc.toList,c',ie ia,by rw[Array.toArray_toList];exact hD⟩,rfl,?_⟩;exact vd sm (lZ ks) (I.hok.fresh (le_refl _)) k|_=>cases he
theorem CJ{x:Str}{p':Pos}(hx:x="list")(hc:X.calm=true)(hg:Gl X x)(hm:X.mg x=none)(ha:SX X c a pa)(hs:starEach [a] X.env=(false,eval a X.env)::starEach [] X.env:=by rfl):SX X c (.Call (.Name x p') [a] [] pos) (.blt .Tr [pa]):=by subst hx;exact mX (fun h=>mj (U4 hc) hg hm (by decide+kernel) h (he:=hs)) ha (fun ρ=>rfl) rfl hs
theorem Ea(hc:X.calm=true):eO X (.builtin "sorted") (Ho X.K fun x=>blt .mO [x]):=by
 rintro pins s σ H xs us Q I r⟨x,hx,F,d,r',sm,px,he,k⟩
 cases d with|dv ks ds=>
   obtain⟨so,he⟩:=bD (show(if ks.length<64 then some (R.own (yw (ks.map D.int)))else none)=some r' from he);subst he;obtain⟨q,ob,TF,rfl,hq,rs,hl⟩:=px.dv sm;subst hx;obtain⟨u,rfl,rx⟩:=r.one;cases rx;obtain⟨ho,hz,hS,vs,rv,dd⟩:=(show bR X.prog X.w H s.heap q (.cW ob (.dK (ent ks TF)))from I.hok q _ hq);obtain⟨ep,dd⟩:=dd.dictAt;have hk:=km (ks:=ks) (vs:=TF) (by rw[rs.length];exact hl);have hlv:vs.length=ks.length:=by rw[<-Paired.length rv];have:=congrArg List.length hk;simpa using this
   refine Calls.call_function_entry kind_sorted plain_sorted entry_sorted (args_sorted1 _) ?_;unfold Builtin.«sorted»;refine wpAny_bind (m:=checkCount "sorted" 1 1 _) (wpAny_pure ?_);refine wpAny_bind (tH (A:=X.A.in1) (knd:=bL X.prog X.w) (I.ok.hd hc) hS dd (by rw[hlv,sizeLine_eq];omega) fun h1 tk acc kp hsz hacc=>?_);have ia:IntsAre acc.toList ks:=iV (P:=X.prog) (w:=X.w) hk rv (by rw[length_toList];exact hacc.1) fun j v e=>hacc.2 j v (by rw[<-Array.getElem?_toList];exact e);have hla:acc.toList.length=ks.length:=by rw[IntsAre.length ia]
   generalize acc.toList=its at ia hla;refine wpAny_bind (wpAny_newList ?_ (by rw[sizeLine_eq];omega));have hsz:=le_of_lt hsz;generalize hG:(h1.push {cls:=.type "list",data:=.seq its.toArray}:Heap)=H2;have ho2:H2.get? h1.objs.size=some (seqObj "list" its.toArray 0):=by rw[<-hG];exact get?_push_size _ rfl
   have WW:∀b o,s.heap.get? b=some o->H2.get? b=some o:=fun b o e=>by rw[<-hG];exact get?_push_of_some _ (kp b o e)
   have hne:∀b o,s.heap.get? b=some o->b≠h1.objs.size:=fun b o e=>ne_of_lt (lt_size (kp b o e));show wpAny _ _ _ _ _ {s with heap:=H2,toks:=tk};refine wpAny_bind (wpAny_holding (wpAny_call_entry slot_list_sort ⟨_,ho2,rfl⟩ entry_list_sort ?body (args_list_sort _)));case body=>
    refine zZ (s:={s with heap:=H2,toks:=tk}) ho2 ia (by omega) fun h' cc out is k' i1 p2 l2 e=>⟨_,rfl,wpAny_pure ⟨_,rfl,?_⟩⟩;have kk:∀b o,s.heap.get? b=some o->h'.get? b=some o:=fun b o z=>k' b o (hne b o z) (WW b o z);refine⟨.ref h1.objs.size,_,I.laid (t':=tk) (o:=.lst (is.map V.int)) (h':=h') kk hsz ⟨by rw[length_map,l2,sizeLine_eq];omega,out,cc,ie i1,e⟩,rfl,?_⟩;have rs2:aF X.K F (is.map V.int) (yw (ks.map D.int)):=by rw[p2];exact lZ is
    exact vd sm rs2 (I.hok.fresh hsz) k|_=>cases he
theorem Ad{x:Str}{p':Pos}(hx:x="sorted")(hc:X.calm=true)(hg:Gl X x)(hm:X.mg x=none)(ha:SX X c a pa)(hs:starEach [a] X.env=(false,eval a X.env)::starEach [] X.env:=by rfl):SX X c (.Call (.Name x p') [a] [] pos) (.blt .mO [pa]):=by subst hx;exact mX (fun h=>fO (Ea hc) hg hm boot_sorted h (he:=hs)) ha (fun ρ=>rfl) rfl hs
theorem Jq{neg:Bool}{op:CmpOp}(hop:(op=.In/\neg=false)\/(op=.NotIn/\neg=true))(hu:X.A.units+8<cLine):dW X (compareOp op) (rD X.K (uM neg)):=by rintro pins s σ H x y v u Q I rx ry⟨F,d,e,r,sm,px,py,he,k⟩;cases d with
 |int j=>cases e with|dv ks ds=>
     cases he;obtain⟨q,ob,vs,rfl,hq,rs,hl⟩:=py.dv sm;have kr:=KR.zip rs hl;rw[px.int]at rx;obtain rfl:u=Value.ref q:=ry;have g:pH H q (.int j) (iR (ent ks vs) (Sum.inl j:Key)):=.inl ⟨_,Sum.inl j,.inr ⟨ob,hq⟩,rfl,rfl⟩;have hh:(iR (ent ks vs) (Sum.inl j:Key)).isSome=ks.contains j:=by rw[kr.has j];congr 1;rw[List.map_fst_zip (by omega)]
     rcases hop with⟨rfl,rfl⟩|⟨rfl,rfl⟩;.refine V9 (by omega) I g rx fun s3 I3=>⟨.bl (iR (ent ks vs) (Sum.inl j:Key)).isSome,H,I3,rfl,?_⟩;rw[hh];exact cB.dm sm (dX _) k
     .refine zj (by omega) I g rx fun s3 I3=>⟨.bl (!(iR (ent ks vs) (Sum.inl j:Key)).isSome),H,I3,rfl,?_⟩;rw[hh];exact cB.dm sm (dX _) k|_=>cases he
 |_=>cases he
end
end HH
end
section
namespace PySem
section
variable{prog:Program}{w:World}{A:Around}{E:Value->Shared->Prop}{s:Shared}
theorem tL{Q:List Value->Shared->Prop}{I l:Addr}{items:Array Value}(hh:A.handled=none)(hit:s.heap.IsRevIter I l ((items.size:Int)-1))(hl:s.heap.IsList l items)(hne:l≠I)(hlen:items.size<=2^24)(hQ:∀h' tk acc,(∀b o,b≠I->s.heap.get? b=some o->h'.get? b=some o)->s.heap.objs.size<h'.objs.size->ItemsOf (fun i v=>items[items.size-1-i]?=some v) acc items.size->Q acc.toList {s with heap:=h',toks:=tk}):
 wpAny (model prog w) A (collect (.ref I)) Q E s:=by have hIlt:I<s.heap.objs.size:=let⟨_,ho,_⟩:=hit;lt_size ho;have Q5:l<s.heap.objs.size:=let⟨_,ho,_⟩:=hl;lt_size ho;unfold collect;refine wpAny_bind (wpAny_runValue (codeAny_builtin F.entry_proto_collect ?_));rw[Around.under_plainId F.plain_proto_collect _];show wpAny _ A.in1 (newList []>>=fun l=>again (.builtin "list.__iadd__" ⟨[l,.ref I],[]⟩)) _ _ s;refine wpAny_bind (wpAny_newObj_type ?_);refine wpAny_pure ⟨plainId_quiet F.plain_list_iadd _,codeAny_builtin F.entry_list_iadd ?_⟩;rw[Around.under_plainId F.plain_list_iadd _];show wpAny _ A.in1 (listExtendWith (.ref s.heap.objs.size) (.ref I) (.ref s.heap.objs.size)) _ _ _;refine gk (A:=A) (R:=fun r s'=>match r with
  |.ok (.ret v)=>wpAny (model prog w) A (match v with
   |.ref a=>do let o<-load a match o.data with|.seq xs _=>pure xs.toList|_=>unsupported "internal:collect"
   |_=>unsupported "internal:collect") Q E s'|.ok _=>False|.error e=>E e s') (s:={s with heap:=s.heap.push {cls:=.type "list",data:=.seq #[]}}) hh (hit.at fun o e=>get?_push_of_some _ e) (hl.at fun o e=>get?_push_of_some _ e) hne hlen s.heap.objs.size (Ne.symm (ne_of_lt hIlt)) (Ne.symm (ne_of_lt Q5)) _ 0 (get?_push_size _ rfl) fun h' tk acc c' hk hS hacc=>?_;refine wpAny_bind (wpAny_load hS ?_);exact wpAny_pure (hQ h' tk acc (fun b o hb e=>hk b o (ne_of_lt (lt_size e)) hb (get?_push_of_some _ e)) (lt_size hS) hacc)
end
theorem iU(I l:Addr)(items:Array Value)(hne:l≠I)(hsz:items.size<=2^24):Meets (Builtin.«tuple.__new__» ⟨[.type "tuple",.ref I],[]⟩) (fun A R s=>A.handled=none/\s.heap.IsRevIter I l ((items.size:Int)-1)/\s.heap.IsList l items/\∀(h':Heap)(tk:Nat),(∀b o,b≠I->s.heap.get? b=some o->h'.get? b=some o)->s.heap.objs.size<h'.objs.size->∀acc:Array Value,acc=items.reverse->R (.ok (.ret (.ref h'.objs.size))) {s with heap:=h'.push {cls:=.type "tuple",data:=.seq acc},toks:=tk}):=.of_wp fun prog w A R s h=>by
  obtain⟨hh,hit,hl,h⟩:=h;have hsub:=sub_tuple_self;have hinit:=init_tuple_lookup;have hmh:=madeHere_tuple;have hT:Shared.TypeIs s (.ref I) "list_reverseiterator":=hit.typeIs;obtain⟨o,ho,hc,hd⟩:=id hit;obtain⟨hp,g,d,tk,os⟩:=s;wp_walk using AutoSeq1.wpAny_loadPart' ho,wpAny_typeOf hT,tL (A:=A.in1) hh hit hl hne hsz;intro h' tk' acc hk hlt hacc;show wpAny _ _ (tupleExact acc.toList.toArray>>=fun v=>ret v) _ _ _;have e:acc.toList.toArray=acc:=by simp
  have er:acc=items.reverse:=by refine Array.ext (by rw[hacc.1,Array.size_reverse]) fun j h1 h2=>?_;have:=hacc.2 j _ (Array.getElem?_eq_getElem h1);rw[Array.getElem_reverse];have h3:=Array.getElem?_eq_some_iff.mp this;exact h3.2.symm
  rw[e];unfold tupleExact;refine wpAny_bind (wpAny_newObj_type ?_ (by show acc.size<=sizeLine;rw[hacc.1,sizeLine_eq];omega));exact wpAny_pure ⟨_,rfl,h h' tk' hk hlt acc er⟩
section
variable{prog:Program}{w:World}{A:Around}{E:Value->Shared->Prop}{s:Shared}
theorem m7{I l:Addr}{items:Array Value}{Q:Value->Shared->Prop}(hh:A.handled=none)(hit:s.heap.IsRevIter I l ((items.size:Int)-1))(hl:s.heap.IsList l items)(hne:l≠I)(hsz:items.size<=2^24)(h:∀(h':Heap)(tk:Nat),(∀b o,b≠I->s.heap.get? b=some o->h'.get? b=some o)->s.heap.objs.size<h'.objs.size->Q (.ref h'.objs.size) {s with heap:=h'.push {cls:=.type "tuple",data:=.seq items.reverse},toks:=tk}):wpAny (model prog w) A (call (.type "tuple") [.ref I]) Q E s:=callType_new F.called_tuple (by decide) (F.typeCall_tuple_1 _) (F.newCall_tuple_1 _) (fun obj=>F.args_object_init_2 obj _) F.entry_tuple_new (iU I l items hne hsz) ⟨hh,hit,hl,fun h' tk hk hlt acc e=>by subst e;exact⟨⟨_,get?_push_size _ rfl,rfl⟩,h h' tk hk hlt⟩⟩
end
end PySem
namespace L2
open PySem PySem.Spec PyProof.Rows
section
variable{X:Cx}{pins:List (Addr×Obj)}{σ:St}{H:Hp}{s:Shared}{E:Value->Shared->Prop}
theorem wG{a:Expr}{ta:TE}{p pos p2 pos2:Pos}(hc:X.calm=true)(Q6:Gl X "tuple")(Q7:X.mg "tuple"=none)(hg:Gl X "reversed")(hm:X.mg "reversed"=none)(ha:PE X a ta)(hs:starEach [a] X.env=[(false,eval a X.env)]:=by rfl)(hs2:starEach [.Call (.Name "reversed" p) [a] [] pos] X.env=[(false,eval (.Call (.Name "reversed" p) [a] [] pos) X.env)]:=by rfl):PE X (.Call (.Name "tuple" p2) [.Call (.Name "reversed" p) [a] [] pos] [] pos2) (fun σ H Q=>ta σ H fun x H1=>∃ad xs,x=.ref ad/\dq X.K H1 ad xs/\∀l,H1 l=none->Q (.ref l) (upd H1 l (.tup xs.reverse))):=by
 intro pins s σ H Q I h;refine Call_ (gJ I Q6 Q7 vH (PyProof.Rows.callWith_type1 ?_ hs2 rfl));rw[hs2];show wpAny _ _ (spliced ((false,eval (.Call (.Name "reversed" p) [a] [] pos) X.env)::[])) _ _ _;refine Calls.spliced_cons (Call_ (gJ I hg hm jh (PyProof.Rows.callWith_type1 (bZ ((cz ha dR hs) pos pins s σ H (fun vs H1=>match vs with|[x]=>∃ad xs,x=.ref ad/\dq X.K H1 ad xs/\∀l,H1 l=none->Q (.ref l) (upd H1 l (.tup xs.reverse))|_=>False) I h) ?_) hs rfl)));rintro us s1⟨vs,H1,I1,r1,q1⟩;obtain⟨ad,xs,hq,q,vs1⟩:∃ad xs,dq X.K H1 ad xs/\(∀l,H1 l=none->Q (.ref l) (upd H1 l (.tup xs.reverse)))/\vs=[.ref ad]:=by cases vs with|nil=>cases q1|cons x r=>cases r with|nil=>obtain⟨ad,xs,rfl,q,q'⟩:=q1;exact⟨ad,xs,q,q',rfl⟩|cons _ _=>cases q1
 subst vs1;obtain⟨u,rfl,ru⟩:=r1.one;cases ru;obtain⟨its,rv,pl,hz⟩:=I1.list hq;have hsz:its.toArray.size=xs.length:=by rw[size_toArray,<-rv.length]
 refine call_reversed_list pl.isList (Calls.spliced_nil ?_);have hne:ad≠s1.heap.objs.size:=ne_of_lt (let⟨_,ho,_⟩:=pl.isList;lt_size ho);have hl2:(s1.heap.push (revObj ad ((its.toArray.size:Int)-1))).IsList ad its.toArray:=pl.isList.at fun o e=>get?_push_of_some _ e;refine m7 (I1.ok.hd hc) (I:=s1.heap.objs.size) (l:=ad) (items:=its.toArray) ⟨_,get?_push_size _ rfl,rfl,rfl⟩ hl2 hne (by rw[hsz];exact le_trans hz (by decide)) fun h' tk hk hlt=>?_;have hsz2:(s1.heap.push (revObj ad ((its.toArray.size:Int)-1))).objs.size=s1.heap.objs.size+1:=size_push ..;dsimp only at hk hlt ⊢;rw[hsz2]at hlt;have er:its.toArray.reverse=its.reverse.toArray:=by simp
 rw[er];refine⟨.ref h'.objs.size,_,I1.laid (t':=tk) (o:=.tup xs.reverse) (h':=h'.push {cls:=.type "tuple",data:=.seq its.reverse.toArray}) (fun b o e=>get?_push_of_some _ (hk b o (ne_of_lt (lt_size e)) (get?_push_of_some _ e))) (by omega) ?_,rfl,q _ (I1.hok.fresh (by omega))⟩;exact⟨by rw[List.length_reverse];exact hz,_,rv.reverse,IsTup.new _ _⟩
end
end L2
namespace HH
open PySem L2 PySem.Spec PyProof.Rows
section
variable{X:Cx}{c:Call}{a:Expr}{pa:P}{pos:Pos}
theorem xH{x y:Str}{p' q' pos':Pos}(hy:y="tuple")(hx:x="reversed")(hc:X.calm=true)(Q6:Gl X y)(Q7:X.mg y=none)(hg:Gl X x)(hm:X.mg x=none)(ha:SX X c a pa)(hs:starEach [a] X.env=[(false,eval a X.env)]:=by rfl)(hs2:starEach [.Call (.Name x p') [a] [] pos] X.env=[(false,eval (.Call (.Name x p') [a] [] pos) X.env)]:=by rfl):SX X c (.Call (.Name y q') [.Call (.Name x p') [a] [] pos] [] pos') (.blt .Zj [pa]):=by subst hx hy;obtain⟨ta,h1,h2⟩:=ha.cR;refine⟨dZ (wG hc Q6 Q7 hg hm h1 hs hs2) ?_,fun i h=>by cases h⟩;rintro σ H Q⟨F,ρ,r,ρ',g,e,k⟩;rw[HH.E16]at e;obtain⟨d,ρ2,e1,e2⟩:=ak e;have zz:=aD e2;clear e2;obtain⟨e2,e3⟩:=zz;subst e3;cases d with|lst ds=>cases e2;refine h2 g e1 ?_;rintro v F' H' s pv;obtain⟨ad,xs,rfl,hq,rs⟩:=pv.lst s.gs.sub;exact⟨ad,xs,rfl,hq,fun l hl=>yc s.gs.sub (aF.rev rs) hl fun v F2 H2 xt rn=>k v F2 H2 (s.trans (xt.stp s.gs)) (.later s (rn.nF s.gs))⟩|_=>cases e2
end
end HH
end
section
namespace L2
open PySem PySem.Spec PyProof.Rows PySem.Calls
section
variable{X:Cx}
theorem Gb:VH X (VM X.K):=by
 intro pins s σ H x y v u Q I rx ry h;obtain⟨p,xs,i,z,rfl,rfl,hq,he,q⟩:=h;cases rx;obtain⟨t,rfl⟩:=ry;obtain⟨its,r,pl,hz⟩:=I.list hq;obtain⟨j,h1,h2,h3,h4,h5⟩:=tD he;obtain⟨w,ew,vL⟩:=r.get h2;have hl:=r.length;have hn:=pL;have fin:EP X pins σ Q w s:=⟨z,H,I,vL,q⟩;by_cases h0:0<=i
 . have hj:i.toNat=j:=by rw[seqIndex_of h0 h5]at h1;exact Option.some.inj h1
   exact wpAny_getItem_list pl.isList h0 (by omega) (by rw[hj];simpa using ew) fin
 . have hj:(i+(its.toArray.size:Int)).toNat=j:=by rw[seqIndex_neg (by omega) h4]at h1;rw[size_toArray,<-hl];exact Option.some.inj h1
   exact wpAny_getItem_list_neg pl.isList (by omega) (by rw[size_toArray]<;>omega) (by omega) (by rw[hj];simpa using ew) fin
end
end L2
namespace HH
open PySem L2 PySem.Spec PyProof.Rows PySem.Calls PySem.W
section
variable{X:Cx}{c:Call}{n:Nat}{a b e:Expr}{pa pb p:P}{pos:Pos}
set_option maxHeartbeats 800000 in
theorem rW{k e:Int}{t1 t2 p1 p2 p3}:SX X c (.Dict [some (.Constant (.int k) t1 p1)] [.Constant (.int e) t2 p2] p3) (.vO k e):=by
 refine⟨?_,fun i h=>by cases h⟩;intro pins s σ H Q I h;obtain⟨F,ρ,r,ρ',g,e',kk⟩:=h;rw[HH.E26]at e';cases e';have em:mq [] [((Sum.inl k:Key),V.int e)]=ent [k] [.int e]:=rfl;have pe:=Iv (X:=X) (pos:=p3) (Fg (xW (i:=k) (j:=t1) (pos:=p1)) (xW (i:=e) (j:=t2) (pos:=p2)) JD) rfl rfl (by simp) (by simp);refine bZ (pe pins s σ H (fun v H'=>∃q,v=.ref q/\H q=none/\H'=upd H q (yu [k] [.int e])) I ?_) fun u s1⟨v,H1,I1,r1,q,e1,hn,e2⟩=>?_;.intro q hq;refine⟨aV,[(Sum.inl k,.int e)],rfl,by simp,q,rfl,hq,?_⟩;rw[yF,em];rfl
 subst e1 e2;obtain⟨o,I2⟩:=Inv.Ck I1 (a:=q) (kvs:=ent [k] [.int e]) aV;rw[yF]at I2;have fp:F q=none:=by cases z:F q with|none=>rfl|some o=>rw[g.sub q o z]at hn;cases hn
 have sm:aG F (upd F q (.cW o (yu [k] [.int e]))):=aG.dj fp;refine⟨.ref q,_,I2,r1,kk _ (upd F q (.cW o (yu [k] [.int e]))) _ (Ext.stp g ⟨aG.dj hn,sm,fun b o e=>?_,fun b n n'=>?_⟩) ?_⟩
 . by_cases hb:b=q;.subst hb;rw[aV]at e ⊢;exact e
   .rw[aC hb]at e ⊢;exact g.sub b o e
 . by_cases hb:b=q;.subst hb;exact jE hn
   .rw[aC hb]at n';exact absurd n n'
 .show Rep X.K _ _ (.dv [k] [.int e]);rw[Rep];exact⟨q,o,[.int e],rfl,aV,.cons (cj _) .nil,rfl⟩
theorem zc{x:Str}{k:Nat}{px tpos:Pos}{op:Operator}{sub:Bool}(ho:La X op (RV fun i j=>if sub then i-j else i+j))(hN:X.N[k]?=some x)(hv:v8 X.env.scope x)(hi:SX X c b pb)(he:SX X c e p)(ha:∀ov iv new,augStore b ov iv new=(do holding [new,ov,iv] (setItem ov iv new);release [new,ov,iv] [];pure .next):=by intros;rfl)(hd:(x==("__debug__":Str))=false:=by decide)(hcd:(x==("__classdict__":Str))=false:=by decide):SS X c n (.AugAssign (.Subscript (.Name x px) b tpos) op e pos) (.Bu k pb sub p):=by
 obtain⟨ti,hi1,hi2⟩:=hi.cR;obtain⟨te,he1,he2⟩:=he.cR;refine dJ (Hu (gF hN hv hd hcd) hi1 Gb he1 ho set_list ha) ?_;rintro D σ H⟨F,ρ,fl,ρ',g,e,kk⟩;rw[HH.X17]at e;obtain⟨x0,ρ0,e0',eA⟩:=ak e;clear e;obtain⟨e0,Bx⟩:=aD e0';clear e0';subst Bx;obtain⟨dk,ρ1,e1,eB⟩:=ak eA;clear eA;obtain⟨l,ρ2,e2',eC⟩:=ak eB;clear eB;obtain⟨e2,e21⟩:=aD e2';clear e2';subst e21;obtain⟨ra,ρ3,e3',eD⟩:=ak eC;clear eC;obtain⟨e3,e31⟩:=aD e3';clear e3';subst e31;obtain⟨db,ρ4,e4,eE⟩:=ak eD;clear eD;obtain⟨o1,xs1,ho1,_⟩:=yD g e0;refine⟨.ref o1,ho1,hi2 g e1 fun vi F1 H1 s1 pi=>?_⟩;split at eE
 . rename_i u v bb ds kz q;split at eE
   . rename_i j hj;cases eE;obtain⟨i0,f3,f5⟩:=cC e3;have hi0:i0=kz:=by cases f3;rfl
     subst hi0;have e2':pk ρ1 k=some (.lst l):=by
      unfold BV at e2;split at e2;.rename_i z;cases e2;exact z
      .cases e2
     obtain⟨o',ho2,po⟩:=s1.gs.pk e2';rw[ho1]at ho2;cases ho2;obtain⟨ad,xs,hr,hL,rs⟩:=po.lst s1.gs.sub;cases hr;obtain⟨j0,h1,h2⟩:=Fo f5;obtain⟨w,h3,h4⟩:=rs.get h2;have hat:Dd xs i0=some w:=by unfold Dd;rw[rs.length,h1];exact h3
     have hw:w=.int u:=by rw[Rep]at h4;exact h4
     subst hw;refine⟨o1,xs,i0,.int u,rfl,pi.int,hL,hat,he2 s1.gs e4 fun vb F2 H2 s2 pb=>⟨u,v,rfl,pb.int,?_⟩⟩;obtain⟨ad2,zs,z1,z2,z3,z4⟩:=s2.gs.kh k _ ds q rfl;rw[ho1]at z1;cases z1;refine⟨o1,zs,i0,j,rfl,pi.int,z2,by rw[z4.length];exact hj,?_⟩;exact kk F2 σ _ ((s1.trans s2).trans (s2.gs.mut q ho1 (z4.set (cj _) j)))
   .cases eE
 .cases eE
end
section
variable{X:Cx}{c:Call}{n:Nat}{a b e:Expr}{pa pb p:P}{pos:Pos}
theorem Hr{neg:Bool}{o:Op}{op:CmpOp}(hop:(op=.In/\neg=false)\/(op=.NotIn/\neg=true))(hq:qm o=uM neg)(hu:X.A.units+8<cLine)(ha:SX X c a pa)(hb:SX X c b pb)(hm:behindInMarks op b=false):ST X c (.Compare a [op] [b] pos) (.bin o pa pb):=by obtain⟨ta,tb,h1,h2,h3⟩:=ha.ig hb;refine qW (zG (Jq hop hu) h1 h2 hm) fun σ H Q q=>jZ (t:=Qt (rD X.K (uM neg)) ta tb) (fun Q z=>?_) q;obtain⟨F,ρ,r,ρ',g,e,k⟩:=z;rw[HH.E3]at e;obtain⟨xy,ρ1,e1,e2⟩:=ak e;have zz:=aD e2;clear e2;obtain⟨e2,e3⟩:=zz;subst e3;rw[hq]at e2;refine h3 g e1 fun v u F' H' s pv pu=>⟨F',xy.1,xy.2,r,s.gs.sub,pv,pu,e2,fun w F2 H2 x rn=>?_⟩;exact k w F2 H2 (s.trans (x.stp s.gs)) (.later s (rn.nF s.gs))
theorem Qq(hu:X.A.units+8<cLine)(ha:SX X c a pa)(hb:SX X c b pb)(hm:behindInMarks .In b=false):ST X c (.Compare a [.In] [b] pos) (.bin .Zi pa pb):=Hr (.inl ⟨rfl,rfl⟩) rfl hu ha hb hm
theorem Qs{i:Nat}{x:Str}{px:Pos}{pk:P}{neg:Bool}{op:CmpOp}(hop:(op=.In/\neg=false)\/(op=.NotIn/\neg=true))(hu:X.A.units+8<cLine)(hN:X.N[i]?=some x)(hv:v8 X.env.scope x)(ha:SX X c a pk)(hb:behindInMarks op (.Name x px)=false)(hd:(x==("__debug__":Str))=false:=by decide)(hcd:(x==("__classdict__":Str))=false:=by decide):ST X c (.Compare a [op] [.Name x px] pos) (.LQ i pk neg):=qW (Qk (Ob hop hu hN hv ha hd hcd) hb) fun σ H Q q=>jZ (fun _ z=>z) q
end
end HH
end
section
set_option maxHeartbeats 4000000
namespace T
open PySem L2 PySem.Spec PyProof.Rows HH
local macro_rules|`(term|nofun)=>`(⟨rfl,rfl,rfl,by decide+kernel,rfl,by decide+kernel,by decide+kernel⟩)
local macro_rules|`(tactic|exists$e)=>`(tactic|with_reducible refine$e)
local macro_rules|`(tactic|lia)=>`(tactic|with_reducible refine aQ ?_ ?_)
set_option hygiene false
local macro_rules|`(tactic|exists$i,$e)=>`(tactic|((with_reducible refine eZ (i:=$i) ?_ ?_ ?_ ?_ ?_ ?_);exact nd;exact rfl;exact oi;rotate_left;rfl;exact oi;exact$e))
local macro_rules|`(tactic|exists$i,$e,0)=>`(tactic|((with_reducible refine Im (i:=$i) ?_ ?_ ?_ ?_ ?_ ?_ ?_ ?_ ?_);exact PassesOwn.never;exact hc;exact nd;exact rfl;exact oi;exact$e;rotate_left;(· intro _;rfl);exact oi))
local macro_rules|`(tactic|exists$a,$b,0,0)=>`(tactic|(refine Uw $a $b rfl rfl fun cdv A outer s H E hr=>?_;have nd:=($b).nd))
local macro_rules|`(tactic|exists(),$e)=>`(tactic|((with_reducible refine Qd ?_);exact$e))
set_option hygiene true
local macro_rules|`(term|‹$l›)=>`((show(($l):List Str).Nodup by decide+kernel))
theorem hc:true=true:=rfl
theorem oi{α:Type}{a:α}{p:Prop}:a=a\/p:=.inl rfl
theorem bf{X:Cx}{c:Call}{a:Expr}{es:List Expr}{pa:P}{ps:List P}(ha:SX X c a pa)(hr:SG X c es ps)(h:nst a=true):SG X c (a::es) (pa::ps):=Jp ha hr (il h)
theorem di{X:Cx}{c:Call}{a:Expr}{es:List Expr}{pa:P}{ps:List P}(ha:SX X c a pa)(hr:SA X c es ps)(h:nst a=true):SA X c (a::es) (pa::ps):=yQ ha hr (il h)
variable{Pg:Program}{w:World}{K:PySem.W.Frag}{mg:Str->Option Value}{base:Heap}{f:Addr}{fd:FuncData}{k n:Nat}{c:Call}{cl:Nat->Addr}
noncomputable def top(i:Nat):Stmt:=PySem.Challenge.pw_hourhaul_k26_streams_parted_into_rounds.main.body.getD i (.Pass ⟨0,0,0,0⟩)
noncomputable abbrev s0:=top 4
noncomputable def b0:List S:=[.ret (.comp (.Tt (.idx (.var 0) (.con (.int 1)))) 2 [2,3] false (some (.cmp .eq (.idx (.var 3) (.con (.int 0))) (.var 1))) (.var 2))]
noncomputable def f0:Fd:=⟨2,2,b0⟩
theorem sc0:aL ["net","place"] ["net","place"] (az s0):=nofun
include cl in
theorem d0(Fu:gB K "ways_out" "ways_out" s0 f fd)(dF:mg "enumerate"=none):bW Pg w K mg base fZ (k+1) f fd ["net","place"] (gw K 2 (fun args=>enter c n f0 args)):=by
 exists Fu,sc0,0,0;refine aQ ?_ ?_;.exists(),cN (N':=["net","place","number","way"]) hc (rK rfl (by rfl)) (CP rfl (by rfl) dF (ao (sv 0) aa)) (fun _ _ _ _ _=>ik hc (bA (aN (i:=2) ‹["net","place","number","way"]› rfl (Or.inl rfl) (Or.inr rfl)) (bA (aN (i:=3) ‹["net","place","number","way"]› rfl (Or.inl rfl) (Or.inr rfl)) fu))) (nY rfl (eG (show 2<=2 by decide) (eG (show 2<=3 by decide) n6))) (fun _ _ _ _ _=>lF (aX (dG (aY hr)) (ao (sv 3) aa) (sv 1) (aU _))) (fun _ _ _ _ _=>(sv 2))
 exact aq
noncomputable abbrev s1:=top 5
noncomputable def b1:List S:=[.ret (.comp (.Tt (.idx (.var 0) (.con (.int 1)))) 2 [2,3] false (some (.cmp .eq (.idx (.var 3) (.con (.int 1))) (.var 1))) (.var 2))]
noncomputable def f1:Fd:=⟨2,2,b1⟩
theorem sc1:aL ["net","place"] ["net","place"] (az s1):=nofun
include cl in
theorem d1(Fu:gB K "ways_in" "ways_in" s1 f fd)(dF:mg "enumerate"=none):bW Pg w K mg base fZ (k+1) f fd ["net","place"] (gw K 2 (fun args=>enter c n f1 args)):=by
 exists Fu,sc1,0,0;refine aQ ?_ ?_;.exists(),cN (N':=["net","place","number","way"]) hc (rK rfl (by rfl)) (CP rfl (by rfl) dF (ao (sv 0) aa)) (fun _ _ _ _ _=>ik hc (bA (aN (i:=2) ‹["net","place","number","way"]› rfl (Or.inl rfl) (Or.inr rfl)) (bA (aN (i:=3) ‹["net","place","number","way"]› rfl (Or.inl rfl) (Or.inr rfl)) fu))) (nY rfl (eG (show 2<=2 by decide) (eG (show 2<=3 by decide) n6))) (fun _ _ _ _ _=>lF (aX (dG (aY hr)) (ao (sv 3) aa) (sv 1) (aU _))) (fun _ _ _ _ _=>(sv 2))
 exact aq
noncomputable abbrev s2:=top 6
noncomputable def b2:List S:=[.asg 1 (.bin .sub (.idx (.var 0) (.con (.int 0))) (.con (.int 1))),.asg 2 (.comp (.idx (.var 0) (.con (.int 1))) 1 [3] true none (.tup [.bin .sub (.var 1) (.idx (.var 3) (.con (.int 1))),.bin .sub (.var 1) (.idx (.var 3) (.con (.int 0))),.idx (.var 3) (.con (.int 2)),.idx (.var 3) (.con (.int 3))])),.ret (.tup [.idx (.var 0) (.con (.int 0)),.blt .tuple [.var 2]])]
noncomputable def f2:Fd:=⟨1,3,b2⟩
theorem sc2:aL ["net","end","ways"] ["net"] (az s2):=nofun
include cl in
theorem d2(Fu:gB K "turned_net" "turned_net" s2 f fd)(bz:mg "tuple"=none):bW Pg w K mg base fZ (k+1) f fd ["net"] (gw K 1 (fun args=>enter c n f2 args)):=by
 exists Fu,sc2,0,0;refine aQ ?_ ?_;.exists eZ (i:=1) ?_ ?_ ?_ ?_ ?_ ?_;exact nd;exact rfl;exact Or.inr rfl;rotate_left;rfl;exact oi;exact aA bT (ao (sv 0) aa) aa
 lia;.exact(sH (i:=2) (N':=["net","end","ways","way"]) hc nd rfl oi (rK rfl (by rfl)) (bQ (ao (sv 0) aa)) (fun _ _ _ _ _=>aN (i:=3) ‹["net","end","ways","way"]› rfl (Or.inl rfl) (Or.inr rfl)) (bY (le_refl _)) (fun _ _ _ _ _=>cP) (fun _ _ _ _ _=>(cA (di (aA bT (sv 1) (ao (sv 3) aa)) (di (aA bT (sv 1) (ao (sv 3) aa)) (di (ao (sv 3) aa) (di (ao (sv 3) aa) aR rfl) rfl) rfl) rfl))) (by rfl) (by intro _;rfl) (Or.inl rfl))
 lia;.exists(),cA (di (ao (sv 0) aa) (di (gP rfl (by rfl) bz (sv 2)) aR rfl) rfl)
 exact aq
noncomputable abbrev s3:=top 8
noncomputable def b3:List S:=[.asg 2 (.bin .mul (.lst [.con .non]) (.idx (.var 0) (.con (.int 0)))),.p7 2 (.var 1) (.con (.int 0)),.asg 3 (.con (.bl true)),.whl (.var 3) [.asg 3 (.con (.bl false)),.fJ (.idx (.var 0) (.con (.int 1))) [4] true [.ifs (.and (.cmp .gt (.idx (.var 4) (.con (.int 2))) (.con (.int 0))) (.cmp .Bt (.idx (.var 2) (.idx (.var 4) (.con (.int 0)))) (.con .non))) [.asg 5 (.bin .add (.idx (.var 2) (.idx (.var 4) (.con (.int 0)))) (.idx (.var 4) (.con (.int 3)))),.ifs (.or (.cmp .Wx (.idx (.var 2) (.idx (.var 4) (.con (.int 1)))) (.con .non)) (.cmp .lt (.var 5) (.idx (.var 2) (.idx (.var 4) (.con (.int 1)))))) [.p7 2 (.idx (.var 4) (.con (.int 1))) (.var 5),.asg 3 (.con (.bl true))] []] []]],.ret (.var 2)]
noncomputable def f3:Fd:=⟨2,6,b3⟩
theorem sc3:aL ["net","start","hours","changed","way","come"] ["net","start"] (az s3):=nofun
include cl in
theorem d3(Fu:gB K "hours_from" "hours_from" s3 f fd):bW Pg w K mg base fZ (k+1) f fd ["net","start"] (gw K 2 (fun args=>enter c n f3 args)):=by
 exists Fu,sc3,0,0;refine aQ ?_ ?_;.exists 2,aA fB (cg (di j4 aR rfl)) (ao (sv 0) aa)
 lia;.exact(gj (k:=2) rfl (by first|exact Or.inl rfl|exact Or.inr (Or.inl rfl)) (sv 1) aa)
 lia;.exists 3,eV
 lia;.exact(lW PassesOwn.never (cZ (sv 3)) (by lia;(· exists 3,eV);(· lia;(· exists 4,bQ (ao (sv 0) aa),0;(· lia;(· exists cM ?_ ?_ ?_;exact SW.st (Cr (aX iC (ao (sv 4) aa) aa (aU _)) (zE (aX sG (ao (sv 2) (ao (sv 4) aa)) j4 (aU _))));(· lia;(· exists 5,aA bh (ao (sv 2) (ao (sv 4) aa)) (ao (sv 4) aa));(· lia;(· exists cM ?_ ?_ ?_;exact SW.st (iD (aX Dp (ao (sv 2) (ao (sv 4) aa)) j4 (aU _)) (ir (aX (pJ (aY hr)) (sv 5) (ao (sv 2) (ao (sv 4) aa)) (aU _))));(· lia;exact gj (k:=2) rfl (by first|exact Or.inl rfl|exact Or.inr (Or.inl rfl)) (ao (sv 4) aa) (sv 5);(· lia;(· exists 3,eV);exact aq));exact aq);exact aq));exact aq);exact aq));exact aq)))
 lia;.exists(),sv 2
 exact aq
noncomputable abbrev s4:=top 9
noncomputable def b4:List S:=[.ret (.blt .J7 [.call 3 [.call 2 [.var 0],.bin .sub (.bin .sub (.idx (.var 0) (.con (.int 0))) (.con (.int 1))) (.var 1)]])]
noncomputable def f4:Fd:=⟨2,2,b4⟩
theorem sc4:aL ["net","place"] ["net","place"] (az s4):=nofun
include cl in
theorem d4(Fu:gB K "hours_to" "hours_to" s4 f fd)(cG:mg "list"=none)(dU:mg "reversed"=none)(ud:au Pg w K mg base k c 3 "hours_from" 2)(ue:au Pg w K mg base k c 2 "turned_net" 1):bW Pg w K mg base fZ (k+1) f fd ["net","place"] (gw K 2 (fun args=>enter c n f4 args)):=by
 exists Fu,sc4,0,0;refine aQ ?_ ?_;.exists(),wF rfl rfl hc (by rfl) cG (by rfl) dU (dh ud hr (bf (dh ue hr (bf (sv 0) aB rfl)) (bf (aA bT (aA bT (ao (sv 0) aa) aa) (sv 1)) aB rfl) rfl))
 exact aq
noncomputable abbrev s5:=top 10
noncomputable def b5:List S:=[.ret (.and (.cmp .gt (.idx (.var 0) (.con (.int 2))) (.con (.int 0))) (.and (.cmp .Bt (.idx (.var 1) (.idx (.var 0) (.con (.int 1)))) (.con .non)) (.cmp .eq (.bin .add (.idx (.var 0) (.con (.int 3))) (.idx (.var 1) (.idx (.var 0) (.con (.int 1))))) (.idx (.var 1) (.idx (.var 0) (.con (.int 0)))))))]
noncomputable def f5:Fd:=⟨2,2,b5⟩
theorem sc5:aL ["way","left"] ["way","left"] (az s5):=nofun
include cl in
theorem d5(Fu:gB K "is_soonest_step" "is_soonest_step" s5 f fd):bW Pg w K mg base fZ (k+1) f fd ["way","left"] (gw K 2 (fun args=>enter c n f5 args)):=by
 exists Fu,sc5,0,0;refine aQ ?_ ?_;.exists(),wR (jR iC (ao (sv 0) aa) aa (aU _)) (wR (jR sG (ao (sv 1) (ao (sv 0) aa)) j4 (aU _)) (zp (jR (dG (aY hr)) (aA bh (ao (sv 0) aa) (ao (sv 1) (ao (sv 0) aa))) (ao (sv 1) (ao (sv 0) aa)) (aU _)))).ev
 exact aq
noncomputable abbrev s6:=top 11
noncomputable def b6:List S:=[.ifs (.not (.chain .le .lt (.con (.int 0)) (.var 1) (.idx (.var 0) (.con (.int 0))))) [.bad] [],.asg 2 (.call 4 [.var 0,.var 1]),.ifs (.cmp .Wx (.idx (.var 2) (.con (.int 0))) (.con .non)) [.bad] [],.asg 3 (.lst []),.asg 4 (.con (.int 0)),.whl (.cmp .ne (.var 4) (.var 1)) [.asg 5 (.blt .vN [.comp (.call 0 [.var 0,.var 4]) 1 [6] true (some (.call 5 [.idx (.idx (.var 0) (.con (.int 1))) (.var 6),.var 2])) (.var 6)]),.app 3 (.var 5),.asg 4 (.idx (.idx (.idx (.var 0) (.con (.int 1))) (.var 5)) (.con (.int 1)))],.ret (.blt .tuple [.var 3])]
noncomputable def f6:Fd:=⟨2,6,b6⟩
theorem sc6:aL ["net","place","left","walk","here","step"] ["net","place"] (az s6):=nofun
include cl in
theorem d6(Fu:gB K "soonest_walk" "soonest_walk" s6 f fd)(iK:mg "min"=none)(bz:mg "tuple"=none)(yj:au Pg w K mg base k c 4 "hours_to" 2)(lJ:au Pg w K mg base k c 5 "is_soonest_step" 2)(j7:au Pg w K mg base k c 0 "ways_out" 2):bW Pg w K mg base fZ (k+1) f fd ["net","place"] (gw K 2 (fun args=>enter c n f6 args)):=by
 exists Fu,sc6,0,0;refine aQ ?_ ?_;.exists cM ?_ ?_ ?_;exact fY (Cq xK (pJ (aY hr)) aa (sv 1) (ao (sv 0) aa));(· lia;exact Cy;exact aq);exact aq
 lia;.exists eZ (i:=2) ?_ ?_ ?_ ?_ ?_ ?_;exact nd;exact rfl;exact Or.inr rfl;rotate_left;rfl;exact oi;exact dh yj hr (bf (sv 0) (bf (sv 1) aB rfl) rfl)
 lia;.exists cM ?_ ?_ ?_;exact aX Dp (ao (sv 2) aa) j4 (aU _);(· lia;exact Cy;exact aq);exact aq
 lia;.exists 3,cg aR
 lia;.exists 4,aa
 lia;.exact(lW PassesOwn.never (aX (my (aY hr)) (sv 4) (sv 1) (aU _)) (by lia;(· exists 5,nP rfl hc (by rfl) iK (cN (N':=["net","place","left","walk","here","step","number"]) hc (rK rfl (by rfl)) (bQ (dh j7 hr (bf (sv 0) (bf (sv 4) aB rfl) rfl))) (fun _ _ _ _ _=>aN (i:=6) ‹["net","place","left","walk","here","step","number"]› rfl (Or.inl rfl) (Or.inr rfl)) (bY (le_refl _)) (fun _ _ _ _ _=>lF (cZ (dh lJ hr (bf (ao (ao (sv 0) aa) (sv 6)) (bf (sv 2) aB rfl) rfl)))) (fun _ _ _ _ _=>(sv 6))));(· lia;exact cI (k:=3) rfl (by first|exact Or.inl rfl|exact Or.inr (Or.inl rfl)) (sv 5);(· lia;(· exists 4,ao (ao (ao (sv 0) aa) (sv 5)) aa);exact aq))))
 lia;.exists(),gP rfl (by rfl) bz (sv 3)
 exact aq
noncomputable abbrev s7:=top 13
noncomputable def b7:List S:=[.asg 3 (.blt .sum [.comp (.call 1 [.var 0,.var 2]) 1 [4] true none (.idx (.var 1) (.var 4))]),.ret (.bin .sub (.var 3) (.blt .sum [.comp (.call 0 [.var 0,.var 2]) 1 [4] true none (.idx (.var 1) (.var 4))]))]
noncomputable def f7:Fd:=⟨3,4,b7⟩
theorem sc7:aL ["net","stream","place","come"] ["net","stream","place"] (az s7):=nofun
include cl in
theorem d7(Fu:gB K "stays_at" "stays_at" s7 f fd)(p8:mg "sum"=none)(BJ:au Pg w K mg base k c 1 "ways_in" 2)(j7:au Pg w K mg base k c 0 "ways_out" 2):bW Pg w K mg base fZ (k+1) f fd ["net","stream","place"] (gw K 3 (fun args=>enter c n f7 args)):=by
 exists Fu,sc7,0,0;refine aQ ?_ ?_;.exists 3,vZ rfl hc (by rfl) p8 (cN (N':=["net","stream","place","come","number"]) hc (rK rfl (by rfl)) (bQ (dh BJ hr (bf (sv 0) (bf (sv 2) aB rfl) rfl))) (fun _ _ _ _ _=>aN (i:=4) ‹["net","stream","place","come","number"]› rfl (Or.inl rfl) (Or.inr rfl)) (bY (le_refl _)) (fun _ _ _ _ _=>cP) (fun _ _ _ _ _=>(ao (sv 1) (sv 4))))
 lia;.exists(),aA bT (sv 3) (vZ rfl hc (by rfl) p8 (cN (N':=["net","stream","place","come","number"]) hc (rK rfl (by rfl)) (bQ (dh j7 hr (bf (sv 0) (bf (sv 2) aB rfl) rfl))) (fun _ _ _ _ _=>aN (i:=4) ‹["net","stream","place","come","number"]› rfl (Or.inl rfl) (Or.inr rfl)) (bY (le_refl _)) (fun _ _ _ _ _=>cP) (fun _ _ _ _ _=>(ao (sv 1) (sv 4)))))
 exact aq
noncomputable abbrev s8:=top 14
noncomputable def b8:List S:=[.ret (.neg (.call 7 [.var 0,.var 1,.con (.int 0)]))]
noncomputable def f8:Fd:=⟨2,2,b8⟩
theorem sc8:aL ["net","stream"] ["net","stream"] (az s8):=nofun
include cl in
theorem d8(Fu:gB K "stream_rate" "stream_rate" s8 f fd)(yl:au Pg w K mg base k c 7 "stays_at" 3):bW Pg w K mg base fZ (k+1) f fd ["net","stream"] (gw K 2 (fun args=>enter c n f8 args)):=by
 exists Fu,sc8,0,0;refine aQ ?_ ?_;.exists(),mG (dh yl hr (bf (sv 0) (bf (sv 1) (bf aa aB rfl) rfl) rfl))
 exact aq
noncomputable abbrev s9:=top 15
noncomputable def b9:List S:=[.asg 2 (.vP 1 (.idx (.var 0) (.con (.int 1))) 2 [3,4] false none (.tup [.idx (.var 3) (.con (.int 0)),.idx (.var 3) (.con (.int 1)),.var 4,.idx (.var 3) (.con (.int 3))])),.ret (.tup [.idx (.var 0) (.con (.int 0)),.blt .tuple [.var 2]])]
noncomputable def f9:Fd:=⟨2,3,b9⟩
theorem sc9:aL ["net","rooms","ways"] ["net","rooms"] (az s9):=nofun
include cl in
theorem d9(Fu:gB K "with_rooms" "with_rooms" s9 f fd)(bz:mg "tuple"=none)(GR:mg "zip"=none):bW Pg w K mg base fZ (k+1) f fd ["net","rooms"] (gw K 2 (fun args=>enter c n f9 args)):=by
 exists Fu,sc9,0,0;refine aQ ?_ ?_;.exact(HW (i:=2) (N':=["net","rooms","ways","way","room"]) hc nd rfl oi (rK rfl (by rfl)) (Ip (i:=1) rfl (by rfl) GR rfl (ao (sv 0) aa) (sv 1)) (fun _ _ _ _ _=>ik hc (bA (aN (i:=3) ‹["net","rooms","ways","way","room"]› rfl (Or.inl rfl) (Or.inr rfl)) (bA (aN (i:=4) ‹["net","rooms","ways","way","room"]› rfl (Or.inl rfl) (Or.inr rfl)) fu))) (nY rfl (eG (show 3<=3 by decide) (eG (show 3<=4 by decide) n6))) (fun _ _ _ _ _=>cP) (fun _ _ _ _ _=>(cA (di (ao (sv 3) aa) (di (ao (sv 3) aa) (di (sv 4) (di (ao (sv 3) aa) aR rfl) rfl) rfl) rfl))) (by rfl) (by intro _;rfl) (Or.inl rfl))
 lia;.exists(),cA (di (ao (sv 0) aa) (di (gP rfl (by rfl) bz (sv 2)) aR rfl) rfl)
 exact aq
noncomputable abbrev jy:=top 16
noncomputable def b10:List S:=[.asg 2 (.blt .list [.var 1]),.asg 3 (.call 8 [.var 0,.var 1]),.asg 4 (.lst []),.whl (.cmp .gt (.var 3) (.con (.int 0))) [.asg 5 (.call 6 [.call 9 [.var 0,.var 2],.bin .sub (.idx (.var 0) (.con (.int 0))) (.con (.int 1))]),.asg 6 (.blt .vN [.bin .add (.lst [.var 3]) (.comp (.var 5) 1 [8] true none (.idx (.var 2) (.var 8)))]),.fJ (.var 5) [7] true [.Bu 2 (.var 7) true (.var 6)],.aug 3 true (.var 6),.app 4 (.tup [.var 5,.var 6])],.ret (.var 4)]
noncomputable def Yp:Fd:=⟨2,8,b10⟩
theorem aaD:aL ["net","stream","left","rate","rounds","walk","loads","number"] ["net","stream"] (az jy):=nofun
include cl in
theorem d10(Fu:gB K "stream_rounds" "stream_rounds" jy f fd)(cG:mg "list"=none)(iK:mg "min"=none)(qd:au Pg w K mg base k c 6 "soonest_walk" 2)(gK:au Pg w K mg base k c 8 "stream_rate" 2)(uf:au Pg w K mg base k c 9 "with_rooms" 2):bW Pg w K mg base fZ (k+1) f fd ["net","stream"] (gw K 2 (fun args=>enter c n Yp args)):=by
 exists Fu,aaD,0,0;refine aQ ?_ ?_;.exists eZ (i:=2) ?_ ?_ ?_ ?_ ?_ ?_;exact nd;exact rfl;exact Or.inr rfl;rotate_left;rfl;exact oi;exact oE rfl (by rfl) cG (sv 1)
 lia;.exists 3,dh gK hr (bf (sv 0) (bf (sv 1) aB rfl) rfl)
 lia;.exists 4,cg aR
 lia;.exact(lW PassesOwn.never (aX iC (sv 3) aa (aU _)) (by lia;(· exists 5,dh qd hr (bf (dh uf hr (bf (sv 0) (bf (sv 2) aB rfl) rfl)) (bf (aA bT (ao (sv 0) aa) aa) aB rfl) rfl));(· lia;(· exists 6,nP rfl hc (by rfl) iK (aA bh (cg (di (sv 3) aR rfl)) (cN (N':=["net","stream","left","rate","rounds","walk","loads","number#7","number"]) hc (rK rfl (by rfl)) (bQ (sv 5)) (fun _ _ _ _ _=>aN (i:=8) ‹["net","stream","left","rate","rounds","walk","loads","number#7","number"]› rfl (Or.inl rfl) (Or.inr rfl)) (bY (le_refl _)) (fun _ _ _ _ _=>cP) (fun _ _ _ _ _=>(ao (sv 2) (sv 8))))));(· lia;(· exists 7,bQ (sv 5),0;(· lia;exact zc (k:=2) (sub:=true) zx rfl (by first|exact Or.inl rfl|exact Or.inr (Or.inl rfl)) (sv 7) (sv 6);exact aq));(· lia;exact Ph (i:=3) (sub:=true) zx nd rfl oi (sv 6) (Or.inl rfl);(· lia;exact cI (k:=4) rfl (by first|exact Or.inl rfl|exact Or.inr (Or.inl rfl)) (cA (di (sv 5) (di (sv 6) aR rfl) rfl));exact aq))))))
 lia;.exists(),sv 4
 exact aq
noncomputable abbrev Xz:=top 18
noncomputable def b11:List S:=[.asg 2 (.idx (.idx (.var 0) (.con (.int 1))) (.idx (.var 1) (.con (.int 0)))),.ret (.LC (.idx (.var 1) (.con (.int 1))) (.tup [.idx (.var 2) (.con (.int 0)),.idx (.var 2) (.con (.int 1))]) (.tup [.idx (.var 2) (.con (.int 1)),.idx (.var 2) (.con (.int 0))]))]
noncomputable def f11:Fd:=⟨2,3,b11⟩
theorem abJ:aL ["net","step","way"] ["net","step"] (az Xz):=nofun
include cl in
theorem d11(Fu:gB K "step_places" "step_places" Xz f fd):bW Pg w K mg base fZ (k+1) f fd ["net","step"] (gw K 2 (fun args=>enter c n f11 args)):=by
 exists Fu,abJ,0,0;refine aQ ?_ ?_;.exists 2,ao (ao (sv 0) aa) (ao (sv 1) aa)
 lia;.exists(),tM (cZ (ao (sv 1) aa)) (cA (di (ao (sv 2) aa) (di (ao (sv 2) aa) aR rfl) rfl)) (cA (di (ao (sv 2) aa) (di (ao (sv 2) aa) aR rfl) rfl))
 exact aq
noncomputable abbrev s12:=top 19
noncomputable def b12:List S:=[.asg 2 (.idx (.idx (.idx (.var 0) (.con (.int 1))) (.idx (.var 1) (.con (.int 0)))) (.con (.int 3))),.ret (.LC (.idx (.var 1) (.con (.int 1))) (.var 2) (.neg (.var 2)))]
noncomputable def YT:Fd:=⟨2,3,b12⟩
theorem aag:aL ["net","step","hours"] ["net","step"] (az s12):=nofun
include cl in
theorem d12(Fu:gB K "step_hours" "step_hours" s12 f fd):bW Pg w K mg base fZ (k+1) f fd ["net","step"] (gw K 2 (fun args=>enter c n YT args)):=by
 exists Fu,aag,0,0;refine aQ ?_ ?_;.exists 2,ao (ao (ao (sv 0) aa) (ao (sv 1) aa)) aa
 lia;.exists(),tM (cZ (ao (sv 1) aa)) (sv 2) (mG (sv 2))
 exact aq
noncomputable abbrev s13:=top 20
noncomputable def b13:List S:=[.asg 3 (.idx (.var 1) (.idx (.var 2) (.con (.int 0)))),.ret (.LC (.idx (.var 2) (.con (.int 1))) (.bin .sub (.idx (.idx (.idx (.var 0) (.con (.int 1))) (.idx (.var 2) (.con (.int 0)))) (.con (.int 2))) (.var 3)) (.var 3))]
noncomputable def Yh:Fd:=⟨3,4,b13⟩
theorem aca:aL ["net","stream","step","loads"] ["net","stream","step"] (az s13):=nofun
include cl in
theorem d13(Fu:gB K "step_room" "step_room" s13 f fd):bW Pg w K mg base fZ (k+1) f fd ["net","stream","step"] (gw K 3 (fun args=>enter c n Yh args)):=by
 exists Fu,aca,0,0;refine aQ ?_ ?_;.exists 3,ao (sv 1) (ao (sv 2) aa)
 lia;.exists(),tM (cZ (ao (sv 2) aa)) (aA bT (ao (ao (ao (sv 0) aa) (ao (sv 2) aa)) aa) (sv 3)) (sv 3)
 exact aq
noncomputable abbrev s14:=top 21
noncomputable def b14:List S:=[.GF 2 (.tZ (.con (.int 0)) (.idx (.var 0) (.con (.int 0)))) 1 [5] true (.lst []),.Bv (.tZ (.con (.int 0)) (.blt .len [.idx (.var 0) (.con (.int 1))])) [3] true [.Bv (.tup [.tup [.var 3,.con (.bl true)],.tup [.var 3,.con (.bl false)]]) [4] true [.ifs (.cmp .gt (.call 13 [.var 0,.var 1,.var 4]) (.con (.int 0))) [.GJ 2 (.idx (.call 11 [.var 0,.var 4]) (.con (.int 0))) (.var 4)] []]],.cW 2,.ret (.var 2)]
noncomputable def Y8:Fd:=⟨2,5,b14⟩
theorem aaR:aL ["net","stream","steps","number","step"] ["net","stream"] (az s14):=nofun
include cl in
theorem d14(Fu:gB K "open_steps" "open_steps" s14 f fd)(bG:mg "len"=none)(bu:mg "range"=none)(dw:au Pg w K mg base k c 11 "step_places" 2)(jw:au Pg w K mg base k c 13 "step_room" 3):bW Pg w K mg base fZ (k+1) f fd ["net","stream"] (gw K 2 (fun args=>enter c n Y8 args)):=by exists Fu,aaR,0,0;exact(by(refine Hg (i:=2) (N':=["net","stream","steps","number","step","place"]) (g:=iT 5) ?_ ?_ ?_ ?_ ?_ ?_ ?_ ?_ ?_ ?_ ?_ ?_ ?_ ?_);exact hc;exact nd;exact rfl;exact oi;exact rK rfl (by rfl);exact fC rfl (by rfl) bu (ao (sv 0) aa);exact(fun _ _ _ _ _=>aN (i:=5) ‹["net","stream","steps","number","step","place"]› rfl (Or.inl rfl) (Or.inr rfl));exact bY (le_refl _);exact(fun _ _ _ _ _=>cP);exact(fun _ _ _ _ _=>(cg aR));(· exists Ft ?_ ?_;(· exists yX (g:=iT 3) ?_ ?_ ?_ ?_ ?_ ?_ ?_;exact PassesOwn.never;exact hc;(· exists DG ?_ ?_ ?_ ?_ ?_;exact rfl;rfl;exact bu;exact dC rfl (by rfl) bG (ao (sv 0) aa);rfl);exact aN (i:=3) nd rfl oi oi;(· rw[lR];exact tR 3);(· exists oR ?_ ?_;(· exists yX (g:=iT 4) ?_ ?_ ?_ ?_ ?_ ?_ ?_;exact PassesOwn.never;exact hc;exact Jt (cA (di (cA (di (sv 3) (di eV aR rfl) rfl)) (di (cA (di (sv 3) (di eV aR rfl) rfl)) aR rfl) rfl));exact aN (i:=4) nd rfl oi oi;(· rw[lR];exact tR 4);(· exists oR ?_ ?_;(· exists Nr ?_ ?_ ?_;exact aX iC (dh jw hr (bf (sv 0) (bf (sv 1) (bf (sv 4) aB rfl) rfl) rfl)) aa (aU _);(· exists oR ?_ ?_;(· exists De (k:=2) ?_ ?_ ?_ ?_ ?_ ?_ ?_ ?_ ?_ ?_ ?_ ?_;exact rfl;(· first|exact Or.inl rfl|exact Or.inr (Or.inl rfl));exact ao (dh dw hr (bf (sv 0) (bf (sv 4) aB rfl) rfl)) aa;exact sv 4;(· intro _ _;rfl);rfl;rfl;rfl;rfl;rfl;rfl;rfl);exact nR);exact nR);exact nR);(· intro _;rfl));exact nR);(· intro _;rfl));(· exists Ht ?_;(· lia;(· exists(),sv 2);exact aq)));rfl;(· intro _;rfl);exact oi)
noncomputable abbrev s15:=top 22
noncomputable def b15:List S:=[.asg 3 (.call 14 [.var 0,.var 1]),.Bw 4,.fJ (.blt .keys [.var 2]) [5] true [.jn 4 (.var 5) (.tup [.bin .Bs (.var 2) (.var 5),.con (.int 0),.con .non])],.asg 6 (.blt .Tr [.var 2]),.whl (.cmp .gt (.blt .len [.var 6]) (.con (.int 0))) [.Bw 7,.fJ (.var 6) [5] true [.fJ (.idx (.var 3) (.var 5)) [8] true [.asg 9 (.idx (.call 11 [.var 0,.var 8]) (.con (.int 1))),.asg 10 (.tup [.bin .add (.idx (.LK 4 (.var 5)) (.con (.int 0))) (.call 12 [.var 0,.var 8]),.bin .add (.idx (.LK 4 (.var 5)) (.con (.int 1))) (.con (.int 1))]),.ifs (.or (.LQ 4 (.var 9) true) (.cmp .lt (.var 10) (.slice (.LK 4 (.var 9)) (.con .non) (.con (.int 2))))) [.jn 4 (.var 9) (.bin .add (.var 10) (.tup [.var 8])),.jn 7 (.var 9) (.con (.bl true))] []]],.asg 6 (.blt .Tr [.vw 7])],.ret (.var 4)]
noncomputable def XR:Fd:=⟨3,11,b15⟩
theorem ab2:aL ["net","stream","begun","steps","come","place","row","changed","step","to","found"] ["net","stream","begun"] (az s15):=nofun
include cl in
theorem d15(Fu:gB K "shortest_come" "shortest_come" s15 f fd)(bG:mg "len"=none)(cG:mg "list"=none)(ug:au Pg w K mg base k c 14 "open_steps" 2)(uh:au Pg w K mg base k c 12 "step_hours" 2)(dw:au Pg w K mg base k c 11 "step_places" 2):bW Pg w K mg base fZ (k+1) f fd ["net","stream","begun"] (gw K 3 (fun args=>enter c n XR args)):=by
 exists Fu,ab2,0,0;refine aQ ?_ ?_;.exists 3,dh ug hr (bf (sv 0) (bf (sv 1) aB rfl) rfl)
 lia;.exact(yI (i:=4) nd rfl oi (by rfl) (Or.inl rfl))
 lia;.exists 5,Iw (sv 2),0;(· lia;exact sW (i:=4) (aY hr) rfl (by first|exact Or.inl rfl|exact Or.inr (Or.inl rfl)) (sv 5) (cA (di (sO (aY hr) (sv 2) (sv 5) (fun _ _=>rfl)) (di aa (di j4 aR rfl) rfl) rfl)) (by rfl);exact aq)
 lia;.exists 6,CJ rfl hc (by rfl) cG (sv 2)
 lia;.exact(lW PassesOwn.never (aX iC (dC rfl (by rfl) bG (sv 6)) aa (aU _)) (by lia;exact yI (i:=7) nd rfl oi (by rfl) (Or.inl rfl);(· lia;(· exists 5,bQ (sv 6),0;(· lia;(· exists 8,bQ (ao (sv 3) (sv 5)),0;(· lia;(· exists 9,ao (dh dw hr (bf (sv 0) (bf (sv 8) aB rfl) rfl)) aa);(· lia;(· exists 10,cA (di (aA bh (ao (xV (i:=4) (aY hr) rfl (by first|exact Or.inl rfl|exact Or.inr (Or.inl rfl)) (sv 5) (fun _ _=>rfl)) aa) (dh uh hr (bf (sv 0) (bf (sv 8) aB rfl) rfl))) (di (aA bh (ao (xV (i:=4) (aY hr) rfl (by first|exact Or.inl rfl|exact Or.inr (Or.inl rfl)) (sv 5) (fun _ _=>rfl)) aa) aa) aR rfl) rfl));(· lia;(· exists cM ?_ ?_ ?_;exact SW.st (iD (Qs (i:=4) (Or.inr ⟨rfl,rfl⟩) (aY hr) rfl (by first|exact Or.inl rfl|exact Or.inr (Or.inl rfl)) (sv 9) (by with_unfolding_all rfl)) (ir (aX (pJ (aY hr)) (sv 10) (CV (xV (i:=4) (aY hr) rfl (by first|exact Or.inl rfl|exact Or.inr (Or.inl rfl)) (sv 9) (fun _ _=>rfl)) JB (Jy aa)) (aU _))));(· lia;exact sW (i:=4) (aY hr) rfl (by first|exact Or.inl rfl|exact Or.inr (Or.inl rfl)) (sv 9) (aA bh (sv 10) (cA (di (sv 8) aR rfl))) (by rfl);(· lia;exact sW (i:=7) (aY hr) rfl (by first|exact Or.inl rfl|exact Or.inr (Or.inl rfl)) (sv 9) eV (by rfl);exact aq));exact aq);exact aq))));exact aq));(· lia;(· exists 6,CJ rfl hc (by rfl) cG (T4 (i:=7) rfl (by first|exact Or.inl rfl|exact Or.inr (Or.inl rfl))));exact aq))))
 lia;.exists(),sv 4
 exact aq
noncomputable abbrev ZW:=top 23
noncomputable def b16:List S:=[.asg 3 (.lst []),.asg 4 (.var 2),.whl (.cmp .Bt (.idx (.bin .Bs (.var 1) (.var 4)) (.con (.int 2))) (.con .non)) [.asg 5 (.idx (.bin .Bs (.var 1) (.var 4)) (.con (.int 2))),.app 3 (.var 5),.asg 4 (.idx (.call 11 [.var 0,.var 5]) (.con (.int 0)))],.ret (.blt .Zj [.var 3])]
noncomputable def Ym:Fd:=⟨3,6,b16⟩
theorem Z4:aL ["net","come","place","steps","here","step"] ["net","come","place"] (az ZW):=nofun
include cl in
theorem d16(Fu:gB K "steps_to" "steps_to" ZW f fd)(dU:mg "reversed"=none)(bz:mg "tuple"=none)(dw:au Pg w K mg base k c 11 "step_places" 2):bW Pg w K mg base fZ (k+1) f fd ["net","come","place"] (gw K 3 (fun args=>enter c n Ym args)):=by
 exists Fu,Z4,0,0;refine aQ ?_ ?_;.exists 3,cg aR
 lia;.exists 4,sv 2
 lia;.exact(lW PassesOwn.never (aX sG (ao (sO (aY hr) (sv 1) (sv 4) (fun _ _=>rfl)) aa) j4 (aU _)) (by lia;(· exists 5,ao (sO (aY hr) (sv 1) (sv 4) (fun _ _=>rfl)) aa);(· lia;exact cI (k:=3) rfl (by first|exact Or.inl rfl|exact Or.inr (Or.inl rfl)) (sv 5);(· lia;(· exists 4,ao (dh dw hr (bf (sv 0) (bf (sv 5) aB rfl) rfl)) aa);exact aq))))
 lia;.exists(),xH rfl rfl hc (by rfl) bz (by rfl) dU (sv 3)
 exact aq
noncomputable abbrev s17:=top 24
noncomputable def b17:List S:=[.asg 3 (.blt .list [.var 0]),.fJ (.var 1) [4,5] false [.Bu 3 (.var 4) false (.LC (.var 5) (.var 2) (.neg (.var 2)))],.ret (.var 3)]
noncomputable def W7:Fd:=⟨3,6,b17⟩
theorem aaE:aL ["stream","steps","loads","changed","number","forth"] ["stream","steps","loads"] (az s17):=nofun
include cl in
theorem d17(Fu:gB K "stream_with" "stream_with" s17 f fd)(cG:mg "list"=none):bW Pg w K mg base fZ (k+1) f fd ["stream","steps","loads"] (gw K 3 (fun args=>enter c n W7 args)):=by
 exists Fu,aaE,0,0;refine aQ ?_ ?_;.exists 3,oE rfl (by rfl) cG (sv 0)
 lia;.exact(oF PassesOwn.never hc (bQ (sv 1)) (ik hc (bA (aN (i:=4) nd rfl oi oi) (bA (aN (i:=5) nd rfl oi oi) fu))) (pq rfl (dz _ _ (dz _ _ kZ 5) 4)) (by lia;exact zc (k:=3) (sub:=false) JP rfl (by first|exact Or.inl rfl|exact Or.inr (Or.inl rfl)) (sv 4) (tM (cZ (sv 5)) (sv 2) (mG (sv 2)));exact aq))
 lia;.exists(),sv 3
 exact aq
noncomputable abbrev s18:=top 25
noncomputable def b18:List S:=[.asg 1 (.bin .sub (.idx (.var 0) (.con (.int 0))) (.con (.int 1))),.asg 2 (.bin .mul (.lst [.con (.int 0)]) (.blt .len [.idx (.var 0) (.con (.int 1))])),.asg 3 (.lst []),.asg 4 (.call 15 [.var 0,.var 2,.vO 0 0]),.whl (.bin .Zi (.var 1) (.var 4)) [.asg 5 (.call 16 [.var 0,.var 4,.var 1]),.asg 6 (.blt .vN [.comp (.var 5) 1 [7] true none (.call 13 [.var 0,.var 2,.var 7])]),.app 3 (.tup [.var 5,.var 6]),.asg 2 (.call 17 [.var 2,.var 5,.var 6]),.asg 4 (.call 15 [.var 0,.var 2,.vO 0 0])],.ret (.var 3)]
noncomputable def YW:Fd:=⟨1,7,b18⟩
theorem acw:aL ["net","end","stream","chains","come","steps","loads"] ["net"] (az s18):=nofun
include cl in
theorem d18(Fu:gB K "chains_to_end" "chains_to_end" s18 f fd)(bG:mg "len"=none)(iK:mg "min"=none)(dB:au Pg w K mg base k c 15 "shortest_come" 3)(jw:au Pg w K mg base k c 13 "step_room" 3)(ym:au Pg w K mg base k c 16 "steps_to" 3)(gM:au Pg w K mg base k c 17 "stream_with" 3):bW Pg w K mg base fZ (k+1) f fd ["net"] (gw K 1 (fun args=>enter c n YW args)):=by
 exists Fu,acw,0,0;refine aQ ?_ ?_;.exists 1,aA bT (ao (sv 0) aa) aa
 lia;.exists eZ (i:=2) ?_ ?_ ?_ ?_ ?_ ?_;exact nd;exact rfl;exact Or.inr rfl;rotate_left;rfl;exact oi;exact aA fB (cg (di aa aR rfl)) (dC rfl (by rfl) bG (ao (sv 0) aa))
 lia;.exists 3,cg aR
 lia;.exists 4,dh dB hr (bf (sv 0) (bf (sv 2) (bf rW aB rfl) rfl) rfl)
 lia;.exact(lW PassesOwn.never (Qq (aY hr) (sv 1) (sv 4) (by with_unfolding_all rfl)) (by lia;(· exists 5,dh ym hr (bf (sv 0) (bf (sv 4) (bf (sv 1) aB rfl) rfl) rfl));(· lia;(· exists 6,nP rfl hc (by rfl) iK (cN (N':=["net","end","stream","chains","come","steps","loads","step"]) hc (rK rfl (by rfl)) (bQ (sv 5)) (fun _ _ _ _ _=>aN (i:=7) ‹["net","end","stream","chains","come","steps","loads","step"]› rfl (Or.inl rfl) (Or.inr rfl)) (bY (le_refl _)) (fun _ _ _ _ _=>cP) (fun _ _ _ _ _=>(dh jw hr (bf (sv 0) (bf (sv 2) (bf (sv 7) aB rfl) rfl) rfl)))));(· lia;exact cI (k:=3) rfl (by first|exact Or.inl rfl|exact Or.inr (Or.inl rfl)) (cA (di (sv 5) (di (sv 6) aR rfl) rfl));(· lia;(· exists eZ (i:=2) ?_ ?_ ?_ ?_ ?_ ?_;exact nd;exact rfl;exact Or.inr rfl;rotate_left;rfl;exact oi;exact dh gM hr (bf (sv 2) (bf (sv 5) (bf (sv 6) aB rfl) rfl) rfl));(· lia;(· exists 4,dh dB hr (bf (sv 0) (bf (sv 2) (bf rW aB rfl) rfl) rfl));exact aq))))))
 lia;.exists(),sv 3
 exact aq
noncomputable abbrev s19:=top 27
noncomputable def b19:List S:=[.ret (.tup [.idx (.var 0) (.con (.int 0)),.blt .tuple [.comp (.idx (.var 0) (.con (.int 1))) 1 [1] true none (.tup [.idx (.var 1) (.con (.int 0)),.idx (.var 1) (.con (.int 1)),.idx (.var 1) (.con (.int 2)),.con (.int 0)])]])]
noncomputable def YX:Fd:=⟨1,1,b19⟩
theorem aar:aL ["net"] ["net"] (az s19):=nofun
include cl in
theorem d19(Fu:gB K "hourless_net" "hourless_net" s19 f fd)(bz:mg "tuple"=none):bW Pg w K mg base fZ (k+1) f fd ["net"] (gw K 1 (fun args=>enter c n YX args)):=by
 exists Fu,aar,0,0;refine aQ ?_ ?_;.exists(),cA (di (ao (sv 0) aa) (di (gP rfl (by rfl) bz (cN (N':=["net","way"]) hc (rK rfl (by rfl)) (bQ (ao (sv 0) aa)) (fun _ _ _ _ _=>aN (i:=1) ‹["net","way"]› rfl (Or.inl rfl) (Or.inr rfl)) (bY (le_refl _)) (fun _ _ _ _ _=>cP) (fun _ _ _ _ _=>(cA (di (ao (sv 1) aa) (di (ao (sv 1) aa) (di (ao (sv 1) aa) (di aa aR rfl) rfl) rfl) rfl))))) aR rfl) rfl)
 exact aq
noncomputable abbrev s20:=top 28
noncomputable def b20:List S:=[.asg 1 (.call 19 [.var 0]),.asg 2 (.bin .mul (.lst [.con (.int 0)]) (.blt .len [.idx (.var 0) (.con (.int 1))])),.fJ (.call 18 [.var 1]) [3,4] false [.asg 2 (.call 17 [.var 2,.var 3,.var 4])],.asg 5 (.blt .tuple [.blt .mO [.call 15 [.var 1,.var 2,.vO 0 0]]]),.ret (.tup [.call 8 [.var 0,.var 2],.var 2,.var 5])]
noncomputable def Y7:Fd:=⟨1,6,b20⟩
theorem acf:aL ["net","hourless","stream","steps","loads","side"] ["net"] (az s20):=nofun
include cl in
theorem d20(Fu:gB K "fullest_stream" "fullest_stream" s20 f fd)(bG:mg "len"=none)(qe:mg "sorted"=none)(bz:mg "tuple"=none)(nJ:au Pg w K mg base k c 18 "chains_to_end" 1)(qg:au Pg w K mg base k c 19 "hourless_net" 1)(dB:au Pg w K mg base k c 15 "shortest_come" 3)(gK:au Pg w K mg base k c 8 "stream_rate" 2)(gM:au Pg w K mg base k c 17 "stream_with" 3):bW Pg w K mg base fZ (k+1) f fd ["net"] (gw K 1 (fun args=>enter c n Y7 args)):=by
 exists Fu,acf,0,0;refine aQ ?_ ?_;.exists 1,dh qg hr (bf (sv 0) aB rfl)
 lia;.exists 2,aA fB (cg (di aa aR rfl)) (dC rfl (by rfl) bG (ao (sv 0) aa))
 lia;.exact(oF PassesOwn.never hc (bQ (dh nJ hr (bf (sv 1) aB rfl))) (ik hc (bA (aN (i:=3) nd rfl oi oi) (bA (aN (i:=4) nd rfl oi oi) fu))) (pq rfl (dz _ _ (dz _ _ kZ 4) 3)) (by lia;(· exists 2,dh gM hr (bf (sv 2) (bf (sv 3) (bf (sv 4) aB rfl) rfl) rfl));exact aq))
 lia;.exists 5,gP rfl (by rfl) bz (Ad rfl hc (by rfl) qe (dh dB hr (bf (sv 1) (bf (sv 2) (bf rW aB rfl) rfl) rfl)))
 lia;.exists(),cA (di (dh gK hr (bf (sv 0) (bf (sv 2) aB rfl) rfl)) (di (sv 2) (di (sv 5) aR rfl) rfl) rfl)
 exact aq
noncomputable abbrev s21:=top 30
noncomputable def b21:List S:=[.ret (.lst [.blt .max2 [.con (.int 0),.bin .sub (.var 0) (.bin .pow (.con (.int 10)) (.con (.int 18)))],.bin .mod (.var 0) (.bin .pow (.con (.int 10)) (.con (.int 18))),.con (.int 0)])]
noncomputable def Yo:Fd:=⟨1,1,b21⟩
theorem aak:aL ["cell"] ["cell"] (az s21):=nofun
include cl in
theorem d21(Fu:gB K "_law_pool" "_law_pool" s21 f fd)(GX:mg "max"=none):bW Pg w K mg base fZ (k+1) f fd ["cell"] (gw K 1 (fun args=>enter c n Yo args)):=by
 exists Fu,aak,0,0;refine aQ ?_ ?_;.exists(),cg (di (Jl rfl hc (by rfl) GX (di aa (di (aA bT (sv 0) (aA jG aa aa)) aR rfl) rfl)) (di (aA gn (sv 0) (aA jG aa aa)) (di aa aR rfl) rfl) rfl)
 exact aq
noncomputable abbrev s22:=top 31
noncomputable def b22:List S:=[.ifs (.cmp .gt (.idx (.var 0) (.con (.int 0))) (.con (.int 0))) [.asg 2 (.bin .mod (.idx (.var 0) (.con (.int 0))) (.var 1)),.p7 0 (.con (.int 0)) (.bin .fdiv (.idx (.var 0) (.con (.int 0))) (.var 1)),.ret (.var 2)] [],.p7 0 (.con (.int 2)) (.bin .add (.idx (.var 0) (.con (.int 2))) (.con (.int 1))),.asg 3 (.bin .mod (.bin .add (.idx (.var 0) (.con (.int 1))) (.bin .mul (.con (.int 7919)) (.idx (.var 0) (.con (.int 2))))) (.con (.int 1000000007))),.asg 4 (.bin .mod (.bin .mul (.bin .add (.var 3) (.con (.int 11))) (.bin .add (.var 3) (.con (.int 48271)))) (.con (.int 998244353))),.ret (.bin .mod (.bin .fdiv (.bin .mod (.bin .mul (.var 4) (.var 4)) (.con (.int 2147483647))) (.con (.int 8))) (.var 1))]
noncomputable def YQ:Fd:=⟨2,5,b22⟩
theorem abQ:aL ["pool","base","digit","near","stir"] ["pool","base"] (az s22):=nofun
include cl in
theorem d22(Fu:gB K "_law_next" "_law_next" s22 f fd):bW Pg w K mg base fZ (k+1) f fd ["pool","base"] (gw K 2 (fun args=>enter c n YQ args)):=by
 exists Fu,abQ,0,0;refine aQ ?_ ?_;.exists cM ?_ ?_ ?_;exact aX iC (ao (sv 0) aa) aa (aU _);(· lia;(· exists 2,aA gn (ao (sv 0) aa) (sv 1));(· lia;exact gj (k:=0) rfl (by first|exact Or.inl rfl|exact Or.inr (Or.inl rfl)) aa (aA uB (ao (sv 0) aa) (sv 1));(· lia;(· exists(),sv 2);exact aq)));exact aq
 lia;.exact(gj (k:=0) rfl (by first|exact Or.inl rfl|exact Or.inr (Or.inl rfl)) aa (aA bh (ao (sv 0) aa) aa))
 lia;.exists 3,aA gn (aA bh (ao (sv 0) aa) (aA fB aa (ao (sv 0) aa))) aa
 lia;.exists 4,aA gn (aA fB (aA bh (sv 3) aa) (aA bh (sv 3) aa)) aa
 lia;.exists(),aA gn (aA uB (aA gn (aA fB (sv 4) (sv 4)) aa) aa) (sv 1)
 exact aq
noncomputable abbrev s23:=top 32
noncomputable def b23:List S:=[.ifs (.cmp .gt (.idx (.var 0) (.con (.int 0))) (.con (.int 0))) [.ret (.call 22 [.var 0,.var 1])] [],.asg 2 (.con (.int 0)),.fJ (.tZ (.con (.int 0)) (.con (.int 4))) [3] true [.asg 2 (.bin .add (.bin .mul (.var 2) (.bin .pow (.con (.int 10)) (.con (.int 7)))) (.call 22 [.var 0,.bin .pow (.con (.int 10)) (.con (.int 7))]))],.ret (.bin .mod (.var 2) (.var 1))]
noncomputable def Xh:Fd:=⟨2,4,b23⟩
theorem aaa:aL ["pool","base","found","k"] ["pool","base"] (az s23):=nofun
include cl in
theorem d23(Fu:gB K "_law_wide" "_law_wide" s23 f fd)(bu:mg "range"=none)(aK:au Pg w K mg base k c 22 "_law_next" 2):bW Pg w K mg base fZ (k+1) f fd ["pool","base"] (gw K 2 (fun args=>enter c n Xh args)):=by
 exists Fu,aaa,0,0;refine aQ ?_ ?_;.exists cM ?_ ?_ ?_;exact aX iC (ao (sv 0) aa) aa (aU _);(· lia;(· exists(),dh aK hr (bf (sv 0) (bf (sv 1) aB rfl) rfl));exact aq);exact aq
 lia;.exists 2,aa
 lia;.exists 3,fC rfl (by rfl) bu aa,0;(· lia;(· exists 2,aA bh (aA fB (sv 2) (aA jG aa aa)) (dh aK hr (bf (sv 0) (bf (aA jG aa aa) aB rfl) rfl)));exact aq)
 lia;.exists(),aA gn (sv 2) (sv 1)
 exact aq
noncomputable abbrev s24:=top 33
noncomputable def b24:List S:=[.ifs (.cmp .eq (.call 22 [.var 0,.con (.int 3)]) (.con (.int 0))) [.asg 4 (.call 22 [.var 0,.var 1]),.asg 5 (.bin .mod (.bin .add (.bin .add (.var 4) (.con (.int 1))) (.call 22 [.var 0,.bin .sub (.var 1) (.con (.int 1))])) (.var 1))] [.asg 4 (.call 22 [.var 0,.bin .sub (.var 1) (.con (.int 1))]),.asg 5 (.bin .add (.bin .add (.var 4) (.con (.int 1))) (.call 22 [.var 0,.bin .sub (.bin .sub (.var 1) (.con (.int 1))) (.var 4)]))],.ret (.tup [.var 4,.var 5,.call 23 [.var 0,.bin .add (.var 2) (.con (.int 1))],.bin .add (.con (.int 1)) (.call 23 [.var 0,.var 3])])]
noncomputable def YZ:Fd:=⟨4,6,b24⟩
theorem aay:aL ["pool","many","most","longest","start","to"] ["pool","many","most","longest"] (az s24):=nofun
include cl in
theorem d24(Fu:gB K "_law_way" "_law_way" s24 f fd)(aK:au Pg w K mg base k c 22 "_law_next" 2)(gC:au Pg w K mg base k c 23 "_law_wide" 2):bW Pg w K mg base fZ (k+1) f fd ["pool","many","most","longest"] (gw K 4 (fun args=>enter c n YZ args)):=by
 exists Fu,aay,0,0;refine aQ ?_ ?_;.exists cM ?_ ?_ ?_;exact aX (dG (aY hr)) (dh aK hr (bf (sv 0) (bf aa aB rfl) rfl)) aa (aU _);(· lia;(· exists 4,dh aK hr (bf (sv 0) (bf (sv 1) aB rfl) rfl));(· lia;(· exists 5,aA gn (aA bh (aA bh (sv 4) aa) (dh aK hr (bf (sv 0) (bf (aA bT (sv 1) aa) aB rfl) rfl))) (sv 1));exact aq));(· lia;(· exists 4,dh aK hr (bf (sv 0) (bf (aA bT (sv 1) aa) aB rfl) rfl));(· lia;(· exists 5,aA bh (aA bh (sv 4) aa) (dh aK hr (bf (sv 0) (bf (aA bT (aA bT (sv 1) aa) (sv 4)) aB rfl) rfl)));exact aq))
 lia;.exists(),cA (di (sv 4) (di (sv 5) (di (dh gC hr (bf (sv 0) (bf (aA bh (sv 2) aa) aB rfl) rfl)) (di (aA bh aa (dh gC hr (bf (sv 0) (bf (sv 3) aB rfl) rfl))) aR rfl) rfl) rfl) rfl)
 exact aq
noncomputable abbrev s25:=top 34
noncomputable def b25:List S:=[.asg 3 (.bin .add (.con (.int 2)) (.call 22 [.var 0,.bin .sub (.var 1) (.con (.int 1))])),.asg 4 (.idx (.lst [.con (.int 1),.con (.int 3),.con (.int 9),.bin .pow (.con (.int 10)) (.con (.int 9))]) (.call 22 [.var 0,.con (.int 4)])),.asg 5 (.idx (.lst [.con (.int 1),.con (.int 2),.con (.int 4),.bin .pow (.con (.int 10)) (.con (.int 6))]) (.call 22 [.var 0,.con (.int 4)])),.asg 6 (.lst []),.fJ (.tZ (.con (.int 0)) (.call 22 [.var 0,.bin .add (.var 2) (.con (.int 1))])) [7] true [.app 6 (.call 24 [.var 0,.var 3,.var 4,.var 5]),.ifs (.cmp .eq (.call 22 [.var 0,.con (.int 6)]) (.con (.int 0))) [.p7 6 (.var 7) (.idx (.var 6) (.call 22 [.var 0,.bin .add (.var 7) (.con (.int 1))]))] []],.ret (.tup [.var 3,.blt .tuple [.var 6]])]
noncomputable def Yx:Fd:=⟨3,8,b25⟩
theorem abZ:aL ["pool","places","count","many","most","longest","ways","k"] ["pool","places","count"] (az s25):=nofun
include cl in
theorem d25(Fu:gB K "_law_net" "_law_net" s25 f fd)(bu:mg "range"=none)(bz:mg "tuple"=none)(aK:au Pg w K mg base k c 22 "_law_next" 2)(yo:au Pg w K mg base k c 24 "_law_way" 4):bW Pg w K mg base fZ (k+1) f fd ["pool","places","count"] (gw K 3 (fun args=>enter c n Yx args)):=by
 exists Fu,abZ,0,0;refine aQ ?_ ?_;.exists 3,aA bh aa (dh aK hr (bf (sv 0) (bf (aA bT (sv 1) aa) aB rfl) rfl))
 lia;.exists 4,ao (cg (sX [1,3,9] rfl (di (aA jG aa aa) aR rfl))) (dh aK hr (bf (sv 0) (bf aa aB rfl) rfl))
 lia;.exists 5,ao (cg (sX [1,2,4] rfl (di (aA jG aa aa) aR rfl))) (dh aK hr (bf (sv 0) (bf aa aB rfl) rfl))
 lia;.exists 6,cg aR
 lia;.exists 7,fC rfl (by rfl) bu (dh aK hr (bf (sv 0) (bf (aA bh (sv 2) aa) aB rfl) rfl)),0;(· lia;exact cI (k:=6) rfl (by first|exact Or.inl rfl|exact Or.inr (Or.inl rfl)) (dh yo hr (bf (sv 0) (bf (sv 3) (bf (sv 4) (bf (sv 5) aB rfl) rfl) rfl) rfl));(· lia;(· exists cM ?_ ?_ ?_;exact aX (dG (aY hr)) (dh aK hr (bf (sv 0) (bf aa aB rfl) rfl)) aa (aU _);(· lia;exact gj (k:=6) rfl (by first|exact Or.inl rfl|exact Or.inr (Or.inl rfl)) (sv 7) (ao (sv 6) (dh aK hr (bf (sv 0) (bf (aA bh (sv 7) aa) aB rfl) rfl)));exact aq);exact aq);exact aq))
 lia;.exists(),cA (di (sv 3) (di (gP rfl (by rfl) bz (sv 6)) aR rfl) rfl)
 exact aq
noncomputable abbrev Z9:=top 35
noncomputable def b26:List S:=[.asg 5 (.lst []),.asg 6 (.var 3),.fJ (.tZ (.con (.int 0)) (.bin .add (.idx (.var 1) (.con (.int 0))) (.con (.int 2)))) [7] true [.asg 8 (.comp (.tZ (.con (.int 0)) (.blt .len [.var 2])) 1 [9] true (some (.and (.cmp .eq (.idx (.idx (.idx (.var 1) (.con (.int 1))) (.var 9)) (.con (.int 0))) (.var 6)) (.cmp .gt (.idx (.var 2) (.var 9)) (.con (.int 0))))) (.var 9)),.asg 8 (.comp (.var 8) 1 [9] true (some (.cmp .vM (.var 9) (.var 5))) (.var 9)),.ifs (.cmp .eq (.var 8) (.lst [])) [.ret (.lst [])] [],.app 5 (.idx (.var 8) (.call 22 [.var 0,.blt .len [.var 8]])),.asg 6 (.idx (.idx (.idx (.var 1) (.con (.int 1))) (.idx (.var 5) (.neg (.con (.int 1))))) (.con (.int 1))),.ifs (.cmp .eq (.var 6) (.var 4)) [.ret (.var 5)] []],.ret (.lst [])]
noncomputable def XH:Fd:=⟨5,9,b26⟩
theorem ZZ:aL ["pool","net","left","start","goal","trail","place","turn","outs"] ["pool","net","left","start","goal"] (az Z9):=nofun
include cl in
theorem d26(Fu:gB K "_law_trail" "_law_trail" Z9 f fd)(bG:mg "len"=none)(bu:mg "range"=none)(aK:au Pg w K mg base k c 22 "_law_next" 2):bW Pg w K mg base fZ (k+1) f fd ["pool","net","left","start","goal"] (gw K 5 (fun args=>enter c n XH args)):=by
 exists Fu,ZZ,0,0;refine aQ ?_ ?_;.exists eZ (i:=5) ?_ ?_ ?_ ?_ ?_ ?_;exact nd;exact rfl;exact Or.inr rfl;rotate_left;rfl;exact oi;exact cg aR
 lia;.exists eZ (i:=6) ?_ ?_ ?_ ?_ ?_ ?_;exact nd;exact rfl;exact Or.inr rfl;rotate_left;rfl;exact oi;exact sv 3
 lia;.exists 7,fC rfl (by rfl) bu (aA bh (ao (sv 1) aa) aa),0;(· lia;exact sH (i:=8) (N':=["pool","net","left","start","goal","trail","place","turn","outs","k"]) hc nd rfl oi (rK rfl (by rfl)) (fC rfl (by rfl) bu (dC rfl (by rfl) bG (sv 2))) (fun _ _ _ _ _=>aN (i:=9) ‹["pool","net","left","start","goal","trail","place","turn","outs","k"]› rfl (Or.inl rfl) (Or.inr rfl)) (bY (le_refl _)) (fun _ _ _ _ _=>lF (SW.st (Cr (aX (dG (aY hr)) (ao (ao (ao (sv 1) aa) (sv 9)) aa) (sv 6) (aU _)) (zE (aX iC (ao (sv 2) (sv 9)) aa (aU _)))))) (fun _ _ _ _ _=>(sv 9)) (by rfl) (by intro _;rfl) (Or.inl rfl);(· lia;exact sH (i:=8) (N':=["pool","net","left","start","goal","trail","place","turn","outs","k"]) hc nd rfl oi (rK rfl (by rfl)) (bQ (sv 8)) (fun _ _ _ _ _=>aN (i:=9) ‹["pool","net","left","start","goal","trail","place","turn","outs","k"]› rfl (Or.inl rfl) (Or.inr rfl)) (bY (le_refl _)) (fun _ _ _ _ _=>lF (aX Bg (sv 9) (sv 5) (by with_unfolding_all rfl))) (fun _ _ _ _ _=>(sv 9)) (by rfl) (by intro _;rfl) (Or.inl rfl);(· lia;(· exists cM ?_ ?_ ?_;exact aX (dG (aY hr)) (sv 8) (cg aR) (aU _);(· lia;(· exists(),cg aR);exact aq);exact aq);(· lia;exact cI (k:=5) rfl (by first|exact Or.inl rfl|exact Or.inr (Or.inl rfl)) (ao (sv 8) (dh aK hr (bf (sv 0) (bf (dC rfl (by rfl) bG (sv 8)) aB rfl) rfl)));(· lia;(· exists eZ (i:=6) ?_ ?_ ?_ ?_ ?_ ?_;exact nd;exact rfl;exact Or.inr rfl;rotate_left;rfl;exact oi;exact ao (ao (ao (sv 1) aa) (ao (sv 5) (mG aa))) aa);(· lia;(· exists cM ?_ ?_ ?_;exact aX (dG (aY hr)) (sv 6) (sv 4) (aU _);(· lia;(· exists(),sv 5);exact aq);exact aq);exact aq))))))
 lia;.exists(),cg aR
 exact aq
noncomputable abbrev s27:=top 36
noncomputable def b27:List S:=[.asg 2 (.comp (.idx (.var 1) (.con (.int 1))) 1 [11] true none (.idx (.var 11) (.con (.int 2)))),.asg 3 (.bin .mul (.lst [.con (.int 0)]) (.blt .len [.var 2])),.fJ (.tZ (.con (.int 0)) (.bin .add (.con (.int 1)) (.call 22 [.var 0,.con (.int 6)]))) [4] true [.par 5 6 (.con (.int 0)) (.bin .sub (.idx (.var 1) (.con (.int 0))) (.con (.int 1))),.ifs (.cmp .eq (.call 22 [.var 0,.con (.int 4)]) (.con (.int 0))) [.asg 5 (.call 22 [.var 0,.idx (.var 1) (.con (.int 0))]),.asg 6 (.var 5)] [],.asg 7 (.call 26 [.var 0,.var 1,.var 2,.var 5,.var 6]),.ifs (.cmp .ne (.var 7) (.lst [])) [.asg 8 (.blt .vN [.comp (.var 7) 1 [11] true none (.idx (.var 2) (.var 11))]),.asg 9 (.idx (.lst [.var 8,.bin .add (.con (.int 1)) (.call 23 [.var 0,.var 8])]) (.call 22 [.var 0,.con (.int 2)])),.fJ (.var 7) [10] true [.p7 2 (.var 10) (.bin .sub (.idx (.var 2) (.var 10)) (.var 9)),.p7 3 (.var 10) (.bin .add (.idx (.var 3) (.var 10)) (.var 9))]] []],.ret (.var 3)]
noncomputable def Za:Fd:=⟨2,11,b27⟩
theorem abd:aL ["pool","net","left","stream","turn","start","goal","trail","most","loads","k"] ["pool","net"] (az s27):=nofun
include cl in
theorem d27(Fu:gB K "_law_stream" "_law_stream" s27 f fd)(bG:mg "len"=none)(iK:mg "min"=none)(bu:mg "range"=none)(aK:au Pg w K mg base k c 22 "_law_next" 2)(um:au Pg w K mg base k c 26 "_law_trail" 5)(gC:au Pg w K mg base k c 23 "_law_wide" 2):bW Pg w K mg base fZ (k+1) f fd ["pool","net"] (gw K 2 (fun args=>enter c n Za args)):=by
 exists Fu,abd,0,0;refine aQ ?_ ?_;.exists eZ (i:=2) ?_ ?_ ?_ ?_ ?_ ?_;exact nd;exact rfl;exact Or.inr rfl;rotate_left;rfl;exact oi;exact cN (N':=["pool","net","left","stream","turn","start","goal","trail","most","loads","k","way"]) hc (rK rfl (by rfl)) (bQ (ao (sv 1) aa)) (fun _ _ _ _ _=>aN (i:=11) ‹["pool","net","left","stream","turn","start","goal","trail","most","loads","k","way"]› rfl (Or.inl rfl) (Or.inr rfl)) (bY (le_refl _)) (fun _ _ _ _ _=>cP) (fun _ _ _ _ _=>(ao (sv 11) aa))
 lia;.exists 3,aA fB (cg (di aa aR rfl)) (dC rfl (by rfl) bG (sv 2))
 lia;.exists 4,fC rfl (by rfl) bu (aA bh aa (dh aK hr (bf (sv 0) (bf aa aB rfl) rfl))),0;(· lia;exact Qz (i:=5) (j:=6) hc nd rfl rfl (by decide) rfl rfl aa (aA bT (ao (sv 1) aa) aa);(· lia;(· exists cM ?_ ?_ ?_;exact aX (dG (aY hr)) (dh aK hr (bf (sv 0) (bf aa aB rfl) rfl)) aa (aU _);(· lia;(· exists 5,dh aK hr (bf (sv 0) (bf (ao (sv 1) aa) aB rfl) rfl));(· lia;(· exists 6,sv 5);exact aq));exact aq);(· lia;(· exists 7,dh um hr (bf (sv 0) (bf (sv 1) (bf (sv 2) (bf (sv 5) (bf (sv 6) aB rfl) rfl) rfl) rfl) rfl));(· lia;(· exists cM ?_ ?_ ?_;exact aX (my (aY hr)) (sv 7) (cg aR) (aU _);(· lia;(· exists 8,nP rfl hc (by rfl) iK (cN (N':=["pool","net","left","stream","turn","start","goal","trail","most","loads","k#10","k"]) hc (rK rfl (by rfl)) (bQ (sv 7)) (fun _ _ _ _ _=>aN (i:=11) ‹["pool","net","left","stream","turn","start","goal","trail","most","loads","k#10","k"]› rfl (Or.inl rfl) (Or.inr rfl)) (bY (le_refl _)) (fun _ _ _ _ _=>cP) (fun _ _ _ _ _=>(ao (sv 2) (sv 11)))));(· lia;(· exists 9,ao (cg (di (sv 8) (di (aA bh aa (dh gC hr (bf (sv 0) (bf (sv 8) aB rfl) rfl))) aR rfl) rfl)) (dh aK hr (bf (sv 0) (bf aa aB rfl) rfl)));(· lia;(· exists 10,bQ (sv 7),0;(· lia;exact gj (k:=2) rfl (by first|exact Or.inl rfl|exact Or.inr (Or.inl rfl)) (sv 10) (aA bT (ao (sv 2) (sv 10)) (sv 9));(· lia;exact gj (k:=3) rfl (by first|exact Or.inl rfl|exact Or.inr (Or.inl rfl)) (sv 10) (aA bh (ao (sv 3) (sv 10)) (sv 9));exact aq)));exact aq)));exact aq);exact aq))))
 lia;.exists(),sv 3
 exact aq
noncomputable abbrev s28:=top 37
noncomputable def b28:List S:=[.ret (.and (.inst [.int] (.var 0)) (.not (.inst [.bool] (.var 0))))]
noncomputable def XX:Fd:=⟨1,1,b28⟩
theorem Z8:aL ["thing"] ["thing"] (az s28):=nofun
include cl in
theorem d28(Fu:gB K "_law_whole" "_law_whole" s28 f fd)(yp:mg "bool"=none)(GZ:mg "int"=none)(bV:mg "isinstance"=none):bW Pg w K mg base fZ (k+1) f fd ["thing"] (gw K 1 (fun args=>enter c n XX args)):=by
 exists Fu,Z8,0,0;refine aQ ?_ ?_;.exists(),wR (jd .int rfl (by rfl) bV (sv 0) (by rfl) GZ (by kernel_rfl) (by decide) (by rfl)) (zp (Qy (jd .bool rfl (by rfl) bV (sv 0) (by rfl) yp (by kernel_rfl) (by decide) (by rfl))))
 exact aq
noncomputable abbrev s29:=top 38
noncomputable def b29:List S:=[.asg 2 (.lst [.con (.int 0)]),.fJ (.var 1) [3] true [.ifs (.or (.cmp .lt (.var 3) (.con (.int 0))) (.or (.cmp .ge (.var 3) (.blt .len [.idx (.var 0) (.con (.int 1))])) (.cmp .ne (.idx (.idx (.idx (.var 0) (.con (.int 1))) (.var 3)) (.con (.int 0))) (.idx (.var 2) (.neg (.con (.int 1))))))) [.ret (.con (.bl false))] [],.ifs (.or (.cmp .eq (.idx (.idx (.idx (.var 0) (.con (.int 1))) (.var 3)) (.con (.int 2))) (.con (.int 0))) (.cmp .inn (.idx (.idx (.idx (.var 0) (.con (.int 1))) (.var 3)) (.con (.int 1))) (.var 2))) [.ret (.con (.bl false))] [],.app 2 (.idx (.idx (.idx (.var 0) (.con (.int 1))) (.var 3)) (.con (.int 1)))],.ret (.cmp .eq (.idx (.var 2) (.neg (.con (.int 1)))) (.bin .sub (.idx (.var 0) (.con (.int 0))) (.con (.int 1))))]
noncomputable def Xe:Fd:=⟨2,4,b29⟩
theorem Z7:aL ["net","walk","places","k"] ["net","walk"] (az s29):=nofun
include cl in
theorem d29(Fu:gB K "_law_is_walk" "_law_is_walk" s29 f fd)(bG:mg "len"=none):bW Pg w K mg base fZ (k+1) f fd ["net","walk"] (gw K 2 (fun args=>enter c n Xe args)):=by
 exists Fu,Z7,0,0;refine aQ ?_ ?_;.exists 2,cg (di aa aR rfl)
 lia;.exists 3,bQ (sv 1),0;(· lia;(· exists cM ?_ ?_ ?_;exact SW.st (iD (aX (pJ (aY hr)) (sv 3) aa (aU _)) (iD (aX M7 (sv 3) (dC rfl (by rfl) bG (ao (sv 0) aa)) (aU _)) (ir (aX (my (aY hr)) (ao (ao (ao (sv 0) aa) (sv 3)) aa) (ao (sv 2) (mG aa)) (aU _)))));(· lia;(· exists(),eV);exact aq);exact aq);(· lia;(· exists cM ?_ ?_ ?_;exact SW.st (iD (aX (dG (aY hr)) (ao (ao (ao (sv 0) aa) (sv 3)) aa) aa (aU _)) (ir (aX Hm (ao (ao (ao (sv 0) aa) (sv 3)) aa) (sv 2) (by with_unfolding_all rfl))));(· lia;(· exists(),eV);exact aq);exact aq);(· lia;exact cI (k:=2) rfl (by first|exact Or.inl rfl|exact Or.inr (Or.inl rfl)) (ao (ao (ao (sv 0) aa) (sv 3)) aa);exact aq)))
 lia;.exists(),jR (dG (aY hr)) (ao (sv 2) (mG aa)) (aA bT (ao (sv 0) aa) aa) (aU _)
 exact aq
noncomputable abbrev s30:=top 39
noncomputable def b30:List S:=[.asg 2 (.bin .mul (.lst [.con (.int 0)]) (.blt .len [.idx (.var 0) (.con (.int 1))])),.fJ (.var 1) [3,4] false [.fJ (.var 3) [5] true [.p7 2 (.var 5) (.bin .add (.idx (.var 2) (.var 5)) (.var 4))]],.ret (.var 2)]
noncomputable def YL:Fd:=⟨2,6,b30⟩
theorem aa9:aL ["net","rounds","found","walk","loads","k"] ["net","rounds"] (az s30):=nofun
include cl in
theorem d30(Fu:gB K "_law_made" "_law_made" s30 f fd)(bG:mg "len"=none):bW Pg w K mg base fZ (k+1) f fd ["net","rounds"] (gw K 2 (fun args=>enter c n YL args)):=by
 exists Fu,aa9,0,0;refine aQ ?_ ?_;.exists 2,aA fB (cg (di aa aR rfl)) (dC rfl (by rfl) bG (ao (sv 0) aa))
 lia;.exact(oF PassesOwn.never hc (bQ (sv 1)) (ik hc (bA (aN (i:=3) nd rfl oi oi) (bA (aN (i:=4) nd rfl oi oi) fu))) (pq rfl (dz _ _ (dz _ _ kZ 4) 3)) (by lia;(· exists 5,bQ (sv 3),0;(· lia;exact gj (k:=2) rfl (by first|exact Or.inl rfl|exact Or.inr (Or.inl rfl)) (sv 5) (aA bh (ao (sv 2) (sv 5)) (sv 4));exact aq));exact aq))
 lia;.exists(),sv 2
 exact aq
noncomputable abbrev s31:=top 40
noncomputable def b31:List S:=[.fJ (.var 1) [2,3] false [.ifs (.or (.cmp .lt (.var 3) (.con (.int 1))) (.not (.call 29 [.var 0,.var 2]))) [.ret (.con (.bl false))] []],.asg 4 (.call 30 [.var 0,.var 1]),.ret (.blt .all [.comp (.tZ (.con (.int 0)) (.blt .len [.var 4])) 1 [5] true none (.cmp .le (.idx (.var 4) (.var 5)) (.idx (.idx (.idx (.var 0) (.con (.int 1))) (.var 5)) (.con (.int 2))))])]
noncomputable def XF:Fd:=⟨2,5,b31⟩
theorem abL:aL ["net","rounds","walk","loads","made"] ["net","rounds"] (az s31):=nofun
include cl in
theorem d31(Fu:gB K "_law_fit" "_law_fit" s31 f fd)(lK:mg "all"=none)(bG:mg "len"=none)(bu:mg "range"=none)(qi:au Pg w K mg base k c 29 "_law_is_walk" 2)(jx:au Pg w K mg base k c 30 "_law_made" 2):bW Pg w K mg base fZ (k+1) f fd ["net","rounds"] (gw K 2 (fun args=>enter c n XF args)):=by
 exists Fu,abL,0,0;refine aQ ?_ ?_;.exact(oF PassesOwn.never hc (bQ (sv 1)) (ik hc (bA (aN (i:=2) nd rfl oi oi) (bA (aN (i:=3) nd rfl oi oi) fu))) (pq rfl (dz _ _ (dz _ _ kZ 3) 2)) (by lia;(· exists cM ?_ ?_ ?_;exact SW.st (iD (aX (pJ (aY hr)) (sv 3) aa (aU _)) (ir (fY (cZ (dh qi hr (bf (sv 0) (bf (sv 2) aB rfl) rfl))))));(· lia;(· exists(),eV);exact aq);exact aq);exact aq))
 lia;.exists eZ (i:=4) ?_ ?_ ?_ ?_ ?_ ?_;exact nd;exact rfl;exact Or.inr rfl;rotate_left;rfl;exact oi;exact dh jx hr (bf (sv 0) (bf (sv 1) aB rfl) rfl)
 lia;.exists(),wK rfl hc (by rfl) lK (cN (N':=["net","rounds","walk","loads","made","k"]) hc (rK rfl (by rfl)) (fC rfl (by rfl) bu (dC rfl (by rfl) bG (sv 4))) (fun _ _ _ _ _=>aN (i:=5) ‹["net","rounds","walk","loads","made","k"]› rfl (Or.inl rfl) (Or.inr rfl)) (bY (le_refl _)) (fun _ _ _ _ _=>cP) (fun _ _ _ _ _=>(jR xK (ao (sv 4) (sv 5)) (ao (ao (ao (sv 0) aa) (sv 5)) aa) (aU _))))
 exact aq
noncomputable abbrev s32:=top 41
noncomputable def b32:List S:=[.asg 2 (.con (.int 0)),.fJ (.tZ (.con (.int 0)) (.blt .len [.var 1])) [3] true [.Zk [4,5,6,7] (.idx (.idx (.var 0) (.con (.int 1))) (.var 3)),.ifs (.cmp .eq (.var 4) (.con (.int 0))) [.asg 2 (.bin .add (.var 2) (.idx (.var 1) (.var 3)))] [],.ifs (.cmp .eq (.var 5) (.con (.int 0))) [.asg 2 (.bin .sub (.var 2) (.idx (.var 1) (.var 3)))] []],.ret (.var 2)]
noncomputable def V4:Fd:=⟨2,8,b32⟩
theorem aa4:aL ["net","stream","found","k","start","to","room","hours"] ["net","stream"] (az s32):=nofun
include cl in
theorem d32(Fu:gB K "_law_rate" "_law_rate" s32 f fd)(bG:mg "len"=none)(bu:mg "range"=none):bW Pg w K mg base fZ (k+1) f fd ["net","stream"] (gw K 2 (fun args=>enter c n V4 args)):=by
 exists Fu,aa4,0,0;refine aQ ?_ ?_;.exists 2,aa
 lia;.exists 3,fC rfl (by rfl) bu (dC rfl (by rfl) bG (sv 1)),0;(· lia;exact QB (ao (ao (sv 0) aa) (sv 3)) (ik hc (bA (aN (i:=4) nd rfl oi oi) (bA (aN (i:=5) nd rfl oi oi) (bA (aN (i:=6) nd rfl oi oi) (bA (aN (i:=7) nd rfl oi oi) fu))))) (pq rfl (dz _ _ (dz _ _ (dz _ _ (dz _ _ kZ 7) 6) 5) 4));(· lia;(· exists cM ?_ ?_ ?_;exact aX (dG (aY hr)) (sv 4) aa (aU _);(· lia;(· exists 2,aA bh (sv 2) (ao (sv 1) (sv 3)));exact aq);exact aq);(· lia;(· exists cM ?_ ?_ ?_;exact aX (dG (aY hr)) (sv 5) aa (aU _);(· lia;(· exists 2,aA bT (sv 2) (ao (sv 1) (sv 3)));exact aq);exact aq);exact aq)))
 lia;.exists(),sv 2
 exact aq
noncomputable abbrev s33:=top 42
noncomputable def b33:List S:=[.ifs (.not (.inst [.list] (.var 1))) [.ret (.con (.bl false))] [],.fJ (.var 1) [2] true [.ifs (.or (.not (.inst [.tuple] (.var 2))) (.or (.cmp .ne (.blt .len [.var 2]) (.con (.int 2))) (.not (.inst [.tuple] (.idx (.var 2) (.con (.int 0))))))) [.ret (.con (.bl false))] [],.ifs (.or (.not (.call 28 [.idx (.var 2) (.con (.int 1))])) (.not (.blt .all [.comp (.idx (.var 2) (.con (.int 0))) 1 [3] true none (.call 28 [.var 3])]))) [.ret (.con (.bl false))] []],.ret (.call 31 [.var 0,.var 1])]
noncomputable def Xj:Fd:=⟨2,3,b33⟩
theorem abK:aL ["net","told","one"] ["net","told"] (az s33):=nofun
include cl in
theorem d33(Fu:gB K "_law_are_rounds" "_law_are_rounds" s33 f fd)(lK:mg "all"=none)(bV:mg "isinstance"=none)(bG:mg "len"=none)(cG:mg "list"=none)(bz:mg "tuple"=none)(yq:au Pg w K mg base k c 31 "_law_fit" 2)(lL:au Pg w K mg base k c 28 "_law_whole" 1):bW Pg w K mg base fZ (k+1) f fd ["net","told"] (gw K 2 (fun args=>enter c n Xj args)):=by
 exists Fu,abK,0,0;refine aQ ?_ ?_;.exists cM ?_ ?_ ?_;exact fY (cZ (jd .list rfl (by rfl) bV (sv 1) (by rfl) cG (by kernel_rfl) (by decide) (by rfl)));(· lia;(· exists(),eV);exact aq);exact aq
 lia;.exists 2,bQ (sv 1),0;(· lia;(· exists cM ?_ ?_ ?_;exact SW.st (iD (fY (cZ (jd .tuple rfl (by rfl) bV (sv 2) (by rfl) bz (by kernel_rfl) (by decide) (by rfl)))) (iD (aX (my (aY hr)) (dC rfl (by rfl) bG (sv 2)) aa (aU _)) (ir (fY (cZ (jd .tuple rfl (by rfl) bV (ao (sv 2) aa) (by rfl) bz (by kernel_rfl) (by decide) (by rfl)))))));(· lia;(· exists(),eV);exact aq);exact aq);(· lia;(· exists cM ?_ ?_ ?_;exact SW.st (iD (fY (cZ (dh lL hr (bf (ao (sv 2) aa) aB rfl)))) (ir (fY (cZ (wK rfl hc (by rfl) lK (cN (N':=["net","told","one","k"]) hc (rK rfl (by rfl)) (bQ (ao (sv 2) aa)) (fun _ _ _ _ _=>aN (i:=3) ‹["net","told","one","k"]› rfl (Or.inl rfl) (Or.inr rfl)) (bY (le_refl _)) (fun _ _ _ _ _=>cP) (fun _ _ _ _ _=>(dh lL hr (bf (sv 3) aB rfl)))))))));(· lia;(· exists(),eV);exact aq);exact aq);exact aq))
 lia;.exists(),dh yq hr (bf (sv 0) (bf (sv 1) aB rfl) rfl)
 exact aq
noncomputable abbrev s34:=top 43
noncomputable def b34:List S:=[.asg 2 (.blt .list [.var 1]),.asg 3 (.call 10 [.var 0,.var 2]),.ifs (.or (.not (.call 33 [.var 0,.var 3])) (.or (.cmp .gt (.blt .len [.var 3]) (.blt .len [.idx (.var 0) (.con (.int 1))])) (.cmp .ne (.var 2) (.var 1)))) [.ret (.con (.bl false))] [],.asg 4 (.call 30 [.var 0,.var 3]),.ifs (.not (.blt .all [.comp (.tZ (.con (.int 0)) (.blt .len [.var 4])) 1 [6] true none (.cmp .le (.idx (.var 4) (.var 6)) (.idx (.var 1) (.var 6)))])) [.ret (.con (.bl false))] [],.ifs (.cmp .ne (.blt .sum [.comp (.var 3) 2 [6,7] false none (.var 7)]) (.call 32 [.var 0,.var 1])) [.ret (.con (.bl false))] [],.asg 5 (.blt .list [.var 3]),.app 3 (.tup [.tup [],.con (.int 0)]),.ret (.cmp .eq (.call 10 [.var 0,.var 2]) (.var 5))]
noncomputable def Wm:Fd:=⟨2,6,b34⟩
theorem aab:aL ["net","stream","handed","told","made","kept"] ["net","stream"] (az s34):=nofun
include cl in
theorem d34(Fu:gB K "_law_parted" "_law_parted" s34 f fd)(lK:mg "all"=none)(bG:mg "len"=none)(cG:mg "list"=none)(bu:mg "range"=none)(p8:mg "sum"=none)(lM:au Pg w K mg base k c 33 "_law_are_rounds" 2)(jx:au Pg w K mg base k c 30 "_law_made" 2)(vV:au Pg w K mg base k c 32 "_law_rate" 2)(iM:au Pg w K mg base k c 10 "stream_rounds" 2):bW Pg w K mg base fZ (k+1) f fd ["net","stream"] (gw K 2 (fun args=>enter c n Wm args)):=by
 exists Fu,aab,0,0;refine aQ ?_ ?_;.exists 2,oE rfl (by rfl) cG (sv 1)
 lia;.exists 3,dh iM hr (bf (sv 0) (bf (sv 2) aB rfl) rfl)
 lia;.exists cM ?_ ?_ ?_;exact SW.st (iD (fY (cZ (dh lM hr (bf (sv 0) (bf (sv 3) aB rfl) rfl)))) (iD (aX iC (dC rfl (by rfl) bG (sv 3)) (dC rfl (by rfl) bG (ao (sv 0) aa)) (aU _)) (ir (aX (my (aY hr)) (sv 2) (sv 1) (aU _)))));(· lia;(· exists(),eV);exact aq);exact aq
 lia;.exists eZ (i:=4) ?_ ?_ ?_ ?_ ?_ ?_;exact nd;exact rfl;exact Or.inr rfl;rotate_left;rfl;exact oi;exact dh jx hr (bf (sv 0) (bf (sv 3) aB rfl) rfl)
 lia;.exists cM ?_ ?_ ?_;exact fY (cZ (wK rfl hc (by rfl) lK (cN (N':=["net","stream","handed","told","made","kept","k"]) hc (rK rfl (by rfl)) (fC rfl (by rfl) bu (dC rfl (by rfl) bG (sv 4))) (fun _ _ _ _ _=>aN (i:=6) ‹["net","stream","handed","told","made","kept","k"]› rfl (Or.inl rfl) (Or.inr rfl)) (bY (le_refl _)) (fun _ _ _ _ _=>cP) (fun _ _ _ _ _=>(jR xK (ao (sv 4) (sv 6)) (ao (sv 1) (sv 6)) (aU _))))));(· lia;(· exists(),eV);exact aq);exact aq
 lia;.exists cM ?_ ?_ ?_;exact aX (my (aY hr)) (vZ rfl hc (by rfl) p8 (cN (N':=["net","stream","handed","told","made","kept","walk","loads"]) hc (rK rfl (by rfl)) (bQ (sv 3)) (fun _ _ _ _ _=>ik hc (bA (aN (i:=6) ‹["net","stream","handed","told","made","kept","walk","loads"]› rfl (Or.inl rfl) (Or.inr rfl)) (bA (aN (i:=7) ‹["net","stream","handed","told","made","kept","walk","loads"]› rfl (Or.inl rfl) (Or.inr rfl)) fu))) (nY rfl (eG (show 6<=6 by decide) (eG (show 6<=7 by decide) n6))) (fun _ _ _ _ _=>cP) (fun _ _ _ _ _=>(sv 7)))) (dh vV hr (bf (sv 0) (bf (sv 1) aB rfl) rfl)) (aU _);(· lia;(· exists(),eV);exact aq);exact aq
 lia;.exists 5,oE rfl (by rfl) cG (sv 3)
 lia;.exact(cI (k:=3) rfl (by first|exact Or.inl rfl|exact Or.inr (Or.inl rfl)) (cA (di (cA aR) (di aa aR rfl) rfl)))
 lia;.exists(),jR (dG (aY hr)) (dh iM hr (bf (sv 0) (bf (sv 2) aB rfl) rfl)) (sv 5) (aU _)
 exact aq
noncomputable abbrev s35:=top 44
noncomputable def b35:List S:=[.fJ (.bin .add (.lst [.con (.int 0)]) (.var 0)) [1] true [.asg 2 (.call 21 [.var 1]),.asg 3 (.call 25 [.var 2,.con (.int 6),.con (.int 12)]),.ifs (.or (.not (.call 34 [.var 3,.call 27 [.var 2,.var 3]])) (.not (.call 34 [.var 3,.idx (.call 20 [.var 3]) (.con (.int 1))]))) [.ret (.con (.bl false))] []],.ret (.con (.bl true))]
noncomputable def Y4:Fd:=⟨1,4,b35⟩
theorem aa1:aL ["script","cell","pool","net"] ["script"] (az s35):=nofun
include cl in
theorem d35(Fu:gB K "law" "law" s35 f fd)(yr:au Pg w K mg base k c 25 "_law_net" 3)(jQ:au Pg w K mg base k c 34 "_law_parted" 2)(vW:au Pg w K mg base k c 21 "_law_pool" 1)(qy:au Pg w K mg base k c 27 "_law_stream" 2)(mQ:au Pg w K mg base k c 20 "fullest_stream" 1):bW Pg w K mg base fZ (k+1) f fd ["script"] (gw K 1 (fun args=>enter c n Y4 args)):=by
 exists Fu,aa1,0,0;refine aQ ?_ ?_;.exists 1,bQ (aA bh (cg (di aa aR rfl)) (sv 0)),0;(· lia;(· exists 2,dh vW hr (bf (sv 1) aB rfl));(· lia;(· exists 3,dh yr hr (bf (sv 2) (bf aa (bf aa aB rfl) rfl) rfl));(· lia;(· exists cM ?_ ?_ ?_;exact SW.st (iD (fY (cZ (dh jQ hr (bf (sv 3) (bf (dh qy hr (bf (sv 2) (bf (sv 3) aB rfl) rfl)) aB rfl) rfl)))) (ir (fY (cZ (dh jQ hr (bf (sv 3) (bf (ao (dh mQ hr (bf (sv 3) aB rfl)) aa) aB rfl) rfl))))));(· lia;(· exists(),eV);exact aq);exact aq);exact aq)))
 lia;.exists(),eV
 exact aq
end T
end
section
namespace T
open PySem L2 PySem.Spec PyProof.Rows HH
noncomputable def Γ:Tab:=fun i=>[f0,f1,f2,f3,f4,f5,f6,f7,f8,f9,Yp,f11,YT,Yh,Y8,XR,Ym,W7,YW,YX,Y7,Yo,YQ,Xh,YZ,Yx,XH,Za,XX,Xe,YL,XF,V4,Xj,Wm,Y4][i]?
end T
end
section
namespace T
open HH
local macro_rules|`(tactic|symm)=>`(tactic|first|apply aj|apply Bh)
noncomputable abbrev big:Int:=1606938044258990275541962092341162602522202993782792835301376
theorem bH{w n:Nat}{x y z m:Int}{Q:R->List Sl->Prop}(h0:0<m)(h2:m<big)(k:∀d x z:Int,0<=d->d<m->Q (.val (.int d)) [.own true [.int x,.int y,.int z],.val false (.int m)]):(run Γ w (n+1) 22 [.own true [.int x,.int y,.int z],.val false (.int m)]).sat Q:=by
 have h3:m<1606938044258990275541962092341162602522202993782792835301376:=h2;refine aO (d:=YQ) rfl rfl (by decide) ?_;symm;simp[YQ];constructor;.intro _;symm;simp[h0];apply aj;simp[h0,h3,gq];apply aj;simp;exact k _ _ _ (Int.emod_nonneg _ (by omega)) (Int.emod_lt_of_pos _ h0)
 . intro _;symm;simp[gq];apply aj;simp;generalize hq:(y+7919*(z+1))%1000000007=q;have q0:0<=q/\q<1000000007:=by omega
   have q1:-18446744073709551616<q+11/\q+11<18446744073709551616:=by omega
   symm;simp[q1];generalize hs:(q+11)*(q+48271)%998244353=st;have q2:-18446744073709551616<st/\st<18446744073709551616:=by omega
   symm;simp[q2,h0];exact k _ _ _ (Int.emod_nonneg _ (by omega)) (Int.emod_lt_of_pos _ h0)
theorem CG{w n:Nat}{x:Int}{Q:R->List Sl->Prop}(k:∀a b c:Int,Q (.own [.int a,.int b,.int c]) [.val false (.int x)]):(run Γ w (n+1) 21 [.val false (.int x)]).sat Q:=by refine aO (d:=Yo) rfl rfl (by decide) ?_;symm;simp[Yo];exact k _ _ _
inductive JW(y m:Int)(_:Nat)(ρ:List Sl):Prop where|mk(x z f:Int)(s:Sl)(q0:ρ=[.own true [.int x,.int y,.int z],.val false (.int m),.val false (.int f),s])(q1:fr s=true)
theorem pI{w n:Nat}{x y z m:Int}{Q:R->List Sl->Prop}(h0:0<m)(h2:m<big)(k:∀d x z:Int,0<=d->d<m->Q (.val (.int d)) [.own true [.int x,.int y,.int z],.val false (.int m)]):(run Γ w (n+2) 23 [.own true [.int x,.int y,.int z],.val false (.int m)]).sat Q:=by
 refine aO (d:=Xh) rfl rfl (by decide) ?_;symm;simp[Xh];constructor;.intro _;symm;simp;refine bH h0 h2 fun d x z h3 h4=>?_;simp;exact k _ _ _ h3 h4
 . intro _;symm;simp;apply aj;simp;refine fV (JW y m) ?_ ?_ ⟨x,z,0,.aP,rfl,rfl⟩;.rintro i _ hi⟨x,z,f,s,rfl,hs⟩;simp[hs];apply aj;simp;refine bH (by decide) (by decide) fun d x z h3 h4=>?_;simp;exact⟨_,_,_,_,rfl,rfl⟩
   .rintro _⟨x,z,f,s,rfl,hs⟩;symm;simp[h0];exact k _ _ _ (Int.emod_nonneg _ (by omega)) (Int.emod_lt_of_pos _ h0)
structure Wy where(s t r h:Int)
noncomputable def Wy.d(w:Wy):D:=.tup [.int w.s,.int w.t,.int w.r,.int w.h]
structure Wy.Ok(m:Int)(w:Wy):Prop where
 s0:0<=w.s
 s1:w.s<m
 t0:0<=w.t
 t1:w.t<m
 ne:w.s≠w.t
 r0:0<=w.r
 r1:w.r<=1000000000
 h0:1<=w.h
 h1:w.h<=1000000
theorem other{a b m:Int}(h1:0<=a)(h2:a<m)(h3:0<=b)(h4:b<m-1):0<=(a+1+b)%m/\(a+1+b)%m<m/\(a+1+b)%m≠a:=by
 by_cases h:a+1+b<m;.rw[Int.emod_eq_of_lt (by omega) h];omega
 . have e:(a+1+b)%m=a+1+b-m:=by rw[<-Int.sub_emod_right,Int.emod_eq_of_lt (by omega) (by omega)]
   rw[e];omega
theorem aap(w:Wy):cX 7 w.d=true:=rfl
theorem Jf{ds:List D}{k:Nat}(h:∀d∈ds,cX k d=true):cX (k+1) (.lst ds)=true:=by rw[cX];exact all_eq_true.mpr h
theorem Gm{ds:List D}{k:Nat}(h:∀d∈ds,cX k d=true):cX (k+1) (.tup ds)=true:=by rw[cX];exact all_eq_true.mpr h
noncomputable def aM(m:Int)(ws:List Wy):D:=.tup [.int m,.tup (ws.map Wy.d)]
structure bj(m:Int)(ws:List Wy):Prop where
 m0:2<=m
 m1:m<=6
 len:ws.length<=12
 ok:∀w∈ws,w.Ok m
@[simp]theorem adW{m:Int}{ws:List Wy}:Aa (aM m ws) (.int 0)=some (.val (.int m)):=rfl
@[simp]theorem adX{m:Int}{ws:List Wy}:Aa (aM m ws) (.int 1)=some (.val (.tup (ws.map Wy.d))):=rfl
theorem IK{w n:Nat}{x y z m p l:Int}{Q:R->List Sl->Prop}(h0:2<=m)(h2:m<=6)(p0:1<=p)(p1:p<=1000000000)(l0:1<=l)(l1:l<=1000000)(k:∀(v:Wy)(x z:Int),v.Ok m->Q (.val v.d) [.own true [.int x,.int y,.int z],.val false (.int m),.val false (.int p),.val false (.int l)]):(run Γ w (n+3) 24 [.own true [.int x,.int y,.int z],.val false (.int m),.val false (.int p),.val false (.int l)]).sat Q:=by
 refine aO (d:=YZ) rfl rfl (by decide) ?_;refine cL (fun ρ=>∃x z s t,ρ=[.own true [.int x,.int y,.int z],.val false (.int m),.val false (.int p),.val false (.int l),.val false (.int s),.val false (.int t)]/\0<=s/\s<m/\0<=t/\t<m/\s≠t) ?_ ?_
 . simp[YZ];refine bH (by decide) (by decide) fun d x z _ _=>?_;simp;constructor;.intro _;symm;simp;refine bH (by omega) (by show _<(1606938044258990275541962092341162602522202993782792835301376:Int);omega) fun a x z ha1 ha2=>?_;simp;apply aj;simp;refine bH (by omega) (by show _<(1606938044258990275541962092341162602522202993782792835301376:Int);omega) fun b x z hb1 hb2=>?_;obtain⟨t0,t1,tn⟩:=other ha1 ha2 hb1 hb2;simp[show 0<m by omega];refine⟨_,_,_,_,⟨⟨rfl,rfl⟩,rfl,rfl⟩,?_⟩;omega
   .intro _;symm;simp;refine bH (by omega) (by show _<(1606938044258990275541962092341162602522202993782792835301376:Int);omega) fun a x z ha1 ha2=>?_;simp;apply aj;simp;refine bH (by omega) (by show _<(1606938044258990275541962092341162602522202993782792835301376:Int);omega) fun b x z hb1 hb2=>?_;simp;refine⟨_,_,_,_,⟨⟨rfl,rfl⟩,rfl,rfl⟩,?_⟩;omega
 rintro _⟨x,z,s,t,rfl,s0,s1,t0,t1,ne⟩;symm;simp;refine pI (by omega) (by show _<(1606938044258990275541962092341162602522202993782792835301376:Int);omega) fun r x z hr1 hr2=>?_;simp;refine pI (by omega) (by show _<(1606938044258990275541962092341162602522202993782792835301376:Int);omega) fun h x z hh1 hh2=>?_;simp;exact k ⟨s,t,r,1+h⟩ x z ⟨s0,s1,t0,t1,ne,hr1,by show r<=_;omega,by show 1<=1+h;omega,by show 1+h<=_;omega⟩
inductive JN(y m p l:Int)(i:Nat)(ρ:List Sl):Prop where|mk(x z:Int)(ws:List Wy)(s:Sl)(q0:ρ=[.own true [.int x,.int y,.int z],.val false (.int 6),.val false (.int 12),.val false (.int m),.val false (.int p),.val false (.int l),.own false (ws.map Wy.d),s])(q1:fr s=true)(q2:(∀w∈ws,w.Ok m))(q3:ws.length=i)
theorem K7{a b c d i lo hi:Int}(h0:0<=i)(h1:i<4)(k1:lo<=a/\a<=hi/\lo<=b/\b<=hi)(k2:lo<=c/\c<=hi/\lo<=d/\d<=hi):∃r,at' [D.int a,D.int b,D.int c,D.int d] i=some (.int r)/\lo<=r/\r<=hi:=by
 have:i=0\/i=1\/i=2\/i=3:=by omega
 rcases this with rfl|rfl|rfl|rfl;.exact⟨a,V0,by omega⟩
 .exact⟨b,Vs,by omega⟩
 .exact⟨c,abz,by omega⟩
 .exact⟨d,ZJ,by omega⟩
theorem JV{w n:Nat}{x y z:Int}{Q:R->List Sl->Prop}(k:∀(m:Int)(ws:List Wy)(x z:Int),bj m ws->Q (.val (aM m ws)) [.own true [.int x,.int y,.int z],.val false (.int 6),.val false (.int 12)]):(run Γ w (n+4) 25 [.own true [.int x,.int y,.int z],.val false (.int 6),.val false (.int 12)]).sat Q:=by
 refine aO (d:=Yx) rfl rfl (by decide) ?_;symm;simp[Yx];refine bH (by decide) (by decide) fun d x z hd1 hd2=>?_;simp;obtain⟨m,hm,m0,m1⟩:∃m,m=2+d/\2<=m/\m<=6:=⟨_,rfl,by omega,by omega⟩;rw[<-hm];symm;simp;refine bH (by decide) (by decide) fun d x z hd1 hd2=>?_;simp;obtain⟨p,e,p0,p1⟩:∃r,at' [D.int 1,D.int 3,D.int 9,D.int 1000000000] d=some (.int r)/\1<=r/\r<=1000000000:=K7 hd1 hd2 (by omega) (by omega);rw[e];simp;apply aj;simp;refine bH (by decide) (by decide) fun d x z hd1 hd2=>?_;simp;obtain⟨l,e,l0,l1⟩:∃r,at' [D.int 1,D.int 2,D.int 4,D.int 1000000] d=some (.int r)/\1<=r/\r<=1000000:=K7 hd1 hd2 (by omega) (by omega);rw[e];simp;apply aj;simp;apply aj;simp;refine bH (by decide) (by decide) fun c x z hc1 hc2=>?_;simp;refine⟨by omega,?_⟩;refine fV (JN y m p l) ?_ ?_ ⟨x,z,[],.aP,rfl,rfl,by simp,rfl⟩
 . rintro i _ hi⟨x,z,ws,s,rfl,hs,hw,hl⟩;simp[hs];apply aj;simp;refine IK m0 m1 p0 p1 l0 l1 fun v x z hv=>?_;have hlim:ws.length<lim:=by show _<16777216;omega
   simp[hlim];have hw2:∀u∈ws++[v],u.Ok m:=fun u hu=>by
    rw[mem_append,mem_singleton]at hu;rcases hu with hu|rfl;.exact hw u hu
    .exact hv
   rw[show ws.map Wy.d++[v.d]=(ws++[v]).map Wy.d by simp];have hl2:(ws++[v]).length=i+1:=by simp[hl]
   generalize ws++[v]=us at*;symm;simp;refine bH (by decide) (by decide) fun c x z hc1 hc2=>?_;simp;constructor
   . intro _;symm;simp;refine bH (by omega) (by show _<(1606938044258990275541962092341162602522202993782792835301376:Int);omega) fun c x z hc1 hc2=>?_;simp;have hlt:c.toNat<us.length:=by omega
     rw[iB hc1 (by rw[length_map];omega),getElem?_map,getElem?_eq_getElem hlt];simp[rT (show i<us.length by omega)];refine⟨x,z,us.set i us[c.toNat],.val false (.int i),by simp,rfl,fun u hu=>?_,by simpa using hl2⟩;rcases List.mem_or_eq_of_mem_set hu with hu|rfl;.exact hw2 u hu
     .exact hw2 _ (getElem_mem hlt)
   .intro _;exact⟨x,z,us,_,rfl,rfl,hw2,hl2⟩
 .rintro _⟨x,z,ws,s,rfl,hs,hw,hl⟩;symm;simp;exact k m ws x z ⟨m0,m1,by omega,hw⟩
def path(ws:List Wy):Int->List Nat->Int->Prop|p,[],q=>p=q|p,k::ks,q=>∃w,ws[k]?=some w/\w.s=p/\path ws w.t ks q
theorem qP{ws:List Wy}{k:Nat}{w:Wy}(hk:ws[k]?=some w):∀{ks:List Nat}{p q:Int},path ws p ks q->w.s=q->path ws p (ks++[k]) w.t|[],p,q,h,e=>⟨w,hk,by rw[e];exact h.symm,rfl⟩|j::ks,p,q,⟨v,h1,h2,h3⟩,e=>⟨v,h1,h2,qP hk h3 e⟩
noncomputable def dot(c:Int->Int):List Wy->List Int->Int|w::ws,f::fs=>f*(c w.s-c w.t)+dot c ws fs|_,_=>0
theorem nZ{c:Int->Int}{l:Int}{w:Wy}{f:Int}:∀{k:Nat}{ws:List Wy}{fs:List Int},ws[k]?=some w->fs[k]?=some f->dot c ws (fs.set k (f+l))=dot c ws fs+l*(c w.s-c w.t)|_,[],_,h,_=>by simp at h|_,_,[],_,h=>by simp at h|0,v::ws,g::fs,h,h'=>by simp at h h';subst h h';simp only[List.set_cons_zero,dot,add_mul];omega|k+1,v::ws,g::fs,h,h'=>by simp at h h';simp only[List.set_cons_succ,dot,nZ h h'];omega
theorem HX(c e:Int->Int):∀(ws:List Wy)(fs:List Int),dot (fun x=>c x+e x) ws fs=dot c ws fs+dot e ws fs
 |[],_=>rfl|_::_,[]=>rfl|w::ws,f::fs=>by
   simp only[dot,HX c e ws fs];have:f*(c w.s+e w.s-(c w.t+e w.t))=f*(c w.s-c w.t)+f*(e w.s-e w.t):=by rw[<-mul_add];congr 1;omega
   omega
theorem oG{c:Int->Int}:∀(ws:List Wy)(n:Nat),dot c ws (replicate n 0)=0|[],_=>rfl|_::_,0=>rfl|w::ws,n+1=>by simp only[replicate_succ,dot,oG ws n];omega
def Ks(ws:List Wy)(ls fs:List Int):Prop:=ls.length=ws.length/\fs.length=ws.length/\∀(k:Nat)(w:Wy)(l f:Int),ws[k]?=some w->ls[k]?=some l->fs[k]?=some f->0<=l/\0<=f/\l+f=w.r
theorem Ks.move{ws:List Wy}{ls fs:List Int}{k:Nat}{l f a:Int}(h:Ks ws ls fs)(hl:ls[k]?=some l)(hf:fs[k]?=some f)(h0:0<=a)(h1:a<=l):Ks ws (ls.set k (l-a)) (fs.set k (f+a)):=by
 refine⟨by simpa using h.1,by simpa using h.2.1,fun j w l' f' e1 e2 e3=>?_⟩;by_cases hj:j=k;.subst hj;have k1:=(List.getElem?_eq_some_iff.mp hl).1;have k2:=(List.getElem?_eq_some_iff.mp hf).1;rw[getElem?_set_self k1]at e2;rw[getElem?_set_self k2]at e3;cases e2;cases e3;have:=h.2.2 j w l f e1 hl hf;omega
 .rw[getElem?_set_ne (Ne.symm hj)]at e2 e3;exact h.2.2 j w l' f' e1 e2 e3
def Goes(m:Int)(ws:List Wy)(fs:List Int)(r:Int):Prop:=0<=r/\∀c:Int->Int,dot c ws fs=r*(c 0-c (m-1))
def Flow(m:Int)(ws:List Wy)(fs:List Int):Prop:=fs.length=ws.length/\(∀(k:Nat)(w:Wy)(f:Int),ws[k]?=some w->fs[k]?=some f->0<=f/\f<=w.r)/\(∀c:Int->Int,c 0=0->c (m-1)=0->dot c ws fs=0)/\∃r,Goes m ws fs r
theorem Ks.flow{m:Int}{ws:List Wy}{ls fs:List Int}{r:Int}(h:Ks ws ls fs)(hd:Goes m ws fs r):Flow m ws fs:=by refine⟨h.2.1,fun k w f e1 e2=>?_,fun c c0 c1=>by rw[hd.2,c0,c1];simp,r,hd⟩;have hk:=(List.getElem?_eq_some_iff.mp e1).1;obtain⟨l,hl⟩:∃l,ls[k]?=some l:=⟨ls[k]'(by rw[h.1];exact hk),by simp[h.1,hk]⟩;have:=h.2.2 k w l f e1 hl e2;omega
def Good(ws:List Wy)(ls:List Int)(ks:List Nat):Prop:=ks.Nodup/\∀k∈ks,∃l,ls[k]?=some l/\0<l
noncomputable def aH(ks:List Nat):List Int:=ks.map fun(k:Nat)=>(k:Int)
theorem pO{ks:List Nat}{k:Nat}:(aH ks).map D.int++[D.int (k:Int)]=(aH (ks++[k])).map D.int:=by simp[aH]
theorem Aw{ks:List Nat}{k:Nat}:(aH ks).contains (k:Int)=ks.contains k:=by induction ks with|nil=>rfl|cons a ks ih=>
   have:((k:Int)==(a:Int))=(k==a):=by rw[Bool.eq_iff_iff];simp;omega
   simp only[aH,map_cons,List.contains_cons,this]at ih ⊢;rw[ih]
inductive JT(y:Int)(m:Int)(ws:List Wy)(ls:List Int)(s g:Int)(i:Nat)(ρ:List Sl):Prop where|mk(x z:Int)(ks:List Nat)(p:Int)(s1 s2:Sl)(q0:ρ=[.own true [.int x,.int y,.int z],.val false (aM m ws),.own true (ls.map D.int),.val false (.int s),.val false (.int g),.own false ((aH ks).map D.int),.val false (.int p),s1,s2])(q1:fr s1=true)(q2:fr s2=true)(q3:path ws s ks p)(q4:Good ws ls ks)(q5:ks.length<=i)
inductive FT(a0 a1 a2 a3 a4 a5 a6 a7 a8:Sl)(ρ:List Sl):Prop where|mk(s:Sl)(q0:ρ=[a0,a1,a2,a3,a4,a5,a6,a7,a8,s])(q1:fr s=true)
def PT1(ws:List Wy)(ls:List Int)(p:Int)(d:D):Prop:=∃(k:Nat)(w:Wy)(l:Int),d=.int (k:Int)/\ws[k]?=some w/\w.s=p/\ls[k]?=some l/\0<l
def PT2(ws:List Wy)(ls:List Int)(p:Int)(ks:List Nat)(d:D):Prop:=∃(k:Nat)(w:Wy)(l:Int),d=.int (k:Int)/\ws[k]?=some w/\w.s=p/\ls[k]?=some l/\0<l/\k∉ks
theorem yS{ws:List Wy}{ls:List Int}{p:Int}{ks:List Nat}:∀{xs:List D},(∀x∈xs,PT2 ws ls p ks x)->∃ns:List Int,xs=ns.map D.int|[],_=>⟨[],rfl⟩|x::xs,h=>by obtain⟨k,_,_,rfl,_⟩:=h x (by simp);obtain⟨ns,rfl⟩:=yS (xs:=xs) fun y hy=>h y (by simp[hy]);exact⟨(k:Int)::ns,rfl⟩
theorem Ae{w n:Nat}{x y z m s g:Int}{ws:List Wy}{ls:List Int}{Q:R->List Sl->Prop}(h:bj m ws)(hl:ls.length=ws.length)(k:∀(ks:List Nat)(x z:Int),(ks=[]\/(path ws s ks g/\Good ws ls ks/\ks.length<1000))->Q (.own ((aH ks).map D.int)) [.own true [.int x,.int y,.int z],.val false (aM m ws),.own true (ls.map D.int),.val false (.int s),.val false (.int g)]):(run Γ w (n+2) 26 [.own true [.int x,.int y,.int z],.val false (aM m ws),.own true (ls.map D.int),.val false (.int s),.val false (.int g)]).sat Q:=by
 have m0:=h.m0;have m1:=h.m1;have hn:=h.len;refine aO (d:=XH) rfl rfl (by decide) ?_;symm;simp[XH];apply aj;simp;apply aj;simp;refine⟨by omega,?_⟩;refine fV (JT y m ws ls s g) ?_ ?_ ⟨x,z,[],s,.aP,.aP,rfl,rfl,rfl,rfl,⟨by simp,by simp⟩,by decide⟩
 . rintro i _ hi⟨x,z,ks,p,s1,s2,rfl,h1,h2,hp,hg,hk⟩;simp[h1];have hlm:ls.length<=lim:=by show _<=16777216;omega
   symm;simp[show ls.length<=lim from hlm,show(ls.length:Int)<=1000000000 by omega,show-1000000000<=(ls.length:Int)by omega];refine qD (FT _ _ _ _ _ _ _ _ _) (PT1 ws ls p) ⟨.aP,rfl,rfl⟩ ?_ ?_
   . rintro d hd _⟨s',rfl,hs'⟩;rw[mem_map]at hd;obtain⟨j,hj,rfl⟩:=hd;rw[mem_range]at hj;have hj2:j<ws.length:=by omega
     have e1:ws[j]?=some ws[j]:=by simp[hj2]
     have e2:ls[j]?=some ls[j]:=by simp[hj]
     simp[hs',bw e1,bw e2,Wy.d];refine⟨fun hp1=>?_,fun _=>⟨_,rfl,rfl⟩⟩;split;.rename_i hp2;exact⟨⟨j,_,_,rfl,e1,hp1,e2,hp2⟩,_,rfl,rfl⟩
     .exact⟨_,rfl,rfl⟩
   . rintro xs _⟨s',rfl,hs'⟩hxl hxs;simp at hxl;simp[h2];apply aj;simp[show xs.length<=lim by show _<=16777216;omega];refine qD (FT _ _ _ _ _ _ _ _ _) (PT2 ws ls p ks) ⟨.aP,rfl,rfl⟩ ?_ ?_
     . rintro d hd _⟨s',rfl,hs'⟩;obtain⟨j,v,l,rfl,e1,e2,e3,e4⟩:=hxs d hd;simp[hs',Am,Aw];split;.exact⟨_,rfl,rfl⟩
       .rename_i hj;exact⟨⟨j,v,l,rfl,e1,e2,e3,e4,fun hm=>hj (mem_map.mpr ⟨j,hm,rfl⟩)⟩,_,rfl,rfl⟩
     . rintro os _⟨s',rfl,hs'⟩hol hos;obtain⟨ns,rfl⟩:=yS hos;simp;apply aj;simp[IV];constructor;.intro _;symm;simp;exact k [] x z (.inl rfl)
       . intro hne;have hl0:0<ns.length:=List.length_pos_iff.mpr hne;simp at hol;apply aj;simp;refine bH (by omega) (by show _<(1606938044258990275541962092341162602522202993782792835301376:Int);omega) fun d x z hd1 hd2=>?_;simp;obtain⟨o,ho1,ho2⟩:=JK (l:=ns.map D.int) hd1 (by simpa using hd2);obtain⟨j,v,l,rfl,e1,e2,e3,e4,e5⟩:=hos o ho2;rw[ho1];have hkl:(aH ks).length<lim:=by simp only[aH,length_map];show _<16777216;omega
         simp[hkl];rw[pO];have hg2:Good ws ls (ks++[j]):=by
          refine⟨nodup_append.mpr ⟨hg.1,by simp,fun a ha b hb e=>?_⟩,fun a ha=>?_⟩;.rw[mem_singleton]at hb;subst hb;subst e;exact e5 ha
          . rcases mem_append.mp ha with ha|ha;.exact hg.2 a ha
            .rw[mem_singleton.mp ha];exact⟨l,e3,e4⟩
         have hp2:=qP e1 hp e2;have hk2:(ks++[j]).length<=i+1:=by simp;omega
         have hat:at' ((aH (ks++[j])).map D.int) (-1)=some (.int j):=by rw[<-pO];exact yH
         generalize ks++[j]=ks' at*;symm;simp[hat,bw e1,Wy.d];apply aj;simp;constructor;.intro he;symm;simp;exact k ks' x z (.inr ⟨by rw[<-he];exact hp2,hg2,by omega⟩)
         .intro _;exact⟨x,z,ks',_,_,_,rfl,rfl,rfl,hp2,hg2,hk2⟩
 .rintro _⟨x,z,ks,p,s1,s2,rfl,h1,h2,hp,hg,hk⟩;symm;simp;exact k [] x z (.inl rfl)
inductive JS(y:Int)(m:Int)(ws:List Wy)(_:Nat)(ρ:List Sl):Prop where|mk(x z:Int)(ls fs:List Int)(s4 s5 s6 s7 s8 s9 jy:Sl)(q0:ρ=[.own true [.int x,.int y,.int z],.val false (aM m ws),.own false (ls.map D.int),.own false (fs.map D.int),s4,s5,s6,s7,s8,s9,jy])(q1:A7 (fr s4=true) (fr s5=true) (fr s6=true) (fr s7=true) (fr s8=true) (fr s9=true) (fr jy=true))(q2:Ks ws ls fs)(q3:∃r,Goes m ws fs r)
inductive JI(m:Int)(ws:List Wy)(a0 a1 a4 a5 a6 a7 a8 a9:Sl)(s g lo q:Int)(r:List D)(ρ:List Sl):Prop where|mk(ls fs:List Int)(ks:List Nat)(p:Int)(jy:Sl)(q0:ρ=[a0,a1,.own false (ls.map D.int),.own false (fs.map D.int),a4,a5,a6,a7,a8,a9,jy])(q1:fr jy=true)(q2:r=(aH ks).map D.int)(q3:Ks ws ls fs)(q4:path ws p ks g)(q5:ks.Nodup)(q6:(∀k∈ks,∃l,ls[k]?=some l/\lo<=l))(q7:∀c:Int->Int,dot c ws fs=q*(c 0-c (m-1))+lo*(c s-c p))
inductive FS(a0 a1 a2 a3 a4 a5 a6 a7 a8 a9 a10:Sl)(ρ:List Sl):Prop where|mk(s:Sl)(q0:ρ=[a0,a1,a2,a3,a4,a5,a6,a7,a8,a9,a10,s])(q1:fr s=true)
noncomputable def Gf:D->D|.tup (_::_::r::_)=>r|d=>d
theorem zT{ws:List Wy}:(ws.map Wy.d).map Gf=(ws.map Wy.r).map D.int:=by rw[map_map,map_map];rfl
noncomputable def iI(ls:List Int):D->D|.int i=>.int (ls.getD i.toNat 0)|d=>d
theorem jb{ls:List Int}{ks:List Nat}:((aH ks).map D.int).map (iI ls)=(ks.map fun k=>ls.getD k 0).map D.int:=by simp only[aH,map_map];apply map_congr_left;intro k _;simp[iI]
theorem xR{ns:List Int}(h:ns≠[]):∃i,ns.min?=some i/\i∈ns/\∀j∈ns,i<=j:=by cases e:ns.min? with|none=>rw[List.min?_eq_none_iff]at e;exact absurd e h|some i=>have:=List.min?_eq_some_iff.mp e;exact⟨i,rfl,this.1,this.2⟩
theorem aaY{m:Int}{ws:List Wy}(h:bj m ws):Ks ws (ws.map Wy.r) (replicate ws.length 0):=by refine⟨by simp,by simp,fun k w l f e1 e2 e3=>?_⟩;have hw:=h.ok w (mem_of_getElem? e1);rw[getElem?_map,e1]at e2;cases e2;have hk:=(List.getElem?_eq_some_iff.mp e1).1;rw[getElem?_replicate,if_pos hk]at e3;cases e3;have:=hw.r0;omega
theorem xM{w n:Nat}{x y z m:Int}{ws:List Wy}{Q:R->List Sl->Prop}(h:bj m ws)(k:∀(fs:List Int)(x z:Int),Flow m ws fs->Q (.own (fs.map D.int)) [.own true [.int x,.int y,.int z],.val false (aM m ws)]):(run Γ w (n+3) 27 [.own true [.int x,.int y,.int z],.val false (aM m ws)]).sat Q:=by
 have m0:=h.m0;have m1:=h.m1;have hn:=h.len;refine aO (d:=Za) rfl rfl (by decide) ?_;refine cL (fun ρ=>ρ=[.own true [.int x,.int y,.int z],.val false (aM m ws),.own false ((ws.map Wy.r).map D.int),.aP,.aP,.aP,.aP,.aP,.aP,.aP,.aP]) ?_ ?_
 . simp[Za,show ws.length<=lim by show _<=16777216;omega];refine bC (FS _ _ _ _ _ _ _ _ _ _ _) Gf ⟨.aP,rfl,rfl⟩ ?_ ?_;.rintro d hd _⟨s',rfl,hs'⟩;obtain⟨v,_,rfl⟩:=mem_map.mp hd;simp[hs',Wy.d,Gf];exact⟨_,rfl,rfl⟩
   rintro _⟨s',rfl,hs'⟩;rw[zT];simp
 rintro _ rfl;symm;simp[show ws.length<=lim by show _<=16777216;omega];apply aj;simp;refine bH (by decide) (by decide) fun d x z hd1 hd2=>?_;simp;refine⟨by omega,?_⟩;refine fV (JS y m ws) ?_ ?_ ⟨x,z,ws.map Wy.r,replicate ws.length 0,.aP,.aP,.aP,.aP,.aP,.aP,.aP,?_,⟨rfl,rfl,rfl,rfl,rfl,rfl,rfl⟩,aaY h,0,Int.le_refl _,fun c=>by rw[oG];simp⟩
 . rintro i _ hi⟨x,z,ls,fs,s4,s5,s6,s7,s8,s9,jy,rfl,⟨h4,h5,h6,h7,h8,h9,h10⟩,hb,q,q0,hd⟩;simp[h4];apply aj;simp[h5,h6];refine cL (fun ρ=>∃(x z s g:Int),ρ=[.own true [.int x,.int y,.int z],.val false (aM m ws),.own false (ls.map D.int),.own false (fs.map D.int),.val false (.int i),.val false (.int s),.val false (.int g),s7,s8,s9,jy]/\((s=0/\g=m-1)\/s=g)) ?_ ?_
   . simp;refine bH (by decide) (by decide) fun d x z hd1 hd2=>?_;simp;constructor;.intro _;symm;simp;refine bH (by omega) (by show _<(1606938044258990275541962092341162602522202993782792835301376:Int);omega) fun d x z hd1 hd2=>?_;simp;apply aj;simp;exact⟨_,_,_,_,⟨⟨rfl,rfl⟩,rfl,rfl⟩,.inr rfl⟩
     .intro _;exact⟨_,_,_,_,⟨⟨rfl,rfl⟩,rfl,rfl⟩,.inl ⟨rfl,rfl⟩⟩
   rintro _⟨x,z,s,g,rfl,hsg⟩;symm;simp;refine Ae h hb.1 fun ks x z hks=>?_;simp[h7];apply aj;simp[Hv];constructor;rotate_left
   . intro hne;have hne:ks≠[]:=by rintro rfl;exact hne rfl
     obtain⟨hp,hg,hkl⟩:=hks.resolve_left hne;symm;simp[show(aH ks).length<=lim by simp only[aH,length_map];show _<=16777216;omega];refine bC (FS _ _ _ _ _ _ _ _ _ _ _) (iI ls) ⟨.aP,rfl,rfl⟩ ?_ ?_;.rintro d hd _⟨s',rfl,hs'⟩;simp only[aH,map_map,mem_map]at hd;obtain⟨k,hk,rfl⟩:=hd;obtain⟨l,hl,_⟩:=hg.2 k hk;simp[hs',bw hl,iI,hl];exact⟨_,rfl,rfl⟩
     rintro _⟨s',rfl,hs'⟩;rw[jb];obtain⟨ns,hns⟩:∃ns,ns=ks.map fun k=>ls.getD k 0:=⟨_,rfl⟩;rw[<-hns];obtain⟨mo,hm1,hm2,hm3⟩:=xR (ns:=ns) (by rw[hns];simpa using hne);simp[gY,hm1,h8];have hmo:0<mo/\mo<=1000000000:=by
      rw[hns]at hm2;obtain⟨k,hk,e⟩:=mem_map.mp hm2;obtain⟨l,hl,hl0⟩:=hg.2 k hk;have e:l=mo:=by simpa[hl]using e
      subst e;refine⟨hl0,?_⟩;have hk1:=(List.getElem?_eq_some_iff.mp hl).1;have hkw:k<ws.length:=by rw[<-hb.1];exact hk1
      have hkf:k<fs.length:=by rw[hb.2.1];exact hkw
      have e1:ws[k]?=some ws[k]:=by simp[hkw]
      have e3:fs[k]?=some fs[k]:=by simp[hkf]
      have:=hb.2.2 k _ _ _ e1 hl e3;have:=(h.ok _ (getElem_mem hkw)).r1;omega
     have hle:∀k∈ks,∃l,ls[k]?=some l/\mo<=l:=fun k hk=>by obtain⟨l,hl,hl0⟩:=hg.2 k hk;refine⟨l,hl,hm3 l (by rw[hns];exact mem_map.mpr ⟨k,hk,by simp[hl]⟩)⟩
     symm;simp;refine pI hmo.1 (by show _<(1606938044258990275541962092341162602522202993782792835301376:Int);omega) fun dd x z hd1 hd2=>?_;simp;refine bH (by decide) (by decide) fun d x z hd3 hd4=>?_;simp;obtain⟨lo,elo,lo0,lo1⟩:∃r,at' [D.int mo,D.int (1+dd)] d=some (.int r)/\0<=r/\r<=mo:=by
      have:d=0\/d=1:=by omega
      rcases this with rfl|rfl;.exact⟨_,V0,by omega,by omega⟩
      .exact⟨_,Vs,by omega,by omega⟩
     rw[elo];simp[h9];apply aj;simp;refine bI (JI m ws _ _ _ _ _ _ _ _ s g lo q) ?_ ?_ ⟨ls,fs,ks,s,jy,rfl,h10,rfl,hb,hp,hg.1,fun k hk=>?_,fun c=>?_⟩;.rintro d r _⟨ls,fs,ks,p,jy,rfl,h10,hr,hb,hp,hnd,hle,Ke⟩;cases ks with|nil=>cases hr|cons k ks=>
         obtain⟨rfl,rfl⟩:d=.int (k:Int)/\r=(aH ks).map D.int:=by simp[aH]at hr;exact⟨hr.1,by simp[aH,hr.2]⟩
         obtain⟨v,e1,e2,e3⟩:=hp;obtain⟨l,hl,hl1⟩:=hle k (by simp);have hkw:=(List.getElem?_eq_some_iff.mp e1).1;have hkf:k<fs.length:=by rw[hb.2.1];exact hkw
         have hkl:k<ls.length:=by rw[hb.1];exact hkw
         obtain⟨f,hf⟩:∃f,fs[k]?=some f:=⟨fs[k],by simp[hkf]⟩;have hb2:=hb.move hl hf lo0 hl1;have hnk:=nodup_cons.mp hnd;simp[h10];apply aj;simp[bw hl,rT (show k<ls.length from hkl)];apply aj;simp[bw hf,rT (show k<fs.length from hkf)];refine⟨ls.set k (l-lo),fs.set k (f+lo),ks,v.t,.val false (.int k),by simp,rfl,rfl,hb2,e3,hnk.2,fun j hj=>?_,fun c=>?_⟩
         . obtain⟨l',h1,h2⟩:=hle j (by simp[hj]);have hjk:k≠j:=by rintro rfl;exact hnk.1 hj
           exact⟨l',by rw[getElem?_set_ne hjk];exact h1,h2⟩
         .rw[nZ e1 hf,Ke c,<-e2,Int.add_assoc,<-mul_add];congr 2;omega
     . rintro _⟨ls,fs,ks,p,jy,rfl,h10,hr,hb,hp,hnd,hle,Ke⟩;have hk0:ks=[]:=by cases ks with|nil=>rfl|cons _ _=>cases hr
       subst hk0;simp;have hpg:p=g:=hp;rcases hsg with⟨rfl,rfl⟩|rfl;.refine⟨x,z,ls,fs,_,_,_,_,_,_,_,rfl,⟨rfl,rfl,rfl,rfl,rfl,rfl,h10⟩,hb,q+lo,by omega,fun c=>?_⟩;rw[Ke c,hpg,<-add_mul]
       .refine⟨x,z,ls,fs,_,_,_,_,_,_,_,rfl,⟨rfl,rfl,rfl,rfl,rfl,rfl,h10⟩,hb,q,q0,fun c=>?_⟩;rw[Ke c,hpg];simp
     .obtain⟨l,h1,h2⟩:=hle k hk;exact⟨l,h1,by omega⟩
     .rw[hd c];simp
   .intro _;exact⟨x,z,ls,fs,_,_,_,_,_,_,_,rfl,⟨rfl,rfl,rfl,rfl,h8,h9,h10⟩,hb,q,q0,hd⟩
 .rintro _⟨x,z,ls,fs,s4,s5,s6,s7,s8,s9,jy,rfl,_,hb,q,hd⟩;symm;simp;exact k fs x z (hb.flow hd)
 .simp
noncomputable def jV(p:Int):Nat->List Wy->List Nat|_,[]=>[]|i,w::ws=>if w.t=p then i::jV p (i+1) ws else jV p (i+1) ws
noncomputable def gh(p:Int):Nat->List Wy->List Nat|_,[]=>[]|i,w::ws=>if w.s=p then i::gh p (i+1) ws else gh p (i+1) ws
noncomputable def inD(p:Int):D->Option D|.tup [i,.tup (_::.int t::_)]=>if t==p then some i else none|_=>none
noncomputable def outD(p:Int):D->Option D|.tup [i,.tup (.int s::_)]=>if s==p then some i else none|_=>none
noncomputable def wj(ws:List Wy):List D:=(ws.map Wy.d).mapIdx fun i d=>D.tup [.int (i:Int),d]
theorem Jd{ds:List D}{d:D}(h:d∈ds.mapIdx fun i d=>D.tup [.int (i:Int),d]):∃(i:Nat)(e:D),d=.tup [.int i,e]/\e∈ds:=by rw[List.mem_mapIdx]at h;obtain⟨i,hi,rfl⟩:=h;exact⟨i,_,rfl,getElem_mem hi⟩
theorem uL{ws:List Wy}{d:D}(h:d∈wj ws):∃(i:Nat)(w:Wy),d=.tup [.int i,w.d]/\w∈ws:=by obtain⟨i,e,rfl,he⟩:=Jd h;obtain⟨w,hw,rfl⟩:=mem_map.mp he;exact⟨i,w,rfl,hw⟩
theorem o5(f:D->Option D)(sel:Nat->List Wy->List Nat)(h0:∀i,sel i []=[])(h1:∀(i:Nat)(w:Wy)(ws:List Wy),(match f (.tup [.int (i:Int),w.d])with|some x=>x=.int (i:Int)/\sel i (w::ws)=i::sel (i+1) ws|none=>sel i (w::ws)=sel (i+1) ws)):∀(ws:List Wy)(i:Nat),(((ws.map Wy.d).mapIdx fun j d=>D.tup [.int ((i+j:Nat):Int),d]).filterMap f)=(aH (sel i ws)).map D.int
 |[],i=>by rw[h0];rfl|w::ws,i=>by
   rw[map_cons,List.mapIdx_cons,filterMap_cons];have ih:=o5 f sel h0 h1 ws (i+1);have e:(fun(j:Nat)(d:D)=>D.tup [.int ((i+(j+1):Nat):Int),d])=fun j d=>D.tup [.int ((i+1+j:Nat):Int),d]:=by funext j d;rw[show i+(j+1)=i+1+j by omega]
   rw[e,ih];have:=h1 i w ws;rw[Nat.add_zero];cases hf:f (.tup [.int (i:Int),w.d])with|none=>rw[hf]at this;simp only at this;rw[this]|some x=>rw[hf]at this;simp only at this;rw[this.2,this.1];rfl
theorem Ni{p:Int}{ws:List Wy}:(wj ws).filterMap (inD p)=(aH (jV p 0 ws)).map D.int:=by have:=o5 (inD p) (jV p) (fun _=>rfl) (fun i w ws=>by by_cases h:w.t=p<;>simp[inD,Wy.d,jV,h]) ws 0;simpa[wj]using this
theorem JQ{p:Int}{ws:List Wy}:(wj ws).filterMap (outD p)=(aH (gh p 0 ws)).map D.int:=by have:=o5 (outD p) (gh p) (fun _=>rfl) (fun i w ws=>by by_cases h:w.s=p<;>simp[outD,Wy.d,gh,h]) ws 0;simpa[wj]using this
inductive F2(a b:Sl)(ρ:List Sl):Prop where|mk(s:Sl)(t:Sl)(q0:ρ=[a,b,s,t])(q1:fr s=true)(q2:fr t=true)
theorem tG{w n:Nat}{m p:Int}{ws:List Wy}{Q:R->List Sl->Prop}(h:bj m ws)(k:Q (.own ((aH (gh p 0 ws)).map D.int)) [.val false (aM m ws),.val false (.int p)]):(run Γ w (n+1) 0 [.val false (aM m ws),.val false (.int p)]).sat Q:=by
 refine aO (d:=f0) rfl rfl (by decide) ?_;symm;have hl:=h.len;have h1:ws.length<=lim:=by show _<=16777216;omega
 simp[f0,h1];refine lY (F2 _ _) (outD p) ⟨.aP,.aP,rfl,rfl,rfl⟩ ?_ ?_
 . rintro d hd _⟨s,t,rfl,hs,ht⟩;obtain⟨i,w,rfl,hw⟩:=uL hd;by_cases e:w.s=p;.simp[hs,ht,Wy.d,outD,e];exact⟨_,_,rfl,rfl,rfl⟩
   .simp[hs,ht,Wy.d,outD,e];exact⟨_,_,rfl,rfl,rfl⟩
 .rintro _⟨s,t,rfl,hs,ht⟩;rw[show((map Wy.d ws).mapIdx fun i d=>D.tup [.int (i:Int),d])=wj ws from rfl,JQ];generalize(aH (gh p 0 ws)).map D.int=L at*;simp;exact k
theorem CZ{w n:Nat}{m p:Int}{ws:List Wy}{Q:R->List Sl->Prop}(h:bj m ws)(k:Q (.own ((aH (jV p 0 ws)).map D.int)) [.val false (aM m ws),.val false (.int p)]):(run Γ w (n+1) 1 [.val false (aM m ws),.val false (.int p)]).sat Q:=by
 refine aO (d:=f1) rfl rfl (by decide) ?_;symm;have hl:=h.len;have h1:ws.length<=lim:=by show _<=16777216;omega
 simp[f1,h1];refine lY (F2 _ _) (inD p) ⟨.aP,.aP,rfl,rfl,rfl⟩ ?_ ?_
 . rintro d hd _⟨s,t,rfl,hs,ht⟩;obtain⟨i,w,rfl,hw⟩:=uL hd;by_cases e:w.t=p;.simp[hs,ht,Wy.d,inD,e];exact⟨_,_,rfl,rfl,rfl⟩
   .simp[hs,ht,Wy.d,inD,e];exact⟨_,_,rfl,rfl,rfl⟩
 .rintro _⟨s,t,rfl,hs,ht⟩;rw[show((map Wy.d ws).mapIdx fun i d=>D.tup [.int (i:Int),d])=wj ws from rfl,Ni];generalize(aH (jV p 0 ws)).map D.int=L at*;simp;exact k
noncomputable def ji(p:Int):List Wy->List Int->Int|w::ws,f::fs=>(if w.t=p then f else 0)+ji p ws fs|_,_=>0
noncomputable def jt(p:Int):List Wy->List Int->Int|w::ws,f::fs=>(if w.s=p then f else 0)+jt p ws fs|_,_=>0
theorem pX{p:Int}{F:List Int}:∀(ws:List Wy)(i:Nat),F.length=i+ws.length->((jV p i ws).map fun k=>F.getD k 0).sum=ji p ws (F.drop i)/\∀k∈jV p i ws,k<F.length
 |[],i,_=>by simp[jV,ji]|w::ws,i,h=>by
   simp only[length_cons]at h;have hi:i<F.length:=by omega
   obtain⟨ih1,ih2⟩:=pX (F:=F) ws (i+1) (by omega);rw[drop_eq_getElem_cons hi,jV,ji];by_cases e:w.t=p
   . rw[if_pos e,if_pos e];refine⟨?_,fun k hk=>?_⟩;.rw[map_cons,sum_cons,ih1];simp[hi]
     . rcases mem_cons.mp hk with rfl|hk;.exact hi
       .exact ih2 k hk
   .rw[if_neg e,if_neg e];exact⟨by rw[ih1];omega,ih2⟩
theorem oX{p:Int}{F:List Int}:∀(ws:List Wy)(i:Nat),F.length=i+ws.length->((gh p i ws).map fun k=>F.getD k 0).sum=jt p ws (F.drop i)/\∀k∈gh p i ws,k<F.length
 |[],i,_=>by simp[gh,jt]|w::ws,i,h=>by
   simp only[length_cons]at h;have hi:i<F.length:=by omega
   obtain⟨ih1,ih2⟩:=oX (F:=F) ws (i+1) (by omega);rw[drop_eq_getElem_cons hi,gh,jt];by_cases e:w.s=p
   . rw[if_pos e,if_pos e];refine⟨?_,fun k hk=>?_⟩;.rw[map_cons,sum_cons,ih1];simp[hi]
     . rcases mem_cons.mp hk with rfl|hk;.exact hi
       .exact ih2 k hk
   .rw[if_neg e,if_neg e];exact⟨by rw[ih1];omega,ih2⟩
theorem pQ{p:Int}:∀(ws:List Wy)(i:Nat),(jV p i ws).length<=ws.length|[],_=>le_refl _|w::ws,i=>by have:=pQ (p:=p) ws (i+1);rw[jV];split<;>simp<;>omega
theorem o6{p:Int}:∀(ws:List Wy)(i:Nat),(gh p i ws).length<=ws.length|[],_=>le_refl _|w::ws,i=>by have:=o6 (p:=p) ws (i+1);rw[gh];split<;>simp<;>omega
inductive F4(a b c d:Sl)(ρ:List Sl):Prop where|mk(s:Sl)(q0:ρ=[a,b,c,d,s])(q1:fr s=true)
theorem pW{w n:Nat}{b:Bool}{m p:Int}{ws:List Wy}{fs:List Int}{Q:R->List Sl->Prop}(h:bj m ws)(hf:fs.length=ws.length)(k:Q (.val (.int (ji p ws fs-jt p ws fs))) [.val false (aM m ws),.own b (fs.map D.int),.val false (.int p)]):(run Γ w (n+2) 7 [.val false (aM m ws),.own b (fs.map D.int),.val false (.int p)]).sat Q:=by
 have hn:=h.len;refine aO (d:=f7) rfl rfl (by decide) ?_;symm;simp[f7];refine CZ h ?_;obtain⟨t1,t2⟩:=pX (p:=p) (F:=fs) ws 0 (by omega);have hl1:=pQ (p:=p) ws 0;generalize jV p 0 ws=ks at*;simp[show(aH ks).length<=lim by simp only[aH,length_map];show _<=16777216;omega];refine bC (F4 _ _ _ _) (iI fs) ⟨.aP,rfl,rfl⟩ ?_ ?_;.rintro d hd _⟨s',rfl,hs'⟩;simp only[aH,map_map,mem_map]at hd;obtain⟨k,hk,rfl⟩:=hd;obtain⟨f,hl⟩:∃f,fs[k]?=some f:=⟨_,getElem?_eq_getElem (t2 k hk)⟩;simp[hs',bw hl,iI,hl];exact⟨_,rfl,rfl⟩
 rintro _⟨s',rfl,hs'⟩;rw[jb];generalize(ks.map fun k=>fs.getD k 0)=ns at*;simp[t1];apply aj;simp;refine tG h ?_;obtain⟨u1,u2⟩:=oX (p:=p) (F:=fs) ws 0 (by omega);have hl2:=o6 (p:=p) ws 0;generalize gh p 0 ws=ks at*;simp[show(aH ks).length<=lim by simp only[aH,length_map];show _<=16777216;omega];refine bC (F4 _ _ _ _) (iI fs) ⟨.aP,rfl,rfl⟩ ?_ ?_;.rintro d hd _⟨s',rfl,hs'⟩;simp only[aH,map_map,mem_map]at hd;obtain⟨k,hk,rfl⟩:=hd;obtain⟨f,hl⟩:∃f,fs[k]?=some f:=⟨_,getElem?_eq_getElem (u2 k hk)⟩;simp[hs',bw hl,iI,hl];exact⟨_,rfl,rfl⟩
 rintro _⟨s',rfl,hs'⟩;rw[jb];generalize(ks.map fun k=>fs.getD k 0)=ns at*;simp[u1];exact k
theorem pD{w n:Nat}{m p:Int}{ws:List Wy}{fs:List Int}{Q:R->List Sl->Prop}(h:bj m ws)(hf:fs.length=ws.length)(k:Q (.val (.int (ji p ws fs-jt p ws fs))) [.val false (aM m ws),.val false (.lst (fs.map D.int)),.val false (.int p)]):(run Γ w (n+2) 7 [.val false (aM m ws),.val false (.lst (fs.map D.int)),.val false (.int p)]).sat Q:=by
 have hn:=h.len;refine aO (d:=f7) rfl rfl (by decide) ?_;symm;simp[f7];refine CZ h ?_;obtain⟨t1,t2⟩:=pX (p:=p) (F:=fs) ws 0 (by omega);have hl1:=pQ (p:=p) ws 0;generalize jV p 0 ws=ks at*;simp[show(aH ks).length<=lim by simp only[aH,length_map];show _<=16777216;omega];refine bC (F4 _ _ _ _) (iI fs) ⟨.aP,rfl,rfl⟩ ?_ ?_;.rintro d hd _⟨s',rfl,hs'⟩;simp only[aH,map_map,mem_map]at hd;obtain⟨k,hk,rfl⟩:=hd;obtain⟨f,hl⟩:∃f,fs[k]?=some f:=⟨_,getElem?_eq_getElem (t2 k hk)⟩;simp[hs',bw hl,iI,hl];exact⟨_,rfl,rfl⟩
 rintro _⟨s',rfl,hs'⟩;rw[jb];generalize(ks.map fun k=>fs.getD k 0)=ns at*;simp[t1];apply aj;simp;refine tG h ?_;obtain⟨u1,u2⟩:=oX (p:=p) (F:=fs) ws 0 (by omega);have hl2:=o6 (p:=p) ws 0;generalize gh p 0 ws=ks at*;simp[show(aH ks).length<=lim by simp only[aH,length_map];show _<=16777216;omega];refine bC (F4 _ _ _ _) (iI fs) ⟨.aP,rfl,rfl⟩ ?_ ?_;.rintro d hd _⟨s',rfl,hs'⟩;simp only[aH,map_map,mem_map]at hd;obtain⟨k,hk,rfl⟩:=hd;obtain⟨f,hl⟩:∃f,fs[k]?=some f:=⟨_,getElem?_eq_getElem (u2 k hk)⟩;simp[hs',bw hl,iI,hl];exact⟨_,rfl,rfl⟩
 rintro _⟨s',rfl,hs'⟩;rw[jb];generalize(ks.map fun k=>fs.getD k 0)=ns at*;simp[u1];exact k
def Qo(s:Sl)(fs:List Int):Prop:=s=.val false (.lst (fs.map D.int))\/∃b,s=.own b (fs.map D.int)
theorem Rx{w n:Nat}{s:Sl}{m p:Int}{ws:List Wy}{fs:List Int}{Q:R->List Sl->Prop}(hs:Qo s fs)(h:bj m ws)(hf:fs.length=ws.length)(k:Q (.val (.int (ji p ws fs-jt p ws fs))) [.val false (aM m ws),s,.val false (.int p)]):(run Γ w (n+2) 7 [.val false (aM m ws),s,.val false (.int p)]).sat Q:=by
 rcases hs with rfl|⟨b,rfl⟩;.exact pD h hf k
 .exact pW h hf k
theorem jB(p:Int):∀(ws:List Wy)(fs:List Int),dot (fun x=>if x=p then 1 else 0) ws fs=jt p ws fs-ji p ws fs|[],_=>rfl|_::_,[]=>rfl|w::ws,f::fs=>by simp only[dot,jt,ji,jB p ws fs];by_cases e1:w.s=p<;>by_cases e2:w.t=p<;>simp[e1,e2]<;>omega
theorem Bk{w n:Nat}{b:Bool}{m:Int}{ws:List Wy}{fs:List Int}{Q:R->List Sl->Prop}(h:bj m ws)(hf:fs.length=ws.length)(k:Q (.val (.int (dot (fun x=>if x=0 then 1 else 0) ws fs))) [.val false (aM m ws),.own b (fs.map D.int)]):(run Γ w (n+3) 8 [.val false (aM m ws),.own b (fs.map D.int)]).sat Q:=by refine aO (d:=f8) rfl rfl (by decide) ?_;symm;simp[f8];refine pW h hf ?_;rw[jB]at k;simp;rw[show-(ji 0 ws fs-jt 0 ws fs)=jt 0 ws fs-ji 0 ws fs by omega];exact k
theorem An{w n:Nat}{m:Int}{ws:List Wy}{fs:List Int}{Q:R->List Sl->Prop}(h:bj m ws)(hf:fs.length=ws.length)(k:Q (.val (.int (dot (fun x=>if x=0 then 1 else 0) ws fs))) [.val false (aM m ws),.val false (.lst (fs.map D.int))]):(run Γ w (n+3) 8 [.val false (aM m ws),.val false (.lst (fs.map D.int))]).sat Q:=by refine aO (d:=f8) rfl rfl (by decide) ?_;symm;simp[f8];refine pD h hf ?_;rw[jB]at k;simp;rw[show-(ji 0 ws fs-jt 0 ws fs)=jt 0 ws fs-ji 0 ws fs by omega];exact k
theorem vJ{w n:Nat}{s:Sl}{m:Int}{ws:List Wy}{fs:List Int}{Q:R->List Sl->Prop}(hs:Qo s fs)(h:bj m ws)(hf:fs.length=ws.length)(k:Q (.val (.int (dot (fun x=>if x=0 then 1 else 0) ws fs))) [.val false (aM m ws),s]):(run Γ w (n+3) 8 [.val false (aM m ws),s]).sat Q:=by
 rcases hs with rfl|⟨b,rfl⟩;.exact An h hf k
 .exact Bk h hf k
theorem Us{ws:List Wy}{k:Int}(h0:0<=k)(h1:k<(ws.length:Int)):∃v,ws[k.toNat]?=some v/\v∈ws/\at' (ws.map Wy.d) k=some v.d:=by
 have hk:k.toNat<ws.length:=by omega
 refine⟨ws[k.toNat],by simp[hk],getElem_mem hk,?_⟩;rw[iB h0 (by simpa using h1)];simp[hk]
theorem Ag{v:Wy}:Aa v.d (.int 0)=some (.val (.int v.s)):=by simp[Wy.d]
theorem xr{v:Wy}:Aa v.d (.int 1)=some (.val (.int v.t)):=by simp[Wy.d]
theorem zP{v:Wy}:Aa v.d (.int 2)=some (.val (.int v.r)):=by simp[Wy.d]
theorem M3{v:Wy}:Aa v.d (.int 3)=some (.val (.int v.h)):=by simp[Wy.d]
inductive Wk(ws:List Wy)(a:Int):Int->Int->Prop where|nil:Wk ws a a 0|step{p h:Int}{v:Wy}(k:Wk ws a p h)(hv:v∈ws)(r:0<v.r)(s:v.s=p):Wk ws a v.t (h+v.h)
theorem Wk.nn{m a:Int}{ws:List Wy}(hn:bj m ws)(a0:0<=a)(a1:a<m){p h:Int}(k:Wk ws a p h):0<=h/\0<=p/\p<m:=by induction k with|nil=>omega|step k hv r s ih=>have h1:=hn.ok _ hv;have:=h1.h0;have:=h1.t0;have:=h1.t1;omega
theorem Wk.trans{ws:List Wy}{a p q h g:Int}(k:Wk ws a p h)(l:Wk ws p q g):Wk ws a q (h+g):=by induction l with|nil=>simpa using k|@step p' g' v l hv r s ih=>rw[<-Int.add_assoc];exact .step ih hv r s
theorem Wk.one{ws:List Wy}{v:Wy}(hv:v∈ws)(r:0<v.r):Wk ws v.s v.t v.h:=by have:=Wk.step (.nil:Wk ws v.s v.s 0) hv r rfl;simpa using this
theorem Wk.first{ws:List Wy}{a b h:Int}(k:Wk ws a b h):(a=b/\h=0)\/∃v∈ws,0<v.r/\v.s=a/\∃g,Wk ws v.t b g/\h=v.h+g:=by induction k with|nil=>exact .inl ⟨rfl,rfl⟩|@step p h v k hv r s ih=>
   right;rcases ih with⟨e,rfl⟩|⟨u,hu,ru,su,g,z,e⟩;.subst e;exact⟨v,hv,r,s,0,.nil,by omega⟩
   .exact⟨u,hu,ru,su,g+v.h,.step z hv r s,by omega⟩
def jf(ws:List Wy)(a p:Int)(o:Option Int):Prop:=match o with|none=>∀h,¬ Wk ws a p h|some v=>Wk ws a p v/\∀h,Wk ws a p h->v<=h
theorem jf.uniq{ws:List Wy}{a p:Int}{o o':Option Int}(h:jf ws a p o)(h':jf ws a p o'):o=o':=by cases o with
 |none=>cases o' with|none=>rfl|some v=>exact absurd h'.1 (h v)
 |some u=>cases o' with|none=>exact absurd h.1 (h' u)|some v=>have:=h.2 v h'.1;have:=h'.2 u h.1;congr 1;omega
theorem jf.iff{us ws:List Wy}{a p b q:Int}{o:Option Int}(e:∀h,Wk us a p h↔Wk ws b q h)(k:jf us a p o):jf ws b q o:=by cases o with|none=>exact fun h z=>k h ((e h).mpr z)|some v=>exact⟨(e v).mp k.1,fun h z=>k.2 h ((e h).mpr z)⟩
noncomputable def oD:Option Int->D|none=>.non|some i=>.int i
noncomputable def dD(ws:List Wy)(ps:List Int)(k:Int):Option (List Int):=if 0<=k/\k<ws.length then match ws[k.toNat]?with|some v=>if v.r<1 then none else if ps=[]then(if v.t=v.s then none else some [v.s,v.t])else if ps.getLast?=some v.s/\v.t∉ps then some (ps++[v.t])else none|none=>none else none
noncomputable def lQ(ws:List Wy):List Int->List Int->Option (List Int)|[],ps=>some ps|k::r,ps=>match dD ws ps k with|some qs=>lQ ws r qs|none=>none
noncomputable def hh(ws:List Wy)(k:Int):Int:=match ws[k.toNat]?with|some v=>v.h|none=>0
noncomputable def tot(ws:List Wy)(l:List Int):Int:=(l.map (hh ws)).sum
theorem ou{ws:List Wy}{ps qs:List Int}{k:Int}(h:dD ws ps k=some qs):0<=k/\k<(ws.length:Int)/\qs.length<=ps.length+2/\qs≠[]:=by
 unfold dD at h;by_cases e:0<=k/\k<(ws.length:Int)
 . rw[if_pos e]at h;refine⟨e.1,e.2,?_⟩;split at h
   . split at h;.cases h
     . split at h
       . split at h;.cases h
         .cases h;rename_i z _;rw[z];simp
       . split at h;.cases h;simp
         .cases h
   .cases h
 .rw[if_neg e]at h;cases h
theorem Oh{ws:List Wy}:∀{l ps qs:List Int},lQ ws l ps=some qs->∀k∈l,0<=k/\k<(ws.length:Int)|[],_,_,_,k,hk=>by cases hk|a::l,ps,qs,h,k,hk=>by rw[lQ]at h;cases e:dD ws ps a with|none=>rw[e]at h;cases h|some rs=>
     rw[e]at h;rcases mem_cons.mp hk with rfl|hk;.exact⟨(ou e).1,(ou e).2.1⟩
     .exact Oh h k hk
noncomputable def Gi:Option Int->Nat|none=>6000001|some v=>v.toNat
noncomputable def meas(hs:List (Option Int)):Nat:=(hs.map Gi).sum
noncomputable def cnt(hs:List (Option Int)):Nat:=(hs.filter Option.isSome).length
theorem uD:∀{hs:List (Option Int)}{k:Nat}{o n:Option Int},hs[k]?=some o->Gi n<Gi o->meas (hs.set k n)<meas hs|[],_,_,_,h,_=>by simp at h|x::hs,0,o,n,h,l=>by simp at h;subst h;simp only[meas,List.set_cons_zero,map_cons,sum_cons];omega|x::hs,k+1,o,n,h,l=>by have:=uD (hs:=hs) (k:=k) (by simpa using h) l;simp only[meas,List.set_cons_succ,map_cons,sum_cons]at this ⊢;omega
theorem yR:∀(hs:List (Option Int)),(∀o∈hs,Gi o<=6000001)->meas hs<=6000001*hs.length|[],_=>by simp[meas]|x::hs,h=>by have h1:=h x (by simp);have h2:=yR hs fun o ho=>h o (by simp[ho]);simp only[meas,map_cons,sum_cons,length_cons]at h2 ⊢;omega
theorem jo:∀{hs:List (Option Int)}{k:Nat}{v:Int},hs[k]?=some none->cnt (hs.set k (some v))=cnt hs+1|[],_,_,h=>by simp at h|x::hs,0,v,h=>by simp at h;subst h;simp[cnt]|x::hs,k+1,v,h=>by have:=jo (hs:=hs) (k:=k) (v:=v) (by simpa using h);simp only[cnt,List.set_cons_succ,List.filter_cons]at this ⊢;split<;>simp[this]
theorem mV:∀{hs:List (Option Int)}{k:Nat}{u v:Int},hs[k]?=some (some u)->cnt (hs.set k (some v))=cnt hs|[],_,_,_,h=>by simp at h|x::hs,0,u,v,h=>by simp at h;subst h;simp[cnt]|x::hs,k+1,u,v,h=>by have:=mV (hs:=hs) (k:=k) (v:=v) (by simpa using h);simp only[cnt,List.set_cons_succ,List.filter_cons]at this ⊢;split<;>simp[this]
theorem wu(hs:List (Option Int)):cnt hs<=hs.length:=List.length_filter_le _ _
structure BK(m:Int)(ws:List Wy)(a0:Int)(hs:List (Option Int)):Prop where
 len:(hs.length:Int)=m
 zero:hs[a0.toNat]?=some (some 0)wk:∀(p:Nat)(v:Int),hs[p]?=some (some v)->Wk ws a0 p v/\v<=1000000*((cnt hs:Int)-1)
def lz(hs:List (Option Int))(v:Wy):Prop:=0<v.r->∀a:Int,hs[v.s.toNat]?=some (some a)->∃b:Int,hs[v.t.toNat]?=some (some b)/\b<=a+v.h
theorem BK.pot{m a0:Int}{ws:List Wy}(hn:bj m ws){hs:List (Option Int)}(h:BK m ws a0 hs):∀o∈hs,Gi o<=6000001:=by intro o ho;obtain⟨p,hp,e⟩:=List.getElem_of_mem ho;cases o with|none=>exact le_refl _|some v=>have h1:=(h.wk p v (by rw[getElem?_eq_getElem hp,e])).2;have h2:=wu hs;have h3:=h.len;have h4:=hn.m1;show v.toNat<=_;omega
theorem BK.upd{m a0:Int}{ws:List Wy}(hn:bj m ws)(z0:0<=a0)(z1:a0<m){hs:List (Option Int)}(h:BK m ws a0 hs){v:Wy}(hv:v∈ws)(r:0<v.r){a:Int}{o:Option Int}(ha:hs[v.s.toNat]?=some (some a))(ho:hs[v.t.toNat]?=some o)(hl:∀b,o=some b->a+v.h<b):BK m ws a0 (hs.set v.t.toNat (some (a+v.h)))/\meas (hs.set v.t.toNat (some (a+v.h)))<meas hs:=by
 have hk:=hn.ok v hv;have s0:=hk.s0;have t0:=hk.t0;have h0:=hk.h0;have h1:=hk.h1;obtain⟨wa,la⟩:=h.wk _ _ ha;rw[show((v.s.toNat:Nat):Int)=v.s by omega]at wa;have an:=(wa.nn hn z0 z1).1;have wt:Wk ws a0 v.t (a+v.h):=.step wa hv r rfl;have hlt:=(List.getElem?_eq_some_iff.mp ho).1;have hnz:v.t.toNat≠a0.toNat:=by intro e;rw[e,h.zero]at ho;cases ho;have:=hl 0 rfl;omega
 have hc:(cnt hs:Int)<=cnt (hs.set v.t.toNat (some (a+v.h)))/\a+v.h<=1000000*((cnt (hs.set v.t.toNat (some (a+v.h))):Int)-1):=by cases o with|none=>rw[jo ho];omega|some b=>rw[mV ho];have:=(h.wk _ _ ho).2;have:=hl b rfl;omega
 refine⟨⟨by rw[List.length_set];exact h.len,by rw[getElem?_set_ne hnz];exact h.zero,fun p u e=>?_⟩,uD ho ?_⟩
 . by_cases hp:p=v.t.toNat;.subst hp;rw[getElem?_set_self hlt]at e;cases e;refine⟨by rw[show((v.t.toNat:Nat):Int)=v.t by omega];exact wt,hc.2⟩
   .rw[getElem?_set_ne (Ne.symm hp)]at e;obtain⟨w1,w2⟩:=h.wk p u e;exact⟨w1,by omega⟩
 .cases o with|none=>show(a+v.h).toNat<6000001;have h2:=wu hs;have h3:=h.len;have h4:=hn.m1;omega|some b=>have:=hl b rfl;show(a+v.h).toNat<b.toNat;omega
theorem BK.least{m a0:Int}{ws:List Wy}(z0:0<=a0)(hn:bj m ws){hs:List (Option Int)}(h:BK m ws a0 hs)(hr:∀v∈ws,lz hs v):∀(p:Nat)(o:Option Int),hs[p]?=some o->jf ws a0 p o:=by
 have key:∀(p g:Int),Wk ws a0 p g->∃b:Int,hs[p.toNat]?=some (some b)/\b<=g:=by intro p g k;induction k with|nil=>exact⟨0,h.zero,Int.le_refl _⟩|@step p g v k hv r s ih=>obtain⟨a,ha,la⟩:=ih;obtain⟨b,hb,lb⟩:=hr v hv r a (by rw[s];exact ha);exact⟨b,hb,by omega⟩
 intro p o e;cases o with|none=>intro g k;obtain⟨b,hb,_⟩:=key _ _ k;rw[show((p:Nat):Int).toNat=p by omega,e]at hb;cases hb|some v=>refine⟨(h.wk p v e).1,fun g k=>?_⟩;obtain⟨b,hb,l⟩:=key _ _ k;rw[show((p:Nat):Int).toNat=p by omega,e]at hb;cases hb;exact l
theorem BK.start{m a0:Int}{ws:List Wy}(hn:bj m ws)(z0:0<=a0)(z1:a0<m):BK m ws a0 ((replicate m.toNat none).set a0.toNat (some 0)):=by
 have m0:=hn.m0;refine⟨by rw[List.length_set,length_replicate];omega,getElem?_set_self (by rw[length_replicate];omega),fun p v e=>?_⟩;by_cases hp:p=a0.toNat;.subst hp;rw[getElem?_set_self (by rw[length_replicate];omega)]at e;cases e;refine⟨by rw[show((a0.toNat:Nat):Int)=a0 by omega];exact .nil,?_⟩;rw[jo (by rw[getElem?_replicate,if_pos (by omega)])];omega
 .rw[getElem?_set_ne (Ne.symm hp),getElem?_replicate]at e;split at e<;>cases e
theorem nT{α:Type}{l:List α}{f:α->D}{i:Int}{x:α}(h0:0<=i)(h:l[i.toNat]?=some x):at' (l.map f) i=some (f x):=by have:=bw (f:=f) h;rwa[show((i.toNat:Nat):Int)=i by omega]at this
theorem Cw{n:Nat}{i:Int}(h0:0<=i)(h:i<n):gq n i=some i.toNat:=by have:=rT (n:=n) (k:=i.toNat) (by omega);rwa[show((i.toNat:Nat):Int)=i by omega]at this
@[simp]theorem G9:gR (oD none)=true:=rfl
@[simp]theorem G8{v:Int}:gR (oD (some v))=false:=rfl
inductive PJ(m:Int)(ws:List Wy)(a0:Int)(M:Nat)(r:List D)(ρ:List Sl):Prop where|mk(hs:List (Option Int))(b:Bool)(us pre:List Wy)(s4 s5:Sl)(q0:ρ=[.val false (aM m ws),.val false (.int a0),.own false (hs.map oD),.val false (.bl b),s4,s5])(q1:fr s4=true)(q2:fr s5=true)(q3:r=us.map Wy.d)(q4:ws=pre++us)(q5:BK m ws a0 hs)(q6:meas hs<=M)(q7:((b=true/\meas hs<M)\/(b=false/\∀v∈pre,lz hs v)))
inductive WJ(m:Int)(ws:List Wy)(a0:Int)(M:Nat)(ρ:List Sl):Prop where|mk(hs:List (Option Int))(b:Bool)(s4 s5:Sl)(q0:ρ=[.val false (aM m ws),.val false (.int a0),.own false (hs.map oD),.val false (.bl b),s4,s5])(q1:fr s4=true)(q2:fr s5=true)(q3:BK m ws a0 hs)(q4:((b=true/\meas hs<M)\/(b=false/\∀v∈ws,lz hs v)))
theorem Cu{w n:Nat}{m a0:Int}{ws:List Wy}{Q:R->List Sl->Prop}(hw:50000000<=w)(h:bj m ws)(z0:0<=a0)(z1:a0<m)(k:∀hs:List (Option Int),(hs.length:Int)=m->(∀(p:Nat)(o:Option Int),hs[p]?=some o->jf ws a0 p o)->(∀(p:Nat)(v:Int),hs[p]?=some (some v)->0<=v/\v<=6000000)->Q (.own (hs.map oD)) [.val false (aM m ws),.val false (.int a0)]):(run Γ w (n+1) 3 [.val false (aM m ws),.val false (.int a0)]).sat Q:=by
 have m0:=h.m0;have m1:=h.m1;refine aO (d:=f3) rfl rfl (by decide) ?_;refine cL (fun ρ=>ρ=[.val false (aM m ws),.val false (.int a0),.own false ((replicate m.toNat (none:Option Int)).map oD),.aP,.aP,.aP]) ?_ ?_;.simp[f3,oD];refine⟨by omega,by show _<=16777216;omega⟩
 rintro _ rfl;refine cL (fun ρ=>ρ=[.val false (aM m ws),.val false (.int a0),.own false (((replicate m.toNat (none:Option Int)).set a0.toNat (some 0)).map oD),.aP,.aP,.aP]) ?_ ?_;.simp[Cw (n:=m.toNat) (i:=a0) z0 (by omega),oD]
 rintro _ rfl;have hst:=BK.start h z0 z1;generalize((replicate m.toNat (none:Option Int)).set a0.toNat (some 0))=hs0 at*;symm;simp;apply aj;simp;have hm0:meas hs0<=6000001*hs0.length:=yR hs0 (hst.pot h);have hl0:=hst.len;refine dY (WJ m ws a0) ?_ (k:=w) (m:=meas hs0+1) (by omega) ⟨hs0,true,.aP,.aP,rfl,rfl,rfl,hst,.inl ⟨rfl,Nat.lt_succ_self _⟩⟩;rintro M _⟨hs,b,s4,s5,rfl,h4,h5,hh,hb⟩;simp;rcases hb with⟨rfl,hM⟩|⟨rfl,acZ⟩
 . simp;symm;simp;apply aj;simp;refine bI (PJ m ws a0 (meas hs)) ?_ ?_ ⟨hs,false,ws,[],s4,s5,rfl,h4,h5,rfl,rfl,hh,le_refl _,.inr ⟨rfl,by simp⟩⟩;.rintro d r _⟨hs',b,us,pre,s4,s5,rfl,h4,h5,hr,hws,hh',hle,hb⟩;cases us with|nil=>cases hr|cons v us=>
       obtain⟨rfl,rfl⟩:d=v.d/\r=us.map Wy.d:=by simpa using hr
       have hv:v∈ws:=by rw[hws];simp
       have hk:=h.ok v hv;have s0:=hk.s0;have s1:=hk.s1;have t0:=hk.t0;have t1:=hk.t1;have hlen:=hh'.len;obtain⟨os,es⟩:∃o,hs'[v.s.toNat]?=some o:=⟨_,getElem?_eq_getElem (by omega)⟩;obtain⟨ot,et⟩:∃o,hs'[v.t.toNat]?=some o:=⟨_,getElem?_eq_getElem (by omega)⟩;have as:=nT (f:=oD) s0 es;have at_:=nT (f:=oD) t0 et;have ixt:gq hs'.length v.t=some v.t.toNat:=Cw t0 (by omega);have G3:ws=(pre++[v])++us:=by rw[hws];simp
       have stay:lz hs' v->((b=true/\meas hs'<meas hs)\/(b=false/\∀u∈pre++[v],lz hs' u)):=fun hx=>by
        rcases hb with hb|⟨hb,hp⟩;.exact .inl hb
        . refine .inr ⟨hb,fun u hu=>?_⟩;rcases mem_append.mp hu with hu|hu;.exact hp u hu
          .rw[mem_singleton.mp hu];exact hx
       simp[h4];apply aj;by_cases r0:0<v.r;.cases os with|none=>simp[Wy.d,r0,as];exact⟨hs',b,us,pre++[v],_,_,rfl,rfl,h5,rfl,G3,hh',hle,stay fun _ a ha=>by rw[es]at ha;cases ha⟩|some a=>
           have up:=fun(hl:∀b,ot=some b->a+v.h<b)=>hh'.upd h z0 z1 hv r0 es et hl;simp[Wy.d,r0,as];apply aj;simp[as,oD,h5];have rH:∀hs2:List (Option Int),hs2=hs'.set v.t.toNat (some (a+v.h))->(hs'.map oD).set v.t.toNat (D.int (a+v.h))=hs2.map oD:=fun hs2 e=>by rw[e,map_set];rfl
           symm;cases ot with|none=>
             obtain⟨u1,u2⟩:=up fun b hb=>by cases hb
             have hse:=rH _ rfl;generalize hs'.set v.t.toNat (some (a+v.h))=hs2 at*;simp[at_];apply aj;simp[ixt,hse];apply aj;simp;exact⟨hs2,true,us,pre++[v],_,_,rfl,rfl,rfl,rfl,G3,u1,by omega,.inl ⟨rfl,by omega⟩⟩|some bb=>
             by_cases hlt:a+v.h<bb
             . obtain⟨u1,u2⟩:=up fun b hb=>by cases hb;exact hlt
               have hse:=rH _ rfl;generalize hs'.set v.t.toNat (some (a+v.h))=hs2 at*;simp[at_,oD,hlt];apply aj;simp[ixt,hse];apply aj;simp;exact⟨hs2,true,us,pre++[v],_,_,rfl,rfl,rfl,rfl,G3,u1,by omega,.inl ⟨rfl,by omega⟩⟩
             .simp[at_,oD,hlt];exact⟨hs',b,us,pre++[v],_,_,rfl,rfl,rfl,rfl,G3,hh',hle,stay fun _ a' ha=>by rw[es]at ha;cases ha;exact⟨bb,et,by omega⟩⟩
       .simp[Wy.d,r0];exact⟨hs',b,us,pre++[v],_,_,rfl,rfl,h5,rfl,G3,hh',hle,stay fun hx=>absurd hx r0⟩
   . rintro _⟨hs',b,us,pre,s4,s5,rfl,h4,h5,hr,hws,hh',hle,hb⟩;have:us=[]:=by cases us with|nil=>rfl|cons _ _=>cases hr
     subst this;rw[append_nil]at hws;subst hws;simp;rcases hb with⟨rfl,hl⟩|⟨rfl,hp⟩;.exact⟨meas hs,hM,hs',true,_,_,rfl,h4,h5,hh',.inl ⟨rfl,hl⟩⟩
     .exact⟨0,by omega,hs',false,_,_,rfl,h4,h5,hh',.inr ⟨rfl,hp⟩⟩
 .simp;symm;simp;exact k hs hh.len (hh.least z0 h acZ) fun p v e=>by have h1:=hh.wk p v e;have h2:=wu hs;have h3:=hh.len;exact⟨(h1.1.nn h z0 z1).1,by omega⟩
noncomputable def Wy.turn(m:Int)(w:Wy):Wy:=⟨m-1-w.t,m-1-w.s,w.r,w.h⟩
theorem Aj{m:Int}{ws:List Wy}:(ws.map (Wy.turn m)).map (Wy.turn m)=ws:=by
 rw[map_map];have:(Wy.turn m ∘ Wy.turn m)=id:=by funext w;cases w;simp only[Function.comp,Wy.turn,id];congr 1<;>omega
 rw[this];simp
theorem Gw{m:Int}{ws:List Wy}(h:bj m ws):bj m (ws.map (Wy.turn m)):=by refine⟨h.m0,h.m1,by simpa using h.len,fun v hv=>?_⟩;obtain⟨u,hu,rfl⟩:=mem_map.mp hv;have o:=h.ok u hu;have:=o.s0;have:=o.s1;have:=o.t0;have:=o.t1;have:=o.ne;exact⟨by show 0<=m-1-u.t;omega,by show m-1-u.t<m;omega,by show 0<=m-1-u.s;omega,by show m-1-u.s<m;omega,by show m-1-u.t≠m-1-u.s;omega,o.r0,o.r1,o.h0,o.h1⟩
theorem Wk.turned{m:Int}{ws:List Wy}{b P h:Int}(k:Wk (ws.map (Wy.turn m)) (m-1-b) P h):Wk ws (m-1-P) b h:=by induction k with|nil=>rw[show m-1-(m-1-b)=b by omega];exact .nil|@step p h v k hv r s ih=>
   obtain⟨u,hu,rfl⟩:=mem_map.mp hv;have s':m-1-u.t=p:=s;have e1:m-1-p=u.t:=by omega
   rw[e1]at ih;have e2:m-1-(Wy.turn m u).t=u.s:=by show m-1-(m-1-u.s)=u.s;omega
   rw[e2];have:=(Wk.one hu (show 0<u.r from r)).trans ih;rw[Int.add_comm];exact this
theorem HD{m:Int}{ws:List Wy}{p b h:Int}:Wk (ws.map (Wy.turn m)) (m-1-b) (m-1-p) h↔Wk ws p b h:=by
 constructor;.intro k;have:=k.turned;rwa[show m-1-(m-1-p)=p by omega]at this
 . intro k;have k':Wk ((ws.map (Wy.turn m)).map (Wy.turn m)) (m-1-(m-1-p)) b h:=by rw[Aj,show m-1-(m-1-p)=p by omega];exact k
   exact k'.turned
noncomputable def trD(m:Int):D->D|.tup [.int s,.int t,.int r,.int h]=>(Wy.turn m ⟨s,t,r,h⟩).d|d=>d
theorem KH{m:Int}{w:Wy}:trD m w.d=(w.turn m).d:=rfl
inductive FT3(a b c:Sl)(ρ:List Sl):Prop where|mk(s:Sl)(q0:ρ=[a,b,c,s])(q1:fr s=true)
theorem wC{w n:Nat}{m:Int}{ws:List Wy}{Q:R->List Sl->Prop}(hl:ws.length<=13)(q:Q (.val (aM m (ws.map (Wy.turn m)))) [.val false (aM m ws)]):(run Γ w (n+1) 2 [.val false (aM m ws)]).sat Q:=by
 refine aO (d:=f2) rfl rfl (by decide) ?_;symm;simp[f2];apply aj;have hlim:ws.length<=lim:=by show _<=16777216;omega
 simp[hlim];refine bC (FT3 _ _ _) (trD m) ⟨.aP,rfl,rfl⟩ ?_ ?_;.rintro d hd _⟨s,rfl,hs⟩;obtain⟨v,hv,rfl⟩:=mem_map.mp hd;simp[hs,Ag,xr,zP,M3,KH];exact⟨rfl,_,rfl,rfl⟩
 rintro _⟨s,rfl,hs⟩;simp;apply aj;simp;have e:aM m (ws.map (Wy.turn m))=.tup [.int m,.tup ((ws.map Wy.d).map (trD m))]:=by simp[aM,KH]
 rw[e]at q;simpa using q
@[simp]theorem Wq{ds:List D}:blt .J7 [.lst ds]=some (.own ds.reverse):=rfl
structure LOk(m:Int)(ws:List Wy)(b:Int)(L:List (Option Int)):Prop where
 len:(L.length:Int)=m
 least:∀(p:Nat)(o:Option Int),L[p]?=some o->jf ws p b o
 bnd:∀(p:Nat)(v:Int),L[p]?=some (some v)->0<=v/\v<=6000000
theorem PQ{w n:Nat}{m b:Int}{ws:List Wy}{Q:R->List Sl->Prop}(hw:50000000<=w)(h:bj m ws)(b0:0<=b)(b1:b<m)(k:∀L:List (Option Int),LOk m ws b L->Q (.own (L.map oD)) [.val false (aM m ws),.val false (.int b)]):(run Γ w (n+2) 4 [.val false (aM m ws),.val false (.int b)]).sat Q:=by
 have m0:=h.m0;have hl:=h.len;refine aO (d:=f4) rfl rfl (by decide) ?_;symm;simp[f4];refine wC (by omega) ?_;simp;refine Cu hw (Gw h) (by omega) (by omega) fun hs h1 h2 h3=>?_;simp;rw[<-List.map_reverse];have ix:∀(p:Nat)(o:Option Int),hs.reverse[p]?=some o->hs[hs.length-1-p]?=some o/\p<hs.length:=fun p o e=>by
  have hp:p<hs.length:=by have:=(List.getElem?_eq_some_iff.mp e).1;simpa using this
  rw[List.getElem?_reverse hp]at e;exact⟨e,hp⟩
 refine k hs.reverse ⟨by simpa using h1,fun p o e=>?_,fun p v e=>?_⟩;.obtain⟨e1,hp⟩:=ix p o e;have:=h2 _ o e1;rw[show((hs.length-1-p:Nat):Int)=m-1-(p:Int)by omega]at this;exact this.iff fun h=>HD
 .obtain⟨e1,hp⟩:=ix p _ e;exact h3 _ v e1
noncomputable def vz(L:List (Option Int))(v:Wy):Bool:=decide (0<v.r)&&match L[v.t.toNat]?with|some (some g)=>(match L[v.s.toNat]?with|some (some f)=>v.h+g==f|_=>false)|_=>false
theorem Pn{i:Int}:cm .eq (.int i) .non=some false:=rfl
theorem DY{w n:Nat}{m:Int}{v:Wy}{L:List (Option Int)}{Q:R->List Sl->Prop}(vo:v.Ok m)(hl:(L.length:Int)=m)(q:Q (.val (.bl (vz L v))) [.val false v.d,.own true (L.map oD)]):(run Γ w (n+1) 5 [.val false v.d,.own true (L.map oD)]).sat Q:=by
 have s0:=vo.s0;have s1:=vo.s1;have t0:=vo.t0;have t1:=vo.t1;obtain⟨os,es⟩:∃o,L[v.s.toNat]?=some o:=⟨_,getElem?_eq_getElem (by omega)⟩;obtain⟨ot,et⟩:∃o,L[v.t.toNat]?=some o:=⟨_,getElem?_eq_getElem (by omega)⟩;have as:=nT (f:=oD) s0 es;have at_:=nT (f:=oD) t0 et;refine aO (d:=f5) rfl rfl (by decide) ?_;symm;unfold vz at q;rw[es,et]at q;by_cases hr:0<v.r;.cases ot with|none=>simp[f5,xr,zP,hr,at_];simpa[hr]using q|some g=>cases os with|none=>simp[f5,Ag,xr,zP,M3,hr,at_,as];simp[oD,Ag,as,Pn];simpa[hr]using q|some f=>simp[f5,Ag,xr,zP,M3,hr,at_,as];simp[oD,Ag,as];simpa[hr]using q
 .simp[f5,zP,hr];simpa[hr]using q
noncomputable def outI(ws:List Wy)(p:Int):List Int:=aH (gh p 0 ws)
theorem p6{p:Int}{j:Nat}:∀{ws:List Wy}{i:Nat},j∈gh p i ws↔∃v,i<=j/\ws[j-i]?=some v/\v.s=p
 |[],i=>by simp[gh]|w::ws,i=>by
   have ih:=p6 (p:=p) (j:=j) (ws:=ws) (i:=i+1);have key:(∃v,i<=j/\(w::ws)[j-i]?=some v/\v.s=p)↔(j=i/\w.s=p)\/∃v,i+1<=j/\ws[j-(i+1)]?=some v/\v.s=p:=by
    constructor
    . rintro⟨v,h1,h2,h3⟩;by_cases e:j=i;.subst e;simp at h2;subst h2;exact .inl ⟨rfl,h3⟩
      .rw[show j-i=(j-(i+1))+1 by omega,getElem?_cons_succ]at h2;exact .inr ⟨v,by omega,h2,h3⟩
    . rintro(⟨rfl,h⟩|⟨v,h1,h2,h3⟩);.exact⟨w,le_refl _,by simp,h⟩
      .exact⟨v,by omega,by rw[show j-i=(j-(i+1))+1 by omega,getElem?_cons_succ];exact h2,h3⟩
   rw[key,<-ih,gh];by_cases e:w.s=p;.rw[if_pos e,mem_cons];simp[e]
   .rw[if_neg e];simp[e]
theorem sV{ws:List Wy}{p k:Int}:k∈outI ws p↔0<=k/\k<(ws.length:Int)/\∃v,ws[k.toNat]?=some v/\v.s=p:=by
 unfold outI aH;rw[mem_map];constructor;.rintro⟨j,hj,rfl⟩;obtain⟨v,_,h2,h3⟩:=p6.mp hj;have:=(List.getElem?_eq_some_iff.mp h2).1;exact⟨by omega,by omega,v,by simpa using h2,h3⟩
 .rintro⟨h0,h1,v,h2,h3⟩;exact⟨k.toNat,p6.mpr ⟨v,zero_le _,by simpa using h2,h3⟩,by omega⟩
theorem Ga{ws:List Wy}{p:Int}:∀{us:List Wy}{i:Nat},(gh p i us).length<=us.length|[],_=>le_refl _|w::us,i=>by rw[gh];have:=Ga (ws:=ws) (p:=p) (us:=us) (i:=i+1);split<;>simp<;>omega
noncomputable def isC(ws:List Wy)(L:List (Option Int))(k:Int):Bool:=match ws[k.toNat]?with|some v=>vz L v|none=>false
noncomputable def gQ(ws:List Wy)(L:List (Option Int)):D->Option D|.int k=>if isC ws L k=true then some (.int k)else none|_=>none
theorem MJ{ws:List Wy}{L:List (Option Int)}(ks:List Int):(ks.map D.int).filterMap (gQ ws L)=(ks.filter (isC ws L)).map D.int:=by induction ks with|nil=>rfl|cons k ks ih=>rw[map_cons,filterMap_cons,List.filter_cons,ih];rw[show gQ ws L (.int k)=if isC ws L k=true then some (D.int k)else none from rfl];by_cases h:isC ws L k=true<;>simp[h]
theorem zH{ws:List Wy}{ps rs:List Int}{k:Int}(hp:ps≠[])(h:dD ws ps k=some rs):∃v,ws[k.toNat]?=some v/\rs=ps++[v.t]/\v.t∉ps/\ps.getLast?=some v.s/\v∈ws:=by
 have Zt:=ou h;obtain⟨v,hv,hm,ha⟩:=Us Zt.1 Zt.2.1;unfold dD at h;rw[if_pos ⟨Zt.1,Zt.2.1⟩,hv]at h;simp only[if_neg hp]at h;split at h;.cases h
 . split at h;.rename_i hc;cases h;exact⟨v,hv,rfl,hc.2,hc.1,hm⟩
   .cases h
theorem yV{m:Int}{ws:List Wy}{ps:List Int}{k:Int}{v:Wy}(hk:bj m ws)(hp:ps≠[])(k0:0<=k)(k1:k<(ws.length:Int))(hv:ws[k.toNat]?=some v)(hr:0<v.r)(hl:ps.getLast?=some v.s)(hn:v.t∉ps):dD ws ps k=some (ps++[v.t]):=by unfold dD;rw[if_pos ⟨k0,k1⟩,hv];simp only[if_neg hp];rw[if_neg (by omega),if_pos ⟨hl,hn⟩]
theorem uP{ws:List Wy}{k:Int}:∀{l ps:List Int},lQ ws (l++[k]) ps=match lQ ws l ps with|some qs=>dD ws qs k|none=>none
 |[],ps=>by rw[nil_append,lQ,lQ];show(match dD ws ps k with|some qs=>lQ ws [] qs|none=>none)=dD ws ps k;cases dD ws ps k with|none=>rfl|some qs=>simp[lQ]
 |a::l,ps=>by rw[List.cons_append,lQ,lQ];cases e:dD ws ps a with|none=>rfl|some qs=>exact uP
theorem Eb{m:Int}{ws:List Wy}(hk:bj m ws):∀{l ps qs:List Int},ps≠[]->ps.Nodup->(∀x∈ps,0<=x/\x<m)->lQ ws l ps=some qs->qs.Nodup/\(∀x∈qs,0<=x/\x<m)/\qs.length=ps.length+l.length|[],ps,qs,_,h1,h2,h=>by rw[lQ]at h;cases h;exact⟨h1,h2,by simp⟩|k::l,ps,qs,hp,h1,h2,h=>by rw[lQ]at h;cases e:dD ws ps k with
   |none=>rw[e]at h;cases h|some rs=>rw[e]at h;obtain⟨v,hv,rfl,hn,_,hm⟩:=zH hp e;have vo:=hk.ok v hm;obtain⟨z1,z2,z3⟩:=Eb hk (l:=l) (ps:=ps++[v.t]) (by simp) (by rw[nodup_append];refine⟨h1,by simp,fun x hx y hy=>?_⟩;rw[mem_singleton.mp hy];intro z;rw[z]at hx;exact hn hx) (fun x hx=>by
      rcases mem_append.mp hx with hx|hx;.exact h2 x hx
      .rw[mem_singleton.mp hx];exact⟨vo.t0,vo.t1⟩) h;refine⟨z1,z2,?_⟩;rw[z3];simp;omega
theorem kW{α:Type}[BEq α][LawfulBEq α]:∀{l l2:List α},l.Nodup->(∀a∈l,a∈l2)->l.length<=l2.length
 |[],_,_,_=>zero_le _|a::l,l2,hn,hs=>by
   have ha:=hs a (by simp);have hn':=nodup_cons.mp hn;have:=kW (l:=l) (l2:=l2.erase a) hn'.2 fun b hb=>by
    have hba:b≠a:=by rintro rfl;exact hn'.1 hb
    exact(List.mem_erase_of_ne hba).mpr (hs b (by simp[hb]))
   rw[List.length_erase_of_mem ha]at this;have:=List.length_pos_of_mem ha;simp only[length_cons];omega
theorem Ax{m:Int}{ws:List Wy}(hk:bj m ws){l qs:List Int}(h:lQ ws l [0]=some qs):l.length<=5:=by
 have m0:=hk.m0;have m1:=hk.m1;obtain⟨z1,z2,z3⟩:=Eb hk (by simp) (by simp) (fun x hx=>by rw[mem_singleton.mp hx];omega) h;have:=kW (l2:=[0,1,2,3,4,5]) z1 fun x hx=>by
  have:=z2 x hx;have:x=0\/x=1\/x=2\/x=3\/x=4\/x=5:=by omega
  simpa using this
 simp at this z3;omega
theorem Dg{ws:List Wy}{l:List Int}{k:Int}:tot ws (l++[k])=tot ws l+hh ws k:=by simp[tot]
theorem Av{m b p g:Int}{ws:List Wy}{L:List (Option Int)}(hk:bj m ws)(hL:LOk m ws b L)(p0:0<=p)(p1:p<m)(hg:L[p.toNat]?=some (some g))(hne:p≠b):∃(k:Int),k∈(outI ws p).filter (isC ws L):=by
 have hle:=hL.least _ _ hg;rw[show((p.toNat:Nat):Int)=p by omega]at hle;rcases hle.1.first with⟨e,_⟩|⟨v,hv,r,s,g',z,e⟩;.exact absurd e hne
 .obtain⟨i,hi,ei⟩:=List.getElem_of_mem hv;have vo:=hk.ok v hv;have t0:=vo.t0;have t1:=vo.t1;have hlen:=hL.len;obtain⟨ot,et⟩:∃o,L[v.t.toNat]?=some o:=⟨_,getElem?_eq_getElem (by omega)⟩;have hlt:=hL.least _ _ et;rw[show((v.t.toNat:Nat):Int)=v.t by omega]at hlt;cases ot with|none=>exact absurd z (hlt g')|some f=>
     have h1:=hlt.2 g' z;have h2:g<=v.h+f:=by have:=(Wk.one hv r).trans hlt.1;rw[s]at this;exact hle.2 _ this
     refine⟨(i:Int),mem_filter.mpr ⟨sV.mpr ⟨by omega,by omega,v,by rw[Int.toNat_natCast,getElem?_eq_getElem hi,ei],s⟩,?_⟩⟩;unfold isC;rw[Int.toNat_natCast,getElem?_eq_getElem hi,ei];simp only[vz,et,s,hg,r,decide_true,Bool.true_and];simp;omega
inductive JSw(m:Int)(ws:List Wy)(b g0:Int)(L:List (Option Int))(M:Nat)(ρ:List Sl):Prop where|mk(l ps:List Int)(p g:Int)(s5:Sl)(q0:ρ=[.val false (aM m ws),.val false (.int b),.own false (L.map oD),.own false (l.map D.int),.val false (.int p),s5])(q1:fr s5=true)(q2:0<=p)(q3:p<m)(q4:L[p.toNat]?=some (some g))(q5:g.toNat<=M)(q6:lQ ws l [0]=some ps)(q7:ps.getLast?=some p)(q8:(∀x∈ps,∃gx,L[x.toNat]?=some (some gx)/\g<=gx))(q9:tot ws l+g=g0)
inductive FW(a b c d e f:Sl)(ρ:List Sl):Prop where|mk(s:Sl)(q0:ρ=[a,b,c,d,e,f,s])(q1:fr s=true)
theorem Ep{ns:List Int}(h:ns≠[]):∃i,i∈ns/\ns.min?=some i:=by cases e:ns.min? with|none=>rw[List.min?_eq_none_iff]at e;exact absurd e h|some i=>exact⟨i,List.min?_mem e,rfl⟩
theorem Ek{w n:Nat}{m b g0:Int}{ws:List Wy}{Q:R->List Sl->Prop}(hw:50000000<=w)(hk:bj m ws)(b0:0<=b)(b1:b<m)(hg0:jf ws 0 b (some g0))(q:∀(l ps:List Int),lQ ws l [0]=some ps->ps.getLast?=some b->Q (.val (.tup (l.map D.int))) [.val false (aM m ws),.val false (.int b)]):(run Γ w (n+3) 6 [.val false (aM m ws),.val false (.int b)]).sat Q:=by
 have m0:=hk.m0;refine aO (d:=f6) rfl rfl (by decide) ?_;symm;simp[f6,b0,b1];apply aj;simp;refine PQ hw hk b0 b1 fun L hL=>?_;have hlen:=hL.len;have hL0:L[0]?=some (some g0):=by obtain⟨o,e⟩:∃o,L[0]?=some o:=⟨_,getElem?_eq_getElem (by omega)⟩;have:=hL.least 0 o e;rw[e,this.uniq hg0]
 have a0:at' (L.map oD) 0=some (.int g0):=by rw[iB (by decide) (by simp;omega)];simp[hL0,oD]
 simp;apply aj;simp[a0];apply aj;simp;apply aj;simp;apply aj;simp;have gb:=hL.bnd 0 g0 hL0;refine dY (JSw m ws b g0 L) ?_ (k:=w) (m:=g0.toNat) (by omega) ⟨[],[0],0,g0,.aP,rfl,rfl,by decide,by omega,hL0,le_refl _,rfl,rfl,fun x hx=>⟨g0,by rw[mem_singleton.mp hx];exact hL0,Int.le_refl _⟩,by simp[tot]⟩;rintro M _⟨l,ps,p,g,s5,rfl,h5,p0,p1,hg,hM,hgo,lN,hps,htot⟩;have hg0':=hL.bnd _ _ hg;have ac0:ps≠[]:=by rintro rfl;cases lN
 have hl5:=Ax hk hgo;by_cases hpb:p=b;.subst hpb;simp;apply aj;simp;have hle:=hL.least _ _ hg;rw[show((p.toNat:Nat):Int)=p by omega]at hle;have:=hle.2 0 .nil;exact q l ps hgo lN
 . have hpb':(p==b)=false:=by simpa using hpb
   simp[hpb];apply aj;simp;refine tG hk ?_;rw[show aH (gh p 0 ws)=outI ws p from rfl];have hol:(outI ws p).length<=12:=by have h1:=hk.len;have h2:=Ga (ws:=ws) (p:=p) (us:=ws) (i:=0);unfold outI aH;rw[length_map];omega
   simp;refine⟨fun _=>?_,by show _<=16777216;omega⟩;refine lY (FW _ _ _ _ _ _) (gQ ws L) ⟨.aP,rfl,rfl⟩ ?_ ?_
   . rintro d hd _⟨s,rfl,hs⟩;obtain⟨k,hk',rfl⟩:=mem_map.mp hd;obtain⟨k0,k1,v,hv,hsv⟩:=sV.mp hk';have vo:=hk.ok v (mem_of_getElem? hv);have ha:at' (ws.map Wy.d) k=some v.d:=by rw[iB k0 (by simpa using k1)];simp[hv]
     have hc:isC ws L k=vz L v:=by unfold isC;rw[hv]
     simp[hs,ha];refine DY vo hlen ?_;rw[show gQ ws L (.int k)=if isC ws L k=true then some (.int k)else none from rfl,hc];cases hst:vz L v with|true=>simp;exact⟨_,rfl,rfl⟩|false=>simp;exact⟨_,rfl,rfl⟩
   rintro _⟨s,rfl,hs⟩;rw[MJ];obtain⟨kx,hkx⟩:=Av hk hL p0 p1 hg hpb;obtain⟨k,hkm,hmin⟩:=Ep (ns:=(outI ws p).filter (isC ws L)) (fun z=>by rw[z]at hkx;cases hkx);rw[mem_filter]at hkm;obtain⟨k0,k1,v,hv,hsv⟩:=sV.mp hkm.1;have hvm:v∈ws:=mem_of_getElem? hv;have vo:=hk.ok v hvm;have ha:at' (ws.map Wy.d) k=some v.d:=by rw[iB k0 (by simpa using k1)];simp[hv]
   have hst:vz L v=true:=by have:=hkm.2;unfold isC at this;rwa[hv]at this
   have l1:l.length<lim:=by show _<16777216;omega
   obtain⟨f,hf,hr,hgf⟩:∃f,L[v.t.toNat]?=some (some f)/\0<v.r/\v.h+f=g:=by unfold vz at hst;rw[hsv,hg]at hst;cases e:L[v.t.toNat]?with|none=>rw[e]at hst;simp at hst|some o=>cases o with|none=>rw[e]at hst;simp at hst|some f=>rw[e]at hst;simp at hst;exact⟨f,rfl,hst.1,hst.2⟩
   have hf0:=hL.bnd _ _ hf;have hh0:=vo.h0;have htn:v.t∉ps:=fun z=>by obtain⟨gx,e1,e2⟩:=hps _ z;rw[hf]at e1;cases e1;omega
   simp[hmin,h5];apply aj;simp[l1];apply aj;simp[ha,xr];have hstep:dD ws ps k=some (ps++[v.t]):=yV hk ac0 k0 k1 hv hr (by rw[lN,hsv]) htn;refine⟨f.toNat,by omega,l++[k],ps++[v.t],v.t,f,.val false (.int k),by simp,rfl,vo.t0,vo.t1,hf,le_refl _,by rw[uP,hgo];exact hstep,by simp,fun x hx=>?_,?_⟩
   . rcases mem_append.mp hx with hx|hx;.obtain⟨gx,e1,e2⟩:=hps x hx;exact⟨gx,e1,by omega⟩
     .rw[mem_singleton.mp hx];exact⟨f,hf,Int.le_refl _⟩
   . have:hh ws k=v.h:=by unfold hh;rw[hv]
     rw[Dg,this];omega
@[simp]theorem Vu{c:Call}{i n:Nat}{a elt:P}{is:List Nat}{one:Bool}{test:Option P}{ρ:List Sl}:ev c (.vP i a n is one test elt) ρ=(Ge i (ev c a) ρ).bind fun du ρ₁=>if du.1.length<=lim then(jL c is one test elt du.1 (ρ₁++replicate n .aP)).bind fun xs ρ₂=>.ok (.own xs) (aW du.2 (some i) (ρ₂.take ρ₁.length))else .stuck:=(rfl)
@[simp]theorem Yn{i:Nat}{f:Ev}{ρ:List Sl}:Ge i f ρ=(f ρ).bind fun r ρb=>(lift (items r.d) ρb).bind fun es ρb=>match ρb[i]?with|some (.val _ d)=>(lift (items d) ρb).bind fun ds ρb=>.ok ((es.zip ds).map fun p=>D.tup [p.1,p.2],ρb) ρb|some (.own _ ds)=>.ok ((es.zip ds).map fun p=>D.tup [p.1,p.2],ρb) (ρb.set i (.lent ds))|some (.lent ds)=>.ok ((es.zip ds).map fun p=>D.tup [p.1,p.2],ρb) ρb|_=>.stuck:=rfl
@[simp]theorem abi{c:Call}{n x:Nat}{sub:Bool}{e:P}{ρ:List Sl}:ex c n (.aug x sub e) ρ=(lift (pk ρ x) ρ).bind fun a ρ=>(cR (isVar e) (ev c e) ρ).bind fun b ρ=>match a,b with|.int i,.int j=>(lift (put ρ x (.val false (.int (if sub then i-j else i+j)))) ρ).bind fun ρ' _=>.ok .next ρ'|_,_=>.stuck:=(rfl)
noncomputable def ni:List Wy->List Int->List Wy|w::ws,l::ls=>{w with r:=l}::ni ws ls|_,_=>[]
theorem tO:∀{ws:List Wy}{ls:List Int},ls.length=ws.length->(ni ws ls).length=ws.length|[],[],_=>rfl|[],_::_,h=>by simp at h|_::_,[],h=>by simp at h|w::ws,l::ls,h=>by simp[ni,tO (ws:=ws) (ls:=ls) (by simpa using h)]
theorem o8:∀{ws:List Wy}{ls:List Int}{k:Nat}{u:Wy},(ni ws ls)[k]?=some u->∃v l,ws[k]?=some v/\ls[k]?=some l/\u={v with r:=l}|[],_,k,u,h=>by simp[ni]at h|_::_,[],k,u,h=>by simp[ni]at h|w::ws,l::ls,0,u,h=>by simp[ni]at h;exact⟨w,l,rfl,rfl,h.symm⟩|w::ws,l::ls,k+1,u,h=>by simp only[ni,getElem?_cons_succ]at h ⊢;exact o8 h
theorem Dq:∀{ws:List Wy}{ls:List Int}{k:Nat}{v:Wy}{l:Int},ws[k]?=some v->ls[k]?=some l->(ni ws ls)[k]?=some {v with r:=l}|[],_,k,v,l,h,_=>by simp at h|_::_,[],k,v,l,_,h=>by simp at h|w::ws,x::ls,0,v,l,h,h'=>by simp at h h';subst h h';simp[ni]|w::ws,x::ls,k+1,v,l,h,h'=>by simp only[ni,getElem?_cons_succ]at h h' ⊢;exact Dq h h'
noncomputable def Yd:D->D|.tup [.tup [a,b,_,e],l]=>.tup [a,b,l,e]|d=>d
@[simp]theorem adO{a b c e l:D}:Yd (.tup [.tup [a,b,c,e],l])=.tup [a,b,l,e]:=rfl
theorem Gh:∀{ws:List Wy}{ls:List Int},((((ws.map Wy.d).zip (ls.map D.int)).map fun p=>D.tup [p.1,p.2]).map Yd)=(ni ws ls).map Wy.d|[],_=>by simp[ni]|_::_,[]=>by simp[ni]|w::ws,l::ls=>by have:=Gh (ws:=ws) (ls:=ls);simp only[map_cons,List.zip_cons_cons,ni,this];rfl
inductive FY(a b c:Sl)(ρ:List Sl):Prop where|mk(s:Sl)(t:Sl)(q0:ρ=[a,b,c,s,t])(q1:fr s=true)(q2:fr t=true)
theorem zR{w n:Nat}{b:Bool}{m:Int}{ws:List Wy}{ls:List Int}{Q:R->List Sl->Prop}(h:bj m ws)(k:Q (.val (aM m (ni ws ls))) [.val false (aM m ws),.own b (ls.map D.int)]):(run Γ w (n+1) 9 [.val false (aM m ws),.own b (ls.map D.int)]).sat Q:=by
 have hn:=h.len;refine aO (d:=f9) rfl rfl (by decide) ?_;symm;simp[f9];refine⟨fun _=>?_,by show _<=16777216;omega⟩;refine bC (FY _ _ _) Yd ⟨.aP,.aP,rfl,rfl,rfl⟩ ?_ ?_;.rintro d hd _⟨s,t,rfl,hs,ht⟩;obtain⟨⟨x,y⟩,hx,rfl⟩:=mem_map.mp hd;obtain⟨v,_,rfl⟩:=mem_map.mp (of_mem_zip hx).1;simp[hs,ht,Wy.d];exact⟨_,_,rfl,rfl,rfl⟩
 rintro _⟨s,t,rfl,hs,ht⟩;have e:=Gh (ws:=ws) (ls:=ls);generalize(((ws.map Wy.d).zip (ls.map D.int)).map fun p=>D.tup [p.1,p.2]).map Yd=X at*;subst e;simp;apply aj;simp;exact k
theorem Pr{m:Int}{ws:List Wy}{ls:List Int}(h:bj m ws)(hl:ls.length=ws.length)(hb:∀(k:Nat)(v:Wy)(l:Int),ws[k]?=some v->ls[k]?=some l->0<=l/\l<=v.r):bj m (ni ws ls):=by refine⟨h.m0,h.m1,by rw[tO hl];exact h.len,fun u hu=>?_⟩;obtain⟨k,hk,e⟩:=List.getElem_of_mem hu;obtain⟨v,l,e1,e2,rfl⟩:=o8 (ws:=ws) (ls:=ls) (k:=k) (u:=u) (by rw[getElem?_eq_getElem hk,e]);have vo:=h.ok v (mem_of_getElem? e1);have:=hb k v l e1 e2;exact⟨vo.s0,vo.s1,vo.t0,vo.t1,vo.ne,this.1,Int.le_trans this.2 vo.r1,vo.h0,vo.h1⟩
theorem DP{c:Int->Int}:∀{ws:List Wy}{ls:List Int},(∀(k:Nat)(v:Wy)(l:Int),ws[k]?=some v->ls[k]?=some l->l*(c v.s-c v.t)<=0)->dot c ws ls<=0|[],_,_=>Int.le_refl _|_::_,[],_=>Int.le_refl _|w::ws,l::ls,h=>by have h1:=h 0 w l rfl rfl;have h2:=DP (c:=c) (ws:=ws) (ls:=ls) fun k v x e1 e2=>h (k+1) v x (by simpa using e1) (by simpa using e2);simp only[dot];omega
open Classical in
theorem JM{m r:Int}{ws:List Wy}{ls:List Int}(hg:Goes m ws ls r)(hr:0<r)(hb:∀(k:Nat)(v:Wy)(l:Int),ws[k]?=some v->ls[k]?=some l->0<=l):∃h,Wk (ni ws ls) 0 (m-1) h:=by
 refine Classical.byContradiction fun hno=>?_;have hd:=hg.2 fun p=>if ∃h,Wk (ni ws ls) 0 p h then 1 else 0;rw[if_pos ⟨0,.nil⟩,if_neg hno]at hd;have:=DP (c:=fun p=>if ∃h,Wk (ni ws ls) 0 p h then(1:Int)else 0) (ws:=ws) (ls:=ls) fun k v l e1 e2=>by
  have l0:=hb k v l e1 e2;by_cases hs:∃h,Wk (ni ws ls) 0 v.s h
  . by_cases hz:l=0;.subst hz;simp
    .obtain⟨x,wx⟩:=hs;have ht:∃h,Wk (ni ws ls) 0 v.t h:=⟨_,.step (v:={v with r:=l}) wx (mem_of_getElem? (Dq e1 e2)) (by show 0<l;omega) rfl⟩;rw[if_pos ⟨x,wx⟩,if_pos ht];simp
  . rw[if_neg hs];by_cases ht:∃h,Wk (ni ws ls) 0 v.t h;.rw[if_pos ht];omega
    .rw[if_neg ht];simp
 omega
theorem vA{m:Int}{ws:List Wy}(hn:bj m ws){p:Int}:∀(N:Nat)(h:Int),h.toNat<=N->Wk ws 0 p h->∃g,jf ws 0 p (some g)
 |0,h,hN,k=>⟨h,k,fun h' k'=>by have m0:=hn.m0;have:=(k'.nn hn (by omega) (by omega)).1;have:=(k.nn hn (by omega) (by omega)).1;omega⟩|N+1,h,hN,k=>by
   by_cases c:∃h',h'<h/\Wk ws 0 p h';.obtain⟨h',c1,c2⟩:=c;have m0:=hn.m0;have:=(c2.nn hn (by omega) (by omega)).1;exact vA hn N h' (by omega) c2
   .exact⟨h,k,fun h' k'=>by
      by_cases z:h<=h';.exact z
      .exact absurd ⟨h',by omega,k'⟩ c⟩
noncomputable def Wy.z(w:Wy):Wy:={w with h:=0}
noncomputable def hlD:D->D|.tup [a,b,c,_]=>.tup [a,b,c,.int 0]|d=>d
@[simp]theorem adz{a b c e:D}:hlD (.tup [a,b,c,e])=.tup [a,b,c,.int 0]:=rfl
inductive F1z(a:Sl)(ρ:List Sl):Prop where|mk(s:Sl)(q0:ρ=[a,s])(q1:fr s=true)
theorem tV{w n:Nat}{m:Int}{ws:List Wy}{Q:R->List Sl->Prop}(h:bj m ws)(k:Q (.val (aM m (ws.map Wy.z))) [.val false (aM m ws)]):(run Γ w (n+1) 19 [.val false (aM m ws)]).sat Q:=by
 have hn:=h.len;refine aO (d:=YX) rfl rfl (by decide) ?_;symm;simp[YX,show ws.length<=lim by show _<=16777216;omega];refine bC (F1z _) hlD ⟨.aP,rfl,rfl⟩ ?_ ?_;.rintro d hd _⟨s',rfl,hs'⟩;obtain⟨v,_,rfl⟩:=mem_map.mp hd;simp[hs',Wy.d];exact⟨_,rfl,rfl⟩
 . rintro _⟨s',rfl,hs'⟩;have e:(ws.map Wy.d).map hlD=(ws.map Wy.z).map Wy.d:=by rw[map_map,map_map];rfl
   rw[e];simp;simpa[aM]using k
noncomputable def eU(j:Nat)(f:Bool):D:=.tup [.int j,.bl f]
noncomputable def frm(v:Wy)(f:Bool):Int:=if f then v.s else v.t
noncomputable def too(v:Wy)(f:Bool):Int:=if f then v.t else v.s
theorem jX{w n j:Nat}{f:Bool}{m:Int}{ws:List Wy}{v:Wy}{Q:R->List Sl->Prop}(e:ws[j]?=some v)(k:Q (.val (.tup [.int (frm v f),.int (too v f)])) [.val false (aM m ws),.val false (eU j f)]):(run Γ w (n+1) 11 [.val false (aM m ws),.val false (eU j f)]).sat Q:=by refine aO (d:=f11) rfl rfl (by decide) ?_;symm;simp[f11,eU,bw e];apply aj;cases f with|true=>simp[Wy.d];exact k|false=>simp[Wy.d];exact k
theorem Ai{w n j:Nat}{f:Bool}{m:Int}{ws:List Wy}{v:Wy}{Q:R->List Sl->Prop}(e:ws[j]?=some v)(hz:v.h=0)(k:Q (.val (.int 0)) [.val false (aM m ws),.val false (eU j f)]):(run Γ w (n+1) 12 [.val false (aM m ws),.val false (eU j f)]).sat Q:=by refine aO (d:=YT) rfl rfl (by decide) ?_;symm;simp[YT,eU,bw e,Wy.d,hz];apply aj;cases f with|true=>simp;exact k|false=>simp;exact k
noncomputable def rR(v:Wy)(g:Int)(f:Bool):Int:=if f then v.r-g else g
theorem rB{w n j:Nat}{f:Bool}{s:Sl}{m g:Int}{ws:List Wy}{fs:List Int}{v:Wy}{Q:R->List Sl->Prop}(hs:Qo s fs)(e:ws[j]?=some v)(eg:fs[j]?=some g)(k:Q (.val (.int (rR v g f))) [.val false (aM m ws),s,.val false (eU j f)]):(run Γ w (n+1) 13 [.val false (aM m ws),s,.val false (eU j f)]).sat Q:=by refine aO (d:=Yh) rfl rfl (by decide) ?_;symm;rcases hs with rfl|⟨b,rfl⟩;all_goals simp[Yh,eU,bw eg];apply aj;cases f with|true=>simp[bw e,Wy.d];exact k|false=>simp;exact k
@[simp]theorem Xb{c:Call}{n x k:Nat}{src elt:P}{is:List Nat}{one:Bool}{ρ:List Sl}:ex c n (.GF x src k is one elt) ρ=(srcOf (isVar src) (ev c src) ρ).bind fun ds ρ₁=>if ds.length<=lim then(eY is one (ev c elt) ds [] (ρ₁++replicate k .aP)).bind fun rows ρ₂=>(lift (put (aW ρ (isVar src) (ρ₂.take ρ₁.length)) x (.hold rows)) ρ).bind fun ρ' _=>.ok .next ρ' else .stuck:=(rfl)
@[simp]theorem Xy{c:Call}{n:Nat}{src:P}{is:List Nat}{one:Bool}{body:List S}{ρ:List Sl}:ex c n (.Bv src is one body) ρ=(ev c src ρ).bind fun r ρ₁=>(lift (items r.d) ρ₁).bind fun ds ρ₁=>gW is one (gf c n body) ds ρ₁:=(rfl)
@[simp]theorem abm{c:Call}{n x:Nat}{ρ:List Sl}:ex c n (.cW x) ρ=match ρ[x]?with|some (.hold rows)=>.ok .next (ρ.set x (.val false (.lst (rows.map D.lst))))|_=>.stuck:=(rfl)
@[simp]theorem XC{c:Call}{n x:Nat}{i e:P}{ρ:List Sl}:ex c n (.GJ x i e) ρ=(cR (isVar i) (ev c i) ρ).bind fun k ρ=>(lift (sy ρ x k) ρ).bind fun _ ρ=>(ev c e ρ).bind fun r ρ=>rH ρ x ((iJ ρ x).bind fun rows=>(iQ k).bind fun k=>jm rows k fun row=>if row.length<lim then some (row++[r.d])else none):=(rfl)
@[simp]theorem W8{a:Sl}{l:List Sl}{x:Nat}:iJ (a::l) x=match(a::l)[x]?with|some (.hold rows)=>some rows|_=>none:=rfl
@[simp]theorem Tf{ρ:List Sl}{x:Nat}{rows:List (List D)}:rH ρ x (some rows)=.ok .next (ρ.set x (.hold rows)):=rfl
@[simp]theorem aaU{a:Sl}{l:List Sl}{x:Nat}{k:Int}:sy (a::l) x (.int k)=match(a::l)[x]?with|some (.hold rows)=>rowAt rows k|_=>none:=by unfold sy iJ;cases h:(a::l)[x]?with|none=>rfl|some s=>cases s<;>rfl
theorem oO{is:List Nat}{one:Bool}{elt:Ev}(J:List Sl->Prop)(g:D->List D){Q:List (List D)->List Sl->Prop}:∀{ds:List D}{acc:List (List D)}{ρ:List Sl},J ρ->(∀d,d∈ds->∀ρ,J ρ->∃ρ1,cu ρ is one d=some ρ1/\(elt ρ1).sat fun r ρ3=>r=.own (g d)/\J ρ3)->(∀ρ,J ρ->Q (acc++ds.map g) ρ)->(eY is one elt ds acc ρ).sat Q|[],acc,ρ,j,h,k=>by rw[eY];simpa using k ρ j|d::r,acc,ρ,j,h,k=>by obtain⟨ρ1,e,h1⟩:=h d (by simp) ρ j;rw[eY,e];show((elt ρ1).bind _).sat Q;rw[bM];refine h1.imp fun x ρ3⟨e1,j3⟩=>?_;subst e1;exact oO J g j3 (fun d' hd'=>h d' (by simp[hd'])) fun ρ' j'=>by simpa using k ρ' j'
@[simp]theorem aan{c:Call}{x:Nat}{k:P}{ρ:List Sl}:ev c (.LK x k) ρ=match ρ[x]?with
 |some (.cV _)=>(cR (isVar k) (ev c k) ρ).bind fun kd ρ=>match ρ[x]?with|some (.cV kvs)=>lift ((iQ kd).bind fun k=>(mz kvs k).map .val) ρ|_=>.stuck
 |_=>.stuck:=(rfl)
noncomputable def uo(kvs:List (Int×D))(k:Int):Bool:=(kvs.map (·.1)).contains k
noncomputable def HB(kvs:List (Int×D)):List Int:=kvs.map (·.1)
noncomputable def dsV(kvs:List (Int×D)):List D:=kvs.map (·.2)
@[simp]theorem abY{c:Call}{x:Nat}{k:P}{neg:Bool}{ρ:List Sl}:ev c (.LQ x k neg) ρ=(cR (isVar k) (ev c k) ρ).bind fun kd ρ=>match ρ[x]?with|some (.cV kvs)=>lift ((iQ kd).map fun k=>.val (.bl (if neg then !uo kvs k else uo kvs k))) ρ|_=>.stuck:=(rfl)
@[simp]theorem YD{c:Call}{k e:Int}{ρ:List Sl}:ev c (.vO k e) ρ=.ok (.val (.dv [k] [.int e])) ρ:=(rfl)
@[simp]theorem adL{c:Call}{x:Nat}{ρ:List Sl}:ev c (.vw x) ρ=match ρ[x]?with|some (.qx m)=>.ok (.val (.cY m)) (ρ.set x (.val false (.cY m)))|some (.cV kvs)=>.ok (.val (.dv (HB kvs) (dsV kvs))) (ρ.set x (.val false (.dv (HB kvs) (dsV kvs))))|_=>.stuck:=(rfl)
@[simp]theorem Xf{c:Call}{n x:Nat}{ρ:List Sl}:ex c n (.Bw x) ρ=match ρ[x]?with|some .aP=>.ok .next (ρ.set x (.cV []))|some (.cV _)=>.ok .next (ρ.set x (.cV []))|some (.val false _)=>.ok .next (ρ.set x (.cV []))|_=>.stuck:=(rfl)
@[simp]theorem Xi{c:Call}{n x:Nat}{k e:P}{ρ:List Sl}:ex c n (.jn x k e) ρ=(ev c e ρ).bind fun r ρ=>match ρ[x]?with
 |some (.cV _)=>(cR (isVar k) (ev c k) ρ).bind fun kd ρ=>match ρ[x]?,kd with|some (.cV kvs),.int k=>if kvs.length<lim then .ok .next (ρ.set x (.cV (jn kvs k r.d)))else .stuck|_,_=>.stuck
 |_=>.stuck:=(rfl)
@[simp]theorem XM{c:Call}{n x:Nat}{i e:P}{sub:Bool}{ρ:List Sl}:ex c n (.Bu x i sub e) ρ=(lift (BV ρ x) ρ).bind fun _ ρ=>(cR (isVar i) (ev c i) ρ).bind fun k ρ=>(lift (BV ρ x) ρ).bind fun l ρ=>(lift ((iQ k).bind fun i=>at' l i) ρ).bind fun a ρ=>(cR (isVar e) (ev c e) ρ).bind fun b ρ=>match a,b,ρ[x]?,k with
 |.int u,.int v,some (.own bb ds),.int k=>match gq ds.length k with|some j=>.ok .next (ρ.set x (.own bb (ds.set j (.int (if sub then u-v else u+v)))))|none=>.stuck
 |_,_,_,_=>.stuck:=(rfl)
@[simp]theorem Tj{x:Nat}{k:P}:isVar (.LK x k)=none:=rfl
@[simp]theorem S9{x:Nat}{k:P}{b:Bool}:isVar (.LQ x k b)=none:=rfl
@[simp]theorem UW{x:Nat}:isVar (.vw x)=none:=rfl
@[simp]theorem M4{k e:Int}:isVar (.vO k e)=none:=rfl
@[simp]theorem abE{kvs:List (Int×D)}:fr (.cV kvs)=false:=rfl
@[simp]theorem Yr{r:List (List D)}:fr (.hold r)=false:=rfl
@[simp]theorem VL:qm .Bs=zu:=rfl
@[simp]theorem Yv:qm .Zi=uM false:=rfl
@[simp]theorem UG{ks:List Int}{ds:List D}{k:Int}:zu (.dv ks ds) (.int k)=(mz (ks.zip ds) k).map .val:=rfl
@[simp]theorem YG{ks:List Int}{ds:List D}{k:Int}:uM false (.int k) (.dv ks ds)=some (.val (.bl (ks.contains k))):=rfl
@[simp]theorem Rz{ks:List Int}{ds:List D}:blt .keys [.dv ks ds]=some (.val (.tup (ks.map D.int))):=rfl
@[simp]theorem Xx{ks:List Int}{ds:List D}:blt .Tr [.dv ks ds]=if ks.length<=16777216 then some (.own (ks.map D.int))else none:=rfl
@[simp]theorem Y5{ds:List D}:blt .Zj [.lst ds]=some (.val (.tup ds.reverse)):=rfl
@[simp]theorem Mr{ks:List Int}{ds:List D}:blt .mO [.dv ks ds]=if ks.length<64 then some (.own (yw (ks.map D.int)))else none:=rfl
@[simp]theorem Rn{kvs:List (Int×D)}{x:Option Sl}:dM (.cV kvs) x=.cV kvs:=by cases x<;>rfl
@[simp]theorem OJ{r:List (List D)}{x:Option Sl}:dM (.hold r) x=.hold r:=by cases x<;>rfl
structure HN(m:Int)(ws:List Wy):Prop where
 m0:2<=m
 m1:m<=6
 len:ws.length<=12
 ok:∀w∈ws,(0<=w.s/\w.s<m)/\(0<=w.t/\w.t<m)/\w.h=0
theorem HN.of{m:Int}{ws:List Wy}(h:bj m ws):HN m (ws.map Wy.z):=⟨h.m0,h.m1,by rw[length_map];exact h.len,fun w hw=>by obtain⟨v,hv,rfl⟩:=mem_map.mp hw;have:=h.ok v hv;exact⟨⟨this.s0,this.s1⟩,⟨this.t0,this.t1⟩,rfl⟩⟩
noncomputable abbrev aJ:=Nat×Bool
noncomputable def sD(s:aJ):D:=eU s.1 s.2
noncomputable def jg(ws:List Wy)(fs:List Int)(p:Int)(s:aJ):Bool:=match ws[s.1]?,fs[s.1]?with|some v,some g=>decide (frm v s.2=p)&&decide (0<rR v g s.2)|_,_=>false
theorem sZ{ws:List Wy}{fs:List Int}{p:Int}{s:aJ}{v:Wy}{g:Int}(e:ws[s.1]?=some v)(e2:fs[s.1]?=some g):jg ws fs p s=(decide (frm v s.2=p)&&decide (0<rR v g s.2)):=by unfold jg;rw[e,e2]
noncomputable def jW(ws:List Wy)(fs:List Int)(M:Nat)(l:List aJ):List (List aJ):=(List.range M).map fun(p:Nat)=>l.filter (jg ws fs (p:Int))
noncomputable def rD(l:List (List aJ)):List (List D):=l.map fun r=>r.map sD
noncomputable def gG(N:Nat):List aJ:=(List.range N).flatMap fun j=>[(j,true),(j,false)]
theorem qz{N:Nat}:gG (N+1)=(gG N++[(N,true)])++[(N,false)]:=by simp[gG,List.range_succ]
theorem uE{N:Nat}:(gG N).length=2*N:=by induction N with|zero=>rfl|succ N ih=>rw[qz];simp[ih];omega
theorem Nv{m:Int}{ws:List Wy}(h:HN m ws){j:Nat}{v:Wy}(e:ws[j]?=some v)(f:Bool):0<=frm v f/\frm v f<m:=by have:=h.ok v (mem_of_getElem? e);cases f<;>simp only[frm]<;>simp<;>omega
theorem O9{m:Int}{ws:List Wy}(h:HN m ws){j:Nat}{v:Wy}(e:ws[j]?=some v)(f:Bool):0<=too v f/\too v f<m:=by have:=h.ok v (mem_of_getElem? e);cases f<;>simp only[too]<;>simp<;>omega
theorem Fb{ws:List Wy}{fs:List Int}{M:Nat}{l:List aJ}{s:aJ}{v:Wy}{g:Int}(e:ws[s.1]?=some v)(e2:fs[s.1]?=some g)(h:¬ 0<rR v g s.2):jW ws fs M (l++[s])=jW ws fs M l:=by unfold jW;refine map_congr_left fun p _=>?_;rw[List.filter_append];simp[sZ e e2,h]
theorem Ia{ws:List Wy}{fs:List Int}{m:Int}{l:List aJ}{s:aJ}{v:Wy}{g:Int}(e:ws[s.1]?=some v)(e2:fs[s.1]?=some g)(h:0<rR v g s.2)(hp:0<=frm v s.2/\frm v s.2<m)(hl:l.length<1000):(∃row,rowAt (rD (jW ws fs m.toNat l)) (frm v s.2)=some row)/\jm (rD (jW ws fs m.toNat l)) (frm v s.2) (fun row=>if row.length<lim then some (row++[sD s])else none)=some (rD (jW ws fs m.toNat (l++[s]))):=by
 have hlen:(rD (jW ws fs m.toNat l)).length=m.toNat:=by simp[rD,jW]
 have hx:gq (rD (jW ws fs m.toNat l)).length (frm v s.2)=some (frm v s.2).toNat:=by unfold gq;rw[hlen,if_pos hp.1,if_pos (by omega)]
 have hg:(rD (jW ws fs m.toNat l))[(frm v s.2).toNat]?=some ((l.filter (jg ws fs (frm v s.2))).map sD):=by simp[rD,jW,show(frm v s.2).toNat<m.toNat by omega,Int.toNat_of_nonneg hp.1]
 refine⟨⟨_,by unfold rowAt;rw[hx];exact hg⟩,?_⟩;unfold jm;rw[hx];show((rD (jW ws fs m.toNat l))[(frm v s.2).toNat]?).bind _=_;rw[hg];have hq:((l.filter (jg ws fs (frm v s.2))).map sD).length<lim:=by have:=List.length_filter_le (jg ws fs (frm v s.2)) l;rw[length_map];show _<16777216;omega
 show Option.map _ (if _ then _ else _)=_;rw[if_pos hq];show some _=some _;congr 1;refine List.ext_getElem (by simp[rD,jW]) fun i h2 h3=>?_;rw[List.getElem_set];by_cases c:(frm v s.2).toNat=i
 . rw[if_pos c];have:(i:Int)=frm v s.2:=by omega
   simp[rD,jW,this,List.filter_append,sZ e e2,h]
 . rw[if_neg c];have:¬ frm v s.2=(i:Int):=by omega
   simp[rD,jW,List.filter_append,sZ e e2,this]
inductive JOp(m:Int)(ws:List Wy)(fs:List Int)(s:Sl)(i:Nat)(ρ:List Sl):Prop where|mk(s3 s4:Sl)(q0:ρ=[.val false (aM m ws),s,.hold (rD (jW ws fs m.toNat (gG i))),s3,s4])(q1:fr s3=true)(q2:fr s4=true)
inductive JOq(m:Int)(ws:List Wy)(fs:List Int)(s:Sl)(i:Nat)(r:List D)(ρ:List Sl):Prop where|mk(l us:List aJ)(s4:Sl)(q0:ρ=[.val false (aM m ws),s,.hold (rD (jW ws fs m.toNat l)),.val false (.int i),s4])(q1:fr s4=true)(q2:r=us.map sD)(q3:l++us=gG (i+1))(q4:∀u∈us,u.1=i)
inductive F1n(a b c d e:Sl)(ρ:List Sl):Prop where|mk(s:Sl)(q0:ρ=[a,b,c,d,e,s])(q1:fr s=true)
theorem Fp{w n:Nat}{s:Sl}{m:Int}{ws:List Wy}{fs:List Int}{Q:R->List Sl->Prop}(hs:Qo s fs)(h:HN m ws)(hf:fs.length=ws.length)(k:Q (.val (.lst ((rD (jW ws fs m.toNat (gG ws.length))).map D.lst))) [.val false (aM m ws),s]):(run Γ w (n+2) 14 [.val false (aM m ws),s]).sat Q:=by
 have hn:=h.len;have m0:=h.m0;have m1:=h.m1;refine aO (d:=Y8) rfl rfl (by decide) ?_;refine cL (fun ρ=>ρ=[.val false (aM m ws),s,.hold (rD (jW ws fs m.toNat (gG 0))),.aP,.aP]) ?_ ?_
 . simp[Y8,show m<=1000000000 by omega,show-1000000000<=m by omega];refine⟨fun _=>?_,by omega⟩;rw[bM];refine oO (F1n _ _ _ _ _) (fun _=>[]) ⟨.aP,rfl,rfl⟩ ?_ ?_;.rintro d hd _⟨s',rfl,hs'⟩;simp[hs'];exact⟨_,rfl,rfl⟩
   .rintro _⟨s',rfl,hs'⟩;simp[rD,jW,gG]
 rintro _ rfl;refine cL (JOp m ws fs s ws.length) ?_ ?_
 . simp[show(ws.length:Int)<=1000000000 by omega];refine fV (JOp m ws fs s) ?_ ?_ ⟨.aP,.aP,rfl,rfl,rfl⟩
   . rintro i _ hi⟨s3,s4,rfl,h3,h4⟩;have hi2:i<fs.length:=by omega
     have e1:ws[i]?=some ws[i]:=by simp[hi]
     have e2:fs[i]?=some fs[i]:=by simp[hi2]
     generalize ws[i]=v at*;generalize fs[i]=g at*;simp[h3];apply aj;simp;refine bI (JOq m ws fs s i) ?_ ?_ ⟨gG i,[(i,true),(i,false)],s4,rfl,h4,rfl,by rw[qz];simp,by simp⟩;.rintro d r _⟨l,us,s4,rfl,h4,hr,hl,hu⟩;cases us with|nil=>cases hr|cons u us=>
         obtain⟨rfl,rfl⟩:d=sD u/\r=us.map sD:=by simpa using hr
         obtain rfl:=hu u (by simp);have hl2:(l++[u])++us=gG (u.1+1):=by rw[append_assoc];exact hl
         have hll:l.length<1000:=by have:=congrArg List.length hl;rw[uE]at this;simp at this;omega
         simp[h4];apply aj;rcases hs with rfl|⟨b,rfl⟩;all_goals
          simp[sD];refine rB (by first|exact .inl rfl|exact .inr ⟨_,rfl⟩) e1 e2 ?_;simp;refine⟨fun ho=>?_,fun ho=>?_⟩;.obtain⟨⟨row,q1⟩,q2⟩:=Ia (ws:=ws) (fs:=fs) (l:=l) e1 e2 ho (Nv h e1 u.2) hll;symm;simp;refine jX e1 ?_;simp[q1];have q3:jm (rD (jW ws fs m.toNat l)) (frm v u.2) (fun row=>if row.length<lim then some (row++[eU u.1 u.2])else none)=_:=q2;rw[q3];simp;exact⟨l++[u],us,_,rfl,rfl,rfl,hl2,fun x hx=>hu x (by simp[hx])⟩
          .exact⟨l++[u],us,_,by rw[Fb e1 e2 (by omega)],rfl,rfl,hl2,fun x hx=>hu x (by simp[hx])⟩
     . rintro _⟨l,us,s4,rfl,h4,hr,hl,hu⟩;have:us=[]:=by cases us with|nil=>rfl|cons _ _=>cases hr
       subst this;rw[append_nil]at hl;subst hl;simp;exact⟨_,_,rfl,rfl,h4⟩
   .rintro _⟨s3,s4,rfl,h3,h4⟩;exact⟨rfl,_,_,rfl,h3,h4⟩
 rintro _⟨s3,s4,rfl,h3,h4⟩;symm;simp;apply aj;simp;exact k
noncomputable abbrev En:=Int×Nat×Option aJ
noncomputable def oS:Option aJ->D|none=>.non|some s=>sD s
noncomputable def vX(e:En):D:=.tup [.int 0,.int (e.2.1:Int),oS e.2.2]
noncomputable def en(e:En):Int×D:=(e.1,vX e)
noncomputable def kj(es:List En):D:=.dv (es.map (·.1)) (es.map vX)
noncomputable def G7(p:Int):Int×D:=(p,.bl true)
@[simp]theorem Oo{l:List Int}:HB (l.map G7)=l:=by simp[HB,G7,Function.comp_def]
theorem DK{l:List En}:HB (l.map en)=l.map (·.1):=by simp[HB,en,Function.comp_def]
theorem wX{l:List En}{p:Int}:uo (l.map en) p=true↔∃n o,(p,n,o)∈l:=by show(HB (l.map en)).contains p=true↔_;rw[DK];simp
theorem kin_no{l:List En}{p:Int}(h:¬ ∃n o,(p,n,o)∈l):uo (l.map en) p=false:=by cases e:uo (l.map en) p with|false=>rfl|true=>exact absurd (wX.mp e) h
theorem jz{p:Int}{n:Nat}{o:Option aJ}:∀{l:List En},(l.map (·.1)).Nodup->(p,n,o)∈l->mz (l.map en) p=some (vX (p,n,o))
 |[],_,h=>by cases h|e::l,hn,h=>by
   rw[map_cons,nodup_cons]at hn;unfold mz;rw[map_cons,find?_cons];by_cases c:e.1=p
   . have:(p,n,o)=e:=by
      rcases mem_cons.mp h with h|h;.exact h
      .exact absurd (c▸mem_map.mpr ⟨_,h,rfl⟩) hn.1
     subst this;simp[en]
   . have h':(p,n,o)∈l:=by
      rcases mem_cons.mp h with h|h;.exact absurd (by rw[<-h]) c
      .exact h
     simp[en,c];have:=jz hn.2 h';unfold mz at this;simpa[en]using this
theorem u6{kvs:List (Int×D)}{p:Int}{d:D}(h:uo kvs p=false):jn kvs p d=kvs++[(p,d)]:=by
 unfold jn;rw[if_neg];intro h2;obtain⟨x,hx,e⟩:=List.any_eq_true.mp h2;have:uo kvs p=true:=by show(kvs.map (·.1)).contains p=true;rw[List.contains_iff_mem];exact mem_map.mpr ⟨x,hx,by simpa using e⟩
 rw[this]at h;cases h
theorem El{l:List En}{p:Int}{a b:Nat}{o u:Option aJ}(hn:(l.map (·.1)).Nodup)(h1:(p,a,o)∈l)(h2:(p,b,u)∈l):a=b/\o=u:=by
 have e1:=jz hn h1;rw[jz hn h2]at e1;have:vX (p,b,u)=vX (p,a,o):=by simpa using e1
 unfold vX at this;simp at this;refine⟨by omega,?_⟩;cases o with
 |none=>cases u with|none=>rfl|some u=>cases this.2
 |some o=>cases u with|none=>cases this.2|some u=>have:=this.2;simp[oS,sD,eU]at this;rw[Prod.ext_iff.mpr ⟨(by omega:o.1=u.1),this.2.symm⟩]
structure Ky(m:Int)(ws:List Wy)(fs:List Int)(es:List En):Prop where
 nd:(es.map (·.1)).Nodup
 inm:∀p l o,(p,l,o)∈es->0<=p/\p<m
 z:(0,0,none)∈es
 lv:∀p l o,(p,l,o)∈es->l<es.length
 stp:∀p l o,(p,l,o)∈es->(o=none/\p=0/\l=0)\/∃(s:aJ)(v:Wy)(l':Nat)(o':Option aJ),o=some s/\l=l'+1/\ws[s.1]?=some v/\too v s.2=p/\jg ws fs (frm v s.2) s=true/\(frm v s.2,l',o')∈es
theorem Ky.len{m:Int}{ws:List Wy}{fs:List Int}{es:List En}(h:Ky m ws fs es)(m1:m<=6):es.length<=6:=by
 have:=kW (l2:=[0,1,2,3,4,5]) h.nd fun q hq=>by
  obtain⟨⟨p,l,o⟩,he,rfl⟩:=mem_map.mp hq;have:=h.inm p l o he;have:p=0\/p=1\/p=2\/p=3\/p=4\/p=5:=by omega
  simpa using this
 simpa using this
def Qc(ws:List Wy)(es:List En)(n:Nat)(s:aJ):Prop:=∀v,ws[s.1]?=some v->∃l o,(too v s.2,l,o)∈es/\l<=n+1
theorem Qc.app{ws:List Wy}{es es':List En}{n:Nat}{s:aJ}(h:Qc ws es n s):Qc ws (es++es') n s:=fun v e=>by obtain⟨l,o,h1,h2⟩:=h v e;exact⟨l,o,mem_append_left _ h1,h2⟩
structure In(m:Int)(ws:List Wy)(fs:List Int)(n:Nat)(R:List Int)(L:Nat)(K:aJ->Prop)(es:List En)(ch:List Int):Prop where
 cm:Ky m ws fs es
 row:∀p∈R,∃o,(p,n,o)∈es
 Hf:∀p l o,(p,l,o)∈es->l<=n+1
 new:∀p o,(p,n+1,o)∈es->p∈ch
 old:∀p o,(p,n,o)∈es->p∈R
 chg:∀p∈ch,∃o,(p,n+1,o)∈es
 cl:∀p l o s,(p,l,o)∈es->l<n->jg ws fs p s=true->Qc ws es l s
 dn:∀s,K s->Qc ws es n s
 len:es.length=L+ch.length
theorem In.put{m:Int}{ws:List Wy}{fs:List Int}{n:Nat}{R:List Int}{L:Nat}{K:aJ->Prop}{es:List En}{ch:List Int}(h:In m ws fs n R L K es ch)(hm:HN m ws){s:aJ}{v:Wy}{p:Int}(hp:p∈R)(e:ws[s.1]?=some v)(ho:jg ws fs p s=true)(hf:frm v s.2=p)(hn:¬ ∃l o,(too v s.2,l,o)∈es):In m ws fs n R L (fun u=>K u\/u=s) (es++[(too v s.2,n+1,some s)]) (ch++[too v s.2]):=by
 obtain⟨op,hop⟩:=h.row p hp;have mono:∀{p l o},(p,l,o)∈es->(p,l,o)∈es++[(too v s.2,n+1,some s)]:=fun z=>mem_append_left _ z;have last:(too v s.2,n+1,some s)∈es++[(too v s.2,n+1,some s)]:=mem_append_right _ (by simp);have Ra:∀{p l o},(p,l,o)∈es++[(too v s.2,n+1,some s)]->(p,l,o)∈es\/(p=too v s.2/\l=n+1/\o=some s):=fun z=>by simpa using z
 refine⟨⟨?_,fun p l o z=>?_,mono h.cm.z,fun p l o z=>?_,fun p l o z=>?_⟩,fun q hq=>?_,fun p l o z=>?_,fun q o z=>?_,fun q o z=>?_,fun q hq=>?_,fun q l o u z hl hu=>?_,fun u hu=>?_,?_⟩
 . rw[map_append,nodup_append];refine⟨h.cm.nd,by simp,fun a ha b hb e=>?_⟩;obtain rfl:b=too v s.2:=by simpa using hb
   obtain⟨⟨q,l,o⟩,hq,rfl⟩:=mem_map.mp ha;exact hn ⟨l,o,e▸hq⟩
 . rcases Ra z with z|⟨rfl,_,_⟩;.exact h.cm.inm p l o z
   .exact O9 hm e s.2
 . have hl:=h.cm.lv _ _ _ hop;simp only[length_append,length_cons,length_nil];rcases Ra z with z|⟨_,rfl,_⟩;.have:=h.cm.lv p l o z;omega
   .omega
 . rcases Ra z with z|⟨rfl,rfl,rfl⟩
   . rcases h.cm.stp p l o z with z|⟨s',v',l',o',z1,z2,z3,z4,z5,z6⟩;.exact .inl z
     .exact .inr ⟨s',v',l',o',z1,z2,z3,z4,z5,mono z6⟩
   .exact .inr ⟨s,v,n,op,rfl,rfl,e,rfl,by rw[hf];exact ho,by rw[hf];exact mono hop⟩
 .obtain⟨o,z⟩:=h.row q hq;exact⟨o,mono z⟩
 . rcases Ra z with z|⟨_,rfl,_⟩;.exact h.Hf p l o z
   .exact le_refl _
 . rcases Ra z with z|⟨rfl,_,_⟩;.exact mem_append_left _ (h.new q o z)
   .exact mem_append_right _ (by simp)
 . rcases Ra z with z|⟨_,z,_⟩;.exact h.old q o z
   .omega
 . rcases mem_append.mp hq with hq|hq;.obtain⟨o,z⟩:=h.chg q hq;exact⟨o,mono z⟩
   . obtain rfl:q=too v s.2:=by simpa using hq
     exact⟨_,last⟩
 . rcases Ra z with z|⟨_,rfl,_⟩;.exact(h.cl q l o u z hl hu).app
   .omega
 . rcases hu with hu|rfl;.exact(h.dn u hu).app
   .exact fun v' e'=>by rw[e]at e';cases e';exact⟨_,_,last,le_refl _⟩
 .have:=h.len;simp only[length_append,length_cons,length_nil];omega
theorem In.keep{m:Int}{ws:List Wy}{fs:List Int}{n:Nat}{R:List Int}{L:Nat}{K:aJ->Prop}{es:List En}{ch:List Int}(h:In m ws fs n R L K es ch){s:aJ}{v:Wy}{l:Nat}{o:Option aJ}(e:ws[s.1]?=some v)(hn:(too v s.2,l,o)∈es):In m ws fs n R L (fun u=>K u\/u=s) es ch:=by
 refine⟨h.cm,h.row,h.Hf,h.new,h.old,h.chg,h.cl,fun u hu=>?_,h.len⟩;rcases hu with hu|rfl;.exact h.dn u hu
 .exact fun v' e'=>by rw[e]at e';cases e';exact⟨_,_,hn,h.Hf _ _ _ hn⟩
structure Wh(m:Int)(ws:List Wy)(fs:List Int)(n:Nat)(R:List Int)(es:List En):Prop where
 cm:Ky m ws fs es
 row:∀p∈R,∃o,(p,n,o)∈es
 Hf:∀p l o,(p,l,o)∈es->l<=n
 old:∀p o,(p,n,o)∈es->p∈R
 cl:∀p l o s,(p,l,o)∈es->l<n->jg ws fs p s=true->Qc ws es l s
theorem Wh.start{m:Int}{ws:List Wy}{fs:List Int}(m0:2<=m):Wh m ws fs 0 [0] [(0,0,none)]:=by
 refine⟨⟨by simp,fun p l o z=>?_,by simp,fun p l o z=>?_,fun p l o z=>.inl ?_⟩,fun p hp=>?_,fun p l o z=>?_,fun p o z=>?_,fun p l o s z hl=>by omega⟩;.simp at z;omega
 .simp at z;simp[z]
 .simp at z;exact⟨z.2.2,z.1,z.2.1⟩
 .simp at hp;subst hp;exact⟨none,by simp⟩
 .simp at z;omega
 .simp at z;simp[z.1]
theorem Wh.to{m:Int}{ws:List Wy}{fs:List Int}{n:Nat}{R:List Int}{es:List En}(h:Wh m ws fs n R es):In m ws fs n R es.length (fun _=>False) es []:=⟨h.cm,h.row,fun p l o z=>Nat.le_succ_of_le (h.Hf p l o z),fun p o z=>absurd (h.Hf _ _ _ z) (by omega),h.old,fun p hp=>(by cases hp),h.cl,fun s hs=>hs.elim,by simp⟩
theorem In.out{m:Int}{ws:List Wy}{fs:List Int}{n:Nat}{R:List Int}{L:Nat}{es:List En}{ch:List Int}(h:In m ws fs n R L (fun s=>∃p∈R,jg ws fs p s=true) es ch):Wh m ws fs (n+1) ch es:=⟨h.cm,h.chg,h.Hf,h.new,fun p l o s z hl hs=>by
  by_cases c:l<n;.exact h.cl p l o s z c hs
  . obtain rfl:l=n:=by omega
    exact h.dn s ⟨p,h.old p o z,hs⟩⟩
structure uX(m:Int)(ws:List Wy)(fs:List Int)(es:List En):Prop where
 cm:Ky m ws fs es
 cl:∀p l o s,(p,l,o)∈es->jg ws fs p s=true->Qc ws es l s
theorem Wh.fin{m:Int}{ws:List Wy}{fs:List Int}{n:Nat}{es:List En}(h:Wh m ws fs n [] es):uX m ws fs es:=⟨h.cm,fun p l o s z hs=>h.cl p l o s z (by
  have:=h.Hf p l o z;by_cases c:l=n;.subst c;cases h.old p o z
  .omega) hs⟩
theorem uW{N:Nat}{s:aJ}(h:s.1<N):s∈gG N:=by unfold gG;rw[List.mem_flatMap];refine⟨s.1,by simp[h],?_⟩;obtain⟨j,f⟩:=s;cases f<;>simp
theorem wH{ws:List Wy}{fs:List Int}{p:Int}{s:aJ}(h:jg ws fs p s=true):∃v g,ws[s.1]?=some v/\fs[s.1]?=some g/\frm v s.2=p/\0<rR v g s.2:=by
 unfold jg at h;split at h;.rename_i v g e1 e2;simp at h;exact⟨v,g,e1,e2,h.1,h.2⟩
 .cases h
theorem In.imp{m:Int}{ws:List Wy}{fs:List Int}{n:Nat}{R:List Int}{L:Nat}{K K':aJ->Prop}{es:List En}{ch:List Int}(h:In m ws fs n R L K es ch)(z:∀s,K' s->K s):In m ws fs n R L K' es ch:=⟨h.cm,h.row,h.Hf,h.new,h.old,h.chg,h.cl,fun s hs=>h.dn s (z s hs),h.len⟩
theorem N7{m:Int}{ws:List Wy}{fs:List Int}{l:List aJ}{p:Int}(hp:0<=p/\p<m):at' ((rD (jW ws fs m.toNat l)).map D.lst) p=some (.lst ((l.filter (jg ws fs p)).map sD)):=by rw[iB hp.1 (by simp[rD,jW];omega)];simp[rD,jW,show p.toNat<m.toNat by omega,Int.toNat_of_nonneg hp.1]
@[simp]theorem cut3{a b c:D}:Oz (.tup [a,b,c]) (part (.con .non) .non) (part (.con (.int 2)) (.int 2))=some (.val (.tup [a,b])):=rfl
@[simp]theorem abS{i j:Int}:cm .lt (.tup [.int 0,.int i]) (.tup [.int 0,.int j])=some (decide (i<j)):=by show some (cQ [0,i] [0,j])=_;simp[cQ]
noncomputable def bg:Sl:=.val false (.dv [0] [.int 0])
inductive JC2(m:Int)(ws:List Wy)(fs:List Int)(a0 a1 a2 a3 a6:Sl)(n:Nat)(R:List Int)(L:Nat)(pre:List Int)(p:Int)(r:List D)(ρ:List Sl):Prop where|mk(es:List En)(ch:List Int)(cT us:List aJ)(s8 s9 jy:Sl)(q0:ρ=[a0,a1,a2,a3,.cV (es.map en),.val false (.int p),a6,.cV (ch.map G7),s8,s9,jy])(q1:A3 (fr s8=true) (fr s9=true) (fr jy=true))(q2:r=us.map sD)(q3:cT++us=(gG ws.length).filter (jg ws fs p))(q4:In m ws fs n R L (fun s=>(∃q∈pre,jg ws fs q s=true)\/s∈cT) es ch)
inductive JC1(m:Int)(ws:List Wy)(fs:List Int)(a0 a1 a2 a3 a6:Sl)(n:Nat)(R:List Int)(L:Nat)(r:List D)(ρ:List Sl):Prop where|mk(es:List En)(ch pre qs:List Int)(s5 s8 s9 jy:Sl)(q0:ρ=[a0,a1,a2,a3,.cV (es.map en),s5,a6,.cV (ch.map G7),s8,s9,jy])(q1:A4 (fr s5=true) (fr s8=true) (fr s9=true) (fr jy=true))(q2:r=qs.map D.int)(q3:pre++qs=R)(q4:In m ws fs n R L (fun s=>∃q∈pre,jg ws fs q s=true) es ch)
inductive JCw(m:Int)(ws:List Wy)(fs:List Int)(a0 a1 a2 a3:Sl)(M:Nat)(ρ:List Sl):Prop where|mk(n:Nat)(R:List Int)(es:List En)(s5 s7 s8 s9 jy:Sl)(q0:ρ=[a0,a1,a2,a3,.cV (es.map en),s5,.own false (R.map D.int),s7,s8,s9,jy])(q1:A4 (fr s5=true) (fr s8=true) (fr s9=true) (fr jy=true))(q2:(s7=.aP\/∃d,s7=.val false d))(q3:Wh m ws fs n R es)(q4:(R≠[]->2*(6-es.length)+1<=M))
def JC0(a0 a1 a2 a3:Sl)(r:List D)(ρ:List Sl):Prop:=(r=[.int 0]/\ρ=[a0,a1,a2,a3,.cV [],.aP,.aP,.aP,.aP,.aP,.aP])\/(r=[]/\ρ=[a0,a1,a2,a3,.cV [en (0,0,none)],.val false (.int 0),.aP,.aP,.aP,.aP,.aP])
theorem oZ{w n:Nat}{s:Sl}{m:Int}{ws:List Wy}{fs:List Int}{Q:R->List Sl->Prop}(hw:100<=w)(hs:Qo s fs)(h:HN m ws)(hf:fs.length=ws.length)(k:∀es,uX m ws fs es->Q (.val (kj es)) [.val false (aM m ws),s,bg]):(run Γ w (n+3) 15 [.val false (aM m ws),s,bg]).sat Q:=by
 have hn:=h.len;have m0:=h.m0;have m1:=h.m1;refine aO (d:=XR) rfl rfl (by decide) ?_;refine cL (fun ρ=>ρ=[.val false (aM m ws),s,bg,.val false (.lst ((rD (jW ws fs m.toNat (gG ws.length))).map D.lst)),.aP,.aP,.aP,.aP,.aP,.aP,.aP]) ?_ ?_;.have hss:=hs;rcases hs with rfl|⟨b,rfl⟩;all_goals simp[XR,bg];refine Fp (by first|exact .inl rfl|exact .inr ⟨_,rfl⟩) h hf ?_;simp
 rintro _ rfl;generalize hA:((rD (jW ws fs m.toNat (gG ws.length))).map D.lst)=A;symm;simp;apply aj;simp[bg];refine bI (JC0 (.val false (aM m ws)) s bg (.val false (.lst A))) ?_ ?_ (.inl ⟨rfl,rfl⟩)
 . rintro d r _(⟨hr,rfl⟩|⟨hr,rfl⟩)
   . obtain⟨rfl,rfl⟩:d=.int 0/\r=[]:=by simpa using hr
     simp;apply aj;simp[bg,mz];exact .inr ⟨rfl,rfl⟩
   .cases hr
 rintro _(⟨hr,rfl⟩|⟨hr,rfl⟩);.cases hr
 simp;apply aj;simp[bg];apply aj;simp;refine dY (JCw m ws fs _ _ _ _) ?_ (k:=w) (m:=50) (by omega) ⟨0,[0],[(0,0,none)],_,_,_,_,_,rfl,⟨rfl,rfl,rfl,rfl⟩,.inl rfl,Wh.start m0,fun _=>by simp⟩;rintro M _⟨n',R,es,s5,s7,s8,s9,jy,rfl,⟨h5,h8,h9,h10⟩,h7,hW,hM⟩;by_cases hR:R=[];.subst hR;simp;apply aj;simp;have:=k es hW.fin;simp[Function.comp_def,en];exact this
 . have hR2:0<R.length:=by cases R with|nil=>exact absurd rfl hR|cons _ _=>simp
   simp[hR2];refine cL (fun ρ=>ρ=[.val false (aM m ws),s,bg,.val false (.lst A),.cV (es.map en),s5,.own false (R.map D.int),.cV [],s8,s9,jy]) ?_ ?_
   . rcases h7 with rfl|⟨d,rfl⟩;.simp[bg]
     .simp[bg]
   rintro _ rfl;symm;simp;refine bI (JC1 m ws fs _ _ _ _ _ n' R es.length) ?_ ?_ ⟨es,[],[],R,s5,s8,s9,jy,rfl,⟨h5,h8,h9,h10⟩,rfl,rfl,hW.to.imp fun s hs=>by obtain⟨q,hq,_⟩:=hs;cases hq⟩;.rintro d r _⟨es',ch,pre,qs,s5,s8,s9,jy,rfl,⟨h5,h8,h9,h10⟩,hr,hpq,hI⟩;cases qs with|nil=>cases hr|cons p qs=>
       obtain⟨rfl,rfl⟩:d=.int p/\r=qs.map D.int:=by simpa using hr
       have hpR:p∈R:=by rw[<-hpq];simp
       have hpm:0<=p/\p<m:=by obtain⟨o,ho⟩:=hI.row p hpR;exact hI.cm.inm _ _ _ ho
       have hrow:=N7 (ws:=ws) (fs:=fs) (l:=gG ws.length) hpm;rw[hA]at hrow;simp[h5];apply aj;simp[hrow];refine bI (JC2 m ws fs _ _ _ _ _ n' R es.length pre p) ?_ ?_ ⟨es',ch,[],_,s8,s9,jy,rfl,⟨h8,h9,h10⟩,rfl,rfl,hI.imp fun s hs=>by rcases hs with hs|hs;exact hs;cases hs⟩;.rintro d r _⟨es',ch,cT,us,s8,s9,jy,rfl,⟨h8,h9,h10⟩,hr,hdu,hI⟩;cases us with|nil=>cases hr|cons u us=>
           obtain⟨rfl,rfl⟩:d=sD u/\r=us.map sD:=by simpa using hr
           have hu:jg ws fs p u=true:=by
            have:u∈(gG ws.length).filter (jg ws fs p):=by rw[<-hdu];simp
            exact(mem_filter.mp this).2
           obtain⟨v,g,e1,e2,e3,e4⟩:=wH hu;have WX:(cT++[u])++us=(gG ws.length).filter (jg ws fs p):=by rw[append_assoc];exact hdu
           have hz:v.h=0:=(h.ok v (mem_of_getElem? e1)).2.2;obtain⟨op,hop⟩:=hI.row p hpR;have gp:=jz hI.cm.nd hop;have hlen:=hI.cm.len m1;have hcl:ch.length<=6:=by have:=hI.len;omega
           simp[h8];apply aj;simp[sD];refine jX e1 ?_;simp[h9];apply aj;simp[gp,vX];refine Ai e1 hz ?_;simp[gp,vX,h10];apply aj;by_cases hq:∃l o,(too v u.2,l,o)∈es';.obtain⟨l,o,hlo⟩:=hq;have gt:=jz hI.cm.nd hlo;have kt:uo (es'.map en) (too v u.2)=true:=wX.mpr ⟨l,o,hlo⟩;have hle:=hI.Hf _ _ _ hlo;simp[kt,gt,vX];refine⟨fun z=>by omega,?_⟩;exact fun _=>⟨es',ch,cT++[u],us,_,_,_,rfl,⟨rfl,rfl,rfl⟩,rfl,WX,(hI.keep e1 hlo).imp fun s hs=>by
              rcases hs with hs|hs;.exact .inl (.inl hs)
              . rcases mem_append.mp hs with hs|hs;.exact .inl (.inr hs)
                .exact .inr (by simpa using hs)⟩
           . have kt:uo (es'.map en) (too v u.2)=false:=kin_no hq;have kc:uo (ch.map G7) (too v u.2)=false:=by cases e:uo (ch.map G7) (too v u.2)with|false=>rfl|true=>have:(HB (ch.map G7)).contains (too v u.2)=true:=e;rw[Oo,List.contains_iff_mem]at this;obtain⟨o,ho⟩:=hI.chg _ this;exact absurd ⟨_,_,ho⟩ hq
             have p1:jn (es'.map en) (too v u.2) (.tup [.int 0,.int ((n':Int)+1),eU u.1 u.2])=(es'++[(too v u.2,n'+1,some u)]).map en:=by rw[u6 kt];simp[en,vX,oS,sD]
             have p2:jn (ch.map G7) (too v u.2) (.bl true)=(ch++[too v u.2]).map G7:=by rw[u6 kc];simp[G7]
             simp[kt];apply aj;simp[p1];refine⟨by decide,fun _=>?_,by show _<16777216;omega⟩;symm;simp[p2];refine⟨fun _=>?_,by show _<16777216;omega⟩;refine⟨es'++[(too v u.2,n'+1,some u)],ch++[too v u.2],cT++[u],us,.val false (eU u.1 u.2),.val false (.int (too v u.2)),.val false (.tup [.int 0,.int ((n':Int)+1)]),by simp,⟨rfl,rfl,rfl⟩,rfl,WX,(hI.put h hpR e1 hu e3 hq).imp fun s hs=>?_⟩;rcases hs with hs|hs;.exact .inl (.inl hs)
             . rcases mem_append.mp hs with hs|hs;.exact .inl (.inr hs)
               .exact .inr (by simpa using hs)
       . rintro _⟨es',ch,cT,us,s8,s9,jy,rfl,⟨h8,h9,h10⟩,hr,hdu,hI⟩;have:us=[]:=by cases us with|nil=>rfl|cons _ _=>cases hr
         subst this;rw[append_nil]at hdu;simp;refine⟨es',ch,pre++[p],qs,_,_,_,_,rfl,⟨rfl,h8,h9,h10⟩,rfl,by rw[append_assoc];exact hpq,hI.imp fun s hs=>?_⟩;obtain⟨q,hq,hs⟩:=hs;rcases mem_append.mp hq with hq|hq;.exact .inl ⟨q,hq,hs⟩
         . obtain rfl:q=p:=by simpa using hq
           refine .inr ?_;rw[hdu];obtain⟨v,g,e1,_⟩:=wH hs;exact mem_filter.mpr ⟨uW (List.getElem?_eq_some_iff.mp e1).1,hs⟩
   . rintro _⟨es',ch,pre,qs,s5,s8,s9,jy,rfl,⟨h5,h8,h9,h10⟩,hr,hpq,hI⟩;have:qs=[]:=by cases qs with|nil=>rfl|cons _ _=>cases hr
     subst this;rw[append_nil]at hpq;subst hpq;have hlen:=hI.cm.len m1;have hel:=hI.len;have hM2:=hM hR;have hO:=hI.out;simp;apply aj;simp[show ch.length<=16777216 by omega];by_cases hc:ch=[];.exact⟨0,by omega,n'+1,ch,es',_,_,_,_,_,rfl,⟨h5,h8,h9,h10⟩,.inr ⟨_,rfl⟩,hO,fun z=>absurd hc z⟩
     . have:0<ch.length:=by cases ch with|nil=>exact absurd rfl hc|cons _ _=>simp
       exact⟨2*(6-es'.length)+1,by omega,n'+1,ch,es',_,_,_,_,_,rfl,⟨h5,h8,h9,h10⟩,.inr ⟨_,rfl⟩,hO,fun _=>le_refl _⟩
def Hw(ws:List Wy)(b:Int):List aJ->Int->Prop|[],a=>a=b|s::c,a=>∃v,ws[s.1]?=some v/\frm v s.2=a/\Hw ws b c (too v s.2)
structure UT(ws:List Wy)(fs:List Int)(es:List En)(p:Int)(L:Nat)(a:Int)(l:Nat)(c:List aJ):Prop where
 WY:Hw ws p c a
 jW:∀s∈c,∃v,ws[s.1]?=some v/\jg ws fs (frm v s.2) s=true
 nd:(c.map (·.1)).Nodup
 lv:∀s∈c,∀v,ws[s.1]?=some v->∃l1 o1 o2,(frm v s.2,l1,o1)∈es/\(too v s.2,l1+1,o2)∈es/\l<=l1
 len:c.length+l=L
theorem sY{v:Wy}{f g:Bool}(h:g≠f):frm v g=too v f/\too v g=frm v f:=by cases f<;>cases g<;>first|exact absurd rfl h|exact⟨rfl,rfl⟩
theorem UT.cons{m:Int}{ws:List Wy}{fs:List Int}{es:List En}{p:Int}{L l:Nat}{c:List aJ}{s:aJ}{v:Wy}{o o':Option aJ}(hc:Ky m ws fs es)(h:UT ws fs es p L (too v s.2) (l+1) c)(e:ws[s.1]?=some v)(h1:(too v s.2,l+1,o)∈es)(h2:(frm v s.2,l,o')∈es)(ho:jg ws fs (frm v s.2) s=true):UT ws fs es p L (frm v s.2) l (s::c):=by
 refine⟨⟨v,e,rfl,h.WY⟩,fun u hu=>?_,?_,fun u hu x ex=>?_,by have:=h.len;simp only[length_cons];omega⟩
 . rcases mem_cons.mp hu with rfl|hu;.exact⟨v,e,ho⟩
   .exact h.jW u hu
 . rw[map_cons,nodup_cons];refine⟨fun hm=>?_,h.nd⟩;obtain⟨t,ht,et⟩:=mem_map.mp hm;obtain⟨l1,o1,o2,q1,q2,q3⟩:=h.lv t ht v (by rw[et];exact e);by_cases z:t.2=s.2;.rw[z]at q1;have:=(El hc.nd q1 h2).1;omega
   .rw[(sY z).2]at q2;have:=(El hc.nd q2 h2).1;omega
 . rcases mem_cons.mp hu with rfl|hu;.rw[e]at ex;cases ex;exact⟨l,_,_,h2,h1,le_refl _⟩
   .obtain⟨l1,o1,o2,q1,q2,q3⟩:=h.lv u hu x ex;exact⟨l1,o1,o2,q1,q2,by omega⟩
theorem Ds{es:List En}{p:Int}{l:Nat}{o:Option aJ}(hn:(es.map (·.1)).Nodup)(h:(p,l,o)∈es):mz ((es.map (·.1)).zip (es.map vX)) p=some (vX (p,l,o)):=by
 have:(es.map (·.1)).zip (es.map vX)=es.map en:=by rw[List.zip_map'];rfl
 rw[this];exact jz hn h
inductive JSt(m:Int)(ws:List Wy)(fs:List Int)(es:List En)(p:Int)(L:Nat)(a0 a1 a2:Sl)(M:Nat)(ρ:List Sl):Prop where|mk(a:Int)(l:Nat)(o:Option aJ)(c:List aJ)(s5:Sl)(q0:ρ=[a0,a1,a2,.own false (c.reverse.map sD),.val false (.int a),s5])(q1:fr s5=true)(q2:(a,l,o)∈es)(q3:UT ws fs es p L a l c)(q4:l<=M)
theorem Ba{w n L:Nat}{m p:Int}{ws:List Wy}{fs:List Int}{es:List En}{o:Option aJ}{Q:R->List Sl->Prop}(hw:100<=w)(h:Ky m ws fs es)(m1:m<=6)(hp:(p,L,o)∈es)(k:∀c,UT ws fs es p L 0 0 c->Q (.val (.tup (c.map sD))) [.val false (aM m ws),.val false (kj es),.val false (.int p)]):(run Γ w (n+2) 16 [.val false (aM m ws),.val false (kj es),.val false (.int p)]).sat Q:=by
 refine aO (d:=Ym) rfl rfl (by decide) ?_;symm;simp[Ym];apply aj;simp;apply aj;simp;have hL:=h.lv _ _ _ hp;have hes:=h.len m1;refine dY (JSt m ws fs es p L _ _ _) ?_ (k:=w) (m:=L) (by omega) ⟨p,L,o,[],.aP,rfl,rfl,hp,⟨rfl,by simp,by simp,by simp,by simp⟩,le_refl _⟩;rintro M _⟨a,l,o,c,s5,rfl,h5,ha,hc,hM⟩;have gz:=Ds h.nd ha;rcases h.stp a l o ha with⟨rfl,rfl,rfl⟩|⟨s,v,l',o',rfl,rfl,e,rfl,ho,h2⟩;.simp[kj,gz,vX,oS];symm;simp;exact k c hc
 . simp[kj,gz,vX,oS,sD,eU];symm;simp[gz,vX,oS,h5];apply aj;have hcl:c.length<16777216:=by have:=hc.len;omega
   simp[hcl];apply aj;simp[sD];refine jX e ?_;simp;exact⟨l',by omega,frm v s.2,l',o',s::c,.val false (eU s.1 s.2),by simp[kj,sD],rfl,h2,hc.cons h e ha h2 ho,le_refl _⟩
noncomputable def sg(x:Int)(f:Bool):Int:=if f then x else-x
noncomputable def gH(x:Int)(fs:List Int)(s:aJ):List Int:=fs.set s.1 ((fs[s.1]?.getD 0)+sg x s.2)
noncomputable def aug(x:Int)(fs:List Int)(c:List aJ):List Int:=c.foldl (gH x) fs
@[simp]theorem Fq{x:Int}{fs:List Int}{s:aJ}:(gH x fs s).length=fs.length:=by simp[gH]
theorem jF{x:Int}:∀{c:List aJ}{fs:List Int},(aug x fs c).length=fs.length|[],_=>rfl|s::c,fs=>by show(aug x (gH x fs s) c).length=_;rw[jF,Fq]
theorem iw{x:Int}{j:Nat}:∀{c:List aJ}{fs:List Int},j∉c.map (·.1)->(aug x fs c)[j]?=fs[j]?|[],_,_=>rfl|s::c,fs,h=>by rw[map_cons,mem_cons,not_or]at h;show(aug x (gH x fs s) c)[j]?=_;rw[iw h.2];unfold gH;rw[getElem?_set_ne (fun z=>h.1 z.symm)]
theorem pN{x:Int}:∀{c:List aJ}{fs:List Int}{s:aJ}{g:Int},(c.map (·.1)).Nodup->s∈c->fs[s.1]?=some g->(aug x fs c)[s.1]?=some (g+sg x s.2)
 |[],_,_,_,_,h,_=>by cases h|t::c,fs,s,g,hn,h,e=>by
   rw[map_cons,nodup_cons]at hn;show(aug x (gH x fs t) c)[s.1]?=_;have hlt:=(List.getElem?_eq_some_iff.mp e).1;rcases mem_cons.mp h with rfl|h;.rw[iw hn.1];unfold gH;rw[getElem?_set_self hlt,e];rfl
   .refine pN hn.2 h ?_;unfold gH;rw[getElem?_set_ne (fun z=>hn.1 (by rw[z];exact mem_map.mpr ⟨s,h,rfl⟩))];exact e
inductive JWt(x:Int)(fs:List Int)(c:List aJ)(a0 a1 a2:Sl)(r:List D)(ρ:List Sl):Prop where|mk(cT us:List aJ)(s4 s5:Sl)(q0:ρ=[a0,a1,a2,.own false ((aug x fs cT).map D.int),s4,s5])(q1:fr s4=true)(q2:fr s5=true)(q3:r=us.map sD)(q4:cT++us=c)
theorem uY{w n:Nat}{s:Sl}{x:Int}{fs:List Int}{c:List aJ}{Q:R->List Sl->Prop}(hs:Qo s fs)(hc:∀s∈c,s.1<fs.length)(k:Q (.own ((aug x fs c).map D.int)) [s,.val false (.tup (c.map sD)),.val false (.int x)]):(run Γ w (n+1) 17 [s,.val false (.tup (c.map sD)),.val false (.int x)]).sat Q:=by
 refine aO (d:=W7) rfl rfl (by decide) ?_;refine cL (fun ρ=>ρ=[s,.val false (.tup (c.map sD)),.val false (.int x),.own false (fs.map D.int),.aP,.aP]) ?_ ?_;.rcases hs with rfl|⟨b,rfl⟩;all_goals simp[W7]
 rintro _ rfl;symm;simp;refine bI (JWt x fs c _ _ _) ?_ ?_ ⟨[],c,.aP,.aP,rfl,rfl,rfl,rfl,rfl⟩;.rintro d r _⟨cT,us,s4,s5,rfl,h4,h5,hr,hd⟩;cases us with|nil=>cases hr|cons u us=>
     obtain⟨rfl,rfl⟩:d=sD u/\r=us.map sD:=by simpa using hr
     have hu:u.1<(aug x fs cT).length:=by rw[jF];exact hc u (by rw[<-hd];simp)
     have ea:(aug x fs cT)[u.1]?=some (aug x fs cT)[u.1]:=by simp[hu]
     have hx:gq (aug x fs cT).length (u.1:Int)=some u.1:=by unfold gq;rw[if_pos (by omega),if_pos (by omega)];simp
     have he:aug x fs (cT++[u])=(aug x fs cT).set u.1 ((aug x fs cT)[u.1]+sg x u.2):=by unfold aug;rw[foldl_append];show gH x (aug x fs cT) u=_;unfold gH;rw[ea];rfl
     have hd2:(cT++[u])++us=c:=by rw[append_assoc];exact hd
     generalize(aug x fs cT)[u.1]=g at*;simp[sD,eU,h4,h5];apply aj;obtain⟨j,f⟩:=u;cases f with|true=>simp[bw ea,hx];exact⟨cT++[(j,true)],us,_,_,by rw[he,map_set];rfl,rfl,rfl,rfl,hd2⟩|false=>simp[bw ea,hx];exact⟨cT++[(j,false)],us,_,_,by rw[he,map_set];rfl,rfl,rfl,rfl,hd2⟩
 . rintro _⟨cT,us,s4,s5,rfl,h4,h5,hr,hd⟩;have:us=[]:=by cases us with|nil=>rfl|cons _ _=>cases hr
   subst this;rw[append_nil]at hd;subst hd;simp;apply aj;simp;exact k
noncomputable def HF:List En->Int->Nat|[],_=>6|e::es,p=>if e.1=p then e.2.1 else HF es p
theorem lU{p:Int}{l:Nat}{o:Option aJ}:∀{es:List En},(es.map (·.1)).Nodup->(p,l,o)∈es->HF es p=l
 |[],_,h=>by cases h|e::es,hn,h=>by
   rw[map_cons,nodup_cons]at hn;rw[HF];rcases mem_cons.mp h with rfl|h;.rw[if_pos rfl]
   .rw[if_neg (fun z=>hn.1 (by rw[z];exact mem_map.mpr ⟨_,h,rfl⟩))];exact lU hn.2 h
theorem rG{p:Int}:∀{es:List En},(¬ ∃l o,(p,l,o)∈es)->HF es p=6|[],_=>rfl|e::es,h=>by rw[HF,if_neg (fun z=>h ⟨e.2.1,e.2.2,by rw[<-z];simp⟩)];exact rG fun⟨l,o,z⟩=>h ⟨l,o,mem_cons_of_mem _ z⟩
structure K4(m:Int)(ws:List Wy)(fs:List Int)(F:Int->Nat)(d:Nat):Prop where
 z:F 0=0
 e:F (m-1)=d
 st:∀s v,ws[s.1]?=some v->jg ws fs (frm v s.2) s=true->F (too v s.2)<=F (frm v s.2)+1
theorem uX.pot{m:Int}{ws:List Wy}{fs:List Int}{es:List En}(h:uX m ws fs es)(m1:m<=6){l:Nat}{o:Option aJ}(hl:(m-1,l,o)∈es):K4 m ws fs (HF es) l:=by
 refine⟨lU h.cm.nd h.cm.z,lU h.cm.nd hl,fun s v e ho=>?_⟩;have h6:=h.cm.len m1;have le6:HF es (too v s.2)<=6:=by
  by_cases c:∃l o,(too v s.2,l,o)∈es;.obtain⟨l,o,c⟩:=c;rw[lU h.cm.nd c];have:=h.cm.lv _ _ _ c;omega
  .rw[rG c];exact le_refl _
 by_cases c:∃l o,(frm v s.2,l,o)∈es;.obtain⟨l1,o1,c⟩:=c;obtain⟨l2,o2,c2,c3⟩:=h.cl _ _ _ s c ho v e;rw[lU h.cm.nd c,lU h.cm.nd c2];exact c3
 .rw[rG c];omega
theorem wB{m:Int}{ws:List Wy}{fs:List Int}{F:Int->Nat}{d:Nat}(h:K4 m ws fs F d){b:Int}:∀{c:List aJ}{a:Int},Hw ws b c a->(∀s∈c,∃v,ws[s.1]?=some v/\jg ws fs (frm v s.2) s=true)->F b<=F a+c.length|[],a,hp,_=>by have:a=b:=hp;rw[this];simp|s::c,a,⟨v,e,hf,hp⟩,ho=>by have h1:=wB h hp fun u hu=>ho u (mem_cons_of_mem _ hu);obtain⟨v',e',o⟩:=ho s (by simp);rw[e]at e';cases e';have h2:=h.st s v e o;rw[hf]at h2;simp only[length_cons];omega
theorem qU{m:Int}{ws:List Wy}{fs:List Int}{F:Int->Nat}{d:Nat}(h:K4 m ws fs F d){b:Int}:∀{c:List aJ}{a:Int},Hw ws b c a->(∀s∈c,∃v,ws[s.1]?=some v/\jg ws fs (frm v s.2) s=true)->F b=F a+c.length->∀s∈c,∀v,ws[s.1]?=some v->F (too v s.2)=F (frm v s.2)+1
 |[],_,_,_,_,s,hs,_,_=>by cases hs|s::c,a,⟨v,e,hf,hp⟩,ho,he,u,hu,x,ex=>by
   have ho':∀s∈c,∃v,ws[s.1]?=some v/\jg ws fs (frm v s.2) s=true:=fun u hu=>ho u (mem_cons_of_mem _ hu);have h1:=wB h hp ho';obtain⟨v',e',o⟩:=ho s (by simp);rw[e]at e';cases e';have h2:=h.st s v e o;rw[hf]at h2;simp only[length_cons]at he;rcases mem_cons.mp hu with rfl|hu;.rw[e]at ex;cases ex;rw[hf];omega
   .exact qU h hp ho' (by omega) u hu x ex
noncomputable def tgt(ws:List Wy)(fs:List Int)(F:Int->Nat)(s:aJ):Bool:=match ws[s.1]?with|some v=>jg ws fs (frm v s.2) s&&decide (F (too v s.2)=F (frm v s.2)+1)|none=>false
theorem Er{ws:List Wy}{fs:List Int}{F:Int->Nat}{s:aJ}{v:Wy}(e:ws[s.1]?=some v):tgt ws fs F s=(jg ws fs (frm v s.2) s&&decide (F (too v s.2)=F (frm v s.2)+1)):=by unfold tgt;rw[e]
noncomputable def Bq(ws:List Wy)(fs:List Int)(F:Int->Nat):Nat:=((gG ws.length).filter (tgt ws fs F)).length
theorem yM{ws:List Wy}{fs:List Int}{F:Int->Nat}(h:ws.length<=12):Bq ws fs F<=24:=by have:=List.length_filter_le (tgt ws fs F) (gG ws.length);rw[uE]at this;unfold Bq;omega
theorem Dv{p q:aJ->Bool}(h:∀t,q t=true->p t=true):∀(l:List aJ),(l.filter q).length<=(l.filter p).length|[]=>le_refl _|t::l=>by have ih:=Dv h l;cases hq:q t with|true=>simp[hq,h t hq,ih]|false=>cases hp:p t with|true=>simp[hq,hp];omega|false=>simp[hq,hp,ih]
theorem Eo{p q:aJ->Bool}{s:aJ}(h:∀t,q t=true->p t=true)(hp:p s=true)(hq:q s=false):∀{l:List aJ},s∈l->(l.filter q).length<(l.filter p).length
 |[],hs=>by cases hs|t::l,hs=>by
   have le:=Dv h l;rcases mem_cons.mp hs with rfl|hs;.simp[hp,hq];omega
   .have ih:=Eo h hp hq hs;cases hq2:q t with|true=>simp[hq2,h t hq2,ih]|false=>cases hp2:p t with|true=>simp[hq2,hp2];omega|false=>simp[hq2,hp2,ih]
theorem vp{ws:List Wy}{fs:List Int}{c:List aJ}{x:Int}{t:aJ}{v:Wy}(hc:∀s∈c,∃v,ws[s.1]?=some v/\jg ws fs (frm v s.2) s=true)(e:ws[t.1]?=some v)(h:jg ws (aug x fs c) (frm v t.2) t=true):jg ws fs (frm v t.2) t=true\/∃s∈c,s.1=t.1/\t.2≠s.2:=by
 by_cases z:t.1∈c.map (·.1)
 . obtain⟨s,hs,es⟩:=mem_map.mp z;by_cases q:t.2=s.2;.have:t=s:=Prod.ext_iff.mpr ⟨es.symm,q⟩;subst this;obtain⟨v',e',o⟩:=hc t hs;rw[e]at e';cases e';exact .inl o
   .exact .inr ⟨s,hs,es,q⟩
 .refine .inl ?_;unfold jg at h ⊢;rwa[iw z]at h
theorem FZ{ws:List Wy}{fs:List Int}{c:List aJ}{s:aJ}{v:Wy}{g:Int}(hn:(c.map (·.1)).Nodup)(hs:s∈c)(e:ws[s.1]?=some v)(e2:fs[s.1]?=some g){p:Int}:jg ws (aug (rR v g s.2) fs c) p s=false:=by
 rw[sZ e (pN hn hs e2)];have:rR v (g+sg (rR v g s.2) s.2) s.2=0:=by cases s.2<;>simp[rR,sg]<;>omega
 rw[this];simp
theorem K4.aug{m:Int}{ws:List Wy}{fs:List Int}{F:Int->Nat}{d:Nat}(h:K4 m ws fs F d){c:List aJ}{s:aJ}{v:Wy}{g:Int}(hp:Hw ws (m-1) c 0)(ho:∀s∈c,∃v,ws[s.1]?=some v/\jg ws fs (frm v s.2) s=true)(hn:(c.map (·.1)).Nodup)(hl:c.length=d)(hs:s∈c)(e:ws[s.1]?=some v)(e2:fs[s.1]?=some g):K4 m ws (aug (rR v g s.2) fs c) F d/\Bq ws (aug (rR v g s.2) fs c) F<Bq ws fs F:=by
 have Mh:=qU h hp ho (by rw[h.e,h.z];omega);have back:∀(t u:aJ)(x:Wy),u∈c->u.1=t.1->t.2≠u.2->ws[t.1]?=some x->F (too x t.2)+1=F (frm x t.2):=fun t u x hu eu ne ex=>by have:=Mh u hu x (by rw[eu];exact ex);rw[(sY ne).1,(sY ne).2];omega
 refine⟨⟨h.z,h.e,fun t x ex o=>?_⟩,?_⟩
 . rcases vp ho ex o with o|⟨u,hu,eu,ne⟩;.exact h.st t x ex o
   .have:=back t u x hu eu ne ex;omega
 . obtain⟨v',e',o⟩:=ho s hs;rw[e]at e';cases e';refine Eo (s:=s) (fun t ht=>?_) (by rw[Er e,o,Mh s hs v e];simp) (by rw[Er e,FZ hn hs e e2];rfl) (uW (List.getElem?_eq_some_iff.mp e).1);unfold tgt at ht ⊢;split at ht
   . rename_i x ex;simp only[and_eq_true,decide_eq_true_eq]at ht ⊢;refine⟨?_,ht.2⟩;rcases vp ho ex ht.1 with o|⟨u,hu,eu,ne⟩;.exact o
     .have:=back t u x hu eu ne ex;omega
   .cases ht
noncomputable def cD(x:List aJ×Int):D:=.tup [.tup (x.1.map sD),.int x.2]
noncomputable def KZ(fs:List Int)(x:List aJ×Int):List Int:=aug x.2 fs x.1
noncomputable def flow(N:Nat)(cs:List (List aJ×Int)):List Int:=cs.foldl KZ (replicate N 0)
theorem uH{N:Nat}{cs:List (List aJ×Int)}{x:List aJ×Int}:flow N (cs++[x])=aug x.2 (flow N cs) x.1:=by unfold flow;rw[foldl_append];rfl
theorem fP{N:Nat}{cs:List (List aJ×Int)}:(flow N cs).length=N:=by
 have:∀(cs:List (List aJ×Int))(fs:List Int),(cs.foldl KZ fs).length=fs.length:=fun cs=>by induction cs with|nil=>intro fs;rfl|cons x cs ih=>intro fs;rw[foldl_cons,ih];exact jF
 unfold flow;rw[this];simp
noncomputable def unS:D->aJ|.tup [.int j,.bl f]=>(j.toNat,f)|_=>(0,true)
@[simp]theorem Ou{s:aJ}:unS (sD s)=s:=rfl
noncomputable def KQ(ws:List Wy)(fs:List Int)(s:aJ):Int:=match ws[s.1]?,fs[s.1]?with|some v,some g=>rR v g s.2|_,_=>0
noncomputable def rmD(ws:List Wy)(fs:List Int)(d:D):D:=.int (KQ ws fs (unS d))
@[simp]theorem U9{es:List En}{p:Int}:uM false (.int p) (kj es)=some (.val (.bl (uo (es.map en) p))):=by show some (R.val (.bl ((es.map (·.1)).contains p)))=some (R.val (.bl ((HB (es.map en)).contains p)));rw[DK]
theorem Cd{m:Int}{ws:List Wy}{fs:List Int}{es es':List En}(h:uX m ws fs es)(h':Ky m ws fs es'):∀(l:Nat)(p:Int)(o:Option aJ),(p,l,o)∈es'->∃l o,(p,l,o)∈es:=by intro l;induction l with
 |zero=>
   intro p o z;rcases h'.stp p 0 o z with⟨_,rfl,_⟩|⟨_,_,_,_,_,z,_⟩;.exact⟨_,_,h.cm.z⟩
   .cases z|succ l ih=>
   intro p o z;rcases h'.stp p (l+1) o z with⟨_,_,z⟩|⟨s,v,l',o',_,e,e1,rfl,ho,z⟩;.cases z
   .cases e;obtain⟨l2,o2,z2⟩:=ih _ _ z;obtain⟨l3,o3,z3,_⟩:=h.cl _ _ _ s z2 ho v e1;exact⟨l3,o3,z3⟩
inductive FcE(a0 a1 a2 a3 a4 a5 a6:Sl)(ρ:List Sl):Prop where|mk(s:Sl)(q0:ρ=[a0,a1,a2,a3,a4,a5,a6,s])(q1:fr s=true)
inductive JE(I:List Int->Prop)(m:Int)(ws:List Wy)(M:Nat)(ρ:List Sl):Prop where|mk(cs:List (List aJ×Int))(fs:List Int)(es:List En)(F:Int->Nat)(d:Nat)(s5 s6:Sl)(q0:ρ=[.val false (aM m ws),.val false (.int (m-1)),.own false (fs.map D.int),.own false (cs.map cD),.val false (kj es),s5,s6])(q1:(fr s5=true/\fr s6=true))(q2:fs=flow ws.length cs)(q3:I fs)(q4:uX m ws fs es)(q5:K4 m ws fs F d)(q6:(6-d)*25+Bq ws fs F<=M)(q7:cs.length+M<=500)(q8:(∀x∈cs,∀s∈x.1,s.1<ws.length))
theorem Fx{w n:Nat}{m:Int}{ws:List Wy}{Q:R->List Sl->Prop}(I:List Int->Prop)(hw:1000<=w)(h:HN m ws)(I0:I (replicate ws.length 0))(I1:∀(fs:List Int)(c:List aJ)(x:Int),I fs->fs.length=ws.length->Hw ws (m-1) c 0->(c.map (·.1)).Nodup->0<x->(∀s∈c,∃v g,ws[s.1]?=some v/\fs[s.1]?=some g/\x<=rR v g s.2)->I (aug x fs c))(k:∀cs,cs.length<=500->(∀x∈cs,∀s∈x.1,s.1<ws.length)->I (flow ws.length cs)->(∀es,uX m ws (flow ws.length cs) es->¬ ∃l o,(m-1,l,o)∈es)->Q (.own (cs.map cD)) [.val false (aM m ws)]):(run Γ w (n+4) 18 [.val false (aM m ws)]).sat Q:=by
 have hn:=h.len;have m0:=h.m0;have m1:=h.m1;refine aO (d:=YW) rfl rfl (by decide) ?_;symm;simp[YW];refine cL (fun ρ=>ρ=[.val false (aM m ws),.val false (.int (m-1)),.own false ((flow ws.length []).map D.int),.aP,.aP,.aP,.aP]) ?_ ?_;.simp[flow];show _<=16777216;omega
 rintro _ rfl;symm;simp;apply aj;simp;refine oZ (by omega) (.inr ⟨true,rfl⟩) h fP fun es hes=>?_;simp;apply aj;simp;have hc0:=yM (fs:=flow ws.length []) (F:=fun _=>0) hn;refine dY (JE I m ws) ?_ (k:=w) (m:=200) (by omega) ⟨[],flow ws.length [],es,fun _=>0,0,.aP,.aP,rfl,⟨rfl,rfl⟩,rfl,I0,hes,⟨rfl,rfl,fun _ _ _ _=>zero_le _⟩,by omega,by simp,by simp⟩;rintro M _⟨cs,fs,es,F,d,s5,s6,rfl,⟨h5,h6⟩,hfs,hI,hes,hP,hM,hcs,hin⟩;have hfl:fs.length=ws.length:=by rw[hfs];exact fP
 by_cases hq:∃l o,(m-1,l,o)∈es
 . obtain⟨l,o,hlo⟩:=hq;have kt:uo (es.map en) (m-1)=true:=wX.mpr ⟨l,o,hlo⟩;simp[kt];apply aj;simp;refine Ba (by omega) hes.cm m1 hlo fun c hc=>?_;simp[h5];apply aj;have hcl:c.length<=6:=by have:=hc.len;have:=hes.cm.lv _ _ _ hlo;have:=hes.cm.len m1;omega
   have Kf:∀s∈c,∃v g,ws[s.1]?=some v/\fs[s.1]?=some g/\0<rR v g s.2:=fun s hs=>by obtain⟨v,e,o⟩:=hc.jW s hs;obtain⟨v',g,e1,e2,_,e4⟩:=wH o;exact⟨v',g,e1,e2,e4⟩
   simp[show c.length<=16777216 by omega];refine bC (FcE _ _ _ _ _ _ _) (rmD ws fs) ⟨.aP,rfl,rfl⟩ ?_ ?_;.rintro d hd _⟨s',rfl,hs'⟩;obtain⟨s,hs,rfl⟩:=mem_map.mp hd;obtain⟨v,g,e1,e2,_⟩:=Kf s hs;simp[hs',sD];refine rB (.inr ⟨true,rfl⟩) e1 e2 ?_;simp;refine⟨?_,_,rfl,rfl⟩;show D.int (KQ ws fs (unS (sD s)))=_;rw[Ou];unfold KQ;rw[e1,e2]
   rintro _⟨s',rfl,hs'⟩;have hmap:(c.map sD).map (rmD ws fs)=(c.map (KQ ws fs)).map D.int:=by rw[map_map,map_map];rfl
   rw[hmap];have ac3:c≠[]:=by rintro rfl;have:(0:Int)=m-1:=hc.WY;omega
   obtain⟨x,hx1,hx2,TJ⟩:=xR (ns:=c.map (KQ ws fs)) (by simpa using ac3);obtain⟨s,hs,hsx⟩:=mem_map.mp hx2;obtain⟨v,g,e1,e2,e3⟩:=Kf s hs;have hxr:rR v g s.2=x:=by rw[<-hsx];unfold KQ;rw[e1,e2]
   have hx0:0<x:=by omega
   have hle:∀s∈c,∃v g,ws[s.1]?=some v/\fs[s.1]?=some g/\x<=rR v g s.2:=fun u hu=>by obtain⟨v,g,e1,e2,_⟩:=Kf u hu;refine⟨v,g,e1,e2,?_⟩;have:=TJ _ (mem_map.mpr ⟨u,hu,rfl⟩);unfold KQ at this;rw[e1,e2]at this;exact this
   have hlt:∀s∈c,s.1<ws.length:=fun u hu=>by obtain⟨v,g,e1,_⟩:=Kf u hu;exact(List.getElem?_eq_some_iff.mp e1).1
   generalize c.map (KQ ws fs)=ns at*;simp[gY,hx1,h6];apply aj;simp[show cs.length<16777216 by omega];apply aj;simp;refine uY (.inr ⟨true,rfl⟩) (fun u hu=>by rw[hfl];exact hlt u hu) ?_;simp;apply aj;have W0:aug x fs c=flow ws.length (cs++[(c,x)]):=by rw[uH,<-hfs]
   simp;refine oZ (by omega) (.inr ⟨true,rfl⟩) h (by rw[W0];exact fP) fun es' Rb=>?_;simp;have hlen:c.length=l:=by have:=hc.len;omega
   have hdl:d<=l:=by have:=wB hP hc.WY hc.jW;rw[hP.e,hP.z]at this;omega
   have hl6:l<6:=by have:=hes.cm.lv _ _ _ hlo;have:=hes.cm.len m1;omega
   obtain⟨F',hP',hM'⟩:∃F',K4 m ws fs F' l/\(6-l)*25+Bq ws fs F'<=M:=by
    by_cases c:d=l;.subst c;exact⟨F,hP,hM⟩
    .have:=yM (fs:=fs) (F:=HF es) hn;exact⟨HF es,hes.pot m1 hlo,by omega⟩
   have hA:=hP'.aug hc.WY hc.jW hc.nd hlen hs e1 e2;rw[hxr]at hA;refine⟨M-1,by omega,cs++[(c,x)],aug x fs c,es',F',l,.val false (.tup (c.map sD)),.val false (.int x),by simp[cD],⟨rfl,rfl⟩,W0,I1 fs c x hI hfl hc.WY hc.nd hx0 hle,Rb,hA.1,by omega,by simp;omega,fun y hy=>?_⟩;rcases mem_append.mp hy with hy|hy;.exact hin y hy
   . obtain rfl:y=(c,x):=by simpa using hy
     exact hlt
 .have kt:uo (es.map en) (m-1)=false:=kin_no hq;simp[kt];apply aj;simp;exact k cs (by omega) hin (by rw[<-hfs];exact hI) fun es' Rb⟨l,o,z⟩=>hq (Cd hes (by rw[hfs];exact Rb.cm) l (m-1) o z)
noncomputable def Kl(r:Int)(fs S:List Int):D:=.tup [.int r,.lst (fs.map D.int),.tup (S.map D.int)]
inductive JF(m:Int)(ws zs:List Wy)(cs:List (List aJ×Int))(r:List D)(ρ:List Sl):Prop where|mk(cT us:List (List aJ×Int))(s3 s4:Sl)(q0:ρ=[.val false (aM m ws),.val false (aM m zs),.own false ((flow ws.length cT).map D.int),s3,s4,.aP])(q1:fr s3=true)(q2:fr s4=true)(q3:r=us.map cD)(q4:cT++us=cs)
theorem Cg(ks:List Int):∃S:List Int,yw (ks.map D.int)=S.map D.int/\S.Perm ks:=by
 have hp:=o7 (ks.map D.int);have e:yw (ks.map D.int)=((yw (ks.map D.int)).map jU).map D.int:=by rw[map_map];refine(List.map_id'' (fun _=>rfl) _).symm.trans (map_congr_left fun d hd=>?_);obtain⟨i,_,rfl⟩:=mem_map.mp (hp.mem_iff.mp hd);rfl
 refine⟨_,e,?_⟩;have:=hp.map jU;rwa[map_map,show jU ∘ D.int=id from rfl,map_id]at this
theorem uQ{w n:Nat}{m:Int}{ws:List Wy}{Q:R->List Sl->Prop}(I:List Int->Prop)(hw:1000<=w)(h:bj m ws)(I0:I (replicate ws.length 0))(I1:∀(fs:List Int)(c:List aJ)(x:Int),I fs->fs.length=ws.length->Hw (ws.map Wy.z) (m-1) c 0->(c.map (·.1)).Nodup->0<x->(∀s∈c,∃v g,(ws.map Wy.z)[s.1]?=some v/\fs[s.1]?=some g/\x<=rR v g s.2)->I (aug x fs c))(k:∀fs es S,fs.length=ws.length->I fs->uX m (ws.map Wy.z) fs es->(¬ ∃l o,(m-1,l,o)∈es)->yw ((es.map (·.1)).map D.int)=S.map D.int->S.Perm (es.map (·.1))->Q (.val (Kl (dot (fun x=>if x=0 then 1 else 0) ws fs) fs S)) [.val false (aM m ws)]):(run Γ w (n+5) 20 [.val false (aM m ws)]).sat Q:=by
 have hn:=h.len;have m0:=h.m0;have m1:=h.m1;have hz:=HN.of h;have Zu:(ws.map Wy.z).length=ws.length:=length_map _;refine aO (d:=Y7) rfl rfl (by decide) ?_;symm;simp[Y7];refine tV h ?_;generalize ws.map Wy.z=zs at*;simp;refine cL (fun ρ=>ρ=[.val false (aM m ws),.val false (aM m zs),.own false ((flow ws.length []).map D.int),.aP,.aP,.aP]) ?_ ?_;.simp[flow];show _<=16777216;omega
 rintro _ rfl;symm;simp;refine Fx I hw hz (by rw[Zu];exact I0) (fun fs c x q1 q2=>I1 fs c x q1 (by rw[q2,Zu])) fun cs hcs hin hI hend=>?_;rw[Zu]at hin hI hend;simp;refine bI (JF m ws zs cs) ?_ ?_ ⟨[],cs,.aP,.aP,rfl,rfl,rfl,rfl,rfl⟩;.rintro d r _⟨cT,us,s3,s4,rfl,h3,h4,hr,hd⟩;cases us with|nil=>cases hr|cons u us=>
     obtain⟨rfl,rfl⟩:d=cD u/\r=us.map cD:=by simpa using hr
     have hd2:(cT++[u])++us=cs:=by rw[append_assoc];exact hd
     simp[cD,h3,h4];apply aj;simp;refine uY (.inr ⟨true,rfl⟩) (fun s hs=>by rw[fP];exact hin u (by rw[<-hd];simp) s hs) ?_;simp;exact⟨cT++[u],us,_,_,by rw[uH],rfl,rfl,rfl,hd2⟩
 . rintro _⟨cT,us,s3,s4,rfl,h3,h4,hr,hd⟩;have:us=[]:=by cases us with|nil=>rfl|cons _ _=>cases hr
   subst this;rw[append_nil]at hd;subst hd;simp;apply aj;simp;refine oZ (by omega) (.inr ⟨true,rfl⟩) hz (by rw[fP,Zu]) fun es hes=>?_;obtain⟨S,hS1,hS2⟩:=Cg (es.map (·.1));have hso:blt .mO [kj es]=some (.own (S.map D.int)):=by show(if(es.map (·.1)).length<64 then some (R.own (yw ((es.map (·.1)).map D.int)))else none)=_;have hl:=hes.cm.len m1;rw[hS1,if_pos (by rw[length_map];omega)]
   simp[hso];apply aj;simp;refine vJ (.inr ⟨true,rfl⟩) h fP ?_;simp;exact k _ es S fP hI hes (hend es hes) hS1 hS2
theorem oK{ws:List Wy}{ps rs:List Int}{k p:Int}(hp:ps.getLast?=some p)(h:dD ws ps k=some rs):0<=k/\k<(ws.length:Int)/\∃v,ws[k.toNat]?=some v/\0<v.r/\v.s=p/\v.t∉ps/\rs=ps++[v.t]:=by
 have hne:ps≠[]:=by rintro rfl;cases hp
 obtain⟨k0,k1,_⟩:=ou h;refine⟨k0,k1,?_⟩;obtain⟨v,e1,e2,e3,e4,_⟩:=zH hne h;refine⟨v,e1,?_,?_,e3,e2⟩
 . unfold dD at h;rw[if_pos ⟨k0,k1⟩,e1]at h;dsimp only at h;split at h;.cases h
   .omega
 .rw[hp]at e4;cases e4;rfl
theorem xG{ws:List Wy}:∀{l ps qs:List Int}{p:Int},ps.getLast?=some p->lQ ws l ps=some qs->∃ks:List Nat,l=aH ks/\ks.Nodup/\(∃q,qs.getLast?=some q/\path ws p ks q)/\∀k∈ks,∃v,ws[k]?=some v/\0<v.r/\v.t∉ps|[],ps,qs,p,hp,h=>by rw[lQ]at h;cases h;exact⟨[],rfl,by simp,⟨p,hp,rfl⟩,by simp⟩|k::l,ps,qs,p,hp,h=>by rw[lQ]at h;cases e:dD ws ps k with|none=>rw[e]at h;cases h|some rs=>
     rw[e]at h;obtain⟨k0,k1,v,e1,e2,e3,e4,rfl⟩:=oK hp e;obtain⟨ks,h1,h2,⟨q,h3,h4⟩,h5⟩:=xG (p:=v.t) (by simp) h;refine⟨k.toNat::ks,?_,?_,⟨q,h3,v,e1,e3,h4⟩,fun j hj=>?_⟩;.rw[h1];show k::aH ks=((k.toNat:Nat):Int)::aH ks;rw[show((k.toNat:Nat):Int)=k by omega]
     .rw[nodup_cons];refine⟨fun hm=>?_,h2⟩;obtain⟨u,u1,_,u3⟩:=h5 _ hm;rw[e1]at u1;cases u1;exact u3 (by simp)
     . rcases mem_cons.mp hj with rfl|hj;.exact⟨v,e1,e2,e4⟩
       .obtain⟨u,u1,u2,u3⟩:=h5 j hj;exact⟨u,u1,u2,fun z=>u3 (by simp[z])⟩
theorem uU{m:Int}{us ws:List Wy}(hk:bj m ws)(hl:us.length=ws.length)(hh:∀(k:Nat)(u:Wy),us[k]?=some u->∃v,ws[k]?=some v/\v.s=u.s/\v.t=u.t/\u.r<=v.r):∀{l ps qs:List Int}{p:Int},ps.getLast?=some p->lQ us l ps=some qs->lQ ws l ps=some qs|[],ps,qs,p,hp,h=>h|k::l,ps,qs,p,hp,h=>by rw[lQ]at h ⊢;cases e:dD us ps k with|none=>rw[e]at h;cases h|some rs=>rw[e]at h;obtain⟨k0,k1,u,e1,e2,e3,e4,rfl⟩:=oK hp e;obtain⟨v,f1,f2,f3,f4⟩:=hh _ _ e1;rw[yV hk (by rintro rfl;cases hp) k0 (by omega) f1 (by omega) (by rw[hp,f2,e3]) (by rw[f3];exact e4),f3];exact uU hk hl hh (p:=u.t) (by simp) h
noncomputable def oA(ks:List Nat):List aJ:=ks.map fun k=>(k,false)
theorem oM{ks:List Nat}:(oA ks).map (·.1)=ks:=by unfold oA;rw[map_map];exact map_id _
theorem FQ{c:Int->Int}{x:Int}{ws:List Wy}:∀{ks:List Nat}{ls:List Int}{p q:Int},ls.length=ws.length->path ws p ks q->dot c ws (aug x ls (oA ks))=dot c ws ls-x*(c p-c q)
 |[],ls,p,q,_,h=>by have:p=q:=h;subst this;show dot c ws ls=_;simp|k::ks,ls,p,q,hl,⟨v,h1,h2,h3⟩=>by
   have hk:=(List.getElem?_eq_some_iff.mp h1).1;have e:ls[k]?=some ls[k]:=by simp[hl,hk]
   show dot c ws (aug x (gH x ls (k,false)) (oA ks))=_;rw[FQ (by simp[hl]) h3];have:gH x ls (k,false)=ls.set k (ls[k]+-x):=by unfold gH;rw[e];rfl
   rw[this,nZ h1 e,h2];have:-x*(c p-c v.t)=-(x*(c p-c v.t)):=Int.neg_mul _ _;have h4:x*(c p-c q)=x*(c p-c v.t)+x*(c v.t-c q):=by rw[<-mul_add];congr 1;omega
   omega
noncomputable def pos(ls:List Int):Nat:=(ls.filter fun l=>decide (0<l)).length
theorem Gx:∀{ls us:List Int},us.length=ls.length->(∀(i:Nat)(l u:Int),ls[i]?=some l->us[i]?=some u->0<u->0<l)->pos us<=pos ls
 |[],[],_,_=>le_refl _|[],_::_,h,_=>by simp at h|_::_,[],h,_=>by simp at h|l::ls,u::us,h,hh=>by
   have ih:=Gx (ls:=ls) (us:=us) (by simpa using h) fun i a b e1 e2=>hh (i+1) a b (by simpa using e1) (by simpa using e2);have h0:=hh 0 l u rfl rfl;unfold pos at ih ⊢;by_cases c:0<u;.simp[c,h0 c];exact ih
   . by_cases d:0<l;.simp[c,d];omega
     .simp[c,d];exact ih
theorem Di:∀{ls us:List Int}{j:Nat}{a b:Int},us.length=ls.length->(∀(i:Nat)(l u:Int),ls[i]?=some l->us[i]?=some u->0<u->0<l)->ls[j]?=some a->us[j]?=some b->0<a->¬ 0<b->pos us<pos ls
 |[],[],_,_,_,_,_,e,_,_,_=>by simp at e|[],_::_,_,_,_,h,_,_,_,_,_=>by simp at h|_::_,[],_,_,_,h,_,_,_,_,_=>by simp at h|l::ls,u::us,0,a,b,h,hh,e1,e2,h1,h2=>by simp at e1 e2;subst e1 e2;have ih:=Gx (ls:=ls) (us:=us) (by simpa using h) fun i a b e1 e2=>hh (i+1) a b (by simpa using e1) (by simpa using e2);unfold pos at ih ⊢;simp[h1,h2];omega|l::ls,u::us,j+1,a,b,h,hh,e1,e2,h1,h2=>by
   have ih:=Di (ls:=ls) (us:=us) (j:=j) (by simpa using h) (fun i a b e1 e2=>hh (i+1) a b (by simpa using e1) (by simpa using e2)) (by simpa using e1) (by simpa using e2) h1 h2;have h0:=hh 0 l u rfl rfl;unfold pos at ih ⊢;by_cases c:0<u;.simp[c,h0 c];exact ih
   . by_cases d:0<l;.simp[c,d];omega
     .simp[c,d];exact ih
theorem Ih{ls:List Int}{j:Nat}{a:Int}(e:ls[j]?=some a)(h:0<a):0<pos ls:=by unfold pos;exact List.length_pos_of_mem (mem_filter.mpr ⟨mem_of_getElem? e,by simpa using h⟩)
noncomputable abbrev mW:=List Nat×Int
noncomputable def jT(c:mW):D:=.tup [.tup ((aH c.1).map D.int),.int c.2]
noncomputable def Kh(cs:List mW)(k:Nat):Int:=(cs.map fun c=>if k∈c.1 then c.2 else 0).sum
def DX(m:Int)(ws:List Wy)(ks:List Nat):Prop:=∃ps,lQ ws (aH ks) [0]=some ps/\ps.getLast?=some (m-1)
structure RI(m:Int)(ws:List Wy)(fs:List Int)(R0:Int)(ls:List Int)(r:Int)(cs:List mW):Prop where
 len:ls.length=ws.length
 nn:∀(k:Nat)(v:Wy)(l:Int),ws[k]?=some v->ls[k]?=some l->0<=l/\l<=v.r
 go:Goes m ws ls r
 Rc:∀c∈cs,1<=c.2/\c.1.length<=12/\DX m ws c.1
 mka:∀(k:Nat)(f l:Int),fs[k]?=some f->ls[k]?=some l->Kh cs k+l=f
 sum:(cs.map (·.2)).sum+r=R0
 cnt:0<r->cs.length+pos ls<=ws.length
 W2:cs.length<=ws.length
theorem Bp{m:Int}{ws:List Wy}(h:bj m ws){ks:List Nat}(hn:ks.Nodup)(hk:∀k∈ks,∃v,ws[k]?=some v/\0<v.r/\v.t∉[(0:Int)]):ks.length<=12:=by
 have:=kW (l2:=List.range ws.length) hn fun k z=>by obtain⟨v,e,_⟩:=hk k z;exact mem_range.mpr (List.getElem?_eq_some_iff.mp e).1
 rw[length_range]at this;have:=h.len;omega
theorem RI.turn{m:Int}{ws:List Wy}{fs:List Int}{R0:Int}{ls:List Int}{r x:Int}{cs:List mW}(h:RI m ws fs R0 ls r cs)(hk:bj m ws)(hr:0<r){ks:List Nat}{ps:List Int}(hg:lQ (ni ws ls) (aH ks) [0]=some ps)(hl:ps.getLast?=some (m-1))(hn:ks.Nodup)(hp:path ws 0 ks (m-1))(hkl:∀k∈ks,∃l,ls[k]?=some l/\0<l)(hx1:x=r\/∃k∈ks,ls[k]?=some x)(hx2:x<=r)(TJ:∀k∈ks,∀l,ls[k]?=some l->x<=l)(hks:ks.length<=12)(hne:ks≠[]):RI m ws fs R0 (aug x ls (oA ks)) (r-x) (cs++[(ks,x)])/\1<=x/\(0<r-x->pos (aug x ls (oA ks))<pos ls):=by
 have hbn:((oA ks).map (·.1)).Nodup:=by rw[oM];exact hn
 have x1:1<=x:=by
  rcases hx1 with rfl|⟨k,hkk,e⟩;.omega
  .obtain⟨l,e2,l0⟩:=hkl k hkk;rw[e]at e2;cases e2;omega
 have inn:∀(k:Nat)(l:Int),k∈ks->ls[k]?=some l->(aug x ls (oA ks))[k]?=some (l-x):=fun k l z e=>by have:=pN (x:=x) (s:=(k,false)) hbn (mem_map.mpr ⟨k,z,rfl⟩) e;rw[this];rfl
 have out:∀(k:Nat),k∉ks->(aug x ls (oA ks))[k]?=ls[k]?:=fun k z=>iw (by rw[oM];exact z);have Rf:(aug x ls (oA ks)).length=ls.length:=jF;have back:∀(k:Nat)(u:Int),(aug x ls (oA ks))[k]?=some u->∃l,ls[k]?=some l/\u=if k∈ks then l-x else l:=fun k u e=>by
  have hlt:=(List.getElem?_eq_some_iff.mp e).1;rw[Rf]at hlt;have e2:ls[k]?=some ls[k]:=by simp[hlt]
  by_cases z:k∈ks;.rw[inn k _ z e2]at e;cases e;exact⟨_,e2,by rw[if_pos z]⟩
  .rw[out k z,e2]at e;cases e;exact⟨_,e2,by rw[if_neg z]⟩
 have pp:∀(i:Nat)(l u:Int),ls[i]?=some l->(aug x ls (oA ks))[i]?=some u->0<u->0<l:=fun i l u e1 e2 u0=>by obtain⟨l',e3,rfl⟩:=back i u e2;rw[e1]at e3;cases e3;split at u0<;>omega
 have W3:0<r-x->pos (aug x ls (oA ks))<pos ls:=fun z=>by
  rcases hx1 with rfl|⟨k,hkk,e⟩;.omega
  .exact Di Rf pp e (inn k x hkk e) (by omega) (by omega)
 refine⟨⟨by rw[Rf];exact h.len,fun k v u e1 e2=>?_,⟨by omega,fun c=>?_⟩,fun c hc=>?_,fun k f u e1 e2=>?_,?_,fun z=>?_,?_⟩,x1,W3⟩
 . obtain⟨l,e3,rfl⟩:=back k u e2;have:=h.nn k v l e1 e3;split;.rename_i z;have:=TJ k z l e3;omega
   .exact this
 .rw[FQ h.len hp,h.go.2 c];rw[Int.sub_mul]
 . rcases mem_append.mp hc with hc|hc;.exact h.Rc c hc
   . obtain rfl:c=(ks,x):=by simpa using hc
     refine⟨x1,hks,ps,?_,hl⟩;refine uU hk (tO h.len) (fun k u e=>?_) (p:=0) rfl hg;obtain⟨v,l,e1,e2,rfl⟩:=o8 e;exact⟨v,e1,rfl,rfl,(h.nn k v l e1 e2).2⟩
 . obtain⟨l,e3,rfl⟩:=back k u e2;have:=h.mka k f l e1 e3;unfold Kh at this ⊢;rw[map_append,List.sum_append];by_cases z:k∈ks;.simp[z];omega
   .simp[z];omega
 .have:=h.sum;rw[map_append,List.sum_append];simp;omega
 .have:=W3 z;have:=h.cnt hr;simp only[length_append,length_cons,length_nil];omega
 . have:=h.cnt hr;obtain⟨k,ks',e⟩:∃k ks',ks=k::ks':=by cases ks with|nil=>exact absurd rfl hne|cons k ks'=>exact⟨k,ks',rfl⟩
   obtain⟨l,e2,l0⟩:=hkl k (by rw[e];simp);have:=Ih e2 l0;simp only[length_append,length_cons,length_nil];omega
inductive FcR(a0 a1 a2 a3 a4 a5 a6 a7:Sl)(ρ:List Sl):Prop where|mk(s:Sl)(q0:ρ=[a0,a1,a2,a3,a4,a5,a6,a7,s])(q1:fr s=true)
noncomputable def lfD(ls:List Int):D->D|.int k=>.int ((ls[k.toNat]?).getD 0)|d=>d
@[simp]theorem adJ{ls:List Int}{k:Int}:lfD ls (.int k)=.int ((ls[k.toNat]?).getD 0):=rfl
inductive JRd(m:Int)(ws:List Wy)(fs:List Int)(R0:Int)(M:Nat)(ρ:List Sl):Prop where|mk(ls:List Int)(r:Int)(cs:List mW)(s5 s6 s7:Sl)(q0:ρ=[.val false (aM m ws),.own true (fs.map D.int),.own false (ls.map D.int),.val false (.int r),.own false (cs.map jT),s5,s6,s7])(q1:A3 (fr s5=true) (fr s6=true) (fr s7=true))(q2:RI m ws fs R0 ls r cs)(q3:(0<r->pos ls+1<=M))
inductive JRw(x:Int)(ls:List Int)(ks:List Nat)(a0 a1 a3 a4 a5 a6:Sl)(q:List D)(ρ:List Sl):Prop where|mk(cT us:List Nat)(s7:Sl)(q0:ρ=[a0,a1,.own false ((aug x ls (oA cT)).map D.int),a3,a4,a5,a6,s7])(q1:fr s7=true)(q2:q=(aH us).map D.int)(q3:cT++us=ks)
theorem xx{w n:Nat}{m R0:Int}{ws:List Wy}{fs:List Int}{Q:R->List Sl->Prop}(hw:50000000<=w)(h:bj m ws)(hf:fs.length=ws.length)(hb:∀(k:Nat)(v:Wy)(l:Int),ws[k]?=some v->fs[k]?=some l->0<=l/\l<=v.r)(hG:Goes m ws fs R0)(k:∀ls r cs,RI m ws fs R0 ls r cs->r=0->Q (.own (cs.map jT)) [.val false (aM m ws),.own true (fs.map D.int)]):(run Γ w (n+4) 10 [.val false (aM m ws),.own true (fs.map D.int)]).sat Q:=by
 have hn:=h.len;have m0:=h.m0;have m1:=h.m1;refine aO (d:=Yp) rfl rfl (by decide) ?_;symm;simp[Yp];apply aj;simp;refine vJ (.inr ⟨true,rfl⟩) h hf ?_;have hr0:dot (fun x=>if x=0 then 1 else 0) ws fs=R0:=by rw[hG.2];simp[show ¬ m-1=0 by omega]
 rw[hr0];simp;apply aj;simp;apply aj;simp;have hp0:pos fs<=ws.length:=by rw[<-hf];exact List.length_filter_le _ _
 refine dY (JRd m ws fs R0) ?_ (k:=w) (m:=100) (by omega) ⟨fs,R0,[],.aP,.aP,.aP,rfl,⟨rfl,rfl,rfl⟩,⟨hf,hb,hG,by simp,fun k f l e1 e2=>by rw[e1]at e2;cases e2;simp[Kh],by simp,fun _=>by simpa using hp0,by simp⟩,fun _=>by omega⟩;rintro M _⟨ls,r,cs,s5,s6,s7,rfl,⟨h5,h6,h7⟩,hI,hM⟩;by_cases hr:0<r
 . simp[hr];symm;simp;refine zR h ?_;simp;have hz:=Pr h hI.len hI.nn;obtain⟨g,hg⟩:=JM hI.go hr fun k v l e1 e2=>(hI.nn k v l e1 e2).1;obtain⟨g0,hg0⟩:=vA hz g.toNat g (le_refl _) hg;refine Ek hw hz (by omega) (by omega) hg0 fun l ps hgo lN=>?_;obtain⟨ks,rfl,hnd,⟨q,hq,W4⟩,hks⟩:=xG (p:=0) rfl hgo;rw[lN]at hq;cases hq;have hp2:path ws 0 ks (m-1):=by clear hnd hgo hks hg0;suffices hh:∀(ks:List Nat)(p q:Int),path (ni ws ls) p ks q->path ws p ks q from hh ks 0 (m-1) W4;intro ks;induction ks with|nil=>intro p q z;exact z|cons a ks ih=>rintro p q⟨u,u1,u2,u3⟩;obtain⟨v,l,v1,_,rfl⟩:=o8 u1;exact⟨v,v1,u2,ih _ _ u3⟩
   have hkl:∀k∈ks,∃l,ls[k]?=some l/\0<l:=fun k hk=>by obtain⟨u,u1,u2,_⟩:=hks k hk;obtain⟨v,l,_,e2,rfl⟩:=o8 u1;exact⟨l,e2,u2⟩
   have W5:=Bp hz hnd hks;have hne:ks≠[]:=by rintro rfl;have:(0:Int)=m-1:=hp2;omega
   simp[h5];apply aj;simp[show(aH ks).length<=16777216 by simp[aH];omega];refine bC (FcR _ _ _ _ _ _ _ _) (lfD ls) ⟨.aP,rfl,rfl⟩ ?_ ?_;.rintro d hd _⟨s,rfl,hs⟩;simp only[aH,map_map,mem_map]at hd;obtain⟨k,hk,rfl⟩:=hd;obtain⟨l,e,_⟩:=hkl k hk;simp[hs,bw e,e];exact⟨_,rfl,rfl⟩
   rintro _⟨s,rfl,hs⟩;have hmap:((aH ks).map D.int).map (lfD ls)=(ks.map fun k=>(ls[k]?).getD 0).map D.int:=by unfold aH;rw[map_map,map_map,map_map];refine map_congr_left fun k _=>by simp
   rw[hmap];obtain⟨x,hx1,hx2,TJ⟩:=xR (ns:=r::ks.map fun k=>(ls[k]?).getD 0) (by simp);have hxl:x<=r:=TJ r (by simp);have hxk:∀k∈ks,∀l,ls[k]?=some l->x<=l:=fun k hk l e=>by have:=TJ ((ls[k]?).getD 0) (mem_cons_of_mem _ (mem_map.mpr ⟨k,hk,rfl⟩));rwa[e]at this
   have hxm:x=r\/∃k∈ks,ls[k]?=some x:=by
    rcases mem_cons.mp hx2 with rfl|hx2;.exact .inl rfl
    .obtain⟨k,hk,e⟩:=mem_map.mp hx2;obtain⟨l,e2,_⟩:=hkl k hk;rw[e2]at e;exact .inr ⟨k,hk,by rw[e2,<-e];rfl⟩
   have hlen:(ks.map fun k=>(ls[k]?).getD 0).length<=12:=by simpa using W5
   generalize(ks.map fun k=>(ls[k]?).getD 0)=ns at*;have hmi:(D.int r::ns.map D.int).mapM iQ=some (r::ns):=gY (ns:=r::ns);simp[hmi,hx1,h6];refine⟨by show _<=16777216;omega,?_⟩;obtain⟨hI2,x1,hpd⟩:=hI.turn h hr hgo lN hnd hp2 hkl hxm hxl hxk W5 hne;symm;simp;refine bI (JRw x ls ks _ _ _ _ _ _) ?_ ?_ ⟨[],ks,s7,rfl,h7,rfl,rfl⟩;.rintro d q _⟨cT,us,s7,rfl,h7,hq,hd⟩;cases us with|nil=>cases hq|cons u us=>
       obtain⟨rfl,rfl⟩:d=.int (u:Int)/\q=(aH us).map D.int:=by simpa[aH]using hq
       have hu:u∈ks:=by rw[<-hd];simp
       have hun:u∉cT:=by rw[<-hd]at hnd;have:=nodup_append.mp hnd;exact fun z=>this.2.2 u z u (by simp) rfl
       obtain⟨l,e,_⟩:=hkl u hu;have ea:(aug x ls (oA cT))[u]?=some l:=by rw[iw (by rw[oM];exact hun)];exact e
       have hul:u<(aug x ls (oA cT)).length:=(List.getElem?_eq_some_iff.mp ea).1;have hx:gq (aug x ls (oA cT)).length (u:Int)=some u:=by unfold gq;rw[if_pos (by omega),if_pos (by omega)];simp
       have he:aug x ls (oA (cT++[u]))=(aug x ls (oA cT)).set u (l-x):=by unfold oA aug;rw[map_append,foldl_append];show gH x (aug x ls (oA cT)) (u,false)=_;unfold gH;rw[ea];rfl
       have hd2:(cT++[u])++us=ks:=by rw[append_assoc];exact hd
       simp[h7];apply aj;simp[bw ea,hx];exact⟨cT++[u],us,_,by rw[he,map_set],rfl,rfl,hd2⟩
   . rintro _⟨cT,us,s7,rfl,h7,hq,hd⟩;have:us=[]:=by cases us with|nil=>rfl|cons _ _=>cases hq
     subst this;rw[append_nil]at hd;subst hd;have hcl:=hI.W2;simp;apply aj;simp;apply aj;simp[show cs.length<16777216 by omega];have hM2:=hM hr;by_cases hz2:0<r-x;.have:=hpd hz2;exact⟨pos (aug x ls (oA cT))+1,by omega,aug x ls (oA cT),r-x,cs++[(cT,x)],.val false (.tup ((aH cT).map D.int)),.val false (.int x),s7,by simp[jT],⟨rfl,rfl,h7⟩,hI2,fun _=>le_refl _⟩
     .exact⟨0,by omega,aug x ls (oA cT),r-x,cs++[(cT,x)],.val false (.tup ((aH cT).map D.int)),.val false (.int x),s7,by simp[jT],⟨rfl,rfl,h7⟩,hI2,fun z=>absurd z hz2⟩
 .simp[hr];symm;simp;exact k ls r cs hI (by have:=hI.go.1;omega)
noncomputable def gd:Nat->D->Bool|_,.non=>true|_,.int _=>true|k+1,.tup ds=>decide (ds.length<=1000)&&ds.all (gd k)|k+1,.lst ds=>decide (ds.length<=1000)&&ds.all (gd k)|_,_=>false
theorem nM{α:Type}{l:List α}:(l.map fun _=>D.bl true).mapM tX=some (l.map fun _=>true):=by induction l with|nil=>rfl|cons a l ih=>simp[ih]
theorem all_true{α:Type}{l:List α}:(l.map fun _=>true).all id=true:=by simp
theorem jk:∀(k:Nat)(d:D),gd k d=true->iG d d=true:=by
 have seq:∀(k:Nat),(∀d,gd k d=true->iG d d=true)->∀ds:List D,ds.all (gd k)=true->fj ds ds=true:=by intro k ih ds;induction ds with|nil=>intro _;rw[fj]|cons d ds ihd=>intro h;rw[all_cons,and_eq_true]at h;rw[fj,ih d h.1,ihd h.2];rfl
 intro k;induction k with
 |zero=>intro d g;cases d with|non=>rfl|int i=>exact beq_self_eq_true _|bl b=>cases g|str s=>cases g|cY s=>cases g|dv _ _=>cases g|tup ds=>cases g|lst ds=>cases g
 |succ k ih=>intro d g;cases d with|non=>rfl|int i=>exact beq_self_eq_true _|bl b=>cases g|str s=>cases g|cY s=>cases g|dv _ _=>cases g|tup ds=>rw[gd,and_eq_true]at g;exact seq k ih ds g.2|lst ds=>rw[gd,and_eq_true]at g;exact seq k ih ds g.2
theorem Dk:∀(k j:Nat)(d:D),k<=j->gd k d=true->cX j d=true:=by intro k;induction k with
 |zero=>intro j d _ g;cases d with|non=>rw[cX]|int i=>rw[cX]|bl b=>cases g|str s=>cases g|cY s=>cases g|dv _ _=>cases g|tup ds=>cases g|lst ds=>cases g
 |succ k ih=>intro j d hj g;cases d with|non=>rw[cX]|int i=>rw[cX]|bl b=>cases g|str s=>cases g|cY s=>cases g|dv _ _=>cases g|tup ds=>rw[gd,and_eq_true]at g;obtain⟨j,rfl⟩:∃i,j=i+1:=⟨j-1,by omega⟩;exact Gm fun d hd=>ih j d (by omega) (all_eq_true.mp g.2 d hd)|lst ds=>rw[gd,and_eq_true]at g;obtain⟨j,rfl⟩:∃i,j=i+1:=⟨j-1,by omega⟩;exact Jf fun d hd=>ih j d (by omega) (all_eq_true.mp g.2 d hd)
theorem ne_self{k:Nat}{d:D}(hk:k<=8)(h:gd k d=true):cm .ne d d=some false:=by show rY d d=_;unfold rY;rw[Dk k 8 d hk h,jk k d h];rfl
theorem eq_self{k:Nat}{d:D}(hk:k<=8)(h:gd k d=true):cm .eq d d=some true:=by show wN d d=_;unfold wN;rw[Dk k 8 d hk h,jk k d h];rfl
theorem zA{qs:List Int}{p:Int}(h:qs.getLast?=some p):at' (qs.map D.int) (-1)=some (.int p):=by
 obtain⟨l,x,rfl⟩:∃l x,qs=l++[x]:=by
  have hne:qs≠[]:=by rintro rfl;cases h
  exact⟨qs.dropLast,qs.getLast hne,(List.dropLast_concat_getLast hne).symm⟩
 rw[map_append,List.map_singleton,yH];simpa using h
theorem rC{w n:Nat}{i:Int}{Q:R->List Sl->Prop}(k:Q (.val (.bl true)) [.val false (.int i)]):(run Γ w (n+1) 28 [.val false (.int i)]).sat Q:=by refine aO (d:=XX) rfl rfl (by decide) ?_;symm;simp[XX];exact k
inductive JIw(m:Int)(ws:List Wy)(a1:Sl)(ps:List Int)(r:List D)(ρ:List Sl):Prop where|mk(us qs:List Int)(p:Int)(s3:Sl)(q0:ρ=[.val false (aM m ws),a1,.own false (qs.map D.int),s3])(q1:fr s3=true)(q2:r=us.map D.int)(q3:lQ ws us qs=some ps)(q4:qs.getLast?=some p)(q5:qs.length+us.length<=20)
theorem xn{w n:Nat}{m:Int}{ws:List Wy}{ks:List Nat}{Q:R->List Sl->Prop}(h:bj m ws)(hk:DX m ws ks)(hl:ks.length<=12)(k:Q (.val (.bl true)) [.val false (aM m ws),.val false (.tup ((aH ks).map D.int))]):(run Γ w (n+1) 29 [.val false (aM m ws),.val false (.tup ((aH ks).map D.int))]).sat Q:=by
 obtain⟨ps,hgo,lN⟩:=hk;refine aO (d:=Xe) rfl rfl (by decide) ?_;symm;simp[Xe];apply aj;simp;refine bI (JIw m ws _ ps) ?_ ?_ ⟨aH ks,[0],0,.aP,rfl,rfl,rfl,hgo,rfl,by simp[aH];omega⟩;.rintro d r _⟨us,qs,p,s3,rfl,h3,hr,hg,hq,hlen⟩;cases us with|nil=>cases hr|cons u us=>
     obtain⟨rfl,rfl⟩:d=.int u/\r=us.map D.int:=by simpa using hr
     rw[lQ]at hg;cases e:dD ws qs u with|none=>rw[e]at hg;cases hg|some rs=>
       rw[e]at hg;obtain⟨k0,k1,v,e1,e2,e3,e4,rfl⟩:=oK hq e;have ha:at' (ws.map Wy.d) u=some v.d:=by rw[iB k0 (by simpa using k1)];simp[e1]
       have hin:cm .inn (.int v.t) (.lst (qs.map D.int))=some false:=by rw[M6];simp[e4]
       have hla:=zA hq;simp[h3];apply aj;simp[show ¬ u<0 by omega,show ¬(ws.length:Int)<=u by omega,ha,Ag,hla,e3];apply aj;simp[ha,zP,xr,show ¬ v.r=0 by omega,hin];apply aj;have hql:qs.length<16777216:=by simp at hlen;omega
       simp[hql,ha,xr];exact⟨us,qs++[v.t],v.t,.val false (.int u),by simp,rfl,rfl,hg,by simp,by simp at hlen ⊢;omega⟩
 . rintro _⟨us,qs,p,s3,rfl,h3,hr,hg,hq,hlen⟩;have:us=[]:=by cases us with|nil=>rfl|cons _ _=>cases hr
   subst this;rw[lQ]at hg;cases hg;rw[lN]at hq;cases hq;have hla:=zA lN;simp;apply aj;simp[hla];exact k
noncomputable def fw(ks:List Nat):List aJ:=ks.map fun k=>(k,true)
theorem yt{ks:List Nat}:(fw ks).map (·.1)=ks:=by unfold fw;rw[map_map];exact map_id _
noncomputable def DN(l:List Int)(c:mW):List Int:=aug c.2 l (fw c.1)
noncomputable def qj(N:Nat)(cs:List mW):List Int:=cs.foldl DN (replicate N 0)
theorem JG{N:Nat}{cs:List mW}{c:mW}:qj N (cs++[c])=aug c.2 (qj N cs) (fw c.1):=by unfold qj;rw[foldl_append];rfl
theorem vf:∀{cs:List mW}{l:List Int},(cs.foldl DN l).length=l.length|[],_=>rfl|c::cs,l=>by rw[foldl_cons,vf];exact jF
theorem oh{N:Nat}{cs:List mW}:(qj N cs).length=N:=by unfold qj;rw[vf];simp
theorem fold_at{j:Nat}:∀{cs:List mW}{l:List Int}{a:Int},(∀c∈cs,c.1.Nodup)->l[j]?=some a->(cs.foldl DN l)[j]?=some (a+Kh cs j)
 |[],l,a,_,e=>by simp[Kh,e]|c::cs,l,a,hn,e=>by
   rw[foldl_cons];have hc:(DN l c)[j]?=some (a+if j∈c.1 then c.2 else 0):=by
    unfold DN;by_cases z:j∈c.1;.have:=pN (x:=c.2) (c:=fw c.1) (s:=(j,true)) (by rw[yt];exact hn c (by simp)) (mem_map.mpr ⟨j,z,rfl⟩) e;rw[this,if_pos z];rfl
    .rw[iw (by rw[yt];exact z),e,if_neg z];simp
   rw[fold_at (fun c hc=>hn c (by simp[hc])) hc];simp only[Kh,map_cons,sum_cons];congr 1;omega
theorem wQ{N j:Nat}{cs:List mW}(hn:∀c∈cs,c.1.Nodup)(hj:j<N):(qj N cs)[j]?=some (Kh cs j):=by unfold qj;rw[fold_at hn (a:=0) (by simp[hj])];simp
inductive JMo(N:Nat)(cs:List mW)(a0 a1:Sl)(r:List D)(ρ:List Sl):Prop where|mk(cT us:List mW)(s3 s4 s5:Sl)(q0:ρ=[a0,a1,.own false ((qj N cT).map D.int),s3,s4,s5])(q1:A3 (fr s3=true) (fr s4=true) (fr s5=true))(q2:r=us.map jT)(q3:cT++us=cs)
inductive JMi(x:Int)(l:List Int)(ks:List Nat)(a0 a1 a3 a4:Sl)(r:List D)(ρ:List Sl):Prop where|mk(cT us:List Nat)(s5:Sl)(q0:ρ=[a0,a1,.own false ((aug x l (fw cT)).map D.int),a3,a4,s5])(q1:fr s5=true)(q2:r=(aH us).map D.int)(q3:cT++us=ks)
theorem pZ{w n:Nat}{m:Int}{ws:List Wy}{cs:List mW}{Q:R->List Sl->Prop}(h:bj m ws)(hc:∀c∈cs,∀k∈c.1,k<ws.length)(k:Q (.own ((qj ws.length cs).map D.int)) [.val false (aM m ws),.own true (cs.map jT)]):(run Γ w (n+1) 30 [.val false (aM m ws),.own true (cs.map jT)]).sat Q:=by
 have hn:=h.len;refine aO (d:=YL) rfl rfl (by decide) ?_;refine cL (fun ρ=>ρ=[.val false (aM m ws),.own true (cs.map jT),.own false ((qj ws.length []).map D.int),.aP,.aP,.aP]) ?_ ?_;.simp[YL,qj];show _<=16777216;omega
 rintro _ rfl;symm;simp;refine bI (JMo ws.length cs _ _) ?_ ?_ ⟨[],cs,.aP,.aP,.aP,rfl,⟨rfl,rfl,rfl⟩,rfl,rfl⟩;.rintro d r _⟨cT,us,s3,s4,s5,rfl,⟨h3,h4,h5⟩,hr,hd⟩;cases us with|nil=>cases hr|cons u us=>
     obtain⟨rfl,rfl⟩:d=jT u/\r=us.map jT:=by simpa using hr
     have hu:=hc u (by rw[<-hd];simp);have hd2:(cT++[u])++us=cs:=by rw[append_assoc];exact hd
     simp[jT,h3,h4];apply aj;simp;refine bI (JMi u.2 (qj ws.length cT) u.1 _ _ _ _) ?_ ?_ ⟨[],u.1,s5,rfl,h5,rfl,rfl⟩;.rintro d r _⟨dn,vs,s5,rfl,h5,hr,he⟩;cases vs with|nil=>cases hr|cons v vs=>
         obtain⟨rfl,rfl⟩:d=.int (v:Int)/\r=(aH vs).map D.int:=by simpa[aH]using hr
         have hv:v<(aug u.2 (qj ws.length cT) (fw dn)).length:=by rw[jF,oh];exact hu v (by rw[<-he];simp)
         have ea:(aug u.2 (qj ws.length cT) (fw dn))[v]?=some (aug u.2 (qj ws.length cT) (fw dn))[v]:=by simp[hv]
         have hx:gq (aug u.2 (qj ws.length cT) (fw dn)).length (v:Int)=some v:=by unfold gq;rw[if_pos (by omega),if_pos (by omega)];simp
         have hq:aug u.2 (qj ws.length cT) (fw (dn++[v]))=(aug u.2 (qj ws.length cT) (fw dn)).set v ((aug u.2 (qj ws.length cT) (fw dn))[v]+u.2):=by
          have e0:fw (dn++[v])=fw dn++[(v,true)]:=by simp[fw]
          rw[e0];unfold aug;rw[foldl_append];show gH u.2 (aug u.2 (qj ws.length cT) (fw dn)) (v,true)=_;unfold gH;rw[ea];rfl
         have he2:(dn++[v])++vs=u.1:=by rw[append_assoc];exact he
         generalize(aug u.2 (qj ws.length cT) (fw dn))[v]=g at*;simp[h5];apply aj;simp[bw ea,hx];exact⟨dn++[v],vs,_,by rw[hq,map_set],rfl,rfl,he2⟩
     . rintro _⟨dn,vs,s5,rfl,h5,hr,he⟩;have:vs=[]:=by cases vs with|nil=>rfl|cons _ _=>cases hr
       subst this;rw[append_nil]at he;subst he;simp;exact⟨cT++[u],us,_,_,_,by rw[JG],⟨rfl,rfl,h5⟩,rfl,hd2⟩
 . rintro _⟨cT,us,s3,s4,s5,rfl,⟨h3,h4,h5⟩,hr,hd⟩;have:us=[]:=by cases us with|nil=>rfl|cons _ _=>cases hr
   subst this;rw[append_nil]at hd;subst hd;simp;apply aj;simp;exact k
structure Uh(m:Int)(ws:List Wy)(fs:List Int)(R0:Int)(cs:List mW):Prop where
 Rc:∀c∈cs,1<=c.2/\c.1.length<=12/\DX m ws c.1
 nd:∀c∈cs,c.1.Nodup
 inn:∀c∈cs,∀k∈c.1,k<ws.length
 md:∀(k:Nat)(f:Int),fs[k]?=some f->Kh cs k<=f
 sum:(cs.map (·.2)).sum=R0
 len:cs.length<=ws.length
theorem zY{a b:List Nat}(h:aH a=aH b):a=b:=by unfold aH at h;exact(List.map_inj_right fun x y e=>by omega).mp h
theorem RI.aa5{m:Int}{ws:List Wy}{fs:List Int}{R0:Int}{ls:List Int}{cs:List mW}(hf:fs.length=ws.length)(h:RI m ws fs R0 ls 0 cs):Uh m ws fs R0 cs:=by
 have key:∀c∈cs,c.1.Nodup/\∀k∈c.1,k<ws.length:=fun c hc=>by obtain⟨_,_,ps,hg,hl⟩:=h.Rc c hc;obtain⟨ks,e,h1,_,h3⟩:=xG (p:=0) rfl hg;rw[zY e];refine⟨h1,fun k hk=>?_⟩;obtain⟨v,e1,_⟩:=h3 k hk;exact(List.getElem?_eq_some_iff.mp e1).1
 refine⟨h.Rc,fun c hc=>(key c hc).1,fun c hc=>(key c hc).2,fun k f e=>?_,by have:=h.sum;omega,h.W2⟩;have hk:=(List.getElem?_eq_some_iff.mp e).1;have hk2:k<ls.length:=by rw[h.len,<-hf];exact hk
 have e2:ls[k]?=some ls[k]:=by simp[hk2]
 have h1:=h.mka k f _ e e2;have hk3:k<ws.length:=by rw[<-hf];exact hk
 have h2:=h.nn k ws[k] _ (by simp[hk3]) e2;omega
inductive JFt(cs:List mW)(a0 a1:Sl)(r:List D)(ρ:List Sl):Prop where|mk(us:List mW)(s2 s3 s4:Sl)(q0:ρ=[a0,a1,s2,s3,s4])(q1:A3 (fr s2=true) (fr s3=true) (fr s4=true))(q2:r=us.map jT)(q3:∀u∈us,u∈cs)
inductive FFt(a0 a1 a2 a3 a4:Sl)(ρ:List Sl):Prop where|mk(s:Sl)(q0:ρ=[a0,a1,a2,a3,a4,s])(q1:fr s=true)
theorem JZ{w n:Nat}{m R0:Int}{ws:List Wy}{fs:List Int}{cs:List mW}{Q:R->List Sl->Prop}(h:bj m ws)(hf:fs.length=ws.length)(hb:∀(k:Nat)(v:Wy)(l:Int),ws[k]?=some v->fs[k]?=some l->0<=l/\l<=v.r)(hc:Uh m ws fs R0 cs)(k:Q (.val (.bl true)) [.val false (aM m ws),.own true (cs.map jT)]):(run Γ w (n+2) 31 [.val false (aM m ws),.own true (cs.map jT)]).sat Q:=by
 have hn:=h.len;refine aO (d:=XF) rfl rfl (by decide) ?_;symm;simp[XF];refine bI (JFt cs _ _) ?_ ?_ ⟨cs,.aP,.aP,.aP,rfl,⟨rfl,rfl,rfl⟩,rfl,fun _ z=>z⟩;.rintro d r _⟨us,s2,s3,s4,rfl,⟨h2,h3,h4⟩,hr,hu⟩;cases us with|nil=>cases hr|cons u us=>
     obtain⟨rfl,rfl⟩:d=jT u/\r=us.map jT:=by simpa using hr
     obtain⟨q1,q2,q3⟩:=hc.Rc u (hu u (by simp));simp[jT,h2,h3];apply aj;simp[show ¬ u.2<1 by omega];refine xn h q3 q2 ?_;simp;exact⟨us,_,_,_,rfl,⟨rfl,rfl,h4⟩,rfl,fun z hz=>hu z (by simp[hz])⟩
 rintro _⟨us,s2,s3,s4,rfl,⟨h2,h3,h4⟩,hr,hu⟩;simp;apply aj;simp;refine pZ h hc.inn ?_;simp[h4];apply aj;simp[oh,show(ws.length:Int)<=1000000000 by omega];refine⟨fun _=>?_,by show _<=16777216;omega⟩;refine bC (FFt _ _ _ _ _) (fun _=>.bl true) ⟨.aP,rfl,rfl⟩ ?_ ?_
 . rintro d hd _⟨s,rfl,hs⟩;obtain⟨j,hj,rfl⟩:=mem_map.mp hd;have hj:=mem_range.mp hj;have e1:ws[j]?=some ws[j]:=by simp[hj]
   have e2:fs[j]?=some fs[j]:=by simp[hf,hj]
   have e3:=wQ hc.nd hj;have q1:=hc.md j _ e2;have q2:=(hb j _ _ e1 e2).2;simp[hs,bw e3,bw e1,Wy.d];exact⟨by omega,_,rfl,rfl⟩
 rintro _⟨s,rfl,hs⟩;obtain⟨bs,hm,hbs⟩:∃bs,(((List.range ws.length).map fun(k:Nat)=>D.int (k:Int)).map fun _=>D.bl true).mapM tX=some bs/\bs.all id=true:=⟨_,by rw[map_map];exact nM,all_true⟩;generalize((List.range ws.length).map fun(k:Nat)=>D.int (k:Int)).map (fun _=>D.bl true)=X at*;simp[hm,hbs];exact k
noncomputable def over(p:Int)(ws:List Wy)(fs:List Int):Int:=jt p ws fs-ji p ws fs
theorem qJ{p:Int}{w:Wy}{f:Int}{ws:List Wy}{fs:List Int}:over p (w::ws) (f::fs)=(if w.s=p then f else 0)-(if w.t=p then f else 0)+over p ws fs:=by simp only[over,jt,ji];omega
inductive JRt(m:Int)(ws:List Wy)(fs:List Int)(s:Sl)(i:Nat)(ρ:List Sl):Prop where|mk(f:Int)(s4 s5 s6 s7 s8:Sl)(q0:ρ=[.val false (aM m ws),s,.val false (.int f),s4,s5,s6,s7,s8])(q1:A5 (fr s4=true) (fr s5=true) (fr s6=true) (fr s7=true) (fr s8=true))(q2:f+over 0 (ws.drop i) (fs.drop i)=over 0 ws fs)
theorem rA{w n:Nat}{s:Sl}{m:Int}{ws:List Wy}{fs:List Int}{Q:R->List Sl->Prop}(hs:Qo s fs)(h:bj m ws)(hf:fs.length=ws.length)(k:Q (.val (.int (over 0 ws fs))) [.val false (aM m ws),s]):(run Γ w (n+1) 32 [.val false (aM m ws),s]).sat Q:=by
 have hn:=h.len;refine aO (d:=V4) rfl rfl (by decide) ?_;symm;rcases hs with rfl|⟨b,rfl⟩
 . simp[V4];symm;simp[hf,show(ws.length:Int)<=1000000000 by omega];refine fV (JRt m ws fs _) ?_ ?_ ⟨0,.aP,.aP,.aP,.aP,.aP,rfl,⟨rfl,rfl,rfl,rfl,rfl⟩,by simp⟩
   . rintro i _ hi⟨f,s4,s5,s6,s7,s8,rfl,⟨h4,h5,h6,h7,h8⟩,hf'⟩;have hi2:i<fs.length:=by omega
     have e1:ws[i]?=some ws[i]:=by simp[hi]
     have e2:fs[i]?=some fs[i]:=by simp[hi2]
     rw[drop_eq_getElem_cons hi,drop_eq_getElem_cons hi2,qJ]at hf';generalize ws[i]=v at*;generalize fs[i]=g at*;simp[h4];apply aj;simp[bw e1,Wy.d,h5,h6,h7,h8];refine cL (fun ρ=>ρ=[.val false (aM m ws),.val false (.lst (fs.map D.int)),.val false (.int (f+if v.s=0 then g else 0)),.val false (.int i),.val false (.int v.s),.val false (.int v.t),.val false (.int v.r),.val false (.int v.h)]) ?_ ?_
     . by_cases e:v.s=0;.simp[e];symm;simp[bw e2]
       .simp[e]
     rintro _ rfl;symm;by_cases e:v.t=0;.simp[e];symm;simp[bw e2];exact⟨_,_,_,_,_,_,rfl,⟨rfl,rfl,rfl,rfl,rfl⟩,by rw[if_pos e]at hf';omega⟩
     .simp[e];exact⟨_,_,_,_,_,_,rfl,⟨rfl,rfl,rfl,rfl,rfl⟩,by rw[if_neg e]at hf';omega⟩
   . rintro _⟨f,s4,s5,s6,s7,s8,rfl,_,hf'⟩;symm;simp;rw[List.drop_eq_nil_of_le (le_refl _)]at hf';have:f=over 0 ws fs:=by rw[<-hf'];simp[over,jt,ji]
     rw[this];exact k
 . simp[V4];symm;simp[hf,show(ws.length:Int)<=1000000000 by omega];refine fV (JRt m ws fs _) ?_ ?_ ⟨0,.aP,.aP,.aP,.aP,.aP,rfl,⟨rfl,rfl,rfl,rfl,rfl⟩,by simp⟩
   . rintro i _ hi⟨f,s4,s5,s6,s7,s8,rfl,⟨h4,h5,h6,h7,h8⟩,hf'⟩;have hi2:i<fs.length:=by omega
     have e1:ws[i]?=some ws[i]:=by simp[hi]
     have e2:fs[i]?=some fs[i]:=by simp[hi2]
     rw[drop_eq_getElem_cons hi,drop_eq_getElem_cons hi2,qJ]at hf';generalize ws[i]=v at*;generalize fs[i]=g at*;simp[h4];apply aj;simp[bw e1,Wy.d,h5,h6,h7,h8];refine cL (fun ρ=>ρ=[.val false (aM m ws),.own b (fs.map D.int),.val false (.int (f+if v.s=0 then g else 0)),.val false (.int i),.val false (.int v.s),.val false (.int v.t),.val false (.int v.r),.val false (.int v.h)]) ?_ ?_
     . by_cases e:v.s=0;.simp[e];symm;simp[bw e2]
       .simp[e]
     rintro _ rfl;symm;by_cases e:v.t=0;.simp[e];symm;simp[bw e2];exact⟨_,_,_,_,_,_,rfl,⟨rfl,rfl,rfl,rfl,rfl⟩,by rw[if_pos e]at hf';omega⟩
     .simp[e];exact⟨_,_,_,_,_,_,rfl,⟨rfl,rfl,rfl,rfl,rfl⟩,by rw[if_neg e]at hf';omega⟩
   . rintro _⟨f,s4,s5,s6,s7,s8,rfl,_,hf'⟩;symm;simp;rw[List.drop_eq_nil_of_le (le_refl _)]at hf';have:f=over 0 ws fs:=by rw[<-hf'];simp[over,jt,ji]
     rw[this];exact k
theorem qZ{ks:List Nat}:(aH ks).length=ks.length:=by simp[aH]
inductive FAr(a0 a1 a2:Sl)(ρ:List Sl):Prop where|mk(s:Sl)(q0:ρ=[a0,a1,a2,s])(q1:fr s=true)
inductive JAr(cs:List mW)(a0 a1:Sl)(r:List D)(ρ:List Sl):Prop where|mk(us:List mW)(s2:Sl)(q0:ρ=[a0,a1,s2])(q1:fr s2=true)(q2:r=us.map jT)(q3:∀u∈us,u∈cs)
theorem zb{w n:Nat}{m R0:Int}{ws:List Wy}{fs:List Int}{cs:List mW}{Q:R->List Sl->Prop}(h:bj m ws)(hf:fs.length=ws.length)(hb:∀(k:Nat)(v:Wy)(l:Int),ws[k]?=some v->fs[k]?=some l->0<=l/\l<=v.r)(hc:Uh m ws fs R0 cs)(k:Q (.val (.bl true)) [.val false (aM m ws),.own true (cs.map jT)]):(run Γ w (n+3) 33 [.val false (aM m ws),.own true (cs.map jT)]).sat Q:=by
 refine aO (d:=Xj) rfl rfl (by decide) ?_;symm;simp[Xj];apply aj;simp;refine bI (JAr cs _ _) ?_ ?_ ⟨cs,.aP,rfl,rfl,rfl,fun _ z=>z⟩;.rintro d r _⟨us,s2,rfl,h2,hr,hu⟩;cases us with|nil=>cases hr|cons u us=>
     obtain⟨rfl,rfl⟩:d=jT u/\r=us.map jT:=by simpa using hr
     obtain⟨q1,q2,q3⟩:=hc.Rc u (hu u (by simp));simp[jT,h2];apply aj;simp;apply aj;simp;refine rC ?_;simp[qZ,show u.1.length<=16777216 by omega];refine bC (FAr _ _ _) (fun _=>.bl true) ⟨.aP,rfl,rfl⟩ ?_ ?_;.rintro d hd _⟨s,rfl,hs⟩;obtain⟨i,_,rfl⟩:=mem_map.mp hd;simp[hs];refine rC ?_;simp;exact⟨_,rfl,rfl⟩
     rintro _⟨s,rfl,hs⟩;obtain⟨bs,hm,hbs⟩:∃bs,(((aH u.1).map D.int).map fun _=>D.bl true).mapM tX=some bs/\bs.all id=true:=⟨_,by rw[map_map];exact nM,all_true⟩;generalize((aH u.1).map D.int).map (fun _=>D.bl true)=X at*;simp[hm,hbs];exact⟨us,_,rfl,rfl,rfl,fun z hz=>hu z (by simp[hz])⟩
 .rintro _⟨us,s2,rfl,h2,hr,hu⟩;simp;apply aj;simp;refine JZ h hf hb hc ?_;simp;exact k
inductive F1p(a0 a1 a2 a3 a4 a5:Sl)(ρ:List Sl):Prop where|mk(s:Sl)(q0:ρ=[a0,a1,a2,a3,a4,a5,s])(q1:fr s=true)
inductive F2p(a0 a1 a2 a3 a4 a5:Sl)(ρ:List Sl):Prop where|mk(s:Sl)(t:Sl)(q0:ρ=[a0,a1,a2,a3,a4,a5,s,t])(q1:fr s=true)(q2:fr t=true)
noncomputable def Xl:D->D|.tup [_,x]=>x|d=>d
@[simp]theorem adM{a b:D}:Xl (.tup [a,b])=b:=rfl
theorem Ec{cs:List mW}:(cs.map jT).map Xl=(cs.map (·.2)).map D.int:=by rw[map_map,map_map];rfl
theorem VG{cs:List mW}(hl:cs.length<=1000)(hc:∀c∈cs,c.1.length<=12):gd 4 (.lst (cs.map jT))=true:=by
 rw[gd,and_eq_true];refine⟨by simpa using hl,all_eq_true.mpr fun d hd=>?_⟩;obtain⟨c,hc',rfl⟩:=mem_map.mp hd;have:=hc c hc';have hin:((aH c.1).map D.int).all (gd 1)=true:=all_eq_true.mpr fun d hd=>by obtain⟨i,_,rfl⟩:=mem_map.mp hd;rw[gd]
 simp only[jT,gd,all_cons,List.all_nil,hin,length_map,qZ,length_cons,length_nil];simp;omega
theorem pG{w n:Nat}{s:Sl}{m R0:Int}{ws:List Wy}{fs:List Int}{Q:R->List Sl->Prop}(hs:s=.val false (.lst (fs.map D.int))\/s=.own false (fs.map D.int))(hw:50000000<=w)(h:bj m ws)(hf:fs.length=ws.length)(hb:∀(k:Nat)(v:Wy)(l:Int),ws[k]?=some v->fs[k]?=some l->0<=l/\l<=v.r)(hG:Goes m ws fs R0)(k:Q (.val (.bl true)) [.val false (aM m ws),s]):(run Γ w (n+5) 34 [.val false (aM m ws),s]).sat Q:=by
 have hn:=h.len;have m0:=h.m0;obtain⟨cs,hc,ea⟩:∃cs,Uh m ws fs R0 cs/\run Γ w (n+4) 10 [.val false (aM m ws),.own true (fs.map D.int)]=.ok (.own (cs.map jT)) [.val false (aM m ws),.own true (fs.map D.int)]:=by
  have:=xx (n:=n) (Q:=fun a ρ=>∃cs,Uh m ws fs R0 cs/\a=.own (cs.map jT)/\ρ=[.val false (aM m ws),.own true (fs.map D.int)]) hw h hf hb hG fun ls r cs hI hr=>by subst hr;exact⟨cs,hI.aa5 hf,rfl,rfl⟩
  obtain⟨a,ρ,e,cs,hc,rfl,rfl⟩:=sat_iff.mp this;exact⟨cs,hc,e⟩
 have hcl:=hc.len;have hr0:over 0 ws fs=R0:=by have:=hG.2 fun x=>if x=0 then 1 else 0;rw[jB]at this;unfold over;rw[this];simp[show ¬ m-1=0 by omega]
 have hgd:=VG (cs:=cs) (by omega) fun c z=>(hc.Rc c z).2.1;have hself:=eq_self (k:=4) (by omega) hgd;have hne:cm .ne (.lst (fs.map D.int)) (.lst (fs.map D.int))=some false:=by
  have:=zy (S:=fs) (T:=fs);show rY _ _=_;unfold rY;rw[lr];have h2:iG (.lst (fs.map D.int)) (.lst (fs.map D.int))=true:=by rw[iG,lu];simp
  rw[h2];rfl
 have hap:(cs.map jT).length<lim:=by rw[length_map];show _<16777216;omega
 refine aO (d:=Wm) rfl rfl (by decide) ?_;symm;rcases hs with rfl|rfl
 . simp[Wm];symm;simp[ea];apply aj;simp;refine zb h hf hb hc ?_;simp[show ¬(ws.length:Int)<(cs.length:Int)by omega,hne];apply aj;simp;refine pZ h hc.inn ?_;simp;apply aj;simp[oh,show(ws.length:Int)<=1000000000 by omega];refine⟨fun _=>?_,by show _<=16777216;omega⟩;refine bC (F1p _ _ _ _ _ _) (fun _=>.bl true) ⟨.aP,rfl,rfl⟩ ?_ ?_
   . rintro d hd _⟨s,rfl,hs⟩;obtain⟨j,hj,rfl⟩:=mem_map.mp hd;have hj:=mem_range.mp hj;have e2:fs[j]?=some fs[j]:=by simp[hf,hj]
     have e3:=wQ hc.nd hj;have q1:=hc.md j _ e2;simp[hs,bw e3,bw e2];exact⟨by omega,_,rfl,rfl⟩
   rintro _⟨s,rfl,hs⟩;obtain⟨bs,hm,hbs⟩:∃bs,(((List.range ws.length).map fun(k:Nat)=>D.int (k:Int)).map fun _=>D.bl true).mapM tX=some bs/\bs.all id=true:=⟨_,by rw[map_map];exact nM,all_true⟩;generalize((List.range ws.length).map fun(k:Nat)=>D.int (k:Int)).map (fun _=>D.bl true)=X at*;simp[hm,hbs];apply aj;simp[show cs.length<=16777216 by omega];refine bC (F2p _ _ _ _ _ _) Xl ⟨.aP,.aP,rfl,rfl,rfl⟩ ?_ ?_;.rintro d hd _⟨s,t,rfl,hs,ht⟩;obtain⟨c,_,rfl⟩:=mem_map.mp hd;simp[hs,ht,jT];exact⟨_,_,rfl,rfl,rfl⟩
   rintro _⟨s,t,rfl,hs,ht⟩;rw[Ec];have hsum:=hc.sum;generalize cs.map (·.2)=ns at*;simp[gY,hsum];refine rA (by first|exact .inl rfl|exact .inr ⟨_,rfl⟩) h hf ?_;simp[hr0];apply aj;simp;apply aj;simp at hap;simp[hap];apply aj;simp[ea,hself];exact k
 . simp[Wm];symm;simp[ea];apply aj;simp;refine zb h hf hb hc ?_;simp[show ¬(ws.length:Int)<(cs.length:Int)by omega,hne];apply aj;simp;refine pZ h hc.inn ?_;simp;apply aj;simp[oh,show(ws.length:Int)<=1000000000 by omega];refine⟨fun _=>?_,by show _<=16777216;omega⟩;refine bC (F1p _ _ _ _ _ _) (fun _=>.bl true) ⟨.aP,rfl,rfl⟩ ?_ ?_
   . rintro d hd _⟨s,rfl,hs⟩;obtain⟨j,hj,rfl⟩:=mem_map.mp hd;have hj:=mem_range.mp hj;have e2:fs[j]?=some fs[j]:=by simp[hf,hj]
     have e3:=wQ hc.nd hj;have q1:=hc.md j _ e2;simp[hs,bw e3,bw e2];exact⟨by omega,_,rfl,rfl⟩
   rintro _⟨s,rfl,hs⟩;obtain⟨bs,hm,hbs⟩:∃bs,(((List.range ws.length).map fun(k:Nat)=>D.int (k:Int)).map fun _=>D.bl true).mapM tX=some bs/\bs.all id=true:=⟨_,by rw[map_map];exact nM,all_true⟩;generalize((List.range ws.length).map fun(k:Nat)=>D.int (k:Int)).map (fun _=>D.bl true)=X at*;simp[hm,hbs];apply aj;simp[show cs.length<=16777216 by omega];refine bC (F2p _ _ _ _ _ _) Xl ⟨.aP,.aP,rfl,rfl,rfl⟩ ?_ ?_;.rintro d hd _⟨s,t,rfl,hs,ht⟩;obtain⟨c,_,rfl⟩:=mem_map.mp hd;simp[hs,ht,jT];exact⟨_,_,rfl,rfl,rfl⟩
   rintro _⟨s,t,rfl,hs,ht⟩;rw[Ec];have hsum:=hc.sum;generalize cs.map (·.2)=ns at*;simp[gY,hsum];refine rA (by first|exact .inl rfl|exact .inr ⟨_,rfl⟩) h hf ?_;simp[hr0];apply aj;simp;apply aj;simp at hap;simp[hap];apply aj;simp[ea,hself];exact k
theorem Vb{ws:List Wy}{k:Nat}{u:Wy}(h:(ws.map Wy.z)[k]?=some u):∃v,ws[k]?=some v/\u=v.z:=by rw[getElem?_map]at h;obtain⟨v,e,rfl⟩:=map_eq_some_iff.mp h;exact⟨v,e,rfl⟩
theorem zm{c:Int->Int}{x b:Int}{ws:List Wy}:∀{ch:List aJ}{fs:List Int}{a:Int},fs.length=ws.length->Hw (ws.map Wy.z) b ch a->dot c ws (aug x fs ch)=dot c ws fs+x*(c a-c b)
 |[],fs,a,_,h=>by have:a=b:=h;subst this;show dot c ws fs=_;simp|s::ch,fs,a,hl,⟨u,h1,h2,h3⟩=>by
   obtain⟨v,hv,rfl⟩:=Vb h1;have hk:=(List.getElem?_eq_some_iff.mp hv).1;have e:fs[s.1]?=some fs[s.1]:=by simp[hl,hk]
   show dot c ws (aug x (gH x fs s) ch)=_;rw[zm (by simp[hl]) h3];have:gH x fs s=fs.set s.1 (fs[s.1]+sg x s.2):=by unfold gH;rw[e];rfl
   rw[this,nZ hv e];have h4:x*(c a-c b)=x*(c a-c (too v.z s.2))+x*(c (too v.z s.2)-c b):=by rw[<-mul_add];congr 1;omega
   have h5:sg x s.2*(c v.s-c v.t)=x*(c a-c (too v.z s.2)):=by rw[<-h2];cases s.2 with|true=>rfl|false=>show-x*(c v.s-c v.t)=x*(c v.t-c v.s);rw[Int.neg_mul,<-Int.mul_neg];congr 1;omega
   omega
def Y9(m:Int)(ws:List Wy)(fs:List Int):Prop:=(∀(k:Nat)(v:Wy)(l:Int),ws[k]?=some v->fs[k]?=some l->0<=l/\l<=v.r)/\∃r,Goes m ws fs r
theorem ace{m:Int}{ws:List Wy}(h:bj m ws):Y9 m ws (replicate ws.length 0):=by
 refine⟨fun k v l e1 e2=>?_,0,Int.le_refl _,fun c=>by rw[oG];simp⟩;have:=(h.ok v (mem_of_getElem? e1)).r0;rw[getElem?_replicate]at e2;split at e2;.cases e2;omega
 .cases e2
theorem abB{m:Int}{ws:List Wy}{fs:List Int}{c:List aJ}{x:Int}(h:Y9 m ws fs)(hl:fs.length=ws.length)(hp:Hw (ws.map Wy.z) (m-1) c 0)(hn:(c.map (·.1)).Nodup)(x0:0<x)(hc:∀s∈c,∃v g,(ws.map Wy.z)[s.1]?=some v/\fs[s.1]?=some g/\x<=rR v g s.2):Y9 m ws (aug x fs c):=by
 obtain⟨r,r0,hr⟩:=h.2;refine⟨fun k v l e1 e2=>?_,r+x,by omega,fun d=>by rw[zm hl hp,hr,add_mul]⟩;by_cases z:k∈c.map (·.1);.obtain⟨s,hs,rfl⟩:=mem_map.mp z;obtain⟨u,g,u1,u2,u3⟩:=hc s hs;obtain⟨v',v1,rfl⟩:=Vb u1;rw[e1]at v1;cases v1;rw[pN hn hs u2]at e2;cases e2;have:=h.1 _ _ _ e1 u2;revert u3;cases s.2 with|true=>intro u3;have u4:x<=v.r-g:=u3;show 0<=g+x/\g+x<=v.r;omega|false=>intro u3;have u4:x<=g:=u3;show 0<=g+-x/\g+-x<=v.r;omega
 .rw[iw z]at e2;exact h.1 k v l e1 e2
inductive J26(v:Sl)(r:List D)(ρ:List Sl):Prop where|mk(s1:Sl)(s2:Sl)(s3:Sl)(q0:ρ=[v,s1,s2,s3])(q1:A3 (fr s1=true) (fr s2=true) (fr s3=true))(q2:∀d∈r,∃i,d=D.int i)
theorem Jh(ns:List Int)(hn:ns.length<=63):∃as,run Γ 100000000 40 35 [.val false (.lst (ns.map D.int))]=.ok (.val (.bl true)) as:=by
 suffices h:(run Γ 100000000 40 35 [.val false (.lst (ns.map D.int))]).sat fun r _=>r=.val (.bl true)by obtain⟨a,ρ,e,rfl⟩:=sat_iff.mp h;exact⟨ρ,e⟩
 obtain⟨w,hw⟩:∃w,w=100000000:=⟨_,rfl⟩;rw[<-hw];refine aO (d:=Y4) rfl rfl (by decide) ?_;symm;have hl:1+ns.length<=lim:=by show _<=16777216;omega
 simp[Y4,hl];refine bI (J26 (.val false (.lst (ns.map D.int)))) ?_ ?_ ?_;.rintro d r _⟨s1,s2,s3,rfl,⟨h1,h2,h3⟩,hd⟩;obtain⟨x,rfl⟩:=hd d (by simp);simp[h1];apply aj;simp;refine CG fun a b c=>?_;simp[h2];apply aj;simp;refine JV fun m ws a c hk=>?_;simp[h3];apply aj;simp;refine xM hk fun fs a c hf=>?_;obtain⟨r1,hg1⟩:=hf.2.2.2;simp;refine pG (.inr rfl) (by omega) hk hf.1 hf.2.1 hg1 ?_;simp;refine uQ (Y9 m ws) (by omega) hk (ace hk) (fun fs c x q1 q2 q3 q4 q5 q6=>abB q1 q2 q3 q4 q5 q6) fun gs es S hg1 hg2 _ _ _ _=>?_;obtain⟨r2,hg3⟩:=hg2.2;generalize dot (fun x=>if x=0 then 1 else 0) ws gs=q;simp[Kl];refine pG (.inl rfl) (by omega) hk hg1 hg2.1 hg3 ?_;simp;exact⟨_,_,_,rfl,⟨rfl,rfl,rfl⟩,fun d h=>hd d (mem_cons_of_mem _ h)⟩
 .rintro _⟨s1,s2,s3,rfl,⟨h1,h2,h3⟩,hd⟩;symm;simp
 . refine⟨_,_,_,rfl,⟨rfl,rfl,rfl⟩,fun d hd=>?_⟩;simp at hd;rcases hd with rfl|⟨i,_,rfl⟩;.exact⟨_,rfl⟩
   .exact⟨_,rfl⟩
end T
end
structure PySem.W.Fast:Prop where(tw482708578362024427 tw14097938139937903597 tw12491717532615299366 tw14466262631041188947 tw11503926134946438688 tw16381309025737075545 tw2446614711509191716 tw6022566264306944025 tw16116842318091533141 tw14201279059964270993 tw17534420687521108315 tw5965915090471371363 tw11850134630145189721 tw3162278507251743610 tw5075243005117223512 tw1142423361440186055 tw13957879994400274888 tw491409117632247223 tw12892244979990363460 tw12714474243541981590 tw2171155957954517252 tw17291913402131175788 tw2047004629129021037 tw8618542928011426688 tw2273266471833335660 tw15959922543795479013 tw16187548750387407112 tw17531503657190142870 tw12604092013609324305 tw12262911057548035056 tw2333039045957647964 tw3706298521209882299 tw12177045191239706027 tw1986587596065530019 tw992400257998445211 tw11569128369093632648 tw9018414242326777782 tw5216596246113229080 tw17962557866519122930 tw178252366254110727 tw15632411999011738950 tw11552825242997395239 tw14022429740000754666 tw3881415070777593926 tw14540906654069197432 tw8836171425910882052 tw15934598210879403082 tw7238630474210299986 tw12675573338158339944 tw14605095032114438462 tw13510759418294547592 tw4260062061869204410 tw5411882451744317299 tw12616237035643682600 tw419181826290443585 tw4971218195966225741 tw16284534106899030199 tw13051060453217489270 tw1365758451462344124 tw12129674321490020733 tw2060765091814662579 tw11240838476002749928 tw9170755581047033522 tw15256983087592210141 tw18443586821975149371 tw5269101483587480038 tw10647018689475390057 tw8551758502678975292 tw13786474546121333386 tw12782081980601165337 tw10337293595864933765 tw4021417144978457773 tw8836349728025809473 tw6224422973372883726 tw5301858184528051289 tw11965596538432656719 tw18363471350077680119 tw12301357778275302403 tw7385550841271093402 tw4544328271425361848 tw1319469567422531795 tw8498683182207233184 tw17608151878940510499 tw10201513494594041762 tw9224735687412687502 tw12500203827059229760 tw11685644404135729555 tw11190303412229350861 tw2694413411625829349 tw16950619158795836970 tw15473788333245613818 tw17480220740604152235 tw4792096071392824297 tw2005859019471053049 tw11421337748582101692 tw2277993393069142485 tw8797396537028381982 tw8592326190315996489 tw16216376270400979353 tw9383670405858944167 tw16631747711264513358 tw1540975661755533449 tw16801089746893302174 tw2539794307615403788 tw12600985330804979354 tw3820433958683105670 tw2653473638353927488 tw2456178389382295784 tw10870857921382289825 tw14286899514553991988 tw7203768979069393388 tw6024207373079659412 tw8947481200458630656 tw6152369629894678888 tw13788772298327548537 tw18264318713339984530 tw10837172752856912869 tw7261943454606195163 tw6934520332168105027 tw16518571358455087924 tw8788107368760987126 tw5946583605173751492 tw16417078348500202131 tw16718436674928944219 tw10305643323080824214 tw959963227258409953 tw9385892737733593886 tw13426862412680941770 tw10209445490563166038 tw7212422688528264632 tw7692090124901318080 tw7754580936729439006 tw15964117877946490948 tw2863147698889128393 tw14116557420084222442 tw16201805233906349526 tw13181211479026215125 tw1811281589568229224 tw337315596937790786 tw6669605090187759953 tw1401633849370442461 tw18302373532285806351 tw9663401068785027476 tw13725935025675624268 tw3545515205507824196 tw1793359406590970662 tw1899384397864240221 tw2401492632792773991 tw12798456398096179981 tw687923268308952544 tw5245114136831845341 tw9772465285058031963 tw11929810025779600371 tw13324129966125507173 tw16916235286991066023 tw18224213507108532134 tw13962082292044622034 tw9935199315686218435 tw685366149575195232 tw12525898231528777223 tw5431275700285610727 tw10591266253065256459 tw6985848809226811297 tw721477952005150931 tw7214857865417112836 tw3441341749379401549 tw9624255782147162397 tw8272615586280039340 tw12881333452318758480 tw6776151943760080231 tw9020519997843588287 tw68089424033833718 tw3002251525909873384 tw11751747109971307875 tw13994734359324410418 tw4032830706408066106 tw3172280054397973070 tw5740370002884781749 tw14201538093027633215 tw16826778915701081000 tw9675254016799710971 tw14801700937157267569 tw8891393897531477738 tw3476345340573811105 tw4035670670175325061 tw15994434511250215061 tw12682026395603962794 tw14044488362538116262 tw843085227495303373 tw11591980971665690350 tw1077148817428422669 tw6938144505025113408 tw18047331709601698425 tw16025022040126186173 tw17747951964593786810 tw17310342341485274613 tw12796594022965793932 tw16566489579395956473 tw17566637253421312498 tw6005765324539509147 tw3053175605964372955 tw192081481785016302 tw11177248675840142281 tw16981601243019107203 tw14384983035060767442 tw7660805440041403137 tw755196065077518841 tw15566432236881475455 tw13181545984383164503 tw9156348762979077590 tw9643088702626214683 tw2051253832554677708 tw12314408126969131675 tw8169770593146541753 tw2053446350875316880 tw2647699666384381924 tw8301731176989745826 tw8484493181381912408 tw8204546336832571698 tw12130439025256974791 tw1797184302507699131 tw16886926639992451756 tw17819885011094539667 tw12956088483889481410 tw5844289408419749044 tw11145230915177974784 tw2112411275173565310 tw5830550481344575627 tw5071504229098245069 tw15786702041265971599 tw487355404935542576 tw14449585087073696141 tw4700778714380735431 tw18396096934097413634 tw14652213838568756658 tw4983002690214773873:True)
namespace T
open PySem L2 PySem.Spec PyProof.Rows HH
theorem VD{P:List Value → Prop}{n:Nat}(h:∀(a:Value)(us:List Value),us.length=n → P (a::us))(us:List Value)(hl:us.length=n+1):P us:=by cases us with|nil=>cases hl|cons a us=>exact h a us (Nat.succ.inj hl)
theorem lk0{P:List Value → Prop}(h:P [])(us:List Value)(hl:us.length=0):P us:=by cases us with|nil=>exact h|cons a us=>cases hl
theorem wz{P:List Value → Prop}(h:∀a,P [a]):∀us:List Value,us.length=1 → P us:=VD fun a=>lk0 (h a)
theorem gD{P:List Value → Prop}(h:∀a b,P [a,b]):∀us:List Value,us.length=2 → P us:=VD fun a=>wz (h a)
theorem Ao{P:List Value → Prop}(h:∀a b c,P [a,b,c]):∀us:List Value,us.length=3 → P us:=VD fun a=>gD (h a)
theorem lk4{P:List Value → Prop}(h:∀a b c d,P [a,b,c,d]):∀us:List Value,us.length=4 → P us:=VD fun a=>Ao (h a)
theorem lk5{P:List Value → Prop}(h:∀a b c d e,P [a,b,c,d,e]):∀us:List Value,us.length=5 → P us:=VD fun a=>lk4 (h a)
local macro_rules|`(term|‹$p›)=>`(fun _ _ _ _ _ _=>$p)
structure Txt(K:PySem.W.Frag):Prop where
 D0:bF K "ways_out" s0
 D1:bF K "ways_in" s1
 D2:bF K "turned_net" s2
 D3:bF K "hours_from" s3
 D4:bF K "hours_to" s4
 D5:bF K "is_soonest_step" s5
 D6:bF K "soonest_walk" s6
 D7:bF K "stays_at" s7
 D8:bF K "stream_rate" s8
 D9:bF K "with_rooms" s9
 D10:bF K "stream_rounds" jy
 D11:bF K "step_places" Xz
 D12:bF K "step_hours" s12
 D13:bF K "step_room" s13
 D14:bF K "open_steps" s14
 D15:bF K "shortest_come" s15
 D16:bF K "steps_to" ZW
 D17:bF K "stream_with" s17
 D18:bF K "chains_to_end" s18
 D19:bF K "hourless_net" s19
 D20:bF K "fullest_stream" s20
 D21:bF K "_law_pool" s21
 D22:bF K "_law_next" s22
 D23:bF K "_law_wide" s23
 D24:bF K "_law_way" s24
 D25:bF K "_law_net" s25
 D26:bF K "_law_trail" Z9
 D27:bF K "_law_stream" s27
 D28:bF K "_law_whole" s28
 D29:bF K "_law_is_walk" s29
 D30:bF K "_law_made" s30
 D31:bF K "_law_fit" s31
 D32:bF K "_law_rate" s32
 D33:bF K "_law_are_rounds" s33
 D34:bF K "_law_parted" s34
 D35:bF K "law" s35
 lK:PySem.W.nsIn K mainGlobals "all"=some none
 yp:PySem.W.nsIn K mainGlobals "bool"=some none
 dF:PySem.W.nsIn K mainGlobals "enumerate"=some none
 GZ:PySem.W.nsIn K mainGlobals "int"=some none
 bV:PySem.W.nsIn K mainGlobals "isinstance"=some none
 bG:PySem.W.nsIn K mainGlobals "len"=some none
 cG:PySem.W.nsIn K mainGlobals "list"=some none
 GX:PySem.W.nsIn K mainGlobals "max"=some none
 iK:PySem.W.nsIn K mainGlobals "min"=some none
 bu:PySem.W.nsIn K mainGlobals "range"=some none
 dU:PySem.W.nsIn K mainGlobals "reversed"=some none
 qe:PySem.W.nsIn K mainGlobals "sorted"=some none
 p8:PySem.W.nsIn K mainGlobals "sum"=some none
 bz:PySem.W.nsIn K mainGlobals "tuple"=some none
 GR:PySem.W.nsIn K mainGlobals "zip"=some none
noncomputable def iH{K:PySem.W.Frag}(T:Txt K):Nat->Addr:=fun k=>0
structure Oks(Pg:Program)(w:World)(K:PySem.W.Frag)(mg:Str->Option Value)(base:Heap)(cl:Nat->Addr)(n:Nat):Prop where
 c0:au Pg w K mg base n (run Γ 100000000 n) 0 "ways_out" 2
 c1:au Pg w K mg base n (run Γ 100000000 n) 1 "ways_in" 2
 c2:au Pg w K mg base n (run Γ 100000000 n) 2 "turned_net" 1
 c3:au Pg w K mg base n (run Γ 100000000 n) 3 "hours_from" 2
 c4:au Pg w K mg base n (run Γ 100000000 n) 4 "hours_to" 2
 c5:au Pg w K mg base n (run Γ 100000000 n) 5 "is_soonest_step" 2
 c6:au Pg w K mg base n (run Γ 100000000 n) 6 "soonest_walk" 2
 c7:au Pg w K mg base n (run Γ 100000000 n) 7 "stays_at" 3
 c8:au Pg w K mg base n (run Γ 100000000 n) 8 "stream_rate" 2
 c9:au Pg w K mg base n (run Γ 100000000 n) 9 "with_rooms" 2
 c10:au Pg w K mg base n (run Γ 100000000 n) 10 "stream_rounds" 2
 W6:au Pg w K mg base n (run Γ 100000000 n) 11 "step_places" 2
 c12:au Pg w K mg base n (run Γ 100000000 n) 12 "step_hours" 2
 Zv:au Pg w K mg base n (run Γ 100000000 n) 13 "step_room" 3
 c14:au Pg w K mg base n (run Γ 100000000 n) 14 "open_steps" 2
 Zw:au Pg w K mg base n (run Γ 100000000 n) 15 "shortest_come" 3
 c16:au Pg w K mg base n (run Γ 100000000 n) 16 "steps_to" 3
 Zx:au Pg w K mg base n (run Γ 100000000 n) 17 "stream_with" 3
 c18:au Pg w K mg base n (run Γ 100000000 n) 18 "chains_to_end" 1
 c19:au Pg w K mg base n (run Γ 100000000 n) 19 "hourless_net" 1
 Zy:au Pg w K mg base n (run Γ 100000000 n) 20 "fullest_stream" 1
 c21:au Pg w K mg base n (run Γ 100000000 n) 21 "_law_pool" 1
 Rg:au Pg w K mg base n (run Γ 100000000 n) 22 "_law_next" 2
 Zz:au Pg w K mg base n (run Γ 100000000 n) 23 "_law_wide" 2
 c24:au Pg w K mg base n (run Γ 100000000 n) 24 "_law_way" 4
 ZC:au Pg w K mg base n (run Γ 100000000 n) 25 "_law_net" 3
 c26:au Pg w K mg base n (run Γ 100000000 n) 26 "_law_trail" 5
 ZD:au Pg w K mg base n (run Γ 100000000 n) 27 "_law_stream" 2
 c28:au Pg w K mg base n (run Γ 100000000 n) 28 "_law_whole" 1
 c29:au Pg w K mg base n (run Γ 100000000 n) 29 "_law_is_walk" 2
 ZF:au Pg w K mg base n (run Γ 100000000 n) 30 "_law_made" 2
 c31:au Pg w K mg base n (run Γ 100000000 n) 31 "_law_fit" 2
 c32:au Pg w K mg base n (run Γ 100000000 n) 32 "_law_rate" 2
 c33:au Pg w K mg base n (run Γ 100000000 n) 33 "_law_are_rounds" 2
 ZG:au Pg w K mg base n (run Γ 100000000 n) 34 "_law_parted" 2
 c35:au Pg w K mg base n (run Γ 100000000 n) 35 "law" 1
set_option maxHeartbeats 0 in
theorem Fv{Pg:Program}{w:World}{K:PySem.W.Frag}{mg:Str->Option Value}{base:Heap}(T:Txt K)(X:K.In base)(G:base.Ns mainGlobals mg):∀n,Oks Pg w K mg base (iH T) n
 |0=>{
   c0:=bJ (ps:=["net","place"]) X G T.D0 rfl ‹gD fun _ _=>rfl›
   c1:=bJ (ps:=["net","place"]) X G T.D1 rfl ‹gD fun _ _=>rfl›
   c2:=bJ (ps:=["net"]) X G T.D2 rfl ‹wz fun _=>rfl›
   c3:=bJ (ps:=["net","start"]) X G T.D3 rfl ‹gD fun _ _=>rfl›
   c4:=bJ (ps:=["net","place"]) X G T.D4 rfl ‹gD fun _ _=>rfl›
   c5:=bJ (ps:=["way","left"]) X G T.D5 rfl ‹gD fun _ _=>rfl›
   c6:=bJ (ps:=["net","place"]) X G T.D6 rfl ‹gD fun _ _=>rfl›
   c7:=bJ (ps:=["net","stream","place"]) X G T.D7 rfl ‹Ao fun _ _ _=>rfl›
   c8:=bJ (ps:=["net","stream"]) X G T.D8 rfl ‹gD fun _ _=>rfl›
   c9:=bJ (ps:=["net","rooms"]) X G T.D9 rfl ‹gD fun _ _=>rfl›
   c10:=bJ (ps:=["net","stream"]) X G T.D10 rfl ‹gD fun _ _=>rfl›
   W6:=bJ (ps:=["net","step"]) X G T.D11 rfl ‹gD fun _ _=>rfl›
   c12:=bJ (ps:=["net","step"]) X G T.D12 rfl ‹gD fun _ _=>rfl›
   Zv:=bJ (ps:=["net","stream","step"]) X G T.D13 rfl ‹Ao fun _ _ _=>rfl›
   c14:=bJ (ps:=["net","stream"]) X G T.D14 rfl ‹gD fun _ _=>rfl›
   Zw:=bJ (ps:=["net","stream","begun"]) X G T.D15 rfl ‹Ao fun _ _ _=>rfl›
   c16:=bJ (ps:=["net","come","place"]) X G T.D16 rfl ‹Ao fun _ _ _=>rfl›
   Zx:=bJ (ps:=["stream","steps","loads"]) X G T.D17 rfl ‹Ao fun _ _ _=>rfl›
   c18:=bJ (ps:=["net"]) X G T.D18 rfl ‹wz fun _=>rfl›
   c19:=bJ (ps:=["net"]) X G T.D19 rfl ‹wz fun _=>rfl›
   Zy:=bJ (ps:=["net"]) X G T.D20 rfl ‹wz fun _=>rfl›
   c21:=bJ (ps:=["cell"]) X G T.D21 rfl ‹wz fun _=>rfl›
   Rg:=bJ (ps:=["pool","base"]) X G T.D22 rfl ‹gD fun _ _=>rfl›
   Zz:=bJ (ps:=["pool","base"]) X G T.D23 rfl ‹gD fun _ _=>rfl›
   c24:=bJ (ps:=["pool","many","most","longest"]) X G T.D24 rfl ‹lk4 fun _ _ _ _=>rfl›
   ZC:=bJ (ps:=["pool","places","count"]) X G T.D25 rfl ‹Ao fun _ _ _=>rfl›
   c26:=bJ (ps:=["pool","net","left","start","goal"]) X G T.D26 rfl ‹lk5 fun _ _ _ _ _=>rfl›
   ZD:=bJ (ps:=["pool","net"]) X G T.D27 rfl ‹gD fun _ _=>rfl›
   c28:=bJ (ps:=["thing"]) X G T.D28 rfl ‹wz fun _=>rfl›
   c29:=bJ (ps:=["net","walk"]) X G T.D29 rfl ‹gD fun _ _=>rfl›
   ZF:=bJ (ps:=["net","rounds"]) X G T.D30 rfl ‹gD fun _ _=>rfl›
   c31:=bJ (ps:=["net","rounds"]) X G T.D31 rfl ‹gD fun _ _=>rfl›
   c32:=bJ (ps:=["net","stream"]) X G T.D32 rfl ‹gD fun _ _=>rfl›
   c33:=bJ (ps:=["net","told"]) X G T.D33 rfl ‹gD fun _ _=>rfl›
   ZG:=bJ (ps:=["net","stream"]) X G T.D34 rfl ‹gD fun _ _=>rfl›
   c35:=bJ (ps:=["script"]) X G T.D35 rfl ‹wz fun _=>rfl›}|n+1=>have ih:=Fv (Pg:=Pg) (w:=w) (base:=base) T X G n
   {c0:=bK (ps:=["net","place"]) X G T.D0 rfl rfl ‹gD fun _ _=>rfl› fun _ _ F=>d0 (cl:=iH T) F (mg_none_of X G T.dF)
    c1:=bK (ps:=["net","place"]) X G T.D1 rfl rfl ‹gD fun _ _=>rfl› fun _ _ F=>d1 (cl:=iH T) F (mg_none_of X G T.dF)
    c2:=bK (ps:=["net"]) X G T.D2 rfl rfl ‹wz fun _=>rfl› fun _ _ F=>d2 (cl:=iH T) F (mg_none_of X G T.bz)
    c3:=bK (ps:=["net","start"]) X G T.D3 rfl rfl ‹gD fun _ _=>rfl› fun _ _ F=>d3 (cl:=iH T) F
    c4:=bK (ps:=["net","place"]) X G T.D4 rfl rfl ‹gD fun _ _=>rfl› fun _ _ F=>d4 (cl:=iH T) F (mg_none_of X G T.cG) (mg_none_of X G T.dU) ih.c3 ih.c2
    c5:=bK (ps:=["way","left"]) X G T.D5 rfl rfl ‹gD fun _ _=>rfl› fun _ _ F=>d5 (cl:=iH T) F
    c6:=bK (ps:=["net","place"]) X G T.D6 rfl rfl ‹gD fun _ _=>rfl› fun _ _ F=>d6 (cl:=iH T) F (mg_none_of X G T.iK) (mg_none_of X G T.bz) ih.c4 ih.c5 ih.c0
    c7:=bK (ps:=["net","stream","place"]) X G T.D7 rfl rfl ‹Ao fun _ _ _=>rfl› fun _ _ F=>d7 (cl:=iH T) F (mg_none_of X G T.p8) ih.c1 ih.c0
    c8:=bK (ps:=["net","stream"]) X G T.D8 rfl rfl ‹gD fun _ _=>rfl› fun _ _ F=>d8 (cl:=iH T) F ih.c7
    c9:=bK (ps:=["net","rooms"]) X G T.D9 rfl rfl ‹gD fun _ _=>rfl› fun _ _ F=>d9 (cl:=iH T) F (mg_none_of X G T.bz) (mg_none_of X G T.GR)
    c10:=bK (ps:=["net","stream"]) X G T.D10 rfl rfl ‹gD fun _ _=>rfl› fun _ _ F=>d10 (cl:=iH T) F (mg_none_of X G T.cG) (mg_none_of X G T.iK) ih.c6 ih.c8 ih.c9
    W6:=bK (ps:=["net","step"]) X G T.D11 rfl rfl ‹gD fun _ _=>rfl› fun _ _ F=>d11 (cl:=iH T) F
    c12:=bK (ps:=["net","step"]) X G T.D12 rfl rfl ‹gD fun _ _=>rfl› fun _ _ F=>d12 (cl:=iH T) F
    Zv:=bK (ps:=["net","stream","step"]) X G T.D13 rfl rfl ‹Ao fun _ _ _=>rfl› fun _ _ F=>d13 (cl:=iH T) F
    c14:=bK (ps:=["net","stream"]) X G T.D14 rfl rfl ‹gD fun _ _=>rfl› fun _ _ F=>d14 (cl:=iH T) F (mg_none_of X G T.bG) (mg_none_of X G T.bu) ih.W6 ih.Zv
    Zw:=bK (ps:=["net","stream","begun"]) X G T.D15 rfl rfl ‹Ao fun _ _ _=>rfl› fun _ _ F=>d15 (cl:=iH T) F (mg_none_of X G T.bG) (mg_none_of X G T.cG) ih.c14 ih.c12 ih.W6
    c16:=bK (ps:=["net","come","place"]) X G T.D16 rfl rfl ‹Ao fun _ _ _=>rfl› fun _ _ F=>d16 (cl:=iH T) F (mg_none_of X G T.dU) (mg_none_of X G T.bz) ih.W6
    Zx:=bK (ps:=["stream","steps","loads"]) X G T.D17 rfl rfl ‹Ao fun _ _ _=>rfl› fun _ _ F=>d17 (cl:=iH T) F (mg_none_of X G T.cG)
    c18:=bK (ps:=["net"]) X G T.D18 rfl rfl ‹wz fun _=>rfl› fun _ _ F=>d18 (cl:=iH T) F (mg_none_of X G T.bG) (mg_none_of X G T.iK) ih.Zw ih.Zv ih.c16 ih.Zx
    c19:=bK (ps:=["net"]) X G T.D19 rfl rfl ‹wz fun _=>rfl› fun _ _ F=>d19 (cl:=iH T) F (mg_none_of X G T.bz)
    Zy:=bK (ps:=["net"]) X G T.D20 rfl rfl ‹wz fun _=>rfl› fun _ _ F=>d20 (cl:=iH T) F (mg_none_of X G T.bG) (mg_none_of X G T.qe) (mg_none_of X G T.bz) ih.c18 ih.c19 ih.Zw ih.c8 ih.Zx
    c21:=bK (ps:=["cell"]) X G T.D21 rfl rfl ‹wz fun _=>rfl› fun _ _ F=>d21 (cl:=iH T) F (mg_none_of X G T.GX)
    Rg:=bK (ps:=["pool","base"]) X G T.D22 rfl rfl ‹gD fun _ _=>rfl› fun _ _ F=>d22 (cl:=iH T) F
    Zz:=bK (ps:=["pool","base"]) X G T.D23 rfl rfl ‹gD fun _ _=>rfl› fun _ _ F=>d23 (cl:=iH T) F (mg_none_of X G T.bu) ih.Rg
    c24:=bK (ps:=["pool","many","most","longest"]) X G T.D24 rfl rfl ‹lk4 fun _ _ _ _=>rfl› fun _ _ F=>d24 (cl:=iH T) F ih.Rg ih.Zz
    ZC:=bK (ps:=["pool","places","count"]) X G T.D25 rfl rfl ‹Ao fun _ _ _=>rfl› fun _ _ F=>d25 (cl:=iH T) F (mg_none_of X G T.bu) (mg_none_of X G T.bz) ih.Rg ih.c24
    c26:=bK (ps:=["pool","net","left","start","goal"]) X G T.D26 rfl rfl ‹lk5 fun _ _ _ _ _=>rfl› fun _ _ F=>d26 (cl:=iH T) F (mg_none_of X G T.bG) (mg_none_of X G T.bu) ih.Rg
    ZD:=bK (ps:=["pool","net"]) X G T.D27 rfl rfl ‹gD fun _ _=>rfl› fun _ _ F=>d27 (cl:=iH T) F (mg_none_of X G T.bG) (mg_none_of X G T.iK) (mg_none_of X G T.bu) ih.Rg ih.c26 ih.Zz
    c28:=bK (ps:=["thing"]) X G T.D28 rfl rfl ‹wz fun _=>rfl› fun _ _ F=>d28 (cl:=iH T) F (mg_none_of X G T.yp) (mg_none_of X G T.GZ) (mg_none_of X G T.bV)
    c29:=bK (ps:=["net","walk"]) X G T.D29 rfl rfl ‹gD fun _ _=>rfl› fun _ _ F=>d29 (cl:=iH T) F (mg_none_of X G T.bG)
    ZF:=bK (ps:=["net","rounds"]) X G T.D30 rfl rfl ‹gD fun _ _=>rfl› fun _ _ F=>d30 (cl:=iH T) F (mg_none_of X G T.bG)
    c31:=bK (ps:=["net","rounds"]) X G T.D31 rfl rfl ‹gD fun _ _=>rfl› fun _ _ F=>d31 (cl:=iH T) F (mg_none_of X G T.lK) (mg_none_of X G T.bG) (mg_none_of X G T.bu) ih.c29 ih.ZF
    c32:=bK (ps:=["net","stream"]) X G T.D32 rfl rfl ‹gD fun _ _=>rfl› fun _ _ F=>d32 (cl:=iH T) F (mg_none_of X G T.bG) (mg_none_of X G T.bu)
    c33:=bK (ps:=["net","told"]) X G T.D33 rfl rfl ‹gD fun _ _=>rfl› fun _ _ F=>d33 (cl:=iH T) F (mg_none_of X G T.lK) (mg_none_of X G T.bV) (mg_none_of X G T.bG) (mg_none_of X G T.cG) (mg_none_of X G T.bz) ih.c31 ih.c28
    ZG:=bK (ps:=["net","stream"]) X G T.D34 rfl rfl ‹gD fun _ _=>rfl› fun _ _ F=>d34 (cl:=iH T) F (mg_none_of X G T.lK) (mg_none_of X G T.bG) (mg_none_of X G T.cG) (mg_none_of X G T.bu) (mg_none_of X G T.p8) ih.c33 ih.ZF ih.c32 ih.c10
    c35:=bK (ps:=["script"]) X G T.D35 rfl rfl ‹wz fun _=>rfl› fun _ _ F=>d35 (cl:=iH T) F ih.ZC ih.ZG ih.c21 ih.ZD ih.Zy}
theorem gin{K:PySem.W.Frag}{x:Str}{i:Int}{t:Tok}(a:PySem.W.nsIn K mainGlobals x=some (some (Value.int i t))):∃t,PySem.W.nsIn K mainGlobals x=some (some (Value.int i t)):=⟨t,a⟩
set_option maxHeartbeats 0 in
theorem Oa{Pg:Program}{w:World}{K:PySem.W.Frag}{mg:Str->Option Value}{h:Heap}{fa:Addr}(T:Txt K)(X:K.In h)(G:h.Ns mainGlobals mg)(hmg:mg "law"=some (.ref fa)):∃fd:FuncData,(∀(s:Shared)(u:Value),BindsTo s fd ⟨[u],[]⟩ [("script",u)])/\∀base:Heap,K.In base->base.Ns mainGlobals mg->bW Pg w K mg base fZ 40 fa fd ["script"] (gw K 1 (run Γ 100000000 40 35)):=by
 obtain⟨f,fd,a,F⟩:=T.D35.ex;have e:=hmg.symm.trans (mg_of X G a);cases e;refine⟨fd,fun s u=>?_,fun base kb nb=>?_⟩;.obtain⟨oc,od,kV,doc,pm,an,cdv,ct,osl,rfl,lk,hcd⟩:=F.ex;exact .of_eq rfl
 .have ih:=Fv (Pg:=Pg) (w:=w) (base:=base) T kb nb 39;exact d35 (cl:=iH T) (k:=39) (n:=100000000) (c:=run Γ 100000000 39) F ih.ZC ih.ZG ih.c21 ih.ZD ih.Zy
end T
open PySem PySem.W PyProof.Rows
set_option maxRecDepth 100000 in
set_option maxHeartbeats 0 in
theorem PySem.Challenge.cw_hourhaul_k26_streams_parted_into_rounds_holds : PySem.Challenge.rw_hourhaul_k26_streams_parted_into_rounds.Holds := by
 w_on;o_law;k_head;(case hw=>w_witness2);k_fill;refine L2.Gq (l:=PySem.Challenge.rw_hourhaul_k26_streams_parted_into_rounds) (n:=63) (k:=40) (x:="script") (CX:=L2.fZ) (sp:=fun K=>HH.gw K 1 (HH.run T.Γ 100000000 40 35)) rfl (by decide) rfl ⟨rfl,by decide,by decide⟩ (fun w h Y=>PySem.W.kIn_of Y) ?F ?S ?C;case F=>
  intro w mg fa h KX G hmg;refine T.Oa ?T KX G hmg;constructor;iterate 36(· refine' HH.PX ?a ?l ?c ?k;case a|l|c|k=>k_is)
  all_goals k_is
 case S=>intro K H a ns hl hO hS;obtain⟨as,e⟩:=T.Jh ns hl;exact HH.Ay hS e
 case C=>exact fun H s e s' z=>z
