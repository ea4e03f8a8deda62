import PyProof.Rows.All
import Wide.All
import OpenK.AllK
import Wide.FinOn
import Lean
import PyProof.EqAt
import PyProof.EqKinds
import PyProof.TupleCall
import PySem.Str
import PySem.Builtin.Int.W1All
import PyProof.NeKinds
import PyProof.ZipIter
import PyProof.SumWalkG
import PyProof.MinMaxWalk
import PyProof.WalksMore
import PyProof.SeqI3
import PyProof.WalkInts
import PyProof.Rows.CallKwBuiltin
import PyProof.Rows.Tup
import PyProof.CollectIter
import PyProof.EnumMake
import PyProof.TupleOfSeq
import PyProof.ListNew
import PyProof.ReprLoop
import PyProof.StationsW
import PyProof.ExcClass3
import PyProof.Rows.CatchBare
import OpenK.KOwn
import KE.KIsAll
import PyProof.NsDelKeeps
import PyProof.RulesAs
import PyProof.ExcArgsOwn
import PyProof.ListRange
import KE.RegKIsAll
import KE.KRevIter
import PyProof.Rows.SortRuns
import KE.KSortTup
import PyProof.DictWalks
import KE.KDictList
import KE.KItemsList
import PyProof.ExcBaseAll.ValueError
import PySem.Challenge.RW_hourhaul_k46_whole_least_hours_and_the_m
set_option Elab.async false
set_option linter.all false
set_option maxRecDepth 100000
set_option genSizeOf false
set_option compiler.extract_closed false
set_option bootstrap.genMatcherCode false
open List(replicate getElem?_set_ne mem_map mem_cons size_toArray getElem?_set_self map_cons length_map map_map length_cons mem_cons_of_mem length_append mem_append nodup_cons mem_of_getElem? mem_singleton all_eq_true getElem?_append_left getElem?_map lookup_cons find?_cons mem_append_right append_nil append_assoc getElem?_eq_getElem map_congr_left filterMap_cons mem_cons_self replicate_succ foldl drop_eq_getElem_cons getElem_mem getElem?_append_right sum_cons length_take length_range any_cons cons_append mem_filter reverse_cons flatten_cons map_nil drop_eq_nil_iff all_cons pairwise_map map pairwise_cons nodup_append any_eq_true of_mem_zip nil_append length_nil map_append map_set)
open PySem.Heap(lt_size get?_push_of_some get?_push_size get?_update_other size_push SameBut)
open Nat(le_refl ne_of_lt lt_of_lt_of_le zero_le le_trans lt_irrefl le_of_lt ne_of_gt le_succ)
open PySem.W(mg_none_of keepIn methodObj mg_of)
open PySem.Builtin.Tuple(tupleExact tupleItemsOf)
open Option(map_eq_some_iff bind_some isSome_map getD_none getD_some)
open Bool(and_eq_true false_eq_true or_eq_true not_eq_true')
open PySem.Builtin.List(listExtendWith listTooLong listLengthHint listSameRef)
open PySem.Builtin.Slice(slicePlaces sliceAdjust sliceApplied)
open Array(length_toList toList)
open Int(mul_comm sub_zero mul_add mul_zero mul_one mul_neg)
open PySem.F(slot_tuple_add entry_tuple_add args_tuple_add_2 slot_tuple_mul plainAttrs_list slot_dict_get)
open PySem.SeqAt.EqAt(int_str str_int)
open PySem.SeqAt.RcAt(lists_lengths)
open PySem.SeqAt.RcNeAt(none_int none_str bool_int bool_str int_none int_bool int_int int_list str_none str_bool str_str str_list list_int list_str)
section
namespace L2
open PySem PySem.Spec PyProof.Rows
noncomputable abbrev Key:=Sum Int Str
noncomputable def mq:Key->Value->Bool|.inl k,v=>Value.isInt k v|.inr x,v=>Value.isStrOf x v
noncomputable def ZL(w:World):Key->Int|.inl k=>hashInt k|.inr x=>hashStr w x
theorem bu:∀{k:Key}{v:Value},mq k v=true->(∃i t,k=Sum.inl i/\v=Value.int i t)\/(∃x t,k=Sum.inr x/\v=Value.str x t)|.inl i,v,h=>by obtain⟨t,e⟩:=Value.isInt_shape (k:=i) (v:=v) h;exact .inl ⟨i,t,rfl,e⟩|.inr x,v,h=>by obtain⟨t,e⟩:=Value.isStrOf_shape (x:=x) (v:=v) h;exact .inr ⟨x,t,rfl,e⟩
theorem Aj(i:Int)(t:Tok):mq (.inl i) (.int i t)=true:=by simp[mq,Value.isInt]
theorem Af(x:Str)(t:Tok):mq (.inr x) (.str x t)=true:=by simp[mq,Value.isStrOf]
theorem Om(a b:Int):decide ((Sum.inl a:Key)=Sum.inl b)=(a==b):=by
 by_cases e:a=b;.subst e;simp
 .have h:¬(Sum.inl a:Key)=Sum.inl b:=fun q=>e (Sum.inl.inj q);rw[decide_eq_false h];exact(beq_eq_false_iff_ne.mpr e).symm
theorem Nj(a b:Str):decide ((Sum.inr a:Key)=Sum.inr b)=decide (a=b):=by
 by_cases e:a=b;.subst e;simp
 .have h:¬(Sum.inr a:Key)=Sum.inr b:=fun q=>e (Sum.inr.inj q);rw[decide_eq_false h,decide_eq_false e]
theorem Ni(a:Int)(b:Str):decide ((Sum.inl a:Key)=Sum.inr b)=false:=decide_eq_false (fun q=>nomatch q)
theorem Lq(a:Str)(b:Int):decide ((Sum.inr a:Key)=Sum.inl b)=false:=decide_eq_false (fun q=>nomatch q)
noncomputable def aX(prog:Program)(w:World):PySem.KeyKind prog w Key where
 is:=mq;hash:=ZL w;inj:=fun v a b ha hb=>by
  rcases bu ha with⟨i,t,rfl,rfl⟩|⟨x,t,rfl,rfl⟩
  . rcases bu hb with⟨j,u,rfl,e⟩|⟨y,u,rfl,e⟩;.injection e with e1 _;rw[e1]
    .exact nomatch e
  . rcases bu hb with⟨j,u,rfl,e⟩|⟨y,u,rfl,e⟩;.exact nomatch e
    .injection e with e1 _;rw[e1]
 byValue:=fun k v h=>by rcases bu h with⟨i,t,rfl,rfl⟩|⟨x,t,rfl,rfl⟩<;>rfl
 pyHash:=fun hv h=>by
  rcases bu hv with⟨i,t,rfl,rfl⟩|⟨x,t,rfl,rfl⟩;.exact wpAny_pyHash_int h
  .exact wpAny_pyHash_str h
 eqBool:=fun hu hv h=>by
  rcases bu hu with⟨i,t,rfl,rfl⟩|⟨x,t,rfl,rfl⟩
  . rcases bu hv with⟨j,u,rfl,rfl⟩|⟨y,u,rfl,rfl⟩;.rw[Om]at h;exact wpAny_eqBool_int h
    .rw[Ni]at h;exact int_str i t y u _ _ _ _ h
  . rcases bu hv with⟨j,u,rfl,rfl⟩|⟨y,u,rfl,rfl⟩;.rw[Lq]at h;exact str_int x t j u _ _ _ _ h
    .rw[Nj]at h;exact wpAny_eqBool_str h
 «strs»:=fun k x t v h=>by
  rcases bu h with⟨i,u,rfl,e⟩|⟨y,u,rfl,e⟩;.exact nomatch e
  .injection e with e1 _;subst e1;cases v<;>rfl
theorem uF(prog:Program)(w:World)(i:Int)(t:Tok):(aX prog w).is (.inl i) (.int i t)=true:=Aj i t
theorem tQ(prog:Program)(w:World)(x:Str)(t:Tok):(aX prog w).is (.inr x) (.str x t)=true:=Af x t
inductive V where|non|bl(b:Bool)|int(i:Int)|str(x:Str)|byt(b:Array UInt8)|flt(b:UInt64)|ref(a:Addr)|ty(n:String)deriving DecidableEq
def RelV:V->Value->Prop|.non,u=>u=Value.none|.bl b,u=>u=Value.bool b|.int i,u=>∃t,u=Value.int i t|.str x,u=>∃t,u=Value.str x t|.byt b,u=>∃t,u=Value.bytes b t|.flt b,u=>∃t,u=Value.float b t|.ref a,u=>u=Value.ref a|.ty n,u=>u=Value.type n
abbrev Vals:List V->List Value->Prop:=Paired RelV
theorem Vals.length{xs:List V}{us:List Value}(r:Vals xs us):xs.length=us.length:=Paired.length r
theorem Vals.get:∀{xs:List V}{us:List Value}{i:Nat}{x:V},Vals xs us->xs[i]?=some x->∃u,us[i]?=some u/\RelV x u|_,_,_,_,.nil,e=>by simp at e|_,_,0,_,.cons r _,e=>by simp at e;subst e;exact⟨_,rfl,r⟩|_,_,i+1,x,.cons _ t,e=>by obtain⟨u,h1,h2⟩:=Vals.get (i:=i) (x:=x) t (by simpa using e);exact⟨u,by simpa using h1,h2⟩
theorem Vals.set{x:V}{u:Value}(r:RelV x u):∀{xs:List V}{us:List Value}(i:Nat),Vals xs us->Vals (xs.set i x) (us.set i u)|_,_,_,.nil=>.nil|_,_,0,.cons _ t=>.cons r t|_,_,i+1,.cons q t=>.cons q (Vals.set r i t)
theorem Vals.append:∀{xs ys:List V}{us ws:List Value},Vals xs us->Vals ys ws->Vals (xs++ys) (us++ws)|_,_,_,_,.nil,s=>s|_,_,_,_,.cons r t,s=>.cons r (Vals.append t s)
theorem Vals.take:∀{xs:List V}{us:List Value}(n:Nat),Vals xs us->Vals (xs.take n) (us.take n)|_,_,0,_=>.nil|_,_,_+1,.nil=>.nil|_,_,n+1,.cons r t=>.cons r (Vals.take n t)
theorem Vals.drop:∀{xs:List V}{us:List Value}(n:Nat),Vals xs us->Vals (xs.drop n) (us.drop n)|_,_,0,r=>r|_,_,_+1,.nil=>.nil|_,_,n+1,.cons _ t=>Vals.drop n t
def mQ:Option V->Option Value->Prop|some v,some u=>RelV v u|none,none=>True|_,_=>False
def KV{κ:Type}:List (κ×V)->List (κ×Value)->Prop:=Paired fun(p:κ×V)(q:κ×Value)=>p.1=q.1/\RelV p.2 q.2
noncomputable def kV:Key->V|.inl i=>.int i|.inr x=>.str x
inductive HO where/--a list -/|lst(xs:List V)/--a tuple (never changes) -/|tup(xs:List V)/--a dict whose keys are ints and texts;one whose keys are tuples of ints and texts (the empty one is both) -/|dK(kvs:List (Key×V))|dT(kvs:List (List Key×V))/--a set of ints: its members,its size -/|set(S:Int->Bool)(n:Nat)/--an instance of the class at C,its dict at dx,its attributes -/|ins(C dx:Addr)(fs:List (Str×V))/--the dict of the instance at x -/|own(x:Addr)/--the dict of an exception -/|xd(fs:List (Str×V))/--a bound method,f of x -/|met(f x:Addr)/--a range object lo,lo+1,.. below hi -/|zq(lo hi:Int)/--a thing that is known to the object (the script;a dict while a loop walks it): read,never written while it is so -/|cG(o:Obj)(u:HO)/--a code object's table -/|Qt(ps:Array Value)/--any other thing,by what is true of its one object (a def of one's own: SetO a S n:=HO.ext fun h=>..) -/|ext(φ:Heap->Prop)
noncomputable abbrev Hp:=Addr->Option HO
noncomputable def upd(H:Hp)(a:Addr)(o:HO):Hp:=fun b=>if b=a then some o else H b
theorem aJ{H:Hp}{a:Addr}{o:HO}:upd H a o a=some o:=by unfold upd;rw[if_pos rfl]
theorem az{H:Hp}{a b:Addr}{o:HO}(h:b≠a):upd H a o b=H b:=by unfold upd;rw[if_neg h]
theorem yX{H:Hp}{a:Addr}{o u:HO}:upd (upd H a o) a u=upd H a u:=by funext b;unfold upd;split<;>rfl
theorem S7{H:Hp}{a b:Addr}{o u:HO}(h:H a=some o)(h':H b=some u)(d:o≠u):a≠b:=by intro e;subst e;rw[h]at h';exact d (Option.some.inj h')
theorem fH{H:Hp}{a b:Addr}{o:HO}(h:H a=some o)(h':H b=none):a≠b:=by intro e;subst e;rw[h]at h';cases h'
section
variable(P:Program)(w:World)
def bw(H:Hp)(h:Heap)(a:Addr):HO->Prop|.lst xs=>xs.length<=sizeLine/\∃(its:List Value)(n:Nat),Vals xs its/\h.get? a=some {cls:=.type "list",data:=.seq its.toArray n}|.tup xs=>xs.length<=sizeLine/\∃its:List Value,Vals xs its/\IsTup h a its.toArray|.dK kvs=>kvs.length<=sizeLine/\(a==sysModules)=false/\∃vs,KV kvs vs/\h.DictOf (aX P w) a vs|.dT kvs=>kvs.length<=sizeLine/\(a==sysModules)=false/\∃xs:List (List Key×Addr×Value),Paired (fun(p:List Key×V)(q:List Key×Addr×Value)=>p.1=q.1/\H q.2.1=some (.tup (p.1.map kV))/\RelV p.2 q.2.2) kvs xs/\∃o es ep,h.get? a=some o/\o.ExactDict/\o.data=.dict es ep/\es.toList=xs.map (entryOfKey (tupleKind (aX P w)))/\(xs.map (·.1)).Nodup|.set S n=>h.SetOf (intKind P w) a S n|.ins C dx fs=>H dx=some (.own a)/\fs.length<=1000/\dx≠a/\h.get? a=some (PySem.W.instObj C dx)/\∃mA,h.Ns1 dx mA/\(∀f,mQ (fs.lookup f) (mA f))/\PySem.Within mA (fs.map (·.1))|.own _=>∃o,h.get? a=some o|.xd fs=>∃mA,h.Ns1 a mA/\∀f,mQ (fs.lookup f) (mA f)|.zq lo hi=>∃t u v,h.get? a=some {cls:=.type "range",data:=.fields #[.int lo t,.int hi u,.int 1 v]}|.cG o u=>h.get? a=some o/\bw H h a u|.Qt ps=>h.get? a=some {cls:=.none,data:=.fields ps}|.met f x=>h.get? a=some (methodObj (.ref f) (.ref x))|.ext φ=>φ h/\(∃o,h.get? a=some o)/\∀h1 h2:Heap,φ h1->(∀o,h1.get? a=some o->h2.get? a=some o)->φ h2
def kY(H:Hp)(h:Heap):Prop:=∀a o,H a=some o->bw P w H h a o
end
section
variable{P:Program}{w:World}{H H':Hp}{h h':Heap}{a:Addr}{o:HO}
theorem bw.lt(x:bw P w H h a o):a<h.objs.size:=by cases o with|lst xs=>obtain⟨_,_,_,_,e⟩:=x;exact lt_size e|tup xs=>obtain⟨_,_,_,p⟩:=x;exact p.lt|dK kvs=>obtain⟨_,_,_,_,o,_,_,e,_⟩:=x;exact lt_size e|dT kvs=>obtain⟨_,_,_,_,o,_,_,e,_⟩:=x;exact lt_size e|set S n=>obtain⟨o,_,_,_,e,_⟩:=x;exact lt_size e|ins C dx fs=>obtain⟨_,_,_,e,_⟩:=x;exact lt_size e|own y=>obtain⟨_,e⟩:=x;exact lt_size e|xd fs=>obtain⟨_,⟨_,_,_,e,_⟩,_⟩:=x;exact lt_size e|zq lo hi=>obtain⟨_,_,_,e⟩:=x;exact lt_size e|cG ob u=>obtain⟨e,_⟩:=x;exact lt_size e|Qt ps=>exact lt_size (show h.get? a=some _ from x)|met f y=>exact lt_size (show h.get? a=some _ from x)|ext φ=>obtain⟨_,⟨_,e⟩,_⟩:=x;exact lt_size e
theorem Paired.O9{α β:Type}{F G:α->β->Prop}:∀{l₁:List α}{l₂:List β},Paired F l₁ l₂->(∀a b,F a b->G a b)->Paired G l₁ l₂|_,_,.nil,_=>.nil|_,_,.cons r t,f=>.cons (f _ _ r) (Paired.O9 t f)
theorem bw.stay(x:bw P w H h a o)(k:∀b u,(b=a\/H b=some (.own a))->h.get? b=some u->h'.get? b=some u)(ho:∀b,H b=some (.own a)->H' b=some (.own a))(ht:∀b xs,H b=some (.tup xs)->H' b=some (.tup xs)):bw P w H' h' a o:=by induction o with|lst xs=>obtain⟨z,its,n,r,e⟩:=x;exact⟨z,its,n,r,k _ _ (.inl rfl) e⟩|tup xs=>obtain⟨z,its,r,ob,e,c⟩:=x;exact⟨z,its,r,ob,k _ _ (.inl rfl) e,c⟩|dK kvs=>obtain⟨z,y,vs,r,ob,es,ep,e,c⟩:=x;exact⟨z,y,vs,r,ob,es,ep,k _ _ (.inl rfl) e,c⟩|dT kvs=>obtain⟨z,y,xs,r,ob,es,ep,e,c⟩:=x;exact⟨z,y,xs,Paired.O9 r fun p q z=>⟨z.1,ht _ _ z.2.1,z.2.2⟩,ob,es,ep,k _ _ (.inl rfl) e,c⟩|set S n=>obtain⟨ob,es,ep,t,e,c⟩:=x;exact⟨ob,es,ep,t,k _ _ (.inl rfl) e,c⟩|ins C dx fs=>obtain⟨d,z,ne,e,mA,⟨od,es,ep,e2,c⟩,r⟩:=x;exact⟨ho _ d,z,ne,k _ _ (.inl rfl) e,mA,⟨od,es,ep,k _ _ (.inr d) e2,c⟩,r⟩|own y=>obtain⟨ob,e⟩:=x;exact⟨ob,k _ _ (.inl rfl) e⟩|xd fs=>obtain⟨mA,⟨od,es,ep,e,c⟩,r⟩:=x;exact⟨mA,⟨od,es,ep,k _ _ (.inl rfl) e,c⟩,r⟩|zq lo hi=>obtain⟨t,u,v,e⟩:=x;exact⟨t,u,v,k _ _ (.inl rfl) e⟩|cG ob u ih=>obtain⟨e,q⟩:=x;exact⟨k _ _ (.inl rfl) e,ih q⟩|Qt ps=>have e:h.get? a=some {cls:=.none,data:=.fields ps}:=x;show h'.get? a=some {cls:=.none,data:=.fields ps};exact k a _ (.inl rfl) e|met f y=>have e:h.get? a=some (methodObj (.ref f) (.ref y)):=x;show h'.get? a=some (methodObj (.ref f) (.ref y));exact k a _ (.inl rfl) e|ext φ=>obtain⟨p,⟨o,e⟩,st⟩:=x;exact⟨st _ _ p fun o q=>k _ _ (.inl rfl) q,⟨o,k _ _ (.inl rfl) e⟩,st⟩
theorem kY.lt(x:kY P w H h)(e:H a=some o):a<h.objs.size:=(x a o e).lt
theorem kY.fresh(x:kY P w H h)(e:h.objs.size<=a):H a=none:=by cases q:H a with|none=>rfl|some u=>exact absurd (lt_of_lt_of_le (x.lt q) e) (lt_irrefl _)
theorem kY.kept(x:kY P w H h)(k:∀b u,h.get? b=some u->h'.get? b=some u):kY P w H h':=fun a o e=>(x a o e).stay (fun b u _ q=>k b u q) (fun _ q=>q) fun _ _ q=>q
theorem kY.laid(x:kY P w H h)(k:∀b u,h.get? b=some u->h'.get? b=some u)(hp:h.objs.size<=a)(new:bw P w (upd H a o) h' a o):kY P w (upd H a o) h':=fun b u e=>by
 have hn:=x.fresh hp;by_cases hb:b=a;.subst hb;rw[aJ]at e;cases e;exact new
 .rw[az hb]at e;exact(x b u e).stay (fun c v _ q=>k c v q) (fun c q=>by rw[az (fH q hn)];exact q) fun c xs q=>by rw[az (fH q hn)];exact q
end
def Rd(H:Hp)(a:Addr)(u:HO):Prop:=H a=some u\/∃o,H a=some (.cG o u)
theorem Rd.ok{P:Program}{w:World}{H:Hp}{h:Heap}{a:Addr}{u:HO}(r:Rd H a u)(x:kY P w H h):bw P w H h a u:=by
 rcases r with r|⟨o,r⟩;.exact x a u r
 .obtain⟨_,q⟩:=x a _ r;exact q
def Vm:Option HO->Prop|some (.lst _)=>True|some (.dK _)=>True|some (.dT _)=>True|some (.set _ _)=>True|some (.ins _ _ _)=>True|some (.ext _)=>True|_=>False
section
variable{P:Program}{w:World}{H:Hp}{h h':Heap}{x e:Addr}{o':HO}
theorem kY.write(ok:kY P w H h)(mu:Vm (H x))(he:e=x\/H e=some (.own x))(k:∀b u,b≠e->h.get? b=some u->h'.get? b=some u)(heo:∃u,h'.get? e=some u)(new:bw P w (upd H x o') h' x o'):kY P w (upd H x o') h':=fun b u q=>by
 have VP:∀c y,H c=some (.own y)->c≠x:=fun c y r z=>by subst z;rw[r]at mu;exact mu
 have abB:∀c xs,H c=some (.tup xs)->c≠x:=fun c xs r z=>by subst z;rw[r]at mu;exact mu
 by_cases hb:b=x;.subst hb;rw[aJ]at q;cases q;exact new
 . rw[az hb]at q;by_cases hbe:b=e
   . have q':H b=some (.own x):=by
      rcases he with z|z;.exact absurd (hbe.trans z) hb
      .rw[hbe];exact z
     rw[q]at q';cases q';obtain⟨v,hv⟩:=heo;exact⟨v,by rw[hbe];exact hv⟩
   . refine(ok b u q).stay (fun c v hc r=>k c v ?_ r) (fun c r=>by rw[az (VP c b r)];exact r) fun c xs r=>by rw[az (abB c xs r)];exact r
     rcases hc with rfl|hc;.exact hbe
     . rintro rfl;rcases he with z|z;.exact VP c b hc z
       .rw[hc]at z;cases z;exact hb rfl
end
structure Un(fs ex:List Addr)(H H':Hp)(h h':Heap):Prop where
 keep:∀b o,h.get? b=some o->H b=none->b∉fs->b∉ex->h'.get? b=some o
 slot:∀b o,h.get? b=some o->H b=none->b∈fs->b∉ex->∃sl,h'.get? b=some {o with slots:=sl}free:∀b o,h.get? b=some o->H b=none->b∉ex->H' b=none
 there:∀b o,h.get? b=some o->b∉ex->∃o',h'.get? b=some o'
 tups:∀b xs,H b=some (.tup xs)->H' b=some (.tup xs)sV:∀b o u,H b=some (.cG o u)->H' b=some (.cG o u)u6:∀b ps,H b=some (.Qt ps)->∃more,H' b=some (.Qt (ps++more))
section
variable{fs fs' ex ex':List Addr}{H H1 H2:Hp}{h h1 h2 h':Heap}{a x e:Addr}{o:HO}
theorem Un.any(u:Un fs ex H H1 h h1){b:Addr}{ob:Obj}(q:h.get? b=some ob)(n:H b=none)(hx:b∉ex):∃sl,h1.get? b=some {ob with slots:=sl}:=by
 by_cases hb:b∈fs;.exact u.slot b ob q n hb hx
 .exact⟨ob.slots,u.keep b ob q n hb hx⟩
theorem Un.kept(k:∀b u,h.get? b=some u->h'.get? b=some u):Un fs ex H H h h':=⟨fun b ob q _ _ _=>k b ob q,fun b ob q _ _ _=>⟨ob.slots,k b ob q⟩,fun _ _ _ n _=>n,fun b ob q _=>⟨ob,k b ob q⟩,fun _ _ q=>q,fun _ _ _ q=>q,fun _ ps q=>⟨#[],by rw[q];simp⟩⟩
theorem Un.refl:Un fs ex H H h h:=Un.kept fun _ _ q=>q
theorem Un.laid(k:∀b u,h.get? b=some u->h'.get? b=some u)(hp:h.objs.size<=a)(hn:H a=none):Un fs ex H (upd H a o) h h' where
 keep:=fun b u q _ _ _=>k b u q;slot:=fun b u q _ _ _=>⟨u.slots,k b u q⟩;free:=fun b u q n _=>by rw[az (ne_of_lt (lt_of_lt_of_le (lt_size q) hp))];exact n
 there:=fun b u q _=>⟨u,k b u q⟩;tups:=fun b xs q=>by rw[az (fH q hn)];exact q
 sV:=fun b u xs q=>by rw[az (fH q hn)];exact q
 u6:=fun b ps q=>⟨#[],by rw[az (fH q hn),q];simp⟩
theorem Un.write(mu:Vm (H x))(he:e=x\/H e=some (.own x))(k:∀b u,b≠e->h.get? b=some u->h'.get? b=some u)(heo:∃u,h'.get? e=some u):Un fs ex H (upd H x o) h h':=by
 have hx:∀b,H b=none->b≠x:=fun b n z=>by subst z;rw[n]at mu;exact mu
 have hb:∀b,H b=none->b≠e:=fun b n z=>by
  subst z;rcases he with r|r;.exact hx b n r
  .rw[n]at r;cases r
 have hm:∀b u,H b=some u->¬ Vm (some u)->b≠x:=fun b u q nm z=>by subst z;rw[q]at mu;exact nm mu
 refine⟨fun b u q n _ _=>k b u (hb b n) q,fun b u q n _ _=>⟨u.slots,k b u (hb b n) q⟩,fun b u q n _=>by rw[az (hx b n)];exact n,fun b u q _=>?_,fun b xs q=>by rw[az (hm b _ q fun z=>z)];exact q,fun b u xs q=>by rw[az (hm b _ q fun z=>z)];exact q,fun b ps q=>⟨#[],by rw[az (hm b _ q fun z=>z),q];simp⟩⟩;by_cases hbe:b=e;.subst hbe;exact heo
 .exact⟨u,k b u hbe q⟩
end
noncomputable def Xv(h:Heap)(H:Hp):List Addr:=(List.range h.objs.size).filter fun a=>(H a).isSome
noncomputable def qO(h:Heap)(H:Hp):Heap:=PySem.W.hideAll h (Xv h H)
theorem zH(h:Heap)(H:Hp):(qO h H).objs.size=h.objs.size:=PySem.W.hideAll_size _ _
theorem FQ{h:Heap}{H:Hp}{b:Addr}{o:Obj}(e:h.get? b=some o)(n:H b=none):(qO h H).get? b=some o:=PySem.W.hideAll_get _ e fun hm=>by have q:(H b).isSome=true:=(mem_filter.mp hm).2;rw[n]at q;simp at q
theorem Hm{h:Heap}{H:Hp}{b:Addr}{o:Obj}(e:(qO h H).get? b=some o):h.get? b=some o/\H b=none:=by have e':h.get? b=some o:=PySem.W.of_hideAll (Xv h H) e;refine⟨e',?_⟩;cases q:H b with|none=>rfl|some x=>have hm:b∈Xv h H:=mem_filter.mpr ⟨List.mem_range.mpr (lt_size e'),by simp[q]⟩;have z:(qO h H).get? b=none:=PySem.W.hideAll_none (Xv h H) hm;rw[z]at e;cases e
structure Mod(K:PySem.W.Frag)(mg:Str->Option Value)(base:Heap):Prop where
 pL:K.In base
 glob:base.Ns mainGlobals mg
 blt:∃mb,base.Ns builtinsNs mb/\∀x:Str,x≠"__name__"->mb x=bootBuiltins x
 nolimit:base.NoLimit
structure Cx where
 prog:Program
 w:World
 K:PySem.W.Frag
 mg:Str->Option Value
 base:Heap
 A:Around
 N:List Str
 s₀:Shared
 H₀:Hp
 env:Env
 outer:List Env
 stack:List Env
 ex:List Addr
 fn:Str->Bool
 calm:Bool
 pn:List (Addr×Obj)xe:Value->Shared->Prop
noncomputable def frs(l:List Env):List Addr:=l.filterMap (·.frame)
noncomputable abbrev Cx.fs(X:Cx):List Addr:=frs X.outer
def tu(sc:Scope)(x:Str):Prop:=sc.names.lookup x=some .local\/sc.names.lookup x=some .cell\/sc.names.lookup x=some .free
def Loc(sc:Scope)(x:Str):Prop:=sc.names.lookup x=some .local\/sc.names.lookup x=some .cell
def Look(env:Env)(h:Heap)(m:Str->Option Value)(x:Str)(u:Value):Prop:=(env.kindOf x=some .local/\m x=some u)\/((env.kindOf x=some .cell\/env.kindOf x=some .free)/\∃c,env.cells.lookup x=some c/\h.IsCell c (some u))
structure Cx.Ok(X:Cx):Prop where
 mod:Mod X.K X.mg X.base
 kind:X.env.scope.kind=.function
 glob:X.env.globals=mainGlobals
 blt:X.env.builtins=builtinsNs
 above:X.s₀.heap.objs.size<=X.env.locals
 inj:∀x y c,X.env.cells.lookup x=some c->X.env.cells.lookup y=some c->x=y
 has:∀x,(X.env.kindOf x=some .cell\/X.env.kindOf x=some .free)->∃c,X.env.cells.lookup x=some c
 cab:∀x c,X.fn x=true->X.env.cells.lookup x=some c->X.s₀.heap.objs.size<=c
 hd:X.calm=true->X.A.handled=none
 frames:X.A.frames=some X.stack
 Yt:X.stack=X.outer\/(X.stack=X.env::X.outer/\X.env.frame=some X.env.locals)exf:∀b∈X.ex,b≠X.env.locals/\∀x c,X.env.cells.lookup x=some c->c≠b
 bs:∀b o,X.base.get? b=some o->X.s₀.heap.get? b=some o/\X.H₀ b=none
 K1:X.base.objs.size<=X.s₀.heap.objs.size
 FT:∀b o,X.base.get? b=some o->b∉X.ex
 Jw:∀b∈X.ex,b∉X.fs
 ou:X.s₀.heap.FunFrames X.base X.outer
 Sg:∀b∈X.fs,X.H₀ b=none
structure Inv(X:Cx)(pins:List (Addr×Obj))(σ:List (Option V))(H:Hp)(s:Shared):Prop where
 ok:X.Ok
 os:s.os=X.s₀.os
 bare:AllBare s.gens
 base:Un X.fs X.ex X.H₀ H X.s₀.heap s.heap
 loc:∃m,s.heap.Ns X.env.locals m/\∀(i:Nat)(x:Str)(v:V),X.N[i]?=some x->σ[i]?=some (some v)->tu X.env.scope x->∃u,RelV v u/\Look X.env s.heap m x u
 cell:∀x c,X.env.cells.lookup x=some c->∃v,s.heap.IsCell c v
 free:H X.env.locals=none
 jy:∀x c,X.env.cells.lookup x=some c->H c=none
 pin:∀p∈X.pn++pins,s.heap.get? p.1=some p.2/\H p.1=none/\p.1≠X.env.locals/\p.1∉X.fs/\∀v,p.2.data≠.cell v
 hok:kY X.prog X.w H s.heap
 len:σ.length=X.N.length
section
variable{X:Cx}{pins:List (Addr×Obj)}{σ:List (Option V)}{H H':Hp}{s:Shared}{h':Heap}
theorem Cx.Ok.aba(ok:X.Ok){b:Addr}{o:Obj}(e:X.base.get? b=some o):b∉X.fs:=fun hb=>by have:=(ok.ou.mem hb).1;rw[e]at this;cases this
theorem Inv.bs(I:Inv X pins σ H s):∀b o,X.base.get? b=some o->s.heap.get? b=some o/\H b=none:=fun b o e=>⟨I.base.keep b o (I.ok.bs b o e).1 (I.ok.bs b o e).2 (I.ok.aba e) (I.ok.FT b o e),I.base.free b o (I.ok.bs b o e).1 (I.ok.bs b o e).2 (I.ok.FT b o e)⟩
theorem Inv.bk(I:Inv X pins σ H s):∀b o,X.base.get? b=some o->s.heap.get? b=some o:=fun b o e=>(I.bs b o e).1
theorem Inv.mod(I:Inv X pins σ H s):Mod X.K X.mg X.base:=I.ok.mod
theorem Inv.Rp(I:Inv X pins σ H s):X.K.In s.heap:=I.ok.mod.pL.keeps I.bk
theorem Inv.lt(I:Inv X pins σ H s):X.env.locals<s.heap.objs.size:=let⟨_,hn,_⟩:=I.loc;hn.lt
theorem Inv.sz(I:Inv X pins σ H s):X.s₀.heap.objs.size<=s.heap.objs.size:=le_trans I.ok.above (le_of_lt I.lt)
theorem Inv.aaj(I:Inv X pins σ H s){a:Addr}(h:s.heap.objs.size<=a):a∉X.fs:=fun hb=>by obtain⟨_,o,ho,_⟩:=I.ok.ou.mem hb;exact absurd (lt_of_lt_of_le (lt_size ho) (le_trans I.sz h)) (lt_irrefl _)
theorem Inv.Mp(I:Inv X pins σ H s):∀x c,X.env.cells.lookup x=some c->c≠X.env.locals:=fun x c e z=>by obtain⟨v,o,ho,hd⟩:=I.cell x c e;obtain⟨m,⟨o',es,ep,ho',hd',_⟩,_⟩:=I.loc;rw[z,ho']at ho;cases ho;rw[hd']at hd;cases hd
theorem Inv.ou(I:Inv X pins σ H s):s.heap.FunFrames X.base X.outer:=by
 have all:∀(l:List Env),(∀b∈frs l,b∈X.fs)->X.s₀.heap.FunFrames X.base l->s.heap.FunFrames X.base l:=by intro l;induction l with|nil=>intro _ _;trivial|cons env r ih=>intro hs hl;obtain⟨hk,⟨L,o,hf,hn,ho,hd⟩,hr⟩:=hl;have hL:L∈X.fs:=hs L (by unfold frs;rw[filterMap_cons,hf];exact mem_cons_self);obtain⟨sl,e⟩:=I.base.slot L o ho (I.ok.Sg L hL) hL fun z=>I.ok.Jw L z hL;exact⟨hk,⟨L,_,hf,hn,e,hd⟩,ih (fun b hb=>hs b (by unfold frs;rw[filterMap_cons,hf];exact mem_cons_of_mem _ hb)) hr⟩
 exact all X.outer (fun _ hb=>hb) I.ok.ou
theorem Inv.stack(I:Inv X pins σ H s):s.heap.FunFrames X.base X.stack:=by
 rcases I.ok.Yt with e|⟨e,hf⟩;.rw[e];exact I.ou
 .rw[e];obtain⟨m,hn,_⟩:=I.loc;refine .cons (by rw[I.ok.kind];decide) hf hn ?_ I.ou;exact Heap.get?_none_of_le (le_trans I.ok.K1 I.ok.above)
theorem Inv.sS(I:Inv X pins σ H s):∀b∈frs X.stack,b∈X.env.locals::X.fs:=fun b hb=>by
 rcases I.ok.Yt with e|⟨e,hf⟩;.rw[e]at hb;exact mem_cons_of_mem _ hb
 .rw[e]at hb;unfold frs at hb;rw[filterMap_cons,hf]at hb;exact hb
theorem Inv.yM(I:Inv X pins σ H s):∀b∈frs X.stack,H b=none:=fun b hb=>by
 rcases mem_cons.mp (I.sS b hb)with e|hb;.rw[e];exact I.free
 .obtain⟨_,o,ho,_⟩:=I.ok.ou.mem hb;exact I.base.free b o ho (I.ok.Sg b hb) fun z=>I.ok.Jw b z hb
theorem Inv.step{g':Array GenState}{t':Nat}{d':Drawn}{ch:List Addr}(I:Inv X pins σ H s)(hch:∀b∈ch,(b∈X.ex\/X.s₀.heap.objs.size<=b)/\b≠X.env.locals/\(∀x c,X.env.cells.lookup x=some c->c≠b)/\∀p∈X.pn++pins,p.1≠b)(keep:∀b o,b≠X.env.locals->b∉X.fs->b∉ch->s.heap.get? b=some o->H b=none->h'.get? b=some o)(slot:∀b o,b≠X.env.locals->b∈X.fs->b∉ch->s.heap.get? b=some o->H b=none->∃sl,h'.get? b=some {o with slots:=sl})(free:∀b o,b∉ch->s.heap.get? b=some o->H b=none->H' b=none)(there:∀b o,b∉ch->s.heap.get? b=some o->∃o',h'.get? b=some o')(tups:∀b xs,H b=some (.tup xs)->H' b=some (.tup xs))(sV:∀b o u,H b=some (.cG o u)->H' b=some (.cG o u))(u6:∀b ps,H b=some (.Qt ps)->∃more,H' b=some (.Qt (ps++more)))(ns:∀m,s.heap.Ns X.env.locals m->h'.Ns X.env.locals m)(hok:kY X.prog X.w H' h')(hg:AllBare g'):Inv X pins σ H' {s with heap:=h',gens:=g',drawn:=d',toks:=t'}:=by
 have neL:∀b o,X.s₀.heap.get? b=some o->b≠X.env.locals:=fun b o e=>ne_of_lt (lt_of_lt_of_le (lt_size e) I.ok.above);have Yu:∀b o,X.s₀.heap.get? b=some o->b∉X.ex->b∉ch:=fun b o e hx hb=>by
  rcases(hch b hb).1 with z|z;.exact hx z
  .exact absurd (lt_of_lt_of_le (lt_size e) z) (lt_irrefl _)
 have cellK:∀x c,X.env.cells.lookup x=some c->∀v,s.heap.IsCell c v->h'.IsCell c v:=fun x c e v⟨o,ho,hd⟩=>by
  have K3:c∉ch:=fun z=>(hch c z).2.2.1 x c e rfl;by_cases hc:c∈X.fs;.obtain⟨sl,q⟩:=slot c o (I.Mp x c e) hc K3 ho (I.jy x c e);exact⟨_,q,hd⟩
  .exact⟨o,keep c o (I.Mp x c e) hc K3 ho (I.jy x c e),hd⟩
 refine⟨I.ok,I.os,hg,⟨fun b o e n hb hx=>?_,fun b o e n hb hx=>?_,fun b o e n hx=>?_,fun b o e hx=>?_,fun b xs e=>tups b xs (I.base.tups b xs e),fun b o xs e=>sV b o xs (I.base.sV b o xs e),fun b ps e=>?_⟩,?_,fun x c e=>?_,?_,fun x c e=>?_,fun p hp=>?_,hok,I.len⟩;.exact keep b o (neL b o e) hb (Yu b o e hx) (I.base.keep b o e n hb hx) (I.base.free b o e n hx)
 .obtain⟨sl,e1⟩:=I.base.slot b o e n hb hx;obtain⟨sl',e2⟩:=slot b _ (neL b o e) hb (Yu b o e hx) e1 (I.base.free b o e n hx);exact⟨sl',e2⟩
 .obtain⟨o',e1⟩:=I.base.there b o e hx;exact free b o' (Yu b o e hx) e1 (I.base.free b o e n hx)
 .obtain⟨o',e1⟩:=I.base.there b o e hx;exact there b o' (Yu b o e hx) e1
 .obtain⟨m1,e1⟩:=I.base.u6 b ps e;obtain⟨m2,e2⟩:=u6 b _ e1;exact⟨m1++m2,by rw[e2,Array.append_assoc]⟩
 . obtain⟨m,hn,hl⟩:=I.loc;refine⟨m,ns m hn,fun i x v e1 e2 e3=>?_⟩;obtain⟨u,r,l⟩:=hl i x v e1 e2 e3;refine⟨u,r,?_⟩;rcases l with l|⟨k,c,e,z⟩;.exact .inl l
   .exact .inr ⟨k,c,e,cellK x c e _ z⟩
 .obtain⟨v,z⟩:=I.cell x c e;exact⟨v,cellK x c e v z⟩
 .obtain⟨m,⟨o,_,_,ho,_⟩,_⟩:=I.loc;exact free _ o (fun z=>(hch _ z).2.1 rfl) ho I.free
 .obtain⟨v,o,ho,hd⟩:=I.cell x c e;exact free c o (fun z=>(hch c z).2.2.1 x c e rfl) ho (I.jy x c e)
 .obtain⟨e,n,ne,nf,d⟩:=I.pin p hp;have K3:p.1∉ch:=fun z=>(hch p.1 z).2.2.2 p hp rfl;exact⟨keep p.1 p.2 ne nf K3 e n,free p.1 p.2 K3 e n,ne,nf,d⟩
theorem Inv.un{t':Nat}(I:Inv X pins σ H s)(u:Un X.fs [] H H' s.heap h')(hok:kY X.prog X.w H' h'):Inv X pins σ H' {s with heap:=h',toks:=t'}:=by obtain⟨m,⟨o,es,ep,ho,r⟩,_⟩:=id I.loc;obtain⟨sl,hL⟩:=u.any ho I.free (by simp);exact I.step (g':=s.gens) (d':=s.drawn) (ch:=[]) (fun _ z=>nomatch z) (fun b o _ hb _ e n=>u.keep b o e n hb (by simp)) (fun b o _ hb _ e n=>u.slot b o e n hb (by simp)) (fun b o _ e n=>u.free b o e n (by simp)) (fun b o _ e=>u.there b o e (by simp)) u.tups u.sV u.u6 (fun m' hm=>by obtain⟨o',es',ep',ho',r'⟩:=hm;rw[ho]at ho';cases ho';exact⟨_,es',ep',hL,r'⟩) hok I.bare
theorem Inv.call{g':Array GenState}{t':Nat}{d':Drawn}{ch:List Addr}(I:Inv X pins σ H s)(u:Un (frs X.stack) ch H H' s.heap h')(hok:kY X.prog X.w H' h')(hg:AllBare g')(hch:∀b∈ch,(b∈X.ex\/X.s₀.heap.objs.size<=b)/\b≠X.env.locals/\(∀x c,X.env.cells.lookup x=some c->c≠b)/\∀p∈X.pn++pins,p.1≠b):Inv X pins σ H' {s with heap:=h',gens:=g',drawn:=d',toks:=t'}:=by obtain⟨m,⟨o,es,ep,ho,r⟩,_⟩:=id I.loc;obtain⟨sl,hL⟩:=u.any ho I.free fun z=>(hch _ z).2.1 rfl;exact I.step (ch:=ch) hch (fun b o hL hb hc e n=>u.keep b o e n (fun z=>(mem_cons.mp (I.sS b z)).elim hL hb) hc) (fun b o _ _ hc e n=>u.any e n hc) (fun b o hc e n=>u.free b o e n hc) (fun b o hc e=>u.there b o e hc) u.tups u.sV u.u6 (fun m' hm=>by obtain⟨o',es',ep',ho',r'⟩:=hm;rw[ho]at ho';cases ho';exact⟨_,es',ep',hL,r'⟩) hok hg
theorem Inv.turned{t':Nat}{it:Addr}(I:Inv X pins σ H s)(k:∀b o,b≠it->s.heap.get? b=some o->h'.get? b=some o)(hn:H it=none)(hL:it≠X.env.locals)(h1:it∈X.ex\/X.s₀.heap.objs.size<=it)(h2:∀x c,X.env.cells.lookup x=some c->c≠it)(h3:∀p∈X.pn++pins,p.1≠it):Inv X pins σ H {s with heap:=h',toks:=t'}:=by
 have nit:∀b u,H b=some u->b≠it:=fun b u e z=>by rw[z,hn]at e;cases e
 refine I.step (g':=s.gens) (d':=s.drawn) (ch:=[it]) (fun b hb=>?_) (fun b o _ _ hc e _=>k b o (fun z=>hc (by simp[z])) e) (fun b o _ _ hc e _=>⟨o.slots,k b o (fun z=>hc (by simp[z])) e⟩) (fun _ _ _ _ n=>n) (fun b o hc e=>⟨o,k b o (fun z=>hc (by simp[z])) e⟩) (fun _ _ e=>e) (fun _ _ _ e=>e) (fun b ps e=>⟨#[],by rw[e];simp⟩) (fun m hm=>?_) (fun b u e=>?_) I.bare
 . have e:b=it:=by simpa using hb
   subst e;exact⟨h1,hL,h2,h3⟩
 .obtain⟨o,es,ep,ho,r⟩:=hm;exact⟨o,es,ep,k _ o (Ne.symm hL) ho,r⟩
 . refine(I.hok b u e).stay (fun c v hc q=>k c v ?_ q) (fun _ q=>q) fun _ _ q=>q;rcases hc with z|z;.rw[z];exact nit b u e
   .exact nit c _ z
theorem Inv.tok(I:Inv X pins σ H s)(t:Nat):Inv X pins σ H {s with toks:=t}:=I.un (h':=s.heap) (t':=t) Un.refl I.hok
theorem Inv.kept{t':Nat}(I:Inv X pins σ H s)(k:∀b u,s.heap.get? b=some u->h'.get? b=some u):Inv X pins σ H {s with heap:=h',toks:=t'}:=I.un (Un.kept k) (I.hok.kept k)
theorem Inv.laid{a:Addr}{o:HO}{t':Nat}(I:Inv X pins σ H s)(k:∀b u,s.heap.get? b=some u->h'.get? b=some u)(hp:s.heap.objs.size<=a)(new:bw X.prog X.w (upd H a o) h' a o):Inv X pins σ (upd H a o) {s with heap:=h',toks:=t'}:=I.un (Un.laid k hp (I.hok.fresh hp)) (I.hok.laid k hp new)
theorem Inv.write{x e:Addr}{o:HO}{t':Nat}(I:Inv X pins σ H s)(mu:Vm (H x))(he:e=x\/H e=some (.own x))(k:∀b u,b≠e->s.heap.get? b=some u->h'.get? b=some u)(heo:∃u,h'.get? e=some u)(new:bw X.prog X.w (upd H x o) h' x o):Inv X pins σ (upd H x o) {s with heap:=h',toks:=t'}:=I.un (Un.write mu he k heo) (I.hok.write mu he k heo new)
theorem Inv.yL{K4:List (Addr×Obj)}(I:Inv X pins σ H s)(h:∀p∈K4,s.heap.get? p.1=some p.2/\H p.1=none/\p.1≠X.env.locals/\p.1∉X.fs/\∀v,p.2.data≠.cell v):Inv X K4 σ H s:=⟨I.ok,I.os,I.bare,I.base,I.loc,I.cell,I.free,I.jy,fun p hp=>(mem_append.mp hp).elim (fun z=>I.pin p (List.mem_append_left _ z)) (h p),I.hok,I.len⟩
theorem tH{N:List Str}(hN:N.Nodup){i j:Nat}{x:Str}(a:N[i]?=some x)(b:N[j]?=some x):i=j:=by obtain⟨h1,e1⟩:=List.getElem?_eq_some_iff.mp a;obtain⟨h2,e2⟩:=List.getElem?_eq_some_iff.mp b;exact(List.getElem_inj hN).mp (e1.trans e2.symm)
theorem qD{M:Model}{A:Around}{E:Value->Shared->Prop}{i:Nat}{x:Str}{v:V}{u:Value}{Q:Unit->Shared->Prop}(I:Inv X pins σ H s)(hN:X.N.Nodup)(hi:X.N[i]?=some x)(hx:Loc X.env.scope x)(r:RelV v u)(h:∀s',Inv X pins (σ.set i (some v)) H s'->(∃a,SameBut a s.heap s'.heap/\(a=X.env.locals\/X.env.cells.lookup x=some a))->Q () s')(hf:X.fn x=true\/X.env.scope.names.lookup x=some .local:=by first|exact .inl rfl|exact .inr rfl|assumption):wpAny M A (storeName X.env x u) Q E s:=by
 obtain⟨m,hn,hl⟩:=id I.loc;have hcls:(X.env.scope.kind==.class||(X.env.scope.kind==.module&&X.env.locals !=X.env.globals))=false:=by rw[I.ok.kind];rfl
 have hiσ:i<σ.length:=by rw[I.len];exact(List.getElem?_eq_some_iff.mp hi).1
 have Mp:=I.Mp;have tracked:∀{a:Addr}{h':Heap},(∃o,s.heap.get? a=some o/\H a=none)->SameBut a s.heap h'->kY X.prog X.w H h':=fun{a h'}ha hs b ob e=>by
  obtain⟨_,_,hfree⟩:=ha;refine(I.hok b ob e).stay (fun c w' hc q=>(hs.2 c ?_).trans q) (fun _ q=>q) fun _ _ q=>q;rintro rfl;rcases hc with rfl|hc;.rw[hfree]at e;cases e
  .rw[hfree]at hc;cases hc
 rcases hx with hk|hk
 . refine wpAny_storeName_local hk hn (fun h' hn' hs=>?_) hcls;obtain⟨oL,_,_,hoL,_⟩:=id hn;refine h _ ⟨I.ok,I.os,I.bare,⟨fun b o e n hb hx=>?_,fun b o e n hb hx=>?_,I.base.free,fun b o e hx=>?_,I.base.tups,I.base.sV,I.base.u6⟩,⟨_,hn',fun j y v' e1 e2 e3=>?_⟩,fun y c e=>?_,I.free,I.jy,fun p hp=>?_,tracked ⟨oL,hoL,I.free⟩ hs,by simpa using I.len⟩ ⟨_,hs,.inl rfl⟩;.exact(hs.2 b (ne_of_lt (lt_of_lt_of_le (lt_size e) I.ok.above))).trans (I.base.keep b o e n hb hx)
   .obtain⟨sl,e1⟩:=I.base.slot b o e n hb hx;exact⟨sl,(hs.2 b (ne_of_lt (lt_of_lt_of_le (lt_size e) I.ok.above))).trans e1⟩
   .obtain⟨o',e1⟩:=I.base.there b o e hx;exact⟨o',(hs.2 b (ne_of_lt (lt_of_lt_of_le (lt_size e) I.ok.above))).trans e1⟩
   . by_cases hj:j=i;.subst hj;rw[hi]at e1;cases e1;rw[getElem?_set_self hiσ]at e2;cases e2;exact⟨u,r,.inl ⟨hk,by simp⟩⟩
     . rw[getElem?_set_ne (Ne.symm hj)]at e2;obtain⟨u',r',q⟩:=hl j y v' e1 e2 e3;refine⟨u',r',?_⟩;rcases q with⟨k,e⟩|⟨k,c,e,z⟩;.refine .inl ⟨k,?_⟩;have:y≠x:=fun e=>hj (tH hN e1 (e▸hi));simp[this,e]
       .exact .inr ⟨k,c,e,z.sameBut hs (Mp y c e)⟩
   .obtain⟨w',z⟩:=I.cell y c e;exact⟨w',z.sameBut hs (Mp y c e)⟩
   .obtain⟨e,n,ne,nf,d⟩:=I.pin p hp;exact⟨(hs.2 p.1 ne).trans e,n,ne,nf,d⟩
 . have hfn:X.fn x=true:=by
    rcases hf with z|z;.exact z
    .rw[z]at hk;cases hk
   obtain⟨c,hc⟩:=I.ok.has x (.inl hk);obtain⟨w',z⟩:=I.cell x c hc;refine wpAny_storeName_cell I.ok.kind hk hc z (fun h' hc' hs=>?_);obtain⟨oc,hoc,abC⟩:=id z;refine h {s with heap:=h'} ⟨I.ok,I.os,I.bare,⟨fun b o e n hb hx=>?_,fun b o e n hb hx=>?_,I.base.free,fun b o e hx=>?_,I.base.tups,I.base.sV,I.base.u6⟩,⟨m,hn.sameBut hs (Ne.symm (Mp x c hc)),fun j y v' e1 e2 e3=>?_⟩,fun y c' e=>?_,I.free,I.jy,fun p hp=>?_,tracked ⟨oc,hoc,I.jy x c hc⟩ hs,by simpa using I.len⟩ ⟨c,hs,.inr hc⟩;.exact(hs.2 b (ne_of_lt (lt_of_lt_of_le (lt_size e) (I.ok.cab x c hfn hc)))).trans (I.base.keep b o e n hb hx)
   .obtain⟨sl,e1⟩:=I.base.slot b o e n hb hx;exact⟨sl,(hs.2 b (ne_of_lt (lt_of_lt_of_le (lt_size e) (I.ok.cab x c hfn hc)))).trans e1⟩
   .obtain⟨o',e1⟩:=I.base.there b o e hx;exact⟨o',(hs.2 b (ne_of_lt (lt_of_lt_of_le (lt_size e) (I.ok.cab x c hfn hc)))).trans e1⟩
   . by_cases hj:j=i;.subst hj;rw[hi]at e1;cases e1;rw[getElem?_set_self hiσ]at e2;cases e2;exact⟨u,r,.inr ⟨.inl hk,c,hc,hc'⟩⟩
     . rw[getElem?_set_ne (Ne.symm hj)]at e2;obtain⟨u',r',q⟩:=hl j y v' e1 e2 e3;refine⟨u',r',?_⟩;rcases q with q|⟨k,c',e,z'⟩;.exact .inl q
       .refine .inr ⟨k,c',e,z'.sameBut hs ?_⟩;rintro rfl;exact hj (tH hN e1 (I.ok.inj _ _ _ e hc▸hi))
   . by_cases hcc:c'=c;.subst hcc;exact⟨_,hc'⟩
     .obtain⟨w2,z2⟩:=I.cell y c' e;exact⟨w2,z2.sameBut hs hcc⟩
   .obtain⟨e,n,ne,nf,d⟩:=I.pin p hp;refine⟨(hs.2 p.1 ?_).trans e,n,ne,nf,d⟩;intro q;rw[q,hoc]at e;have q':oc=p.2:=Option.some.inj e;exact d w' (by rw[<-q'];exact abC)
theorem oH{M:Model}{A:Around}{E:Value->Shared->Prop}{i:Nat}{x:Str}{v:V}{u:Value}{Q:Unit->Shared->Prop}(I:Inv X pins σ H s)(hN:X.N.Nodup)(hi:X.N[i]?=some x)(hx:Loc X.env.scope x)(r:RelV v u)(h:∀s',Inv X pins (σ.set i (some v)) H s'->Q () s')(hf:X.fn x=true\/X.env.scope.names.lookup x=some .local:=by first|exact .inl rfl|exact .inr rfl|assumption):wpAny M A (storeName X.env x u) Q E s:=qD I hN hi hx r (fun s' I' _=>h s' I') hf
end
abbrev XK:=Value->Option Addr->Hp->Prop
noncomputable abbrev St:=List (Option V)
abbrev VK:=V->Hp->Prop
abbrev TE:=St->Hp->VK->Prop
abbrev TT:=St->Hp->(Bool->Hp->Prop)->Prop
abbrev TA:=St->Hp->(List V->Hp->Prop)->Prop
structure Ends where
 nx:St->Hp->Prop
 rt:VK
 bk:St->Hp->Prop:=fun _ _=>False
 ct:St->Hp->Prop:=fun _ _=>False
abbrev TS:=Ends->St->Hp->Prop
inductive EP(X:Cx)(pins:List (Addr×Obj))(σ:St)(Q:VK)(u:Value)(s':Shared):Prop where|mk(v:V)(H':Hp)(q0:Inv X pins σ H' s')(q1:RelV v u)(q2:Q v H')
def TP(X:Cx)(pins:List (Addr×Obj))(σ:St)(Q:Bool->Hp->Prop)(b:Bool)(s':Shared):Prop:=∃H',Inv X pins σ H' s'/\Q b H'
inductive AP(X:Cx)(pins:List (Addr×Obj))(σ:St)(Q:List V->Hp->Prop)(us:List Value)(s':Shared):Prop where|mk(vs:List V)(H':Hp)(q0:Inv X pins σ H' s')(q1:Vals vs us)(q2:Q vs H')
def SP(X:Cx)(pins:List (Addr×Obj))(D:Ends)(f:Flow)(s':Shared):Prop:=match f with|.next=>∃σ' H',Inv X pins σ' H' s'/\D.nx σ' H'|.brk=>∃σ' H',Inv X pins σ' H' s'/\D.bk σ' H'|.cont=>∃σ' H',Inv X pins σ' H' s'/\D.ct σ' H'|.ret u=>∃v σ' H',Inv X pins σ' H' s'/\RelV v u/\D.rt v H'
def PE(X:Cx)(e:Expr)(t:TE):Prop:=∀(pins:List (Addr×Obj))(s:Shared)(σ:St)(H:Hp)(Q:VK),Inv X pins σ H s->t σ H Q->wpAny (model X.prog X.w) X.A (eval e X.env) (EP X pins σ Q) X.xe s
def PT(X:Cx)(e:Expr)(t:TT):Prop:=∀(pins:List (Addr×Obj))(s:Shared)(σ:St)(H:Hp)(Q:Bool->Hp->Prop),Inv X pins σ H s->t σ H Q->wpAny (model X.prog X.w) X.A (isTrue e X.env (eval e X.env)) (TP X pins σ Q) X.xe s
def PW(X:Cx)(e:Expr)(t:TT):Prop:=∀(whole:Sem Value)(pins:List (Addr×Obj))(s:Shared)(σ:St)(H:Hp)(Q:Bool->Hp->Prop),Inv X pins σ H s->t σ H Q->wpAny (model X.prog X.w) X.A (isTrue e X.env whole) (TP X pins σ Q) X.xe s
theorem PW.pt{X:Cx}{e:Expr}{t:TT}(h:PW X e t):PT X e t:=h _
def PA(X:Cx)(es:List Expr)(t:TA):Prop:=∀(pos:Pos)(pins:List (Addr×Obj))(s:Shared)(σ:St)(H:Hp)(Q:List V->Hp->Prop),Inv X pins σ H s->t σ H Q->wpAny (model X.prog X.w) X.A (spliced (backTo pos (starEach es X.env))) (AP X pins σ Q) X.xe s
def PS(X:Cx)(st:Stmt)(t:TS):Prop:=∀(pins:List (Addr×Obj))(s:Shared)(σ:St)(H:Hp)(D:Ends),Inv X pins σ H s->t D σ H->wpAny (model X.prog X.w) X.A (exec st X.env) (SP X pins D) X.xe s
def uf(X:Cx)(st:List Stmt)(t:TS):Prop:=∀(pins:List (Addr×Obj))(s:Shared)(σ:St)(H:Hp)(D:Ends),Inv X pins σ H s->t D σ H->wpAny (model X.prog X.w) X.A (execs st X.env) (SP X pins D) X.xe s
theorem bL{α:Type}{t:Sem α}{Q Q':α->Shared->Prop}{M:Model}{A:Around}{E:Value->Shared->Prop}{s:Shared}(h:wpAny M A t Q E s)(hQ:∀a s,Q a s->Q' a s):wpAny M A t Q' E s:=wpAny_mono h hQ fun _ _ x=>x
section
variable{X:Cx}
def M8(i:Nat):TE:=fun σ H Q=>∃v,σ[i]?=some (some v)/\Q v H
def tC(v:V):TE:=fun _ H Q=>Q v H
theorem dN{i:Nat}{x:Str}{pos:Pos}(hN:X.N[i]?=some x)(hv:tu X.env.scope x)(hd:(x==("__debug__":Str))=false:=by decide)(hcd:(x==("__classdict__":Str))=false:=by decide):PE X (.Name x pos) (M8 i):=by
 intro pins s σ H Q I h;obtain⟨v,e,h⟩:=h;obtain⟨m,hn,hl⟩:=I.loc;obtain⟨u,r,l⟩:=hl i x v hN e hv;have fin:EP X pins σ Q u s:=⟨v,H,I,r,h⟩;rcases l with⟨hk,hm⟩|⟨hk,c,hc,hcell⟩;.exact wpAny_Name (wpAny_loadName_local I.ok.kind hk hn hm fin) hd
 . rcases hk with hk|hk;.exact wpAny_Name (wpAny_loadName_cell I.ok.kind hk hc hcell fin) hd
   .exact wpAny_Name (wpAny_loadName_free I.ok.kind hk hc hcell fin hcd) hd
theorem wy{i j pos}:PE X (.Constant (.int i) j pos) (tC (.int i)):=fun _ _ _ H _ I h=>wpAny_Constant_int ⟨.int i,H,I.tok _,⟨_,rfl⟩,h⟩
theorem TJ{b j pos}:PE X (.Constant (.bool b) j pos) (tC (.bl b)):=fun _ _ _ H _ I h=>Constant_bool ⟨.bl b,H,I,rfl,h⟩
theorem OD{j pos}:PE X (.Constant .none j pos) (tC .non):=fun _ _ _ H _ I h=>Constant_none ⟨.non,H,I,rfl,h⟩
def Gl(X:Cx)(x:Str):Prop:=X.env.kindOf x=some .globalImplicit
theorem GP{E:Value->Shared->Prop}{pins:List (Addr×Obj)}{s:Shared}{σ:St}{H:Hp}{x:Str}{u:Value}{pos:Pos}{Q:Value->Shared->Prop}(I:Inv X pins σ H s)(hg:Gl X x)(hm:X.mg x=some u)(h:Q u s)(hd:(x==("__debug__":Str))=false:=by decide):wpAny (model X.prog X.w) X.A (eval (.Name x pos) X.env) Q E s:=Calls.Name_function_global I.ok.kind hg (Calls.loadGlobal_global (by rw[I.ok.glob];exact I.mod.glob.keeps I.bk) hm h) hd
theorem lH{E:Value->Shared->Prop}{pins:List (Addr×Obj)}{s:Shared}{σ:St}{H:Hp}{x:Str}{u:Value}{pos:Pos}{Q:Value->Shared->Prop}(I:Inv X pins σ H s)(hg:Gl X x)(hm:X.mg x=none)(hv:bootBuiltins x=some u)(h:Q u s)(hn:x≠"__name__":=by decide)(hd:(x==("__debug__":Str))=false:=by decide):wpAny (model X.prog X.w) X.A (eval (.Name x pos) X.env) Q E s:=by obtain⟨mb,h1,h2⟩:=I.mod.blt;exact Calls.Name_function_global I.ok.kind hg (Calls.loadGlobal_builtin (by rw[I.ok.glob];exact I.mod.glob.keeps I.bk) hm (by rw[I.ok.blt];exact h1.keeps I.bk) ((h2 x hn).trans hv) h) hd
variable{a b:Expr}{ta tb:TE}{pos:Pos}
def PC(X:Cx)(op:CmpOp)(a b:Expr)(t:TE):Prop:=∀(pins:List (Addr × Obj))(s:Shared)(σ:St)(H:Hp)(Q:VK),Inv X pins σ H s->t σ H Q->wpAny (model X.prog X.w) X.A (eval a X.env) (fun v s₁=>wpAny (model X.prog X.w) X.A (eval b X.env) (fun u s₂=>wpAny (model X.prog X.w) X.A (compareOp op v u) (EP X pins σ Q) X.xe s₂) X.xe s₁) X.xe s
def tB(t:TE):TT:=fun σ H Q=>t σ H fun x H1=>∃c,x=.bl c/\Q c H1
theorem NZ{op:CmpOp}{t:TE}(h:PC X op a b t)(h1:behindInMarks op b=false:=by first|exact VR _ (by decide) (by decide)|rfl):PT X (.Compare a [op] [b] pos) (tB t):=by intro pins s σ H Q I hw;refine wpAny_isTrue_Compare1 (bL (h pins s σ H _ I hw) fun v s1 h1=>bL h1 fun u s2 h2=>bL h2 fun c s3⟨x,H1,I1,r1,q1⟩=>?_) h1;obtain⟨d,rfl,q⟩:=q1;cases r1;exact wpAny_truthy_bool ⟨H1,I1,q⟩
theorem M6{e:Expr}{t:TE}(h:PE X e t)(he:∀whole,isTrue e X.env whole=(do let v<-whole;standAt e.pos;holding [v] (truthy v)):=by intro _;rfl):PT X e (tB t):=by intro pins s σ H Q I hw;refine isTrue_plain (bL (h pins s σ H _ I hw) fun v s1⟨x,H1,I1,r1,q1⟩=>?_) (he _);obtain⟨d,rfl,q⟩:=q1;cases r1;exact wpAny_truthy_bool ⟨H1,I1,q⟩
variable{tA tB':TT}{rest:List Expr}
def tOr(t u:TT):TT:=fun σ H Q=>t σ H fun c H1=>if c=true then Q true H1 else u σ H1 Q
theorem Pz(ha:PT X a tA):PW X (.BoolOp .Or [a] pos) tA:=by intro wh pins s σ H Q I h;refine isTrue_or (bL (ha pins s σ H Q I h) fun c s1 e=>?_);cases c with|false=>exact isTrue_or_nil e|true=>exact e
theorem T3(ha:PT X a tA)(hb:PW X (.BoolOp .Or (b::rest) pos) tB'):PW X (.BoolOp .Or (a::b::rest) pos) (tOr tA tB'):=by intro wh pins s σ H Q I h;refine isTrue_or (bL (ha pins s σ H _ I h) fun c s1⟨H1,I1,q1⟩=>?_);cases c with|true=>exact⟨H1,I1,q1⟩|false=>exact hb wh pins s1 σ H1 Q I1 q1
def tIf(t:TT)(ta tb:TE):TE:=fun σ H Q=>t σ H fun c H1=>if c=true then ta σ H1 Q else tb σ H1 Q
theorem Ec{c:Expr}(hc:PT X c tA)(ha:PE X a ta)(hb:PE X b tb):PE X (.IfExp c a b pos) (tIf tA ta tb):=by intro pins s σ H Q I h;refine wpAny_IfExp (bL (hc pins s σ H _ I h) fun d s1⟨H1,I1,q1⟩=>?_);cases d with|true=>exact ha pins s1 σ H1 Q I1 q1|false=>exact hb pins s1 σ H1 Q I1 q1
end
def dM(K:PySem.W.Frag)(H:Hp)(a:Addr)(xs:List V):Prop:=Rd H a (.lst xs)\/∃(o:Obj)(its:Array Value)(n:Nat),K.lookup a=some o/\o.cls=.type "list"/\o.dict=none/\o.data=.seq its n/\its.size<=sizeLine/\Vals xs its.toList
def gO(K:PySem.W.Frag)(H:Hp)(a:Addr)(xs:List V):Prop:=Rd H a (.tup xs)\/∃(o:Obj)(its:Array Value)(n:Nat),K.lookup a=some o/\o.cls=.type "tuple"/\o.data=.seq its n/\its.size<=sizeLine/\Vals xs its.toList
noncomputable def aaf:Value->Option V|.none=>some .non|.bool b=>some (.bl b)|.int i _=>some (.int i)|.str x _=>some (.str x)|.bytes b _=>some (.byt b)|.float b _=>some (.flt b)|.ref a=>some (.ref a)|.type n=>some (.ty n)|_=>none
theorem RelV.abs{x:V}{u:Value}(r:RelV x u):aaf u=some x:=by cases x with|non=>cases r;rfl|bl _=>cases r;rfl|int _=>obtain⟨t,rfl⟩:=r;rfl|str _=>obtain⟨t,rfl⟩:=r;rfl|byt _=>obtain⟨t,rfl⟩:=r;rfl|flt _=>obtain⟨t,rfl⟩:=r;rfl|ref _=>cases r;rfl|ty _=>cases r;rfl
theorem RelV.inj{x y:V}{u:Value}(r:RelV x u)(q:RelV y u):x=y:=Option.some.inj (r.abs.symm.trans q.abs)
theorem Vals.inj:∀{xs ys:List V}{us:List Value},Vals xs us->Vals ys us->xs=ys|_,_,_,.nil,.nil=>rfl|_,_,_,.cons r t,.cons r' t'=>by rw[r.inj r',Vals.inj t t']
section
variable{X:Cx}{pins:List (Addr×Obj)}{σ:St}{H:Hp}{s:Shared}{a:Addr}{xs ys:List V}
theorem dM.of{K:PySem.W.Frag}(h:H a=some (.lst xs)):dM K H a xs:=.inl (.inl h)
theorem gO.of{K:PySem.W.Frag}(h:H a=some (.tup xs)):gO K H a xs:=.inl (.inl h)
theorem Inv.list(I:Inv X pins σ H s)(h:dM X.K H a xs):∃its:List Value,Vals xs its/\PlainL s.heap a its.toArray/\xs.length<=sizeLine:=by
 rcases h with h|⟨o,its,n,hk,hc,hd,hs,hz,r⟩;.obtain⟨z,its,n,r,e⟩:=h.ok I.hok;exact⟨its,r,⟨_,n,e,rfl,rfl,rfl⟩,z⟩
 .refine⟨its.toList,r,⟨o,n,I.Rp a o hk,hc,hd,by simpa using hs⟩,?_⟩;have e:=r.length;simp only[length_toList]at e;omega
theorem Inv.tuple(I:Inv X pins σ H s)(h:gO X.K H a xs):∃its:List Value,Vals xs its/\IsTup s.heap a its.toArray/\xs.length<=sizeLine:=by
 rcases h with h|⟨o,its,n,hk,hc,hs,hz,r⟩;.obtain⟨z,its,r,p⟩:=h.ok I.hok;exact⟨its,r,p,z⟩
 .refine⟨its.toList,r,⟨o,I.Rp a o hk,hc,n,by simpa using hs⟩,?_⟩;have e:=r.length;simp only[length_toList]at e;omega
theorem Inv.pF(I:Inv X pins σ H s)(h:dM X.K H a xs)(h':dM X.K H a ys):xs=ys:=by
 obtain⟨its,r,⟨o,n,e,_,_,d⟩,_⟩:=I.list h;obtain⟨its',r',⟨o',n',e',_,_,d'⟩,_⟩:=I.list h';rw[e]at e';cases e';rw[d]at d';injection d' with d1 _;have:its=its':=by simpa using congrArg toList d1
 subst this;exact r.inj r'
theorem Inv.lM(I:Inv X pins σ H s)(h:gO X.K H a xs)(h':gO X.K H a ys):xs=ys:=by
 obtain⟨its,r,⟨o,e,_,n,d⟩,_⟩:=I.tuple h;obtain⟨its',r',⟨o',e',_,n',d'⟩,_⟩:=I.tuple h';rw[e]at e';cases e';rw[d]at d';injection d' with d1 _;have:its=its':=by simpa using congrArg toList d1
 subst this;exact r.inj r'
end
noncomputable abbrev Cx.wish(X:Cx)(E:Value->Shared->Prop):Cx:={X with xe:=E}
noncomputable abbrev Cx.T6(X:Cx):Cx:=X.wish fun _ _=>False
theorem Cx.Ok.wish{X:Cx}(ok:X.Ok)(E:Value->Shared->Prop):(X.wish E).Ok:=⟨ok.mod,ok.kind,ok.glob,ok.blt,ok.above,ok.inj,ok.has,ok.cab,ok.hd,ok.frames,ok.Yt,ok.exf,ok.bs,ok.K1,ok.FT,ok.Jw,ok.ou,ok.Sg⟩
theorem Cx.Ok.iK{X:Cx}{E:Value->Shared->Prop}(ok:(X.wish E).Ok):X.Ok:=⟨ok.mod,ok.kind,ok.glob,ok.blt,ok.above,ok.inj,ok.has,ok.cab,ok.hd,ok.frames,ok.Yt,ok.exf,ok.bs,ok.K1,ok.FT,ok.Jw,ok.ou,ok.Sg⟩
section
variable{X:Cx}{pins:List (Addr×Obj)}{σ:St}{H:Hp}{s:Shared}{E:Value->Shared->Prop}
theorem Inv.wish(I:Inv X pins σ H s)(E:Value->Shared->Prop):Inv (X.wish E) pins σ H s:=⟨I.ok.wish E,I.os,I.bare,I.base,I.loc,I.cell,I.free,I.jy,I.pin,I.hok,I.len⟩
theorem Inv.iK(I:Inv (X.wish E) pins σ H s):Inv X pins σ H s:=⟨I.ok.iK,I.os,I.bare,I.base,I.loc,I.cell,I.free,I.jy,I.pin,I.hok,I.len⟩
theorem SP.iK{D:Ends}{f:Flow}{s':Shared}(h:SP (X.wish E) pins D f s'):SP X pins D f s':=by cases f with|next=>obtain⟨σ',H',I,q⟩:=h;exact⟨σ',H',I.iK,q⟩|brk=>obtain⟨σ',H',I,q⟩:=h;exact⟨σ',H',I.iK,q⟩|cont=>obtain⟨σ',H',I,q⟩:=h;exact⟨σ',H',I.iK,q⟩|ret u=>obtain⟨v,σ',H',I,r,q⟩:=h;exact⟨v,σ',H',I.iK,r,q⟩
theorem uf.T6{st:List Stmt}{t:TS}(h:uf X.T6 st t):uf X st t:=fun pins s σ H D I hw=>wpAny_mono (h pins s σ H D (I.wish _) hw) (fun _ _ q=>q.iK) fun _ _ z=>False.elim z
end
section
variable{X:Cx}{st:Stmt}{rest:List Stmt}{t u:TS}{e:Expr}{te:TE}{pos:Pos}
def U8:TS:=fun D σ H=>D.nx σ H
def aby(t u:TS):TS:=fun D σ H=>t {D with nx:=u D} σ H
theorem yJ:uf X [] U8:=fun _ _ σ H _ I h=>wpAny_execs_nil ⟨σ,H,I,h⟩
theorem kJ(h1:PS X st t)(h2:uf X rest u):uf X (st::rest) (aby t u):=by intro pins s σ H D I h;refine wpAny_execs_cons (bL (h1 pins s σ H {D with nx:=u D} I h) fun f s1 q=>?_);cases f with|next=>obtain⟨σ',H',I',q⟩:=q;exact h2 pins s1 σ' H' D I' q|ret v=>exact q|brk=>exact q|cont=>exact q
theorem Inv.quiet{pins:List (Addr×Obj)}{σ:St}{H:Hp}{s:Shared}(I:Inv X pins σ H s):interactive X.env=false:=by simp[interactive,I.ok.kind]
def Vu(te:TE):TS:=fun D σ H=>te σ H fun _ H1=>D.nx σ H1
theorem rG(he:PE X e te)(hs:swapsWith e none pos.line X.env=pure false:=by rfl):PS X (.Expr e pos) (Vu te):=by intro pins s σ H D I h;exact wpAny_Expr_any (bL (he pins s σ H _ I h) fun v s1⟨x,H1,I1,r1,q1⟩=>⟨σ,H1,I1,q1⟩) I.quiet hs
def ZJ(te:TE):TS:=fun D σ H=>te σ H D.rt
theorem Fg(he:PE X e te):PS X (.Return (some e) pos) (ZJ te):=by intro pins s σ H D I h;exact wpAny_Return_some (bL (he pins s σ H _ I h) fun v s1⟨x,H1,I1,r1,q1⟩=>⟨x,σ,H1,I1,r1,q1⟩)
def aaZ(c:TT)(t u:TS):TS:=fun D σ H=>c σ H fun b H1=>if b=true then t D σ H1 else u D σ H1
theorem J3{c:Expr}{a b:List Stmt}{tc:TT}(hc:PT X c tc)(ha:uf X a t)(hb:uf X b u):PS X (.If c a b pos) (aaZ tc t u):=by intro pins s σ H D I h;refine wpAny_If (bL (hc pins s σ H _ I h) fun d s1⟨H1,I1,q1⟩=>?_);cases d with|true=>exact ha pins s1 σ H1 D I1 q1|false=>exact hb pins s1 σ H1 D I1 q1
def N6:TS:=fun _ _ _=>False
theorem Ek:PS X st N6:=fun _ _ _ _ _ _ h=>h.elim
end
abbrev TG:=V->St->Hp->(St->Hp->Prop)->Prop
abbrev Bl:=List V->St->Hp->(St->Hp->Prop)->Prop
def PG(X:Cx)(target:Expr)(t:TG):Prop:=∀(pins:List (Addr × Obj))(s:Shared)(σ:St)(H:Hp)(v:V)(u:Value)(Q:St->Hp->Prop),Inv X pins σ H s->RelV v u->t v σ H Q->wpAny (model X.prog X.w) X.A (assign target X.env u) (fun _ s'=>∃σ' H',Inv X pins σ' H' s'/\Q σ' H') X.xe s
def W0(X:Cx)(ts:List Expr)(t:Bl):Prop:=∀(pins:List (Addr × Obj))(s:Shared)(σ:St)(H:Hp)(vs:List V)(us:List Value)(Q:St->Hp->Prop),Inv X pins σ H s->Vals vs us->t vs σ H Q->wpAny (model X.prog X.w) X.A (assignInOrder ((assignEach ts X.env).map (·.2)) us) (fun _ s'=>∃σ' H',Inv X pins σ' H' s'/\Q σ' H') X.xe s
abbrev Ck:=V->V->V->Hp->(Hp->Prop)->Prop
def Pj(X:Cx)(t:Ck):Prop:=∀(pins:List (Addr × Obj))(s:Shared)(σ:St)(H:Hp)(o i v:V)(ov iv u:Value)(Q:Hp->Prop),Inv X pins σ H s->RelV o ov->RelV i iv->RelV v u->t o i v H Q->wpAny (model X.prog X.w) X.A (setItem ov iv u) (fun _ s'=>∃H',Inv X pins σ H' s'/\Q H') X.xe s
abbrev QK:=V->V->Hp->VK->Prop
def J2(X:Cx)(op:Operator)(t:QK):Prop:=∀(pins:List (Addr × Obj))(s:Shared)(σ:St)(H:Hp)(x y:V)(v u:Value)(Q:VK),Inv X pins σ H s->RelV x v->RelV y u->t x y H Q->wpAny (model X.prog X.w) X.A (inplaceOp op v u) (EP X pins σ Q) X.xe s
section
variable{X:Cx}{pos:Pos}
def iw(i:Nat):TG:=fun v σ H Q=>Q (σ.set i (some v)) H
theorem aK{i:Nat}{x:Str}(hN:X.N.Nodup)(hi:X.N[i]?=some x)(hx:Loc X.env.scope x)(hf:X.fn x=true\/X.env.scope.names.lookup x=some .local:=by first|exact .inl rfl|exact .inr rfl|assumption):PG X (.Name x pos) (iw i):=by intro pins s σ H v u Q I r h;exact wpAny_assign_Name (oH I hN hi hx r (fun s' I'=>⟨_,H,I',h⟩) hf)
def Ly:Bl:=fun vs σ H Q=>vs=[]/\Q σ H
def Dl(t:TG)(u:Bl):Bl:=fun vs σ H Q=>∃v r,vs=v::r/\t v σ H fun σ' H'=>u r σ' H' Q
theorem cU:W0 X [] Ly:=by intro pins s σ H vs us Q I r h;obtain⟨e,h⟩:=h;subst e;cases r;exact assignInOrder_nil ⟨σ,H,I,h⟩
theorem aP{e:Expr}{es:List Expr}{t:TG}{u:Bl}(h1:PG X e t)(h2:W0 X es u)(hs:(assignEach (e::es) X.env).map (·.2)=assign e X.env::(assignEach es X.env).map (·.2):=by rfl):W0 X (e::es) (Dl t u):=by intro pins s σ H vs us Q I r h;obtain⟨v,vr,e1,h⟩:=h;subst e1;cases r with|cons r rr=>rw[hs];refine assignInOrder_cons (bL (h1 pins s σ H _ _ _ I r h) fun _ s1⟨σ1,H1,I1,q1⟩=>?_);exact h2 pins s1 σ1 H1 _ _ Q I1 rr q1
def Nr(K:PySem.W.Frag)(n:Nat)(t:Bl):TG:=fun v σ H Q=>∃a xs,v=.ref a/\gO K H a xs/\xs.length=n/\t xs σ H Q
theorem eG{es:List Expr}{k:Nat}{t:Bl}{n:Nat}(hc:X.calm=true)(h:W0 X es t)(hn:(assignEach es X.env).length=n:=by rfl)(hst:(assignEach es X.env).findIdx? (·.1)=none:=by rfl):PG X (.Tuple es k pos) (Nr X.K n t):=by intro pins s σ H v u Q I r hw;obtain⟨a,xs,e1,hq,hl,hw⟩:=hw;subst e1;cases r;obtain⟨its,rv,ht,hz⟩:=I.tuple hq;refine assign_Tuple_tuple (I.ok.hd hc) ht (by simp[hn,<-hl,rv.length]) hst fun h' hx=>?_;have I1:Inv X pins σ H {s with heap:=h'}:=I.kept (t':=s.toks) fun b o e=>hx b o (ne_of_lt (lt_size e)) e;exact h pins _ σ H xs _ Q I1 (by simpa using rv) hw
def aa9(to ti:TE)(t:Ck):TG:=fun v σ H Q=>to σ H fun o H1=>ti σ H1 fun i H2=>t o i v H2 fun H3=>Q σ H3
theorem Nf{o i:Expr}{to ti:TE}{t:Ck}(ho:PE X o to)(hi:PE X i ti)(hs:Pj X t)(ha:∀ v,assign (.Subscript o i pos) X.env v=(do
  let ov<-holding [v] (eval o X.env)let iv<-holding [v,ov] (eval i X.env)standAt pos
  holding [v,ov,iv] (setItem ov iv v)release [v,ov,iv] []):=by intro _;rfl):PG X (.Subscript o i pos) (aa9 to ti t):=by intro pins s σ H v u Q I r h;rw[ha];refine wpAny_bind (wpAny_holding (bL (ho pins s σ H _ I h) fun ov s1⟨x,H1,I1,r1,q1⟩=>?_));refine wpAny_bind (wpAny_holding (bL (hi pins s1 σ H1 _ I1 q1) fun iv s2⟨y,H2,I2,r2,q2⟩=>?_));refine wpAny_bind (wpAny_standAt (wpAny_bind (wpAny_holding (bL (hs pins s2 σ H2 x y v ov iv u _ I2 r1 r2 r q2) fun _ s3⟨H3,I3,q3⟩=>?_))));exact wpAny_release ⟨σ,H3,I3,q3⟩
def Qc(te:TE)(g:TG):TS:=fun D σ H=>te σ H fun x H1=>g x σ H1 D.nx
theorem Lp{tg e:Expr}{te:TE}{g:TG}(he:PE X e te)(hg:PG X tg g)(hs:swapsWithSole [tg] e pos.line X.env=pure false:=by rfl)(hw:swappedStores [tg] e X.env=pure none:=by rfl)(h1:(assignEach [tg] X.env).map (·.2)=[assign tg X.env]:=by rfl):PS X (.Assign [tg] e pos) (Qc te g):=by intro pins s σ H D I h;refine wpAny_Assign_stores (bL (he pins s σ H _ I h) fun v s1⟨x,H1,I1,r1,q1⟩=>?_) hs hw;rw[h1];exact bL (hg pins s1 σ H1 x v _ I1 r1 q1) fun _ s2 q=>q
theorem vQ{i:Nat}{x:Str}{e:Expr}{te:TE}{pos':Pos}(hN:X.N.Nodup)(hi:X.N[i]?=some x)(hx:Loc X.env.scope x)(he:PE X e te)(hs:swapsWith e (some (.Name x pos')) pos.line X.env=pure false:=by rfl)(hf:X.fn x=true\/X.env.scope.names.lookup x=some .local:=by first|exact .inl rfl|exact .inr rfl|assumption):PS X (.Assign [.Name x pos'] e pos) (Qc te (iw i)):=by intro pins s σ H D I h;refine wpAny_Assign_Name (bL (he pins s σ H _ I h) fun v s1⟨y,H1,I1,r1,q1⟩=>?_) hs;exact oH I1 hN hi hx r1 (fun s2 I2=>⟨_,H1,I2,q1⟩) hf
def aam(i:Nat)(te:TE)(ti:QK):TS:=fun D σ H=>∃x,σ[i]?=some (some x)/\te σ H fun y H1=>ti x y H1 fun z H2=>D.nx (σ.set i (some z)) H2
theorem Oe{i:Nat}{x:Str}{e:Expr}{te:TE}{op:Operator}{ti:QK}{pos':Pos}(hN:X.N.Nodup)(hi:X.N[i]?=some x)(hx:Loc X.env.scope x)(he:PE X e te)(ho:J2 X op ti)(hf:X.fn x=true\/X.env.scope.names.lookup x=some .local:=by first|exact .inl rfl|exact .inr rfl|assumption):PS X (.AugAssign (.Name x pos') op e pos) (aam i te ti):=by
 intro pins s σ H D I h;obtain⟨v,e1,h⟩:=h;obtain⟨m,hn,hl⟩:=I.loc;have vis:tu X.env.scope x:=by rcases hx with k|k;exact .inl k;exact .inr (.inl k)
 obtain⟨u,r,l⟩:=hl i x v hi e1 vis;refine wpAny_AugAssign_Name ?_;have go:wpAny (model X.prog X.w) X.A (eval e X.env) (fun w s₂=>wpAny (model X.prog X.w) X.A (inplaceOp op u w) (fun r s₃=>wpAny (model X.prog X.w) X.A (storeName X.env x r) (fun _=>SP X pins D .next) X.xe s₃) X.xe s₂) X.xe s:=by refine bL (he pins s σ H _ I h) fun w s1⟨y,H1,I1,r1,q1⟩=>?_;refine bL (ho pins s1 σ H1 v y u w _ I1 r r1 q1) fun z s2⟨zv,H2,I2,r2,q2⟩=>?_;exact oH I2 hN hi hx r2 (fun s3 I3=>⟨_,H2,I3,q2⟩) hf
 rcases l with⟨hk,hm⟩|⟨hk,c,hc,hcell⟩;.exact wpAny_loadName_local I.ok.kind hk hn hm go
 . rcases hk with hk|hk;.exact wpAny_loadName_cell I.ok.kind hk hc hcell go
   . rcases hx with k|k;.have:X.env.scope.names.lookup x=some .free:=hk;rw[k]at this;cases this
     .have:X.env.scope.names.lookup x=some .free:=hk;rw[k]at this;cases this
def TV(to ti te:TE)(Jx:V->V->Hp->VK->Prop)(Yv:QK)(Jy:Ck):TS:=fun D σ H=>to σ H fun o H1=>ti σ H1 fun i H2=>Jx o i H2 fun x H3=>te σ H3 fun y H4=>Yv x y H4 fun z H5=>Jy o i z H5 fun H6=>D.nx σ H6
def Tq(X:Cx)(t:V->V->Hp->VK->Prop):Prop:=∀(pins:List (Addr × Obj))(s:Shared)(σ:St)(H:Hp)(o i:V)(ov iv:Value)(Q:VK),Inv X pins σ H s->RelV o ov->RelV i iv->t o i H Q->wpAny (model X.prog X.w) X.A (getItem ov iv) (EP X pins σ Q) X.xe s
theorem HD{o i e:Expr}{to ti te:TE}{Jx:V->V->Hp->VK->Prop}{Yv:QK}{Jy:Ck}{op:Operator}{tpos:Pos}(ho:PE X o to)(hi:PE X i ti)(hg:Tq X Jx)(he:PE X e te)(hp:J2 X op Yv)(hs:Pj X Jy)(ha:∀ov iv new,augStore i ov iv new=(do holding [new,ov,iv] (setItem ov iv new);release [new,ov,iv] [];pure .next):=by intros;rfl):PS X (.AugAssign (.Subscript o i tpos) op e pos) (TV to ti te Jx Yv Jy):=by intro pins s σ H D I h;refine wpAny_AugAssign_SubscriptAny (bL (ho pins s σ H _ I h) fun ov s1⟨x1,H1,I1,r1,q1⟩=>?_) ha;refine bL (hi pins s1 σ H1 _ I1 q1) fun iv s2⟨x2,H2,I2,r2,q2⟩=>?_;refine bL (hg pins s2 σ H2 x1 x2 ov iv _ I2 r1 r2 q2) fun old s3⟨x3,H3,I3,r3,q3⟩=>?_;refine bL (he pins s3 σ H3 _ I3 q3) fun v s4⟨x4,H4,I4,r4,q4⟩=>?_;refine bL (hp pins s4 σ H4 x3 x4 old v _ I4 r3 r4 q4) fun new s5⟨x5,H5,I5,r5,q5⟩=>?_;exact bL (hs pins s5 σ H5 x1 x2 x5 ov iv new _ I5 r1 r2 r5 q5) fun _ s6⟨H6,I6,q6⟩=>⟨σ,H6,I6,q6⟩
def RK(f:Int->Int->Int):QK:=fun x y H Q=>∃i j,x=.int i/\y=.int j/\Q (.int (f i j)) H
theorem Lr:J2 X .Add (RK fun i j=>i+j):=by intro pins s σ H x y v u Q I r1 r2 h;obtain⟨i,j,e1,e2,q⟩:=h;subst e1;subst e2;obtain⟨t,rfl⟩:=r1;obtain⟨t',rfl⟩:=r2;exact iadd_int ⟨.int _,H,I.tok _,⟨_,rfl⟩,q⟩
theorem Qa:J2 X .Sub (RK fun i j=>i-j):=by intro pins s σ H x y v u Q I r1 r2 h;obtain⟨i,j,e1,e2,q⟩:=h;subst e1;subst e2;obtain⟨t,rfl⟩:=r1;obtain⟨t',rfl⟩:=r2;exact isub_int ⟨.int _,H,I.tok _,⟨_,rfl⟩,q⟩
end
section
variable{X:Cx}{pos:Pos}
def Nm(c:TT)(tb:TS):TS:=fun D σ H=>∃W:Nat->St->Hp->Prop,(∃m,W m σ H)/\∀m σ H,W m σ H->c σ H fun b H1=>if b=true then ∃N:St->Hp->Prop,(∀σ' H',N σ' H'->∃m',m'<m/\W m' σ' H')/\tb {D with nx:=N,ct:=N,bk:=D.nx} σ H1 else D.nx σ H1
theorem FP{c:Expr}{body:List Stmt}{tc:TT}{tb:TS}(hp:PassesOwn (model X.prog X.w) X.A X.env X.xe)(hc:PT X c tc)(hb:uf X body tb):PS X (.While c body [] pos) (Nm tc tb):=by intro pins s σ H D I h;obtain⟨W,⟨m0,w0⟩,turn⟩:=h;refine wpAny_While (codeAny_whileLoop (fun n s'=>∃σ' H',Inv X pins σ' H' s'/\W n σ' H') ?_ m0 ⟨σ,H,I,w0⟩);rintro n s1⟨σ1,H1,I1,w1⟩;refine wpAny_passesOwn hp (bL (hc pins s1 σ1 H1 _ I1 (turn n σ1 H1 w1)) fun b s2⟨H2,I2,q2⟩=>?_);cases b with
 |true=>obtain⟨N,hN,q2⟩:=q2;rw[if_pos rfl];refine wpAny_passesOwn hp (bL (hb pins s2 σ1 H2 _ I2 q2) fun f s3 q3=>?_);cases f with|next=>obtain⟨σ3,H3,I3,n3⟩:=q3;obtain⟨m',hm,w3⟩:=hN σ3 H3 n3;exact⟨m',hm,σ3,H3,I3,w3⟩|cont=>obtain⟨σ3,H3,I3,n3⟩:=q3;obtain⟨m',hm,w3⟩:=hN σ3 H3 n3;exact⟨m',hm,σ3,H3,I3,w3⟩|brk=>exact q3|ret v=>exact q3
 |false=>rw[if_neg Bool.false_ne_true];exact wpAny_execs_nil ⟨σ1,H2,I2,q2⟩
end
structure It where
 go:Nat->Hp->Prop
 Gw:Nat->Hp->V->Hp->Prop
 stop:Nat->Hp->Prop
def mR(X:Cx)(pins:List (Addr×Obj))(H:Hp)(b:Addr):Prop:=H b=none/\b≠X.env.locals/\b∉X.fs/\(b∈X.ex\/X.s₀.heap.objs.size<=b)/\(∀x c,X.env.cells.lookup x=some c->c≠b)/\∀p∈X.pn++pins,p.1≠b
theorem Inv.Ag{X:Cx}{pins:List (Addr×Obj)}{σ:St}{H H':Hp}{s:Shared}{b:Addr}(I:Inv X pins σ H s)(hb:s.heap.objs.size<=b)(hn:H' b=none):mR X pins H' b:=by
 refine⟨hn,ne_of_gt (lt_of_lt_of_le I.lt hb),I.aaj hb,.inr (le_trans I.sz hb),fun x c e z=>?_,fun p hp z=>?_⟩;.obtain⟨v,q⟩:=I.cell x c e;exact absurd (lt_of_lt_of_le q.lt (by rw[z];exact hb)) (lt_irrefl _)
 .exact absurd (lt_of_lt_of_le (lt_size (I.pin p hp).1) (by rw[z];exact hb)) (lt_irrefl _)
structure Turn(P:Program)(w:World)(K:PySem.W.Frag)(tg:Expr)(J:It)(fp:List Addr)(it:Addr)(tn:Nat->Heap->Prop):Prop where
 mem:it∈fp
 obj:∀i h,tn i h->∀b∈fp,∃o,h.get? b=some o/\∀v,o.data≠.cell v
 keep:∀i h h',tn i h->(∀b∈fp,∀o,h.get? b=some o->h'.get? b=some o)->tn i h'
 item:∀(X:Cx),X.prog=P->X.w=w->X.K=K->X.calm=true->∀(i:Nat)(pins:List (Addr×Obj))(s:Shared)(σ:St)(H:Hp)(E:Value->Shared->Prop),Inv X pins σ H s->(∀b∈fp,mR X pins H b)->tn i s.heap->J.go i H->wpAny (model P w) X.A (pyNext (.ref it)) (fun r s1=>∃u,r=some u/\wpAny (model P w) X.A (letOwnedTupleGo tg (.ref it) u) (fun _ s2=>∃x H',Inv X pins σ H' s2/\RelV x u/\J.Gw i H x H'/\tn (i+1) s2.heap/\∀b∈fp,H' b=none) E s1) E s
 done:∀(X:Cx),X.prog=P->X.w=w->X.K=K->X.calm=true->∀(i:Nat)(pins:List (Addr×Obj))(s:Shared)(σ:St)(H:Hp)(E:Value->Shared->Prop),Inv X pins σ H s->(∀b∈fp,mR X pins H b)->tn i s.heap->J.stop i H->wpAny (model P w) X.A (pyNext (.ref it)) (fun r s1=>r=none/\Inv X pins σ H s1) E s
 self:∀(A:Around)(i:Nat)(s:Shared)(Q:Value->Shared->Prop)(E:Value->Shared->Prop),tn i s.heap->Q (.ref it) s->wpAny (model P w) A (pyIter (.ref it)) Q E s
abbrev TI:=St->Hp->(It->Hp->Prop)->Prop
def PIE(X:Cx)(pins:List (Addr×Obj))(σ:St)(tg:Expr)(R:It->Hp->Prop)(itv:Value)(s2:Shared):Prop:=∃(it:Addr)(fp:List Addr)(tn:Nat->Heap->Prop)(J:It)(H':Hp),itv=.ref it/\Inv X pins σ H' s2/\Turn X.prog X.w X.K tg J fp it tn/\tn 0 s2.heap/\(∀b∈fp,mR X pins H' b)/\R J H'
def PI(X:Cx)(tg iter:Expr)(wi:TI):Prop:=∀(pins:List (Addr × Obj))(s:Shared)(σ:St)(H:Hp)(R:It->Hp->Prop),Inv X pins σ H s->wi σ H R->wpAny (model X.prog X.w) X.A (eval iter X.env) (fun v s1=>wpAny (model X.prog X.w) X.A (pyIter v) (PIE X pins σ tg R) X.xe s1) X.xe s
theorem yR{M:Model}{A:Around}{E:Value->Shared->Prop}{s:Shared}{tg:Expr}{it:Addr}{u:Value}{o:Obj}{n:String}{vs:Array Value}{Q:Unit->Shared->Prop}(ho:s.heap.get? it=some o)(hc:o.cls=.type n)(hd:o.data=.fields vs)(hn:["enumerate","zip","dict_itemiterator","dict_reverseitemiterator","odict_iterator","itertools.zip_longest","itertools.pairwise"].contains n=false)(hQ:Q () s):wpAny M A (letOwnedTupleGo tg (.ref it) u) Q E s:=by unfold letOwnedTupleGo;cases tg<;>first|exact wpAny_pure hQ|(cases u<;>first|exact wpAny_pure hQ|(refine wpAny_bind (wpAny_load ho ?_);rw[hc,hd];show wpAny M A (if(["enumerate","zip","dict_itemiterator","dict_reverseitemiterator","odict_iterator","itertools.zip_longest","itertools.pairwise"].contains n&&vs[0]?==some (rawInt _))=true then _ else _) Q E s;rw[if_neg (by intro h;rw[hn,Bool.false_and]at h;cases h)];exact wpAny_pure hQ))
noncomputable def Mv(K:PySem.W.Frag)(a:Addr):It:=⟨fun i H=>∃xs x,dM K H a xs/\xs[i]?=some x,fun i H x H'=>H'=H/\∀xs,dM K H a xs->xs[i]?=some x,fun i H=>∃xs,dM K H a xs/\xs.length<=i⟩
noncomputable def RJ(K:PySem.W.Frag)(a:Addr):It:=⟨fun i H=>∃xs x,gO K H a xs/\xs[i]?=some x,fun i H x H'=>H'=H/\∀xs,gO K H a xs->xs[i]?=some x,fun i H=>∃xs,gO K H a xs/\xs.length<=i⟩
noncomputable def Us(lo:Int)(n:Nat):It:=⟨fun i _=>i<n,fun i H x H'=>H'=H/\x=.int (lo+i),fun i _=>n<=i⟩
theorem zX{P:Program}{w:World}{K:PySem.W.Frag}{tg:Expr}(a it:Addr):Turn P w K tg (Mv K a) [it] it (fun i h=>h.IsListIter it a i)where
 mem:=by simp
 obj:=fun i h st b hb=>by
  have e:b=it:=by simpa using hb
  subst e;obtain⟨o,e,c,d⟩:=st;exact⟨o,e,fun v z=>by rw[d]at z;cases z⟩
 keep:=fun i h h' st k=>st.at fun o e=>k it (by simp) o e;item:=by intro X hP hw hK hc i pins s σ H E I hf st hg;subst hP hw hK;obtain⟨xs,x,hq,hx⟩:=hg;obtain⟨its,rv,p,hz⟩:=I.list hq;obtain⟨u,hu,ru⟩:=rv.get hx;obtain⟨f0,f1,f2,f3,f4,f5⟩:=hf it (by simp);refine wpAny_pyNext_list_item st p.isList (x:=u) (by simpa using hu) fun h' st' sb=>?_;have I1:Inv X pins σ H {s with heap:=h'}:=I.turned (t':=s.toks) (fun b o hb e=>(sb.2 b hb).trans e) f0 f1 f3 f4 f5;obtain⟨o,e,c,d⟩:=id st';exact⟨u,rfl,yR (s:={s with heap:=h'}) e c d (by decide) ⟨x,H,I1,ru,⟨rfl,fun ys hy=>by rw[I.pF hy hq];exact hx⟩,st',fun b hb=>(hf b hb).1⟩⟩
 done:=by intro X hP hw hK hc i pins s σ H E I hf st hg;subst hP hw hK;obtain⟨xs,hq,hx⟩:=hg;obtain⟨its,rv,p,hz⟩:=I.list hq;obtain⟨f0,f1,f2,f3,f4,f5⟩:=hf it (by simp);have hl:=rv.length;exact wpAny_pyNext_list_end (I.ok.hd hc) st p.isList (by simp;omega) fun h' eb=>⟨rfl,I.turned (t':=s.toks) (fun b o hb e=>eb b o hb e) f0 f1 f3 f4 f5⟩
 self:=fun _ _ _ _ _ st h=>wpAny_pyIter_listiter st h
theorem vY{P:Program}{w:World}{K:PySem.W.Frag}{tg:Expr}(a it:Addr):Turn P w K tg (RJ K a) [it] it (fun i h=>h.IsTupleIter it a i)where
 mem:=by simp
 obj:=fun i h st b hb=>by
  have e:b=it:=by simpa using hb
  subst e;obtain⟨o,e,c,d⟩:=st;exact⟨o,e,fun v z=>by rw[d]at z;cases z⟩
 keep:=fun i h h' st k=>st.at fun o e=>k it (by simp) o e;item:=by intro X hP hw hK hc i pins s σ H E I hf st hg;subst hP hw hK;obtain⟨xs,x,hq,hx⟩:=hg;obtain⟨its,rv,p,hz⟩:=I.tuple hq;obtain⟨u,hu,ru⟩:=rv.get hx;obtain⟨f0,f1,f2,f3,f4,f5⟩:=hf it (by simp);refine wpAny_pyNext_tuple_item st (show s.heap.IsTuple a its.toArray from p) (x:=u) (by simpa using hu) fun h' st' sb=>?_;have I1:Inv X pins σ H {s with heap:=h'}:=I.turned (t':=s.toks) (fun b o hb e=>(sb.2 b hb).trans e) f0 f1 f3 f4 f5;obtain⟨o,e,c,d⟩:=id st';exact⟨u,rfl,yR (s:={s with heap:=h'}) e c d (by decide) ⟨x,H,I1,ru,⟨rfl,fun ys hy=>by rw[I.lM hy hq];exact hx⟩,st',fun b hb=>(hf b hb).1⟩⟩
 done:=by intro X hP hw hK hc i pins s σ H E I hf st hg;subst hP hw hK;obtain⟨xs,hq,hx⟩:=hg;obtain⟨its,rv,p,hz⟩:=I.tuple hq;obtain⟨f0,f1,f2,f3,f4,f5⟩:=hf it (by simp);have hl:=rv.length;exact wpAny_pyNext_tuple_end (I.ok.hd hc) st (show s.heap.IsTuple a its.toArray from p) (by simp;omega) fun h' eb=>⟨rfl,I.turned (t':=s.toks) (fun b o hb e=>eb b o hb e) f0 f1 f3 f4 f5⟩
 self:=fun _ _ _ _ _ st h=>wpAny_pyIter_tupleiter st h
theorem wN{P:Program}{w:World}{K:PySem.W.Frag}{tg:Expr}(it:Addr)(lo:Int)(n:Nat):Turn P w K tg (Us lo n) [it] it (fun i h=>IsRangeIter h it (lo+(i:Nat)*1) ((n:Int)-(i:Nat)) 1)where
 mem:=by simp
 obj:=fun i h st b hb=>by
  have e:b=it:=by simpa using hb
  subst e;exact⟨_,st,fun v z=>by have z':Data.fields _=Data.cell v:=z;cases z'⟩
 keep:=fun i h h' st k=>k it (by simp) _ st;item:=by intro X hP hw hK hc i pins s σ H E I hf st hg;subst hP hw hK;obtain⟨f0,f1,f2,f3,f4,f5⟩:=hf it (by simp);have W:=Walks.range (prog:=X.prog) (w:=X.w) (I.ok.hd hc) it lo 1 n;refine W.item i s _ _ hg st fun v h' tk hv st' kk=>?_;obtain⟨t,rfl⟩:=hv;have I1:Inv X pins σ H {s with heap:=h',toks:=tk}:=I.turned (fun b o hb e=>kk b o (by simpa using hb) e) f0 f1 f3 f4 f5;refine⟨_,rfl,yR (s:={s with heap:=h',toks:=tk}) (n:="range_iterator") st' rfl rfl (by decide) ⟨.int (lo+i),H,I1,⟨t,?_⟩,⟨rfl,rfl⟩,st',fun b hb=>(hf b hb).1⟩⟩;rw[mul_one]
 done:=by intro X hP hw hK hc i pins s σ H E I hf st hg;subst hP hw hK;obtain⟨f0,f1,f2,f3,f4,f5⟩:=hf it (by simp);exact wpAny_pyNext_range_end (I.ok.hd hc) st (by have:n<=i:=hg;omega) fun h' eb=>⟨rfl,I.turned (t':=s.toks) (fun b o hb e=>eb b o hb e) f0 f1 f3 f4 f5⟩
 self:=fun _ _ _ _ _ st h=>wpAny_pyIter_rangeiter st h
section
variable{X:Cx}{tg:Expr}
theorem Fp{pins:List (Addr×Obj)}{σ:St}{H:Hp}{s:Shared}{R:It->Hp->Prop}{E:Value->Shared->Prop}{lo hi:Int}{t u v:Tok}{tk:Nat}(I:Inv X pins σ H s)(h1:-(2^62)<=lo)(h2:lo<2^62)(h3:-(2^62)<=hi)(h4:hi<2^62)(q:R (Us lo (hi-lo).toNat) H):wpAny (model X.prog X.w) X.A (pyIter (.ref s.heap.objs.size)) (PIE X pins σ tg R) E {s with heap:=s.heap.push {cls:=.type "range",data:=.fields #[.int lo t,.int hi u,.int 1 v]},toks:=tk}:=by
 refine wpAny_pyIter_range (IsRange.new ..) (small_one h1 h2 h3 h4) ?_;have I1:Inv X pins σ H {s with heap:=s.heap.push {cls:=.type "range",data:=.fields #[.int lo t,.int hi u,.int 1 v]},toks:=tk}:=I.kept fun b o e=>get?_push_of_some _ e;refine⟨(s.heap.push {cls:=.type "range",data:=.fields #[.int lo t,.int hi u,.int 1 v]}).objs.size,[(s.heap.push {cls:=.type "range",data:=.fields #[.int lo t,.int hi u,.int 1 v]}).objs.size],_,_,H,rfl,I1.kept (t':=tk) fun b o e=>get?_push_of_some _ e,wN _ lo (hi-lo).toNat,?_,fun b hb=>?_,q⟩
 . have e1:lo+((0:Nat):Int)*1=lo:=by simp
   have e2:(((hi-lo).toNat:Nat):Int)-((0:Nat):Int)=Builtin.Range.rangeSize lo hi 1:=by rw[rangeSize_one];split<;>omega
   show IsRangeIter _ _ (lo+((0:Nat):Int)*1) ((((hi-lo).toNat:Nat):Int)-((0:Nat):Int)) 1;rw[e1,e2];exact get?_push_size _ rfl
 . have e:b=(s.heap.push {cls:=.type "range",data:=.fields #[.int lo t,.int hi u,.int 1 v]}).objs.size:=by simpa using hb
   subst e;exact I1.Ag (le_refl _) (I1.hok.fresh (le_refl _))
def Ve(ta:TA):TI:=fun σ H R=>ta σ H fun vs H1=>∃j:Int,vs=[.int j]/\-(2^62)<=j/\j<2^62/\R (Us 0 j.toNat) H1
theorem p6{a:Expr}{ta:TA}{p pos:Pos}(hg:Gl X "range")(hm:X.mg "range"=none)(ha:PA X [a] ta)(hs:starEach [a] X.env=[(false,eval a X.env)]:=by rfl):PI X tg (.Call (.Name "range" p) [a] [] pos) (Ve ta):=by intro pins s σ H R I h;refine Call_ (lH I hg hm boot_range (PyProof.Rows.callWith_type1 (bL (ha pos pins s σ H _ I h) fun us s1⟨vs,H1,I1,r1,q1⟩=>?_) hs rfl));obtain⟨j,e,q1,q2,q⟩:=q1;subst e;cases r1 with|cons r rr=>cases rr;obtain⟨t,rfl⟩:=r;exact call_range_1 (Fp I1 (by omega) (by omega) q1 q2 (by simpa using q))
def Z0(wi:TI)(g:TG)(tb:TS):TS:=fun D σ H=>wi σ H fun J H1=>∃W:Nat->Nat->St->Hp->Prop,(∃m,W 0 m σ H1)/\∀i m σ H,W i m σ H->(J.stop i H/\D.nx σ H)\/(J.go i H/\∃N:St->Hp->Prop,(∀σ' H',N σ' H'->∃m',m'<m/\W (i+1) m' σ' H')/\∀x H',J.Gw i H x H'->g x σ H' fun σ2 H2=>tb {D with nx:=N,ct:=N,bk:=D.nx} σ2 H2)
noncomputable def o4(fp:List Addr)(h:Heap):List (Addr×Obj):=fp.filterMap fun b=>(h.get? b).map fun o=>(b,o)
theorem gQ{fp:List Addr}{h:Heap}{b:Addr}{o:Obj}(hb:b∈fp)(e:h.get? b=some o):(b,o)∈o4 fp h:=List.mem_filterMap.mpr ⟨b,hb,by rw[e];rfl⟩
theorem zQ{fp:List Addr}{h:Heap}{p:Addr×Obj}(hp:p∈o4 fp h):p.1∈fp/\h.get? p.1=some p.2:=by obtain⟨b,hb,e⟩:=List.mem_filterMap.mp hp;cases q:h.get? b with|none=>rw[q]at e;cases e|some o=>rw[q]at e;have e':(b,o)=p:=Option.some.inj e;subst e';exact⟨hb,q⟩
theorem Inv.pinned{pins:List (Addr×Obj)}{σ:St}{H:Hp}{s:Shared}{fp:List Addr}(I:Inv X pins σ H s)(hf:∀b∈fp,mR X pins H b)(ho:∀b∈fp,∃o,s.heap.get? b=some o/\∀v,o.data≠.cell v):Inv X (pins++o4 fp s.heap) σ H s:=I.yL fun p hp=>(mem_append.mp hp).elim (fun z=>I.pin p (mem_append_right _ z)) fun z=>by obtain⟨hb,e⟩:=zQ z;obtain⟨f0,f1,f2,_⟩:=hf p.1 hb;obtain⟨o,e',d⟩:=ho p.1 hb;rw[e]at e';cases e';exact⟨e,f0,f1,f2,d⟩
theorem Inv.jX{pins pl:List (Addr×Obj)}{σ:St}{H:Hp}{s:Shared}(I:Inv X (pins++pl) σ H s):Inv X pins σ H s:=I.yL fun p hp=>I.pin p (mem_append_right _ (List.mem_append_left _ hp))
theorem Bq{iter:Expr}{body:List Stmt}{wi:TI}{g:TG}{tb:TS}{pos:Pos}(hp:PassesOwn (model X.prog X.w) X.A X.env X.xe)(hc:X.calm=true)(hi:PI X tg iter wi)(hg:PG X tg g)(hb:uf X body tb)(hs:∀x,foldedSetIterable iter X.env x=pure x:=by intro _;rfl):PS X (.For tg iter body [] pos) (Z0 wi g tb):=by
 intro pins s σ H D I h;refine wpAny_For (bL (hi pins s σ H _ I h) fun v s1 h1=>bL h1 fun itv s2 h2=>?_) hs;obtain⟨it,fp,tn,J,H2,e,I2,T,st2,f2,W,⟨m0,w0⟩,turn⟩:=h2;subst e--what stays true of the iterator's objects through the loop
 have stat:∀{H':Hp},(∀b∈fp,H' b=none)->∀b∈fp,mR X pins H' b:=fun hn b hb=>⟨hn b hb,(f2 b hb).2⟩;refine codeAny_forLoop_any (fun n s'=>∃i σ' H',Inv X pins σ' H' s'/\tn i s'.heap/\(∀b∈fp,H' b=none)/\W i n σ' H') ?_ m0 ⟨0,σ,H2,I2,st2,fun b hb=>(f2 b hb).1,w0⟩;rintro n s3⟨i,σ3,H3,I3,st3,fr3,w3⟩;rcases turn i n σ3 H3 w3 with⟨stop,qn⟩|⟨go,N,hN,step⟩;.refine wpAny_passesOwn hp (bL (T.done X rfl rfl rfl hc i pins s3 σ3 H3 X.xe I3 (stat fr3) st3 stop) fun r s4⟨hr,I4⟩=>?_);subst hr;exact wpAny_execs_nil ⟨σ3,H3,I4,qn⟩
 . refine wpAny_passesOwn hp (bL (T.item X rfl rfl rfl hc i pins s3 σ3 H3 X.xe I3 (stat fr3) st3 go) fun r s4⟨u,hr,h4⟩=>?_);subst hr;refine wpAny_passesOwn hp (bL h4 fun _ s5⟨x,H5,I5,r5,y5,st5,fr5⟩=>?_);have I5':=I5.pinned (stat fr5) (T.obj _ _ st5);refine wpAny_passesOwn hp (bL (hg _ s5 σ3 H5 x u _ I5' r5 (step x H5 y5)) fun _ s6⟨σ6,H6,I6,q6⟩=>?_);refine wpAny_passesOwn hp (bL (hb _ s6 σ6 H6 _ I6 q6) fun f s7 q7=>?_);have again:∀{σ7:St}{H7:Hp},Inv X (pins++o4 fp s5.heap) σ7 H7 s7->N σ7 H7->∃m,m<n/\∃i σ' H',Inv X pins σ' H' s7/\tn i s7.heap/\(∀b∈fp,H' b=none)/\W i m σ' H':=fun{σ7 H7}I7 n7=>by obtain⟨m',hm,w7⟩:=hN σ7 H7 n7;refine⟨m',hm,i+1,σ7,H7,I7.jX,T.keep _ _ _ st5 fun b hb o e=>(I7.pin (b,o) (mem_append_right _ (mem_append_right _ (gQ hb e)))).1,fun b hb=>?_,w7⟩;obtain⟨o,e,d⟩:=T.obj _ _ st5 b hb;exact(I7.pin (b,o) (mem_append_right _ (mem_append_right _ (gQ hb e)))).2.1
   cases f with|next=>obtain⟨σ7,H7,I7,n7⟩:=q7;exact again I7 n7|cont=>obtain⟨σ7,H7,I7,n7⟩:=q7;exact again I7 n7|brk=>obtain⟨σ7,H7,I7,q7⟩:=q7;exact⟨σ7,H7,I7.jX,q7⟩|ret v=>obtain⟨x7,σ7,H7,I7,r7,q7⟩:=q7;exact⟨x7,σ7,H7,I7.jX,r7,q7⟩
end
abbrev R2:=V->V->Hp->VK->Prop
def gG(X:Cx)(f:Value->Value->Sem Value)(r:R2):Prop:=∀(pins:List (Addr × Obj))(s:Shared)(σ:St)(H:Hp)(x y:V)(v u:Value)(Q:VK),Inv X pins σ H s->RelV x v->RelV y u->r x y H Q->wpAny (model X.prog X.w) X.A (f v u) (EP X pins σ Q) X.xe s
def UnR(X:Cx)(f:Value->Sem Value)(r:V->Hp->VK->Prop):Prop:=∀(pins:List (Addr × Obj))(s:Shared)(σ:St)(H:Hp)(x:V)(v:Value)(Q:VK),Inv X pins σ H s->RelV x v->r x H Q->wpAny (model X.prog X.w) X.A (f v) (EP X pins σ Q) X.xe s
def dH(X:Cx)(f:Value)(r:List V->Hp->VK->Prop):Prop:=∀(pins:List (Addr × Obj))(s:Shared)(σ:St)(H:Hp)(xs:List V)(us:List Value)(Q:VK),Inv X pins σ H s->Vals xs us->r xs H Q->wpAny (model X.prog X.w) X.A (call f us) (EP X pins σ Q) X.xe s
def RB(r:R2)(ta tb:TE):TE:=fun σ H Q=>ta σ H fun x H1=>tb σ H1 fun y H2=>r x y H2 Q
def tUn(r:V->Hp->VK->Prop)(ta:TE):TE:=fun σ H Q=>ta σ H fun x H1=>r x H1 Q
def rI(C:Int->Int->Prop)(g:Int->Int->V):R2:=fun x y H Q=>∃i j,x=.int i/\y=.int j/\C i j/\Q (g i j) H
def HJ(g:Int->Int->V):R2:=fun x y H Q=>∃i j,x=.int i/\y=.int j/\Q (g i j) H
def rU(g:Int->V):V->Hp->VK->Prop:=fun x H Q=>∃i,x=.int i/\Q (g i) H
section
variable{X:Cx}{a b c:Expr}{ta tb tc:TE}{pos:Pos}
theorem T4(ha:PE X a ta)(hb:PE X b tb){pins:List (Addr×Obj)}{s:Shared}{σ:St}{H:Hp}{R:V->V->Hp->Prop}(I:Inv X pins σ H s)(h:ta σ H fun x H1=>tb σ H1 fun y H2=>R x y H2){Q:Value->Shared->Prop}{f:Value->Value->Sem Value}(hf:∀v u s2 x y H2,Inv X pins σ H2 s2->RelV x v->RelV y u->R x y H2->wpAny (model X.prog X.w) X.A (f v u) Q X.xe s2):wpAny (model X.prog X.w) X.A (eval a X.env) (fun v s₁=>wpAny (model X.prog X.w) X.A (eval b X.env) (fun u s₂=>wpAny (model X.prog X.w) X.A (f v u) Q X.xe s₂) X.xe s₁) X.xe s:=by refine bL (ha pins s σ H _ I h) fun v s1⟨x,H1,I1,r1,q1⟩=>?_;refine bL (hb pins s1 σ H1 _ I1 q1) fun u s2⟨y,H2,I2,r2,q2⟩=>?_;exact hf v u s2 x y H2 I2 r1 r2 q2
theorem Uq{op:Operator}{r:R2}(ho:gG X (binaryOp op) r)(ha:PE X a ta)(hb:PE X b tb):PE X (.BinOp a op b pos) (RB r ta tb):=by intro pins s σ H Q I h;exact wpAny_BinOp (T4 ha hb I h fun v u s2 x y H2 I2 rx ry q=>ho pins s2 σ H2 x y v u Q I2 rx ry q)
theorem VL{op:UnaryOp}{r:V->Hp->VK->Prop}(ho:UnR X (unaryOp op) r)(ha:PE X a ta):PE X (.UnaryOp op a pos) (tUn r ta):=by intro pins s σ H Q I h;exact UnaryOp_ (bL (ha pins s σ H _ I h) fun v s1⟨x,H1,I1,r1,q1⟩=>ho pins s1 σ H1 x v Q I1 r1 q1)
theorem Zb{f:Value->Value->Sem Value}{C:Int->Int->Prop}{g:Int->Int->Int}(rule:∀(i j:Int)(t u:Tok)(s:Shared)(Q:Value->Shared->Prop)(E:Value->Shared->Prop),C i j->Q (.int (g i j) s.toks) {s with toks:=s.toks+1}->wpAny (model X.prog X.w) X.A (f (.int i t) (.int j u)) Q E s):gG X f (rI C fun i j=>.int (g i j)):=by intro pins s σ H x y v u Q I rx ry h;obtain⟨i,j,rfl,rfl,hc,q⟩:=h;obtain⟨t,rfl⟩:=rx;obtain⟨t',rfl⟩:=ry;exact rule i j t t' s _ _ hc ⟨.int (g i j),H,I.tok _,⟨_,rfl⟩,q⟩
theorem Vz{f:Value->Value->Sem Value}{g:Int->Int->Int}(rule:∀(i j:Int)(t u:Tok)(s:Shared)(Q:Value->Shared->Prop)(E:Value->Shared->Prop),Q (.int (g i j) s.toks) {s with toks:=s.toks+1}->wpAny (model X.prog X.w) X.A (f (.int i t) (.int j u)) Q E s):gG X f (HJ fun i j=>.int (g i j)):=by intro pins s σ H x y v u Q I rx ry h;obtain⟨i,j,rfl,rfl,q⟩:=h;obtain⟨t,rfl⟩:=rx;obtain⟨t',rfl⟩:=ry;exact rule i j t t' s _ _ ⟨.int (g i j),H,I.tok _,⟨_,rfl⟩,q⟩
theorem Mi{f:Value->Value->Sem Value}{g:Int->Int->Bool}(rule:∀(i j:Int)(t u:Tok)(s:Shared)(Q:Value->Shared->Prop)(E:Value->Shared->Prop),Q (.bool (g i j)) s->wpAny (model X.prog X.w) X.A (f (.int i t) (.int j u)) Q E s):gG X f (HJ fun i j=>.bl (g i j)):=by intro pins s σ H x y v u Q I rx ry h;obtain⟨i,j,rfl,rfl,q⟩:=h;obtain⟨t,rfl⟩:=rx;obtain⟨t',rfl⟩:=ry;exact rule i j t t' s _ _ ⟨.bl (g i j),H,I,rfl,q⟩
def aa6(i j:Int):Prop:=0<=j/\j<=1000000/\i.natAbs<2^64
def Pk(i j:Int):Prop:=(-(2^64)<i/\i<2^64)\/(-(2^64)<j/\j<2^64)
theorem Pk.ok{i j:Int}(h:Pk i j):IntMulOk i j:=by
 rcases h with⟨h1,h2⟩|⟨h1,h2⟩;.exact .of_left (intBits_le_64 h1 h2)
 .exact .of_right (intBits_le_64 h1 h2)
theorem MP:gG X (binaryOp .Add) (HJ fun i j=>.int (i+j)):=Vz fun _ _ _ _ _ _ _ q=>add_int q
theorem O3:gG X (binaryOp .Sub) (HJ fun i j=>.int (i-j)):=Vz fun _ _ _ _ _ _ _ q=>sub_int q
theorem Oo:gG X (binaryOp .Mult) (rI Pk fun i j=>.int (i*j)):=Zb fun _ _ _ _ _ _ _ hc q=>mul_int q hc.ok
theorem Mg:gG X (binaryOp .Mod) (rI (fun _ j=>0<j) fun i j=>.int (i%j)):=Zb fun i j _ _ _ _ _ hc q=>by have h1:(0:Int)<j:=hc;exact mod_int' (by omega) (by rw[Int.fmod_eq_emod_of_nonneg i (by omega)];exact q)
theorem Px:gG X (binaryOp .Pow) (rI aa6 fun i j=>.int (i^j.toNat)):=Zb fun _ _ _ _ _ _ _ hc q=>pow_int_small hc.1 hc.2.1 hc.2.2 q
theorem unI{f:Value->Sem Value}{g:Int->Int}(rule:∀(i:Int)(t:Tok)(s:Shared)(Q:Value->Shared->Prop)(E:Value->Shared->Prop),Q (.int (g i) s.toks) {s with toks:=s.toks+1}->wpAny (model X.prog X.w) X.A (f (.int i t)) Q E s):UnR X f (rU fun i=>.int (g i)):=by intro pins s σ H x v Q I rx h;obtain⟨i,rfl,q⟩:=h;obtain⟨t,rfl⟩:=rx;exact rule i t s _ _ ⟨.int (g i),H,I.tok _,⟨_,rfl⟩,q⟩
theorem Ol:UnR X (unaryOp .USub) (rU fun i=>.int (-i)):=unI fun _ _ _ _ _ q=>neg_int q
end
section
variable{X:Cx}{a b c:Expr}{ta tb tc:TE}{pos:Pos}
theorem Oi{pins:List (Addr×Obj)}{σ:St}{H:Hp}{s:Shared}{Q:VK}{k k':Bool}(I:Inv X pins σ H s)(q:Q (.bl k) H)(e:k=k'):EP X pins σ Q (.bool k') s:=by subst e;exact⟨.bl k,H,I,rfl,q⟩
theorem S8:gG X (compareOp .Lt) (HJ fun i j=>.bl (decide (i<j))):=Mi fun _ _ _ _ _ _ _ q=>lt_int q
theorem Vy:gG X (compareOp .LtE) (HJ fun i j=>.bl (decide (i<=j))):=Mi fun _ _ _ _ _ _ _ q=>le_int q
theorem Uu:gG X (compareOp .Gt) (HJ fun i j=>.bl (decide (j<i))):=Mi fun _ _ _ _ _ _ _ q=>gt_int q
theorem Hr:gG X (compareOp .IsNot) (fun x y H Q=>y=.non/\Q (.bl (!decide (x=.non))) H):=by intro pins s σ H x y v u Q I rx ry h;obtain⟨rfl,q⟩:=h;cases ry;refine isnot_none_gen (Oi I q ?_);cases x<;>first|(cases rx;rfl)|(obtain⟨t,rfl⟩:=rx;rfl)
theorem dh(b:Expr){op:CmpOp}(h:op≠.In:=by decide)(h2:op≠.NotIn:=by decide):behindInMarks op b=false:=by
 have e1:(op==CmpOp.In)=false:=by cases op<;>first|rfl|exact absurd rfl h
 have e2:(op==CmpOp.NotIn)=false:=by cases op<;>first|rfl|exact absurd rfl h2
 cases b<;>simp[behindInMarks,e1,e2]
def Tc(t:TE):TT:=fun σ H Q=>t σ H fun x H'=>∃k,x=.bl k/\Q k H'
theorem yc{op:CmpOp}{r:R2}(ho:gG X (compareOp op) r)(ha:PE X a ta)(hb:PE X b tb)(hm:behindInMarks op b=false):PT X (.Compare a [op] [b] pos) (Tc (RB r ta tb)):=by intro pins s σ H Q I h;refine wpAny_isTrue_Compare1 (bL (ha pins s σ H _ I h) fun v s1⟨x,H1,I1,r1,q1⟩=>bL (hb pins s1 σ H1 _ I1 q1) fun u s2⟨y,H2,I2,r2,q2⟩=>bL (ho pins s2 σ H2 x y v u _ I2 r1 r2 q2) fun c s3⟨z,H3,I3,r3,k,e,q3⟩=>?_) hm;subst e;cases r3;exact wpAny_truthy_bool ⟨H3,I3,q3⟩
theorem nP:(sizeLine:Nat)<2^63:=by rw[sizeLine_eq];decide
theorem vZ:gG X (binaryOp .Add) (fun x y H Q=>∃i j,x=.str i/\y=.str j/\i.length+j.length<=sizeLine/\Q (.str (i++j)) H):=by intro pins s σ H x y v u Q I rx ry h;obtain⟨i,j,rfl,rfl,hz,q⟩:=h;obtain⟨t,rfl⟩:=rx;obtain⟨t',rfl⟩:=ry;exact add_str (fun t' tk=>⟨.str (i++j),H,I.tok _,⟨_,rfl⟩,q⟩) hz
theorem vals1{x:V}{us:List Value}(r:Vals [x] us):∃u,us=[u]/\RelV x u:=by cases r with|cons r1 r2=>cases r2;exact⟨_,rfl,r1⟩
theorem vals2{x y:V}{us:List Value}(r:Vals [x,y] us):∃u w',us=[u,w']/\RelV x u/\RelV y w':=by cases r with|cons r1 r2=>cases r2 with|cons r3 r4=>cases r4;exact⟨_,_,rfl,r1,r3⟩
theorem Ai(hc:X.calm=true):dH X (.builtin "max") (fun xs H Q=>∃i j,xs=[.int i,.int j]/\Q (.int (if j>i then j else i)) H):=by
 intro pins s σ H xs us Q I r h;obtain⟨i,j,rfl,q⟩:=h;obtain⟨u,w',rfl,⟨t,rfl⟩,⟨t',rfl⟩⟩:=vals2 r;refine max_two_ints (I.ok.hd hc) fun h' tk k=>⟨_,H,I.kept k,?_,q⟩;by_cases hj:j>i;.rw[if_pos hj,if_pos hj];exact⟨_,rfl⟩
 .rw[if_neg hj,if_neg hj];exact⟨_,rfl⟩
theorem zL(hc:X.calm=true):dH X (.builtin "min") (fun xs H Q=>∃i j,xs=[.int i,.int j]/\Q (.int (if j<i then j else i)) H):=by
 intro pins s σ H xs us Q I r h;obtain⟨i,j,rfl,q⟩:=h;obtain⟨u,w',rfl,⟨t,rfl⟩,⟨t',rfl⟩⟩:=vals2 r;refine min_two_ints (I.ok.hd hc) fun h' tk k=>⟨_,H,I.kept k,?_,q⟩;by_cases hj:j<i;.rw[if_pos hj,if_pos hj];exact⟨_,rfl⟩
 .rw[if_neg hj,if_neg hj];exact⟨_,rfl⟩
end
theorem mQ.some_of{v:V}{o:Option Value}(r:mQ (some v) o):∃u,o=some u/\RelV v u:=by cases o with|none=>exact(show False from r).elim|some u=>exact⟨u,rfl,r⟩
structure iB(k:Nat)(A:Around):Prop where
 hd:A.handled=none
 dp:A.depth+3*k+5<recursionLimit
 un:A.units+16*k+200<cLine
theorem iB.deeper{k:Nat}{A:Around}(r:iB (k+1) A)(env:Env):iB k (A.deeper env):=⟨r.hd,by have:=r.dp;show A.depth+1+3*k+5<_;omega,by have:=r.un;show A.units+3+16*k+200<_;omega⟩
theorem iB.depth{k:Nat}{A:Around}(r:iB k A):A.depth<recursionLimit:=by have:=r.dp;omega
def Zc:TA:=fun _ H Q=>Q [] H
def Vi(ta:TE)(tr:TA):TA:=fun σ H Q=>ta σ H fun x H1=>tr σ H1 fun xs H2=>Q (x::xs) H2
section
variable{X:Cx}{e:Expr}{es:List Expr}{te:TE}{t:TA}{pos:Pos}
theorem fB:PA X [] Zc:=fun _ _ _ _ H Q I h=>Calls.spliced_nil ⟨[],H,I,.nil,h⟩
theorem cV(ha:PE X e te)(hr:PA X es t)(hs:starEach (e::es) X.env=(false,eval e X.env)::starEach es X.env:=by rfl):PA X (e::es) (Vi te t):=by intro pos pins s σ H Q I h;rw[hs];show wpAny _ _ (spliced ((false,eval e X.env)::backTo pos (starEach es X.env))) _ _ s;refine Calls.spliced_cons (bL (ha pins s σ H _ I h) fun u s1⟨x,H1,I1,r1,q1⟩=>?_);exact bL (hr pos pins s1 σ H1 _ I1 q1) fun us s2⟨xs,H2,I2,r2,q2⟩=>⟨x::xs,H2,I2,.cons r1 r2,q2⟩
def aax(t:TA):TE:=fun σ H Q=>t σ H fun xs H1=>xs.length<=sizeLine/\∀p,H1 p=none->Q (.ref p) (upd H1 p (.tup xs))
def abj(t:TA):TE:=fun σ H Q=>t σ H fun xs H1=>xs.length<=sizeLine/\∀p,H1 p=none->Q (.ref p) (upd H1 p (.lst xs))
theorem M4{x1}(h:PA X es t):PE X (.Tuple es x1 pos) (aax t):=by intro pins s σ H Q I hq;refine wpAny_Tuple_spliced (bL (h pos pins s σ H _ I hq) fun us s1⟨xs,H1,I1,r,z,q⟩=>⟨by rw[<-r.length];exact z,?_⟩);have hf:H1 s1.heap.objs.size=none:=I1.hok.fresh (le_refl _);refine⟨.ref s1.heap.objs.size,upd H1 s1.heap.objs.size (.tup xs),I1.laid (t':=s1.toks) (fun b u e=>get?_push_of_some _ e) (le_refl _) ?_,rfl,q _ hf⟩;exact⟨z,us,r,⟨_,get?_push_size _ rfl,rfl,_,rfl⟩⟩
theorem Qj(h:PA X es t):PE X (.List es pos) (abj t):=by intro pins s σ H Q I hq;refine wpAny_List_spliced (bL (h pos pins s σ H _ I hq) fun us s1⟨xs,H1,I1,r,z,q⟩=>⟨by rw[<-r.length];exact z,?_⟩);have hf:H1 s1.heap.objs.size=none:=I1.hok.fresh (le_refl _);refine⟨.ref s1.heap.objs.size,upd H1 s1.heap.objs.size (.lst xs),I1.laid (t':=s1.toks) (fun b u e=>get?_push_of_some _ e) (le_refl _) ?_,rfl,q _ hf⟩;exact⟨z,us,0,r,get?_push_size _ rfl⟩
end
abbrev Sp:=List V->Hp->VK->XK->Prop
abbrev El:=List Env->Hp->Shared->XK->Value->Shared->Prop
structure Jo(P:Program)(w:World)(K:PySem.W.Frag)(mg:Str->Option Value)(base:Heap)(A:Around)(outer:List Env)(s:Shared)(H:Hp):Prop where
 frames:A.frames=some outer
 mod:Mod K mg base
 bs:∀b o,base.get? b=some o->s.heap.get? b=some o/\H b=none
 K1:base.objs.size<=s.heap.objs.size
 ou:s.heap.FunFrames base outer
 Sg:∀b∈frs outer,H b=none
 hok:kY P w H s.heap
 bare:AllBare s.gens
def CE(outer:List Env)(P:Program)(w:World)(H:Hp)(s:Shared)(Q:VK)(u:Value)(s':Shared):Prop:=∃v H',s'.os=s.os/\AllBare s'.gens/\Un (frs outer) [] H H' s.heap s'.heap/\kY P w H' s'.heap/\RelV v u/\Q v H'
def CR(CX:El)(outer:List Env)(P:Program)(w:World)(H:Hp)(s:Shared)(Q:VK)(E:XK)(r:Result)(s':Shared):Prop:=match r with|.ok (.ret u)=>CE outer P w H s Q u s'|.ok _=>False|.error e=>CX outer H s E e s'
structure bJ(P:Program)(w:World)(K:PySem.W.Frag)(mg:Str->Option Value)(base:Heap)(CX:El)(k:Nat)(f:Addr)(fd:FuncData)(ps:List Str)(sp:Sp):Prop where
 len:∀vs H Q E,sp vs H Q E->vs.length=ps.length
 run:∀(A:Around)(outer:List Env)(s:Shared)(H:Hp)(args:Args)(us:List Value)(vs:List V)(Q:VK)(E:XK),iB k A->Jo P w K mg base A outer s H->BindsTo s fd args (ps.zip us)->Vals vs us->sp vs H Q E->codeAny (model P w) A (.call (.ref f) args) (CR CX outer P w H s Q E) s
section
variable{X:Cx}{pins:List (Addr×Obj)}{σ:St}{H:Hp}{s s':Shared}
theorem Inv.env0(I:Inv X pins σ H s):Jo X.prog X.w X.K X.mg X.base X.A X.stack s H:=⟨I.ok.frames,I.ok.mod,I.bs,le_trans I.ok.K1 I.sz,I.stack,I.yM,I.hok,I.bare⟩
theorem Inv.after{Q:VK}{u:Value}(I:Inv X pins σ H s)(h:CE X.stack X.prog X.w H s Q u s'):EP X pins σ Q u s':=by obtain⟨v,H',os,bare,un,hok,r,q⟩:=h;obtain⟨hh,g,d,t,os'⟩:=s';obtain rfl:os'=s.os:=os;exact⟨v,H',I.call (h':=hh) (g':=g) (d':=d) (t':=t) (ch:=[]) un hok bare (fun b z=>absurd z (by simp)),r,q⟩
end
def Ud(sp:Sp)(K5:List V)(E:XK)(t:TA):TE:=fun σ H Q=>t σ H fun vs H1=>sp (vs++K5) H1 Q E
def Binds(K:PySem.W.Frag)(fd:FuncData)(ps:List Str)(ds:List Value):Prop:=∀(s:Shared)(us:List Value),K.In s.heap->(us++ds).length=ps.length->BindsTo s fd ⟨us,[]⟩ (ps.zip (us++ds))
theorem Binds.all{K:PySem.W.Frag}{fd:FuncData}{ps:List Str}(h:∀us:List Value,us.length=ps.length->bindArgs fd ⟨us,[]⟩=pure (ps.zip us)):Binds K fd ps []:=fun s us _ hl=>by rw[append_nil]at hl ⊢;exact .of_eq (h us hl)
def Passes(CX:El)(X:Cx)(E:XK):Prop:=∀(pins:List (Addr×Obj))(σ:St)(H:Hp)(s:Shared)(e:Value)(s':Shared),Inv X pins σ H s->CX X.stack H s E e s'->X.xe e s'
section
variable{X:Cx}{CX:El}{k:Nat}{f C:Addr}{fd:FuncData}{ps:List Str}{sp:Sp}{K5:List V}{ds:List Value}{E:XK}{x m:Str}{p pos apos:Pos}{e o:Expr}{es:List Expr}{ta:TE}{t:TA}
theorem Mz{pins:List (Addr×Obj)}{σ:St}{H:Hp}{s:Shared}{Q:VK}{us:List Value}{vs:List V}(F:bJ X.prog X.w X.K X.mg X.base CX k f fd ps sp)(hr:iB k X.A)(hb:Binds X.K fd ps ds)(hd:Vals K5 ds)(hx:Passes CX X E)(I:Inv X pins σ H s)(r:Vals vs us)(h:sp (vs++K5) H Q E):wpAny (model X.prog X.w) X.A (call (.ref f) us) (EP X pins σ Q) X.xe s:=by
 have r2:Vals (vs++K5) (us++ds):=r.append hd;have hl:(us++ds).length=ps.length:=by rw[<-r2.length];exact F.len _ _ _ _ h
 refine wpAny_call (codeAny_mono (F.run X.A X.stack s H ⟨us,[]⟩ (us++ds) (vs++K5) Q E hr I.env0 (hb s us I.Rp hl) r2 h) fun r s' hq=>?_);cases r with|error e=>exact hx pins σ H s e s' I hq|ok fl=>cases fl with|ret u=>exact I.after hq|next=>exact False.elim hq|brk=>exact False.elim hq|cont=>exact False.elim hq
theorem HF(F:bJ X.prog X.w X.K X.mg X.base CX k f fd ps sp)(hr:iB k X.A)(hg:Gl X x)(hm:X.mg x=some (.ref f))(hk:keepIn X.K (.ref f)=true)(hb:Binds X.K fd ps ds)(hd:Vals K5 ds)(hx:Passes CX X E)(ha:PA X (e::es) t)(hdb:(x==("__debug__":Str))=false:=by decide)(he:starEach (e::es) X.env=(false,eval e X.env)::starEach es X.env:=by rfl)(hpl:(backTo pos (starEach es X.env)).any (·.1)=false:=by rfl):PE X (.Call (.Name x p) (e::es) [] pos) (Ud sp K5 E t):=by intro pins s σ H Q I h;refine wpAny_Call_Name_kw (GP I hg hm ?_ hdb);refine PySem.W.callWith_K (h₀:=X.base) I.ok.mod.pL hk (bL (ha pos pins s σ H _ I h) fun us s1⟨vs,H1,I1,r,q⟩=>⟨I1.Rp,?_⟩) he hpl;exact Mz F hr hb hd hx I1 r q
end
structure aL(N P:List Str)(sc:Scope):Prop where
 kind:sc.kind=.function
 co:sc.isCoroutine=false
 gen:sc.isGenerator=false
 nd:N.Nodup
 pre:N.take P.length=P
 par:∀x∈P,sc.names.lookup x=some .local\/sc.names.lookup x=some .cell
 Qu:∀y∈sc.names,y.2≠.free
theorem ql{kindOf:Str->Option NameKind}{x:Str}:∀{binds:List (Str×Value)}{m:Str->Option Value},(∀v,(x,v)∉binds)->bindL kindOf binds m x=m x
 |[],_,_=>rfl|(n,v)::r,m,h=>by
   unfold bindL;rw[ql fun w hw=>h w (mem_cons_of_mem _ hw)];split
   . have:x≠n:=by rintro rfl;exact h v mem_cons_self
     simp[this]
   .rfl
theorem qJ{kindOf:Str->Option NameKind}{x:Str}:∀{binds:List (Str×Value)}{m:Str->Option Value},(∀v,(x,v)∉binds)->bindC kindOf binds m x=m x
 |[],_,_=>rfl|(n,v)::r,m,h=>by
   unfold bindC;rw[qJ fun w hw=>h w (mem_cons_of_mem _ hw)];split;.rfl
   . have:x≠n:=by rintro rfl;exact h v mem_cons_self
     simp[this]
theorem qF{kindOf:Str->Option NameKind}{x:Str}{v:Value}:∀{P:List Str}{vs:List Value}{i:Nat}{m:Str->Option Value},P.Nodup->P[i]?=some x->vs[i]?=some v->kindOf x=some .local->bindL kindOf (P.zip vs) m x=some v|[],_,_,_,_,h,_,_=>by simp at h|_::_,[],_,_,_,_,h,_=>by simp at h|p::P,w::vs,0,m,nd,h1,h2,hk=>by simp at h1 h2;subst h1;subst h2;show bindL kindOf ((p,w)::P.zip vs) m p=_;unfold bindL;rw[ql fun v hv=>(nodup_cons.mp nd).1 (of_mem_zip hv).1,if_pos hk];simp|p::P,w::vs,i+1,m,nd,h1,h2,hk=>by show bindL kindOf ((p,w)::P.zip vs) m x=_;unfold bindL;exact qF (i:=i) (nodup_cons.mp nd).2 (by simpa using h1) (by simpa using h2) hk
theorem qG{kindOf:Str->Option NameKind}{x:Str}{v:Value}:∀{P:List Str}{vs:List Value}{i:Nat}{m:Str->Option Value},P.Nodup->P[i]?=some x->vs[i]?=some v->kindOf x≠some .local->bindC kindOf (P.zip vs) m x=some v|[],_,_,_,_,h,_,_=>by simp at h|_::_,[],_,_,_,_,h,_=>by simp at h|p::P,w::vs,0,m,nd,h1,h2,hk=>by simp at h1 h2;subst h1;subst h2;show bindC kindOf ((p,w)::P.zip vs) m p=_;unfold bindC;rw[qJ fun v hv=>(nodup_cons.mp nd).1 (of_mem_zip hv).1,if_neg hk];simp|p::P,w::vs,i+1,m,nd,h1,h2,hk=>by show bindC kindOf ((p,w)::P.zip vs) m x=_;unfold bindC;exact qG (i:=i) (nodup_cons.mp nd).2 (by simpa using h1) (by simpa using h2) hk
noncomputable def start(N:List Str)(vs:List V):St:=vs.map some++replicate (N.length-vs.length) none
noncomputable def vH(CX:El)(P:Program)(w:World)(K:PySem.W.Frag)(mg:Str->Option Value)(base:Heap)(N:List Str)(qual:Str)(scope:Scope)(f:Addr)(cd:Value)(A:Around)(outer:List Env)(s:Shared)(H:Hp)(E:XK):Cx where prog:=P;w:=w;K:=K;mg:=mg;base:=base;A:=A.deeper (envOfC qual scope s.heap.objs.size f cd);N:=N;s₀:=s;H₀:=H;env:=envOfC qual scope s.heap.objs.size f cd;outer:=outer;stack:=envOfC qual scope s.heap.objs.size f cd::outer;ex:=[];calm:=true;fn:=fun _=>true;pn:=[];xe:=fun e s'=>wpAny (model P w) (A.deeper (envOfC qual scope s.heap.objs.size f cd)) (leaving (envOfC qual scope s.heap.objs.size f cd) e) (fun _ s''=>CX outer H s E e s'') (fun e' s''=>CX outer H s E e' s'') s'
theorem tL{sc:Scope}{n:Nat}{x:Str}(h:sc.names.lookup x=some .cell):∃c,(cellsFrom n sc.names []).lookup x=some c:=by have q:=PySem.W.cellsFrom_some sc.names n [] (.inl h);exact Option.isSome_iff_exists.mp q
theorem zM{CX:El}{P:Program}{w:World}{K:PySem.W.Frag}{mg:Str->Option Value}{base:Heap}{N ps:List Str}{qual:Str}{scope:Scope}{f:Addr}{cd:Value}{A:Around}{outer:List Env}{s s1:Shared}{H:Hp}{E:XK}{us:List Value}{vs:List V}(S:aL N ps scope)(hd:A.handled=none)(e0:Jo P w K mg base A outer s H)(hl:vs.length=ps.length)(r:Vals vs us)(x:InCallC s s.heap.objs.size (bindL (envOfC qual scope s.heap.objs.size f cd).kindOf (ps.zip us) fun _=>none) (cellsFrom (s.heap.objs.size+1) scope.names []) (bindC (envOfC qual scope s.heap.objs.size f cd).kindOf (ps.zip us) fun _=>none) s1):Inv (vH CX P w K mg base N qual scope f cd A outer s H E) [] (start N vs) H s1:=by
 have hpl:ps.length<=N.length:=by have:=congrArg List.length S.pre;rw[length_take]at this;omega
 obtain⟨h1,tk,rfl,hk⟩:=x.done;have V0:∀b:Addr,b∉(vH CX P w K mg base N qual scope f cd A outer s H E).ex:=fun b z=>absurd (show b∈([]:List Addr)from z) (by simp);refine⟨⟨e0.mod,S.kind,rfl,rfl,le_refl _,fun y z c h1 h2=>?_,fun y hy=>?_,fun y c _ h=>?_,fun _=>hd,Around.frames_deeper e0.frames,.inr ⟨rfl,rfl⟩,fun b z=>absurd z (V0 b),e0.bs,e0.K1,fun b _ _=>V0 b,fun b z=>absurd z (V0 b),e0.ou,e0.Sg⟩,rfl,e0.bare,Un.kept hk,⟨_,x.toInCall.ns,fun i y v h1 h2 h3=>?_⟩,fun y c h=>⟨_,x.cell y c h⟩,e0.hok.fresh (le_refl _),fun y c h=>?_,fun p hp=>absurd (show p∈([]:List (Addr×Obj))from hp) (by simp),e0.hok.kept hk,?_⟩;.exact name_of_addr x.apart (PySem.mem_of_lookup h1) (PySem.mem_of_lookup h2)
 . have hy:scope.names.lookup y=some .cell\/scope.names.lookup y=some .free:=hy;rcases hy with hy|hy;.exact tL hy
   .exact absurd rfl (S.Qu _ (PySem.mem_of_lookup hy))
 .exact le_of_lt (x.above y c (PySem.mem_of_lookup h))
 . have hi:i<vs.length:=by
    unfold start at h2;by_cases hi:i<vs.length;.exact hi
    .rw[getElem?_append_right (by simpa using hi)]at h2;rw[List.getElem?_replicate]at h2;split at h2<;>cases h2
   have ha:vs[i]?=some v:=by unfold start at h2;rw[getElem?_append_left (by simpa using hi),getElem?_map]at h2;cases e:vs[i]?with|none=>rw[e]at h2;cases h2|some a=>rw[e]at h2;cases h2;rfl
   obtain⟨u,hu,rv⟩:=r.get ha;have hp:ps[i]?=some y:=by rw[<-S.pre,List.getElem?_take_of_lt (by omega)];exact h1
   have ndP:ps.Nodup:=by rw[<-S.pre];exact S.nd.sublist (List.take_sublist _ _)
   refine⟨u,rv,?_⟩;rcases S.par y (mem_of_getElem? hp)with k|k;.exact .inl ⟨k,qF ndP hp hu k⟩
   .obtain⟨c,e⟩:=tL (n:=s.heap.objs.size+1) k;refine .inr ⟨.inl k,c,e,?_⟩;have q:=x.cell y c e;rw[qG ndP hp hu (by show scope.names.lookup y≠_;rw[k];decide)]at q;exact q
 .exact e0.hok.fresh (le_of_lt (x.above y c (PySem.mem_of_lookup h)))
 .unfold start;show _=N.length;rw[length_append,length_map,List.length_replicate];omega
theorem Uk{CX:El}{P:Program}{w:World}{K:PySem.W.Frag}{mg:Str->Option Value}{base:Heap}{k:Nat}{f:Addr}{name qual:Str}{params:Arguments}{body:List Stmt}{scope:Scope}{dV kV doc pm cdv ct oc:Value}{an od:Option Addr}{osl:Array (Option Value)}{N ps:List Str}{sp:Sp}(lk:K.lookup f=some ⟨oc,od,.func (PySem.W.fnOf name qual params body scope dV kV doc pm an cdv ct),osl⟩)(hcd:PySem.W.codeIn K cdv qual=true)(S:aL N ps scope)(len:∀vs H Q E,sp vs H Q E->vs.length=ps.length)(hbody:∀(A:Around)(outer:List Env)(s:Shared)(H:Hp)(vs:List V)(Q:VK)(E:XK),iB k (A.deeper (envOfC qual scope s.heap.objs.size f cdv))->sp vs H Q E->∃t,uf (vH CX P w K mg base N qual scope f cdv A outer s H E) body t/\t {nx:=fun _ H'=>Q .non H',rt:=Q} (start N vs) H):bJ P w K mg base CX (k+1) f (PySem.W.fnOf name qual params body scope dV kV doc pm an cdv ct) ps sp:=by
 refine⟨len,fun A outer s H args us vs Q E hr e0 hb r hsp=>?_⟩;have hl:=len _ _ _ _ hsp;have KX:K.In s.heap:=e0.mod.pL.keeps fun b o e=>(e0.bs b o e).1;have lim:s.heap.NoLimit:=e0.mod.nolimit.keeps fun b o e=>(e0.bs b o e).1;have hkind:∀y∈ps.zip us,scope.names.lookup y.1=some .local\/(scope.names.lookup y.1=some .cell/\((cellsFrom (s.heap.objs.size+1) scope.names []).lookup y.1).isSome=true):=fun⟨n,v⟩hy=>by
  rcases S.par n (of_mem_zip hy).1 with q|q;.exact .inl q
  .exact .inr ⟨q,PySem.W.cellsFrom_some _ _ _ (.inl q)⟩
 refine codeAny_call_function hr.depth (KX _ _ lk) rfl S.co S.gen rfl (PySem.W.codeRec_of KX hcd) (hb _ _ _ _ ?_);refine wpAny_newFunctionEnv_cells S.kind hkind fun env he s1 x=>?_;subst he;refine⟨lim.keeps x.toInCall.keep,codeAny_func ?_⟩;obtain⟨t,ht,hq⟩:=hbody A outer s H vs Q E (hr.deeper _) hsp;have I:Inv (vH CX P w K mg base N qual scope f cdv A outer s H E) [] (start N vs) H s1:=zM S hr.hd e0 hl r x;refine wpAny_mono (ht [] s1 (start N vs) H _ I hq) (fun fl s' hs=>?_) fun e s' hs=>hs;have fin:∀{σ':St}{H':Hp}{v:V}{u:Value},Inv (vH CX P w K mg base N qual scope f cdv A outer s H E) [] σ' H' s'->RelV v u->Q v H'->CE outer P w H s Q u s':=fun{σ' H' v u}J rv q=>⟨v,H',J.os,J.bare,J.base,J.hok,rv,q⟩;cases fl with|ret u=>obtain⟨v,σ',H',J,rv,q⟩:=hs;exact fin J rv q|next=>obtain⟨σ',H',J,q⟩:=hs;exact fin (v:=V.non) (u:=Value.none) J rfl q|brk=>obtain⟨_,_,_,q⟩:=hs;exact False.elim q|cont=>obtain⟨_,_,_,q⟩:=hs;exact False.elim q
section
variable{X:Cx}{x:Str}{p pos:Pos}{e:Expr}{es:List Expr}{t:TA}{id T:String}{r:List V->Hp->VK->Prop}
def WY(r:List V->Hp->VK->Prop)(t:TA):TE:=fun σ H Q=>t σ H fun vs H1=>r vs H1 Q
theorem dW(hc:dH X (.builtin id) r)(hg:Gl X x)(hm:X.mg x=none)(hv:bootBuiltins x=some (.builtin id))(ha:PA X (e::es) t)(hn:x≠"__name__":=by decide)(hdb:(x==("__debug__":Str))=false:=by decide)(he:starEach (e::es) X.env=(false,eval e X.env)::starEach es X.env:=by rfl)(hpl:(backTo pos (starEach es X.env)).any (·.1)=false:=by rfl):PE X (.Call (.Name x p) (e::es) [] pos) (WY r t):=by intro pins s σ H Q I h;refine wpAny_Call_Name_kw (lH I hg hm hv ?_ hn hdb);exact PyProof.Rows.callWith_builtin1 (bL (ha pos pins s σ H _ I h) fun us s1⟨vs,H1,I1,r1,q1⟩=>hc pins s1 σ H1 vs us Q I1 r1 q1) he hpl
theorem lR(hc:dH X (.type T) r)(hg:Gl X x)(hm:X.mg x=none)(hv:bootBuiltins x=some (.type T))(ha:PA X (e::es) t)(hn:x≠"__name__":=by decide)(hdb:(x==("__debug__":Str))=false:=by decide)(he:starEach (e::es) X.env=(false,eval e X.env)::starEach es X.env:=by rfl)(hpl:(backTo pos (starEach es X.env)).any (·.1)=false:=by rfl):PE X (.Call (.Name x p) (e::es) [] pos) (WY r t):=by intro pins s σ H Q I h;refine wpAny_Call_Name_kw (lH I hg hm hv ?_ hn hdb);exact PyProof.Rows.callWith_type1 (bL (ha pos pins s σ H _ I h) fun us s1⟨vs,H1,I1,r1,q1⟩=>hc pins s1 σ H1 vs us Q I1 r1 q1) he hpl
end
end L2
namespace HT
open PySem PyProof.Rows
section
variable{prog:Program}{w:World}{A:Around}{E:Value->Shared->Prop}{s:Shared}
theorem Jv{t b:Addr}{vs ws:List Value}{Q:Value->Shared->Prop}(ht:IsTup s.heap t vs.toArray)(hb:IsTup s.heap b ws.toArray)(hv:vs≠[])(h1:ws=[]->Q (.ref t) s)(h2:ws≠[]->Q (.ref s.heap.objs.size) {s with heap:=s.heap.push {cls:=.type "tuple",data:=.seq (vs++ws).toArray}})(hsz:vs.length+ws.length<=sizeLine):wpAny (model prog w) A (binaryOp .Add (.ref t) (.ref b)) Q E s:=by
 obtain⟨⟨cls,dd,data,sl⟩,ho,hc,n,hd⟩:=id ht;obtain⟨⟨cls2,dd2,data2,sl2⟩,ho2,hc2,n2,hd2⟩:=id hb;simp only at hc hd hc2 hd2;subst hc hd hc2 hd2;have e:vs.toArray++ws.toArray=(vs++ws).toArray:=by simp
 by_cases hw:ws=[];.exact concat_meets ⟨_,ho,rfl⟩ ⟨_,ho2,rfl⟩ noFill_tuple_add seq_tuple_add slot_tuple_add entry_tuple_add (args_tuple_add_2 _ _) (tuple_addW1 t b vs.toArray ws.toArray n n2 dd dd2 sl sl2 (by simpa using hv) (by simp[hw])) ⟨ho,ho2,h1 hw⟩
 .refine concat_meets ⟨_,ho,rfl⟩ ⟨_,ho2,rfl⟩ noFill_tuple_add seq_tuple_add slot_tuple_add entry_tuple_add (args_tuple_add_2 _ _) (tuple_addW2 t b vs.toArray ws.toArray n n2 dd dd2 sl sl2 (by simpa using hv) (by simpa using hw) (by rw[size_toArray,size_toArray];exact hsz)) ⟨ho,ho2,?_⟩;rw[e];exact h2 hw
noncomputable def cN(n d:Nat):Option Int->Nat|none=>d|some v=>if v<0 then(v+(n:Int)).toNat else min v.toNat n
theorem O4(n d:Nat)(hd:d<=n)(o:Option Int):cN n d o<=n:=by cases o with|none=>exact hd|some v=>
   show(if v<0 then(v+(n:Int)).toNat else min v.toNat n)<=n;by_cases hv:v<0;.rw[if_pos hv];omega
   .rw[if_neg hv];exact Nat.min_le_right _ _
theorem ye(v:Int)(n d:Nat):(if v<0 then max (v+(n:Int)) 0 else min v (n:Int))=((cN n d (some v):Nat):Int):=by
 show(if v<0 then max (v+(n:Int)) 0 else min v (n:Int))=(((if v<0 then(v+(n:Int)).toNat else min v.toNat n):Nat):Int);by_cases hv:v<0;.simp only[if_pos hv];omega
 .simp only[if_neg hv];omega
theorem wK(lo hi:Option Int)(n:Nat):sliceAdjust lo hi 1 (n:Int)=(((cN n 0 lo:Nat):Int),((cN n n hi:Nat):Int)):=by
 have h1:¬((1:Int)<0):=by omega
 unfold sliceAdjust;simp only[h1,if_false];refine Prod.ext ?_ ?_;.cases lo with|none=>rfl|some v=>exact ye v n 0
 .cases hi with|none=>rfl|some v=>exact ye v n n
theorem wg(i j:Nat):slicePlaces (i:Int) (j:Int) 1=j-i:=by
 unfold slicePlaces;have h1:(1:Int)>0:=by omega
 simp only[h1,if_true,Int.ediv_one];split<;>omega
theorem oA{v:Value}{o:Option Int}{Q:Option Int->Shared->Prop}(p:IsPart v o)(h:Q o s):wpAny (model prog w) A (Builtin.Slice.slicePartIndex v) Q E s:=by cases p with|none=>exact slicePart_none h|int i t=>exact slicePart_int h
theorem gq{sl:Addr}{vl vu:Value}{lo hi:Option Int}{n:Nat}{Q:Int×Int×Nat->Shared->Prop}(hs:s.heap.IsSliceOf sl vl vu .none)(pl:IsPart vl lo)(pu:IsPart vu hi)(h:Q (((cN n 0 lo:Nat):Int),1,cN n n hi-cN n 0 lo) s):wpAny (model prog w) A (sliceApplied (.ref sl) (pure (n:Int))) Q E s:=by obtain⟨os,hos,hcs,hds⟩:=id hs;unfold sliceApplied Builtin.Slice.sliceFields;refine wpAny_bind (wpAny_bind (wpAny_field hos hds (x:=vl) rfl (wpAny_bind (wpAny_field hos hds (x:=vu) rfl (wpAny_bind (wpAny_field hos hds (x:=.none) rfl (wpAny_pure ?_)))))));refine wpAny_bind (slicePart_none ?_);show wpAny _ _ (if((1:Int)==0)=true then _ else _) _ _ s;rw[if_neg (by decide)];refine wpAny_bind (oA pl (wpAny_bind (oA pu (wpAny_bind (wpAny_pure ?_)))));show wpAny _ _ (match sliceAdjust lo hi 1 (n:Int)with|(lo,hi)=>pure (lo,(1:Int),slicePlaces lo hi 1)) _ _ s;rw[wK lo hi n];show wpAny _ _ (pure (((cN n 0 lo:Nat):Int),(1:Int),slicePlaces ((cN n 0 lo:Nat):Int) ((cN n n hi:Nat):Int) 1)) _ _ s;rw[wg];exact wpAny_pure h
theorem Es(xs:Array Value)(i k:Nat):((List.range k).filterMap fun(m:Nat)=>xs[((i:Int)+(m:Int)*1).toNat]?).toArray=((xs.toList.drop i).take k).toArray:=by
 have e:(fun(m:Nat)=>xs[((i:Int)+(m:Int)*1).toNat]?)=fun m=>xs[i+m]?:=by
  funext m;have:((i:Int)+(m:Int)*1).toNat=i+m:=by omega
  rw[this]
 rw[e];have:=pick_run xs i k;rw[List.filterMap_map]at this;have e2:((fun x=>xs[x]?)∘ fun x=>i+x)=fun m=>xs[i+m]?:=rfl;rw[e2]at this;rw[this]
theorem jW{t sl:Addr}{items:Array Value}{vl vu:Value}{lo hi:Option Int}{Q:Value->Shared->Prop}(ht:IsTup s.heap t items)(hs:s.heap.IsSliceOf sl vl vu .none)(pl:IsPart vl lo)(pu:IsPart vu hi)(hw:¬(cN items.size 0 lo=0/\cN items.size items.size hi=items.size))(h:Q (.ref s.heap.objs.size) {s with heap:=s.heap.push {cls:=.type "tuple",data:=.seq ((items.toList.drop (cN items.size 0 lo)).take (cN items.size items.size hi-cN items.size 0 lo)).toArray}})(hsz:items.size<=sizeLine):wpAny (model prog w) A (getItem (.ref t) (.ref sl)) Q E s:=by
 have zr:sizeOk (.seq ((items.toList.drop (cN items.size 0 lo)).take (cN items.size items.size hi-cN items.size 0 lo)).toArray):=by show((items.toList.drop (cN items.size 0 lo)).take (cN items.size items.size hi-cN items.size 0 lo)).toArray.size<=sizeLine;rw[size_toArray,length_take,List.length_drop,length_toList];omega
 have hj:cN items.size items.size hi<=items.size:=O4 _ _ (le_refl _) hi;obtain⟨os,hos,hcs,hds⟩:=id hs;have hTs:s.TypeIs (.ref sl) "slice":=⟨os,hos,hcs⟩;unfold getItem;try with_reducible refine wpAny_holding ?_
 first|refine wpAny_bind (wpAny_pure ?_)|skip
 refine wpAny_bind (wpAny_sequenceKey ht.typeIs (by decide) ?_);refine wpAny_bind (wpAny_callSpecial?_slot (name:=Str.ofString "__getitem__") ht.typeIs PyProof.Rows.slot_tuple_getitem (wpAny_call_entry PyProof.Rows.slot_tuple_getitem ht.typeIs entry_tuple_getitem ?_ (args_tuple_getitem _ _)));show wpAny _ _ (tupleItemsOf (.ref t)>>=_) _ _ s;refine wpAny_bind (tupleItemsOf_ ht ?_);refine wpAny_bind (wpAny_typeOf hTs ?_);rw[if_pos (by decide)];refine wpAny_bind (gq hs pl pu ?_);have hno:¬((((cN items.size 0 lo:Nat):Int)==0&&(1:Int)==1&&(cN items.size items.size hi-cN items.size 0 lo)==items.size)=true):=by intro q;rw[and_eq_true,and_eq_true]at q;have q1:((cN items.size 0 lo:Nat):Int)=0:=eq_of_beq q.1.1;have q2:cN items.size items.size hi-cN items.size 0 lo=items.size:=eq_of_beq q.2;exact hw ⟨by omega,by omega⟩
 show wpAny _ _ (if(((cN items.size 0 lo:Nat):Int)==0&&(1:Int)==1&&(cN items.size items.size hi-cN items.size 0 lo)==items.size)=true then _ else _) _ _ s;rw[if_neg hno,Es];first|exact wpAny_bind (m:=tupleExact _) (wpAny_newObj_type (wpAny_pure ⟨_,rfl,wpAny_pure h⟩) zr)|exact wpAny_bind (m:=tupleExact _) (wpAny_newObj_type (wpAny_bind (wpAny_pure (wpAny_pure ⟨_,rfl,wpAny_pure h⟩))) zr)|exact wpAny_bind (wpAny_bind (m:=tupleExact _) (wpAny_newObj_type (wpAny_pure (wpAny_pure ⟨_,rfl,wpAny_pure h⟩)) zr))|exact wpAny_bind (wpAny_bind (m:=tupleExact _) (wpAny_newObj_type (wpAny_pure ⟨_,rfl,wpAny_pure h⟩) zr))
end
end HT
namespace L2
open PySem PySem.Spec PyProof.Rows
abbrev TO:=St->Hp->(Option Int->Hp->Prop)->Prop
def PO(X:Cx)(e:Option Expr)(t:TO):Prop:=∀(pins:List (Addr × Obj))(s:Shared)(σ:St)(H:Hp)(Q:Option Int->Hp->Prop),Inv X pins σ H s->t σ H Q->wpAny (model X.prog X.w) X.A (evalPart e X.env) (fun u s'=>∃o H',Inv X pins σ H' s'/\IsPart u o/\Q o H') X.xe s
def Jr:TO:=fun _ H Q=>Q none H
def Va(t:TE):TO:=fun σ H Q=>t σ H fun x H1=>∃i,x=.int i/\Q (some i) H1
section
variable{X:Cx}{e:Expr}{te:TE}{lo hi:Option Expr}{tl th:TO}{pos p2:Pos}
theorem GJ:PO X none Jr:=by intro pins s σ H Q I h;rw[evalPart_none];exact wpAny_pure ⟨none,H,I,.none,h⟩
theorem Ip(h:PE X e te):PO X (some e) (Va te):=by intro pins s σ H Q I hw;rw[evalPart_some];refine bL (h pins s σ H _ I hw) fun u s1⟨x,H1,I1,r1,q1⟩=>?_;obtain⟨i,rfl,q⟩:=q1;obtain⟨t,rfl⟩:=r1;exact⟨some i,H1,I1,.int i t,q⟩
def WD(X:Cx)(r:V->Option Int->Option Int->Hp->VK->Prop):Prop:=∀(pins:List (Addr × Obj))(s:Shared)(σ:St)(H:Hp)(x:V)(v vl vu:Value)(lo hi:Option Int)(sl:Addr)(Q:VK),Inv X pins σ H s->RelV x v->s.heap.IsSliceOf sl vl vu .none->IsPart vl lo->IsPart vu hi->r x lo hi H Q->∃T id,typeLookup (.type T) "__getitem__"=pure (some (.builtin id))/\s.TypeIs v T/\wpAny (model X.prog X.w) X.A (getItem v (.ref sl)) (EP X pins σ Q) X.xe s
def tSl(r:V->Option Int->Option Int->Hp->VK->Prop)(te:TE)(tl th:TO):TE:=fun σ H Q=>te σ H fun x H1=>tl σ H1 fun l H2=>th σ H2 fun u H3=>r x l u H3 Q
theorem uW{r:V->Option Int->Option Int->Hp->VK->Prop}(hr:WD X r)(he:PE X e te)(hl:PO X lo tl)(hu:PO X hi th):PE X (.Subscript e (.Slice lo hi none p2) pos) (tSl r te tl th):=by intro pins s σ H Q I h;refine Subscript_ (bL (he pins s σ H _ I h) fun v s1⟨x,H1,I1,r1,q1⟩=>?_);refine wpAny_Slice (bL (hl pins s1 σ H1 _ I1 q1) fun vl s2⟨l,H2,I2,pl,q2⟩=>bL (hu pins s2 σ H2 _ I2 q2) fun vu s3⟨u,H3,I3,pu,q3⟩=>?_);rw[evalPart_none];refine wpAny_pure ?_;have I4:Inv X pins σ H3 {s3 with heap:=s3.heap.push {cls:=.type "slice",data:=.fields #[vl,vu,.none]}}:=I3.kept (t':=s3.toks) fun b ob q=>get?_push_of_some _ q;obtain⟨T,id,hT,ht,hg⟩:=hr pins {s3 with heap:=s3.heap.push {cls:=.type "slice",data:=.fields #[vl,vu,.none]}} σ H3 x v vl vu l u s3.heap.objs.size Q I4 r1 (Heap.IsSliceOf.new ..) pl pu q3;show wpAny (model X.prog X.w) X.A (subscriptTail e (.Slice lo hi none p2) v (.ref s3.heap.objs.size)) (EP X pins σ Q) X.xe {s3 with heap:=s3.heap.push {cls:=.type "slice",data:=.fields #[vl,vu,.none]}};exact tail_any (ops:=[.ref s3.heap.objs.size,v]) ht hT hg (by with_unfolding_all rfl)
noncomputable def tV(xs:List V)(lo hi:Option Int):List V:=(xs.drop (HT.cN xs.length 0 lo)).take (HT.cN xs.length xs.length hi-HT.cN xs.length 0 lo)
theorem mD(xs:List V)(lo hi:Option Int):(tV xs lo hi).length<=xs.length:=by unfold tV;rw[length_take,List.length_drop];omega
def aaQ(K:PySem.W.Frag):V->Option Int->Option Int->Hp->VK->Prop:=fun x lo hi H Q=>∃a xs,x=.ref a/\gO K H a xs/\¬(HT.cN xs.length 0 lo=0/\HT.cN xs.length xs.length hi=xs.length)/\∀p,H p=none->Q (.ref p) (upd H p (.tup (tV xs lo hi)))
theorem Mq:WD X (aaQ X.K):=by
 intro pins s σ H x v vl vu lo hi sl Q I rx hs pl pu h;obtain⟨a,xs,rfl,hx,hw,q⟩:=h;cases rx;obtain⟨its,r,ht,hz⟩:=I.tuple hx;have hlen:its.toArray.size=xs.length:=by rw[size_toArray];exact r.length.symm
 refine⟨"tuple",_,PyProof.Rows.slot_tuple_getitem.lookup,ht.typeIs,?_⟩;refine HT.jW ht hs pl pu (by rw[hlen];exact hw) ?_ (by rw[hlen];exact hz);rw[hlen];refine⟨.ref s.heap.objs.size,_,I.laid (t':=s.toks) (o:=.tup (tV xs lo hi)) (fun b ob q=>get?_push_of_some _ q) (le_refl _) ?_,rfl,q _ (I.hok.fresh (le_refl _))⟩;exact⟨le_trans (mD xs lo hi) hz,_,(r.drop (HT.cN xs.length 0 lo)).take (HT.cN xs.length xs.length hi-HT.cN xs.length 0 lo),IsTup.new _ _⟩
def Vx(K:PySem.W.Frag):R2:=fun x y H Q=>∃a b xs ys,x=.ref a/\y=.ref b/\gO K H a xs/\gO K H b ys/\xs≠[]/\xs.length+ys.length<=sizeLine/\(ys=[]->Q (.ref a) H)/\(ys≠[]->∀p,H p=none->Q (.ref p) (upd H p (.tup (xs++ys))))
theorem Vals.nF{xs:List V}{us:List Value}(r:Vals xs us):us=[]↔xs=[]:=by cases r with|nil=>simp|cons _ _=>simp
theorem Jl:gG X (binaryOp .Add) (Vx X.K):=by intro pins s σ H x y v u Q I rx ry h;obtain⟨a,b,xs,ys,rfl,rfl,ha,hb,hx,hz,q1,q2⟩:=h;cases rx;cases ry;obtain⟨its,r1,p1,_⟩:=I.tuple ha;obtain⟨its2,r2,p2,_⟩:=I.tuple hb;refine HT.Jv p1 p2 (fun z=>hx (r1.nF.mp z)) (fun z=>⟨.ref a,H,I,rfl,q1 (r2.nF.mp z)⟩) (fun z=>?_) (by rw[<-r1.length,<-r2.length];exact hz);refine⟨.ref s.heap.objs.size,_,I.laid (t':=s.toks) (o:=.tup (xs++ys)) (fun b ob q=>get?_push_of_some _ q) (le_refl _) ?_,rfl,q2 (fun w=>z (r2.nF.mpr w)) _ (I.hok.fresh (le_refl _))⟩;exact⟨by rw[length_append];exact hz,_,r1.append r2,IsTup.new _ _⟩
end
noncomputable def ig(n:Nat)(i:Int):Option Nat:=if 0<=i then(if i<n then some i.toNat else none)else if-(n:Int)<=i then some (i+n).toNat else none
noncomputable def BJ{α:Type}(xs:List α)(i:Int):Option α:=(ig xs.length i).bind fun j=>xs[j]?
theorem yF{n:Nat}{i:Int}{j:Nat}(h:ig n i=some j):seqIndex? i n=some j/\j<n/\-(n:Int)<=i/\i<n:=by
 unfold ig at h;by_cases h0:0<=i
 . rw[if_pos h0]at h;by_cases h1:i<n;.rw[if_pos h1]at h;have e:i.toNat=j:=Option.some.inj h;exact⟨by rw[seqIndex_of h0 h1,e],by omega,by omega,h1⟩
   .rw[if_neg h1]at h;cases h
 . rw[if_neg h0]at h;by_cases h1:-(n:Int)<=i;.rw[if_pos h1]at h;have e:(i+n).toNat=j:=Option.some.inj h;exact⟨by rw[seqIndex_neg (by omega) h1,e],by omega,h1,by omega⟩
   .rw[if_neg h1]at h;cases h
theorem sJ{α:Type}{xs:List α}{i:Int}{v:α}(h:BJ xs i=some v):∃j,seqIndex? i xs.length=some j/\xs[j]?=some v/\j<xs.length/\-(xs.length:Int)<=i/\i<xs.length:=by unfold BJ at h;cases e:ig xs.length i with|none=>rw[e]at h;cases h|some j=>rw[e]at h;obtain⟨h1,h2,h3,h4⟩:=yF e;exact⟨j,h1,h,h2,h3,h4⟩
def qX(b:Expr):Prop:=∀o i,subscripted b false o i=operate [o,i] (getItem o i)
def Wn(X:Cx)(r:R2):Prop:=∀(value slice:Expr)(pins:List (Addr × Obj))(s:Shared)(σ:St)(H:Hp)(x y:V)(v u:Value)(Q:VK),Inv X pins σ H s->RelV x v->RelV y u->r x y H Q->subscripted slice false v u=operate [v,u] (getItem v u)->wpAny (model X.prog X.w) X.A (subscriptTail value slice v u) (EP X pins σ Q) X.xe s
def Z7(X:Cx)(id:String)(r:V->List V->Hp->VK->Prop):Prop:=∀(pins:List (Addr × Obj))(s:Shared)(σ:St)(H:Hp)(x:V)(xs:List V)(v:Value)(us:List Value)(Q:VK),Inv X pins σ H s->RelV x v->Vals xs us->r x xs H Q->wpAny (model X.prog X.w) X.A (call (.builtin id) (v::us)) (EP X pins σ Q) X.xe s
section
variable{X:Cx}{a b:Expr}{ta tb:TE}{pos:Pos}
theorem Kc{r:R2}(hr:Wn X r)(ha:PE X a ta)(hb:PE X b tb)(hs:qX b):PE X (.Subscript a b pos) (RB r ta tb):=by intro pins s σ H Q I h;exact Subscript_ (T4 ha hb I h fun v u s2 x y H2 I2 rx ry q=>hr a b pins s2 σ H2 x y v u Q I2 rx ry q (hs _ _))
def SN(K:PySem.W.Frag):R2:=fun x y H Q=>∃p xs i v,x=.ref p/\y=.int i/\dM K H p xs/\BJ xs i=some v/\Q v H
def aaE(K:PySem.W.Frag):R2:=fun x y H Q=>∃p xs i v,x=.ref p/\y=.int i/\gO K H p xs/\BJ xs i=some v/\Q v H
theorem zb:Wn X (SN X.K):=by
 intro value slice pins s σ H x y v u Q I rx ry h hs;obtain⟨p,xs,i,z,rfl,rfl,hq,he,q⟩:=h;cases rx;obtain⟨t,rfl⟩:=ry;obtain⟨its,r,pl,hz⟩:=I.list hq;obtain⟨j,h1,h2,h3,h4,h5⟩:=sJ he;obtain⟨w,ew,u9⟩:=r.get h2;have hl:=r.length;have hn:=nP;have fin:EP X pins σ Q w s:=⟨z,H,I,u9,q⟩;by_cases h0:0<=i
 . have hj:i.toNat=j:=by rw[seqIndex_of h0 h5]at h1;exact Option.some.inj h1
   exact item_listR pl.isList h0 (by omega) (by rw[hj];simpa using ew) fin hs
 . have hj:(i+(its.toArray.size:Int)).toNat=j:=by rw[seqIndex_neg (by omega) h4]at h1;rw[size_toArray,<-hl];exact Option.some.inj h1
   exact subscriptTail_builtinR (x:=w) pl.isList.typeIs slot_list_getitem.lookup (wpAny_getItem_list_neg (Q:=fun r s'=>r=w/\EP X pins σ Q r s') pl.isList (by omega) (by rw[size_toArray]<;>omega) (by omega) (by rw[hj];simpa using ew) ⟨rfl,fin⟩) hs
theorem Oq:Wn X (aaE X.K):=by intro value slice pins s σ H x y v u Q I rx ry h hs;obtain⟨p,xs,i,z,rfl,rfl,hq,he,q⟩:=h;cases rx;obtain⟨t,rfl⟩:=ry;obtain⟨its,r,pl,hz⟩:=I.tuple hq;obtain⟨j,h1,h2,h3,h4,h5⟩:=sJ he;obtain⟨w,ew,u9⟩:=r.get h2;have hl:=r.length;have hn:=nP;have fin:EP X pins σ Q w s:=⟨z,H,I,u9,q⟩;exact subscriptTail_builtinR (x:=w) pl.typeIs slot_tuple_getitem.lookup (getItem_tuple (j:=j) (Q:=fun r s'=>r=w/\EP X pins σ Q r s') pl (by omega) (by omega) (by rw[size_toArray,<-hl];exact h1) (by simpa using ew) ⟨rfl,fin⟩) hs
theorem vV(its:List Value)(n j:Nat)(u:Value):Obj.mapSeq (·.setIfInBounds j u) {cls:=.type "list",data:=.seq its.toArray n}={cls:=.type "list",data:=.seq (its.set j u).toArray n}:=by simp[Obj.mapSeq]
theorem Inv.lst{pins:List (Addr×Obj)}{σ:St}{H:Hp}{s:Shared}{p:Addr}{xs:List V}(I:Inv X pins σ H s)(h:H p=some (.lst xs)):∃(its:List Value)(n:Nat),Vals xs its/\s.heap.get? p=some {cls:=.type "list",data:=.seq its.toArray n}/\xs.length<=sizeLine:=by obtain⟨z,its,n,r,e⟩:=I.hok p _ h;exact⟨its,n,r,e,z⟩
theorem Inv.Mj{pins:List (Addr×Obj)}{σ:St}{H:Hp}{s:Shared}{p:Addr}{xs ys:List V}{its its':List Value}{n n':Nat}{f:Obj->Obj}(I:Inv X pins σ H s)(h:H p=some (.lst xs))(ho:s.heap.get? p=some {cls:=.type "list",data:=.seq its.toArray n})(hf:f {cls:=.type "list",data:=.seq its.toArray n}={cls:=.type "list",data:=.seq its'.toArray n'})(r:Vals ys its')(hz:ys.length<=sizeLine)(t:Nat):Inv X pins σ (upd H p (.lst ys)) {s with heap:=s.heap.update p f,toks:=t}:=by
 have e:(s.heap.update p f).get? p=some {cls:=.type "list",data:=.seq its'.toArray n'}:=by rw[Heap.get?_update_self f ho (by rw[hf]<;>rfl),hf]
 refine I.write (x:=p) (e:=p) (by rw[h];trivial) (.inl rfl) (fun b u hb q=>(get?_update_other _ _ (Ne.symm hb)).trans q) ⟨_,e⟩ ?_;exact⟨hz,its',n',r,e⟩
def Vw:V->V->V->Hp->(Hp->Prop)->Prop:=fun o i v H Q=>∃p xs k j,o=.ref p/\i=.int k/\H p=some (.lst xs)/\ig xs.length k=some j/\Q (upd H p (.lst (xs.set j v)))
theorem set_list:Pj X Vw:=by
 intro pins s σ H o i v ov iv u Q I ro ri rv h;obtain⟨p,xs,k,j,rfl,rfl,hp,hj,q⟩:=h;cases ro;obtain⟨t,rfl⟩:=ri;obtain⟨its,n,r,ho,hz⟩:=I.lst hp;obtain⟨h1,h2,h3,h4⟩:=yF hj;have hl:=r.length;have hn:=nP;have I':Inv X pins σ (upd H p (.lst (xs.set j v))) {s with heap:=s.heap.update p (Obj.mapSeq (·.setIfInBounds j u))}:=I.Mj hp ho (vV its n j u) (r.set rv j) (by rw[List.length_set];exact hz) s.toks;by_cases h0:0<=k
 . have hk:k.toNat=j:=by rw[seqIndex_of h0 h4]at h1;exact Option.some.inj h1
   exact PySem.W.ki_setAt ho h0 (by omega) (by rw[size_toArray,<-hl];exact h4) (by rw[hk];exact⟨_,I',q⟩)
 . have hk:(k+(its.toArray.size:Int)).toNat=j:=by rw[seqIndex_neg (by omega) h3]at h1;rw[size_toArray,<-hl];exact Option.some.inj h1
   exact PySem.W.ki_setBack ho (by omega) (by rw[size_toArray,<-hl];exact h3) (by omega) (by rw[hk];exact⟨_,I',q⟩)
theorem sr(lo hi:Option Int)(n:Nat):(sliceBounds lo hi none n).1=((HT.cN n 0 lo:Nat):Int)/\(sliceBounds lo hi none n).2.1=((HT.cN n n hi:Nat):Int)/\(sliceBounds lo hi none n).2.2=1:=by
 refine⟨?_,?_,rfl⟩;.cases lo with|none=>simp[sliceBounds,HT.cN]|some i=>
     simp only[sliceBounds,HT.cN,getD_none,show(1:Int)>0 by decide,if_true];by_cases h:i<0;.simp only[h,if_true]<;>omega
     .simp only[h,if_false]<;>omega
 .cases hi with|none=>simp[sliceBounds,HT.cN]|some i=>
     simp only[sliceBounds,HT.cN,getD_none,show(1:Int)>0 by decide,if_true];by_cases h:i<0;.simp only[h,if_true]<;>omega
     .simp only[h,if_false]<;>omega
theorem pR(its:List Value)(lo hi:Option Int):slicePick its.toArray lo hi none=((its.drop (HT.cN its.length 0 lo)).take (HT.cN its.length its.length hi-HT.cN its.length 0 lo)).toArray:=by obtain⟨h1,h2,h3⟩:=sr lo hi its.toArray.size;unfold slicePick;rw[h1,h2,h3];simp only[sliceRange_one,pick_run,size_toArray]<;>rfl
def aa5(K:PySem.W.Frag):V->Option Int->Option Int->Hp->VK->Prop:=fun x lo hi H Q=>∃a xs,x=.ref a/\dM K H a xs/\∀p,H p=none->Q (.ref p) (upd H p (.lst (tV xs lo hi)))
theorem Ie:WD X (aa5 X.K):=by intro pins s σ H x v vl vu lo hi sl Q I rx hs pl pu h;obtain⟨a,xs,rfl,hx,q⟩:=h;cases rx;obtain⟨its,r,ht,hz⟩:=I.list hx;have hlen:=r.length;refine⟨"list",_,slot_list_getitem.lookup,ht.isList.typeIs,?_⟩;refine wpAny_getItem_list_slice ht.isList hs pl pu .none (by simp) ?_ (by rw[size_toArray]<;>omega);rw[pR,<-hlen];refine⟨.ref s.heap.objs.size,_,I.laid (t':=s.toks) (o:=.lst (tV xs lo hi)) (fun b ob q=>get?_push_of_some _ q) (le_refl _) ?_,rfl,q _ (I.hok.fresh (le_refl _))⟩;exact⟨le_trans (mD xs lo hi) hz,_,0,(r.drop (HT.cN xs.length 0 lo)).take (HT.cN xs.length xs.length hi-HT.cN xs.length 0 lo),get?_push_size _ rfl⟩
theorem rQ:dH X (.builtin "len") (fun xs H Q=>∃p ys,xs=[.ref p]/\(dM X.K H p ys\/gO X.K H p ys)/\Q (.int ys.length) H):=by
 intro pins s σ H xs us Q I r h;obtain⟨p,ys,rfl,hq,q⟩:=h;obtain⟨u,rfl,rx⟩:=vals1 r;cases rx;have hn:=nP;rcases hq with hq|hq;.obtain⟨its,r',pl,hz⟩:=I.list hq;have hlen:=r'.length;exact Calls.call_len_list pl.isList (by simp only[size_toArray]<;>omega) ⟨.int ys.length,H,I.tok _,⟨s.toks+1,by rw[size_toArray,hlen]⟩,q⟩
 .obtain⟨its,r',pl,hz⟩:=I.tuple hq;have hlen:=r'.length;exact len_tuple pl (by simp only[size_toArray]<;>omega) ⟨.int ys.length,H,I.tok _,⟨s.toks+1,by rw[size_toArray,hlen]⟩,q⟩
theorem qR:dH X (.type "list") (fun xs H Q=>∃p ys,xs=[.ref p]/\(dM X.K H p ys\/gO X.K H p ys)/\∀l,H l=none->Q (.ref l) (upd H l (.lst ys))):=by
 intro pins s σ H xs us Q I r h;obtain⟨p,ys,rfl,hq,q⟩:=h;obtain⟨u,rfl,rx⟩:=vals1 r;cases rx;have fin:∀(its:List Value),Vals ys its->ys.length<=sizeLine->∀(h':Heap)(c':Nat),(∀b o',s.heap.get? b=some o'->h'.get? b=some o')->h'.get? s.heap.objs.size=some {cls:=.type "list",dict:=none,data:=.seq its.toArray c',slots:=#[]}->EP X pins σ Q (.ref s.heap.objs.size) {s with heap:=h'}:=fun its r' hz h' c' kp e=>⟨.ref s.heap.objs.size,_,I.laid (t':=s.toks) kp (le_refl _) (show bw X.prog X.w _ h' _ (.lst ys)from⟨hz,its,c',r',e⟩),rfl,q _ (I.hok.fresh (le_refl _))⟩;rcases hq with hq|hq;.obtain⟨its,r',pl,hz⟩:=I.list hq;have hlen:=r'.length;obtain⟨o,ho,hc,n,hd⟩:=pl.isList;exact call_list_seq p (.inl rfl) ho hc hd (fun h' c' kp e=>fin its r' hz h' c' kp e) (by simp only[size_toArray]<;>omega)
 .obtain⟨its,r',pl,hz⟩:=I.tuple hq;have hlen:=r'.length;obtain⟨o,ho,hc,n,hd⟩:=pl;exact call_list_seq p (.inr rfl) ho hc hd (fun h' c' kp e=>fin its r' hz h' c' kp e) (by simp only[size_toArray]<;>omega)
theorem ju:dH X (.type "tuple") (fun xs H Q=>∃p ys,xs=[.ref p]/\((dM X.K H p ys/\∀l,H l=none->Q (.ref l) (upd H l (.tup ys)))\/(gO X.K H p ys/\Q (.ref p) H))):=by
 intro pins s σ H xs us Q I r h;obtain⟨p,ys,rfl,h⟩:=h;obtain⟨u,rfl,rx⟩:=vals1 r;cases rx;rcases h with⟨hq,q⟩|⟨hq,q⟩;.obtain⟨its,r',pl,hz⟩:=I.list hq;have hlen:=r'.length;refine call_tuple_list pl.isList (fun h' kp=>?_) (by simp only[size_toArray]<;>omega);have I1:Inv X pins σ H {s with heap:=h'}:=I.kept (t':=s.toks) kp;have I2:Inv X pins σ (upd H h'.objs.size (.tup ys)) {s with heap:=h'.push {cls:=.type "tuple",data:=.seq its.toArray}}:=I1.laid (t':=s.toks) (fun b o e=>get?_push_of_some _ e) (le_refl _) (show bw X.prog X.w _ _ _ (.tup ys)from⟨hz,its,r',IsTup.new _ _⟩);exact⟨.ref h'.objs.size,_,I2,rfl,q _ (I1.hok.fresh (le_refl _))⟩
 .obtain⟨its,r',pl,hz⟩:=I.tuple hq;exact call_tuple_same pl ⟨.ref p,H,I,rfl,q⟩
def tyV(K:PySem.W.Frag)(T:String)(x:V)(H:Hp):Prop:=match x with|.str _=>T="str"|.int _=>T="int"|.ref p=>(T="list"/\∃xs,dM K H p xs)\/(T="tuple"/\∃o,K.lookup p=some o/\o.cls=.type "tuple"/\o.dict=none)\/(T="dict"/\((∃kvs,H p=some (.dK kvs))\/∃kvs,H p=some (.dT kvs)))\/(T="set"/\∃S n,H p=some (.set S n))|_=>False
theorem O1{pins:List (Addr×Obj)}{σ:St}{H:Hp}{s:Shared}{T:String}{x:V}{v:Value}(I:Inv X pins σ H s)(r:RelV x v)(ty:tyV X.K T x H):
 s.TypeIs v T/\∀a,v=.ref a->∃ob,s.heap.get? a=some ob/\ob.dict=none:=by cases x with|str z=>obtain⟨t,rfl⟩:=r;cases(show T="str"from ty);exact⟨typeIs_str s z t,fun _ e=>nomatch e⟩|int i=>obtain⟨t,rfl⟩:=r;cases(show T="int"from ty);exact⟨typeIs_int s i t,fun _ e=>nomatch e⟩|ref p=>
   cases r;rcases ty with⟨rfl,xs,hq⟩|⟨rfl,o,hk,hc,hd⟩|⟨rfl,hk⟩|⟨rfl,S,n,hk⟩;.obtain⟨its,_,pl,_⟩:=I.list hq;refine⟨pl.isList.typeIs,fun a e=>?_⟩;cases e;obtain⟨o,n,e,c,hd,_⟩:=pl;exact⟨o,e,hd⟩
   .refine⟨⟨o,I.Rp p o hk,hc⟩,fun a e=>?_⟩;cases e;exact⟨o,I.Rp _ o hk,hd⟩
   . have z:∃o,s.heap.get? p=some o/\o.ExactDict:=by
      rcases hk with⟨kvs,hk⟩|⟨kvs,hk⟩;.obtain⟨_,_,_,_,o,_,_,e,ex,_⟩:=I.hok p _ hk;exact⟨o,e,ex⟩
      .obtain⟨_,_,_,_,o,_,_,e,ex,_⟩:=I.hok p _ hk;exact⟨o,e,ex⟩
     obtain⟨o,e,ex⟩:=z;refine⟨⟨o,e,ex.1⟩,fun a e2=>?_⟩;cases e2;exact⟨o,e,ex.2.1⟩
   .obtain⟨o,_,_,_,e,ex,_⟩:=I.hok p _ hk;refine⟨⟨o,e,ex.1⟩,fun a e2=>?_⟩;cases e2;exact⟨o,e,ex.2.1⟩|_=>exact False.elim ty
def tBM(K:PySem.W.Frag)(T:String)(r:V->List V->Hp->VK->Prop)(to:TE)(t:TA):TE:=fun σ H Q=>to σ H fun x H1=>tyV K T x H1/\t σ H1 fun xs H2=>r x xs H2 Q
variable{o e:Expr}{es:List Expr}{to:TE}{t:TA}{name:Str}{apos cpos:Pos}{T id:String}{r:V->List V->Hp->VK->Prop}
theorem BK(pa:PlainAttrs T)(slot:Slot T name id)(hty:typeOf (.builtin id)=pure (.type "method_descriptor"))(hm:Z7 X id r)(ho:PE X o to)(ha:PA X (e::es) t)(hbase:attributeBase o name X.env (eval o X.env)=eval o X.env:=by rfl)(hfew:((backTo cpos (starEach (e::es) X.env)).all (fun x=>!x.1)&&(backToKw cpos (keywordEach [] X.env)).all (fun x=>x.1.isSome)&&decide ((e::es).length+([]:List Keyword).length+(if([]:List Keyword).isEmpty then 0 else 1)<30))=true:=by rfl)(hline:(apos.endLine==cpos.line)=true:=by rfl)(hs:starEach (e::es) X.env=(false,eval e X.env)::starEach es X.env:=by rfl)(hplain:(backTo cpos (starEach es X.env)).any (·.1)=false:=by rfl):PE X (.Call (.Attribute o name apos) (e::es) [] cpos) (tBM X.K T r to t):=by intro pins s σ H Q I h;refine wpAny_Call_method_late hbase hfew hline rfl (bL (ho pins s σ H _ I h) fun v s1⟨x,H1,I1,r1,ty,q1⟩=>?_);obtain⟨h1,h2⟩:=O1 I1 r1 ty;refine⟨T,id,pa,slot,hty,h1,h2,?_⟩;have hA:=ha cpos pins s1 σ H1 _ I1 q1;rw[hs]at hA ⊢;refine Calls.callWith_builtin (by show(false||(backTo cpos (starEach es X.env)).any (·.1))=false;rw[hplain]<;>rfl) (Calls.evalArgs_plain ?_);exact bL hA fun us s2⟨vs,H2,I2,r2,q2⟩=>hm pins s2 σ H2 x vs v us Q I2 r1 r2 q2/-xs.append(e),list.index on a module's tuple..are Z7 facts of 06m-/
end
def MtM(X:Cx)(id:String)(r:V->List V->Hp->VK->Prop):Prop:=∀(pins:List (Addr × Obj))(s:Shared)(σ:St)(H:Hp)(x:V)(xs:List V)(v:Value)(us:List Value)(Q:VK),Inv X pins σ H s->RelV x v->Vals xs us->r x xs H Q->wpAny (model X.prog X.w) X.A (call (.builtin id) (v::us)) (EP X pins σ Q) X.xe s
theorem Vals.one:∀{x:V}{us:List Value},Vals [x] us->∃u,us=[u]/\RelV x u|x,us,h=>by cases h with|cons r t=>cases t;exact⟨_,rfl,r⟩
theorem Vals.reverse{xs:List V}{us:List Value}(h:Vals xs us):Vals xs.reverse us.reverse:=by induction h with|nil=>exact .nil|cons r t ih=>rw[reverse_cons,reverse_cons];exact Vals.append ih (.cons r .nil)
theorem Vals.rep{xs:List V}{us:List Value}(h:Vals xs us):∀k:Nat,Vals (replicate k xs).flatten (replicate k us).flatten|0=>.nil|k+1=>by rw[replicate_succ,replicate_succ,flatten_cons,flatten_cons];exact Vals.append h (Vals.rep h k)
theorem foldl_rep(its:List Value):∀(k:Nat)(acc:List Value),foldl (fun x1 x2=>x1++x2) acc.toArray (replicate k its.toArray)=(acc++(replicate k its).flatten).toArray
 |0,acc=>by simp|k+1,acc=>by
   have e:acc.toArray++its.toArray=(acc++its).toArray:=by simp
   have e2:(acc++its)++(replicate k its).flatten=acc++(replicate (k+1) its).flatten:=by rw[replicate_succ,flatten_cons,append_assoc]
   rw[<-e2,<-foldl_rep its k (acc++its),<-e,replicate_succ,List.foldl_cons]
section
variable{X:Cx}{pins:List (Addr×Obj)}{σ:St}{H:Hp}{s:Shared}{l b:Addr}{xs ys zs:List V}
theorem Inv.Vt{its its':List Value}{n:Nat}{f:Array Value->Array Value}{t':Nat}(I:Inv X pins σ H s)(hH:H l=some (.lst xs))(e:s.heap.get? l=some {cls:=.type "list",data:=.seq its.toArray n})(hf:f its.toArray=its'.toArray)(hv:Vals ys its')(hz:ys.length<=sizeLine):Inv X pins σ (upd H l (.lst ys)) {s with heap:=s.heap.update l (Obj.mapSeq f),toks:=t'}:=by have q:=PySem.IsL.update e f;rw[hf]at q;refine I.write (x:=l) (e:=l) (by rw[hH];exact trivial) (.inl rfl) (fun b' u hb hu=>(get?_update_other s.heap (Obj.mapSeq f) (Ne.symm hb)).trans hu) ⟨_,q⟩ ?_;exact⟨hz,its',_,hv,q⟩
theorem Inv.Qs{its:List Value}{t':Nat}(I:Inv X pins σ H s)(hv:Vals ys its)(hz:ys.length<=sizeLine):Inv X pins σ (upd H s.heap.objs.size (.lst ys)) {s with heap:=s.heap.push {cls:=.type "list",data:=.seq its.toArray},toks:=t'}:=I.laid (fun _ _ q=>get?_push_of_some _ q) (le_refl _) ⟨hz,its,0,hv,get?_push_size _ rfl⟩
theorem Inv.fresh(I:Inv X pins σ H s):H s.heap.objs.size=none:=I.hok.fresh (le_refl _)
theorem Inv.O7(I:Inv X pins σ H s)(hH:H l=some (.lst xs)):xs.length<=sizeLine/\∃(its:List Value)(n:Nat),Vals xs its/\xs.length=its.length/\s.heap.get? l=some {cls:=.type "list",data:=.seq its.toArray n}:=by obtain⟨z,its,n,r,e⟩:=I.hok l _ hH;exact⟨z,its,n,r,r.length,e⟩
theorem tR{n:Nat}(h:n<=sizeLine):listTooLong n=false:=by unfold listTooLong;exact decide_eq_false (by omega)
end
section
variable{X:Cx}
def Iw:V->List V->Hp->VK->Prop:=fun x vs H Q=>∃l xs y,x=.ref l/\vs=[y]/\H l=some (.lst xs)/\xs.length<sizeLine/\Q .non (upd H l (.lst (xs++[y])))
theorem lz:MtM X "list.append" Iw:=by intro pins s σ H x vs v us Q I rx rv h;obtain⟨l,xs,y,rfl,rfl,hH,hz,q⟩:=h;cases rx;obtain⟨u,rfl,ru⟩:=rv.one;obtain⟨z,its,n,r,hl,e⟩:=I.O7 hH;refine call_meets F.slot_list_append ⟨_,e,rfl⟩ F.entry_list_append (F.args_list_append_2 _ _) (PySem.list_append l its.toArray n u (by rw[size_toArray];omega)) ⟨e,?_⟩;refine⟨.non,_,I.Vt (its':=its++[u]) hH e (by simp) (r.append (.cons ru .nil)) ?_,rfl,q⟩;rw[length_append,List.length_singleton];omega
def Jc:V->List V->Hp->VK->Prop:=fun x vs H Q=>∃l b xs zs,x=.ref l/\vs=[.ref b]/\H l=some (.lst xs)/\H b=some (.lst zs)/\xs.length+zs.length<=sizeLine/\Q .non (upd H l (.lst (xs++zs)))
theorem zG:MtM X "list.extend" Jc:=by
 intro pins s σ H x vs v us Q I rx rv h;obtain⟨l,b,xs,zs,rfl,rfl,hH,hB,hz,q⟩:=h;cases rx;obtain⟨u,rfl,ru⟩:=rv.one;cases ru;obtain⟨z,its,n,r,hl,e⟩:=I.O7 hH;obtain⟨z2,its2,n2,r2,hl2,e2⟩:=I.O7 hB;have hsz:its.toArray.size+its2.toArray.size<=sizeLine:=by rw[size_toArray,size_toArray];omega
 have V1:¬(!its.toArray.isEmpty&&listTooLong (its.toArray.size+its2.toArray.size))=true:=by rw[tR hsz,Bool.and_false];exact Bool.false_ne_true
 refine call_meets F.slot_list_extend ⟨_,e,rfl⟩ F.entry_list_extend (F.args_list_extend_2 _ _) (AutoSeq1.list_extend_list_list_0 l its.toArray n b its2.toArray n2 V1 (by rw[size_toArray];omega) (by omega)) ⟨e,e2,?_⟩;refine⟨.non,_,I.Vt (its':=its++its2) hH e (by simp) (r.append r2) ?_,rfl,q⟩;rw[length_append];omega
theorem len_rep{α:Type}(xs:List α)(k:Nat):(replicate k xs).flatten.length=k*xs.length:=by induction k with|zero=>simp|succ k ih=>rw[replicate_succ,flatten_cons,length_append,ih,Nat.succ_mul,Nat.add_comm]
end
end L2
namespace Yw
open PySem PySem.W PySem.Calls PyProof.Rows
theorem mX{P:Params}{h:Heap}:∀(ns:List Int)(vs:List Value),WellAll P h vs (ns.map WData.int)->IntsAre vs ns:=by intro ns;induction ns with|nil=>intro vs w;rw[map_nil]at w;cases w;exact .nil|cons n ns ih=>intro vs w;rw[map_cons]at w;cases w with|cons a b=>cases a;exact .cons _ _ (ih _ b)
theorem Ay{l:OpenLaw}{n:Nat}(hn:l.most=some n){P:Params}{h:Heap}{args:List WData}{vals:List Value}(hpre:l.row.toRowW.claim.pre args=true)(hwl:WellAll P h vals args):∃a vs ns,vals=[Value.ref a]/\args=[WData.list (ns.map WData.int)]/\h.get? a=some {cls:=.type "list",data:=.seq vs.toArray}/\IntsAre vs ns/\ns.length<=n:=by
 have hsh:WShape.hasAll [] args [.list .int]=true:=(pre_splitW hpre).1;have hc:l.pre.holds [] {args:=args}=true:=(pre_splitW hpre).2;obtain⟨d,r,rfl,h1,h2⟩:=hasAllW_cons hsh;obtain rfl:=hasAllW_nil h2;obtain⟨xs,rfl,h3⟩:=hasW_list h1;obtain⟨ns,rfl⟩:=items_int h3;have hlen:ns.length<=n:=by
  unfold OpenLaw.pre at hc;have h4:(WTm.not (.lt (.lit (.int (n:Int))) (.len (.arg 0)))).holds [] {args:=[.list (ns.map .int)]}=true:=by have h4:=(holds_andW hc).1;rw[hn]at h4;exact h4
  have h5:=condW_of h4 (w_not (w_lt w_lit (w_len_list (w_arg rfl))));rw[length_map]at h5;refine Nat.le_of_not_lt fun q=>?_;have q':(n:Int)<((ns.length:Nat):Int):=by omega
  first|(rw[decide_eq_true q']at h5;exact absurd h5 (by decide))|(simp at h5;omega)
 cases hwl with|cons w1 w2=>cases w2;cases w1 with|list ho hall=>exact⟨_,_,ns,rfl,rfl,ho,mX ns _ hall,hlen⟩
theorem zP(l:OpenLaw)(args:List WData):l.row.toRowW.claim.post args (.bool true) args=true:=postW_of (r:=l.row.toRowW) (X:=(true==true)) (show WShape.has [] (.bool true) .bool=true by first|rfl|decide|simp[WShape.has,WShape.arms,WShape.armsAll]) (show(WTm.eq .res (.lit (.bool true))).value [] {args:=args,res:=some (.bool true),after:=args}=some (.bool (true==true))from w_eq_bool (w_res rfl) w_lit) rfl
theorem ux{l:OpenLaw}{n:Nat}{q:Program}{loose:List Str}{XP:(Str->Option Value)->Heap->Prop}{YP:World->Heap->Prop}{d:DefRec}(hn:l.most=some n)(hdf:d.params.defaults=[])(call:∀(w:World)(s₀ s₁:Shared)(mg mb:Str->Option Value)(fa:Addr)(o:Obj)(pm cd doc:Value)(a:Addr)(vs:List Value)(ns:List Int),Ground q loose [] XP w s₀ mg mb s₁.heap->YP w s₁.heap->s₁.heap.get? fa=some o->o.data=.func (docDef d.name d.params d.body d.scope pm cd doc)->s₁.heap.CodeRec cd d.name->mg d.name=some (.ref fa)->s₁.heap.get? a=some {cls:=.type "list",data:=.seq vs.toArray}->IntsAre vs ns->ns.length<=n->s₁.gens=#[]->codeAny (model l.prog w) callerA (.call (.ref fa) ⟨[.ref a],[]⟩) (fun r s'=>r=.ok (.ret (.bool true))/\OldK s₁.heap s'.heap/\s'.os=s₁.os/\AllBare s'.gens) s₁):WalkO q loose XP YP l.row.toRowW d [] (fun f vs=>PySem.call f vs):=by intro w s₀ s₁ mg mb G Y fa o pm cd doc dV kV ho hd hcd hD hmg hg args vals as hpre hlay hrd hwl hlo;obtain rfl:dV=.none:=Dflts.none hD hdf;obtain rfl:kV=.none:=Dflts.noKw hD;obtain⟨a,vs,ns,rfl,rfl,hobj,hints,hlen⟩:=Ay hn hpre hwl;refine enter_call (codeAny_mono (call w s₀ s₁ mg mb fa o pm cd doc a vs ns G Y ho (fd_plain hd) hcd hmg hobj hints hlen hg) fun r s' hq=>?_);obtain⟨rfl,h2,h3,h4⟩:=hq;exact⟨.inl ⟨.bool true,.bool true,[],rfl,fun _=>rfl,.bool true,zP l _,fun _=>⟨List.Pairwise.nil,fun _ hm=>(nomatch hm)⟩⟩,h2,h3,h4⟩
end Yw
namespace L2
open PySem PySem.Spec PyProof.Rows
theorem qL:∀{vs:List Value}{ns:List Int},IntsAre vs ns->Vals (ns.map V.int) vs|_,_,.nil=>.nil|_,_,.cons n t h=>.cons ⟨t,rfl⟩ (qL h)
def Only(H:Hp):Prop:=∀b,H b=none\/∃o xs,H b=some (.cG o (.lst xs))
theorem Eu{P:Program}{w:World}{K:PySem.W.Frag}{mg mb:Str->Option Value}{CX:El}{k:Nat}{fa a:Addr}{fd:FuncData}{x:Str}{sp:Sp}{s₁:Shared}{vs:List Value}{ns:List Int}(KX:K.In s₁.heap)(hns:s₁.heap.Ns mainGlobals mg)(hb:s₁.heap.Ns builtinsNs mb)(hbb:∀x:Str,x≠"__name__"->mb x=bootBuiltins x)(hlim:s₁.heap.NoLimit)(hg:s₁.gens=#[])(ha:s₁.heap.get? a=some {cls:=.type "list",data:=.seq vs.toArray})(hi:IntsAre vs ns)(hl:ns.length<=sizeLine)(hr:iB k callerA)(F:∀base:Heap,K.In base->base.Ns mainGlobals mg->bJ P w K mg base CX k fa fd [x] sp)(hbind:∀(s:Shared)(u:Value),BindsTo s fd ⟨[u],[]⟩ [(x,u)])(hsp:∀H:Hp,Only H->dM K H a (ns.map V.int)->sp [.ref a] H (fun v _=>v=.bl true) fun _ _ _=>False)(V2:∀H e s',CX [] H s₁ (fun _ _ _=>False) e s'->False):codeAny (model P w) callerA (.call (.ref fa) ⟨[.ref a],[]⟩) (fun r s'=>r=.ok (.ret (.bool true))/\OldK s₁.heap s'.heap/\s'.os=s₁.os/\AllBare s'.gens) s₁:=by
 have rv:=qL hi;have lenV:=hi.length--from an abstract heap in which nothing but the script may be tracked
 have core:∀H:Hp,Only H->dM K H a (ns.map V.int)->kY P w H s₁.heap->(∀b,H b≠none->b=a)->(H a≠none->K.lookup a=none)->codeAny (model P w) callerA (.call (.ref fa) ⟨[.ref a],[]⟩) (fun r s'=>r=.ok (.ret (.bool true))/\OldK s₁.heap s'.heap/\s'.os=s₁.os/\AllBare s'.gens) s₁:=by
  intro H hO hS hok hA hK;have zu:∀{b:Addr}{o:Obj},s₁.heap.get? b=some o->H b=none->(qO s₁.heap H).get? b=some o:=fun e n=>FQ e n;have V0:∀{b:Addr}{o:Obj}{es:Array DictEntry}{ep:Nat},s₁.heap.get? b=some o->o.data=.dict es ep->H b=none:=fun{b o es ep}e d=>by cases q:H b with|none=>rfl|some u=>have e':b=a:=hA b (by rw[q];simp);subst e';rw[ha]at e;cases e;have d':Data.seq vs.toArray _=Data.dict es ep:=d;cases d'
  have Yx:∀{b:Addr}{m:Str->Option Value},s₁.heap.Ns b m->(qO s₁.heap H).Ns b m:=fun{b m}⟨o,es,ep,e,d,r⟩=>⟨o,es,ep,zu e (V0 e d),d,r⟩;have hKb:K.In (qO s₁.heap H):=fun b o e=>zu (KX b o e) (by cases q:H b with|none=>rfl|some u=>have e':b=a:=hA b (by rw[q];simp);subst e';rw[hK (by rw[q];simp)]at e;cases e);have hM:Mod K mg (qO s₁.heap H):=⟨hKb,Yx hns,⟨mb,Yx hb,hbb⟩,let⟨mc,h1,h2⟩:=hlim;⟨mc,Yx h1,h2⟩⟩;have e0:Jo P w K mg (qO s₁.heap H) callerA [] s₁ H:=⟨rfl,hM,fun b o e=>Hm e,Nat.le_of_eq (zH _ _),trivial,fun b hb=>absurd (show b∈([]:List Addr)from hb) (by simp),hok,.of_eq hg⟩;refine codeAny_mono ((F _ hKb (Yx hns)).run callerA [] s₁ H ⟨[.ref a],[]⟩ [.ref a] [.ref a] _ _ hr e0 (hbind s₁ (.ref a)) (.cons rfl .nil) (hsp H hO hS)) fun r s' h=>?_;cases r with|error e=>exact(V2 H e s' h).elim|ok fl=>cases fl with|next=>exact False.elim h|brk=>exact False.elim h|cont=>exact False.elim h|ret u=>obtain⟨v,H',os,bare,un,hok',r',q⟩:=h;have q':v=.bl true:=q;subst q';obtain rfl:u=Value.bool true:=r';refine⟨rfl,OldK.of_keep fun b o e=>?_,os,bare⟩;cases q:H b with|none=>exact un.keep b o e q (by intro z;exact absurd (show b∈([]:List Addr)from z) (by simp)) (by simp)|some u=>
        rcases hO b with z|⟨ob,xs,z⟩;.rw[q]at z;cases z
        .have z2:=un.sV b ob _ z;obtain⟨e1,_⟩:=hok b _ z;obtain⟨e2,_⟩:=hok' b _ z2;rw[e]at e1;cases e1;exact e2
 cases hk:K.lookup a with|some o=>--the script is one of the module's own objects
   have e:=KX a o hk;rw[ha]at e;cases e;refine core (fun _=>none) (fun _=>.inl rfl) (.inr ⟨_,vs.toArray,_,hk,rfl,rfl,rfl,by rw[size_toArray,lenV];exact hl,by simpa using rv⟩) (fun b u z=>by have z':(none:Option HO)=some u:=z;cases z') (fun b z=>absurd rfl z) fun z=>absurd rfl z|none=>
   refine core (fun b=>if b=a then some (.cG {cls:=.type "list",data:=.seq vs.toArray} (.lst (ns.map V.int)))else none) (fun b=>?_) (.inl (.inr ⟨{cls:=.type "list",data:=.seq vs.toArray},if_pos rfl⟩)) (fun b u z=>?_) (fun b z=>?_) fun _=>hk
   . by_cases hb:b=a;.exact .inr ⟨_,_,if_pos hb⟩
     .exact .inl (if_neg hb)
   . by_cases hb:b=a;.have z':=(if_pos hb).symm.trans z;cases z';subst hb;exact⟨ha,by rw[length_map];exact hl,vs,_,rv,ha⟩
     .have z':=(if_neg hb).symm.trans z;cases z'
   . by_cases hb:b=a;.exact hb
     .exact absurd (if_neg hb) z
theorem Hd{l:PySem.W.OpenLaw}{n k:Nat}{q:Program}{loose:List Str}{XP:(Str->Option Value)->Heap->Prop}{YP:World->Heap->Prop}{d:DefRec}{K:Params->PySem.W.Frag}{CX:World->El}{sp:World->Sp}{x:Str}(hn:l.most=some n)(hn2:n<=sizeLine)(hdf:d.params.defaults=[])(hr:iB k callerA)(hY:∀(w:World)(h:Heap),YP w h->(K w.params).In h)(F:∀(w:World)(mg:Str->Option Value)(fa:Addr)(h:Heap),(K w.params).In h->h.Ns mainGlobals mg->mg d.name=some (.ref fa)->∃ fd:FuncData,(∀(s:Shared)(u:Value),BindsTo s fd ⟨[u],[]⟩ [(x,u)])/\∀base:Heap,(K w.params).In base->base.Ns mainGlobals mg->bJ l.prog w (K w.params) mg base (CX w) k fa fd [x] (sp w))(hsp:∀(w:World)(H:Hp)(a:Addr)(ns:List Int),ns.length<=n->Only H->dM (K w.params) H a (ns.map V.int)->sp w [.ref a] H (fun v _=>v=.bl true) fun _ _ _=>False)(V2:∀(w:World)(H:Hp)(s:Shared)(e:Value)(s':Shared),CX w [] H s (fun _ _ _=>False) e s'->False):PySem.W.WalkO q loose XP YP l.row.toRowW d [] (fun f vs=>PySem.call f vs):=by refine Yw.ux hn hdf fun w s₀ s₁ mg mb fa o pm cd doc a vs ns G Y ho hd hcd hmg hobj hints hlen hg=>?_;have KX:=hY w _ Y;obtain⟨fd,hb,hF⟩:=F w mg fa _ KX G.T.g hmg;exact Eu KX G.T.g G.T.b G.T.builtins G.T.nolimit hg hobj hints (le_trans hlen hn2) hr hF hb (fun H hO hS=>hsp w H a ns hlen hO hS) fun H e s'=>V2 w H s₁ e s'
theorem DK{l:PySem.W.OpenLaw}{n k:Nat}{q:Program}{loose:List Str}{XP:(Str->Option Value)->Heap->Prop}{YP:World->Heap->Prop}{d:DefRec}{K:Params->PySem.W.Frag}{CX:El}{sp:PySem.W.Frag->Sp}{x:Str}(hn:l.most=some n)(hn2:n<=sizeLine)(hdf:d.params.defaults=[])(hr:iB k callerA)(hY:∀(w:World)(h:Heap),YP w h->(K w.params).In h)(F:∀(w:World)(mg:Str->Option Value)(fa:Addr)(h:Heap),(K w.params).In h->h.Ns mainGlobals mg->mg d.name=some (.ref fa)->∃ fd:FuncData,(∀(s:Shared)(u:Value),BindsTo s fd ⟨[u],[]⟩ [(x,u)])/\∀base:Heap,(K w.params).In base->base.Ns mainGlobals mg->bJ l.prog w (K w.params) mg base CX k fa fd [x] (sp (K w.params)))(hsp:∀(K:PySem.W.Frag)(H:Hp)(a:Addr)(ns:List Int),ns.length<=n->Only H->dM K H a (ns.map V.int)->sp K [.ref a] H (fun v _=>v=.bl true) fun _ _ _=>False)(V2:∀(H:Hp)(s:Shared)(e:Value)(s':Shared),CX [] H s (fun _ _ _=>False) e s'->False):PySem.W.WalkO q loose XP YP l.row.toRowW d [] (fun f vs=>PySem.call f vs):=Hd (K:=K) (CX:=fun _=>CX) (sp:=fun w=>sp (K w.params)) hn hn2 hdf hr hY F (fun w H a ns h1 h2 h3=>hsp (K w.params) H a ns h1 h2 h3) fun _ H s e s'=>V2 H s e s'
end L2/-THE LAST THEOREM(shape;LID,My.*are ac5):My.Adr:a structure of the addresses that your layer names(classes,functions);My.Txt K t:a structure(Prop)of the equations over K;My.abE:{K}{implicit addresses..}(e1:nsIn K mainGlobals"law"=some(some(.ref f)))(e2:K.lookup f=some⟨oc,od,.func(fnOf"law""law"params body scope dV kV doc pm an cdv ct),sl⟩)(e3:codeIn K cdv"law"=true)..:∃t,My.Txt K t;set_option maxRecDepth 100000 in;set_option maxHeartbeats 0 in(the tactic k_is has no namespace:write k_is)-/
namespace L2
open PySem PySem.Spec PyProof.Rows
noncomputable def gK(s:Stmt):Arguments:=match s with|.FunctionDef _ a _ _ _ _ _ _ _ _=>a|_=>{posonlyargs:=[],args:=[],vararg:=none,kwonlyargs:=[],kw_defaults:=[],kwarg:=none,defaults:=[]}
noncomputable def eZ(s:Stmt):List Stmt:=match s with|.FunctionDef _ _ b _ _ _ _ _ _ _=>b|_=>[]
noncomputable def aA(s:Stmt):Scope:=match s with|.FunctionDef _ _ _ _ _ _ sc _ _ _=>sc|_=>{kind:=.function,names:=[],isGenerator:=false,isCoroutine:=false}
abbrev gf:El:=fun _ _ _ _ _ _=>False
abbrev E0:XK:=fun _ _ _=>False
theorem T9{X:Cx}:Passes gf X E0:=fun _ _ _ _ _ _ _ h=>h.elim
structure gF(K:PySem.W.Frag)(x qual:Str)(st:Stmt)(f:Addr)(fd:FuncData):Prop where
 ex:∃(oc:Value)(od:Option Addr)(kV doc pm:Value)(an:Option Addr)(cdv ct:Value)(osl:Array (Option Value)),fd=PySem.W.fnOf x qual (gK st) (eZ st) (aA st) .none kV doc pm an cdv ct/\K.lookup f=some ⟨oc,od,.func fd,osl⟩/\PySem.W.codeIn K cdv qual=true
 kp:keepIn K (.ref f)=true
section
variable{P:Program}{w:World}{K:PySem.W.Frag}{mg:Str->Option Value}{base:Heap}
theorem gF.ok{x qual:Str}{st:Stmt}{f:Addr}{fd:FuncData}{N ps:List Str}{k:Nat}{sp:Sp}(F:gF K x qual st f fd)(S:aL N ps (aA st))(len:∀vs H Q E,sp vs H Q E->vs.length=ps.length)(hbody:∀(cdv:Value)(A:Around)(outer:List Env)(s:Shared)(H:Hp)(vs:List V)(Q:VK)(E:XK),iB k (A.deeper (envOfC qual (aA st) s.heap.objs.size f cdv))->sp vs H Q E->∃t,uf (vH gf P w K mg base N qual (aA st) f cdv A outer s H E).T6 (eZ st) t/\t {nx:=fun _ H'=>Q .non H',rt:=Q} (start N vs) H):bJ P w K mg base gf (k+1) f fd ps sp:=by obtain⟨oc,od,kV,doc,pm,an,cdv,ct,osl,rfl,lk,hcd⟩:=F.ex;refine Uk lk hcd S len fun A outer s H vs Q E hr hsp=>?_;obtain⟨t,h,q⟩:=hbody cdv A outer s H vs Q E hr hsp;exact⟨t,h.T6,q⟩
theorem gF.binds{x qual:Str}{st:Stmt}{f:Addr}{fd:FuncData}{ps:List Str}(F:gF K x qual st f fd)(h:∀(kV doc pm:Value)(an:Option Addr)(cdv ct:Value)(us:List Value),us.length=ps.length->bindArgs (PySem.W.fnOf x qual (gK st) (eZ st) (aA st) .none kV doc pm an cdv ct) ⟨us,[]⟩=pure (ps.zip us)):Binds K fd ps []:=by obtain⟨oc,od,kV,doc,pm,an,cdv,ct,osl,rfl,lk,hcd⟩:=F.ex;exact .all (h kV doc pm an cdv ct)
theorem MF{x qual:Str}{st:Stmt}{f:Addr}{oc:Value}{od an:Option Addr}{osl:Array (Option Value)}{kV doc pm cdv ct:Value}(l:K.lookup f=some ⟨oc,od,.func (PySem.W.fnOf x qual (gK st) (eZ st) (aA st) .none kV doc pm an cdv ct),osl⟩)(c:PySem.W.codeIn K cdv qual=true)(k:keepIn K (.ref f)=true):gF K x qual st f (PySem.W.fnOf x qual (gK st) (eZ st) (aA st) .none kV doc pm an cdv ct):=⟨⟨oc,od,kV,doc,pm,an,cdv,ct,osl,rfl,l,c⟩,k⟩
end
def aH(H H':Hp):Prop:=∀b o,H b=some o->H' b=some o
theorem aH.refl(H:Hp):aH H H:=fun _ _ h=>h
theorem aH.trans{H H1 H2:Hp}(a:aH H H1)(b:aH H1 H2):aH H H2:=fun c o h=>b c o (a c o h)
theorem aH.seq{K:PySem.W.Frag}{H H':Hp}{a:Addr}{xs:List V}(e:aH H H')(h:dM K H a xs):dM K H' a xs:=by
 rcases h with(h|⟨o,h⟩)|h;.exact .inl (.inl (e _ _ h))
 .exact .inl (.inr ⟨o,e _ _ h⟩)
 .exact .inr h
end L2
end
section
namespace HH
open PySem
inductive Dc where|k(kvs:List (Int×Int))|t(kvs:List (List Int×Int))deriving DecidableEq
inductive D where|non|bl(b:Bool)|int(i:Int)|str(s:Str)|tup(ds:List D)|lst(ds:List D)|dw(m:Dc)|dv(ks:List Int)(ds:List D)deriving Inhabited
mutual
noncomputable def jB:D->D->Bool|.non,.non=>true|.bl a,.bl b=>a==b|.bl a,.int i=>(if a then(1:Int)else 0)==i|.int i,.bl a=>i==(if a then(1:Int)else 0)|.int i,.int j=>i==j|.str a,.str b=>a==b|.tup xs,.tup ys=>fL xs ys|.lst xs,.lst ys=>fL xs ys|.dw a,.dw b=>decide (a=b)|.dv a xs,.dv b ys=>decide (a=b)&&fL xs ys|_,_=>false
noncomputable def fL:List D->List D->Bool|[],[]=>true|x::xs,y::ys=>jB x y&&fL xs ys|_,_=>false
end
theorem pqi{i j}:jB (.int i) (.int j)=(i==j):=(rfl)
theorem pqt{x y}:jB (.tup x) (.tup y)=fL x y:=(rfl)
theorem Yg{x y}:jB (.lst x) (.lst y)=fL x y:=(rfl)
noncomputable def dG:Nat->D->Bool|_,.non=>true|_,.bl _=>true|_,.int _=>true|_,.str _=>true|0,.tup _=>false|0,.lst _=>false|_,.dw _=>false|_,.dv _ _=>false|n+1,.tup ds=>ds.all (dG n)|n+1,.lst ds=>ds.all (dG n)
inductive Sl where|aU|val(b:Bool)(d:D)|own(b:Bool)(ds:List D)|lent(ds:List D)|fO(m:Dc)|hold(rows:List (List D))|cA(kvs:List (Int×D))deriving Inhabited
inductive R where|val(d:D)|own(ds:List D)deriving Inhabited
noncomputable def R.d:R->D|.val d=>d|.own ds=>.lst ds
inductive Res(α:Type)where|ok(a:α)(ρ:List Sl)|exc(k:Nat)(ρ:List Sl)|stuck deriving Inhabited
noncomputable def Res.bind{α β:Type}(f:α->List Sl->Res β):Res α->Res β|.ok a ρ=>f a ρ|.exc _ _=>.stuck|.stuck=>.stuck
noncomputable def lift{α:Type}(o:Option α)(ρ:List Sl):Res α:=match o with|some a=>.ok a ρ|none=>.stuck
inductive Op where|add|sub|mul|fdiv|mod|pow|shl|shr|band|Bb|Yy|abF deriving DecidableEq
inductive Cm where|eq|ne|lt|le|gt|ge|isN|Jz|inn|V3|isT|V4|leT deriving DecidableEq
inductive Ty where|int|bool|str|tuple|list|none deriving DecidableEq
inductive S5 where|len|list|tuple|min2|max2|FW|FZ|sum|int|keys|Sh|lV|Yz|Ga deriving DecidableEq
inductive P where|var(i:Nat)|con(d:D)|bin(o:Op)(a b:P)|neg(a:P)|not(a:P)|and(a b:P)|or(a b:P)|cmp(o:Cm)(a b:P)|K6(c a b:P)|tup(as:List P)|lst(as:List P)|idx(a i:P)|slice(a lo hi:P)|call(f:Nat)(as:List P)|blt(b:S5)(as:List P)|comp(src:P)(n:Nat)(is:List Nat)(one:Bool)(test:Option P)(elt:P)|zq(a b:P)|Sq(a:P)|zip(a b:P)|Ss(x:Nat)(k d:P)|vw(x:Nat)|K7(x:Nat)(k:P)|K8(x:Nat)(k:P)(neg:Bool)|vd(k e:Int)deriving Inhabited
noncomputable abbrev lim:Nat:=16777216
noncomputable def oJ:D->D->Option R|.int i,.int j=>some (.val (.int (i+j)))|.lst xs,.lst ys=>if xs.length+ys.length<=lim then some (.own (xs++ys))else none|.tup xs,.tup ys=>if xs.length+ys.length<=lim then some (.val (.tup (xs++ys)))else none|.str x,.str y=>if x.length+y.length<=lim then some (.val (.str (x++y)))else none|_,_=>none
noncomputable def iI:D->D->Option R|.int i,.int j=>if((-18446744073709551616<i/\i<18446744073709551616)\/(-18446744073709551616<j/\j<18446744073709551616))then some (.val (.int (i*j)))else none|.lst xs,.int k=>if 0<=k/\0<xs.length/\xs.length*k.toNat<=lim then some (.own (replicate k.toNat xs).flatten)else none|.tup xs,.int k=>if 0<=k/\0<xs.length/\xs.length*k.toNat<=lim then some (.val (.tup (replicate k.toNat xs).flatten))else none|_,_=>none
noncomputable def ud:D->D->Option R|.int i,.int j=>some (.val (.int (i-j)))|_,_=>none
noncomputable def pB:D->D->Option R|.int i,.int j=>if 0<j/\j<1606938044258990275541962092341162602522202993782792835301376 then some (.val (.int (i/j)))else none|_,_=>none
noncomputable def ur:D->D->Option R|.int i,.int j=>if 0<j then some (.val (.int (i%j)))else none|_,_=>none
noncomputable def uV:D->D->Option R|.int i,.int j=>if 0<=j/\j<=1000/\i.natAbs<18446744073709551616 then some (.val (.int (i^j.toNat)))else none|_,_=>none
noncomputable def Dy:D->D->Option R|.int i,.int j=>if 0<=j/\j<=1000/\i.natAbs<18446744073709551616 then some (.val (.int (i*2^j.toNat)))else none|_,_=>none
noncomputable def BP:D->D->Option R|.int i,.int j=>if 0<=j then some (.val (.int (i/2^j.toNat)))else none|_,_=>none
noncomputable def wM:D->D->Option R|.int i,.int j=>some (.val (.int (Builtin.bitAnd i j)))|_,_=>none
noncomputable def flat:D->Bool|.tup _=>false|.lst _=>false|.dw _=>false|.dv _ _=>false|_=>true
noncomputable def items:D->Option (List D)|.lst ds=>some ds|.tup ds=>some ds|_=>none
noncomputable def MT:D->Option (List D)|.tup ds=>some ds|_=>none
noncomputable def Dw(x y:D):Option Bool:=if dG 8 x&&dG 8 y then some (jB x y)else none
noncomputable def Fo(x y:D):Option Bool:=if dG 8 x&&dG 8 y then some (!jB x y)else none
noncomputable def Gp(f:Int->Int->Bool):D->D->Option Bool|.int i,.int j=>some (f i j)|_,_=>none
noncomputable def iC:D->Bool|.non=>true|_=>false
noncomputable def Yp(neg:Bool)(x:D):D->Option Bool|.non=>some (if neg then !iC x else iC x)|_=>none
noncomputable def Ug(neg:Bool)(x y:D):Option Bool:=(items y).bind fun ys=>if(flat x&&ys.all flat)=true then some (if neg then !(ys.any fun y=>jB y x)else ys.any fun y=>jB y x)else none
noncomputable def cmT(neg:Bool):D->D->Option Bool|.bl b,.bl true=>some (if neg then !b else b)|_,_=>none
noncomputable def bf:List Int->List Int->Bool|[],_::_=>true|i::is,j::js=>decide (i<j)||(decide (i=j)&&bf is js)|_,[]=>false
noncomputable def jl:D->Int|.int i=>i|_=>0
noncomputable def bT:D->List Int|.int i=>[i]|.tup ds=>ds.map jl|_=>[]
noncomputable def fK:D->Bool|.int _=>true|_=>false
noncomputable def Dc.get:Dc->D->Option (Option Int)|.k kvs,.int i=>some ((kvs.find? fun kv=>decide (kv.1=i)).map (·.2))|_,_=>none
noncomputable def putD{κ:Type}[DecidableEq κ](kvs:List (κ×Int))(k:κ)(v:Int):List (κ×Int):=if(kvs.any fun kv=>decide (kv.1=k))=true then kvs.map (fun kv=>if kv.1=k then(kv.1,v)else kv)else kvs++[(k,v)]
noncomputable def Dc.put:Dc->D->Int->Option Dc|.k kvs,.int i,v=>if kvs.length<lim then some (.k (putD kvs i v))else none|_,_,_=>none
noncomputable def lK(kvs:List (Int×D))(k:Int):Option D:=(kvs.find? fun p=>decide (p.1=k)).map (·.2)
noncomputable def fZ(kvs:List (Int×D))(k:Int)(d:D):List (Int×D):=if(kvs.any fun p=>decide (p.1=k))=true then kvs.map (fun p=>if p.1=k then(p.1,d)else p)else kvs++[(k,d)]
noncomputable def uv(neg:Bool):D->D->Option R|.int k,.dv ks _=>some (.val (.bl (if neg then !ks.contains k else ks.contains k)))|_,_=>none
noncomputable def yS:D->D->Option R|.dw m,k=>(m.get k).bind fun o=>o.map fun v=>.val (.int v)|.dv ks ds,.int k=>(lK (ks.zip ds) k).map .val|_,_=>none
noncomputable def pP:Op->D->D->Option R|.add=>oJ|.mul=>iI|.sub=>ud|.fdiv=>pB|.mod=>ur|.pow=>uV|.shl=>Dy|.shr=>BP|.band=>wM|.Bb=>yS|.Yy=>uv false|.abF=>uv true
noncomputable def Ux:D->D->Option Bool|.int i,.int j=>some (decide (i<j))|.tup xs,.tup ys=>if(xs.all fK&&ys.all fK)=true then some (bf (xs.map jl) (ys.map jl))else none|_,_=>none
noncomputable def aad:D->D->Option Bool|.int i,.int j=>some (decide (i<=j))|.tup xs,.tup ys=>if(xs.all fK&&ys.all fK)=true then some (!bf (ys.map jl) (xs.map jl))else none|_,_=>none
noncomputable def cm:Cm->D->D->Option Bool|.eq=>Dw|.ne=>Fo|.lt=>Ux|.le=>Gp fun i j=>decide (i<=j)|.leT=>aad|.gt=>Gp fun i j=>decide (j<i)|.ge=>Gp fun i j=>decide (j<=i)|.isN=>Yp false|.Jz=>Yp true|.inn=>Ug false|.V3=>Ug true|.isT=>cmT false|.V4=>cmT true
noncomputable def vL(o:Cm)(x y:D):Option R:=(cm o x y).map fun k=>.val (.bl k)
noncomputable def ig(n:Nat)(i:Int):Option Nat:=if 0<=i then(if i<n then some i.toNat else none)else if-(n:Int)<=i then some (i+n).toNat else none
noncomputable def at'{α:Type}(xs:List α)(i:Int):Option α:=(ig xs.length i).bind fun j=>xs[j]?
noncomputable def cN(n d:Nat):Option Int->Nat|none=>d|some i=>if 0<=i then min i.toNat n else(i+n).toNat
noncomputable def cut{α:Type}(xs:List α)(lo hi:Option Int):List α:=(xs.drop (cN xs.length 0 lo)).take (cN xs.length xs.length hi-cN xs.length 0 lo)
noncomputable def gh:D->Option Int|.int i=>some i|_=>none
noncomputable def RN:D->Option Bool|.bl b=>some b|_=>none
noncomputable def GK(x y:D):Option R:=(items x).bind fun ds=>(gh y).bind fun i=>(at' ds i).map .val
noncomputable def Bv(x:D):Option R:=(gh x).map fun i=>.val (.int (-i))
noncomputable def Uj:P->Bool|.con .non=>true|_=>false
noncomputable def part(p:P)(d:D):Option (Option Int):=if Uj p then some none else(gh d).map some
noncomputable def KD:D->Option (Option Int)->Option (Option Int)->Option R|.lst xs,some lo,some hi=>some (.own (cut xs lo hi))|.tup xs,some lo,some hi=>some (.val (.tup (cut xs lo hi)))|_,_,_=>none
noncomputable def cz:Ty->D->Bool|.int,.int _=>true|.int,.bl _=>true|.bool,.bl _=>true|.str,.str _=>true|.tuple,.tup _=>true|.list,.lst _=>true|.none,.non=>true|_,_=>false
noncomputable def uD:D->Bool|.tup (x::xs)=>(x::xs).all fK|_=>false
noncomputable def sortable(ds:List D):Bool:=decide (ds.length<=16777216)&&(ds.all fK||ds.all uD)
noncomputable def tD(ds:List D):List D:=ds.mergeSort fun a b=>!bf (bT b) (bT a)
noncomputable def Qi:D->Option (List D)|.lst ds=>some ds|_=>none
noncomputable def eX(p:Int×Int):D:=.tup [.int p.1,.int p.2]
noncomputable def blt:S5->List D->Option R|.len,[x]=>(items x).map fun ds=>.val (.int ds.length)|.list,[x]=>(items x).map fun ds=>.own ds|.tuple,[x]=>(items x).map fun ds=>.val (.tup ds)|.min2,[.int i,.int j]=>some (.val (.int (if j<i then j else i)))|.max2,[.int i,.int j]=>some (.val (.int (if i<j then j else i)))|.FW,[x]=>((items x).bind fun ds=>ds.mapM gh).bind fun ns=>ns.min?.map fun i=>.val (.int i)|.FZ,[x]=>((items x).bind fun ds=>ds.mapM gh).bind fun ns=>ns.max?.map fun i=>.val (.int i)|.sum,[x]=>((items x).bind fun ds=>ds.mapM gh).map fun ns=>.val (.int ns.sum)|.int,[.int i]=>some (.val (.int i))|.int,[.bl b]=>some (.val (.int (if b then 1 else 0)))|.keys,[.dw (.k kvs)]=>some (.val (.tup (kvs.map fun p=>.int p.1)))|.keys,[.dv ks _]=>some (.val (.tup (ks.map D.int)))|.Sh,[.dv ks _]=>if ks.length<=16777216 then some (.own (ks.map D.int))else none|.Yz,[.lst ds]=>some (.val (.tup ds.reverse))|.lV,[.dv ks _]=>if ks.length<64 then some (.own (tD (ks.map D.int)))else none|.Ga,[.dw (.k kvs)]=>if kvs.length<=16777216/\kvs.Pairwise (fun a b=>a.1<b.1)then some (.own (kvs.map eX))else none|_,_=>none
noncomputable def pk(ρ:List Sl)(i:Nat):Option D:=match ρ[i]?with|some (.val _ d)=>some d|some (.own _ ds)=>some (.lst ds)|some (.lent ds)=>some (.lst ds)|_=>none
noncomputable def wu(ρ:List Sl)(i:Nat):Option (List D):=match pk ρ i with|some (.lst ds)=>some ds|_=>none
noncomputable abbrev Ev:=List Sl->Res R
noncomputable def isVar:P->Option Nat|.var i=>some i|_=>none
noncomputable def bW(i:Option Nat)(e:Ev)(ρ:List Sl):Res D:=match i with|some i=>lift (pk ρ i) ρ|none=>(e ρ).bind fun r ρ=>.ok r.d ρ
noncomputable def jm(i:Option Nat)(e:Ev)(j:Option Nat)(f:Ev)(ρ:List Sl):Res (D×D):=match i with|some i=>(lift (pk ρ i) ρ).bind fun _ ρ=>(bW j f ρ).bind fun y ρ=>(lift (pk ρ i) ρ).bind fun x ρ=>.ok (x,y) ρ|none=>(bW none e ρ).bind fun x ρ=>(bW j f ρ).bind fun y ρ=>.ok (x,y) ρ
noncomputable def jk(e:Ev)(ρ:List Sl):Res Bool:=(e ρ).bind fun r ρ=>lift (RN r.d) ρ
inductive Arg where|dat(d:D)|tmp(ds:List D)|dX(i:Nat)
noncomputable def uR:R->Arg|.val d=>.dat d|.own ds=>.tmp ds
noncomputable def bC(ρ:List Sl):List Arg->List Nat->Option (List Sl)|[],_=>some []|.dat d::r,used=>(bC ρ r used).map fun s=>.val false d::s|.tmp ds::r,used=>(bC ρ r used).map fun s=>.own false ds::s|.dX i::r,used=>match ρ[i]?with|some (.val _ d)=>(bC ρ r used).map fun s=>.val false d::s|some (.own _ ds)=>if used.contains i then none else(bC ρ r (i::used)).map fun s=>.own true ds::s|some (.lent ds)=>if used.contains i then none else(bC ρ r (i::used)).map fun s=>.lent ds::s|_=>none
noncomputable def aW(i:Nat):List Arg->List Sl->Option Sl|.dX k::as,s::ss=>if k=i then some s else aW i as ss|.dat _::as,_::ss=>aW i as ss|.tmp _::as,_::ss=>aW i as ss|_,_=>none
noncomputable def dI:Sl->Option Sl->Sl|.own b _,some (.own _ ds)=>.own b ds|.own b _,some (.val _ d)=>.val b d|s,_=>s
noncomputable def cC(as:List Arg)(ss:List Sl):Nat->List Sl->List Sl|_,[]=>[]|i,s::ρ=>dI s (aW i as ss)::cC as ss (i+1) ρ
noncomputable abbrev Call:=Nat->List Sl->Res R
noncomputable def oX(c:Call)(f:Nat)(as:List Arg)(ρ:List Sl):Res R:=match bC ρ as []with|none=>.stuck|some args=>match c f args with|.ok r args'=>.ok r (cC as args' 0 ρ)|.exc _ _=>.stuck|.stuck=>.stuck
noncomputable def put(ρ:List Sl)(i:Nat)(s:Sl):Option (List Sl):=match ρ[i]?with|some .aU=>some (ρ.set i s)|some (.val false _)=>some (ρ.set i s)|some (.own false _)=>some (ρ.set i s)|_=>none
noncomputable def putAll(ρ:List Sl):List Nat->List D->Option (List Sl)|[],[]=>some ρ|i::is,d::ds=>(put ρ i (.val false d)).bind fun ρ=>putAll ρ is ds|_,_=>none
noncomputable def cB(ρ:List Sl)(is:List Nat)(one:Bool)(d:D):Option (List Sl):=match one,is,d with|true,[i],d=>put ρ i (.val false d)|false,is,.tup ds=>putAll ρ is ds|_,_,_=>none
noncomputable def srcOf(i:Option Nat)(e:Ev)(ρ:List Sl):Res (List D):=match i with
 |some i=>match ρ[i]?with|some (.val _ d)=>lift (items d) ρ|some (.own _ ds)=>.ok ds (ρ.set i (.lent ds))|some (.lent ds)=>.ok ds ρ|_=>.stuck
 |none=>(e ρ).bind fun r ρ=>lift (items r.d) ρ
noncomputable def bh(ρ₀:List Sl)(i:Option Nat)(ρ:List Sl):List Sl:=match i with
 |some i=>match ρ₀[i]?with|some (.own b ds)=>ρ.set i (.own b ds)|_=>ρ
 |none=>ρ
noncomputable def srcY(i:Nat)(f:Ev)(ρ:List Sl):Res (List D×List Sl):=(f ρ).bind fun r ρb=>(lift (items r.d) ρb).bind fun es ρb=>match ρb[i]?with|some (.val _ d)=>(lift (items d) ρb).bind fun ds ρb=>.ok ((es.zip ds).map fun p=>D.tup [p.1,p.2],ρb) ρb|some (.own _ ds)=>.ok ((es.zip ds).map fun p=>D.tup [p.1,p.2],ρb) (ρb.set i (.lent ds))|some (.lent ds)=>.ok ((es.zip ds).map fun p=>D.tup [p.1,p.2],ρb) ρb|_=>.stuck
noncomputable def turns(is:List Nat)(one:Bool)(test:List Sl->Res Bool)(elt:Ev):List D->List D->List Sl->Res (List D)|[],acc,ρ=>.ok acc ρ|d::r,acc,ρ=>match cB ρ is one d with|none=>.stuck|some ρ=>(test ρ).bind fun b ρ=>if b then(elt ρ).bind fun x ρ=>turns is one test elt r (acc++[x.d]) ρ else turns is one test elt r acc ρ
mutual
noncomputable def ev(c:Call):P->List Sl->Res R
 |.var i,ρ=>match ρ[i]?with|some (.val _ d)=>.ok (.val d) ρ|some (.own b ds)=>.ok (.val (.lst ds)) (ρ.set i (.val b (.lst ds)))|some (.fO (.k kvs))=>.ok (.val (.dw (.k kvs))) (ρ.set i (.val false (.dw (.k kvs))))|some (.cA kvs)=>.ok (.val (.dv (kvs.map (·.1)) (kvs.map (·.2)))) (ρ.set i (.val false (.dv (kvs.map (·.1)) (kvs.map (·.2)))))|_=>.stuck
 |.con d,ρ=>.ok (.val d) ρ|.bin o a b,ρ=>(jm (isVar a) (ev c a) (isVar b) (ev c b) ρ).bind fun xy ρ=>lift (pP o xy.1 xy.2) ρ|.neg a,ρ=>(bW (isVar a) (ev c a) ρ).bind fun x ρ=>lift (Bv x) ρ|.not a,ρ=>(jk (ev c a) ρ).bind fun b ρ=>.ok (.val (.bl (!b))) ρ|.and a b,ρ=>(jk (ev c a) ρ).bind fun x ρ=>if x then(jk (ev c b) ρ).bind fun y ρ=>.ok (.val (.bl y)) ρ else .ok (.val (.bl false)) ρ|.or a b,ρ=>(jk (ev c a) ρ).bind fun x ρ=>if x then .ok (.val (.bl true)) ρ else(jk (ev c b) ρ).bind fun y ρ=>.ok (.val (.bl y)) ρ|.cmp o a b,ρ=>(jm (isVar a) (ev c a) (isVar b) (ev c b) ρ).bind fun xy ρ=>lift (vL o xy.1 xy.2) ρ|.K6 t a b,ρ=>(jk (ev c t) ρ).bind fun k ρ=>if k then(ev c a ρ).bind fun r ρ=>.ok (.val r.d) ρ else(ev c b ρ).bind fun r ρ=>.ok (.val r.d) ρ|.tup as,ρ=>(evs c as ρ).bind fun ds ρ=>.ok (.val (.tup ds)) ρ|.lst as,ρ=>(evs c as ρ).bind fun ds ρ=>.ok (.own ds) ρ|.idx a i,ρ=>(jm (isVar a) (ev c a) (isVar i) (ev c i) ρ).bind fun xy ρ=>lift (GK xy.1 xy.2) ρ|.slice a l h,ρ=>match isVar a with|some i=>(lift (pk ρ i) ρ).bind fun _ ρ=>(bW (isVar l) (ev c l) ρ).bind fun y ρ=>(bW (isVar h) (ev c h) ρ).bind fun z ρ=>(lift (pk ρ i) ρ).bind fun x ρ=>lift (KD x (part l y) (part h z)) ρ|none=>(bW none (ev c a) ρ).bind fun x ρ=>(bW (isVar l) (ev c l) ρ).bind fun y ρ=>(bW (isVar h) (ev c h) ρ).bind fun z ρ=>lift (KD x (part l y) (part h z)) ρ
 |.call f as,ρ=>(vz c as ρ).bind fun xs ρ=>oX c f xs ρ|.blt b [a],ρ=>(bW (isVar a) (ev c a) ρ).bind fun x ρ=>lift (blt b [x]) ρ|.blt b as,ρ=>(evs c as ρ).bind fun ds ρ=>lift (blt b ds) ρ|.comp src n is one test elt,ρ=>(srcOf (isVar src) (ev c src) ρ).bind fun ds ρ₁=>if ds.length<=lim then(turns is one (sH c test) (ev c elt) ds [] (ρ₁++replicate n .aU)).bind fun xs ρ₂=>.ok (.own xs) (bh ρ (isVar src) (ρ₂.take ρ₁.length))else .stuck|.zq a b,ρ=>(jm (isVar a) (ev c a) (isVar b) (ev c b) ρ).bind fun xy ρ=>lift ((gh xy.1).bind fun i=>(gh xy.2).bind fun j=>if-1000000<=i/\i<=1000000000/\j<=1000000000/\-1000000000<=j then some (.val (.lst ((List.range (j-i).toNat).map fun(k:Nat)=>D.int (i+(k:Int)))))else none) ρ|.Sq a,ρ=>(ev c a ρ).bind fun r ρ=>lift ((items r.d).map fun ds=>.val (.lst (ds.mapIdx fun i d=>D.tup [.int (i:Int),d]))) ρ|.zip a b,ρ=>(ev c a ρ).bind fun x ρ=>(ev c b ρ).bind fun y ρ=>lift ((items x.d).bind fun ds=>(items y.d).map fun es=>.val (.lst ((ds.zip es).map fun p=>D.tup [p.1,p.2]))) ρ|.Ss x k d,ρ=>match ρ[x]?with
   |some (.fO _)=>(bW (isVar k) (ev c k) ρ).bind fun kd ρ=>(bW (isVar d) (ev c d) ρ).bind fun dd ρ=>match ρ[x]?with|some (.fO m)=>lift ((m.get kd).bind fun o=>(gh dd).map fun v=>.val (.int (o.getD v))) ρ|_=>.stuck
   |_=>.stuck
 |.vw x,ρ=>match ρ[x]?with|some (.fO m)=>.ok (.val (.dw m)) (ρ.set x (.val false (.dw m)))|some (.cA kvs)=>.ok (.val (.dv (kvs.map (·.1)) (kvs.map (·.2)))) (ρ.set x (.val false (.dv (kvs.map (·.1)) (kvs.map (·.2)))))|_=>.stuck
 |.K7 x k,ρ=>match ρ[x]?with
   |some (.cA _)=>(bW (isVar k) (ev c k) ρ).bind fun kd ρ=>match ρ[x]?with|some (.cA kvs)=>lift ((gh kd).bind fun k=>(lK kvs k).map .val) ρ|_=>.stuck
   |_=>.stuck
 |.K8 x k neg,ρ=>(bW (isVar k) (ev c k) ρ).bind fun kd ρ=>match ρ[x]?with|some (.cA kvs)=>lift ((gh kd).map fun k=>.val (.bl (if neg then !(kvs.map (·.1)).contains k else(kvs.map (·.1)).contains k))) ρ|_=>.stuck
 |.vd k e,ρ=>.ok (.val (.dv [k] [.int e])) ρ
noncomputable def evs(c:Call):List P->List Sl->Res (List D)|[],ρ=>.ok [] ρ|a::r,ρ=>(ev c a ρ).bind fun x ρ=>(evs c r ρ).bind fun xs ρ=>.ok (x.d::xs) ρ
noncomputable def vz(c:Call):List P->List Sl->Res (List Arg)|[],ρ=>.ok [] ρ|a::r,ρ=>match isVar a with|some i=>(lift (pk ρ i) ρ).bind fun _ ρ=>(vz c r ρ).bind fun xs ρ=>.ok (.dX i::xs) ρ|none=>(ev c a ρ).bind fun x ρ=>(vz c r ρ).bind fun xs ρ=>.ok (uR x::xs) ρ
noncomputable def sH(c:Call):Option P->List Sl->Res Bool|none,ρ=>.ok true ρ|some t,ρ=>jk (ev c t) ρ
end
theorem E1{c i ρ}:ev c (.var i) ρ=match ρ[i]?with|some (.val _ d)=>.ok (.val d) ρ|some (.own b ds)=>.ok (.val (.lst ds)) (ρ.set i (.val b (.lst ds)))|some (.fO (.k kvs))=>.ok (.val (.dw (.k kvs))) (ρ.set i (.val false (.dw (.k kvs))))|some (.cA kvs)=>.ok (.val (.dv (kvs.map (·.1)) (kvs.map (·.2)))) (ρ.set i (.val false (.dv (kvs.map (·.1)) (kvs.map (·.2)))))|_=>.stuck:=(rfl)
theorem E2{c d ρ}:ev c (.con d) ρ=.ok (.val d) ρ:=(rfl)
theorem E3{c o a b ρ}:ev c (.bin o a b) ρ=(jm (isVar a) (ev c a) (isVar b) (ev c b) ρ).bind fun xy ρ=>lift (pP o xy.1 xy.2) ρ:=(rfl)
theorem E4{c a ρ}:ev c (.neg a) ρ=(bW (isVar a) (ev c a) ρ).bind fun x ρ=>lift (Bv x) ρ:=(rfl)
theorem E5{c a ρ}:ev c (.not a) ρ=(jk (ev c a) ρ).bind fun b ρ=>.ok (.val (.bl (!b))) ρ:=(rfl)
theorem E6{c a b ρ}:ev c (.and a b) ρ=(jk (ev c a) ρ).bind fun x ρ=>if x then(jk (ev c b) ρ).bind fun y ρ=>.ok (.val (.bl y)) ρ else .ok (.val (.bl false)) ρ:=(rfl)
theorem E7{c a b ρ}:ev c (.or a b) ρ=(jk (ev c a) ρ).bind fun x ρ=>if x then .ok (.val (.bl true)) ρ else(jk (ev c b) ρ).bind fun y ρ=>.ok (.val (.bl y)) ρ:=(rfl)
theorem E8{c o a b ρ}:ev c (.cmp o a b) ρ=(jm (isVar a) (ev c a) (isVar b) (ev c b) ρ).bind fun xy ρ=>lift (vL o xy.1 xy.2) ρ:=(rfl)
theorem E9{c t a b ρ}:ev c (.K6 t a b) ρ=(jk (ev c t) ρ).bind fun k ρ=>if k then(ev c a ρ).bind fun r ρ=>.ok (.val r.d) ρ else(ev c b ρ).bind fun r ρ=>.ok (.val r.d) ρ:=(rfl)
theorem E10{c as ρ}:ev c (.tup as) ρ=(evs c as ρ).bind fun ds ρ=>.ok (.val (.tup ds)) ρ:=(rfl)
theorem E11{c as ρ}:ev c (.lst as) ρ=(evs c as ρ).bind fun ds ρ=>.ok (.own ds) ρ:=(rfl)
theorem E12{c a i ρ}:ev c (.idx a i) ρ=(jm (isVar a) (ev c a) (isVar i) (ev c i) ρ).bind fun xy ρ=>lift (GK xy.1 xy.2) ρ:=(rfl)
theorem E13{c a l h ρ}:ev c (.slice a l h) ρ=match isVar a with|some i=>(lift (pk ρ i) ρ).bind fun _ ρ=>(bW (isVar l) (ev c l) ρ).bind fun y ρ=>(bW (isVar h) (ev c h) ρ).bind fun z ρ=>(lift (pk ρ i) ρ).bind fun x ρ=>lift (KD x (part l y) (part h z)) ρ|none=>(bW none (ev c a) ρ).bind fun x ρ=>(bW (isVar l) (ev c l) ρ).bind fun y ρ=>(bW (isVar h) (ev c h) ρ).bind fun z ρ=>lift (KD x (part l y) (part h z)) ρ:=(rfl)
theorem E14{c f as ρ}:ev c (.call f as) ρ=(vz c as ρ).bind fun xs ρ=>oX c f xs ρ:=(rfl)
theorem E15{c b a ρ}:ev c (.blt b [a]) ρ=(bW (isVar a) (ev c a) ρ).bind fun x ρ=>lift (blt b [x]) ρ:=(rfl)
theorem E16{c b x y r ρ}:ev c (.blt b (x::y::r)) ρ=(evs c (x::y::r) ρ).bind fun ds ρ=>lift (blt b ds) ρ:=(rfl)
theorem Td{c b ρ}:ev c (.blt b []) ρ=(evs c [] ρ).bind fun ds ρ=>lift (blt b ds) ρ:=(rfl)
theorem E17{c src n is one test elt ρ}:ev c (.comp src n is one test elt) ρ=(srcOf (isVar src) (ev c src) ρ).bind fun ds ρ₁=>if ds.length<=lim then(turns is one (sH c test) (ev c elt) ds [] (ρ₁++replicate n .aU)).bind fun xs ρ₂=>.ok (.own xs) (bh ρ (isVar src) (ρ₂.take ρ₁.length))else .stuck:=(rfl)
theorem E18{c a b ρ}:ev c (.zq a b) ρ=(jm (isVar a) (ev c a) (isVar b) (ev c b) ρ).bind fun xy ρ=>lift ((gh xy.1).bind fun i=>(gh xy.2).bind fun j=>if-1000000<=i/\i<=1000000000/\j<=1000000000/\-1000000000<=j then some (.val (.lst ((List.range (j-i).toNat).map fun(k:Nat)=>D.int (i+(k:Int)))))else none) ρ:=(rfl)
theorem E19{c a ρ}:ev c (.Sq a) ρ=(ev c a ρ).bind fun r ρ=>lift ((items r.d).map fun ds=>.val (.lst (ds.mapIdx fun i d=>D.tup [.int (i:Int),d]))) ρ:=(rfl)
theorem E20{c a b ρ}:ev c (.zip a b) ρ=(ev c a ρ).bind fun x ρ=>(ev c b ρ).bind fun y ρ=>lift ((items x.d).bind fun ds=>(items y.d).map fun es=>.val (.lst ((ds.zip es).map fun p=>D.tup [p.1,p.2]))) ρ:=(rfl)
theorem E21{c x k d ρ}:ev c (.Ss x k d) ρ=match ρ[x]?with
 |some (.fO _)=>(bW (isVar k) (ev c k) ρ).bind fun kd ρ=>(bW (isVar d) (ev c d) ρ).bind fun dd ρ=>match ρ[x]?with|some (.fO m)=>lift ((m.get kd).bind fun o=>(gh dd).map fun v=>.val (.int (o.getD v))) ρ|_=>.stuck
 |_=>.stuck:=(rfl)
theorem E22{c x ρ}:ev c (.vw x) ρ=match ρ[x]?with|some (.fO m)=>.ok (.val (.dw m)) (ρ.set x (.val false (.dw m)))|some (.cA kvs)=>.ok (.val (.dv (kvs.map (·.1)) (kvs.map (·.2)))) (ρ.set x (.val false (.dv (kvs.map (·.1)) (kvs.map (·.2)))))|_=>.stuck:=(rfl)
theorem E23{c x k ρ}:ev c (.K7 x k) ρ=match ρ[x]?with
 |some (.cA _)=>(bW (isVar k) (ev c k) ρ).bind fun kd ρ=>match ρ[x]?with|some (.cA kvs)=>lift ((gh kd).bind fun k=>(lK kvs k).map .val) ρ|_=>.stuck
 |_=>.stuck:=(rfl)
theorem E24{c x k neg ρ}:ev c (.K8 x k neg) ρ=(bW (isVar k) (ev c k) ρ).bind fun kd ρ=>match ρ[x]?with|some (.cA kvs)=>lift ((gh kd).map fun k=>.val (.bl (if neg then !(kvs.map (·.1)).contains k else(kvs.map (·.1)).contains k))) ρ|_=>.stuck:=(rfl)
theorem E25{c k e ρ}:ev c (.vd k e) ρ=.ok (.val (.dv [k] [.int e])) ρ:=(rfl)
inductive S where|pass|brk|cont|bad|expr(e:P)|asg(i:Nat)(e:P)|xm(x:Nat)(i e:P)|app(x:Nat)(e:P)|ret(e:P)|V5|ifs(c:P)(a b:List S)|gV(src:P)(i:List Nat)(one:Bool)(body:List S)|whl(c:P)(body:List S)|aug(x:Nat)(sub:Bool)(e:P)|Gb(x:Nat)(i:P)(sub:Bool)(e:P)|Gd(x:Nat)(e:P)|Ge(x:Nat)(t:Bool)|dput(x:Nat)(k e:P)|Gf(x:Nat)(src:P)(k:Nat)(is:List Nat)(one:Bool)(elt:P)|Gg(x:Nat)(i e:P)|Bc(src:P)(is:List Nat)(one:Bool)(body:List S)|cG(x:Nat)|Bd(x:Nat)|fZ(x:Nat)(k e:P)deriving Inhabited
inductive Fl where|next|brk|cont|ret(r:R)deriving Inhabited
noncomputable def v7:R->Sl|.val d=>.val false d|.own ds=>.own false ds
noncomputable def gw(is:List Nat)(one:Bool)(body:List Sl->Res Fl):List D->List Sl->Res Fl|[],ρ=>.ok .next ρ|d::r,ρ=>match cB ρ is one d with|none=>.stuck|some ρ=>(body ρ).bind fun fl ρ=>match fl with|.next=>gw is one body r ρ|.cont=>gw is one body r ρ|.brk=>.ok .next ρ|.ret r=>.ok (.ret r) ρ
noncomputable def pM(test:List Sl->Res Bool)(body:List Sl->Res Fl):Nat->List Sl->Res Fl|0,_=>.stuck|n+1,ρ=>(test ρ).bind fun b ρ=>if b then(body ρ).bind fun fl ρ=>match fl with|.next=>pM test body n ρ|.cont=>pM test body n ρ|.brk=>.ok .next ρ|.ret r=>.ok (.ret r) ρ else .ok .next ρ
noncomputable def dY(is:List Nat)(one:Bool)(elt:Ev):List D->List (List D)->List Sl->Res (List (List D))|[],acc,ρ=>.ok acc ρ|d::r,acc,ρ=>match cB ρ is one d with|none=>.stuck|some ρ=>(elt ρ).bind fun x ρ=>match x with|.own ds=>dY is one elt r (acc++[ds]) ρ|.val _=>.stuck
noncomputable def rowAt(rows:List (List D))(k:Int):Option (List D):=(ig rows.length k).bind fun r=>rows[r]?
noncomputable def iG(rows:List (List D))(k:Int)(f:List D->Option (List D)):Option (List (List D)):=(ig rows.length k).bind fun r=>(rows[r]?).bind fun row=>(f row).map fun jq=>rows.set r jq
noncomputable def setAt(l:Int)(d:D)(row:List D):Option (List D):=(ig row.length l).map fun m=>row.set m d
noncomputable def gY(ρ:List Sl)(x:Nat):Option (List (List D)):=match ρ[x]?with|some (.hold rows)=>some rows|_=>none
noncomputable def rK(ρ:List Sl)(x:Nat)(k:D):Option (List D):=(gY ρ x).bind fun rows=>(gh k).bind fun k=>rowAt rows k
noncomputable def Ah(ρ:List Sl)(x:Nat)(o:Option (List (List D))):Res Fl:=match o with|some rows=>.ok .next (ρ.set x (.hold rows))|none=>.stuck
noncomputable def rowOne(x r:Nat)(ej ek el:List Sl->Res D)(ρ:List Sl):Res Fl:=(ek ρ).bind fun k ρ=>(lift ((gY ρ x).bind fun rows=>(rows[r]?).bind fun row=>(gh k).bind fun k=>(at' row k).bind gh) ρ).bind fun u ρ=>(el ρ).bind fun l ρ=>(lift ((gY ρ x).bind fun rows=>(rows[r]?).bind fun row=>(gh l).bind fun l=>(at' row l).bind gh) ρ).bind fun v ρ=>(ej ρ).bind fun j ρ=>Ah ρ x ((gY ρ x).bind fun rows=>(rows[r]?).bind fun row=>(gh j).bind fun j=>(setAt j (.int (u+v)) row).map fun jq=>rows.set r jq)
noncomputable def Ls(x y:Nat)(ej ek el:List Sl->Res D):Nat->Nat->List Sl->Res Fl|0,_,ρ=>.ok .next ρ|m+1,r,ρ=>(lift (put ρ y .aU) ρ).bind fun ρ _=>(rowOne x r ej ek el ρ).bind fun _ ρ=>Ls x y ej ek el m (r+1) ρ
noncomputable def Lk(is:List Nat)(one:Bool)(body:List Sl->Res Fl)(bx:List Sl->Option (Nat×List Sl)):List D->List Sl->Option (Nat×List Sl)|[],_=>none|d::r,ρ=>match cB ρ is one d with|none=>none|some ρ=>match bx ρ with|some x=>some x|none=>match body ρ with|.ok .next ρ1=>Lk is one body bx r ρ1|.ok .cont ρ1=>Lk is one body bx r ρ1|_=>none
noncomputable def Qg:P->P|.idx a _=>a|e=>e
noncomputable def Ky(c:Call)(e:P)(ρ:List Sl):Option (Nat×List Sl):=match Qg e with
 |.call f as=>match vz c as ρ with
   |.ok xs ρ1=>match bC ρ1 xs []with
     |some args=>match c f args with|.exc k args'=>some (k,cC xs args' 0 ρ1)|_=>none
     |none=>none
   |_=>none
 |_=>none
mutual
noncomputable def ex(c:Call)(n:Nat):S->List Sl->Res Fl
 |.pass,ρ=>.ok .next ρ|.brk,ρ=>.ok .brk ρ|.cont,ρ=>.ok .cont ρ|.bad,_=>.stuck|.expr e,ρ=>(ev c e ρ).bind fun _ ρ=>.ok .next ρ|.asg i e,ρ=>(ev c e ρ).bind fun r ρ=>(lift (put ρ i (v7 r)) ρ).bind fun ρ' _=>.ok .next ρ'|.xm x i e,ρ=>(ev c e ρ).bind fun r ρ=>(lift (pk ρ x) ρ).bind fun _ ρ=>(bW (isVar i) (ev c i) ρ).bind fun k ρ=>match ρ[x]?,k with
   |some (.own b ds),.int k=>match ig ds.length k with|some j=>.ok .next (ρ.set x (.own b (ds.set j r.d)))|none=>.stuck
   |_,_=>.stuck
 |.app x e,ρ=>(lift (wu ρ x) ρ).bind fun _ ρ=>(ev c e ρ).bind fun r ρ=>match ρ[x]?with|some (.own b ds)=>if ds.length<lim then .ok .next (ρ.set x (.own b (ds++[r.d])))else .stuck|_=>.stuck
 |.ret e,ρ=>match isVar e with
   |some i=>match ρ[i]?with|some (.own false ds)=>.ok (.ret (.own ds)) (ρ.set i .aU)|_=>(ev c e ρ).bind fun r ρ=>.ok (.ret r) ρ
   |none=>(ev c e ρ).bind fun r ρ=>.ok (.ret r) ρ
 |.V5,ρ=>.ok (.ret (.val .non)) ρ|.ifs t a b,ρ=>(jk (ev c t) ρ).bind fun k ρ=>if k then gH c n a ρ else gH c n b ρ|.gV src is one body,ρ=>(srcOf (isVar src) (ev c src) ρ).bind fun ds ρ₁=>(gw is one (gH c n body) ds ρ₁).bind fun fl ρ₂=>.ok fl (bh ρ (isVar src) ρ₂)|.whl t body,ρ=>pM (jk (ev c t)) (gH c n body) n ρ|.aug x sub e,ρ=>(lift (pk ρ x) ρ).bind fun a ρ=>(bW (isVar e) (ev c e) ρ).bind fun b ρ=>match a,b with|.int i,.int j=>(lift (put ρ x (.val false (.int (if sub then i-j else i+j)))) ρ).bind fun ρ' _=>.ok .next ρ'|_,_=>.stuck
 |.Gb x i sub e,ρ=>(lift (wu ρ x) ρ).bind fun _ ρ=>(bW (isVar i) (ev c i) ρ).bind fun k ρ=>(lift (wu ρ x) ρ).bind fun l ρ=>(lift ((gh k).bind fun i=>at' l i) ρ).bind fun a ρ=>(bW (isVar e) (ev c e) ρ).bind fun b ρ=>match a,b,ρ[x]?,k with
   |.int u,.int v,some (.own bb ds),.int k=>match ig ds.length k with|some j=>.ok .next (ρ.set x (.own bb (ds.set j (.int (if sub then u-v else u+v)))))|none=>.stuck
   |_,_,_,_=>.stuck
 |.Gd x e,ρ=>(lift (wu ρ x) ρ).bind fun _ ρ=>(ev c e ρ).bind fun r ρ=>match ρ[x]?,r with|some (.own b ds),.own es=>if ds.length+es.length<=lim then .ok .next (ρ.set x (.own b (ds++es)))else .stuck|_,_=>.stuck
 |.Ge x t,ρ=>match ρ[x]?with|some .aU=>.ok .next (ρ.set x (.fO (if t then .t []else .k [])))|_=>.stuck
 |.dput x k e,ρ=>(ev c e ρ).bind fun r ρ=>match ρ[x]?with
   |some (.fO _)=>(bW (isVar k) (ev c k) ρ).bind fun kd ρ=>match ρ[x]?,r with
     |some (.fO m),.val (.int v)=>match m.put kd v with|some m'=>.ok .next (ρ.set x (.fO m'))|none=>.stuck
     |_,_=>.stuck
   |_=>.stuck
 |.Gf x src k is one elt,ρ=>(srcOf (isVar src) (ev c src) ρ).bind fun ds ρ₁=>if ds.length<=lim then(dY is one (ev c elt) ds [] (ρ₁++replicate k .aU)).bind fun rows ρ₂=>(lift (put (bh ρ (isVar src) (ρ₂.take ρ₁.length)) x (.hold rows)) ρ).bind fun ρ' _=>.ok .next ρ' else .stuck|.Gg x i e,ρ=>(bW (isVar i) (ev c i) ρ).bind fun k ρ=>(lift (rK ρ x k) ρ).bind fun _ ρ=>(ev c e ρ).bind fun r ρ=>Ah ρ x ((gY ρ x).bind fun rows=>(gh k).bind fun k=>iG rows k fun row=>if row.length<lim then some (row++[r.d])else none)|.Bc src is one body,ρ=>(ev c src ρ).bind fun r ρ₁=>(lift (items r.d) ρ₁).bind fun ds ρ₁=>gw is one (gH c n body) ds ρ₁|.cG x,ρ=>match ρ[x]?with|some (.hold rows)=>.ok .next (ρ.set x (.val false (.lst (rows.map D.lst))))|_=>.stuck
 |.Bd x,ρ=>match ρ[x]?with|some .aU=>.ok .next (ρ.set x (.cA []))|some (.cA _)=>.ok .next (ρ.set x (.cA []))|some (.val false _)=>.ok .next (ρ.set x (.cA []))|_=>.stuck
 |.fZ x k e,ρ=>(ev c e ρ).bind fun r ρ=>match ρ[x]?with
   |some (.cA _)=>(bW (isVar k) (ev c k) ρ).bind fun kd ρ=>match ρ[x]?,kd with|some (.cA kvs),.int k=>if kvs.length<lim then .ok .next (ρ.set x (.cA (fZ kvs k r.d)))else .stuck|_,_=>.stuck
   |_=>.stuck
noncomputable def gH(c:Call)(n:Nat):List S->List Sl->Res Fl|[],ρ=>.ok .next ρ|s::r,ρ=>(ex c n s ρ).bind fun fl ρ=>match fl with|.next=>gH c n r ρ|fl=>.ok fl ρ
noncomputable def exX(c:Call)(n:Nat):S->List Sl->Option (Nat×List Sl)
 |.ifs t a b,ρ=>match jk (ev c t) ρ with|.ok x ρ1=>if x then Cj c n a ρ1 else Cj c n b ρ1|_=>none
 |.gV src is one body,ρ=>match srcOf (isVar src) (ev c src) ρ with|.ok ds ρ1=>(Lk is one (gH c n body) (Cj c n body) ds ρ1).map fun x=>(x.1,bh ρ (isVar src) x.2)|_=>none
 |.asg _ e,ρ=>Ky c e ρ|.expr e,ρ=>Ky c e ρ|_,_=>none
noncomputable def Cj(c:Call)(n:Nat):List S->List Sl->Option (Nat×List Sl)|[],_=>none|s::r,ρ=>match exX c n s ρ with|some x=>some x|none=>match ex c n s ρ with|.ok .next ρ1=>Cj c n r ρ1|_=>none
end
theorem X1{c n ρ}:ex c n (.pass) ρ=.ok .next ρ:=(rfl)
theorem X2{c n ρ}:ex c n (.brk) ρ=.ok .brk ρ:=(rfl)
theorem X3{c n ρ}:ex c n (.cont) ρ=.ok .cont ρ:=(rfl)
theorem X4{c n ρ}:ex c n (.bad) ρ=.stuck:=(rfl)
theorem X5{c n e ρ}:ex c n (.expr e) ρ=(ev c e ρ).bind fun _ ρ=>.ok .next ρ:=(rfl)
theorem X6{c n i e ρ}:ex c n (.asg i e) ρ=(ev c e ρ).bind fun r ρ=>(lift (put ρ i (v7 r)) ρ).bind fun ρ' _=>.ok .next ρ':=(rfl)
theorem X7{c n x i e ρ}:ex c n (.xm x i e) ρ=(ev c e ρ).bind fun r ρ=>(lift (pk ρ x) ρ).bind fun _ ρ=>(bW (isVar i) (ev c i) ρ).bind fun k ρ=>match ρ[x]?,k with
 |some (.own b ds),.int k=>match ig ds.length k with|some j=>.ok .next (ρ.set x (.own b (ds.set j r.d)))|none=>.stuck
 |_,_=>.stuck:=(rfl)
theorem X8{c n x e ρ}:ex c n (.app x e) ρ=(lift (wu ρ x) ρ).bind fun _ ρ=>(ev c e ρ).bind fun r ρ=>match ρ[x]?with|some (.own b ds)=>if ds.length<lim then .ok .next (ρ.set x (.own b (ds++[r.d])))else .stuck|_=>.stuck:=(rfl)
theorem X9{c n e ρ}:ex c n (.ret e) ρ=match isVar e with
 |some i=>match ρ[i]?with|some (.own false ds)=>.ok (.ret (.own ds)) (ρ.set i .aU)|_=>(ev c e ρ).bind fun r ρ=>.ok (.ret r) ρ
 |none=>(ev c e ρ).bind fun r ρ=>.ok (.ret r) ρ:=(rfl)
theorem X10{c n ρ}:ex c n (.V5) ρ=.ok (.ret (.val .non)) ρ:=(rfl)
theorem W7{c n t a b ρ}:ex c n (.ifs t a b) ρ=(jk (ev c t) ρ).bind fun k ρ=>if k then gH c n a ρ else gH c n b ρ:=(rfl)
theorem Ze{c n src is one body ρ}:ex c n (.gV src is one body) ρ=(srcOf (isVar src) (ev c src) ρ).bind fun ds ρ₁=>(gw is one (gH c n body) ds ρ₁).bind fun fl ρ₂=>.ok fl (bh ρ (isVar src) ρ₂):=(rfl)
theorem X13{c n t body ρ}:ex c n (.whl t body) ρ=pM (jk (ev c t)) (gH c n body) n ρ:=(rfl)
theorem X14{c n x sub e ρ}:ex c n (.aug x sub e) ρ=(lift (pk ρ x) ρ).bind fun a ρ=>(bW (isVar e) (ev c e) ρ).bind fun b ρ=>match a,b with|.int i,.int j=>(lift (put ρ x (.val false (.int (if sub then i-j else i+j)))) ρ).bind fun ρ' _=>.ok .next ρ'|_,_=>.stuck:=(rfl)
theorem X15{c n x i sub e ρ}:ex c n (.Gb x i sub e) ρ=(lift (wu ρ x) ρ).bind fun _ ρ=>(bW (isVar i) (ev c i) ρ).bind fun k ρ=>(lift (wu ρ x) ρ).bind fun l ρ=>(lift ((gh k).bind fun i=>at' l i) ρ).bind fun a ρ=>(bW (isVar e) (ev c e) ρ).bind fun b ρ=>match a,b,ρ[x]?,k with
 |.int u,.int v,some (.own bb ds),.int k=>match ig ds.length k with|some j=>.ok .next (ρ.set x (.own bb (ds.set j (.int (if sub then u-v else u+v)))))|none=>.stuck
 |_,_,_,_=>.stuck:=(rfl)
theorem X16{c n x e ρ}:ex c n (.Gd x e) ρ=(lift (wu ρ x) ρ).bind fun _ ρ=>(ev c e ρ).bind fun r ρ=>match ρ[x]?,r with|some (.own b ds),.own es=>if ds.length+es.length<=lim then .ok .next (ρ.set x (.own b (ds++es)))else .stuck|_,_=>.stuck:=(rfl)
theorem X17{c n x t ρ}:ex c n (.Ge x t) ρ=match ρ[x]?with|some .aU=>.ok .next (ρ.set x (.fO (if t then .t []else .k [])))|_=>.stuck:=(rfl)
theorem X18{c n x k e ρ}:ex c n (.dput x k e) ρ=(ev c e ρ).bind fun r ρ=>match ρ[x]?with
 |some (.fO _)=>(bW (isVar k) (ev c k) ρ).bind fun kd ρ=>match ρ[x]?,r with
   |some (.fO m),.val (.int v)=>match m.put kd v with|some m'=>.ok .next (ρ.set x (.fO m'))|none=>.stuck
   |_,_=>.stuck
 |_=>.stuck:=(rfl)
theorem X19{c n x src k is one elt ρ}:ex c n (.Gf x src k is one elt) ρ=(srcOf (isVar src) (ev c src) ρ).bind fun ds ρ₁=>if ds.length<=lim then(dY is one (ev c elt) ds [] (ρ₁++replicate k .aU)).bind fun rows ρ₂=>(lift (put (bh ρ (isVar src) (ρ₂.take ρ₁.length)) x (.hold rows)) ρ).bind fun ρ' _=>.ok .next ρ' else .stuck:=(rfl)
theorem X20{c n x i e ρ}:ex c n (.Gg x i e) ρ=(bW (isVar i) (ev c i) ρ).bind fun k ρ=>(lift (rK ρ x k) ρ).bind fun _ ρ=>(ev c e ρ).bind fun r ρ=>Ah ρ x ((gY ρ x).bind fun rows=>(gh k).bind fun k=>iG rows k fun row=>if row.length<lim then some (row++[r.d])else none):=(rfl)
theorem X21{c n src is one body ρ}:ex c n (.Bc src is one body) ρ=(ev c src ρ).bind fun r ρ₁=>(lift (items r.d) ρ₁).bind fun ds ρ₁=>gw is one (gH c n body) ds ρ₁:=(rfl)
theorem X22{c n x ρ}:ex c n (.cG x) ρ=match ρ[x]?with|some (.hold rows)=>.ok .next (ρ.set x (.val false (.lst (rows.map D.lst))))|_=>.stuck:=(rfl)
theorem X23{c n x ρ}:ex c n (.Bd x) ρ=match ρ[x]?with|some .aU=>.ok .next (ρ.set x (.cA []))|some (.cA _)=>.ok .next (ρ.set x (.cA []))|some (.val false _)=>.ok .next (ρ.set x (.cA []))|_=>.stuck:=(rfl)
theorem X24{c n x k e ρ}:ex c n (.fZ x k e) ρ=(ev c e ρ).bind fun r ρ=>match ρ[x]?with
 |some (.cA _)=>(bW (isVar k) (ev c k) ρ).bind fun kd ρ=>match ρ[x]?,kd with|some (.cA kvs),.int k=>if kvs.length<lim then .ok .next (ρ.set x (.cA (fZ kvs k r.d)))else .stuck|_,_=>.stuck
 |_=>.stuck:=(rfl)
structure Fd where
 np:Nat
 nn:Nat
 body:List S deriving Inhabited
noncomputable abbrev Tab:=Nat->Option Fd
noncomputable def enter(c:Call)(n:Nat)(d:Fd)(args:List Sl):Res R:=if args.length=d.np/\d.np<=d.nn then match gH c n d.body (args++replicate (d.nn-d.np) .aU)with|.ok .next ρ=>.ok (.val .non) (ρ.take d.np)|.ok (.ret r) ρ=>.ok r (ρ.take d.np)|_=>match Cj c n d.body (args++replicate (d.nn-d.np) .aU)with|some (k,ρ)=>.exc k (ρ.take d.np)|none=>.stuck else .stuck
noncomputable def run(Γ:Tab)(w:Nat):Nat->Call|0,_,_=>.stuck|n+1,f,args=>match Γ f with|some d=>enter (run Γ w n) w d args|none=>.stuck
end HH
end
section
namespace HH
open PySem L2
noncomputable def Dc.ho:Dc->HO|.k kvs=>.dK (kvs.map fun p=>(Sum.inl p.1,V.int p.2))|.t kvs=>.dT (kvs.map fun p=>(p.1.map Sum.inl,V.int p.2))
noncomputable def yr(ks:List Int)(vs:List V):HO:=.dK ((ks.zip vs).map fun p=>(Sum.inl p.1,p.2))
section
variable(K:PySem.W.Frag)
mutual
def Rep(F:Hp):V->D->Prop|v,.non=>v=.non|v,.bl b=>v=.bl b|v,.int i=>v=.int i|v,.str x=>v=.str x|v,.tup ds=>∃a xs,v=.ref a/\gO K F a xs/\aF F xs ds|v,.lst ds=>∃a xs,v=.ref a/\dM K F a xs/\aF F xs ds|v,.dw m=>∃a o,v=.ref a/\F a=some (.cG o m.ho)|v,.dv ks ds=>∃a o vs,v=.ref a/\F a=some (.cG o (yr ks vs))/\aF F vs ds/\ks.length=ds.length
def aF(F:Hp):List V->List D->Prop|vs,[]=>vs=[]|vs,d::ds=>∃v r,vs=v::r/\Rep F v d/\aF F r ds
end
end
section
variable{K:PySem.W.Frag}{F F' H H':Hp}
theorem aH.fM{a:Addr}{xs:List V}(e:aH H H')(h:gO K H a xs):gO K H' a xs:=by
 rcases h with(h|⟨o,h⟩)|h;.exact .inl (.inl (e _ _ h))
 .exact .inl (.inr ⟨o,e _ _ h⟩)
 .exact .inr h
mutual
theorem Rep.mono(e:aH F F'):∀{d:D}{v:V},Rep K F v d->Rep K F' v d|.non,_,h=>by rw[Rep]at h ⊢;exact h|.bl _,_,h=>by rw[Rep]at h ⊢;exact h|.int _,_,h=>by rw[Rep]at h ⊢;exact h|.str _,_,h=>by rw[Rep]at h ⊢;exact h|.tup ds,_,h=>by rw[Rep]at h ⊢;obtain⟨a,xs,rfl,hs,r⟩:=h;exact⟨a,xs,rfl,aH.fM e hs,aF.mono e r⟩|.lst ds,_,h=>by rw[Rep]at h ⊢;obtain⟨a,xs,rfl,hs,r⟩:=h;exact⟨a,xs,rfl,e.seq hs,aF.mono e r⟩|.dw m,_,h=>by rw[Rep]at h ⊢;obtain⟨a,o,rfl,hs⟩:=h;exact⟨a,o,rfl,e _ _ hs⟩|.dv ks ds,_,h=>by rw[Rep]at h ⊢;obtain⟨a,o,vs,rfl,hs,r,hl⟩:=h;exact⟨a,o,vs,rfl,e _ _ hs,aF.mono e r,hl⟩theorem aF.mono(e:aH F F'):∀{ds:List D}{vs:List V},aF K F vs ds->aF K F' vs ds|[],_,h=>by rw[aF]at h ⊢;exact h|d::ds,_,h=>by rw[aF]at h ⊢;obtain⟨v,r,rfl,h1,h2⟩:=h;exact⟨v,r,rfl,Rep.mono e h1,aF.mono e h2⟩end
theorem aF.nil:aF K F [] []:=by rw[aF]
theorem aF.cons{v:V}{d:D}{vs:List V}{ds:List D}(h:Rep K F v d)(t:aF K F vs ds):aF K F (v::vs) (d::ds):=by rw[aF];exact⟨v,vs,rfl,h,t⟩
theorem aF.cj{vs:List V}{d:D}{ds:List D}(h:aF K F vs (d::ds)):∃v r,vs=v::r/\Rep K F v d/\aF K F r ds:=by rw[aF]at h;exact h
theorem aF.fP{vs:List V}(h:aF K F vs []):vs=[]:=by rw[aF]at h;exact h
theorem aF.length:∀{ds:List D}{vs:List V},aF K F vs ds->vs.length=ds.length|[],_,h=>by rw[h.fP];rfl|d::ds,_,h=>by obtain⟨v,r,rfl,_,t⟩:=h.cj;simp[aF.length t]
theorem aF.get:∀{ds:List D}{vs:List V}{i:Nat}{d:D},aF K F vs ds->ds[i]?=some d->∃v,vs[i]?=some v/\Rep K F v d|[],_,_,_,h,e=>by simp at e|d::ds,_,0,_,h,e=>by obtain⟨v,r,rfl,h1,t⟩:=h.cj;simp at e;subst e;exact⟨v,rfl,h1⟩|d::ds,_,i+1,_,h,e=>by obtain⟨v,r,rfl,_,t⟩:=h.cj;simp at e;obtain⟨w,e1,e2⟩:=t.get e;exact⟨w,by simpa using e1,e2⟩
theorem aF.append:∀{ds es:List D}{vs us:List V},aF K F vs ds->aF K F us es->aF K F (vs++us) (ds++es)|[],_,_,_,h,h'=>by rw[h.fP];exact h'|d::ds,_,_,_,h,h'=>by obtain⟨v,r,rfl,h1,t⟩:=h.cj;exact .cons h1 (t.append h')
theorem aF.set{v:V}{d:D}(hr:Rep K F v d):∀{ds:List D}{vs:List V}(i:Nat),aF K F vs ds->aF K F (vs.set i v) (ds.set i d)|[],_,_,h=>by rw[h.fP];exact .nil|_::_,_,0,h=>by obtain⟨w,r,rfl,h1,t⟩:=h.cj;exact .cons hr t|_::_,_,i+1,h=>by obtain⟨w,r,rfl,h1,t⟩:=h.cj;exact .cons h1 (aF.set hr i t)
theorem aF.take:∀{ds:List D}{vs:List V}(n:Nat),aF K F vs ds->aF K F (vs.take n) (ds.take n)|[],_,n,h=>by rw[h.fP];simpa using aF.nil|_::_,_,0,h=>.nil|_::_,_,n+1,h=>by obtain⟨w,r,rfl,h1,t⟩:=h.cj;exact .cons h1 (t.take n)
theorem aF.drop:∀{ds:List D}{vs:List V}(n:Nat),aF K F vs ds->aF K F (vs.drop n) (ds.drop n)|[],_,n,h=>by rw[h.fP];simpa using aF.nil|_::_,_,0,h=>h|_::_,_,n+1,h=>by obtain⟨w,r,rfl,h1,t⟩:=h.cj;exact t.drop n
theorem aF.rep{ds:List D}{vs:List V}(h:aF K F vs ds):∀n,aF K F (replicate n vs).flatten (replicate n ds).flatten|0=>by simpa using aF.nil|n+1=>by simpa[replicate_succ]using h.append (aF.rep h n)
inductive Oc where|l(ds:List D)|d(m:Dc)|v(kvs:List (Int×D))
noncomputable def lst?:Sl->Option Oc|.own _ ds=>some (.l ds)|.lent ds=>some (.l ds)|.fO m=>some (.d m)|.cA kvs=>some (.v kvs)|_=>none
def jw(K:PySem.W.Frag)(F:Hp)(o:HO):Oc->Prop|.l ds=>∃xs,o=.lst xs/\aF K F xs ds|.d m=>o=m.ho|.v kvs=>∃vs,o=yr (kvs.map (·.1)) vs/\aF K F vs (kvs.map (·.2))
theorem jw.mono{o:HO}{x:Oc}(e:aH F F')(h:jw K F o x):jw K F' o x:=by cases x with|l ds=>obtain⟨xs,e1,h⟩:=h;exact⟨xs,e1,h.mono e⟩|d m=>exact h|v kvs=>obtain⟨xs,e1,h⟩:=h;exact⟨xs,e1,h.mono e⟩
def aQ(ρ:List Sl)(σ:St)(i:Nat)(a:Addr):Prop:=(∃s ds,ρ[i]?=some s/\lst? s=some ds)/\σ[i]?=some (some (V.ref a))
def Own(ρ:List Sl)(σ:St)(a:Addr):Prop:=∃i,aQ ρ σ i a
structure GS(K:PySem.W.Frag)(F:Hp)(ρ:List Sl)(σ:St)(H:Hp):Prop where
 sub:aH F H
 len:ρ.length=σ.length
 val:∀(i:Nat)(b:Bool)(d:D),ρ[i]?=some (Sl.val b d)->∃v:V,σ[i]?=some (some v)/\Rep K F v d
 own:∀(i:Nat)(s:Sl)(ds:Oc),ρ[i]?=some s->lst? s=some ds->∃(a:Addr)(xs:HO),σ[i]?=some (some (V.ref a))/\H a=some xs/\F a=none/\jw K F xs ds
 dis:∀(i j:Nat)(a:Addr),aQ ρ σ i a->aQ ρ σ j a->i=j
theorem GS.oU{ρ:List Sl}{σ:St}(g:GS K F ρ σ H)(i:Nat)(s:Sl)(ds:List D)(e:ρ[i]?=some s)(e':lst? s=some (.l ds)):∃(a:Addr)(xs:List V),σ[i]?=some (some (V.ref a))/\H a=some (.lst xs)/\F a=none/\aF K F xs ds:=by obtain⟨a,o,h1,h2,h3,xs,rfl,h4⟩:=g.own i s (.l ds) e e';exact⟨a,xs,h1,h2,h3,h4⟩
noncomputable def qY:Sl->Bool|.val b _=>b|.own b _=>b|.lent _=>true|.aU=>false|.fO _=>false|.cA _=>false|.hold _=>true
def jQ:Sl->Sl->Prop|.val true d,s=>s=.val true d|.own true _,s=>(∃ds,s=.own true ds)\/∃d,s=.val true d|.lent ds,s=>s=.lent ds|.hold ds,s=>s=.hold ds|_,_=>True
theorem jQ.refl(s:Sl):jQ s s:=by unfold jQ;split<;>first|rfl|exact .inl ⟨_,rfl⟩|trivial
theorem jQ.qY{s s':Sl}(h:jQ s s')(l:qY s=true):HH.qY s'=true:=by cases s with
 |aU=>cases l|fO _=>cases l|cA _=>cases l|val b d=>cases b with|true=>cases h;rfl|false=>cases l
 |own b d=>cases b with|true=>rcases h with⟨_,rfl⟩|⟨_,rfl⟩<;>rfl|false=>cases l
 |lent d=>cases h;rfl|hold d=>cases h;rfl
theorem jQ.trans{s s' s'':Sl}(l:HH.qY s=true)(h:jQ s s')(h':jQ s' s''):jQ s s'':=by cases s with
 |aU=>cases l|fO _=>cases l|cA _=>cases l|val b d=>cases b with|true=>cases h;exact h'|false=>cases l
 |own b d=>cases b with
   | true => rcases h with⟨_,rfl⟩|⟨d,rfl⟩;.exact h'
             .exact .inr ⟨d,h'⟩|false=>cases l
 |lent d=>cases h;exact h'|hold d=>cases h;exact h'
noncomputable def nt:Option HO->Option HO|some (.tup _)=>none|o=>o
theorem jb{o:Option HO}(h:o=none):nt o=none:=by rw[h];rfl
theorem Bu{H:Hp}{b:Addr}{xs:List V}(h:H b=some (.lst xs))(z:nt (H b)=none):False:=by rw[h]at z;cases z
theorem Ef{o:HO}{x:Oc}(h:jw K F o x)(z:nt (some o)=none):False:=by cases x with|l ds=>obtain⟨xs,rfl,_⟩:=h;cases z|d m=>cases m<;>(cases(show o=_ from h);cases z)|v kvs=>obtain⟨xs,rfl,_⟩:=h;cases z
structure aq(K:PySem.W.Frag)(F:Hp)(ρ:List Sl)(σ:St)(H:Hp)(F':Hp)(ρ':List Sl)(σ':St)(H':Hp):Prop where
 gs:GS K F' ρ' σ' H'
 bY:aH F F'
 vf:∀b,F b=none->F' b≠none->Own ρ σ b\/nt (H b)=none
 keep:∀b o,H b=some o->¬ Own ρ σ b->H' b=some o
 tE:∀b,Own ρ' σ' b->Own ρ σ b\/H b=none
 len:ρ'.length=ρ.length
 lk:∀(i:Nat)(s:Sl),ρ[i]?=some s->qY s=true->σ'[i]?=σ[i]?/\∃s',ρ'[i]?=some s'/\jQ s s'
theorem aq.refl{ρ:List Sl}{σ:St}(g:GS K F ρ σ H):aq K F ρ σ H F ρ σ H:=⟨g,aH.refl _,fun b h h'=>absurd h h',fun _ _ h _=>h,fun _ h=>.inl h,rfl,fun i s h _=>⟨rfl,s,h,.refl s⟩⟩
theorem aq.trans{F1 F2 H1 H2:Hp}{ρ ρ1 ρ2:List Sl}{σ σ1 σ2:St}(a:aq K F ρ σ H F1 ρ1 σ1 H1)(b:aq K F1 ρ1 σ1 H1 F2 ρ2 σ2 H2):aq K F ρ σ H F2 ρ2 σ2 H2:=by
 have back:∀c,Own ρ1 σ1 c\/H1 c=none->Own ρ σ c\/H c=none:=fun c h=>by
  rcases h with h|h;.exact a.tE c h
  . by_cases ho:Own ρ σ c;.exact .inl ho
    .right;cases e:H c with|none=>rfl|some o=>rw[a.keep c o e ho]at h;cases h
 refine⟨b.gs,a.bY.trans b.bY,fun c h h'=>?_,fun c o h n=>?_,fun c h=>back c (b.tE c h),b.len.trans a.len,fun i s h l=>?_⟩
 . by_cases e:F1 c=none
   . by_cases ho:Own ρ σ c;.exact .inl ho
     . rcases b.vf c e h' with z|z;.exact(back c (.inl z)).imp id jb
       .right;cases q:H c with|none=>rfl|some o=>rw[a.keep c o q ho]at z;exact z
   .exact a.vf c h e
 . refine b.keep c o (a.keep c o h n) fun h'=>?_;rcases a.tE c h' with h'|h';.exact n h'
   .rw[h]at h';cases h'
 .obtain⟨e1,s1,h1,k1⟩:=a.lk i s h l;obtain⟨e2,s2,h2,k2⟩:=b.lk i s1 h1 (k1.qY l);exact⟨e2.trans e1,s2,h2,.trans l k1 k2⟩
def dF(K:PySem.W.Frag)(F H:Hp)(v:V)(d:D):Prop:=Rep K F v d\/∃a xs ds,v=.ref a/\H a=some (.lst xs)/\aF K F xs ds/\d=.lst ds
def bV(K:PySem.W.Frag)(F':Hp)(ρ':List Sl)(σ':St)(H':Hp)(ρ:List Sl)(σ:St)(H:Hp)(v:V):R->Prop|.val d=>Rep K F' v d|.own ds=>∃a xs,v=.ref a/\H' a=some (.lst xs)/\F' a=none/\aF K F' xs ds/\¬ Own ρ' σ' a/\(Own ρ σ a\/H a=none)
theorem aH.bO{F:Hp}{a:Addr}{o:HO}(h:F a=none):aH F (upd F a o):=fun b u e=>by
 have:b≠a:=by rintro rfl;rw[h]at e;cases e
 rw[az this];exact e
theorem aq.cG{ρ ρ':List Sl}{σ σ':St}{v:V}{r:R}(s:aq K F ρ σ H F' ρ' σ' H')(h:bV K F' ρ' σ' H' ρ σ H v r):∃F'',aq K F ρ σ H F'' ρ' σ' H'/\aH F' F''/\Rep K F'' v r.d:=by cases r with|val d=>exact⟨F',s,.refl _,h⟩|own ds=>
   obtain⟨a,xs,rfl,h1,h2,h3,h4,h5⟩:=h;have sm:aH F' (upd F' a (.lst xs)):=aH.bO h2;refine⟨upd F' a (.lst xs),⟨⟨fun b o e=>?_,s.gs.len,fun i b d e=>?_,fun i sl ds' e e'=>?_,s.gs.dis⟩,s.bY.trans sm,fun b n n'=>?_,s.keep,s.tE,s.len,s.lk⟩,sm,?_⟩
   . by_cases hb:b=a;.subst hb;rw[aJ]at e;cases e;exact h1
     .rw[az hb]at e;exact s.gs.sub b o e
   .obtain⟨v,e1,e2⟩:=s.gs.val i b d e;exact⟨v,e1,e2.mono sm⟩
   . obtain⟨b,ys,e1,e2,e3,e4⟩:=s.gs.own i sl ds' e e';have hb:b≠a:=by rintro rfl;exact h4 ⟨i,⟨sl,ds',e,e'⟩,e1⟩
     exact⟨b,ys,e1,e2,by rw[az hb];exact e3,e4.mono sm⟩
   . by_cases hb:b=a;.subst hb;exact h5.imp id jb
     .rw[az hb]at n';exact s.vf b n n'
   .show Rep K _ _ (.lst ds);rw[Rep];exact⟨a,xs,rfl,dM.of aJ,h3.mono sm⟩
theorem GS.pk{ρ:List Sl}{σ:St}{i:Nat}{d:D}(g:GS K F ρ σ H)(e:HH.pk ρ i=some d):∃v:V,σ[i]?=some (some v)/\dF K F H v d:=by
 unfold HH.pk at e;split at e;.rename_i b d' h;cases e;obtain⟨v,h1,h2⟩:=g.val i b d h;exact⟨v,h1,.inl h2⟩
 .rename_i b ds h;cases e;obtain⟨a,xs,h1,h2,h3,h4⟩:=g.oU i _ ds h rfl;exact⟨.ref a,h1,.inr ⟨a,xs,ds,rfl,h2,h4,rfl⟩⟩
 .rename_i ds h;cases e;obtain⟨a,xs,h1,h2,h3,h4⟩:=g.oU i _ ds h rfl;exact⟨.ref a,h1,.inr ⟨a,xs,ds,rfl,h2,h4,rfl⟩⟩
 .cases e
structure Ext(F H F' H':Hp):Prop where
 hs:aH H H'
 fs:aH F F'
 sub:aH F' H'
 gr:∀b,F b=none->F' b≠none->nt (H b)=none
theorem Ext.refl(h:aH F H):Ext F H F H:=⟨.refl _,.refl _,h,fun _ a b=>absurd a b⟩
theorem Ext.stp{ρ:List Sl}{σ:St}(g:GS K F ρ σ H)(e:Ext F H F' H'):aq K F ρ σ H F' ρ σ H':=by
 refine⟨⟨e.sub,g.len,fun i b d h=>?_,fun i s ds h h'=>?_,g.dis⟩,e.fs,fun b n n'=>.inr (e.gr b n n'),fun b o h _=>e.hs b o h,fun _ h=>.inl h,rfl,fun i s h _=>⟨rfl,s,h,.refl s⟩⟩;.obtain⟨v,h1,h2⟩:=g.val i b d h;exact⟨v,h1,h2.mono e.fs⟩
 .obtain⟨a,xs,h1,h2,h3,h4⟩:=g.own i s ds h h';refine⟨a,xs,h1,e.hs _ _ h2,?_,h4.mono e.fs⟩;cases q:F' a with|none=>rfl|some o=>have:=e.gr a h3 (by rw[q];simp);rw[h2]at this;exact(Ef h4 this).elim
def bN(K:PySem.W.Frag)(F' H' H:Hp)(v:V):R->Prop|.val d=>Rep K F' v d|.own ds=>∃a xs,v=.ref a/\H' a=some (.lst xs)/\F' a=none/\aF K F' xs ds/\H a=none
theorem bN.nY{ρ:List Sl}{σ:St}{v:V}{r:R}(g:GS K F ρ σ H)(h:bN K F' H' H v r):bV K F' ρ σ H' ρ σ H v r:=by cases r with|val d=>exact h|own ds=>obtain⟨a,xs,rfl,h1,h2,h3,h4⟩:=h;refine⟨a,xs,rfl,h1,h2,h3,?_,.inr h4⟩;rintro⟨i,⟨s,ds',e,e'⟩,e2⟩;obtain⟨b,ys,q1,q2,_⟩:=g.own i s ds' e e';rw[e2]at q1;cases q1;rw[h4]at q2;cases q2
theorem bV.later{F1 H1 F2 H2:Hp}{ρ ρ1 ρ2:List Sl}{σ σ1 σ2:St}{v:V}{r:R}(a:aq K F ρ σ H F1 ρ1 σ1 H1)(h:bV K F2 ρ2 σ2 H2 ρ1 σ1 H1 v r):bV K F2 ρ2 σ2 H2 ρ σ H v r:=by cases r with|val d=>exact h|own ds=>
   obtain⟨b,xs,rfl,h1,h2,h3,h4,h5⟩:=h;refine⟨b,xs,rfl,h1,h2,h3,h4,?_⟩;rcases h5 with h5|h5;.exact a.tE b h5
   . by_cases ho:Own ρ σ b;.exact .inl ho
     .right;cases e:H b with|none=>rfl|some o=>rw[a.keep b o e ho]at h5;cases h5
end
end HH
end
section
namespace HH
open PySem L2 PySem.Spec PyProof.Rows
theorem aa{α β:Type}{x:Res α}{f:α->List Sl->Res β}{b:β}{ρ':List Sl}(h:x.bind f=.ok b ρ'):∃a ρ,x=.ok a ρ/\f a ρ=.ok b ρ':=by cases x with|ok a ρ=>exact⟨a,ρ,rfl,h⟩|exc _ _=>cases h|stuck=>cases h
theorem aG{α:Type}{o:Option α}{ρ ρ':List Sl}{a:α}(h:lift o ρ=.ok a ρ'):o=some a/\ρ=ρ':=by cases o with|none=>cases h|some b=>cases h;exact⟨rfl,rfl⟩
theorem map_some{α β:Type}{o:Option α}{f:α->β}{b:β}(h:o.map f=some b):∃a,o=some a/\f a=b:=by cases o with|none=>cases h|some a=>cases h;exact⟨a,rfl,rfl⟩
theorem bU{α β:Type}{o:Option α}{f:α->Option β}{b:β}(h:o.bind f=some b):∃a,o=some a/\f a=some b:=by cases o with|none=>cases h|some a=>exact⟨a,rfl,h⟩
theorem bj{α:Type}{c:Prop}[Decidable c]{a b:α}(h:(if c then some a else none)=some b):c/\a=b:=by
 split at h;.rename_i hc;cases h;exact⟨hc,rfl⟩
 .cases h
section
variable{X:Cx}{c:Call}{e a b:Expr}{p pa pb:P}{pos:Pos}
theorem fJ{t t':TE}(h:PE X e t)(i:∀σ H Q,t' σ H Q->t σ H Q):PE X e t':=fun pins s σ H Q I q=>h pins s σ H Q I (i σ H Q q)
theorem ym{t t':TT}(h:PT X e t)(i:∀σ H Q,t' σ H Q->t σ H Q):PT X e t':=fun pins s σ H Q I q=>h pins s σ H Q I (i σ H Q q)
theorem Tv{t t':TT}(h:PW X e t)(i:∀σ H Q,t' σ H Q->t σ H Q):PW X e t':=fun wh pins s σ H Q I q=>h wh pins s σ H Q I (i σ H Q q)
theorem tM{es:List Expr}{t t':TA}(h:PA X es t)(i:∀σ H Q,t' σ H Q->t σ H Q):PA X es t':=fun pos pins s σ H Q I q=>h pos pins s σ H Q I (i σ H Q q)
inductive yE(K:PySem.W.Frag)(f:Ev)(σ:L2.St)(H:Hp)(Q:VK):Prop where|mk(F:Hp)(ρ:List Sl)(r:R)(ρ':List Sl)(g:GS K F ρ σ H)(e:f ρ=.ok r ρ')(k:∀v F' H',aq K F ρ σ H F' ρ' σ H'->bV K F' ρ' σ H' ρ σ H v r->Q v H')
inductive Fw(K:PySem.W.Frag)(f:List Sl->Res Bool)(σ:L2.St)(H:Hp)(Q:Bool->Hp->Prop):Prop where|mk(F:Hp)(ρ:List Sl)(b:Bool)(ρ':List Sl)(g:GS K F ρ σ H)(e:f ρ=.ok b ρ')(k:∀F' H',aq K F ρ σ H F' ρ' σ H'->Q b H')
inductive Z8(K:PySem.W.Frag)(f:List Sl->Res (List D))(σ:L2.St)(H:Hp)(Q:List V->Hp->Prop):Prop where|mk(F:Hp)(ρ:List Sl)(ds:List D)(ρ':List Sl)(g:GS K F ρ σ H)(e:f ρ=.ok ds ρ')(k:∀vs F' H',aq K F ρ σ H F' ρ' σ H'->aF K F' vs ds->Q vs H')
structure SX(X:Cx)(c:Call)(e:Expr)(p:P):Prop where ev:PE X e (yE X.K (HH.ev c p))var:∀i,isVar p=some i->PE X e (M8 i)
def SA(X:Cx)(c:Call)(es:List Expr)(ps:List P):Prop:=PA X es (Z8 X.K (evs c ps))/\ps.length=es.length
theorem SX.bW(h:SX X c e p):∃t,PE X e t/\∀{σ:L2.St}{H F:Hp}{ρ ρ':List Sl}{d:D}{Q:VK},GS X.K F ρ σ H->bW (isVar p) (HH.ev c p) ρ=.ok d ρ'->(∀v F' H',aq X.K F ρ σ H F' ρ' σ H'->dF X.K F' H' v d->Q v H')->t σ H Q:=by cases hv:isVar p with|none=>refine⟨_,h.ev,fun{σ H F ρ ρ' d Q}g e k=>?_⟩;obtain⟨r,ρ1,e1,e2⟩:=aa e;cases e2;refine⟨F,ρ,r,_,g,e1,fun v F' H' s rr=>?_⟩;obtain⟨F'',s',_,rp⟩:=s.cG rr;exact k v F'' H' s' (.inl rp)|some i=>refine⟨_,h.var i hv,fun{σ H F ρ ρ' d Q}g e k=>?_⟩;obtain⟨e1,e2⟩:=aG e;subst e2;obtain⟨v,h1,h2⟩:=g.pk e1;exact⟨v,h1,k v F H (.refl g) h2⟩
theorem SX.jm(ha:SX X c a pa)(hb:SX X c b pb):∃ta tb,PE X a ta/\PE X b tb/\∀{σ:L2.St}{H F:Hp}{ρ ρ':List Sl}{xy:D×D}{R:V->V->Hp->Prop},GS X.K F ρ σ H->jm (isVar pa) (HH.ev c pa) (isVar pb) (HH.ev c pb) ρ=.ok xy ρ'->(∀v u F' H',aq X.K F ρ σ H F' ρ' σ H'->dF X.K F' H' v xy.1->dF X.K F' H' u xy.2->R v u H')->ta σ H fun x H1=>tb σ H1 fun y H2=>R x y H2:=by obtain⟨tb,hb1,hb2⟩:=hb.bW;cases hv:isVar pa with|none=>refine⟨_,tb,ha.ev,hb1,fun{σ H F ρ ρ' xy R}g e k=>?_⟩;obtain⟨x,ρ1,e1,e⟩:=aa e;obtain⟨y,ρ2,e2,e⟩:=aa e;cases e;obtain⟨r,ρ1',e1,e0⟩:=aa e1;cases e0;refine⟨F,ρ,r,_,g,e1,fun v F' H' s rr=>?_⟩;obtain⟨F1,s1,_,rp⟩:=s.cG rr;refine hb2 s1.gs e2 fun u F2 H2 s2 pu=>?_;exact k v u F2 H2 (s1.trans s2) (.inl (rp.mono s2.bY)) pu|some i=>refine⟨_,tb,ha.var i hv,hb1,fun{σ H F ρ ρ' xy R}g e k=>?_⟩;obtain⟨x0,ρ0,e0,e⟩:=aa e;obtain⟨e00,xn⟩:=aG e0;subst xn;obtain⟨y,ρ1,e1,e⟩:=aa e;obtain⟨x,ρ2,e2,e⟩:=aa e;cases e;have zz:=aG e2;clear e2;obtain⟨e2,e3⟩:=zz;subst e3;obtain⟨v,h1,_⟩:=g.pk e00;refine⟨v,h1,hb2 g e1 fun u F1 H1 s1 pu=>?_⟩;obtain⟨v',h1',pv⟩:=s1.gs.pk e2;rw[h1]at h1';cases h1';exact k v u F1 H1 s1 pv pu
inductive rD(K:PySem.W.Frag)(f:D->D->Option R)(x y:V)(H:Hp)(Q:VK):Prop where|mk(F:Hp)(d e:D)(r:R)(sm:aH F H)(px:dF K F H x d)(py:dF K F H y e)(he:f d e=some r)(k:∀v F' H',Ext F H F' H'->bN K F' H' H v r->Q v H')
inductive rD1(K:PySem.W.Frag)(f:D->Option R)(x:V)(H:Hp)(Q:VK):Prop where|mk(F:Hp)(d:D)(r:R)(sm:aH F H)(px:dF K F H x d)(he:f d=some r)(k:∀v F' H',Ext F H F' H'->bN K F' H' H v r->Q v H')
theorem vU{E:Expr}{f:D->D->Option R}{q:P}(hp:∀{ta tb},PE X a ta->PE X b tb->PE X E (RB (rD X.K f) ta tb))(ha:SX X c a pa)(hb:SX X c b pb)(hq:∀ρ,HH.ev c q ρ=(HH.jm (isVar pa) (HH.ev c pa) (isVar pb) (HH.ev c pb) ρ).bind fun xy ρ=>lift (f xy.1 xy.2) ρ)(hv:isVar q=none):SX X c E q:=by obtain⟨ta,tb,h1,h2,h3⟩:=ha.jm hb;refine⟨fJ (hp h1 h2) ?_,fun i h=>by rw[hv]at h;cases h⟩;rintro σ H Q⟨F,ρ,r,ρ',g,e,k⟩;rw[hq]at e;obtain⟨xy,ρ1,e1,e2⟩:=aa e;have zz:=aG e2;clear e2;obtain⟨e2,e3⟩:=zz;subst e3;refine h3 g e1 fun v u F' H' s pv pu=>⟨F',xy.1,xy.2,r,s.gs.sub,pv,pu,e2,fun w F2 H2 x rn=>?_⟩;exact k w F2 H2 (s.trans (x.stp s.gs)) (.later s (rn.nY s.gs))
theorem Oh{E:Expr}{f:D->Option R}{q:P}(hp:∀{ta},PE X a ta->PE X E (tUn (rD1 X.K f) ta))(ha:SX X c a pa)(hq:∀ρ,HH.ev c q ρ=(HH.bW (isVar pa) (HH.ev c pa) ρ).bind fun x ρ=>lift (f x) ρ)(hv:isVar q=none):SX X c E q:=by obtain⟨ta,h1,h3⟩:=ha.bW;refine⟨fJ (hp h1) ?_,fun i h=>by rw[hv]at h;cases h⟩;rintro σ H Q⟨F,ρ,r,ρ',g,e,k⟩;rw[hq]at e;obtain⟨x,ρ1,e1,e2⟩:=aa e;have zz:=aG e2;clear e2;obtain⟨e2,e3⟩:=zz;subst e3;refine h3 g e1 fun v F' H' s pv=>⟨F',x,r,s.gs.sub,pv,e2,fun w F2 H2 x rn=>?_⟩;exact k w F2 H2 (s.trans (x.stp s.gs)) (.later s (rn.nY s.gs))
theorem GS.freeze{K:PySem.W.Frag}{F H:Hp}{ρ:List Sl}{σ:L2.St}{i:Nat}{b:Bool}{ds:List D}(g:GS K F ρ σ H)(e:ρ[i]?=some (.own b ds)):∃v F',σ[i]?=some (some v)/\aq K F ρ σ H F' (ρ.set i (.val b (.lst ds))) σ H/\Rep K F' v (.lst ds):=by
 obtain⟨a,xs,h1,h2,h3,h4⟩:=g.oU i _ ds e rfl;have hi:i<ρ.length:=(List.getElem?_eq_some_iff.mp e).1;have sm:aH F (upd F a (.lst xs)):=aH.bO h3;have rp:Rep K (upd F a (.lst xs)) (.ref a) (.lst ds):=by rw[Rep];exact⟨a,xs,rfl,dM.of aJ,h4.mono sm⟩
 have oa:Own ρ σ a:=⟨i,⟨_,_,e,rfl⟩,h1⟩;have old:∀j x,aQ (ρ.set i (.val b (.lst ds))) σ j x->aQ ρ σ j x/\j≠i:=fun j x⟨⟨s,ds',q1,q2⟩,q3⟩=>by
  by_cases hj:j=i;.subst hj;rw[getElem?_set_self hi]at q1;cases q1;cases q2
  .rw[getElem?_set_ne (Ne.symm hj)]at q1;exact⟨⟨⟨s,ds',q1,q2⟩,q3⟩,hj⟩
 refine⟨.ref a,upd F a (.lst xs),h1,⟨⟨fun x o q=>?_,by simpa using g.len,fun j b' d q=>?_,fun j s ds' q q'=>?_,fun j k x q q'=>g.dis j k x (old j x q).1 (old k x q').1⟩,sm,fun x n n'=>?_,fun _ _ q _=>q,fun x⟨j,q⟩=>.inl ⟨j,(old j x q).1⟩,by simp,fun j s q l=>⟨rfl,?_⟩⟩,rp⟩
 . by_cases hx:x=a;.subst hx;rw[aJ]at q;cases q;exact h2
   .rw[az hx]at q;exact g.sub x o q
 . by_cases hj:j=i;.subst hj;rw[getElem?_set_self hi]at q;cases q;exact⟨_,h1,rp⟩
   .rw[getElem?_set_ne (Ne.symm hj)]at q;obtain⟨v,q1,q2⟩:=g.val j b' d q;exact⟨v,q1,q2.mono sm⟩
 . by_cases hj:j=i;.subst hj;rw[getElem?_set_self hi]at q;cases q;cases q'
   . rw[getElem?_set_ne (Ne.symm hj)]at q;obtain⟨x,ys,q1,q2,q3,q4⟩:=g.own j s ds' q q';have hx:x≠a:=by rintro rfl;exact hj (g.dis j i x ⟨⟨s,ds',q,q'⟩,q1⟩ ⟨⟨_,_,e,rfl⟩,h1⟩)
     exact⟨x,ys,q1,q2,by rw[az hx];exact q3,q4.mono sm⟩
 . by_cases hx:x=a;.subst hx;exact .inl oa
   .rw[az hx]at n';exact absurd n n'
 . by_cases hj:j=i;.subst hj;rw[e]at q;cases q;refine⟨_,getElem?_set_self hi,?_⟩;cases b with|true=>exact .inr ⟨_,rfl⟩|false=>cases l
   .exact⟨s,by rw[getElem?_set_ne (Ne.symm hj)];exact q,.refl s⟩
theorem GS.xN{K:PySem.W.Frag}{F H:Hp}{ρ:List Sl}{σ:L2.St}{i:Nat}{m:Dc}(g:GS K F ρ σ H)(e:ρ[i]?=some (.fO m)):∃a,σ[i]?=some (some (.ref a))/\H a=some m.ho/\∀ob,aq K F ρ σ H (upd F a (.cG ob m.ho)) (ρ.set i (.val false (.dw m))) σ (upd H a (.cG ob m.ho))/\Rep K (upd F a (.cG ob m.ho)) (.ref a) (.dw m):=by
 obtain⟨a,o0,h1,h2,h3,h4⟩:=g.own i _ _ e rfl;cases(show o0=m.ho from h4);have hi:i<ρ.length:=(List.getElem?_eq_some_iff.mp e).1;refine⟨a,h1,h2,fun ob=>?_⟩;have sm:aH F (upd F a (.cG ob m.ho)):=aH.bO h3;have rp:Rep K (upd F a (.cG ob m.ho)) (.ref a) (.dw m):=by rw[Rep];exact⟨a,ob,rfl,aJ⟩
 have oa:Own ρ σ a:=⟨i,⟨_,_,e,rfl⟩,h1⟩;have old:∀j x,aQ (ρ.set i (.val false (.dw m))) σ j x->aQ ρ σ j x/\j≠i:=fun j x⟨⟨s,ds',q1,q2⟩,q3⟩=>by
  by_cases hj:j=i;.subst hj;rw[getElem?_set_self hi]at q1;cases q1;cases q2
  .rw[getElem?_set_ne (Ne.symm hj)]at q1;exact⟨⟨⟨s,ds',q1,q2⟩,q3⟩,hj⟩
 refine⟨⟨⟨fun x o q=>?_,by simpa using g.len,fun j b' d q=>?_,fun j s ds' q q'=>?_,fun j k x q q'=>g.dis j k x (old j x q).1 (old k x q').1⟩,sm,fun x n n'=>?_,fun x o q n=>?_,fun x⟨j,q⟩=>.inl ⟨j,(old j x q).1⟩,by simp,fun j s q l=>⟨rfl,?_⟩⟩,rp⟩
 . by_cases hx:x=a;.subst hx;rw[aJ]at q ⊢;exact q
   .rw[az hx]at q ⊢;exact g.sub x o q
 . by_cases hj:j=i;.subst hj;rw[getElem?_set_self hi]at q;cases q;exact⟨_,h1,rp⟩
   .rw[getElem?_set_ne (Ne.symm hj)]at q;obtain⟨v,q1,q2⟩:=g.val j b' d q;exact⟨v,q1,q2.mono sm⟩
 . by_cases hj:j=i;.subst hj;rw[getElem?_set_self hi]at q;cases q;cases q'
   . rw[getElem?_set_ne (Ne.symm hj)]at q;obtain⟨x,ys,q1,q2,q3,q4⟩:=g.own j s ds' q q';have hx:x≠a:=by rintro rfl;exact hj (g.dis j i x ⟨⟨s,ds',q,q'⟩,q1⟩ ⟨⟨_,_,e,rfl⟩,h1⟩)
     exact⟨x,ys,q1,by rw[az hx];exact q2,by rw[az hx];exact q3,q4.mono sm⟩
 . by_cases hx:x=a;.subst hx;exact .inl oa
   .rw[az hx]at n';exact absurd n n'
 . have hx:x≠a:=by rintro rfl;exact n oa
   rw[az hx];exact q
 . by_cases hj:j=i;.subst hj;rw[e]at q;cases q;cases l
   .exact⟨s,by rw[getElem?_set_ne (Ne.symm hj)];exact q,.refl s⟩
theorem GS.yP{K:PySem.W.Frag}{F H:Hp}{ρ:List Sl}{σ:L2.St}{i:Nat}{kvs:List (Int×D)}(g:GS K F ρ σ H)(e:ρ[i]?=some (.cA kvs)):∃a vs,σ[i]?=some (some (.ref a))/\H a=some (yr (kvs.map (·.1)) vs)/\∀ob,aq K F ρ σ H (upd F a (.cG ob (yr (kvs.map (·.1)) vs))) (ρ.set i (.val false (.dv (kvs.map (·.1)) (kvs.map (·.2))))) σ (upd H a (.cG ob (yr (kvs.map (·.1)) vs)))/\Rep K (upd F a (.cG ob (yr (kvs.map (·.1)) vs))) (.ref a) (.dv (kvs.map (·.1)) (kvs.map (·.2))):=by
 obtain⟨a,o0,h1,h2,h3,h4⟩:=g.own i _ _ e rfl;obtain⟨vs,rfl,h5⟩:=h4;have hi:i<ρ.length:=(List.getElem?_eq_some_iff.mp e).1;refine⟨a,vs,h1,h2,fun ob=>?_⟩;have sm:aH F (upd F a (.cG ob (yr (kvs.map (·.1)) vs))):=aH.bO h3;have rp:Rep K (upd F a (.cG ob (yr (kvs.map (·.1)) vs))) (.ref a) (.dv (kvs.map (·.1)) (kvs.map (·.2))):=by rw[Rep];exact⟨a,ob,vs,rfl,aJ,h5.mono sm,by simp⟩
 have oa:Own ρ σ a:=⟨i,⟨_,_,e,rfl⟩,h1⟩;have old:∀j x,aQ (ρ.set i (.val false (.dv (kvs.map (·.1)) (kvs.map (·.2))))) σ j x->aQ ρ σ j x/\j≠i:=fun j x⟨⟨s,ds',q1,q2⟩,q3⟩=>by
  by_cases hj:j=i;.subst hj;rw[getElem?_set_self hi]at q1;cases q1;cases q2
  .rw[getElem?_set_ne (Ne.symm hj)]at q1;exact⟨⟨⟨s,ds',q1,q2⟩,q3⟩,hj⟩
 refine⟨⟨⟨fun x o q=>?_,by simpa using g.len,fun j b' d q=>?_,fun j s ds' q q'=>?_,fun j k x q q'=>g.dis j k x (old j x q).1 (old k x q').1⟩,sm,fun x n n'=>?_,fun x o q n=>?_,fun x⟨j,q⟩=>.inl ⟨j,(old j x q).1⟩,by simp,fun j s q l=>⟨rfl,?_⟩⟩,rp⟩
 . by_cases hx:x=a;.subst hx;rw[aJ]at q ⊢;exact q
   .rw[az hx]at q ⊢;exact g.sub x o q
 . by_cases hj:j=i;.subst hj;rw[getElem?_set_self hi]at q;cases q;exact⟨_,h1,rp⟩
   .rw[getElem?_set_ne (Ne.symm hj)]at q;obtain⟨v,q1,q2⟩:=g.val j b' d q;exact⟨v,q1,q2.mono sm⟩
 . by_cases hj:j=i;.subst hj;rw[getElem?_set_self hi]at q;cases q;cases q'
   . rw[getElem?_set_ne (Ne.symm hj)]at q;obtain⟨x,ys,q1,q2,q3,q4⟩:=g.own j s ds' q q';have hx:x≠a:=by rintro rfl;exact hj (g.dis j i x ⟨⟨s,ds',q,q'⟩,q1⟩ ⟨⟨_,_,e,rfl⟩,h1⟩)
     exact⟨x,ys,q1,by rw[az hx];exact q2,by rw[az hx];exact q3,q4.mono sm⟩
 . by_cases hx:x=a;.subst hx;exact .inl oa
   .rw[az hx]at n';exact absurd n n'
 . have hx:x≠a:=by rintro rfl;exact n oa
   rw[az hx];exact q
 . by_cases hj:j=i;.subst hj;rw[e]at q;cases q;cases l
   .exact⟨s,by rw[getElem?_set_ne (Ne.symm hj)];exact q,.refl s⟩
theorem Inv.Dm{X:Cx}{pins:List (Addr×Obj)}{σ:L2.St}{H:Hp}{s:Shared}{a:Addr}{kvs:List (Key×V)}(I:L2.Inv X pins σ H s)(h:H a=some (.dK kvs)):∃o,L2.Inv X pins σ (upd H a (.cG o (.dK kvs))) s:=by obtain⟨hz,hS,vs,r,dd⟩:=(show bw X.prog X.w H s.heap a (.dK kvs)from I.hok a _ h);obtain⟨o,ho,_⟩:=dd.typeIs;exact⟨o,I.write (h':=s.heap) (t':=s.toks) (by rw[h];exact trivial) (.inl rfl) (fun b u _ e=>e) ⟨o,ho⟩ ⟨ho,hz,hS,vs,r,dd⟩⟩
theorem Nk{i:Nat}{x:Str}(hN:X.N[i]?=some x)(hv:tu X.env.scope x)(hd:(x==("__debug__":Str))=false:=by decide)(hcd:(x==("__classdict__":Str))=false:=by decide):SX X c (.Name x pos) (.var i):=by
 have h:=dN (X:=X) (pos:=pos) hN hv hd hcd;refine⟨?_,fun j hj=>by cases hj;exact h⟩;rintro pins s σ H Q I⟨F,ρ,r,ρ',g,e,k⟩;rw[HH.E1]at e;split at e;.rename_i b d q;cases e;obtain⟨v,h1,h2⟩:=g.val i b d q;exact h pins s σ H Q I ⟨v,h1,k v F H (.refl g) h2⟩
 .rename_i b ds q;cases e;obtain⟨v,F',h1,h2,h3⟩:=g.freeze q;exact h pins s σ H Q I ⟨v,h1,k v F' H h2 h3⟩
 .rename_i kvs q;cases e;obtain⟨a,h1,h2,h3⟩:=g.xN q;refine bL (h pins s σ H (fun v H'=>v=.ref a/\H'=H) I ⟨.ref a,h1,rfl,rfl⟩) fun u s1⟨v,H1,I1,r1,e1,e2⟩=>?_;subst e1 e2;obtain⟨o,I2⟩:=Inv.Dm I1 h2;exact⟨.ref a,_,I2,r1,k _ _ _ (h3 o).1 (h3 o).2⟩
 .rename_i kvs q;cases e;obtain⟨a,vs,h1,h2,h3⟩:=g.yP q;refine bL (h pins s σ H (fun v H'=>v=.ref a/\H'=H) I ⟨.ref a,h1,rfl,rfl⟩) fun u s1⟨v,H1,I1,r1,e1,e2⟩=>?_;subst e1 e2;obtain⟨o,I2⟩:=Inv.Dm I1 h2;exact⟨.ref a,_,I2,r1,k _ _ _ (h3 o).1 (h3 o).2⟩
 .cases e
theorem vW{d:D}{v:V}(h:PE X e (tC v))(hr:∀F,Rep X.K F v d):SX X c e (.con d):=⟨fJ h fun σ H Q⟨F,ρ,r,ρ',g,e,k⟩=>by rw[HH.E2]at e;cases e;exact k v F H (.refl g) (hr F),fun i h=>by cases h⟩
theorem aj{i j}:SX X c (.Constant (.int i) j pos) (.con (.int i)):=vW wy fun F=>by rw[Rep]
theorem qw{i j}:SX X c (.Constant (.bool i) j pos) (.con (.bl i)):=vW TJ fun F=>by rw[Rep]
theorem Bt{j}:SX X c (.Constant .none j pos) (.con .non):=vW OD fun F=>by rw[Rep]
theorem dF.int{K:PySem.W.Frag}{F H:Hp}{v:V}{i:Int}(h:dF K F H v (.int i)):v=.int i:=by
 rcases h with h|⟨_,_,_,_,_,_,h⟩;.rw[Rep]at h;exact h
 .cases h
theorem dF.bl{K:PySem.W.Frag}{F H:Hp}{v:V}{i:Bool}(h:dF K F H v (.bl i)):v=.bl i:=by
 rcases h with h|⟨_,_,_,_,_,_,h⟩;.rw[Rep]at h;exact h
 .cases h
theorem dF.str{K:PySem.W.Frag}{F H:Hp}{v:V}{i:Str}(h:dF K F H v (.str i)):v=.str i:=by
 rcases h with h|⟨_,_,_,_,_,_,h⟩;.rw[Rep]at h;exact h
 .cases h
theorem dF.non{K:PySem.W.Frag}{F H:Hp}{v:V}(h:dF K F H v .non):v=.non:=by
 rcases h with h|⟨_,_,_,_,_,_,h⟩;.rw[Rep]at h;exact h
 .cases h
theorem dF.tup{K:PySem.W.Frag}{F H:Hp}{v:V}{ds:List D}(s:aH F H)(h:dF K F H v (.tup ds)):∃a xs,v=.ref a/\gO K H a xs/\aF K F xs ds/\Rep K F v (.tup ds):=by
 rcases h with h|⟨_,_,_,_,_,_,h⟩;.have h':=h;rw[Rep]at h;obtain⟨a,xs,rfl,h1,h2⟩:=h;exact⟨a,xs,rfl,aH.fM s h1,h2,h'⟩
 .cases h
theorem dF.lst{K:PySem.W.Frag}{F H:Hp}{v:V}{ds:List D}(s:aH F H)(h:dF K F H v (.lst ds)):∃a xs,v=.ref a/\dM K H a xs/\aF K F xs ds:=by
 rcases h with h|⟨a,xs,es,h1,h2,h3,h⟩;.rw[Rep]at h;obtain⟨a,xs,rfl,h1,h2⟩:=h;exact⟨a,xs,rfl,s.seq h1,h2⟩
 .cases h;exact⟨a,xs,h1,dM.of h2,h3⟩
theorem dF.dw{K:PySem.W.Frag}{F H:Hp}{v:V}{m:Dc}(s:aH F H)(h:dF K F H v (.dw m)):∃a o,v=.ref a/\H a=some (.cG o m.ho):=by
 rcases h with h|⟨_,_,_,_,_,_,h⟩;.rw[Rep]at h;obtain⟨a,o,rfl,h⟩:=h;exact⟨a,o,rfl,s _ _ h⟩
 .cases h
theorem Qd{X:Cx}{pins:List (Addr×Obj)}{σ:L2.St}{H:Hp}{s:Shared}{a:Addr}{ob:Obj}{m:Dc}(I:L2.Inv X pins σ H s)(h:H a=some (.cG ob m.ho)):∃o,s.heap.get? a=some o/\o.cls=.type "dict":=by have z:=(show bw X.prog X.w H s.heap a (.cG ob m.ho)from I.hok a _ h).2;cases m with|k kvs=>obtain⟨_,_,vs,_,d2⟩:=(show bw X.prog X.w H s.heap a (.dK _)from z);exact d2.typeIs|t kvs=>obtain⟨_,_,xs,_,o,es,ep,h1,h2,_⟩:=(show bw X.prog X.w H s.heap a (.dT _)from z);exact⟨o,h1,h2.1⟩
theorem dF.dv{K:PySem.W.Frag}{F H:Hp}{v:V}{ks:List Int}{ds:List D}(s:aH F H)(h:dF K F H v (.dv ks ds)):∃a o vs,v=.ref a/\H a=some (.cG o (yr ks vs))/\aF K F vs ds/\ks.length=ds.length:=by
 rcases h with h|⟨_,_,_,_,_,_,h⟩;.rw[Rep]at h;obtain⟨a,o,vs,rfl,h,h1,h2⟩:=h;exact⟨a,o,vs,rfl,s _ _ h,h1,h2⟩
 .cases h
theorem PQ{X:Cx}{pins:List (Addr×Obj)}{σ:L2.St}{H:Hp}{s:Shared}{a:Addr}{ob:Obj}{ks:List Int}{vs:List V}(I:L2.Inv X pins σ H s)(h:H a=some (.cG ob (yr ks vs))):∃o,s.heap.get? a=some o/\o.cls=.type "dict":=by have z:=(show bw X.prog X.w H s.heap a (.cG ob (yr ks vs))from I.hok a _ h).2;obtain⟨_,_,vs,_,d2⟩:=(show bw X.prog X.w H s.heap a (.dK _)from z);exact d2.typeIs
theorem dF.items{K:PySem.W.Frag}{F H:Hp}{v:V}{d:D}{ds:List D}(s:aH F H)(h:dF K F H v d)(e:items d=some ds):∃a xs,v=.ref a/\(dM K H a xs\/gO K H a xs)/\aF K F xs ds:=by cases d with|tup es=>cases e;obtain⟨a,xs,h1,h2,h3,_⟩:=h.tup s;exact⟨a,xs,h1,.inr h2,h3⟩|lst es=>cases e;obtain⟨a,xs,h1,h2,h3⟩:=h.lst s;exact⟨a,xs,h1,.inl h2,h3⟩|_=>cases e
theorem bN.cu{K:PySem.W.Frag}{F H:Hp}{Q:VK}{v:V}{d:D}(s:aH F H)(r:Rep K F v d)(k:∀v F' H',Ext F H F' H'->bN K F' H' H v (.val d)->Q v H'):Q v H:=k v F H (.refl s) r
theorem bA{K:PySem.W.Frag}{F:Hp}(i:Int):Rep K F (.int i) (.int i):=by rw[Rep]
theorem lY{K:PySem.W.Frag}{F:Hp}(i:Bool):Rep K F (.bl i) (.bl i):=by rw[Rep]
theorem Mw{K:PySem.W.Frag}{F:Hp}(i:Str):Rep K F (.str i) (.str i):=by rw[Rep]
theorem LC{K:PySem.W.Frag}{F:Hp}:Rep K F .non .non:=by rw[Rep]
theorem uP{K:PySem.W.Frag}{F H:Hp}{Q:VK}{xs:List V}{ds:List D}{p:Addr}(s:aH F H)(r:aF K F xs ds)(hp:H p=none)(k:∀v F' H',Ext F H F' H'->bN K F' H' H v (.own ds)->Q v H'):Q (.ref p) (upd H p (.lst xs)):=by
 have fp:F p=none:=by cases q:F p with|none=>rfl|some o=>rw[s p o q]at hp;cases hp
 exact k _ F _ ⟨aH.bO hp,.refl _,s.trans (aH.bO hp),fun _ a b=>absurd a b⟩ ⟨p,xs,rfl,aJ,fp,r,hp⟩
theorem wL{K:PySem.W.Frag}{F H:Hp}{Q:VK}{xs:List V}{ds:List D}{p:Addr}(s:aH F H)(r:aF K F xs ds)(hp:H p=none)(k:∀v F' H',Ext F H F' H'->bN K F' H' H v (.val (.tup ds))->Q v H'):Q (.ref p) (upd H p (.tup xs)):=by
 have fp:F p=none:=by cases q:F p with|none=>rfl|some o=>rw[s p o q]at hp;cases hp
 have sm:aH F (upd F p (.tup xs)):=aH.bO fp;refine k _ (upd F p (.tup xs)) _ ⟨aH.bO hp,sm,fun b o e=>?_,fun b n n'=>?_⟩ ?_
 . by_cases hb:b=p;.subst hb;rw[aJ]at e ⊢;exact e
   .rw[az hb]at e ⊢;exact s b o e
 . by_cases hb:b=p;.subst hb;exact jb hp
   .rw[az hb]at n';exact absurd n n'
 .show Rep K _ _ (.tup ds);rw[Rep];exact⟨p,xs,rfl,gO.of aJ,r.mono sm⟩
end
theorem pQ(k:Int)(t:Tok)(l:Addr)(its:Array Value)(n:Nat)(dd:Option Addr)(sl:Array (Option Value)):Meets (Builtin.«int.__rmul__» ⟨[.int k t,.ref l],[]⟩) (fun _ R s=>s.heap.get? l=some ⟨.type "list",dd,.seq its n,sl⟩/\R (.ok (.ret Value.notImplemented)) s):=.of_wp fun prog w A R s h=>by obtain⟨hp,g,d,tk,os⟩:=s;obtain⟨hl,h⟩:=h;wp_walk;exact⟨_,rfl,h⟩
theorem zW(l:Addr)(its:Array Value)(n:Nat)(dd:Option Addr)(sl:Array (Option Value))(k:Int)(t:Tok)(h0:¬(!Builtin.List.listFitsIndex k)=true)(h1:¬its.size*k.toNat>(2^63-1)/8)(h2:¬listTooLong (its.size*k.toNat)=true):Meets (Builtin.«list.__mul__» ⟨[.ref l,.int k t],[]⟩) (fun _ R s=>s.heap.get? l=some ⟨.type "list",dd,.seq its n,sl⟩/\R (.ok (.ret (Value.ref s.heap.objs.size))) {s with heap:=s.heap.push {cls:=.type "list",data:=.seq (foldl (·++·) #[] (replicate (if its.isEmpty=true then 0 else k.toNat) its))}}):=.of_wp fun prog w A R s h=>by obtain⟨hp,g,d,tk,os⟩:=s;obtain⟨hl,h⟩:=h;have hz:=AutoListH.joined_fits h2;wp_walk using wpAny_loadPart' hl;refine wpAny_ite_false (decide_eq_false (Nat.not_lt.mpr hz)) ?_;wp_walk;exact⟨_,rfl,h⟩
section
variable{X:Cx}{c:Call}{e a b d:Expr}{p pa pb pd:P}{pos:Pos}
theorem Jq:gG X (binaryOp .Add) (fun x y H Q=>∃l b xs zs,x=.ref l/\y=.ref b/\dM X.K H l xs/\dM X.K H b zs/\xs.length+zs.length<=sizeLine/\∀p,H p=none->Q (.ref p) (upd H p (.lst (xs++zs)))):=by
 intro pins s σ H x y v u Q I rx ry h;obtain⟨l,b,xs,zs,rfl,rfl,hl,hb,hz,q⟩:=h;cases rx;cases ry;obtain⟨its,r,pl,_⟩:=I.list hl;obtain⟨its2,r2,pl2,_⟩:=I.list hb;obtain⟨⟨cls,dd,data,sl⟩,ho,hc,n,hd⟩:=id pl.isList;obtain⟨⟨cls2,dd2,data2,sl2⟩,ho2,hc2,n2,hd2⟩:=id pl2.isList;simp only at hc hd hc2 hd2;subst hc hd hc2 hd2;have e:its.toArray++its2.toArray=(its++its2).toArray:=by simp
 refine concat_meets ⟨_,ho,rfl⟩ ⟨_,ho2,rfl⟩ noFill_list_add seq_list_add PySem.F.slot_list_add PySem.F.entry_list_add (PySem.F.args_list_add_2 _ _) (list_addW l b its.toArray its2.toArray n n2 dd dd2 sl sl2 (by simp only[size_toArray];rw[<-r.length,<-r2.length];exact hz)) ⟨ho,ho2,?_⟩;rw[e];exact⟨.ref _,_,I.Qs (t':=s.toks) (r.append r2) (by rw[length_append];exact hz),rfl,q _ I.fresh⟩
theorem Fy:gG X (binaryOp .Add) (fun x y H Q=>∃a b ys,x=.ref a/\y=.ref b/\gO X.K H a []/\gO X.K H b ys/\Q (.ref b) H):=by intro pins s σ H x y v u Q I rx ry h;obtain⟨a,b,ys,rfl,rfl,ha,hb,q⟩:=h;cases rx;cases ry;obtain⟨its,r1,p1,_⟩:=I.tuple ha;obtain⟨its2,r2,p2,_⟩:=I.tuple hb;obtain⟨⟨cls,dd,data,sl⟩,ho,hc,n,hd⟩:=id p1;obtain⟨⟨cls2,dd2,data2,sl2⟩,ho2,hc2,n2,hd2⟩:=id p2;simp only at hc hd hc2 hd2;subst hc hd hc2 hd2;have e0:its=[]:=r1.nF.mpr rfl;subst e0;exact concat_meets ⟨_,ho,rfl⟩ ⟨_,ho2,rfl⟩ noFill_tuple_add seq_tuple_add slot_tuple_add entry_tuple_add (args_tuple_add_2 _ _) (tuple_addW0 a b _ its2.toArray n n2 dd dd2 sl sl2 (by simp)) ⟨ho,ho2,⟨.ref b,H,I,rfl,q⟩⟩
theorem aY:gG X (binaryOp .Add) (rD X.K (pP .add)):=by
 rintro pins s σ H x y v u Q I rx ry⟨F,d,e,r,sm,px,py,he,k⟩;replace he:oJ d e=some r:=he;unfold oJ at he;split at he;.cases he;rw[px.int]at rx;rw[py.int]at ry;exact MP pins s σ H _ _ v u Q I rx ry ⟨_,_,rfl,rfl,bN.cu sm (bA _) k⟩
 .rename_i xs ys;obtain⟨hl,he⟩:=bj he;subst he;obtain⟨a,vs,rfl,ha,ra⟩:=px.lst sm;obtain⟨b,us,rfl,hb,rb⟩:=py.lst sm;exact Jq pins s σ H _ _ v u Q I rx ry ⟨a,b,vs,us,rfl,rfl,ha,hb,by rw[ra.length,rb.length];exact hl,fun p hp=>uP sm (ra.append rb) hp k⟩
 . rename_i xs ys;obtain⟨hl,he⟩:=bj he;subst he;obtain⟨a,vs,rfl,ha,ra,ta⟩:=px.tup sm;obtain⟨b,us,rfl,hb,rb,tb⟩:=py.tup sm;by_cases h0:vs=[]
   . subst h0;have e0:xs=[]:=by have:=ra.length;exact List.eq_nil_of_length_eq_zero this.symm
     subst e0;exact Fy pins s σ H _ _ v u Q I rx ry ⟨a,b,us,rfl,rfl,ha,hb,bN.cu sm tb k⟩
   . refine Jl pins s σ H _ _ v u Q I rx ry ⟨a,b,vs,us,rfl,rfl,ha,hb,h0,by rw[ra.length,rb.length];exact hl,fun e=>?_,fun _ p hp=>wL sm (ra.append rb) hp k⟩;subst e;have e0:ys=[]:=by have:=rb.length;exact List.eq_nil_of_length_eq_zero this.symm
     subst e0;rw[append_nil]at k;exact bN.cu sm ta k
 .rename_i x1 y1;obtain⟨hl,he⟩:=bj he;subst he;rw[px.str]at rx;rw[py.str]at ry;exact vZ pins s σ H _ _ v u Q I rx ry ⟨_,_,rfl,rfl,hl,bN.cu sm (Mw _) k⟩
 .cases he
theorem cJ:gG X (binaryOp .Sub) (rD X.K (pP .sub)):=by
 rintro pins s σ H x y v u Q I rx ry⟨F,d,e,r,sm,px,py,he,k⟩;replace he:ud d e=some r:=he;unfold ud at he;split at he;.cases he;rw[px.int]at rx;rw[py.int]at ry;exact O3 pins s σ H _ _ v u Q I rx ry ⟨_,_,rfl,rfl,bN.cu sm (bA _) k⟩
 .cases he
theorem HR:gG X (binaryOp .Mult) (fun x y H Q=>∃l k xs,x=.ref l/\y=.int k/\dM X.K H l xs/\-(2^63)<=k/\k<2^63/\xs.length*k.toNat<=sizeLine/\∀p,H p=none->Q (.ref p) (upd H p (.lst (replicate k.toNat xs).flatten))):=by
 intro pins s σ H x y v u Q I rx ry h;obtain⟨l,k,xs,rfl,rfl,hl,h1,h2,hz,q⟩:=h;cases rx;obtain⟨t,rfl⟩:=ry;obtain⟨its,r,pl,_⟩:=I.list hl;obtain⟨⟨cls,dd,data,sl⟩,ho,hc,n,hd⟩:=id pl.isList;simp only at hc hd;subst hc hd;have hlen:its.toArray.size*k.toNat<=sizeLine:=by rw[size_toArray,<-r.length];exact hz
 have abH:¬ its.toArray.size*k.toNat>(2^63-1)/8:=by
  have:(sizeLine:Nat)<=(2^63-1)/8:=by decide
  omega
 have hnew:foldl (·++·) #[] (replicate (if its.toArray.isEmpty=true then 0 else k.toNat) its.toArray)=(replicate k.toNat its).flatten.toArray:=by
  have f0:∀m:Nat,foldl (·++·) #[] (replicate m its.toArray)=(replicate m its).flatten.toArray:=fun m=>by have:=foldl_rep its m [];rw[nil_append]at this;exact this
  rw[f0];cases its with|nil=>simp|cons a r'=>rw[if_neg (by simp)]
 refine wpAny_binaryOp_repeat_ref (T:="list") (U:="int") (by decide) ⟨_,ho,rfl⟩ (fun s'=>typeIs_int s' k t) noFill_list_mul F.fills_int_mul F.slot_int_rmul repeat_list F.slot_int_index.lookup ?_;refine call_meets F.slot_int_rmul (typeIs_int s k t) F.entry_int_rmul (F.args_int_rmul_2 _ _) (pQ k t l its.toArray n dd sl) ⟨ho,rfl,⟨_,ho,rfl⟩,?_⟩;refine call_meets F.slot_list_mul ⟨_,ho,rfl⟩ F.entry_list_mul (F.args_list_mul_2 _ _) (zW l its.toArray n dd sl k t (by rw[fitsIndex_both h1 h2];exact Bool.false_ne_true) abH (by rw[tR hlen];exact Bool.false_ne_true)) ⟨ho,?_⟩;rw[hnew];exact⟨.ref _,_,I.Qs (t':=s.toks) (r.rep k.toNat) (by rw[len_rep,Nat.mul_comm];exact hz),rfl,q _ I.fresh⟩
theorem lu:fillsNumberSlot (.type "tuple") "mul"=pure false:=PySem.fillsNumberSlot_seq (id:="tuple.__mul__") (r:=some (.builtin "tuple.__rmul__")) slot_tuple_mul.lookup (by decide+kernel) PySem.F.slot_tuple_rmul.lookup (by decide+kernel)
theorem rP:seqRepeat? (.type "tuple")=pure (some (.builtin "tuple.__mul__")):=by unfold seqRepeat?;rw[PySem.seqSlot_of (T:="tuple") (name:="__mul__") (id:="tuple.__mul__") slot_tuple_mul.lookup (by decide+kernel),PySem.seqSlot_of (T:="tuple") (name:="__rmul__") (id:="tuple.__rmul__") PySem.F.slot_tuple_rmul.lookup (by decide+kernel)];rfl
theorem o5(k:Int)(t:Tok)(l:Addr)(its:Array Value)(n:Nat)(dd:Option Addr)(sl:Array (Option Value)):Meets (Builtin.«int.__rmul__» ⟨[.int k t,.ref l],[]⟩) (fun _ R s=>s.heap.get? l=some ⟨.type "tuple",dd,.seq its n,sl⟩/\R (.ok (.ret Value.notImplemented)) s):=.of_wp fun prog w A R s h=>by obtain⟨hp,g,d,tk,os⟩:=s;obtain⟨hl,h⟩:=h;wp_walk;exact⟨_,rfl,h⟩
theorem wY(l:Addr)(its:Array Value)(n:Nat)(dd:Option Addr)(sl:Array (Option Value))(k:Int)(t:Tok)(h0:0<=k)(h1:k<2^63)(hz:its.size*k.toNat<=sizeLine)(hne:0<its.size):Meets (Builtin.«tuple.__mul__» ⟨[.ref l,.int k t],[]⟩) (fun _ R s=>s.heap.get? l=some ⟨.type "tuple",dd,.seq its n,sl⟩/\(k=1->R (.ok (.ret (Value.ref l))) s)/\(k≠1->R (.ok (.ret (Value.ref s.heap.objs.size))) {s with heap:=s.heap.push {cls:=.type "tuple",data:=.seq (foldl (·++·) #[] (replicate k.toNat its))}})):=.of_wp fun prog w A R s h=>by
  obtain⟨hp,g,d,tk,os⟩:=s;obtain⟨hl,q1,q2⟩:=h;have hem:its.isEmpty=false:=by cases e:its.isEmpty with|false=>rfl|true=>rw[Array.isEmpty_iff_size_eq_zero]at e;omega
  show wpAny _ _ (asIndex (.int k t)>>=_) _ _ _;wp_walk using wpAny_loadPart' hl;have hI:IsTup hp l its:=⟨_,hl,rfl,n,rfl⟩;rw[if_neg (by simp;omega)];refine wpAny_bind (PyProof.Rows.tupleItemsOf_ hI ?_);try dsimp only
  by_cases e1:k=1;.rw[if_pos (by simp[e1])];wp_walk using wpAny_loadPart' hl;exact⟨_,rfl,q1 e1⟩
  . have q:=q2 e1;rw[if_neg (by simp[hem,e1])];by_cases e0:k=0;.subst e0;rw[if_pos (by simp)];unfold tupleExact;refine wpAny_bind (wpAny_newObj_type ?_);exact wpAny_pure ⟨_,rfl,q⟩
    . have hb:(its.size:Int)*k<=sizeLine:=by
       have:((its.size*k.toNat:Nat):Int)<=(sizeLine:Nat):=by exact_mod_cast hz
       rw[Int.natCast_mul,show((k.toNat:Nat):Int)=k by omega]at this;exact this
      have hs2:(sizeLine:Int)<=(2^63-1)/8:=by decide
      rw[if_neg (by simp[hem];omega),if_neg (by omega),if_neg (by simp[Builtin.Tuple.tupleTooMany];omega)];unfold tupleExact;refine wpAny_bind (wpAny_newObj_type ?_ ?_);.exact wpAny_pure ⟨_,rfl,q⟩
      .have:=foldl_rep its.toList k.toNat [];rw[nil_append,show its.toList.toArray=its by simp]at this;show(foldl (·++·) #[] (replicate k.toNat its)).size<=sizeLine;rw[show(#[]:Array Value)=([]:List Value).toArray from rfl,this,size_toArray,len_rep,length_toList,Nat.mul_comm];exact hz
theorem Js:gG X (binaryOp .Mult) (fun x y H Q=>∃l k xs,x=.ref l/\y=.int k/\gO X.K H l xs/\0<xs.length/\0<=k/\k<2^63/\xs.length*k.toNat<=sizeLine/\(k=1->Q (.ref l) H)/\(k≠1->∀p,H p=none->Q (.ref p) (upd H p (.tup (replicate k.toNat xs).flatten)))):=by
 intro pins s σ H x y v u Q I rx ry h;obtain⟨l,k,xs,rfl,rfl,hl,hne,h1,h2,hz,qa,qb⟩:=h;cases rx;obtain⟨t,rfl⟩:=ry;obtain⟨its,r,pl,_⟩:=I.tuple hl;obtain⟨⟨cls,dd,data,sl⟩,ho,hc,n,hd⟩:=id pl;simp only at hc hd;subst hc hd;have hlen:its.toArray.size*k.toNat<=sizeLine:=by rw[size_toArray,<-r.length];exact hz
 have hnew:foldl (·++·) #[] (replicate k.toNat its.toArray)=(replicate k.toNat its).flatten.toArray:=by have:=foldl_rep its k.toNat [];rw[nil_append]at this;exact this
 refine wpAny_binaryOp_repeat_ref (T:="tuple") (U:="int") (by decide) ⟨_,ho,rfl⟩ (fun s'=>typeIs_int s' k t) lu F.fills_int_mul F.slot_int_rmul rP F.slot_int_index.lookup ?_;refine call_meets F.slot_int_rmul (typeIs_int s k t) F.entry_int_rmul (F.args_int_rmul_2 _ _) (o5 k t l its.toArray n dd sl) ⟨ho,rfl,⟨_,ho,rfl⟩,?_⟩;refine call_meets slot_tuple_mul ⟨_,ho,rfl⟩ PySem.F.entry_tuple_mul (PySem.F.args_tuple_mul_2 _ _) (wY l its.toArray n dd sl k t h1 h2 hlen (by rw[size_toArray,<-r.length];exact hne)) ⟨ho,fun e=>⟨.ref l,H,I,rfl,qa e⟩,fun e=>?_⟩;rw[hnew];refine⟨.ref s.heap.objs.size,_,I.laid (t':=s.toks) (o:=.tup (replicate k.toNat xs).flatten) (fun b ob q=>get?_push_of_some _ q) (le_refl _) ?_,rfl,qb e _ (I.hok.fresh (le_refl _))⟩;exact⟨by rw[len_rep,Nat.mul_comm];exact hz,_,r.rep k.toNat,IsTup.new _ _⟩
theorem cH:gG X (binaryOp .Mult) (rD X.K (pP .mul)):=by
 rintro pins s σ H x y v u Q I rx ry⟨F,d,e,r,sm,px,py,he,k⟩;replace he:iI d e=some r:=he;unfold iI at he;split at he;.obtain⟨hc,he⟩:=bj he;subst he;rw[px.int]at rx;rw[py.int]at ry;exact Oo pins s σ H _ _ v u Q I rx ry ⟨_,_,rfl,rfl,hc,bN.cu sm (bA _) k⟩
 . rename_i xs i;obtain⟨⟨h1,h2,h3⟩,he⟩:=bj he;subst he;obtain⟨a,vs,rfl,ha,ra⟩:=px.lst sm;rw[py.int]at ry;have hk:i<2^63:=by have h4:=Nat.le_mul_of_pos_left i.toNat h2;have h5:i.toNat<=16777216:=le_trans h4 h3;omega
   exact HR pins s σ H _ _ v u Q I rx ry ⟨a,i,vs,rfl,rfl,ha,by omega,hk,by rw[ra.length];exact h3,fun p hp=>uP sm (ra.rep i.toNat) hp k⟩
 . rename_i xs i;obtain⟨⟨h1,h2,h3⟩,he⟩:=bj he;subst he;obtain⟨a,vs,rfl,ha,ra,rr⟩:=px.tup sm;rw[py.int]at ry;have hk:i<2^63:=by have h4:=Nat.le_mul_of_pos_left i.toNat h2;have h5:i.toNat<=16777216:=le_trans h4 h3;omega
   refine Js pins s σ H _ _ v u Q I rx ry ⟨a,i,vs,rfl,rfl,ha,by rw[ra.length];exact h2,h1,hk,by rw[ra.length];exact h3,fun e=>?_,fun e p hp=>wL sm (ra.rep i.toNat) hp k⟩;subst e;refine bN.cu sm ?_ k;have e1:(replicate (1:Int).toNat xs).flatten=xs:=by simp
   rw[e1];exact rr
 .cases he
theorem uG:gG X (binaryOp .FloorDiv) (rD X.K (pP .fdiv)):=by
 rintro pins s σ H x y v u Q I rx ry⟨F,d,e,r,sm,px,py,he,k⟩;replace he:pB d e=some r:=he;unfold pB at he;split at he
 . rename_i i j;obtain⟨⟨h1,h2⟩,he⟩:=bj he;subst he;rw[px.int]at rx;rw[py.int]at ry;obtain⟨t,rfl⟩:=rx;obtain⟨t',rfl⟩:=ry;have hl:j.natAbs.log2<9000:=by
    have:j.natAbs<2^200:=by
     have:(2:Nat)^200=1606938044258990275541962092341162602522202993782792835301376:=by decide
     omega
    have h3:=(Nat.log2_lt (by omega)).mpr this;omega
   exact floordiv_int (by omega) (by rw[Int.fdiv_eq_ediv_of_nonneg i (by omega)];exact⟨.int _,H,I.tok _,⟨_,rfl⟩,bN.cu sm (bA _) k⟩) (.inl (PyProof.noPylong_of_log2 hl))
 .cases he
theorem dO:gG X (binaryOp .Mod) (rD X.K (pP .mod)):=by
 rintro pins s σ H x y v u Q I rx ry⟨F,d,e,r,sm,px,py,he,k⟩;replace he:ur d e=some r:=he;unfold ur at he;split at he;.obtain⟨h1,he⟩:=bj he;subst he;rw[px.int]at rx;rw[py.int]at ry;exact Mg pins s σ H _ _ v u Q I rx ry ⟨_,_,rfl,rfl,h1,bN.cu sm (bA _) k⟩
 .cases he
theorem fV:gG X (binaryOp .Pow) (rD X.K (pP .pow)):=by
 rintro pins s σ H x y v u Q I rx ry⟨F,d,e,r,sm,px,py,he,k⟩;replace he:uV d e=some r:=he;unfold uV at he;split at he;.obtain⟨⟨h1,h2,h3⟩,he⟩:=bj he;subst he;rw[px.int]at rx;rw[py.int]at ry;exact Px pins s σ H _ _ v u Q I rx ry ⟨_,_,rfl,rfl,⟨h1,by omega,h3⟩,bN.cu sm (bA _) k⟩
 .cases he
theorem au{o:Op}{op:Operator}(ho:gG X (binaryOp op) (rD X.K (pP o)))(ha:SX X c a pa)(hb:SX X c b pb):SX X c (.BinOp a op b pos) (.bin o pa pb):=vU (fun h1 h2=>Uq ho h1 h2) ha hb (fun ρ=>rfl) rfl
theorem wO(ha:SX X c a pa):SX X c (.UnaryOp .USub a pos) (.neg pa):=by refine Oh (f:=Bv) (fun h1=>VL ?_ h1) ha (fun ρ=>rfl) rfl;rintro pins s σ H x v Q I rx⟨F,d,r,sm,px,he,k⟩;unfold Bv at he;obtain⟨i,e1,e2⟩:=map_some he;subst e2;cases d<;>cases e1;rw[px.int]at rx;exact Ol pins s σ H _ v Q I rx ⟨_,rfl,bN.cu sm (bA _) k⟩
theorem yD{op:CmpOp}{f:Int->Int->Bool}(ho:gG X (compareOp op) (HJ fun i j=>.bl (f i j))):gG X (compareOp op) (rD X.K fun x y=>(Gp f x y).map fun k=>.val (.bl k)):=by
 rintro pins s σ H x y v u Q I rx ry⟨F,d,e,r,sm,px,py,he,k⟩;obtain⟨t,e1,e2⟩:=map_some (show(Gp f d e).map _=some r from he);subst e2;unfold Gp at e1;split at e1;.cases e1;rw[px.int]at rx;rw[py.int]at ry;exact ho pins s σ H _ _ v u Q I rx ry ⟨_,_,rfl,rfl,bN.cu sm (lY _) k⟩
 .cases e1
theorem DP{op:CmpOp}{f:Int->Int->Bool}(ho:gG X (compareOp op) (HJ fun i j=>.bl (f i j))){o:Cm}(hc:cm o=Gp f):gG X (compareOp op) (rD X.K (vL o)):=by
 have e:vL o=fun x y=>(Gp f x y).map fun k=>.val (.bl k):=by funext x y;unfold vL;rw[hc]
 rw[e];exact yD ho
theorem PN:gG X (compareOp .Lt) (rD X.K fun x y=>(Gp (fun i j=>decide (i<j)) x y).map fun k=>.val (.bl k)):=yD S8
theorem Fv:gG X (compareOp .LtE) (rD X.K (vL .le)):=DP Vy rfl
theorem pC:gG X (compareOp .Gt) (rD X.K (vL .gt)):=DP Uu rfl
theorem Ao{K:PySem.W.Frag}{F H:Hp}{v:V}{d:D}(h:dF K F H v d):decide (v=.non)=iC d:=by cases d with
 |non=>rw[h.non];rfl|bl _=>rw[h.bl];rfl|int _=>rw[h.int];rfl|str _=>rw[h.str];rfl|tup _=>
   rcases h with h|⟨a,_,_,rfl,_⟩;.rw[Rep]at h;obtain⟨a,_,rfl,_⟩:=h;rfl
   .rfl|lst _=>
   rcases h with h|⟨a,_,_,rfl,_⟩;.rw[Rep]at h;obtain⟨a,_,rfl,_⟩:=h;rfl
   .rfl|dw _=>
   rcases h with h|⟨a,_,_,rfl,_⟩;.rw[Rep]at h;obtain⟨a,_,rfl,_⟩:=h;rfl
   .rfl|dv _ _=>
   rcases h with h|⟨a,_,_,rfl,_⟩;.rw[Rep]at h;obtain⟨a,_,_,rfl,_⟩:=h;rfl
   .rfl
theorem Jh:gG X (compareOp .IsNot) (rD X.K (vL .Jz)):=by
 rintro pins s σ H x y v u Q I rx ry⟨F,d,e,r,sm,px,py,he,k⟩;obtain⟨t,e1,e2⟩:=map_some (show(Yp true d e).map _=some r from he);subst e2;unfold Yp at e1;split at e1;.cases e1;exact Hr pins s σ H x y v u Q I rx ry ⟨py.non,by rw[Ao px];exact bN.cu sm (lY _) k⟩
 .cases e1
end
section
variable{X:Cx}{c:Call}{e a b d:Expr}{p pa pb pd:P}{pos:Pos}{rest:List Expr}
theorem CZ{x:D}{k:Bool}(h:RN x=some k):x=.bl k:=by cases x<;>cases h;rfl
theorem cQ{x:D}{k:Int}(h:gh x=some k):x=.int k:=by cases x<;>cases h;rfl
theorem bV.bool{K:PySem.W.Frag}{F' H' H:Hp}{ρ' ρ:List Sl}{σ' σ:L2.St}{v:V}{r:R}{k:Bool}(h:bV K F' ρ' σ' H' ρ σ H v r)(e:r.d=.bl k):v=.bl k:=by cases r with|val d=>cases(show d=.bl k from e);have h:Rep K F' v (.bl k):=h;rw[Rep]at h;exact h|own ds=>cases e
def ST(X:Cx)(c:Call)(e:Expr)(p:P):Prop:=PT X e (Fw X.K (jk (HH.ev c p)))
def SW(X:Cx)(c:Call)(e:Expr)(p:P):Prop:=PW X e (Fw X.K (jk (HH.ev c p)))
theorem SW.st(h:SW X c e p):ST X c e p:=PW.pt h
theorem sI{t:TE}{Q:Bool->Hp->Prop}{σ:L2.St}{H:Hp}(hi:∀Q,yE X.K (HH.ev c p) σ H Q->t σ H Q)(h:Fw X.K (jk (HH.ev c p)) σ H Q):t σ H fun x H1=>∃k,x=.bl k/\Q k H1:=by obtain⟨F,ρ,k,ρ',g,e,q⟩:=h;obtain⟨r,ρ1,e1,e2⟩:=aa e;have zz:=aG e2;clear e2;obtain⟨e2,e3⟩:=zz;subst e3;exact hi _ ⟨F,ρ,r,ρ1,g,e1,fun v F' H' s rr=>⟨k,rr.bool (CZ e2),q F' H' s⟩⟩
theorem rA(h:SX X c e p)(he:∀whole,isTrue e X.env whole=(do let v<-whole;standAt e.pos;holding [v] (truthy v)):=by intro _;rfl):ST X c e p:=ym (M6 h.ev he) fun σ H Q q=>sI (fun _ z=>z) q
theorem di{o:Cm}{op:CmpOp}(ho:gG X (compareOp op) (rD X.K (vL o)))(ha:SX X c a pa)(hb:SX X c b pb)(hm:behindInMarks op b=false):ST X c (.Compare a [op] [b] pos) (.cmp o pa pb):=by obtain⟨ta,tb,h1,h2,h3⟩:=ha.jm hb;refine ym (yc ho h1 h2 hm) fun σ H Q q=>sI (t:=RB (rD X.K (vL o)) ta tb) (fun Q z=>?_) q;obtain⟨F,ρ,r,ρ',g,e,k⟩:=z;rw[HH.E8]at e;obtain⟨xy,ρ1,e1,e2⟩:=aa e;have zz:=aG e2;clear e2;obtain⟨e2,e3⟩:=zz;subst e3;refine h3 g e1 fun v u F' H' s pv pu=>⟨F',xy.1,xy.2,r,s.gs.sub,pv,pu,e2,fun w F2 H2 x rn=>?_⟩;exact k w F2 H2 (s.trans (x.stp s.gs)) (.later s (rn.nY s.gs))
theorem Ox(ρ:List Sl):jk (HH.ev c (.or pa pb)) ρ=(jk (HH.ev c pa) ρ).bind fun x ρ=>if x then .ok true ρ else jk (HH.ev c pb) ρ:=by unfold jk;rw[HH.E7];unfold jk;cases HH.ev c pa ρ with|exc _ _=>rfl|stuck=>rfl|ok r ρ1=>simp only[Res.bind];cases h:RN r.d with|none=>rfl|some k=>cases k with|true=>rfl|false=>simp only[lift,false_eq_true,if_false];cases HH.ev c pb ρ1 with|exc _ _=>rfl|stuck=>rfl|ok r2 ρ2=>simp only[Res.bind];cases h2:RN r2.d with|none=>rfl|some k2=>rfl
theorem Og(ha:ST X c a pa):SW X c (.BoolOp .Or [a] pos) pa:=Pz ha
theorem Ue(ha:ST X c a pa)(hb:SW X c (.BoolOp .Or (b::rest) pos) pb):SW X c (.BoolOp .Or (a::b::rest) pos) (.or pa pb):=by refine Tv (T3 ha hb) ?_;rintro σ H Q⟨F,ρ,k,ρ',g,e,q⟩;rw[Ox]at e;obtain⟨x,ρ1,e1,e⟩:=aa e;refine⟨F,ρ,x,ρ1,g,e1,fun F1 H1 s1=>?_⟩;cases x with|true=>rw[if_pos rfl]at e ⊢;cases e;exact q F1 H1 s1|false=>rw[if_neg Bool.false_ne_true]at e ⊢;exact⟨F1,ρ1,k,ρ',s1.gs,e,fun F2 H2 s2=>q F2 H2 (s1.trans s2)⟩
theorem rN(hc:ST X c e p)(ha:SX X c a pa)(hb:SX X c b pb):SX X c (.IfExp e a b pos) (.K6 p pa pb):=by refine⟨fJ (Ec hc ha.ev hb.ev) ?_,fun i h=>by cases h⟩;rintro σ H Q⟨F,ρ,r,ρ',g,e,k⟩;rw[HH.E9]at e;obtain⟨x,ρ1,e1,e⟩:=aa e;refine⟨F,ρ,x,ρ1,g,e1,fun F1 H1 s1=>?_⟩;cases x with|true=>rw[if_pos rfl]at e ⊢;obtain⟨r2,ρ2,e2,e3⟩:=aa e;cases e3;refine⟨F1,ρ1,r2,_,s1.gs,e2,fun v F2 H2 s2 rr=>?_⟩;obtain⟨F3,s3,_,rp⟩:=s2.cG rr;exact k v F3 H2 (s1.trans s3) rp|false=>rw[if_neg Bool.false_ne_true]at e ⊢;obtain⟨r2,ρ2,e2,e3⟩:=aa e;cases e3;refine⟨F1,ρ1,r2,_,s1.gs,e2,fun v F2 H2 s2 rr=>?_⟩;obtain⟨F3,s3,_,rp⟩:=s2.cG rr;exact k v F3 H2 (s1.trans s3) rp
theorem qZ:∀{ps:List P}{ρ ρ':List Sl}{ds:List D},evs c ps ρ=.ok ds ρ'->ds.length=ps.length|[],_,_,_,h=>by rw[evs]at h;cases h;rfl|p::ps,_,_,_,h=>by rw[evs]at h;obtain⟨r,ρ1,_,h⟩:=aa h;obtain⟨xs,ρ2,h2,h⟩:=aa h;cases h;simp[qZ h2]
theorem aV:SA X c [] []:=⟨tM fB fun σ H Q⟨F,ρ,ds,ρ',g,e,k⟩=>by rw[evs]at e;cases e;exact k [] F H (.refl g) .nil,rfl⟩
theorem yN{es:List Expr}{ps:List P}(ha:SX X c a pa)(hr:SA X c es ps)(hs:starEach (a::es) X.env=(false,eval a X.env)::starEach es X.env:=by rfl):SA X c (a::es) (pa::ps):=by refine⟨tM (cV ha.ev hr.1 hs) ?_,by simp[hr.2]⟩;rintro σ H Q⟨F,ρ,ds,ρ',g,e,k⟩;rw[evs]at e;obtain⟨r,ρ1,e1,e⟩:=aa e;obtain⟨xs,ρ2,e2,e⟩:=aa e;cases e;refine⟨F,ρ,r,ρ1,g,e1,fun v F' H' s rr=>?_⟩;obtain⟨F1,s1,_,rp⟩:=s.cG rr;refine⟨F1,ρ1,xs,_,s1.gs,e2,fun vs F2 H2 s2 rs=>?_⟩;exact k _ F2 H2 (s1.trans s2) (.cons (rp.mono s2.bY) rs)
theorem Ext.Gx{K:PySem.W.Frag}{F H:Hp}{ρ ρ':List Sl}{σ:L2.St}{H0 F0:Hp}{Q:VK}{xs:List V}{ds:List D}(s:aq K F0 ρ σ H0 F ρ' σ H)(r:aF K F xs ds)(k:∀v F' H',aq K F0 ρ σ H0 F' ρ' σ H'->bV K F' ρ' σ H' ρ σ H0 v (.val (.tup ds))->Q v H')(p:Addr)(hp:H p=none):Q (.ref p) (upd H p (.tup xs)):=wL s.gs.sub r hp fun v F' H' x rn=>k v F' H' (s.trans (x.stp s.gs)) rn
theorem cM{es:List Expr}{ps:List P}{x1}(h:SA X c es ps)(hz:ps.length<=sizeLine:=by decide):SX X c (.Tuple es x1 pos) (.tup ps):=by refine⟨fJ (M4 h.1) ?_,fun i h=>by cases h⟩;rintro σ H Q⟨F,ρ,r,ρ',g,e,k⟩;rw[HH.E10]at e;obtain⟨ds,ρ1,e1,e⟩:=aa e;cases e;exact⟨F,ρ,ds,_,g,e1,fun vs F' H' s rs=>⟨by rw[rs.length,qZ e1];exact hz,fun p hp=>Ext.Gx s rs k p hp⟩⟩
theorem cO{es:List Expr}{ps:List P}(h:SA X c es ps)(hz:ps.length<=sizeLine:=by decide):SX X c (.List es pos) (.lst ps):=by refine⟨fJ (Qj h.1) ?_,fun i h=>by cases h⟩;rintro σ H Q⟨F,ρ,r,ρ',g,e,k⟩;rw[HH.E11]at e;obtain⟨ds,ρ1,e1,e⟩:=aa e;cases e;exact⟨F,ρ,ds,_,g,e1,fun vs F' H' s rs=>⟨by rw[rs.length,qZ e1];exact hz,fun p hp=>uP s.gs.sub rs hp fun v F2 H2 x rn=>k v F2 H2 (s.trans (x.stp s.gs)) (.later s (rn.nY s.gs))⟩⟩
theorem Eh{ds:List D}{i:Int}{d:D}(h:at' ds i=some d):∃j,L2.ig ds.length i=some j/\ds[j]?=some d:=bU h
theorem aao:Wn X (rD X.K GK):=by
 rintro value slice pins s σ H x y v u Q I rx ry⟨F,d,e,r,sm,px,py,he,k⟩hs;unfold GK at he;obtain⟨ds,e1,he⟩:=bU he;obtain⟨i,e2,he⟩:=bU he;obtain⟨z,e3,he⟩:=map_some he;subst he;cases cQ e2;rw[py.int]at ry;obtain⟨p,xs,rfl,hq,rs⟩:=px.items sm e1;obtain⟨j,h1,h2⟩:=Eh e3;obtain⟨w,h3,h4⟩:=rs.get h2;have hat:BJ xs i=some w:=by unfold BJ;rw[rs.length,h1];exact h3
 rcases hq with hq|hq;.exact zb value slice pins s σ H _ _ v u Q I rx ry ⟨p,xs,i,w,rfl,rfl,hq,hat,bN.cu sm h4 k⟩ hs
 .exact Oq value slice pins s σ H _ _ v u Q I rx ry ⟨p,xs,i,w,rfl,rfl,hq,hat,bN.cu sm h4 k⟩ hs
theorem aD(ha:SX X c a pa)(hb:SX X c b pb)(hs:qX b:=by intro _ _;rfl):SX X c (.Subscript a b pos) (.idx pa pb):=vU (f:=GK) (fun h1 h2=>Kc aao h1 h2 hs) ha hb (fun ρ=>rfl) rfl
def Ht(K:PySem.W.Frag)(f:D->Option R):List V->Hp->VK->Prop:=fun xs H Q=>∃x,xs=[x]/\rD1 K f x H Q
theorem mF{E:Expr}{f:D->Option R}{q:P}(hp:∀{t},PA X [a] t->PE X E (WY (Ht X.K f) t))(ha:SX X c a pa)(hq:∀ρ,HH.ev c q ρ=(HH.bW (isVar pa) (HH.ev c pa) ρ).bind fun x ρ=>lift (f x) ρ)(hv:isVar q=none)(hs:starEach [a] X.env=(false,eval a X.env)::starEach [] X.env:=by rfl):SX X c E q:=by obtain⟨ta,h1,h3⟩:=ha.bW;refine⟨fJ (hp (cV h1 fB hs)) ?_,fun i h=>by rw[hv]at h;cases h⟩;rintro σ H Q⟨F,ρ,r,ρ',g,e,k⟩;rw[hq]at e;obtain⟨x,ρ1,e1,e2⟩:=aa e;have zz:=aG e2;clear e2;obtain⟨e2,e3⟩:=zz;subst e3;refine h3 g e1 fun v F' H' s pv=>⟨v,rfl,F',x,r,s.gs.sub,pv,e2,fun w F2 H2 x rn=>?_⟩;exact k w F2 H2 (s.trans (x.stp s.gs)) (.later s (rn.nY s.gs))
theorem S9:dH X (.builtin "len") (Ht X.K fun x=>blt .len [x]):=by rintro pins s σ H xs us Q I r⟨x,hx,F,d,r',sm,px,he,k⟩;obtain⟨ds,e1,he⟩:=map_some (show(items d).map _=some r' from he);subst he;obtain⟨p,ys,rfl,hq,rs⟩:=px.items sm e1;exact rQ pins s σ H xs us Q I r ⟨p,ys,hx,hq,by rw[rs.length];exact bN.cu sm (bA _) k⟩
theorem Mt:dH X (.type "list") (Ht X.K fun x=>blt .list [x]):=by rintro pins s σ H xs us Q I r⟨x,hx,F,d,r',sm,px,he,k⟩;obtain⟨ds,e1,he⟩:=map_some (show(items d).map _=some r' from he);subst he;obtain⟨p,ys,rfl,hq,rs⟩:=px.items sm e1;exact qR pins s σ H xs us Q I r ⟨p,ys,hx,hq,fun l hl=>uP sm rs hl k⟩
theorem Hz:dH X (.type "tuple") (Ht X.K fun x=>blt .tuple [x]):=by rintro pins s σ H xs us Q I r⟨x,hx,F,d,r',sm,px,he,k⟩;obtain⟨ds,e1,he⟩:=map_some (show(items d).map _=some r' from he);subst he;cases d with|tup es=>cases e1;obtain⟨a,ys,rfl,hq,rs,rt⟩:=px.tup sm;exact ju pins s σ H xs us Q I r ⟨a,ys,hx,.inr ⟨hq,bN.cu sm rt k⟩⟩|lst es=>cases e1;obtain⟨a,ys,rfl,hq,rs⟩:=px.lst sm;exact ju pins s σ H xs us Q I r ⟨a,ys,hx,.inl ⟨hq,fun l hl=>wL sm rs hl k⟩⟩|_=>cases e1
theorem lN{x:Str}{p':Pos}(hx:x="len")(hg:Gl X x)(hm:X.mg x=none)(ha:SX X c a pa)(hs:starEach [a] X.env=(false,eval a X.env)::starEach [] X.env:=by rfl):SX X c (.Call (.Name x p') [a] [] pos) (.blt .len [pa]):=by subst hx;exact mF (fun h=>dW S9 hg hm PySem.boot_len h (he:=hs)) ha (fun ρ=>rfl) rfl hs
theorem Hf{x:Str}{p':Pos}(hx:x="list")(hg:Gl X x)(hm:X.mg x=none)(ha:SX X c a pa)(hs:starEach [a] X.env=(false,eval a X.env)::starEach [] X.env:=by rfl):SX X c (.Call (.Name x p') [a] [] pos) (.blt .list [pa]):=by subst hx;exact mF (fun h=>lR Mt hg hm (by decide+kernel) h (he:=hs)) ha (fun ρ=>rfl) rfl hs
theorem nW{x:Str}{p':Pos}(hx:x="tuple")(hg:Gl X x)(hm:X.mg x=none)(ha:SX X c a pa)(hs:starEach [a] X.env=(false,eval a X.env)::starEach [] X.env:=by rfl):SX X c (.Call (.Name x p') [a] [] pos) (.blt .tuple [pa]):=by subst hx;exact mF (fun h=>lR Hz hg hm (by decide+kernel) h (he:=hs)) ha (fun ρ=>rfl) rfl hs
end
def gD(K:PySem.W.Frag)(np:Nat)(f:List Sl->Res R):Sp:=fun vs H Q _=>vs.length=np/\∃F args r args',GS K F args (vs.map some) H/\f args=.ok r args'/\∀v F' σ' H',aq K F args (vs.map some) H F' args' σ' H'->bV K F' args' σ' H' args (vs.map some) H v r->Q v H'
section
variable{K:PySem.W.Frag}
def vK(K:PySem.W.Frag)(F:Hp)(ρ:List Sl)(σ:L2.St)(H:Hp)(ρ₀:List Sl)(H₀:Hp)(v:V):Arg->Prop|.dat d=>Rep K F v d|.tmp ds=>∃x xs,v=.ref x/\H x=some (.lst xs)/\F x=none/\aF K F xs ds/\¬ Own ρ σ x/\(Own ρ₀ σ x\/H₀ x=none)|.dX i=>σ[i]?=some (some v)
structure tK(K:PySem.W.Frag)(F:Hp)(ρ:List Sl)(σ:L2.St)(H:Hp)(ρ₀:List Sl)(H₀:Hp)(as:List Arg)(vs:List V):Prop where
 len:as.length=vs.length
 one:∀(j:Nat)(a:Arg)(v:V),as[j]?=some a->vs[j]?=some v->vK K F ρ σ H ρ₀ H₀ v a
 dis:∀(j k:Nat)(ds es:List D)(x:Addr),as[j]?=some (.tmp ds)->as[k]?=some (.tmp es)->vs[j]?=some (.ref x)->vs[k]?=some (.ref x)->j=k
theorem vK.later{F F' H H' H₀:Hp}{ρ ρ' ρ₀:List Sl}{σ:L2.St}{v:V}{a:Arg}(s:aq K F ρ σ H F' ρ' σ H')(h:vK K F ρ σ H ρ₀ H₀ v a):vK K F' ρ' σ H' ρ₀ H₀ v a:=by cases a with|dat d=>exact Rep.mono s.bY h|dX i=>exact h|tmp ds=>
   obtain⟨x,xs,h1,h2,h3,h4,h5,h6⟩:=h;refine⟨x,xs,h1,s.keep x _ h2 h5,?_,h4.mono s.bY,fun o=>?_,h6⟩;.cases q:F' x with|none=>rfl|some o=>
       rcases s.vf x h3 (by rw[q];simp)with z|z;.exact absurd z h5
       .exact(Bu h2 z).elim
   . rcases s.tE x o with z|z;.exact h5 z
     .rw[h2]at z;cases z
theorem tK.nil{F H H₀:Hp}{ρ ρ₀:List Sl}{σ:L2.St}:tK K F ρ σ H ρ₀ H₀ [] []:=⟨rfl,fun j a v h=>by simp at h,fun j k ds es x h=>by simp at h⟩
theorem tK.cons{F H H₀:Hp}{ρ ρ₀:List Sl}{σ:L2.St}{a:Arg}{v:V}{as:List Arg}{vs:List V}(h:vK K F ρ σ H ρ₀ H₀ v a)(t:tK K F ρ σ H ρ₀ H₀ as vs)(hd:∀ds x,a=.tmp ds->v=.ref x->∀(k:Nat)es,as[k]?=some (.tmp es)->vs[k]?≠some (.ref x)):tK K F ρ σ H ρ₀ H₀ (a::as) (v::vs):=by
 refine⟨by simp[t.len],fun j b u h1 h2=>?_,fun j k ds es x h1 h2 h3 h4=>?_⟩;.cases j with|zero=>simp at h1 h2;subst h1;subst h2;exact h|succ j=>exact t.one j b u (by simpa using h1) (by simpa using h2)
 .cases j with
   |zero=>cases k with|zero=>rfl|succ k=>simp at h1 h3;exact absurd (by simpa using h4) (hd ds x h1 h3 k es (by simpa using h2))
   |succ j=>cases k with|zero=>simp at h2 h4;exact absurd (by simpa using h3) (hd es x h2 h4 j ds (by simpa using h1))|succ k=>rw[t.dis j k ds es x (by simpa using h1) (by simpa using h2) (by simpa using h3) (by simpa using h4)]
def Bs(ρ:List Sl):Arg->Sl->Prop|.dat d,s=>s=.val false d|.tmp ds,s=>s=.own false ds|.dX i,s=>(∃b d,ρ[i]?=some (.val b d)/\s=.val false d)\/(∃b ds,ρ[i]?=some (.own b ds)/\s=.own true ds)\/∃ds,ρ[i]?=some (.lent ds)/\s=.lent ds
theorem n8{ρ:List Sl}:∀{as:List Arg}{used:List Nat}{args:List Sl},bC ρ as used=some args->args.length=as.length/\(∀(j:Nat)(a:Arg)(s:Sl),as[j]?=some a->args[j]?=some s->Bs ρ a s)/\(∀(j:Nat)(i:Nat)(s:Sl)ds,as[j]?=some (.dX i)->args[j]?=some s->lst? s=some ds->i∉used)/\(∀(j k:Nat)(i:Nat)(s t:Sl)ds es,as[j]?=some (.dX i)->as[k]?=some (.dX i)->args[j]?=some s->args[k]?=some t->lst? s=some ds->lst? t=some es->j=k)
 |[],used,args,h=>by rw[bC]at h;cases h;exact⟨rfl,fun j a s h=>by simp at h,fun j i s ds h=>by simp at h,fun j k i s t ds es h=>by simp at h⟩|a::as,used,args,h=>by--the abI slot,the abJ
   have key:∃s0 r vg,args=s0::r/\bC ρ as vg=some r/\Bs ρ a s0/\((∃i ds,a=.dX i/\lst? s0=some ds/\vg=i::used/\i∉used)\/((∀i ds,a=.dX i->lst? s0≠some ds)/\vg=used)):=by cases a with|dat d=>rw[bC]at h;obtain⟨r,e1,e2⟩:=map_some h;exact⟨_,r,used,e2.symm,e1,rfl,.inr ⟨fun i ds z=>(by cases z),rfl⟩⟩|tmp d=>rw[bC]at h;obtain⟨r,e1,e2⟩:=map_some h;exact⟨_,r,used,e2.symm,e1,rfl,.inr ⟨fun i ds z=>(by cases z),rfl⟩⟩|dX i=>
      rw[bC]at h;split at h;.rename_i b d q;obtain⟨r,e1,e2⟩:=map_some h;exact⟨_,r,used,e2.symm,e1,.inl ⟨b,d,q,rfl⟩,.inr ⟨fun _ _ _ z=>(by cases z),rfl⟩⟩
      . rename_i b ds q;split at h;.cases h
        .rename_i hu;obtain⟨r,e1,e2⟩:=map_some h;exact⟨_,r,_,e2.symm,e1,.inr (.inl ⟨b,ds,q,rfl⟩),.inl ⟨i,_,rfl,rfl,rfl,by simpa using hu⟩⟩
      . rename_i ds q;split at h;.cases h
        .rename_i hu;obtain⟨r,e1,e2⟩:=map_some h;exact⟨_,r,_,e2.symm,e1,.inr (.inr ⟨ds,q,rfl⟩),.inl ⟨i,_,rfl,rfl,rfl,by simpa using hu⟩⟩
      .cases h
   obtain⟨s0,r,vg,rfl,hr,hs0,hu⟩:=key;obtain⟨l1,l2,l3,l4⟩:=n8 hr;have sub:∀i,i∉vg->i∉used:=fun i hi hm=>by
    rcases hu with⟨_,_,_,_,rfl,_⟩|⟨_,rfl⟩;.exact hi (mem_cons_of_mem _ hm)
    .exact hi hm
   refine⟨by simp[l1],fun j b s h1 h2=>?_,fun j i s ds h1 h2 h3=>?_,fun j k i s t ds es h1 h2 h3 h4 h5 h6=>?_⟩;.cases j with|zero=>simp at h1 h2;subst h1;subst h2;exact hs0|succ j=>exact l2 j b s (by simpa using h1) (by simpa using h2)
   .cases j with|zero=>
       simp at h1 h2;subst h1;subst h2;rcases hu with⟨i',_,e,_,_,hn⟩|⟨hn,_⟩;.cases e;exact hn
       .exact absurd h3 (hn i ds rfl)|succ j=>exact sub i (l3 j i s ds (by simpa using h1) (by simpa using h2) h3)
   . have z0:∀(k:Nat)(t:Sl)es,a=.dX i->lst? s0=some ds->(as[k]?=some (.dX i))->r[k]?=some t->lst? t=some es->False:=fun k t es ea e0 hk ht he=>by
      rcases hu with⟨i',_,e,_,rfl,hn⟩|⟨hn,_⟩;.rw[ea]at e;cases e;exact l3 k i t es hk ht he mem_cons_self
      .exact hn i ds ea e0
     have z1:∀(k:Nat)(t:Sl)es,a=.dX i->lst? s0=some es->(as[k]?=some (.dX i))->r[k]?=some t->lst? t=some ds->False:=fun k t es ea e0 hk ht he=>by
      rcases hu with⟨i',_,e,_,rfl,hn⟩|⟨hn,_⟩;.rw[ea]at e;cases e;exact l3 k i t ds hk ht he mem_cons_self
      .exact hn i es ea e0
     cases j with
     |zero=>cases k with|zero=>rfl|succ k=>simp at h1 h3;subst h3;exact(z0 k t es h1 h5 (by simpa using h2) (by simpa using h4) h6).elim
     |succ j=>cases k with|zero=>simp at h2 h4;subst h4;exact(z1 j s es h2 h6 (by simpa using h1) (by simpa using h3) h5).elim|succ k=>rw[l4 j k i s t ds es (by simpa using h1) (by simpa using h2) (by simpa using h3) (by simpa using h4) h5 h6]
theorem tK.get{F H H₀:Hp}{ρ ρ₀:List Sl}{σ:L2.St}{as:List Arg}{vs:List V}(A:tK K F ρ σ H ρ₀ H₀ as vs){args:List Sl}{j:Nat}{s:Sl}(hl:args.length=as.length)(h:args[j]?=some s):∃a v,as[j]?=some a/\vs[j]?=some v/\vK K F ρ σ H ρ₀ H₀ v a:=by
 have hj:j<args.length:=(List.getElem?_eq_some_iff.mp h).1;have h1:j<as.length:=by omega
 have h2:j<vs.length:=by rw[<-A.len];exact h1
 exact⟨as[j],vs[j],by simp[h1],by simp[h2],A.one j _ _ (by simp[h1]) (by simp[h2])⟩
theorem args_gs{F H H₀:Hp}{ρ ρ₀:List Sl}{σ:L2.St}{as:List Arg}{vs:List V}{args:List Sl}(g:GS K F ρ σ H)(A:tK K F ρ σ H ρ₀ H₀ as vs)(h:bC ρ as []=some args):GS K F args (vs.map some) H:=by
 obtain⟨l1,l2,l3,l4⟩:=n8 h;have up:∀{j:Nat}{v:V},vs[j]?=some v->(vs.map some)[j]?=some (some v):=fun e=>by rw[getElem?_map,e];rfl
 have dn:∀{j:Nat}{v:V},(vs.map some)[j]?=some (some v)->vs[j]?=some v:=fun{j v}e=>by rw[getElem?_map]at e;cases q:vs[j]?with|none=>rw[q]at e;cases e|some w=>rw[q]at e;cases e;rfl
 refine⟨g.sub,by rw[l1,A.len,length_map],fun j b d e=>?_,fun j s ds e e'=>?_,fun j k x⟨⟨s,ds,e1,e2⟩,e3⟩⟨⟨t,es,f1,f2⟩,f3⟩=>?_⟩;.obtain⟨a,v,h1,h2,h3⟩:=A.get l1 e;have h4:=l2 j a _ h1 e;refine⟨v,up h2,?_⟩;cases a with|dat d'=>cases h4;exact h3|tmp ds=>cases h4|dX i=>
     rcases h4 with⟨b',d',q1,q2⟩|⟨_,_,_,q2⟩|⟨_,_,q2⟩;.cases q2;obtain⟨w,q3,q4⟩:=g.val i b' d q1;have h3:σ[i]?=some (some v):=h3;rw[h3]at q3;cases q3;exact q4
     .cases q2
     .cases q2
 .obtain⟨a,v,h1,h2,h3⟩:=A.get l1 e;have h4:=l2 j a _ h1 e;cases a with|dat d'=>cases h4;cases e'|tmp es=>cases h4;cases e';obtain⟨x,xs,rfl,q2,q3,q4,_⟩:=h3;exact⟨x,_,up h2,q2,q3,xs,rfl,q4⟩|dX i=>
     have h3:σ[i]?=some (some v):=h3;rcases h4 with⟨b',d',q1,q2⟩|⟨b',es,q1,q2⟩|⟨es,q1,q2⟩;.cases q2;cases e'
     .cases q2;cases e';obtain⟨x,xs,q3,q4⟩:=g.own i _ _ q1 rfl;rw[h3]at q3;cases q3;exact⟨x,xs,up h2,q4⟩
     .cases q2;cases e';obtain⟨x,xs,q3,q4⟩:=g.own i _ _ q1 rfl;rw[h3]at q3;cases q3;exact⟨x,xs,up h2,q4⟩
 . obtain⟨a,v,h1,h2,h3⟩:=A.get l1 e1;obtain⟨a',v',h1',h2',h3'⟩:=A.get l1 f1;have e3:=dn e3;have f3:=dn f3;rw[h2]at e3;cases e3;rw[h2']at f3;cases f3;have s1:=l2 j a _ h1 e1;have s2:=l2 k a' _ h1' f1;have nm:∀{i:Nat}{s:Sl}{ds:Oc},lst? s=some ds->Bs ρ (.dX i) s->∃s' ds',ρ[i]?=some s'/\lst? s'=some ds':=fun{i s ds}l z=>by
    rcases z with⟨_,_,_,z⟩|⟨b,es,q,_⟩|⟨es,q,_⟩;.subst z;cases l
    .exact⟨_,_,q,rfl⟩
    .exact⟨_,_,q,rfl⟩
   cases a with
   |dat d=>cases s1;cases e2|tmp Qv=>cases a' with|dat d=>cases s2;cases f2|tmp JB=>exact A.dis j k Qv JB x h1 h1' h2 h2'|dX i=>obtain⟨y,_,q1,_,_,_,q2,_⟩:=h3;cases q1;obtain⟨s',ds',q3,q4⟩:=nm f2 s2;exact absurd ⟨i,⟨s',ds',q3,q4⟩,h3'⟩ q2
   |dX i=>obtain⟨s',ds',q3,q4⟩:=nm e2 s1;cases a' with|dat d=>cases s2;cases f2|tmp JB=>obtain⟨y,_,q1,_,_,_,q2,_⟩:=h3';cases q1;exact absurd ⟨i,⟨s',ds',q3,q4⟩,h3⟩ q2|dX i'=>obtain⟨s'',abK,q5,q6⟩:=nm f2 s2;have:=g.dis i i' x ⟨⟨s',ds',q3,q4⟩,h3⟩ ⟨⟨s'',abK,q5,q6⟩,h3'⟩;subst this;exact l4 j k i s t ds es h1 h1' e1 f1 e2 f2
theorem lB{as:List Arg}{ss:List Sl}:∀(ρ:List Sl)(n i:Nat),(cC as ss n ρ)[i]?=(ρ[i]?).map fun s=>dI s (aW (n+i) as ss)
 |[],n,i=>by simp[cC]|s::ρ,n,0=>by simp[cC]|s::ρ,n,i+1=>by
   rw[cC];simp only[List.getElem?_cons_succ];rw[lB ρ (n+1) i];have:n+1+i=n+(i+1):=by omega
   rw[this]
theorem lr{as:List Arg}{ss:List Sl}:∀(ρ:List Sl)(n:Nat),(cC as ss n ρ).length=ρ.length|[],n=>rfl|s::ρ,n=>by rw[cC];simp[lr ρ]
theorem gJ{i:Nat}:∀{as:List Arg}{ss:List Sl}{t:Sl},aW i as ss=some t->∃j:Nat,as[j]?=some (.dX i)/\ss[j]?=some t
 |[],_,_,h=>by simp[aW]at h|a::as,[],_,h=>by cases a<;>simp[aW]at h|a::as,s::ss,t,h=>by
   have tl:aW i as ss=some t->∃j:Nat,(a::as)[j]?=some (.dX i)/\(s::ss)[j]?=some t:=fun h=>by obtain⟨j,h1,h2⟩:=gJ h;exact⟨j+1,by simpa using h1,by simpa using h2⟩
   cases a with|dat d=>exact tl (by simpa[aW]using h)|tmp d=>exact tl (by simpa[aW]using h)|dX k=>
     rw[aW]at h;split at h;.rename_i hk;cases h;subst hk;exact⟨0,rfl,rfl⟩
     .exact tl h
theorem jA{i:Nat}:∀{as:List Arg}{ss:List Sl},as.length=ss.length->aW i as ss=none->∀j:Nat,as[j]?≠some (.dX i)
 |[],_,_,_=>fun j h=>by simp at h|a::as,[],hl,_=>by simp at hl|a::as,s::ss,hl,h=>fun j hj=>by
   have hl':as.length=ss.length:=by simpa using hl
   have tl:aW i as ss=none/\a≠.dX i:=by cases a with|dat d=>exact⟨by simpa[aW]using h,by simp⟩|tmp d=>exact⟨by simpa[aW]using h,by simp⟩|dX k=>
      rw[aW]at h;split at h;.cases h
      .rename_i hk;exact⟨h,fun e=>hk (by cases e;rfl)⟩
   cases j with|zero=>simp at hj;exact tl.2 hj|succ j=>exact jA hl' tl.1 j (by simpa using hj)
theorem Fx{F₀ H₀ F H F' H':Hp}{ρ₀ ρ args args':List Sl}{σ σ':L2.St}{as:List Arg}{vs:List V}(s0:aq K F₀ ρ₀ σ H₀ F ρ σ H)(A:tK K F ρ σ H ρ₀ H₀ as vs)(hb:bC ρ as []=some args)(s:aq K F args (vs.map some) H F' args' σ' H'):aq K F₀ ρ₀ σ H₀ F' (cC as args' 0 ρ) σ H'/\∀v r,bV K F' args' σ' H' args (vs.map some) H v r->bV K F' (cC as args' 0 ρ) σ H' ρ₀ σ H₀ v r:=by
 have g:=s0.gs;obtain⟨l1,l2,l3,l4⟩:=n8 hb;have up:∀{j:Nat}{v:V},vs[j]?=some v->(vs.map some)[j]?=some (some v):=fun e=>by rw[getElem?_map,e];rfl
 have dn:∀{j:Nat}{v:V},(vs.map some)[j]?=some (some v)->vs[j]?=some v:=fun{j v}e=>by rw[getElem?_map]at e;cases q:vs[j]?with|none=>rw[q]at e;cases e|some w=>rw[q]at e;cases e;rfl
 have la:as.length=args'.length:=by rw[s.len,l1]--whose are the lists that the callee holds
 have own:∀b,Own args (vs.map some) b->(∃(j:Nat)(ds:List D),as[j]?=some (Arg.tmp ds)/\vs[j]?=some (V.ref b)/\¬ Own ρ σ b/\(Own ρ₀ σ b\/H₀ b=none))\/Own ρ σ b:=fun b⟨j,⟨sl,ds,e1,e2⟩,e3⟩=>by obtain⟨a,v,h1,h2,h3⟩:=A.get l1 e1;have s1:=l2 j a _ h1 e1;have e3:=dn e3;rw[h2]at e3;cases e3;cases a with|dat d=>cases s1;cases e2|tmp es=>obtain⟨x,_,q1,_,_,_,q2,q3⟩:=h3;cases q1;exact .inl ⟨j,es,h1,h2,q2,q3⟩|dX i=>
    right;rcases s1 with⟨_,_,_,z⟩|⟨b',es,q,_⟩|⟨es,q,_⟩;.subst z;cases e2
    .exact⟨i,⟨_,_,q,rfl⟩,h3⟩
    .exact⟨i,⟨_,_,q,rfl⟩,h3⟩
 have back:∀b,Own ρ σ b\/H b=none->Own ρ₀ σ b\/H₀ b=none:=fun b h=>by
  rcases h with h|h;.exact s0.tE b h
  . by_cases ho:Own ρ₀ σ b;.exact .inl ho
    .right;cases e:H₀ b with|none=>rfl|some o=>rw[s0.keep b o e ho]at h;cases h
 have own':∀b,Own args (vs.map some) b->Own ρ₀ σ b\/H₀ b=none:=fun b h=>by
  rcases own b h with⟨_,_,_,_,_,z⟩|z;.exact z
  .exact back b (.inl z)--a name's slot behind the call
 have slot:∀{i:Nat}{t:Sl},(cC as args' 0 ρ)[i]?=some t->∃s1,ρ[i]?=some s1/\t=dI s1 (aW i as args'):=fun{i t}h=>by rw[lB]at h;obtain⟨s1,e1,e2⟩:=map_some h;exact⟨s1,e1,by rw[<-e2,Nat.zero_add]⟩
 have V6:∀{i:Nat}{s1:Sl},ρ[i]?=some s1->(cC as args' 0 ρ)[i]?=some (dI s1 (aW i as args')):=fun{i s1}h=>by rw[lB,h,Nat.zero_add];rfl--what the callee left of a list that was lent to it
 have lent:∀{i j:Nat}{s1 t:Sl}{ds:List D},ρ[i]?=some s1->lst? s1=some (.l ds)->as[j]?=some (.dX i)->args'[j]?=some t->∃v s2,σ[i]?=some (some v)/\σ'[j]?=some (some v)/\args[j]?=some s2/\jQ s2 t/\((∃b,s1=.own b ds/\s2=.own true ds)\/(s1=.lent ds/\s2=.lent ds)):=fun{i j s1 t ds}h1 h2 h3 h4=>by
  have hj:j<args.length:=by rw[l1];exact(List.getElem?_eq_some_iff.mp h3).1
  have e1:args[j]?=some args[j]:=by simp[hj]
  obtain⟨a,v,q1,q2,q3⟩:=A.get l1 e1;rw[h3]at q1;cases q1;have q4:=l2 j _ _ h3 e1;have kind:(∃b,s1=.own b ds/\args[j]=.own true ds)\/(s1=.lent ds/\args[j]=.lent ds):=by
   rcases q4 with⟨_,_,z,_⟩|⟨b,es,z,z'⟩|⟨es,z,z'⟩;.rw[h1]at z;cases z;cases h2
   .rw[h1]at z;cases z;cases h2;exact .inl ⟨b,rfl,z'⟩
   .rw[h1]at z;cases z;cases h2;exact .inr ⟨rfl,z'⟩
  have lk:qY args[j]=true:=by rcases kind with⟨_,_,z⟩|⟨_,z⟩<;>rw[z]<;>rfl
  obtain⟨z1,s',z2,z3⟩:=s.lk j _ e1 lk;rw[h4]at z2;cases z2;exact⟨v,_,q3,by rw[z1];exact up q2,e1,z3,kind⟩
 have JC:∀{i:Nat}{x:Addr},aQ (cC as args' 0 ρ) σ i x->aQ ρ σ i x:=fun{i x}⟨⟨t,ds,e1,e2⟩,e3⟩=>by obtain⟨s1,q1,q2⟩:=slot e1;refine⟨?_,e3⟩;cases s1 with|aU=>subst q2;cases e2|val b d=>subst q2;cases e2|own b es=>exact⟨_,_,q1,rfl⟩|lent es=>exact⟨_,_,q1,rfl⟩|fO m=>exact⟨_,_,q1,rfl⟩|cA m=>exact⟨_,_,q1,rfl⟩|hold _=>subst q2;cases e2
 refine⟨?_,fun v r h=>?_⟩;rotate_left;.cases r with|val d=>exact h|own ds=>
     obtain⟨x,xs,h1,h2,h3,h4,h5,h6⟩:=h;refine⟨x,xs,h1,h2,h3,h4,fun⟨i,h⟩=>?_,?_⟩
     . have hO:=JC h;obtain⟨⟨s1,Qv,q1,q2⟩,q3⟩:=hO;obtain⟨x',xs',w1,w2,_⟩:=g.own i s1 Qv q1 q2;rw[q3]at w1;cases w1;rcases h6 with h6|h6
       . rcases own x h6 with⟨_,_,_,_,z,_⟩|_;.exact z ⟨i,⟨s1,Qv,q1,q2⟩,q3⟩
         .--a name was lent
           obtain⟨j,⟨sl,es,w3,w4⟩,w5⟩:=h6;obtain⟨a',v',y1,y2,y3⟩:=A.get l1 w3;have sa:=l2 j a' _ y1 w3;have w5:=dn w5;rw[y2]at w5;cases w5;cases a' with|dat d=>cases sa;cases w4|tmp es'=>obtain⟨_,_,u1,_,_,_,u2,_⟩:=y3;cases u1;exact u2 ⟨i,⟨s1,Qv,q1,q2⟩,q3⟩|dX i'=>
             have ex:∃s' ds',ρ[i']?=some s'/\lst? s'=some ds':=by
              rcases sa with⟨_,_,_,z⟩|⟨b,es,q,_⟩|⟨es,q,_⟩;.subst z;cases w4
              .exact⟨_,_,q,rfl⟩
              .exact⟨_,_,q,rfl⟩
             have:=g.dis i i' x ⟨⟨s1,Qv,q1,q2⟩,q3⟩ ⟨ex,y3⟩;subst this;have hk:∃JB,Qv=.l JB:=by
              rcases sa with⟨_,_,_,z⟩|⟨b,es,q,_⟩|⟨es,q,_⟩;.subst z;cases w4
              .rw[q1]at q;cases q;cases q2;exact⟨_,rfl⟩
              .rw[q1]at q;cases q;cases q2;exact⟨_,rfl⟩
             obtain⟨JB,rfl⟩:=hk;have hj:j<args'.length:=by rw[<-la];exact(List.getElem?_eq_some_iff.mp y1).1
             have e':args'[j]?=some args'[j]:=by simp[hj]
             obtain⟨v2,s2,u1,u2,u3,u4,u5⟩:=lent q1 q2 y1 e';rw[q3]at u1;cases u1--the slot behind the call is a list's
             obtain⟨⟨t,dt,t1,t2⟩,_⟩:=h;obtain⟨s3,t3,t4⟩:=slot t1;rw[q1]at t3;cases t3;have lo:∃t5,aW i as args'=some t5:=by cases hl:aW i as args' with|none=>exact absurd y1 (jA la hl j)|some t5=>exact⟨t5,rfl⟩
             obtain⟨t5,hl⟩:=lo;obtain⟨j2,t6,t7⟩:=gJ hl;have hj2:j2<args.length:=by rw[l1];exact(List.getElem?_eq_some_iff.mp t6).1
             obtain⟨_,s6,_,v2',v3',v4',v5'⟩:=lent q1 q2 t6 t7;have l4':j2=j:=by
              have a1:lst? s6=some (.l JB):=by rcases v5' with⟨_,_,z⟩|⟨_,z⟩<;>rw[z]<;>rfl
              have a2:lst? s2=some (.l JB):=by rcases u5 with⟨_,_,z⟩|⟨_,z⟩<;>rw[z]<;>rfl
              exact l4 j2 j i s6 s2 _ _ t6 y1 v3' u3 a1 a2
             subst l4';rw[e']at t7;cases t7;rw[hl]at t4;refine h5 ⟨j2,?_,u2⟩;rcases u5 with⟨b,z1,z2⟩|⟨z1,z2⟩
             . subst z1;subst z2;rcases u4 with⟨d2,z⟩|⟨d2,z⟩;.exact⟨_,.l d2,e',by rw[z];rfl⟩
               .rw[z]at t4;subst t4;cases t2
             .subst z1;subst z2;exact⟨_,.l JB,e',by rw[show args'[j2]=.lent JB from u4];rfl⟩
       .rw[w2]at h6;cases h6
     . rcases h6 with h6|h6;.exact own' x h6
       .exact back x (.inr h6)
 refine⟨⟨s.gs.sub,by rw[lr];exact g.len,fun i b d e=>?_,fun i t ds e e'=>?_,fun i j x h1 h2=>g.dis i j x (JC h1) (JC h2)⟩,s0.bY.trans s.bY,fun b n n'=>?_,fun b o h n=>?_,fun b⟨i,h⟩=>back b (.inl ⟨i,JC h⟩),by rw[lr];exact s0.len,fun i s1 h l=>?_⟩;.--data
   obtain⟨s1,q1,q2⟩:=slot e;cases s1 with|aU=>cases q2|lent es=>cases q2|fO _=>cases q2|cA _=>cases q2|hold _=>cases q2|val b' d'=>cases q2;obtain⟨v,z1,z2⟩:=g.val i b d q1;exact⟨v,z1,z2.mono s.bY⟩|own b' es=>cases hl:aW i as args' with|none=>rw[hl]at q2;cases q2|some t=>rw[hl]at q2;obtain⟨j,z1,z2⟩:=gJ hl;obtain⟨v,s2,y1,y2,y3,y4,y5⟩:=lent q1 rfl z1 z2;cases t with|aU=>cases q2|own _ _=>cases q2|lent _=>cases q2|fO _=>cases q2|cA _=>cases q2|hold _=>cases q2|val b2 d2=>cases q2;obtain⟨w,x1,x2⟩:=s.gs.val j b2 d z2;rw[y2]at x1;cases x1;exact⟨v,y1,x2⟩
 .--lists
   obtain⟨s1,q1,q2⟩:=slot e--a list that was not lent
   have stay:∀es,lst? s1=some es->(∀j:Nat,as[j]?≠some (.dX i))->t=s1->∃(a:Addr)(xs:HO),σ[i]?=some (some (V.ref a))/\H' a=some xs/\F' a=none/\jw K F' xs ds:=fun es he hn ht=>by
    subst ht;rw[he]at e';cases e';obtain⟨a,xs,z1,z2,z3,z4⟩:=g.own i _ ds q1 he;have no:¬ Own args (vs.map some) a:=fun h=>by obtain⟨j,⟨sl,es,w1,w2⟩,w3⟩:=h;obtain⟨a',v,h1,h2,h3⟩:=A.get l1 w1;have sa:=l2 j a' _ h1 w1;have w3:=dn w3;rw[h2]at w3;cases w3;cases a' with|dat d=>cases sa;cases w2|tmp es=>obtain⟨x,_,y1,_,_,_,y2,_⟩:=h3;cases y1;exact y2 ⟨i,⟨_,ds,q1,he⟩,z1⟩|dX i'=>
       have:∃s' ds',ρ[i']?=some s'/\lst? s'=some ds':=by
        rcases sa with⟨_,_,_,z⟩|⟨b,es,q,_⟩|⟨es,q,_⟩;.subst z;cases w2
        .exact⟨_,_,q,rfl⟩
        .exact⟨_,_,q,rfl⟩
       have:=g.dis i i' a ⟨⟨_,ds,q1,he⟩,z1⟩ ⟨this,h3⟩;subst this;exact hn j h1
    refine⟨a,xs,z1,s.keep a _ z2 no,?_,z4.mono s.bY⟩;cases q:F' a with|none=>rfl|some o=>
      rcases s.vf a z3 (by rw[q];simp)with z|z;.exact absurd z no
      .rw[z2]at z;exact(Ef z4 z).elim
   cases hl:aW i as args' with
   |none=>have hn:=jA la hl;rw[hl]at q2;cases s1 with|aU=>subst q2;cases e'|val b' d'=>subst q2;cases e'|own b' es=>exact stay _ rfl hn q2|lent es=>exact stay _ rfl hn q2|fO m=>exact stay _ rfl hn q2|cA m=>exact stay _ rfl hn q2|hold _=>subst q2;cases e'
   |some t2=>rw[hl]at q2;obtain⟨j,z1,z2⟩:=gJ hl;cases s1 with
     |aU=>subst q2;cases e'|val b' d'=>subst q2;cases e'|hold _=>subst q2;cases e'|fO m=>
       have hj:j<args.length:=by rw[l1];exact(List.getElem?_eq_some_iff.mp z1).1
       rcases l2 j _ _ z1 (show args[j]?=some args[j]by simp[hj])with⟨_,_,z,_⟩|⟨_,_,z,_⟩|⟨_,z,_⟩<;>(rw[q1]at z;cases z)|cA m=>
       have hj:j<args.length:=by rw[l1];exact(List.getElem?_eq_some_iff.mp z1).1
       rcases l2 j _ _ z1 (show args[j]?=some args[j]by simp[hj])with⟨_,_,z,_⟩|⟨_,_,z,_⟩|⟨_,z,_⟩<;>(rw[q1]at z;cases z)|own b' es=>
       obtain⟨v,s2,y1,y2,y3,y4,y5⟩:=lent q1 rfl z1 z2;have:t2≠.aU/\∀x,t2≠.lent x:=by
        rcases y5 with⟨_,_,y5⟩|⟨y5,_⟩;.subst y5;rcases y4 with⟨_,rfl⟩|⟨_,rfl⟩<;>simp
        .cases y5
       cases t2 with
       |aU=>exact absurd rfl this.1|hold x=>
         rcases y5 with⟨_,_,y5⟩|⟨y5,_⟩;.subst y5;rcases y4 with⟨_,h⟩|⟨_,h⟩<;>cases h
         .cases y5|fO x=>
         rcases y5 with⟨_,_,y5⟩|⟨y5,_⟩;.subst y5;rcases y4 with⟨_,h⟩|⟨_,h⟩<;>cases h
         .cases y5|cA x=>
         rcases y5 with⟨_,_,y5⟩|⟨y5,_⟩;.subst y5;rcases y4 with⟨_,h⟩|⟨_,h⟩<;>cases h
         .cases y5|lent x=>exact absurd rfl (this.2 x)|val b2 d2=>subst q2;cases e'|own b2 es2=>subst q2;cases e';obtain⟨a,xs,x1,x2⟩:=s.gs.own j _ _ z2 rfl;rw[y2]at x1;cases x1;exact⟨a,xs,y1,x2⟩
     |lent es=>
       obtain⟨v,s2,y1,y2,y3,y4,y5⟩:=lent q1 rfl z1 z2;have ht:t=.lent es:=by rw[q2];cases t2<;>rfl
       subst ht;cases e';rcases y5 with⟨_,y5,_⟩|⟨_,y5⟩;.cases y5
       .subst y5;cases(show t2=.lent es from y4);obtain⟨a,xs,x1,x2⟩:=s.gs.own j _ _ z2 rfl;rw[y2]at x1;cases x1;exact⟨a,xs,y1,x2⟩
 . by_cases q:F b=none
   . rcases s.vf b q n' with z|z;.exact(own' b z).imp id jb
     . by_cases ho:Own ρ₀ σ b;.exact .inl ho
       .right;cases q2:H₀ b with|none=>rfl|some o=>rw[s0.keep b o q2 ho]at z;exact z
   .exact s0.vf b n q
 . refine s.keep b o (s0.keep b o h n) fun z=>?_;rcases own' b z with z|z;.exact n z
   .rw[h]at z;cases z
 .obtain⟨e1,s2,h2,k2⟩:=s0.lk i s1 h l;refine⟨e1,_,V6 h2,?_⟩;have Su:=k2.qY l;refine jQ.trans l k2 ?_;cases s2 with
   |aU=>cases Su|fO _=>cases Su|cA _=>cases Su|hold _=>exact jQ.refl _|val b d=>exact jQ.refl _|lent es=>cases aW i as args' with|none=>rfl|some t=>cases t<;>rfl
   |own b es=>cases b with|false=>cases Su|true=>cases aW i as args' with|none=>exact .inl ⟨_,rfl⟩|some t=>cases t with|aU=>exact .inl ⟨_,rfl⟩|lent _=>exact .inl ⟨_,rfl⟩|fO _=>exact .inl ⟨_,rfl⟩|cA _=>exact .inl ⟨_,rfl⟩|hold _=>exact .inl ⟨_,rfl⟩|own _ ds=>exact .inl ⟨_,rfl⟩|val _ d=>exact .inr ⟨_,rfl⟩
theorem tK.rebase{F1 H1 F2 H2 F H:Hp}{ρ ρ1 ρ2:List Sl}{σ:L2.St}{as:List Arg}{vs:List V}(a:aq K F ρ σ H F1 ρ1 σ H1)(A:tK K F2 ρ2 σ H2 ρ1 H1 as vs):tK K F2 ρ2 σ H2 ρ H as vs:=by refine⟨A.len,fun j b v h1 h2=>?_,A.dis⟩;have h:=A.one j b v h1 h2;cases b with|dat d=>exact h|dX i=>exact h|tmp ds=>
   obtain⟨x,xs,q1,q2,q3,q4,q5,q6⟩:=h;refine⟨x,xs,q1,q2,q3,q4,q5,?_⟩;rcases q6 with q6|q6;.exact a.tE x q6
   . by_cases ho:Own ρ σ x;.exact .inl ho
     .right;cases e:H x with|none=>rfl|some o=>rw[a.keep x o e ho]at q6;cases q6
theorem tK.Vc{F1 H1 F2 H2 F H:Hp}{ρ ρ1 ρ2:List Sl}{σ:L2.St}{as:List Arg}{vs:List V}{v:V}{r:R}(s1:aq K F ρ σ H F1 ρ1 σ H1)(rr:bV K F1 ρ1 σ H1 ρ σ H v r)(s2:aq K F1 ρ1 σ H1 F2 ρ2 σ H2)(A:tK K F2 ρ2 σ H2 ρ1 H1 as vs):tK K F2 ρ2 σ H2 ρ H (uR r::as) (v::vs):=by
 have h1:vK K F1 ρ1 σ H1 ρ H v (uR r):=by cases r with|val d=>exact rr|own ds=>exact rr
 refine .cons (h1.later s2) (A.rebase s1) fun ds x ea ev k es ek evk=>?_;cases r with|val d=>cases ea|own ds'=>
   obtain⟨y,xs,q1,q2,q3,q4,q5,q6⟩:=rr;rw[ev]at q1;cases q1;have h:=A.one k _ _ ek evk;obtain⟨z,zs,w1,_,_,_,_,w6⟩:=h;cases w1;rcases w6 with w6|w6;.exact q5 w6
   .rw[q2]at w6;cases w6
end
section
variable{K:PySem.W.Frag}{F F1 H H1:Hp}{ρ ρ1 ρ2:List Sl}{σ σ1:L2.St}
theorem su{i:Nat}{s:Sl}(h:put ρ i s=some ρ1):∃s0,ρ[i]?=some s0/\qY s0=false/\ρ1=ρ.set i s:=by
 unfold put at h;split at h;.rename_i q;cases h;exact⟨_,q,rfl,rfl⟩
 .rename_i q;cases h;exact⟨_,q,rfl,rfl⟩
 .rename_i q;cases h;exact⟨_,q,rfl,rfl⟩
 .cases h
theorem aq.put{i:Nat}{v:V}{r:R}(s:aq K F ρ σ H F1 ρ1 σ1 H1)(rr:bV K F1 ρ1 σ1 H1 ρ σ H v r)(h:HH.put ρ1 i (v7 r)=some ρ2):aq K F ρ σ H F1 ρ2 (σ1.set i (some v)) H1:=by
 obtain⟨s0,h0,hl,rfl⟩:=su h;have hi:i<ρ1.length:=(List.getElem?_eq_some_iff.mp h0).1;have hi':i<σ1.length:=by rw[<-s.gs.len];exact hi
 have old:∀{j:Nat}{a:Addr},j≠i->aQ (ρ1.set i (v7 r)) (σ1.set i (some v)) j a->aQ ρ1 σ1 j a:=fun{j a}hj⟨⟨t,ds,e1,e2⟩,e3⟩=>by rw[getElem?_set_ne (Ne.symm hj)]at e1 e3;exact⟨⟨t,ds,e1,e2⟩,e3⟩
 have new:∀{a:Addr},aQ (ρ1.set i (v7 r)) (σ1.set i (some v)) i a->¬ Own ρ1 σ1 a/\(Own ρ σ a\/H a=none):=fun{a}⟨⟨t,ds,e1,e2⟩,e3⟩=>by rw[getElem?_set_self hi]at e1;rw[getElem?_set_self hi']at e3;cases e1;cases e3;cases r with|val d=>cases e2|own es=>obtain⟨x,xs,q1,q2,q3,q4,q5,q6⟩:=rr;cases q1;exact⟨q5,q6⟩
 refine⟨⟨s.gs.sub,by simp[s.gs.len],fun j b d e=>?_,fun j t ds e e'=>?_,fun j k a h1 h2=>?_⟩,s.bY,s.vf,s.keep,fun a⟨j,hj⟩=>?_,by simp[s.len],fun j t e l=>?_⟩
 . by_cases hj:j=i;.subst hj;rw[getElem?_set_self hi]at e;cases r with|own es=>cases e|val d'=>cases e;exact⟨v,getElem?_set_self hi',rr⟩
   .rw[getElem?_set_ne (Ne.symm hj)]at e ⊢;exact s.gs.val j b d e
 . by_cases hj:j=i;.subst hj;rw[getElem?_set_self hi]at e;cases r with|val d'=>cases e;cases e'|own es=>cases e;cases e';obtain⟨x,xs,rfl,q2,q3,q4,_⟩:=rr;exact⟨x,_,getElem?_set_self hi',q2,q3,xs,rfl,q4⟩
   .rw[getElem?_set_ne (Ne.symm hj)]at e ⊢;exact s.gs.own j t ds e e'
 . by_cases hj:j=i
   . by_cases hk:k=i;.rw[hj,hk]
     .subst hj;exact absurd ⟨k,old hk h2⟩ (new h1).1
   . by_cases hk:k=i;.subst hk;exact absurd ⟨j,old hj h1⟩ (new h2).1
     .exact s.gs.dis j k a (old hj h1) (old hk h2)
 . by_cases hji:j=i;.subst hji;exact(new hj).2
   .exact s.tE a ⟨j,old hji hj⟩
 . obtain⟨e1,t1,e2,e3⟩:=s.lk j t e l;have hj:j≠i:=by rintro rfl;rw[h0]at e2;cases e2;rw[e3.qY l]at hl;cases hl
   exact⟨by rw[getElem?_set_ne (Ne.symm hj)];exact e1,t1,by rw[getElem?_set_ne (Ne.symm hj)];exact e2,e3⟩
theorem GS.mut{x:Nat}{b:Bool}{ds es:List D}{a:Addr}{ys:List V}(g:GS K F ρ σ H)(e:ρ[x]?=some (.own b ds))(hx:σ[x]?=some (some (.ref a)))(r:aF K F ys es):aq K F ρ σ H F (ρ.set x (.own b es)) σ (upd H a (.lst ys)):=by
 have hi:x<ρ.length:=(List.getElem?_eq_some_iff.mp e).1;have oa:aQ ρ σ x a:=⟨⟨_,_,e,rfl⟩,hx⟩;obtain⟨a',xs,h1,h2,h3,h4⟩:=g.oU x _ ds e rfl;rw[hx]at h1;cases h1;have old:∀{j:Nat}{c:Addr},aQ (ρ.set x (.own b es)) σ j c->aQ ρ σ j c:=fun{j c}⟨⟨t,dt,q1,q2⟩,q3⟩=>by
  by_cases hj:j=x;.subst hj;exact⟨⟨_,_,e,rfl⟩,q3⟩
  .rw[getElem?_set_ne (Ne.symm hj)]at q1;exact⟨⟨t,dt,q1,q2⟩,q3⟩
 refine⟨⟨fun c o q=>?_,by simp[g.len],fun j b' d q=>?_,fun j t dt q q'=>?_,fun j k c q1 q2=>g.dis j k c (old q1) (old q2)⟩,.refl _,fun c n n'=>absurd n n',fun c o q n=>?_,fun c⟨j,q⟩=>.inl ⟨j,old q⟩,by simp,fun j t q l=>⟨rfl,?_⟩⟩
 . have:c≠a:=by rintro rfl;rw[h3]at q;cases q
   rw[az this];exact g.sub c o q
 . by_cases hj:j=x;.subst hj;rw[getElem?_set_self hi]at q;cases q
   .rw[getElem?_set_ne (Ne.symm hj)]at q;exact g.val j b' d q
 . by_cases hj:j=x;.subst hj;rw[getElem?_set_self hi]at q;cases q;cases q';exact⟨a,_,hx,aJ,h3,ys,rfl,r⟩
   . rw[getElem?_set_ne (Ne.symm hj)]at q;obtain⟨c,zs,w1,w2,w3,w4⟩:=g.own j t dt q q';have:c≠a:=by rintro rfl;exact hj (g.dis j x c ⟨⟨t,dt,q,q'⟩,w1⟩ oa)
     exact⟨c,zs,w1,by rw[az this];exact w2,w3,w4⟩
 . have:c≠a:=by rintro rfl;exact n ⟨x,oa⟩
   rw[az this];exact q
 . by_cases hj:j=x;.subst hj;rw[e]at q;cases q;refine⟨_,getElem?_set_self hi,?_⟩;cases b with|true=>exact .inl ⟨_,rfl⟩|false=>cases l
   .exact⟨t,by rw[getElem?_set_ne (Ne.symm hj)];exact q,.refl t⟩
theorem GS.lend{i:Nat}{b:Bool}{ds:List D}(g:GS K F ρ σ H)(e:ρ[i]?=some (.own b ds)):GS K F (ρ.set i (.lent ds)) σ H:=by
 have hi:i<ρ.length:=(List.getElem?_eq_some_iff.mp e).1;have old:∀{j:Nat}{c:Addr},aQ (ρ.set i (.lent ds)) σ j c->aQ ρ σ j c:=fun{j c}⟨⟨t,dt,q1,q2⟩,q3⟩=>by
  by_cases hj:j=i;.subst hj;exact⟨⟨_,_,e,rfl⟩,q3⟩
  .rw[getElem?_set_ne (Ne.symm hj)]at q1;exact⟨⟨t,dt,q1,q2⟩,q3⟩
 refine⟨g.sub,by simp[g.len],fun j b' d q=>?_,fun j t dt q q'=>?_,fun j k c q1 q2=>g.dis j k c (old q1) (old q2)⟩
 . by_cases hj:j=i;.subst hj;rw[getElem?_set_self hi]at q;cases q
   .rw[getElem?_set_ne (Ne.symm hj)]at q;exact g.val j b' d q
 . by_cases hj:j=i;.subst hj;rw[getElem?_set_self hi]at q;cases q;cases q';exact g.own j _ _ e rfl
   .rw[getElem?_set_ne (Ne.symm hj)]at q;exact g.own j t dt q q'
theorem aq.bh{i:Nat}{b:Bool}{ds:List D}(g:GS K F ρ σ H)(e:ρ[i]?=some (.own b ds))(s:aq K F (ρ.set i (.lent ds)) σ H F1 ρ1 σ1 H1):aq K F ρ σ H F1 (ρ1.set i (.own b ds)) σ1 H1/\∀v r,bV K F1 ρ1 σ1 H1 (ρ.set i (.lent ds)) σ H v r->bV K F1 (ρ1.set i (.own b ds)) σ1 H1 ρ σ H v r:=by
 have hi:i<ρ.length:=(List.getElem?_eq_some_iff.mp e).1;have h1:(ρ.set i (.lent ds))[i]?=some (.lent ds):=getElem?_set_self hi;obtain⟨z1,s',z2,z3⟩:=s.lk i _ h1 rfl;cases(show s'=.lent ds from z3);have hi1:i<ρ1.length:=(List.getElem?_eq_some_iff.mp z2).1;have o1:∀{j:Nat}{c:Addr},aQ (ρ.set i (.lent ds)) σ j c->aQ ρ σ j c:=fun{j c}⟨⟨t,dt,q1,q2⟩,q3⟩=>by
  by_cases hj:j=i;.subst hj;exact⟨⟨_,_,e,rfl⟩,q3⟩
  .rw[getElem?_set_ne (Ne.symm hj)]at q1;exact⟨⟨t,dt,q1,q2⟩,q3⟩
 have o1':∀{c:Addr},Own ρ σ c->Own (ρ.set i (.lent ds)) σ c:=fun{c}⟨j,⟨t,dt,q1,q2⟩,q3⟩=>by
  by_cases hj:j=i;.subst hj;exact⟨j,⟨_,_,h1,rfl⟩,q3⟩
  .exact⟨j,⟨t,dt,by rw[getElem?_set_ne (Ne.symm hj)];exact q1,q2⟩,q3⟩
 have o2:∀{j:Nat}{c:Addr},aQ (ρ1.set i (.own b ds)) σ1 j c->aQ ρ1 σ1 j c:=fun{j c}⟨⟨t,dt,q1,q2⟩,q3⟩=>by
  by_cases hj:j=i;.subst hj;exact⟨⟨_,_,z2,rfl⟩,q3⟩
  .rw[getElem?_set_ne (Ne.symm hj)]at q1;exact⟨⟨t,dt,q1,q2⟩,q3⟩
 have w:∀{c:Addr}{h:Hp},Own (ρ.set i (.lent ds)) σ c\/h c=none->Own ρ σ c\/h c=none:=fun{c h}q=>q.imp (fun⟨j,q⟩=>⟨j,o1 q⟩) id;have w':∀{c:Addr}{h:Hp},Own (ρ.set i (.lent ds)) σ c\/nt (h c)=none->Own ρ σ c\/nt (h c)=none:=fun{c h}q=>q.imp (fun⟨j,q⟩=>⟨j,o1 q⟩) id;refine⟨⟨⟨s.gs.sub,by simp[s.gs.len],fun j b' d q=>?_,fun j t dt q q'=>?_,fun j k c q1 q2=>s.gs.dis j k c (o2 q1) (o2 q2)⟩,s.bY,fun c n n'=>w' (s.vf c n n'),fun c o q n=>s.keep c o q fun⟨j,x⟩=>n ⟨j,o1 x⟩,fun c⟨j,q⟩=>w (s.tE c ⟨j,o2 q⟩),by simpa using s.len,fun j t q l=>?_⟩,fun v r h=>?_⟩
 . by_cases hj:j=i;.subst hj;rw[getElem?_set_self hi1]at q;cases q
   .rw[getElem?_set_ne (Ne.symm hj)]at q;exact s.gs.val j b' d q
 . by_cases hj:j=i;.subst hj;rw[getElem?_set_self hi1]at q;cases q;cases q';exact s.gs.own j _ _ z2 rfl
   .rw[getElem?_set_ne (Ne.symm hj)]at q;exact s.gs.own j t dt q q'
 . by_cases hj:j=i;.subst hj;rw[e]at q;cases q;refine⟨z1,_,getElem?_set_self hi1,?_⟩;cases b with|true=>exact .inl ⟨_,rfl⟩|false=>cases l
   .obtain⟨y1,t',y2,y3⟩:=s.lk j t (by rw[getElem?_set_ne (Ne.symm hj)];exact q) l;exact⟨y1,t',by rw[getElem?_set_ne (Ne.symm hj)];exact y2,y3⟩
 .cases r with|val d=>exact h|own es=>obtain⟨x,xs,q1,q2,q3,q4,q5,q6⟩:=h;exact⟨x,xs,q1,q2,q3,q4,fun⟨j,q⟩=>q5 ⟨j,o2 q⟩,w q6⟩
theorem GS.give{i:Nat}{ds:List D}(g:GS K F ρ σ H)(e:ρ[i]?=some (.own false ds)):∃v,σ[i]?=some (some v)/\aq K F ρ σ H F (ρ.set i .aU) σ H/\bV K F (ρ.set i .aU) σ H ρ σ H v (.own ds):=by
 have hi:i<ρ.length:=(List.getElem?_eq_some_iff.mp e).1;obtain⟨a,xs,h1,h2,h3,h4⟩:=g.oU i _ ds e rfl;have old:∀{j:Nat}{c:Addr},aQ (ρ.set i .aU) σ j c->aQ ρ σ j c/\j≠i:=fun{j c}⟨⟨t,dt,q1,q2⟩,q3⟩=>by
  by_cases hj:j=i;.subst hj;rw[getElem?_set_self hi]at q1;cases q1;cases q2
  .rw[getElem?_set_ne (Ne.symm hj)]at q1;exact⟨⟨⟨t,dt,q1,q2⟩,q3⟩,hj⟩
 have oa:aQ ρ σ i a:=⟨⟨_,_,e,rfl⟩,h1⟩;refine⟨.ref a,h1,⟨⟨g.sub,by simp[g.len],fun j b' d q=>?_,fun j t dt q q'=>?_,fun j k c q1 q2=>g.dis j k c (old q1).1 (old q2).1⟩,.refl _,fun c n n'=>absurd n n',fun _ _ q _=>q,fun c⟨j,q⟩=>.inl ⟨j,(old q).1⟩,by simp,fun j t q l=>⟨rfl,?_⟩⟩,a,xs,rfl,h2,h3,h4,fun⟨j,q⟩=>?_,.inl ⟨i,oa⟩⟩
 . by_cases hj:j=i;.subst hj;rw[getElem?_set_self hi]at q;cases q
   .rw[getElem?_set_ne (Ne.symm hj)]at q;exact g.val j b' d q
 . by_cases hj:j=i;.subst hj;rw[getElem?_set_self hi]at q;cases q;cases q'
   .rw[getElem?_set_ne (Ne.symm hj)]at q;exact g.own j t dt q q'
 . by_cases hj:j=i;.subst hj;rw[e]at q;cases q;cases l
   .exact⟨t,by rw[getElem?_set_ne (Ne.symm hj)];exact q,.refl t⟩
 .exact(old q).2 (g.dis j i a (old q).1 oa)
theorem GS.more{n:Nat}{τ:List (Option V)}(g:GS K F ρ σ H)(hn:τ.length=n):GS K F (ρ++replicate n .aU) (σ++τ) H:=by
 have get:∀{j:Nat}{t:Sl},(ρ++replicate n Sl.aU)[j]?=some t->t≠.aU->ρ[j]?=some t/\j<ρ.length:=fun{j t}q ne=>by
  by_cases hj:j<ρ.length;.rw[getElem?_append_left hj]at q;exact⟨q,hj⟩
  . rw[getElem?_append_right (by omega),List.getElem?_replicate]at q;split at q;.cases q;exact absurd rfl ne
    .cases q
 have up:∀{j:Nat}{v:Option V},j<ρ.length->(σ[j]?=some v↔(σ++τ)[j]?=some v):=fun{j v}hj=>by rw[getElem?_append_left (by rw[<-g.len];exact hj)]
 have old:∀{j:Nat}{c:Addr},aQ (ρ++replicate n .aU) (σ++τ) j c->aQ ρ σ j c:=fun{j c}⟨⟨t,dt,q1,q2⟩,q3⟩=>by obtain⟨h1,h2⟩:=get q1 (by rintro rfl;cases q2);exact⟨⟨t,dt,h1,q2⟩,(up h2).mpr q3⟩
 refine⟨g.sub,by simp[g.len,hn],fun j b d q=>?_,fun j t dt q q'=>?_,fun j k c q1 q2=>g.dis j k c (old q1) (old q2)⟩;.obtain⟨h1,h2⟩:=get q (by simp);obtain⟨v,e1,e2⟩:=g.val j b d h1;exact⟨v,(up h2).mp e1,e2⟩
 .obtain⟨h1,h2⟩:=get q (by rintro rfl;cases q');obtain⟨a,xs,e1,e2⟩:=g.own j t dt h1 q';exact⟨a,xs,(up h2).mp e1,e2⟩
theorem aq.less{n:Nat}{τ:List (Option V)}{m:Nat}(hm:m=ρ.length)(g:GS K F ρ σ H)(hn:τ.length=n)(s:aq K F (ρ++replicate n .aU) (σ++τ) H F1 ρ1 σ1 H1):aq K F ρ σ H F1 (ρ1.take m) (σ1.take m) H1/\∀v r,bV K F1 ρ1 σ1 H1 (ρ++replicate n .aU) (σ++τ) H v r->bV K F1 (ρ1.take m) (σ1.take m) H1 ρ σ H v r:=by
 subst hm;have l1:ρ.length<=ρ1.length:=by rw[s.len];simp
 have l2:ρ.length<=σ1.length:=by rw[<-s.gs.len];exact l1
 have tk:∀{α:Type}{l:List α}{j:Nat}{x:α},(l.take ρ.length)[j]?=some x->l[j]?=some x/\j<ρ.length:=fun{α l j x}q=>by
  rw[List.getElem?_take]at q;split at q;.exact⟨q,by assumption⟩
  .cases q
 have kt:∀{α:Type}{l:List α}{j:Nat}{x:α},j<ρ.length->l[j]?=some x->(l.take ρ.length)[j]?=some x:=fun{α l j x}hj q=>by rw[List.getElem?_take,if_pos hj];exact q
 have oN:∀{c:Addr},Own (ρ++replicate n .aU) (σ++τ) c->Own ρ σ c:=fun{c}⟨j,⟨t,dt,q1,q2⟩,q3⟩=>by
  by_cases hj:j<ρ.length;.rw[getElem?_append_left hj]at q1;rw[getElem?_append_left (by rw[<-g.len];exact hj)]at q3;exact⟨j,⟨t,dt,q1,q2⟩,q3⟩
  . rw[getElem?_append_right (by omega),List.getElem?_replicate]at q1;split at q1;.cases q1;cases q2
    .cases q1
 have oN':∀{c:Addr},Own ρ σ c->Own (ρ++replicate n .aU) (σ++τ) c:=fun{c}⟨j,⟨t,dt,q1,q2⟩,q3⟩=>by have hj:j<ρ.length:=(List.getElem?_eq_some_iff.mp q1).1;exact⟨j,⟨t,dt,by rw[getElem?_append_left hj];exact q1,q2⟩,by rw[getElem?_append_left (by rw[<-g.len];exact hj)];exact q3⟩
 have o1:∀{j:Nat}{c:Addr},aQ (ρ1.take ρ.length) (σ1.take ρ.length) j c->aQ ρ1 σ1 j c:=fun{j c}⟨⟨t,dt,q1,q2⟩,q3⟩=>⟨⟨t,dt,(tk q1).1,q2⟩,(tk q3).1⟩;have w:∀{c:Addr}{h:Hp},Own (ρ++replicate n .aU) (σ++τ) c\/h c=none->Own ρ σ c\/h c=none:=fun{c h}q=>q.imp oN id;have w':∀{c:Addr}{h:Hp},Own (ρ++replicate n .aU) (σ++τ) c\/nt (h c)=none->Own ρ σ c\/nt (h c)=none:=fun{c h}q=>q.imp oN id;refine⟨⟨⟨s.gs.sub,by simp only[length_take];omega,fun j b d q=>?_,fun j t dt q q'=>?_,fun j k c q1 q2=>s.gs.dis j k c (o1 q1) (o1 q2)⟩,s.bY,fun c a b=>w' (s.vf c a b),fun c o q n=>s.keep c o q fun x=>n (oN x),fun c⟨j,q⟩=>w (s.tE c ⟨j,o1 q⟩),by simp only[length_take];omega,fun j t q l=>?_⟩,fun v r h=>?_⟩;.obtain⟨h1,h2⟩:=tk q;obtain⟨v,e1,e2⟩:=s.gs.val j b d h1;exact⟨v,kt h2 e1,e2⟩
 .obtain⟨h1,h2⟩:=tk q;obtain⟨a,xs,e1,e2⟩:=s.gs.own j t dt h1 q';exact⟨a,xs,kt h2 e1,e2⟩
 .have hj:j<ρ.length:=(List.getElem?_eq_some_iff.mp q).1;obtain⟨y1,t',y2,y3⟩:=s.lk j t (by rw[getElem?_append_left hj];exact q) l;rw[getElem?_append_left (by rw[<-g.len];exact hj)]at y1;refine⟨?_,t',kt hj y2,y3⟩;rw[List.getElem?_take,if_pos hj];exact y1
 .cases r with|val d=>exact h|own es=>obtain⟨x,xs,q1,q2,q3,q4,q5,q6⟩:=h;exact⟨x,xs,q1,q2,q3,q4,fun⟨j,q⟩=>q5 ⟨j,o1 q⟩,w q6⟩
end
section
variable{X:Cx}{c:Call}{n:Nat}{e a b d:Expr}{p pa pb pd:P}{pos:Pos}{es:List Expr}{ps:List P}
inductive aaT(K:PySem.W.Frag)(f:List Sl->Res (List Arg))(σ:L2.St)(H:Hp)(Q:List V->Hp->Prop):Prop where|mk(F:Hp)(ρ:List Sl)(as:List Arg)(ρ':List Sl)(g:GS K F ρ σ H)(e:f ρ=.ok as ρ')(k:∀vs F' H',aq K F ρ σ H F' ρ' σ H'->tK K F' ρ' σ H' ρ H as vs->Q vs H')
def SG(X:Cx)(c:Call)(es:List Expr)(ps:List P):Prop:=PA X es (aaT X.K (vz c ps))
theorem aC:SG X c [] []:=tM fB fun σ H Q⟨F,ρ,as,ρ',g,e,k⟩=>by rw[vz]at e;cases e;exact k [] F H (.refl g) .nil
theorem Jp(ha:SX X c a pa)(hr:SG X c es ps)(hs:starEach (a::es) X.env=(false,eval a X.env)::starEach es X.env:=by rfl):SG X c (a::es) (pa::ps):=by cases hv:isVar pa with|none=>refine tM (cV ha.ev hr hs) ?_;rintro σ H Q⟨F,ρ,as,ρ',g,e,k⟩;rw[vz,hv]at e;obtain⟨r,ρ1,e1,e⟩:=aa e;obtain⟨xs,ρ2,e2,e⟩:=aa e;cases e;refine⟨F,ρ,r,ρ1,g,e1,fun v F1 H1 s1 rr=>⟨F1,ρ1,xs,_,s1.gs,e2,fun vs F2 H2 s2 A=>k _ F2 H2 (s1.trans s2) (tK.Vc s1 rr s2 A)⟩⟩|some i=>refine tM (cV (ha.var i hv) hr hs) ?_;rintro σ H Q⟨F,ρ,as,ρ',g,e,k⟩;rw[vz,hv]at e;obtain⟨x0,ρ0,e0,e⟩:=aa e;obtain⟨e00,xn⟩:=aG e0;subst xn;obtain⟨xs,ρ2,e2,e⟩:=aa e;cases e;obtain⟨v,h1,_⟩:=g.pk e00;exact⟨v,h1,F,ρ,xs,_,g,e2,fun vs F2 H2 s2 A=>k _ F2 H2 s2 (.cons h1 A fun ds x z=>by cases z)⟩
theorem G5{k f:Nat}{fa:Addr}{fd:FuncData}{qs:List Str}{x:Str}{p':Pos}(Fn:bJ X.prog X.w X.K X.mg X.base gf k fa fd qs (gD X.K qs.length (c f)))(hr:iB k X.A)(hg:Gl X x)(hm:X.mg x=some (.ref fa))(hk:keepIn X.K (.ref fa)=true)(hb:Binds X.K fd qs [])(ha:SG X c (e::es) ps)(hl:(e::es).length=qs.length)(hdb:(x==("__debug__":Str))=false:=by decide)(he:starEach (e::es) X.env=(false,eval e X.env)::starEach es X.env:=by rfl)(hpl:(backTo pos (starEach es X.env)).any (·.1)=false:=by rfl)(hl2:ps.length=(e::es).length:=by rfl):SX X c (.Call (.Name x p') (e::es) [] pos) (.call f ps):=by
 refine⟨fJ (HF (E:=E0) Fn hr hg hm hk hb .nil T9 ha hdb he hpl) ?_,fun i h=>by cases h⟩;rintro σ H Q⟨F,ρ,r,ρ',g,e,k⟩;rw[HH.E14]at e;obtain⟨as,ρ1,e1,e⟩:=aa e;unfold oX at e;split at e;.cases e
 . rename_i args hb';split at e
   . rename_i r' args' hc;cases e;refine⟨F,ρ,as,ρ1,g,e1,fun vs F1 H1 s1 A=>?_⟩;have hlen:vs.length=qs.length:=by
      have:∀{ps:List P}{ρ ρ':List Sl}{as:List Arg},vz c ps ρ=.ok as ρ'->as.length=ps.length:=by intro ps;induction ps with|nil=>intro ρ ρ' as h;rw[vz]at h;cases h;rfl|cons q qs ih=>
         intro ρ ρ' as h;rw[vz]at h;split at h;.obtain⟨_,_,_,h⟩:=aa h;obtain⟨xs,ρ2,h2,h⟩:=aa h;cases h;simp[ih h2]
         .obtain⟨_,_,_,h⟩:=aa h;obtain⟨xs,ρ2,h2,h⟩:=aa h;cases h;simp[ih h2]
      rw[<-A.len,this e1,hl2,hl]
     show gD X.K qs.length (c f) (vs++[]) H1 Q E0;rw[append_nil];refine⟨hlen,F1,args,r,args',args_gs s1.gs A hb',hc,fun v F' σ' H' s rr=>?_⟩;obtain⟨z1,z2⟩:=Fx s1 A hb' s;exact k v F' H' z1 (z2 v r rr)
   .cases e
   .cases e
def Dq(K:PySem.W.Frag)(D:Ends)(F':Hp)(ρ':List Sl)(σ':L2.St)(H':Hp)(ρ:List Sl)(σ:L2.St)(H:Hp)(fl:Fl):Prop:=match fl with|.next=>D.nx σ' H'|.brk=>D.bk σ' H'|.cont=>D.ct σ' H'|.ret r=>∀v,bV K F' ρ' σ' H' ρ σ H v r->D.rt v H'
inductive W5(K:PySem.W.Frag)(f:List Sl->Res Fl)(D:Ends)(σ:L2.St)(H:Hp):Prop where|mk(F:Hp)(ρ:List Sl)(fl:Fl)(ρ':List Sl)(g:GS K F ρ σ H)(e:f ρ=.ok fl ρ')(k:∀F' σ' H',aq K F ρ σ H F' ρ' σ' H'->Dq K D F' ρ' σ' H' ρ σ H fl)
def SS(X:Cx)(c:Call)(n:Nat)(st:Stmt)(s:S):Prop:=PS X st (W5 X.K (ex c n s))
def SB(X:Cx)(c:Call)(n:Nat)(st:List Stmt)(s:List S):Prop:=uf X st (W5 X.K (gH c n s))
theorem dB{st:Stmt}{t t':TS}(h:PS X st t)(i:∀D σ H,t' D σ H->t D σ H):PS X st t':=fun pins s σ H D I q=>h pins s σ H D I (i D σ H q)
theorem lE{st:List Stmt}{t t':TS}(h:uf X st t)(i:∀D σ H,t' D σ H->t D σ H):uf X st t':=fun pins s σ H D I q=>h pins s σ H D I (i D σ H q)
theorem xs0{c:Call}{n:Nat}{ρ:List Sl}:gH c n [] ρ=.ok .next ρ:=rfl
theorem Lh{c:Call}{n:Nat}{s:S}{r:List S}{ρ:List Sl}:gH c n (s::r) ρ=(ex c n s ρ).bind fun fl ρ=>match fl with|.next=>gH c n r ρ|fl=>.ok fl ρ:=rfl
theorem aB:SB X c n [] []:=lE yJ fun D σ H⟨F,ρ,fl,ρ',g,e,k⟩=>by rw[xs0]at e;cases e;exact k F σ H (.refl g)
theorem aO{st:Stmt}{s:S}{sts:List Stmt}{ss:List S}(h1:SS X c n st s)(h2:SB X c n sts ss):SB X c n (st::sts) (s::ss):=by refine lE (kJ h1 h2) ?_;rintro D σ H⟨F,ρ,fl,ρ',g,e,k⟩;rw[Lh]at e;obtain⟨f1,ρ1,e1,e⟩:=aa e;cases f1 with
 |next=>refine⟨F,ρ,.next,ρ1,g,e1,fun F1 σ1 H1 s1=>⟨F1,ρ1,fl,ρ',s1.gs,e,fun F2 σ2 H2 s2=>?_⟩⟩;have q:=k F2 σ2 H2 (s1.trans s2);cases fl with|next=>exact q|brk=>exact q|cont=>exact q|ret r=>exact fun v rr=>q v (rr.later s1)
 |brk=>cases e;exact⟨F,ρ,.brk,_,g,e1,k⟩|cont=>cases e;exact⟨F,ρ,.cont,_,g,e1,k⟩|ret r=>cases e;exact⟨F,ρ,.ret r,_,g,e1,k⟩
theorem Nx{st:Stmt}:SS X c n st .bad:=dB Ek fun D σ H⟨F,ρ,fl,ρ',g,e,k⟩=>by rw[HH.X4]at e;cases e
theorem Th{t1 t2:TE}(h1:PE X e t1)(h2:PE X e t2):PE X e (fun σ H Q=>t1 σ H Q\/t2 σ H Q):=fun pins s σ H Q I h=>h.elim (h1 pins s σ H Q I) (h2 pins s σ H Q I)
theorem Py(he:SX X c e p):SS X c n (.Return (some e) pos) (.ret p):=by
 have plain:∀(D:Ends)(σ:L2.St)(H:Hp),(∃F ρ fl ρ',GS X.K F ρ σ H/\((HH.ev c p ρ).bind fun r ρ=>.ok (Fl.ret r) ρ)=.ok fl ρ'/\∀F' σ' H',aq X.K F ρ σ H F' ρ' σ' H'->(match fl with|.next=>D.nx σ' H'|.brk=>D.bk σ' H'|.cont=>D.ct σ' H'|.ret r=>∀v,bV X.K F' ρ' σ' H' ρ σ H v r->D.rt v H'))->yE X.K (HH.ev c p) σ H D.rt:=fun D σ H⟨F,ρ,fl,ρ',g,e,k⟩=>by obtain⟨r,ρ1,e1,e⟩:=aa e;cases e;exact⟨F,ρ,r,_,g,e1,fun v F1 H1 s1 rr=>k F1 σ H1 s1 v rr⟩
 cases hv:isVar p with|none=>refine dB (Fg he.ev) fun D σ H⟨F,ρ,fl,ρ',g,e,k⟩=>plain D σ H ⟨F,ρ,fl,ρ',g,?_,k⟩;rw[HH.X9,hv]at e;exact e|some i=>--by the name itself:its own list is handed back,else its data
   have hp:p=.var i:=by cases p<;>cases hv;rfl
   subst hp;refine dB (Fg (Th (he.var i hv) he.ev)) ?_;rintro D σ H⟨F,ρ,fl,ρ',g,e,k⟩;rw[HH.X9,hv]at e;dsimp only at e;split at e;.rename_i ds q;cases e;obtain⟨v,h1,h2,h3⟩:=g.give q;exact .inl ⟨v,h1,k F σ H h2 v h3⟩
   .exact .inr (plain D σ H ⟨F,ρ,fl,ρ',g,e,k⟩)
theorem mC{sa sb:List Stmt}{ta tb:List S}(hc:ST X c e p)(ha:SB X c n sa ta)(hb:SB X c n sb tb):SS X c n (.If e sa sb pos) (.ifs p ta tb):=by refine dB (J3 hc ha hb) ?_;rintro D σ H⟨F,ρ,fl,ρ',g,e,k⟩;rw[HH.W7]at e;obtain⟨x,ρ1,e1,e⟩:=aa e;refine⟨F,ρ,x,ρ1,g,e1,fun F1 H1 s1=>?_⟩;have go:∀{f:List Sl->Res Fl},f ρ1=.ok fl ρ'->W5 X.K f D σ H1:=fun{f}h=>⟨F1,ρ1,fl,ρ',s1.gs,h,fun F2 σ2 H2 s2=>by have q:=k F2 σ2 H2 (s1.trans s2);cases fl with|next=>exact q|brk=>exact q|cont=>exact q|ret r=>exact fun v rr=>q v (rr.later s1)⟩;cases x with|true=>rw[if_pos rfl]at e;exact go e|false=>rw[if_neg Bool.false_ne_true]at e;exact go e
theorem rC{i:Nat}{x:Str}{pos':Pos}(hN:X.N.Nodup)(hi:X.N[i]?=some x)(hx:Loc X.env.scope x)(he:SX X c e p)(hs:swapsWith e (some (.Name x pos')) pos.line X.env=pure false:=by rfl)(hf:X.fn x=true\/X.env.scope.names.lookup x=some .local:=by first|exact .inl rfl|exact .inr rfl|assumption):SS X c n (.Assign [.Name x pos'] e pos) (.asg i p):=by refine dB (vQ hN hi hx he.ev hs hf) ?_;rintro D σ H⟨F,ρ,fl,ρ',g,e,k⟩;rw[HH.X6]at e;obtain⟨r,ρ1,e1,e⟩:=aa e;obtain⟨ρ2,ρ3,e2,e⟩:=aa e;cases e;have zz:=aG e2;clear e2;obtain⟨e2,e3⟩:=zz;exact⟨F,ρ,r,ρ1,g,e1,fun v F1 H1 s1 rr=>k F1 _ H1 (s1.put rr e2)⟩
end
end HH
end
section
namespace L2
open PySem PySem.Spec PyProof.Rows
noncomputable def qe(X:Cx)(scope:Scope)(N':List Str)(cl:List (Str×Addr))(C:Addr)(s₀:Shared)(H₀:Hp)(ex:List Addr):Cx:={X with N:=N',s₀:=s₀,H₀:=H₀,env:=compEnvC scope cl C X.env,outer:=X.stack,stack:=X.stack,ex:=ex,fn:=fun x=>scope.names.lookup x==some .cell,pn:=[],xe:=fun _ _=>False}
theorem vN{env:Env}(l:List (Str×NameKind)):∀(cs:List (Str×Addr)),(∀n,(n,NameKind.free)∈l->∃c,env.cells.lookup n=some c)->(∀n c,cs.lookup n=some c->env.cells.lookup n=some c)->∃ cl,(forIn l cs (fun(x:Str × NameKind)(r:List (Str × Addr))=>(if(x.2==NameKind.free)=true then(do let a<-cellOf env x.1;pure (ForInStep.yield ((x.1,a)::r)))else pure (ForInStep.yield r):Sem (ForInStep (List (Str × Addr))))):Sem (List (Str × Addr)))=pure cl/\(∀n c,cl.lookup n=some c->env.cells.lookup n=some c)/\(∀n,((n,NameKind.free)∈l\/(cs.lookup n).isSome)->(cl.lookup n).isSome):=by induction l with|nil=>intro cs _ h;exact⟨cs,rfl,h,fun n hn=>by rcases hn with hn|hn;cases hn;exact hn⟩|cons y l ih=>
   obtain⟨n,k⟩:=y;intro cs hl hc;rw[List.forIn_cons];by_cases hk:k=.free
   . subst hk;obtain⟨a,ha⟩:=hl n mem_cons_self;obtain⟨cl,e,h1,h2⟩:=ih ((n,a)::cs) (fun m hm=>hl m (mem_cons_of_mem _ hm)) fun m c hm=>by
      rw[lookup_cons]at hm;split at hm;.rename_i q;have q:=eq_of_beq q;subst q;cases hm;exact ha
      .exact hc m c hm
     refine⟨cl,?_,h1,fun m hm=>h2 m ?_⟩
     . rw[<-e];have:cellOf env n=pure a:=by unfold cellOf;rw[ha]
       simp only[beq_self_eq_true,if_true,this];rfl
     . rcases hm with hm|hm
       . rcases mem_cons.mp hm with hm|hm;.cases hm;right;simp[lookup_cons]
         .exact .inl hm
       . right;rw[lookup_cons];split;.rfl
         .exact hm
   . obtain⟨cl,e,h1,h2⟩:=ih cs (fun m hm=>hl m (mem_cons_of_mem _ hm)) hc;refine⟨cl,?_,h1,fun m hm=>h2 m ?_⟩
     . rw[<-e];have:(k==NameKind.free)=false:=by simpa using hk
       simp only[this,false_eq_true,if_false];rfl
     . rcases hm with hm|hm
       . rcases mem_cons.mp hm with hm|hm;.cases hm;exact absurd rfl hk
         .exact .inl hm
       .exact .inr hm
theorem v8{env:Env}{scope:Scope}(hl:∀n,(n,NameKind.free)∈scope.names->∃c,env.cells.lookup n=some c):∃cl,closureFor scope env=pure cl/\(∀n c,cl.lookup n=some c->env.cells.lookup n=some c)/\∀n,(n,NameKind.free)∈scope.names->(cl.lookup n).isSome:=by obtain⟨cl,e,h1,h2⟩:=vN (env:=env) scope.names [] hl (by simp);refine⟨cl,?_,h1,fun n hn=>h2 n (.inl hn)⟩;unfold closureFor;exact(congrArg (fun t=>t>>=fun r=>pure r) e).trans rfl
theorem dC{env:Env}:∀(names:List (Str×NameKind))(x:Str),(names.map fun(n,k)=>if(k==NameKind.free&&env.scope.kind==.function&&env.kindOf n==some .cell)then(n,NameKind.cell)else(n,k)).lookup x=(names.lookup x).map fun k=>if(k==NameKind.free&&env.scope.kind==.function&&env.kindOf x==some .cell)=true then NameKind.cell else k
 |[],x=>rfl|(n,k)::r,x=>by
   have ih:=dC (env:=env) r x;show List.lookup x ((if(k==NameKind.free&&env.scope.kind==.function&&env.kindOf n==some .cell)=true then(n,NameKind.cell)else(n,k))::_)=_;by_cases hc:(k==NameKind.free&&env.scope.kind==.function&&env.kindOf n==some .cell)=true;.rw[if_pos hc,lookup_cons,lookup_cons];cases hx:x==n with|true=>have:=eq_of_beq hx;subst this;show some NameKind.cell=some (if _ then _ else _);rw[if_pos hc]|false=>exact ih
   .rw[if_neg hc,lookup_cons,lookup_cons];cases hx:x==n with|true=>have:=eq_of_beq hx;subst this;show some k=some (if _ then _ else _);rw[if_neg hc]|false=>exact ih
noncomputable def Um(N N':List Str)(sc:Scope):Bool:=(N.zip N').all fun p=>(p.1==p.2&&sc.names.lookup p.2==some .free)||(sc.names.lookup p.2!=some .local&&sc.names.lookup p.2!=some .cell&&sc.names.lookup p.2!=some .free)
structure eN(X:Cx)(scope:Scope)(N':List Str)(n:Nat):Prop where
 kind:scope.kind=.function
 cons:∀y∈scope.names,scope.names.lookup y.1=some y.2
 names:∀y∈scope.names,y.2=.local->scope.names.lookup y.1=some .local
 cap:∀y∈scope.names,y.2=.free->X.env.scope.names.lookup y.1=some .cell\/X.env.scope.names.lookup y.1=some .free
 len:N'.length=X.N.length+n
 same:Um X.N N' scope=true
theorem eN.get{X:Cx}{scope:Scope}{N':List Str}{n:Nat}(c:eN X scope N' n){i:Nat}{x:Str}(hi:i<X.N.length)(h:N'[i]?=some x)(hv:tu (relabel scope X.env) x):X.N[i]?=some x/\scope.names.lookup x=some .free:=by
 have hz:(X.N.zip N')[i]?=some (X.N[i],x):=by rw[List.getElem?_zip_eq_some];exact⟨by simp[hi],h⟩
 have:=(all_eq_true.mp c.same) _ (mem_of_getElem? hz);simp only[or_eq_true,and_eq_true]at this;rcases this with⟨h1,h2⟩|⟨⟨h1,h2⟩,h3⟩;.have h1:=eq_of_beq h1;have h2:=eq_of_beq h2;exact⟨by simp[hi,h1],h2⟩
 . exfalso;have h1:scope.names.lookup x≠some .local:=by simpa using h1
   have h2:scope.names.lookup x≠some .cell:=by simpa using h2
   have h3:scope.names.lookup x≠some .free:=by simpa using h3
   have e:=dC (env:=X.env) scope.names x;have hv:(relabel scope X.env).names.lookup x=some .local\/(relabel scope X.env).names.lookup x=some .cell\/(relabel scope X.env).names.lookup x=some .free:=hv;rw[show(relabel scope X.env).names.lookup x=_ from e]at hv;cases q:scope.names.lookup x with|none=>rw[q]at hv;simp at hv|some k=>
     rw[q]at hv h1 h2 h3;have hk:(k==NameKind.free)=false:=by cases k<;>first|rfl|exact absurd rfl h3
     simp only[Option.map_some,hk,Bool.false_and,false_eq_true,if_false,Option.some.injEq]at hv;rcases hv with rfl|rfl|rfl;.exact h1 rfl
     .exact h2 rfl
     .exact h3 rfl
structure CI(cl:List (Str×Addr))(z:Nat)(h:Heap)(acc:List (Str×Addr)):Prop where from':∀n c,acc.lookup n=some c->cl.lookup n=some c\/(z<=c/\h.IsCell c none)inj:∀n n' c,acc.lookup n=some c->acc.lookup n'=some c->n=n'
theorem Dz{cl:List (Str×Addr)}{z:Nat}(hcl:∀n c,cl.lookup n=some c->c<z):∀(names:List (Str×NameKind))(h:Heap)(acc:List (Str×Addr)),z<=h.objs.size->CI cl z h acc->CI cl z (pushCells h names) (cellsFrom h.objs.size names acc)/\(∀n,(acc.lookup n).isSome->((cellsFrom h.objs.size names acc).lookup n).isSome)/\(∀n,((∃c,acc.lookup n=some c/\z<=c)\/(n,NameKind.cell)∈names)->∃c,(cellsFrom h.objs.size names acc).lookup n=some c/\z<=c)/\(∀n c,(n,NameKind.cell)∉names->(cellsFrom h.objs.size names acc).lookup n=some c->acc.lookup n=some c)
 |[],h,acc,hz,x=>by
   refine⟨x,fun _ q=>q,fun n q=>?_,fun _ _ _ q=>q⟩;rcases q with q|q;.exact q
   .cases q|(name,kind)::r,h,acc,hz,x=>by
   unfold pushCells cellsFrom;by_cases hk:kind=.cell
   . subst hk;rw[if_pos (by rfl),if_pos (by rfl)];have hx:CI cl z (h.push {cls:=.type "cell",data:=.cell none}) ((name,h.objs.size)::acc):=by
      have lt:∀n c,acc.lookup n=some c->c<h.objs.size:=fun n c e=>by
       rcases x.from' n c e with q|q;.exact lt_of_lt_of_le (hcl n c q) hz
       .exact q.2.lt
      refine⟨fun n c e=>?_,fun n n' c e e'=>?_⟩
      . rw[lookup_cons]at e;split at e;.cases e;exact .inr ⟨hz,_,get?_push_size _ rfl,rfl⟩
        . rcases x.from' n c e with q|q;.exact .inl q
          .exact .inr ⟨q.1,q.2.keeps fun b o e=>get?_push_of_some _ e⟩
      . rw[lookup_cons]at e e';split at e<;>split at e';.rename_i _ a _ b;rw[eq_of_beq a,eq_of_beq b]
        .cases e;exact absurd (lt n' _ e') (lt_irrefl _)
        .cases e';exact absurd (lt n _ e) (lt_irrefl _)
        .exact x.inj n n' c e e'
     have ih:=Dz hcl r (h.push {cls:=.type "cell",data:=.cell none}) ((name,h.objs.size)::acc) (by rw[size_push];omega) hx;rw[size_push]at ih;refine⟨ih.1,fun n q=>ih.2.1 n ?_,fun n q=>ih.2.2.1 n ?_,fun n c q e=>?_⟩
     . rw[lookup_cons];split;.rfl
       .exact q
     . rcases q with⟨c,e,hc⟩|q
       . left;rw[lookup_cons];split;.exact⟨_,rfl,hz⟩
         .exact⟨c,e,hc⟩
       . rcases mem_cons.mp q with q|q;.cases q;left;exact⟨_,by simp[lookup_cons],hz⟩
         .exact .inr q
     . have:=ih.2.2.2 n c (fun z=>q (mem_cons_of_mem _ z)) e;rw[lookup_cons]at this;split at this;.rename_i a;exact absurd (by rw[eq_of_beq a];exact mem_cons_self) q
       .exact this
   . have hk':(kind==NameKind.cell)=false:=by simpa using hk
     rw[if_neg (by rw[hk'];decide),if_neg (by rw[hk'];decide)];have ih:=Dz hcl r h acc hz x;refine⟨ih.1,ih.2.1,fun n q=>ih.2.2.1 n ?_,fun n c q e=>ih.2.2.2 n c (fun z=>q (mem_cons_of_mem _ z)) e⟩;rcases q with q|q;.exact .inl q
     . rcases mem_cons.mp q with q|q;.cases q;exact absurd rfl hk
       .exact .inr q
structure Cd(X:Cx)(scope:Scope)(z:Nat)(h:Heap)(cs:List (Str×Addr)):Prop where
 from':∀n c,cs.lookup n=some c->X.env.cells.lookup n=some c\/(z<c/\h.IsCell c none)inj:∀n n' c,cs.lookup n=some c->cs.lookup n'=some c->n=n'
 has:∀n,(scope.names.lookup n=some .free\/scope.names.lookup n=some .cell)->∃c,cs.lookup n=some c
 fre:∀n c,scope.names.lookup n=some .free->cs.lookup n=some c->X.env.cells.lookup n=some c
 own:∀n c,scope.names.lookup n=some .cell->cs.lookup n=some c->z<c
theorem Aq{M:Model}{A:Around}{E:Value->Shared->Prop}{X:Cx}{s:Shared}{scope:Scope}{N':List Str}{n:Nat}{cl:List (Str×Addr)}{Q:Env->Shared->Prop}(ok:eN X scope N' n)(hlt:∀n c,X.env.cells.lookup n=some c->c<s.heap.objs.size)(hinj:∀x y c,X.env.cells.lookup x=some c->X.env.cells.lookup y=some c->x=y)(hcl:∀n c,cl.lookup n=some c->X.env.cells.lookup n=some c)(xq:∀n,(n,NameKind.free)∈scope.names->(cl.lookup n).isSome)(hQ:∀ cs h',h'.Ns s.heap.objs.size (fun _=>none)->(∀ b o,s.heap.get? b=some o->h'.get? b=some o)->Cd X scope s.heap.objs.size h' cs->Q {scope:=scope,locals:=s.heap.objs.size,globals:=X.env.globals,cells:=cs,qual:=X.env.qual,func:=none,code:=X.env.code,frame:=X.env.frame,builtins:=X.env.builtins} {s with heap:=h'}):wpAny M A (newFunctionEnv scope X.env.globals cl [] X.env.qual none .none (some X.env)) Q E s:=by
 simp only[newFunctionEnv,Option.isSome_some,if_true];refine wpAny_bind (wpAny_alloc ?_);refine wpAny_bind (wpAny_layCells _ (fun name kind cells=>by cases hkc:kind==NameKind.cell<;>simp[hkc]) _ _ _ _ ?_);have ck:=Dz (cl:=cl) (z:=s.heap.objs.size+1) (fun n c e=>Nat.lt_succ_of_lt (hlt n c (hcl n c e))) scope.names (s.heap.push {cls:=.type "dict",data:=.dict #[]}) cl (by rw[size_push];exact le_refl _) ⟨fun n c e=>.inl e,fun n n' c e e'=>hinj n n' c (hcl n c e) (hcl n' c e')⟩;obtain⟨c1,c2,c3,c4⟩:=ck;rw[show({s with heap:=s.heap.push {cls:=.type "dict",data:=.dict #[]}}:Shared).heap.objs.size=(s.heap.push {cls:=.type "dict",data:=.dict #[]}).objs.size from rfl];refine wpAny_bind ?_;rw[List.forIn_nil];refine wpAny_pure (wpAny_pure (hQ _ _ ((Heap.Ns.new s.heap (.type "dict")).keeps (pushCells_keeps _ _)) (fun b o e=>pushCells_keeps _ _ b o (get?_push_of_some _ e)) ⟨fun n c e=>?_,c1.inj,fun n q=>?_,fun n c q e=>?_,fun n c q e=>?_⟩))
 . rcases c1.from' n c e with z|z;.exact .inl (hcl n c z)
   .exact .inr ⟨z.1,z.2⟩
 . rcases q with q|q;.exact Option.isSome_iff_exists.mp (c2 n (xq n (PySem.mem_of_lookup q)))
   .obtain⟨c,e,_⟩:=c3 n (.inr (PySem.mem_of_lookup q));exact⟨c,e⟩
 .refine hcl n c (c4 n c (fun z=>?_) e);have:=ok.cons _ z;rw[q]at this;cases this
 .obtain⟨c',e',hc'⟩:=c3 n (.inr (PySem.mem_of_lookup q));rw[e]at e';cases e';exact hc'
section
variable{X:Cx}{pins:List (Addr×Obj)}{σ:L2.St}{H:Hp}{s:Shared}{scope:Scope}{N':List Str}{n:Nat}{fp:List Addr}{cl:List (Str×Addr)}
theorem Et{h1:Heap}{m:Str->Option Value}{t:Nat}{cs:List (Str×Addr)}(ok:eN X scope N' n)(I:Inv X pins σ H s)(hf:∀b∈fp,mR X pins H b/\b<s.heap.objs.size)(bc:Cd X scope s.heap.objs.size h1 cs)(hn:h1.Ns s.heap.objs.size m)(old:∀b u,s.heap.get? b=some u->h1.get? b=some u):Inv (qe X scope N' cs s.heap.objs.size s H fp) [] (σ++replicate n none) H {s with heap:=h1,toks:=t}:=by
 have V7:∀x,scope.names.lookup x=some .free->(relabel scope X.env).names.lookup x=some .cell\/(relabel scope X.env).names.lookup x=some .free:=fun x h=>by
  have e:=dC (env:=X.env) scope.names x;rw[h]at e;have e':(relabel scope X.env).names.lookup x=_:=e;rw[e'];simp only[Option.map_some];split;.exact .inl rfl
  .exact .inr rfl
 refine⟨⟨I.ok.mod,ok.kind,I.ok.glob,I.ok.blt,le_refl _,fun x y c h1 h2=>bc.inj x y c h1 h2,fun x hx=>?_,fun x c h e=>le_of_lt (bc.own x c (eq_of_beq (show(scope.names.lookup x==some NameKind.cell)=true from h)) e),I.ok.hd,I.ok.frames,.inl rfl,fun b hb=>?_,I.bs,le_trans I.ok.K1 I.sz,fun b u e hb=>?_,fun b hb hfs=>?_,I.stack,I.yM⟩,rfl,I.bare,Un.kept old,⟨m,hn,fun i x v e1 e2 hv=>?_⟩,fun x c e=>?_,I.hok.fresh (le_refl _),fun x c e=>?_,fun p hp=>(by cases hp),I.hok.kept old,?_⟩;.--a V8 name has its cell
   have hx:(relabel scope X.env).names.lookup x=some .cell\/(relabel scope X.env).names.lookup x=some .free:=hx;have e:=dC (env:=X.env) scope.names x;have e':(relabel scope X.env).names.lookup x=_:=e;rw[e']at hx;refine bc.has x ?_;cases q:scope.names.lookup x with|none=>rw[q]at hx;simp at hx|some k=>
     rw[q]at hx;by_cases hk:k=.free;.rw[hk];exact .inl rfl
     . have hk':(k==NameKind.free)=false:=by simpa using hk
       simp only[Option.map_some,hk',Bool.false_and,false_eq_true,if_false,Option.some.injEq]at hx;rcases hx with rfl|rfl;.exact .inr rfl
       .exact absurd rfl hk
 . obtain⟨f,lt⟩:=hf b hb;refine⟨ne_of_lt lt,fun x c e=>?_⟩;rcases bc.from' x c e with e|e;.exact f.2.2.2.2.1 x c e
   .rintro rfl;exact absurd (Nat.lt_trans e.1 lt) (lt_irrefl _)
 . obtain⟨f,lt⟩:=hf b hb;rcases f.2.2.2.1 with h|h;.exact I.ok.FT b u e h
   .have this:b<X.base.objs.size:=lt_size e;exact absurd (lt_of_lt_of_le this (le_trans I.ok.K1 h)) (lt_irrefl _)
 . obtain⟨f,lt⟩:=hf b hb;rcases mem_cons.mp (I.sS b hfs)with h|h;.exact f.2.1 h
   .exact f.2.2.1 h
 .--the names
   have hi:i<σ.length:=by
    by_cases hi:i<σ.length;.exact hi
    .rw[getElem?_append_right (by omega),List.getElem?_replicate]at e2;split at e2<;>cases e2
   rw[getElem?_append_left hi]at e2;obtain⟨h1',h2'⟩:=ok.get (by rw[<-I.len];exact hi) e1 hv;have hk:=ok.cap (x,.free) (PySem.mem_of_lookup h2') rfl;obtain⟨m0,hn0,hl⟩:=I.loc;obtain⟨u,r,l⟩:=hl i x v h1' e2 (.inr hk);refine⟨u,r,.inr ⟨V7 x h2',?_⟩⟩;rcases l with⟨hk',_⟩|⟨_,c,hc,hcell⟩;.have hk':X.env.scope.names.lookup x=some .local:=hk';rcases hk with hk|hk<;>(rw[hk']at hk;cases hk)
   .obtain⟨c',hc'⟩:=bc.has x (.inl h2');have:=bc.fre x c' h2' hc';rw[hc]at this;cases this;refine⟨c,hc',?_⟩;obtain⟨oc,e3,e4⟩:=hcell;exact⟨oc,old c oc e3,e4⟩
 . rcases bc.from' x c e with e|e;.obtain⟨v,oc,e3,e4⟩:=I.cell x c e;exact⟨v,oc,old c oc e3,e4⟩
   .exact⟨_,e.2⟩
 . rcases bc.from' x c e with e|e;.exact I.jy x c e
   .exact I.hok.fresh (le_of_lt e.1)
 .show(σ++replicate n none).length=N'.length;rw[length_append,List.length_replicate,I.len,ok.len]
theorem qP{prog:Program}{w:World}{A:Around}{R:Result->Shared->Prop}{elt target iter:Expr}{ifs:List Expr}{scope:Scope}{pos:Pos}{it acc:Value}{env:Env}(I:Nat->Shared->Prop)(turn:∀ n s,I n s->wpAny (model prog w) A (pyNext it) (fun r s₁=>match r with|none=>R (.ok .next) s₁|some v=>wpAny (model prog w) A (letOwnedTupleGo target it v) (fun _ s₁=>wpAny (model prog w) A (assign target env v) (fun _ s₂=>wpAny (model prog w) A (forIn ifs true fun c r=>if r=true then do let ok<-isTrue c env (eval c env);pure (ForInStep.yield ok)else pure (ForInStep.yield r)) (fun ok s₃=>if ok=true then wpAny (model prog w) A (eval elt env) (fun x s₄=>wpAny (model prog w) A (call (.builtin "list.append") [acc,x]) (fun _ s₅=>∃m,m<n/\I m s₅) (notedBy (model prog w) A env fun e s'=>R (.error e) s') s₄) (notedBy (model prog w) A env fun e s'=>R (.error e) s') s₃ else ∃m,m<n/\I m s₃) (notedBy (model prog w) A env fun e s'=>R (.error e) s') s₂) (notedBy (model prog w) A env fun e s'=>R (.error e) s') s₁) (notedBy (model prog w) A env fun e s'=>R (.error e) s') s₁) (notedBy (model prog w) A env fun e s'=>R (.error e) s') s)(n:Nat){s:Shared}(h:I n s):codeAny (model prog w) A (.compLoop (.ListComp elt [⟨target,iter,ifs,0⟩] scope pos) 0 it acc env) R s:=by refine codeAny_loop rfl I (fun n s hI=>?_) n h;show wpAny _ A ((compTurn (.ListComp elt [⟨target,iter,ifs,0⟩] scope pos) 0 it acc env).onRaise (fun x=>do noteFrame x env;theTreesLotGoes x)) _ _ s;refine wpAny_noted ?_;rw[compTurn_list];refine wpAny_bind (wpAny_standAt (wpAny_bind (wpAny_mono (turn n s hI) (fun r s₁ h₁=>?_) fun _ _ h'=>h')));cases r with|none=>exact wpAny_pure h₁|some v=>refine wpAny_bind (wpAny_mono h₁ (fun _ s₁ h₁=>?_) fun _ _ h'=>h');refine wpAny_bind (wpAny_mono h₁ (fun _ s₂ h₂=>wpAny_bind (wpAny_mono h₂ (fun ok s₃ h₃=>?_) fun _ _ h'=>h')) fun _ _ h'=>h');cases ok with|false=>exact wpAny_pure ⟨rfl,h₃⟩|true=>exact wpAny_bind (wpAny_bind (wpAny_mono h₃ (fun x s₄ h₄=>wpAny_bind (wpAny_mono h₄ (fun _ s₅ h₅=>wpAny_pure (wpAny_pure ⟨rfl,h₅⟩)) fun _ _ h'=>h')) fun _ _ h'=>h'))
def MJ(X:Cx)(ifs:List Expr)(t:TT):Prop:=∀(pins:List (Addr × Obj))(s:Shared)(σ:L2.St)(H:Hp)(Q:Bool->Hp->Prop),Inv X pins σ H s->t σ H Q->wpAny (model X.prog X.w) X.A (forIn ifs true fun c r=>if r=true then do let ok<-isTrue c X.env (eval c X.env);pure (ForInStep.yield ok)else pure (ForInStep.yield r)) (TP X pins σ Q) X.xe s
theorem Jg{X:Cx}:MJ X [] (fun _ H Q=>Q true H):=fun pins s σ H Q I h=>wpAny_tests_nil ⟨H,I,h⟩
theorem Il{X:Cx}{c:Expr}{t:TT}(h:PT X c t):MJ X [c] t:=fun pins s σ H Q I q=>wpAny_tests_one (h pins s σ H Q I q)
def JP(J:It)(g:TG)(tt:TT)(te:TE)(D:Addr)(Q:Hp->Prop)(W:Nat->Nat->List V->L2.St->Hp->Prop):Prop:=∀ i m ys σ H,W i m ys σ H->H D=some (.lst ys)/\((J.stop i H/\Q H)\/(J.go i H/\∀ x H2,J.Gw i H x H2->g x σ H2 fun σ3 H3=>tt σ3 H3 fun b H4=>if b=true then te σ3 H4 fun y H5=>H5 D=some (.lst ys)/\ys.length<sizeLine/\∃m',m'<m/\W (i+1) m' (ys++[y]) σ3 (upd H5 D (.lst (ys++[y])))else ∃m',m'<m/\W (i+1) m' ys σ3 H4))
theorem qt{E:Value->Shared->Prop}{elt target iter:Expr}{ifs:List Expr}{pos:Pos}{it:Addr}{tn:Nat->Heap->Prop}{J:It}{g:TG}{tt:TT}{te:TE}{Q:Addr->Hp->Prop}{RR:Value->Addr->Result->Shared->Prop}(hc:X.calm=true)(ok:eN X scope N' n)(I:Inv X pins σ H s)(hcl:∀n c,cl.lookup n=some c->X.env.cells.lookup n=some c)(xq:∀n,(n,NameKind.free)∈scope.names->(cl.lookup n).isSome)(T:Turn X.prog X.w X.K target J fp it tn)(h0:tn 0 s.heap)(hf:∀b∈fp,mR X pins H b)(hg:∀cl C s₀ H₀ ex,PG (qe X scope N' cl C s₀ H₀ ex) target g)(ht:∀cl C s₀ H₀ ex,MJ (qe X scope N' cl C s₀ H₀ ex) ifs tt)(he:∀cl C s₀ H₀ ex,PE (qe X scope N' cl C s₀ H₀ ex) elt te)(hw:∀D,H D=none->∃W,(∃m,W 0 m [] (σ++replicate n none) (upd H D (.lst [])))/\JP J g tt te D (Q D) W)(hRR:∀D C s' H',Q D H'->(∃m,s'.heap.Ns C m)->mR X pins H' C->Inv X pins σ H' s'->RR (.ref D) C (.ok .next) s'):wpAny (model X.prog X.w) X.A (newList []) (fun acc s₃=>wpAny (model X.prog X.w) X.A (newFunctionEnv scope X.env.globals cl [] X.env.qual none .none (some X.env)) (fun cenv s₄=>codeAny (model X.prog X.w) X.A (.compStart (.ListComp elt [⟨target,iter,ifs,0⟩] scope pos) 0 (.ref it) acc {cenv with scope:=relabel scope X.env}) (RR acc cenv.locals) s₄) E s₃) E s:=by
 refine wpAny_newObj_type (Aq ok (fun x c e=>?lt) I.ok.inj hcl xq (fun cs h₁ hns hold bc=>?_));case lt=>obtain⟨v,z⟩:=I.cell x c e;exact lt_of_lt_of_le z.lt (by show _<=(s.heap.push _).objs.size;rw[size_push];exact le_succ _)
 dsimp only at hns hold bc ⊢--the new list,tracked
 have I3:Inv X pins σ (upd H s.heap.objs.size (.lst [])) {s with heap:=s.heap.push {cls:=.type "list",data:=.seq ([]:List Value).toArray}}:=I.Qs (t':=s.toks) .nil (zero_le _);generalize hs3:({s with heap:=s.heap.push {cls:=.type "list",data:=.seq ([]:List Value).toArray}}:Shared)=s3 at I3;have hsz:s3.heap.objs.size=s.heap.objs.size+1:=by rw[<-hs3];exact size_push _ _
 have K9:s3.heap=s.heap.push {cls:=.type "list",data:=.seq ([]:List Value).toArray}:=by rw[<-hs3]
 obtain⟨W,⟨m0,w0⟩,turn⟩:=hw s.heap.objs.size I.fresh;have tnK:∀{h':Heap},(∀b o,s.heap.get? b=some o->h'.get? b=some o)->tn 0 h':=fun k=>T.keep _ _ _ h0 fun b hb o e=>k b o e;have YB:∀b∈fp,mR X pins (upd H s.heap.objs.size (.lst [])) b/\b<s3.heap.objs.size:=fun b hb=>by obtain⟨o,e,_⟩:=T.obj 0 _ h0 b hb;have lt:=lt_size e;obtain⟨f1,f2⟩:=hf b hb;exact⟨⟨by rw[az (ne_of_lt lt)];exact f1,f2⟩,by rw[hsz];exact Nat.lt_succ_of_lt lt⟩
 rw[<-K9]at hns hold bc ⊢;have I4:=Et (t:=s3.toks) ok I3 YB bc hns hold;have V9:∀b o,s.heap.get? b=some o->h₁.get? b=some o:=fun b o e=>hold b o (by rw[K9];exact get?_push_of_some _ e);generalize hX:qe X scope N' cs s3.heap.objs.size s3 (upd H s.heap.objs.size (.lst [])) fp=X' at I4;have hA:X'.A=X.A:=by rw[<-hX];rfl
 have hpr:X'.prog=X.prog:=by rw[<-hX];rfl
 have hwr:X'.w=X.w:=by rw[<-hX];rfl
 have hKK:X'.K=X.K:=by rw[<-hX];rfl
 have hcalm:X'.calm=true:=by rw[<-hX];exact hc
 have hxe:X'.xe=fun _ _=>False:=by rw[<-hX];rfl
 have henv:X'.env=compEnvC scope cs s3.heap.objs.size X.env:=by rw[<-hX];rfl
 have hg':PG X' target g:=by rw[<-hX];exact hg _ _ _ _ _
 have ht':MJ X' ifs tt:=by rw[<-hX];exact ht _ _ _ _ _
 have he':PE X' elt te:=by rw[<-hX];exact he _ _ _ _ _
 have ff:∀{H':Hp}{b:Addr},b∈fp->H' b=none->mR X' [] H' b:=fun{H' b}hb hn=>by
  obtain⟨f,lt⟩:=YB b hb;rw[<-hX];refine⟨hn,ne_of_lt lt,fun hfs=>?_,.inl hb,fun x c e=>?_,fun p hp=>by cases hp⟩
  . rcases mem_cons.mp (I3.sS b hfs)with h|h;.exact f.2.1 h
    .exact f.2.2.1 h
  . rcases bc.from' x c e with e|e;.exact f.2.2.2.2.1 x c e
    .rintro rfl;exact absurd (Nat.lt_trans e.1 lt) (lt_irrefl _)--behind the block
 have fin:∀{σ':L2.St}{H':Hp}{s':Shared},Inv X' [] σ' H' s'->Q s.heap.objs.size H'->RR (.ref s.heap.objs.size) s3.heap.objs.size (.ok .next) s':=fun{σ' H' s'}J' q=>by
  rw[<-hX]at J';have hC:H' s3.heap.objs.size=none:=J'.free;obtain⟨hh,gg,dd,tt',os'⟩:=s';have eos:os'=s3.os:=J'.os;subst eos;refine hRR _ _ _ H' q (let⟨m,hm,_⟩:=J'.loc;⟨m,hm⟩) ?_ (I3.call (h':=hh) (g':=gg) (d':=dd) (t':=tt') (ch:=fp) J'.base J'.hok J'.bare fun b hb=>?_);.exact I3.Ag (le_refl _) hC
  .obtain⟨f,lt⟩:=YB b hb;exact⟨f.2.2.2.1,f.2.1,f.2.2.2.2.1,f.2.2.2.2.2⟩
 have main:codeAny (model X.prog X.w) X.A (.compLoop (.ListComp elt [⟨target,iter,ifs,0⟩] scope pos) 0 (.ref it) (.ref s.heap.objs.size) X'.env) (RR (.ref s.heap.objs.size) s3.heap.objs.size) {s3 with heap:=h₁,toks:=s3.toks}:=by
  refine qP (fun k s'=>∃i ys σ' H',Inv X' [] σ' H' s'/\tn i s'.heap/\(∀b∈fp,H' b=none)/\W i k ys σ' H') (fun k s5 hI=>?_) m0 ⟨0,[],_,_,I4,tnK V9,fun b hb=>(YB b hb).1.1,w0⟩;obtain⟨i,ys,σ5,H5,I5,t5,f5,w5⟩:=hI;obtain⟨hD,hturn⟩:=turn i k ys σ5 H5 w5;have YC:∀{Z:Value->Shared->Prop},∀(e:Value)(s':Shared),X'.xe e s'->Z e s':=fun e s' z=>by rw[hxe]at z;exact False.elim z
  rcases hturn with⟨stop,q⟩|⟨go,step⟩;.have z:=T.done X' hpr hwr hKK hcalm i [] s5 σ5 H5 (fun _ _=>False) I5 (fun b hb=>ff hb (f5 b hb)) t5 stop;rw[hA]at z;refine wpAny_mono z (?_) fun _ _ z=>False.elim z;rintro r s6⟨hr,I6⟩;subst hr;exact fin I6 q
  . have z:=T.item X' hpr hwr hKK hcalm i [] s5 σ5 H5 (fun _ _=>False) I5 (fun b hb=>ff hb (f5 b hb)) t5 go;rw[hA]at z;refine wpAny_mono z (?_) fun _ _ z=>False.elim z;rintro r s6⟨u,hr,z6⟩;subst hr;refine wpAny_mono z6 (?_) fun _ _ z=>False.elim z;rintro _ s7⟨x,H7,I7,r7,y7,t7,f7⟩;have I7':=I7.pinned (fun b hb=>ff hb (f7 b hb)) (T.obj _ _ t7)--what the pins keep
    have back:∀{σ':L2.St}{H':Hp}{s':Shared},Inv X' ([]++o4 fp s7.heap) σ' H' s'->Inv X' [] σ' H' s'/\tn (i+1) s'.heap/\∀b∈fp,H' b=none:=fun{σ' H' s'}J'=>by refine⟨J'.jX,T.keep _ _ _ t7 fun b hb o e=>(J'.pin (b,o) (mem_append_right _ (mem_append_right _ (gQ hb e)))).1,fun b hb=>?_⟩;obtain⟨o,e,_⟩:=T.obj _ _ t7 b hb;exact(J'.pin (b,o) (mem_append_right _ (mem_append_right _ (gQ hb e)))).2.1
    have z7:=hg' _ s7 σ5 H7 x u _ I7' r7 (step x H7 y7);rw[hA,hpr,hwr]at z7;refine wpAny_mono z7 (?_) YC;rintro _ s8⟨σ8,H8,I8,q8⟩;have z8:=ht' _ s8 σ8 H8 _ I8 q8;rw[hA,hpr,hwr]at z8;refine wpAny_mono z8 (?_) YC;rintro b s9⟨H9,I9,q9⟩;cases b with|false=>rw[if_neg Bool.false_ne_true]at q9 ⊢;obtain⟨m',hm,w'⟩:=q9;obtain⟨b1,b2,b3⟩:=back I9;exact⟨m',hm,i+1,ys,σ8,H9,b1,b2,b3,w'⟩|true=>rw[if_pos rfl]at q9 ⊢;have z9:=he' _ s9 σ8 H9 _ I9 q9;rw[hA,hpr,hwr]at z9;refine wpAny_mono z9 (?_) YC;rintro y gM⟨yv,H10,I10,r10,abL,hlen,m',hm,w'⟩;have z10:=lz _ gM σ8 H10 (.ref s.heap.objs.size) [yv] (.ref s.heap.objs.size) [y] (fun v H11=>H11=upd H10 s.heap.objs.size (.lst (ys++[yv]))) I10 rfl (.cons r10 .nil) ⟨_,ys,yv,rfl,rfl,abL,hlen,rfl⟩;rw[hA,hpr,hwr]at z10;refine wpAny_mono z10 (?_) YC;rintro _ Yo⟨_,H11,I11,_,e11⟩;subst e11;obtain⟨b1,b2,b3⟩:=back I11;exact⟨m',hm,i+1,ys++[yv],σ8,_,b1,b2,b3,w'⟩
 have e3:({s3 with heap:=h₁,toks:=s3.toks}:Shared)={s with heap:=h₁}:=by rw[<-hs3]
 rw[henv,e3]at main;exact codeAny_compStart_list main (T.self _ 0 _ _ _ (tnK V9) main)
end
section
variable{X:Cx}{elt target iter:Expr}{ifs:List Expr}{scope:Scope}{pos:Pos}{N':List Str}{n:Nat}{wi:TI}{g:TG}{tt:TT}{te:TE}
def qu(n:Nat)(wi:TI)(g:TG)(tt:TT)(te:TE):TE:=fun σ H Q=>wi σ H fun J H1=>∀D,H1 D=none->∃W,(∃m,W 0 m [] (σ++replicate n none) (upd H1 D (.lst [])))/\JP J g tt te D (fun H'=>Q (.ref D) H') W
theorem jZ{pins:List (Addr×Obj)}{σ:L2.St}{H:Hp}{s:Shared}(I:Inv X pins σ H s)(ok:eN X scope N' n):∃cl,closureFor scope X.env=pure cl/\(∀n c,cl.lookup n=some c->X.env.cells.lookup n=some c)/\∀n,(n,NameKind.free)∈scope.names->(cl.lookup n).isSome:=v8 fun m hm=>I.ok.has m (ok.cap (m,.free) hm rfl)
theorem HW(hc:X.calm=true)(ok:eN X scope N' n)(hi:PI X target iter wi)(hg:∀cl C s₀ H₀ ex,PG (qe X scope N' cl C s₀ H₀ ex) target g)(ht:∀cl C s₀ H₀ ex,MJ (qe X scope N' cl C s₀ H₀ ex) ifs tt)(he:∀cl C s₀ H₀ ex,PE (qe X scope N' cl C s₀ H₀ ex) elt te)(hs:∀x,foldedSetIterable iter X.env x=pure x:=by intro _;rfl):PE X (.ListComp elt [⟨target,iter,ifs,0⟩] scope pos) (qu n wi g tt te):=by intro pins s σ H Q I h;obtain⟨cl,hclos,hcl,xq⟩:=jZ I ok;rw[eval_ListComp];refine wpAny_comprehension_free (use:=none) rfl hs hclos ok.kind ok.names (bL (hi pins s σ H _ I h) fun v s1 h1=>bL h1 fun itv s2 h2=>?_);obtain⟨it,fp,tn,J,H2,rfl,I2,T,t0,f2,hw⟩:=h2;refine qt (Q:=fun D H'=>Q (.ref D) H') (RR:=fun acc C=>compPost (model X.prog X.w) X.A X.xe none (EP X pins σ Q) acc C) hc ok I2 hcl xq T t0 f2 hg ht he hw fun D C s' H' q hm Be I'=>?_;obtain⟨m,hm⟩:=hm;refine⟨m,hm,fun h' hs'=>⟨.ref D,H',?_,rfl,q⟩⟩;exact I'.turned (t':=s'.toks) (fun b o hb e=>hs'.extBut b o hb e) Be.1 Be.2.1 Be.2.2.2.1 Be.2.2.2.2.1 Be.2.2.2.2.2
theorem zg{i:Nat}{x:Str}{pos' spos:Pos}(hc:X.calm=true)(hN:X.N.Nodup)(hx0:X.N[i]?=some x)(hx:Loc X.env.scope x)(ok:eN X scope N' n)(hi:PI X target iter wi)(hg:∀cl C s₀ H₀ ex,PG (qe X scope N' cl C s₀ H₀ ex) target g)(ht:∀cl C s₀ H₀ ex,MJ (qe X scope N' cl C s₀ H₀ ex) ifs tt)(he:∀cl C s₀ H₀ ex,PE (qe X scope N' cl C s₀ H₀ ex) elt te)(hsw:swapsWith (.ListComp elt [⟨target,iter,ifs,0⟩] scope pos) (some (.Name x pos')) spos.line X.env=pure true)(hs:∀x,foldedSetIterable iter X.env x=pure x:=by intro _;rfl)(hf:X.fn x=true\/X.env.scope.names.lookup x=some .local:=by first|exact .inl rfl|exact .inr rfl|assumption):PS X (.Assign [.Name x pos'] (.ListComp elt [⟨target,iter,ifs,0⟩] scope pos) spos) (Qc (qu n wi g tt te) (iw i)):=by
 intro pins s σ H D I h;obtain⟨cl,hclos,hcl,xq⟩:=jZ I ok;rw[exec_Assign_Name_used _ _ _ _ hsw];refine wpAny_bind (wpAny_standAt (wpAny_bind ?_));show wpAny _ X.A (do let _<-comprehension (.ListComp elt [⟨target,iter,ifs,0⟩] scope pos) scope X.env _ (newList []) false (eval iter X.env) (some (assign (.Name x pos') X.env))) _ _ s;refine wpAny_bind (wpAny_mono (wpAny_comprehension_free (use:=some (assign (.Name x pos') X.env)) (Q:=fun _ s'=>SP X pins D .next s') rfl hs hclos ok.kind ok.names (bL (hi pins s σ H _ I h) fun v s1 h1=>bL h1 fun itv s2 h2=>?_)) (fun _ s' hq=>wpAny_pure (wpAny_pure hq)) fun _ _ e=>e);obtain⟨it,fp,tn,J,H2,rfl,I2,T,t0,f2,hw⟩:=h2;refine qt (Q:=fun Da H'=>D.nx (σ.set i (some (.ref Da))) H') (RR:=fun acc C=>compPost (model X.prog X.w) X.A X.xe (some (assign (.Name x pos') X.env)) (fun _ s'=>SP X pins D .next s') acc C) hc ok I2 hcl xq T t0 f2 hg ht he hw fun Da C s' H' q hm Be I'=>?_;obtain⟨m,hm⟩:=hm;show wpAny _ X.A (assign (.Name x pos') X.env (.ref Da)) _ _ _;refine wpAny_assign_Name (qD I' hN hx0 hx (show RelV (.ref Da) (.ref Da)from rfl) (?_) hf);rintro s'' I''⟨a,sb,ha⟩;have hCa:C≠a:=by
  rcases ha with rfl|ha;.exact Be.2.1
  .exact fun z=>Be.2.2.2.2.1 x a ha z.symm
 refine⟨m,hm.sameBut sb hCa,fun h' hs'=>⟨_,H',?_,q⟩⟩;exact I''.turned (t':=s''.toks) (fun b o hb e=>hs'.extBut b o hb e) Be.1 Be.2.1 Be.2.2.2.1 Be.2.2.2.2.1 Be.2.2.2.2.2
def aay(K:PySem.W.Frag)(tl:TE):TI:=fun σ H R=>tl σ H fun x H1=>∃a,x=.ref a/\(((∃xs,dM K H1 a xs)/\R (Mv K a) H1)\/((∃xs,gO K H1 a xs)/\R (RJ K a) H1))
theorem wF{tg l:Expr}{tl:TE}(hl:PE X l tl):PI X tg l (aay X.K tl):=by
 intro pins s σ H R I h;refine bL (hl pins s σ H _ I h) ?_;rintro v s1⟨x,H1,I1,r1,q1⟩;obtain⟨a,e,q1⟩:=q1;subst e;cases r1;rcases q1 with⟨⟨xs,hq⟩,q⟩|⟨⟨xs,hq⟩,q⟩
 . obtain⟨its,rv,p,hz⟩:=I1.list hq;refine wpAny_pyIter_list p.isList ?_;refine⟨s1.heap.objs.size,[s1.heap.objs.size],_,_,H1,rfl,I1.kept (t':=s1.toks) fun b o e=>get?_push_of_some _ e,zX a _,⟨_,get?_push_size _ rfl,rfl,rfl⟩,fun b hb=>?_,q⟩;have e:b=s1.heap.objs.size:=by simpa using hb
   subst e;exact I1.Ag (le_refl _) (I1.hok.fresh (le_refl _))
 . obtain⟨its,rv,p,hz⟩:=I1.tuple hq;refine wpAny_pyIter_tuple (show s1.heap.IsTuple a its.toArray from p) ?_;refine⟨s1.heap.objs.size,[s1.heap.objs.size],_,_,H1,rfl,I1.kept (t':=s1.toks) fun b o e=>get?_push_of_some _ e,vY a _,⟨_,get?_push_size _ rfl,rfl,rfl⟩,fun b hb=>?_,q⟩;have e:b=s1.heap.objs.size:=by simpa using hb
   subst e;exact I1.Ag (le_refl _) (I1.hok.fresh (le_refl _))
end
end L2
end
section
namespace HH
open PySem L2 PySem.Spec PyProof.Rows
structure Walk(K:PySem.W.Frag)(F:Hp)(ρ:List Sl)(σ:L2.St)(H:Hp)(ul:List Sl->List Sl)(J:It)(ds:List D)(F1:Hp)(ρ1:List Sl)(H1:Hp):Prop where
 gs:GS K F1 ρ1 σ H1
 src:∀(n k:Nat)(F':Hp)(ρ':List Sl)(σ':L2.St)(H':Hp),aq K F1 (ρ1++replicate n .aU) (σ++replicate n none) H1 F' ρ' σ' H'->(∀d,ds[k]?=some d->J.go k H'/\∀x jL,J.Gw k H' x jL->∃F'',Ext F' H' F'' jL/\Rep K F'' x d)/\(ds.length<=k->J.stop k H')fin:∀F2 ρ2 σ2 H2,aq K F1 ρ1 σ H1 F2 ρ2 σ2 H2->aq K F ρ σ H F2 (ul ρ2) σ2 H2/\∀v r,bV K F2 ρ2 σ2 H2 ρ1 σ H1 v r->bV K F2 (ul ρ2) σ2 H2 ρ σ H v r
inductive Z4(K:PySem.W.Frag)(iv:Option Nat)(f:Ev)(σ:L2.St)(H:Hp)(R:It->Hp->Prop):Prop where|mk(F:Hp)(ρ:List Sl)(ds:List D)(ρ1:List Sl)(g:GS K F ρ σ H)(e:srcOf iv f ρ=.ok ds ρ1)(k:∀J F1 H1,Walk K F ρ σ H (bh ρ iv) J ds F1 ρ1 H1->R J H1)
section
variable{K:PySem.W.Frag}{F F1 H H1:Hp}{ρ ρ1:List Sl}{σ:L2.St}{ds:List D}{a:Addr}
theorem yK{xs:List V}{F' H':Hp}(hq:gO K H' a xs)(r:aF K F' xs ds)(s:aH F' H')(k:Nat):(∀d,ds[k]?=some d->(RJ K a).go k H'/\∀x jL,(RJ K a).Gw k H' x jL->∃F'',Ext F' H' F'' jL/\Rep K F'' x d)/\(ds.length<=k->(RJ K a).stop k H'):=by refine⟨fun d hd=>?_,fun h=>⟨xs,hq,by rw[r.length];exact h⟩⟩;obtain⟨w,h1,h2⟩:=r.get hd;refine⟨⟨xs,w,hq,h1⟩,?_⟩;rintro x jL⟨e,y⟩;subst e;have:=y xs hq;rw[h1]at this;cases this;exact⟨F',.refl s,h2⟩
theorem pD{xs:List V}{F' H':Hp}(hq:dM K H' a xs)(r:aF K F' xs ds)(s:aH F' H')(k:Nat):(∀d,ds[k]?=some d->(Mv K a).go k H'/\∀x jL,(Mv K a).Gw k H' x jL->∃F'',Ext F' H' F'' jL/\Rep K F'' x d)/\(ds.length<=k->(Mv K a).stop k H'):=by refine⟨fun d hd=>?_,fun h=>⟨xs,hq,by rw[r.length];exact h⟩⟩;obtain⟨w,h1,h2⟩:=r.get hd;refine⟨⟨xs,w,hq,h1⟩,?_⟩;rintro x jL⟨e,y⟩;subst e;have:=y xs hq;rw[h1]at this;cases this;exact⟨F',.refl s,h2⟩
theorem uA{ul:List Sl->List Sl}{v:V}{d:D}(s:aq K F ρ σ H F1 ρ1 σ H1)(r:Rep K F1 v d)(hi:items d=some ds)(fin:∀F2 ρ2 σ2 H2,aq K F1 ρ1 σ H1 F2 ρ2 σ2 H2->aq K F ρ σ H F2 (ul ρ2) σ2 H2/\∀v r,bV K F2 ρ2 σ2 H2 ρ1 σ H1 v r->bV K F2 (ul ρ2) σ2 H2 ρ σ H v r):∃a,v=.ref a/\(((∃xs,dM K H1 a xs)/\Walk K F ρ σ H ul (Mv K a) ds F1 ρ1 H1)\/((∃xs,gO K H1 a xs)/\Walk K F ρ σ H ul (RJ K a) ds F1 ρ1 H1)):=by cases d with|tup es=>cases hi;rw[Rep]at r;obtain⟨a,xs,rfl,h1,h2⟩:=r;exact⟨a,rfl,.inr ⟨⟨xs,aH.fM s.gs.sub h1⟩,s.gs,fun n k F' ρ' σ' H' s'=>yK (aH.fM s'.gs.sub (aH.fM s'.bY h1)) (h2.mono s'.bY) s'.gs.sub k,fin⟩⟩|lst es=>cases hi;rw[Rep]at r;obtain⟨a,xs,rfl,h1,h2⟩:=r;exact⟨a,rfl,.inl ⟨⟨xs,s.gs.sub.seq h1⟩,s.gs,fun n k F' ρ' σ' H' s'=>pD (s'.gs.sub.seq (s'.bY.seq h1)) (h2.mono s'.bY) s'.gs.sub k,fin⟩⟩|_=>cases hi
theorem qC{i:Nat}{ul:List Sl->List Sl}(g:GS K F ρ1 σ H)(e:ρ1[i]?=some (.lent ds))(fin:∀F2 ρ2 σ2 H2,aq K F ρ1 σ H F2 ρ2 σ2 H2->aq K F ρ σ H F2 (ul ρ2) σ2 H2/\∀v r,bV K F2 ρ2 σ2 H2 ρ1 σ H v r->bV K F2 (ul ρ2) σ2 H2 ρ σ H v r):∃a,σ[i]?=some (some (.ref a))/\(∃xs,dM K H a xs)/\Walk K F ρ σ H ul (Mv K a) ds F ρ1 H:=by obtain⟨a,xs,h1,h2,h3,h4⟩:=g.oU i _ ds e rfl;have hi:i<ρ1.length:=(List.getElem?_eq_some_iff.mp e).1;refine⟨a,h1,⟨xs,dM.of h2⟩,g,fun n k F' ρ' σ' H' s'=>?_,fin⟩;obtain⟨z1,t,z2,z3⟩:=s'.lk i _ (by rw[getElem?_append_left hi];exact e) rfl;cases(show t=.lent ds from z3);rw[getElem?_append_left (by rw[<-g.len];exact hi),h1]at z1;obtain⟨a',ys,w1,w2,w3,w4⟩:=s'.gs.oU i _ ds z2 rfl;rw[z1]at w1;cases w1;exact pD (dM.of w2) w4 s'.gs.sub k
end
section
variable{X:Cx}{c:Call}{n:Nat}{e a b d tg:Expr}{p pa pb pd:P}{pos:Pos}
theorem oh{t t':TI}(h:PI X tg e t)(i:∀σ H R,t' σ H R->t σ H R):PI X tg e t':=fun pins s σ H R I q=>h pins s σ H R I (i σ H R q)
def SI(X:Cx)(c:Call)(tg e:Expr)(p:P):Prop:=PI X tg e (Z4 X.K (isVar p) (HH.ev c p))
theorem bH(h:SX X c e p):SI X c tg e p:=by unfold SI;cases hv:isVar p with|none=>refine oh (wF h.ev) ?_;rintro σ H R⟨F,ρ,ds,ρ1,g,e,k⟩;obtain⟨r,ρ2,e1,e2⟩:=aa e;have zz:=aG e2;clear e2;obtain⟨e2,e3⟩:=zz;subst e3;refine⟨F,ρ,r,_,g,e1,fun v F' H' s rr=>?_⟩;obtain⟨F2,s2,_,rp⟩:=s.cG rr;obtain⟨a,ha,hw⟩:=uA (ul:=bh ρ none) s2 rp e2 fun F3 ρ3 σ3 H3 s3=>⟨s2.trans s3,fun v r rr=>rr.later s2⟩;exact⟨a,ha,hw.imp (fun⟨z,w⟩=>⟨z,k _ _ _ w⟩) (fun⟨z,w⟩=>⟨z,k _ _ _ w⟩)⟩|some i=>
   refine oh (wF (h.var i hv)) ?_;rintro σ H R⟨F,ρ,ds,ρ1,g,e,k⟩;unfold srcOf at e;dsimp only at e;split at e
   . rename_i b d q;have zz:=aG e;clear e;obtain⟨e2,e3⟩:=zz;subst e3;obtain⟨v,h1,h2⟩:=g.val i b d q;have fin:∀F2 ρ2 σ2 H2,aq X.K F ρ σ H F2 ρ2 σ2 H2->aq X.K F ρ σ H F2 (bh ρ (some i) ρ2) σ2 H2/\∀v r,bV X.K F2 ρ2 σ2 H2 ρ σ H v r->bV X.K F2 (bh ρ (some i) ρ2) σ2 H2 ρ σ H v r:=fun F2 ρ2 σ2 H2 s=>by unfold bh;dsimp only;rw[q];exact⟨s,fun _ _ z=>z⟩
     obtain⟨a,ha,hw⟩:=uA (ul:=bh ρ (some i)) (.refl g) h2 e2 fin;exact⟨v,h1,a,ha,hw.imp (fun⟨z,w⟩=>⟨z,k _ _ _ w⟩) (fun⟨z,w⟩=>⟨z,k _ _ _ w⟩)⟩
   . rename_i b ds' q;cases e;have hi:i<ρ.length:=(List.getElem?_eq_some_iff.mp q).1;have fin:∀F2 ρ2 σ2 H2,aq X.K F (ρ.set i (.lent ds)) σ H F2 ρ2 σ2 H2->aq X.K F ρ σ H F2 (bh ρ (some i) ρ2) σ2 H2/\∀v r,bV X.K F2 ρ2 σ2 H2 (ρ.set i (.lent ds)) σ H v r->bV X.K F2 (bh ρ (some i) ρ2) σ2 H2 ρ σ H v r:=fun F2 ρ2 σ2 H2 s=>by unfold bh;dsimp only;rw[q];exact aq.bh g q s
     obtain⟨a,h1,hx,w⟩:=qC (ul:=bh ρ (some i)) (g.lend q) (getElem?_set_self hi) fin;exact⟨_,h1,a,rfl,.inl ⟨hx,k _ _ _ w⟩⟩
   . rename_i ds' q;cases e;have fin:∀F2 ρ2 σ2 H2,aq X.K F ρ σ H F2 ρ2 σ2 H2->aq X.K F ρ σ H F2 (bh ρ (some i) ρ2) σ2 H2/\∀v r,bV X.K F2 ρ2 σ2 H2 ρ σ H v r->bV X.K F2 (bh ρ (some i) ρ2) σ2 H2 ρ σ H v r:=fun F2 ρ2 σ2 H2 s=>by unfold bh;dsimp only;rw[q];exact⟨s,fun _ _ z=>z⟩
     obtain⟨a,h1,hx,w⟩:=qC (ul:=bh ρ (some i)) g q fin;exact⟨_,h1,a,rfl,.inl ⟨hx,k _ _ _ w⟩⟩
   .cases e
theorem FN{K:PySem.W.Frag}{F F1 H H1:Hp}{ρ ρ1:List Sl}{σ:L2.St}(s:aq K F ρ σ H F1 ρ1 σ H1)(i j:Int):Walk K F ρ σ H (bh ρ none) (Us i (j-i).toNat) ((List.range (j-i).toNat).map fun(k:Nat)=>D.int (i+(k:Int))) F1 ρ1 H1:=by
 refine⟨s.gs,fun n k F' ρ' σ' H' s'=>⟨fun d hd=>?_,fun h=>?_⟩,fun F3 ρ3 σ3 H3 s3=>⟨s.trans s3,fun v r rr=>rr.later s⟩⟩;.rw[getElem?_map]at hd;obtain⟨m,e1,e2⟩:=map_some hd;obtain⟨h1,h2⟩:=List.getElem?_eq_some_iff.mp e1;rw[List.getElem_range]at h2;subst h2;subst e2;rw[length_range]at h1;refine⟨h1,?_⟩;rintro x jL⟨q1,q2⟩;subst q1;subst q2;exact⟨F',.refl s'.gs.sub,bA _⟩
 .rw[length_map,length_range]at h;exact h
theorem ni{x:Str}{p':Pos}(hx:x="range")(hg:Gl X x)(hm:X.mg x=none)(ha:SX X c a pa)(hs:starEach [a] X.env=[(false,eval a X.env)]:=by rfl):SI X c tg (.Call (.Name x p') [a] [] pos) (.zq (.con (.int 0)) pa):=by
 subst hx;obtain⟨ta,h1,h2⟩:=ha.bW;refine oh (p6 hg hm (cV h1 fB hs) hs) ?_;rintro σ H R⟨F,ρ,ds,ρ1,g,e,k⟩;obtain⟨r,ρ2,e1,e2⟩:=aa e;have zz:=aG e2;clear e2;obtain⟨e2,e3⟩:=zz;subst e3;rw[HH.E18]at e1;obtain⟨xy,ρ3,e4,e5⟩:=aa e1;have zz:=aG e5;clear e5;obtain⟨e5,e6⟩:=zz;subst e6;obtain⟨y0,ρ5,e9,e10⟩:=aa e4;cases e10;obtain⟨i,f1,e5⟩:=bU e5;obtain⟨j,f2,e5⟩:=bU e5;obtain⟨⟨b1,b2,b3,b4⟩,e5⟩:=bj e5;have f1:i=0:=by cases f1;rfl
 subst f1;subst e5;cases e2;cases cQ f2;refine h2 g e9 fun v F' H' s pv=>⟨j,by rw[pv.int],by omega,by omega,?_⟩;have:=FN s 0 j;rw[sub_zero]at this;refine k _ F' H' ?_;rw[sub_zero];exact this
end
section
variable{X:Cx}{c:Call}{n:Nat}{e a b d tg iter:Expr}{p pa pb pd:P}{pos:Pos}{body:List Stmt}{ss:List S}
def HQ(K:PySem.W.Frag)(bd:List Sl->D->Option (List Sl))(g:TG):Prop:=∀(x:V)(d:D)(F:Hp)(ρ ρ':List Sl)(σ:L2.St)(H:Hp)(Q:L2.St->Hp->Prop),GS K F ρ σ H->Rep K F x d->bd ρ d=some ρ'->(∀σ',aq K F ρ σ H F ρ' σ' H->Q σ' H)->g x σ H Q
theorem rZ{K:PySem.W.Frag}(i:Nat):HQ K (fun ρ d=>put ρ i (.val false d)) (iw i):=fun x d F ρ ρ' σ H Q g r h k=>k _ (aq.put (r:=.val d) (.refl g) r h)
theorem cW{K:PySem.W.Frag}:∀(is:List Nat)(gs:Bl),(∀(xs:List V)(ds:List D)(F:Hp)(ρ ρ':List Sl)(σ:L2.St)(H:Hp)(Q:L2.St->Hp->Prop),GS K F ρ σ H->aF K F xs ds->putAll ρ is ds=some ρ'->(∀σ',aq K F ρ σ H F ρ' σ' H->Q σ' H)->gs xs σ H Q)->∀i,∀(xs:List V)(ds:List D)(F:Hp)(ρ ρ':List Sl)(σ:L2.St)(H:Hp)(Q:L2.St->Hp->Prop),GS K F ρ σ H->aF K F xs ds->putAll ρ (i::is) ds=some ρ'->(∀σ',aq K F ρ σ H F ρ' σ' H->Q σ' H)->Dl (iw i) gs xs σ H Q:=by intro is gs ih i xs ds F ρ ρ' σ H Q g r h k;cases ds with|nil=>simp[putAll]at h|cons d ds=>obtain⟨v,vs,rfl,h1,h2⟩:=r.cj;rw[putAll]at h;obtain⟨ρ1,e1,e2⟩:=bU h;have s1:=aq.put (r:=.val d) (.refl g) h1 e1;refine⟨v,vs,rfl,ih vs ds F ρ1 ρ' _ H _ s1.gs h2 e2 fun σ' s2=>k σ' (s1.trans s2)⟩
theorem jh{K:PySem.W.Frag}:∀(xs:List V)(ds:List D)(F:Hp)(ρ ρ':List Sl)(σ:L2.St)(H:Hp)(Q:L2.St->Hp->Prop),GS K F ρ σ H->aF K F xs ds->putAll ρ [] ds=some ρ'->(∀σ',aq K F ρ σ H F ρ' σ' H->Q σ' H)->Ly xs σ H Q:=by intro xs ds F ρ ρ' σ H Q g r h k;cases ds with|nil=>rw[putAll]at h;cases h;exact⟨r.fP,k σ (.refl g)⟩|cons d ds=>simp[putAll]at h
theorem jE:∀{is:List Nat}{ds:List D}{ρ ρ':List Sl},putAll ρ is ds=some ρ'->ds.length=is.length|[],[],_,_,_=>rfl|[],_::_,_,_,h=>by simp[putAll]at h|_::_,[],_,_,h=>by simp[putAll]at h|i::is,d::ds,ρ,ρ',h=>by rw[putAll]at h;obtain⟨ρ1,e1,e2⟩:=bU h;simp[jE e2]
theorem lq{K:PySem.W.Frag}{is:List Nat}{gs:Bl}{m:Nat}(hm:m=is.length)(h:∀(xs:List V)(ds:List D)(F:Hp)(ρ ρ':List Sl)(σ:L2.St)(H:Hp)(Q:L2.St->Hp->Prop),GS K F ρ σ H->aF K F xs ds->putAll ρ is ds=some ρ'->(∀σ',aq K F ρ σ H F ρ' σ' H->Q σ' H)->gs xs σ H Q):HQ K (fun ρ d=>cB ρ is false d) (Nr K m gs):=by intro x d F ρ ρ' σ H Q g r hb k;replace hb:cB ρ is false d=some ρ':=hb;cases d with|tup ds=>replace hb:putAll ρ is ds=some ρ':=hb;rw[Rep]at r;obtain⟨a,xs,rfl,h1,h2⟩:=r;exact⟨a,xs,rfl,aH.fM g.sub h1,by rw[h2.length,jE hb,hm],h xs _ F ρ ρ' σ H Q g h2 hb k⟩|_=>cases hb
theorem jH{g:TG}{is:List Nat}{one:Bool}(hp:PassesOwn (model X.prog X.w) X.A X.env X.xe)(hc:X.calm=true)(hi:SI X c tg iter p)(hg:PG X tg g)(hgo:HQ X.K (fun ρ d=>cB ρ is one d) g)(hb:SB X c n body ss)(hs:∀x,foldedSetIterable iter X.env x=pure x:=by intro _;rfl):SS X c n (.For tg iter body [] pos) (.gV p is one ss):=by
 refine dB (Bq hp hc hi hg hb hs) ?_;rintro D σ H⟨F,ρ,fl,ρ',g0,e,k⟩;rw[HH.Ze]at e;obtain⟨ds,ρ1,e1,e⟩:=aa e;obtain⟨fl',ρ2,e2,e⟩:=aa e;cases e;refine⟨F,ρ,ds,ρ1,g0,e1,fun J F1 H1 w=>?_⟩;have src:∀(i:Nat)(F':Hp)(ρ':List Sl)(σ':L2.St)(H':Hp),aq X.K F1 ρ1 σ H1 F' ρ' σ' H'->(∀d,ds[i]?=some d->J.go i H'/\∀x jL,J.Gw i H' x jL->∃F'',Ext F' H' F'' jL/\Rep X.K F'' x d)/\(ds.length<=i->J.stop i H'):=fun i F' ρ' σ' H' s=>w.src 0 i F' ρ' σ' H' (by simpa using s);refine⟨fun i m σi Hi=>∃Fi ρi,aq X.K F1 ρ1 σ H1 Fi ρi σi Hi/\m=ds.length-i/\i<=ds.length/\gw is one (gH c n ss) (ds.drop i) ρi=.ok fl ρ2,⟨_,F1,ρ1,.refl w.gs,rfl,zero_le _,e2⟩,?_⟩;rintro i m σi Hi⟨Fi,ρi,si,rfl,hle,ei⟩;obtain⟨s1,s2⟩:=src i Fi ρi σi Hi si;by_cases hlt:i<ds.length
 . right;have hd:ds[i]?=some ds[i]:=by simp[hlt]
   obtain⟨go,step⟩:=s1 _ hd;refine⟨go,fun σ' H'=>∃m',m'<ds.length-i/\∃Fi ρi,aq X.K F1 ρ1 σ H1 Fi ρi σ' H'/\m'=ds.length-(i+1)/\i+1<=ds.length/\gw is one (gH c n ss) (ds.drop (i+1)) ρi=.ok fl ρ2,fun σ' H' z=>z,fun x H' y=>?_⟩;obtain⟨F2,ext,rx⟩:=step x H' y;have si2:=si.trans (ext.stp si.gs);rw[drop_eq_getElem_cons hlt,gw]at ei;cases hbd:cB ρi is one ds[i]with|none=>rw[hbd]at ei;cases ei|some ρb=>rw[hbd]at ei;obtain⟨flb,ρc,eb,ei⟩:=aa ei;refine hgo x _ F2 ρi ρb σi H' _ si2.gs rx hbd fun σ2 sb=>?_;have si3:=si2.trans sb;refine⟨F2,ρb,flb,ρc,si3.gs,eb,fun F4 σ4 H4 s4=>?_⟩;have YD:=si3.trans s4;cases flb with|next=>exact⟨_,by omega,F4,ρc,YD,rfl,hlt,ei⟩|cont=>exact⟨_,by omega,F4,ρc,YD,rfl,hlt,ei⟩|brk=>cases ei;exact k F4 σ4 H4 (w.fin _ _ _ _ YD).1|ret r=>cases ei;intro v rr;obtain⟨z1,z2⟩:=w.fin _ _ _ _ YD;exact k F4 σ4 H4 z1 v (z2 v r (rr.later si3))
 . left;have hdr:ds.drop i=[]:=by rw[drop_eq_nil_iff];omega
   rw[hdr,gw]at ei;cases ei;exact⟨s2 (by omega),k Fi σi Hi (w.fin _ _ _ _ si).1⟩
theorem lg(i:Nat):(fun(ρ:List Sl)(d:D)=>cB ρ [i] true d)=fun ρ d=>put ρ i (.val false d):=by funext ρ d;rfl
theorem yh{i:Nat}{x:Str}{pos':Pos}(hp:PassesOwn (model X.prog X.w) X.A X.env X.xe)(hc:X.calm=true)(hN:X.N.Nodup)(hx0:X.N[i]?=some x)(hx:Loc X.env.scope x)(hi:SI X c (.Name x pos') iter p)(hb:SB X c n body ss)(hs:∀x,foldedSetIterable iter X.env x=pure x:=by intro _;rfl)(hf:X.fn x=true\/X.env.scope.names.lookup x=some .local:=by first|exact .inl rfl|exact .inr rfl|assumption):SS X c n (.For (.Name x pos') iter body [] pos) (.gV p [i] true ss):=jH hp hc hi (aK hN hx0 hx hf) (by rw[lg];exact rZ i) hb hs
theorem vG(hp:PassesOwn (model X.prog X.w) X.A X.env X.xe)(ht:ST X c e p)(hb:SB X c n body ss):SS X c n (.While e body [] pos) (.whl p ss):=by refine dB (FP hp ht hb) ?_;rintro D σ H⟨F,ρ,fl,ρ',g,e,k⟩;rw[HH.X13]at e;refine⟨fun m σi Hi=>∃Fi ρi,aq X.K F ρ σ H Fi ρi σi Hi/\pM (jk (HH.ev c p)) (gH c n ss) m ρi=.ok fl ρ',⟨n,F,ρ,.refl g,e⟩,?_⟩;rintro m σi Hi⟨Fi,ρi,si,ei⟩;cases m with|zero=>rw[pM]at ei;cases ei|succ m=>rw[pM]at ei;obtain⟨b,ρ1,e1,ei⟩:=aa ei;refine⟨Fi,ρi,b,ρ1,si.gs,e1,fun F1 H1 s1=>?_⟩;have s2:=si.trans s1;cases b with|false=>rw[if_neg Bool.false_ne_true]at ei;cases ei;exact k F1 σi H1 s2|true=>rw[if_pos rfl]at ei;obtain⟨flb,ρc,eb,ei⟩:=aa ei;refine(show ∃N:L2.St->Hp->Prop,_/\_ from⟨fun σ' H'=>∃m',m'<m+1/\∃Fi ρi,aq X.K F ρ σ H Fi ρi σ' H'/\pM (jk (HH.ev c p)) (gH c n ss) m' ρi=.ok fl ρ',fun σ' H' z=>z,F1,ρ1,flb,ρc,s2.gs,eb,fun F4 σ4 H4 s4=>?_⟩);have s5:=s2.trans s4;cases flb with|next=>exact⟨m,by omega,F4,ρc,s5,ei⟩|cont=>exact⟨m,by omega,F4,ρc,s5,ei⟩|brk=>cases ei;exact k F4 σ4 H4 s5|ret r=>cases ei;exact fun v rr=>k F4 σ4 H4 s5 v (rr.later s2)
end
section
variable{X:Cx}{c:Call}{n:Nat}{e elt tg iter:Expr}{p ps pe:P}{pos:Pos}{scope:Scope}{N':List Str}{ifs:List Expr}
theorem Pa{t t':TE}(h:PE X e t)(i:∀σ H Q,σ.length=X.N.length->t' σ H Q->t σ H Q):PE X e t':=fun pins s σ H Q I q=>h pins s σ H Q I (i σ H Q I.len q)
theorem Oj{st:Stmt}{t t':TS}(h:PS X st t)(i:∀D σ H,σ.length=X.N.length->t' D σ H->t D σ H):PS X st t':=fun pins s σ H D I q=>h pins s σ H D I (i D σ H I.len q)
def mG(K:PySem.W.Frag)(m:Nat)(is:List Nat)(one:Bool)(g:TG):Prop:=∀(x:V)(d:D)(F:Hp)(ρ ρ':List Sl)(σ:L2.St)(H:Hp)(Q:L2.St->Hp->Prop),GS K F ρ σ H->Rep K F x d->cB ρ is one d=some ρ'->(∀σ',aq K F ρ σ H F ρ' σ' H->σ'.take m=σ.take m->Q σ' H)->g x σ H Q
theorem take_set{α:Type}{l:List α}{i m:Nat}{a:α}(h:m<=i):(l.set i a).take m=l.take m:=by rw[List.take_set_of_le h]
theorem dD{K:PySem.W.Frag}{i m:Nat}(h:m<=i):mG K m [i] true (iw i):=fun x d F ρ ρ' σ H Q g r hb k=>k _ (aq.put (r:=.val d) (.refl g) r hb) (take_set h)
def Hh(K:PySem.W.Frag)(m:Nat)(is:List Nat)(gs:Bl):Prop:=∀(xs:List V)(ds:List D)(F:Hp)(ρ ρ':List Sl)(σ:L2.St)(H:Hp)(Q:L2.St->Hp->Prop),GS K F ρ σ H->aF K F xs ds->putAll ρ is ds=some ρ'->(∀σ',aq K F ρ σ H F ρ' σ' H->σ'.take m=σ.take m->Q σ' H)->gs xs σ H Q
theorem bZ{K:PySem.W.Frag}{m i:Nat}{is:List Nat}{gs:Bl}(hi:m<=i)(ih:Hh K m is gs):Hh K m (i::is) (Dl (iw i) gs):=by intro xs ds F ρ ρ' σ H Q g r h k;cases ds with|nil=>simp[putAll]at h|cons d ds=>obtain⟨v,vs,rfl,h1,h2⟩:=r.cj;rw[putAll]at h;obtain⟨ρ1,e1,e2⟩:=bU h;have s1:=aq.put (r:=.val d) (.refl g) h1 e1;exact⟨v,vs,rfl,ih vs ds F ρ1 ρ' _ H _ s1.gs h2 e2 fun σ' s2 z=>k σ' (s1.trans s2) (z.trans (take_set hi))⟩
theorem iW{K:PySem.W.Frag}{m:Nat}:Hh K m [] Ly:=by intro xs ds F ρ ρ' σ H Q g r h k;cases ds with|nil=>rw[putAll]at h;cases h;exact⟨r.fP,k σ (.refl g) rfl⟩|cons d ds=>simp[putAll]at h
theorem je{K:PySem.W.Frag}{is:List Nat}{gs:Bl}{m l:Nat}(hm:l=is.length)(h:Hh K m is gs):mG K m is false (Nr K l gs):=by intro x d F ρ ρ' σ H Q g r hb k;cases d with|tup ds=>replace hb:putAll ρ is ds=some ρ':=hb;rw[Rep]at r;obtain⟨a,xs,rfl,h1,h2⟩:=r;exact⟨a,xs,rfl,aH.fM g.sub h1,by rw[h2.length,jE hb,hm],h xs _ F ρ ρ' σ H Q g h2 hb k⟩|_=>cases hb
def SQ(X:Cx)(c:Call)(ifs:List Expr)(t:Option P):Prop:=MJ X ifs (Fw X.K (sH c t))
theorem du:SQ X c [] none:=fun pins s σ H Q I⟨F,ρ,k,ρ',g,e,q⟩=>by rw[sH]at e;cases e;exact Jg pins s σ H Q I (q F H (.refl g))
theorem mY(h:ST X c e p):SQ X c [e] (some p):=fun pins s σ H Q I⟨F,ρ,k,ρ',g,e,q⟩=>by rw[sH]at e;exact Il h pins s σ H Q I ⟨F,ρ,k,ρ',g,e,q⟩
theorem aq.CW{K:PySem.W.Frag}{F H F1 H1:Hp}{ρ ρ1:List Sl}{σ σ1:L2.St}{Da:Addr}{o:HO}(s:aq K F ρ σ H F1 ρ1 σ1 H1)(h:H Da=none)(hf:F1 Da=none)(ho:¬ Own ρ1 σ1 Da):aq K F ρ σ H F1 ρ1 σ1 (upd H1 Da o):=by
 refine⟨⟨fun b u e=>?_,s.gs.len,s.gs.val,fun i t ds e e'=>?_,s.gs.dis⟩,s.bY,s.vf,fun b u e n=>?_,s.tE,s.len,s.lk⟩
 . have:b≠Da:=by rintro rfl;rw[hf]at e;cases e
   rw[az this];exact s.gs.sub b u e
 . obtain⟨a,xs,q1,q2,q3,q4⟩:=s.gs.own i t ds e e';have:a≠Da:=by rintro rfl;exact ho ⟨i,⟨t,ds,e,e'⟩,q1⟩
   exact⟨a,xs,q1,by rw[az this];exact q2,q3,q4⟩
 . have:b≠Da:=by rintro rfl;rw[h]at e;cases e
   rw[az this];exact s.keep b u e n
theorem BL{K:PySem.W.Frag}{F H:Hp}{ρ ρ1 ρ2:List Sl}{σ:L2.St}{ul:List Sl->List Sl}{ti:TI}{is:List Nat}{one:Bool}{test:List Sl->Res Bool}{el:Ev}{g:TG}{Q:VK}{ds xs:List D}{m:Nat}(hm:σ.length=m)(hgo:mG K m is one g)(hti:∀R:It->Hp->Prop,(∀J F1 H1,Walk K F ρ σ H ul J ds F1 ρ1 H1->R J H1)->ti σ H R)(hlim:ds.length<=lim)(e2:turns is one test el ds [] (ρ1++replicate n .aU)=.ok xs ρ2)(k:∀v F' H',aq K F ρ σ H F' (ul (ρ2.take ρ1.length)) σ H'->bV K F' (ul (ρ2.take ρ1.length)) σ H' ρ σ H v (.own xs)->Q v H'):qu n ti g (Fw K test) (yE K el) σ H Q:=by
 refine hti _ fun J F1 H1 w Da zx=>?_;have hl1:ρ1.length=σ.length:=w.gs.len;have gm:=w.gs.more (n:=n) (τ:=replicate n none) (by simp);have fD:F1 Da=none:=by cases q:F1 Da with|none=>rfl|some o=>rw[w.gs.sub Da o q]at zx;cases zx
 have nO:¬ Own (ρ1++replicate n .aU) (σ++replicate n none) Da:=fun⟨i,⟨t,dt,q1,q2⟩,q3⟩=>by obtain⟨a,ys,z1,z2,_⟩:=gm.own i t dt q1 q2;rw[q3]at z1;cases z1;rw[zx]at z2;cases z2
 refine⟨fun i mm ys σi Hi=>∃Fi ρi acc,aq K F1 (ρ1++replicate n .aU) (σ++replicate n none) H1 Fi ρi σi Hi/\σi.take m=σ/\Hi Da=some (.lst ys)/\Fi Da=none/\¬ Own ρi σi Da/\aF K Fi ys acc/\acc.length<=i/\mm=ds.length-i/\i<=ds.length/\turns is one test el (ds.drop i) acc ρi=.ok xs ρ2,⟨_,F1,_,[],(aq.refl gm).CW zx fD nO,by rw[List.take_append_of_le_length (by omega),List.take_of_length_le (by omega)],aJ,fD,nO,.nil,zero_le _,rfl,zero_le _,e2⟩,?_⟩;rintro i mm ys σi Hi⟨Fi,ρi,acc,si,hσ,hD,hF,hO,rs,hacc,rfl,hle,ei⟩;refine⟨hD,?_⟩--what stays of the new list through a step
 have stay:∀{F2 H2:Hp}{ρ3:List Sl}{σ2:L2.St},aq K Fi ρi σi Hi F2 ρ3 σ2 H2->H2 Da=some (.lst ys)/\F2 Da=none/\¬ Own ρ3 σ2 Da:=fun{F2 H2 ρ3 σ2}s=>by
  refine⟨s.keep Da _ hD hO,?_,fun o=>?_⟩;.cases q:F2 Da with|none=>rfl|some o=>
      rcases s.vf Da hF (by rw[q];simp)with z|z;.exact absurd z hO
      .exact(Bu hD z).elim
  . rcases s.tE Da o with z|z;.exact hO z
    .rw[hD]at z;cases z
 obtain⟨s1,s2⟩:=w.src n i Fi ρi σi Hi si;by_cases hlt:i<ds.length
 . right;have hd:ds[i]?=some ds[i]:=by simp[hlt]
   obtain⟨go,step⟩:=s1 _ hd;refine⟨go,fun x H2 y=>?_⟩;obtain⟨F2,ext,rx⟩:=step x H2 y;have t2:=ext.stp si.gs;rw[drop_eq_getElem_cons hlt,turns]at ei;cases hbd:cB ρi is one ds[i]with|none=>rw[hbd]at ei;cases ei|some ρb=>rw[hbd]at ei;obtain⟨bb,ρc,eb,ei⟩:=aa ei;refine hgo x _ F2 ρi ρb σi H2 _ t2.gs rx hbd fun σ2 sb htk=>?_;have t3:=t2.trans sb;refine⟨F2,ρb,bb,ρc,t3.gs,eb,fun F4 H4 s4=>?_⟩;have t4:=t3.trans s4;cases bb with|false=>rw[if_neg Bool.false_ne_true]at ei;obtain⟨y1,y2,y3⟩:=stay t4;exact⟨_,by omega,F4,ρc,acc,si.trans t4,htk.trans hσ,y1,y2,y3,rs.mono t4.bY,by omega,rfl,hlt,ei⟩|true=>
       rw[if_pos rfl]at ei;obtain⟨re,ρe,ee,ei⟩:=aa ei;refine(show yE K el σ2 H4 _ from⟨F4,ρc,re,ρe,t4.gs,ee,fun v F5 H5 s5 rr=>?_⟩);obtain⟨F6,s6,_,rp⟩:=s5.cG rr;have t6:=t4.trans s6;obtain⟨y1,y2,y3⟩:=stay t6;have hlen:ys.length<sizeLine:=by have h1:=rs.length;have h2:lim=sizeLine:=rfl;omega
       exact⟨y1,hlen,_,by omega,F6,ρe,acc++[re.d],(si.trans t6).CW zx y2 y3,htk.trans hσ,aJ,y2,y3,(rs.mono t6.bY).append (.cons rp .nil),by simp;omega,rfl,hlt,ei⟩
 . left;have hdr:ds.drop i=[]:=by rw[drop_eq_nil_iff];omega
   rw[hdr,turns]at ei;cases ei;refine⟨s2 (by omega),?_⟩;obtain⟨l1,l2⟩:=aq.less (m:=ρ1.length) rfl w.gs (by simp) si;have hst:σi.take ρ1.length=σ:=by rw[hl1,hm];exact hσ
   rw[hst]at l1;have rr:bV K Fi ρ2 σi Hi (ρ1++replicate n .aU) (σ++replicate n none) H1 (.ref Da) (.own xs):=⟨Da,ys,rfl,hD,hF,rs,hO,.inr zx⟩;have La:=l2 _ _ rr;rw[hst]at La;obtain⟨z1,z2⟩:=w.fin _ _ _ _ l1;exact k _ Fi Hi z1 (z2 _ _ La)
theorem xP{K:PySem.W.Frag}{F H:Hp}{ρ:List Sl}{σ:L2.St}{iv:Option Nat}{f:Ev}{is:List Nat}{one:Bool}{test:List Sl->Res Bool}{el:Ev}{g:TG}{Q:VK}{r:R}{ρ':List Sl}{m:Nat}(hm:σ.length=m)(hgo:mG K m is one g)(g0:GS K F ρ σ H)(e:((srcOf iv f ρ).bind fun ds ρ₁=>if ds.length<=lim then(turns is one test el ds [] (ρ₁++replicate n .aU)).bind fun xs ρ₂=>Res.ok (R.own xs) (bh ρ iv (ρ₂.take ρ₁.length))else .stuck)=.ok r ρ')(k:∀v F' H',aq K F ρ σ H F' ρ' σ H'->bV K F' ρ' σ H' ρ σ H v r->Q v H'):qu n (Z4 K iv f) g (Fw K test) (yE K el) σ H Q:=by
 obtain⟨ds,ρ1,e1,e⟩:=aa e;split at e;.rename_i hlim;obtain⟨xs,ρ2,e2,e⟩:=aa e;cases e;exact BL hm hgo (fun R h=>⟨F,ρ,ds,ρ1,g0,e1,h⟩) hlim e2 k
 .cases e
theorem cI{g:TG}{is:List Nat}{one:Bool}{t:Option P}(hc:X.calm=true)(ok:eN X scope N' n)(hi:SI X c tg iter ps)(hg:∀cl C s₀ H₀ ex,PG (qe X scope N' cl C s₀ H₀ ex) tg g)(hgo:mG X.K X.N.length is one g)(ht:∀cl C s₀ H₀ ex,SQ (qe X scope N' cl C s₀ H₀ ex) c ifs t)(he:∀cl C s₀ H₀ ex,SX (qe X scope N' cl C s₀ H₀ ex) c elt pe)(hs:∀x,foldedSetIterable iter X.env x=pure x:=by intro _;rfl):SX X c (.ListComp elt [⟨tg,iter,ifs,0⟩] scope pos) (.comp ps n is one t pe):=by refine⟨Pa (HW (tt:=Fw X.K (sH c t)) (te:=yE X.K (HH.ev c pe)) hc ok hi hg ht (fun cl C s₀ H₀ ex=>(he cl C s₀ H₀ ex).ev) hs) ?_,fun i h=>by cases h⟩;rintro σ H Q hl⟨F,ρ,r,ρ',g0,e,k⟩;rw[HH.E17]at e;exact xP hl hgo g0 e k
theorem Jd{i:Nat}{x:Str}{pos' spos:Pos}{nn:Nat}{g:TG}{is:List Nat}{one:Bool}{t:Option P}(hc:X.calm=true)(hN:X.N.Nodup)(hx0:X.N[i]?=some x)(hx:Loc X.env.scope x)(ok:eN X scope N' n)(hi:SI X c tg iter ps)(hg:∀cl C s₀ H₀ ex,PG (qe X scope N' cl C s₀ H₀ ex) tg g)(hgo:mG X.K X.N.length is one g)(ht:∀cl C s₀ H₀ ex,SQ (qe X scope N' cl C s₀ H₀ ex) c ifs t)(he:∀cl C s₀ H₀ ex,SX (qe X scope N' cl C s₀ H₀ ex) c elt pe)(hsw:swapsWith (.ListComp elt [⟨tg,iter,ifs,0⟩] scope pos) (some (.Name x pos')) spos.line X.env=pure true:=by rfl)(hs:∀x,foldedSetIterable iter X.env x=pure x:=by intro _;rfl)(hf:X.fn x=true\/X.env.scope.names.lookup x=some .local:=by first|exact .inl rfl|exact .inr rfl|assumption):SS X c nn (.Assign [.Name x pos'] (.ListComp elt [⟨tg,iter,ifs,0⟩] scope pos) spos) (.asg i (.comp ps n is one t pe)):=by refine Oj (zg (tt:=Fw X.K (sH c t)) (te:=yE X.K (HH.ev c pe)) hc hN hx0 hx ok hi hg ht (fun cl C s₀ H₀ ex=>(he cl C s₀ H₀ ex).ev) hsw hs hf) ?_;rintro D σ H hl⟨F,ρ,fl,ρ',g0,e,k⟩;rw[HH.X6]at e;obtain⟨r,ρ1,e1,e⟩:=aa e;obtain⟨ρ2,ρ3,e2,e⟩:=aa e;cases e;have zz:=aG e2;clear e2;obtain⟨e2,e3⟩:=zz;rw[HH.E17]at e1;exact xP hl hgo g0 e1 fun v F1 H1 s1 rr=>k F1 _ H1 (s1.put rr e2)
end
section
variable{X:Cx}{c:Call}{n:Nat}{e a b d:Expr}{p pa pb pd:P}{pos:Pos}{es:List Expr}{ps:List P}
inductive Zq(K:PySem.W.Frag)(f:List D->Option R)(xs:List V)(H:Hp)(Q:VK):Prop where|mk(F:Hp)(ds:List D)(r:R)(sm:aH F H)(rs:aF K F xs ds)(he:f ds=some r)(k:∀v F' H',Ext F H F' H'->bN K F' H' H v r->Q v H')
theorem KC{E:Expr}{f:List D->Option R}{q:P}(hp:∀{t},PA X es t->PE X E (WY (Zq X.K f) t))(ha:SA X c es ps)(hq:∀ρ,HH.ev c q ρ=(evs c ps ρ).bind fun ds ρ=>lift (f ds) ρ)(hv:isVar q=none):SX X c E q:=by refine⟨fJ (hp ha.1) ?_,fun i h=>by rw[hv]at h;cases h⟩;rintro σ H Q⟨F,ρ,r,ρ',g,e,k⟩;rw[hq]at e;obtain⟨ds,ρ1,e1,e2⟩:=aa e;have zz:=aG e2;clear e2;obtain⟨e2,e3⟩:=zz;subst e3;exact⟨F,ρ,ds,ρ1,g,e1,fun vs F' H' s rs=>⟨F',ds,r,s.gs.sub,rs,e2,fun w F2 H2 x rn=>k w F2 H2 (s.trans (x.stp s.gs)) (.later s (rn.nY s.gs))⟩⟩
theorem Ke{K:PySem.W.Frag}{F:Hp}{xs:List V}{i j:Int}(h:aF K F xs [.int i,.int j]):xs=[.int i,.int j]:=by obtain⟨v,r,rfl,h1,h2⟩:=h.cj;obtain⟨u,r2,rfl,h3,h4⟩:=h2.cj;rw[Rep]at h1 h3;rw[h1,h3,h4.fP]
theorem inv2{f:S5}{g:Int->Int->Int}{ds:List D}{r:R}(h0:blt f []=none)(h1:∀a,blt f [a]=none)(h3:∀a b c l,blt f (a::b::c::l)=none)(hn:∀a b,fK a=false->blt f [a,b]=none)(hm:∀i b,fK b=false->blt f [.int i,b]=none)(hi:∀i j,blt f [.int i,.int j]=some (.val (.int (g i j))))(he:blt f ds=some r):∃i j,ds=[.int i,.int j]/\r=.val (.int (g i j)):=by
 rcases ds with _|⟨a,_|⟨b,_|⟨c,l⟩⟩⟩;.rw[h0]at he;cases he
 .rw[h1]at he;cases he
 . by_cases ha:fK a=true
   . obtain⟨i,rfl⟩:∃i,a=.int i:=by cases a<;>first|exact⟨_,rfl⟩|cases ha
     by_cases hb:fK b=true
     . obtain⟨j,rfl⟩:∃j,b=.int j:=by cases b<;>first|exact⟨_,rfl⟩|cases hb
       rw[hi]at he;cases he;exact⟨i,j,rfl,rfl⟩
     .rw[hm i b (by simpa using hb)]at he;cases he
   .rw[hn a b (by simpa using ha)]at he;cases he
 .rw[h3]at he;cases he
theorem Np(hc:X.calm=true):dH X (.builtin "min") (Zq X.K (blt .min2)):=by rintro pins s σ H xs us Q I r⟨F,ds,r',sm,rs,he,k⟩;obtain⟨i,j,rfl,rfl⟩:=inv2 (g:=fun i j=>if j<i then j else i) rfl (fun a=>by cases a<;>rfl) (fun a b c l=>by cases a<;>first|rfl|(cases b<;>rfl)) (fun a b h=>by cases a<;>first|rfl|cases h) (fun i b h=>by cases b<;>first|rfl|cases h) (fun _ _=>rfl) he;rw[Ke rs]at r;exact zL hc pins s σ H _ us Q I r ⟨_,_,rfl,bN.cu sm (bA _) k⟩
theorem M5(hc:X.calm=true):dH X (.builtin "max") (Zq X.K (blt .max2)):=by rintro pins s σ H xs us Q I r⟨F,ds,r',sm,rs,he,k⟩;obtain⟨i,j,rfl,rfl⟩:=inv2 (g:=fun i j=>if i<j then j else i) rfl (fun a=>by cases a<;>rfl) (fun a b c l=>by cases a<;>first|rfl|(cases b<;>rfl)) (fun a b h=>by cases a<;>first|rfl|cases h) (fun i b h=>by cases b<;>first|rfl|cases h) (fun _ _=>rfl) he;rw[Ke rs]at r;exact Ai hc pins s σ H _ us Q I r ⟨_,_,rfl,bN.cu sm (bA _) k⟩
theorem boot_min:bootBuiltins "min"=some (.builtin "min"):=by decide+kernel
theorem boot_max:bootBuiltins "max"=some (.builtin "max"):=by decide+kernel
theorem xW{x:Str}{p':Pos}(hx:x="min")(hc:X.calm=true)(hg:Gl X x)(hm:X.mg x=none)(ha:SA X c [a,b] [pa,pb])(hs:starEach [a,b] X.env=(false,eval a X.env)::starEach [b] X.env:=by rfl)(hpl:(backTo pos (starEach [b] X.env)).any (·.1)=false:=by rfl):SX X c (.Call (.Name x p') [a,b] [] pos) (.blt .min2 [pa,pb]):=by subst hx;exact KC (fun h=>dW (Np hc) hg hm boot_min h (he:=hs) (hpl:=hpl)) ha (fun ρ=>rfl) rfl
theorem Hs{x:Str}{p':Pos}(hx:x="max")(hc:X.calm=true)(hg:Gl X x)(hm:X.mg x=none)(ha:SA X c [a,b] [pa,pb])(hs:starEach [a,b] X.env=(false,eval a X.env)::starEach [b] X.env:=by rfl)(hpl:(backTo pos (starEach [b] X.env)).any (·.1)=false:=by rfl):SX X c (.Call (.Name x p') [a,b] [] pos) (.blt .max2 [pa,pb]):=by subst hx;exact KC (fun h=>dW (M5 hc) hg hm boot_max h (he:=hs) (hpl:=hpl)) ha (fun ρ=>rfl) rfl
end
section
variable{X:Cx}{c:Call}{n:Nat}{e a b d:Expr}{p pa pb pd:P}{pos:Pos}{es:List Expr}{ps:List P}
theorem qT{K:PySem.W.Frag}{F H:Hp}{ρ:List Sl}{σ:L2.St}{i:Nat}{ds:List D}(g:GS K F ρ σ H)(h:wu ρ i=some ds):∃a xs,σ[i]?=some (some (V.ref a))/\dM K H a xs:=by
 unfold wu at h;split at h;.rename_i q;cases h;obtain⟨v,h1,h2⟩:=g.pk q;obtain⟨a,xs,rfl,h3,_⟩:=h2.lst g.sub;exact⟨a,xs,h1,h3⟩
 .cases h
theorem nD{x:Str}{k:Nat}{px tpos:Pos}(hN:X.N[k]?=some x)(hv:tu X.env.scope x)(hi:SX X c b pb)(he:SX X c e p)(ha:∀ v,assign (.Subscript (.Name x px) b tpos) X.env v=(do
  let ov<-holding [v] (eval (.Name x px) X.env)let iv<-holding [v,ov] (eval b X.env)standAt tpos
  holding [v,ov,iv] (setItem ov iv v)release [v,ov,iv] []):=by intro _;rfl)(hs:swapsWithSole [.Subscript (.Name x px) b tpos] e pos.line X.env=pure false:=by rfl)(hw:swappedStores [.Subscript (.Name x px) b tpos] e X.env=pure none:=by rfl)(h1:(assignEach [.Subscript (.Name x px) b tpos] X.env).map (·.2)=[assign (.Subscript (.Name x px) b tpos) X.env]:=by rfl)(hd:(x==("__debug__":Str))=false:=by decide)(hcd:(x==("__classdict__":Str))=false:=by decide):SS X c n (.Assign [.Subscript (.Name x px) b tpos] e pos) (.xm k pb p):=by
 obtain⟨ti,hi1,hi2⟩:=hi.bW;refine dB (Lp he.ev (Nf (dN hN hv hd hcd) hi1 set_list ha) hs hw h1) ?_;rintro D σ H⟨F,ρ,fl,ρ',g,e,kk⟩;rw[HH.X7]at e;obtain⟨r,ρ1,e1,e⟩:=aa e;obtain⟨x0,ρ1',e0,e⟩:=aa e;have zz:=aG e0;clear e0;obtain⟨e0,xn⟩:=zz;subst xn;obtain⟨dk,ρ2,e2,e⟩:=aa e;refine⟨F,ρ,r,ρ1,g,e1,fun v F1 H1 s1 rr=>?_⟩;obtain⟨F2,s2,_,rp⟩:=s1.cG rr;obtain⟨o,ho,_⟩:=s2.gs.pk e0;refine⟨o,ho,hi2 s2.gs e2 fun vi F3 H3 s3 pi=>?_⟩;split at e
 . rename_i bb ds kk' q;split at e;.rename_i j hj;cases e;obtain⟨ad,xs,q1,q2,q3,q4⟩:=s3.gs.oU k _ ds q rfl;rw[ho]at q1;cases q1;refine⟨ad,xs,kk',j,rfl,pi.int,q2,by rw[q4.length];exact hj,?_⟩;exact kk F3 σ _ ((s2.trans s3).trans (s3.gs.mut q ho (q4.set (rp.mono s3.bY) j)))
   .cases e
 .cases e
theorem fW{x:Str}{k:Nat}{px apos cpos:Pos}(hN:X.N[k]?=some x)(hv:tu X.env.scope x)(he:SX X c e p)(hline:(apos.endLine==cpos.line)=true:=by rfl)(hs:starEach [e] X.env=(false,eval e X.env)::starEach [] X.env:=by rfl)(hbase:attributeBase (.Name x px) "append" X.env (eval (.Name x px) X.env)=eval (.Name x px) X.env:=by rfl)(hfew:((backTo cpos (starEach [e] X.env)).all (fun x=>!x.1)&&(backToKw cpos (keywordEach [] X.env)).all (fun x=>x.1.isSome)&&decide ([e].length+([]:List Keyword).length+(if([]:List Keyword).isEmpty then 0 else 1)<30))=true:=by rfl)(hsw:swapsWith (.Call (.Attribute (.Name x px) "append" apos) [e] [] cpos) none pos.line X.env=pure false:=by rfl)(hd:(x==("__debug__":Str))=false:=by decide)(hcd:(x==("__classdict__":Str))=false:=by decide):SS X c n (.Expr (.Call (.Attribute (.Name x px) "append" apos) [e] [] cpos) pos) (.app k p):=by
 refine dB (rG (BK plainAttrs_list PySem.F.slot_list_append PySem.F.type_list_append lz (dN hN hv hd hcd) (cV he.ev fB hs) hbase hfew hline hs) hsw) ?_;rintro D σ H⟨F,ρ,fl,ρ',g,e,kk⟩;rw[HH.X8]at e;obtain⟨d0,ρ0,e0,e⟩:=aa e;have zz:=aG e0;clear e0;obtain⟨e0,xn⟩:=zz;subst xn;obtain⟨r,ρ1,e1,e⟩:=aa e;obtain⟨a,xs,h1,h2⟩:=qT g e0;refine⟨.ref a,h1,.inl ⟨rfl,xs,h2⟩,F,ρ,r,ρ1,g,e1,fun v F1 H1 s1 rr=>?_⟩;obtain⟨F2,s2,_,rp⟩:=s1.cG rr;split at e
 . rename_i bb ds q;split at e;.rename_i hlt;cases e;obtain⟨ad,ys,q1,q2,q3,q4⟩:=s2.gs.oU k _ ds q rfl;rw[h1]at q1;cases q1;exact⟨_,ys,v,rfl,rfl,q2,by rw[q4.length];exact hlt,kk F2 σ _ (s2.trans (s2.gs.mut q h1 (q4.append (.cons rp .nil))))⟩
   .cases e
 .cases e
end
section
variable{K:PySem.W.Frag}
theorem ir:∀{xs ys:List D},xs.length≠ys.length->fL xs ys=false|[],[],h=>absurd rfl h|[],_::_,_=>by simp[fL]|_::_,[],_=>by simp[fL]|x::xs,y::ys,h=>by rw[fL,ir (xs:=xs) (ys:=ys) (by simpa using h),Bool.and_false]
theorem fu:∀{xs ys:List D},xs.length=ys.length->fL xs ys=(List.range xs.length).all fun j=>jB (xs.getD j .non) (ys.getD j .non)|[],[],_=>by rw[fL];rfl|[],_::_,h=>by simp at h|_::_,[],h=>by simp at h|x::xs,y::ys,h=>by rw[fL,fu (xs:=xs) (ys:=ys) (by simpa using h),length_cons,List.range_succ_eq_map,all_cons,List.all_map];rfl
mutual
theorem uz:∀d:D,jB d d=true|.non=>rfl|.bl _=>by exact beq_self_eq_true _|.int _=>by exact beq_self_eq_true _|.str _=>by exact beq_self_eq_true _|.tup ds=>by exact ji ds|.lst ds=>by exact ji ds|.dw _=>by exact decide_eq_true rfl|.dv ks ds=>by show(decide (ks=ks)&&fL ds ds)=true;rw[ji ds];simp
theorem ji:∀ds:List D,fL ds ds=true|[]=>by rw[fL]|d::ds=>by rw[fL,uz d,ji ds];rfl
end
theorem dU{F:Hp}{d e:D}{v:V}(hf:flat d=true)(h1:Rep K F v d)(h2:Rep K F v e):d=e:=by cases d with
 |tup _=>cases hf|lst _=>cases hf|dw _=>cases hf|dv _ _=>cases hf|non=>rw[Rep]at h1;subst h1;cases e with|non=>rfl|tup _=>rw[Rep]at h2;obtain⟨_,_,q,_⟩:=h2;cases q|lst _=>rw[Rep]at h2;obtain⟨_,_,q,_⟩:=h2;cases q|dw _=>rw[Rep]at h2;obtain⟨_,_,q,_⟩:=h2;cases q|dv _ _=>rw[Rep]at h2;obtain⟨_,_,_,q,_⟩:=h2;cases q|_=>rw[Rep]at h2;cases h2
 |bl k=>rw[Rep]at h1;subst h1;cases e with|bl _=>rw[Rep]at h2;cases h2;rfl|tup _=>rw[Rep]at h2;obtain⟨_,_,q,_⟩:=h2;cases q|lst _=>rw[Rep]at h2;obtain⟨_,_,q,_⟩:=h2;cases q|dw _=>rw[Rep]at h2;obtain⟨_,_,q,_⟩:=h2;cases q|dv _ _=>rw[Rep]at h2;obtain⟨_,_,_,q,_⟩:=h2;cases q|_=>rw[Rep]at h2;cases h2
 |int k=>rw[Rep]at h1;subst h1;cases e with|int _=>rw[Rep]at h2;cases h2;rfl|tup _=>rw[Rep]at h2;obtain⟨_,_,q,_⟩:=h2;cases q|lst _=>rw[Rep]at h2;obtain⟨_,_,q,_⟩:=h2;cases q|dw _=>rw[Rep]at h2;obtain⟨_,_,q,_⟩:=h2;cases q|dv _ _=>rw[Rep]at h2;obtain⟨_,_,_,q,_⟩:=h2;cases q|_=>rw[Rep]at h2;cases h2
 |str k=>rw[Rep]at h1;subst h1;cases e with|str _=>rw[Rep]at h2;cases h2;rfl|tup _=>rw[Rep]at h2;obtain⟨_,_,q,_⟩:=h2;cases q|lst _=>rw[Rep]at h2;obtain⟨_,_,q,_⟩:=h2;cases q|dw _=>rw[Rep]at h2;obtain⟨_,_,q,_⟩:=h2;cases q|dv _ _=>rw[Rep]at h2;obtain⟨_,_,_,q,_⟩:=h2;cases q|_=>rw[Rep]at h2;cases h2
theorem G9{X:Cx}{pins:List (Addr×Obj)}{σ:L2.St}{H F:Hp}{s:Shared}(I:L2.Inv X pins σ H s)(sm:aH F H):∀n:Nat,(∀d:D,dG n d=true->∀(v:V)(e:D),Rep X.K F v d->Rep X.K F v e->d=e):=by
 have tl:∀{a:Addr}{xs ys:List V},gO X.K F a xs->dM X.K F a ys->False:=fun{a xs ys}h1 h2=>by obtain⟨_,_,⟨o,q1,q2,_⟩,_⟩:=I.tuple (aH.fM sm h1);obtain⟨_,_,pl,_⟩:=I.list (sm.seq h2);obtain⟨o',q3,q4,_⟩:=pl.isList;rw[q1]at q3;cases q3;rw[q2]at q4;exact absurd q4 (by decide)
 have dd:∀{a:Addr}{kvs:Dc},Rep X.K F (.ref a) (.dw kvs)->∃o,s.heap.get? a=some o/\o.cls=.type "dict":=fun{a kvs}h=>by rw[Rep]at h;obtain⟨a',_,q,hq⟩:=h;cases q;exact Qd I (sm _ _ hq)
 have td:∀{a:Addr}{xs:List V}{kvs:Dc},gO X.K F a xs->Rep X.K F (.ref a) (.dw kvs)->False:=fun{a xs kvs}h1 h2=>by obtain⟨_,_,⟨o,q1,q2,_⟩,_⟩:=I.tuple (aH.fM sm h1);obtain⟨o',q3,q4⟩:=dd h2;rw[q1]at q3;cases q3;rw[q2]at q4;exact absurd q4 (by decide)
 have ld:∀{a:Addr}{xs:List V}{kvs:Dc},dM X.K F a xs->Rep X.K F (.ref a) (.dw kvs)->False:=fun{a xs kvs}h1 h2=>by obtain⟨_,_,pl,_⟩:=I.list (sm.seq h1);obtain⟨o,q1,q2,_⟩:=pl.isList;obtain⟨o',q3,q4⟩:=dd h2;rw[q1]at q3;cases q3;rw[q2]at q4;exact absurd q4 (by decide)
 have dd2:∀{a:Addr}{ks:List Int}{es:List D},Rep X.K F (.ref a) (.dv ks es)->∃o,s.heap.get? a=some o/\o.cls=.type "dict":=fun{a ks es}h=>by rw[Rep]at h;obtain⟨a',_,_,q,hq,_⟩:=h;cases q;exact PQ I (sm _ _ hq)
 have td2:∀{a:Addr}{xs:List V}{ks:List Int}{es:List D},gO X.K F a xs->Rep X.K F (.ref a) (.dv ks es)->False:=fun{a xs ks es}h1 h2=>by obtain⟨_,_,⟨o,q1,q2,_⟩,_⟩:=I.tuple (aH.fM sm h1);obtain⟨o',q3,q4⟩:=dd2 h2;rw[q1]at q3;cases q3;rw[q2]at q4;exact absurd q4 (by decide)
 have ld2:∀{a:Addr}{xs:List V}{ks:List Int}{es:List D},dM X.K F a xs->Rep X.K F (.ref a) (.dv ks es)->False:=fun{a xs ks es}h1 h2=>by obtain⟨_,_,pl,_⟩:=I.list (sm.seq h1);obtain⟨o,q1,q2,_⟩:=pl.isList;obtain⟨o',q3,q4⟩:=dd2 h2;rw[q1]at q3;cases q3;rw[q2]at q4;exact absurd q4 (by decide)
 intro n;induction n with
 |zero=>intro d hd v e h1 h2;cases d with|tup _=>simp[dG]at hd|lst _=>simp[dG]at hd|dw _=>simp[dG]at hd|dv _ _=>simp[dG]at hd|non=>exact dU rfl h1 h2|bl k=>exact dU rfl h1 h2|int k=>exact dU rfl h1 h2|str k=>exact dU rfl h1 h2
 |succ n ih=>
   have all:∀{xs:List V}{ds es:List D},ds.all (dG n)=true->aF X.K F xs ds->aF X.K F xs es->ds=es:=fun{xs ds}=>by induction ds generalizing xs with|nil=>intro es _ h1 h2;rw[h1.fP]at h2;have:=h2.length;exact(List.eq_nil_of_length_eq_zero this.symm).symm|cons d ds ih2=>intro es ha h1 h2;rw[all_cons,and_eq_true]at ha;obtain⟨v,r,rfl,q1,q2⟩:=h1.cj;cases es with|nil=>cases h2.fP|cons e es=>obtain⟨v',r',q0,q3,q4⟩:=h2.cj;cases q0;rw[ih d ha.1 v e q1 q3,ih2 ha.2 q2 q4]
   intro d hd v e h1 h2;cases d with
   |dw _=>simp[dG]at hd|dv _ _=>simp[dG]at hd|tup ds=>
     have ha:ds.all (dG n)=true:=by simpa[dG]using hd
     rw[Rep]at h1;obtain⟨a,xs,rfl,z1,z2⟩:=h1;cases e with|tup es=>rw[Rep]at h2;obtain⟨a',ys,q,w1,w2⟩:=h2;cases q;have:=I.lM (aH.fM sm z1) (aH.fM sm w1);subst this;rw[all ha z2 w2]|lst es=>rw[Rep]at h2;obtain⟨a',ys,q,w1,w2⟩:=h2;cases q;exact(tl z1 w1).elim|dw _=>exact(td z1 h2).elim|dv _ _=>exact(td2 z1 h2).elim|_=>rw[Rep]at h2;cases h2
   |lst ds=>
     have ha:ds.all (dG n)=true:=by simpa[dG]using hd
     rw[Rep]at h1;obtain⟨a,xs,rfl,z1,z2⟩:=h1;cases e with|lst es=>rw[Rep]at h2;obtain⟨a',ys,q,w1,w2⟩:=h2;cases q;have:=I.pF (sm.seq z1) (sm.seq w1);subst this;rw[all ha z2 w2]|tup es=>rw[Rep]at h2;obtain⟨a',ys,q,w1,w2⟩:=h2;cases q;exact(tl w1 z1).elim|dw _=>exact(ld z1 h2).elim|dv _ _=>exact(ld2 z1 h2).elim|_=>rw[Rep]at h2;cases h2
   |non=>exact dU rfl h1 h2|bl k=>exact dU rfl h1 h2|int k=>exact dU rfl h1 h2|str k=>exact dU rfl h1 h2
theorem yz{A:Around}{s:Shared}{F:Hp}{d e:D}{v u:V}{v' u':Value}(hd:flat d=true)(he:flat e=true)(h1:Rep K F v d)(h2:Rep K F u e)(r1:RelV v v')(r2:RelV u u'):SeqAt.EqAt A s v' u' (jB d e):=by cases d with
 |tup _=>cases hd|lst _=>cases hd|dw _=>cases hd|dv _ _=>cases hd|non=>rw[Rep]at h1;subst h1;cases(show v'=.none from r1);cases e with|tup _=>cases he|lst _=>cases he|dw _=>cases he|dv _ _=>cases he|non=>rw[Rep]at h2;subst h2;cases(show u'=.none from r2);exact SeqAt.EqAt.same _|bl _=>rw[Rep]at h2;subst h2;cases(show u'=.bool _ from r2);exact SeqAt.EqAt.none_bool _|int _=>rw[Rep]at h2;subst h2;obtain⟨t,rfl⟩:=r2;exact SeqAt.EqAt.none_int _ _|str _=>rw[Rep]at h2;subst h2;obtain⟨t,rfl⟩:=r2;exact SeqAt.EqAt.none_str _ _
 |bl _=>rw[Rep]at h1;subst h1;cases(show v'=.bool _ from r1);cases e with|tup _=>cases he|lst _=>cases he|dw _=>cases he|dv _ _=>cases he|non=>rw[Rep]at h2;subst h2;cases(show u'=.none from r2);exact SeqAt.EqAt.bool_none _|bl _=>rw[Rep]at h2;subst h2;cases(show u'=.bool _ from r2);exact SeqAt.EqAt.bool_bool _ _|int _=>rw[Rep]at h2;subst h2;obtain⟨t,rfl⟩:=r2;exact SeqAt.EqAt.bool_int _ _ _|str _=>rw[Rep]at h2;subst h2;obtain⟨t,rfl⟩:=r2;exact SeqAt.EqAt.bool_str _ _ _
 |int _=>rw[Rep]at h1;subst h1;obtain⟨t0,rfl⟩:=r1;cases e with|tup _=>cases he|lst _=>cases he|dw _=>cases he|dv _ _=>cases he|non=>rw[Rep]at h2;subst h2;cases(show u'=.none from r2);exact SeqAt.EqAt.int_none _ _|bl _=>rw[Rep]at h2;subst h2;cases(show u'=.bool _ from r2);exact SeqAt.EqAt.int_bool _ _ _|int _=>rw[Rep]at h2;subst h2;obtain⟨t,rfl⟩:=r2;exact SeqAt.EqAt.int_int _ _ _ _|str _=>rw[Rep]at h2;subst h2;obtain⟨t,rfl⟩:=r2;exact int_str _ _ _ _
 |str _=>rw[Rep]at h1;subst h1;obtain⟨t0,rfl⟩:=r1;cases e with|tup _=>cases he|lst _=>cases he|dw _=>cases he|dv _ _=>cases he|non=>rw[Rep]at h2;subst h2;cases(show u'=.none from r2);exact SeqAt.EqAt.str_none _ _|bl _=>rw[Rep]at h2;subst h2;cases(show u'=.bool _ from r2);exact SeqAt.EqAt.str_bool _ _ _|int _=>rw[Rep]at h2;subst h2;obtain⟨t,rfl⟩:=r2;exact str_int _ _ _ _|str _=>rw[Rep]at h2;subst h2;obtain⟨t,rfl⟩:=r2;exact SeqAt.EqAt.str_str _ _ _ _
theorem j9{A:Around}{s:Shared}{F:Hp}{ds:List D}{e:D}{u:V}{u':Value}{a:Addr}{its:Array Value}(ht:s.heap.IsTuple a its)(hu:A.units<cLine)(he:flat e=true)(h2:Rep K F u e)(r2:RelV u u'):SeqAt.EqAt A s (.ref a) u' (jB (.tup ds) e)/\SeqAt.EqAt A s u' (.ref a) (jB e (.tup ds)):=by cases e with|tup _=>cases he|lst _=>cases he|dw _=>cases he|dv _ _=>cases he|non=>rw[Rep]at h2;subst h2;cases(show u'=.none from r2);exact⟨SeqAt.EqAt.tuple_none ht hu,SeqAt.EqAt.none_tuple ht hu⟩|bl _=>rw[Rep]at h2;subst h2;cases(show u'=.bool _ from r2);exact⟨SeqAt.EqAt.tuple_bool _ ht hu,SeqAt.EqAt.bool_tuple _ ht hu⟩|int _=>rw[Rep]at h2;subst h2;obtain⟨t,rfl⟩:=r2;exact⟨SeqAt.EqAt.tuple_int _ _ ht hu,SeqAt.EqAt.int_tuple _ _ ht hu⟩|str _=>rw[Rep]at h2;subst h2;obtain⟨t,rfl⟩:=r2;exact⟨SeqAt.EqAt.tuple_str _ _ ht hu,SeqAt.EqAt.str_tuple _ _ ht hu⟩
theorem jO{A:Around}{s:Shared}{F:Hp}{ds:List D}{e:D}{u:V}{u':Value}{a:Addr}{its:Array Value}(ht:s.heap.IsList a its)(hu:A.units<cLine)(he:flat e=true)(h2:Rep K F u e)(r2:RelV u u'):SeqAt.EqAt A s (.ref a) u' (jB (.lst ds) e)/\SeqAt.EqAt A s u' (.ref a) (jB e (.lst ds)):=by cases e with|tup _=>cases he|lst _=>cases he|dw _=>cases he|dv _ _=>cases he|non=>rw[Rep]at h2;subst h2;cases(show u'=.none from r2);exact⟨SeqAt.EqAt.list_none ht hu,SeqAt.EqAt.none_list ht hu⟩|bl _=>rw[Rep]at h2;subst h2;cases(show u'=.bool _ from r2);exact⟨SeqAt.EqAt.list_bool _ ht hu,SeqAt.EqAt.bool_list _ ht hu⟩|int _=>rw[Rep]at h2;subst h2;obtain⟨t,rfl⟩:=r2;exact⟨SeqAt.EqAt.list_int _ _ ht hu,SeqAt.EqAt.int_list _ _ ht hu⟩|str _=>rw[Rep]at h2;subst h2;obtain⟨t,rfl⟩:=r2;exact⟨SeqAt.EqAt.list_str _ _ ht hu,SeqAt.EqAt.str_list _ _ ht hu⟩
theorem uE{n:Nat}{d:D}(h:dG n d=true)(h0:n=0):flat d=true:=by subst h0;cases d<;>first|rfl|simp[dG]at h
theorem Zj{X:Cx}{pins:List (Addr×Obj)}{σ:L2.St}{H F:Hp}{s:Shared}(I:L2.Inv X pins σ H s)(sm:aH F H):∀(n:Nat)(A:Around),A.units+n<cLine->∀(d e:D),dG n d=true->dG n e=true->∀(v u:V)(v' u':Value),Rep X.K F v d->Rep X.K F u e->RelV v v'->RelV u u'->SeqAt.EqAt A s v' u' (jB d e):=by intro n;induction n with|zero=>intro A hu d e hd he v u v' u' h1 h2 r1 r2;exact yz (uE hd rfl) (uE he rfl) h1 h2 r1 r2|succ n ih=>
   intro A hu d e hd he v u v' u' h1 h2 r1 r2;have hu0:A.units<cLine:=by omega
   have hu1:A.in1.units+n<cLine:=by show A.units+1+n<cLine;omega--items by place
   have at_:∀{xs ys:List V}{us ws:List Value}{ds es:List D}{j:Nat}(k1:j<us.toArray.size)(k2:j<ws.toArray.size),ds.all (dG n)=true->es.all (dG n)=true->Vals xs us->Vals ys ws->aF X.K F xs ds->aF X.K F ys es->SeqAt.EqAt A.in1 s us.toArray[j] ws.toArray[j] (jB (ds.getD j .non) (es.getD j .non)):=fun{xs ys us ws ds es j}k1 k2 a1 a2 v1 v2 p1 p2=>by
    have k1:j<us.length:=by simpa using k1
    have k2:j<ws.length:=by simpa using k2
    have l1:j<ds.length:=by rw[<-p1.length,v1.length];exact k1
    have l2:j<es.length:=by rw[<-p2.length,v2.length];exact k2
    obtain⟨x,g1,g2⟩:=p1.get (show ds[j]?=some ds[j]by simp[l1]);obtain⟨y,g3,g4⟩:=p2.get (show es[j]?=some es[j]by simp[l2]);obtain⟨x',g5,g6⟩:=v1.get g1;obtain⟨y',g7,g8⟩:=v2.get g3;have e1:us.toArray[j]=x':=by have:=(List.getElem?_eq_some_iff.mp g5).2;simpa using this
    have e2:ws.toArray[j]=y':=by have:=(List.getElem?_eq_some_iff.mp g7).2;simpa using this
    have e3:ds.getD j .non=ds[j]:=by simp[List.getD,l1]
    have e4:es.getD j .non=es[j]:=by simp[List.getD,l2]
    rw[e1,e2,e3,e4];exact ih A.in1 hu1 _ _ (all_eq_true.mp a1 _ (getElem_mem l1)) (all_eq_true.mp a2 _ (getElem_mem l2)) x y x' y' g2 g4 g6 g8--the same object
   have same:∀{a:Addr},v=.ref a->u=.ref a->SeqAt.EqAt A s v' u' (jB d e):=fun{a}q1 q2=>by subst q1;subst q2;have:=G9 I sm (n+1) d hd _ e h1 h2;subst this;rw[uz];cases r1;cases r2;exact SeqAt.EqAt.same _
   cases d with
   |dw _=>simp[dG]at hd|dv _ _=>simp[dG]at hd|tup ds=>
     have ha:ds.all (dG n)=true:=by simpa[dG]using hd
     have h1':=h1;rw[Rep]at h1';obtain⟨a,xs,rfl,z1,z2⟩:=h1';cases r1;obtain⟨us,v1,p1,_⟩:=I.tuple (aH.fM sm z1)
     cases e with|dw _=>simp[dG]at he|dv _ _=>simp[dG]at he|tup es=>
       have hb:es.all (dG n)=true:=by simpa[dG]using he
       have h2':=h2;rw[Rep]at h2';obtain⟨b,ys,rfl,w1,w2⟩:=h2';by_cases hab:a=b;.subst hab;exact same rfl rfl
       . cases r2;obtain⟨ws,v2,p2,_⟩:=I.tuple (aH.fM sm w1);refine .of_refs hab ?_;have z:=SeqAt.RcAt.tuples (A:=A) (e:=fun j=>jB (ds.getD j .non) (es.getD j .non)) p1 p2 hu0 fun j k1 k2=>at_ k1 k2 ha hb v1 v2 z2 w2;have l1:us.toArray.size=ds.length:=by rw[size_toArray,<-v1.length,z2.length]
         have l2:ws.toArray.size=es.length:=by rw[size_toArray,<-v2.length,w2.length]
         rw[l1,l2]at z;have e0:jB (.tup ds) (.tup es)=((List.range (min ds.length es.length)).all (fun j=>jB (ds.getD j .non) (es.getD j .non))&&ds.length==es.length):=by
          rw[pqt];by_cases hl:ds.length=es.length;.rw[fu hl,hl];simp
          . rw[ir hl];have:(ds.length==es.length)=false:=by simpa using hl
            rw[this,Bool.and_false]
         rw[e0];exact z|lst es=>rw[Rep]at h2;obtain⟨b,ys,rfl,w1,w2⟩:=h2;cases r2;obtain⟨ws,v2,p2,_⟩:=I.list (sm.seq w1);exact SeqAt.EqAt.tuple_list p1 p2.isList hu0|non=>exact(j9 p1 hu0 rfl h2 r2).1|bl _=>exact(j9 p1 hu0 rfl h2 r2).1|int _=>exact(j9 p1 hu0 rfl h2 r2).1|str _=>exact(j9 p1 hu0 rfl h2 r2).1
   |lst ds=>
     have ha:ds.all (dG n)=true:=by simpa[dG]using hd
     have h1':=h1;rw[Rep]at h1'
     obtain⟨a,xs,rfl,z1,z2⟩:=h1';cases r1;obtain⟨us,v1,p1,_⟩:=I.list (sm.seq z1);cases e with|dw _=>simp[dG]at he|dv _ _=>simp[dG]at he|lst es=>
       have hb:es.all (dG n)=true:=by simpa[dG]using he
       have h2':=h2;rw[Rep]at h2';obtain⟨b,ys,rfl,w1,w2⟩:=h2';by_cases hab:a=b;.subst hab;exact same rfl rfl
       . cases r2;obtain⟨ws,v2,p2,_⟩:=I.list (sm.seq w1);refine .of_refs hab ?_;have l1:us.toArray.size=ds.length:=by rw[size_toArray,<-v1.length,z2.length]
         have l2:ws.toArray.size=es.length:=by rw[size_toArray,<-v2.length,w2.length]
         rw[Yg];by_cases hl:ds.length=es.length;.have z:=SeqAt.RcAt.lists (A:=A) (e:=fun j=>jB (ds.getD j .non) (es.getD j .non)) p1.isList p2.isList (by rw[l1,l2,hl]) hu0 fun j k1 k2=>at_ k1 k2 ha hb v1 v2 z2 w2;rw[l1]at z;rw[fu hl];exact z
         .rw[ir hl];exact lists_lengths p1.isList p2.isList (by rw[l1,l2];simpa using hl) hu0|tup es=>rw[Rep]at h2;obtain⟨b,ys,rfl,w1,w2⟩:=h2;cases r2;obtain⟨ws,v2,p2,_⟩:=I.tuple (aH.fM sm w1);exact SeqAt.EqAt.list_tuple p1.isList p2 hu0|non=>exact(jO p1.isList hu0 rfl h2 r2).1|bl _=>exact(jO p1.isList hu0 rfl h2 r2).1|int _=>exact(jO p1.isList hu0 rfl h2 r2).1|str _=>exact(jO p1.isList hu0 rfl h2 r2).1
   |non|bl _|int _|str _=>cases e with|dw _=>simp[dG]at he|dv _ _=>simp[dG]at he|tup es=>rw[Rep]at h2;obtain⟨b,ys,rfl,w1,w2⟩:=h2;cases r2;obtain⟨ws,v2,p2,_⟩:=I.tuple (aH.fM sm w1);exact(j9 p2 hu0 rfl h1 r1).2|lst es=>rw[Rep]at h2;obtain⟨b,ys,rfl,w1,w2⟩:=h2;cases r2;obtain⟨ws,v2,p2,_⟩:=I.list (sm.seq w1);exact(jO p2.isList hu0 rfl h1 r1).2|_=>exact yz rfl rfl h1 h2 r1 r2
end
section
variable{X:Cx}{pins:List (Addr×Obj)}{σ:L2.St}{H F:Hp}{s:Shared}{A:Around}
abbrev RC(A:Around)(s:Shared)(v u:Value)(k:Bool):Prop:=SeqAt.RcAt A s v u k/\SeqAt.RcNeAt A s v u (!k)
inductive Top(X:Cx)(F H:Hp)(s:Shared):Value->D->Prop where|non:Top X F H s .none .non|bl(b:Bool):Top X F H s (.bool b) (.bl b)|int(i:Int)(t:Tok):Top X F H s (.int i t) (.int i)|str(x:Str)(t:Tok):Top X F H s (.str x t) (.str x)|tup{a:Addr}{us:List Value}{xs:List V}{ds:List D}(ht:s.heap.IsTuple a us.toArray)(hv:Vals xs us)(hr:aF X.K F xs ds):Top X F H s (.ref a) (.tup ds)|lst{a:Addr}{us:List Value}{xs:List V}{ds:List D}(ht:s.heap.IsList a us.toArray)(hv:Vals xs us)(hr:aF X.K F xs ds):Top X F H s (.ref a) (.lst ds)
theorem qW(I:L2.Inv X pins σ H s)(sm:aH F H){v:V}{v':Value}{d:D}(hd:dG 8 d=true)(h:dF X.K F H v d)(r:RelV v v'):Top X F H s v' d:=by cases d with|dw _=>simp[dG]at hd|dv _ _=>simp[dG]at hd|non=>rw[h.non]at r;cases r;exact .non|bl b=>rw[h.bl]at r;cases r;exact .bl b|int i=>rw[h.int]at r;obtain⟨t,rfl⟩:=r;exact .int i t|str x=>rw[h.str]at r;obtain⟨t,rfl⟩:=r;exact .str x t|tup ds=>obtain⟨a,xs,rfl,h1,h2,_⟩:=h.tup sm;cases r;obtain⟨us,v1,p1,_⟩:=I.tuple h1;exact .tup p1 v1 h2|lst ds=>obtain⟨a,xs,rfl,h1,h2⟩:=h.lst sm;cases r;obtain⟨us,v1,p1,_⟩:=I.list h1;exact .lst p1.isList v1 h2
theorem Tw(I:L2.Inv X pins σ H s)(sm:aH F H){n:Nat}(hu:A.units+(n+1)<cLine){d e:D}(hd:dG (n+1) d=true)(he:dG (n+1) e=true){v' u':Value}(h1:Top X F H s v' d)(h2:Top X F H s u' e):RC A s v' u' (jB d e):=by
 have hu0:A.units<cLine:=by omega
 have hu1:A.in1.units+n<cLine:=by show A.units+1+n<cLine;omega
 have at_:∀{xs ys:List V}{us ws:List Value}{ds es:List D}{j:Nat}(k1:j<us.toArray.size)(k2:j<ws.toArray.size),ds.all (dG n)=true->es.all (dG n)=true->Vals xs us->Vals ys ws->aF X.K F xs ds->aF X.K F ys es->SeqAt.EqAt A.in1 s us.toArray[j] ws.toArray[j] (jB (ds.getD j .non) (es.getD j .non)):=fun{xs ys us ws ds es j}k1 k2 a1 a2 v1 v2 p1 p2=>by
  have k1:j<us.length:=by simpa using k1
  have k2:j<ws.length:=by simpa using k2
  have l1:j<ds.length:=by rw[<-p1.length,v1.length];exact k1
  have l2:j<es.length:=by rw[<-p2.length,v2.length];exact k2
  obtain⟨x,g1,g2⟩:=p1.get (show ds[j]?=some ds[j]by simp[l1]);obtain⟨y,g3,g4⟩:=p2.get (show es[j]?=some es[j]by simp[l2]);obtain⟨x',g5,g6⟩:=v1.get g1;obtain⟨y',g7,g8⟩:=v2.get g3;have e1:us.toArray[j]=x':=by have:=(List.getElem?_eq_some_iff.mp g5).2;simpa using this
  have e2:ws.toArray[j]=y':=by have:=(List.getElem?_eq_some_iff.mp g7).2;simpa using this
  have e3:ds.getD j .non=ds[j]:=by simp[List.getD,l1]
  have e4:es.getD j .non=es[j]:=by simp[List.getD,l2]
  rw[e1,e2,e3,e4];exact Zj I sm n A.in1 hu1 _ _ (all_eq_true.mp a1 _ (getElem_mem l1)) (all_eq_true.mp a2 _ (getElem_mem l2)) x y x' y' g2 g4 g6 g8
 cases h1 with
 |non=>cases h2 with|non=>exact⟨SeqAt.RcAt.none_none,SeqAt.RcNeAt.none_none⟩|bl b=>exact⟨SeqAt.RcAt.none_bool _,SeqAt.RcNeAt.none_bool _⟩|int i t=>exact⟨SeqAt.RcAt.none_int _ _,none_int _ _⟩|str i t=>exact⟨SeqAt.RcAt.none_str _ _,none_str _ _⟩|tup ht _ _=>exact⟨SeqAt.RcAt.none_tuple ht hu0,SeqAt.RcNeAt.none_tuple ht hu0⟩|lst ht _ _=>exact⟨SeqAt.RcAt.none_list ht hu0,SeqAt.RcNeAt.none_list ht hu0⟩
 |bl b0=>cases h2 with|non=>exact⟨SeqAt.RcAt.bool_none _,SeqAt.RcNeAt.bool_none _⟩|bl b=>exact⟨SeqAt.RcAt.bool_bool _ _,SeqAt.RcNeAt.bool_bool _ _⟩|int i t=>exact⟨SeqAt.RcAt.bool_int _ _ _,bool_int _ _ _⟩|str i t=>exact⟨SeqAt.RcAt.bool_str _ _ _,bool_str _ _ _⟩|tup ht _ _=>exact⟨SeqAt.RcAt.bool_tuple _ ht hu0,SeqAt.RcNeAt.bool_tuple _ ht hu0⟩|lst ht _ _=>exact⟨SeqAt.RcAt.bool_list _ ht hu0,SeqAt.RcNeAt.bool_list _ ht hu0⟩
 |int i0 t0=>cases h2 with|non=>exact⟨SeqAt.RcAt.int_none _ _,int_none _ _⟩|bl b=>exact⟨SeqAt.RcAt.int_bool _ _ _,int_bool _ _ _⟩|int i t=>exact⟨SeqAt.RcAt.int_int _ _ _ _,int_int _ _ _ _⟩|str i t=>exact⟨SeqAt.RcAt.int_str _ _ _ _,SeqAt.RcNeAt.int_str _ _ _ _⟩|tup ht _ _=>exact⟨SeqAt.RcAt.int_tuple _ _ ht hu0,SeqAt.RcNeAt.int_tuple _ _ ht hu0⟩|lst ht _ _=>exact⟨SeqAt.RcAt.int_list _ _ ht hu0,int_list _ _ ht hu0⟩
 |str i0 t0=>cases h2 with|non=>exact⟨SeqAt.RcAt.str_none _ _,str_none _ _⟩|bl b=>exact⟨SeqAt.RcAt.str_bool _ _ _,str_bool _ _ _⟩|int i t=>exact⟨SeqAt.RcAt.str_int _ _ _ _,SeqAt.RcNeAt.str_int _ _ _ _⟩|str i t=>exact⟨SeqAt.RcAt.str_str _ _ _ _,str_str _ _ _ _⟩|tup ht _ _=>exact⟨SeqAt.RcAt.str_tuple _ _ ht hu0,SeqAt.RcNeAt.str_tuple _ _ ht hu0⟩|lst ht _ _=>exact⟨SeqAt.RcAt.str_list _ _ ht hu0,str_list _ _ ht hu0⟩
 |@tup a us xs ds ht hv hr=>
   have ha:ds.all (dG n)=true:=by simpa[dG]using hd
   cases h2 with|non=>exact⟨SeqAt.RcAt.tuple_none ht hu0,SeqAt.RcNeAt.tuple_none ht hu0⟩|bl b=>exact⟨SeqAt.RcAt.tuple_bool _ ht hu0,SeqAt.RcNeAt.tuple_bool _ ht hu0⟩|int i t=>exact⟨SeqAt.RcAt.tuple_int _ _ ht hu0,SeqAt.RcNeAt.tuple_int _ _ ht hu0⟩|str i t=>exact⟨SeqAt.RcAt.tuple_str _ _ ht hu0,SeqAt.RcNeAt.tuple_str _ _ ht hu0⟩|lst vh _ _=>exact⟨SeqAt.RcAt.tuple_list ht vh hu0,SeqAt.RcNeAt.tuple_list ht vh hu0⟩|@tup b ws ys es vh hv2 hr2=>
     have hb:es.all (dG n)=true:=by simpa[dG]using he
     have l1:us.toArray.size=ds.length:=by rw[size_toArray,<-hv.length,hr.length]
     have l2:ws.toArray.size=es.length:=by rw[size_toArray,<-hv2.length,hr2.length]
     have z1:=SeqAt.RcAt.tuples (A:=A) (e:=fun j=>jB (ds.getD j .non) (es.getD j .non)) ht vh hu0 fun j k1 k2=>at_ k1 k2 ha hb hv hv2 hr hr2;have z2:=SeqAt.RcNeAt.tuples (A:=A) (e:=fun j=>jB (ds.getD j .non) (es.getD j .non)) ht vh hu0 fun j k1 k2=>at_ k1 k2 ha hb hv hv2 hr hr2;rw[l1,l2]at z1 z2;have e0:jB (.tup ds) (.tup es)=((List.range (min ds.length es.length)).all (fun j=>jB (ds.getD j .non) (es.getD j .non))&&ds.length==es.length):=by
      rw[pqt];by_cases hl:ds.length=es.length;.rw[fu hl,hl];simp
      . rw[ir hl];have:(ds.length==es.length)=false:=by simpa using hl
        rw[this,Bool.and_false]
     rw[e0];exact⟨z1,z2⟩
 |@lst a us xs ds ht hv hr=>
   have ha:ds.all (dG n)=true:=by simpa[dG]using hd
   cases h2 with|non=>exact⟨SeqAt.RcAt.list_none ht hu0,SeqAt.RcNeAt.list_none ht hu0⟩|bl b=>exact⟨SeqAt.RcAt.list_bool _ ht hu0,SeqAt.RcNeAt.list_bool _ ht hu0⟩|int i t=>exact⟨SeqAt.RcAt.list_int _ _ ht hu0,list_int _ _ ht hu0⟩|str i t=>exact⟨SeqAt.RcAt.list_str _ _ ht hu0,list_str _ _ ht hu0⟩|tup vh _ _=>exact⟨SeqAt.RcAt.list_tuple ht vh hu0,SeqAt.RcNeAt.list_tuple ht vh hu0⟩|@lst b ws ys es vh hv2 hr2=>
     have hb:es.all (dG n)=true:=by simpa[dG]using he
     have l1:us.toArray.size=ds.length:=by rw[size_toArray,<-hv.length,hr.length]
     have l2:ws.toArray.size=es.length:=by rw[size_toArray,<-hv2.length,hr2.length]
     rw[Yg];by_cases hl:ds.length=es.length;.have z1:=SeqAt.RcAt.lists (A:=A) (e:=fun j=>jB (ds.getD j .non) (es.getD j .non)) ht vh (by rw[l1,l2,hl]) hu0 fun j k1 k2=>at_ k1 k2 ha hb hv hv2 hr hr2;have z2:=SeqAt.RcNeAt.lists (A:=A) (e:=fun j=>jB (ds.getD j .non) (es.getD j .non)) ht vh (by rw[l1,l2,hl]) hu0 fun j k1 k2=>at_ k1 k2 ha hb hv hv2 hr hr2;rw[l1]at z1 z2;rw[fu hl];exact⟨z1,z2⟩
     .rw[ir hl];exact⟨lists_lengths ht vh (by rw[l1,l2];simpa using hl) hu0,SeqAt.RcNeAt.lists_lengths ht vh (by rw[l1,l2];simpa using hl) hu0⟩
theorem rJ(hu:X.A.units+8<cLine):gG X (compareOp .Eq) (rD X.K (vL .eq)):=by rintro pins s σ H x y v u Q I rx ry⟨F,d,e,r,sm,px,py,he,k⟩;obtain⟨t,e1,e2⟩:=map_some (show(Dw d e).map _=some r from he);subst e2;unfold Dw at e1;obtain⟨hd,e1⟩:=bj e1;rw[and_eq_true]at hd;subst e1;exact(Tw I sm (n:=7) hu hd.1 hd.2 (qW I sm hd.1 px rx) (qW I sm hd.2 py ry)).1 _ _ _ _ ⟨.bl _,H,I,rfl,bN.cu sm (lY _) k⟩
theorem Fj(hu:X.A.units+8<cLine):gG X (compareOp .NotEq) (rD X.K (vL .ne)):=by rintro pins s σ H x y v u Q I rx ry⟨F,d,e,r,sm,px,py,he,k⟩;obtain⟨t,e1,e2⟩:=map_some (show(Fo d e).map _=some r from he);subst e2;unfold Fo at e1;obtain⟨hd,e1⟩:=bj e1;rw[and_eq_true]at hd;subst e1;exact(Tw I sm (n:=7) hu hd.1 hd.2 (qW I sm hd.1 px rx) (qW I sm hd.2 py ry)).2 _ _ _ _ ⟨.bl _,H,I,rfl,bN.cu sm (lY _) k⟩
end
section
variable{Pg:Program}{w:World}{K:PySem.W.Frag}{mg:Str->Option Value}{base:Heap}
theorem U4{x qual:Str}{st:Stmt}{f:Addr}{fd:FuncData}{N ps:List Str}{k n:Nat}{c:Call}{d:Fd}(Fu:gF K x qual st f fd)(S:aL N ps (aA st))(h1:d.np=ps.length)(h2:d.nn=N.length)(hb:∀(cdv:Value)(A:Around)(outer:List Env)(s:Shared)(H:Hp)(E:XK),iB k (A.deeper (envOfC qual (aA st) s.heap.objs.size f cdv))->SB (vH gf Pg w K mg base N qual (aA st) f cdv A outer s H E).T6 c n (eZ st) d.body):bJ Pg w K mg base gf (k+1) f fd ps (gD K ps.length (fun args=>enter c n d args)):=by
 refine Fu.ok S (fun vs H Q E h=>h.1) fun cdv A outer s H vs Q E hr h=>?_;obtain⟨hl,F,args,r,args',g,e,q⟩:=h;refine⟨_,hb cdv A outer s H E hr,?_⟩;replace e:enter c n d args=.ok r args':=e;unfold enter at e;split at e
 . rename_i hc;obtain⟨c1,c2⟩:=hc;have hg:=g.more (n:=d.nn-d.np) (τ:=replicate (N.length-vs.length) none) (by simp[h1,h2,hl]);have hla:args.length=d.np:=c1;have go:∀{fl:Fl}{ρ':List Sl},gH c n d.body (args++replicate (d.nn-d.np) .aU)=.ok fl ρ'->(∀F' σ' H',aq K F (args++replicate (d.nn-d.np) .aU) (start N vs) H F' ρ' σ' H'->(match fl with|.next=>Q .non H'|.brk=>False|.cont=>False|.ret r=>∀v,bV K F' ρ' σ' H' (args++replicate (d.nn-d.np) .aU) (start N vs) H v r->Q v H'))->W5 K (gH c n d.body) {nx:=fun _ H'=>Q .non H',rt:=Q} (start N vs) H:=fun{fl ρ'}z k=>⟨F,_,fl,ρ',hg,z,fun F' σ' H' s=>by have:=k F' σ' H' s;cases fl<;>exact this⟩;split at e;.rename_i ρ' z;cases e;refine go z fun F' σ' H' s=>?_;obtain⟨z1,z2⟩:=aq.less (m:=d.np) hla.symm g (by simp[h1,h2,hl]) s;exact q .non F' _ H' z1 (show Rep K F' _ _ from LC)
   .rename_i r' ρ' z;cases e;refine go z fun F' σ' H' s v rr=>?_;obtain⟨z1,z2⟩:=aq.less (m:=d.np) hla.symm g (by simp[h1,h2,hl]) s;exact q v F' _ H' z1 (z2 v r rr)
   .split at e<;>cases e
 .cases e
structure ao(Pg:Program)(w:World)(K:PySem.W.Frag)(mg:Str->Option Value)(base:Heap)(k:Nat)(c:Call)(i:Nat)(x:Str)(np:Nat):Prop where ex:∃fa fd qs,bJ Pg w K mg base gf k fa fd qs (gD K qs.length (c i))/\mg x=some (.ref fa)/\keepIn K (.ref fa)=true/\Binds K fd qs []/\qs.length=np
end
section
variable{X:Cx}{c:Call}{n k:Nat}{e a b:Expr}{es:List Expr}{p pa pb:P}{ps:List P}{pos:Pos}
theorem sv(i:Nat){x:Str}(hN:X.N[i]?=some x:=by rfl)(hv:tu X.env.scope x:=by first|exact Or.inl rfl|exact Or.inr (Or.inl rfl)|exact Or.inr (Or.inr rfl))(hd:(x==("__debug__":Str))=false:=by rfl)(hcd:(x==("__classdict__":Str))=false:=by rfl):SX X c (.Name x pos) (.var i):=Nk hN hv hd hcd
theorem dm{i np:Nat}{x:Str}{p':Pos}(C:ao X.prog X.w X.K X.mg X.base k c i x np)(hr:iB k X.A)(ha:SG X c (e::es) ps)(hg:Gl X x:=by rfl)(hl:(e::es).length=np:=by rfl)(hdb:(x==("__debug__":Str))=false:=by rfl)(he:starEach (e::es) X.env=(false,eval e X.env)::starEach es X.env:=by rfl)(hpl:(backTo pos (starEach es X.env)).any (·.1)=false:=by rfl)(hl2:ps.length=(e::es).length:=by rfl):SX X c (.Call (.Name x p') (e::es) [] pos) (.call i ps):=by obtain⟨fa,fd,qs,h1,h2,h3,h4,h5⟩:=C.ex;exact G5 h1 hr hg h2 h3 h4 ha (hl.trans h5.symm) hdb he hpl hl2
noncomputable def KH(names outer:List (Str×NameKind))(N N':List Str)(n:Nat):Bool:=(names.all fun y=>names.lookup y.1==some y.2)&&(names.all fun y=>y.2!=.local||names.lookup y.1==some .local)&&(names.all fun y=>y.2!=.free||outer.lookup y.1==some .cell||outer.lookup y.1==some .free)&&N'.length==N.length+n&&((N.zip N').all fun p=>(p.1==p.2&&names.lookup p.2==some .free)||(names.lookup p.2!=some .local&&names.lookup p.2!=some .cell&&names.lookup p.2!=some .free))
theorem vA{scope:Scope}{N':List Str}(hk:scope.kind=.function)(h:KH scope.names X.env.scope.names X.N N' n=true):eN X scope N' n:=by
 unfold KH at h;simp only[and_eq_true]at h;obtain⟨⟨⟨⟨h1,h2⟩,h3⟩,h4⟩,h5⟩:=h;refine⟨hk,fun y hy=>eq_of_beq (all_eq_true.mp h1 y hy),fun y hy e=>?_,fun y hy e=>?_,by simpa using h4,h5⟩;.have:=all_eq_true.mp h2 y hy;rw[e]at this;simpa using this
 . have:=all_eq_true.mp h3 y hy;rw[e]at this;simp only[or_eq_true]at this;rcases this with(z|z)|z;.cases z
   .exact .inl (eq_of_beq z)
   .exact .inr (eq_of_beq z)
theorem bR{A:Around}(h:iB k A):A.units+8<cLine:=by have:=h.un;omega
end
end HH
end
section
namespace PySem
open AutoSeq1(wpAny_loadPart')
section
variable{prog:Program}{w:World}{A:Around}{E:Value->Shared->Prop}{s:Shared}
theorem j6{it l:Addr}{i:Nat}{items:Array Value}{x:Value}{Q:Value->Shared->Prop}(hit:s.heap.IsTupleIter it l i)(hl:s.heap.IsTuple l items)(hx:items[i]?=some x)(hQ:∀h',h'.IsTupleIter it l (i+1)->SameBut it s.heap h'->Q x {s with heap:=h'}):wpAny (model prog w) A (Builtin.SmallTypes.nextOf (.ref it)) Q E s:=by obtain⟨o,ho,hc,hd⟩:=id hit;obtain⟨ol,hol,_,nl,hdl⟩:=hl;unfold Builtin.SmallTypes.nextOf;refine wpAny_bind (wpAny_callSpecial?_slot (name:=Str.ofString "__next__") hit.typeIs F.slot_tuple_iterator_next (wpAny_call_entry F.slot_tuple_iterator_next hit.typeIs F.entry_tuple_iterator_next ?_ (F.args_tuple_iterator_next_1 _)));show wpAny _ _ (field (.ref it) 0>>=_) _ _ s;refine wpAny_bind (wpAny_field ho hd (x:=.ref l) rfl ?_);show wpAny _ _ (if(Value.ref l==Value.none)=true then _ else _) _ _ s;rw[if_neg (show ¬((Value.ref l==Value.none)=true)from Bool.false_ne_true)];show wpAny _ _ (field (.ref it) 1>>=_) _ _ s;refine wpAny_bind (wpAny_field ho hd (x:=.int i 0) rfl ?_);show wpAny _ _ (seqItems? (.ref l)>>=_) _ _ s;refine wpAny_bind (wpAny_seqItems hol hdl ?_);simp only[Int.toNat_natCast,hx];refine wpAny_bind (wpAny_setField ho hd (by simp) (wpAny_pure ⟨x,rfl,wpAny_pure (hQ _ ?_ (Heap.SameBut.update ..))⟩));exact⟨_,Heap.get?_update_self _ ho (Obj.isFreed_of_fields (Obj.data_mapFields hd _)),(Obj.cls_mapFields ..).trans hc,by rw[Obj.data_mapFields hd];simp[rawInt]⟩
theorem gj{it l:Addr}{i:Nat}{items:Array Value}{Q:Value->Shared->Prop}(hh:A.handled=none)(hit:s.heap.IsTupleIter it l i)(hl:s.heap.IsTuple l items)(hx:items[i]?=none)(hE:∀h' e,Heap.ExtBut it s.heap h'->(∃o,h'.get? e=some o/\o.cls=.type "StopIteration")->E (.ref e) {s with heap:=h'}):wpAny (model prog w) A (Builtin.SmallTypes.nextOf (.ref it)) Q E s:=by
 obtain⟨o,ho,hc,hd⟩:=id hit;obtain⟨ol,hol,_,nl,hdl⟩:=hl;unfold Builtin.SmallTypes.nextOf;refine wpAny_bind (wpAny_callSpecial?_slot (name:=Str.ofString "__next__") hit.typeIs F.slot_tuple_iterator_next (wpAny_call_entry F.slot_tuple_iterator_next hit.typeIs F.entry_tuple_iterator_next ?_ (F.args_tuple_iterator_next_1 _)));show wpAny _ _ (field (.ref it) 0>>=_) _ _ s;refine wpAny_bind (wpAny_field ho hd (x:=.ref l) rfl ?_);show wpAny _ _ (if(Value.ref l==Value.none)=true then _ else _) _ _ s;rw[if_neg (show ¬((Value.ref l==Value.none)=true)from Bool.false_ne_true)];show wpAny _ _ (field (.ref it) 1>>=_) _ _ s;refine wpAny_bind (wpAny_field ho hd (x:=.int i 0) rfl ?_);show wpAny _ _ (seqItems? (.ref l)>>=_) _ _ s;refine wpAny_bind (wpAny_seqItems hol hdl ?_);simp only[Int.toNat_natCast,hx];refine wpAny_bind (wpAny_rule (wpAny_bind (wpAny_setField ho hd (by simp) ?_)));show wpAny _ _ (newExc (.type "StopIteration") []>>=_) _ _ _;refine wpAny_bind ?_;simp only[newExc,newTuple];refine wpAny_bind (wpAny_newObj_type ?_ (by size_fits));refine wpAny_bind (m:=firstArgMember _ _) (wpAny_of_eq (a:=Value.none) (by first|rfl|(simp only[firstArgMember];rfl)) ?_);refine wpAny_newObj_type ?_ (by size_fits);simp only[raiseNew];refine wpAny_bind (wpAny_handled ?_);first|rw[show A.in1.handled=none from hh]|rw[hh]
 refine wpAny_bind (wpAny_pure (wpAny_throw ?_));exact hE _ _ (((Heap.SameBut.update ..).extBut.push _).push _) ⟨_,get?_push_size _ rfl,rfl⟩
end
theorem iR(l:Addr)(items:Array Value)(n:Nat)(dct:Option Addr)(sl:Array (Option Value)):Meets (Builtin.«enumerate.__new__» ⟨[.type "enumerate",.ref l],[]⟩) (fun _ R s=>s.heap.get? l=some {cls:=.type "tuple",dict:=dct,data:=.seq items n,slots:=sl}/\R (.ok (.ret (.ref (s.heap.push {cls:=.type "tuple_iterator",data:=.fields #[.ref l,.int 0 0]}).objs.size))) {s with heap:=(s.heap.push {cls:=.type "tuple_iterator",data:=.fields #[.ref l,.int 0 0]}).push {cls:=.type "enumerate",data:=.fields #[.none,.bool false,.ref s.heap.objs.size,rawInt 0,.none,.none]}}):=.of_wp fun prog w A R s h=>by
  obtain⟨hp,g,d,tk,os⟩:=s;obtain⟨hl,h⟩:=h;have hsub:=sub_enumerate;have hL:Heap.IsTuple (Shared.heap ⟨hp,g,d,tk,os⟩) l items:=⟨_,hl,rfl,n,rfl⟩;wp_walk using wpAny_loadPart' hl;refine wpAny_stack_any fun st=>wpAny_pure ?_;split
  . rename_i c _ _ _ _ _;cases(c==Value.type "enumerate");.wp_walk using wpAny_loadPart' hl,wpAny_pyIter_tuple hL;exact⟨_,rfl,h⟩
    .wp_walk using wpAny_loadPart' hl,wpAny_pyIter_tuple hL;exact⟨_,rfl,h⟩
  .wp_walk using wpAny_loadPart' hl,wpAny_pyIter_tuple hL;exact⟨_,rfl,h⟩
section
variable{prog:Program}{w:World}{A:Around}{E:Value->Shared->Prop}{s:Shared}
theorem iz{l:Addr}{items:Array Value}{Q:Value->Shared->Prop}(hL:s.heap.IsTuple l items)(h:∀ h',IsEnum h' (s.heap.objs.size+1) s.heap.objs.size 0 .none->h'.IsTupleIter s.heap.objs.size l 0->h'.objs.size=s.heap.objs.size+2->(∀b o,s.heap.get? b=some o->h'.get? b=some o)->Q (.ref (s.heap.objs.size+1)) {s with heap:=h'}):wpAny (model prog w) A (call (.type "enumerate") [.ref l]) Q E s:=by
 obtain⟨⟨c,dct,dt,sl⟩,hl,hc,n,hd⟩:=hL;replace hc:c=.type "tuple":=hc;replace hd:dt=.seq items n:=hd;subst hc hd;refine callType_new F.called_enumerate (by decide) (F.typeCall_enumerate_1 _) (F.newCall_enumerate_1 _) (fun obj=>F.args_object_init_2 obj _) F.entry_enumerate_new (iR l items n dct sl) ⟨hl,?_⟩;have hz:(s.heap.push {cls:=.type "tuple_iterator",data:=.fields #[.ref l,.int 0 0]}).objs.size=s.heap.objs.size+1:=size_push ..;show _/\_;rw[hz];have he:IsEnum ((s.heap.push {cls:=.type "tuple_iterator",data:=.fields #[.ref l,.int 0 0]}).push {cls:=.type "enumerate",data:=.fields #[.none,.bool false,.ref s.heap.objs.size,rawInt 0,.none,.none]}) (s.heap.objs.size+1) s.heap.objs.size 0 .none:=by have:=get?_push_size (s.heap.push {cls:=.type "tuple_iterator",data:=.fields #[.ref l,.int 0 0]}) (o:={cls:=.type "enumerate",data:=.fields #[.none,.bool false,.ref s.heap.objs.size,rawInt 0,.none,.none]}) rfl;rw[hz]at this;exact this
 refine⟨⟨_,he,rfl⟩,h _ he ⟨_,get?_push_of_some _ (get?_push_size _ rfl),rfl,rfl⟩ (by rw[size_push,hz]) fun b o x=>get?_push_of_some _ (get?_push_of_some _ x)⟩
end
end PySem
end
section
namespace L2
open PySem PySem.Spec PyProof.Rows
section
variable{X:Cx}{pins:List (Addr×Obj)}{σ:L2.St}{H:Hp}{s:Shared}
theorem Inv.Dp{ch:List Addr}{h':Heap}{o:HO}{t':Nat}(I:Inv X pins σ H s)(k:∀b u,b∉ch->s.heap.get? b=some u->h'.get? b=some u)(hl:∀b∈ch,∃u,h'.get? b=some u)(hf:∀b∈ch,mR X pins H b)(new:bw X.prog X.w (upd H s.heap.objs.size o) h' s.heap.objs.size o):Inv X pins σ (upd H s.heap.objs.size o) {s with heap:=h',toks:=t'}:=by
 have fr:H s.heap.objs.size=none:=I.hok.fresh (le_refl _);have K3:∀b u,H b=some u->b∉ch:=fun b u e hb=>by rw[(hf b hb).1]at e;cases e
 have up:∀b u,H b=some u->upd H s.heap.objs.size o b=some u:=fun b u e=>by
  have:b≠s.heap.objs.size:=by rintro rfl;rw[fr]at e;cases e
  rw[az this];exact e
 refine I.call (g':=s.gens) (d':=s.drawn) (ch:=ch) ⟨fun b u e n _ hx=>k b u hx e,fun b u e n _ hx=>⟨u.slots,k b u hx e⟩,fun b u e n hx=>?_,fun b u e hx=>⟨u,k b u hx e⟩,fun b xs e=>up b _ e,fun b ob u e=>up b _ e,fun b ps e=>⟨#[],by rw[up b _ e];simp⟩⟩ ?_ I.bare fun b hb=>⟨(hf b hb).2.2.2.1,(hf b hb).2.1,(hf b hb).2.2.2.2.1,(hf b hb).2.2.2.2.2⟩;.have:b≠s.heap.objs.size:=ne_of_lt (lt_size e);rw[az this];exact n
 . intro b u e;by_cases hb:b=s.heap.objs.size;.subst hb;rw[aJ]at e;cases e;exact new
   . rw[az hb]at e;refine(I.hok b u e).stay (fun c v hc q=>k c v ?_ q) (fun c q=>up c _ q) fun c xs q=>up c _ q;rcases hc with rfl|hc;.exact K3 _ _ e
     .exact K3 _ _ hc
end
noncomputable def wC(K:PySem.W.Frag)(a:Addr):It:=⟨fun i H=>∃xs x,dM K H a xs/\xs[i]?=some x,fun i H x H'=>∃T v,H T=none/\x=.ref T/\H'=upd H T (.tup [.int (i:Int),v])/\∀xs,dM K H a xs->xs[i]?=some v,fun i H=>∃xs,dM K H a xs/\xs.length<=i⟩
theorem LR{prog:Program}{w:World}{A:Around}(hh:A.handled=none)(it l:Addr)(hne:l≠it)(items:Array Value):Draws prog w A it [it,l] items.size (fun i v=>items[i]?=some v) (fun i h=>h.IsListIter it l i/\h.IsList l items)where
 live:=fun _ _ st=>let⟨o,ho,_⟩:=st.1;⟨o,ho⟩;frame:=fun _ _ _ st hk=>⟨(let⟨o,ho,r⟩:=st.1;⟨o,hk it (by simp) o ho,r⟩),(let⟨o,ho,r⟩:=st.2;⟨o,hk l (by simp) o ho,r⟩)⟩;item:=fun i s Q E hi st hQ=>by refine wpAny_nextOf_list_item st.1 st.2 (x:=items[i]) (by simp[hi]) fun h' hit' hs'=>?_;exact hQ _ h' s.toks (by simp[hi]) ⟨hit',(let⟨o,ho,r⟩:=st.2;⟨o,hs'.extBut l o hne ho,r⟩)⟩ hs'
 done:=fun s Q E st hE=>wpAny_nextOf_list_end hh st.1 st.2 (by simp) hE
theorem zY{prog:Program}{w:World}{A:Around}(hh:A.handled=none)(it l:Addr)(items:Array Value)(n:Nat)(hn:items.size<=n):Draws prog w A it [it,l] n (fun _ _=>True) (fun i h=>i=n/\h.IsListIter it l i/\h.IsList l items)where live:=fun _ _ st=>let⟨o,ho,_⟩:=st.2.1;⟨o,ho⟩;frame:=fun _ _ _ st hk=>⟨st.1,(let⟨o,ho,r⟩:=st.2.1;⟨o,hk it (by simp) o ho,r⟩),(let⟨o,ho,r⟩:=st.2.2;⟨o,hk l (by simp) o ho,r⟩)⟩;item:=fun i s Q E hi st hQ=>absurd st.1 (ne_of_lt hi);done:=fun s Q E st hE=>wpAny_nextOf_list_end hh st.2.1 st.2.2 (by simp;exact hn) hE
theorem Az{P:Program}{w:World}{K:PySem.W.Frag}{elts:List Expr}{x1}{tp:Pos}(a it e:Addr)(hei:e≠it):Turn P w K (.Tuple elts x1 tp) (wC K a) [e,it] e (fun i h=>(∃old,IsEnum h e it (i:Int) old)/\h.IsListIter it a i)where
 mem:=by simp
 obj:=fun i h st b hb=>by
  obtain⟨⟨old,h1⟩,o,h2,h3,h4⟩:=st;rcases mem_cons.mp hb with rfl|hb;.exact⟨_,h1,fun v z=>by cases z⟩
  . have:b=it:=by simpa using hb
    subst this;exact⟨o,h2,fun v z=>by rw[h4]at z;cases z⟩
 keep:=fun i h h' st k=>by obtain⟨⟨old,h1⟩,o,h2,h3⟩:=st;exact⟨⟨old,k e (by simp) _ h1⟩,o,k it (by simp) _ h2,h3⟩
 item:=fun X hP hw hK hc i pins s σ H E I hf st go=>by
  subst hP hw hK;obtain⟨⟨old,he⟩,hit⟩:=st;obtain⟨xs,x,hq,hx⟩:=go;obtain⟨its,rv,pl,hz⟩:=I.list hq;have hL:s.heap.IsList a its.toArray:=pl.isList;obtain⟨oa,ha,hca,_⟩:=id hL;have hea:e≠a:=by rintro rfl;rw[he]at ha;cases ha;exact absurd (show Value.type "enumerate"=Value.type _ from hca) (by decide)
  have hia:a≠it:=by rintro rfl;obtain⟨o,h2,h3,_⟩:=id hit;rw[h2]at ha;cases ha;rw[h3]at hca;exact absurd hca (by decide)
  have hlt:i<its.toArray.size:=by rw[size_toArray,<-rv.length];exact(List.getElem?_eq_some_iff.mp hx).1
  refine wpAny_pyNext_enum_itemD (LR (show X.A.in1.handled=none from I.ok.hd hc) it a hia its.toArray) he ⟨hit,hL⟩ hlt hei (by simp[hei,hea]) fun y h' tk hy heo hst ht hsz kp=>?_;refine⟨_,rfl,wpAny_letOwnedTupleGo_enum heo fun h'' Gh sb=>?_⟩;obtain⟨u,hu1,hu2⟩:=rv.get hx;have hyu:y=u:=by
   have hy:its[i]?=some y:=by simpa using hy
   rw[hu1]at hy;cases hy;rfl
  subst hyu;have hT:∀b∈[e,it],b≠s.heap.objs.size:=fun b hb=>by
   rcases mem_cons.mp hb with rfl|hb;.exact ne_of_lt (lt_size he)
   . have:b=it:=by simpa using hb
     subst this;obtain⟨o,h2,_⟩:=id hit;exact ne_of_lt (lt_size h2)
  have hTe:s.heap.objs.size≠e:=(hT e (by simp)).symm;have kp2:∀b o,b∉[e,it]->s.heap.get? b=some o->h''.get? b=some o:=fun b o hb q=>by have h1:b≠e:=fun z=>hb (by simp[z]);have h2:b≠it:=fun z=>hb (by simp[z]);exact sb.extBut b o h1 (kp b o h1 h2 q)
  have vh:h''.get? s.heap.objs.size=some {cls:=.type "tuple",data:=.seq #[.int i tk,y]}:=sb.extBut _ _ hTe ht;refine⟨.ref s.heap.objs.size,upd H s.heap.objs.size (.tup [.int (i:Int),x]),?_,rfl,⟨_,x,I.fresh,rfl,rfl,fun ys hys=>?_⟩,⟨⟨_,Gh⟩,?_⟩,fun b hb=>?_⟩
  . refine I.Dp (ch:=[e,it]) (t':=tk+1) kp2 (fun b hb=>?_) (fun b hb=>(hf b hb)) ⟨(by show 2<=sizeLine;decide),[.int i tk,y],.cons ⟨_,rfl⟩ (.cons hu2 .nil),⟨_,vh,rfl,_,rfl⟩⟩;rcases mem_cons.mp hb with rfl|hb;.exact⟨_,Gh⟩
    . have:b=it:=by simpa using hb
      subst this;obtain⟨o,h2,_⟩:=id hst.1;exact⟨o,sb.extBut _ _ (Ne.symm hei) h2⟩
  .rw[I.pF hys hq];exact hx
  .obtain⟨o,h2,r⟩:=hst.1;exact⟨o,sb.extBut _ _ (Ne.symm hei) h2,r⟩
  .rw[az (hT b hb)];exact(hf b hb).1
 done:=fun X hP hw hK hc i pins s σ H E I hf st stop=>by subst hP hw hK;obtain⟨⟨old,he⟩,hit⟩:=st;obtain⟨xs,hq,hx⟩:=stop;obtain⟨its,rv,pl,hz⟩:=I.list hq;have hL:s.heap.IsList a its.toArray:=pl.isList;refine wpAny_pyNext_enum_endD (zY (show X.A.in1.handled=none from I.ok.hd hc) it a its.toArray i (by rw[size_toArray,<-rv.length];exact hx)) he ⟨rfl,hit,hL⟩ fun h' hs=>⟨rfl,?_⟩;have f:=hf it (by simp);exact I.turned (t':=s.toks) (fun b o hb q=>hs b o hb q) f.1 f.2.1 f.2.2.2.1 f.2.2.2.2.1 f.2.2.2.2.2
 self:=fun A i s Q E st q=>wpAny_pyIter_enum st.1.choose_spec q
noncomputable def xg(K:PySem.W.Frag)(a:Addr):It:=⟨fun i H=>∃xs x,gO K H a xs/\xs[i]?=some x,fun i H x H'=>∃T v,H T=none/\x=.ref T/\H'=upd H T (.tup [.int (i:Int),v])/\∀xs,gO K H a xs->xs[i]?=some v,fun i H=>∃xs,gO K H a xs/\xs.length<=i⟩
theorem Mh{prog:Program}{w:World}{A:Around}(hh:A.handled=none)(it l:Addr)(hne:l≠it)(items:Array Value):Draws prog w A it [it,l] items.size (fun i v=>items[i]?=some v) (fun i h=>h.IsTupleIter it l i/\h.IsTuple l items)where
 live:=fun _ _ st=>let⟨o,ho,_⟩:=st.1;⟨o,ho⟩;frame:=fun _ _ _ st hk=>⟨(let⟨o,ho,r⟩:=st.1;⟨o,hk it (by simp) o ho,r⟩),(let⟨o,ho,r⟩:=st.2;⟨o,hk l (by simp) o ho,r⟩)⟩;item:=fun i s Q E hi st hQ=>by refine j6 st.1 st.2 (x:=items[i]) (by simp[hi]) fun h' hit' hs'=>?_;exact hQ _ h' s.toks (by simp[hi]) ⟨hit',(let⟨o,ho,r⟩:=st.2;⟨o,hs'.extBut l o hne ho,r⟩)⟩ hs'
 done:=fun s Q E st hE=>gj hh st.1 st.2 (by simp) hE
theorem Ar{prog:Program}{w:World}{A:Around}(hh:A.handled=none)(it l:Addr)(items:Array Value)(n:Nat)(hn:items.size<=n):Draws prog w A it [it,l] n (fun _ _=>True) (fun i h=>i=n/\h.IsTupleIter it l i/\h.IsTuple l items)where live:=fun _ _ st=>let⟨o,ho,_⟩:=st.2.1;⟨o,ho⟩;frame:=fun _ _ _ st hk=>⟨st.1,(let⟨o,ho,r⟩:=st.2.1;⟨o,hk it (by simp) o ho,r⟩),(let⟨o,ho,r⟩:=st.2.2;⟨o,hk l (by simp) o ho,r⟩)⟩;item:=fun i s Q E hi st hQ=>absurd st.1 (ne_of_lt hi);done:=fun s Q E st hE=>gj hh st.2.1 st.2.2 (by simp;exact hn) hE
theorem zy{P:Program}{w:World}{K:PySem.W.Frag}{elts:List Expr}{x1}{tp:Pos}(a it e:Addr)(hei:e≠it):Turn P w K (.Tuple elts x1 tp) (xg K a) [e,it] e (fun i h=>(∃old,IsEnum h e it (i:Int) old)/\h.IsTupleIter it a i)where
 mem:=by simp
 obj:=fun i h st b hb=>by
  obtain⟨⟨old,h1⟩,o,h2,h3,h4⟩:=st;rcases mem_cons.mp hb with rfl|hb;.exact⟨_,h1,fun v z=>by cases z⟩
  . have:b=it:=by simpa using hb
    subst this;exact⟨o,h2,fun v z=>by rw[h4]at z;cases z⟩
 keep:=fun i h h' st k=>by obtain⟨⟨old,h1⟩,o,h2,h3⟩:=st;exact⟨⟨old,k e (by simp) _ h1⟩,o,k it (by simp) _ h2,h3⟩
 item:=fun X hP hw hK hc i pins s σ H E I hf st go=>by
  subst hP hw hK;obtain⟨⟨old,he⟩,hit⟩:=st;obtain⟨xs,x,hq,hx⟩:=go;obtain⟨its,rv,pl,hz⟩:=I.tuple hq;have hL:s.heap.IsTuple a its.toArray:=pl;obtain⟨oa,ha,hca,_⟩:=id hL;have hea:e≠a:=by rintro rfl;rw[he]at ha;cases ha;exact absurd (show Value.type "enumerate"=Value.type _ from hca) (by decide)
  have hia:a≠it:=by rintro rfl;obtain⟨o,h2,h3,_⟩:=id hit;rw[h2]at ha;cases ha;rw[h3]at hca;exact absurd hca (by decide)
  have hlt:i<its.toArray.size:=by rw[size_toArray,<-rv.length];exact(List.getElem?_eq_some_iff.mp hx).1
  refine wpAny_pyNext_enum_itemD (Mh (show X.A.in1.handled=none from I.ok.hd hc) it a hia its.toArray) he ⟨hit,hL⟩ hlt hei (by simp[hei,hea]) fun y h' tk hy heo hst ht hsz kp=>?_;refine⟨_,rfl,wpAny_letOwnedTupleGo_enum heo fun h'' Gh sb=>?_⟩;obtain⟨u,hu1,hu2⟩:=rv.get hx;have hyu:y=u:=by
   have hy:its[i]?=some y:=by simpa using hy
   rw[hu1]at hy;cases hy;rfl
  subst hyu;have hT:∀b∈[e,it],b≠s.heap.objs.size:=fun b hb=>by
   rcases mem_cons.mp hb with rfl|hb;.exact ne_of_lt (lt_size he)
   . have:b=it:=by simpa using hb
     subst this;obtain⟨o,h2,_⟩:=id hit;exact ne_of_lt (lt_size h2)
  have hTe:s.heap.objs.size≠e:=(hT e (by simp)).symm;have kp2:∀b o,b∉[e,it]->s.heap.get? b=some o->h''.get? b=some o:=fun b o hb q=>by have h1:b≠e:=fun z=>hb (by simp[z]);have h2:b≠it:=fun z=>hb (by simp[z]);exact sb.extBut b o h1 (kp b o h1 h2 q)
  have vh:h''.get? s.heap.objs.size=some {cls:=.type "tuple",data:=.seq #[.int i tk,y]}:=sb.extBut _ _ hTe ht;refine⟨.ref s.heap.objs.size,upd H s.heap.objs.size (.tup [.int (i:Int),x]),?_,rfl,⟨_,x,I.fresh,rfl,rfl,fun ys hys=>?_⟩,⟨⟨_,Gh⟩,?_⟩,fun b hb=>?_⟩
  . refine I.Dp (ch:=[e,it]) (t':=tk+1) kp2 (fun b hb=>?_) (fun b hb=>(hf b hb)) ⟨(by show 2<=sizeLine;decide),[.int i tk,y],.cons ⟨_,rfl⟩ (.cons hu2 .nil),⟨_,vh,rfl,_,rfl⟩⟩;rcases mem_cons.mp hb with rfl|hb;.exact⟨_,Gh⟩
    . have:b=it:=by simpa using hb
      subst this;obtain⟨o,h2,_⟩:=id hst.1;exact⟨o,sb.extBut _ _ (Ne.symm hei) h2⟩
  .rw[I.lM hys hq];exact hx
  .obtain⟨o,h2,r⟩:=hst.1;exact⟨o,sb.extBut _ _ (Ne.symm hei) h2,r⟩
  .rw[az (hT b hb)];exact(hf b hb).1
 done:=fun X hP hw hK hc i pins s σ H E I hf st stop=>by subst hP hw hK;obtain⟨⟨old,he⟩,hit⟩:=st;obtain⟨xs,hq,hx⟩:=stop;obtain⟨its,rv,pl,hz⟩:=I.tuple hq;have hL:s.heap.IsTuple a its.toArray:=pl;refine wpAny_pyNext_enum_endD (Ar (show X.A.in1.handled=none from I.ok.hd hc) it a its.toArray i (by rw[size_toArray,<-rv.length];exact hx)) he ⟨rfl,hit,hL⟩ fun h' hs=>⟨rfl,?_⟩;have f:=hf it (by simp);exact I.turned (t':=s.toks) (fun b o hb q=>hs b o hb q) f.1 f.2.1 f.2.2.2.1 f.2.2.2.2.1 f.2.2.2.2.2
 self:=fun A i s Q E st q=>wpAny_pyIter_enum st.1.choose_spec q
section
variable{X:Cx}{elts:List Expr}{x1:Nat}{tp:Pos}
def aaW(K:PySem.W.Frag)(tl:TE):TI:=fun σ H R=>tl σ H fun x H1=>∃a,x=.ref a/\(((∃xs,dM K H1 a xs)/\R (wC K a) H1)\/((∃xs,gO K H1 a xs)/\R (xg K a) H1))
theorem boot_enumerate:bootBuiltins "enumerate"=some (.type "enumerate"):=by decide+kernel
theorem Ou{a:Expr}{ta:TE}{p pos:Pos}(hg:Gl X "enumerate")(hm:X.mg "enumerate"=none)(ha:PE X a ta)(hs:starEach [a] X.env=[(false,eval a X.env)]:=by rfl):PI X (.Tuple elts x1 tp) (.Call (.Name "enumerate" p) [a] [] pos) (aaW X.K ta):=by
 intro pins s σ H R I h;refine Call_ (lH I hg hm boot_enumerate (PyProof.Rows.callWith_type1 (bL ((cV ha fB hs) pos pins s σ H (fun vs H1=>match vs with|[x]=>∃a,x=.ref a/\(((∃xs,dM X.K H1 a xs)/\R (wC X.K a) H1)\/((∃xs,gO X.K H1 a xs)/\R (xg X.K a) H1))|_=>False) I h) ?_) hs rfl));rintro us s1⟨vs,H1,I1,r1,q1⟩
 . obtain⟨ad,q,vs1⟩:∃ad,(((∃xs,dM X.K H1 ad xs)/\R (wC X.K ad) H1)\/((∃xs,gO X.K H1 ad xs)/\R (xg X.K ad) H1))/\vs=[.ref ad]:=by cases vs with|nil=>cases q1|cons x r=>cases r with|nil=>obtain⟨ad,rfl,q⟩:=q1;exact⟨ad,q,rfl⟩|cons _ _=>cases q1
   subst vs1;obtain⟨u,rfl,ru⟩:=r1.one;cases ru;have fin:∀(h':Heap)(tn:Nat->Heap->Prop)(J:It),Turn X.prog X.w X.K (.Tuple elts x1 tp) J [s1.heap.objs.size+1,s1.heap.objs.size] (s1.heap.objs.size+1) tn->tn 0 h'->IsEnum h' (s1.heap.objs.size+1) s1.heap.objs.size 0 .none->(∀b o,s1.heap.get? b=some o->h'.get? b=some o)->R J H1->wpAny (model X.prog X.w) X.A (pyIter (.ref (s1.heap.objs.size+1))) (PIE X pins σ (.Tuple elts x1 tp) R) X.xe {s1 with heap:=h'}:=fun h' tn J T t0 he kp q=>by
    refine wpAny_pyIter_enum he ⟨_,_,tn,J,H1,rfl,I1.kept (t':=s1.toks) kp,T,t0,fun b hb=>?_,q⟩;have hb':s1.heap.objs.size<=b:=by
     rcases mem_cons.mp hb with rfl|hb;.exact le_succ _
     . have:b=s1.heap.objs.size:=by simpa using hb
       rw[this];exact le_refl _
    exact I1.Ag hb' (I1.hok.fresh hb')
   rcases q with⟨⟨xs,hq⟩,q⟩|⟨⟨xs,hq⟩,q⟩;.obtain⟨its,rv,pl,hz⟩:=I1.list hq;exact call_enumerate_list pl.isList fun h' he hi hsz kp=>fin h' _ _ (Az ad s1.heap.objs.size (s1.heap.objs.size+1) (Nat.succ_ne_self _)) ⟨⟨_,he⟩,hi⟩ he kp q
   .obtain⟨its,rv,pl,hz⟩:=I1.tuple hq;exact iz pl fun h' he hi hsz kp=>fin h' _ _ (zy ad s1.heap.objs.size (s1.heap.objs.size+1) (Nat.succ_ne_self _)) ⟨⟨_,he⟩,hi⟩ he kp q
end
end L2
namespace HH
open PySem L2 PySem.Spec PyProof.Rows
section
variable{K:PySem.W.Frag}{F F1 H H1:Hp}{ρ ρ1:List Sl}{σ:L2.St}{ds:List D}{a:Addr}
theorem uT{F' H':Hp}{T:Addr}{v w:V}{d1 d2:D}(sm:aH F' H')(hT:H' T=none)(r1:Rep K F' v d1)(r2:Rep K F' w d2):∃F'',Ext F' H' F'' (upd H' T (.tup [v,w]))/\Rep K F'' (.ref T) (.tup [d1,d2]):=wL (Q:=fun v jL=>∃F'',Ext F' H' F'' jL/\Rep K F'' v (.tup [d1,d2])) sm (.cons r1 (.cons r2 .nil)) hT fun v F'' jL x rn=>⟨F'',x,rn⟩
theorem Cg{xs:List V}{F' H':Hp}(hq:dM K H' a xs)(r:aF K F' xs ds)(s:aH F' H')(k:Nat):(∀d,(ds.mapIdx fun i d=>D.tup [.int (i:Int),d])[k]?=some d->(wC K a).go k H'/\∀x jL,(wC K a).Gw k H' x jL->∃F'',Ext F' H' F'' jL/\Rep K F'' x d)/\((ds.mapIdx fun i d=>D.tup [.int (i:Int),d]).length<=k->(wC K a).stop k H'):=by refine⟨fun d hd=>?_,fun h=>⟨xs,hq,by rw[r.length];simpa using h⟩⟩;rw[List.getElem?_mapIdx]at hd;obtain⟨d0,e1,e2⟩:=map_some hd;subst e2;obtain⟨w,h1,h2⟩:=r.get e1;refine⟨⟨xs,w,hq,h1⟩,?_⟩;rintro x jL⟨T,v,hT,hx,hH,y⟩;subst hx;subst hH;have:=y xs hq;rw[h1]at this;cases this;exact uT s hT (bA _) h2
theorem Ej{xs:List V}{F' H':Hp}(hq:gO K H' a xs)(r:aF K F' xs ds)(s:aH F' H')(k:Nat):(∀d,(ds.mapIdx fun i d=>D.tup [.int (i:Int),d])[k]?=some d->(xg K a).go k H'/\∀x jL,(xg K a).Gw k H' x jL->∃F'',Ext F' H' F'' jL/\Rep K F'' x d)/\((ds.mapIdx fun i d=>D.tup [.int (i:Int),d]).length<=k->(xg K a).stop k H'):=by refine⟨fun d hd=>?_,fun h=>⟨xs,hq,by rw[r.length];simpa using h⟩⟩;rw[List.getElem?_mapIdx]at hd;obtain⟨d0,e1,e2⟩:=map_some hd;subst e2;obtain⟨w,h1,h2⟩:=r.get e1;refine⟨⟨xs,w,hq,h1⟩,?_⟩;rintro x jL⟨T,v,hT,hx,hH,y⟩;subst hx;subst hH;have:=y xs hq;rw[h1]at this;cases this;exact uT s hT (bA _) h2
end
section
variable{X:Cx}{c:Call}{e a:Expr}{pa:P}{pos:Pos}{elts:List Expr}{x1:Nat}{tp:Pos}
theorem Ce{x:Str}{p':Pos}(hx:x="enumerate")(hg:Gl X x)(hm:X.mg x=none)(ha:SX X c a pa)(hs:starEach [a] X.env=[(false,eval a X.env)]:=by rfl):SI X c (.Tuple elts x1 tp) (.Call (.Name x p') [a] [] pos) (.Sq pa):=by subst hx;refine oh (Ou hg hm ha.ev hs) ?_;rintro σ H R⟨F,ρ,ds,ρ1,g,e,k⟩;obtain⟨r,ρ2,e1,e2⟩:=aa e;have zz:=aG e2;clear e2;obtain⟨e2,e3⟩:=zz;subst e3;rw[HH.E19]at e1;obtain⟨r0,ρ3,e4,e5⟩:=aa e1;have zz:=aG e5;clear e5;obtain⟨e5,e6⟩:=zz;subst e6;obtain⟨es,f1,f2⟩:=map_some e5;subst f2;cases e2;refine⟨F,ρ,r0,_,g,e4,fun v F' H' s rr=>?_⟩;obtain⟨F2,s2,_,rp⟩:=s.cG rr;cases hd:r0.d with|tup es'=>rw[hd]at f1 rp;cases f1;rw[Rep]at rp;obtain⟨ad,xs,rfl,h1,h2⟩:=rp;exact⟨ad,rfl,.inr ⟨⟨xs,aH.fM s2.gs.sub h1⟩,k _ _ _ ⟨s2.gs,fun n k F' ρ' σ' H' s'=>Ej (aH.fM s'.gs.sub (aH.fM s'.bY h1)) (h2.mono s'.bY) s'.gs.sub k,fun F3 ρ3 σ3 H3 s3=>⟨s2.trans s3,fun v r rr=>rr.later s2⟩⟩⟩⟩|lst es'=>rw[hd]at f1 rp;cases f1;rw[Rep]at rp;obtain⟨ad,xs,rfl,h1,h2⟩:=rp;exact⟨ad,rfl,.inl ⟨⟨xs,s2.gs.sub.seq h1⟩,k _ _ _ ⟨s2.gs,fun n k F' ρ' σ' H' s'=>Cg (s'.gs.sub.seq (s'.bY.seq h1)) (h2.mono s'.bY) s'.gs.sub k,fun F3 ρ3 σ3 H3 s3=>⟨s2.trans s3,fun v r rr=>rr.later s2⟩⟩⟩⟩|_=>rw[hd]at f1;cases f1
end
end HH
end
section
namespace L2
open PySem PySem.Spec PyProof.Rows
end L2
namespace HH
open PySem L2 PySem.Spec PyProof.Rows
structure bz(K:PySem.W.Frag)(x:Str)(st:Stmt):Prop where ex:∃f fd,PySem.W.nsIn K mainGlobals x=some (some (.ref f))/\gF K x x st f fd
section
variable{Pg:Program}{w:World}{K:PySem.W.Frag}{mg:Str->Option Value}{base h:Heap}
theorem Qm{x:Str}{st:Stmt}{f:Addr}{oc:Value}{od an:Option Addr}{osl:Array (Option Value)}{kV doc pm cdv ct:Value}(a:PySem.W.nsIn K mainGlobals x=some (some (.ref f)))(l:K.lookup f=some ⟨oc,od,.func (PySem.W.fnOf x x (gK st) (eZ st) (aA st) .none kV doc pm an cdv ct),osl⟩)(c:PySem.W.codeIn K cdv x=true)(k:keepIn K (.ref f)=true):bz K x st:=⟨_,_,a,MF l c k⟩
theorem bB{Γ:Tab}{wl i np:Nat}{x:Str}{st:Stmt}{ps:List Str}(X:K.In h)(G:h.Ns mainGlobals mg)(D:bz K x st)(hp:ps.length=np)(hb:∀(kV doc pm:Value)(an:Option Addr)(cdv ct:Value)(us:List Value),us.length=ps.length->bindArgs (PySem.W.fnOf x x (gK st) (eZ st) (aA st) .none kV doc pm an cdv ct) ⟨us,[]⟩=pure (ps.zip us)):ao Pg w K mg base 0 (run Γ wl 0) i x np:=by obtain⟨f,fd,a,F⟩:=D.ex;exact⟨f,fd,ps,⟨fun vs H Q E s=>s.1,fun A outer s H args us vs Q E hr e b v sp=>by obtain⟨_,F,as,r,as',_,z,_⟩:=sp;cases z⟩,mg_of X G a,F.kp,F.binds hb,hp⟩
theorem bD{Γ:Tab}{wl n i np:Nat}{x:Str}{st:Stmt}{ps:List Str}{d:Fd}(X:K.In h)(G:h.Ns mainGlobals mg)(D:bz K x st)(hp:ps.length=np)(hΓ:Γ i=some d)(hb:∀(kV doc pm:Value)(an:Option Addr)(cdv ct:Value)(us:List Value),us.length=ps.length->bindArgs (PySem.W.fnOf x x (gK st) (eZ st) (aA st) .none kV doc pm an cdv ct) ⟨us,[]⟩=pure (ps.zip us))(ok:∀f fd,gF K x x st f fd->bJ Pg w K mg base gf (n+1) f fd ps (gD K np (fun args=>enter (run Γ wl n) wl d args))):ao Pg w K mg base (n+1) (run Γ wl (n+1)) i x np:=by
 obtain⟨f,fd,a,F⟩:=D.ex;refine⟨f,fd,ps,?_,mg_of X G a,F.kp,F.binds hb,hp⟩;have e:run Γ wl (n+1) i=fun args=>enter (run Γ wl n) wl d args:=by funext args;show(match Γ i with|some d=>enter (run Γ wl n) wl d args|none=>.stuck)=_;rw[hΓ]
 rw[e,hp];exact ok f fd F
theorem qK{F:Hp}:∀ns:List Int,aF K F (ns.map V.int) (ns.map D.int)|[]=>.nil|n::ns=>.cons (bA n) (qK ns)
theorem zT{H:Hp}{a:Addr}{ns:List Int}{g:List Sl->Res R}{as:List Sl}(hS:dM K H a (ns.map V.int))(hr:g [.val false (.lst (ns.map D.int))]=.ok (.val (.bl true)) as):gD K 1 g [.ref a] H (fun v _=>v=.bl true) fun _ _ _=>False:=by
 refine⟨rfl,H,_,_,as,⟨.refl _,rfl,fun i b d e=>?_,fun i s ds e e'=>?_,fun i j c h=>?_⟩,hr,fun v F' σ' H' s rr=>?_⟩;.match i,e with|0,e=>cases e;refine⟨.ref a,rfl,?_⟩;rw[Rep];exact⟨a,_,rfl,hS,qK ns⟩|i+1,e=>simp at e
 .match i,e with|0,e=>cases e;cases e'|i+1,e=>simp at e
 .obtain⟨⟨s,ds,e,e'⟩,_⟩:=h;match i,e with|0,e=>cases e;cases e'|i+1,e=>simp at e
 .have rr:Rep K F' v (.bl true):=rr;rw[Rep]at rr;exact rr
end
end HH
end
section
namespace HH
open PySem
def Res.sat{α:Type}(Q:α->List Sl->Prop)(x:Res α):Prop:=match x with|.ok a ρ=>Q a ρ|.exc _ _=>False|.stuck=>False
section
variable{α β:Type}{Q Q':α->List Sl->Prop}
@[simp]theorem LK{a:α}{ρ:List Sl}:(Res.ok a ρ).sat Q=Q a ρ:=rfl
@[simp]theorem XX{k:Nat}{ρ:List Sl}:(Res.exc k ρ:Res α).sat Q=False:=rfl
@[simp]theorem Q0:(Res.stuck:Res α).sat Q=False:=rfl
theorem bK{x:Res β}{f:β->List Sl->Res α}:(x.bind f).sat Q=x.sat fun a ρ=>(f a ρ).sat Q:=by cases x<;>rfl
@[simp]theorem XR{p:Prop}[Decidable p]{x y:Res α}:(if p then x else y).sat Q=((p->x.sat Q)/\(¬ p->y.sat Q)):=by by_cases h:p<;>simp[h]
@[simp]theorem Gv{a:α}{ρ:List Sl}:(lift (some a) ρ).sat Q=Q a ρ:=rfl
@[simp]theorem Gr{ρ:List Sl}:(lift (none:Option α) ρ).sat Q=False:=rfl
@[simp]theorem Iu{p:Prop}[Decidable p]{a:α}{ρ:List Sl}:(lift (if p then some a else none) ρ).sat Q=(p/\Q a ρ):=by by_cases h:p<;>simp[h]
theorem Res.sat.imp{x:Res α}(h:x.sat Q)(k:∀a ρ,Q a ρ->Q' a ρ):x.sat Q':=by cases x with|ok a ρ=>exact k a ρ h|exc _ _=>exact h|stuck=>exact h
theorem sat_iff{x:Res α}:x.sat Q↔∃a ρ,x=.ok a ρ/\Q a ρ:=by cases x with|ok a ρ=>exact⟨fun h=>⟨a,ρ,rfl,h⟩,fun⟨_,_,e,h⟩=>by cases e;exact h⟩|exc _ _=>exact⟨fun h=>h.elim,fun⟨_,_,e,_⟩=>by cases e⟩|stuck=>exact⟨fun h=>h.elim,fun⟨_,_,e,_⟩=>by cases e⟩
end
noncomputable def fr:Sl->Bool|.aU=>true|.val b _=>!b|.own b _=>!b|.lent _=>false|.fO _=>false|.cA _=>false|.hold _=>false
@[simp]theorem aaK:fr .aU=true:=rfl
@[simp]theorem Y5{b:Bool}{d:D}:fr (.val b d)=!b:=rfl
@[simp]theorem Zw{b:Bool}{d:List D}:fr (.own b d)=!b:=rfl
@[simp]theorem Yd{d:List D}:fr (.lent d)=false:=rfl
theorem MN(ρ:List Sl)(i:Nat)(s:Sl):put ρ i s=match ρ[i]?with|some t=>if fr t=true then some (ρ.set i s)else none|none=>none:=by unfold put;cases h:ρ[i]?with|none=>rfl|some t=>cases t with|aU=>rfl|val b d=>cases b<;>rfl|own b d=>cases b<;>rfl|lent d=>rfl|fO m=>rfl|cA m=>rfl|hold m=>rfl
theorem Cv{Γ:Tab}{w n i:Nat}{d:Fd}{args:List Sl}(h:Γ i=some d):run Γ w (n+1) i args=enter (run Γ w n) w d args:=by rw[run,h]
noncomputable def fin(np:Nat):Fl->List Sl->Option (R×List Sl)|.next,ρ=>some (.val .non,ρ.take np)|.ret r,ρ=>some (r,ρ.take np)|_,_=>none
def eQ(np:Nat)(Q:R->List Sl->Prop)(fl:Fl)(ρ:List Sl):Prop:=match fl with|.next=>Q (.val .non) (ρ.take np)|.ret r=>Q r (ρ.take np)|_=>False
def sQ(c:Call)(n:Nat)(r:List S)(Q:Fl->List Sl->Prop)(fl:Fl)(ρ:List Sl):Prop:=match fl with|.next=>(gH c n r ρ).sat Q|fl=>Q fl ρ
def fQ(J:List Sl->Prop)(Q:Fl->List Sl->Prop)(fl:Fl)(ρ:List Sl):Prop:=match fl with|.next=>J ρ|.cont=>J ρ|.brk=>Q .next ρ|.ret v=>Q (.ret v) ρ
section
variable{np:Nat}{Q:R->List Sl->Prop}{ρ:List Sl}{v:R}{c:Call}{n:Nat}{r:List S}{Q':Fl->List Sl->Prop}{J:List Sl->Prop}
@[simp]theorem WX:eQ np Q .next ρ=Q (.val .non) (ρ.take np):=rfl
@[simp]theorem aaX:eQ np Q (.ret v) ρ=Q v (ρ.take np):=rfl
@[simp]theorem YS:eQ np Q .brk ρ=False:=rfl
@[simp]theorem W2:eQ np Q .cont ρ=False:=rfl
@[simp]theorem W4:sQ c n r Q' .next ρ=(gH c n r ρ).sat Q':=rfl
@[simp]theorem ZC:sQ c n r Q' (.ret v) ρ=Q' (.ret v) ρ:=rfl
@[simp]theorem aan:sQ c n r Q' .brk ρ=Q' .brk ρ:=rfl
@[simp]theorem Xz:sQ c n r Q' .cont ρ=Q' .cont ρ:=rfl
@[simp]theorem Xn:fQ J Q' .next ρ=J ρ:=rfl
@[simp]theorem Xu:fQ J Q' .cont ρ=J ρ:=rfl
@[simp]theorem aa7:fQ J Q' .brk ρ=Q' .next ρ:=rfl
@[simp]theorem Z6:fQ J Q' (.ret v) ρ=Q' (.ret v) ρ:=rfl
end
theorem Aw{c:Call}{n:Nat}{d:Fd}{args:List Sl}{Q:R->List Sl->Prop}(hl:args.length=d.np)(hd:d.np<=d.nn)(h:(gH c n d.body (args++replicate (d.nn-d.np) .aU)).sat (eQ d.np Q)):(enter c n d args).sat Q:=by unfold enter;rw[if_pos ⟨hl,hd⟩];revert h;cases gH c n d.body (args++replicate (d.nn-d.np) .aU)with|stuck=>exact fun h=>False.elim h|exc _ _=>exact fun h=>False.elim h|ok fl ρ=>cases fl<;>first|exact id|exact fun h=>False.elim h
theorem aM{Γ:Tab}{w n i:Nat}{d:Fd}{args:List Sl}{Q:R->List Sl->Prop}(hΓ:Γ i=some d)(hl:args.length=d.np)(hd:d.np<=d.nn)(h:(gH (run Γ w n) w d.body (args++replicate (d.nn-d.np) .aU)).sat (eQ d.np Q)):(run Γ w (n+1) i args).sat Q:=by rw[Cv hΓ];exact Aw hl hd h
theorem ak{c:Call}{n:Nat}{s:S}{r:List S}{ρ:List Sl}{Q:Fl->List Sl->Prop}(h:(ex c n s ρ).sat (sQ c n r Q)):(gH c n (s::r) ρ).sat Q:=by rw[Lh,bK];refine h.imp fun fl ρ' q=>?_;cases fl<;>exact q
theorem zA{c:Call}{n:Nat}{s:S}{r:List S}{ρ:List Sl}{Q:Fl->List Sl->Prop}(h:(ex c n s ρ).sat (sQ c n r Q)):sQ c n (s::r) Q .next ρ:=ak h
@[simp]theorem XD{c:Call}{n:Nat}{ρ:List Sl}{Q:Fl->List Sl->Prop}:(gH c n [] ρ).sat Q=Q .next ρ:=by rw[xs0];rfl
theorem eY{c:Call}{n:Nat}{s:S}{r:List S}{ρ:List Sl}{Q:Fl->List Sl->Prop}(M:List Sl->Prop)(h:(ex c n s ρ).sat fun fl ρ'=>fl=.next/\M ρ')(k:∀ρ',M ρ'->(gH c n r ρ').sat Q):(gH c n (s::r) ρ).sat Q:=ak (h.imp fun fl ρ'⟨e,q⟩=>by subst e;exact k ρ' q)
theorem bF{is:List Nat}{one:Bool}{body:List Sl->Res Fl}(J:List D->List Sl->Prop){Q:Fl->List Sl->Prop}(hb:∀d r ρ,J (d::r) ρ->∃ρ1,cB ρ is one d=some ρ1/\(body ρ1).sat (fQ (J r) Q))(hq:∀ρ,J [] ρ->Q .next ρ):∀{ds:List D}{ρ:List Sl},J ds ρ->(gw is one body ds ρ).sat Q|[],ρ,j=>hq ρ j|d::r,ρ,j=>by obtain⟨ρ1,e,h⟩:=hb d r ρ j;rw[gw,e];show((body ρ1).bind _).sat Q;rw[bK];refine h.imp fun fl ρ2 q=>?_;cases fl with|next=>exact bF J hb hq q|cont=>exact bF J hb hq q|brk=>exact q|ret v=>exact q
theorem jj{is:List Nat}{one:Bool}{test:List Sl->Res Bool}{elt:Ev}(J:List Sl->Prop)(g:D->Option D){Q:List D->List Sl->Prop}:∀{ds acc:List D}{ρ:List Sl},J ρ->(∀ d,d ∈ ds->∀ ρ,J ρ->∃ ρ1,cB ρ is one d=some ρ1/\(test ρ1).sat fun b ρ2=>if b=true then(elt ρ2).sat fun r ρ3=>g d=some r.d/\J ρ3 else g d=none/\J ρ2)->(∀ ρ,J ρ->Q (acc++ds.filterMap g) ρ)->(turns is one test elt ds acc ρ).sat Q|[],acc,ρ,j,h,k=>by rw[turns];simpa using k ρ j|d::r,acc,ρ,j,h,k=>by obtain⟨ρ1,e,h1⟩:=h d (by simp) ρ j;rw[turns,e];show((test ρ1).bind _).sat Q;rw[bK];refine h1.imp fun b ρ2 q=>?_;cases b with|true=>rw[if_pos rfl]at q;rw[if_pos rfl,bK];refine q.imp fun x ρ3⟨e1,j3⟩=>?_;refine jj J g j3 (fun d' hd'=>h d' (by simp[hd'])) fun ρ' j'=>?_;have:=k ρ' j';rw[filterMap_cons,e1]at this;rw[append_assoc];exact this|false=>rw[if_neg (by simp)]at q;rw[if_neg (by simp)];refine jj J g q.2 (fun d' hd'=>h d' (by simp[hd'])) fun ρ' j'=>?_;have:=k ρ' j';rw[filterMap_cons,q.1]at this;exact this
theorem wJ{is:List Nat}{one:Bool}{elt:Ev}{c:Call}(J:List Sl->Prop)(g:D->D){Q:List D->List Sl->Prop}{ds:List D}{ρ:List Sl}(j:J ρ)(h:∀d,d∈ds->∀ρ,J ρ->∃ρ1,cB ρ is one d=some ρ1/\(elt ρ1).sat fun r ρ3=>g d=r.d/\J ρ3)(k:∀ρ,J ρ->Q (ds.map g) ρ):(turns is one (sH c none) elt ds [] ρ).sat Q:=jj J (fun d=>some (g d)) j (fun d hd ρ j=>by obtain⟨ρ1,e,h1⟩:=h d hd ρ j;refine⟨ρ1,e,?_⟩;rw[sH,LK,if_pos rfl];exact h1.imp fun r ρ3 q=>⟨by rw[q.1],q.2⟩) fun ρ j=>by simpa using k ρ j
section
variable{ρ l:List Sl}{a:Sl}{i j:Int}{k m:Nat}{b b':Bool}{s:Str}{d:D}{ds es:List D}{e f:Ev}{x:Option Sl}{c:Call}
@[simp]theorem LQ:cz .int .non=false:=rfl
@[simp]theorem R5:cz .int (.bl b)=true:=rfl
@[simp]theorem NK:cz .int (.int i)=true:=rfl
@[simp]theorem Qh:cz .int (.str s)=false:=rfl
@[simp]theorem Lz:cz .int (.tup ds)=false:=rfl
@[simp]theorem NP:cz .int (.lst ds)=false:=rfl
@[simp]theorem JQ:cz .bool .non=false:=rfl
@[simp]theorem Nb:cz .bool (.bl b)=true:=rfl
@[simp]theorem J7:cz .bool (.int i)=false:=rfl
@[simp]theorem Kh:cz .bool (.str s)=false:=rfl
@[simp]theorem Ku:cz .bool (.tup ds)=false:=rfl
@[simp]theorem JX:cz .bool (.lst ds)=false:=rfl
@[simp]theorem O2:cz .str .non=false:=rfl
@[simp]theorem RX:cz .str (.bl b)=false:=rfl
@[simp]theorem Ng:cz .str (.int i)=false:=rfl
@[simp]theorem Oa:cz .str (.str s)=true:=rfl
@[simp]theorem Pn:cz .str (.tup ds)=false:=rfl
@[simp]theorem O5:cz .str (.lst ds)=false:=rfl
@[simp]theorem Gy:cz .tuple .non=false:=rfl
@[simp]theorem Ks:cz .tuple (.bl b)=false:=rfl
@[simp]theorem G7:cz .tuple (.int i)=false:=rfl
@[simp]theorem Hx:cz .tuple (.str s)=false:=rfl
@[simp]theorem GD:cz .tuple (.tup ds)=true:=rfl
@[simp]theorem Hv:cz .tuple (.lst ds)=false:=rfl
@[simp]theorem KN:cz .list .non=false:=rfl
@[simp]theorem Ms:cz .list (.bl b)=false:=rfl
@[simp]theorem JG:cz .list (.int i)=false:=rfl
@[simp]theorem Ka:cz .list (.str s)=false:=rfl
@[simp]theorem Ko:cz .list (.tup ds)=false:=rfl
@[simp]theorem JR:cz .list (.lst ds)=true:=rfl
@[simp]theorem Kd:cz .none .non=true:=rfl
@[simp]theorem Mx:cz .none (.bl b)=false:=rfl
@[simp]theorem J9:cz .none (.int i)=false:=rfl
@[simp]theorem KQ:cz .none (.str s)=false:=rfl
@[simp]theorem JM:cz .none (.tup ds)=false:=rfl
@[simp]theorem Kg:cz .none (.lst ds)=false:=rfl
@[simp]theorem Q6:iC .non=true:=rfl
@[simp]theorem VN:iC (.bl b)=false:=rfl
@[simp]theorem Sd:iC (.int i)=false:=rfl
@[simp]theorem RG:iC (.str s)=false:=rfl
@[simp]theorem R1:iC (.tup ds)=false:=rfl
@[simp]theorem Rw:iC (.lst ds)=false:=rfl
@[simp]theorem Tg:flat .non=true:=rfl
@[simp]theorem WT:flat (.bl b)=true:=rfl
@[simp]theorem Vd:flat (.int i)=true:=rfl
@[simp]theorem U0:flat (.str s)=true:=rfl
@[simp]theorem TF:flat (.tup ds)=false:=rfl
@[simp]theorem Tz:flat (.lst ds)=false:=rfl
@[simp]theorem Zv:(R.val d).d=d:=rfl
@[simp]theorem abq:(R.own ds).d=.lst ds:=rfl
@[simp]theorem Ti:v7 (.val d)=.val false d:=rfl
@[simp]theorem VG:v7 (.own ds)=.own false ds:=rfl
@[simp]theorem QX:uR (.val d)=.dat d:=rfl
@[simp]theorem Ru:uR (.own ds)=.tmp ds:=rfl
@[simp]theorem Yi:gh (.int i)=some i:=rfl
@[simp]theorem Zg:RN (.bl b)=some b:=rfl
@[simp]theorem QV:items (.lst ds)=some ds:=rfl
@[simp]theorem Rv:items (.tup ds)=some ds:=rfl
@[simp]theorem Nz:MT (.tup ds)=some ds:=rfl
@[simp]theorem Lw:Qi (.lst ds)=some ds:=rfl
@[simp]theorem Xo:pP .add=oJ:=rfl
@[simp]theorem Xg:pP .sub=ud:=rfl
@[simp]theorem Wz:pP .mul=iI:=rfl
@[simp]theorem Uh:pP .fdiv=pB:=rfl
@[simp]theorem Wq:pP .mod=ur:=rfl
@[simp]theorem Wx:pP .pow=uV:=rfl
@[simp]theorem QB:oJ (.int i) (.int j)=some (.val (.int (i+j))):=rfl
@[simp]theorem Rj:oJ (.lst ds) (.lst es)=if ds.length+es.length<=lim then some (.own (ds++es))else none:=rfl
@[simp]theorem QH:oJ (.tup ds) (.tup es)=if ds.length+es.length<=lim then some (.val (.tup (ds++es)))else none:=rfl
@[simp]theorem RM:ud (.int i) (.int j)=some (.val (.int (i-j))):=rfl
@[simp]theorem R6:iI (.int i) (.int j)=if((-18446744073709551616<i/\i<18446744073709551616)\/(-18446744073709551616<j/\j<18446744073709551616))then some (.val (.int (i*j)))else none:=rfl
@[simp]theorem PX:pB (.int i) (.int j)=if 0<j/\j<1606938044258990275541962092341162602522202993782792835301376 then some (.val (.int (i/j)))else none:=rfl
@[simp]theorem RV:ur (.int i) (.int j)=if 0<j then some (.val (.int (i%j)))else none:=rfl
@[simp]theorem R9:uV (.int i) (.int j)=if 0<=j/\j<=1000/\i.natAbs<18446744073709551616 then some (.val (.int (i^j.toNat)))else none:=rfl
@[simp]theorem WK:GK (.lst ds) (.int i)=(at' ds i).map .val:=rfl
@[simp]theorem XM:GK (.tup ds) (.int i)=(at' ds i).map .val:=rfl
@[simp]theorem Vs:Bv (.int i)=some (.val (.int (-i))):=rfl
@[simp]theorem Ro:cm .eq (.int i) (.int j)=some (i==j):=rfl
@[simp]theorem Rx:cm .ne (.int i) (.int j)=some (!(i==j)):=rfl
@[simp]theorem Ul:cm .eq (.bl b) (.bl b')=some (b==b'):=rfl
@[simp]theorem Ub:cm .ne (.bl b) (.bl b')=some (!(b==b')):=rfl
@[simp]theorem RQ:cm .lt (.int i) (.int j)=some (decide (i<j)):=rfl
@[simp]theorem QR:cm .le (.int i) (.int j)=some (decide (i<=j)):=rfl
@[simp]theorem Ri:cm .gt (.int i) (.int j)=some (decide (j<i)):=rfl
@[simp]theorem Qz:cm .ge (.int i) (.int j)=some (decide (j<=i)):=rfl
@[simp]theorem Zn:cm .isN d .non=some (iC d):=rfl
@[simp]theorem Xr:cm .Jz d .non=some (!iC d):=rfl
@[simp]theorem Kz:blt .len [.lst ds]=some (.val (.int ds.length)):=rfl
@[simp]theorem J4:blt .len [.tup ds]=some (.val (.int ds.length)):=rfl
@[simp]theorem GQ:blt .list [.lst ds]=some (.own ds):=rfl
@[simp]theorem Im:blt .list [.tup ds]=some (.own ds):=rfl
@[simp]theorem Gn:blt .tuple [.lst ds]=some (.val (.tup ds)):=rfl
@[simp]theorem Gu:blt .tuple [.tup ds]=some (.val (.tup ds)):=rfl
@[simp]theorem Ui:blt .min2 [.int i,.int j]=some (.val (.int (if j<i then j else i))):=rfl
@[simp]theorem T7:blt .max2 [.int i,.int j]=some (.val (.int (if i<j then j else i))):=rfl
@[simp]theorem RZ:isVar (.var k)=some k:=rfl
@[simp]theorem Yj:pk (a::l) k=match(a::l)[k]?with|some (.val _ d)=>some d|some (.own _ ds)=>some (.lst ds)|some (.lent ds)=>some (.lst ds)|_=>none:=rfl
@[simp]theorem Vj:wu (a::l) k=match pk (a::l) k with|some (.lst ds)=>some ds|_=>none:=rfl
@[simp]theorem UJ:bW (some k) e ρ=lift (pk ρ k) ρ:=rfl
@[simp]theorem Uz:bW none e ρ=(e ρ).bind fun r ρ=>.ok r.d ρ:=rfl
@[simp]theorem Rf{y:Option Nat}:jm (some k) e y f ρ=(lift (pk ρ k) ρ).bind fun _ ρ=>(bW y f ρ).bind fun y ρ=>(lift (pk ρ k) ρ).bind fun x ρ=>.ok (x,y) ρ:=rfl
@[simp]theorem QD{y:Option Nat}:jm none e y f ρ=(bW none e ρ).bind fun x ρ=>(bW y f ρ).bind fun y ρ=>.ok (x,y) ρ:=rfl
@[simp]theorem QC{es:List D}:dI (.own b ds) (some (.own b' es))=.own b es:=rfl
@[simp]theorem RL:dI (.own b ds) (some (.val b' d))=.val b d:=rfl
@[simp]theorem Dd:dI a none=a:=by cases a<;>rfl
@[simp]theorem zB:dI (.val b d) x=.val b d:=by cases x<;>rfl
@[simp]theorem QF:dI .aU x=.aU:=by cases x<;>rfl
@[simp]theorem wz:dI (.lent ds) x=.lent ds:=by cases x<;>rfl
@[simp]theorem Tf:cB ρ [k] true d=put ρ k (.val false d):=rfl
@[simp]theorem Rg{is:List Nat}:cB ρ is false (.tup ds)=putAll ρ is ds:=by cases is<;>rfl
@[simp]theorem Ph:srcOf none e ρ=(e ρ).bind fun r ρ=>lift (items r.d) ρ:=rfl
@[simp]theorem Qk:srcOf (some k) e (a::l)=match(a::l)[k]?with|some (.val _ d)=>lift (items d) (a::l)|some (.own _ ds)=>.ok ds ((a::l).set k (.lent ds))|some (.lent ds)=>.ok ds (a::l)|_=>.stuck:=rfl
@[simp]theorem Kf{ρ':List Sl}:bh ρ' none ρ=ρ:=rfl
@[simp]theorem JH:bh (a::l) (some k) ρ=match(a::l)[k]?with|some (.own b ds)=>ρ.set k (.own b ds)|_=>ρ:=rfl
@[simp]theorem Vb{s:Sl}:put (a::l) k s=match(a::l)[k]?with|some t=>if fr t=true then some ((a::l).set k s)else none|none=>none:=MN ..
@[simp]theorem OJ:putAll ρ [] []=some ρ:=rfl
@[simp]theorem J8{is:List Nat}:putAll ρ (k::is) (d::ds)=(put ρ k (.val false d)).bind fun ρ=>putAll ρ is ds:=rfl
end
@[simp]theorem aaN{α:Type}{a0:α}{l:List α}:at' (a0::l) 0=some a0:=by unfold at' ig;rw[if_pos (by decide),if_pos (by simp only[length_cons];omega)];rfl
@[simp]theorem aaz{α:Type}{a0 a1:α}{l:List α}:at' (a0::a1::l) 1=some a1:=by unfold at' ig;rw[if_pos (by decide),if_pos (by simp only[length_cons];omega)];rfl
@[simp]theorem ZW{α:Type}{a0 a1 a2:α}{l:List α}:at' (a0::a1::a2::l) 2=some a2:=by unfold at' ig;rw[if_pos (by decide),if_pos (by simp only[length_cons];omega)];rfl
@[simp]theorem ZF{α:Type}{a0 a1 a2 a3:α}{l:List α}:at' (a0::a1::a2::a3::l) 3=some a3:=by unfold at' ig;rw[if_pos (by decide),if_pos (by simp only[length_cons];omega)];rfl
@[simp]theorem at_4{α:Type}{a0 a1 a2 a3 a4:α}{l:List α}:at' (a0::a1::a2::a3::a4::l) 4=some a4:=by unfold at' ig;rw[if_pos (by decide),if_pos (by simp only[length_cons];omega)];rfl
@[simp]theorem at_5{α:Type}{a0 a1 a2 a3 a4 a5:α}{l:List α}:at' (a0::a1::a2::a3::a4::a5::l) 5=some a5:=by unfold at' ig;rw[if_pos (by decide),if_pos (by simp only[length_cons];omega)];rfl
@[simp]theorem at_6{α:Type}{a0 a1 a2 a3 a4 a5 a6:α}{l:List α}:at' (a0::a1::a2::a3::a4::a5::a6::l) 6=some a6:=by unfold at' ig;rw[if_pos (by decide),if_pos (by simp only[length_cons];omega)];rfl
@[simp]theorem at_7{α:Type}{a0 a1 a2 a3 a4 a5 a6 a7:α}{l:List α}:at' (a0::a1::a2::a3::a4::a5::a6::a7::l) 7=some a7:=by unfold at' ig;rw[if_pos (by decide),if_pos (by simp only[length_cons];omega)];rfl
theorem vX{α:Type}{l:List α}{i:Int}(h:0<=i)(h':i<l.length):at' l i=l[i.toNat]?:=by unfold at' ig;rw[if_pos h,if_pos h'];rfl
theorem Ci{α:Type}{l:List α}{k:Nat}(h':k<l.length):at' l (k:Int)=l[k]?:=by rw[vX (by omega) (by omega)];simp
@[simp]theorem Q7{d:D}:isVar (.con d)=none:=rfl
@[simp]theorem Q4{o:Op}{p q:P}:isVar (.bin o p q)=none:=rfl
@[simp]theorem R4{p:P}:isVar (.neg p)=none:=rfl
@[simp]theorem Q9{p:P}:isVar (.not p)=none:=rfl
@[simp]theorem R7{p q:P}:isVar (.and p q)=none:=rfl
@[simp]theorem Tu{p q:P}:isVar (.or p q)=none:=rfl
@[simp]theorem Rm{o:Cm}{p q:P}:isVar (.cmp o p q)=none:=rfl
@[simp]theorem R0{p q r:P}:isVar (.K6 p q r)=none:=rfl
@[simp]theorem Rq{as:List P}:isVar (.tup as)=none:=rfl
@[simp]theorem Q3{as:List P}:isVar (.lst as)=none:=rfl
@[simp]theorem R3{p q:P}:isVar (.idx p q)=none:=rfl
@[simp]theorem Kw{p q r:P}:isVar (.slice p q r)=none:=rfl
@[simp]theorem Qq{f:Nat}{as:List P}:isVar (.call f as)=none:=rfl
@[simp]theorem Rc{b:S5}{as:List P}:isVar (.blt b as)=none:=rfl
@[simp]theorem Ql{p e:P}{n:Nat}{is:List Nat}{one:Bool}{t:Option P}:isVar (.comp p n is one t e)=none:=rfl
@[simp]theorem RW{p q:P}:isVar (.zq p q)=none:=rfl
@[simp]theorem Q8{p:P}:isVar (.Sq p)=none:=rfl
@[simp]theorem RD{p q:P}:isVar (.zip p q)=none:=rfl
noncomputable def oV(c:Call)(is:List Nat)(one:Bool)(test:Option P)(elt:P)(ds:List D)(ρ:List Sl):Res (List D):=turns is one (sH c test) (ev c elt) ds [] ρ
@[simp]theorem WL{c:Call}{src elt:P}{n:Nat}{is:List Nat}{one:Bool}{test:Option P}{ρ:List Sl}:ev c (.comp src n is one test elt) ρ=(srcOf (isVar src) (ev c src) ρ).bind fun ds ρ₁=>if ds.length<=lim then(oV c is one test elt ds (ρ₁++replicate n .aU)).bind fun xs ρ₂=>.ok (.own xs) (bh ρ (isVar src) (ρ₂.take ρ₁.length))else .stuck:=(rfl)
noncomputable def Ft(c:Call)(n:Nat)(t:P)(body:List S)(k:Nat)(ρ:List Sl):Res Fl:=pM (jk (ev c t)) (gH c n body) k ρ
@[simp]theorem aaU{c:Call}{n:Nat}{t:P}{body:List S}{ρ:List Sl}:ex c n (.whl t body) ρ=Ft c n t body n ρ:=(rfl)
theorem rE{α β γ:Type}{x:Res β}{f:β->List Sl->Res α}{g:α->List Sl->Res γ}:(x.bind f).bind g=x.bind fun a ρ=>(f a ρ).bind g:=by cases x<;>rfl
@[simp]theorem aaC{Γ:Tab}{w n i:Nat}{args:List Sl}{α:Type}{f:R->List Sl->Res α}{Q:α->List Sl->Prop}:((run Γ w n i args).bind f).sat Q=(run Γ w n i args).sat fun a ρ=>(f a ρ).sat Q:=bK
@[simp]theorem YW{Γ:Tab}{w n i:Nat}{args:List Sl}{α β:Type}{f:R->List Sl->Res α}{g:α->List Sl->Res β}:((run Γ w n i args).bind f).bind g=(run Γ w n i args).bind fun a ρ=>(f a ρ).bind g:=rE
@[simp]theorem Xf{c:Call}{is:List Nat}{one:Bool}{test:Option P}{elt:P}{ds:List D}{ρ:List Sl}{α:Type}{f:List D->List Sl->Res α}{Q:α->List Sl->Prop}:((oV c is one test elt ds ρ).bind f).sat Q=(oV c is one test elt ds ρ).sat fun a ρ=>(f a ρ).sat Q:=bK
@[simp]theorem XJ{c:Call}{is:List Nat}{one:Bool}{test:Option P}{elt:P}{ds:List D}{ρ:List Sl}{α β:Type}{f:List D->List Sl->Res α}{g:α->List Sl->Res β}:((oV c is one test elt ds ρ).bind f).bind g=(oV c is one test elt ds ρ).bind fun a ρ=>(f a ρ).bind g:=rE
@[simp]theorem aaP{is:List Nat}{one:Bool}{b:List Sl->Res Fl}{ds:List D}{ρ:List Sl}{α:Type}{f:Fl->List Sl->Res α}{Q:α->List Sl->Prop}:((gw is one b ds ρ).bind f).sat Q=(gw is one b ds ρ).sat fun a ρ=>(f a ρ).sat Q:=bK
@[simp]theorem Xi{α β:Type}{p:Prop}[Decidable p]{a:β}{ρ:List Sl}{f:β->List Sl->Res α}{Q:α->List Sl->Prop}:((lift (if p then some a else none) ρ).bind f).sat Q=(p/\(f a ρ).sat Q):=by by_cases h:p<;>simp[h,lift,Res.bind]
@[simp]theorem Xm{α β γ:Type}{p:Prop}[Decidable p]{a:β}{ρ:List Sl}{f:β->List Sl->Res α}{g:α->List Sl->Res γ}:((lift (if p then some a else none) ρ).bind f).bind g=(lift (if p then some a else none) ρ).bind fun a ρ=>(f a ρ).bind g:=rE
@[simp]theorem bb_ite{α β:Type}{p:Prop}[Decidable p]{x y:Res β}{f:β->List Sl->Res α}:(if p then x else y).bind f=if p then x.bind f else y.bind f:=by by_cases h:p<;>simp[h]
@[simp]theorem abb{c:Call}{n k:Nat}{t:P}{b:List S}{ρ:List Sl}{α:Type}{f:Fl->List Sl->Res α}{Q:α->List Sl->Prop}:((Ft c n t b k ρ).bind f).sat Q=(Ft c n t b k ρ).sat fun a ρ=>(f a ρ).sat Q:=bK
@[simp]theorem ZD{α β:Type}{a:α}{ρ:List Sl}{f:α->List Sl->Res β}:(Res.ok a ρ).bind f=f a ρ:=rfl
@[simp]theorem Rh{α β:Type}{f:α->List Sl->Res β}:(Res.stuck:Res α).bind f=.stuck:=rfl
@[simp]theorem VJ{α:Type}{a:α}{ρ:List Sl}:lift (some a) ρ=.ok a ρ:=rfl
@[simp]theorem Vf{α:Type}{ρ:List Sl}:lift (none:Option α) ρ=.stuck:=rfl
noncomputable def Aa:List Sl->Nat->Sl->List Sl|[],_,_=>[]|t::ρ,0,s=>dI t (some s)::ρ|t::ρ,k+1,s=>t::Aa ρ k s
noncomputable def bk:List Arg->List Sl->List Sl->List Sl|.dX k::as,s::ss,ρ=>bk as ss (Aa ρ k s)|.dat _::as,_::ss,ρ=>bk as ss ρ|.tmp _::as,_::ss,ρ=>bk as ss ρ|_,_,ρ=>ρ
section
variable{t s:Sl}{ρ ss:List Sl}{k:Nat}{as:List Arg}{d:D}{ds:List D}
@[simp]theorem acF:Aa (t::ρ) 0 s=dI t (some s)::ρ:=rfl
@[simp]theorem acr:Aa (t::ρ) (k+1) s=t::Aa ρ k s:=rfl
@[simp]theorem M3:bk (.dX k::as) (s::ss) ρ=bk as ss (Aa ρ k s):=rfl
@[simp]theorem Nu:bk (.dat d::as) (s::ss) ρ=bk as ss ρ:=rfl
@[simp]theorem Nq:bk (.tmp ds::as) (s::ss) ρ=bk as ss ρ:=rfl
@[simp]theorem abg:bk [] ss ρ=ρ:=rfl
end
theorem vO{s:Sl}:∀{ρ:List Sl}{k j:Nat},(Aa ρ k s)[j]?=(ρ[j]?).map fun t=>if j=k then dI t (some s)else t|[],_,_=>by simp[Aa]|t::ρ,0,0=>by simp[Aa]|t::ρ,0,j+1=>by simp[Aa]|t::ρ,k+1,0=>by simp[Aa]|t::ρ,k+1,j+1=>by have:=vO (s:=s) (ρ:=ρ) (k:=k) (j:=j);simp only[Aa,List.getElem?_cons_succ,this];congr 1;funext t;simp
theorem tG{as:List Arg}{ss:List Sl}:∀{ρ:List Sl}{i j:Nat},(cC as ss i ρ)[j]?=(ρ[j]?).map fun t=>dI t (aW (i+j) as ss)|[],_,_=>by simp[cC]|t::ρ,i,0=>by simp[cC]|t::ρ,i,j+1=>by have:=tG (as:=as) (ss:=ss) (ρ:=ρ) (i:=i+1) (j:=j);simp only[cC,List.getElem?_cons_succ,this];rw[show i+1+j=i+(j+1)by omega]
def stb(t:Sl):Prop:=∀x,dI t x=t
def Qo(ρ:List Sl):List Arg->Prop|[]=>True|.dX k::as=>(Arg.dX k∈as->∀t,ρ[k]?=some t->stb t)/\Qo ρ as|_::as=>Qo ρ as
theorem m6{ρ:List Sl}:∀{as:List Arg}{ρ':List Sl},Qo ρ as->(∀k,Arg.dX k∈as->∀t,ρ'[k]?=some t->ρ[k]?=some t\/stb t)->Qo ρ' as
 |[],_,_,_=>trivial|.dX k::as,ρ',h,g=>⟨fun hm t ht=>by
  rcases g k (by simp) t ht with e|e;.exact h.1 hm t e
  .exact e,m6 h.2 fun j hj=>g j (by simp[hj])⟩|.dat _::as,ρ',h,g=>m6 (as:=as) h fun j hj=>g j (by simp[hj])|.tmp _::as,ρ',h,g=>m6 (as:=as) h fun j hj=>g j (by simp[hj])
theorem jN{k:Nat}:∀{as:List Arg}{ss:List Sl},Arg.dX k∉as->aW k as ss=none|[],_,_=>by unfold aW;rfl|.dX j::as,[],_=>rfl|.dat _::as,[],_=>rfl|.tmp _::as,[],_=>rfl|.dX j::as,s::ss,h=>by simp only[mem_cons,Arg.dX.injEq,not_or]at h;rw[aW,if_neg (fun e=>h.1 e.symm),jN h.2]|.dat _::as,s::ss,h=>by simp only[mem_cons,not_or]at h;rw[aW,jN h.2]|.tmp _::as,s::ss,h=>by simp only[mem_cons,not_or]at h;rw[aW,jN h.2]
theorem yO:∀{as:List Arg}{ss ρ:List Sl},Qo ρ as->∀j,(bk as ss ρ)[j]?=(ρ[j]?).map fun t=>dI t (aW j as ss)
 |[],ss,ρ,_,j=>by cases ss<;>simp[aW]|.dX k::as,[],ρ,_,j=>by rw[show bk (.dX k::as) [] ρ=ρ from rfl];simp[aW]|.dat d::as,[],ρ,_,j=>by rw[show bk (.dat d::as) [] ρ=ρ from rfl];simp[aW]|.tmp d::as,[],ρ,_,j=>by rw[show bk (.tmp d::as) [] ρ=ρ from rfl];simp[aW]|.dat _::as,s::ss,ρ,h,j=>by rw[Nu,aW];exact yO (as:=as) h j|.tmp _::as,s::ss,ρ,h,j=>by rw[Nq,aW];exact yO (as:=as) h j|.dX k::as,s::ss,ρ,h,j=>by
   have h2:Qo (Aa ρ k s) as:=m6 h.2 fun i hi t ht=>by rw[vO]at ht;cases e:ρ[i]?with|none=>rw[e]at ht;cases ht|some t0=>
      rw[e]at ht;by_cases c:i=k;.subst c;have hs:=h.1 hi t0 e;simp[hs (some s)]at ht;exact .inl (by rw[ht])
      .simp[c]at ht;exact .inl (by rw[ht])
   rw[M3,yO h2 j,vO,aW];cases e:ρ[j]?with|none=>rfl|some t0=>
     simp only[Option.map_some];by_cases c:j=k
     . subst c;rw[if_pos rfl,if_pos rfl];by_cases hm:Arg.dX j∈as;.have hs:=h.1 hm t0 e;rw[hs (some s),hs]
       .rw[jN hm,Dd]
     .rw[if_neg c,if_neg (fun z=>c z.symm)]
theorem fc{ρ:List Sl}{k:Nat}{b:Bool}{ds:List D}(e:ρ[k]?=some (.own b ds)):∀{as:List Arg}{u:List Nat}{r:List Sl},k∈u->bC ρ as u=some r->Arg.dX k∉as
 |[],_,_,_,_=>by simp|.dat _::as,u,r,hu,h=>by simp only[bC,map_eq_some_iff]at h;obtain⟨r',h,_⟩:=h;simp[fc e hu h]|.tmp _::as,u,r,hu,h=>by simp only[bC,map_eq_some_iff]at h;obtain⟨r',h,_⟩:=h;simp[fc e hu h]|.dX i::as,u,r,hu,h=>by
   rw[bC]at h;have hi:i≠k:=by rintro rfl;rw[e]at h;simp[hu]at h
   have:Arg.dX k∉as:=by
    split at h;.obtain⟨r',h,_⟩:=map_eq_some_iff.mp h;exact fc e hu h
    . split at h;.cases h
      .obtain⟨r',h,_⟩:=map_eq_some_iff.mp h;exact fc e (by simp[hu]) h
    . split at h;.cases h
      .obtain⟨r',h,_⟩:=map_eq_some_iff.mp h;exact fc e (by simp[hu]) h
    .cases h
   simp[this];exact fun z=>hi z.symm
theorem fj{ρ:List Sl}:∀{as:List Arg}{u:List Nat}{r:List Sl},bC ρ as u=some r->Qo ρ as
 |[],_,_,_=>trivial|.dat _::as,u,r,h=>by obtain⟨r',h,_⟩:=map_eq_some_iff.mp h;exact fj (as:=as) h|.tmp _::as,u,r,h=>by obtain⟨r',h,_⟩:=map_eq_some_iff.mp h;exact fj (as:=as) h|.dX i::as,u,r,h=>by
   rw[bC]at h;split at h;.rename_i b d q;obtain⟨r',h,_⟩:=map_eq_some_iff.mp h;exact⟨fun _ t ht=>by rw[q]at ht;cases ht;exact fun x=>zB,fj h⟩
   . rename_i b ds q;split at h;.cases h
     .obtain⟨r',h,_⟩:=map_eq_some_iff.mp h;exact⟨fun hm=>absurd hm (fc q (by simp) h),fj h⟩
   . rename_i ds q;split at h;.cases h
     .obtain⟨r',h,_⟩:=map_eq_some_iff.mp h;exact⟨fun _ t ht=>by rw[q]at ht;cases ht;exact fun x=>wz,fj h⟩
   .cases h
theorem Tp{as:List Arg}{ss ρ r:List Sl}{u:List Nat}(h:bC ρ as u=some r):cC as ss 0 ρ=bk as ss ρ:=by apply List.ext_getElem?;intro j;rw[tG,yO (fj h),Nat.zero_add]
@[simp]theorem QQ{c:Call}{k:Nat}{as:List Arg}{ρ:List Sl}:oX c k as ρ=match bC ρ as []with|none=>.stuck|some args=>(c k args).bind fun r args'=>.ok r (bk as args' ρ):=by unfold oX;cases e:bC ρ as []with|none=>rfl|some args=>simp only[<-Tp (r:=args) e];cases c k args<;>rfl
theorem bI{c:Call}{is:List Nat}{one:Bool}{elt:P}(J:List Sl->Prop)(g:D->D){Q:List D->List Sl->Prop}{ds:List D}{ρ:List Sl}(j:J ρ)(h:∀d,d∈ds->∀ρ,J ρ->∃ρ1,cB ρ is one d=some ρ1/\(ev c elt ρ1).sat fun r ρ3=>g d=r.d/\J ρ3)(k:∀ρ,J ρ->Q (ds.map g) ρ):(oV c is one none elt ds ρ).sat Q:=wJ J g j h k
theorem jg{c:Call}{is:List Nat}{one:Bool}{elt t:P}(J:List Sl->Prop)(g:D->Option D){Q:List D->List Sl->Prop}{ds:List D}{ρ:List Sl}(j:J ρ)(h:∀d,d∈ds->∀ρ,J ρ->∃ρ1,cB ρ is one d=some ρ1/\(ev c t ρ1).sat fun r ρ2=>∃b,r.d=.bl b/\if b=true then(ev c elt ρ2).sat fun r ρ3=>g d=some r.d/\J ρ3 else g d=none/\J ρ2)(k:∀ρ,J ρ->Q (ds.filterMap g) ρ):(oV c is one (some t) elt ds ρ).sat Q:=jj J g j (fun d hd ρ j=>by obtain⟨ρ1,e,h1⟩:=h d hd ρ j;refine⟨ρ1,e,?_⟩;rw[sH,jk,bK];refine h1.imp fun r ρ2⟨b,e,q⟩=>?_;rw[e];exact q) fun ρ j=>by simpa using k ρ j
theorem iu{c:Call}{n:Nat}{t:P}{body:List S}(J:Nat->List Sl->Prop){Q:Fl->List Sl->Prop}(h:∀m ρ,J m ρ->(ev c t ρ).sat fun r ρ1=>∃b,r.d=.bl b/\if b=true then(gH c n body ρ1).sat (fQ (fun ρ2=>∃m',m'<m/\J m' ρ2) Q)else Q .next ρ1):∀{k m:Nat}{ρ:List Sl},m<k->J m ρ->(Ft c n t body k ρ).sat Q|0,m,ρ,hk,_=>absurd hk (Nat.not_lt_zero _)|k+1,m,ρ,hk,j=>by unfold Ft;rw[pM,bK,jk,bK];refine(h m ρ j).imp fun r ρ1⟨b,e,q⟩=>?_;rw[e];show(if b=true then _ else _:Res Fl).sat Q;cases b with|false=>rw[if_neg (by simp)]at q;rw[if_neg (by simp)];exact q|true=>rw[if_pos rfl]at q;rw[if_pos rfl,bK];refine q.imp fun fl ρ2 q=>?_;cases fl with|next=>obtain⟨m',hm,j'⟩:=q;exact iu J h (lt_of_lt_of_le hm (Nat.lt_succ_iff.mp hk)) j'|cont=>obtain⟨m',hm,j'⟩:=q;exact iu J h (lt_of_lt_of_le hm (Nat.lt_succ_iff.mp hk)) j'|brk=>exact q|ret v=>exact q
@[simp]theorem acu:type_of%@HH.E1:=@HH.E1
@[simp]theorem acn:type_of%@HH.E2:=@HH.E2
@[simp]theorem acE:type_of%@HH.E3:=@HH.E3
@[simp]theorem acT:type_of%@HH.E4:=@HH.E4
@[simp]theorem acI:type_of%@HH.E5:=@HH.E5
@[simp]theorem acq:type_of%@HH.E6:=@HH.E6
@[simp]theorem acK:type_of%@HH.E7:=@HH.E7
@[simp]theorem acP:type_of%@HH.E8:=@HH.E8
@[simp]theorem abm:type_of%@HH.E9:=@HH.E9
@[simp]theorem abk:type_of%@HH.E10:=@HH.E10
@[simp]theorem Zr:type_of%@HH.E11:=@HH.E11
@[simp]theorem YX:type_of%@HH.E12:=@HH.E12
@[simp]theorem aaA:type_of%@HH.E13:=@HH.E13
@[simp]theorem aaI:type_of%@HH.E14:=@HH.E14
@[simp]theorem aaB:type_of%@HH.E15:=@HH.E15
@[simp]theorem aaq:type_of%@HH.E16:=@HH.E16
@[simp]theorem XC:type_of%@HH.Td:=@HH.Td
@[simp]theorem aag:type_of%@HH.E18:=@HH.E18
@[simp]theorem aau:type_of%@HH.E19:=@HH.E19
@[simp]theorem YT:type_of%@HH.E20:=@HH.E20
@[simp]theorem acB:type_of%@HH.X1:=@HH.X1
@[simp]theorem acV:type_of%@HH.X2:=@HH.X2
@[simp]theorem acg:type_of%@HH.X3:=@HH.X3
@[simp]theorem acp:type_of%@HH.X4:=@HH.X4
@[simp]theorem acz:type_of%@HH.X5:=@HH.X5
@[simp]theorem acj:type_of%@HH.X6:=@HH.X6
@[simp]theorem acM:type_of%@HH.X7:=@HH.X7
@[simp]theorem Z9:type_of%@HH.X8:=@HH.X8
@[simp]theorem aaH:type_of%@HH.X9:=@HH.X9
@[simp]theorem ZX:type_of%@HH.X10:=@HH.X10
@[simp]theorem Z3:type_of%@HH.W7:=@HH.W7
@[simp]theorem abl:type_of%@HH.Ze:=@HH.Ze
@[simp]theorem Zh:type_of%@HH.jk.eq_1:=@HH.jk.eq_1
@[simp]theorem aah:type_of%@HH.evs.eq_1:=@HH.evs.eq_1
@[simp]theorem Y7:type_of%@HH.evs.eq_2:=@HH.evs.eq_2
@[simp]theorem abu:type_of%@HH.vz.eq_1:=@HH.vz.eq_1
@[simp]theorem ZQ:type_of%@HH.vz.eq_2:=@HH.vz.eq_2
@[simp]theorem abw:type_of%@HH.sH.eq_1:=@HH.sH.eq_1
@[simp]theorem aaO:type_of%@HH.sH.eq_2:=@HH.sH.eq_2
@[simp]theorem aa8:type_of%@HH.vL.eq_1:=@HH.vL.eq_1
@[simp]theorem UL:type_of%@HH.bC.eq_1:=@HH.bC.eq_1
@[simp]theorem Uw:type_of%@HH.bC.eq_2:=@HH.bC.eq_2
@[simp]theorem TQ:type_of%@HH.bC.eq_3:=@HH.bC.eq_3
@[simp]theorem U9:type_of%@HH.bC.eq_4:=@HH.bC.eq_4
@[simp]theorem Up:type_of%@HH.cC.eq_1:=@HH.cC.eq_1
@[simp]theorem Ut:type_of%@HH.cC.eq_2:=@HH.cC.eq_2
@[simp]theorem Vl:type_of%@HH.aW.eq_1:=@HH.aW.eq_1
@[simp]theorem VM:type_of%@HH.aW.eq_2:=@HH.aW.eq_2
@[simp]theorem Vo:type_of%@HH.aW.eq_3:=@HH.aW.eq_3
@[simp]theorem VB:type_of%@HH.aW.eq_4:=@HH.aW.eq_4
end HH
end
section
namespace HH
open PySem L2 PySem.Spec PyProof.Rows
section
variable{X:Cx}{c:Call}{a b:Expr}{pa pb:P}{pos:Pos}
theorem jU:∀{ds:List D}{ns:List Int},ds.mapM gh=some ns->ds=ns.map D.int|[],ns,h=>by simp at h;subst h;rfl|d::ds,ns,h=>by simp[List.mapM_cons,Option.bind_eq_some_iff]at h;obtain⟨i,e1,ms,e2,rfl⟩:=h;rw[cQ e1,jU e2];rfl
theorem gn{K:PySem.W.Frag}{F:Hp}:∀{ns:List Int}{ys:List V},aF K F ys (ns.map D.int)->ys=ns.map V.int|[],ys,h=>by rw[h.fP];rfl|n::ns,ys,h=>by obtain⟨v,r,rfl,h1,t⟩:=h.cj;rw[Rep]at h1;rw[h1,gn t];rfl
theorem j5{ns:List Int}{us:List Value}(h:Vals (ns.map V.int) us){i:Nat}{v:Value}(e:us.toArray[i]?=some v):∃t,v=.int (ns.getD i 0) t:=by
 have e:us[i]?=some v:=by simpa using e
 have hi:i<us.length:=(List.getElem?_eq_some_iff.mp e).1;have hl:=h.length;rw[length_map]at hl;have g:(ns.map V.int)[i]?=some (.int (ns.getD i 0)):=by rw[getElem?_map,getElem?_eq_getElem (by omega)];simp[List.getD,show i<ns.length by omega]
 obtain⟨w,g1,g2⟩:=h.get g;rw[e]at g1;cases g1;exact g2
theorem walked{pins:List (Addr×Obj)}{σ:L2.St}{H:Hp}{s:Shared}{p:Addr}{ys:List V}(I:L2.Inv X pins σ H s)(hc:X.calm=true)(hq:dM X.K H p ys\/gO X.K H p ys){Q:Value->Shared->Prop}{E:Value->Shared->Prop}(k:∀(it:Addr)(us:List Value)(s₂:Shared)(St:Nat->Heap->Prop),Vals ys us->Walks X.prog X.w X.A.in1 it [it,p] [it] us.toArray.size (fun i v=>us.toArray[i]?=some v) St->St 0 s₂.heap->(∀ b ∈[it,p],b<s₂.heap.objs.size)->(∀h' tk,(∀b o,b∉[it]->s₂.heap.get? b=some o->h'.get? b=some o)->L2.Inv X pins σ H {s₂ with heap:=h',toks:=tk})->Q (.ref it) s₂):wpAny (model X.prog X.w) X.A.in1 (pyIter (.ref p)) Q E s:=by
 have hh:X.A.in1.handled=none:=I.ok.hd hc;rcases hq with hq|hq
 . obtain⟨us,rv,pl,hz⟩:=I.list hq;have pl:=pl.isList;have hlt:p<s.heap.objs.size:=by obtain⟨o,h1,_⟩:=pl;exact lt_size h1
   refine wpAny_pyIter_list pl (k s.heap.objs.size us _ _ rv (Walks.list hh s.heap.objs.size p (ne_of_lt hlt) us.toArray) ⟨⟨_,get?_push_size _ rfl,rfl,rfl⟩,?_⟩ ?_ fun h' tk kp=>?_);.obtain⟨o,h1,h2⟩:=pl;exact⟨o,get?_push_of_some _ h1,h2⟩
   . intro b hb;obtain⟨o,h1,_⟩:=pl;simp at hb;rcases hb with rfl|rfl;.exact lt_size (get?_push_size _ rfl)
     .exact lt_size (get?_push_of_some _ h1)
   .exact I.kept (fun b o z=>kp b o (by simp;exact ne_of_lt (lt_size z)) (get?_push_of_some _ z))
 . obtain⟨us,rv,pl,hz⟩:=I.tuple hq;have hlt:p<s.heap.objs.size:=by obtain⟨o,h1,_⟩:=pl;exact lt_size h1
   refine wpAny_pyIter_tuple pl (k s.heap.objs.size us _ _ rv (Walks.tuple hh s.heap.objs.size p (ne_of_lt hlt) us.toArray) ⟨⟨_,get?_push_size _ rfl,rfl,rfl⟩,?_⟩ ?_ fun h' tk kp=>?_);.obtain⟨o,h1,h2⟩:=pl;exact⟨o,get?_push_of_some _ h1,h2⟩
   . intro b hb;obtain⟨o,h1,_⟩:=pl;simp at hb;rcases hb with rfl|rfl;.exact lt_size (get?_push_size _ rfl)
     .exact lt_size (get?_push_of_some _ h1)
   .exact I.kept (fun b o z=>kp b o (by simp;exact ne_of_lt (lt_size z)) (get?_push_of_some _ z))
theorem my(ns:List Int):∀k,k<=ns.length->preSum (fun i=>ns.getD i 0) k=(ns.take k).sum|0,_=>by simp[preSum]|k+1,h=>by rw[preSum,my ns k (by omega),List.take_succ,List.sum_append];simp[List.getD,show k<ns.length by omega]
theorem U3(hc:X.calm=true):dH X (.builtin "sum") (Ht X.K fun x=>blt .sum [x]):=by
 rintro pins s σ H xs us Q I r⟨x,hx,F,d,r',sm,px,he,k⟩;obtain⟨ns,e1,he⟩:=map_some (show((items d).bind fun ds=>ds.mapM gh).map _=some r' from he);subst he;obtain⟨ds,e2,e3⟩:=bU e1;obtain⟨p,ys,rfl,hq,rs⟩:=px.items sm e2;rw[jU e3]at rs;have ey:=gn rs;subst hx;obtain⟨u,rfl,rx⟩:=r.one;cases rx;refine call_sum_walkG (walked I hc hq fun it us s₂ St rv W h0 hl kp=>?_);subst ey;have hlen:us.toArray.size=ns.length:=by rw[size_toArray,<-rv.length,length_map]
 refine⟨it,_,_,_,_,St,fun i=>ns.getD i 0,rfl,W,h0,hl,fun i v e=>j5 rv e,fun h' tk t' kk=>?_⟩;rw[hlen,my ns _ (le_refl _),List.take_length];exact⟨.int _,H,kp h' tk kk,⟨t',rfl⟩,bN.cu sm (bA _) k⟩
theorem CG{ns:List Int}{m:Int}(hm:ns.min?=some m):ns.getD (argBest (fun i j=>decide (ns.getD i 0<ns.getD j 0)) (ns.length-1)) 0=m:=by
 have hne:ns≠[]:=by rintro rfl;simp at hm
 have hl:0<ns.length:=List.length_pos_iff.mpr hne;obtain⟨h1,h2⟩:=argBest_lt (fun i=>ns.getD i 0) (ns.length-1);have hb:=List.min?_eq_some_iff.mp hm;generalize argBest (fun i j=>decide (ns.getD i 0<ns.getD j 0)) (ns.length-1)=j at*;have hj:j<ns.length:=by omega
 have hmem:ns.getD j 0∈ns:=by simp[List.getD,hj]
 obtain⟨q,hq,e⟩:=List.getElem_of_mem hb.1;have h3:=h2 q (by omega);simp only[List.getD,getElem?_eq_getElem hq,getD_some]at h3;rw[e]at h3;have h4:=hb.2 _ hmem;have h3:ns.getD j 0<=m:=h3;omega
theorem Dr{ns:List Int}{m:Int}(hm:ns.max?=some m):ns.getD (argBest (fun i j=>decide (ns.getD i 0>ns.getD j 0)) (ns.length-1)) 0=m:=by
 have hne:ns≠[]:=by rintro rfl;simp at hm
 have hl:0<ns.length:=List.length_pos_iff.mpr hne;obtain⟨h1,h2⟩:=argBest_gt (fun i=>ns.getD i 0) (ns.length-1);have hb:=List.max?_eq_some_iff.mp hm;generalize argBest (fun i j=>decide (ns.getD i 0>ns.getD j 0)) (ns.length-1)=j at*;have hj:j<ns.length:=by omega
 have hmem:ns.getD j 0∈ns:=by simp[List.getD,hj]
 obtain⟨q,hq,e⟩:=List.getElem_of_mem hb.1;have h3:=h2 q (by omega);simp only[List.getD,getElem?_eq_getElem hq,getD_some]at h3;rw[e]at h3;have h4:=hb.2 _ hmem;have h3:m<=ns.getD j 0:=h3;omega
theorem Ny(hc:X.calm=true):dH X (.builtin "min") (Ht X.K fun x=>blt .FW [x]):=by
 rintro pins s σ H xs us Q I r⟨x,hx,F,d,r',sm,px,he,k⟩;obtain⟨ns,e1,he⟩:=bU (show((items d).bind fun ds=>ds.mapM gh).bind _=some r' from he);obtain⟨m,hm,he⟩:=map_some he;subst he;obtain⟨ds,e2,e3⟩:=bU e1;obtain⟨p,ys,rfl,hq,rs⟩:=px.items sm e2;rw[jU e3]at rs;have ey:=gn rs;subst hx;obtain⟨u,rfl,rx⟩:=r.one;cases rx;refine call_min_walk (walked I hc hq fun it us s₂ St rv W h0 hl kp=>?_);subst ey;have hlen:us.toArray.size=ns.length:=by rw[size_toArray,<-rv.length,length_map]
 have hpos:0<ns.length:=by cases ns with|nil=>simp at hm|cons _ _=>simp
 refine⟨it,_,_,_,_,St,_,rfl,W,h0,hl,by rw[hlen];exact hpos,CmpOf.ints_lt (fun i=>ns.getD i 0) (fun i v e=>j5 rv e),fun v h' tk hv kk=>?_⟩;rw[hlen]at hv;obtain⟨t,rfl⟩:=j5 rv hv;rw[CG hm];exact⟨.int _,H,kp h' tk kk,⟨t,rfl⟩,bN.cu sm (bA _) k⟩
theorem Ln(hc:X.calm=true):dH X (.builtin "max") (Ht X.K fun x=>blt .FZ [x]):=by
 rintro pins s σ H xs us Q I r⟨x,hx,F,d,r',sm,px,he,k⟩;obtain⟨ns,e1,he⟩:=bU (show((items d).bind fun ds=>ds.mapM gh).bind _=some r' from he);obtain⟨m,hm,he⟩:=map_some he;subst he;obtain⟨ds,e2,e3⟩:=bU e1;obtain⟨p,ys,rfl,hq,rs⟩:=px.items sm e2;rw[jU e3]at rs;have ey:=gn rs;subst hx;obtain⟨u,rfl,rx⟩:=r.one;cases rx;refine call_max_walk (walked I hc hq fun it us s₂ St rv W h0 hl kp=>?_);subst ey;have hlen:us.toArray.size=ns.length:=by rw[size_toArray,<-rv.length,length_map]
 have hpos:0<ns.length:=by cases ns with|nil=>simp at hm|cons _ _=>simp
 refine⟨it,_,_,_,_,St,_,rfl,W,h0,hl,by rw[hlen];exact hpos,CmpOf.ints_gt (fun i=>ns.getD i 0) (fun i v e=>j5 rv e),fun v h' tk hv kk=>?_⟩;rw[hlen]at hv;obtain⟨t,rfl⟩:=j5 rv hv;rw[Dr hm];exact⟨.int _,H,kp h' tk kk,⟨t,rfl⟩,bN.cu sm (bA _) k⟩
theorem boot_sum:bootBuiltins "sum"=some (.builtin "sum"):=by decide+kernel
theorem lU{x:Str}{p':Pos}(hx:x="sum")(hc:X.calm=true)(hg:Gl X x)(hm:X.mg x=none)(ha:SX X c a pa)(hs:starEach [a] X.env=(false,eval a X.env)::starEach [] X.env:=by rfl):SX X c (.Call (.Name x p') [a] [] pos) (.blt .sum [pa]):=by subst hx;exact mF (fun h=>dW (U3 hc) hg hm boot_sum h (he:=hs)) ha (fun ρ=>rfl) rfl hs
theorem Jj{x:Str}{p':Pos}(hx:x="min")(hc:X.calm=true)(hg:Gl X x)(hm:X.mg x=none)(ha:SX X c a pa)(hs:starEach [a] X.env=(false,eval a X.env)::starEach [] X.env:=by rfl):SX X c (.Call (.Name x p') [a] [] pos) (.blt .FW [pa]):=by subst hx;exact mF (fun h=>dW (Ny hc) hg hm boot_min h (he:=hs)) ha (fun ρ=>rfl) rfl hs
theorem IV{x:Str}{p':Pos}(hx:x="max")(hc:X.calm=true)(hg:Gl X x)(hm:X.mg x=none)(ha:SX X c a pa)(hs:starEach [a] X.env=(false,eval a X.env)::starEach [] X.env:=by rfl):SX X c (.Call (.Name x p') [a] [] pos) (.blt .FZ [pa]):=by subst hx;exact mF (fun h=>dW (Ln hc) hg hm boot_max h (he:=hs)) ha (fun ρ=>rfl) rfl hs
end
end HH
end
section
namespace HH
open PySem
section
variable{i j:Int}{ds es:List D}{d:D}{b b':Bool}
@[simp]theorem Yc:pP .shl=Dy:=rfl
@[simp]theorem Ws:pP .shr=BP:=rfl
@[simp]theorem Tr:pP .band=wM:=rfl
@[simp]theorem RT:Dy (.int i) (.int j)=if 0<=j/\j<=1000/\i.natAbs<18446744073709551616 then some (.val (.int (i*2^j.toNat)))else none:=rfl
@[simp]theorem QJ:BP (.int i) (.int j)=if 0<=j then some (.val (.int (i/2^j.toNat)))else none:=rfl
@[simp]theorem M9:wM (.int i) (.int j)=some (.val (.int (Builtin.bitAnd i j))):=rfl
@[simp]theorem QS:iI (.lst ds) (.int i)=if 0<=i/\0<ds.length/\ds.length*i.toNat<=lim then some (.own (replicate i.toNat ds).flatten)else none:=rfl
@[simp]theorem Ra:iI (.tup ds) (.int i)=if 0<=i/\0<ds.length/\ds.length*i.toNat<=lim then some (.val (.tup (replicate i.toNat ds).flatten))else none:=rfl
@[simp]theorem ZR:cm .isT (.bl b) (.bl true)=some b:=rfl
@[simp]theorem W6:cm .V4 (.bl b) (.bl true)=some (!b):=rfl
@[simp]theorem Xq:blt .sum [.lst ds]=(ds.mapM gh).map fun ns=>.val (.int ns.sum):=rfl
@[simp]theorem UG:blt .FW [.lst ds]=(ds.mapM gh).bind fun ns=>ns.min?.map fun i=>.val (.int i):=rfl
@[simp]theorem Tn:blt .FZ [.lst ds]=(ds.mapM gh).bind fun ns=>ns.max?.map fun i=>.val (.int i):=rfl
end
@[simp]theorem aa0:type_of%@HH.X14:=@HH.X14
@[simp]theorem abv:type_of%@HH.X15:=@HH.X15
@[simp]theorem Zd:type_of%@HH.X16:=@HH.X16
theorem gk{ns:List Int}:(ns.map D.int).mapM gh=some ns:=by induction ns with|nil=>rfl|cons n ns ih=>simp[ih]
@[simp]theorem Rb{ns:List Int}:ns.mapM (gh ∘ D.int)=some ns:=by rw[<-gk (ns:=ns),List.mapM_map]
@[simp]theorem S6{bs:List Bool}:bs.mapM (RN ∘ D.bl)=some bs:=by induction bs with|nil=>rfl|cons b bs ih=>simp[ih]
theorem XQ{S:List Int}{i:Int}:((S.map D.int).any fun y=>jB y (.int i))=S.contains i:=by induction S with|nil=>rfl|cons s S ih=>rw[map_cons,any_cons,List.contains_cons,ih,pqi];rw[show(s==i)=(i==s)from Bool.eq_iff_iff.mpr ⟨fun h=>by simp at h ⊢;exact h.symm,fun h=>by simp at h ⊢;exact h.symm⟩]
theorem TX{S:List Int}:(S.map D.int).all flat=true:=by rw[all_eq_true];intro d hd;obtain⟨i,_,rfl⟩:=mem_map.mp hd;rfl
theorem nj{n:Nat}{S:List Int}:dG (n+1) (.lst (S.map D.int))=true:=by rw[dG,all_eq_true];intro d hd;obtain⟨i,_,rfl⟩:=mem_map.mp hd;cases n<;>rfl
theorem nR:∀{S T:List Int},fL (S.map D.int) (T.map D.int)=(S==T)|[],[]=>by simp[fL]|[],_::_=>by simp[fL]|_::_,[]=>by simp[fL]|s::S,t::T=>by rw[map_cons,map_cons,fL,nR,pqi];rfl
theorem Xa{S T:List Int}:cm .eq (.lst (S.map D.int)) (.lst (T.map D.int))=some (S==T):=by show Dw _ _=_;unfold Dw;rw[nj,nj,Yg,nR];rfl
theorem Ym{S T:List Int}:cm .ne (.lst (S.map D.int)) (.lst (T.map D.int))=some (!(S==T)):=by show Fo _ _=_;unfold Fo;rw[nj,nj,Yg,nR];rfl
theorem dZ{α:Type}{l:List α}{f:α->D}{k:Nat}{x:α}(h:l[k]?=some x):at' (l.map f) (k:Int)=some (f x):=by have hk:=(List.getElem?_eq_some_iff.mp h).1;rw[Ci (by simpa using hk),getElem?_map,h];rfl
theorem Ez{n k:Nat}(h:k<n):ig n (k:Int)=some k:=by unfold ig;rw[if_pos (by omega),if_pos (by omega)];simp
theorem jY{is:List Nat}{one:Bool}{body:List Sl->Res Fl}{g:Nat->D}{N:Nat}(J:Nat->List Sl->Prop){Q:Fl->List Sl->Prop}(hb:∀i ρ,i<N->J i ρ->∃ρ1,cB ρ is one (g i)=some ρ1/\(body ρ1).sat (fQ (J (i+1)) Q))(hq:∀ρ,J N ρ->Q .next ρ){ρ:List Sl}(h0:J 0 ρ):(gw is one body ((List.range N).map g) ρ).sat Q:=by
 refine bF (fun r ρ=>∃i,i<=N/\r=((List.range N).map g).drop i/\J i ρ) ?_ ?_ ⟨0,zero_le _,rfl,h0⟩
 . rintro d r ρ⟨i,hi,e,j⟩;have hlt:i<N:=by
    rcases Nat.lt_or_ge i N with h|h;.exact h
    .rw[List.drop_eq_nil_of_le (by simpa using h)]at e;cases e
   rw[drop_eq_getElem_cons (by simpa using hlt)]at e;injection e with e1 e2;simp at e1;subst e1;obtain⟨ρ1,h1,h2⟩:=hb i ρ hlt j;refine⟨ρ1,h1,h2.imp fun fl ρ2 q=>?_⟩;cases fl with|next=>exact⟨i+1,hlt,e2,q⟩|cont=>exact⟨i+1,hlt,e2,q⟩|brk=>exact q|ret v=>exact q
 . rintro ρ⟨i,hi,e,j⟩;have:i=N:=by have hl:=congrArg List.length e;simp at hl;omega
   subst this;exact hq ρ j
inductive A3(a b c:Prop):Prop where|mk(ha:a)(hb:b)(hc:c)
inductive A4(a b c d:Prop):Prop where|mk(ha:a)(hb:b)(hc:c)(hd:d)
inductive A5(a b c d e:Prop):Prop where|mk(ha:a)(hb:b)(hc:c)(hd:d)(he:e)
inductive A6(a b c d e f:Prop):Prop where|mk(ha:a)(hb:b)(hc:c)(hd:d)(he:e)(hf:f)
inductive A7(a b c d e f g:Prop):Prop where|mk(ha:a)(hb:b)(hc:c)(hd:d)(he:e)(hf:f)(hg:g)
inductive A8(a b c d e f g h:Prop):Prop where|mk(ha:a)(hb:b)(hc:c)(hd:d)(he:e)(hf:f)(hg:g)(hh:h)
inductive A9(a b c d e f g h i:Prop):Prop where|mk(ha:a)(hb:b)(hc:c)(hd:d)(he:e)(hf:f)(hg:g)(hh:h)(hi:i)
end HH
end
section
namespace HT
open PySem PySem.Spec PyProof.Rows
section
variable{prog:Program}{w:World}{A:Around}{E:Value->Shared->Prop}{s:Shared}
theorem uM{t sl:Addr}{its:Array Value}{vl vu:Value}{lo hi:Option Int}{Q:Value->Shared->Prop}(ht:IsTup s.heap t its)(hs:s.heap.IsSliceOf sl vl vu .none)(pl:IsPart vl lo)(pu:IsPart vu hi)(h1:cN its.size 0 lo=0)(h2:cN its.size its.size hi=its.size)(h:Q (.ref t) s):wpAny (model prog w) A (getItem (.ref t) (.ref sl)) Q E s:=by
 obtain⟨os,hos,hcs,hds⟩:=id hs;have hT:s.TypeIs (.ref sl) "slice":=⟨os,hos,hcs⟩;unfold getItem;try with_reducible refine wpAny_holding ?_
 first|refine wpAny_bind (wpAny_pure ?_)|skip
 refine wpAny_bind (wpAny_sequenceKey ht.typeIs (by decide) (wpAny_bind (wpAny_callSpecial?_slot (name:=Str.ofString "__getitem__") ht.typeIs slot_tuple_getitem (wpAny_call_entry slot_tuple_getitem ht.typeIs entry_tuple_getitem ?_ (args_tuple_getitem _ _)))));show wpAny _ _ (tupleItemsOf (.ref t)>>=_) _ _ s;refine wpAny_bind (tupleItemsOf_ ht (wpAny_bind (wpAny_typeOf hT ?_)));rw[if_pos (by decide)];refine wpAny_bind (gq hs pl pu ?_);have abQ:((((cN its.size 0 lo:Nat):Int)==0&&(1:Int)==1&&(cN its.size its.size hi-cN its.size 0 lo)==its.size)=true):=by rw[h1,h2];simp
 show wpAny _ _ (if(((cN its.size 0 lo:Nat):Int)==0&&(1:Int)==1&&(cN its.size its.size hi-cN its.size 0 lo)==its.size)=true then _ else _) _ _ s;rw[if_pos abQ];unfold Builtin.Tuple.tupleIsExact;refine wpAny_bind (wpAny_bind (wpAny_typeOf ht.typeIs (wpAny_pure ?_)));rw[if_pos (by decide)];exact wpAny_bind (wpAny_rule (wpAny_pure ⟨_,rfl,wpAny_pure h⟩))
end
end HT
namespace HH
open PySem L2 PySem.Spec PyProof.Rows
noncomputable def ZS:Expr->Bool|.Starred _ _=>false|_=>true
theorem gP{e:Expr}{es:List Expr}{env:Env}(h:ZS e=true):starEach (e::es) env=(false,eval e env)::starEach es env:=by cases e with|Starred a b=>cases h|_=>rw[starEach];(intro e p z;cases z)
noncomputable def oW:List Int->List Expr->Option (List Expr)|[],es=>some es|i::is,.Constant (.int j) _ _::es=>if i=j then oW is es else none|_,_=>none
theorem sE{X:L2.Cx}{c:Call}:∀(is:List Int){es es':List Expr}{ps':List P},oW is es=some es'->SA X c es' ps'->SA X c es (is.map (fun i=>P.con (.int i))++ps')|[],es,es',ps',h,r=>by cases h;exact r|i::is,[],es',ps',h,r=>by cases h|i::is,e::es,es',ps',h,r=>by cases e with
   |Constant v k p=>cases v with
     |int j=>
       replace h:(if i=j then oW is es else none)=some es':=h;split at h;.rename_i hij;subst hij;exact yN aj (sE is h r) (gP rfl)
       .cases h|_=>cases h
   |_=>cases h
theorem rY{n d:Nat}{o:Option Int}:HT.cN n d o=HH.cN n d o:=by cases o with|none=>rfl|some v=>
   show(if v<0 then(v+(n:Int)).toNat else min v.toNat n)=(if 0<=v then min v.toNat n else(v+n).toNat);by_cases h:0<=v;.rw[if_pos h,if_neg (by omega)]
   .rw[if_neg h,if_pos (by omega)]
theorem DR{xs:List V}{lo hi:Option Int}:tV xs lo hi=HH.cut xs lo hi:=by unfold tV HH.cut;rw[rY,rY]
theorem aF.cut{K:PySem.W.Frag}{F:Hp}{ds:List D}{vs:List V}{lo hi:Option Int}(h:aF K F vs ds):aF K F (HH.cut vs lo hi) (HH.cut ds lo hi):=by unfold HH.cut;rw[h.length];exact(h.drop _).take _
section
variable{X:Cx}{c:Call}{n:Nat}{e a b:Expr}{p pa pb pl ph:P}{pos p2:Pos}{lo hi:Option Expr}
def Zx(K:PySem.W.Frag):V->Option Int->Option Int->Hp->VK->Prop:=fun x lo hi H Q=>∃F d r,aH F H/\dF K F H x d/\KD d (some lo) (some hi)=some r/\∀v F' H',Ext F H F' H'->bN K F' H' H v r->Q v H'
theorem TY:WD X (Zx X.K):=by rintro pins s σ H x v vl vu lo hi sl Q I rx hs pl pu⟨F,d,r,sm,px,he,k⟩;cases d with|lst ds=>cases he;obtain⟨a,xs,rfl,hq,rs⟩:=px.lst sm;refine Ie pins s σ H _ v vl vu lo hi sl Q I rx hs pl pu ⟨a,xs,rfl,hq,fun p hp=>?_⟩;rw[DR];exact uP sm rs.cut hp k|tup ds=>
   cases he;obtain⟨a,xs,rfl,hq,rs,rt⟩:=px.tup sm;by_cases hw:HT.cN xs.length 0 lo=0/\HT.cN xs.length xs.length hi=xs.length
   . cases rx;obtain⟨its,rv,ht,hz⟩:=I.tuple hq;have hlen:its.toArray.size=xs.length:=by rw[size_toArray];exact rv.length.symm
     refine⟨"tuple",_,slot_tuple_getitem.lookup,ht.typeIs,HT.uM ht hs pl pu (by rw[hlen];exact hw.1) (by rw[hlen];exact hw.2) ⟨.ref a,H,I,rfl,?_⟩⟩;have hc:HH.cut ds lo hi=ds:=by unfold HH.cut;rw[<-rs.length,<-rY,<-rY,hw.1,hw.2];simp[rs.length]
     rw[hc]at k;exact bN.cu sm rt k
   .refine Mq pins s σ H _ v vl vu lo hi sl Q I rx hs pl pu ⟨a,xs,rfl,hq,hw,fun p hp=>?_⟩;rw[DR];exact wL sm rs.cut hp k|_=>cases he
def SO(X:Cx)(c:Call)(o:Option Expr)(p:P):Prop:=∃t,PO X o t/\∀{σ:L2.St}{H F:Hp}{ρ ρ':List Sl}{d:D}{i:Option Int}{Q:Option Int->Hp->Prop},GS X.K F ρ σ H->bW (isVar p) (HH.ev c p) ρ=.ok d ρ'->part p d=some i->(∀F' H',aq X.K F ρ σ H F' ρ' σ H'->Q i H')->t σ H Q
theorem yg:SO X c none (.con .non):=by refine⟨_,GJ,fun{σ H F ρ ρ' d i Q}g e h k=>?_⟩;cases(show some none=some i from h);have e':(HH.ev c (.con .non) ρ).bind (fun r ρ=>.ok r.d ρ)=.ok d ρ':=e;clear e;rw[HH.E2]at e';cases e';exact k F H (.refl g)
theorem xU(h:SX X c e p)(hn:Uj p=false:=by rfl):SO X c (some e) p:=by obtain⟨t,h1,h2⟩:=h.bW;refine⟨_,Ip h1,fun{σ H F ρ ρ' d i Q}g e hp k=>?_⟩;unfold part at hp;rw[hn,if_neg (by decide)]at hp;obtain⟨j,e1,e2⟩:=map_some hp;cases cQ e1;subst e2;exact h2 g e fun v F' H' s pv=>⟨j,pv.int,k F' H' s⟩
theorem um{d:D}{x y:Option (Option Int)}{r:R}(h:KD d x y=some r):∃lo hi,x=some lo/\y=some hi:=by cases x with|none=>cases d<;>cases h|some lo=>cases y with|none=>cases d<;>cases h|some hi=>exact⟨lo,hi,rfl,rfl⟩
theorem uO(ha:SX X c a pa)(hl:SO X c lo pl)(hh:SO X c hi ph):SX X c (.Subscript a (.Slice lo hi none p2) pos) (.slice pa pl ph):=by obtain⟨tl,l1,l2⟩:=hl;obtain⟨th,h1,h2⟩:=hh;cases hv:isVar pa with|none=>refine⟨fJ (uW TY ha.ev l1 h1) ?_,fun i h=>by cases h⟩;rintro σ H Q⟨F,ρ,r,ρ',g,e,k⟩;rw[HH.E13,hv]at e;obtain⟨x,ρ1,e1',ea⟩:=aa e;clear e;have Wa:(HH.ev c pa ρ).bind (fun r ρ=>.ok r.d ρ)=.ok x ρ1:=e1';clear e1';obtain⟨rx,ρ1',e1,e0⟩:=aa Wa;clear Wa;cases e0;obtain⟨y,ρ2,e2,eb⟩:=aa ea;clear ea;obtain⟨z,ρ3,e3,ec⟩:=aa eb;clear eb;obtain⟨e,e4⟩:=aG ec;clear ec;subst e4;obtain⟨lo',hi',q1,q2⟩:=um e;rw[q1,q2]at e;refine⟨F,ρ,rx,_,g,e1,fun v F1 H1 s1 rr=>?_⟩;obtain⟨F2,s2,_,rp⟩:=s1.cG rr;refine l2 s2.gs e2 q1 fun F3 H3 s3=>h2 s3.gs e3 q2 fun F4 H4 s4=>?_;have s5:=s2.trans (s3.trans s4);refine⟨F4,_,r,s4.gs.sub,.inl ((rp.mono s3.bY).mono s4.bY),e,fun v F5 H5 x rn=>?_⟩;exact k v F5 H5 (s5.trans (x.stp s5.gs)) (.later s5 (rn.nY s5.gs))|some i=>refine⟨fJ (uW TY (ha.var i hv) l1 h1) ?_,fun i h=>by cases h⟩;rintro σ H Q⟨F,ρ,r,ρ',g,e,k⟩;rw[HH.E13,hv]at e;obtain⟨x0,ρ0,e0',ea⟩:=aa e;clear e;obtain⟨e0,xn⟩:=aG e0';clear e0';subst xn;obtain⟨y,ρ2,e2,eb⟩:=aa ea;clear ea;obtain⟨z,ρ3,e3,ec⟩:=aa eb;clear eb;obtain⟨x,ρ4,e5',ed⟩:=aa ec;clear ec;obtain⟨e5,e6⟩:=aG e5';clear e5';subst e6;obtain⟨e,e4⟩:=aG ed;clear ed;subst e4;obtain⟨lo',hi',q1,q2⟩:=um e;rw[q1,q2]at e;obtain⟨v,hv1,_⟩:=g.pk e0;refine⟨v,hv1,l2 g e2 q1 fun F3 H3 s3=>h2 s3.gs e3 q2 fun F4 H4 s4=>?_⟩;have s5:=s3.trans s4;obtain⟨v',hv2,pv⟩:=s5.gs.pk e5;rw[hv1]at hv2;cases hv2;refine⟨F4,_,r,s4.gs.sub,pv,e,fun v F5 H5 x rn=>?_⟩;exact k v F5 H5 (s5.trans (x.stp s5.gs)) (.later s5 (rn.nY s5.gs))
theorem Qf{i:Nat}{x:Str}{p':Pos}{op:Operator}{sub:Bool}(ho:J2 X op (RK fun i j=>if sub then i-j else i+j))(hN:X.N.Nodup)(hi:X.N[i]?=some x)(hx:Loc X.env.scope x)(he:SX X c e p)(hf:X.fn x=true\/X.env.scope.names.lookup x=some .local:=by first|exact .inl rfl|exact .inr rfl|assumption):SS X c n (.AugAssign (.Name x p') op e pos) (.aug i sub p):=by
 obtain⟨te,h1,h2⟩:=he.bW;refine dB (Oe hN hi hx h1 ho hf) ?_;rintro D σ H⟨F,ρ,fl,ρ',g,e,k⟩;rw[HH.X14]at e;obtain⟨a0,ρ0,e0',ea⟩:=aa e;clear e;obtain⟨e0,xn⟩:=aG e0';clear e0';subst xn;obtain⟨b0,ρ1,e1,eb⟩:=aa ea;clear ea;obtain⟨v,hv1,pv⟩:=g.pk e0;refine⟨v,hv1,h2 g e1 fun u F1 H1 s1 pu=>?_⟩;split at eb;.rename_i i1 j1;obtain⟨ρ2,ρ3,e2',ec⟩:=aa eb;clear eb;cases ec;obtain⟨e2,e3⟩:=aG e2';clear e2';have rr:Rep X.K F1 (.int (if sub then i1-j1 else i1+j1)) (.int (if sub then i1-j1 else i1+j1)):=bA _;exact⟨i1,j1,pv.int,pu.int,k F1 _ H1 (aq.put (r:=.val (.int _)) s1 rr e2)⟩
 .cases eb
theorem Hl:J2 X .Add (RK fun i j=>if false then i-j else i+j):=Lr
theorem Ii:J2 X .Sub (RK fun i j=>if true then i-j else i+j):=Qa
theorem Pu{x:Str}{k:Nat}{px apos cpos:Pos}(hN:X.N[k]?=some x)(hv:tu X.env.scope x)(he:SX X c e p)(hline:(apos.endLine==cpos.line)=true:=by rfl)(hs:starEach [e] X.env=(false,eval e X.env)::starEach [] X.env:=by rfl)(hbase:attributeBase (.Name x px) "extend" X.env (eval (.Name x px) X.env)=eval (.Name x px) X.env:=by rfl)(hfew:((backTo cpos (starEach [e] X.env)).all (fun x=>!x.1)&&(backToKw cpos (keywordEach [] X.env)).all (fun x=>x.1.isSome)&&decide ([e].length+([]:List Keyword).length+(if([]:List Keyword).isEmpty then 0 else 1)<30))=true:=by rfl)(hsw:swapsWith (.Call (.Attribute (.Name x px) "extend" apos) [e] [] cpos) none pos.line X.env=pure false:=by rfl)(hd:(x==("__debug__":Str))=false:=by decide)(hcd:(x==("__classdict__":Str))=false:=by decide):SS X c n (.Expr (.Call (.Attribute (.Name x px) "extend" apos) [e] [] cpos) pos) (.Gd k p):=by
 refine dB (rG (BK plainAttrs_list PySem.F.slot_list_extend PySem.F.type_list_extend zG (dN hN hv hd hcd) (cV he.ev fB hs) hbase hfew hline hs) hsw) ?_;rintro D σ H⟨F,ρ,fl,ρ',g,e,kk⟩;rw[HH.X16]at e;obtain⟨d0,ρ0,e0',ea⟩:=aa e;clear e;obtain⟨e0,xn⟩:=aG e0';clear e0';subst xn;obtain⟨r,ρ1,e1,eb⟩:=aa ea;clear ea;obtain⟨a,xs,h1,h2⟩:=qT g e0;refine⟨.ref a,h1,.inl ⟨rfl,xs,h2⟩,F,ρ,r,ρ1,g,e1,fun v F1 H1 s1 rr=>?_⟩;split at eb
 . rename_i bb ds es q;split at eb;.rename_i hlt;cases eb;obtain⟨b1,ys,rfl,w2,w3,w4,w5,w6⟩:=rr;obtain⟨ad,zs,q1,q2,q3,q4⟩:=s1.gs.oU k _ ds q rfl;rw[h1]at q1;cases q1;exact⟨_,b1,zs,ys,rfl,rfl,q2,w2,by rw[q4.length,w4.length];exact hlt,kk F1 σ _ (s1.trans (s1.gs.mut q h1 (q4.append w4)))⟩
   .cases eb
 .cases eb
end
end HH
end
section
namespace L2
open PySem PySem.Spec PyProof.Rows
section
variable{X:Cx}{tg:Expr}
theorem uw:bootBuiltins "tuple"=some (.type "tuple"):=by decide+kernel
theorem oF:bootBuiltins "reversed"=some (.type "reversed"):=by decide+kernel
end
end L2
namespace HH
open PySem L2 PySem.Spec PyProof.Rows
section
variable{K:PySem.W.Frag}{F F1 H H1:Hp}{ρ ρ1:List Sl}{σ:L2.St}{ds:List D}{a:Addr}
theorem aF.rev:∀{ds:List D}{xs:List V},aF K F xs ds->aF K F xs.reverse ds.reverse|[],_,h=>by rw[h.fP];exact .nil|d::ds,_,h=>by obtain⟨v,r,rfl,h1,h2⟩:=h.cj;rw[reverse_cons,reverse_cons];exact(aF.rev h2).append (.cons h1 .nil)
end
end HH
end
section
namespace PySem
namespace F
theorem Ed:typeLookup (.type "list_reverseiterator") "__len__"=pure none:=by rw[typeLookup_type,builtinLookup_eq_fast];kernel_rfl
theorem Ji:typeLookup (.type "list_reverseiterator") "__length_hint__"=pure (some (.builtin "list_reverseiterator.__length_hint__")):=by rw[typeLookup_type,builtinLookup_eq_fast];kernel_rfl
end F
section
variable{prog:Program}{w:World}{A:Around}{E:Value->Shared->Prop}{s:Shared}
theorem mV{it l:Addr}{items:Array Value}{Q:Bool->Shared->Prop}(hit:s.heap.IsRevIter it l ((items.size:Int)-1))(hl:s.heap.IsList l items)(hlen:items.size<=2^24)(h:∀b tk,s.toks<=tk->Q b {s with toks:=tk}):wpAny (model prog w) A (listLengthHint (.ref it)) Q E s:=by
 have hT:=hit.typeIs;unfold listLengthHint;refine wpAny_bind (wpAny_specialOf hT F.Ed ?_);show wpAny _ _ (specialOf (Value.ref it) (Str.ofString "__length_hint__")>>=_) _ _ _;refine wpAny_bind (wpAny_specialOf hT F.Ji ?_);generalize hid:("list_reverseiterator.__length_hint__":String)=id0;(fail_if_success(clear hid id0));wp_delta;rw[show splitId id0=some ("list_reverseiterator","__length_hint__")from by subst hid;decide+kernel];subst hid;refine wpAny_bind (wpAny_isInstance (b:=true) hT (by rw[isSubtype_type];kernel_rfl) ?_);rw[if_neg (by decide)];dsimp only;split;.refine wpAny_ite_split (fun hab=>absurd hab (by decide+kernel)) (fun _=>?_);exact wpAny_pure (h _ s.toks (le_refl _))
 .rename_i hq;exact absurd (by decide+kernel) hq
theorem jR{R:Result->Shared->Prop}{I l:Addr}{items:Array Value}(hh:A.handled=none)(hit:s.heap.IsRevIter I l ((items.size:Int)-1))(hl:s.heap.IsList l items)(hne:l≠I)(hlen:items.size<=2^24)(S:Addr)(hSI:S≠I)(hSl:S≠l)(res:Value)(c₀:Nat)(hS:s.heap.get? S=some {cls:=.type "list",data:=.seq #[] c₀})(hR:∀ h' tk acc' c',(∀ b o,b ≠ S->b ≠ I->s.heap.get? b=some o->h'.get? b=some o)->h'.get? S=some {cls:=.type "list",dict:=none,data:=.seq acc' c',slots:=#[]}->ItemsOf (fun i v=>items[items.size-1-i]?=some v) acc' items.size->R (.ok (.ret res)) {s with heap:=h',toks:=tk}):wpAny (model prog w) A.in1 (listExtendWith (.ref S) (.ref I) res) (fun fin s'=>match fin with|.done f=>R (.ok f) s'|.again c'=>c'.quiet=true/\codeAny (model prog w) A c' R s') (fun e s'=>R (.error e) s') s:=by
 have hSf:S∉[I,l]:=fun hm=>by
  rcases mem_cons.mp hm with e|hm;.exact hSI e
  .exact hSl (mem_singleton.mp hm)
 have W:=(Walks.listRev (prog:=prog) (w:=w) (A:=A.in1) hh I l hne items).toS;have hT:s.TypeIs (.ref I) "list_reverseiterator":=hit.typeIs;have key:∀(h:Heap)(c₁ tk:Nat),h.IsRevIter I l ((items.size:Int)-1-((0:Nat):Int))->h.IsList l items->(∀b o,b≠S->s.heap.get? b=some o->h.get? b=some o)->h.get? S=some {cls:=.type "list",data:=.seq #[] c₁}->codeAny (model prog w) A (.builtin "list.extend.loop" ⟨[.ref S,.ref I,res],[]⟩) R {s with heap:=h,toks:=tk}:=by
  intro h c₁ tk hi hl' hk hS₁;refine codeAny_extend_loopS W (by rw[sizeLine_eq];omega) S hSf res items.size 0 _ #[] c₁ rfl (zero_le _) ⟨zero_le _,hi,hl'⟩ hS₁ (ItemsOf.nil _) fun s' acc' c' hm hS' hacc=>?_;rw[Moved.eq_with hm];refine hR s'.heap s'.toks acc' c' (fun b o hb hbI e=>hm.heap b o (fun hmem=>?_) (hk b o hb e)) hS' hacc;rcases mem_cons.mp hmem with e'|hmem;.exact hb e'
  .exact hbI (mem_singleton.mp hmem)
 unfold listExtendWith;refine wpAny_bind (wpAny_typeOf hT ?_);have h1:listSameRef (.ref S) (.ref I)=false:=by simp[listSameRef,hSI]
 have h2:(Value.type "list_reverseiterator"==Value.type "list")=false:=by decide
 have h3:(Value.type "list_reverseiterator"==Value.type "tuple")=false:=by decide
 simp only[h1,h2,h3,Bool.or_false,false_eq_true,if_false];refine wpAny_bind (wpAny_pyIter_revIter hit ?_);refine wpAny_bind (wpAny_holding (mV hit hl hlen fun bb tk htk=>?_));have hi0:s.heap.IsRevIter I l ((items.size:Int)-1-((0:Nat):Int)):=by simpa using hit
 refine wpAny_ite_split (fun _=>?_) (fun _=>wpAny_pure ⟨plainId_quiet F.plain_extend_loop _,key _ c₀ _ hi0 hl (fun b o _ e=>e) hS⟩);refine wpAny_bind (wpAny_rule ?_);refine wpAny_bind ?_;show wpAny _ _ (updateSeq S (·.push .none)>>=fun _=>updateSeq S (·.pop)) _ _ _;refine wpAny_bind (wpAny_updateSeq hS rfl ?_);have hS₂:=Heap.get?_update_self (Obj.mapSeq (·.push Value.none)) hS rfl;refine wpAny_updateSeq (hz:=by seq_fits) hS₂ rfl ?_;have hS₃:=Heap.get?_update_self (Obj.mapSeq (·.pop)) hS₂ rfl;have oth:∀b o,b≠S->s.heap.get? b=some o->((s.heap.update S (Obj.mapSeq (·.push Value.none))).update S (Obj.mapSeq (·.pop))).get? b=some o:=fun b o hb e=>(get?_update_other _ _ (Ne.symm hb)).trans ((get?_update_other _ _ (Ne.symm hb)).trans e);exact wpAny_pure ⟨plainId_quiet F.plain_extend_loop _,key _ _ _ (hi0.at fun o e=>oth I o (Ne.symm hSI) e) (hl.at fun o e=>oth l o (Ne.symm hSl) e) oth hS₃⟩
end
end PySem
namespace L2
open PySem PySem.Spec PyProof.Rows
end L2
namespace HH
open PySem L2 PySem.Spec PyProof.Rows
end HH
end
section
namespace HH
open PySem
theorem jP:∀a b:List Int,bf a b=true->bf b a=false
 |[],[],h=>by simp[bf]at h|[],_::_,_=>by simp[bf]|_::_,[],h=>by simp[bf]at h|x::a,y::b,h=>by
   simp only[bf,or_eq_true,decide_eq_true_eq,and_eq_true]at h;simp only[bf,Bool.or_eq_false_iff,decide_eq_false_iff_not,Bool.and_eq_false_iff];rcases h with h|⟨h,h'⟩;.exact⟨by omega,.inl (by omega)⟩
   .exact⟨by omega,.inr (jP a b h')⟩
theorem wZ:∀a b c:List Int,bf b a=false->bf c b=false->bf c a=false
 |[],_,c,_,_=>by cases c<;>simp[bf]|_::_,[],_,h,_=>by simp[bf]at h|_::_,_::_,[],_,h=>by simp[bf]at h|x::a,y::b,z::c,h1,h2=>by
   simp only[bf,Bool.or_eq_false_iff,decide_eq_false_iff_not,Bool.and_eq_false_iff]at h1 h2 ⊢;refine⟨by omega,?_⟩;by_cases e:z=x;.right;exact wZ a b c (h1.2.resolve_left (by omega)) (h2.2.resolve_left (by omega))
   .exact .inl e
theorem uI:∀a b:List Int,bf a b=false->bf b a=false->a=b
 |[],[],_,_=>rfl|[],_::_,h,_=>by simp[bf]at h|_::_,[],_,h=>by simp[bf]at h|x::a,y::b,h1,h2=>by
   simp only[bf,Bool.or_eq_false_iff,decide_eq_false_iff_not,Bool.and_eq_false_iff]at h1 h2;have e:x=y:=by omega
   subst e;rw[uI a b (h1.2.resolve_left (by simp)) (h2.2.resolve_left (by simp))]
theorem tY:∀{xs ys:List D},xs.all fK=true->ys.all fK=true->xs.map jl=ys.map jl->xs=ys
 |[],[],_,_,_=>rfl|[],_::_,_,_,h=>by simp at h|_::_,[],_,_,h=>by simp at h|x::xs,y::ys,h1,h2,h=>by
   simp only[all_cons,and_eq_true]at h1 h2;simp only[map_cons,List.cons.injEq]at h;obtain⟨i,rfl⟩:∃i,x=.int i:=by cases x<;>first|exact⟨_,rfl⟩|(have q:=h1.1;simp[fK]at q;done)
   obtain⟨j,rfl⟩:∃j,y=.int j:=by cases y<;>first|exact⟨_,rfl⟩|(have q:=h2.1;simp[fK]at q;done)
   rw[tY h1.2 h2.2 h.2,show i=j from h.1]
theorem yf{x y:D}(h:(fK x=true/\fK y=true)\/(uD x=true/\uD y=true))(e:bT x=bT y):x=y:=by
 rcases h with⟨h1,h2⟩|⟨h1,h2⟩
 . cases x<;>first|(simp[fK]at h1;done)|skip
   cases y<;>first|(simp[fK]at h2;done)|skip
   simpa[bT]using e
 . cases x<;>first|(simp[uD]at h1;done)|skip
   cases y<;>first|(simp[uD]at h2;done)|skip
   rename_i xs ys;cases xs<;>first|(simp[uD]at h1;done)|skip
   cases ys<;>first|(simp[uD]at h2;done)|skip
   rw[tY h1 h2 e]
noncomputable def iy(a b:D):Bool:=!bf (bT b) (bT a)
theorem pH(ds:List D):(tD ds).Perm ds:=List.mergeSort_perm ..
theorem GX(a b c:D)(h1:iy a b=true)(h2:iy b c=true):iy a c=true:=by simp only[iy,not_eq_true']at*;exact wZ _ _ _ h1 h2
theorem CK(a b:D):(iy a b||iy b a)=true:=by simp only[iy,or_eq_true,not_eq_true'];cases h:bf (bT b) (bT a)with|false=>exact .inl rfl|true=>exact .inr (jP _ _ h)
theorem nM(ds:List D):(tD ds).Pairwise fun a b=>iy a b=true:=List.pairwise_mergeSort GX CK ds
theorem sU{ds:List D}(h:sortable ds=true):∀x∈ds,∀y∈ds,bT x=bT y->x=y:=by
 simp only[sortable,and_eq_true,or_eq_true,all_eq_true]at h;intro x hx y hy e;rcases h.2 with h|h;.exact yf (.inl ⟨h x hx,h y hy⟩) e
 .exact yf (.inr ⟨h x hx,h y hy⟩) e
theorem kE{ds l:List D}(h:sortable ds=true)(p:l.Perm ds)(s:l.Pairwise fun a b=>iy a b=true):l=tD ds:=by refine List.Perm.eq_of_pairwise (le:=fun a b=>iy a b=true) (fun a b ha hb h1 h2=>?_) s (nM ds) (p.trans (pH ds).symm);simp only[iy,not_eq_true']at h1 h2;exact sU h a (p.mem_iff.mp ha) b ((pH ds).mem_iff.mp hb) (uI _ _ h2 h1)
end HH
end
section
namespace HH
open PySem PyProof.Rows
structure Rk(M:Model)(A:Around)(E:Value->Shared->Prop)(s:Shared)(κ:SortKind)(ok:Keyed->Prop)(K:Keyed->Int):Prop where lt:∀{x y:Keyed}{Q:Option Bool->SortSt->Prop}{st:SortSt},ok x->ok y->kindOf st=κ->Q (some (decide (K x<K y))) st->wpS M A E s (lt' x y) Q st
section
variable{M:Model}{A:Around}{E:Value->Shared->Prop}{s:Shared}{κ:SortKind}{ok:Keyed->Prop}{K:Keyed->Int}
noncomputable def it(xs:Array Keyed)(i:Nat):Keyed:=xs.getD i (Value.none,Value.none)
theorem IW{xs:Array Keyed}{i:Nat}(h:i<xs.size):xs[i]?=some (it xs i):=by unfold it;simp[Array.getD,h]
theorem Fq{xs:Array Keyed}{i:Nat}(h:i<xs.size):it xs i∈xs.toList:=by
 have:it xs i=xs[i]:=by unfold it;simp[Array.getD,h]
 rw[this];simp
theorem yt{xs:Array Keyed}{i:Nat}{Q:Keyed->SortSt->Prop}{st:SortSt}(h:i<xs.size)(q:Q (it xs i) st):wpS M A E s (elem' xs i) Q st:=by rw[elem'_eq,IW h];exact wpS_pure q
end
section
variable{K:Keyed->Int}
def Seg(K:Keyed->Int)(xs:Array Keyed)(lo hi:Nat):Prop:=∀i j,lo<=i->i<=j->j<hi->K (it xs i)<=K (it xs j)
theorem Ih{xs:Array Keyed}{i:Nat}:it xs i=xs.toList.getD i (Value.none,Value.none):=by
 unfold it;by_cases h:i<xs.size;.simp[Array.getD,h]
 .simp[Array.getD,h]
end
section
variable{M:Model}{A:Around}{E:Value->Shared->Prop}{s:Shared}{κ:SortKind}{ok:Keyed->Prop}{K:Keyed->Int}
structure Sx(κ:SortKind)(ok:Keyed->Prop)(st:SortSt)(xs:Array Keyed)(st':SortSt):Prop where
 kind:kindOf st'=κ
 arr:arrOf st'=xs
 pend:pendingOf st'=pendingOf st
 fail:failedOf st'=none
 ok:∀x∈xs.toList,ok x
theorem Iz(R:Rk M A E s κ ok K){st st':SortSt}{xs:Array Keyed}{i j:Nat}{Q:Option Bool->SortSt->Prop}(h:Sx κ ok st xs st')(hi:i<xs.size)(hj:j<xs.size)(q:Q (some (decide (K (it xs i)<K (it xs j)))) st'):wpS M A E s (ltAt' i j) Q st':=by rw[ltAt'_eq];refine wpS_bind (wpS_get ?_);show wpS M A E s (elem' (arrOf st') i>>=fun x=>elem' (arrOf st') j>>=fun y=>lt' x y) Q st';rw[h.arr];exact wpS_bind (yt hi (wpS_bind (yt hj (R.lt (h.ok _ (Fq hi)) (h.ok _ (Fq hj)) h.kind q))))
theorem M7(R:Rk M A E s κ ok K){st st':SortSt}{xs:Array Keyed}{lo a n:Nat}{Q:Option (Option Nat)×Nat->SortSt->Prop}(h:Sx κ ok st xs st')(hn:lo+n<=xs.size)(ha:1<=a)(han:a<=n)(hs:Seg K xs lo (lo+a))(q:∀m,a<=m->m<=n->Seg K xs lo (lo+m)->(m=n\/K (it xs (lo+m))<K (it xs (lo+m-1)))->Q (none,m) st'):wpS M A E s (forIn [a:n] ((none,a):Option (Option Nat)×Nat) fun _ c=>ltAt' (lo+c.2) (lo+c.2-1)>>=fun o=>match o with|some b=>if b=true then pure (.done (none,c.2))else pure (.yield (none,c.2+1))|_=>pure (.done (some none,c.2))) Q st':=by
 refine wpS_forRange (I:=fun x c st2=>st2=st'/\c=(none,x)/\Seg K xs lo (lo+x)) ?_ ?_ ⟨rfl,rfl,hs⟩
 . rintro x c st2 h1 h2⟨rfl,rfl,hs'⟩;try dsimp only
   refine wpS_bind (Iz R h (by omega) (by omega) ?_);by_cases c:K (it xs (lo+x))<K (it xs (lo+x-1))
   . rw[decide_eq_true c];try dsimp only
     rw[if_pos rfl];exact wpS_pure (q x h1 (by omega) hs' (.inr c))
   . rw[decide_eq_false c];try dsimp only
     rw[if_neg (by simp)];refine wpS_pure ⟨rfl,rfl,fun i j i1 ij jx=>?_⟩;by_cases hj:j<lo+x;.exact hs' i j i1 ij hj
     . have:j=lo+x:=by omega
       subst this;by_cases e:i=lo+x;.rw[e];exact Int.le_refl _
       .have:=hs' i (lo+x-1) i1 (by omega) (by omega);omega
 .rintro c st2⟨rfl,rfl,hs'⟩;rw[show max a n=n by omega]at hs' ⊢;exact q n han (le_refl _) hs' (.inl rfl)
end
noncomputable abbrev Rn:=Nat×Nat×Nat
section
variable{K:Keyed->Int}{xs ys:Array Keyed}
def Vp(K:Keyed->Int)(xs:Array Keyed):Nat->List Rn->Nat->Prop|a,[],b=>a=b|a,r::l,b=>r.1=a/\1<=r.2.1/\Seg K xs a (a+r.2.1)/\Vp K xs (a+r.2.1) l b
theorem rW:∀{l k:List Rn}{a b:Nat},Vp K xs a (l++k) b↔∃m,Vp K xs a l m/\Vp K xs m k b
 |[],k,a,b=>⟨fun h=>⟨a,rfl,h⟩,fun⟨m,h1,h2⟩=>by cases(show a=m from h1);exact h2⟩|r::l,k,a,b=>by
   rw[cons_append];constructor;.rintro⟨h1,h2,h3,h4⟩;obtain⟨m,h5,h6⟩:=rW.mp h4;exact⟨m,⟨h1,h2,h3,h5⟩,h6⟩
   .rintro⟨m,⟨h1,h2,h3,h4⟩,h5⟩;exact⟨h1,h2,h3,rW.mpr ⟨m,h4,h5⟩⟩
end
section
variable{M:Model}{A:Around}{E:Value->Shared->Prop}{s:Shared}{κ:SortKind}{ok:Keyed->Prop}{K:Keyed->Int}
structure SR(κ:SortKind)(ok:Keyed->Prop)(K:Keyed->Int)(x0 ys:Array Keyed)(l:List Rn)(lo:Nat)(st:SortSt):Prop where
 kind:kindOf st=κ
 arr:arrOf st=ys
 fail:failedOf st=none
 pend:(pendingOf st).toList=l
 perm:ys.toList.Perm x0.toList
 ok:∀x∈ys.toList,ok x
 rns:Vp K ys 0 l lo
 le:lo<=ys.size
theorem SR.sx{x0 ys:Array Keyed}{l:List Rn}{lo:Nat}{st:SortSt}(h:SR κ ok K x0 ys l lo st):Sx κ ok st ys st:=⟨h.kind,h.arr,rfl,h.fail,h.ok⟩
end
end HH
end
section
namespace HH
open PySem PySem.W PyProof.Rows PySem.Calls L2 PySem.Spec
theorem Hk(a:List Int):bf a a=false:=by cases h:bf a a with|false=>rfl|true=>rw[jP _ _ h]at h;cases h
theorem DX{a b x:List Int}(h:bf b a=false)(hx:bf x a=true):bf x b=true:=by cases e:bf x b with|true=>rfl|false=>rw[wZ _ _ _ h e]at hx;cases hx
theorem qy{α:Type}{p q:α->Bool}(h:∀x,p x=true->q x=true):∀{l:List α},(∃x,x∈l/\q x=true/\p x=false)->l.countP p<l.countP q
 |[],⟨x,hx,_⟩=>by cases hx|y::l,⟨x,hx,h1,h2⟩=>by
   rw[List.countP_cons,List.countP_cons];have m:=List.countP_mono_left (l:=l) (p:=p) (q:=q) fun x _=>h x;rcases mem_cons.mp hx with rfl|hx;.rw[h1,h2,if_pos rfl,if_neg (by simp)];omega
   .have:=qy h ⟨x,hx,h1,h2⟩;cases hp:p y with|true=>rw[h y hp];omega|false=>rw[if_neg (by simp)];omega
noncomputable def Mf(ds:List D)(d:D):Nat:=ds.countP fun e=>bf (bT e) (bT d)
theorem Fe{ds:List D}{d e:D}(hd:d∈ds):decide ((Mf ds d:Int)<Mf ds e)=bf (bT d) (bT e):=by cases h:bf (bT d) (bT e)with|true=>have:=qy (l:=ds) (p:=fun x=>bf (bT x) (bT d)) (q:=fun x=>bf (bT x) (bT e)) (fun x hx=>DX (jP _ _ h) hx) ⟨d,hd,h,Hk _⟩;rw[decide_eq_true_iff];unfold Mf;omega|false=>have:=List.countP_mono_left (l:=ds) (p:=fun x=>bf (bT x) (bT e)) (q:=fun x=>bf (bT x) (bT d)) fun x _ hx=>DX h hx;rw[decide_eq_false_iff_not];unfold Mf;omega
open Classical in
noncomputable def Xj(P:Value->D->Prop)(ds:List D)(x:Keyed):Int:=if h:∃d,d∈ds/\P x.1 d then(Mf ds h.choose:Int)else 0
theorem zc{P:Value->D->Prop}{ds:List D}{x:Keyed}{d:D}(fn:∀u d e,P u d->P u e->bT d=bT e)(hd:d∈ds)(hp:P x.1 d):Xj P ds x=Mf ds d:=by have h:∃d,d∈ds/\P x.1 d:=⟨d,hd,hp⟩;unfold Xj;rw[dif_pos h];unfold Mf;rw[fn _ _ _ h.choose_spec.2 hp]
noncomputable def pick{α:Type}(d:α)(p:List Nat)(l:List α):List α:=p.map fun i=>l.getD i d
theorem j8{α:Type}(d:α)(l:List α):pick d (List.range l.length) l=l:=by refine List.ext_getElem (by simp[pick]) fun i h1 h2=>?_;simp[pick,h2]
theorem nZ{α:Type}{d:α}{p:List Nat}{l:List α}{n:Nat}(h:p.Perm (List.range n)):(pick d p l).length=n:=by rw[pick,length_map,h.length_eq,length_range]
theorem jc{P:Value->D->Prop}:∀{us:List Value}{ds:List D},Paired P us ds->∀i,i<us.length->P (us.getD i .none) (ds.getD i .non)/\ds.getD i .non∈ds|_,_,.cons r _,0,_=>⟨by simpa using r,by simp⟩|_,_,.cons _ t,i+1,hi=>by have:=jc t i (by simpa using hi);exact⟨by simpa using this.1,by simpa using Or.inr this.2⟩
end HH
end
section
namespace HH
open PySem L2 PySem.Spec PyProof.Rows PySem.Calls PySem.W
section
variable{prog:Program}{w:World}{A:Around}{E:Value->Shared->Prop}{s:Shared}{vs:List Value}{κ:SortKind}{P:Value->D->Prop}{ds:List D}
theorem mH{b fin:Bool}{Q:Bool->Shared->Prop}:∀{xs ys:List Value}{is js:List Int}{i:Nat},IntsAre xs is->IntsAre ys js->fin=decide (is.length<js.length)->Q (bf is js) s->KatLex prog w A b fin Q (xs.zip ys) i s
 |_,_,_,_,_,.nil,.nil,e,h=>by subst e;exact kat_nil (by simpa[bf]using h)|_,_,_,_,_,.nil,.cons _ _ _,e,h=>by subst e;exact kat_nil (by simpa[bf]using h)|_,_,_,_,_,.cons _ _ _,.nil,e,h=>by subst e;exact kat_nil (by simpa[bf]using h)|_,_,_,_,i,.cons (ns:=is) x t r,.cons (ns:=js) y u r',e,h=>by
   refine kat_cons (wpAny_eqBool_int ?_);by_cases q:x=y;.subst q;rw[beq_self_eq_true];refine kat_yes (mH r r' (by rw[e];simp) ?_);simpa[bf]using h
   . rw[beq_eq_false_iff_ne.mpr q];refine kat_no ?_;have hx:Q (decide (x<y)) s:=by simpa[bf,q]using h
     cases(b&&i==0)with|true=>exact oneLt_int hx|false=>exact kat_one _ _ (wpAny_lt_int hx)
def mL(h:Heap)(u:Value)(d:D):Prop:=∃a its is,u=.ref a/\IsTup h a (List.toArray its)/\IntsAre its is/\is≠[]/\bT d=is
theorem lJ{h h':Heap}(k:∀b o,h.get? b=some o->h'.get? b=some o){u:Value}{d:D}(t:mL h u d):mL h' u d:=by obtain⟨a,its,is,e,⟨o,h1,h2⟩,h3⟩:=t;exact⟨a,its,is,e,⟨o,k _ _ h1,h2⟩,h3⟩
theorem qj{h h':Heap}(k:∀b o,h.get? b=some o->h'.get? b=some o):∀{us:List Value}{ds:List D},Paired (mL h) us ds->Paired (mL h') us ds|_,_,.nil=>.nil|_,_,.cons r t=>.cons (lJ k r) (qj k t)
theorem mz{h:Heap}:∀{us:List Value}{ds:List D},Paired (mL h) us ds->∃fs,KatTups h us fs/\fs.length=us.length/\∀f∈fs,∃n t,f=Value.int n t|_,_,.nil=>⟨[],trivial,rfl,by simp⟩|_,_,.cons r t=>by obtain⟨fs,h1,h2,h3⟩:=mz t;obtain⟨a,its,is,rfl,⟨o,o1,o2,n,o3⟩,hi,hne,_⟩:=r;cases hi with|nil=>exact absurd rfl hne|cons x tk r'=>
     refine⟨.int x tk::fs,KatTups.cons o1 o2 o3 (by simp) h1,by simp[h2],fun f hf=>?_⟩;rcases mem_cons.mp hf with rfl|hf;.exact⟨_,_,rfl⟩
     .exact h3 f hf
theorem zN{ds:List D}(t:Paired (mL s.heap) vs ds)(h2:2<=vs.length){C:SortKind->Shared->Prop}(hC:C (tuples' (Value.type "int"!=Value.type "tuple")) s):wpAny (model prog w) A (keyKind' vs.toArray) C E s:=by obtain⟨fs,h1,h3,h4⟩:=mz t;refine kat_kind (T:=.type "int") h1 (by omega) (fun v hv=>?_) rfl hC;obtain⟨n,t,rfl⟩:=h4 v hv;exact Looks.now
theorem Io{x y:Value}{d e:D}(hx:mL s.heap x d)(hy:mL s.heap y e){b:Bool}{C:Bool->Shared->Prop}(hC:C (bf (bT d) (bT e)) s):wpAny (model prog w) A (keyLt' (tuples' b) x y) C E s:=by obtain⟨a,its,is,rfl,⟨o,o1,o2,n,o3⟩,hi,hne,e1⟩:=hx;obtain⟨a',its',js,rfl,⟨o',p1,p2,n',p3⟩,hj,hne',e2⟩:=hy;refine kat_lt o1 o3 p1 p3 ?_;rw[e1,e2]at hC;refine mH (is:=is) (js:=js) (by simpa using hi) (by simpa using hj) ?_ hC;rw[size_toArray,size_toArray,IntsAre.length hi,IntsAre.length hj]
end
theorem zJ{xs:List V}{us:List Value}(h:Vals xs us)(i:Nat):RelV (xs.getD i .non) (us.getD i .none):=by
 have hl:=h.length;by_cases hi:i<xs.length
 . obtain⟨u,e,r⟩:=h.get (i:=i) (x:=xs[i]) (getElem?_eq_getElem hi);have e1:xs.getD i .non=xs[i]:=by simp[hi]
   have e2:us.getD i .none=u:=by simp[e]
   rw[e1,e2];exact r
 . have e1:xs.getD i .non=.non:=by simp[Nat.le_of_not_lt hi]
   have e2:us.getD i .none=.none:=by simp[show us.length<=i by omega]
   rw[e1,e2];rfl
theorem uY{f:Nat->V}{g:Nat->Value}(h:∀i,RelV (f i) (g i)):∀l:List Nat,Vals (l.map f) (l.map g)|[]=>.nil|i::l=>.cons (h i) (uY h l)
theorem DG{p:List Nat}{xs:List V}{us:List Value}(h:Vals xs us):Vals (pick .non p xs) (pick .none p us):=uY (zJ h) _
theorem ue{K:PySem.W.Frag}{F:Hp}{f:Nat->V}{g:Nat->D}(h:∀i,Rep K F (f i) (g i)):∀l:List Nat,aF K F (l.map f) (l.map g)|[]=>.nil|i::l=>.cons (h i) (ue h l)
theorem Em{K:PySem.W.Frag}{F:Hp}{p:List Nat}{xs:List V}{ds:List D}(h:aF K F xs ds):aF K F (pick .non p xs) (pick .non p ds):=ue (fun i=>by
 have hl:=h.length;by_cases hi:i<ds.length
 . obtain⟨u,e,r⟩:=h.get (i:=i) (d:=ds[i]) (getElem?_eq_getElem hi);have e1:ds.getD i .non=ds[i]:=by simp[hi]
   have e2:xs.getD i .non=u:=by simp[e]
   rw[e1,e2];exact r
 . have e1:ds.getD i .non=.non:=by simp[Nat.le_of_not_lt hi]
   have e2:xs.getD i .non=.non:=by simp[show xs.length<=i by omega]
   rw[e1,e2,Rep]) _
theorem Cu{us:List Value}:∀{ns ms:List Int},IntsAre us ns->IntsAre us ms->ns=ms:=by induction us with|nil=>intro ns ms h1 h2;cases h1;cases h2;rfl|cons u us ih=>intro ns ms h1 h2;cases h1 with|cons n t r=>cases h2 with|cons m t' r'=>rw[ih r r']
theorem IK{h:Heap}(u:Value)(d e:D):mL h u d->mL h u e->bT d=bT e:=fun⟨a,its,is,h1,⟨o,o1,o2,n,o3⟩,h3,_,h4⟩⟨b,jts,js,g1,⟨o',p1,p2,m,p3⟩,g3,_,g4⟩=>by rw[h1]at g1;cases g1;rw[o1]at p1;cases p1;rw[o3]at p3;cases p3;rw[h4,g4,Cu h3 g3]
theorem all_ints:∀{ds:List D},ds.all fK=true->ds=(ds.map jl).map D.int
 |[],_=>rfl|d::ds,h=>by
   simp only[all_cons,and_eq_true]at h;cases d<;>first|(have q:=h.1;simp[fK]at q;done)|skip
   rw[map_cons,map_cons,<-all_ints h.2];rfl
theorem intsAre_of:∀{ns:List Int}{us:List Value},Vals (ns.map V.int) us->IntsAre us ns|[],_,.nil=>.nil|n::ns,_,.cons r t=>by obtain⟨tk,rfl⟩:=r;exact .cons n tk (intsAre_of t)
section
variable{X:Cx}{c:Call}{a:Expr}{pa:P}{pos:Pos}
theorem boot_sorted:bootBuiltins "sorted"=some (.builtin "sorted"):=by decide+kernel
end
end HH
end
section
namespace HH
open PySem L2 PySem.Spec PyProof.Rows PySem.Calls
theorem vB(l b:Addr)(items items2:List Value)(n n2:Nat)(dd dd2:Option Addr)(sl sl2:Array (Option Value))(is js:List Int)(hi:IntsAre items is)(hj:IntsAre items2 js):Meets (Builtin.«tuple.__lt__» ⟨[.ref l,.ref b],[]⟩) (fun A R s=>s.heap.get? l=some {cls:=.type "tuple",dict:=dd,data:=.seq items.toArray n,slots:=sl}/\s.heap.get? b=some {cls:=.type "tuple",dict:=dd2,data:=.seq items2.toArray n2,slots:=sl2}/\R (.ok (.ret (.bool (bf is js)))) s):=.of_wp fun prog w A R s h=>by
  obtain⟨hp,g,d,tk,os⟩:=s;obtain⟨hl,hb,h⟩:=h;have f2:=AutoSeq1.sub_tuple_tuple;wp_walk using wpAny_loadPart' hl,wpAny_loadPart' hb,wpAny_forIn_list _ (fun rest b s'=>b.1=none/\s'=⟨hp,g,d,tk,os⟩/\∃xs ys is' Sv,rest=xs.zip ys/\IntsAre xs is'/\IntsAre ys Sv/\decide (items.length<items2.length)=decide (is'.length<Sv.length)/\R (.ok (.ret (.bool (bf is' Sv)))) ⟨hp,g,d,tk,os⟩) _;case turn=>rintro⟨y,x⟩rest b s'⟨hb',rfl,xs,ys,is',Sv,hz,h1,h2,h3,hR⟩;cases h1 with|nil=>cases hz|cons p t h1=>cases h2 with|nil=>cases hz|cons q u h2=>
       injection hz with hyx hrest;cases hyx;refine wpAny_bind (wpAny_eqBool_int ?_);by_cases e:p=q;.subst e;rw[beq_self_eq_true];wp_walk;exact⟨rfl,rfl,_,_,_,_,hrest,h1,h2,by rw[h3];simp,by simpa[bf]using hR⟩
       . rw[beq_eq_false_iff_ne.mpr e];have hR':R (.ok (.ret (.bool (decide (p<q))))) ⟨hp,g,d,tk,os⟩:=by simpa[bf,e]using hR
         simp only[Bool.not_false,if_true];refine wpAny_bind (wpAny_rule ?_);refine wpAny_bind (show wpAny (model prog w) A.in1 (compareOp .Lt (Value.int p t) (Value.int q u)) _ _ _ from wpAny_lt_int ?_);refine wpAny_bind (wpAny_pure ?_);exact wpAny_pure (wpAny_pure ⟨_,rfl,hR'⟩)
  case fin=>
   rintro⟨b1,b2⟩s'⟨hb',rfl,xs,ys,is',Sv,hz,h1,h2,h3,hR⟩;simp only at hb';subst hb';have e:bf is' Sv=decide (items.length<items2.length):=by rw[h3];cases h1 with|nil=>cases h2<;>simp[bf]|cons _ _ _=>cases h2 with|nil=>simp[bf]|cons _ _ _=>cases hz
   rw[e]at hR;wp_walk;exact⟨_,rfl,by simpa[Builtin.Tuple.tupleCompareSizes]using hR⟩
  case h=>exact⟨rfl,rfl,items,items2,is,js,by simp,hi,hj,by rw[IntsAre.length hi,IntsAre.length hj],h⟩
section
variable{X:Cx}
theorem Ow(hu:X.A.units+8<cLine):gG X (compareOp .Lt) (rD X.K (vL .lt)):=by rintro pins s σ H x y v u Q I rx ry⟨F,d,e,r,sm,px,py,he,k⟩;obtain⟨t,e1,e2⟩:=map_some (show(Ux d e).map _=some r from he);subst e2;cases d with
 |int i=>cases e with|int j=>exact PN pins s σ H x y v u Q I rx ry ⟨F,.int i,.int j,_,sm,px,py,by have e2:Gp (fun i j=>decide (i<j)) (.int i) (.int j)=some t:=e1;simp only[e2];rfl,k⟩|_=>cases e1
 |tup xs=>cases e with|tup ys=>obtain⟨hc,e1⟩:=bj (show(if(xs.all fK&&ys.all fK)=true then some (bf (xs.map jl) (ys.map jl))else none)=some t from e1);rw[and_eq_true]at hc;obtain⟨a,vs,rfl,h1,h2,_⟩:=px.tup sm;obtain⟨b,ws,rfl,h3,h4,_⟩:=py.tup sm;cases rx;cases ry;obtain⟨its,rv,it,_⟩:=I.tuple h1;obtain⟨its2,rv2,it2,_⟩:=I.tuple h3;rw[all_ints hc.1]at h2;rw[all_ints hc.2]at h4;rw[gn h2]at rv;rw[gn h4]at rv2;have i1:=intsAre_of rv;have i2:=intsAre_of rv2;obtain⟨⟨cls,dd,data,sl⟩,ho,hc1,n,hd⟩:=it;obtain⟨⟨cls2,dd2,data2,sl2⟩,ho2,hc2,n2,hd2⟩:=it2;simp only at hc1 hd hc2 hd2;subst hc1 hd hc2 hd2;refine(show wpAny (model X.prog X.w) X.A (richCompare .Lt (.ref a) (.ref b)) _ _ s from richCompare_meets_room (op:=.Lt) ⟨_,ho,rfl⟩ ⟨_,ho2,rfl⟩ PySem.F.slot_tuple_lt PySem.F.entry_tuple_lt (PySem.F.args_tuple_lt_2 _ _) (vB a b its its2 n n2 dd dd2 sl sl2 _ _ i1 i2) ⟨ho,ho2,show Value.bool _≠Value.notImplemented/\_ from⟨(fun x=>nomatch x),⟨.bl t,H,I,by rw[<-e1];rfl,bN.cu sm (lY _) k⟩⟩⟩ (by omega))|_=>cases e1
 |_=>cases e1
end
end HH
end
section
namespace L2
open PySem PySem.Spec PyProof.Rows
section
variable{κ:Type}[DecidableEq κ]
noncomputable def gZ(kvs:List (κ×V))(k:κ):Option V:=(kvs.find? fun kv=>decide (kv.1=k)).map (·.2)
noncomputable def putK(kvs:List (κ×V))(k:κ)(v:V):List (κ×V):=if(kvs.any fun kv=>decide (kv.1=k))=true then kvs.map (fun kv=>if kv.1=k then(kv.1,v)else kv)else kvs++[(k,v)]
theorem kO{p:κ×V}{r:List (κ×V)}{k:κ}(e:p.1=k):gZ (p::r) k=some p.2:=by simp[gZ,find?_cons,e]
theorem j4{p:κ×V}{r:List (κ×V)}{k:κ}(e:¬ p.1=k):gZ (p::r) k=gZ r k:=by simp[gZ,find?_cons,e]
theorem nU(k:κ):∀kvs:List (κ×V),(kvs.any fun kv=>decide (kv.1=k))=(gZ kvs k).isSome
 |[]=>rfl|p::r=>by
   rw[any_cons];by_cases e:p.1=k;.simp only[kO e,decide_eq_true e,Bool.true_or,Option.isSome_some]
   .rw[j4 e,decide_eq_false e,Bool.false_or];exact nU k r
theorem iJ(kvs:List (κ×V))(k:κ)(v:V):(putK kvs k v).length<=kvs.length+1:=by
 unfold putK;split;.rw[length_map];omega
 .rw[length_append,length_cons,length_nil];omega
theorem mQ.gA{o:Option V}{u:Option Value}(r:mQ o u):o.isSome=u.isSome:=by cases o with
 |none=>cases u with|none=>rfl|some _=>exact(show False from r).elim
 |some _=>cases u with|none=>exact(show False from r).elim|some _=>rfl
theorem mQ.getD{o:Option V}{u:Option Value}{d:V}{d':Value}(r:mQ o u)(rd:RelV d d'):RelV (o.getD d) (u.getD d'):=by cases o with
 |none=>cases u with|none=>exact rd|some _=>exact(show False from r).elim
 |some _=>cases u with|none=>exact(show False from r).elim|some _=>exact r
theorem KV.val{kvs:List (κ×V)}{vs:List (κ×Value)}(r:KV kvs vs)(k:κ):mQ (gZ kvs k) (valueAt vs k):=by unfold KV at r;induction r with|nil=>exact True.intro|@cons p q ps qs h t ih=>
   obtain⟨h1,h2⟩:=h;by_cases e:p.1=k
   . have e':q.1=k:=h1.symm.trans e;have b:valueAt (q::qs) k=some q.2:=by simp[valueAt,find?_cons,e']
     rw[kO e,b];exact h2
   . have e':¬ q.1=k:=fun z=>e (h1.trans z);have b:valueAt (q::qs) k=valueAt qs k:=by simp[valueAt,find?_cons,e']
     rw[j4 e,b];exact ih
theorem KV.any{kvs:List (κ×V)}{vs:List (κ×Value)}(r:KV kvs vs)(k:κ):(kvs.any fun kv=>decide (kv.1=k))=vs.any fun kv=>decide (kv.1=k):=by unfold KV at r;induction r with|nil=>rfl|cons h t ih=>rw[any_cons,any_cons,ih,h.1]
theorem KV.repl{kvs:List (κ×V)}{vs:List (κ×Value)}(r:KV kvs vs)(k:κ){y:V}{u:Value}(ry:RelV y u):KV (kvs.map fun kv=>if kv.1=k then(kv.1,y)else kv) (vs.map fun kv=>if kv.1=k then(kv.1,u)else kv):=by unfold KV at r ⊢;induction r with|nil=>exact .nil|@cons p q ps qs h t ih=>
   rw[map_cons,map_cons];refine .cons ?_ ih;obtain⟨h1,h2⟩:=h;by_cases e:p.1=k;.rw[if_pos e,if_pos (h1.symm.trans e)];exact⟨h1,ry⟩
   .rw[if_neg e,if_neg (fun z=>e (h1.trans z))];exact⟨h1,h2⟩
theorem KV.put{kvs:List (κ×V)}{vs:List (κ×Value)}(r:KV kvs vs)(k:κ){y:V}{u:Value}(ry:RelV y u):KV (putK kvs k y) (stored vs k u):=by
 unfold putK stored;rw[r.any k];by_cases e:(vs.any fun kv=>decide (kv.1=k))=true;.rw[if_pos e,if_pos e];exact r.repl k ry
 .rw[if_neg e,if_neg e];exact Paired.snoc r ⟨rfl,ry⟩
theorem KV.length{kvs:List (κ×V)}{vs:List (κ×Value)}(r:KV kvs vs):kvs.length=vs.length:=Paired.length r
end
theorem oM{P:Program}{w:World}{k:Key}{u:Value}(r:RelV (kV k) u):(aX P w).is k u=true:=by cases k with|inl i=>obtain⟨t,e⟩:=(show ∃t,u=Value.int i t from r);subst e;exact uF P w i t|inr x=>obtain⟨t,e⟩:=(show ∃t,u=Value.str x t from r);subst e;exact tQ P w x t
theorem qx{P:Program}{w:World}:∀{ks:List Key}{us:List Value},Vals (ks.map kV) us->ItemsAre (aX P w) ks us|[],_,r=>by rw[map_nil]at r;cases r;exact .nil|k::ks,_,r=>by rw[map_cons]at r;cases r with|cons h t=>exact .cons (oM h) (qx t)
abbrev KT(H:Hp):List (List Key×V)->List (List Key×Addr×Value)->Prop:=Paired fun p q=>p.1=q.1/\H q.2.1=some (.tup (p.1.map kV))/\RelV p.2 q.2.2
theorem KT.val{H:Hp}{kvs:List (List Key×V)}{xs:List (List Key×Addr×Value)}(r:KT H kvs xs)(k:List Key):mQ (gZ kvs k) ((atKey xs k).map (·.2)):=by induction r with|nil=>exact True.intro|@cons p q ps qs h t ih=>
   obtain⟨h1,_,h2⟩:=h;by_cases e:p.1=k
   . have e':q.1=k:=h1.symm.trans e;have b:atKey (q::qs) k=some q.2:=by simp[atKey,find?_cons,e']
     rw[kO e,b];exact h2
   . have e':¬ q.1=k:=fun z=>e (h1.trans z);have b:atKey (q::qs) k=atKey qs k:=by simp[atKey,find?_cons,e']
     rw[j4 e,b];exact ih
theorem KT.repl{H:Hp}{kvs:List (List Key×V)}{xs:List (List Key×Addr×Value)}(r:KT H kvs xs)(k:List Key){y:V}{u:Value}(ry:RelV y u):KT H (kvs.map fun kv=>if kv.1=k then(kv.1,y)else kv) (xs.map (putAt k u)):=by induction r with|nil=>exact .nil|@cons p q ps qs h t ih=>
   rw[map_cons,map_cons];refine .cons ?_ ih;obtain⟨h1,h2,h3⟩:=h;unfold putAt;by_cases e:p.1=k;.rw[if_pos e,if_pos (h1.symm.trans e)];exact⟨h1,h2,ry⟩
   .rw[if_neg e,if_neg (fun z=>e (h1.trans z))];exact⟨h1,h2,h3⟩
theorem KT.put{H:Hp}{kvs:List (List Key×V)}{xs:List (List Key×Addr×Value)}(r:KT H kvs xs)(k:List Key){b:Addr}{y:V}{u:Value}(hb:H b=some (.tup (k.map kV)))(ry:RelV y u):KT H (putK kvs k y) (storedH xs k b u):=by
 have e:(kvs.any fun kv=>decide (kv.1=k))=(atKey xs k).isSome:=by rw[nU,(r.val k).gA,isSome_map]
 unfold putK storedH;rw[e];by_cases q:(atKey xs k).isSome=true;.rw[if_pos q,if_pos q];exact r.repl k ry
 .rw[if_neg q,if_neg q];exact Paired.snoc r ⟨rfl,hb,ry⟩
theorem KT.keeps{H H':Hp}{kvs:List (List Key×V)}{xs:List (List Key×Addr×Value)}(r:KT H kvs xs)(ht:∀b ys,H b=some (.tup ys)->H' b=some (.tup ys)):KT H' kvs xs:=Paired.O9 r fun _ _ z=>⟨z.1,ht _ _ z.2.1,z.2.2⟩
section
variable{P:Program}{w:World}{H:Hp}{h:Heap}{a:Addr}
theorem J5{u:HO}(ok:kY P w H h)(e:Rd H a u):bw P w H h a u:=e.ok ok
theorem o6{kvs:List (Key×V)}(ok:kY P w H h)(e:Rd H a (.dK kvs)):kvs.length<=sizeLine/\(a==sysModules)=false/\∃vs,KV kvs vs/\h.DictOf (aX P w) a vs:=show bw P w H h a (.dK kvs)from J5 ok e
theorem JL{kvs:List (Key×V)}(ok:kY P w H h)(e:H a=some (.dK kvs)):kvs.length<=sizeLine/\(a==sysModules)=false/\∃vs,KV kvs vs/\h.DictOf (aX P w) a vs:=o6 ok (.inl e)
theorem lO{ks:List Key}(ok:kY P w H h)(e:H a=some (.tup (ks.map kV))):(tupleKind (aX P w)).is h ks a:=by obtain⟨_,its,r,o,h1,h2,n,h3⟩:=(show bw P w H h a (.tup (ks.map kV))from ok a _ e);exact⟨o,its.toArray,n,h1,h2,h3,by simpa using qx r⟩
theorem o9{kvs:List (List Key×V)}(ok:kY P w H h)(e:Rd H a (.dT kvs)):kvs.length<=sizeLine/\(a==sysModules)=false/\∃xs,KT H kvs xs/\h.DictOfH (tupleKind (aX P w)) a xs:=by
 obtain⟨z,y,xs,r,o,es,ep,h1,h2,h3,h4,h5⟩:=(show bw P w H h a (.dT kvs)from J5 ok e);refine⟨z,y,xs,r,o,es,ep,h1,h2,h3,h4,fun x hx=>?_,h5⟩;have all:∀{l:List (List Key×V)}{m:List (List Key×Addr×Value)},KT H l m->∀x∈m,(tupleKind (aX P w)).is h x.1 x.2.1:=by intro l m q;induction q with|nil=>intro x hx;exact nomatch hx|@cons p q ps qs hq t ih=>
    intro x hx;rcases mem_cons.mp hx with e|hx;.subst e;exact lO ok (by rw[<-hq.1];exact hq.2.1)
    .exact ih x hx
 exact all r x hx
theorem U6{kvs:List (List Key×V)}(ok:kY P w H h)(e:H a=some (.dT kvs)):kvs.length<=sizeLine/\(a==sysModules)=false/\∃xs,KT H kvs xs/\h.DictOfH (tupleKind (aX P w)) a xs:=o9 ok (.inl e)
end
def lQ(H:Hp)(a:Addr)(y:V)(r:Option V):Prop:=(∃kvs k,Rd H a (.dK kvs)/\y=kV k/\r=gZ kvs k)\/∃kvs k b,Rd H a (.dT kvs)/\y=.ref b/\H b=some (.tup (k.map kV))/\r=gZ kvs k
def Vh(H:Hp)(a:Addr)(y v:V)(H':Hp):Prop:=(∃kvs k,H a=some (.dK kvs)/\y=kV k/\kvs.length<sizeLine/\H'=upd H a (.dK (putK kvs k v)))\/∃kvs k b,H a=some (.dT kvs)/\y=.ref b/\H b=some (.tup (k.map kV))/\kvs.length<sizeLine/\H'=upd H a (.dT (putK kvs k v))
section
variable{X:Cx}{pins:List (Addr×Obj)}{σ:St}{H:Hp}{s:Shared}{a:Addr}{y v:V}{u r:Value}{o:Option V}{A:Around}{E:Value->Shared->Prop}
theorem Inv.big(I:Inv X pins σ H s):sysModules<s.heap.objs.size:=by have h:mainGlobals<s.heap.objs.size:=(I.mod.glob.keeps I.bk).lt;exact Nat.lt_trans (by decide) h
theorem lD{Q:Value->Shared->Prop}(hu:A.units+1<cLine)(I:Inv X pins σ H s)(g:lQ H a y (some v))(ry:RelV y u)(h:∀w' s',Inv X pins σ H s'->RelV v w'->Q w' s'):wpAny (model X.prog X.w) A (getItem (.ref a) u) Q E s:=by
 rcases g with⟨kvs,k,e,ey,l⟩|⟨kvs,k,b,e,ey,eb,l⟩;.subst ey;obtain⟨z,hd,vs,rel,dd⟩:=o6 I.hok e;obtain⟨w',hw,u9⟩:=mQ.some_of (v:=v) (o:=valueAt vs k) (by rw[l];exact rel.val k);exact wpAny_getItem_of (oM ry) dd.mapOf hw (h w' _ (I.tok _) u9)
 .subst ey;cases(show u=Value.ref b from ry);obtain⟨z,hd,xs,rel,dd⟩:=o9 I.hok e;obtain⟨w',hw,u9⟩:=mQ.some_of (v:=v) (o:=(atKey xs k).map (·.2)) (by rw[l];exact rel.val k);obtain⟨p,hp,hp2⟩:=map_eq_some_iff.mp hw;refine wpAny_getItem_heap (tupleKind_room_in1 hu) (lO I.hok eb) dd hp ?_;rw[hp2];exact h w' _ (I.tok _) u9
theorem Vv{Q:Value->Shared->Prop}(hu:A.units+1<cLine)(I:Inv X pins σ H s)(g:lQ H a y o)(ry:RelV y u)(h:∀s',Inv X pins σ H s'->Q (.bool o.isSome) s'):wpAny (model X.prog X.w) A (compareOp .In u (.ref a)) Q E s:=by
 rcases g with⟨kvs,k,e,ey,l⟩|⟨kvs,k,b,e,ey,eb,l⟩;.subst ey;obtain⟨z,hd,vs,rel,dd⟩:=o6 I.hok e;refine wpAny_in_of (oM ry) hd dd.mapOf ?_;rw[<-(rel.val k).gA,<-l];exact h _ (I.tok _)
 .subst ey;cases(show u=Value.ref b from ry);obtain⟨z,hd,xs,rel,dd⟩:=o9 I.hok e;refine wpAny_in_heap (tupleKind_room_in1 hu) (lO I.hok eb) hd dd ?_;have q:=(rel.val k).gA;rw[isSome_map]at q;rw[<-q,<-l];exact h _ (I.tok _)
theorem zf{Q:Value->Shared->Prop}(hu:A.units+1<cLine)(I:Inv X pins σ H s)(g:lQ H a y o)(ry:RelV y u)(h:∀s',Inv X pins σ H s'->Q (.bool (!o.isSome)) s'):wpAny (model X.prog X.w) A (compareOp .NotIn u (.ref a)) Q E s:=by
 rcases g with⟨kvs,k,e,ey,l⟩|⟨kvs,k,b,e,ey,eb,l⟩;.subst ey;obtain⟨z,hd,vs,rel,dd⟩:=o6 I.hok e;refine wpAny_notIn_of (oM ry) hd dd.mapOf ?_;rw[<-(rel.val k).gA,<-l];exact h _ (I.tok _)
 .subst ey;cases(show u=Value.ref b from ry);obtain⟨z,hd,xs,rel,dd⟩:=o9 I.hok e;refine wpAny_notIn_heap (tupleKind_room_in1 hu) (lO I.hok eb) hd dd ?_;have q:=(rel.val k).gA;rw[isSome_map]at q;rw[<-q,<-l];exact h _ (I.tok _)
theorem rM{h':Heap}{t':Nat}{ob:HO}(I:Inv X pins σ H s)(mu:Vm (H a))(hs:SameBut a s.heap h')(he:∃q,h'.get? a=some q)(new:bw X.prog X.w (upd H a ob) h' a ob):Inv X pins σ (upd H a ob) {s with heap:=h',toks:=t'}:=I.write (x:=a) (e:=a) mu (.inl rfl) (fun b q hb z=>(hs.2 b hb).trans z) he new
theorem Er{P:Program}{w:World}{H':Hp}{h':Heap}{kvs:List (Key×V)}{vs:List (Key×Value)}(z:kvs.length<=sizeLine)(hd:(a==sysModules)=false)(rel:KV kvs vs)(dd:h'.DictOf (aX P w) a vs):bw P w H' h' a (.dK kvs):=⟨z,hd,vs,rel,dd⟩
theorem zZ{H':Hp}{Q:Unit->Shared->Prop}(hu:A.units+1<cLine)(I:Inv X pins σ H s)(g:Vh H a y v H')(ry:RelV y u)(rv:RelV v r)(h:∀s',Inv X pins σ H' s'->Q () s'):wpAny (model X.prog X.w) A (setItem (.ref a) u r) Q E s:=by
 rcases g with⟨kvs,k,e,ey,l,eH⟩|⟨kvs,k,b,e,ey,eb,l,eH⟩
 . subst ey eH;obtain⟨z,hd,vs,rel,dd⟩:=JL I.hok e;have hz:vs.length<=sizeLine:=by rw[<-rel.length];exact z
   have hl:(putK kvs k v).length<=sizeLine:=by have:=iJ kvs k v;omega
   refine wpAny_setItem_pairs (hsz:=hz) (oM ry) dd fun h' Qw hs=>h _ ?_;have he:∃q,h'.get? a=some q:=let⟨q,_,_,hq,_⟩:=Qw;⟨q,hq⟩;exact rM I (by rw[e];exact True.intro) hs he (Er hl hd (rel.put k rv) Qw)
 . subst ey eH;cases(show u=Value.ref b from ry);obtain⟨z,hd,xs,rel,dd⟩:=U6 I.hok e;have hz:xs.length<=sizeLine:=by rw[<-Paired.length rel];exact z
   have hl:(putK kvs k v).length<=sizeLine:=by have:=iJ kvs k v;omega
   refine wpAny_setItem_heap (hsz:=hz) (tupleKind_room_in1 hu) (lO I.hok eb) dd fun h' Qw hs=>h _ ?_;obtain⟨q,es,ep,hq,h2,h3,h4,_,h5⟩:=Qw;refine rM I (by rw[e];exact True.intro) hs ⟨q,hq⟩ ⟨hl,hd,_,(rel.put k eb rv).keeps fun c ys ec=>?_,q,es,ep,hq,h2,h3,h4,h5⟩;rw[az (S7 ec e (fun z=>nomatch z))];exact ec
end
def Ia(i:Expr):Prop:=∀ov iv,subscripted i false ov iv=operate [ov,iv] (getItem ov iv)
theorem xQ{prog:Program}{w:World}{A:Around}{E:Value->Shared->Prop}{s:Shared}{env:Env}{value slice:Expr}{pos:Pos}{T id:String}{Q:Value->Shared->Prop}(hl:typeLookup (.type T) "__getitem__"=pure (some (.builtin id)))(hs:Ia slice)(h:wpAny (model prog w) A (eval value env) (fun o s₁=>wpAny (model prog w) A (eval slice env) (fun i s₂=>s₂.TypeIs o T/\wpAny (model prog w) A (getItem o i) Q E s₂) E s₁) E s):wpAny (model prog w) A (eval (.Subscript value slice pos) env) Q E s:=by
 refine Subscript_ (wpAny_mono h (fun o s₁ h₁=>wpAny_mono h₁ (fun i s₂ h₂=>?_) fun _ _ x=>x) fun _ _ x=>x);obtain⟨hT,h₂⟩:=h₂;unfold subscriptTail;refine wpAny_bind ?_;rw[getitemInPython_of_ne hT.not_modules];refine wpAny_bind (wpAny_specialOf hT hl ?_);have fin:wpAny (model prog w) A (subscripted slice false o i) (fun r s₃=>wpAny (model prog w) A (letTemporaryGo value o r>>=fun _=>pure r) Q E s₃) E s₂:=by rw[hs o i];exact wpAny_operating (wpAny_mono h₂ (fun r s₃ h₃=>wpAny_bind (wpAny_letTemporaryGo (wpAny_pure h₃))) fun _ _ x=>x)
 first|exact wpAny_pure (wpAny_bind fin)|exact wpAny_bind (wpAny_pure (wpAny_bind fin))|exact wpAny_bind fin
theorem iD{X:Cx}{pins:List (Addr×Obj)}{σ:St}{H:Hp}{s:Shared}{a:Addr}{y:V}{o:Option V}(I:Inv X pins σ H s)(g:lQ H a y o):s.TypeIs (.ref a) "dict":=by
 rcases g with⟨kvs,k,e,_,_⟩|⟨kvs,k,b,e,_,_,_⟩;.obtain⟨_,_,vs,_,dd⟩:=o6 I.hok e;exact dd.typeIs
 .obtain⟨_,_,xs,_,dd⟩:=o9 I.hok e;exact dd.typeIs
def Ua(td ty:TE):TE:=fun σ H Q=>td σ H fun x H1=>ty σ H1 fun y H2=>∃a v,x=.ref a/\lQ H2 a y (some v)/\Q v H2
def aaG(ty td:TE):TE:=fun σ H Q=>ty σ H fun y H1=>td σ H1 fun x H2=>∃a o,x=.ref a/\lQ H2 a y o/\Q (.bl o.isSome) H2
def Ha(ty td:TE):TE:=fun σ H Q=>ty σ H fun y H1=>td σ H1 fun x H2=>∃a o,x=.ref a/\lQ H2 a y o/\Q (.bl (!o.isSome)) H2
def T8(td ty tv:TE):TS:=fun D σ H=>tv σ H fun v H1=>td σ H1 fun x H2=>ty σ H2 fun y H3=>∃a H4,x=.ref a/\Vh H3 a y v H4/\D.nx σ H4
section
variable{X:Cx}{o i e value:Expr}{pos pos' tpos:Pos}{td ty tv:TE}
theorem HS(hu:X.A.units+1<cLine)(ho:PE X o td)(hi:PE X i ty)(hs:Ia i):PE X (.Subscript o i pos) (Ua td ty):=by intro pins s σ H Q I h;refine xQ PySem.F.slot_dict_getitem.lookup hs (bL (ho pins s σ H _ I h) fun u s1⟨x,H1,I1,rx,q1⟩=>bL (hi pins s1 σ H1 _ I1 q1) fun iv s2⟨y,H2,I2,ry,a,v,ex,g,q2⟩=>?_);subst ex;obtain rfl:u=Value.ref a:=rx;exact⟨iD I2 g,lD hu I2 g ry fun w' s3 I3 u9=>⟨v,H2,I3,u9,q2⟩⟩
theorem N7(hu:X.A.units+1<cLine)(hi:PE X i ty)(ho:PE X o td):PC X .In i o (aaG ty td):=by intro pins s σ H Q I h;refine bL (hi pins s σ H _ I h) fun iv s1⟨y,H1,I1,ry,q1⟩=>bL (ho pins s1 σ H1 _ I1 q1) fun u s2⟨x,H2,I2,rx,a,ov,ex,g,q2⟩=>?_;subst ex;obtain rfl:u=Value.ref a:=rx;exact Vv hu I2 g ry fun s3 I3=>⟨.bl ov.isSome,H2,I3,rfl,q2⟩
theorem Ax(hu:X.A.units+1<cLine)(hi:PE X i ty)(ho:PE X o td):PC X .NotIn i o (Ha ty td):=by intro pins s σ H Q I h;refine bL (hi pins s σ H _ I h) fun iv s1⟨y,H1,I1,ry,q1⟩=>bL (ho pins s1 σ H1 _ I1 q1) fun u s2⟨x,H2,I2,rx,a,ov,ex,g,q2⟩=>?_;subst ex;obtain rfl:u=Value.ref a:=rx;exact zf hu I2 g ry fun s3 I3=>⟨.bl (!ov.isSome),H2,I3,rfl,q2⟩
theorem xY(hu:X.A.units+1<cLine)(ho:PE X o td)(hi:PE X i ty)(hv:PE X value tv)(hs:swapsWith value (some (.Subscript o i pos')) pos.line X.env=pure false):PS X (.Assign [.Subscript o i pos'] value pos) (T8 td ty tv):=by intro pins s σ H D I h;refine wpAny_Assign_Subscript (bL (hv pins s σ H _ I h) fun r s1⟨v,H1,I1,rv,q1⟩=>bL (ho pins s1 σ H1 _ I1 q1) fun u s2⟨x,H2,I2,rx,q2⟩=>bL (hi pins s2 σ H2 _ I2 q2) fun iv s3⟨y,H3,I3,ry,a,H4,ex,g,q3⟩=>?_) hs;subst ex;obtain rfl:u=Value.ref a:=rx;exact zZ hu I3 g ry rv fun s4 I4=>⟨σ,H4,I4,q3⟩
end
theorem uC{P:Program}{w:World}{H:Hp}(h:Heap)(hb:sysModules<h.objs.size):bw P w H (h.push {cls:=.type "dict",data:=.dict #[]}) h.objs.size (.dK []):=⟨zero_le _,beq_eq_false_iff_ne.mpr (Ne.symm (ne_of_lt hb)),[],.nil,Heap.DictOf.new h⟩
def Qp:TE:=fun _ H Q=>∀p,H p=none->Q (.ref p) (upd H p (.dK []))
section
variable{X:Cx}{pos:Pos}
theorem uK:PE X (.Dict [] [] pos) Qp:=fun pins s σ H Q I h=>wpAny_Dict_empty ⟨.ref s.heap.objs.size,_,I.laid (a:=s.heap.objs.size) (o:=.dK []) (t':=s.toks) (fun _ _ q=>get?_push_of_some _ q) (le_refl _) (uC s.heap I.big),rfl,h _ (I.hok.fresh (le_refl _))⟩
end
def v9:List (TE×TE)->St->Hp->(List (V×V)->Hp->Prop)->Prop|[],_,H,Q=>Q [] H|(tk,tv)::r,σ,H,Q=>tk σ H fun x H1=>tv σ H1 fun y H2=>v9 r σ H2 fun ps H3=>Q ((x,y)::ps) H3
abbrev VV:List (V×V)->List (Value×Value)->Prop:=Paired fun p q=>RelV p.1 q.1/\RelV p.2 q.2
def XH(X:Cx)(pos:Pos)(keys:List (Option Expr))(values:List Expr)(JD:List (TE×TE)):Prop:=∀(pins:List (Addr × Obj))(s:Shared)(σ:St)(H:Hp)(Q:List (V × V)->Hp->Prop),Inv X pins σ H s->v9 JD σ H Q->wpAny (model X.prog X.w) X.A (evalPairs (pairTrees keys values X.env pos)) (fun vs s'=>∃ps H',Inv X pins σ H' s'/\VV ps vs/\Q ps H') X.xe s
theorem Ju{X:Cx}{pos:Pos}:XH X pos [] [] []:=fun pins s σ H Q I h=>pairTrees_nil_walk ⟨[],H,I,.nil,h⟩
theorem CJ{X:Cx}{pos:Pos}{k v:Expr}{ks:List (Option Expr)}{vs:List Expr}{tk tv:TE}{JD:List (TE×TE)}(hk:PE X k tk)(hv:PE X v tv)(hr:XH X pos ks vs JD):XH X pos (some k::ks) (v::vs) ((tk,tv)::JD):=fun pins s σ H Q I h=>pairTrees_cons_walk (bL (hk pins s σ H _ I h) fun u s1⟨x,H1,I1,rx,q1⟩=>bL (hv pins s1 σ H1 _ I1 q1) fun w2 s2⟨y,H2,I2,ry,q2⟩=>bL (hr pins s2 σ H2 _ I2 q2) fun ws s3⟨ps,H3,I3,rel,q3⟩=>⟨(x,y)::ps,H3,I3,.cons ⟨rx,ry⟩ rel,q3⟩)
noncomputable def lC(kvs more:List (Key×V)):List (Key×V):=more.foldl (fun acc kv=>putK acc kv.1 kv.2) kvs
theorem KV.merge:∀{more:List (Key×V)}{rs:List (Key×Value)}{kvs:List (Key×V)}{vs:List (Key×Value)},KV more rs->KV kvs vs->KV (lC kvs more) (merged vs rs):=by intro more rs kvs vs r;unfold KV at r;induction r generalizing kvs vs with|nil=>intro q;exact q|@cons p q ps qs h t ih=>
   intro r0;have e:KV (putK kvs p.1 p.2) (stored vs q.1 q.2):=by have:=r0.put p.1 h.2;rw[<-h.1];exact this
   exact ih e
theorem jt:∀(more kvs:List (Key×V)),(lC kvs more).length<=kvs.length+more.length|[],kvs=>by show kvs.length<=kvs.length+0;omega|p::r,kvs=>by have h1:=jt r (putK kvs p.1 p.2);have h2:=iJ kvs p.1 p.2;show(lC (putK kvs p.1 p.2) r).length<=_;rw[length_cons];omega
theorem oY{P:Program}{w:World}:∀{kvs:List (Key×V)}{ws:List (Value×Value)},VV (kvs.map fun kv=>(kV kv.1,kv.2)) ws->∃rs,Carries (aX P w) ws rs/\KV kvs rs|[],_,r=>by rw[map_nil]at r;cases r;exact⟨[],True.intro,.nil⟩|p::kvs,_,r=>by rw[map_cons]at r;cases r with|@cons a b as bs h t=>obtain⟨rs,c,q⟩:=oY (P:=P) (w:=w) t;obtain⟨b1,b2⟩:=b;exact⟨(p.1,b2)::rs,⟨oM h.1,rfl,c⟩,.cons ⟨rfl,h.2⟩ q⟩
def Uc(JD:List (TE×TE)):TE:=fun σ H Q=>∀p,H p=none->v9 JD σ (upd H p (.dK [])) fun ps H2=>H2 p=some (.dK [])/\∃kvs:List (Key×V),ps=kvs.map (fun kv=>(kV kv.1,kv.2))/\kvs.length<=15/\Q (.ref p) (upd H2 p (.dK (lC [] kvs)))
theorem Ig{X:Cx}{pos:Pos}{keys:List (Option Expr)}{values:List Expr}{JD:List (TE×TE)}(h:XH X pos keys values JD)(hall:keys.all (·.isSome)=true)(hl:keys.length=values.length)(h0:keys≠[])(h15:keys.length<=15):PE X (.Dict keys values pos) (Uc JD):=by
 intro pins s σ H Q I q;have hn:=I.hok.fresh (le_refl s.heap.objs.size);have I1:=I.laid (a:=s.heap.objs.size) (o:=.dK []) (h':=s.heap.push {cls:=.type "dict",data:=.dict #[]}) (t':=s.toks) (fun _ _ q=>get?_push_of_some _ q) (le_refl _) (uC s.heap I.big);refine wpAny_Dict_walk (knd:=aX X.prog X.w) hall hl h0 h15 (bL (h pins _ σ _ _ I1 (q _ hn)) fun ws s2⟨ps,H2,I2,rel,e,kvs,ep,lk,q2⟩=>?_);subst ep;obtain⟨rs,c,rk⟩:=oY (P:=X.prog) (w:=X.w) rel;obtain⟨z,hd,Sw,r0,dd⟩:=JL I2.hok e;cases r0;refine⟨rs,c,dd,fun h' Qw hs=>⟨.ref s.heap.objs.size,_,?_,rfl,q2⟩⟩;have hz:(lC [] kvs).length<=sizeLine:=by have h1:=jt kvs [];rw[length_nil]at h1;rw[sizeLine_eq];omega
 have he:∃q,h'.get? s.heap.objs.size=some q:=let⟨q,_,_,hq,_⟩:=Qw;⟨q,hq⟩;exact rM I2 (by rw[e];exact True.intro) hs he (Er hz hd (rk.merge .nil) Qw)
structure M2(X:Cx)(o:Expr)(m:Str)(apos:Pos)(e f:Expr)(cpos:Pos):Prop where
 base:attributeBase o m X.env (eval o X.env)=eval o X.env
 few:((backTo cpos (starEach [e,f] X.env)).all (fun x=>!x.1)&&(backToKw cpos (keywordEach [] X.env)).all (fun x=>x.1.isSome)&&decide (([e,f]:List Expr).length+([]:List Keyword).length+(if([]:List Keyword).isEmpty then 0 else 1)<30))=true
 line:(apos.endLine==cpos.line)=true
 trees:backTo cpos (starEach [e,f] X.env)=[(false,eval e X.env),(false,eval f X.env)]
def IsD(H:Hp)(a:Addr):Prop:=(∃kvs,Rd H a (.dK kvs))\/∃kvs,Rd H a (.dT kvs)
theorem NT{X:Cx}{pins:List (Addr×Obj)}{σ:St}{H:Hp}{s:Shared}{a:Addr}(I:Inv X pins σ H s)(d:IsD H a):s.TypeIs (.ref a) "dict"/\(∀b,Value.ref a=.ref b->∃ob,s.heap.get? b=some ob/\ob.dict=none)/\(a==sysModules)=false:=by
 rcases d with⟨kvs,e⟩|⟨kvs,e⟩;.obtain⟨_,hd,vs,_,dd⟩:=o6 I.hok e;refine⟨dd.typeIs,fun b q=>?_,hd⟩;cases q;obtain⟨ob,_,_,h1,h2,_⟩:=dd;exact⟨ob,h1,h2.2.1⟩
 .obtain⟨_,hd,xs,_,dd⟩:=o9 I.hok e;refine⟨dd.typeIs,fun b q=>?_,hd⟩;cases q;obtain⟨ob,_,_,h1,h2,_⟩:=dd;exact⟨ob,h1,h2.2.1⟩
section
variable{X:Cx}{pins:List (Addr×Obj)}{σ:St}{H:Hp}{s:Shared}{a:Addr}{y d:V}{u r:Value}{o:Option V}{A:Around}{E:Value->Shared->Prop}
theorem Lj{Q:Value->Shared->Prop}(hu:A.units+1<cLine)(I:Inv X pins σ H s)(g:lQ H a y o)(ry:RelV y u)(rd:RelV d r)(h:∀w' s',Inv X pins σ H s'->RelV (o.getD d) w'->Q w' s'):wpAny (model X.prog X.w) A (call (.builtin "dict.get") [.ref a,u,r]) Q E s:=by
 rcases g with⟨kvs,k,e,ey,l⟩|⟨kvs,k,b,e,ey,eb,l⟩;.subst ey;obtain⟨z,hd,vs,rel,dd⟩:=o6 I.hok e;refine call_meetsIn slot_dict_get dd.typeIs PySem.F.entry_dict_get (PySem.F.args_dict_get_3 _ _ _) (meets_dict_get_default (aX X.prog X.w) a (oM ry) hd r) ⟨_,dd.mapOf,h _ _ (I.tok _) ?_⟩;rw[l];exact(rel.val k).getD rd
 .subst ey;cases(show u=Value.ref b from ry);obtain⟨z,hd,xs,rel,dd⟩:=o9 I.hok e;refine call_meetsIn slot_dict_get dd.typeIs PySem.F.entry_dict_get (PySem.F.args_dict_get_3 _ _ _) (meetsH_dict_get_default (tupleKind (aX X.prog X.w)) a b hd r) ⟨tupleKind_room_in1 hu,k,xs,lO I.hok eb,dd,h _ _ (I.tok _) ?_⟩;rw[l];exact(rel.val k).getD rd
end
def Mr(td ty tx:TE):TE:=fun σ H Q=>td σ H fun x H1=>∃a,x=.ref a/\IsD H1 a/\ty σ H1 fun y H2=>tx σ H2 fun z H3=>∃o,lQ H3 a y o/\Q (o.getD z) H3
section
variable{X:Cx}{o e f:Expr}{apos cpos:Pos}{td ty tx:TE}
theorem Dt(hu:X.A.units+1<cLine)(ho:PE X o td)(he:PE X e ty)(hf:PE X f tx)(m:M2 X o "get" apos e f cpos):PE X (.Call (.Attribute o "get" apos) [e,f] [] cpos) (Mr td ty tx):=by intro pins s σ H Q I h;refine wpAny_Call_method m.base m.few m.line PySem.F.plainAttrs_dict slot_dict_get PySem.F.type_dict_get (bL (ho pins s σ H _ I h) fun u s1⟨x,H1,I1,rx,a,ex,d,q1⟩=>?_);subst ex;obtain rfl:u=Value.ref a:=rx;obtain⟨t1,t2,_⟩:=NT I1 d;refine⟨t1,t2,?_⟩;rw[m.trees];refine Calls.callWith_builtin rfl (Calls.evalArgs_plain (Calls.spliced_cons (bL (he pins s1 σ H1 _ I1 q1) fun iv s2⟨y,H2,I2,ry,q2⟩=>Calls.spliced_cons (bL (hf pins s2 σ H2 _ I2 q2) fun fv s3⟨z,H3,I3,rz,ov,g,q3⟩=>Calls.spliced_nil ?_))));exact Lj hu I3 g ry rz fun w' s4 I4 u9=>⟨_,H3,I4,u9,q3⟩
end
end L2
namespace Yw
open PySem PySem.W PySem.Calls PyProof.Rows
end Yw
namespace L2
open PySem PySem.Spec PyProof.Rows
end L2
end
section
namespace HH
open PySem L2 PySem.Spec PyProof.Rows
inductive KR(K:PySem.W.Frag)(F:Hp):List (Int×D)->List (Key×V)->Prop where|nil:KR K F [] []|cons{k:Int}{d:D}{v:V}{kvs:List (Int×D)}{es:List (Key×V)}(h:Rep K F v d)(t:KR K F kvs es):KR K F ((k,d)::kvs) ((Sum.inl k,v)::es)
section
variable{K:PySem.W.Frag}{F F':Hp}
noncomputable def ent(ks:List Int)(vs:List V):List (Key×V):=(ks.zip vs).map fun p=>(Sum.inl p.1,p.2)
theorem KR.of:∀{kvs:List (Int×D)}{vs:List V},aF K F vs (kvs.map (·.2))->KR K F kvs (ent (kvs.map (·.1)) vs)|[],vs,h=>by rw[map_nil]at h;rw[h.fP];exact .nil|(k,d)::kvs,vs,h=>by obtain⟨v,r,rfl,h1,h2⟩:=h.cj;exact .cons h1 (KR.of h2)
theorem KR.to{kvs:List (Int×D)}{es:List (Key×V)}(h:KR K F kvs es):∃vs,es=ent (kvs.map (·.1)) vs/\aF K F vs (kvs.map (·.2)):=by induction h with|nil=>exact⟨[],rfl,.nil⟩|@cons k d v kvs es h t ih=>obtain⟨vs,rfl,r⟩:=ih;exact⟨v::vs,rfl,.cons h r⟩
theorem KR.oc{kvs:List (Int×D)}{es:List (Key×V)}(h:KR K F kvs es):jw K F (.dK es) (.v kvs):=by obtain⟨vs,rfl,r⟩:=h.to;exact⟨vs,rfl,r⟩
theorem KR.O8{kvs:List (Int×D)}{o:HO}(h:jw K F o (.v kvs)):∃es,o=.dK es/\KR K F kvs es:=by obtain⟨vs,rfl,r⟩:=h;exact⟨_,rfl,.of r⟩
theorem KR.len{kvs:List (Int×D)}{es:List (Key×V)}(h:KR K F kvs es):es.length=kvs.length:=by induction h with|nil=>rfl|cons h t ih=>simp[ih]
theorem KR.get{kvs:List (Int×D)}{es:List (Key×V)}{k:Int}{d:D}(h:KR K F kvs es)(e:lK kvs k=some d):∃v,gZ es (Sum.inl k:Key)=some v/\Rep K F v d:=by induction h with|nil=>cases e|@cons j d' v kvs es h t ih=>
   unfold lK at e ih;rw[find?_cons]at e;by_cases c:j=k;.simp[c]at e;subst e;exact⟨v,kO (by rw[c]),h⟩
   .simp[c]at e;obtain⟨v',h1,h2⟩:=ih (by simpa using e);exact⟨v',by rw[j4 (by simpa using c)];exact h1,h2⟩
theorem KR.any{kvs:List (Int×D)}{es:List (Key×V)}(k:Int)(h:KR K F kvs es):(es.any fun kv=>decide (kv.1=(Sum.inl k:Key)))=kvs.any fun p=>decide (p.1=k):=by induction h with|nil=>rfl|cons h t ih=>simp[ih]
theorem KR.has{kvs:List (Int×D)}{es:List (Key×V)}(k:Int)(h:KR K F kvs es):(gZ es (Sum.inl k:Key)).isSome=(kvs.map (·.1)).contains k:=by rw[<-nU,h.any k];induction h with|nil=>rfl|@cons j d v kvs es h t ih=>rw[any_cons,ih,map_cons,List.contains_cons];congr 1;exact Bool.eq_iff_iff.mpr ⟨fun z=>by simp at z ⊢;exact z.symm,fun z=>by simp at z ⊢;exact z.symm⟩
theorem KR.repl{kvs:List (Int×D)}{es:List (Key×V)}{k:Int}{d:D}{v:V}(r:Rep K F v d)(h:KR K F kvs es):KR K F (kvs.map fun p=>if p.1=k then(p.1,d)else p) (es.map fun kv=>if kv.1=(Sum.inl k:Key)then(kv.1,v)else kv):=by induction h with|nil=>exact .nil|@cons j d' v' kvs es h t ih=>
   by_cases c:j=k;.subst c;simp;exact .cons r ih
   . have:¬(Sum.inl j:Key)=Sum.inl k:=by simpa using c
     simp[c,this];exact .cons h ih
theorem KR.snoc{kvs:List (Int×D)}{es:List (Key×V)}{k:Int}{d:D}{v:V}(r:Rep K F v d)(h:KR K F kvs es):KR K F (kvs++[(k,d)]) (es++[(Sum.inl k,v)]):=by induction h with|nil=>exact .cons r .nil|cons h t ih=>exact .cons h ih
theorem KR.put{kvs:List (Int×D)}{es:List (Key×V)}{k:Int}{d:D}{v:V}(r:Rep K F v d)(h:KR K F kvs es):KR K F (fZ kvs k d) (putK es (Sum.inl k:Key) v):=by
 unfold fZ putK;rw[h.any k];split;.exact h.repl r
 .exact h.snoc r
theorem KR.zip{ks:List Int}{ds:List D}{vs:List V}(h:aF K F vs ds)(hl:ks.length=ds.length):KR K F (ks.zip ds) (ent ks vs):=by induction ds generalizing ks vs with
 |nil=>rw[h.fP];cases ks with|nil=>exact .nil|cons _ _=>simp at hl
 |cons d ds ih=>obtain⟨v,r,rfl,h1,h2⟩:=h.cj;cases ks with|nil=>simp at hl|cons k ks=>exact .cons h1 (ih h2 (by simpa using hl))
end
section
variable{K:PySem.W.Frag}{F F1 H H1:Hp}{ρ ρ1 ρ2:List Sl}{σ σ1:L2.St}
theorem GS.YZ{x:Nat}{m m':Dc}{a:Addr}(g:GS K F ρ σ H)(e:ρ[x]?=some (.fO m))(hx:σ[x]?=some (some (.ref a))):aq K F ρ σ H F (ρ.set x (.fO m')) σ (upd H a m'.ho):=by
 have hi:x<ρ.length:=(List.getElem?_eq_some_iff.mp e).1;have oa:aQ ρ σ x a:=⟨⟨_,_,e,rfl⟩,hx⟩;obtain⟨a',o0,h1,h2,h3,h4⟩:=g.own x _ _ e rfl;rw[hx]at h1;cases h1;have old:∀{j:Nat}{c:Addr},aQ (ρ.set x (.fO m')) σ j c->aQ ρ σ j c:=fun{j c}⟨⟨t,dt,q1,q2⟩,q3⟩=>by
  by_cases hj:j=x;.subst hj;exact⟨⟨_,_,e,rfl⟩,q3⟩
  .rw[getElem?_set_ne (Ne.symm hj)]at q1;exact⟨⟨t,dt,q1,q2⟩,q3⟩
 refine⟨⟨fun c o q=>?_,by simp[g.len],fun j b' d q=>?_,fun j t dt q q'=>?_,fun j k c q1 q2=>g.dis j k c (old q1) (old q2)⟩,.refl _,fun c n n'=>absurd n n',fun c o q n=>?_,fun c⟨j,q⟩=>.inl ⟨j,old q⟩,by simp,fun j t q l=>⟨rfl,?_⟩⟩
 . have:c≠a:=by rintro rfl;rw[h3]at q;cases q
   rw[az this];exact g.sub c o q
 . by_cases hj:j=x;.subst hj;rw[getElem?_set_self hi]at q;cases q
   .rw[getElem?_set_ne (Ne.symm hj)]at q;exact g.val j b' d q
 . by_cases hj:j=x;.subst hj;rw[getElem?_set_self hi]at q;cases q;cases q';exact⟨a,_,hx,aJ,h3,rfl⟩
   . rw[getElem?_set_ne (Ne.symm hj)]at q;obtain⟨c,zs,w1,w2,w3,w4⟩:=g.own j t dt q q';have:c≠a:=by rintro rfl;exact hj (g.dis j x c ⟨⟨t,dt,q,q'⟩,w1⟩ oa)
     exact⟨c,zs,w1,by rw[az this];exact w2,w3,w4⟩
 . have:c≠a:=by rintro rfl;exact n ⟨x,oa⟩
   rw[az this];exact q
 . by_cases hj:j=x;.subst hj;rw[e]at q;cases q;cases l
   .exact⟨t,by rw[getElem?_set_ne (Ne.symm hj)];exact q,.refl t⟩
theorem GS.newD{i:Nat}{m:Dc}{a:Addr}(g:GS K F ρ σ H)(e:ρ[i]?=some .aU)(ha:H a=none):aq K F ρ σ H F (ρ.set i (.fO m)) (σ.set i (some (.ref a))) (upd H a m.ho):=by
 have hi:i<ρ.length:=(List.getElem?_eq_some_iff.mp e).1;have hi':i<σ.length:=by rw[<-g.len];exact hi
 have fa:F a=none:=by cases q:F a with|none=>rfl|some o=>rw[g.sub a o q]at ha;cases ha
 have old:∀{j:Nat}{c:Addr},j≠i->aQ (ρ.set i (.fO m)) (σ.set i (some (.ref a))) j c->aQ ρ σ j c:=fun{j c}hj⟨⟨t,ds,e1,e2⟩,e3⟩=>by rw[getElem?_set_ne (Ne.symm hj)]at e1 e3;exact⟨⟨t,ds,e1,e2⟩,e3⟩
 have new:∀{c:Addr},aQ (ρ.set i (.fO m)) (σ.set i (some (.ref a))) i c->c=a:=fun{c}⟨_,e3⟩=>by rw[getElem?_set_self hi']at e3;cases e3;rfl
 have no:∀{j:Nat},¬ aQ ρ σ j a:=fun{j}⟨⟨t,ds,e1,e2⟩,e3⟩=>by obtain⟨c,o,q1,q2,_⟩:=g.own j t ds e1 e2;rw[e3]at q1;cases q1;rw[ha]at q2;cases q2
 refine⟨⟨fun c o q=>?_,by simp[g.len],fun j b' d q=>?_,fun j t dt q q'=>?_,fun j k c q1 q2=>?_⟩,.refl _,fun c n n'=>absurd n n',fun c o q n=>?_,fun c⟨j,q⟩=>?_,by simp,fun j t q l=>?_⟩
 . have:c≠a:=by rintro rfl;rw[fa]at q;cases q
   rw[az this];exact g.sub c o q
 . by_cases hj:j=i;.subst hj;rw[getElem?_set_self hi]at q;cases q
   .rw[getElem?_set_ne (Ne.symm hj)]at q ⊢;exact g.val j b' d q
 . by_cases hj:j=i;.subst hj;rw[getElem?_set_self hi]at q;cases q;cases q';exact⟨a,_,getElem?_set_self hi',aJ,fa,rfl⟩
   . rw[getElem?_set_ne (Ne.symm hj)]at q ⊢;obtain⟨c,o,w1,w2,w3,w4⟩:=g.own j t dt q q';have:c≠a:=by rintro rfl;rw[ha]at w2;cases w2
     exact⟨c,o,w1,by rw[az this];exact w2,w3,w4⟩
 . by_cases hj:j=i
   . by_cases hk:k=i;.rw[hj,hk]
     .subst hj;rw[new q1]at q2;exact absurd (old hk q2) no
   . by_cases hk:k=i;.subst hk;rw[new q2]at q1;exact absurd (old hj q1) no
     .exact g.dis j k c (old hj q1) (old hk q2)
 . have:c≠a:=by rintro rfl;rw[ha]at q;cases q
   rw[az this];exact q
 . by_cases hj:j=i;.subst hj;rw[new q];exact .inr ha
   .exact .inl ⟨j,old hj q⟩
 . have hj:j≠i:=by rintro rfl;rw[e]at q;cases q;cases l
   exact⟨by rw[getElem?_set_ne (Ne.symm hj)],t,by rw[getElem?_set_ne (Ne.symm hj)];exact q,.refl t⟩
end
noncomputable def pN(p:Int×Int):Key×V:=(Sum.inl p.1,V.int p.2)
theorem Du(i:Int):∀kvs:List (Int×Int),gZ (kvs.map pN) (Sum.inl i:Key)=((kvs.find? fun kv=>decide (kv.1=i)).map (·.2)).map V.int
 |[]=>rfl|p::kvs=>by
   have ih:=Du i kvs;unfold gZ at ih ⊢;rw[map_cons,find?_cons,find?_cons];by_cases h:p.1=i
   . have e:decide ((pN p).1=(Sum.inl i:Key))=true:=by simp[pN,h]
     rw[e];simp[h,pN]
   . have e:decide ((pN p).1=(Sum.inl i:Key))=false:=by simp[pN,h]
     rw[e];simp only[h,decide_false];exact ih
theorem Pb(i v:Int)(kvs:List (Int×Int)):putK (kvs.map pN) (Sum.inl i:Key) (V.int v)=(putD kvs i v).map pN:=by
 have e:((kvs.map pN).any fun kv=>decide (kv.1=(Sum.inl i:Key)))=kvs.any fun kv=>decide (kv.1=i):=by rw[List.any_map];congr 1;funext p;simp[pN]
 unfold putK putD;rw[e];split
 . rw[map_map,map_map];refine map_congr_left fun p _=>?_;by_cases h:p.1=i;.simp[pN,h]
   .simp[pN,h]
 .rw[map_append];rfl
section
variable{X:Cx}{c:Call}{n:Nat}{a b e:Expr}{pa pb p:P}{pos:Pos}
theorem Cz{H:Hp}{q:Addr}{m:Dc}{i:Int}{o:Option Int}(h:Rd H q m.ho)(e:m.get (.int i)=some o):lQ H q (.int i) (o.map V.int):=by cases m with|k kvs=>cases e;exact .inl ⟨kvs.map pN,Sum.inl i,h,rfl,(Du i kvs).symm⟩|t kvs=>cases e
theorem rO(hu:X.A.units+8<cLine)(ha:SX X c a pa)(hb:SX X c b pb)(hs:Ia b):SX X c (.Subscript a b pos) (.bin .Bb pa pb):=by refine vU (f:=yS) (fun h1 h2=>?_) ha hb (fun ρ=>rfl) rfl;intro pins s σ H Q I h;refine xQ PySem.F.slot_dict_getitem.lookup hs (bL (h1 pins s σ H _ I h) fun u s1⟨x,H1,I1,rx,q1⟩=>bL (h2 pins s1 σ H1 _ I1 q1) fun iv s2⟨y,H2,I2,ry,q2⟩=>?_);obtain⟨F,d,e,r,sm,px,py,he,k⟩:=q2;cases d with
 |dw m=>have zz:=bU (show(m.get e).bind (fun o=>o.map fun v=>R.val (.int v))=some r from he);clear he;obtain⟨o,e1,he⟩:=zz;cases o with|none=>cases he|some v=>
     cases he;obtain⟨i,rfl⟩:∃i,e=.int i:=by cases m with|t kvs=>cases e<;>cases e1|k kvs=>cases e<;>first|exact⟨_,rfl⟩|cases e1
     obtain⟨q,ob,rfl,hq⟩:=px.dw sm;rw[py.int]at ry;obtain rfl:u=Value.ref q:=rx;have g:=Cz (.inr ⟨ob,hq⟩) e1;exact⟨iD I2 g,lD (by omega) I2 g ry fun w' s3 I3 u9=>⟨.int v,H2,I3,u9,bN.cu sm (bA _) k⟩⟩
 |dv ks ds=>cases e with|int j=>obtain⟨d',e5,he⟩:=map_some (show(lK (ks.zip ds) j).map R.val=some r from he);subst he;obtain⟨q,ob,vs,rfl,hq,rs,hl⟩:=px.dv sm;obtain⟨v',g1,g2⟩:=(KR.zip rs hl).get e5;rw[py.int]at ry;obtain rfl:u=Value.ref q:=rx;have g:lQ H2 q (.int j) (some v'):=.inl ⟨_,Sum.inl j,.inr ⟨ob,hq⟩,rfl,g1.symm⟩;exact⟨iD I2 g,lD (by omega) I2 g ry fun w' s3 I3 u9=>⟨v',H2,I3,u9,bN.cu sm g2 k⟩⟩|_=>cases he
 |_=>cases he
theorem G4{i:Nat}{x:Str}{pos' p2:Pos}(hN:X.N.Nodup)(hi:X.N[i]?=some x)(hx:Loc X.env.scope x)(hs:swapsWith (.Dict [] [] p2) (some (.Name x pos')) pos.line X.env=pure false:=by rfl)(hf:X.fn x=true\/X.env.scope.names.lookup x=some .local:=by first|exact .inl rfl|exact .inr rfl|assumption):SS X c n (.Assign [.Name x pos'] (.Dict [] [] p2) pos) (.Ge i false):=by
 refine dB (vQ hN hi hx uK hs hf) ?_;rintro D σ H⟨F,ρ,fl,ρ',g,e,k⟩;rw[HH.X17]at e;split at e;.rename_i q;cases e;exact fun a ha=>k F _ _ (g.newD (m:=.k []) q ha)
 .cases e
theorem Qe{i:Nat}{x:Str}{px apos cpos:Pos}{pk pd:P}(hu:X.A.units+8<cLine)(hN:X.N[i]?=some x)(hv:tu X.env.scope x)(ha:SX X c a pk)(hb:SX X c b pd)(m:M2 X (.Name x px) "get" apos a b cpos)(hd:(x==("__debug__":Str))=false:=by decide)(hcd:(x==("__classdict__":Str))=false:=by decide):SX X c (.Call (.Attribute (.Name x px) "get" apos) [a,b] [] cpos) (.Ss i pk pd):=by
 obtain⟨ta,h1,h2⟩:=ha.bW;obtain⟨tb,h3,h4⟩:=hb.bW;refine⟨fJ (Dt (by omega) (dN hN hv hd hcd) h1 h3 m) ?_,fun i h=>by cases h⟩;rintro σ H Q⟨F,ρ,r,ρ',g,e,k⟩;rw[HH.E21]at e;split at e
 . rename_i m0 q;obtain⟨kd,ρ1,e1,eA⟩:=aa e;clear e;obtain⟨dd,ρ2,e2,eB⟩:=aa eA;clear eA;obtain⟨a0,o0,w1,w2,w3,w4⟩:=g.own i _ _ q rfl;refine⟨.ref a0,w1,a0,rfl,?_,?_⟩;.cases(show o0=m0.ho from w4);cases m0 with|k kvs=>exact .inl ⟨_,.inl w2⟩|t kvs=>exact .inr ⟨_,.inl w2⟩
   . refine h2 g e1 fun v F1 H1 s1 pv=>h4 s1.gs e2 fun z F2 H2 s2 pz=>?_;split at eB
     . rename_i m1 q1;obtain⟨eC,e3⟩:=aG eB;clear eB;subst e3;obtain⟨o,e4,eD⟩:=bU eC;clear eC;obtain⟨w,e5,e6⟩:=map_some eD;subst e6;obtain⟨a1,o1,y1,y2,y3,y4⟩:=s2.gs.own i _ _ q1 rfl;rw[w1]at y1;cases y1;cases(show o1=m1.ho from y4);obtain⟨j,rfl⟩:∃j,kd=.int j:=by cases m1 with|t kvs=>cases kd<;>cases e4|k kvs=>cases kd<;>first|exact⟨_,rfl⟩|cases e4
       rw[cQ e5]at pz;rw[pv.int,pz.int];refine⟨o.map V.int,Cz (.inl y2) e4,?_⟩;have:(o.map V.int).getD (V.int w)=V.int (o.getD w):=by cases o<;>rfl
       rw[this];exact k _ F2 H2 (s1.trans s2) (show Rep X.K F2 _ _ from bA _)
     .cases eB
 .cases e
theorem Jm{i:Nat}{x:Str}{px pos':Pos}{pk:P}(hu:X.A.units+8<cLine)(hN:X.N[i]?=some x)(hv:tu X.env.scope x)(ha:SX X c a pk)(he:SX X c e p)(hs:swapsWith e (some (.Subscript (.Name x px) a pos')) pos.line X.env=pure false:=by rfl)(hd:(x==("__debug__":Str))=false:=by decide)(hcd:(x==("__classdict__":Str))=false:=by decide):SS X c n (.Assign [.Subscript (.Name x px) a pos'] e pos) (.dput i pk p):=by
 obtain⟨ta,h1,h2⟩:=ha.bW;refine dB (xY (by omega) (dN hN hv hd hcd) h1 he.ev hs) ?_;rintro D σ H⟨F,ρ,fl,ρ',g,e,k⟩;rw[HH.X18]at e;obtain⟨r,ρ1,e1,eA⟩:=aa e;clear e;refine⟨F,ρ,r,ρ1,g,e1,fun v F1 H1 s1 rr=>?_⟩;split at eA
 . rename_i m0 q0;obtain⟨kd,ρ2,e2,eB⟩:=aa eA;clear eA;obtain⟨a0,o0,w1,w2,w3,w4⟩:=s1.gs.own i _ _ q0 rfl;refine⟨.ref a0,w1,h2 s1.gs e2 fun y F2 H2 s2 py=>?_⟩;split at eB
   . rename_i m w q;split at eB;.rename_i m' e4;cases eB;obtain⟨a1,o1,y1,y2,y3,y4⟩:=s2.gs.own i _ _ q rfl;rw[w1]at y1;cases y1;cases(show o1=m.ho from y4);cases(show v=.int w by have:Rep X.K F1 v (.int w):=rr;rwa[Rep]at this);refine⟨a0,upd H2 a0 m'.ho,rfl,?_,k F2 σ _ ((s1.trans s2).trans (s2.gs.YZ q w1))⟩;cases m with|t kvs=>cases kd<;>cases e4|k kvs=>cases kd with|int j=>obtain⟨hl,e4⟩:=bj (show(if kvs.length<lim then some (Dc.k (putD kvs j w))else none)=some m' from e4);subst e4;rw[py.int];refine .inl ⟨kvs.map pN,Sum.inl j,y2,rfl,by rw[length_map,sizeLine_eq];exact hl,?_⟩;rw[Pb];rfl|_=>cases e4
     .cases eB
   .cases eB
 .cases eA
end
end HH
end
section
namespace L2
open PySem PySem.Spec PyProof.Rows
noncomputable def Itk(a:Addr)(ob:Obj)(kvs:List (Key×V)):It:=⟨fun i H=>H a=some (.cG ob (.dK kvs))/\i<kvs.length,fun i H x H'=>H'=H/\∃p,kvs[i]?=some p/\x=kV p.1,fun i H=>H a=some (.cG ob (.dK kvs))/\kvs.length<=i⟩
theorem KV.get:∀{κ:Type}{kvs:List (κ×V)}{vs:List (κ×Value)}{i:Nat}{p:κ×V},KV kvs vs->kvs[i]?=some p->∃v,vs[i]?=some (p.1,v)|_,_,_,_,_,.nil,e=>by simp at e|_,_,_,0,_,.cons r _,e=>by simp at e;subst e;exact⟨_,by rw[List.getElem?_cons_zero,r.1]⟩|_,_,_,i+1,p,.cons _ t,e=>by obtain⟨v,h⟩:=KV.get (i:=i) (p:=p) t (by simpa using e);exact⟨v,by simpa using h⟩
theorem p8{X:Cx}{pins:List (Addr×Obj)}{σ:St}{H:Hp}{s:Shared}{a:Addr}{ob:Obj}{kvs:List (Key×V)}{es:Array DictEntry}{ep:Nat}(I:Inv X pins σ H s)(h:H a=some (.cG ob (.dK kvs)))(hd:ob.data=.dict es ep):(a==sysModules)=false/\∃vs,KV kvs vs/\s.heap.DictAt (aX X.prog X.w) a vs ep:=by obtain⟨ho,hz,hS,vs,r,dd⟩:=(show bw X.prog X.w H s.heap a (.cG ob (.dK kvs))from I.hok a _ h);obtain⟨o,es',ep',h1,h2,h3,h4⟩:=dd;rw[ho]at h1;cases h1;rw[hd]at h3;cases h3;exact⟨hS,vs,r,⟨ob,es,ho,h2,hd,h4⟩⟩
theorem PK{P:Program}{w:World}{k:Key}{u:Value}(h:(aX P w).is k u=true):RelV (kV k) u:=by
 rcases bu h with⟨i,t,rfl,rfl⟩|⟨x,t,rfl,rfl⟩;.exact⟨t,rfl⟩
 .exact⟨t,rfl⟩
theorem Am{P:Program}{w:World}{K:PySem.W.Frag}{tg:Expr}(a it:Addr)(ob:Obj)(kvs:List (Key×V))(es:Array DictEntry)(ep:Nat)(hd:ob.data=.dict es ep):Turn P w K tg (Itk a ob kvs) [it] it (fun i h=>h.IsKeyIter it a i kvs.length ep)where
 mem:=by simp
 obj:=fun i h st b hb=>by
  have e:b=it:=by simpa using hb
  subst e;obtain⟨o,e,c,d⟩:=st;exact⟨o,e,fun v z=>by rw[d]at z;cases z⟩
 keep:=fun i h h' st k=>st.at fun o e=>k it (by simp) o e;item:=by intro X hP hw hK hc i pins s σ H E I hf st hg;subst hP hw hK;obtain⟨hq,hi⟩:=hg;obtain⟨hS,vs,r,dd⟩:=p8 I hq hd;have hl:vs.length=kvs.length:=(Paired.length r).symm;obtain⟨v,hx⟩:=KV.get r (show kvs[i]?=some kvs[i]by simp[hi]);obtain⟨f0,f1,f2,f3,f4,f5⟩:=hf it (by simp);refine wpAny_pyNext_dict_item (by rw[hl];exact st) dd hx fun u h' hu st' sb=>?_;have I1:Inv X pins σ H {s with heap:=h'}:=I.turned (t':=s.toks) (fun b o hb e=>(sb.2 b hb).trans e) f0 f1 f3 f4 f5;rw[hl]at st';obtain⟨o,e,c,d⟩:=id st';exact⟨u,rfl,yR (s:={s with heap:=h'}) e c d (by decide) ⟨_,H,I1,PK hu,⟨rfl,_,by simp[hi],rfl⟩,st',fun b hb=>(hf b hb).1⟩⟩
 done:=by intro X hP hw hK hc i pins s σ H E I hf st hg;subst hP hw hK;obtain⟨hq,hi⟩:=hg;obtain⟨hS,vs,r,dd⟩:=p8 I hq hd;have hl:vs.length=kvs.length:=(Paired.length r).symm;obtain⟨f0,f1,f2,f3,f4,f5⟩:=hf it (by simp);refine wpAny_pyNext_dict_end (I.ok.hd hc) (by rw[hl];exact st) dd (by simp[hl,hi]) fun h' he=>⟨rfl,?_⟩;exact I.turned (t':=s.toks) (fun b o hb e=>he b o hb e) f0 f1 f3 f4 f5
 self:=fun A i s Q E st hQ=>wpAny_pyIter_keyiter st hQ
section
variable{X:Cx}{tg:Expr}
theorem Ib{l:Expr}{tl:TE}(hl:PE X l tl):PI X tg l (fun σ H R=>tl σ H fun x H1=>∃a ob kvs,x=.ref a/\H1 a=some (.cG ob (.dK kvs))/\R (Itk a ob kvs) H1):=by
 intro pins s σ H R I h;refine bL (hl pins s σ H _ I h) ?_;rintro v s1⟨x,H1,I1,r1,a,ob,kvs,e,hq,q⟩;subst e;cases r1;obtain⟨ho,hz,hS,vs,r,dd⟩:=(show bw X.prog X.w H1 s1.heap a (.cG ob (.dK kvs))from I1.hok a _ hq);obtain⟨o,es,ep,h1,h2,h3,h4⟩:=id dd;rw[ho]at h1;cases h1;have hlen:vs.length=kvs.length:=(Paired.length r).symm;refine wpAny_pyIter_dict (knd:=aX X.prog X.w) (kvs:=vs) (ep:=ep) hS ⟨ob,es,ho,h2,h3,h4⟩ ?_;refine⟨s1.heap.objs.size,[s1.heap.objs.size],_,_,H1,rfl,I1.kept (t':=s1.toks) fun b o e=>get?_push_of_some _ e,Am a _ ob kvs es ep h3,⟨_,get?_push_size _ rfl,rfl,by rw[hlen];rfl⟩,fun b hb=>?_,q⟩;have e:b=s1.heap.objs.size:=by simpa using hb
 subst e;exact I1.Ag (le_refl _) (I1.hok.fresh (le_refl _))
end
end L2
namespace HH
open PySem L2 PySem.Spec PyProof.Rows
section
variable{X:Cx}{c:Call}{tg e:Expr}{p:P}
theorem Ja{ks:List Int}{es:List (Key×V)}{j:Nat}{p:Key×V}{i:Int}(h:es.map (·.1)=ks.map (Sum.inl:Int->Key))(e1:es[j]?=some p)(e2:ks[j]?=some i):p.1=Sum.inl i:=by
 have:(es.map (·.1))[j]?=(ks.map (Sum.inl:Int->Key))[j]?:=by rw[h]
 rw[getElem?_map,getElem?_map,e1,e2]at this;exact Option.some.inj this
theorem kI:∀{ks:List Int}{vs:List V},ks.length=vs.length->(ent ks vs).map (·.1)=ks.map (Sum.inl:Int->Key)|[],[],_=>rfl|k::ks,v::vs,h=>by have:=kI (ks:=ks) (vs:=vs) (by simpa using h);unfold ent at this ⊢;simpa using this|[],_::_,h=>by simp at h|_::_,[],h=>by simp at h
theorem Gz(h:SX X c e p):SI X c tg e (.blt .keys [p]):=by
 unfold SI;obtain⟨ta,h1,h2⟩:=h.bW;refine oh (Ib h1) ?_;rintro σ H R⟨F,ρ,ds,ρ1,g,eA,k⟩;obtain⟨r,ρ2,eB,eC⟩:=aa (show((HH.ev c (.blt .keys [p]) ρ).bind fun r ρ=>lift (items r.d) ρ)=.ok ds ρ1 from eA);obtain⟨eD,e3⟩:=aG eC;subst e3;rw[HH.E15]at eB;obtain⟨d,ρ3,e1,eE⟩:=aa eB;obtain⟨eF,e4⟩:=aG eE;subst e4;refine h2 g e1 fun v F' H' s pv=>?_;have hd:∃(ks:List Int)(es:List (Key×V))(a:Addr)(ob:Obj),ds=ks.map D.int/\v=.ref a/\H' a=some (.cG ob (.dK es))/\es.map (·.1)=ks.map (Sum.inl:Int->Key):=by cases d with
  |dw m=>cases m with|k kvs=>cases eF;cases eD;obtain⟨a,ob,rfl,hq⟩:=pv.dw s.gs.sub;exact⟨kvs.map (·.1),kvs.map pN,a,ob,by rw[map_map];rfl,rfl,hq,by rw[map_map,map_map];rfl⟩|t kvs=>cases eF
  |dv ks ds'=>cases eF;cases eD;obtain⟨a,ob,vs,rfl,hq,rs,hl⟩:=pv.dv s.gs.sub;exact⟨ks,ent ks vs,a,ob,rfl,rfl,hq,kI (by rw[rs.length];exact hl)⟩|_=>cases eF
 obtain⟨ks,es,a,ob,rfl,rfl,hq,hes⟩:=hd;have hle:es.length=ks.length:=by have:=congrArg List.length hes;simpa using this
 refine⟨a,ob,es,rfl,hq,k _ F' H' ⟨s.gs,fun n j F2 ρ2 σ2 H2 s2=>?_,fun F2 ρ2 σ2 H2 s2=>⟨s.trans s2,fun v r rr=>rr.later s⟩⟩⟩;have gm:=s.gs.more (n:=n) (τ:=replicate n none) (by simp);have hq2:=s2.keep a _ hq fun⟨j,⟨t,dt,q1,q2⟩,q3⟩=>by obtain⟨a',o',z1,z2,z3,z4⟩:=gm.own j t dt q1 q2;rw[q3]at z1;cases z1;rw[hq]at z2;cases z2;cases dt with|l ds=>obtain⟨xs,z,_⟩:=z4;cases z|d m=>cases m<;>cases z4|v kvs=>obtain⟨xs,z,_⟩:=z4;cases z
 refine⟨fun d hd=>?_,fun hj=>⟨hq2,by rw[hle];simpa using hj⟩⟩;have hj:j<ks.length:=by have:=(List.getElem?_eq_some_iff.mp hd).1;simpa using this
 refine⟨⟨hq2,by omega⟩,fun x jL⟨e5,q,e6,e7⟩=>?_⟩;subst e5;refine⟨F2,.refl s2.gs.sub,?_⟩;rw[getElem?_map]at hd;obtain⟨i,e8,e9⟩:=map_some hd;rw[e7,Ja hes e6 e8,<-e9];exact bA _
end
end HH
end
section
namespace HH
open PySem L2 PySem.Spec PyProof.Rows PySem.Calls PySem.W
section
variable{prog:Program}{w:World}{A:Around}{E:Value->Shared->Prop}{s:Shared}
theorem rR{κ:Type}[DecidableEq κ]{knd:PySem.KeyKind prog w κ}{d:Addr}{kvs:List (κ×Value)}{ep:Nat}{Q:List Value->Shared->Prop}(hh:A.handled=none)(lo:(d==sysModules)=false)(dd:s.heap.DictAt knd d kvs ep)(hn:kvs.length<=sizeLine)(hQ:∀h' tk acc,(∀b o,s.heap.get? b=some o->h'.get? b=some o)->s.heap.objs.size<h'.objs.size->ItemsOf (fun i v=>∃k x,kvs[i]?=some (k,x)/\knd.is k v=true) acc kvs.length->Q acc.toList {s with heap:=h',toks:=tk}):
 wpAny (model prog w) A (collect (.ref d)) Q E s:=by have hlt:=dd.lt_size;unfold collect;refine wpAny_bind (wpAny_runValue (codeAny_builtin F.entry_proto_collect ?_));rw[Around.under_plainId F.plain_proto_collect _];show wpAny _ A.in1 (newList []>>=fun l=>again (.builtin "list.__iadd__" ⟨[l,.ref d],[]⟩)) _ _ s;refine wpAny_bind (wpAny_newObj_type ?_);refine wpAny_pure ⟨plainId_quiet F.plain_list_iadd _,codeAny_builtin F.entry_list_iadd ?_⟩;rw[Around.under_plainId F.plain_list_iadd _];show wpAny _ A.in1 (listExtendWith (.ref s.heap.objs.size) (.ref d) (.ref s.heap.objs.size)) _ _ _;refine kdl_extend (A:=A) (R:=fun r s'=>match r with
  |.ok (.ret v)=>wpAny (model prog w) A (match v with
   |.ref a=>do let o<-load a match o.data with|.seq xs _=>pure xs.toList|_=>unsupported "internal:collect"
   |_=>unsupported "internal:collect") Q E s'|.ok _=>False|.error e=>E e s') (s:={s with heap:=s.heap.push {cls:=.type "list",data:=.seq #[]}}) (kdl_dict (knd:=knd) (kvs:=kvs) (ep:=ep) lo) hh (dd.push _) s.heap.objs.size (ne_of_gt hlt) (ne_of_gt hlt) _ 0 (get?_push_size _ rfl) (fun h' tk acc c' hk hS hacc=>?_) hn;refine wpAny_bind (wpAny_load hS ?_);exact wpAny_pure (hQ h' tk acc (fun b o e=>hk b o (ne_of_lt (lt_size e)) (get?_push_of_some _ e)) (lt_size hS) hacc)
end
section
variable{X:Cx}{c:Call}{a:Expr}{pa:P}{pos:Pos}
theorem gU:∀{ns:List Int}{us:List Value},IntsAre us ns->Vals (ns.map V.int) us|_,_,.nil=>.nil|_,_,.cons n t r=>.cons ⟨t,rfl⟩ (gU r)
theorem kZ{K:PySem.W.Frag}{F:Hp}:∀ns:List Int,aF K F (ns.map V.int) (ns.map D.int)|[]=>.nil|n::ns=>.cons (bA n) (kZ ns)
end
end HH
end
section
namespace HH
open PySem L2 PySem.Spec PyProof.Rows
theorem Inv.Zu{X:Cx}{pins:List (Addr×Obj)}{σ:L2.St}{H:Hp}{s:Shared}{a:Addr}{kvs:List (List Key×V)}(I:L2.Inv X pins σ H s)(h:H a=some (.dT kvs)):∃o,L2.Inv X pins σ (upd H a (.cG o (.dT kvs))) s:=by obtain⟨z,y,xs,r,o,es,ep,h1,h2,h3,h4,h5⟩:=(show bw X.prog X.w H s.heap a (.dT kvs)from I.hok a _ h);refine⟨o,I.write (h':=s.heap) (t':=s.toks) (by rw[h];exact trivial) (.inl rfl) (fun b u _ e=>e) ⟨o,h1⟩ ⟨h1,z,y,xs,KT.keeps r fun b ys q=>?_,o,es,ep,h1,h2,h3,h4,h5⟩⟩;rw[az (by rintro rfl;rw[h]at q;cases q)];exact q
section
variable{X:Cx}{c:Call}{n:Nat}{a b e:Expr}{p pa pb:P}{pos:Pos}{es:List Expr}{ps:List P}{x1:Nat}{tpos:Pos}
theorem KZ{i:Nat}{x:Str}{px:Pos}(hN:X.N[i]?=some x)(hv:tu X.env.scope x)(hd:(x==("__debug__":Str))=false:=by decide)(hcd:(x==("__classdict__":Str))=false:=by decide):SX X c (.Name x px) (.vw i):=by
 have h:=dN (X:=X) (pos:=px) hN hv hd hcd;refine⟨?_,fun i h=>by cases h⟩;rintro pins s σ H Q I⟨F,ρ,r,ρ',g,e,k⟩;rw[HH.E22]at e;split at e
 . rename_i m q;cases e;obtain⟨a,h1,h2,h3⟩:=g.xN q;refine bL (h pins s σ H (fun v H'=>v=.ref a/\H'=H) I ⟨.ref a,h1,rfl,rfl⟩) fun u s1⟨v,H1,I1,r1,e1,e2⟩=>?_;subst e1 e2;have zz:∃o,L2.Inv X pins σ (upd H1 a (.cG o m.ho)) s1:=by cases m with|k kvs=>exact Inv.Dm I1 h2|t kvs=>exact Inv.Zu I1 h2
   obtain⟨o,I2⟩:=zz;exact⟨.ref a,_,I2,r1,k _ _ _ (h3 o).1 (h3 o).2⟩
 .rename_i kvs q;cases e;obtain⟨a,vs,h1,h2,h3⟩:=g.yP q;refine bL (h pins s σ H (fun v H'=>v=.ref a/\H'=H) I ⟨.ref a,h1,rfl,rfl⟩) fun u s1⟨v,H1,I1,r1,e1,e2⟩=>?_;subst e1 e2;obtain⟨o,I2⟩:=Inv.Dm I1 h2;exact⟨.ref a,_,I2,r1,k _ _ _ (h3 o).1 (h3 o).2⟩
 .cases e
end
end HH
end
section
namespace HH
open PySem L2 PySem.Spec PyProof.Rows
section
variable{K:PySem.W.Frag}{F H F' H':Hp}{ρ ρ':List Sl}{σ σ':L2.St}
def Kp(ρ:List Sl)(σ:L2.St)(H:Hp)(a:Addr)(o:HO):Prop:=H a=some o/\¬ Own ρ σ a
theorem Kp.stp{a:Addr}{o:HO}(h:Kp ρ σ H a o)(s:aq K F ρ σ H F' ρ' σ' H'):Kp ρ' σ' H' a o:=⟨s.keep a o h.1 h.2,fun z=>(s.tE a z).elim h.2 fun e=>by rw[h.1]at e;cases e⟩
structure Wt(K:PySem.W.Frag)(F:Hp)(ρ:List Sl)(σ:L2.St)(H:Hp)(a:Addr)(ds:List D):Prop where
 ex:∃xs,Kp ρ σ H a (.lst xs)/\aF K F xs ds
 fr:F a=none
theorem Wt.stp{a:Addr}{ds:List D}(h:Wt K F ρ σ H a ds)(s:aq K F ρ σ H F' ρ' σ' H'):Wt K F' ρ' σ' H' a ds:=by obtain⟨⟨xs,h1,h2⟩,h3⟩:=h;refine⟨⟨xs,h1.stp s,h2.mono s.bY⟩,?_⟩;cases q:F' a with|none=>rfl|some o=>
   rcases s.vf a h3 (by rw[q];simp)with z|z;.exact absurd z h1.2
   .rw[h1.1]at z;cases z
end
end HH
end
section
namespace HH
open PySem L2 PySem.Spec PyProof.Rows PySem.Calls PySem.W
theorem Je{ns js:List Int}(p:js.Perm ns)(s:js.Pairwise (·<=·))(hl:ns.length<64):tD (ns.map D.int)=js.map D.int:=by
 refine(kE ?_ (p.map D.int) ?_).symm;.simp only[sortable,length_map,and_eq_true,or_eq_true,decide_eq_true_eq];refine⟨by omega,.inl ?_⟩;rw[all_eq_true];intro x hx;obtain⟨i,_,rfl⟩:=mem_map.mp hx;rfl
 .rw[pairwise_map];refine s.imp fun{a b}h=>?_;simp only[iy,bT,bf,not_eq_true'];simp;omega
theorem zO{prog:Program}{w:World}{A:Around}{E:Value->Shared->Prop}{s:Shared}{vs:List Value}{ns:List Int}{a:Addr}{n:Nat}{O:PySem.Fin->Shared->Prop}(ho:s.heap.get? a=some (seqObj "list" vs.toArray n))(ia:IntsAre vs ns)(h64:vs.length<64)(h:∀h' c(out:List Value)(js:List Int),(∀b o,b≠a->s.heap.get? b=some o->h'.get? b=some o)->IntsAre out js->tD (ns.map D.int)=js.map D.int->js.length=ns.length->h'.get? a=some (seqObj "list" out.toArray c)->O (.done (.ret .none)) {s with heap:=h'}):wpAny (model prog w) A (Builtin.«list.sort» ⟨[.ref a],[]⟩) O E s:=by refine list_sort_tree ho ia h64 fun out js i1 p1 s1=>?_;have ha:a<s.heap.objs.size:=lt_size ho;obtain⟨e1,ho1⟩:∃e1,(s.heap.update a (Obj.mapSeq fun _=>(#[]:Array Value))).get? a=some (seqObj "list" #[] e1):=⟨_,get?_update_seq ho fun _=>#[]⟩;have ho6:(((s.heap.update a (Obj.mapSeq fun _=>(#[]:Array Value))).push (seqObj "tuple" vs.toArray 0)).push (seqObj "list" #[] 0)).get? a=some (seqObj "list" #[] e1):=get?_push_of_some _ (get?_push_of_some _ ho1);obtain⟨c,hc⟩:∃c,(sortedHeap s.heap a vs out).get? a=some (seqObj "list" out c):=⟨_,get?_update_seq ho6 fun _=>out⟩;refine h (sortedHeap s.heap a vs out) c out.toList js (fun b o hb e=>?_) i1 (Je p1 s1 (by rw[<-IntsAre.length ia];exact h64)) p1.length_eq (by rw[hc]);exact(get?_update_other _ _ (Ne.symm hb)).trans (get?_push_of_some _ (get?_push_of_some _ ((get?_update_other _ _ (Ne.symm hb)).trans e)))
end HH
end
section
namespace HH
open PySem PyProof.Rows
section
variable{M:Model}{A:Around}{E:Value->Shared->Prop}{s:Shared}{κ:SortKind}{ok:Keyed->Prop}{K:Keyed->Int}
theorem Ak(R:Rk M A E s κ ok K){st st':SortSt}{xs:Array Keyed}{lo n:Nat}{Q:Option Nat->SortSt->Prop}(h:Sx κ ok st xs st')(hn:lo+n<=xs.size)(h1:1<=n)(sg:Seg K xs lo (lo+n))(q:Q (some n) st'):wpS M A E s (countRun' lo n) Q st':=by
 have one:∀ys:Array Keyed,Seg K ys lo (lo+1):=fun ys i j i1 ij jn=>by rw[show i=j by omega];exact Int.le_refl _
 show wpS M A E s (_>>=_) Q st';refine wpS_bind (M7 (a:=1) (n:=n) R h hn (le_refl 1) h1 (one xs) fun m m1 m2 sm hor=>?_);dsimp only;have c1:m=n:=by
  by_cases c:m=n;.exact c
  .have hlt:=hor.resolve_left c;have:=sg (lo+m-1) (lo+m) (by omega) (by omega) (by omega);omega
 subst c1;rw[if_pos (by simp)];exact wpS_pure q
theorem SR.Vn{x0 ys:Array Keyed}{l:List Rn}{lo n:Nat}{st:SortSt}(h:SR κ ok K x0 ys l lo st)(h1:1<=n)(h2:lo+n<=ys.size)(hs:Seg K ys lo (lo+n)):SR κ ok K x0 ys (l++[(lo,n,0)]) (lo+n) (setPending st ((pendingOf st).push (lo,n,0))):=⟨h.kind,h.arr,h.fail,by show((pendingOf st).push (lo,n,0)).toList=_;rw[Array.toList_push,h.pend],h.perm,h.ok,rW.mpr ⟨lo,h.rns,rfl,h1,hs,rfl⟩,h2⟩
theorem qH:∀(f n r:Nat),r<=1->n<64\/n<=f->minRun' f n r<=n+r/\(64<=n->minRun' f n r<=n)
 |0,n,r,hr,h=>by have e:minRun' 0 n r=n+r:=rfl;rw[e];exact⟨le_refl _,fun z=>by omega⟩|f+1,n,r,hr,h=>by
   rw[minRun'_succ];by_cases c:n<64;.rw[if_pos c];exact⟨le_refl _,fun z=>by omega⟩
   .rw[if_neg c];have ih:=qH f (n/2) (max r (n%2)) (by omega) (by omega);exact⟨by omega,fun _=>by omega⟩
theorem FJ(R:Rk M A E s κ ok K){x0:Array Keyed}{Q:Unit->SortSt->Prop}{st:SortSt}(h:SR κ ok K x0 x0 [] 0 st)(sg:Seg K x0 0 x0.size)(h1:1<=x0.size)(q:∀st',arrOf st'=x0->failedOf st'=none->Q () st'):wpS M A E s sortRuns' Q st:=by
 rw[sortRuns'_eq];refine wpS_bind (wpS_get ?_);dsimp only;simp only[h.arr];have hmr:minRun' x0.size x0.size 0<=x0.size:=(qH x0.size x0.size 0 (by omega) (.inr (le_refl _))).1;generalize minRun' x0.size x0.size 0=mr at hmr;refine wpS_bind (wpS_mono (wpS_forRange (I:=fun x c st'=>(c=(none,0)/\SR κ ok K x0 x0 [] 0 st'/\x=0)\/(c=(none,x0.size)/\SR κ ok K x0 x0 [(0,x0.size,0)] x0.size st')) (Q:=fun c st'=>c=(none,x0.size)/\SR κ ok K x0 x0 [(0,x0.size,0)] x0.size st') ?_ ?_ (.inl ⟨rfl,h,rfl⟩)) ?_)
 . rintro x c st1 _ hx(⟨rfl,hS,rfl⟩|⟨rfl,hS⟩)
   . dsimp only;rw[if_neg (by omega)];refine wpS_bind (Ak R hS.sx (lo:=0) (n:=x0.size-0) (by omega) (by omega) (by simpa using sg) ?_);dsimp only;rw[if_neg (by omega)];refine wpS_bind (wpS_get ?_);have hb:(pendingOf st1).back?=none:=by have:pendingOf st1=#[]:=Array.toList_inj.mp hS.pend;rw[this];rfl
     rw[hb];dsimp only;refine wpS_bind (wpS_modify (wpS_pure (.inr ⟨by simp,?_⟩)));have:=hS.Vn (n:=x0.size-0) (by omega) (by omega) (by simpa using sg);simpa using this
   .dsimp only;rw[if_pos (le_refl _)];exact wpS_pure ⟨rfl,hS⟩
 . rintro c st1(⟨rfl,hS,e⟩|⟨rfl,hS⟩);.omega
   .exact⟨rfl,hS⟩
 . rintro c st1⟨rfl,hS⟩;dsimp only;refine wpS_bind (wpS_mono (wpS_forRange (I:=fun x c st'=>c=(none,())/\SR κ ok K x0 x0 [(0,x0.size,0)] x0.size st') (Q:=fun c st'=>c=(none,())/\SR κ ok K x0 x0 [(0,x0.size,0)] x0.size st') ?_ (fun _ _ h=>h) ⟨rfl,hS⟩) ?_)
   . rintro x c st2 _ hx⟨rfl,hZ⟩;refine wpS_bind (wpS_get ?_);try dsimp only
     have hp:(pendingOf st2).size<=1:=by rw[<-length_toList,hZ.pend];simp
     rw[if_pos hp];exact wpS_pure ⟨rfl,hZ⟩
   .rintro c st2⟨rfl,hZ⟩;dsimp only;exact wpS_pure (q st2 hZ.arr hZ.fail)
end
end HH
end
section
namespace HH
open PySem PySem.W PyProof.Rows PySem.Calls L2 PySem.Spec
section
variable{prog:Program}{w:World}{A:Around}{E:Value->Shared->Prop}{s:Shared}{vs:List Value}{κ:SortKind}{P:Value->D->Prop}{ds:List D}
theorem Ea{a:Addr}{n:Nat}{O:PySem.Fin->Shared->Prop}(ho:s.heap.get? a=some (seqObj "list" vs.toArray n))(so:sortable ds=true)(hz:vs.length<=16777216)(pr:Paired P vs ds)(fn:∀u d e,P u d->P u e->bT d=bT e)(asc:ds.Pairwise fun a b=>iy a b=true)(hk:∀h',(∀b o,b≠a->s.heap.get? b=some o->h'.get? b=some o)->∀C:SortKind->Shared->Prop,C κ {s with heap:=h'}->2<=vs.length->wpAny (model prog w) A (keyKind' vs.toArray) C (fun _ _=>False) {s with heap:=h'})(hl:∀h',(∀b o,b≠a->s.heap.get? b=some o->h'.get? b=some o)->∀u v d e,P u d->P v e->∀C:Bool->Shared->Prop,C (bf (bT d) (bT e)) {s with heap:=h'}->wpAny (model prog w) A (keyLt' κ u v) C (fun _ _=>False) {s with heap:=h'})(h:∀h' c p,(∀b o,b≠a->s.heap.get? b=some o->h'.get? b=some o)->p.Perm (List.range vs.length)->pick .non p ds=tD ds->h'.get? a=some (seqObj "list" (pick .none p vs).toArray c)->O (.done (.ret .none)) {s with heap:=h'}):wpAny (model prog w) A (Builtin.«list.sort» ⟨[.ref a],[]⟩) O E s:=by
 have ha:a<s.heap.objs.size:=lt_size ho;have hld:vs.length=ds.length:=Paired.length pr;obtain⟨e1,ho1⟩:∃e1,(s.heap.update a (Obj.mapSeq fun _=>(#[]:Array Value))).get? a=some (seqObj "list" #[] e1):=⟨_,get?_update_seq ho fun _=>#[]⟩;rw[list_sort_plain];refine wpAny_bind (listItems_at ho rfl ?_);refine wpAny_bind (listUpdate_at ho rfl ?_ (by rw[size_toArray,sizeLine_eq];omega) (zero_le _));refine wpAny_bind (seqEpoch_at ho1 rfl ?_);refine wpAny_bind (wpAny_newTuple ?_ (by show vs.length<=_;rw[sizeLine_eq];omega));refine wpAny_bind (wpAny_newList ?_ (zero_le _));refine wpAny_holding ?_;generalize hH:(((s.heap.update a (Obj.mapSeq fun _=>(#[]:Array Value))).push {cls:=.type "tuple",data:=.seq vs.toArray}).push {cls:=.type "list",data:=.seq #[]}:Heap)=H1;have Wb:H1.get? a=some (seqObj "list" #[] e1):=by rw[<-hH];exact get?_push_of_some _ (get?_push_of_some _ ho1)
 have keep:∀b o,b≠a->s.heap.get? b=some o->H1.get? b=some o:=fun b o hb e=>by rw[<-hH];exact get?_push_of_some _ (get?_push_of_some _ ((get?_update_other _ _ (Ne.symm hb)).trans e))
 have fin:∀p:List Nat,p.Perm (List.range vs.length)->pick .non p ds=tD ds->O (.done (.ret .none)) {s with heap:=H1.update a (Obj.mapSeq fun _=>List.toArray (pick .none p vs))}:=by intro p h1 h2;obtain⟨c2,hc2⟩:∃c2,(H1.update a (Obj.mapSeq fun _=>List.toArray (pick Value.none p vs))).get? a=some (seqObj "list" (pick Value.none p vs).toArray c2):=⟨_,get?_update_seq Wb fun _=>List.toArray (pick Value.none p vs)⟩;exact h _ c2 p (fun b o hb e=>(get?_update_other _ _ (Ne.symm hb)).trans (keep b o hb e)) h1 h2 hc2
 show wpAny (model prog w) A _ O E {s with heap:=H1};dsimp only;by_cases h2:vs.toArray.size<2
 . rw[if_pos h2,if_pos h2];refine wpAny_bind (wpAny_pure ?_);rw[StateT.run_pure];refine wpAny_bind (wpAny_pure ?_);dsimp only;have eo:(arrOf (SortSt.mk' general' (vs.toArray.zip vs.toArray) #[] 7 none)).map (·.2)=List.toArray (pick Value.none (List.range vs.length) vs):=by rw[j8];apply Array.toList_inj.mp;show((vs.toArray.zip vs.toArray).map (·.2)).toList=vs;simp[List.map_snd_zip]
   rw[eo];refine wpAny_bind (seqEpoch_at Wb rfl ?_);refine wpAny_bind (listUpdate_at Wb rfl ?_ (zero_le _) (by rw[size_toArray,nZ (.refl _),sizeLine_eq];omega));simp only[bne_self_eq_false,false_eq_true,if_false];refine wpAny_pure (fin _ (.refl _) ?_);rw[hld,j8];refine kE so (.refl _) ?_;match ds,(show ds.length<2 by simp at h2;omega)with|[],_=>exact .nil|[_],_=>exact List.pairwise_singleton ..|_::_::_,h2=>simp at h2;omega
 . rw[if_neg h2,if_neg h2];have h2':2<=vs.length:=by simpa using h2
   refine wpAny_bind (hk H1 keep _ ?_ h2'|>fun q=>wpAny_mono q (fun _ _ x=>x) fun _ _ x=>x.elim);have Sy:(vs.toArray.zip vs.toArray).toList=(List.range vs.length).map fun i=>(vs.getD i Value.none,vs.getD i Value.none):=by
    refine List.ext_getElem (by simp) fun i h1 h2=>?_;have:i<vs.length:=by simpa using h2
    simp[this]
   have okk:∀x∈(vs.toArray.zip vs.toArray).toList,∃d,d∈ds/\P x.1 d:=fun x hx=>by rw[Sy]at hx;obtain⟨i,hi,rfl⟩:=mem_map.mp hx;have:=jc pr i (List.mem_range.mp hi);exact⟨_,this.2,this.1⟩
   have R:Rk (model prog w) A E {s with heap:=H1} κ (fun x=>∃d,d∈ds/\P x.1 d) (Xj P ds):=⟨by rintro x y Q st⟨d,d1,d2⟩⟨e,e1,e2⟩hkd hq;rw[zc fn d1 d2,zc fn e1 e2,Fe d1]at hq;rw[lt'_eq];refine wpS_bind (wpS_get ?_);rw[hkd];refine wpS_bind (wpS_lift (wpAny_attempt (wpAny_mono (hl H1 keep x.1 y.1 d e d2 e2 (fun b s'=>s'={s with heap:=H1}/\b=bf (bT d) (bT e)) ⟨rfl,rfl⟩) ?_ fun _ _ h=>h.elim)));rintro b s'⟨rfl,rfl⟩;exact⟨rfl,wpS_pure hq⟩⟩;have at':∀k,k<vs.length->it (vs.toArray.zip vs.toArray) k=(vs.getD k .none,vs.getD k .none):=fun k hk=>by rw[Ih,Sy];simp[hk]
   have hsz:(vs.toArray.zip vs.toArray).size=vs.length:=by simp
   have sg:Seg (Xj P ds) (vs.toArray.zip vs.toArray) 0 (vs.toArray.zip vs.toArray).size:=fun i j _ ij jn=>by
    rw[hsz]at jn;rw[at' i (by omega),at' j jn];have a1:=jc pr i (by omega);have a2:=jc pr j jn;rw[zc fn a1.2 a1.1,zc fn a2.2 a2.1];by_cases e:i=j;.rw[e];exact Int.le_refl _
    . have hl2:=List.pairwise_iff_getElem.mp asc i j (by omega) (by omega) (by omega);simp only[iy,not_eq_true']at hl2;have e1:ds.getD i .non=ds[i]'(by omega):=by simp[show i<ds.length by omega]
      have e2:ds.getD j .non=ds[j]'(by omega):=by simp[show j<ds.length by omega]
      rw[<-e1,<-e2,<-Fe a2.2,decide_eq_false_iff_not]at hl2;omega
   have run:=FJ R (x0:=vs.toArray.zip vs.toArray) (st:=SortSt.mk' κ (vs.toArray.zip vs.toArray) #[] 7 none) (Q:=fun _ st'=>∃p:List Nat,p.Perm (List.range vs.length)/\pick .non p ds=tD ds/\(arrOf st').map (·.2)=(pick Value.none p vs).toArray/\failedOf st'=none) ⟨rfl,rfl,rfl,rfl,.refl _,okk,rfl,zero_le _⟩ sg (by rw[hsz];omega) fun st' e1 e2=>by
     refine⟨List.range vs.length,.refl _,?_,?_,e2⟩;.rw[hld,j8];exact kE so (.refl _) asc
     .rw[e1,j8];apply Array.toList_inj.mp;simp[List.map_snd_zip]
   refine wpAny_bind (wpAny_mono run ?_ fun _ _ e=>e);rintro⟨⟨⟩,st'⟩s'⟨rfl,p,p1,p2,hout,hf⟩;dsimp only;rw[hout];refine wpAny_bind (seqEpoch_at Wb rfl ?_);refine wpAny_bind (listUpdate_at Wb rfl ?_ (zero_le _) (by rw[size_toArray,nZ p1,sizeLine_eq];omega));rw[hf];simp only[bne_self_eq_false,false_eq_true,if_false];exact wpAny_pure (fin _ p1 p2)
end
end HH
end
section
namespace HH
open PySem L2 PySem.Spec PyProof.Rows PySem.Calls PySem.W
noncomputable def vp(nw:Addr->Option HO)(H:Hp):Hp:=fun a=>match nw a with|some o=>some o|none=>H a
theorem qQ{nw:Addr->Option HO}{H:Hp}{a:Addr}{o:HO}(h:nw a=some o):vp nw H a=some o:=by unfold vp;rw[h]
theorem fU{nw:Addr->Option HO}{H:Hp}{a:Addr}(h:nw a=none):vp nw H a=H a:=by unfold vp;rw[h]
theorem Uv{X:Cx}{pins:List (Addr×Obj)}{σ:L2.St}{H:Hp}{s:Shared}{h':Heap}{t':Nat}{nw:Addr->Option HO}(I:L2.Inv X pins σ H s)(k:∀b u,s.heap.get? b=some u->h'.get? b=some u)(hp:∀a o,nw a=some o->s.heap.objs.size<=a)(new:∀a o,nw a=some o->bw X.prog X.w (vp nw H) h' a o):L2.Inv X pins σ (vp nw H) {s with heap:=h',toks:=t'}:=by
 have no:∀a,a<s.heap.objs.size->nw a=none:=fun a ha=>by cases q:nw a with|none=>rfl|some o=>exact absurd (hp a o q) (Nat.not_le_of_lt ha)
 have old:∀a o,H a=some o->vp nw H a=some o:=fun a o e=>by rw[fU (no a (I.hok.lt e))];exact e
 refine I.un ⟨fun b u q _ _ _=>k b u q,fun b u q _ _ _=>⟨u.slots,k b u q⟩,fun b u q n _=>?_,fun b u q _=>⟨u,k b u q⟩,fun b xs q=>old b _ q,fun b u xs q=>old b _ q,fun b ps q=>⟨#[],by rw[old b _ q];simp⟩⟩ fun b u e=>?_;.rw[fU (no b (lt_size q))];exact n
 .cases q:nw b with|some o=>rw[qQ q]at e;cases e;exact new b _ q|none=>rw[fU q]at e;exact(I.hok b u e).stay (fun c v _ z=>k c v z) (fun c z=>old c _ z) fun c xs z=>old c _ z
def iv(l d:Addr):Heap->Prop:=fun h=>h.IsItemsView l d
def BR:V->List V->Hp->VK->Prop:=fun x xs H Q=>∃q ob kvs,x=.ref q/\xs=[]/\H q=some (.cG ob (.dK (map pN kvs)))/\∀l,H l=none->Q (.ref l) (upd H l (.ext (iv l q)))
def rIt(X:Cx):List V->Hp->VK->Prop:=fun xs H Q=>∃l q ob kvs,xs=[.ref l]/\H l=some (.ext (iv l q))/\H q=some (.cG ob (.dK (map pN kvs)))/\(kvs.length<=16777216/\kvs.Pairwise (fun a b=>a.1<b.1))/\∃F,aH F H/\∀v F' H',Ext F H F' H'->bN X.K F' H' H v (.own (kvs.map eX))->Q v H'
theorem tZ{P:Program}{w:World}{h:Heap}:∀{kvs:List (Int×Int)}{vs:List (Key×Value)}{as:List Addr},KV (kvs.map pN) vs->as.length=vs.length->(∀(j:Nat)(a:Addr),as[j]?=some a->∃key k x,vs[j]?=some (k,x)/\(aX P w).is k key=true/\h.get? a=some {cls:=.type "tuple",data:=.seq #[key,x]})->∀(j:Nat)(a:Addr),as[j]?=some a->∃p,kvs[j]?=some p/\∃t u,h.get? a=some {cls:=.type "tuple",data:=.seq #[Value.int p.1 t,Value.int p.2 u]}
 |[],_,as,.nil,hl,_,j,a,e=>by cases as with|nil=>cases e|cons _ _=>simp at hl
 |p::kvs,_,as,.cons (b:=q) r t,hl,hk,j,a,e=>by cases as with|nil=>cases e|cons b as=>cases j with
     |zero=>
       obtain⟨key,k,x,e1,e2,e3⟩:=hk 0 a e;simp at e1;have e4:k=Sum.inl p.1:=by have z:=r.1;rw[e1]at z;exact z.symm
       have e5:∃u,x=Value.int p.2 u:=by have z:=r.2;rw[e1]at z;exact z
       subst e4;obtain⟨u,rfl⟩:=e5;obtain⟨i,tk,e6,rfl⟩|⟨_,_,e6,_⟩:=bu (show mq (Sum.inl p.1) key=true from e2);.cases e6;exact⟨p,rfl,tk,u,e3⟩
       .cases e6|succ j=>exact tZ t (by simpa using hl) (fun i c z=>by simpa using hk (i+1) c (by simpa using z)) j a (by simpa using e)
noncomputable def Yk(p:Int×Int):HO:=.tup [.int p.1,.int p.2]
noncomputable def nC:List Addr->List (Int×Int)->Addr->Option HO|a::as,p::ps,b=>if b=a then some (Yk p)else nC as ps b|_,_,_=>none
theorem m8:∀{as:List Addr}{ps:List (Int×Int)}{b:Addr}{o:HO},nC as ps b=some o->∃(j:Nat)(p:Int×Int),as[j]?=some b/\ps[j]?=some p/\o=Yk p
 |a::as,p::ps,b,o,h=>by
   unfold nC at h;split at h;.rename_i e;cases h;subst e;exact⟨0,p,rfl,rfl,rfl⟩
   .obtain⟨j,q,h1,h2,h3⟩:=m8 h;exact⟨j+1,q,by simpa using h1,by simpa using h2,h3⟩|[],_,_,_,h=>by simp[nC]at h|_::_,[],_,_,h=>by simp[nC]at h
theorem xJ:∀{as:List Addr}{ps:List (Int×Int)},as.Pairwise (·<·)->∀{j:Nat}{b:Addr}{p:Int×Int},as[j]?=some b->ps[j]?=some p->nC as ps b=some (Yk p)|[],_,_,_,_,_,h,_=>by simp at h|_::_,[],_,_,_,_,_,h=>by simp at h|a::as,q::ps,hp,j,b,p,h1,h2=>by unfold nC;cases j with|zero=>cases h1;cases h2;rw[if_pos rfl]|succ j=>
     have h1:as[j]?=some b:=by simpa using h1
     have:=(pairwise_cons.mp hp).1 b (mem_of_getElem? h1);rw[if_neg (fun e=>by rw[e]at this;exact lt_irrefl _ this)];exact xJ (pairwise_cons.mp hp).2 h1 (by simpa using h2)
theorem oE:∀as:List Addr,Vals (as.map V.ref) (as.map Value.ref)|[]=>.nil|_::as=>.cons rfl (oE as)
theorem yQ{K:PySem.W.Frag}{F:Hp}:∀{as:List Addr}{ps:List (Int×Int)},as.length=ps.length->(∀(j:Nat)(b:Addr)(p:Int×Int),as[j]?=some b->ps[j]?=some p->F b=some (Yk p))->aF K F (as.map V.ref) (ps.map eX)|[],[],_,_=>.nil|a::as,p::ps,hl,h=>.cons (by have:=h 0 a p rfl rfl;rw[show eX p=.tup [.int p.1,.int p.2]from rfl,Rep];refine⟨a,_,rfl,.inl (.inl this),.cons (by rw[Rep]) (.cons (by rw[Rep]) .nil)⟩) (yQ (by simpa using hl) fun j b q h1 h2=>h (j+1) b q (by simpa using h1) (by simpa using h2))|[],_::_,hl,_=>by simp at hl|_::_,[],hl,_=>by simp at hl
theorem za{h:Heap}:∀{as:List Addr}{ps:List (Int×Int)},as.length=ps.length->(∀(j:Nat)(b:Addr),as[j]?=some b->∃p,ps[j]?=some p/\∃t u,h.get? b=some {cls:=.type "tuple",data:=.seq #[Value.int p.1 t,Value.int p.2 u]})->Paired (mL h) (as.map Value.ref) (ps.map eX)|[],[],_,_=>.nil|a::as,p::ps,hl,h=>.cons (by obtain⟨q,e,t,u,g⟩:=h 0 a rfl;cases e;exact⟨a,[Value.int p.1 t,Value.int p.2 u],[p.1,p.2],rfl,⟨_,g,rfl,0,rfl⟩,.cons _ _ (.cons _ _ .nil),by simp,rfl⟩) (za (by simpa using hl) fun j b h1=>by simpa using h (j+1) b (by simpa using h1))|[],_::_,hl,_=>by simp at hl|_::_,[],hl,_=>by simp at hl
theorem t8{prog:Program}{w:World}{A:Around}{E:Value->Shared->Prop}{s:Shared}{v d:Addr}{kvs:List (Key×Value)}{ep:Nat}{Q:List Value->Shared->Prop}(hh:A.handled=none)(hv:s.heap.IsItemsView v d)(hm:s.heap.DictAt (aX prog w) d kvs ep)(hn:kvs.length<=sizeLine)(hQ:∀(h':Heap)(tk:Nat)(as:List Addr),(∀b o,s.heap.get? b=some o->h'.get? b=some o)->s.heap.objs.size<h'.objs.size->as.length=kvs.length->KdxG (aX prog w) kvs s.heap.objs.size h' as->Q (as.map Value.ref) {s with heap:=h',toks:=tk}):wpAny (model prog w) A (collect (.ref v)) Q E s:=by
 have hvl:v<s.heap.objs.size:=let⟨_,h1,_⟩:=hv;lt_size h1;have hdl:d<s.heap.objs.size:=hm.lt_size;unfold collect;refine wpAny_bind (wpAny_runValue (codeAny_builtin F.entry_proto_collect ?_));rw[Around.under_plainId F.plain_proto_collect _];show wpAny _ A.in1 (newList []>>=fun l=>again (.builtin "list.__iadd__" ⟨[l,.ref v],[]⟩)) _ _ s;refine wpAny_bind (wpAny_newObj_type (wpAny_pure ⟨plainId_quiet F.plain_list_iadd _,codeAny_builtin F.entry_list_iadd ?_⟩));rw[Around.under_plainId F.plain_list_iadd _];show wpAny _ A.in1 (listExtendWith (.ref s.heap.objs.size) (.ref v) (.ref s.heap.objs.size)) _ _ _;refine kdx_extend (A:=A) (R:=fun r s'=>match r with
  |.ok (.ret v)=>wpAny (model prog w) A (match v with
   |.ref a=>do let o<-load a match o.data with|.seq xs _=>pure xs.toList|_=>unsupported "internal:collect"
   |_=>unsupported "internal:collect") Q E s'|.ok _=>False|.error e=>E e s') (s:={s with heap:=s.heap.push {cls:=.type "list",data:=.seq #[]}}) hh (let⟨o,h1,q⟩:=hv;⟨o,get?_push_of_some _ h1,q⟩) (hm.at' fun o e=>get?_push_of_some _ e) s.heap.objs.size (ne_of_gt hvl) (ne_of_lt hdl) _ 0 (get?_push_size _ rfl) (fun h' tk acc c' as hk hS hl hG hacc=>?_) hn;refine wpAny_bind (wpAny_load hS (wpAny_pure ?_));rw[hacc];exact hQ h' tk as (fun b o e=>hk b o (ne_of_lt (lt_size e)) (get?_push_of_some _ e)) (lt_size hS) hl (hG.low (by rw[size_push'];exact le_succ _))
section
variable{X:Cx}{c:Call}{a:Expr}{pa:P}{pos:Pos}
theorem By:Z7 X "dict.items" BR:=by rintro pins s σ H x xs v us Q I rx rv⟨q,ob,kvs,rfl,rfl,hq,k⟩;cases rx;cases rv;obtain⟨ho,hz,hS,vs,r,dd⟩:=(show bw X.prog X.w H s.heap q (.cG ob (.dK (kvs.map pN)))from I.hok q _ hq);refine call_meetsIn PySem.F.slot_dict_items dd.typeIs PySem.F.entry_dict_items (PySem.F.args_dict_items_1 _) (meets_dict_items _ q hS) ⟨⟨vs,dd⟩,?_⟩;have hn:(s.heap.push {cls:=.type "dict_items",data:=.fields #[.ref q]}).IsItemsView s.heap.objs.size q:=⟨_,get?_push_size _ rfl,rfl,rfl⟩;refine⟨.ref s.heap.objs.size,_,I.laid (t':=s.toks) (o:=.ext (iv s.heap.objs.size q)) (fun b o e=>get?_push_of_some _ e) (le_refl _) ⟨hn,⟨_,get?_push_size _ rfl⟩,fun h1 h2 z k=>?_⟩,rfl,k _ (I.hok.fresh (le_refl _))⟩;obtain⟨o,z1,z2⟩:=z;exact⟨o,k o z1,z2⟩
theorem Nt(hc:X.calm=true):dH X (.builtin "sorted") (rIt X):=by
 rintro pins s σ H xs us Q I r⟨l,q,ob,kvs,hx,hl,hq,⟨h64,abR⟩,F,sm,k⟩;subst hx;have so:sortable (kvs.map eX)=true:=by
  have:(kvs.map eX).all uD=true:=by rw[all_eq_true];intro x hx;obtain⟨p,_,rfl⟩:=mem_map.mp hx;rfl
  simp only[sortable,length_map,this,Bool.or_true,Bool.and_true,decide_eq_true_eq];omega
 have asc:(kvs.map eX).Pairwise fun a b=>iy a b=true:=by rw[pairwise_map];refine abR.imp fun{a b}h=>?_;show(!bf [b.1,b.2] [a.1,a.2])=true;simp[bf];omega
 have abS:tD (kvs.map eX)=kvs.map eX:=(kE so (.refl _) asc).symm;rw[<-abS]at k;obtain⟨u,rfl,rx⟩:=r.one;cases rx;obtain⟨Wc,_,_⟩:=(show bw X.prog X.w H s.heap l (.ext (iv l q))from I.hok l _ hl);obtain⟨ho,hz,hS,vs,rv,dd⟩:=(show bw X.prog X.w H s.heap q (.cG ob (.dK (kvs.map pN)))from I.hok q _ hq);have hvl:vs.length=kvs.length:=by rw[<-Paired.length rv,length_map]
 obtain⟨o',es,ep,d1,d2,d3,d4⟩:=dd;have dat:s.heap.DictAt (aX X.prog X.w) q vs ep:=⟨o',es,d1,d2,d3,d4⟩;refine Calls.call_function_entry kind_sorted plain_sorted entry_sorted (args_sorted1 _) ?_;unfold Builtin.«sorted»;refine wpAny_bind (m:=checkCount "sorted" 1 1 _) (wpAny_pure ?_);refine wpAny_bind (t8 (A:=X.A.in1) (I.ok.hd hc) Wc dat (by rw[hvl,sizeLine_eq];omega) fun h1 tk as kp hsz hla hG=>?_);have hsz:=le_of_lt hsz;have hlk:as.length=kvs.length:=hla.trans hvl;have pr:=tZ rv hla hG.pairs;have tt:Paired (mL h1) (as.map Value.ref) (kvs.map eX):=za hlk pr;have hfr:∀a o,nC as kvs a=some o->s.heap.objs.size<=a:=fun a o e=>by obtain⟨j,p,e1,_,_⟩:=m8 e;exact le_of_lt (hG.above a (mem_of_getElem? e1))
 have hno:∀a o,nC as kvs a=some o->H a=none:=fun a o e=>I.hok.fresh (hfr a o e);have hsm:aH H (vp (nC as kvs) H):=fun b o e=>by cases z:nC as kvs b with|none=>rw[fU z];exact e|some o'=>rw[hno b o' z]at e;cases e
 have e0:Ext F H (vp (nC as kvs) F) (vp (nC as kvs) H):=by
  refine⟨hsm,fun b o e=>?_,fun b o e=>?_,fun b n n'=>?_⟩;.cases z:nC as kvs b with|none=>rw[fU z];exact e|some o'=>have n0:=hno b o' z;rw[sm b o e]at n0;cases n0
  .cases z:nC as kvs b with|none=>rw[fU z]at e ⊢;exact sm b o e|some o'=>rw[qQ z]at e ⊢;exact e
  .cases z:nC as kvs b with|none=>rw[fU z]at n';exact absurd n n'|some o'=>rw[hno b o' z];rfl
 have rs:aF X.K (vp (nC as kvs) F) (as.map V.ref) (kvs.map eX):=yQ hlk fun j b p h1 h2=>qQ (xJ hG.rise h1 h2);have vv:=oE as;have hlt:∀b∈as,b<h1.objs.size:=fun b hb=>hG.there hb;have Wd:(as.map Value.ref).length=kvs.length:=by rw[length_map];exact hlk
 refine wpAny_bind (wpAny_newList ?_ (by rw[Wd,sizeLine_eq];omega));generalize hG2:(h1.push {cls:=.type "list",data:=.seq (as.map Value.ref).toArray}:Heap)=H2;have ho2:H2.get? h1.objs.size=some (seqObj "list" (as.map Value.ref).toArray 0):=by rw[<-hG2];exact get?_push_size _ rfl
 have vm:∀b o,h1.get? b=some o->H2.get? b=some o:=fun b o e=>by rw[<-hG2];exact get?_push_of_some _ e
 have hne:∀b o,h1.get? b=some o->b≠h1.objs.size:=fun b o e=>ne_of_lt (lt_size e);show wpAny _ _ _ _ _ {s with heap:=H2,toks:=tk};refine wpAny_bind (wpAny_holding (wpAny_call_entry slot_list_sort ⟨_,ho2,rfl⟩ entry_list_sort ?body (args_list_sort _)));case body=>
  refine Ea (s:={s with heap:=H2,toks:=tk}) (κ:=tuples' (Value.type "int"!=Value.type "tuple")) ho2 so (by omega) tt IK asc (fun h' k' C hC h2=>?_) (fun h' k' u v d e hd he C hC=>?_) fun h' cc p k' p1 p2 e=>?_;.exact zN (s:={s with heap:=h',toks:=tk}) (qj (fun b o z=>k' b o (hne b o z) (vm b o z)) tt) h2 hC
  .have kk:∀b o,h1.get? b=some o->h'.get? b=some o:=fun b o z=>k' b o (hne b o z) (vm b o z);exact Io (s:={s with heap:=h',toks:=tk}) (lJ kk hd) (lJ kk he) hC
  . refine⟨_,rfl,wpAny_pure ⟨_,rfl,?_⟩⟩;have kk:∀b o,h1.get? b=some o->h'.get? b=some o:=fun b o z=>k' b o (hne b o z) (vm b o z);have hL:nC as kvs h1.objs.size=none:=by cases z:nC as kvs h1.objs.size with|none=>rfl|some o=>obtain⟨j,p,e1,_,_⟩:=m8 z;exact absurd (hlt _ (mem_of_getElem? e1)) (lt_irrefl _)
    have heq:upd (vp (nC as kvs) H) h1.objs.size (.lst (pick .non p (as.map V.ref)))=vp (fun b=>if b=h1.objs.size then some (.lst (pick .non p (as.map V.ref)))else nC as kvs b) H:=by
     funext b;unfold upd vp;by_cases z:b=h1.objs.size;.rw[if_pos z];simp only[if_pos z]
     .rw[if_neg z];simp only[if_neg z]
    have I':=Uv (t':=tk) (h':=h') (nw:=fun b=>if b=h1.objs.size then some (.lst (pick .non p (as.map V.ref)))else nC as kvs b) I (fun b o z=>kk b o (kp b o z)) (fun a o z=>by
     by_cases y:a=h1.objs.size;.rw[y];exact hsz
     .simp only[if_neg y]at z;exact hfr a o z) (fun a o z=>by
     by_cases y:a=h1.objs.size;.simp only[if_pos y]at z;cases z;subst y;exact⟨by rw[nZ p1,Wd,sizeLine_eq];omega,pick .none p (as.map Value.ref),cc,DG vv,e⟩
     .simp only[if_neg y]at z;obtain⟨j,p',e1,e2,rfl⟩:=m8 z;obtain⟨p'',e3,t,u,e4⟩:=pr j a e1;rw[e2]at e3;cases e3;exact⟨by rw[sizeLine_eq];simp,[Value.int p'.1 t,Value.int p'.2 u],.cons ⟨t,rfl⟩ (.cons ⟨u,rfl⟩ .nil),⟨_,kk _ _ e4,rfl,0,rfl⟩⟩);rw[<-heq]at I';refine⟨.ref h1.objs.size,_,I',rfl,?_⟩;have rs2:aF X.K (vp (nC as kvs) F) (pick .non p (as.map V.ref)) (tD (kvs.map eX)):=by rw[<-p2];exact Em rs
    refine uP e0.sub rs2 (by rw[fU hL];exact I.hok.fresh hsz) fun v F2 H2 x rn=>k v F2 H2 ⟨e0.hs.trans x.hs,e0.fs.trans x.fs,x.sub,fun c n n'=>?_⟩ ?_
    . by_cases e:vp (nC as kvs) F c=none;.have:=x.gr c e n';cases z:H c with|none=>rfl|some o=>rw[hsm c o z]at this;exact this
      .exact e0.gr c n e
    obtain⟨b,xs,q1,q2,q3,q4,q5⟩:=rn;refine⟨b,xs,q1,q2,q3,q4,?_⟩;cases z:H b with|none=>rfl|some o=>rw[hsm b o z]at q5;cases q5
theorem DQ{o:Expr}{to:TE}{apos cpos:Pos}(ho:PE X o to)(hbase:attributeBase o "items" X.env (eval o X.env)=eval o X.env:=by rfl)(hline:(apos.endLine==cpos.line)=true:=by rfl):PE X (.Call (.Attribute o "items" apos) [] [] cpos) (fun σ H Q=>to σ H fun x H1=>BR x [] H1 Q):=by intro pins s σ H Q I h;refine wpAny_Call_method0_late hbase hline (bL (ho pins s σ H _ I h) fun v s1⟨x,H1,I1,r1,q1⟩=>?_);obtain⟨q,ob,kvs,rfl,_,hq,k⟩:=id q1;cases r1;obtain⟨ho,hz,hS,vs,r,o',es,ep,g1,g2,g3⟩:=(show bw X.prog X.w H1 s1.heap q (.cG ob (.dK (kvs.map pN)))from I1.hok q _ hq);refine⟨"dict","dict.items",PySem.F.plainAttrs_dict,PySem.F.slot_dict_items,PySem.F.type_dict_items,⟨o',g1,g2.1⟩,fun b e=>?_,Calls.callWith_builtin rfl (PySem.evalArgs_none (By pins s1 σ H1 (.ref q) [] _ [] Q I1 rfl .nil q1))⟩;cases e;exact⟨o',g1,g2.2.1⟩
theorem Jf{x:Str}{p' apos cpos:Pos}{o:Expr}(hx:x="sorted")(hc:X.calm=true)(hg:Gl X x)(hm:X.mg x=none)(hline:(apos.endLine==cpos.line)=true)(ha:SX X c o pa)(hbase:attributeBase o "items" X.env (eval o X.env)=eval o X.env:=by rfl):SX X c (.Call (.Name x p') [.Call (.Attribute o "items" apos) [] [] cpos] [] pos) (.blt .Ga [pa]):=by
 subst hx;obtain⟨ta,h1,h3⟩:=ha.bW;refine⟨fJ (dW (Nt hc) hg hm boot_sorted (cV (DQ h1 hbase hline) fB)) ?_,fun i h=>by cases h⟩;rintro σ H Q⟨F,ρ,r,ρ',g,e,k⟩;have e:((bW (isVar pa) (HH.ev c pa) ρ).bind fun x ρ=>lift (blt .Ga [x]) ρ)=.ok r ρ':=e;obtain⟨d,ρ1,e1,e2⟩:=aa e;have zz:=aG e2;clear e2;obtain⟨e2,e3⟩:=zz;subst e3;refine h3 g e1 fun v F' H' st pv=>?_;obtain⟨kvs,rfl⟩:∃kvs,d=.dw (.k kvs):=by cases d with
  |dw m=>cases m with|k kvs=>exact⟨kvs,rfl⟩|t kvs=>cases e2
  |_=>cases e2
 obtain⟨so,he⟩:=bj (show(if kvs.length<=16777216/\kvs.Pairwise (fun a b=>a.1<b.1)then some (R.own (kvs.map eX))else none)=some r from e2);subst he;obtain⟨q,ob,rfl,hq⟩:=pv.dw st.gs.sub;refine⟨q,ob,kvs,rfl,rfl,hq,fun l hl=>⟨l,q,ob,kvs,rfl,aJ,aH.bO hl q _ hq,so,F',fun b o e=>aH.bO hl b o (st.gs.sub b o e),fun w F2 H2 x2 rn=>?_⟩⟩;have sm:aH H' (upd H' l (.ext (iv l q))):=aH.bO hl;have x3:Ext F' H' F2 H2:=⟨sm.trans x2.hs,x2.fs,x2.sub,fun b n n'=>by
  have:=x2.gr b n n';by_cases eb:b=l;.subst eb;rw[hl];rfl
  .rw[az eb]at this;exact this⟩;have rn2:bN X.K F2 H2 H' w (.own (kvs.map eX)):=by obtain⟨b,xs,q1,q2,q3,q4,q5⟩:=rn;refine⟨b,xs,q1,q2,q3,q4,?_⟩;cases z:H' b with|none=>rfl|some o=>rw[sm b o z]at q5;cases q5
 exact k w F2 H2 (st.trans (x3.stp st.gs)) (.later st (rn2.nY st.gs))
end
end HH
end
section
namespace HH
open PySem L2 PySem.Spec PyProof.Rows
section
variable{K:PySem.W.Frag}{F F' F1 H H' H1 F0 H0:Hp}{ρ ρ' ρ1 ρ0:List Sl}{σ σ' σ1 σ0:L2.St}{x:Nat}{q:Addr}{as:List Addr}{rows mJ:List (List D)}
noncomputable def Ex:Sl->Bool|.aU=>true|.hold _=>true|_=>false
theorem fC{s:Sl}{i:Nat}{b:Addr}(hm:Ex s=true){o:Option V}(h:aQ (ρ.set x s) (σ.set x o) i b):aQ ρ σ i b/\i≠x:=by
 obtain⟨⟨t,ds,e,e'⟩,e1⟩:=h;by_cases c:x=i
 . subst c;rw[List.getElem?_set]at e;rw[if_pos rfl]at e;split at e;.cases e;cases s<;>first|(cases e';done)|(cases hm;done)
   .cases e
 .rw[getElem?_set_ne c]at e e1;exact⟨⟨⟨t,ds,e,e'⟩,e1⟩,fun z=>c z.symm⟩
theorem GS.xV{s:Sl}{o:Option V}(hm:Ex s=true)(g:GS K F ρ σ H):GS K F (ρ.set x s) (σ.set x o) H:=by
 refine⟨g.sub,by simp[g.len],fun i b d e=>?_,fun i t ds e e'=>?_,fun i j a h1 h2=>g.dis i j a (fC hm h1).1 (fC hm h2).1⟩
 . by_cases c:x=i
   . subst c;rw[List.getElem?_set,if_pos rfl]at e;split at e;.cases e;cases hm
     .cases e
   .rw[getElem?_set_ne c]at e ⊢;exact g.val i b d e
 . by_cases c:x=i
   . subst c;rw[List.getElem?_set,if_pos rfl]at e;split at e;.cases e;cases s<;>first|(cases e';done)|(cases hm;done)
     .cases e
   .rw[getElem?_set_ne c]at e ⊢;exact g.own i t ds e e'
theorem aq.xV{s:Sl}{o:Option V}(hm:Ex s=true)(t:aq K F ρ σ H F1 ρ1 σ1 H1)(hf:∀s0,ρ[x]?=some s0->qY s0=false):aq K F ρ σ H F1 (ρ1.set x s) (σ1.set x o) H1:=by
 refine⟨t.gs.xV hm,t.bY,t.vf,t.keep,fun b⟨i,h⟩=>t.tE b ⟨i,(fC hm h).1⟩,by simp[t.len],fun i s' e l=>?_⟩;have c:x≠i:=by rintro rfl;rw[hf _ e]at l;cases l
 obtain⟨z1,s2,z2,z3⟩:=t.lk i s' e l;exact⟨by rw[getElem?_set_ne c];exact z1,s2,by rw[getElem?_set_ne c];exact z2,z3⟩
theorem aq.free{i:Nat}{s1:Sl}(t:aq K F ρ σ H F1 ρ1 σ1 H1)(h:ρ1[i]?=some s1)(hl:qY s1=false):∀s0,ρ[i]?=some s0->qY s0=false:=fun s0 e=>by cases z:qY s0 with|false=>rfl|true=>obtain⟨_,s2,z2,z3⟩:=t.lk i s0 e z;rw[h]at z2;cases z2;rw[z3.qY z]at hl;cases hl
structure N5(F:Hp)(ρ:List Sl)(σ:L2.St)(H:Hp)(a:Addr)(xs:List V):Prop where kp:Kp ρ σ H a (.lst xs)fr:F a=none
theorem N5.stp{a:Addr}{xs:List V}(h:N5 F ρ σ H a xs)(s:aq K F ρ σ H F' ρ' σ' H'):N5 F' ρ' σ' H' a xs:=by refine⟨h.kp.stp s,?_⟩;cases z:F' a with|none=>rfl|some o=>
   rcases s.vf a h.fr (by rw[z];simp)with y|y;.exact absurd y h.kp.2
   .rw[h.kp.1]at y;cases y
structure Nw(K:PySem.W.Frag)(x:Nat)(q:Addr)(as:List Addr)(F:Hp)(ρ:List Sl)(σ:L2.St)(H:Hp)(rows:List (List D)):Prop where
 slot:ρ[x]?=some (.hold rows)val:σ[x]?=some (some (.ref q))out:N5 F ρ σ H q (as.map V.ref)nd:(q::as).Nodup
 len:as.length=rows.length
 row:∀(k:Nat)(a:Addr)(ds:List D),as[k]?=some a->rows[k]?=some ds->Wt K F ρ σ H a ds
theorem Nw.stp(w:Nw K x q as F ρ σ H rows)(s:aq K F ρ σ H F' ρ' σ' H'):Nw K x q as F' ρ' σ' H' rows:=by obtain⟨z1,s2,z2,z3⟩:=s.lk x _ w.slot rfl;cases(show s2=.hold rows from z3);exact⟨z2,z1.trans w.val,w.out.stp s,w.nd,w.len,fun k a ds h1 h2=>(w.row k a ds h1 h2).stp s⟩
structure NB(K:PySem.W.Frag)(x:Nat)(q:Addr)(as:List Addr)(F0:Hp)(ρ0:List Sl)(σ0:L2.St)(H0:Hp)(F:Hp)(ρ:List Sl)(σ:L2.St)(H:Hp)(rows:List (List D)):Prop where
 stp:aq K F0 ρ0 σ0 H0 F ρ σ H
 fresh:∀b,b∈q::as->Own ρ0 σ0 b\/H0 b=none
 free:∀s0,ρ0[x]?=some s0->qY s0=false
 nw:Nw K x q as F ρ σ H rows
theorem NB.step(b:NB K x q as F0 ρ0 σ0 H0 F ρ σ H rows)(s:aq K F ρ σ H F' ρ' σ' H'):NB K x q as F0 ρ0 σ0 H0 F' ρ' σ' H' rows:=⟨b.stp.trans s,b.fresh,b.free,b.nw.stp s⟩
theorem yC{s:Sl}{o:Option V}{a:Addr}{ob:HO}(hm:Ex s=true)(h:Kp ρ σ H a ob):Kp (ρ.set x s) (σ.set x o) H a ob:=⟨h.1,fun⟨i,z⟩=>h.2 ⟨i,(fC hm z).1⟩⟩
theorem Ik{s:Sl}{o:Option V}{a:Addr}{ds:List D}(hm:Ex s=true)(h:Wt K F ρ σ H a ds):Wt K F (ρ.set x s) (σ.set x o) H a ds:=by obtain⟨⟨xs,h1,h2⟩,h3⟩:=h;exact⟨⟨xs,yC hm h1,h2⟩,h3⟩
theorem aq.aab{Da:Addr}{o:HO}(s:aq K F ρ σ H F1 ρ1 σ1 H1)(h:Own ρ σ Da\/H Da=none)(hf:F1 Da=none)(ho:¬ Own ρ1 σ1 Da):aq K F ρ σ H F1 ρ1 σ1 (upd H1 Da o):=by
 refine⟨⟨fun b u e=>?_,s.gs.len,s.gs.val,fun i t ds e e'=>?_,s.gs.dis⟩,s.bY,s.vf,fun b u e n=>?_,s.tE,s.len,s.lk⟩
 . have:b≠Da:=by rintro rfl;rw[hf]at e;cases e
   rw[az this];exact s.gs.sub b u e
 . obtain⟨a,xs,q1,q2,q3,q4⟩:=s.gs.own i t ds e e';have:a≠Da:=by rintro rfl;exact ho ⟨i,⟨t,ds,e,e'⟩,q1⟩
   exact⟨a,xs,q1,by rw[az this];exact q2,q3,q4⟩
 . have:b≠Da:=by
    rintro rfl;rcases h with h|h;.exact n h
    .rw[h]at e;cases e
   rw[az this];exact s.keep b u e n
theorem NB.mut{r:Nat}{a:Addr}{row jq:List D}{ys:List V}(b:NB K x q as F0 ρ0 σ0 H0 F ρ σ H rows)(ha:as[r]?=some a)(hr:rows[r]?=some row)(rp:aF K F ys jq):NB K x q as F0 ρ0 σ0 H0 F (ρ.set x (.hold (rows.set r jq))) σ (upd H a (.lst ys)) (rows.set r jq):=by
 have w:=b.nw.row r a row ha hr;obtain⟨⟨xs,k1,r1⟩,f1⟩:=w;have hx:x<ρ.length:=(List.getElem?_eq_some_iff.mp b.nw.slot).1;have sx:σ.set x (some (.ref q))=σ:=by have:=b.nw.val;obtain⟨h1,h2⟩:=List.getElem?_eq_some_iff.mp this;rw[<-h2];simp
 have mem:a∈q::as:=mem_cons_of_mem _ (mem_of_getElem? ha);have s1:=(b.stp.aab (o:=.lst ys) (b.fresh a mem) f1 k1.2).xV (x:=x) (s:=.hold (rows.set r jq)) (o:=some (.ref q)) rfl b.free;rw[sx]at s1;have nq:q≠a:=by have:=(nodup_cons.mp b.nw.nd).1;rintro rfl;exact this (mem_of_getElem? ha)
 have own:∀{c:Addr},¬ Own ρ σ c->¬ Own (ρ.set x (.hold (rows.set r jq))) σ c:=fun{c}h⟨i,z⟩=>h ⟨i,by have:=fC (x:=x) (s:=.hold (rows.set r jq)) (o:=some (.ref q)) (σ:=σ) (ρ:=ρ) rfl (b:=c) (i:=i) (by rw[sx];exact z);exact this.1⟩;refine⟨s1,b.fresh,b.free,⟨getElem?_set_self hx,b.nw.val,⟨⟨by rw[az nq];exact b.nw.out.kp.1,own b.nw.out.kp.2⟩,b.nw.out.fr⟩,b.nw.nd,by simp[b.nw.len],fun k c ds h1 h2=>?_⟩⟩;by_cases hk:k=r;.subst hk;rw[ha]at h1;cases h1;have hl:k<rows.length:=(List.getElem?_eq_some_iff.mp hr).1;rw[getElem?_set_self hl]at h2;cases h2;exact⟨⟨ys,⟨aJ,own k1.2⟩,rp⟩,f1⟩
 . rw[getElem?_set_ne (fun z=>hk z.symm)]at h2;obtain⟨⟨zs,k2,r2⟩,f2⟩:=b.nw.row k c ds h1 h2;have nc:c≠a:=by rintro rfl;have nd:=(nodup_cons.mp b.nw.nd).2;obtain⟨l1,e1⟩:=List.getElem?_eq_some_iff.mp h1;obtain⟨l2,e2⟩:=List.getElem?_eq_some_iff.mp ha;exact hk ((List.getElem_inj nd).mp (e1.trans e2.symm))
   exact⟨⟨zs,⟨by rw[az nc];exact k2.1,own k2.2⟩,r2⟩,f2⟩
noncomputable def Fz(F H:Hp)(bs:List Addr):Hp:=fun b=>if b∈bs then H b else F b
theorem qm{G:Hp}:∀{as:List Addr}{rows:List (List D)},as.length=rows.length->(∀(k:Nat)(a:Addr)(ds:List D),as[k]?=some a->rows[k]?=some ds->Rep K G (.ref a) (.lst ds))->aF K G (as.map V.ref) (rows.map D.lst)|[],[],_,_=>.nil|a::as,ds::rows,h,k=>.cons (k 0 a ds rfl rfl) (qm (by simpa using h) fun j b es h1 h2=>k (j+1) b es (by simpa using h1) (by simpa using h2))|[],_::_,h,_=>by simp at h|_::_,[],h,_=>by simp at h
theorem Nw.JK(w:Nw K x q as F ρ σ H rows){b:Addr}(hb:b∈q::as):F b=none/\¬ Own ρ σ b:=by
 rcases mem_cons.mp hb with rfl|hb;.exact⟨w.out.fr,w.out.kp.2⟩
 . obtain⟨k,hk⟩:=List.getElem?_of_mem hb;have hl:k<rows.length:=by rw[<-w.len];exact(List.getElem?_eq_some_iff.mp hk).1
   obtain⟨⟨xs,k1,_⟩,f1⟩:=w.row k b rows[k] hk (by simp[hl]);exact⟨f1,k1.2⟩
theorem Nw.fz(w:Nw K x q as F ρ σ H rows)(sm:aH F H):aH F (Fz F H (q::as))/\aH (Fz F H (q::as)) H/\Rep K (Fz F H (q::as)) (.ref q) (.lst (rows.map D.lst)):=by
 have s1:aH F (Fz F H (q::as)):=fun b o e=>by unfold Fz;rw[if_neg fun hb=>by rw[(w.JK hb).1]at e;cases e];exact e
 refine⟨s1,fun b o e=>?_,?_⟩
 . unfold Fz at e;split at e;.exact e
   .exact sm b o e
 .rw[Rep];refine⟨q,as.map V.ref,rfl,dM.of (by unfold Fz;rw[if_pos mem_cons_self];exact w.out.kp.1),qm w.len fun k a ds h1 h2=>?_⟩;obtain⟨⟨xs,k1,r1⟩,f1⟩:=w.row k a ds h1 h2;rw[Rep];exact⟨a,xs,rfl,dM.of (by unfold Fz;rw[if_pos (mem_cons_of_mem _ (mem_of_getElem? h1))];exact k1.1),r1.mono s1⟩
theorem NB.cG(b:NB K x q as F0 ρ0 σ0 H0 F ρ σ H rows):aq K F0 ρ0 σ0 H0 (Fz F H (q::as)) (ρ.set x (.val false (.lst (rows.map D.lst)))) σ H:=by
 obtain⟨s1,s2,rp⟩:=b.nw.fz b.stp.gs.sub;have g:=b.stp.gs;have hx:x<ρ.length:=(List.getElem?_eq_some_iff.mp b.nw.slot).1;have old:∀{j:Nat}{c:Addr},aQ (ρ.set x (.val false (.lst (rows.map D.lst)))) σ j c->aQ ρ σ j c/\x≠j:=fun{j c}⟨⟨t,ds,e,e'⟩,e1⟩=>by
  by_cases hj:x=j;.subst hj;rw[getElem?_set_self hx]at e;cases e;cases e'
  .rw[getElem?_set_ne hj]at e;exact⟨⟨⟨t,ds,e,e'⟩,e1⟩,hj⟩
 refine⟨⟨s2,by simp[g.len],fun i bb d e=>?_,fun i t ds e e'=>?_,fun i j c h1 h2=>g.dis i j c (old h1).1 (old h2).1⟩,b.stp.bY.trans s1,fun c n n'=>?_,b.stp.keep,fun c⟨j,h⟩=>b.stp.tE c ⟨j,(old h).1⟩,by simp[b.stp.len],fun i t e l=>?_⟩
 . by_cases hj:x=i;.subst hj;rw[getElem?_set_self hx]at e;cases e;exact⟨_,b.nw.val,rp⟩
   .rw[getElem?_set_ne hj]at e;obtain⟨v,h1,h2⟩:=g.val i bb d e;exact⟨v,h1,h2.mono s1⟩
 . by_cases hj:x=i;.subst hj;rw[getElem?_set_self hx]at e;cases e;cases e'
   .rw[getElem?_set_ne hj]at e;obtain⟨a,o,h1,h2,h3,h4⟩:=g.own i t ds e e';refine⟨a,o,h1,h2,?_,h4.mono s1⟩;unfold Fz;rw[if_neg fun hb=>(b.nw.JK hb).2 ⟨i,⟨t,ds,e,e'⟩,h1⟩];exact h3
 . by_cases hc:c∈q::as;.exact(b.fresh c hc).imp id jb
   . have:Fz F H (q::as) c=F c:=by unfold Fz;rw[if_neg hc]
     rw[this]at n';exact b.stp.vf c n n'
 . have c:x≠i:=by rintro rfl;rw[b.free _ e]at l;cases l
   obtain⟨z1,s3,z2,z3⟩:=b.stp.lk i t e l;exact⟨z1,s3,by rw[getElem?_set_ne c];exact z2,z3⟩
end
inductive NQ(K:PySem.W.Frag)(x:Nat)(f:List Sl->Res Fl)(E:Ends)(σ:L2.St)(H:Hp):Prop where|mk(F0:Hp)(ρ0:List Sl)(σ0:L2.St)(H0 F:Hp)(ρ:List Sl)(q:Addr)(as:List Addr)(rows:List (List D))(fl:Fl)(ρ':List Sl)(b:NB K x q as F0 ρ0 σ0 H0 F ρ σ H rows)(e:f ρ=.ok fl ρ')(k:∀F' σ' H',aq K F0 ρ0 σ0 H0 F' ρ' σ' H'->aH F F'->((∀r,fl≠.ret r)->∃mJ,NB K x q as F0 ρ0 σ0 H0 F' ρ' σ' H' mJ)->Dq K E F' ρ' σ' H' ρ0 σ0 H0 fl)
inductive Vk(K:PySem.W.Frag)(x:Nat)(f:List Sl->Res Fl)(E:Ends)(σ:L2.St)(H:Hp):Prop where|mk(F0:Hp)(ρ0:List Sl)(σ0:L2.St)(H0 F:Hp)(ρ:List Sl)(q:Addr)(as:List Addr)(rows:List (List D))(fl:Fl)(ρ':List Sl)(b:NB K x q as F0 ρ0 σ0 H0 F ρ σ H rows)(e:f ρ=.ok fl ρ')(k:∀F' σ' H',aq K F0 ρ0 σ0 H0 F' ρ' σ' H'->Dq K E F' ρ' σ' H' ρ0 σ0 H0 fl)
structure Tt(X:Cx)(c:Call)(n x:Nat)(st:Stmt)(s:S):Prop where p:PS X st (NQ X.K x (ex c n s))
structure Ry(X:Cx)(c:Call)(n x:Nat)(st:List Stmt)(s:List S):Prop where p:uf X st (NQ X.K x (gH c n s))
structure Yl(X:Cx)(c:Call)(n x:Nat)(st:List Stmt)(s:List S):Prop where p:uf X st (Vk X.K x (gH c n s))
section
variable{X:Cx}{c:Call}{n x:Nat}{e a b d tg iter:Expr}{p pa pb pd:P}{pos:Pos}{body:List Stmt}{ss:List S}{st:Stmt}{s:S}{sts:List Stmt}
theorem m5:Ry X c n x [] []:=⟨lE yJ fun D σ H⟨F0,ρ0,σ0,H0,F,ρ,q,as,rows,fl,ρ',nb,e,k⟩=>by rw[xs0]at e;cases e;exact k F σ H nb.stp (.refl _) fun _=>⟨rows,nb⟩⟩
theorem nH(h1:Tt X c n x st s)(h2:Ry X c n x sts ss):Ry X c n x (st::sts) (s::ss):=by refine⟨lE (kJ h1.p h2.p) ?_⟩;rintro D σ H⟨F0,ρ0,σ0,H0,F,ρ,q,as,rows,fl,ρ',nb,e,k⟩;rw[Lh]at e;obtain⟨f1,ρ1,e1,e⟩:=aa e;cases f1 with|next=>refine⟨F0,ρ0,σ0,H0,F,ρ,q,as,rows,.next,ρ1,nb,e1,fun F1 σ1 H1 s1 sm nn=>?_⟩;obtain⟨Gi,Lb⟩:=nn (fun r z=>by cases z);exact⟨F0,ρ0,σ0,H0,F1,ρ1,q,as,Gi,fl,ρ',Lb,e,fun F2 σ2 H2 s2 Qx nn2=>k F2 σ2 H2 s2 (sm.trans Qx) nn2⟩|brk=>cases e;exact⟨F0,ρ0,σ0,H0,F,ρ,q,as,rows,.brk,_,nb,e1,k⟩|cont=>cases e;exact⟨F0,ρ0,σ0,H0,F,ρ,q,as,rows,.cont,_,nb,e1,k⟩|ret r=>cases e;exact⟨F0,ρ0,σ0,H0,F,ρ,q,as,rows,.ret r,_,nb,e1,k⟩
theorem Dh(h1:Tt X c n x st s)(h2:Yl X c n x sts ss):Yl X c n x (st::sts) (s::ss):=by refine⟨lE (kJ h1.p h2.p) ?_⟩;rintro D σ H⟨F0,ρ0,σ0,H0,F,ρ,q,as,rows,fl,ρ',nb,e,k⟩;rw[Lh]at e;obtain⟨f1,ρ1,e1,e⟩:=aa e;cases f1 with|next=>refine⟨F0,ρ0,σ0,H0,F,ρ,q,as,rows,.next,ρ1,nb,e1,fun F1 σ1 H1 s1 sm nn=>?_⟩;obtain⟨Gi,Lb⟩:=nn (fun r z=>by cases z);exact⟨F0,ρ0,σ0,H0,F1,ρ1,q,as,Gi,fl,ρ',Lb,e,k⟩|brk=>cases e;exact⟨F0,ρ0,σ0,H0,F,ρ,q,as,rows,.brk,_,nb,e1,fun F1 σ1 H1 s1 _ _=>k F1 σ1 H1 s1⟩|cont=>cases e;exact⟨F0,ρ0,σ0,H0,F,ρ,q,as,rows,.cont,_,nb,e1,fun F1 σ1 H1 s1 _ _=>k F1 σ1 H1 s1⟩|ret r=>cases e;exact⟨F0,ρ0,σ0,H0,F,ρ,q,as,rows,.ret r,_,nb,e1,fun F1 σ1 H1 s1 _ _=>k F1 σ1 H1 s1⟩
theorem HY(h:SB X c n sts ss):Yl X c n x sts (.cG x::ss):=by refine⟨lE h ?_⟩;rintro D σ H⟨F0,ρ0,σ0,H0,F,ρ,q,as,rows,fl,ρ',nb,e,k⟩;rw[Lh]at e;obtain⟨f1,ρ1,e1,e⟩:=aa e;rw[HH.X22,nb.nw.slot]at e1;cases e1;have t:=nb.cG;refine⟨_,_,fl,ρ',t.gs,e,fun F' σ' H' s=>?_⟩;have z:=k F' σ' H' (t.trans s);cases fl with|next=>exact z|brk=>exact z|cont=>exact z|ret r=>exact fun v rr=>z v (rr.later t)
theorem N8{sa sb:List Stmt}{ta tb:List S}(hc:ST X c e p)(ha:Ry X c n x sa ta)(hb:Ry X c n x sb tb):Tt X c n x (.If e sa sb pos) (.ifs p ta tb):=by refine⟨dB (J3 hc ha.p hb.p) ?_⟩;rintro D σ H⟨F0,ρ0,σ0,H0,F,ρ,q,as,rows,fl,ρ',nb,e,k⟩;rw[HH.W7]at e;obtain⟨t,ρ1,e1,e⟩:=aa e;refine⟨F,ρ,t,ρ1,nb.stp.gs,e1,fun F1 H1 s1=>?_⟩;have go:∀{f:List Sl->Res Fl},f ρ1=.ok fl ρ'->NQ X.K x f D σ H1:=fun{f}h=>⟨F0,ρ0,σ0,H0,F1,ρ1,q,as,rows,fl,ρ',nb.step s1,h,fun F2 σ2 H2 s2 sm nn=>k F2 σ2 H2 s2 (s1.bY.trans sm) nn⟩;cases t with|true=>rw[if_pos rfl]at e;exact go e|false=>rw[if_neg Bool.false_ne_true]at e;exact go e
theorem CN{ρ:List Sl}{rows:List (List D)}(h:gY ρ x=some rows):ρ[x]?=some (.hold rows):=by
 unfold gY at h;split at h;.rename_i z;cases h;exact z
 .cases h
def WalkN(K:PySem.W.Frag)(J:It)(ds:List D)(F1:Hp):Prop:=∀(k:Nat)(F' H':Hp),aH F1 F'->aH F' H'->(∀d,ds[k]?=some d->J.go k H'/\∀x jL,J.Gw k H' x jL->∃F'',Ext F' H' F'' jL/\Rep K F'' x d)/\(ds.length<=k->J.stop k H')
inductive Zt(K:PySem.W.Frag)(f:Ev)(σ:L2.St)(H:Hp)(R:It->Hp->Prop):Prop where|mk(F:Hp)(ρ:List Sl)(r:HH.R)(ρ1:List Sl)(ds:List D)(g:GS K F ρ σ H)(e:f ρ=.ok r ρ1)(e2:items r.d=some ds)(k:∀J F1 H1,aq K F ρ σ H F1 ρ1 σ H1->WalkN K J ds F1->R J H1)
structure SIN(X:Cx)(c:Call)(tg e:Expr)(p:P):Prop where p:PI X tg e (Zt X.K (HH.ev c p))
theorem Hb(h:SX X c e p):SIN X c tg e p:=by refine⟨oh (wF h.ev) ?_⟩;rintro σ H R⟨F,ρ,r,ρ1,ds,g,e,e2,k⟩;refine⟨F,ρ,r,ρ1,g,e,fun v F' H' s rr=>?_⟩;obtain⟨F2,s2,_,rp⟩:=s.cG rr;cases hd:r.d with|tup es=>rw[hd]at rp e2;cases e2;rw[Rep]at rp;obtain⟨a,xs,rfl,h1,h2⟩:=rp;exact⟨a,rfl,.inr ⟨⟨xs,aH.fM s2.gs.sub h1⟩,k _ _ _ s2 fun k F3 H3 We Qx=>yK (aH.fM Qx (aH.fM We h1)) (h2.mono We) Qx k⟩⟩|lst es=>rw[hd]at rp e2;cases e2;rw[Rep]at rp;obtain⟨a,xs,rfl,h1,h2⟩:=rp;exact⟨a,rfl,.inl ⟨⟨xs,s2.gs.sub.seq h1⟩,k _ _ _ s2 fun k F3 H3 We Qx=>pD (Qx.seq (We.seq h1)) (h2.mono We) Qx k⟩⟩|_=>rw[hd]at e2;cases e2
theorem zV{K:PySem.W.Frag}{F1:Hp}(i j:Int):WalkN K (Us i (j-i).toNat) ((List.range (j-i).toNat).map fun(k:Nat)=>D.int (i+(k:Int))) F1:=by
 refine fun k F' H' _ sm=>⟨fun d hd=>?_,fun h=>?_⟩;.rw[getElem?_map]at hd;obtain⟨m,e1,e2⟩:=map_some hd;obtain⟨h1,h2⟩:=List.getElem?_eq_some_iff.mp e1;rw[List.getElem_range]at h2;subst h2;subst e2;rw[length_range]at h1;refine⟨h1,?_⟩;rintro x jL⟨q1,q2⟩;subst q1;subst q2;exact⟨F',.refl sm,bA _⟩
 .rw[length_map,length_range]at h;exact h
theorem Fb{x:Str}{p':Pos}(hx:x="range")(hg:Gl X x)(hm:X.mg x=none)(ha:SX X c a pa)(hs:starEach [a] X.env=[(false,eval a X.env)]:=by rfl):SIN X c tg (.Call (.Name x p') [a] [] pos) (.zq (.con (.int 0)) pa):=by
 subst hx;obtain⟨ta,h1,h2⟩:=ha.bW;refine⟨oh (p6 hg hm (cV h1 fB hs) hs) ?_⟩;rintro σ H R⟨F,ρ,r,ρ1,ds,g,e1,e2,k⟩;rw[HH.E18]at e1;obtain⟨xy,ρ3,e4,e5⟩:=aa e1;have zz:=aG e5;clear e5;obtain⟨e5,e6⟩:=zz;subst e6;obtain⟨y0,ρ5,e9,e10⟩:=aa e4;cases e10;obtain⟨i,f1,e5⟩:=bU e5;obtain⟨j,f2,e5⟩:=bU e5;obtain⟨⟨b1,b2,b3,b4⟩,e5⟩:=bj e5;have f1:i=0:=by cases f1;rfl
 subst f1;subst e5;cases e2;cases cQ f2;refine h2 g e9 fun v F' H' s pv=>⟨j,by rw[pv.int],by omega,by omega,?_⟩;have:=zV (K:=X.K) (F1:=F') 0 j;rw[sub_zero]at this;refine k _ F' H' s ?_;rw[sub_zero];exact this
theorem xZ{g:TG}{is:List Nat}{one:Bool}(hp:PassesOwn (model X.prog X.w) X.A X.env X.xe)(hc:X.calm=true)(hi:SIN X c tg iter p)(hg:PG X tg g)(hgo:HQ X.K (fun ρ d=>cB ρ is one d) g)(hb:Ry X c n x body ss)(hs:∀x,foldedSetIterable iter X.env x=pure x:=by intro _;rfl):Tt X c n x (.For tg iter body [] pos) (.Bc p is one ss):=by
 refine⟨dB (Bq hp hc hi.p hg hb.p hs) ?_⟩;rintro D σ H⟨F0,ρ0,σ0,H0,F,ρ,q,as,rows,fl,ρ',nb,e,k⟩;rw[HH.X21]at e;obtain⟨r,ρ1,e1,e⟩:=aa e;obtain⟨ds,ρ9,e9,e2⟩:=aa e;have zz:=aG e9;clear e9;obtain⟨e9,e91⟩:=zz;subst e91;refine⟨F,ρ,r,ρ1,ds,nb.stp.gs,e1,e9,fun J F1 H1 s1 w=>?_⟩;refine⟨fun i m σi Hi=>∃Fi ρi qM,NB X.K x q as F0 ρ0 σ0 H0 Fi ρi σi Hi qM/\aH F1 Fi/\m=ds.length-i/\i<=ds.length/\gw is one (gH c n ss) (ds.drop i) ρi=.ok fl ρ',⟨_,F1,ρ1,rows,nb.step s1,.refl _,rfl,zero_le _,e2⟩,?_⟩;rintro i m σi Hi⟨Fi,ρi,qM,Wf,smi,rfl,hle,ei⟩;obtain⟨w1,w2⟩:=w i Fi Hi smi Wf.stp.gs.sub;by_cases hlt:i<ds.length
 . right;have hd:ds[i]?=some ds[i]:=by simp[hlt]
   obtain⟨go,step⟩:=w1 _ hd;refine⟨go,fun σ' H'=>∃m',m'<ds.length-i/\∃Fi ρi qM,NB X.K x q as F0 ρ0 σ0 H0 Fi ρi σ' H' qM/\aH F1 Fi/\m'=ds.length-(i+1)/\i+1<=ds.length/\gw is one (gH c n ss) (ds.drop (i+1)) ρi=.ok fl ρ',fun σ' H' z=>z,fun y H' yy=>?_⟩;obtain⟨F2,ext,rx⟩:=step y H' yy;have t2:=ext.stp Wf.stp.gs;rw[drop_eq_getElem_cons hlt,gw]at ei;cases hbd:cB ρi is one ds[i]with|none=>rw[hbd]at ei;cases ei|some ρb=>rw[hbd]at ei;obtain⟨flb,ρc,eb,ei⟩:=aa ei;refine hgo y _ F2 ρi ρb σi H' _ t2.gs rx hbd fun σ2 sb=>?_;have t3:=t2.trans sb;refine⟨F0,ρ0,σ0,H0,F2,ρb,q,as,qM,flb,ρc,Wf.step t3,eb,fun F4 σ4 H4 s4 sm4 nn4=>?_⟩;have YF:aH F1 F4:=smi.trans (ext.fs.trans sm4);cases flb with|next=>obtain⟨Gj,nb4⟩:=nn4 (fun r z=>by cases z);exact⟨_,by omega,F4,ρc,Gj,nb4,YF,rfl,hlt,ei⟩|cont=>obtain⟨Gj,nb4⟩:=nn4 (fun r z=>by cases z);exact⟨_,by omega,F4,ρc,Gj,nb4,YF,rfl,hlt,ei⟩|brk=>cases ei;exact k F4 σ4 H4 s4 (s1.bY.trans YF) fun _=>nn4 (fun r z=>by cases z)|ret r=>cases ei;exact fun v rr=>k F4 σ4 H4 s4 (s1.bY.trans YF) (fun h=>(h r rfl).elim) v rr
 . left;have hdr:ds.drop i=[]:=by rw[drop_eq_nil_iff];omega
   rw[hdr,gw]at ei;cases ei;exact⟨w2 (by omega),k Fi σi Hi Wf.stp (s1.bY.trans smi) fun _=>⟨qM,Wf⟩⟩
end
section
variable{X:Cx}{c:Call}{n:Nat}{e a b d i j:Expr}{p pa pb pd pi pj:P}{pos:Pos}
theorem Hq{ρ ρ':List Sl}{x:Nat}{o:Option (List (List D))}{fl:Fl}(h:Ah ρ x o=.ok fl ρ'):∃rows,o=some rows/\fl=.next/\ρ'=ρ.set x (.hold rows):=by cases o with|none=>cases h|some rows=>cases h;exact⟨rows,rfl,rfl,rfl⟩
section
variable{K:PySem.W.Frag}{F H F0 H0:Hp}{ρ ρ0:List Sl}{σ σ0:L2.St}{x:Nat}{q:Addr}{as:List Addr}{rows mJ:List (List D)}
theorem NB.hold(nb:NB K x q as F0 ρ0 σ0 H0 F ρ σ H rows)(h:gY ρ x=some mJ):mJ=rows:=by have:=CN h;rw[nb.nw.slot]at this;cases this;rfl
theorem NB.at{k:Int}{r:Nat}{row:List D}(nb:NB K x q as F0 ρ0 σ0 H0 F ρ σ H rows)(h1:HH.ig rows.length k=some r)(h2:rows[r]?=some row):∃a ys,as[r]?=some a/\BJ (as.map V.ref) k=some (.ref a)/\H a=some (.lst ys)/\aF K F ys row:=by
 have hl:r<as.length:=by rw[nb.nw.len];exact(List.getElem?_eq_some_iff.mp h2).1
 obtain⟨⟨ys,k1,r1⟩,_⟩:=nb.nw.row r as[r] row (by simp[hl]) h2;refine⟨as[r],ys,by simp[hl],?_,k1.1,r1⟩;unfold BJ;rw[length_map,nb.nw.len];rw[show L2.ig rows.length k=some r from h1];simp[hl]
theorem NB.rK{dk:D}{row:List D}(nb:NB K x q as F0 ρ0 σ0 H0 F ρ σ H rows)(h:HH.rK ρ x dk=some row):∃k a,(∃r:Nat,as[r]?=some a)/\BJ (as.map V.ref) k=some (.ref a)/\dk=.int k/\∃ys,H a=some (.lst ys)/\aF K F ys row:=by unfold HH.rK at h;obtain⟨rows0,h1,h⟩:=bU h;cases nb.hold h1;obtain⟨k,h2,h⟩:=bU h;obtain⟨r,h3,h4⟩:=bU h;obtain⟨a,ys,g1,g2,g3,g4⟩:=nb.at h3 h4;exact⟨k,a,⟨r,g1⟩,g2,cQ h2,ys,g3,g4⟩
end
theorem Ae{rows mJ:List (List D)}{k:Int}{f:List D->Option (List D)}(h:iG rows k f=some mJ):∃r row jq,HH.ig rows.length k=some r/\rows[r]?=some row/\f row=some jq/\mJ=rows.set r jq:=by unfold iG at h;obtain⟨r,h1,h⟩:=bU h;obtain⟨row,h2,h⟩:=bU h;obtain⟨jq,h3,h⟩:=map_some h;exact⟨r,row,jq,h1,h2,h3,h.symm⟩
theorem Bx{x:Str}{k:Nat}{px ipos apos cpos:Pos}(hN:X.N[k]?=some x)(hv:tu X.env.scope x)(hi:SX X c i pi)(he:SX X c e p)(hpx:qX i:=by intro _ _;rfl)(hline:(apos.endLine==cpos.line)=true:=by rfl)(hs:starEach [e] X.env=(false,eval e X.env)::starEach [] X.env:=by rfl)(hbase:attributeBase (.Subscript (.Name x px) i ipos) "append" X.env (eval (.Subscript (.Name x px) i ipos) X.env)=eval (.Subscript (.Name x px) i ipos) X.env:=by rfl)(hfew:((backTo cpos (starEach [e] X.env)).all (fun x=>!x.1)&&(backToKw cpos (keywordEach [] X.env)).all (fun x=>x.1.isSome)&&decide ([e].length+([]:List Keyword).length+(if([]:List Keyword).isEmpty then 0 else 1)<30))=true:=by rfl)(hsw:swapsWith (.Call (.Attribute (.Subscript (.Name x px) i ipos) "append" apos) [e] [] cpos) none pos.line X.env=pure false:=by rfl)(hd:(x==("__debug__":Str))=false:=by decide)(hcd:(x==("__classdict__":Str))=false:=by decide):Tt X c n k (.Expr (.Call (.Attribute (.Subscript (.Name x px) i ipos) "append" apos) [e] [] cpos) pos) (.Gg k pi p):=by obtain⟨ti,hi1,hi2⟩:=hi.bW;refine⟨dB (rG (BK plainAttrs_list PySem.F.slot_list_append PySem.F.type_list_append lz (Kc zb (dN hN hv hd hcd) hi1 hpx) (cV he.ev fB hs) hbase hfew hline hs) hsw) ?_⟩;rintro E σ H⟨F0,ρ0,σ0,H0,F,ρ,q,as,rows,fl,ρ',nb,e,kk⟩;rw[HH.X20]at e;obtain⟨dk,ρ2,e2,e⟩:=aa e;obtain⟨row0,ρ2',e8,e⟩:=aa e;have zz:=aG e8;clear e8;obtain⟨e8,e81⟩:=zz;subst e81;obtain⟨r,ρ3,e3,e⟩:=aa e;obtain⟨rs,e4,rfl,rfl⟩:=Hq e;refine⟨.ref q,nb.nw.val,hi2 nb.stp.gs e2 fun vi F1 H1 s1 pi=>?_⟩;have Lb:=nb.step s1;obtain⟨k0,a,g1,g2,g0,ys,g3,g4⟩:=Lb.rK e8;rw[g0]at pi;refine⟨q,_,k0,_,rfl,pi.int,dM.of Lb.nw.out.kp.1,g2,.inl ⟨rfl,ys,dM.of g3⟩,F1,ρ2,r,ρ3,Lb.stp.gs,e3,fun v F2 H2 s2 rr=>?_⟩;obtain⟨F3,s3,_,rp⟩:=s2.cG rr;have nb3:=Lb.step s3;obtain⟨rows0,e5,e4⟩:=bU e4;cases nb3.hold e5;obtain⟨k1,e6,e4⟩:=bU e4;obtain⟨m,row,jq,f1,f2,f3,rfl⟩:=Ae e4;obtain⟨hlt,rfl⟩:=bj f3;have:=cQ e6;rw[g0]at this;cases this;obtain⟨a',ys',g1',g2',g3',g4'⟩:=nb3.at f1 f2;rw[g2]at g2';cases g2';have nb5:=nb3.mut g1' f2 (g4'.append (.cons rp .nil));exact⟨a,ys',v,rfl,rfl,g3',by rw[g4'.length];exact hlt,kk F3 σ _ nb5.stp (s1.bY.trans s3.bY) fun _=>⟨_,nb5⟩⟩
end
section
variable{K:PySem.W.Frag}{F H F1 H1:Hp}{ρ ρ1:List Sl}{σ σ1:L2.St}
theorem aq.since{b:Addr}(s:aq K F ρ σ H F1 ρ1 σ1 H1)(h:H1 b=none):Own ρ σ b\/H b=none:=by
 by_cases ho:Own ρ σ b;.exact .inl ho
 .right;cases e:H b with|none=>rfl|some o=>rw[s.keep b o e ho]at h;cases h
theorem NB.mk'{x:Nat}{q:Addr}{as:List Addr}{rows:List (List D)}{s1:Sl}(s:aq K F ρ σ H F1 ρ1 σ1 H1)(hx:ρ1[x]?=some s1)(hl:qY s1=false)(hq:N5 F1 ρ1 σ1 H1 q (as.map V.ref))(nd:(q::as).Nodup)(len:as.length=rows.length)(row:∀(k:Nat)(a:Addr)(ds:List D),as[k]?=some a->rows[k]?=some ds->Wt K F1 ρ1 σ1 H1 a ds)(fr:∀b,b∈q::as->Own ρ σ b\/H b=none):NB K x q as F ρ σ H F1 (ρ1.set x (.hold rows)) (σ1.set x (some (.ref q))) H1 rows:=by
 have hi:x<ρ1.length:=(List.getElem?_eq_some_iff.mp hx).1;have hi':x<σ1.length:=by rw[<-s.gs.len];exact hi
 exact⟨s.xV rfl (s.free hx hl),fr,s.free hx hl,⟨getElem?_set_self hi,getElem?_set_self hi',⟨yC rfl hq.kp,hq.fr⟩,nd,len,fun k a ds h1 h2=>Ik rfl (row k a ds h1 h2)⟩⟩
end
theorem Df{K:PySem.W.Frag}{F H:Hp}{ρ ρ1 ρ2:List Sl}{σ:L2.St}{ul:List Sl->List Sl}{ti:TI}{is:List Nat}{one:Bool}{c:Call}{el:Ev}{g:TG}{Q:VK}{ds:List D}{rows:List (List D)}{m n:Nat}(hm:σ.length=m)(hgo:mG K m is one g)(hti:∀R:It->Hp->Prop,(∀J F1 H1,Walk K F ρ σ H ul J ds F1 ρ1 H1->R J H1)->ti σ H R)(hlim:ds.length<=lim)(e2:dY is one el ds [] (ρ1++replicate n .aU)=.ok rows ρ2)(k:∀ q as F' H',aq K F ρ σ H F' (ul (ρ2.take ρ1.length)) σ H'->N5 F' (ul (ρ2.take ρ1.length)) σ H' q (as.map V.ref)->(q::as).Nodup->as.length=rows.length->(∀(k:Nat)(a:Addr)(ds:List D),as[k]?=some a->rows[k]?=some ds->Wt K F' (ul (ρ2.take ρ1.length)) σ H' a ds)->(∀b,b∈q::as->Own ρ σ b\/H b=none)->Q (.ref q) H'):qu n ti g (Fw K (sH c none)) (yE K el) σ H Q:=by
 refine hti _ fun J F1 H1 w Da zx=>?_;have hl1:ρ1.length=σ.length:=w.gs.len;have gm:=w.gs.more (n:=n) (τ:=replicate n none) (by simp);have fD:F1 Da=none:=by cases q:F1 Da with|none=>rfl|some o=>rw[w.gs.sub Da o q]at zx;cases zx
 have nO:¬ Own (ρ1++replicate n .aU) (σ++replicate n none) Da:=fun⟨i,⟨t,dt,q1,q2⟩,q3⟩=>by obtain⟨a,ys,z1,z2,_⟩:=gm.own i t dt q1 q2;rw[q3]at z1;cases z1;rw[zx]at z2;cases z2
 refine⟨fun i mm ys σi Hi=>∃Fi ρi acc as,aq K F1 (ρ1++replicate n .aU) (σ++replicate n none) H1 Fi ρi σi Hi/\σi.take m=σ/\ys=as.map V.ref/\Hi Da=some (.lst ys)/\Fi Da=none/\¬ Own ρi σi Da/\(Da::as).Nodup/\as.length=acc.length/\(∀(k:Nat)(a:Addr)(ds:List D),as[k]?=some a->acc[k]?=some ds->Wt K Fi ρi σi Hi a ds/\(Own (ρ1++replicate n .aU) (σ++replicate n none) a\/H1 a=none))/\acc.length<=i/\mm=ds.length-i/\i<=ds.length/\dY is one el (ds.drop i) acc ρi=.ok rows ρ2,⟨_,F1,_,[],[],(aq.refl gm).CW zx fD nO,by rw[List.take_append_of_le_length (by omega),List.take_of_length_le (by omega)],rfl,aJ,fD,nO,by simp,rfl,fun k a ds h=>by simp at h,zero_le _,rfl,zero_le _,e2⟩,?_⟩;rintro i mm ys σi Hi⟨Fi,ρi,acc,as,si,hσ,hys,hD,hF,hO,hnd,hlen,hrow,hacc,rfl,hle,ei⟩;refine⟨hD,?_⟩;have stay:∀{F2 H2:Hp}{ρ3:List Sl}{σ2:L2.St},aq K Fi ρi σi Hi F2 ρ3 σ2 H2->H2 Da=some (.lst ys)/\F2 Da=none/\¬ Own ρ3 σ2 Da:=fun{F2 H2 ρ3 σ2}s=>by have:=(N5.stp (xs:=ys) ⟨⟨hD,hO⟩,hF⟩ s);exact⟨this.kp.1,this.fr,this.kp.2⟩
 obtain⟨s1,s2⟩:=w.src n i Fi ρi σi Hi si;by_cases hlt:i<ds.length
 . right;have hd:ds[i]?=some ds[i]:=by simp[hlt]
   obtain⟨go,step⟩:=s1 _ hd;refine⟨go,fun x H2 y=>?_⟩;obtain⟨F2,ext,rx⟩:=step x H2 y;have t2:=ext.stp si.gs;rw[drop_eq_getElem_cons hlt,dY]at ei;cases hbd:cB ρi is one ds[i]with|none=>rw[hbd]at ei;cases ei|some ρb=>rw[hbd]at ei;obtain⟨re,ρe,ee,ei⟩:=aa ei;cases re with|val _=>cases ei|own rw0=>
     replace ei:dY is one el (ds.drop (i+1)) (acc++[rw0]) ρe=.ok rows ρ2:=ei;refine hgo x _ F2 ρi ρb σi H2 _ t2.gs rx hbd fun σ2 sb htk=>?_;have t3:=t2.trans sb;refine⟨F2,ρb,true,ρb,t3.gs,by rw[sH],fun F4 H4 s4=>?_⟩;have t4:=t3.trans s4;refine(show yE K el σ2 H4 _ from⟨F4,ρb,.own rw0,ρe,t4.gs,ee,fun v F5 H5 s5 rr=>?_⟩);have t6:=t4.trans s5;obtain⟨y1,y2,y3⟩:=stay t6;obtain⟨z1,z2,z3⟩:=stay t4;have hlen2:ys.length<sizeLine:=by have h2:lim=sizeLine:=rfl;rw[hys,length_map];omega
     obtain⟨A,xs,rfl,a1,a2,a3,a4,a5⟩:=rr;have nDA:A≠Da:=by
      rintro rfl;rcases a5 with z|z;.exact z3 z
      .rw[z1]at z;cases z
     have nA:A∉as:=fun hA=>by
      obtain⟨k0,hk0⟩:=List.getElem?_of_mem hA;have hl0:k0<acc.length:=by rw[<-hlen];exact(List.getElem?_eq_some_iff.mp hk0).1
      obtain⟨⟨zs,k1,_⟩,_⟩:=(hrow k0 A acc[k0] hk0 (by simp[hl0])).1.stp t4;rcases a5 with z|z;.exact k1.2 z
      .rw[k1.1]at z;cases z
     have fA:Own (ρ1++replicate n .aU) (σ++replicate n none) A\/H1 A=none:=by
      have t:=si.trans t4;rcases a5 with z|z;.exact t.tE A z
      .exact t.since z
     refine⟨y1,hlen2,_,by omega,F5,ρe,acc++[rw0],as++[A],(si.trans t6).CW zx y2 y3,htk.trans hσ,by rw[hys];simp,aJ,y2,y3,?_,by simp[hlen],fun k0 a0 ds0 h1 h2=>?_,by simp;omega,rfl,hlt,ei⟩
     . rw[<-cons_append,nodup_append];refine⟨hnd,by simp,fun p hp r hr=>?_⟩;simp at hr;subst hr;rcases mem_cons.mp hp with rfl|hp;.exact fun z=>nDA z.symm
       .rintro rfl;exact nA hp
     . by_cases hk0:k0<as.length
       . rw[getElem?_append_left hk0]at h1;rw[getElem?_append_left (by omega)]at h2;obtain⟨w0,f0⟩:=hrow k0 a0 ds0 h1 h2;obtain⟨⟨zs,k1,r1⟩,g1⟩:=w0.stp t6;have na:a0≠Da:=by rintro rfl;exact(nodup_cons.mp hnd).1 (mem_of_getElem? h1)
         exact⟨⟨⟨zs,⟨by rw[az na];exact k1.1,k1.2⟩,r1⟩,g1⟩,f0⟩
       . rw[getElem?_append_right (by omega)]at h1;rw[getElem?_append_right (by omega)]at h2;have:k0-as.length=0:=by have:=(List.getElem?_eq_some_iff.mp h1).1;simp at this;exact this
         rw[this]at h1;rw[<-hlen,this]at h2;cases h1;cases h2;exact⟨⟨⟨xs,⟨by rw[az nDA];exact a1,a4⟩,a3⟩,a2⟩,fA⟩
 . left;have hdr:ds.drop i=[]:=by rw[drop_eq_nil_iff];omega
   rw[hdr,dY]at ei;cases ei;refine⟨s2 (by omega),?_⟩;have hst:σi.take ρ1.length=σ:=by rw[hl1,hm];exact hσ
   obtain⟨l1,l2⟩:=aq.less (m:=ρ1.length) rfl w.gs (by simp) si;rw[hst]at l1;obtain⟨z1,z2⟩:=w.fin _ _ _ _ l1--the outer list:with nothing in it,it is like any new one
   have si':=si.CW (o:=.lst []) zx hF hO;obtain⟨l1',Su⟩:=aq.less (m:=ρ1.length) rfl w.gs (by simp) si';rw[hst]at l1';obtain⟨z1',z2'⟩:=w.fin _ _ _ _ l1';have rr:bV K Fi ρ2 σi (upd Hi Da (.lst [])) (ρ1++replicate n .aU) (σ++replicate n none) H1 (.ref Da) (.own []):=⟨Da,[],rfl,aJ,hF,.nil,hO,.inr zx⟩;have La:=Su _ _ rr;rw[hst]at La;obtain⟨_,_,q0,_,q3,_,q5,q6⟩:=z2' _ _ La;cases q0;have rws:∀(k:Nat)(a:Addr)(ds:List D),as[k]?=some a->rows[k]?=some ds->Wt K Fi (ul (ρ2.take ρ1.length)) σ Hi a ds/\(Own ρ σ a\/H a=none):=fun k a ds h1 h2=>by obtain⟨⟨⟨xs,k1,r1⟩,f1⟩,f2⟩:=hrow k a ds h1 h2;have rr:bV K Fi ρ2 σi Hi (ρ1++replicate n .aU) (σ++replicate n none) H1 (.ref a) (.own ds):=⟨a,xs,rfl,k1.1,f1,r1,k1.2,f2⟩;have La:=l2 _ _ rr;rw[hst]at La;obtain⟨a',xs',q0,q2,q3,q4,q5,q6⟩:=z2 _ _ La;cases q0;exact⟨⟨⟨xs',⟨q2,q5⟩,q4⟩,q3⟩,q6⟩
   refine k Da as Fi Hi z1 ⟨⟨by rw[hD,hys],q5⟩,q3⟩ hnd hlen (fun k a ds h1 h2=>(rws k a ds h1 h2).1) fun b hb=>?_;rcases mem_cons.mp hb with rfl|hb;.exact q6
   . obtain⟨k0,hk0⟩:=List.getElem?_of_mem hb;have hl0:k0<rows.length:=by rw[<-hlen];exact(List.getElem?_eq_some_iff.mp hk0).1
     exact(rws k0 b rows[k0] hk0 (by simp[hl0])).2
section
variable{X:Cx}{c:Call}{nn n:Nat}{tg iter elt:Expr}{ps pe:P}{pos:Pos}{sts:List Stmt}{ss:List S}{scope:Scope}{N':List Str}
theorem Hy{i:Nat}{x:Str}{pos' spos:Pos}{g:TG}{is:List Nat}{one:Bool}(hc:X.calm=true)(hN:X.N.Nodup)(hx0:X.N[i]?=some x)(hx:Loc X.env.scope x)(ok:eN X scope N' n)(hi:SI X c tg iter ps)(hg:∀cl C s₀ H₀ ex,PG (qe X scope N' cl C s₀ H₀ ex) tg g)(hgo:mG X.K X.N.length is one g)(ht:∀cl C s₀ H₀ ex,SQ (qe X scope N' cl C s₀ H₀ ex) c [] none)(he:∀cl C s₀ H₀ ex,SX (qe X scope N' cl C s₀ H₀ ex) c elt pe)(hT:Yl X c nn i sts ss)(hsw:swapsWith (.ListComp elt [⟨tg,iter,[],0⟩] scope pos) (some (.Name x pos')) spos.line X.env=pure true:=by rfl)(hs:∀x,foldedSetIterable iter X.env x=pure x:=by intro _;rfl)(hf:X.fn x=true\/X.env.scope.names.lookup x=some .local:=by first|exact .inl rfl|exact .inr rfl|assumption):SB X c nn (.Assign [.Name x pos'] (.ListComp elt [⟨tg,iter,[],0⟩] scope pos) spos::sts) (.Gf i ps n is one pe::ss):=by
 have h0:=zg (tt:=Fw X.K (sH c none)) (te:=yE X.K (HH.ev c pe)) hc hN hx0 hx ok hi hg ht (fun cl C s₀ H₀ ex=>(he cl C s₀ H₀ ex).ev) hsw hs hf;refine fun pins s σ H D I q=>kJ h0 hT.p pins s σ H D I ?_;have hl:σ.length=X.N.length:=I.len;obtain⟨F,ρ,fl,ρ',g0,e,kk⟩:=q;rw[Lh]at e;obtain⟨f1,ρ9,e1,e⟩:=aa e;rw[HH.X19]at e1;obtain⟨ds,ρ1,e2,e1⟩:=aa e1;split at e1;.rename_i hlim;obtain⟨rows,ρ2,e3,e1⟩:=aa e1;obtain⟨ρ3,ρ3',e4,e1⟩:=aa e1;cases e1;have zz:=aG e4;clear e4;obtain⟨e4,_⟩:=zz;obtain⟨s1,h1,h2,rfl⟩:=su e4;refine(show qu n (Z4 X.K (isVar ps) (HH.ev c ps)) g (Fw X.K (sH c none)) (yE X.K (HH.ev c pe)) σ H (fun v H1=>iw i v σ H1 (Vk X.K i (gH c nn ss) D))from Df (c:=c) (ul:=bh ρ (isVar ps)) hl hgo (fun R h=>⟨F,ρ,ds,ρ1,g0,e2,h⟩) hlim e3 fun q as F' H' s wq nd len row fr=>?_);exact⟨F,ρ,σ,H,F',_,q,as,rows,fl,ρ',NB.mk' s h1 h2 wq nd len row fr,e,fun F2 σ2 H2 s2=>kk F2 σ2 H2 s2⟩
 .cases e1
end
end HH
end
section
namespace HH
open PySem L2 PySem.Spec PyProof.Rows PySem.Calls PySem.W
section
variable{K:PySem.W.Frag}{F F1 H H1:Hp}{ρ ρ1 ρ2:List Sl}{σ σ1:L2.St}
theorem GS.abo{x:Nat}{kvs kvs':List (Int×D)}{a:Addr}{o':HO}(g:GS K F ρ σ H)(e:ρ[x]?=some (.cA kvs))(hx:σ[x]?=some (some (.ref a)))(r:jw K F o' (.v kvs')):aq K F ρ σ H F (ρ.set x (.cA kvs')) σ (upd H a o'):=by
 have hi:x<ρ.length:=(List.getElem?_eq_some_iff.mp e).1;have oa:aQ ρ σ x a:=⟨⟨_,_,e,rfl⟩,hx⟩;obtain⟨a',o0,h1,h2,h3,h4⟩:=g.own x _ _ e rfl;rw[hx]at h1;cases h1;have old:∀{j:Nat}{c:Addr},aQ (ρ.set x (.cA kvs')) σ j c->aQ ρ σ j c:=fun{j c}⟨⟨t,dt,q1,q2⟩,q3⟩=>by
  by_cases hj:j=x;.subst hj;exact⟨⟨_,_,e,rfl⟩,q3⟩
  .rw[getElem?_set_ne (Ne.symm hj)]at q1;exact⟨⟨t,dt,q1,q2⟩,q3⟩
 refine⟨⟨fun c o q=>?_,by simp[g.len],fun j b' d q=>?_,fun j t dt q q'=>?_,fun j k c q1 q2=>g.dis j k c (old q1) (old q2)⟩,.refl _,fun c n n'=>absurd n n',fun c o q n=>?_,fun c⟨j,q⟩=>.inl ⟨j,old q⟩,by simp,fun j t q l=>⟨rfl,?_⟩⟩
 . have:c≠a:=by rintro rfl;rw[h3]at q;cases q
   rw[az this];exact g.sub c o q
 . by_cases hj:j=x;.subst hj;rw[getElem?_set_self hi]at q;cases q
   .rw[getElem?_set_ne (Ne.symm hj)]at q;exact g.val j b' d q
 . by_cases hj:j=x;.subst hj;rw[getElem?_set_self hi]at q;cases q;cases q';exact⟨a,_,hx,aJ,h3,r⟩
   . rw[getElem?_set_ne (Ne.symm hj)]at q;obtain⟨c,zs,w1,w2,w3,w4⟩:=g.own j t dt q q';have:c≠a:=by rintro rfl;exact hj (g.dis j x c ⟨⟨t,dt,q,q'⟩,w1⟩ oa)
     exact⟨c,zs,w1,by rw[az this];exact w2,w3,w4⟩
 . have:c≠a:=by rintro rfl;exact n ⟨x,oa⟩
   rw[az this];exact q
 . by_cases hj:j=x;.subst hj;rw[e]at q;cases q;cases l
   .exact⟨t,by rw[getElem?_set_ne (Ne.symm hj)];exact q,.refl t⟩
theorem GS.newV{i:Nat}{kvs:List (Int×D)}{a:Addr}{o':HO}{s0:Sl}(g:GS K F ρ σ H)(e:ρ[i]?=some s0)(hl0:qY s0=false)(r:jw K F o' (.v kvs))(ha:H a=none):aq K F ρ σ H F (ρ.set i (.cA kvs)) (σ.set i (some (.ref a))) (upd H a o'):=by
 have hi:i<ρ.length:=(List.getElem?_eq_some_iff.mp e).1;have hi':i<σ.length:=by rw[<-g.len];exact hi
 have fa:F a=none:=by cases q:F a with|none=>rfl|some o=>rw[g.sub a o q]at ha;cases ha
 have old:∀{j:Nat}{c:Addr},j≠i->aQ (ρ.set i (.cA kvs)) (σ.set i (some (.ref a))) j c->aQ ρ σ j c:=fun{j c}hj⟨⟨t,ds,e1,e2⟩,e3⟩=>by rw[getElem?_set_ne (Ne.symm hj)]at e1 e3;exact⟨⟨t,ds,e1,e2⟩,e3⟩
 have new:∀{c:Addr},aQ (ρ.set i (.cA kvs)) (σ.set i (some (.ref a))) i c->c=a:=fun{c}⟨_,e3⟩=>by rw[getElem?_set_self hi']at e3;cases e3;rfl
 have no:∀{j:Nat},¬ aQ ρ σ j a:=fun{j}⟨⟨t,ds,e1,e2⟩,e3⟩=>by obtain⟨c,o,q1,q2,_⟩:=g.own j t ds e1 e2;rw[e3]at q1;cases q1;rw[ha]at q2;cases q2
 refine⟨⟨fun c o q=>?_,by simp[g.len],fun j b' d q=>?_,fun j t dt q q'=>?_,fun j k c q1 q2=>?_⟩,.refl _,fun c n n'=>absurd n n',fun c o q n=>?_,fun c⟨j,q⟩=>?_,by simp,fun j t q l=>?_⟩
 . have:c≠a:=by rintro rfl;rw[fa]at q;cases q
   rw[az this];exact g.sub c o q
 . by_cases hj:j=i;.subst hj;rw[getElem?_set_self hi]at q;cases q
   .rw[getElem?_set_ne (Ne.symm hj)]at q ⊢;exact g.val j b' d q
 . by_cases hj:j=i;.subst hj;rw[getElem?_set_self hi]at q;cases q;cases q';exact⟨a,_,getElem?_set_self hi',aJ,fa,r⟩
   . rw[getElem?_set_ne (Ne.symm hj)]at q ⊢;obtain⟨c,o,w1,w2,w3,w4⟩:=g.own j t dt q q';have:c≠a:=by rintro rfl;rw[ha]at w2;cases w2
     exact⟨c,o,w1,by rw[az this];exact w2,w3,w4⟩
 . by_cases hj:j=i
   . by_cases hk:k=i;.rw[hj,hk]
     .subst hj;rw[new q1]at q2;exact absurd (old hk q2) no
   . by_cases hk:k=i;.subst hk;rw[new q2]at q1;exact absurd (old hj q1) no
     .exact g.dis j k c (old hj q1) (old hk q2)
 . have:c≠a:=by rintro rfl;rw[ha]at q;cases q
   rw[az this];exact q
 . by_cases hj:j=i;.subst hj;rw[new q];exact .inr ha
   .exact .inl ⟨j,old hj q⟩
 . have hj:j≠i:=by rintro rfl;rw[e]at q;cases q;rw[hl0]at l;cases l
   exact⟨by rw[getElem?_set_ne (Ne.symm hj)],t,by rw[getElem?_set_ne (Ne.symm hj)];exact q,.refl t⟩
end
section
variable{X:Cx}{c:Call}{n:Nat}{a b e:Expr}{pa pb p:P}{pos:Pos}
theorem xK{i:Nat}{x:Str}{pos' p2:Pos}(hN:X.N.Nodup)(hi:X.N[i]?=some x)(hx:Loc X.env.scope x)(hs:swapsWith (.Dict [] [] p2) (some (.Name x pos')) pos.line X.env=pure false:=by rfl)(hf:X.fn x=true\/X.env.scope.names.lookup x=some .local:=by first|exact .inl rfl|exact .inr rfl|assumption):SS X c n (.Assign [.Name x pos'] (.Dict [] [] p2) pos) (.Bd i):=by
 refine dB (vQ hN hi hx uK hs hf) ?_;rintro D σ H⟨F,ρ,fl,ρ',g,e,k⟩;rw[HH.X23]at e;have go:∀s0,ρ[i]?=some s0->qY s0=false->fl=.next->ρ'=ρ.set i (.cA [])->∀a,H a=none->D.nx (σ.set i (some (.ref a))) (upd H a (.dK [])):=fun s0 q hl hfl hρ a ha=>by subst hfl hρ;exact k F _ _ (g.newV (kvs:=[]) q hl (KR.oc .nil) ha)
 split at e;.rename_i q;cases e;exact go _ q rfl rfl rfl
 .rename_i q;cases e;exact go _ q rfl rfl rfl
 .rename_i q;cases e;exact go _ q rfl rfl rfl
 .cases e
theorem rF{i:Nat}{x:Str}{px pos':Pos}{pk:P}(hu:X.A.units+8<cLine)(hN:X.N[i]?=some x)(hv:tu X.env.scope x)(ha:SX X c a pk)(he:SX X c e p)(hs:swapsWith e (some (.Subscript (.Name x px) a pos')) pos.line X.env=pure false:=by rfl)(hd:(x==("__debug__":Str))=false:=by decide)(hcd:(x==("__classdict__":Str))=false:=by decide):SS X c n (.Assign [.Subscript (.Name x px) a pos'] e pos) (.fZ i pk p):=by
 obtain⟨ta,h1,h2⟩:=ha.bW;refine dB (xY (by omega) (dN hN hv hd hcd) h1 he.ev hs) ?_;rintro D σ H⟨F,ρ,fl,ρ',g,e,k⟩;rw[HH.X24]at e;obtain⟨r,ρ1,e1,eA⟩:=aa e;clear e;refine⟨F,ρ,r,ρ1,g,e1,fun v F1 H1 s1 rr=>?_⟩;obtain⟨F2,s2,_,rp⟩:=s1.cG rr;split at eA
 . rename_i abZ q0;obtain⟨kd,ρ2,e2,eB⟩:=aa eA;clear eA;obtain⟨a0,o0,w1,w2,w3,w4⟩:=s2.gs.own i _ _ q0 rfl;refine⟨.ref a0,w1,h2 s2.gs e2 fun y F3 H3 s3 py=>?_⟩;split at eB
   . rename_i kvs j q;split at eB;.rename_i hl;cases eB;obtain⟨a1,o1,y1,y2,y3,y4⟩:=s3.gs.own i _ _ q rfl;rw[w1]at y1;cases y1;obtain⟨es,rfl,kr⟩:=KR.O8 y4;have kr2:=kr.put (k:=j) (rp.mono s3.bY);refine⟨a0,upd H3 a0 (.dK (putK es (Sum.inl j:Key) v)),rfl,?_,k F3 σ _ ((s2.trans s3).trans (s3.gs.abo q w1 kr2.oc))⟩;rw[py.int];exact .inl ⟨es,Sum.inl j,y2,rfl,by rw[kr.len,sizeLine_eq];exact hl,rfl⟩
     .cases eB
   .cases eB
 .cases eA
theorem vP{i:Nat}{x:Str}{px:Pos}{pk:P}(hu:X.A.units+8<cLine)(hN:X.N[i]?=some x)(hv:tu X.env.scope x)(ha:SX X c a pk)(hs:Ia a)(hd:(x==("__debug__":Str))=false:=by decide)(hcd:(x==("__classdict__":Str))=false:=by decide):SX X c (.Subscript (.Name x px) a pos) (.K7 i pk):=by
 obtain⟨ta,h1,h2⟩:=ha.bW;refine⟨fJ (HS (by omega) (dN hN hv hd hcd) h1 hs) ?_,fun i h=>by cases h⟩;rintro σ H Q⟨F,ρ,r,ρ',g,e,k⟩;rw[HH.E23]at e;split at e
 . rename_i abZ q;obtain⟨kd,ρ1,e1,eA⟩:=aa e;clear e;obtain⟨a0,o0,w1,w2,w3,w4⟩:=g.own i _ _ q rfl;refine⟨.ref a0,w1,h2 g e1 fun v F1 H1 s1 pv=>?_⟩;split at eA;.rename_i kvs q1;obtain⟨eC,e3⟩:=aG eA;clear eA;subst e3;obtain⟨j,e4,eD⟩:=bU eC;clear eC;obtain⟨d,e5,e6⟩:=map_some eD;subst e6;rw[cQ e4]at pv;obtain⟨a1,o1,y1,y2,y3,y4⟩:=s1.gs.own i _ _ q1 rfl;rw[w1]at y1;cases y1;obtain⟨es,rfl,kr⟩:=KR.O8 y4;obtain⟨v',g1,g2⟩:=kr.get e5;rw[pv.int];exact⟨a0,v',rfl,.inl ⟨es,Sum.inl j,.inl y2,rfl,g1.symm⟩,k v' F1 H1 s1 (show Rep X.K F1 _ _ from g2)⟩
   .cases eA
 .cases e
theorem Nh{i:Nat}{x:Str}{px:Pos}{pk:P}{neg:Bool}{op:CmpOp}(hop:(op=.In/\neg=false)\/(op=.NotIn/\neg=true))(hu:X.A.units+8<cLine)(hN:X.N[i]?=some x)(hv:tu X.env.scope x)(ha:SX X c a pk)(hd:(x==("__debug__":Str))=false:=by decide)(hcd:(x==("__classdict__":Str))=false:=by decide):PC X op a (.Name x px) (yE X.K (HH.ev c (.K8 i pk neg))):=by
 obtain⟨ta,h1,h2⟩:=ha.bW;have main:∀{σ:L2.St}{H:Hp}{Q:VK},yE X.K (HH.ev c (.K8 i pk neg)) σ H Q->ta σ H fun y H1=>M8 i σ H1 fun x H2=>∃a o,x=.ref a/\lQ H2 a y o/\Q (.bl (if neg then !o.isSome else o.isSome)) H2:=fun{σ H Q}⟨F,ρ,r,ρ',g,e,k⟩=>by
  rw[HH.E24]at e;obtain⟨kd,ρ1,e1,eA⟩:=aa e;clear e;refine h2 g e1 fun v F1 H1 s1 pv=>?_;split at eA;.rename_i kvs q1;obtain⟨eC,e3⟩:=aG eA;clear eA;subst e3;obtain⟨j,e4,e5⟩:=map_some eC;subst e5;rw[cQ e4]at pv;obtain⟨a1,o1,y1,y2,y3,y4⟩:=s1.gs.own i _ _ q1 rfl;obtain⟨es,rfl,kr⟩:=KR.O8 y4;rw[pv.int];refine⟨.ref a1,y1,a1,_,rfl,.inl ⟨es,Sum.inl j,.inl y2,rfl,rfl⟩,?_⟩;rw[kr.has j];exact k _ F1 H1 s1 (show Rep X.K F1 _ _ from lY _)
  .cases eA
 rcases hop with⟨rfl,rfl⟩|⟨rfl,rfl⟩;.exact fun pins s σ H Q I h=>N7 (by omega) h1 (dN hN hv hd hcd) pins s σ H Q I (main h)
 .exact fun pins s σ H Q I h=>Ax (by omega) h1 (dN hN hv hd hcd) pins s σ H Q I (main h)
end
theorem iQ{P:Program}{w:World}:∀{ks:List Int}{es:List (Key×V)}{vs:List (Key×Value)}{acc:List Value},es.map (·.1)=ks.map (Sum.inl:Int->Key)->KV es vs->acc.length=vs.length->(∀(j:Nat)(v:Value),acc[j]?=some v->∃(k:Key)(x:Value),vs[j]?=some (k,x)/\(aX P w).is k v=true)->IntsAre acc ks
 |[],es,_,acc,he,r,h,_=>by cases es with
   |nil=>cases r;cases acc with|nil=>exact .nil|cons _ _=>simp at h
   |cons _ _=>simp at he
 |i::ks,es,_,acc,he,r,h,k=>by cases es with|nil=>simp at he|cons p es=>cases r with|@cons _ q _ _ r t=>rw[map_cons,map_cons]at he;cases acc with|nil=>simp at h|cons v acc=>
         obtain⟨k',x,e1,e2⟩:=k 0 v rfl;simp at e1;have e3:k'=Sum.inl i:=by have z:=r.1;rw[e1]at z;rw[<-(List.cons.inj he).1];exact z.symm
         subst e3;obtain⟨i',tk,e4,rfl⟩|⟨_,_,e4,_⟩:=bu (show mq (Sum.inl i) v=true from e2);.cases e4;exact .cons _ tk (iQ (List.cons.inj he).2 t (by simpa using h) fun j v e=>k (j+1) v (by simpa using e))
         .cases e4
section
variable{X:Cx}{c:Call}{n:Nat}{a b e:Expr}{pa pb p:P}{pos:Pos}
theorem Te(hc:X.calm=true):dH X (.type "list") (Ht X.K fun x=>blt .Sh [x]):=by rintro pins s σ H xs us Q I r⟨x,hx,F,d,r',sm,px,he,k⟩;cases d with|dv ks ds=>
   obtain⟨hle,he⟩:=bj (show(if ks.length<=16777216 then some (R.own (ks.map D.int))else none)=some r' from he);subst he;obtain⟨q,ob,Sw,rfl,hq,rs,hl⟩:=px.dv sm;subst hx;obtain⟨u,rfl,rx⟩:=r.one;cases rx;obtain⟨ho,hz,hS,vs,rv,dd⟩:=(show bw X.prog X.w H s.heap q (.cG ob (.dK (ent ks Sw)))from I.hok q _ hq);obtain⟨ep,dd⟩:=dd.dictAt;have hk:=kI (ks:=ks) (vs:=Sw) (by rw[rs.length];exact hl);have hlv:vs.length=ks.length:=by rw[<-Paired.length rv];have:=congrArg List.length hk;simpa using this
   refine kdl_call (kdl_dict (knd:=aX X.prog X.w) (kvs:=vs) (ep:=ep) hS) (I.ok.hd hc) dd (by rw[hlv,sizeLine_eq];omega) fun h' tk acc c' kp hD hacc=>?_;have ia:IntsAre acc.toList ks:=iQ (P:=X.prog) (w:=X.w) hk rv (by rw[length_toList];exact hacc.1) fun j v e=>hacc.2 j v (by rw[<-Array.getElem?_toList];exact e);refine⟨.ref s.heap.objs.size,_,I.laid (t':=tk) (o:=.lst (ks.map V.int)) (h':=h') kp (le_refl _) ⟨by rw[length_map,sizeLine_eq];omega,acc.toList,c',gU ia,by rw[Array.toArray_toList];exact hD⟩,rfl,?_⟩;exact uP sm (kZ ks) (I.hok.fresh (le_refl _)) k|_=>cases he
theorem Eb{x:Str}{p':Pos}(hx:x="list")(hc:X.calm=true)(hg:Gl X x)(hm:X.mg x=none)(ha:SX X c a pa)(hs:starEach [a] X.env=(false,eval a X.env)::starEach [] X.env:=by rfl):SX X c (.Call (.Name x p') [a] [] pos) (.blt .Sh [pa]):=by subst hx;exact mF (fun h=>lR (Te hc) hg hm (by decide+kernel) h (he:=hs)) ha (fun ρ=>rfl) rfl hs
theorem Cy(hc:X.calm=true):dH X (.builtin "sorted") (Ht X.K fun x=>blt .lV [x]):=by
 rintro pins s σ H xs us Q I r⟨x,hx,F,d,r',sm,px,he,k⟩
 cases d with|dv ks ds=>
   obtain⟨so,he⟩:=bj (show(if ks.length<64 then some (R.own (tD (ks.map D.int)))else none)=some r' from he);subst he;obtain⟨q,ob,Sw,rfl,hq,rs,hl⟩:=px.dv sm;subst hx;obtain⟨u,rfl,rx⟩:=r.one;cases rx;obtain⟨ho,hz,hS,vs,rv,dd⟩:=(show bw X.prog X.w H s.heap q (.cG ob (.dK (ent ks Sw)))from I.hok q _ hq);obtain⟨ep,dd⟩:=dd.dictAt;have hk:=kI (ks:=ks) (vs:=Sw) (by rw[rs.length];exact hl);have hlv:vs.length=ks.length:=by rw[<-Paired.length rv];have:=congrArg List.length hk;simpa using this
   refine Calls.call_function_entry kind_sorted plain_sorted entry_sorted (args_sorted1 _) ?_;unfold Builtin.«sorted»;refine wpAny_bind (m:=checkCount "sorted" 1 1 _) (wpAny_pure ?_);refine wpAny_bind (rR (A:=X.A.in1) (knd:=aX X.prog X.w) (I.ok.hd hc) hS dd (by rw[hlv,sizeLine_eq];omega) fun h1 tk acc kp hsz hacc=>?_);have ia:IntsAre acc.toList ks:=iQ (P:=X.prog) (w:=X.w) hk rv (by rw[length_toList];exact hacc.1) fun j v e=>hacc.2 j v (by rw[<-Array.getElem?_toList];exact e);have hla:acc.toList.length=ks.length:=by rw[IntsAre.length ia]
   generalize acc.toList=its at ia hla;refine wpAny_bind (wpAny_newList ?_ (by rw[sizeLine_eq];omega));have hsz:=le_of_lt hsz;generalize hG:(h1.push {cls:=.type "list",data:=.seq its.toArray}:Heap)=H2;have ho2:H2.get? h1.objs.size=some (seqObj "list" its.toArray 0):=by rw[<-hG];exact get?_push_size _ rfl
   have vm:∀b o,s.heap.get? b=some o->H2.get? b=some o:=fun b o e=>by rw[<-hG];exact get?_push_of_some _ (kp b o e)
   have hne:∀b o,s.heap.get? b=some o->b≠h1.objs.size:=fun b o e=>ne_of_lt (lt_size (kp b o e));show wpAny _ _ _ _ _ {s with heap:=H2,toks:=tk};refine wpAny_bind (wpAny_holding (wpAny_call_entry slot_list_sort ⟨_,ho2,rfl⟩ entry_list_sort ?body (args_list_sort _)));case body=>
    refine zO (s:={s with heap:=H2,toks:=tk}) ho2 ia (by omega) fun h' cc out is k' i1 p2 l2 e=>⟨_,rfl,wpAny_pure ⟨_,rfl,?_⟩⟩;have kk:∀b o,s.heap.get? b=some o->h'.get? b=some o:=fun b o z=>k' b o (hne b o z) (vm b o z);refine⟨.ref h1.objs.size,_,I.laid (t':=tk) (o:=.lst (is.map V.int)) (h':=h') kk hsz ⟨by rw[length_map,l2,sizeLine_eq];omega,out,cc,gU i1,e⟩,rfl,?_⟩;have rs2:aF X.K F (is.map V.int) (tD (ks.map D.int)):=by rw[p2];exact kZ is
    exact uP sm rs2 (I.hok.fresh hsz) k|_=>cases he
theorem Ba{x:Str}{p':Pos}(hx:x="sorted")(hc:X.calm=true)(hg:Gl X x)(hm:X.mg x=none)(ha:SX X c a pa)(hs:starEach [a] X.env=(false,eval a X.env)::starEach [] X.env:=by rfl):SX X c (.Call (.Name x p') [a] [] pos) (.blt .lV [pa]):=by subst hx;exact mF (fun h=>dW (Cy hc) hg hm boot_sorted h (he:=hs)) ha (fun ρ=>rfl) rfl hs
theorem G6{neg:Bool}{op:CmpOp}(hop:(op=.In/\neg=false)\/(op=.NotIn/\neg=true))(hu:X.A.units+8<cLine):gG X (compareOp op) (rD X.K (uv neg)):=by rintro pins s σ H x y v u Q I rx ry⟨F,d,e,r,sm,px,py,he,k⟩;cases d with
 |int j=>cases e with|dv ks ds=>
     cases he;obtain⟨q,ob,vs,rfl,hq,rs,hl⟩:=py.dv sm;have kr:=KR.zip rs hl;rw[px.int]at rx;obtain rfl:u=Value.ref q:=ry;have g:lQ H q (.int j) (gZ (ent ks vs) (Sum.inl j:Key)):=.inl ⟨_,Sum.inl j,.inr ⟨ob,hq⟩,rfl,rfl⟩;have hh:(gZ (ent ks vs) (Sum.inl j:Key)).isSome=ks.contains j:=by rw[kr.has j];congr 1;rw[List.map_fst_zip (by omega)]
     rcases hop with⟨rfl,rfl⟩|⟨rfl,rfl⟩;.refine Vv (by omega) I g rx fun s3 I3=>⟨.bl (gZ (ent ks vs) (Sum.inl j:Key)).isSome,H,I3,rfl,?_⟩;rw[hh];exact bN.cu sm (lY _) k
     .refine zf (by omega) I g rx fun s3 I3=>⟨.bl (!(gZ (ent ks vs) (Sum.inl j:Key)).isSome),H,I3,rfl,?_⟩;rw[hh];exact bN.cu sm (lY _) k|_=>cases he
 |_=>cases he
end
end HH
end
section
namespace PySem
section
variable{prog:Program}{w:World}{A:Around}{E:Value->Shared->Prop}{s:Shared}
theorem qU{Q:List Value->Shared->Prop}{I l:Addr}{items:Array Value}(hh:A.handled=none)(hit:s.heap.IsRevIter I l ((items.size:Int)-1))(hl:s.heap.IsList l items)(hne:l≠I)(hlen:items.size<=2^24)(hQ:∀h' tk acc,(∀b o,b≠I->s.heap.get? b=some o->h'.get? b=some o)->s.heap.objs.size<h'.objs.size->ItemsOf (fun i v=>items[items.size-1-i]?=some v) acc items.size->Q acc.toList {s with heap:=h',toks:=tk}):
 wpAny (model prog w) A (collect (.ref I)) Q E s:=by have hIlt:I<s.heap.objs.size:=let⟨_,ho,_⟩:=hit;lt_size ho;have ab1:l<s.heap.objs.size:=let⟨_,ho,_⟩:=hl;lt_size ho;unfold collect;refine wpAny_bind (wpAny_runValue (codeAny_builtin F.entry_proto_collect ?_));rw[Around.under_plainId F.plain_proto_collect _];show wpAny _ A.in1 (newList []>>=fun l=>again (.builtin "list.__iadd__" ⟨[l,.ref I],[]⟩)) _ _ s;refine wpAny_bind (wpAny_newObj_type ?_);refine wpAny_pure ⟨plainId_quiet F.plain_list_iadd _,codeAny_builtin F.entry_list_iadd ?_⟩;rw[Around.under_plainId F.plain_list_iadd _];show wpAny _ A.in1 (listExtendWith (.ref s.heap.objs.size) (.ref I) (.ref s.heap.objs.size)) _ _ _;refine jR (A:=A) (R:=fun r s'=>match r with
  |.ok (.ret v)=>wpAny (model prog w) A (match v with
   |.ref a=>do let o<-load a match o.data with|.seq xs _=>pure xs.toList|_=>unsupported "internal:collect"
   |_=>unsupported "internal:collect") Q E s'|.ok _=>False|.error e=>E e s') (s:={s with heap:=s.heap.push {cls:=.type "list",data:=.seq #[]}}) hh (hit.at fun o e=>get?_push_of_some _ e) (hl.at fun o e=>get?_push_of_some _ e) hne hlen s.heap.objs.size (Ne.symm (ne_of_lt hIlt)) (Ne.symm (ne_of_lt ab1)) _ 0 (get?_push_size _ rfl) fun h' tk acc c' hk hS hacc=>?_;refine wpAny_bind (wpAny_load hS ?_);exact wpAny_pure (hQ h' tk acc (fun b o hb e=>hk b o (ne_of_lt (lt_size e)) hb (get?_push_of_some _ e)) (lt_size hS) hacc)
end
theorem iM(I l:Addr)(items:Array Value)(hne:l≠I)(hsz:items.size<=2^24):Meets (Builtin.«tuple.__new__» ⟨[.type "tuple",.ref I],[]⟩) (fun A R s=>A.handled=none/\s.heap.IsRevIter I l ((items.size:Int)-1)/\s.heap.IsList l items/\∀(h':Heap)(tk:Nat),(∀b o,b≠I->s.heap.get? b=some o->h'.get? b=some o)->s.heap.objs.size<h'.objs.size->∀acc:Array Value,acc=items.reverse->R (.ok (.ret (.ref h'.objs.size))) {s with heap:=h'.push {cls:=.type "tuple",data:=.seq acc},toks:=tk}):=.of_wp fun prog w A R s h=>by
  obtain⟨hh,hit,hl,h⟩:=h;have hsub:=sub_tuple_self;have hinit:=init_tuple_lookup;have hmh:=madeHere_tuple;have hT:Shared.TypeIs s (.ref I) "list_reverseiterator":=hit.typeIs;obtain⟨o,ho,hc,hd⟩:=id hit;obtain⟨hp,g,d,tk,os⟩:=s;wp_walk using AutoSeq1.wpAny_loadPart' ho,wpAny_typeOf hT,qU (A:=A.in1) hh hit hl hne hsz;intro h' tk' acc hk hlt hacc;show wpAny _ _ (tupleExact acc.toList.toArray>>=fun v=>ret v) _ _ _;have e:acc.toList.toArray=acc:=by simp
  have er:acc=items.reverse:=by refine Array.ext (by rw[hacc.1,Array.size_reverse]) fun j h1 h2=>?_;have:=hacc.2 j _ (Array.getElem?_eq_getElem h1);rw[Array.getElem_reverse];have h3:=Array.getElem?_eq_some_iff.mp this;exact h3.2.symm
  rw[e];unfold tupleExact;refine wpAny_bind (wpAny_newObj_type ?_ (by show acc.size<=sizeLine;rw[hacc.1,sizeLine_eq];omega));exact wpAny_pure ⟨_,rfl,h h' tk' hk hlt acc er⟩
section
variable{prog:Program}{w:World}{A:Around}{E:Value->Shared->Prop}{s:Shared}
theorem mW{I l:Addr}{items:Array Value}{Q:Value->Shared->Prop}(hh:A.handled=none)(hit:s.heap.IsRevIter I l ((items.size:Int)-1))(hl:s.heap.IsList l items)(hne:l≠I)(hsz:items.size<=2^24)(h:∀(h':Heap)(tk:Nat),(∀b o,b≠I->s.heap.get? b=some o->h'.get? b=some o)->s.heap.objs.size<h'.objs.size->Q (.ref h'.objs.size) {s with heap:=h'.push {cls:=.type "tuple",data:=.seq items.reverse},toks:=tk}):wpAny (model prog w) A (call (.type "tuple") [.ref I]) Q E s:=callType_new F.called_tuple (by decide) (F.typeCall_tuple_1 _) (F.newCall_tuple_1 _) (fun obj=>F.args_object_init_2 obj _) F.entry_tuple_new (iM I l items hne hsz) ⟨hh,hit,hl,fun h' tk hk hlt acc e=>by subst e;exact⟨⟨_,get?_push_size _ rfl,rfl⟩,h h' tk hk hlt⟩⟩
end
end PySem
namespace L2
open PySem PySem.Spec PyProof.Rows
section
variable{X:Cx}{pins:List (Addr×Obj)}{σ:St}{H:Hp}{s:Shared}{E:Value->Shared->Prop}
theorem wH{a:Expr}{ta:TE}{p pos p2 pos2:Pos}(hc:X.calm=true)(hgL:Gl X "tuple")(hmL:X.mg "tuple"=none)(hg:Gl X "reversed")(hm:X.mg "reversed"=none)(ha:PE X a ta)(hs:starEach [a] X.env=[(false,eval a X.env)]:=by rfl)(hs2:starEach [.Call (.Name "reversed" p) [a] [] pos] X.env=[(false,eval (.Call (.Name "reversed" p) [a] [] pos) X.env)]:=by rfl):PE X (.Call (.Name "tuple" p2) [.Call (.Name "reversed" p) [a] [] pos] [] pos2) (fun σ H Q=>ta σ H fun x H1=>∃ad xs,x=.ref ad/\dM X.K H1 ad xs/\∀l,H1 l=none->Q (.ref l) (upd H1 l (.tup xs.reverse))):=by
 intro pins s σ H Q I h;refine Call_ (lH I hgL hmL uw (PyProof.Rows.callWith_type1 ?_ hs2 rfl));rw[hs2];show wpAny _ _ (spliced ((false,eval (.Call (.Name "reversed" p) [a] [] pos) X.env)::[])) _ _ _;refine Calls.spliced_cons (Call_ (lH I hg hm oF (PyProof.Rows.callWith_type1 (bL ((cV ha fB hs) pos pins s σ H (fun vs H1=>match vs with|[x]=>∃ad xs,x=.ref ad/\dM X.K H1 ad xs/\∀l,H1 l=none->Q (.ref l) (upd H1 l (.tup xs.reverse))|_=>False) I h) ?_) hs rfl)));rintro us s1⟨vs,H1,I1,r1,q1⟩;obtain⟨ad,xs,hq,q,vs1⟩:∃ad xs,dM X.K H1 ad xs/\(∀l,H1 l=none->Q (.ref l) (upd H1 l (.tup xs.reverse)))/\vs=[.ref ad]:=by cases vs with|nil=>cases q1|cons x r=>cases r with|nil=>obtain⟨ad,xs,rfl,q,q'⟩:=q1;exact⟨ad,xs,q,q',rfl⟩|cons _ _=>cases q1
 subst vs1;obtain⟨u,rfl,ru⟩:=r1.one;cases ru;obtain⟨its,rv,pl,hz⟩:=I1.list hq;have hsz:its.toArray.size=xs.length:=by rw[size_toArray,<-rv.length]
 refine call_reversed_list pl.isList (Calls.spliced_nil ?_);have hne:ad≠s1.heap.objs.size:=ne_of_lt (let⟨_,ho,_⟩:=pl.isList;lt_size ho);have hl2:(s1.heap.push (revObj ad ((its.toArray.size:Int)-1))).IsList ad its.toArray:=pl.isList.at fun o e=>get?_push_of_some _ e;refine mW (I1.ok.hd hc) (I:=s1.heap.objs.size) (l:=ad) (items:=its.toArray) ⟨_,get?_push_size _ rfl,rfl,rfl⟩ hl2 hne (by rw[hsz];exact le_trans hz (by decide)) fun h' tk hk hlt=>?_;have hsz2:(s1.heap.push (revObj ad ((its.toArray.size:Int)-1))).objs.size=s1.heap.objs.size+1:=size_push ..;dsimp only at hk hlt ⊢;rw[hsz2]at hlt;have er:its.toArray.reverse=its.reverse.toArray:=by simp
 rw[er];refine⟨.ref h'.objs.size,_,I1.laid (t':=tk) (o:=.tup xs.reverse) (h':=h'.push {cls:=.type "tuple",data:=.seq its.reverse.toArray}) (fun b o e=>get?_push_of_some _ (hk b o (ne_of_lt (lt_size e)) (get?_push_of_some _ e))) (by omega) ?_,rfl,q _ (I1.hok.fresh (by omega))⟩;exact⟨by rw[List.length_reverse];exact hz,_,rv.reverse,IsTup.new _ _⟩
end
end L2
namespace HH
open PySem L2 PySem.Spec PyProof.Rows
section
variable{X:Cx}{c:Call}{a:Expr}{pa:P}{pos:Pos}
theorem xj{x y:Str}{p' q' pos':Pos}(hy:y="tuple")(hx:x="reversed")(hc:X.calm=true)(hgL:Gl X y)(hmL:X.mg y=none)(hg:Gl X x)(hm:X.mg x=none)(ha:SX X c a pa)(hs:starEach [a] X.env=[(false,eval a X.env)]:=by rfl)(hs2:starEach [.Call (.Name x p') [a] [] pos] X.env=[(false,eval (.Call (.Name x p') [a] [] pos) X.env)]:=by rfl):SX X c (.Call (.Name y q') [.Call (.Name x p') [a] [] pos] [] pos') (.blt .Yz [pa]):=by subst hx hy;obtain⟨ta,h1,h2⟩:=ha.bW;refine⟨fJ (wH hc hgL hmL hg hm h1 hs hs2) ?_,fun i h=>by cases h⟩;rintro σ H Q⟨F,ρ,r,ρ',g,e,k⟩;rw[HH.E15]at e;obtain⟨d,ρ2,e1,e2⟩:=aa e;have zz:=aG e2;clear e2;obtain⟨e2,e3⟩:=zz;subst e3;cases d with|lst ds=>cases e2;refine h2 g e1 ?_;rintro v F' H' s pv;obtain⟨ad,xs,rfl,hq,rs⟩:=pv.lst s.gs.sub;exact⟨ad,xs,rfl,hq,fun l hl=>wL s.gs.sub (aF.rev rs) hl fun v F2 H2 xt rn=>k v F2 H2 (s.trans (xt.stp s.gs)) (.later s (rn.nY s.gs))⟩|_=>cases e2
end
end HH
end
section
namespace L2
open PySem PySem.Spec PyProof.Rows PySem.Calls
section
variable{X:Cx}
theorem BW:Tq X (SN X.K):=by
 intro pins s σ H x y v u Q I rx ry h;obtain⟨p,xs,i,z,rfl,rfl,hq,he,q⟩:=h;cases rx;obtain⟨t,rfl⟩:=ry;obtain⟨its,r,pl,hz⟩:=I.list hq;obtain⟨j,h1,h2,h3,h4,h5⟩:=sJ he;obtain⟨w,ew,u9⟩:=r.get h2;have hl:=r.length;have hn:=nP;have fin:EP X pins σ Q w s:=⟨z,H,I,u9,q⟩;by_cases h0:0<=i
 . have hj:i.toNat=j:=by rw[seqIndex_of h0 h5]at h1;exact Option.some.inj h1
   exact wpAny_getItem_list pl.isList h0 (by omega) (by rw[hj];simpa using ew) fin
 . have hj:(i+(its.toArray.size:Int)).toNat=j:=by rw[seqIndex_neg (by omega) h4]at h1;rw[size_toArray,<-hl];exact Option.some.inj h1
   exact wpAny_getItem_list_neg pl.isList (by omega) (by rw[size_toArray]<;>omega) (by omega) (by rw[hj];simpa using ew) fin
end
end L2
namespace HH
open PySem L2 PySem.Spec PyProof.Rows PySem.Calls PySem.W
section
variable{X:Cx}{c:Call}{n:Nat}{a b e:Expr}{pa pb p:P}{pos:Pos}
set_option maxHeartbeats 800000 in
theorem sG{k e:Int}{t1 t2 p1 p2 p3}:SX X c (.Dict [some (.Constant (.int k) t1 p1)] [.Constant (.int e) t2 p2] p3) (.vd k e):=by
 refine⟨?_,fun i h=>by cases h⟩;intro pins s σ H Q I h;obtain⟨F,ρ,r,ρ',g,e',kk⟩:=h;rw[HH.E25]at e';cases e';have em:lC [] [((Sum.inl k:Key),V.int e)]=ent [k] [.int e]:=rfl;have pe:=Ig (X:=X) (pos:=p3) (CJ (wy (i:=k) (j:=t1) (pos:=p1)) (wy (i:=e) (j:=t2) (pos:=p2)) Ju) rfl rfl (by simp) (by simp);refine bL (pe pins s σ H (fun v H'=>∃q,v=.ref q/\H q=none/\H'=upd H q (yr [k] [.int e])) I ?_) fun u s1⟨v,H1,I1,r1,q,e1,hn,e2⟩=>?_;.intro q hq;refine⟨aJ,[(Sum.inl k,.int e)],rfl,by simp,q,rfl,hq,?_⟩;rw[yX,em];rfl
 subst e1 e2;obtain⟨o,I2⟩:=Inv.Dm I1 (a:=q) (kvs:=ent [k] [.int e]) aJ;rw[yX]at I2;have fp:F q=none:=by cases z:F q with|none=>rfl|some o=>rw[g.sub q o z]at hn;cases hn
 have sm:aH F (upd F q (.cG o (yr [k] [.int e]))):=aH.bO fp;refine⟨.ref q,_,I2,r1,kk _ (upd F q (.cG o (yr [k] [.int e]))) _ (Ext.stp g ⟨aH.bO hn,sm,fun b o e=>?_,fun b n n'=>?_⟩) ?_⟩
 . by_cases hb:b=q;.subst hb;rw[aJ]at e ⊢;exact e
   .rw[az hb]at e ⊢;exact g.sub b o e
 . by_cases hb:b=q;.subst hb;exact jb hn
   .rw[az hb]at n';exact absurd n n'
 .show Rep X.K _ _ (.dv [k] [.int e]);rw[Rep];exact⟨q,o,[.int e],rfl,aJ,.cons (bA _) .nil,rfl⟩
theorem Hn{x:Str}{k:Nat}{px tpos:Pos}{op:Operator}{sub:Bool}(ho:J2 X op (RK fun i j=>if sub then i-j else i+j))(hN:X.N[k]?=some x)(hv:tu X.env.scope x)(hi:SX X c b pb)(he:SX X c e p)(ha:∀ov iv new,augStore b ov iv new=(do holding [new,ov,iv] (setItem ov iv new);release [new,ov,iv] [];pure .next):=by intros;rfl)(hd:(x==("__debug__":Str))=false:=by decide)(hcd:(x==("__classdict__":Str))=false:=by decide):SS X c n (.AugAssign (.Subscript (.Name x px) b tpos) op e pos) (.Gb k pb sub p):=by
 obtain⟨ti,hi1,hi2⟩:=hi.bW;obtain⟨te,he1,he2⟩:=he.bW;refine dB (HD (dN hN hv hd hcd) hi1 BW he1 ho set_list ha) ?_;rintro D σ H⟨F,ρ,fl,ρ',g,e,kk⟩;rw[HH.X15]at e;obtain⟨x0,ρ0,e0',eA⟩:=aa e;clear e;obtain⟨e0,xn⟩:=aG e0';clear e0';subst xn;obtain⟨dk,ρ1,e1,eB⟩:=aa eA;clear eA;obtain⟨l,ρ2,e2',eC⟩:=aa eB;clear eB;obtain⟨e2,e21⟩:=aG e2';clear e2';subst e21;obtain⟨ra,ρ3,e3',eD⟩:=aa eC;clear eC;obtain⟨e3,e31⟩:=aG e3';clear e3';subst e31;obtain⟨db,ρ4,e4,eE⟩:=aa eD;clear eD;obtain⟨o1,Lh,ho1,_⟩:=qT g e0;refine⟨.ref o1,ho1,hi2 g e1 fun vi F1 H1 s1 pi=>?_⟩;split at eE
 . rename_i u v bb ds kz q;split at eE
   . rename_i j hj;cases eE;obtain⟨i0,f3,f5⟩:=bU e3;have hi0:i0=kz:=by cases f3;rfl
     subst hi0;have e2':pk ρ1 k=some (.lst l):=by
      unfold wu at e2;split at e2;.rename_i z;cases e2;exact z
      .cases e2
     obtain⟨o',ho2,po⟩:=s1.gs.pk e2';rw[ho1]at ho2;cases ho2;obtain⟨ad,xs,hr,hL,rs⟩:=po.lst s1.gs.sub;cases hr;obtain⟨j0,h1,h2⟩:=Eh f5;obtain⟨w,h3,h4⟩:=rs.get h2;have hat:BJ xs i0=some w:=by unfold BJ;rw[rs.length,h1];exact h3
     have hw:w=.int u:=by rw[Rep]at h4;exact h4
     subst hw;refine⟨o1,xs,i0,.int u,rfl,pi.int,hL,hat,he2 s1.gs e4 fun vb F2 H2 s2 pb=>⟨u,v,rfl,pb.int,?_⟩⟩;obtain⟨ad2,zs,z1,z2,z3,z4⟩:=s2.gs.oU k _ ds q rfl;rw[ho1]at z1;cases z1;refine⟨o1,zs,i0,j,rfl,pi.int,z2,by rw[z4.length];exact hj,?_⟩;exact kk F2 σ _ ((s1.trans s2).trans (s2.gs.mut q ho1 (z4.set (bA _) j)))
   .cases eE
 .cases eE
end
section
variable{X:Cx}{c:Call}{n:Nat}{a b e:Expr}{pa pb p:P}{pos:Pos}
theorem GZ{neg:Bool}{o:Op}{op:CmpOp}(hop:(op=.In/\neg=false)\/(op=.NotIn/\neg=true))(hq:pP o=uv neg)(hu:X.A.units+8<cLine)(ha:SX X c a pa)(hb:SX X c b pb)(hm:behindInMarks op b=false):ST X c (.Compare a [op] [b] pos) (.bin o pa pb):=by obtain⟨ta,tb,h1,h2,h3⟩:=ha.jm hb;refine ym (yc (G6 hop hu) h1 h2 hm) fun σ H Q q=>sI (t:=RB (rD X.K (uv neg)) ta tb) (fun Q z=>?_) q;obtain⟨F,ρ,r,ρ',g,e,k⟩:=z;rw[HH.E3]at e;obtain⟨xy,ρ1,e1,e2⟩:=aa e;have zz:=aG e2;clear e2;obtain⟨e2,e3⟩:=zz;subst e3;rw[hq]at e2;refine h3 g e1 fun v u F' H' s pv pu=>⟨F',xy.1,xy.2,r,s.gs.sub,pv,pu,e2,fun w F2 H2 x rn=>?_⟩;exact k w F2 H2 (s.trans (x.stp s.gs)) (.later s (rn.nY s.gs))
theorem O6(hu:X.A.units+8<cLine)(ha:SX X c a pa)(hb:SX X c b pb)(hm:behindInMarks .In b=false):ST X c (.Compare a [.In] [b] pos) (.bin .Yy pa pb):=GZ (.inl ⟨rfl,rfl⟩) rfl hu ha hb hm
theorem Ma{i:Nat}{x:Str}{px:Pos}{pk:P}{neg:Bool}{op:CmpOp}(hop:(op=.In/\neg=false)\/(op=.NotIn/\neg=true))(hu:X.A.units+8<cLine)(hN:X.N[i]?=some x)(hv:tu X.env.scope x)(ha:SX X c a pk)(hb:behindInMarks op (.Name x px)=false)(hd:(x==("__debug__":Str))=false:=by decide)(hcd:(x==("__classdict__":Str))=false:=by decide):ST X c (.Compare a [op] [.Name x px] pos) (.K8 i pk neg):=ym (NZ (Nh hop hu hN hv ha hd hcd) hb) fun σ H Q q=>sI (fun _ z=>z) q
end
end HH
end
section
set_option maxHeartbeats 4000000
namespace T
open PySem L2 PySem.Spec PyProof.Rows HH
local macro_rules|`(term|nofun)=>`(⟨rfl,rfl,rfl,by decide+kernel,rfl,by decide+kernel,by decide+kernel⟩)
local macro_rules|`(tactic|exists$e)=>`(tactic|with_reducible refine$e)
local macro_rules|`(tactic|lia)=>`(tactic|with_reducible refine aO ?_ ?_)
set_option hygiene false
local macro_rules|`(tactic|exists$i,$e)=>`(tactic|((with_reducible refine rC (i:=$i) ?_ ?_ ?_ ?_ ?_ ?_);exact nd;exact rfl;exact oi;rotate_left;rfl;exact oi;exact$e))
local macro_rules|`(tactic|exists$i,$e,0)=>`(tactic|((with_reducible refine yh (i:=$i) ?_ ?_ ?_ ?_ ?_ ?_ ?_ ?_ ?_);exact PassesOwn.never;exact hc;exact nd;exact rfl;exact oi;exact$e;rotate_left;(· intro _;rfl);exact oi))
local macro_rules|`(tactic|exists$a,$b,0,0)=>`(tactic|(refine U4 $a $b rfl rfl fun cdv A outer s H E hr=>?_;have nd:=($b).nd))
local macro_rules|`(tactic|exists(),$e)=>`(tactic|((with_reducible refine Py ?_);exact$e))
set_option hygiene true
local macro_rules|`(term|‹$l›)=>`((show(($l):List Str).Nodup by decide+kernel))
theorem hc:true=true:=rfl
theorem oi{α:Type}{a:α}{p:Prop}:a=a\/p:=.inl rfl
theorem aZ{X:Cx}{c:Call}{a:Expr}{es:List Expr}{pa:P}{ps:List P}(ha:SX X c a pa)(hr:SG X c es ps)(h:ZS a=true):SG X c (a::es) (pa::ps):=Jp ha hr (gP h)
theorem cZ{X:Cx}{c:Call}{a:Expr}{es:List Expr}{pa:P}{ps:List P}(ha:SX X c a pa)(hr:SA X c es ps)(h:ZS a=true):SA X c (a::es) (pa::ps):=yN ha hr (gP h)
variable{Pg:Program}{w:World}{K:PySem.W.Frag}{mg:Str->Option Value}{base:Heap}{f:Addr}{fd:FuncData}{k n:Nat}{c:Call}{cl:Nat->Addr}
noncomputable def top(i:Nat):Stmt:=PySem.Challenge.pw_hourhaul_k46_whole_least_hours_and_the_m.main.body.getD i (.Pass ⟨0,0,0,0⟩)
noncomputable abbrev s0:=top 4
noncomputable def b0:List S:=[.asg 2 (.idx (.idx (.var 0) (.con (.int 1))) (.idx (.var 1) (.con (.int 0)))),.ret (.K6 (.idx (.var 1) (.con (.int 1))) (.tup [.idx (.var 2) (.con (.int 0)),.idx (.var 2) (.con (.int 1))]) (.tup [.idx (.var 2) (.con (.int 1)),.idx (.var 2) (.con (.int 0))]))]
noncomputable def f0:Fd:=⟨2,3,b0⟩
theorem sc0:aL ["net","step","way"] ["net","step"] (aA s0):=nofun
include cl in
theorem d0(Fu:gF K "step_places" "step_places" s0 f fd):bJ Pg w K mg base gf (k+1) f fd ["net","step"] (gD K 2 (fun args=>enter c n f0 args)):=by
 exists Fu,sc0,0,0;refine aO ?_ ?_;.exists 2,aD (aD (sv 0) aj) (aD (sv 1) aj)
 lia;.exists(),rN (rA (aD (sv 1) aj)) (cM (cZ (aD (sv 2) aj) (cZ (aD (sv 2) aj) aV rfl) rfl)) (cM (cZ (aD (sv 2) aj) (cZ (aD (sv 2) aj) aV rfl) rfl))
 exact aB
noncomputable abbrev s1:=top 5
noncomputable def b1:List S:=[.asg 2 (.idx (.idx (.idx (.var 0) (.con (.int 1))) (.idx (.var 1) (.con (.int 0)))) (.con (.int 3))),.ret (.K6 (.idx (.var 1) (.con (.int 1))) (.var 2) (.neg (.var 2)))]
noncomputable def f1:Fd:=⟨2,3,b1⟩
theorem sc1:aL ["net","step","hours"] ["net","step"] (aA s1):=nofun
include cl in
theorem d1(Fu:gF K "step_hours" "step_hours" s1 f fd):bJ Pg w K mg base gf (k+1) f fd ["net","step"] (gD K 2 (fun args=>enter c n f1 args)):=by
 exists Fu,sc1,0,0;refine aO ?_ ?_;.exists 2,aD (aD (aD (sv 0) aj) (aD (sv 1) aj)) aj
 lia;.exists(),rN (rA (aD (sv 1) aj)) (sv 2) (wO (sv 2))
 exact aB
noncomputable abbrev s2:=top 6
noncomputable def b2:List S:=[.asg 3 (.idx (.var 1) (.idx (.var 2) (.con (.int 0)))),.ret (.K6 (.idx (.var 2) (.con (.int 1))) (.bin .sub (.idx (.idx (.idx (.var 0) (.con (.int 1))) (.idx (.var 2) (.con (.int 0)))) (.con (.int 2))) (.var 3)) (.var 3))]
noncomputable def f2:Fd:=⟨3,4,b2⟩
theorem sc2:aL ["net","stream","step","loads"] ["net","stream","step"] (aA s2):=nofun
include cl in
theorem d2(Fu:gF K "step_room" "step_room" s2 f fd):bJ Pg w K mg base gf (k+1) f fd ["net","stream","step"] (gD K 3 (fun args=>enter c n f2 args)):=by
 exists Fu,sc2,0,0;refine aO ?_ ?_;.exists 3,aD (sv 1) (aD (sv 2) aj)
 lia;.exists(),rN (rA (aD (sv 2) aj)) (au cJ (aD (aD (aD (sv 0) aj) (aD (sv 2) aj)) aj) (sv 3)) (sv 3)
 exact aB
noncomputable abbrev s3:=top 7
noncomputable def b3:List S:=[.ret (.blt .sum [.comp (.var 1) 1 [2] true none (.call 1 [.var 0,.var 2])])]
noncomputable def f3:Fd:=⟨2,2,b3⟩
theorem sc3:aL ["net","steps"] ["net","steps"] (aA s3):=nofun
include cl in
theorem d3(Fu:gF K "steps_hours" "steps_hours" s3 f fd)(eU:mg "sum"=none)(gW:ao Pg w K mg base k c 1 "step_hours" 2):bJ Pg w K mg base gf (k+1) f fd ["net","steps"] (gD K 2 (fun args=>enter c n f3 args)):=by
 exists Fu,sc3,0,0;refine aO ?_ ?_;.exists(),lU rfl hc (by rfl) eU (cI (N':=["net","steps","step"]) hc (vA rfl (by rfl)) (bH (sv 1)) (fun _ _ _ _ _=>aK (i:=2) ‹["net","steps","step"]› rfl (Or.inl rfl) (Or.inr rfl)) (dD (le_refl _)) (fun _ _ _ _ _=>du) (fun _ _ _ _ _=>(dm gW hr (aZ (sv 0) (aZ (sv 2) aC rfl) rfl))))
 exact aB
noncomputable abbrev s4:=top 8
noncomputable def b4:List S:=[.Gf 2 (.zq (.con (.int 0)) (.idx (.var 0) (.con (.int 0)))) 1 [5] true (.lst []),.Bc (.zq (.con (.int 0)) (.blt .len [.idx (.var 0) (.con (.int 1))])) [3] true [.Bc (.tup [.tup [.var 3,.con (.bl true)],.tup [.var 3,.con (.bl false)]]) [4] true [.ifs (.cmp .gt (.call 2 [.var 0,.var 1,.var 4]) (.con (.int 0))) [.Gg 2 (.idx (.call 0 [.var 0,.var 4]) (.con (.int 0))) (.var 4)] []]],.cG 2,.ret (.var 2)]
noncomputable def f4:Fd:=⟨2,5,b4⟩
theorem sc4:aL ["net","stream","steps","number","step"] ["net","stream"] (aA s4):=nofun
include cl in
theorem d4(Fu:gF K "open_steps" "open_steps" s4 f fd)(eV:mg "len"=none)(cL:mg "range"=none)(cT:ao Pg w K mg base k c 0 "step_places" 2)(iU:ao Pg w K mg base k c 2 "step_room" 3):bJ Pg w K mg base gf (k+1) f fd ["net","stream"] (gD K 2 (fun args=>enter c n f4 args)):=by exists Fu,sc4,0,0;exact(by(refine Hy (i:=2) (N':=["net","stream","steps","number","step","place"]) (g:=iw 5) ?_ ?_ ?_ ?_ ?_ ?_ ?_ ?_ ?_ ?_ ?_ ?_ ?_ ?_);exact hc;exact nd;exact rfl;exact oi;exact vA rfl (by rfl);exact ni rfl (by rfl) cL (aD (sv 0) aj);exact(fun _ _ _ _ _=>aK (i:=5) ‹["net","stream","steps","number","step","place"]› rfl (Or.inl rfl) (Or.inr rfl));exact dD (le_refl _);exact(fun _ _ _ _ _=>du);exact(fun _ _ _ _ _=>(cO aV));(· exists Dh ?_ ?_;(· exists xZ (g:=iw 3) ?_ ?_ ?_ ?_ ?_ ?_ ?_;exact PassesOwn.never;exact hc;(· exists Fb ?_ ?_ ?_ ?_ ?_;exact rfl;rfl;exact cL;exact lN rfl (by rfl) eV (aD (sv 0) aj);rfl);exact aK (i:=3) nd rfl oi oi;(· rw[lg];exact rZ 3);(· exists nH ?_ ?_;(· exists xZ (g:=iw 4) ?_ ?_ ?_ ?_ ?_ ?_ ?_;exact PassesOwn.never;exact hc;exact Hb (cM (cZ (cM (cZ (sv 3) (cZ qw aV rfl) rfl)) (cZ (cM (cZ (sv 3) (cZ qw aV rfl) rfl)) aV rfl) rfl));exact aK (i:=4) nd rfl oi oi;(· rw[lg];exact rZ 4);(· exists nH ?_ ?_;(· exists N8 ?_ ?_ ?_;exact di pC (dm iU hr (aZ (sv 0) (aZ (sv 1) (aZ (sv 4) aC rfl) rfl) rfl)) aj (dh _);(· exists nH ?_ ?_;(· exists Bx (k:=2) ?_ ?_ ?_ ?_ ?_ ?_ ?_ ?_ ?_ ?_ ?_ ?_;exact rfl;(· first|exact Or.inl rfl|exact Or.inr (Or.inl rfl));exact aD (dm cT hr (aZ (sv 0) (aZ (sv 4) aC rfl) rfl)) aj;exact sv 4;(· intro _ _;rfl);rfl;rfl;rfl;rfl;rfl;rfl;rfl);exact m5);exact m5);exact m5);(· intro _;rfl));exact m5);(· intro _;rfl));(· exists HY ?_;(· lia;(· exists(),sv 2);exact aB)));rfl;(· intro _;rfl);exact oi)
noncomputable abbrev s5:=top 9
noncomputable def b5:List S:=[.asg 3 (.call 4 [.var 0,.var 1]),.Bd 4,.gV (.blt .keys [.var 2]) [5] true [.fZ 4 (.var 5) (.tup [.bin .Bb (.var 2) (.var 5),.con (.int 0),.con .non])],.asg 6 (.blt .Sh [.var 2]),.whl (.cmp .gt (.blt .len [.var 6]) (.con (.int 0))) [.Bd 7,.gV (.var 6) [5] true [.gV (.idx (.var 3) (.var 5)) [8] true [.asg 9 (.idx (.call 0 [.var 0,.var 8]) (.con (.int 1))),.asg 10 (.tup [.bin .add (.idx (.K7 4 (.var 5)) (.con (.int 0))) (.call 1 [.var 0,.var 8]),.bin .add (.idx (.K7 4 (.var 5)) (.con (.int 1))) (.con (.int 1))]),.ifs (.or (.K8 4 (.var 9) true) (.cmp .lt (.var 10) (.slice (.K7 4 (.var 9)) (.con .non) (.con (.int 2))))) [.fZ 4 (.var 9) (.bin .add (.var 10) (.tup [.var 8])),.fZ 7 (.var 9) (.con (.bl true))] []]],.asg 6 (.blt .Sh [.vw 7])],.ret (.var 4)]
noncomputable def f5:Fd:=⟨3,11,b5⟩
theorem sc5:aL ["net","stream","begun","steps","come","place","row","changed","step","to","found"] ["net","stream","begun"] (aA s5):=nofun
include cl in
theorem d5(Fu:gF K "shortest_come" "shortest_come" s5 f fd)(eV:mg "len"=none)(jJ:mg "list"=none)(sW:ao Pg w K mg base k c 4 "open_steps" 2)(gW:ao Pg w K mg base k c 1 "step_hours" 2)(cT:ao Pg w K mg base k c 0 "step_places" 2):bJ Pg w K mg base gf (k+1) f fd ["net","stream","begun"] (gD K 3 (fun args=>enter c n f5 args)):=by
 exists Fu,sc5,0,0;refine aO ?_ ?_;.exists 3,dm sW hr (aZ (sv 0) (aZ (sv 1) aC rfl) rfl)
 lia;.exact(xK (i:=4) nd rfl oi (by rfl) (Or.inl rfl))
 lia;.exists 5,Gz (sv 2),0;(· lia;exact rF (i:=4) (bR hr) rfl (by first|exact Or.inl rfl|exact Or.inr (Or.inl rfl)) (sv 5) (cM (cZ (rO (bR hr) (sv 2) (sv 5) (fun _ _=>rfl)) (cZ aj (cZ Bt aV rfl) rfl) rfl)) (by rfl);exact aB)
 lia;.exists 6,Eb rfl hc (by rfl) jJ (sv 2)
 lia;.exact(vG PassesOwn.never (di pC (lN rfl (by rfl) eV (sv 6)) aj (dh _)) (by lia;exact xK (i:=7) nd rfl oi (by rfl) (Or.inl rfl);(· lia;(· exists 5,bH (sv 6),0;(· lia;(· exists 8,bH (aD (sv 3) (sv 5)),0;(· lia;(· exists 9,aD (dm cT hr (aZ (sv 0) (aZ (sv 8) aC rfl) rfl)) aj);(· lia;(· exists 10,cM (cZ (au aY (aD (vP (i:=4) (bR hr) rfl (by first|exact Or.inl rfl|exact Or.inr (Or.inl rfl)) (sv 5) (fun _ _=>rfl)) aj) (dm gW hr (aZ (sv 0) (aZ (sv 8) aC rfl) rfl))) (cZ (au aY (aD (vP (i:=4) (bR hr) rfl (by first|exact Or.inl rfl|exact Or.inr (Or.inl rfl)) (sv 5) (fun _ _=>rfl)) aj) aj) aV rfl) rfl));(· lia;(· exists mC ?_ ?_ ?_;exact SW.st (Ue (Ma (i:=4) (Or.inr ⟨rfl,rfl⟩) (bR hr) rfl (by first|exact Or.inl rfl|exact Or.inr (Or.inl rfl)) (sv 9) (by with_unfolding_all rfl)) (Og (di (Ow (bR hr)) (sv 10) (uO (vP (i:=4) (bR hr) rfl (by first|exact Or.inl rfl|exact Or.inr (Or.inl rfl)) (sv 9) (fun _ _=>rfl)) yg (xU aj)) (dh _))));(· lia;exact rF (i:=4) (bR hr) rfl (by first|exact Or.inl rfl|exact Or.inr (Or.inl rfl)) (sv 9) (au aY (sv 10) (cM (cZ (sv 8) aV rfl))) (by rfl);(· lia;exact rF (i:=7) (bR hr) rfl (by first|exact Or.inl rfl|exact Or.inr (Or.inl rfl)) (sv 9) qw (by rfl);exact aB));exact aB);exact aB))));exact aB));(· lia;(· exists 6,Eb rfl hc (by rfl) jJ (KZ (i:=7) rfl (by first|exact Or.inl rfl|exact Or.inr (Or.inl rfl))));exact aB))))
 lia;.exists(),sv 4
 exact aB
noncomputable abbrev s6:=top 10
noncomputable def b6:List S:=[.asg 3 (.lst []),.asg 4 (.var 2),.whl (.cmp .Jz (.idx (.bin .Bb (.var 1) (.var 4)) (.con (.int 2))) (.con .non)) [.asg 5 (.idx (.bin .Bb (.var 1) (.var 4)) (.con (.int 2))),.app 3 (.var 5),.asg 4 (.idx (.call 0 [.var 0,.var 5]) (.con (.int 0)))],.ret (.blt .Yz [.var 3])]
noncomputable def f6:Fd:=⟨3,6,b6⟩
theorem sc6:aL ["net","come","place","steps","here","step"] ["net","come","place"] (aA s6):=nofun
include cl in
theorem d6(Fu:gF K "steps_to" "steps_to" s6 f fd)(jK:mg "reversed"=none)(cX:mg "tuple"=none)(cT:ao Pg w K mg base k c 0 "step_places" 2):bJ Pg w K mg base gf (k+1) f fd ["net","come","place"] (gD K 3 (fun args=>enter c n f6 args)):=by
 exists Fu,sc6,0,0;refine aO ?_ ?_;.exists 3,cO aV
 lia;.exists 4,sv 2
 lia;.exact(vG PassesOwn.never (di Jh (aD (rO (bR hr) (sv 1) (sv 4) (fun _ _=>rfl)) aj) Bt (dh _)) (by lia;(· exists 5,aD (rO (bR hr) (sv 1) (sv 4) (fun _ _=>rfl)) aj);(· lia;exact fW (k:=3) rfl (by first|exact Or.inl rfl|exact Or.inr (Or.inl rfl)) (sv 5);(· lia;(· exists 4,aD (dm cT hr (aZ (sv 0) (aZ (sv 5) aC rfl) rfl)) aj);exact aB))))
 lia;.exists(),xj rfl rfl hc (by rfl) cX (by rfl) jK (sv 3)
 exact aB
noncomputable abbrev s7:=top 11
noncomputable def b7:List S:=[.asg 3 (.blt .list [.var 0]),.gV (.var 1) [4,5] false [.Gb 3 (.var 4) false (.K6 (.var 5) (.var 2) (.neg (.var 2)))],.ret (.var 3)]
noncomputable def f7:Fd:=⟨3,6,b7⟩
theorem sc7:aL ["stream","steps","loads","changed","number","forth"] ["stream","steps","loads"] (aA s7):=nofun
include cl in
theorem d7(Fu:gF K "stream_with" "stream_with" s7 f fd)(jJ:mg "list"=none):bJ Pg w K mg base gf (k+1) f fd ["stream","steps","loads"] (gD K 3 (fun args=>enter c n f7 args)):=by
 exists Fu,sc7,0,0;refine aO ?_ ?_;.exists 3,Hf rfl (by rfl) jJ (sv 0)
 lia;.exact(jH PassesOwn.never hc (bH (sv 1)) (eG hc (aP (aK (i:=4) nd rfl oi oi) (aP (aK (i:=5) nd rfl oi oi) cU))) (lq rfl (cW _ _ (cW _ _ jh 5) 4)) (by lia;exact Hn (k:=3) (sub:=false) Hl rfl (by first|exact Or.inl rfl|exact Or.inr (Or.inl rfl)) (sv 4) (rN (rA (sv 5)) (sv 2) (wO (sv 2)));exact aB))
 lia;.exists(),sv 3
 exact aB
noncomputable abbrev s8:=top 12
noncomputable def b8:List S:=[.asg 1 (.bin .sub (.idx (.var 0) (.con (.int 0))) (.con (.int 1))),.asg 2 (.bin .mul (.lst [.con (.int 0)]) (.blt .len [.idx (.var 0) (.con (.int 1))])),.asg 3 (.lst []),.asg 4 (.call 5 [.var 0,.var 2,.vd 0 0]),.whl (.bin .Yy (.var 1) (.var 4)) [.asg 5 (.call 6 [.var 0,.var 4,.var 1]),.asg 6 (.blt .FW [.comp (.var 5) 1 [7] true none (.call 2 [.var 0,.var 2,.var 7])]),.app 3 (.tup [.var 5,.var 6]),.asg 2 (.call 7 [.var 2,.var 5,.var 6]),.asg 4 (.call 5 [.var 0,.var 2,.vd 0 0])],.ret (.var 3)]
noncomputable def f8:Fd:=⟨1,7,b8⟩
theorem sc8:aL ["net","end","stream","chains","come","steps","loads"] ["net"] (aA s8):=nofun
include cl in
theorem d8(Fu:gF K "chains_to_end" "chains_to_end" s8 f fd)(eV:mg "len"=none)(kW:mg "min"=none)(cY:ao Pg w K mg base k c 5 "shortest_come" 3)(iU:ao Pg w K mg base k c 2 "step_room" 3)(xr:ao Pg w K mg base k c 6 "steps_to" 3)(gb:ao Pg w K mg base k c 7 "stream_with" 3):bJ Pg w K mg base gf (k+1) f fd ["net"] (gD K 1 (fun args=>enter c n f8 args)):=by
 exists Fu,sc8,0,0;refine aO ?_ ?_;.exists 1,au cJ (aD (sv 0) aj) aj
 lia;.exists rC (i:=2) ?_ ?_ ?_ ?_ ?_ ?_;exact nd;exact rfl;exact Or.inr rfl;rotate_left;rfl;exact oi;exact au cH (cO (cZ aj aV rfl)) (lN rfl (by rfl) eV (aD (sv 0) aj))
 lia;.exists 3,cO aV
 lia;.exists 4,dm cY hr (aZ (sv 0) (aZ (sv 2) (aZ sG aC rfl) rfl) rfl)
 lia;.exact(vG PassesOwn.never (O6 (bR hr) (sv 1) (sv 4) (by with_unfolding_all rfl)) (by lia;(· exists 5,dm xr hr (aZ (sv 0) (aZ (sv 4) (aZ (sv 1) aC rfl) rfl) rfl));(· lia;(· exists 6,Jj rfl hc (by rfl) kW (cI (N':=["net","end","stream","chains","come","steps","loads","step"]) hc (vA rfl (by rfl)) (bH (sv 5)) (fun _ _ _ _ _=>aK (i:=7) ‹["net","end","stream","chains","come","steps","loads","step"]› rfl (Or.inl rfl) (Or.inr rfl)) (dD (le_refl _)) (fun _ _ _ _ _=>du) (fun _ _ _ _ _=>(dm iU hr (aZ (sv 0) (aZ (sv 2) (aZ (sv 7) aC rfl) rfl) rfl)))));(· lia;exact fW (k:=3) rfl (by first|exact Or.inl rfl|exact Or.inr (Or.inl rfl)) (cM (cZ (sv 5) (cZ (sv 6) aV rfl) rfl));(· lia;(· exists rC (i:=2) ?_ ?_ ?_ ?_ ?_ ?_;exact nd;exact rfl;exact Or.inr rfl;rotate_left;rfl;exact oi;exact dm gb hr (aZ (sv 2) (aZ (sv 5) (aZ (sv 6) aC rfl) rfl) rfl));(· lia;(· exists 4,dm cY hr (aZ (sv 0) (aZ (sv 2) (aZ sG aC rfl) rfl) rfl));exact aB))))))
 lia;.exists(),sv 3
 exact aB
noncomputable abbrev s9:=top 13
noncomputable def b9:List S:=[.asg 2 (.lst []),.asg 3 (.var 1),.gV (.var 0) [4,5] false [.asg 6 (.blt .min2 [.var 3,.var 5]),.app 2 (.tup [.var 4,.var 6]),.aug 3 true (.var 6)],.ifs (.cmp .gt (.var 3) (.con (.int 0))) [.bad] [],.ret (.var 2)]
noncomputable def f9:Fd:=⟨2,7,b9⟩
theorem sc9:aL ["pairs","rate","cut","left","first","loads","taken"] ["pairs","rate"] (aA s9):=nofun
include cl in
theorem d9(Fu:gF K "cut_to_rate" "cut_to_rate" s9 f fd)(kW:mg "min"=none):bJ Pg w K mg base gf (k+1) f fd ["pairs","rate"] (gD K 2 (fun args=>enter c n f9 args)):=by
 exists Fu,sc9,0,0;refine aO ?_ ?_;.exists 2,cO aV
 lia;.exists 3,sv 1
 lia;.exact(jH PassesOwn.never hc (bH (sv 0)) (eG hc (aP (aK (i:=4) nd rfl oi oi) (aP (aK (i:=5) nd rfl oi oi) cU))) (lq rfl (cW _ _ (cW _ _ jh 5) 4)) (by lia;(· exists 6,xW rfl hc (by rfl) kW (cZ (sv 3) (cZ (sv 5) aV rfl) rfl));(· lia;exact fW (k:=2) rfl (by first|exact Or.inl rfl|exact Or.inr (Or.inl rfl)) (cM (cZ (sv 4) (cZ (sv 6) aV rfl) rfl));(· lia;exact Qf (i:=3) (sub:=true) Ii nd rfl oi (sv 6) (Or.inl rfl);exact aB))))
 lia;.exists mC ?_ ?_ ?_;exact di pC (sv 3) aj (dh _);(· lia;exact Nx;exact aB);exact aB
 lia;.exists(),sv 2
 exact aB
noncomputable abbrev gM:=top 15
noncomputable def b10:List S:=[.Ge 1 false,.gV (.call 8 [.var 0]) [2,3] false [.asg 4 (.call 3 [.var 0,.var 2]),.dput 1 (.var 4) (.bin .add (.Ss 1 (.var 4) (.con (.int 0))) (.var 3))],.ret (.blt .Ga [.vw 1])]
noncomputable def Xx:Fd:=⟨1,5,b10⟩
theorem Zo:aL ["net","bends","steps","loads","length"] ["net"] (aA gM):=nofun
include cl in
theorem d10(Fu:gF K "bends_of" "bends_of" gM f fd)(gC:mg "sorted"=none)(eO:ao Pg w K mg base k c 8 "chains_to_end" 1)(pW:ao Pg w K mg base k c 3 "steps_hours" 2):bJ Pg w K mg base gf (k+1) f fd ["net"] (gD K 1 (fun args=>enter c n Xx args)):=by
 exists Fu,Zo,0,0;refine aO ?_ ?_;.exact(G4 (i:=1) nd rfl oi (by rfl) (Or.inl rfl))
 lia;.exact(jH PassesOwn.never hc (bH (dm eO hr (aZ (sv 0) aC rfl))) (eG hc (aP (aK (i:=2) nd rfl oi oi) (aP (aK (i:=3) nd rfl oi oi) cU))) (lq rfl (cW _ _ (cW _ _ jh 3) 2)) (by lia;(· exists 4,dm pW hr (aZ (sv 0) (aZ (sv 2) aC rfl) rfl));(· lia;exact Jm (i:=1) (bR hr) rfl (by first|exact Or.inl rfl|exact Or.inr (Or.inl rfl)) (sv 4) (au aY (Qe (i:=1) (bR hr) rfl (by first|exact Or.inl rfl|exact Or.inr (Or.inl rfl)) (sv 4) aj ⟨rfl,rfl,rfl,rfl⟩) (sv 3)) (by rfl);exact aB)))
 lia;.exists(),Jf rfl hc (by rfl) gC rfl (KZ (i:=1) rfl (by first|exact Or.inl rfl|exact Or.inr (Or.inl rfl)))
 exact aB
noncomputable abbrev Yo:=top 16
noncomputable def b11:List S:=[.ret (.blt .sum [.comp (.call 9 [.call 10 [.var 0],.var 1]) 2 [2,3] false none (.bin .mul (.var 2) (.var 3))])]
noncomputable def f11:Fd:=⟨2,2,b11⟩
theorem aaR:aL ["net","rate"] ["net","rate"] (aA Yo):=nofun
include cl in
theorem d11(Fu:gF K "least_hours" "least_hours" Yo f fd)(eU:mg "sum"=none)(dj:ao Pg w K mg base k c 10 "bends_of" 1)(pX:ao Pg w K mg base k c 9 "cut_to_rate" 2):bJ Pg w K mg base gf (k+1) f fd ["net","rate"] (gD K 2 (fun args=>enter c n f11 args)):=by
 exists Fu,aaR,0,0;refine aO ?_ ?_;.exists(),lU rfl hc (by rfl) eU (cI (N':=["net","rate","length","loads"]) hc (vA rfl (by rfl)) (bH (dm pX hr (aZ (dm dj hr (aZ (sv 0) aC rfl)) (aZ (sv 1) aC rfl) rfl))) (fun _ _ _ _ _=>eG hc (aP (aK (i:=2) ‹["net","rate","length","loads"]› rfl (Or.inl rfl) (Or.inr rfl)) (aP (aK (i:=3) ‹["net","rate","length","loads"]› rfl (Or.inl rfl) (Or.inr rfl)) cU))) (je rfl (bZ (show 2<=2 by decide) (bZ (show 2<=3 by decide) iW))) (fun _ _ _ _ _=>du) (fun _ _ _ _ _=>(au cH (sv 2) (sv 3))))
 exact aB
noncomputable abbrev s12:=top 18
noncomputable def b12:List S:=[.ret (.comp (.Sq (.idx (.var 0) (.con (.int 1)))) 2 [2,3] false (some (.cmp .eq (.idx (.var 3) (.con (.int 0))) (.var 1))) (.var 2))]
noncomputable def WQ:Fd:=⟨2,2,b12⟩
theorem aa4:aL ["net","place"] ["net","place"] (aA s12):=nofun
include cl in
theorem d12(Fu:gF K "ways_out" "ways_out" s12 f fd)(dq:mg "enumerate"=none):bJ Pg w K mg base gf (k+1) f fd ["net","place"] (gD K 2 (fun args=>enter c n WQ args)):=by
 exists Fu,aa4,0,0;refine aO ?_ ?_;.exists(),cI (N':=["net","place","number","way"]) hc (vA rfl (by rfl)) (Ce rfl (by rfl) dq (aD (sv 0) aj)) (fun _ _ _ _ _=>eG hc (aP (aK (i:=2) ‹["net","place","number","way"]› rfl (Or.inl rfl) (Or.inr rfl)) (aP (aK (i:=3) ‹["net","place","number","way"]› rfl (Or.inl rfl) (Or.inr rfl)) cU))) (je rfl (bZ (show 2<=2 by decide) (bZ (show 2<=3 by decide) iW))) (fun _ _ _ _ _=>mY (di (rJ (bR hr)) (aD (sv 3) aj) (sv 1) (dh _))) (fun _ _ _ _ _=>(sv 2))
 exact aB
noncomputable abbrev s13:=top 19
noncomputable def b13:List S:=[.ret (.comp (.Sq (.idx (.var 0) (.con (.int 1)))) 2 [2,3] false (some (.cmp .eq (.idx (.var 3) (.con (.int 1))) (.var 1))) (.var 2))]
noncomputable def WM:Fd:=⟨2,2,b13⟩
theorem ZK:aL ["net","place"] ["net","place"] (aA s13):=nofun
include cl in
theorem d13(Fu:gF K "ways_in" "ways_in" s13 f fd)(dq:mg "enumerate"=none):bJ Pg w K mg base gf (k+1) f fd ["net","place"] (gD K 2 (fun args=>enter c n WM args)):=by
 exists Fu,ZK,0,0;refine aO ?_ ?_;.exists(),cI (N':=["net","place","number","way"]) hc (vA rfl (by rfl)) (Ce rfl (by rfl) dq (aD (sv 0) aj)) (fun _ _ _ _ _=>eG hc (aP (aK (i:=2) ‹["net","place","number","way"]› rfl (Or.inl rfl) (Or.inr rfl)) (aP (aK (i:=3) ‹["net","place","number","way"]› rfl (Or.inl rfl) (Or.inr rfl)) cU))) (je rfl (bZ (show 2<=2 by decide) (bZ (show 2<=3 by decide) iW))) (fun _ _ _ _ _=>mY (di (rJ (bR hr)) (aD (sv 3) aj) (sv 1) (dh _))) (fun _ _ _ _ _=>(sv 2))
 exact aB
noncomputable abbrev Z5:=top 21
noncomputable def b14:List S:=[.asg 3 (.blt .sum [.comp (.call 13 [.var 0,.var 2]) 1 [4] true none (.idx (.var 1) (.var 4))]),.ret (.bin .sub (.var 3) (.blt .sum [.comp (.call 12 [.var 0,.var 2]) 1 [4] true none (.idx (.var 1) (.var 4))]))]
noncomputable def QM:Fd:=⟨3,4,b14⟩
theorem aa2:aL ["net","stream","place","come"] ["net","stream","place"] (aA Z5):=nofun
include cl in
theorem d14(Fu:gF K "stays_at" "stays_at" Z5 f fd)(eU:mg "sum"=none)(Bf:ao Pg w K mg base k c 13 "ways_in" 2)(xu:ao Pg w K mg base k c 12 "ways_out" 2):bJ Pg w K mg base gf (k+1) f fd ["net","stream","place"] (gD K 3 (fun args=>enter c n QM args)):=by
 exists Fu,aa2,0,0;refine aO ?_ ?_;.exists 3,lU rfl hc (by rfl) eU (cI (N':=["net","stream","place","come","number"]) hc (vA rfl (by rfl)) (bH (dm Bf hr (aZ (sv 0) (aZ (sv 2) aC rfl) rfl))) (fun _ _ _ _ _=>aK (i:=4) ‹["net","stream","place","come","number"]› rfl (Or.inl rfl) (Or.inr rfl)) (dD (le_refl _)) (fun _ _ _ _ _=>du) (fun _ _ _ _ _=>(aD (sv 1) (sv 4))))
 lia;.exists(),au cJ (sv 3) (lU rfl hc (by rfl) eU (cI (N':=["net","stream","place","come","number"]) hc (vA rfl (by rfl)) (bH (dm xu hr (aZ (sv 0) (aZ (sv 2) aC rfl) rfl))) (fun _ _ _ _ _=>aK (i:=4) ‹["net","stream","place","come","number"]› rfl (Or.inl rfl) (Or.inr rfl)) (dD (le_refl _)) (fun _ _ _ _ _=>du) (fun _ _ _ _ _=>(aD (sv 1) (sv 4)))))
 exact aB
noncomputable abbrev s15:=top 22
noncomputable def b15:List S:=[.ret (.neg (.call 14 [.var 0,.var 1,.con (.int 0)]))]
noncomputable def QG:Fd:=⟨2,2,b15⟩
theorem aaD:aL ["net","stream"] ["net","stream"] (aA s15):=nofun
include cl in
theorem d15(Fu:gF K "stream_rate" "stream_rate" s15 f fd)(xx:ao Pg w K mg base k c 14 "stays_at" 3):bJ Pg w K mg base gf (k+1) f fd ["net","stream"] (gD K 2 (fun args=>enter c n QG args)):=by
 exists Fu,aaD,0,0;refine aO ?_ ?_;.exists(),wO (dm xx hr (aZ (sv 0) (aZ (sv 1) (aZ aj aC rfl) rfl) rfl))
 exact aB
noncomputable abbrev Y6:=top 24
noncomputable def b16:List S:=[.ret (.comp (.call 10 [.var 0]) 1 [2] true (some (.cmp .le (.idx (.var 2) (.con (.int 0))) (.var 1))) (.var 2))]
noncomputable def Yh:Fd:=⟨2,2,b16⟩
theorem Z1:aL ["net","last"] ["net","last"] (aA Y6):=nofun
include cl in
theorem d16(Fu:gF K "bends_by" "bends_by" Y6 f fd)(dj:ao Pg w K mg base k c 10 "bends_of" 1):bJ Pg w K mg base gf (k+1) f fd ["net","last"] (gD K 2 (fun args=>enter c n Yh args)):=by
 exists Fu,Z1,0,0;refine aO ?_ ?_;.exists(),cI (N':=["net","last","bend"]) hc (vA rfl (by rfl)) (bH (dm dj hr (aZ (sv 0) aC rfl))) (fun _ _ _ _ _=>aK (i:=2) ‹["net","last","bend"]› rfl (Or.inl rfl) (Or.inr rfl)) (dD (le_refl _)) (fun _ _ _ _ _=>mY (di Fv (aD (sv 2) aj) (sv 1) (dh _))) (fun _ _ _ _ _=>(sv 2))
 exact aB
noncomputable abbrev s17:=top 25
noncomputable def b17:List S:=[.ret (.blt .sum [.comp (.var 0) 2 [2,3] false (some (.cmp .le (.var 2) (.var 1))) (.bin .mul (.var 3) (.bin .add (.bin .sub (.var 1) (.var 2)) (.con (.int 1))))])]
noncomputable def Wr:Fd:=⟨2,2,b17⟩
theorem Zz:aL ["bends","last"] ["bends","last"] (aA s17):=nofun
include cl in
theorem d17(Fu:gF K "most_of" "most_of" s17 f fd)(eU:mg "sum"=none):bJ Pg w K mg base gf (k+1) f fd ["bends","last"] (gD K 2 (fun args=>enter c n Wr args)):=by
 exists Fu,Zz,0,0;refine aO ?_ ?_;.exists(),lU rfl hc (by rfl) eU (cI (N':=["bends","last","length","loads"]) hc (vA rfl (by rfl)) (bH (sv 0)) (fun _ _ _ _ _=>eG hc (aP (aK (i:=2) ‹["bends","last","length","loads"]› rfl (Or.inl rfl) (Or.inr rfl)) (aP (aK (i:=3) ‹["bends","last","length","loads"]› rfl (Or.inl rfl) (Or.inr rfl)) cU))) (je rfl (bZ (show 2<=2 by decide) (bZ (show 2<=3 by decide) iW))) (fun _ _ _ _ _=>mY (di Fv (sv 2) (sv 1) (dh _))) (fun _ _ _ _ _=>(au cH (sv 3) (au aY (au cJ (sv 1) (sv 2)) aj))))
 exact aB
noncomputable abbrev Zm:=top 26
noncomputable def b18:List S:=[.ret (.call 17 [.call 10 [.var 0],.var 1])]
noncomputable def Xh:Fd:=⟨2,2,b18⟩
theorem abz:aL ["net","last"] ["net","last"] (aA Zm):=nofun
include cl in
theorem d18(Fu:gF K "most_by" "most_by" Zm f fd)(dj:ao Pg w K mg base k c 10 "bends_of" 1)(Bg:ao Pg w K mg base k c 17 "most_of" 2):bJ Pg w K mg base gf (k+1) f fd ["net","last"] (gD K 2 (fun args=>enter c n Xh args)):=by
 exists Fu,abz,0,0;refine aO ?_ ?_;.exists(),dm Bg hr (aZ (dm dj hr (aZ (sv 0) aC rfl)) (aZ (sv 1) aC rfl) rfl)
 exact aB
noncomputable abbrev s19:=top 27
noncomputable def b19:List S:=[.ret (.blt .sum [.comp (.call 16 [.var 0,.var 1]) 2 [2,3] false none (.var 3)])]
noncomputable def Yb:Fd:=⟨2,2,b19⟩
theorem ZZ:aL ["net","last"] ["net","last"] (aA s19):=nofun
include cl in
theorem d19(Fu:gF K "rate_by" "rate_by" s19 f fd)(eU:mg "sum"=none)(xF:ao Pg w K mg base k c 16 "bends_by" 2):bJ Pg w K mg base gf (k+1) f fd ["net","last"] (gD K 2 (fun args=>enter c n Yb args)):=by
 exists Fu,ZZ,0,0;refine aO ?_ ?_;.exists(),lU rfl hc (by rfl) eU (cI (N':=["net","last","length","loads"]) hc (vA rfl (by rfl)) (bH (dm xF hr (aZ (sv 0) (aZ (sv 1) aC rfl) rfl))) (fun _ _ _ _ _=>eG hc (aP (aK (i:=2) ‹["net","last","length","loads"]› rfl (Or.inl rfl) (Or.inr rfl)) (aP (aK (i:=3) ‹["net","last","length","loads"]› rfl (Or.inl rfl) (Or.inr rfl)) cU))) (je rfl (bZ (show 2<=2 by decide) (bZ (show 2<=3 by decide) iW))) (fun _ _ _ _ _=>du) (fun _ _ _ _ _=>(sv 3)))
 exact aB
noncomputable abbrev Y8:=top 29
noncomputable def b20:List S:=[.ret (.tup [.idx (.var 0) (.con (.int 0)),.blt .tuple [.comp (.idx (.var 0) (.con (.int 1))) 1 [1] true none (.tup [.idx (.var 1) (.con (.int 0)),.idx (.var 1) (.con (.int 1)),.idx (.var 1) (.con (.int 2)),.con (.int 0)])]])]
noncomputable def WR:Fd:=⟨1,1,b20⟩
theorem abf:aL ["net"] ["net"] (aA Y8):=nofun
include cl in
theorem d20(Fu:gF K "hourless_net" "hourless_net" Y8 f fd)(cX:mg "tuple"=none):bJ Pg w K mg base gf (k+1) f fd ["net"] (gD K 1 (fun args=>enter c n WR args)):=by
 exists Fu,abf,0,0;refine aO ?_ ?_;.exists(),cM (cZ (aD (sv 0) aj) (cZ (nW rfl (by rfl) cX (cI (N':=["net","way"]) hc (vA rfl (by rfl)) (bH (aD (sv 0) aj)) (fun _ _ _ _ _=>aK (i:=1) ‹["net","way"]› rfl (Or.inl rfl) (Or.inr rfl)) (dD (le_refl _)) (fun _ _ _ _ _=>du) (fun _ _ _ _ _=>(cM (cZ (aD (sv 1) aj) (cZ (aD (sv 1) aj) (cZ (aD (sv 1) aj) (cZ aj aV rfl) rfl) rfl) rfl))))) aV rfl) rfl)
 exact aB
noncomputable abbrev Za:=top 30
noncomputable def b21:List S:=[.asg 1 (.call 20 [.var 0]),.asg 2 (.bin .mul (.lst [.con (.int 0)]) (.blt .len [.idx (.var 0) (.con (.int 1))])),.gV (.call 8 [.var 1]) [3,4] false [.asg 2 (.call 7 [.var 2,.var 3,.var 4])],.asg 5 (.blt .tuple [.blt .lV [.call 5 [.var 1,.var 2,.vd 0 0]]]),.ret (.tup [.call 15 [.var 0,.var 2],.var 2,.var 5])]
noncomputable def W3:Fd:=⟨1,6,b21⟩
theorem abd:aL ["net","hourless","stream","steps","loads","side"] ["net"] (aA Za):=nofun
include cl in
theorem d21(Fu:gF K "fullest_stream" "fullest_stream" Za f fd)(eV:mg "len"=none)(gC:mg "sorted"=none)(cX:mg "tuple"=none)(eO:ao Pg w K mg base k c 8 "chains_to_end" 1)(pI:ao Pg w K mg base k c 20 "hourless_net" 1)(cY:ao Pg w K mg base k c 5 "shortest_come" 3)(pY:ao Pg w K mg base k c 15 "stream_rate" 2)(gb:ao Pg w K mg base k c 7 "stream_with" 3):bJ Pg w K mg base gf (k+1) f fd ["net"] (gD K 1 (fun args=>enter c n W3 args)):=by
 exists Fu,abd,0,0;refine aO ?_ ?_;.exists 1,dm pI hr (aZ (sv 0) aC rfl)
 lia;.exists 2,au cH (cO (cZ aj aV rfl)) (lN rfl (by rfl) eV (aD (sv 0) aj))
 lia;.exact(jH PassesOwn.never hc (bH (dm eO hr (aZ (sv 1) aC rfl))) (eG hc (aP (aK (i:=3) nd rfl oi oi) (aP (aK (i:=4) nd rfl oi oi) cU))) (lq rfl (cW _ _ (cW _ _ jh 4) 3)) (by lia;(· exists 2,dm gb hr (aZ (sv 2) (aZ (sv 3) (aZ (sv 4) aC rfl) rfl) rfl));exact aB))
 lia;.exists 5,nW rfl (by rfl) cX (Ba rfl hc (by rfl) gC (dm cY hr (aZ (sv 1) (aZ (sv 2) (aZ sG aC rfl) rfl) rfl)))
 lia;.exists(),cM (cZ (dm pY hr (aZ (sv 0) (aZ (sv 2) aC rfl) rfl)) (cZ (sv 2) (cZ (sv 5) aV rfl) rfl) rfl)
 exact aB
noncomputable abbrev ZG:=top 32
noncomputable def b22:List S:=[.ret (.call 19 [.var 0,.var 1])]
noncomputable def Wo:Fd:=⟨2,2,b22⟩
theorem aaV:aL ["net","last"] ["net","last"] (aA ZG):=nofun
include cl in
theorem d22(Fu:gF K "gain_at" "gain_at" ZG f fd)(Bh:ao Pg w K mg base k c 19 "rate_by" 2):bJ Pg w K mg base gf (k+1) f fd ["net","last"] (gD K 2 (fun args=>enter c n Wo args)):=by
 exists Fu,aaV,0,0;refine aO ?_ ?_;.exists(),dm Bh hr (aZ (sv 0) (aZ (sv 1) aC rfl) rfl)
 exact aB
noncomputable abbrev Zi:=top 34
noncomputable def b23:List S:=[.ret (.lst [.blt .max2 [.con (.int 0),.bin .sub (.var 0) (.bin .pow (.con (.int 10)) (.con (.int 18)))],.bin .mod (.var 0) (.bin .pow (.con (.int 10)) (.con (.int 18))),.con (.int 0)])]
noncomputable def XF:Fd:=⟨1,1,b23⟩
theorem aaJ:aL ["cell"] ["cell"] (aA Zi):=nofun
include cl in
theorem d23(Fu:gF K "_law_pool" "_law_pool" Zi f fd)(pJ:mg "max"=none):bJ Pg w K mg base gf (k+1) f fd ["cell"] (gD K 1 (fun args=>enter c n XF args)):=by
 exists Fu,aaJ,0,0;refine aO ?_ ?_;.exists(),cO (cZ (Hs rfl hc (by rfl) pJ (cZ aj (cZ (au cJ (sv 0) (au fV aj aj)) aV rfl) rfl)) (cZ (au dO (sv 0) (au fV aj aj)) (cZ aj aV rfl) rfl) rfl)
 exact aB
noncomputable abbrev Zf:=top 35
noncomputable def b24:List S:=[.ifs (.cmp .gt (.idx (.var 0) (.con (.int 0))) (.con (.int 0))) [.asg 2 (.bin .mod (.idx (.var 0) (.con (.int 0))) (.var 1)),.xm 0 (.con (.int 0)) (.bin .fdiv (.idx (.var 0) (.con (.int 0))) (.var 1)),.ret (.var 2)] [],.xm 0 (.con (.int 2)) (.bin .add (.idx (.var 0) (.con (.int 2))) (.con (.int 1))),.asg 3 (.bin .mod (.bin .add (.idx (.var 0) (.con (.int 1))) (.bin .mul (.con (.int 7919)) (.idx (.var 0) (.con (.int 2))))) (.con (.int 1000000007))),.asg 4 (.bin .mod (.bin .mul (.bin .add (.var 3) (.con (.int 11))) (.bin .add (.var 3) (.con (.int 48271)))) (.con (.int 998244353))),.ret (.bin .mod (.bin .fdiv (.bin .mod (.bin .mul (.var 4) (.var 4)) (.con (.int 2147483647))) (.con (.int 8))) (.var 1))]
noncomputable def WW:Fd:=⟨2,5,b24⟩
theorem abn:aL ["pool","base","digit","near","stir"] ["pool","base"] (aA Zf):=nofun
include cl in
theorem d24(Fu:gF K "_law_next" "_law_next" Zf f fd):bJ Pg w K mg base gf (k+1) f fd ["pool","base"] (gD K 2 (fun args=>enter c n WW args)):=by
 exists Fu,abn,0,0;refine aO ?_ ?_;.exists mC ?_ ?_ ?_;exact di pC (aD (sv 0) aj) aj (dh _);(· lia;(· exists 2,au dO (aD (sv 0) aj) (sv 1));(· lia;exact nD (k:=0) rfl (by first|exact Or.inl rfl|exact Or.inr (Or.inl rfl)) aj (au uG (aD (sv 0) aj) (sv 1));(· lia;(· exists(),sv 2);exact aB)));exact aB
 lia;.exact(nD (k:=0) rfl (by first|exact Or.inl rfl|exact Or.inr (Or.inl rfl)) aj (au aY (aD (sv 0) aj) aj))
 lia;.exists 3,au dO (au aY (aD (sv 0) aj) (au cH aj (aD (sv 0) aj))) aj
 lia;.exists 4,au dO (au cH (au aY (sv 3) aj) (au aY (sv 3) aj)) aj
 lia;.exists(),au dO (au uG (au dO (au cH (sv 4) (sv 4)) aj) aj) (sv 1)
 exact aB
noncomputable abbrev s25:=top 36
noncomputable def b25:List S:=[.ifs (.cmp .gt (.idx (.var 0) (.con (.int 0))) (.con (.int 0))) [.ret (.call 24 [.var 0,.var 1])] [],.asg 2 (.con (.int 0)),.gV (.zq (.con (.int 0)) (.con (.int 4))) [3] true [.asg 2 (.bin .add (.bin .mul (.var 2) (.bin .pow (.con (.int 10)) (.con (.int 7)))) (.call 24 [.var 0,.bin .pow (.con (.int 10)) (.con (.int 7))]))],.ret (.bin .mod (.var 2) (.var 1))]
noncomputable def Xb:Fd:=⟨2,4,b25⟩
theorem ZV:aL ["pool","base","found","k"] ["pool","base"] (aA s25):=nofun
include cl in
theorem d25(Fu:gF K "_law_wide" "_law_wide" s25 f fd)(cL:mg "range"=none)(aN:ao Pg w K mg base k c 24 "_law_next" 2):bJ Pg w K mg base gf (k+1) f fd ["pool","base"] (gD K 2 (fun args=>enter c n Xb args)):=by
 exists Fu,ZV,0,0;refine aO ?_ ?_;.exists mC ?_ ?_ ?_;exact di pC (aD (sv 0) aj) aj (dh _);(· lia;(· exists(),dm aN hr (aZ (sv 0) (aZ (sv 1) aC rfl) rfl));exact aB);exact aB
 lia;.exists 2,aj
 lia;.exists 3,ni rfl (by rfl) cL aj,0;(· lia;(· exists 2,au aY (au cH (sv 2) (au fV aj aj)) (dm aN hr (aZ (sv 0) (aZ (au fV aj aj) aC rfl) rfl)));exact aB)
 lia;.exists(),au dO (sv 2) (sv 1)
 exact aB
noncomputable abbrev s26:=top 37
noncomputable def b26:List S:=[.ifs (.cmp .eq (.call 24 [.var 0,.con (.int 3)]) (.con (.int 0))) [.asg 4 (.call 24 [.var 0,.var 1]),.asg 5 (.bin .mod (.bin .add (.bin .add (.var 4) (.con (.int 1))) (.call 24 [.var 0,.bin .sub (.var 1) (.con (.int 1))])) (.var 1))] [.asg 4 (.call 24 [.var 0,.bin .sub (.var 1) (.con (.int 1))]),.asg 5 (.bin .add (.bin .add (.var 4) (.con (.int 1))) (.call 24 [.var 0,.bin .sub (.bin .sub (.var 1) (.con (.int 1))) (.var 4)]))],.ret (.tup [.var 4,.var 5,.call 25 [.var 0,.bin .add (.var 2) (.con (.int 1))],.bin .add (.con (.int 1)) (.call 25 [.var 0,.var 3])])]
noncomputable def Ye:Fd:=⟨4,6,b26⟩
theorem Y4:aL ["pool","many","most","longest","start","to"] ["pool","many","most","longest"] (aA s26):=nofun
include cl in
theorem d26(Fu:gF K "_law_way" "_law_way" s26 f fd)(aN:ao Pg w K mg base k c 24 "_law_next" 2)(cF:ao Pg w K mg base k c 25 "_law_wide" 2):bJ Pg w K mg base gf (k+1) f fd ["pool","many","most","longest"] (gD K 4 (fun args=>enter c n Ye args)):=by
 exists Fu,Y4,0,0;refine aO ?_ ?_;.exists mC ?_ ?_ ?_;exact di (rJ (bR hr)) (dm aN hr (aZ (sv 0) (aZ aj aC rfl) rfl)) aj (dh _);(· lia;(· exists 4,dm aN hr (aZ (sv 0) (aZ (sv 1) aC rfl) rfl));(· lia;(· exists 5,au dO (au aY (au aY (sv 4) aj) (dm aN hr (aZ (sv 0) (aZ (au cJ (sv 1) aj) aC rfl) rfl))) (sv 1));exact aB));(· lia;(· exists 4,dm aN hr (aZ (sv 0) (aZ (au cJ (sv 1) aj) aC rfl) rfl));(· lia;(· exists 5,au aY (au aY (sv 4) aj) (dm aN hr (aZ (sv 0) (aZ (au cJ (au cJ (sv 1) aj) (sv 4)) aC rfl) rfl)));exact aB))
 lia;.exists(),cM (cZ (sv 4) (cZ (sv 5) (cZ (dm cF hr (aZ (sv 0) (aZ (au aY (sv 2) aj) aC rfl) rfl)) (cZ (au aY aj (dm cF hr (aZ (sv 0) (aZ (sv 3) aC rfl) rfl))) aV rfl) rfl) rfl) rfl)
 exact aB
noncomputable abbrev s27:=top 38
noncomputable def b27:List S:=[.asg 3 (.bin .add (.con (.int 2)) (.call 24 [.var 0,.bin .sub (.var 1) (.con (.int 1))])),.asg 4 (.idx (.lst [.con (.int 1),.con (.int 3),.con (.int 9),.bin .pow (.con (.int 10)) (.con (.int 9))]) (.call 24 [.var 0,.con (.int 4)])),.asg 5 (.idx (.lst [.con (.int 1),.con (.int 2),.con (.int 4),.bin .pow (.con (.int 10)) (.con (.int 6))]) (.call 24 [.var 0,.con (.int 4)])),.asg 6 (.lst []),.gV (.zq (.con (.int 0)) (.call 24 [.var 0,.bin .add (.var 2) (.con (.int 1))])) [7] true [.app 6 (.call 26 [.var 0,.var 3,.var 4,.var 5]),.ifs (.cmp .eq (.call 24 [.var 0,.con (.int 6)]) (.con (.int 0))) [.xm 6 (.var 7) (.idx (.var 6) (.call 24 [.var 0,.bin .add (.var 7) (.con (.int 1))]))] []],.ret (.tup [.var 3,.blt .tuple [.var 6]])]
noncomputable def Xl:Fd:=⟨3,8,b27⟩
theorem Zy:aL ["pool","places","count","many","most","longest","ways","k"] ["pool","places","count"] (aA s27):=nofun
include cl in
theorem d27(Fu:gF K "_law_net" "_law_net" s27 f fd)(cL:mg "range"=none)(cX:mg "tuple"=none)(aN:ao Pg w K mg base k c 24 "_law_next" 2)(xG:ao Pg w K mg base k c 26 "_law_way" 4):bJ Pg w K mg base gf (k+1) f fd ["pool","places","count"] (gD K 3 (fun args=>enter c n Xl args)):=by
 exists Fu,Zy,0,0;refine aO ?_ ?_;.exists 3,au aY aj (dm aN hr (aZ (sv 0) (aZ (au cJ (sv 1) aj) aC rfl) rfl))
 lia;.exists 4,aD (cO (sE [1,3,9] rfl (cZ (au fV aj aj) aV rfl))) (dm aN hr (aZ (sv 0) (aZ aj aC rfl) rfl))
 lia;.exists 5,aD (cO (sE [1,2,4] rfl (cZ (au fV aj aj) aV rfl))) (dm aN hr (aZ (sv 0) (aZ aj aC rfl) rfl))
 lia;.exists 6,cO aV
 lia;.exists 7,ni rfl (by rfl) cL (dm aN hr (aZ (sv 0) (aZ (au aY (sv 2) aj) aC rfl) rfl)),0;(· lia;exact fW (k:=6) rfl (by first|exact Or.inl rfl|exact Or.inr (Or.inl rfl)) (dm xG hr (aZ (sv 0) (aZ (sv 3) (aZ (sv 4) (aZ (sv 5) aC rfl) rfl) rfl) rfl));(· lia;(· exists mC ?_ ?_ ?_;exact di (rJ (bR hr)) (dm aN hr (aZ (sv 0) (aZ aj aC rfl) rfl)) aj (dh _);(· lia;exact nD (k:=6) rfl (by first|exact Or.inl rfl|exact Or.inr (Or.inl rfl)) (sv 7) (aD (sv 6) (dm aN hr (aZ (sv 0) (aZ (au aY (sv 7) aj) aC rfl) rfl)));exact aB);exact aB);exact aB))
 lia;.exists(),cM (cZ (sv 3) (cZ (nW rfl (by rfl) cX (sv 6)) aV rfl) rfl)
 exact aB
noncomputable abbrev s28:=top 39
noncomputable def b28:List S:=[.asg 2 (.lst [.con (.int 0),.call 24 [.var 0,.con (.int 40)],.call 24 [.var 0,.bin .mul (.con (.int 5)) (.bin .pow (.con (.int 10)) (.con (.int 6)))],.call 25 [.var 0,.bin .pow (.con (.int 10)) (.con (.int 18))]]),.gV (.call 10 [.var 1]) [3,4] false [.Gd 2 (.lst [.bin .sub (.var 3) (.con (.int 1)),.var 3])],.ret (.var 2)]
noncomputable def Wv:Fd:=⟨2,5,b28⟩
theorem ZM:aL ["pool","net","found","length","loads"] ["pool","net"] (aA s28):=nofun
include cl in
theorem d28(Fu:gF K "_law_hours" "_law_hours" s28 f fd)(aN:ao Pg w K mg base k c 24 "_law_next" 2)(cF:ao Pg w K mg base k c 25 "_law_wide" 2)(dj:ao Pg w K mg base k c 10 "bends_of" 1):bJ Pg w K mg base gf (k+1) f fd ["pool","net"] (gD K 2 (fun args=>enter c n Wv args)):=by
 exists Fu,ZM,0,0;refine aO ?_ ?_;.exists 2,cO (cZ aj (cZ (dm aN hr (aZ (sv 0) (aZ aj aC rfl) rfl)) (cZ (dm aN hr (aZ (sv 0) (aZ (au cH aj (au fV aj aj)) aC rfl) rfl)) (cZ (dm cF hr (aZ (sv 0) (aZ (au fV aj aj) aC rfl) rfl)) aV rfl) rfl) rfl) rfl)
 lia;.exact(jH PassesOwn.never hc (bH (dm dj hr (aZ (sv 1) aC rfl))) (eG hc (aP (aK (i:=3) nd rfl oi oi) (aP (aK (i:=4) nd rfl oi oi) cU))) (lq rfl (cW _ _ (cW _ _ jh 4) 3)) (by lia;exact Pu (k:=2) rfl (by first|exact Or.inl rfl|exact Or.inr (Or.inl rfl)) (cO (cZ (au cJ (sv 3) aj) (cZ (sv 3) aV rfl) rfl));exact aB))
 lia;.exists(),sv 2
 exact aB
noncomputable abbrev s29:=top 40
noncomputable def b29:List S:=[.asg 3 (.idx (.call 21 [.var 1]) (.con (.int 0))),.asg 4 (.lst [.con (.int 0),.var 3,.call 25 [.var 0,.bin .add (.var 3) (.con (.int 1))],.call 25 [.var 0,.bin .add (.var 3) (.con (.int 1))]]),.ret (.bin .add (.var 4) (.comp (.var 2) 1 [5] true none (.call 22 [.var 1,.var 5])))]
noncomputable def XS:Fd:=⟨3,5,b29⟩
theorem aak:aL ["pool","net","hours","greatest","found"] ["pool","net","hours"] (aA s29):=nofun
include cl in
theorem d29(Fu:gF K "_law_rates" "_law_rates" s29 f fd)(cF:ao Pg w K mg base k c 25 "_law_wide" 2)(lW:ao Pg w K mg base k c 21 "fullest_stream" 1)(lX:ao Pg w K mg base k c 22 "gain_at" 2):bJ Pg w K mg base gf (k+1) f fd ["pool","net","hours"] (gD K 3 (fun args=>enter c n XS args)):=by
 exists Fu,aak,0,0;refine aO ?_ ?_;.exists 3,aD (dm lW hr (aZ (sv 1) aC rfl)) aj
 lia;.exists 4,cO (cZ aj (cZ (sv 3) (cZ (dm cF hr (aZ (sv 0) (aZ (au aY (sv 3) aj) aC rfl) rfl)) (cZ (dm cF hr (aZ (sv 0) (aZ (au aY (sv 3) aj) aC rfl) rfl)) aV rfl) rfl) rfl) rfl)
 lia;.exists(),au aY (sv 4) (cI (N':=["pool","net","hours","greatest","found","last"]) hc (vA rfl (by rfl)) (bH (sv 2)) (fun _ _ _ _ _=>aK (i:=5) ‹["pool","net","hours","greatest","found","last"]› rfl (Or.inl rfl) (Or.inr rfl)) (dD (le_refl _)) (fun _ _ _ _ _=>du) (fun _ _ _ _ _=>(dm lX hr (aZ (sv 1) (aZ (sv 5) aC rfl) rfl))))
 exact aB
noncomputable abbrev Zk:=top 41
noncomputable def b30:List S:=[.asg 2 (.bin .mul (.lst [.con (.int 0)]) (.var 1)),.gV (.zq (.con (.int 0)) (.blt .len [.var 0])) [3] true [.xm 2 (.bin .mod (.var 3) (.var 1)) (.bin .add (.bin .mul (.idx (.var 2) (.bin .mod (.var 3) (.var 1))) (.con (.int 1000003))) (.idx (.var 0) (.var 3)))],.ret (.slice (.var 2) (.con .non) (.blt .min2 [.blt .len [.var 0],.var 1]))]
noncomputable def XN:Fd:=⟨2,4,b30⟩
theorem aaa:aL ["script","most","cells","k"] ["script","most"] (aA Zk):=nofun
include cl in
theorem d30(Fu:gF K "_law_folded" "_law_folded" Zk f fd)(eV:mg "len"=none)(kW:mg "min"=none)(cL:mg "range"=none):bJ Pg w K mg base gf (k+1) f fd ["script","most"] (gD K 2 (fun args=>enter c n XN args)):=by
 exists Fu,aaa,0,0;refine aO ?_ ?_;.exists 2,au cH (cO (cZ aj aV rfl)) (sv 1)
 lia;.exists 3,ni rfl (by rfl) cL (lN rfl (by rfl) eV (sv 0)),0;(· lia;exact nD (k:=2) rfl (by first|exact Or.inl rfl|exact Or.inr (Or.inl rfl)) (au dO (sv 3) (sv 1)) (au aY (au cH (aD (sv 2) (au dO (sv 3) (sv 1))) aj) (aD (sv 0) (sv 3)));exact aB)
 lia;.exists(),uO (sv 2) yg (xU (xW rfl hc (by rfl) kW (cZ (lN rfl (by rfl) eV (sv 0)) (cZ (sv 1) aV rfl) rfl)))
 exact aB
noncomputable abbrev Y0:=top 42
noncomputable def b31:List S:=[.gV (.bin .add (.lst [.con (.int 0)]) (.call 30 [.var 0,.con (.int 4)])) [1] true [.asg 2 (.call 23 [.var 1]),.asg 3 (.call 27 [.var 2,.con (.int 6),.con (.int 12)]),.asg 4 (.call 28 [.var 2,.var 3]),.asg 5 (.comp (.var 4) 1 [11] true none (.tup [.var 11,.call 18 [.var 3,.var 11]])),.gV (.call 29 [.var 2,.var 3,.var 4]) [6] true [.asg 7 (.call 11 [.var 3,.var 6]),.ifs (.cmp .ne (.blt .FZ [.bin .add (.lst [.con (.int 0)]) (.comp (.var 5) 2 [11,12] false none (.bin .sub (.bin .mul (.bin .add (.var 11) (.con (.int 1))) (.var 6)) (.var 12)))]) (.var 7)) [.ret (.con (.bl false))] []],.gV (.var 5) [8,9] false [.asg 10 (.call 22 [.var 3,.var 8]),.ifs (.cmp .ne (.bin .sub (.bin .mul (.bin .add (.var 8) (.con (.int 1))) (.var 10)) (.call 11 [.var 3,.var 10])) (.var 9)) [.ret (.con (.bl false))] []]],.ret (.con (.bl true))]
noncomputable def Xc:Fd:=⟨1,11,b31⟩
theorem Y9:aL ["script","cell","pool","net","hours","most","rate","least","last","loads","gain"] ["script"] (aA Y0):=nofun
include cl in
theorem d31(Fu:gF K "law" "law" Y0 f fd)(pJ:mg "max"=none)(pZ:ao Pg w K mg base k c 30 "_law_folded" 2)(sX:ao Pg w K mg base k c 28 "_law_hours" 2)(xH:ao Pg w K mg base k c 27 "_law_net" 3)(vo:ao Pg w K mg base k c 23 "_law_pool" 1)(sY:ao Pg w K mg base k c 29 "_law_rates" 3)(lX:ao Pg w K mg base k c 22 "gain_at" 2)(jz:ao Pg w K mg base k c 11 "least_hours" 2)(Bj:ao Pg w K mg base k c 18 "most_by" 2):bJ Pg w K mg base gf (k+1) f fd ["script"] (gD K 1 (fun args=>enter c n Xc args)):=by
 exists Fu,Y9,0,0;refine aO ?_ ?_;.exists 1,bH (au aY (cO (cZ aj aV rfl)) (dm pZ hr (aZ (sv 0) (aZ aj aC rfl) rfl))),0;(· lia;(· exists 2,dm vo hr (aZ (sv 1) aC rfl));(· lia;(· exists rC (i:=3) ?_ ?_ ?_ ?_ ?_ ?_;exact nd;exact rfl;exact Or.inr rfl;rotate_left;rfl;exact oi;exact dm xH hr (aZ (sv 2) (aZ aj (aZ aj aC rfl) rfl) rfl));(· lia;(· exists 4,dm sX hr (aZ (sv 2) (aZ (sv 3) aC rfl) rfl));(· lia;exact Jd (i:=5) (N':=["script","cell","pool","net","hours","most","rate","least","last#8","loads","gain","last"]) hc nd rfl oi (vA rfl (by rfl)) (bH (sv 4)) (fun _ _ _ _ _=>aK (i:=11) ‹["script","cell","pool","net","hours","most","rate","least","last#8","loads","gain","last"]› rfl (Or.inl rfl) (Or.inr rfl)) (dD (le_refl _)) (fun _ _ _ _ _=>du) (fun _ _ _ _ _=>(cM (cZ (sv 11) (cZ (dm Bj hr (aZ (sv 3) (aZ (sv 11) aC rfl) rfl)) aV rfl) rfl))) (by rfl) (by intro _;rfl) (Or.inl rfl);(· lia;(· exists yh (i:=6) ?_ ?_ ?_ ?_ ?_ ?_ ?_ ?_ ?_;exact PassesOwn.never;exact hc;exact nd;exact rfl;exact Or.inr rfl;exact bH (dm sY hr (aZ (sv 2) (aZ (sv 3) (aZ (sv 4) aC rfl) rfl) rfl));(· lia;(· exists 7,dm jz hr (aZ (sv 3) (aZ (sv 6) aC rfl) rfl));(· lia;(· exists mC ?_ ?_ ?_;exact di (Fj (bR hr)) (IV rfl hc (by rfl) pJ (au aY (cO (cZ aj aV rfl)) (cI (N':=["script","cell","pool","net","hours","most","rate","least","last#8","loads#9","gain","last","loads"]) hc (vA rfl (by rfl)) (bH (sv 5)) (fun _ _ _ _ _=>eG hc (aP (aK (i:=11) ‹["script","cell","pool","net","hours","most","rate","least","last#8","loads#9","gain","last","loads"]› rfl (Or.inl rfl) (Or.inr rfl)) (aP (aK (i:=12) ‹["script","cell","pool","net","hours","most","rate","least","last#8","loads#9","gain","last","loads"]› rfl (Or.inl rfl) (Or.inr rfl)) cU))) (je rfl (bZ (show 11<=11 by decide) (bZ (show 11<=12 by decide) iW))) (fun _ _ _ _ _=>du) (fun _ _ _ _ _=>(au cJ (au cH (au aY (sv 11) aj) (sv 6)) (sv 12)))))) (sv 7) (dh _);(· lia;(· exists(),qw);exact aB);exact aB);exact aB));(· intro _;rfl);exact oi);(· lia;exact jH PassesOwn.never hc (bH (sv 5)) (eG hc (aP (aK (i:=8) nd rfl oi oi) (aP (aK (i:=9) nd rfl oi oi) cU))) (lq rfl (cW _ _ (cW _ _ jh 9) 8)) (by lia;(· exists 10,dm lX hr (aZ (sv 3) (aZ (sv 8) aC rfl) rfl));(· lia;(· exists mC ?_ ?_ ?_;exact di (Fj (bR hr)) (au cJ (au cH (au aY (sv 8) aj) (sv 10)) (dm jz hr (aZ (sv 3) (aZ (sv 10) aC rfl) rfl))) (sv 9) (dh _);(· lia;(· exists(),qw);exact aB);exact aB);exact aB));exact aB))))))
 lia;.exists(),qw
 exact aB
end T
end
section
namespace T
open PySem L2 PySem.Spec PyProof.Rows HH
noncomputable def Γ:Tab:=fun i=>[f0,f1,f2,f3,f4,f5,f6,f7,f8,f9,Xx,f11,WQ,WM,QM,QG,Yh,Wr,Xh,Yb,WR,W3,Wo,XF,WW,Xb,Ye,Xl,Wv,XS,XN,Xc][i]?
end T
end
section
namespace T
open HH
local macro_rules|`(tactic|symm)=>`(tactic|first|apply ak|apply zA)
noncomputable abbrev big:Int:=1606938044258990275541962092341162602522202993782792835301376
theorem bG{w n:Nat}{x y z m:Int}{Q:R->List Sl->Prop}(h0:0<m)(h2:m<big)(k:∀d x z:Int,0<=d->d<m->Q (.val (.int d)) [.own true [.int x,.int y,.int z],.val false (.int m)]):(run Γ w (n+1) 24 [.own true [.int x,.int y,.int z],.val false (.int m)]).sat Q:=by
 have h3:m<1606938044258990275541962092341162602522202993782792835301376:=h2;refine aM (d:=WW) rfl rfl (by decide) ?_;symm;simp[WW];constructor;.intro _;symm;simp[h0];apply ak;simp[h0,h3,ig];apply ak;simp;exact k _ _ _ (Int.emod_nonneg _ (by omega)) (Int.emod_lt_of_pos _ h0)
 . intro _;symm;simp[ig];apply ak;simp;generalize hq:(y+7919*(z+1))%1000000007=q;have q0:0<=q/\q<1000000007:=by omega
   have q1:-18446744073709551616<q+11/\q+11<18446744073709551616:=by omega
   symm;simp[q1];generalize hs:(q+11)*(q+48271)%998244353=st;have q2:-18446744073709551616<st/\st<18446744073709551616:=by omega
   symm;simp[q2,h0];exact k _ _ _ (Int.emod_nonneg _ (by omega)) (Int.emod_lt_of_pos _ h0)
theorem BZ{w n:Nat}{x:Int}{Q:R->List Sl->Prop}(k:∀a b c:Int,Q (.own [.int a,.int b,.int c]) [.val false (.int x)]):(run Γ w (n+1) 23 [.val false (.int x)]).sat Q:=by refine aM (d:=XF) rfl rfl (by decide) ?_;symm;simp[XF];exact k _ _ _
inductive JW(y m:Int)(_:Nat)(ρ:List Sl):Prop where|mk(x z f:Int)(s:Sl)(q0:ρ=[.own true [.int x,.int y,.int z],.val false (.int m),.val false (.int f),s])(q1:fr s=true)
theorem iH{w n:Nat}{x y z m:Int}{Q:R->List Sl->Prop}(h0:0<m)(h2:m<big)(k:∀d x z:Int,0<=d->d<m->Q (.val (.int d)) [.own true [.int x,.int y,.int z],.val false (.int m)]):(run Γ w (n+2) 25 [.own true [.int x,.int y,.int z],.val false (.int m)]).sat Q:=by
 refine aM (d:=Xb) rfl rfl (by decide) ?_;symm;simp[Xb];constructor;.intro _;symm;simp;refine bG h0 h2 fun d x z h3 h4=>?_;simp;exact k _ _ _ h3 h4
 . intro _;symm;simp;apply ak;simp;refine jY (JW y m) ?_ ?_ ⟨x,z,0,.aU,rfl,rfl⟩;.rintro i _ hi⟨x,z,f,s,rfl,hs⟩;simp[hs];apply ak;simp;refine bG (by decide) (by decide) fun d x z h3 h4=>?_;simp;exact⟨_,_,_,_,rfl,rfl⟩
   .rintro _⟨x,z,f,s,rfl,hs⟩;symm;simp[h0];exact k _ _ _ (Int.emod_nonneg _ (by omega)) (Int.emod_lt_of_pos _ h0)
structure Wy where(s t r h:Int)
noncomputable def Wy.d(w:Wy):D:=.tup [.int w.s,.int w.t,.int w.r,.int w.h]
structure Wy.Ok(m:Int)(w:Wy):Prop where
 s0:0<=w.s
 s1:w.s<m
 t0:0<=w.t
 t1:w.t<m
 ne:w.s≠w.t
 r0:0<=w.r
 r1:w.r<=1000000000
 h0:1<=w.h
 h1:w.h<=1000000
theorem other{a b m:Int}(h1:0<=a)(h2:a<m)(h3:0<=b)(h4:b<m-1):0<=(a+1+b)%m/\(a+1+b)%m<m/\(a+1+b)%m≠a:=by
 by_cases h:a+1+b<m;.rw[Int.emod_eq_of_lt (by omega) h];omega
 . have e:(a+1+b)%m=a+1+b-m:=by rw[<-Int.sub_emod_right,Int.emod_eq_of_lt (by omega) (by omega)]
   rw[e];omega
noncomputable def aR(m:Int)(ws:List Wy):D:=.tup [.int m,.tup (ws.map Wy.d)]
structure dz(m:Int)(ws:List Wy):Prop where
 m0:2<=m
 m1:m<=6
 len:ws.length<=12
 ok:∀w∈ws,w.Ok m
@[simp]theorem acw{m:Int}{ws:List Wy}:GK (aR m ws) (.int 0)=some (.val (.int m)):=rfl
@[simp]theorem acQ{m:Int}{ws:List Wy}:GK (aR m ws) (.int 1)=some (.val (.tup (ws.map Wy.d))):=rfl
theorem Hw{w n:Nat}{x y z m p l:Int}{Q:R->List Sl->Prop}(h0:2<=m)(h2:m<=6)(p0:1<=p)(p1:p<=1000000000)(l0:1<=l)(l1:l<=1000000)(k:∀(v:Wy)(x z:Int),v.Ok m->Q (.val v.d) [.own true [.int x,.int y,.int z],.val false (.int m),.val false (.int p),.val false (.int l)]):(run Γ w (n+3) 26 [.own true [.int x,.int y,.int z],.val false (.int m),.val false (.int p),.val false (.int l)]).sat Q:=by
 refine aM (d:=Ye) rfl rfl (by decide) ?_;refine eY (fun ρ=>∃x z s t,ρ=[.own true [.int x,.int y,.int z],.val false (.int m),.val false (.int p),.val false (.int l),.val false (.int s),.val false (.int t)]/\0<=s/\s<m/\0<=t/\t<m/\s≠t) ?_ ?_
 . simp[Ye];refine bG (by decide) (by decide) fun d x z _ _=>?_;simp;constructor;.intro _;symm;simp;refine bG (by omega) (by show _<(1606938044258990275541962092341162602522202993782792835301376:Int);omega) fun a x z ha1 ha2=>?_;simp;apply ak;simp;refine bG (by omega) (by show _<(1606938044258990275541962092341162602522202993782792835301376:Int);omega) fun b x z hb1 hb2=>?_;obtain⟨t0,t1,tn⟩:=other ha1 ha2 hb1 hb2;simp[show 0<m by omega];refine⟨_,_,_,_,⟨⟨rfl,rfl⟩,rfl,rfl⟩,?_⟩;omega
   .intro _;symm;simp;refine bG (by omega) (by show _<(1606938044258990275541962092341162602522202993782792835301376:Int);omega) fun a x z ha1 ha2=>?_;simp;apply ak;simp;refine bG (by omega) (by show _<(1606938044258990275541962092341162602522202993782792835301376:Int);omega) fun b x z hb1 hb2=>?_;simp;refine⟨_,_,_,_,⟨⟨rfl,rfl⟩,rfl,rfl⟩,?_⟩;omega
 rintro _⟨x,z,s,t,rfl,s0,s1,t0,t1,ne⟩;symm;simp;refine iH (by omega) (by show _<(1606938044258990275541962092341162602522202993782792835301376:Int);omega) fun r x z hr1 hr2=>?_;simp;refine iH (by omega) (by show _<(1606938044258990275541962092341162602522202993782792835301376:Int);omega) fun h x z hh1 hh2=>?_;simp;exact k ⟨s,t,r,1+h⟩ x z ⟨s0,s1,t0,t1,ne,hr1,by show r<=_;omega,by show 1<=1+h;omega,by show 1+h<=_;omega⟩
inductive JN(y m p l:Int)(i:Nat)(ρ:List Sl):Prop where|mk(x z:Int)(ws:List Wy)(s:Sl)(q0:ρ=[.own true [.int x,.int y,.int z],.val false (.int 6),.val false (.int 12),.val false (.int m),.val false (.int p),.val false (.int l),.own false (ws.map Wy.d),s])(q1:fr s=true)(q2:(∀w∈ws,w.Ok m))(q3:ws.length=i)
theorem J0{a b c d i lo hi:Int}(h0:0<=i)(h1:i<4)(k1:lo<=a/\a<=hi/\lo<=b/\b<=hi)(k2:lo<=c/\c<=hi/\lo<=d/\d<=hi):∃r,at' [D.int a,D.int b,D.int c,D.int d] i=some (.int r)/\lo<=r/\r<=hi:=by
 have:i=0\/i=1\/i=2\/i=3:=by omega
 rcases this with rfl|rfl|rfl|rfl;.exact⟨a,aaN,by omega⟩
 .exact⟨b,aaz,by omega⟩
 .exact⟨c,ZW,by omega⟩
 .exact⟨d,ZF,by omega⟩
theorem HB{w n:Nat}{x y z:Int}{Q:R->List Sl->Prop}(k:∀(m:Int)(ws:List Wy)(x z:Int),dz m ws->Q (.val (aR m ws)) [.own true [.int x,.int y,.int z],.val false (.int 6),.val false (.int 12)]):(run Γ w (n+4) 27 [.own true [.int x,.int y,.int z],.val false (.int 6),.val false (.int 12)]).sat Q:=by
 refine aM (d:=Xl) rfl rfl (by decide) ?_;symm;simp[Xl];refine bG (by decide) (by decide) fun d x z hd1 hd2=>?_;simp;obtain⟨m,hm,m0,m1⟩:∃m,m=2+d/\2<=m/\m<=6:=⟨_,rfl,by omega,by omega⟩;rw[<-hm];symm;simp;refine bG (by decide) (by decide) fun d x z hd1 hd2=>?_;simp;obtain⟨p,e,p0,p1⟩:∃r,at' [D.int 1,D.int 3,D.int 9,D.int 1000000000] d=some (.int r)/\1<=r/\r<=1000000000:=J0 hd1 hd2 (by omega) (by omega);rw[e];simp;apply ak;simp;refine bG (by decide) (by decide) fun d x z hd1 hd2=>?_;simp;obtain⟨l,e,l0,l1⟩:∃r,at' [D.int 1,D.int 2,D.int 4,D.int 1000000] d=some (.int r)/\1<=r/\r<=1000000:=J0 hd1 hd2 (by omega) (by omega);rw[e];simp;apply ak;simp;apply ak;simp;refine bG (by decide) (by decide) fun c x z hc1 hc2=>?_;simp;refine⟨by omega,?_⟩;refine jY (JN y m p l) ?_ ?_ ⟨x,z,[],.aU,rfl,rfl,by simp,rfl⟩
 . rintro i _ hi⟨x,z,ws,s,rfl,hs,hw,hl⟩;simp[hs];apply ak;simp;refine Hw m0 m1 p0 p1 l0 l1 fun v x z hv=>?_;have hlim:ws.length<lim:=by show _<16777216;omega
   simp[hlim];have hw2:∀u∈ws++[v],u.Ok m:=fun u hu=>by
    rw[mem_append,mem_singleton]at hu;rcases hu with hu|rfl;.exact hw u hu
    .exact hv
   rw[show ws.map Wy.d++[v.d]=(ws++[v]).map Wy.d by simp];have hl2:(ws++[v]).length=i+1:=by simp[hl]
   generalize ws++[v]=us at*;symm;simp;refine bG (by decide) (by decide) fun c x z hc1 hc2=>?_;simp;constructor
   . intro _;symm;simp;refine bG (by omega) (by show _<(1606938044258990275541962092341162602522202993782792835301376:Int);omega) fun c x z hc1 hc2=>?_;simp;have hlt:c.toNat<us.length:=by omega
     rw[vX hc1 (by rw[length_map];omega),getElem?_map,getElem?_eq_getElem hlt];simp[Ez (show i<us.length by omega)];refine⟨x,z,us.set i us[c.toNat],.val false (.int i),by simp,rfl,fun u hu=>?_,by simpa using hl2⟩;rcases List.mem_or_eq_of_mem_set hu with hu|rfl;.exact hw2 u hu
     .exact hw2 _ (getElem_mem hlt)
   .intro _;exact⟨x,z,us,_,rfl,rfl,hw2,hl2⟩
 .rintro _⟨x,z,ws,s,rfl,hs,hw,hl⟩;symm;simp;exact k m ws x z ⟨m0,m1,by omega,hw⟩
noncomputable def dR(j:Nat)(f:Bool):D:=.tup [.int j,.bl f]
noncomputable def frm(v:Wy)(f:Bool):Int:=if f then v.s else v.t
noncomputable def too(v:Wy)(f:Bool):Int:=if f then v.t else v.s
theorem jG{w n j:Nat}{f:Bool}{m:Int}{ws:List Wy}{v:Wy}{Q:R->List Sl->Prop}(e:ws[j]?=some v)(k:Q (.val (.tup [.int (frm v f),.int (too v f)])) [.val false (aR m ws),.val false (dR j f)]):(run Γ w (n+1) 0 [.val false (aR m ws),.val false (dR j f)]).sat Q:=by refine aM (d:=f0) rfl rfl (by decide) ?_;symm;simp[f0,dR,dZ e];apply ak;cases f with|true=>simp[Wy.d];exact k|false=>simp[Wy.d];exact k
noncomputable def hsp(v:Wy)(f:Bool):Int:=if f then v.h else-v.h
theorem qg{w n j:Nat}{f:Bool}{m:Int}{ws:List Wy}{v:Wy}{Q:R->List Sl->Prop}(e:ws[j]?=some v)(k:Q (.val (.int (hsp v f))) [.val false (aR m ws),.val false (dR j f)]):(run Γ w (n+1) 1 [.val false (aR m ws),.val false (dR j f)]).sat Q:=by refine aM (d:=f1) rfl rfl (by decide) ?_;symm;simp[f1,dR,dZ e,Wy.d];apply ak;cases f with|true=>simp;exact k|false=>simp;exact k
def U7(s:Sl)(fs:List Int):Prop:=s=.val false (.lst (fs.map D.int))\/∃b,s=.own b (fs.map D.int)
noncomputable def lZ(v:Wy)(g:Int)(f:Bool):Int:=if f then v.r-g else g
theorem qd{w n j:Nat}{f:Bool}{s:Sl}{m g:Int}{ws:List Wy}{fs:List Int}{v:Wy}{Q:R->List Sl->Prop}(hs:U7 s fs)(e:ws[j]?=some v)(eg:fs[j]?=some g)(k:Q (.val (.int (lZ v g f))) [.val false (aR m ws),s,.val false (dR j f)]):(run Γ w (n+1) 2 [.val false (aR m ws),s,.val false (dR j f)]).sat Q:=by refine aM (d:=f2) rfl rfl (by decide) ?_;symm;rcases hs with rfl|⟨b,rfl⟩;all_goals simp[f2,dR,dZ eg];apply ak;cases f with|true=>simp[dZ e,Wy.d];exact k|false=>simp;exact k
@[simp]theorem Yr{c:Call}{n x k:Nat}{src elt:P}{is:List Nat}{one:Bool}{ρ:List Sl}:ex c n (.Gf x src k is one elt) ρ=(srcOf (isVar src) (ev c src) ρ).bind fun ds ρ₁=>if ds.length<=lim then(dY is one (ev c elt) ds [] (ρ₁++replicate k .aU)).bind fun rows ρ₂=>(lift (put (bh ρ (isVar src) (ρ₂.take ρ₁.length)) x (.hold rows)) ρ).bind fun ρ' _=>.ok .next ρ' else .stuck:=(rfl)
@[simp]theorem Ys{c:Call}{n:Nat}{src:P}{is:List Nat}{one:Bool}{body:List S}{ρ:List Sl}:ex c n (.Bc src is one body) ρ=(ev c src ρ).bind fun r ρ₁=>(lift (items r.d) ρ₁).bind fun ds ρ₁=>gw is one (gH c n body) ds ρ₁:=(rfl)
@[simp]theorem abi{c:Call}{n x:Nat}{ρ:List Sl}:ex c n (.cG x) ρ=match ρ[x]?with|some (.hold rows)=>.ok .next (ρ.set x (.val false (.lst (rows.map D.lst))))|_=>.stuck:=(rfl)
@[simp]theorem W8{c:Call}{n x:Nat}{i e:P}{ρ:List Sl}:ex c n (.Gg x i e) ρ=(bW (isVar i) (ev c i) ρ).bind fun k ρ=>(lift (rK ρ x k) ρ).bind fun _ ρ=>(ev c e ρ).bind fun r ρ=>Ah ρ x ((gY ρ x).bind fun rows=>(gh k).bind fun k=>iG rows k fun row=>if row.length<lim then some (row++[r.d])else none):=(rfl)
@[simp]theorem Xd{a:Sl}{l:List Sl}{x:Nat}:gY (a::l) x=match(a::l)[x]?with|some (.hold rows)=>some rows|_=>none:=rfl
@[simp]theorem QZ{ρ:List Sl}{x:Nat}{rows:List (List D)}:Ah ρ x (some rows)=.ok .next (ρ.set x (.hold rows)):=rfl
@[simp]theorem ZP{a:Sl}{l:List Sl}{x:Nat}{k:Int}:rK (a::l) x (.int k)=match(a::l)[x]?with|some (.hold rows)=>rowAt rows k|_=>none:=by unfold rK gY;cases h:(a::l)[x]?with|none=>rfl|some s=>cases s<;>rfl
theorem oZ{is:List Nat}{one:Bool}{elt:Ev}(J:List Sl->Prop)(g:D->List D){Q:List (List D)->List Sl->Prop}:∀{ds:List D}{acc:List (List D)}{ρ:List Sl},J ρ->(∀d,d∈ds->∀ρ,J ρ->∃ρ1,cB ρ is one d=some ρ1/\(elt ρ1).sat fun r ρ3=>r=.own (g d)/\J ρ3)->(∀ρ,J ρ->Q (acc++ds.map g) ρ)->(dY is one elt ds acc ρ).sat Q|[],acc,ρ,j,h,k=>by rw[dY];simpa using k ρ j|d::r,acc,ρ,j,h,k=>by obtain⟨ρ1,e,h1⟩:=h d (by simp) ρ j;rw[dY,e];show((elt ρ1).bind _).sat Q;rw[bK];refine h1.imp fun x ρ3⟨e1,j3⟩=>?_;subst e1;exact oZ J g j3 (fun d' hd'=>h d' (by simp[hd'])) fun ρ' j'=>by simpa using k ρ' j'
@[simp]theorem abt{c:Call}{x:Nat}{k:P}{ρ:List Sl}:ev c (.K7 x k) ρ=match ρ[x]?with
 |some (.cA _)=>(bW (isVar k) (ev c k) ρ).bind fun kd ρ=>match ρ[x]?with|some (.cA kvs)=>lift ((gh kd).bind fun k=>(lK kvs k).map .val) ρ|_=>.stuck
 |_=>.stuck:=(rfl)
noncomputable def pL(kvs:List (Int×D))(k:Int):Bool:=(kvs.map (·.1)).contains k
noncomputable def Gs(kvs:List (Int×D)):List Int:=kvs.map (·.1)
noncomputable def dsV(kvs:List (Int×D)):List D:=kvs.map (·.2)
@[simp]theorem aaM{c:Call}{x:Nat}{k:P}{neg:Bool}{ρ:List Sl}:ev c (.K8 x k neg) ρ=(bW (isVar k) (ev c k) ρ).bind fun kd ρ=>match ρ[x]?with|some (.cA kvs)=>lift ((gh kd).map fun k=>.val (.bl (if neg then !pL kvs k else pL kvs k))) ρ|_=>.stuck:=(rfl)
@[simp]theorem WN{c:Call}{k e:Int}{ρ:List Sl}:ev c (.vd k e) ρ=.ok (.val (.dv [k] [.int e])) ρ:=(rfl)
@[simp]theorem acL{c:Call}{x:Nat}{ρ:List Sl}:ev c (.vw x) ρ=match ρ[x]?with|some (.fO m)=>.ok (.val (.dw m)) (ρ.set x (.val false (.dw m)))|some (.cA kvs)=>.ok (.val (.dv (Gs kvs) (dsV kvs))) (ρ.set x (.val false (.dv (Gs kvs) (dsV kvs))))|_=>.stuck:=(rfl)
@[simp]theorem Xp{c:Call}{n x:Nat}{ρ:List Sl}:ex c n (.Bd x) ρ=match ρ[x]?with|some .aU=>.ok .next (ρ.set x (.cA []))|some (.cA _)=>.ok .next (ρ.set x (.cA []))|some (.val false _)=>.ok .next (ρ.set x (.cA []))|_=>.stuck:=(rfl)
@[simp]theorem W9{c:Call}{n x:Nat}{k e:P}{ρ:List Sl}:ex c n (.fZ x k e) ρ=(ev c e ρ).bind fun r ρ=>match ρ[x]?with
 |some (.cA _)=>(bW (isVar k) (ev c k) ρ).bind fun kd ρ=>match ρ[x]?,kd with|some (.cA kvs),.int k=>if kvs.length<lim then .ok .next (ρ.set x (.cA (fZ kvs k r.d)))else .stuck|_,_=>.stuck
 |_=>.stuck:=(rfl)
@[simp]theorem Xw{c:Call}{n x:Nat}{i e:P}{sub:Bool}{ρ:List Sl}:ex c n (.Gb x i sub e) ρ=(lift (wu ρ x) ρ).bind fun _ ρ=>(bW (isVar i) (ev c i) ρ).bind fun k ρ=>(lift (wu ρ x) ρ).bind fun l ρ=>(lift ((gh k).bind fun i=>at' l i) ρ).bind fun a ρ=>(bW (isVar e) (ev c e) ρ).bind fun b ρ=>match a,b,ρ[x]?,k with
 |.int u,.int v,some (.own bb ds),.int k=>match ig ds.length k with|some j=>.ok .next (ρ.set x (.own bb (ds.set j (.int (if sub then u-v else u+v)))))|none=>.stuck
 |_,_,_,_=>.stuck:=(rfl)
@[simp]theorem QW{x:Nat}{k:P}:isVar (.K7 x k)=none:=rfl
@[simp]theorem R8{x:Nat}{k:P}{b:Bool}:isVar (.K8 x k b)=none:=rfl
@[simp]theorem Vg{x:Nat}:isVar (.vw x)=none:=rfl
@[simp]theorem Ml{k e:Int}:isVar (.vd k e)=none:=rfl
@[simp]theorem aas{kvs:List (Int×D)}:fr (.cA kvs)=false:=rfl
@[simp]theorem Xy{r:List (List D)}:fr (.hold r)=false:=rfl
@[simp]theorem U5:pP .Bb=yS:=rfl
@[simp]theorem Yq:pP .Yy=uv false:=rfl
@[simp]theorem VH{ks:List Int}{ds:List D}{k:Int}:yS (.dv ks ds) (.int k)=(lK (ks.zip ds) k).map .val:=rfl
@[simp]theorem Xk{ks:List Int}{ds:List D}{k:Int}:uv false (.int k) (.dv ks ds)=some (.val (.bl (ks.contains k))):=rfl
@[simp]theorem Rz{ks:List Int}{ds:List D}:blt .keys [.dv ks ds]=some (.val (.tup (ks.map D.int))):=rfl
@[simp]theorem Wu{ks:List Int}{ds:List D}:blt .Sh [.dv ks ds]=if ks.length<=16777216 then some (.own (ks.map D.int))else none:=rfl
@[simp]theorem Yn{ds:List D}:blt .Yz [.lst ds]=some (.val (.tup ds.reverse)):=rfl
@[simp]theorem P0{ks:List Int}{ds:List D}:blt .lV [.dv ks ds]=if ks.length<64 then some (.own (tD (ks.map D.int)))else none:=rfl
@[simp]theorem QL{kvs:List (Int×D)}{x:Option Sl}:dI (.cA kvs) x=.cA kvs:=by cases x<;>rfl
@[simp]theorem Ot{r:List (List D)}{x:Option Sl}:dI (.hold r) x=.hold r:=by cases x<;>rfl
structure HN(m:Int)(ws:List Wy):Prop where
 m0:2<=m
 m1:m<=6
 len:ws.length<=12
 ok:∀w∈ws,(0<=w.s/\w.s<m)/\(0<=w.t/\w.t<m)/\0<=w.h
theorem HN.of{m:Int}{ws:List Wy}(h:dz m ws):HN m ws:=⟨h.m0,h.m1,h.len,fun w hw=>by have:=h.ok w hw;exact⟨⟨this.s0,this.s1⟩,⟨this.t0,this.t1⟩,by have:=this.h0;omega⟩⟩
noncomputable abbrev aq:=Nat×Bool
noncomputable def sD(s:aq):D:=dR s.1 s.2
noncomputable def iY(ws:List Wy)(fs:List Int)(p:Int)(s:aq):Bool:=match ws[s.1]?,fs[s.1]?with|some v,some g=>decide (frm v s.2=p)&&decide (0<lZ v g s.2)|_,_=>false
theorem jD{ws:List Wy}{fs:List Int}{p:Int}{s:aq}{v:Wy}{g:Int}(e:ws[s.1]?=some v)(e2:fs[s.1]?=some g):iY ws fs p s=(decide (frm v s.2=p)&&decide (0<lZ v g s.2)):=by unfold iY;rw[e,e2]
noncomputable def ik(ws:List Wy)(fs:List Int)(M:Nat)(l:List aq):List (List aq):=(List.range M).map fun(p:Nat)=>l.filter (iY ws fs (p:Int))
noncomputable def rD(l:List (List aq)):List (List D):=l.map fun r=>r.map sD
noncomputable def fY(N:Nat):List aq:=(List.range N).flatMap fun j=>[(j,true),(j,false)]
theorem qz{N:Nat}:fY (N+1)=(fY N++[(N,true)])++[(N,false)]:=by simp[fY,List.range_succ]
theorem uH{N:Nat}:(fY N).length=2*N:=by induction N with|zero=>rfl|succ N ih=>rw[qz];simp[ih];omega
theorem PJ{m:Int}{ws:List Wy}(h:HN m ws){j:Nat}{v:Wy}(e:ws[j]?=some v)(f:Bool):0<=frm v f/\frm v f<m:=by have:=h.ok v (mem_of_getElem? e);cases f<;>simp only[frm]<;>simp<;>omega
theorem Dk{m:Int}{ws:List Wy}(h:HN m ws){j:Nat}{v:Wy}(e:ws[j]?=some v)(f:Bool):0<=too v f/\too v f<m:=by have:=h.ok v (mem_of_getElem? e);cases f<;>simp only[too]<;>simp<;>omega
theorem CT{ws:List Wy}{fs:List Int}{M:Nat}{l:List aq}{s:aq}{v:Wy}{g:Int}(e:ws[s.1]?=some v)(e2:fs[s.1]?=some g)(h:¬ 0<lZ v g s.2):ik ws fs M (l++[s])=ik ws fs M l:=by unfold ik;refine map_congr_left fun p _=>?_;rw[List.filter_append];simp[jD e e2,h]
theorem Jb{ws:List Wy}{fs:List Int}{m:Int}{l:List aq}{s:aq}{v:Wy}{g:Int}(e:ws[s.1]?=some v)(e2:fs[s.1]?=some g)(h:0<lZ v g s.2)(hp:0<=frm v s.2/\frm v s.2<m)(hl:l.length<1000):(∃row,rowAt (rD (ik ws fs m.toNat l)) (frm v s.2)=some row)/\iG (rD (ik ws fs m.toNat l)) (frm v s.2) (fun row=>if row.length<lim then some (row++[sD s])else none)=some (rD (ik ws fs m.toNat (l++[s]))):=by
 have hlen:(rD (ik ws fs m.toNat l)).length=m.toNat:=by simp[rD,ik]
 have hx:ig (rD (ik ws fs m.toNat l)).length (frm v s.2)=some (frm v s.2).toNat:=by unfold ig;rw[hlen,if_pos hp.1,if_pos (by omega)]
 have hg:(rD (ik ws fs m.toNat l))[(frm v s.2).toNat]?=some ((l.filter (iY ws fs (frm v s.2))).map sD):=by simp[rD,ik,show(frm v s.2).toNat<m.toNat by omega,Int.toNat_of_nonneg hp.1]
 refine⟨⟨_,by unfold rowAt;rw[hx];exact hg⟩,?_⟩;unfold iG;rw[hx];show((rD (ik ws fs m.toNat l))[(frm v s.2).toNat]?).bind _=_;rw[hg];have hq:((l.filter (iY ws fs (frm v s.2))).map sD).length<lim:=by have:=List.length_filter_le (iY ws fs (frm v s.2)) l;rw[length_map];show _<16777216;omega
 show Option.map _ (if _ then _ else _)=_;rw[if_pos hq];show some _=some _;congr 1;refine List.ext_getElem (by simp[rD,ik]) fun i h2 h3=>?_;rw[List.getElem_set];by_cases c:(frm v s.2).toNat=i
 . rw[if_pos c];have:(i:Int)=frm v s.2:=by omega
   simp[rD,ik,this,List.filter_append,jD e e2,h]
 . rw[if_neg c];have:¬ frm v s.2=(i:Int):=by omega
   simp[rD,ik,List.filter_append,jD e e2,this]
inductive JOp(m:Int)(ws:List Wy)(fs:List Int)(s:Sl)(i:Nat)(ρ:List Sl):Prop where|mk(s3 s4:Sl)(q0:ρ=[.val false (aR m ws),s,.hold (rD (ik ws fs m.toNat (fY i))),s3,s4])(q1:fr s3=true)(q2:fr s4=true)
inductive JOq(m:Int)(ws:List Wy)(fs:List Int)(s:Sl)(i:Nat)(r:List D)(ρ:List Sl):Prop where|mk(l us:List aq)(s4:Sl)(q0:ρ=[.val false (aR m ws),s,.hold (rD (ik ws fs m.toNat l)),.val false (.int i),s4])(q1:fr s4=true)(q2:r=us.map sD)(q3:l++us=fY (i+1))(q4:∀u∈us,u.1=i)
inductive F1n(a b c d e:Sl)(ρ:List Sl):Prop where|mk(s:Sl)(q0:ρ=[a,b,c,d,e,s])(q1:fr s=true)
theorem Di{w n:Nat}{s:Sl}{m:Int}{ws:List Wy}{fs:List Int}{Q:R->List Sl->Prop}(hs:U7 s fs)(h:HN m ws)(hf:fs.length=ws.length)(k:Q (.val (.lst ((rD (ik ws fs m.toNat (fY ws.length))).map D.lst))) [.val false (aR m ws),s]):(run Γ w (n+2) 4 [.val false (aR m ws),s]).sat Q:=by
 have hn:=h.len;have m0:=h.m0;have m1:=h.m1;refine aM (d:=f4) rfl rfl (by decide) ?_;refine eY (fun ρ=>ρ=[.val false (aR m ws),s,.hold (rD (ik ws fs m.toNat (fY 0))),.aU,.aU]) ?_ ?_
 . simp[f4,show m<=1000000000 by omega,show-1000000000<=m by omega];refine⟨fun _=>?_,by omega⟩;rw[bK];refine oZ (F1n _ _ _ _ _) (fun _=>[]) ⟨.aU,rfl,rfl⟩ ?_ ?_;.rintro d hd _⟨s',rfl,hs'⟩;simp[hs'];exact⟨_,rfl,rfl⟩
   .rintro _⟨s',rfl,hs'⟩;simp[rD,ik,fY]
 rintro _ rfl;refine eY (JOp m ws fs s ws.length) ?_ ?_
 . simp[show(ws.length:Int)<=1000000000 by omega];refine jY (JOp m ws fs s) ?_ ?_ ⟨.aU,.aU,rfl,rfl,rfl⟩
   . rintro i _ hi⟨s3,s4,rfl,h3,h4⟩;have hi2:i<fs.length:=by omega
     have e1:ws[i]?=some ws[i]:=by simp[hi]
     have e2:fs[i]?=some fs[i]:=by simp[hi2]
     generalize ws[i]=v at*;generalize fs[i]=g at*;simp[h3];apply ak;simp;refine bF (JOq m ws fs s i) ?_ ?_ ⟨fY i,[(i,true),(i,false)],s4,rfl,h4,rfl,by rw[qz];simp,by simp⟩;.rintro d r _⟨l,us,s4,rfl,h4,hr,hl,hu⟩;cases us with|nil=>cases hr|cons u us=>
         obtain⟨rfl,rfl⟩:d=sD u/\r=us.map sD:=by simpa using hr
         obtain rfl:=hu u (by simp);have hl2:(l++[u])++us=fY (u.1+1):=by rw[append_assoc];exact hl
         have hll:l.length<1000:=by have:=congrArg List.length hl;rw[uH]at this;simp at this;omega
         simp[h4];apply ak;rcases hs with rfl|⟨b,rfl⟩;all_goals
          simp[sD];refine qd (by first|exact .inl rfl|exact .inr ⟨_,rfl⟩) e1 e2 ?_;simp;refine⟨fun ho=>?_,fun ho=>?_⟩;.obtain⟨⟨row,q1⟩,q2⟩:=Jb (ws:=ws) (fs:=fs) (l:=l) e1 e2 ho (PJ h e1 u.2) hll;symm;simp;refine jG e1 ?_;simp[q1];have q3:iG (rD (ik ws fs m.toNat l)) (frm v u.2) (fun row=>if row.length<lim then some (row++[dR u.1 u.2])else none)=_:=q2;rw[q3];simp;exact⟨l++[u],us,_,rfl,rfl,rfl,hl2,fun x hx=>hu x (by simp[hx])⟩
          .exact⟨l++[u],us,_,by rw[CT e1 e2 (by omega)],rfl,rfl,hl2,fun x hx=>hu x (by simp[hx])⟩
     . rintro _⟨l,us,s4,rfl,h4,hr,hl,hu⟩;have:us=[]:=by cases us with|nil=>rfl|cons _ _=>cases hr
       subst this;rw[append_nil]at hl;subst hl;simp;exact⟨_,_,rfl,rfl,h4⟩
   .rintro _⟨s3,s4,rfl,h3,h4⟩;exact⟨rfl,_,_,rfl,h3,h4⟩
 rintro _⟨s3,s4,rfl,h3,h4⟩;symm;simp;apply ak;simp;exact k
noncomputable abbrev En:=Int×Nat×(Option aq×Int)
noncomputable def oS:Option aq->D|none=>.non|some s=>sD s
noncomputable def yx(e:En):D:=.tup [.int e.2.2.2,.int (e.2.1:Int),oS e.2.2.1]
noncomputable def en(e:En):Int×D:=(e.1,yx e)
noncomputable def jT(es:List En):D:=.dv (es.map (·.1)) (es.map yx)
noncomputable def wD(p:Int):Int×D:=(p,.bl true)
@[simp]theorem Mm{l:List Int}:Gs (l.map wD)=l:=by simp[Gs,wD,Function.comp_def]
theorem wG{l:List En}:Gs (l.map en)=l.map (·.1):=by simp[Gs,en,Function.comp_def]
theorem wI{l:List En}{p:Int}:pL (l.map en) p=true↔∃n o,(p,n,o)∈l:=by show(Gs (l.map en)).contains p=true↔_;rw[wG];simp
theorem kin_no{l:List En}{p:Int}(h:¬ ∃n o,(p,n,o)∈l):pL (l.map en) p=false:=by cases e:pL (l.map en) p with|false=>rfl|true=>exact absurd (wI.mp e) h
theorem qN{β:Type}{p:Int}{x y:β}:∀{l:List (Int×β)},(l.map (·.1)).Nodup->(p,x)∈l->(p,y)∈l->x=y
 |[],_,h,_=>by cases h|e::l,hn,h1,h2=>by
   rw[map_cons,nodup_cons]at hn;rcases mem_cons.mp h1 with h1|h1<;>rcases mem_cons.mp h2 with h2|h2;.rw[<-h2]at h1;cases h1;rfl
   .exact absurd (mem_map.mpr ⟨_,h2,by rw[<-h1]⟩) hn.1
   .exact absurd (mem_map.mpr ⟨_,h1,by rw[<-h2]⟩) hn.1
   .exact qN hn.2 h1 h2
theorem m7{p:Int}{x:Nat×(Option aq×Int)}:∀{l:List En},(l.map (·.1)).Nodup->(p,x)∈l->lK (l.map en) p=some (yx (p,x))
 |[],_,h=>by cases h|e::l,hn,h=>by
   have hn0:=hn;rw[map_cons,nodup_cons]at hn;unfold lK;rw[map_cons,find?_cons];by_cases c:e.1=p;.obtain⟨q,y⟩:=e;cases c;have:=qN hn0 h (by simp:(q,y)∈(q,y)::l);subst this;simp[en]
   . have h':(p,x)∈l:=by
      rcases mem_cons.mp h with h|h;.exact absurd (by rw[<-h]) c
      .exact h
     simp[en,c];have:=m7 hn.2 h';unfold lK at this;simpa[en]using this
theorem uX{kvs:List (Int×D)}{p:Int}{d:D}(h:pL kvs p=false):fZ kvs p d=kvs++[(p,d)]:=by
 unfold fZ;rw[if_neg];intro h2;obtain⟨x,hx,e⟩:=any_eq_true.mp h2;have:pL kvs p=true:=by show(kvs.map (·.1)).contains p=true;rw[List.contains_iff_mem];exact mem_map.mpr ⟨x,hx,by simpa using e⟩
 rw[this]at h;cases h
theorem uh{kvs:List (Int×D)}{p:Int}{d:D}(h:pL kvs p=true):fZ kvs p d=kvs.map fun e=>if e.1=p then(p,d)else e:=by
 unfold fZ;rw[if_pos]
 . refine map_congr_left fun e _=>?_;by_cases c:e.1=p;.simp[c]
   .simp[c]
 .have h':(kvs.map (·.1)).contains p=true:=h;rw[List.contains_iff_mem]at h';obtain⟨x,hx,e⟩:=mem_map.mp h';exact any_eq_true.mpr ⟨x,hx,by simpa using e⟩
noncomputable def tW(p:Int)(x:Nat×(Option aq×Int))(e:En):En:=if e.1=p then(p,x)else e
noncomputable def mU(es:List En)(p:Int)(x:Nat×(Option aq×Int)):List En:=if p∈es.map (·.1)then es.map (tW p x)else es++[(p,x)]
noncomputable def o8(ch:List Int)(p:Int):List Int:=if p∈ch then ch else ch++[p]
theorem Hj{es:List En}{p:Int}{x:Nat×(Option aq×Int)}:fZ (es.map en) p (yx (p,x))=(mU es p x).map en:=by
 have hk:pL (es.map en) p=true↔p∈es.map (·.1):=by show(Gs (es.map en)).contains p=true↔_;rw[wG,List.contains_iff_mem]
 unfold mU;by_cases c:p∈es.map (·.1)
 . rw[if_pos c,uh (hk.mpr c),map_map,map_map];refine map_congr_left fun e _=>?_;show(if e.1=p then _ else _)=en (tW p x e);unfold tW;by_cases z:e.1=p;.rw[if_pos z,if_pos z];rfl
   .rw[if_neg z,if_neg z]
 .rw[if_neg c,uX (by cases e:pL (es.map en) p with|false=>rfl|true=>exact absurd (hk.mp e) c)];simp[en]
theorem Ij{ch:List Int}{p:Int}:fZ (ch.map wD) p (.bl true)=(o8 ch p).map wD:=by
 have hk:pL (ch.map wD) p=true↔p∈ch:=by show(Gs (ch.map wD)).contains p=true↔_;rw[Mm,List.contains_iff_mem]
 unfold o8;by_cases c:p∈ch
 . rw[if_pos c,uh (hk.mpr c),map_map];refine map_congr_left fun e _=>?_;show(if e=p then _ else _)=wD e;by_cases z:e=p;.rw[if_pos z,z];rfl
   .rw[if_neg z]
 .rw[if_neg c,uX (by cases e:pL (ch.map wD) p with|false=>rfl|true=>exact absurd (hk.mp e) c)];simp[wD]
theorem uq{ch:List Int}{p q:Int}:q∈o8 ch p↔q∈ch\/q=p:=by
 unfold o8;split;.exact⟨.inl,fun h=>h.elim id fun e=>by rw[e];assumption⟩
 .simp
theorem yW{ch:List Int}{p:Int}(h:ch.Nodup):(o8 ch p).Nodup:=by
 unfold o8;split;.exact h
 .rename_i hn;rw[nodup_append];exact⟨h,by simp,fun a ha b hb e=>hn (by rw[<-mem_singleton.mp hb,<-e];exact ha)⟩
theorem Ac{es:List En}{p:Int}{x:Nat×(Option aq×Int)}:(mU es p x).map (·.1)=o8 (es.map (·.1)) p:=by
 unfold mU o8;split
 . rw[map_map];refine map_congr_left fun e _=>?_;show(tW p x e).1=e.1;unfold tW;split;.rename_i h;exact h.symm
   .rfl
 .simp
theorem fG{es:List En}{p q:Int}{x y:Nat×(Option aq×Int)}:(q,y)∈mU es p x↔(q=p/\y=x)\/(q≠p/\(q,y)∈es):=by
 unfold mU;split
 . rename_i hp;obtain⟨e0,he0,hp0⟩:=mem_map.mp hp;rw[mem_map];constructor
   . rintro⟨e,he,h⟩;unfold tW at h;split at h;.cases h;exact .inl ⟨rfl,rfl⟩
     .rename_i hne;subst h;exact .inr ⟨hne,he⟩
   . rintro(⟨rfl,rfl⟩|⟨h1,h2⟩);.exact⟨e0,he0,by unfold tW;rw[if_pos hp0]⟩
     .exact⟨_,h2,by unfold tW;rw[if_neg h1]⟩
 . rename_i hp;rw[mem_append,mem_singleton];constructor
   . rintro(h|h);.refine .inr ⟨fun e=>hp ?_,h⟩;rw[<-e];exact mem_map.mpr ⟨_,h,rfl⟩
     .cases h;exact .inl ⟨rfl,rfl⟩
   . rintro(⟨rfl,rfl⟩|⟨_,h2⟩);.exact .inr rfl
     .exact .inl h2
theorem j7{α:Type}[BEq α][LawfulBEq α]:∀{l l2:List α},l.Nodup->(∀a∈l,a∈l2)->l.length<=l2.length
 |[],_,_,_=>zero_le _|a::l,l2,hn,hs=>by
   have ha:=hs a (by simp);have hn':=nodup_cons.mp hn;have:=j7 (l:=l) (l2:=l2.erase a) hn'.2 fun b hb=>by
    have hba:b≠a:=by rintro rfl;exact hn'.1 hb
    exact(List.mem_erase_of_ne hba).mpr (hs b (by simp[hb]))
   rw[List.length_erase_of_mem ha]at this;have:=List.length_pos_of_mem ha;simp only[length_cons];omega
theorem six{l:List Int}{m:Int}(m1:m<=6)(hn:l.Nodup)(h:∀p∈l,0<=p/\p<m):l.length<=6:=by
 have:=j7 (l2:=[0,1,2,3,4,5]) hn fun q hq=>by
  have:=h q hq;have:q=0\/q=1\/q=2\/q=3\/q=4\/q=5:=by omega
  simpa using this
 simpa using this
theorem oK{ws:List Wy}{fs:List Int}{p:Int}{s:aq}(h:iY ws fs p s=true):∃v g,ws[s.1]?=some v/\fs[s.1]?=some g/\frm v s.2=p/\0<lZ v g s.2:=by
 unfold iY at h;split at h;.rename_i v g e1 e2;simp at h;exact⟨v,g,e1,e2,h.1,h.2⟩
 .cases h
theorem tO{N:Nat}{s:aq}(h:s.1<N):s∈fY N:=by unfold fY;rw[List.mem_flatMap];refine⟨s.1,by simp[h],?_⟩;obtain⟨j,f⟩:=s;cases f<;>simp
def il(ws:List Wy)(b:Int):List aq->Int->Prop|[],a=>a=b|s::c,a=>∃v,ws[s.1]?=some v/\frm v s.2=a/\il ws b c (too v s.2)
noncomputable def hst(ws:List Wy)(s:aq):Int:=match ws[s.1]?with|some v=>hsp v s.2|none=>0
theorem fX{ws:List Wy}{s:aq}{v:Wy}(e:ws[s.1]?=some v):hst ws s=hsp v s.2:=by unfold hst;rw[e]
noncomputable def bM(ws:List Wy):List aq->Int|[]=>0|s::c=>hst ws s+bM ws c
theorem jf{ws:List Wy}{c2:List aq}:∀{c1:List aq},bM ws (c1++c2)=bM ws c1+bM ws c2|[]=>by simp[bM]|s::c=>by rw[cons_append,bM,jf,bM];omega
def sZ(ws:List Wy)(fs:List Int)(c:List aq):Prop:=∀s∈c,∃v,ws[s.1]?=some v/\iY ws fs (frm v s.2) s=true
theorem il.app{ws:List Wy}{b q:Int}{c2:List aq}(h2:il ws b c2 q):∀{c1:List aq}{a:Int},il ws q c1 a->il ws b (c1++c2) a|[],a,h=>by have:a=q:=h;rw[this];exact h2|s::c,a,⟨v,e,hf,h⟩=>⟨v,e,hf,il.app h2 h⟩
theorem yH{ws:List Wy}{b:Int}{c2:List aq}:∀{c1:List aq}{a:Int},il ws b (c1++c2) a->∃q,il ws q c1 a/\il ws b c2 q|[],a,h=>⟨a,rfl,h⟩|s::c,a,⟨v,e,hf,h⟩=>by obtain⟨q,h1,h2⟩:=yH (c1:=c) h;exact⟨q,⟨v,e,hf,h1⟩,h2⟩
def Pt(ws:List Wy)(fs:List Int)(F:Int->Int):Prop:=∀(s:aq)(v:Wy),ws[s.1]?=some v->iY ws fs (frm v s.2) s=true->F (too v s.2)<=F (frm v s.2)+hsp v s.2
theorem lG{ws:List Wy}{fs:List Int}{F:Int->Int}(h:Pt ws fs F){b:Int}:∀{c:List aq}{a:Int},il ws b c a->sZ ws fs c->F b<=F a+bM ws c|[],a,hp,_=>by have:a=b:=hp;rw[this,bM];omega|s::c,a,⟨v,e,hf,hp⟩,ho=>by have h1:=lG h hp fun u hu=>ho u (mem_cons_of_mem _ hu);obtain⟨v',e',o⟩:=ho s (by simp);rw[e]at e';cases e';have h2:=h s v e o;rw[hf]at h2;rw[bM,fX e];omega
noncomputable def vD(ws:List Wy)(s:aq):Int:=match ws[s.1]?with|some v=>too v s.2|none=>0
noncomputable def xX(ws:List Wy):List aq->Int->List Int|[],a=>[a]|s::c,a=>a::xX ws c (vD ws s)
theorem yj{ws:List Wy}:∀{c:List aq}{a:Int},(xX ws c a).length=c.length+1|[],_=>rfl|s::c,a=>by rw[xX,length_cons,yj];rfl
theorem DW{m:Int}{ws:List Wy}{b:Int}(hm:HN m ws):∀{c:List aq}{a:Int},il ws b c a->0<=a/\a<m->∀q∈xX ws c a,0<=q/\q<m
 |[],a,_,ha,q,hq=>by rw[xX,mem_singleton]at hq;rw[hq];exact ha|s::c,a,⟨v,e,hf,hp⟩,ha,q,hq=>by
   rw[xX,mem_cons]at hq;rcases hq with rfl|hq;.exact ha
   . have:vD ws s=too v s.2:=by unfold vD;rw[e]
     rw[this]at hq;exact DW hm hp (Dk hm e s.2) q hq
theorem xO{ws:List Wy}{b q:Int}:∀{c:List aq}{a:Int},il ws b c a->q∈xX ws c a->∃c1 c2,c=c1++c2/\il ws q c1 a/\il ws b c2 q
 |[],a,h,hq=>by rw[xX,mem_singleton]at hq;exact⟨[],[],rfl,hq.symm,by rw[hq];exact h⟩|s::c,a,h,hq=>by
   rw[xX,mem_cons]at hq;rcases hq with rfl|hq;.exact⟨[],s::c,rfl,rfl,h⟩
   . obtain⟨v,e,hf,hp⟩:=h;have:vD ws s=too v s.2:=by unfold vD;rw[e]
     rw[this]at hq;obtain⟨c1,c2,rfl,h1,h2⟩:=xO hp hq;exact⟨s::c1,c2,rfl,⟨v,e,hf,h1⟩,h2⟩
theorem yG{ws:List Wy}{b:Int}:∀{c:List aq}{a:Int},il ws b c a->¬(xX ws c a).Nodup->∃c1 c2 c3 q,c=c1++(c2++c3)/\0<c2.length/\il ws q c1 a/\il ws q c2 q/\il ws b c3 q
 |[],a,_,hn=>absurd (by simp[xX]) hn|s::c,a,⟨v,e,hf,hp⟩,hn=>by
   have et:vD ws s=too v s.2:=by unfold vD;rw[e]
   rw[xX,et,nodup_cons]at hn;by_cases ha:a∈xX ws c (too v s.2);.obtain⟨c1,c2,rfl,h1,h2⟩:=xO hp ha;exact⟨[],s::c1,c2,a,rfl,by simp,rfl,⟨v,e,hf,h1⟩,h2⟩
   .obtain⟨c1,c2,c3,q,rfl,h0,h1,h2,h3⟩:=yG hp fun z=>hn ⟨ha,z⟩;exact⟨s::c1,c2,c3,q,rfl,h0,⟨v,e,hf,h1⟩,h2,h3⟩
def Le(h:Int)(n:Nat)(h':Int)(n':Nat):Prop:=h<h'\/(h=h'/\n<=n')
theorem Le.refl{h:Int}{n:Nat}:Le h n h n:=.inr ⟨rfl,le_refl _⟩
theorem Le.trans{a b c:Int}{k l n:Nat}(h1:Le a k b l)(h2:Le b l c n):Le a k c n:=by unfold Le at*;omega
theorem Le.add{a b:Int}{k l:Nat}(x:Int)(h1:Le a k b l):Le (a+x) (k+1) (b+x) (l+1):=by unfold Le at*;omega
theorem short{m:Int}{ws:List Wy}{fs:List Int}{F:Int->Int}{a b:Int}(hm:HN m ws)(h:Pt ws fs F)(ha:0<=a/\a<m):∀(n:Nat){c:List aq},c.length<=n->il ws b c a->sZ ws fs c->∃c',il ws b c' a/\sZ ws fs c'/\c'.length<=5/\Le (bM ws c') c'.length (bM ws c) c.length:=by intro n;induction n with|zero=>intro c hc hp ho;exact⟨c,hp,ho,by omega,.refl⟩|succ n ih=>
   intro c hc hp ho;by_cases h5:c.length<=5;.exact⟨c,hp,ho,h5,.refl⟩
   . have hn:¬(xX ws c a).Nodup:=fun z=>by have:=six hm.m1 z (DW hm hp ha);rw[yj]at this;omega
     obtain⟨c1,c2,c3,q,rfl,h0,h1,h2,h3⟩:=yG hp hn;have ho2:sZ ws fs c2:=fun s hs=>ho s (by simp[hs]);have hr:=lG h h2 ho2;simp only[length_append]at hc;obtain⟨c',q1,q2,q3,q4⟩:=ih (c:=c1++c3) (by simp only[length_append];omega) (il.app h3 h1) fun s hs=>ho s (by rcases mem_append.mp hs with hs|hs<;>simp[hs]);refine⟨c',q1,q2,q3,q4.trans ?_⟩;rw[jf,jf,jf];simp only[length_append];unfold Le;omega
structure Q5(m:Int)(ws:List Wy)(fs:List Int)(es:List En):Prop where
 nd:(es.map (·.1)).Nodup
 Wg:∀p l o,(p,l,o)∈es->0<=p/\p<m
 z:(0,0,(none,0))∈es
 wk:∀p l o,(p,l,o)∈es->∃c,il ws p c 0/\sZ ws fs c/\c.length=l/\bM ws c=o.2
 stp:∀p l o,(p,l,o)∈es->(o.1=none/\p=0/\l=0)\/∃(s:aq)(v:Wy)(l':Nat)(o':Option aq×Int),o.1=some s/\ws[s.1]?=some v/\too v s.2=p/\iY ws fs (frm v s.2) s=true/\(frm v s.2,l',o')∈es/\Le (o'.2+hsp v s.2) (l'+1) o.2 l
theorem Q5.len{m:Int}{ws:List Wy}{fs:List Int}{es:List En}(h:Q5 m ws fs es)(m1:m<=6):es.length<=6:=by
 have:=six m1 h.nd fun p hp=>by obtain⟨⟨p,l,o⟩,he,rfl⟩:=mem_map.mp hp;exact h.Wg p l o he
 simpa using this
theorem iT{l:List En}{p:Int}{a b:Nat}{o u:Option aq×Int}(hn:(l.map (·.1)).Nodup)(h1:(p,a,o)∈l)(h2:(p,b,u)∈l):a=b/\o=u:=by have:=qN hn h1 h2;cases this;exact⟨rfl,rfl⟩
def At(es:List En)(p h:Int)(n:Nat):Prop:=∃l o,(p,l,o)∈es/\Le o.2 l h n
theorem At.le{es:List En}{p h h':Int}{n n':Nat}(a:At es p h n)(z:Le h n h' n'):At es p h' n':=by obtain⟨l,o,h1,h2⟩:=a;exact⟨l,o,h1,h2.trans z⟩
structure Wh(m:Int)(ws:List Wy)(fs:List Int)(n:Nat)(R:List Int)(es:List En):Prop where
 cm:Q5 m ws fs es
 row:∀p∈R,∃l o,(p,l,o)∈es
 nr:R.Nodup
 wl:∀c p,il ws p c 0->sZ ws fs c->c.length<=n->At es p (bM ws c) c.length
 cl:∀l o(s:aq)v,ws[s.1]?=some v->frm v s.2∉R->(frm v s.2,l,o)∈es->iY ws fs (frm v s.2) s=true->At es (too v s.2) (o.2+hsp v s.2) (l+1)few:6<=n->R=[]
structure In(m:Int)(ws:List Wy)(fs:List Int)(n:Nat)(R:List Int)(pK:List En)(K:aq->Prop)(es:List En)(ch:List Int):Prop where
 wh:Wh m ws fs n R pK
 cm:Q5 m ws fs es
 le:∀p l o,(p,l,o)∈pK->At es p o.2 l
 out:∀p l o,p∉ch->(p,l,o)∈es->(p,l,o)∈pK
 chg:∀p∈ch,∃l o,(p,l,o)∈es
 nc:ch.Nodup
 dn:∀s,K s->∀v,ws[s.1]?=some v->∀l o,(frm v s.2,l,o)∈pK->At es (too v s.2) (o.2+hsp v s.2) (l+1)few:5<=n->ch=[]
theorem In.row{m:Int}{ws:List Wy}{fs:List Int}{n:Nat}{R:List Int}{pK:List En}{K:aq->Prop}{es:List En}{ch:List Int}(h:In m ws fs n R pK K es ch){p:Int}(hp:p∈R):∃l o,(p,l,o)∈es:=by obtain⟨l,o,z⟩:=h.wh.row p hp;obtain⟨l,o,z,_⟩:=h.le _ _ _ z;exact⟨l,o,z⟩
theorem In.keep{m:Int}{ws:List Wy}{fs:List Int}{n:Nat}{R:List Int}{pK:List En}{K:aq->Prop}{es:List En}{ch:List Int}(h:In m ws fs n R pK K es ch){s:aq}{v:Wy}{l:Nat}{o:Option aq×Int}(e:ws[s.1]?=some v)(hp:(frm v s.2,l,o)∈es)(hn:At es (too v s.2) (o.2+hsp v s.2) (l+1)):In m ws fs n R pK (fun u=>K u\/u=s) es ch:=by
 refine⟨h.wh,h.cm,h.le,h.out,h.chg,h.nc,fun u hu=>?_,h.few⟩;rcases hu with hu|rfl;.exact h.dn u hu
 .intro v' e' l0 o0 h0;rw[e]at e';cases e';obtain⟨l1,o1,q1,q2⟩:=h.le _ _ _ h0;obtain⟨rfl,rfl⟩:=iT h.cm.nd hp q1;exact hn.le (q2.add _)
theorem In.put{m:Int}{ws:List Wy}{fs:List Int}{F:Int->Int}{n:Nat}{R:List Int}{pK:List En}{K:aq->Prop}{es:List En}{ch:List Int}(h:In m ws fs n R pK K es ch)(hm:HN m ws)(hF:Pt ws fs F){s:aq}{v:Wy}{l:Nat}{o:Option aq×Int}(e:ws[s.1]?=some v)(hp:(frm v s.2,l,o)∈es)(ho:iY ws fs (frm v s.2) s=true)(hn:¬ At es (too v s.2) (o.2+hsp v s.2) (l+1)):In m ws fs n R pK (fun u=>K u\/u=s) (mU es (too v s.2) (l+1,(some s,o.2+hsp v s.2))) (o8 ch (too v s.2)):=by
 have m0:=hm.m0;obtain⟨c,c1,c2,c3,c4⟩:=h.cm.wk _ _ _ hp;have w1:il ws (too v s.2) (c++[s]) 0:=il.app (c2:=[s]) ⟨v,e,rfl,rfl⟩ c1;have w2:sZ ws fs (c++[s]):=fun u hu=>by
  rcases mem_append.mp hu with hu|hu;.exact c2 u hu
  .rw[mem_singleton.mp hu];exact⟨v,e,ho⟩
 have w3:(c++[s]).length=l+1:=by simp[c3]
 have w4:bM ws (c++[s])=o.2+hsp v s.2:=by rw[jf,c4,bM,bM,fX e];omega
 have new:(too v s.2,l+1,(some s,o.2+hsp v s.2))∈mU es (too v s.2) (l+1,(some s,o.2+hsp v s.2)):=fG.mpr (.inl ⟨rfl,rfl⟩);have mono:∀{q l2 o2},(q,l2,o2)∈es->At (mU es (too v s.2) (l+1,(some s,o.2+hsp v s.2))) q o2.2 l2:=fun{q l2 o2}z=>by
  by_cases c:q=too v s.2;.subst c;refine⟨_,_,new,?_⟩;have:¬ Le o2.2 l2 (o.2+hsp v s.2) (l+1):=fun y=>hn ⟨_,_,z,y⟩;unfold Le at this ⊢;simp only;omega
  .exact⟨l2,o2,fG.mpr (.inr ⟨c,z⟩),.refl⟩
 have Ld:∀{q h n},At es q h n->At (mU es (too v s.2) (l+1,(some s,o.2+hsp v s.2))) q h n:=fun⟨l2,o2,z1,z2⟩=>(mono z1).le z2;refine⟨h.wh,⟨by rw[Ac];exact yW h.cm.nd,fun p l o z=>?_,?_,fun p l2 o2 z=>?_,fun p l2 o2 z=>?_⟩,fun p l o z=>Ld (h.le p l o z),fun p l o hc z=>?_,fun p hc=>?_,yW h.nc,fun u hu=>?_,fun h5=>?_⟩
 . rcases fG.mp z with⟨rfl,_⟩|⟨_,z⟩;.exact Dk hm e s.2
   .exact h.cm.Wg p l o z
 .refine fG.mpr (.inr ⟨fun z=>hn ?_,h.cm.z⟩);have:=lG hF w1 w2;rw[<-z,w4]at this;rw[<-z];exact⟨_,_,h.cm.z,by unfold Le;simp only;omega⟩
 . rcases fG.mp z with⟨rfl,y⟩|⟨_,z⟩;.cases y;exact⟨_,w1,w2,w3,w4⟩
   .exact h.cm.wk p l2 o2 z
 . rcases fG.mp z with⟨rfl,y⟩|⟨_,z⟩;.cases y;obtain⟨l',o',q1,q2⟩:=mono hp;exact .inr ⟨s,v,l',o',rfl,e,rfl,ho,q1,q2.add _⟩
   . rcases h.cm.stp p l2 o2 z with z|⟨s',v',l',o',z1,z3,z4,z5,z6,z7⟩;.exact .inl z
     .obtain⟨l3,o3,q1,q2⟩:=mono z6;exact .inr ⟨s',v',l3,o3,z1,z3,z4,z5,q1,(q2.add _).trans z7⟩
 . rw[uq,not_or]at hc;rcases fG.mp z with⟨rfl,_⟩|⟨_,z⟩;.exact absurd rfl hc.2
   .exact h.out p l o hc.1 z
 . rcases uq.mp hc with hc|rfl;.obtain⟨l2,o2,z⟩:=h.chg p hc;obtain⟨l3,o3,z,_⟩:=mono z;exact⟨l3,o3,z⟩
   .exact⟨_,_,new⟩
 . rcases hu with hu|rfl;.exact fun v' e' l0 o0 h0=>Ld (h.dn u hu v' e' l0 o0 h0)
   .intro v' e' l0 o0 h0;rw[e]at e';cases e';obtain⟨l1,o1,q1,q2⟩:=h.le _ _ _ h0;obtain⟨rfl,rfl⟩:=iT h.cm.nd hp q1;exact⟨_,_,new,q2.add _⟩
 .obtain⟨c',q1,q2,q3,q4⟩:=short hm hF ⟨by omega,by omega⟩ _ (le_refl _) w1 w2;obtain⟨l1,o1,z1,z2⟩:=h.wh.wl c' _ q1 q2 (by omega);rw[w3,w4]at q4;exact absurd ((h.le _ _ _ z1).le (z2.trans q4)) hn
theorem Wh.start{m:Int}{ws:List Wy}{fs:List Int}(m0:2<=m):Wh m ws fs 0 [0] [(0,0,(none,0))]:=by
 refine⟨⟨by simp,fun p l o z=>?_,by simp,fun p l o z=>?_,fun p l o z=>.inl ?_⟩,fun p hp=>?_,by simp,fun c p hp _ hc=>?_,fun l o s v _ hR z=>?_,fun h=>by omega⟩;.simp at z;omega
 .simp at z;obtain⟨rfl,rfl,rfl⟩:=z;exact⟨[],rfl,fun s hs=>(by cases hs),rfl,rfl⟩
 .simp at z;obtain⟨rfl,rfl,rfl⟩:=z;exact⟨rfl,rfl,rfl⟩
 .simp at hp;subst hp;exact⟨0,(none,0),by simp⟩
 .cases c with|nil=>have:(0:Int)=p:=hp;subst this;exact⟨0,(none,0),by simp,.refl⟩|cons _ _=>simp at hc
 .simp at z hR;exact absurd z.1 hR
theorem Wh.to{m:Int}{ws:List Wy}{fs:List Int}{n:Nat}{R:List Int}{es:List En}(h:Wh m ws fs n R es):In m ws fs n R es (fun _=>False) es []:=⟨h,h.cm,fun p l o z=>⟨l,o,z,.refl⟩,fun p l o _ z=>z,fun p hp=>(by cases hp),.nil,fun s hs=>hs.elim,fun _=>rfl⟩
theorem In.out'{m:Int}{ws:List Wy}{fs:List Int}{n:Nat}{R:List Int}{pK:List En}{es:List En}{ch:List Int}(h:In m ws fs n R pK (fun s=>∃p∈R,iY ws fs p s=true) es ch):Wh m ws fs (n+1) ch es:=by
 have leA:∀{p h' k},At pK p h' k->At es p h' k:=fun⟨l,o,z1,z2⟩=>(h.le _ _ _ z1).le z2;have Lf:∀(s:aq)v l o,ws[s.1]?=some v->(frm v s.2,l,o)∈pK->iY ws fs (frm v s.2) s=true->At es (too v s.2) (o.2+hsp v s.2) (l+1):=fun s v l o e z ho=>by
  by_cases c:frm v s.2∈R;.exact h.dn s ⟨_,c,ho⟩ v e l o z
  .exact leA (h.wh.cl l o s v e c z ho)
 refine⟨h.cm,h.chg,h.nc,fun c p hp ho hc=>?_,fun l o s v e hc z hs=>Lf s v l o e (h.out _ _ _ hc z) hs,fun h6=>h.few (by omega)⟩;rcases List.eq_nil_or_concat c with rfl|⟨c',s,rfl⟩;.exact leA (h.wh.wl [] p hp ho (zero_le _))
 . rw[List.concat_eq_append]at*;obtain⟨q,h1,v,e,rfl,h3⟩:=yH hp;have h3:too v s.2=p:=h3;subst h3;obtain⟨v',e',o'⟩:=ho s (by simp);rw[e]at e';cases e';simp only[length_append,length_cons,length_nil]at hc;obtain⟨l,o,z1,z2⟩:=h.wh.wl c' _ h1 (fun u hu=>ho u (by simp[hu])) (by omega);refine(Lf s v l o e z1 o').le ?_;have:=z2.add (hsp v s.2);have w4:bM ws (c'++[s])=bM ws c'+hsp v s.2:=by rw[jf,bM,bM,fX e];omega
   rw[w4];simpa using this
structure gB(m:Int)(ws:List Wy)(fs:List Int)(es:List En):Prop where
 cm:Q5 m ws fs es
 cl:∀l o(s:aq)v,ws[s.1]?=some v->(frm v s.2,l,o)∈es->iY ws fs (frm v s.2) s=true->At es (too v s.2) (o.2+hsp v s.2) (l+1)
theorem Wh.fin{m:Int}{ws:List Wy}{fs:List Int}{n:Nat}{es:List En}(h:Wh m ws fs n [] es):gB m ws fs es:=⟨h.cm,fun l o s v e z ho=>h.cl l o s v e (by simp) z ho⟩
theorem In.imp{m:Int}{ws:List Wy}{fs:List Int}{n:Nat}{R:List Int}{pK:List En}{K K':aq->Prop}{es:List En}{ch:List Int}(h:In m ws fs n R pK K es ch)(z:∀s,K' s->K s):In m ws fs n R pK K' es ch:=⟨h.wh,h.cm,h.le,h.out,h.chg,h.nc,fun s hs=>h.dn s (z s hs),h.few⟩
theorem Ov{m:Int}{ws:List Wy}{fs:List Int}{l:List aq}{p:Int}(hp:0<=p/\p<m):at' ((rD (ik ws fs m.toNat l)).map D.lst) p=some (.lst ((l.filter (iY ws fs p)).map sD)):=by rw[vX hp.1 (by simp[rD,ik];omega)];simp[rD,ik,show p.toNat<m.toNat by omega,Int.toNat_of_nonneg hp.1]
@[simp]theorem cut3{a b c:D}:KD (.tup [a,b,c]) (part (.con .non) .non) (part (.con (.int 2)) (.int 2))=some (.val (.tup [a,b])):=rfl
theorem MK{a b i j:Int}:cm .lt (.tup [.int a,.int i]) (.tup [.int b,.int j])=some (bf [a,i] [b,j]):=rfl
theorem lex_lt{a b:Int}{i j:Nat}:bf [a,(i:Int)] [b,(j:Int)]=true↔¬ Le b j a i:=by unfold Le;simp[bf];omega
noncomputable def bg:Sl:=.val false (.dv [0] [.int 0])
inductive JC2(m:Int)(ws:List Wy)(fs:List Int)(a0 a1 a2 a3 a6:Sl)(n:Nat)(R:List Int)(pK:List En)(pre:List Int)(p:Int)(r:List D)(ρ:List Sl):Prop where|mk(es:List En)(ch:List Int)(cg us:List aq)(s8 s9 gM:Sl)(q0:ρ=[a0,a1,a2,a3,.cA (es.map en),.val false (.int p),a6,.cA (ch.map wD),s8,s9,gM])(q1:A3 (fr s8=true) (fr s9=true) (fr gM=true))(q2:r=us.map sD)(q3:cg++us=(fY ws.length).filter (iY ws fs p))(q4:In m ws fs n R pK (fun s=>(∃q∈pre,iY ws fs q s=true)\/s∈cg) es ch)
inductive JC1(m:Int)(ws:List Wy)(fs:List Int)(a0 a1 a2 a3 a6:Sl)(n:Nat)(R:List Int)(pK:List En)(r:List D)(ρ:List Sl):Prop where|mk(es:List En)(ch pre qs:List Int)(s5 s8 s9 gM:Sl)(q0:ρ=[a0,a1,a2,a3,.cA (es.map en),s5,a6,.cA (ch.map wD),s8,s9,gM])(q1:A4 (fr s5=true) (fr s8=true) (fr s9=true) (fr gM=true))(q2:r=qs.map D.int)(q3:pre++qs=R)(q4:In m ws fs n R pK (fun s=>∃q∈pre,iY ws fs q s=true) es ch)
inductive JCw(m:Int)(ws:List Wy)(fs:List Int)(a0 a1 a2 a3:Sl)(M:Nat)(ρ:List Sl):Prop where|mk(n:Nat)(R:List Int)(es:List En)(s5 s7 s8 s9 gM:Sl)(q0:ρ=[a0,a1,a2,a3,.cA (es.map en),s5,.own false (R.map D.int),s7,s8,s9,gM])(q1:A4 (fr s5=true) (fr s8=true) (fr s9=true) (fr gM=true))(q2:(s7=.aU\/∃d,s7=.val false d))(q3:Wh m ws fs n R es)(q4:7<=n+M)
def JC0(a0 a1 a2 a3:Sl)(r:List D)(ρ:List Sl):Prop:=(r=[.int 0]/\ρ=[a0,a1,a2,a3,.cA [],.aU,.aU,.aU,.aU,.aU,.aU])\/(r=[]/\ρ=[a0,a1,a2,a3,.cA [en (0,0,(none,0))],.val false (.int 0),.aU,.aU,.aU,.aU,.aU])
theorem oO{w n:Nat}{s:Sl}{m:Int}{ws:List Wy}{fs:List Int}{F:Int->Int}{Q:R->List Sl->Prop}(hw:100<=w)(hF:Pt ws fs F)(hs:U7 s fs)(h:HN m ws)(hf:fs.length=ws.length)(k:∀es,gB m ws fs es->Q (.val (jT es)) [.val false (aR m ws),s,bg]):(run Γ w (n+3) 5 [.val false (aR m ws),s,bg]).sat Q:=by
 have hn:=h.len;have m0:=h.m0;have m1:=h.m1;refine aM (d:=f5) rfl rfl (by decide) ?_;refine eY (fun ρ=>ρ=[.val false (aR m ws),s,bg,.val false (.lst ((rD (ik ws fs m.toNat (fY ws.length))).map D.lst)),.aU,.aU,.aU,.aU,.aU,.aU,.aU]) ?_ ?_;.have hss:=hs;rcases hs with rfl|⟨b,rfl⟩;all_goals simp[f5,bg];refine Di (by first|exact .inl rfl|exact .inr ⟨_,rfl⟩) h hf ?_;simp
 rintro _ rfl;generalize hA:((rD (ik ws fs m.toNat (fY ws.length))).map D.lst)=A;symm;simp;apply ak;simp[bg];refine bF (JC0 (.val false (aR m ws)) s bg (.val false (.lst A))) ?_ ?_ (.inl ⟨rfl,rfl⟩)
 . rintro d r _(⟨hr,rfl⟩|⟨hr,rfl⟩)
   . obtain⟨rfl,rfl⟩:d=.int 0/\r=[]:=by simpa using hr
     simp;apply ak;simp[bg,lK];exact .inr ⟨rfl,rfl⟩
   .cases hr
 rintro _(⟨hr,rfl⟩|⟨hr,rfl⟩);.cases hr
 simp;apply ak;simp[bg];apply ak;simp;refine iu (JCw m ws fs _ _ _ _) ?_ (k:=w) (m:=50) (by omega) ⟨0,[0],[(0,0,(none,0))],_,_,_,_,_,rfl,⟨rfl,rfl,rfl,rfl⟩,.inl rfl,Wh.start m0,by omega⟩;rintro M _⟨n',R,es,s5,s7,s8,s9,gM,rfl,⟨h5,h8,h9,h10⟩,h7,hW,hM⟩;by_cases hR:R=[];.subst hR;simp;apply ak;simp;have:=k es hW.fin;simp[Function.comp_def,en];exact this
 . have hR2:0<R.length:=by cases R with|nil=>exact absurd rfl hR|cons _ _=>simp
   simp[hR2];refine eY (fun ρ=>ρ=[.val false (aR m ws),s,bg,.val false (.lst A),.cA (es.map en),s5,.own false (R.map D.int),.cA [],s8,s9,gM]) ?_ ?_
   . rcases h7 with rfl|⟨d,rfl⟩;.simp[bg]
     .simp[bg]
   rintro _ rfl;symm;simp;refine bF (JC1 m ws fs _ _ _ _ _ n' R es) ?_ ?_ ⟨es,[],[],R,s5,s8,s9,gM,rfl,⟨h5,h8,h9,h10⟩,rfl,rfl,hW.to.imp fun s hs=>by obtain⟨q,hq,_⟩:=hs;cases hq⟩;.rintro d r _⟨es',ch,pre,qs,s5,s8,s9,gM,rfl,⟨h5,h8,h9,h10⟩,hr,hpq,hI⟩;cases qs with|nil=>cases hr|cons p qs=>
       obtain⟨rfl,rfl⟩:d=.int p/\r=qs.map D.int:=by simpa using hr
       have hpR:p∈R:=by rw[<-hpq];simp
       have hpm:0<=p/\p<m:=by obtain⟨l,o,ho⟩:=hI.row hpR;exact hI.cm.Wg _ _ _ ho
       have hrow:=Ov (ws:=ws) (fs:=fs) (l:=fY ws.length) hpm;rw[hA]at hrow;simp[h5];apply ak;simp[hrow];refine bF (JC2 m ws fs _ _ _ _ _ n' R es pre p) ?_ ?_ ⟨es',ch,[],_,s8,s9,gM,rfl,⟨h8,h9,h10⟩,rfl,rfl,hI.imp fun s hs=>by rcases hs with hs|hs;exact hs;cases hs⟩;.rintro d r _⟨es',ch,cg,us,s8,s9,gM,rfl,⟨h8,h9,h10⟩,hr,hdu,hI⟩;cases us with|nil=>cases hr|cons u us=>
           obtain⟨rfl,rfl⟩:d=sD u/\r=us.map sD:=by simpa using hr
           have hu:iY ws fs p u=true:=by
            have:u∈(fY ws.length).filter (iY ws fs p):=by rw[<-hdu];simp
            exact(mem_filter.mp this).2
           obtain⟨v,g,e1,e2,e3,e4⟩:=oK hu;have Wi:(cg++[u])++us=(fY ws.length).filter (iY ws fs p):=by rw[append_assoc];exact hdu
           obtain⟨lp,op,hop⟩:=hI.row hpR;subst e3;have gp:=m7 hI.cm.nd hop;have hlen:=hI.cm.len m1;have hcl:ch.length<=6:=six m1 hI.nc fun q hq=>by obtain⟨l,o,z⟩:=hI.chg q hq;exact hI.cm.Wg _ _ _ z
           have Wj:∀s,((∃q∈pre,iY ws fs q s=true)\/s∈cg++[u])->((∃q∈pre,iY ws fs q s=true)\/s∈cg)\/s=u:=fun s hs=>by
            rcases hs with hs|hs;.exact .inl (.inl hs)
            . rcases mem_append.mp hs with hs|hs;.exact .inl (.inr hs)
              .exact .inr (by simpa using hs)
           simp[h8];apply ak;simp[sD];refine jG e1 ?_;simp[h9];apply ak;simp[gp,yx];refine qg e1 ?_;simp[gp,yx,h10];apply ak;have keep:At es' (too v u.2) (op.2+hsp v u.2) (lp+1)->JC2 m ws fs (.val false (aR m ws)) s bg (.val false (.lst A)) (.lent (R.map D.int)) n' R es pre (frm v u.2) (us.map sD) [.val false (aR m ws),s,bg,.val false (.lst A),.cA (es'.map en),.val false (.int (frm v u.2)),.lent (R.map D.int),.cA (ch.map wD),.val false (dR u.1 u.2),.val false (.int (too v u.2)),.val false (.tup [.int (op.2+hsp v u.2),.int ((lp:Int)+1)])]:=fun hat=>⟨es',ch,cg++[u],us,_,_,_,rfl,⟨rfl,rfl,rfl⟩,rfl,Wi,(hI.keep e1 hop hat).imp Wj⟩;have Wk:¬ At es' (too v u.2) (op.2+hsp v u.2) (lp+1)->JC2 m ws fs (.val false (aR m ws)) s bg (.val false (.lst A)) (.lent (R.map D.int)) n' R es pre (frm v u.2) (us.map sD) [.val false (aR m ws),s,bg,.val false (.lst A),.cA ((mU es' (too v u.2) (lp+1,(some u,op.2+hsp v u.2))).map en),.val false (.int (frm v u.2)),.lent (R.map D.int),.cA ((o8 ch (too v u.2)).map wD),.val false (dR u.1 u.2),.val false (.int (too v u.2)),.val false (.tup [.int (op.2+hsp v u.2),.int ((lp:Int)+1)])]:=fun hat=>⟨_,_,cg++[u],us,_,_,_,rfl,⟨rfl,rfl,rfl⟩,rfl,Wi,(hI.put h hF e1 hop hu hat).imp Wj⟩;have p1:fZ (es'.map en) (too v u.2) (.tup [.int (op.2+hsp v u.2),.int ((lp:Int)+1),dR u.1 u.2])=(mU es' (too v u.2) (lp+1,(some u,op.2+hsp v u.2))).map en:=by rw[<-Hj];simp[yx,oS,sD]
           have p2:fZ (ch.map wD) (too v u.2) (.bl true)=(o8 ch (too v u.2)).map wD:=Ij;by_cases hq:∃l o,(too v u.2,l,o)∈es'
           . obtain⟨l,o,hlo⟩:=hq;have gt:=m7 hI.cm.nd hlo;have kt:pL (es'.map en) (too v u.2)=true:=wI.mpr ⟨l,o,hlo⟩;have hlx:=lex_lt (a:=op.2+hsp v u.2) (i:=lp+1) (b:=o.2) (j:=l);rw[show((lp+1:Nat):Int)=(lp:Int)+1 by omega]at hlx;simp[kt,gt,yx,MK];refine⟨fun z=>?_,fun z=>?_⟩
             . have hat:¬ At es' (too v u.2) (op.2+hsp v u.2) (lp+1):=fun⟨l2,o2,y1,y2⟩=>by obtain⟨rfl,rfl⟩:=iT hI.cm.nd hlo y1;exact hlx.mp z y2
               symm;simp[p1];refine⟨by decide,fun _=>?_,by show _<16777216;omega⟩;symm;simp[p2];refine⟨fun _=>Wk hat,by show _<16777216;omega⟩
             . have hat:At es' (too v u.2) (op.2+hsp v u.2) (lp+1):=by
                refine⟨l,o,hlo,?_⟩;by_cases y:Le o.2 l (op.2+hsp v u.2) (lp+1);.exact y
                .rw[hlx.mpr y]at z;cases z
               exact keep hat
           .have kt:pL (es'.map en) (too v u.2)=false:=kin_no hq;simp[kt];apply ak;simp[p1];refine⟨by decide,fun _=>?_,by show _<16777216;omega⟩;symm;simp[p2];exact⟨fun _=>Wk fun⟨l2,o2,y1,_⟩=>hq ⟨l2,o2,y1⟩,by show _<16777216;omega⟩
       . rintro _⟨es',ch,cg,us,s8,s9,gM,rfl,⟨h8,h9,h10⟩,hr,hdu,hI⟩;have:us=[]:=by cases us with|nil=>rfl|cons _ _=>cases hr
         subst this;rw[append_nil]at hdu;simp;refine⟨es',ch,pre++[p],qs,_,_,_,_,rfl,⟨rfl,h8,h9,h10⟩,rfl,by rw[append_assoc];exact hpq,hI.imp fun s hs=>?_⟩;obtain⟨q,hq,hs⟩:=hs;rcases mem_append.mp hq with hq|hq;.exact .inl ⟨q,hq,hs⟩
         . obtain rfl:q=p:=by simpa using hq
           refine .inr ?_;rw[hdu];obtain⟨v,g,e1,_⟩:=oK hs;exact mem_filter.mpr ⟨tO (List.getElem?_eq_some_iff.mp e1).1,hs⟩
   . rintro _⟨es',ch,pre,qs,s5,s8,s9,gM,rfl,⟨h5,h8,h9,h10⟩,hr,hpq,hI⟩;have:qs=[]:=by cases qs with|nil=>rfl|cons _ _=>cases hr
     subst this;rw[append_nil]at hpq;subst hpq;have hcl:ch.length<=6:=six m1 hI.nc fun q hq=>by obtain⟨l,o,z⟩:=hI.chg q hq;exact hI.cm.Wg _ _ _ z
     have hO:=hI.out';have hn6:n'<6:=by
      by_cases c:6<=n';.exact absurd (hW.few c) hR
      .omega
     simp;apply ak;simp[show ch.length<=16777216 by omega];exact⟨M-1,by omega,n'+1,ch,es',_,_,_,_,_,rfl,⟨h5,h8,h9,h10⟩,.inr ⟨_,rfl⟩,hO,by omega⟩
theorem gB.all{m:Int}{ws:List Wy}{fs:List Int}{es:List En}(h:gB m ws fs es){b:Int}:∀{c:List aq}{a:Int}{l:Nat}{o:Option aq×Int},il ws b c a->sZ ws fs c->(a,l,o)∈es->At es b (o.2+bM ws c) (l+c.length)|[],a,l,o,hp,_,z=>by have:a=b:=hp;subst this;exact⟨l,o,z,by unfold Le bM;simp⟩|s::c,a,l,o,⟨v,e,hf,hp⟩,ho,z=>by subst hf;obtain⟨v',e',o'⟩:=ho s (by simp);rw[e]at e';cases e';obtain⟨l1,o1,z1,z2⟩:=h.cl l o s v e z o';obtain⟨l2,o2,z3,z4⟩:=gB.all h hp (fun u hu=>ho u (mem_cons_of_mem _ hu)) z1;refine⟨l2,o2,z3,z4.trans ?_⟩;rw[bM,fX e,length_cons];unfold Le at*;omega
theorem gB.l5{m:Int}{ws:List Wy}{fs:List Int}{F:Int->Int}{es:List En}(h:gB m ws fs es)(hm:HN m ws)(hF:Pt ws fs F){p:Int}{l:Nat}{o:Option aq×Int}(z:(p,l,o)∈es):l<=5:=by have m0:=hm.m0;obtain⟨c,c1,c2,c3,c4⟩:=h.cm.wk p l o z;obtain⟨c',q1,q2,q3,q4⟩:=short hm hF ⟨by omega,by omega⟩ _ (le_refl _) c1 c2;obtain⟨l2,o2,z1,z2⟩:=h.all q1 q2 h.cm.z;obtain⟨rfl,rfl⟩:=iT h.cm.nd z z1;rw[c3,c4]at q4;unfold Le at*;simp only at z2;omega
theorem gB.on{m:Int}{ws:List Wy}{fs:List Int}{es:List En}(h:gB m ws fs es){p:Int}{l:Nat}{o:Option aq×Int}(z:(p,l,o)∈es):(o=(none,0)/\p=0/\l=0)\/∃(s:aq)(v:Wy)(l':Nat)(o':Option aq×Int),o=(some s,o'.2+hsp v s.2)/\l=l'+1/\ws[s.1]?=some v/\too v s.2=p/\iY ws fs (frm v s.2) s=true/\(frm v s.2,l',o')∈es:=by
 rcases h.cm.stp p l o z with⟨h1,rfl,rfl⟩|⟨s,v,l',o',h1,h2,rfl,h4,h5,h6⟩;.exact .inl ⟨(iT h.cm.nd z h.cm.z).2,rfl,rfl⟩
 . obtain⟨l2,o2,z1,z2⟩:=h.cl l' o' s v h2 h5 h4;obtain⟨rfl,rfl⟩:=iT h.cm.nd z z1;refine .inr ⟨s,v,l',o',?_,?_,h2,rfl,h4,h5⟩;.exact Prod.ext_iff.mpr ⟨h1,by show _=o'.2+hsp v s.2;unfold Le at*;omega⟩
   .unfold Le at*;omega
structure J6(ws:List Wy)(fs:List Int)(es:List En)(p:Int)(L:Nat)(H:Int)(a:Int)(l:Nat)(h:Int)(c:List aq):Prop where
 Gk:il ws p c a
 ik:sZ ws fs c
 nd:(c.map (·.1)).Nodup
 lv:∀s∈c,∀v,ws[s.1]?=some v->∃l1 o1 o2,(frm v s.2,l1,o1)∈es/\(too v s.2,l1+1,o2)∈es/\l<=l1
 len:c.length+l=L
 hrs:bM ws c+h=H
theorem kj{v:Wy}{f g:Bool}(h:g≠f):frm v g=too v f/\too v g=frm v f:=by cases f<;>cases g<;>first|exact absurd rfl h|exact⟨rfl,rfl⟩
theorem J6.cons{m:Int}{ws:List Wy}{fs:List Int}{es:List En}{p:Int}{L l:Nat}{H x:Int}{c:List aq}{s:aq}{v:Wy}{o o':Option aq×Int}(hc:Q5 m ws fs es)(h:J6 ws fs es p L H (too v s.2) (l+1) (x+hsp v s.2) c)(e:ws[s.1]?=some v)(h1:(too v s.2,l+1,o)∈es)(h2:(frm v s.2,l,o')∈es)(ho:iY ws fs (frm v s.2) s=true):J6 ws fs es p L H (frm v s.2) l x (s::c):=by
 refine⟨⟨v,e,rfl,h.Gk⟩,fun u hu=>?_,?_,fun u hu x ex=>?_,by have:=h.len;simp only[length_cons];omega,by have:=h.hrs;rw[bM,fX e];omega⟩
 . rcases mem_cons.mp hu with rfl|hu;.exact⟨v,e,ho⟩
   .exact h.ik u hu
 . rw[map_cons,nodup_cons];refine⟨fun hm=>?_,h.nd⟩;obtain⟨t,ht,et⟩:=mem_map.mp hm;obtain⟨l1,o1,o2,q1,q2,q3⟩:=h.lv t ht v (by rw[et];exact e);by_cases z:t.2=s.2;.rw[z]at q1;have:=(iT hc.nd q1 h2).1;omega
   .rw[(kj z).2]at q2;have:=(iT hc.nd q2 h2).1;omega
 . rcases mem_cons.mp hu with rfl|hu;.rw[e]at ex;cases ex;exact⟨l,_,_,h2,h1,le_refl _⟩
   .obtain⟨l1,o1,o2,q1,q2,q3⟩:=h.lv u hu x ex;exact⟨l1,o1,o2,q1,q2,by omega⟩
theorem Dv{es:List En}{p:Int}{x:Nat×(Option aq×Int)}(hn:(es.map (·.1)).Nodup)(h:(p,x)∈es):lK ((es.map (·.1)).zip (es.map yx)) p=some (yx (p,x)):=by
 have:(es.map (·.1)).zip (es.map yx)=es.map en:=by rw[List.zip_map'];rfl
 rw[this];exact m7 hn h
inductive JSt(m:Int)(ws:List Wy)(fs:List Int)(es:List En)(p:Int)(L:Nat)(H:Int)(a0 a1 a2:Sl)(M:Nat)(ρ:List Sl):Prop where|mk(a:Int)(l:Nat)(o:Option aq×Int)(c:List aq)(s5:Sl)(q0:ρ=[a0,a1,a2,.own false (c.reverse.map sD),.val false (.int a),s5])(q1:fr s5=true)(q2:(a,l,o)∈es)(q3:J6 ws fs es p L H a l o.2 c)(q4:l<=M)
theorem zE{w n L:Nat}{m p:Int}{ws:List Wy}{fs:List Int}{es:List En}{o:Option aq×Int}{Q:R->List Sl->Prop}(hw:100<=w)(h:gB m ws fs es)(hL:L<=5)(hp:(p,L,o)∈es)(k:∀c,J6 ws fs es p L o.2 0 0 0 c->Q (.val (.tup (c.map sD))) [.val false (aR m ws),.val false (jT es),.val false (.int p)]):(run Γ w (n+2) 6 [.val false (aR m ws),.val false (jT es),.val false (.int p)]).sat Q:=by
 refine aM (d:=f6) rfl rfl (by decide) ?_;symm;simp[f6];apply ak;simp;apply ak;simp;refine iu (JSt m ws fs es p L o.2 _ _ _) ?_ (k:=w) (m:=L) (by omega) ⟨p,L,o,[],.aU,rfl,rfl,hp,⟨rfl,fun s hs=>(by cases hs),by simp,by simp,by simp,by rw[bM];omega⟩,le_refl _⟩;rintro M _⟨a,l,o1,c,s5,rfl,h5,ha,hc,hM⟩;have gz:=Dv h.cm.nd ha;rcases h.on ha with⟨rfl,rfl,rfl⟩|⟨s,v,l',o',rfl,rfl,e,rfl,ho,h2⟩;.simp[jT,gz,yx,oS];symm;simp;exact k c hc
 . simp[jT,gz,yx,oS,sD,dR];symm;simp[gz,yx,oS,h5];apply ak;have hcl:c.length<16777216:=by have:=hc.len;omega
   simp[hcl];apply ak;simp[sD];refine jG e ?_;simp;exact⟨l',by omega,frm v s.2,l',o',s::c,.val false (dR s.1 s.2),by simp[jT,sD],rfl,h2,hc.cons h.cm e ha h2 ho,le_refl _⟩
noncomputable def sg(x:Int)(f:Bool):Int:=if f then x else-x
noncomputable def jM(x:Int)(fs:List Int)(s:aq):List Int:=fs.set s.1 ((fs[s.1]?.getD 0)+sg x s.2)
noncomputable def aug(x:Int)(fs:List Int)(c:List aq):List Int:=c.foldl (jM x) fs
@[simp]theorem uy{x:Int}{fs:List Int}{s:aq}:(jM x fs s).length=fs.length:=by simp[jM]
theorem mZ{x:Int}:∀{c:List aq}{fs:List Int},(aug x fs c).length=fs.length|[],_=>rfl|s::c,fs=>by show(aug x (jM x fs s) c).length=_;rw[mZ,uy]
theorem m9{x:Int}{j:Nat}:∀{c:List aq}{fs:List Int},j∉c.map (·.1)->(aug x fs c)[j]?=fs[j]?|[],_,_=>rfl|s::c,fs,h=>by rw[map_cons,mem_cons,not_or]at h;show(aug x (jM x fs s) c)[j]?=_;rw[m9 h.2];unfold jM;rw[getElem?_set_ne (fun z=>h.1 z.symm)]
theorem wX{x:Int}:∀{c:List aq}{fs:List Int}{s:aq}{g:Int},(c.map (·.1)).Nodup->s∈c->fs[s.1]?=some g->(aug x fs c)[s.1]?=some (g+sg x s.2)
 |[],_,_,_,_,h,_=>by cases h|t::c,fs,s,g,hn,h,e=>by
   rw[map_cons,nodup_cons]at hn;show(aug x (jM x fs t) c)[s.1]?=_;have hlt:=(List.getElem?_eq_some_iff.mp e).1;rcases mem_cons.mp h with rfl|h;.rw[m9 hn.1];unfold jM;rw[getElem?_set_self hlt,e];rfl
   .refine wX hn.2 h ?_;unfold jM;rw[getElem?_set_ne (fun z=>hn.1 (by rw[z];exact mem_map.mpr ⟨s,h,rfl⟩))];exact e
inductive JWt(x:Int)(fs:List Int)(c:List aq)(a0 a1 a2:Sl)(r:List D)(ρ:List Sl):Prop where|mk(cg us:List aq)(s4 s5:Sl)(q0:ρ=[a0,a1,a2,.own false ((aug x fs cg).map D.int),s4,s5])(q1:fr s4=true)(q2:fr s5=true)(q3:r=us.map sD)(q4:cg++us=c)
theorem uU{w n:Nat}{s:Sl}{x:Int}{fs:List Int}{c:List aq}{Q:R->List Sl->Prop}(hs:U7 s fs)(hc:∀s∈c,s.1<fs.length)(k:Q (.own ((aug x fs c).map D.int)) [s,.val false (.tup (c.map sD)),.val false (.int x)]):(run Γ w (n+1) 7 [s,.val false (.tup (c.map sD)),.val false (.int x)]).sat Q:=by
 refine aM (d:=f7) rfl rfl (by decide) ?_;refine eY (fun ρ=>ρ=[s,.val false (.tup (c.map sD)),.val false (.int x),.own false (fs.map D.int),.aU,.aU]) ?_ ?_;.rcases hs with rfl|⟨b,rfl⟩;all_goals simp[f7]
 rintro _ rfl;symm;simp;refine bF (JWt x fs c _ _ _) ?_ ?_ ⟨[],c,.aU,.aU,rfl,rfl,rfl,rfl,rfl⟩;.rintro d r _⟨cg,us,s4,s5,rfl,h4,h5,hr,hd⟩;cases us with|nil=>cases hr|cons u us=>
     obtain⟨rfl,rfl⟩:d=sD u/\r=us.map sD:=by simpa using hr
     have hu:u.1<(aug x fs cg).length:=by rw[mZ];exact hc u (by rw[<-hd];simp)
     have ea:(aug x fs cg)[u.1]?=some (aug x fs cg)[u.1]:=by simp[hu]
     have hx:ig (aug x fs cg).length (u.1:Int)=some u.1:=by unfold ig;rw[if_pos (by omega),if_pos (by omega)];simp
     have he:aug x fs (cg++[u])=(aug x fs cg).set u.1 ((aug x fs cg)[u.1]+sg x u.2):=by unfold aug;rw[List.foldl_append];show jM x (aug x fs cg) u=_;unfold jM;rw[ea];rfl
     have hd2:(cg++[u])++us=c:=by rw[append_assoc];exact hd
     generalize(aug x fs cg)[u.1]=g at*;simp[sD,dR,h4,h5];apply ak;obtain⟨j,f⟩:=u;cases f with|true=>simp[dZ ea,hx];exact⟨cg++[(j,true)],us,_,_,by rw[he,map_set];rfl,rfl,rfl,rfl,hd2⟩|false=>simp[dZ ea,hx];exact⟨cg++[(j,false)],us,_,_,by rw[he,map_set];rfl,rfl,rfl,rfl,hd2⟩
 . rintro _⟨cg,us,s4,s5,rfl,h4,h5,hr,hd⟩;have:us=[]:=by cases us with|nil=>rfl|cons _ _=>cases hr
   subst this;rw[append_nil]at hd;subst hd;simp;apply ak;simp;exact k
noncomputable def Bm(F:Int->Int)(D:Int):List En->Int->Int|[],p=>F p+D|e::es,p=>if e.1=p then e.2.2.2 else Bm F D es p
theorem gR{F:Int->Int}{D p:Int}{l:Nat}{o:Option aq×Int}:∀{es:List En},(es.map (·.1)).Nodup->(p,l,o)∈es->Bm F D es p=o.2
 |[],_,h=>by cases h|e::es,hn,h=>by
   rw[map_cons,nodup_cons]at hn;rw[Bm];rcases mem_cons.mp h with rfl|h;.rw[if_pos rfl]
   .rw[if_neg (fun z=>hn.1 (by rw[z];exact mem_map.mpr ⟨_,h,rfl⟩))];exact gR hn.2 h
theorem nu{F:Int->Int}{D p:Int}:∀{es:List En},(¬ ∃l o,(p,l,o)∈es)->Bm F D es p=F p+D|[],_=>rfl|e::es,h=>by rw[Bm,if_neg (fun z=>h ⟨e.2.1,e.2.2,by rw[<-z];simp⟩)];exact nu fun⟨l,o,z⟩=>h ⟨l,o,mem_cons_of_mem _ z⟩
theorem xM(F:Int->Int):∀(es:List En),∃D,∀p l o,(p,l,o)∈es->o.2<=F p+D
 |[]=>⟨0,fun _ _ _ h=>by cases h⟩|e::es=>by
   obtain⟨D,h⟩:=xM F es;refine⟨max D (e.2.2.2-F e.1),fun p l o z=>?_⟩;rcases mem_cons.mp z with rfl|z;.simp only;omega
   .have:=h p l o z;omega
theorem gB.pt{m:Int}{ws:List Wy}{fs:List Int}{es:List En}{F:Int->Int}{D:Int}(h:gB m ws fs es)(hF:Pt ws fs F)(hD:∀p l o,(p,l,o)∈es->o.2<=F p+D):Pt ws fs (Bm F D es):=fun s v e ho=>by
 by_cases c:∃l o,(frm v s.2,l,o)∈es;.obtain⟨l,o,c⟩:=c;obtain⟨l2,o2,c2,c3⟩:=h.cl l o s v e c ho;rw[gR h.cm.nd c,gR h.cm.nd c2];unfold Le at c3;omega
 . rw[nu c];have h1:=hF s v e ho;by_cases c2:∃l o,(too v s.2,l,o)∈es;.obtain⟨l2,o2,c2⟩:=c2;rw[gR h.cm.nd c2];have:=hD _ _ _ c2;omega
   .rw[nu c2];omega
theorem De{ws:List Wy}{fs:List Int}{F G:Int->Int}(d:Int)(hF:Pt ws fs F)(hG:Pt ws fs G):Pt ws fs (fun p=>min (F p) (G p+d)):=fun s v e ho=>by have h1:=hF s v e ho;have h2:=hG s v e ho;simp only;omega
theorem qi{ws:List Wy}{fs:List Int}{F:Int->Int}(h:Pt ws fs F){b:Int}:∀{c:List aq}{a:Int},il ws b c a->sZ ws fs c->F b=F a+bM ws c->∀s∈c,∀v,ws[s.1]?=some v->F (too v s.2)=F (frm v s.2)+hsp v s.2
 |[],_,_,_,_,s,hs,_,_=>by cases hs|s::c,a,⟨v,e,hf,hp⟩,ho,he,u,hu,x,ex=>by
   have ho':sZ ws fs c:=fun u hu=>ho u (mem_cons_of_mem _ hu);have h1:=lG h hp ho';obtain⟨v',e',o⟩:=ho s (by simp);rw[e]at e';cases e';have h2:=h s v e o;rw[hf]at h2;rw[bM,fX e]at he;rcases mem_cons.mp hu with rfl|hu;.rw[e]at ex;cases ex;rw[hf];omega
   .exact qi h hp ho' (by omega) u hu x ex
theorem o7{ws:List Wy}{fs:List Int}{c:List aq}{x:Int}{t:aq}{v:Wy}(hc:sZ ws fs c)(e:ws[t.1]?=some v)(h:iY ws (aug x fs c) (frm v t.2) t=true):iY ws fs (frm v t.2) t=true\/∃s∈c,s.1=t.1/\t.2≠s.2:=by
 by_cases z:t.1∈c.map (·.1)
 . obtain⟨s,hs,es⟩:=mem_map.mp z;by_cases q:t.2=s.2;.have:t=s:=Prod.ext_iff.mpr ⟨es.symm,q⟩;subst this;obtain⟨v',e',o⟩:=hc t hs;rw[e]at e';cases e';exact .inl o
   .exact .inr ⟨s,hs,es,q⟩
 .refine .inl ?_;unfold iY at h ⊢;rwa[m9 z]at h
theorem Pt.aug{ws:List Wy}{fs:List Int}{F:Int->Int}(h:Pt ws fs F){a b x:Int}{c:List aq}(hp:il ws b c a)(ho:sZ ws fs c)(he:F b=F a+bM ws c):Pt ws (aug x fs c) F:=fun t v e o=>by
 rcases o7 ho e o with o|⟨u,hu,eu,ne⟩;.exact h t v e o
 . have:=qi h hp ho he u hu v (by rw[eu];exact e);rw[(kj ne).1,(kj ne).2];have:hsp v t.2=-hsp v u.2:=by cases h1:t.2<;>cases h2:u.2<;>simp[hsp]<;>(rw[h1,h2]at ne;exact absurd rfl ne)
   omega
noncomputable def dg(G:Wy->Int):List Wy->List Int->Int|v::ws,g::fs=>G v*g+dg G ws fs|_,_=>0
noncomputable def uN(H:Wy->Int):List Wy->Int|[]=>0|v::ws=>H v+uN H ws
theorem wV{G H:Wy->Int}:∀{ws:List Wy}{fs:List Int},fs.length=ws.length->(∀(j:Nat)v g,ws[j]?=some v->fs[j]?=some g->G v*g<=H v)->dg G ws fs<=uN H ws|[],[],_,_=>Int.le_refl _|[],_::_,h,_=>by simp at h|_::_,[],h,_=>by simp at h|v::ws,g::fs,h,k=>by have h1:=k 0 v g rfl rfl;have h2:=wV (G:=G) (H:=H) (ws:=ws) (fs:=fs) (by simpa using h) fun j v g e1 e2=>k (j+1) v g (by simpa using e1) (by simpa using e2);rw[dg,uN];omega
theorem xf{G H:Wy->Int}:∀{ws:List Wy}{fs:List Int},fs.length=ws.length->(∀(j:Nat)v g,ws[j]?=some v->fs[j]?=some g->H v<=G v*g)->uN H ws<=dg G ws fs|[],[],_,_=>Int.le_refl _|[],_::_,h,_=>by simp at h|_::_,[],h,_=>by simp at h|v::ws,g::fs,h,k=>by have h1:=k 0 v g rfl rfl;have h2:=xf (G:=G) (H:=H) (ws:=ws) (fs:=fs) (by simpa using h) fun j v g e1 e2=>k (j+1) v g (by simpa using e1) (by simpa using e2);rw[dg,uN];omega
theorem yo{G:Wy->Int}{v:Wy}{g y:Int}:∀{j:Nat}{ws:List Wy}{fs:List Int},ws[j]?=some v->fs[j]?=some g->dg G ws (fs.set j (g+y))=dg G ws fs+G v*y|_,[],_,e,_=>by simp at e|_,_::_,[],_,e=>by simp at e|0,u::ws,f::fs,e1,e2=>by simp at e1 e2;subst e1 e2;rw[List.set_cons_zero,dg,dg,mul_add];omega|j+1,u::ws,f::fs,e1,e2=>by rw[List.set_cons_succ,dg,dg,yo (j:=j) (by simpa using e1) (by simpa using e2)];omega
noncomputable def gap(k:Int)(q:Int->Int)(v:Wy):Int:=q v.t-q v.s-k*v.h
theorem Ep{k x:Int}{q:Int->Int}{v:Wy}{f:Bool}:gap k q v*sg x f=x*(q (too v f)-q (frm v f)-k*hsp v f):=by cases f with|true=>show(q v.t-q v.s-k*v.h)*x=x*(q v.t-q v.s-k*v.h);exact mul_comm _ _|false=>show(q v.t-q v.s-k*v.h)*(-x)=x*(q v.s-q v.t-k*(-v.h));rw[mul_neg,mul_neg k,show q v.s-q v.t- -(k*v.h)=-(q v.t-q v.s-k*v.h)by omega,mul_neg,mul_comm]
theorem yu{k x:Int}{q:Int->Int}{ws:List Wy}{b:Int}:∀{c:List aq}{fs:List Int}{a:Int},fs.length=ws.length->il ws b c a->dg (gap k q) ws (aug x fs c)=dg (gap k q) ws fs+x*(q b-q a-k*bM ws c)
 |[],fs,a,_,h=>by have:a=b:=h;subst this;show _=_+x*(q a-q a-k*0);simp;rfl|s::c,fs,a,hl,⟨v,e,hf,hp⟩=>by
   show dg (gap k q) ws (aug x (jM x fs s) c)=_;have hlt:s.1<fs.length:=by rw[hl];exact(List.getElem?_eq_some_iff.mp e).1
   have e2:fs[s.1]?=some fs[s.1]:=by simp[hlt]
   rw[yu (by rw[uy];exact hl) hp];have:jM x fs s=fs.set s.1 (fs[s.1]+sg x s.2):=by unfold jM;rw[e2];rfl
   rw[this,yo e e2,Ep,hf,Int.add_assoc,<-mul_add,bM,fX e,mul_add k];congr 2;omega
structure Kr(ws:List Wy)(fs:List Int):Prop where
 len:fs.length=ws.length
 ok:∀(j:Nat)v g,ws[j]?=some v->fs[j]?=some g->0<=g/\g<=v.r
theorem Kr.aug{ws:List Wy}{fs:List Int}{c:List aq}{x:Int}(h:Kr ws fs)(hn:(c.map (·.1)).Nodup)(hx:0<x)(hc:∀s∈c,∃v g,ws[s.1]?=some v/\fs[s.1]?=some g/\x<=lZ v g s.2):Kr ws (aug x fs c):=by
 refine⟨by rw[mZ];exact h.len,fun j v g e1 e2=>?_⟩;by_cases z:j∈c.map (·.1);.obtain⟨s,hs,rfl⟩:=mem_map.mp z;obtain⟨v',g',q1,q2,q3⟩:=hc s hs;rw[e1]at q1;cases q1;rw[wX hn hs q2]at e2;cases e2;have:=h.ok _ _ _ e1 q2;cases hf:s.2<;>rw[hf]at q3<;>simp[lZ,sg]at q3 ⊢<;>omega
 .rw[m9 z]at e2;exact h.ok _ _ _ e1 e2
noncomputable def CV(q:Int->Int)(v:Wy):Int:=v.r*max 0 (q v.t-q v.s-v.h)
noncomputable def Jk(q:Int->Int)(ws:List Wy):Int:=uN (CV q) ws
theorem Uo{q:Int->Int}{v:Wy}:gap 1 q v=q v.t-q v.s-v.h:=by unfold gap;omega
theorem yl{ws:List Wy}{fs:List Int}{q:Int->Int}(h:Kr ws fs):dg (gap 1 q) ws fs<=Jk q ws:=wV h.len fun j v g e1 e2=>by
 have:=h.ok _ _ _ e1 e2;rw[Uo];unfold CV;generalize q v.t-q v.s-v.h=y;by_cases c:0<=y;.rw[Int.max_eq_right c,mul_comm];exact Int.mul_le_mul_of_nonneg_right this.2 c
 .rw[Int.max_eq_left (by omega),mul_zero];exact Int.mul_nonpos_of_nonpos_of_nonneg (by omega) this.1
theorem Ho{ws:List Wy}{fs:List Int}{q:Int->Int}(h:Kr ws fs)(hp:Pt ws fs q):Jk q ws=dg (gap 1 q) ws fs:=by
 refine Int.le_antisymm (xf h.len fun j v g e1 e2=>?_) (yl h);have hg:=h.ok _ _ _ e1 e2;have o1:0<v.r-g->q v.t<=q v.s+v.h:=fun z=>hp (j,true) v e1 (by rw[jD (s:=(j,true)) e1 e2];simp[frm,lZ];omega);have o2:0<g->q v.s<=q v.t+-v.h:=fun z=>hp (j,false) v e1 (by rw[jD (s:=(j,false)) e1 e2];simp[frm,lZ];omega);rw[Uo];unfold CV;generalize hy:q v.t-q v.s-v.h=y;by_cases c:g=v.r
 . subst c;by_cases c0:0<v.r;.have:=o2 c0;rw[Int.max_eq_right (by omega),mul_comm];exact Int.le_refl _
   . have:v.r=0:=by omega
     rw[this];simp
 . have:=o1 (by omega);rw[Int.max_eq_left (by omega),mul_zero];by_cases c0:0<g;.have:=o2 c0;rw[show y=0 by omega];simp
   .rw[show g=0 by omega];simp
noncomputable def Kv(fs:List Int)(x:List aq×Int):List Int:=aug x.2 fs x.1
noncomputable def flow(N:Nat)(cs:List (List aq×Int)):List Int:=cs.foldl Kv (replicate N 0)
theorem ug{N:Nat}{cs:List (List aq×Int)}{x:List aq×Int}:flow N (cs++[x])=aug x.2 (flow N cs) x.1:=by unfold flow;rw[List.foldl_append];rfl
noncomputable def cP(H:List aq×Int->Int):List (List aq×Int)->Int|[]=>0|x::cs=>H x+cP H cs
theorem kh{H:List aq×Int->Int}{x:List aq×Int}:∀{cs:List (List aq×Int)},cP H (cs++[x])=cP H cs+H x|[]=>by simp[cP]|y::cs=>by rw[cons_append,cP,cP,kh];omega
theorem jd{H K:List aq×Int->Int}:∀{cs:List (List aq×Int)},(∀x∈cs,H x=K x)->cP H cs=cP K cs|[],_=>rfl|x::cs,h=>by rw[cP,cP,h x (by simp),jd fun y hy=>h y (by simp[hy])]
theorem CP{H:List aq×Int->Int}:∀{cs:List (List aq×Int)},(∀x∈cs,1<=H x)->(cs.length:Int)<=cP H cs|[],_=>by simp[cP]|x::cs,h=>by have h1:=h x (by simp);have h2:=CP (H:=H) (cs:=cs) fun y hy=>h y (by simp[hy]);rw[cP,length_cons];omega
noncomputable def UW(ws:List Wy)(T:Int)(x:List aq×Int):Int:=if bM ws x.1<=T then x.2*(T-bM ws x.1+1)else 0
noncomputable def val(ws:List Wy)(T:Int)(cs:List (List aq×Int)):Int:=cP (UW ws T) cs
structure mj(m:Int)(ws:List Wy)(T v:Int):Prop where
 ex:∃q:Int->Int,q 0=0/\q (m-1)=T+1/\Jk q ws=v
 le:∀q:Int->Int,q 0=0->q (m-1)=T+1->v<=Jk q ws
theorem uB{m T:Int}{ws:List Wy}{cs:List (List aq×Int)}{fs:List Int}{G:Int->Int}(fit:Kr ws fs)(dt:∀k q,dg (gap k q) ws fs=cP (fun x=>x.2*(q (m-1)-q 0-k*bM ws x.1)) cs)(hT:∀x∈cs,bM ws x.1<=T+1)(hG:Pt ws fs G)(g0:G 0=0)(g1:G (m-1)=T+1):mj m ws T (val ws T cs):=by
 have hv:∀q:Int->Int,q 0=0->q (m-1)=T+1->dg (gap 1 q) ws fs=val ws T cs:=fun q q0 q1=>by
  rw[dt,q0,q1];refine jd fun x hx=>?_;have:=hT x hx;unfold UW;split;.congr 1;omega
  .rw[show T+1-0-1*bM ws x.1=0 by omega,mul_zero]
 exact⟨⟨G,g0,g1,by rw[Ho fit hG,hv G g0 g1]⟩,fun q q0 q1=>by rw[<-hv q q0 q1];exact yl fit⟩
structure vy(m:Int)(ws:List Wy)(cs:List (List aq×Int))(fs:List Int)(F:Int->Int)(d:Int):Prop where
 fit:Kr ws fs
 pt:Pt ws fs F
 z:F 0=0
 e:F (m-1)=d
 d0:0<=d
 nn:(∀v∈ws,1<=v.h)->1<=d/\∀x∈cs,1<=bM ws x.1
 ch:∀x∈cs,bM ws x.1<=d/\0<x.2/\∀s∈x.1,s.1<ws.length
 dt:∀k q,dg (gap k q) ws fs=cP (fun x=>x.2*(q (m-1)-q 0-k*bM ws x.1)) cs
 lst:∀T,0<=T->T+1<=d->mj m ws T (val ws T cs)
theorem tX{G:Wy->Int}:∀{ws:List Wy}{n:Nat},dg G ws (replicate n 0)=0|[],n=>by unfold dg;rfl|v::ws,0=>rfl|v::ws,n+1=>by rw[replicate_succ,dg,tX];simp
theorem wA{n j:Nat}{g:Int}(h:(replicate n (0:Int))[j]?=some g):g=0:=(List.mem_replicate.mp (mem_of_getElem? h)).2
noncomputable def F01(b p:Int):Int:=if p=0 then 0 else b
theorem vy.zero{m:Int}{ws:List Wy}(m0:2<=m)(hh:∀v∈ws,0<=v.h)(hr:∀v∈ws,0<=v.r):∃b,vy m ws [] (replicate ws.length 0) (F01 b) b:=by
 have fit:Kr ws (replicate ws.length 0):=⟨by simp,fun j v g e1 e2=>by rw[wA e2];exact⟨Int.le_refl _,hr v (mem_of_getElem? e1)⟩⟩;have pt:∀b:Int,0<=b->(∀v∈ws,b<=v.h)->Pt ws (replicate ws.length 0) (F01 b):=fun b b0 hb s v e ho=>by obtain⟨v',g,e1,e2,_,e4⟩:=oK ho;rw[e]at e1;cases e1;have:=wA e2;subst this;have:=hb v (mem_of_getElem? e);cases hf:s.2<;>rw[hf]at e4<;>simp[lZ,hsp,F01]at e4 ⊢;split<;>split<;>omega
 have dt:∀k q,dg (gap k q) ws (replicate ws.length 0)=cP (fun x=>x.2*(q (m-1)-q 0-k*bM ws x.1)) []:=fun k q=>by rw[tX];rfl
 have e1:∀b,F01 b (m-1)=b:=fun b=>by unfold F01;rw[if_neg (by omega)]
 by_cases c:∀v∈ws,1<=v.h;.exact⟨1,fit,pt 1 (by omega) c,rfl,e1 1,by omega,fun _=>⟨Int.le_refl _,by simp⟩,by simp,dt,fun T h1 h2=>uB fit dt (by simp) (pt 1 (by omega) c) rfl (by rw[e1];omega)⟩
 .exact⟨0,fit,pt 0 (by omega) hh,rfl,e1 0,by omega,fun z=>absurd z c,by simp,dt,fun T h1 h2=>by omega⟩
theorem vy.at{m d T:Int}{ws:List Wy}{cs:List (List aq×Int)}{fs:List Int}{F G:Int->Int}(h:vy m ws cs fs F d)(hT:d<=T+1)(hG:Pt ws fs G)(g0:G 0=0)(g1:G (m-1)=T+1):mj m ws T (val ws T cs):=uB h.fit h.dt (fun x hx=>Int.le_trans (h.ch x hx).1 hT) hG g0 g1
theorem vy.more{m d:Int}{ws:List Wy}{cs:List (List aq×Int)}{fs:List Int}{F:Int->Int}{es:List En}{c:List aq}{x:Int}{l:Nat}{o:Option aq×Int}(h:vy m ws cs fs F d)(hes:gB m ws fs es)(hlo:(m-1,l,o)∈es)(hc:J6 ws fs es (m-1) l o.2 0 0 0 c)(hx:0<x)(hr:∀s∈c,∃v g,ws[s.1]?=some v/\fs[s.1]?=some g/\x<=lZ v g s.2):∃F',vy m ws (cs++[(c,x)]) (aug x fs c) F' o.2:=by
 obtain⟨D,hD⟩:=xM F es;have hP:=hes.pt h.pt hD;have hH:bM ws c=o.2:=by have:=hc.hrs;omega
 have e0:Bm F D es 0=0:=gR hes.cm.nd hes.cm.z;have e1:Bm F D es (m-1)=o.2:=gR hes.cm.nd hlo;have hd:d<=o.2:=by have:=lG h.pt hc.Gk hc.ik;rw[h.e,h.z]at this;omega
 refine⟨Bm F D es,h.fit.aug hc.nd hx hr,hP.aug hc.Gk hc.ik (by rw[e0,e1];omega),e0,e1,by have:=h.d0;omega,fun z=>⟨by have:=(h.nn z).1;omega,fun y hy=>?_⟩,fun y hy=>?_,fun k q=>?_,fun T h0 h1=>?_⟩
 . rcases mem_append.mp hy with hy|hy;.exact(h.nn z).2 y hy
   .rw[mem_singleton.mp hy];show 1<=bM ws c;have:=(h.nn z).1;omega
 . rcases mem_append.mp hy with hy|hy;.have:=h.ch y hy;exact⟨by omega,this.2⟩
   .rw[mem_singleton.mp hy];refine⟨by show bM ws c<=_;omega,hx,fun s hs=>?_⟩;obtain⟨v,g,e,_⟩:=hr s hs;exact(List.getElem?_eq_some_iff.mp e).1
 .rw[yu h.fit.len hc.Gk,kh,h.dt]
 . have e3:val ws T (cs++[(c,x)])=val ws T cs:=by unfold val;rw[kh];show _+(if bM ws c<=T then _ else 0)=_;rw[if_neg (by omega)];omega
   rw[e3];by_cases q:T+1<=d;.exact h.lst T h0 q
   . refine h.at (by omega) (De (T+1-d) hP h.pt) ?_ ?_;.have:=h.z;omega
     .have:=h.e;omega
theorem vy.least{m d T:Int}{ws:List Wy}{cs:List (List aq×Int)}{fs:List Int}{F:Int->Int}{es:List En}(h:vy m ws cs fs F d)(hes:gB m ws fs es)(hno:¬ ∃l o,(m-1,l,o)∈es)(h0:0<=T):mj m ws T (val ws T cs):=by
 by_cases q:T+1<=d;.exact h.lst T h0 q
 . obtain⟨D,hD⟩:=xM F es;have hP:=hes.pt (D:=max D (T+1-d)) h.pt fun p l o z=>by have:=hD p l o z;omega
   have e0:Bm F (max D (T+1-d)) es 0=0:=gR hes.cm.nd hes.cm.z;have e1:Bm F (max D (T+1-d)) es (m-1)=F (m-1)+max D (T+1-d):=nu hno;refine h.at (by omega) (De (T+1-d) hP h.pt) ?_ ?_;.have:=h.z;omega
   .have:=h.e;omega
noncomputable def Bk(v:Wy)(f:Bool):Int:=7*hsp v f+1
def Kl(ws:List Wy)(fs:List Int)(P:Int->Int):Prop:=∀(s:aq)(v:Wy),ws[s.1]?=some v->iY ws fs (frm v s.2) s=true->P (too v s.2)<=P (frm v s.2)+Bk v s.2
noncomputable def vq(ws:List Wy)(c:List aq):Int:=7*bM ws c+c.length
theorem nT{ws:List Wy}{s:aq}{v:Wy}{c:List aq}(e:ws[s.1]?=some v):vq ws (s::c)=Bk v s.2+vq ws c:=by unfold vq Bk;rw[bM,fX e,length_cons];omega
theorem vI{ws:List Wy}{fs:List Int}{P:Int->Int}(h:Kl ws fs P){b:Int}:∀{c:List aq}{a:Int},il ws b c a->sZ ws fs c->P b<=P a+vq ws c|[],a,hp,_=>by have:a=b:=hp;rw[this];simp[vq,bM]|s::c,a,⟨v,e,hf,hp⟩,ho=>by have h1:=vI h hp fun u hu=>ho u (mem_cons_of_mem _ hu);obtain⟨v',e',o⟩:=ho s (by simp);rw[e]at e';cases e';have h2:=h s v e o;rw[hf]at h2;rw[nT e];omega
theorem p7{ws:List Wy}{fs:List Int}{P:Int->Int}(h:Kl ws fs P){b:Int}:∀{c:List aq}{a:Int},il ws b c a->sZ ws fs c->P b=P a+vq ws c->∀s∈c,∀v,ws[s.1]?=some v->P (too v s.2)=P (frm v s.2)+Bk v s.2
 |[],_,_,_,_,s,hs,_,_=>by cases hs|s::c,a,⟨v,e,hf,hp⟩,ho,he,u,hu,x,ex=>by
   have ho':sZ ws fs c:=fun u hu=>ho u (mem_cons_of_mem _ hu);have h1:=vI h hp ho';obtain⟨v',e',o⟩:=ho s (by simp);rw[e]at e';cases e';have h2:=h s v e o;rw[hf]at h2;rw[nT e]at he;rcases mem_cons.mp hu with rfl|hu;.rw[e]at ex;cases ex;rw[hf];omega
   .exact p7 h hp ho' (by omega) u hu x ex
noncomputable def tgt(ws:List Wy)(fs:List Int)(P:Int->Int)(s:aq):Bool:=match ws[s.1]?with|some v=>iY ws fs (frm v s.2) s&&decide (P (too v s.2)=P (frm v s.2)+Bk v s.2)|none=>false
theorem Ei{ws:List Wy}{fs:List Int}{P:Int->Int}{s:aq}{v:Wy}(e:ws[s.1]?=some v):tgt ws fs P s=(iY ws fs (frm v s.2) s&&decide (P (too v s.2)=P (frm v s.2)+Bk v s.2)):=by unfold tgt;rw[e]
noncomputable def Ew(ws:List Wy)(fs:List Int)(P:Int->Int):Nat:=((fY ws.length).filter (tgt ws fs P)).length
theorem yI{ws:List Wy}{fs:List Int}{P:Int->Int}(h:ws.length<=12):Ew ws fs P<=24:=by have:=List.length_filter_le (tgt ws fs P) (fY ws.length);rw[uH]at this;unfold Ew;omega
theorem Eo{p q:aq->Bool}(h:∀t,q t=true->p t=true):∀(l:List aq),(l.filter q).length<=(l.filter p).length|[]=>le_refl _|t::l=>by have ih:=Eo h l;cases hq:q t with|true=>simp[hq,h t hq,ih]|false=>cases hp:p t with|true=>simp[hq,hp];omega|false=>simp[hq,hp,ih]
theorem Ca{p q:aq->Bool}{s:aq}(h:∀t,q t=true->p t=true)(hp:p s=true)(hq:q s=false):∀{l:List aq},s∈l->(l.filter q).length<(l.filter p).length
 |[],hs=>by cases hs|t::l,hs=>by
   have le:=Eo h l;rcases mem_cons.mp hs with rfl|hs;.simp[hp,hq];omega
   .have ih:=Ca h hp hq hs;cases hq2:q t with|true=>simp[hq2,h t hq2,ih]|false=>cases hp2:p t with|true=>simp[hq2,hp2];omega|false=>simp[hq2,hp2,ih]
theorem Bp{ws:List Wy}{fs:List Int}{c:List aq}{s:aq}{v:Wy}{g:Int}(hn:(c.map (·.1)).Nodup)(hs:s∈c)(e:ws[s.1]?=some v)(e2:fs[s.1]?=some g){p:Int}:iY ws (aug (lZ v g s.2) fs c) p s=false:=by
 rw[jD e (wX hn hs e2)];have:lZ v (g+sg (lZ v g s.2) s.2) s.2=0:=by cases s.2<;>simp[lZ,sg]<;>omega
 rw[this];simp
theorem Kl.aug{ws:List Wy}{fs:List Int}{P:Int->Int}(h:Kl ws fs P){a b:Int}{c:List aq}{s:aq}{v:Wy}{g:Int}(hp:il ws b c a)(ho:sZ ws fs c)(hn:(c.map (·.1)).Nodup)(he:P b=P a+vq ws c)(hs:s∈c)(e:ws[s.1]?=some v)(e2:fs[s.1]?=some g):Kl ws (aug (lZ v g s.2) fs c) P/\Ew ws (aug (lZ v g s.2) fs c) P<Ew ws fs P:=by
 have Lg:=p7 h hp ho he;have back:∀(t u:aq)(x:Wy),u∈c->u.1=t.1->t.2≠u.2->ws[t.1]?=some x->P (too x t.2)<P (frm x t.2)+Bk x t.2:=fun t u x hu eu ne ex=>by
  have h1:=Lg u hu x (by rw[eu];exact ex);rw[(kj ne).1,(kj ne).2];have h2:hsp x t.2=-hsp x u.2:=by cases h1:t.2<;>cases h2:u.2<;>simp[hsp]<;>(rw[h1,h2]at ne;exact absurd rfl ne)
  unfold Bk at*;omega
 refine⟨fun t x ex o=>?_,?_⟩
 . rcases o7 ho ex o with o|⟨u,hu,eu,ne⟩;.exact h t x ex o
   .have:=back t u x hu eu ne ex;omega
 . obtain⟨v',e',o⟩:=ho s hs;rw[e]at e';cases e';refine Ca (s:=s) (fun t ht=>?_) (by rw[Ei e,o,Lg s hs v e];simp) (by rw[Ei e,Bp hn hs e e2];rfl) (tO (List.getElem?_eq_some_iff.mp e).1);unfold tgt at ht ⊢;split at ht
   . rename_i x ex;simp only[and_eq_true,decide_eq_true_eq]at ht ⊢;refine⟨?_,ht.2⟩;rcases o7 ho ex ht.1 with o|⟨u,hu,eu,ne⟩;.exact o
     .have:=back t u x hu eu ne ex;omega
   .cases ht
noncomputable abbrev JS:=List (Option Bool)
noncomputable def jo:List Wy->JS->Int|v::ws,some f::es=>Bk v f+jo ws es|_::ws,none::es=>jo ws es|_,_=>0
noncomputable def An(N:Nat):List aq->JS|[]=>replicate N none|s::c=>(An N c).set s.1 (some s.2)
theorem rH{N:Nat}:∀{c:List aq},(An N c).length=N|[]=>by simp[An]|s::c=>by rw[An,List.length_set,rH]
theorem xT{N j:Nat}:∀{c:List aq},j<N->j∉c.map (·.1)->(An N c)[j]?=some none|[],h,_=>by simp[An,h]|s::c,h,hn=>by rw[map_cons,mem_cons,not_or]at hn;rw[An,getElem?_set_ne (fun z=>hn.1 z.symm)];exact xT h hn.2
theorem uL{v:Wy}{f:Bool}:∀{j:Nat}{ws:List Wy}{es:JS},ws[j]?=some v->es[j]?=some none->jo ws (es.set j (some f))=jo ws es+Bk v f|_,[],_,e,_=>by simp at e|_,_::_,[],_,e=>by simp at e|0,u::ws,x::es,e1,e2=>by simp at e1 e2;subst e1 e2;rw[List.set_cons_zero,jo,jo];omega|j+1,u::ws,x::es,e1,e2=>by have ih:=uL (f:=f) (j:=j) (ws:=ws) (es:=es) (by simpa using e1) (by simpa using e2);rw[List.set_cons_succ];cases x with|none=>rw[jo,jo,ih]|some g=>rw[jo,jo,ih];omega
theorem qp:∀{ws:List Wy}{n:Nat},jo ws (replicate n none)=0|[],n=>by unfold jo;rfl|v::ws,0=>rfl|v::ws,n+1=>by rw[replicate_succ,jo,qp]
theorem rT{ws:List Wy}{b:Int}:∀{c:List aq}{a:Int},il ws b c a->(c.map (·.1)).Nodup->jo ws (An ws.length c)=vq ws c|[],_,_,_=>by rw[An,qp];simp[vq,bM]|s::c,a,⟨v,e,_,hp⟩,hn=>by rw[map_cons,nodup_cons]at hn;rw[An,uL e (xT (List.getElem?_eq_some_iff.mp e).1 hn.1),rT hp hn.2,nT e];omega
noncomputable def pU:Nat->List JS|0=>[[]]|n+1=>(pU n).map (none::·)++((pU n).map (some true::·)++(pU n).map (some false::·))
theorem pq:∀{n:Nat},(pU n).length=3^n|0=>rfl|n+1=>by rw[pU,length_append,length_append,length_map,length_map,length_map,pq,Nat.pow_succ];omega
theorem pg:∀{e:JS},e∈pU e.length|[]=>by simp[pU]|x::e=>by have ih:=pg (e:=e);rw[length_cons,pU,mem_append,mem_append];cases x with|none=>exact .inl (mem_map.mpr ⟨e,ih,rfl⟩)|some f=>cases f with|true=>exact .inr (.inl (mem_map.mpr ⟨e,ih,rfl⟩))|false=>exact .inr (.inr (mem_map.mpr ⟨e,ih,rfl⟩))
structure GC(m:Int)(ws:List Wy)(k:Nat)(fs:List Int)(P:Int->Int)(lam:Int)(seen:List JS):Prop where
 pt:Kl ws fs P
 z:P 0=0
 e:P (m-1)=lam
 nd:seen.Nodup
 sl:∀e∈seen,e.length=ws.length/\jo ws e<=lam
 cnt:k+Ew ws fs P<=25*(seen.length+1)
theorem GC.few{m lam:Int}{ws:List Wy}{k:Nat}{fs:List Int}{P:Int->Int}{seen:List JS}(h:GC m ws k fs P lam seen)(hl:ws.length<=12):k<=13286050:=by
 have h1:=j7 (l2:=pU ws.length) h.nd fun e he=>by rw[<-(h.sl e he).1];exact pg
 rw[pq]at h1;have h2:3^ws.length<=3^12:=Nat.pow_le_pow_right (by decide) hl;have h3:(3:Nat)^12=531441:=by decide
 have:=h.cnt;omega
theorem GC.zero{m:Int}{ws:List Wy}(hl:ws.length<=12)(hh:∀v∈ws,0<=v.h):GC m ws 0 (replicate ws.length 0) (fun _=>0) 0 []:=by refine⟨fun s v e ho=>?_,rfl,rfl,.nil,by simp,by have:=yI (fs:=replicate ws.length 0) (P:=fun _=>0) hl;simp;omega⟩;obtain⟨v',g,e1,e2,_,e4⟩:=oK ho;rw[e]at e1;cases e1;have:=wA e2;subst this;have:=hh v (mem_of_getElem? e);cases hf:s.2<;>rw[hf]at e4<;>simp[lZ,Bk,hsp]at e4 ⊢;omega
noncomputable def Gq(F:Int->Int)(D:Int):List En->Int->Int|[],p=>F p+D|e::es,p=>if e.1=p then 7*e.2.2.2+(e.2.1:Int)else Gq F D es p
theorem lL{F:Int->Int}{D p:Int}{l:Nat}{o:Option aq×Int}:∀{es:List En},(es.map (·.1)).Nodup->(p,l,o)∈es->Gq F D es p=7*o.2+l
 |[],_,h=>by cases h|e::es,hn,h=>by
   rw[map_cons,nodup_cons]at hn;rw[Gq];rcases mem_cons.mp h with rfl|h;.rw[if_pos rfl]
   .rw[if_neg (fun z=>hn.1 (by rw[z];exact mem_map.mpr ⟨_,h,rfl⟩))];exact lL hn.2 h
theorem sy{F:Int->Int}{D p:Int}:∀{es:List En},(¬ ∃l o,(p,l,o)∈es)->Gq F D es p=F p+D|[],_=>rfl|e::es,h=>by rw[Gq,if_neg (fun z=>h ⟨e.2.1,e.2.2,by rw[<-z];simp⟩)];exact sy fun⟨l,o,z⟩=>h ⟨l,o,mem_cons_of_mem _ z⟩
theorem Dn(F:Int->Int):∀(es:List En),∃D,∀p l o,(p,l,o)∈es->7*o.2+(l:Int)<=F p+D
 |[]=>⟨0,fun _ _ _ h=>by cases h⟩|e::es=>by
   obtain⟨D,h⟩:=Dn F es;refine⟨max D (7*e.2.2.2+(e.2.1:Int)-F e.1),fun p l o z=>?_⟩;rcases mem_cons.mp z with rfl|z;.simp only;omega
   .have:=h p l o z;omega
theorem gB.pts{m:Int}{ws:List Wy}{fs:List Int}{es:List En}{F P:Int->Int}{D:Int}(h:gB m ws fs es)(hm:HN m ws)(hF:Pt ws fs F)(hP:Kl ws fs P)(hD:∀p l o,(p,l,o)∈es->7*o.2+(l:Int)<=P p+D):Kl ws fs (Gq P D es):=fun s v e ho=>by
 by_cases c:∃l o,(frm v s.2,l,o)∈es;.obtain⟨l,o,c⟩:=c;obtain⟨l2,o2,c2,c3⟩:=h.cl l o s v e c ho;rw[lL h.cm.nd c,lL h.cm.nd c2];have:=h.l5 hm hF c2;unfold Le at c3;unfold Bk;omega
 . rw[sy c];have h1:=hP s v e ho;by_cases c2:∃l o,(too v s.2,l,o)∈es;.obtain⟨l2,o2,c2⟩:=c2;rw[lL h.cm.nd c2];have:=hD _ _ _ c2;omega
   .rw[sy c2];omega
theorem GC.more{m lam:Int}{ws:List Wy}{k:Nat}{fs:List Int}{P F:Int->Int}{seen:List JS}{es:List En}{c:List aq}{l:Nat}{o:Option aq×Int}{s:aq}{v:Wy}{g:Int}(h:GC m ws k fs P lam seen)(hm:HN m ws)(hF:Pt ws fs F)(hes:gB m ws fs es)(hlo:(m-1,l,o)∈es)(hc:J6 ws fs es (m-1) l o.2 0 0 0 c)(hs:s∈c)(e:ws[s.1]?=some v)(e2:fs[s.1]?=some g):∃P' Qy Gm,GC m ws (k+1) (aug (lZ v g s.2) fs c) P' Qy Gm:=by
 have hH:bM ws c=o.2:=by have:=hc.hrs;omega
 have hL:c.length=l:=by have:=hc.len;omega
 have hW:vq ws c=7*o.2+l:=by unfold vq;rw[hH,hL]
 have hle:lam<=vq ws c:=by have:=vI h.pt hc.Gk hc.ik;rw[h.e,h.z]at this;omega
 by_cases q:lam=vq ws c;.have hA:=h.pt.aug hc.Gk hc.ik hc.nd (by rw[h.e,h.z];omega) hs e e2;exact⟨P,lam,seen,hA.1,h.z,h.e,h.nd,h.sl,by have:=h.cnt;omega⟩
 . obtain⟨D,hD⟩:=Dn P es;have hP:=hes.pts hm hF h.pt hD;have e0:Gq P D es 0=0:=by rw[lL hes.cm.nd hes.cm.z];rfl
   have e1:Gq P D es (m-1)=vq ws c:=by rw[lL hes.cm.nd hlo,hW]
   have hA:=hP.aug hc.Gk hc.ik hc.nd (by rw[e0,e1];omega) hs e e2;have hv:=rT hc.Gk hc.nd;refine⟨Gq P D es,vq ws c,seen++[An ws.length c],hA.1,e0,e1,?_,fun x hx=>?_,?_⟩;.rw[nodup_append];refine⟨h.nd,by simp,fun a ha b hb ab=>?_⟩;have:=(h.sl a ha).2;rw[ab,mem_singleton.mp hb,hv]at this;omega
   . rcases mem_append.mp hx with hx|hx;.have:=h.sl x hx;exact⟨this.1,by omega⟩
     .rw[mem_singleton.mp hx];exact⟨rH,by rw[hv];exact Int.le_refl _⟩
   .have h1:=yI (fs:=fs) (P:=Gq P D es) hm.len;have h2:=h.cnt;rw[length_append,List.length_singleton];omega
noncomputable def cD(x:List aq×Int):D:=.tup [.tup (x.1.map sD),.int x.2]
theorem Lx{ns:List Int}(h:ns≠[]):∃i,ns.min?=some i/\i∈ns/\∀j∈ns,i<=j:=by cases e:ns.min? with|none=>rw[List.min?_eq_none_iff]at e;exact absurd e h|some i=>have:=List.min?_eq_some_iff.mp e;exact⟨i,rfl,this.1,this.2⟩
noncomputable def UT:D->aq|.tup [.int j,.bl f]=>(j.toNat,f)|_=>(0,true)
@[simp]theorem Cw{s:aq}:UT (sD s)=s:=rfl
noncomputable def Km(ws:List Wy)(fs:List Int)(s:aq):Int:=match ws[s.1]?,fs[s.1]?with|some v,some g=>lZ v g s.2|_,_=>0
noncomputable def rmD(ws:List Wy)(fs:List Int)(d:D):D:=.int (Km ws fs (UT d))
@[simp]theorem Uy{es:List En}{p:Int}:uv false (.int p) (jT es)=some (.val (.bl (pL (es.map en) p))):=by show some (R.val (.bl ((es.map (·.1)).contains p)))=some (R.val (.bl ((Gs (es.map en)).contains p)));rw[wG]
def Z2(m:Int)(ws:List Wy)(x:List aq×Int):Prop:=x.1.length<=5/\(∀s∈x.1,s.1<ws.length)/\il ws (m-1) x.1 0/\(x.1.map (·.1)).Nodup
structure Stg(m:Int)(ws:List Wy)(cg:List (List aq×Int))(x:List aq×Int):Prop where
 iv:∃F d,vy m ws cg (flow ws.length cg) F d
 ht:∃F,Pt ws (flow ws.length cg) F/\F 0=0/\F (m-1)=bM ws x.1
 op:sZ ws (flow ws.length cg) x.1
 rm:∀s∈x.1,∃v g,ws[s.1]?=some v/\(flow ws.length cg)[s.1]?=some g/\x.2<=lZ v g s.2
theorem vy.ht{m d:Int}{ws:List Wy}{cs:List (List aq×Int)}{fs:List Int}{F:Int->Int}{es:List En}{c:List aq}{l:Nat}{o:Option aq×Int}(h:vy m ws cs fs F d)(hes:gB m ws fs es)(hlo:(m-1,l,o)∈es)(hc:J6 ws fs es (m-1) l o.2 0 0 0 c):(∃F,Pt ws fs F/\F 0=0/\F (m-1)=bM ws c)/\d<=bM ws c:=by
 obtain⟨D,hD⟩:=xM F es;have hH:bM ws c=o.2:=by have:=hc.hrs;omega
 refine⟨⟨Bm F D es,hes.pt h.pt hD,gR hes.cm.nd hes.cm.z,by rw[gR hes.cm.nd hlo,hH]⟩,?_⟩;have:=lG h.pt hc.Gk hc.ik;rw[h.e,h.z]at this;omega
def Ab(m:Int)(ws:List Wy)(cs:List (List aq×Int)):Prop:=cs.Pairwise (fun a b=>bM ws a.1<=bM ws b.1)/\∀cg x rest,cs=cg++x::rest->Stg m ws cg x
theorem Ab.snoc{m:Int}{ws:List Wy}{cs:List (List aq×Int)}{y:List aq×Int}(h:Ab m ws cs)(h1:∀x∈cs,bM ws x.1<=bM ws y.1)(h2:Stg m ws cs y):Ab m ws (cs++[y]):=by
 refine⟨?_,fun cg x rest e=>?_⟩;.rw[List.pairwise_append];exact⟨h.1,by simp,fun a ha b hb=>by rw[mem_singleton.mp hb];exact h1 a ha⟩
 . rcases List.eq_nil_or_concat rest with rfl|⟨r,z,rfl⟩;.obtain⟨e1,e2⟩:=List.append_inj' e rfl;cases e2;subst e1;exact h2
   . rw[List.concat_eq_append]at e;have e':cs++[y]=(cg++x::r)++[z]:=by rw[e];simp
     exact h.2 cg x r (List.append_inj' e' rfl).1
structure Ends(m:Int)(ws:List Wy)(cs:List (List aq×Int))(fs:List Int)(F:Int->Int)(d:Int)(es:List En):Prop where
 fl:fs=flow ws.length cs
 iv:vy m ws cs fs F d
 cm:gB m ws fs es
 no:¬ ∃l o,(m-1,l,o)∈es
 ck:∀x∈cs,Z2 m ws x
 st:Ab m ws cs
inductive FcE(a0 a1 a2 a3 a4 a5 a6:Sl)(ρ:List Sl):Prop where|mk(s:Sl)(q0:ρ=[a0,a1,a2,a3,a4,a5,a6,s])(q1:fr s=true)
inductive JE(m:Int)(ws:List Wy)(M:Nat)(ρ:List Sl):Prop where|mk(cs:List (List aq×Int))(fs:List Int)(es:List En)(F:Int->Int)(d:Int)(s5 s6:Sl)(q0:ρ=[.val false (aR m ws),.val false (.int (m-1)),.own false (fs.map D.int),.own false (cs.map cD),.val false (jT es),s5,s6])(q1:(fr s5=true/\fr s6=true))(q2:fs=flow ws.length cs)(q3:vy m ws cs fs F d)(q4:gB m ws fs es)(q5:(∃P lam seen,GC m ws cs.length fs P lam seen))(q6:cs.length+M=13286050)(q7:(∀x∈cs,Z2 m ws x))(q8:Ab m ws cs)
theorem uZ{w n:Nat}{m:Int}{ws:List Wy}{Q:R->List Sl->Prop}(hw:13286250<=w)(h:HN m ws)(hr:∀v∈ws,0<=v.r)(k:∀cs fs F d es,cs.length<=13286050->Ends m ws cs fs F d es->Q (.own (cs.map cD)) [.val false (aR m ws)]):(run Γ w (n+4) 8 [.val false (aR m ws)]).sat Q:=by
 have hn:=h.len;have m0:=h.m0;have m1:=h.m1;refine aM (d:=f8) rfl rfl (by decide) ?_;symm;simp[f8];refine eY (fun ρ=>ρ=[.val false (aR m ws),.val false (.int (m-1)),.own false ((flow ws.length []).map D.int),.aU,.aU,.aU,.aU]) ?_ ?_;.simp[flow];show _<=16777216;omega
 rintro _ rfl;have hh:∀v∈ws,0<=v.h:=fun v hv=>(h.ok v hv).2.2;obtain⟨b0,I0⟩:∃b,vy m ws [] (flow ws.length []) (F01 b) b:=vy.zero m0 hh hr;symm;simp;apply ak;simp;refine oO (by omega) I0.pt (.inr ⟨true,rfl⟩) h I0.fit.len fun es hes=>?_;simp;apply ak;simp;refine iu (JE m ws) ?_ (k:=w) (m:=13286050) (by omega) ⟨[],flow ws.length [],es,F01 b0,b0,.aU,.aU,rfl,⟨rfl,rfl⟩,rfl,I0,hes,⟨_,_,_,GC.zero hn hh⟩,by simp,by simp,by simp,fun cg x rest e=>by cases cg<;>cases e⟩;rintro M _⟨cs,fs,es,F,d,s5,s6,rfl,⟨h5,h6⟩,hfs,hI,hes,⟨P,lam,seen,hS⟩,hM,hin,hst⟩;have hfl:=hI.fit.len;by_cases hq:∃l o,(m-1,l,o)∈es
 . obtain⟨l,o,hlo⟩:=hq;have kt:pL (es.map en) (m-1)=true:=wI.mpr ⟨l,o,hlo⟩;have hl5:=hes.l5 h hI.pt hlo;simp[kt];apply ak;simp;refine zE (by omega) hes hl5 hlo fun c hc=>?_;simp[h5];apply ak;have hcl:c.length<=5:=by have:=hc.len;omega
   have JF:∀s∈c,∃v g,ws[s.1]?=some v/\fs[s.1]?=some g/\0<lZ v g s.2:=fun s hs=>by obtain⟨v,e,o⟩:=hc.ik s hs;obtain⟨v',g,e1,e2,_,e4⟩:=oK o;exact⟨v',g,e1,e2,e4⟩
   simp[show c.length<=16777216 by omega];refine bI (FcE _ _ _ _ _ _ _) (rmD ws fs) ⟨.aU,rfl,rfl⟩ ?_ ?_;.rintro d hd _⟨s',rfl,hs'⟩;obtain⟨s,hs,rfl⟩:=mem_map.mp hd;obtain⟨v,g,e1,e2,_⟩:=JF s hs;simp[hs',sD];refine qd (.inr ⟨true,rfl⟩) e1 e2 ?_;simp;refine⟨?_,_,rfl,rfl⟩;show D.int (Km ws fs (UT (sD s)))=_;rw[Cw];unfold Km;rw[e1,e2]
   rintro _⟨s',rfl,hs'⟩;have hmap:(c.map sD).map (rmD ws fs)=(c.map (Km ws fs)).map D.int:=by rw[map_map,map_map];rfl
   rw[hmap];have ab4:c≠[]:=by rintro rfl;have:(0:Int)=m-1:=hc.Gk;omega
   obtain⟨x,hx1,hx2,hx3⟩:=Lx (ns:=c.map (Km ws fs)) (by simpa using ab4);obtain⟨s,hs,hsx⟩:=mem_map.mp hx2;obtain⟨v,g,e1,e2,e3⟩:=JF s hs;have hxr:lZ v g s.2=x:=by rw[<-hsx];unfold Km;rw[e1,e2]
   have hx0:0<x:=by omega
   have hle:∀s∈c,∃v g,ws[s.1]?=some v/\fs[s.1]?=some g/\x<=lZ v g s.2:=fun u hu=>by obtain⟨v,g,e1,e2,_⟩:=JF u hu;refine⟨v,g,e1,e2,?_⟩;have:=hx3 _ (mem_map.mpr ⟨u,hu,rfl⟩);unfold Km at this;rw[e1,e2]at this;exact this
   have hlt:∀s∈c,s.1<ws.length:=fun u hu=>by obtain⟨v,g,e1,_⟩:=JF u hu;exact(List.getElem?_eq_some_iff.mp e1).1
   obtain⟨F',hI'⟩:=hI.more hes hlo hc hx0 hle;have hst':Ab m ws (cs++[(c,x)]):=by obtain⟨g1,g2⟩:=hI.ht hes hlo hc;refine hst.snoc (fun y hy=>Int.le_trans (hI.ch y hy).1 g2) ?_;have hI0:=hI;rw[hfs]at hI0 g1 hle;exact⟨⟨_,_,hI0⟩,g1,by rw[<-hfs];exact hc.ik,hle⟩
   have hS':=hS.more h hI.pt hes hlo hc hs e1 e2;rw[hxr]at hS';obtain⟨P',Qy,Gm,hS'⟩:=hS';have hB':=hS'.few hn;generalize c.map (Km ws fs)=ns at*;simp[gk,hx1,h6];apply ak;simp[show cs.length<16777216 by omega];apply ak;simp;refine uU (.inr ⟨true,rfl⟩) (fun u hu=>by rw[hfl];exact hlt u hu) ?_;simp;apply ak;have ab5:aug x fs c=flow ws.length (cs++[(c,x)]):=by rw[ug,<-hfs]
   simp;refine oO (by omega) hI'.pt (.inr ⟨true,rfl⟩) h hI'.fit.len fun es' ab6=>?_;simp;refine⟨M-1,by omega,cs++[(c,x)],aug x fs c,es',F',o.2,.val false (.tup (c.map sD)),.val false (.int x),by simp[cD],⟨rfl,rfl⟩,ab5,hI',ab6,⟨P',Qy,Gm,by rw[length_append];exact hS'⟩,by simp;omega,fun y hy=>?_,hst'⟩;rcases mem_append.mp hy with hy|hy;.exact hin y hy
   . obtain rfl:y=(c,x):=by simpa using hy
     exact⟨hcl,hlt,hc.Gk,hc.nd⟩
 .have kt:pL (es.map en) (m-1)=false:=kin_no hq;simp[kt];apply ak;simp;exact k cs fs F d es (by omega) ⟨hfs,hI,hes,hq,hin,hst⟩
theorem Li{c:Call}{x:Nat}{k d:P}{ρ:List Sl}:ev c (.Ss x k d) ρ=match ρ[x]?with
 |some (.fO _)=>(bW (isVar k) (ev c k) ρ).bind fun kd ρ=>(bW (isVar d) (ev c d) ρ).bind fun dd ρ=>match ρ[x]?with|some (.fO m)=>lift ((m.get kd).bind fun o=>(gh dd).map fun v=>.val (.int (o.getD v))) ρ|_=>.stuck
 |_=>.stuck:=(rfl)
theorem Hc{c:Call}{n x:Nat}{ρ:List Sl}:ex c n (.Ge x false) ρ=match ρ[x]?with|some .aU=>.ok .next (ρ.set x (.fO (.k [])))|_=>.stuck:=(rfl)
theorem HX{c:Call}{n x:Nat}{k e:P}{ρ:List Sl}:ex c n (.dput x k e) ρ=(ev c e ρ).bind fun r ρ=>match ρ[x]?with
 |some (.fO _)=>(bW (isVar k) (ev c k) ρ).bind fun kd ρ=>match ρ[x]?,r with
   |some (.fO m),.val (.int v)=>match m.put kd v with|some m'=>.ok .next (ρ.set x (.fO m'))|none=>.stuck
   |_,_=>.stuck
 |_=>.stuck:=(rfl)
@[simp]theorem QT{x:Nat}{k d:P}:isVar (.Ss x k d)=none:=rfl
@[simp]theorem Vq{kvs:List (Int×Int)}:blt .Ga [.dw (.k kvs)]=if kvs.length<=16777216/\kvs.Pairwise (fun a b=>a.1<b.1)then some (.own (kvs.map eX))else none:=rfl
theorem Oz{kvs:List (Int×Int)}{i:Int}:(Dc.get (.k kvs) (.int i))=some ((kvs.find? fun kv=>decide (kv.1=i)).map (·.2)):=rfl
theorem VF{kvs:List (Int×Int)}{i v:Int}(h:kvs.length<lim):Dc.put (.k kvs) (.int i) v=some (.k (putD kvs i v)):=by show(if _ then _ else _)=_;rw[if_pos h]
noncomputable def hsD(ws:List Wy)(d:D):D:=.int (hst ws (UT d))
theorem xR{ws:List Wy}:∀{c:List aq},(c.map (hst ws)).sum=bM ws c|[]=>rfl|s::c=>by rw[map_cons,sum_cons,xR,bM]
inductive F2s(a b:Sl)(ρ:List Sl):Prop where|mk(s:Sl)(q0:ρ=[a,b,s])(q1:fr s=true)
theorem vR{w n:Nat}{m:Int}{ws:List Wy}{c:List aq}{Q:R->List Sl->Prop}(hc:∀s∈c,s.1<ws.length)(hl:c.length<=1000)(k:Q (.val (.int (bM ws c))) [.val false (aR m ws),.val false (.tup (c.map sD))]):(run Γ w (n+2) 3 [.val false (aR m ws),.val false (.tup (c.map sD))]).sat Q:=by
 refine aM (d:=f3) rfl rfl (by decide) ?_;symm;simp[f3,show c.length<=16777216 by omega];refine bI (F2s _ _) (hsD ws) ⟨.aU,rfl,rfl⟩ ?_ ?_
 . rintro d hd _⟨s',rfl,hs'⟩;obtain⟨s,hs,rfl⟩:=mem_map.mp hd;have hlt:=hc s hs;have e:ws[s.1]?=some ws[s.1]:=by simp[hlt]
   simp[hs',sD];refine qg e ?_;simp;refine⟨?_,_,rfl,rfl⟩;show D.int (hst ws (UT (sD s)))=_;rw[Cw,fX e]
 rintro _⟨s',rfl,hs'⟩;have hmap:(c.map sD).map (hsD ws)=(c.map (hst ws)).map D.int:=by rw[map_map,map_map];rfl
 rw[hmap];have hsum:=xR (ws:=ws) (c:=c);generalize c.map (hst ws)=ns at*;simp[gk,hsum];exact k
noncomputable def gv(kvs:List (Int×Int))(k:Int):Int:=((kvs.find? fun kv=>decide (kv.1=k)).map (·.2)).getD 0
def RP(W:Int->Int->Int):Prop:=∀k a b,W k (a+b)=W k a+W k b
noncomputable def dJ(W:Int->Int->Int):List (Int×Int)->Int|[]=>0|kv::r=>W kv.1 kv.2+dJ W r
theorem yV{W:Int->Int->Int}{b:List (Int×Int)}:∀{a:List (Int×Int)},dJ W (a++b)=dJ W a+dJ W b|[]=>by simp[dJ]|x::a=>by rw[cons_append,dJ,dJ,yV];omega
theorem VD{W:Int->Int->Int}{a b:List (Int×Int)}(h:a.Perm b):dJ W a=dJ W b:=by induction h with|nil=>rfl|cons a _ ih=>rw[dJ,dJ,ih]|swap a b l=>rw[dJ,dJ,dJ,dJ];omega|trans _ _ h1 h2=>rw[h1,h2]
theorem yw{k v:Int}:∀{r:List (Int×Int)},k∉r.map (·.1)->(r.map fun kv=>if kv.1=k then(kv.1,v)else kv)=r|[],_=>rfl|x::r,h=>by rw[map_cons,mem_cons,not_or]at h;rw[map_cons,yw h.2,if_neg (fun z=>h.1 z.symm)]
theorem zj{W:Int->Int->Int}(hW:RP W){k x:Int}:∀{r:List (Int×Int)},(r.map (·.1)).Nodup->k∈r.map (·.1)->dJ W (r.map fun kv=>if kv.1=k then(kv.1,gv r k+x)else kv)=dJ W r+W k x
 |[],_,h=>by cases h|y::r,hn,h=>by
   rw[map_cons,nodup_cons]at hn;by_cases c:y.1=k
   . have hg:gv (y::r) k=y.2:=by unfold gv;rw[find?_cons];simp[c]
     rw[hg,map_cons,if_pos c,yw (by rw[<-c];exact hn.1),dJ,dJ];show W y.1 (y.2+x)+_=_;rw[hW,c];omega
   . have hg:gv (y::r) k=gv r k:=by unfold gv;rw[find?_cons];simp[c]
     have hk:k∈r.map (·.1):=by
      rcases mem_cons.mp h with h|h;.exact absurd h.symm c
      .exact h
     rw[hg,map_cons,if_neg c,dJ,dJ,zj hW hn.2 hk];omega
theorem PL{k:Int}{r:List (Int×Int)}(h:k∉r.map (·.1)):gv r k=0:=by
 unfold gv;rw[List.find?_eq_none.mpr];.rfl
 .intro x hx;simp;intro e;exact h (mem_map.mpr ⟨x,hx,e⟩)
theorem T5{k:Int}{r:List (Int×Int)}(h:∀kv∈r,0<kv.2):0<=gv r k:=by unfold gv;cases e:r.find? fun kv=>decide (kv.1=k)with|none=>simp|some x=>have:=h x (List.mem_of_find?_eq_some e);simp;omega
theorem su{k x:Int}{r:List (Int×Int)}(hn:(r.map (·.1)).Nodup):((putD r k (gv r k+x)).map (·.1)).Nodup/\(putD r k (gv r k+x)).length<=r.length+1/\(∀kv∈putD r k (gv r k+x),kv=(k,gv r k+x)\/kv∈r)/\∀W,RP W->dJ W (putD r k (gv r k+x))=dJ W r+W k x:=by
 have hk:(r.any fun kv=>decide (kv.1=k))=true↔k∈r.map (·.1):=by rw[any_eq_true,mem_map];exact⟨fun⟨y,h1,h2⟩=>⟨y,h1,by simpa using h2⟩,fun⟨y,h1,h2⟩=>⟨y,h1,by simpa using h2⟩⟩
 unfold putD;by_cases c:k∈r.map (·.1)
 . rw[if_pos (hk.mpr c)];have e:(r.map fun kv=>if kv.1=k then(kv.1,gv r k+x)else kv).map (·.1)=r.map (·.1):=by rw[map_map];refine map_congr_left fun y _=>?_;show(if y.1=k then _ else _:Int×Int).1=y.1;split<;>rfl
   refine⟨by rw[e];exact hn,by simp,fun kv hkv=>?_,fun W hW=>zj hW hn c⟩;obtain⟨y,hy,rfl⟩:=mem_map.mp hkv;by_cases z:y.1=k;.rw[if_pos z,z];exact .inl rfl
   .rw[if_neg z];exact .inr hy
 . rw[if_neg fun z=>c (hk.mp z),PL c,Int.zero_add];refine⟨?_,by simp,fun kv hkv=>?_,fun W _=>?_⟩;.rw[map_append,nodup_append];exact⟨hn,by simp,fun a ha b hb e=>c (by
      have:b=k:=by simpa using hb
      rw[<-this,<-e];exact ha)⟩
   . rcases mem_append.mp hkv with hj|hj;.exact .inr hj
     .exact .inl (mem_singleton.mp hj)
   .rw[yV];simp[dJ]
theorem Mu{k v:Int}{r:List (Int×Int)}(h:r.Pairwise (fun a b=>a.1<b.1))(hk:∀kv∈r,kv.1<=k):(putD r k v).Pairwise (fun a b=>a.1<b.1):=by
 unfold putD;split;.rw[pairwise_map];refine h.imp fun{a b}hab=>?_;split<;>split<;>exact hab
 .rename_i hn;rw[List.pairwise_append];refine⟨h,by simp,fun a ha b hb=>?_⟩;have h1:=hk a ha;have h2:a.1≠k:=fun z=>hn (any_eq_true.mpr ⟨a,ha,by simpa using z⟩);rw[mem_singleton.mp hb];show a.1<k;omega
noncomputable def Br:D->Int×Int|.tup [.int a,.int b]=>(a,b)|_=>(0,0)
@[simp]theorem acx{a b:Int}:Br (.tup [.int a,.int b])=(a,b):=rfl
structure Hu(ws:List Wy)(cs:List (List aq×Int))(kvs:List (Int×Int)):Prop where
 nd:(kvs.map (·.1)).Nodup
 len:kvs.length<=cs.length
 nn:∀kv∈kvs,1<=kv.1/\0<kv.2
 key:∀kv∈kvs,∃x∈cs,kv.1=bM ws x.1
 so:kvs.Pairwise (fun a b=>a.1<b.1)sm:∀W,RP W->dJ W kvs=cP (fun x=>W (bM ws x.1) x.2) cs
theorem Hu.put{ws:List Wy}{cs:List (List aq×Int)}{kvs:List (Int×Int)}(h:Hu ws cs kvs){x:List aq×Int}(h0:1<=bM ws x.1)(h1:0<x.2)(hx:∀y∈cs,bM ws y.1<=bM ws x.1):Hu ws (cs++[x]) (putD kvs (bM ws x.1) (gv kvs (bM ws x.1)+x.2)):=by
 obtain⟨p1,p2,p3,p4⟩:=su (k:=bM ws x.1) (x:=x.2) h.nd;have hl:=h.len;refine⟨p1,by simp;omega,fun kv hkv=>?_,fun kv hkv=>?_,Mu h.so fun kv hkv=>?_,fun W hW=>?_⟩
 . rcases p3 kv hkv with e|e;.have:=T5 (k:=bM ws x.1) fun kv hkv=>(h.nn kv hkv).2;rw[e];exact⟨h0,by show 0<_+_;omega⟩
   .exact h.nn kv e
 . rcases p3 kv hkv with e|e;.exact⟨x,by simp,by rw[e]⟩
   .obtain⟨y,hy,e⟩:=h.key kv e;exact⟨y,by simp[hy],e⟩
 .obtain⟨y,hy,e⟩:=h.key kv hkv;rw[e];exact hx y hy
 .rw[p4 W hW,h.sm W hW,kh]
theorem BX{ws:List Wy}{b:Int}(h0:∀v∈ws,0<=v.h)(hh:∀v∈ws,v.h<=1000000):∀{c:List aq}{a:Int},il ws b c a->bM ws c<=1000000*(c.length:Int)
 |[],_,_=>by simp[bM]|s::c,a,⟨v,e,_,hp⟩=>by
   have h1:=BX h0 hh hp;have h2:=hh v (mem_of_getElem? e);have h3:=h0 v (mem_of_getElem? e);have h4:hst ws s<=1000000:=by rw[fX e];unfold hsp;split<;>omega
   rw[bM,length_cons];omega
theorem Hu.few{m:Int}{ws:List Wy}{cs:List (List aq×Int)}{kvs:List (Int×Int)}(h:Hu ws cs kvs)(hk:∀x∈cs,Z2 m ws x)(hl:ws.length<=12):kvs.length<=531441:=by
 have h1:=j7 (l2:=(pU ws.length).map fun e=>jo ws e/7) h.nd fun k hk'=>by obtain⟨kv,hkv,rfl⟩:=mem_map.mp hk';obtain⟨x,hx,e⟩:=h.key kv hkv;obtain⟨c1,c2,c3,c4⟩:=hk x hx;refine mem_map.mpr ⟨An ws.length x.1,by have:=pg (e:=An ws.length x.1);rwa[rH]at this,?_⟩;rw[rT c3 c4,e];unfold vq;omega
 rw[length_map,length_map,pq]at h1;have h2:3^ws.length<=3^12:=Nat.pow_le_pow_right (by decide) hl;have h3:(3:Nat)^12=531441:=by decide
 omega
inductive JBn(m:Int)(ws:List Wy)(cs:List (List aq×Int))(r:List D)(ρ:List Sl):Prop where|mk(cg us:List (List aq×Int))(kvs:List (Int×Int))(s2 s3 s4:Sl)(q0:ρ=[.val false (aR m ws),.fO (.k kvs),s2,s3,s4])(q1:A3 (fr s2=true) (fr s3=true) (fr s4=true))(q2:r=us.map cD)(q3:cg++us=cs)(q4:Hu ws cg kvs)
theorem iV{w n:Nat}{m:Int}{ws:List Wy}{Q:R->List Sl->Prop}(hw:13286250<=w)(h:dz m ws)(k:∀cs fs F d es kvs,kvs.length<=531441->Ends m ws cs fs F d es->Hu ws cs kvs->kvs.Pairwise (fun a b=>a.1<b.1)->(∀kv∈kvs,kv.1<=5000000)->Q (.own (kvs.map eX)) [.val false (aR m ws)]):(run Γ w (n+5) 10 [.val false (aR m ws)]).sat Q:=by
 refine aM (d:=Xx) rfl rfl (by decide) ?_;symm;simp[Xx,Hc];apply ak;simp;refine uZ hw (HN.of h) (fun v hv=>(h.ok v hv).r0) fun cs fs F d es hl hE=>?_;simp;refine bF (JBn m ws cs) ?_ ?_ ⟨[],cs,[],.aU,.aU,.aU,rfl,⟨rfl,rfl,rfl⟩,rfl,rfl,⟨by simp,by simp,by simp,by simp,by simp,fun W _=>rfl⟩⟩;.rintro d r _⟨cg,us,kvs,s2,s3,s4,rfl,⟨h2,h3,h4⟩,hr,hd,hb⟩;cases us with|nil=>cases hr|cons u us=>
     obtain⟨rfl,rfl⟩:d=cD u/\r=us.map cD:=by simpa using hr
     have hu:u∈cs:=by rw[<-hd];simp
     have hck:=hE.ck u hu;have hdl:cg.length<=cs.length:=by rw[<-hd];simp
     have hkl:=hb.len;have hd2:(cg++[u])++us=cs:=by rw[append_assoc];exact hd
     simp[cD,h2,h3];apply ak;simp;refine vR hck.2.1 (by have:=hck.1;omega) ?_;simp[h4];apply ak;simp[HX,Li,Oz];rw[VF (by show _<16777216;omega)];simp;refine⟨cg++[u],us,_,_,_,_,rfl,⟨rfl,rfl,rfl⟩,rfl,hd2,hb.put ((hE.iv.nn fun v hv=>(h.ok v hv).h0).2 u hu) (hE.iv.ch u hu).2.1 fun y hy=>?_⟩;have hst:=hE.st.1;rw[<-hd,List.pairwise_append]at hst;exact hst.2.2 y hy u (by simp)
 . rintro _⟨cg,us,kvs,s2,s3,s4,rfl,⟨h2,h3,h4⟩,hr,hd,hb⟩;have:us=[]:=by cases us with|nil=>rfl|cons _ _=>cases hr
   subst this;rw[append_nil]at hd;subst hd;have hkl:=hb.len;simp;apply ak;simp[show kvs.length<=16777216 by omega,hb.so];refine k cg fs F d es kvs (hb.few hE.ck (HN.of h).len) hE hb hb.so fun kv hkv=>?_;obtain⟨x,hx,e⟩:=hb.key kv hkv;have h1:=BX (fun v hv=>((HN.of h).ok v hv).2.2) (fun v hv=>(h.ok v hv).h1) (hE.ck x hx).2.2.1;have h2:=(hE.ck x hx).1;rw[e];omega
noncomputable def vt(T k v:Int):Int:=if k<=T then v*(T-k+1)else 0
noncomputable def gt(T k v:Int):Int:=if k<=T then v else 0
theorem Ds{T:Int}:RP (vt T):=fun k a b=>by
 unfold vt;split;.exact Int.add_mul ..
 .rfl
theorem DY{T:Int}:RP (gt T):=fun k a b=>by unfold gt;split<;>rfl
theorem Ob:RP fun _ v=>v:=fun _ _ _=>rfl
def bQ(m:Int)(ws:List Wy)(cs:List (List aq×Int)):Prop:=(∀v∈ws,1<=v.h)/\∃fs F d es,Ends m ws cs fs F d es
noncomputable def Rt(ws:List Wy)(cs:List (List aq×Int))(T:Int):Int:=cP (fun x=>gt T (bM ws x.1) x.2) cs
noncomputable def qI(cs:List (List aq×Int)):Int:=cP (fun x=>x.2) cs
theorem mj.uniq{m T v v':Int}{ws:List Wy}(h:mj m ws T v)(h':mj m ws T v'):v=v':=by obtain⟨q,q0,q1,q2⟩:=h.ex;obtain⟨r,r0,r1,r2⟩:=h'.ex;have:=h.le r r0 r1;have:=h'.le q q0 q1;omega
theorem bQ.least{m:Int}{ws:List Wy}{cs:List (List aq×Int)}(h:bQ m ws cs){T:Int}(h0:0<=T):mj m ws T (val ws T cs):=by obtain⟨h1h,fs,F,d,es,hE⟩:=h;exact hE.iv.least hE.cm hE.no h0
theorem tU{H K:List aq×Int->Int}:∀{cs:List (List aq×Int)},cP (fun x=>H x-K x) cs=cP H cs-cP K cs|[]=>rfl|x::cs=>by rw[cP,cP,cP,tU];omega
theorem rB{H K:List aq×Int->Int}:∀{cs:List (List aq×Int)},(∀x∈cs,H x<=K x)->cP H cs<=cP K cs|[],_=>Int.le_refl _|x::cs,h=>by have h1:=h x (by simp);have h2:=rB (H:=H) (K:=K) (cs:=cs) fun y hy=>h y (by simp[hy]);rw[cP,cP];omega
theorem vM{T:Int}{ws:List Wy}{cs:List (List aq×Int)}:Rt ws cs T=val ws T cs-val ws (T-1) cs:=by
 unfold Rt val;rw[<-tU];refine jd fun x _=>?_;show gt T (bM ws x.1) x.2=vt T (bM ws x.1) x.2-vt (T-1) (bM ws x.1) x.2;unfold gt vt;by_cases c:bM ws x.1<=T-1;.rw[if_pos (by omega),if_pos (by omega),if_pos c,<-Int.mul_sub,show T-bM ws x.1+1-(T-1-bM ws x.1+1)=1 by omega,mul_one]
 . by_cases c2:bM ws x.1<=T;.rw[if_pos c2,if_pos c2,if_neg c,show T-bM ws x.1+1=1 by omega,mul_one];omega
   .rw[if_neg c2,if_neg c2,if_neg c];rfl
theorem bQ.nn{m:Int}{ws:List Wy}{cs:List (List aq×Int)}(h:bQ m ws cs):∀x∈cs,1<=bM ws x.1/\0<x.2:=by obtain⟨h1h,fs,F,d,es,hE⟩:=h;exact fun x hx=>⟨(hE.iv.nn h1h).2 x hx,(hE.iv.ch x hx).2.1⟩
theorem bQ.cu{m:Int}{ws:List Wy}{cs:List (List aq×Int)}(h:bQ m ws cs){T:Int}(h0:T<=0):val ws T cs=0:=by
 have:val ws T cs=cP (fun _=>0) cs:=jd fun x hx=>by have:=(h.nn x hx).1;show vt T (bM ws x.1) x.2=0;unfold vt;rw[if_neg (by omega)]
 rw[this];clear this h;induction cs with|nil=>rfl|cons x cs ih=>rw[cP,ih];rfl
theorem bQ.val_eq{m:Int}{ws:List Wy}{cs cs':List (List aq×Int)}(h:bQ m ws cs)(h':bQ m ws cs')(T:Int):val ws T cs=val ws T cs':=by
 by_cases c:0<=T;.exact(h.least c).uniq (h'.least c)
 .rw[h.cu (by omega),h'.cu (by omega)]
theorem bQ.JT{m:Int}{ws:List Wy}{cs cs':List (List aq×Int)}(h:bQ m ws cs)(h':bQ m ws cs')(T:Int):Rt ws cs T=Rt ws cs' T:=by rw[vM,vM,h.val_eq h',h.val_eq h']
theorem bQ.mono{m:Int}{ws:List Wy}{cs:List (List aq×Int)}(h:bQ m ws cs){T U:Int}(hT:T<=U):Rt ws cs T<=Rt ws cs U:=rB fun x hx=>by have:=(h.nn x hx).2;unfold gt;split<;>split<;>omega
theorem bQ.Kq{m:Int}{ws:List Wy}{cs:List (List aq×Int)}(h:bQ m ws cs){T:Int}:Rt ws cs T<=qI cs:=rB fun x hx=>by have:=(h.nn x hx).2;unfold gt;split<;>omega
theorem bQ.KY{m:Int}{ws:List Wy}{cs:List (List aq×Int)}(h:bQ m ws cs){T:Int}:0<=Rt ws cs T:=by
 have h1:=h.mono (T:=min T 0) (U:=T) (by omega);have:Rt ws cs (min T 0)=0:=by rw[vM,h.cu (by omega),h.cu (by omega)];rfl
 omega
noncomputable def Ww(T:Int)(d:D):Option D:=if(Br d).1<=T then some (.int ((Br d).2*(T-(Br d).1+1)))else none
theorem Cr{T:Int}:∀(kvs:List (Int×Int)),∃ns:List Int,(kvs.map eX).filterMap (Ww T)=ns.map D.int/\ns.sum=dJ (vt T) kvs
 |[]=>⟨[],rfl,rfl⟩|kv::r=>by
   obtain⟨ns,h1,h2⟩:=Cr (T:=T) r;have e:Ww T (eX kv)=if kv.1<=T then some (.int (kv.2*(T-kv.1+1)))else none:=rfl;rw[map_cons,filterMap_cons,h1,dJ,<-h2,e];unfold vt;by_cases c:kv.1<=T;.rw[if_pos c,if_pos c];exact⟨_::ns,rfl,by rw[sum_cons]⟩
   .rw[if_neg c,if_neg c];exact⟨ns,rfl,by omega⟩
inductive F2t(a b:Sl)(ρ:List Sl):Prop where|mk(s:Sl)(t:Sl)(q0:ρ=[a,b,s,t])(q1:fr s=true)(q2:fr t=true)
theorem wU{w n:Nat}{T:Int}{kvs:List (Int×Int)}{s:Sl}{Q:R->List Sl->Prop}(hs:s=.own false (kvs.map eX)\/s=.val false (.lst (kvs.map eX)))(hl:kvs.length<=16000000)(h0:∀kv∈kvs,1<=kv.1/\0<kv.2)(hT:T<=1000000000000000000)(k:Q (.val (.int (dJ (vt T) kvs))) [s,.val false (.int T)]):(run Γ w (n+1) 17 [s,.val false (.int T)]).sat Q:=by refine aM (d:=Wr) rfl rfl (by decide) ?_;symm;rcases hs with rfl|rfl;all_goals
  simp[Wr,show kvs.length<=16777216 by omega];refine jg (F2t _ _) (Ww T) ⟨.aU,.aU,rfl,rfl,rfl⟩ ?_ ?_
  . rintro d hd _⟨s,t,rfl,hs,ht⟩;obtain⟨kv,hkv,rfl⟩:=mem_map.mp hd;have:=(h0 kv hkv).1;have e:Ww T (eX kv)=if kv.1<=T then some (.int (kv.2*(T-kv.1+1)))else none:=rfl;by_cases c:kv.1<=T
    . rw[if_pos c]at e;have hm:iI (.int kv.2) (.int (T-kv.1+1))=some (.val (.int (kv.2*(T-kv.1+1)))):=by show(if _ then _ else _)=_;rw[if_pos];right;omega
      rw[e];simp[hs,ht,eX,c,hm];exact⟨_,_,rfl,rfl,rfl⟩
    .rw[if_neg c]at e;rw[e];simp[hs,ht,eX,c];exact⟨_,_,rfl,rfl,rfl⟩
  .rintro _⟨s,t,rfl,hs,ht⟩;obtain⟨ns,h1,h2⟩:=Cr (T:=T) kvs;rw[h1];simp[gk,h2];exact k
theorem wR{w n:Nat}{m T:Int}{ws:List Wy}{Q:R->List Sl->Prop}(hw:13286250<=w)(h:dz m ws)(hT:T<=1000000000000000000)(k:∀cs,bQ m ws cs->Q (.val (.int (val ws T cs))) [.val false (aR m ws),.val false (.int T)]):(run Γ w (n+6) 18 [.val false (aR m ws),.val false (.int T)]).sat Q:=by refine aM (d:=Xh) rfl rfl (by decide) ?_;symm;simp[Xh];refine iV hw h fun cs fs F d es kvs hl hE hb _ _=>?_;simp;refine wU (.inl rfl) (by omega) hb.nn hT ?_;simp;rw[hb.sm _ Ds];exact k cs ⟨fun v hv=>(h.ok v hv).h0,fs,F,d,es,hE⟩
noncomputable def Xe(T:Int)(d:D):Option D:=if(Br d).1<=T then some d else none
noncomputable def pO(T:Int)(kvs:List (Int×Int)):List (Int×Int):=kvs.filter fun kv=>decide (kv.1<=T)
theorem Ff{T:Int}:∀{kvs:List (Int×Int)},(kvs.map eX).filterMap (Xe T)=(pO T kvs).map eX
 |[]=>rfl|kv::r=>by
   have e:Xe T (eX kv)=if kv.1<=T then some (eX kv)else none:=rfl;rw[map_cons,filterMap_cons,Ff,e];unfold pO;rw[List.filter_cons];by_cases c:kv.1<=T;.rw[if_pos c,if_pos (by simpa using c)];rfl
   .rw[if_neg c,if_neg (by simpa using c)]
theorem yd{T:Int}:∀{kvs:List (Int×Int)},((pO T kvs).map (·.2)).sum=dJ (gt T) kvs
 |[]=>rfl|kv::r=>by
   have ih:=yd (T:=T) (kvs:=r);unfold pO at ih ⊢;rw[List.filter_cons,dJ];unfold gt at*;by_cases c:kv.1<=T;.rw[if_pos (by simpa using c),if_pos c,map_cons,sum_cons,ih]
   .rw[if_neg (by simpa using c),if_neg c,ih];omega
theorem uJ{w n:Nat}{m T:Int}{ws:List Wy}{Q:R->List Sl->Prop}(hw:13286250<=w)(h:dz m ws)(k:∀cs kvs,kvs.length<=531441->bQ m ws cs->Hu ws cs kvs->Q (.own ((pO T kvs).map eX)) [.val false (aR m ws),.val false (.int T)]):(run Γ w (n+6) 16 [.val false (aR m ws),.val false (.int T)]).sat Q:=by
 refine aM (d:=Yh) rfl rfl (by decide) ?_;symm;simp[Yh];refine iV hw h fun cs fs F d es kvs hl hE hb _ _=>?_;simp[show kvs.length<=16777216 by omega];refine jg (F2s _ _) (Xe T) ⟨.aU,rfl,rfl⟩ ?_ ?_
 . rintro d hd _⟨s,rfl,hs⟩;obtain⟨kv,hkv,rfl⟩:=mem_map.mp hd;have e:Xe T (eX kv)=if kv.1<=T then some (eX kv)else none:=rfl;by_cases c:kv.1<=T;.rw[if_pos c]at e;rw[e];simp[hs,eX,c];exact⟨_,rfl,rfl⟩
   .rw[if_neg c]at e;rw[e];simp[hs,eX,c];exact⟨_,rfl,rfl⟩
 .rintro _⟨s,rfl,hs⟩;rw[Ff];simp;exact k cs kvs hl ⟨fun v hv=>(h.ok v hv).h0,fs,F,d,es,hE⟩ hb
noncomputable def Nv(d:D):D:=.int (Br d).2
noncomputable def fstD(d:D):D:=.int (Br d).1
theorem wW{w n:Nat}{m T:Int}{ws:List Wy}{Q:R->List Sl->Prop}(hw:13286250<=w)(h:dz m ws)(k:∀cs,bQ m ws cs->Q (.val (.int (Rt ws cs T))) [.val false (aR m ws),.val false (.int T)]):(run Γ w (n+7) 19 [.val false (aR m ws),.val false (.int T)]).sat Q:=by
 refine aM (d:=Yb) rfl rfl (by decide) ?_;symm;simp[Yb];refine uJ hw h fun cs kvs hl hE hb=>?_;have hcl:(pO T kvs).length<=16777216:=by have:=List.length_filter_le (fun kv:Int×Int=>decide (kv.1<=T)) kvs;unfold pO;omega
 simp[hcl];refine bI (F2t _ _) Nv ⟨.aU,.aU,rfl,rfl,rfl⟩ ?_ ?_;.rintro d hd _⟨s,t,rfl,hs,ht⟩;obtain⟨kv,hkv,rfl⟩:=mem_map.mp hd;simp[hs,ht,eX,Nv];exact⟨_,_,rfl,rfl,rfl⟩
 . rintro _⟨s,t,rfl,hs,ht⟩;have e:((pO T kvs).map eX).map Nv=((pO T kvs).map (·.2)).map D.int:=by rw[map_map,map_map];rfl
   rw[e];have e2:=yd (T:=T) (kvs:=kvs);rw[hb.sm _ DY]at e2;generalize(pO T kvs).map (·.2)=ns at*;simp[gk,e2];exact k cs hE
theorem uQ{w n:Nat}{m T:Int}{ws:List Wy}{Q:R->List Sl->Prop}(hw:13286250<=w)(h:dz m ws)(k:∀cs,bQ m ws cs->Q (.val (.int (Rt ws cs T))) [.val false (aR m ws),.val false (.int T)]):(run Γ w (n+8) 22 [.val false (aR m ws),.val false (.int T)]).sat Q:=by refine aM (d:=Wo) rfl rfl (by decide) ?_;symm;simp[Wo];refine wW hw h fun cs hE=>?_;simp;exact k cs hE
theorem Qn{ns:List Int}(h:ns≠[]):∃i,ns.max?=some i/\i∈ns/\∀j∈ns,j<=i:=by cases e:ns.max? with|none=>rw[List.max?_eq_none_iff]at e;exact absurd e h|some i=>have:=List.max?_eq_some_iff.mp e;exact⟨i,rfl,this.1,this.2⟩
noncomputable def tk:List (Int×Int)->Int->List (Int×Int)|[],_=>[]|kv::r,q=>(kv.1,min q kv.2)::tk r (q-min q kv.2)
noncomputable def J1:List (Int×Int)->Int->Int|[],q=>q|kv::r,q=>J1 r (q-min q kv.2)
noncomputable def lh:List (Int×Int)->Int->Int|[],_=>0|kv::r,q=>kv.1*min q kv.2+lh r (q-min q kv.2)
noncomputable def vs:List (Int×Int)->Int|[]=>0|kv::r=>kv.2+vs r
theorem yU:∀{l:List (Int×Int)},(∀kv∈l,1<=kv.1/\0<kv.2)->0<=vs l|[],_=>Int.le_refl _|kv::r,h=>by have h1:=h kv (by simp);have h2:=yU (l:=r) fun x hx=>h x (by simp[hx]);rw[vs];omega
theorem JV:∀{l:List (Int×Int)}{q:Int},(∀kv∈l,1<=kv.1/\0<kv.2)->0<=q->q<=vs l->J1 l q=0|[],q,_,h0,h1=>by rw[vs]at h1;rw[J1];omega|kv::r,q,h,h0,h1=>by have hk:=h kv (by simp);have hr:∀x∈r,1<=x.1/\0<x.2:=fun x hx=>h x (by simp[hx]);have hv:=yU hr;rw[vs]at h1;rw[J1];exact JV hr (by omega) (by omega)
theorem zU:∀{l:List (Int×Int)},(∀kv∈l,1<=kv.1/\0<kv.2)->lh l 0=0|[],_=>rfl|kv::r,h=>by have hk:=h kv (by simp);rw[lh,show min 0 kv.2=0 by omega,mul_zero,sub_zero,zU fun x hx=>h x (by simp[hx])];rfl
theorem Cq{T:Int}:∀{l:List (Int×Int)}{q:Int},(∀kv∈l,1<=kv.1/\0<kv.2)->0<=q->q<=vs l->(T+1)*q-dJ (vt T) l<=lh l q
 |[],q,_,h0,h1=>by
   rw[vs]at h1;have:q=0:=by omega
   subst this;simp[dJ,lh]|kv::r,q,h,h0,h1=>by
   have hk:=h kv (by simp);have hr:∀x∈r,1<=x.1/\0<x.2:=fun x hx=>h x (by simp[hx]);have hv:=yU hr;rw[vs]at h1;have ih:=Cq (T:=T) (l:=r) (q:=q-min q kv.2) hr (by omega) (by omega);rw[dJ,lh];have e1:(T+1)*q=(T+1)*min q kv.2+(T+1)*(q-min q kv.2):=by rw[<-mul_add];congr 1;omega
   have e2:(T+1)*min q kv.2-vt T kv.1 kv.2<=kv.1*min q kv.2:=by
    unfold vt;by_cases c:kv.1<=T
    . rw[if_pos c];have h2:min q kv.2*(T-kv.1+1)<=kv.2*(T-kv.1+1):=Int.mul_le_mul_of_nonneg_right (by omega) (by omega);have h3:(T+1)*min q kv.2=kv.1*min q kv.2+min q kv.2*(T-kv.1+1):=by rw[mul_comm (min q kv.2),<-Int.add_mul];congr 1;omega
      omega
    .rw[if_neg c];have h2:(T+1)*min q kv.2<=kv.1*min q kv.2:=Int.mul_le_mul_of_nonneg_right (by omega) (by omega);omega
   omega
theorem yq{W:Int->Int->Int}:∀{l:List (Int×Int)},(∀kv∈l,W kv.1 kv.2=0)->dJ W l=0|[],_=>rfl|kv::r,h=>by rw[dJ,h kv (by simp),yq fun x hx=>h x (by simp[hx])];rfl
theorem Dg:∀{l:List (Int×Int)}{q:Int},(∀kv∈l,1<=kv.1/\0<kv.2)->l.Pairwise (fun a b=>a.1<b.1)->0<q->q<=vs l->∃kv∈l,kv.1*q-dJ (vt (kv.1-1)) l=lh l q
 |[],q,_,_,h0,h1=>by rw[vs]at h1;omega|kv::r,q,h,hp,h0,h1=>by
   have hk:=h kv (by simp);have hr:∀x∈r,1<=x.1/\0<x.2:=fun x hx=>h x (by simp[hx]);have hp:=pairwise_cons.mp hp;rw[vs]at h1;by_cases c:q<=kv.2;.refine⟨kv,by simp,?_⟩;rw[lh,show min q kv.2=q by omega,Int.sub_self,zU hr,dJ,yq fun x hx=>by have:=hp.1 x hx;unfold vt;rw[if_neg (by omega)]];unfold vt;rw[if_neg (by omega)];omega
   . obtain⟨x,hx,e⟩:=Dg (l:=r) (q:=q-kv.2) hr hp.2 (by omega) (by omega);have hlt:=hp.1 x hx;refine⟨x,by simp[hx],?_⟩;rw[lh,show min q kv.2=kv.2 by omega,<-e,dJ];have e1:vt (x.1-1) kv.1 kv.2=kv.2*x.1-kv.2*kv.1:=by unfold vt;rw[if_pos (by omega),<-Int.mul_sub];congr 1;omega
     rw[e1,Int.mul_sub,mul_comm x.1 kv.2,mul_comm kv.1 kv.2];omega
theorem zp{T:Int}:∀{l:List (Int×Int)},(∀kv∈l,1<=kv.1/\0<kv.2)->l.Pairwise (fun a b=>a.1<b.1)->(T+1)*dJ (gt T) l-lh l (dJ (gt T) l)=dJ (vt T) l/\0<=dJ (gt T) l
 |[],_,_=>by simp[dJ,lh]|kv::r,h,hp=>by
   have hk:=h kv (by simp);have hr:∀x∈r,1<=x.1/\0<x.2:=fun x hx=>h x (by simp[hx]);have hp:=pairwise_cons.mp hp;obtain⟨ih,ih0⟩:=zp (T:=T) hr hp.2;by_cases c:kv.1<=T
   . have e1:dJ (gt T) (kv::r)=kv.2+dJ (gt T) r:=by rw[dJ];unfold gt;rw[if_pos c]
     have e2:dJ (vt T) (kv::r)=kv.2*(T-kv.1+1)+dJ (vt T) r:=by rw[dJ];unfold vt;rw[if_pos c]
     rw[e1,e2,lh,show min (kv.2+dJ (gt T) r) kv.2=kv.2 by omega,show kv.2+dJ (gt T) r-kv.2=dJ (gt T) r by omega,mul_add];have e3:kv.2*(T-kv.1+1)=(T+1)*kv.2-kv.1*kv.2:=by rw[mul_comm kv.2,<-Int.sub_mul];congr 1;omega
     exact⟨by omega,by omega⟩
   . have z1:∀x∈kv::r,gt T x.1 x.2=0/\vt T x.1 x.2=0:=fun x hx=>by
      have:¬ x.1<=T:=by
       rcases mem_cons.mp hx with rfl|hx;.exact c
       .have:=hp.1 x hx;omega
      unfold gt vt;rw[if_neg this,if_neg this];exact⟨rfl,rfl⟩
     rw[yq fun x hx=>(z1 x hx).1,yq fun x hx=>(z1 x hx).2,zU h];simp
theorem Bw:∀{l:List (Int×Int)},dJ (fun _ v=>v) l=vs l|[]=>rfl|kv::r=>by rw[dJ,vs,Bw]
inductive JCu(a0 a1:Sl)(N:Nat)(out:List (Int×Int))(z:Int)(r:List D)(ρ:List Sl):Prop where|mk(us cg:List (Int×Int))(q:Int)(s4 s5 s6:Sl)(q0:ρ=[a0,a1,.own false (cg.map eX),.val false (.int q),s4,s5,s6])(q1:A3 (fr s4=true) (fr s5=true) (fr s6=true))(q2:r=us.map eX)(q3:cg++tk us q=out)(q4:J1 us q=z)(q5:cg.length+us.length=N)
theorem Av{w n:Nat}{q:Int}{kvs:List (Int×Int)}{Q:R->List Sl->Prop}(hl:kvs.length<=16000000)(hz:J1 kvs q=0)(k:Q (.own ((tk kvs q).map eX)) [.own false (kvs.map eX),.val false (.int q)]):(run Γ w (n+1) 9 [.own false (kvs.map eX),.val false (.int q)]).sat Q:=by
 refine aM (d:=f9) rfl rfl (by decide) ?_;symm;simp[f9];apply ak;simp;apply ak;simp;refine bF (JCu _ _ kvs.length (tk kvs q) 0) ?_ ?_ ⟨kvs,[],q,.aU,.aU,.aU,rfl,⟨rfl,rfl,rfl⟩,rfl,rfl,hz,by simp⟩;.rintro d r _⟨us,cg,q,s4,s5,s6,rfl,⟨h4,h5,h6⟩,hr,ho,hz,hN⟩;cases us with|nil=>cases hr|cons u us=>
     obtain⟨rfl,rfl⟩:d=eX u/\r=us.map eX:=by simpa using hr
     rw[tk]at ho;rw[J1]at hz;rw[length_cons]at hN;simp[eX,h4,h5];apply ak;simp[h6];apply ak;simp[show cg.length<16777216 by omega];apply ak;simp;have em:(if u.2<q then u.2 else q)=min q u.2:=by split<;>omega
     rw[em];exact⟨us,cg++[(u.1,min q u.2)],q-min q u.2,.val false (.int u.1),.val false (.int u.2),.val false (.int (min q u.2)),by rw[map_append];rfl,⟨rfl,rfl,rfl⟩,rfl,by rw[append_assoc];exact ho,hz,by simp;omega⟩
 . rintro _⟨us,cg,q,s4,s5,s6,rfl,⟨h4,h5,h6⟩,hr,ho,hz,hN⟩;have:us=[]:=by cases us with|nil=>rfl|cons _ _=>cases hr
   subst this;rw[tk,append_nil]at ho;rw[J1]at hz;subst ho;subst hz;simp;apply ak;simp;apply ak;simp;exact k
theorem CQ:∀{l:List (Int×Int)}{q:Int},(tk l q).length=l.length|[],_=>rfl|kv::r,q=>by rw[tk,length_cons,CQ,length_cons]
theorem BV:∀{l:List (Int×Int)}{q:Int}{x:Int×Int},x∈tk l q->∃kv∈l,x.1=kv.1
 |[],_,_,h=>by cases h|kv::r,q,x,h=>by
   rw[tk,mem_cons]at h;rcases h with rfl|h;.exact⟨kv,by simp,rfl⟩
   .obtain⟨y,hy,e⟩:=BV h;exact⟨y,by simp[hy],e⟩
theorem Eg:∀{l:List (Int×Int)}{q:Int},((tk l q).map fun x=>x.1*x.2).sum=lh l q|[],_=>rfl|kv::r,q=>by rw[tk,lh,map_cons,sum_cons,Eg]
noncomputable def mlD(d:D):D:=.int ((Br d).1*(Br d).2)
structure zK(m:Int)(ws:List Wy)(cs:List (List aq×Int))(kvs:List (Int×Int)):Prop where
 e:bQ m ws cs
 b:Hu ws cs kvs
 so:kvs.Pairwise (fun a b=>a.1<b.1)le:∀kv∈kvs,kv.1<=5000000
 len:kvs.length<=531441
theorem zK.vs{m:Int}{ws:List Wy}{cs:List (List aq×Int)}{kvs:List (Int×Int)}(h:zK m ws cs kvs):T.vs kvs=qI cs:=by rw[<-Bw];exact h.b.sm _ Ob
theorem zK.vt{m:Int}{ws:List Wy}{cs:List (List aq×Int)}{kvs:List (Int×Int)}(h:zK m ws cs kvs)(U:Int):dJ (T.vt U) kvs=val ws U cs:=h.b.sm _ Ds
theorem zK.gt{m:Int}{ws:List Wy}{cs:List (List aq×Int)}{kvs:List (Int×Int)}(h:zK m ws cs kvs)(U:Int):dJ (T.gt U) kvs=Rt ws cs U:=h.b.sm _ DY
theorem zK.KJ{m q:Int}{ws:List Wy}{cs cs':List (List aq×Int)}{kvs kvs':List (Int×Int)}(h:zK m ws cs kvs)(h':zK m ws cs' kvs')(q0:0<=q)(q1:q<=qI cs)(q2:q<=qI cs'):lh kvs q<=lh kvs' q:=by
 by_cases c:q=0;.subst c;rw[zU h.b.nn,zU h'.b.nn];exact Int.le_refl _
 .obtain⟨kv,_,e⟩:=Dg (q:=q) h.b.nn h.so (by omega) (by rw[h.vs];exact q1);have:=Cq (T:=kv.1-1) (q:=q) h'.b.nn q0 (by rw[h'.vs];exact q2);rw[h'.vt,h'.e.val_eq h.e,<-h.vt,show kv.1-1+1=kv.1 by omega]at this;omega
theorem oG{w n:Nat}{m q:Int}{ws:List Wy}{Q:R->List Sl->Prop}(hw:13286250<=w)(h:dz m ws)(q0:0<=q)(q1:∀cs,bQ m ws cs->q<=qI cs)(k:∀cs kvs,zK m ws cs kvs->Q (.val (.int (lh kvs q))) [.val false (aR m ws),.val false (.int q)]):(run Γ w (n+6) 11 [.val false (aR m ws),.val false (.int q)]).sat Q:=by
 refine aM (d:=f11) rfl rfl (by decide) ?_;symm;simp[f11];refine iV hw h fun cs fs F d es kvs hl hE hb hso hle=>?_;have hB:zK m ws cs kvs:=⟨⟨fun v hv=>(h.ok v hv).h0,fs,F,d,es,hE⟩,hb,hso,hle,hl⟩;simp;refine Av (by omega) (JV hb.nn q0 (by rw[hB.vs];exact q1 cs hB.e)) ?_;simp[CQ,show kvs.length<=16777216 by omega];refine bI (F2t _ _) mlD ⟨.aU,.aU,rfl,rfl,rfl⟩ ?_ ?_
 . rintro d hd _⟨s,t,rfl,hs,ht⟩;obtain⟨x,hx,rfl⟩:=mem_map.mp hd;obtain⟨kv,hkv,e⟩:=BV hx;have h1:=hle kv hkv;have h2:=(hb.nn kv hkv).1;have hm:iI (.int x.1) (.int x.2)=some (.val (.int (x.1*x.2))):=by show(if _ then _ else _)=_;rw[if_pos];left;omega
   simp[hs,ht,eX,mlD,hm];exact⟨_,_,rfl,rfl,rfl⟩
 . rintro _⟨s,t,rfl,hs,ht⟩;have e:((tk kvs q).map eX).map mlD=((tk kvs q).map fun x=>x.1*x.2).map D.int:=by rw[map_map,map_map];rfl
   rw[e];have e2:=Eg (l:=kvs) (q:=q);generalize((tk kvs q).map fun x=>x.1*x.2)=ns at*;simp[gk,e2];exact k cs kvs hB
noncomputable def cR(ks:List Nat):List Int:=ks.map fun(k:Nat)=>(k:Int)
noncomputable def dot(c:Int->Int):List Wy->List Int->Int|w::ws,f::fs=>f*(c w.s-c w.t)+dot c ws fs|_,_=>0
noncomputable def jr(ls:List Int):D->D|.int i=>.int (ls.getD i.toNat 0)|d=>d
theorem jV{ls:List Int}{ks:List Nat}:((cR ks).map D.int).map (jr ls)=(ks.map fun k=>ls.getD k 0).map D.int:=by simp only[cR,map_map];apply map_congr_left;intro k _;simp[jr]
noncomputable def jC(p:Int):Nat->List Wy->List Nat|_,[]=>[]|i,w::ws=>if w.t=p then i::jC p (i+1) ws else jC p (i+1) ws
noncomputable def jF(p:Int):Nat->List Wy->List Nat|_,[]=>[]|i,w::ws=>if w.s=p then i::jF p (i+1) ws else jF p (i+1) ws
noncomputable def inD(p:Int):D->Option D|.tup [i,.tup (_::.int t::_)]=>if t==p then some i else none|_=>none
noncomputable def outD(p:Int):D->Option D|.tup [i,.tup (.int s::_)]=>if s==p then some i else none|_=>none
@[simp]theorem ack{p s t:Int}{i r h:D}:inD p (.tup [i,.tup [.int s,.int t,r,h]])=if t==p then some i else none:=rfl
@[simp]theorem aaw{p s t:Int}{i r h:D}:outD p (.tup [i,.tup [.int s,.int t,r,h]])=if s==p then some i else none:=rfl
noncomputable def vJ(ws:List Wy):List D:=(ws.map Wy.d).mapIdx fun i d=>D.tup [.int (i:Int),d]
theorem G3{ds:List D}{d:D}(h:d∈ds.mapIdx fun i d=>D.tup [.int (i:Int),d]):∃(i:Nat)(e:D),d=.tup [.int i,e]/\e∈ds:=by rw[List.mem_mapIdx]at h;obtain⟨i,hi,rfl⟩:=h;exact⟨i,_,rfl,getElem_mem hi⟩
theorem uc{ws:List Wy}{d:D}(h:d∈vJ ws):∃(i:Nat)(w:Wy),d=.tup [.int i,w.d]/\w∈ws:=by obtain⟨i,e,rfl,he⟩:=G3 h;obtain⟨w,hw,rfl⟩:=mem_map.mp he;exact⟨i,w,rfl,hw⟩
theorem n6(f:D->Option D)(sel:Nat->List Wy->List Nat)(h0:∀i,sel i []=[])(h1:∀(i:Nat)(w:Wy)(ws:List Wy),(match f (.tup [.int (i:Int),w.d])with|some x=>x=.int (i:Int)/\sel i (w::ws)=i::sel (i+1) ws|none=>sel i (w::ws)=sel (i+1) ws)):∀(ws:List Wy)(i:Nat),(((ws.map Wy.d).mapIdx fun j d=>D.tup [.int ((i+j:Nat):Int),d]).filterMap f)=(cR (sel i ws)).map D.int
 |[],i=>by rw[h0];rfl|w::ws,i=>by
   rw[map_cons,List.mapIdx_cons,filterMap_cons];have ih:=n6 f sel h0 h1 ws (i+1);have e:(fun(j:Nat)(d:D)=>D.tup [.int ((i+(j+1):Nat):Int),d])=fun j d=>D.tup [.int ((i+1+j:Nat):Int),d]:=by funext j d;rw[show i+(j+1)=i+1+j by omega]
   rw[e,ih];have:=h1 i w ws;rw[Nat.add_zero];cases hf:f (.tup [.int (i:Int),w.d])with|none=>rw[hf]at this;simp only at this;rw[this]|some x=>rw[hf]at this;simp only at this;rw[this.2,this.1];rfl
theorem PB{p:Int}{ws:List Wy}:(vJ ws).filterMap (inD p)=(cR (jC p 0 ws)).map D.int:=by have:=n6 (inD p) (jC p) (fun _=>rfl) (fun i w ws=>by by_cases h:w.t=p<;>simp[Wy.d,jC,h]) ws 0;simpa[vJ]using this
theorem G8{p:Int}{ws:List Wy}:(vJ ws).filterMap (outD p)=(cR (jF p 0 ws)).map D.int:=by have:=n6 (outD p) (jF p) (fun _=>rfl) (fun i w ws=>by by_cases h:w.s=p<;>simp[Wy.d,jF,h]) ws 0;simpa[vJ]using this
inductive F2(a b:Sl)(ρ:List Sl):Prop where|mk(s:Sl)(t:Sl)(q0:ρ=[a,b,s,t])(q1:fr s=true)(q2:fr t=true)
theorem yp{w n:Nat}{m p:Int}{ws:List Wy}{Q:R->List Sl->Prop}(h:dz m ws)(k:Q (.own ((cR (jF p 0 ws)).map D.int)) [.val false (aR m ws),.val false (.int p)]):(run Γ w (n+1) 12 [.val false (aR m ws),.val false (.int p)]).sat Q:=by
 refine aM (d:=WQ) rfl rfl (by decide) ?_;symm;have hl:=h.len;have h1:ws.length<=lim:=by show _<=16777216;omega
 simp[WQ,h1];refine jg (F2 _ _) (outD p) ⟨.aU,.aU,rfl,rfl,rfl⟩ ?_ ?_
 . rintro d hd _⟨s,t,rfl,hs,ht⟩;obtain⟨i,w,rfl,hw⟩:=uc hd;by_cases e:w.s=p;.simp[hs,ht,Wy.d,e];exact⟨_,_,rfl,rfl,rfl⟩
   .simp[hs,ht,Wy.d,e];exact⟨_,_,rfl,rfl,rfl⟩
 .rintro _⟨s,t,rfl,hs,ht⟩;rw[show((map Wy.d ws).mapIdx fun i d=>D.tup [.int (i:Int),d])=vJ ws from rfl,G8];generalize(cR (jF p 0 ws)).map D.int=L at*;simp;exact k
theorem Cp{w n:Nat}{m p:Int}{ws:List Wy}{Q:R->List Sl->Prop}(h:dz m ws)(k:Q (.own ((cR (jC p 0 ws)).map D.int)) [.val false (aR m ws),.val false (.int p)]):(run Γ w (n+1) 13 [.val false (aR m ws),.val false (.int p)]).sat Q:=by
 refine aM (d:=WM) rfl rfl (by decide) ?_;symm;have hl:=h.len;have h1:ws.length<=lim:=by show _<=16777216;omega
 simp[WM,h1];refine jg (F2 _ _) (inD p) ⟨.aU,.aU,rfl,rfl,rfl⟩ ?_ ?_
 . rintro d hd _⟨s,t,rfl,hs,ht⟩;obtain⟨i,w,rfl,hw⟩:=uc hd;by_cases e:w.t=p;.simp[hs,ht,Wy.d,e];exact⟨_,_,rfl,rfl,rfl⟩
   .simp[hs,ht,Wy.d,e];exact⟨_,_,rfl,rfl,rfl⟩
 .rintro _⟨s,t,rfl,hs,ht⟩;rw[show((map Wy.d ws).mapIdx fun i d=>D.tup [.int (i:Int),d])=vJ ws from rfl,PB];generalize(cR (jC p 0 ws)).map D.int=L at*;simp;exact k
noncomputable def mK(p:Int):List Wy->List Int->Int|w::ws,f::fs=>(if w.t=p then f else 0)+mK p ws fs|_,_=>0
noncomputable def mO(p:Int):List Wy->List Int->Int|w::ws,f::fs=>(if w.s=p then f else 0)+mO p ws fs|_,_=>0
theorem nG{p:Int}{F:List Int}:∀(ws:List Wy)(i:Nat),F.length=i+ws.length->((jC p i ws).map fun k=>F.getD k 0).sum=mK p ws (F.drop i)/\∀k∈jC p i ws,k<F.length
 |[],i,_=>by simp[jC,mK]|w::ws,i,h=>by
   simp only[length_cons]at h;have hi:i<F.length:=by omega
   obtain⟨ih1,ih2⟩:=nG (F:=F) ws (i+1) (by omega);rw[drop_eq_getElem_cons hi,jC,mK];by_cases e:w.t=p
   . rw[if_pos e,if_pos e];refine⟨?_,fun k hk=>?_⟩;.rw[map_cons,sum_cons,ih1];simp[hi]
     . rcases mem_cons.mp hk with rfl|hk;.exact hi
       .exact ih2 k hk
   .rw[if_neg e,if_neg e];exact⟨by rw[ih1];omega,ih2⟩
theorem nJ{p:Int}{F:List Int}:∀(ws:List Wy)(i:Nat),F.length=i+ws.length->((jF p i ws).map fun k=>F.getD k 0).sum=mO p ws (F.drop i)/\∀k∈jF p i ws,k<F.length
 |[],i,_=>by simp[jF,mO]|w::ws,i,h=>by
   simp only[length_cons]at h;have hi:i<F.length:=by omega
   obtain⟨ih1,ih2⟩:=nJ (F:=F) ws (i+1) (by omega);rw[drop_eq_getElem_cons hi,jF,mO];by_cases e:w.s=p
   . rw[if_pos e,if_pos e];refine⟨?_,fun k hk=>?_⟩;.rw[map_cons,sum_cons,ih1];simp[hi]
     . rcases mem_cons.mp hk with rfl|hk;.exact hi
       .exact ih2 k hk
   .rw[if_neg e,if_neg e];exact⟨by rw[ih1];omega,ih2⟩
theorem nQ{p:Int}:∀(ws:List Wy)(i:Nat),(jC p i ws).length<=ws.length|[],_=>le_refl _|w::ws,i=>by have:=nQ (p:=p) ws (i+1);rw[jC];split<;>simp<;>omega
theorem pG{p:Int}:∀(ws:List Wy)(i:Nat),(jF p i ws).length<=ws.length|[],_=>le_refl _|w::ws,i=>by have:=pG (p:=p) ws (i+1);rw[jF];split<;>simp<;>omega
inductive F4(a b c d:Sl)(ρ:List Sl):Prop where|mk(s:Sl)(q0:ρ=[a,b,c,d,s])(q1:fr s=true)
theorem wj{w n:Nat}{b:Bool}{m p:Int}{ws:List Wy}{fs:List Int}{Q:R->List Sl->Prop}(h:dz m ws)(hf:fs.length=ws.length)(k:Q (.val (.int (mK p ws fs-mO p ws fs))) [.val false (aR m ws),.own b (fs.map D.int),.val false (.int p)]):(run Γ w (n+2) 14 [.val false (aR m ws),.own b (fs.map D.int),.val false (.int p)]).sat Q:=by
 have hn:=h.len;refine aM (d:=QM) rfl rfl (by decide) ?_;symm;simp[QM];refine Cp h ?_;obtain⟨t1,t2⟩:=nG (p:=p) (F:=fs) ws 0 (by omega);have hl1:=nQ (p:=p) ws 0;generalize jC p 0 ws=ks at*;simp[show(cR ks).length<=lim by simp only[cR,length_map];show _<=16777216;omega];refine bI (F4 _ _ _ _) (jr fs) ⟨.aU,rfl,rfl⟩ ?_ ?_;.rintro d hd _⟨s',rfl,hs'⟩;simp only[cR,map_map,mem_map]at hd;obtain⟨k,hk,rfl⟩:=hd;obtain⟨f,hl⟩:∃f,fs[k]?=some f:=⟨_,getElem?_eq_getElem (t2 k hk)⟩;simp[hs',dZ hl,jr,hl];exact⟨_,rfl,rfl⟩
 rintro _⟨s',rfl,hs'⟩;rw[jV];generalize(ks.map fun k=>fs.getD k 0)=ns at*;simp[t1];apply ak;simp;refine yp h ?_;obtain⟨u1,u2⟩:=nJ (p:=p) (F:=fs) ws 0 (by omega);have hl2:=pG (p:=p) ws 0;generalize jF p 0 ws=ks at*;simp[show(cR ks).length<=lim by simp only[cR,length_map];show _<=16777216;omega];refine bI (F4 _ _ _ _) (jr fs) ⟨.aU,rfl,rfl⟩ ?_ ?_;.rintro d hd _⟨s',rfl,hs'⟩;simp only[cR,map_map,mem_map]at hd;obtain⟨k,hk,rfl⟩:=hd;obtain⟨f,hl⟩:∃f,fs[k]?=some f:=⟨_,getElem?_eq_getElem (u2 k hk)⟩;simp[hs',dZ hl,jr,hl];exact⟨_,rfl,rfl⟩
 rintro _⟨s',rfl,hs'⟩;rw[jV];generalize(ks.map fun k=>fs.getD k 0)=ns at*;simp[u1];exact k
theorem wB{w n:Nat}{m p:Int}{ws:List Wy}{fs:List Int}{Q:R->List Sl->Prop}(h:dz m ws)(hf:fs.length=ws.length)(k:Q (.val (.int (mK p ws fs-mO p ws fs))) [.val false (aR m ws),.val false (.lst (fs.map D.int)),.val false (.int p)]):(run Γ w (n+2) 14 [.val false (aR m ws),.val false (.lst (fs.map D.int)),.val false (.int p)]).sat Q:=by
 have hn:=h.len;refine aM (d:=QM) rfl rfl (by decide) ?_;symm;simp[QM];refine Cp h ?_;obtain⟨t1,t2⟩:=nG (p:=p) (F:=fs) ws 0 (by omega);have hl1:=nQ (p:=p) ws 0;generalize jC p 0 ws=ks at*;simp[show(cR ks).length<=lim by simp only[cR,length_map];show _<=16777216;omega];refine bI (F4 _ _ _ _) (jr fs) ⟨.aU,rfl,rfl⟩ ?_ ?_;.rintro d hd _⟨s',rfl,hs'⟩;simp only[cR,map_map,mem_map]at hd;obtain⟨k,hk,rfl⟩:=hd;obtain⟨f,hl⟩:∃f,fs[k]?=some f:=⟨_,getElem?_eq_getElem (t2 k hk)⟩;simp[hs',dZ hl,jr,hl];exact⟨_,rfl,rfl⟩
 rintro _⟨s',rfl,hs'⟩;rw[jV];generalize(ks.map fun k=>fs.getD k 0)=ns at*;simp[t1];apply ak;simp;refine yp h ?_;obtain⟨u1,u2⟩:=nJ (p:=p) (F:=fs) ws 0 (by omega);have hl2:=pG (p:=p) ws 0;generalize jF p 0 ws=ks at*;simp[show(cR ks).length<=lim by simp only[cR,length_map];show _<=16777216;omega];refine bI (F4 _ _ _ _) (jr fs) ⟨.aU,rfl,rfl⟩ ?_ ?_;.rintro d hd _⟨s',rfl,hs'⟩;simp only[cR,map_map,mem_map]at hd;obtain⟨k,hk,rfl⟩:=hd;obtain⟨f,hl⟩:∃f,fs[k]?=some f:=⟨_,getElem?_eq_getElem (u2 k hk)⟩;simp[hs',dZ hl,jr,hl];exact⟨_,rfl,rfl⟩
 rintro _⟨s',rfl,hs'⟩;rw[jV];generalize(ks.map fun k=>fs.getD k 0)=ns at*;simp[u1];exact k
theorem lA(p:Int):∀(ws:List Wy)(fs:List Int),dot (fun x=>if x=p then 1 else 0) ws fs=mO p ws fs-mK p ws fs|[],_=>rfl|_::_,[]=>rfl|w::ws,f::fs=>by simp only[dot,mO,mK,lA p ws fs];by_cases e1:w.s=p<;>by_cases e2:w.t=p<;>simp[e1,e2]<;>omega
theorem zF{w n:Nat}{b:Bool}{m:Int}{ws:List Wy}{fs:List Int}{Q:R->List Sl->Prop}(h:dz m ws)(hf:fs.length=ws.length)(k:Q (.val (.int (dot (fun x=>if x=0 then 1 else 0) ws fs))) [.val false (aR m ws),.own b (fs.map D.int)]):(run Γ w (n+3) 15 [.val false (aR m ws),.own b (fs.map D.int)]).sat Q:=by refine aM (d:=QG) rfl rfl (by decide) ?_;symm;simp[QG];refine wj h hf ?_;rw[lA]at k;simp;rw[show-(mK 0 ws fs-mO 0 ws fs)=mO 0 ws fs-mK 0 ws fs by omega];exact k
theorem zR{w n:Nat}{m:Int}{ws:List Wy}{fs:List Int}{Q:R->List Sl->Prop}(h:dz m ws)(hf:fs.length=ws.length)(k:Q (.val (.int (dot (fun x=>if x=0 then 1 else 0) ws fs))) [.val false (aR m ws),.val false (.lst (fs.map D.int))]):(run Γ w (n+3) 15 [.val false (aR m ws),.val false (.lst (fs.map D.int))]).sat Q:=by refine aM (d:=QG) rfl rfl (by decide) ?_;symm;simp[QG];refine wB h hf ?_;rw[lA]at k;simp;rw[show-(mK 0 ws fs-mO 0 ws fs)=mO 0 ws fs-mK 0 ws fs by omega];exact k
theorem Dj{w n:Nat}{s:Sl}{m:Int}{ws:List Wy}{fs:List Int}{Q:R->List Sl->Prop}(hs:U7 s fs)(h:dz m ws)(hf:fs.length=ws.length)(k:Q (.val (.int (dot (fun x=>if x=0 then 1 else 0) ws fs))) [.val false (aR m ws),s]):(run Γ w (n+3) 15 [.val false (aR m ws),s]).sat Q:=by
 rcases hs with rfl|⟨b,rfl⟩;.exact zR h hf k
 .exact zF h hf k
noncomputable def Wy.z(w:Wy):Wy:={w with h:=0}
noncomputable def hlD:D->D|.tup [a,b,c,_]=>.tup [a,b,c,.int 0]|d=>d
@[simp]theorem acy{a b c e:D}:hlD (.tup [a,b,c,e])=.tup [a,b,c,.int 0]:=rfl
inductive F1z(a:Sl)(ρ:List Sl):Prop where|mk(s:Sl)(q0:ρ=[a,s])(q1:fr s=true)
theorem sO{w n:Nat}{m:Int}{ws:List Wy}{Q:R->List Sl->Prop}(h:dz m ws)(k:Q (.val (aR m (ws.map Wy.z))) [.val false (aR m ws)]):(run Γ w (n+1) 20 [.val false (aR m ws)]).sat Q:=by
 have hn:=h.len;refine aM (d:=WR) rfl rfl (by decide) ?_;symm;simp[WR,show ws.length<=lim by show _<=16777216;omega];refine bI (F1z _) hlD ⟨.aU,rfl,rfl⟩ ?_ ?_;.rintro d hd _⟨s',rfl,hs'⟩;obtain⟨v,_,rfl⟩:=mem_map.mp hd;simp[hs',Wy.d];exact⟨_,rfl,rfl⟩
 . rintro _⟨s',rfl,hs'⟩;have e:(ws.map Wy.d).map hlD=(ws.map Wy.z).map Wy.d:=by rw[map_map,map_map];rfl
   rw[e];simp;simpa[aR]using k
noncomputable def lF(S:List Int):List Wy->Int|[]=>0|w::ws=>(if w.s∈S/\w.t∉S then w.r else 0)+lF S ws
def Ur(m:Int)(S:List Int):Prop:=0∈S/\m-1∉S
structure Lst(m:Int)(ws:List Wy)(q:Int):Prop where
 ex:∃S,Ur m S/\lF S ws=q
 le:∀S,Ur m S->q<=lF S ws
theorem Lst.uniq{m:Int}{ws:List Wy}{p q:Int}(h:Lst m ws p)(g:Lst m ws q):p=q:=by obtain⟨S,h1,h2⟩:=h.ex;obtain⟨T,g1,g2⟩:=g.ex;have:=h.le T g1;have:=g.le S h1;omega
noncomputable def Od(S:List Int)(v:Wy):Int:=if v.s∈S/\v.t∉S then v.r else 0
theorem oR{S:List Int}:∀{ws:List Wy},uN (Od S) ws=lF S ws|[]=>rfl|v::ws=>by rw[uN,lF,oR];rfl
noncomputable def nS(S:List Int)(p:Int):Int:=if p∈S then 0 else 1
theorem Ends.lst{m d:Int}{ws:List Wy}{cs:List (List aq×Int)}{fs:List Int}{F:Int->Int}{es:List En}(hE:Ends m ws cs fs F d es):Lst m ws (qI cs):=by
 have hv:∀S,Ur m S->qI cs=dg (gap 0 (nS S)) ws fs:=fun S hS=>by rw[hE.iv.dt];refine jd fun x _=>?_;show x.2=x.2*((if m-1∈S then 0 else 1)-(if 0∈S then 0 else 1)-0*bM ws x.1);rw[if_neg hS.2,if_pos hS.1];simp
 have le:∀S,Ur m S->qI cs<=lF S ws:=fun S hS=>by rw[hv S hS,<-oR];refine wV hE.iv.fit.len fun j v g e1 e2=>?_;have hg:=hE.iv.fit.ok _ _ _ e1 e2;unfold gap nS Od;by_cases a:v.s∈S<;>by_cases b:v.t∈S<;>simp[a,b]<;>omega
 refine⟨⟨es.map (·.1),?_,?_⟩,le⟩;.exact⟨mem_map.mpr ⟨_,hE.cm.cm.z,rfl⟩,fun z=>by obtain⟨⟨p,l,o⟩,he,e⟩:=mem_map.mp z;have e:p=m-1:=e;exact hE.no ⟨l,o,e▸he⟩⟩
 . have hS:Ur m (es.map (·.1)):=⟨mem_map.mpr ⟨_,hE.cm.cm.z,rfl⟩,fun z=>by obtain⟨⟨p,l,o⟩,he,e⟩:=mem_map.mp z;have e:p=m-1:=e;exact hE.no ⟨l,o,e▸he⟩⟩;refine Int.le_antisymm ?_ (le _ hS);rw[hv _ hS,<-oR];have step:∀(j:Nat)(v:Wy)(g:Int),ws[j]?=some v->fs[j]?=some g->∀f:Bool,frm v f∈es.map (·.1)->too v f∉es.map (·.1)->¬ 0<lZ v g f:=fun j v g e1 e2 f h1 h2 h3=>by obtain⟨⟨p,l,o⟩,he,e⟩:=mem_map.mp h1;have e:p=frm v f:=e;subst e;obtain⟨l2,o2,he2,_⟩:=hE.cm.cl l o (j,f) v e1 he (by rw[jD (s:=(j,f)) e1 e2];simp[h3]);exact h2 (mem_map.mpr ⟨_,he2,rfl⟩)
   refine xf hE.iv.fit.len fun j v g e1 e2=>?_;have hg:=hE.iv.fit.ok _ _ _ e1 e2;have s1:=step j v g e1 e2 true;have s2:=step j v g e1 e2 false;generalize es.map (·.1)=S at*;have s1:v.s∈S->v.t∉S->¬ 0<v.r-g:=s1;have s2:v.t∈S->v.s∉S->¬ 0<g:=s2;unfold gap nS Od;by_cases a:v.s∈S<;>by_cases b:v.t∈S;.simp[a,b]
   .have:=s1 a b;simp[a,b];omega
   .have:=s2 b a;simp[a,b];omega
   .simp[a,b]
theorem bQ.lst{m:Int}{ws:List Wy}{cs:List (List aq×Int)}(h:bQ m ws cs):Lst m ws (qI cs):=by obtain⟨_,fs,F,d,es,hE⟩:=h;exact hE.lst
theorem EY{S:List Int}:∀{ws:List Wy},lF S (ws.map Wy.z)=lF S ws|[]=>rfl|v::ws=>by rw[map_cons,lF,lF,EY];rfl
theorem Lst.z{m q:Int}{ws:List Wy}(h:Lst m (ws.map Wy.z) q):Lst m ws q:=by obtain⟨S,h1,h2⟩:=h.ex;exact⟨⟨S,h1,by rw[<-EY];exact h2⟩,fun S hS=>by rw[<-EY];exact h.le S hS⟩
theorem JZ{k:Int}{q:Int->Int}:∀{ws:List Wy}{fs:List Int},dg (gap 0 q) (ws.map Wy.z) fs=dg (gap 0 q) ws fs|[],_=>rfl|_::_,[]=>rfl|v::ws,g::fs=>by rw[map_cons,dg,dg,JZ (k:=k)];congr 2;unfold gap;show q v.t-q v.s-0*0=q v.t-q v.s-0*v.h;simp
theorem yZ:∀{ws:List Wy}{fs:List Int},dg (gap 0 (fun p=>if p=0 then 0 else 1)) ws fs=dot (fun x=>if x=0 then 1 else 0) ws fs|[],_=>rfl|_::_,[]=>rfl|v::ws,g::fs=>by rw[dg,dot,yZ];congr 1;unfold gap;by_cases a:v.s=0<;>by_cases b:v.t=0<;>simp[a,b]
theorem Ir{a b:Int}:iy (.int a) (.int b)=true↔a<=b:=by simp[iy,bT,jl,bf]
theorem Bo(S:List Int):∃us:List Int,tD (S.map D.int)=us.map D.int/\us.Perm S/\us.Pairwise (·<=·):=by
 have hp:=pH (S.map D.int);have hs:=nM (S.map D.int);obtain⟨us,e⟩:∃us:List Int,tD (S.map D.int)=us.map D.int:=⟨(tD (S.map D.int)).map jl,by rw[map_map];refine(List.map_id _).symm.trans (map_congr_left fun d hd=>?_);obtain⟨p,_,rfl⟩:=mem_map.mp (hp.mem_iff.mp hd);rfl⟩;refine⟨us,e,?_,?_⟩
 . rw[e]at hp;have:=hp.map jl;have num:∀S:List Int,(S.map D.int).map jl=S:=fun S=>by rw[map_map];exact(map_congr_left fun _ _=>rfl).trans (List.map_id _)
   rwa[num,num]at this
 .rw[e,pairwise_map]at hs;exact hs.imp fun h=>Ir.mp h
noncomputable def Vr(q:Int)(fs S:List Int):D:=.tup [.int q,.lst (fs.map D.int),.tup (S.map D.int)]
inductive JFl(m:Int)(ws zs:List Wy)(cs:List (List aq×Int))(r:List D)(ρ:List Sl):Prop where|mk(cg us:List (List aq×Int))(s3 s4:Sl)(q0:ρ=[.val false (aR m ws),.val false (aR m zs),.own false ((flow ws.length cg).map D.int),s3,s4,.aU])(q1:fr s3=true)(q2:fr s4=true)(q3:r=us.map cD)(q4:cg++us=cs)
theorem pA{N:Nat}{cs:List (List aq×Int)}:(flow N cs).length=N:=by
 have:∀(cs:List (List aq×Int))(fs:List Int),(cs.foldl Kv fs).length=fs.length:=fun cs=>by induction cs with|nil=>intro fs;rfl|cons x cs ih=>intro fs;rw[List.foldl_cons,ih];exact mZ
 unfold flow;rw[this];simp
theorem uo{w n:Nat}{m:Int}{ws:List Wy}{Q:R->List Sl->Prop}(hw:13286250<=w)(h:dz m ws)(k:∀q fs S,Lst m ws q->Q (.val (Vr q fs S)) [.val false (aR m ws)]):(run Γ w (n+5) 21 [.val false (aR m ws)]).sat Q:=by
 have hn:=h.len;have m0:=h.m0;have m1:=h.m1;have hz:HN m (ws.map Wy.z):=⟨h.m0,h.m1,by rw[length_map];exact h.len,fun w hw=>by obtain⟨v,hv,rfl⟩:=mem_map.mp hw;have:=h.ok v hv;exact⟨⟨this.s0,this.s1⟩,⟨this.t0,this.t1⟩,Int.le_refl _⟩⟩;have hzr:∀v∈ws.map Wy.z,0<=v.r:=fun w hw=>by obtain⟨v,hv,rfl⟩:=mem_map.mp hw;exact(h.ok v hv).r0
 have Sy:(ws.map Wy.z).length=ws.length:=length_map _;have hzd:∀fs,dg (gap 0 (fun p=>if p=0 then 0 else 1)) (ws.map Wy.z) fs=dot (fun x=>if x=0 then 1 else 0) ws fs:=fun fs=>by rw[JZ (k:=0),yZ]
 have hzL:∀q,Lst m (ws.map Wy.z) q->Lst m ws q:=fun q hq=>hq.z;refine aM (d:=W3) rfl rfl (by decide) ?_;symm;simp[W3];refine sO h ?_;generalize ws.map Wy.z=zs at*;simp;refine eY (fun ρ=>ρ=[.val false (aR m ws),.val false (aR m zs),.own false ((flow ws.length []).map D.int),.aU,.aU,.aU]) ?_ ?_;.simp[flow];show _<=16777216;omega
 rintro _ rfl;symm;simp;refine uZ hw hz hzr fun cs fs F d es hcs hE=>?_;have hL:=hE.lst;have hV:qI cs=dot (fun x=>if x=0 then 1 else 0) ws fs:=by rw[<-hzd,hE.iv.dt];refine jd fun x _=>?_;show x.2=x.2*((if m-1=0 then 0 else 1)-(if(0:Int)=0 then 0 else 1)-0*bM zs x.1);rw[if_neg (by omega),if_pos rfl];simp
 have hfl:=hE.fl;rw[Sy]at hfl;have hpt:=hE.iv.pt;have hck:=hE.ck;rw[hV]at hL;subst hfl;simp;refine bF (JFl m ws zs cs) ?_ ?_ ⟨[],cs,.aU,.aU,rfl,rfl,rfl,rfl,rfl⟩;.rintro d r _⟨cg,us,s3,s4,rfl,h3,h4,hr,hd⟩;cases us with|nil=>cases hr|cons u us=>
     obtain⟨rfl,rfl⟩:d=cD u/\r=us.map cD:=by simpa using hr
     have hd2:(cg++[u])++us=cs:=by rw[append_assoc];exact hd
     simp[cD,h3,h4];apply ak;simp;refine uU (.inr ⟨true,rfl⟩) (fun s hs=>by rw[pA,<-Sy];exact(hck u (by rw[<-hd];simp)).2.1 s hs) ?_;simp;exact⟨cg++[u],us,_,_,by rw[ug],rfl,rfl,rfl,hd2⟩
 . rintro _⟨cg,us,s3,s4,rfl,h3,h4,hr,hd⟩;have:us=[]:=by cases us with|nil=>rfl|cons _ _=>cases hr
   subst this;rw[append_nil]at hd;subst hd;simp;apply ak;simp;refine oO (by omega) hpt (.inr ⟨true,rfl⟩) hz (by rw[pA,Sy]) fun es hes=>?_;obtain⟨S,hS1,hS2,_⟩:=Bo (es.map (·.1));have hso:blt .lV [jT es]=some (.own (S.map D.int)):=by show(if(es.map (·.1)).length<64 then some (R.own (tD ((es.map (·.1)).map D.int)))else none)=_;have hl:=hes.cm.len m1;rw[hS1,if_pos (by rw[length_map];omega)]
   simp[hso];apply ak;simp;refine Dj (.inr ⟨true,rfl⟩) h pA ?_;simp;exact k _ _ S (hzL _ hL)
theorem Hg{cs:List Int}{a b:Option Int}:cut (cs.map D.int) a b=(cut cs a b).map D.int:=by unfold cut;simp
theorem aaS{ds:List D}{b:S5}{ps:List P}{i:Int}:KD (.lst ds) (part (.con .non) .non) (part (.blt b ps) (.int i))=some (.own (cut ds none (some i))):=rfl
inductive aai(ns:List Int)(_:Nat)(ρ:List Sl):Prop where|mk(cs:List Int)(s:Sl)(q0:ρ=[.val false (.lst (ns.map D.int)),.val false (.int 4),.own false (cs.map D.int),s])(q1:fr s=true)(q2:cs.length=4)
theorem vC{w n:Nat}{ns:List Int}{Q:R->List Sl->Prop}(hn:ns.length<=63)(k:∀cs:List Int,cs.length<=4->Q (.own (cs.map D.int)) [.val false (.lst (ns.map D.int)),.val false (.int 4)]):(run Γ w (n+1) 30 [.val false (.lst (ns.map D.int)),.val false (.int 4)]).sat Q:=by
 refine aM (d:=XN) rfl rfl (by decide) ?_;refine eY (fun ρ=>ρ=[.val false (.lst (ns.map D.int)),.val false (.int 4),.own false ((replicate 4 (0:Int)).map D.int),.aU]) ?_ ?_;.simp[XN];decide
 rintro _ rfl;symm;simp[show(ns.length:Int)<=1000000000 by omega];refine jY (aai ns) ?_ ?_ ⟨replicate 4 0,.aU,by simp,rfl,by simp⟩;.rintro i _ hi⟨cs,s,rfl,hs,hl⟩;obtain⟨j,hj,j0⟩:∃j:Nat,(i:Int)%4=(j:Int)/\j<cs.length:=⟨i%4,by omega,by omega⟩;have a1:at' (cs.map D.int) (j:Int)=some (.int cs[j]):=dZ (by simp[j0]);have a2:at' (ns.map D.int) (i:Int)=some (.int ns[i]):=dZ (by simp[hi]);have hx:ig cs.length (j:Int)=some j:=Ez j0;simp[hs];apply ak;simp[hj,a1,a2,hx];exact⟨cs.set j (cs[j]*1000003+ns[i]),.val false (.int i),by simp[map_set],rfl,by simpa using hl⟩
 .rintro _⟨cs,s,rfl,hs,hl⟩;symm;simp[aaS,Hg];exact k _ (by
    have:(cut cs none (some (if 4<(ns.length:Int)then 4 else(ns.length:Int)))).length<=cs.length:=by unfold cut;simp;omega
    omega)
theorem GF{c:Call}{n x:Nat}{e:P}{ρ:List Sl}:ex c n (.Gd x e) ρ=(lift (wu ρ x) ρ).bind fun _ ρ=>(ev c e ρ).bind fun r ρ=>match ρ[x]?,r with|some (.own b ds),.own es=>if ds.length+es.length<=lim then .ok .next (ρ.set x (.own b (ds++es)))else .stuck|_,_=>.stuck:=(rfl)
noncomputable def two(kv:Int×Int):List Int:=[kv.1-1,kv.1]
inductive JHr(a0 a1:Sl)(h0:List Int)(N:Nat)(kvs:List (Int×Int))(r:List D)(ρ:List Sl):Prop where|mk(cg us:List (Int×Int))(s3 s4:Sl)(q0:ρ=[a0,a1,.own false ((h0++cg.flatMap two).map D.int),s3,s4])(q1:(fr s3=true/\fr s4=true))(q2:r=us.map eX)(q3:cg++us=kvs)
theorem km:∀{l:List (Int×Int)},(l.flatMap two).length=2*l.length|[]=>rfl|x::l=>by rw[List.flatMap_cons,length_append,km,length_cons];simp[two];omega
theorem Jt{l:List (Int×Int)}:(l.map fun a=>(two a).length).sum=2*l.length:=by rw[<-List.length_flatMap];exact km
structure Rr(m:Int)(ws:List Wy)(cs:List (List aq×Int))(kvs:List (Int×Int))(hs:List Int):Prop where
 b:zK m ws cs kvs
 ok:∀h∈hs,0<=h/\h<=1000000000000000000
 has:∀kv∈kvs,kv.1-1∈hs
 len:hs.length<=1062886
theorem v5{w n:Nat}{x y z m:Int}{ws:List Wy}{Q:R->List Sl->Prop}(hw:13286250<=w)(h:dz m ws)(k:∀cs kvs hs x z,Rr m ws cs kvs hs->Q (.own (hs.map D.int)) [.own true [.int x,.int y,.int z],.val false (aR m ws)]):(run Γ w (n+6) 28 [.own true [.int x,.int y,.int z],.val false (aR m ws)]).sat Q:=by
 refine aM (d:=Wv) rfl rfl (by decide) ?_;symm;simp[Wv];refine bG (by decide) (by decide) fun T x z t0 t1=>?_;simp;refine bG (by decide) (by decide) fun U x z u0 u1=>?_;simp;refine iH (by decide) (by decide) fun V x z v0 v1=>?_;simp;apply ak;simp;refine iV hw h fun cs fs F d es kvs hl hE hb hso hle=>?_;simp;refine bF (JHr _ _ [0,T,U,V] 0 kvs) ?_ ?_ ⟨[],kvs,.aU,.aU,rfl,⟨rfl,rfl⟩,rfl,rfl⟩;.rintro d r _⟨cg,us,s3,s4,rfl,⟨h3,h4⟩,hr,hd⟩;cases us with|nil=>cases hr|cons u us=>
     obtain⟨rfl,rfl⟩:d=eX u/\r=us.map eX:=by simpa using hr
     have hdl:cg.length<=kvs.length:=by rw[<-hd];simp
     have h2:=km (l:=cg);have hd2:(cg++[u])++us=kvs:=by rw[append_assoc];exact hd
     simp[eX,h3,h4];apply ak;simp[GF];refine⟨fun _=>?_,by rw[Jt];show _<=16777216;omega⟩;exact⟨cg++[u],us,.val false (.int u.1),.val false (.int u.2),by simp[two],⟨rfl,rfl⟩,rfl,hd2⟩
 . rintro _⟨cg,us,s3,s4,rfl,⟨h3,h4⟩,hr,hd⟩;have:us=[]:=by cases us with|nil=>rfl|cons _ _=>cases hr
   subst this;rw[append_nil]at hd;subst hd;simp;apply ak;simp;have h2:=km (l:=cg);exact k cs cg ([0,T,U,V]++cg.flatMap two) _ _ ⟨⟨⟨fun v hv=>(h.ok v hv).h0,fs,F,d,es,hE⟩,hb,hso,hle,hl⟩,fun u hu=>by
    rcases mem_append.mp hu with hu|hu;.simp only[mem_cons,List.not_mem_nil,or_false]at hu;omega
    .obtain⟨kv,hkv,hu⟩:=List.mem_flatMap.mp hu;have g1:=(hb.nn kv hkv).1;have g2:=hle kv hkv;simp only[two,mem_cons,List.not_mem_nil,or_false]at hu;omega,fun kv hkv=>mem_append_right _ (List.mem_flatMap.mpr ⟨kv,hkv,by simp[two]⟩),by rw[length_append,km];simp;omega⟩
theorem Ey{a:Int}(h:a<=1000000000000000000000):a<big:=by show _<(1606938044258990275541962092341162602522202993782792835301376:Int);omega
theorem zm{S:List Int}:∀{ws:List Wy},(∀v∈ws,0<=v.r/\v.r<=1000000000)->lF S ws<=1000000000*(ws.length:Int)|[],_=>by simp[lF]|v::ws,h=>by have h1:=h v (by simp);have h2:=zm (S:=S) (ws:=ws) fun u hu=>h u (by simp[hu]);rw[lF,length_cons];split<;>omega
inductive FRt(a0 a1 a2 a3 a4:Sl)(ρ:List Sl):Prop where|mk(s:Sl)(q0:ρ=[a0,a1,a2,a3,a4,s])(q1:fr s=true)
noncomputable def gnD(ws:List Wy)(cs:List (List aq×Int))(d:D):D:=.int (Rt ws cs (jl d))
theorem Al{w n:Nat}{x y z m:Int}{ws:List Wy}{cs:List (List aq×Int)}{kvs:List (Int×Int)}{hs:List Int}{Q:R->List Sl->Prop}(hw:13286250<=w)(h:dz m ws)(hh:Rr m ws cs kvs hs)(k:∀(rs:List Int)x z,(∀r∈rs,0<=r/\r<=qI cs)->Q (.own (rs.map D.int)) [.own true [.int x,.int y,.int z],.val false (aR m ws),.own true (hs.map D.int)]):(run Γ w (n+9) 29 [.own true [.int x,.int y,.int z],.val false (aR m ws),.own true (hs.map D.int)]).sat Q:=by
 refine aM (d:=XS) rfl rfl (by decide) ?_;symm;simp[XS];refine uo hw h fun q fs S hq=>?_;have hT:q=qI cs:=hq.uniq hh.b.e.lst;have hq0:0<=qI cs:=by rw[<-hh.b.vs];exact yU hh.b.b.nn
 have hq1:qI cs<=12000000000:=by have m0:=h.m0;have h1:=hh.b.e.lst.le [0] ⟨by simp,by simp;omega⟩;have h2:=zm (S:=[0]) fun v hv=>⟨(h.ok v hv).r0,(h.ok v hv).r1⟩;have h3:=h.len;omega
 subst hT;simp[Vr];apply ak;simp;refine iH (by omega) (Ey (by omega)) fun U x z u0 u1=>?_;simp;refine iH (by omega) (Ey (by omega)) fun V x z v0 v1=>?_;simp;apply ak;have hlen:=hh.len;simp[show hs.length<=16777216 by omega];refine bI (FRt _ _ _ _ _) (gnD ws cs) ⟨.aU,rfl,rfl⟩ ?_ ?_;.rintro d hd _⟨s,rfl,hs'⟩;obtain⟨u,hu,rfl⟩:=mem_map.mp hd;simp[hs'];refine uQ hw h fun cs' hE'=>?_;rw[hE'.JT hh.b.e];simp;exact⟨rfl,_,rfl,rfl⟩
 . rintro _⟨s,rfl,hs'⟩;have e:(hs.map D.int).map (gnD ws cs)=(hs.map fun u=>Rt ws cs u).map D.int:=by rw[map_map,map_map];rfl
   rw[e];simp;refine⟨by show _<=16777216;omega,?_⟩;have:=k ([0,qI cs,U,V]++hs.map fun u=>Rt ws cs u) x z fun r hr=>by
    rcases mem_append.mp hr with hr|hr;.simp only[mem_cons,List.not_mem_nil,or_false]at hr;omega
    .obtain⟨u,_,rfl⟩:=mem_map.mp hr;exact⟨hh.b.e.KY,hh.b.e.Kq⟩
   simpa using this
theorem Rr.max{m q M:Int}{ws:List Wy}{cs:List (List aq×Int)}{kvs:List (Int×Int)}{hs:List Int}(hh:Rr m ws cs kvs hs)(q0:0<=q)(q1:q<=qI cs)(h1:M∈0::hs.map fun h=>(h+1)*q-val ws h cs)(h2:∀j∈0::hs.map fun h=>(h+1)*q-val ws h cs,j<=M):M=lh kvs q:=by
 have hv:q<=vs kvs:=by rw[hh.b.vs];exact q1
 have up:∀h,(h+1)*q-val ws h cs<=lh kvs q:=fun h=>by have:=Cq (T:=h) (q:=q) hh.b.b.nn q0 hv;rw[hh.b.vt]at this;exact this
 have z:0<=lh kvs q:=by have:=up (-1);rw[hh.b.e.cu (by omega)]at this;simpa using this
 have le:M<=lh kvs q:=by
  rcases mem_cons.mp h1 with e|h1;.omega
  .obtain⟨h,_,rfl⟩:=mem_map.mp h1;exact up h
 by_cases c:q=0;.have:=h2 0 (by simp);rw[c,zU hh.b.b.nn]at le ⊢;omega
 .obtain⟨kv,hkv,e⟩:=Dg (q:=q) hh.b.b.nn hh.b.so (by omega) hv;have:=h2 _ (mem_cons_of_mem _ (mem_map.mpr ⟨kv.1-1,hh.has kv hkv,rfl⟩));rw[hh.b.vt,]at e;rw[show kv.1-1+1=kv.1 by omega]at this;omega
theorem Rr.lh{m q:Int}{ws:List Wy}{cs cs':List (List aq×Int)}{kvs kvs':List (Int×Int)}{hs:List Int}(hh:Rr m ws cs kvs hs)(h':zK m ws cs' kvs')(q0:0<=q)(q1:q<=qI cs):T.lh kvs' q=T.lh kvs q:=by have e:=hh.b.e.lst.uniq h'.e.lst;exact Int.le_antisymm (h'.KJ hh.b q0 (by omega) q1) (hh.b.KJ h' q0 q1 (by omega))
theorem Iv(ns:List Int):∃i,(0::ns).max?=some i/\i∈0::ns/\∀j∈0::ns,j<=i:=Qn (by simp)
noncomputable def Pr(ws:List Wy)(cs:List (List aq×Int))(h:Int):D:=.tup [.int h,.int (val ws h cs)]
inductive FL1(y:Int)(a0 a1 a3 a4 a5 a6 a7 a8 a9 a10:Sl)(ρ:List Sl):Prop where|mk(x z:Int)(s:Sl)(q0:ρ=[a0,a1,.own false [.int x,.int y,.int z],a3,a4,a5,a6,a7,a8,a9,a10,s])(q1:fr s=true)
inductive FL2(a0 a1 a2 a3 a4 a5 a6 a7 a8 a9 a10:Sl)(ρ:List Sl):Prop where|mk(s:Sl)(t:Sl)(q0:ρ=[a0,a1,a2,a3,a4,a5,a6,a7,a8,a9,a10,s,t])(q1:fr s=true)(q2:fr t=true)
noncomputable def moV(ws:List Wy)(cs:List (List aq×Int))(d:D):D:=.tup [d,.int (val ws (jl d) cs)]
noncomputable def loV(q:Int)(d:D):D:=.int (((Br d).1+1)*q-(Br d).2)
inductive J46(v:Sl)(r:List D)(ρ:List Sl):Prop where|mk(s1:Sl)(s2:Sl)(s3:Sl)(s4:Sl)(s5:Sl)(s6:Sl)(s7:Sl)(s8:Sl)(s9:Sl)(gM:Sl)(q0:ρ=[v,s1,s2,s3,s4,s5,s6,s7,s8,s9,gM])(q1:(fr s1=true/\fr s2=true/\fr s3=true/\fr s4=true/\fr s5=true/\fr s6=true/\fr s7=true/\fr s8=true/\fr s9=true/\fr gM=true))(q2:∀d∈r,∃i,d=D.int i)
inductive K46(a0 a1 a2 a3 a4 a5:Sl)(b:Int)(r:List D)(ρ:List Sl):Prop where|mk(s6:Sl)(s7:Sl)(s8:Sl)(s9:Sl)(gM:Sl)(q0:ρ=[a0,a1,a2,a3,a4,a5,s6,s7,s8,s9,gM])(q1:A5 (fr s6=true) (fr s7=true) (fr s8=true) (fr s9=true) (fr gM=true))(q2:∀d∈r,∃i,d=D.int i/\0<=i/\i<=b)
inductive L46(ws:List Wy)(cs:List (List aq×Int))(hs:List Int)(a0 a1 a2 a3 a4 a5:Sl)(r:List D)(ρ:List Sl):Prop where|mk(us:List Int)(s6 s7 s8 s9 gM:Sl)(q0:ρ=[a0,a1,a2,a3,a4,a5,s6,s7,s8,s9,gM])(q1:A5 (fr s6=true) (fr s7=true) (fr s8=true) (fr s9=true) (fr gM=true))(q2:r=us.map (Pr ws cs))(q3:∀u∈us,u∈hs)
theorem GR(ns:List Int)(hn:ns.length<=63):∃as,run Γ 100000000 40 31 [.val false (.lst (ns.map D.int))]=.ok (.val (.bl true)) as:=by
 suffices h:(run Γ 100000000 40 31 [.val false (.lst (ns.map D.int))]).sat fun r _=>r=.val (.bl true)by obtain⟨a,ρ,e,rfl⟩:=sat_iff.mp h;exact⟨ρ,e⟩
 refine aM (d:=Xc) rfl rfl (by decide) ?_;symm;simp[Xc];refine vC hn fun cs hcs=>?_;have hl:1+cs.length<=lim:=by show _<=16777216;omega
 simp[hl];refine bF (J46 (.val false (.lst (ns.map D.int)))) ?_ ?_ ?_
 . rintro d r _⟨s1,s2,s3,s4,s5,s6,s7,s8,s9,gM,rfl,⟨h1,h2,h3,h4,h5,h6,h7,h8,h9,h10⟩,hd⟩;obtain⟨x,rfl⟩:=hd d (by simp);simp[h1];apply ak;simp;refine BZ fun a b c=>?_;simp[h2];apply ak;simp;refine HB fun m ws a c hk=>?_;simp[h3];apply ak;simp;refine v5 (by omega) hk fun cs kvs hs a c hh=>?_;have hlen:=hh.len;simp[h4];apply ak;simp[show hs.length<=16777216 by omega];refine bI (FL1 b _ _ _ _ _ _ _ _ _ _) (moV ws cs) ⟨a,c,.aU,rfl,rfl⟩ ?_ ?_;.rintro d hd _⟨a,c,s,rfl,hs'⟩;obtain⟨u,hu,rfl⟩:=mem_map.mp hd;simp[hs'];refine wR (by omega) hk (hh.ok u hu).2 fun cs' hE'=>?_;rw[hE'.val_eq hh.b.e];simp;exact⟨rfl,_,_,_,rfl,rfl⟩
   rintro _⟨a,c,s,rfl,hs'⟩;have em:(hs.map D.int).map (moV ws cs)=hs.map (Pr ws cs):=by rw[map_map];rfl
   rw[em];simp[h5];apply ak;simp;refine Al (by omega) hk hh fun rs a c hrs=>?_;simp;have hqT:∀cs',bQ m ws cs'->qI cs'=qI cs:=fun cs' hE'=>hE'.lst.uniq hh.b.e.lst;refine bF (K46 _ _ _ _ _ _ (qI cs)) ?_ ?_ ⟨s6,s7,s8,s9,gM,rfl,⟨h6,h7,h8,h9,h10⟩,fun d hd=>?_⟩
   . rintro d r _⟨s6,s7,s8,s9,gM,rfl,⟨h6,h7,h8,h9,h10⟩,hd⟩;obtain⟨q,rfl,q0,q1⟩:=hd d (by simp);simp[h6];apply ak;simp;refine oG (by omega) hk q0 (fun cs' hE'=>by rw[hqT cs' hE'];exact q1) fun cs' kvs' hB=>?_;rw[hh.lh hB q0 q1];simp[h7];apply ak;simp[show hs.length<=16777216 by omega];refine bI (FL2 _ _ _ _ _ _ _ _ _ _ _) (loV q) ⟨.aU,.aU,rfl,rfl,rfl⟩ ?_ ?_
     . rintro d hd _⟨s,t,rfl,hs',ht'⟩;obtain⟨u,hu,rfl⟩:=mem_map.mp hd;have hu2:=hh.ok u hu;have hm:iI (.int (u+1)) (.int q)=some (.val (.int ((u+1)*q))):=by show(if _ then _ else _)=_;rw[if_pos];left;omega
       simp[hs',ht',Pr,loV,hm];exact⟨_,_,rfl,rfl,rfl⟩
     . rintro _⟨s,t,rfl,hs',ht'⟩;have e:(hs.map (Pr ws cs)).map (loV q)=(hs.map fun h=>(h+1)*q-val ws h cs).map D.int:=by rw[map_map,map_map];rfl
       rw[e];obtain⟨M,g1,g2,g3⟩:=Iv (hs.map fun h=>(h+1)*q-val ws h cs);have hM:=hh.max q0 q1 g2 g3;subst hM;have hml:(hs.map fun h=>(h+1)*q-val ws h cs).length<=1062886:=by rw[length_map];exact hlen
       generalize(hs.map fun h=>(h+1)*q-val ws h cs)=ks at*;have hmm:ks.max?.elim 0 (max 0)=lh kvs q:=by rw[List.max?_cons]at g1;exact Option.some.inj g1
       simp;refine⟨by show _<=16777216;omega,fun _=>?_,fun z=>absurd hmm z⟩;exact⟨_,_,_,_,_,rfl,⟨rfl,rfl,h8,h9,h10⟩,fun d h=>hd d (mem_cons_of_mem _ h)⟩
   . rintro _⟨s6,s7,s8,s9,gM,rfl,⟨h6,h7,h8,h9,h10⟩,_⟩;simp;apply ak;simp;refine bF (L46 ws cs hs _ _ _ _ _ _) ?_ ?_ ⟨hs,s6,s7,s8,s9,gM,rfl,⟨h6,h7,h8,h9,h10⟩,rfl,fun _ h=>h⟩;.rintro d r _⟨us,s6,s7,s8,s9,gM,rfl,⟨h6,h7,h8,h9,h10⟩,hr,hu⟩;cases us with|nil=>cases hr|cons u us=>
         obtain⟨rfl,rfl⟩:d=Pr ws cs u/\r=us.map (Pr ws cs):=by simpa using hr
         have hu2:=hh.ok u (hu u (by simp));simp[Pr,h8,h9];apply ak;simp;refine uQ (by omega) hk fun cs' hE'=>?_;rw[hE'.JT hh.b.e];have g0:=hh.b.e.KY (T:=u);have g1:=hh.b.e.Kq (T:=u);have hm:iI (.int (u+1)) (.int (Rt ws cs u))=some (.val (.int ((u+1)*Rt ws cs u))):=by show(if _ then _ else _)=_;rw[if_pos];left;omega
         have hg:=(zp (T:=u) hh.b.b.nn hh.b.so).1;rw[hh.b.gt,hh.b.vt]at hg;simp[h10];apply ak;simp[hm];refine oG (by omega) hk g0 (fun cs' hE'=>by rw[hqT cs' hE'];exact g1) fun cs' kvs' hB=>?_;rw[hh.lh hB g0 g1];simp[hg];exact⟨us,_,_,_,_,_,rfl,⟨h6,h7,rfl,rfl,rfl⟩,rfl,fun x hx=>hu x (by simp[hx])⟩
     .rintro _⟨us,s6,s7,s8,s9,gM,rfl,⟨h6,h7,h8,h9,h10⟩,_⟩;simp;exact⟨_,_,_,_,_,_,_,_,_,_,rfl,⟨rfl,rfl,rfl,rfl,rfl,h6,h7,h8,h9,h10⟩,fun d h=>hd d (mem_cons_of_mem _ h)⟩
   .obtain⟨i,hi,rfl⟩:=mem_map.mp hd;exact⟨i,rfl,hrs i hi⟩
 .rintro _⟨s1,s2,s3,s4,s5,s6,s7,s8,s9,gM,rfl,_,hd⟩;symm;simp
 . refine⟨_,_,_,_,_,_,_,_,_,_,rfl,⟨rfl,rfl,rfl,rfl,rfl,rfl,rfl,rfl,rfl,rfl⟩,fun d hd=>?_⟩;simp at hd;rcases hd with rfl|⟨i,_,rfl⟩;.exact⟨_,rfl⟩
   .exact⟨_,rfl⟩
end T
end
structure PySem.W.Fast:Prop where(tw1182363022925516353 tw13050553657206974394 tw4914145476672769207 tw15694132480278465617 tw3863471952666696377 tw3773791797813221346 tw5926676718330157011 tw13569039746148322731 tw14434797499810742212 tw7234915872705987208 tw7148497507073470710 tw12243837541104169852 tw8013137272900534568 tw740790876099669720 tw471106897947675480 tw8613167680691419044 tw15216355569252071914 tw18156703579073194392 tw6625968637535353072 tw2230671698939869286 tw14571538167216013144 tw16499924726194265778 tw14849110546762738850 tw10883564837672387978 tw16378144391749513714 tw11732544878776771598 tw685804931850434299 tw17488087300055428270 tw16676319760626578851 tw674301671364854390 tw565141757819614981 tw9174281055316223276 tw10015982688018218681 tw944947900105082134 tw12615882085898273406 tw4176825759847248753 tw13855833389233559934 tw8693274541421543529 tw11031325214618164149 tw10804861438495307683 tw12535062907587309781 tw5662045516747201745 tw18379622293517232948 tw3087520967791783895 tw17218355163302549966 tw8540819610164302118 tw11068703135796807407 tw14954762953786723565 tw14334122156653404140 tw2687335790497346518 tw937835308033478004 tw1392552334555460105 tw9613377279233839753 tw14326327495993767855 tw13861229471854396458 tw5356948502091838935 tw293112613141837931 tw11446037560217400617 tw4523395340508484880 tw17254793402130530164 tw4057884876396726595 tw8817570522217205409 tw4132165334928348783 tw8950172800993548249 tw6567679690651049937 tw16031198404792101676 tw7852515139701276112 tw8915135100408313321 tw3268664069369711620 tw10548749092704774181 tw15705261378645228561 tw12724353735979117867 tw12956784831403393343 tw3721517895154256295 tw15513982145844204121 tw15274189682930094470 tw8513850048165791304 tw433238751866424413 tw11146937212806928661 tw80277114587362139 tw4127765460730567236 tw10981037341758601451 tw1606006489141509834 tw3079011464782639737 tw15330603226648206903 tw17013406394546864886 tw2007472420460984804 tw14157520551653471976 tw9653997530156181615 tw4979414475383841537 tw799324356094391954 tw12457035763996597577 tw13512593186570752449 tw12657566143265008191 tw1642694005177944344 tw14958602036516539978 tw3611295914377393017 tw14307189908628974183 tw11000370232863614452 tw15094705117423093942 tw5440710558122354002 tw10369188791937477412 tw14012700803451349213 tw1967018194584217291 tw15372941562928194537 tw17425911214581038895 tw6475640742810105084 tw10377600827747996134 tw1584215818247708777 tw623762286773718464 tw17575263693060177351 tw4626491997323265838 tw1288116545506411131 tw9395743500714960415 tw9571570411526655242 tw9319623320006738336 tw4970684354953588200 tw16451312859995900469 tw3932029176518285890 tw16998227308797452801 tw26525205795216010 tw2805968927294852287 tw10126768199342844734 tw7995434470549803840 tw11903284250183662072 tw13376172181118884163 tw4369314922172212137 tw5946505648428612794 tw5518918695376395058 tw5131054320493279261 tw15904159652691416819 tw12386436660240701540 tw10226515034735533958 tw14316278840985636195 tw7880929793235885219 tw5403139029843642792 tw6273625556145310492 tw10226127090650349601 tw15534159808239455086 tw3461505578526433760 tw11078345009246947285 tw14973608835082130567 tw10285650501334851 tw13925268119137772632 tw15447654849009492393 tw14769485394816509503 tw11943096276310003551 tw4927145542964770661 tw8435954306841693775 tw16249664357706947455 tw17543859303806564086 tw10185654203500652674 tw9517103384800260075 tw2873946041433538593 tw7849012679574684329 tw787025669729940330 tw15698580393411213704 tw15569306254063335493 tw2349904383305556060 tw828101022842111552 tw16594765616627895282 tw10669235316046835444 tw952695082446628207 tw2004196603961240458 tw8131664316467906772 tw8805739788668670280 tw17582426513552887939 tw13983651808710982988 tw606725393494368862 tw15565782809798407239 tw15094903475727944498 tw2614488704571580144 tw5027580087955817055 tw1308309346785429184 tw12738081334142520053 tw1954906753972955304 tw8112364731994761531 tw2551460913317528627 tw3158191375324872520 tw12204654539176407533 tw7118266096437360462 tw16686110475513019904 tw13318448146288594281 tw1222375237098259791 tw4746028671127873803 tw320102376887978501 tw5385962532215459346 tw18108060043272762086 tw7367901141569908043 tw14931221092521639701 tw1108993252470562212 tw10310977685681234899 tw5971551436450017034 tw8697562575865176239 tw4328653903861834708 tw8677499362208224353 tw16984732209026906708 tw13304755722692033528 tw4278257665514191995 tw14209715323776926284 tw7803053168400368242 tw4564275736174650635 tw6756797353986910116 tw13936090589780818092 tw7982165090702304725 tw4770746488725594669 tw2487354194724865735 tw2143850204124869596 tw11372545134689414783 tw2381482804436099189 tw17198479668665534571 tw2833238179807417322 tw875074087808865148 tw10852327505081078774 tw5537763119264421566 tw10265604295149401327:True)
namespace T
open PySem L2 PySem.Spec PyProof.Rows HH
theorem Tj{P:List Value → Prop}{n:Nat}(h:∀(a:Value)(us:List Value),us.length=n → P (a::us))(us:List Value)(hl:us.length=n+1):P us:=by cases us with|nil=>cases hl|cons a us=>exact h a us (Nat.succ.inj hl)
theorem lk0{P:List Value → Prop}(h:P [])(us:List Value)(hl:us.length=0):P us:=by cases us with|nil=>exact h|cons a us=>cases hl
theorem Ad{P:List Value → Prop}(h:∀a,P [a]):∀us:List Value,us.length=1 → P us:=Tj fun a=>lk0 (h a)
theorem ie{P:List Value → Prop}(h:∀a b,P [a,b]):∀us:List Value,us.length=2 → P us:=Tj fun a=>Ad (h a)
theorem wQ{P:List Value → Prop}(h:∀a b c,P [a,b,c]):∀us:List Value,us.length=3 → P us:=Tj fun a=>ie (h a)
theorem lk4{P:List Value → Prop}(h:∀a b c d,P [a,b,c,d]):∀us:List Value,us.length=4 → P us:=Tj fun a=>wQ (h a)
theorem lk5{P:List Value → Prop}(h:∀a b c d e,P [a,b,c,d,e]):∀us:List Value,us.length=5 → P us:=Tj fun a=>lk4 (h a)
local macro_rules|`(term|‹$p›)=>`(fun _ _ _ _ _ _=>$p)
structure Txt(K:PySem.W.Frag):Prop where
 D0:bz K "step_places" s0
 D1:bz K "step_hours" s1
 D2:bz K "step_room" s2
 D3:bz K "steps_hours" s3
 D4:bz K "open_steps" s4
 D5:bz K "shortest_come" s5
 D6:bz K "steps_to" s6
 D7:bz K "stream_with" s7
 D8:bz K "chains_to_end" s8
 D9:bz K "cut_to_rate" s9
 D10:bz K "bends_of" gM
 D11:bz K "least_hours" Yo
 D12:bz K "ways_out" s12
 D13:bz K "ways_in" s13
 D14:bz K "stays_at" Z5
 D15:bz K "stream_rate" s15
 D16:bz K "bends_by" Y6
 D17:bz K "most_of" s17
 D18:bz K "most_by" Zm
 D19:bz K "rate_by" s19
 D20:bz K "hourless_net" Y8
 D21:bz K "fullest_stream" Za
 D22:bz K "gain_at" ZG
 D23:bz K "_law_pool" Zi
 D24:bz K "_law_next" Zf
 D25:bz K "_law_wide" s25
 D26:bz K "_law_way" s26
 D27:bz K "_law_net" s27
 D28:bz K "_law_hours" s28
 D29:bz K "_law_rates" s29
 D30:bz K "_law_folded" Zk
 D31:bz K "law" Y0
 dq:PySem.W.nsIn K mainGlobals "enumerate"=some none
 eV:PySem.W.nsIn K mainGlobals "len"=some none
 jJ:PySem.W.nsIn K mainGlobals "list"=some none
 pJ:PySem.W.nsIn K mainGlobals "max"=some none
 kW:PySem.W.nsIn K mainGlobals "min"=some none
 cL:PySem.W.nsIn K mainGlobals "range"=some none
 jK:PySem.W.nsIn K mainGlobals "reversed"=some none
 gC:PySem.W.nsIn K mainGlobals "sorted"=some none
 eU:PySem.W.nsIn K mainGlobals "sum"=some none
 cX:PySem.W.nsIn K mainGlobals "tuple"=some none
noncomputable def iZ{K:PySem.W.Frag}(T:Txt K):Nat->Addr:=fun k=>0
structure Oks(Pg:Program)(w:World)(K:PySem.W.Frag)(mg:Str->Option Value)(base:Heap)(cl:Nat->Addr)(n:Nat):Prop where
 c0:ao Pg w K mg base n (run Γ 100000000 n) 0 "step_places" 2
 c1:ao Pg w K mg base n (run Γ 100000000 n) 1 "step_hours" 2
 c2:ao Pg w K mg base n (run Γ 100000000 n) 2 "step_room" 3
 c3:ao Pg w K mg base n (run Γ 100000000 n) 3 "steps_hours" 2
 c4:ao Pg w K mg base n (run Γ 100000000 n) 4 "open_steps" 2
 c5:ao Pg w K mg base n (run Γ 100000000 n) 5 "shortest_come" 3
 c6:ao Pg w K mg base n (run Γ 100000000 n) 6 "steps_to" 3
 c7:ao Pg w K mg base n (run Γ 100000000 n) 7 "stream_with" 3
 c8:ao Pg w K mg base n (run Γ 100000000 n) 8 "chains_to_end" 1
 c9:ao Pg w K mg base n (run Γ 100000000 n) 9 "cut_to_rate" 2
 SJ:ao Pg w K mg base n (run Γ 100000000 n) 10 "bends_of" 1
 YG:ao Pg w K mg base n (run Γ 100000000 n) 11 "least_hours" 2
 c12:ao Pg w K mg base n (run Γ 100000000 n) 12 "ways_out" 2
 c13:ao Pg w K mg base n (run Γ 100000000 n) 13 "ways_in" 2
 c14:ao Pg w K mg base n (run Γ 100000000 n) 14 "stays_at" 3
 c15:ao Pg w K mg base n (run Γ 100000000 n) 15 "stream_rate" 2
 c16:ao Pg w K mg base n (run Γ 100000000 n) 16 "bends_by" 2
 c17:ao Pg w K mg base n (run Γ 100000000 n) 17 "most_of" 2
 YH:ao Pg w K mg base n (run Γ 100000000 n) 18 "most_by" 2
 c19:ao Pg w K mg base n (run Γ 100000000 n) 19 "rate_by" 2
 c20:ao Pg w K mg base n (run Γ 100000000 n) 20 "hourless_net" 1
 c21:ao Pg w K mg base n (run Γ 100000000 n) 21 "fullest_stream" 1
 Wl:ao Pg w K mg base n (run Γ 100000000 n) 22 "gain_at" 2
 YJ:ao Pg w K mg base n (run Γ 100000000 n) 23 "_law_pool" 1
 SM:ao Pg w K mg base n (run Γ 100000000 n) 24 "_law_next" 2
 Wm:ao Pg w K mg base n (run Γ 100000000 n) 25 "_law_wide" 2
 c26:ao Pg w K mg base n (run Γ 100000000 n) 26 "_law_way" 4
 YK:ao Pg w K mg base n (run Γ 100000000 n) 27 "_law_net" 3
 YL:ao Pg w K mg base n (run Γ 100000000 n) 28 "_law_hours" 2
 YM:ao Pg w K mg base n (run Γ 100000000 n) 29 "_law_rates" 3
 YQ:ao Pg w K mg base n (run Γ 100000000 n) 30 "_law_folded" 2
 c31:ao Pg w K mg base n (run Γ 100000000 n) 31 "law" 1
set_option maxHeartbeats 0 in
theorem DN{Pg:Program}{w:World}{K:PySem.W.Frag}{mg:Str->Option Value}{base:Heap}(T:Txt K)(X:K.In base)(G:base.Ns mainGlobals mg):∀n,Oks Pg w K mg base (iZ T) n
 |0=>{
   c0:=bB (ps:=["net","step"]) X G T.D0 rfl ‹ie fun _ _=>rfl›
   c1:=bB (ps:=["net","step"]) X G T.D1 rfl ‹ie fun _ _=>rfl›
   c2:=bB (ps:=["net","stream","step"]) X G T.D2 rfl ‹wQ fun _ _ _=>rfl›
   c3:=bB (ps:=["net","steps"]) X G T.D3 rfl ‹ie fun _ _=>rfl›
   c4:=bB (ps:=["net","stream"]) X G T.D4 rfl ‹ie fun _ _=>rfl›
   c5:=bB (ps:=["net","stream","begun"]) X G T.D5 rfl ‹wQ fun _ _ _=>rfl›
   c6:=bB (ps:=["net","come","place"]) X G T.D6 rfl ‹wQ fun _ _ _=>rfl›
   c7:=bB (ps:=["stream","steps","loads"]) X G T.D7 rfl ‹wQ fun _ _ _=>rfl›
   c8:=bB (ps:=["net"]) X G T.D8 rfl ‹Ad fun _=>rfl›
   c9:=bB (ps:=["pairs","rate"]) X G T.D9 rfl ‹ie fun _ _=>rfl›
   SJ:=bB (ps:=["net"]) X G T.D10 rfl ‹Ad fun _=>rfl›
   YG:=bB (ps:=["net","rate"]) X G T.D11 rfl ‹ie fun _ _=>rfl›
   c12:=bB (ps:=["net","place"]) X G T.D12 rfl ‹ie fun _ _=>rfl›
   c13:=bB (ps:=["net","place"]) X G T.D13 rfl ‹ie fun _ _=>rfl›
   c14:=bB (ps:=["net","stream","place"]) X G T.D14 rfl ‹wQ fun _ _ _=>rfl›
   c15:=bB (ps:=["net","stream"]) X G T.D15 rfl ‹ie fun _ _=>rfl›
   c16:=bB (ps:=["net","last"]) X G T.D16 rfl ‹ie fun _ _=>rfl›
   c17:=bB (ps:=["bends","last"]) X G T.D17 rfl ‹ie fun _ _=>rfl›
   YH:=bB (ps:=["net","last"]) X G T.D18 rfl ‹ie fun _ _=>rfl›
   c19:=bB (ps:=["net","last"]) X G T.D19 rfl ‹ie fun _ _=>rfl›
   c20:=bB (ps:=["net"]) X G T.D20 rfl ‹Ad fun _=>rfl›
   c21:=bB (ps:=["net"]) X G T.D21 rfl ‹Ad fun _=>rfl›
   Wl:=bB (ps:=["net","last"]) X G T.D22 rfl ‹ie fun _ _=>rfl›
   YJ:=bB (ps:=["cell"]) X G T.D23 rfl ‹Ad fun _=>rfl›
   SM:=bB (ps:=["pool","base"]) X G T.D24 rfl ‹ie fun _ _=>rfl›
   Wm:=bB (ps:=["pool","base"]) X G T.D25 rfl ‹ie fun _ _=>rfl›
   c26:=bB (ps:=["pool","many","most","longest"]) X G T.D26 rfl ‹lk4 fun _ _ _ _=>rfl›
   YK:=bB (ps:=["pool","places","count"]) X G T.D27 rfl ‹wQ fun _ _ _=>rfl›
   YL:=bB (ps:=["pool","net"]) X G T.D28 rfl ‹ie fun _ _=>rfl›
   YM:=bB (ps:=["pool","net","hours"]) X G T.D29 rfl ‹wQ fun _ _ _=>rfl›
   YQ:=bB (ps:=["script","most"]) X G T.D30 rfl ‹ie fun _ _=>rfl›
   c31:=bB (ps:=["script"]) X G T.D31 rfl ‹Ad fun _=>rfl›}|n+1=>have ih:=DN (Pg:=Pg) (w:=w) (base:=base) T X G n
   {c0:=bD (ps:=["net","step"]) X G T.D0 rfl rfl ‹ie fun _ _=>rfl› fun _ _ F=>d0 (cl:=iZ T) F
    c1:=bD (ps:=["net","step"]) X G T.D1 rfl rfl ‹ie fun _ _=>rfl› fun _ _ F=>d1 (cl:=iZ T) F
    c2:=bD (ps:=["net","stream","step"]) X G T.D2 rfl rfl ‹wQ fun _ _ _=>rfl› fun _ _ F=>d2 (cl:=iZ T) F
    c3:=bD (ps:=["net","steps"]) X G T.D3 rfl rfl ‹ie fun _ _=>rfl› fun _ _ F=>d3 (cl:=iZ T) F (mg_none_of X G T.eU) ih.c1
    c4:=bD (ps:=["net","stream"]) X G T.D4 rfl rfl ‹ie fun _ _=>rfl› fun _ _ F=>d4 (cl:=iZ T) F (mg_none_of X G T.eV) (mg_none_of X G T.cL) ih.c0 ih.c2
    c5:=bD (ps:=["net","stream","begun"]) X G T.D5 rfl rfl ‹wQ fun _ _ _=>rfl› fun _ _ F=>d5 (cl:=iZ T) F (mg_none_of X G T.eV) (mg_none_of X G T.jJ) ih.c4 ih.c1 ih.c0
    c6:=bD (ps:=["net","come","place"]) X G T.D6 rfl rfl ‹wQ fun _ _ _=>rfl› fun _ _ F=>d6 (cl:=iZ T) F (mg_none_of X G T.jK) (mg_none_of X G T.cX) ih.c0
    c7:=bD (ps:=["stream","steps","loads"]) X G T.D7 rfl rfl ‹wQ fun _ _ _=>rfl› fun _ _ F=>d7 (cl:=iZ T) F (mg_none_of X G T.jJ)
    c8:=bD (ps:=["net"]) X G T.D8 rfl rfl ‹Ad fun _=>rfl› fun _ _ F=>d8 (cl:=iZ T) F (mg_none_of X G T.eV) (mg_none_of X G T.kW) ih.c5 ih.c2 ih.c6 ih.c7
    c9:=bD (ps:=["pairs","rate"]) X G T.D9 rfl rfl ‹ie fun _ _=>rfl› fun _ _ F=>d9 (cl:=iZ T) F (mg_none_of X G T.kW)
    SJ:=bD (ps:=["net"]) X G T.D10 rfl rfl ‹Ad fun _=>rfl› fun _ _ F=>d10 (cl:=iZ T) F (mg_none_of X G T.gC) ih.c8 ih.c3
    YG:=bD (ps:=["net","rate"]) X G T.D11 rfl rfl ‹ie fun _ _=>rfl› fun _ _ F=>d11 (cl:=iZ T) F (mg_none_of X G T.eU) ih.SJ ih.c9
    c12:=bD (ps:=["net","place"]) X G T.D12 rfl rfl ‹ie fun _ _=>rfl› fun _ _ F=>d12 (cl:=iZ T) F (mg_none_of X G T.dq)
    c13:=bD (ps:=["net","place"]) X G T.D13 rfl rfl ‹ie fun _ _=>rfl› fun _ _ F=>d13 (cl:=iZ T) F (mg_none_of X G T.dq)
    c14:=bD (ps:=["net","stream","place"]) X G T.D14 rfl rfl ‹wQ fun _ _ _=>rfl› fun _ _ F=>d14 (cl:=iZ T) F (mg_none_of X G T.eU) ih.c13 ih.c12
    c15:=bD (ps:=["net","stream"]) X G T.D15 rfl rfl ‹ie fun _ _=>rfl› fun _ _ F=>d15 (cl:=iZ T) F ih.c14
    c16:=bD (ps:=["net","last"]) X G T.D16 rfl rfl ‹ie fun _ _=>rfl› fun _ _ F=>d16 (cl:=iZ T) F ih.SJ
    c17:=bD (ps:=["bends","last"]) X G T.D17 rfl rfl ‹ie fun _ _=>rfl› fun _ _ F=>d17 (cl:=iZ T) F (mg_none_of X G T.eU)
    YH:=bD (ps:=["net","last"]) X G T.D18 rfl rfl ‹ie fun _ _=>rfl› fun _ _ F=>d18 (cl:=iZ T) F ih.SJ ih.c17
    c19:=bD (ps:=["net","last"]) X G T.D19 rfl rfl ‹ie fun _ _=>rfl› fun _ _ F=>d19 (cl:=iZ T) F (mg_none_of X G T.eU) ih.c16
    c20:=bD (ps:=["net"]) X G T.D20 rfl rfl ‹Ad fun _=>rfl› fun _ _ F=>d20 (cl:=iZ T) F (mg_none_of X G T.cX)
    c21:=bD (ps:=["net"]) X G T.D21 rfl rfl ‹Ad fun _=>rfl› fun _ _ F=>d21 (cl:=iZ T) F (mg_none_of X G T.eV) (mg_none_of X G T.gC) (mg_none_of X G T.cX) ih.c8 ih.c20 ih.c5 ih.c15 ih.c7
    Wl:=bD (ps:=["net","last"]) X G T.D22 rfl rfl ‹ie fun _ _=>rfl› fun _ _ F=>d22 (cl:=iZ T) F ih.c19
    YJ:=bD (ps:=["cell"]) X G T.D23 rfl rfl ‹Ad fun _=>rfl› fun _ _ F=>d23 (cl:=iZ T) F (mg_none_of X G T.pJ)
    SM:=bD (ps:=["pool","base"]) X G T.D24 rfl rfl ‹ie fun _ _=>rfl› fun _ _ F=>d24 (cl:=iZ T) F
    Wm:=bD (ps:=["pool","base"]) X G T.D25 rfl rfl ‹ie fun _ _=>rfl› fun _ _ F=>d25 (cl:=iZ T) F (mg_none_of X G T.cL) ih.SM
    c26:=bD (ps:=["pool","many","most","longest"]) X G T.D26 rfl rfl ‹lk4 fun _ _ _ _=>rfl› fun _ _ F=>d26 (cl:=iZ T) F ih.SM ih.Wm
    YK:=bD (ps:=["pool","places","count"]) X G T.D27 rfl rfl ‹wQ fun _ _ _=>rfl› fun _ _ F=>d27 (cl:=iZ T) F (mg_none_of X G T.cL) (mg_none_of X G T.cX) ih.SM ih.c26
    YL:=bD (ps:=["pool","net"]) X G T.D28 rfl rfl ‹ie fun _ _=>rfl› fun _ _ F=>d28 (cl:=iZ T) F ih.SM ih.Wm ih.SJ
    YM:=bD (ps:=["pool","net","hours"]) X G T.D29 rfl rfl ‹wQ fun _ _ _=>rfl› fun _ _ F=>d29 (cl:=iZ T) F ih.Wm ih.c21 ih.Wl
    YQ:=bD (ps:=["script","most"]) X G T.D30 rfl rfl ‹ie fun _ _=>rfl› fun _ _ F=>d30 (cl:=iZ T) F (mg_none_of X G T.eV) (mg_none_of X G T.kW) (mg_none_of X G T.cL)
    c31:=bD (ps:=["script"]) X G T.D31 rfl rfl ‹Ad fun _=>rfl› fun _ _ F=>d31 (cl:=iZ T) F (mg_none_of X G T.pJ) ih.YQ ih.YL ih.YK ih.YJ ih.YM ih.Wl ih.YG ih.YH}
set_option maxHeartbeats 0 in
theorem Pq{Pg:Program}{w:World}{K:PySem.W.Frag}{mg:Str->Option Value}{h:Heap}{fa:Addr}(T:Txt K)(X:K.In h)(G:h.Ns mainGlobals mg)(hmg:mg "law"=some (.ref fa)):∃fd:FuncData,(∀(s:Shared)(u:Value),BindsTo s fd ⟨[u],[]⟩ [("script",u)])/\∀base:Heap,K.In base->base.Ns mainGlobals mg->bJ Pg w K mg base gf 40 fa fd ["script"] (gD K 1 (run Γ 100000000 40 31)):=by
 obtain⟨f,fd,a,F⟩:=T.D31.ex;have e:=hmg.symm.trans (mg_of X G a);cases e;refine⟨fd,fun s u=>?_,fun base kb nb=>?_⟩;.obtain⟨oc,od,kV,doc,pm,an,cdv,ct,osl,rfl,lk,hcd⟩:=F.ex;exact .of_eq rfl
 .have ih:=DN (Pg:=Pg) (w:=w) (base:=base) T kb nb 39;exact d31 (cl:=iZ T) (k:=39) (n:=100000000) (c:=run Γ 100000000 39) F (mg_none_of X G T.pJ) ih.YQ ih.YL ih.YK ih.YJ ih.YM ih.Wl ih.YG ih.YH
end T
open PySem PySem.W PyProof.Rows
set_option maxRecDepth 100000 in
set_option maxHeartbeats 0 in
theorem PySem.Challenge.cw_hourhaul_k46_whole_least_hours_and_the_m_holds : PySem.Challenge.rw_hourhaul_k46_whole_least_hours_and_the_m.Holds := by
 w_on;o_law;k_head;(case hw=>w_witness2);k_fill;refine L2.DK (l:=PySem.Challenge.rw_hourhaul_k46_whole_least_hours_and_the_m) (n:=63) (k:=40) (x:="script") (CX:=L2.gf) (sp:=fun K=>HH.gD K 1 (HH.run T.Γ 100000000 40 31)) rfl (by decide) rfl ⟨rfl,by decide,by decide⟩ (fun w h Y=>PySem.W.kIn_of Y) ?F ?S ?C;case F=>
  intro w mg fa h KX G hmg;refine T.Pq ?T KX G hmg;constructor;iterate 32(· refine' HH.Qm ?a ?l ?c ?k;case a|l|c|k=>k_is)
  iterate 10(· k_is)
 case S=>intro K H a ns hl hO hS;obtain⟨as,e⟩:=T.GR ns hl;exact HH.zT hS e
 case C=>exact fun H s e s' z=>z
