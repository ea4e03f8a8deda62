import PyProof.Rows.All
import Wide.All
import OpenK.AllK
import Wide.FinOn
import Lean
import PyProof.EqAt
import PyProof.EqKinds
import PyProof.TupleCall
import PySem.Str
import PySem.Builtin.Int.W1All
import PyProof.NeKinds
import PyProof.ZipIter
import PyProof.SumWalkG
import PyProof.MinMaxWalk
import PyProof.WalksMore
import PyProof.SeqI3
import PyProof.WalkInts
import PyProof.Rows.CallKwBuiltin
import PyProof.Rows.Tup
import PyProof.CollectIter
import PyProof.EnumMake
import PyProof.TupleOfSeq
import PyProof.ListNew
import PyProof.ReprLoop
import PyProof.StationsW
import PyProof.ExcClass3
import PyProof.Rows.CatchBare
import OpenK.KOwn
import KE.KIsAll
import PyProof.NsDelKeeps
import PyProof.RulesAs
import PyProof.ExcArgsOwn
import PyProof.ListRange
import KE.RegKIsAll
import KE.KRevIter
import PyProof.Rows.SortRuns
import KE.KSortTup
import PyProof.DictWalks
import KE.KDictList
import KE.KItemsList
import PyProof.ExcBaseAll.ValueError
import PySem.Challenge.RW_hourhaul_k45_gains_of_hours
set_option Elab.async false
set_option linter.all false
set_option maxRecDepth 100000
set_option genSizeOf false
set_option compiler.extract_closed false
set_option bootstrap.genMatcherCode false
open List(replicate getElem?_set_ne getElem?_set_self mem_map size_toArray mem_cons map_cons length_map map_map mem_append length_cons mem_singleton mem_cons_of_mem length_append append_assoc nodup_cons getElem?_append_left mem_of_getElem? all_eq_true getElem?_map lookup_cons find?_cons map_congr_left mem_append_right append_nil any_cons all_cons foldl filterMap_cons mem_cons_self replicate_succ drop_eq_getElem_cons mem_range length_take getElem?_append_right length_range getElem_mem getD_eq_getElem?_getD mem_filter getElem?_eq_getElem take_of_length_le cons_append map_id length_drop reverse_cons flatten_cons map_nil nil_append getElem?_take drop_eq_nil_iff nodup_append of_mem_zip length_nil map_append map_set sum_cons map)
open Nat(le_refl ne_of_lt zero_le lt_of_lt_of_le le_trans lt_irrefl le_of_lt le_succ)
open PySem.Heap(lt_size get?_push_of_some get?_push_size get?_update_other size_push get?_update_self SameBut)
open PySem.W(mg_none_of keepIn methodObj mg_of kitx_dict)
open PySem.Builtin.Tuple(tupleExact tupleItemsOf)
open Bool(and_eq_true false_eq_true or_eq_true not_eq_true')
open Option(map_eq_some_iff bind_some isSome_map getD_none getD_some)
open Array(length_toList toList_push toList)
open PySem.Builtin.Slice(slicePlaces sliceAdjust sliceApplied)
open PySem.Builtin.List(listExtendWith listTooLong listLengthHint listSameRef)
open PySem.SeqAt.EqAt(int_str str_int none_bool none_int none_str bool_none bool_bool bool_int bool_str int_none int_bool int_int str_none str_bool str_str)
open PySem.F(slot_tuple_add entry_tuple_add args_tuple_add_2 slot_tuple_mul slot_dict_get)
open PySem.SeqAt.RcAt(lists_lengths)
open Int(sub_zero mul_comm mul_one mul_add mul_neg)
open PySem.SeqAt.RcNeAt(int_list str_list list_int list_str)
section
namespace L2
open PySem PySem.Spec PyProof.Rows
noncomputable abbrev Key:=Sum Int Str
noncomputable def mY:Key->Value->Bool|.inl k,v=>Value.isInt k v|.inr x,v=>Value.isStrOf x v
noncomputable def abX(w:World):Key->Int|.inl k=>hashInt k|.inr x=>hashStr w x
theorem bf:∀{k:Key}{v:Value},mY k v=true->(∃i t,k=Sum.inl i/\v=Value.int i t)\/(∃x t,k=Sum.inr x/\v=Value.str x t)|.inl i,v,h=>by obtain⟨t,e⟩:=Value.isInt_shape (k:=i) (v:=v) h;exact .inl ⟨i,t,rfl,e⟩|.inr x,v,h=>by obtain⟨t,e⟩:=Value.isStrOf_shape (x:=x) (v:=v) h;exact .inr ⟨x,t,rfl,e⟩
theorem Dg(i:Int)(t:Tok):mY (.inl i) (.int i t)=true:=by simp[mY,Value.isInt]
theorem Cg(x:Str)(t:Tok):mY (.inr x) (.str x t)=true:=by simp[mY,Value.isStrOf]
theorem Pz(a b:Int):decide ((Sum.inl a:Key)=Sum.inl b)=(a==b):=by
 by_cases e:a=b;.subst e;simp
 .have h:¬(Sum.inl a:Key)=Sum.inl b:=fun q=>e (Sum.inl.inj q);rw[decide_eq_false h];exact(beq_eq_false_iff_ne.mpr e).symm
theorem Qp(a b:Str):decide ((Sum.inr a:Key)=Sum.inr b)=decide (a=b):=by
 by_cases e:a=b;.subst e;simp
 .have h:¬(Sum.inr a:Key)=Sum.inr b:=fun q=>e (Sum.inr.inj q);rw[decide_eq_false h,decide_eq_false e]
theorem Qz(a:Int)(b:Str):decide ((Sum.inl a:Key)=Sum.inr b)=false:=decide_eq_false (fun q=>nomatch q)
theorem Qa(a:Str)(b:Int):decide ((Sum.inr a:Key)=Sum.inl b)=false:=decide_eq_false (fun q=>nomatch q)
noncomputable def aU(prog:Program)(w:World):PySem.KeyKind prog w Key where
 is:=mY;hash:=abX w;inj:=fun v a b ha hb=>by
  rcases bf ha with⟨i,t,rfl,rfl⟩|⟨x,t,rfl,rfl⟩
  . rcases bf hb with⟨j,u,rfl,e⟩|⟨y,u,rfl,e⟩;.injection e with e1 _;rw[e1]
    .exact nomatch e
  . rcases bf hb with⟨j,u,rfl,e⟩|⟨y,u,rfl,e⟩;.exact nomatch e
    .injection e with e1 _;rw[e1]
 byValue:=fun k v h=>by rcases bf h with⟨i,t,rfl,rfl⟩|⟨x,t,rfl,rfl⟩<;>rfl
 pyHash:=fun hv h=>by
  rcases bf hv with⟨i,t,rfl,rfl⟩|⟨x,t,rfl,rfl⟩;.exact wpAny_pyHash_int h
  .exact wpAny_pyHash_str h
 eqBool:=fun hu hv h=>by
  rcases bf hu with⟨i,t,rfl,rfl⟩|⟨x,t,rfl,rfl⟩
  . rcases bf hv with⟨j,u,rfl,rfl⟩|⟨y,u,rfl,rfl⟩;.rw[Pz]at h;exact wpAny_eqBool_int h
    .rw[Qz]at h;exact int_str i t y u _ _ _ _ h
  . rcases bf hv with⟨j,u,rfl,rfl⟩|⟨y,u,rfl,rfl⟩;.rw[Qa]at h;exact str_int x t j u _ _ _ _ h
    .rw[Qp]at h;exact wpAny_eqBool_str h
 «strs»:=fun k x t v h=>by
  rcases bf h with⟨i,u,rfl,e⟩|⟨y,u,rfl,e⟩;.exact nomatch e
  .injection e with e1 _;subst e1;cases v<;>rfl
theorem vM(prog:Program)(w:World)(i:Int)(t:Tok):(aU prog w).is (.inl i) (.int i t)=true:=Dg i t
theorem v8(prog:Program)(w:World)(x:Str)(t:Tok):(aU prog w).is (.inr x) (.str x t)=true:=Cg x t
inductive V where|non|bl(b:Bool)|int(i:Int)|str(x:Str)|byt(b:Array UInt8)|flt(b:UInt64)|ref(a:Addr)|ty(n:String)deriving DecidableEq
def RelV:V->Value->Prop|.non,u=>u=Value.none|.bl b,u=>u=Value.bool b|.int i,u=>∃t,u=Value.int i t|.str x,u=>∃t,u=Value.str x t|.byt b,u=>∃t,u=Value.bytes b t|.flt b,u=>∃t,u=Value.float b t|.ref a,u=>u=Value.ref a|.ty n,u=>u=Value.type n
abbrev Vals:List V->List Value->Prop:=Paired RelV
theorem Vals.length{xs:List V}{us:List Value}(r:Vals xs us):xs.length=us.length:=Paired.length r
theorem Vals.get:∀{xs:List V}{us:List Value}{i:Nat}{x:V},Vals xs us->xs[i]?=some x->∃u,us[i]?=some u/\RelV x u|_,_,_,_,.nil,e=>by simp at e|_,_,0,_,.cons r _,e=>by simp at e;subst e;exact⟨_,rfl,r⟩|_,_,i+1,x,.cons _ t,e=>by obtain⟨u,h1,h2⟩:=Vals.get (i:=i) (x:=x) t (by simpa using e);exact⟨u,by simpa using h1,h2⟩
theorem Vals.set{x:V}{u:Value}(r:RelV x u):∀{xs:List V}{us:List Value}(i:Nat),Vals xs us->Vals (xs.set i x) (us.set i u)|_,_,_,.nil=>.nil|_,_,0,.cons _ t=>.cons r t|_,_,i+1,.cons q t=>.cons q (Vals.set r i t)
theorem Vals.append:∀{xs ys:List V}{us ws:List Value},Vals xs us->Vals ys ws->Vals (xs++ys) (us++ws)|_,_,_,_,.nil,s=>s|_,_,_,_,.cons r t,s=>.cons r (Vals.append t s)
theorem Vals.take:∀{xs:List V}{us:List Value}(n:Nat),Vals xs us->Vals (xs.take n) (us.take n)|_,_,0,_=>.nil|_,_,_+1,.nil=>.nil|_,_,n+1,.cons r t=>.cons r (Vals.take n t)
theorem Vals.drop:∀{xs:List V}{us:List Value}(n:Nat),Vals xs us->Vals (xs.drop n) (us.drop n)|_,_,0,r=>r|_,_,_+1,.nil=>.nil|_,_,n+1,.cons _ t=>Vals.drop n t
def nD:Option V->Option Value->Prop|some v,some u=>RelV v u|none,none=>True|_,_=>False
def KV{κ:Type}:List (κ×V)->List (κ×Value)->Prop:=Paired fun(p:κ×V)(q:κ×Value)=>p.1=q.1/\RelV p.2 q.2
noncomputable def kV:Key->V|.inl i=>.int i|.inr x=>.str x
inductive HO where/--a list -/|lst(xs:List V)/--a tuple (never changes) -/|tup(xs:List V)/--a dict whose keys are ints and texts;one whose keys are tuples of ints and texts (the empty one is both) -/|dK(kvs:List (Key×V))|dT(kvs:List (List Key×V))/--a set of ints: its members,its size -/|set(S:Int->Bool)(n:Nat)/--an instance of the class at C,its dict at dx,its attributes -/|ins(C dx:Addr)(fs:List (Str×V))/--the dict of the instance at x -/|own(x:Addr)/--the dict of an exception -/|xd(fs:List (Str×V))/--a bound method,f of x -/|met(f x:Addr)/--a range object lo,lo+1,.. below hi -/|wU(lo hi:Int)/--a thing that is known to the object (the script;a dict while a loop walks it): read,never written while it is so -/|cN(o:Obj)(u:HO)/--a code object's table -/|Th(ps:Array Value)/--any other thing,by what is true of its one object (a def of one's own: SetO a S n:=HO.ext fun h=>..) -/|ext(φ:Heap->Prop)
noncomputable abbrev Hp:=Addr->Option HO
noncomputable def upd(H:Hp)(a:Addr)(o:HO):Hp:=fun b=>if b=a then some o else H b
theorem aJ{H:Hp}{a:Addr}{o:HO}:upd H a o a=some o:=by unfold upd;rw[if_pos rfl]
theorem aA{H:Hp}{a b:Addr}{o:HO}(h:b≠a):upd H a o b=H b:=by unfold upd;rw[if_neg h]
theorem Ao{H:Hp}{a:Addr}{o u:HO}:upd (upd H a o) a u=upd H a u:=by funext b;unfold upd;split<;>rfl
theorem Xg{H:Hp}{a b:Addr}{o u:HO}(h:H a=some o)(h':H b=some u)(d:o≠u):a≠b:=by intro e;subst e;rw[h]at h';exact d (Option.some.inj h')
theorem eO{H:Hp}{a b:Addr}{o:HO}(h:H a=some o)(h':H b=none):a≠b:=by intro e;subst e;rw[h]at h';cases h'
section
variable(P:Program)(w:World)
def bu(H:Hp)(h:Heap)(a:Addr):HO->Prop|.lst xs=>xs.length<=sizeLine/\∃(its:List Value)(n:Nat),Vals xs its/\h.get? a=some {cls:=.type "list",data:=.seq its.toArray n}|.tup xs=>xs.length<=sizeLine/\∃its:List Value,Vals xs its/\IsTup h a its.toArray|.dK kvs=>kvs.length<=sizeLine/\(a==sysModules)=false/\∃vs,KV kvs vs/\h.DictOf (aU P w) a vs|.dT kvs=>kvs.length<=sizeLine/\(a==sysModules)=false/\∃xs:List (List Key×Addr×Value),Paired (fun(p:List Key×V)(q:List Key×Addr×Value)=>p.1=q.1/\H q.2.1=some (.tup (p.1.map kV))/\RelV p.2 q.2.2) kvs xs/\∃o es ep,h.get? a=some o/\o.ExactDict/\o.data=.dict es ep/\es.toList=xs.map (entryOfKey (tupleKind (aU P w)))/\(xs.map (·.1)).Nodup|.set S n=>h.SetOf (intKind P w) a S n|.ins C dx fs=>H dx=some (.own a)/\fs.length<=1000/\dx≠a/\h.get? a=some (PySem.W.instObj C dx)/\∃mA,h.Ns1 dx mA/\(∀f,nD (fs.lookup f) (mA f))/\PySem.Within mA (fs.map (·.1))|.own _=>∃o,h.get? a=some o|.xd fs=>∃mA,h.Ns1 a mA/\∀f,nD (fs.lookup f) (mA f)|.wU lo hi=>∃t u v,h.get? a=some {cls:=.type "range",data:=.fields #[.int lo t,.int hi u,.int 1 v]}|.cN o u=>h.get? a=some o/\bu H h a u|.Th ps=>h.get? a=some {cls:=.none,data:=.fields ps}|.met f x=>h.get? a=some (methodObj (.ref f) (.ref x))|.ext φ=>φ h/\(∃o,h.get? a=some o)/\∀h1 h2:Heap,φ h1->(∀o,h1.get? a=some o->h2.get? a=some o)->φ h2
def lN(H:Hp)(h:Heap):Prop:=∀a o,H a=some o->bu P w H h a o
end
section
variable{P:Program}{w:World}{H H':Hp}{h h':Heap}{a:Addr}{o:HO}
theorem bu.lt(x:bu P w H h a o):a<h.objs.size:=by cases o with|lst xs=>obtain⟨_,_,_,_,e⟩:=x;exact lt_size e|tup xs=>obtain⟨_,_,_,p⟩:=x;exact p.lt|dK kvs=>obtain⟨_,_,_,_,o,_,_,e,_⟩:=x;exact lt_size e|dT kvs=>obtain⟨_,_,_,_,o,_,_,e,_⟩:=x;exact lt_size e|set S n=>obtain⟨o,_,_,_,e,_⟩:=x;exact lt_size e|ins C dx fs=>obtain⟨_,_,_,e,_⟩:=x;exact lt_size e|own y=>obtain⟨_,e⟩:=x;exact lt_size e|xd fs=>obtain⟨_,⟨_,_,_,e,_⟩,_⟩:=x;exact lt_size e|wU lo hi=>obtain⟨_,_,_,e⟩:=x;exact lt_size e|cN ob u=>obtain⟨e,_⟩:=x;exact lt_size e|Th ps=>exact lt_size (show h.get? a=some _ from x)|met f y=>exact lt_size (show h.get? a=some _ from x)|ext φ=>obtain⟨_,⟨_,e⟩,_⟩:=x;exact lt_size e
theorem Paired.R7{α β:Type}{F G:α->β->Prop}:∀{l₁:List α}{l₂:List β},Paired F l₁ l₂->(∀a b,F a b->G a b)->Paired G l₁ l₂|_,_,.nil,_=>.nil|_,_,.cons r t,f=>.cons (f _ _ r) (Paired.R7 t f)
theorem bu.stay(x:bu P w H h a o)(k:∀b u,(b=a\/H b=some (.own a))->h.get? b=some u->h'.get? b=some u)(ho:∀b,H b=some (.own a)->H' b=some (.own a))(ht:∀b xs,H b=some (.tup xs)->H' b=some (.tup xs)):bu P w H' h' a o:=by induction o with|lst xs=>obtain⟨z,its,n,r,e⟩:=x;exact⟨z,its,n,r,k _ _ (.inl rfl) e⟩|tup xs=>obtain⟨z,its,r,ob,e,c⟩:=x;exact⟨z,its,r,ob,k _ _ (.inl rfl) e,c⟩|dK kvs=>obtain⟨z,y,vs,r,ob,es,ep,e,c⟩:=x;exact⟨z,y,vs,r,ob,es,ep,k _ _ (.inl rfl) e,c⟩|dT kvs=>obtain⟨z,y,xs,r,ob,es,ep,e,c⟩:=x;exact⟨z,y,xs,Paired.R7 r fun p q z=>⟨z.1,ht _ _ z.2.1,z.2.2⟩,ob,es,ep,k _ _ (.inl rfl) e,c⟩|set S n=>obtain⟨ob,es,ep,t,e,c⟩:=x;exact⟨ob,es,ep,t,k _ _ (.inl rfl) e,c⟩|ins C dx fs=>obtain⟨d,z,ne,e,mA,⟨od,es,ep,e2,c⟩,r⟩:=x;exact⟨ho _ d,z,ne,k _ _ (.inl rfl) e,mA,⟨od,es,ep,k _ _ (.inr d) e2,c⟩,r⟩|own y=>obtain⟨ob,e⟩:=x;exact⟨ob,k _ _ (.inl rfl) e⟩|xd fs=>obtain⟨mA,⟨od,es,ep,e,c⟩,r⟩:=x;exact⟨mA,⟨od,es,ep,k _ _ (.inl rfl) e,c⟩,r⟩|wU lo hi=>obtain⟨t,u,v,e⟩:=x;exact⟨t,u,v,k _ _ (.inl rfl) e⟩|cN ob u ih=>obtain⟨e,q⟩:=x;exact⟨k _ _ (.inl rfl) e,ih q⟩|Th ps=>have e:h.get? a=some {cls:=.none,data:=.fields ps}:=x;show h'.get? a=some {cls:=.none,data:=.fields ps};exact k a _ (.inl rfl) e|met f y=>have e:h.get? a=some (methodObj (.ref f) (.ref y)):=x;show h'.get? a=some (methodObj (.ref f) (.ref y));exact k a _ (.inl rfl) e|ext φ=>obtain⟨p,⟨o,e⟩,st⟩:=x;exact⟨st _ _ p fun o q=>k _ _ (.inl rfl) q,⟨o,k _ _ (.inl rfl) e⟩,st⟩
theorem lN.lt(x:lN P w H h)(e:H a=some o):a<h.objs.size:=(x a o e).lt
theorem lN.fresh(x:lN P w H h)(e:h.objs.size<=a):H a=none:=by cases q:H a with|none=>rfl|some u=>exact absurd (lt_of_lt_of_le (x.lt q) e) (lt_irrefl _)
theorem lN.kept(x:lN P w H h)(k:∀b u,h.get? b=some u->h'.get? b=some u):lN P w H h':=fun a o e=>(x a o e).stay (fun b u _ q=>k b u q) (fun _ q=>q) fun _ _ q=>q
theorem lN.laid(x:lN P w H h)(k:∀b u,h.get? b=some u->h'.get? b=some u)(hp:h.objs.size<=a)(new:bu P w (upd H a o) h' a o):lN P w (upd H a o) h':=fun b u e=>by
 have hn:=x.fresh hp;by_cases hb:b=a;.subst hb;rw[aJ]at e;cases e;exact new
 .rw[aA hb]at e;exact(x b u e).stay (fun c v _ q=>k c v q) (fun c q=>by rw[aA (eO q hn)];exact q) fun c xs q=>by rw[aA (eO q hn)];exact q
end
def Rd(H:Hp)(a:Addr)(u:HO):Prop:=H a=some u\/∃o,H a=some (.cN o u)
theorem Rd.ok{P:Program}{w:World}{H:Hp}{h:Heap}{a:Addr}{u:HO}(r:Rd H a u)(x:lN P w H h):bu P w H h a u:=by
 rcases r with r|⟨o,r⟩;.exact x a u r
 .obtain⟨_,q⟩:=x a _ r;exact q
def XS:Option HO->Prop|some (.lst _)=>True|some (.dK _)=>True|some (.dT _)=>True|some (.set _ _)=>True|some (.ins _ _ _)=>True|some (.ext _)=>True|_=>False
section
variable{P:Program}{w:World}{H:Hp}{h h':Heap}{x e:Addr}{o':HO}
theorem lN.write(ok:lN P w H h)(mu:XS (H x))(he:e=x\/H e=some (.own x))(k:∀b u,b≠e->h.get? b=some u->h'.get? b=some u)(heo:∃u,h'.get? e=some u)(new:bu P w (upd H x o') h' x o'):lN P w (upd H x o') h':=fun b u q=>by
 have Yc:∀c y,H c=some (.own y)->c≠x:=fun c y r z=>by subst z;rw[r]at mu;exact mu
 have acY:∀c xs,H c=some (.tup xs)->c≠x:=fun c xs r z=>by subst z;rw[r]at mu;exact mu
 by_cases hb:b=x;.subst hb;rw[aJ]at q;cases q;exact new
 . rw[aA hb]at q;by_cases hbe:b=e
   . have q':H b=some (.own x):=by
      rcases he with z|z;.exact absurd (hbe.trans z) hb
      .rw[hbe];exact z
     rw[q]at q';cases q';obtain⟨v,hv⟩:=heo;exact⟨v,by rw[hbe];exact hv⟩
   . refine(ok b u q).stay (fun c v hc r=>k c v ?_ r) (fun c r=>by rw[aA (Yc c b r)];exact r) fun c xs r=>by rw[aA (acY c xs r)];exact r
     rcases hc with rfl|hc;.exact hbe
     . rintro rfl;rcases he with z|z;.exact Yc c b hc z
       .rw[hc]at z;cases z;exact hb rfl
end
structure Un(fs ex:List Addr)(H H':Hp)(h h':Heap):Prop where
 keep:∀b o,h.get? b=some o->H b=none->b∉fs->b∉ex->h'.get? b=some o
 slot:∀b o,h.get? b=some o->H b=none->b∈fs->b∉ex->∃sl,h'.get? b=some {o with slots:=sl}free:∀b o,h.get? b=some o->H b=none->b∉ex->H' b=none
 there:∀b o,h.get? b=some o->b∉ex->∃o',h'.get? b=some o'
 tups:∀b xs,H b=some (.tup xs)->H' b=some (.tup xs)uE:∀b o u,H b=some (.cN o u)->H' b=some (.cN o u)wV:∀b ps,H b=some (.Th ps)->∃more,H' b=some (.Th (ps++more))
section
variable{fs fs' ex ex':List Addr}{H H1 H2:Hp}{h h1 h2 h':Heap}{a x e:Addr}{o:HO}
theorem Un.any(u:Un fs ex H H1 h h1){b:Addr}{ob:Obj}(q:h.get? b=some ob)(n:H b=none)(hx:b∉ex):∃sl,h1.get? b=some {ob with slots:=sl}:=by
 by_cases hb:b∈fs;.exact u.slot b ob q n hb hx
 .exact⟨ob.slots,u.keep b ob q n hb hx⟩
theorem Un.kept(k:∀b u,h.get? b=some u->h'.get? b=some u):Un fs ex H H h h':=⟨fun b ob q _ _ _=>k b ob q,fun b ob q _ _ _=>⟨ob.slots,k b ob q⟩,fun _ _ _ n _=>n,fun b ob q _=>⟨ob,k b ob q⟩,fun _ _ q=>q,fun _ _ _ q=>q,fun _ ps q=>⟨#[],by rw[q];simp⟩⟩
theorem Un.refl:Un fs ex H H h h:=Un.kept fun _ _ q=>q
theorem Un.laid(k:∀b u,h.get? b=some u->h'.get? b=some u)(hp:h.objs.size<=a)(hn:H a=none):Un fs ex H (upd H a o) h h' where
 keep:=fun b u q _ _ _=>k b u q;slot:=fun b u q _ _ _=>⟨u.slots,k b u q⟩;free:=fun b u q n _=>by rw[aA (ne_of_lt (lt_of_lt_of_le (lt_size q) hp))];exact n
 there:=fun b u q _=>⟨u,k b u q⟩;tups:=fun b xs q=>by rw[aA (eO q hn)];exact q
 uE:=fun b u xs q=>by rw[aA (eO q hn)];exact q
 wV:=fun b ps q=>⟨#[],by rw[aA (eO q hn),q];simp⟩
theorem Un.write(mu:XS (H x))(he:e=x\/H e=some (.own x))(k:∀b u,b≠e->h.get? b=some u->h'.get? b=some u)(heo:∃u,h'.get? e=some u):Un fs ex H (upd H x o) h h':=by
 have hx:∀b,H b=none->b≠x:=fun b n z=>by subst z;rw[n]at mu;exact mu
 have hb:∀b,H b=none->b≠e:=fun b n z=>by
  subst z;rcases he with r|r;.exact hx b n r
  .rw[n]at r;cases r
 have hm:∀b u,H b=some u->¬ XS (some u)->b≠x:=fun b u q nm z=>by subst z;rw[q]at mu;exact nm mu
 refine⟨fun b u q n _ _=>k b u (hb b n) q,fun b u q n _ _=>⟨u.slots,k b u (hb b n) q⟩,fun b u q n _=>by rw[aA (hx b n)];exact n,fun b u q _=>?_,fun b xs q=>by rw[aA (hm b _ q fun z=>z)];exact q,fun b u xs q=>by rw[aA (hm b _ q fun z=>z)];exact q,fun b ps q=>⟨#[],by rw[aA (hm b _ q fun z=>z),q];simp⟩⟩;by_cases hbe:b=e;.subst hbe;exact heo
 .exact⟨u,k b u hbe q⟩
end
noncomputable def Z5(h:Heap)(H:Hp):List Addr:=(List.range h.objs.size).filter fun a=>(H a).isSome
noncomputable def sy(h:Heap)(H:Hp):Heap:=PySem.W.hideAll h (Z5 h H)
theorem Df(h:Heap)(H:Hp):(sy h H).objs.size=h.objs.size:=PySem.W.hideAll_size _ _
theorem GJ{h:Heap}{H:Hp}{b:Addr}{o:Obj}(e:h.get? b=some o)(n:H b=none):(sy h H).get? b=some o:=PySem.W.hideAll_get _ e fun hm=>by have q:(H b).isSome=true:=(mem_filter.mp hm).2;rw[n]at q;simp at q
theorem Ln{h:Heap}{H:Hp}{b:Addr}{o:Obj}(e:(sy h H).get? b=some o):h.get? b=some o/\H b=none:=by have e':h.get? b=some o:=PySem.W.of_hideAll (Z5 h H) e;refine⟨e',?_⟩;cases q:H b with|none=>rfl|some x=>have hm:b∈Z5 h H:=mem_filter.mpr ⟨mem_range.mpr (lt_size e'),by simp[q]⟩;have z:(sy h H).get? b=none:=PySem.W.hideAll_none (Z5 h H) hm;rw[z]at e;cases e
structure Mod(K:PySem.W.Frag)(mg:Str->Option Value)(base:Heap):Prop where
 qx:K.In base
 glob:base.Ns mainGlobals mg
 blt:∃mb,base.Ns builtinsNs mb/\∀x:Str,x≠"__name__"->mb x=bootBuiltins x
 nolimit:base.NoLimit
structure Cx where
 prog:Program
 w:World
 K:PySem.W.Frag
 mg:Str->Option Value
 base:Heap
 A:Around
 N:List Str
 s₀:Shared
 H₀:Hp
 env:Env
 outer:List Env
 stack:List Env
 ex:List Addr
 fn:Str->Bool
 calm:Bool
 pn:List (Addr×Obj)xe:Value->Shared->Prop
noncomputable def frs(l:List Env):List Addr:=l.filterMap (·.frame)
noncomputable abbrev Cx.fs(X:Cx):List Addr:=frs X.outer
def xm(sc:Scope)(x:Str):Prop:=sc.names.lookup x=some .local\/sc.names.lookup x=some .cell\/sc.names.lookup x=some .free
def Loc(sc:Scope)(x:Str):Prop:=sc.names.lookup x=some .local\/sc.names.lookup x=some .cell
def Look(env:Env)(h:Heap)(m:Str->Option Value)(x:Str)(u:Value):Prop:=(env.kindOf x=some .local/\m x=some u)\/((env.kindOf x=some .cell\/env.kindOf x=some .free)/\∃c,env.cells.lookup x=some c/\h.IsCell c (some u))
structure Cx.Ok(X:Cx):Prop where
 mod:Mod X.K X.mg X.base
 kind:X.env.scope.kind=.function
 glob:X.env.globals=mainGlobals
 blt:X.env.builtins=builtinsNs
 above:X.s₀.heap.objs.size<=X.env.locals
 inj:∀x y c,X.env.cells.lookup x=some c->X.env.cells.lookup y=some c->x=y
 has:∀x,(X.env.kindOf x=some .cell\/X.env.kindOf x=some .free)->∃c,X.env.cells.lookup x=some c
 cab:∀x c,X.fn x=true->X.env.cells.lookup x=some c->X.s₀.heap.objs.size<=c
 hd:X.calm=true->X.A.handled=none
 frames:X.A.frames=some X.stack
 stk:X.stack=X.outer\/(X.stack=X.env::X.outer/\X.env.frame=some X.env.locals)exf:∀b∈X.ex,b≠X.env.locals/\∀x c,X.env.cells.lookup x=some c->c≠b
 bs:∀b o,X.base.get? b=some o->X.s₀.heap.get? b=some o/\X.H₀ b=none
 NZ:X.base.objs.size<=X.s₀.heap.objs.size
 HS:∀b o,X.base.get? b=some o->b∉X.ex
 Ly:∀b∈X.ex,b∉X.fs
 o7:X.s₀.heap.FunFrames X.base X.outer
 Vl:∀b∈X.fs,X.H₀ b=none
structure Inv(X:Cx)(pins:List (Addr×Obj))(σ:List (Option V))(H:Hp)(s:Shared):Prop where
 ok:X.Ok
 os:s.os=X.s₀.os
 bare:AllBare s.gens
 base:Un X.fs X.ex X.H₀ H X.s₀.heap s.heap
 loc:∃m,s.heap.Ns X.env.locals m/\∀(i:Nat)(x:Str)(v:V),X.N[i]?=some x->σ[i]?=some (some v)->xm X.env.scope x->∃u,RelV v u/\Look X.env s.heap m x u
 cell:∀x c,X.env.cells.lookup x=some c->∃v,s.heap.IsCell c v
 free:H X.env.locals=none
 jF:∀x c,X.env.cells.lookup x=some c->H c=none
 pin:∀p∈X.pn++pins,s.heap.get? p.1=some p.2/\H p.1=none/\p.1≠X.env.locals/\p.1∉X.fs/\∀v,p.2.data≠.cell v
 hok:lN X.prog X.w H s.heap
 len:σ.length=X.N.length
section
variable{X:Cx}{pins:List (Addr×Obj)}{σ:List (Option V)}{H H':Hp}{s:Shared}{h':Heap}
theorem Cx.Ok.abt(ok:X.Ok){b:Addr}{o:Obj}(e:X.base.get? b=some o):b∉X.fs:=fun hb=>by have:=(ok.o7.mem hb).1;rw[e]at this;cases this
theorem Inv.bs(I:Inv X pins σ H s):∀b o,X.base.get? b=some o->s.heap.get? b=some o/\H b=none:=fun b o e=>⟨I.base.keep b o (I.ok.bs b o e).1 (I.ok.bs b o e).2 (I.ok.abt e) (I.ok.HS b o e),I.base.free b o (I.ok.bs b o e).1 (I.ok.bs b o e).2 (I.ok.HS b o e)⟩
theorem Inv.bk(I:Inv X pins σ H s):∀b o,X.base.get? b=some o->s.heap.get? b=some o:=fun b o e=>(I.bs b o e).1
theorem Inv.mod(I:Inv X pins σ H s):Mod X.K X.mg X.base:=I.ok.mod
theorem Inv.RP(I:Inv X pins σ H s):X.K.In s.heap:=I.ok.mod.qx.keeps I.bk
theorem Inv.lt(I:Inv X pins σ H s):X.env.locals<s.heap.objs.size:=let⟨_,hn,_⟩:=I.loc;hn.lt
theorem Inv.sz(I:Inv X pins σ H s):X.s₀.heap.objs.size<=s.heap.objs.size:=le_trans I.ok.above (le_of_lt I.lt)
theorem Inv.aaG(I:Inv X pins σ H s){a:Addr}(h:s.heap.objs.size<=a):a∉X.fs:=fun hb=>by obtain⟨_,o,ho,_⟩:=I.ok.o7.mem hb;exact absurd (lt_of_lt_of_le (lt_size ho) (le_trans I.sz h)) (lt_irrefl _)
theorem Inv.Qf(I:Inv X pins σ H s):∀x c,X.env.cells.lookup x=some c->c≠X.env.locals:=fun x c e z=>by obtain⟨v,o,ho,hd⟩:=I.cell x c e;obtain⟨m,⟨o',es,ep,ho',hd',_⟩,_⟩:=I.loc;rw[z,ho']at ho;cases ho;rw[hd']at hd;cases hd
theorem Inv.o7(I:Inv X pins σ H s):s.heap.FunFrames X.base X.outer:=by
 have all:∀(l:List Env),(∀b∈frs l,b∈X.fs)->X.s₀.heap.FunFrames X.base l->s.heap.FunFrames X.base l:=by intro l;induction l with|nil=>intro _ _;trivial|cons env r ih=>intro hs hl;obtain⟨hk,⟨L,o,hf,hn,ho,hd⟩,hr⟩:=hl;have hL:L∈X.fs:=hs L (by unfold frs;rw[filterMap_cons,hf];exact mem_cons_self);obtain⟨sl,e⟩:=I.base.slot L o ho (I.ok.Vl L hL) hL fun z=>I.ok.Ly L z hL;exact⟨hk,⟨L,_,hf,hn,e,hd⟩,ih (fun b hb=>hs b (by unfold frs;rw[filterMap_cons,hf];exact mem_cons_of_mem _ hb)) hr⟩
 exact all X.outer (fun _ hb=>hb) I.ok.o7
theorem Inv.stack(I:Inv X pins σ H s):s.heap.FunFrames X.base X.stack:=by
 rcases I.ok.stk with e|⟨e,hf⟩;.rw[e];exact I.o7
 .rw[e];obtain⟨m,hn,_⟩:=I.loc;refine .cons (by rw[I.ok.kind];decide) hf hn ?_ I.o7;exact Heap.get?_none_of_le (le_trans I.ok.NZ I.ok.above)
theorem Inv.tE(I:Inv X pins σ H s):∀b∈frs X.stack,b∈X.env.locals::X.fs:=fun b hb=>by
 rcases I.ok.stk with e|⟨e,hf⟩;.rw[e]at hb;exact mem_cons_of_mem _ hb
 .rw[e]at hb;unfold frs at hb;rw[filterMap_cons,hf]at hb;exact hb
theorem Inv.Bk(I:Inv X pins σ H s):∀b∈frs X.stack,H b=none:=fun b hb=>by
 rcases mem_cons.mp (I.tE b hb)with e|hb;.rw[e];exact I.free
 .obtain⟨_,o,ho,_⟩:=I.ok.o7.mem hb;exact I.base.free b o ho (I.ok.Vl b hb) fun z=>I.ok.Ly b z hb
theorem Inv.step{g':Array GenState}{t':Nat}{d':Drawn}{ch:List Addr}(I:Inv X pins σ H s)(hch:∀b∈ch,(b∈X.ex\/X.s₀.heap.objs.size<=b)/\b≠X.env.locals/\(∀x c,X.env.cells.lookup x=some c->c≠b)/\∀p∈X.pn++pins,p.1≠b)(keep:∀b o,b≠X.env.locals->b∉X.fs->b∉ch->s.heap.get? b=some o->H b=none->h'.get? b=some o)(slot:∀b o,b≠X.env.locals->b∈X.fs->b∉ch->s.heap.get? b=some o->H b=none->∃sl,h'.get? b=some {o with slots:=sl})(free:∀b o,b∉ch->s.heap.get? b=some o->H b=none->H' b=none)(there:∀b o,b∉ch->s.heap.get? b=some o->∃o',h'.get? b=some o')(tups:∀b xs,H b=some (.tup xs)->H' b=some (.tup xs))(uE:∀b o u,H b=some (.cN o u)->H' b=some (.cN o u))(wV:∀b ps,H b=some (.Th ps)->∃more,H' b=some (.Th (ps++more)))(ns:∀m,s.heap.Ns X.env.locals m->h'.Ns X.env.locals m)(hok:lN X.prog X.w H' h')(hg:AllBare g'):Inv X pins σ H' {s with heap:=h',gens:=g',drawn:=d',toks:=t'}:=by
 have neL:∀b o,X.s₀.heap.get? b=some o->b≠X.env.locals:=fun b o e=>ne_of_lt (lt_of_lt_of_le (lt_size e) I.ok.above);have neC:∀b o,X.s₀.heap.get? b=some o->b∉X.ex->b∉ch:=fun b o e hx hb=>by
  rcases(hch b hb).1 with z|z;.exact hx z
  .exact absurd (lt_of_lt_of_le (lt_size e) z) (lt_irrefl _)
 have cellK:∀x c,X.env.cells.lookup x=some c->∀v,s.heap.IsCell c v->h'.IsCell c v:=fun x c e v⟨o,ho,hd⟩=>by
  have Yd:c∉ch:=fun z=>(hch c z).2.2.1 x c e rfl;by_cases hc:c∈X.fs;.obtain⟨sl,q⟩:=slot c o (I.Qf x c e) hc Yd ho (I.jF x c e);exact⟨_,q,hd⟩
  .exact⟨o,keep c o (I.Qf x c e) hc Yd ho (I.jF x c e),hd⟩
 refine⟨I.ok,I.os,hg,⟨fun b o e n hb hx=>?_,fun b o e n hb hx=>?_,fun b o e n hx=>?_,fun b o e hx=>?_,fun b xs e=>tups b xs (I.base.tups b xs e),fun b o xs e=>uE b o xs (I.base.uE b o xs e),fun b ps e=>?_⟩,?_,fun x c e=>?_,?_,fun x c e=>?_,fun p hp=>?_,hok,I.len⟩;.exact keep b o (neL b o e) hb (neC b o e hx) (I.base.keep b o e n hb hx) (I.base.free b o e n hx)
 .obtain⟨sl,e1⟩:=I.base.slot b o e n hb hx;obtain⟨sl',e2⟩:=slot b _ (neL b o e) hb (neC b o e hx) e1 (I.base.free b o e n hx);exact⟨sl',e2⟩
 .obtain⟨o',e1⟩:=I.base.there b o e hx;exact free b o' (neC b o e hx) e1 (I.base.free b o e n hx)
 .obtain⟨o',e1⟩:=I.base.there b o e hx;exact there b o' (neC b o e hx) e1
 .obtain⟨m1,e1⟩:=I.base.wV b ps e;obtain⟨m2,e2⟩:=wV b _ e1;exact⟨m1++m2,by rw[e2,Array.append_assoc]⟩
 . obtain⟨m,hn,hl⟩:=I.loc;refine⟨m,ns m hn,fun i x v e1 e2 e3=>?_⟩;obtain⟨u,r,l⟩:=hl i x v e1 e2 e3;refine⟨u,r,?_⟩;rcases l with l|⟨k,c,e,z⟩;.exact .inl l
   .exact .inr ⟨k,c,e,cellK x c e _ z⟩
 .obtain⟨v,z⟩:=I.cell x c e;exact⟨v,cellK x c e v z⟩
 .obtain⟨m,⟨o,_,_,ho,_⟩,_⟩:=I.loc;exact free _ o (fun z=>(hch _ z).2.1 rfl) ho I.free
 .obtain⟨v,o,ho,hd⟩:=I.cell x c e;exact free c o (fun z=>(hch c z).2.2.1 x c e rfl) ho (I.jF x c e)
 .obtain⟨e,n,ne,nf,d⟩:=I.pin p hp;have Yd:p.1∉ch:=fun z=>(hch p.1 z).2.2.2 p hp rfl;exact⟨keep p.1 p.2 ne nf Yd e n,free p.1 p.2 Yd e n,ne,nf,d⟩
theorem Inv.un{t':Nat}(I:Inv X pins σ H s)(u:Un X.fs [] H H' s.heap h')(hok:lN X.prog X.w H' h'):Inv X pins σ H' {s with heap:=h',toks:=t'}:=by obtain⟨m,⟨o,es,ep,ho,r⟩,_⟩:=id I.loc;obtain⟨sl,hL⟩:=u.any ho I.free (by simp);exact I.step (g':=s.gens) (d':=s.drawn) (ch:=[]) (fun _ z=>nomatch z) (fun b o _ hb _ e n=>u.keep b o e n hb (by simp)) (fun b o _ hb _ e n=>u.slot b o e n hb (by simp)) (fun b o _ e n=>u.free b o e n (by simp)) (fun b o _ e=>u.there b o e (by simp)) u.tups u.uE u.wV (fun m' hm=>by obtain⟨o',es',ep',ho',r'⟩:=hm;rw[ho]at ho';cases ho';exact⟨_,es',ep',hL,r'⟩) hok I.bare
theorem Inv.call{g':Array GenState}{t':Nat}{d':Drawn}{ch:List Addr}(I:Inv X pins σ H s)(u:Un (frs X.stack) ch H H' s.heap h')(hok:lN X.prog X.w H' h')(hg:AllBare g')(hch:∀b∈ch,(b∈X.ex\/X.s₀.heap.objs.size<=b)/\b≠X.env.locals/\(∀x c,X.env.cells.lookup x=some c->c≠b)/\∀p∈X.pn++pins,p.1≠b):Inv X pins σ H' {s with heap:=h',gens:=g',drawn:=d',toks:=t'}:=by obtain⟨m,⟨o,es,ep,ho,r⟩,_⟩:=id I.loc;obtain⟨sl,hL⟩:=u.any ho I.free fun z=>(hch _ z).2.1 rfl;exact I.step (ch:=ch) hch (fun b o hL hb hc e n=>u.keep b o e n (fun z=>(mem_cons.mp (I.tE b z)).elim hL hb) hc) (fun b o _ _ hc e n=>u.any e n hc) (fun b o hc e n=>u.free b o e n hc) (fun b o hc e=>u.there b o e hc) u.tups u.uE u.wV (fun m' hm=>by obtain⟨o',es',ep',ho',r'⟩:=hm;rw[ho]at ho';cases ho';exact⟨_,es',ep',hL,r'⟩) hok hg
theorem Inv.turned{t':Nat}{it:Addr}(I:Inv X pins σ H s)(k:∀b o,b≠it->s.heap.get? b=some o->h'.get? b=some o)(hn:H it=none)(hL:it≠X.env.locals)(h1:it∈X.ex\/X.s₀.heap.objs.size<=it)(h2:∀x c,X.env.cells.lookup x=some c->c≠it)(h3:∀p∈X.pn++pins,p.1≠it):Inv X pins σ H {s with heap:=h',toks:=t'}:=by
 have nit:∀b u,H b=some u->b≠it:=fun b u e z=>by rw[z,hn]at e;cases e
 refine I.step (g':=s.gens) (d':=s.drawn) (ch:=[it]) (fun b hb=>?_) (fun b o _ _ hc e _=>k b o (fun z=>hc (by simp[z])) e) (fun b o _ _ hc e _=>⟨o.slots,k b o (fun z=>hc (by simp[z])) e⟩) (fun _ _ _ _ n=>n) (fun b o hc e=>⟨o,k b o (fun z=>hc (by simp[z])) e⟩) (fun _ _ e=>e) (fun _ _ _ e=>e) (fun b ps e=>⟨#[],by rw[e];simp⟩) (fun m hm=>?_) (fun b u e=>?_) I.bare
 . have e:b=it:=by simpa using hb
   subst e;exact⟨h1,hL,h2,h3⟩
 .obtain⟨o,es,ep,ho,r⟩:=hm;exact⟨o,es,ep,k _ o (Ne.symm hL) ho,r⟩
 . refine(I.hok b u e).stay (fun c v hc q=>k c v ?_ q) (fun _ q=>q) fun _ _ q=>q;rcases hc with z|z;.rw[z];exact nit b u e
   .exact nit c _ z
theorem Inv.tok(I:Inv X pins σ H s)(t:Nat):Inv X pins σ H {s with toks:=t}:=I.un (h':=s.heap) (t':=t) Un.refl I.hok
theorem Inv.kept{t':Nat}(I:Inv X pins σ H s)(k:∀b u,s.heap.get? b=some u->h'.get? b=some u):Inv X pins σ H {s with heap:=h',toks:=t'}:=I.un (Un.kept k) (I.hok.kept k)
theorem Inv.laid{a:Addr}{o:HO}{t':Nat}(I:Inv X pins σ H s)(k:∀b u,s.heap.get? b=some u->h'.get? b=some u)(hp:s.heap.objs.size<=a)(new:bu X.prog X.w (upd H a o) h' a o):Inv X pins σ (upd H a o) {s with heap:=h',toks:=t'}:=I.un (Un.laid k hp (I.hok.fresh hp)) (I.hok.laid k hp new)
theorem Inv.write{x e:Addr}{o:HO}{t':Nat}(I:Inv X pins σ H s)(mu:XS (H x))(he:e=x\/H e=some (.own x))(k:∀b u,b≠e->s.heap.get? b=some u->h'.get? b=some u)(heo:∃u,h'.get? e=some u)(new:bu X.prog X.w (upd H x o) h' x o):Inv X pins σ (upd H x o) {s with heap:=h',toks:=t'}:=I.un (Un.write mu he k heo) (I.hok.write mu he k heo new)
theorem Inv.Am{N5:List (Addr×Obj)}(I:Inv X pins σ H s)(h:∀p∈N5,s.heap.get? p.1=some p.2/\H p.1=none/\p.1≠X.env.locals/\p.1∉X.fs/\∀v,p.2.data≠.cell v):Inv X N5 σ H s:=⟨I.ok,I.os,I.bare,I.base,I.loc,I.cell,I.free,I.jF,fun p hp=>(mem_append.mp hp).elim (fun z=>I.pin p (List.mem_append_left _ z)) (h p),I.hok,I.len⟩
theorem uW{N:List Str}(hN:N.Nodup){i j:Nat}{x:Str}(a:N[i]?=some x)(b:N[j]?=some x):i=j:=by obtain⟨h1,e1⟩:=List.getElem?_eq_some_iff.mp a;obtain⟨h2,e2⟩:=List.getElem?_eq_some_iff.mp b;exact(List.getElem_inj hN).mp (e1.trans e2.symm)
theorem rK{M:Model}{A:Around}{E:Value->Shared->Prop}{i:Nat}{x:Str}{v:V}{u:Value}{Q:Unit->Shared->Prop}(I:Inv X pins σ H s)(hN:X.N.Nodup)(hi:X.N[i]?=some x)(hx:Loc X.env.scope x)(r:RelV v u)(h:∀s',Inv X pins (σ.set i (some v)) H s'->(∃a,SameBut a s.heap s'.heap/\(a=X.env.locals\/X.env.cells.lookup x=some a))->Q () s')(hf:X.fn x=true\/X.env.scope.names.lookup x=some .local:=by first|exact .inl rfl|exact .inr rfl|assumption):wpAny M A (storeName X.env x u) Q E s:=by
 obtain⟨m,hn,hl⟩:=id I.loc;have hcls:(X.env.scope.kind==.class||(X.env.scope.kind==.module&&X.env.locals !=X.env.globals))=false:=by rw[I.ok.kind];rfl
 have hiσ:i<σ.length:=by rw[I.len];exact(List.getElem?_eq_some_iff.mp hi).1
 have Qf:=I.Qf;have tracked:∀{a:Addr}{h':Heap},(∃o,s.heap.get? a=some o/\H a=none)->SameBut a s.heap h'->lN X.prog X.w H h':=fun{a h'}ha hs b ob e=>by
  obtain⟨_,_,hfree⟩:=ha;refine(I.hok b ob e).stay (fun c w' hc q=>(hs.2 c ?_).trans q) (fun _ q=>q) fun _ _ q=>q;rintro rfl;rcases hc with rfl|hc;.rw[hfree]at e;cases e
  .rw[hfree]at hc;cases hc
 rcases hx with hk|hk
 . refine wpAny_storeName_local hk hn (fun h' hn' hs=>?_) hcls;obtain⟨oL,_,_,hoL,_⟩:=id hn;refine h _ ⟨I.ok,I.os,I.bare,⟨fun b o e n hb hx=>?_,fun b o e n hb hx=>?_,I.base.free,fun b o e hx=>?_,I.base.tups,I.base.uE,I.base.wV⟩,⟨_,hn',fun j y v' e1 e2 e3=>?_⟩,fun y c e=>?_,I.free,I.jF,fun p hp=>?_,tracked ⟨oL,hoL,I.free⟩ hs,by simpa using I.len⟩ ⟨_,hs,.inl rfl⟩;.exact(hs.2 b (ne_of_lt (lt_of_lt_of_le (lt_size e) I.ok.above))).trans (I.base.keep b o e n hb hx)
   .obtain⟨sl,e1⟩:=I.base.slot b o e n hb hx;exact⟨sl,(hs.2 b (ne_of_lt (lt_of_lt_of_le (lt_size e) I.ok.above))).trans e1⟩
   .obtain⟨o',e1⟩:=I.base.there b o e hx;exact⟨o',(hs.2 b (ne_of_lt (lt_of_lt_of_le (lt_size e) I.ok.above))).trans e1⟩
   . by_cases hj:j=i;.subst hj;rw[hi]at e1;cases e1;rw[getElem?_set_self hiσ]at e2;cases e2;exact⟨u,r,.inl ⟨hk,by simp⟩⟩
     . rw[getElem?_set_ne (Ne.symm hj)]at e2;obtain⟨u',r',q⟩:=hl j y v' e1 e2 e3;refine⟨u',r',?_⟩;rcases q with⟨k,e⟩|⟨k,c,e,z⟩;.refine .inl ⟨k,?_⟩;have:y≠x:=fun e=>hj (uW hN e1 (e▸hi));simp[this,e]
       .exact .inr ⟨k,c,e,z.sameBut hs (Qf y c e)⟩
   .obtain⟨w',z⟩:=I.cell y c e;exact⟨w',z.sameBut hs (Qf y c e)⟩
   .obtain⟨e,n,ne,nf,d⟩:=I.pin p hp;exact⟨(hs.2 p.1 ne).trans e,n,ne,nf,d⟩
 . have hfn:X.fn x=true:=by
    rcases hf with z|z;.exact z
    .rw[z]at hk;cases hk
   obtain⟨c,hc⟩:=I.ok.has x (.inl hk);obtain⟨w',z⟩:=I.cell x c hc;refine wpAny_storeName_cell I.ok.kind hk hc z (fun h' hc' hs=>?_);obtain⟨oc,hoc,acZ⟩:=id z;refine h {s with heap:=h'} ⟨I.ok,I.os,I.bare,⟨fun b o e n hb hx=>?_,fun b o e n hb hx=>?_,I.base.free,fun b o e hx=>?_,I.base.tups,I.base.uE,I.base.wV⟩,⟨m,hn.sameBut hs (Ne.symm (Qf x c hc)),fun j y v' e1 e2 e3=>?_⟩,fun y c' e=>?_,I.free,I.jF,fun p hp=>?_,tracked ⟨oc,hoc,I.jF x c hc⟩ hs,by simpa using I.len⟩ ⟨c,hs,.inr hc⟩;.exact(hs.2 b (ne_of_lt (lt_of_lt_of_le (lt_size e) (I.ok.cab x c hfn hc)))).trans (I.base.keep b o e n hb hx)
   .obtain⟨sl,e1⟩:=I.base.slot b o e n hb hx;exact⟨sl,(hs.2 b (ne_of_lt (lt_of_lt_of_le (lt_size e) (I.ok.cab x c hfn hc)))).trans e1⟩
   .obtain⟨o',e1⟩:=I.base.there b o e hx;exact⟨o',(hs.2 b (ne_of_lt (lt_of_lt_of_le (lt_size e) (I.ok.cab x c hfn hc)))).trans e1⟩
   . by_cases hj:j=i;.subst hj;rw[hi]at e1;cases e1;rw[getElem?_set_self hiσ]at e2;cases e2;exact⟨u,r,.inr ⟨.inl hk,c,hc,hc'⟩⟩
     . rw[getElem?_set_ne (Ne.symm hj)]at e2;obtain⟨u',r',q⟩:=hl j y v' e1 e2 e3;refine⟨u',r',?_⟩;rcases q with q|⟨k,c',e,z'⟩;.exact .inl q
       .refine .inr ⟨k,c',e,z'.sameBut hs ?_⟩;rintro rfl;exact hj (uW hN e1 (I.ok.inj _ _ _ e hc▸hi))
   . by_cases hcc:c'=c;.subst hcc;exact⟨_,hc'⟩
     .obtain⟨w2,z2⟩:=I.cell y c' e;exact⟨w2,z2.sameBut hs hcc⟩
   .obtain⟨e,n,ne,nf,d⟩:=I.pin p hp;refine⟨(hs.2 p.1 ?_).trans e,n,ne,nf,d⟩;intro q;rw[q,hoc]at e;have q':oc=p.2:=Option.some.inj e;exact d w' (by rw[<-q'];exact acZ)
theorem vd{M:Model}{A:Around}{E:Value->Shared->Prop}{i:Nat}{x:Str}{v:V}{u:Value}{Q:Unit->Shared->Prop}(I:Inv X pins σ H s)(hN:X.N.Nodup)(hi:X.N[i]?=some x)(hx:Loc X.env.scope x)(r:RelV v u)(h:∀s',Inv X pins (σ.set i (some v)) H s'->Q () s')(hf:X.fn x=true\/X.env.scope.names.lookup x=some .local:=by first|exact .inl rfl|exact .inr rfl|assumption):wpAny M A (storeName X.env x u) Q E s:=rK I hN hi hx r (fun s' I' _=>h s' I') hf
end
abbrev XK:=Value->Option Addr->Hp->Prop
noncomputable abbrev St:=List (Option V)
abbrev VK:=V->Hp->Prop
abbrev TE:=St->Hp->VK->Prop
abbrev TT:=St->Hp->(Bool->Hp->Prop)->Prop
abbrev TA:=St->Hp->(List V->Hp->Prop)->Prop
structure Ends where
 nx:St->Hp->Prop
 rt:VK
 bk:St->Hp->Prop:=fun _ _=>False
 ct:St->Hp->Prop:=fun _ _=>False
abbrev TS:=Ends->St->Hp->Prop
inductive EP(X:Cx)(pins:List (Addr×Obj))(σ:St)(Q:VK)(u:Value)(s':Shared):Prop where|mk(v:V)(H':Hp)(q0:Inv X pins σ H' s')(q1:RelV v u)(q2:Q v H')
def TP(X:Cx)(pins:List (Addr×Obj))(σ:St)(Q:Bool->Hp->Prop)(b:Bool)(s':Shared):Prop:=∃H',Inv X pins σ H' s'/\Q b H'
inductive AP(X:Cx)(pins:List (Addr×Obj))(σ:St)(Q:List V->Hp->Prop)(us:List Value)(s':Shared):Prop where|mk(vs:List V)(H':Hp)(q0:Inv X pins σ H' s')(q1:Vals vs us)(q2:Q vs H')
def SP(X:Cx)(pins:List (Addr×Obj))(D:Ends)(f:Flow)(s':Shared):Prop:=match f with|.next=>∃σ' H',Inv X pins σ' H' s'/\D.nx σ' H'|.brk=>∃σ' H',Inv X pins σ' H' s'/\D.bk σ' H'|.cont=>∃σ' H',Inv X pins σ' H' s'/\D.ct σ' H'|.ret u=>∃v σ' H',Inv X pins σ' H' s'/\RelV v u/\D.rt v H'
def PE(X:Cx)(e:Expr)(t:TE):Prop:=∀(pins:List (Addr×Obj))(s:Shared)(σ:St)(H:Hp)(Q:VK),Inv X pins σ H s->t σ H Q->wpAny (model X.prog X.w) X.A (eval e X.env) (EP X pins σ Q) X.xe s
def PT(X:Cx)(e:Expr)(t:TT):Prop:=∀(pins:List (Addr×Obj))(s:Shared)(σ:St)(H:Hp)(Q:Bool->Hp->Prop),Inv X pins σ H s->t σ H Q->wpAny (model X.prog X.w) X.A (isTrue e X.env (eval e X.env)) (TP X pins σ Q) X.xe s
def PW(X:Cx)(e:Expr)(t:TT):Prop:=∀(whole:Sem Value)(pins:List (Addr×Obj))(s:Shared)(σ:St)(H:Hp)(Q:Bool->Hp->Prop),Inv X pins σ H s->t σ H Q->wpAny (model X.prog X.w) X.A (isTrue e X.env whole) (TP X pins σ Q) X.xe s
theorem PW.pt{X:Cx}{e:Expr}{t:TT}(h:PW X e t):PT X e t:=h _
def PA(X:Cx)(es:List Expr)(t:TA):Prop:=∀(pos:Pos)(pins:List (Addr×Obj))(s:Shared)(σ:St)(H:Hp)(Q:List V->Hp->Prop),Inv X pins σ H s->t σ H Q->wpAny (model X.prog X.w) X.A (spliced (backTo pos (starEach es X.env))) (AP X pins σ Q) X.xe s
def PS(X:Cx)(st:Stmt)(t:TS):Prop:=∀(pins:List (Addr×Obj))(s:Shared)(σ:St)(H:Hp)(D:Ends),Inv X pins σ H s->t D σ H->wpAny (model X.prog X.w) X.A (exec st X.env) (SP X pins D) X.xe s
def wH(X:Cx)(st:List Stmt)(t:TS):Prop:=∀(pins:List (Addr×Obj))(s:Shared)(σ:St)(H:Hp)(D:Ends),Inv X pins σ H s->t D σ H->wpAny (model X.prog X.w) X.A (execs st X.env) (SP X pins D) X.xe s
theorem bH{α:Type}{t:Sem α}{Q Q':α->Shared->Prop}{M:Model}{A:Around}{E:Value->Shared->Prop}{s:Shared}(h:wpAny M A t Q E s)(hQ:∀a s,Q a s->Q' a s):wpAny M A t Q' E s:=wpAny_mono h hQ fun _ _ x=>x
section
variable{X:Cx}
def O7(i:Nat):TE:=fun σ H Q=>∃v,σ[i]?=some (some v)/\Q v H
def tC(v:V):TE:=fun _ H Q=>Q v H
theorem du{i:Nat}{x:Str}{pos:Pos}(hN:X.N[i]?=some x)(hv:xm X.env.scope x)(hd:(x==("__debug__":Str))=false:=by decide)(hcd:(x==("__classdict__":Str))=false:=by decide):PE X (.Name x pos) (O7 i):=by
 intro pins s σ H Q I h;obtain⟨v,e,h⟩:=h;obtain⟨m,hn,hl⟩:=I.loc;obtain⟨u,r,l⟩:=hl i x v hN e hv;have fin:EP X pins σ Q u s:=⟨v,H,I,r,h⟩;rcases l with⟨hk,hm⟩|⟨hk,c,hc,hcell⟩;.exact wpAny_Name (wpAny_loadName_local I.ok.kind hk hn hm fin) hd
 . rcases hk with hk|hk;.exact wpAny_Name (wpAny_loadName_cell I.ok.kind hk hc hcell fin) hd
   .exact wpAny_Name (wpAny_loadName_free I.ok.kind hk hc hcell fin hcd) hd
theorem yN{i j pos}:PE X (.Constant (.int i) j pos) (tC (.int i)):=fun _ _ _ H _ I h=>wpAny_Constant_int ⟨.int i,H,I.tok _,⟨_,rfl⟩,h⟩
theorem V9{b j pos}:PE X (.Constant (.bool b) j pos) (tC (.bl b)):=fun _ _ _ H _ I h=>Constant_bool ⟨.bl b,H,I,rfl,h⟩
theorem Qk{j pos}:PE X (.Constant .none j pos) (tC .non):=fun _ _ _ H _ I h=>Constant_none ⟨.non,H,I,rfl,h⟩
def Gl(X:Cx)(x:Str):Prop:=X.env.kindOf x=some .globalImplicit
theorem J5{E:Value->Shared->Prop}{pins:List (Addr×Obj)}{s:Shared}{σ:St}{H:Hp}{x:Str}{u:Value}{pos:Pos}{Q:Value->Shared->Prop}(I:Inv X pins σ H s)(hg:Gl X x)(hm:X.mg x=some u)(h:Q u s)(hd:(x==("__debug__":Str))=false:=by decide):wpAny (model X.prog X.w) X.A (eval (.Name x pos) X.env) Q E s:=Calls.Name_function_global I.ok.kind hg (Calls.loadGlobal_global (by rw[I.ok.glob];exact I.mod.glob.keeps I.bk) hm h) hd
theorem iT{E:Value->Shared->Prop}{pins:List (Addr×Obj)}{s:Shared}{σ:St}{H:Hp}{x:Str}{u:Value}{pos:Pos}{Q:Value->Shared->Prop}(I:Inv X pins σ H s)(hg:Gl X x)(hm:X.mg x=none)(hv:bootBuiltins x=some u)(h:Q u s)(hn:x≠"__name__":=by decide)(hd:(x==("__debug__":Str))=false:=by decide):wpAny (model X.prog X.w) X.A (eval (.Name x pos) X.env) Q E s:=by obtain⟨mb,h1,h2⟩:=I.mod.blt;exact Calls.Name_function_global I.ok.kind hg (Calls.loadGlobal_builtin (by rw[I.ok.glob];exact I.mod.glob.keeps I.bk) hm (by rw[I.ok.blt];exact h1.keeps I.bk) ((h2 x hn).trans hv) h) hd
theorem Jx{x:Str}{v:V}{u:Value}{pos:Pos}(hg:Gl X x)(hm:X.mg x=none)(hv:bootBuiltins x=some u)(r:RelV v u)(hn:x≠"__name__":=by decide)(hd:(x==("__debug__":Str))=false:=by decide):PE X (.Name x pos) (tC v):=fun _ _ _ H _ I h=>iT I hg hm hv ⟨v,H,I,r,h⟩ hn hd
variable{a b:Expr}{ta tb:TE}{pos:Pos}
def PC(X:Cx)(op:CmpOp)(a b:Expr)(t:TE):Prop:=∀(pins:List (Addr × Obj))(s:Shared)(σ:St)(H:Hp)(Q:VK),Inv X pins σ H s->t σ H Q->wpAny (model X.prog X.w) X.A (eval a X.env) (fun v s₁=>wpAny (model X.prog X.w) X.A (eval b X.env) (fun u s₂=>wpAny (model X.prog X.w) X.A (compareOp op v u) (EP X pins σ Q) X.xe s₂) X.xe s₁) X.xe s
def tB(t:TE):TT:=fun σ H Q=>t σ H fun x H1=>∃c,x=.bl c/\Q c H1
theorem QD{op:CmpOp}{t:TE}(h:PC X op a b t)(h1:behindInMarks op b=false:=by first|exact Ye _ (by decide) (by decide)|rfl):PT X (.Compare a [op] [b] pos) (tB t):=by intro pins s σ H Q I hw;refine wpAny_isTrue_Compare1 (bH (h pins s σ H _ I hw) fun v s1 h1=>bH h1 fun u s2 h2=>bH h2 fun c s3⟨x,H1,I1,r1,q1⟩=>?_) h1;obtain⟨d,rfl,q⟩:=q1;cases r1;exact wpAny_truthy_bool ⟨H1,I1,q⟩
theorem RQ{e:Expr}{t:TE}(h:PE X e t)(he:∀whole,isTrue e X.env whole=(do let v<-whole;standAt e.pos;holding [v] (truthy v)):=by intro _;rfl):PT X e (tB t):=by intro pins s σ H Q I hw;refine isTrue_plain (bH (h pins s σ H _ I hw) fun v s1⟨x,H1,I1,r1,q1⟩=>?_) (he _);obtain⟨d,rfl,q⟩:=q1;cases r1;exact wpAny_truthy_bool ⟨H1,I1,q⟩
variable{tA tB':TT}{rest:List Expr}
def abU(t u:TT):TT:=fun σ H Q=>t σ H fun c H1=>if c=true then u σ H1 Q else Q false H1
def tOr(t u:TT):TT:=fun σ H Q=>t σ H fun c H1=>if c=true then Q true H1 else u σ H1 Q
def acq(t:TT):TT:=fun σ H Q=>t σ H fun c H1=>Q (!c) H1
theorem Ks(ha:PT X a tA):PW X (.BoolOp .And [a] pos) tA:=by intro wh pins s σ H Q I h;refine isTrue_and (bH (ha pins s σ H Q I h) fun c s1 e=>?_);cases c with|true=>exact isTrue_and_nil e|false=>exact e
theorem RM(ha:PT X a tA):PW X (.BoolOp .Or [a] pos) tA:=by intro wh pins s σ H Q I h;refine isTrue_or (bH (ha pins s σ H Q I h) fun c s1 e=>?_);cases c with|false=>exact isTrue_or_nil e|true=>exact e
theorem Rj(ha:PT X a tA)(hb:PW X (.BoolOp .And (b::rest) pos) tB'):PW X (.BoolOp .And (a::b::rest) pos) (abU tA tB'):=by intro wh pins s σ H Q I h;refine isTrue_and (bH (ha pins s σ H _ I h) fun c s1⟨H1,I1,q1⟩=>?_);cases c with|true=>exact hb wh pins s1 σ H1 Q I1 q1|false=>exact⟨H1,I1,q1⟩
theorem Xj(ha:PT X a tA)(hb:PW X (.BoolOp .Or (b::rest) pos) tB'):PW X (.BoolOp .Or (a::b::rest) pos) (tOr tA tB'):=by intro wh pins s σ H Q I h;refine isTrue_or (bH (ha pins s σ H _ I h) fun c s1⟨H1,I1,q1⟩=>?_);cases c with|true=>exact⟨H1,I1,q1⟩|false=>exact hb wh pins s1 σ H1 Q I1 q1
theorem RZ(ha:PT X a tA):PT X (.UnaryOp .Not a pos) (acq tA):=by intro pins s σ H Q I h;exact isTrue_not (ha pins s σ H (fun c H1=>Q (!c) H1) I h)
def Ww(ta tb:TE):TE:=fun σ H Q=>ta σ H fun x H1=>∃c,x=.bl c/\if c=true then tb σ H1 Q else Q (.bl false) H1
def Wq(ta:TE):TE:=fun σ H Q=>ta σ H fun x H1=>∃c,x=.bl c/\Q (.bl (!c)) H1
theorem Qw{op}{t:TE}(h:PE X a t):PE X (.BoolOp op [a] pos) t:=fun pins s σ H Q I hw=>BoolOp_one (h pins s σ H Q I hw)
theorem Rg(ha:PE X a ta)(hb:PE X (.BoolOp .And (b::rest) pos) tb):PE X (.BoolOp .And (a::b::rest) pos) (Ww ta tb):=by intro pins s σ H Q I h;refine BoolOp_and (bH (ha pins s σ H _ I h) fun v s1⟨x,H1,I1,r1,q1⟩=>?_);obtain⟨c,rfl,q1⟩:=q1;cases r1;refine wpAny_truthy_bool ?_;cases c with|true=>exact hb pins s1 σ H1 Q I1 q1|false=>exact⟨.bl false,H1,I1,rfl,q1⟩
theorem PJ(ha:PE X a ta):PE X (.UnaryOp .Not a pos) (Wq ta):=by intro pins s σ H Q I h;refine UnaryOp_ (bH (ha pins s σ H _ I h) fun v s1⟨x,H1,I1,r1,q1⟩=>?_);obtain⟨c,rfl,q1⟩:=q1;cases r1;exact not_of (wpAny_truthy_bool ⟨.bl (!c),H1,I1,rfl,q1⟩)
def tIf(t:TT)(ta tb:TE):TE:=fun σ H Q=>t σ H fun c H1=>if c=true then ta σ H1 Q else tb σ H1 Q
theorem Ex{c:Expr}(hc:PT X c tA)(ha:PE X a ta)(hb:PE X b tb):PE X (.IfExp c a b pos) (tIf tA ta tb):=by intro pins s σ H Q I h;refine wpAny_IfExp (bH (hc pins s σ H _ I h) fun d s1⟨H1,I1,q1⟩=>?_);cases d with|true=>exact ha pins s1 σ H1 Q I1 q1|false=>exact hb pins s1 σ H1 Q I1 q1
end
def dG(K:PySem.W.Frag)(H:Hp)(a:Addr)(xs:List V):Prop:=Rd H a (.lst xs)\/∃(o:Obj)(its:Array Value)(n:Nat),K.lookup a=some o/\o.cls=.type "list"/\o.dict=none/\o.data=.seq its n/\its.size<=sizeLine/\Vals xs its.toList
def jy(K:PySem.W.Frag)(H:Hp)(a:Addr)(xs:List V):Prop:=Rd H a (.tup xs)\/∃(o:Obj)(its:Array Value)(n:Nat),K.lookup a=some o/\o.cls=.type "tuple"/\o.data=.seq its n/\its.size<=sizeLine/\Vals xs its.toList
noncomputable def acB:Value->Option V|.none=>some .non|.bool b=>some (.bl b)|.int i _=>some (.int i)|.str x _=>some (.str x)|.bytes b _=>some (.byt b)|.float b _=>some (.flt b)|.ref a=>some (.ref a)|.type n=>some (.ty n)|_=>none
theorem RelV.abs{x:V}{u:Value}(r:RelV x u):acB u=some x:=by cases x with|non=>cases r;rfl|bl _=>cases r;rfl|int _=>obtain⟨t,rfl⟩:=r;rfl|str _=>obtain⟨t,rfl⟩:=r;rfl|byt _=>obtain⟨t,rfl⟩:=r;rfl|flt _=>obtain⟨t,rfl⟩:=r;rfl|ref _=>cases r;rfl|ty _=>cases r;rfl
theorem RelV.inj{x y:V}{u:Value}(r:RelV x u)(q:RelV y u):x=y:=Option.some.inj (r.abs.symm.trans q.abs)
theorem Vals.inj:∀{xs ys:List V}{us:List Value},Vals xs us->Vals ys us->xs=ys|_,_,_,.nil,.nil=>rfl|_,_,_,.cons r t,.cons r' t'=>by rw[r.inj r',Vals.inj t t']
section
variable{X:Cx}{pins:List (Addr×Obj)}{σ:St}{H:Hp}{s:Shared}{a:Addr}{xs ys:List V}
theorem dG.of{K:PySem.W.Frag}(h:H a=some (.lst xs)):dG K H a xs:=.inl (.inl h)
theorem jy.of{K:PySem.W.Frag}(h:H a=some (.tup xs)):jy K H a xs:=.inl (.inl h)
theorem Inv.list(I:Inv X pins σ H s)(h:dG X.K H a xs):∃its:List Value,Vals xs its/\PlainL s.heap a its.toArray/\xs.length<=sizeLine:=by
 rcases h with h|⟨o,its,n,hk,hc,hd,hs,hz,r⟩;.obtain⟨z,its,n,r,e⟩:=h.ok I.hok;exact⟨its,r,⟨_,n,e,rfl,rfl,rfl⟩,z⟩
 .refine⟨its.toList,r,⟨o,n,I.RP a o hk,hc,hd,by simpa using hs⟩,?_⟩;have e:=r.length;simp only[length_toList]at e;omega
theorem Inv.tuple(I:Inv X pins σ H s)(h:jy X.K H a xs):∃its:List Value,Vals xs its/\IsTup s.heap a its.toArray/\xs.length<=sizeLine:=by
 rcases h with h|⟨o,its,n,hk,hc,hs,hz,r⟩;.obtain⟨z,its,r,p⟩:=h.ok I.hok;exact⟨its,r,p,z⟩
 .refine⟨its.toList,r,⟨o,I.RP a o hk,hc,n,by simpa using hs⟩,?_⟩;have e:=r.length;simp only[length_toList]at e;omega
theorem Inv.vm(I:Inv X pins σ H s)(h:dG X.K H a xs)(h':dG X.K H a ys):xs=ys:=by
 obtain⟨its,r,⟨o,n,e,_,_,d⟩,_⟩:=I.list h;obtain⟨its',r',⟨o',n',e',_,_,d'⟩,_⟩:=I.list h';rw[e]at e';cases e';rw[d]at d';injection d' with d1 _;have:its=its':=by simpa using congrArg toList d1
 subst this;exact r.inj r'
theorem Inv.rB(I:Inv X pins σ H s)(h:jy X.K H a xs)(h':jy X.K H a ys):xs=ys:=by
 obtain⟨its,r,⟨o,e,_,n,d⟩,_⟩:=I.tuple h;obtain⟨its',r',⟨o',e',_,n',d'⟩,_⟩:=I.tuple h';rw[e]at e';cases e';rw[d]at d';injection d' with d1 _;have:its=its':=by simpa using congrArg toList d1
 subst this;exact r.inj r'
end
noncomputable abbrev Cx.wish(X:Cx)(E:Value->Shared->Prop):Cx:={X with xe:=E}
noncomputable abbrev Cx.XX(X:Cx):Cx:=X.wish fun _ _=>False
theorem Cx.Ok.wish{X:Cx}(ok:X.Ok)(E:Value->Shared->Prop):(X.wish E).Ok:=⟨ok.mod,ok.kind,ok.glob,ok.blt,ok.above,ok.inj,ok.has,ok.cab,ok.hd,ok.frames,ok.stk,ok.exf,ok.bs,ok.NZ,ok.HS,ok.Ly,ok.o7,ok.Vl⟩
theorem Cx.Ok.iY{X:Cx}{E:Value->Shared->Prop}(ok:(X.wish E).Ok):X.Ok:=⟨ok.mod,ok.kind,ok.glob,ok.blt,ok.above,ok.inj,ok.has,ok.cab,ok.hd,ok.frames,ok.stk,ok.exf,ok.bs,ok.NZ,ok.HS,ok.Ly,ok.o7,ok.Vl⟩
section
variable{X:Cx}{pins:List (Addr×Obj)}{σ:St}{H:Hp}{s:Shared}{E:Value->Shared->Prop}
theorem Inv.wish(I:Inv X pins σ H s)(E:Value->Shared->Prop):Inv (X.wish E) pins σ H s:=⟨I.ok.wish E,I.os,I.bare,I.base,I.loc,I.cell,I.free,I.jF,I.pin,I.hok,I.len⟩
theorem Inv.iY(I:Inv (X.wish E) pins σ H s):Inv X pins σ H s:=⟨I.ok.iY,I.os,I.bare,I.base,I.loc,I.cell,I.free,I.jF,I.pin,I.hok,I.len⟩
theorem SP.iY{D:Ends}{f:Flow}{s':Shared}(h:SP (X.wish E) pins D f s'):SP X pins D f s':=by cases f with|next=>obtain⟨σ',H',I,q⟩:=h;exact⟨σ',H',I.iY,q⟩|brk=>obtain⟨σ',H',I,q⟩:=h;exact⟨σ',H',I.iY,q⟩|cont=>obtain⟨σ',H',I,q⟩:=h;exact⟨σ',H',I.iY,q⟩|ret u=>obtain⟨v,σ',H',I,r,q⟩:=h;exact⟨v,σ',H',I.iY,r,q⟩
theorem wH.XX{st:List Stmt}{t:TS}(h:wH X.XX st t):wH X st t:=fun pins s σ H D I hw=>wpAny_mono (h pins s σ H D (I.wish _) hw) (fun _ _ q=>q.iY) fun _ _ z=>False.elim z
end
section
variable{X:Cx}{st:Stmt}{rest:List Stmt}{t u:TS}{e:Expr}{te:TE}{pos:Pos}
def WT:TS:=fun D σ H=>D.nx σ H
def abS(t u:TS):TS:=fun D σ H=>t {D with nx:=u D} σ H
theorem Br:wH X [] WT:=fun _ _ σ H _ I h=>wpAny_execs_nil ⟨σ,H,I,h⟩
theorem lC(h1:PS X st t)(h2:wH X rest u):wH X (st::rest) (abS t u):=by intro pins s σ H D I h;refine wpAny_execs_cons (bH (h1 pins s σ H {D with nx:=u D} I h) fun f s1 q=>?_);cases f with|next=>obtain⟨σ',H',I',q⟩:=q;exact h2 pins s1 σ' H' D I' q|ret v=>exact q|brk=>exact q|cont=>exact q
theorem Inv.quiet{pins:List (Addr×Obj)}{σ:St}{H:Hp}{s:Shared}(I:Inv X pins σ H s):interactive X.env=false:=by simp[interactive,I.ok.kind]
def W3(te:TE):TS:=fun D σ H=>te σ H fun _ H1=>D.nx σ H1
theorem zL(he:PE X e te)(hs:swapsWith e none pos.line X.env=pure false:=by rfl):PS X (.Expr e pos) (W3 te):=by intro pins s σ H D I h;exact wpAny_Expr_any (bH (he pins s σ H _ I h) fun v s1⟨x,H1,I1,r1,q1⟩=>⟨σ,H1,I1,q1⟩) I.quiet hs
def ace(te:TE):TS:=fun D σ H=>te σ H D.rt
theorem GK(he:PE X e te):PS X (.Return (some e) pos) (ace te):=by intro pins s σ H D I h;exact wpAny_Return_some (bH (he pins s σ H _ I h) fun v s1⟨x,H1,I1,r1,q1⟩=>⟨x,σ,H1,I1,r1,q1⟩)
def aaN(c:TT)(t u:TS):TS:=fun D σ H=>c σ H fun b H1=>if b=true then t D σ H1 else u D σ H1
theorem M7{c:Expr}{a b:List Stmt}{tc:TT}(hc:PT X c tc)(ha:wH X a t)(hb:wH X b u):PS X (.If c a b pos) (aaN tc t u):=by intro pins s σ H D I h;refine wpAny_If (bH (hc pins s σ H _ I h) fun d s1⟨H1,I1,q1⟩=>?_);cases d with|true=>exact ha pins s1 σ H1 D I1 q1|false=>exact hb pins s1 σ H1 D I1 q1
end
abbrev TG:=V->St->Hp->(St->Hp->Prop)->Prop
abbrev Dy:=List V->St->Hp->(St->Hp->Prop)->Prop
def PG(X:Cx)(target:Expr)(t:TG):Prop:=∀(pins:List (Addr × Obj))(s:Shared)(σ:St)(H:Hp)(v:V)(u:Value)(Q:St->Hp->Prop),Inv X pins σ H s->RelV v u->t v σ H Q->wpAny (model X.prog X.w) X.A (assign target X.env u) (fun _ s'=>∃σ' H',Inv X pins σ' H' s'/\Q σ' H') X.xe s
def ZS(X:Cx)(ts:List Expr)(t:Dy):Prop:=∀(pins:List (Addr × Obj))(s:Shared)(σ:St)(H:Hp)(vs:List V)(us:List Value)(Q:St->Hp->Prop),Inv X pins σ H s->Vals vs us->t vs σ H Q->wpAny (model X.prog X.w) X.A (assignInOrder ((assignEach ts X.env).map (·.2)) us) (fun _ s'=>∃σ' H',Inv X pins σ' H' s'/\Q σ' H') X.xe s
abbrev Hl:=V->V->V->Hp->(Hp->Prop)->Prop
def QG(X:Cx)(t:Hl):Prop:=∀(pins:List (Addr × Obj))(s:Shared)(σ:St)(H:Hp)(o i v:V)(ov iv u:Value)(Q:Hp->Prop),Inv X pins σ H s->RelV o ov->RelV i iv->RelV v u->t o i v H Q->wpAny (model X.prog X.w) X.A (setItem ov iv u) (fun _ s'=>∃H',Inv X pins σ H' s'/\Q H') X.xe s
abbrev Zo:=V->V->Hp->VK->Prop
def YC(X:Cx)(op:Operator)(t:Zo):Prop:=∀(pins:List (Addr × Obj))(s:Shared)(σ:St)(H:Hp)(x y:V)(v u:Value)(Q:VK),Inv X pins σ H s->RelV x v->RelV y u->t x y H Q->wpAny (model X.prog X.w) X.A (inplaceOp op v u) (EP X pins σ Q) X.xe s
section
variable{X:Cx}{pos:Pos}
def iW(i:Nat):TG:=fun v σ H Q=>Q (σ.set i (some v)) H
theorem aY{i:Nat}{x:Str}(hN:X.N.Nodup)(hi:X.N[i]?=some x)(hx:Loc X.env.scope x)(hf:X.fn x=true\/X.env.scope.names.lookup x=some .local:=by first|exact .inl rfl|exact .inr rfl|assumption):PG X (.Name x pos) (iW i):=by intro pins s σ H v u Q I r h;exact wpAny_assign_Name (vd I hN hi hx r (fun s' I'=>⟨_,H,I',h⟩) hf)
def Px:Dy:=fun vs σ H Q=>vs=[]/\Q σ H
def El(t:TG)(u:Dy):Dy:=fun vs σ H Q=>∃v r,vs=v::r/\t v σ H fun σ' H'=>u r σ' H' Q
theorem jg:ZS X [] Px:=by intro pins s σ H vs us Q I r h;obtain⟨e,h⟩:=h;subst e;cases r;exact assignInOrder_nil ⟨σ,H,I,h⟩
theorem bM{e:Expr}{es:List Expr}{t:TG}{u:Dy}(h1:PG X e t)(h2:ZS X es u)(hs:(assignEach (e::es) X.env).map (·.2)=assign e X.env::(assignEach es X.env).map (·.2):=by rfl):ZS X (e::es) (El t u):=by intro pins s σ H vs us Q I r h;obtain⟨v,vr,e1,h⟩:=h;subst e1;cases r with|cons r rr=>rw[hs];refine assignInOrder_cons (bH (h1 pins s σ H _ _ _ I r h) fun _ s1⟨σ1,H1,I1,q1⟩=>?_);exact h2 pins s1 σ1 H1 _ _ Q I1 rr q1
def QS(K:PySem.W.Frag)(n:Nat)(t:Dy):TG:=fun v σ H Q=>∃a xs,v=.ref a/\jy K H a xs/\xs.length=n/\t xs σ H Q
theorem mq{es:List Expr}{k:Nat}{t:Dy}{n:Nat}(hc:X.calm=true)(h:ZS X es t)(hn:(assignEach es X.env).length=n:=by rfl)(hst:(assignEach es X.env).findIdx? (·.1)=none:=by rfl):PG X (.Tuple es k pos) (QS X.K n t):=by intro pins s σ H v u Q I r hw;obtain⟨a,xs,e1,hq,hl,hw⟩:=hw;subst e1;cases r;obtain⟨its,rv,ht,hz⟩:=I.tuple hq;refine assign_Tuple_tuple (I.ok.hd hc) ht (by simp[hn,<-hl,rv.length]) hst fun h' hx=>?_;have I1:Inv X pins σ H {s with heap:=h'}:=I.kept (t':=s.toks) fun b o e=>hx b o (ne_of_lt (lt_size e)) e;exact h pins _ σ H xs _ Q I1 (by simpa using rv) hw
def abO(to ti:TE)(t:Hl):TG:=fun v σ H Q=>to σ H fun o H1=>ti σ H1 fun i H2=>t o i v H2 fun H3=>Q σ H3
theorem Tf{o i:Expr}{to ti:TE}{t:Hl}(ho:PE X o to)(hi:PE X i ti)(hs:QG X t)(ha:∀ v,assign (.Subscript o i pos) X.env v=(do
  let ov<-holding [v] (eval o X.env)let iv<-holding [v,ov] (eval i X.env)standAt pos
  holding [v,ov,iv] (setItem ov iv v)release [v,ov,iv] []):=by intro _;rfl):PG X (.Subscript o i pos) (abO to ti t):=by intro pins s σ H v u Q I r h;rw[ha];refine wpAny_bind (wpAny_holding (bH (ho pins s σ H _ I h) fun ov s1⟨x,H1,I1,r1,q1⟩=>?_));refine wpAny_bind (wpAny_holding (bH (hi pins s1 σ H1 _ I1 q1) fun iv s2⟨y,H2,I2,r2,q2⟩=>?_));refine wpAny_bind (wpAny_standAt (wpAny_bind (wpAny_holding (bH (hs pins s2 σ H2 x y v ov iv u _ I2 r1 r2 r q2) fun _ s3⟨H3,I3,q3⟩=>?_))));exact wpAny_release ⟨σ,H3,I3,q3⟩
def Pn(te:TE)(g:TG):TS:=fun D σ H=>te σ H fun x H1=>g x σ H1 D.nx
theorem S8{tg e:Expr}{te:TE}{g:TG}(he:PE X e te)(hg:PG X tg g)(hs:swapsWithSole [tg] e pos.line X.env=pure false:=by rfl)(hw:swappedStores [tg] e X.env=pure none:=by rfl)(h1:(assignEach [tg] X.env).map (·.2)=[assign tg X.env]:=by rfl):PS X (.Assign [tg] e pos) (Pn te g):=by intro pins s σ H D I h;refine wpAny_Assign_stores (bH (he pins s σ H _ I h) fun v s1⟨x,H1,I1,r1,q1⟩=>?_) hs hw;rw[h1];exact bH (hg pins s1 σ H1 x v _ I1 r1 q1) fun _ s2 q=>q
theorem yf{i:Nat}{x:Str}{e:Expr}{te:TE}{pos':Pos}(hN:X.N.Nodup)(hi:X.N[i]?=some x)(hx:Loc X.env.scope x)(he:PE X e te)(hs:swapsWith e (some (.Name x pos')) pos.line X.env=pure false:=by rfl)(hf:X.fn x=true\/X.env.scope.names.lookup x=some .local:=by first|exact .inl rfl|exact .inr rfl|assumption):PS X (.Assign [.Name x pos'] e pos) (Pn te (iW i)):=by intro pins s σ H D I h;refine wpAny_Assign_Name (bH (he pins s σ H _ I h) fun v s1⟨y,H1,I1,r1,q1⟩=>?_) hs;exact vd I1 hN hi hx r1 (fun s2 I2=>⟨_,H1,I2,q1⟩) hf
def Wl(to ti te:TE)(Lz:V->V->Hp->VK->Prop)(tip:Zo)(LC:Hl):TS:=fun D σ H=>to σ H fun o H1=>ti σ H1 fun i H2=>Lz o i H2 fun x H3=>te σ H3 fun y H4=>tip x y H4 fun z H5=>LC o i z H5 fun H6=>D.nx σ H6
def WX(X:Cx)(t:V->V->Hp->VK->Prop):Prop:=∀(pins:List (Addr × Obj))(s:Shared)(σ:St)(H:Hp)(o i:V)(ov iv:Value)(Q:VK),Inv X pins σ H s->RelV o ov->RelV i iv->t o i H Q->wpAny (model X.prog X.w) X.A (getItem ov iv) (EP X pins σ Q) X.xe s
theorem IK{o i e:Expr}{to ti te:TE}{Lz:V->V->Hp->VK->Prop}{tip:Zo}{LC:Hl}{op:Operator}{tpos:Pos}(ho:PE X o to)(hi:PE X i ti)(hg:WX X Lz)(he:PE X e te)(hp:YC X op tip)(hs:QG X LC)(ha:∀ov iv new,augStore i ov iv new=(do holding [new,ov,iv] (setItem ov iv new);release [new,ov,iv] [];pure .next):=by intros;rfl):PS X (.AugAssign (.Subscript o i tpos) op e pos) (Wl to ti te Lz tip LC):=by intro pins s σ H D I h;refine wpAny_AugAssign_SubscriptAny (bH (ho pins s σ H _ I h) fun ov s1⟨x1,H1,I1,r1,q1⟩=>?_) ha;refine bH (hi pins s1 σ H1 _ I1 q1) fun iv s2⟨x2,H2,I2,r2,q2⟩=>?_;refine bH (hg pins s2 σ H2 x1 x2 ov iv _ I2 r1 r2 q2) fun old s3⟨x3,H3,I3,r3,q3⟩=>?_;refine bH (he pins s3 σ H3 _ I3 q3) fun v s4⟨x4,H4,I4,r4,q4⟩=>?_;refine bH (hp pins s4 σ H4 x3 x4 old v _ I4 r3 r4 q4) fun new s5⟨x5,H5,I5,r5,q5⟩=>?_;exact bH (hs pins s5 σ H5 x1 x2 x5 ov iv new _ I5 r1 r2 r5 q5) fun _ s6⟨H6,I6,q6⟩=>⟨σ,H6,I6,q6⟩
def ipI(f:Int->Int->Int):Zo:=fun x y H Q=>∃i j,x=.int i/\y=.int j/\Q (.int (f i j)) H
theorem RX:YC X .Add (ipI fun i j=>i+j):=by intro pins s σ H x y v u Q I r1 r2 h;obtain⟨i,j,e1,e2,q⟩:=h;subst e1;subst e2;obtain⟨t,rfl⟩:=r1;obtain⟨t',rfl⟩:=r2;exact iadd_int ⟨.int _,H,I.tok _,⟨_,rfl⟩,q⟩
end
section
variable{X:Cx}{pos:Pos}
def Qu(c:TT)(tb:TS):TS:=fun D σ H=>∃W:Nat->St->Hp->Prop,(∃m,W m σ H)/\∀m σ H,W m σ H->c σ H fun b H1=>if b=true then ∃N:St->Hp->Prop,(∀σ' H',N σ' H'->∃m',m'<m/\W m' σ' H')/\tb {D with nx:=N,ct:=N,bk:=D.nx} σ H1 else D.nx σ H1
theorem Hd{c:Expr}{body:List Stmt}{tc:TT}{tb:TS}(hp:PassesOwn (model X.prog X.w) X.A X.env X.xe)(hc:PT X c tc)(hb:wH X body tb):PS X (.While c body [] pos) (Qu tc tb):=by intro pins s σ H D I h;obtain⟨W,⟨m0,w0⟩,turn⟩:=h;refine wpAny_While (codeAny_whileLoop (fun n s'=>∃σ' H',Inv X pins σ' H' s'/\W n σ' H') ?_ m0 ⟨σ,H,I,w0⟩);rintro n s1⟨σ1,H1,I1,w1⟩;refine wpAny_passesOwn hp (bH (hc pins s1 σ1 H1 _ I1 (turn n σ1 H1 w1)) fun b s2⟨H2,I2,q2⟩=>?_);cases b with
 |true=>obtain⟨N,hN,q2⟩:=q2;rw[if_pos rfl];refine wpAny_passesOwn hp (bH (hb pins s2 σ1 H2 _ I2 q2) fun f s3 q3=>?_);cases f with|next=>obtain⟨σ3,H3,I3,n3⟩:=q3;obtain⟨m',hm,w3⟩:=hN σ3 H3 n3;exact⟨m',hm,σ3,H3,I3,w3⟩|cont=>obtain⟨σ3,H3,I3,n3⟩:=q3;obtain⟨m',hm,w3⟩:=hN σ3 H3 n3;exact⟨m',hm,σ3,H3,I3,w3⟩|brk=>exact q3|ret v=>exact q3
 |false=>rw[if_neg Bool.false_ne_true];exact wpAny_execs_nil ⟨σ1,H2,I2,q2⟩
end
structure It where
 go:Nat->Hp->Prop
 N6:Nat->Hp->V->Hp->Prop
 stop:Nat->Hp->Prop
def pM(X:Cx)(pins:List (Addr×Obj))(H:Hp)(b:Addr):Prop:=H b=none/\b≠X.env.locals/\b∉X.fs/\(b∈X.ex\/X.s₀.heap.objs.size<=b)/\(∀x c,X.env.cells.lookup x=some c->c≠b)/\∀p∈X.pn++pins,p.1≠b
theorem Inv.Gw{X:Cx}{pins:List (Addr×Obj)}{σ:St}{H H':Hp}{s:Shared}{b:Addr}(I:Inv X pins σ H s)(hb:s.heap.objs.size<=b)(hn:H' b=none):pM X pins H' b:=by
 refine⟨hn,Nat.ne_of_gt (lt_of_lt_of_le I.lt hb),I.aaG hb,.inr (le_trans I.sz hb),fun x c e z=>?_,fun p hp z=>?_⟩;.obtain⟨v,q⟩:=I.cell x c e;exact absurd (lt_of_lt_of_le q.lt (by rw[z];exact hb)) (lt_irrefl _)
 .exact absurd (lt_of_lt_of_le (lt_size (I.pin p hp).1) (by rw[z];exact hb)) (lt_irrefl _)
structure Turn(P:Program)(w:World)(K:PySem.W.Frag)(tg:Expr)(J:It)(fp:List Addr)(it:Addr)(tn:Nat->Heap->Prop):Prop where
 mem:it∈fp
 obj:∀i h,tn i h->∀b∈fp,∃o,h.get? b=some o/\∀v,o.data≠.cell v
 keep:∀i h h',tn i h->(∀b∈fp,∀o,h.get? b=some o->h'.get? b=some o)->tn i h'
 item:∀(X:Cx),X.prog=P->X.w=w->X.K=K->X.calm=true->∀(i:Nat)(pins:List (Addr×Obj))(s:Shared)(σ:St)(H:Hp)(E:Value->Shared->Prop),Inv X pins σ H s->(∀b∈fp,pM X pins H b)->tn i s.heap->J.go i H->wpAny (model P w) X.A (pyNext (.ref it)) (fun r s1=>∃u,r=some u/\wpAny (model P w) X.A (letOwnedTupleGo tg (.ref it) u) (fun _ s2=>∃x H',Inv X pins σ H' s2/\RelV x u/\J.N6 i H x H'/\tn (i+1) s2.heap/\∀b∈fp,H' b=none) E s1) E s
 done:∀(X:Cx),X.prog=P->X.w=w->X.K=K->X.calm=true->∀(i:Nat)(pins:List (Addr×Obj))(s:Shared)(σ:St)(H:Hp)(E:Value->Shared->Prop),Inv X pins σ H s->(∀b∈fp,pM X pins H b)->tn i s.heap->J.stop i H->wpAny (model P w) X.A (pyNext (.ref it)) (fun r s1=>r=none/\Inv X pins σ H s1) E s
 self:∀(A:Around)(i:Nat)(s:Shared)(Q:Value->Shared->Prop)(E:Value->Shared->Prop),tn i s.heap->Q (.ref it) s->wpAny (model P w) A (pyIter (.ref it)) Q E s
abbrev TI:=St->Hp->(It->Hp->Prop)->Prop
def PIE(X:Cx)(pins:List (Addr×Obj))(σ:St)(tg:Expr)(R:It->Hp->Prop)(itv:Value)(s2:Shared):Prop:=∃(it:Addr)(fp:List Addr)(tn:Nat->Heap->Prop)(J:It)(H':Hp),itv=.ref it/\Inv X pins σ H' s2/\Turn X.prog X.w X.K tg J fp it tn/\tn 0 s2.heap/\(∀b∈fp,pM X pins H' b)/\R J H'
def PI(X:Cx)(tg iter:Expr)(wi:TI):Prop:=∀(pins:List (Addr × Obj))(s:Shared)(σ:St)(H:Hp)(R:It->Hp->Prop),Inv X pins σ H s->wi σ H R->wpAny (model X.prog X.w) X.A (eval iter X.env) (fun v s1=>wpAny (model X.prog X.w) X.A (pyIter v) (PIE X pins σ tg R) X.xe s1) X.xe s
theorem zB{M:Model}{A:Around}{E:Value->Shared->Prop}{s:Shared}{tg:Expr}{it:Addr}{u:Value}{o:Obj}{n:String}{vs:Array Value}{Q:Unit->Shared->Prop}(ho:s.heap.get? it=some o)(hc:o.cls=.type n)(hd:o.data=.fields vs)(hn:["enumerate","zip","dict_itemiterator","dict_reverseitemiterator","odict_iterator","itertools.zip_longest","itertools.pairwise"].contains n=false)(hQ:Q () s):wpAny M A (letOwnedTupleGo tg (.ref it) u) Q E s:=by unfold letOwnedTupleGo;cases tg<;>first|exact wpAny_pure hQ|(cases u<;>first|exact wpAny_pure hQ|(refine wpAny_bind (wpAny_load ho ?_);rw[hc,hd];show wpAny M A (if(["enumerate","zip","dict_itemiterator","dict_reverseitemiterator","odict_iterator","itertools.zip_longest","itertools.pairwise"].contains n&&vs[0]?==some (rawInt _))=true then _ else _) Q E s;rw[if_neg (by intro h;rw[hn,Bool.false_and]at h;cases h)];exact wpAny_pure hQ))
noncomputable def R0(K:PySem.W.Frag)(a:Addr):It:=⟨fun i H=>∃xs x,dG K H a xs/\xs[i]?=some x,fun i H x H'=>H'=H/\∀xs,dG K H a xs->xs[i]?=some x,fun i H=>∃xs,dG K H a xs/\xs.length<=i⟩
noncomputable def T6(K:PySem.W.Frag)(a:Addr):It:=⟨fun i H=>∃xs x,jy K H a xs/\xs[i]?=some x,fun i H x H'=>H'=H/\∀xs,jy K H a xs->xs[i]?=some x,fun i H=>∃xs,jy K H a xs/\xs.length<=i⟩
noncomputable def U4(lo:Int)(n:Nat):It:=⟨fun i _=>i<n,fun i H x H'=>H'=H/\x=.int (lo+i),fun i _=>n<=i⟩
theorem Dk{P:Program}{w:World}{K:PySem.W.Frag}{tg:Expr}(a it:Addr):Turn P w K tg (R0 K a) [it] it (fun i h=>h.IsListIter it a i)where
 mem:=by simp
 obj:=fun i h st b hb=>by
  have e:b=it:=by simpa using hb
  subst e;obtain⟨o,e,c,d⟩:=st;exact⟨o,e,fun v z=>by rw[d]at z;cases z⟩
 keep:=fun i h h' st k=>st.at fun o e=>k it (by simp) o e;item:=by intro X hP hw hK hc i pins s σ H E I hf st hg;subst hP hw hK;obtain⟨xs,x,hq,hx⟩:=hg;obtain⟨its,rv,p,hz⟩:=I.list hq;obtain⟨u,hu,ru⟩:=rv.get hx;obtain⟨f0,f1,f2,f3,f4,f5⟩:=hf it (by simp);refine wpAny_pyNext_list_item st p.isList (x:=u) (by simpa using hu) fun h' st' sb=>?_;have I1:Inv X pins σ H {s with heap:=h'}:=I.turned (t':=s.toks) (fun b o hb e=>(sb.2 b hb).trans e) f0 f1 f3 f4 f5;obtain⟨o,e,c,d⟩:=id st';exact⟨u,rfl,zB (s:={s with heap:=h'}) e c d (by decide) ⟨x,H,I1,ru,⟨rfl,fun ys hy=>by rw[I.vm hy hq];exact hx⟩,st',fun b hb=>(hf b hb).1⟩⟩
 done:=by intro X hP hw hK hc i pins s σ H E I hf st hg;subst hP hw hK;obtain⟨xs,hq,hx⟩:=hg;obtain⟨its,rv,p,hz⟩:=I.list hq;obtain⟨f0,f1,f2,f3,f4,f5⟩:=hf it (by simp);have hl:=rv.length;exact wpAny_pyNext_list_end (I.ok.hd hc) st p.isList (by simp;omega) fun h' eb=>⟨rfl,I.turned (t':=s.toks) (fun b o hb e=>eb b o hb e) f0 f1 f3 f4 f5⟩
 self:=fun _ _ _ _ _ st h=>wpAny_pyIter_listiter st h
theorem yu{P:Program}{w:World}{K:PySem.W.Frag}{tg:Expr}(a it:Addr):Turn P w K tg (T6 K a) [it] it (fun i h=>h.IsTupleIter it a i)where
 mem:=by simp
 obj:=fun i h st b hb=>by
  have e:b=it:=by simpa using hb
  subst e;obtain⟨o,e,c,d⟩:=st;exact⟨o,e,fun v z=>by rw[d]at z;cases z⟩
 keep:=fun i h h' st k=>st.at fun o e=>k it (by simp) o e;item:=by intro X hP hw hK hc i pins s σ H E I hf st hg;subst hP hw hK;obtain⟨xs,x,hq,hx⟩:=hg;obtain⟨its,rv,p,hz⟩:=I.tuple hq;obtain⟨u,hu,ru⟩:=rv.get hx;obtain⟨f0,f1,f2,f3,f4,f5⟩:=hf it (by simp);refine wpAny_pyNext_tuple_item st (show s.heap.IsTuple a its.toArray from p) (x:=u) (by simpa using hu) fun h' st' sb=>?_;have I1:Inv X pins σ H {s with heap:=h'}:=I.turned (t':=s.toks) (fun b o hb e=>(sb.2 b hb).trans e) f0 f1 f3 f4 f5;obtain⟨o,e,c,d⟩:=id st';exact⟨u,rfl,zB (s:={s with heap:=h'}) e c d (by decide) ⟨x,H,I1,ru,⟨rfl,fun ys hy=>by rw[I.rB hy hq];exact hx⟩,st',fun b hb=>(hf b hb).1⟩⟩
 done:=by intro X hP hw hK hc i pins s σ H E I hf st hg;subst hP hw hK;obtain⟨xs,hq,hx⟩:=hg;obtain⟨its,rv,p,hz⟩:=I.tuple hq;obtain⟨f0,f1,f2,f3,f4,f5⟩:=hf it (by simp);have hl:=rv.length;exact wpAny_pyNext_tuple_end (I.ok.hd hc) st (show s.heap.IsTuple a its.toArray from p) (by simp;omega) fun h' eb=>⟨rfl,I.turned (t':=s.toks) (fun b o hb e=>eb b o hb e) f0 f1 f3 f4 f5⟩
 self:=fun _ _ _ _ _ st h=>wpAny_pyIter_tupleiter st h
theorem xu{P:Program}{w:World}{K:PySem.W.Frag}{tg:Expr}(it:Addr)(lo:Int)(n:Nat):Turn P w K tg (U4 lo n) [it] it (fun i h=>IsRangeIter h it (lo+(i:Nat)*1) ((n:Int)-(i:Nat)) 1)where
 mem:=by simp
 obj:=fun i h st b hb=>by
  have e:b=it:=by simpa using hb
  subst e;exact⟨_,st,fun v z=>by have z':Data.fields _=Data.cell v:=z;cases z'⟩
 keep:=fun i h h' st k=>k it (by simp) _ st;item:=by intro X hP hw hK hc i pins s σ H E I hf st hg;subst hP hw hK;obtain⟨f0,f1,f2,f3,f4,f5⟩:=hf it (by simp);have W:=Walks.range (prog:=X.prog) (w:=X.w) (I.ok.hd hc) it lo 1 n;refine W.item i s _ _ hg st fun v h' tk hv st' kk=>?_;obtain⟨t,rfl⟩:=hv;have I1:Inv X pins σ H {s with heap:=h',toks:=tk}:=I.turned (fun b o hb e=>kk b o (by simpa using hb) e) f0 f1 f3 f4 f5;refine⟨_,rfl,zB (s:={s with heap:=h',toks:=tk}) (n:="range_iterator") st' rfl rfl (by decide) ⟨.int (lo+i),H,I1,⟨t,?_⟩,⟨rfl,rfl⟩,st',fun b hb=>(hf b hb).1⟩⟩;rw[mul_one]
 done:=by intro X hP hw hK hc i pins s σ H E I hf st hg;subst hP hw hK;obtain⟨f0,f1,f2,f3,f4,f5⟩:=hf it (by simp);exact wpAny_pyNext_range_end (I.ok.hd hc) st (by have:n<=i:=hg;omega) fun h' eb=>⟨rfl,I.turned (t':=s.toks) (fun b o hb e=>eb b o hb e) f0 f1 f3 f4 f5⟩
 self:=fun _ _ _ _ _ st h=>wpAny_pyIter_rangeiter st h
section
variable{X:Cx}{tg:Expr}
theorem vL{pins:List (Addr×Obj)}{σ:St}{H:Hp}{s:Shared}{R:It->Hp->Prop}{E:Value->Shared->Prop}{lo hi:Int}{t u v:Tok}{tk:Nat}(I:Inv X pins σ H s)(h1:-(2^62)<=lo)(h2:lo<2^62)(h3:-(2^62)<=hi)(h4:hi<2^62)(q:R (U4 lo (hi-lo).toNat) H):wpAny (model X.prog X.w) X.A (pyIter (.ref s.heap.objs.size)) (PIE X pins σ tg R) E {s with heap:=s.heap.push {cls:=.type "range",data:=.fields #[.int lo t,.int hi u,.int 1 v]},toks:=tk}:=by
 refine wpAny_pyIter_range (IsRange.new ..) (small_one h1 h2 h3 h4) ?_;have I1:Inv X pins σ H {s with heap:=s.heap.push {cls:=.type "range",data:=.fields #[.int lo t,.int hi u,.int 1 v]},toks:=tk}:=I.kept fun b o e=>get?_push_of_some _ e;refine⟨(s.heap.push {cls:=.type "range",data:=.fields #[.int lo t,.int hi u,.int 1 v]}).objs.size,[(s.heap.push {cls:=.type "range",data:=.fields #[.int lo t,.int hi u,.int 1 v]}).objs.size],_,_,H,rfl,I1.kept (t':=tk) fun b o e=>get?_push_of_some _ e,xu _ lo (hi-lo).toNat,?_,fun b hb=>?_,q⟩
 . have e1:lo+((0:Nat):Int)*1=lo:=by simp
   have e2:(((hi-lo).toNat:Nat):Int)-((0:Nat):Int)=Builtin.Range.rangeSize lo hi 1:=by rw[rangeSize_one];split<;>omega
   show IsRangeIter _ _ (lo+((0:Nat):Int)*1) ((((hi-lo).toNat:Nat):Int)-((0:Nat):Int)) 1;rw[e1,e2];exact get?_push_size _ rfl
 . have e:b=(s.heap.push {cls:=.type "range",data:=.fields #[.int lo t,.int hi u,.int 1 v]}).objs.size:=by simpa using hb
   subst e;exact I1.Gw (le_refl _) (I1.hok.fresh (le_refl _))
def XF(ta:TA):TI:=fun σ H R=>ta σ H fun vs H1=>∃j:Int,vs=[.int j]/\-(2^62)<=j/\j<2^62/\R (U4 0 j.toNat) H1
def WY(ta:TA):TI:=fun σ H R=>ta σ H fun vs H1=>∃i j:Int,vs=[.int i,.int j]/\(-(2^62)<=i/\i<2^62/\-(2^62)<=j/\j<2^62)/\R (U4 i (j-i).toNat) H1
theorem rE{a:Expr}{ta:TA}{p pos:Pos}(hg:Gl X "range")(hm:X.mg "range"=none)(ha:PA X [a] ta)(hs:starEach [a] X.env=[(false,eval a X.env)]:=by rfl):PI X tg (.Call (.Name "range" p) [a] [] pos) (XF ta):=by intro pins s σ H R I h;refine Call_ (iT I hg hm boot_range (PyProof.Rows.callWith_type1 (bH (ha pos pins s σ H _ I h) fun us s1⟨vs,H1,I1,r1,q1⟩=>?_) hs rfl));obtain⟨j,e,q1,q2,q⟩:=q1;subst e;cases r1 with|cons r rr=>cases rr;obtain⟨t,rfl⟩:=r;exact call_range_1 (vL I1 (by omega) (by omega) q1 q2 (by simpa using q))
theorem By{a b:Expr}{ta:TA}{p pos:Pos}(hg:Gl X "range")(hm:X.mg "range"=none)(ha:PA X [a,b] ta)(hs:starEach [a,b] X.env=[(false,eval a X.env),(false,eval b X.env)]:=by rfl)(hs2:starEach [b] X.env=[(false,eval b X.env)]:=by rfl):PI X tg (.Call (.Name "range" p) [a,b] [] pos) (WY ta):=by intro pins s σ H R I h;refine Call_ (iT I hg hm boot_range (PyProof.Rows.callWith_type1 (bH (ha pos pins s σ H _ I h) fun us s1⟨vs,H1,I1,r1,q1⟩=>?_) (by rw[hs,hs2]) (by rw[hs2];rfl)));obtain⟨i,j,e,⟨q1,q2,q3,q4⟩,q⟩:=q1;subst e;cases r1 with|cons r rr=>cases rr with|cons r' rr=>cases rr;obtain⟨t,rfl⟩:=r;obtain⟨t',rfl⟩:=r';exact call_range_2 (vL I1 q1 q2 q3 q4 q)
def aaZ(wi:TI)(g:TG)(tb:TS):TS:=fun D σ H=>wi σ H fun J H1=>∃W:Nat->Nat->St->Hp->Prop,(∃m,W 0 m σ H1)/\∀i m σ H,W i m σ H->(J.stop i H/\D.nx σ H)\/(J.go i H/\∃N:St->Hp->Prop,(∀σ' H',N σ' H'->∃m',m'<m/\W (i+1) m' σ' H')/\∀x H',J.N6 i H x H'->g x σ H' fun σ2 H2=>tb {D with nx:=N,ct:=N,bk:=D.nx} σ2 H2)
noncomputable def pP(fp:List Addr)(h:Heap):List (Addr×Obj):=fp.filterMap fun b=>(h.get? b).map fun o=>(b,o)
theorem gF{fp:List Addr}{h:Heap}{b:Addr}{o:Obj}(hb:b∈fp)(e:h.get? b=some o):(b,o)∈pP fp h:=List.mem_filterMap.mpr ⟨b,hb,by rw[e];rfl⟩
theorem BP{fp:List Addr}{h:Heap}{p:Addr×Obj}(hp:p∈pP fp h):p.1∈fp/\h.get? p.1=some p.2:=by obtain⟨b,hb,e⟩:=List.mem_filterMap.mp hp;cases q:h.get? b with|none=>rw[q]at e;cases e|some o=>rw[q]at e;have e':(b,o)=p:=Option.some.inj e;subst e';exact⟨hb,q⟩
theorem Inv.pinned{pins:List (Addr×Obj)}{σ:St}{H:Hp}{s:Shared}{fp:List Addr}(I:Inv X pins σ H s)(hf:∀b∈fp,pM X pins H b)(ho:∀b∈fp,∃o,s.heap.get? b=some o/\∀v,o.data≠.cell v):Inv X (pins++pP fp s.heap) σ H s:=I.Am fun p hp=>(mem_append.mp hp).elim (fun z=>I.pin p (mem_append_right _ z)) fun z=>by obtain⟨hb,e⟩:=BP z;obtain⟨f0,f1,f2,_⟩:=hf p.1 hb;obtain⟨o,e',d⟩:=ho p.1 hb;rw[e]at e';cases e';exact⟨e,f0,f1,f2,d⟩
theorem Inv.lg{pins pl:List (Addr×Obj)}{σ:St}{H:Hp}{s:Shared}(I:Inv X (pins++pl) σ H s):Inv X pins σ H s:=I.Am fun p hp=>I.pin p (mem_append_right _ (List.mem_append_left _ hp))
theorem Gs{iter:Expr}{body:List Stmt}{wi:TI}{g:TG}{tb:TS}{pos:Pos}(hp:PassesOwn (model X.prog X.w) X.A X.env X.xe)(hc:X.calm=true)(hi:PI X tg iter wi)(hg:PG X tg g)(hb:wH X body tb)(hs:∀x,foldedSetIterable iter X.env x=pure x:=by intro _;rfl):PS X (.For tg iter body [] pos) (aaZ wi g tb):=by
 intro pins s σ H D I h;refine wpAny_For (bH (hi pins s σ H _ I h) fun v s1 h1=>bH h1 fun itv s2 h2=>?_) hs;obtain⟨it,fp,tn,J,H2,e,I2,T,st2,f2,W,⟨m0,w0⟩,turn⟩:=h2;subst e--what stays true of the iterator's objects through the loop
 have stat:∀{H':Hp},(∀b∈fp,H' b=none)->∀b∈fp,pM X pins H' b:=fun hn b hb=>⟨hn b hb,(f2 b hb).2⟩;refine codeAny_forLoop_any (fun n s'=>∃i σ' H',Inv X pins σ' H' s'/\tn i s'.heap/\(∀b∈fp,H' b=none)/\W i n σ' H') ?_ m0 ⟨0,σ,H2,I2,st2,fun b hb=>(f2 b hb).1,w0⟩;rintro n s3⟨i,σ3,H3,I3,st3,fr3,w3⟩;rcases turn i n σ3 H3 w3 with⟨stop,qn⟩|⟨go,N,hN,step⟩;.refine wpAny_passesOwn hp (bH (T.done X rfl rfl rfl hc i pins s3 σ3 H3 X.xe I3 (stat fr3) st3 stop) fun r s4⟨hr,I4⟩=>?_);subst hr;exact wpAny_execs_nil ⟨σ3,H3,I4,qn⟩
 . refine wpAny_passesOwn hp (bH (T.item X rfl rfl rfl hc i pins s3 σ3 H3 X.xe I3 (stat fr3) st3 go) fun r s4⟨u,hr,h4⟩=>?_);subst hr;refine wpAny_passesOwn hp (bH h4 fun _ s5⟨x,H5,I5,r5,y5,LK,fr5⟩=>?_);have I5':=I5.pinned (stat fr5) (T.obj _ _ LK);refine wpAny_passesOwn hp (bH (hg _ s5 σ3 H5 x u _ I5' r5 (step x H5 y5)) fun _ s6⟨σ6,H6,I6,q6⟩=>?_);refine wpAny_passesOwn hp (bH (hb _ s6 σ6 H6 _ I6 q6) fun f s7 q7=>?_);have again:∀{σ7:St}{H7:Hp},Inv X (pins++pP fp s5.heap) σ7 H7 s7->N σ7 H7->∃m,m<n/\∃i σ' H',Inv X pins σ' H' s7/\tn i s7.heap/\(∀b∈fp,H' b=none)/\W i m σ' H':=fun{σ7 H7}I7 n7=>by obtain⟨m',hm,w7⟩:=hN σ7 H7 n7;refine⟨m',hm,i+1,σ7,H7,I7.lg,T.keep _ _ _ LK fun b hb o e=>(I7.pin (b,o) (mem_append_right _ (mem_append_right _ (gF hb e)))).1,fun b hb=>?_,w7⟩;obtain⟨o,e,d⟩:=T.obj _ _ LK b hb;exact(I7.pin (b,o) (mem_append_right _ (mem_append_right _ (gF hb e)))).2.1
   cases f with|next=>obtain⟨σ7,H7,I7,n7⟩:=q7;exact again I7 n7|cont=>obtain⟨σ7,H7,I7,n7⟩:=q7;exact again I7 n7|brk=>obtain⟨σ7,H7,I7,q7⟩:=q7;exact⟨σ7,H7,I7.lg,q7⟩|ret v=>obtain⟨x7,σ7,H7,I7,r7,q7⟩:=q7;exact⟨x7,σ7,H7,I7.lg,r7,q7⟩
end
abbrev R2:=V->V->Hp->VK->Prop
def cR(X:Cx)(f:Value->Value->Sem Value)(r:R2):Prop:=∀(pins:List (Addr × Obj))(s:Shared)(σ:St)(H:Hp)(x y:V)(v u:Value)(Q:VK),Inv X pins σ H s->RelV x v->RelV y u->r x y H Q->wpAny (model X.prog X.w) X.A (f v u) (EP X pins σ Q) X.xe s
def UnR(X:Cx)(f:Value->Sem Value)(r:V->Hp->VK->Prop):Prop:=∀(pins:List (Addr × Obj))(s:Shared)(σ:St)(H:Hp)(x:V)(v:Value)(Q:VK),Inv X pins σ H s->RelV x v->r x H Q->wpAny (model X.prog X.w) X.A (f v) (EP X pins σ Q) X.xe s
def cW(X:Cx)(f:Value)(r:List V->Hp->VK->Prop):Prop:=∀(pins:List (Addr × Obj))(s:Shared)(σ:St)(H:Hp)(xs:List V)(us:List Value)(Q:VK),Inv X pins σ H s->Vals xs us->r xs H Q->wpAny (model X.prog X.w) X.A (call f us) (EP X pins σ Q) X.xe s
def Pu(r:R2)(ta tb:TE):TE:=fun σ H Q=>ta σ H fun x H1=>tb σ H1 fun y H2=>r x y H2 Q
def tUn(r:V->Hp->VK->Prop)(ta:TE):TE:=fun σ H Q=>ta σ H fun x H1=>r x H1 Q
def rI(C:Int->Int->Prop)(g:Int->Int->V):R2:=fun x y H Q=>∃i j,x=.int i/\y=.int j/\C i j/\Q (g i j) H
def HD(g:Int->Int->V):R2:=fun x y H Q=>∃i j,x=.int i/\y=.int j/\Q (g i j) H
def rU(g:Int->V):V->Hp->VK->Prop:=fun x H Q=>∃i,x=.int i/\Q (g i) H
section
variable{X:Cx}{a b c:Expr}{ta tb tc:TE}{pos:Pos}
theorem Oq(ha:PE X a ta)(hb:PE X b tb){pins:List (Addr×Obj)}{s:Shared}{σ:St}{H:Hp}{R:V->V->Hp->Prop}(I:Inv X pins σ H s)(h:ta σ H fun x H1=>tb σ H1 fun y H2=>R x y H2){Q:Value->Shared->Prop}{f:Value->Value->Sem Value}(hf:∀v u s2 x y H2,Inv X pins σ H2 s2->RelV x v->RelV y u->R x y H2->wpAny (model X.prog X.w) X.A (f v u) Q X.xe s2):wpAny (model X.prog X.w) X.A (eval a X.env) (fun v s₁=>wpAny (model X.prog X.w) X.A (eval b X.env) (fun u s₂=>wpAny (model X.prog X.w) X.A (f v u) Q X.xe s₂) X.xe s₁) X.xe s:=by refine bH (ha pins s σ H _ I h) fun v s1⟨x,H1,I1,r1,q1⟩=>?_;refine bH (hb pins s1 σ H1 _ I1 q1) fun u s2⟨y,H2,I2,r2,q2⟩=>?_;exact hf v u s2 x y H2 I2 r1 r2 q2
theorem Xu{op:Operator}{r:R2}(ho:cR X (binaryOp op) r)(ha:PE X a ta)(hb:PE X b tb):PE X (.BinOp a op b pos) (Pu r ta tb):=by intro pins s σ H Q I h;exact wpAny_BinOp (Oq ha hb I h fun v u s2 x y H2 I2 rx ry q=>ho pins s2 σ H2 x y v u Q I2 rx ry q)
theorem XJ{op:UnaryOp}{r:V->Hp->VK->Prop}(ho:UnR X (unaryOp op) r)(ha:PE X a ta):PE X (.UnaryOp op a pos) (tUn r ta):=by intro pins s σ H Q I h;exact UnaryOp_ (bH (ha pins s σ H _ I h) fun v s1⟨x,H1,I1,r1,q1⟩=>ho pins s1 σ H1 x v Q I1 r1 q1)
theorem Xe{f:Value->Value->Sem Value}{C:Int->Int->Prop}{g:Int->Int->Int}(rule:∀(i j:Int)(t u:Tok)(s:Shared)(Q:Value->Shared->Prop)(E:Value->Shared->Prop),C i j->Q (.int (g i j) s.toks) {s with toks:=s.toks+1}->wpAny (model X.prog X.w) X.A (f (.int i t) (.int j u)) Q E s):cR X f (rI C fun i j=>.int (g i j)):=by intro pins s σ H x y v u Q I rx ry h;obtain⟨i,j,rfl,rfl,hc,q⟩:=h;obtain⟨t,rfl⟩:=rx;obtain⟨t',rfl⟩:=ry;exact rule i j t t' s _ _ hc ⟨.int (g i j),H,I.tok _,⟨_,rfl⟩,q⟩
theorem RG{f:Value->Value->Sem Value}{g:Int->Int->Int}(rule:∀(i j:Int)(t u:Tok)(s:Shared)(Q:Value->Shared->Prop)(E:Value->Shared->Prop),Q (.int (g i j) s.toks) {s with toks:=s.toks+1}->wpAny (model X.prog X.w) X.A (f (.int i t) (.int j u)) Q E s):cR X f (HD fun i j=>.int (g i j)):=by intro pins s σ H x y v u Q I rx ry h;obtain⟨i,j,rfl,rfl,q⟩:=h;obtain⟨t,rfl⟩:=rx;obtain⟨t',rfl⟩:=ry;exact rule i j t t' s _ _ ⟨.int (g i j),H,I.tok _,⟨_,rfl⟩,q⟩
theorem Jb{f:Value->Value->Sem Value}{g:Int->Int->Bool}(rule:∀(i j:Int)(t u:Tok)(s:Shared)(Q:Value->Shared->Prop)(E:Value->Shared->Prop),Q (.bool (g i j)) s->wpAny (model X.prog X.w) X.A (f (.int i t) (.int j u)) Q E s):cR X f (HD fun i j=>.bl (g i j)):=by intro pins s σ H x y v u Q I rx ry h;obtain⟨i,j,rfl,rfl,q⟩:=h;obtain⟨t,rfl⟩:=rx;obtain⟨t',rfl⟩:=ry;exact rule i j t t' s _ _ ⟨.bl (g i j),H,I,rfl,q⟩
def VM(i j:Int):Prop:=0<=j/\j<=1000000/\i.natAbs<2^64
def Q3(i j:Int):Prop:=(-(2^64)<i/\i<2^64)\/(-(2^64)<j/\j<2^64)
theorem Q3.ok{i j:Int}(h:Q3 i j):IntMulOk i j:=by
 rcases h with⟨h1,h2⟩|⟨h1,h2⟩;.exact .of_left (intBits_le_64 h1 h2)
 .exact .of_right (intBits_le_64 h1 h2)
theorem yL(k:Nat):(0:Int)<=2^k:=by rw[two_pow_cast];exact Int.natCast_nonneg _
theorem QR:cR X (binaryOp .Add) (HD fun i j=>.int (i+j)):=RG fun _ _ _ _ _ _ _ q=>add_int q
theorem Sv:cR X (binaryOp .Sub) (HD fun i j=>.int (i-j)):=RG fun _ _ _ _ _ _ _ q=>sub_int q
theorem Qo:cR X (binaryOp .Mult) (rI Q3 fun i j=>.int (i*j)):=Xe fun _ _ _ _ _ _ _ hc q=>mul_int q hc.ok
theorem R8:cR X (binaryOp .Mod) (rI (fun _ j=>0<j) fun i j=>.int (i%j)):=Xe fun i j _ _ _ _ _ hc q=>by have h1:(0:Int)<j:=hc;exact mod_int' (by omega) (by rw[Int.fmod_eq_emod_of_nonneg i (by omega)];exact q)
theorem Ql:cR X (binaryOp .Pow) (rI VM fun i j=>.int (i^j.toNat)):=Xe fun _ _ _ _ _ _ _ hc q=>pow_int_small hc.1 hc.2.1 hc.2.2 q
theorem QB:cR X (binaryOp .LShift) (rI VM fun i j=>.int (i*2^j.toNat)):=Xe fun _ _ _ _ _ _ _ hc q=>lshift_int_small hc.1 hc.2.1 hc.2.2 q
theorem O6:cR X (binaryOp .RShift) (rI (fun _ j=>0<=j) fun i j=>.int (i/2^j.toNat)):=Xe fun i j _ _ _ _ _ hc q=>rshift_int hc (by rw[Int.fdiv_eq_ediv_of_nonneg i (yL _)];exact q)
theorem QK:cR X (binaryOp .BitAnd) (HD fun i j=>.int (Builtin.bitAnd i j)):=RG fun _ _ _ _ _ _ _ q=>and_int q
theorem Ug{f:Value->Sem Value}{g:Int->Int}(rule:∀(i:Int)(t:Tok)(s:Shared)(Q:Value->Shared->Prop)(E:Value->Shared->Prop),Q (.int (g i) s.toks) {s with toks:=s.toks+1}->wpAny (model X.prog X.w) X.A (f (.int i t)) Q E s):UnR X f (rU fun i=>.int (g i)):=by intro pins s σ H x v Q I rx h;obtain⟨i,rfl,q⟩:=h;obtain⟨t,rfl⟩:=rx;exact rule i t s _ _ ⟨.int (g i),H,I.tok _,⟨_,rfl⟩,q⟩
theorem Ou:UnR X (unaryOp .USub) (rU fun i=>.int (-i)):=Ug fun _ _ _ _ _ q=>neg_int q
end
section
variable{X:Cx}{a b c:Expr}{ta tb tc:TE}{pos:Pos}
theorem Ff{pins:List (Addr×Obj)}{σ:St}{H:Hp}{s:Shared}{Q:VK}{k k':Bool}(I:Inv X pins σ H s)(q:Q (.bl k) H)(e:k=k'):EP X pins σ Q (.bool k') s:=by subst e;exact⟨.bl k,H,I,rfl,q⟩
theorem Xc:cR X (compareOp .Lt) (HD fun i j=>.bl (decide (i<j))):=Jb fun _ _ _ _ _ _ _ q=>lt_int q
theorem Wa:cR X (compareOp .LtE) (HD fun i j=>.bl (decide (i<=j))):=Jb fun _ _ _ _ _ _ _ q=>le_int q
theorem VN:cR X (compareOp .Gt) (HD fun i j=>.bl (decide (j<i))):=Jb fun _ _ _ _ _ _ _ q=>gt_int q
theorem Ws:cR X (compareOp .GtE) (HD fun i j=>.bl (decide (j<=i))):=Jb fun _ _ _ _ _ _ _ q=>ge_int q
theorem QM:cR X (compareOp .Is) (fun x y H Q=>y=.non/\Q (.bl (decide (x=.non))) H):=by intro pins s σ H x y v u Q I rx ry h;obtain⟨rfl,q⟩:=h;cases ry;refine is_none_gen (Ff I q ?_);cases x<;>first|(cases rx;rfl)|(obtain⟨t,rfl⟩:=rx;rfl)
theorem KH:cR X (compareOp .IsNot) (fun x y H Q=>y=.non/\Q (.bl (!decide (x=.non))) H):=by intro pins s σ H x y v u Q I rx ry h;obtain⟨rfl,q⟩:=h;cases ry;refine isnot_none_gen (Ff I q ?_);cases x<;>first|(cases rx;rfl)|(obtain⟨t,rfl⟩:=rx;rfl)
theorem bJ(b:Expr){op:CmpOp}(h:op≠.In:=by decide)(h2:op≠.NotIn:=by decide):behindInMarks op b=false:=by
 have e1:(op==CmpOp.In)=false:=by cases op<;>first|rfl|exact absurd rfl h
 have e2:(op==CmpOp.NotIn)=false:=by cases op<;>first|rfl|exact absurd rfl h2
 cases b<;>simp[behindInMarks,e1,e2]
theorem Li{op:CmpOp}{r:R2}(ho:cR X (compareOp op) r)(ha:PE X a ta)(hb:PE X b tb)(hm:behindInMarks op b=false):PE X (.Compare a [op] [b] pos) (Pu r ta tb):=by intro pins s σ H Q I h;exact wpAny_Compare1 (Oq ha hb I h fun v u s2 x y H2 I2 rx ry q=>ho pins s2 σ H2 x y v u Q I2 rx ry q) hm
def M3(t:TE):TT:=fun σ H Q=>t σ H fun x H'=>∃k,x=.bl k/\Q k H'
theorem Ay{op:CmpOp}{r:R2}(ho:cR X (compareOp op) r)(ha:PE X a ta)(hb:PE X b tb)(hm:behindInMarks op b=false):PT X (.Compare a [op] [b] pos) (M3 (Pu r ta tb)):=by intro pins s σ H Q I h;refine wpAny_isTrue_Compare1 (bH (ha pins s σ H _ I h) fun v s1⟨x,H1,I1,r1,q1⟩=>bH (hb pins s1 σ H1 _ I1 q1) fun u s2⟨y,H2,I2,r2,q2⟩=>bH (ho pins s2 σ H2 x y v u _ I2 r1 r2 q2) fun c s3⟨z,H3,I3,r3,k,e,q3⟩=>?_) hm;subst e;cases r3;exact wpAny_truthy_bool ⟨H3,I3,q3⟩
def Ek(r r':R2)(ta tb tc:TE):TE:=fun σ H Q=>ta σ H fun x H1=>tb σ H1 fun y H2=>r x y H2 fun z H3=>∃k,z=.bl k/\(if k=true then tc σ H3 fun w' H4=>r' y w' H4 Q else Q (.bl false) H3)
theorem FP{op op':CmpOp}{r r':R2}(ho:cR X (compareOp op) r)(ho':cR X (compareOp op') r')(ha:PE X a ta)(hb:PE X b tb)(hc:PE X c tc)(hm:lastMarks [op,op'] [b,c]=false:=by with_unfolding_all rfl):PT X (.Compare a [op,op'] [b,c] pos) (M3 (Ek r r' ta tb tc)):=by intro pins s σ H Q I h;refine isTrue_chain (bH (ha pins s σ H _ I h) fun v s1⟨x,H1,I1,r1,q1⟩=>test_link (bH (hb pins s1 σ H1 _ I1 q1) fun u s2⟨y,H2,I2,r2,q2⟩=>bH (ho pins s2 σ H2 x y v u _ I2 r1 r2 q2) fun d s3⟨z,H3,I3,r3,k,e,q3⟩=>?_)) hm;subst e;cases r3;refine wpAny_truthy_bool ?_;cases k with|false=>obtain⟨k',e',q'⟩:=q3;cases e';exact ite_ff ⟨H3,I3,q'⟩|true=>refine ite_tt (test_last (bH (hc pins s3 σ H3 _ I3 q3) fun w' s4⟨z',H4,I4,r4,q4⟩=>bH (ho' pins s4 σ H4 y z' u w' _ I4 r2 r4 q4) fun d' s5⟨z2,H5,I5,r5,k2,e2,q5⟩=>?_));subst e2;cases r5;exact wpAny_truthy_bool ⟨H5,I5,q5⟩
theorem qe:(sizeLine:Nat)<2^63:=by rw[sizeLine_eq];decide
theorem yH:cR X (binaryOp .Add) (fun x y H Q=>∃i j,x=.str i/\y=.str j/\i.length+j.length<=sizeLine/\Q (.str (i++j)) H):=by intro pins s σ H x y v u Q I rx ry h;obtain⟨i,j,rfl,rfl,hz,q⟩:=h;obtain⟨t,rfl⟩:=rx;obtain⟨t',rfl⟩:=ry;exact add_str (fun t' tk=>⟨.str (i++j),H,I.tok _,⟨_,rfl⟩,q⟩) hz
theorem vals1{x:V}{us:List Value}(r:Vals [x] us):∃u,us=[u]/\RelV x u:=by cases r with|cons r1 r2=>cases r2;exact⟨_,rfl,r1⟩
theorem vals2{x y:V}{us:List Value}(r:Vals [x,y] us):∃u w',us=[u,w']/\RelV x u/\RelV y w':=by cases r with|cons r1 r2=>cases r2 with|cons r3 r4=>cases r4;exact⟨_,_,rfl,r1,r3⟩
theorem CJ(hc:X.calm=true):cW X (.builtin "max") (fun xs H Q=>∃i j,xs=[.int i,.int j]/\Q (.int (if j>i then j else i)) H):=by
 intro pins s σ H xs us Q I r h;obtain⟨i,j,rfl,q⟩:=h;obtain⟨u,w',rfl,⟨t,rfl⟩,⟨t',rfl⟩⟩:=vals2 r;refine max_two_ints (I.ok.hd hc) fun h' tk k=>⟨_,H,I.kept k,?_,q⟩;by_cases hj:j>i;.rw[if_pos hj,if_pos hj];exact⟨_,rfl⟩
 .rw[if_neg hj,if_neg hj];exact⟨_,rfl⟩
theorem BK(hc:X.calm=true):cW X (.builtin "min") (fun xs H Q=>∃i j,xs=[.int i,.int j]/\Q (.int (if j<i then j else i)) H):=by
 intro pins s σ H xs us Q I r h;obtain⟨i,j,rfl,q⟩:=h;obtain⟨u,w',rfl,⟨t,rfl⟩,⟨t',rfl⟩⟩:=vals2 r;refine min_two_ints (I.ok.hd hc) fun h' tk k=>⟨_,H,I.kept k,?_,q⟩;by_cases hj:j<i;.rw[if_pos hj,if_pos hj];exact⟨_,rfl⟩
 .rw[if_neg hj,if_neg hj];exact⟨_,rfl⟩
end
theorem nD.some_of{v:V}{o:Option Value}(r:nD (some v) o):∃u,o=some u/\RelV v u:=by cases o with|none=>exact(show False from r).elim|some u=>exact⟨u,rfl,r⟩
structure iB(k:Nat)(A:Around):Prop where
 hd:A.handled=none
 dp:A.depth+3*k+5<recursionLimit
 un:A.units+16*k+200<cLine
theorem iB.deeper{k:Nat}{A:Around}(r:iB (k+1) A)(env:Env):iB k (A.deeper env):=⟨r.hd,by have:=r.dp;show A.depth+1+3*k+5<_;omega,by have:=r.un;show A.units+3+16*k+200<_;omega⟩
theorem iB.depth{k:Nat}{A:Around}(r:iB k A):A.depth<recursionLimit:=by have:=r.dp;omega
def abW:TA:=fun _ H Q=>Q [] H
def Vz(ta:TE)(tr:TA):TA:=fun σ H Q=>ta σ H fun x H1=>tr σ H1 fun xs H2=>Q (x::xs) H2
section
variable{X:Cx}{e:Expr}{es:List Expr}{te:TE}{t:TA}{pos:Pos}
theorem dZ:PA X [] abW:=fun _ _ _ _ H Q I h=>Calls.spliced_nil ⟨[],H,I,.nil,h⟩
theorem cB(ha:PE X e te)(hr:PA X es t)(hs:starEach (e::es) X.env=(false,eval e X.env)::starEach es X.env:=by rfl):PA X (e::es) (Vz te t):=by intro pos pins s σ H Q I h;rw[hs];show wpAny _ _ (spliced ((false,eval e X.env)::backTo pos (starEach es X.env))) _ _ s;refine Calls.spliced_cons (bH (ha pins s σ H _ I h) fun u s1⟨x,H1,I1,r1,q1⟩=>?_);exact bH (hr pos pins s1 σ H1 _ I1 q1) fun us s2⟨xs,H2,I2,r2,q2⟩=>⟨x::xs,H2,I2,.cons r1 r2,q2⟩
def acD(t:TA):TE:=fun σ H Q=>t σ H fun xs H1=>xs.length<=sizeLine/\∀p,H1 p=none->Q (.ref p) (upd H1 p (.tup xs))
def abx(t:TA):TE:=fun σ H Q=>t σ H fun xs H1=>xs.length<=sizeLine/\∀p,H1 p=none->Q (.ref p) (upd H1 p (.lst xs))
theorem Pq{x1}(h:PA X es t):PE X (.Tuple es x1 pos) (acD t):=by intro pins s σ H Q I hq;refine wpAny_Tuple_spliced (bH (h pos pins s σ H _ I hq) fun us s1⟨xs,H1,I1,r,z,q⟩=>⟨by rw[<-r.length];exact z,?_⟩);have hf:H1 s1.heap.objs.size=none:=I1.hok.fresh (le_refl _);refine⟨.ref s1.heap.objs.size,upd H1 s1.heap.objs.size (.tup xs),I1.laid (t':=s1.toks) (fun b u e=>get?_push_of_some _ e) (le_refl _) ?_,rfl,q _ hf⟩;exact⟨z,us,r,⟨_,get?_push_size _ rfl,rfl,_,rfl⟩⟩
theorem SN(h:PA X es t):PE X (.List es pos) (abx t):=by intro pins s σ H Q I hq;refine wpAny_List_spliced (bH (h pos pins s σ H _ I hq) fun us s1⟨xs,H1,I1,r,z,q⟩=>⟨by rw[<-r.length];exact z,?_⟩);have hf:H1 s1.heap.objs.size=none:=I1.hok.fresh (le_refl _);refine⟨.ref s1.heap.objs.size,upd H1 s1.heap.objs.size (.lst xs),I1.laid (t':=s1.toks) (fun b u e=>get?_push_of_some _ e) (le_refl _) ?_,rfl,q _ hf⟩;exact⟨z,us,0,r,get?_push_size _ rfl⟩
end
abbrev Sp:=List V->Hp->VK->XK->Prop
abbrev Eu:=List Env->Hp->Shared->XK->Value->Shared->Prop
structure Jj(P:Program)(w:World)(K:PySem.W.Frag)(mg:Str->Option Value)(base:Heap)(A:Around)(outer:List Env)(s:Shared)(H:Hp):Prop where
 frames:A.frames=some outer
 mod:Mod K mg base
 bs:∀b o,base.get? b=some o->s.heap.get? b=some o/\H b=none
 NZ:base.objs.size<=s.heap.objs.size
 o7:s.heap.FunFrames base outer
 Vl:∀b∈frs outer,H b=none
 hok:lN P w H s.heap
 bare:AllBare s.gens
def CE(outer:List Env)(P:Program)(w:World)(H:Hp)(s:Shared)(Q:VK)(u:Value)(s':Shared):Prop:=∃v H',s'.os=s.os/\AllBare s'.gens/\Un (frs outer) [] H H' s.heap s'.heap/\lN P w H' s'.heap/\RelV v u/\Q v H'
def CR(CX:Eu)(outer:List Env)(P:Program)(w:World)(H:Hp)(s:Shared)(Q:VK)(E:XK)(r:Result)(s':Shared):Prop:=match r with|.ok (.ret u)=>CE outer P w H s Q u s'|.ok _=>False|.error e=>CX outer H s E e s'
structure bW(P:Program)(w:World)(K:PySem.W.Frag)(mg:Str->Option Value)(base:Heap)(CX:Eu)(k:Nat)(f:Addr)(fd:FuncData)(ps:List Str)(sp:Sp):Prop where
 len:∀vs H Q E,sp vs H Q E->vs.length=ps.length
 run:∀(A:Around)(outer:List Env)(s:Shared)(H:Hp)(args:Args)(us:List Value)(vs:List V)(Q:VK)(E:XK),iB k A->Jj P w K mg base A outer s H->BindsTo s fd args (ps.zip us)->Vals vs us->sp vs H Q E->codeAny (model P w) A (.call (.ref f) args) (CR CX outer P w H s Q E) s
section
variable{X:Cx}{pins:List (Addr×Obj)}{σ:St}{H:Hp}{s s':Shared}
theorem Inv.env0(I:Inv X pins σ H s):Jj X.prog X.w X.K X.mg X.base X.A X.stack s H:=⟨I.ok.frames,I.ok.mod,I.bs,le_trans I.ok.NZ I.sz,I.stack,I.Bk,I.hok,I.bare⟩
theorem Inv.after{Q:VK}{u:Value}(I:Inv X pins σ H s)(h:CE X.stack X.prog X.w H s Q u s'):EP X pins σ Q u s':=by obtain⟨v,H',os,bare,un,hok,r,q⟩:=h;obtain⟨hh,g,d,t,os'⟩:=s';obtain rfl:os'=s.os:=os;exact⟨v,H',I.call (h':=hh) (g':=g) (d':=d) (t':=t) (ch:=[]) un hok bare (fun b z=>absurd z (by simp)),r,q⟩
end
def V6(sp:Sp)(N7:List V)(E:XK)(t:TA):TE:=fun σ H Q=>t σ H fun vs H1=>sp (vs++N7) H1 Q E
def Binds(K:PySem.W.Frag)(fd:FuncData)(ps:List Str)(ds:List Value):Prop:=∀(s:Shared)(us:List Value),K.In s.heap->(us++ds).length=ps.length->BindsTo s fd ⟨us,[]⟩ (ps.zip (us++ds))
theorem Binds.all{K:PySem.W.Frag}{fd:FuncData}{ps:List Str}(h:∀us:List Value,us.length=ps.length->bindArgs fd ⟨us,[]⟩=pure (ps.zip us)):Binds K fd ps []:=fun s us _ hl=>by rw[append_nil]at hl ⊢;exact .of_eq (h us hl)
def Passes(CX:Eu)(X:Cx)(E:XK):Prop:=∀(pins:List (Addr×Obj))(σ:St)(H:Hp)(s:Shared)(e:Value)(s':Shared),Inv X pins σ H s->CX X.stack H s E e s'->X.xe e s'
section
variable{X:Cx}{CX:Eu}{k:Nat}{f C:Addr}{fd:FuncData}{ps:List Str}{sp:Sp}{N7:List V}{ds:List Value}{E:XK}{x m:Str}{p pos apos:Pos}{e o:Expr}{es:List Expr}{ta:TE}{t:TA}
theorem Ph{pins:List (Addr×Obj)}{σ:St}{H:Hp}{s:Shared}{Q:VK}{us:List Value}{vs:List V}(F:bW X.prog X.w X.K X.mg X.base CX k f fd ps sp)(hr:iB k X.A)(hb:Binds X.K fd ps ds)(hd:Vals N7 ds)(hx:Passes CX X E)(I:Inv X pins σ H s)(r:Vals vs us)(h:sp (vs++N7) H Q E):wpAny (model X.prog X.w) X.A (call (.ref f) us) (EP X pins σ Q) X.xe s:=by
 have r2:Vals (vs++N7) (us++ds):=r.append hd;have hl:(us++ds).length=ps.length:=by rw[<-r2.length];exact F.len _ _ _ _ h
 refine wpAny_call (codeAny_mono (F.run X.A X.stack s H ⟨us,[]⟩ (us++ds) (vs++N7) Q E hr I.env0 (hb s us I.RP hl) r2 h) fun r s' hq=>?_);cases r with|error e=>exact hx pins σ H s e s' I hq|ok fl=>cases fl with|ret u=>exact I.after hq|next=>exact False.elim hq|brk=>exact False.elim hq|cont=>exact False.elim hq
theorem Ja(F:bW X.prog X.w X.K X.mg X.base CX k f fd ps sp)(hr:iB k X.A)(hg:Gl X x)(hm:X.mg x=some (.ref f))(hk:keepIn X.K (.ref f)=true)(hb:Binds X.K fd ps ds)(hd:Vals N7 ds)(hx:Passes CX X E)(ha:PA X (e::es) t)(hdb:(x==("__debug__":Str))=false:=by decide)(he:starEach (e::es) X.env=(false,eval e X.env)::starEach es X.env:=by rfl)(hpl:(backTo pos (starEach es X.env)).any (·.1)=false:=by rfl):PE X (.Call (.Name x p) (e::es) [] pos) (V6 sp N7 E t):=by intro pins s σ H Q I h;refine wpAny_Call_Name_kw (J5 I hg hm ?_ hdb);refine PySem.W.callWith_K (h₀:=X.base) I.ok.mod.qx hk (bH (ha pos pins s σ H _ I h) fun us s1⟨vs,H1,I1,r,q⟩=>⟨I1.RP,?_⟩) he hpl;exact Ph F hr hb hd hx I1 r q
end
structure aL(N P:List Str)(sc:Scope):Prop where
 kind:sc.kind=.function
 co:sc.isCoroutine=false
 gen:sc.isGenerator=false
 nd:N.Nodup
 pre:N.take P.length=P
 par:∀x∈P,sc.names.lookup x=some .local\/sc.names.lookup x=some .cell
 Ti:∀y∈sc.names,y.2≠.free
theorem qT{kindOf:Str->Option NameKind}{x:Str}:∀{binds:List (Str×Value)}{m:Str->Option Value},(∀v,(x,v)∉binds)->bindL kindOf binds m x=m x
 |[],_,_=>rfl|(n,v)::r,m,h=>by
   unfold bindL;rw[qT fun w hw=>h w (mem_cons_of_mem _ hw)];split
   . have:x≠n:=by rintro rfl;exact h v mem_cons_self
     simp[this]
   .rfl
theorem qI{kindOf:Str->Option NameKind}{x:Str}:∀{binds:List (Str×Value)}{m:Str->Option Value},(∀v,(x,v)∉binds)->bindC kindOf binds m x=m x
 |[],_,_=>rfl|(n,v)::r,m,h=>by
   unfold bindC;rw[qI fun w hw=>h w (mem_cons_of_mem _ hw)];split;.rfl
   . have:x≠n:=by rintro rfl;exact h v mem_cons_self
     simp[this]
theorem qU{kindOf:Str->Option NameKind}{x:Str}{v:Value}:∀{P:List Str}{vs:List Value}{i:Nat}{m:Str->Option Value},P.Nodup->P[i]?=some x->vs[i]?=some v->kindOf x=some .local->bindL kindOf (P.zip vs) m x=some v|[],_,_,_,_,h,_,_=>by simp at h|_::_,[],_,_,_,_,h,_=>by simp at h|p::P,w::vs,0,m,nd,h1,h2,hk=>by simp at h1 h2;subst h1;subst h2;show bindL kindOf ((p,w)::P.zip vs) m p=_;unfold bindL;rw[qT fun v hv=>(nodup_cons.mp nd).1 (of_mem_zip hv).1,if_pos hk];simp|p::P,w::vs,i+1,m,nd,h1,h2,hk=>by show bindL kindOf ((p,w)::P.zip vs) m x=_;unfold bindL;exact qU (i:=i) (nodup_cons.mp nd).2 (by simpa using h1) (by simpa using h2) hk
theorem qR{kindOf:Str->Option NameKind}{x:Str}{v:Value}:∀{P:List Str}{vs:List Value}{i:Nat}{m:Str->Option Value},P.Nodup->P[i]?=some x->vs[i]?=some v->kindOf x≠some .local->bindC kindOf (P.zip vs) m x=some v|[],_,_,_,_,h,_,_=>by simp at h|_::_,[],_,_,_,_,h,_=>by simp at h|p::P,w::vs,0,m,nd,h1,h2,hk=>by simp at h1 h2;subst h1;subst h2;show bindC kindOf ((p,w)::P.zip vs) m p=_;unfold bindC;rw[qI fun v hv=>(nodup_cons.mp nd).1 (of_mem_zip hv).1,if_neg hk];simp|p::P,w::vs,i+1,m,nd,h1,h2,hk=>by show bindC kindOf ((p,w)::P.zip vs) m x=_;unfold bindC;exact qR (i:=i) (nodup_cons.mp nd).2 (by simpa using h1) (by simpa using h2) hk
noncomputable def start(N:List Str)(vs:List V):St:=vs.map some++replicate (N.length-vs.length) none
noncomputable def yc(CX:Eu)(P:Program)(w:World)(K:PySem.W.Frag)(mg:Str->Option Value)(base:Heap)(N:List Str)(qual:Str)(scope:Scope)(f:Addr)(cd:Value)(A:Around)(outer:List Env)(s:Shared)(H:Hp)(E:XK):Cx where prog:=P;w:=w;K:=K;mg:=mg;base:=base;A:=A.deeper (envOfC qual scope s.heap.objs.size f cd);N:=N;s₀:=s;H₀:=H;env:=envOfC qual scope s.heap.objs.size f cd;outer:=outer;stack:=envOfC qual scope s.heap.objs.size f cd::outer;ex:=[];calm:=true;fn:=fun _=>true;pn:=[];xe:=fun e s'=>wpAny (model P w) (A.deeper (envOfC qual scope s.heap.objs.size f cd)) (leaving (envOfC qual scope s.heap.objs.size f cd) e) (fun _ s''=>CX outer H s E e s'') (fun e' s''=>CX outer H s E e' s'') s'
theorem vW{sc:Scope}{n:Nat}{x:Str}(h:sc.names.lookup x=some .cell):∃c,(cellsFrom n sc.names []).lookup x=some c:=by have q:=PySem.W.cellsFrom_some sc.names n [] (.inl h);exact Option.isSome_iff_exists.mp q
theorem CV{CX:Eu}{P:Program}{w:World}{K:PySem.W.Frag}{mg:Str->Option Value}{base:Heap}{N ps:List Str}{qual:Str}{scope:Scope}{f:Addr}{cd:Value}{A:Around}{outer:List Env}{s s1:Shared}{H:Hp}{E:XK}{us:List Value}{vs:List V}(S:aL N ps scope)(hd:A.handled=none)(e0:Jj P w K mg base A outer s H)(hl:vs.length=ps.length)(r:Vals vs us)(x:InCallC s s.heap.objs.size (bindL (envOfC qual scope s.heap.objs.size f cd).kindOf (ps.zip us) fun _=>none) (cellsFrom (s.heap.objs.size+1) scope.names []) (bindC (envOfC qual scope s.heap.objs.size f cd).kindOf (ps.zip us) fun _=>none) s1):Inv (yc CX P w K mg base N qual scope f cd A outer s H E) [] (start N vs) H s1:=by
 have hpl:ps.length<=N.length:=by have:=congrArg List.length S.pre;rw[length_take]at this;omega
 obtain⟨h1,tk,rfl,hk⟩:=x.done;have Yg:∀b:Addr,b∉(yc CX P w K mg base N qual scope f cd A outer s H E).ex:=fun b z=>absurd (show b∈([]:List Addr)from z) (by simp);refine⟨⟨e0.mod,S.kind,rfl,rfl,le_refl _,fun y z c h1 h2=>?_,fun y hy=>?_,fun y c _ h=>?_,fun _=>hd,Around.frames_deeper e0.frames,.inr ⟨rfl,rfl⟩,fun b z=>absurd z (Yg b),e0.bs,e0.NZ,fun b _ _=>Yg b,fun b z=>absurd z (Yg b),e0.o7,e0.Vl⟩,rfl,e0.bare,Un.kept hk,⟨_,x.toInCall.ns,fun i y v h1 h2 h3=>?_⟩,fun y c h=>⟨_,x.cell y c h⟩,e0.hok.fresh (le_refl _),fun y c h=>?_,fun p hp=>absurd (show p∈([]:List (Addr×Obj))from hp) (by simp),e0.hok.kept hk,?_⟩;.exact name_of_addr x.apart (PySem.mem_of_lookup h1) (PySem.mem_of_lookup h2)
 . have hy:scope.names.lookup y=some .cell\/scope.names.lookup y=some .free:=hy;rcases hy with hy|hy;.exact vW hy
   .exact absurd rfl (S.Ti _ (PySem.mem_of_lookup hy))
 .exact le_of_lt (x.above y c (PySem.mem_of_lookup h))
 . have hi:i<vs.length:=by
    unfold start at h2;by_cases hi:i<vs.length;.exact hi
    .rw[getElem?_append_right (by simpa using hi)]at h2;rw[List.getElem?_replicate]at h2;split at h2<;>cases h2
   have ha:vs[i]?=some v:=by unfold start at h2;rw[getElem?_append_left (by simpa using hi),getElem?_map]at h2;cases e:vs[i]?with|none=>rw[e]at h2;cases h2|some a=>rw[e]at h2;cases h2;rfl
   obtain⟨u,hu,rv⟩:=r.get ha;have hp:ps[i]?=some y:=by rw[<-S.pre,List.getElem?_take_of_lt (by omega)];exact h1
   have ndP:ps.Nodup:=by rw[<-S.pre];exact S.nd.sublist (List.take_sublist _ _)
   refine⟨u,rv,?_⟩;rcases S.par y (mem_of_getElem? hp)with k|k;.exact .inl ⟨k,qU ndP hp hu k⟩
   .obtain⟨c,e⟩:=vW (n:=s.heap.objs.size+1) k;refine .inr ⟨.inl k,c,e,?_⟩;have q:=x.cell y c e;rw[qR ndP hp hu (by show scope.names.lookup y≠_;rw[k];decide)]at q;exact q
 .exact e0.hok.fresh (le_of_lt (x.above y c (PySem.mem_of_lookup h)))
 .unfold start;show _=N.length;rw[length_append,length_map,List.length_replicate];omega
theorem Xl{CX:Eu}{P:Program}{w:World}{K:PySem.W.Frag}{mg:Str->Option Value}{base:Heap}{k:Nat}{f:Addr}{name qual:Str}{params:Arguments}{body:List Stmt}{scope:Scope}{dV kV doc pm cdv ct oc:Value}{an od:Option Addr}{osl:Array (Option Value)}{N ps:List Str}{sp:Sp}(lk:K.lookup f=some ⟨oc,od,.func (PySem.W.fnOf name qual params body scope dV kV doc pm an cdv ct),osl⟩)(hcd:PySem.W.codeIn K cdv qual=true)(S:aL N ps scope)(len:∀vs H Q E,sp vs H Q E->vs.length=ps.length)(hbody:∀(A:Around)(outer:List Env)(s:Shared)(H:Hp)(vs:List V)(Q:VK)(E:XK),iB k (A.deeper (envOfC qual scope s.heap.objs.size f cdv))->sp vs H Q E->∃t,wH (yc CX P w K mg base N qual scope f cdv A outer s H E) body t/\t {nx:=fun _ H'=>Q .non H',rt:=Q} (start N vs) H):bW P w K mg base CX (k+1) f (PySem.W.fnOf name qual params body scope dV kV doc pm an cdv ct) ps sp:=by
 refine⟨len,fun A outer s H args us vs Q E hr e0 hb r hsp=>?_⟩;have hl:=len _ _ _ _ hsp;have KX:K.In s.heap:=e0.mod.qx.keeps fun b o e=>(e0.bs b o e).1;have lim:s.heap.NoLimit:=e0.mod.nolimit.keeps fun b o e=>(e0.bs b o e).1;have hkind:∀y∈ps.zip us,scope.names.lookup y.1=some .local\/(scope.names.lookup y.1=some .cell/\((cellsFrom (s.heap.objs.size+1) scope.names []).lookup y.1).isSome=true):=fun⟨n,v⟩hy=>by
  rcases S.par n (of_mem_zip hy).1 with q|q;.exact .inl q
  .exact .inr ⟨q,PySem.W.cellsFrom_some _ _ _ (.inl q)⟩
 refine codeAny_call_function hr.depth (KX _ _ lk) rfl S.co S.gen rfl (PySem.W.codeRec_of KX hcd) (hb _ _ _ _ ?_);refine wpAny_newFunctionEnv_cells S.kind hkind fun env he s1 x=>?_;subst he;refine⟨lim.keeps x.toInCall.keep,codeAny_func ?_⟩;obtain⟨t,ht,hq⟩:=hbody A outer s H vs Q E (hr.deeper _) hsp;have I:Inv (yc CX P w K mg base N qual scope f cdv A outer s H E) [] (start N vs) H s1:=CV S hr.hd e0 hl r x;refine wpAny_mono (ht [] s1 (start N vs) H _ I hq) (fun fl s' hs=>?_) fun e s' hs=>hs;have fin:∀{σ':St}{H':Hp}{v:V}{u:Value},Inv (yc CX P w K mg base N qual scope f cdv A outer s H E) [] σ' H' s'->RelV v u->Q v H'->CE outer P w H s Q u s':=fun{σ' H' v u}J rv q=>⟨v,H',J.os,J.bare,J.base,J.hok,rv,q⟩;cases fl with|ret u=>obtain⟨v,σ',H',J,rv,q⟩:=hs;exact fin J rv q|next=>obtain⟨σ',H',J,q⟩:=hs;exact fin (v:=V.non) (u:=Value.none) J rfl q|brk=>obtain⟨_,_,_,q⟩:=hs;exact False.elim q|cont=>obtain⟨_,_,_,q⟩:=hs;exact False.elim q
section
variable{X:Cx}{x:Str}{p pos:Pos}{e:Expr}{es:List Expr}{t:TA}{id T:String}{r:List V->Hp->VK->Prop}
def Xw(r:List V->Hp->VK->Prop)(t:TA):TE:=fun σ H Q=>t σ H fun vs H1=>r vs H1 Q
theorem dm(hc:cW X (.builtin id) r)(hg:Gl X x)(hm:X.mg x=none)(hv:bootBuiltins x=some (.builtin id))(ha:PA X (e::es) t)(hn:x≠"__name__":=by decide)(hdb:(x==("__debug__":Str))=false:=by decide)(he:starEach (e::es) X.env=(false,eval e X.env)::starEach es X.env:=by rfl)(hpl:(backTo pos (starEach es X.env)).any (·.1)=false:=by rfl):PE X (.Call (.Name x p) (e::es) [] pos) (Xw r t):=by intro pins s σ H Q I h;refine wpAny_Call_Name_kw (iT I hg hm hv ?_ hn hdb);exact PyProof.Rows.callWith_builtin1 (bH (ha pos pins s σ H _ I h) fun us s1⟨vs,H1,I1,r1,q1⟩=>hc pins s1 σ H1 vs us Q I1 r1 q1) he hpl
theorem mF(hc:cW X (.type T) r)(hg:Gl X x)(hm:X.mg x=none)(hv:bootBuiltins x=some (.type T))(ha:PA X (e::es) t)(hn:x≠"__name__":=by decide)(hdb:(x==("__debug__":Str))=false:=by decide)(he:starEach (e::es) X.env=(false,eval e X.env)::starEach es X.env:=by rfl)(hpl:(backTo pos (starEach es X.env)).any (·.1)=false:=by rfl):PE X (.Call (.Name x p) (e::es) [] pos) (Xw r t):=by intro pins s σ H Q I h;refine wpAny_Call_Name_kw (iT I hg hm hv ?_ hn hdb);exact PyProof.Rows.callWith_type1 (bH (ha pos pins s σ H _ I h) fun us s1⟨vs,H1,I1,r1,q1⟩=>hc pins s1 σ H1 vs us Q I1 r1 q1) he hpl
end
end L2
namespace HT
open PySem PyProof.Rows
section
variable{prog:Program}{w:World}{A:Around}{E:Value->Shared->Prop}{s:Shared}
theorem Jv{t b:Addr}{vs ws:List Value}{Q:Value->Shared->Prop}(ht:IsTup s.heap t vs.toArray)(hb:IsTup s.heap b ws.toArray)(hv:vs≠[])(h1:ws=[]->Q (.ref t) s)(h2:ws≠[]->Q (.ref s.heap.objs.size) {s with heap:=s.heap.push {cls:=.type "tuple",data:=.seq (vs++ws).toArray}})(hsz:vs.length+ws.length<=sizeLine):wpAny (model prog w) A (binaryOp .Add (.ref t) (.ref b)) Q E s:=by
 obtain⟨⟨cls,dd,data,sl⟩,ho,hc,n,hd⟩:=id ht;obtain⟨⟨cls2,dd2,data2,sl2⟩,ho2,hc2,n2,hd2⟩:=id hb;simp only at hc hd hc2 hd2;subst hc hd hc2 hd2;have e:vs.toArray++ws.toArray=(vs++ws).toArray:=by simp
 by_cases hw:ws=[];.exact concat_meets ⟨_,ho,rfl⟩ ⟨_,ho2,rfl⟩ noFill_tuple_add seq_tuple_add slot_tuple_add entry_tuple_add (args_tuple_add_2 _ _) (tuple_addW1 t b vs.toArray ws.toArray n n2 dd dd2 sl sl2 (by simpa using hv) (by simp[hw])) ⟨ho,ho2,h1 hw⟩
 .refine concat_meets ⟨_,ho,rfl⟩ ⟨_,ho2,rfl⟩ noFill_tuple_add seq_tuple_add slot_tuple_add entry_tuple_add (args_tuple_add_2 _ _) (tuple_addW2 t b vs.toArray ws.toArray n n2 dd dd2 sl sl2 (by simpa using hv) (by simpa using hw) (by rw[size_toArray,size_toArray];exact hsz)) ⟨ho,ho2,?_⟩;rw[e];exact h2 hw
noncomputable def cO(n d:Nat):Option Int->Nat|none=>d|some v=>if v<0 then(v+(n:Int)).toNat else min v.toNat n
theorem QT(n d:Nat)(hd:d<=n)(o:Option Int):cO n d o<=n:=by cases o with|none=>exact hd|some v=>
   show(if v<0 then(v+(n:Int)).toNat else min v.toNat n)<=n;by_cases hv:v<0;.rw[if_pos hv];omega
   .rw[if_neg hv];exact Nat.min_le_right _ _
theorem zr(v:Int)(n d:Nat):(if v<0 then max (v+(n:Int)) 0 else min v (n:Int))=((cO n d (some v):Nat):Int):=by
 show(if v<0 then max (v+(n:Int)) 0 else min v (n:Int))=(((if v<0 then(v+(n:Int)).toNat else min v.toNat n):Nat):Int);by_cases hv:v<0;.simp only[if_pos hv];omega
 .simp only[if_neg hv];omega
theorem xX(lo hi:Option Int)(n:Nat):sliceAdjust lo hi 1 (n:Int)=(((cO n 0 lo:Nat):Int),((cO n n hi:Nat):Int)):=by
 have h1:¬((1:Int)<0):=by omega
 unfold sliceAdjust;simp only[h1,if_false];refine Prod.ext ?_ ?_;.cases lo with|none=>rfl|some v=>exact zr v n 0
 .cases hi with|none=>rfl|some v=>exact zr v n n
theorem yQ(i j:Nat):slicePlaces (i:Int) (j:Int) 1=j-i:=by
 unfold slicePlaces;have h1:(1:Int)>0:=by omega
 simp only[h1,if_true,Int.ediv_one];split<;>omega
theorem oO{v:Value}{o:Option Int}{Q:Option Int->Shared->Prop}(p:IsPart v o)(h:Q o s):wpAny (model prog w) A (Builtin.Slice.slicePartIndex v) Q E s:=by cases p with|none=>exact slicePart_none h|int i t=>exact slicePart_int h
theorem gn{sl:Addr}{vl vu:Value}{lo hi:Option Int}{n:Nat}{Q:Int×Int×Nat->Shared->Prop}(hs:s.heap.IsSliceOf sl vl vu .none)(pl:IsPart vl lo)(pu:IsPart vu hi)(h:Q (((cO n 0 lo:Nat):Int),1,cO n n hi-cO n 0 lo) s):wpAny (model prog w) A (sliceApplied (.ref sl) (pure (n:Int))) Q E s:=by obtain⟨os,hos,hcs,hds⟩:=id hs;unfold sliceApplied Builtin.Slice.sliceFields;refine wpAny_bind (wpAny_bind (wpAny_field hos hds (x:=vl) rfl (wpAny_bind (wpAny_field hos hds (x:=vu) rfl (wpAny_bind (wpAny_field hos hds (x:=.none) rfl (wpAny_pure ?_)))))));refine wpAny_bind (slicePart_none ?_);show wpAny _ _ (if((1:Int)==0)=true then _ else _) _ _ s;rw[if_neg (by decide)];refine wpAny_bind (oO pl (wpAny_bind (oO pu (wpAny_bind (wpAny_pure ?_)))));show wpAny _ _ (match sliceAdjust lo hi 1 (n:Int)with|(lo,hi)=>pure (lo,(1:Int),slicePlaces lo hi 1)) _ _ s;rw[xX lo hi n];show wpAny _ _ (pure (((cO n 0 lo:Nat):Int),(1:Int),slicePlaces ((cO n 0 lo:Nat):Int) ((cO n n hi:Nat):Int) 1)) _ _ s;rw[yQ];exact wpAny_pure h
theorem GC(xs:Array Value)(i k:Nat):((List.range k).filterMap fun(m:Nat)=>xs[((i:Int)+(m:Int)*1).toNat]?).toArray=((xs.toList.drop i).take k).toArray:=by
 have e:(fun(m:Nat)=>xs[((i:Int)+(m:Int)*1).toNat]?)=fun m=>xs[i+m]?:=by
  funext m;have:((i:Int)+(m:Int)*1).toNat=i+m:=by omega
  rw[this]
 rw[e];have:=pick_run xs i k;rw[List.filterMap_map]at this;have e2:((fun x=>xs[x]?)∘ fun x=>i+x)=fun m=>xs[i+m]?:=rfl;rw[e2]at this;rw[this]
theorem km{t sl:Addr}{items:Array Value}{vl vu:Value}{lo hi:Option Int}{Q:Value->Shared->Prop}(ht:IsTup s.heap t items)(hs:s.heap.IsSliceOf sl vl vu .none)(pl:IsPart vl lo)(pu:IsPart vu hi)(hw:¬(cO items.size 0 lo=0/\cO items.size items.size hi=items.size))(h:Q (.ref s.heap.objs.size) {s with heap:=s.heap.push {cls:=.type "tuple",data:=.seq ((items.toList.drop (cO items.size 0 lo)).take (cO items.size items.size hi-cO items.size 0 lo)).toArray}})(hsz:items.size<=sizeLine):wpAny (model prog w) A (getItem (.ref t) (.ref sl)) Q E s:=by
 have Bs:sizeOk (.seq ((items.toList.drop (cO items.size 0 lo)).take (cO items.size items.size hi-cO items.size 0 lo)).toArray):=by show((items.toList.drop (cO items.size 0 lo)).take (cO items.size items.size hi-cO items.size 0 lo)).toArray.size<=sizeLine;rw[size_toArray,length_take,length_drop,length_toList];omega
 have hj:cO items.size items.size hi<=items.size:=QT _ _ (le_refl _) hi;obtain⟨os,hos,hcs,hds⟩:=id hs;have hTs:s.TypeIs (.ref sl) "slice":=⟨os,hos,hcs⟩;unfold getItem;try with_reducible refine wpAny_holding ?_
 first|refine wpAny_bind (wpAny_pure ?_)|skip
 refine wpAny_bind (wpAny_sequenceKey ht.typeIs (by decide) ?_);refine wpAny_bind (wpAny_callSpecial?_slot (name:=Str.ofString "__getitem__") ht.typeIs PyProof.Rows.slot_tuple_getitem (wpAny_call_entry PyProof.Rows.slot_tuple_getitem ht.typeIs entry_tuple_getitem ?_ (args_tuple_getitem _ _)));show wpAny _ _ (tupleItemsOf (.ref t)>>=_) _ _ s;refine wpAny_bind (tupleItemsOf_ ht ?_);refine wpAny_bind (wpAny_typeOf hTs ?_);rw[if_pos (by decide)];refine wpAny_bind (gn hs pl pu ?_);have hno:¬((((cO items.size 0 lo:Nat):Int)==0&&(1:Int)==1&&(cO items.size items.size hi-cO items.size 0 lo)==items.size)=true):=by intro q;rw[and_eq_true,and_eq_true]at q;have q1:((cO items.size 0 lo:Nat):Int)=0:=eq_of_beq q.1.1;have q2:cO items.size items.size hi-cO items.size 0 lo=items.size:=eq_of_beq q.2;exact hw ⟨by omega,by omega⟩
 show wpAny _ _ (if(((cO items.size 0 lo:Nat):Int)==0&&(1:Int)==1&&(cO items.size items.size hi-cO items.size 0 lo)==items.size)=true then _ else _) _ _ s;rw[if_neg hno,GC];first|exact wpAny_bind (m:=tupleExact _) (wpAny_newObj_type (wpAny_pure ⟨_,rfl,wpAny_pure h⟩) Bs)|exact wpAny_bind (m:=tupleExact _) (wpAny_newObj_type (wpAny_bind (wpAny_pure (wpAny_pure ⟨_,rfl,wpAny_pure h⟩))) Bs)|exact wpAny_bind (wpAny_bind (m:=tupleExact _) (wpAny_newObj_type (wpAny_pure (wpAny_pure ⟨_,rfl,wpAny_pure h⟩)) Bs))|exact wpAny_bind (wpAny_bind (m:=tupleExact _) (wpAny_newObj_type (wpAny_pure ⟨_,rfl,wpAny_pure h⟩) Bs))
end
end HT
namespace L2
open PySem PySem.Spec PyProof.Rows
abbrev TO:=St->Hp->(Option Int->Hp->Prop)->Prop
def PO(X:Cx)(e:Option Expr)(t:TO):Prop:=∀(pins:List (Addr × Obj))(s:Shared)(σ:St)(H:Hp)(Q:Option Int->Hp->Prop),Inv X pins σ H s->t σ H Q->wpAny (model X.prog X.w) X.A (evalPart e X.env) (fun u s'=>∃o H',Inv X pins σ H' s'/\IsPart u o/\Q o H') X.xe s
def Lw:TO:=fun _ H Q=>Q none H
def XD(t:TE):TO:=fun σ H Q=>t σ H fun x H1=>∃i,x=.int i/\Q (some i) H1
section
variable{X:Cx}{e:Expr}{te:TE}{lo hi:Option Expr}{tl th:TO}{pos p2:Pos}
theorem K4:PO X none Lw:=by intro pins s σ H Q I h;rw[evalPart_none];exact wpAny_pure ⟨none,H,I,.none,h⟩
theorem IV(h:PE X e te):PO X (some e) (XD te):=by intro pins s σ H Q I hw;rw[evalPart_some];refine bH (h pins s σ H _ I hw) fun u s1⟨x,H1,I1,r1,q1⟩=>?_;obtain⟨i,rfl,q⟩:=q1;obtain⟨t,rfl⟩:=r1;exact⟨some i,H1,I1,.int i t,q⟩
def SlR(X:Cx)(r:V->Option Int->Option Int->Hp->VK->Prop):Prop:=∀(pins:List (Addr × Obj))(s:Shared)(σ:St)(H:Hp)(x:V)(v vl vu:Value)(lo hi:Option Int)(sl:Addr)(Q:VK),Inv X pins σ H s->RelV x v->s.heap.IsSliceOf sl vl vu .none->IsPart vl lo->IsPart vu hi->r x lo hi H Q->∃T id,typeLookup (.type T) "__getitem__"=pure (some (.builtin id))/\s.TypeIs v T/\wpAny (model X.prog X.w) X.A (getItem v (.ref sl)) (EP X pins σ Q) X.xe s
def tSl(r:V->Option Int->Option Int->Hp->VK->Prop)(te:TE)(tl th:TO):TE:=fun σ H Q=>te σ H fun x H1=>tl σ H1 fun l H2=>th σ H2 fun u H3=>r x l u H3 Q
theorem wJ{r:V->Option Int->Option Int->Hp->VK->Prop}(hr:SlR X r)(he:PE X e te)(hl:PO X lo tl)(hu:PO X hi th):PE X (.Subscript e (.Slice lo hi none p2) pos) (tSl r te tl th):=by intro pins s σ H Q I h;refine Subscript_ (bH (he pins s σ H _ I h) fun v s1⟨x,H1,I1,r1,q1⟩=>?_);refine wpAny_Slice (bH (hl pins s1 σ H1 _ I1 q1) fun vl s2⟨l,H2,I2,pl,q2⟩=>bH (hu pins s2 σ H2 _ I2 q2) fun vu s3⟨u,H3,I3,pu,q3⟩=>?_);rw[evalPart_none];refine wpAny_pure ?_;have I4:Inv X pins σ H3 {s3 with heap:=s3.heap.push {cls:=.type "slice",data:=.fields #[vl,vu,.none]}}:=I3.kept (t':=s3.toks) fun b ob q=>get?_push_of_some _ q;obtain⟨T,id,hT,ht,hg⟩:=hr pins {s3 with heap:=s3.heap.push {cls:=.type "slice",data:=.fields #[vl,vu,.none]}} σ H3 x v vl vu l u s3.heap.objs.size Q I4 r1 (Heap.IsSliceOf.new ..) pl pu q3;show wpAny (model X.prog X.w) X.A (subscriptTail e (.Slice lo hi none p2) v (.ref s3.heap.objs.size)) (EP X pins σ Q) X.xe {s3 with heap:=s3.heap.push {cls:=.type "slice",data:=.fields #[vl,vu,.none]}};exact tail_any (ops:=[.ref s3.heap.objs.size,v]) ht hT hg (by with_unfolding_all rfl)
noncomputable def uN(xs:List V)(lo hi:Option Int):List V:=(xs.drop (HT.cO xs.length 0 lo)).take (HT.cO xs.length xs.length hi-HT.cO xs.length 0 lo)
theorem mV(xs:List V)(lo hi:Option Int):(uN xs lo hi).length<=xs.length:=by unfold uN;rw[length_take,length_drop];omega
def aaO(K:PySem.W.Frag):V->Option Int->Option Int->Hp->VK->Prop:=fun x lo hi H Q=>∃a xs,x=.ref a/\jy K H a xs/\¬(HT.cO xs.length 0 lo=0/\HT.cO xs.length xs.length hi=xs.length)/\∀p,H p=none->Q (.ref p) (upd H p (.tup (uN xs lo hi)))
theorem R5:SlR X (aaO X.K):=by
 intro pins s σ H x v vl vu lo hi sl Q I rx hs pl pu h;obtain⟨a,xs,rfl,hx,hw,q⟩:=h;cases rx;obtain⟨its,r,ht,hz⟩:=I.tuple hx;have hlen:its.toArray.size=xs.length:=by rw[size_toArray];exact r.length.symm
 refine⟨"tuple",_,PyProof.Rows.slot_tuple_getitem.lookup,ht.typeIs,?_⟩;refine HT.km ht hs pl pu (by rw[hlen];exact hw) ?_ (by rw[hlen];exact hz);rw[hlen];refine⟨.ref s.heap.objs.size,_,I.laid (t':=s.toks) (o:=.tup (uN xs lo hi)) (fun b ob q=>get?_push_of_some _ q) (le_refl _) ?_,rfl,q _ (I.hok.fresh (le_refl _))⟩;exact⟨le_trans (mV xs lo hi) hz,_,(r.drop (HT.cO xs.length 0 lo)).take (HT.cO xs.length xs.length hi-HT.cO xs.length 0 lo),IsTup.new _ _⟩
def Wu(K:PySem.W.Frag):R2:=fun x y H Q=>∃a b xs ys,x=.ref a/\y=.ref b/\jy K H a xs/\jy K H b ys/\xs≠[]/\xs.length+ys.length<=sizeLine/\(ys=[]->Q (.ref a) H)/\(ys≠[]->∀p,H p=none->Q (.ref p) (upd H p (.tup (xs++ys))))
theorem Vals.nZ{xs:List V}{us:List Value}(r:Vals xs us):us=[]↔xs=[]:=by cases r with|nil=>simp|cons _ _=>simp
theorem Jm:cR X (binaryOp .Add) (Wu X.K):=by intro pins s σ H x y v u Q I rx ry h;obtain⟨a,b,xs,ys,rfl,rfl,ha,hb,hx,hz,q1,q2⟩:=h;cases rx;cases ry;obtain⟨its,r1,p1,_⟩:=I.tuple ha;obtain⟨its2,r2,p2,_⟩:=I.tuple hb;refine HT.Jv p1 p2 (fun z=>hx (r1.nZ.mp z)) (fun z=>⟨.ref a,H,I,rfl,q1 (r2.nZ.mp z)⟩) (fun z=>?_) (by rw[<-r1.length,<-r2.length];exact hz);refine⟨.ref s.heap.objs.size,_,I.laid (t':=s.toks) (o:=.tup (xs++ys)) (fun b ob q=>get?_push_of_some _ q) (le_refl _) ?_,rfl,q2 (fun w=>z (r2.nZ.mpr w)) _ (I.hok.fresh (le_refl _))⟩;exact⟨by rw[length_append];exact hz,_,r1.append r2,IsTup.new _ _⟩
end
noncomputable def ie(n:Nat)(i:Int):Option Nat:=if 0<=i then(if i<n then some i.toNat else none)else if-(n:Int)<=i then some (i+n).toNat else none
noncomputable def Gk{α:Type}(xs:List α)(i:Int):Option α:=(ie xs.length i).bind fun j=>xs[j]?
theorem Av{n:Nat}{i:Int}{j:Nat}(h:ie n i=some j):seqIndex? i n=some j/\j<n/\-(n:Int)<=i/\i<n:=by
 unfold ie at h;by_cases h0:0<=i
 . rw[if_pos h0]at h;by_cases h1:i<n;.rw[if_pos h1]at h;have e:i.toNat=j:=Option.some.inj h;exact⟨by rw[seqIndex_of h0 h1,e],by omega,by omega,h1⟩
   .rw[if_neg h1]at h;cases h
 . rw[if_neg h0]at h;by_cases h1:-(n:Int)<=i;.rw[if_pos h1]at h;have e:(i+n).toNat=j:=Option.some.inj h;exact⟨by rw[seqIndex_neg (by omega) h1,e],by omega,h1,by omega⟩
   .rw[if_neg h1]at h;cases h
theorem tV{α:Type}{xs:List α}{i:Int}{v:α}(h:Gk xs i=some v):∃j,seqIndex? i xs.length=some j/\xs[j]?=some v/\j<xs.length/\-(xs.length:Int)<=i/\i<xs.length:=by unfold Gk at h;cases e:ie xs.length i with|none=>rw[e]at h;cases h|some j=>rw[e]at h;obtain⟨h1,h2,h3,h4⟩:=Av e;exact⟨j,h1,h,h2,h3,h4⟩
def tG(b:Expr):Prop:=∀o i,subscripted b false o i=operate [o,i] (getItem o i)
def ZQ(X:Cx)(r:R2):Prop:=∀(value slice:Expr)(pins:List (Addr × Obj))(s:Shared)(σ:St)(H:Hp)(x y:V)(v u:Value)(Q:VK),Inv X pins σ H s->RelV x v->RelV y u->r x y H Q->subscripted slice false v u=operate [v,u] (getItem v u)->wpAny (model X.prog X.w) X.A (subscriptTail value slice v u) (EP X pins σ Q) X.xe s
def MtR(X:Cx)(id:String)(r:V->List V->Hp->VK->Prop):Prop:=∀(pins:List (Addr × Obj))(s:Shared)(σ:St)(H:Hp)(x:V)(xs:List V)(v:Value)(us:List Value)(Q:VK),Inv X pins σ H s->RelV x v->Vals xs us->r x xs H Q->wpAny (model X.prog X.w) X.A (call (.builtin id) (v::us)) (EP X pins σ Q) X.xe s
section
variable{X:Cx}{a b:Expr}{ta tb:TE}{pos:Pos}
theorem NK{r:R2}(hr:ZQ X r)(ha:PE X a ta)(hb:PE X b tb)(hs:tG b):PE X (.Subscript a b pos) (Pu r ta tb):=by intro pins s σ H Q I h;exact Subscript_ (Oq ha hb I h fun v u s2 x y H2 I2 rx ry q=>hr a b pins s2 σ H2 x y v u Q I2 rx ry q (hs _ _))
def W6(K:PySem.W.Frag):R2:=fun x y H Q=>∃p xs i v,x=.ref p/\y=.int i/\dG K H p xs/\Gk xs i=some v/\Q v H
def aa5(K:PySem.W.Frag):R2:=fun x y H Q=>∃p xs i v,x=.ref p/\y=.int i/\jy K H p xs/\Gk xs i=some v/\Q v H
theorem Ar:ZQ X (W6 X.K):=by
 intro value slice pins s σ H x y v u Q I rx ry h hs;obtain⟨p,xs,i,z,rfl,rfl,hq,he,q⟩:=h;cases rx;obtain⟨t,rfl⟩:=ry;obtain⟨its,r,pl,hz⟩:=I.list hq;obtain⟨j,h1,h2,h3,h4,h5⟩:=tV he;obtain⟨w,ew,wW⟩:=r.get h2;have hl:=r.length;have hn:=qe;have fin:EP X pins σ Q w s:=⟨z,H,I,wW,q⟩;by_cases h0:0<=i
 . have hj:i.toNat=j:=by rw[seqIndex_of h0 h5]at h1;exact Option.some.inj h1
   exact item_listR pl.isList h0 (by omega) (by rw[hj];simpa using ew) fin hs
 . have hj:(i+(its.toArray.size:Int)).toNat=j:=by rw[seqIndex_neg (by omega) h4]at h1;rw[size_toArray,<-hl];exact Option.some.inj h1
   exact subscriptTail_builtinR (x:=w) pl.isList.typeIs slot_list_getitem.lookup (wpAny_getItem_list_neg (Q:=fun r s'=>r=w/\EP X pins σ Q r s') pl.isList (by omega) (by rw[size_toArray]<;>omega) (by omega) (by rw[hj];simpa using ew) ⟨rfl,fin⟩) hs
theorem S7:ZQ X (aa5 X.K):=by intro value slice pins s σ H x y v u Q I rx ry h hs;obtain⟨p,xs,i,z,rfl,rfl,hq,he,q⟩:=h;cases rx;obtain⟨t,rfl⟩:=ry;obtain⟨its,r,pl,hz⟩:=I.tuple hq;obtain⟨j,h1,h2,h3,h4,h5⟩:=tV he;obtain⟨w,ew,wW⟩:=r.get h2;have hl:=r.length;have hn:=qe;have fin:EP X pins σ Q w s:=⟨z,H,I,wW,q⟩;exact subscriptTail_builtinR (x:=w) pl.typeIs slot_tuple_getitem.lookup (getItem_tuple (j:=j) (Q:=fun r s'=>r=w/\EP X pins σ Q r s') pl (by omega) (by omega) (by rw[size_toArray,<-hl];exact h1) (by simpa using ew) ⟨rfl,fin⟩) hs
theorem yq(its:List Value)(n j:Nat)(u:Value):Obj.mapSeq (·.setIfInBounds j u) {cls:=.type "list",data:=.seq its.toArray n}={cls:=.type "list",data:=.seq (its.set j u).toArray n}:=by simp[Obj.mapSeq]
theorem Inv.lst{pins:List (Addr×Obj)}{σ:St}{H:Hp}{s:Shared}{p:Addr}{xs:List V}(I:Inv X pins σ H s)(h:H p=some (.lst xs)):∃(its:List Value)(n:Nat),Vals xs its/\s.heap.get? p=some {cls:=.type "list",data:=.seq its.toArray n}/\xs.length<=sizeLine:=by obtain⟨z,its,n,r,e⟩:=I.hok p _ h;exact⟨its,n,r,e,z⟩
theorem Inv.Q0{pins:List (Addr×Obj)}{σ:St}{H:Hp}{s:Shared}{p:Addr}{xs ys:List V}{its its':List Value}{n n':Nat}{f:Obj->Obj}(I:Inv X pins σ H s)(h:H p=some (.lst xs))(ho:s.heap.get? p=some {cls:=.type "list",data:=.seq its.toArray n})(hf:f {cls:=.type "list",data:=.seq its.toArray n}={cls:=.type "list",data:=.seq its'.toArray n'})(r:Vals ys its')(hz:ys.length<=sizeLine)(t:Nat):Inv X pins σ (upd H p (.lst ys)) {s with heap:=s.heap.update p f,toks:=t}:=by
 have e:(s.heap.update p f).get? p=some {cls:=.type "list",data:=.seq its'.toArray n'}:=by rw[get?_update_self f ho (by rw[hf]<;>rfl),hf]
 refine I.write (x:=p) (e:=p) (by rw[h];trivial) (.inl rfl) (fun b u hb q=>(get?_update_other _ _ (Ne.symm hb)).trans q) ⟨_,e⟩ ?_;exact⟨hz,its',n',r,e⟩
def Wx:V->V->V->Hp->(Hp->Prop)->Prop:=fun o i v H Q=>∃p xs k j,o=.ref p/\i=.int k/\H p=some (.lst xs)/\ie xs.length k=some j/\Q (upd H p (.lst (xs.set j v)))
theorem set_list:QG X Wx:=by
 intro pins s σ H o i v ov iv u Q I ro ri rv h;obtain⟨p,xs,k,j,rfl,rfl,hp,hj,q⟩:=h;cases ro;obtain⟨t,rfl⟩:=ri;obtain⟨its,n,r,ho,hz⟩:=I.lst hp;obtain⟨h1,h2,h3,h4⟩:=Av hj;have hl:=r.length;have hn:=qe;have I':Inv X pins σ (upd H p (.lst (xs.set j v))) {s with heap:=s.heap.update p (Obj.mapSeq (·.setIfInBounds j u))}:=I.Q0 hp ho (yq its n j u) (r.set rv j) (by rw[List.length_set];exact hz) s.toks;by_cases h0:0<=k
 . have hk:k.toNat=j:=by rw[seqIndex_of h0 h4]at h1;exact Option.some.inj h1
   exact PySem.W.ki_setAt ho h0 (by omega) (by rw[size_toArray,<-hl];exact h4) (by rw[hk];exact⟨_,I',q⟩)
 . have hk:(k+(its.toArray.size:Int)).toNat=j:=by rw[seqIndex_neg (by omega) h3]at h1;rw[size_toArray,<-hl];exact Option.some.inj h1
   exact PySem.W.ki_setBack ho (by omega) (by rw[size_toArray,<-hl];exact h3) (by omega) (by rw[hk];exact⟨_,I',q⟩)
theorem tX(lo hi:Option Int)(n:Nat):(sliceBounds lo hi none n).1=((HT.cO n 0 lo:Nat):Int)/\(sliceBounds lo hi none n).2.1=((HT.cO n n hi:Nat):Int)/\(sliceBounds lo hi none n).2.2=1:=by
 refine⟨?_,?_,rfl⟩;.cases lo with|none=>simp[sliceBounds,HT.cO]|some i=>
     simp only[sliceBounds,HT.cO,getD_none,show(1:Int)>0 by decide,if_true];by_cases h:i<0;.simp only[h,if_true]<;>omega
     .simp only[h,if_false]<;>omega
 .cases hi with|none=>simp[sliceBounds,HT.cO]|some i=>
     simp only[sliceBounds,HT.cO,getD_none,show(1:Int)>0 by decide,if_true];by_cases h:i<0;.simp only[h,if_true]<;>omega
     .simp only[h,if_false]<;>omega
theorem qt(its:List Value)(lo hi:Option Int):slicePick its.toArray lo hi none=((its.drop (HT.cO its.length 0 lo)).take (HT.cO its.length its.length hi-HT.cO its.length 0 lo)).toArray:=by obtain⟨h1,h2,h3⟩:=tX lo hi its.toArray.size;unfold slicePick;rw[h1,h2,h3];simp only[sliceRange_one,pick_run,size_toArray]<;>rfl
def ab2(K:PySem.W.Frag):V->Option Int->Option Int->Hp->VK->Prop:=fun x lo hi H Q=>∃a xs,x=.ref a/\dG K H a xs/\∀p,H p=none->Q (.ref p) (upd H p (.lst (uN xs lo hi)))
theorem K6:SlR X (ab2 X.K):=by intro pins s σ H x v vl vu lo hi sl Q I rx hs pl pu h;obtain⟨a,xs,rfl,hx,q⟩:=h;cases rx;obtain⟨its,r,ht,hz⟩:=I.list hx;have hlen:=r.length;refine⟨"list",_,slot_list_getitem.lookup,ht.isList.typeIs,?_⟩;refine wpAny_getItem_list_slice ht.isList hs pl pu .none (by simp) ?_ (by rw[size_toArray]<;>omega);rw[qt,<-hlen];refine⟨.ref s.heap.objs.size,_,I.laid (t':=s.toks) (o:=.lst (uN xs lo hi)) (fun b ob q=>get?_push_of_some _ q) (le_refl _) ?_,rfl,q _ (I.hok.fresh (le_refl _))⟩;exact⟨le_trans (mV xs lo hi) hz,_,0,(r.drop (HT.cO xs.length 0 lo)).take (HT.cO xs.length xs.length hi-HT.cO xs.length 0 lo),get?_push_size _ rfl⟩
noncomputable def jE:V->Bool|.non=>true|.bl _=>true|.int _=>true|.str _=>true|_=>false
noncomputable def Kz:V->V->Bool|.non,.non=>true|.bl a,.bl b=>a==b|.bl a,.int b=>(if a then 1 else 0)==b|.int a,.bl b=>a==(if b then 1 else 0)|.int a,.int b=>a==b|.str a,.str b=>a==b|_,_=>false
theorem R9{A:Around}{s:Shared}{y x:V}{u v:Value}(ry:RelV y u)(rx:RelV x v)(fy:jE y=true)(fx:jE x=true):SeqAt.EqAt A s u v (Kz y x):=by cases y with
 |non=>cases ry;cases x with|non=>cases rx;exact SeqAt.EqAt.same _|bl b=>cases rx;exact none_bool b|int b=>obtain⟨t,rfl⟩:=rx;exact none_int b t|str b=>obtain⟨t,rfl⟩:=rx;exact none_str b t|_=>exact absurd (show false=true from fx) Bool.false_ne_true
 |bl a=>cases ry;cases x with|non=>cases rx;exact bool_none a|bl b=>cases rx;exact bool_bool a b|int b=>obtain⟨t,rfl⟩:=rx;exact bool_int a b t|str b=>obtain⟨t,rfl⟩:=rx;exact bool_str a b t|_=>exact absurd (show false=true from fx) Bool.false_ne_true
 |int a=>obtain⟨t',rfl⟩:=ry;cases x with|non=>cases rx;exact int_none a t'|bl b=>cases rx;exact int_bool a t' b|int b=>obtain⟨t,rfl⟩:=rx;exact int_int a t' b t|str b=>obtain⟨t,rfl⟩:=rx;exact int_str a t' b t|_=>exact absurd (show false=true from fx) Bool.false_ne_true
 |str a=>obtain⟨t',rfl⟩:=ry;cases x with|non=>cases rx;exact str_none a t'|bl b=>cases rx;exact str_bool a t' b|int b=>obtain⟨t,rfl⟩:=rx;exact str_int a t' b t|str b=>obtain⟨t,rfl⟩:=rx;exact str_str a t' b t|_=>exact absurd (show false=true from fx) Bool.false_ne_true
 |_=>exact absurd (show false=true from fy) Bool.false_ne_true
noncomputable def xK(x:V)(u:Value):Bool:=match u with|.none=>Kz .non x|.bool b=>Kz (.bl b) x|.int i _=>Kz (.int i) x|.str z _=>Kz (.str z) x|_=>false
theorem Es{x y:V}{u:Value}(r:RelV y u)(f:jE y=true):xK x u=Kz y x:=by cases y with|non=>cases r;rfl|bl b=>cases r;rfl|int i=>obtain⟨t,rfl⟩:=r;rfl|str z=>obtain⟨t,rfl⟩:=r;rfl|_=>exact absurd (show false=true from f) Bool.false_ne_true
theorem j6{x:V}:∀{xs:List V}{us:List Value},Vals xs us->xs.all jE=true->us.any (xK x)=xs.any fun y=>Kz y x|_,_,.nil,_=>rfl|y::xs,u::us,.cons r t,f=>by rw[all_cons,and_eq_true]at f;rw[any_cons,any_cons,Es r f.1,j6 t f.2]
theorem iu{A:Around}{s:Shared}{x:V}{v:Value}(rx:RelV x v)(fx:jE x=true):∀{xs:List V}{us:List Value},Vals xs us->xs.all jE=true->∀u∈us,SeqAt.EqAt A s u v (xK x u)
 |_,_,.nil,_=>fun u hu=>by cases hu|y::xs,u::us,.cons r t,f=>fun u' hu=>by
   rw[all_cons,and_eq_true]at f;rcases mem_cons.mp hu with rfl|hu;.rw[Es r f.1];exact R9 r rx f.1 fx
   .exact iu rx fx t f.2 u' hu
noncomputable def inV(x:V)(xs:List V):Bool:=xs.any fun y=>Kz y x
def rIn(K:PySem.W.Frag)(neg:Bool):R2:=fun x y H Q=>∃p xs,y=.ref p/\(dG K H p xs\/jy K H p xs)/\jE x=true/\xs.all jE=true/\Q (.bl (if neg then !inV x xs else inV x xs)) H
theorem CK:cR X (compareOp .In) (rIn X.K false):=by
 intro pins s σ H x y v u Q I rx ry h;obtain⟨p,xs,rfl,hq,fx,fs,q⟩:=h;cases ry;rcases hq with hq|hq;.obtain⟨its,r,pl,hz⟩:=I.list hq;refine SeqAt.in_listAt (xK x) pl.isList (fun w hw=>iu rx fx r fs w (by simpa using hw)) ⟨.bl _,H,I,rfl,?_⟩;rw[show its.toArray.any (xK x)=its.any (xK x)by simp,j6 r fs];exact q
 .obtain⟨its,r,pl,hz⟩:=I.tuple hq;refine SeqAt.in_tupleAt (xK x) pl (fun w hw=>iu rx fx r fs w (by simpa using hw)) ⟨.bl _,H,I,rfl,?_⟩;rw[show its.toArray.any (xK x)=its.any (xK x)by simp,j6 r fs];exact q
theorem tD:cR X (compareOp .NotIn) (rIn X.K true):=by
 intro pins s σ H x y v u Q I rx ry h;obtain⟨p,xs,rfl,hq,fx,fs,q⟩:=h;cases ry;rcases hq with hq|hq;.obtain⟨its,r,pl,hz⟩:=I.list hq;refine SeqAt.notIn_listAt (xK x) pl.isList (fun w hw=>iu rx fx r fs w (by simpa using hw)) ⟨.bl _,H,I,rfl,?_⟩;rw[show its.toArray.any (xK x)=its.any (xK x)by simp,j6 r fs];exact q
 .obtain⟨its,r,pl,hz⟩:=I.tuple hq;refine SeqAt.notIn_tupleAt (xK x) pl (fun w hw=>iu rx fx r fs w (by simpa using hw)) ⟨.bl _,H,I,rfl,?_⟩;rw[show its.toArray.any (xK x)=its.any (xK x)by simp,j6 r fs];exact q
theorem ug:cW X (.builtin "len") (fun xs H Q=>∃p ys,xs=[.ref p]/\(dG X.K H p ys\/jy X.K H p ys)/\Q (.int ys.length) H):=by
 intro pins s σ H xs us Q I r h;obtain⟨p,ys,rfl,hq,q⟩:=h;obtain⟨u,rfl,rx⟩:=vals1 r;cases rx;have hn:=qe;rcases hq with hq|hq;.obtain⟨its,r',pl,hz⟩:=I.list hq;have hlen:=r'.length;exact Calls.call_len_list pl.isList (by simp only[size_toArray]<;>omega) ⟨.int ys.length,H,I.tok _,⟨s.toks+1,by rw[size_toArray,hlen]⟩,q⟩
 .obtain⟨its,r',pl,hz⟩:=I.tuple hq;have hlen:=r'.length;exact len_tuple pl (by simp only[size_toArray]<;>omega) ⟨.int ys.length,H,I.tok _,⟨s.toks+1,by rw[size_toArray,hlen]⟩,q⟩
theorem uA:cW X (.type "list") (fun xs H Q=>∃p ys,xs=[.ref p]/\(dG X.K H p ys\/jy X.K H p ys)/\∀l,H l=none->Q (.ref l) (upd H l (.lst ys))):=by
 intro pins s σ H xs us Q I r h;obtain⟨p,ys,rfl,hq,q⟩:=h;obtain⟨u,rfl,rx⟩:=vals1 r;cases rx;have fin:∀(its:List Value),Vals ys its->ys.length<=sizeLine->∀(h':Heap)(c':Nat),(∀b o',s.heap.get? b=some o'->h'.get? b=some o')->h'.get? s.heap.objs.size=some {cls:=.type "list",dict:=none,data:=.seq its.toArray c',slots:=#[]}->EP X pins σ Q (.ref s.heap.objs.size) {s with heap:=h'}:=fun its r' hz h' c' kp e=>⟨.ref s.heap.objs.size,_,I.laid (t':=s.toks) kp (le_refl _) (show bu X.prog X.w _ h' _ (.lst ys)from⟨hz,its,c',r',e⟩),rfl,q _ (I.hok.fresh (le_refl _))⟩;rcases hq with hq|hq;.obtain⟨its,r',pl,hz⟩:=I.list hq;have hlen:=r'.length;obtain⟨o,ho,hc,n,hd⟩:=pl.isList;exact call_list_seq p (.inl rfl) ho hc hd (fun h' c' kp e=>fin its r' hz h' c' kp e) (by simp only[size_toArray]<;>omega)
 .obtain⟨its,r',pl,hz⟩:=I.tuple hq;have hlen:=r'.length;obtain⟨o,ho,hc,n,hd⟩:=pl;exact call_list_seq p (.inr rfl) ho hc hd (fun h' c' kp e=>fin its r' hz h' c' kp e) (by simp only[size_toArray]<;>omega)
theorem jB:cW X (.type "tuple") (fun xs H Q=>∃p ys,xs=[.ref p]/\((dG X.K H p ys/\∀l,H l=none->Q (.ref l) (upd H l (.tup ys)))\/(jy X.K H p ys/\Q (.ref p) H))):=by
 intro pins s σ H xs us Q I r h;obtain⟨p,ys,rfl,h⟩:=h;obtain⟨u,rfl,rx⟩:=vals1 r;cases rx;rcases h with⟨hq,q⟩|⟨hq,q⟩;.obtain⟨its,r',pl,hz⟩:=I.list hq;have hlen:=r'.length;refine call_tuple_list pl.isList (fun h' kp=>?_) (by simp only[size_toArray]<;>omega);have I1:Inv X pins σ H {s with heap:=h'}:=I.kept (t':=s.toks) kp;have I2:Inv X pins σ (upd H h'.objs.size (.tup ys)) {s with heap:=h'.push {cls:=.type "tuple",data:=.seq its.toArray}}:=I1.laid (t':=s.toks) (fun b o e=>get?_push_of_some _ e) (le_refl _) (show bu X.prog X.w _ _ _ (.tup ys)from⟨hz,its,r',IsTup.new _ _⟩);exact⟨.ref h'.objs.size,_,I2,rfl,q _ (I1.hok.fresh (le_refl _))⟩
 .obtain⟨its,r',pl,hz⟩:=I.tuple hq;exact call_tuple_same pl ⟨.ref p,H,I,rfl,q⟩
def tyV(K:PySem.W.Frag)(T:String)(x:V)(H:Hp):Prop:=match x with|.str _=>T="str"|.int _=>T="int"|.ref p=>(T="list"/\∃xs,dG K H p xs)\/(T="tuple"/\∃o,K.lookup p=some o/\o.cls=.type "tuple"/\o.dict=none)\/(T="dict"/\((∃kvs,H p=some (.dK kvs))\/∃kvs,H p=some (.dT kvs)))\/(T="set"/\∃S n,H p=some (.set S n))|_=>False
theorem Sw{pins:List (Addr×Obj)}{σ:St}{H:Hp}{s:Shared}{T:String}{x:V}{v:Value}(I:Inv X pins σ H s)(r:RelV x v)(ty:tyV X.K T x H):
 s.TypeIs v T/\∀a,v=.ref a->∃ob,s.heap.get? a=some ob/\ob.dict=none:=by cases x with|str z=>obtain⟨t,rfl⟩:=r;cases(show T="str"from ty);exact⟨typeIs_str s z t,fun _ e=>nomatch e⟩|int i=>obtain⟨t,rfl⟩:=r;cases(show T="int"from ty);exact⟨typeIs_int s i t,fun _ e=>nomatch e⟩|ref p=>
   cases r;rcases ty with⟨rfl,xs,hq⟩|⟨rfl,o,hk,hc,hd⟩|⟨rfl,hk⟩|⟨rfl,S,n,hk⟩;.obtain⟨its,_,pl,_⟩:=I.list hq;refine⟨pl.isList.typeIs,fun a e=>?_⟩;cases e;obtain⟨o,n,e,c,hd,_⟩:=pl;exact⟨o,e,hd⟩
   .refine⟨⟨o,I.RP p o hk,hc⟩,fun a e=>?_⟩;cases e;exact⟨o,I.RP _ o hk,hd⟩
   . have z:∃o,s.heap.get? p=some o/\o.ExactDict:=by
      rcases hk with⟨kvs,hk⟩|⟨kvs,hk⟩;.obtain⟨_,_,_,_,o,_,_,e,ex,_⟩:=I.hok p _ hk;exact⟨o,e,ex⟩
      .obtain⟨_,_,_,_,o,_,_,e,ex,_⟩:=I.hok p _ hk;exact⟨o,e,ex⟩
     obtain⟨o,e,ex⟩:=z;refine⟨⟨o,e,ex.1⟩,fun a e2=>?_⟩;cases e2;exact⟨o,e,ex.2.1⟩
   .obtain⟨o,_,_,_,e,ex,_⟩:=I.hok p _ hk;refine⟨⟨o,e,ex.1⟩,fun a e2=>?_⟩;cases e2;exact⟨o,e,ex.2.1⟩|_=>exact False.elim ty
def tBM(K:PySem.W.Frag)(T:String)(r:V->List V->Hp->VK->Prop)(to:TE)(t:TA):TE:=fun σ H Q=>to σ H fun x H1=>tyV K T x H1/\t σ H1 fun xs H2=>r x xs H2 Q
variable{o e:Expr}{es:List Expr}{to:TE}{t:TA}{name:Str}{apos cpos:Pos}{T id:String}{r:V->List V->Hp->VK->Prop}
theorem Mj(pa:PlainAttrs T)(slot:Slot T name id)(hty:typeOf (.builtin id)=pure (.type "method_descriptor"))(hm:MtR X id r)(ho:PE X o to)(ha:PA X (e::es) t)(hbase:attributeBase o name X.env (eval o X.env)=eval o X.env:=by rfl)(hfew:((backTo cpos (starEach (e::es) X.env)).all (fun x=>!x.1)&&(backToKw cpos (keywordEach [] X.env)).all (fun x=>x.1.isSome)&&decide ((e::es).length+([]:List Keyword).length+(if([]:List Keyword).isEmpty then 0 else 1)<30))=true:=by rfl)(hline:(apos.endLine==cpos.line)=true:=by rfl)(hs:starEach (e::es) X.env=(false,eval e X.env)::starEach es X.env:=by rfl)(hplain:(backTo cpos (starEach es X.env)).any (·.1)=false:=by rfl):PE X (.Call (.Attribute o name apos) (e::es) [] cpos) (tBM X.K T r to t):=by intro pins s σ H Q I h;refine wpAny_Call_method_late hbase hfew hline rfl (bH (ho pins s σ H _ I h) fun v s1⟨x,H1,I1,r1,ty,q1⟩=>?_);obtain⟨h1,h2⟩:=Sw I1 r1 ty;refine⟨T,id,pa,slot,hty,h1,h2,?_⟩;have hA:=ha cpos pins s1 σ H1 _ I1 q1;rw[hs]at hA ⊢;refine Calls.callWith_builtin (by show(false||(backTo cpos (starEach es X.env)).any (·.1))=false;rw[hplain]<;>rfl) (Calls.evalArgs_plain ?_);exact bH hA fun us s2⟨vs,H2,I2,r2,q2⟩=>hm pins s2 σ H2 x vs v us Q I2 r1 r2 q2/-xs.append(e),list.index on a module's tuple..are MtR facts of 06m-/
end
def MtM(X:Cx)(id:String)(r:V->List V->Hp->VK->Prop):Prop:=∀(pins:List (Addr × Obj))(s:Shared)(σ:St)(H:Hp)(x:V)(xs:List V)(v:Value)(us:List Value)(Q:VK),Inv X pins σ H s->RelV x v->Vals xs us->r x xs H Q->wpAny (model X.prog X.w) X.A (call (.builtin id) (v::us)) (EP X pins σ Q) X.xe s
theorem Vals.one:∀{x:V}{us:List Value},Vals [x] us->∃u,us=[u]/\RelV x u|x,us,h=>by cases h with|cons r t=>cases t;exact⟨_,rfl,r⟩
theorem Vals.two:∀{x y:V}{us:List Value},Vals [x,y] us->∃u v,us=[u,v]/\RelV x u/\RelV y v|x,y,us,h=>by cases h with|cons r t=>cases t with|cons q z=>cases z;exact⟨_,_,rfl,r,q⟩
theorem Vals.reverse{xs:List V}{us:List Value}(h:Vals xs us):Vals xs.reverse us.reverse:=by induction h with|nil=>exact .nil|cons r t ih=>rw[reverse_cons,reverse_cons];exact Vals.append ih (.cons r .nil)
theorem Vals.rep{xs:List V}{us:List Value}(h:Vals xs us):∀k:Nat,Vals (replicate k xs).flatten (replicate k us).flatten|0=>.nil|k+1=>by rw[replicate_succ,replicate_succ,flatten_cons,flatten_cons];exact Vals.append h (Vals.rep h k)
theorem foldl_rep(its:List Value):∀(k:Nat)(acc:List Value),foldl (fun x1 x2=>x1++x2) acc.toArray (replicate k its.toArray)=(acc++(replicate k its).flatten).toArray
 |0,acc=>by simp|k+1,acc=>by
   have e:acc.toArray++its.toArray=(acc++its).toArray:=by simp
   have e2:(acc++its)++(replicate k its).flatten=acc++(replicate (k+1) its).flatten:=by rw[replicate_succ,flatten_cons,append_assoc]
   rw[<-e2,<-foldl_rep its k (acc++its),<-e,replicate_succ,List.foldl_cons]
section
variable{X:Cx}{pins:List (Addr×Obj)}{σ:St}{H:Hp}{s:Shared}{l b:Addr}{xs ys zs:List V}
theorem Inv.acv{its its':List Value}{n:Nat}{f:Array Value->Array Value}{t':Nat}(I:Inv X pins σ H s)(hH:H l=some (.lst xs))(e:s.heap.get? l=some {cls:=.type "list",data:=.seq its.toArray n})(hf:f its.toArray=its'.toArray)(hv:Vals ys its')(hz:ys.length<=sizeLine):Inv X pins σ (upd H l (.lst ys)) {s with heap:=s.heap.update l (Obj.mapSeq f),toks:=t'}:=by have q:=PySem.IsL.update e f;rw[hf]at q;refine I.write (x:=l) (e:=l) (by rw[hH];exact trivial) (.inl rfl) (fun b' u hb hu=>(get?_update_other s.heap (Obj.mapSeq f) (Ne.symm hb)).trans hu) ⟨_,q⟩ ?_;exact⟨hz,its',_,hv,q⟩
theorem Inv.RL{its:List Value}{t':Nat}(I:Inv X pins σ H s)(hv:Vals ys its)(hz:ys.length<=sizeLine):Inv X pins σ (upd H s.heap.objs.size (.lst ys)) {s with heap:=s.heap.push {cls:=.type "list",data:=.seq its.toArray},toks:=t'}:=I.laid (fun _ _ q=>get?_push_of_some _ q) (le_refl _) ⟨hz,its,0,hv,get?_push_size _ rfl⟩
theorem Inv.fresh(I:Inv X pins σ H s):H s.heap.objs.size=none:=I.hok.fresh (le_refl _)
theorem Inv.acG(I:Inv X pins σ H s)(hH:H l=some (.lst xs)):xs.length<=sizeLine/\∃(its:List Value)(n:Nat),Vals xs its/\xs.length=its.length/\s.heap.get? l=some {cls:=.type "list",data:=.seq its.toArray n}:=by obtain⟨z,its,n,r,e⟩:=I.hok l _ hH;exact⟨z,its,n,r,r.length,e⟩
theorem HR{n:Nat}(h:n<=sizeLine):listTooLong n=false:=by unfold listTooLong;exact decide_eq_false (by omega)
end
section
variable{X:Cx}
def JQ:V->List V->Hp->VK->Prop:=fun x vs H Q=>∃l xs y,x=.ref l/\vs=[y]/\H l=some (.lst xs)/\xs.length<sizeLine/\Q .non (upd H l (.lst (xs++[y])))
theorem mL:MtM X "list.append" JQ:=by intro pins s σ H x vs v us Q I rx rv h;obtain⟨l,xs,y,rfl,rfl,hH,hz,q⟩:=h;cases rx;obtain⟨u,rfl,ru⟩:=rv.one;obtain⟨z,its,n,r,hl,e⟩:=I.acG hH;refine call_meets F.slot_list_append ⟨_,e,rfl⟩ F.entry_list_append (F.args_list_append_2 _ _) (PySem.list_append l its.toArray n u (by rw[size_toArray];omega)) ⟨e,?_⟩;refine⟨.non,_,I.acv (its':=its++[u]) hH e (by simp) (r.append (.cons ru .nil)) ?_,rfl,q⟩;rw[length_append,List.length_singleton];omega
theorem len_rep{α:Type}(xs:List α)(k:Nat):(replicate k xs).flatten.length=k*xs.length:=by induction k with|zero=>simp|succ k ih=>rw[replicate_succ,flatten_cons,length_append,ih,Nat.succ_mul,Nat.add_comm]
end
end L2
namespace Att
open PySem PySem.W PySem.Calls PyProof.Rows
theorem nj{P:Params}{h:Heap}:∀(ns:List Int)(vs:List Value),WellAll P h vs (ns.map WData.int)->IntsAre vs ns:=by intro ns;induction ns with|nil=>intro vs w;rw[map_nil]at w;cases w;exact .nil|cons n ns ih=>intro vs w;rw[map_cons]at w;cases w with|cons a b=>cases a;exact .cons _ _ (ih _ b)
theorem Cu{l:OpenLaw}{n:Nat}(hn:l.most=some n){P:Params}{h:Heap}{args:List WData}{vals:List Value}(hpre:l.row.toRowW.claim.pre args=true)(hwl:WellAll P h vals args):∃a vs ns,vals=[Value.ref a]/\args=[WData.list (ns.map WData.int)]/\h.get? a=some {cls:=.type "list",data:=.seq vs.toArray}/\IntsAre vs ns/\ns.length<=n:=by
 have hsh:WShape.hasAll [] args [.list .int]=true:=(pre_splitW hpre).1;have hc:l.pre.holds [] {args:=args}=true:=(pre_splitW hpre).2;obtain⟨d,r,rfl,h1,h2⟩:=hasAllW_cons hsh;obtain rfl:=hasAllW_nil h2;obtain⟨xs,rfl,h3⟩:=hasW_list h1;obtain⟨ns,rfl⟩:=items_int h3;have hlen:ns.length<=n:=by
  unfold OpenLaw.pre at hc;have h4:(WTm.not (.lt (.lit (.int (n:Int))) (.len (.arg 0)))).holds [] {args:=[.list (ns.map .int)]}=true:=by have h4:=(holds_andW hc).1;rw[hn]at h4;exact h4
  have h5:=condW_of h4 (w_not (w_lt w_lit (w_len_list (w_arg rfl))));rw[length_map]at h5;refine Nat.le_of_not_lt fun q=>?_;have q':(n:Int)<((ns.length:Nat):Int):=by omega
  first|(rw[decide_eq_true q']at h5;exact absurd h5 (by decide))|(simp at h5;omega)
 cases hwl with|cons w1 w2=>cases w2;cases w1 with|list ho hall=>exact⟨_,_,ns,rfl,rfl,ho,nj ns _ hall,hlen⟩
theorem BX(l:OpenLaw)(args:List WData):l.row.toRowW.claim.post args (.bool true) args=true:=postW_of (r:=l.row.toRowW) (X:=(true==true)) (show WShape.has [] (.bool true) .bool=true by first|rfl|decide|simp[WShape.has,WShape.arms,WShape.armsAll]) (show(WTm.eq .res (.lit (.bool true))).value [] {args:=args,res:=some (.bool true),after:=args}=some (.bool (true==true))from w_eq_bool (w_res rfl) w_lit) rfl
theorem vY{l:OpenLaw}{n:Nat}{q:Program}{loose:List Str}{XP:(Str->Option Value)->Heap->Prop}{YP:World->Heap->Prop}{d:DefRec}(hn:l.most=some n)(hdf:d.params.defaults=[])(call:∀(w:World)(s₀ s₁:Shared)(mg mb:Str->Option Value)(fa:Addr)(o:Obj)(pm cd doc:Value)(a:Addr)(vs:List Value)(ns:List Int),Ground q loose [] XP w s₀ mg mb s₁.heap->YP w s₁.heap->s₁.heap.get? fa=some o->o.data=.func (docDef d.name d.params d.body d.scope pm cd doc)->s₁.heap.CodeRec cd d.name->mg d.name=some (.ref fa)->s₁.heap.get? a=some {cls:=.type "list",data:=.seq vs.toArray}->IntsAre vs ns->ns.length<=n->s₁.gens=#[]->codeAny (model l.prog w) callerA (.call (.ref fa) ⟨[.ref a],[]⟩) (fun r s'=>r=.ok (.ret (.bool true))/\OldK s₁.heap s'.heap/\s'.os=s₁.os/\AllBare s'.gens) s₁):WalkO q loose XP YP l.row.toRowW d [] (fun f vs=>PySem.call f vs):=by intro w s₀ s₁ mg mb G Y fa o pm cd doc dV kV ho hd hcd hD hmg hg args vals as hpre hlay hrd hwl hlo;obtain rfl:dV=.none:=Dflts.none hD hdf;obtain rfl:kV=.none:=Dflts.noKw hD;obtain⟨a,vs,ns,rfl,rfl,hobj,hints,hlen⟩:=Cu hn hpre hwl;refine enter_call (codeAny_mono (call w s₀ s₁ mg mb fa o pm cd doc a vs ns G Y ho (fd_plain hd) hcd hmg hobj hints hlen hg) fun r s' hq=>?_);obtain⟨rfl,h2,h3,h4⟩:=hq;exact⟨.inl ⟨.bool true,.bool true,[],rfl,fun _=>rfl,.bool true,BX l _,fun _=>⟨List.Pairwise.nil,fun _ hm=>(nomatch hm)⟩⟩,h2,h3,h4⟩
end Att
namespace L2
open PySem PySem.Spec PyProof.Rows
theorem qX:∀{vs:List Value}{ns:List Int},IntsAre vs ns->Vals (ns.map V.int) vs|_,_,.nil=>.nil|_,_,.cons n t h=>.cons ⟨t,rfl⟩ (qX h)
def Only(H:Hp):Prop:=∀b,H b=none\/∃o xs,H b=some (.cN o (.lst xs))
theorem DR{P:Program}{w:World}{K:PySem.W.Frag}{mg mb:Str->Option Value}{CX:Eu}{k:Nat}{fa a:Addr}{fd:FuncData}{x:Str}{sp:Sp}{s₁:Shared}{vs:List Value}{ns:List Int}(KX:K.In s₁.heap)(hns:s₁.heap.Ns mainGlobals mg)(hb:s₁.heap.Ns builtinsNs mb)(hbb:∀x:Str,x≠"__name__"->mb x=bootBuiltins x)(hlim:s₁.heap.NoLimit)(hg:s₁.gens=#[])(ha:s₁.heap.get? a=some {cls:=.type "list",data:=.seq vs.toArray})(hi:IntsAre vs ns)(hl:ns.length<=sizeLine)(hr:iB k callerA)(F:∀base:Heap,K.In base->base.Ns mainGlobals mg->bW P w K mg base CX k fa fd [x] sp)(hbind:∀(s:Shared)(u:Value),BindsTo s fd ⟨[u],[]⟩ [(x,u)])(hsp:∀H:Hp,Only H->dG K H a (ns.map V.int)->sp [.ref a] H (fun v _=>v=.bl true) fun _ _ _=>False)(Yh:∀H e s',CX [] H s₁ (fun _ _ _=>False) e s'->False):codeAny (model P w) callerA (.call (.ref fa) ⟨[.ref a],[]⟩) (fun r s'=>r=.ok (.ret (.bool true))/\OldK s₁.heap s'.heap/\s'.os=s₁.os/\AllBare s'.gens) s₁:=by
 have rv:=qX hi;have lenV:=hi.length--from an abstract heap in which nothing but the script may be tracked
 have core:∀H:Hp,Only H->dG K H a (ns.map V.int)->lN P w H s₁.heap->(∀b,H b≠none->b=a)->(H a≠none->K.lookup a=none)->codeAny (model P w) callerA (.call (.ref fa) ⟨[.ref a],[]⟩) (fun r s'=>r=.ok (.ret (.bool true))/\OldK s₁.heap s'.heap/\s'.os=s₁.os/\AllBare s'.gens) s₁:=by
  intro H hO hS hok hA hK;have Bt:∀{b:Addr}{o:Obj},s₁.heap.get? b=some o->H b=none->(sy s₁.heap H).get? b=some o:=fun e n=>GJ e n;have Yg:∀{b:Addr}{o:Obj}{es:Array DictEntry}{ep:Nat},s₁.heap.get? b=some o->o.data=.dict es ep->H b=none:=fun{b o es ep}e d=>by cases q:H b with|none=>rfl|some u=>have e':b=a:=hA b (by rw[q];simp);subst e';rw[ha]at e;cases e;have d':Data.seq vs.toArray _=Data.dict es ep:=d;cases d'
  have nsK:∀{b:Addr}{m:Str->Option Value},s₁.heap.Ns b m->(sy s₁.heap H).Ns b m:=fun{b m}⟨o,es,ep,e,d,r⟩=>⟨o,es,ep,Bt e (Yg e d),d,r⟩;have hKb:K.In (sy s₁.heap H):=fun b o e=>Bt (KX b o e) (by cases q:H b with|none=>rfl|some u=>have e':b=a:=hA b (by rw[q];simp);subst e';rw[hK (by rw[q];simp)]at e;cases e);have hM:Mod K mg (sy s₁.heap H):=⟨hKb,nsK hns,⟨mb,nsK hb,hbb⟩,let⟨mc,h1,h2⟩:=hlim;⟨mc,nsK h1,h2⟩⟩;have e0:Jj P w K mg (sy s₁.heap H) callerA [] s₁ H:=⟨rfl,hM,fun b o e=>Ln e,Nat.le_of_eq (Df _ _),trivial,fun b hb=>absurd (show b∈([]:List Addr)from hb) (by simp),hok,.of_eq hg⟩;refine codeAny_mono ((F _ hKb (nsK hns)).run callerA [] s₁ H ⟨[.ref a],[]⟩ [.ref a] [.ref a] _ _ hr e0 (hbind s₁ (.ref a)) (.cons rfl .nil) (hsp H hO hS)) fun r s' h=>?_;cases r with|error e=>exact(Yh H e s' h).elim|ok fl=>cases fl with|next=>exact False.elim h|brk=>exact False.elim h|cont=>exact False.elim h|ret u=>obtain⟨v,H',os,bare,un,hok',r',q⟩:=h;have q':v=.bl true:=q;subst q';obtain rfl:u=Value.bool true:=r';refine⟨rfl,OldK.of_keep fun b o e=>?_,os,bare⟩;cases q:H b with|none=>exact un.keep b o e q (by intro z;exact absurd (show b∈([]:List Addr)from z) (by simp)) (by simp)|some u=>
        rcases hO b with z|⟨ob,xs,z⟩;.rw[q]at z;cases z
        .have z2:=un.uE b ob _ z;obtain⟨e1,_⟩:=hok b _ z;obtain⟨e2,_⟩:=hok' b _ z2;rw[e]at e1;cases e1;exact e2
 cases hk:K.lookup a with|some o=>--the script is one of the module's own objects
   have e:=KX a o hk;rw[ha]at e;cases e;refine core (fun _=>none) (fun _=>.inl rfl) (.inr ⟨_,vs.toArray,_,hk,rfl,rfl,rfl,by rw[size_toArray,lenV];exact hl,by simpa using rv⟩) (fun b u z=>by have z':(none:Option HO)=some u:=z;cases z') (fun b z=>absurd rfl z) fun z=>absurd rfl z|none=>
   refine core (fun b=>if b=a then some (.cN {cls:=.type "list",data:=.seq vs.toArray} (.lst (ns.map V.int)))else none) (fun b=>?_) (.inl (.inr ⟨{cls:=.type "list",data:=.seq vs.toArray},if_pos rfl⟩)) (fun b u z=>?_) (fun b z=>?_) fun _=>hk
   . by_cases hb:b=a;.exact .inr ⟨_,_,if_pos hb⟩
     .exact .inl (if_neg hb)
   . by_cases hb:b=a;.have z':=(if_pos hb).symm.trans z;cases z';subst hb;exact⟨ha,by rw[length_map];exact hl,vs,_,rv,ha⟩
     .have z':=(if_neg hb).symm.trans z;cases z'
   . by_cases hb:b=a;.exact hb
     .exact absurd (if_neg hb) z
theorem La{l:PySem.W.OpenLaw}{n k:Nat}{q:Program}{loose:List Str}{XP:(Str->Option Value)->Heap->Prop}{YP:World->Heap->Prop}{d:DefRec}{K:Params->PySem.W.Frag}{CX:World->Eu}{sp:World->Sp}{x:Str}(hn:l.most=some n)(hn2:n<=sizeLine)(hdf:d.params.defaults=[])(hr:iB k callerA)(hY:∀(w:World)(h:Heap),YP w h->(K w.params).In h)(F:∀(w:World)(mg:Str->Option Value)(fa:Addr)(h:Heap),(K w.params).In h->h.Ns mainGlobals mg->mg d.name=some (.ref fa)->∃ fd:FuncData,(∀(s:Shared)(u:Value),BindsTo s fd ⟨[u],[]⟩ [(x,u)])/\∀base:Heap,(K w.params).In base->base.Ns mainGlobals mg->bW l.prog w (K w.params) mg base (CX w) k fa fd [x] (sp w))(hsp:∀(w:World)(H:Hp)(a:Addr)(ns:List Int),ns.length<=n->Only H->dG (K w.params) H a (ns.map V.int)->sp w [.ref a] H (fun v _=>v=.bl true) fun _ _ _=>False)(Yh:∀(w:World)(H:Hp)(s:Shared)(e:Value)(s':Shared),CX w [] H s (fun _ _ _=>False) e s'->False):PySem.W.WalkO q loose XP YP l.row.toRowW d [] (fun f vs=>PySem.call f vs):=by refine Att.vY hn hdf fun w s₀ s₁ mg mb fa o pm cd doc a vs ns G Y ho hd hcd hmg hobj hints hlen hg=>?_;have KX:=hY w _ Y;obtain⟨fd,hb,hF⟩:=F w mg fa _ KX G.T.g hmg;exact DR KX G.T.g G.T.b G.T.builtins G.T.nolimit hg hobj hints (le_trans hlen hn2) hr hF hb (fun H hO hS=>hsp w H a ns hlen hO hS) fun H e s'=>Yh w H s₁ e s'
theorem Hz{l:PySem.W.OpenLaw}{n k:Nat}{q:Program}{loose:List Str}{XP:(Str->Option Value)->Heap->Prop}{YP:World->Heap->Prop}{d:DefRec}{K:Params->PySem.W.Frag}{CX:Eu}{sp:PySem.W.Frag->Sp}{x:Str}(hn:l.most=some n)(hn2:n<=sizeLine)(hdf:d.params.defaults=[])(hr:iB k callerA)(hY:∀(w:World)(h:Heap),YP w h->(K w.params).In h)(F:∀(w:World)(mg:Str->Option Value)(fa:Addr)(h:Heap),(K w.params).In h->h.Ns mainGlobals mg->mg d.name=some (.ref fa)->∃ fd:FuncData,(∀(s:Shared)(u:Value),BindsTo s fd ⟨[u],[]⟩ [(x,u)])/\∀base:Heap,(K w.params).In base->base.Ns mainGlobals mg->bW l.prog w (K w.params) mg base CX k fa fd [x] (sp (K w.params)))(hsp:∀(K:PySem.W.Frag)(H:Hp)(a:Addr)(ns:List Int),ns.length<=n->Only H->dG K H a (ns.map V.int)->sp K [.ref a] H (fun v _=>v=.bl true) fun _ _ _=>False)(Yh:∀(H:Hp)(s:Shared)(e:Value)(s':Shared),CX [] H s (fun _ _ _=>False) e s'->False):PySem.W.WalkO q loose XP YP l.row.toRowW d [] (fun f vs=>PySem.call f vs):=La (K:=K) (CX:=fun _=>CX) (sp:=fun w=>sp (K w.params)) hn hn2 hdf hr hY F (fun w H a ns h1 h2 h3=>hsp (K w.params) H a ns h1 h2 h3) fun _ H s e s'=>Yh H s e s'
end L2/-THE LAST THEOREM(shape;LID,My.*are aeo):My.Adr:a structure of the addresses that your layer names(classes,functions);My.Txt K t:a structure(Prop)of the equations over K;My.ac0:{K}{implicit addresses..}(e1:nsIn K mainGlobals"law"=some(some(.ref f)))(e2:K.lookup f=some⟨oc,od,.func(fnOf"law""law"params body scope dV kV doc pm an cdv ct),sl⟩)(e3:codeIn K cdv"law"=true)..:∃t,My.Txt K t;set_option maxRecDepth 100000 in;set_option maxHeartbeats 0 in(the tactic k_is has no namespace:write k_is)-/
namespace L2
open PySem PySem.Spec PyProof.Rows
noncomputable def gQ(s:Stmt):Arguments:=match s with|.FunctionDef _ a _ _ _ _ _ _ _ _=>a|_=>{posonlyargs:=[],args:=[],vararg:=none,kwonlyargs:=[],kw_defaults:=[],kwarg:=none,defaults:=[]}
noncomputable def dJ(s:Stmt):List Stmt:=match s with|.FunctionDef _ _ b _ _ _ _ _ _ _=>b|_=>[]
noncomputable def aB(s:Stmt):Scope:=match s with|.FunctionDef _ _ _ _ _ _ sc _ _ _=>sc|_=>{kind:=.function,names:=[],isGenerator:=false,isCoroutine:=false}
abbrev gW:Eu:=fun _ _ _ _ _ _=>False
abbrev E0:XK:=fun _ _ _=>False
theorem Wg{X:Cx}:Passes gW X E0:=fun _ _ _ _ _ _ _ h=>h.elim
structure il(K:PySem.W.Frag)(x qual:Str)(st:Stmt)(f:Addr)(fd:FuncData):Prop where
 ex:∃(oc:Value)(od:Option Addr)(kV doc pm:Value)(an:Option Addr)(cdv ct:Value)(osl:Array (Option Value)),fd=PySem.W.fnOf x qual (gQ st) (dJ st) (aB st) .none kV doc pm an cdv ct/\K.lookup f=some ⟨oc,od,.func fd,osl⟩/\PySem.W.codeIn K cdv qual=true
 kp:keepIn K (.ref f)=true
section
variable{P:Program}{w:World}{K:PySem.W.Frag}{mg:Str->Option Value}{base:Heap}
theorem il.ok{x qual:Str}{st:Stmt}{f:Addr}{fd:FuncData}{N ps:List Str}{k:Nat}{sp:Sp}(F:il K x qual st f fd)(S:aL N ps (aB st))(len:∀vs H Q E,sp vs H Q E->vs.length=ps.length)(hbody:∀(cdv:Value)(A:Around)(outer:List Env)(s:Shared)(H:Hp)(vs:List V)(Q:VK)(E:XK),iB k (A.deeper (envOfC qual (aB st) s.heap.objs.size f cdv))->sp vs H Q E->∃t,wH (yc gW P w K mg base N qual (aB st) f cdv A outer s H E).XX (dJ st) t/\t {nx:=fun _ H'=>Q .non H',rt:=Q} (start N vs) H):bW P w K mg base gW (k+1) f fd ps sp:=by obtain⟨oc,od,kV,doc,pm,an,cdv,ct,osl,rfl,lk,hcd⟩:=F.ex;refine Xl lk hcd S len fun A outer s H vs Q E hr hsp=>?_;obtain⟨t,h,q⟩:=hbody cdv A outer s H vs Q E hr hsp;exact⟨t,h.XX,q⟩
theorem il.binds{x qual:Str}{st:Stmt}{f:Addr}{fd:FuncData}{ps:List Str}(F:il K x qual st f fd)(h:∀(kV doc pm:Value)(an:Option Addr)(cdv ct:Value)(us:List Value),us.length=ps.length->bindArgs (PySem.W.fnOf x qual (gQ st) (dJ st) (aB st) .none kV doc pm an cdv ct) ⟨us,[]⟩=pure (ps.zip us)):Binds K fd ps []:=by obtain⟨oc,od,kV,doc,pm,an,cdv,ct,osl,rfl,lk,hcd⟩:=F.ex;exact .all (h kV doc pm an cdv ct)
theorem QH{x qual:Str}{st:Stmt}{f:Addr}{oc:Value}{od an:Option Addr}{osl:Array (Option Value)}{kV doc pm cdv ct:Value}(l:K.lookup f=some ⟨oc,od,.func (PySem.W.fnOf x qual (gQ st) (dJ st) (aB st) .none kV doc pm an cdv ct),osl⟩)(c:PySem.W.codeIn K cdv qual=true)(k:keepIn K (.ref f)=true):il K x qual st f (PySem.W.fnOf x qual (gQ st) (dJ st) (aB st) .none kV doc pm an cdv ct):=⟨⟨oc,od,kV,doc,pm,an,cdv,ct,osl,rfl,l,c⟩,k⟩
end
def aH(H H':Hp):Prop:=∀b o,H b=some o->H' b=some o
theorem aH.refl(H:Hp):aH H H:=fun _ _ h=>h
theorem aH.trans{H H1 H2:Hp}(a:aH H H1)(b:aH H1 H2):aH H H2:=fun c o h=>b c o (a c o h)
theorem aH.seq{K:PySem.W.Frag}{H H':Hp}{a:Addr}{xs:List V}(e:aH H H')(h:dG K H a xs):dG K H' a xs:=by
 rcases h with(h|⟨o,h⟩)|h;.exact .inl (.inl (e _ _ h))
 .exact .inl (.inr ⟨o,e _ _ h⟩)
 .exact .inr h
end L2
end
section
namespace HH
open PySem
inductive Dc where|k(kvs:List (Int×Int))|t(kvs:List (List Int×Int))deriving DecidableEq
inductive D where|non|bl(b:Bool)|int(i:Int)|str(s:Str)|tup(ds:List D)|lst(ds:List D)|cM(m:Dc)|dv(ks:List Int)(ds:List D)deriving Inhabited
mutual
noncomputable def jf:D->D->Bool|.non,.non=>true|.bl a,.bl b=>a==b|.bl a,.int i=>(if a then(1:Int)else 0)==i|.int i,.bl a=>i==(if a then(1:Int)else 0)|.int i,.int j=>i==j|.str a,.str b=>a==b|.tup xs,.tup ys=>fK xs ys|.lst xs,.lst ys=>fK xs ys|.cM a,.cM b=>decide (a=b)|.dv a xs,.dv b ys=>decide (a=b)&&fK xs ys|_,_=>false
noncomputable def fK:List D->List D->Bool|[],[]=>true|x::xs,y::ys=>jf x y&&fK xs ys|_,_=>false
end
theorem pqi{i j}:jf (.int i) (.int j)=(i==j):=(rfl)
theorem pqt{x y}:jf (.tup x) (.tup y)=fK x y:=(rfl)
theorem Z1{x y}:jf (.lst x) (.lst y)=fK x y:=(rfl)
noncomputable def cV:Nat->D->Bool|_,.non=>true|_,.bl _=>true|_,.int _=>true|_,.str _=>true|0,.tup _=>false|0,.lst _=>false|_,.cM _=>false|_,.dv _ _=>false|n+1,.tup ds=>ds.all (cV n)|n+1,.lst ds=>ds.all (cV n)
inductive Sl where|aV|val(b:Bool)(d:D)|own(b:Bool)(ds:List D)|lent(ds:List D)|eY(m:Dc)|hold(rows:List (List D))|cF(kvs:List (Int×D))deriving Inhabited
inductive R where|val(d:D)|own(ds:List D)deriving Inhabited
noncomputable def R.d:R->D|.val d=>d|.own ds=>.lst ds
inductive Res(α:Type)where|ok(a:α)(ρ:List Sl)|exc(k:Nat)(ρ:List Sl)|stuck deriving Inhabited
noncomputable def Res.bind{α β:Type}(f:α->List Sl->Res β):Res α->Res β|.ok a ρ=>f a ρ|.exc _ _=>.stuck|.stuck=>.stuck
noncomputable def lift{α:Type}(o:Option α)(ρ:List Sl):Res α:=match o with|some a=>.ok a ρ|none=>.stuck
inductive Op where|add|sub|mul|fdiv|mod|pow|shl|shr|band|Dl|din|ac1 deriving DecidableEq
inductive Cm where|eq|ne|lt|le|gt|ge|isN|Dm|inn|Bu|isT|Yi|leT deriving DecidableEq
inductive Ty where|int|bool|str|tuple|list|none deriving DecidableEq
inductive Y0 where|len|list|tuple|min2|max2|Dn|sum|sorted|int|HW|keys|Vm|rvT|LQ deriving DecidableEq
inductive P where|var(i:Nat)|con(d:D)|bin(o:Op)(a b:P)|neg(a:P)|not(a:P)|and(a b:P)|or(a b:P)|cmp(o:Cm)(a b:P)|chain(o o':Cm)(a b c:P)|N8(c a b:P)|tup(as:List P)|lst(as:List P)|idx(a i:P)|slice(a lo hi:P)|call(f:Nat)(as:List P)|blt(b:Y0)(as:List P)|inst(ts:List Ty)(a:P)|comp(src:P)(n:Nat)(is:List Nat)(one:Bool)(test:Option P)(elt:P)|wU(a b:P)|zip(a b:P)|Vn(x:Nat)(k d:P)|vw(x:Nat)|Oa(x:Nat)(k:P)|Ob(x:Nat)(k:P)(neg:Bool)|yU(k e:Int)deriving Inhabited
noncomputable abbrev lim:Nat:=16777216
noncomputable def pA:D->D->Option R|.int i,.int j=>some (.val (.int (i+j)))|.lst xs,.lst ys=>if xs.length+ys.length<=lim then some (.own (xs++ys))else none|.tup xs,.tup ys=>if xs.length+ys.length<=lim then some (.val (.tup (xs++ys)))else none|.str x,.str y=>if x.length+y.length<=lim then some (.val (.str (x++y)))else none|_,_=>none
noncomputable def mX:D->D->Option R|.int i,.int j=>if((-18446744073709551616<i/\i<18446744073709551616)\/(-18446744073709551616<j/\j<18446744073709551616))then some (.val (.int (i*j)))else none|.lst xs,.int k=>if 0<=k/\0<xs.length/\xs.length*k.toNat<=lim then some (.own (replicate k.toNat xs).flatten)else none|.tup xs,.int k=>if 0<=k/\0<xs.length/\xs.length*k.toNat<=lim then some (.val (.tup (replicate k.toNat xs).flatten))else none|_,_=>none
noncomputable def wN:D->D->Option R|.int i,.int j=>some (.val (.int (i-j)))|_,_=>none
noncomputable def o4:D->D->Option R|.int i,.int j=>if 0<j/\j<1606938044258990275541962092341162602522202993782792835301376 then some (.val (.int (i/j)))else none|_,_=>none
noncomputable def wg:D->D->Option R|.int i,.int j=>if 0<j then some (.val (.int (i%j)))else none|_,_=>none
noncomputable def wy:D->D->Option R|.int i,.int j=>if 0<=j/\j<=1000/\i.natAbs<18446744073709551616 then some (.val (.int (i^j.toNat)))else none|_,_=>none
noncomputable def wz:D->D->Option R|.int i,.int j=>if 0<=j/\j<=1000/\i.natAbs<18446744073709551616 then some (.val (.int (i*2^j.toNat)))else none|_,_=>none
noncomputable def uO:D->D->Option R|.int i,.int j=>if 0<=j then some (.val (.int (i/2^j.toNat)))else none|_,_=>none
noncomputable def p8:D->D->Option R|.int i,.int j=>some (.val (.int (Builtin.bitAnd i j)))|_,_=>none
noncomputable def flat:D->Bool|.tup _=>false|.lst _=>false|.cM _=>false|.dv _ _=>false|_=>true
noncomputable def items:D->Option (List D)|.lst ds=>some ds|.tup ds=>some ds|_=>none
noncomputable def O3:D->Option (List D)|.tup ds=>some ds|_=>none
noncomputable def GF(x y:D):Option Bool:=if cV 8 x&&cV 8 y then some (jf x y)else none
noncomputable def Ej(x y:D):Option Bool:=if cV 8 x&&cV 8 y then some (!jf x y)else none
noncomputable def Im(f:Int->Int->Bool):D->D->Option Bool|.int i,.int j=>some (f i j)|_,_=>none
noncomputable def iQ:D->Bool|.non=>true|_=>false
noncomputable def Uz(neg:Bool)(x:D):D->Option Bool|.non=>some (if neg then !iQ x else iQ x)|_=>none
noncomputable def uP(neg:Bool)(x y:D):Option Bool:=(items y).bind fun ys=>if(flat x&&ys.all flat)=true then some (if neg then !(ys.any fun y=>jf y x)else ys.any fun y=>jf y x)else none
noncomputable def cmT(neg:Bool):D->D->Option Bool|.bl b,.bl true=>some (if neg then !b else b)|_,_=>none
noncomputable def aW:List Int->List Int->Bool|[],_::_=>true|i::is,j::js=>decide (i<j)||(decide (i=j)&&aW is js)|_,[]=>false
noncomputable def iK:D->Int|.int i=>i|_=>0
noncomputable def bD:D->List Int|.int i=>[i]|.tup ds=>ds.map iK|_=>[]
noncomputable def dY:D->Bool|.int _=>true|_=>false
noncomputable def Dc.get:Dc->D->Option (Option Int)|.k kvs,.int i=>some ((kvs.find? fun kv=>decide (kv.1=i)).map (·.2))|_,_=>none
noncomputable def putD{κ:Type}[DecidableEq κ](kvs:List (κ×Int))(k:κ)(v:Int):List (κ×Int):=if(kvs.any fun kv=>decide (kv.1=k))=true then kvs.map (fun kv=>if kv.1=k then(kv.1,v)else kv)else kvs++[(k,v)]
noncomputable def Dc.put:Dc->D->Int->Option Dc|.k kvs,.int i,v=>if kvs.length<lim then some (.k (putD kvs i v))else none|_,_,_=>none
noncomputable def mO(kvs:List (Int×D))(k:Int):Option D:=(kvs.find? fun p=>decide (p.1=k)).map (·.2)
noncomputable def fL(kvs:List (Int×D))(k:Int)(d:D):List (Int×D):=if(kvs.any fun p=>decide (p.1=k))=true then kvs.map (fun p=>if p.1=k then(p.1,d)else p)else kvs++[(k,d)]
noncomputable def vH(neg:Bool):D->D->Option R|.int k,.dv ks _=>some (.val (.bl (if neg then !ks.contains k else ks.contains k)))|_,_=>none
noncomputable def Ax:D->D->Option R|.cM m,k=>(m.get k).bind fun o=>o.map fun v=>.val (.int v)|.dv ks ds,.int k=>(mO (ks.zip ds) k).map .val|_,_=>none
noncomputable def oh:Op->D->D->Option R|.add=>pA|.mul=>mX|.sub=>wN|.fdiv=>o4|.mod=>wg|.pow=>wy|.shl=>wz|.shr=>uO|.band=>p8|.Dl=>Ax|.din=>vH false|.ac1=>vH true
noncomputable def Wr:D->D->Option Bool|.int i,.int j=>some (decide (i<j))|.tup xs,.tup ys=>if(xs.all dY&&ys.all dY)=true then some (aW (xs.map iK) (ys.map iK))else none|_,_=>none
noncomputable def ach:D->D->Option Bool|.int i,.int j=>some (decide (i<=j))|.tup xs,.tup ys=>if(xs.all dY&&ys.all dY)=true then some (!aW (ys.map iK) (xs.map iK))else none|_,_=>none
noncomputable def cm:Cm->D->D->Option Bool|.eq=>GF|.ne=>Ej|.lt=>Wr|.le=>Im fun i j=>decide (i<=j)|.leT=>ach|.gt=>Im fun i j=>decide (j<i)|.ge=>Im fun i j=>decide (j<=i)|.isN=>Uz false|.Dm=>Uz true|.inn=>uP false|.Bu=>uP true|.isT=>cmT false|.Yi=>cmT true
noncomputable def lY(o:Cm)(x y:D):Option R:=(cm o x y).map fun k=>.val (.bl k)
noncomputable def ie(n:Nat)(i:Int):Option Nat:=if 0<=i then(if i<n then some i.toNat else none)else if-(n:Int)<=i then some (i+n).toNat else none
noncomputable def at'{α:Type}(xs:List α)(i:Int):Option α:=(ie xs.length i).bind fun j=>xs[j]?
noncomputable def cO(n d:Nat):Option Int->Nat|none=>d|some i=>if 0<=i then min i.toNat n else(i+n).toNat
noncomputable def cut{α:Type}(xs:List α)(lo hi:Option Int):List α:=(xs.drop (cO xs.length 0 lo)).take (cO xs.length xs.length hi-cO xs.length 0 lo)
noncomputable def fV:D->Option Int|.int i=>some i|_=>none
noncomputable def MN:D->Option Bool|.bl b=>some b|_=>none
noncomputable def Jl(x y:D):Option R:=(items x).bind fun ds=>(fV y).bind fun i=>(at' ds i).map .val
noncomputable def FT(x:D):Option R:=(fV x).map fun i=>.val (.int (-i))
noncomputable def Qs:P->Bool|.con .non=>true|_=>false
noncomputable def part(p:P)(d:D):Option (Option Int):=if Qs p then some none else(fV d).map some
noncomputable def Mu:D->Option (Option Int)->Option (Option Int)->Option R|.lst xs,some lo,some hi=>some (.own (cut xs lo hi))|.tup xs,some lo,some hi=>some (.val (.tup (cut xs lo hi)))|_,_,_=>none
noncomputable def bZ:Ty->D->Bool|.int,.int _=>true|.int,.bl _=>true|.bool,.bl _=>true|.str,.str _=>true|.tuple,.tup _=>true|.list,.lst _=>true|.none,.non=>true|_,_=>false
noncomputable def oY:D->Bool|.tup (x::xs)=>(x::xs).all dY|_=>false
noncomputable def sortable(ds:List D):Bool:=decide (ds.length<=16777216)&&(ds.all dY||ds.all oY)
noncomputable def nJ(ds:List D):List D:=ds.mergeSort fun a b=>!aW (bD b) (bD a)
noncomputable def yS:D->Option (List D)|.lst ds=>some ds|_=>none
noncomputable def fU(p:Int×Int):D:=.tup [.int p.1,.int p.2]
noncomputable def blt:Y0->List D->Option R|.len,[x]=>(items x).map fun ds=>.val (.int ds.length)|.list,[x]=>(items x).map fun ds=>.own ds|.tuple,[x]=>(items x).map fun ds=>.val (.tup ds)|.min2,[.int i,.int j]=>some (.val (.int (if j<i then j else i)))|.max2,[.int i,.int j]=>some (.val (.int (if i<j then j else i)))|.Dn,[x]=>((items x).bind fun ds=>ds.mapM fV).bind fun ns=>ns.min?.map fun i=>.val (.int i)|.sum,[x]=>((items x).bind fun ds=>ds.mapM fV).map fun ns=>.val (.int ns.sum)|.HW,[x]=>((items x).bind fun ds=>ds.mapM fV).map fun ns=>.val (match ns.max? with|some i=>.int i|none=>.non)|.sorted,[x]=>(yS x).bind fun ds=>if sortable ds then some (.own (nJ ds))else none|.int,[.int i]=>some (.val (.int i))|.int,[.bl b]=>some (.val (.int (if b then 1 else 0)))|.keys,[.cM (.k kvs)]=>some (.val (.tup (kvs.map fun p=>.int p.1)))|.keys,[.dv ks _]=>some (.val (.tup (ks.map D.int)))|.Vm,[.dv ks _]=>if ks.length<=16777216 then some (.own (ks.map D.int))else none|.rvT,[.lst ds]=>some (.val (.tup ds.reverse))|.LQ,[.cM (.k kvs)]=>if sortable (kvs.map fU)then some (.own (nJ (kvs.map fU)))else none|_,_=>none
noncomputable def pk(ρ:List Sl)(i:Nat):Option D:=match ρ[i]?with|some (.val _ d)=>some d|some (.own _ ds)=>some (.lst ds)|some (.lent ds)=>some (.lst ds)|_=>none
noncomputable def Dw(ρ:List Sl)(i:Nat):Option (List D):=match pk ρ i with|some (.lst ds)=>some ds|_=>none
noncomputable abbrev Ev:=List Sl->Res R
noncomputable def isVar:P->Option Nat|.var i=>some i|_=>none
noncomputable def bY(i:Option Nat)(e:Ev)(ρ:List Sl):Res D:=match i with|some i=>lift (pk ρ i) ρ|none=>(e ρ).bind fun r ρ=>.ok r.d ρ
noncomputable def gb(i:Option Nat)(e:Ev)(j:Option Nat)(f:Ev)(ρ:List Sl):Res (D×D):=match i with|some i=>(lift (pk ρ i) ρ).bind fun _ ρ=>(bY j f ρ).bind fun y ρ=>(lift (pk ρ i) ρ).bind fun x ρ=>.ok (x,y) ρ|none=>(bY none e ρ).bind fun x ρ=>(bY j f ρ).bind fun y ρ=>.ok (x,y) ρ
noncomputable def gG(e:Ev)(ρ:List Sl):Res Bool:=(e ρ).bind fun r ρ=>lift (MN r.d) ρ
inductive Arg where|dat(d:D)|tmp(ds:List D)|dq(i:Nat)
noncomputable def vR:R->Arg|.val d=>.dat d|.own ds=>.tmp ds
noncomputable def bC(ρ:List Sl):List Arg->List Nat->Option (List Sl)|[],_=>some []|.dat d::r,used=>(bC ρ r used).map fun s=>.val false d::s|.tmp ds::r,used=>(bC ρ r used).map fun s=>.own false ds::s|.dq i::r,used=>match ρ[i]?with|some (.val _ d)=>(bC ρ r used).map fun s=>.val false d::s|some (.own _ ds)=>if used.contains i then none else(bC ρ r (i::used)).map fun s=>.own true ds::s|some (.lent ds)=>if used.contains i then none else(bC ρ r (i::used)).map fun s=>.lent ds::s|_=>none
noncomputable def aQ(i:Nat):List Arg->List Sl->Option Sl|.dq k::as,s::ss=>if k=i then some s else aQ i as ss|.dat _::as,_::ss=>aQ i as ss|.tmp _::as,_::ss=>aQ i as ss|_,_=>none
noncomputable def cX:Sl->Option Sl->Sl|.own b _,some (.own _ ds)=>.own b ds|.own b _,some (.val _ d)=>.val b d|s,_=>s
noncomputable def cJ(as:List Arg)(ss:List Sl):Nat->List Sl->List Sl|_,[]=>[]|i,s::ρ=>cX s (aQ i as ss)::cJ as ss (i+1) ρ
noncomputable abbrev Call:=Nat->List Sl->Res R
noncomputable def oZ(c:Call)(f:Nat)(as:List Arg)(ρ:List Sl):Res R:=match bC ρ as []with|none=>.stuck|some args=>match c f args with|.ok r args'=>.ok r (cJ as args' 0 ρ)|.exc _ _=>.stuck|.stuck=>.stuck
noncomputable def put(ρ:List Sl)(i:Nat)(s:Sl):Option (List Sl):=match ρ[i]?with|some .aV=>some (ρ.set i s)|some (.val false _)=>some (ρ.set i s)|some (.own false _)=>some (ρ.set i s)|_=>none
noncomputable def putAll(ρ:List Sl):List Nat->List D->Option (List Sl)|[],[]=>some ρ|i::is,d::ds=>(put ρ i (.val false d)).bind fun ρ=>putAll ρ is ds|_,_=>none
noncomputable def cI(ρ:List Sl)(is:List Nat)(one:Bool)(d:D):Option (List Sl):=match one,is,d with|true,[i],d=>put ρ i (.val false d)|false,is,.tup ds=>putAll ρ is ds|_,_,_=>none
noncomputable def srcOf(i:Option Nat)(e:Ev)(ρ:List Sl):Res (List D):=match i with
 |some i=>match ρ[i]?with|some (.val _ d)=>lift (items d) ρ|some (.own _ ds)=>.ok ds (ρ.set i (.lent ds))|some (.lent ds)=>.ok ds ρ|_=>.stuck
 |none=>(e ρ).bind fun r ρ=>lift (items r.d) ρ
noncomputable def aX(ρ₀:List Sl)(i:Option Nat)(ρ:List Sl):List Sl:=match i with
 |some i=>match ρ₀[i]?with|some (.own b ds)=>ρ.set i (.own b ds)|_=>ρ
 |none=>ρ
noncomputable def srcY(i:Nat)(f:Ev)(ρ:List Sl):Res (List D×List Sl):=(f ρ).bind fun r ρb=>(lift (items r.d) ρb).bind fun es ρb=>match ρb[i]?with|some (.val _ d)=>(lift (items d) ρb).bind fun ds ρb=>.ok ((es.zip ds).map fun p=>D.tup [p.1,p.2],ρb) ρb|some (.own _ ds)=>.ok ((es.zip ds).map fun p=>D.tup [p.1,p.2],ρb) (ρb.set i (.lent ds))|some (.lent ds)=>.ok ((es.zip ds).map fun p=>D.tup [p.1,p.2],ρb) ρb|_=>.stuck
noncomputable def turns(is:List Nat)(one:Bool)(test:List Sl->Res Bool)(elt:Ev):List D->List D->List Sl->Res (List D)|[],acc,ρ=>.ok acc ρ|d::r,acc,ρ=>match cI ρ is one d with|none=>.stuck|some ρ=>(test ρ).bind fun b ρ=>if b then(elt ρ).bind fun x ρ=>turns is one test elt r (acc++[x.d]) ρ else turns is one test elt r acc ρ
mutual
noncomputable def ev(c:Call):P->List Sl->Res R
 |.var i,ρ=>match ρ[i]?with|some (.val _ d)=>.ok (.val d) ρ|some (.own b ds)=>.ok (.val (.lst ds)) (ρ.set i (.val b (.lst ds)))|some (.eY (.k kvs))=>.ok (.val (.cM (.k kvs))) (ρ.set i (.val false (.cM (.k kvs))))|some (.cF kvs)=>.ok (.val (.dv (kvs.map (·.1)) (kvs.map (·.2)))) (ρ.set i (.val false (.dv (kvs.map (·.1)) (kvs.map (·.2)))))|_=>.stuck
 |.con d,ρ=>.ok (.val d) ρ|.bin o a b,ρ=>(gb (isVar a) (ev c a) (isVar b) (ev c b) ρ).bind fun xy ρ=>lift (oh o xy.1 xy.2) ρ|.neg a,ρ=>(bY (isVar a) (ev c a) ρ).bind fun x ρ=>lift (FT x) ρ|.not a,ρ=>(gG (ev c a) ρ).bind fun b ρ=>.ok (.val (.bl (!b))) ρ|.and a b,ρ=>(gG (ev c a) ρ).bind fun x ρ=>if x then(gG (ev c b) ρ).bind fun y ρ=>.ok (.val (.bl y)) ρ else .ok (.val (.bl false)) ρ|.or a b,ρ=>(gG (ev c a) ρ).bind fun x ρ=>if x then .ok (.val (.bl true)) ρ else(gG (ev c b) ρ).bind fun y ρ=>.ok (.val (.bl y)) ρ|.cmp o a b,ρ=>(gb (isVar a) (ev c a) (isVar b) (ev c b) ρ).bind fun xy ρ=>lift (lY o xy.1 xy.2) ρ|.chain o o' a b d,ρ=>(gb (isVar a) (ev c a) (isVar b) (ev c b) ρ).bind fun xy ρ=>(lift (if flat xy.2=true then cm o xy.1 xy.2 else none) ρ).bind fun k ρ=>if k then(bY (isVar d) (ev c d) ρ).bind fun z ρ=>lift (lY o' xy.2 z) ρ else .ok (.val (.bl false)) ρ|.N8 t a b,ρ=>(gG (ev c t) ρ).bind fun k ρ=>if k then(ev c a ρ).bind fun r ρ=>.ok (.val r.d) ρ else(ev c b ρ).bind fun r ρ=>.ok (.val r.d) ρ|.tup as,ρ=>(evs c as ρ).bind fun ds ρ=>.ok (.val (.tup ds)) ρ|.lst as,ρ=>(evs c as ρ).bind fun ds ρ=>.ok (.own ds) ρ|.idx a i,ρ=>(gb (isVar a) (ev c a) (isVar i) (ev c i) ρ).bind fun xy ρ=>lift (Jl xy.1 xy.2) ρ|.slice a l h,ρ=>match isVar a with|some i=>(lift (pk ρ i) ρ).bind fun _ ρ=>(bY (isVar l) (ev c l) ρ).bind fun y ρ=>(bY (isVar h) (ev c h) ρ).bind fun z ρ=>(lift (pk ρ i) ρ).bind fun x ρ=>lift (Mu x (part l y) (part h z)) ρ|none=>(bY none (ev c a) ρ).bind fun x ρ=>(bY (isVar l) (ev c l) ρ).bind fun y ρ=>(bY (isVar h) (ev c h) ρ).bind fun z ρ=>lift (Mu x (part l y) (part h z)) ρ
 |.call f as,ρ=>(xn c as ρ).bind fun xs ρ=>oZ c f xs ρ|.blt b [a],ρ=>(bY (isVar a) (ev c a) ρ).bind fun x ρ=>lift (blt b [x]) ρ|.blt b as,ρ=>(evs c as ρ).bind fun ds ρ=>lift (blt b ds) ρ|.inst ts a,ρ=>(bY (isVar a) (ev c a) ρ).bind fun x ρ=>.ok (.val (.bl (ts.any fun t=>bZ t x))) ρ|.comp src n is one test elt,ρ=>(srcOf (isVar src) (ev c src) ρ).bind fun ds ρ₁=>if ds.length<=lim then(turns is one (uI c test) (ev c elt) ds [] (ρ₁++replicate n .aV)).bind fun xs ρ₂=>.ok (.own xs) (aX ρ (isVar src) (ρ₂.take ρ₁.length))else .stuck|.wU a b,ρ=>(gb (isVar a) (ev c a) (isVar b) (ev c b) ρ).bind fun xy ρ=>lift ((fV xy.1).bind fun i=>(fV xy.2).bind fun j=>if-1000000<=i/\i<=1000000000/\j<=1000000000/\-1000000000<=j then some (.val (.lst ((List.range (j-i).toNat).map fun(k:Nat)=>D.int (i+(k:Int)))))else none) ρ|.zip a b,ρ=>(ev c a ρ).bind fun x ρ=>(ev c b ρ).bind fun y ρ=>lift ((items x.d).bind fun ds=>(items y.d).map fun es=>.val (.lst ((ds.zip es).map fun p=>D.tup [p.1,p.2]))) ρ|.Vn x k d,ρ=>match ρ[x]?with
   |some (.eY _)=>(bY (isVar k) (ev c k) ρ).bind fun kd ρ=>(bY (isVar d) (ev c d) ρ).bind fun dd ρ=>match ρ[x]?with|some (.eY m)=>lift ((m.get kd).bind fun o=>(fV dd).map fun v=>.val (.int (o.getD v))) ρ|_=>.stuck
   |_=>.stuck
 |.vw x,ρ=>match ρ[x]?with|some (.eY m)=>.ok (.val (.cM m)) (ρ.set x (.val false (.cM m)))|some (.cF kvs)=>.ok (.val (.dv (kvs.map (·.1)) (kvs.map (·.2)))) (ρ.set x (.val false (.dv (kvs.map (·.1)) (kvs.map (·.2)))))|_=>.stuck
 |.Oa x k,ρ=>match ρ[x]?with
   |some (.cF _)=>(bY (isVar k) (ev c k) ρ).bind fun kd ρ=>match ρ[x]?with|some (.cF kvs)=>lift ((fV kd).bind fun k=>(mO kvs k).map .val) ρ|_=>.stuck
   |_=>.stuck
 |.Ob x k neg,ρ=>(bY (isVar k) (ev c k) ρ).bind fun kd ρ=>match ρ[x]?with|some (.cF kvs)=>lift ((fV kd).map fun k=>.val (.bl (if neg then !(kvs.map (·.1)).contains k else(kvs.map (·.1)).contains k))) ρ|_=>.stuck
 |.yU k e,ρ=>.ok (.val (.dv [k] [.int e])) ρ
noncomputable def evs(c:Call):List P->List Sl->Res (List D)|[],ρ=>.ok [] ρ|a::r,ρ=>(ev c a ρ).bind fun x ρ=>(evs c r ρ).bind fun xs ρ=>.ok (x.d::xs) ρ
noncomputable def xn(c:Call):List P->List Sl->Res (List Arg)|[],ρ=>.ok [] ρ|a::r,ρ=>match isVar a with|some i=>(lift (pk ρ i) ρ).bind fun _ ρ=>(xn c r ρ).bind fun xs ρ=>.ok (.dq i::xs) ρ|none=>(ev c a ρ).bind fun x ρ=>(xn c r ρ).bind fun xs ρ=>.ok (vR x::xs) ρ
noncomputable def uI(c:Call):Option P->List Sl->Res Bool|none,ρ=>.ok true ρ|some t,ρ=>gG (ev c t) ρ
end
theorem E1{c i ρ}:ev c (.var i) ρ=match ρ[i]?with|some (.val _ d)=>.ok (.val d) ρ|some (.own b ds)=>.ok (.val (.lst ds)) (ρ.set i (.val b (.lst ds)))|some (.eY (.k kvs))=>.ok (.val (.cM (.k kvs))) (ρ.set i (.val false (.cM (.k kvs))))|some (.cF kvs)=>.ok (.val (.dv (kvs.map (·.1)) (kvs.map (·.2)))) (ρ.set i (.val false (.dv (kvs.map (·.1)) (kvs.map (·.2)))))|_=>.stuck:=(rfl)
theorem E2{c d ρ}:ev c (.con d) ρ=.ok (.val d) ρ:=(rfl)
theorem E3{c o a b ρ}:ev c (.bin o a b) ρ=(gb (isVar a) (ev c a) (isVar b) (ev c b) ρ).bind fun xy ρ=>lift (oh o xy.1 xy.2) ρ:=(rfl)
theorem E4{c a ρ}:ev c (.neg a) ρ=(bY (isVar a) (ev c a) ρ).bind fun x ρ=>lift (FT x) ρ:=(rfl)
theorem E5{c a ρ}:ev c (.not a) ρ=(gG (ev c a) ρ).bind fun b ρ=>.ok (.val (.bl (!b))) ρ:=(rfl)
theorem E6{c a b ρ}:ev c (.and a b) ρ=(gG (ev c a) ρ).bind fun x ρ=>if x then(gG (ev c b) ρ).bind fun y ρ=>.ok (.val (.bl y)) ρ else .ok (.val (.bl false)) ρ:=(rfl)
theorem E7{c a b ρ}:ev c (.or a b) ρ=(gG (ev c a) ρ).bind fun x ρ=>if x then .ok (.val (.bl true)) ρ else(gG (ev c b) ρ).bind fun y ρ=>.ok (.val (.bl y)) ρ:=(rfl)
theorem E8{c o a b ρ}:ev c (.cmp o a b) ρ=(gb (isVar a) (ev c a) (isVar b) (ev c b) ρ).bind fun xy ρ=>lift (lY o xy.1 xy.2) ρ:=(rfl)
theorem E9{c o o' a b d ρ}:ev c (.chain o o' a b d) ρ=(gb (isVar a) (ev c a) (isVar b) (ev c b) ρ).bind fun xy ρ=>(lift (if flat xy.2=true then cm o xy.1 xy.2 else none) ρ).bind fun k ρ=>if k then(bY (isVar d) (ev c d) ρ).bind fun z ρ=>lift (lY o' xy.2 z) ρ else .ok (.val (.bl false)) ρ:=(rfl)
theorem E10{c t a b ρ}:ev c (.N8 t a b) ρ=(gG (ev c t) ρ).bind fun k ρ=>if k then(ev c a ρ).bind fun r ρ=>.ok (.val r.d) ρ else(ev c b ρ).bind fun r ρ=>.ok (.val r.d) ρ:=(rfl)
theorem E11{c as ρ}:ev c (.tup as) ρ=(evs c as ρ).bind fun ds ρ=>.ok (.val (.tup ds)) ρ:=(rfl)
theorem E12{c as ρ}:ev c (.lst as) ρ=(evs c as ρ).bind fun ds ρ=>.ok (.own ds) ρ:=(rfl)
theorem E13{c a i ρ}:ev c (.idx a i) ρ=(gb (isVar a) (ev c a) (isVar i) (ev c i) ρ).bind fun xy ρ=>lift (Jl xy.1 xy.2) ρ:=(rfl)
theorem E14{c a l h ρ}:ev c (.slice a l h) ρ=match isVar a with|some i=>(lift (pk ρ i) ρ).bind fun _ ρ=>(bY (isVar l) (ev c l) ρ).bind fun y ρ=>(bY (isVar h) (ev c h) ρ).bind fun z ρ=>(lift (pk ρ i) ρ).bind fun x ρ=>lift (Mu x (part l y) (part h z)) ρ|none=>(bY none (ev c a) ρ).bind fun x ρ=>(bY (isVar l) (ev c l) ρ).bind fun y ρ=>(bY (isVar h) (ev c h) ρ).bind fun z ρ=>lift (Mu x (part l y) (part h z)) ρ:=(rfl)
theorem E15{c f as ρ}:ev c (.call f as) ρ=(xn c as ρ).bind fun xs ρ=>oZ c f xs ρ:=(rfl)
theorem E16{c b a ρ}:ev c (.blt b [a]) ρ=(bY (isVar a) (ev c a) ρ).bind fun x ρ=>lift (blt b [x]) ρ:=(rfl)
theorem E17{c b x y r ρ}:ev c (.blt b (x::y::r)) ρ=(evs c (x::y::r) ρ).bind fun ds ρ=>lift (blt b ds) ρ:=(rfl)
theorem Wm{c b ρ}:ev c (.blt b []) ρ=(evs c [] ρ).bind fun ds ρ=>lift (blt b ds) ρ:=(rfl)
theorem E18{c ts a ρ}:ev c (.inst ts a) ρ=(bY (isVar a) (ev c a) ρ).bind fun x ρ=>.ok (.val (.bl (ts.any fun t=>bZ t x))) ρ:=(rfl)
theorem E19{c src n is one test elt ρ}:ev c (.comp src n is one test elt) ρ=(srcOf (isVar src) (ev c src) ρ).bind fun ds ρ₁=>if ds.length<=lim then(turns is one (uI c test) (ev c elt) ds [] (ρ₁++replicate n .aV)).bind fun xs ρ₂=>.ok (.own xs) (aX ρ (isVar src) (ρ₂.take ρ₁.length))else .stuck:=(rfl)
theorem E20{c a b ρ}:ev c (.wU a b) ρ=(gb (isVar a) (ev c a) (isVar b) (ev c b) ρ).bind fun xy ρ=>lift ((fV xy.1).bind fun i=>(fV xy.2).bind fun j=>if-1000000<=i/\i<=1000000000/\j<=1000000000/\-1000000000<=j then some (.val (.lst ((List.range (j-i).toNat).map fun(k:Nat)=>D.int (i+(k:Int)))))else none) ρ:=(rfl)
theorem E21{c a b ρ}:ev c (.zip a b) ρ=(ev c a ρ).bind fun x ρ=>(ev c b ρ).bind fun y ρ=>lift ((items x.d).bind fun ds=>(items y.d).map fun es=>.val (.lst ((ds.zip es).map fun p=>D.tup [p.1,p.2]))) ρ:=(rfl)
theorem E22{c x k d ρ}:ev c (.Vn x k d) ρ=match ρ[x]?with
 |some (.eY _)=>(bY (isVar k) (ev c k) ρ).bind fun kd ρ=>(bY (isVar d) (ev c d) ρ).bind fun dd ρ=>match ρ[x]?with|some (.eY m)=>lift ((m.get kd).bind fun o=>(fV dd).map fun v=>.val (.int (o.getD v))) ρ|_=>.stuck
 |_=>.stuck:=(rfl)
theorem E23{c x ρ}:ev c (.vw x) ρ=match ρ[x]?with|some (.eY m)=>.ok (.val (.cM m)) (ρ.set x (.val false (.cM m)))|some (.cF kvs)=>.ok (.val (.dv (kvs.map (·.1)) (kvs.map (·.2)))) (ρ.set x (.val false (.dv (kvs.map (·.1)) (kvs.map (·.2)))))|_=>.stuck:=(rfl)
theorem E24{c x k ρ}:ev c (.Oa x k) ρ=match ρ[x]?with
 |some (.cF _)=>(bY (isVar k) (ev c k) ρ).bind fun kd ρ=>match ρ[x]?with|some (.cF kvs)=>lift ((fV kd).bind fun k=>(mO kvs k).map .val) ρ|_=>.stuck
 |_=>.stuck:=(rfl)
theorem E25{c x k neg ρ}:ev c (.Ob x k neg) ρ=(bY (isVar k) (ev c k) ρ).bind fun kd ρ=>match ρ[x]?with|some (.cF kvs)=>lift ((fV kd).map fun k=>.val (.bl (if neg then !(kvs.map (·.1)).contains k else(kvs.map (·.1)).contains k))) ρ|_=>.stuck:=(rfl)
theorem E26{c k e ρ}:ev c (.yU k e) ρ=.ok (.val (.dv [k] [.int e])) ρ:=(rfl)
inductive S where|pass|brk|cont|bad|expr(e:P)|asg(i:Nat)(e:P)|yV(x:Nat)(i e:P)|app(x:Nat)(e:P)|ret(e:P)|Yj|ifs(c:P)(a b:List S)|iZ(src:P)(i:List Nat)(one:Bool)(body:List S)|whl(c:P)(body:List S)|HX(x:Nat)(i:P)(sub:Bool)(e:P)|HY(x:Nat)(t:Bool)|dput(x:Nat)(k e:P)|Ia(x:Nat)(src:P)(k:Nat)(is:List Nat)(one:Bool)(elt:P)|Ib(x:Nat)(i e:P)|Dp(src:P)(is:List Nat)(one:Bool)(body:List S)|cN(x:Nat)|Dq(x:Nat)|fL(x:Nat)(k e:P)deriving Inhabited
inductive Fl where|next|brk|cont|ret(r:R)deriving Inhabited
noncomputable def xx:R->Sl|.val d=>.val false d|.own ds=>.own false ds
noncomputable def gj(is:List Nat)(one:Bool)(body:List Sl->Res Fl):List D->List Sl->Res Fl|[],ρ=>.ok .next ρ|d::r,ρ=>match cI ρ is one d with|none=>.stuck|some ρ=>(body ρ).bind fun fl ρ=>match fl with|.next=>gj is one body r ρ|.cont=>gj is one body r ρ|.brk=>.ok .next ρ|.ret r=>.ok (.ret r) ρ
noncomputable def qm(test:List Sl->Res Bool)(body:List Sl->Res Fl):Nat->List Sl->Res Fl|0,_=>.stuck|n+1,ρ=>(test ρ).bind fun b ρ=>if b then(body ρ).bind fun fl ρ=>match fl with|.next=>qm test body n ρ|.cont=>qm test body n ρ|.brk=>.ok .next ρ|.ret r=>.ok (.ret r) ρ else .ok .next ρ
noncomputable def dw(is:List Nat)(one:Bool)(elt:Ev):List D->List (List D)->List Sl->Res (List (List D))|[],acc,ρ=>.ok acc ρ|d::r,acc,ρ=>match cI ρ is one d with|none=>.stuck|some ρ=>(elt ρ).bind fun x ρ=>match x with|.own ds=>dw is one elt r (acc++[ds]) ρ|.val _=>.stuck
noncomputable def rowAt(rows:List (List D))(k:Int):Option (List D):=(ie rows.length k).bind fun r=>rows[r]?
noncomputable def iM(rows:List (List D))(k:Int)(f:List D->Option (List D)):Option (List (List D)):=(ie rows.length k).bind fun r=>(rows[r]?).bind fun row=>(f row).map fun jz=>rows.set r jz
noncomputable def setAt(l:Int)(d:D)(row:List D):Option (List D):=(ie row.length l).map fun m=>row.set m d
noncomputable def gY(ρ:List Sl)(x:Nat):Option (List (List D)):=match ρ[x]?with|some (.hold rows)=>some rows|_=>none
noncomputable def sS(ρ:List Sl)(x:Nat)(k:D):Option (List D):=(gY ρ x).bind fun rows=>(fV k).bind fun k=>rowAt rows k
noncomputable def Cd(ρ:List Sl)(x:Nat)(o:Option (List (List D))):Res Fl:=match o with|some rows=>.ok .next (ρ.set x (.hold rows))|none=>.stuck
noncomputable def rowOne(x r:Nat)(ej ek el:List Sl->Res D)(ρ:List Sl):Res Fl:=(ek ρ).bind fun k ρ=>(lift ((gY ρ x).bind fun rows=>(rows[r]?).bind fun row=>(fV k).bind fun k=>(at' row k).bind fV) ρ).bind fun u ρ=>(el ρ).bind fun l ρ=>(lift ((gY ρ x).bind fun rows=>(rows[r]?).bind fun row=>(fV l).bind fun l=>(at' row l).bind fV) ρ).bind fun v ρ=>(ej ρ).bind fun j ρ=>Cd ρ x ((gY ρ x).bind fun rows=>(rows[r]?).bind fun row=>(fV j).bind fun j=>(setAt j (.int (u+v)) row).map fun jz=>rows.set r jz)
noncomputable def Rp(x y:Nat)(ej ek el:List Sl->Res D):Nat->Nat->List Sl->Res Fl|0,_,ρ=>.ok .next ρ|m+1,r,ρ=>(lift (put ρ y .aV) ρ).bind fun ρ _=>(rowOne x r ej ek el ρ).bind fun _ ρ=>Rp x y ej ek el m (r+1) ρ
noncomputable def PN(is:List Nat)(one:Bool)(body:List Sl->Res Fl)(bx:List Sl->Option (Nat×List Sl)):List D->List Sl->Option (Nat×List Sl)|[],_=>none|d::r,ρ=>match cI ρ is one d with|none=>none|some ρ=>match bx ρ with|some x=>some x|none=>match body ρ with|.ok .next ρ1=>PN is one body bx r ρ1|.ok .cont ρ1=>PN is one body bx r ρ1|_=>none
noncomputable def Pb:P->P|.idx a _=>a|e=>e
noncomputable def MP(c:Call)(e:P)(ρ:List Sl):Option (Nat×List Sl):=match Pb e with
 |.call f as=>match xn c as ρ with
   |.ok xs ρ1=>match bC ρ1 xs []with
     |some args=>match c f args with|.exc k args'=>some (k,cJ xs args' 0 ρ1)|_=>none
     |none=>none
   |_=>none
 |_=>none
mutual
noncomputable def ex(c:Call)(n:Nat):S->List Sl->Res Fl
 |.pass,ρ=>.ok .next ρ|.brk,ρ=>.ok .brk ρ|.cont,ρ=>.ok .cont ρ|.bad,_=>.stuck|.expr e,ρ=>(ev c e ρ).bind fun _ ρ=>.ok .next ρ|.asg i e,ρ=>(ev c e ρ).bind fun r ρ=>(lift (put ρ i (xx r)) ρ).bind fun ρ' _=>.ok .next ρ'|.yV x i e,ρ=>(ev c e ρ).bind fun r ρ=>(lift (pk ρ x) ρ).bind fun _ ρ=>(bY (isVar i) (ev c i) ρ).bind fun k ρ=>match ρ[x]?,k with
   |some (.own b ds),.int k=>match ie ds.length k with|some j=>.ok .next (ρ.set x (.own b (ds.set j r.d)))|none=>.stuck
   |_,_=>.stuck
 |.app x e,ρ=>(lift (Dw ρ x) ρ).bind fun _ ρ=>(ev c e ρ).bind fun r ρ=>match ρ[x]?with|some (.own b ds)=>if ds.length<lim then .ok .next (ρ.set x (.own b (ds++[r.d])))else .stuck|_=>.stuck
 |.ret e,ρ=>match isVar e with
   |some i=>match ρ[i]?with|some (.own false ds)=>.ok (.ret (.own ds)) (ρ.set i .aV)|_=>(ev c e ρ).bind fun r ρ=>.ok (.ret r) ρ
   |none=>(ev c e ρ).bind fun r ρ=>.ok (.ret r) ρ
 |.Yj,ρ=>.ok (.ret (.val .non)) ρ|.ifs t a b,ρ=>(gG (ev c t) ρ).bind fun k ρ=>if k then eX c n a ρ else eX c n b ρ|.iZ src is one body,ρ=>(srcOf (isVar src) (ev c src) ρ).bind fun ds ρ₁=>(gj is one (eX c n body) ds ρ₁).bind fun fl ρ₂=>.ok fl (aX ρ (isVar src) ρ₂)|.whl t body,ρ=>qm (gG (ev c t)) (eX c n body) n ρ|.HX x i sub e,ρ=>(lift (Dw ρ x) ρ).bind fun _ ρ=>(bY (isVar i) (ev c i) ρ).bind fun k ρ=>(lift (Dw ρ x) ρ).bind fun l ρ=>(lift ((fV k).bind fun i=>at' l i) ρ).bind fun a ρ=>(bY (isVar e) (ev c e) ρ).bind fun b ρ=>match a,b,ρ[x]?,k with
   |.int u,.int v,some (.own bb ds),.int k=>match ie ds.length k with|some j=>.ok .next (ρ.set x (.own bb (ds.set j (.int (if sub then u-v else u+v)))))|none=>.stuck
   |_,_,_,_=>.stuck
 |.HY x t,ρ=>match ρ[x]?with|some .aV=>.ok .next (ρ.set x (.eY (if t then .t []else .k [])))|_=>.stuck
 |.dput x k e,ρ=>(ev c e ρ).bind fun r ρ=>match ρ[x]?with
   |some (.eY _)=>(bY (isVar k) (ev c k) ρ).bind fun kd ρ=>match ρ[x]?,r with
     |some (.eY m),.val (.int v)=>match m.put kd v with|some m'=>.ok .next (ρ.set x (.eY m'))|none=>.stuck
     |_,_=>.stuck
   |_=>.stuck
 |.Ia x src k is one elt,ρ=>(srcOf (isVar src) (ev c src) ρ).bind fun ds ρ₁=>if ds.length<=lim then(dw is one (ev c elt) ds [] (ρ₁++replicate k .aV)).bind fun rows ρ₂=>(lift (put (aX ρ (isVar src) (ρ₂.take ρ₁.length)) x (.hold rows)) ρ).bind fun ρ' _=>.ok .next ρ' else .stuck|.Ib x i e,ρ=>(bY (isVar i) (ev c i) ρ).bind fun k ρ=>(lift (sS ρ x k) ρ).bind fun _ ρ=>(ev c e ρ).bind fun r ρ=>Cd ρ x ((gY ρ x).bind fun rows=>(fV k).bind fun k=>iM rows k fun row=>if row.length<lim then some (row++[r.d])else none)|.Dp src is one body,ρ=>(ev c src ρ).bind fun r ρ₁=>(lift (items r.d) ρ₁).bind fun ds ρ₁=>gj is one (eX c n body) ds ρ₁|.cN x,ρ=>match ρ[x]?with|some (.hold rows)=>.ok .next (ρ.set x (.val false (.lst (rows.map D.lst))))|_=>.stuck
 |.Dq x,ρ=>match ρ[x]?with|some .aV=>.ok .next (ρ.set x (.cF []))|some (.cF _)=>.ok .next (ρ.set x (.cF []))|some (.val false _)=>.ok .next (ρ.set x (.cF []))|_=>.stuck
 |.fL x k e,ρ=>(ev c e ρ).bind fun r ρ=>match ρ[x]?with
   |some (.cF _)=>(bY (isVar k) (ev c k) ρ).bind fun kd ρ=>match ρ[x]?,kd with|some (.cF kvs),.int k=>if kvs.length<lim then .ok .next (ρ.set x (.cF (fL kvs k r.d)))else .stuck|_,_=>.stuck
   |_=>.stuck
noncomputable def eX(c:Call)(n:Nat):List S->List Sl->Res Fl|[],ρ=>.ok .next ρ|s::r,ρ=>(ex c n s ρ).bind fun fl ρ=>match fl with|.next=>eX c n r ρ|fl=>.ok fl ρ
noncomputable def exX(c:Call)(n:Nat):S->List Sl->Option (Nat×List Sl)
 |.ifs t a b,ρ=>match gG (ev c t) ρ with|.ok x ρ1=>if x then Ei c n a ρ1 else Ei c n b ρ1|_=>none
 |.iZ src is one body,ρ=>match srcOf (isVar src) (ev c src) ρ with|.ok ds ρ1=>(PN is one (eX c n body) (Ei c n body) ds ρ1).map fun x=>(x.1,aX ρ (isVar src) x.2)|_=>none
 |.asg _ e,ρ=>MP c e ρ|.expr e,ρ=>MP c e ρ|_,_=>none
noncomputable def Ei(c:Call)(n:Nat):List S->List Sl->Option (Nat×List Sl)|[],_=>none|s::r,ρ=>match exX c n s ρ with|some x=>some x|none=>match ex c n s ρ with|.ok .next ρ1=>Ei c n r ρ1|_=>none
end
theorem X1{c n ρ}:ex c n (.pass) ρ=.ok .next ρ:=(rfl)
theorem X2{c n ρ}:ex c n (.brk) ρ=.ok .brk ρ:=(rfl)
theorem X3{c n ρ}:ex c n (.cont) ρ=.ok .cont ρ:=(rfl)
theorem X4{c n ρ}:ex c n (.bad) ρ=.stuck:=(rfl)
theorem X5{c n e ρ}:ex c n (.expr e) ρ=(ev c e ρ).bind fun _ ρ=>.ok .next ρ:=(rfl)
theorem X6{c n i e ρ}:ex c n (.asg i e) ρ=(ev c e ρ).bind fun r ρ=>(lift (put ρ i (xx r)) ρ).bind fun ρ' _=>.ok .next ρ':=(rfl)
theorem X7{c n x i e ρ}:ex c n (.yV x i e) ρ=(ev c e ρ).bind fun r ρ=>(lift (pk ρ x) ρ).bind fun _ ρ=>(bY (isVar i) (ev c i) ρ).bind fun k ρ=>match ρ[x]?,k with
 |some (.own b ds),.int k=>match ie ds.length k with|some j=>.ok .next (ρ.set x (.own b (ds.set j r.d)))|none=>.stuck
 |_,_=>.stuck:=(rfl)
theorem X8{c n x e ρ}:ex c n (.app x e) ρ=(lift (Dw ρ x) ρ).bind fun _ ρ=>(ev c e ρ).bind fun r ρ=>match ρ[x]?with|some (.own b ds)=>if ds.length<lim then .ok .next (ρ.set x (.own b (ds++[r.d])))else .stuck|_=>.stuck:=(rfl)
theorem X9{c n e ρ}:ex c n (.ret e) ρ=match isVar e with
 |some i=>match ρ[i]?with|some (.own false ds)=>.ok (.ret (.own ds)) (ρ.set i .aV)|_=>(ev c e ρ).bind fun r ρ=>.ok (.ret r) ρ
 |none=>(ev c e ρ).bind fun r ρ=>.ok (.ret r) ρ:=(rfl)
theorem X10{c n ρ}:ex c n (.Yj) ρ=.ok (.ret (.val .non)) ρ:=(rfl)
theorem ZF{c n t a b ρ}:ex c n (.ifs t a b) ρ=(gG (ev c t) ρ).bind fun k ρ=>if k then eX c n a ρ else eX c n b ρ:=(rfl)
theorem X12{c n src is one body ρ}:ex c n (.iZ src is one body) ρ=(srcOf (isVar src) (ev c src) ρ).bind fun ds ρ₁=>(gj is one (eX c n body) ds ρ₁).bind fun fl ρ₂=>.ok fl (aX ρ (isVar src) ρ₂):=(rfl)
theorem X13{c n t body ρ}:ex c n (.whl t body) ρ=qm (gG (ev c t)) (eX c n body) n ρ:=(rfl)
theorem X14{c n x i sub e ρ}:ex c n (.HX x i sub e) ρ=(lift (Dw ρ x) ρ).bind fun _ ρ=>(bY (isVar i) (ev c i) ρ).bind fun k ρ=>(lift (Dw ρ x) ρ).bind fun l ρ=>(lift ((fV k).bind fun i=>at' l i) ρ).bind fun a ρ=>(bY (isVar e) (ev c e) ρ).bind fun b ρ=>match a,b,ρ[x]?,k with
 |.int u,.int v,some (.own bb ds),.int k=>match ie ds.length k with|some j=>.ok .next (ρ.set x (.own bb (ds.set j (.int (if sub then u-v else u+v)))))|none=>.stuck
 |_,_,_,_=>.stuck:=(rfl)
theorem X15{c n x t ρ}:ex c n (.HY x t) ρ=match ρ[x]?with|some .aV=>.ok .next (ρ.set x (.eY (if t then .t []else .k [])))|_=>.stuck:=(rfl)
theorem X16{c n x k e ρ}:ex c n (.dput x k e) ρ=(ev c e ρ).bind fun r ρ=>match ρ[x]?with
 |some (.eY _)=>(bY (isVar k) (ev c k) ρ).bind fun kd ρ=>match ρ[x]?,r with
   |some (.eY m),.val (.int v)=>match m.put kd v with|some m'=>.ok .next (ρ.set x (.eY m'))|none=>.stuck
   |_,_=>.stuck
 |_=>.stuck:=(rfl)
theorem X17{c n x src k is one elt ρ}:ex c n (.Ia x src k is one elt) ρ=(srcOf (isVar src) (ev c src) ρ).bind fun ds ρ₁=>if ds.length<=lim then(dw is one (ev c elt) ds [] (ρ₁++replicate k .aV)).bind fun rows ρ₂=>(lift (put (aX ρ (isVar src) (ρ₂.take ρ₁.length)) x (.hold rows)) ρ).bind fun ρ' _=>.ok .next ρ' else .stuck:=(rfl)
theorem X18{c n x i e ρ}:ex c n (.Ib x i e) ρ=(bY (isVar i) (ev c i) ρ).bind fun k ρ=>(lift (sS ρ x k) ρ).bind fun _ ρ=>(ev c e ρ).bind fun r ρ=>Cd ρ x ((gY ρ x).bind fun rows=>(fV k).bind fun k=>iM rows k fun row=>if row.length<lim then some (row++[r.d])else none):=(rfl)
theorem X19{c n src is one body ρ}:ex c n (.Dp src is one body) ρ=(ev c src ρ).bind fun r ρ₁=>(lift (items r.d) ρ₁).bind fun ds ρ₁=>gj is one (eX c n body) ds ρ₁:=(rfl)
theorem X20{c n x ρ}:ex c n (.cN x) ρ=match ρ[x]?with|some (.hold rows)=>.ok .next (ρ.set x (.val false (.lst (rows.map D.lst))))|_=>.stuck:=(rfl)
theorem X21{c n x ρ}:ex c n (.Dq x) ρ=match ρ[x]?with|some .aV=>.ok .next (ρ.set x (.cF []))|some (.cF _)=>.ok .next (ρ.set x (.cF []))|some (.val false _)=>.ok .next (ρ.set x (.cF []))|_=>.stuck:=(rfl)
theorem X22{c n x k e ρ}:ex c n (.fL x k e) ρ=(ev c e ρ).bind fun r ρ=>match ρ[x]?with
 |some (.cF _)=>(bY (isVar k) (ev c k) ρ).bind fun kd ρ=>match ρ[x]?,kd with|some (.cF kvs),.int k=>if kvs.length<lim then .ok .next (ρ.set x (.cF (fL kvs k r.d)))else .stuck|_,_=>.stuck
 |_=>.stuck:=(rfl)
structure Fd where
 np:Nat
 nn:Nat
 body:List S deriving Inhabited
noncomputable abbrev Tab:=Nat->Option Fd
noncomputable def enter(c:Call)(n:Nat)(d:Fd)(args:List Sl):Res R:=if args.length=d.np/\d.np<=d.nn then match eX c n d.body (args++replicate (d.nn-d.np) .aV)with|.ok .next ρ=>.ok (.val .non) (ρ.take d.np)|.ok (.ret r) ρ=>.ok r (ρ.take d.np)|_=>match Ei c n d.body (args++replicate (d.nn-d.np) .aV)with|some (k,ρ)=>.exc k (ρ.take d.np)|none=>.stuck else .stuck
noncomputable def run(Γ:Tab)(w:Nat):Nat->Call|0,_,_=>.stuck|n+1,f,args=>match Γ f with|some d=>enter (run Γ w n) w d args|none=>.stuck
end HH
end
section
namespace HH
open PySem L2
noncomputable def Dc.ho:Dc->HO|.k kvs=>.dK (kvs.map fun p=>(Sum.inl p.1,V.int p.2))|.t kvs=>.dT (kvs.map fun p=>(p.1.map Sum.inl,V.int p.2))
noncomputable def Ab(ks:List Int)(vs:List V):HO:=.dK ((ks.zip vs).map fun p=>(Sum.inl p.1,p.2))
section
variable(K:PySem.W.Frag)
mutual
def Rep(F:Hp):V->D->Prop|v,.non=>v=.non|v,.bl b=>v=.bl b|v,.int i=>v=.int i|v,.str x=>v=.str x|v,.tup ds=>∃a xs,v=.ref a/\jy K F a xs/\aC F xs ds|v,.lst ds=>∃a xs,v=.ref a/\dG K F a xs/\aC F xs ds|v,.cM m=>∃a o,v=.ref a/\F a=some (.cN o m.ho)|v,.dv ks ds=>∃a o vs,v=.ref a/\F a=some (.cN o (Ab ks vs))/\aC F vs ds/\ks.length=ds.length
def aC(F:Hp):List V->List D->Prop|vs,[]=>vs=[]|vs,d::ds=>∃v r,vs=v::r/\Rep F v d/\aC F r ds
end
end
section
variable{K:PySem.W.Frag}{F F' H H':Hp}
theorem aH.gH{a:Addr}{xs:List V}(e:aH H H')(h:jy K H a xs):jy K H' a xs:=by
 rcases h with(h|⟨o,h⟩)|h;.exact .inl (.inl (e _ _ h))
 .exact .inl (.inr ⟨o,e _ _ h⟩)
 .exact .inr h
mutual
theorem Rep.mono(e:aH F F'):∀{d:D}{v:V},Rep K F v d->Rep K F' v d|.non,_,h=>by rw[Rep]at h ⊢;exact h|.bl _,_,h=>by rw[Rep]at h ⊢;exact h|.int _,_,h=>by rw[Rep]at h ⊢;exact h|.str _,_,h=>by rw[Rep]at h ⊢;exact h|.tup ds,_,h=>by rw[Rep]at h ⊢;obtain⟨a,xs,rfl,hs,r⟩:=h;exact⟨a,xs,rfl,aH.gH e hs,aC.mono e r⟩|.lst ds,_,h=>by rw[Rep]at h ⊢;obtain⟨a,xs,rfl,hs,r⟩:=h;exact⟨a,xs,rfl,e.seq hs,aC.mono e r⟩|.cM m,_,h=>by rw[Rep]at h ⊢;obtain⟨a,o,rfl,hs⟩:=h;exact⟨a,o,rfl,e _ _ hs⟩|.dv ks ds,_,h=>by rw[Rep]at h ⊢;obtain⟨a,o,vs,rfl,hs,r,hl⟩:=h;exact⟨a,o,vs,rfl,e _ _ hs,aC.mono e r,hl⟩theorem aC.mono(e:aH F F'):∀{ds:List D}{vs:List V},aC K F vs ds->aC K F' vs ds|[],_,h=>by rw[aC]at h ⊢;exact h|d::ds,_,h=>by rw[aC]at h ⊢;obtain⟨v,r,rfl,h1,h2⟩:=h;exact⟨v,r,rfl,Rep.mono e h1,aC.mono e h2⟩end
theorem aC.nil:aC K F [] []:=by rw[aC]
theorem aC.cons{v:V}{d:D}{vs:List V}{ds:List D}(h:Rep K F v d)(t:aC K F vs ds):aC K F (v::vs) (d::ds):=by rw[aC];exact⟨v,vs,rfl,h,t⟩
theorem aC.bV{vs:List V}{d:D}{ds:List D}(h:aC K F vs (d::ds)):∃v r,vs=v::r/\Rep K F v d/\aC K F r ds:=by rw[aC]at h;exact h
theorem aC.dF{vs:List V}(h:aC K F vs []):vs=[]:=by rw[aC]at h;exact h
theorem aC.length:∀{ds:List D}{vs:List V},aC K F vs ds->vs.length=ds.length|[],_,h=>by rw[h.dF];rfl|d::ds,_,h=>by obtain⟨v,r,rfl,_,t⟩:=h.bV;simp[aC.length t]
theorem aC.get:∀{ds:List D}{vs:List V}{i:Nat}{d:D},aC K F vs ds->ds[i]?=some d->∃v,vs[i]?=some v/\Rep K F v d|[],_,_,_,h,e=>by simp at e|d::ds,_,0,_,h,e=>by obtain⟨v,r,rfl,h1,t⟩:=h.bV;simp at e;subst e;exact⟨v,rfl,h1⟩|d::ds,_,i+1,_,h,e=>by obtain⟨v,r,rfl,_,t⟩:=h.bV;simp at e;obtain⟨w,e1,e2⟩:=t.get e;exact⟨w,by simpa using e1,e2⟩
theorem aC.append:∀{ds es:List D}{vs us:List V},aC K F vs ds->aC K F us es->aC K F (vs++us) (ds++es)|[],_,_,_,h,h'=>by rw[h.dF];exact h'|d::ds,_,_,_,h,h'=>by obtain⟨v,r,rfl,h1,t⟩:=h.bV;exact .cons h1 (t.append h')
theorem aC.set{v:V}{d:D}(hr:Rep K F v d):∀{ds:List D}{vs:List V}(i:Nat),aC K F vs ds->aC K F (vs.set i v) (ds.set i d)|[],_,_,h=>by rw[h.dF];exact .nil|_::_,_,0,h=>by obtain⟨w,r,rfl,h1,t⟩:=h.bV;exact .cons hr t|_::_,_,i+1,h=>by obtain⟨w,r,rfl,h1,t⟩:=h.bV;exact .cons h1 (aC.set hr i t)
theorem aC.take:∀{ds:List D}{vs:List V}(n:Nat),aC K F vs ds->aC K F (vs.take n) (ds.take n)|[],_,n,h=>by rw[h.dF];simpa using aC.nil|_::_,_,0,h=>.nil|_::_,_,n+1,h=>by obtain⟨w,r,rfl,h1,t⟩:=h.bV;exact .cons h1 (t.take n)
theorem aC.drop:∀{ds:List D}{vs:List V}(n:Nat),aC K F vs ds->aC K F (vs.drop n) (ds.drop n)|[],_,n,h=>by rw[h.dF];simpa using aC.nil|_::_,_,0,h=>h|_::_,_,n+1,h=>by obtain⟨w,r,rfl,h1,t⟩:=h.bV;exact t.drop n
theorem aC.rep{ds:List D}{vs:List V}(h:aC K F vs ds):∀n,aC K F (replicate n vs).flatten (replicate n ds).flatten|0=>by simpa using aC.nil|n+1=>by simpa[replicate_succ]using h.append (aC.rep h n)
inductive Oc where|l(ds:List D)|d(m:Dc)|v(kvs:List (Int×D))
noncomputable def lst?:Sl->Option Oc|.own _ ds=>some (.l ds)|.lent ds=>some (.l ds)|.eY m=>some (.d m)|.cF kvs=>some (.v kvs)|_=>none
def jA(K:PySem.W.Frag)(F:Hp)(o:HO):Oc->Prop|.l ds=>∃xs,o=.lst xs/\aC K F xs ds|.d m=>o=m.ho|.v kvs=>∃vs,o=Ab (kvs.map (·.1)) vs/\aC K F vs (kvs.map (·.2))
theorem jA.mono{o:HO}{x:Oc}(e:aH F F')(h:jA K F o x):jA K F' o x:=by cases x with|l ds=>obtain⟨xs,e1,h⟩:=h;exact⟨xs,e1,h.mono e⟩|d m=>exact h|v kvs=>obtain⟨xs,e1,h⟩:=h;exact⟨xs,e1,h.mono e⟩
def aM(ρ:List Sl)(σ:St)(i:Nat)(a:Addr):Prop:=(∃s ds,ρ[i]?=some s/\lst? s=some ds)/\σ[i]?=some (some (V.ref a))
def Own(ρ:List Sl)(σ:St)(a:Addr):Prop:=∃i,aM ρ σ i a
structure GS(K:PySem.W.Frag)(F:Hp)(ρ:List Sl)(σ:St)(H:Hp):Prop where
 sub:aH F H
 len:ρ.length=σ.length
 val:∀(i:Nat)(b:Bool)(d:D),ρ[i]?=some (Sl.val b d)->∃v:V,σ[i]?=some (some v)/\Rep K F v d
 own:∀(i:Nat)(s:Sl)(ds:Oc),ρ[i]?=some s->lst? s=some ds->∃(a:Addr)(xs:HO),σ[i]?=some (some (V.ref a))/\H a=some xs/\F a=none/\jA K F xs ds
 dis:∀(i j:Nat)(a:Addr),aM ρ σ i a->aM ρ σ j a->i=j
theorem GS.qp{ρ:List Sl}{σ:St}(g:GS K F ρ σ H)(i:Nat)(s:Sl)(ds:List D)(e:ρ[i]?=some s)(e':lst? s=some (.l ds)):∃(a:Addr)(xs:List V),σ[i]?=some (some (V.ref a))/\H a=some (.lst xs)/\F a=none/\aC K F xs ds:=by obtain⟨a,o,h1,h2,h3,xs,rfl,h4⟩:=g.own i s (.l ds) e e';exact⟨a,xs,h1,h2,h3,h4⟩
noncomputable def ud:Sl->Bool|.val b _=>b|.own b _=>b|.lent _=>true|.aV=>false|.eY _=>false|.cF _=>false|.hold _=>true
def kZ:Sl->Sl->Prop|.val true d,s=>s=.val true d|.own true _,s=>(∃ds,s=.own true ds)\/∃d,s=.val true d|.lent ds,s=>s=.lent ds|.hold ds,s=>s=.hold ds|_,_=>True
theorem kZ.refl(s:Sl):kZ s s:=by unfold kZ;split<;>first|rfl|exact .inl ⟨_,rfl⟩|trivial
theorem kZ.ud{s s':Sl}(h:kZ s s')(l:ud s=true):HH.ud s'=true:=by cases s with
 |aV=>cases l|eY _=>cases l|cF _=>cases l|val b d=>cases b with|true=>cases h;rfl|false=>cases l
 |own b d=>cases b with|true=>rcases h with⟨_,rfl⟩|⟨_,rfl⟩<;>rfl|false=>cases l
 |lent d=>cases h;rfl|hold d=>cases h;rfl
theorem kZ.trans{s s' s'':Sl}(l:HH.ud s=true)(h:kZ s s')(h':kZ s' s''):kZ s s'':=by cases s with
 |aV=>cases l|eY _=>cases l|cF _=>cases l|val b d=>cases b with|true=>cases h;exact h'|false=>cases l
 |own b d=>cases b with
   | true => rcases h with⟨_,rfl⟩|⟨d,rfl⟩;.exact h'
             .exact .inr ⟨d,h'⟩|false=>cases l
 |lent d=>cases h;exact h'|hold d=>cases h;exact h'
noncomputable def nt:Option HO->Option HO|some (.tup _)=>none|o=>o
theorem ju{o:Option HO}(h:o=none):nt o=none:=by rw[h];rfl
theorem Fy{H:Hp}{b:Addr}{xs:List V}(h:H b=some (.lst xs))(z:nt (H b)=none):False:=by rw[h]at z;cases z
theorem DK{o:HO}{x:Oc}(h:jA K F o x)(z:nt (some o)=none):False:=by cases x with|l ds=>obtain⟨xs,rfl,_⟩:=h;cases z|d m=>cases m<;>(cases(show o=_ from h);cases z)|v kvs=>obtain⟨xs,rfl,_⟩:=h;cases z
structure aq(K:PySem.W.Frag)(F:Hp)(ρ:List Sl)(σ:St)(H:Hp)(F':Hp)(ρ':List Sl)(σ':St)(H':Hp):Prop where
 gs:GS K F' ρ' σ' H'
 cG:aH F F'
 wX:∀b,F b=none->F' b≠none->Own ρ σ b\/nt (H b)=none
 keep:∀b o,H b=some o->¬ Own ρ σ b->H' b=some o
 uK:∀b,Own ρ' σ' b->Own ρ σ b\/H b=none
 len:ρ'.length=ρ.length
 lk:∀(i:Nat)(s:Sl),ρ[i]?=some s->ud s=true->σ'[i]?=σ[i]?/\∃s',ρ'[i]?=some s'/\kZ s s'
theorem aq.refl{ρ:List Sl}{σ:St}(g:GS K F ρ σ H):aq K F ρ σ H F ρ σ H:=⟨g,aH.refl _,fun b h h'=>absurd h h',fun _ _ h _=>h,fun _ h=>.inl h,rfl,fun i s h _=>⟨rfl,s,h,.refl s⟩⟩
theorem aq.trans{F1 F2 H1 H2:Hp}{ρ ρ1 ρ2:List Sl}{σ σ1 σ2:St}(a:aq K F ρ σ H F1 ρ1 σ1 H1)(b:aq K F1 ρ1 σ1 H1 F2 ρ2 σ2 H2):aq K F ρ σ H F2 ρ2 σ2 H2:=by
 have back:∀c,Own ρ1 σ1 c\/H1 c=none->Own ρ σ c\/H c=none:=fun c h=>by
  rcases h with h|h;.exact a.uK c h
  . by_cases ho:Own ρ σ c;.exact .inl ho
    .right;cases e:H c with|none=>rfl|some o=>rw[a.keep c o e ho]at h;cases h
 refine⟨b.gs,a.cG.trans b.cG,fun c h h'=>?_,fun c o h n=>?_,fun c h=>back c (b.uK c h),b.len.trans a.len,fun i s h l=>?_⟩
 . by_cases e:F1 c=none
   . by_cases ho:Own ρ σ c;.exact .inl ho
     . rcases b.wX c e h' with z|z;.exact(back c (.inl z)).imp id ju
       .right;cases q:H c with|none=>rfl|some o=>rw[a.keep c o q ho]at z;exact z
   .exact a.wX c h e
 . refine b.keep c o (a.keep c o h n) fun h'=>?_;rcases a.uK c h' with h'|h';.exact n h'
   .rw[h]at h';cases h'
 .obtain⟨e1,s1,h1,k1⟩:=a.lk i s h l;obtain⟨e2,s2,h2,k2⟩:=b.lk i s1 h1 (k1.ud l);exact⟨e2.trans e1,s2,h2,.trans l k1 k2⟩
def cC(K:PySem.W.Frag)(F H:Hp)(v:V)(d:D):Prop:=Rep K F v d\/∃a xs ds,v=.ref a/\H a=some (.lst xs)/\aC K F xs ds/\d=.lst ds
def cj(K:PySem.W.Frag)(F':Hp)(ρ':List Sl)(σ':St)(H':Hp)(ρ:List Sl)(σ:St)(H:Hp)(v:V):R->Prop|.val d=>Rep K F' v d|.own ds=>∃a xs,v=.ref a/\H' a=some (.lst xs)/\F' a=none/\aC K F' xs ds/\¬ Own ρ' σ' a/\(Own ρ σ a\/H a=none)
theorem aH.bU{F:Hp}{a:Addr}{o:HO}(h:F a=none):aH F (upd F a o):=fun b u e=>by
 have:b≠a:=by rintro rfl;rw[h]at e;cases e
 rw[aA this];exact e
theorem aq.cN{ρ ρ':List Sl}{σ σ':St}{v:V}{r:R}(s:aq K F ρ σ H F' ρ' σ' H')(h:cj K F' ρ' σ' H' ρ σ H v r):∃F'',aq K F ρ σ H F'' ρ' σ' H'/\aH F' F''/\Rep K F'' v r.d:=by cases r with|val d=>exact⟨F',s,.refl _,h⟩|own ds=>
   obtain⟨a,xs,rfl,h1,h2,h3,h4,h5⟩:=h;have sm:aH F' (upd F' a (.lst xs)):=aH.bU h2;refine⟨upd F' a (.lst xs),⟨⟨fun b o e=>?_,s.gs.len,fun i b d e=>?_,fun i sl ds' e e'=>?_,s.gs.dis⟩,s.cG.trans sm,fun b n n'=>?_,s.keep,s.uK,s.len,s.lk⟩,sm,?_⟩
   . by_cases hb:b=a;.subst hb;rw[aJ]at e;cases e;exact h1
     .rw[aA hb]at e;exact s.gs.sub b o e
   .obtain⟨v,e1,e2⟩:=s.gs.val i b d e;exact⟨v,e1,e2.mono sm⟩
   . obtain⟨b,ys,e1,e2,e3,e4⟩:=s.gs.own i sl ds' e e';have hb:b≠a:=by rintro rfl;exact h4 ⟨i,⟨sl,ds',e,e'⟩,e1⟩
     exact⟨b,ys,e1,e2,by rw[aA hb];exact e3,e4.mono sm⟩
   . by_cases hb:b=a;.subst hb;exact h5.imp id ju
     .rw[aA hb]at n';exact s.wX b n n'
   .show Rep K _ _ (.lst ds);rw[Rep];exact⟨a,xs,rfl,dG.of aJ,h3.mono sm⟩
theorem GS.pk{ρ:List Sl}{σ:St}{i:Nat}{d:D}(g:GS K F ρ σ H)(e:HH.pk ρ i=some d):∃v:V,σ[i]?=some (some v)/\cC K F H v d:=by
 unfold HH.pk at e;split at e;.rename_i b d' h;cases e;obtain⟨v,h1,h2⟩:=g.val i b d h;exact⟨v,h1,.inl h2⟩
 .rename_i b ds h;cases e;obtain⟨a,xs,h1,h2,h3,h4⟩:=g.qp i _ ds h rfl;exact⟨.ref a,h1,.inr ⟨a,xs,ds,rfl,h2,h4,rfl⟩⟩
 .rename_i ds h;cases e;obtain⟨a,xs,h1,h2,h3,h4⟩:=g.qp i _ ds h rfl;exact⟨.ref a,h1,.inr ⟨a,xs,ds,rfl,h2,h4,rfl⟩⟩
 .cases e
structure Ext(F H F' H':Hp):Prop where
 hs:aH H H'
 fs:aH F F'
 sub:aH F' H'
 gr:∀b,F b=none->F' b≠none->nt (H b)=none
theorem Ext.refl(h:aH F H):Ext F H F H:=⟨.refl _,.refl _,h,fun _ a b=>absurd a b⟩
theorem Ext.stp{ρ:List Sl}{σ:St}(g:GS K F ρ σ H)(e:Ext F H F' H'):aq K F ρ σ H F' ρ σ H':=by
 refine⟨⟨e.sub,g.len,fun i b d h=>?_,fun i s ds h h'=>?_,g.dis⟩,e.fs,fun b n n'=>.inr (e.gr b n n'),fun b o h _=>e.hs b o h,fun _ h=>.inl h,rfl,fun i s h _=>⟨rfl,s,h,.refl s⟩⟩;.obtain⟨v,h1,h2⟩:=g.val i b d h;exact⟨v,h1,h2.mono e.fs⟩
 .obtain⟨a,xs,h1,h2,h3,h4⟩:=g.own i s ds h h';refine⟨a,xs,h1,e.hs _ _ h2,?_,h4.mono e.fs⟩;cases q:F' a with|none=>rfl|some o=>have:=e.gr a h3 (by rw[q];simp);rw[h2]at this;exact(DK h4 this).elim
def bB(K:PySem.W.Frag)(F' H' H:Hp)(v:V):R->Prop|.val d=>Rep K F' v d|.own ds=>∃a xs,v=.ref a/\H' a=some (.lst xs)/\F' a=none/\aC K F' xs ds/\H a=none
theorem bB.nG{ρ:List Sl}{σ:St}{v:V}{r:R}(g:GS K F ρ σ H)(h:bB K F' H' H v r):cj K F' ρ σ H' ρ σ H v r:=by cases r with|val d=>exact h|own ds=>obtain⟨a,xs,rfl,h1,h2,h3,h4⟩:=h;refine⟨a,xs,rfl,h1,h2,h3,?_,.inr h4⟩;rintro⟨i,⟨s,ds',e,e'⟩,e2⟩;obtain⟨b,ys,q1,q2,_⟩:=g.own i s ds' e e';rw[e2]at q1;cases q1;rw[h4]at q2;cases q2
theorem cj.later{F1 H1 F2 H2:Hp}{ρ ρ1 ρ2:List Sl}{σ σ1 σ2:St}{v:V}{r:R}(a:aq K F ρ σ H F1 ρ1 σ1 H1)(h:cj K F2 ρ2 σ2 H2 ρ1 σ1 H1 v r):cj K F2 ρ2 σ2 H2 ρ σ H v r:=by cases r with|val d=>exact h|own ds=>
   obtain⟨b,xs,rfl,h1,h2,h3,h4,h5⟩:=h;refine⟨b,xs,rfl,h1,h2,h3,h4,?_⟩;rcases h5 with h5|h5;.exact a.uK b h5
   . by_cases ho:Own ρ σ b;.exact .inl ho
     .right;cases e:H b with|none=>rfl|some o=>rw[a.keep b o e ho]at h5;cases h5
end
end HH
end
section
namespace HH
open PySem L2 PySem.Spec PyProof.Rows
theorem aa{α β:Type}{x:Res α}{f:α->List Sl->Res β}{b:β}{ρ':List Sl}(h:x.bind f=.ok b ρ'):∃a ρ,x=.ok a ρ/\f a ρ=.ok b ρ':=by cases x with|ok a ρ=>exact⟨a,ρ,rfl,h⟩|exc _ _=>cases h|stuck=>cases h
theorem aF{α:Type}{o:Option α}{ρ ρ':List Sl}{a:α}(h:lift o ρ=.ok a ρ'):o=some a/\ρ=ρ':=by cases o with|none=>cases h|some b=>cases h;exact⟨rfl,rfl⟩
theorem map_some{α β:Type}{o:Option α}{f:α->β}{b:β}(h:o.map f=some b):∃a,o=some a/\f a=b:=by cases o with|none=>cases h|some a=>cases h;exact⟨a,rfl,rfl⟩
theorem bI{α β:Type}{o:Option α}{f:α->Option β}{b:β}(h:o.bind f=some b):∃a,o=some a/\f a=some b:=by cases o with|none=>cases h|some a=>exact⟨a,rfl,h⟩
theorem aP{α:Type}{c:Prop}[Decidable c]{a b:α}(h:(if c then some a else none)=some b):c/\a=b:=by
 split at h;.rename_i hc;cases h;exact⟨hc,rfl⟩
 .cases h
section
variable{X:Cx}{c:Call}{e a b:Expr}{p pa pb:P}{pos:Pos}
theorem cY{t t':TE}(h:PE X e t)(i:∀σ H Q,t' σ H Q->t σ H Q):PE X e t':=fun pins s σ H Q I q=>h pins s σ H Q I (i σ H Q q)
theorem rJ{t t':TT}(h:PT X e t)(i:∀σ H Q,t' σ H Q->t σ H Q):PT X e t':=fun pins s σ H Q I q=>h pins s σ H Q I (i σ H Q q)
theorem Nb{t t':TT}(h:PW X e t)(i:∀σ H Q,t' σ H Q->t σ H Q):PW X e t':=fun wh pins s σ H Q I q=>h wh pins s σ H Q I (i σ H Q q)
theorem vO{es:List Expr}{t t':TA}(h:PA X es t)(i:∀σ H Q,t' σ H Q->t σ H Q):PA X es t':=fun pos pins s σ H Q I q=>h pos pins s σ H Q I (i σ H Q q)
inductive xq(K:PySem.W.Frag)(f:Ev)(σ:L2.St)(H:Hp)(Q:VK):Prop where|mk(F:Hp)(ρ:List Sl)(r:R)(ρ':List Sl)(g:GS K F ρ σ H)(e:f ρ=.ok r ρ')(k:∀v F' H',aq K F ρ σ H F' ρ' σ H'->cj K F' ρ' σ H' ρ σ H v r->Q v H')
inductive Iu(K:PySem.W.Frag)(f:List Sl->Res Bool)(σ:L2.St)(H:Hp)(Q:Bool->Hp->Prop):Prop where|mk(F:Hp)(ρ:List Sl)(b:Bool)(ρ':List Sl)(g:GS K F ρ σ H)(e:f ρ=.ok b ρ')(k:∀F' H',aq K F ρ σ H F' ρ' σ H'->Q b H')
inductive abq(K:PySem.W.Frag)(f:List Sl->Res (List D))(σ:L2.St)(H:Hp)(Q:List V->Hp->Prop):Prop where|mk(F:Hp)(ρ:List Sl)(ds:List D)(ρ':List Sl)(g:GS K F ρ σ H)(e:f ρ=.ok ds ρ')(k:∀vs F' H',aq K F ρ σ H F' ρ' σ H'->aC K F' vs ds->Q vs H')
structure SX(X:Cx)(c:Call)(e:Expr)(p:P):Prop where ev:PE X e (xq X.K (HH.ev c p))var:∀i,isVar p=some i->PE X e (O7 i)
def SA(X:Cx)(c:Call)(es:List Expr)(ps:List P):Prop:=PA X es (abq X.K (evs c ps))/\ps.length=es.length
theorem SX.bY(h:SX X c e p):∃t,PE X e t/\∀{σ:L2.St}{H F:Hp}{ρ ρ':List Sl}{d:D}{Q:VK},GS X.K F ρ σ H->bY (isVar p) (HH.ev c p) ρ=.ok d ρ'->(∀v F' H',aq X.K F ρ σ H F' ρ' σ H'->cC X.K F' H' v d->Q v H')->t σ H Q:=by cases hv:isVar p with|none=>refine⟨_,h.ev,fun{σ H F ρ ρ' d Q}g e k=>?_⟩;obtain⟨r,ρ1,e1,e2⟩:=aa e;cases e2;refine⟨F,ρ,r,_,g,e1,fun v F' H' s rr=>?_⟩;obtain⟨F'',s',_,rp⟩:=s.cN rr;exact k v F'' H' s' (.inl rp)|some i=>refine⟨_,h.var i hv,fun{σ H F ρ ρ' d Q}g e k=>?_⟩;obtain⟨e1,e2⟩:=aF e;subst e2;obtain⟨v,h1,h2⟩:=g.pk e1;exact⟨v,h1,k v F H (.refl g) h2⟩
theorem SX.gb(ha:SX X c a pa)(hb:SX X c b pb):∃ta tb,PE X a ta/\PE X b tb/\∀{σ:L2.St}{H F:Hp}{ρ ρ':List Sl}{xy:D×D}{R:V->V->Hp->Prop},GS X.K F ρ σ H->gb (isVar pa) (HH.ev c pa) (isVar pb) (HH.ev c pb) ρ=.ok xy ρ'->(∀v u F' H',aq X.K F ρ σ H F' ρ' σ H'->cC X.K F' H' v xy.1->cC X.K F' H' u xy.2->R v u H')->ta σ H fun x H1=>tb σ H1 fun y H2=>R x y H2:=by obtain⟨tb,hb1,hb2⟩:=hb.bY;cases hv:isVar pa with|none=>refine⟨_,tb,ha.ev,hb1,fun{σ H F ρ ρ' xy R}g e k=>?_⟩;obtain⟨x,ρ1,e1,e⟩:=aa e;obtain⟨y,ρ2,e2,e⟩:=aa e;cases e;obtain⟨r,ρ1',e1,e0⟩:=aa e1;cases e0;refine⟨F,ρ,r,_,g,e1,fun v F' H' s rr=>?_⟩;obtain⟨F1,s1,_,rp⟩:=s.cN rr;refine hb2 s1.gs e2 fun u F2 H2 s2 pu=>?_;exact k v u F2 H2 (s1.trans s2) (.inl (rp.mono s2.cG)) pu|some i=>refine⟨_,tb,ha.var i hv,hb1,fun{σ H F ρ ρ' xy R}g e k=>?_⟩;obtain⟨x0,ρ0,e0,e⟩:=aa e;obtain⟨e00,Ie⟩:=aF e0;subst Ie;obtain⟨y,ρ1,e1,e⟩:=aa e;obtain⟨x,ρ2,e2,e⟩:=aa e;cases e;have zz:=aF e2;clear e2;obtain⟨e2,e3⟩:=zz;subst e3;obtain⟨v,h1,_⟩:=g.pk e00;refine⟨v,h1,hb2 g e1 fun u F1 H1 s1 pu=>?_⟩;obtain⟨v',h1',pv⟩:=s1.gs.pk e2;rw[h1]at h1';cases h1';exact k v u F1 H1 s1 pv pu
inductive rD(K:PySem.W.Frag)(f:D->D->Option R)(x y:V)(H:Hp)(Q:VK):Prop where|mk(F:Hp)(d e:D)(r:R)(sm:aH F H)(px:cC K F H x d)(py:cC K F H y e)(he:f d e=some r)(k:∀v F' H',Ext F H F' H'->bB K F' H' H v r->Q v H')
inductive rD1(K:PySem.W.Frag)(f:D->Option R)(x:V)(H:Hp)(Q:VK):Prop where|mk(F:Hp)(d:D)(r:R)(sm:aH F H)(px:cC K F H x d)(he:f d=some r)(k:∀v F' H',Ext F H F' H'->bB K F' H' H v r->Q v H')
theorem uD{E:Expr}{f:D->D->Option R}{q:P}(hp:∀{ta tb},PE X a ta->PE X b tb->PE X E (Pu (rD X.K f) ta tb))(ha:SX X c a pa)(hb:SX X c b pb)(hq:∀ρ,HH.ev c q ρ=(HH.gb (isVar pa) (HH.ev c pa) (isVar pb) (HH.ev c pb) ρ).bind fun xy ρ=>lift (f xy.1 xy.2) ρ)(hv:isVar q=none):SX X c E q:=by obtain⟨ta,tb,h1,h2,h3⟩:=ha.gb hb;refine⟨cY (hp h1 h2) ?_,fun i h=>by rw[hv]at h;cases h⟩;rintro σ H Q⟨F,ρ,r,ρ',g,e,k⟩;rw[hq]at e;obtain⟨xy,ρ1,e1,e2⟩:=aa e;have zz:=aF e2;clear e2;obtain⟨e2,e3⟩:=zz;subst e3;refine h3 g e1 fun v u F' H' s pv pu=>⟨F',xy.1,xy.2,r,s.gs.sub,pv,pu,e2,fun w F2 H2 x rn=>?_⟩;exact k w F2 H2 (s.trans (x.stp s.gs)) (.later s (rn.nG s.gs))
theorem Sd{E:Expr}{f:D->Option R}{q:P}(hp:∀{ta},PE X a ta->PE X E (tUn (rD1 X.K f) ta))(ha:SX X c a pa)(hq:∀ρ,HH.ev c q ρ=(HH.bY (isVar pa) (HH.ev c pa) ρ).bind fun x ρ=>lift (f x) ρ)(hv:isVar q=none):SX X c E q:=by obtain⟨ta,h1,h3⟩:=ha.bY;refine⟨cY (hp h1) ?_,fun i h=>by rw[hv]at h;cases h⟩;rintro σ H Q⟨F,ρ,r,ρ',g,e,k⟩;rw[hq]at e;obtain⟨x,ρ1,e1,e2⟩:=aa e;have zz:=aF e2;clear e2;obtain⟨e2,e3⟩:=zz;subst e3;refine h3 g e1 fun v F' H' s pv=>⟨F',x,r,s.gs.sub,pv,e2,fun w F2 H2 x rn=>?_⟩;exact k w F2 H2 (s.trans (x.stp s.gs)) (.later s (rn.nG s.gs))
theorem GS.freeze{K:PySem.W.Frag}{F H:Hp}{ρ:List Sl}{σ:L2.St}{i:Nat}{b:Bool}{ds:List D}(g:GS K F ρ σ H)(e:ρ[i]?=some (.own b ds)):∃v F',σ[i]?=some (some v)/\aq K F ρ σ H F' (ρ.set i (.val b (.lst ds))) σ H/\Rep K F' v (.lst ds):=by
 obtain⟨a,xs,h1,h2,h3,h4⟩:=g.qp i _ ds e rfl;have hi:i<ρ.length:=(List.getElem?_eq_some_iff.mp e).1;have sm:aH F (upd F a (.lst xs)):=aH.bU h3;have rp:Rep K (upd F a (.lst xs)) (.ref a) (.lst ds):=by rw[Rep];exact⟨a,xs,rfl,dG.of aJ,h4.mono sm⟩
 have oa:Own ρ σ a:=⟨i,⟨_,_,e,rfl⟩,h1⟩;have old:∀j x,aM (ρ.set i (.val b (.lst ds))) σ j x->aM ρ σ j x/\j≠i:=fun j x⟨⟨s,ds',q1,q2⟩,q3⟩=>by
  by_cases hj:j=i;.subst hj;rw[getElem?_set_self hi]at q1;cases q1;cases q2
  .rw[getElem?_set_ne (Ne.symm hj)]at q1;exact⟨⟨⟨s,ds',q1,q2⟩,q3⟩,hj⟩
 refine⟨.ref a,upd F a (.lst xs),h1,⟨⟨fun x o q=>?_,by simpa using g.len,fun j b' d q=>?_,fun j s ds' q q'=>?_,fun j k x q q'=>g.dis j k x (old j x q).1 (old k x q').1⟩,sm,fun x n n'=>?_,fun _ _ q _=>q,fun x⟨j,q⟩=>.inl ⟨j,(old j x q).1⟩,by simp,fun j s q l=>⟨rfl,?_⟩⟩,rp⟩
 . by_cases hx:x=a;.subst hx;rw[aJ]at q;cases q;exact h2
   .rw[aA hx]at q;exact g.sub x o q
 . by_cases hj:j=i;.subst hj;rw[getElem?_set_self hi]at q;cases q;exact⟨_,h1,rp⟩
   .rw[getElem?_set_ne (Ne.symm hj)]at q;obtain⟨v,q1,q2⟩:=g.val j b' d q;exact⟨v,q1,q2.mono sm⟩
 . by_cases hj:j=i;.subst hj;rw[getElem?_set_self hi]at q;cases q;cases q'
   . rw[getElem?_set_ne (Ne.symm hj)]at q;obtain⟨x,ys,q1,q2,q3,q4⟩:=g.own j s ds' q q';have hx:x≠a:=by rintro rfl;exact hj (g.dis j i x ⟨⟨s,ds',q,q'⟩,q1⟩ ⟨⟨_,_,e,rfl⟩,h1⟩)
     exact⟨x,ys,q1,q2,by rw[aA hx];exact q3,q4.mono sm⟩
 . by_cases hx:x=a;.subst hx;exact .inl oa
   .rw[aA hx]at n';exact absurd n n'
 . by_cases hj:j=i;.subst hj;rw[e]at q;cases q;refine⟨_,getElem?_set_self hi,?_⟩;cases b with|true=>exact .inr ⟨_,rfl⟩|false=>cases l
   .exact⟨s,by rw[getElem?_set_ne (Ne.symm hj)];exact q,.refl s⟩
theorem GS.zT{K:PySem.W.Frag}{F H:Hp}{ρ:List Sl}{σ:L2.St}{i:Nat}{m:Dc}(g:GS K F ρ σ H)(e:ρ[i]?=some (.eY m)):∃a,σ[i]?=some (some (.ref a))/\H a=some m.ho/\∀ob,aq K F ρ σ H (upd F a (.cN ob m.ho)) (ρ.set i (.val false (.cM m))) σ (upd H a (.cN ob m.ho))/\Rep K (upd F a (.cN ob m.ho)) (.ref a) (.cM m):=by
 obtain⟨a,o0,h1,h2,h3,h4⟩:=g.own i _ _ e rfl;cases(show o0=m.ho from h4);have hi:i<ρ.length:=(List.getElem?_eq_some_iff.mp e).1;refine⟨a,h1,h2,fun ob=>?_⟩;have sm:aH F (upd F a (.cN ob m.ho)):=aH.bU h3;have rp:Rep K (upd F a (.cN ob m.ho)) (.ref a) (.cM m):=by rw[Rep];exact⟨a,ob,rfl,aJ⟩
 have oa:Own ρ σ a:=⟨i,⟨_,_,e,rfl⟩,h1⟩;have old:∀j x,aM (ρ.set i (.val false (.cM m))) σ j x->aM ρ σ j x/\j≠i:=fun j x⟨⟨s,ds',q1,q2⟩,q3⟩=>by
  by_cases hj:j=i;.subst hj;rw[getElem?_set_self hi]at q1;cases q1;cases q2
  .rw[getElem?_set_ne (Ne.symm hj)]at q1;exact⟨⟨⟨s,ds',q1,q2⟩,q3⟩,hj⟩
 refine⟨⟨⟨fun x o q=>?_,by simpa using g.len,fun j b' d q=>?_,fun j s ds' q q'=>?_,fun j k x q q'=>g.dis j k x (old j x q).1 (old k x q').1⟩,sm,fun x n n'=>?_,fun x o q n=>?_,fun x⟨j,q⟩=>.inl ⟨j,(old j x q).1⟩,by simp,fun j s q l=>⟨rfl,?_⟩⟩,rp⟩
 . by_cases hx:x=a;.subst hx;rw[aJ]at q ⊢;exact q
   .rw[aA hx]at q ⊢;exact g.sub x o q
 . by_cases hj:j=i;.subst hj;rw[getElem?_set_self hi]at q;cases q;exact⟨_,h1,rp⟩
   .rw[getElem?_set_ne (Ne.symm hj)]at q;obtain⟨v,q1,q2⟩:=g.val j b' d q;exact⟨v,q1,q2.mono sm⟩
 . by_cases hj:j=i;.subst hj;rw[getElem?_set_self hi]at q;cases q;cases q'
   . rw[getElem?_set_ne (Ne.symm hj)]at q;obtain⟨x,ys,q1,q2,q3,q4⟩:=g.own j s ds' q q';have hx:x≠a:=by rintro rfl;exact hj (g.dis j i x ⟨⟨s,ds',q,q'⟩,q1⟩ ⟨⟨_,_,e,rfl⟩,h1⟩)
     exact⟨x,ys,q1,by rw[aA hx];exact q2,by rw[aA hx];exact q3,q4.mono sm⟩
 . by_cases hx:x=a;.subst hx;exact .inl oa
   .rw[aA hx]at n';exact absurd n n'
 . have hx:x≠a:=by rintro rfl;exact n oa
   rw[aA hx];exact q
 . by_cases hj:j=i;.subst hj;rw[e]at q;cases q;cases l
   .exact⟨s,by rw[getElem?_set_ne (Ne.symm hj)];exact q,.refl s⟩
theorem GS.Aj{K:PySem.W.Frag}{F H:Hp}{ρ:List Sl}{σ:L2.St}{i:Nat}{kvs:List (Int×D)}(g:GS K F ρ σ H)(e:ρ[i]?=some (.cF kvs)):∃a vs,σ[i]?=some (some (.ref a))/\H a=some (Ab (kvs.map (·.1)) vs)/\∀ob,aq K F ρ σ H (upd F a (.cN ob (Ab (kvs.map (·.1)) vs))) (ρ.set i (.val false (.dv (kvs.map (·.1)) (kvs.map (·.2))))) σ (upd H a (.cN ob (Ab (kvs.map (·.1)) vs)))/\Rep K (upd F a (.cN ob (Ab (kvs.map (·.1)) vs))) (.ref a) (.dv (kvs.map (·.1)) (kvs.map (·.2))):=by
 obtain⟨a,o0,h1,h2,h3,h4⟩:=g.own i _ _ e rfl;obtain⟨vs,rfl,h5⟩:=h4;have hi:i<ρ.length:=(List.getElem?_eq_some_iff.mp e).1;refine⟨a,vs,h1,h2,fun ob=>?_⟩;have sm:aH F (upd F a (.cN ob (Ab (kvs.map (·.1)) vs))):=aH.bU h3;have rp:Rep K (upd F a (.cN ob (Ab (kvs.map (·.1)) vs))) (.ref a) (.dv (kvs.map (·.1)) (kvs.map (·.2))):=by rw[Rep];exact⟨a,ob,vs,rfl,aJ,h5.mono sm,by simp⟩
 have oa:Own ρ σ a:=⟨i,⟨_,_,e,rfl⟩,h1⟩;have old:∀j x,aM (ρ.set i (.val false (.dv (kvs.map (·.1)) (kvs.map (·.2))))) σ j x->aM ρ σ j x/\j≠i:=fun j x⟨⟨s,ds',q1,q2⟩,q3⟩=>by
  by_cases hj:j=i;.subst hj;rw[getElem?_set_self hi]at q1;cases q1;cases q2
  .rw[getElem?_set_ne (Ne.symm hj)]at q1;exact⟨⟨⟨s,ds',q1,q2⟩,q3⟩,hj⟩
 refine⟨⟨⟨fun x o q=>?_,by simpa using g.len,fun j b' d q=>?_,fun j s ds' q q'=>?_,fun j k x q q'=>g.dis j k x (old j x q).1 (old k x q').1⟩,sm,fun x n n'=>?_,fun x o q n=>?_,fun x⟨j,q⟩=>.inl ⟨j,(old j x q).1⟩,by simp,fun j s q l=>⟨rfl,?_⟩⟩,rp⟩
 . by_cases hx:x=a;.subst hx;rw[aJ]at q ⊢;exact q
   .rw[aA hx]at q ⊢;exact g.sub x o q
 . by_cases hj:j=i;.subst hj;rw[getElem?_set_self hi]at q;cases q;exact⟨_,h1,rp⟩
   .rw[getElem?_set_ne (Ne.symm hj)]at q;obtain⟨v,q1,q2⟩:=g.val j b' d q;exact⟨v,q1,q2.mono sm⟩
 . by_cases hj:j=i;.subst hj;rw[getElem?_set_self hi]at q;cases q;cases q'
   . rw[getElem?_set_ne (Ne.symm hj)]at q;obtain⟨x,ys,q1,q2,q3,q4⟩:=g.own j s ds' q q';have hx:x≠a:=by rintro rfl;exact hj (g.dis j i x ⟨⟨s,ds',q,q'⟩,q1⟩ ⟨⟨_,_,e,rfl⟩,h1⟩)
     exact⟨x,ys,q1,by rw[aA hx];exact q2,by rw[aA hx];exact q3,q4.mono sm⟩
 . by_cases hx:x=a;.subst hx;exact .inl oa
   .rw[aA hx]at n';exact absurd n n'
 . have hx:x≠a:=by rintro rfl;exact n oa
   rw[aA hx];exact q
 . by_cases hj:j=i;.subst hj;rw[e]at q;cases q;cases l
   .exact⟨s,by rw[getElem?_set_ne (Ne.symm hj)];exact q,.refl s⟩
theorem Inv.Ey{X:Cx}{pins:List (Addr×Obj)}{σ:L2.St}{H:Hp}{s:Shared}{a:Addr}{kvs:List (Key×V)}(I:L2.Inv X pins σ H s)(h:H a=some (.dK kvs)):∃o,L2.Inv X pins σ (upd H a (.cN o (.dK kvs))) s:=by obtain⟨hz,hS,vs,r,dd⟩:=(show bu X.prog X.w H s.heap a (.dK kvs)from I.hok a _ h);obtain⟨o,ho,_⟩:=dd.typeIs;exact⟨o,I.write (h':=s.heap) (t':=s.toks) (by rw[h];exact trivial) (.inl rfl) (fun b u _ e=>e) ⟨o,ho⟩ ⟨ho,hz,hS,vs,r,dd⟩⟩
theorem QL{i:Nat}{x:Str}(hN:X.N[i]?=some x)(hv:xm X.env.scope x)(hd:(x==("__debug__":Str))=false:=by decide)(hcd:(x==("__classdict__":Str))=false:=by decide):SX X c (.Name x pos) (.var i):=by
 have h:=du (X:=X) (pos:=pos) hN hv hd hcd;refine⟨?_,fun j hj=>by cases hj;exact h⟩;rintro pins s σ H Q I⟨F,ρ,r,ρ',g,e,k⟩;rw[HH.E1]at e;split at e;.rename_i b d q;cases e;obtain⟨v,h1,h2⟩:=g.val i b d q;exact h pins s σ H Q I ⟨v,h1,k v F H (.refl g) h2⟩
 .rename_i b ds q;cases e;obtain⟨v,F',h1,h2,h3⟩:=g.freeze q;exact h pins s σ H Q I ⟨v,h1,k v F' H h2 h3⟩
 .rename_i kvs q;cases e;obtain⟨a,h1,h2,h3⟩:=g.zT q;refine bH (h pins s σ H (fun v H'=>v=.ref a/\H'=H) I ⟨.ref a,h1,rfl,rfl⟩) fun u s1⟨v,H1,I1,r1,e1,e2⟩=>?_;subst e1 e2;obtain⟨o,I2⟩:=Inv.Ey I1 h2;exact⟨.ref a,_,I2,r1,k _ _ _ (h3 o).1 (h3 o).2⟩
 .rename_i kvs q;cases e;obtain⟨a,vs,h1,h2,h3⟩:=g.Aj q;refine bH (h pins s σ H (fun v H'=>v=.ref a/\H'=H) I ⟨.ref a,h1,rfl,rfl⟩) fun u s1⟨v,H1,I1,r1,e1,e2⟩=>?_;subst e1 e2;obtain⟨o,I2⟩:=Inv.Ey I1 h2;exact⟨.ref a,_,I2,r1,k _ _ _ (h3 o).1 (h3 o).2⟩
 .cases e
theorem yJ{d:D}{v:V}(h:PE X e (tC v))(hr:∀F,Rep X.K F v d):SX X c e (.con d):=⟨cY h fun σ H Q⟨F,ρ,r,ρ',g,e,k⟩=>by rw[HH.E2]at e;cases e;exact k v F H (.refl g) (hr F),fun i h=>by cases h⟩
theorem aj{i j}:SX X c (.Constant (.int i) j pos) (.con (.int i)):=yJ yN fun F=>by rw[Rep]
theorem jD{i j}:SX X c (.Constant (.bool i) j pos) (.con (.bl i)):=yJ V9 fun F=>by rw[Rep]
theorem oK{j}:SX X c (.Constant .none j pos) (.con .non):=yJ Qk fun F=>by rw[Rep]
theorem cC.int{K:PySem.W.Frag}{F H:Hp}{v:V}{i:Int}(h:cC K F H v (.int i)):v=.int i:=by
 rcases h with h|⟨_,_,_,_,_,_,h⟩;.rw[Rep]at h;exact h
 .cases h
theorem cC.bl{K:PySem.W.Frag}{F H:Hp}{v:V}{i:Bool}(h:cC K F H v (.bl i)):v=.bl i:=by
 rcases h with h|⟨_,_,_,_,_,_,h⟩;.rw[Rep]at h;exact h
 .cases h
theorem cC.str{K:PySem.W.Frag}{F H:Hp}{v:V}{i:Str}(h:cC K F H v (.str i)):v=.str i:=by
 rcases h with h|⟨_,_,_,_,_,_,h⟩;.rw[Rep]at h;exact h
 .cases h
theorem cC.non{K:PySem.W.Frag}{F H:Hp}{v:V}(h:cC K F H v .non):v=.non:=by
 rcases h with h|⟨_,_,_,_,_,_,h⟩;.rw[Rep]at h;exact h
 .cases h
theorem cC.tup{K:PySem.W.Frag}{F H:Hp}{v:V}{ds:List D}(s:aH F H)(h:cC K F H v (.tup ds)):∃a xs,v=.ref a/\jy K H a xs/\aC K F xs ds/\Rep K F v (.tup ds):=by
 rcases h with h|⟨_,_,_,_,_,_,h⟩;.have h':=h;rw[Rep]at h;obtain⟨a,xs,rfl,h1,h2⟩:=h;exact⟨a,xs,rfl,aH.gH s h1,h2,h'⟩
 .cases h
theorem cC.lst{K:PySem.W.Frag}{F H:Hp}{v:V}{ds:List D}(s:aH F H)(h:cC K F H v (.lst ds)):∃a xs,v=.ref a/\dG K H a xs/\aC K F xs ds:=by
 rcases h with h|⟨a,xs,es,h1,h2,h3,h⟩;.rw[Rep]at h;obtain⟨a,xs,rfl,h1,h2⟩:=h;exact⟨a,xs,rfl,s.seq h1,h2⟩
 .cases h;exact⟨a,xs,h1,dG.of h2,h3⟩
theorem cC.cM{K:PySem.W.Frag}{F H:Hp}{v:V}{m:Dc}(s:aH F H)(h:cC K F H v (.cM m)):∃a o,v=.ref a/\H a=some (.cN o m.ho):=by
 rcases h with h|⟨_,_,_,_,_,_,h⟩;.rw[Rep]at h;obtain⟨a,o,rfl,h⟩:=h;exact⟨a,o,rfl,s _ _ h⟩
 .cases h
theorem G8{X:Cx}{pins:List (Addr×Obj)}{σ:L2.St}{H:Hp}{s:Shared}{a:Addr}{ob:Obj}{m:Dc}(I:L2.Inv X pins σ H s)(h:H a=some (.cN ob m.ho)):∃o,s.heap.get? a=some o/\o.cls=.type "dict":=by have z:=(show bu X.prog X.w H s.heap a (.cN ob m.ho)from I.hok a _ h).2;cases m with|k kvs=>obtain⟨_,_,vs,_,d2⟩:=(show bu X.prog X.w H s.heap a (.dK _)from z);exact d2.typeIs|t kvs=>obtain⟨_,_,xs,_,o,es,ep,h1,h2,_⟩:=(show bu X.prog X.w H s.heap a (.dT _)from z);exact⟨o,h1,h2.1⟩
theorem cC.dv{K:PySem.W.Frag}{F H:Hp}{v:V}{ks:List Int}{ds:List D}(s:aH F H)(h:cC K F H v (.dv ks ds)):∃a o vs,v=.ref a/\H a=some (.cN o (Ab ks vs))/\aC K F vs ds/\ks.length=ds.length:=by
 rcases h with h|⟨_,_,_,_,_,_,h⟩;.rw[Rep]at h;obtain⟨a,o,vs,rfl,h,h1,h2⟩:=h;exact⟨a,o,vs,rfl,s _ _ h,h1,h2⟩
 .cases h
theorem Ec{X:Cx}{pins:List (Addr×Obj)}{σ:L2.St}{H:Hp}{s:Shared}{a:Addr}{ob:Obj}{ks:List Int}{vs:List V}(I:L2.Inv X pins σ H s)(h:H a=some (.cN ob (Ab ks vs))):∃o,s.heap.get? a=some o/\o.cls=.type "dict":=by have z:=(show bu X.prog X.w H s.heap a (.cN ob (Ab ks vs))from I.hok a _ h).2;obtain⟨_,_,vs,_,d2⟩:=(show bu X.prog X.w H s.heap a (.dK _)from z);exact d2.typeIs
theorem cC.items{K:PySem.W.Frag}{F H:Hp}{v:V}{d:D}{ds:List D}(s:aH F H)(h:cC K F H v d)(e:items d=some ds):∃a xs,v=.ref a/\(dG K H a xs\/jy K H a xs)/\aC K F xs ds:=by cases d with|tup es=>cases e;obtain⟨a,xs,h1,h2,h3,_⟩:=h.tup s;exact⟨a,xs,h1,.inr h2,h3⟩|lst es=>cases e;obtain⟨a,xs,h1,h2,h3⟩:=h.lst s;exact⟨a,xs,h1,.inl h2,h3⟩|_=>cases e
theorem bB.bQ{K:PySem.W.Frag}{F H:Hp}{Q:VK}{v:V}{d:D}(s:aH F H)(r:Rep K F v d)(k:∀v F' H',Ext F H F' H'->bB K F' H' H v (.val d)->Q v H'):Q v H:=k v F H (.refl s) r
theorem bz{K:PySem.W.Frag}{F:Hp}(i:Int):Rep K F (.int i) (.int i):=by rw[Rep]
theorem dC{K:PySem.W.Frag}{F:Hp}(i:Bool):Rep K F (.bl i) (.bl i):=by rw[Rep]
theorem PX{K:PySem.W.Frag}{F:Hp}(i:Str):Rep K F (.str i) (.str i):=by rw[Rep]
theorem DY{K:PySem.W.Frag}{F:Hp}:Rep K F .non .non:=by rw[Rep]
theorem vX{K:PySem.W.Frag}{F H:Hp}{Q:VK}{xs:List V}{ds:List D}{p:Addr}(s:aH F H)(r:aC K F xs ds)(hp:H p=none)(k:∀v F' H',Ext F H F' H'->bB K F' H' H v (.own ds)->Q v H'):Q (.ref p) (upd H p (.lst xs)):=by
 have fp:F p=none:=by cases q:F p with|none=>rfl|some o=>rw[s p o q]at hp;cases hp
 exact k _ F _ ⟨aH.bU hp,.refl _,s.trans (aH.bU hp),fun _ a b=>absurd a b⟩ ⟨p,xs,rfl,aJ,fp,r,hp⟩
theorem Dj{K:PySem.W.Frag}{F H:Hp}{Q:VK}{xs:List V}{ds:List D}{p:Addr}(s:aH F H)(r:aC K F xs ds)(hp:H p=none)(k:∀v F' H',Ext F H F' H'->bB K F' H' H v (.val (.tup ds))->Q v H'):Q (.ref p) (upd H p (.tup xs)):=by
 have fp:F p=none:=by cases q:F p with|none=>rfl|some o=>rw[s p o q]at hp;cases hp
 have sm:aH F (upd F p (.tup xs)):=aH.bU fp;refine k _ (upd F p (.tup xs)) _ ⟨aH.bU hp,sm,fun b o e=>?_,fun b n n'=>?_⟩ ?_
 . by_cases hb:b=p;.subst hb;rw[aJ]at e ⊢;exact e
   .rw[aA hb]at e ⊢;exact s b o e
 . by_cases hb:b=p;.subst hb;exact ju hp
   .rw[aA hb]at n';exact absurd n n'
 .show Rep K _ _ (.tup ds);rw[Rep];exact⟨p,xs,rfl,jy.of aJ,r.mono sm⟩
end
theorem qw(k:Int)(t:Tok)(l:Addr)(its:Array Value)(n:Nat)(dd:Option Addr)(sl:Array (Option Value)):Meets (Builtin.«int.__rmul__» ⟨[.int k t,.ref l],[]⟩) (fun _ R s=>s.heap.get? l=some ⟨.type "list",dd,.seq its n,sl⟩/\R (.ok (.ret Value.notImplemented)) s):=.of_wp fun prog w A R s h=>by obtain⟨hp,g,d,tk,os⟩:=s;obtain⟨hl,h⟩:=h;wp_walk;exact⟨_,rfl,h⟩
theorem Ck(l:Addr)(its:Array Value)(n:Nat)(dd:Option Addr)(sl:Array (Option Value))(k:Int)(t:Tok)(h0:¬(!Builtin.List.listFitsIndex k)=true)(h1:¬its.size*k.toNat>(2^63-1)/8)(h2:¬listTooLong (its.size*k.toNat)=true):Meets (Builtin.«list.__mul__» ⟨[.ref l,.int k t],[]⟩) (fun _ R s=>s.heap.get? l=some ⟨.type "list",dd,.seq its n,sl⟩/\R (.ok (.ret (Value.ref s.heap.objs.size))) {s with heap:=s.heap.push {cls:=.type "list",data:=.seq (foldl (·++·) #[] (replicate (if its.isEmpty=true then 0 else k.toNat) its))}}):=.of_wp fun prog w A R s h=>by obtain⟨hp,g,d,tk,os⟩:=s;obtain⟨hl,h⟩:=h;have hz:=AutoListH.joined_fits h2;wp_walk using wpAny_loadPart' hl;refine wpAny_ite_false (decide_eq_false (Nat.not_lt.mpr hz)) ?_;wp_walk;exact⟨_,rfl,h⟩
section
variable{X:Cx}{c:Call}{e a b d:Expr}{p pa pb pd:P}{pos:Pos}
theorem Kg:cR X (binaryOp .Add) (fun x y H Q=>∃l b xs zs,x=.ref l/\y=.ref b/\dG X.K H l xs/\dG X.K H b zs/\xs.length+zs.length<=sizeLine/\∀p,H p=none->Q (.ref p) (upd H p (.lst (xs++zs)))):=by
 intro pins s σ H x y v u Q I rx ry h;obtain⟨l,b,xs,zs,rfl,rfl,hl,hb,hz,q⟩:=h;cases rx;cases ry;obtain⟨its,r,pl,_⟩:=I.list hl;obtain⟨its2,r2,pl2,_⟩:=I.list hb;obtain⟨⟨cls,dd,data,sl⟩,ho,hc,n,hd⟩:=id pl.isList;obtain⟨⟨cls2,dd2,data2,sl2⟩,ho2,hc2,n2,hd2⟩:=id pl2.isList;simp only at hc hd hc2 hd2;subst hc hd hc2 hd2;have e:its.toArray++its2.toArray=(its++its2).toArray:=by simp
 refine concat_meets ⟨_,ho,rfl⟩ ⟨_,ho2,rfl⟩ noFill_list_add seq_list_add PySem.F.slot_list_add PySem.F.entry_list_add (PySem.F.args_list_add_2 _ _) (list_addW l b its.toArray its2.toArray n n2 dd dd2 sl sl2 (by simp only[size_toArray];rw[<-r.length,<-r2.length];exact hz)) ⟨ho,ho2,?_⟩;rw[e];exact⟨.ref _,_,I.RL (t':=s.toks) (r.append r2) (by rw[length_append];exact hz),rfl,q _ I.fresh⟩
theorem Fx:cR X (binaryOp .Add) (fun x y H Q=>∃a b ys,x=.ref a/\y=.ref b/\jy X.K H a []/\jy X.K H b ys/\Q (.ref b) H):=by intro pins s σ H x y v u Q I rx ry h;obtain⟨a,b,ys,rfl,rfl,ha,hb,q⟩:=h;cases rx;cases ry;obtain⟨its,r1,p1,_⟩:=I.tuple ha;obtain⟨its2,r2,p2,_⟩:=I.tuple hb;obtain⟨⟨cls,dd,data,sl⟩,ho,hc,n,hd⟩:=id p1;obtain⟨⟨cls2,dd2,data2,sl2⟩,ho2,hc2,n2,hd2⟩:=id p2;simp only at hc hd hc2 hd2;subst hc hd hc2 hd2;have e0:its=[]:=r1.nZ.mpr rfl;subst e0;exact concat_meets ⟨_,ho,rfl⟩ ⟨_,ho2,rfl⟩ noFill_tuple_add seq_tuple_add slot_tuple_add entry_tuple_add (args_tuple_add_2 _ _) (tuple_addW0 a b _ its2.toArray n n2 dd dd2 sl sl2 (by simp)) ⟨ho,ho2,⟨.ref b,H,I,rfl,q⟩⟩
theorem aR:cR X (binaryOp .Add) (rD X.K (oh .add)):=by
 rintro pins s σ H x y v u Q I rx ry⟨F,d,e,r,sm,px,py,he,k⟩;replace he:pA d e=some r:=he;unfold pA at he;split at he;.cases he;rw[px.int]at rx;rw[py.int]at ry;exact QR pins s σ H _ _ v u Q I rx ry ⟨_,_,rfl,rfl,bB.bQ sm (bz _) k⟩
 .rename_i xs ys;obtain⟨hl,he⟩:=aP he;subst he;obtain⟨a,vs,rfl,ha,ra⟩:=px.lst sm;obtain⟨b,us,rfl,hb,rb⟩:=py.lst sm;exact Kg pins s σ H _ _ v u Q I rx ry ⟨a,b,vs,us,rfl,rfl,ha,hb,by rw[ra.length,rb.length];exact hl,fun p hp=>vX sm (ra.append rb) hp k⟩
 . rename_i xs ys;obtain⟨hl,he⟩:=aP he;subst he;obtain⟨a,vs,rfl,ha,ra,ta⟩:=px.tup sm;obtain⟨b,us,rfl,hb,rb,tb⟩:=py.tup sm;by_cases h0:vs=[]
   . subst h0;have e0:xs=[]:=by have:=ra.length;exact List.eq_nil_of_length_eq_zero this.symm
     subst e0;exact Fx pins s σ H _ _ v u Q I rx ry ⟨a,b,us,rfl,rfl,ha,hb,bB.bQ sm tb k⟩
   . refine Jm pins s σ H _ _ v u Q I rx ry ⟨a,b,vs,us,rfl,rfl,ha,hb,h0,by rw[ra.length,rb.length];exact hl,fun e=>?_,fun _ p hp=>Dj sm (ra.append rb) hp k⟩;subst e;have e0:ys=[]:=by have:=rb.length;exact List.eq_nil_of_length_eq_zero this.symm
     subst e0;rw[append_nil]at k;exact bB.bQ sm ta k
 .rename_i x1 y1;obtain⟨hl,he⟩:=aP he;subst he;rw[px.str]at rx;rw[py.str]at ry;exact yH pins s σ H _ _ v u Q I rx ry ⟨_,_,rfl,rfl,hl,bB.bQ sm (PX _) k⟩
 .cases he
theorem cg:cR X (binaryOp .Sub) (rD X.K (oh .sub)):=by
 rintro pins s σ H x y v u Q I rx ry⟨F,d,e,r,sm,px,py,he,k⟩;replace he:wN d e=some r:=he;unfold wN at he;split at he;.cases he;rw[px.int]at rx;rw[py.int]at ry;exact Sv pins s σ H _ _ v u Q I rx ry ⟨_,_,rfl,rfl,bB.bQ sm (bz _) k⟩
 .cases he
theorem J9:cR X (binaryOp .Mult) (fun x y H Q=>∃l k xs,x=.ref l/\y=.int k/\dG X.K H l xs/\-(2^63)<=k/\k<2^63/\xs.length*k.toNat<=sizeLine/\∀p,H p=none->Q (.ref p) (upd H p (.lst (replicate k.toNat xs).flatten))):=by
 intro pins s σ H x y v u Q I rx ry h;obtain⟨l,k,xs,rfl,rfl,hl,h1,h2,hz,q⟩:=h;cases rx;obtain⟨t,rfl⟩:=ry;obtain⟨its,r,pl,_⟩:=I.list hl;obtain⟨⟨cls,dd,data,sl⟩,ho,hc,n,hd⟩:=id pl.isList;simp only at hc hd;subst hc hd;have hlen:its.toArray.size*k.toNat<=sizeLine:=by rw[size_toArray,<-r.length];exact hz
 have ac3:¬ its.toArray.size*k.toNat>(2^63-1)/8:=by
  have:(sizeLine:Nat)<=(2^63-1)/8:=by decide
  omega
 have hnew:foldl (·++·) #[] (replicate (if its.toArray.isEmpty=true then 0 else k.toNat) its.toArray)=(replicate k.toNat its).flatten.toArray:=by
  have f0:∀m:Nat,foldl (·++·) #[] (replicate m its.toArray)=(replicate m its).flatten.toArray:=fun m=>by have:=foldl_rep its m [];rw[nil_append]at this;exact this
  rw[f0];cases its with|nil=>simp|cons a r'=>rw[if_neg (by simp)]
 refine wpAny_binaryOp_repeat_ref (T:="list") (U:="int") (by decide) ⟨_,ho,rfl⟩ (fun s'=>typeIs_int s' k t) noFill_list_mul F.fills_int_mul F.slot_int_rmul repeat_list F.slot_int_index.lookup ?_;refine call_meets F.slot_int_rmul (typeIs_int s k t) F.entry_int_rmul (F.args_int_rmul_2 _ _) (qw k t l its.toArray n dd sl) ⟨ho,rfl,⟨_,ho,rfl⟩,?_⟩;refine call_meets F.slot_list_mul ⟨_,ho,rfl⟩ F.entry_list_mul (F.args_list_mul_2 _ _) (Ck l its.toArray n dd sl k t (by rw[fitsIndex_both h1 h2];exact Bool.false_ne_true) ac3 (by rw[HR hlen];exact Bool.false_ne_true)) ⟨ho,?_⟩;rw[hnew];exact⟨.ref _,_,I.RL (t':=s.toks) (r.rep k.toNat) (by rw[len_rep,Nat.mul_comm];exact hz),rfl,q _ I.fresh⟩
theorem mz:fillsNumberSlot (.type "tuple") "mul"=pure false:=PySem.fillsNumberSlot_seq (id:="tuple.__mul__") (r:=some (.builtin "tuple.__rmul__")) slot_tuple_mul.lookup (by decide+kernel) PySem.F.slot_tuple_rmul.lookup (by decide+kernel)
theorem sU:seqRepeat? (.type "tuple")=pure (some (.builtin "tuple.__mul__")):=by unfold seqRepeat?;rw[PySem.seqSlot_of (T:="tuple") (name:="__mul__") (id:="tuple.__mul__") slot_tuple_mul.lookup (by decide+kernel),PySem.seqSlot_of (T:="tuple") (name:="__rmul__") (id:="tuple.__rmul__") PySem.F.slot_tuple_rmul.lookup (by decide+kernel)];rfl
theorem pG(k:Int)(t:Tok)(l:Addr)(its:Array Value)(n:Nat)(dd:Option Addr)(sl:Array (Option Value)):Meets (Builtin.«int.__rmul__» ⟨[.int k t,.ref l],[]⟩) (fun _ R s=>s.heap.get? l=some ⟨.type "tuple",dd,.seq its n,sl⟩/\R (.ok (.ret Value.notImplemented)) s):=.of_wp fun prog w A R s h=>by obtain⟨hp,g,d,tk,os⟩:=s;obtain⟨hl,h⟩:=h;wp_walk;exact⟨_,rfl,h⟩
theorem yg(l:Addr)(its:Array Value)(n:Nat)(dd:Option Addr)(sl:Array (Option Value))(k:Int)(t:Tok)(h0:0<=k)(h1:k<2^63)(hz:its.size*k.toNat<=sizeLine)(hne:0<its.size):Meets (Builtin.«tuple.__mul__» ⟨[.ref l,.int k t],[]⟩) (fun _ R s=>s.heap.get? l=some ⟨.type "tuple",dd,.seq its n,sl⟩/\(k=1->R (.ok (.ret (Value.ref l))) s)/\(k≠1->R (.ok (.ret (Value.ref s.heap.objs.size))) {s with heap:=s.heap.push {cls:=.type "tuple",data:=.seq (foldl (·++·) #[] (replicate k.toNat its))}})):=.of_wp fun prog w A R s h=>by
  obtain⟨hp,g,d,tk,os⟩:=s;obtain⟨hl,q1,q2⟩:=h;have hem:its.isEmpty=false:=by cases e:its.isEmpty with|false=>rfl|true=>rw[Array.isEmpty_iff_size_eq_zero]at e;omega
  show wpAny _ _ (asIndex (.int k t)>>=_) _ _ _;wp_walk using wpAny_loadPart' hl;have hI:IsTup hp l its:=⟨_,hl,rfl,n,rfl⟩;rw[if_neg (by simp;omega)];refine wpAny_bind (PyProof.Rows.tupleItemsOf_ hI ?_);try dsimp only
  by_cases e1:k=1;.rw[if_pos (by simp[e1])];wp_walk using wpAny_loadPart' hl;exact⟨_,rfl,q1 e1⟩
  . have q:=q2 e1;rw[if_neg (by simp[hem,e1])];by_cases e0:k=0;.subst e0;rw[if_pos (by simp)];unfold tupleExact;refine wpAny_bind (wpAny_newObj_type ?_);exact wpAny_pure ⟨_,rfl,q⟩
    . have hb:(its.size:Int)*k<=sizeLine:=by
       have:((its.size*k.toNat:Nat):Int)<=(sizeLine:Nat):=by exact_mod_cast hz
       rw[Int.natCast_mul,show((k.toNat:Nat):Int)=k by omega]at this;exact this
      have hs2:(sizeLine:Int)<=(2^63-1)/8:=by decide
      rw[if_neg (by simp[hem];omega),if_neg (by omega),if_neg (by simp[Builtin.Tuple.tupleTooMany];omega)];unfold tupleExact;refine wpAny_bind (wpAny_newObj_type ?_ ?_);.exact wpAny_pure ⟨_,rfl,q⟩
      .have:=foldl_rep its.toList k.toNat [];rw[nil_append,show its.toList.toArray=its by simp]at this;show(foldl (·++·) #[] (replicate k.toNat its)).size<=sizeLine;rw[show(#[]:Array Value)=([]:List Value).toArray from rfl,this,size_toArray,len_rep,length_toList,Nat.mul_comm];exact hz
theorem Jt:cR X (binaryOp .Mult) (fun x y H Q=>∃l k xs,x=.ref l/\y=.int k/\jy X.K H l xs/\0<xs.length/\0<=k/\k<2^63/\xs.length*k.toNat<=sizeLine/\(k=1->Q (.ref l) H)/\(k≠1->∀p,H p=none->Q (.ref p) (upd H p (.tup (replicate k.toNat xs).flatten)))):=by
 intro pins s σ H x y v u Q I rx ry h;obtain⟨l,k,xs,rfl,rfl,hl,hne,h1,h2,hz,qa,qb⟩:=h;cases rx;obtain⟨t,rfl⟩:=ry;obtain⟨its,r,pl,_⟩:=I.tuple hl;obtain⟨⟨cls,dd,data,sl⟩,ho,hc,n,hd⟩:=id pl;simp only at hc hd;subst hc hd;have hlen:its.toArray.size*k.toNat<=sizeLine:=by rw[size_toArray,<-r.length];exact hz
 have hnew:foldl (·++·) #[] (replicate k.toNat its.toArray)=(replicate k.toNat its).flatten.toArray:=by have:=foldl_rep its k.toNat [];rw[nil_append]at this;exact this
 refine wpAny_binaryOp_repeat_ref (T:="tuple") (U:="int") (by decide) ⟨_,ho,rfl⟩ (fun s'=>typeIs_int s' k t) mz F.fills_int_mul F.slot_int_rmul sU F.slot_int_index.lookup ?_;refine call_meets F.slot_int_rmul (typeIs_int s k t) F.entry_int_rmul (F.args_int_rmul_2 _ _) (pG k t l its.toArray n dd sl) ⟨ho,rfl,⟨_,ho,rfl⟩,?_⟩;refine call_meets slot_tuple_mul ⟨_,ho,rfl⟩ PySem.F.entry_tuple_mul (PySem.F.args_tuple_mul_2 _ _) (yg l its.toArray n dd sl k t h1 h2 hlen (by rw[size_toArray,<-r.length];exact hne)) ⟨ho,fun e=>⟨.ref l,H,I,rfl,qa e⟩,fun e=>?_⟩;rw[hnew];refine⟨.ref s.heap.objs.size,_,I.laid (t':=s.toks) (o:=.tup (replicate k.toNat xs).flatten) (fun b ob q=>get?_push_of_some _ q) (le_refl _) ?_,rfl,qb e _ (I.hok.fresh (le_refl _))⟩;exact⟨by rw[len_rep,Nat.mul_comm];exact hz,_,r.rep k.toNat,IsTup.new _ _⟩
theorem dH:cR X (binaryOp .Mult) (rD X.K (oh .mul)):=by
 rintro pins s σ H x y v u Q I rx ry⟨F,d,e,r,sm,px,py,he,k⟩;replace he:mX d e=some r:=he;unfold mX at he;split at he;.obtain⟨hc,he⟩:=aP he;subst he;rw[px.int]at rx;rw[py.int]at ry;exact Qo pins s σ H _ _ v u Q I rx ry ⟨_,_,rfl,rfl,hc,bB.bQ sm (bz _) k⟩
 . rename_i xs i;obtain⟨⟨h1,h2,h3⟩,he⟩:=aP he;subst he;obtain⟨a,vs,rfl,ha,ra⟩:=px.lst sm;rw[py.int]at ry;have hk:i<2^63:=by have h4:=Nat.le_mul_of_pos_left i.toNat h2;have h5:i.toNat<=16777216:=le_trans h4 h3;omega
   exact J9 pins s σ H _ _ v u Q I rx ry ⟨a,i,vs,rfl,rfl,ha,by omega,hk,by rw[ra.length];exact h3,fun p hp=>vX sm (ra.rep i.toNat) hp k⟩
 . rename_i xs i;obtain⟨⟨h1,h2,h3⟩,he⟩:=aP he;subst he;obtain⟨a,vs,rfl,ha,ra,rr⟩:=px.tup sm;rw[py.int]at ry;have hk:i<2^63:=by have h4:=Nat.le_mul_of_pos_left i.toNat h2;have h5:i.toNat<=16777216:=le_trans h4 h3;omega
   refine Jt pins s σ H _ _ v u Q I rx ry ⟨a,i,vs,rfl,rfl,ha,by rw[ra.length];exact h2,h1,hk,by rw[ra.length];exact h3,fun e=>?_,fun e p hp=>Dj sm (ra.rep i.toNat) hp k⟩;subst e;refine bB.bQ sm ?_ k;have e1:(replicate (1:Int).toNat xs).flatten=xs:=by simp
   rw[e1];exact rr
 .cases he
theorem uT:cR X (binaryOp .FloorDiv) (rD X.K (oh .fdiv)):=by
 rintro pins s σ H x y v u Q I rx ry⟨F,d,e,r,sm,px,py,he,k⟩;replace he:o4 d e=some r:=he;unfold o4 at he;split at he
 . rename_i i j;obtain⟨⟨h1,h2⟩,he⟩:=aP he;subst he;rw[px.int]at rx;rw[py.int]at ry;obtain⟨t,rfl⟩:=rx;obtain⟨t',rfl⟩:=ry;have hl:j.natAbs.log2<9000:=by
    have:j.natAbs<2^200:=by
     have:(2:Nat)^200=1606938044258990275541962092341162602522202993782792835301376:=by decide
     omega
    have h3:=(Nat.log2_lt (by omega)).mpr this;omega
   exact floordiv_int (by omega) (by rw[Int.fdiv_eq_ediv_of_nonneg i (by omega)];exact⟨.int _,H,I.tok _,⟨_,rfl⟩,bB.bQ sm (bz _) k⟩) (.inl (PyProof.noPylong_of_log2 hl))
 .cases he
theorem dg:cR X (binaryOp .Mod) (rD X.K (oh .mod)):=by
 rintro pins s σ H x y v u Q I rx ry⟨F,d,e,r,sm,px,py,he,k⟩;replace he:wg d e=some r:=he;unfold wg at he;split at he;.obtain⟨h1,he⟩:=aP he;subst he;rw[px.int]at rx;rw[py.int]at ry;exact R8 pins s σ H _ _ v u Q I rx ry ⟨_,_,rfl,rfl,h1,bB.bQ sm (bz _) k⟩
 .cases he
theorem eZ:cR X (binaryOp .Pow) (rD X.K (oh .pow)):=by
 rintro pins s σ H x y v u Q I rx ry⟨F,d,e,r,sm,px,py,he,k⟩;replace he:wy d e=some r:=he;unfold wy at he;split at he;.obtain⟨⟨h1,h2,h3⟩,he⟩:=aP he;subst he;rw[px.int]at rx;rw[py.int]at ry;exact Ql pins s σ H _ _ v u Q I rx ry ⟨_,_,rfl,rfl,⟨h1,by omega,h3⟩,bB.bQ sm (bz _) k⟩
 .cases he
theorem J4:cR X (binaryOp .LShift) (rD X.K (oh .shl)):=by
 rintro pins s σ H x y v u Q I rx ry⟨F,d,e,r,sm,px,py,he,k⟩;replace he:wz d e=some r:=he;unfold wz at he;split at he;.obtain⟨⟨h1,h2,h3⟩,he⟩:=aP he;subst he;rw[px.int]at rx;rw[py.int]at ry;exact QB pins s σ H _ _ v u Q I rx ry ⟨_,_,rfl,rfl,⟨h1,by omega,h3⟩,bB.bQ sm (bz _) k⟩
 .cases he
theorem Jz:cR X (binaryOp .RShift) (rD X.K (oh .shr)):=by
 rintro pins s σ H x y v u Q I rx ry⟨F,d,e,r,sm,px,py,he,k⟩;replace he:uO d e=some r:=he;unfold uO at he;split at he;.obtain⟨h1,he⟩:=aP he;subst he;rw[px.int]at rx;rw[py.int]at ry;exact O6 pins s σ H _ _ v u Q I rx ry ⟨_,_,rfl,rfl,h1,bB.bQ sm (bz _) k⟩
 .cases he
theorem Gh:cR X (binaryOp .BitAnd) (rD X.K (oh .band)):=by
 rintro pins s σ H x y v u Q I rx ry⟨F,d,e,r,sm,px,py,he,k⟩;replace he:p8 d e=some r:=he;unfold p8 at he;split at he;.cases he;rw[px.int]at rx;rw[py.int]at ry;exact QK pins s σ H _ _ v u Q I rx ry ⟨_,_,rfl,rfl,bB.bQ sm (bz _) k⟩
 .cases he
theorem ao{o:Op}{op:Operator}(ho:cR X (binaryOp op) (rD X.K (oh o)))(ha:SX X c a pa)(hb:SX X c b pb):SX X c (.BinOp a op b pos) (.bin o pa pb):=uD (fun h1 h2=>Xu ho h1 h2) ha hb (fun ρ=>rfl) rfl
theorem FZ(ha:SX X c a pa):SX X c (.UnaryOp .USub a pos) (.neg pa):=by refine Sd (f:=FT) (fun h1=>XJ ?_ h1) ha (fun ρ=>rfl) rfl;rintro pins s σ H x v Q I rx⟨F,d,r,sm,px,he,k⟩;unfold FT at he;obtain⟨i,e1,e2⟩:=map_some he;subst e2;cases d<;>cases e1;rw[px.int]at rx;exact Ou pins s σ H _ v Q I rx ⟨_,rfl,bB.bQ sm (bz _) k⟩
theorem zy{op:CmpOp}{f:Int->Int->Bool}(ho:cR X (compareOp op) (HD fun i j=>.bl (f i j))):cR X (compareOp op) (rD X.K fun x y=>(Im f x y).map fun k=>.val (.bl k)):=by
 rintro pins s σ H x y v u Q I rx ry⟨F,d,e,r,sm,px,py,he,k⟩;obtain⟨t,e1,e2⟩:=map_some (show(Im f d e).map _=some r from he);subst e2;unfold Im at e1;split at e1;.cases e1;rw[px.int]at rx;rw[py.int]at ry;exact ho pins s σ H _ _ v u Q I rx ry ⟨_,_,rfl,rfl,bB.bQ sm (dC _) k⟩
 .cases e1
theorem yj{op:CmpOp}{f:Int->Int->Bool}(ho:cR X (compareOp op) (HD fun i j=>.bl (f i j))){o:Cm}(hc:cm o=Im f):cR X (compareOp op) (rD X.K (lY o)):=by
 have e:lY o=fun x y=>(Im f x y).map fun k=>.val (.bl k):=by funext x y;unfold lY;rw[hc]
 rw[e];exact zy ho
theorem Qm:cR X (compareOp .Lt) (rD X.K fun x y=>(Im (fun i j=>decide (i<j)) x y).map fun k=>.val (.bl k)):=zy Xc
theorem rY:cR X (compareOp .LtE) (rD X.K (lY .le)):=yj Wa rfl
theorem tL:cR X (compareOp .Gt) (rD X.K (lY .gt)):=yj VN rfl
theorem Sy:cR X (compareOp .GtE) (rD X.K (lY .ge)):=yj Ws rfl
theorem qO{K:PySem.W.Frag}{F H:Hp}{v:V}{d:D}(h:cC K F H v d):decide (v=.non)=iQ d:=by cases d with
 |non=>rw[h.non];rfl|bl _=>rw[h.bl];rfl|int _=>rw[h.int];rfl|str _=>rw[h.str];rfl|tup _=>
   rcases h with h|⟨a,_,_,rfl,_⟩;.rw[Rep]at h;obtain⟨a,_,rfl,_⟩:=h;rfl
   .rfl|lst _=>
   rcases h with h|⟨a,_,_,rfl,_⟩;.rw[Rep]at h;obtain⟨a,_,rfl,_⟩:=h;rfl
   .rfl|cM _=>
   rcases h with h|⟨a,_,_,rfl,_⟩;.rw[Rep]at h;obtain⟨a,_,rfl,_⟩:=h;rfl
   .rfl|dv _ _=>
   rcases h with h|⟨a,_,_,rfl,_⟩;.rw[Rep]at h;obtain⟨a,_,_,rfl,_⟩:=h;rfl
   .rfl
theorem PQ:cR X (compareOp .Is) (rD X.K (lY .isN)):=by
 rintro pins s σ H x y v u Q I rx ry⟨F,d,e,r,sm,px,py,he,k⟩;obtain⟨t,e1,e2⟩:=map_some (show(Uz false d e).map _=some r from he);subst e2;unfold Uz at e1;split at e1;.cases e1;exact QM pins s σ H x y v u Q I rx ry ⟨py.non,by rw[qO px];exact bB.bQ sm (dC _) k⟩
 .cases e1
theorem sO:cR X (compareOp .IsNot) (rD X.K (lY .Dm)):=by
 rintro pins s σ H x y v u Q I rx ry⟨F,d,e,r,sm,px,py,he,k⟩;obtain⟨t,e1,e2⟩:=map_some (show(Uz true d e).map _=some r from he);subst e2;unfold Uz at e1;split at e1;.cases e1;exact KH pins s σ H x y v u Q I rx ry ⟨py.non,by rw[qO px];exact bB.bQ sm (dC _) k⟩
 .cases e1
theorem Fp{o:Cm}{op:CmpOp}(ho:cR X (compareOp op) (rD X.K (lY o)))(ha:SX X c a pa)(hb:SX X c b pb)(hm:behindInMarks op b=false):SX X c (.Compare a [op] [b] pos) (.cmp o pa pb):=uD (fun h1 h2=>Li ho h1 h2 hm) ha hb (fun ρ=>rfl) rfl
end
section
variable{X:Cx}{c:Call}{e a b d:Expr}{p pa pb pd:P}{pos:Pos}{rest:List Expr}
theorem vf{x:D}{k:Bool}(h:MN x=some k):x=.bl k:=by cases x<;>cases h;rfl
theorem cz{x:D}{k:Int}(h:fV x=some k):x=.int k:=by cases x<;>cases h;rfl
theorem cj.bool{K:PySem.W.Frag}{F' H' H:Hp}{ρ' ρ:List Sl}{σ' σ:L2.St}{v:V}{r:R}{k:Bool}(h:cj K F' ρ' σ' H' ρ σ H v r)(e:r.d=.bl k):v=.bl k:=by cases r with|val d=>cases(show d=.bl k from e);have h:Rep K F' v (.bl k):=h;rw[Rep]at h;exact h|own ds=>cases e
def ST(X:Cx)(c:Call)(e:Expr)(p:P):Prop:=PT X e (Iu X.K (gG (HH.ev c p)))
def SW(X:Cx)(c:Call)(e:Expr)(p:P):Prop:=PW X e (Iu X.K (gG (HH.ev c p)))
theorem SW.st(h:SW X c e p):ST X c e p:=PW.pt h
theorem jO{t:TE}{Q:Bool->Hp->Prop}{σ:L2.St}{H:Hp}(hi:∀Q,xq X.K (HH.ev c p) σ H Q->t σ H Q)(h:Iu X.K (gG (HH.ev c p)) σ H Q):t σ H fun x H1=>∃k,x=.bl k/\Q k H1:=by obtain⟨F,ρ,k,ρ',g,e,q⟩:=h;obtain⟨r,ρ1,e1,e2⟩:=aa e;have zz:=aF e2;clear e2;obtain⟨e2,e3⟩:=zz;subst e3;exact hi _ ⟨F,ρ,r,ρ1,g,e1,fun v F' H' s rr=>⟨k,rr.bool (vf e2),q F' H' s⟩⟩
theorem jL(h:SX X c e p)(he:∀whole,isTrue e X.env whole=(do let v<-whole;standAt e.pos;holding [v] (truthy v)):=by intro _;rfl):ST X c e p:=rJ (RQ h.ev he) fun σ H Q q=>jO (fun _ z=>z) q
theorem bK{o:Cm}{op:CmpOp}(ho:cR X (compareOp op) (rD X.K (lY o)))(ha:SX X c a pa)(hb:SX X c b pb)(hm:behindInMarks op b=false):ST X c (.Compare a [op] [b] pos) (.cmp o pa pb):=by obtain⟨ta,tb,h1,h2,h3⟩:=ha.gb hb;refine rJ (Ay ho h1 h2 hm) fun σ H Q q=>jO (t:=Pu (rD X.K (lY o)) ta tb) (fun Q z=>?_) q;obtain⟨F,ρ,r,ρ',g,e,k⟩:=z;rw[HH.E8]at e;obtain⟨xy,ρ1,e1,e2⟩:=aa e;have zz:=aF e2;clear e2;obtain⟨e2,e3⟩:=zz;subst e3;refine h3 g e1 fun v u F' H' s pv pu=>⟨F',xy.1,xy.2,r,s.gs.sub,pv,pu,e2,fun w F2 H2 x rn=>?_⟩;exact k w F2 H2 (s.trans (x.stp s.gs)) (.later s (rn.nG s.gs))
theorem sE(ha:ST X c a pa):ST X c (.UnaryOp .Not a pos) (.not pa):=by
 refine rJ (RZ ha) ?_;rintro σ H Q⟨F,ρ,k,ρ',g,e,q⟩;unfold gG at e;rw[HH.E5]at e;obtain⟨r,ρ1,e1,e2⟩:=aa e;obtain⟨k',ρ2,e3,e4⟩:=aa e1;cases e4;have zz:=aF e2;clear e2;obtain⟨e2,e5⟩:=zz;subst e5;have e2:(!k')=k:=by cases e2;rfl
 exact⟨F,ρ,k',_,g,e3,fun F' H' s=>by show Q (!k') H';rw[e2];exact q F' H' s⟩
theorem Lj(ρ:List Sl):gG (HH.ev c (.and pa pb)) ρ=(gG (HH.ev c pa) ρ).bind fun x ρ=>if x then gG (HH.ev c pb) ρ else .ok false ρ:=by unfold gG;rw[HH.E6];unfold gG;cases HH.ev c pa ρ with|exc _ _=>rfl|stuck=>rfl|ok r ρ1=>simp only[Res.bind];cases h:MN r.d with|none=>rfl|some k=>cases k with|false=>rfl|true=>simp only[lift,if_true];cases HH.ev c pb ρ1 with|exc _ _=>rfl|stuck=>rfl|ok r2 ρ2=>simp only[Res.bind];cases h2:MN r2.d with|none=>rfl|some k2=>rfl
theorem Qi(ρ:List Sl):gG (HH.ev c (.or pa pb)) ρ=(gG (HH.ev c pa) ρ).bind fun x ρ=>if x then .ok true ρ else gG (HH.ev c pb) ρ:=by unfold gG;rw[HH.E7];unfold gG;cases HH.ev c pa ρ with|exc _ _=>rfl|stuck=>rfl|ok r ρ1=>simp only[Res.bind];cases h:MN r.d with|none=>rfl|some k=>cases k with|true=>rfl|false=>simp only[lift,false_eq_true,if_false];cases HH.ev c pb ρ1 with|exc _ _=>rfl|stuck=>rfl|ok r2 ρ2=>simp only[Res.bind];cases h2:MN r2.d with|none=>rfl|some k2=>rfl
theorem Bh(ha:ST X c a pa):SW X c (.BoolOp .And [a] pos) pa:=Ks ha
theorem uz(ha:ST X c a pa):SW X c (.BoolOp .Or [a] pos) pa:=RM ha
theorem GX(ha:ST X c a pa)(hb:SW X c (.BoolOp .And (b::rest) pos) pb):SW X c (.BoolOp .And (a::b::rest) pos) (.and pa pb):=by refine Nb (Rj ha hb) ?_;rintro σ H Q⟨F,ρ,k,ρ',g,e,q⟩;rw[Lj]at e;obtain⟨x,ρ1,e1,e⟩:=aa e;refine⟨F,ρ,x,ρ1,g,e1,fun F1 H1 s1=>?_⟩;cases x with|true=>rw[if_pos rfl]at e ⊢;exact⟨F1,ρ1,k,ρ',s1.gs,e,fun F2 H2 s2=>q F2 H2 (s1.trans s2)⟩|false=>rw[if_neg Bool.false_ne_true]at e ⊢;cases e;exact q F1 H1 s1
theorem qL(ha:ST X c a pa)(hb:SW X c (.BoolOp .Or (b::rest) pos) pb):SW X c (.BoolOp .Or (a::b::rest) pos) (.or pa pb):=by refine Nb (Xj ha hb) ?_;rintro σ H Q⟨F,ρ,k,ρ',g,e,q⟩;rw[Qi]at e;obtain⟨x,ρ1,e1,e⟩:=aa e;refine⟨F,ρ,x,ρ1,g,e1,fun F1 H1 s1=>?_⟩;cases x with|true=>rw[if_pos rfl]at e ⊢;cases e;exact q F1 H1 s1|false=>rw[if_neg Bool.false_ne_true]at e ⊢;exact⟨F1,ρ1,k,ρ',s1.gs,e,fun F2 H2 s2=>q F2 H2 (s1.trans s2)⟩
theorem Ri(ha:SX X c a pa):SX X c (.UnaryOp .Not a pos) (.not pa):=by refine⟨cY (PJ ha.ev) ?_,fun i h=>by cases h⟩;rintro σ H Q⟨F,ρ,r,ρ',g,e,k⟩;rw[HH.E5]at e;obtain⟨x,ρ1,e1,e2⟩:=aa e;cases e2;exact jO (c:=c) (fun _ z=>z) ⟨F,ρ,x,_,g,e1,fun F' H' s=>k _ F' H' s (show Rep X.K F' _ _ from dC _)⟩
theorem Lp{op}(ha:SX X c a pa):PE X (.BoolOp op [a] pos) (xq X.K (HH.ev c pa)):=Qw ha.ev
theorem Td(ha:SX X c a pa)(hb:PE X (.BoolOp .And (b::rest) pos) (xq X.K (HH.ev c pb))):SX X c (.BoolOp .And (a::b::rest) pos) (.and pa pb):=by refine⟨cY (Rg ha.ev hb) ?_,fun i h=>by cases h⟩;rintro σ H Q⟨F,ρ,r,ρ',g,e,k⟩;rw[HH.E6]at e;obtain⟨x,ρ1,e1,e⟩:=aa e;refine jO (c:=c) (fun _ z=>z) (Q:=fun x H1=>if x=true then xq X.K (HH.ev c pb) σ H1 Q else Q (.bl false) H1) ⟨F,ρ,x,ρ1,g,e1,fun F1 H1 s1=>?_⟩;cases x with|true=>rw[if_pos rfl]at e ⊢;obtain⟨y,ρ2,e2,e3⟩:=aa e;cases e3;obtain⟨r2,ρ3,e4,e5⟩:=aa e2;have zz:=aF e5;clear e5;obtain⟨e5,e6⟩:=zz;subst e6;refine⟨F1,ρ1,r2,_,s1.gs,e4,fun v F2 H2 s2 rr=>?_⟩;rw[rr.bool (vf e5)];exact k _ F2 H2 (s1.trans s2) (show Rep X.K F2 _ _ from dC _)|false=>rw[if_neg Bool.false_ne_true]at e ⊢;cases e;exact k _ F1 H1 s1 (show Rep X.K F1 _ _ from dC _)
theorem tW(hc:ST X c e p)(ha:SX X c a pa)(hb:SX X c b pb):SX X c (.IfExp e a b pos) (.N8 p pa pb):=by refine⟨cY (Ex hc ha.ev hb.ev) ?_,fun i h=>by cases h⟩;rintro σ H Q⟨F,ρ,r,ρ',g,e,k⟩;rw[HH.E10]at e;obtain⟨x,ρ1,e1,e⟩:=aa e;refine⟨F,ρ,x,ρ1,g,e1,fun F1 H1 s1=>?_⟩;cases x with|true=>rw[if_pos rfl]at e ⊢;obtain⟨r2,ρ2,e2,e3⟩:=aa e;cases e3;refine⟨F1,ρ1,r2,_,s1.gs,e2,fun v F2 H2 s2 rr=>?_⟩;obtain⟨F3,s3,_,rp⟩:=s2.cN rr;exact k v F3 H2 (s1.trans s3) rp|false=>rw[if_neg Bool.false_ne_true]at e ⊢;obtain⟨r2,ρ2,e2,e3⟩:=aa e;cases e3;refine⟨F1,ρ1,r2,_,s1.gs,e2,fun v F2 H2 s2 rr=>?_⟩;obtain⟨F3,s3,_,rp⟩:=s2.cN rr;exact k v F3 H2 (s1.trans s3) rp
theorem sX:∀{ps:List P}{ρ ρ':List Sl}{ds:List D},evs c ps ρ=.ok ds ρ'->ds.length=ps.length|[],_,_,_,h=>by rw[evs]at h;cases h;rfl|p::ps,_,_,_,h=>by rw[evs]at h;obtain⟨r,ρ1,_,h⟩:=aa h;obtain⟨xs,ρ2,h2,h⟩:=aa h;cases h;simp[sX h2]
theorem bw:SA X c [] []:=⟨vO dZ fun σ H Q⟨F,ρ,ds,ρ',g,e,k⟩=>by rw[evs]at e;cases e;exact k [] F H (.refl g) .nil,rfl⟩
theorem Bl{es:List Expr}{ps:List P}(ha:SX X c a pa)(hr:SA X c es ps)(hs:starEach (a::es) X.env=(false,eval a X.env)::starEach es X.env:=by rfl):SA X c (a::es) (pa::ps):=by refine⟨vO (cB ha.ev hr.1 hs) ?_,by simp[hr.2]⟩;rintro σ H Q⟨F,ρ,ds,ρ',g,e,k⟩;rw[evs]at e;obtain⟨r,ρ1,e1,e⟩:=aa e;obtain⟨xs,ρ2,e2,e⟩:=aa e;cases e;refine⟨F,ρ,r,ρ1,g,e1,fun v F' H' s rr=>?_⟩;obtain⟨F1,s1,_,rp⟩:=s.cN rr;refine⟨F1,ρ1,xs,_,s1.gs,e2,fun vs F2 H2 s2 rs=>?_⟩;exact k _ F2 H2 (s1.trans s2) (.cons (rp.mono s2.cG) rs)
theorem Ext.Jr{K:PySem.W.Frag}{F H:Hp}{ρ ρ':List Sl}{σ:L2.St}{H0 F0:Hp}{Q:VK}{xs:List V}{ds:List D}(s:aq K F0 ρ σ H0 F ρ' σ H)(r:aC K F xs ds)(k:∀v F' H',aq K F0 ρ σ H0 F' ρ' σ H'->cj K F' ρ' σ H' ρ σ H0 v (.val (.tup ds))->Q v H')(p:Addr)(hp:H p=none):Q (.ref p) (upd H p (.tup xs)):=Dj s.gs.sub r hp fun v F' H' x rn=>k v F' H' (s.trans (x.stp s.gs)) rn
theorem dB{es:List Expr}{ps:List P}{x1}(h:SA X c es ps)(hz:ps.length<=sizeLine:=by decide):SX X c (.Tuple es x1 pos) (.tup ps):=by refine⟨cY (Pq h.1) ?_,fun i h=>by cases h⟩;rintro σ H Q⟨F,ρ,r,ρ',g,e,k⟩;rw[HH.E11]at e;obtain⟨ds,ρ1,e1,e⟩:=aa e;cases e;exact⟨F,ρ,ds,_,g,e1,fun vs F' H' s rs=>⟨by rw[rs.length,sX e1];exact hz,fun p hp=>Ext.Jr s rs k p hp⟩⟩
theorem dz{es:List Expr}{ps:List P}(h:SA X c es ps)(hz:ps.length<=sizeLine:=by decide):SX X c (.List es pos) (.lst ps):=by refine⟨cY (SN h.1) ?_,fun i h=>by cases h⟩;rintro σ H Q⟨F,ρ,r,ρ',g,e,k⟩;rw[HH.E12]at e;obtain⟨ds,ρ1,e1,e⟩:=aa e;cases e;exact⟨F,ρ,ds,_,g,e1,fun vs F' H' s rs=>⟨by rw[rs.length,sX e1];exact hz,fun p hp=>vX s.gs.sub rs hp fun v F2 H2 x rn=>k v F2 H2 (s.trans (x.stp s.gs)) (.later s (rn.nG s.gs))⟩⟩
theorem Fj{ds:List D}{i:Int}{d:D}(h:at' ds i=some d):∃j,L2.ie ds.length i=some j/\ds[j]?=some d:=bI h
theorem acE:ZQ X (rD X.K Jl):=by
 rintro value slice pins s σ H x y v u Q I rx ry⟨F,d,e,r,sm,px,py,he,k⟩hs;unfold Jl at he;obtain⟨ds,e1,he⟩:=bI he;obtain⟨i,e2,he⟩:=bI he;obtain⟨z,e3,he⟩:=map_some he;subst he;cases cz e2;rw[py.int]at ry;obtain⟨p,xs,rfl,hq,rs⟩:=px.items sm e1;obtain⟨j,h1,h2⟩:=Fj e3;obtain⟨w,h3,h4⟩:=rs.get h2;have hat:Gk xs i=some w:=by unfold Gk;rw[rs.length,h1];exact h3
 rcases hq with hq|hq;.exact Ar value slice pins s σ H _ _ v u Q I rx ry ⟨p,xs,i,w,rfl,rfl,hq,hat,bB.bQ sm h4 k⟩ hs
 .exact S7 value slice pins s σ H _ _ v u Q I rx ry ⟨p,xs,i,w,rfl,rfl,hq,hat,bB.bQ sm h4 k⟩ hs
theorem aG(ha:SX X c a pa)(hb:SX X c b pb)(hs:tG b:=by intro _ _;rfl):SX X c (.Subscript a b pos) (.idx pa pb):=uD (f:=Jl) (fun h1 h2=>NK acE h1 h2 hs) ha hb (fun ρ=>rfl) rfl
def Lr(K:PySem.W.Frag)(f:D->Option R):List V->Hp->VK->Prop:=fun xs H Q=>∃x,xs=[x]/\rD1 K f x H Q
theorem mU{E:Expr}{f:D->Option R}{q:P}(hp:∀{t},PA X [a] t->PE X E (Xw (Lr X.K f) t))(ha:SX X c a pa)(hq:∀ρ,HH.ev c q ρ=(HH.bY (isVar pa) (HH.ev c pa) ρ).bind fun x ρ=>lift (f x) ρ)(hv:isVar q=none)(hs:starEach [a] X.env=(false,eval a X.env)::starEach [] X.env:=by rfl):SX X c E q:=by obtain⟨ta,h1,h3⟩:=ha.bY;refine⟨cY (hp (cB h1 dZ hs)) ?_,fun i h=>by rw[hv]at h;cases h⟩;rintro σ H Q⟨F,ρ,r,ρ',g,e,k⟩;rw[hq]at e;obtain⟨x,ρ1,e1,e2⟩:=aa e;have zz:=aF e2;clear e2;obtain⟨e2,e3⟩:=zz;subst e3;refine h3 g e1 fun v F' H' s pv=>⟨v,rfl,F',x,r,s.gs.sub,pv,e2,fun w F2 H2 x rn=>?_⟩;exact k w F2 H2 (s.trans (x.stp s.gs)) (.later s (rn.nG s.gs))
theorem Wd:cW X (.builtin "len") (Lr X.K fun x=>blt .len [x]):=by rintro pins s σ H xs us Q I r⟨x,hx,F,d,r',sm,px,he,k⟩;obtain⟨ds,e1,he⟩:=map_some (show(items d).map _=some r' from he);subst he;obtain⟨p,ys,rfl,hq,rs⟩:=px.items sm e1;exact ug pins s σ H xs us Q I r ⟨p,ys,hx,hq,by rw[rs.length];exact bB.bQ sm (bz _) k⟩
theorem Rf:cW X (.type "list") (Lr X.K fun x=>blt .list [x]):=by rintro pins s σ H xs us Q I r⟨x,hx,F,d,r',sm,px,he,k⟩;obtain⟨ds,e1,he⟩:=map_some (show(items d).map _=some r' from he);subst he;obtain⟨p,ys,rfl,hq,rs⟩:=px.items sm e1;exact uA pins s σ H xs us Q I r ⟨p,ys,hx,hq,fun l hl=>vX sm rs hl k⟩
theorem Ke:cW X (.type "tuple") (Lr X.K fun x=>blt .tuple [x]):=by rintro pins s σ H xs us Q I r⟨x,hx,F,d,r',sm,px,he,k⟩;obtain⟨ds,e1,he⟩:=map_some (show(items d).map _=some r' from he);subst he;cases d with|tup es=>cases e1;obtain⟨a,ys,rfl,hq,rs,rt⟩:=px.tup sm;exact jB pins s σ H xs us Q I r ⟨a,ys,hx,.inr ⟨hq,bB.bQ sm rt k⟩⟩|lst es=>cases e1;obtain⟨a,ys,rfl,hq,rs⟩:=px.lst sm;exact jB pins s σ H xs us Q I r ⟨a,ys,hx,.inl ⟨hq,fun l hl=>Dj sm rs hl k⟩⟩|_=>cases e1
theorem pF{x:Str}{p':Pos}(hx:x="len")(hg:Gl X x)(hm:X.mg x=none)(ha:SX X c a pa)(hs:starEach [a] X.env=(false,eval a X.env)::starEach [] X.env:=by rfl):SX X c (.Call (.Name x p') [a] [] pos) (.blt .len [pa]):=by subst hx;exact mU (fun h=>dm Wd hg hm PySem.boot_len h (he:=hs)) ha (fun ρ=>rfl) rfl hs
theorem Ld{x:Str}{p':Pos}(hx:x="list")(hg:Gl X x)(hm:X.mg x=none)(ha:SX X c a pa)(hs:starEach [a] X.env=(false,eval a X.env)::starEach [] X.env:=by rfl):SX X c (.Call (.Name x p') [a] [] pos) (.blt .list [pa]):=by subst hx;exact mU (fun h=>mF Rf hg hm (by decide+kernel) h (he:=hs)) ha (fun ρ=>rfl) rfl hs
theorem wu{x:Str}{p':Pos}(hx:x="tuple")(hg:Gl X x)(hm:X.mg x=none)(ha:SX X c a pa)(hs:starEach [a] X.env=(false,eval a X.env)::starEach [] X.env:=by rfl):SX X c (.Call (.Name x p') [a] [] pos) (.blt .tuple [pa]):=by subst hx;exact mU (fun h=>mF Ke hg hm (by decide+kernel) h (he:=hs)) ha (fun ρ=>rfl) rfl hs
end
def ik(K:PySem.W.Frag)(np:Nat)(f:List Sl->Res R):Sp:=fun vs H Q _=>vs.length=np/\∃F args r args',GS K F args (vs.map some) H/\f args=.ok r args'/\∀v F' σ' H',aq K F args (vs.map some) H F' args' σ' H'->cj K F' args' σ' H' args (vs.map some) H v r->Q v H'
section
variable{K:PySem.W.Frag}
def yF(K:PySem.W.Frag)(F:Hp)(ρ:List Sl)(σ:L2.St)(H:Hp)(ρ₀:List Sl)(H₀:Hp)(v:V):Arg->Prop|.dat d=>Rep K F v d|.tmp ds=>∃x xs,v=.ref x/\H x=some (.lst xs)/\F x=none/\aC K F xs ds/\¬ Own ρ σ x/\(Own ρ₀ σ x\/H₀ x=none)|.dq i=>σ[i]?=some (some v)
structure wA(K:PySem.W.Frag)(F:Hp)(ρ:List Sl)(σ:L2.St)(H:Hp)(ρ₀:List Sl)(H₀:Hp)(as:List Arg)(vs:List V):Prop where
 len:as.length=vs.length
 one:∀(j:Nat)(a:Arg)(v:V),as[j]?=some a->vs[j]?=some v->yF K F ρ σ H ρ₀ H₀ v a
 dis:∀(j k:Nat)(ds es:List D)(x:Addr),as[j]?=some (.tmp ds)->as[k]?=some (.tmp es)->vs[j]?=some (.ref x)->vs[k]?=some (.ref x)->j=k
theorem yF.later{F F' H H' H₀:Hp}{ρ ρ' ρ₀:List Sl}{σ:L2.St}{v:V}{a:Arg}(s:aq K F ρ σ H F' ρ' σ H')(h:yF K F ρ σ H ρ₀ H₀ v a):yF K F' ρ' σ H' ρ₀ H₀ v a:=by cases a with|dat d=>exact Rep.mono s.cG h|dq i=>exact h|tmp ds=>
   obtain⟨x,xs,h1,h2,h3,h4,h5,h6⟩:=h;refine⟨x,xs,h1,s.keep x _ h2 h5,?_,h4.mono s.cG,fun o=>?_,h6⟩;.cases q:F' x with|none=>rfl|some o=>
       rcases s.wX x h3 (by rw[q];simp)with z|z;.exact absurd z h5
       .exact(Fy h2 z).elim
   . rcases s.uK x o with z|z;.exact h5 z
     .rw[h2]at z;cases z
theorem wA.nil{F H H₀:Hp}{ρ ρ₀:List Sl}{σ:L2.St}:wA K F ρ σ H ρ₀ H₀ [] []:=⟨rfl,fun j a v h=>by simp at h,fun j k ds es x h=>by simp at h⟩
theorem wA.cons{F H H₀:Hp}{ρ ρ₀:List Sl}{σ:L2.St}{a:Arg}{v:V}{as:List Arg}{vs:List V}(h:yF K F ρ σ H ρ₀ H₀ v a)(t:wA K F ρ σ H ρ₀ H₀ as vs)(hd:∀ds x,a=.tmp ds->v=.ref x->∀(k:Nat)es,as[k]?=some (.tmp es)->vs[k]?≠some (.ref x)):wA K F ρ σ H ρ₀ H₀ (a::as) (v::vs):=by
 refine⟨by simp[t.len],fun j b u h1 h2=>?_,fun j k ds es x h1 h2 h3 h4=>?_⟩;.cases j with|zero=>simp at h1 h2;subst h1;subst h2;exact h|succ j=>exact t.one j b u (by simpa using h1) (by simpa using h2)
 .cases j with
   |zero=>cases k with|zero=>rfl|succ k=>simp at h1 h3;exact absurd (by simpa using h4) (hd ds x h1 h3 k es (by simpa using h2))
   |succ j=>cases k with|zero=>simp at h2 h4;exact absurd (by simpa using h3) (hd es x h2 h4 j ds (by simpa using h1))|succ k=>rw[t.dis j k ds es x (by simpa using h1) (by simpa using h2) (by simpa using h3) (by simpa using h4)]
def Hs(ρ:List Sl):Arg->Sl->Prop|.dat d,s=>s=.val false d|.tmp ds,s=>s=.own false ds|.dq i,s=>(∃b d,ρ[i]?=some (.val b d)/\s=.val false d)\/(∃b ds,ρ[i]?=some (.own b ds)/\s=.own true ds)\/∃ds,ρ[i]?=some (.lent ds)/\s=.lent ds
theorem oH{ρ:List Sl}:∀{as:List Arg}{used:List Nat}{args:List Sl},bC ρ as used=some args->args.length=as.length/\(∀(j:Nat)(a:Arg)(s:Sl),as[j]?=some a->args[j]?=some s->Hs ρ a s)/\(∀(j:Nat)(i:Nat)(s:Sl)ds,as[j]?=some (.dq i)->args[j]?=some s->lst? s=some ds->i∉used)/\(∀(j k:Nat)(i:Nat)(s t:Sl)ds es,as[j]?=some (.dq i)->as[k]?=some (.dq i)->args[j]?=some s->args[k]?=some t->lst? s=some ds->lst? t=some es->j=k)
 |[],used,args,h=>by rw[bC]at h;cases h;exact⟨rfl,fun j a s h=>by simp at h,fun j i s ds h=>by simp at h,fun j k i s t ds es h=>by simp at h⟩|a::as,used,args,h=>by--the ac4 slot,the ac5
   have key:∃s0 r wY,args=s0::r/\bC ρ as wY=some r/\Hs ρ a s0/\((∃i ds,a=.dq i/\lst? s0=some ds/\wY=i::used/\i∉used)\/((∀i ds,a=.dq i->lst? s0≠some ds)/\wY=used)):=by cases a with|dat d=>rw[bC]at h;obtain⟨r,e1,e2⟩:=map_some h;exact⟨_,r,used,e2.symm,e1,rfl,.inr ⟨fun i ds z=>(by cases z),rfl⟩⟩|tmp d=>rw[bC]at h;obtain⟨r,e1,e2⟩:=map_some h;exact⟨_,r,used,e2.symm,e1,rfl,.inr ⟨fun i ds z=>(by cases z),rfl⟩⟩|dq i=>
      rw[bC]at h;split at h;.rename_i b d q;obtain⟨r,e1,e2⟩:=map_some h;exact⟨_,r,used,e2.symm,e1,.inl ⟨b,d,q,rfl⟩,.inr ⟨fun _ _ _ z=>(by cases z),rfl⟩⟩
      . rename_i b ds q;split at h;.cases h
        .rename_i hu;obtain⟨r,e1,e2⟩:=map_some h;exact⟨_,r,_,e2.symm,e1,.inr (.inl ⟨b,ds,q,rfl⟩),.inl ⟨i,_,rfl,rfl,rfl,by simpa using hu⟩⟩
      . rename_i ds q;split at h;.cases h
        .rename_i hu;obtain⟨r,e1,e2⟩:=map_some h;exact⟨_,r,_,e2.symm,e1,.inr (.inr ⟨ds,q,rfl⟩),.inl ⟨i,_,rfl,rfl,rfl,by simpa using hu⟩⟩
      .cases h
   obtain⟨s0,r,wY,rfl,hr,hs0,hu⟩:=key;obtain⟨l1,l2,l3,l4⟩:=oH hr;have sub:∀i,i∉wY->i∉used:=fun i hi hm=>by
    rcases hu with⟨_,_,_,_,rfl,_⟩|⟨_,rfl⟩;.exact hi (mem_cons_of_mem _ hm)
    .exact hi hm
   refine⟨by simp[l1],fun j b s h1 h2=>?_,fun j i s ds h1 h2 h3=>?_,fun j k i s t ds es h1 h2 h3 h4 h5 h6=>?_⟩;.cases j with|zero=>simp at h1 h2;subst h1;subst h2;exact hs0|succ j=>exact l2 j b s (by simpa using h1) (by simpa using h2)
   .cases j with|zero=>
       simp at h1 h2;subst h1;subst h2;rcases hu with⟨i',_,e,_,_,hn⟩|⟨hn,_⟩;.cases e;exact hn
       .exact absurd h3 (hn i ds rfl)|succ j=>exact sub i (l3 j i s ds (by simpa using h1) (by simpa using h2) h3)
   . have z0:∀(k:Nat)(t:Sl)es,a=.dq i->lst? s0=some ds->(as[k]?=some (.dq i))->r[k]?=some t->lst? t=some es->False:=fun k t es ea e0 hk ht he=>by
      rcases hu with⟨i',_,e,_,rfl,hn⟩|⟨hn,_⟩;.rw[ea]at e;cases e;exact l3 k i t es hk ht he mem_cons_self
      .exact hn i ds ea e0
     have z1:∀(k:Nat)(t:Sl)es,a=.dq i->lst? s0=some es->(as[k]?=some (.dq i))->r[k]?=some t->lst? t=some ds->False:=fun k t es ea e0 hk ht he=>by
      rcases hu with⟨i',_,e,_,rfl,hn⟩|⟨hn,_⟩;.rw[ea]at e;cases e;exact l3 k i t ds hk ht he mem_cons_self
      .exact hn i es ea e0
     cases j with
     |zero=>cases k with|zero=>rfl|succ k=>simp at h1 h3;subst h3;exact(z0 k t es h1 h5 (by simpa using h2) (by simpa using h4) h6).elim
     |succ j=>cases k with|zero=>simp at h2 h4;subst h4;exact(z1 j s es h2 h6 (by simpa using h1) (by simpa using h3) h5).elim|succ k=>rw[l4 j k i s t ds es (by simpa using h1) (by simpa using h2) (by simpa using h3) (by simpa using h4) h5 h6]
theorem wA.get{F H H₀:Hp}{ρ ρ₀:List Sl}{σ:L2.St}{as:List Arg}{vs:List V}(A:wA K F ρ σ H ρ₀ H₀ as vs){args:List Sl}{j:Nat}{s:Sl}(hl:args.length=as.length)(h:args[j]?=some s):∃a v,as[j]?=some a/\vs[j]?=some v/\yF K F ρ σ H ρ₀ H₀ v a:=by
 have hj:j<args.length:=(List.getElem?_eq_some_iff.mp h).1;have h1:j<as.length:=by omega
 have h2:j<vs.length:=by rw[<-A.len];exact h1
 exact⟨as[j],vs[j],by simp[h1],by simp[h2],A.one j _ _ (by simp[h1]) (by simp[h2])⟩
theorem args_gs{F H H₀:Hp}{ρ ρ₀:List Sl}{σ:L2.St}{as:List Arg}{vs:List V}{args:List Sl}(g:GS K F ρ σ H)(A:wA K F ρ σ H ρ₀ H₀ as vs)(h:bC ρ as []=some args):GS K F args (vs.map some) H:=by
 obtain⟨l1,l2,l3,l4⟩:=oH h;have up:∀{j:Nat}{v:V},vs[j]?=some v->(vs.map some)[j]?=some (some v):=fun e=>by rw[getElem?_map,e];rfl
 have dn:∀{j:Nat}{v:V},(vs.map some)[j]?=some (some v)->vs[j]?=some v:=fun{j v}e=>by rw[getElem?_map]at e;cases q:vs[j]?with|none=>rw[q]at e;cases e|some w=>rw[q]at e;cases e;rfl
 refine⟨g.sub,by rw[l1,A.len,length_map],fun j b d e=>?_,fun j s ds e e'=>?_,fun j k x⟨⟨s,ds,e1,e2⟩,e3⟩⟨⟨t,es,f1,f2⟩,f3⟩=>?_⟩;.obtain⟨a,v,h1,h2,h3⟩:=A.get l1 e;have h4:=l2 j a _ h1 e;refine⟨v,up h2,?_⟩;cases a with|dat d'=>cases h4;exact h3|tmp ds=>cases h4|dq i=>
     rcases h4 with⟨b',d',q1,q2⟩|⟨_,_,_,q2⟩|⟨_,_,q2⟩;.cases q2;obtain⟨w,q3,q4⟩:=g.val i b' d q1;have h3:σ[i]?=some (some v):=h3;rw[h3]at q3;cases q3;exact q4
     .cases q2
     .cases q2
 .obtain⟨a,v,h1,h2,h3⟩:=A.get l1 e;have h4:=l2 j a _ h1 e;cases a with|dat d'=>cases h4;cases e'|tmp es=>cases h4;cases e';obtain⟨x,xs,rfl,q2,q3,q4,_⟩:=h3;exact⟨x,_,up h2,q2,q3,xs,rfl,q4⟩|dq i=>
     have h3:σ[i]?=some (some v):=h3;rcases h4 with⟨b',d',q1,q2⟩|⟨b',es,q1,q2⟩|⟨es,q1,q2⟩;.cases q2;cases e'
     .cases q2;cases e';obtain⟨x,xs,q3,q4⟩:=g.own i _ _ q1 rfl;rw[h3]at q3;cases q3;exact⟨x,xs,up h2,q4⟩
     .cases q2;cases e';obtain⟨x,xs,q3,q4⟩:=g.own i _ _ q1 rfl;rw[h3]at q3;cases q3;exact⟨x,xs,up h2,q4⟩
 . obtain⟨a,v,h1,h2,h3⟩:=A.get l1 e1;obtain⟨a',v',h1',h2',h3'⟩:=A.get l1 f1;have e3:=dn e3;have f3:=dn f3;rw[h2]at e3;cases e3;rw[h2']at f3;cases f3;have s1:=l2 j a _ h1 e1;have s2:=l2 k a' _ h1' f1;have nm:∀{i:Nat}{s:Sl}{ds:Oc},lst? s=some ds->Hs ρ (.dq i) s->∃s' ds',ρ[i]?=some s'/\lst? s'=some ds':=fun{i s ds}l z=>by
    rcases z with⟨_,_,_,z⟩|⟨b,es,q,_⟩|⟨es,q,_⟩;.subst z;cases l
    .exact⟨_,_,q,rfl⟩
    .exact⟨_,_,q,rfl⟩
   cases a with
   |dat d=>cases s1;cases e2|tmp Tj=>cases a' with|dat d=>cases s2;cases f2|tmp LR=>exact A.dis j k Tj LR x h1 h1' h2 h2'|dq i=>obtain⟨y,_,q1,_,_,_,q2,_⟩:=h3;cases q1;obtain⟨s',ds',q3,q4⟩:=nm f2 s2;exact absurd ⟨i,⟨s',ds',q3,q4⟩,h3'⟩ q2
   |dq i=>obtain⟨s',ds',q3,q4⟩:=nm e2 s1;cases a' with|dat d=>cases s2;cases f2|tmp LR=>obtain⟨y,_,q1,_,_,_,q2,_⟩:=h3';cases q1;exact absurd ⟨i,⟨s',ds',q3,q4⟩,h3⟩ q2|dq i'=>obtain⟨s'',ac6,q5,q6⟩:=nm f2 s2;have:=g.dis i i' x ⟨⟨s',ds',q3,q4⟩,h3⟩ ⟨⟨s'',ac6,q5,q6⟩,h3'⟩;subst this;exact l4 j k i s t ds es h1 h1' e1 f1 e2 f2
theorem mG{as:List Arg}{ss:List Sl}:∀(ρ:List Sl)(n i:Nat),(cJ as ss n ρ)[i]?=(ρ[i]?).map fun s=>cX s (aQ (n+i) as ss)
 |[],n,i=>by simp[cJ]|s::ρ,n,0=>by simp[cJ]|s::ρ,n,i+1=>by
   rw[cJ];simp only[List.getElem?_cons_succ];rw[mG ρ (n+1) i];have:n+1+i=n+(i+1):=by omega
   rw[this]
theorem mH{as:List Arg}{ss:List Sl}:∀(ρ:List Sl)(n:Nat),(cJ as ss n ρ).length=ρ.length|[],n=>rfl|s::ρ,n=>by rw[cJ];simp[mH ρ]
theorem gM{i:Nat}:∀{as:List Arg}{ss:List Sl}{t:Sl},aQ i as ss=some t->∃j:Nat,as[j]?=some (.dq i)/\ss[j]?=some t
 |[],_,_,h=>by simp[aQ]at h|a::as,[],_,h=>by cases a<;>simp[aQ]at h|a::as,s::ss,t,h=>by
   have tl:aQ i as ss=some t->∃j:Nat,(a::as)[j]?=some (.dq i)/\(s::ss)[j]?=some t:=fun h=>by obtain⟨j,h1,h2⟩:=gM h;exact⟨j+1,by simpa using h1,by simpa using h2⟩
   cases a with|dat d=>exact tl (by simpa[aQ]using h)|tmp d=>exact tl (by simpa[aQ]using h)|dq k=>
     rw[aQ]at h;split at h;.rename_i hk;cases h;subst hk;exact⟨0,rfl,rfl⟩
     .exact tl h
theorem jH{i:Nat}:∀{as:List Arg}{ss:List Sl},as.length=ss.length->aQ i as ss=none->∀j:Nat,as[j]?≠some (.dq i)
 |[],_,_,_=>fun j h=>by simp at h|a::as,[],hl,_=>by simp at hl|a::as,s::ss,hl,h=>fun j hj=>by
   have hl':as.length=ss.length:=by simpa using hl
   have tl:aQ i as ss=none/\a≠.dq i:=by cases a with|dat d=>exact⟨by simpa[aQ]using h,by simp⟩|tmp d=>exact⟨by simpa[aQ]using h,by simp⟩|dq k=>
      rw[aQ]at h;split at h;.cases h
      .rename_i hk;exact⟨h,fun e=>hk (by cases e;rfl)⟩
   cases j with|zero=>simp at hj;exact tl.2 hj|succ j=>exact jH hl' tl.1 j (by simpa using hj)
theorem Et{F₀ H₀ F H F' H':Hp}{ρ₀ ρ args args':List Sl}{σ σ':L2.St}{as:List Arg}{vs:List V}(s0:aq K F₀ ρ₀ σ H₀ F ρ σ H)(A:wA K F ρ σ H ρ₀ H₀ as vs)(hb:bC ρ as []=some args)(s:aq K F args (vs.map some) H F' args' σ' H'):aq K F₀ ρ₀ σ H₀ F' (cJ as args' 0 ρ) σ H'/\∀v r,cj K F' args' σ' H' args (vs.map some) H v r->cj K F' (cJ as args' 0 ρ) σ H' ρ₀ σ H₀ v r:=by
 have g:=s0.gs;obtain⟨l1,l2,l3,l4⟩:=oH hb;have up:∀{j:Nat}{v:V},vs[j]?=some v->(vs.map some)[j]?=some (some v):=fun e=>by rw[getElem?_map,e];rfl
 have dn:∀{j:Nat}{v:V},(vs.map some)[j]?=some (some v)->vs[j]?=some v:=fun{j v}e=>by rw[getElem?_map]at e;cases q:vs[j]?with|none=>rw[q]at e;cases e|some w=>rw[q]at e;cases e;rfl
 have la:as.length=args'.length:=by rw[s.len,l1]--whose are the lists that the callee holds
 have own:∀b,Own args (vs.map some) b->(∃(j:Nat)(ds:List D),as[j]?=some (Arg.tmp ds)/\vs[j]?=some (V.ref b)/\¬ Own ρ σ b/\(Own ρ₀ σ b\/H₀ b=none))\/Own ρ σ b:=fun b⟨j,⟨sl,ds,e1,e2⟩,e3⟩=>by obtain⟨a,v,h1,h2,h3⟩:=A.get l1 e1;have s1:=l2 j a _ h1 e1;have e3:=dn e3;rw[h2]at e3;cases e3;cases a with|dat d=>cases s1;cases e2|tmp es=>obtain⟨x,_,q1,_,_,_,q2,q3⟩:=h3;cases q1;exact .inl ⟨j,es,h1,h2,q2,q3⟩|dq i=>
    right;rcases s1 with⟨_,_,_,z⟩|⟨b',es,q,_⟩|⟨es,q,_⟩;.subst z;cases e2
    .exact⟨i,⟨_,_,q,rfl⟩,h3⟩
    .exact⟨i,⟨_,_,q,rfl⟩,h3⟩
 have back:∀b,Own ρ σ b\/H b=none->Own ρ₀ σ b\/H₀ b=none:=fun b h=>by
  rcases h with h|h;.exact s0.uK b h
  . by_cases ho:Own ρ₀ σ b;.exact .inl ho
    .right;cases e:H₀ b with|none=>rfl|some o=>rw[s0.keep b o e ho]at h;cases h
 have own':∀b,Own args (vs.map some) b->Own ρ₀ σ b\/H₀ b=none:=fun b h=>by
  rcases own b h with⟨_,_,_,_,_,z⟩|z;.exact z
  .exact back b (.inl z)--a name's slot behind the call
 have slot:∀{i:Nat}{t:Sl},(cJ as args' 0 ρ)[i]?=some t->∃s1,ρ[i]?=some s1/\t=cX s1 (aQ i as args'):=fun{i t}h=>by rw[mG]at h;obtain⟨s1,e1,e2⟩:=map_some h;exact⟨s1,e1,by rw[<-e2,Nat.zero_add]⟩
 have Yk:∀{i:Nat}{s1:Sl},ρ[i]?=some s1->(cJ as args' 0 ρ)[i]?=some (cX s1 (aQ i as args')):=fun{i s1}h=>by rw[mG,h,Nat.zero_add];rfl--what the callee left of a list that was lent to it
 have lent:∀{i j:Nat}{s1 t:Sl}{ds:List D},ρ[i]?=some s1->lst? s1=some (.l ds)->as[j]?=some (.dq i)->args'[j]?=some t->∃v s2,σ[i]?=some (some v)/\σ'[j]?=some (some v)/\args[j]?=some s2/\kZ s2 t/\((∃b,s1=.own b ds/\s2=.own true ds)\/(s1=.lent ds/\s2=.lent ds)):=fun{i j s1 t ds}h1 h2 h3 h4=>by
  have hj:j<args.length:=by rw[l1];exact(List.getElem?_eq_some_iff.mp h3).1
  have e1:args[j]?=some args[j]:=by simp[hj]
  obtain⟨a,v,q1,q2,q3⟩:=A.get l1 e1;rw[h3]at q1;cases q1;have q4:=l2 j _ _ h3 e1;have kind:(∃b,s1=.own b ds/\args[j]=.own true ds)\/(s1=.lent ds/\args[j]=.lent ds):=by
   rcases q4 with⟨_,_,z,_⟩|⟨b,es,z,z'⟩|⟨es,z,z'⟩;.rw[h1]at z;cases z;cases h2
   .rw[h1]at z;cases z;cases h2;exact .inl ⟨b,rfl,z'⟩
   .rw[h1]at z;cases z;cases h2;exact .inr ⟨rfl,z'⟩
  have lk:ud args[j]=true:=by rcases kind with⟨_,_,z⟩|⟨_,z⟩<;>rw[z]<;>rfl
  obtain⟨z1,s',z2,z3⟩:=s.lk j _ e1 lk;rw[h4]at z2;cases z2;exact⟨v,_,q3,by rw[z1];exact up q2,e1,z3,kind⟩
 have Ma:∀{i:Nat}{x:Addr},aM (cJ as args' 0 ρ) σ i x->aM ρ σ i x:=fun{i x}⟨⟨t,ds,e1,e2⟩,e3⟩=>by obtain⟨s1,q1,q2⟩:=slot e1;refine⟨?_,e3⟩;cases s1 with|aV=>subst q2;cases e2|val b d=>subst q2;cases e2|own b es=>exact⟨_,_,q1,rfl⟩|lent es=>exact⟨_,_,q1,rfl⟩|eY m=>exact⟨_,_,q1,rfl⟩|cF m=>exact⟨_,_,q1,rfl⟩|hold _=>subst q2;cases e2
 refine⟨?_,fun v r h=>?_⟩;rotate_left;.cases r with|val d=>exact h|own ds=>
     obtain⟨x,xs,h1,h2,h3,h4,h5,h6⟩:=h;refine⟨x,xs,h1,h2,h3,h4,fun⟨i,h⟩=>?_,?_⟩
     . have hO:=Ma h;obtain⟨⟨s1,Tj,q1,q2⟩,q3⟩:=hO;obtain⟨x',xs',w1,w2,_⟩:=g.own i s1 Tj q1 q2;rw[q3]at w1;cases w1;rcases h6 with h6|h6
       . rcases own x h6 with⟨_,_,_,_,z,_⟩|_;.exact z ⟨i,⟨s1,Tj,q1,q2⟩,q3⟩
         .--a name was lent
           obtain⟨j,⟨sl,es,w3,w4⟩,w5⟩:=h6;obtain⟨a',v',y1,y2,y3⟩:=A.get l1 w3;have sa:=l2 j a' _ y1 w3;have w5:=dn w5;rw[y2]at w5;cases w5;cases a' with|dat d=>cases sa;cases w4|tmp es'=>obtain⟨_,_,u1,_,_,_,u2,_⟩:=y3;cases u1;exact u2 ⟨i,⟨s1,Tj,q1,q2⟩,q3⟩|dq i'=>
             have ex:∃s' ds',ρ[i']?=some s'/\lst? s'=some ds':=by
              rcases sa with⟨_,_,_,z⟩|⟨b,es,q,_⟩|⟨es,q,_⟩;.subst z;cases w4
              .exact⟨_,_,q,rfl⟩
              .exact⟨_,_,q,rfl⟩
             have:=g.dis i i' x ⟨⟨s1,Tj,q1,q2⟩,q3⟩ ⟨ex,y3⟩;subst this;have hk:∃LR,Tj=.l LR:=by
              rcases sa with⟨_,_,_,z⟩|⟨b,es,q,_⟩|⟨es,q,_⟩;.subst z;cases w4
              .rw[q1]at q;cases q;cases q2;exact⟨_,rfl⟩
              .rw[q1]at q;cases q;cases q2;exact⟨_,rfl⟩
             obtain⟨LR,rfl⟩:=hk;have hj:j<args'.length:=by rw[<-la];exact(List.getElem?_eq_some_iff.mp y1).1
             have e':args'[j]?=some args'[j]:=by simp[hj]
             obtain⟨v2,s2,u1,u2,u3,u4,u5⟩:=lent q1 q2 y1 e';rw[q3]at u1;cases u1--the slot behind the call is a list's
             obtain⟨⟨t,dt,t1,t2⟩,_⟩:=h;obtain⟨s3,t3,t4⟩:=slot t1;rw[q1]at t3;cases t3;have lo:∃t5,aQ i as args'=some t5:=by cases hl:aQ i as args' with|none=>exact absurd y1 (jH la hl j)|some t5=>exact⟨t5,rfl⟩
             obtain⟨t5,hl⟩:=lo;obtain⟨j2,t6,t7⟩:=gM hl;have hj2:j2<args.length:=by rw[l1];exact(List.getElem?_eq_some_iff.mp t6).1
             obtain⟨_,s6,_,v2',v3',v4',v5'⟩:=lent q1 q2 t6 t7;have l4':j2=j:=by
              have a1:lst? s6=some (.l LR):=by rcases v5' with⟨_,_,z⟩|⟨_,z⟩<;>rw[z]<;>rfl
              have a2:lst? s2=some (.l LR):=by rcases u5 with⟨_,_,z⟩|⟨_,z⟩<;>rw[z]<;>rfl
              exact l4 j2 j i s6 s2 _ _ t6 y1 v3' u3 a1 a2
             subst l4';rw[e']at t7;cases t7;rw[hl]at t4;refine h5 ⟨j2,?_,u2⟩;rcases u5 with⟨b,z1,z2⟩|⟨z1,z2⟩
             . subst z1;subst z2;rcases u4 with⟨d2,z⟩|⟨d2,z⟩;.exact⟨_,.l d2,e',by rw[z];rfl⟩
               .rw[z]at t4;subst t4;cases t2
             .subst z1;subst z2;exact⟨_,.l LR,e',by rw[show args'[j2]=.lent LR from u4];rfl⟩
       .rw[w2]at h6;cases h6
     . rcases h6 with h6|h6;.exact own' x h6
       .exact back x (.inr h6)
 refine⟨⟨s.gs.sub,by rw[mH];exact g.len,fun i b d e=>?_,fun i t ds e e'=>?_,fun i j x h1 h2=>g.dis i j x (Ma h1) (Ma h2)⟩,s0.cG.trans s.cG,fun b n n'=>?_,fun b o h n=>?_,fun b⟨i,h⟩=>back b (.inl ⟨i,Ma h⟩),by rw[mH];exact s0.len,fun i s1 h l=>?_⟩;.--data
   obtain⟨s1,q1,q2⟩:=slot e;cases s1 with|aV=>cases q2|lent es=>cases q2|eY _=>cases q2|cF _=>cases q2|hold _=>cases q2|val b' d'=>cases q2;obtain⟨v,z1,z2⟩:=g.val i b d q1;exact⟨v,z1,z2.mono s.cG⟩|own b' es=>cases hl:aQ i as args' with|none=>rw[hl]at q2;cases q2|some t=>rw[hl]at q2;obtain⟨j,z1,z2⟩:=gM hl;obtain⟨v,s2,y1,y2,y3,y4,y5⟩:=lent q1 rfl z1 z2;cases t with|aV=>cases q2|own _ _=>cases q2|lent _=>cases q2|eY _=>cases q2|cF _=>cases q2|hold _=>cases q2|val b2 d2=>cases q2;obtain⟨w,x1,x2⟩:=s.gs.val j b2 d z2;rw[y2]at x1;cases x1;exact⟨v,y1,x2⟩
 .--lists
   obtain⟨s1,q1,q2⟩:=slot e--a list that was not lent
   have stay:∀es,lst? s1=some es->(∀j:Nat,as[j]?≠some (.dq i))->t=s1->∃(a:Addr)(xs:HO),σ[i]?=some (some (V.ref a))/\H' a=some xs/\F' a=none/\jA K F' xs ds:=fun es he hn ht=>by
    subst ht;rw[he]at e';cases e';obtain⟨a,xs,z1,z2,z3,z4⟩:=g.own i _ ds q1 he;have no:¬ Own args (vs.map some) a:=fun h=>by obtain⟨j,⟨sl,es,w1,w2⟩,w3⟩:=h;obtain⟨a',v,h1,h2,h3⟩:=A.get l1 w1;have sa:=l2 j a' _ h1 w1;have w3:=dn w3;rw[h2]at w3;cases w3;cases a' with|dat d=>cases sa;cases w2|tmp es=>obtain⟨x,_,y1,_,_,_,y2,_⟩:=h3;cases y1;exact y2 ⟨i,⟨_,ds,q1,he⟩,z1⟩|dq i'=>
       have:∃s' ds',ρ[i']?=some s'/\lst? s'=some ds':=by
        rcases sa with⟨_,_,_,z⟩|⟨b,es,q,_⟩|⟨es,q,_⟩;.subst z;cases w2
        .exact⟨_,_,q,rfl⟩
        .exact⟨_,_,q,rfl⟩
       have:=g.dis i i' a ⟨⟨_,ds,q1,he⟩,z1⟩ ⟨this,h3⟩;subst this;exact hn j h1
    refine⟨a,xs,z1,s.keep a _ z2 no,?_,z4.mono s.cG⟩;cases q:F' a with|none=>rfl|some o=>
      rcases s.wX a z3 (by rw[q];simp)with z|z;.exact absurd z no
      .rw[z2]at z;exact(DK z4 z).elim
   cases hl:aQ i as args' with
   |none=>have hn:=jH la hl;rw[hl]at q2;cases s1 with|aV=>subst q2;cases e'|val b' d'=>subst q2;cases e'|own b' es=>exact stay _ rfl hn q2|lent es=>exact stay _ rfl hn q2|eY m=>exact stay _ rfl hn q2|cF m=>exact stay _ rfl hn q2|hold _=>subst q2;cases e'
   |some t2=>rw[hl]at q2;obtain⟨j,z1,z2⟩:=gM hl;cases s1 with
     |aV=>subst q2;cases e'|val b' d'=>subst q2;cases e'|hold _=>subst q2;cases e'|eY m=>
       have hj:j<args.length:=by rw[l1];exact(List.getElem?_eq_some_iff.mp z1).1
       rcases l2 j _ _ z1 (show args[j]?=some args[j]by simp[hj])with⟨_,_,z,_⟩|⟨_,_,z,_⟩|⟨_,z,_⟩<;>(rw[q1]at z;cases z)|cF m=>
       have hj:j<args.length:=by rw[l1];exact(List.getElem?_eq_some_iff.mp z1).1
       rcases l2 j _ _ z1 (show args[j]?=some args[j]by simp[hj])with⟨_,_,z,_⟩|⟨_,_,z,_⟩|⟨_,z,_⟩<;>(rw[q1]at z;cases z)|own b' es=>
       obtain⟨v,s2,y1,y2,y3,y4,y5⟩:=lent q1 rfl z1 z2;have:t2≠.aV/\∀x,t2≠.lent x:=by
        rcases y5 with⟨_,_,y5⟩|⟨y5,_⟩;.subst y5;rcases y4 with⟨_,rfl⟩|⟨_,rfl⟩<;>simp
        .cases y5
       cases t2 with
       |aV=>exact absurd rfl this.1|hold x=>
         rcases y5 with⟨_,_,y5⟩|⟨y5,_⟩;.subst y5;rcases y4 with⟨_,h⟩|⟨_,h⟩<;>cases h
         .cases y5|eY x=>
         rcases y5 with⟨_,_,y5⟩|⟨y5,_⟩;.subst y5;rcases y4 with⟨_,h⟩|⟨_,h⟩<;>cases h
         .cases y5|cF x=>
         rcases y5 with⟨_,_,y5⟩|⟨y5,_⟩;.subst y5;rcases y4 with⟨_,h⟩|⟨_,h⟩<;>cases h
         .cases y5|lent x=>exact absurd rfl (this.2 x)|val b2 d2=>subst q2;cases e'|own b2 es2=>subst q2;cases e';obtain⟨a,xs,x1,x2⟩:=s.gs.own j _ _ z2 rfl;rw[y2]at x1;cases x1;exact⟨a,xs,y1,x2⟩
     |lent es=>
       obtain⟨v,s2,y1,y2,y3,y4,y5⟩:=lent q1 rfl z1 z2;have ht:t=.lent es:=by rw[q2];cases t2<;>rfl
       subst ht;cases e';rcases y5 with⟨_,y5,_⟩|⟨_,y5⟩;.cases y5
       .subst y5;cases(show t2=.lent es from y4);obtain⟨a,xs,x1,x2⟩:=s.gs.own j _ _ z2 rfl;rw[y2]at x1;cases x1;exact⟨a,xs,y1,x2⟩
 . by_cases q:F b=none
   . rcases s.wX b q n' with z|z;.exact(own' b z).imp id ju
     . by_cases ho:Own ρ₀ σ b;.exact .inl ho
       .right;cases q2:H₀ b with|none=>rfl|some o=>rw[s0.keep b o q2 ho]at z;exact z
   .exact s0.wX b n q
 . refine s.keep b o (s0.keep b o h n) fun z=>?_;rcases own' b z with z|z;.exact n z
   .rw[h]at z;cases z
 .obtain⟨e1,s2,h2,k2⟩:=s0.lk i s1 h l;refine⟨e1,_,Yk h2,?_⟩;have Vo:=k2.ud l;refine kZ.trans l k2 ?_;cases s2 with
   |aV=>cases Vo|eY _=>cases Vo|cF _=>cases Vo|hold _=>exact kZ.refl _|val b d=>exact kZ.refl _|lent es=>cases aQ i as args' with|none=>rfl|some t=>cases t<;>rfl
   |own b es=>cases b with|false=>cases Vo|true=>cases aQ i as args' with|none=>exact .inl ⟨_,rfl⟩|some t=>cases t with|aV=>exact .inl ⟨_,rfl⟩|lent _=>exact .inl ⟨_,rfl⟩|eY _=>exact .inl ⟨_,rfl⟩|cF _=>exact .inl ⟨_,rfl⟩|hold _=>exact .inl ⟨_,rfl⟩|own _ ds=>exact .inl ⟨_,rfl⟩|val _ d=>exact .inr ⟨_,rfl⟩
theorem wA.rebase{F1 H1 F2 H2 F H:Hp}{ρ ρ1 ρ2:List Sl}{σ:L2.St}{as:List Arg}{vs:List V}(a:aq K F ρ σ H F1 ρ1 σ H1)(A:wA K F2 ρ2 σ H2 ρ1 H1 as vs):wA K F2 ρ2 σ H2 ρ H as vs:=by refine⟨A.len,fun j b v h1 h2=>?_,A.dis⟩;have h:=A.one j b v h1 h2;cases b with|dat d=>exact h|dq i=>exact h|tmp ds=>
   obtain⟨x,xs,q1,q2,q3,q4,q5,q6⟩:=h;refine⟨x,xs,q1,q2,q3,q4,q5,?_⟩;rcases q6 with q6|q6;.exact a.uK x q6
   . by_cases ho:Own ρ σ x;.exact .inl ho
     .right;cases e:H x with|none=>rfl|some o=>rw[a.keep x o e ho]at q6;cases q6
theorem wA.Wf{F1 H1 F2 H2 F H:Hp}{ρ ρ1 ρ2:List Sl}{σ:L2.St}{as:List Arg}{vs:List V}{v:V}{r:R}(s1:aq K F ρ σ H F1 ρ1 σ H1)(rr:cj K F1 ρ1 σ H1 ρ σ H v r)(s2:aq K F1 ρ1 σ H1 F2 ρ2 σ H2)(A:wA K F2 ρ2 σ H2 ρ1 H1 as vs):wA K F2 ρ2 σ H2 ρ H (vR r::as) (v::vs):=by
 have h1:yF K F1 ρ1 σ H1 ρ H v (vR r):=by cases r with|val d=>exact rr|own ds=>exact rr
 refine .cons (h1.later s2) (A.rebase s1) fun ds x ea ev k es ek evk=>?_;cases r with|val d=>cases ea|own ds'=>
   obtain⟨y,xs,q1,q2,q3,q4,q5,q6⟩:=rr;rw[ev]at q1;cases q1;have h:=A.one k _ _ ek evk;obtain⟨z,zs,w1,_,_,_,_,w6⟩:=h;cases w1;rcases w6 with w6|w6;.exact q5 w6
   .rw[q2]at w6;cases w6
end
section
variable{K:PySem.W.Frag}{F F1 H H1:Hp}{ρ ρ1 ρ2:List Sl}{σ σ1:L2.St}
theorem tM{i:Nat}{s:Sl}(h:put ρ i s=some ρ1):∃s0,ρ[i]?=some s0/\ud s0=false/\ρ1=ρ.set i s:=by
 unfold put at h;split at h;.rename_i q;cases h;exact⟨_,q,rfl,rfl⟩
 .rename_i q;cases h;exact⟨_,q,rfl,rfl⟩
 .rename_i q;cases h;exact⟨_,q,rfl,rfl⟩
 .cases h
theorem aq.put{i:Nat}{v:V}{r:R}(s:aq K F ρ σ H F1 ρ1 σ1 H1)(rr:cj K F1 ρ1 σ1 H1 ρ σ H v r)(h:HH.put ρ1 i (xx r)=some ρ2):aq K F ρ σ H F1 ρ2 (σ1.set i (some v)) H1:=by
 obtain⟨s0,h0,hl,rfl⟩:=tM h;have hi:i<ρ1.length:=(List.getElem?_eq_some_iff.mp h0).1;have hi':i<σ1.length:=by rw[<-s.gs.len];exact hi
 have old:∀{j:Nat}{a:Addr},j≠i->aM (ρ1.set i (xx r)) (σ1.set i (some v)) j a->aM ρ1 σ1 j a:=fun{j a}hj⟨⟨t,ds,e1,e2⟩,e3⟩=>by rw[getElem?_set_ne (Ne.symm hj)]at e1 e3;exact⟨⟨t,ds,e1,e2⟩,e3⟩
 have new:∀{a:Addr},aM (ρ1.set i (xx r)) (σ1.set i (some v)) i a->¬ Own ρ1 σ1 a/\(Own ρ σ a\/H a=none):=fun{a}⟨⟨t,ds,e1,e2⟩,e3⟩=>by rw[getElem?_set_self hi]at e1;rw[getElem?_set_self hi']at e3;cases e1;cases e3;cases r with|val d=>cases e2|own es=>obtain⟨x,xs,q1,q2,q3,q4,q5,q6⟩:=rr;cases q1;exact⟨q5,q6⟩
 refine⟨⟨s.gs.sub,by simp[s.gs.len],fun j b d e=>?_,fun j t ds e e'=>?_,fun j k a h1 h2=>?_⟩,s.cG,s.wX,s.keep,fun a⟨j,hj⟩=>?_,by simp[s.len],fun j t e l=>?_⟩
 . by_cases hj:j=i;.subst hj;rw[getElem?_set_self hi]at e;cases r with|own es=>cases e|val d'=>cases e;exact⟨v,getElem?_set_self hi',rr⟩
   .rw[getElem?_set_ne (Ne.symm hj)]at e ⊢;exact s.gs.val j b d e
 . by_cases hj:j=i;.subst hj;rw[getElem?_set_self hi]at e;cases r with|val d'=>cases e;cases e'|own es=>cases e;cases e';obtain⟨x,xs,rfl,q2,q3,q4,_⟩:=rr;exact⟨x,_,getElem?_set_self hi',q2,q3,xs,rfl,q4⟩
   .rw[getElem?_set_ne (Ne.symm hj)]at e ⊢;exact s.gs.own j t ds e e'
 . by_cases hj:j=i
   . by_cases hk:k=i;.rw[hj,hk]
     .subst hj;exact absurd ⟨k,old hk h2⟩ (new h1).1
   . by_cases hk:k=i;.subst hk;exact absurd ⟨j,old hj h1⟩ (new h2).1
     .exact s.gs.dis j k a (old hj h1) (old hk h2)
 . by_cases hji:j=i;.subst hji;exact(new hj).2
   .exact s.uK a ⟨j,old hji hj⟩
 . obtain⟨e1,t1,e2,e3⟩:=s.lk j t e l;have hj:j≠i:=by rintro rfl;rw[h0]at e2;cases e2;rw[e3.ud l]at hl;cases hl
   exact⟨by rw[getElem?_set_ne (Ne.symm hj)];exact e1,t1,by rw[getElem?_set_ne (Ne.symm hj)];exact e2,e3⟩
theorem GS.mut{x:Nat}{b:Bool}{ds es:List D}{a:Addr}{ys:List V}(g:GS K F ρ σ H)(e:ρ[x]?=some (.own b ds))(hx:σ[x]?=some (some (.ref a)))(r:aC K F ys es):aq K F ρ σ H F (ρ.set x (.own b es)) σ (upd H a (.lst ys)):=by
 have hi:x<ρ.length:=(List.getElem?_eq_some_iff.mp e).1;have oa:aM ρ σ x a:=⟨⟨_,_,e,rfl⟩,hx⟩;obtain⟨a',xs,h1,h2,h3,h4⟩:=g.qp x _ ds e rfl;rw[hx]at h1;cases h1;have old:∀{j:Nat}{c:Addr},aM (ρ.set x (.own b es)) σ j c->aM ρ σ j c:=fun{j c}⟨⟨t,dt,q1,q2⟩,q3⟩=>by
  by_cases hj:j=x;.subst hj;exact⟨⟨_,_,e,rfl⟩,q3⟩
  .rw[getElem?_set_ne (Ne.symm hj)]at q1;exact⟨⟨t,dt,q1,q2⟩,q3⟩
 refine⟨⟨fun c o q=>?_,by simp[g.len],fun j b' d q=>?_,fun j t dt q q'=>?_,fun j k c q1 q2=>g.dis j k c (old q1) (old q2)⟩,.refl _,fun c n n'=>absurd n n',fun c o q n=>?_,fun c⟨j,q⟩=>.inl ⟨j,old q⟩,by simp,fun j t q l=>⟨rfl,?_⟩⟩
 . have:c≠a:=by rintro rfl;rw[h3]at q;cases q
   rw[aA this];exact g.sub c o q
 . by_cases hj:j=x;.subst hj;rw[getElem?_set_self hi]at q;cases q
   .rw[getElem?_set_ne (Ne.symm hj)]at q;exact g.val j b' d q
 . by_cases hj:j=x;.subst hj;rw[getElem?_set_self hi]at q;cases q;cases q';exact⟨a,_,hx,aJ,h3,ys,rfl,r⟩
   . rw[getElem?_set_ne (Ne.symm hj)]at q;obtain⟨c,zs,w1,w2,w3,w4⟩:=g.own j t dt q q';have:c≠a:=by rintro rfl;exact hj (g.dis j x c ⟨⟨t,dt,q,q'⟩,w1⟩ oa)
     exact⟨c,zs,w1,by rw[aA this];exact w2,w3,w4⟩
 . have:c≠a:=by rintro rfl;exact n ⟨x,oa⟩
   rw[aA this];exact q
 . by_cases hj:j=x;.subst hj;rw[e]at q;cases q;refine⟨_,getElem?_set_self hi,?_⟩;cases b with|true=>exact .inl ⟨_,rfl⟩|false=>cases l
   .exact⟨t,by rw[getElem?_set_ne (Ne.symm hj)];exact q,.refl t⟩
theorem GS.lend{i:Nat}{b:Bool}{ds:List D}(g:GS K F ρ σ H)(e:ρ[i]?=some (.own b ds)):GS K F (ρ.set i (.lent ds)) σ H:=by
 have hi:i<ρ.length:=(List.getElem?_eq_some_iff.mp e).1;have old:∀{j:Nat}{c:Addr},aM (ρ.set i (.lent ds)) σ j c->aM ρ σ j c:=fun{j c}⟨⟨t,dt,q1,q2⟩,q3⟩=>by
  by_cases hj:j=i;.subst hj;exact⟨⟨_,_,e,rfl⟩,q3⟩
  .rw[getElem?_set_ne (Ne.symm hj)]at q1;exact⟨⟨t,dt,q1,q2⟩,q3⟩
 refine⟨g.sub,by simp[g.len],fun j b' d q=>?_,fun j t dt q q'=>?_,fun j k c q1 q2=>g.dis j k c (old q1) (old q2)⟩
 . by_cases hj:j=i;.subst hj;rw[getElem?_set_self hi]at q;cases q
   .rw[getElem?_set_ne (Ne.symm hj)]at q;exact g.val j b' d q
 . by_cases hj:j=i;.subst hj;rw[getElem?_set_self hi]at q;cases q;cases q';exact g.own j _ _ e rfl
   .rw[getElem?_set_ne (Ne.symm hj)]at q;exact g.own j t dt q q'
theorem aq.aX{i:Nat}{b:Bool}{ds:List D}(g:GS K F ρ σ H)(e:ρ[i]?=some (.own b ds))(s:aq K F (ρ.set i (.lent ds)) σ H F1 ρ1 σ1 H1):aq K F ρ σ H F1 (ρ1.set i (.own b ds)) σ1 H1/\∀v r,cj K F1 ρ1 σ1 H1 (ρ.set i (.lent ds)) σ H v r->cj K F1 (ρ1.set i (.own b ds)) σ1 H1 ρ σ H v r:=by
 have hi:i<ρ.length:=(List.getElem?_eq_some_iff.mp e).1;have h1:(ρ.set i (.lent ds))[i]?=some (.lent ds):=getElem?_set_self hi;obtain⟨z1,s',z2,z3⟩:=s.lk i _ h1 rfl;cases(show s'=.lent ds from z3);have hi1:i<ρ1.length:=(List.getElem?_eq_some_iff.mp z2).1;have o1:∀{j:Nat}{c:Addr},aM (ρ.set i (.lent ds)) σ j c->aM ρ σ j c:=fun{j c}⟨⟨t,dt,q1,q2⟩,q3⟩=>by
  by_cases hj:j=i;.subst hj;exact⟨⟨_,_,e,rfl⟩,q3⟩
  .rw[getElem?_set_ne (Ne.symm hj)]at q1;exact⟨⟨t,dt,q1,q2⟩,q3⟩
 have o1':∀{c:Addr},Own ρ σ c->Own (ρ.set i (.lent ds)) σ c:=fun{c}⟨j,⟨t,dt,q1,q2⟩,q3⟩=>by
  by_cases hj:j=i;.subst hj;exact⟨j,⟨_,_,h1,rfl⟩,q3⟩
  .exact⟨j,⟨t,dt,by rw[getElem?_set_ne (Ne.symm hj)];exact q1,q2⟩,q3⟩
 have o2:∀{j:Nat}{c:Addr},aM (ρ1.set i (.own b ds)) σ1 j c->aM ρ1 σ1 j c:=fun{j c}⟨⟨t,dt,q1,q2⟩,q3⟩=>by
  by_cases hj:j=i;.subst hj;exact⟨⟨_,_,z2,rfl⟩,q3⟩
  .rw[getElem?_set_ne (Ne.symm hj)]at q1;exact⟨⟨t,dt,q1,q2⟩,q3⟩
 have w:∀{c:Addr}{h:Hp},Own (ρ.set i (.lent ds)) σ c\/h c=none->Own ρ σ c\/h c=none:=fun{c h}q=>q.imp (fun⟨j,q⟩=>⟨j,o1 q⟩) id;have w':∀{c:Addr}{h:Hp},Own (ρ.set i (.lent ds)) σ c\/nt (h c)=none->Own ρ σ c\/nt (h c)=none:=fun{c h}q=>q.imp (fun⟨j,q⟩=>⟨j,o1 q⟩) id;refine⟨⟨⟨s.gs.sub,by simp[s.gs.len],fun j b' d q=>?_,fun j t dt q q'=>?_,fun j k c q1 q2=>s.gs.dis j k c (o2 q1) (o2 q2)⟩,s.cG,fun c n n'=>w' (s.wX c n n'),fun c o q n=>s.keep c o q fun⟨j,x⟩=>n ⟨j,o1 x⟩,fun c⟨j,q⟩=>w (s.uK c ⟨j,o2 q⟩),by simpa using s.len,fun j t q l=>?_⟩,fun v r h=>?_⟩
 . by_cases hj:j=i;.subst hj;rw[getElem?_set_self hi1]at q;cases q
   .rw[getElem?_set_ne (Ne.symm hj)]at q;exact s.gs.val j b' d q
 . by_cases hj:j=i;.subst hj;rw[getElem?_set_self hi1]at q;cases q;cases q';exact s.gs.own j _ _ z2 rfl
   .rw[getElem?_set_ne (Ne.symm hj)]at q;exact s.gs.own j t dt q q'
 . by_cases hj:j=i;.subst hj;rw[e]at q;cases q;refine⟨z1,_,getElem?_set_self hi1,?_⟩;cases b with|true=>exact .inl ⟨_,rfl⟩|false=>cases l
   .obtain⟨y1,t',y2,y3⟩:=s.lk j t (by rw[getElem?_set_ne (Ne.symm hj)];exact q) l;exact⟨y1,t',by rw[getElem?_set_ne (Ne.symm hj)];exact y2,y3⟩
 .cases r with|val d=>exact h|own es=>obtain⟨x,xs,q1,q2,q3,q4,q5,q6⟩:=h;exact⟨x,xs,q1,q2,q3,q4,fun⟨j,q⟩=>q5 ⟨j,o2 q⟩,w q6⟩
theorem GS.give{i:Nat}{ds:List D}(g:GS K F ρ σ H)(e:ρ[i]?=some (.own false ds)):∃v,σ[i]?=some (some v)/\aq K F ρ σ H F (ρ.set i .aV) σ H/\cj K F (ρ.set i .aV) σ H ρ σ H v (.own ds):=by
 have hi:i<ρ.length:=(List.getElem?_eq_some_iff.mp e).1;obtain⟨a,xs,h1,h2,h3,h4⟩:=g.qp i _ ds e rfl;have old:∀{j:Nat}{c:Addr},aM (ρ.set i .aV) σ j c->aM ρ σ j c/\j≠i:=fun{j c}⟨⟨t,dt,q1,q2⟩,q3⟩=>by
  by_cases hj:j=i;.subst hj;rw[getElem?_set_self hi]at q1;cases q1;cases q2
  .rw[getElem?_set_ne (Ne.symm hj)]at q1;exact⟨⟨⟨t,dt,q1,q2⟩,q3⟩,hj⟩
 have oa:aM ρ σ i a:=⟨⟨_,_,e,rfl⟩,h1⟩;refine⟨.ref a,h1,⟨⟨g.sub,by simp[g.len],fun j b' d q=>?_,fun j t dt q q'=>?_,fun j k c q1 q2=>g.dis j k c (old q1).1 (old q2).1⟩,.refl _,fun c n n'=>absurd n n',fun _ _ q _=>q,fun c⟨j,q⟩=>.inl ⟨j,(old q).1⟩,by simp,fun j t q l=>⟨rfl,?_⟩⟩,a,xs,rfl,h2,h3,h4,fun⟨j,q⟩=>?_,.inl ⟨i,oa⟩⟩
 . by_cases hj:j=i;.subst hj;rw[getElem?_set_self hi]at q;cases q
   .rw[getElem?_set_ne (Ne.symm hj)]at q;exact g.val j b' d q
 . by_cases hj:j=i;.subst hj;rw[getElem?_set_self hi]at q;cases q;cases q'
   .rw[getElem?_set_ne (Ne.symm hj)]at q;exact g.own j t dt q q'
 . by_cases hj:j=i;.subst hj;rw[e]at q;cases q;cases l
   .exact⟨t,by rw[getElem?_set_ne (Ne.symm hj)];exact q,.refl t⟩
 .exact(old q).2 (g.dis j i a (old q).1 oa)
theorem GS.more{n:Nat}{τ:List (Option V)}(g:GS K F ρ σ H)(hn:τ.length=n):GS K F (ρ++replicate n .aV) (σ++τ) H:=by
 have get:∀{j:Nat}{t:Sl},(ρ++replicate n Sl.aV)[j]?=some t->t≠.aV->ρ[j]?=some t/\j<ρ.length:=fun{j t}q ne=>by
  by_cases hj:j<ρ.length;.rw[getElem?_append_left hj]at q;exact⟨q,hj⟩
  . rw[getElem?_append_right (by omega),List.getElem?_replicate]at q;split at q;.cases q;exact absurd rfl ne
    .cases q
 have up:∀{j:Nat}{v:Option V},j<ρ.length->(σ[j]?=some v↔(σ++τ)[j]?=some v):=fun{j v}hj=>by rw[getElem?_append_left (by rw[<-g.len];exact hj)]
 have old:∀{j:Nat}{c:Addr},aM (ρ++replicate n .aV) (σ++τ) j c->aM ρ σ j c:=fun{j c}⟨⟨t,dt,q1,q2⟩,q3⟩=>by obtain⟨h1,h2⟩:=get q1 (by rintro rfl;cases q2);exact⟨⟨t,dt,h1,q2⟩,(up h2).mpr q3⟩
 refine⟨g.sub,by simp[g.len,hn],fun j b d q=>?_,fun j t dt q q'=>?_,fun j k c q1 q2=>g.dis j k c (old q1) (old q2)⟩;.obtain⟨h1,h2⟩:=get q (by simp);obtain⟨v,e1,e2⟩:=g.val j b d h1;exact⟨v,(up h2).mp e1,e2⟩
 .obtain⟨h1,h2⟩:=get q (by rintro rfl;cases q');obtain⟨a,xs,e1,e2⟩:=g.own j t dt h1 q';exact⟨a,xs,(up h2).mp e1,e2⟩
theorem aq.less{n:Nat}{τ:List (Option V)}{m:Nat}(hm:m=ρ.length)(g:GS K F ρ σ H)(hn:τ.length=n)(s:aq K F (ρ++replicate n .aV) (σ++τ) H F1 ρ1 σ1 H1):aq K F ρ σ H F1 (ρ1.take m) (σ1.take m) H1/\∀v r,cj K F1 ρ1 σ1 H1 (ρ++replicate n .aV) (σ++τ) H v r->cj K F1 (ρ1.take m) (σ1.take m) H1 ρ σ H v r:=by
 subst hm;have l1:ρ.length<=ρ1.length:=by rw[s.len];simp
 have l2:ρ.length<=σ1.length:=by rw[<-s.gs.len];exact l1
 have tk:∀{α:Type}{l:List α}{j:Nat}{x:α},(l.take ρ.length)[j]?=some x->l[j]?=some x/\j<ρ.length:=fun{α l j x}q=>by
  rw[getElem?_take]at q;split at q;.exact⟨q,by assumption⟩
  .cases q
 have kt:∀{α:Type}{l:List α}{j:Nat}{x:α},j<ρ.length->l[j]?=some x->(l.take ρ.length)[j]?=some x:=fun{α l j x}hj q=>by rw[getElem?_take,if_pos hj];exact q
 have oN:∀{c:Addr},Own (ρ++replicate n .aV) (σ++τ) c->Own ρ σ c:=fun{c}⟨j,⟨t,dt,q1,q2⟩,q3⟩=>by
  by_cases hj:j<ρ.length;.rw[getElem?_append_left hj]at q1;rw[getElem?_append_left (by rw[<-g.len];exact hj)]at q3;exact⟨j,⟨t,dt,q1,q2⟩,q3⟩
  . rw[getElem?_append_right (by omega),List.getElem?_replicate]at q1;split at q1;.cases q1;cases q2
    .cases q1
 have oN':∀{c:Addr},Own ρ σ c->Own (ρ++replicate n .aV) (σ++τ) c:=fun{c}⟨j,⟨t,dt,q1,q2⟩,q3⟩=>by have hj:j<ρ.length:=(List.getElem?_eq_some_iff.mp q1).1;exact⟨j,⟨t,dt,by rw[getElem?_append_left hj];exact q1,q2⟩,by rw[getElem?_append_left (by rw[<-g.len];exact hj)];exact q3⟩
 have o1:∀{j:Nat}{c:Addr},aM (ρ1.take ρ.length) (σ1.take ρ.length) j c->aM ρ1 σ1 j c:=fun{j c}⟨⟨t,dt,q1,q2⟩,q3⟩=>⟨⟨t,dt,(tk q1).1,q2⟩,(tk q3).1⟩;have w:∀{c:Addr}{h:Hp},Own (ρ++replicate n .aV) (σ++τ) c\/h c=none->Own ρ σ c\/h c=none:=fun{c h}q=>q.imp oN id;have w':∀{c:Addr}{h:Hp},Own (ρ++replicate n .aV) (σ++τ) c\/nt (h c)=none->Own ρ σ c\/nt (h c)=none:=fun{c h}q=>q.imp oN id;refine⟨⟨⟨s.gs.sub,by simp only[length_take];omega,fun j b d q=>?_,fun j t dt q q'=>?_,fun j k c q1 q2=>s.gs.dis j k c (o1 q1) (o1 q2)⟩,s.cG,fun c a b=>w' (s.wX c a b),fun c o q n=>s.keep c o q fun x=>n (oN x),fun c⟨j,q⟩=>w (s.uK c ⟨j,o1 q⟩),by simp only[length_take];omega,fun j t q l=>?_⟩,fun v r h=>?_⟩;.obtain⟨h1,h2⟩:=tk q;obtain⟨v,e1,e2⟩:=s.gs.val j b d h1;exact⟨v,kt h2 e1,e2⟩
 .obtain⟨h1,h2⟩:=tk q;obtain⟨a,xs,e1,e2⟩:=s.gs.own j t dt h1 q';exact⟨a,xs,kt h2 e1,e2⟩
 .have hj:j<ρ.length:=(List.getElem?_eq_some_iff.mp q).1;obtain⟨y1,t',y2,y3⟩:=s.lk j t (by rw[getElem?_append_left hj];exact q) l;rw[getElem?_append_left (by rw[<-g.len];exact hj)]at y1;refine⟨?_,t',kt hj y2,y3⟩;rw[getElem?_take,if_pos hj];exact y1
 .cases r with|val d=>exact h|own es=>obtain⟨x,xs,q1,q2,q3,q4,q5,q6⟩:=h;exact⟨x,xs,q1,q2,q3,q4,fun⟨j,q⟩=>q5 ⟨j,o1 q⟩,w q6⟩
end
section
variable{X:Cx}{c:Call}{n:Nat}{e a b d:Expr}{p pa pb pd:P}{pos:Pos}{es:List Expr}{ps:List P}
inductive acr(K:PySem.W.Frag)(f:List Sl->Res (List Arg))(σ:L2.St)(H:Hp)(Q:List V->Hp->Prop):Prop where|mk(F:Hp)(ρ:List Sl)(as:List Arg)(ρ':List Sl)(g:GS K F ρ σ H)(e:f ρ=.ok as ρ')(k:∀vs F' H',aq K F ρ σ H F' ρ' σ H'->wA K F' ρ' σ H' ρ H as vs->Q vs H')
def SG(X:Cx)(c:Call)(es:List Expr)(ps:List P):Prop:=PA X es (acr X.K (xn c ps))
theorem aD:SG X c [] []:=vO dZ fun σ H Q⟨F,ρ,as,ρ',g,e,k⟩=>by rw[xn]at e;cases e;exact k [] F H (.refl g) .nil
theorem JP(ha:SX X c a pa)(hr:SG X c es ps)(hs:starEach (a::es) X.env=(false,eval a X.env)::starEach es X.env:=by rfl):SG X c (a::es) (pa::ps):=by cases hv:isVar pa with|none=>refine vO (cB ha.ev hr hs) ?_;rintro σ H Q⟨F,ρ,as,ρ',g,e,k⟩;rw[xn,hv]at e;obtain⟨r,ρ1,e1,e⟩:=aa e;obtain⟨xs,ρ2,e2,e⟩:=aa e;cases e;refine⟨F,ρ,r,ρ1,g,e1,fun v F1 H1 s1 rr=>⟨F1,ρ1,xs,_,s1.gs,e2,fun vs F2 H2 s2 A=>k _ F2 H2 (s1.trans s2) (wA.Wf s1 rr s2 A)⟩⟩|some i=>refine vO (cB (ha.var i hv) hr hs) ?_;rintro σ H Q⟨F,ρ,as,ρ',g,e,k⟩;rw[xn,hv]at e;obtain⟨x0,ρ0,e0,e⟩:=aa e;obtain⟨e00,Ie⟩:=aF e0;subst Ie;obtain⟨xs,ρ2,e2,e⟩:=aa e;cases e;obtain⟨v,h1,_⟩:=g.pk e00;exact⟨v,h1,F,ρ,xs,_,g,e2,fun vs F2 H2 s2 A=>k _ F2 H2 s2 (.cons h1 A fun ds x z=>by cases z)⟩
theorem KQ{k f:Nat}{fa:Addr}{fd:FuncData}{qs:List Str}{x:Str}{p':Pos}(Fn:bW X.prog X.w X.K X.mg X.base gW k fa fd qs (ik X.K qs.length (c f)))(hr:iB k X.A)(hg:Gl X x)(hm:X.mg x=some (.ref fa))(hk:keepIn X.K (.ref fa)=true)(hb:Binds X.K fd qs [])(ha:SG X c (e::es) ps)(hl:(e::es).length=qs.length)(hdb:(x==("__debug__":Str))=false:=by decide)(he:starEach (e::es) X.env=(false,eval e X.env)::starEach es X.env:=by rfl)(hpl:(backTo pos (starEach es X.env)).any (·.1)=false:=by rfl)(hl2:ps.length=(e::es).length:=by rfl):SX X c (.Call (.Name x p') (e::es) [] pos) (.call f ps):=by
 refine⟨cY (Ja (E:=E0) Fn hr hg hm hk hb .nil Wg ha hdb he hpl) ?_,fun i h=>by cases h⟩;rintro σ H Q⟨F,ρ,r,ρ',g,e,k⟩;rw[HH.E15]at e;obtain⟨as,ρ1,e1,e⟩:=aa e;unfold oZ at e;split at e;.cases e
 . rename_i args hb';split at e
   . rename_i r' args' hc;cases e;refine⟨F,ρ,as,ρ1,g,e1,fun vs F1 H1 s1 A=>?_⟩;have hlen:vs.length=qs.length:=by
      have:∀{ps:List P}{ρ ρ':List Sl}{as:List Arg},xn c ps ρ=.ok as ρ'->as.length=ps.length:=by intro ps;induction ps with|nil=>intro ρ ρ' as h;rw[xn]at h;cases h;rfl|cons q qs ih=>
         intro ρ ρ' as h;rw[xn]at h;split at h;.obtain⟨_,_,_,h⟩:=aa h;obtain⟨xs,ρ2,h2,h⟩:=aa h;cases h;simp[ih h2]
         .obtain⟨_,_,_,h⟩:=aa h;obtain⟨xs,ρ2,h2,h⟩:=aa h;cases h;simp[ih h2]
      rw[<-A.len,this e1,hl2,hl]
     show ik X.K qs.length (c f) (vs++[]) H1 Q E0;rw[append_nil];refine⟨hlen,F1,args,r,args',args_gs s1.gs A hb',hc,fun v F' σ' H' s rr=>?_⟩;obtain⟨z1,z2⟩:=Et s1 A hb' s;exact k v F' H' z1 (z2 v r rr)
   .cases e
   .cases e
def Fw(K:PySem.W.Frag)(D:Ends)(F':Hp)(ρ':List Sl)(σ':L2.St)(H':Hp)(ρ:List Sl)(σ:L2.St)(H:Hp)(fl:Fl):Prop:=match fl with|.next=>D.nx σ' H'|.brk=>D.bk σ' H'|.cont=>D.ct σ' H'|.ret r=>∀v,cj K F' ρ' σ' H' ρ σ H v r->D.rt v H'
inductive Zc(K:PySem.W.Frag)(f:List Sl->Res Fl)(D:Ends)(σ:L2.St)(H:Hp):Prop where|mk(F:Hp)(ρ:List Sl)(fl:Fl)(ρ':List Sl)(g:GS K F ρ σ H)(e:f ρ=.ok fl ρ')(k:∀F' σ' H',aq K F ρ σ H F' ρ' σ' H'->Fw K D F' ρ' σ' H' ρ σ H fl)
def SS(X:Cx)(c:Call)(n:Nat)(st:Stmt)(s:S):Prop:=PS X st (Zc X.K (ex c n s))
def SB(X:Cx)(c:Call)(n:Nat)(st:List Stmt)(s:List S):Prop:=wH X st (Zc X.K (eX c n s))
theorem dD{st:Stmt}{t t':TS}(h:PS X st t)(i:∀D σ H,t' D σ H->t D σ H):PS X st t':=fun pins s σ H D I q=>h pins s σ H D I (i D σ H q)
theorem lX{st:List Stmt}{t t':TS}(h:wH X st t)(i:∀D σ H,t' D σ H->t D σ H):wH X st t':=fun pins s σ H D I q=>h pins s σ H D I (i D σ H q)
theorem az:SB X c n [] []:=lX Br fun D σ H⟨F,ρ,fl,ρ',g,e,k⟩=>by rw[eX]at e;cases e;exact k F σ H (.refl g)
theorem aN{st:Stmt}{s:S}{sts:List Stmt}{ss:List S}(h1:SS X c n st s)(h2:SB X c n sts ss):SB X c n (st::sts) (s::ss):=by refine lX (lC h1 h2) ?_;rintro D σ H⟨F,ρ,fl,ρ',g,e,k⟩;rw[eX]at e;obtain⟨f1,ρ1,e1,e⟩:=aa e;cases f1 with
 |next=>refine⟨F,ρ,.next,ρ1,g,e1,fun F1 σ1 H1 s1=>⟨F1,ρ1,fl,ρ',s1.gs,e,fun F2 σ2 H2 s2=>?_⟩⟩;have q:=k F2 σ2 H2 (s1.trans s2);cases fl with|next=>exact q|brk=>exact q|cont=>exact q|ret r=>exact fun v rr=>q v (rr.later s1)
 |brk=>cases e;exact⟨F,ρ,.brk,_,g,e1,k⟩|cont=>cases e;exact⟨F,ρ,.cont,_,g,e1,k⟩|ret r=>cases e;exact⟨F,ρ,.ret r,_,g,e1,k⟩
theorem Wv{t1 t2:TE}(h1:PE X e t1)(h2:PE X e t2):PE X e (fun σ H Q=>t1 σ H Q\/t2 σ H Q):=fun pins s σ H Q I h=>h.elim (h1 pins s σ H Q I) (h2 pins s σ H Q I)
theorem Tc(he:SX X c e p):SS X c n (.Return (some e) pos) (.ret p):=by
 have plain:∀(D:Ends)(σ:L2.St)(H:Hp),(∃F ρ fl ρ',GS X.K F ρ σ H/\((HH.ev c p ρ).bind fun r ρ=>.ok (Fl.ret r) ρ)=.ok fl ρ'/\∀F' σ' H',aq X.K F ρ σ H F' ρ' σ' H'->(match fl with|.next=>D.nx σ' H'|.brk=>D.bk σ' H'|.cont=>D.ct σ' H'|.ret r=>∀v,cj X.K F' ρ' σ' H' ρ σ H v r->D.rt v H'))->xq X.K (HH.ev c p) σ H D.rt:=fun D σ H⟨F,ρ,fl,ρ',g,e,k⟩=>by obtain⟨r,ρ1,e1,e⟩:=aa e;cases e;exact⟨F,ρ,r,_,g,e1,fun v F1 H1 s1 rr=>k F1 σ H1 s1 v rr⟩
 cases hv:isVar p with|none=>refine dD (GK he.ev) fun D σ H⟨F,ρ,fl,ρ',g,e,k⟩=>plain D σ H ⟨F,ρ,fl,ρ',g,?_,k⟩;rw[HH.X9,hv]at e;exact e|some i=>--by the name itself:its own list is handed back,else its data
   have hp:p=.var i:=by cases p<;>cases hv;rfl
   subst hp;refine dD (GK (Wv (he.var i hv) he.ev)) ?_;rintro D σ H⟨F,ρ,fl,ρ',g,e,k⟩;rw[HH.X9,hv]at e;dsimp only at e;split at e;.rename_i ds q;cases e;obtain⟨v,h1,h2,h3⟩:=g.give q;exact .inl ⟨v,h1,k F σ H h2 v h3⟩
   .exact .inr (plain D σ H ⟨F,ρ,fl,ρ',g,e,k⟩)
theorem gh{sa sb:List Stmt}{ta tb:List S}(hc:ST X c e p)(ha:SB X c n sa ta)(hb:SB X c n sb tb):SS X c n (.If e sa sb pos) (.ifs p ta tb):=by refine dD (M7 hc ha hb) ?_;rintro D σ H⟨F,ρ,fl,ρ',g,e,k⟩;rw[HH.ZF]at e;obtain⟨x,ρ1,e1,e⟩:=aa e;refine⟨F,ρ,x,ρ1,g,e1,fun F1 H1 s1=>?_⟩;have go:∀{f:List Sl->Res Fl},f ρ1=.ok fl ρ'->Zc X.K f D σ H1:=fun{f}h=>⟨F1,ρ1,fl,ρ',s1.gs,h,fun F2 σ2 H2 s2=>by have q:=k F2 σ2 H2 (s1.trans s2);cases fl with|next=>exact q|brk=>exact q|cont=>exact q|ret r=>exact fun v rr=>q v (rr.later s1)⟩;cases x with|true=>rw[if_pos rfl]at e;exact go e|false=>rw[if_neg Bool.false_ne_true]at e;exact go e
theorem tO{i:Nat}{x:Str}{pos':Pos}(hN:X.N.Nodup)(hi:X.N[i]?=some x)(hx:Loc X.env.scope x)(he:SX X c e p)(hs:swapsWith e (some (.Name x pos')) pos.line X.env=pure false:=by rfl)(hf:X.fn x=true\/X.env.scope.names.lookup x=some .local:=by first|exact .inl rfl|exact .inr rfl|assumption):SS X c n (.Assign [.Name x pos'] e pos) (.asg i p):=by refine dD (yf hN hi hx he.ev hs hf) ?_;rintro D σ H⟨F,ρ,fl,ρ',g,e,k⟩;rw[HH.X6]at e;obtain⟨r,ρ1,e1,e⟩:=aa e;obtain⟨ρ2,ρ3,e2,e⟩:=aa e;cases e;have zz:=aF e2;clear e2;obtain⟨e2,e3⟩:=zz;exact⟨F,ρ,r,ρ1,g,e1,fun v F1 H1 s1 rr=>k F1 _ H1 (s1.put rr e2)⟩
end
end HH
end
section
namespace L2
open PySem PySem.Spec PyProof.Rows
noncomputable def v7(X:Cx)(scope:Scope)(N':List Str)(cl:List (Str×Addr))(C:Addr)(s₀:Shared)(H₀:Hp)(ex:List Addr):Cx:={X with N:=N',s₀:=s₀,H₀:=H₀,env:=compEnvC scope cl C X.env,outer:=X.stack,stack:=X.stack,ex:=ex,fn:=fun x=>scope.names.lookup x==some .cell,pn:=[],xe:=fun _ _=>False}
theorem xT{env:Env}(l:List (Str×NameKind)):∀(cs:List (Str×Addr)),(∀n,(n,NameKind.free)∈l->∃c,env.cells.lookup n=some c)->(∀n c,cs.lookup n=some c->env.cells.lookup n=some c)->∃ cl,(forIn l cs (fun(x:Str × NameKind)(r:List (Str × Addr))=>(if(x.2==NameKind.free)=true then(do let a<-cellOf env x.1;pure (ForInStep.yield ((x.1,a)::r)))else pure (ForInStep.yield r):Sem (ForInStep (List (Str × Addr))))):Sem (List (Str × Addr)))=pure cl/\(∀n c,cl.lookup n=some c->env.cells.lookup n=some c)/\(∀n,((n,NameKind.free)∈l\/(cs.lookup n).isSome)->(cl.lookup n).isSome):=by induction l with|nil=>intro cs _ h;exact⟨cs,rfl,h,fun n hn=>by rcases hn with hn|hn;cases hn;exact hn⟩|cons y l ih=>
   obtain⟨n,k⟩:=y;intro cs hl hc;rw[List.forIn_cons];by_cases hk:k=.free
   . subst hk;obtain⟨a,ha⟩:=hl n mem_cons_self;obtain⟨cl,e,h1,h2⟩:=ih ((n,a)::cs) (fun m hm=>hl m (mem_cons_of_mem _ hm)) fun m c hm=>by
      rw[lookup_cons]at hm;split at hm;.rename_i q;have q:=eq_of_beq q;subst q;cases hm;exact ha
      .exact hc m c hm
     refine⟨cl,?_,h1,fun m hm=>h2 m ?_⟩
     . rw[<-e];have:cellOf env n=pure a:=by unfold cellOf;rw[ha]
       simp only[beq_self_eq_true,if_true,this];rfl
     . rcases hm with hm|hm
       . rcases mem_cons.mp hm with hm|hm;.cases hm;right;simp[lookup_cons]
         .exact .inl hm
       . right;rw[lookup_cons];split;.rfl
         .exact hm
   . obtain⟨cl,e,h1,h2⟩:=ih cs (fun m hm=>hl m (mem_cons_of_mem _ hm)) hc;refine⟨cl,?_,h1,fun m hm=>h2 m ?_⟩
     . rw[<-e];have:(k==NameKind.free)=false:=by simpa using hk
       simp only[this,false_eq_true,if_false];rfl
     . rcases hm with hm|hm
       . rcases mem_cons.mp hm with hm|hm;.cases hm;exact absurd rfl hk
         .exact .inl hm
       .exact .inr hm
theorem yz{env:Env}{scope:Scope}(hl:∀n,(n,NameKind.free)∈scope.names->∃c,env.cells.lookup n=some c):∃cl,closureFor scope env=pure cl/\(∀n c,cl.lookup n=some c->env.cells.lookup n=some c)/\∀n,(n,NameKind.free)∈scope.names->(cl.lookup n).isSome:=by obtain⟨cl,e,h1,h2⟩:=xT (env:=env) scope.names [] hl (by simp);refine⟨cl,?_,h1,fun n hn=>h2 n (.inl hn)⟩;unfold closureFor;exact(congrArg (fun t=>t>>=fun r=>pure r) e).trans rfl
theorem cU{env:Env}:∀(names:List (Str×NameKind))(x:Str),(names.map fun(n,k)=>if(k==NameKind.free&&env.scope.kind==.function&&env.kindOf n==some .cell)then(n,NameKind.cell)else(n,k)).lookup x=(names.lookup x).map fun k=>if(k==NameKind.free&&env.scope.kind==.function&&env.kindOf x==some .cell)=true then NameKind.cell else k
 |[],x=>rfl|(n,k)::r,x=>by
   have ih:=cU (env:=env) r x;show List.lookup x ((if(k==NameKind.free&&env.scope.kind==.function&&env.kindOf n==some .cell)=true then(n,NameKind.cell)else(n,k))::_)=_;by_cases hc:(k==NameKind.free&&env.scope.kind==.function&&env.kindOf n==some .cell)=true;.rw[if_pos hc,lookup_cons,lookup_cons];cases hx:x==n with|true=>have:=eq_of_beq hx;subst this;show some NameKind.cell=some (if _ then _ else _);rw[if_pos hc]|false=>exact ih
   .rw[if_neg hc,lookup_cons,lookup_cons];cases hx:x==n with|true=>have:=eq_of_beq hx;subst this;show some k=some (if _ then _ else _);rw[if_neg hc]|false=>exact ih
noncomputable def XM(N N':List Str)(sc:Scope):Bool:=(N.zip N').all fun p=>(p.1==p.2&&sc.names.lookup p.2==some .free)||(sc.names.lookup p.2!=some .local&&sc.names.lookup p.2!=some .cell&&sc.names.lookup p.2!=some .free)
structure dW(X:Cx)(scope:Scope)(N':List Str)(n:Nat):Prop where
 kind:scope.kind=.function
 cons:∀y∈scope.names,scope.names.lookup y.1=some y.2
 names:∀y∈scope.names,y.2=.local->scope.names.lookup y.1=some .local
 cap:∀y∈scope.names,y.2=.free->X.env.scope.names.lookup y.1=some .cell\/X.env.scope.names.lookup y.1=some .free
 len:N'.length=X.N.length+n
 same:XM X.N N' scope=true
theorem dW.get{X:Cx}{scope:Scope}{N':List Str}{n:Nat}(c:dW X scope N' n){i:Nat}{x:Str}(hi:i<X.N.length)(h:N'[i]?=some x)(hv:xm (relabel scope X.env) x):X.N[i]?=some x/\scope.names.lookup x=some .free:=by
 have hz:(X.N.zip N')[i]?=some (X.N[i],x):=by rw[List.getElem?_zip_eq_some];exact⟨by simp[hi],h⟩
 have:=(all_eq_true.mp c.same) _ (mem_of_getElem? hz);simp only[or_eq_true,and_eq_true]at this;rcases this with⟨h1,h2⟩|⟨⟨h1,h2⟩,h3⟩;.have h1:=eq_of_beq h1;have h2:=eq_of_beq h2;exact⟨by simp[hi,h1],h2⟩
 . exfalso;have h1:scope.names.lookup x≠some .local:=by simpa using h1
   have h2:scope.names.lookup x≠some .cell:=by simpa using h2
   have h3:scope.names.lookup x≠some .free:=by simpa using h3
   have e:=cU (env:=X.env) scope.names x;have hv:(relabel scope X.env).names.lookup x=some .local\/(relabel scope X.env).names.lookup x=some .cell\/(relabel scope X.env).names.lookup x=some .free:=hv;rw[show(relabel scope X.env).names.lookup x=_ from e]at hv;cases q:scope.names.lookup x with|none=>rw[q]at hv;simp at hv|some k=>
     rw[q]at hv h1 h2 h3;have hk:(k==NameKind.free)=false:=by cases k<;>first|rfl|exact absurd rfl h3
     simp only[Option.map_some,hk,Bool.false_and,false_eq_true,if_false,Option.some.injEq]at hv;rcases hv with rfl|rfl|rfl;.exact h1 rfl
     .exact h2 rfl
     .exact h3 rfl
structure CI(cl:List (Str×Addr))(z:Nat)(h:Heap)(acc:List (Str×Addr)):Prop where from':∀n c,acc.lookup n=some c->cl.lookup n=some c\/(z<=c/\h.IsCell c none)inj:∀n n' c,acc.lookup n=some c->acc.lookup n'=some c->n=n'
theorem FJ{cl:List (Str×Addr)}{z:Nat}(hcl:∀n c,cl.lookup n=some c->c<z):∀(names:List (Str×NameKind))(h:Heap)(acc:List (Str×Addr)),z<=h.objs.size->CI cl z h acc->CI cl z (pushCells h names) (cellsFrom h.objs.size names acc)/\(∀n,(acc.lookup n).isSome->((cellsFrom h.objs.size names acc).lookup n).isSome)/\(∀n,((∃c,acc.lookup n=some c/\z<=c)\/(n,NameKind.cell)∈names)->∃c,(cellsFrom h.objs.size names acc).lookup n=some c/\z<=c)/\(∀n c,(n,NameKind.cell)∉names->(cellsFrom h.objs.size names acc).lookup n=some c->acc.lookup n=some c)
 |[],h,acc,hz,x=>by
   refine⟨x,fun _ q=>q,fun n q=>?_,fun _ _ _ q=>q⟩;rcases q with q|q;.exact q
   .cases q|(name,kind)::r,h,acc,hz,x=>by
   unfold pushCells cellsFrom;by_cases hk:kind=.cell
   . subst hk;rw[if_pos (by rfl),if_pos (by rfl)];have hx:CI cl z (h.push {cls:=.type "cell",data:=.cell none}) ((name,h.objs.size)::acc):=by
      have lt:∀n c,acc.lookup n=some c->c<h.objs.size:=fun n c e=>by
       rcases x.from' n c e with q|q;.exact lt_of_lt_of_le (hcl n c q) hz
       .exact q.2.lt
      refine⟨fun n c e=>?_,fun n n' c e e'=>?_⟩
      . rw[lookup_cons]at e;split at e;.cases e;exact .inr ⟨hz,_,get?_push_size _ rfl,rfl⟩
        . rcases x.from' n c e with q|q;.exact .inl q
          .exact .inr ⟨q.1,q.2.keeps fun b o e=>get?_push_of_some _ e⟩
      . rw[lookup_cons]at e e';split at e<;>split at e';.rename_i _ a _ b;rw[eq_of_beq a,eq_of_beq b]
        .cases e;exact absurd (lt n' _ e') (lt_irrefl _)
        .cases e';exact absurd (lt n _ e) (lt_irrefl _)
        .exact x.inj n n' c e e'
     have ih:=FJ hcl r (h.push {cls:=.type "cell",data:=.cell none}) ((name,h.objs.size)::acc) (by rw[size_push];omega) hx;rw[size_push]at ih;refine⟨ih.1,fun n q=>ih.2.1 n ?_,fun n q=>ih.2.2.1 n ?_,fun n c q e=>?_⟩
     . rw[lookup_cons];split;.rfl
       .exact q
     . rcases q with⟨c,e,hc⟩|q
       . left;rw[lookup_cons];split;.exact⟨_,rfl,hz⟩
         .exact⟨c,e,hc⟩
       . rcases mem_cons.mp q with q|q;.cases q;left;exact⟨_,by simp[lookup_cons],hz⟩
         .exact .inr q
     . have:=ih.2.2.2 n c (fun z=>q (mem_cons_of_mem _ z)) e;rw[lookup_cons]at this;split at this;.rename_i a;exact absurd (by rw[eq_of_beq a];exact mem_cons_self) q
       .exact this
   . have hk':(kind==NameKind.cell)=false:=by simpa using hk
     rw[if_neg (by rw[hk'];decide),if_neg (by rw[hk'];decide)];have ih:=FJ hcl r h acc hz x;refine⟨ih.1,ih.2.1,fun n q=>ih.2.2.1 n ?_,fun n c q e=>ih.2.2.2 n c (fun z=>q (mem_cons_of_mem _ z)) e⟩;rcases q with q|q;.exact .inl q
     . rcases mem_cons.mp q with q|q;.cases q;exact absurd rfl hk
       .exact .inr q
structure G5(X:Cx)(scope:Scope)(z:Nat)(h:Heap)(cs:List (Str×Addr)):Prop where
 from':∀n c,cs.lookup n=some c->X.env.cells.lookup n=some c\/(z<c/\h.IsCell c none)inj:∀n n' c,cs.lookup n=some c->cs.lookup n'=some c->n=n'
 has:∀n,(scope.names.lookup n=some .free\/scope.names.lookup n=some .cell)->∃c,cs.lookup n=some c
 fre:∀n c,scope.names.lookup n=some .free->cs.lookup n=some c->X.env.cells.lookup n=some c
 own:∀n c,scope.names.lookup n=some .cell->cs.lookup n=some c->z<c
theorem CZ{M:Model}{A:Around}{E:Value->Shared->Prop}{X:Cx}{s:Shared}{scope:Scope}{N':List Str}{n:Nat}{cl:List (Str×Addr)}{Q:Env->Shared->Prop}(ok:dW X scope N' n)(hlt:∀n c,X.env.cells.lookup n=some c->c<s.heap.objs.size)(hinj:∀x y c,X.env.cells.lookup x=some c->X.env.cells.lookup y=some c->x=y)(hcl:∀n c,cl.lookup n=some c->X.env.cells.lookup n=some c)(yW:∀n,(n,NameKind.free)∈scope.names->(cl.lookup n).isSome)(hQ:∀ cs h',h'.Ns s.heap.objs.size (fun _=>none)->(∀ b o,s.heap.get? b=some o->h'.get? b=some o)->G5 X scope s.heap.objs.size h' cs->Q {scope:=scope,locals:=s.heap.objs.size,globals:=X.env.globals,cells:=cs,qual:=X.env.qual,func:=none,code:=X.env.code,frame:=X.env.frame,builtins:=X.env.builtins} {s with heap:=h'}):wpAny M A (newFunctionEnv scope X.env.globals cl [] X.env.qual none .none (some X.env)) Q E s:=by
 simp only[newFunctionEnv,Option.isSome_some,if_true];refine wpAny_bind (wpAny_alloc ?_);refine wpAny_bind (wpAny_layCells _ (fun name kind cells=>by cases hkc:kind==NameKind.cell<;>simp[hkc]) _ _ _ _ ?_);have ck:=FJ (cl:=cl) (z:=s.heap.objs.size+1) (fun n c e=>Nat.lt_succ_of_lt (hlt n c (hcl n c e))) scope.names (s.heap.push {cls:=.type "dict",data:=.dict #[]}) cl (by rw[size_push];exact le_refl _) ⟨fun n c e=>.inl e,fun n n' c e e'=>hinj n n' c (hcl n c e) (hcl n' c e')⟩;obtain⟨c1,c2,c3,c4⟩:=ck;rw[show({s with heap:=s.heap.push {cls:=.type "dict",data:=.dict #[]}}:Shared).heap.objs.size=(s.heap.push {cls:=.type "dict",data:=.dict #[]}).objs.size from rfl];refine wpAny_bind ?_;rw[List.forIn_nil];refine wpAny_pure (wpAny_pure (hQ _ _ ((Heap.Ns.new s.heap (.type "dict")).keeps (pushCells_keeps _ _)) (fun b o e=>pushCells_keeps _ _ b o (get?_push_of_some _ e)) ⟨fun n c e=>?_,c1.inj,fun n q=>?_,fun n c q e=>?_,fun n c q e=>?_⟩))
 . rcases c1.from' n c e with z|z;.exact .inl (hcl n c z)
   .exact .inr ⟨z.1,z.2⟩
 . rcases q with q|q;.exact Option.isSome_iff_exists.mp (c2 n (yW n (PySem.mem_of_lookup q)))
   .obtain⟨c,e,_⟩:=c3 n (.inr (PySem.mem_of_lookup q));exact⟨c,e⟩
 .refine hcl n c (c4 n c (fun z=>?_) e);have:=ok.cons _ z;rw[q]at this;cases this
 .obtain⟨c',e',hc'⟩:=c3 n (.inr (PySem.mem_of_lookup q));rw[e]at e';cases e';exact hc'
section
variable{X:Cx}{pins:List (Addr×Obj)}{σ:L2.St}{H:Hp}{s:Shared}{scope:Scope}{N':List Str}{n:Nat}{fp:List Addr}{cl:List (Str×Addr)}
theorem Hm{h1:Heap}{m:Str->Option Value}{t:Nat}{cs:List (Str×Addr)}(ok:dW X scope N' n)(I:Inv X pins σ H s)(hf:∀b∈fp,pM X pins H b/\b<s.heap.objs.size)(bc:G5 X scope s.heap.objs.size h1 cs)(hn:h1.Ns s.heap.objs.size m)(old:∀b u,s.heap.get? b=some u->h1.get? b=some u):Inv (v7 X scope N' cs s.heap.objs.size s H fp) [] (σ++replicate n none) H {s with heap:=h1,toks:=t}:=by
 have Yl:∀x,scope.names.lookup x=some .free->(relabel scope X.env).names.lookup x=some .cell\/(relabel scope X.env).names.lookup x=some .free:=fun x h=>by
  have e:=cU (env:=X.env) scope.names x;rw[h]at e;have e':(relabel scope X.env).names.lookup x=_:=e;rw[e'];simp only[Option.map_some];split;.exact .inl rfl
  .exact .inr rfl
 refine⟨⟨I.ok.mod,ok.kind,I.ok.glob,I.ok.blt,le_refl _,fun x y c h1 h2=>bc.inj x y c h1 h2,fun x hx=>?_,fun x c h e=>le_of_lt (bc.own x c (eq_of_beq (show(scope.names.lookup x==some NameKind.cell)=true from h)) e),I.ok.hd,I.ok.frames,.inl rfl,fun b hb=>?_,I.bs,le_trans I.ok.NZ I.sz,fun b u e hb=>?_,fun b hb hfs=>?_,I.stack,I.Bk⟩,rfl,I.bare,Un.kept old,⟨m,hn,fun i x v e1 e2 hv=>?_⟩,fun x c e=>?_,I.hok.fresh (le_refl _),fun x c e=>?_,fun p hp=>(by cases hp),I.hok.kept old,?_⟩;.--a Ym name has its cell
   have hx:(relabel scope X.env).names.lookup x=some .cell\/(relabel scope X.env).names.lookup x=some .free:=hx;have e:=cU (env:=X.env) scope.names x;have e':(relabel scope X.env).names.lookup x=_:=e;rw[e']at hx;refine bc.has x ?_;cases q:scope.names.lookup x with|none=>rw[q]at hx;simp at hx|some k=>
     rw[q]at hx;by_cases hk:k=.free;.rw[hk];exact .inl rfl
     . have hk':(k==NameKind.free)=false:=by simpa using hk
       simp only[Option.map_some,hk',Bool.false_and,false_eq_true,if_false,Option.some.injEq]at hx;rcases hx with rfl|rfl;.exact .inr rfl
       .exact absurd rfl hk
 . obtain⟨f,lt⟩:=hf b hb;refine⟨ne_of_lt lt,fun x c e=>?_⟩;rcases bc.from' x c e with e|e;.exact f.2.2.2.2.1 x c e
   .rintro rfl;exact absurd (Nat.lt_trans e.1 lt) (lt_irrefl _)
 . obtain⟨f,lt⟩:=hf b hb;rcases f.2.2.2.1 with h|h;.exact I.ok.HS b u e h
   .have this:b<X.base.objs.size:=lt_size e;exact absurd (lt_of_lt_of_le this (le_trans I.ok.NZ h)) (lt_irrefl _)
 . obtain⟨f,lt⟩:=hf b hb;rcases mem_cons.mp (I.tE b hfs)with h|h;.exact f.2.1 h
   .exact f.2.2.1 h
 .--the names
   have hi:i<σ.length:=by
    by_cases hi:i<σ.length;.exact hi
    .rw[getElem?_append_right (by omega),List.getElem?_replicate]at e2;split at e2<;>cases e2
   rw[getElem?_append_left hi]at e2;obtain⟨h1',h2'⟩:=ok.get (by rw[<-I.len];exact hi) e1 hv;have hk:=ok.cap (x,.free) (PySem.mem_of_lookup h2') rfl;obtain⟨m0,hn0,hl⟩:=I.loc;obtain⟨u,r,l⟩:=hl i x v h1' e2 (.inr hk);refine⟨u,r,.inr ⟨Yl x h2',?_⟩⟩;rcases l with⟨hk',_⟩|⟨_,c,hc,hcell⟩;.have hk':X.env.scope.names.lookup x=some .local:=hk';rcases hk with hk|hk<;>(rw[hk']at hk;cases hk)
   .obtain⟨c',hc'⟩:=bc.has x (.inl h2');have:=bc.fre x c' h2' hc';rw[hc]at this;cases this;refine⟨c,hc',?_⟩;obtain⟨oc,e3,e4⟩:=hcell;exact⟨oc,old c oc e3,e4⟩
 . rcases bc.from' x c e with e|e;.obtain⟨v,oc,e3,e4⟩:=I.cell x c e;exact⟨v,oc,old c oc e3,e4⟩
   .exact⟨_,e.2⟩
 . rcases bc.from' x c e with e|e;.exact I.jF x c e
   .exact I.hok.fresh (le_of_lt e.1)
 .show(σ++replicate n none).length=N'.length;rw[length_append,List.length_replicate,I.len,ok.len]
theorem uq{prog:Program}{w:World}{A:Around}{R:Result->Shared->Prop}{elt target iter:Expr}{ifs:List Expr}{scope:Scope}{pos:Pos}{it acc:Value}{env:Env}(I:Nat->Shared->Prop)(turn:∀ n s,I n s->wpAny (model prog w) A (pyNext it) (fun r s₁=>match r with|none=>R (.ok .next) s₁|some v=>wpAny (model prog w) A (letOwnedTupleGo target it v) (fun _ s₁=>wpAny (model prog w) A (assign target env v) (fun _ s₂=>wpAny (model prog w) A (forIn ifs true fun c r=>if r=true then do let ok<-isTrue c env (eval c env);pure (ForInStep.yield ok)else pure (ForInStep.yield r)) (fun ok s₃=>if ok=true then wpAny (model prog w) A (eval elt env) (fun x s₄=>wpAny (model prog w) A (call (.builtin "list.append") [acc,x]) (fun _ s₅=>∃m,m<n/\I m s₅) (notedBy (model prog w) A env fun e s'=>R (.error e) s') s₄) (notedBy (model prog w) A env fun e s'=>R (.error e) s') s₃ else ∃m,m<n/\I m s₃) (notedBy (model prog w) A env fun e s'=>R (.error e) s') s₂) (notedBy (model prog w) A env fun e s'=>R (.error e) s') s₁) (notedBy (model prog w) A env fun e s'=>R (.error e) s') s₁) (notedBy (model prog w) A env fun e s'=>R (.error e) s') s)(n:Nat){s:Shared}(h:I n s):codeAny (model prog w) A (.compLoop (.ListComp elt [⟨target,iter,ifs,0⟩] scope pos) 0 it acc env) R s:=by refine codeAny_loop rfl I (fun n s hI=>?_) n h;show wpAny _ A ((compTurn (.ListComp elt [⟨target,iter,ifs,0⟩] scope pos) 0 it acc env).onRaise (fun x=>do noteFrame x env;theTreesLotGoes x)) _ _ s;refine wpAny_noted ?_;rw[compTurn_list];refine wpAny_bind (wpAny_standAt (wpAny_bind (wpAny_mono (turn n s hI) (fun r s₁ h₁=>?_) fun _ _ h'=>h')));cases r with|none=>exact wpAny_pure h₁|some v=>refine wpAny_bind (wpAny_mono h₁ (fun _ s₁ h₁=>?_) fun _ _ h'=>h');refine wpAny_bind (wpAny_mono h₁ (fun _ s₂ h₂=>wpAny_bind (wpAny_mono h₂ (fun ok s₃ h₃=>?_) fun _ _ h'=>h')) fun _ _ h'=>h');cases ok with|false=>exact wpAny_pure ⟨rfl,h₃⟩|true=>exact wpAny_bind (wpAny_bind (wpAny_mono h₃ (fun x s₄ h₄=>wpAny_bind (wpAny_mono h₄ (fun _ s₅ h₅=>wpAny_pure (wpAny_pure ⟨rfl,h₅⟩)) fun _ _ h'=>h')) fun _ _ h'=>h'))
def Ro(X:Cx)(ifs:List Expr)(t:TT):Prop:=∀(pins:List (Addr × Obj))(s:Shared)(σ:L2.St)(H:Hp)(Q:Bool->Hp->Prop),Inv X pins σ H s->t σ H Q->wpAny (model X.prog X.w) X.A (forIn ifs true fun c r=>if r=true then do let ok<-isTrue c X.env (eval c X.env);pure (ForInStep.yield ok)else pure (ForInStep.yield r)) (TP X pins σ Q) X.xe s
theorem Jf{X:Cx}:Ro X [] (fun _ H Q=>Q true H):=fun pins s σ H Q I h=>wpAny_tests_nil ⟨H,I,h⟩
theorem KC{X:Cx}{c:Expr}{t:TT}(h:PT X c t):Ro X [c] t:=fun pins s σ H Q I q=>wpAny_tests_one (h pins s σ H Q I q)
def M6(J:It)(g:TG)(tt:TT)(te:TE)(D:Addr)(Q:Hp->Prop)(W:Nat->Nat->List V->L2.St->Hp->Prop):Prop:=∀ i m ys σ H,W i m ys σ H->H D=some (.lst ys)/\((J.stop i H/\Q H)\/(J.go i H/\∀ x H2,J.N6 i H x H2->g x σ H2 fun σ3 H3=>tt σ3 H3 fun b H4=>if b=true then te σ3 H4 fun y H5=>H5 D=some (.lst ys)/\ys.length<sizeLine/\∃m',m'<m/\W (i+1) m' (ys++[y]) σ3 (upd H5 D (.lst (ys++[y])))else ∃m',m'<m/\W (i+1) m' ys σ3 H4))
theorem qQ{E:Value->Shared->Prop}{elt target iter:Expr}{ifs:List Expr}{pos:Pos}{it:Addr}{tn:Nat->Heap->Prop}{J:It}{g:TG}{tt:TT}{te:TE}{Q:Addr->Hp->Prop}{RR:Value->Addr->Result->Shared->Prop}(hc:X.calm=true)(ok:dW X scope N' n)(I:Inv X pins σ H s)(hcl:∀n c,cl.lookup n=some c->X.env.cells.lookup n=some c)(yW:∀n,(n,NameKind.free)∈scope.names->(cl.lookup n).isSome)(T:Turn X.prog X.w X.K target J fp it tn)(h0:tn 0 s.heap)(hf:∀b∈fp,pM X pins H b)(hg:∀cl C s₀ H₀ ex,PG (v7 X scope N' cl C s₀ H₀ ex) target g)(ht:∀cl C s₀ H₀ ex,Ro (v7 X scope N' cl C s₀ H₀ ex) ifs tt)(he:∀cl C s₀ H₀ ex,PE (v7 X scope N' cl C s₀ H₀ ex) elt te)(hw:∀D,H D=none->∃W,(∃m,W 0 m [] (σ++replicate n none) (upd H D (.lst [])))/\M6 J g tt te D (Q D) W)(hRR:∀D C s' H',Q D H'->(∃m,s'.heap.Ns C m)->pM X pins H' C->Inv X pins σ H' s'->RR (.ref D) C (.ok .next) s'):wpAny (model X.prog X.w) X.A (newList []) (fun acc s₃=>wpAny (model X.prog X.w) X.A (newFunctionEnv scope X.env.globals cl [] X.env.qual none .none (some X.env)) (fun cenv s₄=>codeAny (model X.prog X.w) X.A (.compStart (.ListComp elt [⟨target,iter,ifs,0⟩] scope pos) 0 (.ref it) acc {cenv with scope:=relabel scope X.env}) (RR acc cenv.locals) s₄) E s₃) E s:=by
 refine wpAny_newObj_type (CZ ok (fun x c e=>?lt) I.ok.inj hcl yW (fun cs h₁ hns hold bc=>?_));case lt=>obtain⟨v,z⟩:=I.cell x c e;exact lt_of_lt_of_le z.lt (by show _<=(s.heap.push _).objs.size;rw[size_push];exact le_succ _)
 dsimp only at hns hold bc ⊢--the new list,tracked
 have I3:Inv X pins σ (upd H s.heap.objs.size (.lst [])) {s with heap:=s.heap.push {cls:=.type "list",data:=.seq ([]:List Value).toArray}}:=I.RL (t':=s.toks) .nil (zero_le _);generalize hs3:({s with heap:=s.heap.push {cls:=.type "list",data:=.seq ([]:List Value).toArray}}:Shared)=s3 at I3;have hsz:s3.heap.objs.size=s.heap.objs.size+1:=by rw[<-hs3];exact size_push _ _
 have Od:s3.heap=s.heap.push {cls:=.type "list",data:=.seq ([]:List Value).toArray}:=by rw[<-hs3]
 obtain⟨W,⟨m0,w0⟩,turn⟩:=hw s.heap.objs.size I.fresh;have tnK:∀{h':Heap},(∀b o,s.heap.get? b=some o->h'.get? b=some o)->tn 0 h':=fun k=>T.keep _ _ _ h0 fun b hb o e=>k b o e;have fp3:∀b∈fp,pM X pins (upd H s.heap.objs.size (.lst [])) b/\b<s3.heap.objs.size:=fun b hb=>by obtain⟨o,e,_⟩:=T.obj 0 _ h0 b hb;have lt:=lt_size e;obtain⟨f1,f2⟩:=hf b hb;exact⟨⟨by rw[aA (ne_of_lt lt)];exact f1,f2⟩,by rw[hsz];exact Nat.lt_succ_of_lt lt⟩
 rw[<-Od]at hns hold bc ⊢;have I4:=Hm (t:=s3.toks) ok I3 fp3 bc hns hold;have Yn:∀b o,s.heap.get? b=some o->h₁.get? b=some o:=fun b o e=>hold b o (by rw[Od];exact get?_push_of_some _ e);generalize hX:v7 X scope N' cs s3.heap.objs.size s3 (upd H s.heap.objs.size (.lst [])) fp=X' at I4;have hA:X'.A=X.A:=by rw[<-hX];rfl
 have hpr:X'.prog=X.prog:=by rw[<-hX];rfl
 have hwr:X'.w=X.w:=by rw[<-hX];rfl
 have hKK:X'.K=X.K:=by rw[<-hX];rfl
 have hcalm:X'.calm=true:=by rw[<-hX];exact hc
 have hxe:X'.xe=fun _ _=>False:=by rw[<-hX];rfl
 have henv:X'.env=compEnvC scope cs s3.heap.objs.size X.env:=by rw[<-hX];rfl
 have hg':PG X' target g:=by rw[<-hX];exact hg _ _ _ _ _
 have ht':Ro X' ifs tt:=by rw[<-hX];exact ht _ _ _ _ _
 have he':PE X' elt te:=by rw[<-hX];exact he _ _ _ _ _
 have ff:∀{H':Hp}{b:Addr},b∈fp->H' b=none->pM X' [] H' b:=fun{H' b}hb hn=>by
  obtain⟨f,lt⟩:=fp3 b hb;rw[<-hX];refine⟨hn,ne_of_lt lt,fun hfs=>?_,.inl hb,fun x c e=>?_,fun p hp=>by cases hp⟩
  . rcases mem_cons.mp (I3.tE b hfs)with h|h;.exact f.2.1 h
    .exact f.2.2.1 h
  . rcases bc.from' x c e with e|e;.exact f.2.2.2.2.1 x c e
    .rintro rfl;exact absurd (Nat.lt_trans e.1 lt) (lt_irrefl _)--behind the block
 have fin:∀{σ':L2.St}{H':Hp}{s':Shared},Inv X' [] σ' H' s'->Q s.heap.objs.size H'->RR (.ref s.heap.objs.size) s3.heap.objs.size (.ok .next) s':=fun{σ' H' s'}J' q=>by
  rw[<-hX]at J';have hC:H' s3.heap.objs.size=none:=J'.free;obtain⟨hh,gg,dd,tt',os'⟩:=s';have eos:os'=s3.os:=J'.os;subst eos;refine hRR _ _ _ H' q (let⟨m,hm,_⟩:=J'.loc;⟨m,hm⟩) ?_ (I3.call (h':=hh) (g':=gg) (d':=dd) (t':=tt') (ch:=fp) J'.base J'.hok J'.bare fun b hb=>?_);.exact I3.Gw (le_refl _) hC
  .obtain⟨f,lt⟩:=fp3 b hb;exact⟨f.2.2.2.1,f.2.1,f.2.2.2.2.1,f.2.2.2.2.2⟩
 have main:codeAny (model X.prog X.w) X.A (.compLoop (.ListComp elt [⟨target,iter,ifs,0⟩] scope pos) 0 (.ref it) (.ref s.heap.objs.size) X'.env) (RR (.ref s.heap.objs.size) s3.heap.objs.size) {s3 with heap:=h₁,toks:=s3.toks}:=by
  refine uq (fun k s'=>∃i ys σ' H',Inv X' [] σ' H' s'/\tn i s'.heap/\(∀b∈fp,H' b=none)/\W i k ys σ' H') (fun k s5 hI=>?_) m0 ⟨0,[],_,_,I4,tnK Yn,fun b hb=>(fp3 b hb).1.1,w0⟩;obtain⟨i,ys,σ5,H5,I5,t5,f5,w5⟩:=hI;obtain⟨hD,hturn⟩:=turn i k ys σ5 H5 w5;have noE:∀{Z:Value->Shared->Prop},∀(e:Value)(s':Shared),X'.xe e s'->Z e s':=fun e s' z=>by rw[hxe]at z;exact False.elim z
  rcases hturn with⟨stop,q⟩|⟨go,step⟩;.have z:=T.done X' hpr hwr hKK hcalm i [] s5 σ5 H5 (fun _ _=>False) I5 (fun b hb=>ff hb (f5 b hb)) t5 stop;rw[hA]at z;refine wpAny_mono z (?_) fun _ _ z=>False.elim z;rintro r s6⟨hr,I6⟩;subst hr;exact fin I6 q
  . have z:=T.item X' hpr hwr hKK hcalm i [] s5 σ5 H5 (fun _ _=>False) I5 (fun b hb=>ff hb (f5 b hb)) t5 go;rw[hA]at z;refine wpAny_mono z (?_) fun _ _ z=>False.elim z;rintro r s6⟨u,hr,z6⟩;subst hr;refine wpAny_mono z6 (?_) fun _ _ z=>False.elim z;rintro _ s7⟨x,H7,I7,r7,y7,t7,f7⟩;have I7':=I7.pinned (fun b hb=>ff hb (f7 b hb)) (T.obj _ _ t7)--what the pins keep
    have back:∀{σ':L2.St}{H':Hp}{s':Shared},Inv X' ([]++pP fp s7.heap) σ' H' s'->Inv X' [] σ' H' s'/\tn (i+1) s'.heap/\∀b∈fp,H' b=none:=fun{σ' H' s'}J'=>by refine⟨J'.lg,T.keep _ _ _ t7 fun b hb o e=>(J'.pin (b,o) (mem_append_right _ (mem_append_right _ (gF hb e)))).1,fun b hb=>?_⟩;obtain⟨o,e,_⟩:=T.obj _ _ t7 b hb;exact(J'.pin (b,o) (mem_append_right _ (mem_append_right _ (gF hb e)))).2.1
    have z7:=hg' _ s7 σ5 H7 x u _ I7' r7 (step x H7 y7);rw[hA,hpr,hwr]at z7;refine wpAny_mono z7 (?_) noE;rintro _ s8⟨σ8,H8,I8,q8⟩;have z8:=ht' _ s8 σ8 H8 _ I8 q8;rw[hA,hpr,hwr]at z8;refine wpAny_mono z8 (?_) noE;rintro b s9⟨H9,I9,q9⟩;cases b with|false=>rw[if_neg Bool.false_ne_true]at q9 ⊢;obtain⟨m',hm,w'⟩:=q9;obtain⟨b1,b2,b3⟩:=back I9;exact⟨m',hm,i+1,ys,σ8,H9,b1,b2,b3,w'⟩|true=>rw[if_pos rfl]at q9 ⊢;have z9:=he' _ s9 σ8 H9 _ I9 q9;rw[hA,hpr,hwr]at z9;refine wpAny_mono z9 (?_) noE;rintro y ql⟨yv,H10,I10,r10,ac7,hlen,m',hm,w'⟩;have z10:=mL _ ql σ8 H10 (.ref s.heap.objs.size) [yv] (.ref s.heap.objs.size) [y] (fun v H11=>H11=upd H10 s.heap.objs.size (.lst (ys++[yv]))) I10 rfl (.cons r10 .nil) ⟨_,ys,yv,rfl,rfl,ac7,hlen,rfl⟩;rw[hA,hpr,hwr]at z10;refine wpAny_mono z10 (?_) noE;rintro _ Zt⟨_,H11,I11,_,e11⟩;subst e11;obtain⟨b1,b2,b3⟩:=back I11;exact⟨m',hm,i+1,ys++[yv],σ8,_,b1,b2,b3,w'⟩
 have e3:({s3 with heap:=h₁,toks:=s3.toks}:Shared)={s with heap:=h₁}:=by rw[<-hs3]
 rw[henv,e3]at main;exact codeAny_compStart_list main (T.self _ 0 _ _ _ (tnK Yn) main)
end
section
variable{X:Cx}{elt target iter:Expr}{ifs:List Expr}{scope:Scope}{pos:Pos}{N':List Str}{n:Nat}{wi:TI}{g:TG}{tt:TT}{te:TE}
def qH(n:Nat)(wi:TI)(g:TG)(tt:TT)(te:TE):TE:=fun σ H Q=>wi σ H fun J H1=>∀D,H1 D=none->∃W,(∃m,W 0 m [] (σ++replicate n none) (upd H1 D (.lst [])))/\M6 J g tt te D (fun H'=>Q (.ref D) H') W
theorem lH{pins:List (Addr×Obj)}{σ:L2.St}{H:Hp}{s:Shared}(I:Inv X pins σ H s)(ok:dW X scope N' n):∃cl,closureFor scope X.env=pure cl/\(∀n c,cl.lookup n=some c->X.env.cells.lookup n=some c)/\∀n,(n,NameKind.free)∈scope.names->(cl.lookup n).isSome:=yz fun m hm=>I.ok.has m (ok.cap (m,.free) hm rfl)
theorem JM(hc:X.calm=true)(ok:dW X scope N' n)(hi:PI X target iter wi)(hg:∀cl C s₀ H₀ ex,PG (v7 X scope N' cl C s₀ H₀ ex) target g)(ht:∀cl C s₀ H₀ ex,Ro (v7 X scope N' cl C s₀ H₀ ex) ifs tt)(he:∀cl C s₀ H₀ ex,PE (v7 X scope N' cl C s₀ H₀ ex) elt te)(hs:∀x,foldedSetIterable iter X.env x=pure x:=by intro _;rfl):PE X (.ListComp elt [⟨target,iter,ifs,0⟩] scope pos) (qH n wi g tt te):=by intro pins s σ H Q I h;obtain⟨cl,hclos,hcl,yW⟩:=lH I ok;rw[eval_ListComp];refine wpAny_comprehension_free (use:=none) rfl hs hclos ok.kind ok.names (bH (hi pins s σ H _ I h) fun v s1 h1=>bH h1 fun itv s2 h2=>?_);obtain⟨it,fp,tn,J,H2,rfl,I2,T,t0,f2,hw⟩:=h2;refine qQ (Q:=fun D H'=>Q (.ref D) H') (RR:=fun acc C=>compPost (model X.prog X.w) X.A X.xe none (EP X pins σ Q) acc C) hc ok I2 hcl yW T t0 f2 hg ht he hw fun D C s' H' q hm Dr I'=>?_;obtain⟨m,hm⟩:=hm;refine⟨m,hm,fun h' hs'=>⟨.ref D,H',?_,rfl,q⟩⟩;exact I'.turned (t':=s'.toks) (fun b o hb e=>hs'.extBut b o hb e) Dr.1 Dr.2.1 Dr.2.2.2.1 Dr.2.2.2.2.1 Dr.2.2.2.2.2
theorem JX{i:Nat}{x:Str}{pos' spos:Pos}(hc:X.calm=true)(hN:X.N.Nodup)(hx0:X.N[i]?=some x)(hx:Loc X.env.scope x)(ok:dW X scope N' n)(hi:PI X target iter wi)(hg:∀cl C s₀ H₀ ex,PG (v7 X scope N' cl C s₀ H₀ ex) target g)(ht:∀cl C s₀ H₀ ex,Ro (v7 X scope N' cl C s₀ H₀ ex) ifs tt)(he:∀cl C s₀ H₀ ex,PE (v7 X scope N' cl C s₀ H₀ ex) elt te)(hsw:swapsWith (.ListComp elt [⟨target,iter,ifs,0⟩] scope pos) (some (.Name x pos')) spos.line X.env=pure true)(hs:∀x,foldedSetIterable iter X.env x=pure x:=by intro _;rfl)(hf:X.fn x=true\/X.env.scope.names.lookup x=some .local:=by first|exact .inl rfl|exact .inr rfl|assumption):PS X (.Assign [.Name x pos'] (.ListComp elt [⟨target,iter,ifs,0⟩] scope pos) spos) (Pn (qH n wi g tt te) (iW i)):=by
 intro pins s σ H D I h;obtain⟨cl,hclos,hcl,yW⟩:=lH I ok;rw[exec_Assign_Name_used _ _ _ _ hsw];refine wpAny_bind (wpAny_standAt (wpAny_bind ?_));show wpAny _ X.A (do let _<-comprehension (.ListComp elt [⟨target,iter,ifs,0⟩] scope pos) scope X.env _ (newList []) false (eval iter X.env) (some (assign (.Name x pos') X.env))) _ _ s;refine wpAny_bind (wpAny_mono (wpAny_comprehension_free (use:=some (assign (.Name x pos') X.env)) (Q:=fun _ s'=>SP X pins D .next s') rfl hs hclos ok.kind ok.names (bH (hi pins s σ H _ I h) fun v s1 h1=>bH h1 fun itv s2 h2=>?_)) (fun _ s' hq=>wpAny_pure (wpAny_pure hq)) fun _ _ e=>e);obtain⟨it,fp,tn,J,H2,rfl,I2,T,t0,f2,hw⟩:=h2;refine qQ (Q:=fun Da H'=>D.nx (σ.set i (some (.ref Da))) H') (RR:=fun acc C=>compPost (model X.prog X.w) X.A X.xe (some (assign (.Name x pos') X.env)) (fun _ s'=>SP X pins D .next s') acc C) hc ok I2 hcl yW T t0 f2 hg ht he hw fun Da C s' H' q hm Dr I'=>?_;obtain⟨m,hm⟩:=hm;show wpAny _ X.A (assign (.Name x pos') X.env (.ref Da)) _ _ _;refine wpAny_assign_Name (rK I' hN hx0 hx (show RelV (.ref Da) (.ref Da)from rfl) (?_) hf);rintro s'' I''⟨a,sb,ha⟩;have hCa:C≠a:=by
  rcases ha with rfl|ha;.exact Dr.2.1
  .exact fun z=>Dr.2.2.2.2.1 x a ha z.symm
 refine⟨m,hm.sameBut sb hCa,fun h' hs'=>⟨_,H',?_,q⟩⟩;exact I''.turned (t':=s''.toks) (fun b o hb e=>hs'.extBut b o hb e) Dr.1 Dr.2.1 Dr.2.2.2.1 Dr.2.2.2.2.1 Dr.2.2.2.2.2
def abd(K:PySem.W.Frag)(tl:TE):TI:=fun σ H R=>tl σ H fun x H1=>∃a,x=.ref a/\(((∃xs,dG K H1 a xs)/\R (R0 K a) H1)\/((∃xs,jy K H1 a xs)/\R (T6 K a) H1))
theorem yI{tg l:Expr}{tl:TE}(hl:PE X l tl):PI X tg l (abd X.K tl):=by
 intro pins s σ H R I h;refine bH (hl pins s σ H _ I h) ?_;rintro v s1⟨x,H1,I1,r1,q1⟩;obtain⟨a,e,q1⟩:=q1;subst e;cases r1;rcases q1 with⟨⟨xs,hq⟩,q⟩|⟨⟨xs,hq⟩,q⟩
 . obtain⟨its,rv,p,hz⟩:=I1.list hq;refine wpAny_pyIter_list p.isList ?_;refine⟨s1.heap.objs.size,[s1.heap.objs.size],_,_,H1,rfl,I1.kept (t':=s1.toks) fun b o e=>get?_push_of_some _ e,Dk a _,⟨_,get?_push_size _ rfl,rfl,rfl⟩,fun b hb=>?_,q⟩;have e:b=s1.heap.objs.size:=by simpa using hb
   subst e;exact I1.Gw (le_refl _) (I1.hok.fresh (le_refl _))
 . obtain⟨its,rv,p,hz⟩:=I1.tuple hq;refine wpAny_pyIter_tuple (show s1.heap.IsTuple a its.toArray from p) ?_;refine⟨s1.heap.objs.size,[s1.heap.objs.size],_,_,H1,rfl,I1.kept (t':=s1.toks) fun b o e=>get?_push_of_some _ e,yu a _,⟨_,get?_push_size _ rfl,rfl,rfl⟩,fun b hb=>?_,q⟩;have e:b=s1.heap.objs.size:=by simpa using hb
   subst e;exact I1.Gw (le_refl _) (I1.hok.fresh (le_refl _))
end
end L2
end
section
namespace HH
open PySem L2 PySem.Spec PyProof.Rows
structure Walk(K:PySem.W.Frag)(F:Hp)(ρ:List Sl)(σ:L2.St)(H:Hp)(ul:List Sl->List Sl)(J:It)(ds:List D)(F1:Hp)(ρ1:List Sl)(H1:Hp):Prop where
 gs:GS K F1 ρ1 σ H1
 src:∀(n k:Nat)(F':Hp)(ρ':List Sl)(σ':L2.St)(H':Hp),aq K F1 (ρ1++replicate n .aV) (σ++replicate n none) H1 F' ρ' σ' H'->(∀d,ds[k]?=some d->J.go k H'/\∀x uF,J.N6 k H' x uF->∃F'',Ext F' H' F'' uF/\Rep K F'' x d)/\(ds.length<=k->J.stop k H')fin:∀F2 ρ2 σ2 H2,aq K F1 ρ1 σ H1 F2 ρ2 σ2 H2->aq K F ρ σ H F2 (ul ρ2) σ2 H2/\∀v r,cj K F2 ρ2 σ2 H2 ρ1 σ H1 v r->cj K F2 (ul ρ2) σ2 H2 ρ σ H v r
inductive tIt(K:PySem.W.Frag)(iv:Option Nat)(f:Ev)(σ:L2.St)(H:Hp)(R:It->Hp->Prop):Prop where|mk(F:Hp)(ρ:List Sl)(ds:List D)(ρ1:List Sl)(g:GS K F ρ σ H)(e:srcOf iv f ρ=.ok ds ρ1)(k:∀J F1 H1,Walk K F ρ σ H (aX ρ iv) J ds F1 ρ1 H1->R J H1)
section
variable{K:PySem.W.Frag}{F F1 H H1:Hp}{ρ ρ1:List Sl}{σ:L2.St}{ds:List D}{a:Addr}
theorem zM{xs:List V}{F' H':Hp}(hq:jy K H' a xs)(r:aC K F' xs ds)(s:aH F' H')(k:Nat):(∀d,ds[k]?=some d->(T6 K a).go k H'/\∀x uF,(T6 K a).N6 k H' x uF->∃F'',Ext F' H' F'' uF/\Rep K F'' x d)/\(ds.length<=k->(T6 K a).stop k H'):=by refine⟨fun d hd=>?_,fun h=>⟨xs,hq,by rw[r.length];exact h⟩⟩;obtain⟨w,h1,h2⟩:=r.get hd;refine⟨⟨xs,w,hq,h1⟩,?_⟩;rintro x uF⟨e,y⟩;subst e;have:=y xs hq;rw[h1]at this;cases this;exact⟨F',.refl s,h2⟩
theorem oG{xs:List V}{F' H':Hp}(hq:dG K H' a xs)(r:aC K F' xs ds)(s:aH F' H')(k:Nat):(∀d,ds[k]?=some d->(R0 K a).go k H'/\∀x uF,(R0 K a).N6 k H' x uF->∃F'',Ext F' H' F'' uF/\Rep K F'' x d)/\(ds.length<=k->(R0 K a).stop k H'):=by refine⟨fun d hd=>?_,fun h=>⟨xs,hq,by rw[r.length];exact h⟩⟩;obtain⟨w,h1,h2⟩:=r.get hd;refine⟨⟨xs,w,hq,h1⟩,?_⟩;rintro x uF⟨e,y⟩;subst e;have:=y xs hq;rw[h1]at this;cases this;exact⟨F',.refl s,h2⟩
theorem wI{ul:List Sl->List Sl}{v:V}{d:D}(s:aq K F ρ σ H F1 ρ1 σ H1)(r:Rep K F1 v d)(hi:items d=some ds)(fin:∀F2 ρ2 σ2 H2,aq K F1 ρ1 σ H1 F2 ρ2 σ2 H2->aq K F ρ σ H F2 (ul ρ2) σ2 H2/\∀v r,cj K F2 ρ2 σ2 H2 ρ1 σ H1 v r->cj K F2 (ul ρ2) σ2 H2 ρ σ H v r):∃a,v=.ref a/\(((∃xs,dG K H1 a xs)/\Walk K F ρ σ H ul (R0 K a) ds F1 ρ1 H1)\/((∃xs,jy K H1 a xs)/\Walk K F ρ σ H ul (T6 K a) ds F1 ρ1 H1)):=by cases d with|tup es=>cases hi;rw[Rep]at r;obtain⟨a,xs,rfl,h1,h2⟩:=r;exact⟨a,rfl,.inr ⟨⟨xs,aH.gH s.gs.sub h1⟩,s.gs,fun n k F' ρ' σ' H' s'=>zM (aH.gH s'.gs.sub (aH.gH s'.cG h1)) (h2.mono s'.cG) s'.gs.sub k,fin⟩⟩|lst es=>cases hi;rw[Rep]at r;obtain⟨a,xs,rfl,h1,h2⟩:=r;exact⟨a,rfl,.inl ⟨⟨xs,s.gs.sub.seq h1⟩,s.gs,fun n k F' ρ' σ' H' s'=>oG (s'.gs.sub.seq (s'.cG.seq h1)) (h2.mono s'.cG) s'.gs.sub k,fin⟩⟩|_=>cases hi
theorem rG{i:Nat}{ul:List Sl->List Sl}(g:GS K F ρ1 σ H)(e:ρ1[i]?=some (.lent ds))(fin:∀F2 ρ2 σ2 H2,aq K F ρ1 σ H F2 ρ2 σ2 H2->aq K F ρ σ H F2 (ul ρ2) σ2 H2/\∀v r,cj K F2 ρ2 σ2 H2 ρ1 σ H v r->cj K F2 (ul ρ2) σ2 H2 ρ σ H v r):∃a,σ[i]?=some (some (.ref a))/\(∃xs,dG K H a xs)/\Walk K F ρ σ H ul (R0 K a) ds F ρ1 H:=by obtain⟨a,xs,h1,h2,h3,h4⟩:=g.qp i _ ds e rfl;have hi:i<ρ1.length:=(List.getElem?_eq_some_iff.mp e).1;refine⟨a,h1,⟨xs,dG.of h2⟩,g,fun n k F' ρ' σ' H' s'=>?_,fin⟩;obtain⟨z1,t,z2,z3⟩:=s'.lk i _ (by rw[getElem?_append_left hi];exact e) rfl;cases(show t=.lent ds from z3);rw[getElem?_append_left (by rw[<-g.len];exact hi),h1]at z1;obtain⟨a',ys,w1,w2,w3,w4⟩:=s'.gs.qp i _ ds z2 rfl;rw[z1]at w1;cases w1;exact oG (dG.of w2) w4 s'.gs.sub k
end
section
variable{X:Cx}{c:Call}{n:Nat}{e a b d tg:Expr}{p pa pb pd:P}{pos:Pos}
theorem pU{t t':TI}(h:PI X tg e t)(i:∀σ H R,t' σ H R->t σ H R):PI X tg e t':=fun pins s σ H R I q=>h pins s σ H R I (i σ H R q)
def SI(X:Cx)(c:Call)(tg e:Expr)(p:P):Prop:=PI X tg e (tIt X.K (isVar p) (HH.ev c p))
theorem cT(h:SX X c e p):SI X c tg e p:=by unfold SI;cases hv:isVar p with|none=>refine pU (yI h.ev) ?_;rintro σ H R⟨F,ρ,ds,ρ1,g,e,k⟩;obtain⟨r,ρ2,e1,e2⟩:=aa e;have zz:=aF e2;clear e2;obtain⟨e2,e3⟩:=zz;subst e3;refine⟨F,ρ,r,_,g,e1,fun v F' H' s rr=>?_⟩;obtain⟨F2,s2,_,rp⟩:=s.cN rr;obtain⟨a,ha,hw⟩:=wI (ul:=aX ρ none) s2 rp e2 fun F3 ρ3 σ3 H3 s3=>⟨s2.trans s3,fun v r rr=>rr.later s2⟩;exact⟨a,ha,hw.imp (fun⟨z,w⟩=>⟨z,k _ _ _ w⟩) (fun⟨z,w⟩=>⟨z,k _ _ _ w⟩)⟩|some i=>
   refine pU (yI (h.var i hv)) ?_;rintro σ H R⟨F,ρ,ds,ρ1,g,e,k⟩;unfold srcOf at e;dsimp only at e;split at e
   . rename_i b d q;have zz:=aF e;clear e;obtain⟨e2,e3⟩:=zz;subst e3;obtain⟨v,h1,h2⟩:=g.val i b d q;have fin:∀F2 ρ2 σ2 H2,aq X.K F ρ σ H F2 ρ2 σ2 H2->aq X.K F ρ σ H F2 (aX ρ (some i) ρ2) σ2 H2/\∀v r,cj X.K F2 ρ2 σ2 H2 ρ σ H v r->cj X.K F2 (aX ρ (some i) ρ2) σ2 H2 ρ σ H v r:=fun F2 ρ2 σ2 H2 s=>by unfold aX;dsimp only;rw[q];exact⟨s,fun _ _ z=>z⟩
     obtain⟨a,ha,hw⟩:=wI (ul:=aX ρ (some i)) (.refl g) h2 e2 fin;exact⟨v,h1,a,ha,hw.imp (fun⟨z,w⟩=>⟨z,k _ _ _ w⟩) (fun⟨z,w⟩=>⟨z,k _ _ _ w⟩)⟩
   . rename_i b ds' q;cases e;have hi:i<ρ.length:=(List.getElem?_eq_some_iff.mp q).1;have fin:∀F2 ρ2 σ2 H2,aq X.K F (ρ.set i (.lent ds)) σ H F2 ρ2 σ2 H2->aq X.K F ρ σ H F2 (aX ρ (some i) ρ2) σ2 H2/\∀v r,cj X.K F2 ρ2 σ2 H2 (ρ.set i (.lent ds)) σ H v r->cj X.K F2 (aX ρ (some i) ρ2) σ2 H2 ρ σ H v r:=fun F2 ρ2 σ2 H2 s=>by unfold aX;dsimp only;rw[q];exact aq.aX g q s
     obtain⟨a,h1,hx,w⟩:=rG (ul:=aX ρ (some i)) (g.lend q) (getElem?_set_self hi) fin;exact⟨_,h1,a,rfl,.inl ⟨hx,k _ _ _ w⟩⟩
   . rename_i ds' q;cases e;have fin:∀F2 ρ2 σ2 H2,aq X.K F ρ σ H F2 ρ2 σ2 H2->aq X.K F ρ σ H F2 (aX ρ (some i) ρ2) σ2 H2/\∀v r,cj X.K F2 ρ2 σ2 H2 ρ σ H v r->cj X.K F2 (aX ρ (some i) ρ2) σ2 H2 ρ σ H v r:=fun F2 ρ2 σ2 H2 s=>by unfold aX;dsimp only;rw[q];exact⟨s,fun _ _ z=>z⟩
     obtain⟨a,h1,hx,w⟩:=rG (ul:=aX ρ (some i)) g q fin;exact⟨_,h1,a,rfl,.inl ⟨hx,k _ _ _ w⟩⟩
   .cases e
theorem vp{K:PySem.W.Frag}{F F1 H H1:Hp}{ρ ρ1:List Sl}{σ:L2.St}(s:aq K F ρ σ H F1 ρ1 σ H1)(i j:Int):Walk K F ρ σ H (aX ρ none) (U4 i (j-i).toNat) ((List.range (j-i).toNat).map fun(k:Nat)=>D.int (i+(k:Int))) F1 ρ1 H1:=by
 refine⟨s.gs,fun n k F' ρ' σ' H' s'=>⟨fun d hd=>?_,fun h=>?_⟩,fun F3 ρ3 σ3 H3 s3=>⟨s.trans s3,fun v r rr=>rr.later s⟩⟩;.rw[getElem?_map]at hd;obtain⟨m,e1,e2⟩:=map_some hd;obtain⟨h1,h2⟩:=List.getElem?_eq_some_iff.mp e1;rw[List.getElem_range]at h2;subst h2;subst e2;rw[length_range]at h1;refine⟨h1,?_⟩;rintro x uF⟨q1,q2⟩;subst q1;subst q2;exact⟨F',.refl s'.gs.sub,bz _⟩
 .rw[length_map,length_range]at h;exact h
theorem j9{x:Str}{p':Pos}(hx:x="range")(hg:Gl X x)(hm:X.mg x=none)(ha:SX X c a pa)(hs:starEach [a] X.env=[(false,eval a X.env)]:=by rfl):SI X c tg (.Call (.Name x p') [a] [] pos) (.wU (.con (.int 0)) pa):=by
 subst hx;obtain⟨ta,h1,h2⟩:=ha.bY;refine pU (rE hg hm (cB h1 dZ hs) hs) ?_;rintro σ H R⟨F,ρ,ds,ρ1,g,e,k⟩;obtain⟨r,ρ2,e1,e2⟩:=aa e;have zz:=aF e2;clear e2;obtain⟨e2,e3⟩:=zz;subst e3;rw[HH.E20]at e1;obtain⟨xy,ρ3,e4,e5⟩:=aa e1;have zz:=aF e5;clear e5;obtain⟨e5,e6⟩:=zz;subst e6;obtain⟨y0,ρ5,e9,e10⟩:=aa e4;cases e10;obtain⟨i,f1,e5⟩:=bI e5;obtain⟨j,f2,e5⟩:=bI e5;obtain⟨⟨b1,b2,b3,b4⟩,e5⟩:=aP e5;have f1:i=0:=by cases f1;rfl
 subst f1;subst e5;cases e2;cases cz f2;refine h2 g e9 fun v F' H' s pv=>⟨j,by rw[pv.int],by omega,by omega,?_⟩;have:=vp s 0 j;rw[sub_zero]at this;refine k _ F' H' ?_;rw[sub_zero];exact this
theorem Lx{x:Str}{p':Pos}(hx:x="range")(hg:Gl X x)(hm:X.mg x=none)(ha:SX X c a pa)(hb:SX X c b pb)(hs:starEach [a,b] X.env=[(false,eval a X.env),(false,eval b X.env)]:=by rfl)(hs2:starEach [b] X.env=[(false,eval b X.env)]:=by rfl):SI X c tg (.Call (.Name x p') [a,b] [] pos) (.wU pa pb):=by subst hx;obtain⟨ta,tb,h1,h2,h3⟩:=ha.gb hb;refine pU (By hg hm (cB h1 (cB h2 dZ hs2) (by rw[hs,hs2])) hs hs2) ?_;rintro σ H R⟨F,ρ,ds,ρ1,g,e,k⟩;obtain⟨r,ρ2,e1,e2⟩:=aa e;have zz:=aF e2;clear e2;obtain⟨e2,e3⟩:=zz;subst e3;rw[HH.E20]at e1;obtain⟨xy,ρ3,e4,e5⟩:=aa e1;have zz:=aF e5;clear e5;obtain⟨e5,e6⟩:=zz;subst e6;obtain⟨i,f1,e5⟩:=bI e5;obtain⟨j,f2,e5⟩:=bI e5;obtain⟨⟨b1,b2,b3,b4⟩,e5⟩:=aP e5;subst e5;cases e2;refine h3 g e4 fun v u F' H' s pv pu=>⟨i,j,?_,by omega,k _ F' H' (vp s i j)⟩;have e1:=cz f1;have e2:=cz f2;rw[e1]at pv;rw[e2]at pu;rw[pv.int,pu.int]
end
section
variable{X:Cx}{c:Call}{n:Nat}{e a b d tg iter:Expr}{p pa pb pd:P}{pos:Pos}{body:List Stmt}{ss:List S}
def Jk(K:PySem.W.Frag)(bd:List Sl->D->Option (List Sl))(g:TG):Prop:=∀(x:V)(d:D)(F:Hp)(ρ ρ':List Sl)(σ:L2.St)(H:Hp)(Q:L2.St->Hp->Prop),GS K F ρ σ H->Rep K F x d->bd ρ d=some ρ'->(∀σ',aq K F ρ σ H F ρ' σ' H->Q σ' H)->g x σ H Q
theorem uw{K:PySem.W.Frag}(i:Nat):Jk K (fun ρ d=>put ρ i (.val false d)) (iW i):=fun x d F ρ ρ' σ H Q g r h k=>k _ (aq.put (r:=.val d) (.refl g) r h)
theorem fc{K:PySem.W.Frag}:∀(is:List Nat)(gs:Dy),(∀(xs:List V)(ds:List D)(F:Hp)(ρ ρ':List Sl)(σ:L2.St)(H:Hp)(Q:L2.St->Hp->Prop),GS K F ρ σ H->aC K F xs ds->putAll ρ is ds=some ρ'->(∀σ',aq K F ρ σ H F ρ' σ' H->Q σ' H)->gs xs σ H Q)->∀i,∀(xs:List V)(ds:List D)(F:Hp)(ρ ρ':List Sl)(σ:L2.St)(H:Hp)(Q:L2.St->Hp->Prop),GS K F ρ σ H->aC K F xs ds->putAll ρ (i::is) ds=some ρ'->(∀σ',aq K F ρ σ H F ρ' σ' H->Q σ' H)->El (iW i) gs xs σ H Q:=by intro is gs ih i xs ds F ρ ρ' σ H Q g r h k;cases ds with|nil=>simp[putAll]at h|cons d ds=>obtain⟨v,vs,rfl,h1,h2⟩:=r.bV;rw[putAll]at h;obtain⟨ρ1,e1,e2⟩:=bI h;have s1:=aq.put (r:=.val d) (.refl g) h1 e1;refine⟨v,vs,rfl,ih vs ds F ρ1 ρ' _ H _ s1.gs h2 e2 fun σ' s2=>k σ' (s1.trans s2)⟩
theorem uf{K:PySem.W.Frag}:∀(xs:List V)(ds:List D)(F:Hp)(ρ ρ':List Sl)(σ:L2.St)(H:Hp)(Q:L2.St->Hp->Prop),GS K F ρ σ H->aC K F xs ds->putAll ρ [] ds=some ρ'->(∀σ',aq K F ρ σ H F ρ' σ' H->Q σ' H)->Px xs σ H Q:=by intro xs ds F ρ ρ' σ H Q g r h k;cases ds with|nil=>rw[putAll]at h;cases h;exact⟨r.dF,k σ (.refl g)⟩|cons d ds=>simp[putAll]at h
theorem jR:∀{is:List Nat}{ds:List D}{ρ ρ':List Sl},putAll ρ is ds=some ρ'->ds.length=is.length|[],[],_,_,_=>rfl|[],_::_,_,_,h=>by simp[putAll]at h|_::_,[],_,_,h=>by simp[putAll]at h|i::is,d::ds,ρ,ρ',h=>by rw[putAll]at h;obtain⟨ρ1,e1,e2⟩:=bI h;simp[jR e2]
theorem yP{K:PySem.W.Frag}{is:List Nat}{gs:Dy}{m:Nat}(hm:m=is.length)(h:∀(xs:List V)(ds:List D)(F:Hp)(ρ ρ':List Sl)(σ:L2.St)(H:Hp)(Q:L2.St->Hp->Prop),GS K F ρ σ H->aC K F xs ds->putAll ρ is ds=some ρ'->(∀σ',aq K F ρ σ H F ρ' σ' H->Q σ' H)->gs xs σ H Q):Jk K (fun ρ d=>cI ρ is false d) (QS K m gs):=by intro x d F ρ ρ' σ H Q g r hb k;replace hb:cI ρ is false d=some ρ':=hb;cases d with|tup ds=>replace hb:putAll ρ is ds=some ρ':=hb;rw[Rep]at r;obtain⟨a,xs,rfl,h1,h2⟩:=r;exact⟨a,xs,rfl,aH.gH g.sub h1,by rw[h2.length,jR hb,hm],h xs _ F ρ ρ' σ H Q g h2 hb k⟩|_=>cases hb
theorem uc{g:TG}{is:List Nat}{one:Bool}(hp:PassesOwn (model X.prog X.w) X.A X.env X.xe)(hc:X.calm=true)(hi:SI X c tg iter p)(hg:PG X tg g)(hgo:Jk X.K (fun ρ d=>cI ρ is one d) g)(hb:SB X c n body ss)(hs:∀x,foldedSetIterable iter X.env x=pure x:=by intro _;rfl):SS X c n (.For tg iter body [] pos) (.iZ p is one ss):=by
 refine dD (Gs hp hc hi hg hb hs) ?_;rintro D σ H⟨F,ρ,fl,ρ',g0,e,k⟩;rw[HH.X12]at e;obtain⟨ds,ρ1,e1,e⟩:=aa e;obtain⟨fl',ρ2,e2,e⟩:=aa e;cases e;refine⟨F,ρ,ds,ρ1,g0,e1,fun J F1 H1 w=>?_⟩;have src:∀(i:Nat)(F':Hp)(ρ':List Sl)(σ':L2.St)(H':Hp),aq X.K F1 ρ1 σ H1 F' ρ' σ' H'->(∀d,ds[i]?=some d->J.go i H'/\∀x uF,J.N6 i H' x uF->∃F'',Ext F' H' F'' uF/\Rep X.K F'' x d)/\(ds.length<=i->J.stop i H'):=fun i F' ρ' σ' H' s=>w.src 0 i F' ρ' σ' H' (by simpa using s);refine⟨fun i m σi Hi=>∃Fi ρi,aq X.K F1 ρ1 σ H1 Fi ρi σi Hi/\m=ds.length-i/\i<=ds.length/\gj is one (eX c n ss) (ds.drop i) ρi=.ok fl ρ2,⟨_,F1,ρ1,.refl w.gs,rfl,zero_le _,e2⟩,?_⟩;rintro i m σi Hi⟨Fi,ρi,si,rfl,hle,ei⟩;obtain⟨s1,s2⟩:=src i Fi ρi σi Hi si;by_cases hlt:i<ds.length
 . right;have hd:ds[i]?=some ds[i]:=by simp[hlt]
   obtain⟨go,step⟩:=s1 _ hd;refine⟨go,fun σ' H'=>∃m',m'<ds.length-i/\∃Fi ρi,aq X.K F1 ρ1 σ H1 Fi ρi σ' H'/\m'=ds.length-(i+1)/\i+1<=ds.length/\gj is one (eX c n ss) (ds.drop (i+1)) ρi=.ok fl ρ2,fun σ' H' z=>z,fun x H' y=>?_⟩;obtain⟨F2,ext,rx⟩:=step x H' y;have si2:=si.trans (ext.stp si.gs);rw[drop_eq_getElem_cons hlt,gj]at ei;cases hbd:cI ρi is one ds[i]with|none=>rw[hbd]at ei;cases ei|some ρb=>rw[hbd]at ei;obtain⟨flb,ρc,eb,ei⟩:=aa ei;refine hgo x _ F2 ρi ρb σi H' _ si2.gs rx hbd fun σ2 sb=>?_;have si3:=si2.trans sb;refine⟨F2,ρb,flb,ρc,si3.gs,eb,fun F4 σ4 H4 s4=>?_⟩;have si4:=si3.trans s4;cases flb with|next=>exact⟨_,by omega,F4,ρc,si4,rfl,hlt,ei⟩|cont=>exact⟨_,by omega,F4,ρc,si4,rfl,hlt,ei⟩|brk=>cases ei;exact k F4 σ4 H4 (w.fin _ _ _ _ si4).1|ret r=>cases ei;intro v rr;obtain⟨z1,z2⟩:=w.fin _ _ _ _ si4;exact k F4 σ4 H4 z1 v (z2 v r (rr.later si3))
 . left;have hdr:ds.drop i=[]:=by rw[drop_eq_nil_iff];omega
   rw[hdr,gj]at ei;cases ei;exact⟨s2 (by omega),k Fi σi Hi (w.fin _ _ _ _ si).1⟩
theorem lU(i:Nat):(fun(ρ:List Sl)(d:D)=>cI ρ [i] true d)=fun ρ d=>put ρ i (.val false d):=by funext ρ d;rfl
theorem zV{i:Nat}{x:Str}{pos':Pos}(hp:PassesOwn (model X.prog X.w) X.A X.env X.xe)(hc:X.calm=true)(hN:X.N.Nodup)(hx0:X.N[i]?=some x)(hx:Loc X.env.scope x)(hi:SI X c (.Name x pos') iter p)(hb:SB X c n body ss)(hs:∀x,foldedSetIterable iter X.env x=pure x:=by intro _;rfl)(hf:X.fn x=true\/X.env.scope.names.lookup x=some .local:=by first|exact .inl rfl|exact .inr rfl|assumption):SS X c n (.For (.Name x pos') iter body [] pos) (.iZ p [i] true ss):=uc hp hc hi (aY hN hx0 hx hf) (by rw[lU];exact uw i) hb hs
theorem xU(hp:PassesOwn (model X.prog X.w) X.A X.env X.xe)(ht:ST X c e p)(hb:SB X c n body ss):SS X c n (.While e body [] pos) (.whl p ss):=by refine dD (Hd hp ht hb) ?_;rintro D σ H⟨F,ρ,fl,ρ',g,e,k⟩;rw[HH.X13]at e;refine⟨fun m σi Hi=>∃Fi ρi,aq X.K F ρ σ H Fi ρi σi Hi/\qm (gG (HH.ev c p)) (eX c n ss) m ρi=.ok fl ρ',⟨n,F,ρ,.refl g,e⟩,?_⟩;rintro m σi Hi⟨Fi,ρi,si,ei⟩;cases m with|zero=>rw[qm]at ei;cases ei|succ m=>rw[qm]at ei;obtain⟨b,ρ1,e1,ei⟩:=aa ei;refine⟨Fi,ρi,b,ρ1,si.gs,e1,fun F1 H1 s1=>?_⟩;have s2:=si.trans s1;cases b with|false=>rw[if_neg Bool.false_ne_true]at ei;cases ei;exact k F1 σi H1 s2|true=>rw[if_pos rfl]at ei;obtain⟨flb,ρc,eb,ei⟩:=aa ei;refine(show ∃N:L2.St->Hp->Prop,_/\_ from⟨fun σ' H'=>∃m',m'<m+1/\∃Fi ρi,aq X.K F ρ σ H Fi ρi σ' H'/\qm (gG (HH.ev c p)) (eX c n ss) m' ρi=.ok fl ρ',fun σ' H' z=>z,F1,ρ1,flb,ρc,s2.gs,eb,fun F4 σ4 H4 s4=>?_⟩);have s5:=s2.trans s4;cases flb with|next=>exact⟨m,by omega,F4,ρc,s5,ei⟩|cont=>exact⟨m,by omega,F4,ρc,s5,ei⟩|brk=>cases ei;exact k F4 σ4 H4 s5|ret r=>cases ei;exact fun v rr=>k F4 σ4 H4 s5 v (rr.later s2)
end
section
variable{X:Cx}{c:Call}{n:Nat}{e elt tg iter:Expr}{p ps pe:P}{pos:Pos}{scope:Scope}{N':List Str}{ifs:List Expr}
theorem Sq{t t':TE}(h:PE X e t)(i:∀σ H Q,σ.length=X.N.length->t' σ H Q->t σ H Q):PE X e t':=fun pins s σ H Q I q=>h pins s σ H Q I (i σ H Q I.len q)
def o9(K:PySem.W.Frag)(m:Nat)(is:List Nat)(one:Bool)(g:TG):Prop:=∀(x:V)(d:D)(F:Hp)(ρ ρ':List Sl)(σ:L2.St)(H:Hp)(Q:L2.St->Hp->Prop),GS K F ρ σ H->Rep K F x d->cI ρ is one d=some ρ'->(∀σ',aq K F ρ σ H F ρ' σ' H->σ'.take m=σ.take m->Q σ' H)->g x σ H Q
theorem take_set{α:Type}{l:List α}{i m:Nat}{a:α}(h:m<=i):(l.set i a).take m=l.take m:=by rw[List.take_set_of_le h]
theorem gk{K:PySem.W.Frag}{i m:Nat}(h:m<=i):o9 K m [i] true (iW i):=fun x d F ρ ρ' σ H Q g r hb k=>k _ (aq.put (r:=.val d) (.refl g) r hb) (take_set h)
def K9(K:PySem.W.Frag)(m:Nat)(is:List Nat)(gs:Dy):Prop:=∀(xs:List V)(ds:List D)(F:Hp)(ρ ρ':List Sl)(σ:L2.St)(H:Hp)(Q:L2.St->Hp->Prop),GS K F ρ σ H->aC K F xs ds->putAll ρ is ds=some ρ'->(∀σ',aq K F ρ σ H F ρ' σ' H->σ'.take m=σ.take m->Q σ' H)->gs xs σ H Q
theorem gf{K:PySem.W.Frag}{m i:Nat}{is:List Nat}{gs:Dy}(hi:m<=i)(ih:K9 K m is gs):K9 K m (i::is) (El (iW i) gs):=by intro xs ds F ρ ρ' σ H Q g r h k;cases ds with|nil=>simp[putAll]at h|cons d ds=>obtain⟨v,vs,rfl,h1,h2⟩:=r.bV;rw[putAll]at h;obtain⟨ρ1,e1,e2⟩:=bI h;have s1:=aq.put (r:=.val d) (.refl g) h1 e1;exact⟨v,vs,rfl,ih vs ds F ρ1 ρ' _ H _ s1.gs h2 e2 fun σ' s2 z=>k σ' (s1.trans s2) (z.trans (take_set hi))⟩
theorem uB{K:PySem.W.Frag}{m:Nat}:K9 K m [] Px:=by intro xs ds F ρ ρ' σ H Q g r h k;cases ds with|nil=>rw[putAll]at h;cases h;exact⟨r.dF,k σ (.refl g) rfl⟩|cons d ds=>simp[putAll]at h
theorem rW{K:PySem.W.Frag}{is:List Nat}{gs:Dy}{m l:Nat}(hm:l=is.length)(h:K9 K m is gs):o9 K m is false (QS K l gs):=by intro x d F ρ ρ' σ H Q g r hb k;cases d with|tup ds=>replace hb:putAll ρ is ds=some ρ':=hb;rw[Rep]at r;obtain⟨a,xs,rfl,h1,h2⟩:=r;exact⟨a,xs,rfl,aH.gH g.sub h1,by rw[h2.length,jR hb,hm],h xs _ F ρ ρ' σ H Q g h2 hb k⟩|_=>cases hb
def SQ(X:Cx)(c:Call)(ifs:List Expr)(t:Option P):Prop:=Ro X ifs (Iu X.K (uI c t))
theorem ji:SQ X c [] none:=fun pins s σ H Q I⟨F,ρ,k,ρ',g,e,q⟩=>by rw[uI]at e;cases e;exact Jf pins s σ H Q I (q F H (.refl g))
theorem sW(h:ST X c e p):SQ X c [e] (some p):=fun pins s σ H Q I⟨F,ρ,k,ρ',g,e,q⟩=>by rw[uI]at e;exact KC h pins s σ H Q I ⟨F,ρ,k,ρ',g,e,q⟩
theorem aq.Gv{K:PySem.W.Frag}{F H F1 H1:Hp}{ρ ρ1:List Sl}{σ σ1:L2.St}{Da:Addr}{o:HO}(s:aq K F ρ σ H F1 ρ1 σ1 H1)(h:H Da=none)(hf:F1 Da=none)(ho:¬ Own ρ1 σ1 Da):aq K F ρ σ H F1 ρ1 σ1 (upd H1 Da o):=by
 refine⟨⟨fun b u e=>?_,s.gs.len,s.gs.val,fun i t ds e e'=>?_,s.gs.dis⟩,s.cG,s.wX,fun b u e n=>?_,s.uK,s.len,s.lk⟩
 . have:b≠Da:=by rintro rfl;rw[hf]at e;cases e
   rw[aA this];exact s.gs.sub b u e
 . obtain⟨a,xs,q1,q2,q3,q4⟩:=s.gs.own i t ds e e';have:a≠Da:=by rintro rfl;exact ho ⟨i,⟨t,ds,e,e'⟩,q1⟩
   exact⟨a,xs,q1,by rw[aA this];exact q2,q3,q4⟩
 . have:b≠Da:=by rintro rfl;rw[h]at e;cases e
   rw[aA this];exact s.keep b u e n
theorem DW{K:PySem.W.Frag}{F H:Hp}{ρ ρ1 ρ2:List Sl}{σ:L2.St}{ul:List Sl->List Sl}{ti:TI}{is:List Nat}{one:Bool}{test:List Sl->Res Bool}{el:Ev}{g:TG}{Q:VK}{ds xs:List D}{m:Nat}(hm:σ.length=m)(hgo:o9 K m is one g)(hti:∀R:It->Hp->Prop,(∀J F1 H1,Walk K F ρ σ H ul J ds F1 ρ1 H1->R J H1)->ti σ H R)(hlim:ds.length<=lim)(e2:turns is one test el ds [] (ρ1++replicate n .aV)=.ok xs ρ2)(k:∀v F' H',aq K F ρ σ H F' (ul (ρ2.take ρ1.length)) σ H'->cj K F' (ul (ρ2.take ρ1.length)) σ H' ρ σ H v (.own xs)->Q v H'):qH n ti g (Iu K test) (xq K el) σ H Q:=by
 refine hti _ fun J F1 H1 w Da Bv=>?_;have hl1:ρ1.length=σ.length:=w.gs.len;have gm:=w.gs.more (n:=n) (τ:=replicate n none) (by simp);have fD:F1 Da=none:=by cases q:F1 Da with|none=>rfl|some o=>rw[w.gs.sub Da o q]at Bv;cases Bv
 have nO:¬ Own (ρ1++replicate n .aV) (σ++replicate n none) Da:=fun⟨i,⟨t,dt,q1,q2⟩,q3⟩=>by obtain⟨a,ys,z1,z2,_⟩:=gm.own i t dt q1 q2;rw[q3]at z1;cases z1;rw[Bv]at z2;cases z2
 refine⟨fun i mm ys σi Hi=>∃Fi ρi acc,aq K F1 (ρ1++replicate n .aV) (σ++replicate n none) H1 Fi ρi σi Hi/\σi.take m=σ/\Hi Da=some (.lst ys)/\Fi Da=none/\¬ Own ρi σi Da/\aC K Fi ys acc/\acc.length<=i/\mm=ds.length-i/\i<=ds.length/\turns is one test el (ds.drop i) acc ρi=.ok xs ρ2,⟨_,F1,_,[],(aq.refl gm).Gv Bv fD nO,by rw[List.take_append_of_le_length (by omega),take_of_length_le (by omega)],aJ,fD,nO,.nil,zero_le _,rfl,zero_le _,e2⟩,?_⟩;rintro i mm ys σi Hi⟨Fi,ρi,acc,si,hσ,hD,hF,hO,rs,hacc,rfl,hle,ei⟩;refine⟨hD,?_⟩--what stays of the new list through a step
 have stay:∀{F2 H2:Hp}{ρ3:List Sl}{σ2:L2.St},aq K Fi ρi σi Hi F2 ρ3 σ2 H2->H2 Da=some (.lst ys)/\F2 Da=none/\¬ Own ρ3 σ2 Da:=fun{F2 H2 ρ3 σ2}s=>by
  refine⟨s.keep Da _ hD hO,?_,fun o=>?_⟩;.cases q:F2 Da with|none=>rfl|some o=>
      rcases s.wX Da hF (by rw[q];simp)with z|z;.exact absurd z hO
      .exact(Fy hD z).elim
  . rcases s.uK Da o with z|z;.exact hO z
    .rw[hD]at z;cases z
 obtain⟨s1,s2⟩:=w.src n i Fi ρi σi Hi si;by_cases hlt:i<ds.length
 . right;have hd:ds[i]?=some ds[i]:=by simp[hlt]
   obtain⟨go,step⟩:=s1 _ hd;refine⟨go,fun x H2 y=>?_⟩;obtain⟨F2,ext,rx⟩:=step x H2 y;have t2:=ext.stp si.gs;rw[drop_eq_getElem_cons hlt,turns]at ei;cases hbd:cI ρi is one ds[i]with|none=>rw[hbd]at ei;cases ei|some ρb=>rw[hbd]at ei;obtain⟨bb,ρc,eb,ei⟩:=aa ei;refine hgo x _ F2 ρi ρb σi H2 _ t2.gs rx hbd fun σ2 sb htk=>?_;have t3:=t2.trans sb;refine⟨F2,ρb,bb,ρc,t3.gs,eb,fun F4 H4 s4=>?_⟩;have t4:=t3.trans s4;cases bb with|false=>rw[if_neg Bool.false_ne_true]at ei;obtain⟨y1,y2,y3⟩:=stay t4;exact⟨_,by omega,F4,ρc,acc,si.trans t4,htk.trans hσ,y1,y2,y3,rs.mono t4.cG,by omega,rfl,hlt,ei⟩|true=>
       rw[if_pos rfl]at ei;obtain⟨re,ρe,ee,ei⟩:=aa ei;refine(show xq K el σ2 H4 _ from⟨F4,ρc,re,ρe,t4.gs,ee,fun v F5 H5 s5 rr=>?_⟩);obtain⟨F6,s6,_,rp⟩:=s5.cN rr;have t6:=t4.trans s6;obtain⟨y1,y2,y3⟩:=stay t6;have hlen:ys.length<sizeLine:=by have h1:=rs.length;have h2:lim=sizeLine:=rfl;omega
       exact⟨y1,hlen,_,by omega,F6,ρe,acc++[re.d],(si.trans t6).Gv Bv y2 y3,htk.trans hσ,aJ,y2,y3,(rs.mono t6.cG).append (.cons rp .nil),by simp;omega,rfl,hlt,ei⟩
 . left;have hdr:ds.drop i=[]:=by rw[drop_eq_nil_iff];omega
   rw[hdr,turns]at ei;cases ei;refine⟨s2 (by omega),?_⟩;obtain⟨l1,l2⟩:=aq.less (m:=ρ1.length) rfl w.gs (by simp) si;have hst:σi.take ρ1.length=σ:=by rw[hl1,hm];exact hσ
   rw[hst]at l1;have rr:cj K Fi ρ2 σi Hi (ρ1++replicate n .aV) (σ++replicate n none) H1 (.ref Da) (.own xs):=⟨Da,ys,rfl,hD,hF,rs,hO,.inr Bv⟩;have Oe:=l2 _ _ rr;rw[hst]at Oe;obtain⟨z1,z2⟩:=w.fin _ _ _ _ l1;exact k _ Fi Hi z1 (z2 _ _ Oe)
theorem Kc{K:PySem.W.Frag}{F H:Hp}{ρ:List Sl}{σ:L2.St}{iv:Option Nat}{f:Ev}{is:List Nat}{one:Bool}{test:List Sl->Res Bool}{el:Ev}{g:TG}{Q:VK}{r:R}{ρ':List Sl}{m:Nat}(hm:σ.length=m)(hgo:o9 K m is one g)(g0:GS K F ρ σ H)(e:((srcOf iv f ρ).bind fun ds ρ₁=>if ds.length<=lim then(turns is one test el ds [] (ρ₁++replicate n .aV)).bind fun xs ρ₂=>Res.ok (R.own xs) (aX ρ iv (ρ₂.take ρ₁.length))else .stuck)=.ok r ρ')(k:∀v F' H',aq K F ρ σ H F' ρ' σ H'->cj K F' ρ' σ H' ρ σ H v r->Q v H'):qH n (tIt K iv f) g (Iu K test) (xq K el) σ H Q:=by
 obtain⟨ds,ρ1,e1,e⟩:=aa e;split at e;.rename_i hlim;obtain⟨xs,ρ2,e2,e⟩:=aa e;cases e;exact DW hm hgo (fun R h=>⟨F,ρ,ds,ρ1,g0,e1,h⟩) hlim e2 k
 .cases e
theorem fB{g:TG}{is:List Nat}{one:Bool}{t:Option P}(hc:X.calm=true)(ok:dW X scope N' n)(hi:SI X c tg iter ps)(hg:∀cl C s₀ H₀ ex,PG (v7 X scope N' cl C s₀ H₀ ex) tg g)(hgo:o9 X.K X.N.length is one g)(ht:∀cl C s₀ H₀ ex,SQ (v7 X scope N' cl C s₀ H₀ ex) c ifs t)(he:∀cl C s₀ H₀ ex,SX (v7 X scope N' cl C s₀ H₀ ex) c elt pe)(hs:∀x,foldedSetIterable iter X.env x=pure x:=by intro _;rfl):SX X c (.ListComp elt [⟨tg,iter,ifs,0⟩] scope pos) (.comp ps n is one t pe):=by refine⟨Sq (JM (tt:=Iu X.K (uI c t)) (te:=xq X.K (HH.ev c pe)) hc ok hi hg ht (fun cl C s₀ H₀ ex=>(he cl C s₀ H₀ ex).ev) hs) ?_,fun i h=>by cases h⟩;rintro σ H Q hl⟨F,ρ,r,ρ',g0,e,k⟩;rw[HH.E19]at e;exact Kc hl hgo g0 e k
end
section
variable{X:Cx}{c:Call}{n:Nat}{e a b d:Expr}{p pa pb pd:P}{pos:Pos}{es:List Expr}{ps:List P}
noncomputable def tyN:D->String|.non=>"NoneType"|.bl _=>"bool"|.int _=>"int"|.str _=>"str"|.tup _=>"tuple"|.lst _=>"list"|.cM _=>"dict"|.dv _ _=>"dict"
noncomputable def WD:Ty->String|.none=>"NoneType"|.bool=>"bool"|.int=>"int"|.str=>"str"|.tuple=>"tuple"|.list=>"list"
theorem Wk(K:PySem.W.Frag)(t:Ty)(d:D):PySem.W.kitOne K (.type (tyN d)) (.type (WD t))=some (bZ t d):=by cases t<;>cases d<;>rfl
theorem VJ{pins:List (Addr×Obj)}{σ:L2.St}{H F:Hp}{s:Shared}{x:V}{u:Value}{dt:D}(I:L2.Inv X pins σ H s)(sm:aH F H)(px:cC X.K F H x dt)(rx:RelV x u):(∃Hq,PySem.W.KitX X.K u (.type (tyN dt)) Hq/\Hq s.heap)/\u≠.builtin "__main__.__loader__#opaque":=by cases dt with|non=>rw[px.non]at rx;cases rx;exact⟨⟨_,PySem.W.kitx_none,trivial⟩,nofun⟩|bl y=>rw[px.bl]at rx;cases rx;exact⟨⟨_,PySem.W.kitx_bool,trivial⟩,nofun⟩|int i=>rw[px.int]at rx;obtain⟨t,rfl⟩:=rx;exact⟨⟨_,PySem.W.kitx_int,trivial⟩,nofun⟩|str y=>rw[px.str]at rx;obtain⟨t,rfl⟩:=rx;exact⟨⟨_,PySem.W.kitx_str,trivial⟩,nofun⟩|tup ds=>obtain⟨q,xs,rfl,hq,_⟩:=px.tup sm;cases rx;obtain⟨its,_,⟨o,h1,h2,_⟩,_⟩:=I.tuple hq;exact⟨⟨_,PySem.W.kitx_tuple,⟨o,h1,h2⟩⟩,nofun⟩|lst ds=>obtain⟨q,xs,rfl,hq,_⟩:=px.lst sm;cases rx;obtain⟨its,_,pl,_⟩:=I.list hq;obtain⟨o,h1,h2,_⟩:=pl.isList;exact⟨⟨_,PySem.W.kitx_list,⟨o,h1,h2⟩⟩,nofun⟩|cM m=>obtain⟨q,_,rfl,hq⟩:=px.cM sm;cases rx;obtain⟨o,h1,h2⟩:=G8 I hq;exact⟨⟨_,kitx_dict,⟨o,h1,h2⟩⟩,nofun⟩|dv ks ds=>obtain⟨q,_,vs,rfl,hq,_⟩:=px.dv sm;cases rx;obtain⟨o,h1,h2⟩:=Ec I hq;exact⟨⟨_,kitx_dict,⟨o,h1,h2⟩⟩,nofun⟩
theorem S9(t:Ty):cW X (.builtin "isinstance") (fun xs H Q=>∃x F dt,xs=[x,.ty (WD t)]/\aH F H/\cC X.K F H x dt/\Q (.bl (bZ t dt)) H):=by rintro pins s σ H xs us Q I r⟨x,F,dt,hx,sm,px,q⟩;subst hx;obtain⟨u,w',rfl,rx,rt⟩:=r.two;cases(show w'=Value.type (WD t)from rt);obtain⟨⟨Hq,Z,hz⟩,hne⟩:=VJ I sm px rx;exact PySem.W.kia_one Z I.RP hz (Wk _ t dt) hne fun tk=>⟨.bl _,H,I.tok tk,rfl,q⟩
theorem Eo:bootBuiltins "isinstance"=some (.builtin "isinstance"):=by decide+kernel
theorem v5{x y:Str}{p' p2:Pos}(t:Ty)(hx:x="isinstance")(hg:Gl X x)(hm:X.mg x=none)(ha:SX X c a pa)(hgy:Gl X y)(hmy:X.mg y=none)(hy:bootBuiltins y=some (.type (WD t)))(hny:y≠"__name__":=by decide)(hdy:(y==("__debug__":Str))=false:=by decide)(hs:starEach [a,.Name y p2] X.env=(false,eval a X.env)::starEach [.Name y p2] X.env:=by rfl):SX X c (.Call (.Name x p') [a,.Name y p2] [] pos) (.inst [t] pa):=by subst hx;obtain⟨ta,h1,h2⟩:=ha.bY;refine⟨cY (dm (S9 t) hg hm Eo (cB h1 (cB (Jx (v:=.ty (WD t)) hgy hmy hy rfl hny hdy) dZ) hs) (he:=hs)) ?_,fun i h=>by cases h⟩;rintro σ H Q⟨F,ρ,r,ρ',g,e,k⟩;rw[HH.E18]at e;obtain⟨dt,ρ1,e1,e⟩:=aa e;cases e;refine h2 g e1 fun v F' H' s pv=>⟨v,F',dt,rfl,s.gs.sub,pv,k _ F' H' s ?_⟩;show Rep X.K F' _ _;rw[any_cons,List.any_nil,Bool.or_false];exact dC _
inductive rBn(K:PySem.W.Frag)(f:List D->Option R)(xs:List V)(H:Hp)(Q:VK):Prop where|mk(F:Hp)(ds:List D)(r:R)(sm:aH F H)(rs:aC K F xs ds)(he:f ds=some r)(k:∀v F' H',Ext F H F' H'->bB K F' H' H v r->Q v H')
theorem Mx{E:Expr}{f:List D->Option R}{q:P}(hp:∀{t},PA X es t->PE X E (Xw (rBn X.K f) t))(ha:SA X c es ps)(hq:∀ρ,HH.ev c q ρ=(evs c ps ρ).bind fun ds ρ=>lift (f ds) ρ)(hv:isVar q=none):SX X c E q:=by refine⟨cY (hp ha.1) ?_,fun i h=>by rw[hv]at h;cases h⟩;rintro σ H Q⟨F,ρ,r,ρ',g,e,k⟩;rw[hq]at e;obtain⟨ds,ρ1,e1,e2⟩:=aa e;have zz:=aF e2;clear e2;obtain⟨e2,e3⟩:=zz;subst e3;exact⟨F,ρ,ds,ρ1,g,e1,fun vs F' H' s rs=>⟨F',ds,r,s.gs.sub,rs,e2,fun w F2 H2 x rn=>k w F2 H2 (s.trans (x.stp s.gs)) (.later s (rn.nG s.gs))⟩⟩
theorem Mp{K:PySem.W.Frag}{F:Hp}{xs:List V}{i j:Int}(h:aC K F xs [.int i,.int j]):xs=[.int i,.int j]:=by obtain⟨v,r,rfl,h1,h2⟩:=h.bV;obtain⟨u,r2,rfl,h3,h4⟩:=h2.bV;rw[Rep]at h1 h3;rw[h1,h3,h4.dF]
theorem inv2{f:Y0}{g:Int->Int->Int}{ds:List D}{r:R}(h0:blt f []=none)(h1:∀a,blt f [a]=none)(h3:∀a b c l,blt f (a::b::c::l)=none)(hn:∀a b,dY a=false->blt f [a,b]=none)(hm:∀i b,dY b=false->blt f [.int i,b]=none)(hi:∀i j,blt f [.int i,.int j]=some (.val (.int (g i j))))(he:blt f ds=some r):∃i j,ds=[.int i,.int j]/\r=.val (.int (g i j)):=by
 rcases ds with _|⟨a,_|⟨b,_|⟨c,l⟩⟩⟩;.rw[h0]at he;cases he
 .rw[h1]at he;cases he
 . by_cases ha:dY a=true
   . obtain⟨i,rfl⟩:∃i,a=.int i:=by cases a<;>first|exact⟨_,rfl⟩|cases ha
     by_cases hb:dY b=true
     . obtain⟨j,rfl⟩:∃j,b=.int j:=by cases b<;>first|exact⟨_,rfl⟩|cases hb
       rw[hi]at he;cases he;exact⟨i,j,rfl,rfl⟩
     .rw[hm i b (by simpa using hb)]at he;cases he
   .rw[hn a b (by simpa using ha)]at he;cases he
 .rw[h3]at he;cases he
theorem O8(hc:X.calm=true):cW X (.builtin "min") (rBn X.K (blt .min2)):=by rintro pins s σ H xs us Q I r⟨F,ds,r',sm,rs,he,k⟩;obtain⟨i,j,rfl,rfl⟩:=inv2 (g:=fun i j=>if j<i then j else i) rfl (fun a=>by cases a<;>rfl) (fun a b c l=>by cases a<;>first|rfl|(cases b<;>rfl)) (fun a b h=>by cases a<;>first|rfl|cases h) (fun i b h=>by cases b<;>first|rfl|cases h) (fun _ _=>rfl) he;rw[Mp rs]at r;exact BK hc pins s σ H _ us Q I r ⟨_,_,rfl,bB.bQ sm (bz _) k⟩
theorem Rb(hc:X.calm=true):cW X (.builtin "max") (rBn X.K (blt .max2)):=by rintro pins s σ H xs us Q I r⟨F,ds,r',sm,rs,he,k⟩;obtain⟨i,j,rfl,rfl⟩:=inv2 (g:=fun i j=>if i<j then j else i) rfl (fun a=>by cases a<;>rfl) (fun a b c l=>by cases a<;>first|rfl|(cases b<;>rfl)) (fun a b h=>by cases a<;>first|rfl|cases h) (fun i b h=>by cases b<;>first|rfl|cases h) (fun _ _=>rfl) he;rw[Mp rs]at r;exact CJ hc pins s σ H _ us Q I r ⟨_,_,rfl,bB.bQ sm (bz _) k⟩
theorem boot_min:bootBuiltins "min"=some (.builtin "min"):=by decide+kernel
theorem boot_max:bootBuiltins "max"=some (.builtin "max"):=by decide+kernel
theorem Ji{x:Str}{p':Pos}(hx:x="min")(hc:X.calm=true)(hg:Gl X x)(hm:X.mg x=none)(ha:SA X c [a,b] [pa,pb])(hs:starEach [a,b] X.env=(false,eval a X.env)::starEach [b] X.env:=by rfl)(hpl:(backTo pos (starEach [b] X.env)).any (·.1)=false:=by rfl):SX X c (.Call (.Name x p') [a,b] [] pos) (.blt .min2 [pa,pb]):=by subst hx;exact Mx (fun h=>dm (O8 hc) hg hm boot_min h (he:=hs) (hpl:=hpl)) ha (fun ρ=>rfl) rfl
theorem Kd{x:Str}{p':Pos}(hx:x="max")(hc:X.calm=true)(hg:Gl X x)(hm:X.mg x=none)(ha:SA X c [a,b] [pa,pb])(hs:starEach [a,b] X.env=(false,eval a X.env)::starEach [b] X.env:=by rfl)(hpl:(backTo pos (starEach [b] X.env)).any (·.1)=false:=by rfl):SX X c (.Call (.Name x p') [a,b] [] pos) (.blt .max2 [pa,pb]):=by subst hx;exact Mx (fun h=>dm (Rb hc) hg hm boot_max h (he:=hs) (hpl:=hpl)) ha (fun ρ=>rfl) rfl
end
section
variable{X:Cx}{c:Call}{n:Nat}{e a b d:Expr}{p pa pb pd:P}{pos:Pos}{es:List Expr}{ps:List P}
theorem zp{K:PySem.W.Frag}{F H:Hp}{ρ:List Sl}{σ:L2.St}{i:Nat}{ds:List D}(g:GS K F ρ σ H)(h:Dw ρ i=some ds):∃a xs,σ[i]?=some (some (V.ref a))/\dG K H a xs:=by
 unfold Dw at h;split at h;.rename_i q;cases h;obtain⟨v,h1,h2⟩:=g.pk q;obtain⟨a,xs,rfl,h3,_⟩:=h2.lst g.sub;exact⟨a,xs,h1,h3⟩
 .cases h
theorem ou{x:Str}{k:Nat}{px tpos:Pos}(hN:X.N[k]?=some x)(hv:xm X.env.scope x)(hi:SX X c b pb)(he:SX X c e p)(ha:∀ v,assign (.Subscript (.Name x px) b tpos) X.env v=(do
  let ov<-holding [v] (eval (.Name x px) X.env)let iv<-holding [v,ov] (eval b X.env)standAt tpos
  holding [v,ov,iv] (setItem ov iv v)release [v,ov,iv] []):=by intro _;rfl)(hs:swapsWithSole [.Subscript (.Name x px) b tpos] e pos.line X.env=pure false:=by rfl)(hw:swappedStores [.Subscript (.Name x px) b tpos] e X.env=pure none:=by rfl)(h1:(assignEach [.Subscript (.Name x px) b tpos] X.env).map (·.2)=[assign (.Subscript (.Name x px) b tpos) X.env]:=by rfl)(hd:(x==("__debug__":Str))=false:=by decide)(hcd:(x==("__classdict__":Str))=false:=by decide):SS X c n (.Assign [.Subscript (.Name x px) b tpos] e pos) (.yV k pb p):=by
 obtain⟨ti,hi1,hi2⟩:=hi.bY;refine dD (S8 he.ev (Tf (du hN hv hd hcd) hi1 set_list ha) hs hw h1) ?_;rintro D σ H⟨F,ρ,fl,ρ',g,e,kk⟩;rw[HH.X7]at e;obtain⟨r,ρ1,e1,e⟩:=aa e;obtain⟨x0,ρ1',e0,e⟩:=aa e;have zz:=aF e0;clear e0;obtain⟨e0,Ie⟩:=zz;subst Ie;obtain⟨dk,ρ2,e2,e⟩:=aa e;refine⟨F,ρ,r,ρ1,g,e1,fun v F1 H1 s1 rr=>?_⟩;obtain⟨F2,s2,_,rp⟩:=s1.cN rr;obtain⟨o,ho,_⟩:=s2.gs.pk e0;refine⟨o,ho,hi2 s2.gs e2 fun vi F3 H3 s3 pi=>?_⟩;split at e
 . rename_i bb ds kk' q;split at e;.rename_i j hj;cases e;obtain⟨ad,xs,q1,q2,q3,q4⟩:=s3.gs.qp k _ ds q rfl;rw[ho]at q1;cases q1;refine⟨ad,xs,kk',j,rfl,pi.int,q2,by rw[q4.length];exact hj,?_⟩;exact kk F3 σ _ ((s2.trans s3).trans (s3.gs.mut q ho (q4.set (rp.mono s3.cG) j)))
   .cases e
 .cases e
theorem fj{x:Str}{k:Nat}{px apos cpos:Pos}(hN:X.N[k]?=some x)(hv:xm X.env.scope x)(he:SX X c e p)(hline:(apos.endLine==cpos.line)=true:=by rfl)(hs:starEach [e] X.env=(false,eval e X.env)::starEach [] X.env:=by rfl)(hbase:attributeBase (.Name x px) "append" X.env (eval (.Name x px) X.env)=eval (.Name x px) X.env:=by rfl)(hfew:((backTo cpos (starEach [e] X.env)).all (fun x=>!x.1)&&(backToKw cpos (keywordEach [] X.env)).all (fun x=>x.1.isSome)&&decide ([e].length+([]:List Keyword).length+(if([]:List Keyword).isEmpty then 0 else 1)<30))=true:=by rfl)(hsw:swapsWith (.Call (.Attribute (.Name x px) "append" apos) [e] [] cpos) none pos.line X.env=pure false:=by rfl)(hd:(x==("__debug__":Str))=false:=by decide)(hcd:(x==("__classdict__":Str))=false:=by decide):SS X c n (.Expr (.Call (.Attribute (.Name x px) "append" apos) [e] [] cpos) pos) (.app k p):=by
 refine dD (zL (Mj PySem.F.plainAttrs_list PySem.F.slot_list_append PySem.F.type_list_append mL (du hN hv hd hcd) (cB he.ev dZ hs) hbase hfew hline hs) hsw) ?_;rintro D σ H⟨F,ρ,fl,ρ',g,e,kk⟩;rw[HH.X8]at e;obtain⟨d0,ρ0,e0,e⟩:=aa e;have zz:=aF e0;clear e0;obtain⟨e0,Ie⟩:=zz;subst Ie;obtain⟨r,ρ1,e1,e⟩:=aa e;obtain⟨a,xs,h1,h2⟩:=zp g e0;refine⟨.ref a,h1,.inl ⟨rfl,xs,h2⟩,F,ρ,r,ρ1,g,e1,fun v F1 H1 s1 rr=>?_⟩;obtain⟨F2,s2,_,rp⟩:=s1.cN rr;split at e
 . rename_i bb ds q;split at e;.rename_i hlt;cases e;obtain⟨ad,ys,q1,q2,q3,q4⟩:=s2.gs.qp k _ ds q rfl;rw[h1]at q1;cases q1;exact⟨_,ys,v,rfl,rfl,q2,by rw[q4.length];exact hlt,kk F2 σ _ (s2.trans (s2.gs.mut q h1 (q4.append (.cons rp .nil))))⟩
   .cases e
 .cases e
end
section
variable{K:PySem.W.Frag}
theorem iH:∀{xs ys:List D},xs.length≠ys.length->fK xs ys=false|[],[],h=>absurd rfl h|[],_::_,_=>by simp[fK]|_::_,[],_=>by simp[fK]|x::xs,y::ys,h=>by rw[fK,iH (xs:=xs) (ys:=ys) (by simpa using h),Bool.and_false]
theorem eN:∀{xs ys:List D},xs.length=ys.length->fK xs ys=(List.range xs.length).all fun j=>jf (xs.getD j .non) (ys.getD j .non)|[],[],_=>by rw[fK];rfl|[],_::_,h=>by simp at h|_::_,[],h=>by simp at h|x::xs,y::ys,h=>by rw[fK,eN (xs:=xs) (ys:=ys) (by simpa using h),length_cons,List.range_succ_eq_map,all_cons,List.all_map];rfl
mutual
theorem wR:∀d:D,jf d d=true|.non=>rfl|.bl _=>by exact beq_self_eq_true _|.int _=>by exact beq_self_eq_true _|.str _=>by exact beq_self_eq_true _|.tup ds=>by exact jk ds|.lst ds=>by exact jk ds|.cM _=>by exact decide_eq_true rfl|.dv ks ds=>by rw[jf,jk ds];simp
theorem jk:∀ds:List D,fK ds ds=true|[]=>by rw[fK]|d::ds=>by rw[fK,wR d,jk ds];rfl
end
theorem dj{F:Hp}{d e:D}{v:V}(hf:flat d=true)(h1:Rep K F v d)(h2:Rep K F v e):d=e:=by cases d with
 |tup _=>cases hf|lst _=>cases hf|cM _=>cases hf|dv _ _=>cases hf|non=>rw[Rep]at h1;subst h1;cases e with|non=>rfl|tup _=>rw[Rep]at h2;obtain⟨_,_,q,_⟩:=h2;cases q|lst _=>rw[Rep]at h2;obtain⟨_,_,q,_⟩:=h2;cases q|cM _=>rw[Rep]at h2;obtain⟨_,_,q,_⟩:=h2;cases q|dv _ _=>rw[Rep]at h2;obtain⟨_,_,_,q,_⟩:=h2;cases q|_=>rw[Rep]at h2;cases h2
 |bl k=>rw[Rep]at h1;subst h1;cases e with|bl _=>rw[Rep]at h2;cases h2;rfl|tup _=>rw[Rep]at h2;obtain⟨_,_,q,_⟩:=h2;cases q|lst _=>rw[Rep]at h2;obtain⟨_,_,q,_⟩:=h2;cases q|cM _=>rw[Rep]at h2;obtain⟨_,_,q,_⟩:=h2;cases q|dv _ _=>rw[Rep]at h2;obtain⟨_,_,_,q,_⟩:=h2;cases q|_=>rw[Rep]at h2;cases h2
 |int k=>rw[Rep]at h1;subst h1;cases e with|int _=>rw[Rep]at h2;cases h2;rfl|tup _=>rw[Rep]at h2;obtain⟨_,_,q,_⟩:=h2;cases q|lst _=>rw[Rep]at h2;obtain⟨_,_,q,_⟩:=h2;cases q|cM _=>rw[Rep]at h2;obtain⟨_,_,q,_⟩:=h2;cases q|dv _ _=>rw[Rep]at h2;obtain⟨_,_,_,q,_⟩:=h2;cases q|_=>rw[Rep]at h2;cases h2
 |str k=>rw[Rep]at h1;subst h1;cases e with|str _=>rw[Rep]at h2;cases h2;rfl|tup _=>rw[Rep]at h2;obtain⟨_,_,q,_⟩:=h2;cases q|lst _=>rw[Rep]at h2;obtain⟨_,_,q,_⟩:=h2;cases q|cM _=>rw[Rep]at h2;obtain⟨_,_,q,_⟩:=h2;cases q|dv _ _=>rw[Rep]at h2;obtain⟨_,_,_,q,_⟩:=h2;cases q|_=>rw[Rep]at h2;cases h2
theorem JS{X:Cx}{pins:List (Addr×Obj)}{σ:L2.St}{H F:Hp}{s:Shared}(I:L2.Inv X pins σ H s)(sm:aH F H):∀n:Nat,(∀d:D,cV n d=true->∀(v:V)(e:D),Rep X.K F v d->Rep X.K F v e->d=e):=by
 have tl:∀{a:Addr}{xs ys:List V},jy X.K F a xs->dG X.K F a ys->False:=fun{a xs ys}h1 h2=>by obtain⟨_,_,⟨o,q1,q2,_⟩,_⟩:=I.tuple (aH.gH sm h1);obtain⟨_,_,pl,_⟩:=I.list (sm.seq h2);obtain⟨o',q3,q4,_⟩:=pl.isList;rw[q1]at q3;cases q3;rw[q2]at q4;exact absurd q4 (by decide)
 have dd:∀{a:Addr}{kvs:Dc},Rep X.K F (.ref a) (.cM kvs)->∃o,s.heap.get? a=some o/\o.cls=.type "dict":=fun{a kvs}h=>by rw[Rep]at h;obtain⟨a',_,q,hq⟩:=h;cases q;exact G8 I (sm _ _ hq)
 have td:∀{a:Addr}{xs:List V}{kvs:Dc},jy X.K F a xs->Rep X.K F (.ref a) (.cM kvs)->False:=fun{a xs kvs}h1 h2=>by obtain⟨_,_,⟨o,q1,q2,_⟩,_⟩:=I.tuple (aH.gH sm h1);obtain⟨o',q3,q4⟩:=dd h2;rw[q1]at q3;cases q3;rw[q2]at q4;exact absurd q4 (by decide)
 have ld:∀{a:Addr}{xs:List V}{kvs:Dc},dG X.K F a xs->Rep X.K F (.ref a) (.cM kvs)->False:=fun{a xs kvs}h1 h2=>by obtain⟨_,_,pl,_⟩:=I.list (sm.seq h1);obtain⟨o,q1,q2,_⟩:=pl.isList;obtain⟨o',q3,q4⟩:=dd h2;rw[q1]at q3;cases q3;rw[q2]at q4;exact absurd q4 (by decide)
 have dd2:∀{a:Addr}{ks:List Int}{es:List D},Rep X.K F (.ref a) (.dv ks es)->∃o,s.heap.get? a=some o/\o.cls=.type "dict":=fun{a ks es}h=>by rw[Rep]at h;obtain⟨a',_,_,q,hq,_⟩:=h;cases q;exact Ec I (sm _ _ hq)
 have td2:∀{a:Addr}{xs:List V}{ks:List Int}{es:List D},jy X.K F a xs->Rep X.K F (.ref a) (.dv ks es)->False:=fun{a xs ks es}h1 h2=>by obtain⟨_,_,⟨o,q1,q2,_⟩,_⟩:=I.tuple (aH.gH sm h1);obtain⟨o',q3,q4⟩:=dd2 h2;rw[q1]at q3;cases q3;rw[q2]at q4;exact absurd q4 (by decide)
 have ld2:∀{a:Addr}{xs:List V}{ks:List Int}{es:List D},dG X.K F a xs->Rep X.K F (.ref a) (.dv ks es)->False:=fun{a xs ks es}h1 h2=>by obtain⟨_,_,pl,_⟩:=I.list (sm.seq h1);obtain⟨o,q1,q2,_⟩:=pl.isList;obtain⟨o',q3,q4⟩:=dd2 h2;rw[q1]at q3;cases q3;rw[q2]at q4;exact absurd q4 (by decide)
 intro n;induction n with
 |zero=>intro d hd v e h1 h2;cases d with|tup _=>simp[cV]at hd|lst _=>simp[cV]at hd|cM _=>simp[cV]at hd|dv _ _=>simp[cV]at hd|non=>exact dj rfl h1 h2|bl k=>exact dj rfl h1 h2|int k=>exact dj rfl h1 h2|str k=>exact dj rfl h1 h2
 |succ n ih=>
   have all:∀{xs:List V}{ds es:List D},ds.all (cV n)=true->aC X.K F xs ds->aC X.K F xs es->ds=es:=fun{xs ds}=>by induction ds generalizing xs with|nil=>intro es _ h1 h2;rw[h1.dF]at h2;have:=h2.length;exact(List.eq_nil_of_length_eq_zero this.symm).symm|cons d ds ih2=>intro es ha h1 h2;rw[all_cons,and_eq_true]at ha;obtain⟨v,r,rfl,q1,q2⟩:=h1.bV;cases es with|nil=>cases h2.dF|cons e es=>obtain⟨v',r',q0,q3,q4⟩:=h2.bV;cases q0;rw[ih d ha.1 v e q1 q3,ih2 ha.2 q2 q4]
   intro d hd v e h1 h2;cases d with
   |cM _=>simp[cV]at hd|dv _ _=>simp[cV]at hd|tup ds=>
     have ha:ds.all (cV n)=true:=by simpa[cV]using hd
     rw[Rep]at h1;obtain⟨a,xs,rfl,z1,z2⟩:=h1;cases e with|tup es=>rw[Rep]at h2;obtain⟨a',ys,q,w1,w2⟩:=h2;cases q;have:=I.rB (aH.gH sm z1) (aH.gH sm w1);subst this;rw[all ha z2 w2]|lst es=>rw[Rep]at h2;obtain⟨a',ys,q,w1,w2⟩:=h2;cases q;exact(tl z1 w1).elim|cM _=>exact(td z1 h2).elim|dv _ _=>exact(td2 z1 h2).elim|_=>rw[Rep]at h2;cases h2
   |lst ds=>
     have ha:ds.all (cV n)=true:=by simpa[cV]using hd
     rw[Rep]at h1;obtain⟨a,xs,rfl,z1,z2⟩:=h1;cases e with|lst es=>rw[Rep]at h2;obtain⟨a',ys,q,w1,w2⟩:=h2;cases q;have:=I.vm (sm.seq z1) (sm.seq w1);subst this;rw[all ha z2 w2]|tup es=>rw[Rep]at h2;obtain⟨a',ys,q,w1,w2⟩:=h2;cases q;exact(tl w1 z1).elim|cM _=>exact(ld z1 h2).elim|dv _ _=>exact(ld2 z1 h2).elim|_=>rw[Rep]at h2;cases h2
   |non=>exact dj rfl h1 h2|bl k=>exact dj rfl h1 h2|int k=>exact dj rfl h1 h2|str k=>exact dj rfl h1 h2
theorem Aa{A:Around}{s:Shared}{F:Hp}{d e:D}{v u:V}{v' u':Value}(hd:flat d=true)(he:flat e=true)(h1:Rep K F v d)(h2:Rep K F u e)(r1:RelV v v')(r2:RelV u u'):SeqAt.EqAt A s v' u' (jf d e):=by cases d with
 |tup _=>cases hd|lst _=>cases hd|cM _=>cases hd|dv _ _=>cases hd|non=>rw[Rep]at h1;subst h1;cases(show v'=.none from r1);cases e with|tup _=>cases he|lst _=>cases he|cM _=>cases he|dv _ _=>cases he|non=>rw[Rep]at h2;subst h2;cases(show u'=.none from r2);exact SeqAt.EqAt.same _|bl _=>rw[Rep]at h2;subst h2;cases(show u'=.bool _ from r2);exact none_bool _|int _=>rw[Rep]at h2;subst h2;obtain⟨t,rfl⟩:=r2;exact none_int _ _|str _=>rw[Rep]at h2;subst h2;obtain⟨t,rfl⟩:=r2;exact none_str _ _
 |bl _=>rw[Rep]at h1;subst h1;cases(show v'=.bool _ from r1);cases e with|tup _=>cases he|lst _=>cases he|cM _=>cases he|dv _ _=>cases he|non=>rw[Rep]at h2;subst h2;cases(show u'=.none from r2);exact bool_none _|bl _=>rw[Rep]at h2;subst h2;cases(show u'=.bool _ from r2);exact bool_bool _ _|int _=>rw[Rep]at h2;subst h2;obtain⟨t,rfl⟩:=r2;exact bool_int _ _ _|str _=>rw[Rep]at h2;subst h2;obtain⟨t,rfl⟩:=r2;exact bool_str _ _ _
 |int _=>rw[Rep]at h1;subst h1;obtain⟨t0,rfl⟩:=r1;cases e with|tup _=>cases he|lst _=>cases he|cM _=>cases he|dv _ _=>cases he|non=>rw[Rep]at h2;subst h2;cases(show u'=.none from r2);exact int_none _ _|bl _=>rw[Rep]at h2;subst h2;cases(show u'=.bool _ from r2);exact int_bool _ _ _|int _=>rw[Rep]at h2;subst h2;obtain⟨t,rfl⟩:=r2;exact int_int _ _ _ _|str _=>rw[Rep]at h2;subst h2;obtain⟨t,rfl⟩:=r2;exact int_str _ _ _ _
 |str _=>rw[Rep]at h1;subst h1;obtain⟨t0,rfl⟩:=r1;cases e with|tup _=>cases he|lst _=>cases he|cM _=>cases he|dv _ _=>cases he|non=>rw[Rep]at h2;subst h2;cases(show u'=.none from r2);exact str_none _ _|bl _=>rw[Rep]at h2;subst h2;cases(show u'=.bool _ from r2);exact str_bool _ _ _|int _=>rw[Rep]at h2;subst h2;obtain⟨t,rfl⟩:=r2;exact str_int _ _ _ _|str _=>rw[Rep]at h2;subst h2;obtain⟨t,rfl⟩:=r2;exact str_str _ _ _ _
theorem j7{A:Around}{s:Shared}{F:Hp}{ds:List D}{e:D}{u:V}{u':Value}{a:Addr}{its:Array Value}(ht:s.heap.IsTuple a its)(hu:A.units<cLine)(he:flat e=true)(h2:Rep K F u e)(r2:RelV u u'):SeqAt.EqAt A s (.ref a) u' (jf (.tup ds) e)/\SeqAt.EqAt A s u' (.ref a) (jf e (.tup ds)):=by cases e with|tup _=>cases he|lst _=>cases he|cM _=>cases he|dv _ _=>cases he|non=>rw[Rep]at h2;subst h2;cases(show u'=.none from r2);exact⟨SeqAt.EqAt.tuple_none ht hu,SeqAt.EqAt.none_tuple ht hu⟩|bl _=>rw[Rep]at h2;subst h2;cases(show u'=.bool _ from r2);exact⟨SeqAt.EqAt.tuple_bool _ ht hu,SeqAt.EqAt.bool_tuple _ ht hu⟩|int _=>rw[Rep]at h2;subst h2;obtain⟨t,rfl⟩:=r2;exact⟨SeqAt.EqAt.tuple_int _ _ ht hu,SeqAt.EqAt.int_tuple _ _ ht hu⟩|str _=>rw[Rep]at h2;subst h2;obtain⟨t,rfl⟩:=r2;exact⟨SeqAt.EqAt.tuple_str _ _ ht hu,SeqAt.EqAt.str_tuple _ _ ht hu⟩
theorem lq{A:Around}{s:Shared}{F:Hp}{ds:List D}{e:D}{u:V}{u':Value}{a:Addr}{its:Array Value}(ht:s.heap.IsList a its)(hu:A.units<cLine)(he:flat e=true)(h2:Rep K F u e)(r2:RelV u u'):SeqAt.EqAt A s (.ref a) u' (jf (.lst ds) e)/\SeqAt.EqAt A s u' (.ref a) (jf e (.lst ds)):=by cases e with|tup _=>cases he|lst _=>cases he|cM _=>cases he|dv _ _=>cases he|non=>rw[Rep]at h2;subst h2;cases(show u'=.none from r2);exact⟨SeqAt.EqAt.list_none ht hu,SeqAt.EqAt.none_list ht hu⟩|bl _=>rw[Rep]at h2;subst h2;cases(show u'=.bool _ from r2);exact⟨SeqAt.EqAt.list_bool _ ht hu,SeqAt.EqAt.bool_list _ ht hu⟩|int _=>rw[Rep]at h2;subst h2;obtain⟨t,rfl⟩:=r2;exact⟨SeqAt.EqAt.list_int _ _ ht hu,SeqAt.EqAt.int_list _ _ ht hu⟩|str _=>rw[Rep]at h2;subst h2;obtain⟨t,rfl⟩:=r2;exact⟨SeqAt.EqAt.list_str _ _ ht hu,SeqAt.EqAt.str_list _ _ ht hu⟩
theorem vy{n:Nat}{d:D}(h:cV n d=true)(h0:n=0):flat d=true:=by subst h0;cases d<;>first|rfl|simp[cV]at h
theorem abj{X:Cx}{pins:List (Addr×Obj)}{σ:L2.St}{H F:Hp}{s:Shared}(I:L2.Inv X pins σ H s)(sm:aH F H):∀(n:Nat)(A:Around),A.units+n<cLine->∀(d e:D),cV n d=true->cV n e=true->∀(v u:V)(v' u':Value),Rep X.K F v d->Rep X.K F u e->RelV v v'->RelV u u'->SeqAt.EqAt A s v' u' (jf d e):=by intro n;induction n with|zero=>intro A hu d e hd he v u v' u' h1 h2 r1 r2;exact Aa (vy hd rfl) (vy he rfl) h1 h2 r1 r2|succ n ih=>
   intro A hu d e hd he v u v' u' h1 h2 r1 r2;have hu0:A.units<cLine:=by omega
   have hu1:A.in1.units+n<cLine:=by show A.units+1+n<cLine;omega--items by place
   have at_:∀{xs ys:List V}{us ws:List Value}{ds es:List D}{j:Nat}(k1:j<us.toArray.size)(k2:j<ws.toArray.size),ds.all (cV n)=true->es.all (cV n)=true->Vals xs us->Vals ys ws->aC X.K F xs ds->aC X.K F ys es->SeqAt.EqAt A.in1 s us.toArray[j] ws.toArray[j] (jf (ds.getD j .non) (es.getD j .non)):=fun{xs ys us ws ds es j}k1 k2 a1 a2 v1 v2 p1 p2=>by
    have k1:j<us.length:=by simpa using k1
    have k2:j<ws.length:=by simpa using k2
    have l1:j<ds.length:=by rw[<-p1.length,v1.length];exact k1
    have l2:j<es.length:=by rw[<-p2.length,v2.length];exact k2
    obtain⟨x,g1,g2⟩:=p1.get (show ds[j]?=some ds[j]by simp[l1]);obtain⟨y,g3,g4⟩:=p2.get (show es[j]?=some es[j]by simp[l2]);obtain⟨x',g5,g6⟩:=v1.get g1;obtain⟨y',g7,g8⟩:=v2.get g3;have e1:us.toArray[j]=x':=by have:=(List.getElem?_eq_some_iff.mp g5).2;simpa using this
    have e2:ws.toArray[j]=y':=by have:=(List.getElem?_eq_some_iff.mp g7).2;simpa using this
    have e3:ds.getD j .non=ds[j]:=by simp[List.getD,l1]
    have e4:es.getD j .non=es[j]:=by simp[List.getD,l2]
    rw[e1,e2,e3,e4];exact ih A.in1 hu1 _ _ (all_eq_true.mp a1 _ (getElem_mem l1)) (all_eq_true.mp a2 _ (getElem_mem l2)) x y x' y' g2 g4 g6 g8--the same object
   have same:∀{a:Addr},v=.ref a->u=.ref a->SeqAt.EqAt A s v' u' (jf d e):=fun{a}q1 q2=>by subst q1;subst q2;have:=JS I sm (n+1) d hd _ e h1 h2;subst this;rw[wR];cases r1;cases r2;exact SeqAt.EqAt.same _
   cases d with
   |cM _=>simp[cV]at hd|dv _ _=>simp[cV]at hd|tup ds=>
     have ha:ds.all (cV n)=true:=by simpa[cV]using hd
     have h1':=h1;rw[Rep]at h1';obtain⟨a,xs,rfl,z1,z2⟩:=h1';cases r1;obtain⟨us,v1,p1,_⟩:=I.tuple (aH.gH sm z1)
     cases e with|cM _=>simp[cV]at he|dv _ _=>simp[cV]at he|tup es=>
       have hb:es.all (cV n)=true:=by simpa[cV]using he
       have h2':=h2;rw[Rep]at h2';obtain⟨b,ys,rfl,w1,w2⟩:=h2';by_cases hab:a=b;.subst hab;exact same rfl rfl
       . cases r2;obtain⟨ws,v2,p2,_⟩:=I.tuple (aH.gH sm w1);refine .of_refs hab ?_;have z:=SeqAt.RcAt.tuples (A:=A) (e:=fun j=>jf (ds.getD j .non) (es.getD j .non)) p1 p2 hu0 fun j k1 k2=>at_ k1 k2 ha hb v1 v2 z2 w2;have l1:us.toArray.size=ds.length:=by rw[size_toArray,<-v1.length,z2.length]
         have l2:ws.toArray.size=es.length:=by rw[size_toArray,<-v2.length,w2.length]
         rw[l1,l2]at z;have e0:jf (.tup ds) (.tup es)=((List.range (min ds.length es.length)).all (fun j=>jf (ds.getD j .non) (es.getD j .non))&&ds.length==es.length):=by
          rw[pqt];by_cases hl:ds.length=es.length;.rw[eN hl,hl];simp
          . rw[iH hl];have:(ds.length==es.length)=false:=by simpa using hl
            rw[this,Bool.and_false]
         rw[e0];exact z|lst es=>rw[Rep]at h2;obtain⟨b,ys,rfl,w1,w2⟩:=h2;cases r2;obtain⟨ws,v2,p2,_⟩:=I.list (sm.seq w1);exact SeqAt.EqAt.tuple_list p1 p2.isList hu0|non=>exact(j7 p1 hu0 rfl h2 r2).1|bl _=>exact(j7 p1 hu0 rfl h2 r2).1|int _=>exact(j7 p1 hu0 rfl h2 r2).1|str _=>exact(j7 p1 hu0 rfl h2 r2).1
   |lst ds=>
     have ha:ds.all (cV n)=true:=by simpa[cV]using hd
     have h1':=h1;rw[Rep]at h1'
     obtain⟨a,xs,rfl,z1,z2⟩:=h1';cases r1;obtain⟨us,v1,p1,_⟩:=I.list (sm.seq z1);cases e with|cM _=>simp[cV]at he|dv _ _=>simp[cV]at he|lst es=>
       have hb:es.all (cV n)=true:=by simpa[cV]using he
       have h2':=h2;rw[Rep]at h2';obtain⟨b,ys,rfl,w1,w2⟩:=h2';by_cases hab:a=b;.subst hab;exact same rfl rfl
       . cases r2;obtain⟨ws,v2,p2,_⟩:=I.list (sm.seq w1);refine .of_refs hab ?_;have l1:us.toArray.size=ds.length:=by rw[size_toArray,<-v1.length,z2.length]
         have l2:ws.toArray.size=es.length:=by rw[size_toArray,<-v2.length,w2.length]
         rw[Z1];by_cases hl:ds.length=es.length;.have z:=SeqAt.RcAt.lists (A:=A) (e:=fun j=>jf (ds.getD j .non) (es.getD j .non)) p1.isList p2.isList (by rw[l1,l2,hl]) hu0 fun j k1 k2=>at_ k1 k2 ha hb v1 v2 z2 w2;rw[l1]at z;rw[eN hl];exact z
         .rw[iH hl];exact lists_lengths p1.isList p2.isList (by rw[l1,l2];simpa using hl) hu0|tup es=>rw[Rep]at h2;obtain⟨b,ys,rfl,w1,w2⟩:=h2;cases r2;obtain⟨ws,v2,p2,_⟩:=I.tuple (aH.gH sm w1);exact SeqAt.EqAt.list_tuple p1.isList p2 hu0|non=>exact(lq p1.isList hu0 rfl h2 r2).1|bl _=>exact(lq p1.isList hu0 rfl h2 r2).1|int _=>exact(lq p1.isList hu0 rfl h2 r2).1|str _=>exact(lq p1.isList hu0 rfl h2 r2).1
   |non|bl _|int _|str _=>cases e with|cM _=>simp[cV]at he|dv _ _=>simp[cV]at he|tup es=>rw[Rep]at h2;obtain⟨b,ys,rfl,w1,w2⟩:=h2;cases r2;obtain⟨ws,v2,p2,_⟩:=I.tuple (aH.gH sm w1);exact(j7 p2 hu0 rfl h1 r1).2|lst es=>rw[Rep]at h2;obtain⟨b,ys,rfl,w1,w2⟩:=h2;cases r2;obtain⟨ws,v2,p2,_⟩:=I.list (sm.seq w1);exact(lq p2.isList hu0 rfl h1 r1).2|_=>exact Aa rfl rfl h1 h2 r1 r2
end
section
variable{X:Cx}{pins:List (Addr×Obj)}{σ:L2.St}{H F:Hp}{s:Shared}{A:Around}
abbrev RC(A:Around)(s:Shared)(v u:Value)(k:Bool):Prop:=SeqAt.RcAt A s v u k/\SeqAt.RcNeAt A s v u (!k)
inductive Top(X:Cx)(F H:Hp)(s:Shared):Value->D->Prop where|non:Top X F H s .none .non|bl(b:Bool):Top X F H s (.bool b) (.bl b)|int(i:Int)(t:Tok):Top X F H s (.int i t) (.int i)|str(x:Str)(t:Tok):Top X F H s (.str x t) (.str x)|tup{a:Addr}{us:List Value}{xs:List V}{ds:List D}(ht:s.heap.IsTuple a us.toArray)(hv:Vals xs us)(hr:aC X.K F xs ds):Top X F H s (.ref a) (.tup ds)|lst{a:Addr}{us:List Value}{xs:List V}{ds:List D}(ht:s.heap.IsList a us.toArray)(hv:Vals xs us)(hr:aC X.K F xs ds):Top X F H s (.ref a) (.lst ds)
theorem rZ(I:L2.Inv X pins σ H s)(sm:aH F H){v:V}{v':Value}{d:D}(hd:cV 8 d=true)(h:cC X.K F H v d)(r:RelV v v'):Top X F H s v' d:=by cases d with|cM _=>simp[cV]at hd|dv _ _=>simp[cV]at hd|non=>rw[h.non]at r;cases r;exact .non|bl b=>rw[h.bl]at r;cases r;exact .bl b|int i=>rw[h.int]at r;obtain⟨t,rfl⟩:=r;exact .int i t|str x=>rw[h.str]at r;obtain⟨t,rfl⟩:=r;exact .str x t|tup ds=>obtain⟨a,xs,rfl,h1,h2,_⟩:=h.tup sm;cases r;obtain⟨us,v1,p1,_⟩:=I.tuple h1;exact .tup p1 v1 h2|lst ds=>obtain⟨a,xs,rfl,h1,h2⟩:=h.lst sm;cases r;obtain⟨us,v1,p1,_⟩:=I.list h1;exact .lst p1.isList v1 h2
theorem W7(I:L2.Inv X pins σ H s)(sm:aH F H){n:Nat}(hu:A.units+(n+1)<cLine){d e:D}(hd:cV (n+1) d=true)(he:cV (n+1) e=true){v' u':Value}(h1:Top X F H s v' d)(h2:Top X F H s u' e):RC A s v' u' (jf d e):=by
 have hu0:A.units<cLine:=by omega
 have hu1:A.in1.units+n<cLine:=by show A.units+1+n<cLine;omega
 have at_:∀{xs ys:List V}{us ws:List Value}{ds es:List D}{j:Nat}(k1:j<us.toArray.size)(k2:j<ws.toArray.size),ds.all (cV n)=true->es.all (cV n)=true->Vals xs us->Vals ys ws->aC X.K F xs ds->aC X.K F ys es->SeqAt.EqAt A.in1 s us.toArray[j] ws.toArray[j] (jf (ds.getD j .non) (es.getD j .non)):=fun{xs ys us ws ds es j}k1 k2 a1 a2 v1 v2 p1 p2=>by
  have k1:j<us.length:=by simpa using k1
  have k2:j<ws.length:=by simpa using k2
  have l1:j<ds.length:=by rw[<-p1.length,v1.length];exact k1
  have l2:j<es.length:=by rw[<-p2.length,v2.length];exact k2
  obtain⟨x,g1,g2⟩:=p1.get (show ds[j]?=some ds[j]by simp[l1]);obtain⟨y,g3,g4⟩:=p2.get (show es[j]?=some es[j]by simp[l2]);obtain⟨x',g5,g6⟩:=v1.get g1;obtain⟨y',g7,g8⟩:=v2.get g3;have e1:us.toArray[j]=x':=by have:=(List.getElem?_eq_some_iff.mp g5).2;simpa using this
  have e2:ws.toArray[j]=y':=by have:=(List.getElem?_eq_some_iff.mp g7).2;simpa using this
  have e3:ds.getD j .non=ds[j]:=by simp[List.getD,l1]
  have e4:es.getD j .non=es[j]:=by simp[List.getD,l2]
  rw[e1,e2,e3,e4];exact abj I sm n A.in1 hu1 _ _ (all_eq_true.mp a1 _ (getElem_mem l1)) (all_eq_true.mp a2 _ (getElem_mem l2)) x y x' y' g2 g4 g6 g8
 cases h1 with
 |non=>cases h2 with|non=>exact⟨SeqAt.RcAt.none_none,SeqAt.RcNeAt.none_none⟩|bl b=>exact⟨SeqAt.RcAt.none_bool _,SeqAt.RcNeAt.none_bool _⟩|int i t=>exact⟨SeqAt.RcAt.none_int _ _,SeqAt.RcNeAt.none_int _ _⟩|str i t=>exact⟨SeqAt.RcAt.none_str _ _,SeqAt.RcNeAt.none_str _ _⟩|tup ht _ _=>exact⟨SeqAt.RcAt.none_tuple ht hu0,SeqAt.RcNeAt.none_tuple ht hu0⟩|lst ht _ _=>exact⟨SeqAt.RcAt.none_list ht hu0,SeqAt.RcNeAt.none_list ht hu0⟩
 |bl b0=>cases h2 with|non=>exact⟨SeqAt.RcAt.bool_none _,SeqAt.RcNeAt.bool_none _⟩|bl b=>exact⟨SeqAt.RcAt.bool_bool _ _,SeqAt.RcNeAt.bool_bool _ _⟩|int i t=>exact⟨SeqAt.RcAt.bool_int _ _ _,SeqAt.RcNeAt.bool_int _ _ _⟩|str i t=>exact⟨SeqAt.RcAt.bool_str _ _ _,SeqAt.RcNeAt.bool_str _ _ _⟩|tup ht _ _=>exact⟨SeqAt.RcAt.bool_tuple _ ht hu0,SeqAt.RcNeAt.bool_tuple _ ht hu0⟩|lst ht _ _=>exact⟨SeqAt.RcAt.bool_list _ ht hu0,SeqAt.RcNeAt.bool_list _ ht hu0⟩
 |int i0 t0=>cases h2 with|non=>exact⟨SeqAt.RcAt.int_none _ _,SeqAt.RcNeAt.int_none _ _⟩|bl b=>exact⟨SeqAt.RcAt.int_bool _ _ _,SeqAt.RcNeAt.int_bool _ _ _⟩|int i t=>exact⟨SeqAt.RcAt.int_int _ _ _ _,SeqAt.RcNeAt.int_int _ _ _ _⟩|str i t=>exact⟨SeqAt.RcAt.int_str _ _ _ _,SeqAt.RcNeAt.int_str _ _ _ _⟩|tup ht _ _=>exact⟨SeqAt.RcAt.int_tuple _ _ ht hu0,SeqAt.RcNeAt.int_tuple _ _ ht hu0⟩|lst ht _ _=>exact⟨SeqAt.RcAt.int_list _ _ ht hu0,int_list _ _ ht hu0⟩
 |str i0 t0=>cases h2 with|non=>exact⟨SeqAt.RcAt.str_none _ _,SeqAt.RcNeAt.str_none _ _⟩|bl b=>exact⟨SeqAt.RcAt.str_bool _ _ _,SeqAt.RcNeAt.str_bool _ _ _⟩|int i t=>exact⟨SeqAt.RcAt.str_int _ _ _ _,SeqAt.RcNeAt.str_int _ _ _ _⟩|str i t=>exact⟨SeqAt.RcAt.str_str _ _ _ _,SeqAt.RcNeAt.str_str _ _ _ _⟩|tup ht _ _=>exact⟨SeqAt.RcAt.str_tuple _ _ ht hu0,SeqAt.RcNeAt.str_tuple _ _ ht hu0⟩|lst ht _ _=>exact⟨SeqAt.RcAt.str_list _ _ ht hu0,str_list _ _ ht hu0⟩
 |@tup a us xs ds ht hv hr=>
   have ha:ds.all (cV n)=true:=by simpa[cV]using hd
   cases h2 with|non=>exact⟨SeqAt.RcAt.tuple_none ht hu0,SeqAt.RcNeAt.tuple_none ht hu0⟩|bl b=>exact⟨SeqAt.RcAt.tuple_bool _ ht hu0,SeqAt.RcNeAt.tuple_bool _ ht hu0⟩|int i t=>exact⟨SeqAt.RcAt.tuple_int _ _ ht hu0,SeqAt.RcNeAt.tuple_int _ _ ht hu0⟩|str i t=>exact⟨SeqAt.RcAt.tuple_str _ _ ht hu0,SeqAt.RcNeAt.tuple_str _ _ ht hu0⟩|lst Ds _ _=>exact⟨SeqAt.RcAt.tuple_list ht Ds hu0,SeqAt.RcNeAt.tuple_list ht Ds hu0⟩|@tup b ws ys es Ds hv2 hr2=>
     have hb:es.all (cV n)=true:=by simpa[cV]using he
     have l1:us.toArray.size=ds.length:=by rw[size_toArray,<-hv.length,hr.length]
     have l2:ws.toArray.size=es.length:=by rw[size_toArray,<-hv2.length,hr2.length]
     have z1:=SeqAt.RcAt.tuples (A:=A) (e:=fun j=>jf (ds.getD j .non) (es.getD j .non)) ht Ds hu0 fun j k1 k2=>at_ k1 k2 ha hb hv hv2 hr hr2;have z2:=SeqAt.RcNeAt.tuples (A:=A) (e:=fun j=>jf (ds.getD j .non) (es.getD j .non)) ht Ds hu0 fun j k1 k2=>at_ k1 k2 ha hb hv hv2 hr hr2;rw[l1,l2]at z1 z2;have e0:jf (.tup ds) (.tup es)=((List.range (min ds.length es.length)).all (fun j=>jf (ds.getD j .non) (es.getD j .non))&&ds.length==es.length):=by
      rw[pqt];by_cases hl:ds.length=es.length;.rw[eN hl,hl];simp
      . rw[iH hl];have:(ds.length==es.length)=false:=by simpa using hl
        rw[this,Bool.and_false]
     rw[e0];exact⟨z1,z2⟩
 |@lst a us xs ds ht hv hr=>
   have ha:ds.all (cV n)=true:=by simpa[cV]using hd
   cases h2 with|non=>exact⟨SeqAt.RcAt.list_none ht hu0,SeqAt.RcNeAt.list_none ht hu0⟩|bl b=>exact⟨SeqAt.RcAt.list_bool _ ht hu0,SeqAt.RcNeAt.list_bool _ ht hu0⟩|int i t=>exact⟨SeqAt.RcAt.list_int _ _ ht hu0,list_int _ _ ht hu0⟩|str i t=>exact⟨SeqAt.RcAt.list_str _ _ ht hu0,list_str _ _ ht hu0⟩|tup Ds _ _=>exact⟨SeqAt.RcAt.list_tuple ht Ds hu0,SeqAt.RcNeAt.list_tuple ht Ds hu0⟩|@lst b ws ys es Ds hv2 hr2=>
     have hb:es.all (cV n)=true:=by simpa[cV]using he
     have l1:us.toArray.size=ds.length:=by rw[size_toArray,<-hv.length,hr.length]
     have l2:ws.toArray.size=es.length:=by rw[size_toArray,<-hv2.length,hr2.length]
     rw[Z1];by_cases hl:ds.length=es.length;.have z1:=SeqAt.RcAt.lists (A:=A) (e:=fun j=>jf (ds.getD j .non) (es.getD j .non)) ht Ds (by rw[l1,l2,hl]) hu0 fun j k1 k2=>at_ k1 k2 ha hb hv hv2 hr hr2;have z2:=SeqAt.RcNeAt.lists (A:=A) (e:=fun j=>jf (ds.getD j .non) (es.getD j .non)) ht Ds (by rw[l1,l2,hl]) hu0 fun j k1 k2=>at_ k1 k2 ha hb hv hv2 hr hr2;rw[l1]at z1 z2;rw[eN hl];exact⟨z1,z2⟩
     .rw[iH hl];exact⟨lists_lengths ht Ds (by rw[l1,l2];simpa using hl) hu0,SeqAt.RcNeAt.lists_lengths ht Ds (by rw[l1,l2];simpa using hl) hu0⟩
theorem pI(hu:X.A.units+8<cLine):cR X (compareOp .Eq) (rD X.K (lY .eq)):=by rintro pins s σ H x y v u Q I rx ry⟨F,d,e,r,sm,px,py,he,k⟩;obtain⟨t,e1,e2⟩:=map_some (show(GF d e).map _=some r from he);subst e2;unfold GF at e1;obtain⟨hd,e1⟩:=aP e1;rw[and_eq_true]at hd;subst e1;exact(W7 I sm (n:=7) hu hd.1 hd.2 (rZ I sm hd.1 px rx) (rZ I sm hd.2 py ry)).1 _ _ _ _ ⟨.bl _,H,I,rfl,bB.bQ sm (dC _) k⟩
theorem ue(hu:X.A.units+8<cLine):cR X (compareOp .NotEq) (rD X.K (lY .ne)):=by rintro pins s σ H x y v u Q I rx ry⟨F,d,e,r,sm,px,py,he,k⟩;obtain⟨t,e1,e2⟩:=map_some (show(Ej d e).map _=some r from he);subst e2;unfold Ej at e1;obtain⟨hd,e1⟩:=aP e1;rw[and_eq_true]at hd;subst e1;exact(W7 I sm (n:=7) hu hd.1 hd.2 (rZ I sm hd.1 px rx) (rZ I sm hd.2 py ry)).2 _ _ _ _ ⟨.bl _,H,I,rfl,bB.bQ sm (dC _) k⟩
end
section
variable{Pg:Program}{w:World}{K:PySem.W.Frag}{mg:Str->Option Value}{base:Heap}
theorem WW{x qual:Str}{st:Stmt}{f:Addr}{fd:FuncData}{N ps:List Str}{k n:Nat}{c:Call}{d:Fd}(Fu:il K x qual st f fd)(S:aL N ps (aB st))(h1:d.np=ps.length)(h2:d.nn=N.length)(hb:∀(cdv:Value)(A:Around)(outer:List Env)(s:Shared)(H:Hp)(E:XK),iB k (A.deeper (envOfC qual (aB st) s.heap.objs.size f cdv))->SB (yc gW Pg w K mg base N qual (aB st) f cdv A outer s H E).XX c n (dJ st) d.body):bW Pg w K mg base gW (k+1) f fd ps (ik K ps.length (fun args=>enter c n d args)):=by
 refine Fu.ok S (fun vs H Q E h=>h.1) fun cdv A outer s H vs Q E hr h=>?_;obtain⟨hl,F,args,r,args',g,e,q⟩:=h;refine⟨_,hb cdv A outer s H E hr,?_⟩;replace e:enter c n d args=.ok r args':=e;unfold enter at e;split at e
 . rename_i hc;obtain⟨c1,c2⟩:=hc;have hg:=g.more (n:=d.nn-d.np) (τ:=replicate (N.length-vs.length) none) (by simp[h1,h2,hl]);have hla:args.length=d.np:=c1;have go:∀{fl:Fl}{ρ':List Sl},eX c n d.body (args++replicate (d.nn-d.np) .aV)=.ok fl ρ'->(∀F' σ' H',aq K F (args++replicate (d.nn-d.np) .aV) (start N vs) H F' ρ' σ' H'->(match fl with|.next=>Q .non H'|.brk=>False|.cont=>False|.ret r=>∀v,cj K F' ρ' σ' H' (args++replicate (d.nn-d.np) .aV) (start N vs) H v r->Q v H'))->Zc K (eX c n d.body) {nx:=fun _ H'=>Q .non H',rt:=Q} (start N vs) H:=fun{fl ρ'}z k=>⟨F,_,fl,ρ',hg,z,fun F' σ' H' s=>by have:=k F' σ' H' s;cases fl<;>exact this⟩;split at e;.rename_i ρ' z;cases e;refine go z fun F' σ' H' s=>?_;obtain⟨z1,z2⟩:=aq.less (m:=d.np) hla.symm g (by simp[h1,h2,hl]) s;exact q .non F' _ H' z1 (show Rep K F' _ _ from DY)
   .rename_i r' ρ' z;cases e;refine go z fun F' σ' H' s v rr=>?_;obtain⟨z1,z2⟩:=aq.less (m:=d.np) hla.symm g (by simp[h1,h2,hl]) s;exact q v F' _ H' z1 (z2 v r rr)
   .split at e<;>cases e
 .cases e
structure au(Pg:Program)(w:World)(K:PySem.W.Frag)(mg:Str->Option Value)(base:Heap)(k:Nat)(c:Call)(i:Nat)(x:Str)(np:Nat):Prop where ex:∃fa fd qs,bW Pg w K mg base gW k fa fd qs (ik K qs.length (c i))/\mg x=some (.ref fa)/\keepIn K (.ref fa)=true/\Binds K fd qs []/\qs.length=np
end
section
variable{X:Cx}{c:Call}{n k:Nat}{e a b:Expr}{es:List Expr}{p pa pb:P}{ps:List P}{pos:Pos}
theorem sv(i:Nat){x:Str}(hN:X.N[i]?=some x:=by rfl)(hv:xm X.env.scope x:=by first|exact Or.inl rfl|exact Or.inr (Or.inl rfl)|exact Or.inr (Or.inr rfl))(hd:(x==("__debug__":Str))=false:=by rfl)(hcd:(x==("__classdict__":Str))=false:=by rfl):SX X c (.Name x pos) (.var i):=QL hN hv hd hcd
theorem cZ{i np:Nat}{x:Str}{p':Pos}(C:au X.prog X.w X.K X.mg X.base k c i x np)(hr:iB k X.A)(ha:SG X c (e::es) ps)(hg:Gl X x:=by rfl)(hl:(e::es).length=np:=by rfl)(hdb:(x==("__debug__":Str))=false:=by rfl)(he:starEach (e::es) X.env=(false,eval e X.env)::starEach es X.env:=by rfl)(hpl:(backTo pos (starEach es X.env)).any (·.1)=false:=by rfl)(hl2:ps.length=(e::es).length:=by rfl):SX X c (.Call (.Name x p') (e::es) [] pos) (.call i ps):=by obtain⟨fa,fd,qs,h1,h2,h3,h4,h5⟩:=C.ex;exact KQ h1 hr hg h2 h3 h4 ha (hl.trans h5.symm) hdb he hpl hl2
noncomputable def MT(names outer:List (Str×NameKind))(N N':List Str)(n:Nat):Bool:=(names.all fun y=>names.lookup y.1==some y.2)&&(names.all fun y=>y.2!=.local||names.lookup y.1==some .local)&&(names.all fun y=>y.2!=.free||outer.lookup y.1==some .cell||outer.lookup y.1==some .free)&&N'.length==N.length+n&&((N.zip N').all fun p=>(p.1==p.2&&names.lookup p.2==some .free)||(names.lookup p.2!=some .local&&names.lookup p.2!=some .cell&&names.lookup p.2!=some .free))
theorem JF{scope:Scope}{N':List Str}(hk:scope.kind=.function)(h:MT scope.names X.env.scope.names X.N N' n=true):dW X scope N' n:=by
 unfold MT at h;simp only[and_eq_true]at h;obtain⟨⟨⟨⟨h1,h2⟩,h3⟩,h4⟩,h5⟩:=h;refine⟨hk,fun y hy=>eq_of_beq (all_eq_true.mp h1 y hy),fun y hy e=>?_,fun y hy e=>?_,by simpa using h4,h5⟩;.have:=all_eq_true.mp h2 y hy;rw[e]at this;simpa using this
 . have:=all_eq_true.mp h3 y hy;rw[e]at this;simp only[or_eq_true]at this;rcases this with(z|z)|z;.cases z
   .exact .inl (eq_of_beq z)
   .exact .inr (eq_of_beq z)
theorem bA{A:Around}(h:iB k A):A.units+8<cLine:=by have:=h.un;omega
end
end HH
end
section
namespace L2
open PySem PySem.Spec PyProof.Rows
end L2
namespace HH
open PySem L2 PySem.Spec PyProof.Rows
structure bF(K:PySem.W.Frag)(x:Str)(st:Stmt):Prop where ex:∃f fd,PySem.W.nsIn K mainGlobals x=some (some (.ref f))/\il K x x st f fd
section
variable{Pg:Program}{w:World}{K:PySem.W.Frag}{mg:Str->Option Value}{base h:Heap}
theorem RV{x:Str}{st:Stmt}{f:Addr}{oc:Value}{od an:Option Addr}{osl:Array (Option Value)}{kV doc pm cdv ct:Value}(a:PySem.W.nsIn K mainGlobals x=some (some (.ref f)))(l:K.lookup f=some ⟨oc,od,.func (PySem.W.fnOf x x (gQ st) (dJ st) (aB st) .none kV doc pm an cdv ct),osl⟩)(c:PySem.W.codeIn K cdv x=true)(k:keepIn K (.ref f)=true):bF K x st:=⟨_,_,a,QH l c k⟩
theorem bR{Γ:Tab}{wl i np:Nat}{x:Str}{st:Stmt}{ps:List Str}(X:K.In h)(G:h.Ns mainGlobals mg)(D:bF K x st)(hp:ps.length=np)(hb:∀(kV doc pm:Value)(an:Option Addr)(cdv ct:Value)(us:List Value),us.length=ps.length->bindArgs (PySem.W.fnOf x x (gQ st) (dJ st) (aB st) .none kV doc pm an cdv ct) ⟨us,[]⟩=pure (ps.zip us)):au Pg w K mg base 0 (run Γ wl 0) i x np:=by obtain⟨f,fd,a,F⟩:=D.ex;exact⟨f,fd,ps,⟨fun vs H Q E s=>s.1,fun A outer s H args us vs Q E hr e b v sp=>by obtain⟨_,F,as,r,as',_,z,_⟩:=sp;cases z⟩,mg_of X G a,F.kp,F.binds hb,hp⟩
theorem bT{Γ:Tab}{wl n i np:Nat}{x:Str}{st:Stmt}{ps:List Str}{d:Fd}(X:K.In h)(G:h.Ns mainGlobals mg)(D:bF K x st)(hp:ps.length=np)(hΓ:Γ i=some d)(hb:∀(kV doc pm:Value)(an:Option Addr)(cdv ct:Value)(us:List Value),us.length=ps.length->bindArgs (PySem.W.fnOf x x (gQ st) (dJ st) (aB st) .none kV doc pm an cdv ct) ⟨us,[]⟩=pure (ps.zip us))(ok:∀f fd,il K x x st f fd->bW Pg w K mg base gW (n+1) f fd ps (ik K np (fun args=>enter (run Γ wl n) wl d args))):au Pg w K mg base (n+1) (run Γ wl (n+1)) i x np:=by
 obtain⟨f,fd,a,F⟩:=D.ex;refine⟨f,fd,ps,?_,mg_of X G a,F.kp,F.binds hb,hp⟩;have e:run Γ wl (n+1) i=fun args=>enter (run Γ wl n) wl d args:=by funext args;show(match Γ i with|some d=>enter (run Γ wl n) wl d args|none=>.stuck)=_;rw[hΓ]
 rw[e,hp];exact ok f fd F
theorem qZ{F:Hp}:∀ns:List Int,aC K F (ns.map V.int) (ns.map D.int)|[]=>.nil|n::ns=>.cons (bz n) (qZ ns)
theorem Dd{H:Hp}{a:Addr}{ns:List Int}{g:List Sl->Res R}{as:List Sl}(hS:dG K H a (ns.map V.int))(hr:g [.val false (.lst (ns.map D.int))]=.ok (.val (.bl true)) as):ik K 1 g [.ref a] H (fun v _=>v=.bl true) fun _ _ _=>False:=by
 refine⟨rfl,H,_,_,as,⟨.refl _,rfl,fun i b d e=>?_,fun i s ds e e'=>?_,fun i j c h=>?_⟩,hr,fun v F' σ' H' s rr=>?_⟩;.match i,e with|0,e=>cases e;refine⟨.ref a,rfl,?_⟩;rw[Rep];exact⟨a,_,rfl,hS,qZ ns⟩|i+1,e=>simp at e
 .match i,e with|0,e=>cases e;cases e'|i+1,e=>simp at e
 .obtain⟨⟨s,ds,e,e'⟩,_⟩:=h;match i,e with|0,e=>cases e;cases e'|i+1,e=>simp at e
 .have rr:Rep K F' v (.bl true):=rr;rw[Rep]at rr;exact rr
end
end HH
end
section
namespace HH
open PySem
def Res.sat{α:Type}(Q:α->List Sl->Prop)(x:Res α):Prop:=match x with|.ok a ρ=>Q a ρ|.exc _ _=>False|.stuck=>False
section
variable{α β:Type}{Q Q':α->List Sl->Prop}
@[simp]theorem Rm{a:α}{ρ:List Sl}:(Res.ok a ρ).sat Q=Q a ρ:=rfl
@[simp]theorem YM{k:Nat}{ρ:List Sl}:(Res.exc k ρ:Res α).sat Q=False:=rfl
@[simp]theorem Uw:(Res.stuck:Res α).sat Q=False:=rfl
theorem bN{x:Res β}{f:β->List Sl->Res α}:(x.bind f).sat Q=x.sat fun a ρ=>(f a ρ).sat Q:=by cases x<;>rfl
@[simp]theorem Za{p:Prop}[Decidable p]{x y:Res α}:(if p then x else y).sat Q=((p->x.sat Q)/\(¬ p->y.sat Q)):=by by_cases h:p<;>simp[h]
@[simp]theorem Ir{a:α}{ρ:List Sl}:(lift (some a) ρ).sat Q=Q a ρ:=rfl
@[simp]theorem Iw{ρ:List Sl}:(lift (none:Option α) ρ).sat Q=False:=rfl
@[simp]theorem Jd{p:Prop}[Decidable p]{a:α}{ρ:List Sl}:(lift (if p then some a else none) ρ).sat Q=(p/\Q a ρ):=by by_cases h:p<;>simp[h]
theorem Res.sat.imp{x:Res α}(h:x.sat Q)(k:∀a ρ,Q a ρ->Q' a ρ):x.sat Q':=by cases x with|ok a ρ=>exact k a ρ h|exc _ _=>exact h|stuck=>exact h
theorem sat_iff{x:Res α}:x.sat Q↔∃a ρ,x=.ok a ρ/\Q a ρ:=by cases x with|ok a ρ=>exact⟨fun h=>⟨a,ρ,rfl,h⟩,fun⟨_,_,e,h⟩=>by cases e;exact h⟩|exc _ _=>exact⟨fun h=>h.elim,fun⟨_,_,e,_⟩=>by cases e⟩|stuck=>exact⟨fun h=>h.elim,fun⟨_,_,e,_⟩=>by cases e⟩
end
noncomputable def fr:Sl->Bool|.aV=>true|.val b _=>!b|.own b _=>!b|.lent _=>false|.eY _=>false|.cF _=>false|.hold _=>false
@[simp]theorem acQ:fr .aV=true:=rfl
@[simp]theorem acy{b:Bool}{d:D}:fr (.val b d)=!b:=rfl
@[simp]theorem abi{b:Bool}{d:List D}:fr (.own b d)=!b:=rfl
@[simp]theorem Z2{d:List D}:fr (.lent d)=false:=rfl
theorem R1(ρ:List Sl)(i:Nat)(s:Sl):put ρ i s=match ρ[i]?with|some t=>if fr t=true then some (ρ.set i s)else none|none=>none:=by unfold put;cases h:ρ[i]?with|none=>rfl|some t=>cases t with|aV=>rfl|val b d=>cases b<;>rfl|own b d=>cases b<;>rfl|lent d=>rfl|eY m=>rfl|cF m=>rfl|hold m=>rfl
theorem Hy{Γ:Tab}{w n i:Nat}{d:Fd}{args:List Sl}(h:Γ i=some d):run Γ w (n+1) i args=enter (run Γ w n) w d args:=by rw[run,h]
noncomputable def fin(np:Nat):Fl->List Sl->Option (R×List Sl)|.next,ρ=>some (.val .non,ρ.take np)|.ret r,ρ=>some (r,ρ.take np)|_,_=>none
def eQ(np:Nat)(Q:R->List Sl->Prop)(fl:Fl)(ρ:List Sl):Prop:=match fl with|.next=>Q (.val .non) (ρ.take np)|.ret r=>Q r (ρ.take np)|_=>False
def sQ(c:Call)(n:Nat)(r:List S)(Q:Fl->List Sl->Prop)(fl:Fl)(ρ:List Sl):Prop:=match fl with|.next=>(eX c n r ρ).sat Q|fl=>Q fl ρ
def fQ(J:List Sl->Prop)(Q:Fl->List Sl->Prop)(fl:Fl)(ρ:List Sl):Prop:=match fl with|.next=>J ρ|.cont=>J ρ|.brk=>Q .next ρ|.ret v=>Q (.ret v) ρ
section
variable{np:Nat}{Q:R->List Sl->Prop}{ρ:List Sl}{v:R}{c:Call}{n:Nat}{r:List S}{Q':Fl->List Sl->Prop}{J:List Sl->Prop}
@[simp]theorem YG:eQ np Q .next ρ=Q (.val .non) (ρ.take np):=rfl
@[simp]theorem acp:eQ np Q (.ret v) ρ=Q v (ρ.take np):=rfl
@[simp]theorem acV:eQ np Q .brk ρ=False:=rfl
@[simp]theorem Zw:eQ np Q .cont ρ=False:=rfl
@[simp]theorem Z8:sQ c n r Q' .next ρ=(eX c n r ρ).sat Q':=rfl
@[simp]theorem abz:sQ c n r Q' (.ret v) ρ=Q' (.ret v) ρ:=rfl
@[simp]theorem aaT:sQ c n r Q' .brk ρ=Q' .brk ρ:=rfl
@[simp]theorem Zv:sQ c n r Q' .cont ρ=Q' .cont ρ:=rfl
@[simp]theorem aag:fQ J Q' .next ρ=J ρ:=rfl
@[simp]theorem Z3:fQ J Q' .cont ρ=J ρ:=rfl
@[simp]theorem aa7:fQ J Q' .brk ρ=Q' .next ρ:=rfl
@[simp]theorem ab9:fQ J Q' (.ret v) ρ=Q' (.ret v) ρ:=rfl
end
theorem BW{c:Call}{n:Nat}{d:Fd}{args:List Sl}{Q:R->List Sl->Prop}(hl:args.length=d.np)(hd:d.np<=d.nn)(h:(eX c n d.body (args++replicate (d.nn-d.np) .aV)).sat (eQ d.np Q)):(enter c n d args).sat Q:=by unfold enter;rw[if_pos ⟨hl,hd⟩];revert h;cases eX c n d.body (args++replicate (d.nn-d.np) .aV)with|stuck=>exact fun h=>False.elim h|exc _ _=>exact fun h=>False.elim h|ok fl ρ=>cases fl<;>first|exact id|exact fun h=>False.elim h
theorem aO{Γ:Tab}{w n i:Nat}{d:Fd}{args:List Sl}{Q:R->List Sl->Prop}(hΓ:Γ i=some d)(hl:args.length=d.np)(hd:d.np<=d.nn)(h:(eX (run Γ w n) w d.body (args++replicate (d.nn-d.np) .aV)).sat (eQ d.np Q)):(run Γ w (n+1) i args).sat Q:=by rw[Hy hΓ];exact BW hl hd h
theorem ak{c:Call}{n:Nat}{s:S}{r:List S}{ρ:List Sl}{Q:Fl->List Sl->Prop}(h:(ex c n s ρ).sat (sQ c n r Q)):(eX c n (s::r) ρ).sat Q:=by rw[eX,bN];refine h.imp fun fl ρ' q=>?_;cases fl<;>exact q
theorem De{c:Call}{n:Nat}{s:S}{r:List S}{ρ:List Sl}{Q:Fl->List Sl->Prop}(h:(ex c n s ρ).sat (sQ c n r Q)):sQ c n (s::r) Q .next ρ:=ak h
@[simp]theorem ZC{c:Call}{n:Nat}{ρ:List Sl}{Q:Fl->List Sl->Prop}:(eX c n [] ρ).sat Q=Q .next ρ:=by rw[eX];rfl
theorem fH{c:Call}{n:Nat}{s:S}{r:List S}{ρ:List Sl}{Q:Fl->List Sl->Prop}(M:List Sl->Prop)(h:(ex c n s ρ).sat fun fl ρ'=>fl=.next/\M ρ')(k:∀ρ',M ρ'->(eX c n r ρ').sat Q):(eX c n (s::r) ρ).sat Q:=ak (h.imp fun fl ρ'⟨e,q⟩=>by subst e;exact k ρ' q)
theorem cu{is:List Nat}{one:Bool}{body:List Sl->Res Fl}(J:List D->List Sl->Prop){Q:Fl->List Sl->Prop}(hb:∀d r ρ,J (d::r) ρ->∃ρ1,cI ρ is one d=some ρ1/\(body ρ1).sat (fQ (J r) Q))(hq:∀ρ,J [] ρ->Q .next ρ):∀{ds:List D}{ρ:List Sl},J ds ρ->(gj is one body ds ρ).sat Q|[],ρ,j=>hq ρ j|d::r,ρ,j=>by obtain⟨ρ1,e,h⟩:=hb d r ρ j;rw[gj,e];show((body ρ1).bind _).sat Q;rw[bN];refine h.imp fun fl ρ2 q=>?_;cases fl with|next=>exact cu J hb hq q|cont=>exact cu J hb hq q|brk=>exact q|ret v=>exact q
theorem jm{is:List Nat}{one:Bool}{test:List Sl->Res Bool}{elt:Ev}(J:List Sl->Prop)(g:D->Option D){Q:List D->List Sl->Prop}:∀{ds acc:List D}{ρ:List Sl},J ρ->(∀ d,d ∈ ds->∀ ρ,J ρ->∃ ρ1,cI ρ is one d=some ρ1/\(test ρ1).sat fun b ρ2=>if b=true then(elt ρ2).sat fun r ρ3=>g d=some r.d/\J ρ3 else g d=none/\J ρ2)->(∀ ρ,J ρ->Q (acc++ds.filterMap g) ρ)->(turns is one test elt ds acc ρ).sat Q|[],acc,ρ,j,h,k=>by rw[turns];simpa using k ρ j|d::r,acc,ρ,j,h,k=>by obtain⟨ρ1,e,h1⟩:=h d (by simp) ρ j;rw[turns,e];show((test ρ1).bind _).sat Q;rw[bN];refine h1.imp fun b ρ2 q=>?_;cases b with|true=>rw[if_pos rfl]at q;rw[if_pos rfl,bN];refine q.imp fun x ρ3⟨e1,j3⟩=>?_;refine jm J g j3 (fun d' hd'=>h d' (by simp[hd'])) fun ρ' j'=>?_;have:=k ρ' j';rw[filterMap_cons,e1]at this;rw[append_assoc];exact this|false=>rw[if_neg (by simp)]at q;rw[if_neg (by simp)];refine jm J g q.2 (fun d' hd'=>h d' (by simp[hd'])) fun ρ' j'=>?_;have:=k ρ' j';rw[filterMap_cons,q.1]at this;exact this
theorem xF{is:List Nat}{one:Bool}{elt:Ev}{c:Call}(J:List Sl->Prop)(g:D->D){Q:List D->List Sl->Prop}{ds:List D}{ρ:List Sl}(j:J ρ)(h:∀d,d∈ds->∀ρ,J ρ->∃ρ1,cI ρ is one d=some ρ1/\(elt ρ1).sat fun r ρ3=>g d=r.d/\J ρ3)(k:∀ρ,J ρ->Q (ds.map g) ρ):(turns is one (uI c none) elt ds [] ρ).sat Q:=jm J (fun d=>some (g d)) j (fun d hd ρ j=>by obtain⟨ρ1,e,h1⟩:=h d hd ρ j;refine⟨ρ1,e,?_⟩;rw[uI,Rm,if_pos rfl];exact h1.imp fun r ρ3 q=>⟨by rw[q.1],q.2⟩) fun ρ j=>by simpa using k ρ j
section
variable{ρ l:List Sl}{a:Sl}{i j:Int}{k m:Nat}{b b':Bool}{s:Str}{d:D}{ds es:List D}{e f:Ev}{x:Option Sl}{c:Call}
@[simp]theorem Rh:bZ .int .non=false:=rfl
@[simp]theorem TY:bZ .int (.bl b)=true:=rfl
@[simp]theorem Qx:bZ .int (.int i)=true:=rfl
@[simp]theorem Qt:bZ .int (.str s)=false:=rfl
@[simp]theorem PL:bZ .int (.tup ds)=false:=rfl
@[simp]theorem Pa:bZ .int (.lst ds)=false:=rfl
@[simp]theorem Mq:bZ .bool .non=false:=rfl
@[simp]theorem Rw:bZ .bool (.bl b)=true:=rfl
@[simp]theorem Nv:bZ .bool (.int i)=false:=rfl
@[simp]theorem NQ:bZ .bool (.str s)=false:=rfl
@[simp]theorem Mv:bZ .bool (.tup ds)=false:=rfl
@[simp]theorem NT:bZ .bool (.lst ds)=false:=rfl
@[simp]theorem Ru:bZ .str .non=false:=rfl
@[simp]theorem Vc:bZ .str (.bl b)=false:=rfl
@[simp]theorem Py:bZ .str (.int i)=false:=rfl
@[simp]theorem Ov:bZ .str (.str s)=true:=rfl
@[simp]theorem Sg:bZ .str (.tup ds)=false:=rfl
@[simp]theorem Ra:bZ .str (.lst ds)=false:=rfl
@[simp]theorem Jc:bZ .tuple .non=false:=rfl
@[simp]theorem Nk:bZ .tuple (.bl b)=false:=rfl
@[simp]theorem Jg:bZ .tuple (.int i)=false:=rfl
@[simp]theorem Lh:bZ .tuple (.str s)=false:=rfl
@[simp]theorem Ko:bZ .tuple (.tup ds)=true:=rfl
@[simp]theorem K8:bZ .tuple (.lst ds)=false:=rfl
@[simp]theorem Ml:bZ .list .non=false:=rfl
@[simp]theorem QC:bZ .list (.bl b)=false:=rfl
@[simp]theorem Mz:bZ .list (.int i)=false:=rfl
@[simp]theorem Mr:bZ .list (.str s)=false:=rfl
@[simp]theorem Nz:bZ .list (.tup ds)=false:=rfl
@[simp]theorem Mw:bZ .list (.lst ds)=true:=rfl
@[simp]theorem MF:bZ .none .non=true:=rfl
@[simp]theorem Pk:bZ .none (.bl b)=false:=rfl
@[simp]theorem Nq:bZ .none (.int i)=false:=rfl
@[simp]theorem Ms:bZ .none (.str s)=false:=rfl
@[simp]theorem M4:bZ .none (.tup ds)=false:=rfl
@[simp]theorem Mt:bZ .none (.lst ds)=false:=rfl
@[simp]theorem Tv:iQ .non=true:=rfl
@[simp]theorem V8:iQ (.bl b)=false:=rfl
@[simp]theorem Va:iQ (.int i)=false:=rfl
@[simp]theorem Uq:iQ (.str s)=false:=rfl
@[simp]theorem U0:iQ (.tup ds)=false:=rfl
@[simp]theorem Uj:iQ (.lst ds)=false:=rfl
@[simp]theorem V5:flat .non=true:=rfl
@[simp]theorem ZP:flat (.bl b)=true:=rfl
@[simp]theorem vQ:flat (.int i)=true:=rfl
@[simp]theorem VR:flat (.str s)=true:=rfl
@[simp]theorem W2:flat (.tup ds)=false:=rfl
@[simp]theorem Xf:flat (.lst ds)=false:=rfl
@[simp]theorem aby:(R.val d).d=d:=rfl
@[simp]theorem acW:(R.own ds).d=.lst ds:=rfl
@[simp]theorem Xk:xx (.val d)=.val false d:=rfl
@[simp]theorem VG:xx (.own ds)=.own false ds:=rfl
@[simp]theorem Vh:vR (.val d)=.dat d:=rfl
@[simp]theorem UJ:vR (.own ds)=.tmp ds:=rfl
@[simp]theorem Zq:fV (.int i)=some i:=rfl
@[simp]theorem abD:MN (.bl b)=some b:=rfl
@[simp]theorem BJ:items (.lst ds)=some ds:=rfl
@[simp]theorem rA:items (.tup ds)=some ds:=rfl
@[simp]theorem RN:O3 (.tup ds)=some ds:=rfl
@[simp]theorem SJ:yS (.lst ds)=some ds:=rfl
@[simp]theorem ZG:oh .add=pA:=rfl
@[simp]theorem Zr:oh .sub=wN:=rfl
@[simp]theorem ZM:oh .mul=mX:=rfl
@[simp]theorem WQ:oh .fdiv=o4:=rfl
@[simp]theorem Zg:oh .mod=wg:=rfl
@[simp]theorem Zi:oh .pow=wy:=rfl
@[simp]theorem Ub:pA (.int i) (.int j)=some (.val (.int (i+j))):=rfl
@[simp]theorem Ur:pA (.lst ds) (.lst es)=if ds.length+es.length<=lim then some (.own (ds++es))else none:=rfl
@[simp]theorem Tz:pA (.tup ds) (.tup es)=if ds.length+es.length<=lim then some (.val (.tup (ds++es)))else none:=rfl
@[simp]theorem Ve:wN (.int i) (.int j)=some (.val (.int (i-j))):=rfl
@[simp]theorem Ux:mX (.int i) (.int j)=if((-18446744073709551616<i/\i<18446744073709551616)\/(-18446744073709551616<j/\j<18446744073709551616))then some (.val (.int (i*j)))else none:=rfl
@[simp]theorem QZ:o4 (.int i) (.int j)=if 0<j/\j<1606938044258990275541962092341162602522202993782792835301376 then some (.val (.int (i/j)))else none:=rfl
@[simp]theorem Uv:wg (.int i) (.int j)=if 0<j then some (.val (.int (i%j)))else none:=rfl
@[simp]theorem Up:wy (.int i) (.int j)=if 0<=j/\j<=1000/\i.natAbs<18446744073709551616 then some (.val (.int (i^j.toNat)))else none:=rfl
@[simp]theorem Zd:Jl (.lst ds) (.int i)=(at' ds i).map .val:=rfl
@[simp]theorem Zh:Jl (.tup ds) (.int i)=(at' ds i).map .val:=rfl
@[simp]theorem W5:FT (.int i)=some (.val (.int (-i))):=rfl
@[simp]theorem TV:cm .eq (.int i) (.int j)=some (i==j):=rfl
@[simp]theorem U6:cm .ne (.int i) (.int j)=some (!(i==j)):=rfl
@[simp]theorem Xr:cm .eq (.bl b) (.bl b')=some (b==b'):=rfl
@[simp]theorem VH:cm .ne (.bl b) (.bl b')=some (!(b==b')):=rfl
@[simp]theorem Uo:cm .lt (.int i) (.int j)=some (decide (i<j)):=rfl
@[simp]theorem U8:cm .le (.int i) (.int j)=some (decide (i<=j)):=rfl
@[simp]theorem Tu:cm .gt (.int i) (.int j)=some (decide (j<i)):=rfl
@[simp]theorem Vb:cm .ge (.int i) (.int j)=some (decide (j<=i)):=rfl
@[simp]theorem aaV:cm .isN d .non=some (iQ d):=rfl
@[simp]theorem ZL:cm .Dm d .non=some (!iQ d):=rfl
@[simp]theorem NP:blt .len [.lst ds]=some (.val (.int ds.length)):=rfl
@[simp]theorem Nu:blt .len [.tup ds]=some (.val (.int ds.length)):=rfl
@[simp]theorem K5:blt .list [.lst ds]=some (.own ds):=rfl
@[simp]theorem Kr:blt .list [.tup ds]=some (.own ds):=rfl
@[simp]theorem Ik:blt .tuple [.lst ds]=some (.val (.tup ds)):=rfl
@[simp]theorem Il:blt .tuple [.tup ds]=some (.val (.tup ds)):=rfl
@[simp]theorem XH:blt .min2 [.int i,.int j]=some (.val (.int (if j<i then j else i))):=rfl
@[simp]theorem W8:blt .max2 [.int i,.int j]=some (.val (.int (if i<j then j else i))):=rfl
@[simp]theorem TX:isVar (.var k)=some k:=rfl
@[simp]theorem Y8:pk (a::l) k=match(a::l)[k]?with|some (.val _ d)=>some d|some (.own _ ds)=>some (.lst ds)|some (.lent ds)=>some (.lst ds)|_=>none:=rfl
@[simp]theorem Xx:Dw (a::l) k=match pk (a::l) k with|some (.lst ds)=>some ds|_=>none:=rfl
@[simp]theorem XQ:bY (some k) e ρ=lift (pk ρ k) ρ:=rfl
@[simp]theorem XC:bY none e ρ=(e ρ).bind fun r ρ=>.ok r.d ρ:=rfl
@[simp]theorem Ul{y:Option Nat}:gb (some k) e y f ρ=(lift (pk ρ k) ρ).bind fun _ ρ=>(bY y f ρ).bind fun y ρ=>(lift (pk ρ k) ρ).bind fun x ρ=>.ok (x,y) ρ:=rfl
@[simp]theorem Uu{y:Option Nat}:gb none e y f ρ=(bY none e ρ).bind fun x ρ=>(bY y f ρ).bind fun y ρ=>.ok (x,y) ρ:=rfl
@[simp]theorem TJ{es:List D}:cX (.own b ds) (some (.own b' es))=.own b es:=rfl
@[simp]theorem UT:cX (.own b ds) (some (.val b' d))=.val b d:=rfl
@[simp]theorem Fq:cX a none=a:=by cases a<;>rfl
@[simp]theorem Cj:cX (.val b d) x=.val b d:=by cases x<;>rfl
@[simp]theorem Vf:cX .aV x=.aV:=by cases x<;>rfl
@[simp]theorem xV:cX (.lent ds) x=.lent ds:=by cases x<;>rfl
@[simp]theorem VP:cI ρ [k] true d=put ρ k (.val false d):=rfl
@[simp]theorem T8{is:List Nat}:cI ρ is false (.tup ds)=putAll ρ is ds:=by cases is<;>rfl
@[simp]theorem S6:srcOf none e ρ=(e ρ).bind fun r ρ=>lift (items r.d) ρ:=rfl
@[simp]theorem Qg:srcOf (some k) e (a::l)=match(a::l)[k]?with|some (.val _ d)=>lift (items d) (a::l)|some (.own _ ds)=>.ok ds ((a::l).set k (.lent ds))|some (.lent ds)=>.ok ds (a::l)|_=>.stuck:=rfl
@[simp]theorem Nr{ρ':List Sl}:aX ρ' none ρ=ρ:=rfl
@[simp]theorem Ni:aX (a::l) (some k) ρ=match(a::l)[k]?with|some (.own b ds)=>ρ.set k (.own b ds)|_=>ρ:=rfl
@[simp]theorem WK{s:Sl}:put (a::l) k s=match(a::l)[k]?with|some t=>if fr t=true then some ((a::l).set k s)else none|none=>none:=R1 ..
@[simp]theorem PB:putAll ρ [] []=some ρ:=rfl
@[simp]theorem Ny{is:List Nat}:putAll ρ (k::is) (d::ds)=(put ρ k (.val false d)).bind fun ρ=>putAll ρ is ds:=rfl
end
@[simp]theorem abM{α:Type}{a0:α}{l:List α}:at' (a0::l) 0=some a0:=by unfold at' ie;rw[if_pos (by decide),if_pos (by simp only[length_cons];omega)];rfl
@[simp]theorem abk{α:Type}{a0 a1:α}{l:List α}:at' (a0::a1::l) 1=some a1:=by unfold at' ie;rw[if_pos (by decide),if_pos (by simp only[length_cons];omega)];rfl
@[simp]theorem aa4{α:Type}{a0 a1 a2:α}{l:List α}:at' (a0::a1::a2::l) 2=some a2:=by unfold at' ie;rw[if_pos (by decide),if_pos (by simp only[length_cons];omega)];rfl
@[simp]theorem abP{α:Type}{a0 a1 a2 a3:α}{l:List α}:at' (a0::a1::a2::a3::l) 3=some a3:=by unfold at' ie;rw[if_pos (by decide),if_pos (by simp only[length_cons];omega)];rfl
@[simp]theorem at_4{α:Type}{a0 a1 a2 a3 a4:α}{l:List α}:at' (a0::a1::a2::a3::a4::l) 4=some a4:=by unfold at' ie;rw[if_pos (by decide),if_pos (by simp only[length_cons];omega)];rfl
@[simp]theorem at_5{α:Type}{a0 a1 a2 a3 a4 a5:α}{l:List α}:at' (a0::a1::a2::a3::a4::a5::l) 5=some a5:=by unfold at' ie;rw[if_pos (by decide),if_pos (by simp only[length_cons];omega)];rfl
@[simp]theorem at_6{α:Type}{a0 a1 a2 a3 a4 a5 a6:α}{l:List α}:at' (a0::a1::a2::a3::a4::a5::a6::l) 6=some a6:=by unfold at' ie;rw[if_pos (by decide),if_pos (by simp only[length_cons];omega)];rfl
@[simp]theorem at_7{α:Type}{a0 a1 a2 a3 a4 a5 a6 a7:α}{l:List α}:at' (a0::a1::a2::a3::a4::a5::a6::a7::l) 7=some a7:=by unfold at' ie;rw[if_pos (by decide),if_pos (by simp only[length_cons];omega)];rfl
theorem yp{α:Type}{l:List α}{i:Int}(h:0<=i)(h':i<l.length):at' l i=l[i.toNat]?:=by unfold at' ie;rw[if_pos h,if_pos h'];rfl
theorem Gy{α:Type}{l:List α}{k:Nat}(h':k<l.length):at' l (k:Int)=l[k]?:=by rw[yp (by omega) (by omega)];simp
@[simp]theorem Uy{d:D}:isVar (.con d)=none:=rfl
@[simp]theorem Ud{o:Op}{p q:P}:isVar (.bin o p q)=none:=rfl
@[simp]theorem Tw{p:P}:isVar (.neg p)=none:=rfl
@[simp]theorem Vk{p:P}:isVar (.not p)=none:=rfl
@[simp]theorem Ut{p q:P}:isVar (.and p q)=none:=rfl
@[simp]theorem Xy{p q:P}:isVar (.or p q)=none:=rfl
@[simp]theorem T9{o:Cm}{p q:P}:isVar (.cmp o p q)=none:=rfl
@[simp]theorem Nt{o o':Cm}{p q r:P}:isVar (.chain o o' p q r)=none:=rfl
@[simp]theorem T5{p q r:P}:isVar (.N8 p q r)=none:=rfl
@[simp]theorem U7{as:List P}:isVar (.tup as)=none:=rfl
@[simp]theorem Vd{as:List P}:isVar (.lst as)=none:=rfl
@[simp]theorem T7{p q:P}:isVar (.idx p q)=none:=rfl
@[simp]theorem Mm{p q r:P}:isVar (.slice p q r)=none:=rfl
@[simp]theorem Te{f:Nat}{as:List P}:isVar (.call f as)=none:=rfl
@[simp]theorem U9{b:Y0}{as:List P}:isVar (.blt b as)=none:=rfl
@[simp]theorem OD{ts:List Ty}{p:P}:isVar (.inst ts p)=none:=rfl
@[simp]theorem Rz{p e:P}{n:Nat}{is:List Nat}{one:Bool}{t:Option P}:isVar (.comp p n is one t e)=none:=rfl
@[simp]theorem Uh{p q:P}:isVar (.wU p q)=none:=rfl
@[simp]theorem U5{p q:P}:isVar (.zip p q)=none:=rfl
noncomputable def pR(c:Call)(is:List Nat)(one:Bool)(test:Option P)(elt:P)(ds:List D)(ρ:List Sl):Res (List D):=turns is one (uI c test) (ev c elt) ds [] ρ
@[simp]theorem YK{c:Call}{src elt:P}{n:Nat}{is:List Nat}{one:Bool}{test:Option P}{ρ:List Sl}:ev c (.comp src n is one test elt) ρ=(srcOf (isVar src) (ev c src) ρ).bind fun ds ρ₁=>if ds.length<=lim then(pR c is one test elt ds (ρ₁++replicate n .aV)).bind fun xs ρ₂=>.ok (.own xs) (aX ρ (isVar src) (ρ₂.take ρ₁.length))else .stuck:=(rfl)
noncomputable def Gu(c:Call)(n:Nat)(t:P)(body:List S)(k:Nat)(ρ:List Sl):Res Fl:=qm (gG (ev c t)) (eX c n body) k ρ
@[simp]theorem aci{c:Call}{n:Nat}{t:P}{body:List S}{ρ:List Sl}:ex c n (.whl t body) ρ=Gu c n t body n ρ:=(rfl)
theorem sH{α β γ:Type}{x:Res β}{f:β->List Sl->Res α}{g:α->List Sl->Res γ}:(x.bind f).bind g=x.bind fun a ρ=>(f a ρ).bind g:=by cases x<;>rfl
@[simp]theorem acM{Γ:Tab}{w n i:Nat}{args:List Sl}{α:Type}{f:R->List Sl->Res α}{Q:α->List Sl->Prop}:((run Γ w n i args).bind f).sat Q=(run Γ w n i args).sat fun a ρ=>(f a ρ).sat Q:=bN
@[simp]theorem abB{Γ:Tab}{w n i:Nat}{args:List Sl}{α β:Type}{f:R->List Sl->Res α}{g:α->List Sl->Res β}:((run Γ w n i args).bind f).bind g=(run Γ w n i args).bind fun a ρ=>(f a ρ).bind g:=sH
@[simp]theorem Y6{c:Call}{is:List Nat}{one:Bool}{test:Option P}{elt:P}{ds:List D}{ρ:List Sl}{α:Type}{f:List D->List Sl->Res α}{Q:α->List Sl->Prop}:((pR c is one test elt ds ρ).bind f).sat Q=(pR c is one test elt ds ρ).sat fun a ρ=>(f a ρ).sat Q:=bN
@[simp]theorem YD{c:Call}{is:List Nat}{one:Bool}{test:Option P}{elt:P}{ds:List D}{ρ:List Sl}{α β:Type}{f:List D->List Sl->Res α}{g:α->List Sl->Res β}:((pR c is one test elt ds ρ).bind f).bind g=(pR c is one test elt ds ρ).bind fun a ρ=>(f a ρ).bind g:=sH
@[simp]theorem acn{is:List Nat}{one:Bool}{b:List Sl->Res Fl}{ds:List D}{ρ:List Sl}{α:Type}{f:Fl->List Sl->Res α}{Q:α->List Sl->Prop}:((gj is one b ds ρ).bind f).sat Q=(gj is one b ds ρ).sat fun a ρ=>(f a ρ).sat Q:=bN
@[simp]theorem Zn{α β:Type}{p:Prop}[Decidable p]{a:β}{ρ:List Sl}{f:β->List Sl->Res α}{Q:α->List Sl->Prop}:((lift (if p then some a else none) ρ).bind f).sat Q=(p/\(f a ρ).sat Q):=by by_cases h:p<;>simp[h,lift,Res.bind]
@[simp]theorem ZW{α β γ:Type}{p:Prop}[Decidable p]{a:β}{ρ:List Sl}{f:β->List Sl->Res α}{g:α->List Sl->Res γ}:((lift (if p then some a else none) ρ).bind f).bind g=(lift (if p then some a else none) ρ).bind fun a ρ=>(f a ρ).bind g:=sH
@[simp]theorem bb_ite{α β:Type}{p:Prop}[Decidable p]{x y:Res β}{f:β->List Sl->Res α}:(if p then x else y).bind f=if p then x.bind f else y.bind f:=by by_cases h:p<;>simp[h]
@[simp]theorem aaM{c:Call}{n k:Nat}{t:P}{b:List S}{ρ:List Sl}{α:Type}{f:Fl->List Sl->Res α}{Q:α->List Sl->Prop}:((Gu c n t b k ρ).bind f).sat Q=(Gu c n t b k ρ).sat fun a ρ=>(f a ρ).sat Q:=bN
@[simp]theorem abf{α β:Type}{a:α}{ρ:List Sl}{f:α->List Sl->Res β}:(Res.ok a ρ).bind f=f a ρ:=rfl
@[simp]theorem Um{α β:Type}{f:α->List Sl->Res β}:(Res.stuck:Res α).bind f=.stuck:=rfl
@[simp]theorem XN{α:Type}{a:α}{ρ:List Sl}:lift (some a) ρ=.ok a ρ:=rfl
@[simp]theorem W0{α:Type}{ρ:List Sl}:lift (none:Option α) ρ=.stuck:=rfl
noncomputable def Dh:List Sl->Nat->Sl->List Sl|[],_,_=>[]|t::ρ,0,s=>cX t (some s)::ρ|t::ρ,k+1,s=>t::Dh ρ k s
noncomputable def bk:List Arg->List Sl->List Sl->List Sl|.dq k::as,s::ss,ρ=>bk as ss (Dh ρ k s)|.dat _::as,_::ss,ρ=>bk as ss ρ|.tmp _::as,_::ss,ρ=>bk as ss ρ|_,_,ρ=>ρ
section
variable{t s:Sl}{ρ ss:List Sl}{k:Nat}{as:List Arg}{d:D}{ds:List D}
@[simp]theorem aee:Dh (t::ρ) 0 s=cX t (some s)::ρ:=rfl
@[simp]theorem ad4:Dh (t::ρ) (k+1) s=t::Dh ρ k s:=rfl
@[simp]theorem RT:bk (.dq k::as) (s::ss) ρ=bk as ss (Dh ρ k s):=rfl
@[simp]theorem Rr:bk (.dat d::as) (s::ss) ρ=bk as ss ρ:=rfl
@[simp]theorem Qv:bk (.tmp ds::as) (s::ss) ρ=bk as ss ρ:=rfl
@[simp]theorem aco:bk [] ss ρ=ρ:=rfl
end
theorem ye{s:Sl}:∀{ρ:List Sl}{k j:Nat},(Dh ρ k s)[j]?=(ρ[j]?).map fun t=>if j=k then cX t (some s)else t|[],_,_=>by simp[Dh]|t::ρ,0,0=>by simp[Dh]|t::ρ,0,j+1=>by simp[Dh]|t::ρ,k+1,0=>by simp[Dh]|t::ρ,k+1,j+1=>by have:=ye (s:=s) (ρ:=ρ) (k:=k) (j:=j);simp only[Dh,List.getElem?_cons_succ,this];congr 1;funext t;simp
theorem wB{as:List Arg}{ss:List Sl}:∀{ρ:List Sl}{i j:Nat},(cJ as ss i ρ)[j]?=(ρ[j]?).map fun t=>cX t (aQ (i+j) as ss)|[],_,_=>by simp[cJ]|t::ρ,i,0=>by simp[cJ]|t::ρ,i,j+1=>by have:=wB (as:=as) (ss:=ss) (ρ:=ρ) (i:=i+1) (j:=j);simp only[cJ,List.getElem?_cons_succ,this];rw[show i+1+j=i+(j+1)by omega]
def stb(t:Sl):Prop:=∀x,cX t x=t
def QQ(ρ:List Sl):List Arg->Prop|[]=>True|.dq k::as=>(Arg.dq k∈as->∀t,ρ[k]?=some t->stb t)/\QQ ρ as|_::as=>QQ ρ as
theorem n6{ρ:List Sl}:∀{as:List Arg}{ρ':List Sl},QQ ρ as->(∀k,Arg.dq k∈as->∀t,ρ'[k]?=some t->ρ[k]?=some t\/stb t)->QQ ρ' as
 |[],_,_,_=>trivial|.dq k::as,ρ',h,g=>⟨fun hm t ht=>by
  rcases g k (by simp) t ht with e|e;.exact h.1 hm t e
  .exact e,n6 h.2 fun j hj=>g j (by simp[hj])⟩|.dat _::as,ρ',h,g=>n6 (as:=as) h fun j hj=>g j (by simp[hj])|.tmp _::as,ρ',h,g=>n6 (as:=as) h fun j hj=>g j (by simp[hj])
theorem kY{k:Nat}:∀{as:List Arg}{ss:List Sl},Arg.dq k∉as->aQ k as ss=none|[],_,_=>by unfold aQ;rfl|.dq j::as,[],_=>rfl|.dat _::as,[],_=>rfl|.tmp _::as,[],_=>rfl|.dq j::as,s::ss,h=>by simp only[mem_cons,Arg.dq.injEq,not_or]at h;rw[aQ,if_neg (fun e=>h.1 e.symm),kY h.2]|.dat _::as,s::ss,h=>by simp only[mem_cons,not_or]at h;rw[aQ,kY h.2]|.tmp _::as,s::ss,h=>by simp only[mem_cons,not_or]at h;rw[aQ,kY h.2]
theorem Af:∀{as:List Arg}{ss ρ:List Sl},QQ ρ as->∀j,(bk as ss ρ)[j]?=(ρ[j]?).map fun t=>cX t (aQ j as ss)
 |[],ss,ρ,_,j=>by cases ss<;>simp[aQ]|.dq k::as,[],ρ,_,j=>by rw[show bk (.dq k::as) [] ρ=ρ from rfl];simp[aQ]|.dat d::as,[],ρ,_,j=>by rw[show bk (.dat d::as) [] ρ=ρ from rfl];simp[aQ]|.tmp d::as,[],ρ,_,j=>by rw[show bk (.tmp d::as) [] ρ=ρ from rfl];simp[aQ]|.dat _::as,s::ss,ρ,h,j=>by rw[Rr,aQ];exact Af (as:=as) h j|.tmp _::as,s::ss,ρ,h,j=>by rw[Qv,aQ];exact Af (as:=as) h j|.dq k::as,s::ss,ρ,h,j=>by
   have h2:QQ (Dh ρ k s) as:=n6 h.2 fun i hi t ht=>by rw[ye]at ht;cases e:ρ[i]?with|none=>rw[e]at ht;cases ht|some t0=>
      rw[e]at ht;by_cases c:i=k;.subst c;have hs:=h.1 hi t0 e;simp[hs (some s)]at ht;exact .inl (by rw[ht])
      .simp[c]at ht;exact .inl (by rw[ht])
   rw[RT,Af h2 j,ye,aQ];cases e:ρ[j]?with|none=>rfl|some t0=>
     simp only[Option.map_some];by_cases c:j=k
     . subst c;rw[if_pos rfl,if_pos rfl];by_cases hm:Arg.dq j∈as;.have hs:=h.1 hm t0 e;rw[hs (some s),hs]
       .rw[kY hm,Fq]
     .rw[if_neg c,if_neg (fun z=>c z.symm)]
theorem dR{ρ:List Sl}{k:Nat}{b:Bool}{ds:List D}(e:ρ[k]?=some (.own b ds)):∀{as:List Arg}{u:List Nat}{r:List Sl},k∈u->bC ρ as u=some r->Arg.dq k∉as
 |[],_,_,_,_=>by simp|.dat _::as,u,r,hu,h=>by simp only[bC,map_eq_some_iff]at h;obtain⟨r',h,_⟩:=h;simp[dR e hu h]|.tmp _::as,u,r,hu,h=>by simp only[bC,map_eq_some_iff]at h;obtain⟨r',h,_⟩:=h;simp[dR e hu h]|.dq i::as,u,r,hu,h=>by
   rw[bC]at h;have hi:i≠k:=by rintro rfl;rw[e]at h;simp[hu]at h
   have:Arg.dq k∉as:=by
    split at h;.obtain⟨r',h,_⟩:=map_eq_some_iff.mp h;exact dR e hu h
    . split at h;.cases h
      .obtain⟨r',h,_⟩:=map_eq_some_iff.mp h;exact dR e (by simp[hu]) h
    . split at h;.cases h
      .obtain⟨r',h,_⟩:=map_eq_some_iff.mp h;exact dR e (by simp[hu]) h
    .cases h
   simp[this];exact fun z=>hi z.symm
theorem dO{ρ:List Sl}:∀{as:List Arg}{u:List Nat}{r:List Sl},bC ρ as u=some r->QQ ρ as
 |[],_,_,_=>trivial|.dat _::as,u,r,h=>by obtain⟨r',h,_⟩:=map_eq_some_iff.mp h;exact dO (as:=as) h|.tmp _::as,u,r,h=>by obtain⟨r',h,_⟩:=map_eq_some_iff.mp h;exact dO (as:=as) h|.dq i::as,u,r,h=>by
   rw[bC]at h;split at h;.rename_i b d q;obtain⟨r',h,_⟩:=map_eq_some_iff.mp h;exact⟨fun _ t ht=>by rw[q]at ht;cases ht;exact fun x=>Cj,dO h⟩
   . rename_i b ds q;split at h;.cases h
     .obtain⟨r',h,_⟩:=map_eq_some_iff.mp h;exact⟨fun hm=>absurd hm (dR q (by simp) h),dO h⟩
   . rename_i ds q;split at h;.cases h
     .obtain⟨r',h,_⟩:=map_eq_some_iff.mp h;exact⟨fun _ t ht=>by rw[q]at ht;cases ht;exact fun x=>xV,dO h⟩
   .cases h
theorem VF{as:List Arg}{ss ρ r:List Sl}{u:List Nat}(h:bC ρ as u=some r):cJ as ss 0 ρ=bk as ss ρ:=by apply List.ext_getElem?;intro j;rw[wB,Af (dO h),Nat.zero_add]
@[simp]theorem UW{c:Call}{k:Nat}{as:List Arg}{ρ:List Sl}:oZ c k as ρ=match bC ρ as []with|none=>.stuck|some args=>(c k args).bind fun r args'=>.ok r (bk as args' ρ):=by unfold oZ;cases e:bC ρ as []with|none=>rfl|some args=>simp only[<-VF (r:=args) e];cases c k args<;>rfl
theorem fZ{c:Call}{is:List Nat}{one:Bool}{elt:P}(J:List Sl->Prop)(g:D->D){Q:List D->List Sl->Prop}{ds:List D}{ρ:List Sl}(j:J ρ)(h:∀d,d∈ds->∀ρ,J ρ->∃ρ1,cI ρ is one d=some ρ1/\(ev c elt ρ1).sat fun r ρ3=>g d=r.d/\J ρ3)(k:∀ρ,J ρ->Q (ds.map g) ρ):(pR c is one none elt ds ρ).sat Q:=xF J g j h k
theorem mK{c:Call}{is:List Nat}{one:Bool}{elt t:P}(J:List Sl->Prop)(g:D->Option D){Q:List D->List Sl->Prop}{ds:List D}{ρ:List Sl}(j:J ρ)(h:∀d,d∈ds->∀ρ,J ρ->∃ρ1,cI ρ is one d=some ρ1/\(ev c t ρ1).sat fun r ρ2=>∃b,r.d=.bl b/\if b=true then(ev c elt ρ2).sat fun r ρ3=>g d=some r.d/\J ρ3 else g d=none/\J ρ2)(k:∀ρ,J ρ->Q (ds.filterMap g) ρ):(pR c is one (some t) elt ds ρ).sat Q:=jm J g j (fun d hd ρ j=>by obtain⟨ρ1,e,h1⟩:=h d hd ρ j;refine⟨ρ1,e,?_⟩;rw[uI,gG,bN];refine h1.imp fun r ρ2⟨b,e,q⟩=>?_;rw[e];exact q) fun ρ j=>by simpa using k ρ j
theorem iI{c:Call}{n:Nat}{t:P}{body:List S}(J:Nat->List Sl->Prop){Q:Fl->List Sl->Prop}(h:∀m ρ,J m ρ->(ev c t ρ).sat fun r ρ1=>∃b,r.d=.bl b/\if b=true then(eX c n body ρ1).sat (fQ (fun ρ2=>∃m',m'<m/\J m' ρ2) Q)else Q .next ρ1):∀{k m:Nat}{ρ:List Sl},m<k->J m ρ->(Gu c n t body k ρ).sat Q|0,m,ρ,hk,_=>absurd hk (Nat.not_lt_zero _)|k+1,m,ρ,hk,j=>by unfold Gu;rw[qm,bN,gG,bN];refine(h m ρ j).imp fun r ρ1⟨b,e,q⟩=>?_;rw[e];show(if b=true then _ else _:Res Fl).sat Q;cases b with|false=>rw[if_neg (by simp)]at q;rw[if_neg (by simp)];exact q|true=>rw[if_pos rfl]at q;rw[if_pos rfl,bN];refine q.imp fun fl ρ2 q=>?_;cases fl with|next=>obtain⟨m',hm,j'⟩:=q;exact iI J h (lt_of_lt_of_le hm (Nat.lt_succ_iff.mp hk)) j'|cont=>obtain⟨m',hm,j'⟩:=q;exact iI J h (lt_of_lt_of_le hm (Nat.lt_succ_iff.mp hk)) j'|brk=>exact q|ret v=>exact q
@[simp]theorem adN:type_of%@HH.E1:=@HH.E1
@[simp]theorem adO:type_of%@HH.E2:=@HH.E2
@[simp]theorem ad7:type_of%@HH.E3:=@HH.E3
@[simp]theorem adQ:type_of%@HH.E4:=@HH.E4
@[simp]theorem aeb:type_of%@HH.E5:=@HH.E5
@[simp]theorem ad5:type_of%@HH.E6:=@HH.E6
@[simp]theorem adG:type_of%@HH.E7:=@HH.E7
@[simp]theorem adZ:type_of%@HH.E8:=@HH.E8
@[simp]theorem abH:type_of%@HH.E9:=@HH.E9
@[simp]theorem abp:type_of%@HH.E10:=@HH.E10
@[simp]theorem acs:type_of%@HH.E11:=@HH.E11
@[simp]theorem aa8:type_of%@HH.E12:=@HH.E12
@[simp]theorem abT:type_of%@HH.E13:=@HH.E13
@[simp]theorem abQ:type_of%@HH.E14:=@HH.E14
@[simp]theorem aca:type_of%@HH.E15:=@HH.E15
@[simp]theorem acP:type_of%@HH.E16:=@HH.E16
@[simp]theorem ab4:type_of%@HH.E17:=@HH.E17
@[simp]theorem YH:type_of%@HH.Wm:=@HH.Wm
@[simp]theorem abw:type_of%@HH.E18:=@HH.E18
@[simp]theorem acw:type_of%@HH.E20:=@HH.E20
@[simp]theorem abC:type_of%@HH.E21:=@HH.E21
@[simp]theorem aed:type_of%@HH.X1:=@HH.X1
@[simp]theorem ad8:type_of%@HH.X2:=@HH.X2
@[simp]theorem adF:type_of%@HH.X3:=@HH.X3
@[simp]theorem ad3:type_of%@HH.X4:=@HH.X4
@[simp]theorem aeg:type_of%@HH.X5:=@HH.X5
@[simp]theorem ad6:type_of%@HH.X6:=@HH.X6
@[simp]theorem adV:type_of%@HH.X7:=@HH.X7
@[simp]theorem abE:type_of%@HH.X8:=@HH.X8
@[simp]theorem abr:type_of%@HH.X9:=@HH.X9
@[simp]theorem aaY:type_of%@HH.X10:=@HH.X10
@[simp]theorem abV:type_of%@HH.ZF:=@HH.ZF
@[simp]theorem aaE:type_of%@HH.X12:=@HH.X12
@[simp]theorem abJ:type_of%@HH.gG.eq_1:=@HH.gG.eq_1
@[simp]theorem abN:type_of%@HH.evs.eq_1:=@HH.evs.eq_1
@[simp]theorem acJ:type_of%@HH.evs.eq_2:=@HH.evs.eq_2
@[simp]theorem acT:type_of%@HH.xn.eq_1:=@HH.xn.eq_1
@[simp]theorem aaK:type_of%@HH.xn.eq_2:=@HH.xn.eq_2
@[simp]theorem abL:type_of%@HH.uI.eq_1:=@HH.uI.eq_1
@[simp]theorem acH:type_of%@HH.uI.eq_2:=@HH.uI.eq_2
@[simp]theorem abR:type_of%@HH.lY.eq_1:=@HH.lY.eq_1
@[simp]theorem Xv:type_of%@HH.bC.eq_1:=@HH.bC.eq_1
@[simp]theorem Xp:type_of%@HH.bC.eq_2:=@HH.bC.eq_2
@[simp]theorem Xm:type_of%@HH.bC.eq_3:=@HH.bC.eq_3
@[simp]theorem Xn:type_of%@HH.bC.eq_4:=@HH.bC.eq_4
@[simp]theorem Vw:type_of%@HH.cJ.eq_1:=@HH.cJ.eq_1
@[simp]theorem V1:type_of%@HH.cJ.eq_2:=@HH.cJ.eq_2
@[simp]theorem Xd:type_of%@HH.aQ.eq_1:=@HH.aQ.eq_1
@[simp]theorem VL:type_of%@HH.aQ.eq_2:=@HH.aQ.eq_2
@[simp]theorem WL:type_of%@HH.aQ.eq_3:=@HH.aQ.eq_3
@[simp]theorem WR:type_of%@HH.aQ.eq_4:=@HH.aQ.eq_4
end HH
end
section
namespace HH
open PySem L2 PySem.Spec PyProof.Rows
section
variable{X:Cx}{c:Call}{a b:Expr}{pa pb:P}{pos:Pos}
theorem j5:∀{ds:List D}{ns:List Int},ds.mapM fV=some ns->ds=ns.map D.int|[],ns,h=>by simp at h;subst h;rfl|d::ds,ns,h=>by simp[List.mapM_cons,Option.bind_eq_some_iff]at h;obtain⟨i,e1,ms,e2,rfl⟩:=h;rw[cz e1,j5 e2];rfl
theorem di{K:PySem.W.Frag}{F:Hp}:∀{ns:List Int}{ys:List V},aC K F ys (ns.map D.int)->ys=ns.map V.int|[],ys,h=>by rw[h.dF];rfl|n::ns,ys,h=>by obtain⟨v,r,rfl,h1,t⟩:=h.bV;rw[Rep]at h1;rw[h1,di t];rfl
theorem kJ{ns:List Int}{us:List Value}(h:Vals (ns.map V.int) us){i:Nat}{v:Value}(e:us.toArray[i]?=some v):∃t,v=.int (ns.getD i 0) t:=by
 have e:us[i]?=some v:=by simpa using e
 have hi:i<us.length:=(List.getElem?_eq_some_iff.mp e).1;have hl:=h.length;rw[length_map]at hl;have g:(ns.map V.int)[i]?=some (.int (ns.getD i 0)):=by rw[getElem?_map,getElem?_eq_getElem (by omega)];simp[List.getD,show i<ns.length by omega]
 obtain⟨w,g1,g2⟩:=h.get g;rw[e]at g1;cases g1;exact g2
theorem walked{pins:List (Addr×Obj)}{σ:L2.St}{H:Hp}{s:Shared}{p:Addr}{ys:List V}(I:L2.Inv X pins σ H s)(hc:X.calm=true)(hq:dG X.K H p ys\/jy X.K H p ys){Q:Value->Shared->Prop}{E:Value->Shared->Prop}(k:∀(it:Addr)(us:List Value)(s₂:Shared)(St:Nat->Heap->Prop),Vals ys us->Walks X.prog X.w X.A.in1 it [it,p] [it] us.toArray.size (fun i v=>us.toArray[i]?=some v) St->St 0 s₂.heap->(∀ b ∈[it,p],b<s₂.heap.objs.size)->(∀h' tk,(∀b o,b∉[it]->s₂.heap.get? b=some o->h'.get? b=some o)->L2.Inv X pins σ H {s₂ with heap:=h',toks:=tk})->Q (.ref it) s₂):wpAny (model X.prog X.w) X.A.in1 (pyIter (.ref p)) Q E s:=by
 have hh:X.A.in1.handled=none:=I.ok.hd hc;rcases hq with hq|hq
 . obtain⟨us,rv,pl,hz⟩:=I.list hq;have pl:=pl.isList;have hlt:p<s.heap.objs.size:=by obtain⟨o,h1,_⟩:=pl;exact lt_size h1
   refine wpAny_pyIter_list pl (k s.heap.objs.size us _ _ rv (Walks.list hh s.heap.objs.size p (ne_of_lt hlt) us.toArray) ⟨⟨_,get?_push_size _ rfl,rfl,rfl⟩,?_⟩ ?_ fun h' tk kp=>?_);.obtain⟨o,h1,h2⟩:=pl;exact⟨o,get?_push_of_some _ h1,h2⟩
   . intro b hb;obtain⟨o,h1,_⟩:=pl;simp at hb;rcases hb with rfl|rfl;.exact lt_size (get?_push_size _ rfl)
     .exact lt_size (get?_push_of_some _ h1)
   .exact I.kept (fun b o z=>kp b o (by simp;exact ne_of_lt (lt_size z)) (get?_push_of_some _ z))
 . obtain⟨us,rv,pl,hz⟩:=I.tuple hq;have hlt:p<s.heap.objs.size:=by obtain⟨o,h1,_⟩:=pl;exact lt_size h1
   refine wpAny_pyIter_tuple pl (k s.heap.objs.size us _ _ rv (Walks.tuple hh s.heap.objs.size p (ne_of_lt hlt) us.toArray) ⟨⟨_,get?_push_size _ rfl,rfl,rfl⟩,?_⟩ ?_ fun h' tk kp=>?_);.obtain⟨o,h1,h2⟩:=pl;exact⟨o,get?_push_of_some _ h1,h2⟩
   . intro b hb;obtain⟨o,h1,_⟩:=pl;simp at hb;rcases hb with rfl|rfl;.exact lt_size (get?_push_size _ rfl)
     .exact lt_size (get?_push_of_some _ h1)
   .exact I.kept (fun b o z=>kp b o (by simp;exact ne_of_lt (lt_size z)) (get?_push_of_some _ z))
theorem m8(ns:List Int):∀k,k<=ns.length->preSum (fun i=>ns.getD i 0) k=(ns.take k).sum|0,_=>by simp[preSum]|k+1,h=>by rw[preSum,m8 ns k (by omega),List.take_succ,List.sum_append];simp[List.getD,show k<ns.length by omega]
theorem V7(hc:X.calm=true):cW X (.builtin "sum") (Lr X.K fun x=>blt .sum [x]):=by
 rintro pins s σ H xs us Q I r⟨x,hx,F,d,r',sm,px,he,k⟩;obtain⟨ns,e1,he⟩:=map_some (show((items d).bind fun ds=>ds.mapM fV).map _=some r' from he);subst he;obtain⟨ds,e2,e3⟩:=bI e1;obtain⟨p,ys,rfl,hq,rs⟩:=px.items sm e2;rw[j5 e3]at rs;have ey:=di rs;subst hx;obtain⟨u,rfl,rx⟩:=r.one;cases rx;refine call_sum_walkG (walked I hc hq fun it us s₂ St rv W h0 hl kp=>?_);subst ey;have hlen:us.toArray.size=ns.length:=by rw[size_toArray,<-rv.length,length_map]
 refine⟨it,_,_,_,_,St,fun i=>ns.getD i 0,rfl,W,h0,hl,fun i v e=>kJ rv e,fun h' tk t' kk=>?_⟩;rw[hlen,m8 ns _ (le_refl _),List.take_length];exact⟨.int _,H,kp h' tk kk,⟨t',rfl⟩,bB.bQ sm (bz _) k⟩
theorem Gn{ns:List Int}{m:Int}(hm:ns.min?=some m):ns.getD (argBest (fun i j=>decide (ns.getD i 0<ns.getD j 0)) (ns.length-1)) 0=m:=by
 have hne:ns≠[]:=by rintro rfl;simp at hm
 have hl:0<ns.length:=List.length_pos_iff.mpr hne;obtain⟨h1,h2⟩:=argBest_lt (fun i=>ns.getD i 0) (ns.length-1);have hb:=List.min?_eq_some_iff.mp hm;generalize argBest (fun i j=>decide (ns.getD i 0<ns.getD j 0)) (ns.length-1)=j at*;have hj:j<ns.length:=by omega
 have hmem:ns.getD j 0∈ns:=by simp[List.getD,hj]
 obtain⟨q,hq,e⟩:=List.getElem_of_mem hb.1;have h3:=h2 q (by omega);simp only[List.getD,getElem?_eq_getElem hq,getD_some]at h3;rw[e]at h3;have h4:=hb.2 _ hmem;have h3:ns.getD j 0<=m:=h3;omega
theorem Ha{ns:List Int}{m:Int}(hm:ns.max?=some m):ns.getD (argBest (fun i j=>decide (ns.getD i 0>ns.getD j 0)) (ns.length-1)) 0=m:=by
 have hne:ns≠[]:=by rintro rfl;simp at hm
 have hl:0<ns.length:=List.length_pos_iff.mpr hne;obtain⟨h1,h2⟩:=argBest_gt (fun i=>ns.getD i 0) (ns.length-1);have hb:=List.max?_eq_some_iff.mp hm;generalize argBest (fun i j=>decide (ns.getD i 0>ns.getD j 0)) (ns.length-1)=j at*;have hj:j<ns.length:=by omega
 have hmem:ns.getD j 0∈ns:=by simp[List.getD,hj]
 obtain⟨q,hq,e⟩:=List.getElem_of_mem hb.1;have h3:=h2 q (by omega);simp only[List.getD,getElem?_eq_getElem hq,getD_some]at h3;rw[e]at h3;have h4:=hb.2 _ hmem;have h3:m<=ns.getD j 0:=h3;omega
theorem Ox(hc:X.calm=true):cW X (.builtin "min") (Lr X.K fun x=>blt .Dn [x]):=by
 rintro pins s σ H xs us Q I r⟨x,hx,F,d,r',sm,px,he,k⟩;obtain⟨ns,e1,he⟩:=bI (show((items d).bind fun ds=>ds.mapM fV).bind _=some r' from he);obtain⟨m,hm,he⟩:=map_some he;subst he;obtain⟨ds,e2,e3⟩:=bI e1;obtain⟨p,ys,rfl,hq,rs⟩:=px.items sm e2;rw[j5 e3]at rs;have ey:=di rs;subst hx;obtain⟨u,rfl,rx⟩:=r.one;cases rx;refine call_min_walk (walked I hc hq fun it us s₂ St rv W h0 hl kp=>?_);subst ey;have hlen:us.toArray.size=ns.length:=by rw[size_toArray,<-rv.length,length_map]
 have hpos:0<ns.length:=by cases ns with|nil=>simp at hm|cons _ _=>simp
 refine⟨it,_,_,_,_,St,_,rfl,W,h0,hl,by rw[hlen];exact hpos,CmpOf.ints_lt (fun i=>ns.getD i 0) (fun i v e=>kJ rv e),fun v h' tk hv kk=>?_⟩;rw[hlen]at hv;obtain⟨t,rfl⟩:=kJ rv hv;rw[Gn hm];exact⟨.int _,H,kp h' tk kk,⟨t,rfl⟩,bB.bQ sm (bz _) k⟩
theorem boot_sum:bootBuiltins "sum"=some (.builtin "sum"):=by decide+kernel
theorem xJ{x:Str}{p':Pos}(hx:x="sum")(hc:X.calm=true)(hg:Gl X x)(hm:X.mg x=none)(ha:SX X c a pa)(hs:starEach [a] X.env=(false,eval a X.env)::starEach [] X.env:=by rfl):SX X c (.Call (.Name x p') [a] [] pos) (.blt .sum [pa]):=by subst hx;exact mU (fun h=>dm (V7 hc) hg hm boot_sum h (he:=hs)) ha (fun ρ=>rfl) rfl hs
theorem zx{x:Str}{p':Pos}(hx:x="min")(hc:X.calm=true)(hg:Gl X x)(hm:X.mg x=none)(ha:SX X c a pa)(hs:starEach [a] X.env=(false,eval a X.env)::starEach [] X.env:=by rfl):SX X c (.Call (.Name x p') [a] [] pos) (.blt .Dn [pa]):=by subst hx;exact mU (fun h=>dm (Ox hc) hg hm boot_min h (he:=hs)) ha (fun ρ=>rfl) rfl hs
theorem xZ{K:PySem.W.Frag}{F H:Hp}{v:V}{d:D}(h:cC K F H v d)(f:flat d=true):jE v=true:=by cases d with|non=>rw[h.non];rfl|bl _=>rw[h.bl];rfl|int _=>rw[h.int];rfl|str _=>rw[h.str];rfl|tup _=>cases f|lst _=>cases f|cM _=>cases f|dv _ _=>cases f
theorem acz{K:PySem.W.Frag}{F H:Hp}{v u:V}{d e:D}(h:cC K F H v d)(h':cC K F H u e)(f:flat d=true)(g:flat e=true):Kz v u=jf d e:=by cases d with
 |tup _=>cases f|lst _=>cases f|cM _=>cases f|dv _ _=>cases f|non=>rw[h.non];cases e with|tup _=>cases g|lst _=>cases g|cM _=>cases g|dv _ _=>cases g|non=>rw[h'.non];rfl|bl _=>rw[h'.bl];rfl|int _=>rw[h'.int];rfl|str _=>rw[h'.str];rfl
 |bl _=>rw[h.bl];cases e with|tup _=>cases g|lst _=>cases g|cM _=>cases g|dv _ _=>cases g|non=>rw[h'.non];rfl|bl _=>rw[h'.bl];rfl|int _=>rw[h'.int];rfl|str _=>rw[h'.str];rfl
 |int _=>rw[h.int];cases e with|tup _=>cases g|lst _=>cases g|cM _=>cases g|dv _ _=>cases g|non=>rw[h'.non];rfl|bl _=>rw[h'.bl];rfl|int _=>rw[h'.int];rfl|str _=>rw[h'.str];rfl
 |str _=>rw[h.str];cases e with|tup _=>cases g|lst _=>cases g|cM _=>cases g|dv _ _=>cases g|non=>rw[h'.non];rfl|bl _=>rw[h'.bl];rfl|int _=>rw[h'.int];rfl|str _=>rw[h'.str];rfl
theorem O4{K:PySem.W.Frag}{F H:Hp}{v:V}{d:D}(h:cC K F H v d)(f:flat d=true):∀{ds:List D}{vs:List V},aC K F vs ds->ds.all flat=true->vs.all jE=true/\inV v vs=ds.any fun y=>jf y d|[],vs,r,_=>by rw[r.dF];exact⟨rfl,rfl⟩|e::ds,vs,r,g=>by obtain⟨w,ws,rfl,h1,t⟩:=r.bV;rw[all_cons,and_eq_true]at g;obtain⟨i1,i2⟩:=O4 h f t g.2;have q:cC K F H w e:=.inl h1;refine⟨by rw[all_cons,xZ q g.1,i1];rfl,?_⟩;unfold inV at i2 ⊢;rw[any_cons,any_cons,i2,acz q h g.1 f]
theorem J0:cR X (compareOp .In) (rD X.K (lY .inn)):=by rintro pins s σ H x y v u Q I rx ry⟨F,d,e,r,sm,px,py,he,k⟩;obtain⟨t,e1,e2⟩:=map_some (show(uP false d e).map _=some r from he);subst e2;obtain⟨ds,e3,e4⟩:=bI e1;obtain⟨hf,e5⟩:=aP e4;rw[and_eq_true]at hf;obtain⟨p,xs,rfl,hq,rs⟩:=py.items sm e3;obtain⟨i1,i2⟩:=O4 px hf.1 rs hf.2;subst e5;refine CK pins s σ H x _ v u Q I rx ry ⟨p,xs,rfl,hq,xZ px hf.1,i1,?_⟩;rw[i2];exact bB.bQ sm (dC _) k
theorem Ci:cR X (compareOp .NotIn) (rD X.K (lY .Bu)):=by rintro pins s σ H x y v u Q I rx ry⟨F,d,e,r,sm,px,py,he,k⟩;obtain⟨t,e1,e2⟩:=map_some (show(uP true d e).map _=some r from he);subst e2;obtain⟨ds,e3,e4⟩:=bI e1;obtain⟨hf,e5⟩:=aP e4;rw[and_eq_true]at hf;obtain⟨p,xs,rfl,hq,rs⟩:=py.items sm e3;obtain⟨i1,i2⟩:=O4 px hf.1 rs hf.2;subst e5;refine tD pins s σ H x _ v u Q I rx ry ⟨p,xs,rfl,hq,xZ px hf.1,i1,?_⟩;rw[i2];exact bB.bQ sm (dC _) k
end
end HH
end
section
namespace HH
open PySem
section
variable{i j:Int}{ds es:List D}{d:D}{b b':Bool}
@[simp]theorem Zz:oh .shl=wz:=rfl
@[simp]theorem ZK:oh .shr=uO:=rfl
@[simp]theorem W9:oh .band=p8:=rfl
@[simp]theorem Ui:wz (.int i) (.int j)=if 0<=j/\j<=1000/\i.natAbs<18446744073709551616 then some (.val (.int (i*2^j.toNat)))else none:=rfl
@[simp]theorem UG:uO (.int i) (.int j)=if 0<=j then some (.val (.int (i/2^j.toNat)))else none:=rfl
@[simp]theorem QX:p8 (.int i) (.int j)=some (.val (.int (Builtin.bitAnd i j))):=rfl
@[simp]theorem Uc:mX (.lst ds) (.int i)=if 0<=i/\0<ds.length/\ds.length*i.toNat<=lim then some (.own (replicate i.toNat ds).flatten)else none:=rfl
@[simp]theorem U3:mX (.tup ds) (.int i)=if 0<=i/\0<ds.length/\ds.length*i.toNat<=lim then some (.val (.tup (replicate i.toNat ds).flatten))else none:=rfl
@[simp]theorem aa9:cm .isT (.bl b) (.bl true)=some b:=rfl
@[simp]theorem Zy:cm .Yi (.bl b) (.bl true)=some (!b):=rfl
@[simp]theorem YL:blt .sum [.lst ds]=(ds.mapM fV).map fun ns=>.val (.int ns.sum):=rfl
@[simp]theorem V0:blt .Dn [.lst ds]=(ds.mapM fV).bind fun ns=>ns.min?.map fun i=>.val (.int i):=rfl
end
@[simp]theorem aaP:type_of%@HH.X14:=@HH.X14
theorem eU{ns:List Int}:(ns.map D.int).mapM fV=some ns:=by induction ns with|nil=>rfl|cons n ns ih=>simp[ih]
@[simp]theorem UL{ns:List Int}:ns.mapM (fV ∘ D.int)=some ns:=by rw[<-eU (ns:=ns),List.mapM_map]
@[simp]theorem WM{bs:List Bool}:bs.mapM (MN ∘ D.bl)=some bs:=by induction bs with|nil=>rfl|cons b bs ih=>simp[ih]
theorem Aq{S:List Int}{i:Int}:((S.map D.int).any fun y=>jf y (.int i))=S.contains i:=by induction S with|nil=>rfl|cons s S ih=>rw[map_cons,any_cons,List.contains_cons,ih,pqi];rw[show(s==i)=(i==s)from Bool.eq_iff_iff.mpr ⟨fun h=>by simp at h ⊢;exact h.symm,fun h=>by simp at h ⊢;exact h.symm⟩]
theorem uQ{S:List Int}:(S.map D.int).all flat=true:=by rw[all_eq_true];intro d hd;obtain⟨i,_,rfl⟩:=mem_map.mp hd;rfl
theorem yC{S:List Int}{i:Int}:cm .inn (.int i) (.tup (S.map D.int))=some (S.contains i):=by show uP false _ _=_;unfold uP;simp only[rA,bind_some,vQ,uQ,Bool.and_true,Aq];rfl
theorem lZ{S:List Int}{i:Int}:cm .Bu (.int i) (.tup (S.map D.int))=some (!S.contains i):=by show uP true _ _=_;unfold uP;simp only[rA,bind_some,vQ,uQ,Bool.and_true,Aq];rfl
theorem nT{n:Nat}{S:List Int}:cV (n+1) (.lst (S.map D.int))=true:=by rw[cV,all_eq_true];intro d hd;obtain⟨i,_,rfl⟩:=mem_map.mp hd;cases n<;>rfl
theorem pD:∀{S T:List Int},fK (S.map D.int) (T.map D.int)=(S==T)|[],[]=>by simp[fK]|[],_::_=>by simp[fK]|_::_,[]=>by simp[fK]|s::S,t::T=>by rw[map_cons,map_cons,fK,pD,pqi];rfl
theorem Zj{S T:List Int}:cm .eq (.lst (S.map D.int)) (.lst (T.map D.int))=some (S==T):=by show GF _ _=_;unfold GF;rw[nT,nT,Z1,pD];rfl
theorem YS{S T:List Int}:cm .ne (.lst (S.map D.int)) (.lst (T.map D.int))=some (!(S==T)):=by show Ej _ _=_;unfold Ej;rw[nT,nT,Z1,pD];rfl
theorem iw{α:Type}{l:List α}{f:α->D}{k:Nat}{x:α}(h:l[k]?=some x):at' (l.map f) (k:Int)=some (f x):=by have hk:=(List.getElem?_eq_some_iff.mp h).1;rw[Gy (by simpa using hk),getElem?_map,h];rfl
theorem Em{n k:Nat}(h:k<n):ie n (k:Int)=some k:=by unfold ie;rw[if_pos (by omega),if_pos (by omega)];simp
theorem iy{is:List Nat}{one:Bool}{body:List Sl->Res Fl}{g:Nat->D}{N:Nat}(J:Nat->List Sl->Prop){Q:Fl->List Sl->Prop}(hb:∀i ρ,i<N->J i ρ->∃ρ1,cI ρ is one (g i)=some ρ1/\(body ρ1).sat (fQ (J (i+1)) Q))(hq:∀ρ,J N ρ->Q .next ρ){ρ:List Sl}(h0:J 0 ρ):(gj is one body ((List.range N).map g) ρ).sat Q:=by
 refine cu (fun r ρ=>∃i,i<=N/\r=((List.range N).map g).drop i/\J i ρ) ?_ ?_ ⟨0,zero_le _,rfl,h0⟩
 . rintro d r ρ⟨i,hi,e,j⟩;have hlt:i<N:=by
    rcases Nat.lt_or_ge i N with h|h;.exact h
    .rw[List.drop_eq_nil_of_le (by simpa using h)]at e;cases e
   rw[drop_eq_getElem_cons (by simpa using hlt)]at e;injection e with e1 e2;simp at e1;subst e1;obtain⟨ρ1,h1,h2⟩:=hb i ρ hlt j;refine⟨ρ1,h1,h2.imp fun fl ρ2 q=>?_⟩;cases fl with|next=>exact⟨i+1,hlt,e2,q⟩|cont=>exact⟨i+1,hlt,e2,q⟩|brk=>exact q|ret v=>exact q
 . rintro ρ⟨i,hi,e,j⟩;have:i=N:=by have hl:=congrArg List.length e;simp at hl;omega
   subst this;exact hq ρ j
inductive A3(a b c:Prop):Prop where|mk(ha:a)(hb:b)(hc:c)
inductive A4(a b c d:Prop):Prop where|mk(ha:a)(hb:b)(hc:c)(hd:d)
inductive A5(a b c d e:Prop):Prop where|mk(ha:a)(hb:b)(hc:c)(hd:d)(he:e)
inductive A6(a b c d e f:Prop):Prop where|mk(ha:a)(hb:b)(hc:c)(hd:d)(he:e)(hf:f)
inductive A7(a b c d e f g:Prop):Prop where|mk(ha:a)(hb:b)(hc:c)(hd:d)(he:e)(hf:f)(hg:g)
inductive A8(a b c d e f g h:Prop):Prop where|mk(ha:a)(hb:b)(hc:c)(hd:d)(he:e)(hf:f)(hg:g)(hh:h)
inductive A9(a b c d e f g h i:Prop):Prop where|mk(ha:a)(hb:b)(hc:c)(hd:d)(he:e)(hf:f)(hg:g)(hh:h)(hi:i)
end HH
end
section
namespace HH
open PySem L2 PySem.Spec PyProof.Rows
section
variable{prog:Program}{w:World}{A:Around}{E:Value->Shared->Prop}{s:Shared}
theorem xQ{id:String}{f:Builtin}{xs:List Value}{kw:List (Str×Value)}{Q:Value->Shared->Prop}(h1:builtinKind id=none)(h2:plainId id=true)(h3:entryFor table id=some f)(h4:argsOk id ⟨xs,kw⟩)(h:wpAny (model prog w) A.in1 (f ⟨xs,kw⟩) (fun fin s'=>match fin with|.done z=>(match(Except.ok z:Result)with|.ok (.ret v)=>Q v s'|.ok _=>False|.error y=>E y s')|.again z=>z.quiet=true/\codeAny (model prog w) A z (fun r s'=>match r with|.ok (.ret v)=>Q v s'|.ok _=>False|.error y=>E y s') s') E s):wpAny (model prog w) A (call (.builtin id) xs kw) Q E s:=by refine wpAny_call (codeAny_call_builtin h2 h3 ?_);simp only[checkBuiltinCall,h1];cases e:Manifest.signature? id with|none=>exact wpAny_pure h|some g=>(have h5:Bind.checkArgs id g ⟨xs,kw⟩=pure ():=by simpa only[argsOk,e]using h4);simp only[h5];exact wpAny_pure h
end
section
variable{X:Cx}{c:Call}{n:Nat}{e a b:Expr}{p pa pb:P}{pos:Pos}
def CallD(X:Cx)(id:String)(r:List V->Hp->VK->Prop):Prop:=∀(pins:List (Addr×Obj))(s:Shared)(σ:L2.St)(H:Hp)(xs:List V)(us:List Value)(Q:VK),L2.Inv X pins σ H s->Vals xs us->r xs H Q->wpAny (model X.prog X.w) X.A (call (.builtin id) us [("default",.none)]) (EP X pins σ Q) X.xe s
theorem Ea{x:Str}{id:String}{r:List V->Hp->VK->Prop}{t:TA}{p' kp cp:Pos}{ck}(hc:CallD X id r)(hg:Gl X x)(hm:X.mg x=none)(hv:bootBuiltins x=some (.builtin id))(ha:PA X [e] t)(hn:x≠"__name__":=by decide)(hdb:(x==("__debug__":Str))=false:=by decide)(he:backTo pos (starEach [e] X.env)=(false,eval e X.env)::backTo pos (starEach [] X.env):=by rfl)(hpl:(backTo pos (starEach [e] X.env)).any (·.1)=false:=by rfl)(hall:(backToKw pos (keywordEach [⟨some "default",.Constant .none ck cp,kp⟩] X.env)).all (·.1.isSome)=true:=by rfl)(hkw:(backToKw pos (keywordEach [⟨some "default",.Constant .none ck cp,kp⟩] X.env)).any (·.1.isNone)=false:=by rfl):PE X (.Call (.Name x p') [e] [⟨some "default",.Constant .none ck cp,kp⟩] pos) (Xw r t):=by intro pins s σ H Q I h;refine wpAny_Call_Name_kw (iT I hg hm hv (callWith_kw (bH (ha pos pins s σ H _ I h) ?_) he hpl hall hkw) hn hdb);rintro us s1⟨vs,H1,I1,r1,q1⟩;exact kws_cons (Constant_none (kws_nil (hc pins s1 σ H1 vs us Q I1 r1 q1)))
end
end HH
end
section
namespace HT
open PySem PySem.Spec PyProof.Rows
section
variable{prog:Program}{w:World}{A:Around}{E:Value->Shared->Prop}{s:Shared}
theorem vA{t sl:Addr}{its:Array Value}{vl vu:Value}{lo hi:Option Int}{Q:Value->Shared->Prop}(ht:IsTup s.heap t its)(hs:s.heap.IsSliceOf sl vl vu .none)(pl:IsPart vl lo)(pu:IsPart vu hi)(h1:cO its.size 0 lo=0)(h2:cO its.size its.size hi=its.size)(h:Q (.ref t) s):wpAny (model prog w) A (getItem (.ref t) (.ref sl)) Q E s:=by
 obtain⟨os,hos,hcs,hds⟩:=id hs;have hT:s.TypeIs (.ref sl) "slice":=⟨os,hos,hcs⟩;unfold getItem;try with_reducible refine wpAny_holding ?_
 first|refine wpAny_bind (wpAny_pure ?_)|skip
 refine wpAny_bind (wpAny_sequenceKey ht.typeIs (by decide) (wpAny_bind (wpAny_callSpecial?_slot (name:=Str.ofString "__getitem__") ht.typeIs slot_tuple_getitem (wpAny_call_entry slot_tuple_getitem ht.typeIs entry_tuple_getitem ?_ (args_tuple_getitem _ _)))));show wpAny _ _ (tupleItemsOf (.ref t)>>=_) _ _ s;refine wpAny_bind (tupleItemsOf_ ht (wpAny_bind (wpAny_typeOf hT ?_)));rw[if_pos (by decide)];refine wpAny_bind (gn hs pl pu ?_);have ac9:((((cO its.size 0 lo:Nat):Int)==0&&(1:Int)==1&&(cO its.size its.size hi-cO its.size 0 lo)==its.size)=true):=by rw[h1,h2];simp
 show wpAny _ _ (if(((cO its.size 0 lo:Nat):Int)==0&&(1:Int)==1&&(cO its.size its.size hi-cO its.size 0 lo)==its.size)=true then _ else _) _ _ s;rw[if_pos ac9];unfold Builtin.Tuple.tupleIsExact;refine wpAny_bind (wpAny_bind (wpAny_typeOf ht.typeIs (wpAny_pure ?_)));rw[if_pos (by decide)];exact wpAny_bind (wpAny_rule (wpAny_pure ⟨_,rfl,wpAny_pure h⟩))
end
end HT
namespace HH
open PySem L2 PySem.Spec PyProof.Rows
noncomputable def nst:Expr->Bool|.Starred _ _=>false|_=>true
theorem gP{e:Expr}{es:List Expr}{env:Env}(h:nst e=true):starEach (e::es) env=(false,eval e env)::starEach es env:=by cases e with|Starred a b=>cases h|_=>rw[starEach];(intro e p z;cases z)
noncomputable def pN:List Int->List Expr->Option (List Expr)|[],es=>some es|i::is,.Constant (.int j) _ _::es=>if i=j then pN is es else none|_,_=>none
theorem sJ{X:L2.Cx}{c:Call}:∀(is:List Int){es es':List Expr}{ps':List P},pN is es=some es'->SA X c es' ps'->SA X c es (is.map (fun i=>P.con (.int i))++ps')|[],es,es',ps',h,r=>by cases h;exact r|i::is,[],es',ps',h,r=>by cases h|i::is,e::es,es',ps',h,r=>by cases e with
   |Constant v k p=>cases v with
     |int j=>
       replace h:(if i=j then pN is es else none)=some es':=h;split at h;.rename_i hij;subst hij;exact Bl aj (sJ is h r) (gP rfl)
       .cases h|_=>cases h
   |_=>cases h
theorem tK{n d:Nat}{o:Option Int}:HT.cO n d o=HH.cO n d o:=by cases o with|none=>rfl|some v=>
   show(if v<0 then(v+(n:Int)).toNat else min v.toNat n)=(if 0<=v then min v.toNat n else(v+n).toNat);by_cases h:0<=v;.rw[if_pos h,if_neg (by omega)]
   .rw[if_neg h,if_pos (by omega)]
theorem Gp{xs:List V}{lo hi:Option Int}:uN xs lo hi=HH.cut xs lo hi:=by unfold uN HH.cut;rw[tK,tK]
theorem aC.cut{K:PySem.W.Frag}{F:Hp}{ds:List D}{vs:List V}{lo hi:Option Int}(h:aC K F vs ds):aC K F (HH.cut vs lo hi) (HH.cut ds lo hi):=by unfold HH.cut;rw[h.length];exact(h.drop _).take _
section
variable{X:Cx}{c:Call}{n:Nat}{e a b:Expr}{p pa pb pl ph:P}{pos p2:Pos}{lo hi:Option Expr}
def aaJ(K:PySem.W.Frag):V->Option Int->Option Int->Hp->VK->Prop:=fun x lo hi H Q=>∃F d r,aH F H/\cC K F H x d/\Mu d (some lo) (some hi)=some r/\∀v F' H',Ext F H F' H'->bB K F' H' H v r->Q v H'
theorem Wn:SlR X (aaJ X.K):=by rintro pins s σ H x v vl vu lo hi sl Q I rx hs pl pu⟨F,d,r,sm,px,he,k⟩;cases d with|lst ds=>cases he;obtain⟨a,xs,rfl,hq,rs⟩:=px.lst sm;refine K6 pins s σ H _ v vl vu lo hi sl Q I rx hs pl pu ⟨a,xs,rfl,hq,fun p hp=>?_⟩;rw[Gp];exact vX sm rs.cut hp k|tup ds=>
   cases he;obtain⟨a,xs,rfl,hq,rs,rt⟩:=px.tup sm;by_cases hw:HT.cO xs.length 0 lo=0/\HT.cO xs.length xs.length hi=xs.length
   . cases rx;obtain⟨its,rv,ht,hz⟩:=I.tuple hq;have hlen:its.toArray.size=xs.length:=by rw[size_toArray];exact rv.length.symm
     refine⟨"tuple",_,slot_tuple_getitem.lookup,ht.typeIs,HT.vA ht hs pl pu (by rw[hlen];exact hw.1) (by rw[hlen];exact hw.2) ⟨.ref a,H,I,rfl,?_⟩⟩;have hc:HH.cut ds lo hi=ds:=by unfold HH.cut;rw[<-rs.length,<-tK,<-tK,hw.1,hw.2];simp[rs.length]
     rw[hc]at k;exact bB.bQ sm rt k
   .refine R5 pins s σ H _ v vl vu lo hi sl Q I rx hs pl pu ⟨a,xs,rfl,hq,hw,fun p hp=>?_⟩;rw[Gp];exact Dj sm rs.cut hp k|_=>cases he
def SO(X:Cx)(c:Call)(o:Option Expr)(p:P):Prop:=∃t,PO X o t/\∀{σ:L2.St}{H F:Hp}{ρ ρ':List Sl}{d:D}{i:Option Int}{Q:Option Int->Hp->Prop},GS X.K F ρ σ H->bY (isVar p) (HH.ev c p) ρ=.ok d ρ'->part p d=some i->(∀F' H',aq X.K F ρ σ H F' ρ' σ H'->Q i H')->t σ H Q
theorem zq:SO X c none (.con .non):=by refine⟨_,K4,fun{σ H F ρ ρ' d i Q}g e h k=>?_⟩;cases(show some none=some i from h);have e':(HH.ev c (.con .non) ρ).bind (fun r ρ=>.ok r.d ρ)=.ok d ρ':=e;clear e;rw[HH.E2]at e';cases e';exact k F H (.refl g)
theorem zZ(h:SX X c e p)(hn:Qs p=false:=by rfl):SO X c (some e) p:=by obtain⟨t,h1,h2⟩:=h.bY;refine⟨_,IV h1,fun{σ H F ρ ρ' d i Q}g e hp k=>?_⟩;unfold part at hp;rw[hn,if_neg (by decide)]at hp;obtain⟨j,e1,e2⟩:=map_some hp;cases cz e1;subst e2;exact h2 g e fun v F' H' s pv=>⟨j,pv.int,k F' H' s⟩
theorem v9{d:D}{x y:Option (Option Int)}{r:R}(h:Mu d x y=some r):∃lo hi,x=some lo/\y=some hi:=by cases x with|none=>cases d<;>cases h|some lo=>cases y with|none=>cases d<;>cases h|some hi=>exact⟨lo,hi,rfl,rfl⟩
theorem vg(ha:SX X c a pa)(hl:SO X c lo pl)(hh:SO X c hi ph):SX X c (.Subscript a (.Slice lo hi none p2) pos) (.slice pa pl ph):=by obtain⟨tl,l1,l2⟩:=hl;obtain⟨th,h1,h2⟩:=hh;cases hv:isVar pa with|none=>refine⟨cY (wJ Wn ha.ev l1 h1) ?_,fun i h=>by cases h⟩;rintro σ H Q⟨F,ρ,r,ρ',g,e,k⟩;rw[HH.E14,hv]at e;obtain⟨x,ρ1,e1',ea⟩:=aa e;clear e;have Yo:(HH.ev c pa ρ).bind (fun r ρ=>.ok r.d ρ)=.ok x ρ1:=e1';clear e1';obtain⟨rx,ρ1',e1,e0⟩:=aa Yo;clear Yo;cases e0;obtain⟨y,ρ2,e2,eb⟩:=aa ea;clear ea;obtain⟨z,ρ3,e3,ec⟩:=aa eb;clear eb;obtain⟨e,e4⟩:=aF ec;clear ec;subst e4;obtain⟨lo',hi',q1,q2⟩:=v9 e;rw[q1,q2]at e;refine⟨F,ρ,rx,_,g,e1,fun v F1 H1 s1 rr=>?_⟩;obtain⟨F2,s2,_,rp⟩:=s1.cN rr;refine l2 s2.gs e2 q1 fun F3 H3 s3=>h2 s3.gs e3 q2 fun F4 H4 s4=>?_;have s5:=s2.trans (s3.trans s4);refine⟨F4,_,r,s4.gs.sub,.inl ((rp.mono s3.cG).mono s4.cG),e,fun v F5 H5 x rn=>?_⟩;exact k v F5 H5 (s5.trans (x.stp s5.gs)) (.later s5 (rn.nG s5.gs))|some i=>refine⟨cY (wJ Wn (ha.var i hv) l1 h1) ?_,fun i h=>by cases h⟩;rintro σ H Q⟨F,ρ,r,ρ',g,e,k⟩;rw[HH.E14,hv]at e;obtain⟨x0,ρ0,e0',ea⟩:=aa e;clear e;obtain⟨e0,Ie⟩:=aF e0';clear e0';subst Ie;obtain⟨y,ρ2,e2,eb⟩:=aa ea;clear ea;obtain⟨z,ρ3,e3,ec⟩:=aa eb;clear eb;obtain⟨x,ρ4,e5',ed⟩:=aa ec;clear ec;obtain⟨e5,e6⟩:=aF e5';clear e5';subst e6;obtain⟨e,e4⟩:=aF ed;clear ed;subst e4;obtain⟨lo',hi',q1,q2⟩:=v9 e;rw[q1,q2]at e;obtain⟨v,hv1,_⟩:=g.pk e0;refine⟨v,hv1,l2 g e2 q1 fun F3 H3 s3=>h2 s3.gs e3 q2 fun F4 H4 s4=>?_⟩;have s5:=s3.trans s4;obtain⟨v',hv2,pv⟩:=s5.gs.pk e5;rw[hv1]at hv2;cases hv2;refine⟨F4,_,r,s4.gs.sub,pv,e,fun v F5 H5 x rn=>?_⟩;exact k v F5 H5 (s5.trans (x.stp s5.gs)) (.later s5 (rn.nG s5.gs))
theorem JK:YC X .Add (ipI fun i j=>if false then i-j else i+j):=RX
end
end HH
end
section
namespace L2
open PySem PySem.Spec PyProof.Rows
section
variable{X:Cx}{tg:Expr}
theorem vz:bootBuiltins "tuple"=some (.type "tuple"):=by decide+kernel
theorem oX:bootBuiltins "reversed"=some (.type "reversed"):=by decide+kernel
end
end L2
namespace HH
open PySem L2 PySem.Spec PyProof.Rows
section
variable{K:PySem.W.Frag}{F F1 H H1:Hp}{ρ ρ1:List Sl}{σ:L2.St}{ds:List D}{a:Addr}
theorem aC.rev:∀{ds:List D}{xs:List V},aC K F xs ds->aC K F xs.reverse ds.reverse|[],_,h=>by rw[h.dF];exact .nil|d::ds,_,h=>by obtain⟨v,r,rfl,h1,h2⟩:=h.bV;rw[reverse_cons,reverse_cons];exact(aC.rev h2).append (.cons h1 .nil)
end
section
variable{X:Cx}{c:Call}{a b d:Expr}{pa pb pd:P}{pos:Pos}
theorem Hx{o o':Cm}{op op':CmpOp}(ho:cR X (compareOp op) (rD X.K (lY o)))(ho':cR X (compareOp op') (rD X.K (lY o')))(ha:SX X c a pa)(hb:SX X c b pb)(hd:SX X c d pd)(hm:lastMarks [op,op'] [b,d]=false:=by with_unfolding_all rfl):ST X c (.Compare a [op,op'] [b,d] pos) (.chain o o' pa pb pd):=by
 obtain⟨ta,tb,h1,h2,h3⟩:=ha.gb hb;obtain⟨td,h4,h5⟩:=hd.bY;refine rJ (FP ho ho' h1 h2 h4 hm) fun σ H Q q=>jO (t:=Ek (rD X.K (lY o)) (rD X.K (lY o')) ta tb td) (fun Q z=>?_) q;obtain⟨F,ρ,r,ρ',g,e,k⟩:=z;rw[HH.E9]at e;obtain⟨xy,ρ1,e1,e⟩:=aa e;obtain⟨t,ρ2,e2,e⟩:=aa e;have zz:=aF e2;clear e2;obtain⟨e2,e3⟩:=zz;subst e3;have hfl:flat xy.2=true/\cm o xy.1 xy.2=some t:=by
  split at e2;.rename_i hf;exact⟨hf,e2⟩
  .cases e2
 obtain⟨hfl,e2⟩:=hfl;refine h3 g e1 fun v u F' H' s pv pu=>⟨F',xy.1,xy.2,.val (.bl t),s.gs.sub,pv,pu,by unfold lY;rw[e2];rfl,fun w F2 H2 x rn=>?_⟩;have s2:=s.trans (x.stp s.gs);have rn:Rep X.K F2 w (.bl t):=rn;rw[Rep]at rn;subst rn;refine⟨t,rfl,?_⟩;cases t with|false=>rw[if_neg Bool.false_ne_true]at e ⊢;cases e;exact k _ F2 H2 s2 (show Rep X.K F2 _ _ from dC _)|true=>
   rw[if_pos rfl]at e ⊢;obtain⟨z,ρ3,e3,e⟩:=aa e;obtain⟨e4,e5⟩:=aF e;subst e5;refine h5 s2.gs e3 fun w F3 H3 s3 pw=>⟨F3,xy.2,z,r,s3.gs.sub,?_,pw,e4,fun w' F4 H4 x4 rn=>?_⟩
   . have x1:=x.fs;have x2:=s3.cG;rcases pu with pu|⟨_,_,_,_,_,_,h⟩;.exact .inl ((pu.mono x1).mono x2)
     .rw[h]at hfl;cases hfl
   .have s4:=s2.trans s3;exact k w' F4 H4 (s4.trans (x4.stp s4.gs)) (.later s4 (rn.nG s4.gs))
end
end HH
end
section
namespace PySem
namespace F
theorem Ew:typeLookup (.type "list_reverseiterator") "__len__"=pure none:=by rw[typeLookup_type,builtinLookup_eq_fast];kernel_rfl
theorem Kl:typeLookup (.type "list_reverseiterator") "__length_hint__"=pure (some (.builtin "list_reverseiterator.__length_hint__")):=by rw[typeLookup_type,builtinLookup_eq_fast];kernel_rfl
end F
section
variable{prog:Program}{w:World}{A:Around}{E:Value->Shared->Prop}{s:Shared}
theorem nu{it l:Addr}{items:Array Value}{Q:Bool->Shared->Prop}(hit:s.heap.IsRevIter it l ((items.size:Int)-1))(hl:s.heap.IsList l items)(hlen:items.size<=2^24)(h:∀b tk,s.toks<=tk->Q b {s with toks:=tk}):wpAny (model prog w) A (listLengthHint (.ref it)) Q E s:=by
 have hT:=hit.typeIs;unfold listLengthHint;refine wpAny_bind (wpAny_specialOf hT F.Ew ?_);show wpAny _ _ (specialOf (Value.ref it) (Str.ofString "__length_hint__")>>=_) _ _ _;refine wpAny_bind (wpAny_specialOf hT F.Kl ?_);generalize hid:("list_reverseiterator.__length_hint__":String)=id0;(fail_if_success(clear hid id0));wp_delta;rw[show splitId id0=some ("list_reverseiterator","__length_hint__")from by subst hid;decide+kernel];subst hid;refine wpAny_bind (wpAny_isInstance (b:=true) hT (by rw[isSubtype_type];kernel_rfl) ?_);rw[if_neg (by decide)];dsimp only;split;.refine wpAny_ite_split (fun hab=>absurd hab (by decide+kernel)) (fun _=>?_);exact wpAny_pure (h _ s.toks (le_refl _))
 .rename_i hq;exact absurd (by decide+kernel) hq
theorem lA{R:Result->Shared->Prop}{I l:Addr}{items:Array Value}(hh:A.handled=none)(hit:s.heap.IsRevIter I l ((items.size:Int)-1))(hl:s.heap.IsList l items)(hne:l≠I)(hlen:items.size<=2^24)(S:Addr)(hSI:S≠I)(hSl:S≠l)(res:Value)(c₀:Nat)(hS:s.heap.get? S=some {cls:=.type "list",data:=.seq #[] c₀})(hR:∀ h' tk acc' c',(∀ b o,b ≠ S->b ≠ I->s.heap.get? b=some o->h'.get? b=some o)->h'.get? S=some {cls:=.type "list",dict:=none,data:=.seq acc' c',slots:=#[]}->ItemsOf (fun i v=>items[items.size-1-i]?=some v) acc' items.size->R (.ok (.ret res)) {s with heap:=h',toks:=tk}):wpAny (model prog w) A.in1 (listExtendWith (.ref S) (.ref I) res) (fun fin s'=>match fin with|.done f=>R (.ok f) s'|.again c'=>c'.quiet=true/\codeAny (model prog w) A c' R s') (fun e s'=>R (.error e) s') s:=by
 have hSf:S∉[I,l]:=fun hm=>by
  rcases mem_cons.mp hm with e|hm;.exact hSI e
  .exact hSl (mem_singleton.mp hm)
 have W:=(Walks.listRev (prog:=prog) (w:=w) (A:=A.in1) hh I l hne items).toS;have hT:s.TypeIs (.ref I) "list_reverseiterator":=hit.typeIs;have key:∀(h:Heap)(c₁ tk:Nat),h.IsRevIter I l ((items.size:Int)-1-((0:Nat):Int))->h.IsList l items->(∀b o,b≠S->s.heap.get? b=some o->h.get? b=some o)->h.get? S=some {cls:=.type "list",data:=.seq #[] c₁}->codeAny (model prog w) A (.builtin "list.extend.loop" ⟨[.ref S,.ref I,res],[]⟩) R {s with heap:=h,toks:=tk}:=by
  intro h c₁ tk hi hl' hk hS₁;refine codeAny_extend_loopS W (by rw[sizeLine_eq];omega) S hSf res items.size 0 _ #[] c₁ rfl (zero_le _) ⟨zero_le _,hi,hl'⟩ hS₁ (ItemsOf.nil _) fun s' acc' c' hm hS' hacc=>?_;rw[Moved.eq_with hm];refine hR s'.heap s'.toks acc' c' (fun b o hb hbI e=>hm.heap b o (fun hmem=>?_) (hk b o hb e)) hS' hacc;rcases mem_cons.mp hmem with e'|hmem;.exact hb e'
  .exact hbI (mem_singleton.mp hmem)
 unfold listExtendWith;refine wpAny_bind (wpAny_typeOf hT ?_);have h1:listSameRef (.ref S) (.ref I)=false:=by simp[listSameRef,hSI]
 have h2:(Value.type "list_reverseiterator"==Value.type "list")=false:=by decide
 have h3:(Value.type "list_reverseiterator"==Value.type "tuple")=false:=by decide
 simp only[h1,h2,h3,Bool.or_false,false_eq_true,if_false];refine wpAny_bind (wpAny_pyIter_revIter hit ?_);refine wpAny_bind (wpAny_holding (nu hit hl hlen fun bb tk htk=>?_));have hi0:s.heap.IsRevIter I l ((items.size:Int)-1-((0:Nat):Int)):=by simpa using hit
 refine wpAny_ite_split (fun _=>?_) (fun _=>wpAny_pure ⟨plainId_quiet F.plain_extend_loop _,key _ c₀ _ hi0 hl (fun b o _ e=>e) hS⟩);refine wpAny_bind (wpAny_rule ?_);refine wpAny_bind ?_;show wpAny _ _ (updateSeq S (·.push .none)>>=fun _=>updateSeq S (·.pop)) _ _ _;refine wpAny_bind (wpAny_updateSeq hS rfl ?_);have hS₂:=get?_update_self (Obj.mapSeq (·.push Value.none)) hS rfl;refine wpAny_updateSeq (hz:=by seq_fits) hS₂ rfl ?_;have hS₃:=get?_update_self (Obj.mapSeq (·.pop)) hS₂ rfl;have oth:∀b o,b≠S->s.heap.get? b=some o->((s.heap.update S (Obj.mapSeq (·.push Value.none))).update S (Obj.mapSeq (·.pop))).get? b=some o:=fun b o hb e=>(get?_update_other _ _ (Ne.symm hb)).trans ((get?_update_other _ _ (Ne.symm hb)).trans e);exact wpAny_pure ⟨plainId_quiet F.plain_extend_loop _,key _ _ _ (hi0.at fun o e=>oth I o (Ne.symm hSI) e) (hl.at fun o e=>oth l o (Ne.symm hSl) e) oth hS₃⟩
end
end PySem
namespace L2
open PySem PySem.Spec PyProof.Rows
end L2
namespace HH
open PySem L2 PySem.Spec PyProof.Rows
end HH
end
section
namespace HH
open PySem
theorem kj:∀a b:List Int,aW a b=true->aW b a=false
 |[],[],h=>by simp[aW]at h|[],_::_,_=>by simp[aW]|_::_,[],h=>by simp[aW]at h|x::a,y::b,h=>by
   simp only[aW,or_eq_true,decide_eq_true_eq,and_eq_true]at h;simp only[aW,Bool.or_eq_false_iff,decide_eq_false_iff_not,Bool.and_eq_false_iff];rcases h with h|⟨h,h'⟩;.exact⟨by omega,.inl (by omega)⟩
   .exact⟨by omega,.inr (kj a b h')⟩
theorem yR:∀a b c:List Int,aW b a=false->aW c b=false->aW c a=false
 |[],_,c,_,_=>by cases c<;>simp[aW]|_::_,[],_,h,_=>by simp[aW]at h|_::_,_::_,[],_,h=>by simp[aW]at h|x::a,y::b,z::c,h1,h2=>by
   simp only[aW,Bool.or_eq_false_iff,decide_eq_false_iff_not,Bool.and_eq_false_iff]at h1 h2 ⊢;refine⟨by omega,?_⟩;by_cases e:z=x;.right;exact yR a b c (h1.2.resolve_left (by omega)) (h2.2.resolve_left (by omega))
   .exact .inl e
theorem vC:∀a b:List Int,aW a b=false->aW b a=false->a=b
 |[],[],_,_=>rfl|[],_::_,h,_=>by simp[aW]at h|_::_,[],_,h=>by simp[aW]at h|x::a,y::b,h1,h2=>by
   simp only[aW,Bool.or_eq_false_iff,decide_eq_false_iff_not,Bool.and_eq_false_iff]at h1 h2;have e:x=y:=by omega
   subst e;rw[vC a b (h1.2.resolve_left (by simp)) (h2.2.resolve_left (by simp))]
theorem vI:∀{xs ys:List D},xs.all dY=true->ys.all dY=true->xs.map iK=ys.map iK->xs=ys
 |[],[],_,_,_=>rfl|[],_::_,_,_,h=>by simp at h|_::_,[],_,_,h=>by simp at h|x::xs,y::ys,h1,h2,h=>by
   simp only[all_cons,and_eq_true]at h1 h2;simp only[map_cons,List.cons.injEq]at h;obtain⟨i,rfl⟩:∃i,x=.int i:=by cases x<;>first|exact⟨_,rfl⟩|(have q:=h1.1;simp[dY]at q;done)
   obtain⟨j,rfl⟩:∃j,y=.int j:=by cases y<;>first|exact⟨_,rfl⟩|(have q:=h2.1;simp[dY]at q;done)
   rw[vI h1.2 h2.2 h.2,show i=j from h.1]
theorem Aw{x y:D}(h:(dY x=true/\dY y=true)\/(oY x=true/\oY y=true))(e:bD x=bD y):x=y:=by
 rcases h with⟨h1,h2⟩|⟨h1,h2⟩
 . cases x<;>first|(simp[dY]at h1;done)|skip
   cases y<;>first|(simp[dY]at h2;done)|skip
   simpa[bD]using e
 . cases x<;>first|(simp[oY]at h1;done)|skip
   cases y<;>first|(simp[oY]at h2;done)|skip
   rename_i xs ys;cases xs<;>first|(simp[oY]at h1;done)|skip
   cases ys<;>first|(simp[oY]at h2;done)|skip
   rw[vI h1 h2 e]
noncomputable def j8(a b:D):Bool:=!aW (bD b) (bD a)
theorem kI(ds:List D):(nJ ds).Perm ds:=List.mergeSort_perm ..
theorem Jh(a b c:D)(h1:j8 a b=true)(h2:j8 b c=true):j8 a c=true:=by simp only[j8,not_eq_true']at*;exact yR _ _ _ h1 h2
theorem DQ(a b:D):(j8 a b||j8 b a)=true:=by simp only[j8,or_eq_true,not_eq_true'];cases h:aW (bD b) (bD a)with|false=>exact .inl rfl|true=>exact .inr (kj _ _ h)
theorem oJ(ds:List D):(nJ ds).Pairwise fun a b=>j8 a b=true:=List.pairwise_mergeSort Jh DQ ds
theorem sr{ds:List D}(h:sortable ds=true):∀x∈ds,∀y∈ds,bD x=bD y->x=y:=by
 simp only[sortable,and_eq_true,or_eq_true,all_eq_true]at h;intro x hx y hy e;rcases h.2 with h|h;.exact Aw (.inl ⟨h x hx,h y hy⟩) e
 .exact Aw (.inr ⟨h x hx,h y hy⟩) e
theorem uX{ds l:List D}(h:sortable ds=true)(p:l.Perm ds)(s:l.Pairwise fun a b=>j8 a b=true):l=nJ ds:=by refine List.Perm.eq_of_pairwise (le:=fun a b=>j8 a b=true) (fun a b ha hb h1 h2=>?_) s (oJ ds) (p.trans (kI ds).symm);simp only[j8,not_eq_true']at h1 h2;exact sr h a (p.mem_iff.mp ha) b ((kI ds).mem_iff.mp hb) (vC _ _ h2 h1)
end HH
end
section
namespace HH
open PySem PyProof.Rows
noncomputable abbrev SM:=StateT SortSt Sem
noncomputable def gal:Bool->Keyed->Array Keyed->Nat->Nat->Nat->SM (Option Nat):=sortPriv%PySem.Builtin.gallop
noncomputable def RK(l:Bool)(k:Keyed)(xs:Array Keyed)(b i:Nat):SM (Option Bool):=elem' xs (b+i)>>=fun x=>if l=true then lt' x k else lt' k x>>=fun o=>pure (o.map fun x=>!x)
noncomputable def Ht(l:Bool)(k:Keyed)(xs:Array Keyed)(b n lo hi:Nat):SM (Option Nat):=(forIn [0:n] ((none,lo,hi):Option (Option Nat)× Nat × Nat) fun _ c=>if c.2.1 ≥ c.2.2 then pure (.done (none,c.2.1,c.2.2))else RK l k xs b (c.2.1+(c.2.2-c.2.1)/2)>>=fun o=>match o with|some m=>if m=true then pure (.yield (none,c.2.1+(c.2.2-c.2.1)/2+1,c.2.2))else pure (.yield (none,c.2.1,c.2.1+(c.2.2-c.2.1)/2))|_=>pure (.done (some none,c.2.1,c.2.2)))>>=fun c=>match c.1 with|some r=>pure r|none=>pure (some c.2.2)
theorem Ow(l:Bool)(k:Keyed)(xs:Array Keyed)(b n h:Nat):gal l k xs b n h=RK l k xs b h>>=fun o=>match o with
 |some r=>if r=true then(forIn [0:n] ((none,0,1):Option (Option Nat)× Nat × Nat) fun _ c=>if c.2.2 ≥ n-h then pure (.done (none,c.2.1,c.2.2))else RK l k xs b (h+c.2.2)>>=fun o=>match o with|some m=>if(!m)=true then pure (.done (none,c.2.1,c.2.2))else pure (.yield (none,c.2.2,2*c.2.2+1))|_=>pure (.done (some none,c.2.1,c.2.2)))>>=fun c=>match c.1 with|some r=>pure r|none=>Ht l k xs b n (h+c.2.1+1) (h+min c.2.2 (n-h))else(forIn [0:n] ((none,0,1):Option (Option Nat)× Nat × Nat) fun _ c=>if c.2.2 ≥ h+1 then pure (.done (none,c.2.1,c.2.2))else RK l k xs b (h-c.2.2)>>=fun o=>match o with|some m=>if m=true then pure (.done (none,c.2.1,c.2.2))else pure (.yield (none,c.2.2,2*c.2.2+1))|_=>pure (.done (some none,c.2.1,c.2.2)))>>=fun c=>match c.1 with|some r=>pure r|none=>Ht l k xs b n (h+1-min c.2.2 (h+1)) (h-c.2.1)
 |_=>pure none:=by unfold Ht;show RK l k xs b h>>=_=_;congr 1;funext o;cases o with|none=>rfl|some r=>dsimp only;cases r with
   |true=>simp only[if_true];congr 1;funext c;obtain⟨c1,c2,c3⟩:=c;cases c1 with|some r=>rfl|none=>dsimp only;congr 1;funext c;obtain⟨c1,c2,c3⟩:=c;cases c1<;>rfl
   |false=>simp only[false_eq_true,if_false];congr 1;funext c;obtain⟨c1,c2,c3⟩:=c;cases c1 with|some r=>rfl|none=>dsimp only;congr 1;funext c;obtain⟨c1,c2,c3⟩:=c;cases c1<;>rfl
structure Rk(M:Model)(A:Around)(E:Value->Shared->Prop)(s:Shared)(κ:SortKind)(ok:Keyed->Prop)(K:Keyed->Int):Prop where lt:∀{x y:Keyed}{Q:Option Bool->SortSt->Prop}{st:SortSt},ok x->ok y->kindOf st=κ->Q (some (decide (K x<K y))) st->wpS M A E s (lt' x y) Q st
section
variable{M:Model}{A:Around}{E:Value->Shared->Prop}{s:Shared}{κ:SortKind}{ok:Keyed->Prop}{K:Keyed->Int}
noncomputable def it(xs:Array Keyed)(i:Nat):Keyed:=xs.getD i (Value.none,Value.none)
theorem tZ{xs:Array Keyed}{i:Nat}(h:i<xs.size):xs[i]?=some (it xs i):=by unfold it;simp[Array.getD,h]
theorem cQ{xs:Array Keyed}{i:Nat}(h:i<xs.size):it xs i∈xs.toList:=by
 have:it xs i=xs[i]:=by unfold it;simp[Array.getD,h]
 rw[this];simp
theorem aZ{xs:Array Keyed}{i:Nat}{Q:Keyed->SortSt->Prop}{st:SortSt}(h:i<xs.size)(q:Q (it xs i) st):wpS M A E s (elem' xs i) Q st:=by rw[elem'_eq,tZ h];exact wpS_pure q
noncomputable def bb(K:Keyed->Int)(l:Bool)(k x:Keyed):Bool:=if l=true then decide (K x<K k)else !decide (K k<K x)
theorem tH(R:Rk M A E s κ ok K){l:Bool}{k:Keyed}{xs:Array Keyed}{b i:Nat}{Q:Option Bool->SortSt->Prop}{st:SortSt}(hk:ok k)(hx:∀x∈xs.toList,ok x)(hi:b+i<xs.size)(hs:kindOf st=κ)(q:Q (some (bb K l k (it xs (b+i)))) st):wpS M A E s (RK l k xs b i) Q st:=by unfold RK;refine wpS_bind (aZ hi ?_);have ho:=hx _ (cQ hi);cases l with|true=>exact R.lt ho hk hs q|false=>exact wpS_bind (R.lt hk ho hs (wpS_pure q))
def J2(K:Keyed->Int)(l:Bool)(k:Keyed)(xs:Array Keyed)(b n:Nat):Prop:=∀i j,i<=j->j<n->bb K l k (it xs (b+j))=true->bb K l k (it xs (b+i))=true
theorem zu(R:Rk M A E s κ ok K){l:Bool}{k:Keyed}{xs:Array Keyed}{b n lo hi:Nat}{Q:Option Nat->SortSt->Prop}{st:SortSt}(hk:ok k)(hx:∀x∈xs.toList,ok x)(hb:b+n<=xs.size)(hs:kindOf st=κ)(hc:J2 K l k xs b n)(h1:lo<=hi)(h2:hi<=n)(h3:∀i,i<lo->bb K l k (it xs (b+i))=true)(h4:∀i,hi<=i->i<n->bb K l k (it xs (b+i))=false)(q:∀m,m<=n->(∀i,i<m->bb K l k (it xs (b+i))=true)->(∀i,m<=i->i<n->bb K l k (it xs (b+i))=false)->Q (some m) st):wpS M A E s (Ht l k xs b n lo hi) Q st:=by
 unfold Ht;refine wpS_bind (wpS_mono (wpS_forRange (I:=fun x c st'=>st'=st/\∃lo hi,c=(none,lo,hi)/\lo<=hi/\hi<=n/\hi-lo<=n-x/\(∀i,i<lo->bb K l k (it xs (b+i))=true)/\∀i,hi<=i->i<n->bb K l k (it xs (b+i))=false) (Q:=fun c st'=>st'=st/\∃m,c=(none,m,m)/\m<=n/\(∀i,i<m->bb K l k (it xs (b+i))=true)/\∀i,m<=i->i<n->bb K l k (it xs (b+i))=false) ?_ ?_ ⟨rfl,lo,hi,rfl,h1,h2,by omega,h3,h4⟩) ?_)
 . rintro x c st' _ hxn⟨rfl,lo,hi,rfl,a1,a2,a3,a4,a5⟩;dsimp only;by_cases e:lo ≥ hi
   . rw[if_pos e];have:lo=hi:=by omega
     subst this;exact wpS_pure ⟨rfl,lo,rfl,a2,a4,a5⟩
   .rw[if_neg e];refine wpS_bind (tH R hk hx (by omega) hs ?_);cases c:bb K l k (it xs (b+(lo+(hi-lo)/2)))with|true=>dsimp only;rw[if_pos rfl];exact wpS_pure ⟨rfl,_,_,rfl,by omega,a2,by omega,fun i hi'=>hc i (lo+(hi-lo)/2) (by omega) (by omega) c,a5⟩|false=>dsimp only;rw[if_neg (by simp)];refine wpS_pure ⟨rfl,_,_,rfl,by omega,by omega,by omega,a4,fun i i1 i2=>?_⟩;cases z:bb K l k (it xs (b+i))with|false=>rfl|true=>have:=hc (lo+(hi-lo)/2) i i1 i2 z;rw[c]at this;cases this
 . rintro c st'⟨rfl,lo,hi,rfl,a1,a2,a3,a4,a5⟩;have:lo=hi:=by omega
   subst this;exact⟨rfl,lo,rfl,a2,a4,a5⟩
 .rintro c st'⟨rfl,m,rfl,a1,a2,a3⟩;exact wpS_pure (q m a1 a2 a3)
theorem mC(R:Rk M A E s κ ok K){l:Bool}{k:Keyed}{xs:Array Keyed}{b n h:Nat}{Q:Option Nat->SortSt->Prop}{st:SortSt}(hk:ok k)(hx:∀x∈xs.toList,ok x)(hb:b+n<=xs.size)(hh:h<n)(hs:kindOf st=κ)(hc:J2 K l k xs b n)(q:∀m,m<=n->(∀i,i<m->bb K l k (it xs (b+i))=true)->(∀i,m<=i->i<n->bb K l k (it xs (b+i))=false)->Q (some m) st):wpS M A E s (gal l k xs b n h) Q st:=by
 have up:∀{i:Nat},i<n->bb K l k (it xs (b+i))=true->∀j,j<=i->bb K l k (it xs (b+j))=true:=fun hi c j hj=>hc _ _ hj hi c;have dn:∀{i:Nat},bb K l k (it xs (b+i))=false->∀j,i<=j->j<n->bb K l k (it xs (b+j))=false:=fun{i}c j h1 h2=>by cases z:bb K l k (it xs (b+j))with|false=>rfl|true=>have:=hc i j h1 h2 z;rw[c]at this;cases this
 rw[Ow];refine wpS_bind (tH R hk hx (by omega) hs ?_);cases c0:bb K l k (it xs (b+h))with
 |true=>
   dsimp only;rw[if_pos rfl];refine wpS_bind (wpS_mono (wpS_forRange (I:=fun x c st'=>st'=st/\∃a o,c=(none,a,o)/\x+1<=o/\a<o/\h+a<n/\bb K l k (it xs (b+(h+a)))=true) (Q:=fun c st'=>st'=st/\∃a o,c=(none,a,o)/\a<o/\h+a<n/\bb K l k (it xs (b+(h+a)))=true/\(n-h<=o\/o<n-h/\bb K l k (it xs (b+(h+o)))=false)) ?_ ?_ ⟨rfl,0,1,rfl,by omega,by omega,by omega,by simpa using c0⟩) ?_)
   . rintro x c st' _ hxn⟨rfl,a,o,rfl,a1,a2,a3,a4⟩;dsimp only;by_cases e:o ≥ n-h;.rw[if_pos e];exact wpS_pure ⟨rfl,a,o,rfl,a2,a3,a4,.inl e⟩
     .rw[if_neg e];refine wpS_bind (tH R hk hx (by omega) hs ?_);cases c:bb K l k (it xs (b+(h+o)))with|true=>dsimp only;rw[if_neg (by simp)];exact wpS_pure ⟨rfl,_,_,rfl,by omega,by omega,by omega,c⟩|false=>dsimp only;rw[if_pos (by simp)];exact wpS_pure ⟨rfl,a,o,rfl,a2,a3,a4,.inr ⟨by omega,c⟩⟩
   .rintro c st'⟨rfl,a,o,rfl,a1,a2,a3,a4⟩;exact⟨rfl,a,o,rfl,a2,a3,a4,.inl (by omega)⟩
   . rintro c st'⟨rfl,a,o,rfl,a2,a3,a4,a5⟩;dsimp only;refine zu R hk hx hb hs hc (by omega) (by omega) (fun i hi=>up a3 a4 i (by omega)) (fun i h1 h2=>?_) q;rcases a5 with z|⟨z1,z2⟩;.omega
     .exact dn z2 i (by omega) h2|false=>
   dsimp only;rw[if_neg (by simp)];refine wpS_bind (wpS_mono (wpS_forRange (I:=fun x c st'=>st'=st/\∃a o,c=(none,a,o)/\x+1<=o/\a<o/\a<=h/\bb K l k (it xs (b+(h-a)))=false) (Q:=fun c st'=>st'=st/\∃a o,c=(none,a,o)/\a<o/\a<=h/\bb K l k (it xs (b+(h-a)))=false/\(h+1<=o\/o<h+1/\bb K l k (it xs (b+(h-o)))=true)) ?_ ?_ ⟨rfl,0,1,rfl,by omega,by omega,by omega,by simpa using c0⟩) ?_)
   . rintro x c st' _ hxn⟨rfl,a,o,rfl,a1,a2,a3,a4⟩;dsimp only;by_cases e:o ≥ h+1;.rw[if_pos e];exact wpS_pure ⟨rfl,a,o,rfl,a2,a3,a4,.inl e⟩
     .rw[if_neg e];refine wpS_bind (tH R hk hx (by omega) hs ?_);cases c:bb K l k (it xs (b+(h-o)))with|false=>dsimp only;rw[if_neg (by simp)];exact wpS_pure ⟨rfl,_,_,rfl,by omega,by omega,by omega,c⟩|true=>dsimp only;rw[if_pos rfl];exact wpS_pure ⟨rfl,a,o,rfl,a2,a3,a4,.inr ⟨by omega,c⟩⟩
   .rintro c st'⟨rfl,a,o,rfl,a1,a2,a3,a4⟩;exact⟨rfl,a,o,rfl,a2,a3,a4,.inl (by omega)⟩
   . rintro c st'⟨rfl,a,o,rfl,a2,a3,a4,a5⟩;dsimp only;refine zu R hk hx hb hs hc (by omega) (by omega) (fun i hi=>?_) (fun i h1 h2=>dn a4 i (by omega) h2) q;rcases a5 with z|⟨z1,z2⟩;.omega
     .exact up (by omega) z2 i (by omega)
end
section
variable{K:Keyed->Int}{T out A B P:List Keyed}{x y z:Keyed}
def SL(K:Keyed->Int)(l:List Keyed):Prop:=l.Pairwise fun x y=>K x<=K y
theorem cA{l k:List Keyed}:SL K (l++k)↔SL K l/\SL K k/\∀x∈l,∀y∈k,K x<=K y:=List.pairwise_append
structure MW(K:Keyed->Int)(T out A B:List Keyed):Prop where
 perm:(out++(A++B)).Perm T
 sa:SL K (out++A)sb:SL K (out++B)
theorem MW.V3(w:MW K T out (P++A) B)(h:∀x∈P,∀y∈B,K x<=K y):MW K T (out++P) A B:=by
 refine⟨by simpa using w.perm,by simpa using w.sa,?_⟩;have h1:=cA.mp w.sb;have h2:=cA.mp (show SL K ((out++P)++A)by simpa using w.sa);refine cA.mpr ⟨h2.1,h1.2.1,fun x hx y hy=>?_⟩;rcases mem_append.mp hx with hx|hx;.exact h1.2.2 x hx y hy
 .exact h x hx y hy
theorem MW.VD(w:MW K T out A (P++B))(h:∀x∈P,∀y∈A,K x<=K y):MW K T (out++P) A B:=by
 have h1:=cA.mp w.sa;have h2:=cA.mp (show SL K ((out++P)++B)by simpa using w.sb);refine⟨?_,cA.mpr ⟨h2.1,h1.2.1,fun x hx y hy=>?_⟩,by simpa using w.sb⟩;.refine List.Perm.trans ?_ w.perm;rw[append_assoc];refine List.Perm.append_left out ?_;rw[<-append_assoc,<-append_assoc];exact List.perm_append_comm.append_right B
 . rcases mem_append.mp hx with hx|hx;.exact h1.2.2 x hx y hy
   .exact h x hx y hy
theorem MW.abo(w:MW K T out A []):(out++A).Perm T/\SL K (out++A):=⟨by simpa using w.perm,w.sa⟩
theorem MW.aa1(w:MW K T out [] B):(out++B).Perm T/\SL K (out++B):=⟨by simpa using w.perm,w.sb⟩
theorem MW.last(w:MW K T out [z] B)(h:∀y∈B,K y<=K z):(out++B++[z]).Perm T/\SL K (out++B++[z]):=by
 refine⟨?_,cA.mpr ⟨w.sb,List.pairwise_singleton _ _,fun x hx y hy=>?_⟩⟩;.refine List.Perm.trans ?_ w.perm;rw[append_assoc];exact List.Perm.append_left out List.perm_append_comm
 . rw[mem_singleton.mp hy];rcases mem_append.mp hx with hx|hx;.exact(cA.mp w.sa).2.2 x hx z (by simp)
   .exact h x hx
theorem ur{a:Array Keyed}{i:Nat}(h:i<a.size):a.toList.drop i=it a i::a.toList.drop (i+1):=by
 have e:it a i=a.toList[i]:=by unfold it;simp[Array.getD,h]
 rw[e];exact drop_eq_getElem_cons (by simpa using h)
theorem iU{a:Array Keyed}{i j:Nat}(h:j<=a.size):(a.extract i j).toList=(a.toList.drop i).take (j-i):=by simp[Array.toList_extract,List.extract]
theorem jj{a:Array Keyed}{i:Nat}:(a.extract i a.size).toList=a.toList.drop i:=by rw[iU (le_refl _)];exact take_of_length_le (by simp)
theorem jK{a:Array Keyed}{i k:Nat}(h:i+k<=a.size):a.toList.drop i=(a.extract i (i+k)).toList++a.toList.drop (i+k):=by rw[iU h,Nat.add_sub_cancel_left];rw[show a.toList.drop (i+k)=(a.toList.drop i).drop k by rw[List.drop_drop]];exact(List.take_append_drop k _).symm
theorem ext_mem{a:Array Keyed}{i k:Nat}{x:Keyed}(h:i+k<=a.size)(hx:x∈(a.extract i (i+k)).toList):∃j,j<k/\x=it a (i+j):=by rw[iU h,Nat.add_sub_cancel_left]at hx;obtain⟨j,hj,e⟩:=List.mem_iff_getElem.mp hx;simp only[length_take,length_drop,length_toList]at hj;refine⟨j,by omega,?_⟩;rw[<-e];unfold it;simp[Array.getD,show i+j<a.size by omega]
theorem iJ{a:Array Keyed}{i:Nat}{x:Keyed}(hx:x∈a.toList.drop i):∃j,i<=j/\j<a.size/\x=it a j:=by obtain⟨j,hj,e⟩:=List.mem_iff_getElem.mp hx;simp only[length_drop,length_toList]at hj;refine⟨i+j,by omega,by omega,?_⟩;rw[<-e];unfold it;simp[Array.getD,show i+j<a.size by omega]
def uJ(K:Keyed->Int)(a:Array Keyed):Prop:=∀i j,i<=j->j<a.size->K (it a i)<=K (it a j)
theorem pL{a:Array Keyed}(h:uJ K a):SL K a.toList:=by
 unfold SL;rw[List.pairwise_iff_getElem];intro i j hi hj hij;have:=h i j (by omega) (by simpa using hj);have hi':i<a.size:=by simpa using hi
 have hj':j<a.size:=by simpa using hj
 unfold it at this;simpa[Array.getD,hi',hj']using this
end
section
variable{M:Model}{A:Around}{E:Value->Shared->Prop}{s:Shared}{κ:SortKind}{ok:Keyed->Prop}{K:Keyed->Int}
structure qj(st st':SortSt):Prop where
 kind:kindOf st'=kindOf st
 arr:arrOf st'=arrOf st
 pend:pendingOf st'=pendingOf st
 fail:failedOf st'=failedOf st
theorem qj.refl(st:SortSt):qj st st:=⟨rfl,rfl,rfl,rfl⟩
theorem qj.trans{a b c:SortSt}(h:qj a b)(k:qj b c):qj a c:=⟨k.kind.trans h.kind,k.arr.trans h.arr,k.pend.trans h.pend,k.fail.trans h.fail⟩
noncomputable def setG:Nat->SM Unit:=sortPriv%PySem.Builtin.setMinGallop
theorem n8{g:Nat}{Q:Unit->SortSt->Prop}{st:SortSt}(q:∀st',qj st st'->Q () st'):wpS M A E s (setG g) Q st:=wpS_modify (q _ ⟨rfl,rfl,rfl,rfl⟩)
theorem wp_rule{x:String}{Q:Unit->SortSt->Prop}{st:SortSt}(q:Q () st):wpS M A E s (liftM (rule x):SM Unit) Q st:=wpS_lift (wpAny_rule ⟨rfl,q⟩)
noncomputable def mlo:Array Keyed->Array Keyed->SM (Array Keyed):=sortPriv%PySem.Builtin.mergeLo
structure MI(K:Keyed->Int)(a b out:Array Keyed)(ia ib:Nat):Prop where
 i1:ia+1<a.size
 i2:ib<b.size
 w:MW K (a.toList++b.toList) out.toList (a.toList.drop ia) (b.toList.drop ib)
structure Fin(K:Keyed->Int)(a b out:Array Keyed):Prop where perm:out.toList.Perm (a.toList++b.toList)nJ:SL K out.toList
theorem jt{a b out:Array Keyed}{ia ib:Nat}(h:ib=b.size)(w:MW K (a.toList++b.toList) out.toList (a.toList.drop ia) (b.toList.drop ib)):Fin K a b (out++a.extract ia a.size++b.extract ib b.size):=by
 have e:b.toList.drop ib=[]:=by rw[h];simp
 rw[e]at w;obtain⟨h1,h2⟩:=w.abo;refine⟨?_,?_⟩<;>rw[Array.toList_append,Array.toList_append,jj,jj,e,append_nil]<;>assumption
theorem Cr{a b out:Array Keyed}{ia ib:Nat}(h:ia=a.size)(w:MW K (a.toList++b.toList) out.toList (a.toList.drop ia) (b.toList.drop ib)):Fin K a b (out++a.extract ia a.size++b.extract ib b.size):=by
 have e:a.toList.drop ia=[]:=by rw[h];simp
 rw[e]at w;obtain⟨h1,h2⟩:=w.aa1;refine⟨?_,?_⟩<;>rw[Array.toList_append,Array.toList_append,jj,jj,e,append_nil]<;>assumption
theorem lF{a b out:Array Keyed}{ia ib:Nat}(h:ia+1=a.size)(hl:∀i,i<b.size->K (it b i)<=K (it a (a.size-1)))(w:MW K (a.toList++b.toList) out.toList (a.toList.drop ia) (b.toList.drop ib)):Fin K a b (out++b.extract ib b.size++a.extract ia a.size):=by
 have e:a.toList.drop ia=[it a ia]:=by rw[ur (by omega),h];simp
 rw[e]at w;obtain⟨h1,h2⟩:=w.last fun y hy=>by obtain⟨j,_,hj,rfl⟩:=iJ hy;rw[show ia=a.size-1 by omega];exact hl j hj
 refine⟨?_,?_⟩<;>rw[Array.toList_append,Array.toList_append,jj,jj,e]<;>assumption
theorem MW.rF{a b out:Array Keyed}{ia ib:Nat}(h:ia<a.size)(w:MW K (a.toList++b.toList) out.toList (a.toList.drop ia) (b.toList.drop ib))(hb:uJ K b)(hk:ib<b.size->K (it a ia)<=K (it b ib)):MW K (a.toList++b.toList) (out.push (it a ia)).toList (a.toList.drop (ia+1)) (b.toList.drop ib):=by rw[ur h]at w;rw[toList_push];refine MW.V3 (P:=[it a ia]) w fun x hx y hy=>?_;rw[mem_singleton.mp hx];obtain⟨j,j1,j2,rfl⟩:=iJ hy;exact Int.le_trans (hk (by omega)) (hb _ _ j1 j2)
theorem MW.qW{a b out:Array Keyed}{ia ib:Nat}(h:ib<b.size)(w:MW K (a.toList++b.toList) out.toList (a.toList.drop ia) (b.toList.drop ib))(ha:uJ K a)(hk:ia<a.size->K (it b ib)<=K (it a ia)):MW K (a.toList++b.toList) (out.push (it b ib)).toList (a.toList.drop ia) (b.toList.drop (ib+1)):=by rw[ur h]at w;rw[toList_push];refine MW.VD (P:=[it b ib]) w fun x hx y hy=>?_;rw[mem_singleton.mp hx];obtain⟨j,j1,j2,rfl⟩:=iJ hy;exact Int.le_trans (hk (by omega)) (ha _ _ j1 j2)
theorem MW.DP{a b out:Array Keyed}{ia ib k:Nat}(h:ia+k<=a.size)(w:MW K (a.toList++b.toList) out.toList (a.toList.drop ia) (b.toList.drop ib))(hb:uJ K b)(hk:∀j,j<k->ib<b.size->K (it a (ia+j))<=K (it b ib)):MW K (a.toList++b.toList) (out++a.extract ia (ia+k)).toList (a.toList.drop (ia+k)) (b.toList.drop ib):=by rw[jK h]at w;rw[Array.toList_append];refine MW.V3 w fun x hx y hy=>?_;obtain⟨i,hi,rfl⟩:=ext_mem h hx;obtain⟨j,j1,j2,rfl⟩:=iJ hy;exact Int.le_trans (hk i hi (by omega)) (hb _ _ j1 j2)
theorem MW.Fo{a b out:Array Keyed}{ia ib k:Nat}(h:ib+k<=b.size)(w:MW K (a.toList++b.toList) out.toList (a.toList.drop ia) (b.toList.drop ib))(ha:uJ K a)(hk:∀j,j<k->ia<a.size->K (it b (ib+j))<=K (it a ia)):MW K (a.toList++b.toList) (out++b.extract ib (ib+k)).toList (a.toList.drop ia) (b.toList.drop (ib+k)):=by rw[jK h]at w;rw[Array.toList_append];refine MW.VD w fun x hx y hy=>?_;obtain⟨i,hi,rfl⟩:=ext_mem h hx;obtain⟨j,j1,j2,rfl⟩:=iJ hy;exact Int.le_trans (hk i hi (by omega)) (ha _ _ j1 j2)
theorem tu{l:Bool}{k:Keyed}{a:Array Keyed}{b n:Nat}(h:uJ K a)(hn:b+n<=a.size):J2 K l k a b n:=fun i j hij hj c=>by have:=h (b+i) (b+j) (by omega) (by omega);unfold bb at*;cases l with|true=>simp only[if_true,decide_eq_true_eq]at*;omega|false=>simp only[false_eq_true,if_false,not_eq_true',decide_eq_false_iff_not]at*;omega
end
section
variable{M:Model}{A:Around}{E:Value->Shared->Prop}{s:Shared}{κ:SortKind}{ok:Keyed->Prop}{K:Keyed->Int}
theorem Er{α γ:Type}{T:PUnit->α->SM γ}{c:Prop}{d:Decidable c}{x y:α}{Q:γ->SortSt->Prop}{st:SortSt}(h:∀r u,wpS M A E s (T r u) Q st):wpS M A E s (@ite _ c d (T ⟨⟩ x) (T ⟨⟩ y)) Q st:=by split<;>exact h _ _
theorem nY{α β γ:Type}{T:PUnit->α->β->SM γ}{c:Prop}{d:Decidable c}{B:SM γ}{x:α}{y:β}{Q:γ->SortSt->Prop}{st:SortSt}(C:α->β->Prop)(h:∀r u v,C u v->wpS M A E s (T r u v) Q st)(hB:c->(∀r u v,C u v->wpS M A E s (T r u v) Q st)->wpS M A E s B Q st)(hx:¬ c->C x y):wpS M A E s (@ite _ c d B (T ⟨⟩ x y)) Q st:=by
 split;.exact hB ‹_› h
 .exact h _ _ _ (hx ‹_›)
abbrev MQ{γ:Type}(K:Keyed->Int)(a b:Array Keyed)(st:SortSt)(c:Option (Array Keyed)×γ)(st':SortSt):Prop:=qj st st'/\∃out,c.1=some out/\Fin K a b out
abbrev MI1(K:Keyed->Int)(a b:Array Keyed)(st:SortSt)(x:Nat)(c:Option (Array Keyed)×Array Keyed×Nat×Nat×Nat)(st':SortSt):Prop:=qj st st'/\∃out ia ib mg,c=(none,out,ia,ib,mg)/\MI K a b out ia ib/\x+1<=ia+ib
abbrev MI2(K:Keyed->Int)(a b:Array Keyed)(st:SortSt)(n y:Nat)(c:Option (Array Keyed)×Array Keyed×Nat×Nat×Nat×Nat)(st':SortSt):Prop:=qj st st'/\∃out jw gC ac bc,c=(none,out,jw,gC,ac,bc)/\MI K a b out jw gC/\n+y<=jw+gC
abbrev MI3(K:Keyed->Int)(a b:Array Keyed)(st:SortSt)(n:Nat)(c:Option (Array Keyed)×Array Keyed×Nat×Nat×Nat×Nat×Nat)(st':SortSt):Prop:=qj st st'/\∃out jw gC mg ac bc,c=(none,out,jw,gC,mg,ac,bc)/\MI K a b out jw gC/\n+1<=jw+gC
abbrev MQ2(K:Keyed->Int)(a b:Array Keyed)(st:SortSt)(n:Nat)(c:Option (Array Keyed)×Array Keyed×Nat×Nat×Nat×Nat)(st':SortSt):Prop:=qj st st'/\((∃out,c.1=some out/\Fin K a b out)\/∃out jw gC ac bc,c=(none,out,jw,gC,ac,bc)/\MI K a b out jw gC/\n+1<=jw+gC)
abbrev MQ3(K:Keyed->Int)(a b:Array Keyed)(st:SortSt)(n:Nat)(c:Option (Array Keyed)×Array Keyed×Nat×Nat×Nat×Nat×Nat)(st':SortSt):Prop:=qj st st'/\((∃out,c.1=some out/\Fin K a b out)\/∃out jw gC mg ac bc,c=(none,out,jw,gC,mg,ac,bc)/\MI K a b out jw gC/\n+1<=jw+gC)
set_option maxHeartbeats 1000000 in
theorem O9(R:Rk M A E s κ ok K){a b:Array Keyed}{Q:Array Keyed->SortSt->Prop}{st:SortSt}(ha:∀x∈a.toList,ok x)(hb:∀x∈b.toList,ok x)(hs:kindOf st=κ)(ua:uJ K a)(ub:uJ K b)(a1:1<=a.size)(b1:1<=b.size)(h0:K (it b 0)<=K (it a 0))(hl:∀i,i<b.size->K (it b i)<=K (it a (a.size-1)))(q:∀out st',Fin K a b out->qj st st'->Q out st'):wpS M A E s (mlo a b) Q st:=by
 show wpS M A E s (liftM (rule "list.sort.merge-lo")>>=_) Q st;refine wpS_bind (wp_rule ?_);extract_lets+onlyGivenNames-merge-underBinder x0 x1 x2;refine wpS_bind (aZ (by omega) ?_);extract_lets+onlyGivenNames-merge-underBinder x3 x4 x5;dsimp-zeta-zetaHave only[x0,x1,x2,x3,x4,x5];have w0:MW K (a.toList++b.toList) (#[]:Array Keyed).toList (a.toList.drop 0) (b.toList.drop 0):=⟨by simp,by simpa using pL ua,by simpa using pL ub⟩;have w1:=w0.qW (by omega) ua (fun _=>h0);rw[show(#[]:Array Keyed).push (it b 0)=#[it b 0]from rfl]at w1;by_cases c1:1=b.size;.rw[if_pos (by simpa using c1)];exact wpS_pure (q _ _ (jt c1 w1) (.refl _))
 rw[if_neg (by simpa using c1)];by_cases c2:0+1=a.size;.rw[if_pos (by simpa using c2)];exact wpS_pure (q _ _ (lF c2 hl w1) (.refl _))
 rw[if_neg (by simpa using c2)];refine wpS_bind (wpS_get ?_);extract_lets+onlyGivenNames-merge-underBinder x6;refine wpS_bind (wpS_mono (wpS_forRange (I:=MI1 K a b st) (Q:=MQ K a b st) ?_ ?_ ⟨.refl _,_,0,1,_,rfl,⟨by omega,by omega,w1⟩,by omega⟩) ?_)
 . rintro x c st1 _ hx⟨s1,out,ia,ib,mg,rfl,mi,hp⟩;extract_lets+onlyGivenNames-merge-underBinder y0 y1 y2 y3 y4 y5 y6 y7 y8;dsimp-zeta-zetaHave only[x0,x1,x2,x3,x4,x5,y0,y1,y2,y3,y4,y5,y6,y7,y8];refine wpS_bind (wpS_mono (wpS_forRange (I:=MI2 K a b st (ia+ib)) (Q:=MQ2 K a b st (ia+ib)) ?_ ?_ ⟨s1,out,ia,ib,0,0,rfl,mi,by omega⟩) ?_)
   . rintro y c st2 _ hy⟨s2,out,jw,gC,ac,bc,rfl,mi,hp'⟩;have i1:=mi.i1;have i2:=mi.i2;try dsimp only
     refine wpS_bind (aZ i2 (wpS_bind (aZ (by omega) (wpS_bind (R.lt (hb _ (cQ i2)) (ha _ (cQ (by omega))) (s2.kind.trans hs) ?_)))));by_cases c:K (it b gC)<K (it a jw)
     . rw[decide_eq_true c];try dsimp only
       rw[if_pos rfl];refine wpS_bind (aZ i2 ?_);try dsimp only
       have w:=mi.w.qW i2 ua (fun _=>by omega);by_cases e:gC+1=b.size;.rw[if_pos (by simpa using e)];exact wpS_pure ⟨s2,.inl ⟨_,rfl,jt e w⟩⟩
       . rw[if_neg (by simpa using e)];have wZ:MI K a b (out.push (it b gC)) jw (gC+1):=⟨i1,by omega,w⟩;split;.exact wpS_pure ⟨s2,.inr ⟨_,_,_,_,_,rfl,wZ,by omega⟩⟩
         .exact wpS_pure ⟨s2,_,_,_,_,_,rfl,wZ,by omega⟩
     . rw[decide_eq_false c];try dsimp only
       rw[if_neg (by simp)];refine wpS_bind (aZ (by omega) ?_);try dsimp only
       have w:=mi.w.rF (by omega) ub (fun _=>by omega);by_cases e:jw+1+1=a.size;.rw[if_pos (by simpa using e)];exact wpS_pure ⟨s2,.inl ⟨_,rfl,lF e hl w⟩⟩
       . rw[if_neg (by simpa using e)];have wZ:MI K a b (out.push (it a jw)) (jw+1) gC:=⟨by omega,i2,w⟩;split;.exact wpS_pure ⟨s2,.inr ⟨_,_,_,_,_,rfl,wZ,by omega⟩⟩
         .exact wpS_pure ⟨s2,_,_,_,_,_,rfl,wZ,by omega⟩
   .rintro c st2⟨s2,out,jw,gC,ac,bc,rfl,mi,hp'⟩;exact⟨s2,.inr ⟨_,_,_,_,_,rfl,mi,by omega⟩⟩
   . rintro c st2⟨s2,⟨out,hc,hf⟩|⟨out,jw,gC,ac,bc,rfl,mi,hp'⟩⟩;.obtain⟨c1,c2,c3,c4,c5,c6⟩:=c;cases hc;exact wpS_pure ⟨s2,out,rfl,hf⟩
     . extract_lets+onlyGivenNames-merge-underBinder z0 z1 z2 z3 z4 z5 z6 z7 z8 z9;dsimp-zeta-zetaHave only[z0,z1,z2,z3,z4,z5,z6,z7,z8,z9];refine wpS_bind (wp_rule ?_);extract_lets+onlyGivenNames-merge-underBinder za;refine wpS_bind (wpS_mono (wpS_forRange (I:=fun _=>MI3 K a b st (ia+ib)) (Q:=MQ3 K a b st (ia+ib)) ?_ ?_ ⟨s2,out,jw,gC,_,ac,bc,rfl,mi,by omega⟩) ?_)
       . rintro y c st3 _ hy⟨s3,out,jw,gC,mg,ac,bc,rfl,mi,hp'⟩;have i1:=mi.i1;have i2:=mi.i2;extract_lets+onlyGivenNames-merge-underBinder t0 t1 t2 t3 t4 t5 t6 t7 t8 t9 ta jp;dsimp only[t0,t1,t2,t3,t4,t5,t6,t7,t8,t9,ta];refine Er (T:=jp) ?_;intro _ mg;dsimp-zeta-zetaHave only[jp,t0,t1,t2,t3,t4,t5,t6,t7,t8,t9,ta];refine wpS_bind (n8 fun Iz Tn=>?_);have s4:=s3.trans Tn;refine wpS_bind (aZ i2 ?_);refine wpS_bind (mC R (hb _ (cQ i2)) ha (by omega) (by omega) (s4.kind.trans hs) (tu ua (by omega)) fun k k1 k2 k3=>?_);have k2':∀j,j<k->K (it a (jw+j))<=K (it b gC):=fun j hj=>by have:=k2 j hj;simp[bb]at this;omega
         have Vp:∀j,k<=j->j<a.size-jw->K (it b gC)<=K (it a (jw+j)):=fun j h1 h2=>by have:=k3 j h1 h2;simp[bb]at this;omega
         try dsimp-zeta-zetaHave only
         extract_lets+onlyGivenNames-merge-underBinder u0 jp2;dsimp only[u0];refine nY (T:=jp2) (x:=out) (y:=jw) (fun yX Dz=>(jw<=Dz/\Dz+1<a.size)/\MW K (a.toList++b.toList) yX.toList (a.toList.drop Dz) (b.toList.drop gC)/\K (it b gC)<=K (it a Dz)) ?_ (fun c key=>?_) (fun c=>⟨⟨le_refl _,i1⟩,mi.w,Vp 0 (by omega) (by omega)⟩)
         . rintro _ yX Dz⟨⟨j0,j1⟩,w,k4⟩;dsimp-zeta-zetaHave only[jp2,u0];refine wpS_bind (aZ i2 ?_);have w2:=w.qW i2 ua fun _=>k4;extract_lets+onlyGivenNames-merge-underBinder v0 v1;dsimp-zeta-zetaHave only[v0,v1];by_cases e3:gC+1=b.size;.rw[if_pos (by simpa using e3)];exact wpS_pure ⟨s4,.inl ⟨_,rfl,jt e3 w2⟩⟩
           rw[if_neg (by simpa using e3)];have j3:gC+1<b.size:=by omega
           refine wpS_bind (aZ (by omega) ?_);refine wpS_bind (mC R (ha _ (cQ (by omega))) hb (by omega) (by omega) (s4.kind.trans hs) (tu ub (by omega)) fun m m1 m2 m3=>?_);have m2':∀j,j<m->K (it b (gC+1+j))<=K (it a Dz):=fun j hj=>by have:=m2 j hj;simp[bb]at this;omega
           have m3':∀j,m<=j->j<b.size-(gC+1)->K (it a Dz)<=K (it b (gC+1+j)):=fun j h1 h2=>by have:=m3 j h1 h2;simp[bb]at this;omega
           try dsimp-zeta-zetaHave only
           extract_lets+onlyGivenNames-merge-underBinder v2 Yp;dsimp only[v2];refine nY (T:=Yp) (x:=yX.push (it b gC)) (y:=gC+1) (fun yZ Vq=>(gC+1<=Vq/\Vq<b.size)/\MW K (a.toList++b.toList) yZ.toList (a.toList.drop Dz) (b.toList.drop Vq)/\K (it a Dz)<=K (it b Vq)) ?_ (fun c key=>?_) (fun c=>⟨⟨le_refl _,j3⟩,w2,m3' 0 (by omega) (by omega)⟩)
           . rintro _ yZ Vq⟨⟨j4,j2⟩,w3,m4⟩;dsimp only[Yp,v2];refine wpS_bind (aZ (by omega) ?_);have w4:=w3.rF (by omega) ub fun _=>m4;try dsimp only
             by_cases e5:Dz+1+1=a.size;.rw[if_pos (by simpa using e5)];exact wpS_pure ⟨s4,.inl ⟨_,rfl,lF e5 hl w4⟩⟩
             rw[if_neg (by simpa using e5)];have wZ:MI K a b (yZ.push (it a Dz)) (Dz+1) Vq:=⟨by omega,j2,w4⟩;split;.exact wpS_pure ⟨s4,.inr ⟨_,_,_,_,_,_,rfl,wZ,by omega⟩⟩
             .exact wpS_pure ⟨s4,_,_,_,_,_,_,rfl,wZ,by omega⟩
           . have w3:=w2.Fo (k:=m) (by omega) ua fun j hj _=>m2' j hj;by_cases e4:gC+1+m=b.size;.rw[if_pos (by simpa using e4)];exact wpS_pure ⟨s4,.inl ⟨_,rfl,jt e4 w3⟩⟩
             rw[if_neg (by simpa using e4)];exact key ⟨⟩ _ _ ⟨⟨by omega,by omega⟩,w3,m3' m (le_refl _) (by omega)⟩
         . have w:=mi.w.DP (k:=k) (by omega) ub fun j hj _=>k2' j hj;by_cases e1:jw+k+1=a.size;.rw[if_pos (by simpa using e1)];exact wpS_pure ⟨s4,.inl ⟨_,rfl,lF e1 hl w⟩⟩
           rw[if_neg (by simpa using e1)];by_cases e2:jw+k=a.size;.rw[if_pos (by simpa using e2)];exact wpS_pure ⟨s4,.inl ⟨_,rfl,Cr e2 w⟩⟩
           rw[if_neg (by simpa using e2)];exact key ⟨⟩ _ _ ⟨⟨by omega,by omega⟩,w,Vp k (le_refl _) (by omega)⟩
       .rintro c st3⟨s3,out,jw,gC,mg,ac,bc,rfl,mi,hp'⟩;exact⟨s3,.inr ⟨_,_,_,_,_,_,rfl,mi,hp'⟩⟩
       . rintro c st3⟨s3,⟨out,hc,hf⟩|⟨out,jw,gC,mg,ac,bc,rfl,mi,hp'⟩⟩;.obtain⟨c1,c2,c3,c4,c5,c6,c7⟩:=c;cases hc;exact wpS_pure ⟨s3,out,rfl,hf⟩
         . try dsimp only
           exact wpS_bind (n8 fun Iz Tn=>wpS_pure ⟨s3.trans Tn,_,_,_,_,rfl,mi,by omega⟩)
 .rintro c st1⟨s1,out,ia,ib,mg,rfl,mi,hp⟩;have:=mi.i1;have:=mi.i2;omega
 .rintro c st1⟨s1,out,hc,hf⟩;obtain⟨c1,c2,c3,c4,c5⟩:=c;cases hc;exact wpS_pure (q _ _ hf s1)
end
section
variable{K:Keyed->Int}{T A B S P:List Keyed}{z:Keyed}
structure MH(K:Keyed->Int)(T A B S:List Keyed):Prop where
 perm:(A++(B++S)).Perm T
 sa:SL K (A++S)sb:SL K (B++S)
theorem MH.V3(w:MH K T (A++P) B S)(h:∀x∈P,∀y∈B,K y<=K x):MH K T A B (P++S):=by
 have h1:=cA.mp w.sb;have h2:=cA.mp (show SL K (A++(P++S))by simpa using w.sa);refine⟨?_,by simpa using w.sa,cA.mpr ⟨h1.1,h2.2.1,fun x hx y hy=>?_⟩⟩;.refine List.Perm.trans ?_ w.perm;rw[append_assoc];refine List.Perm.append_left A ?_;rw[<-append_assoc,<-append_assoc];exact List.perm_append_comm.append_right S
 . rcases mem_append.mp hy with hy|hy;.exact h y hy x hx
   .exact h1.2.2 x hx y hy
theorem MH.VD(w:MH K T A (B++P) S)(h:∀x∈P,∀y∈A,K y<=K x):MH K T A B (P++S):=by
 have h1:=cA.mp w.sa;have h2:=cA.mp (show SL K (B++(P++S))by simpa using w.sb);refine⟨by simpa using w.perm,cA.mpr ⟨h1.1,h2.2.1,fun x hx y hy=>?_⟩,by simpa using w.sb⟩;rcases mem_append.mp hy with hy|hy;.exact h y hy x hx
 .exact h1.2.2 x hx y hy
theorem MH.first(w:MH K T A [z] S)(h:∀x∈A,K z<=K x):([z]++A++S).Perm T/\SL K ([z]++A++S):=by
 refine⟨?_,?_⟩;.refine List.Perm.trans ?_ w.perm;rw[<-append_assoc];exact List.perm_append_comm.append_right S
 . rw[append_assoc];refine cA.mpr ⟨List.pairwise_singleton _ _,w.sa,fun x hx y hy=>?_⟩;rw[mem_singleton.mp hx];rcases mem_append.mp hy with hy|hy;.exact h y hy
   .exact(cA.mp w.sb).2.2 z (by simp) y hy
theorem fY{a:Array Keyed}{n:Nat}(h:n<=a.size):(a.extract 0 n).toList=a.toList.take n:=by rw[iU h];simp
theorem gO{a:Array Keyed}{i n:Nat}(hi:i<=n)(h:n<=a.size):a.toList.take n=a.toList.take i++(a.extract i n).toList:=by
 rw[iU h];have e:n=i+(n-i):=by omega
 conv=>lhs;rw[e,List.take_add]
theorem tU{a:Array Keyed}{n:Nat}(h0:1<=n)(h:n<=a.size):a.toList.take n=a.toList.take (n-1)++[it a (n-1)]:=by
 have e:it a (n-1)=a.toList[n-1]'(by simp;omega):=by unfold it;simp[Array.getD,show n-1<a.size by omega]
 have e2:n=(n-1)+1:=by omega
 conv=>lhs;rw[e2]
 rw[List.take_succ_eq_append_getElem (by simp;omega),e]
theorem iR{a:Array Keyed}{n:Nat}{x:Keyed}(h:n<=a.size)(hx:x∈a.toList.take n):∃j,j<n/\x=it a j:=by obtain⟨j,hj,e⟩:=List.mem_iff_getElem.mp hx;simp only[length_take,length_toList]at hj;refine⟨j,by omega,?_⟩;rw[<-e];unfold it;simp[Array.getD,show j<a.size by omega]
theorem pZ{a:Array Keyed}{i n:Nat}{x:Keyed}(hi:i<=n)(h:n<=a.size)(hx:x∈(a.extract i n).toList):∃j,i<=j/\j<n/\x=it a j:=by obtain⟨j,hj,e⟩:=ext_mem (a:=a) (i:=i) (k:=n-i) (by omega) (by rw[show i+(n-i)=n by omega];exact hx);exact⟨i+j,by omega,by omega,e⟩
end
section
variable{M:Model}{A:Around}{E:Value->Shared->Prop}{s:Shared}{κ:SortKind}{ok:Keyed->Prop}{K:Keyed->Int}
noncomputable def mhi:Array Keyed->Array Keyed->SM (Array Keyed):=sortPriv%PySem.Builtin.mergeHi
abbrev MV(K:Keyed->Int)(a b out:Array Keyed)(na nb:Nat):Prop:=MH K (a.toList++b.toList) (a.toList.take na) (b.toList.take nb) out.toList.reverse
structure MJ(K:Keyed->Int)(a b out:Array Keyed)(na nb:Nat):Prop where
 i1:1<=na
 i2:2<=nb
 i3:na<=a.size
 i4:nb<=b.size
 w:MV K a b out na nb
theorem iG{out:Array Keyed}:out.reverse.toList=out.toList.reverse:=Array.toList_reverse
theorem um{a b out:Array Keyed}{na nb:Nat}(h:na=0)(hb:nb<=b.size)(w:MV K a b out na nb):Fin K a b (a.extract 0 na++b.extract 0 nb++out.reverse):=by
 subst h;have e:(a.extract 0 0++b.extract 0 nb++out.reverse).toList=b.toList.take nb++out.toList.reverse:=by rw[Array.toList_append,Array.toList_append,fY (zero_le _),fY hb,iG];simp
 exact⟨by rw[e];simpa using w.perm,by rw[e];exact w.sb⟩
theorem Q6{a b out:Array Keyed}{na nb:Nat}(h:nb=0)(ha:na<=a.size)(w:MV K a b out na nb):Fin K a b (a.extract 0 na++b.extract 0 nb++out.reverse):=by
 subst h;have e:(a.extract 0 na++b.extract 0 0++out.reverse).toList=a.toList.take na++out.toList.reverse:=by rw[Array.toList_append,Array.toList_append,fY (zero_le _),fY ha,iG];simp
 exact⟨by rw[e];simpa using w.perm,by rw[e];exact w.sa⟩
theorem jq{a b out:Array Keyed}{na nb:Nat}(h:nb=1)(ha:na<=a.size)(hb:nb<=b.size)(ua:uJ K a)(h0:K (it b 0)<=K (it a 0))(w:MV K a b out na nb):Fin K a b (b.extract 0 nb++a.extract 0 na++out.reverse):=by
 subst h;have e1:b.toList.take 1=[it b 0]:=by rw[tU (le_refl 1) hb];simp
 have e:(b.extract 0 1++a.extract 0 na++out.reverse).toList=[it b 0]++a.toList.take na++out.toList.reverse:=by rw[Array.toList_append,Array.toList_append,fY hb,fY ha,iG,e1]
 have w':=w;unfold MV at w';rw[e1]at w';obtain⟨h1,h2⟩:=w'.first fun x hx=>by obtain⟨j,hj,rfl⟩:=iR ha hx;exact Int.le_trans h0 (ua 0 j (by omega) (by omega))
 exact⟨by rw[e];exact h1,by rw[e];exact h2⟩
theorem MH.rF{a b out:Array Keyed}{na nb:Nat}(h:1<=na)(ha:na<=a.size)(hb:nb<=b.size)(w:MV K a b out na nb)(ub:uJ K b)(hk:1<=nb->K (it b (nb-1))<=K (it a (na-1))):MV K a b (out.push (it a (na-1))) (na-1) nb:=by unfold MV at*;rw[tU h ha]at w;rw[toList_push,List.reverse_append];refine MH.V3 (P:=[it a (na-1)]) w fun x hx y hy=>?_;rw[mem_singleton.mp hx];obtain⟨j,hj,rfl⟩:=iR hb hy;exact Int.le_trans (ub j (nb-1) (by omega) (by omega)) (hk (by omega))
theorem MH.qW{a b out:Array Keyed}{na nb:Nat}(h:1<=nb)(ha:na<=a.size)(hb:nb<=b.size)(w:MV K a b out na nb)(ua:uJ K a)(hk:1<=na->K (it a (na-1))<=K (it b (nb-1))):MV K a b (out.push (it b (nb-1))) na (nb-1):=by unfold MV at*;rw[tU h hb]at w;rw[toList_push,List.reverse_append];refine MH.VD (P:=[it b (nb-1)]) w fun x hx y hy=>?_;rw[mem_singleton.mp hx];obtain⟨j,hj,rfl⟩:=iR ha hy;exact Int.le_trans (ua j (na-1) (by omega) (by omega)) (hk (by omega))
theorem MH.DP{a b out:Array Keyed}{na nb i:Nat}(h:i<=na)(ha:na<=a.size)(hb:nb<=b.size)(w:MV K a b out na nb)(ub:uJ K b)(hk:∀j,i<=j->j<na->1<=nb->K (it b (nb-1))<=K (it a j)):MV K a b (out++(a.extract i na).reverse) i nb:=by unfold MV at*;rw[gO h ha]at w;rw[Array.toList_append,List.reverse_append,iG,List.reverse_reverse];refine MH.V3 w fun x hx y hy=>?_;obtain⟨j,j1,j2,rfl⟩:=pZ h ha hx;obtain⟨l,hl,rfl⟩:=iR hb hy;exact Int.le_trans (ub l (nb-1) (by omega) (by omega)) (hk j j1 j2 (by omega))
theorem MH.Fo{a b out:Array Keyed}{na nb i:Nat}(h:i<=nb)(ha:na<=a.size)(hb:nb<=b.size)(w:MV K a b out na nb)(ua:uJ K a)(hk:∀j,i<=j->j<nb->1<=na->K (it a (na-1))<=K (it b j)):MV K a b (out++(b.extract i nb).reverse) na i:=by unfold MV at*;rw[gO h hb]at w;rw[Array.toList_append,List.reverse_append,iG,List.reverse_reverse];refine MH.VD w fun x hx y hy=>?_;obtain⟨j,j1,j2,rfl⟩:=pZ h hb hx;obtain⟨l,hl,rfl⟩:=iR ha hy;exact Int.le_trans (ua l (na-1) (by omega) (by omega)) (hk j j1 j2 (by omega))
set_option maxHeartbeats 1000000 in
theorem P0(R:Rk M A E s κ ok K){a b:Array Keyed}{Q:Array Keyed->SortSt->Prop}{st:SortSt}(ha:∀x∈a.toList,ok x)(hb:∀x∈b.toList,ok x)(hs:kindOf st=κ)(ua:uJ K a)(ub:uJ K b)(a1:1<=a.size)(b1:1<=b.size)(h0:K (it b 0)<=K (it a 0))(hl:∀i,i<b.size->K (it b i)<=K (it a (a.size-1)))(q:∀out st',Fin K a b out->qj st st'->Q out st'):wpS M A E s (mhi a b) Q st:=by
 show wpS M A E s (liftM (rule "list.sort.merge-hi")>>=_) Q st;refine wpS_bind (wp_rule ?_);extract_lets+onlyGivenNames-merge-underBinder x0 x1 x2 x3 x4;refine wpS_bind (aZ (by omega) ?_);extract_lets+onlyGivenNames-merge-underBinder x5;dsimp-zeta-zetaHave only[x0,x1,x2,x3,x4,x5];have ta:∀c:Array Keyed,c.toList.take c.size=c.toList:=fun c=>take_of_length_le (by simp);have w0:MV K a b #[] a.size b.size:=by unfold MV;rw[ta,ta];exact⟨by simp,by simpa using pL ua,by simpa using pL ub⟩
 have w1:=MH.rF a1 (le_refl _) (le_refl _) w0 ub (fun _=>hl _ (by omega));rw[show(#[]:Array Keyed).push (it a (a.size-1))=#[it a (a.size-1)]from rfl]at w1;by_cases c1:a.size-1=0;.rw[if_pos (by simpa using c1)];exact wpS_pure (q _ _ (um c1 (le_refl _) w1) (.refl _))
 rw[if_neg (by simpa using c1)];by_cases c2:b.size=1;.rw[if_pos (by simpa using c2)];exact wpS_pure (q _ _ (jq c2 (by omega) (le_refl _) ua h0 w1) (.refl _))
 rw[if_neg (by simpa using c2)];refine wpS_bind (wpS_get ?_);extract_lets+onlyGivenNames-merge-underBinder x6;refine wpS_bind (wpS_mono (wpS_forRange (I:=fun x c st'=>qj st st'/\∃na nb out mg,c=(none,na,nb,out,mg)/\MJ K a b out na nb/\x+1+na+nb<=a.size+b.size) (Q:=fun c st'=>qj st st'/\∃out,c.1=some out/\Fin K a b out) ?_ ?_ ⟨.refl _,_,_,_,_,rfl,⟨by omega,by omega,by omega,le_refl _,w1⟩,by omega⟩) ?_)
 . rintro x c st1 _ hx⟨s1,na,nb,out,mg,rfl,mi,hp⟩;extract_lets+onlyGivenNames-merge-underBinder y0 y1 y2 y3 y4 y5 y6 y7 y8;dsimp-zeta-zetaHave only[x0,x1,x2,x3,x4,x5,y0,y1,y2,y3,y4,y5,y6,y7,y8];refine wpS_bind (wpS_mono (wpS_forRange (I:=fun y c st'=>qj st st'/\∃jZ ir out ac bc,c=(none,jZ,ir,out,ac,bc)/\MJ K a b out jZ ir/\jZ+ir+y<=na+nb) (Q:=fun c st'=>qj st st'/\((∃out,c.1=some out/\Fin K a b out)\/∃jZ ir out ac bc,c=(none,jZ,ir,out,ac,bc)/\MJ K a b out jZ ir/\jZ+ir+1<=na+nb)) ?_ ?_ ⟨s1,na,nb,out,0,0,rfl,mi,by omega⟩) ?_)
   . rintro y c st2 _ hy⟨s2,jZ,ir,out,ac,bc,rfl,mi,hp'⟩;obtain⟨i1,i2,i3,i4,w⟩:=mi;try dsimp only
     refine wpS_bind (aZ (by omega) (wpS_bind (aZ (by omega) (wpS_bind (R.lt (hb _ (cQ (by omega))) (ha _ (cQ (by omega))) (s2.kind.trans hs) ?_)))));by_cases c:K (it b (ir-1))<K (it a (jZ-1))
     . rw[decide_eq_true c];try dsimp only
       rw[if_pos rfl];refine wpS_bind (aZ (by omega) ?_);try dsimp only
       have w':=MH.rF i1 i3 i4 w ub (fun _=>by omega);by_cases e:jZ-1=0;.rw[if_pos (by simpa using e)];exact wpS_pure ⟨s2,.inl ⟨_,rfl,um e i4 w'⟩⟩
       . rw[if_neg (by simpa using e)];have wZ:MJ K a b (out.push (it a (jZ-1))) (jZ-1) ir:=⟨by omega,i2,by omega,i4,w'⟩;split;.exact wpS_pure ⟨s2,.inr ⟨_,_,_,_,_,rfl,wZ,by omega⟩⟩
         .exact wpS_pure ⟨s2,_,_,_,_,_,rfl,wZ,by omega⟩
     . rw[decide_eq_false c];try dsimp only
       rw[if_neg (by simp)];refine wpS_bind (aZ (by omega) ?_);try dsimp only
       have w':=MH.qW (by omega) i3 i4 w ua (fun _=>by omega);by_cases e:ir-1=1;.rw[if_pos (by simpa using e)];exact wpS_pure ⟨s2,.inl ⟨_,rfl,jq e i3 (by omega) ua h0 w'⟩⟩
       . rw[if_neg (by simpa using e)];have wZ:MJ K a b (out.push (it b (ir-1))) jZ (ir-1):=⟨i1,by omega,i3,by omega,w'⟩;split;.exact wpS_pure ⟨s2,.inr ⟨_,_,_,_,_,rfl,wZ,by omega⟩⟩
         .exact wpS_pure ⟨s2,_,_,_,_,_,rfl,wZ,by omega⟩
   .rintro c st2⟨s2,jZ,ir,out,ac,bc,rfl,mi,hp'⟩;exact⟨s2,.inr ⟨_,_,_,_,_,rfl,mi,by omega⟩⟩
   . rintro c st2⟨s2,⟨out,hc,hf⟩|⟨jZ,ir,out,ac,bc,rfl,mi,hp'⟩⟩;.obtain⟨c1,c2,c3,c4,c5,c6⟩:=c;cases hc;exact wpS_pure ⟨s2,out,rfl,hf⟩
     . extract_lets+onlyGivenNames-merge-underBinder z0 z1 z2 z3 z4 z5 z6 z7 z8 z9;dsimp-zeta-zetaHave only[z0,z1,z2,z3,z4,z5,z6,z7,z8,z9];refine wpS_bind (wp_rule ?_);extract_lets+onlyGivenNames-merge-underBinder za;refine wpS_bind (wpS_mono (wpS_forRange (I:=fun y c st'=>qj st st'/\∃jZ ir out mg ac bc,c=(none,jZ,ir,out,mg,ac,bc)/\MJ K a b out jZ ir/\jZ+ir+1<=na+nb) (Q:=fun c st'=>qj st st'/\((∃out,c.1=some out/\Fin K a b out)\/∃jZ ir out mg ac bc,c=(none,jZ,ir,out,mg,ac,bc)/\MJ K a b out jZ ir/\jZ+ir+1<=na+nb)) ?_ ?_ ⟨s2,jZ,ir,out,_,ac,bc,rfl,mi,by omega⟩) ?_)
       . rintro y c st3 _ hy⟨s3,jZ,ir,out,mg,ac,bc,rfl,mi,hp'⟩;obtain⟨i1,i2,i3,i4,w⟩:=mi;extract_lets+onlyGivenNames-merge-underBinder t0 t1 t2 t3 t4 t5 t6 t7 t8 t9 ta jp;dsimp only[t0,t1,t2,t3,t4,t5,t6,t7,t8,t9,ta];refine Er (T:=jp) ?_;intro _ mg;dsimp-zeta-zetaHave only[jp,t0,t1,t2,t3,t4,t5,t6,t7,t8,t9,ta];refine wpS_bind (n8 fun Iz Tn=>?_);have s4:=s3.trans Tn;refine wpS_bind (aZ (by omega) ?_);refine wpS_bind (mC R (hb _ (cQ (by omega))) ha (by omega) (by omega) (s4.kind.trans hs) (tu ua (by omega)) fun k k1 k2 k3=>?_);have k2':∀j,j<k->K (it a j)<=K (it b (ir-1)):=fun j hj=>by have:=k2 j hj;simp[bb]at this;omega
         have Vp:∀j,k<=j->j<jZ->K (it b (ir-1))<=K (it a j):=fun j h1 h2=>by have:=k3 j h1 h2;simp[bb]at this;omega
         try dsimp-zeta-zetaHave only
         extract_lets+onlyGivenNames-merge-underBinder u0 u1 jp2;dsimp only[u0,u1];refine nY (T:=jp2) (x:=jZ) (y:=out) (fun n1 yX=>(1<=n1/\n1<=jZ)/\MV K a b yX n1 ir/\K (it a (n1-1))<=K (it b (ir-1))) ?_ (fun c key=>?_) (fun c=>⟨⟨i1,le_refl _⟩,w,k2' _ (by omega)⟩)
         . rintro _ n1 yX⟨⟨j1,j0⟩,w1,k4⟩;dsimp-zeta-zetaHave only[jp2,u0,u1];extract_lets+onlyGivenNames-merge-underBinder v0;refine wpS_bind (aZ (by dsimp only[v0];omega) ?_);have w2:=MH.qW (by omega) (by omega) i4 w1 ua (fun _=>k4);extract_lets+onlyGivenNames-merge-underBinder v1;dsimp-zeta-zetaHave only[v0,v1];by_cases e3:ir-1=1;.rw[if_pos (by simpa using e3)];exact wpS_pure ⟨s4,.inl ⟨_,rfl,jq e3 (by omega) (by omega) ua h0 w2⟩⟩
           rw[if_neg (by simpa using e3)];refine wpS_bind (aZ (by omega) ?_);refine wpS_bind (mC R (ha _ (cQ (by omega))) hb (by omega) (by omega) (s4.kind.trans hs) (tu ub (by omega)) fun m m1 m2 m3=>?_);have m2':∀j,j<m->K (it b j)<=K (it a (n1-1)):=fun j hj=>by have:=m2 j hj;simp[bb]at this;omega
           have m3':∀j,m<=j->j<ir-1->K (it a (n1-1))<=K (it b j):=fun j h1 h2=>by have:=m3 j h1 h2;simp[bb]at this;omega
           try dsimp-zeta-zetaHave only
           extract_lets+onlyGivenNames-merge-underBinder v2 v3 Yp;dsimp only[v2,v3];refine nY (T:=Yp) (x:=ir-1) (y:=yX.push (it b (ir-1))) (fun n2 yZ=>(2<=n2/\n2<=ir-1)/\MV K a b yZ n1 n2/\K (it b (n2-1))<=K (it a (n1-1))) ?_ (fun c key=>?_) (fun c=>⟨⟨by omega,le_refl _⟩,w2,m2' _ (by omega)⟩)
           . rintro _ n2 yZ⟨⟨j2,j3⟩,w3,m4⟩;dsimp only[Yp,v2,v3];refine wpS_bind (aZ (by omega) ?_);have w4:=MH.rF j1 (by omega) (by omega) w3 ub (fun _=>m4);try dsimp only
             by_cases e6:n1-1=0;.rw[if_pos (by simpa using e6)];exact wpS_pure ⟨s4,.inl ⟨_,rfl,um e6 (by omega) w4⟩⟩
             rw[if_neg (by simpa using e6)];have wZ:MJ K a b (yZ.push (it a (n1-1))) (n1-1) n2:=⟨by omega,j2,by omega,by omega,w4⟩;split;.exact wpS_pure ⟨s4,.inr ⟨_,_,_,_,_,_,rfl,wZ,by omega⟩⟩
             .exact wpS_pure ⟨s4,_,_,_,_,_,_,rfl,wZ,by omega⟩
           . have w3:=MH.Fo m1 (by omega) (by omega) w2 ua fun j h1 h2 _=>m3' j h1 h2;by_cases e4:m=1;.rw[if_pos (by simpa using e4)];exact wpS_pure ⟨s4,.inl ⟨_,rfl,jq e4 (by omega) (by omega) ua h0 w3⟩⟩
             rw[if_neg (by simpa using e4)];by_cases e5:m=0;.rw[if_pos (by simpa using e5)];exact wpS_pure ⟨s4,.inl ⟨_,rfl,Q6 e5 (by omega) w3⟩⟩
             rw[if_neg (by simpa using e5)];exact key ⟨⟩ _ _ ⟨⟨by omega,m1⟩,w3,m2' _ (by omega)⟩
         . have w1:=MH.DP k1 i3 i4 w ub fun j h1 h2 _=>Vp j h1 h2;by_cases e1:k=0;.rw[if_pos (by simpa using e1)];exact wpS_pure ⟨s4,.inl ⟨_,rfl,um e1 i4 w1⟩⟩
           rw[if_neg (by simpa using e1)];exact key ⟨⟩ _ _ ⟨⟨by omega,k1⟩,w1,k2' _ (by omega)⟩
       .rintro c st3⟨s3,jZ,ir,out,mg,ac,bc,rfl,mi,hp'⟩;exact⟨s3,.inr ⟨_,_,_,_,_,_,rfl,mi,hp'⟩⟩
       . rintro c st3⟨s3,⟨out,hc,hf⟩|⟨jZ,ir,out,mg,ac,bc,rfl,mi,hp'⟩⟩;.obtain⟨c1,c2,c3,c4,c5,c6,c7⟩:=c;cases hc;exact wpS_pure ⟨s3,out,rfl,hf⟩
         . try dsimp only
           exact wpS_bind (n8 fun Iz Tn=>wpS_pure ⟨s3.trans Tn,_,_,_,_,rfl,mi,by omega⟩)
 .rintro c st1⟨s1,na,nb,out,mg,rfl,mi,hp⟩;have:=mi.i1;have:=mi.i2;omega
 .rintro c st1⟨s1,out,hc,hf⟩;obtain⟨c1,c2,c3,c4,c5⟩:=c;cases hc;exact wpS_pure (q _ _ hf s1)
end
section
variable{K:Keyed->Int}
def Seg(K:Keyed->Int)(xs:Array Keyed)(lo hi:Nat):Prop:=∀i j,lo<=i->i<=j->j<hi->K (it xs i)<=K (it xs j)
theorem Al{l:Bool}{k:Keyed}{a:Array Keyed}{b n:Nat}(h:Seg K a b (b+n)):J2 K l k a b n:=fun i j hij hj c=>by have:=h (b+i) (b+j) (by omega) (by omega) (by omega);unfold bb at*;cases l with|true=>simp only[if_true,decide_eq_true_eq]at*;omega|false=>simp only[false_eq_true,if_false,not_eq_true',decide_eq_false_iff_not]at*;omega
theorem gR{xs:Array Keyed}{i:Nat}:it xs i=xs.toList.getD i (Value.none,Value.none):=by
 unfold it;by_cases h:i<xs.size;.simp[Array.getD,h]
 .simp[Array.getD,h]
theorem lR{a:Array Keyed}{i n j:Nat}(h:n<=a.size)(hj:j<n-i):it (a.extract i n) j=it a (i+j):=by
 have:j<(a.extract i n).size:=by simp;omega
 have e:(a.extract i n)[j]?=a[i+j]?:=by rw[Array.getElem?_extract,if_pos (by omega)]
 have e1:=tZ this;have e2:=tZ (show i+j<a.size by omega);rw[e,e2]at e1;injection e1 with e1;exact e1.symm
theorem uv{a:Array Keyed}{i n:Nat}(h:n<=a.size)(hs:Seg K a i n):uJ K (a.extract i n):=fun u v huv hv=>by
 have hsz:(a.extract i n).size=n-i:=by simp;omega
 rw[hsz]at hv;rw[lR h (by omega),lR h hv];exact hs _ _ (by omega) (by omega) (by omega)
theorem wL:∀(m:List Keyed)(arr:Array Keyed)(o k:Nat),o+k+m.length<=arr.size->((m.zipIdx k).foldl (fun a x=>match x with|(p,j)=>a.setIfInBounds (o+j) p) arr).toList=arr.toList.take (o+k)++(m++arr.toList.drop (o+k+m.length))
 |[],arr,o,k,h=>by simp|x::m,arr,o,k,h=>by
   have hl:o+k<arr.size:=by simp at h;omega
   rw[List.zipIdx_cons,List.foldl_cons];have ih:=wL m (arr.setIfInBounds (o+k) x) o (k+1) (by simp at h ⊢;omega);rw[ih,Array.toList_setIfInBounds];have e1:(arr.toList.set (o+k) x).take (o+(k+1))=arr.toList.take (o+k)++[x]:=by rw[<-Nat.add_assoc,List.take_succ_eq_append_getElem (by simpa using hl),List.take_set_of_le (le_refl _)];simp
   have e2:(arr.toList.set (o+k) x).drop (o+(k+1)+m.length)=arr.toList.drop (o+k+(x::m).length):=by rw[List.drop_set_of_lt (by omega)];congr 1;simp;omega
   rw[e1,e2];simp
theorem Fin.mem{a b out:Array Keyed}{z:Keyed}(f:Fin K a b out)(h:z∈out.toList):z∈a.toList\/z∈b.toList:=mem_append.mp (f.perm.mem_iff.mp h)
theorem vN{xs:Array Keyed}{P Q S:List Keyed}{lo hi:Nat}(e:xs.toList=P++(Q++S))(hl:P.length=lo)(hh:P.length+Q.length=hi)(h:SL K Q):Seg K xs lo hi:=fun i j h1 h2 h3=>by
 rw[gR,gR,e];have gi:∀n,lo<=n->n<hi->(P++(Q++S)).getD n (Value.none,Value.none)=Q.getD (n-lo) (Value.none,Value.none):=fun n n1 n2=>by rw[getD_eq_getElem?_getD,getD_eq_getElem?_getD,getElem?_append_right (by omega),getElem?_append_left (by omega),hl]
 rw[gi i h1 (by omega),gi j (by omega) h3];by_cases hij:i=j;.rw[hij];exact Int.le_refl _
 .have:=List.pairwise_iff_getElem.mp h (i-lo) (j-lo) (by omega) (by omega) (by omega);simpa[getD_eq_getElem?_getD,show i-lo<Q.length by omega,show j-lo<Q.length by omega]using this
end
section
variable{M:Model}{A:Around}{E:Value->Shared->Prop}{s:Shared}{κ:SortKind}{ok:Keyed->Prop}{K:Keyed->Int}
theorem three{a:Array Keyed}{i n:Nat}(hi:i<=n)(h:n<=a.size):a.toList=a.toList.take i++((a.extract i n).toList++a.toList.drop n):=by rw[<-append_assoc,<-gO hi h,List.take_append_drop]
theorem Gf{a:Array Keyed}{i n:Nat}(h:n<=a.size)(hs:Seg K a i n):SL K (a.extract i n).toList:=pL (uv h hs)
structure Uk(K:Keyed->Int)(xs ys:Array Keyed)(lo hi:Nat):Prop where
 perm:ys.toList.Perm xs.toList
 pre:ys.toList.take lo=xs.toList.take lo
 post:ys.toList.drop hi=xs.toList.drop hi
 seg:Seg K ys lo hi
theorem wM{xs:Array Keyed}{lo hi:Nat}(h:Seg K xs lo hi):Uk K xs xs lo hi:=⟨.refl _,rfl,rfl,h⟩
theorem RD{xs ys:Array Keyed}{lo u v hi:Nat}{m:List Keyed}(h1:lo<=u)(h2:u<=v)(h3:v<=hi)(h4:hi<=xs.size)(hy:ys.toList=xs.toList.take u++(m++xs.toList.drop v))(hp:m.Perm (xs.extract u v).toList)(hs:SL K ((xs.extract lo u).toList++(m++(xs.extract v hi).toList))):Uk K xs ys lo hi:=by
 have hlm:m.length=v-u:=by rw[hp.length_eq];simp;omega
 have el:xs.toList.take u=xs.toList.take lo++(xs.extract lo u).toList:=gO h1 (by omega);have er:xs.toList.drop v=(xs.extract v hi).toList++xs.toList.drop hi:=by have:=jK (a:=xs) (i:=v) (k:=hi-v) (by omega);rwa[show v+(hi-v)=hi by omega]at this
 have e:ys.toList=xs.toList.take lo++(((xs.extract lo u).toList++(m++(xs.extract v hi).toList))++xs.toList.drop hi):=by rw[hy,el,er];simp
 have hlo:(xs.toList.take lo).length=lo:=by simp;omega
 have hmid:((xs.extract lo u).toList++(m++(xs.extract v hi).toList)).length=hi-lo:=by simp[hlm];omega
 refine⟨?_,?_,?_,vN e hlo (by omega) hs⟩;.have t:=three h2 (show v<=xs.size by omega);rw[hy];refine List.Perm.trans (List.Perm.append_left _ (List.Perm.append_right _ hp)) (.of_eq t.symm)
 .rw[e,List.take_append_of_le_length (by omega),take_of_length_le (by omega)]
 .rw[e,<-append_assoc,List.drop_append,List.drop_eq_nil_of_le (Nat.le_of_eq (by rw[length_append,hlo,hmid,Nat.add_sub_cancel' (le_trans h1 (le_trans h2 h3))])),nil_append,length_append,hlo,hmid,Nat.add_sub_cancel' (le_trans h1 (le_trans h2 h3)),Nat.sub_self];rfl
end
section
variable{M:Model}{A:Around}{E:Value->Shared->Prop}{s:Shared}{κ:SortKind}{ok:Keyed->Prop}{K:Keyed->Int}
theorem Qc{st st':SortSt}{Q:PUnit->SortSt->Prop}(h:Q ⟨⟩ st'):wpS M A E s (set st':SM PUnit) Q st:=by unfold wpS;rw[StateT.run_set];exact wpAny_pure ⟨rfl,h⟩
theorem jM{a:Array Keyed}{i n:Nat}{x:Keyed}(hi:i<=n)(h:n<=a.size)(hx:x∈(a.extract i n).toList):∃j,i<=j/\j<n/\x=it a j:=pZ hi h hx
theorem Q8{arr merged:Array Keyed}{sa u sb v hi:Nat}(h1:sa<=u)(h2:u<=sb)(h3:sb<=v)(h4:v<=hi)(h5:hi<=arr.size)(hu:u<sb)(hv:sb<v)(s1:Seg K arr sa sb)(s2:Seg K arr sb hi)(f:Fin K (arr.extract u sb) (arr.extract sb v) merged)(k2:∀j,sa<=j->j<u->K (it arr j)<=K (it arr sb))(m3:∀j,v<=j->j<hi->K (it arr (sb-1))<=K (it arr j)):SL K ((arr.extract sa u).toList++(merged.toList++(arr.extract v hi).toList)):=by
 have Og:∀z∈merged.toList,(∃j,u<=j/\j<sb/\z=it arr j)\/∃j,sb<=j/\j<v/\z=it arr j:=fun z hz=>(f.mem hz).imp (jM h2 (by omega)) (jM h3 (by omega));refine cA.mpr ⟨Gf (by omega) fun i j a b c=>s1 i j a b (by omega),cA.mpr ⟨f.nJ,Gf h5 fun i j a b c=>s2 i j (by omega) b c,fun z hz y hy=>?_⟩,fun x hx y hy=>?_⟩
 . obtain⟨j,j1,j2,rfl⟩:=jM h4 h5 hy;rcases Og z hz with⟨i,i1,i2,rfl⟩|⟨i,i1,i2,rfl⟩;.exact Int.le_trans (s1 i (sb-1) (by omega) (by omega) (by omega)) (m3 j j1 j2)
   .exact s2 i j (by omega) (by omega) (by omega)
 . obtain⟨i,i1,i2,rfl⟩:=jM h1 (by omega) hx;rcases mem_append.mp hy with hy|hy
   . rcases Og y hy with⟨j,j1,j2,rfl⟩|⟨j,j1,j2,rfl⟩;.exact s1 i j (by omega) (by omega) (by omega)
     .exact Int.le_trans (k2 i i1 i2) (s2 sb j (by omega) (by omega) (by omega))
   .obtain⟨j,j1,j2,rfl⟩:=jM h4 h5 hy;exact Int.le_trans (k2 i i1 i2) (s2 sb j (by omega) (by omega) (by omega))
set_option maxHeartbeats 1000000 in
theorem RW(R:Rk M A E s κ ok K){i sa na pw sb nb pw2:Nat}{Q:Bool->SortSt->Prop}{st:SortSt}(hs:kindOf st=κ)(ho:∀x∈(arrOf st).toList,ok x)(hf:failedOf st=none)(hi:(pendingOf st)[i]?=some (sa,na,pw))(hj:(pendingOf st)[i+1]?=some (sb,nb,pw2))(hsb:sb=sa+na)(n1:1<=na)(m1:1<=nb)(hz:sb+nb<=(arrOf st).size)(s1:Seg K (arrOf st) sa sb)(s2:Seg K (arrOf st) sb (sb+nb))(q:∀st',kindOf st'=κ->failedOf st'=none->pendingOf st'=((pendingOf st).setIfInBounds i (sa,na+nb,pw)).eraseIdxIfInBounds (i+1)->Uk K (arrOf st) (arrOf st') sa (sb+nb)->Q true st'):wpS M A E s (mergeAt' i) Q st:=by
 obtain⟨kd,arr,pend,gm,fl⟩:=st;replace hs:kd=κ:=hs;replace ho:∀x∈arr.toList,ok x:=ho;replace hf:fl=none:=hf;replace hi:pend[i]?=some (sa,na,pw):=hi;replace hj:pend[i+1]?=some (sb,nb,pw2):=hj;replace hz:sb+nb<=arr.size:=hz;replace s1:Seg K arr sa sb:=s1;replace s2:Seg K arr sb (sb+nb):=s2;replace q:∀st',kindOf st'=κ->failedOf st'=none->pendingOf st'=(pend.setIfInBounds i (sa,na+nb,pw)).eraseIdxIfInBounds (i+1)->Uk K arr (arrOf st') sa (sb+nb)->Q true st':=q;show wpS M A E s (get>>=_) Q _;refine wpS_bind (wpS_get ?_);dsimp only;rw[hi,hj];try dsimp only
 refine wpS_bind (Qc ?_);refine wpS_bind (aZ (by omega) ?_);refine wpS_bind (mC R (ho _ (cQ (by omega))) ho (by omega) (by omega) hs (Al (by rw[<-hsb];exact s1)) fun k k1 k2 k3=>?_);have k2':∀j,sa<=j->j<sa+k->K (it arr j)<=K (it arr sb):=fun j h1 h2=>by have:=k2 (j-sa) (by omega);rw[show sa+(j-sa)=j by omega]at this;simp[bb]at this;omega
 try dsimp only
 by_cases c1:na-k=0
 . rw[if_pos (by simpa using c1)];refine wpS_pure (q _ hs hf rfl (wM fun u v u1 u2 u3=>?_));by_cases hv:v<sb;.exact s1 u v u1 u2 hv
   . by_cases hu:u<sb;.exact Int.le_trans (k2' u u1 (by omega)) (s2 sb v (by omega) (by omega) u3)
     .exact s2 u v (by omega) u2 u3
 rw[if_neg (by simpa using c1)];rw[show sa+k+(na-k)-1=sb-1 by omega];refine wpS_bind (aZ (by show sb-1<arr.size;omega) ?_);refine wpS_bind (mC R (ho _ (cQ (by omega))) ho (by omega) (by omega) hs (Al s2) fun m m1' m2 m3=>?_);have m2':∀j,sb<=j->j<sb+m->K (it arr j)<K (it arr (sb-1)):=fun j h1 h2=>by have:=m2 (j-sb) (by omega);rw[show sb+(j-sb)=j by omega]at this;simpa[bb]using this
 have m3':∀j,sb+m<=j->j<sb+nb->K (it arr (sb-1))<=K (it arr j):=fun j h1 h2=>by have:=m3 (j-sb) (by omega) (by omega);rw[show sb+(j-sb)=j by omega]at this;simp[bb]at this;omega
 have Vp:K (it arr sb)<=K (it arr (sa+k)):=by have:=k3 k (le_refl _) (by omega);simp[bb]at this;omega
 try dsimp only
 by_cases c2:m=0
 . rw[if_pos (by simpa using c2)];refine wpS_pure (q _ hs hf rfl (wM fun u v u1 u2 u3=>?_));by_cases hv:v<sb;.exact s1 u v u1 u2 hv
   . by_cases hu:u<sb;.exact Int.le_trans (s1 u (sb-1) u1 (by omega) (by omega)) (m3' v (by omega) u3)
     .exact s2 u v (by omega) u2 u3
 rw[if_neg (by simpa using c2)];have hxa:(arr.extract (sa+k) sb).size=sb-(sa+k):=by simp;omega
 have hya:(arr.extract sb (sb+m)).size=m:=by simp;omega
 have ux:uJ K (arr.extract (sa+k) sb):=uv (by omega) fun u v a b c=>s1 u v (by omega) b c;have uy:uJ K (arr.extract sb (sb+m)):=uv (by omega) fun u v a b c=>s2 u v a b (by omega);have ox:∀x∈(arr.extract (sa+k) sb).toList,ok x:=fun x hx=>by obtain⟨j,j1,j2,rfl⟩:=jM (by omega) (by omega) hx;exact ho _ (cQ (by omega))
 have oy:∀x∈(arr.extract sb (sb+m)).toList,ok x:=fun x hx=>by obtain⟨j,j1,j2,rfl⟩:=jM (by omega) (by omega) hx;exact ho _ (cQ (by omega))
 have hh0:K (it (arr.extract sb (sb+m)) 0)<=K (it (arr.extract (sa+k) sb) 0):=by rw[lR (by omega) (by omega),lR (by omega) (by omega)];exact Vp
 have hhl:∀j,j<(arr.extract sb (sb+m)).size->K (it (arr.extract sb (sb+m)) j)<=K (it (arr.extract (sa+k) sb) ((arr.extract (sa+k) sb).size-1)):=fun j hj=>by rw[hya]at hj;rw[hxa,lR (by omega) (by omega),lR (by omega) (by omega),show sa+k+(sb-(sa+k)-1)=sb-1 by omega];exact Int.le_of_lt (m2' _ (by omega) (by omega))
 have fin:∀(merged:Array Keyed)(st':SortSt),Fin K (arr.extract (sa+k) sb) (arr.extract sb (sb+m)) merged->qj (SortSt.mk' kd arr ((pend.setIfInBounds i (sa,na+nb,pw)).eraseIdxIfInBounds (i+1)) gm fl) st'->wpS M A E s ((modify fun s=>setArr s (foldl (fun a x=>match x with|(p,j)=>a.setIfInBounds (sa+k+j) p) (arrOf s) merged.toList.zipIdx))>>=fun _=>get>>=fun s=>pure (failedOf s).isNone) Q st':=fun merged st' f sm=>by
  refine wpS_bind (wpS_modify (wpS_bind (wpS_get (wpS_pure ?_))));have e1:arrOf st'=arr:=sm.arr;have e2:failedOf st'=none:=sm.fail.trans hf;have hlm:merged.toList.length=sb+m-(sa+k):=by rw[f.perm.length_eq];simp;omega
  show Q (failedOf st').isNone _;rw[e2];refine q _ (sm.kind.trans hs) e2 sm.pend ?_;show Uk K arr (foldl _ (arrOf st') merged.toList.zipIdx) sa (sb+nb);rw[e1];have hy:=wL merged.toList arr (sa+k) 0 (by omega);rw[Nat.add_zero,hlm,show sa+k+(sb+m-(sa+k))=sb+m by omega]at hy;have he:arr.extract (sa+k) (sb+m)=arr.extract (sa+k) sb++arr.extract sb (sb+m):=by simp[Array.extract_append_extract];congr 1<;>omega
  refine RD (u:=sa+k) (v:=sb+m) (by omega) (by omega) (by omega) hz hy (f.perm.trans (.of_eq ?_)) (Q8 (by omega) (by omega) (by omega) (by omega) hz (by omega) (by omega) s1 s2 f k2' m3');rw[he,Array.toList_append]
 try dsimp only
 split;.exact wpS_bind (O9 R ox oy hs ux uy (by omega) (by omega) hh0 hhl fun merged st' f sm=>fin merged st' f sm)
 .exact wpS_bind (P0 R ox oy hs ux uy (by omega) (by omega) hh0 hhl fun merged st' f sm=>fin merged st' f sm)
end
section
variable{K:Keyed->Int}
theorem vJ{xs:Array Keyed}{i:Nat}:it xs i=(xs[i]?).getD (Value.none,Value.none):=by unfold it;by_cases h:i<xs.size<;>simp[Array.getD,h]
theorem jQ{xs:Array Keyed}{i j:Nat}(hj:j<=xs.size)(k:Nat):it (mirror xs i j ((j-i)/2)) k=if i<=k/\k<j then it xs (i+j-1-k)else it xs k:=by rw[vJ,getElem?_mirror_all hj];split<;>rw[vJ]
theorem yO{xs:Array Keyed}{u d:Nat}(hs:u<xs.size)(hd:d<=u)(k:Nat):it (bubble xs u d) k=if k=u-d then it xs u else if u-d<k/\k<=u then it xs (k-1)else it xs k:=by
 rw[vJ,getElem?_bubble hs d hd];by_cases h1:k=u-d;.rw[if_pos h1,if_pos h1,vJ]
 .rw[if_neg h1,if_neg h1];split<;>rw[vJ]
structure nW(xs ys:Array Keyed)(lo:Nat):Prop where
 perm:ys.toList.Perm xs.toList
 pre:∀i,i<lo->it ys i=it xs i
theorem nW.refl(xs:Array Keyed)(lo:Nat):nW xs xs lo:=⟨.refl _,fun _ _=>rfl⟩
theorem nW.trans{xs ys zs:Array Keyed}{lo:Nat}(a:nW xs ys lo)(b:nW ys zs lo):nW xs zs lo:=⟨b.perm.trans a.perm,fun i h=>(b.pre i h).trans (a.pre i h)⟩
theorem nW.size{xs ys:Array Keyed}{lo:Nat}(h:nW xs ys lo):ys.size=xs.size:=by simpa using h.perm.length_eq
theorem jo{xs:Array Keyed}{lo i j:Nat}(h:lo<=i)(hj:j<=xs.size):nW xs (mirror xs i j ((j-i)/2)) lo:=⟨Array.perm_iff_toList_perm.mp (mirror_perm ..),fun k hk=>by rw[jQ hj,if_neg (by omega)]⟩
theorem KJ{xs:Array Keyed}{lo u d:Nat}(hs:u<xs.size)(hd:d<=u)(h:lo<=u-d):nW xs (bubble xs u d) lo:=⟨Array.perm_iff_toList_perm.mp (bubble_perm ..),fun k hk=>by rw[yO hs hd,if_neg (by omega),if_neg (by omega)]⟩
def Jq(K:Keyed->Int)(xs:Array Keyed)(lo hi:Nat):Prop:=∀i j,lo<=i->i<=j->j<hi->K (it xs j)<=K (it xs i)
end
section
variable{M:Model}{A:Around}{E:Value->Shared->Prop}{s:Shared}{κ:SortKind}{ok:Keyed->Prop}{K:Keyed->Int}
structure Sx(κ:SortKind)(ok:Keyed->Prop)(st:SortSt)(xs:Array Keyed)(st':SortSt):Prop where
 kind:kindOf st'=κ
 arr:arrOf st'=xs
 pend:pendingOf st'=pendingOf st
 fail:failedOf st'=none
 ok:∀x∈xs.toList,ok x
theorem Sx.set{st st':SortSt}{xs ys:Array Keyed}{lo:Nat}(h:Sx κ ok st xs st')(c:nW xs ys lo):Sx κ ok st ys (setArr st' ys):=⟨h.kind,rfl,h.pend,h.fail,fun x hx=>h.ok x (c.perm.mem_iff.mp hx)⟩
theorem kW(R:Rk M A E s κ ok K){st st':SortSt}{xs:Array Keyed}{i j:Nat}{Q:Option Bool->SortSt->Prop}(h:Sx κ ok st xs st')(hi:i<xs.size)(hj:j<xs.size)(q:Q (some (decide (K (it xs i)<K (it xs j)))) st'):wpS M A E s (ltAt' i j) Q st':=by rw[ltAt'_eq];refine wpS_bind (wpS_get ?_);show wpS M A E s (elem' (arrOf st') i>>=fun x=>elem' (arrOf st') j>>=fun y=>lt' x y) Q st';rw[h.arr];exact wpS_bind (aZ hi (wpS_bind (aZ hj (R.lt (h.ok _ (cQ hi)) (h.ok _ (cQ hj)) h.kind q))))
theorem o5{st st':SortSt}{xs:Array Keyed}{lo i j:Nat}{Q:Unit->SortSt->Prop}(h:Sx κ ok st xs st')(hl:lo<=i)(hj:j<=xs.size)(q:∀st2,Sx κ ok st (mirror xs i j ((j-i)/2)) st2->Q () st2):wpS M A E s (reverseSlice' i j) Q st':=by rw[reverseSlice'_eq];refine wpS_modify ?_;rw[h.arr];exact q _ (h.set (jo hl hj))
theorem yK(R:Rk M A E s κ ok K){st st':SortSt}{xs:Array Keyed}{lo a n:Nat}{Q:Option (Option Nat)×Nat->SortSt->Prop}(h:Sx κ ok st xs st')(hn:lo+n<=xs.size)(ha:1<=a)(han:a<=n)(hs:Seg K xs lo (lo+a))(q:∀m,a<=m->m<=n->Seg K xs lo (lo+m)->(m=n\/K (it xs (lo+m))<K (it xs (lo+m-1)))->Q (none,m) st'):wpS M A E s (forIn [a:n] ((none,a):Option (Option Nat)×Nat) fun _ c=>ltAt' (lo+c.2) (lo+c.2-1)>>=fun o=>match o with|some b=>if b=true then pure (.done (none,c.2))else pure (.yield (none,c.2+1))|_=>pure (.done (some none,c.2))) Q st':=by
 refine wpS_forRange (I:=fun x c st2=>st2=st'/\c=(none,x)/\Seg K xs lo (lo+x)) ?_ ?_ ⟨rfl,rfl,hs⟩
 . rintro x c st2 h1 h2⟨rfl,rfl,hs'⟩;try dsimp only
   refine wpS_bind (kW R h (by omega) (by omega) ?_);by_cases c:K (it xs (lo+x))<K (it xs (lo+x-1))
   . rw[decide_eq_true c];try dsimp only
     rw[if_pos rfl];exact wpS_pure (q x h1 (by omega) hs' (.inr c))
   . rw[decide_eq_false c];try dsimp only
     rw[if_neg (by simp)];refine wpS_pure ⟨rfl,rfl,fun i j i1 ij jx=>?_⟩;by_cases hj:j<lo+x;.exact hs' i j i1 ij hj
     . have:j=lo+x:=by omega
       subst this;by_cases e:i=lo+x;.rw[e];exact Int.le_refl _
       .have:=hs' i (lo+x-1) i1 (by omega) (by omega);omega
 .rintro c st2⟨rfl,rfl,hs'⟩;rw[show max a n=n by omega]at hs' ⊢;exact q n han (le_refl _) hs' (.inl rfl)
theorem Lq(R:Rk M A E s κ ok K){st st':SortSt}{xs:Array Keyed}{lo a n:Nat}{Q:Option (Option Nat)×Nat×Nat->SortSt->Prop}(h:Sx κ ok st xs st')(hn:lo+n<=xs.size)(ha:1<=a)(han:a<=n)(hs:Jq K xs lo (lo+a))(q:∀ys st2 m e,nW xs ys lo->Sx κ ok st ys st2->a<=m->m<=n->Jq K ys lo (lo+m)->e+1<=m->(∀i,lo+m-(e+1)<=i->i<lo+m->K (it ys i)=K (it ys (lo+m-1)))->Q (none,m,e) st2):wpS M A E s (forIn [a:n] ((none,a,0):Option (Option Nat)×Nat×Nat) fun _ c=>ltAt' (lo+c.2.1) (lo+c.2.1-1)>>=fun o=>match o with
  |some b=>if b=true then(if c.2.2>0 then reverseSlice' (lo+c.2.1-(c.2.2+1)) (lo+c.2.1)>>=fun _=>pure (.yield (none,c.2.1+1,0))else pure (.yield (none,c.2.1+1,0)))else ltAt' (lo+c.2.1-1) (lo+c.2.1)>>=fun o=>match o with|some b=>if b=true then pure (.done (none,c.2.1,c.2.2))else pure (.yield (none,c.2.1+1,c.2.2+1))|_=>pure (.done (some none,c.2.1,c.2.2))
  |_=>pure (.done (some none,c.2.1,c.2.2))) Q st':=by
 refine wpS_forRange (I:=fun x c st2=>∃ys e,c=(none,x,e)/\nW xs ys lo/\Sx κ ok st ys st2/\Jq K ys lo (lo+x)/\e+1<=x/\∀i,lo+x-(e+1)<=i->i<lo+x->K (it ys i)=K (it ys (lo+x-1))) ?_ ?_ ⟨xs,0,rfl,.refl _ _,h,hs,by omega,fun i h1 h2=>by rw[show i=lo+a-1 by omega]⟩
 . rintro x c st2 h1 h2⟨ys,e,rfl,hc,hx,hd,he,hq⟩;have hsz:=hc.size;try dsimp only
   refine wpS_bind (kW R hx (by omega) (by omega) ?_);by_cases c:K (it ys (lo+x))<K (it ys (lo+x-1))
   . rw[decide_eq_true c];try dsimp only
     rw[if_pos rfl];have more:∀zs:Array Keyed,(∀i,K (it zs i)=K (it ys i))->Jq K zs lo (lo+(x+1)):=fun zs hz i j i1 ij jx=>by
      rw[hz,hz];by_cases hj:j<lo+x;.exact hd i j i1 ij hj
      . have:j=lo+x:=by omega
        subst this;by_cases e:i=lo+x;.rw[e];exact Int.le_refl _
        .have:=hd i (lo+x-1) i1 (by omega) (by omega);omega
     by_cases c2:e>0
     . rw[if_pos c2];refine wpS_bind (o5 (lo:=lo) hx (by omega) (by omega) fun st3 h3=>wpS_pure ⟨_,0,rfl,hc.trans (jo (by omega) (by omega)),h3,more _ fun i=>?_,by omega,fun i h1 h2=>by rw[show i=lo+(x+1)-1 by omega]⟩);rw[jQ (by omega)];split;.rw[hq _ (by omega) (by omega),hq i (by omega) (by omega)]
       .rfl
     .rw[if_neg c2];exact wpS_pure ⟨ys,0,rfl,hc,hx,more ys fun _=>rfl,by omega,fun i h1 h2=>by rw[show i=lo+(x+1)-1 by omega]⟩
   . rw[decide_eq_false c];try dsimp only
     rw[if_neg (by simp)];refine wpS_bind (kW R hx (by omega) (by omega) ?_);by_cases c2:K (it ys (lo+x-1))<K (it ys (lo+x))
     . rw[decide_eq_true c2];try dsimp only
       rw[if_pos rfl];exact wpS_pure (q ys st2 x e hc hx h1 (by omega) hd he hq)
     . rw[decide_eq_false c2];try dsimp only
       rw[if_neg (by simp)];have eqx:K (it ys (lo+x))=K (it ys (lo+x-1)):=by omega
       refine wpS_pure ⟨ys,e+1,rfl,hc,hx,fun i j i1 ij jx=>?_,by omega,fun i i1 i2=>?_⟩
       . by_cases hj:j<lo+x;.exact hd i j i1 ij hj
         . have:j=lo+x:=by omega
           subst this;by_cases e:i=lo+x;.rw[e];exact Int.le_refl _
           .rw[eqx];exact hd i (lo+x-1) i1 (by omega) (by omega)
       . rw[show lo+(x+1)-1=lo+x by omega];by_cases e':i=lo+x;.rw[e']
         .rw[eqx];exact hq i (by omega) (by omega)
 .rintro c st2⟨ys,e,rfl,hc,hx,hd,he,hq⟩;rw[show max a n=n by omega]at*;exact q ys st2 n e hc hx han (le_refl _) hd he hq
end
section
variable{M:Model}{A:Around}{E:Value->Shared->Prop}{s:Shared}{κ:SortKind}{ok:Keyed->Prop}{K:Keyed->Int}
theorem Hf{xs:Array Keyed}{lo n:Nat}(hn:lo+n<=xs.size)(h:Jq K xs lo (lo+n)):Seg K (mirror xs lo (lo+n) ((lo+n-lo)/2)) lo (lo+n):=fun i j i1 ij jn=>by rw[jQ hn,jQ hn,if_pos (by omega),if_pos (by omega)];exact h _ _ (by omega) (by omega) (by omega)
theorem Gz(R:Rk M A E s κ ok K){st st':SortSt}{xs:Array Keyed}{lo n:Nat}{Q:Option Nat->SortSt->Prop}(h:Sx κ ok st xs st')(hn:lo+n<=xs.size)(h1:1<=n)(q:∀ys st2 m,nW xs ys lo->Sx κ ok st ys st2->1<=m->m<=n->Seg K ys lo (lo+m)->Q (some m) st2):wpS M A E s (countRun' lo n) Q st':=by
 have one:∀ys:Array Keyed,Seg K ys lo (lo+1):=fun ys i j i1 ij jn=>by rw[show i=j by omega];exact Int.le_refl _
 show wpS M A E s (_>>=_) Q st';refine wpS_bind (yK (a:=1) (n:=n) R h hn (le_refl 1) h1 (one xs) fun m m1 m2 sm hor=>?_);dsimp only;by_cases c1:m=n;.rw[if_pos (by simpa using c1)];exact wpS_pure (q xs st' m (.refl _ _) h m1 m2 sm)
 rw[if_neg (by simpa using c1)];have hlt:=hor.resolve_left c1;by_cases c2:m>1;rw[if_pos c2];refine wpS_bind (kW R h (by omega) (by omega) ?_);by_cases c3:K (it xs lo)<K (it xs (lo+m-1))
 . rw[decide_eq_true c3];try dsimp only
   rw[if_pos rfl];exact wpS_pure (q xs st' m (.refl _ _) h m1 m2 sm)
 rw[decide_eq_false c3];try dsimp only
 rw[if_neg (by simp)];have hall:∀k,lo<=k->k<lo+m->K (it xs k)=K (it xs (lo+m-1)):=fun k k1 k2=>by have a1:=sm lo k (le_refl _) k1 k2;have a2:=sm k (lo+m-1) k1 (by omega) (by omega);omega
 refine wpS_bind (o5 (lo:=lo) h (le_refl _) (by omega) fun st2 h2=>?_);have hc:nW xs (mirror xs lo (lo+m) ((lo+m-lo)/2)) lo:=jo (le_refl _) (by omega);have hd:Jq K (mirror xs lo (lo+m) ((lo+m-lo)/2)) lo (lo+(m+1)):=fun i j i1 ij jn=>by
  have e:∀k,lo<=k->k<lo+m->K (it (mirror xs lo (lo+m) ((lo+m-lo)/2)) k)=K (it xs (lo+m-1)):=fun k k1 k2=>by rw[jQ (by omega),if_pos (by omega)];exact hall _ (by omega) (by omega)
  by_cases hj:j<lo+m;.rw[e i i1 (by omega),e j (by omega) hj];exact Int.le_refl _
  . have:j=lo+m:=by omega
    subst this;by_cases e':i=lo+m;.rw[e'];exact Int.le_refl _
    .rw[e i i1 (by omega),jQ (by omega),if_neg (by omega)];omega
 generalize mirror xs lo (lo+m) ((lo+m-lo)/2)=ys at h2 hc hd;rotate_left;rw[if_neg c2];have hd0:Jq K xs lo (lo+(m+1)):=fun i j i1 ij jn=>by
  by_cases e:i=j;.rw[e];exact Int.le_refl _
  . have e1:i=lo:=by omega
    have e2:j=lo+m:=by omega
    rw[e1,e2];rw[show lo+m-1=lo by omega]at hlt;omega
 obtain⟨ys,hc,h2,hd⟩:∃ys,nW xs ys lo/\Sx κ ok st ys st'/\Jq K ys lo (lo+(m+1)):=⟨xs,.refl _ _,h,hd0⟩;all_goals
  have hsz:=hc.size;refine wpS_bind (wp_rule ?_);refine wpS_bind (Lq (a:=m+1) R h2 (by omega) (by omega) (by omega) hd fun zs st3 p e hcz hx3 p1 p2 hdz he hq=>?_);have hsz2:=hcz.size;dsimp only;by_cases ce:e>0
  . rw[if_pos ce];refine wpS_bind (o5 (lo:=lo) hx3 (by omega) (by omega) fun Iz h4=>?_);have hc4:nW xs (mirror zs (lo+p-(e+1)) (lo+p) ((lo+p-(lo+p-(e+1)))/2)) lo:=hc.trans (hcz.trans (jo (by omega) (by omega)));have hd4:Jq K (mirror zs (lo+p-(e+1)) (lo+p) ((lo+p-(lo+p-(e+1)))/2)) lo (lo+p):=fun i j i1 ij jn=>by
     have ez:∀k,K (it (mirror zs (lo+p-(e+1)) (lo+p) ((lo+p-(lo+p-(e+1)))/2)) k)=K (it zs k):=fun k=>by
      rw[jQ (by omega)];split;.rw[hq _ (by omega) (by omega),hq k (by omega) (by omega)]
      .rfl
     rw[ez,ez];exact hdz i j i1 ij jn
    generalize mirror zs (lo+p-(e+1)) (lo+p) ((lo+p-(lo+p-(e+1)))/2)=us at h4 hc4 hd4;have hs4:=hc4.size;have hc5:nW us (mirror us lo (lo+p) ((lo+p-lo)/2)) lo:=jo (le_refl _) (by omega);refine wpS_bind (o5 (lo:=lo) h4 (le_refl _) (by omega) fun LK h5=>?_);refine wpS_bind (yK R h5 (by rw[hc5.size];omega) (by omega) p2 (Hf (by omega) hd4) fun u u1 u2 su _=>?_);exact wpS_pure (q _ LK u (hc4.trans hc5) h5 (by omega) u2 su)
  .rw[if_neg ce];have hs4:=(hc.trans hcz).size;have hc5:nW zs (mirror zs lo (lo+p) ((lo+p-lo)/2)) lo:=jo (le_refl _) (by omega);refine wpS_bind (o5 (lo:=lo) hx3 (le_refl _) (by omega) fun LK h5=>?_);refine wpS_bind (yK R h5 (by rw[hc5.size];omega) (by omega) p2 (Hf (by omega) hdz) fun u u1 u2 su _=>?_);exact wpS_pure (q _ LK u ((hc.trans hcz).trans hc5) h5 (by omega) u2 su)
theorem Sh(R:Rk M A E s κ ok K){st st':SortSt}{xs:Array Keyed}{lo n o:Nat}{Q:Bool->SortSt->Prop}(h:Sx κ ok st xs st')(hn:lo+n<=xs.size)(ho:o<=n)(hs:Seg K xs lo (lo+o))(q:∀ys st2,nW xs ys lo->Sx κ ok st ys st2->Seg K ys lo (lo+n)->Q true st2):wpS M A E s (binarySort' lo n o) Q st':=by
 show wpS M A E s (_>>=_) Q st';refine wpS_bind (wpS_mono (wpS_forRange (I:=fun k c st2=>∃ys,c=(none,())/\nW xs ys lo/\Sx κ ok st ys st2/\Seg K ys lo (lo+min k n)) (Q:=fun c st2=>∃ys,c=(none,())/\nW xs ys lo/\Sx κ ok st ys st2/\Seg K ys lo (lo+n)) ?_ ?_ ?_) ?_)
 . rintro k c st2 k1 k2⟨ys,rfl,hc,hx,sg⟩;rw[show min k n=k by omega]at sg;have hsz:=hc.size;refine wpS_bind (wpS_mono (wpS_forRange (I:=fun x c st3=>st3=st2/\∃l r,c=(none,l,r)/\l<=r/\r<=k/\r-l<=k-x/\(∀i,lo<=i->i<lo+l->K (it ys i)<=K (it ys (lo+k)))/\∀i,lo+r<=i->i<lo+k->K (it ys (lo+k))<K (it ys i)) (Q:=fun c st3=>st3=st2/\∃l r,c=(none,l,r)/\l<=k/\(∀i,lo<=i->i<lo+l->K (it ys i)<=K (it ys (lo+k)))/\∀i,lo+l<=i->i<lo+k->K (it ys (lo+k))<K (it ys i)) ?_ ?_ ⟨rfl,0,k,rfl,by omega,by omega,by omega,fun i a b=>by omega,fun i a b=>by omega⟩) ?_)
   . rintro x c st3 _ xk⟨rfl,l,r,rfl,a1,a2,a3,a4,a5⟩;dsimp only;by_cases e:l ≥ r
     . rw[if_pos e];have:l=r:=by omega
       subst this;exact wpS_pure ⟨rfl,l,l,rfl,a2,a4,a5⟩
     . rw[if_neg e];refine wpS_bind (kW R hx (by omega) (by omega) ?_);by_cases c:K (it ys (lo+k))<K (it ys (lo+(l+r)/2));.rw[decide_eq_true c];dsimp only;rw[if_pos rfl];exact wpS_pure ⟨rfl,_,_,rfl,by omega,by omega,by omega,a4,fun i i1 i2=>Int.lt_of_lt_of_le c (sg _ _ (by omega) i1 i2)⟩
       .rw[decide_eq_false c];dsimp only;rw[if_neg (by simp)];exact wpS_pure ⟨rfl,_,_,rfl,by omega,a2,by omega,fun i i1 i2=>Int.le_trans (sg i (lo+(l+r)/2) i1 (by omega) (by omega)) (Int.not_lt.mp c),a5⟩
   . rintro c st3⟨rfl,l,r,rfl,a1,a2,a3,a4,a5⟩;have:l=r:=by omega
     subst this;exact⟨rfl,l,l,rfl,a2,a4,a5⟩
   . rintro c st3⟨rfl,l,r,rfl,a2,a4,a5⟩;show wpS M A E s (moveDown' (lo+k) (lo+l)>>=fun _=>pure (ForInStep.yield (none,()))) _ _;rw[moveDown'_eq];refine wpS_bind (wpS_modify (wpS_pure ?_));rw[hx.arr];have hb:nW ys (bubble ys (lo+k) (lo+k-(lo+l))) lo:=KJ (by omega) (by omega) (by omega);refine⟨_,rfl,hc.trans hb,hx.set hb,fun i j i1 ij jn=>?_⟩;rw[show min (k+1) n=k+1 by omega]at jn;rw[yO (by omega) (by omega),yO (by omega) (by omega),show lo+k-(lo+k-(lo+l))=lo+l by omega];repeat' split
     all_goals first|(exfalso;omega)|exact Int.le_refl _|exact a4 _ (by omega) (by omega)|exact Int.le_of_lt (a5 _ (by omega) (by omega))|exact sg _ _ (by omega) (by omega) (by omega)
 .rintro c st2⟨ys,hc0,hc,hx,sg⟩;rw[show min (max (max o 1) n) n=n by omega]at sg;exact⟨ys,hc0,hc,hx,sg⟩
 . refine⟨xs,rfl,.refl _ _,h,fun i j i1 ij jn=>?_⟩;by_cases e:i=j;.rw[e];exact Int.le_refl _
   .exact hs i j i1 ij (by omega)
 .rintro c st2⟨ys,rfl,hc,hx,sg⟩;exact wpS_pure (q ys st2 hc hx sg)
end
noncomputable abbrev Rn:=Nat×Nat×Nat
section
variable{K:Keyed->Int}{xs ys:Array Keyed}
def CQ(K:Keyed->Int)(xs:Array Keyed):Nat->List Rn->Nat->Prop|a,[],b=>a=b|a,r::l,b=>r.1=a/\1<=r.2.1/\Seg K xs a (a+r.2.1)/\CQ K xs (a+r.2.1) l b
theorem fC:∀{l k:List Rn}{a b:Nat},CQ K xs a (l++k) b↔∃m,CQ K xs a l m/\CQ K xs m k b
 |[],k,a,b=>⟨fun h=>⟨a,rfl,h⟩,fun⟨m,h1,h2⟩=>by cases(show a=m from h1);exact h2⟩|r::l,k,a,b=>by
   rw[cons_append];constructor;.rintro⟨h1,h2,h3,h4⟩;obtain⟨m,h5,h6⟩:=fC.mp h4;exact⟨m,⟨h1,h2,h3,h5⟩,h6⟩
   .rintro⟨m,⟨h1,h2,h3,h4⟩,h5⟩;exact⟨h1,h2,h3,fC.mpr ⟨m,h4,h5⟩⟩
theorem pW:∀{l:List Rn}{a b:Nat},CQ K xs a l b->a+l.length<=b|[],a,b,h=>by cases(show a=b from h);simp|r::l,a,b,⟨_,h2,_,h4⟩=>by have:=pW h4;simp only[length_cons];omega
theorem wD{lo hi:Nat}(h:∀i,lo<=i->i<hi->it ys i=it xs i)(s:Seg K xs lo hi):Seg K ys lo hi:=fun i j i1 ij jn=>by rw[h i i1 (by omega),h j (by omega) jn];exact s i j i1 ij jn
theorem lz:∀{l:List Rn}{a b:Nat},(∀i,a<=i->i<b->it ys i=it xs i)->CQ K xs a l b->CQ K ys a l b|[],_,_,_,h=>h|r::l,a,b,e,⟨h1,h2,h3,h4⟩=>by have:=pW h4;exact⟨h1,h2,wD (fun i i1 i2=>e i i1 (by omega)) h3,lz (fun i i1 i2=>e i (by omega) i2) h4⟩
theorem Jo{r r':Rn}{a b:Nat}(h1:r'.1=r.1)(h2:r'.2.1=r.2.1){l:List Rn}(h:CQ K xs a (l++[r]) b):CQ K xs a (l++[r']) b:=by obtain⟨m,g1,g2,g3,g4,g5⟩:=fC.mp h;exact fC.mpr ⟨m,g1,h1.trans g2,by omega,by rw[h2];exact g4,by rw[h2];exact g5⟩
theorem Jp{lo:Nat}(h:ys.toList.take lo=xs.toList.take lo)(i:Nat)(hi:i<lo):it ys i=it xs i:=by rw[gR,gR,getD_eq_getElem?_getD,getD_eq_getElem?_getD];have e:=congrArg (fun l=>l[i]?) h;simp only[getElem?_take,hi,if_true]at e;rw[e]
theorem Bq{hi:Nat}(h:ys.toList.drop hi=xs.toList.drop hi)(i:Nat)(h1:hi<=i):it ys i=it xs i:=by rw[gR,gR,getD_eq_getElem?_getD,getD_eq_getElem?_getD];have e:=congrArg (fun l=>l[i-hi]?) h;simp only[List.getElem?_drop,show hi+(i-hi)=i by omega]at e;rw[e]
theorem IW{l1 l2:List Rn}{a b:Nat}{r1 r2:Rn}{p:Nat}(h:CQ K xs a (l1++r1::r2::l2) b)(g:Uk K xs ys r1.1 (r2.1+r2.2.1)):CQ K ys a (l1++(r1.1,r1.2.1+r2.2.1,p)::l2) b:=by
 obtain⟨m,g1,g2,g3,g4,g5,g6,g7,g8⟩:=fC.mp h;subst g2;have e:=pW g8;refine fC.mpr ⟨r1.1,lz (fun i i1 i2=>Jp g.pre i i2) g1,rfl,by show 1<=r1.2.1+r2.2.1;omega,?_,?_⟩;.show Seg K ys r1.1 (r1.1+(r1.2.1+r2.2.1));have:=g.seg;rw[g5]at this;rwa[<-Nat.add_assoc]
 .show CQ K ys (r1.1+(r1.2.1+r2.2.1)) l2 b;rw[<-Nat.add_assoc];exact lz (fun i i1 i2=>Bq g.post i (by rw[g5];exact i1)) g8
theorem Hb{l:List Rn}{i:Nat}(h:i+1<l.length):∃l1 r1 r2 l2,l=l1++r1::r2::l2/\l1.length=i:=by refine⟨l.take i,l[i],l[i+1],l.drop (i+2),?_,by simp;omega⟩;rw[<-drop_eq_getElem_cons (by omega),<-drop_eq_getElem_cons (by omega),List.take_append_drop]
theorem oR:∀{l:List Rn},l≠[]->∃k r,l=k++[r]|[],h=>absurd rfl h|[r],_=>⟨[],r,rfl⟩|r::x::l,_=>by obtain⟨k,q,e⟩:=oR (l:=x::l) (by simp);exact⟨r::k,q,by rw[e];rfl⟩
theorem zW(x r1 r2:Rn)(l2:List Rn):∀l1:List Rn,((l1++r1::r2::l2).set l1.length x).eraseIdx (l1.length+1)=l1++x::l2|[]=>rfl|r::l1=>by show r::((l1++r1::r2::l2).set l1.length x).eraseIdx (l1.length+1)=r::(l1++x::l2);rw[zW x r1 r2 l2 l1]
end
section
variable{M:Model}{A:Around}{E:Value->Shared->Prop}{s:Shared}{κ:SortKind}{ok:Keyed->Prop}{K:Keyed->Int}
structure SR(κ:SortKind)(ok:Keyed->Prop)(K:Keyed->Int)(x0 ys:Array Keyed)(l:List Rn)(lo:Nat)(st:SortSt):Prop where
 kind:kindOf st=κ
 arr:arrOf st=ys
 fail:failedOf st=none
 pend:(pendingOf st).toList=l
 perm:ys.toList.Perm x0.toList
 ok:∀x∈ys.toList,ok x
 Vr:CQ K ys 0 l lo
 le:lo<=ys.size
theorem SR.sx{x0 ys:Array Keyed}{l:List Rn}{lo:Nat}{st:SortSt}(h:SR κ ok K x0 ys l lo st):Sx κ ok st ys st:=⟨h.kind,h.arr,rfl,h.fail,h.ok⟩
theorem Ae(R:Rk M A E s κ ok K){x0 ys:Array Keyed}{l:List Rn}{lo i:Nat}{st:SortSt}{Q:Bool->SortSt->Prop}(h:SR κ ok K x0 ys l lo st)(hi:i+1<l.length)(q:∀zs k st2,SR κ ok K x0 zs k lo st2->k.length+1=l.length->(∀j,lo<=j->it zs j=it ys j)->Q true st2):wpS M A E s (mergeAt' i) Q st:=by
 obtain⟨l1,r1,r2,l2,e,hl⟩:=Hb hi;have hr:=h.Vr;rw[e]at hr;obtain⟨m,g1,g2,g3,g4,g5,g6,g7,g8⟩:=fC.mp hr;have hle:=pW g8;have hz:=h.le;have hp:=h.pend;have ei:(pendingOf st)[i]?=some (r1.1,r1.2.1,r1.2.2):=by rw[<-Array.getElem?_toList,hp,e,<-hl];simp
 have ej:(pendingOf st)[i+1]?=some (r2.1,r2.2.1,r2.2.2):=by rw[<-Array.getElem?_toList,hp,e,<-hl];simp
 refine RW R h.kind (by rw[h.arr];exact h.ok) h.fail ei ej (by omega) g3 g6 (by rw[h.arr];omega) (by rw[h.arr,g2,g5];exact g4) (by rw[h.arr,g5];exact g7) fun st2 a1 a2 a3 a4=>?_;rw[h.arr]at a4;have hr2:=IW (p:=r1.2.2) hr a4;refine q (arrOf st2) (l1++(r1.1,r1.2.1+r2.2.1,r1.2.2)::l2) st2 ⟨a1,rfl,a2,?_,a4.perm.trans h.perm,fun x hx=>h.ok x (a4.perm.mem_iff.mp hx),hr2,?_⟩ (by rw[e];simp only[length_append,length_cons];omega) fun j hj=>Bq a4.post j (by omega);.rw[a3];rw[Array.toList_eraseIdxIfInBounds,Array.toList_setIfInBounds,hp,e,<-hl];exact zW _ _ _ _ _
 .have:=a4.perm.length_eq;simp only[length_toList]at this;omega
end
section
variable{M:Model}{A:Around}{E:Value->Shared->Prop}{s:Shared}{κ:SortKind}{ok:Keyed->Prop}{K:Keyed->Int}
theorem SR.move{x0 ys zs:Array Keyed}{l:List Rn}{lo:Nat}{st st2:SortSt}(h:SR κ ok K x0 ys l lo st)(c:nW ys zs lo)(x:Sx κ ok st zs st2):SR κ ok K x0 zs l lo st2:=⟨x.kind,x.arr,x.fail,by rw[x.pend];exact h.pend,c.perm.trans h.perm,x.ok,lz (fun i _ i2=>c.pre i i2) h.Vr,by rw[c.size];exact h.le⟩
theorem wO{r:Rn}{f:Rn->Rn}:∀k:List Rn,(k++[r]).modify (k.length+1-1) f=k++[f r]|[]=>rfl|x::k=>by show x::(k++[r]).modify k.length f=x::(k++[f r]);rw[<-wO k];rfl
theorem oM{p:Array Rn}{k:List Rn}{r:Rn}{f:Rn->Rn}(h:p.toList=k++[r]):(p.modify (p.size-1) f).toList=k++[f r]:=by
 have hz:p.size=k.length+1:=by rw[<-length_toList,h];simp
 rw[Array.toList_modify,h,hz];exact wO k
theorem SR.push{x0 ys:Array Keyed}{l:List Rn}{lo n:Nat}{st:SortSt}(h:SR κ ok K x0 ys l lo st)(h1:1<=n)(h2:lo+n<=ys.size)(hs:Seg K ys lo (lo+n)):SR κ ok K x0 ys (l++[(lo,n,0)]) (lo+n) (setPending st ((pendingOf st).push (lo,n,0))):=⟨h.kind,h.arr,h.fail,by show((pendingOf st).push (lo,n,0)).toList=_;rw[toList_push,h.pend],h.perm,h.ok,fC.mpr ⟨lo,h.Vr,rfl,h1,hs,rfl⟩,h2⟩
theorem SR.pow{x0 ys:Array Keyed}{l:List Rn}{lo pw:Nat}{st:SortSt}(h:SR κ ok K x0 ys l lo st)(hl:l≠[]):∃k,k≠[]/\SR κ ok K x0 ys k lo (setPending st ((pendingOf st).modify ((pendingOf st).size-1) fun(a,b,_)=>(a,b,pw))):=by obtain⟨k,r,e⟩:=oR hl;have hr:=h.Vr;have hp:=h.pend;rw[e]at hr hp;exact⟨k++[(r.1,r.2.1,pw)],by simp,h.kind,h.arr,h.fail,oM hp,h.perm,h.ok,Jo (r:=r) (r':=(r.1,r.2.1,pw)) rfl rfl hr,h.le⟩
theorem Rq{p:Prop}[Decidable p]{a n:Nat}(h:a+1<n):(if p then a-1 else a)+1<n:=by split<;>omega
theorem Je(R:Rk M A E s κ ok K){x0:Array Keyed}{Q:Unit->SortSt->Prop}{st:SortSt}(h:SR κ ok K x0 x0 [] 0 st)(q:∀ys st',arrOf st'=ys->failedOf st'=none->ys.toList.Perm x0.toList->Seg K ys 0 ys.size->Q () st'):wpS M A E s sortRuns' Q st:=by
 rw[sortRuns'_eq];refine wpS_bind (wpS_get ?_);dsimp only;simp only[h.arr];have big:∀{ys l lo st},SR κ ok K x0 ys l lo st->ys.size=x0.size:=fun h=>by simpa using h.perm.length_eq
 generalize minRun' x0.size x0.size 0=mr;refine wpS_bind (wpS_mono (wpS_forRange (I:=fun x c st'=>∃ys l lo,c=(none,lo)/\SR κ ok K x0 ys l lo st'/\x<=lo) (Q:=fun c st'=>∃ys l,c=(none,x0.size)/\SR κ ok K x0 ys l x0.size st') ?_ ?_ ⟨x0,[],0,rfl,h,le_refl _⟩) ?_)
 . rintro x c st1 _ hx⟨ys,l,lo,rfl,hS,hlo⟩;have hz:=big hS;have hle:=hS.le;dsimp only;by_cases c1:lo ≥ x0.size
   . rw[if_pos c1];have:lo=x0.size:=by omega
     subst this;exact wpS_pure ⟨ys,l,rfl,hS⟩
   rw[if_neg c1];refine wpS_bind (Gz R hS.sx (lo:=lo) (n:=x0.size-lo) (by omega) (by omega) fun ys1 st2 m ch hx1 m1 m2 sg=>?_);have hS1:=hS.move ch hx1;have hz1:=big hS1;dsimp only;by_cases c2:m<mr;case' pos=>
    rw[if_pos c2];refine wpS_bind (wpS_lift (wpAny_rule ⟨rfl,?_⟩));refine wpS_bind (Sh R hx1 (lo:=lo) (n:=min (x0.size-lo) mr) (by omega) (by omega) sg fun Oh st3 ch2 hx2 sg2=>?_);simp only[Bool.not_true,false_eq_true,if_false];replace hS1:=hS.move (ch.trans ch2) hx2;replace hz1:=big hS1;replace m1:1<=min (x0.size-lo) mr:=by omega
    replace m2:min (x0.size-lo) mr<=x0.size-lo:=by omega
    generalize min (x0.size-lo) mr=n at*
   case' neg=>rw[if_neg c2];clear ch;obtain⟨Oh,hys⟩:∃Oh,Oh=ys1:=⟨_,rfl⟩;obtain⟨st3,hst⟩:∃st3,st3=st2:=⟨_,rfl⟩;obtain⟨n,hn⟩:∃n,n=m:=⟨_,rfl⟩;subst hys hst hn;have sg2:=sg
   all_goals refine wpS_bind (wpS_get ?_);cases hb:(pendingOf st3).back? with|none=>dsimp only;exact wpS_bind (wpS_modify (wpS_pure ⟨Oh,_,lo+n,rfl,hS1.push m1 (by omega) sg2,by omega⟩))|some r=>
      obtain⟨s1,n1,p1⟩:=r;dsimp only;have hne:l≠[]:=by rintro rfl;have:pendingOf st3=#[]:=Array.toList_inj.mp hS1.pend;rw[this]at hb;exact nomatch hb
      generalize power' x0.size (2*s1+n1) (2*s1+n1+n1+n) x0.size=pw;refine wpS_bind (wpS_mono (wpS_forRange (I:=fun _ c st'=>∃ys k,c=(none,())/\k≠[]/\SR κ ok K x0 ys k lo st'/\∀j,lo<=j->it ys j=it Oh j) (Q:=fun c st'=>∃ys k,c=(none,())/\k≠[]/\SR κ ok K x0 ys k lo st'/\∀j,lo<=j->it ys j=it Oh j) ?_ (fun _ _ h=>h) ⟨Oh,l,rfl,hne,hS1,fun _ _=>rfl⟩) ?_)
      . rintro y c Iz _ _⟨ys3,k,rfl,hk,Vs,sm⟩;refine wpS_bind (wpS_get ?_);try dsimp only
        have stop:∃ys k,((none,()):Option Unit×Unit)=(none,())/\k≠[]/\SR κ ok K x0 ys k lo Iz/\∀j,lo<=j->it ys j=it Oh j:=⟨ys3,k,rfl,hk,Vs,sm⟩;split
        . rename_i older ho;split;.exact wpS_pure stop
          . have hp1:(pendingOf Iz).size>1:=by
             by_cases hh:(pendingOf Iz).size>1;.exact hh
             .rw[if_neg hh]at ho;exact nomatch ho
            have hkl:k.length=(pendingOf Iz).size:=by rw[<-Vs.pend];simp
            refine wpS_bind (Ae R Vs (by omega) fun zs k2 LK hS5 hk2 Vt=>?_);simp only[Bool.not_true,false_eq_true,if_false];exact wpS_pure ⟨zs,k2,rfl,by rintro rfl;simp at hk2;omega,hS5,fun j hj=>(Vt j hj).trans (sm j hj)⟩
        .exact wpS_pure stop
      .rintro c Iz⟨ys3,k,rfl,hk,Vs,sm⟩;dsimp only;obtain⟨k2,_,hS4⟩:=Vs.pow (pw:=pw) hk;refine wpS_bind (wpS_modify ?_);have hz3:=big Vs;exact wpS_bind (wpS_modify (wpS_pure ⟨ys3,_,lo+n,rfl,hS4.push m1 (by omega) (wD (fun i i1 _=>sm i i1) sg2),by omega⟩))
 . rintro c st1⟨ys,l,lo,rfl,hS,hlo⟩;have:=hS.le;have:=big hS;have:lo=x0.size:=by omega
   subst this;exact⟨ys,l,rfl,hS⟩
 . rintro c st1⟨ys,l,rfl,hS⟩;dsimp only;have hl:=pW hS.Vr;refine wpS_bind (wpS_mono (wpS_forRange (I:=fun x c st'=>∃ys l,c=(none,())/\SR κ ok K x0 ys l x0.size st'/\l.length<=max 1 (x0.size-x)) (Q:=fun c st'=>∃ys l,c=(none,())/\SR κ ok K x0 ys l x0.size st'/\l.length<=1) ?_ ?_ ⟨ys,l,rfl,hS,by omega⟩) ?_)
   . rintro x c st2 _ hx⟨zs,k,rfl,hZ,hk⟩;refine wpS_bind (wpS_get ?_);try dsimp only
     have hkl:k.length=(pendingOf st2).size:=by rw[<-hZ.pend];simp
     by_cases c1:(pendingOf st2).size<=1;.rw[if_pos c1];exact wpS_pure ⟨zs,k,rfl,hZ,by omega⟩
     rw[if_neg c1];refine wpS_bind (Ae R hZ (Rq (by omega)) fun zs2 k2 LK hS5 hk2 _=>?_);simp only[Bool.not_true,false_eq_true,if_false];exact wpS_pure ⟨zs2,k2,rfl,hS5,by omega⟩
   .rintro c st2⟨zs,k,rfl,hZ,hk⟩;exact⟨zs,k,rfl,hZ,by omega⟩
   .rintro c st2⟨zs,k,rfl,hZ,hk⟩;dsimp only;have hz:=big hZ;refine wpS_pure (q zs st2 hZ.arr hZ.fail hZ.perm ?_);match k,hk,hZ.Vr with|[],_,e=>have e:0=x0.size:=e;intro i j _ _ _;omega|[r],_,⟨_,_,g,e⟩=>have e:0+r.2.1=x0.size:=e;rw[e]at g;rwa[hz]
end
end HH
end
section
namespace HH
open PySem PySem.W PyProof.Rows PySem.Calls L2 PySem.Spec
theorem Cv{α β:Type}{f:α->β}{l' m:List β}(h:l'.Perm m):∀{l:List α},m=l.map f->∃k:List α,k.Perm l/\k.map f=l':=by induction h with
 |nil=>intro l e;cases l with|nil=>exact⟨[],.refl _,rfl⟩|cons _ _=>cases e
 |cons x h ih=>intro l e;cases l with|nil=>cases e|cons a l=>obtain⟨e1,e2⟩:=List.cons.inj e;obtain⟨k,h1,h2⟩:=ih e2;exact⟨a::k,h1.cons a,by rw[map_cons,h2,e1]⟩
 |swap x y l0=>intro l e;match l,e with|a::b::l,e=>obtain⟨e1,e2⟩:=List.cons.inj e;obtain⟨e3,e4⟩:=List.cons.inj e2;exact⟨b::a::l,.swap ..,by rw[map_cons,map_cons,e1,e3,e4]⟩
 |trans h1 h2 ih1 ih2=>intro l e;obtain⟨k,p1,e1⟩:=ih2 e;obtain⟨k2,p2,e2⟩:=ih1 e1.symm;exact⟨k2,p2.trans p1,e2⟩
theorem Lk(a:List Int):aW a a=false:=by cases h:aW a a with|false=>rfl|true=>rw[kj _ _ h]at h;cases h
theorem Hr{a b x:List Int}(h:aW b a=false)(hx:aW x a=true):aW x b=true:=by cases e:aW x b with|true=>rfl|false=>rw[yR _ _ _ h e]at hx;cases hx
theorem rC{α:Type}{p q:α->Bool}(h:∀x,p x=true->q x=true):∀{l:List α},(∃x,x∈l/\q x=true/\p x=false)->l.countP p<l.countP q
 |[],⟨x,hx,_⟩=>by cases hx|y::l,⟨x,hx,h1,h2⟩=>by
   rw[List.countP_cons,List.countP_cons];have m:=List.countP_mono_left (l:=l) (p:=p) (q:=q) fun x _=>h x;rcases mem_cons.mp hx with rfl|hx;.rw[h1,h2,if_pos rfl,if_neg (by simp)];omega
   .have:=rC h ⟨x,hx,h1,h2⟩;cases hp:p y with|true=>rw[h y hp];omega|false=>rw[if_neg (by simp)];omega
noncomputable def QF(ds:List D)(d:D):Nat:=ds.countP fun e=>aW (bD e) (bD d)
theorem Hj{ds:List D}{d e:D}(hd:d∈ds):decide ((QF ds d:Int)<QF ds e)=aW (bD d) (bD e):=by cases h:aW (bD d) (bD e)with|true=>have:=rC (l:=ds) (p:=fun x=>aW (bD x) (bD d)) (q:=fun x=>aW (bD x) (bD e)) (fun x hx=>Hr (kj _ _ h) hx) ⟨d,hd,h,Lk _⟩;rw[decide_eq_true_iff];unfold QF;omega|false=>have:=List.countP_mono_left (l:=ds) (p:=fun x=>aW (bD x) (bD e)) (q:=fun x=>aW (bD x) (bD d)) fun x _ hx=>Hr h hx;rw[decide_eq_false_iff_not];unfold QF;omega
open Classical in
noncomputable def rkK(P:Value->D->Prop)(ds:List D)(x:Keyed):Int:=if h:∃d,d∈ds/\P x.1 d then(QF ds h.choose:Int)else 0
theorem zG{P:Value->D->Prop}{ds:List D}{x:Keyed}{d:D}(fn:∀u d e,P u d->P u e->bD d=bD e)(hd:d∈ds)(hp:P x.1 d):rkK P ds x=QF ds d:=by have h:∃d,d∈ds/\P x.1 d:=⟨d,hd,hp⟩;unfold rkK;rw[dif_pos h];unfold QF;rw[fn _ _ _ h.choose_spec.2 hp]
noncomputable def pick{α:Type}(d:α)(p:List Nat)(l:List α):List α:=p.map fun i=>l.getD i d
theorem pg{α:Type}(d:α)(l:List α):pick d (List.range l.length) l=l:=by refine List.ext_getElem (by simp[pick]) fun i h1 h2=>?_;simp[pick,h2]
theorem lD{α:Type}{d:α}{p:List Nat}{l:List α}{n:Nat}(h:p.Perm (List.range n)):(pick d p l).length=n:=by rw[pick,length_map,h.length_eq,length_range]
theorem jd{P:Value->D->Prop}:∀{us:List Value}{ds:List D},Paired P us ds->∀i,i<us.length->P (us.getD i .none) (ds.getD i .non)/\ds.getD i .non∈ds|_,_,.cons r _,0,_=>⟨by simpa using r,by simp⟩|_,_,.cons _ t,i+1,hi=>by have:=jd t i (by simpa using hi);exact⟨by simpa using this.1,by simpa using Or.inr this.2⟩
section
variable{prog:Program}{w:World}{A:Around}{E:Value->Shared->Prop}{s:Shared}{vs:List Value}{κ:SortKind}{P:Value->D->Prop}{ds:List D}
theorem qK{a:Addr}{n:Nat}{O:PySem.Fin->Shared->Prop}(ho:s.heap.get? a=some (seqObj "list" vs.toArray n))(so:sortable ds=true)(hz:vs.length<=16777216)(pr:Paired P vs ds)(fn:∀u d e,P u d->P u e->bD d=bD e)(hk:∀h',(∀b o,b≠a->s.heap.get? b=some o->h'.get? b=some o)->∀C:SortKind->Shared->Prop,C κ {s with heap:=h'}->2<=vs.length->wpAny (model prog w) A (keyKind' vs.toArray) C (fun _ _=>False) {s with heap:=h'})(hl:∀h',(∀b o,b≠a->s.heap.get? b=some o->h'.get? b=some o)->∀u v d e,P u d->P v e->∀C:Bool->Shared->Prop,C (aW (bD d) (bD e)) {s with heap:=h'}->wpAny (model prog w) A (keyLt' κ u v) C (fun _ _=>False) {s with heap:=h'})(h:∀h' c p,(∀b o,b≠a->s.heap.get? b=some o->h'.get? b=some o)->p.Perm (List.range vs.length)->pick .non p ds=nJ ds->h'.get? a=some (seqObj "list" (pick .none p vs).toArray c)->O (.done (.ret .none)) {s with heap:=h'}):wpAny (model prog w) A (Builtin.«list.sort» ⟨[.ref a],[]⟩) O E s:=by
 have ha:a<s.heap.objs.size:=lt_size ho;have hld:vs.length=ds.length:=Paired.length pr;obtain⟨e1,ho1⟩:∃e1,(s.heap.update a (Obj.mapSeq fun _=>(#[]:Array Value))).get? a=some (seqObj "list" #[] e1):=⟨_,get?_update_seq ho fun _=>#[]⟩;rw[list_sort_plain];refine wpAny_bind (listItems_at ho rfl ?_);refine wpAny_bind (listUpdate_at ho rfl ?_ (by rw[size_toArray,sizeLine_eq];omega) (zero_le _));refine wpAny_bind (seqEpoch_at ho1 rfl ?_);refine wpAny_bind (wpAny_newTuple ?_ (by show vs.length<=_;rw[sizeLine_eq];omega));refine wpAny_bind (wpAny_newList ?_ (zero_le _));refine wpAny_holding ?_;generalize hH:(((s.heap.update a (Obj.mapSeq fun _=>(#[]:Array Value))).push {cls:=.type "tuple",data:=.seq vs.toArray}).push {cls:=.type "list",data:=.seq #[]}:Heap)=H1;have Yq:H1.get? a=some (seqObj "list" #[] e1):=by rw[<-hH];exact get?_push_of_some _ (get?_push_of_some _ ho1)
 have keep:∀b o,b≠a->s.heap.get? b=some o->H1.get? b=some o:=fun b o hb e=>by rw[<-hH];exact get?_push_of_some _ (get?_push_of_some _ ((get?_update_other _ _ (Ne.symm hb)).trans e))
 have fin:∀p:List Nat,p.Perm (List.range vs.length)->pick .non p ds=nJ ds->O (.done (.ret .none)) {s with heap:=H1.update a (Obj.mapSeq fun _=>List.toArray (pick .none p vs))}:=by intro p h1 h2;obtain⟨c2,hc2⟩:∃c2,(H1.update a (Obj.mapSeq fun _=>List.toArray (pick Value.none p vs))).get? a=some (seqObj "list" (pick Value.none p vs).toArray c2):=⟨_,get?_update_seq Yq fun _=>List.toArray (pick Value.none p vs)⟩;exact h _ c2 p (fun b o hb e=>(get?_update_other _ _ (Ne.symm hb)).trans (keep b o hb e)) h1 h2 hc2
 show wpAny (model prog w) A _ O E {s with heap:=H1};dsimp only;by_cases h2:vs.toArray.size<2
 . rw[if_pos h2,if_pos h2];refine wpAny_bind (wpAny_pure ?_);rw[StateT.run_pure];refine wpAny_bind (wpAny_pure ?_);dsimp only;have eo:(arrOf (SortSt.mk' general' (vs.toArray.zip vs.toArray) #[] 7 none)).map (·.2)=List.toArray (pick Value.none (List.range vs.length) vs):=by rw[pg];apply Array.toList_inj.mp;show((vs.toArray.zip vs.toArray).map (·.2)).toList=vs;simp[List.map_snd_zip]
   rw[eo];refine wpAny_bind (seqEpoch_at Yq rfl ?_);refine wpAny_bind (listUpdate_at Yq rfl ?_ (zero_le _) (by rw[size_toArray,lD (.refl _),sizeLine_eq];omega));simp only[bne_self_eq_false,false_eq_true,if_false];refine wpAny_pure (fin _ (.refl _) ?_);rw[hld,pg];refine uX so (.refl _) ?_;match ds,(show ds.length<2 by simp at h2;omega)with|[],_=>exact .nil|[_],_=>exact List.pairwise_singleton ..|_::_::_,h2=>simp at h2;omega
 . rw[if_neg h2,if_neg h2];have h2':2<=vs.length:=by simpa using h2
   refine wpAny_bind (hk H1 keep _ ?_ h2'|>fun q=>wpAny_mono q (fun _ _ x=>x) fun _ _ x=>x.elim);have hzl:(vs.toArray.zip vs.toArray).toList=(List.range vs.length).map fun i=>(vs.getD i Value.none,vs.getD i Value.none):=by
    refine List.ext_getElem (by simp) fun i h1 h2=>?_;have:i<vs.length:=by simpa using h2
    simp[this]
   have okk:∀x∈(vs.toArray.zip vs.toArray).toList,∃d,d∈ds/\P x.1 d:=fun x hx=>by rw[hzl]at hx;obtain⟨i,hi,rfl⟩:=mem_map.mp hx;have:=jd pr i (mem_range.mp hi);exact⟨_,this.2,this.1⟩
   have R:Rk (model prog w) A E {s with heap:=H1} κ (fun x=>∃d,d∈ds/\P x.1 d) (rkK P ds):=⟨by rintro x y Q st⟨d,d1,d2⟩⟨e,e1,e2⟩hkd hq;rw[zG fn d1 d2,zG fn e1 e2,Hj d1]at hq;rw[lt'_eq];refine wpS_bind (wpS_get ?_);rw[hkd];refine wpS_bind (wpS_lift (wpAny_attempt (wpAny_mono (hl H1 keep x.1 y.1 d e d2 e2 (fun b s'=>s'={s with heap:=H1}/\b=aW (bD d) (bD e)) ⟨rfl,rfl⟩) ?_ fun _ _ h=>h.elim)));rintro b s'⟨rfl,rfl⟩;exact⟨rfl,wpS_pure hq⟩⟩;have run:=Je R (x0:=vs.toArray.zip vs.toArray) (st:=SortSt.mk' κ (vs.toArray.zip vs.toArray) #[] 7 none) (Q:=fun _ st'=>∃p:List Nat,p.Perm (List.range vs.length)/\pick .non p ds=nJ ds/\(arrOf st').map (·.2)=(pick Value.none p vs).toArray/\failedOf st'=none) ⟨rfl,rfl,rfl,rfl,.refl _,okk,rfl,zero_le _⟩ fun ys st' e1 e2 e3 e4=>by
     rw[hzl]at e3;obtain⟨p,p1,p2⟩:=Cv e3 rfl;have hpl:p.length=vs.length:=by rw[p1.length_eq,length_range]
     have hys:ys.size=vs.length:=by rw[<-length_toList,<-p2,length_map,hpl]
     refine⟨p,p1,uX so ?_ ?_,?_,e2⟩;.have:=p1.map fun i=>ds.getD i .non;rw[hld]at this;exact this.trans (.of_eq (pg D.non ds))
     . rw[List.pairwise_iff_getElem];intro i j hi hj hij;simp only[pick,length_map]at hi hj;have sg:=e4 i j (zero_le _) (by omega) (by omega);have at':∀k(hk:k<p.length),it ys k=(vs.getD p[k] .none,vs.getD p[k] .none):=fun k hk=>by rw[gR,<-p2];simp[hk]
       have inn:∀k(hk:k<p.length),p[k]<vs.length:=fun k hk=>mem_range.mp (p1.mem_iff.mp (getElem_mem hk));rw[at' i hi,at' j hj]at sg;have a1:=jd pr p[i] (inn i hi);have a2:=jd pr p[j] (inn j hj);rw[zG fn a1.2 a1.1,zG fn a2.2 a2.1]at sg;simp only[pick,List.getElem_map,j8,not_eq_true'];rw[<-Hj a2.2,decide_eq_false_iff_not];omega
     .apply Array.toList_inj.mp;rw[e1,Array.toList_map,<-p2,map_map];rfl
   refine wpAny_bind (wpAny_mono run ?_ fun _ _ e=>e);rintro⟨⟨⟩,st'⟩s'⟨rfl,p,p1,p2,hout,hf⟩;dsimp only;rw[hout];refine wpAny_bind (seqEpoch_at Yq rfl ?_);refine wpAny_bind (listUpdate_at Yq rfl ?_ (zero_le _) (by rw[size_toArray,lD p1,sizeLine_eq];omega));rw[hf];simp only[bne_self_eq_false,false_eq_true,if_false];exact wpAny_pure (fin _ p1 p2)
end
end HH
end
section
namespace HH
open PySem L2 PySem.Spec PyProof.Rows PySem.Calls PySem.W
section
variable{prog:Program}{w:World}{A:Around}{E:Value->Shared->Prop}{s:Shared}{vs:List Value}{κ:SortKind}{P:Value->D->Prop}{ds:List D}
theorem mW{l:Addr}{Q:Value->Shared->Prop}(hl:s.heap.IsList l vs.toArray)(so:sortable ds=true)(hz:vs.length<=16777216)(pr:Paired P vs ds)(fn:∀u d e,P u d->P u e->bD d=bD e)(hk:∀h',(∀b o,s.heap.get? b=some o->h'.get? b=some o)->∀C:SortKind->Shared->Prop,C κ {s with heap:=h'}->2<=vs.length->wpAny (model prog w) A.in1.in1 (keyKind' vs.toArray) C (fun _ _=>False) {s with heap:=h'})(hlt:∀h',(∀b o,s.heap.get? b=some o->h'.get? b=some o)->∀u v d e,P u d->P v e->∀C:Bool->Shared->Prop,C (aW (bD d) (bD e)) {s with heap:=h'}->wpAny (model prog w) A.in1.in1 (keyLt' κ u v) C (fun _ _=>False) {s with heap:=h'})(h:∀h' c p,(∀b o,s.heap.get? b=some o->h'.get? b=some o)->p.Perm (List.range vs.length)->pick .non p ds=nJ ds->h'.get? (s.heap.objs.size+1)=some (seqObj "list" (pick .none p vs).toArray c)->Q (.ref (s.heap.objs.size+1)) {s with heap:=h'}):wpAny (model prog w) A (call (.builtin "sorted") [.ref l]) Q E s:=by
 refine Calls.call_function_entry kind_sorted plain_sorted entry_sorted (args_sorted1 _) ?_;unfold Builtin.«sorted»;refine wpAny_bind (m:=checkCount "sorted" 1 1 _) (wpAny_pure ?_);refine wpAny_bind (collect_list hl ?_ (by rw[sizeLine_eq];omega));refine wpAny_bind (wpAny_newList ?_ (by rw[sizeLine_eq];omega));generalize hH:((s.heap.push (seqObj "list" #[] 0)).update s.heap.objs.size (Obj.mapSeq (·++vs.toArray)):Heap)=H1;have hsz:H1.objs.size=s.heap.objs.size+1:=by rw[<-hH,Heap.size_update,size_push']
 have keep:∀b o,s.heap.get? b=some o->H1.get? b=some o:=fun b o q=>by rw[<-hH,Heap.get?_update_ne _ _ _ _ (ne_of_lt (lt_size q))];exact get?_push_of_some _ q
 generalize hG:(H1.push {cls:=.type "list",data:=.seq vs.toArray}:Heap)=H2;have ho:H2.get? (s.heap.objs.size+1)=some (seqObj "list" vs.toArray 0):=by rw[<-hG,<-hsz];exact get?_push_size _ rfl
 have qg:∀b o,s.heap.get? b=some o->H2.get? b=some o:=fun b o q=>by rw[<-hG];exact get?_push_of_some _ (keep b o q)
 have hne:∀b o,s.heap.get? b=some o->b≠s.heap.objs.size+1:=fun b o q=>ne_of_lt (Nat.lt_succ_of_lt (lt_size q));show wpAny _ _ _ _ _ {s with heap:=H2};rw[hsz];refine wpAny_bind (wpAny_holding (wpAny_call_entry slot_list_sort ⟨_,ho,rfl⟩ entry_list_sort ?body (args_list_sort _)));case body=>refine qK (s:={s with heap:=H2}) (κ:=κ) ho so hz pr fn (fun h' k' C hC h2=>hk h' (fun b o q=>k' b o (hne b o q) (qg b o q)) C hC h2) (fun h' k' u v d e hd he C hC=>hlt h' (fun b o q=>k' b o (hne b o q) (qg b o q)) u v d e hd he C hC) fun h' c p k' p1 p2 e=>?_;exact⟨_,rfl,wpAny_pure ⟨_,rfl,h h' c p (fun b o q=>k' b o (hne b o q) (qg b o q)) p1 p2 e⟩⟩
theorem mZ{b fin:Bool}{Q:Bool->Shared->Prop}:∀{xs ys:List Value}{is js:List Int}{i:Nat},IntsAre xs is->IntsAre ys js->fin=decide (is.length<js.length)->Q (aW is js) s->KatLex prog w A b fin Q (xs.zip ys) i s
 |_,_,_,_,_,.nil,.nil,e,h=>by subst e;exact kat_nil (by simpa[aW]using h)|_,_,_,_,_,.nil,.cons _ _ _,e,h=>by subst e;exact kat_nil (by simpa[aW]using h)|_,_,_,_,_,.cons _ _ _,.nil,e,h=>by subst e;exact kat_nil (by simpa[aW]using h)|_,_,_,_,i,.cons (ns:=is) x t r,.cons (ns:=js) y u r',e,h=>by
   refine kat_cons (wpAny_eqBool_int ?_);by_cases q:x=y;.subst q;rw[beq_self_eq_true];refine kat_yes (mZ r r' (by rw[e];simp) ?_);simpa[aW]using h
   . rw[beq_eq_false_iff_ne.mpr q];refine kat_no ?_;have hx:Q (decide (x<y)) s:=by simpa[aW,q]using h
     cases(b&&i==0)with|true=>exact oneLt_int hx|false=>exact kat_one _ _ (wpAny_lt_int hx)
def my(h:Heap)(u:Value)(d:D):Prop:=∃a its is,u=.ref a/\IsTup h a (List.toArray its)/\IntsAre its is/\is≠[]/\bD d=is
theorem fW{h h':Heap}(k:∀b o,h.get? b=some o->h'.get? b=some o){u:Value}{d:D}(t:my h u d):my h' u d:=by obtain⟨a,its,is,e,⟨o,h1,h2⟩,h3⟩:=t;exact⟨a,its,is,e,⟨o,k _ _ h1,h2⟩,h3⟩
theorem lV{h h':Heap}(k:∀b o,h.get? b=some o->h'.get? b=some o):∀{us:List Value}{ds:List D},Paired (my h) us ds->Paired (my h') us ds|_,_,.nil=>.nil|_,_,.cons r t=>.cons (fW k r) (lV k t)
theorem m6{h:Heap}:∀{us:List Value}{ds:List D},Paired (my h) us ds->∃fs,KatTups h us fs/\fs.length=us.length/\∀f∈fs,∃n t,f=Value.int n t|_,_,.nil=>⟨[],trivial,rfl,by simp⟩|_,_,.cons r t=>by obtain⟨fs,h1,h2,h3⟩:=m6 t;obtain⟨a,its,is,rfl,⟨o,o1,o2,n,o3⟩,hi,hne,_⟩:=r;cases hi with|nil=>exact absurd rfl hne|cons x tk r'=>
     refine⟨.int x tk::fs,KatTups.cons o1 o2 o3 (by simp) h1,by simp[h2],fun f hf=>?_⟩;rcases mem_cons.mp hf with rfl|hf;.exact⟨_,_,rfl⟩
     .exact h3 f hf
theorem rH{ds:List D}(t:Paired (my s.heap) vs ds)(h2:2<=vs.length){C:SortKind->Shared->Prop}(hC:C (tuples' (Value.type "int"!=Value.type "tuple")) s):wpAny (model prog w) A (keyKind' vs.toArray) C E s:=by obtain⟨fs,h1,h3,h4⟩:=m6 t;refine kat_kind (T:=.type "int") h1 (by omega) (fun v hv=>?_) rfl hC;obtain⟨n,t,rfl⟩:=h4 v hv;exact Looks.now
theorem Bb{x y:Value}{d e:D}(hx:my s.heap x d)(hy:my s.heap y e){b:Bool}{C:Bool->Shared->Prop}(hC:C (aW (bD d) (bD e)) s):wpAny (model prog w) A (keyLt' (tuples' b) x y) C E s:=by obtain⟨a,its,is,rfl,⟨o,o1,o2,n,o3⟩,hi,hne,e1⟩:=hx;obtain⟨a',its',js,rfl,⟨o',p1,p2,n',p3⟩,hj,hne',e2⟩:=hy;refine kat_lt o1 o3 p1 p3 ?_;rw[e1,e2]at hC;refine mZ (is:=is) (js:=js) (by simpa using hi) (by simpa using hj) ?_ hC;rw[size_toArray,size_toArray,IntsAre.length hi,IntsAre.length hj]
end
theorem Bx{xs:List V}{us:List Value}(h:Vals xs us)(i:Nat):RelV (xs.getD i .non) (us.getD i .none):=by
 have hl:=h.length;by_cases hi:i<xs.length
 . obtain⟨u,e,r⟩:=h.get (i:=i) (x:=xs[i]) (getElem?_eq_getElem hi);have e1:xs.getD i .non=xs[i]:=by simp[hi]
   have e2:us.getD i .none=u:=by simp[e]
   rw[e1,e2];exact r
 . have e1:xs.getD i .non=.non:=by simp[Nat.le_of_not_lt hi]
   have e2:us.getD i .none=.none:=by simp[show us.length<=i by omega]
   rw[e1,e2];rfl
theorem uM{f:Nat->V}{g:Nat->Value}(h:∀i,RelV (f i) (g i)):∀l:List Nat,Vals (l.map f) (l.map g)|[]=>.nil|i::l=>.cons (h i) (uM h l)
theorem u6{p:List Nat}{xs:List V}{us:List Value}(h:Vals xs us):Vals (pick .non p xs) (pick .none p us):=uM (Bx h) _
theorem vG{K:PySem.W.Frag}{F:Hp}{f:Nat->V}{g:Nat->D}(h:∀i,Rep K F (f i) (g i)):∀l:List Nat,aC K F (l.map f) (l.map g)|[]=>.nil|i::l=>.cons (h i) (vG h l)
theorem vq{K:PySem.W.Frag}{F:Hp}{p:List Nat}{xs:List V}{ds:List D}(h:aC K F xs ds):aC K F (pick .non p xs) (pick .non p ds):=vG (fun i=>by
 have hl:=h.length;by_cases hi:i<ds.length
 . obtain⟨u,e,r⟩:=h.get (i:=i) (d:=ds[i]) (getElem?_eq_getElem hi);have e1:ds.getD i .non=ds[i]:=by simp[hi]
   have e2:xs.getD i .non=u:=by simp[e]
   rw[e1,e2];exact r
 . have e1:ds.getD i .non=.non:=by simp[Nat.le_of_not_lt hi]
   have e2:xs.getD i .non=.non:=by simp[show xs.length<=i by omega]
   rw[e1,e2,Rep]) _
def Gx(u:Value)(d:D):Prop:=∃n t,u=.int n t/\bD d=[n]
theorem JT(u:Value)(d e:D):Gx u d->Gx u e->bD d=bD e:=fun⟨n,t,h1,h2⟩⟨m,t',h3,h4⟩=>by rw[h1]at h3;cases h3;rw[h2,h4]
theorem Ku{prog:Program}{w:World}{A:Around}{E:Value->Shared->Prop}{s:Shared}{x y:Value}{d e:D}(hx:Gx x d)(hy:Gx y e){C:Bool->Shared->Prop}(hC:C (aW (bD d) (bD e)) s):wpAny (model prog w) A (keyLt' oneType' x y) C E s:=by obtain⟨n,t,rfl,k1⟩:=hx;obtain⟨m,t',rfl,k2⟩:=hy;refine kat_lt_int ?_;rw[k1,k2,show aW [n] [m]=decide (n<m)by simp[aW]]at hC;exact hC
theorem Np:∀{us:List Value}{ns:List Int},IntsAre us ns->Paired Gx us (ns.map D.int)|_,_,.nil=>.nil|_,_,.cons n t r=>.cons ⟨n,t,rfl,rfl⟩ (Np r)
theorem DN{us:List Value}:∀{ns ms:List Int},IntsAre us ns->IntsAre us ms->ns=ms:=by induction us with|nil=>intro ns ms h1 h2;cases h1;cases h2;rfl|cons u us ih=>intro ns ms h1 h2;cases h1 with|cons n t r=>cases h2 with|cons m t' r'=>rw[ih r r']
theorem zU{h:Heap}(u:Value)(d e:D):my h u d->my h u e->bD d=bD e:=fun⟨a,its,is,h1,⟨o,o1,o2,n,o3⟩,h3,_,h4⟩⟨b,jts,js,g1,⟨o',p1,p2,m,p3⟩,g3,_,g4⟩=>by rw[h1]at g1;cases g1;rw[o1]at p1;cases p1;rw[o3]at p3;cases p3;rw[h4,g4,DN h3 g3]
theorem all_ints:∀{ds:List D},ds.all dY=true->ds=(ds.map iK).map D.int
 |[],_=>rfl|d::ds,h=>by
   simp only[all_cons,and_eq_true]at h;cases d<;>first|(have q:=h.1;simp[dY]at q;done)|skip
   rw[map_cons,map_cons,<-all_ints h.2];rfl
theorem intsAre_of:∀{ns:List Int}{us:List Value},Vals (ns.map V.int) us->IntsAre us ns|[],_,.nil=>.nil|n::ns,_,.cons r t=>by obtain⟨tk,rfl⟩:=r;exact .cons n tk (intsAre_of t)
section
variable{X:Cx}{c:Call}{a:Expr}{pa:P}{pos:Pos}
theorem zH{pins:List (Addr×Obj)}{σ:L2.St}{F H:Hp}{s:Shared}(I:L2.Inv X pins σ H s)(sm:aH F H):∀{ds:List D}{ys:List V}{us:List Value},aC X.K F ys ds->Vals ys us->ds.all oY=true->Paired (my s.heap) us ds|[],ys,us,h,v,_=>by rw[h.dF]at v;cases v;exact .nil|d::ds,ys,us,h,v,o=>by obtain⟨y,r,rfl,h1,h2⟩:=h.bV;simp only[all_cons,and_eq_true]at o;cases v with|cons v1 v2=>
     refine .cons ?_ (zH I sm h2 v2 o.2);cases d<;>first|(have q:=o.1;simp[oY]at q;done)|skip
     rename_i ds';cases ds' with|nil=>exact absurd o.1 (by simp[oY])|cons x xs=>obtain⟨ad,zs,rfl,hq,rs,_⟩:=cC.tup sm (.inl h1);cases v1;obtain⟨its,rv,it,_⟩:=I.tuple hq;rw[all_ints o.1]at rs;rw[di rs]at rv;exact⟨ad,its,_,rfl,it,intsAre_of rv,by simp,rfl⟩
theorem GP:cW X (.builtin "sorted") (Lr X.K fun x=>blt .sorted [x]):=by
 rintro pins s σ H xs us Q I r⟨x,hx,F,d,r',sm,px,he,k⟩;have zz:=bI (show(yS d).bind (fun ds=>if sortable ds then some (.own (nJ ds))else none)=some r' from he);clear he;obtain⟨ds,e2,he⟩:=zz
 cases d with|lst ds'=>
   cases e2;obtain⟨p,ys,rfl,hq,rs⟩:=px.lst sm;subst hx;obtain⟨u,rfl,rx⟩:=r.one;cases rx;obtain⟨its,rv,pl,hz⟩:=I.list hq;by_cases so:sortable ds=true
   . rw[if_pos so]at he;cases he;have hl:its.length=ds.length:=by rw[<-rv.length,rs.length]
     have so':=so;simp only[sortable,and_eq_true,or_eq_true,decide_eq_true_eq]at so';have fin:∀h' c p,(∀b o,s.heap.get? b=some o->h'.get? b=some o)->p.Perm (List.range its.length)->pick .non p ds=nJ ds->h'.get? (s.heap.objs.size+1)=some (seqObj "list" (pick .none p its).toArray c)->EP X pins σ Q (.ref (s.heap.objs.size+1)) {s with heap:=h'}:=by
      intro h' c p kp p1 p2 e;refine⟨.ref (s.heap.objs.size+1),_,I.laid (t':=s.toks) (o:=.lst (pick .non p ys)) (h':=h') kp (le_succ _) ⟨by rw[lD p1,<-rv.length];exact hz,pick .none p its,c,u6 rv,e⟩,rfl,?_⟩;have rs2:aC X.K F (pick .non p ys) (nJ ds):=by rw[<-p2];exact vq rs
      exact vX sm rs2 (I.hok.fresh (le_succ _)) k
     rcases so'.2 with oi|ot
     . have rs':=rs;rw[all_ints oi]at rs';have ia:IntsAre its (ds.map iK):=intsAre_of (by rw[<-di rs'];exact rv);refine mW (vs:=its) (κ:=oneType') pl.isList so (by omega) (by have:=Np ia;rwa[<-all_ints oi]at this) JT (fun h' kp C hC h2=>?_) (fun h' kp u v d e hd he C hC=>?_) fin;.match its,ia,h2 with|v1::v2::rest,ia,_=>rw[keyKind_ints ia];exact wpAny_pure hC
       .exact Ku hd he hC
     .have tt:=zH I sm rs rv ot;refine mW (vs:=its) (κ:=tuples' (Value.type "int"!=Value.type "tuple")) pl.isList so (by omega) tt zU (fun h' kp C hC h2=>rH (s:={s with heap:=h'}) (lV kp tt) h2 hC) (fun h' kp u v d e hd he C hC=>?_) fin;exact Bb (s:={s with heap:=h'}) (fW kp hd) (fW kp he) hC
   .rw[if_neg so]at he;cases he|_=>cases e2
theorem boot_sorted:bootBuiltins "sorted"=some (.builtin "sorted"):=by decide+kernel
theorem BL{x:Str}{p':Pos}(hx:x="sorted")(hg:Gl X x)(hm:X.mg x=none)(ha:SX X c a pa)(hs:starEach [a] X.env=(false,eval a X.env)::starEach [] X.env:=by rfl):SX X c (.Call (.Name x p') [a] [] pos) (.blt .sorted [pa]):=by subst hx;exact mU (fun h=>dm GP hg hm boot_sorted h (he:=hs)) ha (fun ρ=>rfl) rfl hs
end
end HH
end
section
namespace HH
open PySem L2 PySem.Spec PyProof.Rows PySem.Calls
theorem xR(l b:Addr)(items items2:List Value)(n n2:Nat)(dd dd2:Option Addr)(sl sl2:Array (Option Value))(is js:List Int)(hi:IntsAre items is)(hj:IntsAre items2 js):Meets (Builtin.«tuple.__lt__» ⟨[.ref l,.ref b],[]⟩) (fun A R s=>s.heap.get? l=some {cls:=.type "tuple",dict:=dd,data:=.seq items.toArray n,slots:=sl}/\s.heap.get? b=some {cls:=.type "tuple",dict:=dd2,data:=.seq items2.toArray n2,slots:=sl2}/\R (.ok (.ret (.bool (aW is js)))) s):=.of_wp fun prog w A R s h=>by
  obtain⟨hp,g,d,tk,os⟩:=s;obtain⟨hl,hb,h⟩:=h;have f2:=AutoSeq1.sub_tuple_tuple;wp_walk using wpAny_loadPart' hl,wpAny_loadPart' hb,wpAny_forIn_list _ (fun rest b s'=>b.1=none/\s'=⟨hp,g,d,tk,os⟩/\∃xs ys is' Vu,rest=xs.zip ys/\IntsAre xs is'/\IntsAre ys Vu/\decide (items.length<items2.length)=decide (is'.length<Vu.length)/\R (.ok (.ret (.bool (aW is' Vu)))) ⟨hp,g,d,tk,os⟩) _;case turn=>rintro⟨y,x⟩rest b s'⟨hb',rfl,xs,ys,is',Vu,hz,h1,h2,h3,hR⟩;cases h1 with|nil=>cases hz|cons p t h1=>cases h2 with|nil=>cases hz|cons q u h2=>
       injection hz with hyx hrest;cases hyx;refine wpAny_bind (wpAny_eqBool_int ?_);by_cases e:p=q;.subst e;rw[beq_self_eq_true];wp_walk;exact⟨rfl,rfl,_,_,_,_,hrest,h1,h2,by rw[h3];simp,by simpa[aW]using hR⟩
       . rw[beq_eq_false_iff_ne.mpr e];have hR':R (.ok (.ret (.bool (decide (p<q))))) ⟨hp,g,d,tk,os⟩:=by simpa[aW,e]using hR
         simp only[Bool.not_false,if_true];refine wpAny_bind (wpAny_rule ?_);refine wpAny_bind (show wpAny (model prog w) A.in1 (compareOp .Lt (Value.int p t) (Value.int q u)) _ _ _ from wpAny_lt_int ?_);refine wpAny_bind (wpAny_pure ?_);exact wpAny_pure (wpAny_pure ⟨_,rfl,hR'⟩)
  case fin=>
   rintro⟨b1,b2⟩s'⟨hb',rfl,xs,ys,is',Vu,hz,h1,h2,h3,hR⟩;simp only at hb';subst hb';have e:aW is' Vu=decide (items.length<items2.length):=by rw[h3];cases h1 with|nil=>cases h2<;>simp[aW]|cons _ _ _=>cases h2 with|nil=>simp[aW]|cons _ _ _=>cases hz
   rw[e]at hR;wp_walk;exact⟨_,rfl,by simpa[Builtin.Tuple.tupleCompareSizes]using hR⟩
  case h=>exact⟨rfl,rfl,items,items2,is,js,by simp,hi,hj,by rw[IntsAre.length hi,IntsAre.length hj],h⟩
section
variable{X:Cx}
theorem HF(hu:X.A.units+8<cLine):cR X (compareOp .Lt) (rD X.K (lY .lt)):=by rintro pins s σ H x y v u Q I rx ry⟨F,d,e,r,sm,px,py,he,k⟩;obtain⟨t,e1,e2⟩:=map_some (show(Wr d e).map _=some r from he);subst e2;cases d with
 |int i=>cases e with|int j=>exact Qm pins s σ H x y v u Q I rx ry ⟨F,.int i,.int j,_,sm,px,py,by have e2:Im (fun i j=>decide (i<j)) (.int i) (.int j)=some t:=e1;simp only[e2];rfl,k⟩|_=>cases e1
 |tup xs=>cases e with|tup ys=>obtain⟨hc,e1⟩:=aP (show(if(xs.all dY&&ys.all dY)=true then some (aW (xs.map iK) (ys.map iK))else none)=some t from e1);rw[and_eq_true]at hc;obtain⟨a,vs,rfl,h1,h2,_⟩:=px.tup sm;obtain⟨b,ws,rfl,h3,h4,_⟩:=py.tup sm;cases rx;cases ry;obtain⟨its,rv,it,_⟩:=I.tuple h1;obtain⟨its2,rv2,it2,_⟩:=I.tuple h3;rw[all_ints hc.1]at h2;rw[all_ints hc.2]at h4;rw[di h2]at rv;rw[di h4]at rv2;have i1:=intsAre_of rv;have i2:=intsAre_of rv2;obtain⟨⟨cls,dd,data,sl⟩,ho,hc1,n,hd⟩:=it;obtain⟨⟨cls2,dd2,data2,sl2⟩,ho2,hc2,n2,hd2⟩:=it2;simp only at hc1 hd hc2 hd2;subst hc1 hd hc2 hd2;refine(show wpAny (model X.prog X.w) X.A (richCompare .Lt (.ref a) (.ref b)) _ _ s from richCompare_meets_room (op:=.Lt) ⟨_,ho,rfl⟩ ⟨_,ho2,rfl⟩ PySem.F.slot_tuple_lt PySem.F.entry_tuple_lt (PySem.F.args_tuple_lt_2 _ _) (xR a b its its2 n n2 dd dd2 sl sl2 _ _ i1 i2) ⟨ho,ho2,show Value.bool _≠Value.notImplemented/\_ from⟨(fun x=>nomatch x),⟨.bl t,H,I,by rw[<-e1];rfl,bB.bQ sm (dC _) k⟩⟩⟩ (by omega))|_=>cases e1
 |_=>cases e1
end
end HH
end
section
namespace L2
open PySem PySem.Spec PyProof.Rows
section
variable{κ:Type}[DecidableEq κ]
noncomputable def ig(kvs:List (κ×V))(k:κ):Option V:=(kvs.find? fun kv=>decide (kv.1=k)).map (·.2)
noncomputable def putK(kvs:List (κ×V))(k:κ)(v:V):List (κ×V):=if(kvs.any fun kv=>decide (kv.1=k))=true then kvs.map (fun kv=>if kv.1=k then(kv.1,v)else kv)else kvs++[(k,v)]
theorem kO{p:κ×V}{r:List (κ×V)}{k:κ}(e:p.1=k):ig (p::r) k=some p.2:=by simp[ig,find?_cons,e]
theorem lK{p:κ×V}{r:List (κ×V)}{k:κ}(e:¬ p.1=k):ig (p::r) k=ig r k:=by simp[ig,find?_cons,e]
theorem pB(k:κ):∀kvs:List (κ×V),(kvs.any fun kv=>decide (kv.1=k))=(ig kvs k).isSome
 |[]=>rfl|p::r=>by
   rw[any_cons];by_cases e:p.1=k;.simp only[kO e,decide_eq_true e,Bool.true_or,Option.isSome_some]
   .rw[lK e,decide_eq_false e,Bool.false_or];exact pB k r
theorem iV(kvs:List (κ×V))(k:κ)(v:V):(putK kvs k v).length<=kvs.length+1:=by
 unfold putK;split;.rw[length_map];omega
 .rw[length_append,length_cons,length_nil];omega
theorem nD.fX{o:Option V}{u:Option Value}(r:nD o u):o.isSome=u.isSome:=by cases o with
 |none=>cases u with|none=>rfl|some _=>exact(show False from r).elim
 |some _=>cases u with|none=>exact(show False from r).elim|some _=>rfl
theorem nD.getD{o:Option V}{u:Option Value}{d:V}{d':Value}(r:nD o u)(rd:RelV d d'):RelV (o.getD d) (u.getD d'):=by cases o with
 |none=>cases u with|none=>exact rd|some _=>exact(show False from r).elim
 |some _=>cases u with|none=>exact(show False from r).elim|some _=>exact r
theorem KV.val{kvs:List (κ×V)}{vs:List (κ×Value)}(r:KV kvs vs)(k:κ):nD (ig kvs k) (valueAt vs k):=by unfold KV at r;induction r with|nil=>exact True.intro|@cons p q ps qs h t ih=>
   obtain⟨h1,h2⟩:=h;by_cases e:p.1=k
   . have e':q.1=k:=h1.symm.trans e;have b:valueAt (q::qs) k=some q.2:=by simp[valueAt,find?_cons,e']
     rw[kO e,b];exact h2
   . have e':¬ q.1=k:=fun z=>e (h1.trans z);have b:valueAt (q::qs) k=valueAt qs k:=by simp[valueAt,find?_cons,e']
     rw[lK e,b];exact ih
theorem KV.any{kvs:List (κ×V)}{vs:List (κ×Value)}(r:KV kvs vs)(k:κ):(kvs.any fun kv=>decide (kv.1=k))=vs.any fun kv=>decide (kv.1=k):=by unfold KV at r;induction r with|nil=>rfl|cons h t ih=>rw[any_cons,any_cons,ih,h.1]
theorem KV.repl{kvs:List (κ×V)}{vs:List (κ×Value)}(r:KV kvs vs)(k:κ){y:V}{u:Value}(ry:RelV y u):KV (kvs.map fun kv=>if kv.1=k then(kv.1,y)else kv) (vs.map fun kv=>if kv.1=k then(kv.1,u)else kv):=by unfold KV at r ⊢;induction r with|nil=>exact .nil|@cons p q ps qs h t ih=>
   rw[map_cons,map_cons];refine .cons ?_ ih;obtain⟨h1,h2⟩:=h;by_cases e:p.1=k;.rw[if_pos e,if_pos (h1.symm.trans e)];exact⟨h1,ry⟩
   .rw[if_neg e,if_neg (fun z=>e (h1.trans z))];exact⟨h1,h2⟩
theorem KV.put{kvs:List (κ×V)}{vs:List (κ×Value)}(r:KV kvs vs)(k:κ){y:V}{u:Value}(ry:RelV y u):KV (putK kvs k y) (stored vs k u):=by
 unfold putK stored;rw[r.any k];by_cases e:(vs.any fun kv=>decide (kv.1=k))=true;.rw[if_pos e,if_pos e];exact r.repl k ry
 .rw[if_neg e,if_neg e];exact Paired.snoc r ⟨rfl,ry⟩
theorem KV.length{kvs:List (κ×V)}{vs:List (κ×Value)}(r:KV kvs vs):kvs.length=vs.length:=Paired.length r
end
theorem p6{P:Program}{w:World}{k:Key}{u:Value}(r:RelV (kV k) u):(aU P w).is k u=true:=by cases k with|inl i=>obtain⟨t,e⟩:=(show ∃t,u=Value.int i t from r);subst e;exact vM P w i t|inr x=>obtain⟨t,e⟩:=(show ∃t,u=Value.str x t from r);subst e;exact v8 P w x t
theorem rP{P:Program}{w:World}:∀{ks:List Key}{us:List Value},Vals (ks.map kV) us->ItemsAre (aU P w) ks us|[],_,r=>by rw[map_nil]at r;cases r;exact .nil|k::ks,_,r=>by rw[map_cons]at r;cases r with|cons h t=>exact .cons (p6 h) (rP t)
abbrev KT(H:Hp):List (List Key×V)->List (List Key×Addr×Value)->Prop:=Paired fun p q=>p.1=q.1/\H q.2.1=some (.tup (p.1.map kV))/\RelV p.2 q.2.2
theorem KT.val{H:Hp}{kvs:List (List Key×V)}{xs:List (List Key×Addr×Value)}(r:KT H kvs xs)(k:List Key):nD (ig kvs k) ((atKey xs k).map (·.2)):=by induction r with|nil=>exact True.intro|@cons p q ps qs h t ih=>
   obtain⟨h1,_,h2⟩:=h;by_cases e:p.1=k
   . have e':q.1=k:=h1.symm.trans e;have b:atKey (q::qs) k=some q.2:=by simp[atKey,find?_cons,e']
     rw[kO e,b];exact h2
   . have e':¬ q.1=k:=fun z=>e (h1.trans z);have b:atKey (q::qs) k=atKey qs k:=by simp[atKey,find?_cons,e']
     rw[lK e,b];exact ih
theorem KT.repl{H:Hp}{kvs:List (List Key×V)}{xs:List (List Key×Addr×Value)}(r:KT H kvs xs)(k:List Key){y:V}{u:Value}(ry:RelV y u):KT H (kvs.map fun kv=>if kv.1=k then(kv.1,y)else kv) (xs.map (putAt k u)):=by induction r with|nil=>exact .nil|@cons p q ps qs h t ih=>
   rw[map_cons,map_cons];refine .cons ?_ ih;obtain⟨h1,h2,h3⟩:=h;unfold putAt;by_cases e:p.1=k;.rw[if_pos e,if_pos (h1.symm.trans e)];exact⟨h1,h2,ry⟩
   .rw[if_neg e,if_neg (fun z=>e (h1.trans z))];exact⟨h1,h2,h3⟩
theorem KT.put{H:Hp}{kvs:List (List Key×V)}{xs:List (List Key×Addr×Value)}(r:KT H kvs xs)(k:List Key){b:Addr}{y:V}{u:Value}(hb:H b=some (.tup (k.map kV)))(ry:RelV y u):KT H (putK kvs k y) (storedH xs k b u):=by
 have e:(kvs.any fun kv=>decide (kv.1=k))=(atKey xs k).isSome:=by rw[pB,(r.val k).fX,isSome_map]
 unfold putK storedH;rw[e];by_cases q:(atKey xs k).isSome=true;.rw[if_pos q,if_pos q];exact r.repl k ry
 .rw[if_neg q,if_neg q];exact Paired.snoc r ⟨rfl,hb,ry⟩
theorem KT.keeps{H H':Hp}{kvs:List (List Key×V)}{xs:List (List Key×Addr×Value)}(r:KT H kvs xs)(ht:∀b ys,H b=some (.tup ys)->H' b=some (.tup ys)):KT H' kvs xs:=Paired.R7 r fun _ _ z=>⟨z.1,ht _ _ z.2.1,z.2.2⟩
section
variable{P:Program}{w:World}{H:Hp}{h:Heap}{a:Addr}
theorem Nx{u:HO}(ok:lN P w H h)(e:Rd H a u):bu P w H h a u:=e.ok ok
theorem pK{kvs:List (Key×V)}(ok:lN P w H h)(e:Rd H a (.dK kvs)):kvs.length<=sizeLine/\(a==sysModules)=false/\∃vs,KV kvs vs/\h.DictOf (aU P w) a vs:=show bu P w H h a (.dK kvs)from Nx ok e
theorem Mi{kvs:List (Key×V)}(ok:lN P w H h)(e:H a=some (.dK kvs)):kvs.length<=sizeLine/\(a==sysModules)=false/\∃vs,KV kvs vs/\h.DictOf (aU P w) a vs:=pK ok (.inl e)
theorem mD{ks:List Key}(ok:lN P w H h)(e:H a=some (.tup (ks.map kV))):(tupleKind (aU P w)).is h ks a:=by obtain⟨_,its,r,o,h1,h2,n,h3⟩:=(show bu P w H h a (.tup (ks.map kV))from ok a _ e);exact⟨o,its.toArray,n,h1,h2,h3,by simpa using rP r⟩
theorem qd{kvs:List (List Key×V)}(ok:lN P w H h)(e:Rd H a (.dT kvs)):kvs.length<=sizeLine/\(a==sysModules)=false/\∃xs,KT H kvs xs/\h.DictOfH (tupleKind (aU P w)) a xs:=by
 obtain⟨z,y,xs,r,o,es,ep,h1,h2,h3,h4,h5⟩:=(show bu P w H h a (.dT kvs)from Nx ok e);refine⟨z,y,xs,r,o,es,ep,h1,h2,h3,h4,fun x hx=>?_,h5⟩;have all:∀{l:List (List Key×V)}{m:List (List Key×Addr×Value)},KT H l m->∀x∈m,(tupleKind (aU P w)).is h x.1 x.2.1:=by intro l m q;induction q with|nil=>intro x hx;exact nomatch hx|@cons p q ps qs hq t ih=>
    intro x hx;rcases mem_cons.mp hx with e|hx;.subst e;exact mD ok (by rw[<-hq.1];exact hq.2.1)
    .exact ih x hx
 exact all r x hx
theorem Yb{kvs:List (List Key×V)}(ok:lN P w H h)(e:H a=some (.dT kvs)):kvs.length<=sizeLine/\(a==sysModules)=false/\∃xs,KT H kvs xs/\h.DictOfH (tupleKind (aU P w)) a xs:=qd ok (.inl e)
end
def mJ(H:Hp)(a:Addr)(y:V)(r:Option V):Prop:=(∃kvs k,Rd H a (.dK kvs)/\y=kV k/\r=ig kvs k)\/∃kvs k b,Rd H a (.dT kvs)/\y=.ref b/\H b=some (.tup (k.map kV))/\r=ig kvs k
def Wo(H:Hp)(a:Addr)(y v:V)(H':Hp):Prop:=(∃kvs k,H a=some (.dK kvs)/\y=kV k/\kvs.length<sizeLine/\H'=upd H a (.dK (putK kvs k v)))\/∃kvs k b,H a=some (.dT kvs)/\y=.ref b/\H b=some (.tup (k.map kV))/\kvs.length<sizeLine/\H'=upd H a (.dT (putK kvs k v))
section
variable{X:Cx}{pins:List (Addr×Obj)}{σ:St}{H:Hp}{s:Shared}{a:Addr}{y v:V}{u r:Value}{o:Option V}{A:Around}{E:Value->Shared->Prop}
theorem Inv.big(I:Inv X pins σ H s):sysModules<s.heap.objs.size:=by have h:mainGlobals<s.heap.objs.size:=(I.mod.glob.keeps I.bk).lt;exact Nat.lt_trans (by decide) h
theorem mj{Q:Value->Shared->Prop}(hu:A.units+1<cLine)(I:Inv X pins σ H s)(g:mJ H a y (some v))(ry:RelV y u)(h:∀w' s',Inv X pins σ H s'->RelV v w'->Q w' s'):wpAny (model X.prog X.w) A (getItem (.ref a) u) Q E s:=by
 rcases g with⟨kvs,k,e,ey,l⟩|⟨kvs,k,b,e,ey,eb,l⟩;.subst ey;obtain⟨z,hd,vs,rel,dd⟩:=pK I.hok e;obtain⟨w',hw,wW⟩:=nD.some_of (v:=v) (o:=valueAt vs k) (by rw[l];exact rel.val k);exact wpAny_getItem_of (p6 ry) dd.mapOf hw (h w' _ (I.tok _) wW)
 .subst ey;cases(show u=Value.ref b from ry);obtain⟨z,hd,xs,rel,dd⟩:=qd I.hok e;obtain⟨w',hw,wW⟩:=nD.some_of (v:=v) (o:=(atKey xs k).map (·.2)) (by rw[l];exact rel.val k);obtain⟨p,hp,hp2⟩:=map_eq_some_iff.mp hw;refine wpAny_getItem_heap (tupleKind_room_in1 hu) (mD I.hok eb) dd hp ?_;rw[hp2];exact h w' _ (I.tok _) wW
theorem XR{Q:Value->Shared->Prop}(hu:A.units+1<cLine)(I:Inv X pins σ H s)(g:mJ H a y o)(ry:RelV y u)(h:∀s',Inv X pins σ H s'->Q (.bool o.isSome) s'):wpAny (model X.prog X.w) A (compareOp .In u (.ref a)) Q E s:=by
 rcases g with⟨kvs,k,e,ey,l⟩|⟨kvs,k,b,e,ey,eb,l⟩;.subst ey;obtain⟨z,hd,vs,rel,dd⟩:=pK I.hok e;refine wpAny_in_of (p6 ry) hd dd.mapOf ?_;rw[<-(rel.val k).fX,<-l];exact h _ (I.tok _)
 .subst ey;cases(show u=Value.ref b from ry);obtain⟨z,hd,xs,rel,dd⟩:=qd I.hok e;refine wpAny_in_heap (tupleKind_room_in1 hu) (mD I.hok eb) hd dd ?_;have q:=(rel.val k).fX;rw[isSome_map]at q;rw[<-q,<-l];exact h _ (I.tok _)
theorem Bm{Q:Value->Shared->Prop}(hu:A.units+1<cLine)(I:Inv X pins σ H s)(g:mJ H a y o)(ry:RelV y u)(h:∀s',Inv X pins σ H s'->Q (.bool (!o.isSome)) s'):wpAny (model X.prog X.w) A (compareOp .NotIn u (.ref a)) Q E s:=by
 rcases g with⟨kvs,k,e,ey,l⟩|⟨kvs,k,b,e,ey,eb,l⟩;.subst ey;obtain⟨z,hd,vs,rel,dd⟩:=pK I.hok e;refine wpAny_notIn_of (p6 ry) hd dd.mapOf ?_;rw[<-(rel.val k).fX,<-l];exact h _ (I.tok _)
 .subst ey;cases(show u=Value.ref b from ry);obtain⟨z,hd,xs,rel,dd⟩:=qd I.hok e;refine wpAny_notIn_heap (tupleKind_room_in1 hu) (mD I.hok eb) hd dd ?_;have q:=(rel.val k).fX;rw[isSome_map]at q;rw[<-q,<-l];exact h _ (I.tok _)
theorem tR{h':Heap}{t':Nat}{ob:HO}(I:Inv X pins σ H s)(mu:XS (H a))(hs:SameBut a s.heap h')(he:∃q,h'.get? a=some q)(new:bu X.prog X.w (upd H a ob) h' a ob):Inv X pins σ (upd H a ob) {s with heap:=h',toks:=t'}:=I.write (x:=a) (e:=a) mu (.inl rfl) (fun b q hb z=>(hs.2 b hb).trans z) he new
theorem Hh{P:Program}{w:World}{H':Hp}{h':Heap}{kvs:List (Key×V)}{vs:List (Key×Value)}(z:kvs.length<=sizeLine)(hd:(a==sysModules)=false)(rel:KV kvs vs)(dd:h'.DictOf (aU P w) a vs):bu P w H' h' a (.dK kvs):=⟨z,hd,vs,rel,dd⟩
theorem CT{H':Hp}{Q:Unit->Shared->Prop}(hu:A.units+1<cLine)(I:Inv X pins σ H s)(g:Wo H a y v H')(ry:RelV y u)(rv:RelV v r)(h:∀s',Inv X pins σ H' s'->Q () s'):wpAny (model X.prog X.w) A (setItem (.ref a) u r) Q E s:=by
 rcases g with⟨kvs,k,e,ey,l,eH⟩|⟨kvs,k,b,e,ey,eb,l,eH⟩
 . subst ey eH;obtain⟨z,hd,vs,rel,dd⟩:=Mi I.hok e;have hz:vs.length<=sizeLine:=by rw[<-rel.length];exact z
   have hl:(putK kvs k v).length<=sizeLine:=by have:=iV kvs k v;omega
   refine wpAny_setItem_pairs (hsz:=hz) (p6 ry) dd fun h' Tp hs=>h _ ?_;have he:∃q,h'.get? a=some q:=let⟨q,_,_,hq,_⟩:=Tp;⟨q,hq⟩;exact tR I (by rw[e];exact True.intro) hs he (Hh hl hd (rel.put k rv) Tp)
 . subst ey eH;cases(show u=Value.ref b from ry);obtain⟨z,hd,xs,rel,dd⟩:=Yb I.hok e;have hz:xs.length<=sizeLine:=by rw[<-Paired.length rel];exact z
   have hl:(putK kvs k v).length<=sizeLine:=by have:=iV kvs k v;omega
   refine wpAny_setItem_heap (hsz:=hz) (tupleKind_room_in1 hu) (mD I.hok eb) dd fun h' Tp hs=>h _ ?_;obtain⟨q,es,ep,hq,h2,h3,h4,_,h5⟩:=Tp;refine tR I (by rw[e];exact True.intro) hs ⟨q,hq⟩ ⟨hl,hd,_,(rel.put k eb rv).keeps fun c ys ec=>?_,q,es,ep,hq,h2,h3,h4,h5⟩;rw[aA (Xg ec e (fun z=>nomatch z))];exact ec
end
def Lf(i:Expr):Prop:=∀ov iv,subscripted i false ov iv=operate [ov,iv] (getItem ov iv)
theorem Bp{prog:Program}{w:World}{A:Around}{E:Value->Shared->Prop}{s:Shared}{env:Env}{value slice:Expr}{pos:Pos}{T id:String}{Q:Value->Shared->Prop}(hl:typeLookup (.type T) "__getitem__"=pure (some (.builtin id)))(hs:Lf slice)(h:wpAny (model prog w) A (eval value env) (fun o s₁=>wpAny (model prog w) A (eval slice env) (fun i s₂=>s₂.TypeIs o T/\wpAny (model prog w) A (getItem o i) Q E s₂) E s₁) E s):wpAny (model prog w) A (eval (.Subscript value slice pos) env) Q E s:=by
 refine Subscript_ (wpAny_mono h (fun o s₁ h₁=>wpAny_mono h₁ (fun i s₂ h₂=>?_) fun _ _ x=>x) fun _ _ x=>x);obtain⟨hT,h₂⟩:=h₂;unfold subscriptTail;refine wpAny_bind ?_;rw[getitemInPython_of_ne hT.not_modules];refine wpAny_bind (wpAny_specialOf hT hl ?_);have fin:wpAny (model prog w) A (subscripted slice false o i) (fun r s₃=>wpAny (model prog w) A (letTemporaryGo value o r>>=fun _=>pure r) Q E s₃) E s₂:=by rw[hs o i];exact wpAny_operating (wpAny_mono h₂ (fun r s₃ h₃=>wpAny_bind (wpAny_letTemporaryGo (wpAny_pure h₃))) fun _ _ x=>x)
 first|exact wpAny_pure (wpAny_bind fin)|exact wpAny_bind (wpAny_pure (wpAny_bind fin))|exact wpAny_bind fin
theorem iC{X:Cx}{pins:List (Addr×Obj)}{σ:St}{H:Hp}{s:Shared}{a:Addr}{y:V}{o:Option V}(I:Inv X pins σ H s)(g:mJ H a y o):s.TypeIs (.ref a) "dict":=by
 rcases g with⟨kvs,k,e,_,_⟩|⟨kvs,k,b,e,_,_,_⟩;.obtain⟨_,_,vs,_,dd⟩:=pK I.hok e;exact dd.typeIs
 .obtain⟨_,_,xs,_,dd⟩:=qd I.hok e;exact dd.typeIs
def V2(td ty:TE):TE:=fun σ H Q=>td σ H fun x H1=>ty σ H1 fun y H2=>∃a v,x=.ref a/\mJ H2 a y (some v)/\Q v H2
def aa2(ty td:TE):TE:=fun σ H Q=>ty σ H fun y H1=>td σ H1 fun x H2=>∃a o,x=.ref a/\mJ H2 a y o/\Q (.bl o.isSome) H2
def JB(ty td:TE):TE:=fun σ H Q=>ty σ H fun y H1=>td σ H1 fun x H2=>∃a o,x=.ref a/\mJ H2 a y o/\Q (.bl (!o.isSome)) H2
def Xi(td ty tv:TE):TS:=fun D σ H=>tv σ H fun v H1=>td σ H1 fun x H2=>ty σ H2 fun y H3=>∃a H4,x=.ref a/\Wo H3 a y v H4/\D.nx σ H4
section
variable{X:Cx}{o i e value:Expr}{pos pos' tpos:Pos}{td ty tv:TE}
theorem Js(hu:X.A.units+1<cLine)(ho:PE X o td)(hi:PE X i ty)(hs:Lf i):PE X (.Subscript o i pos) (V2 td ty):=by intro pins s σ H Q I h;refine Bp PySem.F.slot_dict_getitem.lookup hs (bH (ho pins s σ H _ I h) fun u s1⟨x,H1,I1,rx,q1⟩=>bH (hi pins s1 σ H1 _ I1 q1) fun iv s2⟨y,H2,I2,ry,a,v,ex,g,q2⟩=>?_);subst ex;obtain rfl:u=Value.ref a:=rx;exact⟨iC I2 g,mj hu I2 g ry fun w' s3 I3 wW=>⟨v,H2,I3,wW,q2⟩⟩
theorem Su(hu:X.A.units+1<cLine)(hi:PE X i ty)(ho:PE X o td):PC X .In i o (aa2 ty td):=by intro pins s σ H Q I h;refine bH (hi pins s σ H _ I h) fun iv s1⟨y,H1,I1,ry,q1⟩=>bH (ho pins s1 σ H1 _ I1 q1) fun u s2⟨x,H2,I2,rx,a,ov,ex,g,q2⟩=>?_;subst ex;obtain rfl:u=Value.ref a:=rx;exact XR hu I2 g ry fun s3 I3=>⟨.bl ov.isSome,H2,I3,rfl,q2⟩
theorem CP(hu:X.A.units+1<cLine)(hi:PE X i ty)(ho:PE X o td):PC X .NotIn i o (JB ty td):=by intro pins s σ H Q I h;refine bH (hi pins s σ H _ I h) fun iv s1⟨y,H1,I1,ry,q1⟩=>bH (ho pins s1 σ H1 _ I1 q1) fun u s2⟨x,H2,I2,rx,a,ov,ex,g,q2⟩=>?_;subst ex;obtain rfl:u=Value.ref a:=rx;exact Bm hu I2 g ry fun s3 I3=>⟨.bl (!ov.isSome),H2,I3,rfl,q2⟩
theorem zA(hu:X.A.units+1<cLine)(ho:PE X o td)(hi:PE X i ty)(hv:PE X value tv)(hs:swapsWith value (some (.Subscript o i pos')) pos.line X.env=pure false):PS X (.Assign [.Subscript o i pos'] value pos) (Xi td ty tv):=by intro pins s σ H D I h;refine wpAny_Assign_Subscript (bH (hv pins s σ H _ I h) fun r s1⟨v,H1,I1,rv,q1⟩=>bH (ho pins s1 σ H1 _ I1 q1) fun u s2⟨x,H2,I2,rx,q2⟩=>bH (hi pins s2 σ H2 _ I2 q2) fun iv s3⟨y,H3,I3,ry,a,H4,ex,g,q3⟩=>?_) hs;subst ex;obtain rfl:u=Value.ref a:=rx;exact CT hu I3 g ry rv fun s4 I4=>⟨σ,H4,I4,q3⟩
end
theorem wj{P:Program}{w:World}{H:Hp}(h:Heap)(hb:sysModules<h.objs.size):bu P w H (h.push {cls:=.type "dict",data:=.dict #[]}) h.objs.size (.dK []):=⟨zero_le _,beq_eq_false_iff_ne.mpr (Ne.symm (ne_of_lt hb)),[],.nil,Heap.DictOf.new h⟩
def Q5:TE:=fun _ H Q=>∀p,H p=none->Q (.ref p) (upd H p (.dK []))
section
variable{X:Cx}{pos:Pos}
theorem wC:PE X (.Dict [] [] pos) Q5:=fun pins s σ H Q I h=>wpAny_Dict_empty ⟨.ref s.heap.objs.size,_,I.laid (a:=s.heap.objs.size) (o:=.dK []) (t':=s.toks) (fun _ _ q=>get?_push_of_some _ q) (le_refl _) (wj s.heap I.big),rfl,h _ (I.hok.fresh (le_refl _))⟩
end
def ym:List (TE×TE)->St->Hp->(List (V×V)->Hp->Prop)->Prop|[],_,H,Q=>Q [] H|(tk,tv)::r,σ,H,Q=>tk σ H fun x H1=>tv σ H1 fun y H2=>ym r σ H2 fun ps H3=>Q ((x,y)::ps) H3
abbrev VV:List (V×V)->List (Value×Value)->Prop:=Paired fun p q=>RelV p.1 q.1/\RelV p.2 q.2
def Zk(X:Cx)(pos:Pos)(keys:List (Option Expr))(values:List Expr)(Mf:List (TE×TE)):Prop:=∀(pins:List (Addr × Obj))(s:Shared)(σ:St)(H:Hp)(Q:List (V × V)->Hp->Prop),Inv X pins σ H s->ym Mf σ H Q->wpAny (model X.prog X.w) X.A (evalPairs (pairTrees keys values X.env pos)) (fun vs s'=>∃ps H',Inv X pins σ H' s'/\VV ps vs/\Q ps H') X.xe s
theorem J3{X:Cx}{pos:Pos}:Zk X pos [] [] []:=fun pins s σ H Q I h=>pairTrees_nil_walk ⟨[],H,I,.nil,h⟩
theorem Gg{X:Cx}{pos:Pos}{k v:Expr}{ks:List (Option Expr)}{vs:List Expr}{tk tv:TE}{Mf:List (TE×TE)}(hk:PE X k tk)(hv:PE X v tv)(hr:Zk X pos ks vs Mf):Zk X pos (some k::ks) (v::vs) ((tk,tv)::Mf):=fun pins s σ H Q I h=>pairTrees_cons_walk (bH (hk pins s σ H _ I h) fun u s1⟨x,H1,I1,rx,q1⟩=>bH (hv pins s1 σ H1 _ I1 q1) fun w2 s2⟨y,H2,I2,ry,q2⟩=>bH (hr pins s2 σ H2 _ I2 q2) fun ws s3⟨ps,H3,I3,rel,q3⟩=>⟨(x,y)::ps,H3,I3,.cons ⟨rx,ry⟩ rel,q3⟩)
noncomputable def lW(kvs more:List (Key×V)):List (Key×V):=more.foldl (fun acc kv=>putK acc kv.1 kv.2) kvs
theorem KV.merge:∀{more:List (Key×V)}{rs:List (Key×Value)}{kvs:List (Key×V)}{vs:List (Key×Value)},KV more rs->KV kvs vs->KV (lW kvs more) (merged vs rs):=by intro more rs kvs vs r;unfold KV at r;induction r generalizing kvs vs with|nil=>intro q;exact q|@cons p q ps qs h t ih=>
   intro r0;have e:KV (putK kvs p.1 p.2) (stored vs q.1 q.2):=by have:=r0.put p.1 h.2;rw[<-h.1];exact this
   exact ih e
theorem jC:∀(more kvs:List (Key×V)),(lW kvs more).length<=kvs.length+more.length|[],kvs=>by show kvs.length<=kvs.length+0;omega|p::r,kvs=>by have h1:=jC r (putK kvs p.1 p.2);have h2:=iV kvs p.1 p.2;show(lW (putK kvs p.1 p.2) r).length<=_;rw[length_cons];omega
theorem oU{P:Program}{w:World}:∀{kvs:List (Key×V)}{ws:List (Value×Value)},VV (kvs.map fun kv=>(kV kv.1,kv.2)) ws->∃rs,Carries (aU P w) ws rs/\KV kvs rs|[],_,r=>by rw[map_nil]at r;cases r;exact⟨[],True.intro,.nil⟩|p::kvs,_,r=>by rw[map_cons]at r;cases r with|@cons a b as bs h t=>obtain⟨rs,c,q⟩:=oU (P:=P) (w:=w) t;obtain⟨b1,b2⟩:=b;exact⟨(p.1,b2)::rs,⟨p6 h.1,rfl,c⟩,.cons ⟨rfl,h.2⟩ q⟩
def We(Mf:List (TE×TE)):TE:=fun σ H Q=>∀p,H p=none->ym Mf σ (upd H p (.dK [])) fun ps H2=>H2 p=some (.dK [])/\∃kvs:List (Key×V),ps=kvs.map (fun kv=>(kV kv.1,kv.2))/\kvs.length<=15/\Q (.ref p) (upd H2 p (.dK (lW [] kvs)))
theorem JV{X:Cx}{pos:Pos}{keys:List (Option Expr)}{values:List Expr}{Mf:List (TE×TE)}(h:Zk X pos keys values Mf)(hall:keys.all (·.isSome)=true)(hl:keys.length=values.length)(h0:keys≠[])(h15:keys.length<=15):PE X (.Dict keys values pos) (We Mf):=by
 intro pins s σ H Q I q;have hn:=I.hok.fresh (le_refl s.heap.objs.size);have I1:=I.laid (a:=s.heap.objs.size) (o:=.dK []) (h':=s.heap.push {cls:=.type "dict",data:=.dict #[]}) (t':=s.toks) (fun _ _ q=>get?_push_of_some _ q) (le_refl _) (wj s.heap I.big);refine wpAny_Dict_walk (knd:=aU X.prog X.w) hall hl h0 h15 (bH (h pins _ σ _ _ I1 (q _ hn)) fun ws s2⟨ps,H2,I2,rel,e,kvs,ep,lk,q2⟩=>?_);subst ep;obtain⟨rs,c,rk⟩:=oU (P:=X.prog) (w:=X.w) rel;obtain⟨z,hd,vs0,r0,dd⟩:=Mi I2.hok e;cases r0;refine⟨rs,c,dd,fun h' Tp hs=>⟨.ref s.heap.objs.size,_,?_,rfl,q2⟩⟩;have hz:(lW [] kvs).length<=sizeLine:=by have h1:=jC kvs [];rw[length_nil]at h1;rw[sizeLine_eq];omega
 have he:∃q,h'.get? s.heap.objs.size=some q:=let⟨q,_,_,hq,_⟩:=Tp;⟨q,hq⟩;exact tR I2 (by rw[e];exact True.intro) hs he (Hh hz hd (rk.merge .nil) Tp)
structure M2(X:Cx)(o:Expr)(m:Str)(apos:Pos)(e f:Expr)(cpos:Pos):Prop where
 base:attributeBase o m X.env (eval o X.env)=eval o X.env
 few:((backTo cpos (starEach [e,f] X.env)).all (fun x=>!x.1)&&(backToKw cpos (keywordEach [] X.env)).all (fun x=>x.1.isSome)&&decide (([e,f]:List Expr).length+([]:List Keyword).length+(if([]:List Keyword).isEmpty then 0 else 1)<30))=true
 line:(apos.endLine==cpos.line)=true
 trees:backTo cpos (starEach [e,f] X.env)=[(false,eval e X.env),(false,eval f X.env)]
def IsD(H:Hp)(a:Addr):Prop:=(∃kvs,Rd H a (.dK kvs))\/∃kvs,Rd H a (.dT kvs)
theorem Qd{X:Cx}{pins:List (Addr×Obj)}{σ:St}{H:Hp}{s:Shared}{a:Addr}(I:Inv X pins σ H s)(d:IsD H a):s.TypeIs (.ref a) "dict"/\(∀b,Value.ref a=.ref b->∃ob,s.heap.get? b=some ob/\ob.dict=none)/\(a==sysModules)=false:=by
 rcases d with⟨kvs,e⟩|⟨kvs,e⟩;.obtain⟨_,hd,vs,_,dd⟩:=pK I.hok e;refine⟨dd.typeIs,fun b q=>?_,hd⟩;cases q;obtain⟨ob,_,_,h1,h2,_⟩:=dd;exact⟨ob,h1,h2.2.1⟩
 .obtain⟨_,hd,xs,_,dd⟩:=qd I.hok e;refine⟨dd.typeIs,fun b q=>?_,hd⟩;cases q;obtain⟨ob,_,_,h1,h2,_⟩:=dd;exact⟨ob,h1,h2.2.1⟩
section
variable{X:Cx}{pins:List (Addr×Obj)}{σ:St}{H:Hp}{s:Shared}{a:Addr}{y d:V}{u r:Value}{o:Option V}{A:Around}{E:Value->Shared->Prop}
theorem Qh{Q:Value->Shared->Prop}(hu:A.units+1<cLine)(I:Inv X pins σ H s)(g:mJ H a y o)(ry:RelV y u)(rd:RelV d r)(h:∀w' s',Inv X pins σ H s'->RelV (o.getD d) w'->Q w' s'):wpAny (model X.prog X.w) A (call (.builtin "dict.get") [.ref a,u,r]) Q E s:=by
 rcases g with⟨kvs,k,e,ey,l⟩|⟨kvs,k,b,e,ey,eb,l⟩;.subst ey;obtain⟨z,hd,vs,rel,dd⟩:=pK I.hok e;refine call_meetsIn slot_dict_get dd.typeIs PySem.F.entry_dict_get (PySem.F.args_dict_get_3 _ _ _) (meets_dict_get_default (aU X.prog X.w) a (p6 ry) hd r) ⟨_,dd.mapOf,h _ _ (I.tok _) ?_⟩;rw[l];exact(rel.val k).getD rd
 .subst ey;cases(show u=Value.ref b from ry);obtain⟨z,hd,xs,rel,dd⟩:=qd I.hok e;refine call_meetsIn slot_dict_get dd.typeIs PySem.F.entry_dict_get (PySem.F.args_dict_get_3 _ _ _) (meetsH_dict_get_default (tupleKind (aU X.prog X.w)) a b hd r) ⟨tupleKind_room_in1 hu,k,xs,mD I.hok eb,dd,h _ _ (I.tok _) ?_⟩;rw[l];exact(rel.val k).getD rd
end
def QJ(td ty tx:TE):TE:=fun σ H Q=>td σ H fun x H1=>∃a,x=.ref a/\IsD H1 a/\ty σ H1 fun y H2=>tx σ H2 fun z H3=>∃o,mJ H3 a y o/\Q (o.getD z) H3
section
variable{X:Cx}{o e f:Expr}{apos cpos:Pos}{td ty tx:TE}
theorem Eh(hu:X.A.units+1<cLine)(ho:PE X o td)(he:PE X e ty)(hf:PE X f tx)(m:M2 X o "get" apos e f cpos):PE X (.Call (.Attribute o "get" apos) [e,f] [] cpos) (QJ td ty tx):=by intro pins s σ H Q I h;refine wpAny_Call_method m.base m.few m.line PySem.F.plainAttrs_dict slot_dict_get PySem.F.type_dict_get (bH (ho pins s σ H _ I h) fun u s1⟨x,H1,I1,rx,a,ex,d,q1⟩=>?_);subst ex;obtain rfl:u=Value.ref a:=rx;obtain⟨t1,t2,_⟩:=Qd I1 d;refine⟨t1,t2,?_⟩;rw[m.trees];refine Calls.callWith_builtin rfl (Calls.evalArgs_plain (Calls.spliced_cons (bH (he pins s1 σ H1 _ I1 q1) fun iv s2⟨y,H2,I2,ry,q2⟩=>Calls.spliced_cons (bH (hf pins s2 σ H2 _ I2 q2) fun fv s3⟨z,H3,I3,rz,ov,g,q3⟩=>Calls.spliced_nil ?_))));exact Qh hu I3 g ry rz fun w' s4 I4 wW=>⟨_,H3,I4,wW,q3⟩
end
end L2
namespace Att
open PySem PySem.W PySem.Calls PyProof.Rows
end Att
namespace L2
open PySem PySem.Spec PyProof.Rows
end L2
end
section
namespace HH
open PySem L2 PySem.Spec PyProof.Rows
inductive KR(K:PySem.W.Frag)(F:Hp):List (Int×D)->List (Key×V)->Prop where|nil:KR K F [] []|cons{k:Int}{d:D}{v:V}{kvs:List (Int×D)}{es:List (Key×V)}(h:Rep K F v d)(t:KR K F kvs es):KR K F ((k,d)::kvs) ((Sum.inl k,v)::es)
section
variable{K:PySem.W.Frag}{F F':Hp}
noncomputable def ent(ks:List Int)(vs:List V):List (Key×V):=(ks.zip vs).map fun p=>(Sum.inl p.1,p.2)
theorem KR.of:∀{kvs:List (Int×D)}{vs:List V},aC K F vs (kvs.map (·.2))->KR K F kvs (ent (kvs.map (·.1)) vs)|[],vs,h=>by rw[map_nil]at h;rw[h.dF];exact .nil|(k,d)::kvs,vs,h=>by obtain⟨v,r,rfl,h1,h2⟩:=h.bV;exact .cons h1 (KR.of h2)
theorem KR.to{kvs:List (Int×D)}{es:List (Key×V)}(h:KR K F kvs es):∃vs,es=ent (kvs.map (·.1)) vs/\aC K F vs (kvs.map (·.2)):=by induction h with|nil=>exact⟨[],rfl,.nil⟩|@cons k d v kvs es h t ih=>obtain⟨vs,rfl,r⟩:=ih;exact⟨v::vs,rfl,.cons h r⟩
theorem KR.oc{kvs:List (Int×D)}{es:List (Key×V)}(h:KR K F kvs es):jA K F (.dK es) (.v kvs):=by obtain⟨vs,rfl,r⟩:=h.to;exact⟨vs,rfl,r⟩
theorem KR.RJ{kvs:List (Int×D)}{o:HO}(h:jA K F o (.v kvs)):∃es,o=.dK es/\KR K F kvs es:=by obtain⟨vs,rfl,r⟩:=h;exact⟨_,rfl,.of r⟩
theorem KR.len{kvs:List (Int×D)}{es:List (Key×V)}(h:KR K F kvs es):es.length=kvs.length:=by induction h with|nil=>rfl|cons h t ih=>simp[ih]
theorem KR.get{kvs:List (Int×D)}{es:List (Key×V)}{k:Int}{d:D}(h:KR K F kvs es)(e:mO kvs k=some d):∃v,ig es (Sum.inl k:Key)=some v/\Rep K F v d:=by induction h with|nil=>cases e|@cons j d' v kvs es h t ih=>
   unfold mO at e ih;rw[find?_cons]at e;by_cases c:j=k;.simp[c]at e;subst e;exact⟨v,kO (by rw[c]),h⟩
   .simp[c]at e;obtain⟨v',h1,h2⟩:=ih (by simpa using e);exact⟨v',by rw[lK (by simpa using c)];exact h1,h2⟩
theorem KR.any{kvs:List (Int×D)}{es:List (Key×V)}(k:Int)(h:KR K F kvs es):(es.any fun kv=>decide (kv.1=(Sum.inl k:Key)))=kvs.any fun p=>decide (p.1=k):=by induction h with|nil=>rfl|cons h t ih=>simp[ih]
theorem KR.has{kvs:List (Int×D)}{es:List (Key×V)}(k:Int)(h:KR K F kvs es):(ig es (Sum.inl k:Key)).isSome=(kvs.map (·.1)).contains k:=by rw[<-pB,h.any k];induction h with|nil=>rfl|@cons j d v kvs es h t ih=>rw[any_cons,ih,map_cons,List.contains_cons];congr 1;exact Bool.eq_iff_iff.mpr ⟨fun z=>by simp at z ⊢;exact z.symm,fun z=>by simp at z ⊢;exact z.symm⟩
theorem KR.repl{kvs:List (Int×D)}{es:List (Key×V)}{k:Int}{d:D}{v:V}(r:Rep K F v d)(h:KR K F kvs es):KR K F (kvs.map fun p=>if p.1=k then(p.1,d)else p) (es.map fun kv=>if kv.1=(Sum.inl k:Key)then(kv.1,v)else kv):=by induction h with|nil=>exact .nil|@cons j d' v' kvs es h t ih=>
   by_cases c:j=k;.subst c;simp;exact .cons r ih
   . have:¬(Sum.inl j:Key)=Sum.inl k:=by simpa using c
     simp[c,this];exact .cons h ih
theorem KR.snoc{kvs:List (Int×D)}{es:List (Key×V)}{k:Int}{d:D}{v:V}(r:Rep K F v d)(h:KR K F kvs es):KR K F (kvs++[(k,d)]) (es++[(Sum.inl k,v)]):=by induction h with|nil=>exact .cons r .nil|cons h t ih=>exact .cons h ih
theorem KR.put{kvs:List (Int×D)}{es:List (Key×V)}{k:Int}{d:D}{v:V}(r:Rep K F v d)(h:KR K F kvs es):KR K F (fL kvs k d) (putK es (Sum.inl k:Key) v):=by
 unfold fL putK;rw[h.any k];split;.exact h.repl r
 .exact h.snoc r
theorem KR.zip{ks:List Int}{ds:List D}{vs:List V}(h:aC K F vs ds)(hl:ks.length=ds.length):KR K F (ks.zip ds) (ent ks vs):=by induction ds generalizing ks vs with
 |nil=>rw[h.dF];cases ks with|nil=>exact .nil|cons _ _=>simp at hl
 |cons d ds ih=>obtain⟨v,r,rfl,h1,h2⟩:=h.bV;cases ks with|nil=>simp at hl|cons k ks=>exact .cons h1 (ih h2 (by simpa using hl))
end
section
variable{K:PySem.W.Frag}{F F1 H H1:Hp}{ρ ρ1 ρ2:List Sl}{σ σ1:L2.St}
theorem GS.acO{x:Nat}{m m':Dc}{a:Addr}(g:GS K F ρ σ H)(e:ρ[x]?=some (.eY m))(hx:σ[x]?=some (some (.ref a))):aq K F ρ σ H F (ρ.set x (.eY m')) σ (upd H a m'.ho):=by
 have hi:x<ρ.length:=(List.getElem?_eq_some_iff.mp e).1;have oa:aM ρ σ x a:=⟨⟨_,_,e,rfl⟩,hx⟩;obtain⟨a',o0,h1,h2,h3,h4⟩:=g.own x _ _ e rfl;rw[hx]at h1;cases h1;have old:∀{j:Nat}{c:Addr},aM (ρ.set x (.eY m')) σ j c->aM ρ σ j c:=fun{j c}⟨⟨t,dt,q1,q2⟩,q3⟩=>by
  by_cases hj:j=x;.subst hj;exact⟨⟨_,_,e,rfl⟩,q3⟩
  .rw[getElem?_set_ne (Ne.symm hj)]at q1;exact⟨⟨t,dt,q1,q2⟩,q3⟩
 refine⟨⟨fun c o q=>?_,by simp[g.len],fun j b' d q=>?_,fun j t dt q q'=>?_,fun j k c q1 q2=>g.dis j k c (old q1) (old q2)⟩,.refl _,fun c n n'=>absurd n n',fun c o q n=>?_,fun c⟨j,q⟩=>.inl ⟨j,old q⟩,by simp,fun j t q l=>⟨rfl,?_⟩⟩
 . have:c≠a:=by rintro rfl;rw[h3]at q;cases q
   rw[aA this];exact g.sub c o q
 . by_cases hj:j=x;.subst hj;rw[getElem?_set_self hi]at q;cases q
   .rw[getElem?_set_ne (Ne.symm hj)]at q;exact g.val j b' d q
 . by_cases hj:j=x;.subst hj;rw[getElem?_set_self hi]at q;cases q;cases q';exact⟨a,_,hx,aJ,h3,rfl⟩
   . rw[getElem?_set_ne (Ne.symm hj)]at q;obtain⟨c,zs,w1,w2,w3,w4⟩:=g.own j t dt q q';have:c≠a:=by rintro rfl;exact hj (g.dis j x c ⟨⟨t,dt,q,q'⟩,w1⟩ oa)
     exact⟨c,zs,w1,by rw[aA this];exact w2,w3,w4⟩
 . have:c≠a:=by rintro rfl;exact n ⟨x,oa⟩
   rw[aA this];exact q
 . by_cases hj:j=x;.subst hj;rw[e]at q;cases q;cases l
   .exact⟨t,by rw[getElem?_set_ne (Ne.symm hj)];exact q,.refl t⟩
theorem GS.newD{i:Nat}{m:Dc}{a:Addr}(g:GS K F ρ σ H)(e:ρ[i]?=some .aV)(ha:H a=none):aq K F ρ σ H F (ρ.set i (.eY m)) (σ.set i (some (.ref a))) (upd H a m.ho):=by
 have hi:i<ρ.length:=(List.getElem?_eq_some_iff.mp e).1;have hi':i<σ.length:=by rw[<-g.len];exact hi
 have fa:F a=none:=by cases q:F a with|none=>rfl|some o=>rw[g.sub a o q]at ha;cases ha
 have old:∀{j:Nat}{c:Addr},j≠i->aM (ρ.set i (.eY m)) (σ.set i (some (.ref a))) j c->aM ρ σ j c:=fun{j c}hj⟨⟨t,ds,e1,e2⟩,e3⟩=>by rw[getElem?_set_ne (Ne.symm hj)]at e1 e3;exact⟨⟨t,ds,e1,e2⟩,e3⟩
 have new:∀{c:Addr},aM (ρ.set i (.eY m)) (σ.set i (some (.ref a))) i c->c=a:=fun{c}⟨_,e3⟩=>by rw[getElem?_set_self hi']at e3;cases e3;rfl
 have no:∀{j:Nat},¬ aM ρ σ j a:=fun{j}⟨⟨t,ds,e1,e2⟩,e3⟩=>by obtain⟨c,o,q1,q2,_⟩:=g.own j t ds e1 e2;rw[e3]at q1;cases q1;rw[ha]at q2;cases q2
 refine⟨⟨fun c o q=>?_,by simp[g.len],fun j b' d q=>?_,fun j t dt q q'=>?_,fun j k c q1 q2=>?_⟩,.refl _,fun c n n'=>absurd n n',fun c o q n=>?_,fun c⟨j,q⟩=>?_,by simp,fun j t q l=>?_⟩
 . have:c≠a:=by rintro rfl;rw[fa]at q;cases q
   rw[aA this];exact g.sub c o q
 . by_cases hj:j=i;.subst hj;rw[getElem?_set_self hi]at q;cases q
   .rw[getElem?_set_ne (Ne.symm hj)]at q ⊢;exact g.val j b' d q
 . by_cases hj:j=i;.subst hj;rw[getElem?_set_self hi]at q;cases q;cases q';exact⟨a,_,getElem?_set_self hi',aJ,fa,rfl⟩
   . rw[getElem?_set_ne (Ne.symm hj)]at q ⊢;obtain⟨c,o,w1,w2,w3,w4⟩:=g.own j t dt q q';have:c≠a:=by rintro rfl;rw[ha]at w2;cases w2
     exact⟨c,o,w1,by rw[aA this];exact w2,w3,w4⟩
 . by_cases hj:j=i
   . by_cases hk:k=i;.rw[hj,hk]
     .subst hj;rw[new q1]at q2;exact absurd (old hk q2) no
   . by_cases hk:k=i;.subst hk;rw[new q2]at q1;exact absurd (old hj q1) no
     .exact g.dis j k c (old hj q1) (old hk q2)
 . have:c≠a:=by rintro rfl;rw[ha]at q;cases q
   rw[aA this];exact q
 . by_cases hj:j=i;.subst hj;rw[new q];exact .inr ha
   .exact .inl ⟨j,old hj q⟩
 . have hj:j≠i:=by rintro rfl;rw[e]at q;cases q;cases l
   exact⟨by rw[getElem?_set_ne (Ne.symm hj)],t,by rw[getElem?_set_ne (Ne.symm hj)];exact q,.refl t⟩
end
noncomputable def qy(p:Int×Int):Key×V:=(Sum.inl p.1,V.int p.2)
theorem G7(i:Int):∀kvs:List (Int×Int),ig (kvs.map qy) (Sum.inl i:Key)=((kvs.find? fun kv=>decide (kv.1=i)).map (·.2)).map V.int
 |[]=>rfl|p::kvs=>by
   have ih:=G7 i kvs;unfold ig at ih ⊢;rw[map_cons,find?_cons,find?_cons];by_cases h:p.1=i
   . have e:decide ((qy p).1=(Sum.inl i:Key))=true:=by simp[qy,h]
     rw[e];simp[h,qy]
   . have e:decide ((qy p).1=(Sum.inl i:Key))=false:=by simp[qy,h]
     rw[e];simp only[h,decide_false];exact ih
theorem Rx(i v:Int)(kvs:List (Int×Int)):putK (kvs.map qy) (Sum.inl i:Key) (V.int v)=(putD kvs i v).map qy:=by
 have e:((kvs.map qy).any fun kv=>decide (kv.1=(Sum.inl i:Key)))=kvs.any fun kv=>decide (kv.1=i):=by rw[List.any_map];congr 1;funext p;simp[qy]
 unfold putK putD;rw[e];split
 . rw[map_map,map_map];refine map_congr_left fun p _=>?_;by_cases h:p.1=i;.simp[qy,h]
   .simp[qy,h]
 .rw[map_append];rfl
section
variable{X:Cx}{c:Call}{n:Nat}{a b e:Expr}{pa pb p:P}{pos:Pos}
theorem GD{H:Hp}{q:Addr}{m:Dc}{i:Int}{o:Option Int}(h:Rd H q m.ho)(e:m.get (.int i)=some o):mJ H q (.int i) (o.map V.int):=by cases m with|k kvs=>cases e;exact .inl ⟨kvs.map qy,Sum.inl i,h,rfl,(G7 i kvs).symm⟩|t kvs=>cases e
theorem sV(hu:X.A.units+8<cLine)(ha:SX X c a pa)(hb:SX X c b pb)(hs:Lf b):SX X c (.Subscript a b pos) (.bin .Dl pa pb):=by refine uD (f:=Ax) (fun h1 h2=>?_) ha hb (fun ρ=>rfl) rfl;intro pins s σ H Q I h;refine Bp PySem.F.slot_dict_getitem.lookup hs (bH (h1 pins s σ H _ I h) fun u s1⟨x,H1,I1,rx,q1⟩=>bH (h2 pins s1 σ H1 _ I1 q1) fun iv s2⟨y,H2,I2,ry,q2⟩=>?_);obtain⟨F,d,e,r,sm,px,py,he,k⟩:=q2;cases d with
 |cM m=>have zz:=bI (show(m.get e).bind (fun o=>o.map fun v=>R.val (.int v))=some r from he);clear he;obtain⟨o,e1,he⟩:=zz;cases o with|none=>cases he|some v=>
     cases he;obtain⟨i,rfl⟩:∃i,e=.int i:=by cases m with|t kvs=>cases e<;>cases e1|k kvs=>cases e<;>first|exact⟨_,rfl⟩|cases e1
     obtain⟨q,ob,rfl,hq⟩:=px.cM sm;rw[py.int]at ry;obtain rfl:u=Value.ref q:=rx;have g:=GD (.inr ⟨ob,hq⟩) e1;exact⟨iC I2 g,mj (by omega) I2 g ry fun w' s3 I3 wW=>⟨.int v,H2,I3,wW,bB.bQ sm (bz _) k⟩⟩
 |dv ks ds=>cases e with|int j=>obtain⟨d',e5,he⟩:=map_some (show(mO (ks.zip ds) j).map R.val=some r from he);subst he;obtain⟨q,ob,vs,rfl,hq,rs,hl⟩:=px.dv sm;obtain⟨v',g1,g2⟩:=(KR.zip rs hl).get e5;rw[py.int]at ry;obtain rfl:u=Value.ref q:=rx;have g:mJ H2 q (.int j) (some v'):=.inl ⟨_,Sum.inl j,.inr ⟨ob,hq⟩,rfl,g1.symm⟩;exact⟨iC I2 g,mj (by omega) I2 g ry fun w' s3 I3 wW=>⟨v',H2,I3,wW,bB.bQ sm g2 k⟩⟩|_=>cases he
 |_=>cases he
theorem KY{i:Nat}{x:Str}{pos' p2:Pos}(hN:X.N.Nodup)(hi:X.N[i]?=some x)(hx:Loc X.env.scope x)(hs:swapsWith (.Dict [] [] p2) (some (.Name x pos')) pos.line X.env=pure false:=by rfl)(hf:X.fn x=true\/X.env.scope.names.lookup x=some .local:=by first|exact .inl rfl|exact .inr rfl|assumption):SS X c n (.Assign [.Name x pos'] (.Dict [] [] p2) pos) (.HY i false):=by
 refine dD (yf hN hi hx wC hs hf) ?_;rintro D σ H⟨F,ρ,fl,ρ',g,e,k⟩;rw[HH.X15]at e;split at e;.rename_i q;cases e;exact fun a ha=>k F _ _ (g.newD (m:=.k []) q ha)
 .cases e
theorem Qj{i:Nat}{x:Str}{px apos cpos:Pos}{pk pd:P}(hu:X.A.units+8<cLine)(hN:X.N[i]?=some x)(hv:xm X.env.scope x)(ha:SX X c a pk)(hb:SX X c b pd)(m:M2 X (.Name x px) "get" apos a b cpos)(hd:(x==("__debug__":Str))=false:=by decide)(hcd:(x==("__classdict__":Str))=false:=by decide):SX X c (.Call (.Attribute (.Name x px) "get" apos) [a,b] [] cpos) (.Vn i pk pd):=by
 obtain⟨ta,h1,h2⟩:=ha.bY;obtain⟨tb,h3,h4⟩:=hb.bY;refine⟨cY (Eh (by omega) (du hN hv hd hcd) h1 h3 m) ?_,fun i h=>by cases h⟩;rintro σ H Q⟨F,ρ,r,ρ',g,e,k⟩;rw[HH.E22]at e;split at e
 . rename_i m0 q;obtain⟨kd,ρ1,e1,eA⟩:=aa e;clear e;obtain⟨dd,ρ2,e2,eB⟩:=aa eA;clear eA;obtain⟨a0,o0,w1,w2,w3,w4⟩:=g.own i _ _ q rfl;refine⟨.ref a0,w1,a0,rfl,?_,?_⟩;.cases(show o0=m0.ho from w4);cases m0 with|k kvs=>exact .inl ⟨_,.inl w2⟩|t kvs=>exact .inr ⟨_,.inl w2⟩
   . refine h2 g e1 fun v F1 H1 s1 pv=>h4 s1.gs e2 fun z F2 H2 s2 pz=>?_;split at eB
     . rename_i m1 q1;obtain⟨eC,e3⟩:=aF eB;clear eB;subst e3;obtain⟨o,e4,eD⟩:=bI eC;clear eC;obtain⟨w,e5,e6⟩:=map_some eD;subst e6;obtain⟨a1,o1,y1,y2,y3,y4⟩:=s2.gs.own i _ _ q1 rfl;rw[w1]at y1;cases y1;cases(show o1=m1.ho from y4);obtain⟨j,rfl⟩:∃j,kd=.int j:=by cases m1 with|t kvs=>cases kd<;>cases e4|k kvs=>cases kd<;>first|exact⟨_,rfl⟩|cases e4
       rw[cz e5]at pz;rw[pv.int,pz.int];refine⟨o.map V.int,GD (.inl y2) e4,?_⟩;have:(o.map V.int).getD (V.int w)=V.int (o.getD w):=by cases o<;>rfl
       rw[this];exact k _ F2 H2 (s1.trans s2) (show Rep X.K F2 _ _ from bz _)
     .cases eB
 .cases e
theorem Lg{i:Nat}{x:Str}{px pos':Pos}{pk:P}(hu:X.A.units+8<cLine)(hN:X.N[i]?=some x)(hv:xm X.env.scope x)(ha:SX X c a pk)(he:SX X c e p)(hs:swapsWith e (some (.Subscript (.Name x px) a pos')) pos.line X.env=pure false:=by rfl)(hd:(x==("__debug__":Str))=false:=by decide)(hcd:(x==("__classdict__":Str))=false:=by decide):SS X c n (.Assign [.Subscript (.Name x px) a pos'] e pos) (.dput i pk p):=by
 obtain⟨ta,h1,h2⟩:=ha.bY;refine dD (zA (by omega) (du hN hv hd hcd) h1 he.ev hs) ?_;rintro D σ H⟨F,ρ,fl,ρ',g,e,k⟩;rw[HH.X16]at e;obtain⟨r,ρ1,e1,eA⟩:=aa e;clear e;refine⟨F,ρ,r,ρ1,g,e1,fun v F1 H1 s1 rr=>?_⟩;split at eA
 . rename_i m0 q0;obtain⟨kd,ρ2,e2,eB⟩:=aa eA;clear eA;obtain⟨a0,o0,w1,w2,w3,w4⟩:=s1.gs.own i _ _ q0 rfl;refine⟨.ref a0,w1,h2 s1.gs e2 fun y F2 H2 s2 py=>?_⟩;split at eB
   . rename_i m w q;split at eB;.rename_i m' e4;cases eB;obtain⟨a1,o1,y1,y2,y3,y4⟩:=s2.gs.own i _ _ q rfl;rw[w1]at y1;cases y1;cases(show o1=m.ho from y4);cases(show v=.int w by have:Rep X.K F1 v (.int w):=rr;rwa[Rep]at this);refine⟨a0,upd H2 a0 m'.ho,rfl,?_,k F2 σ _ ((s1.trans s2).trans (s2.gs.acO q w1))⟩;cases m with|t kvs=>cases kd<;>cases e4|k kvs=>cases kd with|int j=>obtain⟨hl,e4⟩:=aP (show(if kvs.length<lim then some (Dc.k (putD kvs j w))else none)=some m' from e4);subst e4;rw[py.int];refine .inl ⟨kvs.map qy,Sum.inl j,y2,rfl,by rw[length_map,sizeLine_eq];exact hl,?_⟩;rw[Rx];rfl|_=>cases e4
     .cases eB
   .cases eB
 .cases eA
end
end HH
end
section
namespace L2
open PySem PySem.Spec PyProof.Rows
noncomputable def Itk(a:Addr)(ob:Obj)(kvs:List (Key×V)):It:=⟨fun i H=>H a=some (.cN ob (.dK kvs))/\i<kvs.length,fun i H x H'=>H'=H/\∃p,kvs[i]?=some p/\x=kV p.1,fun i H=>H a=some (.cN ob (.dK kvs))/\kvs.length<=i⟩
theorem KV.get:∀{κ:Type}{kvs:List (κ×V)}{vs:List (κ×Value)}{i:Nat}{p:κ×V},KV kvs vs->kvs[i]?=some p->∃v,vs[i]?=some (p.1,v)|_,_,_,_,_,.nil,e=>by simp at e|_,_,_,0,_,.cons r _,e=>by simp at e;subst e;exact⟨_,by rw[List.getElem?_cons_zero,r.1]⟩|_,_,_,i+1,p,.cons _ t,e=>by obtain⟨v,h⟩:=KV.get (i:=i) (p:=p) t (by simpa using e);exact⟨v,by simpa using h⟩
theorem qG{X:Cx}{pins:List (Addr×Obj)}{σ:St}{H:Hp}{s:Shared}{a:Addr}{ob:Obj}{kvs:List (Key×V)}{es:Array DictEntry}{ep:Nat}(I:Inv X pins σ H s)(h:H a=some (.cN ob (.dK kvs)))(hd:ob.data=.dict es ep):(a==sysModules)=false/\∃vs,KV kvs vs/\s.heap.DictAt (aU X.prog X.w) a vs ep:=by obtain⟨ho,hz,hS,vs,r,dd⟩:=(show bu X.prog X.w H s.heap a (.cN ob (.dK kvs))from I.hok a _ h);obtain⟨o,es',ep',h1,h2,h3,h4⟩:=dd;rw[ho]at h1;cases h1;rw[hd]at h3;cases h3;exact⟨hS,vs,r,⟨ob,es,ho,h2,hd,h4⟩⟩
theorem R6{P:Program}{w:World}{k:Key}{u:Value}(h:(aU P w).is k u=true):RelV (kV k) u:=by
 rcases bf h with⟨i,t,rfl,rfl⟩|⟨x,t,rfl,rfl⟩;.exact⟨t,rfl⟩
 .exact⟨t,rfl⟩
theorem Ce{P:Program}{w:World}{K:PySem.W.Frag}{tg:Expr}(a it:Addr)(ob:Obj)(kvs:List (Key×V))(es:Array DictEntry)(ep:Nat)(hd:ob.data=.dict es ep):Turn P w K tg (Itk a ob kvs) [it] it (fun i h=>h.IsKeyIter it a i kvs.length ep)where
 mem:=by simp
 obj:=fun i h st b hb=>by
  have e:b=it:=by simpa using hb
  subst e;obtain⟨o,e,c,d⟩:=st;exact⟨o,e,fun v z=>by rw[d]at z;cases z⟩
 keep:=fun i h h' st k=>st.at fun o e=>k it (by simp) o e;item:=by intro X hP hw hK hc i pins s σ H E I hf st hg;subst hP hw hK;obtain⟨hq,hi⟩:=hg;obtain⟨hS,vs,r,dd⟩:=qG I hq hd;have hl:vs.length=kvs.length:=(Paired.length r).symm;obtain⟨v,hx⟩:=KV.get r (show kvs[i]?=some kvs[i]by simp[hi]);obtain⟨f0,f1,f2,f3,f4,f5⟩:=hf it (by simp);refine wpAny_pyNext_dict_item (by rw[hl];exact st) dd hx fun u h' hu st' sb=>?_;have I1:Inv X pins σ H {s with heap:=h'}:=I.turned (t':=s.toks) (fun b o hb e=>(sb.2 b hb).trans e) f0 f1 f3 f4 f5;rw[hl]at st';obtain⟨o,e,c,d⟩:=id st';exact⟨u,rfl,zB (s:={s with heap:=h'}) e c d (by decide) ⟨_,H,I1,R6 hu,⟨rfl,_,by simp[hi],rfl⟩,st',fun b hb=>(hf b hb).1⟩⟩
 done:=by intro X hP hw hK hc i pins s σ H E I hf st hg;subst hP hw hK;obtain⟨hq,hi⟩:=hg;obtain⟨hS,vs,r,dd⟩:=qG I hq hd;have hl:vs.length=kvs.length:=(Paired.length r).symm;obtain⟨f0,f1,f2,f3,f4,f5⟩:=hf it (by simp);refine wpAny_pyNext_dict_end (I.ok.hd hc) (by rw[hl];exact st) dd (by simp[hl,hi]) fun h' he=>⟨rfl,?_⟩;exact I.turned (t':=s.toks) (fun b o hb e=>he b o hb e) f0 f1 f3 f4 f5
 self:=fun A i s Q E st hQ=>wpAny_pyIter_keyiter st hQ
section
variable{X:Cx}{tg:Expr}
theorem Kv{l:Expr}{tl:TE}(hl:PE X l tl):PI X tg l (fun σ H R=>tl σ H fun x H1=>∃a ob kvs,x=.ref a/\H1 a=some (.cN ob (.dK kvs))/\R (Itk a ob kvs) H1):=by
 intro pins s σ H R I h;refine bH (hl pins s σ H _ I h) ?_;rintro v s1⟨x,H1,I1,r1,a,ob,kvs,e,hq,q⟩;subst e;cases r1;obtain⟨ho,hz,hS,vs,r,dd⟩:=(show bu X.prog X.w H1 s1.heap a (.cN ob (.dK kvs))from I1.hok a _ hq);obtain⟨o,es,ep,h1,h2,h3,h4⟩:=id dd;rw[ho]at h1;cases h1;have hlen:vs.length=kvs.length:=(Paired.length r).symm;refine wpAny_pyIter_dict (knd:=aU X.prog X.w) (kvs:=vs) (ep:=ep) hS ⟨ob,es,ho,h2,h3,h4⟩ ?_;refine⟨s1.heap.objs.size,[s1.heap.objs.size],_,_,H1,rfl,I1.kept (t':=s1.toks) fun b o e=>get?_push_of_some _ e,Ce a _ ob kvs es ep h3,⟨_,get?_push_size _ rfl,rfl,by rw[hlen];rfl⟩,fun b hb=>?_,q⟩;have e:b=s1.heap.objs.size:=by simpa using hb
 subst e;exact I1.Gw (le_refl _) (I1.hok.fresh (le_refl _))
end
end L2
namespace HH
open PySem L2 PySem.Spec PyProof.Rows
section
variable{X:Cx}{c:Call}{tg e:Expr}{p:P}
theorem Km{ks:List Int}{es:List (Key×V)}{j:Nat}{p:Key×V}{i:Int}(h:es.map (·.1)=ks.map (Sum.inl:Int->Key))(e1:es[j]?=some p)(e2:ks[j]?=some i):p.1=Sum.inl i:=by
 have:(es.map (·.1))[j]?=(ks.map (Sum.inl:Int->Key))[j]?:=by rw[h]
 rw[getElem?_map,getElem?_map,e1,e2]at this;exact Option.some.inj this
theorem oW:∀{ks:List Int}{vs:List V},ks.length=vs.length->(ent ks vs).map (·.1)=ks.map (Sum.inl:Int->Key)|[],[],_=>rfl|k::ks,v::vs,h=>by have:=oW (ks:=ks) (vs:=vs) (by simpa using h);unfold ent at this ⊢;simpa using this|[],_::_,h=>by simp at h|_::_,[],h=>by simp at h
theorem J1(h:SX X c e p):SI X c tg e (.blt .keys [p]):=by
 unfold SI;obtain⟨ta,h1,h2⟩:=h.bY;refine pU (Kv h1) ?_;rintro σ H R⟨F,ρ,ds,ρ1,g,eA,k⟩;obtain⟨r,ρ2,eB,eC⟩:=aa (show((HH.ev c (.blt .keys [p]) ρ).bind fun r ρ=>lift (items r.d) ρ)=.ok ds ρ1 from eA);obtain⟨eD,e3⟩:=aF eC;subst e3;rw[HH.E16]at eB;obtain⟨d,ρ3,e1,eE⟩:=aa eB;obtain⟨eF,e4⟩:=aF eE;subst e4;refine h2 g e1 fun v F' H' s pv=>?_;have hd:∃(ks:List Int)(es:List (Key×V))(a:Addr)(ob:Obj),ds=ks.map D.int/\v=.ref a/\H' a=some (.cN ob (.dK es))/\es.map (·.1)=ks.map (Sum.inl:Int->Key):=by cases d with
  |cM m=>cases m with|k kvs=>cases eF;cases eD;obtain⟨a,ob,rfl,hq⟩:=pv.cM s.gs.sub;exact⟨kvs.map (·.1),kvs.map qy,a,ob,by rw[map_map];rfl,rfl,hq,by rw[map_map,map_map];rfl⟩|t kvs=>cases eF
  |dv ks ds'=>cases eF;cases eD;obtain⟨a,ob,vs,rfl,hq,rs,hl⟩:=pv.dv s.gs.sub;exact⟨ks,ent ks vs,a,ob,rfl,rfl,hq,oW (by rw[rs.length];exact hl)⟩|_=>cases eF
 obtain⟨ks,es,a,ob,rfl,rfl,hq,hes⟩:=hd;have hle:es.length=ks.length:=by have:=congrArg List.length hes;simpa using this
 refine⟨a,ob,es,rfl,hq,k _ F' H' ⟨s.gs,fun n j F2 ρ2 σ2 H2 s2=>?_,fun F2 ρ2 σ2 H2 s2=>⟨s.trans s2,fun v r rr=>rr.later s⟩⟩⟩;have gm:=s.gs.more (n:=n) (τ:=replicate n none) (by simp);have hq2:=s2.keep a _ hq fun⟨j,⟨t,dt,q1,q2⟩,q3⟩=>by obtain⟨a',o',z1,z2,z3,z4⟩:=gm.own j t dt q1 q2;rw[q3]at z1;cases z1;rw[hq]at z2;cases z2;cases dt with|l ds=>obtain⟨xs,z,_⟩:=z4;cases z|d m=>cases m<;>cases z4|v kvs=>obtain⟨xs,z,_⟩:=z4;cases z
 refine⟨fun d hd=>?_,fun hj=>⟨hq2,by rw[hle];simpa using hj⟩⟩;have hj:j<ks.length:=by have:=(List.getElem?_eq_some_iff.mp hd).1;simpa using this
 refine⟨⟨hq2,by omega⟩,fun x uF⟨e5,q,e6,e7⟩=>?_⟩;subst e5;refine⟨F2,.refl s2.gs.sub,?_⟩;rw[getElem?_map]at hd;obtain⟨i,e8,e9⟩:=map_some hd;rw[e7,Km hes e6 e8,<-e9];exact bz _
end
end HH
end
section
namespace HH
open PySem L2 PySem.Spec PyProof.Rows PySem.Calls PySem.W
section
variable{X:Cx}{c:Call}{a:Expr}{pa:P}{pos:Pos}
theorem lJ:∀{ns:List Int}{us:List Value},IntsAre us ns->Vals (ns.map V.int) us|_,_,.nil=>.nil|_,_,.cons n t r=>.cons ⟨t,rfl⟩ (lJ r)
theorem rM{K:PySem.W.Frag}{F:Hp}:∀ns:List Int,aC K F (ns.map V.int) (ns.map D.int)|[]=>.nil|n::ns=>.cons (bz n) (rM ns)
end
end HH
end
section
namespace HH
open PySem L2 PySem.Spec PyProof.Rows
theorem Inv.aa0{X:Cx}{pins:List (Addr×Obj)}{σ:L2.St}{H:Hp}{s:Shared}{a:Addr}{kvs:List (List Key×V)}(I:L2.Inv X pins σ H s)(h:H a=some (.dT kvs)):∃o,L2.Inv X pins σ (upd H a (.cN o (.dT kvs))) s:=by obtain⟨z,y,xs,r,o,es,ep,h1,h2,h3,h4,h5⟩:=(show bu X.prog X.w H s.heap a (.dT kvs)from I.hok a _ h);refine⟨o,I.write (h':=s.heap) (t':=s.toks) (by rw[h];exact trivial) (.inl rfl) (fun b u _ e=>e) ⟨o,h1⟩ ⟨h1,z,y,xs,KT.keeps r fun b ys q=>?_,o,es,ep,h1,h2,h3,h4,h5⟩⟩;rw[aA (by rintro rfl;rw[h]at q;cases q)];exact q
section
variable{X:Cx}{c:Call}{n:Nat}{a b e:Expr}{p pa pb:P}{pos:Pos}{es:List Expr}{ps:List P}{x1:Nat}{tpos:Pos}
theorem MK{i:Nat}{x:Str}{px:Pos}(hN:X.N[i]?=some x)(hv:xm X.env.scope x)(hd:(x==("__debug__":Str))=false:=by decide)(hcd:(x==("__classdict__":Str))=false:=by decide):SX X c (.Name x px) (.vw i):=by
 have h:=du (X:=X) (pos:=px) hN hv hd hcd;refine⟨?_,fun i h=>by cases h⟩;rintro pins s σ H Q I⟨F,ρ,r,ρ',g,e,k⟩;rw[HH.E23]at e;split at e
 . rename_i m q;cases e;obtain⟨a,h1,h2,h3⟩:=g.zT q;refine bH (h pins s σ H (fun v H'=>v=.ref a/\H'=H) I ⟨.ref a,h1,rfl,rfl⟩) fun u s1⟨v,H1,I1,r1,e1,e2⟩=>?_;subst e1 e2;have zz:∃o,L2.Inv X pins σ (upd H1 a (.cN o m.ho)) s1:=by cases m with|k kvs=>exact Inv.Ey I1 h2|t kvs=>exact Inv.aa0 I1 h2
   obtain⟨o,I2⟩:=zz;exact⟨.ref a,_,I2,r1,k _ _ _ (h3 o).1 (h3 o).2⟩
 .rename_i kvs q;cases e;obtain⟨a,vs,h1,h2,h3⟩:=g.Aj q;refine bH (h pins s σ H (fun v H'=>v=.ref a/\H'=H) I ⟨.ref a,h1,rfl,rfl⟩) fun u s1⟨v,H1,I1,r1,e1,e2⟩=>?_;subst e1 e2;obtain⟨o,I2⟩:=Inv.Ey I1 h2;exact⟨.ref a,_,I2,r1,k _ _ _ (h3 o).1 (h3 o).2⟩
 .cases e
end
end HH
end
section
namespace HH
open PySem L2 PySem.Spec PyProof.Rows
section
variable{K:PySem.W.Frag}{F H F' H':Hp}{ρ ρ':List Sl}{σ σ':L2.St}
def Kp(ρ:List Sl)(σ:L2.St)(H:Hp)(a:Addr)(o:HO):Prop:=H a=some o/\¬ Own ρ σ a
theorem Kp.stp{a:Addr}{o:HO}(h:Kp ρ σ H a o)(s:aq K F ρ σ H F' ρ' σ' H'):Kp ρ' σ' H' a o:=⟨s.keep a o h.1 h.2,fun z=>(s.uK a z).elim h.2 fun e=>by rw[h.1]at e;cases e⟩
structure Wt(K:PySem.W.Frag)(F:Hp)(ρ:List Sl)(σ:L2.St)(H:Hp)(a:Addr)(ds:List D):Prop where
 ex:∃xs,Kp ρ σ H a (.lst xs)/\aC K F xs ds
 fr:F a=none
theorem Wt.stp{a:Addr}{ds:List D}(h:Wt K F ρ σ H a ds)(s:aq K F ρ σ H F' ρ' σ' H'):Wt K F' ρ' σ' H' a ds:=by obtain⟨⟨xs,h1,h2⟩,h3⟩:=h;refine⟨⟨xs,h1.stp s,h2.mono s.cG⟩,?_⟩;cases q:F' a with|none=>rfl|some o=>
   rcases s.wX a h3 (by rw[q];simp)with z|z;.exact absurd z h1.2
   .rw[h1.1]at z;cases z
end
end HH
end
section
namespace HH
open PySem L2 PySem.Spec PyProof.Rows
theorem Cz(x dv:Value):argsOk "max" ⟨[x],[("default",dv)]⟩:=by unfold argsOk;kernel_rfl
theorem nR:(toString "max"++toString ".loop":String)="max.loop":=by decide
section
variable{prog:Program}{w:World}{A:Around}{R:Result->Shared->Prop}{I:Addr}{fp wr:List Addr}{m:Nat}{P:Nat->Value->Prop}{Sx:Nat->Heap->Prop}{dv:Value}
theorem Cy(W:Walks prog w A.in1 I fp wr m P Sx)(bt:Nat->Nat->Bool)(cmp:CmpOf prog w A.in1 .Gt P bt)(B:Addr)(hB:B∉fp):∀(u j:Nat)(s:Shared)(v0:Value)(q:Nat),m-(j+1)=u->j+1<=m->Sx (j+1) s.heap->P (argBest bt j) v0->s.heap.get? B=some ⟨.type "list",none,.seq #[v0,v0] q,#[]⟩->(∀v h' tk,P (argBest bt (m-1)) v->(∀b o,b∉wr->b≠B->s.heap.get? b=some o->h'.get? b=some o)->R (.ok (.ret v)) {s with heap:=h',toks:=tk})->codeAny (model prog w) A (.builtin "max.loop" ⟨[.ref I,.none,.ref B],[("default",dv)]⟩) R s:=by have hBw:B∉wr:=fun z=>hB (W.sub _ z);intro u;induction u with|zero=>
   intro j s v0 q hu hj st p0 gB k;have hjm:j+1=m:=by omega
   refine codeAny_builtin F.entry_max_loop ?_;rw[Around.under_plainId F.plain_max_loop _];show wpAny _ A.in1 (seqItems? (.ref B)>>=_) _ _ s;refine wpAny_bind (wpAny_seqItems gB rfl ?_);show wpAny _ A.in1 (tryCatch (pyNext (.ref I)) _>>=_) _ _ s;refine wpAny_bind (wpAny_tryCatch (W.done s _ _ (hjm▸st) fun h' tk kk=>?_));have Oi:=kk B _ hBw gB;show wpAny _ A.in1 (updateSeq B (fun _=>#[])>>=_) _ _ _;refine wpAny_bind (wpAny_updateSeq Oi rfl (wpAny_bind (wpAny_letGo (wpAny_pure ?_))));exact k v0 _ tk (by rw[<-hjm];exact p0) fun b o z1 z2 z3=>(get?_update_other _ _ (Ne.symm z2)).trans (kk b o z1 z3)|succ u ih=>
   intro j s v0 q hu hj st p0 gB k;have hlt:j+1<m:=by omega
   refine codeAny_builtin F.entry_max_loop ?_;rw[Around.under_plainId F.plain_max_loop _];show wpAny _ A.in1 (seqItems? (.ref B)>>=_) _ _ s;refine wpAny_bind (wpAny_seqItems gB rfl ?_);show wpAny _ A.in1 (tryCatch (pyNext (.ref I)) _>>=_) _ _ s;refine wpAny_bind (wpAny_tryCatch (W.item (j+1) s _ _ hlt st fun v h' tk pv st' kk=>?_));have Oi:=kk B _ hBw gB;show wpAny _ A.in1 (tryCatch (holding [v,v] (richCompare .Gt v v0>>=_)) _>>=_) _ _ _;refine wpAny_bind (wpAny_tryCatch (wpAny_holding (wpAny_bind (cmp (j+1) (argBest bt j) v v0 _ _ _ pv p0 (wpAny_bind (wpAny_holding (wpAny_truthy_bool (wpAny_bind (wpAny_letGo (wpAny_pure ?_))))))))));cases e:bt (j+1) (argBest bt j)with|true=>simp only[if_true];refine wpAny_bind (wpAny_updateSeq Oi rfl (wpAny_bind (wpAny_letGo ?_)));rw[nR];refine wpAny_pure ⟨plainId_quiet F.plain_max_loop _,ih (j+1) _ v _ (by omega) hlt (W.frame _ _ _ st' fun b z o y=>(get?_update_other _ _ (fun h:B=b=>hB (by rw[h];exact z))).trans y) (by simp only[argBest,e,if_true];exact pv) (get?_update_self _ Oi rfl) fun v' h2 t2 p2 k2=>?_⟩;exact k v' h2 t2 p2 fun b o z1 z2 z3=>k2 b o z1 z2 ((get?_update_other _ _ (Ne.symm z2)).trans (kk b o z1 z3))|false=>simp only[false_eq_true,if_false];refine wpAny_bind (wpAny_letGo ?_);rw[nR];refine wpAny_pure ⟨plainId_quiet F.plain_max_loop _,ih (j+1) _ v0 q (by omega) hlt st' (by simp only[argBest,e,false_eq_true,if_false];exact p0) Oi fun v' h2 t2 p2 k2=>k v' h2 t2 p2 fun b o z1 z2 z3=>k2 b o z1 z2 (kk b o z1 z3)⟩
theorem yD(W:Walks prog w A.in1 I fp wr m P Sx)(bt:Nat->Nat->Bool)(cmp:CmpOf prog w A.in1 .Gt P bt)(B:Addr)(hB:B∉fp){s:Shared}{q:Nat}(st:Sx 0 s.heap)(gB:s.heap.get? B=some ⟨.type "list",none,.seq #[] q,#[]⟩)(k:0<m->∀v h' tk,P (argBest bt (m-1)) v->(∀b o,b∉wr->b≠B->s.heap.get? b=some o->h'.get? b=some o)->R (.ok (.ret v)) {s with heap:=h',toks:=tk})(k0:m=0->∀h' tk,(∀b o,b∉wr->b≠B->s.heap.get? b=some o->h'.get? b=some o)->R (.ok (.ret dv)) {s with heap:=h',toks:=tk}):codeAny (model prog w) A (.builtin "max.loop" ⟨[.ref I,.none,.ref B],[("default",dv)]⟩) R s:=by
 have hBw:B∉wr:=fun z=>hB (W.sub _ z);refine codeAny_builtin F.entry_max_loop ?_;rw[Around.under_plainId F.plain_max_loop _];show wpAny _ A.in1 (seqItems? (.ref B)>>=_) _ _ s;refine wpAny_bind (wpAny_seqItems gB rfl ?_);show wpAny _ A.in1 (tryCatch (pyNext (.ref I)) _>>=_) _ _ s;by_cases hm:0<m;.refine wpAny_bind (wpAny_tryCatch (W.item 0 s _ _ hm st fun v h' tk pv st' kk=>?_));have Oi:=kk B _ hBw gB;show wpAny _ A.in1 (updateSeq B (fun _=>#[v,v])>>=_) _ _ _;refine wpAny_bind (wpAny_updateSeq Oi rfl ?_);rw[nR];refine wpAny_pure ⟨plainId_quiet F.plain_max_loop _,Cy W bt cmp B hB _ 0 _ v _ rfl hm (W.frame _ _ _ st' fun b z o y=>(get?_update_other _ _ (fun h:B=b=>hB (by rw[h];exact z))).trans y) pv (get?_update_self _ Oi rfl) fun v' h2 t2 p2 k2=>?_⟩;exact k hm v' h2 t2 p2 fun b o z1 z2 z3=>k2 b o z1 z2 ((get?_update_other _ _ (Ne.symm z2)).trans (kk b o z1 z3))
 . have hm0:m=0:=by omega
   refine wpAny_bind (wpAny_tryCatch (W.done s _ _ (by rw[hm0];exact st) fun h' tk kk=>?_));show wpAny _ A.in1 (rule _>>=_) _ _ _;refine wpAny_bind (wpAny_rule (wpAny_pure ?_));exact k0 hm0 h' tk fun b o z1 z2 z3=>kk b o z1 z3
end
section
variable{prog:Program}{w:World}{A:Around}{E:Value->Shared->Prop}{s:Shared}
theorem Cw{x dv:Value}{Q:Value->Shared->Prop}(h:wpAny (model prog w) A.in1 (pyIter x) (fun it s₂=>∃ I fp wr m P Sx bt,it=.ref I/\Walks prog w A.in1 I fp wr m P Sx/\Sx 0 s₂.heap/\(∀ b ∈ fp,b<s₂.heap.objs.size)/\CmpOf prog w A.in1 .Gt P bt/\(0<m->∀v h' tk,P (argBest bt (m-1)) v->(∀b o,b∉wr->s₂.heap.get? b=some o->h'.get? b=some o)->Q v {s₂ with heap:=h',toks:=tk})/\(m=0->∀h' tk,(∀b o,b∉wr->s₂.heap.get? b=some o->h'.get? b=some o)->Q dv {s₂ with heap:=h',toks:=tk})) E s):wpAny (model prog w) A (call (.builtin "max") [x] [("default",dv)]) Q E s:=by
 refine xQ F.kind_max F.plain_max F.entry_max (Cz _ _) ?_;show wpAny _ A.in1 (Builtin.Builtins.bindParams "max" ["key","default"] 0 ⟨[],[("default",dv)]⟩>>=_) _ _ s;refine wpAny_bind (wpAny_of_eq (show Builtin.Builtins.bindParams "max" ["key","default"] 0 ⟨[],[("default",dv)]⟩=pure [none,some dv]from rfl) (wpAny_bind (wpAny_pure ?_)));refine wpAny_bind (wpAny_mono h (?_) fun _ _ z=>z);rintro it s₂⟨I,fp,wr,m,P,Sx,bt,ei,W,st,hfp,cmp,k,k0⟩;subst ei;refine wpAny_bind (wpAny_newObj_type ?_);have hB:s₂.heap.objs.size∉fp:=fun z=>lt_irrefl _ (hfp _ z);rw[nR];refine wpAny_pure ⟨plainId_quiet F.plain_max_loop _,yD W bt cmp s₂.heap.objs.size hB (W.frame _ _ _ st fun b _ o z=>get?_push_of_some _ z) (get?_push_size _ rfl) (fun hm v h' tk pv kk=>?_) fun hm h' tk kk=>?_⟩;.exact k hm v h' tk pv fun b o z y=>kk b o z (ne_of_lt (lt_size y)) (get?_push_of_some _ y)
 .exact k0 hm h' tk fun b o z y=>kk b o z (ne_of_lt (lt_size y)) (get?_push_of_some _ y)
end
section
variable{X:Cx}{c:Call}{n:Nat}{e a b:Expr}{p pa pb:P}{pos:Pos}
theorem O2(hc:X.calm=true):CallD X "max" (Lr X.K fun x=>blt .HW [x]):=by
 rintro pins s σ H xs us Q I r⟨x,hx,F,d,r',sm,px,he,k⟩;obtain⟨ns,e1,he⟩:=map_some (show((items d).bind fun ds=>ds.mapM fV).map _=some r' from he);subst he;obtain⟨ds,e2,e3⟩:=bI e1;obtain⟨p,ys,rfl,hq,rs⟩:=px.items sm e2;rw[j5 e3]at rs;have ey:=di rs;subst hx;obtain⟨u,rfl,rx⟩:=r.one;cases rx;refine Cw (walked I hc hq fun it us s₂ Sx rv W h0 hl kp=>?_);subst ey;have hlen:us.toArray.size=ns.length:=by rw[size_toArray,<-rv.length,length_map]
 refine⟨it,_,_,_,_,Sx,_,rfl,W,h0,hl,CmpOf.ints_gt (fun i=>ns.getD i 0) (fun i v e=>kJ rv e),fun hm v h' tk pv kk=>?_,fun hm h' tk kk=>?_⟩
 . rw[hlen]at pv hm;obtain⟨t,rfl⟩:=kJ rv pv;obtain⟨i,hi⟩:∃i,ns.max?=some i:=by cases e:ns.max? with|none=>rw[List.max?_eq_none_iff]at e;rw[e]at hm;cases hm|some i=>exact⟨i,rfl⟩
   rw[hi]at k;rw[Ha hi];exact⟨.int _,H,kp h' tk kk,⟨t,rfl⟩,bB.bQ sm (bz _) k⟩
 .rw[hlen]at hm;have e:ns=[]:=List.eq_nil_of_length_eq_zero hm;subst e;exact⟨.non,H,kp h' tk kk,rfl,bB.bQ sm DY k⟩
theorem JC{x:Str}{p' kp cp:Pos}{ck}(hx:x="max")(hc:X.calm=true)(hg:Gl X x)(hm:X.mg x=none)(ha:SX X c a pa)(hs:starEach [a] X.env=(false,eval a X.env)::starEach [] X.env:=by rfl)(he:backTo pos (starEach [a] X.env)=(false,eval a X.env)::backTo pos (starEach [] X.env):=by rfl)(hpl:(backTo pos (starEach [a] X.env)).any (·.1)=false:=by rfl)(hall:(backToKw pos (keywordEach [⟨some "default",.Constant .none ck cp,kp⟩] X.env)).all (·.1.isSome)=true:=by rfl)(hkw:(backToKw pos (keywordEach [⟨some "default",.Constant .none ck cp,kp⟩] X.env)).any (·.1.isNone)=false:=by rfl):SX X c (.Call (.Name x p') [a] [⟨some "default",.Constant .none ck cp,kp⟩] pos) (.blt .HW [pa]):=by subst hx;exact mU (fun h=>Ea (O2 hc) hg hm boot_max h (he:=he) (hpl:=hpl) (hall:=hall) (hkw:=hkw)) ha (fun ρ=>rfl) rfl hs
end
end HH
end
section
namespace HH
open PySem L2 PySem.Spec PyProof.Rows PySem.Calls PySem.W
noncomputable def xj(nw:Addr->Option HO)(H:Hp):Hp:=fun a=>match nw a with|some o=>some o|none=>H a
theorem sI{nw:Addr->Option HO}{H:Hp}{a:Addr}{o:HO}(h:nw a=some o):xj nw H a=some o:=by unfold xj;rw[h]
theorem fu{nw:Addr->Option HO}{H:Hp}{a:Addr}(h:nw a=none):xj nw H a=H a:=by unfold xj;rw[h]
theorem Wc{X:Cx}{pins:List (Addr×Obj)}{σ:L2.St}{H:Hp}{s:Shared}{h':Heap}{t':Nat}{nw:Addr->Option HO}(I:L2.Inv X pins σ H s)(k:∀b u,s.heap.get? b=some u->h'.get? b=some u)(hp:∀a o,nw a=some o->s.heap.objs.size<=a)(new:∀a o,nw a=some o->bu X.prog X.w (xj nw H) h' a o):L2.Inv X pins σ (xj nw H) {s with heap:=h',toks:=t'}:=by
 have no:∀a,a<s.heap.objs.size->nw a=none:=fun a ha=>by cases q:nw a with|none=>rfl|some o=>exact absurd (hp a o q) (Nat.not_le_of_lt ha)
 have old:∀a o,H a=some o->xj nw H a=some o:=fun a o e=>by rw[fu (no a (I.hok.lt e))];exact e
 refine I.un ⟨fun b u q _ _ _=>k b u q,fun b u q _ _ _=>⟨u.slots,k b u q⟩,fun b u q n _=>?_,fun b u q _=>⟨u,k b u q⟩,fun b xs q=>old b _ q,fun b u xs q=>old b _ q,fun b ps q=>⟨#[],by rw[old b _ q];simp⟩⟩ fun b u e=>?_;.rw[fu (no b (lt_size q))];exact n
 .cases q:nw b with|some o=>rw[sI q]at e;cases e;exact new b _ q|none=>rw[fu q]at e;exact(I.hok b u e).stay (fun c v _ z=>k c v z) (fun c z=>old c _ z) fun c xs z=>old c _ z
def iv(l d:Addr):Heap->Prop:=fun h=>h.IsItemsView l d
def Hn:V->List V->Hp->VK->Prop:=fun x xs H Q=>∃q ob kvs,x=.ref q/\xs=[]/\H q=some (.cN ob (.dK (map qy kvs)))/\∀l,H l=none->Q (.ref l) (upd H l (.ext (iv l q)))
def rIt(X:Cx):List V->Hp->VK->Prop:=fun xs H Q=>∃l q ob kvs,xs=[.ref l]/\H l=some (.ext (iv l q))/\H q=some (.cN ob (.dK (map qy kvs)))/\sortable (kvs.map fU)=true/\∃F,aH F H/\∀v F' H',Ext F H F' H'->bB X.K F' H' H v (.own (nJ (kvs.map fU)))->Q v H'
theorem uY{P:Program}{w:World}{h:Heap}:∀{kvs:List (Int×Int)}{vs:List (Key×Value)}{as:List Addr},KV (kvs.map qy) vs->as.length=vs.length->(∀(j:Nat)(a:Addr),as[j]?=some a->∃key k x,vs[j]?=some (k,x)/\(aU P w).is k key=true/\h.get? a=some {cls:=.type "tuple",data:=.seq #[key,x]})->∀(j:Nat)(a:Addr),as[j]?=some a->∃p,kvs[j]?=some p/\∃t u,h.get? a=some {cls:=.type "tuple",data:=.seq #[Value.int p.1 t,Value.int p.2 u]}
 |[],_,as,.nil,hl,_,j,a,e=>by cases as with|nil=>cases e|cons _ _=>simp at hl
 |p::kvs,_,as,.cons (b:=q) r t,hl,hk,j,a,e=>by cases as with|nil=>cases e|cons b as=>cases j with
     |zero=>
       obtain⟨key,k,x,e1,e2,e3⟩:=hk 0 a e;simp at e1;have e4:k=Sum.inl p.1:=by have z:=r.1;rw[e1]at z;exact z.symm
       have e5:∃u,x=Value.int p.2 u:=by have z:=r.2;rw[e1]at z;exact z
       subst e4;obtain⟨u,rfl⟩:=e5;obtain⟨i,tk,e6,rfl⟩|⟨_,_,e6,_⟩:=bf (show mY (Sum.inl p.1) key=true from e2);.cases e6;exact⟨p,rfl,tk,u,e3⟩
       .cases e6|succ j=>exact uY t (by simpa using hl) (fun i c z=>by simpa using hk (i+1) c (by simpa using z)) j a (by simpa using e)
noncomputable def Zx(p:Int×Int):HO:=.tup [.int p.1,.int p.2]
noncomputable def nU:List Addr->List (Int×Int)->Addr->Option HO|a::as,p::ps,b=>if b=a then some (Zx p)else nU as ps b|_,_,_=>none
theorem nQ:∀{as:List Addr}{ps:List (Int×Int)}{b:Addr}{o:HO},nU as ps b=some o->∃(j:Nat)(p:Int×Int),as[j]?=some b/\ps[j]?=some p/\o=Zx p
 |a::as,p::ps,b,o,h=>by
   unfold nU at h;split at h;.rename_i e;cases h;subst e;exact⟨0,p,rfl,rfl,rfl⟩
   .obtain⟨j,q,h1,h2,h3⟩:=nQ h;exact⟨j+1,q,by simpa using h1,by simpa using h2,h3⟩|[],_,_,_,h=>by simp[nU]at h|_::_,[],_,_,h=>by simp[nU]at h
theorem Az:∀{as:List Addr}{ps:List (Int×Int)},as.Pairwise (·<·)->∀{j:Nat}{b:Addr}{p:Int×Int},as[j]?=some b->ps[j]?=some p->nU as ps b=some (Zx p)|[],_,_,_,_,_,h,_=>by simp at h|_::_,[],_,_,_,_,_,h=>by simp at h|a::as,q::ps,hp,j,b,p,h1,h2=>by unfold nU;cases j with|zero=>cases h1;cases h2;rw[if_pos rfl]|succ j=>
     have h1:as[j]?=some b:=by simpa using h1
     have:=(List.pairwise_cons.mp hp).1 b (mem_of_getElem? h1);rw[if_neg (fun e=>by rw[e]at this;exact lt_irrefl _ this)];exact Az (List.pairwise_cons.mp hp).2 h1 (by simpa using h2)
theorem pJ:∀as:List Addr,Vals (as.map V.ref) (as.map Value.ref)|[]=>.nil|_::as=>.cons rfl (pJ as)
theorem Ak{K:PySem.W.Frag}{F:Hp}:∀{as:List Addr}{ps:List (Int×Int)},as.length=ps.length->(∀(j:Nat)(b:Addr)(p:Int×Int),as[j]?=some b->ps[j]?=some p->F b=some (Zx p))->aC K F (as.map V.ref) (ps.map fU)|[],[],_,_=>.nil|a::as,p::ps,hl,h=>.cons (by have:=h 0 a p rfl rfl;rw[show fU p=.tup [.int p.1,.int p.2]from rfl,Rep];refine⟨a,_,rfl,.inl (.inl this),.cons (by rw[Rep]) (.cons (by rw[Rep]) .nil)⟩) (Ak (by simpa using hl) fun j b q h1 h2=>h (j+1) b q (by simpa using h1) (by simpa using h2))|[],_::_,hl,_=>by simp at hl|_::_,[],hl,_=>by simp at hl
theorem zN{h:Heap}:∀{as:List Addr}{ps:List (Int×Int)},as.length=ps.length->(∀(j:Nat)(b:Addr),as[j]?=some b->∃p,ps[j]?=some p/\∃t u,h.get? b=some {cls:=.type "tuple",data:=.seq #[Value.int p.1 t,Value.int p.2 u]})->Paired (my h) (as.map Value.ref) (ps.map fU)|[],[],_,_=>.nil|a::as,p::ps,hl,h=>.cons (by obtain⟨q,e,t,u,g⟩:=h 0 a rfl;cases e;exact⟨a,[Value.int p.1 t,Value.int p.2 u],[p.1,p.2],rfl,⟨_,g,rfl,0,rfl⟩,.cons _ _ (.cons _ _ .nil),by simp,rfl⟩) (zN (by simpa using hl) fun j b h1=>by simpa using h (j+1) b (by simpa using h1))|[],_::_,hl,_=>by simp at hl|_::_,[],hl,_=>by simp at hl
theorem uR{prog:Program}{w:World}{A:Around}{E:Value->Shared->Prop}{s:Shared}{v d:Addr}{kvs:List (Key×Value)}{ep:Nat}{Q:List Value->Shared->Prop}(hh:A.handled=none)(hv:s.heap.IsItemsView v d)(hm:s.heap.DictAt (aU prog w) d kvs ep)(hn:kvs.length<=sizeLine)(hQ:∀(h':Heap)(tk:Nat)(as:List Addr),(∀b o,s.heap.get? b=some o->h'.get? b=some o)->s.heap.objs.size<h'.objs.size->as.length=kvs.length->KdxG (aU prog w) kvs s.heap.objs.size h' as->Q (as.map Value.ref) {s with heap:=h',toks:=tk}):wpAny (model prog w) A (collect (.ref v)) Q E s:=by
 have hvl:v<s.heap.objs.size:=let⟨_,h1,_⟩:=hv;lt_size h1;have hdl:d<s.heap.objs.size:=hm.lt_size;unfold collect;refine wpAny_bind (wpAny_runValue (codeAny_builtin F.entry_proto_collect ?_));rw[Around.under_plainId F.plain_proto_collect _];show wpAny _ A.in1 (newList []>>=fun l=>again (.builtin "list.__iadd__" ⟨[l,.ref v],[]⟩)) _ _ s;refine wpAny_bind (wpAny_newObj_type (wpAny_pure ⟨plainId_quiet F.plain_list_iadd _,codeAny_builtin F.entry_list_iadd ?_⟩));rw[Around.under_plainId F.plain_list_iadd _];show wpAny _ A.in1 (listExtendWith (.ref s.heap.objs.size) (.ref v) (.ref s.heap.objs.size)) _ _ _;refine kdx_extend (A:=A) (R:=fun r s'=>match r with
  |.ok (.ret v)=>wpAny (model prog w) A (match v with
   |.ref a=>do let o<-load a match o.data with|.seq xs _=>pure xs.toList|_=>unsupported "internal:collect"
   |_=>unsupported "internal:collect") Q E s'|.ok _=>False|.error e=>E e s') (s:={s with heap:=s.heap.push {cls:=.type "list",data:=.seq #[]}}) hh (let⟨o,h1,q⟩:=hv;⟨o,get?_push_of_some _ h1,q⟩) (hm.at' fun o e=>get?_push_of_some _ e) s.heap.objs.size (Nat.ne_of_gt hvl) (ne_of_lt hdl) _ 0 (get?_push_size _ rfl) (fun h' tk acc c' as hk hS hl hG hacc=>?_) hn;refine wpAny_bind (wpAny_load hS (wpAny_pure ?_));rw[hacc];exact hQ h' tk as (fun b o e=>hk b o (ne_of_lt (lt_size e)) (get?_push_of_some _ e)) (lt_size hS) hl (hG.low (by rw[size_push'];exact le_succ _))
section
variable{X:Cx}{c:Call}{a:Expr}{pa:P}{pos:Pos}
theorem HQ:MtR X "dict.items" Hn:=by rintro pins s σ H x xs v us Q I rx rv⟨q,ob,kvs,rfl,rfl,hq,k⟩;cases rx;cases rv;obtain⟨ho,hz,hS,vs,r,dd⟩:=(show bu X.prog X.w H s.heap q (.cN ob (.dK (kvs.map qy)))from I.hok q _ hq);refine call_meetsIn PySem.F.slot_dict_items dd.typeIs PySem.F.entry_dict_items (PySem.F.args_dict_items_1 _) (meets_dict_items _ q hS) ⟨⟨vs,dd⟩,?_⟩;have hn:(s.heap.push {cls:=.type "dict_items",data:=.fields #[.ref q]}).IsItemsView s.heap.objs.size q:=⟨_,get?_push_size _ rfl,rfl,rfl⟩;refine⟨.ref s.heap.objs.size,_,I.laid (t':=s.toks) (o:=.ext (iv s.heap.objs.size q)) (fun b o e=>get?_push_of_some _ e) (le_refl _) ⟨hn,⟨_,get?_push_size _ rfl⟩,fun h1 h2 z k=>?_⟩,rfl,k _ (I.hok.fresh (le_refl _))⟩;obtain⟨o,z1,z2⟩:=z;exact⟨o,k o z1,z2⟩
theorem O1(hc:X.calm=true):cW X (.builtin "sorted") (rIt X):=by
 rintro pins s σ H xs us Q I r⟨l,q,ob,kvs,hx,hl,hq,so,F,sm,k⟩;subst hx;obtain⟨u,rfl,rx⟩:=r.one;cases rx;obtain⟨Yr,_,_⟩:=(show bu X.prog X.w H s.heap l (.ext (iv l q))from I.hok l _ hl);obtain⟨ho,hz,hS,vs,rv,dd⟩:=(show bu X.prog X.w H s.heap q (.cN ob (.dK (kvs.map qy)))from I.hok q _ hq);have hvl:vs.length=kvs.length:=by rw[<-Paired.length rv,length_map]
 obtain⟨o',es,ep,d1,d2,d3,d4⟩:=dd;have dat:s.heap.DictAt (aU X.prog X.w) q vs ep:=⟨o',es,d1,d2,d3,d4⟩;have so':=so;simp only[sortable,and_eq_true,decide_eq_true_eq,length_map]at so';have h64:=so'.1;clear so';refine Calls.call_function_entry kind_sorted plain_sorted entry_sorted (args_sorted1 _) ?_;unfold Builtin.«sorted»;refine wpAny_bind (m:=checkCount "sorted" 1 1 _) (wpAny_pure ?_);refine wpAny_bind (uR (A:=X.A.in1) (I.ok.hd hc) Yr dat (by rw[hvl,sizeLine_eq];omega) fun h1 tk as kp hsz hla hG=>?_);have hsz:=le_of_lt hsz;have hlk:as.length=kvs.length:=hla.trans hvl;have pr:=uY rv hla hG.pairs;have tt:Paired (my h1) (as.map Value.ref) (kvs.map fU):=zN hlk pr;have hfr:∀a o,nU as kvs a=some o->s.heap.objs.size<=a:=fun a o e=>by obtain⟨j,p,e1,_,_⟩:=nQ e;exact le_of_lt (hG.above a (mem_of_getElem? e1))
 have hno:∀a o,nU as kvs a=some o->H a=none:=fun a o e=>I.hok.fresh (hfr a o e);have hsm:aH H (xj (nU as kvs) H):=fun b o e=>by cases z:nU as kvs b with|none=>rw[fu z];exact e|some o'=>rw[hno b o' z]at e;cases e
 have e0:Ext F H (xj (nU as kvs) F) (xj (nU as kvs) H):=by
  refine⟨hsm,fun b o e=>?_,fun b o e=>?_,fun b n n'=>?_⟩;.cases z:nU as kvs b with|none=>rw[fu z];exact e|some o'=>have n0:=hno b o' z;rw[sm b o e]at n0;cases n0
  .cases z:nU as kvs b with|none=>rw[fu z]at e ⊢;exact sm b o e|some o'=>rw[sI z]at e ⊢;exact e
  .cases z:nU as kvs b with|none=>rw[fu z]at n';exact absurd n n'|some o'=>rw[hno b o' z];rfl
 have rs:aC X.K (xj (nU as kvs) F) (as.map V.ref) (kvs.map fU):=Ak hlk fun j b p h1 h2=>sI (Az hG.rise h1 h2);have vv:=pJ as;have hlt:∀b∈as,b<h1.objs.size:=fun b hb=>hG.there hb;have Ys:(as.map Value.ref).length=kvs.length:=by rw[length_map];exact hlk
 refine wpAny_bind (wpAny_newList ?_ (by rw[Ys,sizeLine_eq];omega));generalize hG2:(h1.push {cls:=.type "list",data:=.seq (as.map Value.ref).toArray}:Heap)=H2;have ho2:H2.get? h1.objs.size=some (seqObj "list" (as.map Value.ref).toArray 0):=by rw[<-hG2];exact get?_push_size _ rfl
 have qg:∀b o,h1.get? b=some o->H2.get? b=some o:=fun b o e=>by rw[<-hG2];exact get?_push_of_some _ e
 have hne:∀b o,h1.get? b=some o->b≠h1.objs.size:=fun b o e=>ne_of_lt (lt_size e);show wpAny _ _ _ _ _ {s with heap:=H2,toks:=tk};refine wpAny_bind (wpAny_holding (wpAny_call_entry slot_list_sort ⟨_,ho2,rfl⟩ entry_list_sort ?body (args_list_sort _)));case body=>
  refine qK (s:={s with heap:=H2,toks:=tk}) (κ:=tuples' (Value.type "int"!=Value.type "tuple")) ho2 so (by omega) tt zU (fun h' k' C hC h2=>?_) (fun h' k' u v d e hd he C hC=>?_) fun h' cc p k' p1 p2 e=>?_;.exact rH (s:={s with heap:=h',toks:=tk}) (lV (fun b o z=>k' b o (hne b o z) (qg b o z)) tt) h2 hC
  .have kk:∀b o,h1.get? b=some o->h'.get? b=some o:=fun b o z=>k' b o (hne b o z) (qg b o z);exact Bb (s:={s with heap:=h',toks:=tk}) (fW kk hd) (fW kk he) hC
  . refine⟨_,rfl,wpAny_pure ⟨_,rfl,?_⟩⟩;have kk:∀b o,h1.get? b=some o->h'.get? b=some o:=fun b o z=>k' b o (hne b o z) (qg b o z);have hL:nU as kvs h1.objs.size=none:=by cases z:nU as kvs h1.objs.size with|none=>rfl|some o=>obtain⟨j,p,e1,_,_⟩:=nQ z;exact absurd (hlt _ (mem_of_getElem? e1)) (lt_irrefl _)
    have heq:upd (xj (nU as kvs) H) h1.objs.size (.lst (pick .non p (as.map V.ref)))=xj (fun b=>if b=h1.objs.size then some (.lst (pick .non p (as.map V.ref)))else nU as kvs b) H:=by
     funext b;unfold upd xj;by_cases z:b=h1.objs.size;.rw[if_pos z];simp only[if_pos z]
     .rw[if_neg z];simp only[if_neg z]
    have I':=Wc (t':=tk) (h':=h') (nw:=fun b=>if b=h1.objs.size then some (.lst (pick .non p (as.map V.ref)))else nU as kvs b) I (fun b o z=>kk b o (kp b o z)) (fun a o z=>by
     by_cases y:a=h1.objs.size;.rw[y];exact hsz
     .simp only[if_neg y]at z;exact hfr a o z) (fun a o z=>by
     by_cases y:a=h1.objs.size;.simp only[if_pos y]at z;cases z;subst y;exact⟨by rw[lD p1,Ys,sizeLine_eq];omega,pick .none p (as.map Value.ref),cc,u6 vv,e⟩
     .simp only[if_neg y]at z;obtain⟨j,p',e1,e2,rfl⟩:=nQ z;obtain⟨p'',e3,t,u,e4⟩:=pr j a e1;rw[e2]at e3;cases e3;exact⟨by rw[sizeLine_eq];simp,[Value.int p'.1 t,Value.int p'.2 u],.cons ⟨t,rfl⟩ (.cons ⟨u,rfl⟩ .nil),⟨_,kk _ _ e4,rfl,0,rfl⟩⟩);rw[<-heq]at I';refine⟨.ref h1.objs.size,_,I',rfl,?_⟩;have rs2:aC X.K (xj (nU as kvs) F) (pick .non p (as.map V.ref)) (nJ (kvs.map fU)):=by rw[<-p2];exact vq rs
    refine vX e0.sub rs2 (by rw[fu hL];exact I.hok.fresh hsz) fun v F2 H2 x rn=>k v F2 H2 ⟨e0.hs.trans x.hs,e0.fs.trans x.fs,x.sub,fun c n n'=>?_⟩ ?_
    . by_cases e:xj (nU as kvs) F c=none;.have:=x.gr c e n';cases z:H c with|none=>rfl|some o=>rw[hsm c o z]at this;exact this
      .exact e0.gr c n e
    obtain⟨b,xs,q1,q2,q3,q4,q5⟩:=rn;refine⟨b,xs,q1,q2,q3,q4,?_⟩;cases z:H b with|none=>rfl|some o=>rw[hsm b o z]at q5;cases q5
theorem HJ{o:Expr}{to:TE}{apos cpos:Pos}(ho:PE X o to)(hbase:attributeBase o "items" X.env (eval o X.env)=eval o X.env:=by rfl)(hline:(apos.endLine==cpos.line)=true:=by rfl):PE X (.Call (.Attribute o "items" apos) [] [] cpos) (fun σ H Q=>to σ H fun x H1=>Hn x [] H1 Q):=by intro pins s σ H Q I h;refine wpAny_Call_method0_late hbase hline (bH (ho pins s σ H _ I h) fun v s1⟨x,H1,I1,r1,q1⟩=>?_);obtain⟨q,ob,kvs,rfl,_,hq,k⟩:=id q1;cases r1;obtain⟨ho,hz,hS,vs,r,o',es,ep,g1,g2,g3⟩:=(show bu X.prog X.w H1 s1.heap q (.cN ob (.dK (kvs.map qy)))from I1.hok q _ hq);refine⟨"dict","dict.items",PySem.F.plainAttrs_dict,PySem.F.slot_dict_items,PySem.F.type_dict_items,⟨o',g1,g2.1⟩,fun b e=>?_,Calls.callWith_builtin rfl (PySem.evalArgs_none (HQ pins s1 σ H1 (.ref q) [] _ [] Q I1 rfl .nil q1))⟩;cases e;exact⟨o',g1,g2.2.1⟩
theorem JH{x:Str}{p' apos cpos:Pos}{o:Expr}(hx:x="sorted")(hc:X.calm=true)(hg:Gl X x)(hm:X.mg x=none)(hline:(apos.endLine==cpos.line)=true)(ha:SX X c o pa)(hbase:attributeBase o "items" X.env (eval o X.env)=eval o X.env:=by rfl):SX X c (.Call (.Name x p') [.Call (.Attribute o "items" apos) [] [] cpos] [] pos) (.blt .LQ [pa]):=by
 subst hx;obtain⟨ta,h1,h3⟩:=ha.bY;refine⟨cY (dm (O1 hc) hg hm boot_sorted (cB (HJ h1 hbase hline) dZ)) ?_,fun i h=>by cases h⟩;rintro σ H Q⟨F,ρ,r,ρ',g,e,k⟩;rw[HH.ev]at e;obtain⟨d,ρ1,e1,e2⟩:=aa e;have zz:=aF e2;clear e2;obtain⟨e2,e3⟩:=zz;subst e3;refine h3 g e1 fun v F' H' st pv=>?_;obtain⟨kvs,rfl⟩:∃kvs,d=.cM (.k kvs):=by cases d with
  |cM m=>cases m with|k kvs=>exact⟨kvs,rfl⟩|t kvs=>cases e2
  |_=>cases e2
 obtain⟨so,he⟩:=aP (show(if sortable (kvs.map fU)=true then some (R.own (nJ (kvs.map fU)))else none)=some r from e2);subst he;obtain⟨q,ob,rfl,hq⟩:=pv.cM st.gs.sub;refine⟨q,ob,kvs,rfl,rfl,hq,fun l hl=>⟨l,q,ob,kvs,rfl,aJ,aH.bU hl q _ hq,so,F',fun b o e=>aH.bU hl b o (st.gs.sub b o e),fun w F2 H2 x2 rn=>?_⟩⟩;have sm:aH H' (upd H' l (.ext (iv l q))):=aH.bU hl;have x3:Ext F' H' F2 H2:=⟨sm.trans x2.hs,x2.fs,x2.sub,fun b n n'=>by
  have:=x2.gr b n n';by_cases eb:b=l;.subst eb;rw[hl];rfl
  .rw[aA eb]at this;exact this⟩;have rn2:bB X.K F2 H2 H' w (.own (nJ (kvs.map fU))):=by obtain⟨b,xs,q1,q2,q3,q4,q5⟩:=rn;refine⟨b,xs,q1,q2,q3,q4,?_⟩;cases z:H' b with|none=>rfl|some o=>rw[sm b o z]at q5;cases q5
 exact k w F2 H2 (st.trans (x3.stp st.gs)) (.later st (rn2.nG st.gs))
end
end HH
end
section
namespace HH
open PySem L2 PySem.Spec PyProof.Rows
section
variable{K:PySem.W.Frag}{F F' F1 H H' H1 F0 H0:Hp}{ρ ρ' ρ1 ρ0:List Sl}{σ σ' σ1 σ0:L2.St}{x:Nat}{q:Addr}{as:List Addr}{rows ni:List (List D)}
noncomputable def DX:Sl->Bool|.aV=>true|.hold _=>true|_=>false
theorem dX{s:Sl}{i:Nat}{b:Addr}(hm:DX s=true){o:Option V}(h:aM (ρ.set x s) (σ.set x o) i b):aM ρ σ i b/\i≠x:=by
 obtain⟨⟨t,ds,e,e'⟩,e1⟩:=h;by_cases c:x=i
 . subst c;rw[List.getElem?_set]at e;rw[if_pos rfl]at e;split at e;.cases e;cases s<;>first|(cases e';done)|(cases hm;done)
   .cases e
 .rw[getElem?_set_ne c]at e e1;exact⟨⟨⟨t,ds,e,e'⟩,e1⟩,fun z=>c z.symm⟩
theorem GS.Bd{s:Sl}{o:Option V}(hm:DX s=true)(g:GS K F ρ σ H):GS K F (ρ.set x s) (σ.set x o) H:=by
 refine⟨g.sub,by simp[g.len],fun i b d e=>?_,fun i t ds e e'=>?_,fun i j a h1 h2=>g.dis i j a (dX hm h1).1 (dX hm h2).1⟩
 . by_cases c:x=i
   . subst c;rw[List.getElem?_set,if_pos rfl]at e;split at e;.cases e;cases hm
     .cases e
   .rw[getElem?_set_ne c]at e ⊢;exact g.val i b d e
 . by_cases c:x=i
   . subst c;rw[List.getElem?_set,if_pos rfl]at e;split at e;.cases e;cases s<;>first|(cases e';done)|(cases hm;done)
     .cases e
   .rw[getElem?_set_ne c]at e ⊢;exact g.own i t ds e e'
theorem aq.Bd{s:Sl}{o:Option V}(hm:DX s=true)(t:aq K F ρ σ H F1 ρ1 σ1 H1)(hf:∀s0,ρ[x]?=some s0->ud s0=false):aq K F ρ σ H F1 (ρ1.set x s) (σ1.set x o) H1:=by
 refine⟨t.gs.Bd hm,t.cG,t.wX,t.keep,fun b⟨i,h⟩=>t.uK b ⟨i,(dX hm h).1⟩,by simp[t.len],fun i s' e l=>?_⟩;have c:x≠i:=by rintro rfl;rw[hf _ e]at l;cases l
 obtain⟨z1,s2,z2,z3⟩:=t.lk i s' e l;exact⟨by rw[getElem?_set_ne c];exact z1,s2,by rw[getElem?_set_ne c];exact z2,z3⟩
theorem aq.free{i:Nat}{s1:Sl}(t:aq K F ρ σ H F1 ρ1 σ1 H1)(h:ρ1[i]?=some s1)(hl:ud s1=false):∀s0,ρ[i]?=some s0->ud s0=false:=fun s0 e=>by cases z:ud s0 with|false=>rfl|true=>obtain⟨_,s2,z2,z3⟩:=t.lk i s0 e z;rw[h]at z2;cases z2;rw[z3.ud z]at hl;cases hl
structure Qe(F:Hp)(ρ:List Sl)(σ:L2.St)(H:Hp)(a:Addr)(xs:List V):Prop where kp:Kp ρ σ H a (.lst xs)fr:F a=none
theorem Qe.stp{a:Addr}{xs:List V}(h:Qe F ρ σ H a xs)(s:aq K F ρ σ H F' ρ' σ' H'):Qe F' ρ' σ' H' a xs:=by refine⟨h.kp.stp s,?_⟩;cases z:F' a with|none=>rfl|some o=>
   rcases s.wX a h.fr (by rw[z];simp)with y|y;.exact absurd y h.kp.2
   .rw[h.kp.1]at y;cases y
structure Nw(K:PySem.W.Frag)(x:Nat)(q:Addr)(as:List Addr)(F:Hp)(ρ:List Sl)(σ:L2.St)(H:Hp)(rows:List (List D)):Prop where
 slot:ρ[x]?=some (.hold rows)val:σ[x]?=some (some (.ref q))out:Qe F ρ σ H q (as.map V.ref)nd:(q::as).Nodup
 len:as.length=rows.length
 row:∀(k:Nat)(a:Addr)(ds:List D),as[k]?=some a->rows[k]?=some ds->Wt K F ρ σ H a ds
theorem Nw.stp(w:Nw K x q as F ρ σ H rows)(s:aq K F ρ σ H F' ρ' σ' H'):Nw K x q as F' ρ' σ' H' rows:=by obtain⟨z1,s2,z2,z3⟩:=s.lk x _ w.slot rfl;cases(show s2=.hold rows from z3);exact⟨z2,z1.trans w.val,w.out.stp s,w.nd,w.len,fun k a ds h1 h2=>(w.row k a ds h1 h2).stp s⟩
structure NB(K:PySem.W.Frag)(x:Nat)(q:Addr)(as:List Addr)(F0:Hp)(ρ0:List Sl)(σ0:L2.St)(H0:Hp)(F:Hp)(ρ:List Sl)(σ:L2.St)(H:Hp)(rows:List (List D)):Prop where
 stp:aq K F0 ρ0 σ0 H0 F ρ σ H
 fresh:∀b,b∈q::as->Own ρ0 σ0 b\/H0 b=none
 free:∀s0,ρ0[x]?=some s0->ud s0=false
 nw:Nw K x q as F ρ σ H rows
theorem NB.step(b:NB K x q as F0 ρ0 σ0 H0 F ρ σ H rows)(s:aq K F ρ σ H F' ρ' σ' H'):NB K x q as F0 ρ0 σ0 H0 F' ρ' σ' H' rows:=⟨b.stp.trans s,b.fresh,b.free,b.nw.stp s⟩
theorem zX{s:Sl}{o:Option V}{a:Addr}{ob:HO}(hm:DX s=true)(h:Kp ρ σ H a ob):Kp (ρ.set x s) (σ.set x o) H a ob:=⟨h.1,fun⟨i,z⟩=>h.2 ⟨i,(dX hm z).1⟩⟩
theorem Kq{s:Sl}{o:Option V}{a:Addr}{ds:List D}(hm:DX s=true)(h:Wt K F ρ σ H a ds):Wt K F (ρ.set x s) (σ.set x o) H a ds:=by obtain⟨⟨xs,h1,h2⟩,h3⟩:=h;exact⟨⟨xs,zX hm h1,h2⟩,h3⟩
theorem aq.ack{Da:Addr}{o:HO}(s:aq K F ρ σ H F1 ρ1 σ1 H1)(h:Own ρ σ Da\/H Da=none)(hf:F1 Da=none)(ho:¬ Own ρ1 σ1 Da):aq K F ρ σ H F1 ρ1 σ1 (upd H1 Da o):=by
 refine⟨⟨fun b u e=>?_,s.gs.len,s.gs.val,fun i t ds e e'=>?_,s.gs.dis⟩,s.cG,s.wX,fun b u e n=>?_,s.uK,s.len,s.lk⟩
 . have:b≠Da:=by rintro rfl;rw[hf]at e;cases e
   rw[aA this];exact s.gs.sub b u e
 . obtain⟨a,xs,q1,q2,q3,q4⟩:=s.gs.own i t ds e e';have:a≠Da:=by rintro rfl;exact ho ⟨i,⟨t,ds,e,e'⟩,q1⟩
   exact⟨a,xs,q1,by rw[aA this];exact q2,q3,q4⟩
 . have:b≠Da:=by
    rintro rfl;rcases h with h|h;.exact n h
    .rw[h]at e;cases e
   rw[aA this];exact s.keep b u e n
theorem NB.mut{r:Nat}{a:Addr}{row jz:List D}{ys:List V}(b:NB K x q as F0 ρ0 σ0 H0 F ρ σ H rows)(ha:as[r]?=some a)(hr:rows[r]?=some row)(rp:aC K F ys jz):NB K x q as F0 ρ0 σ0 H0 F (ρ.set x (.hold (rows.set r jz))) σ (upd H a (.lst ys)) (rows.set r jz):=by
 have w:=b.nw.row r a row ha hr;obtain⟨⟨xs,k1,r1⟩,f1⟩:=w;have hx:x<ρ.length:=(List.getElem?_eq_some_iff.mp b.nw.slot).1;have sx:σ.set x (some (.ref q))=σ:=by have:=b.nw.val;obtain⟨h1,h2⟩:=List.getElem?_eq_some_iff.mp this;rw[<-h2];simp
 have mem:a∈q::as:=mem_cons_of_mem _ (mem_of_getElem? ha);have s1:=(b.stp.ack (o:=.lst ys) (b.fresh a mem) f1 k1.2).Bd (x:=x) (s:=.hold (rows.set r jz)) (o:=some (.ref q)) rfl b.free;rw[sx]at s1;have nq:q≠a:=by have:=(nodup_cons.mp b.nw.nd).1;rintro rfl;exact this (mem_of_getElem? ha)
 have own:∀{c:Addr},¬ Own ρ σ c->¬ Own (ρ.set x (.hold (rows.set r jz))) σ c:=fun{c}h⟨i,z⟩=>h ⟨i,by have:=dX (x:=x) (s:=.hold (rows.set r jz)) (o:=some (.ref q)) (σ:=σ) (ρ:=ρ) rfl (b:=c) (i:=i) (by rw[sx];exact z);exact this.1⟩;refine⟨s1,b.fresh,b.free,⟨getElem?_set_self hx,b.nw.val,⟨⟨by rw[aA nq];exact b.nw.out.kp.1,own b.nw.out.kp.2⟩,b.nw.out.fr⟩,b.nw.nd,by simp[b.nw.len],fun k c ds h1 h2=>?_⟩⟩;by_cases hk:k=r;.subst hk;rw[ha]at h1;cases h1;have hl:k<rows.length:=(List.getElem?_eq_some_iff.mp hr).1;rw[getElem?_set_self hl]at h2;cases h2;exact⟨⟨ys,⟨aJ,own k1.2⟩,rp⟩,f1⟩
 . rw[getElem?_set_ne (fun z=>hk z.symm)]at h2;obtain⟨⟨zs,k2,r2⟩,f2⟩:=b.nw.row k c ds h1 h2;have nc:c≠a:=by rintro rfl;have nd:=(nodup_cons.mp b.nw.nd).2;obtain⟨l1,e1⟩:=List.getElem?_eq_some_iff.mp h1;obtain⟨l2,e2⟩:=List.getElem?_eq_some_iff.mp ha;exact hk ((List.getElem_inj nd).mp (e1.trans e2.symm))
   exact⟨⟨zs,⟨by rw[aA nc];exact k2.1,own k2.2⟩,r2⟩,f2⟩
noncomputable def Fz(F H:Hp)(bs:List Addr):Hp:=fun b=>if b∈bs then H b else F b
theorem rO{G:Hp}:∀{as:List Addr}{rows:List (List D)},as.length=rows.length->(∀(k:Nat)(a:Addr)(ds:List D),as[k]?=some a->rows[k]?=some ds->Rep K G (.ref a) (.lst ds))->aC K G (as.map V.ref) (rows.map D.lst)|[],[],_,_=>.nil|a::as,ds::rows,h,k=>.cons (k 0 a ds rfl rfl) (rO (by simpa using h) fun j b es h1 h2=>k (j+1) b es (by simpa using h1) (by simpa using h2))|[],_::_,h,_=>by simp at h|_::_,[],h,_=>by simp at h
theorem Nw.Nh(w:Nw K x q as F ρ σ H rows){b:Addr}(hb:b∈q::as):F b=none/\¬ Own ρ σ b:=by
 rcases mem_cons.mp hb with rfl|hb;.exact⟨w.out.fr,w.out.kp.2⟩
 . obtain⟨k,hk⟩:=List.getElem?_of_mem hb;have hl:k<rows.length:=by rw[<-w.len];exact(List.getElem?_eq_some_iff.mp hk).1
   obtain⟨⟨xs,k1,_⟩,f1⟩:=w.row k b rows[k] hk (by simp[hl]);exact⟨f1,k1.2⟩
theorem Nw.fz(w:Nw K x q as F ρ σ H rows)(sm:aH F H):aH F (Fz F H (q::as))/\aH (Fz F H (q::as)) H/\Rep K (Fz F H (q::as)) (.ref q) (.lst (rows.map D.lst)):=by
 have s1:aH F (Fz F H (q::as)):=fun b o e=>by unfold Fz;rw[if_neg fun hb=>by rw[(w.Nh hb).1]at e;cases e];exact e
 refine⟨s1,fun b o e=>?_,?_⟩
 . unfold Fz at e;split at e;.exact e
   .exact sm b o e
 .rw[Rep];refine⟨q,as.map V.ref,rfl,dG.of (by unfold Fz;rw[if_pos mem_cons_self];exact w.out.kp.1),rO w.len fun k a ds h1 h2=>?_⟩;obtain⟨⟨xs,k1,r1⟩,f1⟩:=w.row k a ds h1 h2;rw[Rep];exact⟨a,xs,rfl,dG.of (by unfold Fz;rw[if_pos (mem_cons_of_mem _ (mem_of_getElem? h1))];exact k1.1),r1.mono s1⟩
theorem NB.cN(b:NB K x q as F0 ρ0 σ0 H0 F ρ σ H rows):aq K F0 ρ0 σ0 H0 (Fz F H (q::as)) (ρ.set x (.val false (.lst (rows.map D.lst)))) σ H:=by
 obtain⟨s1,s2,rp⟩:=b.nw.fz b.stp.gs.sub;have g:=b.stp.gs;have hx:x<ρ.length:=(List.getElem?_eq_some_iff.mp b.nw.slot).1;have old:∀{j:Nat}{c:Addr},aM (ρ.set x (.val false (.lst (rows.map D.lst)))) σ j c->aM ρ σ j c/\x≠j:=fun{j c}⟨⟨t,ds,e,e'⟩,e1⟩=>by
  by_cases hj:x=j;.subst hj;rw[getElem?_set_self hx]at e;cases e;cases e'
  .rw[getElem?_set_ne hj]at e;exact⟨⟨⟨t,ds,e,e'⟩,e1⟩,hj⟩
 refine⟨⟨s2,by simp[g.len],fun i bb d e=>?_,fun i t ds e e'=>?_,fun i j c h1 h2=>g.dis i j c (old h1).1 (old h2).1⟩,b.stp.cG.trans s1,fun c n n'=>?_,b.stp.keep,fun c⟨j,h⟩=>b.stp.uK c ⟨j,(old h).1⟩,by simp[b.stp.len],fun i t e l=>?_⟩
 . by_cases hj:x=i;.subst hj;rw[getElem?_set_self hx]at e;cases e;exact⟨_,b.nw.val,rp⟩
   .rw[getElem?_set_ne hj]at e;obtain⟨v,h1,h2⟩:=g.val i bb d e;exact⟨v,h1,h2.mono s1⟩
 . by_cases hj:x=i;.subst hj;rw[getElem?_set_self hx]at e;cases e;cases e'
   .rw[getElem?_set_ne hj]at e;obtain⟨a,o,h1,h2,h3,h4⟩:=g.own i t ds e e';refine⟨a,o,h1,h2,?_,h4.mono s1⟩;unfold Fz;rw[if_neg fun hb=>(b.nw.Nh hb).2 ⟨i,⟨t,ds,e,e'⟩,h1⟩];exact h3
 . by_cases hc:c∈q::as;.exact(b.fresh c hc).imp id ju
   . have:Fz F H (q::as) c=F c:=by unfold Fz;rw[if_neg hc]
     rw[this]at n';exact b.stp.wX c n n'
 . have c:x≠i:=by rintro rfl;rw[b.free _ e]at l;cases l
   obtain⟨z1,s3,z2,z3⟩:=b.stp.lk i t e l;exact⟨z1,s3,by rw[getElem?_set_ne c];exact z2,z3⟩
end
inductive Qn(K:PySem.W.Frag)(x:Nat)(f:List Sl->Res Fl)(E:Ends)(σ:L2.St)(H:Hp):Prop where|mk(F0:Hp)(ρ0:List Sl)(σ0:L2.St)(H0 F:Hp)(ρ:List Sl)(q:Addr)(as:List Addr)(rows:List (List D))(fl:Fl)(ρ':List Sl)(b:NB K x q as F0 ρ0 σ0 H0 F ρ σ H rows)(e:f ρ=.ok fl ρ')(k:∀F' σ' H',aq K F0 ρ0 σ0 H0 F' ρ' σ' H'->aH F F'->((∀r,fl≠.ret r)->∃ni,NB K x q as F0 ρ0 σ0 H0 F' ρ' σ' H' ni)->Fw K E F' ρ' σ' H' ρ0 σ0 H0 fl)
inductive Wj(K:PySem.W.Frag)(x:Nat)(f:List Sl->Res Fl)(E:Ends)(σ:L2.St)(H:Hp):Prop where|mk(F0:Hp)(ρ0:List Sl)(σ0:L2.St)(H0 F:Hp)(ρ:List Sl)(q:Addr)(as:List Addr)(rows:List (List D))(fl:Fl)(ρ':List Sl)(b:NB K x q as F0 ρ0 σ0 H0 F ρ σ H rows)(e:f ρ=.ok fl ρ')(k:∀F' σ' H',aq K F0 ρ0 σ0 H0 F' ρ' σ' H'->Fw K E F' ρ' σ' H' ρ0 σ0 H0 fl)
structure Xo(X:Cx)(c:Call)(n x:Nat)(st:Stmt)(s:S):Prop where p:PS X st (Qn X.K x (ex c n s))
structure Ue(X:Cx)(c:Call)(n x:Nat)(st:List Stmt)(s:List S):Prop where p:wH X st (Qn X.K x (eX c n s))
structure Zf(X:Cx)(c:Call)(n x:Nat)(st:List Stmt)(s:List S):Prop where p:wH X st (Wj X.K x (eX c n s))
section
variable{X:Cx}{c:Call}{n x:Nat}{e a b d tg iter:Expr}{p pa pb pd:P}{pos:Pos}{body:List Stmt}{ss:List S}{st:Stmt}{s:S}{sts:List Stmt}
theorem oE:Ue X c n x [] []:=⟨lX Br fun D σ H⟨F0,ρ0,σ0,H0,F,ρ,q,as,rows,fl,ρ',nb,e,k⟩=>by rw[eX]at e;cases e;exact k F σ H nb.stp (.refl _) fun _=>⟨rows,nb⟩⟩
theorem pH(h1:Xo X c n x st s)(h2:Ue X c n x sts ss):Ue X c n x (st::sts) (s::ss):=by refine⟨lX (lC h1.p h2.p) ?_⟩;rintro D σ H⟨F0,ρ0,σ0,H0,F,ρ,q,as,rows,fl,ρ',nb,e,k⟩;rw[eX]at e;obtain⟨f1,ρ1,e1,e⟩:=aa e;cases f1 with|next=>refine⟨F0,ρ0,σ0,H0,F,ρ,q,as,rows,.next,ρ1,nb,e1,fun F1 σ1 H1 s1 sm nn=>?_⟩;obtain⟨Ig,Oj⟩:=nn (fun r z=>by cases z);exact⟨F0,ρ0,σ0,H0,F1,ρ1,q,as,Ig,fl,ρ',Oj,e,fun F2 σ2 H2 s2 Tq nn2=>k F2 σ2 H2 s2 (sm.trans Tq) nn2⟩|brk=>cases e;exact⟨F0,ρ0,σ0,H0,F,ρ,q,as,rows,.brk,_,nb,e1,k⟩|cont=>cases e;exact⟨F0,ρ0,σ0,H0,F,ρ,q,as,rows,.cont,_,nb,e1,k⟩|ret r=>cases e;exact⟨F0,ρ0,σ0,H0,F,ρ,q,as,rows,.ret r,_,nb,e1,k⟩
theorem FN(h1:Xo X c n x st s)(h2:Zf X c n x sts ss):Zf X c n x (st::sts) (s::ss):=by refine⟨lX (lC h1.p h2.p) ?_⟩;rintro D σ H⟨F0,ρ0,σ0,H0,F,ρ,q,as,rows,fl,ρ',nb,e,k⟩;rw[eX]at e;obtain⟨f1,ρ1,e1,e⟩:=aa e;cases f1 with|next=>refine⟨F0,ρ0,σ0,H0,F,ρ,q,as,rows,.next,ρ1,nb,e1,fun F1 σ1 H1 s1 sm nn=>?_⟩;obtain⟨Ig,Oj⟩:=nn (fun r z=>by cases z);exact⟨F0,ρ0,σ0,H0,F1,ρ1,q,as,Ig,fl,ρ',Oj,e,k⟩|brk=>cases e;exact⟨F0,ρ0,σ0,H0,F,ρ,q,as,rows,.brk,_,nb,e1,fun F1 σ1 H1 s1 _ _=>k F1 σ1 H1 s1⟩|cont=>cases e;exact⟨F0,ρ0,σ0,H0,F,ρ,q,as,rows,.cont,_,nb,e1,fun F1 σ1 H1 s1 _ _=>k F1 σ1 H1 s1⟩|ret r=>cases e;exact⟨F0,ρ0,σ0,H0,F,ρ,q,as,rows,.ret r,_,nb,e1,fun F1 σ1 H1 s1 _ _=>k F1 σ1 H1 s1⟩
theorem KD(h:SB X c n sts ss):Zf X c n x sts (.cN x::ss):=by refine⟨lX h ?_⟩;rintro D σ H⟨F0,ρ0,σ0,H0,F,ρ,q,as,rows,fl,ρ',nb,e,k⟩;rw[eX]at e;obtain⟨f1,ρ1,e1,e⟩:=aa e;rw[HH.X20,nb.nw.slot]at e1;cases e1;have t:=nb.cN;refine⟨_,_,fl,ρ',t.gs,e,fun F' σ' H' s=>?_⟩;have z:=k F' σ' H' (t.trans s);cases fl with|next=>exact z|brk=>exact z|cont=>exact z|ret r=>exact fun v rr=>z v (rr.later t)
theorem Qq{sa sb:List Stmt}{ta tb:List S}(hc:ST X c e p)(ha:Ue X c n x sa ta)(hb:Ue X c n x sb tb):Xo X c n x (.If e sa sb pos) (.ifs p ta tb):=by refine⟨dD (M7 hc ha.p hb.p) ?_⟩;rintro D σ H⟨F0,ρ0,σ0,H0,F,ρ,q,as,rows,fl,ρ',nb,e,k⟩;rw[HH.ZF]at e;obtain⟨t,ρ1,e1,e⟩:=aa e;refine⟨F,ρ,t,ρ1,nb.stp.gs,e1,fun F1 H1 s1=>?_⟩;have go:∀{f:List Sl->Res Fl},f ρ1=.ok fl ρ'->Qn X.K x f D σ H1:=fun{f}h=>⟨F0,ρ0,σ0,H0,F1,ρ1,q,as,rows,fl,ρ',nb.step s1,h,fun F2 σ2 H2 s2 sm nn=>k F2 σ2 H2 s2 (s1.cG.trans sm) nn⟩;cases t with|true=>rw[if_pos rfl]at e;exact go e|false=>rw[if_neg Bool.false_ne_true]at e;exact go e
theorem Ez{ρ:List Sl}{rows:List (List D)}(h:gY ρ x=some rows):ρ[x]?=some (.hold rows):=by
 unfold gY at h;split at h;.rename_i z;cases h;exact z
 .cases h
def WalkN(K:PySem.W.Frag)(J:It)(ds:List D)(F1:Hp):Prop:=∀(k:Nat)(F' H':Hp),aH F1 F'->aH F' H'->(∀d,ds[k]?=some d->J.go k H'/\∀x uF,J.N6 k H' x uF->∃F'',Ext F' H' F'' uF/\Rep K F'' x d)/\(ds.length<=k->J.stop k H')
inductive acR(K:PySem.W.Frag)(f:Ev)(σ:L2.St)(H:Hp)(R:It->Hp->Prop):Prop where|mk(F:Hp)(ρ:List Sl)(r:HH.R)(ρ1:List Sl)(ds:List D)(g:GS K F ρ σ H)(e:f ρ=.ok r ρ1)(e2:items r.d=some ds)(k:∀J F1 H1,aq K F ρ σ H F1 ρ1 σ H1->WalkN K J ds F1->R J H1)
structure SIN(X:Cx)(c:Call)(tg e:Expr)(p:P):Prop where p:PI X tg e (acR X.K (HH.ev c p))
theorem Kh(h:SX X c e p):SIN X c tg e p:=by refine⟨pU (yI h.ev) ?_⟩;rintro σ H R⟨F,ρ,r,ρ1,ds,g,e,e2,k⟩;refine⟨F,ρ,r,ρ1,g,e,fun v F' H' s rr=>?_⟩;obtain⟨F2,s2,_,rp⟩:=s.cN rr;cases hd:r.d with|tup es=>rw[hd]at rp e2;cases e2;rw[Rep]at rp;obtain⟨a,xs,rfl,h1,h2⟩:=rp;exact⟨a,rfl,.inr ⟨⟨xs,aH.gH s2.gs.sub h1⟩,k _ _ _ s2 fun k F3 H3 Yt Tq=>zM (aH.gH Tq (aH.gH Yt h1)) (h2.mono Yt) Tq k⟩⟩|lst es=>rw[hd]at rp e2;cases e2;rw[Rep]at rp;obtain⟨a,xs,rfl,h1,h2⟩:=rp;exact⟨a,rfl,.inl ⟨⟨xs,s2.gs.sub.seq h1⟩,k _ _ _ s2 fun k F3 H3 Yt Tq=>oG (Tq.seq (Yt.seq h1)) (h2.mono Yt) Tq k⟩⟩|_=>rw[hd]at e2;cases e2
theorem Ca{K:PySem.W.Frag}{F1:Hp}(i j:Int):WalkN K (U4 i (j-i).toNat) ((List.range (j-i).toNat).map fun(k:Nat)=>D.int (i+(k:Int))) F1:=by
 refine fun k F' H' _ sm=>⟨fun d hd=>?_,fun h=>?_⟩;.rw[getElem?_map]at hd;obtain⟨m,e1,e2⟩:=map_some hd;obtain⟨h1,h2⟩:=List.getElem?_eq_some_iff.mp e1;rw[List.getElem_range]at h2;subst h2;subst e2;rw[length_range]at h1;refine⟨h1,?_⟩;rintro x uF⟨q1,q2⟩;subst q1;subst q2;exact⟨F',.refl sm,bz _⟩
 .rw[length_map,length_range]at h;exact h
theorem G3{x:Str}{p':Pos}(hx:x="range")(hg:Gl X x)(hm:X.mg x=none)(ha:SX X c a pa)(hs:starEach [a] X.env=[(false,eval a X.env)]:=by rfl):SIN X c tg (.Call (.Name x p') [a] [] pos) (.wU (.con (.int 0)) pa):=by
 subst hx;obtain⟨ta,h1,h2⟩:=ha.bY;refine⟨pU (rE hg hm (cB h1 dZ hs) hs) ?_⟩;rintro σ H R⟨F,ρ,r,ρ1,ds,g,e1,e2,k⟩;rw[HH.E20]at e1;obtain⟨xy,ρ3,e4,e5⟩:=aa e1;have zz:=aF e5;clear e5;obtain⟨e5,e6⟩:=zz;subst e6;obtain⟨y0,ρ5,e9,e10⟩:=aa e4;cases e10;obtain⟨i,f1,e5⟩:=bI e5;obtain⟨j,f2,e5⟩:=bI e5;obtain⟨⟨b1,b2,b3,b4⟩,e5⟩:=aP e5;have f1:i=0:=by cases f1;rfl
 subst f1;subst e5;cases e2;cases cz f2;refine h2 g e9 fun v F' H' s pv=>⟨j,by rw[pv.int],by omega,by omega,?_⟩;have:=Ca (K:=X.K) (F1:=F') 0 j;rw[sub_zero]at this;refine k _ F' H' s ?_;rw[sub_zero];exact this
theorem zm{g:TG}{is:List Nat}{one:Bool}(hp:PassesOwn (model X.prog X.w) X.A X.env X.xe)(hc:X.calm=true)(hi:SIN X c tg iter p)(hg:PG X tg g)(hgo:Jk X.K (fun ρ d=>cI ρ is one d) g)(hb:Ue X c n x body ss)(hs:∀x,foldedSetIterable iter X.env x=pure x:=by intro _;rfl):Xo X c n x (.For tg iter body [] pos) (.Dp p is one ss):=by
 refine⟨dD (Gs hp hc hi.p hg hb.p hs) ?_⟩;rintro D σ H⟨F0,ρ0,σ0,H0,F,ρ,q,as,rows,fl,ρ',nb,e,k⟩;rw[HH.X19]at e;obtain⟨r,ρ1,e1,e⟩:=aa e;obtain⟨ds,ρ9,e9,e2⟩:=aa e;have zz:=aF e9;clear e9;obtain⟨e9,e91⟩:=zz;subst e91;refine⟨F,ρ,r,ρ1,ds,nb.stp.gs,e1,e9,fun J F1 H1 s1 w=>?_⟩;refine⟨fun i m σi Hi=>∃Fi ρi rR,NB X.K x q as F0 ρ0 σ0 H0 Fi ρi σi Hi rR/\aH F1 Fi/\m=ds.length-i/\i<=ds.length/\gj is one (eX c n ss) (ds.drop i) ρi=.ok fl ρ',⟨_,F1,ρ1,rows,nb.step s1,.refl _,rfl,zero_le _,e2⟩,?_⟩;rintro i m σi Hi⟨Fi,ρi,rR,Yu,smi,rfl,hle,ei⟩;obtain⟨w1,w2⟩:=w i Fi Hi smi Yu.stp.gs.sub;by_cases hlt:i<ds.length
 . right;have hd:ds[i]?=some ds[i]:=by simp[hlt]
   obtain⟨go,step⟩:=w1 _ hd;refine⟨go,fun σ' H'=>∃m',m'<ds.length-i/\∃Fi ρi rR,NB X.K x q as F0 ρ0 σ0 H0 Fi ρi σ' H' rR/\aH F1 Fi/\m'=ds.length-(i+1)/\i+1<=ds.length/\gj is one (eX c n ss) (ds.drop (i+1)) ρi=.ok fl ρ',fun σ' H' z=>z,fun y H' yy=>?_⟩;obtain⟨F2,ext,rx⟩:=step y H' yy;have t2:=ext.stp Yu.stp.gs;rw[drop_eq_getElem_cons hlt,gj]at ei;cases hbd:cI ρi is one ds[i]with|none=>rw[hbd]at ei;cases ei|some ρb=>rw[hbd]at ei;obtain⟨flb,ρc,eb,ei⟩:=aa ei;refine hgo y _ F2 ρi ρb σi H' _ t2.gs rx hbd fun σ2 sb=>?_;have t3:=t2.trans sb;refine⟨F0,ρ0,σ0,H0,F2,ρb,q,as,rR,flb,ρc,Yu.step t3,eb,fun F4 σ4 H4 s4 sm4 nn4=>?_⟩;have Vt:aH F1 F4:=smi.trans (ext.fs.trans sm4);cases flb with|next=>obtain⟨Ih,nb4⟩:=nn4 (fun r z=>by cases z);exact⟨_,by omega,F4,ρc,Ih,nb4,Vt,rfl,hlt,ei⟩|cont=>obtain⟨Ih,nb4⟩:=nn4 (fun r z=>by cases z);exact⟨_,by omega,F4,ρc,Ih,nb4,Vt,rfl,hlt,ei⟩|brk=>cases ei;exact k F4 σ4 H4 s4 (s1.cG.trans Vt) fun _=>nn4 (fun r z=>by cases z)|ret r=>cases ei;exact fun v rr=>k F4 σ4 H4 s4 (s1.cG.trans Vt) (fun h=>(h r rfl).elim) v rr
 . left;have hdr:ds.drop i=[]:=by rw[drop_eq_nil_iff];omega
   rw[hdr,gj]at ei;cases ei;exact⟨w2 (by omega),k Fi σi Hi Yu.stp (s1.cG.trans smi) fun _=>⟨rR,Yu⟩⟩
end
section
variable{X:Cx}{c:Call}{n:Nat}{e a b d i j:Expr}{p pa pb pd pi pj:P}{pos:Pos}
theorem JL{ρ ρ':List Sl}{x:Nat}{o:Option (List (List D))}{fl:Fl}(h:Cd ρ x o=.ok fl ρ'):∃rows,o=some rows/\fl=.next/\ρ'=ρ.set x (.hold rows):=by cases o with|none=>cases h|some rows=>cases h;exact⟨rows,rfl,rfl,rfl⟩
section
variable{K:PySem.W.Frag}{F H F0 H0:Hp}{ρ ρ0:List Sl}{σ σ0:L2.St}{x:Nat}{q:Addr}{as:List Addr}{rows ni:List (List D)}
theorem NB.hold(nb:NB K x q as F0 ρ0 σ0 H0 F ρ σ H rows)(h:gY ρ x=some ni):ni=rows:=by have:=Ez h;rw[nb.nw.slot]at this;cases this;rfl
theorem NB.at{k:Int}{r:Nat}{row:List D}(nb:NB K x q as F0 ρ0 σ0 H0 F ρ σ H rows)(h1:HH.ie rows.length k=some r)(h2:rows[r]?=some row):∃a ys,as[r]?=some a/\Gk (as.map V.ref) k=some (.ref a)/\H a=some (.lst ys)/\aC K F ys row:=by
 have hl:r<as.length:=by rw[nb.nw.len];exact(List.getElem?_eq_some_iff.mp h2).1
 obtain⟨⟨ys,k1,r1⟩,_⟩:=nb.nw.row r as[r] row (by simp[hl]) h2;refine⟨as[r],ys,by simp[hl],?_,k1.1,r1⟩;unfold Gk;rw[length_map,nb.nw.len];rw[show L2.ie rows.length k=some r from h1];simp[hl]
theorem NB.sS{dk:D}{row:List D}(nb:NB K x q as F0 ρ0 σ0 H0 F ρ σ H rows)(h:HH.sS ρ x dk=some row):∃k a,(∃r:Nat,as[r]?=some a)/\Gk (as.map V.ref) k=some (.ref a)/\dk=.int k/\∃ys,H a=some (.lst ys)/\aC K F ys row:=by unfold HH.sS at h;obtain⟨rows0,h1,h⟩:=bI h;cases nb.hold h1;obtain⟨k,h2,h⟩:=bI h;obtain⟨r,h3,h4⟩:=bI h;obtain⟨a,ys,g1,g2,g3,g4⟩:=nb.at h3 h4;exact⟨k,a,⟨r,g1⟩,g2,cz h2,ys,g3,g4⟩
end
theorem CN{rows ni:List (List D)}{k:Int}{f:List D->Option (List D)}(h:iM rows k f=some ni):∃r row jz,HH.ie rows.length k=some r/\rows[r]?=some row/\f row=some jz/\ni=rows.set r jz:=by unfold iM at h;obtain⟨r,h1,h⟩:=bI h;obtain⟨row,h2,h⟩:=bI h;obtain⟨jz,h3,h⟩:=map_some h;exact⟨r,row,jz,h1,h2,h3,h.symm⟩
theorem Gb{x:Str}{k:Nat}{px ipos apos cpos:Pos}(hN:X.N[k]?=some x)(hv:xm X.env.scope x)(hi:SX X c i pi)(he:SX X c e p)(hpx:tG i:=by intro _ _;rfl)(hline:(apos.endLine==cpos.line)=true:=by rfl)(hs:starEach [e] X.env=(false,eval e X.env)::starEach [] X.env:=by rfl)(hbase:attributeBase (.Subscript (.Name x px) i ipos) "append" X.env (eval (.Subscript (.Name x px) i ipos) X.env)=eval (.Subscript (.Name x px) i ipos) X.env:=by rfl)(hfew:((backTo cpos (starEach [e] X.env)).all (fun x=>!x.1)&&(backToKw cpos (keywordEach [] X.env)).all (fun x=>x.1.isSome)&&decide ([e].length+([]:List Keyword).length+(if([]:List Keyword).isEmpty then 0 else 1)<30))=true:=by rfl)(hsw:swapsWith (.Call (.Attribute (.Subscript (.Name x px) i ipos) "append" apos) [e] [] cpos) none pos.line X.env=pure false:=by rfl)(hd:(x==("__debug__":Str))=false:=by decide)(hcd:(x==("__classdict__":Str))=false:=by decide):Xo X c n k (.Expr (.Call (.Attribute (.Subscript (.Name x px) i ipos) "append" apos) [e] [] cpos) pos) (.Ib k pi p):=by obtain⟨ti,hi1,hi2⟩:=hi.bY;refine⟨dD (zL (Mj PySem.F.plainAttrs_list PySem.F.slot_list_append PySem.F.type_list_append mL (NK Ar (du hN hv hd hcd) hi1 hpx) (cB he.ev dZ hs) hbase hfew hline hs) hsw) ?_⟩;rintro E σ H⟨F0,ρ0,σ0,H0,F,ρ,q,as,rows,fl,ρ',nb,e,kk⟩;rw[HH.X18]at e;obtain⟨dk,ρ2,e2,e⟩:=aa e;obtain⟨row0,ρ2',e8,e⟩:=aa e;have zz:=aF e8;clear e8;obtain⟨e8,e81⟩:=zz;subst e81;obtain⟨r,ρ3,e3,e⟩:=aa e;obtain⟨rs,e4,rfl,rfl⟩:=JL e;refine⟨.ref q,nb.nw.val,hi2 nb.stp.gs e2 fun vi F1 H1 s1 pi=>?_⟩;have Oj:=nb.step s1;obtain⟨k0,a,g1,g2,g0,ys,g3,g4⟩:=Oj.sS e8;rw[g0]at pi;refine⟨q,_,k0,_,rfl,pi.int,dG.of Oj.nw.out.kp.1,g2,.inl ⟨rfl,ys,dG.of g3⟩,F1,ρ2,r,ρ3,Oj.stp.gs,e3,fun v F2 H2 s2 rr=>?_⟩;obtain⟨F3,s3,_,rp⟩:=s2.cN rr;have nb3:=Oj.step s3;obtain⟨rows0,e5,e4⟩:=bI e4;cases nb3.hold e5;obtain⟨k1,e6,e4⟩:=bI e4;obtain⟨m,row,jz,f1,f2,f3,rfl⟩:=CN e4;obtain⟨hlt,rfl⟩:=aP f3;have:=cz e6;rw[g0]at this;cases this;obtain⟨a',ys',g1',g2',g3',g4'⟩:=nb3.at f1 f2;rw[g2]at g2';cases g2';have nb5:=nb3.mut g1' f2 (g4'.append (.cons rp .nil));exact⟨a,ys',v,rfl,rfl,g3',by rw[g4'.length];exact hlt,kk F3 σ _ nb5.stp (s1.cG.trans s3.cG) fun _=>⟨_,nb5⟩⟩
end
section
variable{K:PySem.W.Frag}{F H F1 H1:Hp}{ρ ρ1:List Sl}{σ σ1:L2.St}
theorem aq.since{b:Addr}(s:aq K F ρ σ H F1 ρ1 σ1 H1)(h:H1 b=none):Own ρ σ b\/H b=none:=by
 by_cases ho:Own ρ σ b;.exact .inl ho
 .right;cases e:H b with|none=>rfl|some o=>rw[s.keep b o e ho]at h;cases h
theorem NB.mk'{x:Nat}{q:Addr}{as:List Addr}{rows:List (List D)}{s1:Sl}(s:aq K F ρ σ H F1 ρ1 σ1 H1)(hx:ρ1[x]?=some s1)(hl:ud s1=false)(hq:Qe F1 ρ1 σ1 H1 q (as.map V.ref))(nd:(q::as).Nodup)(len:as.length=rows.length)(row:∀(k:Nat)(a:Addr)(ds:List D),as[k]?=some a->rows[k]?=some ds->Wt K F1 ρ1 σ1 H1 a ds)(fr:∀b,b∈q::as->Own ρ σ b\/H b=none):NB K x q as F ρ σ H F1 (ρ1.set x (.hold rows)) (σ1.set x (some (.ref q))) H1 rows:=by
 have hi:x<ρ1.length:=(List.getElem?_eq_some_iff.mp hx).1;have hi':x<σ1.length:=by rw[<-s.gs.len];exact hi
 exact⟨s.Bd rfl (s.free hx hl),fr,s.free hx hl,⟨getElem?_set_self hi,getElem?_set_self hi',⟨zX rfl hq.kp,hq.fr⟩,nd,len,fun k a ds h1 h2=>Kq rfl (row k a ds h1 h2)⟩⟩
end
theorem Hg{K:PySem.W.Frag}{F H:Hp}{ρ ρ1 ρ2:List Sl}{σ:L2.St}{ul:List Sl->List Sl}{ti:TI}{is:List Nat}{one:Bool}{c:Call}{el:Ev}{g:TG}{Q:VK}{ds:List D}{rows:List (List D)}{m n:Nat}(hm:σ.length=m)(hgo:o9 K m is one g)(hti:∀R:It->Hp->Prop,(∀J F1 H1,Walk K F ρ σ H ul J ds F1 ρ1 H1->R J H1)->ti σ H R)(hlim:ds.length<=lim)(e2:dw is one el ds [] (ρ1++replicate n .aV)=.ok rows ρ2)(k:∀ q as F' H',aq K F ρ σ H F' (ul (ρ2.take ρ1.length)) σ H'->Qe F' (ul (ρ2.take ρ1.length)) σ H' q (as.map V.ref)->(q::as).Nodup->as.length=rows.length->(∀(k:Nat)(a:Addr)(ds:List D),as[k]?=some a->rows[k]?=some ds->Wt K F' (ul (ρ2.take ρ1.length)) σ H' a ds)->(∀b,b∈q::as->Own ρ σ b\/H b=none)->Q (.ref q) H'):qH n ti g (Iu K (uI c none)) (xq K el) σ H Q:=by
 refine hti _ fun J F1 H1 w Da Bv=>?_;have hl1:ρ1.length=σ.length:=w.gs.len;have gm:=w.gs.more (n:=n) (τ:=replicate n none) (by simp);have fD:F1 Da=none:=by cases q:F1 Da with|none=>rfl|some o=>rw[w.gs.sub Da o q]at Bv;cases Bv
 have nO:¬ Own (ρ1++replicate n .aV) (σ++replicate n none) Da:=fun⟨i,⟨t,dt,q1,q2⟩,q3⟩=>by obtain⟨a,ys,z1,z2,_⟩:=gm.own i t dt q1 q2;rw[q3]at z1;cases z1;rw[Bv]at z2;cases z2
 refine⟨fun i mm ys σi Hi=>∃Fi ρi acc as,aq K F1 (ρ1++replicate n .aV) (σ++replicate n none) H1 Fi ρi σi Hi/\σi.take m=σ/\ys=as.map V.ref/\Hi Da=some (.lst ys)/\Fi Da=none/\¬ Own ρi σi Da/\(Da::as).Nodup/\as.length=acc.length/\(∀(k:Nat)(a:Addr)(ds:List D),as[k]?=some a->acc[k]?=some ds->Wt K Fi ρi σi Hi a ds/\(Own (ρ1++replicate n .aV) (σ++replicate n none) a\/H1 a=none))/\acc.length<=i/\mm=ds.length-i/\i<=ds.length/\dw is one el (ds.drop i) acc ρi=.ok rows ρ2,⟨_,F1,_,[],[],(aq.refl gm).Gv Bv fD nO,by rw[List.take_append_of_le_length (by omega),take_of_length_le (by omega)],rfl,aJ,fD,nO,by simp,rfl,fun k a ds h=>by simp at h,zero_le _,rfl,zero_le _,e2⟩,?_⟩;rintro i mm ys σi Hi⟨Fi,ρi,acc,as,si,hσ,hys,hD,hF,hO,hnd,hlen,hrow,hacc,rfl,hle,ei⟩;refine⟨hD,?_⟩;have stay:∀{F2 H2:Hp}{ρ3:List Sl}{σ2:L2.St},aq K Fi ρi σi Hi F2 ρ3 σ2 H2->H2 Da=some (.lst ys)/\F2 Da=none/\¬ Own ρ3 σ2 Da:=fun{F2 H2 ρ3 σ2}s=>by have:=(Qe.stp (xs:=ys) ⟨⟨hD,hO⟩,hF⟩ s);exact⟨this.kp.1,this.fr,this.kp.2⟩
 obtain⟨s1,s2⟩:=w.src n i Fi ρi σi Hi si;by_cases hlt:i<ds.length
 . right;have hd:ds[i]?=some ds[i]:=by simp[hlt]
   obtain⟨go,step⟩:=s1 _ hd;refine⟨go,fun x H2 y=>?_⟩;obtain⟨F2,ext,rx⟩:=step x H2 y;have t2:=ext.stp si.gs;rw[drop_eq_getElem_cons hlt,dw]at ei;cases hbd:cI ρi is one ds[i]with|none=>rw[hbd]at ei;cases ei|some ρb=>rw[hbd]at ei;obtain⟨re,ρe,ee,ei⟩:=aa ei;cases re with|val _=>cases ei|own rw0=>
     replace ei:dw is one el (ds.drop (i+1)) (acc++[rw0]) ρe=.ok rows ρ2:=ei;refine hgo x _ F2 ρi ρb σi H2 _ t2.gs rx hbd fun σ2 sb htk=>?_;have t3:=t2.trans sb;refine⟨F2,ρb,true,ρb,t3.gs,by rw[uI],fun F4 H4 s4=>?_⟩;have t4:=t3.trans s4;refine(show xq K el σ2 H4 _ from⟨F4,ρb,.own rw0,ρe,t4.gs,ee,fun v F5 H5 s5 rr=>?_⟩);have t6:=t4.trans s5;obtain⟨y1,y2,y3⟩:=stay t6;obtain⟨z1,z2,z3⟩:=stay t4;have hlen2:ys.length<sizeLine:=by have h2:lim=sizeLine:=rfl;rw[hys,length_map];omega
     obtain⟨A,xs,rfl,a1,a2,a3,a4,a5⟩:=rr;have nDA:A≠Da:=by
      rintro rfl;rcases a5 with z|z;.exact z3 z
      .rw[z1]at z;cases z
     have nA:A∉as:=fun hA=>by
      obtain⟨k0,hk0⟩:=List.getElem?_of_mem hA;have hl0:k0<acc.length:=by rw[<-hlen];exact(List.getElem?_eq_some_iff.mp hk0).1
      obtain⟨⟨zs,k1,_⟩,_⟩:=(hrow k0 A acc[k0] hk0 (by simp[hl0])).1.stp t4;rcases a5 with z|z;.exact k1.2 z
      .rw[k1.1]at z;cases z
     have fA:Own (ρ1++replicate n .aV) (σ++replicate n none) A\/H1 A=none:=by
      have t:=si.trans t4;rcases a5 with z|z;.exact t.uK A z
      .exact t.since z
     refine⟨y1,hlen2,_,by omega,F5,ρe,acc++[rw0],as++[A],(si.trans t6).Gv Bv y2 y3,htk.trans hσ,by rw[hys];simp,aJ,y2,y3,?_,by simp[hlen],fun k0 a0 ds0 h1 h2=>?_,by simp;omega,rfl,hlt,ei⟩
     . rw[<-cons_append,nodup_append];refine⟨hnd,by simp,fun p hp r hr=>?_⟩;simp at hr;subst hr;rcases mem_cons.mp hp with rfl|hp;.exact fun z=>nDA z.symm
       .rintro rfl;exact nA hp
     . by_cases hk0:k0<as.length
       . rw[getElem?_append_left hk0]at h1;rw[getElem?_append_left (by omega)]at h2;obtain⟨w0,f0⟩:=hrow k0 a0 ds0 h1 h2;obtain⟨⟨zs,k1,r1⟩,g1⟩:=w0.stp t6;have na:a0≠Da:=by rintro rfl;exact(nodup_cons.mp hnd).1 (mem_of_getElem? h1)
         exact⟨⟨⟨zs,⟨by rw[aA na];exact k1.1,k1.2⟩,r1⟩,g1⟩,f0⟩
       . rw[getElem?_append_right (by omega)]at h1;rw[getElem?_append_right (by omega)]at h2;have:k0-as.length=0:=by have:=(List.getElem?_eq_some_iff.mp h1).1;simp at this;exact this
         rw[this]at h1;rw[<-hlen,this]at h2;cases h1;cases h2;exact⟨⟨⟨xs,⟨by rw[aA nDA];exact a1,a4⟩,a3⟩,a2⟩,fA⟩
 . left;have hdr:ds.drop i=[]:=by rw[drop_eq_nil_iff];omega
   rw[hdr,dw]at ei;cases ei;refine⟨s2 (by omega),?_⟩;have hst:σi.take ρ1.length=σ:=by rw[hl1,hm];exact hσ
   obtain⟨l1,l2⟩:=aq.less (m:=ρ1.length) rfl w.gs (by simp) si;rw[hst]at l1;obtain⟨z1,z2⟩:=w.fin _ _ _ _ l1--the outer list:with nothing in it,it is like any new one
   have si':=si.Gv (o:=.lst []) Bv hF hO;obtain⟨l1',Vo⟩:=aq.less (m:=ρ1.length) rfl w.gs (by simp) si';rw[hst]at l1';obtain⟨z1',z2'⟩:=w.fin _ _ _ _ l1';have rr:cj K Fi ρ2 σi (upd Hi Da (.lst [])) (ρ1++replicate n .aV) (σ++replicate n none) H1 (.ref Da) (.own []):=⟨Da,[],rfl,aJ,hF,.nil,hO,.inr Bv⟩;have Oe:=Vo _ _ rr;rw[hst]at Oe;obtain⟨_,_,q0,_,q3,_,q5,q6⟩:=z2' _ _ Oe;cases q0;have rws:∀(k:Nat)(a:Addr)(ds:List D),as[k]?=some a->rows[k]?=some ds->Wt K Fi (ul (ρ2.take ρ1.length)) σ Hi a ds/\(Own ρ σ a\/H a=none):=fun k a ds h1 h2=>by obtain⟨⟨⟨xs,k1,r1⟩,f1⟩,f2⟩:=hrow k a ds h1 h2;have rr:cj K Fi ρ2 σi Hi (ρ1++replicate n .aV) (σ++replicate n none) H1 (.ref a) (.own ds):=⟨a,xs,rfl,k1.1,f1,r1,k1.2,f2⟩;have Oe:=l2 _ _ rr;rw[hst]at Oe;obtain⟨a',xs',q0,q2,q3,q4,q5,q6⟩:=z2 _ _ Oe;cases q0;exact⟨⟨⟨xs',⟨q2,q5⟩,q4⟩,q3⟩,q6⟩
   refine k Da as Fi Hi z1 ⟨⟨by rw[hD,hys],q5⟩,q3⟩ hnd hlen (fun k a ds h1 h2=>(rws k a ds h1 h2).1) fun b hb=>?_;rcases mem_cons.mp hb with rfl|hb;.exact q6
   . obtain⟨k0,hk0⟩:=List.getElem?_of_mem hb;have hl0:k0<rows.length:=by rw[<-hlen];exact(List.getElem?_eq_some_iff.mp hk0).1
     exact(rws k0 b rows[k0] hk0 (by simp[hl0])).2
section
variable{X:Cx}{c:Call}{nn n:Nat}{tg iter elt:Expr}{ps pe:P}{pos:Pos}{sts:List Stmt}{ss:List S}{scope:Scope}{N':List Str}
theorem J6{i:Nat}{x:Str}{pos' spos:Pos}{g:TG}{is:List Nat}{one:Bool}(hc:X.calm=true)(hN:X.N.Nodup)(hx0:X.N[i]?=some x)(hx:Loc X.env.scope x)(ok:dW X scope N' n)(hi:SI X c tg iter ps)(hg:∀cl C s₀ H₀ ex,PG (v7 X scope N' cl C s₀ H₀ ex) tg g)(hgo:o9 X.K X.N.length is one g)(ht:∀cl C s₀ H₀ ex,SQ (v7 X scope N' cl C s₀ H₀ ex) c [] none)(he:∀cl C s₀ H₀ ex,SX (v7 X scope N' cl C s₀ H₀ ex) c elt pe)(hT:Zf X c nn i sts ss)(hsw:swapsWith (.ListComp elt [⟨tg,iter,[],0⟩] scope pos) (some (.Name x pos')) spos.line X.env=pure true:=by rfl)(hs:∀x,foldedSetIterable iter X.env x=pure x:=by intro _;rfl)(hf:X.fn x=true\/X.env.scope.names.lookup x=some .local:=by first|exact .inl rfl|exact .inr rfl|assumption):SB X c nn (.Assign [.Name x pos'] (.ListComp elt [⟨tg,iter,[],0⟩] scope pos) spos::sts) (.Ia i ps n is one pe::ss):=by
 have h0:=JX (tt:=Iu X.K (uI c none)) (te:=xq X.K (HH.ev c pe)) hc hN hx0 hx ok hi hg ht (fun cl C s₀ H₀ ex=>(he cl C s₀ H₀ ex).ev) hsw hs hf;refine fun pins s σ H D I q=>lC h0 hT.p pins s σ H D I ?_;have hl:σ.length=X.N.length:=I.len;obtain⟨F,ρ,fl,ρ',g0,e,kk⟩:=q;rw[eX]at e;obtain⟨f1,ρ9,e1,e⟩:=aa e;rw[HH.X17]at e1;obtain⟨ds,ρ1,e2,e1⟩:=aa e1;split at e1;.rename_i hlim;obtain⟨rows,ρ2,e3,e1⟩:=aa e1;obtain⟨ρ3,ρ3',e4,e1⟩:=aa e1;cases e1;have zz:=aF e4;clear e4;obtain⟨e4,_⟩:=zz;obtain⟨s1,h1,h2,rfl⟩:=tM e4;refine(show qH n (tIt X.K (isVar ps) (HH.ev c ps)) g (Iu X.K (uI c none)) (xq X.K (HH.ev c pe)) σ H (fun v H1=>iW i v σ H1 (Wj X.K i (eX c nn ss) D))from Hg (c:=c) (ul:=aX ρ (isVar ps)) hl hgo (fun R h=>⟨F,ρ,ds,ρ1,g0,e2,h⟩) hlim e3 fun q as F' H' s wq nd len row fr=>?_);exact⟨F,ρ,σ,H,F',_,q,as,rows,fl,ρ',NB.mk' s h1 h2 wq nd len row fr,e,fun F2 σ2 H2 s2=>kk F2 σ2 H2 s2⟩
 .cases e1
end
end HH
end
section
namespace HH
open PySem L2 PySem.Spec PyProof.Rows PySem.Calls PySem.W
section
variable{K:PySem.W.Frag}{F F1 H H1:Hp}{ρ ρ1 ρ2:List Sl}{σ σ1:L2.St}
theorem GS.aa3{x:Nat}{kvs kvs':List (Int×D)}{a:Addr}{o':HO}(g:GS K F ρ σ H)(e:ρ[x]?=some (.cF kvs))(hx:σ[x]?=some (some (.ref a)))(r:jA K F o' (.v kvs')):aq K F ρ σ H F (ρ.set x (.cF kvs')) σ (upd H a o'):=by
 have hi:x<ρ.length:=(List.getElem?_eq_some_iff.mp e).1;have oa:aM ρ σ x a:=⟨⟨_,_,e,rfl⟩,hx⟩;obtain⟨a',o0,h1,h2,h3,h4⟩:=g.own x _ _ e rfl;rw[hx]at h1;cases h1;have old:∀{j:Nat}{c:Addr},aM (ρ.set x (.cF kvs')) σ j c->aM ρ σ j c:=fun{j c}⟨⟨t,dt,q1,q2⟩,q3⟩=>by
  by_cases hj:j=x;.subst hj;exact⟨⟨_,_,e,rfl⟩,q3⟩
  .rw[getElem?_set_ne (Ne.symm hj)]at q1;exact⟨⟨t,dt,q1,q2⟩,q3⟩
 refine⟨⟨fun c o q=>?_,by simp[g.len],fun j b' d q=>?_,fun j t dt q q'=>?_,fun j k c q1 q2=>g.dis j k c (old q1) (old q2)⟩,.refl _,fun c n n'=>absurd n n',fun c o q n=>?_,fun c⟨j,q⟩=>.inl ⟨j,old q⟩,by simp,fun j t q l=>⟨rfl,?_⟩⟩
 . have:c≠a:=by rintro rfl;rw[h3]at q;cases q
   rw[aA this];exact g.sub c o q
 . by_cases hj:j=x;.subst hj;rw[getElem?_set_self hi]at q;cases q
   .rw[getElem?_set_ne (Ne.symm hj)]at q;exact g.val j b' d q
 . by_cases hj:j=x;.subst hj;rw[getElem?_set_self hi]at q;cases q;cases q';exact⟨a,_,hx,aJ,h3,r⟩
   . rw[getElem?_set_ne (Ne.symm hj)]at q;obtain⟨c,zs,w1,w2,w3,w4⟩:=g.own j t dt q q';have:c≠a:=by rintro rfl;exact hj (g.dis j x c ⟨⟨t,dt,q,q'⟩,w1⟩ oa)
     exact⟨c,zs,w1,by rw[aA this];exact w2,w3,w4⟩
 . have:c≠a:=by rintro rfl;exact n ⟨x,oa⟩
   rw[aA this];exact q
 . by_cases hj:j=x;.subst hj;rw[e]at q;cases q;cases l
   .exact⟨t,by rw[getElem?_set_ne (Ne.symm hj)];exact q,.refl t⟩
theorem GS.newV{i:Nat}{kvs:List (Int×D)}{a:Addr}{o':HO}{s0:Sl}(g:GS K F ρ σ H)(e:ρ[i]?=some s0)(hl0:ud s0=false)(r:jA K F o' (.v kvs))(ha:H a=none):aq K F ρ σ H F (ρ.set i (.cF kvs)) (σ.set i (some (.ref a))) (upd H a o'):=by
 have hi:i<ρ.length:=(List.getElem?_eq_some_iff.mp e).1;have hi':i<σ.length:=by rw[<-g.len];exact hi
 have fa:F a=none:=by cases q:F a with|none=>rfl|some o=>rw[g.sub a o q]at ha;cases ha
 have old:∀{j:Nat}{c:Addr},j≠i->aM (ρ.set i (.cF kvs)) (σ.set i (some (.ref a))) j c->aM ρ σ j c:=fun{j c}hj⟨⟨t,ds,e1,e2⟩,e3⟩=>by rw[getElem?_set_ne (Ne.symm hj)]at e1 e3;exact⟨⟨t,ds,e1,e2⟩,e3⟩
 have new:∀{c:Addr},aM (ρ.set i (.cF kvs)) (σ.set i (some (.ref a))) i c->c=a:=fun{c}⟨_,e3⟩=>by rw[getElem?_set_self hi']at e3;cases e3;rfl
 have no:∀{j:Nat},¬ aM ρ σ j a:=fun{j}⟨⟨t,ds,e1,e2⟩,e3⟩=>by obtain⟨c,o,q1,q2,_⟩:=g.own j t ds e1 e2;rw[e3]at q1;cases q1;rw[ha]at q2;cases q2
 refine⟨⟨fun c o q=>?_,by simp[g.len],fun j b' d q=>?_,fun j t dt q q'=>?_,fun j k c q1 q2=>?_⟩,.refl _,fun c n n'=>absurd n n',fun c o q n=>?_,fun c⟨j,q⟩=>?_,by simp,fun j t q l=>?_⟩
 . have:c≠a:=by rintro rfl;rw[fa]at q;cases q
   rw[aA this];exact g.sub c o q
 . by_cases hj:j=i;.subst hj;rw[getElem?_set_self hi]at q;cases q
   .rw[getElem?_set_ne (Ne.symm hj)]at q ⊢;exact g.val j b' d q
 . by_cases hj:j=i;.subst hj;rw[getElem?_set_self hi]at q;cases q;cases q';exact⟨a,_,getElem?_set_self hi',aJ,fa,r⟩
   . rw[getElem?_set_ne (Ne.symm hj)]at q ⊢;obtain⟨c,o,w1,w2,w3,w4⟩:=g.own j t dt q q';have:c≠a:=by rintro rfl;rw[ha]at w2;cases w2
     exact⟨c,o,w1,by rw[aA this];exact w2,w3,w4⟩
 . by_cases hj:j=i
   . by_cases hk:k=i;.rw[hj,hk]
     .subst hj;rw[new q1]at q2;exact absurd (old hk q2) no
   . by_cases hk:k=i;.subst hk;rw[new q2]at q1;exact absurd (old hj q1) no
     .exact g.dis j k c (old hj q1) (old hk q2)
 . have:c≠a:=by rintro rfl;rw[ha]at q;cases q
   rw[aA this];exact q
 . by_cases hj:j=i;.subst hj;rw[new q];exact .inr ha
   .exact .inl ⟨j,old hj q⟩
 . have hj:j≠i:=by rintro rfl;rw[e]at q;cases q;rw[hl0]at l;cases l
   exact⟨by rw[getElem?_set_ne (Ne.symm hj)],t,by rw[getElem?_set_ne (Ne.symm hj)];exact q,.refl t⟩
end
section
variable{X:Cx}{c:Call}{n:Nat}{a b e:Expr}{pa pb p:P}{pos:Pos}
theorem zK{i:Nat}{x:Str}{pos' p2:Pos}(hN:X.N.Nodup)(hi:X.N[i]?=some x)(hx:Loc X.env.scope x)(hs:swapsWith (.Dict [] [] p2) (some (.Name x pos')) pos.line X.env=pure false:=by rfl)(hf:X.fn x=true\/X.env.scope.names.lookup x=some .local:=by first|exact .inl rfl|exact .inr rfl|assumption):SS X c n (.Assign [.Name x pos'] (.Dict [] [] p2) pos) (.Dq i):=by
 refine dD (yf hN hi hx wC hs hf) ?_;rintro D σ H⟨F,ρ,fl,ρ',g,e,k⟩;rw[HH.X21]at e;have go:∀s0,ρ[i]?=some s0->ud s0=false->fl=.next->ρ'=ρ.set i (.cF [])->∀a,H a=none->D.nx (σ.set i (some (.ref a))) (upd H a (.dK [])):=fun s0 q hl hfl hρ a ha=>by subst hfl hρ;exact k F _ _ (g.newV (kvs:=[]) q hl (KR.oc .nil) ha)
 split at e;.rename_i q;cases e;exact go _ q rfl rfl rfl
 .rename_i q;cases e;exact go _ q rfl rfl rfl
 .rename_i q;cases e;exact go _ q rfl rfl rfl
 .cases e
theorem uo{i:Nat}{x:Str}{px pos':Pos}{pk:P}(hu:X.A.units+8<cLine)(hN:X.N[i]?=some x)(hv:xm X.env.scope x)(ha:SX X c a pk)(he:SX X c e p)(hs:swapsWith e (some (.Subscript (.Name x px) a pos')) pos.line X.env=pure false:=by rfl)(hd:(x==("__debug__":Str))=false:=by decide)(hcd:(x==("__classdict__":Str))=false:=by decide):SS X c n (.Assign [.Subscript (.Name x px) a pos'] e pos) (.fL i pk p):=by
 obtain⟨ta,h1,h2⟩:=ha.bY;refine dD (zA (by omega) (du hN hv hd hcd) h1 he.ev hs) ?_;rintro D σ H⟨F,ρ,fl,ρ',g,e,k⟩;rw[HH.X22]at e;obtain⟨r,ρ1,e1,eA⟩:=aa e;clear e;refine⟨F,ρ,r,ρ1,g,e1,fun v F1 H1 s1 rr=>?_⟩;obtain⟨F2,s2,_,rp⟩:=s1.cN rr;split at eA
 . rename_i ado q0;obtain⟨kd,ρ2,e2,eB⟩:=aa eA;clear eA;obtain⟨a0,o0,w1,w2,w3,w4⟩:=s2.gs.own i _ _ q0 rfl;refine⟨.ref a0,w1,h2 s2.gs e2 fun y F3 H3 s3 py=>?_⟩;split at eB
   . rename_i kvs j q;split at eB;.rename_i hl;cases eB;obtain⟨a1,o1,y1,y2,y3,y4⟩:=s3.gs.own i _ _ q rfl;rw[w1]at y1;cases y1;obtain⟨es,rfl,kr⟩:=KR.RJ y4;have kr2:=kr.put (k:=j) (rp.mono s3.cG);refine⟨a0,upd H3 a0 (.dK (putK es (Sum.inl j:Key) v)),rfl,?_,k F3 σ _ ((s2.trans s3).trans (s3.gs.aa3 q w1 kr2.oc))⟩;rw[py.int];exact .inl ⟨es,Sum.inl j,y2,rfl,by rw[kr.len,sizeLine_eq];exact hl,rfl⟩
     .cases eB
   .cases eB
 .cases eA
theorem yG{i:Nat}{x:Str}{px:Pos}{pk:P}(hu:X.A.units+8<cLine)(hN:X.N[i]?=some x)(hv:xm X.env.scope x)(ha:SX X c a pk)(hs:Lf a)(hd:(x==("__debug__":Str))=false:=by decide)(hcd:(x==("__classdict__":Str))=false:=by decide):SX X c (.Subscript (.Name x px) a pos) (.Oa i pk):=by
 obtain⟨ta,h1,h2⟩:=ha.bY;refine⟨cY (Js (by omega) (du hN hv hd hcd) h1 hs) ?_,fun i h=>by cases h⟩;rintro σ H Q⟨F,ρ,r,ρ',g,e,k⟩;rw[HH.E24]at e;split at e
 . rename_i ado q;obtain⟨kd,ρ1,e1,eA⟩:=aa e;clear e;obtain⟨a0,o0,w1,w2,w3,w4⟩:=g.own i _ _ q rfl;refine⟨.ref a0,w1,h2 g e1 fun v F1 H1 s1 pv=>?_⟩;split at eA;.rename_i kvs q1;obtain⟨eC,e3⟩:=aF eA;clear eA;subst e3;obtain⟨j,e4,eD⟩:=bI eC;clear eC;obtain⟨d,e5,e6⟩:=map_some eD;subst e6;rw[cz e4]at pv;obtain⟨a1,o1,y1,y2,y3,y4⟩:=s1.gs.own i _ _ q1 rfl;rw[w1]at y1;cases y1;obtain⟨es,rfl,kr⟩:=KR.RJ y4;obtain⟨v',g1,g2⟩:=kr.get e5;rw[pv.int];exact⟨a0,v',rfl,.inl ⟨es,Sum.inl j,.inl y2,rfl,g1.symm⟩,k v' F1 H1 s1 (show Rep X.K F1 _ _ from g2)⟩
   .cases eA
 .cases e
theorem PK{i:Nat}{x:Str}{px:Pos}{pk:P}{neg:Bool}{op:CmpOp}(hop:(op=.In/\neg=false)\/(op=.NotIn/\neg=true))(hu:X.A.units+8<cLine)(hN:X.N[i]?=some x)(hv:xm X.env.scope x)(ha:SX X c a pk)(hd:(x==("__debug__":Str))=false:=by decide)(hcd:(x==("__classdict__":Str))=false:=by decide):PC X op a (.Name x px) (xq X.K (HH.ev c (.Ob i pk neg))):=by
 obtain⟨ta,h1,h2⟩:=ha.bY;have main:∀{σ:L2.St}{H:Hp}{Q:VK},xq X.K (HH.ev c (.Ob i pk neg)) σ H Q->ta σ H fun y H1=>O7 i σ H1 fun x H2=>∃a o,x=.ref a/\mJ H2 a y o/\Q (.bl (if neg then !o.isSome else o.isSome)) H2:=fun{σ H Q}⟨F,ρ,r,ρ',g,e,k⟩=>by
  rw[HH.E25]at e;obtain⟨kd,ρ1,e1,eA⟩:=aa e;clear e;refine h2 g e1 fun v F1 H1 s1 pv=>?_;split at eA;.rename_i kvs q1;obtain⟨eC,e3⟩:=aF eA;clear eA;subst e3;obtain⟨j,e4,e5⟩:=map_some eC;subst e5;rw[cz e4]at pv;obtain⟨a1,o1,y1,y2,y3,y4⟩:=s1.gs.own i _ _ q1 rfl;obtain⟨es,rfl,kr⟩:=KR.RJ y4;rw[pv.int];refine⟨.ref a1,y1,a1,_,rfl,.inl ⟨es,Sum.inl j,.inl y2,rfl,rfl⟩,?_⟩;rw[kr.has j];exact k _ F1 H1 s1 (show Rep X.K F1 _ _ from dC _)
  .cases eA
 rcases hop with⟨rfl,rfl⟩|⟨rfl,rfl⟩;.exact fun pins s σ H Q I h=>Su (by omega) h1 (du hN hv hd hcd) pins s σ H Q I (main h)
 .exact fun pins s σ H Q I h=>CP (by omega) h1 (du hN hv hd hcd) pins s σ H Q I (main h)
end
theorem m5{P:Program}{w:World}:∀{ks:List Int}{es:List (Key×V)}{vs:List (Key×Value)}{acc:List Value},es.map (·.1)=ks.map (Sum.inl:Int->Key)->KV es vs->acc.length=vs.length->(∀(j:Nat)(v:Value),acc[j]?=some v->∃(k:Key)(x:Value),vs[j]?=some (k,x)/\(aU P w).is k v=true)->IntsAre acc ks
 |[],es,_,acc,he,r,h,_=>by cases es with
   |nil=>cases r;cases acc with|nil=>exact .nil|cons _ _=>simp at h
   |cons _ _=>simp at he
 |i::ks,es,_,acc,he,r,h,k=>by cases es with|nil=>simp at he|cons p es=>cases r with|@cons _ q _ _ r t=>rw[map_cons,map_cons]at he;cases acc with|nil=>simp at h|cons v acc=>
         obtain⟨k',x,e1,e2⟩:=k 0 v rfl;simp at e1;have e3:k'=Sum.inl i:=by have z:=r.1;rw[e1]at z;rw[<-(List.cons.inj he).1];exact z.symm
         subst e3;obtain⟨i',tk,e4,rfl⟩|⟨_,_,e4,_⟩:=bf (show mY (Sum.inl i) v=true from e2);.cases e4;exact .cons _ tk (m5 (List.cons.inj he).2 t (by simpa using h) fun j v e=>k (j+1) v (by simpa using e))
         .cases e4
section
variable{X:Cx}{c:Call}{n:Nat}{a b e:Expr}{pa pb p:P}{pos:Pos}
theorem Xb(hc:X.calm=true):cW X (.type "list") (Lr X.K fun x=>blt .Vm [x]):=by rintro pins s σ H xs us Q I r⟨x,hx,F,d,r',sm,px,he,k⟩;cases d with|dv ks ds=>
   obtain⟨hle,he⟩:=aP (show(if ks.length<=16777216 then some (R.own (ks.map D.int))else none)=some r' from he);subst he;obtain⟨q,ob,vs0,rfl,hq,rs,hl⟩:=px.dv sm;subst hx;obtain⟨u,rfl,rx⟩:=r.one;cases rx;obtain⟨ho,hz,hS,vs,rv,dd⟩:=(show bu X.prog X.w H s.heap q (.cN ob (.dK (ent ks vs0)))from I.hok q _ hq);obtain⟨ep,dd⟩:=dd.dictAt;have hk:=oW (ks:=ks) (vs:=vs0) (by rw[rs.length];exact hl);have hlv:vs.length=ks.length:=by rw[<-Paired.length rv];have:=congrArg List.length hk;simpa using this
   refine kdl_call (kdl_dict (knd:=aU X.prog X.w) (kvs:=vs) (ep:=ep) hS) (I.ok.hd hc) dd (by rw[hlv,sizeLine_eq];omega) fun h' tk acc c' kp hD hacc=>?_;have ia:IntsAre acc.toList ks:=m5 (P:=X.prog) (w:=X.w) hk rv (by rw[length_toList];exact hacc.1) fun j v e=>hacc.2 j v (by rw[<-Array.getElem?_toList];exact e);refine⟨.ref s.heap.objs.size,_,I.laid (t':=tk) (o:=.lst (ks.map V.int)) (h':=h') kp (le_refl _) ⟨by rw[length_map,sizeLine_eq];omega,acc.toList,c',lJ ia,by rw[Array.toArray_toList];exact hD⟩,rfl,?_⟩;exact vX sm (rM ks) (I.hok.fresh (le_refl _)) k|_=>cases he
theorem Gd{x:Str}{p':Pos}(hx:x="list")(hc:X.calm=true)(hg:Gl X x)(hm:X.mg x=none)(ha:SX X c a pa)(hs:starEach [a] X.env=(false,eval a X.env)::starEach [] X.env:=by rfl):SX X c (.Call (.Name x p') [a] [] pos) (.blt .Vm [pa]):=by subst hx;exact mU (fun h=>mF (Xb hc) hg hm (by decide+kernel) h (he:=hs)) ha (fun ρ=>rfl) rfl hs
theorem JG{neg:Bool}{op:CmpOp}(hop:(op=.In/\neg=false)\/(op=.NotIn/\neg=true))(hu:X.A.units+8<cLine):cR X (compareOp op) (rD X.K (vH neg)):=by rintro pins s σ H x y v u Q I rx ry⟨F,d,e,r,sm,px,py,he,k⟩;cases d with
 |int j=>cases e with|dv ks ds=>
     cases he;obtain⟨q,ob,vs,rfl,hq,rs,hl⟩:=py.dv sm;have kr:=KR.zip rs hl;rw[px.int]at rx;obtain rfl:u=Value.ref q:=ry;have g:mJ H q (.int j) (ig (ent ks vs) (Sum.inl j:Key)):=.inl ⟨_,Sum.inl j,.inr ⟨ob,hq⟩,rfl,rfl⟩;have hh:(ig (ent ks vs) (Sum.inl j:Key)).isSome=ks.contains j:=by rw[kr.has j];congr 1;rw[List.map_fst_zip (by omega)]
     rcases hop with⟨rfl,rfl⟩|⟨rfl,rfl⟩;.refine XR (by omega) I g rx fun s3 I3=>⟨.bl (ig (ent ks vs) (Sum.inl j:Key)).isSome,H,I3,rfl,?_⟩;rw[hh];exact bB.bQ sm (dC _) k
     .refine Bm (by omega) I g rx fun s3 I3=>⟨.bl (!(ig (ent ks vs) (Sum.inl j:Key)).isSome),H,I3,rfl,?_⟩;rw[hh];exact bB.bQ sm (dC _) k|_=>cases he
 |_=>cases he
end
end HH
end
section
namespace PySem
section
variable{prog:Program}{w:World}{A:Around}{E:Value->Shared->Prop}{s:Shared}
theorem sZ{Q:List Value->Shared->Prop}{I l:Addr}{items:Array Value}(hh:A.handled=none)(hit:s.heap.IsRevIter I l ((items.size:Int)-1))(hl:s.heap.IsList l items)(hne:l≠I)(hlen:items.size<=2^24)(hQ:∀h' tk acc,(∀b o,b≠I->s.heap.get? b=some o->h'.get? b=some o)->s.heap.objs.size<h'.objs.size->ItemsOf (fun i v=>items[items.size-1-i]?=some v) acc items.size->Q acc.toList {s with heap:=h',toks:=tk}):
 wpAny (model prog w) A (collect (.ref I)) Q E s:=by have hIlt:I<s.heap.objs.size:=let⟨_,ho,_⟩:=hit;lt_size ho;have adp:l<s.heap.objs.size:=let⟨_,ho,_⟩:=hl;lt_size ho;unfold collect;refine wpAny_bind (wpAny_runValue (codeAny_builtin F.entry_proto_collect ?_));rw[Around.under_plainId F.plain_proto_collect _];show wpAny _ A.in1 (newList []>>=fun l=>again (.builtin "list.__iadd__" ⟨[l,.ref I],[]⟩)) _ _ s;refine wpAny_bind (wpAny_newObj_type ?_);refine wpAny_pure ⟨plainId_quiet F.plain_list_iadd _,codeAny_builtin F.entry_list_iadd ?_⟩;rw[Around.under_plainId F.plain_list_iadd _];show wpAny _ A.in1 (listExtendWith (.ref s.heap.objs.size) (.ref I) (.ref s.heap.objs.size)) _ _ _;refine lA (A:=A) (R:=fun r s'=>match r with
  |.ok (.ret v)=>wpAny (model prog w) A (match v with
   |.ref a=>do let o<-load a match o.data with|.seq xs _=>pure xs.toList|_=>unsupported "internal:collect"
   |_=>unsupported "internal:collect") Q E s'|.ok _=>False|.error e=>E e s') (s:={s with heap:=s.heap.push {cls:=.type "list",data:=.seq #[]}}) hh (hit.at fun o e=>get?_push_of_some _ e) (hl.at fun o e=>get?_push_of_some _ e) hne hlen s.heap.objs.size (Ne.symm (ne_of_lt hIlt)) (Ne.symm (ne_of_lt adp)) _ 0 (get?_push_size _ rfl) fun h' tk acc c' hk hS hacc=>?_;refine wpAny_bind (wpAny_load hS ?_);exact wpAny_pure (hQ h' tk acc (fun b o hb e=>hk b o (ne_of_lt (lt_size e)) hb (get?_push_of_some _ e)) (lt_size hS) hacc)
end
theorem iz(I l:Addr)(items:Array Value)(hne:l≠I)(hsz:items.size<=2^24):Meets (Builtin.«tuple.__new__» ⟨[.type "tuple",.ref I],[]⟩) (fun A R s=>A.handled=none/\s.heap.IsRevIter I l ((items.size:Int)-1)/\s.heap.IsList l items/\∀(h':Heap)(tk:Nat),(∀b o,b≠I->s.heap.get? b=some o->h'.get? b=some o)->s.heap.objs.size<h'.objs.size->∀acc:Array Value,acc=items.reverse->R (.ok (.ret (.ref h'.objs.size))) {s with heap:=h'.push {cls:=.type "tuple",data:=.seq acc},toks:=tk}):=.of_wp fun prog w A R s h=>by
  obtain⟨hh,hit,hl,h⟩:=h;have hsub:=sub_tuple_self;have hinit:=init_tuple_lookup;have hmh:=madeHere_tuple;have hT:Shared.TypeIs s (.ref I) "list_reverseiterator":=hit.typeIs;obtain⟨o,ho,hc,hd⟩:=id hit;obtain⟨hp,g,d,tk,os⟩:=s;wp_walk using AutoSeq1.wpAny_loadPart' ho,wpAny_typeOf hT,sZ (A:=A.in1) hh hit hl hne hsz;intro h' tk' acc hk hlt hacc;show wpAny _ _ (tupleExact acc.toList.toArray>>=fun v=>ret v) _ _ _;have e:acc.toList.toArray=acc:=by simp
  have er:acc=items.reverse:=by refine Array.ext (by rw[hacc.1,Array.size_reverse]) fun j h1 h2=>?_;have:=hacc.2 j _ (Array.getElem?_eq_getElem h1);rw[Array.getElem_reverse];have h3:=Array.getElem?_eq_some_iff.mp this;exact h3.2.symm
  rw[e];unfold tupleExact;refine wpAny_bind (wpAny_newObj_type ?_ (by show acc.size<=sizeLine;rw[hacc.1,sizeLine_eq];omega));exact wpAny_pure ⟨_,rfl,h h' tk' hk hlt acc er⟩
section
variable{prog:Program}{w:World}{A:Around}{E:Value->Shared->Prop}{s:Shared}
theorem nC{I l:Addr}{items:Array Value}{Q:Value->Shared->Prop}(hh:A.handled=none)(hit:s.heap.IsRevIter I l ((items.size:Int)-1))(hl:s.heap.IsList l items)(hne:l≠I)(hsz:items.size<=2^24)(h:∀(h':Heap)(tk:Nat),(∀b o,b≠I->s.heap.get? b=some o->h'.get? b=some o)->s.heap.objs.size<h'.objs.size->Q (.ref h'.objs.size) {s with heap:=h'.push {cls:=.type "tuple",data:=.seq items.reverse},toks:=tk}):wpAny (model prog w) A (call (.type "tuple") [.ref I]) Q E s:=callType_new F.called_tuple (by decide) (F.typeCall_tuple_1 _) (F.newCall_tuple_1 _) (fun obj=>F.args_object_init_2 obj _) F.entry_tuple_new (iz I l items hne hsz) ⟨hh,hit,hl,fun h' tk hk hlt acc e=>by subst e;exact⟨⟨_,get?_push_size _ rfl,rfl⟩,h h' tk hk hlt⟩⟩
end
end PySem
namespace L2
open PySem PySem.Spec PyProof.Rows
section
variable{X:Cx}{pins:List (Addr×Obj)}{σ:St}{H:Hp}{s:Shared}{E:Value->Shared->Prop}
theorem yd{a:Expr}{ta:TE}{p pos p2 pos2:Pos}(hc:X.calm=true)(hgL:Gl X "tuple")(hmL:X.mg "tuple"=none)(hg:Gl X "reversed")(hm:X.mg "reversed"=none)(ha:PE X a ta)(hs:starEach [a] X.env=[(false,eval a X.env)]:=by rfl)(hs2:starEach [.Call (.Name "reversed" p) [a] [] pos] X.env=[(false,eval (.Call (.Name "reversed" p) [a] [] pos) X.env)]:=by rfl):PE X (.Call (.Name "tuple" p2) [.Call (.Name "reversed" p) [a] [] pos] [] pos2) (fun σ H Q=>ta σ H fun x H1=>∃ad xs,x=.ref ad/\dG X.K H1 ad xs/\∀l,H1 l=none->Q (.ref l) (upd H1 l (.tup xs.reverse))):=by
 intro pins s σ H Q I h;refine Call_ (iT I hgL hmL vz (PyProof.Rows.callWith_type1 ?_ hs2 rfl));rw[hs2];show wpAny _ _ (spliced ((false,eval (.Call (.Name "reversed" p) [a] [] pos) X.env)::[])) _ _ _;refine Calls.spliced_cons (Call_ (iT I hg hm oX (PyProof.Rows.callWith_type1 (bH ((cB ha dZ hs) pos pins s σ H (fun vs H1=>match vs with|[x]=>∃ad xs,x=.ref ad/\dG X.K H1 ad xs/\∀l,H1 l=none->Q (.ref l) (upd H1 l (.tup xs.reverse))|_=>False) I h) ?_) hs rfl)));rintro us s1⟨vs,H1,I1,r1,q1⟩;obtain⟨ad,xs,hq,q,vs1⟩:∃ad xs,dG X.K H1 ad xs/\(∀l,H1 l=none->Q (.ref l) (upd H1 l (.tup xs.reverse)))/\vs=[.ref ad]:=by cases vs with|nil=>cases q1|cons x r=>cases r with|nil=>obtain⟨ad,xs,rfl,q,q'⟩:=q1;exact⟨ad,xs,q,q',rfl⟩|cons _ _=>cases q1
 subst vs1;obtain⟨u,rfl,ru⟩:=r1.one;cases ru;obtain⟨its,rv,pl,hz⟩:=I1.list hq;have hsz:its.toArray.size=xs.length:=by rw[size_toArray,<-rv.length]
 refine call_reversed_list pl.isList (Calls.spliced_nil ?_);have hne:ad≠s1.heap.objs.size:=ne_of_lt (let⟨_,ho,_⟩:=pl.isList;lt_size ho);have hl2:(s1.heap.push (revObj ad ((its.toArray.size:Int)-1))).IsList ad its.toArray:=pl.isList.at fun o e=>get?_push_of_some _ e;refine nC (I1.ok.hd hc) (I:=s1.heap.objs.size) (l:=ad) (items:=its.toArray) ⟨_,get?_push_size _ rfl,rfl,rfl⟩ hl2 hne (by rw[hsz];exact le_trans hz (by decide)) fun h' tk hk hlt=>?_;have hsz2:(s1.heap.push (revObj ad ((its.toArray.size:Int)-1))).objs.size=s1.heap.objs.size+1:=size_push ..;dsimp only at hk hlt ⊢;rw[hsz2]at hlt;have er:its.toArray.reverse=its.reverse.toArray:=by simp
 rw[er];refine⟨.ref h'.objs.size,_,I1.laid (t':=tk) (o:=.tup xs.reverse) (h':=h'.push {cls:=.type "tuple",data:=.seq its.reverse.toArray}) (fun b o e=>get?_push_of_some _ (hk b o (ne_of_lt (lt_size e)) (get?_push_of_some _ e))) (by omega) ?_,rfl,q _ (I1.hok.fresh (by omega))⟩;exact⟨by rw[List.length_reverse];exact hz,_,rv.reverse,IsTup.new _ _⟩
end
end L2
namespace HH
open PySem L2 PySem.Spec PyProof.Rows
section
variable{X:Cx}{c:Call}{a:Expr}{pa:P}{pos:Pos}
theorem yh{x y:Str}{p' q' pos':Pos}(hy:y="tuple")(hx:x="reversed")(hc:X.calm=true)(hgL:Gl X y)(hmL:X.mg y=none)(hg:Gl X x)(hm:X.mg x=none)(ha:SX X c a pa)(hs:starEach [a] X.env=[(false,eval a X.env)]:=by rfl)(hs2:starEach [.Call (.Name x p') [a] [] pos] X.env=[(false,eval (.Call (.Name x p') [a] [] pos) X.env)]:=by rfl):SX X c (.Call (.Name y q') [.Call (.Name x p') [a] [] pos] [] pos') (.blt .rvT [pa]):=by subst hx hy;obtain⟨ta,h1,h2⟩:=ha.bY;refine⟨cY (yd hc hgL hmL hg hm h1 hs hs2) ?_,fun i h=>by cases h⟩;rintro σ H Q⟨F,ρ,r,ρ',g,e,k⟩;rw[HH.E16]at e;obtain⟨d,ρ2,e1,e2⟩:=aa e;have zz:=aF e2;clear e2;obtain⟨e2,e3⟩:=zz;subst e3;cases d with|lst ds=>cases e2;refine h2 g e1 ?_;rintro v F' H' s pv;obtain⟨ad,xs,rfl,hq,rs⟩:=pv.lst s.gs.sub;exact⟨ad,xs,rfl,hq,fun l hl=>Dj s.gs.sub (aC.rev rs) hl fun v F2 H2 xt rn=>k v F2 H2 (s.trans (xt.stp s.gs)) (.later s (rn.nG s.gs))⟩|_=>cases e2
end
end HH
end
section
namespace L2
open PySem PySem.Spec PyProof.Rows PySem.Calls
section
variable{X:Cx}
theorem Hk:WX X (W6 X.K):=by
 intro pins s σ H x y v u Q I rx ry h;obtain⟨p,xs,i,z,rfl,rfl,hq,he,q⟩:=h;cases rx;obtain⟨t,rfl⟩:=ry;obtain⟨its,r,pl,hz⟩:=I.list hq;obtain⟨j,h1,h2,h3,h4,h5⟩:=tV he;obtain⟨w,ew,wW⟩:=r.get h2;have hl:=r.length;have hn:=qe;have fin:EP X pins σ Q w s:=⟨z,H,I,wW,q⟩;by_cases h0:0<=i
 . have hj:i.toNat=j:=by rw[seqIndex_of h0 h5]at h1;exact Option.some.inj h1
   exact wpAny_getItem_list pl.isList h0 (by omega) (by rw[hj];simpa using ew) fin
 . have hj:(i+(its.toArray.size:Int)).toNat=j:=by rw[seqIndex_neg (by omega) h4]at h1;rw[size_toArray,<-hl];exact Option.some.inj h1
   exact wpAny_getItem_list_neg pl.isList (by omega) (by rw[size_toArray]<;>omega) (by omega) (by rw[hj];simpa using ew) fin
end
end L2
namespace HH
open PySem L2 PySem.Spec PyProof.Rows PySem.Calls PySem.W
section
variable{X:Cx}{c:Call}{n:Nat}{a b e:Expr}{pa pb p:P}{pos:Pos}
set_option maxHeartbeats 800000 in
theorem Be{k e:Int}{t1 t2 p1 p2 p3}:SX X c (.Dict [some (.Constant (.int k) t1 p1)] [.Constant (.int e) t2 p2] p3) (.yU k e):=by
 refine⟨?_,fun i h=>by cases h⟩;intro pins s σ H Q I h;obtain⟨F,ρ,r,ρ',g,e',kk⟩:=h;rw[HH.E26]at e';cases e';have em:lW [] [((Sum.inl k:Key),V.int e)]=ent [k] [.int e]:=rfl;have pe:=JV (X:=X) (pos:=p3) (Gg (yN (i:=k) (j:=t1) (pos:=p1)) (yN (i:=e) (j:=t2) (pos:=p2)) J3) rfl rfl (by simp) (by simp);refine bH (pe pins s σ H (fun v H'=>∃q,v=.ref q/\H q=none/\H'=upd H q (Ab [k] [.int e])) I ?_) fun u s1⟨v,H1,I1,r1,q,e1,hn,e2⟩=>?_;.intro q hq;refine⟨aJ,[(Sum.inl k,.int e)],rfl,by simp,q,rfl,hq,?_⟩;rw[Ao,em];rfl
 subst e1 e2;obtain⟨o,I2⟩:=Inv.Ey I1 (a:=q) (kvs:=ent [k] [.int e]) aJ;rw[Ao]at I2;have fp:F q=none:=by cases z:F q with|none=>rfl|some o=>rw[g.sub q o z]at hn;cases hn
 have sm:aH F (upd F q (.cN o (Ab [k] [.int e]))):=aH.bU fp;refine⟨.ref q,_,I2,r1,kk _ (upd F q (.cN o (Ab [k] [.int e]))) _ (Ext.stp g ⟨aH.bU hn,sm,fun b o e=>?_,fun b n n'=>?_⟩) ?_⟩
 . by_cases hb:b=q;.subst hb;rw[aJ]at e ⊢;exact e
   .rw[aA hb]at e ⊢;exact g.sub b o e
 . by_cases hb:b=q;.subst hb;exact ju hn
   .rw[aA hb]at n';exact absurd n n'
 .show Rep X.K _ _ (.dv [k] [.int e]);rw[Rep];exact⟨q,o,[.int e],rfl,aJ,.cons (bz _) .nil,rfl⟩
theorem J7{x:Str}{k:Nat}{px tpos:Pos}{op:Operator}{sub:Bool}(ho:YC X op (ipI fun i j=>if sub then i-j else i+j))(hN:X.N[k]?=some x)(hv:xm X.env.scope x)(hi:SX X c b pb)(he:SX X c e p)(ha:∀ov iv new,augStore b ov iv new=(do holding [new,ov,iv] (setItem ov iv new);release [new,ov,iv] [];pure .next):=by intros;rfl)(hd:(x==("__debug__":Str))=false:=by decide)(hcd:(x==("__classdict__":Str))=false:=by decide):SS X c n (.AugAssign (.Subscript (.Name x px) b tpos) op e pos) (.HX k pb sub p):=by
 obtain⟨ti,hi1,hi2⟩:=hi.bY;obtain⟨te,he1,he2⟩:=he.bY;refine dD (IK (du hN hv hd hcd) hi1 Hk he1 ho set_list ha) ?_;rintro D σ H⟨F,ρ,fl,ρ',g,e,kk⟩;rw[HH.X14]at e;obtain⟨x0,ρ0,e0',eA⟩:=aa e;clear e;obtain⟨e0,Ie⟩:=aF e0';clear e0';subst Ie;obtain⟨dk,ρ1,e1,eB⟩:=aa eA;clear eA;obtain⟨l,ρ2,e2',eC⟩:=aa eB;clear eB;obtain⟨e2,e21⟩:=aF e2';clear e2';subst e21;obtain⟨ra,ρ3,e3',eD⟩:=aa eC;clear eC;obtain⟨e3,e31⟩:=aF e3';clear e3';subst e31;obtain⟨db,ρ4,e4,eE⟩:=aa eD;clear eD;obtain⟨o1,xs1,ho1,_⟩:=zp g e0;refine⟨.ref o1,ho1,hi2 g e1 fun vi F1 H1 s1 pi=>?_⟩;split at eE
 . rename_i u v bb ds kz q;split at eE
   . rename_i j hj;cases eE;obtain⟨i0,f3,f5⟩:=bI e3;have hi0:i0=kz:=by cases f3;rfl
     subst hi0;have e2':pk ρ1 k=some (.lst l):=by
      unfold Dw at e2;split at e2;.rename_i z;cases e2;exact z
      .cases e2
     obtain⟨o',ho2,po⟩:=s1.gs.pk e2';rw[ho1]at ho2;cases ho2;obtain⟨ad,xs,hr,hL,rs⟩:=po.lst s1.gs.sub;cases hr;obtain⟨j0,h1,h2⟩:=Fj f5;obtain⟨w,h3,h4⟩:=rs.get h2;have hat:Gk xs i0=some w:=by unfold Gk;rw[rs.length,h1];exact h3
     have hw:w=.int u:=by rw[Rep]at h4;exact h4
     subst hw;refine⟨o1,xs,i0,.int u,rfl,pi.int,hL,hat,he2 s1.gs e4 fun vb F2 H2 s2 pb=>⟨u,v,rfl,pb.int,?_⟩⟩;obtain⟨ad2,zs,z1,z2,z3,z4⟩:=s2.gs.qp k _ ds q rfl;rw[ho1]at z1;cases z1;refine⟨o1,zs,i0,j,rfl,pi.int,z2,by rw[z4.length];exact hj,?_⟩;exact kk F2 σ _ ((s1.trans s2).trans (s2.gs.mut q ho1 (z4.set (bz _) j)))
   .cases eE
 .cases eE
end
section
variable{X:Cx}{c:Call}{n:Nat}{a b e:Expr}{pa pb p:P}{pos:Pos}
theorem KZ{neg:Bool}{o:Op}{op:CmpOp}(hop:(op=.In/\neg=false)\/(op=.NotIn/\neg=true))(hq:oh o=vH neg)(hu:X.A.units+8<cLine)(ha:SX X c a pa)(hb:SX X c b pb)(hm:behindInMarks op b=false):ST X c (.Compare a [op] [b] pos) (.bin o pa pb):=by obtain⟨ta,tb,h1,h2,h3⟩:=ha.gb hb;refine rJ (Ay (JG hop hu) h1 h2 hm) fun σ H Q q=>jO (t:=Pu (rD X.K (vH neg)) ta tb) (fun Q z=>?_) q;obtain⟨F,ρ,r,ρ',g,e,k⟩:=z;rw[HH.E3]at e;obtain⟨xy,ρ1,e1,e2⟩:=aa e;have zz:=aF e2;clear e2;obtain⟨e2,e3⟩:=zz;subst e3;rw[hq]at e2;refine h3 g e1 fun v u F' H' s pv pu=>⟨F',xy.1,xy.2,r,s.gs.sub,pv,pu,e2,fun w F2 H2 x rn=>?_⟩;exact k w F2 H2 (s.trans (x.stp s.gs)) (.later s (rn.nG s.gs))
theorem Qy(hu:X.A.units+8<cLine)(ha:SX X c a pa)(hb:SX X c b pb)(hm:behindInMarks .In b=false):ST X c (.Compare a [.In] [b] pos) (.bin .din pa pb):=KZ (.inl ⟨rfl,rfl⟩) rfl hu ha hb hm
theorem Ot{i:Nat}{x:Str}{px:Pos}{pk:P}{neg:Bool}{op:CmpOp}(hop:(op=.In/\neg=false)\/(op=.NotIn/\neg=true))(hu:X.A.units+8<cLine)(hN:X.N[i]?=some x)(hv:xm X.env.scope x)(ha:SX X c a pk)(hb:behindInMarks op (.Name x px)=false)(hd:(x==("__debug__":Str))=false:=by decide)(hcd:(x==("__classdict__":Str))=false:=by decide):ST X c (.Compare a [op] [.Name x px] pos) (.Ob i pk neg):=rJ (QD (PK hop hu hN hv ha hd hcd) hb) fun σ H Q q=>jO (fun _ z=>z) q
end
end HH
end
section
set_option maxHeartbeats 4000000
namespace T
open PySem L2 PySem.Spec PyProof.Rows HH
local macro_rules|`(term|nofun)=>`(⟨rfl,rfl,rfl,by decide+kernel,rfl,by decide+kernel,by decide+kernel⟩)
local macro_rules|`(tactic|exists$e)=>`(tactic|with_reducible refine$e)
local macro_rules|`(tactic|lia)=>`(tactic|with_reducible refine aN ?_ ?_)
set_option hygiene false
local macro_rules|`(tactic|exists$i,$e)=>`(tactic|((with_reducible refine tO (i:=$i) ?_ ?_ ?_ ?_ ?_ ?_);exact nd;exact rfl;exact oi;rotate_left;rfl;exact oi;exact$e))
local macro_rules|`(tactic|exists$i,$e,0)=>`(tactic|((with_reducible refine zV (i:=$i) ?_ ?_ ?_ ?_ ?_ ?_ ?_ ?_ ?_);exact PassesOwn.never;exact hc;exact nd;exact rfl;exact oi;exact$e;rotate_left;(· intro _;rfl);exact oi))
local macro_rules|`(tactic|exists$a,$b,0,0)=>`(tactic|(refine WW $a $b rfl rfl fun cdv A outer s H E hr=>?_;have nd:=($b).nd))
local macro_rules|`(tactic|exists(),$e)=>`(tactic|((with_reducible refine Tc ?_);exact$e))
set_option hygiene true
local macro_rules|`(term|‹$l›)=>`((show(($l):List Str).Nodup by decide+kernel))
theorem hc:true=true:=rfl
theorem oi{α:Type}{a:α}{p:Prop}:a=a\/p:=.inl rfl
theorem bh{X:Cx}{c:Call}{a:Expr}{es:List Expr}{pa:P}{ps:List P}(ha:SX X c a pa)(hr:SG X c es ps)(h:nst a=true):SG X c (a::es) (pa::ps):=JP ha hr (gP h)
theorem fO{X:Cx}{c:Call}{a:Expr}{es:List Expr}{pa:P}{ps:List P}(ha:SX X c a pa)(hr:SA X c es ps)(h:nst a=true):SA X c (a::es) (pa::ps):=Bl ha hr (gP h)
variable{Pg:Program}{w:World}{K:PySem.W.Frag}{mg:Str->Option Value}{base:Heap}{f:Addr}{fd:FuncData}{k n:Nat}{c:Call}{cl:Nat->Addr}
noncomputable def top(i:Nat):Stmt:=PySem.Challenge.pw_hourhaul_k45_gains_of_hours.main.body.getD i (.Pass ⟨0,0,0,0⟩)
noncomputable abbrev s0:=top 1
noncomputable def b0:List S:=[.asg 2 (.idx (.idx (.var 0) (.con (.int 1))) (.idx (.var 1) (.con (.int 0)))),.ret (.N8 (.idx (.var 1) (.con (.int 1))) (.tup [.idx (.var 2) (.con (.int 0)),.idx (.var 2) (.con (.int 1))]) (.tup [.idx (.var 2) (.con (.int 1)),.idx (.var 2) (.con (.int 0))]))]
noncomputable def f0:Fd:=⟨2,3,b0⟩
theorem sc0:aL ["net","step","way"] ["net","step"] (aB s0):=nofun
include cl in
theorem d0(Fu:il K "step_places" "step_places" s0 f fd):bW Pg w K mg base gW (k+1) f fd ["net","step"] (ik K 2 (fun args=>enter c n f0 args)):=by
 exists Fu,sc0,0,0;refine aN ?_ ?_;.exists 2,aG (aG (sv 0) aj) (aG (sv 1) aj)
 lia;.exists(),tW (jL (aG (sv 1) aj)) (dB (fO (aG (sv 2) aj) (fO (aG (sv 2) aj) bw rfl) rfl)) (dB (fO (aG (sv 2) aj) (fO (aG (sv 2) aj) bw rfl) rfl))
 exact az
noncomputable abbrev s1:=top 2
noncomputable def b1:List S:=[.asg 2 (.idx (.idx (.idx (.var 0) (.con (.int 1))) (.idx (.var 1) (.con (.int 0)))) (.con (.int 3))),.ret (.N8 (.idx (.var 1) (.con (.int 1))) (.var 2) (.neg (.var 2)))]
noncomputable def f1:Fd:=⟨2,3,b1⟩
theorem sc1:aL ["net","step","hours"] ["net","step"] (aB s1):=nofun
include cl in
theorem d1(Fu:il K "step_hours" "step_hours" s1 f fd):bW Pg w K mg base gW (k+1) f fd ["net","step"] (ik K 2 (fun args=>enter c n f1 args)):=by
 exists Fu,sc1,0,0;refine aN ?_ ?_;.exists 2,aG (aG (aG (sv 0) aj) (aG (sv 1) aj)) aj
 lia;.exists(),tW (jL (aG (sv 1) aj)) (sv 2) (FZ (sv 2))
 exact az
noncomputable abbrev s2:=top 3
noncomputable def b2:List S:=[.asg 3 (.idx (.var 1) (.idx (.var 2) (.con (.int 0)))),.ret (.N8 (.idx (.var 2) (.con (.int 1))) (.bin .sub (.idx (.idx (.idx (.var 0) (.con (.int 1))) (.idx (.var 2) (.con (.int 0)))) (.con (.int 2))) (.var 3)) (.var 3))]
noncomputable def f2:Fd:=⟨3,4,b2⟩
theorem sc2:aL ["net","stream","step","loads"] ["net","stream","step"] (aB s2):=nofun
include cl in
theorem d2(Fu:il K "step_room" "step_room" s2 f fd):bW Pg w K mg base gW (k+1) f fd ["net","stream","step"] (ik K 3 (fun args=>enter c n f2 args)):=by
 exists Fu,sc2,0,0;refine aN ?_ ?_;.exists 3,aG (sv 1) (aG (sv 2) aj)
 lia;.exists(),tW (jL (aG (sv 2) aj)) (ao cg (aG (aG (aG (sv 0) aj) (aG (sv 2) aj)) aj) (sv 3)) (sv 3)
 exact az
noncomputable abbrev s3:=top 4
noncomputable def b3:List S:=[.ret (.blt .sum [.comp (.var 1) 1 [2] true none (.call 1 [.var 0,.var 2])])]
noncomputable def f3:Fd:=⟨2,2,b3⟩
theorem sc3:aL ["net","steps"] ["net","steps"] (aB s3):=nofun
include cl in
theorem d3(Fu:il K "steps_hours" "steps_hours" s3 f fd)(lM:mg "sum"=none)(gU:au Pg w K mg base k c 1 "step_hours" 2):bW Pg w K mg base gW (k+1) f fd ["net","steps"] (ik K 2 (fun args=>enter c n f3 args)):=by
 exists Fu,sc3,0,0;refine aN ?_ ?_;.exists(),xJ rfl hc (by rfl) lM (fB (N':=["net","steps","step"]) hc (JF rfl (by rfl)) (cT (sv 1)) (fun _ _ _ _ _=>aY (i:=2) ‹["net","steps","step"]› rfl (Or.inl rfl) (Or.inr rfl)) (gk (le_refl _)) (fun _ _ _ _ _=>ji) (fun _ _ _ _ _=>(cZ gU hr (bh (sv 0) (bh (sv 2) aD rfl) rfl))))
 exact az
noncomputable abbrev s4:=top 5
noncomputable def b4:List S:=[.Ia 2 (.wU (.con (.int 0)) (.idx (.var 0) (.con (.int 0)))) 1 [5] true (.lst []),.Dp (.wU (.con (.int 0)) (.blt .len [.idx (.var 0) (.con (.int 1))])) [3] true [.Dp (.tup [.tup [.var 3,.con (.bl true)],.tup [.var 3,.con (.bl false)]]) [4] true [.ifs (.cmp .gt (.call 2 [.var 0,.var 1,.var 4]) (.con (.int 0))) [.Ib 2 (.idx (.call 0 [.var 0,.var 4]) (.con (.int 0))) (.var 4)] []]],.cN 2,.ret (.var 2)]
noncomputable def f4:Fd:=⟨2,5,b4⟩
theorem sc4:aL ["net","stream","steps","number","step"] ["net","stream"] (aB s4):=nofun
include cl in
theorem d4(Fu:il K "open_steps" "open_steps" s4 f fd)(gq:mg "len"=none)(bO:mg "range"=none)(cP:au Pg w K mg base k c 0 "step_places" 2)(jb:au Pg w K mg base k c 2 "step_room" 3):bW Pg w K mg base gW (k+1) f fd ["net","stream"] (ik K 2 (fun args=>enter c n f4 args)):=by exists Fu,sc4,0,0;exact(by(refine J6 (i:=2) (N':=["net","stream","steps","number","step","place"]) (g:=iW 5) ?_ ?_ ?_ ?_ ?_ ?_ ?_ ?_ ?_ ?_ ?_ ?_ ?_ ?_);exact hc;exact nd;exact rfl;exact oi;exact JF rfl (by rfl);exact j9 rfl (by rfl) bO (aG (sv 0) aj);exact(fun _ _ _ _ _=>aY (i:=5) ‹["net","stream","steps","number","step","place"]› rfl (Or.inl rfl) (Or.inr rfl));exact gk (le_refl _);exact(fun _ _ _ _ _=>ji);exact(fun _ _ _ _ _=>(dz bw));(· exists FN ?_ ?_;(· exists zm (g:=iW 3) ?_ ?_ ?_ ?_ ?_ ?_ ?_;exact PassesOwn.never;exact hc;(· exists G3 ?_ ?_ ?_ ?_ ?_;exact rfl;rfl;exact bO;exact pF rfl (by rfl) gq (aG (sv 0) aj);rfl);exact aY (i:=3) nd rfl oi oi;(· rw[lU];exact uw 3);(· exists pH ?_ ?_;(· exists zm (g:=iW 4) ?_ ?_ ?_ ?_ ?_ ?_ ?_;exact PassesOwn.never;exact hc;exact Kh (dB (fO (dB (fO (sv 3) (fO jD bw rfl) rfl)) (fO (dB (fO (sv 3) (fO jD bw rfl) rfl)) bw rfl) rfl));exact aY (i:=4) nd rfl oi oi;(· rw[lU];exact uw 4);(· exists pH ?_ ?_;(· exists Qq ?_ ?_ ?_;exact bK tL (cZ jb hr (bh (sv 0) (bh (sv 1) (bh (sv 4) aD rfl) rfl) rfl)) aj (bJ _);(· exists pH ?_ ?_;(· exists Gb (k:=2) ?_ ?_ ?_ ?_ ?_ ?_ ?_ ?_ ?_ ?_ ?_ ?_;exact rfl;(· first|exact Or.inl rfl|exact Or.inr (Or.inl rfl));exact aG (cZ cP hr (bh (sv 0) (bh (sv 4) aD rfl) rfl)) aj;exact sv 4;(· intro _ _;rfl);rfl;rfl;rfl;rfl;rfl;rfl;rfl);exact oE);exact oE);exact oE);(· intro _;rfl));exact oE);(· intro _;rfl));(· exists KD ?_;(· lia;(· exists(),sv 2);exact az)));rfl;(· intro _;rfl);exact oi)
noncomputable abbrev s5:=top 6
noncomputable def b5:List S:=[.asg 3 (.call 4 [.var 0,.var 1]),.Dq 4,.iZ (.blt .keys [.var 2]) [5] true [.fL 4 (.var 5) (.tup [.bin .Dl (.var 2) (.var 5),.con (.int 0),.con .non])],.asg 6 (.blt .Vm [.var 2]),.whl (.cmp .gt (.blt .len [.var 6]) (.con (.int 0))) [.Dq 7,.iZ (.var 6) [5] true [.iZ (.idx (.var 3) (.var 5)) [8] true [.asg 9 (.idx (.call 0 [.var 0,.var 8]) (.con (.int 1))),.asg 10 (.tup [.bin .add (.idx (.Oa 4 (.var 5)) (.con (.int 0))) (.call 1 [.var 0,.var 8]),.bin .add (.idx (.Oa 4 (.var 5)) (.con (.int 1))) (.con (.int 1))]),.ifs (.or (.Ob 4 (.var 9) true) (.cmp .lt (.var 10) (.slice (.Oa 4 (.var 9)) (.con .non) (.con (.int 2))))) [.fL 4 (.var 9) (.bin .add (.var 10) (.tup [.var 8])),.fL 7 (.var 9) (.con (.bl true))] []]],.asg 6 (.blt .Vm [.vw 7])],.ret (.var 4)]
noncomputable def f5:Fd:=⟨3,11,b5⟩
theorem sc5:aL ["net","stream","begun","steps","come","place","row","changed","step","to","found"] ["net","stream","begun"] (aB s5):=nofun
include cl in
theorem d5(Fu:il K "shortest_come" "shortest_come" s5 f fd)(gq:mg "len"=none)(jV:mg "list"=none)(uG:au Pg w K mg base k c 4 "open_steps" 2)(gU:au Pg w K mg base k c 1 "step_hours" 2)(cP:au Pg w K mg base k c 0 "step_places" 2):bW Pg w K mg base gW (k+1) f fd ["net","stream","begun"] (ik K 3 (fun args=>enter c n f5 args)):=by
 exists Fu,sc5,0,0;refine aN ?_ ?_;.exists 3,cZ uG hr (bh (sv 0) (bh (sv 1) aD rfl) rfl)
 lia;.exact(zK (i:=4) nd rfl oi (by rfl) (Or.inl rfl))
 lia;.exists 5,J1 (sv 2),0;(· lia;exact uo (i:=4) (bA hr) rfl (by first|exact Or.inl rfl|exact Or.inr (Or.inl rfl)) (sv 5) (dB (fO (sV (bA hr) (sv 2) (sv 5) (fun _ _=>rfl)) (fO aj (fO oK bw rfl) rfl) rfl)) (by rfl);exact az)
 lia;.exists 6,Gd rfl hc (by rfl) jV (sv 2)
 lia;.exact(xU PassesOwn.never (bK tL (pF rfl (by rfl) gq (sv 6)) aj (bJ _)) (by lia;exact zK (i:=7) nd rfl oi (by rfl) (Or.inl rfl);(· lia;(· exists 5,cT (sv 6),0;(· lia;(· exists 8,cT (aG (sv 3) (sv 5)),0;(· lia;(· exists 9,aG (cZ cP hr (bh (sv 0) (bh (sv 8) aD rfl) rfl)) aj);(· lia;(· exists 10,dB (fO (ao aR (aG (yG (i:=4) (bA hr) rfl (by first|exact Or.inl rfl|exact Or.inr (Or.inl rfl)) (sv 5) (fun _ _=>rfl)) aj) (cZ gU hr (bh (sv 0) (bh (sv 8) aD rfl) rfl))) (fO (ao aR (aG (yG (i:=4) (bA hr) rfl (by first|exact Or.inl rfl|exact Or.inr (Or.inl rfl)) (sv 5) (fun _ _=>rfl)) aj) aj) bw rfl) rfl));(· lia;(· exists gh ?_ ?_ ?_;exact SW.st (qL (Ot (i:=4) (Or.inr ⟨rfl,rfl⟩) (bA hr) rfl (by first|exact Or.inl rfl|exact Or.inr (Or.inl rfl)) (sv 9) (by with_unfolding_all rfl)) (uz (bK (HF (bA hr)) (sv 10) (vg (yG (i:=4) (bA hr) rfl (by first|exact Or.inl rfl|exact Or.inr (Or.inl rfl)) (sv 9) (fun _ _=>rfl)) zq (zZ aj)) (bJ _))));(· lia;exact uo (i:=4) (bA hr) rfl (by first|exact Or.inl rfl|exact Or.inr (Or.inl rfl)) (sv 9) (ao aR (sv 10) (dB (fO (sv 8) bw rfl))) (by rfl);(· lia;exact uo (i:=7) (bA hr) rfl (by first|exact Or.inl rfl|exact Or.inr (Or.inl rfl)) (sv 9) jD (by rfl);exact az));exact az);exact az))));exact az));(· lia;(· exists 6,Gd rfl hc (by rfl) jV (MK (i:=7) rfl (by first|exact Or.inl rfl|exact Or.inr (Or.inl rfl))));exact az))))
 lia;.exists(),sv 4
 exact az
noncomputable abbrev s6:=top 7
noncomputable def b6:List S:=[.asg 3 (.lst []),.asg 4 (.var 2),.whl (.cmp .Dm (.idx (.bin .Dl (.var 1) (.var 4)) (.con (.int 2))) (.con .non)) [.asg 5 (.idx (.bin .Dl (.var 1) (.var 4)) (.con (.int 2))),.app 3 (.var 5),.asg 4 (.idx (.call 0 [.var 0,.var 5]) (.con (.int 0)))],.ret (.blt .rvT [.var 3])]
noncomputable def f6:Fd:=⟨3,6,b6⟩
theorem sc6:aL ["net","come","place","steps","here","step"] ["net","come","place"] (aB s6):=nofun
include cl in
theorem d6(Fu:il K "steps_to" "steps_to" s6 f fd)(jW:mg "reversed"=none)(dM:mg "tuple"=none)(cP:au Pg w K mg base k c 0 "step_places" 2):bW Pg w K mg base gW (k+1) f fd ["net","come","place"] (ik K 3 (fun args=>enter c n f6 args)):=by
 exists Fu,sc6,0,0;refine aN ?_ ?_;.exists 3,dz bw
 lia;.exists 4,sv 2
 lia;.exact(xU PassesOwn.never (bK sO (aG (sV (bA hr) (sv 1) (sv 4) (fun _ _=>rfl)) aj) oK (bJ _)) (by lia;(· exists 5,aG (sV (bA hr) (sv 1) (sv 4) (fun _ _=>rfl)) aj);(· lia;exact fj (k:=3) rfl (by first|exact Or.inl rfl|exact Or.inr (Or.inl rfl)) (sv 5);(· lia;(· exists 4,aG (cZ cP hr (bh (sv 0) (bh (sv 5) aD rfl) rfl)) aj);exact az))))
 lia;.exists(),yh rfl rfl hc (by rfl) dM (by rfl) jW (sv 3)
 exact az
noncomputable abbrev s7:=top 8
noncomputable def b7:List S:=[.asg 3 (.blt .list [.var 0]),.iZ (.var 1) [4,5] false [.HX 3 (.var 4) false (.N8 (.var 5) (.var 2) (.neg (.var 2)))],.ret (.var 3)]
noncomputable def f7:Fd:=⟨3,6,b7⟩
theorem sc7:aL ["stream","steps","loads","changed","number","forth"] ["stream","steps","loads"] (aB s7):=nofun
include cl in
theorem d7(Fu:il K "stream_with" "stream_with" s7 f fd)(jV:mg "list"=none):bW Pg w K mg base gW (k+1) f fd ["stream","steps","loads"] (ik K 3 (fun args=>enter c n f7 args)):=by
 exists Fu,sc7,0,0;refine aN ?_ ?_;.exists 3,Ld rfl (by rfl) jV (sv 0)
 lia;.exact(uc PassesOwn.never hc (cT (sv 1)) (mq hc (bM (aY (i:=4) nd rfl oi oi) (bM (aY (i:=5) nd rfl oi oi) jg))) (yP rfl (fc _ _ (fc _ _ uf 5) 4)) (by lia;exact J7 (k:=3) (sub:=false) JK rfl (by first|exact Or.inl rfl|exact Or.inr (Or.inl rfl)) (sv 4) (tW (jL (sv 5)) (sv 2) (FZ (sv 2)));exact az))
 lia;.exists(),sv 3
 exact az
noncomputable abbrev s8:=top 9
noncomputable def b8:List S:=[.asg 1 (.bin .sub (.idx (.var 0) (.con (.int 0))) (.con (.int 1))),.asg 2 (.bin .mul (.lst [.con (.int 0)]) (.blt .len [.idx (.var 0) (.con (.int 1))])),.asg 3 (.lst []),.asg 4 (.call 5 [.var 0,.var 2,.yU 0 0]),.whl (.bin .din (.var 1) (.var 4)) [.asg 5 (.call 6 [.var 0,.var 4,.var 1]),.asg 6 (.blt .Dn [.comp (.var 5) 1 [7] true none (.call 2 [.var 0,.var 2,.var 7])]),.app 3 (.tup [.var 5,.var 6]),.asg 2 (.call 7 [.var 2,.var 5,.var 6]),.asg 4 (.call 5 [.var 0,.var 2,.yU 0 0])],.ret (.var 3)]
noncomputable def f8:Fd:=⟨1,7,b8⟩
theorem sc8:aL ["net","end","stream","chains","come","steps","loads"] ["net"] (aB s8):=nofun
include cl in
theorem d8(Fu:il K "chains_to_end" "chains_to_end" s8 f fd)(gq:mg "len"=none)(jG:mg "min"=none)(gZ:au Pg w K mg base k c 5 "shortest_come" 3)(jb:au Pg w K mg base k c 2 "step_room" 3)(zb:au Pg w K mg base k c 6 "steps_to" 3)(qz:au Pg w K mg base k c 7 "stream_with" 3):bW Pg w K mg base gW (k+1) f fd ["net"] (ik K 1 (fun args=>enter c n f8 args)):=by
 exists Fu,sc8,0,0;refine aN ?_ ?_;.exists 1,ao cg (aG (sv 0) aj) aj
 lia;.exists tO (i:=2) ?_ ?_ ?_ ?_ ?_ ?_;exact nd;exact rfl;exact Or.inr rfl;rotate_left;rfl;exact oi;exact ao dH (dz (fO aj bw rfl)) (pF rfl (by rfl) gq (aG (sv 0) aj))
 lia;.exists 3,dz bw
 lia;.exists 4,cZ gZ hr (bh (sv 0) (bh (sv 2) (bh Be aD rfl) rfl) rfl)
 lia;.exact(xU PassesOwn.never (Qy (bA hr) (sv 1) (sv 4) (by with_unfolding_all rfl)) (by lia;(· exists 5,cZ zb hr (bh (sv 0) (bh (sv 4) (bh (sv 1) aD rfl) rfl) rfl));(· lia;(· exists 6,zx rfl hc (by rfl) jG (fB (N':=["net","end","stream","chains","come","steps","loads","step"]) hc (JF rfl (by rfl)) (cT (sv 5)) (fun _ _ _ _ _=>aY (i:=7) ‹["net","end","stream","chains","come","steps","loads","step"]› rfl (Or.inl rfl) (Or.inr rfl)) (gk (le_refl _)) (fun _ _ _ _ _=>ji) (fun _ _ _ _ _=>(cZ jb hr (bh (sv 0) (bh (sv 2) (bh (sv 7) aD rfl) rfl) rfl)))));(· lia;exact fj (k:=3) rfl (by first|exact Or.inl rfl|exact Or.inr (Or.inl rfl)) (dB (fO (sv 5) (fO (sv 6) bw rfl) rfl));(· lia;(· exists tO (i:=2) ?_ ?_ ?_ ?_ ?_ ?_;exact nd;exact rfl;exact Or.inr rfl;rotate_left;rfl;exact oi;exact cZ qz hr (bh (sv 2) (bh (sv 5) (bh (sv 6) aD rfl) rfl) rfl));(· lia;(· exists 4,cZ gZ hr (bh (sv 0) (bh (sv 2) (bh Be aD rfl) rfl) rfl));exact az))))))
 lia;.exists(),sv 3
 exact az
noncomputable abbrev s9:=top 11
noncomputable def b9:List S:=[.HY 1 false,.iZ (.call 8 [.var 0]) [2,3] false [.asg 4 (.call 3 [.var 0,.var 2]),.dput 1 (.var 4) (.bin .add (.Vn 1 (.var 4) (.con (.int 0))) (.var 3))],.ret (.blt .LQ [.vw 1])]
noncomputable def f9:Fd:=⟨1,5,b9⟩
theorem sc9:aL ["net","bends","steps","loads","length"] ["net"] (aB s9):=nofun
include cl in
theorem d9(Fu:il K "bends_of" "bends_of" s9 f fd)(gw:mg "sorted"=none)(nM:au Pg w K mg base k c 8 "chains_to_end" 1)(qC:au Pg w K mg base k c 3 "steps_hours" 2):bW Pg w K mg base gW (k+1) f fd ["net"] (ik K 1 (fun args=>enter c n f9 args)):=by
 exists Fu,sc9,0,0;refine aN ?_ ?_;.exact(KY (i:=1) nd rfl oi (by rfl) (Or.inl rfl))
 lia;.exact(uc PassesOwn.never hc (cT (cZ nM hr (bh (sv 0) aD rfl))) (mq hc (bM (aY (i:=2) nd rfl oi oi) (bM (aY (i:=3) nd rfl oi oi) jg))) (yP rfl (fc _ _ (fc _ _ uf 3) 2)) (by lia;(· exists 4,cZ qC hr (bh (sv 0) (bh (sv 2) aD rfl) rfl));(· lia;exact Lg (i:=1) (bA hr) rfl (by first|exact Or.inl rfl|exact Or.inr (Or.inl rfl)) (sv 4) (ao aR (Qj (i:=1) (bA hr) rfl (by first|exact Or.inl rfl|exact Or.inr (Or.inl rfl)) (sv 4) aj ⟨rfl,rfl,rfl,rfl⟩) (sv 3)) (by rfl);exact az)))
 lia;.exists(),JH rfl hc (by rfl) gw rfl (MK (i:=1) rfl (by first|exact Or.inl rfl|exact Or.inr (Or.inl rfl)))
 exact az
noncomputable abbrev ql:=top 13
noncomputable def b10:List S:=[.ret (.comp (.call 9 [.var 0]) 1 [2] true (some (.cmp .le (.idx (.var 2) (.con (.int 0))) (.var 1))) (.var 2))]
noncomputable def f10:Fd:=⟨2,2,b10⟩
theorem ab6:aL ["net","last"] ["net","last"] (aB ql):=nofun
include cl in
theorem d10(Fu:il K "bends_by" "bends_by" ql f fd)(eV:au Pg w K mg base k c 9 "bends_of" 1):bW Pg w K mg base gW (k+1) f fd ["net","last"] (ik K 2 (fun args=>enter c n f10 args)):=by
 exists Fu,ab6,0,0;refine aN ?_ ?_;.exists(),fB (N':=["net","last","bend"]) hc (JF rfl (by rfl)) (cT (cZ eV hr (bh (sv 0) aD rfl))) (fun _ _ _ _ _=>aY (i:=2) ‹["net","last","bend"]› rfl (Or.inl rfl) (Or.inr rfl)) (gk (le_refl _)) (fun _ _ _ _ _=>sW (bK rY (aG (sv 2) aj) (sv 1) (bJ _))) (fun _ _ _ _ _=>(sv 2))
 exact az
noncomputable abbrev Zt:=top 14
noncomputable def b11:List S:=[.ret (.blt .sum [.comp (.var 0) 2 [2,3] false (some (.cmp .le (.var 2) (.var 1))) (.bin .mul (.var 3) (.bin .add (.bin .sub (.var 1) (.var 2)) (.con (.int 1))))])]
noncomputable def f11:Fd:=⟨2,2,b11⟩
theorem acK:aL ["bends","last"] ["bends","last"] (aB Zt):=nofun
include cl in
theorem d11(Fu:il K "most_of" "most_of" Zt f fd)(lM:mg "sum"=none):bW Pg w K mg base gW (k+1) f fd ["bends","last"] (ik K 2 (fun args=>enter c n f11 args)):=by
 exists Fu,acK,0,0;refine aN ?_ ?_;.exists(),xJ rfl hc (by rfl) lM (fB (N':=["bends","last","length","loads"]) hc (JF rfl (by rfl)) (cT (sv 0)) (fun _ _ _ _ _=>mq hc (bM (aY (i:=2) ‹["bends","last","length","loads"]› rfl (Or.inl rfl) (Or.inr rfl)) (bM (aY (i:=3) ‹["bends","last","length","loads"]› rfl (Or.inl rfl) (Or.inr rfl)) jg))) (rW rfl (gf (show 2<=2 by decide) (gf (show 2<=3 by decide) uB))) (fun _ _ _ _ _=>sW (bK rY (sv 2) (sv 1) (bJ _))) (fun _ _ _ _ _=>(ao dH (sv 3) (ao aR (ao cg (sv 1) (sv 2)) aj))))
 exact az
noncomputable abbrev s12:=top 15
noncomputable def b12:List S:=[.ret (.call 11 [.call 9 [.var 0],.var 1])]
noncomputable def f12:Fd:=⟨2,2,b12⟩
theorem acf:aL ["net","last"] ["net","last"] (aB s12):=nofun
include cl in
theorem d12(Fu:il K "most_by" "most_by" s12 f fd)(eV:au Pg w K mg base k c 9 "bends_of" 1)(Dt:au Pg w K mg base k c 11 "most_of" 2):bW Pg w K mg base gW (k+1) f fd ["net","last"] (ik K 2 (fun args=>enter c n f12 args)):=by
 exists Fu,acf,0,0;refine aN ?_ ?_;.exists(),cZ Dt hr (bh (cZ eV hr (bh (sv 0) aD rfl)) (bh (sv 1) aD rfl) rfl)
 exact az
noncomputable abbrev s13:=top 16
noncomputable def b13:List S:=[.ret (.blt .sum [.comp (.call 10 [.var 0,.var 1]) 2 [2,3] false none (.var 3)])]
noncomputable def ZV:Fd:=⟨2,2,b13⟩
theorem acj:aL ["net","last"] ["net","last"] (aB s13):=nofun
include cl in
theorem d13(Fu:il K "rate_by" "rate_by" s13 f fd)(lM:mg "sum"=none)(zc:au Pg w K mg base k c 10 "bends_by" 2):bW Pg w K mg base gW (k+1) f fd ["net","last"] (ik K 2 (fun args=>enter c n ZV args)):=by
 exists Fu,acj,0,0;refine aN ?_ ?_;.exists(),xJ rfl hc (by rfl) lM (fB (N':=["net","last","length","loads"]) hc (JF rfl (by rfl)) (cT (cZ zc hr (bh (sv 0) (bh (sv 1) aD rfl) rfl))) (fun _ _ _ _ _=>mq hc (bM (aY (i:=2) ‹["net","last","length","loads"]› rfl (Or.inl rfl) (Or.inr rfl)) (bM (aY (i:=3) ‹["net","last","length","loads"]› rfl (Or.inl rfl) (Or.inr rfl)) jg))) (rW rfl (gf (show 2<=2 by decide) (gf (show 2<=3 by decide) uB))) (fun _ _ _ _ _=>ji) (fun _ _ _ _ _=>(sv 3)))
 exact az
noncomputable abbrev s14:=top 18
noncomputable def b14:List S:=[.ret (.call 13 [.var 0,.var 1])]
noncomputable def f14:Fd:=⟨2,2,b14⟩
theorem aaL:aL ["net","last"] ["net","last"] (aB s14):=nofun
include cl in
theorem d14(Fu:il K "gain_at" "gain_at" s14 f fd)(Du:au Pg w K mg base k c 13 "rate_by" 2):bW Pg w K mg base gW (k+1) f fd ["net","last"] (ik K 2 (fun args=>enter c n f14 args)):=by
 exists Fu,aaL,0,0;refine aN ?_ ?_;.exists(),cZ Du hr (bh (sv 0) (bh (sv 1) aD rfl) rfl)
 exact az
noncomputable abbrev s15:=top 19
noncomputable def b15:List S:=[.ret (.blt .HW [.comp (.call 9 [.var 0]) 2 [1,2] false none (.var 1)])]
noncomputable def YQ:Fd:=⟨1,1,b15⟩
theorem acb:aL ["net"] ["net"] (aB s15):=nofun
include cl in
theorem d15(Fu:il K "steady_hour" "steady_hour" s15 f fd)(rT:mg "max"=none)(eV:au Pg w K mg base k c 9 "bends_of" 1):bW Pg w K mg base gW (k+1) f fd ["net"] (ik K 1 (fun args=>enter c n YQ args)):=by
 exists Fu,acb,0,0;refine aN ?_ ?_;.exists(),JC rfl hc (by rfl) rT (fB (N':=["net","length","loads"]) hc (JF rfl (by rfl)) (cT (cZ eV hr (bh (sv 0) aD rfl))) (fun _ _ _ _ _=>mq hc (bM (aY (i:=1) ‹["net","length","loads"]› rfl (Or.inl rfl) (Or.inr rfl)) (bM (aY (i:=2) ‹["net","length","loads"]› rfl (Or.inl rfl) (Or.inr rfl)) jg))) (rW rfl (gf (show 1<=1 by decide) (gf (show 1<=2 by decide) uB))) (fun _ _ _ _ _=>ji) (fun _ _ _ _ _=>(sv 1)))
 exact az
noncomputable abbrev s16:=top 21
noncomputable def b16:List S:=[.ret (.lst [.blt .max2 [.con (.int 0),.bin .sub (.var 0) (.bin .pow (.con (.int 10)) (.con (.int 18)))],.bin .mod (.var 0) (.bin .pow (.con (.int 10)) (.con (.int 18))),.con (.int 0)])]
noncomputable def ZZ:Fd:=⟨1,1,b16⟩
theorem aaX:aL ["cell"] ["cell"] (aB s16):=nofun
include cl in
theorem d16(Fu:il K "_law_pool" "_law_pool" s16 f fd)(rT:mg "max"=none):bW Pg w K mg base gW (k+1) f fd ["cell"] (ik K 1 (fun args=>enter c n ZZ args)):=by
 exists Fu,aaX,0,0;refine aN ?_ ?_;.exists(),dz (fO (Kd rfl hc (by rfl) rT (fO aj (fO (ao cg (sv 0) (ao eZ aj aj)) bw rfl) rfl)) (fO (ao dg (sv 0) (ao eZ aj aj)) (fO aj bw rfl) rfl) rfl)
 exact az
noncomputable abbrev s17:=top 22
noncomputable def b17:List S:=[.ifs (.cmp .gt (.idx (.var 0) (.con (.int 0))) (.con (.int 0))) [.asg 2 (.bin .mod (.idx (.var 0) (.con (.int 0))) (.var 1)),.yV 0 (.con (.int 0)) (.bin .fdiv (.idx (.var 0) (.con (.int 0))) (.var 1)),.ret (.var 2)] [],.yV 0 (.con (.int 2)) (.bin .add (.idx (.var 0) (.con (.int 2))) (.con (.int 1))),.asg 3 (.bin .mod (.bin .add (.idx (.var 0) (.con (.int 1))) (.bin .mul (.con (.int 7919)) (.idx (.var 0) (.con (.int 2))))) (.con (.int 1000000007))),.asg 4 (.bin .mod (.bin .mul (.bin .add (.var 3) (.con (.int 11))) (.bin .add (.var 3) (.con (.int 48271)))) (.con (.int 998244353))),.ret (.bin .mod (.bin .fdiv (.bin .mod (.bin .mul (.var 4) (.var 4)) (.con (.int 2147483647))) (.con (.int 8))) (.var 1))]
noncomputable def YJ:Fd:=⟨2,5,b17⟩
theorem abF:aL ["pool","base","digit","near","stir"] ["pool","base"] (aB s17):=nofun
include cl in
theorem d17(Fu:il K "_law_next" "_law_next" s17 f fd):bW Pg w K mg base gW (k+1) f fd ["pool","base"] (ik K 2 (fun args=>enter c n YJ args)):=by
 exists Fu,abF,0,0;refine aN ?_ ?_;.exists gh ?_ ?_ ?_;exact bK tL (aG (sv 0) aj) aj (bJ _);(· lia;(· exists 2,ao dg (aG (sv 0) aj) (sv 1));(· lia;exact ou (k:=0) rfl (by first|exact Or.inl rfl|exact Or.inr (Or.inl rfl)) aj (ao uT (aG (sv 0) aj) (sv 1));(· lia;(· exists(),sv 2);exact az)));exact az
 lia;.exact(ou (k:=0) rfl (by first|exact Or.inl rfl|exact Or.inr (Or.inl rfl)) aj (ao aR (aG (sv 0) aj) aj))
 lia;.exists 3,ao dg (ao aR (aG (sv 0) aj) (ao dH aj (aG (sv 0) aj))) aj
 lia;.exists 4,ao dg (ao dH (ao aR (sv 3) aj) (ao aR (sv 3) aj)) aj
 lia;.exists(),ao dg (ao uT (ao dg (ao dH (sv 4) (sv 4)) aj) aj) (sv 1)
 exact az
noncomputable abbrev s18:=top 23
noncomputable def b18:List S:=[.ifs (.cmp .gt (.idx (.var 0) (.con (.int 0))) (.con (.int 0))) [.ret (.call 17 [.var 0,.var 1])] [],.asg 2 (.con (.int 0)),.iZ (.wU (.con (.int 0)) (.con (.int 4))) [3] true [.asg 2 (.bin .add (.bin .mul (.var 2) (.bin .pow (.con (.int 10)) (.con (.int 7)))) (.call 17 [.var 0,.bin .pow (.con (.int 10)) (.con (.int 7))]))],.ret (.bin .mod (.var 2) (.var 1))]
noncomputable def Y9:Fd:=⟨2,4,b18⟩
theorem abG:aL ["pool","base","found","k"] ["pool","base"] (aB s18):=nofun
include cl in
theorem d18(Fu:il K "_law_wide" "_law_wide" s18 f fd)(bO:mg "range"=none)(aK:au Pg w K mg base k c 17 "_law_next" 2):bW Pg w K mg base gW (k+1) f fd ["pool","base"] (ik K 2 (fun args=>enter c n Y9 args)):=by
 exists Fu,abG,0,0;refine aN ?_ ?_;.exists gh ?_ ?_ ?_;exact bK tL (aG (sv 0) aj) aj (bJ _);(· lia;(· exists(),cZ aK hr (bh (sv 0) (bh (sv 1) aD rfl) rfl));exact az);exact az
 lia;.exists 2,aj
 lia;.exists 3,j9 rfl (by rfl) bO aj,0;(· lia;(· exists 2,ao aR (ao dH (sv 2) (ao eZ aj aj)) (cZ aK hr (bh (sv 0) (bh (ao eZ aj aj) aD rfl) rfl)));exact az)
 lia;.exists(),ao dg (sv 2) (sv 1)
 exact az
noncomputable abbrev s19:=top 24
noncomputable def b19:List S:=[.ifs (.cmp .eq (.call 17 [.var 0,.con (.int 3)]) (.con (.int 0))) [.asg 4 (.call 17 [.var 0,.var 1]),.asg 5 (.bin .mod (.bin .add (.bin .add (.var 4) (.con (.int 1))) (.call 17 [.var 0,.bin .sub (.var 1) (.con (.int 1))])) (.var 1))] [.asg 4 (.call 17 [.var 0,.bin .sub (.var 1) (.con (.int 1))]),.asg 5 (.bin .add (.bin .add (.var 4) (.con (.int 1))) (.call 17 [.var 0,.bin .sub (.bin .sub (.var 1) (.con (.int 1))) (.var 4)]))],.ret (.tup [.var 4,.var 5,.call 18 [.var 0,.bin .add (.var 2) (.con (.int 1))],.bin .add (.con (.int 1)) (.call 18 [.var 0,.var 3])])]
noncomputable def Z7:Fd:=⟨4,6,b19⟩
theorem aaQ:aL ["pool","many","most","longest","start","to"] ["pool","many","most","longest"] (aB s19):=nofun
include cl in
theorem d19(Fu:il K "_law_way" "_law_way" s19 f fd)(aK:au Pg w K mg base k c 17 "_law_next" 2)(fJ:au Pg w K mg base k c 18 "_law_wide" 2):bW Pg w K mg base gW (k+1) f fd ["pool","many","most","longest"] (ik K 4 (fun args=>enter c n Z7 args)):=by
 exists Fu,aaQ,0,0;refine aN ?_ ?_;.exists gh ?_ ?_ ?_;exact bK (pI (bA hr)) (cZ aK hr (bh (sv 0) (bh aj aD rfl) rfl)) aj (bJ _);(· lia;(· exists 4,cZ aK hr (bh (sv 0) (bh (sv 1) aD rfl) rfl));(· lia;(· exists 5,ao dg (ao aR (ao aR (sv 4) aj) (cZ aK hr (bh (sv 0) (bh (ao cg (sv 1) aj) aD rfl) rfl))) (sv 1));exact az));(· lia;(· exists 4,cZ aK hr (bh (sv 0) (bh (ao cg (sv 1) aj) aD rfl) rfl));(· lia;(· exists 5,ao aR (ao aR (sv 4) aj) (cZ aK hr (bh (sv 0) (bh (ao cg (ao cg (sv 1) aj) (sv 4)) aD rfl) rfl)));exact az))
 lia;.exists(),dB (fO (sv 4) (fO (sv 5) (fO (cZ fJ hr (bh (sv 0) (bh (ao aR (sv 2) aj) aD rfl) rfl)) (fO (ao aR aj (cZ fJ hr (bh (sv 0) (bh (sv 3) aD rfl) rfl))) bw rfl) rfl) rfl) rfl)
 exact az
noncomputable abbrev s20:=top 25
noncomputable def b20:List S:=[.asg 3 (.bin .add (.con (.int 2)) (.call 17 [.var 0,.bin .sub (.var 1) (.con (.int 1))])),.asg 4 (.idx (.lst [.con (.int 1),.con (.int 3),.con (.int 9),.bin .pow (.con (.int 10)) (.con (.int 9))]) (.call 17 [.var 0,.con (.int 4)])),.asg 5 (.idx (.lst [.con (.int 1),.con (.int 2),.con (.int 4),.bin .pow (.con (.int 10)) (.con (.int 6))]) (.call 17 [.var 0,.con (.int 4)])),.asg 6 (.lst []),.iZ (.wU (.con (.int 0)) (.call 17 [.var 0,.bin .add (.var 2) (.con (.int 1))])) [7] true [.app 6 (.call 19 [.var 0,.var 3,.var 4,.var 5]),.ifs (.cmp .eq (.call 17 [.var 0,.con (.int 6)]) (.con (.int 0))) [.yV 6 (.var 7) (.idx (.var 6) (.call 17 [.var 0,.bin .add (.var 7) (.con (.int 1))]))] []],.ret (.tup [.var 3,.blt .tuple [.var 6]])]
noncomputable def Zm:Fd:=⟨3,8,b20⟩
theorem abe:aL ["pool","places","count","many","most","longest","ways","k"] ["pool","places","count"] (aB s20):=nofun
include cl in
theorem d20(Fu:il K "_law_net" "_law_net" s20 f fd)(bO:mg "range"=none)(dM:mg "tuple"=none)(aK:au Pg w K mg base k c 17 "_law_next" 2)(zf:au Pg w K mg base k c 19 "_law_way" 4):bW Pg w K mg base gW (k+1) f fd ["pool","places","count"] (ik K 3 (fun args=>enter c n Zm args)):=by
 exists Fu,abe,0,0;refine aN ?_ ?_;.exists 3,ao aR aj (cZ aK hr (bh (sv 0) (bh (ao cg (sv 1) aj) aD rfl) rfl))
 lia;.exists 4,aG (dz (sJ [1,3,9] rfl (fO (ao eZ aj aj) bw rfl))) (cZ aK hr (bh (sv 0) (bh aj aD rfl) rfl))
 lia;.exists 5,aG (dz (sJ [1,2,4] rfl (fO (ao eZ aj aj) bw rfl))) (cZ aK hr (bh (sv 0) (bh aj aD rfl) rfl))
 lia;.exists 6,dz bw
 lia;.exists 7,j9 rfl (by rfl) bO (cZ aK hr (bh (sv 0) (bh (ao aR (sv 2) aj) aD rfl) rfl)),0;(· lia;exact fj (k:=6) rfl (by first|exact Or.inl rfl|exact Or.inr (Or.inl rfl)) (cZ zf hr (bh (sv 0) (bh (sv 3) (bh (sv 4) (bh (sv 5) aD rfl) rfl) rfl) rfl));(· lia;(· exists gh ?_ ?_ ?_;exact bK (pI (bA hr)) (cZ aK hr (bh (sv 0) (bh aj aD rfl) rfl)) aj (bJ _);(· lia;exact ou (k:=6) rfl (by first|exact Or.inl rfl|exact Or.inr (Or.inl rfl)) (sv 7) (aG (sv 6) (cZ aK hr (bh (sv 0) (bh (ao aR (sv 7) aj) aD rfl) rfl)));exact az);exact az);exact az))
 lia;.exists(),dB (fO (sv 3) (fO (wu rfl (by rfl) dM (sv 6)) bw rfl) rfl)
 exact az
noncomputable abbrev s21:=top 26
noncomputable def b21:List S:=[.ret (.and (.inst [.int] (.var 0)) (.not (.inst [.bool] (.var 0))))]
noncomputable def YF:Fd:=⟨1,1,b21⟩
theorem acd:aL ["thing"] ["thing"] (aB s21):=nofun
include cl in
theorem d21(Fu:il K "_law_whole" "_law_whole" s21 f fd)(zg:mg "bool"=none)(Ii:mg "int"=none)(dN:mg "isinstance"=none):bW Pg w K mg base gW (k+1) f fd ["thing"] (ik K 1 (fun args=>enter c n YF args)):=by
 exists Fu,acd,0,0;refine aN ?_ ?_;.exists(),Td (v5 .int rfl (by rfl) dN (sv 0) (by rfl) Ii (by kernel_rfl) (by decide) (by rfl)) (Lp (Ri (v5 .bool rfl (by rfl) dN (sv 0) (by rfl) zg (by kernel_rfl) (by decide) (by rfl))))
 exact az
noncomputable abbrev s22:=top 27
noncomputable def b22:List S:=[.asg 1 (.lst []),.iZ (.wU (.con (.int 0)) (.bin .shl (.con (.int 1)) (.bin .sub (.idx (.var 0) (.con (.int 0))) (.con (.int 2))))) [2] true [.app 1 (.bin .add (.tup [.con (.int 0)]) (.blt .tuple [.comp (.wU (.con (.int 1)) (.bin .sub (.idx (.var 0) (.con (.int 0))) (.con (.int 1)))) 1 [3] true (some (.cmp .eq (.bin .band (.bin .shr (.var 2) (.bin .sub (.var 3) (.con (.int 1)))) (.con (.int 1))) (.con (.int 1)))) (.var 3)]))],.ret (.var 1)]
noncomputable def YB:Fd:=⟨1,3,b22⟩
theorem abn:aL ["net","found","bits"] ["net"] (aB s22):=nofun
include cl in
theorem d22(Fu:il K "_law_sides" "_law_sides" s22 f fd)(bO:mg "range"=none)(dM:mg "tuple"=none):bW Pg w K mg base gW (k+1) f fd ["net"] (ik K 1 (fun args=>enter c n YB args)):=by
 exists Fu,abn,0,0;refine aN ?_ ?_;.exists 1,dz bw
 lia;.exists zV (i:=2) ?_ ?_ ?_ ?_ ?_ ?_ ?_ ?_ ?_;exact PassesOwn.never;exact hc;exact nd;exact rfl;exact Or.inr rfl;exact j9 rfl (by rfl) bO (ao J4 aj (ao cg (aG (sv 0) aj) aj));(· lia;exact fj (k:=1) rfl (by first|exact Or.inl rfl|exact Or.inr (Or.inl rfl)) (ao aR (dB (fO aj bw rfl)) (wu rfl (by rfl) dM (fB (N':=["net","found","bits","place"]) hc (JF rfl (by rfl)) (Lx rfl (by rfl) bO aj (ao cg (aG (sv 0) aj) aj)) (fun _ _ _ _ _=>aY (i:=3) ‹["net","found","bits","place"]› rfl (Or.inl rfl) (Or.inr rfl)) (gk (le_refl _)) (fun _ _ _ _ _=>sW (bK (pI (bA hr)) (ao Gh (ao Jz (sv 2) (ao cg (sv 3) aj)) aj) aj (bJ _))) (fun _ _ _ _ _=>(sv 3)))));exact az);(· intro _;rfl);exact oi
 lia;.exists(),sv 1
 exact az
noncomputable abbrev s23:=top 28
noncomputable def b23:List S:=[.asg 2 (.con (.int 0)),.iZ (.idx (.var 0) (.con (.int 1))) [3,4,5,6] false [.ifs (.and (.cmp .inn (.var 3) (.var 1)) (.cmp .Bu (.var 4) (.var 1))) [.asg 2 (.bin .add (.var 2) (.var 5))] []],.ret (.var 2)]
noncomputable def Y7:Fd:=⟨2,7,b23⟩
theorem abu:aL ["net","side","found","start","to","room","hours"] ["net","side"] (aB s23):=nofun
include cl in
theorem d23(Fu:il K "_law_side_room" "_law_side_room" s23 f fd):bW Pg w K mg base gW (k+1) f fd ["net","side"] (ik K 2 (fun args=>enter c n Y7 args)):=by
 exists Fu,abu,0,0;refine aN ?_ ?_;.exists 2,aj
 lia;.exact(uc PassesOwn.never hc (cT (aG (sv 0) aj)) (mq hc (bM (aY (i:=3) nd rfl oi oi) (bM (aY (i:=4) nd rfl oi oi) (bM (aY (i:=5) nd rfl oi oi) (bM (aY (i:=6) nd rfl oi oi) jg))))) (yP rfl (fc _ _ (fc _ _ (fc _ _ (fc _ _ uf 6) 5) 4) 3)) (by lia;(· exists gh ?_ ?_ ?_;exact SW.st (GX (bK J0 (sv 3) (sv 1) (by with_unfolding_all rfl)) (Bh (bK Ci (sv 4) (sv 1) (by with_unfolding_all rfl))));(· lia;(· exists 2,ao aR (sv 2) (sv 5));exact az);exact az);exact az))
 lia;.exists(),sv 2
 exact az
noncomputable abbrev s24:=top 29
noncomputable def b24:List S:=[.ifs (.cmp .eq (.var 1) (.con (.int 0))) [.ret (.call 12 [.var 0,.con (.int 0)])] [],.ret (.bin .sub (.call 12 [.var 0,.var 1]) (.call 12 [.var 0,.bin .sub (.var 1) (.con (.int 1))]))]
noncomputable def ZD:Fd:=⟨2,2,b24⟩
theorem abm:aL ["net","last"] ["net","last"] (aB s24):=nofun
include cl in
theorem d24(Fu:il K "_law_gain" "_law_gain" s24 f fd)(mQ:au Pg w K mg base k c 12 "most_by" 2):bW Pg w K mg base gW (k+1) f fd ["net","last"] (ik K 2 (fun args=>enter c n ZD args)):=by
 exists Fu,abm,0,0;refine aN ?_ ?_;.exists gh ?_ ?_ ?_;exact bK (pI (bA hr)) (sv 1) aj (bJ _);(· lia;(· exists(),cZ mQ hr (bh (sv 0) (bh aj aD rfl) rfl));exact az);exact az
 lia;.exists(),ao cg (cZ mQ hr (bh (sv 0) (bh (sv 1) aD rfl) rfl)) (cZ mQ hr (bh (sv 0) (bh (ao cg (sv 1) aj) aD rfl) rfl))
 exact az
noncomputable abbrev s25:=top 30
noncomputable def b25:List S:=[.asg 3 (.con (.int 0)),.iZ (.blt .sorted [.var 1]) [4] true [.asg 5 (.call 14 [.var 0,.var 4]),.ifs (.or (.not (.call 21 [.var 5])) (.or (.cmp .ne (.var 5) (.call 24 [.var 0,.var 4])) (.not (.chain .le .le (.var 3) (.var 5) (.var 2))))) [.ret (.con (.bl false))] [],.asg 3 (.var 5)],.ret (.con (.bl true))]
noncomputable def YT:Fd:=⟨3,6,b25⟩
theorem aaI:aL ["net","hours","greatest","ahead","last","found"] ["net","hours","greatest"] (aB s25):=nofun
include cl in
theorem d25(Fu:il K "_law_gains_right" "_law_gains_right" s25 f fd)(gw:mg "sorted"=none)(xf:au Pg w K mg base k c 24 "_law_gain" 2)(gV:au Pg w K mg base k c 21 "_law_whole" 1)(gA:au Pg w K mg base k c 14 "gain_at" 2):bW Pg w K mg base gW (k+1) f fd ["net","hours","greatest"] (ik K 3 (fun args=>enter c n YT args)):=by
 exists Fu,aaI,0,0;refine aN ?_ ?_;.exists 3,aj
 lia;.exists 4,cT (BL rfl (by rfl) gw (sv 1)),0;(· lia;(· exists 5,cZ gA hr (bh (sv 0) (bh (sv 4) aD rfl) rfl));(· lia;(· exists gh ?_ ?_ ?_;exact SW.st (qL (sE (jL (cZ gV hr (bh (sv 5) aD rfl)))) (qL (bK (ue (bA hr)) (sv 5) (cZ xf hr (bh (sv 0) (bh (sv 4) aD rfl) rfl)) (bJ _)) (uz (sE (Hx rY rY (sv 3) (sv 5) (sv 2))))));(· lia;(· exists(),jD);exact az);exact az);(· lia;(· exists 3,sv 5);exact az)))
 lia;.exists(),jD
 exact az
noncomputable abbrev s26:=top 31
noncomputable def b26:List S:=[.asg 2 (.bin .mul (.lst [.con (.int 0)]) (.var 1)),.iZ (.wU (.con (.int 0)) (.blt .len [.var 0])) [3] true [.yV 2 (.bin .mod (.var 3) (.var 1)) (.bin .add (.bin .mul (.idx (.var 2) (.bin .mod (.var 3) (.var 1))) (.con (.int 1000003))) (.idx (.var 0) (.var 3)))],.ret (.slice (.var 2) (.con .non) (.blt .min2 [.blt .len [.var 0],.var 1]))]
noncomputable def Z0:Fd:=⟨2,4,b26⟩
theorem aaW:aL ["script","most","cells","k"] ["script","most"] (aB s26):=nofun
include cl in
theorem d26(Fu:il K "_law_folded" "_law_folded" s26 f fd)(gq:mg "len"=none)(jG:mg "min"=none)(bO:mg "range"=none):bW Pg w K mg base gW (k+1) f fd ["script","most"] (ik K 2 (fun args=>enter c n Z0 args)):=by
 exists Fu,aaW,0,0;refine aN ?_ ?_;.exists 2,ao dH (dz (fO aj bw rfl)) (sv 1)
 lia;.exists 3,j9 rfl (by rfl) bO (pF rfl (by rfl) gq (sv 0)),0;(· lia;exact ou (k:=2) rfl (by first|exact Or.inl rfl|exact Or.inr (Or.inl rfl)) (ao dg (sv 3) (sv 1)) (ao aR (ao dH (aG (sv 2) (ao dg (sv 3) (sv 1))) aj) (aG (sv 0) (sv 3)));exact az)
 lia;.exists(),vg (sv 2) zq (zZ (Ji rfl hc (by rfl) jG (fO (pF rfl (by rfl) gq (sv 0)) (fO (sv 1) bw rfl) rfl)))
 exact az
noncomputable abbrev s27:=top 32
noncomputable def b27:List S:=[.iZ (.bin .add (.lst [.con (.int 0)]) (.call 26 [.var 0,.con (.int 24)])) [1] true [.asg 2 (.call 16 [.var 1]),.asg 3 (.call 20 [.var 2,.con (.int 6),.con (.int 12)]),.asg 4 (.blt .Dn [.comp (.call 22 [.var 3]) 1 [8] true none (.call 23 [.var 3,.var 8])]),.asg 5 (.call 17 [.var 2,.con (.int 60)]),.asg 6 (.lst [.con (.int 0),.var 5,.bin .add (.var 5) (.con (.int 1)),.bin .add (.var 5) (.con (.int 2)),.call 17 [.var 2,.bin .mul (.con (.int 5)) (.bin .pow (.con (.int 10)) (.con (.int 6)))],.call 18 [.var 2,.bin .pow (.con (.int 10)) (.con (.int 18))]]),.ifs (.not (.call 25 [.var 3,.var 6,.var 4])) [.ret (.con (.bl false))] [],.asg 7 (.call 15 [.var 3]),.ifs (.or (.cmp .ne (.cmp .isN (.var 7) (.con .non)) (.cmp .eq (.var 4) (.con (.int 0)))) (.and (.cmp .Dm (.var 7) (.con .non)) (.not (.call 21 [.var 7])))) [.ret (.con (.bl false))] [],.ifs (.cmp .Dm (.var 7) (.con .non)) [.ifs (.or (.cmp .ne (.call 14 [.var 3,.var 7]) (.var 4)) (.or (.cmp .ne (.call 14 [.var 3,.bin .add (.bin .add (.var 7) (.con (.int 1))) (.var 5)]) (.var 4)) (.cmp .lt (.var 7) (.con (.int 1))))) [.ret (.con (.bl false))] [],.ifs (.cmp .ge (.call 14 [.var 3,.bin .sub (.var 7) (.con (.int 1))]) (.var 4)) [.ret (.con (.bl false))] []] []],.ret (.con (.bl true))]
noncomputable def Y5:Fd:=⟨1,8,b27⟩
theorem abb:aL ["script","cell","pool","net","greatest","last","hours","steady"] ["script"] (aB s27):=nofun
include cl in
theorem d27(Fu:il K "law" "law" s27 f fd)(jG:mg "min"=none)(qD:au Pg w K mg base k c 26 "_law_folded" 2)(jX:au Pg w K mg base k c 25 "_law_gains_right" 3)(zj:au Pg w K mg base k c 20 "_law_net" 3)(aK:au Pg w K mg base k c 17 "_law_next" 2)(xg:au Pg w K mg base k c 16 "_law_pool" 1)(mR:au Pg w K mg base k c 23 "_law_side_room" 2)(uH:au Pg w K mg base k c 22 "_law_sides" 1)(gV:au Pg w K mg base k c 21 "_law_whole" 1)(fJ:au Pg w K mg base k c 18 "_law_wide" 2)(gA:au Pg w K mg base k c 14 "gain_at" 2)(qF:au Pg w K mg base k c 15 "steady_hour" 1):bW Pg w K mg base gW (k+1) f fd ["script"] (ik K 1 (fun args=>enter c n Y5 args)):=by
 exists Fu,abb,0,0;refine aN ?_ ?_;.exists 1,cT (ao aR (dz (fO aj bw rfl)) (cZ qD hr (bh (sv 0) (bh aj aD rfl) rfl))),0;(· lia;(· exists 2,cZ xg hr (bh (sv 1) aD rfl));(· lia;(· exists tO (i:=3) ?_ ?_ ?_ ?_ ?_ ?_;exact nd;exact rfl;exact Or.inr rfl;rotate_left;rfl;exact oi;exact cZ zj hr (bh (sv 2) (bh aj (bh aj aD rfl) rfl) rfl));(· lia;(· exists 4,zx rfl hc (by rfl) jG (fB (N':=["script","cell","pool","net","greatest","last","hours","steady","side"]) hc (JF rfl (by rfl)) (cT (cZ uH hr (bh (sv 3) aD rfl))) (fun _ _ _ _ _=>aY (i:=8) ‹["script","cell","pool","net","greatest","last","hours","steady","side"]› rfl (Or.inl rfl) (Or.inr rfl)) (gk (le_refl _)) (fun _ _ _ _ _=>ji) (fun _ _ _ _ _=>(cZ mR hr (bh (sv 3) (bh (sv 8) aD rfl) rfl)))));(· lia;(· exists 5,cZ aK hr (bh (sv 2) (bh aj aD rfl) rfl));(· lia;(· exists 6,dz (fO aj (fO (sv 5) (fO (ao aR (sv 5) aj) (fO (ao aR (sv 5) aj) (fO (cZ aK hr (bh (sv 2) (bh (ao dH aj (ao eZ aj aj)) aD rfl) rfl)) (fO (cZ fJ hr (bh (sv 2) (bh (ao eZ aj aj) aD rfl) rfl)) bw rfl) rfl) rfl) rfl) rfl) rfl));(· lia;(· exists gh ?_ ?_ ?_;exact sE (jL (cZ jX hr (bh (sv 3) (bh (sv 6) (bh (sv 4) aD rfl) rfl) rfl)));(· lia;(· exists(),jD);exact az);exact az);(· lia;(· exists 7,cZ qF hr (bh (sv 3) aD rfl));(· lia;(· exists gh ?_ ?_ ?_;exact SW.st (qL (bK (ue (bA hr)) (Fp PQ (sv 7) oK (bJ _)) (Fp (pI (bA hr)) (sv 4) aj (bJ _)) (bJ _)) (uz (SW.st (GX (bK sO (sv 7) oK (bJ _)) (Bh (sE (jL (cZ gV hr (bh (sv 7) aD rfl)))))))));(· lia;(· exists(),jD);exact az);exact az);(· lia;(· exists gh ?_ ?_ ?_;exact bK sO (sv 7) oK (bJ _);(· lia;(· exists gh ?_ ?_ ?_;exact SW.st (qL (bK (ue (bA hr)) (cZ gA hr (bh (sv 3) (bh (sv 7) aD rfl) rfl)) (sv 4) (bJ _)) (qL (bK (ue (bA hr)) (cZ gA hr (bh (sv 3) (bh (ao aR (ao aR (sv 7) aj) (sv 5)) aD rfl) rfl)) (sv 4) (bJ _)) (uz (bK (HF (bA hr)) (sv 7) aj (bJ _)))));(· lia;(· exists(),jD);exact az);exact az);(· lia;(· exists gh ?_ ?_ ?_;exact bK Sy (cZ gA hr (bh (sv 3) (bh (ao cg (sv 7) aj) aD rfl) rfl)) (sv 4) (bJ _);(· lia;(· exists(),jD);exact az);exact az);exact az));exact az);exact az)))))))))
 lia;.exists(),jD
 exact az
end T
end
section
namespace T
open PySem L2 PySem.Spec PyProof.Rows HH
noncomputable def Γ:Tab:=fun i=>[f0,f1,f2,f3,f4,f5,f6,f7,f8,f9,f10,f11,f12,ZV,f14,YQ,ZZ,YJ,Y9,Z7,Zm,YF,YB,Y7,ZD,YT,Z0,Y5][i]?
end T
end
section
namespace T
open HH
local macro_rules|`(tactic|symm)=>`(tactic|first|apply ak|apply De)
noncomputable abbrev big:Int:=1606938044258990275541962092341162602522202993782792835301376
theorem bG{w n:Nat}{x y z m:Int}{Q:R->List Sl->Prop}(h0:0<m)(h2:m<big)(k:∀d x z:Int,0<=d->d<m->Q (.val (.int d)) [.own true [.int x,.int y,.int z],.val false (.int m)]):(run Γ w (n+1) 17 [.own true [.int x,.int y,.int z],.val false (.int m)]).sat Q:=by
 have h3:m<1606938044258990275541962092341162602522202993782792835301376:=h2;refine aO (d:=YJ) rfl rfl (by decide) ?_;symm;simp[YJ];constructor;.intro _;symm;simp[h0];apply ak;simp[h0,h3,ie];apply ak;simp;exact k _ _ _ (Int.emod_nonneg _ (by omega)) (Int.emod_lt_of_pos _ h0)
 . intro _;symm;simp[ie];apply ak;simp;generalize hq:(y+7919*(z+1))%1000000007=q;have q0:0<=q/\q<1000000007:=by omega
   have q1:-18446744073709551616<q+11/\q+11<18446744073709551616:=by omega
   symm;simp[q1];generalize hs:(q+11)*(q+48271)%998244353=st;have q2:-18446744073709551616<st/\st<18446744073709551616:=by omega
   symm;simp[q2,h0];exact k _ _ _ (Int.emod_nonneg _ (by omega)) (Int.emod_lt_of_pos _ h0)
theorem Fg{w n:Nat}{x:Int}{Q:R->List Sl->Prop}(k:∀a b c:Int,Q (.own [.int a,.int b,.int c]) [.val false (.int x)]):(run Γ w (n+1) 16 [.val false (.int x)]).sat Q:=by refine aO (d:=ZZ) rfl rfl (by decide) ?_;symm;simp[ZZ];exact k _ _ _
inductive JW(y m:Int)(_:Nat)(ρ:List Sl):Prop where|mk(x z f:Int)(s:Sl)(q0:ρ=[.own true [.int x,.int y,.int z],.val false (.int m),.val false (.int f),s])(q1:fr s=true)
theorem o8{w n:Nat}{x y z m:Int}{Q:R->List Sl->Prop}(h0:0<m)(h2:m<big)(k:∀d x z:Int,0<=d->d<m->Q (.val (.int d)) [.own true [.int x,.int y,.int z],.val false (.int m)]):(run Γ w (n+2) 18 [.own true [.int x,.int y,.int z],.val false (.int m)]).sat Q:=by
 refine aO (d:=Y9) rfl rfl (by decide) ?_;symm;simp[Y9];constructor;.intro _;symm;simp;refine bG h0 h2 fun d x z h3 h4=>?_;simp;exact k _ _ _ h3 h4
 . intro _;symm;simp;apply ak;simp;refine iy (JW y m) ?_ ?_ ⟨x,z,0,.aV,rfl,rfl⟩;.rintro i _ hi⟨x,z,f,s,rfl,hs⟩;simp[hs];apply ak;simp;refine bG (by decide) (by decide) fun d x z h3 h4=>?_;simp;exact⟨_,_,_,_,rfl,rfl⟩
   .rintro _⟨x,z,f,s,rfl,hs⟩;symm;simp[h0];exact k _ _ _ (Int.emod_nonneg _ (by omega)) (Int.emod_lt_of_pos _ h0)
structure Wy where(s t r h:Int)
noncomputable def Wy.d(w:Wy):D:=.tup [.int w.s,.int w.t,.int w.r,.int w.h]
structure Wy.Ok(m:Int)(w:Wy):Prop where
 s0:0<=w.s
 s1:w.s<m
 t0:0<=w.t
 t1:w.t<m
 ne:w.s≠w.t
 r0:0<=w.r
 r1:w.r<=1000000000
 h0:1<=w.h
 h1:w.h<=1000000
theorem other{a b m:Int}(h1:0<=a)(h2:a<m)(h3:0<=b)(h4:b<m-1):0<=(a+1+b)%m/\(a+1+b)%m<m/\(a+1+b)%m≠a:=by
 by_cases h:a+1+b<m;.rw[Int.emod_eq_of_lt (by omega) h];omega
 . have e:(a+1+b)%m=a+1+b-m:=by rw[<-Int.sub_emod_right,Int.emod_eq_of_lt (by omega) (by omega)]
   rw[e];omega
noncomputable def bj(m:Int)(ws:List Wy):D:=.tup [.int m,.tup (ws.map Wy.d)]
structure fG(m:Int)(ws:List Wy):Prop where
 m0:2<=m
 m1:m<=6
 len:ws.length<=12
 ok:∀w∈ws,w.Ok m
@[simp]theorem adU{m:Int}{ws:List Wy}:Jl (bj m ws) (.int 0)=some (.val (.int m)):=rfl
@[simp]theorem adT{m:Int}{ws:List Wy}:Jl (bj m ws) (.int 1)=some (.val (.tup (ws.map Wy.d))):=rfl
theorem Kf{w n:Nat}{x y z m p l:Int}{Q:R->List Sl->Prop}(h0:2<=m)(h2:m<=6)(p0:1<=p)(p1:p<=1000000000)(l0:1<=l)(l1:l<=1000000)(k:∀(v:Wy)(x z:Int),v.Ok m->Q (.val v.d) [.own true [.int x,.int y,.int z],.val false (.int m),.val false (.int p),.val false (.int l)]):(run Γ w (n+3) 19 [.own true [.int x,.int y,.int z],.val false (.int m),.val false (.int p),.val false (.int l)]).sat Q:=by
 refine aO (d:=Z7) rfl rfl (by decide) ?_;refine fH (fun ρ=>∃x z s t,ρ=[.own true [.int x,.int y,.int z],.val false (.int m),.val false (.int p),.val false (.int l),.val false (.int s),.val false (.int t)]/\0<=s/\s<m/\0<=t/\t<m/\s≠t) ?_ ?_
 . simp[Z7];refine bG (by decide) (by decide) fun d x z _ _=>?_;simp;constructor;.intro _;symm;simp;refine bG (by omega) (by show _<(1606938044258990275541962092341162602522202993782792835301376:Int);omega) fun a x z ha1 ha2=>?_;simp;apply ak;simp;refine bG (by omega) (by show _<(1606938044258990275541962092341162602522202993782792835301376:Int);omega) fun b x z hb1 hb2=>?_;obtain⟨t0,t1,tn⟩:=other ha1 ha2 hb1 hb2;simp[show 0<m by omega];refine⟨_,_,_,_,⟨⟨rfl,rfl⟩,rfl,rfl⟩,?_⟩;omega
   .intro _;symm;simp;refine bG (by omega) (by show _<(1606938044258990275541962092341162602522202993782792835301376:Int);omega) fun a x z ha1 ha2=>?_;simp;apply ak;simp;refine bG (by omega) (by show _<(1606938044258990275541962092341162602522202993782792835301376:Int);omega) fun b x z hb1 hb2=>?_;simp;refine⟨_,_,_,_,⟨⟨rfl,rfl⟩,rfl,rfl⟩,?_⟩;omega
 rintro _⟨x,z,s,t,rfl,s0,s1,t0,t1,ne⟩;symm;simp;refine o8 (by omega) (by show _<(1606938044258990275541962092341162602522202993782792835301376:Int);omega) fun r x z hr1 hr2=>?_;simp;refine o8 (by omega) (by show _<(1606938044258990275541962092341162602522202993782792835301376:Int);omega) fun h x z hh1 hh2=>?_;simp;exact k ⟨s,t,r,1+h⟩ x z ⟨s0,s1,t0,t1,ne,hr1,by show r<=_;omega,by show 1<=1+h;omega,by show 1+h<=_;omega⟩
inductive JN(y m p l:Int)(i:Nat)(ρ:List Sl):Prop where|mk(x z:Int)(ws:List Wy)(s:Sl)(q0:ρ=[.own true [.int x,.int y,.int z],.val false (.int 6),.val false (.int 12),.val false (.int m),.val false (.int p),.val false (.int l),.own false (ws.map Wy.d),s])(q1:fr s=true)(q2:(∀w∈ws,w.Ok m))(q3:ws.length=i)
theorem Nj{a b c d i lo hi:Int}(h0:0<=i)(h1:i<4)(k1:lo<=a/\a<=hi/\lo<=b/\b<=hi)(k2:lo<=c/\c<=hi/\lo<=d/\d<=hi):∃r,at' [D.int a,D.int b,D.int c,D.int d] i=some (.int r)/\lo<=r/\r<=hi:=by
 have:i=0\/i=1\/i=2\/i=3:=by omega
 rcases this with rfl|rfl|rfl|rfl;.exact⟨a,abM,by omega⟩
 .exact⟨b,abk,by omega⟩
 .exact⟨c,aa4,by omega⟩
 .exact⟨d,abP,by omega⟩
theorem KN{w n:Nat}{x y z:Int}{Q:R->List Sl->Prop}(k:∀(m:Int)(ws:List Wy)(x z:Int),fG m ws->Q (.val (bj m ws)) [.own true [.int x,.int y,.int z],.val false (.int 6),.val false (.int 12)]):(run Γ w (n+4) 20 [.own true [.int x,.int y,.int z],.val false (.int 6),.val false (.int 12)]).sat Q:=by
 refine aO (d:=Zm) rfl rfl (by decide) ?_;symm;simp[Zm];refine bG (by decide) (by decide) fun d x z hd1 hd2=>?_;simp;obtain⟨m,hm,m0,m1⟩:∃m,m=2+d/\2<=m/\m<=6:=⟨_,rfl,by omega,by omega⟩;rw[<-hm];symm;simp;refine bG (by decide) (by decide) fun d x z hd1 hd2=>?_;simp;obtain⟨p,e,p0,p1⟩:∃r,at' [D.int 1,D.int 3,D.int 9,D.int 1000000000] d=some (.int r)/\1<=r/\r<=1000000000:=Nj hd1 hd2 (by omega) (by omega);rw[e];simp;apply ak;simp;refine bG (by decide) (by decide) fun d x z hd1 hd2=>?_;simp;obtain⟨l,e,l0,l1⟩:∃r,at' [D.int 1,D.int 2,D.int 4,D.int 1000000] d=some (.int r)/\1<=r/\r<=1000000:=Nj hd1 hd2 (by omega) (by omega);rw[e];simp;apply ak;simp;apply ak;simp;refine bG (by decide) (by decide) fun c x z hc1 hc2=>?_;simp;refine⟨by omega,?_⟩;refine iy (JN y m p l) ?_ ?_ ⟨x,z,[],.aV,rfl,rfl,by simp,rfl⟩
 . rintro i _ hi⟨x,z,ws,s,rfl,hs,hw,hl⟩;simp[hs];apply ak;simp;refine Kf m0 m1 p0 p1 l0 l1 fun v x z hv=>?_;have hlim:ws.length<lim:=by show _<16777216;omega
   simp[hlim];have hw2:∀u∈ws++[v],u.Ok m:=fun u hu=>by
    rw[mem_append,mem_singleton]at hu;rcases hu with hu|rfl;.exact hw u hu
    .exact hv
   rw[show ws.map Wy.d++[v.d]=(ws++[v]).map Wy.d by simp];have hl2:(ws++[v]).length=i+1:=by simp[hl]
   generalize ws++[v]=us at*;symm;simp;refine bG (by decide) (by decide) fun c x z hc1 hc2=>?_;simp;constructor
   . intro _;symm;simp;refine bG (by omega) (by show _<(1606938044258990275541962092341162602522202993782792835301376:Int);omega) fun c x z hc1 hc2=>?_;simp;have hlt:c.toNat<us.length:=by omega
     rw[yp hc1 (by rw[length_map];omega),getElem?_map,getElem?_eq_getElem hlt];simp[Em (show i<us.length by omega)];refine⟨x,z,us.set i us[c.toNat],.val false (.int i),by simp,rfl,fun u hu=>?_,by simpa using hl2⟩;rcases List.mem_or_eq_of_mem_set hu with hu|rfl;.exact hw2 u hu
     .exact hw2 _ (getElem_mem hlt)
   .intro _;exact⟨x,z,us,_,rfl,rfl,hw2,hl2⟩
 .rintro _⟨x,z,ws,s,rfl,hs,hw,hl⟩;symm;simp;exact k m ws x z ⟨m0,m1,by omega,hw⟩
noncomputable def dh(j:Nat)(f:Bool):D:=.tup [.int j,.bl f]
noncomputable def frm(v:Wy)(f:Bool):Int:=if f then v.s else v.t
noncomputable def too(v:Wy)(f:Bool):Int:=if f then v.t else v.s
theorem jP{w n j:Nat}{f:Bool}{m:Int}{ws:List Wy}{v:Wy}{Q:R->List Sl->Prop}(e:ws[j]?=some v)(k:Q (.val (.tup [.int (frm v f),.int (too v f)])) [.val false (bj m ws),.val false (dh j f)]):(run Γ w (n+1) 0 [.val false (bj m ws),.val false (dh j f)]).sat Q:=by refine aO (d:=f0) rfl rfl (by decide) ?_;symm;simp[f0,dh,iw e];apply ak;cases f with|true=>simp[Wy.d];exact k|false=>simp[Wy.d];exact k
noncomputable def hsp(v:Wy)(f:Bool):Int:=if f then v.h else-v.h
theorem qM{w n j:Nat}{f:Bool}{m:Int}{ws:List Wy}{v:Wy}{Q:R->List Sl->Prop}(e:ws[j]?=some v)(k:Q (.val (.int (hsp v f))) [.val false (bj m ws),.val false (dh j f)]):(run Γ w (n+1) 1 [.val false (bj m ws),.val false (dh j f)]).sat Q:=by refine aO (d:=f1) rfl rfl (by decide) ?_;symm;simp[f1,dh,iw e,Wy.d];apply ak;cases f with|true=>simp;exact k|false=>simp;exact k
def ZJ(s:Sl)(fs:List Int):Prop:=s=.val false (.lst (fs.map D.int))\/∃b,s=.own b (fs.map D.int)
noncomputable def nF(v:Wy)(g:Int)(f:Bool):Int:=if f then v.r-g else g
theorem qP{w n j:Nat}{f:Bool}{s:Sl}{m g:Int}{ws:List Wy}{fs:List Int}{v:Wy}{Q:R->List Sl->Prop}(hs:ZJ s fs)(e:ws[j]?=some v)(eg:fs[j]?=some g)(k:Q (.val (.int (nF v g f))) [.val false (bj m ws),s,.val false (dh j f)]):(run Γ w (n+1) 2 [.val false (bj m ws),s,.val false (dh j f)]).sat Q:=by refine aO (d:=f2) rfl rfl (by decide) ?_;symm;rcases hs with rfl|⟨b,rfl⟩;all_goals simp[f2,dh,iw eg];apply ak;cases f with|true=>simp[iw e,Wy.d];exact k|false=>simp;exact k
@[simp]theorem Z4{c:Call}{n x k:Nat}{src elt:P}{is:List Nat}{one:Bool}{ρ:List Sl}:ex c n (.Ia x src k is one elt) ρ=(srcOf (isVar src) (ev c src) ρ).bind fun ds ρ₁=>if ds.length<=lim then(dw is one (ev c elt) ds [] (ρ₁++replicate k .aV)).bind fun rows ρ₂=>(lift (put (aX ρ (isVar src) (ρ₂.take ρ₁.length)) x (.hold rows)) ρ).bind fun ρ' _=>.ok .next ρ' else .stuck:=(rfl)
@[simp]theorem ZX{c:Call}{n:Nat}{src:P}{is:List Nat}{one:Bool}{body:List S}{ρ:List Sl}:ex c n (.Dp src is one body) ρ=(ev c src ρ).bind fun r ρ₁=>(lift (items r.d) ρ₁).bind fun ds ρ₁=>gj is one (eX c n body) ds ρ₁:=(rfl)
@[simp]theorem abv{c:Call}{n x:Nat}{ρ:List Sl}:ex c n (.cN x) ρ=match ρ[x]?with|some (.hold rows)=>.ok .next (ρ.set x (.val false (.lst (rows.map D.lst))))|_=>.stuck:=(rfl)
@[simp]theorem Ze{c:Call}{n x:Nat}{i e:P}{ρ:List Sl}:ex c n (.Ib x i e) ρ=(bY (isVar i) (ev c i) ρ).bind fun k ρ=>(lift (sS ρ x k) ρ).bind fun _ ρ=>(ev c e ρ).bind fun r ρ=>Cd ρ x ((gY ρ x).bind fun rows=>(fV k).bind fun k=>iM rows k fun row=>if row.length<lim then some (row++[r.d])else none):=(rfl)
@[simp]theorem Zb{a:Sl}{l:List Sl}{x:Nat}:gY (a::l) x=match(a::l)[x]?with|some (.hold rows)=>some rows|_=>none:=rfl
@[simp]theorem Vi{ρ:List Sl}{x:Nat}{rows:List (List D)}:Cd ρ x (some rows)=.ok .next (ρ.set x (.hold rows)):=rfl
@[simp]theorem abg{a:Sl}{l:List Sl}{x:Nat}{k:Int}:sS (a::l) x (.int k)=match(a::l)[x]?with|some (.hold rows)=>rowAt rows k|_=>none:=by unfold sS gY;cases h:(a::l)[x]?with|none=>rfl|some s=>cases s<;>rfl
theorem pC{is:List Nat}{one:Bool}{elt:Ev}(J:List Sl->Prop)(g:D->List D){Q:List (List D)->List Sl->Prop}:∀{ds:List D}{acc:List (List D)}{ρ:List Sl},J ρ->(∀d,d∈ds->∀ρ,J ρ->∃ρ1,cI ρ is one d=some ρ1/\(elt ρ1).sat fun r ρ3=>r=.own (g d)/\J ρ3)->(∀ρ,J ρ->Q (acc++ds.map g) ρ)->(dw is one elt ds acc ρ).sat Q|[],acc,ρ,j,h,k=>by rw[dw];simpa using k ρ j|d::r,acc,ρ,j,h,k=>by obtain⟨ρ1,e,h1⟩:=h d (by simp) ρ j;rw[dw,e];show((elt ρ1).bind _).sat Q;rw[bN];refine h1.imp fun x ρ3⟨e1,j3⟩=>?_;subst e1;exact pC J g j3 (fun d' hd'=>h d' (by simp[hd'])) fun ρ' j'=>by simpa using k ρ' j'
@[simp]theorem acg{c:Call}{x:Nat}{k:P}{ρ:List Sl}:ev c (.Oa x k) ρ=match ρ[x]?with
 |some (.cF _)=>(bY (isVar k) (ev c k) ρ).bind fun kd ρ=>match ρ[x]?with|some (.cF kvs)=>lift ((fV kd).bind fun k=>(mO kvs k).map .val) ρ|_=>.stuck
 |_=>.stuck:=(rfl)
noncomputable def qx(kvs:List (Int×D))(k:Int):Bool:=(kvs.map (·.1)).contains k
noncomputable def Iv(kvs:List (Int×D)):List Int:=kvs.map (·.1)
noncomputable def dsV(kvs:List (Int×D)):List D:=kvs.map (·.2)
@[simp]theorem ab8{c:Call}{x:Nat}{k:P}{neg:Bool}{ρ:List Sl}:ev c (.Ob x k neg) ρ=(bY (isVar k) (ev c k) ρ).bind fun kd ρ=>match ρ[x]?with|some (.cF kvs)=>lift ((fV kd).map fun k=>.val (.bl (if neg then !qx kvs k else qx kvs k))) ρ|_=>.stuck:=(rfl)
@[simp]theorem Z6{c:Call}{k e:Int}{ρ:List Sl}:ev c (.yU k e) ρ=.ok (.val (.dv [k] [.int e])) ρ:=(rfl)
@[simp]theorem ad9{c:Call}{x:Nat}{ρ:List Sl}:ev c (.vw x) ρ=match ρ[x]?with|some (.eY m)=>.ok (.val (.cM m)) (ρ.set x (.val false (.cM m)))|some (.cF kvs)=>.ok (.val (.dv (Iv kvs) (dsV kvs))) (ρ.set x (.val false (.dv (Iv kvs) (dsV kvs))))|_=>.stuck:=(rfl)
@[simp]theorem Zu{c:Call}{n x:Nat}{ρ:List Sl}:ex c n (.Dq x) ρ=match ρ[x]?with|some .aV=>.ok .next (ρ.set x (.cF []))|some (.cF _)=>.ok .next (ρ.set x (.cF []))|some (.val false _)=>.ok .next (ρ.set x (.cF []))|_=>.stuck:=(rfl)
@[simp]theorem YW{c:Call}{n x:Nat}{k e:P}{ρ:List Sl}:ex c n (.fL x k e) ρ=(ev c e ρ).bind fun r ρ=>match ρ[x]?with
 |some (.cF _)=>(bY (isVar k) (ev c k) ρ).bind fun kd ρ=>match ρ[x]?,kd with|some (.cF kvs),.int k=>if kvs.length<lim then .ok .next (ρ.set x (.cF (fL kvs k r.d)))else .stuck|_,_=>.stuck
 |_=>.stuck:=(rfl)
@[simp]theorem aae{c:Call}{n x:Nat}{i e:P}{sub:Bool}{ρ:List Sl}:ex c n (.HX x i sub e) ρ=(lift (Dw ρ x) ρ).bind fun _ ρ=>(bY (isVar i) (ev c i) ρ).bind fun k ρ=>(lift (Dw ρ x) ρ).bind fun l ρ=>(lift ((fV k).bind fun i=>at' l i) ρ).bind fun a ρ=>(bY (isVar e) (ev c e) ρ).bind fun b ρ=>match a,b,ρ[x]?,k with
 |.int u,.int v,some (.own bb ds),.int k=>match ie ds.length k with|some j=>.ok .next (ρ.set x (.own bb (ds.set j (.int (if sub then u-v else u+v)))))|none=>.stuck
 |_,_,_,_=>.stuck:=(rfl)
@[simp]theorem T4{x:Nat}{k:P}:isVar (.Oa x k)=none:=rfl
@[simp]theorem Ua{x:Nat}{k:P}{b:Bool}:isVar (.Ob x k b)=none:=rfl
@[simp]theorem Vy{x:Nat}:isVar (.vw x)=none:=rfl
@[simp]theorem O5{k e:Int}:isVar (.yU k e)=none:=rfl
@[simp]theorem aaU{kvs:List (Int×D)}:fr (.cF kvs)=false:=rfl
@[simp]theorem aaa{r:List (List D)}:fr (.hold r)=false:=rfl
@[simp]theorem Vv:oh .Dl=Ax:=rfl
@[simp]theorem YZ:oh .din=vH false:=rfl
@[simp]theorem Wb{ks:List Int}{ds:List D}{k:Int}:Ax (.dv ks ds) (.int k)=(mO (ks.zip ds) k).map .val:=rfl
@[simp]theorem YX{ks:List Int}{ds:List D}{k:Int}:vH false (.int k) (.dv ks ds)=some (.val (.bl (ks.contains k))):=rfl
@[simp]theorem TF{ks:List Int}{ds:List D}:blt .keys [.dv ks ds]=some (.val (.tup (ks.map D.int))):=rfl
@[simp]theorem aai{ks:List Int}{ds:List D}:blt .Vm [.dv ks ds]=if ks.length<=16777216 then some (.own (ks.map D.int))else none:=rfl
@[simp]theorem ZR{ds:List D}:blt .rvT [.lst ds]=some (.val (.tup ds.reverse)):=rfl
@[simp]theorem Vj{kvs:List (Int×D)}{x:Option Sl}:cX (.cF kvs) x=.cF kvs:=by cases x<;>rfl
@[simp]theorem Ry{r:List (List D)}{x:Option Sl}:cX (.hold r) x=.hold r:=by cases x<;>rfl
structure HN(m:Int)(ws:List Wy):Prop where
 m0:2<=m
 m1:m<=6
 len:ws.length<=12
 ok:∀w∈ws,(0<=w.s/\w.s<m)/\(0<=w.t/\w.t<m)/\0<=w.h
theorem HN.of{m:Int}{ws:List Wy}(h:fG m ws):HN m ws:=⟨h.m0,h.m1,h.len,fun w hw=>by have:=h.ok w hw;exact⟨⟨this.s0,this.s1⟩,⟨this.t0,this.t1⟩,by have:=this.h0;omega⟩⟩
noncomputable abbrev aq:=Nat×Bool
noncomputable def sD(s:aq):D:=dh s.1 s.2
noncomputable def jh(ws:List Wy)(fs:List Int)(p:Int)(s:aq):Bool:=match ws[s.1]?,fs[s.1]?with|some v,some g=>decide (frm v s.2=p)&&decide (0<nF v g s.2)|_,_=>false
theorem jN{ws:List Wy}{fs:List Int}{p:Int}{s:aq}{v:Wy}{g:Int}(e:ws[s.1]?=some v)(e2:fs[s.1]?=some g):jh ws fs p s=(decide (frm v s.2=p)&&decide (0<nF v g s.2)):=by unfold jh;rw[e,e2]
noncomputable def jr(ws:List Wy)(fs:List Int)(M:Nat)(l:List aq):List (List aq):=(List.range M).map fun(p:Nat)=>l.filter (jh ws fs (p:Int))
noncomputable def rD(l:List (List aq)):List (List D):=l.map fun r=>r.map sD
noncomputable def fM(N:Nat):List aq:=(List.range N).flatMap fun j=>[(j,true),(j,false)]
theorem rm{N:Nat}:fM (N+1)=(fM N++[(N,true)])++[(N,false)]:=by simp[fM,List.range_succ]
theorem vK{N:Nat}:(fM N).length=2*N:=by induction N with|zero=>rfl|succ N ih=>rw[rm];simp[ih];omega
theorem OJ{m:Int}{ws:List Wy}(h:HN m ws){j:Nat}{v:Wy}(e:ws[j]?=some v)(f:Bool):0<=frm v f/\frm v f<m:=by have:=h.ok v (mem_of_getElem? e);cases f<;>simp only[frm]<;>simp<;>omega
theorem GR{m:Int}{ws:List Wy}(h:HN m ws){j:Nat}{v:Wy}(e:ws[j]?=some v)(f:Bool):0<=too v f/\too v f<m:=by have:=h.ok v (mem_of_getElem? e);cases f<;>simp only[too]<;>simp<;>omega
theorem GZ{ws:List Wy}{fs:List Int}{M:Nat}{l:List aq}{s:aq}{v:Wy}{g:Int}(e:ws[s.1]?=some v)(e2:fs[s.1]?=some g)(h:¬ 0<nF v g s.2):jr ws fs M (l++[s])=jr ws fs M l:=by unfold jr;refine map_congr_left fun p _=>?_;rw[List.filter_append];simp[jN e e2,h]
theorem Lb{ws:List Wy}{fs:List Int}{m:Int}{l:List aq}{s:aq}{v:Wy}{g:Int}(e:ws[s.1]?=some v)(e2:fs[s.1]?=some g)(h:0<nF v g s.2)(hp:0<=frm v s.2/\frm v s.2<m)(hl:l.length<1000):(∃row,rowAt (rD (jr ws fs m.toNat l)) (frm v s.2)=some row)/\iM (rD (jr ws fs m.toNat l)) (frm v s.2) (fun row=>if row.length<lim then some (row++[sD s])else none)=some (rD (jr ws fs m.toNat (l++[s]))):=by
 have hlen:(rD (jr ws fs m.toNat l)).length=m.toNat:=by simp[rD,jr]
 have hx:ie (rD (jr ws fs m.toNat l)).length (frm v s.2)=some (frm v s.2).toNat:=by unfold ie;rw[hlen,if_pos hp.1,if_pos (by omega)]
 have hg:(rD (jr ws fs m.toNat l))[(frm v s.2).toNat]?=some ((l.filter (jh ws fs (frm v s.2))).map sD):=by simp[rD,jr,show(frm v s.2).toNat<m.toNat by omega,Int.toNat_of_nonneg hp.1]
 refine⟨⟨_,by unfold rowAt;rw[hx];exact hg⟩,?_⟩;unfold iM;rw[hx];show((rD (jr ws fs m.toNat l))[(frm v s.2).toNat]?).bind _=_;rw[hg];have hq:((l.filter (jh ws fs (frm v s.2))).map sD).length<lim:=by have:=List.length_filter_le (jh ws fs (frm v s.2)) l;rw[length_map];show _<16777216;omega
 show Option.map _ (if _ then _ else _)=_;rw[if_pos hq];show some _=some _;congr 1;refine List.ext_getElem (by simp[rD,jr]) fun i h2 h3=>?_;rw[List.getElem_set];by_cases c:(frm v s.2).toNat=i
 . rw[if_pos c];have:(i:Int)=frm v s.2:=by omega
   simp[rD,jr,this,List.filter_append,jN e e2,h]
 . rw[if_neg c];have:¬ frm v s.2=(i:Int):=by omega
   simp[rD,jr,List.filter_append,jN e e2,this]
inductive JOp(m:Int)(ws:List Wy)(fs:List Int)(s:Sl)(i:Nat)(ρ:List Sl):Prop where|mk(s3 s4:Sl)(q0:ρ=[.val false (bj m ws),s,.hold (rD (jr ws fs m.toNat (fM i))),s3,s4])(q1:fr s3=true)(q2:fr s4=true)
inductive JOq(m:Int)(ws:List Wy)(fs:List Int)(s:Sl)(i:Nat)(r:List D)(ρ:List Sl):Prop where|mk(l us:List aq)(s4:Sl)(q0:ρ=[.val false (bj m ws),s,.hold (rD (jr ws fs m.toNat l)),.val false (.int i),s4])(q1:fr s4=true)(q2:r=us.map sD)(q3:l++us=fM (i+1))(q4:∀u∈us,u.1=i)
inductive F1n(a b c d e:Sl)(ρ:List Sl):Prop where|mk(s:Sl)(q0:ρ=[a,b,c,d,e,s])(q1:fr s=true)
theorem Gm{w n:Nat}{s:Sl}{m:Int}{ws:List Wy}{fs:List Int}{Q:R->List Sl->Prop}(hs:ZJ s fs)(h:HN m ws)(hf:fs.length=ws.length)(k:Q (.val (.lst ((rD (jr ws fs m.toNat (fM ws.length))).map D.lst))) [.val false (bj m ws),s]):(run Γ w (n+2) 4 [.val false (bj m ws),s]).sat Q:=by
 have hn:=h.len;have m0:=h.m0;have m1:=h.m1;refine aO (d:=f4) rfl rfl (by decide) ?_;refine fH (fun ρ=>ρ=[.val false (bj m ws),s,.hold (rD (jr ws fs m.toNat (fM 0))),.aV,.aV]) ?_ ?_
 . simp[f4,show m<=1000000000 by omega,show-1000000000<=m by omega];refine⟨fun _=>?_,by omega⟩;rw[bN];refine pC (F1n _ _ _ _ _) (fun _=>[]) ⟨.aV,rfl,rfl⟩ ?_ ?_;.rintro d hd _⟨s',rfl,hs'⟩;simp[hs'];exact⟨_,rfl,rfl⟩
   .rintro _⟨s',rfl,hs'⟩;simp[rD,jr,fM]
 rintro _ rfl;refine fH (JOp m ws fs s ws.length) ?_ ?_
 . simp[show(ws.length:Int)<=1000000000 by omega];refine iy (JOp m ws fs s) ?_ ?_ ⟨.aV,.aV,rfl,rfl,rfl⟩
   . rintro i _ hi⟨s3,s4,rfl,h3,h4⟩;have hi2:i<fs.length:=by omega
     have e1:ws[i]?=some ws[i]:=by simp[hi]
     have e2:fs[i]?=some fs[i]:=by simp[hi2]
     generalize ws[i]=v at*;generalize fs[i]=g at*;simp[h3];apply ak;simp;refine cu (JOq m ws fs s i) ?_ ?_ ⟨fM i,[(i,true),(i,false)],s4,rfl,h4,rfl,by rw[rm];simp,by simp⟩;.rintro d r _⟨l,us,s4,rfl,h4,hr,hl,hu⟩;cases us with|nil=>cases hr|cons u us=>
         obtain⟨rfl,rfl⟩:d=sD u/\r=us.map sD:=by simpa using hr
         obtain rfl:=hu u (by simp);have hl2:(l++[u])++us=fM (u.1+1):=by rw[append_assoc];exact hl
         have hll:l.length<1000:=by have:=congrArg List.length hl;rw[vK]at this;simp at this;omega
         simp[h4];apply ak;rcases hs with rfl|⟨b,rfl⟩;all_goals
          simp[sD];refine qP (by first|exact .inl rfl|exact .inr ⟨_,rfl⟩) e1 e2 ?_;simp;refine⟨fun ho=>?_,fun ho=>?_⟩;.obtain⟨⟨row,q1⟩,q2⟩:=Lb (ws:=ws) (fs:=fs) (l:=l) e1 e2 ho (OJ h e1 u.2) hll;symm;simp;refine jP e1 ?_;simp[q1];have q3:iM (rD (jr ws fs m.toNat l)) (frm v u.2) (fun row=>if row.length<lim then some (row++[dh u.1 u.2])else none)=_:=q2;rw[q3];simp;exact⟨l++[u],us,_,rfl,rfl,rfl,hl2,fun x hx=>hu x (by simp[hx])⟩
          .exact⟨l++[u],us,_,by rw[GZ e1 e2 (by omega)],rfl,rfl,hl2,fun x hx=>hu x (by simp[hx])⟩
     . rintro _⟨l,us,s4,rfl,h4,hr,hl,hu⟩;have:us=[]:=by cases us with|nil=>rfl|cons _ _=>cases hr
       subst this;rw[append_nil]at hl;subst hl;simp;exact⟨_,_,rfl,rfl,h4⟩
   .rintro _⟨s3,s4,rfl,h3,h4⟩;exact⟨rfl,_,_,rfl,h3,h4⟩
 rintro _⟨s3,s4,rfl,h3,h4⟩;symm;simp;apply ak;simp;exact k
noncomputable abbrev En:=Int×Nat×(Option aq×Int)
noncomputable def oS:Option aq->D|none=>.non|some s=>sD s
noncomputable def Ba(e:En):D:=.tup [.int e.2.2.2,.int (e.2.1:Int),oS e.2.2.1]
noncomputable def en(e:En):Int×D:=(e.1,Ba e)
noncomputable def m9(es:List En):D:=.dv (es.map (·.1)) (es.map Ba)
noncomputable def xP(p:Int):Int×D:=(p,.bl true)
@[simp]theorem R3{l:List Int}:Iv (l.map xP)=l:=by simp[Iv,xP,Function.comp_def]
theorem yo{l:List En}:Iv (l.map en)=l.map (·.1):=by simp[Iv,en,Function.comp_def]
theorem yr{l:List En}{p:Int}:qx (l.map en) p=true↔∃n o,(p,n,o)∈l:=by show(Iv (l.map en)).contains p=true↔_;rw[yo];simp
theorem kin_no{l:List En}{p:Int}(h:¬ ∃n o,(p,n,o)∈l):qx (l.map en) p=false:=by cases e:qx (l.map en) p with|false=>rfl|true=>exact absurd (yr.mp e) h
theorem sY{β:Type}{p:Int}{x y:β}:∀{l:List (Int×β)},(l.map (·.1)).Nodup->(p,x)∈l->(p,y)∈l->x=y
 |[],_,h,_=>by cases h|e::l,hn,h1,h2=>by
   rw[map_cons,nodup_cons]at hn;rcases mem_cons.mp h1 with h1|h1<;>rcases mem_cons.mp h2 with h2|h2;.rw[<-h2]at h1;cases h1;rfl
   .exact absurd (mem_map.mpr ⟨_,h2,by rw[<-h1]⟩) hn.1
   .exact absurd (mem_map.mpr ⟨_,h1,by rw[<-h2]⟩) hn.1
   .exact sY hn.2 h1 h2
theorem oF{p:Int}{x:Nat×(Option aq×Int)}:∀{l:List En},(l.map (·.1)).Nodup->(p,x)∈l->mO (l.map en) p=some (Ba (p,x))
 |[],_,h=>by cases h|e::l,hn,h=>by
   have hn0:=hn;rw[map_cons,nodup_cons]at hn;unfold mO;rw[map_cons,find?_cons];by_cases c:e.1=p;.obtain⟨q,y⟩:=e;cases c;have:=sY hn0 h (by simp:(q,y)∈(q,y)::l);subst this;simp[en]
   . have h':(p,x)∈l:=by
      rcases mem_cons.mp h with h|h;.exact absurd (by rw[<-h]) c
      .exact h
     simp[en,c];have:=oF hn.2 h';unfold mO at this;simpa[en]using this
theorem uZ{kvs:List (Int×D)}{p:Int}{d:D}(h:qx kvs p=false):fL kvs p d=kvs++[(p,d)]:=by
 unfold fL;rw[if_neg];intro h2;obtain⟨x,hx,e⟩:=List.any_eq_true.mp h2;have:qx kvs p=true:=by show(kvs.map (·.1)).contains p=true;rw[List.contains_iff_mem];exact mem_map.mpr ⟨x,hx,by simpa using e⟩
 rw[this]at h;cases h
theorem uL{kvs:List (Int×D)}{p:Int}{d:D}(h:qx kvs p=true):fL kvs p d=kvs.map fun e=>if e.1=p then(p,d)else e:=by
 unfold fL;rw[if_pos]
 . refine map_congr_left fun e _=>?_;by_cases c:e.1=p;.simp[c]
   .simp[c]
 .have h':(kvs.map (·.1)).contains p=true:=h;rw[List.contains_iff_mem]at h';obtain⟨x,hx,e⟩:=mem_map.mp h';exact List.any_eq_true.mpr ⟨x,hx,by simpa using e⟩
noncomputable def uU(p:Int)(x:Nat×(Option aq×Int))(e:En):En:=if e.1=p then(p,x)else e
noncomputable def nH(es:List En)(p:Int)(x:Nat×(Option aq×Int)):List En:=if p∈es.map (·.1)then es.map (uU p x)else es++[(p,x)]
noncomputable def pO(ch:List Int)(p:Int):List Int:=if p∈ch then ch else ch++[p]
theorem Ls{es:List En}{p:Int}{x:Nat×(Option aq×Int)}:fL (es.map en) p (Ba (p,x))=(nH es p x).map en:=by
 have hk:qx (es.map en) p=true↔p∈es.map (·.1):=by show(Iv (es.map en)).contains p=true↔_;rw[yo,List.contains_iff_mem]
 unfold nH;by_cases c:p∈es.map (·.1)
 . rw[if_pos c,uL (hk.mpr c),map_map,map_map];refine map_congr_left fun e _=>?_;show(if e.1=p then _ else _)=en (uU p x e);unfold uU;by_cases z:e.1=p;.rw[if_pos z,if_pos z];rfl
   .rw[if_neg z,if_neg z]
 .rw[if_neg c,uZ (by cases e:qx (es.map en) p with|false=>rfl|true=>exact absurd (hk.mp e) c)];simp[en]
theorem JD{ch:List Int}{p:Int}:fL (ch.map xP) p (.bl true)=(pO ch p).map xP:=by
 have hk:qx (ch.map xP) p=true↔p∈ch:=by show(Iv (ch.map xP)).contains p=true↔_;rw[R3,List.contains_iff_mem]
 unfold pO;by_cases c:p∈ch
 . rw[if_pos c,uL (hk.mpr c),map_map];refine map_congr_left fun e _=>?_;show(if e=p then _ else _)=xP e;by_cases z:e=p;.rw[if_pos z,z];rfl
   .rw[if_neg z]
 .rw[if_neg c,uZ (by cases e:qx (ch.map xP) p with|false=>rfl|true=>exact absurd (hk.mp e) c)];simp[xP]
theorem vh{ch:List Int}{p q:Int}:q∈pO ch p↔q∈ch\/q=p:=by
 unfold pO;split;.exact⟨.inl,fun h=>h.elim id fun e=>by rw[e];assumption⟩
 .simp
theorem Ac{ch:List Int}{p:Int}(h:ch.Nodup):(pO ch p).Nodup:=by
 unfold pO;split;.exact h
 .rename_i hn;rw[nodup_append];exact⟨h,by simp,fun a ha b hb e=>hn (by rw[<-mem_singleton.mp hb,<-e];exact ha)⟩
theorem CW{es:List En}{p:Int}{x:Nat×(Option aq×Int)}:(nH es p x).map (·.1)=pO (es.map (·.1)) p:=by
 unfold nH pO;split
 . rw[map_map];refine map_congr_left fun e _=>?_;show(uU p x e).1=e.1;unfold uU;split;.rename_i h;exact h.symm
   .rfl
 .simp
theorem eG{es:List En}{p q:Int}{x y:Nat×(Option aq×Int)}:(q,y)∈nH es p x↔(q=p/\y=x)\/(q≠p/\(q,y)∈es):=by
 unfold nH;split
 . rename_i hp;obtain⟨e0,he0,hp0⟩:=mem_map.mp hp;rw[mem_map];constructor
   . rintro⟨e,he,h⟩;unfold uU at h;split at h;.cases h;exact .inl ⟨rfl,rfl⟩
     .rename_i hne;subst h;exact .inr ⟨hne,he⟩
   . rintro(⟨rfl,rfl⟩|⟨h1,h2⟩);.exact⟨e0,he0,by unfold uU;rw[if_pos hp0]⟩
     .exact⟨_,h2,by unfold uU;rw[if_neg h1]⟩
 . rename_i hp;rw[mem_append,mem_singleton];constructor
   . rintro(h|h);.refine .inr ⟨fun e=>hp ?_,h⟩;rw[<-e];exact mem_map.mpr ⟨_,h,rfl⟩
     .cases h;exact .inl ⟨rfl,rfl⟩
   . rintro(⟨rfl,rfl⟩|⟨_,h2⟩);.exact .inr rfl
     .exact .inl h2
theorem pq{α:Type}[BEq α][LawfulBEq α]:∀{l l2:List α},l.Nodup->(∀a∈l,a∈l2)->l.length<=l2.length
 |[],_,_,_=>zero_le _|a::l,l2,hn,hs=>by
   have ha:=hs a (by simp);have hn':=nodup_cons.mp hn;have:=pq (l:=l) (l2:=l2.erase a) hn'.2 fun b hb=>by
    have hba:b≠a:=by rintro rfl;exact hn'.1 hb
    exact(List.mem_erase_of_ne hba).mpr (hs b (by simp[hb]))
   rw[List.length_erase_of_mem ha]at this;have:=List.length_pos_of_mem ha;simp only[length_cons];omega
theorem six{l:List Int}{m:Int}(m1:m<=6)(hn:l.Nodup)(h:∀p∈l,0<=p/\p<m):l.length<=6:=by
 have:=pq (l2:=[0,1,2,3,4,5]) hn fun q hq=>by
  have:=h q hq;have:q=0\/q=1\/q=2\/q=3\/q=4\/q=5:=by omega
  simpa using this
 simpa using this
theorem oV{ws:List Wy}{fs:List Int}{p:Int}{s:aq}(h:jh ws fs p s=true):∃v g,ws[s.1]?=some v/\fs[s.1]?=some g/\frm v s.2=p/\0<nF v g s.2:=by
 unfold jh at h;split at h;.rename_i v g e1 e2;simp at h;exact⟨v,g,e1,e2,h.1,h.2⟩
 .cases h
theorem vB{N:Nat}{s:aq}(h:s.1<N):s∈fM N:=by unfold fM;rw[List.mem_flatMap];refine⟨s.1,by simp[h],?_⟩;obtain⟨j,f⟩:=s;cases f<;>simp
def je(ws:List Wy)(b:Int):List aq->Int->Prop|[],a=>a=b|s::c,a=>∃v,ws[s.1]?=some v/\frm v s.2=a/\je ws b c (too v s.2)
noncomputable def hst(ws:List Wy)(s:aq):Int:=match ws[s.1]?with|some v=>hsp v s.2|none=>0
theorem gJ{ws:List Wy}{s:aq}{v:Wy}(e:ws[s.1]?=some v):hst ws s=hsp v s.2:=by unfold hst;rw[e]
noncomputable def cH(ws:List Wy):List aq->Int|[]=>0|s::c=>hst ws s+cH ws c
theorem jl{ws:List Wy}{c2:List aq}:∀{c1:List aq},cH ws (c1++c2)=cH ws c1+cH ws c2|[]=>by simp[cH]|s::c=>by rw[cons_append,cH,jl,cH];omega
def wG(ws:List Wy)(fs:List Int)(c:List aq):Prop:=∀s∈c,∃v,ws[s.1]?=some v/\jh ws fs (frm v s.2) s=true
theorem je.app{ws:List Wy}{b q:Int}{c2:List aq}(h2:je ws b c2 q):∀{c1:List aq}{a:Int},je ws q c1 a->je ws b (c1++c2) a|[],a,h=>by have:a=q:=h;rw[this];exact h2|s::c,a,⟨v,e,hf,h⟩=>⟨v,e,hf,je.app h2 h⟩
theorem zR{ws:List Wy}{b:Int}{c2:List aq}:∀{c1:List aq}{a:Int},je ws b (c1++c2) a->∃q,je ws q c1 a/\je ws b c2 q|[],a,h=>⟨a,rfl,h⟩|s::c,a,⟨v,e,hf,h⟩=>by obtain⟨q,h1,h2⟩:=zR (c1:=c) h;exact⟨q,⟨v,e,hf,h1⟩,h2⟩
def Pt(ws:List Wy)(fs:List Int)(F:Int->Int):Prop:=∀(s:aq)(v:Wy),ws[s.1]?=some v->jh ws fs (frm v s.2) s=true->F (too v s.2)<=F (frm v s.2)+hsp v s.2
theorem pY{ws:List Wy}{fs:List Int}{F:Int->Int}(h:Pt ws fs F){b:Int}:∀{c:List aq}{a:Int},je ws b c a->wG ws fs c->F b<=F a+cH ws c|[],a,hp,_=>by have:a=b:=hp;rw[this,cH];omega|s::c,a,⟨v,e,hf,hp⟩,ho=>by have h1:=pY h hp fun u hu=>ho u (mem_cons_of_mem _ hu);obtain⟨v',e',o⟩:=ho s (by simp);rw[e]at e';cases e';have h2:=h s v e o;rw[hf]at h2;rw[cH,gJ e];omega
noncomputable def xO(ws:List Wy)(s:aq):Int:=match ws[s.1]?with|some v=>too v s.2|none=>0
noncomputable def zF(ws:List Wy):List aq->Int->List Int|[],a=>[a]|s::c,a=>a::zF ws c (xO ws s)
theorem Bf{ws:List Wy}:∀{c:List aq}{a:Int},(zF ws c a).length=c.length+1|[],_=>rfl|s::c,a=>by rw[zF,length_cons,Bf];rfl
theorem HB{m:Int}{ws:List Wy}{b:Int}(hm:HN m ws):∀{c:List aq}{a:Int},je ws b c a->0<=a/\a<m->∀q∈zF ws c a,0<=q/\q<m
 |[],a,_,ha,q,hq=>by rw[zF,mem_singleton]at hq;rw[hq];exact ha|s::c,a,⟨v,e,hf,hp⟩,ha,q,hq=>by
   rw[zF,mem_cons]at hq;rcases hq with rfl|hq;.exact ha
   . have:xO ws s=too v s.2:=by unfold xO;rw[e]
     rw[this]at hq;exact HB hm hp (GR hm e s.2) q hq
theorem Bj{ws:List Wy}{b q:Int}:∀{c:List aq}{a:Int},je ws b c a->q∈zF ws c a->∃c1 c2,c=c1++c2/\je ws q c1 a/\je ws b c2 q
 |[],a,h,hq=>by rw[zF,mem_singleton]at hq;exact⟨[],[],rfl,hq.symm,by rw[hq];exact h⟩|s::c,a,h,hq=>by
   rw[zF,mem_cons]at hq;rcases hq with rfl|hq;.exact⟨[],s::c,rfl,rfl,h⟩
   . obtain⟨v,e,hf,hp⟩:=h;have:xO ws s=too v s.2:=by unfold xO;rw[e]
     rw[this]at hq;obtain⟨c1,c2,rfl,h1,h2⟩:=Bj hp hq;exact⟨s::c1,c2,rfl,⟨v,e,hf,h1⟩,h2⟩
theorem Bc{ws:List Wy}{b:Int}:∀{c:List aq}{a:Int},je ws b c a->¬(zF ws c a).Nodup->∃c1 c2 c3 q,c=c1++(c2++c3)/\0<c2.length/\je ws q c1 a/\je ws q c2 q/\je ws b c3 q
 |[],a,_,hn=>absurd (by simp[zF]) hn|s::c,a,⟨v,e,hf,hp⟩,hn=>by
   have et:xO ws s=too v s.2:=by unfold xO;rw[e]
   rw[zF,et,nodup_cons]at hn;by_cases ha:a∈zF ws c (too v s.2);.obtain⟨c1,c2,rfl,h1,h2⟩:=Bj hp ha;exact⟨[],s::c1,c2,a,rfl,by simp,rfl,⟨v,e,hf,h1⟩,h2⟩
   .obtain⟨c1,c2,c3,q,rfl,h0,h1,h2,h3⟩:=Bc hp fun z=>hn ⟨ha,z⟩;exact⟨s::c1,c2,c3,q,rfl,h0,⟨v,e,hf,h1⟩,h2,h3⟩
def Le(h:Int)(n:Nat)(h':Int)(n':Nat):Prop:=h<h'\/(h=h'/\n<=n')
theorem Le.refl{h:Int}{n:Nat}:Le h n h n:=.inr ⟨rfl,le_refl _⟩
theorem Le.trans{a b c:Int}{k l n:Nat}(h1:Le a k b l)(h2:Le b l c n):Le a k c n:=by unfold Le at*;omega
theorem Le.add{a b:Int}{k l:Nat}(x:Int)(h1:Le a k b l):Le (a+x) (k+1) (b+x) (l+1):=by unfold Le at*;omega
theorem short{m:Int}{ws:List Wy}{fs:List Int}{F:Int->Int}{a b:Int}(hm:HN m ws)(h:Pt ws fs F)(ha:0<=a/\a<m):∀(n:Nat){c:List aq},c.length<=n->je ws b c a->wG ws fs c->∃c',je ws b c' a/\wG ws fs c'/\c'.length<=5/\Le (cH ws c') c'.length (cH ws c) c.length:=by intro n;induction n with|zero=>intro c hc hp ho;exact⟨c,hp,ho,by omega,.refl⟩|succ n ih=>
   intro c hc hp ho;by_cases h5:c.length<=5;.exact⟨c,hp,ho,h5,.refl⟩
   . have hn:¬(zF ws c a).Nodup:=fun z=>by have:=six hm.m1 z (HB hm hp ha);rw[Bf]at this;omega
     obtain⟨c1,c2,c3,q,rfl,h0,h1,h2,h3⟩:=Bc hp hn;have ho2:wG ws fs c2:=fun s hs=>ho s (by simp[hs]);have hr:=pY h h2 ho2;simp only[length_append]at hc;obtain⟨c',q1,q2,q3,q4⟩:=ih (c:=c1++c3) (by simp only[length_append];omega) (je.app h3 h1) fun s hs=>ho s (by rcases mem_append.mp hs with hs|hs<;>simp[hs]);refine⟨c',q1,q2,q3,q4.trans ?_⟩;rw[jl,jl,jl];simp only[length_append];unfold Le;omega
structure Vg(m:Int)(ws:List Wy)(fs:List Int)(es:List En):Prop where
 nd:(es.map (·.1)).Nodup
 Og:∀p l o,(p,l,o)∈es->0<=p/\p<m
 z:(0,0,(none,0))∈es
 wk:∀p l o,(p,l,o)∈es->∃c,je ws p c 0/\wG ws fs c/\c.length=l/\cH ws c=o.2
 stp:∀p l o,(p,l,o)∈es->(o.1=none/\p=0/\l=0)\/∃(s:aq)(v:Wy)(l':Nat)(o':Option aq×Int),o.1=some s/\ws[s.1]?=some v/\too v s.2=p/\jh ws fs (frm v s.2) s=true/\(frm v s.2,l',o')∈es/\Le (o'.2+hsp v s.2) (l'+1) o.2 l
theorem Vg.len{m:Int}{ws:List Wy}{fs:List Int}{es:List En}(h:Vg m ws fs es)(m1:m<=6):es.length<=6:=by
 have:=six m1 h.nd fun p hp=>by obtain⟨⟨p,l,o⟩,he,rfl⟩:=mem_map.mp hp;exact h.Og p l o he
 simpa using this
theorem iD{l:List En}{p:Int}{a b:Nat}{o u:Option aq×Int}(hn:(l.map (·.1)).Nodup)(h1:(p,a,o)∈l)(h2:(p,b,u)∈l):a=b/\o=u:=by have:=sY hn h1 h2;cases this;exact⟨rfl,rfl⟩
def At(es:List En)(p h:Int)(n:Nat):Prop:=∃l o,(p,l,o)∈es/\Le o.2 l h n
theorem At.le{es:List En}{p h h':Int}{n n':Nat}(a:At es p h n)(z:Le h n h' n'):At es p h' n':=by obtain⟨l,o,h1,h2⟩:=a;exact⟨l,o,h1,h2.trans z⟩
structure Wh(m:Int)(ws:List Wy)(fs:List Int)(n:Nat)(R:List Int)(es:List En):Prop where
 cm:Vg m ws fs es
 row:∀p∈R,∃l o,(p,l,o)∈es
 nr:R.Nodup
 wl:∀c p,je ws p c 0->wG ws fs c->c.length<=n->At es p (cH ws c) c.length
 cl:∀l o(s:aq)v,ws[s.1]?=some v->frm v s.2∉R->(frm v s.2,l,o)∈es->jh ws fs (frm v s.2) s=true->At es (too v s.2) (o.2+hsp v s.2) (l+1)few:6<=n->R=[]
structure In(m:Int)(ws:List Wy)(fs:List Int)(n:Nat)(R:List Int)(qi:List En)(K:aq->Prop)(es:List En)(ch:List Int):Prop where
 wh:Wh m ws fs n R qi
 cm:Vg m ws fs es
 le:∀p l o,(p,l,o)∈qi->At es p o.2 l
 out:∀p l o,p∉ch->(p,l,o)∈es->(p,l,o)∈qi
 chg:∀p∈ch,∃l o,(p,l,o)∈es
 nc:ch.Nodup
 dn:∀s,K s->∀v,ws[s.1]?=some v->∀l o,(frm v s.2,l,o)∈qi->At es (too v s.2) (o.2+hsp v s.2) (l+1)few:5<=n->ch=[]
theorem In.row{m:Int}{ws:List Wy}{fs:List Int}{n:Nat}{R:List Int}{qi:List En}{K:aq->Prop}{es:List En}{ch:List Int}(h:In m ws fs n R qi K es ch){p:Int}(hp:p∈R):∃l o,(p,l,o)∈es:=by obtain⟨l,o,z⟩:=h.wh.row p hp;obtain⟨l,o,z,_⟩:=h.le _ _ _ z;exact⟨l,o,z⟩
theorem In.keep{m:Int}{ws:List Wy}{fs:List Int}{n:Nat}{R:List Int}{qi:List En}{K:aq->Prop}{es:List En}{ch:List Int}(h:In m ws fs n R qi K es ch){s:aq}{v:Wy}{l:Nat}{o:Option aq×Int}(e:ws[s.1]?=some v)(hp:(frm v s.2,l,o)∈es)(hn:At es (too v s.2) (o.2+hsp v s.2) (l+1)):In m ws fs n R qi (fun u=>K u\/u=s) es ch:=by
 refine⟨h.wh,h.cm,h.le,h.out,h.chg,h.nc,fun u hu=>?_,h.few⟩;rcases hu with hu|rfl;.exact h.dn u hu
 .intro v' e' l0 o0 h0;rw[e]at e';cases e';obtain⟨l1,o1,q1,q2⟩:=h.le _ _ _ h0;obtain⟨rfl,rfl⟩:=iD h.cm.nd hp q1;exact hn.le (q2.add _)
theorem In.put{m:Int}{ws:List Wy}{fs:List Int}{F:Int->Int}{n:Nat}{R:List Int}{qi:List En}{K:aq->Prop}{es:List En}{ch:List Int}(h:In m ws fs n R qi K es ch)(hm:HN m ws)(hF:Pt ws fs F){s:aq}{v:Wy}{l:Nat}{o:Option aq×Int}(e:ws[s.1]?=some v)(hp:(frm v s.2,l,o)∈es)(ho:jh ws fs (frm v s.2) s=true)(hn:¬ At es (too v s.2) (o.2+hsp v s.2) (l+1)):In m ws fs n R qi (fun u=>K u\/u=s) (nH es (too v s.2) (l+1,(some s,o.2+hsp v s.2))) (pO ch (too v s.2)):=by
 have m0:=hm.m0;obtain⟨c,c1,c2,c3,c4⟩:=h.cm.wk _ _ _ hp;have w1:je ws (too v s.2) (c++[s]) 0:=je.app (c2:=[s]) ⟨v,e,rfl,rfl⟩ c1;have w2:wG ws fs (c++[s]):=fun u hu=>by
  rcases mem_append.mp hu with hu|hu;.exact c2 u hu
  .rw[mem_singleton.mp hu];exact⟨v,e,ho⟩
 have w3:(c++[s]).length=l+1:=by simp[c3]
 have w4:cH ws (c++[s])=o.2+hsp v s.2:=by rw[jl,c4,cH,cH,gJ e];omega
 have new:(too v s.2,l+1,(some s,o.2+hsp v s.2))∈nH es (too v s.2) (l+1,(some s,o.2+hsp v s.2)):=eG.mpr (.inl ⟨rfl,rfl⟩);have mono:∀{q l2 o2},(q,l2,o2)∈es->At (nH es (too v s.2) (l+1,(some s,o.2+hsp v s.2))) q o2.2 l2:=fun{q l2 o2}z=>by
  by_cases c:q=too v s.2;.subst c;refine⟨_,_,new,?_⟩;have:¬ Le o2.2 l2 (o.2+hsp v s.2) (l+1):=fun y=>hn ⟨_,_,z,y⟩;unfold Le at this ⊢;simp only;omega
  .exact⟨l2,o2,eG.mpr (.inr ⟨c,z⟩),.refl⟩
 have Ol:∀{q h n},At es q h n->At (nH es (too v s.2) (l+1,(some s,o.2+hsp v s.2))) q h n:=fun⟨l2,o2,z1,z2⟩=>(mono z1).le z2;refine⟨h.wh,⟨by rw[CW];exact Ac h.cm.nd,fun p l o z=>?_,?_,fun p l2 o2 z=>?_,fun p l2 o2 z=>?_⟩,fun p l o z=>Ol (h.le p l o z),fun p l o hc z=>?_,fun p hc=>?_,Ac h.nc,fun u hu=>?_,fun h5=>?_⟩
 . rcases eG.mp z with⟨rfl,_⟩|⟨_,z⟩;.exact GR hm e s.2
   .exact h.cm.Og p l o z
 .refine eG.mpr (.inr ⟨fun z=>hn ?_,h.cm.z⟩);have:=pY hF w1 w2;rw[<-z,w4]at this;rw[<-z];exact⟨_,_,h.cm.z,by unfold Le;simp only;omega⟩
 . rcases eG.mp z with⟨rfl,y⟩|⟨_,z⟩;.cases y;exact⟨_,w1,w2,w3,w4⟩
   .exact h.cm.wk p l2 o2 z
 . rcases eG.mp z with⟨rfl,y⟩|⟨_,z⟩;.cases y;obtain⟨l',o',q1,q2⟩:=mono hp;exact .inr ⟨s,v,l',o',rfl,e,rfl,ho,q1,q2.add _⟩
   . rcases h.cm.stp p l2 o2 z with z|⟨s',v',l',o',z1,z3,z4,z5,z6,z7⟩;.exact .inl z
     .obtain⟨l3,o3,q1,q2⟩:=mono z6;exact .inr ⟨s',v',l3,o3,z1,z3,z4,z5,q1,(q2.add _).trans z7⟩
 . rw[vh,not_or]at hc;rcases eG.mp z with⟨rfl,_⟩|⟨_,z⟩;.exact absurd rfl hc.2
   .exact h.out p l o hc.1 z
 . rcases vh.mp hc with hc|rfl;.obtain⟨l2,o2,z⟩:=h.chg p hc;obtain⟨l3,o3,z,_⟩:=mono z;exact⟨l3,o3,z⟩
   .exact⟨_,_,new⟩
 . rcases hu with hu|rfl;.exact fun v' e' l0 o0 h0=>Ol (h.dn u hu v' e' l0 o0 h0)
   .intro v' e' l0 o0 h0;rw[e]at e';cases e';obtain⟨l1,o1,q1,q2⟩:=h.le _ _ _ h0;obtain⟨rfl,rfl⟩:=iD h.cm.nd hp q1;exact⟨_,_,new,q2.add _⟩
 .obtain⟨c',q1,q2,q3,q4⟩:=short hm hF ⟨by omega,by omega⟩ _ (le_refl _) w1 w2;obtain⟨l1,o1,z1,z2⟩:=h.wh.wl c' _ q1 q2 (by omega);rw[w3,w4]at q4;exact absurd ((h.le _ _ _ z1).le (z2.trans q4)) hn
theorem Wh.start{m:Int}{ws:List Wy}{fs:List Int}(m0:2<=m):Wh m ws fs 0 [0] [(0,0,(none,0))]:=by
 refine⟨⟨by simp,fun p l o z=>?_,by simp,fun p l o z=>?_,fun p l o z=>.inl ?_⟩,fun p hp=>?_,by simp,fun c p hp _ hc=>?_,fun l o s v _ hR z=>?_,fun h=>by omega⟩;.simp at z;omega
 .simp at z;obtain⟨rfl,rfl,rfl⟩:=z;exact⟨[],rfl,fun s hs=>(by cases hs),rfl,rfl⟩
 .simp at z;obtain⟨rfl,rfl,rfl⟩:=z;exact⟨rfl,rfl,rfl⟩
 .simp at hp;subst hp;exact⟨0,(none,0),by simp⟩
 .cases c with|nil=>have:(0:Int)=p:=hp;subst this;exact⟨0,(none,0),by simp,.refl⟩|cons _ _=>simp at hc
 .simp at z hR;exact absurd z.1 hR
theorem Wh.to{m:Int}{ws:List Wy}{fs:List Int}{n:Nat}{R:List Int}{es:List En}(h:Wh m ws fs n R es):In m ws fs n R es (fun _=>False) es []:=⟨h,h.cm,fun p l o z=>⟨l,o,z,.refl⟩,fun p l o _ z=>z,fun p hp=>(by cases hp),.nil,fun s hs=>hs.elim,fun _=>rfl⟩
theorem In.out'{m:Int}{ws:List Wy}{fs:List Int}{n:Nat}{R:List Int}{qi:List En}{es:List En}{ch:List Int}(h:In m ws fs n R qi (fun s=>∃p∈R,jh ws fs p s=true) es ch):Wh m ws fs (n+1) ch es:=by
 have leA:∀{p h' k},At qi p h' k->At es p h' k:=fun⟨l,o,z1,z2⟩=>(h.le _ _ _ z1).le z2;have Om:∀(s:aq)v l o,ws[s.1]?=some v->(frm v s.2,l,o)∈qi->jh ws fs (frm v s.2) s=true->At es (too v s.2) (o.2+hsp v s.2) (l+1):=fun s v l o e z ho=>by
  by_cases c:frm v s.2∈R;.exact h.dn s ⟨_,c,ho⟩ v e l o z
  .exact leA (h.wh.cl l o s v e c z ho)
 refine⟨h.cm,h.chg,h.nc,fun c p hp ho hc=>?_,fun l o s v e hc z hs=>Om s v l o e (h.out _ _ _ hc z) hs,fun h6=>h.few (by omega)⟩;rcases List.eq_nil_or_concat c with rfl|⟨c',s,rfl⟩;.exact leA (h.wh.wl [] p hp ho (zero_le _))
 . rw[List.concat_eq_append]at*;obtain⟨q,h1,v,e,rfl,h3⟩:=zR hp;have h3:too v s.2=p:=h3;subst h3;obtain⟨v',e',o'⟩:=ho s (by simp);rw[e]at e';cases e';simp only[length_append,length_cons,length_nil]at hc;obtain⟨l,o,z1,z2⟩:=h.wh.wl c' _ h1 (fun u hu=>ho u (by simp[hu])) (by omega);refine(Om s v l o e z1 o').le ?_;have:=z2.add (hsp v s.2);have w4:cH ws (c'++[s])=cH ws c'+hsp v s.2:=by rw[jl,cH,cH,gJ e];omega
   rw[w4];simpa using this
structure gK(m:Int)(ws:List Wy)(fs:List Int)(es:List En):Prop where
 cm:Vg m ws fs es
 cl:∀l o(s:aq)v,ws[s.1]?=some v->(frm v s.2,l,o)∈es->jh ws fs (frm v s.2) s=true->At es (too v s.2) (o.2+hsp v s.2) (l+1)
theorem Wh.fin{m:Int}{ws:List Wy}{fs:List Int}{n:Nat}{es:List En}(h:Wh m ws fs n [] es):gK m ws fs es:=⟨h.cm,fun l o s v e z ho=>h.cl l o s v e (by simp) z ho⟩
theorem In.imp{m:Int}{ws:List Wy}{fs:List Int}{n:Nat}{R:List Int}{qi:List En}{K K':aq->Prop}{es:List En}{ch:List Int}(h:In m ws fs n R qi K es ch)(z:∀s,K' s->K s):In m ws fs n R qi K' es ch:=⟨h.wh,h.cm,h.le,h.out,h.chg,h.nc,fun s hs=>h.dn s (z s hs),h.few⟩
theorem Rv{m:Int}{ws:List Wy}{fs:List Int}{l:List aq}{p:Int}(hp:0<=p/\p<m):at' ((rD (jr ws fs m.toNat l)).map D.lst) p=some (.lst ((l.filter (jh ws fs p)).map sD)):=by rw[yp hp.1 (by simp[rD,jr];omega)];simp[rD,jr,show p.toNat<m.toNat by omega,Int.toNat_of_nonneg hp.1]
@[simp]theorem cut3{a b c:D}:Mu (.tup [a,b,c]) (part (.con .non) .non) (part (.con (.int 2)) (.int 2))=some (.val (.tup [a,b])):=rfl
theorem Q9{a b i j:Int}:cm .lt (.tup [.int a,.int i]) (.tup [.int b,.int j])=some (aW [a,i] [b,j]):=rfl
theorem lex_lt{a b:Int}{i j:Nat}:aW [a,(i:Int)] [b,(j:Int)]=true↔¬ Le b j a i:=by unfold Le;simp[aW];omega
noncomputable def bg:Sl:=.val false (.dv [0] [.int 0])
inductive JC2(m:Int)(ws:List Wy)(fs:List Int)(a0 a1 a2 a3 a6:Sl)(n:Nat)(R:List Int)(qi:List En)(pre:List Int)(p:Int)(r:List D)(ρ:List Sl):Prop where|mk(es:List En)(ch:List Int)(jc us:List aq)(s8 s9 ql:Sl)(q0:ρ=[a0,a1,a2,a3,.cF (es.map en),.val false (.int p),a6,.cF (ch.map xP),s8,s9,ql])(q1:A3 (fr s8=true) (fr s9=true) (fr ql=true))(q2:r=us.map sD)(q3:jc++us=(fM ws.length).filter (jh ws fs p))(q4:In m ws fs n R qi (fun s=>(∃q∈pre,jh ws fs q s=true)\/s∈jc) es ch)
inductive JC1(m:Int)(ws:List Wy)(fs:List Int)(a0 a1 a2 a3 a6:Sl)(n:Nat)(R:List Int)(qi:List En)(r:List D)(ρ:List Sl):Prop where|mk(es:List En)(ch pre qs:List Int)(s5 s8 s9 ql:Sl)(q0:ρ=[a0,a1,a2,a3,.cF (es.map en),s5,a6,.cF (ch.map xP),s8,s9,ql])(q1:A4 (fr s5=true) (fr s8=true) (fr s9=true) (fr ql=true))(q2:r=qs.map D.int)(q3:pre++qs=R)(q4:In m ws fs n R qi (fun s=>∃q∈pre,jh ws fs q s=true) es ch)
inductive JCw(m:Int)(ws:List Wy)(fs:List Int)(a0 a1 a2 a3:Sl)(M:Nat)(ρ:List Sl):Prop where|mk(n:Nat)(R:List Int)(es:List En)(s5 s7 s8 s9 ql:Sl)(q0:ρ=[a0,a1,a2,a3,.cF (es.map en),s5,.own false (R.map D.int),s7,s8,s9,ql])(q1:A4 (fr s5=true) (fr s8=true) (fr s9=true) (fr ql=true))(q2:(s7=.aV\/∃d,s7=.val false d))(q3:Wh m ws fs n R es)(q4:7<=n+M)
def JC0(a0 a1 a2 a3:Sl)(r:List D)(ρ:List Sl):Prop:=(r=[.int 0]/\ρ=[a0,a1,a2,a3,.cF [],.aV,.aV,.aV,.aV,.aV,.aV])\/(r=[]/\ρ=[a0,a1,a2,a3,.cF [en (0,0,(none,0))],.val false (.int 0),.aV,.aV,.aV,.aV,.aV])
theorem u9{w n:Nat}{s:Sl}{m:Int}{ws:List Wy}{fs:List Int}{F:Int->Int}{Q:R->List Sl->Prop}(hw:100<=w)(hF:Pt ws fs F)(hs:ZJ s fs)(h:HN m ws)(hf:fs.length=ws.length)(k:∀es,gK m ws fs es->Q (.val (m9 es)) [.val false (bj m ws),s,bg]):(run Γ w (n+3) 5 [.val false (bj m ws),s,bg]).sat Q:=by
 have hn:=h.len;have m0:=h.m0;have m1:=h.m1;refine aO (d:=f5) rfl rfl (by decide) ?_;refine fH (fun ρ=>ρ=[.val false (bj m ws),s,bg,.val false (.lst ((rD (jr ws fs m.toNat (fM ws.length))).map D.lst)),.aV,.aV,.aV,.aV,.aV,.aV,.aV]) ?_ ?_;.have hss:=hs;rcases hs with rfl|⟨b,rfl⟩;all_goals simp[f5,bg];refine Gm (by first|exact .inl rfl|exact .inr ⟨_,rfl⟩) h hf ?_;simp
 rintro _ rfl;generalize hA:((rD (jr ws fs m.toNat (fM ws.length))).map D.lst)=A;symm;simp;apply ak;simp[bg];refine cu (JC0 (.val false (bj m ws)) s bg (.val false (.lst A))) ?_ ?_ (.inl ⟨rfl,rfl⟩)
 . rintro d r _(⟨hr,rfl⟩|⟨hr,rfl⟩)
   . obtain⟨rfl,rfl⟩:d=.int 0/\r=[]:=by simpa using hr
     simp;apply ak;simp[bg,mO];exact .inr ⟨rfl,rfl⟩
   .cases hr
 rintro _(⟨hr,rfl⟩|⟨hr,rfl⟩);.cases hr
 simp;apply ak;simp[bg];apply ak;simp;refine iI (JCw m ws fs _ _ _ _) ?_ (k:=w) (m:=50) (by omega) ⟨0,[0],[(0,0,(none,0))],_,_,_,_,_,rfl,⟨rfl,rfl,rfl,rfl⟩,.inl rfl,Wh.start m0,by omega⟩;rintro M _⟨n',R,es,s5,s7,s8,s9,ql,rfl,⟨h5,h8,h9,h10⟩,h7,hW,hM⟩;by_cases hR:R=[];.subst hR;simp;apply ak;simp;have:=k es hW.fin;simp[Function.comp_def,en];exact this
 . have hR2:0<R.length:=by cases R with|nil=>exact absurd rfl hR|cons _ _=>simp
   simp[hR2];refine fH (fun ρ=>ρ=[.val false (bj m ws),s,bg,.val false (.lst A),.cF (es.map en),s5,.own false (R.map D.int),.cF [],s8,s9,ql]) ?_ ?_
   . rcases h7 with rfl|⟨d,rfl⟩;.simp[bg]
     .simp[bg]
   rintro _ rfl;symm;simp;refine cu (JC1 m ws fs _ _ _ _ _ n' R es) ?_ ?_ ⟨es,[],[],R,s5,s8,s9,ql,rfl,⟨h5,h8,h9,h10⟩,rfl,rfl,hW.to.imp fun s hs=>by obtain⟨q,hq,_⟩:=hs;cases hq⟩;.rintro d r _⟨es',ch,pre,qs,s5,s8,s9,ql,rfl,⟨h5,h8,h9,h10⟩,hr,hpq,hI⟩;cases qs with|nil=>cases hr|cons p qs=>
       obtain⟨rfl,rfl⟩:d=.int p/\r=qs.map D.int:=by simpa using hr
       have hpR:p∈R:=by rw[<-hpq];simp
       have hpm:0<=p/\p<m:=by obtain⟨l,o,ho⟩:=hI.row hpR;exact hI.cm.Og _ _ _ ho
       have hrow:=Rv (ws:=ws) (fs:=fs) (l:=fM ws.length) hpm;rw[hA]at hrow;simp[h5];apply ak;simp[hrow];refine cu (JC2 m ws fs _ _ _ _ _ n' R es pre p) ?_ ?_ ⟨es',ch,[],_,s8,s9,ql,rfl,⟨h8,h9,h10⟩,rfl,rfl,hI.imp fun s hs=>by rcases hs with hs|hs;exact hs;cases hs⟩;.rintro d r _⟨es',ch,jc,us,s8,s9,ql,rfl,⟨h8,h9,h10⟩,hr,hdu,hI⟩;cases us with|nil=>cases hr|cons u us=>
           obtain⟨rfl,rfl⟩:d=sD u/\r=us.map sD:=by simpa using hr
           have hu:jh ws fs p u=true:=by
            have:u∈(fM ws.length).filter (jh ws fs p):=by rw[<-hdu];simp
            exact(mem_filter.mp this).2
           obtain⟨v,g,e1,e2,e3,e4⟩:=oV hu;have Yv:(jc++[u])++us=(fM ws.length).filter (jh ws fs p):=by rw[append_assoc];exact hdu
           obtain⟨lp,op,hop⟩:=hI.row hpR;subst e3;have gp:=oF hI.cm.nd hop;have hlen:=hI.cm.len m1;have hcl:ch.length<=6:=six m1 hI.nc fun q hq=>by obtain⟨l,o,z⟩:=hI.chg q hq;exact hI.cm.Og _ _ _ z
           have Yw:∀s,((∃q∈pre,jh ws fs q s=true)\/s∈jc++[u])->((∃q∈pre,jh ws fs q s=true)\/s∈jc)\/s=u:=fun s hs=>by
            rcases hs with hs|hs;.exact .inl (.inl hs)
            . rcases mem_append.mp hs with hs|hs;.exact .inl (.inr hs)
              .exact .inr (by simpa using hs)
           simp[h8];apply ak;simp[sD];refine jP e1 ?_;simp[h9];apply ak;simp[gp,Ba];refine qM e1 ?_;simp[gp,Ba,h10];apply ak;have keep:At es' (too v u.2) (op.2+hsp v u.2) (lp+1)->JC2 m ws fs (.val false (bj m ws)) s bg (.val false (.lst A)) (.lent (R.map D.int)) n' R es pre (frm v u.2) (us.map sD) [.val false (bj m ws),s,bg,.val false (.lst A),.cF (es'.map en),.val false (.int (frm v u.2)),.lent (R.map D.int),.cF (ch.map xP),.val false (dh u.1 u.2),.val false (.int (too v u.2)),.val false (.tup [.int (op.2+hsp v u.2),.int ((lp:Int)+1)])]:=fun hat=>⟨es',ch,jc++[u],us,_,_,_,rfl,⟨rfl,rfl,rfl⟩,rfl,Yv,(hI.keep e1 hop hat).imp Yw⟩;have Yx:¬ At es' (too v u.2) (op.2+hsp v u.2) (lp+1)->JC2 m ws fs (.val false (bj m ws)) s bg (.val false (.lst A)) (.lent (R.map D.int)) n' R es pre (frm v u.2) (us.map sD) [.val false (bj m ws),s,bg,.val false (.lst A),.cF ((nH es' (too v u.2) (lp+1,(some u,op.2+hsp v u.2))).map en),.val false (.int (frm v u.2)),.lent (R.map D.int),.cF ((pO ch (too v u.2)).map xP),.val false (dh u.1 u.2),.val false (.int (too v u.2)),.val false (.tup [.int (op.2+hsp v u.2),.int ((lp:Int)+1)])]:=fun hat=>⟨_,_,jc++[u],us,_,_,_,rfl,⟨rfl,rfl,rfl⟩,rfl,Yv,(hI.put h hF e1 hop hu hat).imp Yw⟩;have p1:fL (es'.map en) (too v u.2) (.tup [.int (op.2+hsp v u.2),.int ((lp:Int)+1),dh u.1 u.2])=(nH es' (too v u.2) (lp+1,(some u,op.2+hsp v u.2))).map en:=by rw[<-Ls];simp[Ba,oS,sD]
           have p2:fL (ch.map xP) (too v u.2) (.bl true)=(pO ch (too v u.2)).map xP:=JD;by_cases hq:∃l o,(too v u.2,l,o)∈es'
           . obtain⟨l,o,hlo⟩:=hq;have gt:=oF hI.cm.nd hlo;have kt:qx (es'.map en) (too v u.2)=true:=yr.mpr ⟨l,o,hlo⟩;have hlx:=lex_lt (a:=op.2+hsp v u.2) (i:=lp+1) (b:=o.2) (j:=l);rw[show((lp+1:Nat):Int)=(lp:Int)+1 by omega]at hlx;simp[kt,gt,Ba,Q9];refine⟨fun z=>?_,fun z=>?_⟩
             . have hat:¬ At es' (too v u.2) (op.2+hsp v u.2) (lp+1):=fun⟨l2,o2,y1,y2⟩=>by obtain⟨rfl,rfl⟩:=iD hI.cm.nd hlo y1;exact hlx.mp z y2
               symm;simp[p1];refine⟨by decide,fun _=>?_,by show _<16777216;omega⟩;symm;simp[p2];refine⟨fun _=>Yx hat,by show _<16777216;omega⟩
             . have hat:At es' (too v u.2) (op.2+hsp v u.2) (lp+1):=by
                refine⟨l,o,hlo,?_⟩;by_cases y:Le o.2 l (op.2+hsp v u.2) (lp+1);.exact y
                .rw[hlx.mpr y]at z;cases z
               exact keep hat
           .have kt:qx (es'.map en) (too v u.2)=false:=kin_no hq;simp[kt];apply ak;simp[p1];refine⟨by decide,fun _=>?_,by show _<16777216;omega⟩;symm;simp[p2];exact⟨fun _=>Yx fun⟨l2,o2,y1,_⟩=>hq ⟨l2,o2,y1⟩,by show _<16777216;omega⟩
       . rintro _⟨es',ch,jc,us,s8,s9,ql,rfl,⟨h8,h9,h10⟩,hr,hdu,hI⟩;have:us=[]:=by cases us with|nil=>rfl|cons _ _=>cases hr
         subst this;rw[append_nil]at hdu;simp;refine⟨es',ch,pre++[p],qs,_,_,_,_,rfl,⟨rfl,h8,h9,h10⟩,rfl,by rw[append_assoc];exact hpq,hI.imp fun s hs=>?_⟩;obtain⟨q,hq,hs⟩:=hs;rcases mem_append.mp hq with hq|hq;.exact .inl ⟨q,hq,hs⟩
         . obtain rfl:q=p:=by simpa using hq
           refine .inr ?_;rw[hdu];obtain⟨v,g,e1,_⟩:=oV hs;exact mem_filter.mpr ⟨vB (List.getElem?_eq_some_iff.mp e1).1,hs⟩
   . rintro _⟨es',ch,pre,qs,s5,s8,s9,ql,rfl,⟨h5,h8,h9,h10⟩,hr,hpq,hI⟩;have:qs=[]:=by cases qs with|nil=>rfl|cons _ _=>cases hr
     subst this;rw[append_nil]at hpq;subst hpq;have hcl:ch.length<=6:=six m1 hI.nc fun q hq=>by obtain⟨l,o,z⟩:=hI.chg q hq;exact hI.cm.Og _ _ _ z
     have hO:=hI.out';have hn6:n'<6:=by
      by_cases c:6<=n';.exact absurd (hW.few c) hR
      .omega
     simp;apply ak;simp[show ch.length<=16777216 by omega];exact⟨M-1,by omega,n'+1,ch,es',_,_,_,_,_,rfl,⟨h5,h8,h9,h10⟩,.inr ⟨_,rfl⟩,hO,by omega⟩
theorem gK.all{m:Int}{ws:List Wy}{fs:List Int}{es:List En}(h:gK m ws fs es){b:Int}:∀{c:List aq}{a:Int}{l:Nat}{o:Option aq×Int},je ws b c a->wG ws fs c->(a,l,o)∈es->At es b (o.2+cH ws c) (l+c.length)|[],a,l,o,hp,_,z=>by have:a=b:=hp;subst this;exact⟨l,o,z,by unfold Le cH;simp⟩|s::c,a,l,o,⟨v,e,hf,hp⟩,ho,z=>by subst hf;obtain⟨v',e',o'⟩:=ho s (by simp);rw[e]at e';cases e';obtain⟨l1,o1,z1,z2⟩:=h.cl l o s v e z o';obtain⟨l2,o2,z3,z4⟩:=gK.all h hp (fun u hu=>ho u (mem_cons_of_mem _ hu)) z1;refine⟨l2,o2,z3,z4.trans ?_⟩;rw[cH,gJ e,length_cons];unfold Le at*;omega
theorem gK.l5{m:Int}{ws:List Wy}{fs:List Int}{F:Int->Int}{es:List En}(h:gK m ws fs es)(hm:HN m ws)(hF:Pt ws fs F){p:Int}{l:Nat}{o:Option aq×Int}(z:(p,l,o)∈es):l<=5:=by have m0:=hm.m0;obtain⟨c,c1,c2,c3,c4⟩:=h.cm.wk p l o z;obtain⟨c',q1,q2,q3,q4⟩:=short hm hF ⟨by omega,by omega⟩ _ (le_refl _) c1 c2;obtain⟨l2,o2,z1,z2⟩:=h.all q1 q2 h.cm.z;obtain⟨rfl,rfl⟩:=iD h.cm.nd z z1;rw[c3,c4]at q4;unfold Le at*;simp only at z2;omega
theorem gK.on{m:Int}{ws:List Wy}{fs:List Int}{es:List En}(h:gK m ws fs es){p:Int}{l:Nat}{o:Option aq×Int}(z:(p,l,o)∈es):(o=(none,0)/\p=0/\l=0)\/∃(s:aq)(v:Wy)(l':Nat)(o':Option aq×Int),o=(some s,o'.2+hsp v s.2)/\l=l'+1/\ws[s.1]?=some v/\too v s.2=p/\jh ws fs (frm v s.2) s=true/\(frm v s.2,l',o')∈es:=by
 rcases h.cm.stp p l o z with⟨h1,rfl,rfl⟩|⟨s,v,l',o',h1,h2,rfl,h4,h5,h6⟩;.exact .inl ⟨(iD h.cm.nd z h.cm.z).2,rfl,rfl⟩
 . obtain⟨l2,o2,z1,z2⟩:=h.cl l' o' s v h2 h5 h4;obtain⟨rfl,rfl⟩:=iD h.cm.nd z z1;refine .inr ⟨s,v,l',o',?_,?_,h2,rfl,h4,h5⟩;.exact Prod.ext_iff.mpr ⟨h1,by show _=o'.2+hsp v s.2;unfold Le at*;omega⟩
   .unfold Le at*;omega
structure Ss(ws:List Wy)(fs:List Int)(es:List En)(p:Int)(L:Nat)(H:Int)(a:Int)(l:Nat)(h:Int)(c:List aq):Prop where
 Mg:je ws p c a
 jr:wG ws fs c
 nd:(c.map (·.1)).Nodup
 lv:∀s∈c,∀v,ws[s.1]?=some v->∃l1 o1 o2,(frm v s.2,l1,o1)∈es/\(too v s.2,l1+1,o2)∈es/\l<=l1
 len:c.length+l=L
 hrs:cH ws c+h=H
theorem lu{v:Wy}{f g:Bool}(h:g≠f):frm v g=too v f/\too v g=frm v f:=by cases f<;>cases g<;>first|exact absurd rfl h|exact⟨rfl,rfl⟩
theorem Ss.cons{m:Int}{ws:List Wy}{fs:List Int}{es:List En}{p:Int}{L l:Nat}{H x:Int}{c:List aq}{s:aq}{v:Wy}{o o':Option aq×Int}(hc:Vg m ws fs es)(h:Ss ws fs es p L H (too v s.2) (l+1) (x+hsp v s.2) c)(e:ws[s.1]?=some v)(h1:(too v s.2,l+1,o)∈es)(h2:(frm v s.2,l,o')∈es)(ho:jh ws fs (frm v s.2) s=true):Ss ws fs es p L H (frm v s.2) l x (s::c):=by
 refine⟨⟨v,e,rfl,h.Mg⟩,fun u hu=>?_,?_,fun u hu x ex=>?_,by have:=h.len;simp only[length_cons];omega,by have:=h.hrs;rw[cH,gJ e];omega⟩
 . rcases mem_cons.mp hu with rfl|hu;.exact⟨v,e,ho⟩
   .exact h.jr u hu
 . rw[map_cons,nodup_cons];refine⟨fun hm=>?_,h.nd⟩;obtain⟨t,ht,et⟩:=mem_map.mp hm;obtain⟨l1,o1,o2,q1,q2,q3⟩:=h.lv t ht v (by rw[et];exact e);by_cases z:t.2=s.2;.rw[z]at q1;have:=(iD hc.nd q1 h2).1;omega
   .rw[(lu z).2]at q2;have:=(iD hc.nd q2 h2).1;omega
 . rcases mem_cons.mp hu with rfl|hu;.rw[e]at ex;cases ex;exact⟨l,_,_,h2,h1,le_refl _⟩
   .obtain⟨l1,o1,o2,q1,q2,q3⟩:=h.lv u hu x ex;exact⟨l1,o1,o2,q1,q2,by omega⟩
theorem Hv{es:List En}{p:Int}{x:Nat×(Option aq×Int)}(hn:(es.map (·.1)).Nodup)(h:(p,x)∈es):mO ((es.map (·.1)).zip (es.map Ba)) p=some (Ba (p,x)):=by
 have:(es.map (·.1)).zip (es.map Ba)=es.map en:=by rw[List.zip_map'];rfl
 rw[this];exact oF hn h
inductive JSt(m:Int)(ws:List Wy)(fs:List Int)(es:List En)(p:Int)(L:Nat)(H:Int)(a0 a1 a2:Sl)(M:Nat)(ρ:List Sl):Prop where|mk(a:Int)(l:Nat)(o:Option aq×Int)(c:List aq)(s5:Sl)(q0:ρ=[a0,a1,a2,.own false (c.reverse.map sD),.val false (.int a),s5])(q1:fr s5=true)(q2:(a,l,o)∈es)(q3:Ss ws fs es p L H a l o.2 c)(q4:l<=M)
theorem BR{w n L:Nat}{m p:Int}{ws:List Wy}{fs:List Int}{es:List En}{o:Option aq×Int}{Q:R->List Sl->Prop}(hw:100<=w)(h:gK m ws fs es)(hL:L<=5)(hp:(p,L,o)∈es)(k:∀c,Ss ws fs es p L o.2 0 0 0 c->Q (.val (.tup (c.map sD))) [.val false (bj m ws),.val false (m9 es),.val false (.int p)]):(run Γ w (n+2) 6 [.val false (bj m ws),.val false (m9 es),.val false (.int p)]).sat Q:=by
 refine aO (d:=f6) rfl rfl (by decide) ?_;symm;simp[f6];apply ak;simp;apply ak;simp;refine iI (JSt m ws fs es p L o.2 _ _ _) ?_ (k:=w) (m:=L) (by omega) ⟨p,L,o,[],.aV,rfl,rfl,hp,⟨rfl,fun s hs=>(by cases hs),by simp,by simp,by simp,by rw[cH];omega⟩,le_refl _⟩;rintro M _⟨a,l,o1,c,s5,rfl,h5,ha,hc,hM⟩;have gz:=Hv h.cm.nd ha;rcases h.on ha with⟨rfl,rfl,rfl⟩|⟨s,v,l',o',rfl,rfl,e,rfl,ho,h2⟩;.simp[m9,gz,Ba,oS];symm;simp;exact k c hc
 . simp[m9,gz,Ba,oS,sD,dh];symm;simp[gz,Ba,oS,h5];apply ak;have hcl:c.length<16777216:=by have:=hc.len;omega
   simp[hcl];apply ak;simp[sD];refine jP e ?_;simp;exact⟨l',by omega,frm v s.2,l',o',s::c,.val false (dh s.1 s.2),by simp[m9,sD],rfl,h2,hc.cons h.cm e ha h2 ho,le_refl _⟩
noncomputable def sg(x:Int)(f:Bool):Int:=if f then x else-x
noncomputable def lB(x:Int)(fs:List Int)(s:aq):List Int:=fs.set s.1 ((fs[s.1]?.getD 0)+sg x s.2)
noncomputable def aug(x:Int)(fs:List Int)(c:List aq):List Int:=c.foldl (lB x) fs
@[simp]theorem vZ{x:Int}{fs:List Int}{s:aq}:(lB x fs s).length=fs.length:=by simp[lB]
theorem tY{x:Int}:∀{c:List aq}{fs:List Int},(aug x fs c).length=fs.length|[],_=>rfl|s::c,fs=>by show(aug x (lB x fs s) c).length=_;rw[tY,vZ]
theorem nP{x:Int}{j:Nat}:∀{c:List aq}{fs:List Int},j∉c.map (·.1)->(aug x fs c)[j]?=fs[j]?|[],_,_=>rfl|s::c,fs,h=>by rw[map_cons,mem_cons,not_or]at h;show(aug x (lB x fs s) c)[j]?=_;rw[nP h.2];unfold lB;rw[getElem?_set_ne (fun z=>h.1 z.symm)]
theorem yw{x:Int}:∀{c:List aq}{fs:List Int}{s:aq}{g:Int},(c.map (·.1)).Nodup->s∈c->fs[s.1]?=some g->(aug x fs c)[s.1]?=some (g+sg x s.2)
 |[],_,_,_,_,h,_=>by cases h|t::c,fs,s,g,hn,h,e=>by
   rw[map_cons,nodup_cons]at hn;show(aug x (lB x fs t) c)[s.1]?=_;have hlt:=(List.getElem?_eq_some_iff.mp e).1;rcases mem_cons.mp h with rfl|h;.rw[nP hn.1];unfold lB;rw[getElem?_set_self hlt,e];rfl
   .refine yw hn.2 h ?_;unfold lB;rw[getElem?_set_ne (fun z=>hn.1 (by rw[z];exact mem_map.mpr ⟨s,h,rfl⟩))];exact e
inductive JWt(x:Int)(fs:List Int)(c:List aq)(a0 a1 a2:Sl)(r:List D)(ρ:List Sl):Prop where|mk(jc us:List aq)(s4 s5:Sl)(q0:ρ=[a0,a1,a2,.own false ((aug x fs jc).map D.int),s4,s5])(q1:fr s4=true)(q2:fr s5=true)(q3:r=us.map sD)(q4:jc++us=c)
theorem Ef{w n:Nat}{s:Sl}{x:Int}{fs:List Int}{c:List aq}{Q:R->List Sl->Prop}(hs:ZJ s fs)(hc:∀s∈c,s.1<fs.length)(k:Q (.own ((aug x fs c).map D.int)) [s,.val false (.tup (c.map sD)),.val false (.int x)]):(run Γ w (n+1) 7 [s,.val false (.tup (c.map sD)),.val false (.int x)]).sat Q:=by
 refine aO (d:=f7) rfl rfl (by decide) ?_;refine fH (fun ρ=>ρ=[s,.val false (.tup (c.map sD)),.val false (.int x),.own false (fs.map D.int),.aV,.aV]) ?_ ?_;.rcases hs with rfl|⟨b,rfl⟩;all_goals simp[f7]
 rintro _ rfl;symm;simp;refine cu (JWt x fs c _ _ _) ?_ ?_ ⟨[],c,.aV,.aV,rfl,rfl,rfl,rfl,rfl⟩;.rintro d r _⟨jc,us,s4,s5,rfl,h4,h5,hr,hd⟩;cases us with|nil=>cases hr|cons u us=>
     obtain⟨rfl,rfl⟩:d=sD u/\r=us.map sD:=by simpa using hr
     have hu:u.1<(aug x fs jc).length:=by rw[tY];exact hc u (by rw[<-hd];simp)
     have ea:(aug x fs jc)[u.1]?=some (aug x fs jc)[u.1]:=by simp[hu]
     have hx:ie (aug x fs jc).length (u.1:Int)=some u.1:=by unfold ie;rw[if_pos (by omega),if_pos (by omega)];simp
     have he:aug x fs (jc++[u])=(aug x fs jc).set u.1 ((aug x fs jc)[u.1]+sg x u.2):=by unfold aug;rw[List.foldl_append];show lB x (aug x fs jc) u=_;unfold lB;rw[ea];rfl
     have hd2:(jc++[u])++us=c:=by rw[append_assoc];exact hd
     generalize(aug x fs jc)[u.1]=g at*;simp[sD,dh,h4,h5];apply ak;obtain⟨j,f⟩:=u;cases f with|true=>simp[iw ea,hx];exact⟨jc++[(j,true)],us,_,_,by rw[he,map_set];rfl,rfl,rfl,rfl,hd2⟩|false=>simp[iw ea,hx];exact⟨jc++[(j,false)],us,_,_,by rw[he,map_set];rfl,rfl,rfl,rfl,hd2⟩
 . rintro _⟨jc,us,s4,s5,rfl,h4,h5,hr,hd⟩;have:us=[]:=by cases us with|nil=>rfl|cons _ _=>cases hr
   subst this;rw[append_nil]at hd;subst hd;simp;apply ak;simp;exact k
noncomputable def Eb(F:Int->Int)(D:Int):List En->Int->Int|[],p=>F p+D|e::es,p=>if e.1=p then e.2.2.2 else Eb F D es p
theorem jT{F:Int->Int}{D p:Int}{l:Nat}{o:Option aq×Int}:∀{es:List En},(es.map (·.1)).Nodup->(p,l,o)∈es->Eb F D es p=o.2
 |[],_,h=>by cases h|e::es,hn,h=>by
   rw[map_cons,nodup_cons]at hn;rw[Eb];rcases mem_cons.mp h with rfl|h;.rw[if_pos rfl]
   .rw[if_neg (fun z=>hn.1 (by rw[z];exact mem_map.mpr ⟨_,h,rfl⟩))];exact jT hn.2 h
theorem oA{F:Int->Int}{D p:Int}:∀{es:List En},(¬ ∃l o,(p,l,o)∈es)->Eb F D es p=F p+D|[],_=>rfl|e::es,h=>by rw[Eb,if_neg (fun z=>h ⟨e.2.1,e.2.2,by rw[<-z];simp⟩)];exact oA fun⟨l,o,z⟩=>h ⟨l,o,mem_cons_of_mem _ z⟩
theorem Fb(F:Int->Int):∀(es:List En),∃D,∀p l o,(p,l,o)∈es->o.2<=F p+D
 |[]=>⟨0,fun _ _ _ h=>by cases h⟩|e::es=>by
   obtain⟨D,h⟩:=Fb F es;refine⟨max D (e.2.2.2-F e.1),fun p l o z=>?_⟩;rcases mem_cons.mp z with rfl|z;.simp only;omega
   .have:=h p l o z;omega
theorem gK.pt{m:Int}{ws:List Wy}{fs:List Int}{es:List En}{F:Int->Int}{D:Int}(h:gK m ws fs es)(hF:Pt ws fs F)(hD:∀p l o,(p,l,o)∈es->o.2<=F p+D):Pt ws fs (Eb F D es):=fun s v e ho=>by
 by_cases c:∃l o,(frm v s.2,l,o)∈es;.obtain⟨l,o,c⟩:=c;obtain⟨l2,o2,c2,c3⟩:=h.cl l o s v e c ho;rw[jT h.cm.nd c,jT h.cm.nd c2];unfold Le at c3;omega
 . rw[oA c];have h1:=hF s v e ho;by_cases c2:∃l o,(too v s.2,l,o)∈es;.obtain⟨l2,o2,c2⟩:=c2;rw[jT h.cm.nd c2];have:=hD _ _ _ c2;omega
   .rw[oA c2];omega
theorem Gi{ws:List Wy}{fs:List Int}{F G:Int->Int}(d:Int)(hF:Pt ws fs F)(hG:Pt ws fs G):Pt ws fs (fun p=>min (F p) (G p+d)):=fun s v e ho=>by have h1:=hF s v e ho;have h2:=hG s v e ho;simp only;omega
theorem rN{ws:List Wy}{fs:List Int}{F:Int->Int}(h:Pt ws fs F){b:Int}:∀{c:List aq}{a:Int},je ws b c a->wG ws fs c->F b=F a+cH ws c->∀s∈c,∀v,ws[s.1]?=some v->F (too v s.2)=F (frm v s.2)+hsp v s.2
 |[],_,_,_,_,s,hs,_,_=>by cases hs|s::c,a,⟨v,e,hf,hp⟩,ho,he,u,hu,x,ex=>by
   have ho':wG ws fs c:=fun u hu=>ho u (mem_cons_of_mem _ hu);have h1:=pY h hp ho';obtain⟨v',e',o⟩:=ho s (by simp);rw[e]at e';cases e';have h2:=h s v e o;rw[hf]at h2;rw[cH,gJ e]at he;rcases mem_cons.mp hu with rfl|hu;.rw[e]at ex;cases ex;rw[hf];omega
   .exact rN h hp ho' (by omega) u hu x ex
theorem p7{ws:List Wy}{fs:List Int}{c:List aq}{x:Int}{t:aq}{v:Wy}(hc:wG ws fs c)(e:ws[t.1]?=some v)(h:jh ws (aug x fs c) (frm v t.2) t=true):jh ws fs (frm v t.2) t=true\/∃s∈c,s.1=t.1/\t.2≠s.2:=by
 by_cases z:t.1∈c.map (·.1)
 . obtain⟨s,hs,es⟩:=mem_map.mp z;by_cases q:t.2=s.2;.have:t=s:=Prod.ext_iff.mpr ⟨es.symm,q⟩;subst this;obtain⟨v',e',o⟩:=hc t hs;rw[e]at e';cases e';exact .inl o
   .exact .inr ⟨s,hs,es,q⟩
 .refine .inl ?_;unfold jh at h ⊢;rwa[nP z]at h
theorem Pt.aug{ws:List Wy}{fs:List Int}{F:Int->Int}(h:Pt ws fs F){a b x:Int}{c:List aq}(hp:je ws b c a)(ho:wG ws fs c)(he:F b=F a+cH ws c):Pt ws (aug x fs c) F:=fun t v e o=>by
 rcases p7 ho e o with o|⟨u,hu,eu,ne⟩;.exact h t v e o
 . have:=rN h hp ho he u hu v (by rw[eu];exact e);rw[(lu ne).1,(lu ne).2];have:hsp v t.2=-hsp v u.2:=by cases h1:t.2<;>cases h2:u.2<;>simp[hsp]<;>(rw[h1,h2]at ne;exact absurd rfl ne)
   omega
noncomputable def dI(G:Wy->Int):List Wy->List Int->Int|v::ws,g::fs=>G v*g+dI G ws fs|_,_=>0
noncomputable def vD(H:Wy->Int):List Wy->Int|[]=>0|v::ws=>H v+vD H ws
theorem xW{G H:Wy->Int}:∀{ws:List Wy}{fs:List Int},fs.length=ws.length->(∀(j:Nat)v g,ws[j]?=some v->fs[j]?=some g->G v*g<=H v)->dI G ws fs<=vD H ws|[],[],_,_=>Int.le_refl _|[],_::_,h,_=>by simp at h|_::_,[],h,_=>by simp at h|v::ws,g::fs,h,k=>by have h1:=k 0 v g rfl rfl;have h2:=xW (G:=G) (H:=H) (ws:=ws) (fs:=fs) (by simpa using h) fun j v g e1 e2=>k (j+1) v g (by simpa using e1) (by simpa using e2);rw[dI,vD];omega
theorem yt{G H:Wy->Int}:∀{ws:List Wy}{fs:List Int},fs.length=ws.length->(∀(j:Nat)v g,ws[j]?=some v->fs[j]?=some g->H v<=G v*g)->vD H ws<=dI G ws fs|[],[],_,_=>Int.le_refl _|[],_::_,h,_=>by simp at h|_::_,[],h,_=>by simp at h|v::ws,g::fs,h,k=>by have h1:=k 0 v g rfl rfl;have h2:=yt (G:=G) (H:=H) (ws:=ws) (fs:=fs) (by simpa using h) fun j v g e1 e2=>k (j+1) v g (by simpa using e1) (by simpa using e2);rw[dI,vD];omega
theorem zJ{G:Wy->Int}{v:Wy}{g y:Int}:∀{j:Nat}{ws:List Wy}{fs:List Int},ws[j]?=some v->fs[j]?=some g->dI G ws (fs.set j (g+y))=dI G ws fs+G v*y|_,[],_,e,_=>by simp at e|_,_::_,[],_,e=>by simp at e|0,u::ws,f::fs,e1,e2=>by simp at e1 e2;subst e1 e2;rw[List.set_cons_zero,dI,dI,mul_add];omega|j+1,u::ws,f::fs,e1,e2=>by rw[List.set_cons_succ,dI,dI,zJ (j:=j) (by simpa using e1) (by simpa using e2)];omega
noncomputable def gap(k:Int)(q:Int->Int)(v:Wy):Int:=q v.t-q v.s-k*v.h
theorem Ep{k x:Int}{q:Int->Int}{v:Wy}{f:Bool}:gap k q v*sg x f=x*(q (too v f)-q (frm v f)-k*hsp v f):=by cases f with|true=>show(q v.t-q v.s-k*v.h)*x=x*(q v.t-q v.s-k*v.h);exact mul_comm _ _|false=>show(q v.t-q v.s-k*v.h)*(-x)=x*(q v.s-q v.t-k*(-v.h));rw[mul_neg,mul_neg k,show q v.s-q v.t- -(k*v.h)=-(q v.t-q v.s-k*v.h)by omega,mul_neg,mul_comm]
theorem zQ{k x:Int}{q:Int->Int}{ws:List Wy}{b:Int}:∀{c:List aq}{fs:List Int}{a:Int},fs.length=ws.length->je ws b c a->dI (gap k q) ws (aug x fs c)=dI (gap k q) ws fs+x*(q b-q a-k*cH ws c)
 |[],fs,a,_,h=>by have:a=b:=h;subst this;show _=_+x*(q a-q a-k*0);simp;rfl|s::c,fs,a,hl,⟨v,e,hf,hp⟩=>by
   show dI (gap k q) ws (aug x (lB x fs s) c)=_;have hlt:s.1<fs.length:=by rw[hl];exact(List.getElem?_eq_some_iff.mp e).1
   have e2:fs[s.1]?=some fs[s.1]:=by simp[hlt]
   rw[zQ (by rw[vZ];exact hl) hp];have:lB x fs s=fs.set s.1 (fs[s.1]+sg x s.2):=by unfold lB;rw[e2];rfl
   rw[this,zJ e e2,Ep,hf,Int.add_assoc,<-mul_add,cH,gJ e,mul_add k];congr 2;omega
structure Nm(ws:List Wy)(fs:List Int):Prop where
 len:fs.length=ws.length
 ok:∀(j:Nat)v g,ws[j]?=some v->fs[j]?=some g->0<=g/\g<=v.r
theorem Nm.aug{ws:List Wy}{fs:List Int}{c:List aq}{x:Int}(h:Nm ws fs)(hn:(c.map (·.1)).Nodup)(hx:0<x)(hc:∀s∈c,∃v g,ws[s.1]?=some v/\fs[s.1]?=some g/\x<=nF v g s.2):Nm ws (aug x fs c):=by
 refine⟨by rw[tY];exact h.len,fun j v g e1 e2=>?_⟩;by_cases z:j∈c.map (·.1);.obtain⟨s,hs,rfl⟩:=mem_map.mp z;obtain⟨v',g',q1,q2,q3⟩:=hc s hs;rw[e1]at q1;cases q1;rw[yw hn hs q2]at e2;cases e2;have:=h.ok _ _ _ e1 q2;cases hf:s.2<;>rw[hf]at q3<;>simp[nF,sg]at q3 ⊢<;>omega
 .rw[nP z]at e2;exact h.ok _ _ _ e1 e2
noncomputable def GQ(q:Int->Int)(v:Wy):Int:=v.r*max 0 (q v.t-q v.s-v.h)
noncomputable def K7(q:Int->Int)(ws:List Wy):Int:=vD (GQ q) ws
theorem V4{q:Int->Int}{v:Wy}:gap 1 q v=q v.t-q v.s-v.h:=by unfold gap;omega
theorem Bg{ws:List Wy}{fs:List Int}{q:Int->Int}(h:Nm ws fs):dI (gap 1 q) ws fs<=K7 q ws:=xW h.len fun j v g e1 e2=>by
 have:=h.ok _ _ _ e1 e2;rw[V4];unfold GQ;generalize q v.t-q v.s-v.h=y;by_cases c:0<=y;.rw[Int.max_eq_right c,mul_comm];exact Int.mul_le_mul_of_nonneg_right this.2 c
 .rw[Int.max_eq_left (by omega),Int.mul_zero];exact Int.mul_nonpos_of_nonpos_of_nonneg (by omega) this.1
theorem Ka{ws:List Wy}{fs:List Int}{q:Int->Int}(h:Nm ws fs)(hp:Pt ws fs q):K7 q ws=dI (gap 1 q) ws fs:=by
 refine Int.le_antisymm (yt h.len fun j v g e1 e2=>?_) (Bg h);have hg:=h.ok _ _ _ e1 e2;have o1:0<v.r-g->q v.t<=q v.s+v.h:=fun z=>hp (j,true) v e1 (by rw[jN (s:=(j,true)) e1 e2];simp[frm,nF];omega);have o2:0<g->q v.s<=q v.t+-v.h:=fun z=>hp (j,false) v e1 (by rw[jN (s:=(j,false)) e1 e2];simp[frm,nF];omega);rw[V4];unfold GQ;generalize hy:q v.t-q v.s-v.h=y;by_cases c:g=v.r
 . subst c;by_cases c0:0<v.r;.have:=o2 c0;rw[Int.max_eq_right (by omega),mul_comm];exact Int.le_refl _
   . have:v.r=0:=by omega
     rw[this];simp
 . have:=o1 (by omega);rw[Int.max_eq_left (by omega),Int.mul_zero];by_cases c0:0<g;.have:=o2 c0;rw[show y=0 by omega];simp
   .rw[show g=0 by omega];simp
noncomputable def Xh(fs:List Int)(x:List aq×Int):List Int:=aug x.2 fs x.1
noncomputable def flow(N:Nat)(cs:List (List aq×Int)):List Int:=cs.foldl Xh (replicate N 0)
theorem Hu{N:Nat}{cs:List (List aq×Int)}{x:List aq×Int}:flow N (cs++[x])=aug x.2 (flow N cs) x.1:=by unfold flow;rw[List.foldl_append];rfl
noncomputable def cL(H:List aq×Int->Int):List (List aq×Int)->Int|[]=>0|x::cs=>H x+cL H cs
theorem lE{H:List aq×Int->Int}{x:List aq×Int}:∀{cs:List (List aq×Int)},cL H (cs++[x])=cL H cs+H x|[]=>by simp[cL]|y::cs=>by rw[cons_append,cL,cL,lE];omega
theorem kE{H K:List aq×Int->Int}:∀{cs:List (List aq×Int)},(∀x∈cs,H x=K x)->cL H cs=cL K cs|[],_=>rfl|x::cs,h=>by rw[cL,cL,h x (by simp),kE fun y hy=>h y (by simp[hy])]
theorem Ft{H:List aq×Int->Int}:∀{cs:List (List aq×Int)},(∀x∈cs,1<=H x)->(cs.length:Int)<=cL H cs|[],_=>by simp[cL]|x::cs,h=>by have h1:=h x (by simp);have h2:=Ft (H:=H) (cs:=cs) fun y hy=>h y (by simp[hy]);rw[cL,length_cons];omega
noncomputable def Wz(ws:List Wy)(T:Int)(x:List aq×Int):Int:=if cH ws x.1<=T then x.2*(T-cH ws x.1+1)else 0
noncomputable def val(ws:List Wy)(T:Int)(cs:List (List aq×Int)):Int:=cL (Wz ws T) cs
structure m7(m:Int)(ws:List Wy)(T v:Int):Prop where
 ex:∃q:Int->Int,q 0=0/\q (m-1)=T+1/\K7 q ws=v
 le:∀q:Int->Int,q 0=0->q (m-1)=T+1->v<=K7 q ws
theorem uV{m T:Int}{ws:List Wy}{cs:List (List aq×Int)}{fs:List Int}{G:Int->Int}(fit:Nm ws fs)(dt:∀k q,dI (gap k q) ws fs=cL (fun x=>x.2*(q (m-1)-q 0-k*cH ws x.1)) cs)(hT:∀x∈cs,cH ws x.1<=T+1)(hG:Pt ws fs G)(g0:G 0=0)(g1:G (m-1)=T+1):m7 m ws T (val ws T cs):=by
 have hv:∀q:Int->Int,q 0=0->q (m-1)=T+1->dI (gap 1 q) ws fs=val ws T cs:=fun q q0 q1=>by
  rw[dt,q0,q1];refine kE fun x hx=>?_;have:=hT x hx;unfold Wz;split;.congr 1;omega
  .rw[show T+1-0-1*cH ws x.1=0 by omega,Int.mul_zero]
 exact⟨⟨G,g0,g1,by rw[Ka fit hG,hv G g0 g1]⟩,fun q q0 q1=>by rw[<-hv q q0 q1];exact Bg fit⟩
structure BZ(m:Int)(ws:List Wy)(cs:List (List aq×Int))(fs:List Int)(F:Int->Int)(d:Int):Prop where
 fit:Nm ws fs
 pt:Pt ws fs F
 z:F 0=0
 e:F (m-1)=d
 d0:1<=d
 nn:∀x∈cs,1<=cH ws x.1
 ch:∀x∈cs,cH ws x.1<=d/\0<x.2/\∀s∈x.1,s.1<ws.length
 dt:∀k q,dI (gap k q) ws fs=cL (fun x=>x.2*(q (m-1)-q 0-k*cH ws x.1)) cs
 lst:∀T,0<=T->T+1<=d->m7 m ws T (val ws T cs)
theorem vo{G:Wy->Int}:∀{ws:List Wy}{n:Nat},dI G ws (replicate n 0)=0|[],n=>by unfold dI;rfl|v::ws,0=>rfl|v::ws,n+1=>by rw[replicate_succ,dI,vo];simp
theorem yE{n j:Nat}{g:Int}(h:(replicate n (0:Int))[j]?=some g):g=0:=(List.mem_replicate.mp (mem_of_getElem? h)).2
noncomputable def F01(p:Int):Int:=if p=0 then 0 else 1
theorem BZ.zero{m:Int}{ws:List Wy}(m0:2<=m)(hh:∀v∈ws,1<=v.h)(hr:∀v∈ws,0<=v.r):BZ m ws [] (replicate ws.length 0) F01 1:=by
 have fit:Nm ws (replicate ws.length 0):=⟨by simp,fun j v g e1 e2=>by rw[yE e2];exact⟨Int.le_refl _,hr v (mem_of_getElem? e1)⟩⟩;have pt:Pt ws (replicate ws.length 0) F01:=fun s v e ho=>by obtain⟨v',g,e1,e2,_,e4⟩:=oV ho;rw[e]at e1;cases e1;have:=yE e2;subst this;have:=hh v (mem_of_getElem? e);cases hf:s.2<;>rw[hf]at e4<;>simp[nF,hsp,F01]at e4 ⊢;split<;>split<;>omega
 have dt:∀k q,dI (gap k q) ws (replicate ws.length 0)=cL (fun x=>x.2*(q (m-1)-q 0-k*cH ws x.1)) []:=fun k q=>by rw[vo];rfl
 have e1:F01 (m-1)=1:=by unfold F01;rw[if_neg (by omega)]
 exact⟨fit,pt,rfl,e1,by omega,by simp,by simp,dt,fun T h1 h2=>uV fit dt (by simp) pt rfl (by rw[e1];omega)⟩
theorem BZ.at{m d T:Int}{ws:List Wy}{cs:List (List aq×Int)}{fs:List Int}{F G:Int->Int}(h:BZ m ws cs fs F d)(hT:d<=T+1)(hG:Pt ws fs G)(g0:G 0=0)(g1:G (m-1)=T+1):m7 m ws T (val ws T cs):=uV h.fit h.dt (fun x hx=>Int.le_trans (h.ch x hx).1 hT) hG g0 g1
theorem BZ.more{m d:Int}{ws:List Wy}{cs:List (List aq×Int)}{fs:List Int}{F:Int->Int}{es:List En}{c:List aq}{x:Int}{l:Nat}{o:Option aq×Int}(h:BZ m ws cs fs F d)(hes:gK m ws fs es)(hlo:(m-1,l,o)∈es)(hc:Ss ws fs es (m-1) l o.2 0 0 0 c)(hx:0<x)(hr:∀s∈c,∃v g,ws[s.1]?=some v/\fs[s.1]?=some g/\x<=nF v g s.2):∃F',BZ m ws (cs++[(c,x)]) (aug x fs c) F' o.2:=by
 obtain⟨D,hD⟩:=Fb F es;have hP:=hes.pt h.pt hD;have hH:cH ws c=o.2:=by have:=hc.hrs;omega
 have e0:Eb F D es 0=0:=jT hes.cm.nd hes.cm.z;have e1:Eb F D es (m-1)=o.2:=jT hes.cm.nd hlo;have hd:d<=o.2:=by have:=pY h.pt hc.Mg hc.jr;rw[h.e,h.z]at this;omega
 refine⟨Eb F D es,h.fit.aug hc.nd hx hr,hP.aug hc.Mg hc.jr (by rw[e0,e1];omega),e0,e1,by have:=h.d0;omega,fun y hy=>?_,fun y hy=>?_,fun k q=>?_,fun T h0 h1=>?_⟩
 . rcases mem_append.mp hy with hy|hy;.exact h.nn y hy
   .rw[mem_singleton.mp hy];show 1<=cH ws c;have:=h.d0;omega
 . rcases mem_append.mp hy with hy|hy;.have:=h.ch y hy;exact⟨by omega,this.2⟩
   .rw[mem_singleton.mp hy];refine⟨by show cH ws c<=_;omega,hx,fun s hs=>?_⟩;obtain⟨v,g,e,_⟩:=hr s hs;exact(List.getElem?_eq_some_iff.mp e).1
 .rw[zQ h.fit.len hc.Mg,lE,h.dt]
 . have e3:val ws T (cs++[(c,x)])=val ws T cs:=by unfold val;rw[lE];show _+(if cH ws c<=T then _ else 0)=_;rw[if_neg (by omega)];omega
   rw[e3];by_cases q:T+1<=d;.exact h.lst T h0 q
   . refine h.at (by omega) (Gi (T+1-d) hP h.pt) ?_ ?_;.have:=h.z;omega
     .have:=h.e;omega
theorem BZ.least{m d T:Int}{ws:List Wy}{cs:List (List aq×Int)}{fs:List Int}{F:Int->Int}{es:List En}(h:BZ m ws cs fs F d)(hes:gK m ws fs es)(hno:¬ ∃l o,(m-1,l,o)∈es)(h0:0<=T):m7 m ws T (val ws T cs):=by
 by_cases q:T+1<=d;.exact h.lst T h0 q
 . obtain⟨D,hD⟩:=Fb F es;have hP:=hes.pt (D:=max D (T+1-d)) h.pt fun p l o z=>by have:=hD p l o z;omega
   have e0:Eb F (max D (T+1-d)) es 0=0:=jT hes.cm.nd hes.cm.z;have e1:Eb F (max D (T+1-d)) es (m-1)=F (m-1)+max D (T+1-d):=oA hno;refine h.at (by omega) (Gi (T+1-d) hP h.pt) ?_ ?_;.have:=h.z;omega
   .have:=h.e;omega
noncomputable def Dv(v:Wy)(f:Bool):Int:=7*hsp v f+1
def Nf(ws:List Wy)(fs:List Int)(P:Int->Int):Prop:=∀(s:aq)(v:Wy),ws[s.1]?=some v->jh ws fs (frm v s.2) s=true->P (too v s.2)<=P (frm v s.2)+Dv v s.2
noncomputable def xG(ws:List Wy)(c:List aq):Int:=7*cH ws c+c.length
theorem pX{ws:List Wy}{s:aq}{v:Wy}{c:List aq}(e:ws[s.1]?=some v):xG ws (s::c)=Dv v s.2+xG ws c:=by unfold xG Dv;rw[cH,gJ e,length_cons];omega
theorem xY{ws:List Wy}{fs:List Int}{P:Int->Int}(h:Nf ws fs P){b:Int}:∀{c:List aq}{a:Int},je ws b c a->wG ws fs c->P b<=P a+xG ws c|[],a,hp,_=>by have:a=b:=hp;rw[this];simp[xG,cH]|s::c,a,⟨v,e,hf,hp⟩,ho=>by have h1:=xY h hp fun u hu=>ho u (mem_cons_of_mem _ hu);obtain⟨v',e',o⟩:=ho s (by simp);rw[e]at e';cases e';have h2:=h s v e o;rw[hf]at h2;rw[pX e];omega
theorem rQ{ws:List Wy}{fs:List Int}{P:Int->Int}(h:Nf ws fs P){b:Int}:∀{c:List aq}{a:Int},je ws b c a->wG ws fs c->P b=P a+xG ws c->∀s∈c,∀v,ws[s.1]?=some v->P (too v s.2)=P (frm v s.2)+Dv v s.2
 |[],_,_,_,_,s,hs,_,_=>by cases hs|s::c,a,⟨v,e,hf,hp⟩,ho,he,u,hu,x,ex=>by
   have ho':wG ws fs c:=fun u hu=>ho u (mem_cons_of_mem _ hu);have h1:=xY h hp ho';obtain⟨v',e',o⟩:=ho s (by simp);rw[e]at e';cases e';have h2:=h s v e o;rw[hf]at h2;rw[pX e]at he;rcases mem_cons.mp hu with rfl|hu;.rw[e]at ex;cases ex;rw[hf];omega
   .exact rQ h hp ho' (by omega) u hu x ex
noncomputable def tgt(ws:List Wy)(fs:List Int)(P:Int->Int)(s:aq):Bool:=match ws[s.1]?with|some v=>jh ws fs (frm v s.2) s&&decide (P (too v s.2)=P (frm v s.2)+Dv v s.2)|none=>false
theorem Gq{ws:List Wy}{fs:List Int}{P:Int->Int}{s:aq}{v:Wy}(e:ws[s.1]?=some v):tgt ws fs P s=(jh ws fs (frm v s.2) s&&decide (P (too v s.2)=P (frm v s.2)+Dv v s.2)):=by unfold tgt;rw[e]
noncomputable def Fv(ws:List Wy)(fs:List Int)(P:Int->Int):Nat:=((fM ws.length).filter (tgt ws fs P)).length
theorem zO{ws:List Wy}{fs:List Int}{P:Int->Int}(h:ws.length<=12):Fv ws fs P<=24:=by have:=List.length_filter_le (tgt ws fs P) (fM ws.length);rw[vK]at this;unfold Fv;omega
theorem Hc{p q:aq->Bool}(h:∀t,q t=true->p t=true):∀(l:List aq),(l.filter q).length<=(l.filter p).length|[]=>le_refl _|t::l=>by have ih:=Hc h l;cases hq:q t with|true=>simp[hq,h t hq,ih]|false=>cases hp:p t with|true=>simp[hq,hp];omega|false=>simp[hq,hp,ih]
theorem FW{p q:aq->Bool}{s:aq}(h:∀t,q t=true->p t=true)(hp:p s=true)(hq:q s=false):∀{l:List aq},s∈l->(l.filter q).length<(l.filter p).length
 |[],hs=>by cases hs|t::l,hs=>by
   have le:=Hc h l;rcases mem_cons.mp hs with rfl|hs;.simp[hp,hq];omega
   .have ih:=FW h hp hq hs;cases hq2:q t with|true=>simp[hq2,h t hq2,ih]|false=>cases hp2:p t with|true=>simp[hq2,hp2];omega|false=>simp[hq2,hp2,ih]
theorem G9{ws:List Wy}{fs:List Int}{c:List aq}{s:aq}{v:Wy}{g:Int}(hn:(c.map (·.1)).Nodup)(hs:s∈c)(e:ws[s.1]?=some v)(e2:fs[s.1]?=some g){p:Int}:jh ws (aug (nF v g s.2) fs c) p s=false:=by
 rw[jN e (yw hn hs e2)];have:nF v (g+sg (nF v g s.2) s.2) s.2=0:=by cases s.2<;>simp[nF,sg]<;>omega
 rw[this];simp
theorem Nf.aug{ws:List Wy}{fs:List Int}{P:Int->Int}(h:Nf ws fs P){a b:Int}{c:List aq}{s:aq}{v:Wy}{g:Int}(hp:je ws b c a)(ho:wG ws fs c)(hn:(c.map (·.1)).Nodup)(he:P b=P a+xG ws c)(hs:s∈c)(e:ws[s.1]?=some v)(e2:fs[s.1]?=some g):Nf ws (aug (nF v g s.2) fs c) P/\Fv ws (aug (nF v g s.2) fs c) P<Fv ws fs P:=by
 have Oo:=rQ h hp ho he;have back:∀(t u:aq)(x:Wy),u∈c->u.1=t.1->t.2≠u.2->ws[t.1]?=some x->P (too x t.2)<P (frm x t.2)+Dv x t.2:=fun t u x hu eu ne ex=>by
  have h1:=Oo u hu x (by rw[eu];exact ex);rw[(lu ne).1,(lu ne).2];have h2:hsp x t.2=-hsp x u.2:=by cases h1:t.2<;>cases h2:u.2<;>simp[hsp]<;>(rw[h1,h2]at ne;exact absurd rfl ne)
  unfold Dv at*;omega
 refine⟨fun t x ex o=>?_,?_⟩
 . rcases p7 ho ex o with o|⟨u,hu,eu,ne⟩;.exact h t x ex o
   .have:=back t u x hu eu ne ex;omega
 . obtain⟨v',e',o⟩:=ho s hs;rw[e]at e';cases e';refine FW (s:=s) (fun t ht=>?_) (by rw[Gq e,o,Oo s hs v e];simp) (by rw[Gq e,G9 hn hs e e2];rfl) (vB (List.getElem?_eq_some_iff.mp e).1);unfold tgt at ht ⊢;split at ht
   . rename_i x ex;simp only[and_eq_true,decide_eq_true_eq]at ht ⊢;refine⟨?_,ht.2⟩;rcases p7 ho ex ht.1 with o|⟨u,hu,eu,ne⟩;.exact o
     .have:=back t u x hu eu ne ex;omega
   .cases ht
noncomputable abbrev M5:=List (Option Bool)
noncomputable def jJ:List Wy->M5->Int|v::ws,some f::es=>Dv v f+jJ ws es|_::ws,none::es=>jJ ws es|_,_=>0
noncomputable def G4(N:Nat):List aq->M5|[]=>replicate N none|s::c=>(G4 N c).set s.1 (some s.2)
theorem Ag{N:Nat}:∀{c:List aq},(G4 N c).length=N|[]=>by simp[G4]|s::c=>by rw[G4,List.length_set,Ag]
theorem zE{N j:Nat}:∀{c:List aq},j<N->j∉c.map (·.1)->(G4 N c)[j]?=some none|[],h,_=>by simp[G4,h]|s::c,h,hn=>by rw[map_cons,mem_cons,not_or]at hn;rw[G4,getElem?_set_ne (fun z=>hn.1 z.symm)];exact zE h hn.2
theorem wK{v:Wy}{f:Bool}:∀{j:Nat}{ws:List Wy}{es:M5},ws[j]?=some v->es[j]?=some none->jJ ws (es.set j (some f))=jJ ws es+Dv v f|_,[],_,e,_=>by simp at e|_,_::_,[],_,e=>by simp at e|0,u::ws,x::es,e1,e2=>by simp at e1 e2;subst e1 e2;rw[List.set_cons_zero,jJ,jJ];omega|j+1,u::ws,x::es,e1,e2=>by have ih:=wK (f:=f) (j:=j) (ws:=ws) (es:=es) (by simpa using e1) (by simpa using e2);rw[List.set_cons_succ];cases x with|none=>rw[jJ,jJ,ih]|some g=>rw[jJ,jJ,ih];omega
theorem qJ:∀{ws:List Wy}{n:Nat},jJ ws (replicate n none)=0|[],n=>by unfold jJ;rfl|v::ws,0=>rfl|v::ws,n+1=>by rw[replicate_succ,jJ,qJ]
theorem Ah{ws:List Wy}{b:Int}:∀{c:List aq}{a:Int},je ws b c a->(c.map (·.1)).Nodup->jJ ws (G4 ws.length c)=xG ws c|[],_,_,_=>by rw[G4,qJ];simp[xG,cH]|s::c,a,⟨v,e,_,hp⟩,hn=>by rw[map_cons,nodup_cons]at hn;rw[G4,wK e (zE (List.getElem?_eq_some_iff.mp e).1 hn.1),Ah hp hn.2,pX e];omega
noncomputable def uC:Nat->List M5|0=>[[]]|n+1=>(uC n).map (none::·)++((uC n).map (some true::·)++(uC n).map (some false::·))
theorem wQ:∀{n:Nat},(uC n).length=3^n|0=>rfl|n+1=>by rw[uC,length_append,length_append,length_map,length_map,length_map,wQ,Nat.pow_succ];omega
theorem vP:∀{e:M5},e∈uC e.length|[]=>by simp[uC]|x::e=>by have ih:=vP (e:=e);rw[length_cons,uC,mem_append,mem_append];cases x with|none=>exact .inl (mem_map.mpr ⟨e,ih,rfl⟩)|some f=>cases f with|true=>exact .inr (.inl (mem_map.mpr ⟨e,ih,rfl⟩))|false=>exact .inr (.inr (mem_map.mpr ⟨e,ih,rfl⟩))
structure K1(m:Int)(ws:List Wy)(k:Nat)(fs:List Int)(P:Int->Int)(lam:Int)(seen:List M5):Prop where
 pt:Nf ws fs P
 z:P 0=0
 e:P (m-1)=lam
 nd:seen.Nodup
 sl:∀e∈seen,e.length=ws.length/\jJ ws e<=lam
 cnt:k+Fv ws fs P<=25*(seen.length+1)
theorem K1.few{m lam:Int}{ws:List Wy}{k:Nat}{fs:List Int}{P:Int->Int}{seen:List M5}(h:K1 m ws k fs P lam seen)(hl:ws.length<=12):k<=13286050:=by
 have h1:=pq (l2:=uC ws.length) h.nd fun e he=>by rw[<-(h.sl e he).1];exact vP
 rw[wQ]at h1;have h2:3^ws.length<=3^12:=Nat.pow_le_pow_right (by decide) hl;have h3:(3:Nat)^12=531441:=by decide
 have:=h.cnt;omega
theorem K1.zero{m:Int}{ws:List Wy}(hl:ws.length<=12)(hh:∀v∈ws,0<=v.h):K1 m ws 0 (replicate ws.length 0) (fun _=>0) 0 []:=by refine⟨fun s v e ho=>?_,rfl,rfl,.nil,by simp,by have:=zO (fs:=replicate ws.length 0) (P:=fun _=>0) hl;simp;omega⟩;obtain⟨v',g,e1,e2,_,e4⟩:=oV ho;rw[e]at e1;cases e1;have:=yE e2;subst this;have:=hh v (mem_of_getElem? e);cases hf:s.2<;>rw[hf]at e4<;>simp[nF,Dv,hsp]at e4 ⊢;omega
noncomputable def Ip(F:Int->Int)(D:Int):List En->Int->Int|[],p=>F p+D|e::es,p=>if e.1=p then 7*e.2.2.2+(e.2.1:Int)else Ip F D es p
theorem lO{F:Int->Int}{D p:Int}{l:Nat}{o:Option aq×Int}:∀{es:List En},(es.map (·.1)).Nodup->(p,l,o)∈es->Ip F D es p=7*o.2+l
 |[],_,h=>by cases h|e::es,hn,h=>by
   rw[map_cons,nodup_cons]at hn;rw[Ip];rcases mem_cons.mp h with rfl|h;.rw[if_pos rfl]
   .rw[if_neg (fun z=>hn.1 (by rw[z];exact mem_map.mpr ⟨_,h,rfl⟩))];exact lO hn.2 h
theorem tQ{F:Int->Int}{D p:Int}:∀{es:List En},(¬ ∃l o,(p,l,o)∈es)->Ip F D es p=F p+D|[],_=>rfl|e::es,h=>by rw[Ip,if_neg (fun z=>h ⟨e.2.1,e.2.2,by rw[<-z];simp⟩)];exact tQ fun⟨l,o,z⟩=>h ⟨l,o,mem_cons_of_mem _ z⟩
theorem Gr(F:Int->Int):∀(es:List En),∃D,∀p l o,(p,l,o)∈es->7*o.2+(l:Int)<=F p+D
 |[]=>⟨0,fun _ _ _ h=>by cases h⟩|e::es=>by
   obtain⟨D,h⟩:=Gr F es;refine⟨max D (7*e.2.2.2+(e.2.1:Int)-F e.1),fun p l o z=>?_⟩;rcases mem_cons.mp z with rfl|z;.simp only;omega
   .have:=h p l o z;omega
theorem gK.pts{m:Int}{ws:List Wy}{fs:List Int}{es:List En}{F P:Int->Int}{D:Int}(h:gK m ws fs es)(hm:HN m ws)(hF:Pt ws fs F)(hP:Nf ws fs P)(hD:∀p l o,(p,l,o)∈es->7*o.2+(l:Int)<=P p+D):Nf ws fs (Ip P D es):=fun s v e ho=>by
 by_cases c:∃l o,(frm v s.2,l,o)∈es;.obtain⟨l,o,c⟩:=c;obtain⟨l2,o2,c2,c3⟩:=h.cl l o s v e c ho;rw[lO h.cm.nd c,lO h.cm.nd c2];have:=h.l5 hm hF c2;unfold Le at c3;unfold Dv;omega
 . rw[tQ c];have h1:=hP s v e ho;by_cases c2:∃l o,(too v s.2,l,o)∈es;.obtain⟨l2,o2,c2⟩:=c2;rw[lO h.cm.nd c2];have:=hD _ _ _ c2;omega
   .rw[tQ c2];omega
theorem K1.more{m lam:Int}{ws:List Wy}{k:Nat}{fs:List Int}{P F:Int->Int}{seen:List M5}{es:List En}{c:List aq}{l:Nat}{o:Option aq×Int}{s:aq}{v:Wy}{g:Int}(h:K1 m ws k fs P lam seen)(hm:HN m ws)(hF:Pt ws fs F)(hes:gK m ws fs es)(hlo:(m-1,l,o)∈es)(hc:Ss ws fs es (m-1) l o.2 0 0 0 c)(hs:s∈c)(e:ws[s.1]?=some v)(e2:fs[s.1]?=some g):∃P' Tr Ij,K1 m ws (k+1) (aug (nF v g s.2) fs c) P' Tr Ij:=by
 have hH:cH ws c=o.2:=by have:=hc.hrs;omega
 have hL:c.length=l:=by have:=hc.len;omega
 have hW:xG ws c=7*o.2+l:=by unfold xG;rw[hH,hL]
 have hle:lam<=xG ws c:=by have:=xY h.pt hc.Mg hc.jr;rw[h.e,h.z]at this;omega
 by_cases q:lam=xG ws c;.have hA:=h.pt.aug hc.Mg hc.jr hc.nd (by rw[h.e,h.z];omega) hs e e2;exact⟨P,lam,seen,hA.1,h.z,h.e,h.nd,h.sl,by have:=h.cnt;omega⟩
 . obtain⟨D,hD⟩:=Gr P es;have hP:=hes.pts hm hF h.pt hD;have e0:Ip P D es 0=0:=by rw[lO hes.cm.nd hes.cm.z];rfl
   have e1:Ip P D es (m-1)=xG ws c:=by rw[lO hes.cm.nd hlo,hW]
   have hA:=hP.aug hc.Mg hc.jr hc.nd (by rw[e0,e1];omega) hs e e2;have hv:=Ah hc.Mg hc.nd;refine⟨Ip P D es,xG ws c,seen++[G4 ws.length c],hA.1,e0,e1,?_,fun x hx=>?_,?_⟩;.rw[nodup_append];refine⟨h.nd,by simp,fun a ha b hb ab=>?_⟩;have:=(h.sl a ha).2;rw[ab,mem_singleton.mp hb,hv]at this;omega
   . rcases mem_append.mp hx with hx|hx;.have:=h.sl x hx;exact⟨this.1,by omega⟩
     .rw[mem_singleton.mp hx];exact⟨Ag,by rw[hv];exact Int.le_refl _⟩
   .have h1:=zO (fs:=fs) (P:=Ip P D es) hm.len;have h2:=h.cnt;rw[length_append,List.length_singleton];omega
noncomputable def cD(x:List aq×Int):D:=.tup [.tup (x.1.map sD),.int x.2]
theorem Ed{ns:List Int}(h:ns≠[]):∃i,ns.min?=some i/\i∈ns/\∀j∈ns,i<=j:=by cases e:ns.min? with|none=>rw[List.min?_eq_none_iff]at e;exact absurd e h|some i=>have:=List.min?_eq_some_iff.mp e;exact⟨i,rfl,this.1,this.2⟩
noncomputable def Xz:D->aq|.tup [.int j,.bl f]=>(j.toNat,f)|_=>(0,true)
@[simp]theorem Fe{s:aq}:Xz (sD s)=s:=rfl
noncomputable def M9(ws:List Wy)(fs:List Int)(s:aq):Int:=match ws[s.1]?,fs[s.1]?with|some v,some g=>nF v g s.2|_,_=>0
noncomputable def rmD(ws:List Wy)(fs:List Int)(d:D):D:=.int (M9 ws fs (Xz d))
@[simp]theorem Wi{es:List En}{p:Int}:vH false (.int p) (m9 es)=some (.val (.bl (qx (es.map en) p))):=by show some (R.val (.bl ((es.map (·.1)).contains p)))=some (R.val (.bl ((Iv (es.map en)).contains p)));rw[yo]
def Chk(ws:List Wy)(x:List aq×Int):Prop:=x.1.length<=5/\∀s∈x.1,s.1<ws.length
structure Ends(m:Int)(ws:List Wy)(cs:List (List aq×Int))(fs:List Int)(F:Int->Int)(d:Int)(es:List En):Prop where
 fl:fs=flow ws.length cs
 iv:BZ m ws cs fs F d
 cm:gK m ws fs es
 no:¬ ∃l o,(m-1,l,o)∈es
 ck:∀x∈cs,Chk ws x
inductive FcE(a0 a1 a2 a3 a4 a5 a6:Sl)(ρ:List Sl):Prop where|mk(s:Sl)(q0:ρ=[a0,a1,a2,a3,a4,a5,a6,s])(q1:fr s=true)
inductive JE(m:Int)(ws:List Wy)(M:Nat)(ρ:List Sl):Prop where|mk(cs:List (List aq×Int))(fs:List Int)(es:List En)(F:Int->Int)(d:Int)(s5 s6:Sl)(q0:ρ=[.val false (bj m ws),.val false (.int (m-1)),.own false (fs.map D.int),.own false (cs.map cD),.val false (m9 es),s5,s6])(q1:(fr s5=true/\fr s6=true))(q2:fs=flow ws.length cs)(q3:BZ m ws cs fs F d)(q4:gK m ws fs es)(q5:(∃P lam seen,K1 m ws cs.length fs P lam seen))(q6:cs.length+M=13286050)(q7:(∀x∈cs,Chk ws x))
theorem EY{w n:Nat}{m:Int}{ws:List Wy}{Q:R->List Sl->Prop}(hw:13286250<=w)(h:HN m ws)(hh:∀v∈ws,1<=v.h)(hr:∀v∈ws,0<=v.r)(k:∀cs fs F d es,cs.length<=13286050->Ends m ws cs fs F d es->Q (.own (cs.map cD)) [.val false (bj m ws)]):(run Γ w (n+4) 8 [.val false (bj m ws)]).sat Q:=by
 have hn:=h.len;have m0:=h.m0;have m1:=h.m1;refine aO (d:=f8) rfl rfl (by decide) ?_;symm;simp[f8];refine fH (fun ρ=>ρ=[.val false (bj m ws),.val false (.int (m-1)),.own false ((flow ws.length []).map D.int),.aV,.aV,.aV,.aV]) ?_ ?_;.simp[flow];show _<=16777216;omega
 rintro _ rfl;have I0:BZ m ws [] (flow ws.length []) F01 1:=BZ.zero m0 hh hr;symm;simp;apply ak;simp;refine u9 (by omega) I0.pt (.inr ⟨true,rfl⟩) h I0.fit.len fun es hes=>?_;simp;apply ak;simp;refine iI (JE m ws) ?_ (k:=w) (m:=13286050) (by omega) ⟨[],flow ws.length [],es,F01,1,.aV,.aV,rfl,⟨rfl,rfl⟩,rfl,I0,hes,⟨_,_,_,K1.zero hn fun v hv=>by have:=hh v hv;omega⟩,by simp,by simp⟩;rintro M _⟨cs,fs,es,F,d,s5,s6,rfl,⟨h5,h6⟩,hfs,hI,hes,⟨P,lam,seen,hS⟩,hM,hin⟩;have hfl:=hI.fit.len;by_cases hq:∃l o,(m-1,l,o)∈es
 . obtain⟨l,o,hlo⟩:=hq;have kt:qx (es.map en) (m-1)=true:=yr.mpr ⟨l,o,hlo⟩;have hl5:=hes.l5 h hI.pt hlo;simp[kt];apply ak;simp;refine BR (by omega) hes hl5 hlo fun c hc=>?_;simp[h5];apply ak;have hcl:c.length<=5:=by have:=hc.len;omega
   have Mh:∀s∈c,∃v g,ws[s.1]?=some v/\fs[s.1]?=some g/\0<nF v g s.2:=fun s hs=>by obtain⟨v,e,o⟩:=hc.jr s hs;obtain⟨v',g,e1,e2,_,e4⟩:=oV o;exact⟨v',g,e1,e2,e4⟩
   simp[show c.length<=16777216 by omega];refine fZ (FcE _ _ _ _ _ _ _) (rmD ws fs) ⟨.aV,rfl,rfl⟩ ?_ ?_;.rintro d hd _⟨s',rfl,hs'⟩;obtain⟨s,hs,rfl⟩:=mem_map.mp hd;obtain⟨v,g,e1,e2,_⟩:=Mh s hs;simp[hs',sD];refine qP (.inr ⟨true,rfl⟩) e1 e2 ?_;simp;refine⟨?_,_,rfl,rfl⟩;show D.int (M9 ws fs (Xz (sD s)))=_;rw[Fe];unfold M9;rw[e1,e2]
   rintro _⟨s',rfl,hs'⟩;have hmap:(c.map sD).map (rmD ws fs)=(c.map (M9 ws fs)).map D.int:=by rw[map_map,map_map];rfl
   rw[hmap];have adu:c≠[]:=by rintro rfl;have:(0:Int)=m-1:=hc.Mg;omega
   obtain⟨x,hx1,hx2,hx3⟩:=Ed (ns:=c.map (M9 ws fs)) (by simpa using adu);obtain⟨s,hs,hsx⟩:=mem_map.mp hx2;obtain⟨v,g,e1,e2,e3⟩:=Mh s hs;have hxr:nF v g s.2=x:=by rw[<-hsx];unfold M9;rw[e1,e2]
   have hx0:0<x:=by omega
   have hle:∀s∈c,∃v g,ws[s.1]?=some v/\fs[s.1]?=some g/\x<=nF v g s.2:=fun u hu=>by obtain⟨v,g,e1,e2,_⟩:=Mh u hu;refine⟨v,g,e1,e2,?_⟩;have:=hx3 _ (mem_map.mpr ⟨u,hu,rfl⟩);unfold M9 at this;rw[e1,e2]at this;exact this
   have hlt:∀s∈c,s.1<ws.length:=fun u hu=>by obtain⟨v,g,e1,_⟩:=Mh u hu;exact(List.getElem?_eq_some_iff.mp e1).1
   obtain⟨F',hI'⟩:=hI.more hes hlo hc hx0 hle;have hS':=hS.more h hI.pt hes hlo hc hs e1 e2;rw[hxr]at hS';obtain⟨P',Tr,Ij,hS'⟩:=hS';have hB':=hS'.few hn;generalize c.map (M9 ws fs)=ns at*;simp[eU,hx1,h6];apply ak;simp[show cs.length<16777216 by omega];apply ak;simp;refine Ef (.inr ⟨true,rfl⟩) (fun u hu=>by rw[hfl];exact hlt u hu) ?_;simp;apply ak;have adv:aug x fs c=flow ws.length (cs++[(c,x)]):=by rw[Hu,<-hfs]
   simp;refine u9 (by omega) hI'.pt (.inr ⟨true,rfl⟩) h hI'.fit.len fun es' adw=>?_;simp;refine⟨M-1,by omega,cs++[(c,x)],aug x fs c,es',F',o.2,.val false (.tup (c.map sD)),.val false (.int x),by simp[cD],⟨rfl,rfl⟩,adv,hI',adw,⟨P',Tr,Ij,by rw[length_append];exact hS'⟩,by simp;omega,fun y hy=>?_⟩;rcases mem_append.mp hy with hy|hy;.exact hin y hy
   . obtain rfl:y=(c,x):=by simpa using hy
     exact⟨hcl,hlt⟩
 .have kt:qx (es.map en) (m-1)=false:=kin_no hq;simp[kt];apply ak;simp;exact k cs fs F d es (by omega) ⟨hfs,hI,hes,hq,hin⟩
theorem RB{c:Call}{x:Nat}{k d:P}{ρ:List Sl}:ev c (.Vn x k d) ρ=match ρ[x]?with
 |some (.eY _)=>(bY (isVar k) (ev c k) ρ).bind fun kd ρ=>(bY (isVar d) (ev c d) ρ).bind fun dd ρ=>match ρ[x]?with|some (.eY m)=>lift ((m.get kd).bind fun o=>(fV dd).map fun v=>.val (.int (o.getD v))) ρ|_=>.stuck
 |_=>.stuck:=(rfl)
theorem Ky{c:Call}{n x:Nat}{ρ:List Sl}:ex c n (.HY x false) ρ=match ρ[x]?with|some .aV=>.ok .next (ρ.set x (.eY (.k [])))|_=>.stuck:=(rfl)
theorem Jy{c:Call}{n x:Nat}{k e:P}{ρ:List Sl}:ex c n (.dput x k e) ρ=(ev c e ρ).bind fun r ρ=>match ρ[x]?with
 |some (.eY _)=>(bY (isVar k) (ev c k) ρ).bind fun kd ρ=>match ρ[x]?,r with
   |some (.eY m),.val (.int v)=>match m.put kd v with|some m'=>.ok .next (ρ.set x (.eY m'))|none=>.stuck
   |_,_=>.stuck
 |_=>.stuck:=(rfl)
@[simp]theorem Us{x:Nat}{k d:P}:isVar (.Vn x k d)=none:=rfl
@[simp]theorem Xq{kvs:List (Int×Int)}:blt .LQ [.cM (.k kvs)]=if sortable (kvs.map fU)then some (.own (nJ (kvs.map fU)))else none:=rfl
theorem QV{kvs:List (Int×Int)}{i:Int}:(Dc.get (.k kvs) (.int i))=some ((kvs.find? fun kv=>decide (kv.1=i)).map (·.2)):=rfl
theorem W4{kvs:List (Int×Int)}{i v:Int}(h:kvs.length<lim):Dc.put (.k kvs) (.int i) v=some (.k (putD kvs i v)):=by show(if _ then _ else _)=_;rw[if_pos h]
noncomputable def hsD(ws:List Wy)(d:D):D:=.int (hst ws (Xz d))
theorem zY{ws:List Wy}:∀{c:List aq},(c.map (hst ws)).sum=cH ws c|[]=>rfl|s::c=>by rw[map_cons,sum_cons,zY,cH]
inductive F2s(a b:Sl)(ρ:List Sl):Prop where|mk(s:Sl)(q0:ρ=[a,b,s])(q1:fr s=true)
theorem xM{w n:Nat}{m:Int}{ws:List Wy}{c:List aq}{Q:R->List Sl->Prop}(hc:∀s∈c,s.1<ws.length)(hl:c.length<=1000)(k:Q (.val (.int (cH ws c))) [.val false (bj m ws),.val false (.tup (c.map sD))]):(run Γ w (n+2) 3 [.val false (bj m ws),.val false (.tup (c.map sD))]).sat Q:=by
 refine aO (d:=f3) rfl rfl (by decide) ?_;symm;simp[f3,show c.length<=16777216 by omega];refine fZ (F2s _ _) (hsD ws) ⟨.aV,rfl,rfl⟩ ?_ ?_
 . rintro d hd _⟨s',rfl,hs'⟩;obtain⟨s,hs,rfl⟩:=mem_map.mp hd;have hlt:=hc s hs;have e:ws[s.1]?=some ws[s.1]:=by simp[hlt]
   simp[hs',sD];refine qM e ?_;simp;refine⟨?_,_,rfl,rfl⟩;show D.int (hst ws (Xz (sD s)))=_;rw[Fe,gJ e]
 rintro _⟨s',rfl,hs'⟩;have hmap:(c.map sD).map (hsD ws)=(c.map (hst ws)).map D.int:=by rw[map_map,map_map];rfl
 rw[hmap];have hsum:=zY (ws:=ws) (c:=c);generalize c.map (hst ws)=ns at*;simp[eU,hsum];exact k
noncomputable def gv(kvs:List (Int×Int))(k:Int):Int:=((kvs.find? fun kv=>decide (kv.1=k)).map (·.2)).getD 0
def TQ(W:Int->Int->Int):Prop:=∀k a b,W k (a+b)=W k a+W k b
noncomputable def gD(W:Int->Int->Int):List (Int×Int)->Int|[]=>0|kv::r=>W kv.1 kv.2+gD W r
theorem zP{W:Int->Int->Int}{b:List (Int×Int)}:∀{a:List (Int×Int)},gD W (a++b)=gD W a+gD W b|[]=>by simp[gD]|x::a=>by rw[cons_append,gD,gD,zP];omega
theorem FQ{W:Int->Int->Int}{a b:List (Int×Int)}(h:a.Perm b):gD W a=gD W b:=by induction h with|nil=>rfl|cons a _ ih=>rw[gD,gD,ih]|swap a b l=>rw[gD,gD,gD,gD];omega|trans _ _ h1 h2=>rw[h1,h2]
theorem Bo{k v:Int}:∀{r:List (Int×Int)},k∉r.map (·.1)->(r.map fun kv=>if kv.1=k then(kv.1,v)else kv)=r|[],_=>rfl|x::r,h=>by rw[map_cons,mem_cons,not_or]at h;rw[map_cons,Bo h.2,if_neg (fun z=>h.1 z.symm)]
theorem An{W:Int->Int->Int}(hW:TQ W){k x:Int}:∀{r:List (Int×Int)},(r.map (·.1)).Nodup->k∈r.map (·.1)->gD W (r.map fun kv=>if kv.1=k then(kv.1,gv r k+x)else kv)=gD W r+W k x
 |[],_,h=>by cases h|y::r,hn,h=>by
   rw[map_cons,nodup_cons]at hn;by_cases c:y.1=k
   . have hg:gv (y::r) k=y.2:=by unfold gv;rw[find?_cons];simp[c]
     rw[hg,map_cons,if_pos c,Bo (by rw[<-c];exact hn.1),gD,gD];show W y.1 (y.2+x)+_=_;rw[hW,c];omega
   . have hg:gv (y::r) k=gv r k:=by unfold gv;rw[find?_cons];simp[c]
     have hk:k∈r.map (·.1):=by
      rcases mem_cons.mp h with h|h;.exact absurd h.symm c
      .exact h
     rw[hg,map_cons,if_neg c,gD,gD,An hW hn.2 hk];omega
theorem Rc{k:Int}{r:List (Int×Int)}(h:k∉r.map (·.1)):gv r k=0:=by
 unfold gv;rw[List.find?_eq_none.mpr];.rfl
 .intro x hx;simp;intro e;exact h (mem_map.mpr ⟨x,hx,e⟩)
theorem VB{k:Int}{r:List (Int×Int)}(h:∀kv∈r,0<kv.2):0<=gv r k:=by unfold gv;cases e:r.find? fun kv=>decide (kv.1=k)with|none=>simp|some x=>have:=h x (List.mem_of_find?_eq_some e);simp;omega
theorem tM{k x:Int}{r:List (Int×Int)}(hn:(r.map (·.1)).Nodup):((putD r k (gv r k+x)).map (·.1)).Nodup/\(putD r k (gv r k+x)).length<=r.length+1/\(∀kv∈putD r k (gv r k+x),kv=(k,gv r k+x)\/kv∈r)/\∀W,TQ W->gD W (putD r k (gv r k+x))=gD W r+W k x:=by
 have hk:(r.any fun kv=>decide (kv.1=k))=true↔k∈r.map (·.1):=by rw[List.any_eq_true,mem_map];exact⟨fun⟨y,h1,h2⟩=>⟨y,h1,by simpa using h2⟩,fun⟨y,h1,h2⟩=>⟨y,h1,by simpa using h2⟩⟩
 unfold putD;by_cases c:k∈r.map (·.1)
 . rw[if_pos (hk.mpr c)];have e:(r.map fun kv=>if kv.1=k then(kv.1,gv r k+x)else kv).map (·.1)=r.map (·.1):=by rw[map_map];refine map_congr_left fun y _=>?_;show(if y.1=k then _ else _:Int×Int).1=y.1;split<;>rfl
   refine⟨by rw[e];exact hn,by simp,fun kv hkv=>?_,fun W hW=>An hW hn c⟩;obtain⟨y,hy,rfl⟩:=mem_map.mp hkv;by_cases z:y.1=k;.rw[if_pos z,z];exact .inl rfl
   .rw[if_neg z];exact .inr hy
 . rw[if_neg fun z=>c (hk.mp z),Rc c,Int.zero_add];refine⟨?_,by simp,fun kv hkv=>?_,fun W _=>?_⟩;.rw[map_append,nodup_append];exact⟨hn,by simp,fun a ha b hb e=>c (by
      have:b=k:=by simpa using hb
      rw[<-this,<-e];exact ha)⟩
   . rcases mem_append.mp hkv with hj|hj;.exact .inr hj
     .exact .inl (mem_singleton.mp hj)
   .rw[zP];simp[gD]
noncomputable def Ge:D->Int×Int|.tup [.int a,.int b]=>(a,b)|_=>(0,0)
theorem Jw(kvs:List (Int×Int)):∃us:List (Int×Int),nJ (kvs.map fU)=us.map fU/\us.Perm kvs:=by
 have hp:=kI (kvs.map fU);refine⟨(nJ (kvs.map fU)).map Ge,?_,?_⟩;.rw[map_map];refine(map_id _).symm.trans (map_congr_left fun d hd=>?_);obtain⟨p,_,rfl⟩:=mem_map.mp (hp.mem_iff.mp hd);rfl
 .have:=hp.map Ge;rw[map_map]at this;have e:kvs.map (Ge ∘ fU)=kvs:=(map_congr_left fun p _=>rfl).trans (map_id _);rwa[e]at this
structure T3(ws:List Wy)(cs:List (List aq×Int))(kvs:List (Int×Int)):Prop where
 nd:(kvs.map (·.1)).Nodup
 len:kvs.length<=cs.length
 nn:∀kv∈kvs,1<=kv.1/\0<kv.2
 sm:∀W,TQ W->gD W kvs=cL (fun x=>W (cH ws x.1) x.2) cs
theorem T3.put{ws:List Wy}{cs:List (List aq×Int)}{kvs:List (Int×Int)}(h:T3 ws cs kvs){x:List aq×Int}(h0:1<=cH ws x.1)(h1:0<x.2):T3 ws (cs++[x]) (putD kvs (cH ws x.1) (gv kvs (cH ws x.1)+x.2)):=by
 obtain⟨p1,p2,p3,p4⟩:=tM (k:=cH ws x.1) (x:=x.2) h.nd;have hl:=h.len;refine⟨p1,by simp;omega,fun kv hkv=>?_,fun W hW=>?_⟩
 . rcases p3 kv hkv with e|e;.have:=VB (k:=cH ws x.1) fun kv hkv=>(h.nn kv hkv).2;rw[e];exact⟨h0,by show 0<_+_;omega⟩
   .exact h.nn kv e
 .rw[p4 W hW,h.sm W hW,lE]
inductive JBn(m:Int)(ws:List Wy)(cs:List (List aq×Int))(r:List D)(ρ:List Sl):Prop where|mk(jc us:List (List aq×Int))(kvs:List (Int×Int))(s2 s3 s4:Sl)(q0:ρ=[.val false (bj m ws),.eY (.k kvs),s2,s3,s4])(q1:A3 (fr s2=true) (fr s3=true) (fr s4=true))(q2:r=us.map cD)(q3:jc++us=cs)(q4:T3 ws jc kvs)
theorem lQ{w n:Nat}{m:Int}{ws:List Wy}{Q:R->List Sl->Prop}(hw:13286250<=w)(h:fG m ws)(k:∀cs fs F d es kvs,kvs.length<=13286050->Ends m ws cs fs F d es->T3 ws cs kvs->Q (.own (kvs.map fU)) [.val false (bj m ws)]):(run Γ w (n+5) 9 [.val false (bj m ws)]).sat Q:=by
 refine aO (d:=f9) rfl rfl (by decide) ?_;symm;simp[f9,Ky];apply ak;simp;refine EY hw (HN.of h) (fun v hv=>(h.ok v hv).h0) (fun v hv=>(h.ok v hv).r0) fun cs fs F d es hl hE=>?_;simp;refine cu (JBn m ws cs) ?_ ?_ ⟨[],cs,[],.aV,.aV,.aV,rfl,⟨rfl,rfl,rfl⟩,rfl,rfl,⟨by simp,by simp,by simp,fun W _=>rfl⟩⟩;.rintro d r _⟨jc,us,kvs,s2,s3,s4,rfl,⟨h2,h3,h4⟩,hr,hd,hb⟩;cases us with|nil=>cases hr|cons u us=>
     obtain⟨rfl,rfl⟩:d=cD u/\r=us.map cD:=by simpa using hr
     have hu:u∈cs:=by rw[<-hd];simp
     have hck:=hE.ck u hu;have hdl:jc.length<=cs.length:=by rw[<-hd];simp
     have hkl:=hb.len;have hd2:(jc++[u])++us=cs:=by rw[append_assoc];exact hd
     simp[cD,h2,h3];apply ak;simp;refine xM hck.2 (by have:=hck.1;omega) ?_;simp[h4];apply ak;simp[Jy,RB,QV];rw[W4 (by show _<16777216;omega)];simp;exact⟨jc++[u],us,_,_,_,_,rfl,⟨rfl,rfl,rfl⟩,rfl,hd2,hb.put (hE.iv.nn u hu) (hE.iv.ch u hu).2.1⟩
 . rintro _⟨jc,us,kvs,s2,s3,s4,rfl,⟨h2,h3,h4⟩,hr,hd,hb⟩;have:us=[]:=by cases us with|nil=>rfl|cons _ _=>cases hr
   subst this;rw[append_nil]at hd;subst hd;have hkl:=hb.len;have hso:sortable (kvs.map fU)=true:=by
    have:(kvs.map fU).all oY=true:=by rw[all_eq_true];intro x hx;obtain⟨p,_,rfl⟩:=mem_map.mp hx;rfl
    simp only[sortable,length_map,this,Bool.or_true,Bool.and_true,decide_eq_true_eq];omega
   obtain⟨us,e1,e2⟩:=Jw kvs;simp;apply ak;simp[hso,e1];exact k jc fs F d es us (by rw[e2.length_eq];omega) hE ⟨(e2.map _).nodup_iff.mpr hb.nd,by rw[e2.length_eq];exact hb.len,fun kv hkv=>hb.nn kv (e2.mem_iff.mp hkv),fun W hW=>by rw[FQ e2];exact hb.sm W hW⟩
noncomputable def vt(T k v:Int):Int:=if k<=T then v*(T-k+1)else 0
noncomputable def gt(T k v:Int):Int:=if k<=T then v else 0
theorem QW{T:Int}:TQ (vt T):=fun k a b=>by
 unfold vt;split;.exact Int.add_mul ..
 .rfl
theorem xN{T:Int}:TQ (gt T):=fun k a b=>by unfold gt;split<;>rfl
theorem R4:TQ fun _ v=>v:=fun _ _ _=>rfl
def bL(m:Int)(ws:List Wy)(cs:List (List aq×Int)):Prop:=∃fs F d es,Ends m ws cs fs F d es
noncomputable def Rt(ws:List Wy)(cs:List (List aq×Int))(T:Int):Int:=cL (fun x=>gt T (cH ws x.1) x.2) cs
noncomputable def Di(cs:List (List aq×Int)):Int:=cL (fun x=>x.2) cs
theorem m7.uniq{m T v v':Int}{ws:List Wy}(h:m7 m ws T v)(h':m7 m ws T v'):v=v':=by obtain⟨q,q0,q1,q2⟩:=h.ex;obtain⟨r,r0,r1,r2⟩:=h'.ex;have:=h.le r r0 r1;have:=h'.le q q0 q1;omega
theorem bL.least{m:Int}{ws:List Wy}{cs:List (List aq×Int)}(h:bL m ws cs){T:Int}(h0:0<=T):m7 m ws T (val ws T cs):=by obtain⟨fs,F,d,es,hE⟩:=h;exact hE.iv.least hE.cm hE.no h0
theorem vU{H K:List aq×Int->Int}:∀{cs:List (List aq×Int)},cL (fun x=>H x-K x) cs=cL H cs-cL K cs|[]=>rfl|x::cs=>by rw[cL,cL,cL,vU];omega
theorem sG{H K:List aq×Int->Int}:∀{cs:List (List aq×Int)},(∀x∈cs,H x<=K x)->cL H cs<=cL K cs|[],_=>Int.le_refl _|x::cs,h=>by have h1:=h x (by simp);have h2:=sG (H:=H) (K:=K) (cs:=cs) fun y hy=>h y (by simp[hy]);rw[cL,cL];omega
theorem o6{T:Int}{ws:List Wy}{cs:List (List aq×Int)}:Rt ws cs T=val ws T cs-val ws (T-1) cs:=by
 unfold Rt val;rw[<-vU];refine kE fun x _=>?_;show gt T (cH ws x.1) x.2=vt T (cH ws x.1) x.2-vt (T-1) (cH ws x.1) x.2;unfold gt vt;by_cases c:cH ws x.1<=T-1;.rw[if_pos (by omega),if_pos (by omega),if_pos c,<-Int.mul_sub,show T-cH ws x.1+1-(T-1-cH ws x.1+1)=1 by omega,mul_one]
 . by_cases c2:cH ws x.1<=T;.rw[if_pos c2,if_pos c2,if_neg c,show T-cH ws x.1+1=1 by omega,mul_one];omega
   .rw[if_neg c2,if_neg c2,if_neg c];rfl
theorem bL.nn{m:Int}{ws:List Wy}{cs:List (List aq×Int)}(h:bL m ws cs):∀x∈cs,1<=cH ws x.1/\0<x.2:=by obtain⟨fs,F,d,es,hE⟩:=h;exact fun x hx=>⟨hE.iv.nn x hx,(hE.iv.ch x hx).2.1⟩
theorem bL.bQ{m:Int}{ws:List Wy}{cs:List (List aq×Int)}(h:bL m ws cs){T:Int}(h0:T<=0):val ws T cs=0:=by
 have:val ws T cs=cL (fun _=>0) cs:=kE fun x hx=>by have:=(h.nn x hx).1;show vt T (cH ws x.1) x.2=0;unfold vt;rw[if_neg (by omega)]
 rw[this];clear this h;induction cs with|nil=>rfl|cons x cs ih=>rw[cL,ih];rfl
theorem bL.val_eq{m:Int}{ws:List Wy}{cs cs':List (List aq×Int)}(h:bL m ws cs)(h':bL m ws cs')(T:Int):val ws T cs=val ws T cs':=by
 by_cases c:0<=T;.exact(h.least c).uniq (h'.least c)
 .rw[h.bQ (by omega),h'.bQ (by omega)]
theorem bL.wF{m:Int}{ws:List Wy}{cs cs':List (List aq×Int)}(h:bL m ws cs)(h':bL m ws cs')(T:Int):Rt ws cs T=Rt ws cs' T:=by rw[o6,o6,h.val_eq h',h.val_eq h']
theorem bL.mono{m:Int}{ws:List Wy}{cs:List (List aq×Int)}(h:bL m ws cs){T U:Int}(hT:T<=U):Rt ws cs T<=Rt ws cs U:=sG fun x hx=>by have:=(h.nn x hx).2;unfold gt;split<;>split<;>omega
theorem bL.M8{m:Int}{ws:List Wy}{cs:List (List aq×Int)}(h:bL m ws cs){T:Int}:Rt ws cs T<=Di cs:=sG fun x hx=>by have:=(h.nn x hx).2;unfold gt;split<;>omega
theorem bL.Ng{m:Int}{ws:List Wy}{cs:List (List aq×Int)}(h:bL m ws cs){T:Int}:0<=Rt ws cs T:=by
 have h1:=h.mono (T:=min T 0) (U:=T) (by omega);have:Rt ws cs (min T 0)=0:=by rw[o6,h.bQ (by omega),h.bQ (by omega)];rfl
 omega
noncomputable def Y4(T:Int)(d:D):Option D:=if(Ge d).1<=T then some (.int ((Ge d).2*(T-(Ge d).1+1)))else none
theorem Gj{T:Int}:∀(kvs:List (Int×Int)),∃ns:List Int,(kvs.map fU).filterMap (Y4 T)=ns.map D.int/\ns.sum=gD (vt T) kvs
 |[]=>⟨[],rfl,rfl⟩|kv::r=>by
   obtain⟨ns,h1,h2⟩:=Gj (T:=T) r;have e:Y4 T (fU kv)=if kv.1<=T then some (.int (kv.2*(T-kv.1+1)))else none:=rfl;rw[map_cons,filterMap_cons,h1,gD,<-h2,e];unfold vt;by_cases c:kv.1<=T;.rw[if_pos c,if_pos c];exact⟨_::ns,rfl,by rw[sum_cons]⟩
   .rw[if_neg c,if_neg c];exact⟨ns,rfl,by omega⟩
inductive F2t(a b:Sl)(ρ:List Sl):Prop where|mk(s:Sl)(t:Sl)(q0:ρ=[a,b,s,t])(q1:fr s=true)(q2:fr t=true)
theorem yx{w n:Nat}{T:Int}{kvs:List (Int×Int)}{s:Sl}{Q:R->List Sl->Prop}(hs:s=.own false (kvs.map fU)\/s=.val false (.lst (kvs.map fU)))(hl:kvs.length<=16000000)(h0:∀kv∈kvs,1<=kv.1/\0<kv.2)(hT:T<=1000000000000000000)(k:Q (.val (.int (gD (vt T) kvs))) [s,.val false (.int T)]):(run Γ w (n+1) 11 [s,.val false (.int T)]).sat Q:=by refine aO (d:=f11) rfl rfl (by decide) ?_;symm;rcases hs with rfl|rfl;all_goals
  simp[f11,show kvs.length<=16777216 by omega];refine mK (F2t _ _) (Y4 T) ⟨.aV,.aV,rfl,rfl,rfl⟩ ?_ ?_
  . rintro d hd _⟨s,t,rfl,hs,ht⟩;obtain⟨kv,hkv,rfl⟩:=mem_map.mp hd;have:=(h0 kv hkv).1;have e:Y4 T (fU kv)=if kv.1<=T then some (.int (kv.2*(T-kv.1+1)))else none:=rfl;by_cases c:kv.1<=T
    . rw[if_pos c]at e;have hm:mX (.int kv.2) (.int (T-kv.1+1))=some (.val (.int (kv.2*(T-kv.1+1)))):=by show(if _ then _ else _)=_;rw[if_pos];right;omega
      rw[e];simp[hs,ht,fU,c,hm];exact⟨_,_,rfl,rfl,rfl⟩
    .rw[if_neg c]at e;rw[e];simp[hs,ht,fU,c];exact⟨_,_,rfl,rfl,rfl⟩
  .rintro _⟨s,t,rfl,hs,ht⟩;obtain⟨ns,h1,h2⟩:=Gj (T:=T) kvs;rw[h1];simp[eU,h2];exact k
theorem jU{w n:Nat}{m T:Int}{ws:List Wy}{Q:R->List Sl->Prop}(hw:13286250<=w)(h:fG m ws)(hT:T<=1000000000000000000)(k:∀cs,bL m ws cs->Q (.val (.int (val ws T cs))) [.val false (bj m ws),.val false (.int T)]):(run Γ w (n+6) 12 [.val false (bj m ws),.val false (.int T)]).sat Q:=by refine aO (d:=f12) rfl rfl (by decide) ?_;symm;simp[f12];refine lQ hw h fun cs fs F d es kvs hl hE hb=>?_;simp;refine yx (.inl rfl) (by omega) hb.nn hT ?_;simp;rw[hb.sm _ QW];exact k cs ⟨fs,F,d,es,hE⟩
noncomputable def byD(T:Int)(d:D):Option D:=if(Ge d).1<=T then some d else none
noncomputable def qu(T:Int)(kvs:List (Int×Int)):List (Int×Int):=kvs.filter fun kv=>decide (kv.1<=T)
theorem Hw{T:Int}:∀{kvs:List (Int×Int)},(kvs.map fU).filterMap (byD T)=(qu T kvs).map fU
 |[]=>rfl|kv::r=>by
   have e:byD T (fU kv)=if kv.1<=T then some (fU kv)else none:=rfl;rw[map_cons,filterMap_cons,Hw,e];unfold qu;rw[List.filter_cons];by_cases c:kv.1<=T;.rw[if_pos c,if_pos (by simpa using c)];rfl
   .rw[if_neg c,if_neg (by simpa using c)]
theorem Ad{T:Int}:∀{kvs:List (Int×Int)},((qu T kvs).map (·.2)).sum=gD (gt T) kvs
 |[]=>rfl|kv::r=>by
   have ih:=Ad (T:=T) (kvs:=r);unfold qu at ih ⊢;rw[List.filter_cons,gD];unfold gt at*;by_cases c:kv.1<=T;.rw[if_pos (by simpa using c),if_pos c,map_cons,sum_cons,ih]
   .rw[if_neg (by simpa using c),if_neg c,ih];omega
theorem vV{w n:Nat}{m T:Int}{ws:List Wy}{Q:R->List Sl->Prop}(hw:13286250<=w)(h:fG m ws)(k:∀cs kvs,kvs.length<=13286050->bL m ws cs->T3 ws cs kvs->Q (.own ((qu T kvs).map fU)) [.val false (bj m ws),.val false (.int T)]):(run Γ w (n+6) 10 [.val false (bj m ws),.val false (.int T)]).sat Q:=by
 refine aO (d:=f10) rfl rfl (by decide) ?_;symm;simp[f10];refine lQ hw h fun cs fs F d es kvs hl hE hb=>?_;simp[show kvs.length<=16777216 by omega];refine mK (F2s _ _) (byD T) ⟨.aV,rfl,rfl⟩ ?_ ?_
 . rintro d hd _⟨s,rfl,hs⟩;obtain⟨kv,hkv,rfl⟩:=mem_map.mp hd;have e:byD T (fU kv)=if kv.1<=T then some (fU kv)else none:=rfl;by_cases c:kv.1<=T;.rw[if_pos c]at e;rw[e];simp[hs,fU,c];exact⟨_,rfl,rfl⟩
   .rw[if_neg c]at e;rw[e];simp[hs,fU,c];exact⟨_,rfl,rfl⟩
 .rintro _⟨s,rfl,hs⟩;rw[Hw];simp;exact k cs kvs hl ⟨fs,F,d,es,hE⟩ hb
noncomputable def Tg(d:D):D:=.int (Ge d).2
noncomputable def Pj(d:D):D:=.int (Ge d).1
theorem xr{w n:Nat}{m T:Int}{ws:List Wy}{Q:R->List Sl->Prop}(hw:13286250<=w)(h:fG m ws)(k:∀cs,bL m ws cs->Q (.val (.int (Rt ws cs T))) [.val false (bj m ws),.val false (.int T)]):(run Γ w (n+7) 13 [.val false (bj m ws),.val false (.int T)]).sat Q:=by
 refine aO (d:=ZV) rfl rfl (by decide) ?_;symm;simp[ZV];refine vV hw h fun cs kvs hl hE hb=>?_;have hcl:(qu T kvs).length<=16777216:=by have:=List.length_filter_le (fun kv:Int×Int=>decide (kv.1<=T)) kvs;unfold qu;omega
 simp[hcl];refine fZ (F2t _ _) Tg ⟨.aV,.aV,rfl,rfl,rfl⟩ ?_ ?_;.rintro d hd _⟨s,t,rfl,hs,ht⟩;obtain⟨kv,hkv,rfl⟩:=mem_map.mp hd;simp[hs,ht,fU,Tg,Ge];exact⟨_,_,rfl,rfl,rfl⟩
 . rintro _⟨s,t,rfl,hs,ht⟩;have e:((qu T kvs).map fU).map Tg=((qu T kvs).map (·.2)).map D.int:=by rw[map_map,map_map];rfl
   rw[e];have e2:=Ad (T:=T) (kvs:=kvs);rw[hb.sm _ xN]at e2;generalize(qu T kvs).map (·.2)=ns at*;simp[eU,e2];exact k cs hE
theorem lG{w n:Nat}{m T:Int}{ws:List Wy}{Q:R->List Sl->Prop}(hw:13286250<=w)(h:fG m ws)(k:∀cs,bL m ws cs->Q (.val (.int (Rt ws cs T))) [.val false (bj m ws),.val false (.int T)]):(run Γ w (n+8) 14 [.val false (bj m ws),.val false (.int T)]).sat Q:=by refine aO (d:=f14) rfl rfl (by decide) ?_;symm;simp[f14];refine xr hw h fun cs hE=>?_;simp;exact k cs hE
theorem uh{W V:Int->Int->Int}:∀{kvs:List (Int×Int)},(∀kv∈kvs,W kv.1 kv.2<=V kv.1 kv.2)->gD W kvs<=gD V kvs|[],_=>Int.le_refl _|x::r,h=>by have h1:=h x (by simp);have h2:=uh (W:=W) (V:=V) (kvs:=r) fun y hy=>h y (by simp[hy]);rw[gD,gD];omega
theorem DG{W V:Int->Int->Int}{a:Int×Int}(ha:W a.1 a.2<V a.1 a.2):∀{kvs:List (Int×Int)},a∈kvs->(∀kv∈kvs,W kv.1 kv.2<=V kv.1 kv.2)->gD W kvs<gD V kvs
 |[],h,_=>by cases h|x::r,hm,h=>by
   have h1:=h x (by simp);have h2:=uh (W:=W) (V:=V) (kvs:=r) fun y hy=>h y (by simp[hy]);rw[gD,gD];rcases mem_cons.mp hm with rfl|hm;.omega
   .have:=DG ha hm fun y hy=>h y (by simp[hy]);omega
theorem Pr{ns:List Int}(h:ns≠[]):∃i,ns.max?=some i/\i∈ns/\∀j∈ns,j<=i:=by cases e:ns.max? with|none=>rw[List.max?_eq_none_iff]at e;exact absurd e h|some i=>have:=List.max?_eq_some_iff.mp e;exact⟨i,rfl,this.1,this.2⟩
inductive F1t(a:Sl)(ρ:List Sl):Prop where|mk(s:Sl)(t:Sl)(q0:ρ=[a,s,t])(q1:fr s=true)(q2:fr t=true)
theorem yM{w n:Nat}{m:Int}{ws:List Wy}{Q:R->List Sl->Prop}(hw:13286250<=w)(h:fG m ws)(k0:∀cs,bL m ws cs->Di cs=0->Q (.val .non) [.val false (bj m ws)])(k:∀cs t,bL m ws cs->1<=t->0<Di cs->Rt ws cs t=Di cs->Rt ws cs (t-1)<Di cs->Q (.val (.int t)) [.val false (bj m ws)]):(run Γ w (n+6) 15 [.val false (bj m ws)]).sat Q:=by
 refine aO (d:=YQ) rfl rfl (by decide) ?_;symm;simp[YQ];refine lQ hw h fun cs fs F d es kvs hl hE hb=>?_;have hEd:bL m ws cs:=⟨fs,F,d,es,hE⟩;simp[show kvs.length<=16777216 by omega];refine fZ (F1t _) Pj ⟨.aV,.aV,rfl,rfl,rfl⟩ ?_ ?_;.rintro d hd _⟨s,t,rfl,hs,ht⟩;obtain⟨kv,hkv,rfl⟩:=mem_map.mp hd;simp[hs,ht,fU,Pj,Ge];exact⟨_,_,rfl,rfl,rfl⟩
 . rintro _⟨s,t,rfl,hs,ht⟩;have e:(kvs.map fU).map Pj=(kvs.map (·.1)).map D.int:=by rw[map_map,map_map];rfl
   have eT:gD (fun _ v=>v) kvs=Di cs:=hb.sm _ R4;rw[e];by_cases c:kvs=[]
   . subst c;have:Di cs=0:=by rw[<-eT];rfl
     simp;exact k0 cs hEd this
   . obtain⟨t,h1,h2,h3⟩:=Pr (ns:=kvs.map (·.1)) (by simpa using c);obtain⟨kv,hkv,rfl⟩:=mem_map.mp h2;have hp:=hb.nn kv hkv;have le:∀x∈kvs,x.1<=kv.1:=fun x hx=>h3 _ (mem_map.mpr ⟨x,hx,rfl⟩);have r1:Rt ws cs kv.1=Di cs:=by show cL _ cs=_;rw[<-hb.sm _ xN,<-eT];exact Int.le_antisymm (uh fun x hx=>by unfold gt;rw[if_pos (le x hx)];exact Int.le_refl _) (uh fun x hx=>by unfold gt;rw[if_pos (le x hx)];exact Int.le_refl _)
     have r2:Rt ws cs (kv.1-1)<Di cs:=by
      show cL _ cs<_;rw[<-hb.sm _ xN,<-eT];refine DG (a:=kv) ?_ hkv fun x hx=>?_;.unfold gt;rw[if_neg (by omega)];exact hp.2
      .have:=(hb.nn x hx).2;unfold gt;split<;>omega
     have r3:0<Di cs:=by have:=hEd.Ng (T:=kv.1-1);omega
     generalize kvs.map (·.1)=ns at*;have hm:blt .HW [.lst (ns.map D.int)]=some (.val (.int kv.1)):=by show((items (.lst (ns.map D.int))).bind fun ds=>ds.mapM fV).map _=_;rw[BJ,bind_some,eU,Option.map_some,h1]
     simp[hm];exact k cs kv.1 hEd hp.1 r3 r1 r2
noncomputable def dU(S:List Int):List Wy->Int|[]=>0|w::ws=>(if w.s∈S/\w.t∉S then w.r else 0)+dU S ws
inductive JR(m:Int)(ws:List Wy)(S:List Int)(r:List D)(ρ:List Sl):Prop where|mk(us:List Wy)(f:Int)(s3 s4 s5 s6:Sl)(q0:ρ=[.val false (bj m ws),.val false (.tup (S.map D.int)),.val false (.int f),s3,s4,s5,s6])(q1:A4 (fr s3=true) (fr s4=true) (fr s5=true) (fr s6=true))(q2:r=us.map Wy.d)(q3:f+dU S us=dU S ws)
theorem CG{w n:Nat}{m:Int}{ws:List Wy}{S:List Int}{Q:R->List Sl->Prop}(h:fG m ws)(k:Q (.val (.int (dU S ws))) [.val false (bj m ws),.val false (.tup (S.map D.int))]):(run Γ w (n+1) 23 [.val false (bj m ws),.val false (.tup (S.map D.int))]).sat Q:=by
 have hn:=h.len;refine aO (d:=Y7) rfl rfl (by decide) ?_;symm;simp[Y7];apply ak;simp;refine cu (JR m ws S) ?_ ?_ ⟨ws,0,.aV,.aV,.aV,.aV,rfl,⟨rfl,rfl,rfl,rfl⟩,rfl,by omega⟩;.rintro d r _⟨us,f,s3,s4,s5,s6,rfl,⟨h3,h4,h5,h6⟩,hr,hf⟩;cases us with|nil=>cases hr|cons v us=>
     obtain⟨rfl,rfl⟩:d=v.d/\r=us.map Wy.d:=by simpa using hr
     simp[h3,h4,h5,h6,Wy.d];rw[dU]at hf;symm;by_cases e1:v.s∈S
     . by_cases e2:v.t∈S;.rw[if_neg (fun h=>h.2 e2)]at hf;simp[yC,lZ,e1,e2];exact⟨us,f,_,_,_,_,rfl,⟨rfl,rfl,rfl,rfl⟩,rfl,by omega⟩
       .rw[if_pos ⟨e1,e2⟩]at hf;simp[yC,lZ,e1,e2];apply ak;simp;exact⟨us,f+v.r,_,_,_,_,rfl,⟨rfl,rfl,rfl,rfl⟩,rfl,by omega⟩
     .rw[if_neg (fun h=>e1 h.1)]at hf;simp[yC,lZ,e1];exact⟨us,f,_,_,_,_,rfl,⟨rfl,rfl,rfl,rfl⟩,rfl,by omega⟩
 . rintro _⟨us,f,s3,s4,s5,s6,rfl,_,hr,hf⟩;have:us=[]:=by cases us with|nil=>rfl|cons _ _=>cases hr
   subst this;symm;simp;rw[show f=dU S ws by rw[<-hf];show f=f+0;omega];exact k
theorem qN{w n:Nat}{i:Int}{Q:R->List Sl->Prop}(k:Q (.val (.bl true)) [.val false (.int i)]):(run Γ w (n+1) 21 [.val false (.int i)]).sat Q:=by refine aO (d:=YF) rfl rfl (by decide) ?_;symm;simp[YF];exact k
def Q7(m:Int)(S:List Int):Prop:=0∈S/\m-1∉S
structure Lst(m:Int)(ws:List Wy)(q:Int):Prop where
 ex:∃S,Q7 m S/\dU S ws=q
 le:∀S,Q7 m S->q<=dU S ws
theorem Lst.uniq{m:Int}{ws:List Wy}{p q:Int}(h:Lst m ws p)(g:Lst m ws q):p=q:=by obtain⟨S,h1,h2⟩:=h.ex;obtain⟨T,g1,g2⟩:=g.ex;have:=h.le T g1;have:=g.le S h1;omega
theorem qY{m:Int}{S T:List Int}:∀{ws:List Wy},(∀w∈ws,(0<=w.s/\w.s<m)/\(0<=w.t/\w.t<m))->(∀x,0<=x->x<m->(x∈S↔x∈T))->dU S ws=dU T ws|[],_,_=>rfl|w::ws,h,e=>by have hw:=h w (by simp);rw[dU,dU,qY (ws:=ws) (fun v hv=>h v (by simp[hv])) e];simp only[e w.s hw.1.1 hw.1.2,e w.t hw.2.1 hw.2.2]
theorem S5{m:Int}{ws:List Wy}(h:fG m ws):∀w∈ws,(0<=w.s/\w.s<m)/\(0<=w.t/\w.t<m):=fun w hw=>by have:=h.ok w hw;exact⟨⟨this.s0,this.s1⟩,⟨this.t0,this.t1⟩⟩
noncomputable def kh(b p:Int):Bool:=decide (PySem.Builtin.bitAnd (b/2^(p-1).toNat) 1=1)
noncomputable def mids(m:Int):List Int:=(List.range (m-1-1).toNat).map fun(j:Nat)=>1+(j:Int)
noncomputable def Io(m b:Int):List Int:=0::(mids m).filter (kh b)
noncomputable def fP(b:Int):D->Option D|.int p=>if kh b p=true then some (.int p)else none|_=>none
theorem Ho{b:Int}:∀{l:List Int},(l.map D.int).filterMap (fP b)=(l.filter (kh b)).map D.int|[]=>rfl|p::l=>by rw[map_cons,filterMap_cons,List.filter_cons,Ho (l:=l)];cases h:kh b p<;>simp[fP,h]
theorem Vx{m:Int}(m0:2<=m)(m1:m<=6):∃N:Nat,0<N/\N<=16/\(2:Int)^(m-2).toNat=N:=by
 have:m=2\/m=3\/m=4\/m=5\/m=6:=by omega
 rcases this with rfl|rfl|rfl|rfl|rfl;.exact⟨1,by decide,by decide,rfl⟩
 .exact⟨2,by decide,by decide,rfl⟩
 .exact⟨4,by decide,by decide,rfl⟩
 .exact⟨8,by decide,by decide,rfl⟩
 .exact⟨16,by decide,by decide,rfl⟩
theorem lL{m x:Int}:x∈mids m↔1<=x/\x<m-1:=by
 unfold mids;rw[mem_map];constructor;.rintro⟨j,hj,rfl⟩;have:=mem_range.mp hj;omega
 .intro h;exact⟨(x-1).toNat,mem_range.mpr (by omega),by omega⟩
noncomputable def nb(a b c d:Bool):Nat:=(if a then 1 else 0)+(if b then 2 else 0)+(if c then 4 else 0)+(if d then 8 else 0)
theorem abZ:∀a b c d:Bool,kh (nb a b c d) 1=a/\kh (nb a b c d) 2=b/\kh (nb a b c d) 3=c/\kh (nb a b c d) 4=d:=by decide
theorem Xa:∀a b c d:Bool,nb a b c d<16/\(d=false->nb a b c d<8)/\(c=false->d=false->nb a b c d<4)/\(b=false->c=false->d=false->nb a b c d<2)/\(a=false->b=false->c=false->d=false->nb a b c d<1):=by decide
theorem J8{m:Int}(m0:2<=m)(m1:m<=6)(P:Int->Bool):∃b:Nat,(b:Int)<2^(m-2).toNat/\∀x∈mids m,kh b x=P x:=by
 obtain⟨q1,q2,q3,q4⟩:=abZ (P 1&&decide (1<m-1)) (P 2&&decide (2<m-1)) (P 3&&decide (3<m-1)) (P 4&&decide (4<m-1));obtain⟨l1,l2,l3,l4,l5⟩:=Xa (P 1&&decide (1<m-1)) (P 2&&decide (2<m-1)) (P 3&&decide (3<m-1)) (P 4&&decide (4<m-1));refine⟨nb (P 1&&decide (1<m-1)) (P 2&&decide (2<m-1)) (P 3&&decide (3<m-1)) (P 4&&decide (4<m-1)),?_,fun x hx=>?_⟩
 . generalize nb (P 1&&decide (1<m-1)) (P 2&&decide (2<m-1)) (P 3&&decide (3<m-1)) (P 4&&decide (4<m-1))=b at*;have:m=2\/m=3\/m=4\/m=5\/m=6:=by omega
   rcases this with rfl|rfl|rfl|rfl|rfl;.have:=l5 (by simp) (by simp) (by simp) (by simp);show(b:Int)<1;omega
   .have:=l4 (by simp) (by simp) (by simp);show(b:Int)<2;omega
   .have:=l3 (by simp) (by simp);show(b:Int)<4;omega
   .have:=l2 (by simp);show(b:Int)<8;omega
   .show(b:Int)<16;omega
 . have hm:=lL.mp hx;have:x=1\/x=2\/x=3\/x=4:=by omega
   rcases this with rfl|rfl|rfl|rfl;.rw[q1];simp;omega
   .rw[q2];simp;omega
   .rw[q3];simp;omega
   .rw[q4];simp;omega
theorem Eg{m b:Int}(m0:2<=m):Q7 m (Io m b):=by
 refine⟨by simp[Io],fun z=>?_⟩;unfold Io at z;rcases mem_cons.mp z with z|z;.omega
 .have:=lL.mp (mem_filter.mp z).1;omega
theorem K3{m:Int}{S:List Int}{ws:List Wy}(h:fG m ws)(hS:Q7 m S):∃b:Nat,(b:Int)<2^(m-2).toNat/\dU (Io m b) ws=dU S ws:=by
 have m0:=h.m0;obtain⟨b,h1,h2⟩:=J8 m0 h.m1 fun x=>decide (x∈S);refine⟨b,h1,qY (S5 h) fun x x0 x1=>?_⟩;unfold Io;rw[mem_cons,mem_filter];by_cases e0:x=0;.subst e0;simp[hS.1]
 . by_cases e1:x=m-1
   . subst e1;constructor
     . rintro(z|⟨z,_⟩);.omega
       .have:=lL.mp z;omega
     .intro z;exact absurd z hS.2
   .have hx:x∈mids m:=lL.mpr (by omega);rw[h2 x hx];simp[e0,hx]
noncomputable def Z9(m:Int)(b:Nat):D:=.tup ((Io m b).map D.int)
inductive JSd(m:Int)(a0:Sl)(i:Nat)(ρ:List Sl):Prop where|mk(s2:Sl)(q0:ρ=[a0,.own false ((List.range i).map (Z9 m)),s2])(q1:fr s2=true)
inductive FSd(a0 a1 a2:Sl)(ρ:List Sl):Prop where|mk(s:Sl)(q0:ρ=[a0,a1,a2,s])(q1:fr s=true)
theorem Cp{w n N:Nat}{m:Int}{ws:List Wy}{Q:R->List Sl->Prop}(h:fG m ws)(hN:(2:Int)^(m-2).toNat=N)(hN2:N<=16)(k:Q (.own ((List.range N).map (Z9 m))) [.val false (bj m ws)]):(run Γ w (n+1) 22 [.val false (bj m ws)]).sat Q:=by
 have m0:=h.m0;have m1:=h.m1;refine aO (d:=YB) rfl rfl (by decide) ?_;symm;simp[YB];apply ak;simp[show 0<=m-2 by omega,show m-2<=1000 by omega,hN,show(N:Int)<=1000000000 by omega];refine⟨by omega,?_⟩;refine iy (JSd m _) ?_ ?_ ⟨.aV,rfl,rfl⟩
 . rintro i _ hi⟨s2,rfl,h2⟩;simp[h2];apply ak;simp[show m-1<=1000000000 by omega,show-1000000000<=m-1 by omega,show i<16777216 by omega];refine⟨fun _=>?_,by omega⟩;refine mK (FSd _ _ _) (fP i) ⟨.aV,rfl,rfl⟩ ?_ ?_
   . rintro d hd _⟨s,rfl,hs⟩;obtain⟨j,hj,rfl⟩:=mem_map.mp hd;have hj:=mem_range.mp hj;simp[hs,show(0:Int)<=1+(j:Int)-1 by omega];have e:kh (i:Int) (1+(j:Int))=decide (PySem.Builtin.bitAnd ((i:Int)/2^((1+(j:Int)).toNat-1)) 1=1):=by unfold kh;rw[show(1+(j:Int)-1).toNat=(1+(j:Int)).toNat-1 by omega]
     refine⟨by omega,?_⟩;generalize PySem.Builtin.bitAnd ((i:Int)/2^((1+(j:Int)).toNat-1)) 1=q at*;by_cases hq:q=1;.exact .inr ⟨hq,by simp[fP,e,hq],_,rfl,rfl⟩
     .exact .inl ⟨hq,by simp[fP,e,hq],_,rfl,rfl⟩
   rintro _⟨s,rfl,hs⟩;have hX:((List.range (m.toNat-1-1)).map fun(k:Nat)=>D.int (1+(k:Int))).filterMap (fP i)=((mids m).filter (kh i)).map D.int:=by rw[<-Ho];unfold mids;rw[map_map,show(m-1-1).toNat=m.toNat-1-1 by omega];rfl
   have hl:((mids m).filter (kh i)).length<=4:=by
    have h1:=List.length_filter_le (kh i) (mids m);have h2:(mids m).length=(m-1-1).toNat:=by unfold mids;simp only[length_map,length_range]
    omega
   rw[hX,length_map];refine⟨by show _<=16777216;omega,?_⟩;simp[show i<16777216 by omega];exact⟨_,by rw[List.range_succ,map_append];rfl,rfl⟩
 .rintro _⟨s2,rfl,h2⟩;simp;apply ak;simp;exact k
noncomputable def Ug:D->List Int|.tup ds=>ds.map iK|_=>[]
theorem Ai{l:List Int}:Ug (.tup (l.map D.int))=l:=by show(l.map D.int).map iK=l;rw[map_map];exact map_id _
noncomputable def Q4(S:List Int)(v:Wy):Int:=if v.s∈S/\v.t∉S then v.r else 0
theorem pQ{S:List Int}:∀{ws:List Wy},vD (Q4 S) ws=dU S ws|[]=>rfl|v::ws=>by rw[vD,dU,pQ];rfl
noncomputable def nS(S:List Int)(p:Int):Int:=if p∈S then 0 else 1
theorem bL.lst{m:Int}{ws:List Wy}{cs:List (List aq×Int)}(h:bL m ws cs):Lst m ws (Di cs):=by
 obtain⟨fs,F,d,es,hE⟩:=h;have hv:∀S,Q7 m S->Di cs=dI (gap 0 (nS S)) ws fs:=fun S hS=>by rw[hE.iv.dt];refine kE fun x _=>?_;show x.2=x.2*((if m-1∈S then 0 else 1)-(if 0∈S then 0 else 1)-0*cH ws x.1);rw[if_neg hS.2,if_pos hS.1];simp
 have le:∀S,Q7 m S->Di cs<=dU S ws:=fun S hS=>by rw[hv S hS,<-pQ];refine xW hE.iv.fit.len fun j v g e1 e2=>?_;have hg:=hE.iv.fit.ok _ _ _ e1 e2;unfold gap nS Q4;by_cases a:v.s∈S<;>by_cases b:v.t∈S<;>simp[a,b]<;>omega
 refine⟨⟨es.map (·.1),?_,?_⟩,le⟩;.exact⟨mem_map.mpr ⟨_,hE.cm.cm.z,rfl⟩,fun z=>by obtain⟨⟨p,l,o⟩,he,e⟩:=mem_map.mp z;have e:p=m-1:=e;exact hE.no ⟨l,o,e▸he⟩⟩
 . have hS:Q7 m (es.map (·.1)):=⟨mem_map.mpr ⟨_,hE.cm.cm.z,rfl⟩,fun z=>by obtain⟨⟨p,l,o⟩,he,e⟩:=mem_map.mp z;have e:p=m-1:=e;exact hE.no ⟨l,o,e▸he⟩⟩;refine Int.le_antisymm ?_ (le _ hS);rw[hv _ hS,<-pQ];have step:∀(j:Nat)(v:Wy)(g:Int),ws[j]?=some v->fs[j]?=some g->∀f:Bool,frm v f∈es.map (·.1)->too v f∉es.map (·.1)->¬ 0<nF v g f:=fun j v g e1 e2 f h1 h2 h3=>by obtain⟨⟨p,l,o⟩,he,e⟩:=mem_map.mp h1;have e:p=frm v f:=e;subst e;obtain⟨l2,o2,he2,_⟩:=hE.cm.cl l o (j,f) v e1 he (by rw[jN (s:=(j,f)) e1 e2];simp[h3]);exact h2 (mem_map.mpr ⟨_,he2,rfl⟩)
   refine yt hE.iv.fit.len fun j v g e1 e2=>?_;have hg:=hE.iv.fit.ok _ _ _ e1 e2;have s1:=step j v g e1 e2 true;have s2:=step j v g e1 e2 false;generalize es.map (·.1)=S at*;have s1:v.s∈S->v.t∉S->¬ 0<v.r-g:=s1;have s2:v.t∈S->v.s∉S->¬ 0<g:=s2;unfold gap nS Q4;by_cases a:v.s∈S<;>by_cases b:v.t∈S;.simp[a,b]
   .have:=s1 a b;simp[a,b];omega
   .have:=s2 b a;simp[a,b];omega
   .simp[a,b]
theorem JZ{cs:List Int}{a b:Option Int}:cut (cs.map D.int) a b=(cut cs a b).map D.int:=by unfold cut;simp
inductive abK(ns:List Int)(_:Nat)(ρ:List Sl):Prop where|mk(cs:List Int)(s:Sl)(q0:ρ=[.val false (.lst (ns.map D.int)),.val false (.int 24),.own false (cs.map D.int),s])(q1:fr s=true)(q2:cs.length=24)
theorem yl{w n:Nat}{ns:List Int}{Q:R->List Sl->Prop}(hn:ns.length<=63)(k:∀cs:List Int,cs.length<=24->Q (.own (cs.map D.int)) [.val false (.lst (ns.map D.int)),.val false (.int 24)]):(run Γ w (n+1) 26 [.val false (.lst (ns.map D.int)),.val false (.int 24)]).sat Q:=by
 refine aO (d:=Z0) rfl rfl (by decide) ?_;refine fH (fun ρ=>ρ=[.val false (.lst (ns.map D.int)),.val false (.int 24),.own false ((replicate 24 (0:Int)).map D.int),.aV]) ?_ ?_;.simp[Z0];decide
 rintro _ rfl;symm;simp[show(ns.length:Int)<=1000000000 by omega];refine iy (abK ns) ?_ ?_ ⟨replicate 24 0,.aV,by simp,rfl,by simp⟩;.rintro i _ hi⟨cs,s,rfl,hs,hl⟩;obtain⟨j,hj,j0⟩:∃j:Nat,(i:Int)%24=(j:Int)/\j<cs.length:=⟨i%24,by omega,by omega⟩;have a1:at' (cs.map D.int) (j:Int)=some (.int cs[j]):=iw (by simp[j0]);have a2:at' (ns.map D.int) (i:Int)=some (.int ns[i]):=iw (by simp[hi]);have hx:ie cs.length (j:Int)=some j:=Em j0;simp[hs];apply ak;simp[hj,a1,a2,hx];exact⟨cs.set j (cs[j]*1000003+ns[i]),.val false (.int i),by simp[map_set],rfl,by simpa using hl⟩
 .rintro _⟨cs,s,rfl,hs,hl⟩;symm;simp[Mu,part,Qs,JZ];exact k _ (by
    have:(cut cs none (some (if 24<(ns.length:Int)then 24 else(ns.length:Int)))).length<=cs.length:=by unfold cut;simp;omega
    omega)
theorem Bw{w n:Nat}{m T:Int}{ws:List Wy}{Q:R->List Sl->Prop}(hw:13286250<=w)(h:fG m ws)(h0:0<=T)(hT:T<=1000000000000000000)(k:∀cs,bL m ws cs->Q (.val (.int (Rt ws cs T))) [.val false (bj m ws),.val false (.int T)]):(run Γ w (n+7) 24 [.val false (bj m ws),.val false (.int T)]).sat Q:=by
 refine aO (d:=ZD) rfl rfl (by decide) ?_;symm;simp[ZD];refine⟨fun c=>?_,fun c=>?_⟩;.subst c;symm;simp;refine jU hw h (by omega) fun cs hE=>?_;simp;have:=k cs hE;rw[o6,hE.bQ (T:=0-1) (by omega),sub_zero]at this;exact this
 .symm;simp;refine jU hw h hT fun cs hE=>?_;simp;refine jU hw h (by omega) fun cs' hE'=>?_;simp;have:=k cs hE;rw[o6,hE.val_eq hE' (T-1)]at this;exact this
inductive JGr(m:Int)(ws:List Wy)(a1 a2:Sl)(r:List D)(ρ:List Sl):Prop where|mk(us:List Int)(a:Int)(s4 s5:Sl)(q0:ρ=[.val false (bj m ws),a1,a2,.val false (.int a),s4,s5])(q1:(fr s4=true/\fr s5=true))(q2:r=us.map D.int)(q3:us.Pairwise (·<=·))(q4:(∀u∈us,0<=u/\u<=1000000000000000000))(q5:(a=0\/∃cs T,bL m ws cs/\a=Rt ws cs T/\∀u∈us,T<=u))
theorem Kw{a b:Int}:j8 (.int a) (.int b)=true↔a<=b:=by simp[j8,bD,iK,aW]
theorem Ga(S:List Int):∃us:List Int,nJ (S.map D.int)=us.map D.int/\us.Perm S/\us.Pairwise (·<=·):=by
 have hp:=kI (S.map D.int);have hs:=oJ (S.map D.int);obtain⟨us,e⟩:∃us:List Int,nJ (S.map D.int)=us.map D.int:=⟨(nJ (S.map D.int)).map iK,by rw[map_map];refine(map_id _).symm.trans (map_congr_left fun d hd=>?_);obtain⟨p,_,rfl⟩:=mem_map.mp (hp.mem_iff.mp hd);rfl⟩;refine⟨us,e,?_,?_⟩
 . rw[e]at hp;have:=hp.map iK;have num:∀S:List Int,(S.map D.int).map iK=S:=fun S=>by rw[map_map];exact(map_congr_left fun _ _=>rfl).trans (map_id _)
   rwa[num,num]at this
 .rw[e,List.pairwise_map]at hs;exact hs.imp fun h=>Kw.mp h
theorem BV{w n:Nat}{m q:Int}{ws:List Wy}{S:List Int}{s1:Sl}{Q:R->List Sl->Prop}(hw:13286250<=w)(h:fG m ws)(hq:Lst m ws q)(hs:s1=.own true (S.map D.int)\/s1=.val false (.lst (S.map D.int)))(hl:S.length<=60)(hS:∀u∈S,0<=u/\u<=1000000000000000000)(k:Q (.val (.bl true)) [.val false (bj m ws),s1,.val false (.int q)]):(run Γ w (n+9) 25 [.val false (bj m ws),s1,.val false (.int q)]).sat Q:=by
 obtain⟨us,e1,e2,e3⟩:=Ga S;have hso:sortable (S.map D.int)=true:=by
  have:S.length<=16777216:=by omega
  simp[sortable,this,dY]
 have hbs:blt .sorted [.lst (S.map D.int)]=some (.own (us.map D.int)):=by show(if sortable (S.map D.int)then some (R.own (nJ (S.map D.int)))else none)=_;rw[if_pos hso,e1]
 refine aO (d:=YT) rfl rfl (by decide) ?_;symm;rcases hs with rfl|rfl;all_goals
  simp[YT];apply ak;simp[hbs];refine cu (JGr m ws _ _) ?_ ?_ ⟨us,0,.aV,.aV,rfl,⟨rfl,rfl⟩,rfl,e3,fun u hu=>hS u (e2.mem_iff.mp hu),.inl rfl⟩;.rintro d r _⟨us,a,s4,s5,rfl,⟨h4,h5⟩,hr,hp,hb,ha⟩;cases us with|nil=>cases hr|cons T us=>
      obtain⟨rfl,rfl⟩:d=.int T/\r=us.map D.int:=by simpa using hr
      have hT:=hb T (by simp);have hp:=List.pairwise_cons.mp hp;simp[h4];apply ak;simp;refine lG hw h fun cs hE=>?_;have hg:=hE.M8 (T:=T);rw[hE.lst.uniq hq]at hg;have ha2:a<=Rt ws cs T:=by
       rcases ha with rfl|⟨cs',U,hE',rfl,hU⟩;.exact hE.Ng
       .rw[hE'.wF hE];exact hE.mono (hU T (by simp))
      simp[h5];apply ak;simp;refine qN ?_;simp;refine Bw hw h hT.1 hT.2 fun cs' hE'=>?_;rw[hE'.wF hE];simp[hg,ha2];apply ak;simp;exact⟨us,_,_,_,rfl,⟨rfl,rfl⟩,rfl,hp.2,fun u hu=>hb u (by simp[hu]),.inr ⟨cs,T,hE,rfl,hp.1⟩⟩
  .rintro _⟨us,a,s4,s5,rfl,⟨h4,h5⟩,hr,hp,hb,ha⟩;simp;apply ak;simp;exact k
inductive FLm(a0 a1 a2 a3 a4 a5 a6 a7:Sl)(ρ:List Sl):Prop where|mk(s:Sl)(q0:ρ=[a0,a1,a2,a3,a4,a5,a6,a7,s])(q1:fr s=true)
inductive J45(v:Sl)(r:List D)(ρ:List Sl):Prop where|mk(s1:Sl)(s2:Sl)(s3:Sl)(s4:Sl)(s5:Sl)(s6:Sl)(s7:Sl)(q0:ρ=[v,s1,s2,s3,s4,s5,s6,s7])(q1:A7 (fr s1=true) (fr s2=true) (fr s3=true) (fr s4=true) (fr s5=true) (fr s6=true) (fr s7=true))(q2:∀d∈r,∃i,d=D.int i)
theorem Ju(ns:List Int)(hn:ns.length<=63):∃as,run Γ 100000000 40 27 [.val false (.lst (ns.map D.int))]=.ok (.val (.bl true)) as:=by
 suffices h:(run Γ 100000000 40 27 [.val false (.lst (ns.map D.int))]).sat fun r _=>r=.val (.bl true)by obtain⟨a,ρ,e,rfl⟩:=sat_iff.mp h;exact⟨ρ,e⟩
 refine aO (d:=Y5) rfl rfl (by decide) ?_;symm;simp[Y5];refine yl hn fun cs hcs=>?_;have hl:1+cs.length<=lim:=by show _<=16777216;omega
 simp[hl];refine cu (J45 (.val false (.lst (ns.map D.int)))) ?_ ?_ ?_
 . rintro d r _⟨s1,s2,s3,s4,s5,s6,s7,rfl,⟨h1,h2,h3,h4,h5,h6,h7⟩,hd⟩;obtain⟨x,rfl⟩:=hd d (by simp);simp[h1];apply ak;simp;refine Fg fun a b c=>?_;simp[h2];apply ak;simp;refine KN fun m ws a c hk=>?_;have m0:=hk.m0;have m1:=hk.m1;obtain⟨N,hN0,hN,hp⟩:=Vx m0 m1;simp[h3];apply ak;simp;refine Cp hk hp hN ?_;simp;refine⟨fun _=>?_,by show _<=16777216;omega⟩;refine fZ (FLm _ _ _ _ _ _ _ _) (fun d=>.int (dU (Ug d) ws)) ⟨.aV,rfl,rfl⟩ ?_ ?_;.rintro d hd _⟨s,rfl,hs⟩;obtain⟨b,_,rfl⟩:=mem_map.mp hd;simp[hs,Z9];refine CG hk ?_;simp[Ai];exact⟨_,rfl,rfl⟩
   rintro _⟨s,rfl,hs⟩;have hm:((List.range N).map (Z9 m)).map (fun d=>D.int (dU (Ug d) ws))=((List.range N).map fun(b:Nat)=>dU (Io m b) ws).map D.int:=by rw[map_map,map_map];exact map_congr_left fun b _=>by show D.int (dU (Ug (.tup ((Io m b).map D.int))) ws)=_;rw[Ai];rfl
   rw[hm];obtain⟨q,q1,q2,q3⟩:=Ed (ns:=(List.range N).map fun(b:Nat)=>dU (Io m b) ws) (by simp;omega);have hL:Lst m ws q:=by obtain⟨b,_,e⟩:=mem_map.mp q2;refine⟨⟨_,Eg m0,e⟩,fun S hS=>?_⟩;obtain⟨c,c1,c2⟩:=K3 hk hS;rw[<-c2];exact q3 _ (mem_map.mpr ⟨c,mem_range.mpr (by omega),rfl⟩)
   generalize((List.range N).map fun(b:Nat)=>dU (Io m b) ws)=ns at*;simp[eU,q1,h4];apply ak;simp;refine bG (by decide) (by decide) fun T a c t0 t1=>?_;simp[h5];apply ak;simp;refine bG (by decide) (by decide) fun U a c u0 u1=>?_;simp;refine o8 (by decide) (by decide) fun V a c v0 v1=>?_;simp[h6];apply ak;simp;refine BV (S:=[0,T,T+1,T+2,U,V]) (by omega) hk hL (.inl rfl) (by simp) (fun u hu=>?_) ?_;.simp only[mem_cons,List.not_mem_nil,or_false]at hu;omega
   simp;apply ak;simp;refine yM (by omega) hk (fun cs hE h0=>?_) fun cs t hE ht h0 r1 r2=>?_
   . have hq:q=0:=by rw[<-hE.lst.uniq hL];exact h0
     subst hq;simp[h7];apply ak;simp;apply ak;simp;exact⟨_,_,_,_,_,_,_,rfl,⟨rfl,rfl,rfl,rfl,rfl,rfl,rfl⟩,fun d h=>hd d (mem_cons_of_mem _ h)⟩
   . have hq:=hE.lst.uniq hL;rw[hq]at h0 r1 r2;have hq0:¬ q=0:=by omega
     simp[h7];apply ak;simp[hq0];refine qN ?_;simp;apply ak;simp;apply ak;simp;refine lG (by omega) hk fun cs' hE'=>?_;rw[hE'.wF hE,r1];simp;refine lG (by omega) hk fun cs' hE'=>?_;have r3:Rt ws cs' (t+1+T)=q:=by have g1:=hE'.M8 (T:=t+1+T);rw[hE'.lst.uniq hL]at g1;have g2:=hE'.mono (T:=t) (U:=t+1+T) (by omega);rw[hE'.wF hE,r1]at g2;omega
     rw[r3];simp[show ¬ t<1 by omega];apply ak;simp;refine lG (by omega) hk fun cs' hE'=>?_;rw[hE'.wF hE];simp[show ¬ q<=Rt ws cs (t-1)by omega];exact⟨_,_,_,_,_,_,_,rfl,⟨rfl,rfl,rfl,rfl,rfl,rfl,rfl⟩,fun d h=>hd d (mem_cons_of_mem _ h)⟩
 .rintro _⟨s1,s2,s3,s4,s5,s6,s7,rfl,⟨h1,h2,h3,h4,h5,h6,h7⟩,hd⟩;symm;simp
 . refine⟨_,_,_,_,_,_,_,rfl,⟨rfl,rfl,rfl,rfl,rfl,rfl,rfl⟩,fun d hd=>?_⟩;simp at hd;rcases hd with rfl|⟨i,_,rfl⟩;.exact⟨_,rfl⟩
   .exact⟨_,rfl⟩
end T
end
structure PySem.W.Fast:Prop where(tw12356915168891115135 tw5510864839648461963 tw8099170661877634221 tw9566642817456992640 tw1114317526467468150 tw16167066303694602246 tw16064820353753214330 tw7523390567680596414 tw4668746958218198992 tw17722138561519026995 tw2943066121059179825 tw4641873596843627063 tw46871328874836979 tw17933901772248246609 tw13582983673656141224 tw13280755841632603154 tw9491700260313478695 tw5950347182978649840 tw12781897016761869622 tw16478253250376204649 tw8663498725301496758 tw8391052801779865826 tw5757984647939645378 tw1373276715416943607 tw17708963554424505745 tw3896941475870330490 tw5633143955452387099 tw8975710358635444632 tw4455314996798460376 tw6572490543911420169 tw17831558007867262629 tw15640480352970325449 tw3432057219253600631 tw7327954468840073572 tw15811825490595962032 tw14161066650296874446 tw6521417865868037866 tw11011120314460350680 tw745397114411024462 tw266687642510064639 tw8726626996600669688 tw8740266850425287678 tw4502363592973740327 tw10977301346085389273 tw2918040836869129994 tw406575984619386844 tw17287717704923652925 tw3544888166277434981 tw10982148695096488622 tw1421902245024507586 tw7653224162095531789 tw15806435378136692053 tw10013969202121115792 tw9319684467833422698 tw9216045292245894948 tw16108556682787718030 tw11927560336813087402 tw4643493136369279000 tw3982935744354755122 tw3608835153210816245 tw3755483573342453079 tw13074248046470024909 tw7050400331039202310 tw16102764610115129469 tw3445682060307388810 tw4930888104401169705 tw16327289821886839674 tw3683682583440183809 tw12689381906100908154 tw8761819431313251539 tw15382822125771108358 tw11574715441527543545 tw3354438380197914182 tw2309111604697305971 tw17724059264394815284 tw8106625873255698219 tw10594643938681710198 tw10880862471690268099 tw5967617642683879797 tw6509449428075224794 tw5329956357770431265 tw2800165328974561709 tw4282676781326155633 tw3605072963696214473 tw8012886033555455532 tw3057700099765683903 tw116720223625528803 tw14920288022143096848 tw17899672390210858539 tw15035876974154961604 tw14257132415902481381 tw13544065336750543682 tw3065402441924969464 tw17052691682491078836 tw4250451254651386434 tw12228271518636822361 tw14487484175661415367 tw6392892132194125887 tw6802198943127427912 tw14164996205489412728 tw10936226098293336092 tw14444519082041870548 tw7232372180012864918 tw11796163053832890355 tw13704047029271292 tw14893181304794952035 tw2387404323086328326 tw8180726967956332818 tw11728312252560158232 tw15984090389746884152 tw9014717249303326510 tw9127170361682480017 tw1740416846615303888 tw4234227452952194283 tw814041836183884012 tw11947480736393540183 tw11381505205098427727 tw799697747297207653 tw14514645886707248241 tw17106593137734787549 tw1976846491004335452 tw11511108769694128730 tw8254335221543072105 tw7125432259636164011 tw13848258938502865243 tw12678379122830867550 tw1253771462830620947 tw15668775602004770534 tw17926784919121592473 tw14209332978812972493 tw8238562692427985878 tw13261983362553721698 tw7571171128667136795 tw5441063699136612307 tw1493345825321319954 tw15066526670983477455 tw16761310966091293286 tw8846331084900777123 tw1001052731456756461 tw15943019569316015101 tw10777747837225707810 tw7397378116651913924 tw12625231846519030807 tw14420204016230892373 tw16297430249139817853 tw6941187270979288140 tw8534953697149187821 tw18046633024522514296 tw1105215886424451159 tw3215716223044422887 tw6425474351145960637 tw11752522451941878077 tw16630008137555652174 tw7412075138744374398 tw13888883704572503567 tw9304695958047404776 tw10700082139245346320 tw13889309750826030900 tw5507785587542642990 tw17171320295037121005 tw7786170398384165229 tw16433297550704206753 tw7849321287815066499 tw934761040448606155 tw6639250324273059660 tw8425635591365511101 tw15240036653757833014 tw7099753692318649020 tw16320708232299517107 tw4482191278550274211:True)
namespace T
open PySem L2 PySem.Spec PyProof.Rows HH
theorem WN{P:List Value → Prop}{n:Nat}(h:∀(a:Value)(us:List Value),us.length=n → P (a::us))(us:List Value)(hl:us.length=n+1):P us:=by cases us with|nil=>cases hl|cons a us=>exact h a us (Nat.succ.inj hl)
theorem lk0{P:List Value → Prop}(h:P [])(us:List Value)(hl:us.length=0):P us:=by cases us with|nil=>exact h|cons a us=>cases hl
theorem xH{P:List Value → Prop}(h:∀a,P [a]):∀us:List Value,us.length=1 → P us:=WN fun a=>lk0 (h a)
theorem lr{P:List Value → Prop}(h:∀a b,P [a,b]):∀us:List Value,us.length=2 → P us:=WN fun a=>xH (h a)
theorem Cq{P:List Value → Prop}(h:∀a b c,P [a,b,c]):∀us:List Value,us.length=3 → P us:=WN fun a=>lr (h a)
theorem lk4{P:List Value → Prop}(h:∀a b c d,P [a,b,c,d]):∀us:List Value,us.length=4 → P us:=WN fun a=>Cq (h a)
theorem lk5{P:List Value → Prop}(h:∀a b c d e,P [a,b,c,d,e]):∀us:List Value,us.length=5 → P us:=WN fun a=>lk4 (h a)
local macro_rules|`(term|‹$p›)=>`(fun _ _ _ _ _ _=>$p)
structure Txt(K:PySem.W.Frag):Prop where
 D0:bF K "step_places" s0
 D1:bF K "step_hours" s1
 D2:bF K "step_room" s2
 D3:bF K "steps_hours" s3
 D4:bF K "open_steps" s4
 D5:bF K "shortest_come" s5
 D6:bF K "steps_to" s6
 D7:bF K "stream_with" s7
 D8:bF K "chains_to_end" s8
 D9:bF K "bends_of" s9
 D10:bF K "bends_by" ql
 D11:bF K "most_of" Zt
 D12:bF K "most_by" s12
 D13:bF K "rate_by" s13
 D14:bF K "gain_at" s14
 D15:bF K "steady_hour" s15
 D16:bF K "_law_pool" s16
 D17:bF K "_law_next" s17
 D18:bF K "_law_wide" s18
 D19:bF K "_law_way" s19
 D20:bF K "_law_net" s20
 D21:bF K "_law_whole" s21
 D22:bF K "_law_sides" s22
 D23:bF K "_law_side_room" s23
 D24:bF K "_law_gain" s24
 D25:bF K "_law_gains_right" s25
 D26:bF K "_law_folded" s26
 D27:bF K "law" s27
 zg:PySem.W.nsIn K mainGlobals "bool"=some none
 Ii:PySem.W.nsIn K mainGlobals "int"=some none
 dN:PySem.W.nsIn K mainGlobals "isinstance"=some none
 gq:PySem.W.nsIn K mainGlobals "len"=some none
 jV:PySem.W.nsIn K mainGlobals "list"=some none
 rT:PySem.W.nsIn K mainGlobals "max"=some none
 jG:PySem.W.nsIn K mainGlobals "min"=some none
 bO:PySem.W.nsIn K mainGlobals "range"=some none
 jW:PySem.W.nsIn K mainGlobals "reversed"=some none
 gw:PySem.W.nsIn K mainGlobals "sorted"=some none
 lM:PySem.W.nsIn K mainGlobals "sum"=some none
 dM:PySem.W.nsIn K mainGlobals "tuple"=some none
noncomputable def jY{K:PySem.W.Frag}(T:Txt K):Nat->Addr:=fun k=>0
structure Oks(Pg:Program)(w:World)(K:PySem.W.Frag)(mg:Str->Option Value)(base:Heap)(cl:Nat->Addr)(n:Nat):Prop where
 c0:au Pg w K mg base n (run Γ 100000000 n) 0 "step_places" 2
 c1:au Pg w K mg base n (run Γ 100000000 n) 1 "step_hours" 2
 c2:au Pg w K mg base n (run Γ 100000000 n) 2 "step_room" 3
 c3:au Pg w K mg base n (run Γ 100000000 n) 3 "steps_hours" 2
 c4:au Pg w K mg base n (run Γ 100000000 n) 4 "open_steps" 2
 c5:au Pg w K mg base n (run Γ 100000000 n) 5 "shortest_come" 3
 c6:au Pg w K mg base n (run Γ 100000000 n) 6 "steps_to" 3
 c7:au Pg w K mg base n (run Γ 100000000 n) 7 "stream_with" 3
 c8:au Pg w K mg base n (run Γ 100000000 n) 8 "chains_to_end" 1
 c9:au Pg w K mg base n (run Γ 100000000 n) 9 "bends_of" 1
 c10:au Pg w K mg base n (run Γ 100000000 n) 10 "bends_by" 2
 c11:au Pg w K mg base n (run Γ 100000000 n) 11 "most_of" 2
 c12:au Pg w K mg base n (run Γ 100000000 n) 12 "most_by" 2
 c13:au Pg w K mg base n (run Γ 100000000 n) 13 "rate_by" 2
 Yy:au Pg w K mg base n (run Γ 100000000 n) 14 "gain_at" 2
 c15:au Pg w K mg base n (run Γ 100000000 n) 15 "steady_hour" 1
 c16:au Pg w K mg base n (run Γ 100000000 n) 16 "_law_pool" 1
 Tt:au Pg w K mg base n (run Γ 100000000 n) 17 "_law_next" 2
 Yz:au Pg w K mg base n (run Γ 100000000 n) 18 "_law_wide" 2
 c19:au Pg w K mg base n (run Γ 100000000 n) 19 "_law_way" 4
 c20:au Pg w K mg base n (run Γ 100000000 n) 20 "_law_net" 3
 c21:au Pg w K mg base n (run Γ 100000000 n) 21 "_law_whole" 1
 c22:au Pg w K mg base n (run Γ 100000000 n) 22 "_law_sides" 1
 c23:au Pg w K mg base n (run Γ 100000000 n) 23 "_law_side_room" 2
 c24:au Pg w K mg base n (run Γ 100000000 n) 24 "_law_gain" 2
 c25:au Pg w K mg base n (run Γ 100000000 n) 25 "_law_gains_right" 3
 c26:au Pg w K mg base n (run Γ 100000000 n) 26 "_law_folded" 2
 c27:au Pg w K mg base n (run Γ 100000000 n) 27 "law" 1
set_option maxHeartbeats 0 in
theorem G6{Pg:Program}{w:World}{K:PySem.W.Frag}{mg:Str->Option Value}{base:Heap}(T:Txt K)(X:K.In base)(G:base.Ns mainGlobals mg):∀n,Oks Pg w K mg base (jY T) n
 |0=>{
   c0:=bR (ps:=["net","step"]) X G T.D0 rfl ‹lr fun _ _=>rfl›
   c1:=bR (ps:=["net","step"]) X G T.D1 rfl ‹lr fun _ _=>rfl›
   c2:=bR (ps:=["net","stream","step"]) X G T.D2 rfl ‹Cq fun _ _ _=>rfl›
   c3:=bR (ps:=["net","steps"]) X G T.D3 rfl ‹lr fun _ _=>rfl›
   c4:=bR (ps:=["net","stream"]) X G T.D4 rfl ‹lr fun _ _=>rfl›
   c5:=bR (ps:=["net","stream","begun"]) X G T.D5 rfl ‹Cq fun _ _ _=>rfl›
   c6:=bR (ps:=["net","come","place"]) X G T.D6 rfl ‹Cq fun _ _ _=>rfl›
   c7:=bR (ps:=["stream","steps","loads"]) X G T.D7 rfl ‹Cq fun _ _ _=>rfl›
   c8:=bR (ps:=["net"]) X G T.D8 rfl ‹xH fun _=>rfl›
   c9:=bR (ps:=["net"]) X G T.D9 rfl ‹xH fun _=>rfl›
   c10:=bR (ps:=["net","last"]) X G T.D10 rfl ‹lr fun _ _=>rfl›
   c11:=bR (ps:=["bends","last"]) X G T.D11 rfl ‹lr fun _ _=>rfl›
   c12:=bR (ps:=["net","last"]) X G T.D12 rfl ‹lr fun _ _=>rfl›
   c13:=bR (ps:=["net","last"]) X G T.D13 rfl ‹lr fun _ _=>rfl›
   Yy:=bR (ps:=["net","last"]) X G T.D14 rfl ‹lr fun _ _=>rfl›
   c15:=bR (ps:=["net"]) X G T.D15 rfl ‹xH fun _=>rfl›
   c16:=bR (ps:=["cell"]) X G T.D16 rfl ‹xH fun _=>rfl›
   Tt:=bR (ps:=["pool","base"]) X G T.D17 rfl ‹lr fun _ _=>rfl›
   Yz:=bR (ps:=["pool","base"]) X G T.D18 rfl ‹lr fun _ _=>rfl›
   c19:=bR (ps:=["pool","many","most","longest"]) X G T.D19 rfl ‹lk4 fun _ _ _ _=>rfl›
   c20:=bR (ps:=["pool","places","count"]) X G T.D20 rfl ‹Cq fun _ _ _=>rfl›
   c21:=bR (ps:=["thing"]) X G T.D21 rfl ‹xH fun _=>rfl›
   c22:=bR (ps:=["net"]) X G T.D22 rfl ‹xH fun _=>rfl›
   c23:=bR (ps:=["net","side"]) X G T.D23 rfl ‹lr fun _ _=>rfl›
   c24:=bR (ps:=["net","last"]) X G T.D24 rfl ‹lr fun _ _=>rfl›
   c25:=bR (ps:=["net","hours","greatest"]) X G T.D25 rfl ‹Cq fun _ _ _=>rfl›
   c26:=bR (ps:=["script","most"]) X G T.D26 rfl ‹lr fun _ _=>rfl›
   c27:=bR (ps:=["script"]) X G T.D27 rfl ‹xH fun _=>rfl›}|n+1=>have ih:=G6 (Pg:=Pg) (w:=w) (base:=base) T X G n
   {c0:=bT (ps:=["net","step"]) X G T.D0 rfl rfl ‹lr fun _ _=>rfl› fun _ _ F=>d0 (cl:=jY T) F
    c1:=bT (ps:=["net","step"]) X G T.D1 rfl rfl ‹lr fun _ _=>rfl› fun _ _ F=>d1 (cl:=jY T) F
    c2:=bT (ps:=["net","stream","step"]) X G T.D2 rfl rfl ‹Cq fun _ _ _=>rfl› fun _ _ F=>d2 (cl:=jY T) F
    c3:=bT (ps:=["net","steps"]) X G T.D3 rfl rfl ‹lr fun _ _=>rfl› fun _ _ F=>d3 (cl:=jY T) F (mg_none_of X G T.lM) ih.c1
    c4:=bT (ps:=["net","stream"]) X G T.D4 rfl rfl ‹lr fun _ _=>rfl› fun _ _ F=>d4 (cl:=jY T) F (mg_none_of X G T.gq) (mg_none_of X G T.bO) ih.c0 ih.c2
    c5:=bT (ps:=["net","stream","begun"]) X G T.D5 rfl rfl ‹Cq fun _ _ _=>rfl› fun _ _ F=>d5 (cl:=jY T) F (mg_none_of X G T.gq) (mg_none_of X G T.jV) ih.c4 ih.c1 ih.c0
    c6:=bT (ps:=["net","come","place"]) X G T.D6 rfl rfl ‹Cq fun _ _ _=>rfl› fun _ _ F=>d6 (cl:=jY T) F (mg_none_of X G T.jW) (mg_none_of X G T.dM) ih.c0
    c7:=bT (ps:=["stream","steps","loads"]) X G T.D7 rfl rfl ‹Cq fun _ _ _=>rfl› fun _ _ F=>d7 (cl:=jY T) F (mg_none_of X G T.jV)
    c8:=bT (ps:=["net"]) X G T.D8 rfl rfl ‹xH fun _=>rfl› fun _ _ F=>d8 (cl:=jY T) F (mg_none_of X G T.gq) (mg_none_of X G T.jG) ih.c5 ih.c2 ih.c6 ih.c7
    c9:=bT (ps:=["net"]) X G T.D9 rfl rfl ‹xH fun _=>rfl› fun _ _ F=>d9 (cl:=jY T) F (mg_none_of X G T.gw) ih.c8 ih.c3
    c10:=bT (ps:=["net","last"]) X G T.D10 rfl rfl ‹lr fun _ _=>rfl› fun _ _ F=>d10 (cl:=jY T) F ih.c9
    c11:=bT (ps:=["bends","last"]) X G T.D11 rfl rfl ‹lr fun _ _=>rfl› fun _ _ F=>d11 (cl:=jY T) F (mg_none_of X G T.lM)
    c12:=bT (ps:=["net","last"]) X G T.D12 rfl rfl ‹lr fun _ _=>rfl› fun _ _ F=>d12 (cl:=jY T) F ih.c9 ih.c11
    c13:=bT (ps:=["net","last"]) X G T.D13 rfl rfl ‹lr fun _ _=>rfl› fun _ _ F=>d13 (cl:=jY T) F (mg_none_of X G T.lM) ih.c10
    Yy:=bT (ps:=["net","last"]) X G T.D14 rfl rfl ‹lr fun _ _=>rfl› fun _ _ F=>d14 (cl:=jY T) F ih.c13
    c15:=bT (ps:=["net"]) X G T.D15 rfl rfl ‹xH fun _=>rfl› fun _ _ F=>d15 (cl:=jY T) F (mg_none_of X G T.rT) ih.c9
    c16:=bT (ps:=["cell"]) X G T.D16 rfl rfl ‹xH fun _=>rfl› fun _ _ F=>d16 (cl:=jY T) F (mg_none_of X G T.rT)
    Tt:=bT (ps:=["pool","base"]) X G T.D17 rfl rfl ‹lr fun _ _=>rfl› fun _ _ F=>d17 (cl:=jY T) F
    Yz:=bT (ps:=["pool","base"]) X G T.D18 rfl rfl ‹lr fun _ _=>rfl› fun _ _ F=>d18 (cl:=jY T) F (mg_none_of X G T.bO) ih.Tt
    c19:=bT (ps:=["pool","many","most","longest"]) X G T.D19 rfl rfl ‹lk4 fun _ _ _ _=>rfl› fun _ _ F=>d19 (cl:=jY T) F ih.Tt ih.Yz
    c20:=bT (ps:=["pool","places","count"]) X G T.D20 rfl rfl ‹Cq fun _ _ _=>rfl› fun _ _ F=>d20 (cl:=jY T) F (mg_none_of X G T.bO) (mg_none_of X G T.dM) ih.Tt ih.c19
    c21:=bT (ps:=["thing"]) X G T.D21 rfl rfl ‹xH fun _=>rfl› fun _ _ F=>d21 (cl:=jY T) F (mg_none_of X G T.zg) (mg_none_of X G T.Ii) (mg_none_of X G T.dN)
    c22:=bT (ps:=["net"]) X G T.D22 rfl rfl ‹xH fun _=>rfl› fun _ _ F=>d22 (cl:=jY T) F (mg_none_of X G T.bO) (mg_none_of X G T.dM)
    c23:=bT (ps:=["net","side"]) X G T.D23 rfl rfl ‹lr fun _ _=>rfl› fun _ _ F=>d23 (cl:=jY T) F
    c24:=bT (ps:=["net","last"]) X G T.D24 rfl rfl ‹lr fun _ _=>rfl› fun _ _ F=>d24 (cl:=jY T) F ih.c12
    c25:=bT (ps:=["net","hours","greatest"]) X G T.D25 rfl rfl ‹Cq fun _ _ _=>rfl› fun _ _ F=>d25 (cl:=jY T) F (mg_none_of X G T.gw) ih.c24 ih.c21 ih.Yy
    c26:=bT (ps:=["script","most"]) X G T.D26 rfl rfl ‹lr fun _ _=>rfl› fun _ _ F=>d26 (cl:=jY T) F (mg_none_of X G T.gq) (mg_none_of X G T.jG) (mg_none_of X G T.bO)
    c27:=bT (ps:=["script"]) X G T.D27 rfl rfl ‹xH fun _=>rfl› fun _ _ F=>d27 (cl:=jY T) F (mg_none_of X G T.jG) ih.c26 ih.c25 ih.c20 ih.Tt ih.c16 ih.c23 ih.c22 ih.c21 ih.Yz ih.Yy ih.c15}
set_option maxHeartbeats 0 in
theorem Oz{Pg:Program}{w:World}{K:PySem.W.Frag}{mg:Str->Option Value}{h:Heap}{fa:Addr}(T:Txt K)(X:K.In h)(G:h.Ns mainGlobals mg)(hmg:mg "law"=some (.ref fa)):∃fd:FuncData,(∀(s:Shared)(u:Value),BindsTo s fd ⟨[u],[]⟩ [("script",u)])/\∀base:Heap,K.In base->base.Ns mainGlobals mg->bW Pg w K mg base gW 40 fa fd ["script"] (ik K 1 (run Γ 100000000 40 27)):=by
 obtain⟨f,fd,a,F⟩:=T.D27.ex;have e:=hmg.symm.trans (mg_of X G a);cases e;refine⟨fd,fun s u=>?_,fun base kb nb=>?_⟩;.obtain⟨oc,od,kV,doc,pm,an,cdv,ct,osl,rfl,lk,hcd⟩:=F.ex;exact .of_eq rfl
 .have ih:=G6 (Pg:=Pg) (w:=w) (base:=base) T kb nb 39;exact d27 (cl:=jY T) (k:=39) (n:=100000000) (c:=run Γ 100000000 39) F (mg_none_of X G T.jG) ih.c26 ih.c25 ih.c20 ih.Tt ih.c16 ih.c23 ih.c22 ih.c21 ih.Yz ih.Yy ih.c15
end T
open PySem PySem.W PyProof.Rows
set_option maxRecDepth 100000 in
set_option maxHeartbeats 0 in
theorem PySem.Challenge.cw_hourhaul_k45_gains_of_hours_holds : PySem.Challenge.rw_hourhaul_k45_gains_of_hours.Holds := by
 w_on;o_law;k_head;(case hw=>w_witness2);k_fill;refine L2.Hz (l:=PySem.Challenge.rw_hourhaul_k45_gains_of_hours) (n:=63) (k:=40) (x:="script") (CX:=L2.gW) (sp:=fun K=>HH.ik K 1 (HH.run T.Γ 100000000 40 27)) rfl (by decide) rfl ⟨rfl,by decide,by decide⟩ (fun w h Y=>PySem.W.kIn_of Y) ?F ?S ?C;case F=>
  intro w mg fa h KX G hmg;refine T.Oz ?T KX G hmg;constructor;iterate 28(· refine' HH.RV ?a ?l ?c ?k;case a|l|c|k=>k_is)
  iterate 12(· k_is)
 case S=>intro K H a ns hl hO hS;obtain⟨as,e⟩:=T.Ju ns hl;exact HH.Dd hS e
 case C=>exact fun H s e s' z=>z
