import PyProof.Rows.All
import Wide.All
import OpenK.AllK
import Wide.FinOn
import Lean
import PyProof.EqAt
import PyProof.EqKinds
import PyProof.TupleCall
import PySem.Str
import PySem.Builtin.Int.W1All
import PyProof.NeKinds
import PyProof.ZipIter
import PyProof.SumWalkG
import PyProof.MinMaxWalk
import PyProof.WalksMore
import PyProof.SeqI3
import PyProof.WalkInts
import PyProof.Rows.CallKwBuiltin
import PyProof.Rows.Tup
import PyProof.CollectIter
import PyProof.EnumMake
import PyProof.TupleOfSeq
import PyProof.ListNew
import PyProof.ReprLoop
import PyProof.StationsW
import PyProof.ExcClass3
import PyProof.Rows.CatchBare
import OpenK.KOwn
import KE.KIsAll
import PyProof.NsDelKeeps
import PyProof.RulesAs
import PyProof.ExcArgsOwn
import PyProof.ListRange
import KE.RegKIsAll
import KE.KRevIter
import PyProof.Rows.SortRuns
import KE.KSortTup
import PyProof.DictWalks
import KE.KDictList
import PyProof.SetScanFacts
import PyProof.SetKind
import PyProof.Rows.SetFrom
import PyProof.ExcBaseAll.ValueError
import PySem.Challenge.RW_hourhaul_k25_fullest_judged
set_option Elab.async false
set_option linter.all false
set_option maxRecDepth 100000
set_option genSizeOf false
set_option compiler.extract_closed false
set_option bootstrap.genMatcherCode false
open PySem.Heap(get?_push_of_some lt_size get?_push_size size_push get?_update_other SameBut get?_update_self IsTuple IsList)
open List(replicate getElem?_set_ne mem_cons getElem?_set_self size_toArray mem_map length_map map_cons map_map length_cons getElem?_map all_eq_true mem_cons_of_mem getElem?_append_left not_mem_nil nodup_cons lookup_cons mem_append mem_append_right length_append drop_eq_getElem_cons mem_of_getElem? all_cons any_cons getElem_mem getElem?_eq_getElem mem_singleton find?_cons filterMap_cons mem_cons_self append_nil reverse_cons append_assoc length_range getD mem_range replicate_succ foldl length_take getElem?_append_right length_nil mem_append_left getElem?_replicate foldl_cons map nodup_append map_congr_left mem_filter flatten_cons map_nil drop_eq_nil_iff pairwise_map of_mem_zip nil_append forIn_cons forIn_nil all_map map_id)
open PySem.W(mg_none_of keepIn methodObj mg_of kitx_dict)
open Nat(le_refl ne_of_lt lt_of_lt_of_le zero_le le_trans lt_irrefl ne_of_gt le_of_lt lt_succ_of_lt le_succ not_lt lt_trans)
open PySem.Builtin.SmallTypes(nextOf ownedTupleIsFree ownedTupleHandOut)
open PySem.Builtin.Tuple(tupleExact tupleItemsOf)
open PySem.F(called_set slot_tuple_add entry_tuple_add args_tuple_add_2 slot_tuple_mul)
open Bool(and_eq_true noConfusion or_eq_true false_eq_true not_eq_true')
open PySem.Builtin.Slice(slicePlaces sliceAdjust sliceApplied sliceFields)
open Array(length_toList getElem_toList getElem?_toList toList)
open PySem.Builtin.List(listExtendWith listLengthHint listSameRef listTooLong)
open Option(map_eq_some_iff bind_some isSome_map getD_none)
open PySem.SetTable(grown probe)
open PySem.SeqAt.EqAt(int_str str_int none_bool none_int none_str bool_none bool_bool bool_int bool_str int_none int_bool int_int str_none str_bool str_str)
open Int(toNat_natCast sub_zero)
open PySem.SeqAt.RcAt(lists_lengths)
open PySem.SeqAt.RcNeAt(int_list str_list list_int list_str)
section
namespace L2
open PySem PySem.Spec PyProof.Rows
noncomputable abbrev Key:=Sum Int Str
noncomputable def pZ:Key->Value->Bool|.inl k,v=>Value.isInt k v|.inr x,v=>Value.isStrOf x v
noncomputable def aaw(w:World):Key->Int|.inl k=>hashInt k|.inr x=>hashStr w x
theorem bO:∀{k:Key}{v:Value},pZ k v=true->(∃i t,k=Sum.inl i/\v=Value.int i t)\/(∃x t,k=Sum.inr x/\v=Value.str x t)|.inl i,v,h=>by obtain⟨t,e⟩:=Value.isInt_shape (k:=i) (v:=v) h;exact .inl ⟨i,t,rfl,e⟩|.inr x,v,h=>by obtain⟨t,e⟩:=Value.isStrOf_shape (x:=x) (v:=v) h;exact .inr ⟨x,t,rfl,e⟩
theorem Bu(i:Int)(t:Tok):pZ (.inl i) (.int i t)=true:=by simp[pZ,Value.isInt]
theorem Cg(x:Str)(t:Tok):pZ (.inr x) (.str x t)=true:=by simp[pZ,Value.isStrOf]
theorem QF(a b:Int):decide ((Sum.inl a:Key)=Sum.inl b)=(a==b):=by
 by_cases e:a=b;.subst e;simp
 .have h:¬(Sum.inl a:Key)=Sum.inl b:=fun q=>e (Sum.inl.inj q);rw[decide_eq_false h];exact(beq_eq_false_iff_ne.mpr e).symm
theorem Rm(a b:Str):decide ((Sum.inr a:Key)=Sum.inr b)=decide (a=b):=by
 by_cases e:a=b;.subst e;simp
 .have h:¬(Sum.inr a:Key)=Sum.inr b:=fun q=>e (Sum.inr.inj q);rw[decide_eq_false h,decide_eq_false e]
theorem Pn(a:Int)(b:Str):decide ((Sum.inl a:Key)=Sum.inr b)=false:=decide_eq_false (fun q=>nomatch q)
theorem Oe(a:Str)(b:Int):decide ((Sum.inr a:Key)=Sum.inl b)=false:=decide_eq_false (fun q=>nomatch q)
noncomputable def bN(prog:Program)(w:World):PySem.KeyKind prog w Key where
 is:=pZ;hash:=aaw w;inj:=fun v a b ha hb=>by
  rcases bO ha with⟨i,t,rfl,rfl⟩|⟨x,t,rfl,rfl⟩
  . rcases bO hb with⟨j,u,rfl,e⟩|⟨y,u,rfl,e⟩;.injection e with e1 _;rw[e1]
    .exact nomatch e
  . rcases bO hb with⟨j,u,rfl,e⟩|⟨y,u,rfl,e⟩;.exact nomatch e
    .injection e with e1 _;rw[e1]
 byValue:=fun k v h=>by rcases bO h with⟨i,t,rfl,rfl⟩|⟨x,t,rfl,rfl⟩<;>rfl
 pyHash:=fun hv h=>by
  rcases bO hv with⟨i,t,rfl,rfl⟩|⟨x,t,rfl,rfl⟩;.exact wpAny_pyHash_int h
  .exact wpAny_pyHash_str h
 eqBool:=fun hu hv h=>by
  rcases bO hu with⟨i,t,rfl,rfl⟩|⟨x,t,rfl,rfl⟩
  . rcases bO hv with⟨j,u,rfl,rfl⟩|⟨y,u,rfl,rfl⟩;.rw[QF]at h;exact wpAny_eqBool_int h
    .rw[Pn]at h;exact int_str i t y u _ _ _ _ h
  . rcases bO hv with⟨j,u,rfl,rfl⟩|⟨y,u,rfl,rfl⟩;.rw[Oe]at h;exact str_int x t j u _ _ _ _ h
    .rw[Rm]at h;exact wpAny_eqBool_str h
 «strs»:=fun k x t v h=>by
  rcases bO h with⟨i,u,rfl,e⟩|⟨y,u,rfl,e⟩;.exact nomatch e
  .injection e with e1 _;subst e1;cases v<;>rfl
theorem vX(prog:Program)(w:World)(i:Int)(t:Tok):(bN prog w).is (.inl i) (.int i t)=true:=Bu i t
theorem vz(prog:Program)(w:World)(x:Str)(t:Tok):(bN prog w).is (.inr x) (.str x t)=true:=Cg x t
inductive V where|non|bl(b:Bool)|int(i:Int)|str(x:Str)|byt(b:Array UInt8)|flt(b:UInt64)|ref(a:Addr)|ty(n:String)deriving DecidableEq
def RelV:V->Value->Prop|.non,u=>u=Value.none|.bl b,u=>u=Value.bool b|.int i,u=>∃t,u=Value.int i t|.str x,u=>∃t,u=Value.str x t|.byt b,u=>∃t,u=Value.bytes b t|.flt b,u=>∃t,u=Value.float b t|.ref a,u=>u=Value.ref a|.ty n,u=>u=Value.type n
abbrev Vals:List V->List Value->Prop:=Paired RelV
theorem Vals.length{xs:List V}{us:List Value}(r:Vals xs us):xs.length=us.length:=Paired.length r
theorem Vals.get:∀{xs:List V}{us:List Value}{i:Nat}{x:V},Vals xs us->xs[i]?=some x->∃u,us[i]?=some u/\RelV x u|_,_,_,_,.nil,e=>by simp at e|_,_,0,_,.cons r _,e=>by simp at e;subst e;exact⟨_,rfl,r⟩|_,_,i+1,x,.cons _ t,e=>by obtain⟨u,h1,h2⟩:=Vals.get (i:=i) (x:=x) t (by simpa using e);exact⟨u,by simpa using h1,h2⟩
theorem Vals.set{x:V}{u:Value}(r:RelV x u):∀{xs:List V}{us:List Value}(i:Nat),Vals xs us->Vals (xs.set i x) (us.set i u)|_,_,_,.nil=>.nil|_,_,0,.cons _ t=>.cons r t|_,_,i+1,.cons q t=>.cons q (Vals.set r i t)
theorem Vals.append:∀{xs ys:List V}{us ws:List Value},Vals xs us->Vals ys ws->Vals (xs++ys) (us++ws)|_,_,_,_,.nil,s=>s|_,_,_,_,.cons r t,s=>.cons r (Vals.append t s)
theorem Vals.take:∀{xs:List V}{us:List Value}(n:Nat),Vals xs us->Vals (xs.take n) (us.take n)|_,_,0,_=>.nil|_,_,_+1,.nil=>.nil|_,_,n+1,.cons r t=>.cons r (Vals.take n t)
theorem Vals.drop:∀{xs:List V}{us:List Value}(n:Nat),Vals xs us->Vals (xs.drop n) (us.drop n)|_,_,0,r=>r|_,_,_+1,.nil=>.nil|_,_,n+1,.cons _ t=>Vals.drop n t
def qM:Option V->Option Value->Prop|some v,some u=>RelV v u|none,none=>True|_,_=>False
def KV{κ:Type}:List (κ×V)->List (κ×Value)->Prop:=Paired fun(p:κ×V)(q:κ×Value)=>p.1=q.1/\RelV p.2 q.2
noncomputable def kV:Key->V|.inl i=>.int i|.inr x=>.str x
inductive HO where/--a list -/|lst(xs:List V)/--a tuple (never changes) -/|tup(xs:List V)/--a dict whose keys are ints and texts;one whose keys are tuples of ints and texts (the empty one is both) -/|dK(kvs:List (Key×V))|dT(kvs:List (List Key×V))/--a set of ints: its members,its size -/|set(S:Int->Bool)(n:Nat)/--an instance of the class at C,its dict at dx,its attributes -/|ins(C dx:Addr)(fs:List (Str×V))/--the dict of the instance at x -/|own(x:Addr)/--the dict of an exception -/|xd(fs:List (Str×V))/--a bound method,f of x -/|met(f x:Addr)/--a range object lo,lo+1,.. below hi -/|oX(lo hi:Int)/--a thing that is known to the object (the script;a dict while a loop walks it): read,never written while it is so -/|cU(o:Obj)(u:HO)/--a code object's table -/|Rr(ps:Array Value)/--any other thing,by what is true of its one object (a def of one's own: SetO a S n:=HO.ext fun h=>..) -/|ext(φ:Heap->Prop)
noncomputable abbrev Hp:=Addr->Option HO
noncomputable def upd(H:Hp)(a:Addr)(o:HO):Hp:=fun b=>if b=a then some o else H b
theorem aY{H:Hp}{a:Addr}{o:HO}:upd H a o a=some o:=by unfold upd;rw[if_pos rfl]
theorem aD{H:Hp}{a b:Addr}{o:HO}(h:b≠a):upd H a o b=H b:=by unfold upd;rw[if_neg h]
theorem zX{H:Hp}{a:Addr}{o u:HO}:upd (upd H a o) a u=upd H a u:=by funext b;unfold upd;split<;>rfl
theorem Ue{H:Hp}{a b:Addr}{o u:HO}(h:H a=some o)(h':H b=some u)(d:o≠u):a≠b:=by intro e;subst e;rw[h]at h';exact d (Option.some.inj h')
theorem gb{H:Hp}{a b:Addr}{o:HO}(h:H a=some o)(h':H b=none):a≠b:=by intro e;subst e;rw[h]at h';cases h'
section
variable(P:Program)(w:World)
def bR(H:Hp)(h:Heap)(a:Addr):HO->Prop|.lst xs=>xs.length<=sizeLine/\∃(its:List Value)(n:Nat),Vals xs its/\h.get? a=some {cls:=.type "list",data:=.seq its.toArray n}|.tup xs=>xs.length<=sizeLine/\∃its:List Value,Vals xs its/\IsTup h a its.toArray|.dK kvs=>kvs.length<=sizeLine/\(a==sysModules)=false/\∃vs,KV kvs vs/\h.DictOf (bN P w) a vs|.dT kvs=>kvs.length<=sizeLine/\(a==sysModules)=false/\∃xs:List (List Key×Addr×Value),Paired (fun(p:List Key×V)(q:List Key×Addr×Value)=>p.1=q.1/\H q.2.1=some (.tup (p.1.map kV))/\RelV p.2 q.2.2) kvs xs/\∃o es ep,h.get? a=some o/\o.ExactDict/\o.data=.dict es ep/\es.toList=xs.map (entryOfKey (tupleKind (bN P w)))/\(xs.map (·.1)).Nodup|.set S n=>h.SetOf (intKind P w) a S n|.ins C dx fs=>H dx=some (.own a)/\fs.length<=1000/\dx≠a/\h.get? a=some (PySem.W.instObj C dx)/\∃mA,h.Ns1 dx mA/\(∀f,qM (fs.lookup f) (mA f))/\PySem.Within mA (fs.map (·.1))|.own _=>∃o,h.get? a=some o|.xd fs=>∃mA,h.Ns1 a mA/\∀f,qM (fs.lookup f) (mA f)|.oX lo hi=>∃t u v,h.get? a=some {cls:=.type "range",data:=.fields #[.int lo t,.int hi u,.int 1 v]}|.cU o u=>h.get? a=some o/\bR H h a u|.Rr ps=>h.get? a=some {cls:=.none,data:=.fields ps}|.met f x=>h.get? a=some (methodObj (.ref f) (.ref x))|.ext φ=>φ h/\(∃o,h.get? a=some o)/\∀h1 h2:Heap,φ h1->(∀o,h1.get? a=some o->h2.get? a=some o)->φ h2
def lZ(H:Hp)(h:Heap):Prop:=∀a o,H a=some o->bR P w H h a o
end
section
variable{P:Program}{w:World}{H H':Hp}{h h':Heap}{a:Addr}{o:HO}
theorem bR.lt(x:bR P w H h a o):a<h.objs.size:=by cases o with|lst xs=>obtain⟨_,_,_,_,e⟩:=x;exact lt_size e|tup xs=>obtain⟨_,_,_,p⟩:=x;exact p.lt|dK kvs=>obtain⟨_,_,_,_,o,_,_,e,_⟩:=x;exact lt_size e|dT kvs=>obtain⟨_,_,_,_,o,_,_,e,_⟩:=x;exact lt_size e|set S n=>obtain⟨o,_,_,_,e,_⟩:=x;exact lt_size e|ins C dx fs=>obtain⟨_,_,_,e,_⟩:=x;exact lt_size e|own y=>obtain⟨_,e⟩:=x;exact lt_size e|xd fs=>obtain⟨_,⟨_,_,_,e,_⟩,_⟩:=x;exact lt_size e|oX lo hi=>obtain⟨_,_,_,e⟩:=x;exact lt_size e|cU ob u=>obtain⟨e,_⟩:=x;exact lt_size e|Rr ps=>exact lt_size (show h.get? a=some _ from x)|met f y=>exact lt_size (show h.get? a=some _ from x)|ext φ=>obtain⟨_,⟨_,e⟩,_⟩:=x;exact lt_size e
theorem Paired.Pz{α β:Type}{F G:α->β->Prop}:∀{l₁:List α}{l₂:List β},Paired F l₁ l₂->(∀a b,F a b->G a b)->Paired G l₁ l₂|_,_,.nil,_=>.nil|_,_,.cons r t,f=>.cons (f _ _ r) (Paired.Pz t f)
theorem bR.stay(x:bR P w H h a o)(k:∀b u,(b=a\/H b=some (.own a))->h.get? b=some u->h'.get? b=some u)(ho:∀b,H b=some (.own a)->H' b=some (.own a))(ht:∀b xs,H b=some (.tup xs)->H' b=some (.tup xs)):bR P w H' h' a o:=by induction o with|lst xs=>obtain⟨z,its,n,r,e⟩:=x;exact⟨z,its,n,r,k _ _ (.inl rfl) e⟩|tup xs=>obtain⟨z,its,r,ob,e,c⟩:=x;exact⟨z,its,r,ob,k _ _ (.inl rfl) e,c⟩|dK kvs=>obtain⟨z,y,vs,r,ob,es,ep,e,c⟩:=x;exact⟨z,y,vs,r,ob,es,ep,k _ _ (.inl rfl) e,c⟩|dT kvs=>obtain⟨z,y,xs,r,ob,es,ep,e,c⟩:=x;exact⟨z,y,xs,Paired.Pz r fun p q z=>⟨z.1,ht _ _ z.2.1,z.2.2⟩,ob,es,ep,k _ _ (.inl rfl) e,c⟩|set S n=>obtain⟨ob,es,ep,t,e,c⟩:=x;exact⟨ob,es,ep,t,k _ _ (.inl rfl) e,c⟩|ins C dx fs=>obtain⟨d,z,ne,e,mA,⟨od,es,ep,e2,c⟩,r⟩:=x;exact⟨ho _ d,z,ne,k _ _ (.inl rfl) e,mA,⟨od,es,ep,k _ _ (.inr d) e2,c⟩,r⟩|own y=>obtain⟨ob,e⟩:=x;exact⟨ob,k _ _ (.inl rfl) e⟩|xd fs=>obtain⟨mA,⟨od,es,ep,e,c⟩,r⟩:=x;exact⟨mA,⟨od,es,ep,k _ _ (.inl rfl) e,c⟩,r⟩|oX lo hi=>obtain⟨t,u,v,e⟩:=x;exact⟨t,u,v,k _ _ (.inl rfl) e⟩|cU ob u ih=>obtain⟨e,q⟩:=x;exact⟨k _ _ (.inl rfl) e,ih q⟩|Rr ps=>have e:h.get? a=some {cls:=.none,data:=.fields ps}:=x;show h'.get? a=some {cls:=.none,data:=.fields ps};exact k a _ (.inl rfl) e|met f y=>have e:h.get? a=some (methodObj (.ref f) (.ref y)):=x;show h'.get? a=some (methodObj (.ref f) (.ref y));exact k a _ (.inl rfl) e|ext φ=>obtain⟨p,⟨o,e⟩,st⟩:=x;exact⟨st _ _ p fun o q=>k _ _ (.inl rfl) q,⟨o,k _ _ (.inl rfl) e⟩,st⟩
theorem lZ.lt(x:lZ P w H h)(e:H a=some o):a<h.objs.size:=(x a o e).lt
theorem lZ.fresh(x:lZ P w H h)(e:h.objs.size<=a):H a=none:=by cases q:H a with|none=>rfl|some u=>exact absurd (lt_of_lt_of_le (x.lt q) e) (lt_irrefl _)
theorem lZ.kept(x:lZ P w H h)(k:∀b u,h.get? b=some u->h'.get? b=some u):lZ P w H h':=fun a o e=>(x a o e).stay (fun b u _ q=>k b u q) (fun _ q=>q) fun _ _ q=>q
theorem lZ.laid(x:lZ P w H h)(k:∀b u,h.get? b=some u->h'.get? b=some u)(hp:h.objs.size<=a)(new:bR P w (upd H a o) h' a o):lZ P w (upd H a o) h':=fun b u e=>by
 have hn:=x.fresh hp;by_cases hb:b=a;.subst hb;rw[aY]at e;cases e;exact new
 .rw[aD hb]at e;exact(x b u e).stay (fun c v _ q=>k c v q) (fun c q=>by rw[aD (gb q hn)];exact q) fun c xs q=>by rw[aD (gb q hn)];exact q
end
def Rd(H:Hp)(a:Addr)(u:HO):Prop:=H a=some u\/∃o,H a=some (.cU o u)
theorem Rd.ok{P:Program}{w:World}{H:Hp}{h:Heap}{a:Addr}{u:HO}(r:Rd H a u)(x:lZ P w H h):bR P w H h a u:=by
 rcases r with r|⟨o,r⟩;.exact x a u r
 .obtain⟨_,q⟩:=x a _ r;exact q
def U8:Option HO->Prop|some (.lst _)=>True|some (.dK _)=>True|some (.dT _)=>True|some (.set _ _)=>True|some (.ins _ _ _)=>True|some (.ext _)=>True|_=>False
section
variable{P:Program}{w:World}{H:Hp}{h h':Heap}{x e:Addr}{o':HO}
theorem lZ.write(ok:lZ P w H h)(mu:U8 (H x))(he:e=x\/H e=some (.own x))(k:∀b u,b≠e->h.get? b=some u->h'.get? b=some u)(heo:∃u,h'.get? e=some u)(new:bR P w (upd H x o') h' x o'):lZ P w (upd H x o') h':=fun b u q=>by
 have WN:∀c y,H c=some (.own y)->c≠x:=fun c y r z=>by subst z;rw[r]at mu;exact mu
 have acr:∀c xs,H c=some (.tup xs)->c≠x:=fun c xs r z=>by subst z;rw[r]at mu;exact mu
 by_cases hb:b=x;.subst hb;rw[aY]at q;cases q;exact new
 . rw[aD hb]at q;by_cases hbe:b=e
   . have q':H b=some (.own x):=by
      rcases he with z|z;.exact absurd (hbe.trans z) hb
      .rw[hbe];exact z
     rw[q]at q';cases q';obtain⟨v,hv⟩:=heo;exact⟨v,by rw[hbe];exact hv⟩
   . refine(ok b u q).stay (fun c v hc r=>k c v ?_ r) (fun c r=>by rw[aD (WN c b r)];exact r) fun c xs r=>by rw[aD (acr c xs r)];exact r
     rcases hc with rfl|hc;.exact hbe
     . rintro rfl;rcases he with z|z;.exact WN c b hc z
       .rw[hc]at z;cases z;exact hb rfl
end
structure Un(fs ex:List Addr)(H H':Hp)(h h':Heap):Prop where
 keep:∀b o,h.get? b=some o->H b=none->b∉fs->b∉ex->h'.get? b=some o
 slot:∀b o,h.get? b=some o->H b=none->b∈fs->b∉ex->∃sl,h'.get? b=some {o with slots:=sl}free:∀b o,h.get? b=some o->H b=none->b∉ex->H' b=none
 there:∀b o,h.get? b=some o->b∉ex->∃o',h'.get? b=some o'
 tups:∀b xs,H b=some (.tup xs)->H' b=some (.tup xs)uN:∀b o u,H b=some (.cU o u)->H' b=some (.cU o u)wR:∀b ps,H b=some (.Rr ps)->∃more,H' b=some (.Rr (ps++more))
section
variable{fs fs' ex ex':List Addr}{H H1 H2:Hp}{h h1 h2 h':Heap}{a x e:Addr}{o:HO}
theorem Un.any(u:Un fs ex H H1 h h1){b:Addr}{ob:Obj}(q:h.get? b=some ob)(n:H b=none)(hx:b∉ex):∃sl,h1.get? b=some {ob with slots:=sl}:=by
 by_cases hb:b∈fs;.exact u.slot b ob q n hb hx
 .exact⟨ob.slots,u.keep b ob q n hb hx⟩
theorem Un.kept(k:∀b u,h.get? b=some u->h'.get? b=some u):Un fs ex H H h h':=⟨fun b ob q _ _ _=>k b ob q,fun b ob q _ _ _=>⟨ob.slots,k b ob q⟩,fun _ _ _ n _=>n,fun b ob q _=>⟨ob,k b ob q⟩,fun _ _ q=>q,fun _ _ _ q=>q,fun _ ps q=>⟨#[],by rw[q];simp⟩⟩
theorem Un.refl:Un fs ex H H h h:=Un.kept fun _ _ q=>q
theorem Un.laid(k:∀b u,h.get? b=some u->h'.get? b=some u)(hp:h.objs.size<=a)(hn:H a=none):Un fs ex H (upd H a o) h h' where
 keep:=fun b u q _ _ _=>k b u q;slot:=fun b u q _ _ _=>⟨u.slots,k b u q⟩;free:=fun b u q n _=>by rw[aD (ne_of_lt (lt_of_lt_of_le (lt_size q) hp))];exact n
 there:=fun b u q _=>⟨u,k b u q⟩;tups:=fun b xs q=>by rw[aD (gb q hn)];exact q
 uN:=fun b u xs q=>by rw[aD (gb q hn)];exact q
 wR:=fun b ps q=>⟨#[],by rw[aD (gb q hn),q];simp⟩
theorem Un.write(mu:U8 (H x))(he:e=x\/H e=some (.own x))(k:∀b u,b≠e->h.get? b=some u->h'.get? b=some u)(heo:∃u,h'.get? e=some u):Un fs ex H (upd H x o) h h':=by
 have hx:∀b,H b=none->b≠x:=fun b n z=>by subst z;rw[n]at mu;exact mu
 have hb:∀b,H b=none->b≠e:=fun b n z=>by
  subst z;rcases he with r|r;.exact hx b n r
  .rw[n]at r;cases r
 have hm:∀b u,H b=some u->¬ U8 (some u)->b≠x:=fun b u q nm z=>by subst z;rw[q]at mu;exact nm mu
 refine⟨fun b u q n _ _=>k b u (hb b n) q,fun b u q n _ _=>⟨u.slots,k b u (hb b n) q⟩,fun b u q n _=>by rw[aD (hx b n)];exact n,fun b u q _=>?_,fun b xs q=>by rw[aD (hm b _ q fun z=>z)];exact q,fun b u xs q=>by rw[aD (hm b _ q fun z=>z)];exact q,fun b ps q=>⟨#[],by rw[aD (hm b _ q fun z=>z),q];simp⟩⟩;by_cases hbe:b=e;.subst hbe;exact heo
 .exact⟨u,k b u hbe q⟩
end
noncomputable def Yv(h:Heap)(H:Hp):List Addr:=(List.range h.objs.size).filter fun a=>(H a).isSome
noncomputable def tL(h:Heap)(H:Hp):Heap:=PySem.W.hideAll h (Yv h H)
theorem Bh(h:Heap)(H:Hp):(tL h H).objs.size=h.objs.size:=PySem.W.hideAll_size _ _
theorem G9{h:Heap}{H:Hp}{b:Addr}{o:Obj}(e:h.get? b=some o)(n:H b=none):(tL h H).get? b=some o:=PySem.W.hideAll_get _ e fun hm=>by have q:(H b).isSome=true:=(mem_filter.mp hm).2;rw[n]at q;simp at q
theorem Km{h:Heap}{H:Hp}{b:Addr}{o:Obj}(e:(tL h H).get? b=some o):h.get? b=some o/\H b=none:=by have e':h.get? b=some o:=PySem.W.of_hideAll (Yv h H) e;refine⟨e',?_⟩;cases q:H b with|none=>rfl|some x=>have hm:b∈Yv h H:=mem_filter.mpr ⟨mem_range.mpr (lt_size e'),by simp[q]⟩;have z:(tL h H).get? b=none:=PySem.W.hideAll_none (Yv h H) hm;rw[z]at e;cases e
structure Mod(K:PySem.W.Frag)(mg:Str->Option Value)(base:Heap):Prop where
 uR:K.In base
 glob:base.Ns mainGlobals mg
 blt:∃mb,base.Ns builtinsNs mb/\∀x:Str,x≠"__name__"->mb x=bootBuiltins x
 nolimit:base.NoLimit
structure Cx where
 prog:Program
 w:World
 K:PySem.W.Frag
 mg:Str->Option Value
 base:Heap
 A:Around
 N:List Str
 s₀:Shared
 H₀:Hp
 env:Env
 outer:List Env
 stack:List Env
 ex:List Addr
 fn:Str->Bool
 calm:Bool
 pn:List (Addr×Obj)xe:Value->Shared->Prop
noncomputable def frs(l:List Env):List Addr:=l.filterMap (·.frame)
noncomputable abbrev Cx.fs(X:Cx):List Addr:=frs X.outer
def zW(sc:Scope)(x:Str):Prop:=sc.names.lookup x=some .local\/sc.names.lookup x=some .cell\/sc.names.lookup x=some .free
def Loc(sc:Scope)(x:Str):Prop:=sc.names.lookup x=some .local\/sc.names.lookup x=some .cell
def Look(env:Env)(h:Heap)(m:Str->Option Value)(x:Str)(u:Value):Prop:=(env.kindOf x=some .local/\m x=some u)\/((env.kindOf x=some .cell\/env.kindOf x=some .free)/\∃c,env.cells.lookup x=some c/\h.IsCell c (some u))
structure Cx.Ok(X:Cx):Prop where
 mod:Mod X.K X.mg X.base
 kind:X.env.scope.kind=.function
 glob:X.env.globals=mainGlobals
 blt:X.env.builtins=builtinsNs
 above:X.s₀.heap.objs.size<=X.env.locals
 inj:∀x y c,X.env.cells.lookup x=some c->X.env.cells.lookup y=some c->x=y
 has:∀x,(X.env.kindOf x=some .cell\/X.env.kindOf x=some .free)->∃c,X.env.cells.lookup x=some c
 cab:∀x c,X.fn x=true->X.env.cells.lookup x=some c->X.s₀.heap.objs.size<=c
 hd:X.calm=true->X.A.handled=none
 frames:X.A.frames=some X.stack
 Zd:X.stack=X.outer\/(X.stack=X.env::X.outer/\X.env.frame=some X.env.locals)exf:∀b∈X.ex,b≠X.env.locals/\∀x c,X.env.cells.lookup x=some c->c≠b
 bs:∀b o,X.base.get? b=some o->X.s₀.heap.get? b=some o/\X.H₀ b=none
 MN:X.base.objs.size<=X.s₀.heap.objs.size
 Hr:∀b o,X.base.get? b=some o->b∉X.ex
 KQ:∀b∈X.ex,b∉X.fs
 qg:X.s₀.heap.FunFrames X.base X.outer
 T3:∀b∈X.fs,X.H₀ b=none
structure Inv(X:Cx)(pins:List (Addr×Obj))(σ:List (Option V))(H:Hp)(s:Shared):Prop where
 ok:X.Ok
 os:s.os=X.s₀.os
 bare:AllBare s.gens
 base:Un X.fs X.ex X.H₀ H X.s₀.heap s.heap
 loc:∃m,s.heap.Ns X.env.locals m/\∀(i:Nat)(x:Str)(v:V),X.N[i]?=some x->σ[i]?=some (some v)->zW X.env.scope x->∃u,RelV v u/\Look X.env s.heap m x u
 cell:∀x c,X.env.cells.lookup x=some c->∃v,s.heap.IsCell c v
 free:H X.env.locals=none
 jA:∀x c,X.env.cells.lookup x=some c->H c=none
 pin:∀p∈X.pn++pins,s.heap.get? p.1=some p.2/\H p.1=none/\p.1≠X.env.locals/\p.1∉X.fs/\∀v,p.2.data≠.cell v
 hok:lZ X.prog X.w H s.heap
 len:σ.length=X.N.length
section
variable{X:Cx}{pins:List (Addr×Obj)}{σ:List (Option V)}{H H':Hp}{s:Shared}{h':Heap}
theorem Cx.Ok.aaz(ok:X.Ok){b:Addr}{o:Obj}(e:X.base.get? b=some o):b∉X.fs:=fun hb=>by have:=(ok.qg.mem hb).1;rw[e]at this;cases this
theorem Inv.bs(I:Inv X pins σ H s):∀b o,X.base.get? b=some o->s.heap.get? b=some o/\H b=none:=fun b o e=>⟨I.base.keep b o (I.ok.bs b o e).1 (I.ok.bs b o e).2 (I.ok.aaz e) (I.ok.Hr b o e),I.base.free b o (I.ok.bs b o e).1 (I.ok.bs b o e).2 (I.ok.Hr b o e)⟩
theorem Inv.bk(I:Inv X pins σ H s):∀b o,X.base.get? b=some o->s.heap.get? b=some o:=fun b o e=>(I.bs b o e).1
theorem Inv.mod(I:Inv X pins σ H s):Mod X.K X.mg X.base:=I.ok.mod
theorem Inv.Q7(I:Inv X pins σ H s):X.K.In s.heap:=I.ok.mod.uR.keeps I.bk
theorem Inv.lt(I:Inv X pins σ H s):X.env.locals<s.heap.objs.size:=let⟨_,hn,_⟩:=I.loc;hn.lt
theorem Inv.sz(I:Inv X pins σ H s):X.s₀.heap.objs.size<=s.heap.objs.size:=le_trans I.ok.above (le_of_lt I.lt)
theorem Inv.aaD(I:Inv X pins σ H s){a:Addr}(h:s.heap.objs.size<=a):a∉X.fs:=fun hb=>by obtain⟨_,o,ho,_⟩:=I.ok.qg.mem hb;exact absurd (lt_of_lt_of_le (lt_size ho) (le_trans I.sz h)) (lt_irrefl _)
theorem Inv.Rb(I:Inv X pins σ H s):∀x c,X.env.cells.lookup x=some c->c≠X.env.locals:=fun x c e z=>by obtain⟨v,o,ho,hd⟩:=I.cell x c e;obtain⟨m,⟨o',es,ep,ho',hd',_⟩,_⟩:=I.loc;rw[z,ho']at ho;cases ho;rw[hd']at hd;cases hd
theorem Inv.qg(I:Inv X pins σ H s):s.heap.FunFrames X.base X.outer:=by
 have all:∀(l:List Env),(∀b∈frs l,b∈X.fs)->X.s₀.heap.FunFrames X.base l->s.heap.FunFrames X.base l:=by intro l;induction l with|nil=>intro _ _;trivial|cons env r ih=>intro hs hl;obtain⟨hk,⟨L,o,hf,hn,ho,hd⟩,hr⟩:=hl;have hL:L∈X.fs:=hs L (by unfold frs;rw[filterMap_cons,hf];exact mem_cons_self);obtain⟨sl,e⟩:=I.base.slot L o ho (I.ok.T3 L hL) hL fun z=>I.ok.KQ L z hL;exact⟨hk,⟨L,_,hf,hn,e,hd⟩,ih (fun b hb=>hs b (by unfold frs;rw[filterMap_cons,hf];exact mem_cons_of_mem _ hb)) hr⟩
 exact all X.outer (fun _ hb=>hb) I.ok.qg
theorem Inv.stack(I:Inv X pins σ H s):s.heap.FunFrames X.base X.stack:=by
 rcases I.ok.Zd with e|⟨e,hf⟩;.rw[e];exact I.qg
 .rw[e];obtain⟨m,hn,_⟩:=I.loc;refine .cons (by rw[I.ok.kind];decide) hf hn ?_ I.qg;exact Heap.get?_none_of_le (le_trans I.ok.MN I.ok.above)
theorem Inv.tK(I:Inv X pins σ H s):∀b∈frs X.stack,b∈X.env.locals::X.fs:=fun b hb=>by
 rcases I.ok.Zd with e|⟨e,hf⟩;.rw[e]at hb;exact mem_cons_of_mem _ hb
 .rw[e]at hb;unfold frs at hb;rw[filterMap_cons,hf]at hb;exact hb
theorem Inv.zP(I:Inv X pins σ H s):∀b∈frs X.stack,H b=none:=fun b hb=>by
 rcases mem_cons.mp (I.tK b hb)with e|hb;.rw[e];exact I.free
 .obtain⟨_,o,ho,_⟩:=I.ok.qg.mem hb;exact I.base.free b o ho (I.ok.T3 b hb) fun z=>I.ok.KQ b z hb
theorem Inv.step{g':Array GenState}{t':Nat}{d':Drawn}{ch:List Addr}(I:Inv X pins σ H s)(hch:∀b∈ch,(b∈X.ex\/X.s₀.heap.objs.size<=b)/\b≠X.env.locals/\(∀x c,X.env.cells.lookup x=some c->c≠b)/\∀p∈X.pn++pins,p.1≠b)(keep:∀b o,b≠X.env.locals->b∉X.fs->b∉ch->s.heap.get? b=some o->H b=none->h'.get? b=some o)(slot:∀b o,b≠X.env.locals->b∈X.fs->b∉ch->s.heap.get? b=some o->H b=none->∃sl,h'.get? b=some {o with slots:=sl})(free:∀b o,b∉ch->s.heap.get? b=some o->H b=none->H' b=none)(there:∀b o,b∉ch->s.heap.get? b=some o->∃o',h'.get? b=some o')(tups:∀b xs,H b=some (.tup xs)->H' b=some (.tup xs))(uN:∀b o u,H b=some (.cU o u)->H' b=some (.cU o u))(wR:∀b ps,H b=some (.Rr ps)->∃more,H' b=some (.Rr (ps++more)))(ns:∀m,s.heap.Ns X.env.locals m->h'.Ns X.env.locals m)(hok:lZ X.prog X.w H' h')(hg:AllBare g'):Inv X pins σ H' {s with heap:=h',gens:=g',drawn:=d',toks:=t'}:=by
 have neL:∀b o,X.s₀.heap.get? b=some o->b≠X.env.locals:=fun b o e=>ne_of_lt (lt_of_lt_of_le (lt_size e) I.ok.above);have Ze:∀b o,X.s₀.heap.get? b=some o->b∉X.ex->b∉ch:=fun b o e hx hb=>by
  rcases(hch b hb).1 with z|z;.exact hx z
  .exact absurd (lt_of_lt_of_le (lt_size e) z) (lt_irrefl _)
 have cellK:∀x c,X.env.cells.lookup x=some c->∀v,s.heap.IsCell c v->h'.IsCell c v:=fun x c e v⟨o,ho,hd⟩=>by
  have Hs:c∉ch:=fun z=>(hch c z).2.2.1 x c e rfl;by_cases hc:c∈X.fs;.obtain⟨sl,q⟩:=slot c o (I.Rb x c e) hc Hs ho (I.jA x c e);exact⟨_,q,hd⟩
  .exact⟨o,keep c o (I.Rb x c e) hc Hs ho (I.jA x c e),hd⟩
 refine⟨I.ok,I.os,hg,⟨fun b o e n hb hx=>?_,fun b o e n hb hx=>?_,fun b o e n hx=>?_,fun b o e hx=>?_,fun b xs e=>tups b xs (I.base.tups b xs e),fun b o xs e=>uN b o xs (I.base.uN b o xs e),fun b ps e=>?_⟩,?_,fun x c e=>?_,?_,fun x c e=>?_,fun p hp=>?_,hok,I.len⟩;.exact keep b o (neL b o e) hb (Ze b o e hx) (I.base.keep b o e n hb hx) (I.base.free b o e n hx)
 .obtain⟨sl,e1⟩:=I.base.slot b o e n hb hx;obtain⟨sl',e2⟩:=slot b _ (neL b o e) hb (Ze b o e hx) e1 (I.base.free b o e n hx);exact⟨sl',e2⟩
 .obtain⟨o',e1⟩:=I.base.there b o e hx;exact free b o' (Ze b o e hx) e1 (I.base.free b o e n hx)
 .obtain⟨o',e1⟩:=I.base.there b o e hx;exact there b o' (Ze b o e hx) e1
 .obtain⟨m1,e1⟩:=I.base.wR b ps e;obtain⟨m2,e2⟩:=wR b _ e1;exact⟨m1++m2,by rw[e2,Array.append_assoc]⟩
 . obtain⟨m,hn,hl⟩:=I.loc;refine⟨m,ns m hn,fun i x v e1 e2 e3=>?_⟩;obtain⟨u,r,l⟩:=hl i x v e1 e2 e3;refine⟨u,r,?_⟩;rcases l with l|⟨k,c,e,z⟩;.exact .inl l
   .exact .inr ⟨k,c,e,cellK x c e _ z⟩
 .obtain⟨v,z⟩:=I.cell x c e;exact⟨v,cellK x c e v z⟩
 .obtain⟨m,⟨o,_,_,ho,_⟩,_⟩:=I.loc;exact free _ o (fun z=>(hch _ z).2.1 rfl) ho I.free
 .obtain⟨v,o,ho,hd⟩:=I.cell x c e;exact free c o (fun z=>(hch c z).2.2.1 x c e rfl) ho (I.jA x c e)
 .obtain⟨e,n,ne,nf,d⟩:=I.pin p hp;have Hs:p.1∉ch:=fun z=>(hch p.1 z).2.2.2 p hp rfl;exact⟨keep p.1 p.2 ne nf Hs e n,free p.1 p.2 Hs e n,ne,nf,d⟩
theorem Inv.un{t':Nat}(I:Inv X pins σ H s)(u:Un X.fs [] H H' s.heap h')(hok:lZ X.prog X.w H' h'):Inv X pins σ H' {s with heap:=h',toks:=t'}:=by obtain⟨m,⟨o,es,ep,ho,r⟩,_⟩:=id I.loc;obtain⟨sl,hL⟩:=u.any ho I.free (by simp);exact I.step (g':=s.gens) (d':=s.drawn) (ch:=[]) (fun _ z=>nomatch z) (fun b o _ hb _ e n=>u.keep b o e n hb (by simp)) (fun b o _ hb _ e n=>u.slot b o e n hb (by simp)) (fun b o _ e n=>u.free b o e n (by simp)) (fun b o _ e=>u.there b o e (by simp)) u.tups u.uN u.wR (fun m' hm=>by obtain⟨o',es',ep',ho',r'⟩:=hm;rw[ho]at ho';cases ho';exact⟨_,es',ep',hL,r'⟩) hok I.bare
theorem Inv.call{g':Array GenState}{t':Nat}{d':Drawn}{ch:List Addr}(I:Inv X pins σ H s)(u:Un (frs X.stack) ch H H' s.heap h')(hok:lZ X.prog X.w H' h')(hg:AllBare g')(hch:∀b∈ch,(b∈X.ex\/X.s₀.heap.objs.size<=b)/\b≠X.env.locals/\(∀x c,X.env.cells.lookup x=some c->c≠b)/\∀p∈X.pn++pins,p.1≠b):Inv X pins σ H' {s with heap:=h',gens:=g',drawn:=d',toks:=t'}:=by obtain⟨m,⟨o,es,ep,ho,r⟩,_⟩:=id I.loc;obtain⟨sl,hL⟩:=u.any ho I.free fun z=>(hch _ z).2.1 rfl;exact I.step (ch:=ch) hch (fun b o hL hb hc e n=>u.keep b o e n (fun z=>(mem_cons.mp (I.tK b z)).elim hL hb) hc) (fun b o _ _ hc e n=>u.any e n hc) (fun b o hc e n=>u.free b o e n hc) (fun b o hc e=>u.there b o e hc) u.tups u.uN u.wR (fun m' hm=>by obtain⟨o',es',ep',ho',r'⟩:=hm;rw[ho]at ho';cases ho';exact⟨_,es',ep',hL,r'⟩) hok hg
theorem Inv.turned{t':Nat}{it:Addr}(I:Inv X pins σ H s)(k:∀b o,b≠it->s.heap.get? b=some o->h'.get? b=some o)(hn:H it=none)(hL:it≠X.env.locals)(h1:it∈X.ex\/X.s₀.heap.objs.size<=it)(h2:∀x c,X.env.cells.lookup x=some c->c≠it)(h3:∀p∈X.pn++pins,p.1≠it):Inv X pins σ H {s with heap:=h',toks:=t'}:=by
 have nit:∀b u,H b=some u->b≠it:=fun b u e z=>by rw[z,hn]at e;cases e
 refine I.step (g':=s.gens) (d':=s.drawn) (ch:=[it]) (fun b hb=>?_) (fun b o _ _ hc e _=>k b o (fun z=>hc (by simp[z])) e) (fun b o _ _ hc e _=>⟨o.slots,k b o (fun z=>hc (by simp[z])) e⟩) (fun _ _ _ _ n=>n) (fun b o hc e=>⟨o,k b o (fun z=>hc (by simp[z])) e⟩) (fun _ _ e=>e) (fun _ _ _ e=>e) (fun b ps e=>⟨#[],by rw[e];simp⟩) (fun m hm=>?_) (fun b u e=>?_) I.bare
 . have e:b=it:=by simpa using hb
   subst e;exact⟨h1,hL,h2,h3⟩
 .obtain⟨o,es,ep,ho,r⟩:=hm;exact⟨o,es,ep,k _ o (Ne.symm hL) ho,r⟩
 . refine(I.hok b u e).stay (fun c v hc q=>k c v ?_ q) (fun _ q=>q) fun _ _ q=>q;rcases hc with z|z;.rw[z];exact nit b u e
   .exact nit c _ z
theorem Inv.tok(I:Inv X pins σ H s)(t:Nat):Inv X pins σ H {s with toks:=t}:=I.un (h':=s.heap) (t':=t) Un.refl I.hok
theorem Inv.kept{t':Nat}(I:Inv X pins σ H s)(k:∀b u,s.heap.get? b=some u->h'.get? b=some u):Inv X pins σ H {s with heap:=h',toks:=t'}:=I.un (Un.kept k) (I.hok.kept k)
theorem Inv.laid{a:Addr}{o:HO}{t':Nat}(I:Inv X pins σ H s)(k:∀b u,s.heap.get? b=some u->h'.get? b=some u)(hp:s.heap.objs.size<=a)(new:bR X.prog X.w (upd H a o) h' a o):Inv X pins σ (upd H a o) {s with heap:=h',toks:=t'}:=I.un (Un.laid k hp (I.hok.fresh hp)) (I.hok.laid k hp new)
theorem Inv.write{x e:Addr}{o:HO}{t':Nat}(I:Inv X pins σ H s)(mu:U8 (H x))(he:e=x\/H e=some (.own x))(k:∀b u,b≠e->s.heap.get? b=some u->h'.get? b=some u)(heo:∃u,h'.get? e=some u)(new:bR X.prog X.w (upd H x o) h' x o):Inv X pins σ (upd H x o) {s with heap:=h',toks:=t'}:=I.un (Un.write mu he k heo) (I.hok.write mu he k heo new)
theorem Inv.An{MP:List (Addr×Obj)}(I:Inv X pins σ H s)(h:∀p∈MP,s.heap.get? p.1=some p.2/\H p.1=none/\p.1≠X.env.locals/\p.1∉X.fs/\∀v,p.2.data≠.cell v):Inv X MP σ H s:=⟨I.ok,I.os,I.bare,I.base,I.loc,I.cell,I.free,I.jA,fun p hp=>(mem_append.mp hp).elim (fun z=>I.pin p (mem_append_left _ z)) (h p),I.hok,I.len⟩
theorem u9{N:List Str}(hN:N.Nodup){i j:Nat}{x:Str}(a:N[i]?=some x)(b:N[j]?=some x):i=j:=by obtain⟨h1,e1⟩:=List.getElem?_eq_some_iff.mp a;obtain⟨h2,e2⟩:=List.getElem?_eq_some_iff.mp b;exact(List.getElem_inj hN).mp (e1.trans e2.symm)
theorem rA{M:Model}{A:Around}{E:Value->Shared->Prop}{i:Nat}{x:Str}{v:V}{u:Value}{Q:Unit->Shared->Prop}(I:Inv X pins σ H s)(hN:X.N.Nodup)(hi:X.N[i]?=some x)(hx:Loc X.env.scope x)(r:RelV v u)(h:∀s',Inv X pins (σ.set i (some v)) H s'->(∃a,SameBut a s.heap s'.heap/\(a=X.env.locals\/X.env.cells.lookup x=some a))->Q () s')(hf:X.fn x=true\/X.env.scope.names.lookup x=some .local:=by first|exact .inl rfl|exact .inr rfl|assumption):wpAny M A (storeName X.env x u) Q E s:=by
 obtain⟨m,hn,hl⟩:=id I.loc;have hcls:(X.env.scope.kind==.class||(X.env.scope.kind==.module&&X.env.locals !=X.env.globals))=false:=by rw[I.ok.kind];rfl
 have hiσ:i<σ.length:=by rw[I.len];exact(List.getElem?_eq_some_iff.mp hi).1
 have Rb:=I.Rb;have tracked:∀{a:Addr}{h':Heap},(∃o,s.heap.get? a=some o/\H a=none)->SameBut a s.heap h'->lZ X.prog X.w H h':=fun{a h'}ha hs b ob e=>by
  obtain⟨_,_,hfree⟩:=ha;refine(I.hok b ob e).stay (fun c w' hc q=>(hs.2 c ?_).trans q) (fun _ q=>q) fun _ _ q=>q;rintro rfl;rcases hc with rfl|hc;.rw[hfree]at e;cases e
  .rw[hfree]at hc;cases hc
 rcases hx with hk|hk
 . refine wpAny_storeName_local hk hn (fun h' hn' hs=>?_) hcls;obtain⟨oL,_,_,hoL,_⟩:=id hn;refine h _ ⟨I.ok,I.os,I.bare,⟨fun b o e n hb hx=>?_,fun b o e n hb hx=>?_,I.base.free,fun b o e hx=>?_,I.base.tups,I.base.uN,I.base.wR⟩,⟨_,hn',fun j y v' e1 e2 e3=>?_⟩,fun y c e=>?_,I.free,I.jA,fun p hp=>?_,tracked ⟨oL,hoL,I.free⟩ hs,by simpa using I.len⟩ ⟨_,hs,.inl rfl⟩;.exact(hs.2 b (ne_of_lt (lt_of_lt_of_le (lt_size e) I.ok.above))).trans (I.base.keep b o e n hb hx)
   .obtain⟨sl,e1⟩:=I.base.slot b o e n hb hx;exact⟨sl,(hs.2 b (ne_of_lt (lt_of_lt_of_le (lt_size e) I.ok.above))).trans e1⟩
   .obtain⟨o',e1⟩:=I.base.there b o e hx;exact⟨o',(hs.2 b (ne_of_lt (lt_of_lt_of_le (lt_size e) I.ok.above))).trans e1⟩
   . by_cases hj:j=i;.subst hj;rw[hi]at e1;cases e1;rw[getElem?_set_self hiσ]at e2;cases e2;exact⟨u,r,.inl ⟨hk,by simp⟩⟩
     . rw[getElem?_set_ne (Ne.symm hj)]at e2;obtain⟨u',r',q⟩:=hl j y v' e1 e2 e3;refine⟨u',r',?_⟩;rcases q with⟨k,e⟩|⟨k,c,e,z⟩;.refine .inl ⟨k,?_⟩;have:y≠x:=fun e=>hj (u9 hN e1 (e▸hi));simp[this,e]
       .exact .inr ⟨k,c,e,z.sameBut hs (Rb y c e)⟩
   .obtain⟨w',z⟩:=I.cell y c e;exact⟨w',z.sameBut hs (Rb y c e)⟩
   .obtain⟨e,n,ne,nf,d⟩:=I.pin p hp;exact⟨(hs.2 p.1 ne).trans e,n,ne,nf,d⟩
 . have hfn:X.fn x=true:=by
    rcases hf with z|z;.exact z
    .rw[z]at hk;cases hk
   obtain⟨c,hc⟩:=I.ok.has x (.inl hk);obtain⟨w',z⟩:=I.cell x c hc;refine wpAny_storeName_cell I.ok.kind hk hc z (fun h' hc' hs=>?_);obtain⟨oc,hoc,acs⟩:=id z;refine h {s with heap:=h'} ⟨I.ok,I.os,I.bare,⟨fun b o e n hb hx=>?_,fun b o e n hb hx=>?_,I.base.free,fun b o e hx=>?_,I.base.tups,I.base.uN,I.base.wR⟩,⟨m,hn.sameBut hs (Ne.symm (Rb x c hc)),fun j y v' e1 e2 e3=>?_⟩,fun y c' e=>?_,I.free,I.jA,fun p hp=>?_,tracked ⟨oc,hoc,I.jA x c hc⟩ hs,by simpa using I.len⟩ ⟨c,hs,.inr hc⟩;.exact(hs.2 b (ne_of_lt (lt_of_lt_of_le (lt_size e) (I.ok.cab x c hfn hc)))).trans (I.base.keep b o e n hb hx)
   .obtain⟨sl,e1⟩:=I.base.slot b o e n hb hx;exact⟨sl,(hs.2 b (ne_of_lt (lt_of_lt_of_le (lt_size e) (I.ok.cab x c hfn hc)))).trans e1⟩
   .obtain⟨o',e1⟩:=I.base.there b o e hx;exact⟨o',(hs.2 b (ne_of_lt (lt_of_lt_of_le (lt_size e) (I.ok.cab x c hfn hc)))).trans e1⟩
   . by_cases hj:j=i;.subst hj;rw[hi]at e1;cases e1;rw[getElem?_set_self hiσ]at e2;cases e2;exact⟨u,r,.inr ⟨.inl hk,c,hc,hc'⟩⟩
     . rw[getElem?_set_ne (Ne.symm hj)]at e2;obtain⟨u',r',q⟩:=hl j y v' e1 e2 e3;refine⟨u',r',?_⟩;rcases q with q|⟨k,c',e,z'⟩;.exact .inl q
       .refine .inr ⟨k,c',e,z'.sameBut hs ?_⟩;rintro rfl;exact hj (u9 hN e1 (I.ok.inj _ _ _ e hc▸hi))
   . by_cases hcc:c'=c;.subst hcc;exact⟨_,hc'⟩
     .obtain⟨w2,z2⟩:=I.cell y c' e;exact⟨w2,z2.sameBut hs hcc⟩
   .obtain⟨e,n,ne,nf,d⟩:=I.pin p hp;refine⟨(hs.2 p.1 ?_).trans e,n,ne,nf,d⟩;intro q;rw[q,hoc]at e;have q':oc=p.2:=Option.some.inj e;exact d w' (by rw[<-q'];exact acs)
theorem lK{M:Model}{A:Around}{E:Value->Shared->Prop}{i:Nat}{x:Str}{v:V}{u:Value}{Q:Unit->Shared->Prop}(I:Inv X pins σ H s)(hN:X.N.Nodup)(hi:X.N[i]?=some x)(hx:Loc X.env.scope x)(r:RelV v u)(h:∀s',Inv X pins (σ.set i (some v)) H s'->Q () s')(hf:X.fn x=true\/X.env.scope.names.lookup x=some .local:=by first|exact .inl rfl|exact .inr rfl|assumption):wpAny M A (storeName X.env x u) Q E s:=rA I hN hi hx r (fun s' I' _=>h s' I') hf
end
abbrev XK:=Value->Option Addr->Hp->Prop
noncomputable abbrev St:=List (Option V)
abbrev VK:=V->Hp->Prop
abbrev TE:=St->Hp->VK->Prop
abbrev TT:=St->Hp->(Bool->Hp->Prop)->Prop
abbrev TA:=St->Hp->(List V->Hp->Prop)->Prop
structure Ends where
 nx:St->Hp->Prop
 rt:VK
 bk:St->Hp->Prop:=fun _ _=>False
 ct:St->Hp->Prop:=fun _ _=>False
abbrev TS:=Ends->St->Hp->Prop
inductive EP(X:Cx)(pins:List (Addr×Obj))(σ:St)(Q:VK)(u:Value)(s':Shared):Prop where|mk(v:V)(H':Hp)(q0:Inv X pins σ H' s')(q1:RelV v u)(q2:Q v H')
def TP(X:Cx)(pins:List (Addr×Obj))(σ:St)(Q:Bool->Hp->Prop)(b:Bool)(s':Shared):Prop:=∃H',Inv X pins σ H' s'/\Q b H'
inductive AP(X:Cx)(pins:List (Addr×Obj))(σ:St)(Q:List V->Hp->Prop)(us:List Value)(s':Shared):Prop where|mk(vs:List V)(H':Hp)(q0:Inv X pins σ H' s')(q1:Vals vs us)(q2:Q vs H')
def SP(X:Cx)(pins:List (Addr×Obj))(D:Ends)(f:Flow)(s':Shared):Prop:=match f with|.next=>∃σ' H',Inv X pins σ' H' s'/\D.nx σ' H'|.brk=>∃σ' H',Inv X pins σ' H' s'/\D.bk σ' H'|.cont=>∃σ' H',Inv X pins σ' H' s'/\D.ct σ' H'|.ret u=>∃v σ' H',Inv X pins σ' H' s'/\RelV v u/\D.rt v H'
def PE(X:Cx)(e:Expr)(t:TE):Prop:=∀(pins:List (Addr×Obj))(s:Shared)(σ:St)(H:Hp)(Q:VK),Inv X pins σ H s->t σ H Q->wpAny (model X.prog X.w) X.A (eval e X.env) (EP X pins σ Q) X.xe s
def PT(X:Cx)(e:Expr)(t:TT):Prop:=∀(pins:List (Addr×Obj))(s:Shared)(σ:St)(H:Hp)(Q:Bool->Hp->Prop),Inv X pins σ H s->t σ H Q->wpAny (model X.prog X.w) X.A (isTrue e X.env (eval e X.env)) (TP X pins σ Q) X.xe s
def PW(X:Cx)(e:Expr)(t:TT):Prop:=∀(whole:Sem Value)(pins:List (Addr×Obj))(s:Shared)(σ:St)(H:Hp)(Q:Bool->Hp->Prop),Inv X pins σ H s->t σ H Q->wpAny (model X.prog X.w) X.A (isTrue e X.env whole) (TP X pins σ Q) X.xe s
theorem PW.pt{X:Cx}{e:Expr}{t:TT}(h:PW X e t):PT X e t:=h _
def PA(X:Cx)(es:List Expr)(t:TA):Prop:=∀(pos:Pos)(pins:List (Addr×Obj))(s:Shared)(σ:St)(H:Hp)(Q:List V->Hp->Prop),Inv X pins σ H s->t σ H Q->wpAny (model X.prog X.w) X.A (spliced (backTo pos (starEach es X.env))) (AP X pins σ Q) X.xe s
def PS(X:Cx)(st:Stmt)(t:TS):Prop:=∀(pins:List (Addr×Obj))(s:Shared)(σ:St)(H:Hp)(D:Ends),Inv X pins σ H s->t D σ H->wpAny (model X.prog X.w) X.A (exec st X.env) (SP X pins D) X.xe s
def v5(X:Cx)(st:List Stmt)(t:TS):Prop:=∀(pins:List (Addr×Obj))(s:Shared)(σ:St)(H:Hp)(D:Ends),Inv X pins σ H s->t D σ H->wpAny (model X.prog X.w) X.A (execs st X.env) (SP X pins D) X.xe s
theorem cu{α:Type}{t:Sem α}{Q Q':α->Shared->Prop}{M:Model}{A:Around}{E:Value->Shared->Prop}{s:Shared}(h:wpAny M A t Q E s)(hQ:∀a s,Q a s->Q' a s):wpAny M A t Q' E s:=wpAny_mono h hQ fun _ _ x=>x
section
variable{X:Cx}
def O6(i:Nat):TE:=fun σ H Q=>∃v,σ[i]?=some (some v)/\Q v H
def tC(v:V):TE:=fun _ H Q=>Q v H
theorem gO{i:Nat}{x:Str}{pos:Pos}(hN:X.N[i]?=some x)(hv:zW X.env.scope x)(hd:(x==("__debug__":Str))=false:=by decide)(hcd:(x==("__classdict__":Str))=false:=by decide):PE X (.Name x pos) (O6 i):=by
 intro pins s σ H Q I h;obtain⟨v,e,h⟩:=h;obtain⟨m,hn,hl⟩:=I.loc;obtain⟨u,r,l⟩:=hl i x v hN e hv;have fin:EP X pins σ Q u s:=⟨v,H,I,r,h⟩;rcases l with⟨hk,hm⟩|⟨hk,c,hc,hcell⟩;.exact wpAny_Name (wpAny_loadName_local I.ok.kind hk hn hm fin) hd
 . rcases hk with hk|hk;.exact wpAny_Name (wpAny_loadName_cell I.ok.kind hk hc hcell fin) hd
   .exact wpAny_Name (wpAny_loadName_free I.ok.kind hk hc hcell fin hcd) hd
theorem tY{i j pos}:PE X (.Constant (.int i) j pos) (tC (.int i)):=fun _ _ _ H _ I h=>wpAny_Constant_int ⟨.int i,H,I.tok _,⟨_,rfl⟩,h⟩
theorem WD{b j pos}:PE X (.Constant (.bool b) j pos) (tC (.bl b)):=fun _ _ _ H _ I h=>Constant_bool ⟨.bl b,H,I,rfl,h⟩
theorem Pj{j pos}:PE X (.Constant .none j pos) (tC .non):=fun _ _ _ H _ I h=>Constant_none ⟨.non,H,I,rfl,h⟩
def Gl(X:Cx)(x:Str):Prop:=X.env.kindOf x=some .globalImplicit
theorem Im{E:Value->Shared->Prop}{pins:List (Addr×Obj)}{s:Shared}{σ:St}{H:Hp}{x:Str}{u:Value}{pos:Pos}{Q:Value->Shared->Prop}(I:Inv X pins σ H s)(hg:Gl X x)(hm:X.mg x=some u)(h:Q u s)(hd:(x==("__debug__":Str))=false:=by decide):wpAny (model X.prog X.w) X.A (eval (.Name x pos) X.env) Q E s:=Calls.Name_function_global I.ok.kind hg (Calls.loadGlobal_global (by rw[I.ok.glob];exact I.mod.glob.keeps I.bk) hm h) hd
theorem iK{E:Value->Shared->Prop}{pins:List (Addr×Obj)}{s:Shared}{σ:St}{H:Hp}{x:Str}{u:Value}{pos:Pos}{Q:Value->Shared->Prop}(I:Inv X pins σ H s)(hg:Gl X x)(hm:X.mg x=none)(hv:bootBuiltins x=some u)(h:Q u s)(hn:x≠"__name__":=by decide)(hd:(x==("__debug__":Str))=false:=by decide):wpAny (model X.prog X.w) X.A (eval (.Name x pos) X.env) Q E s:=by obtain⟨mb,h1,h2⟩:=I.mod.blt;exact Calls.Name_function_global I.ok.kind hg (Calls.loadGlobal_builtin (by rw[I.ok.glob];exact I.mod.glob.keeps I.bk) hm (by rw[I.ok.blt];exact h1.keeps I.bk) ((h2 x hn).trans hv) h) hd
theorem J2{x:Str}{v:V}{u:Value}{pos:Pos}(hg:Gl X x)(hm:X.mg x=none)(hv:bootBuiltins x=some u)(r:RelV v u)(hn:x≠"__name__":=by decide)(hd:(x==("__debug__":Str))=false:=by decide):PE X (.Name x pos) (tC v):=fun _ _ _ H _ I h=>iK I hg hm hv ⟨v,H,I,r,h⟩ hn hd
variable{a b:Expr}{ta tb:TE}{pos:Pos}
def PC(X:Cx)(op:CmpOp)(a b:Expr)(t:TE):Prop:=∀(pins:List (Addr × Obj))(s:Shared)(σ:St)(H:Hp)(Q:VK),Inv X pins σ H s->t σ H Q->wpAny (model X.prog X.w) X.A (eval a X.env) (fun v s₁=>wpAny (model X.prog X.w) X.A (eval b X.env) (fun u s₂=>wpAny (model X.prog X.w) X.A (compareOp op v u) (EP X pins σ Q) X.xe s₂) X.xe s₁) X.xe s
def tB(t:TE):TT:=fun σ H Q=>t σ H fun x H1=>∃c,x=.bl c/\Q c H1
theorem PB{op:CmpOp}{t:TE}(h:PC X op a b t)(h1:behindInMarks op b=false:=by first|exact WQ _ (by decide) (by decide)|rfl):PT X (.Compare a [op] [b] pos) (tB t):=by intro pins s σ H Q I hw;refine wpAny_isTrue_Compare1 (cu (h pins s σ H _ I hw) fun v s1 h1=>cu h1 fun u s2 h2=>cu h2 fun c s3⟨x,H1,I1,r1,q1⟩=>?_) h1;obtain⟨d,rfl,q⟩:=q1;cases r1;exact wpAny_truthy_bool ⟨H1,I1,q⟩
theorem QK{e:Expr}{t:TE}(h:PE X e t)(he:∀whole,isTrue e X.env whole=(do let v<-whole;standAt e.pos;holding [v] (truthy v)):=by intro _;rfl):PT X e (tB t):=by intro pins s σ H Q I hw;refine isTrue_plain (cu (h pins s σ H _ I hw) fun v s1⟨x,H1,I1,r1,q1⟩=>?_) (he _);obtain⟨d,rfl,q⟩:=q1;cases r1;exact wpAny_truthy_bool ⟨H1,I1,q⟩
variable{tA Zf:TT}{rest:List Expr}
def abu(t u:TT):TT:=fun σ H Q=>t σ H fun c H1=>if c=true then u σ H1 Q else Q false H1
def tOr(t u:TT):TT:=fun σ H Q=>t σ H fun c H1=>if c=true then Q true H1 else u σ H1 Q
def ab5(t:TT):TT:=fun σ H Q=>t σ H fun c H1=>Q (!c) H1
theorem Kq(ha:PT X a tA):PW X (.BoolOp .And [a] pos) tA:=by intro wh pins s σ H Q I h;refine isTrue_and (cu (ha pins s σ H Q I h) fun c s1 e=>?_);cases c with|true=>exact isTrue_and_nil e|false=>exact e
theorem Oh(ha:PT X a tA):PW X (.BoolOp .Or [a] pos) tA:=by intro wh pins s σ H Q I h;refine isTrue_or (cu (ha pins s σ H Q I h) fun c s1 e=>?_);cases c with|false=>exact isTrue_or_nil e|true=>exact e
theorem QG(ha:PT X a tA)(hb:PW X (.BoolOp .And (b::rest) pos) Zf):PW X (.BoolOp .And (a::b::rest) pos) (abu tA Zf):=by intro wh pins s σ H Q I h;refine isTrue_and (cu (ha pins s σ H _ I h) fun c s1⟨H1,I1,q1⟩=>?_);cases c with|true=>exact hb wh pins s1 σ H1 Q I1 q1|false=>exact⟨H1,I1,q1⟩
theorem Vc(ha:PT X a tA)(hb:PW X (.BoolOp .Or (b::rest) pos) Zf):PW X (.BoolOp .Or (a::b::rest) pos) (tOr tA Zf):=by intro wh pins s σ H Q I h;refine isTrue_or (cu (ha pins s σ H _ I h) fun c s1⟨H1,I1,q1⟩=>?_);cases c with|true=>exact⟨H1,I1,q1⟩|false=>exact hb wh pins s1 σ H1 Q I1 q1
theorem Qd(ha:PT X a tA):PT X (.UnaryOp .Not a pos) (ab5 tA):=by intro pins s σ H Q I h;exact isTrue_not (ha pins s σ H (fun c H1=>Q (!c) H1) I h)
def Uo(ta tb:TE):TE:=fun σ H Q=>ta σ H fun x H1=>∃c,x=.bl c/\if c=true then tb σ H1 Q else Q (.bl false) H1
theorem Qv{op}{t:TE}(h:PE X a t):PE X (.BoolOp op [a] pos) t:=fun pins s σ H Q I hw=>BoolOp_one (h pins s σ H Q I hw)
theorem QQ(ha:PE X a ta)(hb:PE X (.BoolOp .And (b::rest) pos) tb):PE X (.BoolOp .And (a::b::rest) pos) (Uo ta tb):=by intro pins s σ H Q I h;refine BoolOp_and (cu (ha pins s σ H _ I h) fun v s1⟨x,H1,I1,r1,q1⟩=>?_);obtain⟨c,rfl,q1⟩:=q1;cases r1;refine wpAny_truthy_bool ?_;cases c with|true=>exact hb pins s1 σ H1 Q I1 q1|false=>exact⟨.bl false,H1,I1,rfl,q1⟩
def tIf(t:TT)(ta tb:TE):TE:=fun σ H Q=>t σ H fun c H1=>if c=true then ta σ H1 Q else tb σ H1 Q
theorem Fp{c:Expr}(hc:PT X c tA)(ha:PE X a ta)(hb:PE X b tb):PE X (.IfExp c a b pos) (tIf tA ta tb):=by intro pins s σ H Q I h;refine wpAny_IfExp (cu (hc pins s σ H _ I h) fun d s1⟨H1,I1,q1⟩=>?_);cases d with|true=>exact ha pins s1 σ H1 Q I1 q1|false=>exact hb pins s1 σ H1 Q I1 q1
end
def dI(K:PySem.W.Frag)(H:Hp)(a:Addr)(xs:List V):Prop:=Rd H a (.lst xs)\/∃(o:Obj)(its:Array Value)(n:Nat),K.lookup a=some o/\o.cls=.type "list"/\o.dict=none/\o.data=.seq its n/\its.size<=sizeLine/\Vals xs its.toList
def gM(K:PySem.W.Frag)(H:Hp)(a:Addr)(xs:List V):Prop:=Rd H a (.tup xs)\/∃(o:Obj)(its:Array Value)(n:Nat),K.lookup a=some o/\o.cls=.type "tuple"/\o.data=.seq its n/\its.size<=sizeLine/\Vals xs its.toList
noncomputable def abj:Value->Option V|.none=>some .non|.bool b=>some (.bl b)|.int i _=>some (.int i)|.str x _=>some (.str x)|.bytes b _=>some (.byt b)|.float b _=>some (.flt b)|.ref a=>some (.ref a)|.type n=>some (.ty n)|_=>none
theorem RelV.abs{x:V}{u:Value}(r:RelV x u):abj u=some x:=by cases x with|non=>cases r;rfl|bl _=>cases r;rfl|int _=>obtain⟨t,rfl⟩:=r;rfl|str _=>obtain⟨t,rfl⟩:=r;rfl|byt _=>obtain⟨t,rfl⟩:=r;rfl|flt _=>obtain⟨t,rfl⟩:=r;rfl|ref _=>cases r;rfl|ty _=>cases r;rfl
theorem RelV.inj{x y:V}{u:Value}(r:RelV x u)(q:RelV y u):x=y:=Option.some.inj (r.abs.symm.trans q.abs)
theorem Vals.inj:∀{xs ys:List V}{us:List Value},Vals xs us->Vals ys us->xs=ys|_,_,_,.nil,.nil=>rfl|_,_,_,.cons r t,.cons r' t'=>by rw[r.inj r',Vals.inj t t']
section
variable{X:Cx}{pins:List (Addr×Obj)}{σ:St}{H:Hp}{s:Shared}{a:Addr}{xs ys:List V}
theorem dI.of{K:PySem.W.Frag}(h:H a=some (.lst xs)):dI K H a xs:=.inl (.inl h)
theorem gM.of{K:PySem.W.Frag}(h:H a=some (.tup xs)):gM K H a xs:=.inl (.inl h)
theorem Inv.list(I:Inv X pins σ H s)(h:dI X.K H a xs):∃its:List Value,Vals xs its/\PlainL s.heap a its.toArray/\xs.length<=sizeLine:=by
 rcases h with h|⟨o,its,n,hk,hc,hd,hs,hz,r⟩;.obtain⟨z,its,n,r,e⟩:=h.ok I.hok;exact⟨its,r,⟨_,n,e,rfl,rfl,rfl⟩,z⟩
 .refine⟨its.toList,r,⟨o,n,I.Q7 a o hk,hc,hd,by simpa using hs⟩,?_⟩;have e:=r.length;simp only[length_toList]at e;omega
theorem Inv.tuple(I:Inv X pins σ H s)(h:gM X.K H a xs):∃its:List Value,Vals xs its/\IsTup s.heap a its.toArray/\xs.length<=sizeLine:=by
 rcases h with h|⟨o,its,n,hk,hc,hs,hz,r⟩;.obtain⟨z,its,r,p⟩:=h.ok I.hok;exact⟨its,r,p,z⟩
 .refine⟨its.toList,r,⟨o,I.Q7 a o hk,hc,n,by simpa using hs⟩,?_⟩;have e:=r.length;simp only[length_toList]at e;omega
theorem Inv.lV(I:Inv X pins σ H s)(h:dI X.K H a xs)(h':dI X.K H a ys):xs=ys:=by
 obtain⟨its,r,⟨o,n,e,_,_,d⟩,_⟩:=I.list h;obtain⟨its',r',⟨o',n',e',_,_,d'⟩,_⟩:=I.list h';rw[e]at e';cases e';rw[d]at d';injection d' with d1 _;have:its=its':=by simpa using congrArg toList d1
 subst this;exact r.inj r'
theorem Inv.jN(I:Inv X pins σ H s)(h:gM X.K H a xs)(h':gM X.K H a ys):xs=ys:=by
 obtain⟨its,r,⟨o,e,_,n,d⟩,_⟩:=I.tuple h;obtain⟨its',r',⟨o',e',_,n',d'⟩,_⟩:=I.tuple h';rw[e]at e';cases e';rw[d]at d';injection d' with d1 _;have:its=its':=by simpa using congrArg toList d1
 subst this;exact r.inj r'
end
noncomputable abbrev Cx.wish(X:Cx)(E:Value->Shared->Prop):Cx:={X with xe:=E}
noncomputable abbrev Cx.U5(X:Cx):Cx:=X.wish fun _ _=>False
theorem Cx.Ok.wish{X:Cx}(ok:X.Ok)(E:Value->Shared->Prop):(X.wish E).Ok:=⟨ok.mod,ok.kind,ok.glob,ok.blt,ok.above,ok.inj,ok.has,ok.cab,ok.hd,ok.frames,ok.Zd,ok.exf,ok.bs,ok.MN,ok.Hr,ok.KQ,ok.qg,ok.T3⟩
theorem Cx.Ok.jq{X:Cx}{E:Value->Shared->Prop}(ok:(X.wish E).Ok):X.Ok:=⟨ok.mod,ok.kind,ok.glob,ok.blt,ok.above,ok.inj,ok.has,ok.cab,ok.hd,ok.frames,ok.Zd,ok.exf,ok.bs,ok.MN,ok.Hr,ok.KQ,ok.qg,ok.T3⟩
section
variable{X:Cx}{pins:List (Addr×Obj)}{σ:St}{H:Hp}{s:Shared}{E:Value->Shared->Prop}
theorem Inv.wish(I:Inv X pins σ H s)(E:Value->Shared->Prop):Inv (X.wish E) pins σ H s:=⟨I.ok.wish E,I.os,I.bare,I.base,I.loc,I.cell,I.free,I.jA,I.pin,I.hok,I.len⟩
theorem Inv.jq(I:Inv (X.wish E) pins σ H s):Inv X pins σ H s:=⟨I.ok.jq,I.os,I.bare,I.base,I.loc,I.cell,I.free,I.jA,I.pin,I.hok,I.len⟩
theorem SP.jq{D:Ends}{f:Flow}{s':Shared}(h:SP (X.wish E) pins D f s'):SP X pins D f s':=by cases f with|next=>obtain⟨σ',H',I,q⟩:=h;exact⟨σ',H',I.jq,q⟩|brk=>obtain⟨σ',H',I,q⟩:=h;exact⟨σ',H',I.jq,q⟩|cont=>obtain⟨σ',H',I,q⟩:=h;exact⟨σ',H',I.jq,q⟩|ret u=>obtain⟨v,σ',H',I,r,q⟩:=h;exact⟨v,σ',H',I.jq,r,q⟩
theorem v5.U5{st:List Stmt}{t:TS}(h:v5 X.U5 st t):v5 X st t:=fun pins s σ H D I hw=>wpAny_mono (h pins s σ H D (I.wish _) hw) (fun _ _ q=>q.jq) fun _ _ z=>False.elim z
end
section
variable{X:Cx}{st:Stmt}{rest:List Stmt}{t u:TS}{e:Expr}{te:TE}{pos:Pos}
def U4:TS:=fun D σ H=>D.nx σ H
def abl(t u:TS):TS:=fun D σ H=>t {D with nx:=u D} σ H
theorem zG:v5 X [] U4:=fun _ _ σ H _ I h=>wpAny_execs_nil ⟨σ,H,I,h⟩
theorem lD(h1:PS X st t)(h2:v5 X rest u):v5 X (st::rest) (abl t u):=by intro pins s σ H D I h;refine wpAny_execs_cons (cu (h1 pins s σ H {D with nx:=u D} I h) fun f s1 q=>?_);cases f with|next=>obtain⟨σ',H',I',q⟩:=q;exact h2 pins s1 σ' H' D I' q|ret v=>exact q|brk=>exact q|cont=>exact q
theorem Inv.quiet{pins:List (Addr×Obj)}{σ:St}{H:Hp}{s:Shared}(I:Inv X pins σ H s):interactive X.env=false:=by simp[interactive,I.ok.kind]
def Vq(te:TE):TS:=fun D σ H=>te σ H fun _ H1=>D.nx σ H1
theorem zJ(he:PE X e te)(hs:swapsWith e none pos.line X.env=pure false:=by rfl):PS X (.Expr e pos) (Vq te):=by intro pins s σ H D I h;exact wpAny_Expr_any (cu (he pins s σ H _ I h) fun v s1⟨x,H1,I1,r1,q1⟩=>⟨σ,H1,I1,q1⟩) I.quiet hs
def aa8(te:TE):TS:=fun D σ H=>te σ H D.rt
theorem CQ(he:PE X e te):PS X (.Return (some e) pos) (aa8 te):=by intro pins s σ H D I h;exact wpAny_Return_some (cu (he pins s σ H _ I h) fun v s1⟨x,H1,I1,r1,q1⟩=>⟨x,σ,H1,I1,r1,q1⟩)
def ab9(c:TT)(t u:TS):TS:=fun D σ H=>c σ H fun b H1=>if b=true then t D σ H1 else u D σ H1
theorem Lw{c:Expr}{a b:List Stmt}{tc:TT}(hc:PT X c tc)(ha:v5 X a t)(hb:v5 X b u):PS X (.If c a b pos) (ab9 tc t u):=by intro pins s σ H D I h;refine wpAny_If (cu (hc pins s σ H _ I h) fun d s1⟨H1,I1,q1⟩=>?_);cases d with|true=>exact ha pins s1 σ H1 D I1 q1|false=>exact hb pins s1 σ H1 D I1 q1
end
abbrev TG:=V->St->Hp->(St->Hp->Prop)->Prop
abbrev CP:=List V->St->Hp->(St->Hp->Prop)->Prop
def PG(X:Cx)(target:Expr)(t:TG):Prop:=∀(pins:List (Addr × Obj))(s:Shared)(σ:St)(H:Hp)(v:V)(u:Value)(Q:St->Hp->Prop),Inv X pins σ H s->RelV v u->t v σ H Q->wpAny (model X.prog X.w) X.A (assign target X.env u) (fun _ s'=>∃σ' H',Inv X pins σ' H' s'/\Q σ' H') X.xe s
def Yp(X:Cx)(ts:List Expr)(t:CP):Prop:=∀(pins:List (Addr × Obj))(s:Shared)(σ:St)(H:Hp)(vs:List V)(us:List Value)(Q:St->Hp->Prop),Inv X pins σ H s->Vals vs us->t vs σ H Q->wpAny (model X.prog X.w) X.A (assignInOrder ((assignEach ts X.env).map (·.2)) us) (fun _ s'=>∃σ' H',Inv X pins σ' H' s'/\Q σ' H') X.xe s
abbrev Dl:=V->V->V->Hp->(Hp->Prop)->Prop
def Ou(X:Cx)(t:Dl):Prop:=∀(pins:List (Addr × Obj))(s:Shared)(σ:St)(H:Hp)(o i v:V)(ov iv u:Value)(Q:Hp->Prop),Inv X pins σ H s->RelV o ov->RelV i iv->RelV v u->t o i v H Q->wpAny (model X.prog X.w) X.A (setItem ov iv u) (fun _ s'=>∃H',Inv X pins σ H' s'/\Q H') X.xe s
abbrev YH:=V->V->Hp->VK->Prop
def Xq(X:Cx)(op:Operator)(t:YH):Prop:=∀(pins:List (Addr × Obj))(s:Shared)(σ:St)(H:Hp)(x y:V)(v u:Value)(Q:VK),Inv X pins σ H s->RelV x v->RelV y u->t x y H Q->wpAny (model X.prog X.w) X.A (inplaceOp op v u) (EP X pins σ Q) X.xe s
section
variable{X:Cx}{pos:Pos}
def jh(i:Nat):TG:=fun v σ H Q=>Q (σ.set i (some v)) H
theorem aJ{i:Nat}{x:Str}(hN:X.N.Nodup)(hi:X.N[i]?=some x)(hx:Loc X.env.scope x)(hf:X.fn x=true\/X.env.scope.names.lookup x=some .local:=by first|exact .inl rfl|exact .inr rfl|assumption):PG X (.Name x pos) (jh i):=by intro pins s σ H v u Q I r h;exact wpAny_assign_Name (lK I hN hi hx r (fun s' I'=>⟨_,H,I',h⟩) hf)
def N5:CP:=fun vs σ H Q=>vs=[]/\Q σ H
def Dj(t:TG)(u:CP):CP:=fun vs σ H Q=>∃v r,vs=v::r/\t v σ H fun σ' H'=>u r σ' H' Q
theorem eG:Yp X [] N5:=by intro pins s σ H vs us Q I r h;obtain⟨e,h⟩:=h;subst e;cases r;exact assignInOrder_nil ⟨σ,H,I,h⟩
theorem bh{e:Expr}{es:List Expr}{t:TG}{u:CP}(h1:PG X e t)(h2:Yp X es u)(hs:(assignEach (e::es) X.env).map (·.2)=assign e X.env::(assignEach es X.env).map (·.2):=by rfl):Yp X (e::es) (Dj t u):=by intro pins s σ H vs us Q I r h;obtain⟨v,vr,e1,h⟩:=h;subst e1;cases r with|cons r rr=>rw[hs];refine assignInOrder_cons (cu (h1 pins s σ H _ _ _ I r h) fun _ s1⟨σ1,H1,I1,q1⟩=>?_);exact h2 pins s1 σ1 H1 _ _ Q I1 rr q1
def Qq(K:PySem.W.Frag)(n:Nat)(t:CP):TG:=fun v σ H Q=>∃a xs,v=.ref a/\gM K H a xs/\xs.length=n/\t xs σ H Q
theorem gP{es:List Expr}{k:Nat}{t:CP}{n:Nat}(hc:X.calm=true)(h:Yp X es t)(hn:(assignEach es X.env).length=n:=by rfl)(hst:(assignEach es X.env).findIdx? (·.1)=none:=by rfl):PG X (.Tuple es k pos) (Qq X.K n t):=by intro pins s σ H v u Q I r hw;obtain⟨a,xs,e1,hq,hl,hw⟩:=hw;subst e1;cases r;obtain⟨its,rv,ht,hz⟩:=I.tuple hq;refine assign_Tuple_tuple (I.ok.hd hc) ht (by simp[hn,<-hl,rv.length]) hst fun h' hx=>?_;have I1:Inv X pins σ H {s with heap:=h'}:=I.kept (t':=s.toks) fun b o e=>hx b o (ne_of_lt (lt_size e)) e;exact h pins _ σ H xs _ Q I1 (by simpa using rv) hw
def aaG(to ti:TE)(t:Dl):TG:=fun v σ H Q=>to σ H fun o H1=>ti σ H1 fun i H2=>t o i v H2 fun H3=>Q σ H3
theorem Pa{o i:Expr}{to ti:TE}{t:Dl}(ho:PE X o to)(hi:PE X i ti)(hs:Ou X t)(ha:∀ v,assign (.Subscript o i pos) X.env v=(do
  let ov<-holding [v] (eval o X.env)let iv<-holding [v,ov] (eval i X.env)standAt pos
  holding [v,ov,iv] (setItem ov iv v)release [v,ov,iv] []):=by intro _;rfl):PG X (.Subscript o i pos) (aaG to ti t):=by intro pins s σ H v u Q I r h;rw[ha];refine wpAny_bind (wpAny_holding (cu (ho pins s σ H _ I h) fun ov s1⟨x,H1,I1,r1,q1⟩=>?_));refine wpAny_bind (wpAny_holding (cu (hi pins s1 σ H1 _ I1 q1) fun iv s2⟨y,H2,I2,r2,q2⟩=>?_));refine wpAny_bind (wpAny_standAt (wpAny_bind (wpAny_holding (cu (hs pins s2 σ H2 x y v ov iv u _ I2 r1 r2 r q2) fun _ s3⟨H3,I3,q3⟩=>?_))));exact wpAny_release ⟨σ,H3,I3,q3⟩
def Od(te:TE)(g:TG):TS:=fun D σ H=>te σ H fun x H1=>g x σ H1 D.nx
theorem DG{tg e:Expr}{te:TE}{g:TG}(he:PE X e te)(hg:PG X tg g)(hs:swapsWithSole [tg] e pos.line X.env=pure false:=by rfl)(hw:swappedStores [tg] e X.env=pure none:=by rfl)(h1:(assignEach [tg] X.env).map (·.2)=[assign tg X.env]:=by rfl):PS X (.Assign [tg] e pos) (Od te g):=by intro pins s σ H D I h;refine wpAny_Assign_stores (cu (he pins s σ H _ I h) fun v s1⟨x,H1,I1,r1,q1⟩=>?_) hs hw;rw[h1];exact cu (hg pins s1 σ H1 x v _ I1 r1 q1) fun _ s2 q=>q
theorem GF{i:Nat}{x:Str}{e:Expr}{te:TE}{pos':Pos}(hN:X.N.Nodup)(hi:X.N[i]?=some x)(hx:Loc X.env.scope x)(he:PE X e te)(hs:swapsWith e (some (.Name x pos')) pos.line X.env=pure false:=by rfl)(hf:X.fn x=true\/X.env.scope.names.lookup x=some .local:=by first|exact .inl rfl|exact .inr rfl|assumption):PS X (.Assign [.Name x pos'] e pos) (Od te (jh i)):=by intro pins s σ H D I h;refine wpAny_Assign_Name (cu (he pins s σ H _ I h) fun v s1⟨y,H1,I1,r1,q1⟩=>?_) hs;exact lK I1 hN hi hx r1 (fun s2 I2=>⟨_,H1,I2,q1⟩) hf
def abC(i j:Nat)(ta:TA):TS:=fun D σ H=>ta σ H fun vs H1=>∃v w,vs=[v,w]/\D.nx ((σ.set i (some v)).set j (some w)) H1
theorem QR{i j:Nat}{x y:Str}{a b:Expr}{ta:TA}{px py pt:Pos}{kt k2 Rt}(hc:X.calm=true)(hN:X.N.Nodup)(hi:X.N[i]?=some x)(hj:X.N[j]?=some y)(hij:i≠j)(hx:X.env.scope.names.lookup x=some .local)(hy:X.env.scope.names.lookup y=some .local)(ha:PA X [a,b] ta)(hw:swappedStores [.Tuple [.Name x px,.Name y py] kt pt] (.Tuple [a,b] k2 Rt) X.env=pure (some [x,y]))(hs:swapsWithSole [.Tuple [.Name x px,.Name y py] kt pt] (.Tuple [a,b] k2 Rt) pos.line X.env=pure false:=by rfl):PS X (.Assign [.Tuple [.Name x px,.Name y py] kt pt] (.Tuple [a,b] k2 Rt) pos) (abC i j ta):=by
 intro pins s σ H D I h;rw[exec_Assign_arm];refine wpAny_bind (wpAny_standAt ?_);rw[hs];refine wpAny_bind (wpAny_pure ?_);rw[if_neg (by decide)];refine wpAny_bind (Tuple_ (cu (ha _ pins s σ H _ I h) fun us s1⟨vs,H1,I1,r1,q1⟩=>?_));obtain⟨v,w,e1,q1⟩:=q1;subst e1;obtain⟨u1,u2,rfl,rv,wU⟩:∃u1 u2,us=[u1,u2]/\RelV v u1/\RelV w u2:=by cases r1 with|cons p q=>cases q with|cons p' q'=>cases q';exact⟨_,_,rfl,p,p'⟩
 refine wpAny_newObj_type ?_ (by show 2<=sizeLine;decide);have I2:Inv X pins σ H1 {s1 with heap:=s1.heap.push {cls:=.type "tuple",data:=.seq [u1,u2].toArray}}:=I1.kept (t':=s1.toks) fun b o e=>get?_push_of_some _ e;rw[hw];refine wpAny_bind (wpAny_pure ?_);show wpAny (model X.prog X.w) X.A (do rule "assign.swapped-stores";let items<-unpackItems (.ref s1.heap.objs.size) 2 none;assignInOrder [fun v=>bindName X.env y v,fun v=>bindName X.env x v] items.reverse;pure Flow.next) _ _ _;refine wpAny_bind (wpAny_rule (wpAny_bind (unpackItems_tuple (items:=#[u1,u2]) (I.ok.hd hc) (IsTup.new s1.heap _) fun h' hx'=>?_)));have I3:=I2.kept (h':=h') (t':=s1.toks) fun b o e=>hx' b o (ne_of_lt (lt_size e)) e;show wpAny _ _ (assignInOrder [fun v=>bindName X.env y v,fun v=>bindName X.env x v] [u2,u1]>>=fun _=>pure Flow.next) _ _ _;refine wpAny_bind (assignInOrder_cons (wpAny_bindName (lK I3 hN hj (.inl hy) wU (fun s2 I4=>?_) (.inr hy))));refine assignInOrder_cons (wpAny_bindName (lK I4 hN hi (.inl hx) rv (fun s3 I5=>assignInOrder_nil (wpAny_pure ?_)) (.inr hx)));rw[List.set_comm _ _ (Ne.symm hij)]at I5;exact⟨_,H1,I5,q1⟩
def UJ(to ti te:TE)(KY:V->V->Hp->VK->Prop)(Zg:YH)(KZ:Dl):TS:=fun D σ H=>to σ H fun o H1=>ti σ H1 fun i H2=>KY o i H2 fun x H3=>te σ H3 fun y H4=>Zg x y H4 fun z H5=>KZ o i z H5 fun H6=>D.nx σ H6
def Vf(X:Cx)(t:V->V->Hp->VK->Prop):Prop:=∀(pins:List (Addr × Obj))(s:Shared)(σ:St)(H:Hp)(o i:V)(ov iv:Value)(Q:VK),Inv X pins σ H s->RelV o ov->RelV i iv->t o i H Q->wpAny (model X.prog X.w) X.A (getItem ov iv) (EP X pins σ Q) X.xe s
theorem JD{o i e:Expr}{to ti te:TE}{KY:V->V->Hp->VK->Prop}{Zg:YH}{KZ:Dl}{op:Operator}{tpos:Pos}(ho:PE X o to)(hi:PE X i ti)(hg:Vf X KY)(he:PE X e te)(hp:Xq X op Zg)(hs:Ou X KZ)(ha:∀ov iv new,augStore i ov iv new=(do holding [new,ov,iv] (setItem ov iv new);release [new,ov,iv] [];pure .next):=by intros;rfl):PS X (.AugAssign (.Subscript o i tpos) op e pos) (UJ to ti te KY Zg KZ):=by intro pins s σ H D I h;refine wpAny_AugAssign_SubscriptAny (cu (ho pins s σ H _ I h) fun ov s1⟨x1,H1,I1,r1,q1⟩=>?_) ha;refine cu (hi pins s1 σ H1 _ I1 q1) fun iv s2⟨x2,H2,I2,r2,q2⟩=>?_;refine cu (hg pins s2 σ H2 x1 x2 ov iv _ I2 r1 r2 q2) fun old s3⟨x3,H3,I3,r3,q3⟩=>?_;refine cu (he pins s3 σ H3 _ I3 q3) fun v s4⟨x4,H4,I4,r4,q4⟩=>?_;refine cu (hp pins s4 σ H4 x3 x4 old v _ I4 r3 r4 q4) fun new s5⟨x5,H5,I5,r5,q5⟩=>?_;exact cu (hs pins s5 σ H5 x1 x2 x5 ov iv new _ I5 r1 r2 r5 q5) fun _ s6⟨H6,I6,q6⟩=>⟨σ,H6,I6,q6⟩
def ipI(f:Int->Int->Int):YH:=fun x y H Q=>∃i j,x=.int i/\y=.int j/\Q (.int (f i j)) H
theorem O3:Xq X .Add (ipI fun i j=>i+j):=by intro pins s σ H x y v u Q I r1 r2 h;obtain⟨i,j,e1,e2,q⟩:=h;subst e1;subst e2;obtain⟨t,rfl⟩:=r1;obtain⟨t',rfl⟩:=r2;exact iadd_int ⟨.int _,H,I.tok _,⟨_,rfl⟩,q⟩
end
section
variable{X:Cx}{pos:Pos}
def Qw(c:TT)(tb:TS):TS:=fun D σ H=>∃W:Nat->St->Hp->Prop,(∃m,W m σ H)/\∀m σ H,W m σ H->c σ H fun b H1=>if b=true then ∃N:St->Hp->Prop,(∀σ' H',N σ' H'->∃m',m'<m/\W m' σ' H')/\tb {D with nx:=N,ct:=N,bk:=D.nx} σ H1 else D.nx σ H1
theorem Fj{c:Expr}{body:List Stmt}{tc:TT}{tb:TS}(hp:PassesOwn (model X.prog X.w) X.A X.env X.xe)(hc:PT X c tc)(hb:v5 X body tb):PS X (.While c body [] pos) (Qw tc tb):=by intro pins s σ H D I h;obtain⟨W,⟨m0,w0⟩,turn⟩:=h;refine wpAny_While (codeAny_whileLoop (fun n s'=>∃σ' H',Inv X pins σ' H' s'/\W n σ' H') ?_ m0 ⟨σ,H,I,w0⟩);rintro n s1⟨σ1,H1,I1,w1⟩;refine wpAny_passesOwn hp (cu (hc pins s1 σ1 H1 _ I1 (turn n σ1 H1 w1)) fun b s2⟨H2,I2,q2⟩=>?_);cases b with
 |true=>obtain⟨N,hN,q2⟩:=q2;rw[if_pos rfl];refine wpAny_passesOwn hp (cu (hb pins s2 σ1 H2 _ I2 q2) fun f s3 q3=>?_);cases f with|next=>obtain⟨σ3,H3,I3,n3⟩:=q3;obtain⟨m',hm,w3⟩:=hN σ3 H3 n3;exact⟨m',hm,σ3,H3,I3,w3⟩|cont=>obtain⟨σ3,H3,I3,n3⟩:=q3;obtain⟨m',hm,w3⟩:=hN σ3 H3 n3;exact⟨m',hm,σ3,H3,I3,w3⟩|brk=>exact q3|ret v=>exact q3
 |false=>rw[if_neg Bool.false_ne_true];exact wpAny_execs_nil ⟨σ1,H2,I2,q2⟩
end
structure It where
 go:Nat->Hp->Prop
 Ht:Nat->Hp->V->Hp->Prop
 stop:Nat->Hp->Prop
def mK(X:Cx)(pins:List (Addr×Obj))(H:Hp)(b:Addr):Prop:=H b=none/\b≠X.env.locals/\b∉X.fs/\(b∈X.ex\/X.s₀.heap.objs.size<=b)/\(∀x c,X.env.cells.lookup x=some c->c≠b)/\∀p∈X.pn++pins,p.1≠b
theorem Inv.yf{X:Cx}{pins:List (Addr×Obj)}{σ:St}{H H':Hp}{s:Shared}{b:Addr}(I:Inv X pins σ H s)(hb:s.heap.objs.size<=b)(hn:H' b=none):mK X pins H' b:=by
 refine⟨hn,ne_of_gt (lt_of_lt_of_le I.lt hb),I.aaD hb,.inr (le_trans I.sz hb),fun x c e z=>?_,fun p hp z=>?_⟩;.obtain⟨v,q⟩:=I.cell x c e;exact absurd (lt_of_lt_of_le q.lt (by rw[z];exact hb)) (lt_irrefl _)
 .exact absurd (lt_of_lt_of_le (lt_size (I.pin p hp).1) (by rw[z];exact hb)) (lt_irrefl _)
structure Turn(P:Program)(w:World)(K:PySem.W.Frag)(tg:Expr)(J:It)(fp:List Addr)(it:Addr)(tn:Nat->Heap->Prop):Prop where
 mem:it∈fp
 obj:∀i h,tn i h->∀b∈fp,∃o,h.get? b=some o/\∀v,o.data≠.cell v
 keep:∀i h h',tn i h->(∀b∈fp,∀o,h.get? b=some o->h'.get? b=some o)->tn i h'
 item:∀(X:Cx),X.prog=P->X.w=w->X.K=K->X.calm=true->∀(i:Nat)(pins:List (Addr×Obj))(s:Shared)(σ:St)(H:Hp)(E:Value->Shared->Prop),Inv X pins σ H s->(∀b∈fp,mK X pins H b)->tn i s.heap->J.go i H->wpAny (model P w) X.A (pyNext (.ref it)) (fun r s1=>∃u,r=some u/\wpAny (model P w) X.A (letOwnedTupleGo tg (.ref it) u) (fun _ s2=>∃x H',Inv X pins σ H' s2/\RelV x u/\J.Ht i H x H'/\tn (i+1) s2.heap/\∀b∈fp,H' b=none) E s1) E s
 done:∀(X:Cx),X.prog=P->X.w=w->X.K=K->X.calm=true->∀(i:Nat)(pins:List (Addr×Obj))(s:Shared)(σ:St)(H:Hp)(E:Value->Shared->Prop),Inv X pins σ H s->(∀b∈fp,mK X pins H b)->tn i s.heap->J.stop i H->wpAny (model P w) X.A (pyNext (.ref it)) (fun r s1=>r=none/\Inv X pins σ H s1) E s
 self:∀(A:Around)(i:Nat)(s:Shared)(Q:Value->Shared->Prop)(E:Value->Shared->Prop),tn i s.heap->Q (.ref it) s->wpAny (model P w) A (pyIter (.ref it)) Q E s
abbrev TI:=St->Hp->(It->Hp->Prop)->Prop
def PIE(X:Cx)(pins:List (Addr×Obj))(σ:St)(tg:Expr)(R:It->Hp->Prop)(itv:Value)(s2:Shared):Prop:=∃(it:Addr)(fp:List Addr)(tn:Nat->Heap->Prop)(J:It)(H':Hp),itv=.ref it/\Inv X pins σ H' s2/\Turn X.prog X.w X.K tg J fp it tn/\tn 0 s2.heap/\(∀b∈fp,mK X pins H' b)/\R J H'
def PI(X:Cx)(tg iter:Expr)(wi:TI):Prop:=∀(pins:List (Addr × Obj))(s:Shared)(σ:St)(H:Hp)(R:It->Hp->Prop),Inv X pins σ H s->wi σ H R->wpAny (model X.prog X.w) X.A (eval iter X.env) (fun v s1=>wpAny (model X.prog X.w) X.A (pyIter v) (PIE X pins σ tg R) X.xe s1) X.xe s
theorem Am{M:Model}{A:Around}{E:Value->Shared->Prop}{s:Shared}{tg:Expr}{it:Addr}{u:Value}{o:Obj}{n:String}{vs:Array Value}{Q:Unit->Shared->Prop}(ho:s.heap.get? it=some o)(hc:o.cls=.type n)(hd:o.data=.fields vs)(hn:["enumerate","zip","dict_itemiterator","dict_reverseitemiterator","odict_iterator","itertools.zip_longest","itertools.pairwise"].contains n=false)(hQ:Q () s):wpAny M A (letOwnedTupleGo tg (.ref it) u) Q E s:=by unfold letOwnedTupleGo;cases tg<;>first|exact wpAny_pure hQ|(cases u<;>first|exact wpAny_pure hQ|(refine wpAny_bind (wpAny_load ho ?_);rw[hc,hd];show wpAny M A (if(["enumerate","zip","dict_itemiterator","dict_reverseitemiterator","odict_iterator","itertools.zip_longest","itertools.pairwise"].contains n&&vs[0]?==some (rawInt _))=true then _ else _) Q E s;rw[if_neg (by intro h;rw[hn,Bool.false_and]at h;cases h)];exact wpAny_pure hQ))
noncomputable def NK(K:PySem.W.Frag)(a:Addr):It:=⟨fun i H=>∃xs x,dI K H a xs/\xs[i]?=some x,fun i H x H'=>H'=H/\∀xs,dI K H a xs->xs[i]?=some x,fun i H=>∃xs,dI K H a xs/\xs.length<=i⟩
noncomputable def Tz(K:PySem.W.Frag)(a:Addr):It:=⟨fun i H=>∃xs x,gM K H a xs/\xs[i]?=some x,fun i H x H'=>H'=H/\∀xs,gM K H a xs->xs[i]?=some x,fun i H=>∃xs,gM K H a xs/\xs.length<=i⟩
noncomputable def Tg(lo:Int)(n:Nat):It:=⟨fun i _=>i<n,fun i H x H'=>H'=H/\x=.int (lo+i),fun i _=>n<=i⟩
theorem By{P:Program}{w:World}{K:PySem.W.Frag}{tg:Expr}(a it:Addr):Turn P w K tg (NK K a) [it] it (fun i h=>h.IsListIter it a i)where
 mem:=by simp
 obj:=fun i h st b hb=>by
  have e:b=it:=by simpa using hb
  subst e;obtain⟨o,e,c,d⟩:=st;exact⟨o,e,fun v z=>by rw[d]at z;cases z⟩
 keep:=fun i h h' st k=>st.at fun o e=>k it (by simp) o e;item:=by intro X hP hw hK hc i pins s σ H E I hf st hg;subst hP hw hK;obtain⟨xs,x,hq,hx⟩:=hg;obtain⟨its,rv,p,hz⟩:=I.list hq;obtain⟨u,hu,ru⟩:=rv.get hx;obtain⟨f0,f1,f2,f3,f4,f5⟩:=hf it (by simp);refine wpAny_pyNext_list_item st p.isList (x:=u) (by simpa using hu) fun h' st' sb=>?_;have I1:Inv X pins σ H {s with heap:=h'}:=I.turned (t':=s.toks) (fun b o hb e=>(sb.2 b hb).trans e) f0 f1 f3 f4 f5;obtain⟨o,e,c,d⟩:=id st';exact⟨u,rfl,Am (s:={s with heap:=h'}) e c d (by decide) ⟨x,H,I1,ru,⟨rfl,fun ys hy=>by rw[I.lV hy hq];exact hx⟩,st',fun b hb=>(hf b hb).1⟩⟩
 done:=by intro X hP hw hK hc i pins s σ H E I hf st hg;subst hP hw hK;obtain⟨xs,hq,hx⟩:=hg;obtain⟨its,rv,p,hz⟩:=I.list hq;obtain⟨f0,f1,f2,f3,f4,f5⟩:=hf it (by simp);have hl:=rv.length;exact wpAny_pyNext_list_end (I.ok.hd hc) st p.isList (by simp;omega) fun h' eb=>⟨rfl,I.turned (t':=s.toks) (fun b o hb e=>eb b o hb e) f0 f1 f3 f4 f5⟩
 self:=fun _ _ _ _ _ st h=>wpAny_pyIter_listiter st h
theorem yH{P:Program}{w:World}{K:PySem.W.Frag}{tg:Expr}(a it:Addr):Turn P w K tg (Tz K a) [it] it (fun i h=>h.IsTupleIter it a i)where
 mem:=by simp
 obj:=fun i h st b hb=>by
  have e:b=it:=by simpa using hb
  subst e;obtain⟨o,e,c,d⟩:=st;exact⟨o,e,fun v z=>by rw[d]at z;cases z⟩
 keep:=fun i h h' st k=>st.at fun o e=>k it (by simp) o e;item:=by intro X hP hw hK hc i pins s σ H E I hf st hg;subst hP hw hK;obtain⟨xs,x,hq,hx⟩:=hg;obtain⟨its,rv,p,hz⟩:=I.tuple hq;obtain⟨u,hu,ru⟩:=rv.get hx;obtain⟨f0,f1,f2,f3,f4,f5⟩:=hf it (by simp);refine wpAny_pyNext_tuple_item st (show s.heap.IsTuple a its.toArray from p) (x:=u) (by simpa using hu) fun h' st' sb=>?_;have I1:Inv X pins σ H {s with heap:=h'}:=I.turned (t':=s.toks) (fun b o hb e=>(sb.2 b hb).trans e) f0 f1 f3 f4 f5;obtain⟨o,e,c,d⟩:=id st';exact⟨u,rfl,Am (s:={s with heap:=h'}) e c d (by decide) ⟨x,H,I1,ru,⟨rfl,fun ys hy=>by rw[I.jN hy hq];exact hx⟩,st',fun b hb=>(hf b hb).1⟩⟩
 done:=by intro X hP hw hK hc i pins s σ H E I hf st hg;subst hP hw hK;obtain⟨xs,hq,hx⟩:=hg;obtain⟨its,rv,p,hz⟩:=I.tuple hq;obtain⟨f0,f1,f2,f3,f4,f5⟩:=hf it (by simp);have hl:=rv.length;exact wpAny_pyNext_tuple_end (I.ok.hd hc) st (show s.heap.IsTuple a its.toArray from p) (by simp;omega) fun h' eb=>⟨rfl,I.turned (t':=s.toks) (fun b o hb e=>eb b o hb e) f0 f1 f3 f4 f5⟩
 self:=fun _ _ _ _ _ st h=>wpAny_pyIter_tupleiter st h
theorem yQ{P:Program}{w:World}{K:PySem.W.Frag}{tg:Expr}(it:Addr)(lo:Int)(n:Nat):Turn P w K tg (Tg lo n) [it] it (fun i h=>IsRangeIter h it (lo+(i:Nat)*1) ((n:Int)-(i:Nat)) 1)where
 mem:=by simp
 obj:=fun i h st b hb=>by
  have e:b=it:=by simpa using hb
  subst e;exact⟨_,st,fun v z=>by have z':Data.fields _=Data.cell v:=z;cases z'⟩
 keep:=fun i h h' st k=>k it (by simp) _ st;item:=by intro X hP hw hK hc i pins s σ H E I hf st hg;subst hP hw hK;obtain⟨f0,f1,f2,f3,f4,f5⟩:=hf it (by simp);have W:=Walks.range (prog:=X.prog) (w:=X.w) (I.ok.hd hc) it lo 1 n;refine W.item i s _ _ hg st fun v h' tk hv st' kk=>?_;obtain⟨t,rfl⟩:=hv;have I1:Inv X pins σ H {s with heap:=h',toks:=tk}:=I.turned (fun b o hb e=>kk b o (by simpa using hb) e) f0 f1 f3 f4 f5;refine⟨_,rfl,Am (s:={s with heap:=h',toks:=tk}) (n:="range_iterator") st' rfl rfl (by decide) ⟨.int (lo+i),H,I1,⟨t,?_⟩,⟨rfl,rfl⟩,st',fun b hb=>(hf b hb).1⟩⟩;rw[Int.mul_one]
 done:=by intro X hP hw hK hc i pins s σ H E I hf st hg;subst hP hw hK;obtain⟨f0,f1,f2,f3,f4,f5⟩:=hf it (by simp);exact wpAny_pyNext_range_end (I.ok.hd hc) st (by have:n<=i:=hg;omega) fun h' eb=>⟨rfl,I.turned (t':=s.toks) (fun b o hb e=>eb b o hb e) f0 f1 f3 f4 f5⟩
 self:=fun _ _ _ _ _ st h=>wpAny_pyIter_rangeiter st h
section
variable{X:Cx}{tg:Expr}
theorem wF{pins:List (Addr×Obj)}{σ:St}{H:Hp}{s:Shared}{R:It->Hp->Prop}{E:Value->Shared->Prop}{lo hi:Int}{t u v:Tok}{tk:Nat}(I:Inv X pins σ H s)(h1:-(2^62)<=lo)(h2:lo<2^62)(h3:-(2^62)<=hi)(h4:hi<2^62)(q:R (Tg lo (hi-lo).toNat) H):wpAny (model X.prog X.w) X.A (pyIter (.ref s.heap.objs.size)) (PIE X pins σ tg R) E {s with heap:=s.heap.push {cls:=.type "range",data:=.fields #[.int lo t,.int hi u,.int 1 v]},toks:=tk}:=by
 refine wpAny_pyIter_range (IsRange.new ..) (small_one h1 h2 h3 h4) ?_;have I1:Inv X pins σ H {s with heap:=s.heap.push {cls:=.type "range",data:=.fields #[.int lo t,.int hi u,.int 1 v]},toks:=tk}:=I.kept fun b o e=>get?_push_of_some _ e;refine⟨(s.heap.push {cls:=.type "range",data:=.fields #[.int lo t,.int hi u,.int 1 v]}).objs.size,[(s.heap.push {cls:=.type "range",data:=.fields #[.int lo t,.int hi u,.int 1 v]}).objs.size],_,_,H,rfl,I1.kept (t':=tk) fun b o e=>get?_push_of_some _ e,yQ _ lo (hi-lo).toNat,?_,fun b hb=>?_,q⟩
 . have e1:lo+((0:Nat):Int)*1=lo:=by simp
   have e2:(((hi-lo).toNat:Nat):Int)-((0:Nat):Int)=Builtin.Range.rangeSize lo hi 1:=by rw[rangeSize_one];split<;>omega
   show IsRangeIter _ _ (lo+((0:Nat):Int)*1) ((((hi-lo).toNat:Nat):Int)-((0:Nat):Int)) 1;rw[e1,e2];exact get?_push_size _ rfl
 . have e:b=(s.heap.push {cls:=.type "range",data:=.fields #[.int lo t,.int hi u,.int 1 v]}).objs.size:=by simpa using hb
   subst e;exact I1.yf (le_refl _) (I1.hok.fresh (le_refl _))
def Us(ta:TA):TI:=fun σ H R=>ta σ H fun vs H1=>∃j:Int,vs=[.int j]/\-(2^62)<=j/\j<2^62/\R (Tg 0 j.toNat) H1
def Ww(ta:TA):TI:=fun σ H R=>ta σ H fun vs H1=>∃i j:Int,vs=[.int i,.int j]/\(-(2^62)<=i/\i<2^62/\-(2^62)<=j/\j<2^62)/\R (Tg i (j-i).toNat) H1
theorem rG{a:Expr}{ta:TA}{p pos:Pos}(hg:Gl X "range")(hm:X.mg "range"=none)(ha:PA X [a] ta)(hs:starEach [a] X.env=[(false,eval a X.env)]:=by rfl):PI X tg (.Call (.Name "range" p) [a] [] pos) (Us ta):=by intro pins s σ H R I h;refine Call_ (iK I hg hm boot_range (PyProof.Rows.callWith_type1 (cu (ha pos pins s σ H _ I h) fun us s1⟨vs,H1,I1,r1,q1⟩=>?_) hs rfl));obtain⟨j,e,q1,q2,q⟩:=q1;subst e;cases r1 with|cons r rr=>cases rr;obtain⟨t,rfl⟩:=r;exact call_range_1 (wF I1 (by omega) (by omega) q1 q2 (by simpa using q))
theorem Be{a b:Expr}{ta:TA}{p pos:Pos}(hg:Gl X "range")(hm:X.mg "range"=none)(ha:PA X [a,b] ta)(hs:starEach [a,b] X.env=[(false,eval a X.env),(false,eval b X.env)]:=by rfl)(hs2:starEach [b] X.env=[(false,eval b X.env)]:=by rfl):PI X tg (.Call (.Name "range" p) [a,b] [] pos) (Ww ta):=by intro pins s σ H R I h;refine Call_ (iK I hg hm boot_range (PyProof.Rows.callWith_type1 (cu (ha pos pins s σ H _ I h) fun us s1⟨vs,H1,I1,r1,q1⟩=>?_) (by rw[hs,hs2]) (by rw[hs2];rfl)));obtain⟨i,j,e,⟨q1,q2,q3,q4⟩,q⟩:=q1;subst e;cases r1 with|cons r rr=>cases rr with|cons r' rr=>cases rr;obtain⟨t,rfl⟩:=r;obtain⟨t',rfl⟩:=r';exact call_range_2 (wF I1 q1 q2 q3 q4 q)
def ZG(wi:TI)(g:TG)(tb:TS):TS:=fun D σ H=>wi σ H fun J H1=>∃W:Nat->Nat->St->Hp->Prop,(∃m,W 0 m σ H1)/\∀i m σ H,W i m σ H->(J.stop i H/\D.nx σ H)\/(J.go i H/\∃N:St->Hp->Prop,(∀σ' H',N σ' H'->∃m',m'<m/\W (i+1) m' σ' H')/\∀x H',J.Ht i H x H'->g x σ H' fun σ2 H2=>tb {D with nx:=N,ct:=N,bk:=D.nx} σ2 H2)
noncomputable def qF(fp:List Addr)(h:Heap):List (Addr×Obj):=fp.filterMap fun b=>(h.get? b).map fun o=>(b,o)
theorem iQ{fp:List Addr}{h:Heap}{b:Addr}{o:Obj}(hb:b∈fp)(e:h.get? b=some o):(b,o)∈qF fp h:=List.mem_filterMap.mpr ⟨b,hb,by rw[e];rfl⟩
theorem Br{fp:List Addr}{h:Heap}{p:Addr×Obj}(hp:p∈qF fp h):p.1∈fp/\h.get? p.1=some p.2:=by obtain⟨b,hb,e⟩:=List.mem_filterMap.mp hp;cases q:h.get? b with|none=>rw[q]at e;cases e|some o=>rw[q]at e;have e':(b,o)=p:=Option.some.inj e;subst e';exact⟨hb,q⟩
theorem Inv.pinned{pins:List (Addr×Obj)}{σ:St}{H:Hp}{s:Shared}{fp:List Addr}(I:Inv X pins σ H s)(hf:∀b∈fp,mK X pins H b)(ho:∀b∈fp,∃o,s.heap.get? b=some o/\∀v,o.data≠.cell v):Inv X (pins++qF fp s.heap) σ H s:=I.An fun p hp=>(mem_append.mp hp).elim (fun z=>I.pin p (mem_append_right _ z)) fun z=>by obtain⟨hb,e⟩:=Br z;obtain⟨f0,f1,f2,_⟩:=hf p.1 hb;obtain⟨o,e',d⟩:=ho p.1 hb;rw[e]at e';cases e';exact⟨e,f0,f1,f2,d⟩
theorem Inv.kO{pins pl:List (Addr×Obj)}{σ:St}{H:Hp}{s:Shared}(I:Inv X (pins++pl) σ H s):Inv X pins σ H s:=I.An fun p hp=>I.pin p (mem_append_right _ (mem_append_left _ hp))
theorem Gv{iter:Expr}{body:List Stmt}{wi:TI}{g:TG}{tb:TS}{pos:Pos}(hp:PassesOwn (model X.prog X.w) X.A X.env X.xe)(hc:X.calm=true)(hi:PI X tg iter wi)(hg:PG X tg g)(hb:v5 X body tb)(hs:∀x,foldedSetIterable iter X.env x=pure x:=by intro _;rfl):PS X (.For tg iter body [] pos) (ZG wi g tb):=by
 intro pins s σ H D I h;refine wpAny_For (cu (hi pins s σ H _ I h) fun v s1 h1=>cu h1 fun itv s2 h2=>?_) hs;obtain⟨it,fp,tn,J,H2,e,I2,T,st2,f2,W,⟨m0,w0⟩,turn⟩:=h2;subst e--what stays true of the iterator's objects through the loop
 have stat:∀{H':Hp},(∀b∈fp,H' b=none)->∀b∈fp,mK X pins H' b:=fun hn b hb=>⟨hn b hb,(f2 b hb).2⟩;refine codeAny_forLoop_any (fun n s'=>∃i σ' H',Inv X pins σ' H' s'/\tn i s'.heap/\(∀b∈fp,H' b=none)/\W i n σ' H') ?_ m0 ⟨0,σ,H2,I2,st2,fun b hb=>(f2 b hb).1,w0⟩;rintro n s3⟨i,σ3,H3,I3,st3,fr3,w3⟩;rcases turn i n σ3 H3 w3 with⟨stop,qn⟩|⟨go,N,hN,step⟩;.refine wpAny_passesOwn hp (cu (T.done X rfl rfl rfl hc i pins s3 σ3 H3 X.xe I3 (stat fr3) st3 stop) fun r s4⟨hr,I4⟩=>?_);subst hr;exact wpAny_execs_nil ⟨σ3,H3,I4,qn⟩
 . refine wpAny_passesOwn hp (cu (T.item X rfl rfl rfl hc i pins s3 σ3 H3 X.xe I3 (stat fr3) st3 go) fun r s4⟨u,hr,h4⟩=>?_);subst hr;refine wpAny_passesOwn hp (cu h4 fun _ s5⟨x,H5,I5,r5,y5,st5,fr5⟩=>?_);have I5':=I5.pinned (stat fr5) (T.obj _ _ st5);refine wpAny_passesOwn hp (cu (hg _ s5 σ3 H5 x u _ I5' r5 (step x H5 y5)) fun _ s6⟨σ6,H6,I6,q6⟩=>?_);refine wpAny_passesOwn hp (cu (hb _ s6 σ6 H6 _ I6 q6) fun f s7 q7=>?_);have again:∀{σ7:St}{H7:Hp},Inv X (pins++qF fp s5.heap) σ7 H7 s7->N σ7 H7->∃m,m<n/\∃i σ' H',Inv X pins σ' H' s7/\tn i s7.heap/\(∀b∈fp,H' b=none)/\W i m σ' H':=fun{σ7 H7}I7 n7=>by obtain⟨m',hm,w7⟩:=hN σ7 H7 n7;refine⟨m',hm,i+1,σ7,H7,I7.kO,T.keep _ _ _ st5 fun b hb o e=>(I7.pin (b,o) (mem_append_right _ (mem_append_right _ (iQ hb e)))).1,fun b hb=>?_,w7⟩;obtain⟨o,e,d⟩:=T.obj _ _ st5 b hb;exact(I7.pin (b,o) (mem_append_right _ (mem_append_right _ (iQ hb e)))).2.1
   cases f with|next=>obtain⟨σ7,H7,I7,n7⟩:=q7;exact again I7 n7|cont=>obtain⟨σ7,H7,I7,n7⟩:=q7;exact again I7 n7|brk=>obtain⟨σ7,H7,I7,q7⟩:=q7;exact⟨σ7,H7,I7.kO,q7⟩|ret v=>obtain⟨x7,σ7,H7,I7,r7,q7⟩:=q7;exact⟨x7,σ7,H7,I7.kO,r7,q7⟩
end
abbrev R2:=V->V->Hp->VK->Prop
def dU(X:Cx)(f:Value->Value->Sem Value)(r:R2):Prop:=∀(pins:List (Addr × Obj))(s:Shared)(σ:St)(H:Hp)(x y:V)(v u:Value)(Q:VK),Inv X pins σ H s->RelV x v->RelV y u->r x y H Q->wpAny (model X.prog X.w) X.A (f v u) (EP X pins σ Q) X.xe s
def UnR(X:Cx)(f:Value->Sem Value)(r:V->Hp->VK->Prop):Prop:=∀(pins:List (Addr × Obj))(s:Shared)(σ:St)(H:Hp)(x:V)(v:Value)(Q:VK),Inv X pins σ H s->RelV x v->r x H Q->wpAny (model X.prog X.w) X.A (f v) (EP X pins σ Q) X.xe s
def dN(X:Cx)(f:Value)(r:List V->Hp->VK->Prop):Prop:=∀(pins:List (Addr × Obj))(s:Shared)(σ:St)(H:Hp)(xs:List V)(us:List Value)(Q:VK),Inv X pins σ H s->Vals xs us->r xs H Q->wpAny (model X.prog X.w) X.A (call f us) (EP X pins σ Q) X.xe s
def NP(r:R2)(ta tb:TE):TE:=fun σ H Q=>ta σ H fun x H1=>tb σ H1 fun y H2=>r x y H2 Q
def tUn(r:V->Hp->VK->Prop)(ta:TE):TE:=fun σ H Q=>ta σ H fun x H1=>r x H1 Q
def rI(C:Int->Int->Prop)(g:Int->Int->V):R2:=fun x y H Q=>∃i j,x=.int i/\y=.int j/\C i j/\Q (g i j) H
def Gi(g:Int->Int->V):R2:=fun x y H Q=>∃i j,x=.int i/\y=.int j/\Q (g i j) H
def rU(g:Int->V):V->Hp->VK->Prop:=fun x H Q=>∃i,x=.int i/\Q (g i) H
section
variable{X:Cx}{a b c:Expr}{ta tb tc:TE}{pos:Pos}
theorem Pb(ha:PE X a ta)(hb:PE X b tb){pins:List (Addr×Obj)}{s:Shared}{σ:St}{H:Hp}{R:V->V->Hp->Prop}(I:Inv X pins σ H s)(h:ta σ H fun x H1=>tb σ H1 fun y H2=>R x y H2){Q:Value->Shared->Prop}{f:Value->Value->Sem Value}(hf:∀v u s2 x y H2,Inv X pins σ H2 s2->RelV x v->RelV y u->R x y H2->wpAny (model X.prog X.w) X.A (f v u) Q X.xe s2):wpAny (model X.prog X.w) X.A (eval a X.env) (fun v s₁=>wpAny (model X.prog X.w) X.A (eval b X.env) (fun u s₂=>wpAny (model X.prog X.w) X.A (f v u) Q X.xe s₂) X.xe s₁) X.xe s:=by refine cu (ha pins s σ H _ I h) fun v s1⟨x,H1,I1,r1,q1⟩=>?_;refine cu (hb pins s1 σ H1 _ I1 q1) fun u s2⟨y,H2,I2,r2,q2⟩=>?_;exact hf v u s2 x y H2 I2 r1 r2 q2
theorem VD{op:Operator}{r:R2}(ho:dU X (binaryOp op) r)(ha:PE X a ta)(hb:PE X b tb):PE X (.BinOp a op b pos) (NP r ta tb):=by intro pins s σ H Q I h;exact wpAny_BinOp (Pb ha hb I h fun v u s2 x y H2 I2 rx ry q=>ho pins s2 σ H2 x y v u Q I2 rx ry q)
theorem Lx{op:UnaryOp}{r:V->Hp->VK->Prop}(ho:UnR X (unaryOp op) r)(ha:PE X a ta):PE X (.UnaryOp op a pos) (tUn r ta):=by intro pins s σ H Q I h;exact UnaryOp_ (cu (ha pins s σ H _ I h) fun v s1⟨x,H1,I1,r1,q1⟩=>ho pins s1 σ H1 x v Q I1 r1 q1)
theorem Vu{f:Value->Value->Sem Value}{C:Int->Int->Prop}{g:Int->Int->Int}(rule:∀(i j:Int)(t u:Tok)(s:Shared)(Q:Value->Shared->Prop)(E:Value->Shared->Prop),C i j->Q (.int (g i j) s.toks) {s with toks:=s.toks+1}->wpAny (model X.prog X.w) X.A (f (.int i t) (.int j u)) Q E s):dU X f (rI C fun i j=>.int (g i j)):=by intro pins s σ H x y v u Q I rx ry h;obtain⟨i,j,rfl,rfl,hc,q⟩:=h;obtain⟨t,rfl⟩:=rx;obtain⟨t',rfl⟩:=ry;exact rule i j t t' s _ _ hc ⟨.int (g i j),H,I.tok _,⟨_,rfl⟩,q⟩
theorem Qa{f:Value->Value->Sem Value}{g:Int->Int->Int}(rule:∀(i j:Int)(t u:Tok)(s:Shared)(Q:Value->Shared->Prop)(E:Value->Shared->Prop),Q (.int (g i j) s.toks) {s with toks:=s.toks+1}->wpAny (model X.prog X.w) X.A (f (.int i t) (.int j u)) Q E s):dU X f (Gi fun i j=>.int (g i j)):=by intro pins s σ H x y v u Q I rx ry h;obtain⟨i,j,rfl,rfl,q⟩:=h;obtain⟨t,rfl⟩:=rx;obtain⟨t',rfl⟩:=ry;exact rule i j t t' s _ _ ⟨.int (g i j),H,I.tok _,⟨_,rfl⟩,q⟩
theorem J0{f:Value->Value->Sem Value}{g:Int->Int->Bool}(rule:∀(i j:Int)(t u:Tok)(s:Shared)(Q:Value->Shared->Prop)(E:Value->Shared->Prop),Q (.bool (g i j)) s->wpAny (model X.prog X.w) X.A (f (.int i t) (.int j u)) Q E s):dU X f (Gi fun i j=>.bl (g i j)):=by intro pins s σ H x y v u Q I rx ry h;obtain⟨i,j,rfl,rfl,q⟩:=h;obtain⟨t,rfl⟩:=rx;obtain⟨t',rfl⟩:=ry;exact rule i j t t' s _ _ ⟨.bl (g i j),H,I,rfl,q⟩
def Uu(i j:Int):Prop:=0<=j/\j<=1000000/\i.natAbs<2^64
def QV(i j:Int):Prop:=(-(2^64)<i/\i<2^64)\/(-(2^64)<j/\j<2^64)
theorem QV.ok{i j:Int}(h:QV i j):IntMulOk i j:=by
 rcases h with⟨h1,h2⟩|⟨h1,h2⟩;.exact .of_left (intBits_le_64 h1 h2)
 .exact .of_right (intBits_le_64 h1 h2)
theorem yc(k:Nat):(0:Int)<=2^k:=by rw[two_pow_cast];exact Int.natCast_nonneg _
theorem O8:dU X (binaryOp .Add) (Gi fun i j=>.int (i+j)):=Qa fun _ _ _ _ _ _ _ q=>add_int q
theorem Qe:dU X (binaryOp .Sub) (Gi fun i j=>.int (i-j)):=Qa fun _ _ _ _ _ _ _ q=>sub_int q
theorem PJ:dU X (binaryOp .Mult) (rI QV fun i j=>.int (i*j)):=Vu fun _ _ _ _ _ _ _ hc q=>mul_int q hc.ok
theorem PK:dU X (binaryOp .Mod) (rI (fun _ j=>0<j) fun i j=>.int (i%j)):=Vu fun i j _ _ _ _ _ hc q=>by have h1:(0:Int)<j:=hc;exact mod_int' (by omega) (by rw[Int.fmod_eq_emod_of_nonneg i (by omega)];exact q)
theorem Rg:dU X (binaryOp .Pow) (rI Uu fun i j=>.int (i^j.toNat)):=Vu fun _ _ _ _ _ _ _ hc q=>pow_int_small hc.1 hc.2.1 hc.2.2 q
theorem QJ:dU X (binaryOp .LShift) (rI Uu fun i j=>.int (i*2^j.toNat)):=Vu fun _ _ _ _ _ _ _ hc q=>lshift_int_small hc.1 hc.2.1 hc.2.2 q
theorem PQ:dU X (binaryOp .RShift) (rI (fun _ j=>0<=j) fun i j=>.int (i/2^j.toNat)):=Vu fun i j _ _ _ _ _ hc q=>rshift_int hc (by rw[Int.fdiv_eq_ediv_of_nonneg i (yc _)];exact q)
theorem Qf:dU X (binaryOp .BitAnd) (Gi fun i j=>.int (Builtin.bitAnd i j)):=Qa fun _ _ _ _ _ _ _ q=>and_int q
theorem unI{f:Value->Sem Value}{g:Int->Int}(rule:∀(i:Int)(t:Tok)(s:Shared)(Q:Value->Shared->Prop)(E:Value->Shared->Prop),Q (.int (g i) s.toks) {s with toks:=s.toks+1}->wpAny (model X.prog X.w) X.A (f (.int i t)) Q E s):UnR X f (rU fun i=>.int (g i)):=by intro pins s σ H x v Q I rx h;obtain⟨i,rfl,q⟩:=h;obtain⟨t,rfl⟩:=rx;exact rule i t s _ _ ⟨.int (g i),H,I.tok _,⟨_,rfl⟩,q⟩
theorem Ef:UnR X (unaryOp .USub) (rU fun i=>.int (-i)):=unI fun _ _ _ _ _ q=>neg_int q
end
section
variable{X:Cx}{a b c:Expr}{ta tb tc:TE}{pos:Pos}
theorem Np{pins:List (Addr×Obj)}{σ:St}{H:Hp}{s:Shared}{Q:VK}{k k':Bool}(I:Inv X pins σ H s)(q:Q (.bl k) H)(e:k=k'):EP X pins σ Q (.bool k') s:=by subst e;exact⟨.bl k,H,I,rfl,q⟩
theorem Vn:dU X (compareOp .Lt) (Gi fun i j=>.bl (decide (i<j))):=J0 fun _ _ _ _ _ _ _ q=>lt_int q
theorem We:dU X (compareOp .LtE) (Gi fun i j=>.bl (decide (i<=j))):=J0 fun _ _ _ _ _ _ _ q=>le_int q
theorem Wo:dU X (compareOp .Gt) (Gi fun i j=>.bl (decide (j<i))):=J0 fun _ _ _ _ _ _ _ q=>gt_int q
theorem Vd:dU X (compareOp .GtE) (Gi fun i j=>.bl (decide (j<=i))):=J0 fun _ _ _ _ _ _ _ q=>ge_int q
theorem JC:dU X (compareOp .IsNot) (fun x y H Q=>y=.non/\Q (.bl (!decide (x=.non))) H):=by intro pins s σ H x y v u Q I rx ry h;obtain⟨rfl,q⟩:=h;cases ry;refine isnot_none_gen (Np I q ?_);cases x<;>first|(cases rx;rfl)|(obtain⟨t,rfl⟩:=rx;rfl)
theorem aM(b:Expr){op:CmpOp}(h:op≠.In:=by decide)(h2:op≠.NotIn:=by decide):behindInMarks op b=false:=by
 have e1:(op==CmpOp.In)=false:=by cases op<;>first|rfl|exact absurd rfl h
 have e2:(op==CmpOp.NotIn)=false:=by cases op<;>first|rfl|exact absurd rfl h2
 cases b<;>simp[behindInMarks,e1,e2]
theorem Js{op:CmpOp}{r:R2}(ho:dU X (compareOp op) r)(ha:PE X a ta)(hb:PE X b tb)(hm:behindInMarks op b=false):PE X (.Compare a [op] [b] pos) (NP r ta tb):=by intro pins s σ H Q I h;exact wpAny_Compare1 (Pb ha hb I h fun v u s2 x y H2 I2 rx ry q=>ho pins s2 σ H2 x y v u Q I2 rx ry q) hm
def Ul(t:TE):TT:=fun σ H Q=>t σ H fun x H'=>∃k,x=.bl k/\Q k H'
theorem zr{op:CmpOp}{r:R2}(ho:dU X (compareOp op) r)(ha:PE X a ta)(hb:PE X b tb)(hm:behindInMarks op b=false):PT X (.Compare a [op] [b] pos) (Ul (NP r ta tb)):=by intro pins s σ H Q I h;refine wpAny_isTrue_Compare1 (cu (ha pins s σ H _ I h) fun v s1⟨x,H1,I1,r1,q1⟩=>cu (hb pins s1 σ H1 _ I1 q1) fun u s2⟨y,H2,I2,r2,q2⟩=>cu (ho pins s2 σ H2 x y v u _ I2 r1 r2 q2) fun c s3⟨z,H3,I3,r3,k,e,q3⟩=>?_) hm;subst e;cases r3;exact wpAny_truthy_bool ⟨H3,I3,q3⟩
def Ob(r r':R2)(ta tb tc:TE):TE:=fun σ H Q=>ta σ H fun x H1=>tb σ H1 fun y H2=>r x y H2 fun z H3=>∃k,z=.bl k/\(if k=true then tc σ H3 fun w' H4=>r' y w' H4 Q else Q (.bl false) H3)
theorem Hf{op op':CmpOp}{r r':R2}(ho:dU X (compareOp op) r)(ho':dU X (compareOp op') r')(ha:PE X a ta)(hb:PE X b tb)(hc:PE X c tc)(hm:lastMarks [op,op'] [b,c]=false:=by with_unfolding_all rfl):PE X (.Compare a [op,op'] [b,c] pos) (Ob r r' ta tb tc):=by intro pins s σ H Q I h;refine Compare_chain (cu (ha pins s σ H _ I h) fun v s1⟨x,H1,I1,r1,q1⟩=>chain_link (cu (hb pins s1 σ H1 _ I1 q1) fun u s2⟨y,H2,I2,r2,q2⟩=>cu (ho pins s2 σ H2 x y v u _ I2 r1 r2 q2) fun d s3⟨z,H3,I3,r3,k,e,q3⟩=>?_)) hm;subst e;cases r3;refine wpAny_truthy_bool ?_;cases k with|false=>exact ite_ff ⟨.bl false,H3,I3,rfl,q3⟩|true=>exact ite_tt (chain_last (cu (hc pins s3 σ H3 _ I3 q3) fun w' s4⟨z',H4,I4,r4,q4⟩=>ho' pins s4 σ H4 y z' u w' Q I4 r2 r4 q4))
theorem qG:(sizeLine:Nat)<2^63:=by rw[sizeLine_eq];decide
theorem xX:dU X (binaryOp .Add) (fun x y H Q=>∃i j,x=.str i/\y=.str j/\i.length+j.length<=sizeLine/\Q (.str (i++j)) H):=by intro pins s σ H x y v u Q I rx ry h;obtain⟨i,j,rfl,rfl,hz,q⟩:=h;obtain⟨t,rfl⟩:=rx;obtain⟨t',rfl⟩:=ry;exact add_str (fun t' tk=>⟨.str (i++j),H,I.tok _,⟨_,rfl⟩,q⟩) hz
theorem vals1{x:V}{us:List Value}(r:Vals [x] us):∃u,us=[u]/\RelV x u:=by cases r with|cons r1 r2=>cases r2;exact⟨_,rfl,r1⟩
theorem vals2{x y:V}{us:List Value}(r:Vals [x,y] us):∃u w',us=[u,w']/\RelV x u/\RelV y w':=by cases r with|cons r1 r2=>cases r2 with|cons r3 r4=>cases r4;exact⟨_,_,rfl,r1,r3⟩
theorem Cd(hc:X.calm=true):dN X (.builtin "max") (fun xs H Q=>∃i j,xs=[.int i,.int j]/\Q (.int (if j>i then j else i)) H):=by
 intro pins s σ H xs us Q I r h;obtain⟨i,j,rfl,q⟩:=h;obtain⟨u,w',rfl,⟨t,rfl⟩,⟨t',rfl⟩⟩:=vals2 r;refine max_two_ints (I.ok.hd hc) fun h' tk k=>⟨_,H,I.kept k,?_,q⟩;by_cases hj:j>i;.rw[if_pos hj,if_pos hj];exact⟨_,rfl⟩
 .rw[if_neg hj,if_neg hj];exact⟨_,rfl⟩
end
theorem qM.some_of{v:V}{o:Option Value}(r:qM (some v) o):∃u,o=some u/\RelV v u:=by cases o with|none=>exact(show False from r).elim|some u=>exact⟨u,rfl,r⟩
structure jr(k:Nat)(A:Around):Prop where
 hd:A.handled=none
 dp:A.depth+3*k+5<recursionLimit
 un:A.units+16*k+200<cLine
theorem jr.deeper{k:Nat}{A:Around}(r:jr (k+1) A)(env:Env):jr k (A.deeper env):=⟨r.hd,by have:=r.dp;show A.depth+1+3*k+5<_;omega,by have:=r.un;show A.units+3+16*k+200<_;omega⟩
theorem jr.depth{k:Nat}{A:Around}(r:jr k A):A.depth<recursionLimit:=by have:=r.dp;omega
def aa9:TA:=fun _ H Q=>Q [] H
def Vh(ta:TE)(tr:TA):TA:=fun σ H Q=>ta σ H fun x H1=>tr σ H1 fun xs H2=>Q (x::xs) H2
section
variable{X:Cx}{e:Expr}{es:List Expr}{te:TE}{t:TA}{pos:Pos}
theorem dR:PA X [] aa9:=fun _ _ _ _ H Q I h=>Calls.spliced_nil ⟨[],H,I,.nil,h⟩
theorem cg(ha:PE X e te)(hr:PA X es t)(hs:starEach (e::es) X.env=(false,eval e X.env)::starEach es X.env:=by rfl):PA X (e::es) (Vh te t):=by intro pos pins s σ H Q I h;rw[hs];show wpAny _ _ (spliced ((false,eval e X.env)::backTo pos (starEach es X.env))) _ _ s;refine Calls.spliced_cons (cu (ha pins s σ H _ I h) fun u s1⟨x,H1,I1,r1,q1⟩=>?_);exact cu (hr pos pins s1 σ H1 _ I1 q1) fun us s2⟨xs,H2,I2,r2,q2⟩=>⟨x::xs,H2,I2,.cons r1 r2,q2⟩
def aaJ(t:TA):TE:=fun σ H Q=>t σ H fun xs H1=>xs.length<=sizeLine/\∀p,H1 p=none->Q (.ref p) (upd H1 p (.tup xs))
def Z3(t:TA):TE:=fun σ H Q=>t σ H fun xs H1=>xs.length<=sizeLine/\∀p,H1 p=none->Q (.ref p) (upd H1 p (.lst xs))
theorem Qz{x1}(h:PA X es t):PE X (.Tuple es x1 pos) (aaJ t):=by intro pins s σ H Q I hq;refine wpAny_Tuple_spliced (cu (h pos pins s σ H _ I hq) fun us s1⟨xs,H1,I1,r,z,q⟩=>⟨by rw[<-r.length];exact z,?_⟩);have hf:H1 s1.heap.objs.size=none:=I1.hok.fresh (le_refl _);refine⟨.ref s1.heap.objs.size,upd H1 s1.heap.objs.size (.tup xs),I1.laid (t':=s1.toks) (fun b u e=>get?_push_of_some _ e) (le_refl _) ?_,rfl,q _ hf⟩;exact⟨z,us,r,⟨_,get?_push_size _ rfl,rfl,_,rfl⟩⟩
theorem Pk(h:PA X es t):PE X (.List es pos) (Z3 t):=by intro pins s σ H Q I hq;refine wpAny_List_spliced (cu (h pos pins s σ H _ I hq) fun us s1⟨xs,H1,I1,r,z,q⟩=>⟨by rw[<-r.length];exact z,?_⟩);have hf:H1 s1.heap.objs.size=none:=I1.hok.fresh (le_refl _);refine⟨.ref s1.heap.objs.size,upd H1 s1.heap.objs.size (.lst xs),I1.laid (t':=s1.toks) (fun b u e=>get?_push_of_some _ e) (le_refl _) ?_,rfl,q _ hf⟩;exact⟨z,us,0,r,get?_push_size _ rfl⟩
end
abbrev Sp:=List V->Hp->VK->XK->Prop
abbrev Ex:=List Env->Hp->Shared->XK->Value->Shared->Prop
structure J7(P:Program)(w:World)(K:PySem.W.Frag)(mg:Str->Option Value)(base:Heap)(A:Around)(outer:List Env)(s:Shared)(H:Hp):Prop where
 frames:A.frames=some outer
 mod:Mod K mg base
 bs:∀b o,base.get? b=some o->s.heap.get? b=some o/\H b=none
 MN:base.objs.size<=s.heap.objs.size
 qg:s.heap.FunFrames base outer
 T3:∀b∈frs outer,H b=none
 hok:lZ P w H s.heap
 bare:AllBare s.gens
def CE(outer:List Env)(P:Program)(w:World)(H:Hp)(s:Shared)(Q:VK)(u:Value)(s':Shared):Prop:=∃v H',s'.os=s.os/\AllBare s'.gens/\Un (frs outer) [] H H' s.heap s'.heap/\lZ P w H' s'.heap/\RelV v u/\Q v H'
def CR(CX:Ex)(outer:List Env)(P:Program)(w:World)(H:Hp)(s:Shared)(Q:VK)(E:XK)(r:Result)(s':Shared):Prop:=match r with|.ok (.ret u)=>CE outer P w H s Q u s'|.ok _=>False|.error e=>CX outer H s E e s'
structure bV(P:Program)(w:World)(K:PySem.W.Frag)(mg:Str->Option Value)(base:Heap)(CX:Ex)(k:Nat)(f:Addr)(fd:FuncData)(ps:List Str)(sp:Sp):Prop where
 len:∀vs H Q E,sp vs H Q E->vs.length=ps.length
 run:∀(A:Around)(outer:List Env)(s:Shared)(H:Hp)(args:Args)(us:List Value)(vs:List V)(Q:VK)(E:XK),jr k A->J7 P w K mg base A outer s H->BindsTo s fd args (ps.zip us)->Vals vs us->sp vs H Q E->codeAny (model P w) A (.call (.ref f) args) (CR CX outer P w H s Q E) s
section
variable{X:Cx}{pins:List (Addr×Obj)}{σ:St}{H:Hp}{s s':Shared}
theorem Inv.env0(I:Inv X pins σ H s):J7 X.prog X.w X.K X.mg X.base X.A X.stack s H:=⟨I.ok.frames,I.ok.mod,I.bs,le_trans I.ok.MN I.sz,I.stack,I.zP,I.hok,I.bare⟩
theorem Inv.after{Q:VK}{u:Value}(I:Inv X pins σ H s)(h:CE X.stack X.prog X.w H s Q u s'):EP X pins σ Q u s':=by obtain⟨v,H',os,bare,un,hok,r,q⟩:=h;obtain⟨hh,g,d,t,os'⟩:=s';obtain rfl:os'=s.os:=os;exact⟨v,H',I.call (h':=hh) (g':=g) (d':=d) (t':=t) (ch:=[]) un hok bare (fun b z=>absurd z (by simp)),r,q⟩
end
def Wl(sp:Sp)(MT:List V)(E:XK)(t:TA):TE:=fun σ H Q=>t σ H fun vs H1=>sp (vs++MT) H1 Q E
def Binds(K:PySem.W.Frag)(fd:FuncData)(ps:List Str)(ds:List Value):Prop:=∀(s:Shared)(us:List Value),K.In s.heap->(us++ds).length=ps.length->BindsTo s fd ⟨us,[]⟩ (ps.zip (us++ds))
theorem Binds.all{K:PySem.W.Frag}{fd:FuncData}{ps:List Str}(h:∀us:List Value,us.length=ps.length->bindArgs fd ⟨us,[]⟩=pure (ps.zip us)):Binds K fd ps []:=fun s us _ hl=>by rw[append_nil]at hl ⊢;exact .of_eq (h us hl)
def Passes(CX:Ex)(X:Cx)(E:XK):Prop:=∀(pins:List (Addr×Obj))(σ:St)(H:Hp)(s:Shared)(e:Value)(s':Shared),Inv X pins σ H s->CX X.stack H s E e s'->X.xe e s'
section
variable{X:Cx}{CX:Ex}{k:Nat}{f C:Addr}{fd:FuncData}{ps:List Str}{sp:Sp}{MT:List V}{ds:List Value}{E:XK}{x m:Str}{p pos apos:Pos}{e o:Expr}{es:List Expr}{ta:TE}{t:TA}
theorem Og{pins:List (Addr×Obj)}{σ:St}{H:Hp}{s:Shared}{Q:VK}{us:List Value}{vs:List V}(F:bV X.prog X.w X.K X.mg X.base CX k f fd ps sp)(hr:jr k X.A)(hb:Binds X.K fd ps ds)(hd:Vals MT ds)(hx:Passes CX X E)(I:Inv X pins σ H s)(r:Vals vs us)(h:sp (vs++MT) H Q E):wpAny (model X.prog X.w) X.A (call (.ref f) us) (EP X pins σ Q) X.xe s:=by
 have r2:Vals (vs++MT) (us++ds):=r.append hd;have hl:(us++ds).length=ps.length:=by rw[<-r2.length];exact F.len _ _ _ _ h
 refine wpAny_call (codeAny_mono (F.run X.A X.stack s H ⟨us,[]⟩ (us++ds) (vs++MT) Q E hr I.env0 (hb s us I.Q7 hl) r2 h) fun r s' hq=>?_);cases r with|error e=>exact hx pins σ H s e s' I hq|ok fl=>cases fl with|ret u=>exact I.after hq|next=>exact False.elim hq|brk=>exact False.elim hq|cont=>exact False.elim hq
theorem Jz(F:bV X.prog X.w X.K X.mg X.base CX k f fd ps sp)(hr:jr k X.A)(hg:Gl X x)(hm:X.mg x=some (.ref f))(hk:keepIn X.K (.ref f)=true)(hb:Binds X.K fd ps ds)(hd:Vals MT ds)(hx:Passes CX X E)(ha:PA X (e::es) t)(hdb:(x==("__debug__":Str))=false:=by decide)(he:starEach (e::es) X.env=(false,eval e X.env)::starEach es X.env:=by rfl)(hpl:(backTo pos (starEach es X.env)).any (·.1)=false:=by rfl):PE X (.Call (.Name x p) (e::es) [] pos) (Wl sp MT E t):=by intro pins s σ H Q I h;refine wpAny_Call_Name_kw (Im I hg hm ?_ hdb);refine PySem.W.callWith_K (h₀:=X.base) I.ok.mod.uR hk (cu (ha pos pins s σ H _ I h) fun us s1⟨vs,H1,I1,r,q⟩=>⟨I1.Q7,?_⟩) he hpl;exact Og F hr hb hd hx I1 r q
end
structure aN(N P:List Str)(sc:Scope):Prop where
 kind:sc.kind=.function
 co:sc.isCoroutine=false
 gen:sc.isGenerator=false
 nd:N.Nodup
 pre:N.take P.length=P
 par:∀x∈P,sc.names.lookup x=some .local\/sc.names.lookup x=some .cell
 Ru:∀y∈sc.names,y.2≠.free
theorem rR{kindOf:Str->Option NameKind}{x:Str}:∀{binds:List (Str×Value)}{m:Str->Option Value},(∀v,(x,v)∉binds)->bindL kindOf binds m x=m x
 |[],_,_=>rfl|(n,v)::r,m,h=>by
   unfold bindL;rw[rR fun w hw=>h w (mem_cons_of_mem _ hw)];split
   . have:x≠n:=by rintro rfl;exact h v mem_cons_self
     simp[this]
   .rfl
theorem sy{kindOf:Str->Option NameKind}{x:Str}:∀{binds:List (Str×Value)}{m:Str->Option Value},(∀v,(x,v)∉binds)->bindC kindOf binds m x=m x
 |[],_,_=>rfl|(n,v)::r,m,h=>by
   unfold bindC;rw[sy fun w hw=>h w (mem_cons_of_mem _ hw)];split;.rfl
   . have:x≠n:=by rintro rfl;exact h v mem_cons_self
     simp[this]
theorem sE{kindOf:Str->Option NameKind}{x:Str}{v:Value}:∀{P:List Str}{vs:List Value}{i:Nat}{m:Str->Option Value},P.Nodup->P[i]?=some x->vs[i]?=some v->kindOf x=some .local->bindL kindOf (P.zip vs) m x=some v|[],_,_,_,_,h,_,_=>by simp at h|_::_,[],_,_,_,_,h,_=>by simp at h|p::P,w::vs,0,m,nd,h1,h2,hk=>by simp at h1 h2;subst h1;subst h2;show bindL kindOf ((p,w)::P.zip vs) m p=_;unfold bindL;rw[rR fun v hv=>(nodup_cons.mp nd).1 (of_mem_zip hv).1,if_pos hk];simp|p::P,w::vs,i+1,m,nd,h1,h2,hk=>by show bindL kindOf ((p,w)::P.zip vs) m x=_;unfold bindL;exact sE (i:=i) (nodup_cons.mp nd).2 (by simpa using h1) (by simpa using h2) hk
theorem rF{kindOf:Str->Option NameKind}{x:Str}{v:Value}:∀{P:List Str}{vs:List Value}{i:Nat}{m:Str->Option Value},P.Nodup->P[i]?=some x->vs[i]?=some v->kindOf x≠some .local->bindC kindOf (P.zip vs) m x=some v|[],_,_,_,_,h,_,_=>by simp at h|_::_,[],_,_,_,_,h,_=>by simp at h|p::P,w::vs,0,m,nd,h1,h2,hk=>by simp at h1 h2;subst h1;subst h2;show bindC kindOf ((p,w)::P.zip vs) m p=_;unfold bindC;rw[sy fun v hv=>(nodup_cons.mp nd).1 (of_mem_zip hv).1,if_neg hk];simp|p::P,w::vs,i+1,m,nd,h1,h2,hk=>by show bindC kindOf ((p,w)::P.zip vs) m x=_;unfold bindC;exact rF (i:=i) (nodup_cons.mp nd).2 (by simpa using h1) (by simpa using h2) hk
noncomputable def start(N:List Str)(vs:List V):St:=vs.map some++replicate (N.length-vs.length) none
noncomputable def yp(CX:Ex)(P:Program)(w:World)(K:PySem.W.Frag)(mg:Str->Option Value)(base:Heap)(N:List Str)(qual:Str)(scope:Scope)(f:Addr)(cd:Value)(A:Around)(outer:List Env)(s:Shared)(H:Hp)(E:XK):Cx where prog:=P;w:=w;K:=K;mg:=mg;base:=base;A:=A.deeper (envOfC qual scope s.heap.objs.size f cd);N:=N;s₀:=s;H₀:=H;env:=envOfC qual scope s.heap.objs.size f cd;outer:=outer;stack:=envOfC qual scope s.heap.objs.size f cd::outer;ex:=[];calm:=true;fn:=fun _=>true;pn:=[];xe:=fun e s'=>wpAny (model P w) (A.deeper (envOfC qual scope s.heap.objs.size f cd)) (leaving (envOfC qual scope s.heap.objs.size f cd) e) (fun _ s''=>CX outer H s E e s'') (fun e' s''=>CX outer H s E e' s'') s'
theorem vB{sc:Scope}{n:Nat}{x:Str}(h:sc.names.lookup x=some .cell):∃c,(cellsFrom n sc.names []).lookup x=some c:=by have q:=PySem.W.cellsFrom_some sc.names n [] (.inl h);exact Option.isSome_iff_exists.mp q
theorem BW{CX:Ex}{P:Program}{w:World}{K:PySem.W.Frag}{mg:Str->Option Value}{base:Heap}{N ps:List Str}{qual:Str}{scope:Scope}{f:Addr}{cd:Value}{A:Around}{outer:List Env}{s s1:Shared}{H:Hp}{E:XK}{us:List Value}{vs:List V}(S:aN N ps scope)(hd:A.handled=none)(e0:J7 P w K mg base A outer s H)(hl:vs.length=ps.length)(r:Vals vs us)(x:InCallC s s.heap.objs.size (bindL (envOfC qual scope s.heap.objs.size f cd).kindOf (ps.zip us) fun _=>none) (cellsFrom (s.heap.objs.size+1) scope.names []) (bindC (envOfC qual scope s.heap.objs.size f cd).kindOf (ps.zip us) fun _=>none) s1):Inv (yp CX P w K mg base N qual scope f cd A outer s H E) [] (start N vs) H s1:=by
 have hpl:ps.length<=N.length:=by have:=congrArg List.length S.pre;rw[length_take]at this;omega
 obtain⟨h1,tk,rfl,hk⟩:=x.done;have WR:∀b:Addr,b∉(yp CX P w K mg base N qual scope f cd A outer s H E).ex:=fun b z=>absurd (show b∈([]:List Addr)from z) (by simp);refine⟨⟨e0.mod,S.kind,rfl,rfl,le_refl _,fun y z c h1 h2=>?_,fun y hy=>?_,fun y c _ h=>?_,fun _=>hd,Around.frames_deeper e0.frames,.inr ⟨rfl,rfl⟩,fun b z=>absurd z (WR b),e0.bs,e0.MN,fun b _ _=>WR b,fun b z=>absurd z (WR b),e0.qg,e0.T3⟩,rfl,e0.bare,Un.kept hk,⟨_,x.toInCall.ns,fun i y v h1 h2 h3=>?_⟩,fun y c h=>⟨_,x.cell y c h⟩,e0.hok.fresh (le_refl _),fun y c h=>?_,fun p hp=>absurd (show p∈([]:List (Addr×Obj))from hp) (by simp),e0.hok.kept hk,?_⟩;.exact name_of_addr x.apart (PySem.mem_of_lookup h1) (PySem.mem_of_lookup h2)
 . have hy:scope.names.lookup y=some .cell\/scope.names.lookup y=some .free:=hy;rcases hy with hy|hy;.exact vB hy
   .exact absurd rfl (S.Ru _ (PySem.mem_of_lookup hy))
 .exact le_of_lt (x.above y c (PySem.mem_of_lookup h))
 . have hi:i<vs.length:=by
    unfold start at h2;by_cases hi:i<vs.length;.exact hi
    .rw[getElem?_append_right (by simpa using hi)]at h2;rw[getElem?_replicate]at h2;split at h2<;>cases h2
   have ha:vs[i]?=some v:=by unfold start at h2;rw[getElem?_append_left (by simpa using hi),getElem?_map]at h2;cases e:vs[i]?with|none=>rw[e]at h2;cases h2|some a=>rw[e]at h2;cases h2;rfl
   obtain⟨u,hu,rv⟩:=r.get ha;have hp:ps[i]?=some y:=by rw[<-S.pre,List.getElem?_take_of_lt (by omega)];exact h1
   have ndP:ps.Nodup:=by rw[<-S.pre];exact S.nd.sublist (List.take_sublist _ _)
   refine⟨u,rv,?_⟩;rcases S.par y (mem_of_getElem? hp)with k|k;.exact .inl ⟨k,sE ndP hp hu k⟩
   .obtain⟨c,e⟩:=vB (n:=s.heap.objs.size+1) k;refine .inr ⟨.inl k,c,e,?_⟩;have q:=x.cell y c e;rw[rF ndP hp hu (by show scope.names.lookup y≠_;rw[k];decide)]at q;exact q
 .exact e0.hok.fresh (le_of_lt (x.above y c (PySem.mem_of_lookup h)))
 .unfold start;show _=N.length;rw[length_append,length_map,List.length_replicate];omega
theorem Vl{CX:Ex}{P:Program}{w:World}{K:PySem.W.Frag}{mg:Str->Option Value}{base:Heap}{k:Nat}{f:Addr}{name qual:Str}{params:Arguments}{body:List Stmt}{scope:Scope}{dV kV doc pm cdv ct oc:Value}{an od:Option Addr}{osl:Array (Option Value)}{N ps:List Str}{sp:Sp}(lk:K.lookup f=some ⟨oc,od,.func (PySem.W.fnOf name qual params body scope dV kV doc pm an cdv ct),osl⟩)(hcd:PySem.W.codeIn K cdv qual=true)(S:aN N ps scope)(len:∀vs H Q E,sp vs H Q E->vs.length=ps.length)(hbody:∀(A:Around)(outer:List Env)(s:Shared)(H:Hp)(vs:List V)(Q:VK)(E:XK),jr k (A.deeper (envOfC qual scope s.heap.objs.size f cdv))->sp vs H Q E->∃t,v5 (yp CX P w K mg base N qual scope f cdv A outer s H E) body t/\t {nx:=fun _ H'=>Q .non H',rt:=Q} (start N vs) H):bV P w K mg base CX (k+1) f (PySem.W.fnOf name qual params body scope dV kV doc pm an cdv ct) ps sp:=by
 refine⟨len,fun A outer s H args us vs Q E hr e0 hb r hsp=>?_⟩;have hl:=len _ _ _ _ hsp;have KX:K.In s.heap:=e0.mod.uR.keeps fun b o e=>(e0.bs b o e).1;have lim:s.heap.NoLimit:=e0.mod.nolimit.keeps fun b o e=>(e0.bs b o e).1;have hkind:∀y∈ps.zip us,scope.names.lookup y.1=some .local\/(scope.names.lookup y.1=some .cell/\((cellsFrom (s.heap.objs.size+1) scope.names []).lookup y.1).isSome=true):=fun⟨n,v⟩hy=>by
  rcases S.par n (of_mem_zip hy).1 with q|q;.exact .inl q
  .exact .inr ⟨q,PySem.W.cellsFrom_some _ _ _ (.inl q)⟩
 refine codeAny_call_function hr.depth (KX _ _ lk) rfl S.co S.gen rfl (PySem.W.codeRec_of KX hcd) (hb _ _ _ _ ?_);refine wpAny_newFunctionEnv_cells S.kind hkind fun env he s1 x=>?_;subst he;refine⟨lim.keeps x.toInCall.keep,codeAny_func ?_⟩;obtain⟨t,ht,hq⟩:=hbody A outer s H vs Q E (hr.deeper _) hsp;have I:Inv (yp CX P w K mg base N qual scope f cdv A outer s H E) [] (start N vs) H s1:=BW S hr.hd e0 hl r x;refine wpAny_mono (ht [] s1 (start N vs) H _ I hq) (fun fl s' hs=>?_) fun e s' hs=>hs;have fin:∀{σ':St}{H':Hp}{v:V}{u:Value},Inv (yp CX P w K mg base N qual scope f cdv A outer s H E) [] σ' H' s'->RelV v u->Q v H'->CE outer P w H s Q u s':=fun{σ' H' v u}J rv q=>⟨v,H',J.os,J.bare,J.base,J.hok,rv,q⟩;cases fl with|ret u=>obtain⟨v,σ',H',J,rv,q⟩:=hs;exact fin J rv q|next=>obtain⟨σ',H',J,q⟩:=hs;exact fin (v:=V.non) (u:=Value.none) J rfl q|brk=>obtain⟨_,_,_,q⟩:=hs;exact False.elim q|cont=>obtain⟨_,_,_,q⟩:=hs;exact False.elim q
section
variable{X:Cx}{x:Str}{p pos:Pos}{e:Expr}{es:List Expr}{t:TA}{id T:String}{r:List V->Hp->VK->Prop}
def YX(r:List V->Hp->VK->Prop)(t:TA):TE:=fun σ H Q=>t σ H fun vs H1=>r vs H1 Q
theorem eX(hc:dN X (.builtin id) r)(hg:Gl X x)(hm:X.mg x=none)(hv:bootBuiltins x=some (.builtin id))(ha:PA X (e::es) t)(hn:x≠"__name__":=by decide)(hdb:(x==("__debug__":Str))=false:=by decide)(he:starEach (e::es) X.env=(false,eval e X.env)::starEach es X.env:=by rfl)(hpl:(backTo pos (starEach es X.env)).any (·.1)=false:=by rfl):PE X (.Call (.Name x p) (e::es) [] pos) (YX r t):=by intro pins s σ H Q I h;refine wpAny_Call_Name_kw (iK I hg hm hv ?_ hn hdb);exact PyProof.Rows.callWith_builtin1 (cu (ha pos pins s σ H _ I h) fun us s1⟨vs,H1,I1,r1,q1⟩=>hc pins s1 σ H1 vs us Q I1 r1 q1) he hpl
theorem jK(hc:dN X (.type T) r)(hg:Gl X x)(hm:X.mg x=none)(hv:bootBuiltins x=some (.type T))(ha:PA X (e::es) t)(hn:x≠"__name__":=by decide)(hdb:(x==("__debug__":Str))=false:=by decide)(he:starEach (e::es) X.env=(false,eval e X.env)::starEach es X.env:=by rfl)(hpl:(backTo pos (starEach es X.env)).any (·.1)=false:=by rfl):PE X (.Call (.Name x p) (e::es) [] pos) (YX r t):=by intro pins s σ H Q I h;refine wpAny_Call_Name_kw (iK I hg hm hv ?_ hn hdb);exact PyProof.Rows.callWith_type1 (cu (ha pos pins s σ H _ I h) fun us s1⟨vs,H1,I1,r1,q1⟩=>hc pins s1 σ H1 vs us Q I1 r1 q1) he hpl
end
end L2
namespace HT
open PySem PyProof.Rows
section
variable{prog:Program}{w:World}{A:Around}{E:Value->Shared->Prop}{s:Shared}
theorem Jd{t b:Addr}{vs ws:List Value}{Q:Value->Shared->Prop}(ht:IsTup s.heap t vs.toArray)(hb:IsTup s.heap b ws.toArray)(hv:vs≠[])(h1:ws=[]->Q (.ref t) s)(h2:ws≠[]->Q (.ref s.heap.objs.size) {s with heap:=s.heap.push {cls:=.type "tuple",data:=.seq (vs++ws).toArray}})(hsz:vs.length+ws.length<=sizeLine):wpAny (model prog w) A (binaryOp .Add (.ref t) (.ref b)) Q E s:=by
 obtain⟨⟨cls,dd,data,sl⟩,ho,hc,n,hd⟩:=id ht;obtain⟨⟨cls2,dd2,data2,sl2⟩,ho2,hc2,n2,hd2⟩:=id hb;simp only at hc hd hc2 hd2;subst hc hd hc2 hd2;have e:vs.toArray++ws.toArray=(vs++ws).toArray:=by simp
 by_cases hw:ws=[];.exact concat_meets ⟨_,ho,rfl⟩ ⟨_,ho2,rfl⟩ noFill_tuple_add seq_tuple_add slot_tuple_add entry_tuple_add (args_tuple_add_2 _ _) (tuple_addW1 t b vs.toArray ws.toArray n n2 dd dd2 sl sl2 (by simpa using hv) (by simp[hw])) ⟨ho,ho2,h1 hw⟩
 .refine concat_meets ⟨_,ho,rfl⟩ ⟨_,ho2,rfl⟩ noFill_tuple_add seq_tuple_add slot_tuple_add entry_tuple_add (args_tuple_add_2 _ _) (tuple_addW2 t b vs.toArray ws.toArray n n2 dd dd2 sl sl2 (by simpa using hv) (by simpa using hw) (by rw[size_toArray,size_toArray];exact hsz)) ⟨ho,ho2,?_⟩;rw[e];exact h2 hw
noncomputable def cV(n d:Nat):Option Int->Nat|none=>d|some v=>if v<0 then(v+(n:Int)).toNat else min v.toNat n
theorem Pq(n d:Nat)(hd:d<=n)(o:Option Int):cV n d o<=n:=by cases o with|none=>exact hd|some v=>
   show(if v<0 then(v+(n:Int)).toNat else min v.toNat n)<=n;by_cases hv:v<0;.rw[if_pos hv];omega
   .rw[if_neg hv];exact Nat.min_le_right _ _
theorem zZ(v:Int)(n d:Nat):(if v<0 then max (v+(n:Int)) 0 else min v (n:Int))=((cV n d (some v):Nat):Int):=by
 show(if v<0 then max (v+(n:Int)) 0 else min v (n:Int))=(((if v<0 then(v+(n:Int)).toNat else min v.toNat n):Nat):Int);by_cases hv:v<0;.simp only[if_pos hv];omega
 .simp only[if_neg hv];omega
theorem xM(lo hi:Option Int)(n:Nat):sliceAdjust lo hi 1 (n:Int)=(((cV n 0 lo:Nat):Int),((cV n n hi:Nat):Int)):=by
 have h1:¬((1:Int)<0):=by omega
 unfold sliceAdjust;simp only[h1,if_false];refine Prod.ext ?_ ?_;.cases lo with|none=>rfl|some v=>exact zZ v n 0
 .cases hi with|none=>rfl|some v=>exact zZ v n n
theorem xT(i j:Nat):slicePlaces (i:Int) (j:Int) 1=j-i:=by
 unfold slicePlaces;have h1:(1:Int)>0:=by omega
 simp only[h1,if_true,Int.ediv_one];split<;>omega
theorem pq{v:Value}{o:Option Int}{Q:Option Int->Shared->Prop}(p:IsPart v o)(h:Q o s):wpAny (model prog w) A (Builtin.Slice.slicePartIndex v) Q E s:=by cases p with|none=>exact slicePart_none h|int i t=>exact slicePart_int h
theorem ig{sl:Addr}{vl vu:Value}{lo hi:Option Int}{n:Nat}{Q:Int×Int×Nat->Shared->Prop}(hs:s.heap.IsSliceOf sl vl vu .none)(pl:IsPart vl lo)(pu:IsPart vu hi)(h:Q (((cV n 0 lo:Nat):Int),1,cV n n hi-cV n 0 lo) s):wpAny (model prog w) A (sliceApplied (.ref sl) (pure (n:Int))) Q E s:=by obtain⟨os,hos,hcs,hds⟩:=id hs;unfold sliceApplied sliceFields;refine wpAny_bind (wpAny_bind (wpAny_field hos hds (x:=vl) rfl (wpAny_bind (wpAny_field hos hds (x:=vu) rfl (wpAny_bind (wpAny_field hos hds (x:=.none) rfl (wpAny_pure ?_)))))));refine wpAny_bind (slicePart_none ?_);show wpAny _ _ (if((1:Int)==0)=true then _ else _) _ _ s;rw[if_neg (by decide)];refine wpAny_bind (pq pl (wpAny_bind (pq pu (wpAny_bind (wpAny_pure ?_)))));show wpAny _ _ (match sliceAdjust lo hi 1 (n:Int)with|(lo,hi)=>pure (lo,(1:Int),slicePlaces lo hi 1)) _ _ s;rw[xM lo hi n];show wpAny _ _ (pure (((cV n 0 lo:Nat):Int),(1:Int),slicePlaces ((cV n 0 lo:Nat):Int) ((cV n n hi:Nat):Int) 1)) _ _ s;rw[xT];exact wpAny_pure h
theorem Gj(xs:Array Value)(i k:Nat):((List.range k).filterMap fun(m:Nat)=>xs[((i:Int)+(m:Int)*1).toNat]?).toArray=((xs.toList.drop i).take k).toArray:=by
 have e:(fun(m:Nat)=>xs[((i:Int)+(m:Int)*1).toNat]?)=fun m=>xs[i+m]?:=by
  funext m;have:((i:Int)+(m:Int)*1).toNat=i+m:=by omega
  rw[this]
 rw[e];have:=pick_run xs i k;rw[List.filterMap_map]at this;have e2:((fun x=>xs[x]?)∘ fun x=>i+x)=fun m=>xs[i+m]?:=rfl;rw[e2]at this;rw[this]
theorem lQ{t sl:Addr}{items:Array Value}{vl vu:Value}{lo hi:Option Int}{Q:Value->Shared->Prop}(ht:IsTup s.heap t items)(hs:s.heap.IsSliceOf sl vl vu .none)(pl:IsPart vl lo)(pu:IsPart vu hi)(hw:¬(cV items.size 0 lo=0/\cV items.size items.size hi=items.size))(h:Q (.ref s.heap.objs.size) {s with heap:=s.heap.push {cls:=.type "tuple",data:=.seq ((items.toList.drop (cV items.size 0 lo)).take (cV items.size items.size hi-cV items.size 0 lo)).toArray}})(hsz:items.size<=sizeLine):wpAny (model prog w) A (getItem (.ref t) (.ref sl)) Q E s:=by
 have lW:sizeOk (.seq ((items.toList.drop (cV items.size 0 lo)).take (cV items.size items.size hi-cV items.size 0 lo)).toArray):=by show((items.toList.drop (cV items.size 0 lo)).take (cV items.size items.size hi-cV items.size 0 lo)).toArray.size<=sizeLine;rw[size_toArray,length_take,List.length_drop,length_toList];omega
 have hj:cV items.size items.size hi<=items.size:=Pq _ _ (le_refl _) hi;obtain⟨os,hos,hcs,hds⟩:=id hs;have hTs:s.TypeIs (.ref sl) "slice":=⟨os,hos,hcs⟩;unfold getItem;try with_reducible refine wpAny_holding ?_
 first|refine wpAny_bind (wpAny_pure ?_)|skip
 refine wpAny_bind (wpAny_sequenceKey ht.typeIs (by decide) ?_);refine wpAny_bind (wpAny_callSpecial?_slot (name:=Str.ofString "__getitem__") ht.typeIs PyProof.Rows.slot_tuple_getitem (wpAny_call_entry PyProof.Rows.slot_tuple_getitem ht.typeIs entry_tuple_getitem ?_ (args_tuple_getitem _ _)));show wpAny _ _ (tupleItemsOf (.ref t)>>=_) _ _ s;refine wpAny_bind (tupleItemsOf_ ht ?_);refine wpAny_bind (wpAny_typeOf hTs ?_);rw[if_pos (by decide)];refine wpAny_bind (ig hs pl pu ?_);have hno:¬((((cV items.size 0 lo:Nat):Int)==0&&(1:Int)==1&&(cV items.size items.size hi-cV items.size 0 lo)==items.size)=true):=by intro q;rw[and_eq_true,and_eq_true]at q;have q1:((cV items.size 0 lo:Nat):Int)=0:=eq_of_beq q.1.1;have q2:cV items.size items.size hi-cV items.size 0 lo=items.size:=eq_of_beq q.2;exact hw ⟨by omega,by omega⟩
 show wpAny _ _ (if(((cV items.size 0 lo:Nat):Int)==0&&(1:Int)==1&&(cV items.size items.size hi-cV items.size 0 lo)==items.size)=true then _ else _) _ _ s;rw[if_neg hno,Gj];first|exact wpAny_bind (m:=tupleExact _) (wpAny_newObj_type (wpAny_pure ⟨_,rfl,wpAny_pure h⟩) lW)|exact wpAny_bind (m:=tupleExact _) (wpAny_newObj_type (wpAny_bind (wpAny_pure (wpAny_pure ⟨_,rfl,wpAny_pure h⟩))) lW)|exact wpAny_bind (wpAny_bind (m:=tupleExact _) (wpAny_newObj_type (wpAny_pure (wpAny_pure ⟨_,rfl,wpAny_pure h⟩)) lW))|exact wpAny_bind (wpAny_bind (m:=tupleExact _) (wpAny_newObj_type (wpAny_pure ⟨_,rfl,wpAny_pure h⟩) lW))
end
end HT
namespace L2
open PySem PySem.Spec PyProof.Rows
abbrev TO:=St->Hp->(Option Int->Hp->Prop)->Prop
def PO(X:Cx)(e:Option Expr)(t:TO):Prop:=∀(pins:List (Addr × Obj))(s:Shared)(σ:St)(H:Hp)(Q:Option Int->Hp->Prop),Inv X pins σ H s->t σ H Q->wpAny (model X.prog X.w) X.A (evalPart e X.env) (fun u s'=>∃o H',Inv X pins σ H' s'/\IsPart u o/\Q o H') X.xe s
def Kw:TO:=fun _ H Q=>Q none H
def VN(t:TE):TO:=fun σ H Q=>t σ H fun x H1=>∃i,x=.int i/\Q (some i) H1
section
variable{X:Cx}{e:Expr}{te:TE}{lo hi:Option Expr}{tl th:TO}{pos p2:Pos}
theorem Kh:PO X none Kw:=by intro pins s σ H Q I h;rw[evalPart_none];exact wpAny_pure ⟨none,H,I,.none,h⟩
theorem Jt(h:PE X e te):PO X (some e) (VN te):=by intro pins s σ H Q I hw;rw[evalPart_some];refine cu (h pins s σ H _ I hw) fun u s1⟨x,H1,I1,r1,q1⟩=>?_;obtain⟨i,rfl,q⟩:=q1;obtain⟨t,rfl⟩:=r1;exact⟨some i,H1,I1,.int i t,q⟩
def Xr(X:Cx)(r:V->Option Int->Option Int->Hp->VK->Prop):Prop:=∀(pins:List (Addr × Obj))(s:Shared)(σ:St)(H:Hp)(x:V)(v vl vu:Value)(lo hi:Option Int)(sl:Addr)(Q:VK),Inv X pins σ H s->RelV x v->s.heap.IsSliceOf sl vl vu .none->IsPart vl lo->IsPart vu hi->r x lo hi H Q->∃T id,typeLookup (.type T) "__getitem__"=pure (some (.builtin id))/\s.TypeIs v T/\wpAny (model X.prog X.w) X.A (getItem v (.ref sl)) (EP X pins σ Q) X.xe s
def tSl(r:V->Option Int->Option Int->Hp->VK->Prop)(te:TE)(tl th:TO):TE:=fun σ H Q=>te σ H fun x H1=>tl σ H1 fun l H2=>th σ H2 fun u H3=>r x l u H3 Q
theorem wM{r:V->Option Int->Option Int->Hp->VK->Prop}(hr:Xr X r)(he:PE X e te)(hl:PO X lo tl)(hu:PO X hi th):PE X (.Subscript e (.Slice lo hi none p2) pos) (tSl r te tl th):=by intro pins s σ H Q I h;refine Subscript_ (cu (he pins s σ H _ I h) fun v s1⟨x,H1,I1,r1,q1⟩=>?_);refine wpAny_Slice (cu (hl pins s1 σ H1 _ I1 q1) fun vl s2⟨l,H2,I2,pl,q2⟩=>cu (hu pins s2 σ H2 _ I2 q2) fun vu s3⟨u,H3,I3,pu,q3⟩=>?_);rw[evalPart_none];refine wpAny_pure ?_;have I4:Inv X pins σ H3 {s3 with heap:=s3.heap.push {cls:=.type "slice",data:=.fields #[vl,vu,.none]}}:=I3.kept (t':=s3.toks) fun b ob q=>get?_push_of_some _ q;obtain⟨T,id,hT,ht,hg⟩:=hr pins {s3 with heap:=s3.heap.push {cls:=.type "slice",data:=.fields #[vl,vu,.none]}} σ H3 x v vl vu l u s3.heap.objs.size Q I4 r1 (Heap.IsSliceOf.new ..) pl pu q3;show wpAny (model X.prog X.w) X.A (subscriptTail e (.Slice lo hi none p2) v (.ref s3.heap.objs.size)) (EP X pins σ Q) X.xe {s3 with heap:=s3.heap.push {cls:=.type "slice",data:=.fields #[vl,vu,.none]}};exact tail_any (ops:=[.ref s3.heap.objs.size,v]) ht hT hg (by with_unfolding_all rfl)
noncomputable def vh(xs:List V)(lo hi:Option Int):List V:=(xs.drop (HT.cV xs.length 0 lo)).take (HT.cV xs.length xs.length hi-HT.cV xs.length 0 lo)
theorem nF(xs:List V)(lo hi:Option Int):(vh xs lo hi).length<=xs.length:=by unfold vh;rw[length_take,List.length_drop];omega
def aaU(K:PySem.W.Frag):V->Option Int->Option Int->Hp->VK->Prop:=fun x lo hi H Q=>∃a xs,x=.ref a/\gM K H a xs/\¬(HT.cV xs.length 0 lo=0/\HT.cV xs.length xs.length hi=xs.length)/\∀p,H p=none->Q (.ref p) (upd H p (.tup (vh xs lo hi)))
theorem P0:Xr X (aaU X.K):=by
 intro pins s σ H x v vl vu lo hi sl Q I rx hs pl pu h;obtain⟨a,xs,rfl,hx,hw,q⟩:=h;cases rx;obtain⟨its,r,ht,hz⟩:=I.tuple hx;have hlen:its.toArray.size=xs.length:=by rw[size_toArray];exact r.length.symm
 refine⟨"tuple",_,PyProof.Rows.slot_tuple_getitem.lookup,ht.typeIs,?_⟩;refine HT.lQ ht hs pl pu (by rw[hlen];exact hw) ?_ (by rw[hlen];exact hz);rw[hlen];refine⟨.ref s.heap.objs.size,_,I.laid (t':=s.toks) (o:=.tup (vh xs lo hi)) (fun b ob q=>get?_push_of_some _ q) (le_refl _) ?_,rfl,q _ (I.hok.fresh (le_refl _))⟩;exact⟨le_trans (nF xs lo hi) hz,_,(r.drop (HT.cV xs.length 0 lo)).take (HT.cV xs.length xs.length hi-HT.cV xs.length 0 lo),IsTup.new _ _⟩
def Wq(K:PySem.W.Frag):R2:=fun x y H Q=>∃a b xs ys,x=.ref a/\y=.ref b/\gM K H a xs/\gM K H b ys/\xs≠[]/\xs.length+ys.length<=sizeLine/\(ys=[]->Q (.ref a) H)/\(ys≠[]->∀p,H p=none->Q (.ref p) (upd H p (.tup (xs++ys))))
theorem Vals.oJ{xs:List V}{us:List Value}(r:Vals xs us):us=[]↔xs=[]:=by cases r with|nil=>simp|cons _ _=>simp
theorem JL:dU X (binaryOp .Add) (Wq X.K):=by intro pins s σ H x y v u Q I rx ry h;obtain⟨a,b,xs,ys,rfl,rfl,ha,hb,hx,hz,q1,q2⟩:=h;cases rx;cases ry;obtain⟨its,r1,p1,_⟩:=I.tuple ha;obtain⟨its2,r2,p2,_⟩:=I.tuple hb;refine HT.Jd p1 p2 (fun z=>hx (r1.oJ.mp z)) (fun z=>⟨.ref a,H,I,rfl,q1 (r2.oJ.mp z)⟩) (fun z=>?_) (by rw[<-r1.length,<-r2.length];exact hz);refine⟨.ref s.heap.objs.size,_,I.laid (t':=s.toks) (o:=.tup (xs++ys)) (fun b ob q=>get?_push_of_some _ q) (le_refl _) ?_,rfl,q2 (fun w=>z (r2.oJ.mpr w)) _ (I.hok.fresh (le_refl _))⟩;exact⟨by rw[length_append];exact hz,_,r1.append r2,IsTup.new _ _⟩
end
noncomputable def iH(n:Nat)(i:Int):Option Nat:=if 0<=i then(if i<n then some i.toNat else none)else if-(n:Int)<=i then some (i+n).toNat else none
noncomputable def Hl{α:Type}(xs:List α)(i:Int):Option α:=(iH xs.length i).bind fun j=>xs[j]?
theorem zm{n:Nat}{i:Int}{j:Nat}(h:iH n i=some j):seqIndex? i n=some j/\j<n/\-(n:Int)<=i/\i<n:=by
 unfold iH at h;by_cases h0:0<=i
 . rw[if_pos h0]at h;by_cases h1:i<n;.rw[if_pos h1]at h;have e:i.toNat=j:=Option.some.inj h;exact⟨by rw[seqIndex_of h0 h1,e],by omega,by omega,h1⟩
   .rw[if_neg h1]at h;cases h
 . rw[if_neg h0]at h;by_cases h1:-(n:Int)<=i;.rw[if_pos h1]at h;have e:(i+n).toNat=j:=Option.some.inj h;exact⟨by rw[seqIndex_neg (by omega) h1,e],by omega,h1,by omega⟩
   .rw[if_neg h1]at h;cases h
theorem tG{α:Type}{xs:List α}{i:Int}{v:α}(h:Hl xs i=some v):∃j,seqIndex? i xs.length=some j/\xs[j]?=some v/\j<xs.length/\-(xs.length:Int)<=i/\i<xs.length:=by unfold Hl at h;cases e:iH xs.length i with|none=>rw[e]at h;cases h|some j=>rw[e]at h;obtain⟨h1,h2,h3,h4⟩:=zm e;exact⟨j,h1,h,h2,h3,h4⟩
def tH(b:Expr):Prop:=∀o i,subscripted b false o i=operate [o,i] (getItem o i)
def XF(X:Cx)(r:R2):Prop:=∀(value slice:Expr)(pins:List (Addr × Obj))(s:Shared)(σ:St)(H:Hp)(x y:V)(v u:Value)(Q:VK),Inv X pins σ H s->RelV x v->RelV y u->r x y H Q->subscripted slice false v u=operate [v,u] (getItem v u)->wpAny (model X.prog X.w) X.A (subscriptTail value slice v u) (EP X pins σ Q) X.xe s
def MtR(X:Cx)(id:String)(r:V->List V->Hp->VK->Prop):Prop:=∀(pins:List (Addr × Obj))(s:Shared)(σ:St)(H:Hp)(x:V)(xs:List V)(v:Value)(us:List Value)(Q:VK),Inv X pins σ H s->RelV x v->Vals xs us->r x xs H Q->wpAny (model X.prog X.w) X.A (call (.builtin id) (v::us)) (EP X pins σ Q) X.xe s
section
variable{X:Cx}{a b:Expr}{ta tb:TE}{pos:Pos}
theorem Ml{r:R2}(hr:XF X r)(ha:PE X a ta)(hb:PE X b tb)(hs:tH b):PE X (.Subscript a b pos) (NP r ta tb):=by intro pins s σ H Q I h;exact Subscript_ (Pb ha hb I h fun v u s2 x y H2 I2 rx ry q=>hr a b pins s2 σ H2 x y v u Q I2 rx ry q (hs _ _))
def Wn(K:PySem.W.Frag):R2:=fun x y H Q=>∃p xs i v,x=.ref p/\y=.int i/\dI K H p xs/\Hl xs i=some v/\Q v H
def abr(K:PySem.W.Frag):R2:=fun x y H Q=>∃p xs i v,x=.ref p/\y=.int i/\gM K H p xs/\Hl xs i=some v/\Q v H
theorem zg:XF X (Wn X.K):=by
 intro value slice pins s σ H x y v u Q I rx ry h hs;obtain⟨p,xs,i,z,rfl,rfl,hq,he,q⟩:=h;cases rx;obtain⟨t,rfl⟩:=ry;obtain⟨its,r,pl,hz⟩:=I.list hq;obtain⟨j,h1,h2,h3,h4,h5⟩:=tG he;obtain⟨w,ew,wU⟩:=r.get h2;have hl:=r.length;have hn:=qG;have fin:EP X pins σ Q w s:=⟨z,H,I,wU,q⟩;by_cases h0:0<=i
 . have hj:i.toNat=j:=by rw[seqIndex_of h0 h5]at h1;exact Option.some.inj h1
   exact item_listR pl.isList h0 (by omega) (by rw[hj];simpa using ew) fin hs
 . have hj:(i+(its.toArray.size:Int)).toNat=j:=by rw[seqIndex_neg (by omega) h4]at h1;rw[size_toArray,<-hl];exact Option.some.inj h1
   exact subscriptTail_builtinR (x:=w) pl.isList.typeIs slot_list_getitem.lookup (wpAny_getItem_list_neg (Q:=fun r s'=>r=w/\EP X pins σ Q r s') pl.isList (by omega) (by rw[size_toArray]<;>omega) (by omega) (by rw[hj];simpa using ew) ⟨rfl,fin⟩) hs
theorem Ni:XF X (abr X.K):=by intro value slice pins s σ H x y v u Q I rx ry h hs;obtain⟨p,xs,i,z,rfl,rfl,hq,he,q⟩:=h;cases rx;obtain⟨t,rfl⟩:=ry;obtain⟨its,r,pl,hz⟩:=I.tuple hq;obtain⟨j,h1,h2,h3,h4,h5⟩:=tG he;obtain⟨w,ew,wU⟩:=r.get h2;have hl:=r.length;have hn:=qG;have fin:EP X pins σ Q w s:=⟨z,H,I,wU,q⟩;exact subscriptTail_builtinR (x:=w) pl.typeIs slot_tuple_getitem.lookup (getItem_tuple (j:=j) (Q:=fun r s'=>r=w/\EP X pins σ Q r s') pl (by omega) (by omega) (by rw[size_toArray,<-hl];exact h1) (by simpa using ew) ⟨rfl,fin⟩) hs
theorem xK(its:List Value)(n j:Nat)(u:Value):Obj.mapSeq (·.setIfInBounds j u) {cls:=.type "list",data:=.seq its.toArray n}={cls:=.type "list",data:=.seq (its.set j u).toArray n}:=by simp[Obj.mapSeq]
theorem Inv.lst{pins:List (Addr×Obj)}{σ:St}{H:Hp}{s:Shared}{p:Addr}{xs:List V}(I:Inv X pins σ H s)(h:H p=some (.lst xs)):∃(its:List Value)(n:Nat),Vals xs its/\s.heap.get? p=some {cls:=.type "list",data:=.seq its.toArray n}/\xs.length<=sizeLine:=by obtain⟨z,its,n,r,e⟩:=I.hok p _ h;exact⟨its,n,r,e,z⟩
theorem Inv.Qn{pins:List (Addr×Obj)}{σ:St}{H:Hp}{s:Shared}{p:Addr}{xs ys:List V}{its its':List Value}{n n':Nat}{f:Obj->Obj}(I:Inv X pins σ H s)(h:H p=some (.lst xs))(ho:s.heap.get? p=some {cls:=.type "list",data:=.seq its.toArray n})(hf:f {cls:=.type "list",data:=.seq its.toArray n}={cls:=.type "list",data:=.seq its'.toArray n'})(r:Vals ys its')(hz:ys.length<=sizeLine)(t:Nat):Inv X pins σ (upd H p (.lst ys)) {s with heap:=s.heap.update p f,toks:=t}:=by
 have e:(s.heap.update p f).get? p=some {cls:=.type "list",data:=.seq its'.toArray n'}:=by rw[get?_update_self f ho (by rw[hf]<;>rfl),hf]
 refine I.write (x:=p) (e:=p) (by rw[h];trivial) (.inl rfl) (fun b u hb q=>(get?_update_other _ _ (Ne.symm hb)).trans q) ⟨_,e⟩ ?_;exact⟨hz,its',n',r,e⟩
def Ui:V->V->V->Hp->(Hp->Prop)->Prop:=fun o i v H Q=>∃p xs k j,o=.ref p/\i=.int k/\H p=some (.lst xs)/\iH xs.length k=some j/\Q (upd H p (.lst (xs.set j v)))
theorem set_list:Ou X Ui:=by
 intro pins s σ H o i v ov iv u Q I ro ri rv h;obtain⟨p,xs,k,j,rfl,rfl,hp,hj,q⟩:=h;cases ro;obtain⟨t,rfl⟩:=ri;obtain⟨its,n,r,ho,hz⟩:=I.lst hp;obtain⟨h1,h2,h3,h4⟩:=zm hj;have hl:=r.length;have hn:=qG;have I':Inv X pins σ (upd H p (.lst (xs.set j v))) {s with heap:=s.heap.update p (Obj.mapSeq (·.setIfInBounds j u))}:=I.Qn hp ho (xK its n j u) (r.set rv j) (by rw[List.length_set];exact hz) s.toks;by_cases h0:0<=k
 . have hk:k.toNat=j:=by rw[seqIndex_of h0 h4]at h1;exact Option.some.inj h1
   exact PySem.W.ki_setAt ho h0 (by omega) (by rw[size_toArray,<-hl];exact h4) (by rw[hk];exact⟨_,I',q⟩)
 . have hk:(k+(its.toArray.size:Int)).toNat=j:=by rw[seqIndex_neg (by omega) h3]at h1;rw[size_toArray,<-hl];exact Option.some.inj h1
   exact PySem.W.ki_setBack ho (by omega) (by rw[size_toArray,<-hl];exact h3) (by omega) (by rw[hk];exact⟨_,I',q⟩)
theorem ud(lo hi:Option Int)(n:Nat):(sliceBounds lo hi none n).1=((HT.cV n 0 lo:Nat):Int)/\(sliceBounds lo hi none n).2.1=((HT.cV n n hi:Nat):Int)/\(sliceBounds lo hi none n).2.2=1:=by
 refine⟨?_,?_,rfl⟩;.cases lo with|none=>simp[sliceBounds,HT.cV]|some i=>
     simp only[sliceBounds,HT.cV,getD_none,show(1:Int)>0 by decide,if_true];by_cases h:i<0;.simp only[h,if_true]<;>omega
     .simp only[h,if_false]<;>omega
 .cases hi with|none=>simp[sliceBounds,HT.cV]|some i=>
     simp only[sliceBounds,HT.cV,getD_none,show(1:Int)>0 by decide,if_true];by_cases h:i<0;.simp only[h,if_true]<;>omega
     .simp only[h,if_false]<;>omega
theorem qO(its:List Value)(lo hi:Option Int):slicePick its.toArray lo hi none=((its.drop (HT.cV its.length 0 lo)).take (HT.cV its.length its.length hi-HT.cV its.length 0 lo)).toArray:=by obtain⟨h1,h2,h3⟩:=ud lo hi its.toArray.size;unfold slicePick;rw[h1,h2,h3];simp only[sliceRange_one,pick_run,size_toArray]<;>rfl
def abi(K:PySem.W.Frag):V->Option Int->Option Int->Hp->VK->Prop:=fun x lo hi H Q=>∃a xs,x=.ref a/\dI K H a xs/\∀p,H p=none->Q (.ref p) (upd H p (.lst (vh xs lo hi)))
theorem JM:Xr X (abi X.K):=by intro pins s σ H x v vl vu lo hi sl Q I rx hs pl pu h;obtain⟨a,xs,rfl,hx,q⟩:=h;cases rx;obtain⟨its,r,ht,hz⟩:=I.list hx;have hlen:=r.length;refine⟨"list",_,slot_list_getitem.lookup,ht.isList.typeIs,?_⟩;refine wpAny_getItem_list_slice ht.isList hs pl pu .none (by simp) ?_ (by rw[size_toArray]<;>omega);rw[qO,<-hlen];refine⟨.ref s.heap.objs.size,_,I.laid (t':=s.toks) (o:=.lst (vh xs lo hi)) (fun b ob q=>get?_push_of_some _ q) (le_refl _) ?_,rfl,q _ (I.hok.fresh (le_refl _))⟩;exact⟨le_trans (nF xs lo hi) hz,_,0,(r.drop (HT.cV xs.length 0 lo)).take (HT.cV xs.length xs.length hi-HT.cV xs.length 0 lo),get?_push_size _ rfl⟩
noncomputable def jT:V->Bool|.non=>true|.bl _=>true|.int _=>true|.str _=>true|_=>false
noncomputable def Ig:V->V->Bool|.non,.non=>true|.bl a,.bl b=>a==b|.bl a,.int b=>(if a then 1 else 0)==b|.int a,.bl b=>a==(if b then 1 else 0)|.int a,.int b=>a==b|.str a,.str b=>a==b|_,_=>false
theorem QC{A:Around}{s:Shared}{y x:V}{u v:Value}(ry:RelV y u)(rx:RelV x v)(fy:jT y=true)(fx:jT x=true):SeqAt.EqAt A s u v (Ig y x):=by cases y with
 |non=>cases ry;cases x with|non=>cases rx;exact SeqAt.EqAt.same _|bl b=>cases rx;exact none_bool b|int b=>obtain⟨t,rfl⟩:=rx;exact none_int b t|str b=>obtain⟨t,rfl⟩:=rx;exact none_str b t|_=>exact absurd (show false=true from fx) Bool.false_ne_true
 |bl a=>cases ry;cases x with|non=>cases rx;exact bool_none a|bl b=>cases rx;exact bool_bool a b|int b=>obtain⟨t,rfl⟩:=rx;exact bool_int a b t|str b=>obtain⟨t,rfl⟩:=rx;exact bool_str a b t|_=>exact absurd (show false=true from fx) Bool.false_ne_true
 |int a=>obtain⟨t',rfl⟩:=ry;cases x with|non=>cases rx;exact int_none a t'|bl b=>cases rx;exact int_bool a t' b|int b=>obtain⟨t,rfl⟩:=rx;exact int_int a t' b t|str b=>obtain⟨t,rfl⟩:=rx;exact int_str a t' b t|_=>exact absurd (show false=true from fx) Bool.false_ne_true
 |str a=>obtain⟨t',rfl⟩:=ry;cases x with|non=>cases rx;exact str_none a t'|bl b=>cases rx;exact str_bool a t' b|int b=>obtain⟨t,rfl⟩:=rx;exact str_int a t' b t|str b=>obtain⟨t,rfl⟩:=rx;exact str_str a t' b t|_=>exact absurd (show false=true from fx) Bool.false_ne_true
 |_=>exact absurd (show false=true from fy) Bool.false_ne_true
noncomputable def xO(x:V)(u:Value):Bool:=match u with|.none=>Ig .non x|.bool b=>Ig (.bl b) x|.int i _=>Ig (.int i) x|.str z _=>Ig (.str z) x|_=>false
theorem Fb{x y:V}{u:Value}(r:RelV y u)(f:jT y=true):xO x u=Ig y x:=by cases y with|non=>cases r;rfl|bl b=>cases r;rfl|int i=>obtain⟨t,rfl⟩:=r;rfl|str z=>obtain⟨t,rfl⟩:=r;rfl|_=>exact absurd (show false=true from f) Bool.false_ne_true
theorem lJ{x:V}:∀{xs:List V}{us:List Value},Vals xs us->xs.all jT=true->us.any (xO x)=xs.any fun y=>Ig y x|_,_,.nil,_=>rfl|y::xs,u::us,.cons r t,f=>by rw[all_cons,and_eq_true]at f;rw[any_cons,any_cons,Fb r f.1,lJ t f.2]
theorem ji{A:Around}{s:Shared}{x:V}{v:Value}(rx:RelV x v)(fx:jT x=true):∀{xs:List V}{us:List Value},Vals xs us->xs.all jT=true->∀u∈us,SeqAt.EqAt A s u v (xO x u)
 |_,_,.nil,_=>fun u hu=>by cases hu|y::xs,u::us,.cons r t,f=>fun u' hu=>by
   rw[all_cons,and_eq_true]at f;rcases mem_cons.mp hu with rfl|hu;.rw[Fb r f.1];exact QC r rx f.1 fx
   .exact ji rx fx t f.2 u' hu
noncomputable def inV(x:V)(xs:List V):Bool:=xs.any fun y=>Ig y x
def rIn(K:PySem.W.Frag)(neg:Bool):R2:=fun x y H Q=>∃p xs,y=.ref p/\(dI K H p xs\/gM K H p xs)/\jT x=true/\xs.all jT=true/\Q (.bl (if neg then !inV x xs else inV x xs)) H
theorem Bt:dU X (compareOp .In) (rIn X.K false):=by
 intro pins s σ H x y v u Q I rx ry h;obtain⟨p,xs,rfl,hq,fx,fs,q⟩:=h;cases ry;rcases hq with hq|hq;.obtain⟨its,r,pl,hz⟩:=I.list hq;refine SeqAt.in_listAt (xO x) pl.isList (fun w hw=>ji rx fx r fs w (by simpa using hw)) ⟨.bl _,H,I,rfl,?_⟩;rw[show its.toArray.any (xO x)=its.any (xO x)by simp,lJ r fs];exact q
 .obtain⟨its,r,pl,hz⟩:=I.tuple hq;refine SeqAt.in_tupleAt (xO x) pl (fun w hw=>ji rx fx r fs w (by simpa using hw)) ⟨.bl _,H,I,rfl,?_⟩;rw[show its.toArray.any (xO x)=its.any (xO x)by simp,lJ r fs];exact q
theorem uh:dU X (compareOp .NotIn) (rIn X.K true):=by
 intro pins s σ H x y v u Q I rx ry h;obtain⟨p,xs,rfl,hq,fx,fs,q⟩:=h;cases ry;rcases hq with hq|hq;.obtain⟨its,r,pl,hz⟩:=I.list hq;refine SeqAt.notIn_listAt (xO x) pl.isList (fun w hw=>ji rx fx r fs w (by simpa using hw)) ⟨.bl _,H,I,rfl,?_⟩;rw[show its.toArray.any (xO x)=its.any (xO x)by simp,lJ r fs];exact q
 .obtain⟨its,r,pl,hz⟩:=I.tuple hq;refine SeqAt.notIn_tupleAt (xO x) pl (fun w hw=>ji rx fx r fs w (by simpa using hw)) ⟨.bl _,H,I,rfl,?_⟩;rw[show its.toArray.any (xO x)=its.any (xO x)by simp,lJ r fs];exact q
theorem tU:dN X (.builtin "len") (fun xs H Q=>∃p ys,xs=[.ref p]/\(dI X.K H p ys\/gM X.K H p ys)/\Q (.int ys.length) H):=by
 intro pins s σ H xs us Q I r h;obtain⟨p,ys,rfl,hq,q⟩:=h;obtain⟨u,rfl,rx⟩:=vals1 r;cases rx;have hn:=qG;rcases hq with hq|hq;.obtain⟨its,r',pl,hz⟩:=I.list hq;have hlen:=r'.length;exact Calls.call_len_list pl.isList (by simp only[size_toArray]<;>omega) ⟨.int ys.length,H,I.tok _,⟨s.toks+1,by rw[size_toArray,hlen]⟩,q⟩
 .obtain⟨its,r',pl,hz⟩:=I.tuple hq;have hlen:=r'.length;exact len_tuple pl (by simp only[size_toArray]<;>omega) ⟨.int ys.length,H,I.tok _,⟨s.toks+1,by rw[size_toArray,hlen]⟩,q⟩
theorem uc:dN X (.type "list") (fun xs H Q=>∃p ys,xs=[.ref p]/\(dI X.K H p ys\/gM X.K H p ys)/\∀l,H l=none->Q (.ref l) (upd H l (.lst ys))):=by
 intro pins s σ H xs us Q I r h;obtain⟨p,ys,rfl,hq,q⟩:=h;obtain⟨u,rfl,rx⟩:=vals1 r;cases rx;have fin:∀(its:List Value),Vals ys its->ys.length<=sizeLine->∀(h':Heap)(c':Nat),(∀b o',s.heap.get? b=some o'->h'.get? b=some o')->h'.get? s.heap.objs.size=some {cls:=.type "list",dict:=none,data:=.seq its.toArray c',slots:=#[]}->EP X pins σ Q (.ref s.heap.objs.size) {s with heap:=h'}:=fun its r' hz h' c' kp e=>⟨.ref s.heap.objs.size,_,I.laid (t':=s.toks) kp (le_refl _) (show bR X.prog X.w _ h' _ (.lst ys)from⟨hz,its,c',r',e⟩),rfl,q _ (I.hok.fresh (le_refl _))⟩;rcases hq with hq|hq;.obtain⟨its,r',pl,hz⟩:=I.list hq;have hlen:=r'.length;obtain⟨o,ho,hc,n,hd⟩:=pl.isList;exact call_list_seq p (.inl rfl) ho hc hd (fun h' c' kp e=>fin its r' hz h' c' kp e) (by simp only[size_toArray]<;>omega)
 .obtain⟨its,r',pl,hz⟩:=I.tuple hq;have hlen:=r'.length;obtain⟨o,ho,hc,n,hd⟩:=pl;exact call_list_seq p (.inr rfl) ho hc hd (fun h' c' kp e=>fin its r' hz h' c' kp e) (by simp only[size_toArray]<;>omega)
theorem jV:dN X (.type "tuple") (fun xs H Q=>∃p ys,xs=[.ref p]/\((dI X.K H p ys/\∀l,H l=none->Q (.ref l) (upd H l (.tup ys)))\/(gM X.K H p ys/\Q (.ref p) H))):=by
 intro pins s σ H xs us Q I r h;obtain⟨p,ys,rfl,h⟩:=h;obtain⟨u,rfl,rx⟩:=vals1 r;cases rx;rcases h with⟨hq,q⟩|⟨hq,q⟩;.obtain⟨its,r',pl,hz⟩:=I.list hq;have hlen:=r'.length;refine call_tuple_list pl.isList (fun h' kp=>?_) (by simp only[size_toArray]<;>omega);have I1:Inv X pins σ H {s with heap:=h'}:=I.kept (t':=s.toks) kp;have I2:Inv X pins σ (upd H h'.objs.size (.tup ys)) {s with heap:=h'.push {cls:=.type "tuple",data:=.seq its.toArray}}:=I1.laid (t':=s.toks) (fun b o e=>get?_push_of_some _ e) (le_refl _) (show bR X.prog X.w _ _ _ (.tup ys)from⟨hz,its,r',IsTup.new _ _⟩);exact⟨.ref h'.objs.size,_,I2,rfl,q _ (I1.hok.fresh (le_refl _))⟩
 .obtain⟨its,r',pl,hz⟩:=I.tuple hq;exact call_tuple_same pl ⟨.ref p,H,I,rfl,q⟩
def tyV(K:PySem.W.Frag)(T:String)(x:V)(H:Hp):Prop:=match x with|.str _=>T="str"|.int _=>T="int"|.ref p=>(T="list"/\∃xs,dI K H p xs)\/(T="tuple"/\∃o,K.lookup p=some o/\o.cls=.type "tuple"/\o.dict=none)\/(T="dict"/\((∃kvs,H p=some (.dK kvs))\/∃kvs,H p=some (.dT kvs)))\/(T="set"/\∃S n,H p=some (.set S n))|_=>False
theorem Oi{pins:List (Addr×Obj)}{σ:St}{H:Hp}{s:Shared}{T:String}{x:V}{v:Value}(I:Inv X pins σ H s)(r:RelV x v)(ty:tyV X.K T x H):
 s.TypeIs v T/\∀a,v=.ref a->∃ob,s.heap.get? a=some ob/\ob.dict=none:=by cases x with|str z=>obtain⟨t,rfl⟩:=r;cases(show T="str"from ty);exact⟨typeIs_str s z t,fun _ e=>nomatch e⟩|int i=>obtain⟨t,rfl⟩:=r;cases(show T="int"from ty);exact⟨typeIs_int s i t,fun _ e=>nomatch e⟩|ref p=>
   cases r;rcases ty with⟨rfl,xs,hq⟩|⟨rfl,o,hk,hc,hd⟩|⟨rfl,hk⟩|⟨rfl,S,n,hk⟩;.obtain⟨its,_,pl,_⟩:=I.list hq;refine⟨pl.isList.typeIs,fun a e=>?_⟩;cases e;obtain⟨o,n,e,c,hd,_⟩:=pl;exact⟨o,e,hd⟩
   .refine⟨⟨o,I.Q7 p o hk,hc⟩,fun a e=>?_⟩;cases e;exact⟨o,I.Q7 _ o hk,hd⟩
   . have z:∃o,s.heap.get? p=some o/\o.ExactDict:=by
      rcases hk with⟨kvs,hk⟩|⟨kvs,hk⟩;.obtain⟨_,_,_,_,o,_,_,e,ex,_⟩:=I.hok p _ hk;exact⟨o,e,ex⟩
      .obtain⟨_,_,_,_,o,_,_,e,ex,_⟩:=I.hok p _ hk;exact⟨o,e,ex⟩
     obtain⟨o,e,ex⟩:=z;refine⟨⟨o,e,ex.1⟩,fun a e2=>?_⟩;cases e2;exact⟨o,e,ex.2.1⟩
   .obtain⟨o,_,_,_,e,ex,_⟩:=I.hok p _ hk;refine⟨⟨o,e,ex.1⟩,fun a e2=>?_⟩;cases e2;exact⟨o,e,ex.2.1⟩|_=>exact False.elim ty
def tBM(K:PySem.W.Frag)(T:String)(r:V->List V->Hp->VK->Prop)(to:TE)(t:TA):TE:=fun σ H Q=>to σ H fun x H1=>tyV K T x H1/\t σ H1 fun xs H2=>r x xs H2 Q
variable{o e:Expr}{es:List Expr}{to:TE}{t:TA}{name:Str}{apos cpos:Pos}{T id:String}{r:V->List V->Hp->VK->Prop}
theorem Lj(pa:PlainAttrs T)(slot:Slot T name id)(hty:typeOf (.builtin id)=pure (.type "method_descriptor"))(hm:MtR X id r)(ho:PE X o to)(ha:PA X (e::es) t)(hbase:attributeBase o name X.env (eval o X.env)=eval o X.env:=by rfl)(hfew:((backTo cpos (starEach (e::es) X.env)).all (fun x=>!x.1)&&(backToKw cpos (keywordEach [] X.env)).all (fun x=>x.1.isSome)&&decide ((e::es).length+([]:List Keyword).length+(if([]:List Keyword).isEmpty then 0 else 1)<30))=true:=by rfl)(hline:(apos.endLine==cpos.line)=true:=by rfl)(hs:starEach (e::es) X.env=(false,eval e X.env)::starEach es X.env:=by rfl)(hplain:(backTo cpos (starEach es X.env)).any (·.1)=false:=by rfl):PE X (.Call (.Attribute o name apos) (e::es) [] cpos) (tBM X.K T r to t):=by intro pins s σ H Q I h;refine wpAny_Call_method_late hbase hfew hline rfl (cu (ho pins s σ H _ I h) fun v s1⟨x,H1,I1,r1,ty,q1⟩=>?_);obtain⟨h1,h2⟩:=Oi I1 r1 ty;refine⟨T,id,pa,slot,hty,h1,h2,?_⟩;have hA:=ha cpos pins s1 σ H1 _ I1 q1;rw[hs]at hA ⊢;refine Calls.callWith_builtin (by show(false||(backTo cpos (starEach es X.env)).any (·.1))=false;rw[hplain]<;>rfl) (Calls.evalArgs_plain ?_);exact cu hA fun us s2⟨vs,H2,I2,r2,q2⟩=>hm pins s2 σ H2 x vs v us Q I2 r1 r2 q2/-xs.append(e),list.index on a module's tuple..are MtR facts of 06m-/
end
def MtM(X:Cx)(id:String)(r:V->List V->Hp->VK->Prop):Prop:=∀(pins:List (Addr × Obj))(s:Shared)(σ:St)(H:Hp)(x:V)(xs:List V)(v:Value)(us:List Value)(Q:VK),Inv X pins σ H s->RelV x v->Vals xs us->r x xs H Q->wpAny (model X.prog X.w) X.A (call (.builtin id) (v::us)) (EP X pins σ Q) X.xe s
theorem Vals.one:∀{x:V}{us:List Value},Vals [x] us->∃u,us=[u]/\RelV x u|x,us,h=>by cases h with|cons r t=>cases t;exact⟨_,rfl,r⟩
theorem Vals.two:∀{x y:V}{us:List Value},Vals [x,y] us->∃u v,us=[u,v]/\RelV x u/\RelV y v|x,y,us,h=>by cases h with|cons r t=>cases t with|cons q z=>cases z;exact⟨_,_,rfl,r,q⟩
theorem Vals.zero:∀{us:List Value},Vals [] us->us=[]|_,.nil=>rfl
theorem Vals.reverse{xs:List V}{us:List Value}(h:Vals xs us):Vals xs.reverse us.reverse:=by induction h with|nil=>exact .nil|cons r t ih=>rw[reverse_cons,reverse_cons];exact Vals.append ih (.cons r .nil)
theorem Vals.rep{xs:List V}{us:List Value}(h:Vals xs us):∀k:Nat,Vals (replicate k xs).flatten (replicate k us).flatten|0=>.nil|k+1=>by rw[replicate_succ,replicate_succ,flatten_cons,flatten_cons];exact Vals.append h (Vals.rep h k)
theorem foldl_rep(its:List Value):∀(k:Nat)(acc:List Value),foldl (fun x1 x2=>x1++x2) acc.toArray (replicate k its.toArray)=(acc++(replicate k its).flatten).toArray
 |0,acc=>by simp|k+1,acc=>by
   have e:acc.toArray++its.toArray=(acc++its).toArray:=by simp
   have e2:(acc++its)++(replicate k its).flatten=acc++(replicate (k+1) its).flatten:=by rw[replicate_succ,flatten_cons,append_assoc]
   rw[<-e2,<-foldl_rep its k (acc++its),<-e,replicate_succ,foldl_cons]
section
variable{X:Cx}{pins:List (Addr×Obj)}{σ:St}{H:Hp}{s:Shared}{l b:Addr}{xs ys zs:List V}
theorem Inv.aax{its its':List Value}{n:Nat}{f:Array Value->Array Value}{t':Nat}(I:Inv X pins σ H s)(hH:H l=some (.lst xs))(e:s.heap.get? l=some {cls:=.type "list",data:=.seq its.toArray n})(hf:f its.toArray=its'.toArray)(hv:Vals ys its')(hz:ys.length<=sizeLine):Inv X pins σ (upd H l (.lst ys)) {s with heap:=s.heap.update l (Obj.mapSeq f),toks:=t'}:=by have q:=PySem.IsL.update e f;rw[hf]at q;refine I.write (x:=l) (e:=l) (by rw[hH];exact trivial) (.inl rfl) (fun b' u hb hu=>(get?_update_other s.heap (Obj.mapSeq f) (Ne.symm hb)).trans hu) ⟨_,q⟩ ?_;exact⟨hz,its',_,hv,q⟩
theorem Inv.O2{its:List Value}{t':Nat}(I:Inv X pins σ H s)(hv:Vals ys its)(hz:ys.length<=sizeLine):Inv X pins σ (upd H s.heap.objs.size (.lst ys)) {s with heap:=s.heap.push {cls:=.type "list",data:=.seq its.toArray},toks:=t'}:=I.laid (fun _ _ q=>get?_push_of_some _ q) (le_refl _) ⟨hz,its,0,hv,get?_push_size _ rfl⟩
theorem Inv.fresh(I:Inv X pins σ H s):H s.heap.objs.size=none:=I.hok.fresh (le_refl _)
theorem Inv.Z6(I:Inv X pins σ H s)(hH:H l=some (.lst xs)):xs.length<=sizeLine/\∃(its:List Value)(n:Nat),Vals xs its/\xs.length=its.length/\s.heap.get? l=some {cls:=.type "list",data:=.seq its.toArray n}:=by obtain⟨z,its,n,r,e⟩:=I.hok l _ hH;exact⟨z,its,n,r,r.length,e⟩
theorem Gn{n:Nat}(h:n<=sizeLine):listTooLong n=false:=by unfold listTooLong;exact decide_eq_false (by omega)
end
section
variable{X:Cx}
def Jv:V->List V->Hp->VK->Prop:=fun x vs H Q=>∃l xs y,x=.ref l/\vs=[y]/\H l=some (.lst xs)/\xs.length<sizeLine/\Q .non (upd H l (.lst (xs++[y])))
theorem mj:MtM X "list.append" Jv:=by intro pins s σ H x vs v us Q I rx rv h;obtain⟨l,xs,y,rfl,rfl,hH,hz,q⟩:=h;cases rx;obtain⟨u,rfl,ru⟩:=rv.one;obtain⟨z,its,n,r,hl,e⟩:=I.Z6 hH;refine call_meets F.slot_list_append ⟨_,e,rfl⟩ F.entry_list_append (F.args_list_append_2 _ _) (PySem.list_append l its.toArray n u (by rw[size_toArray];omega)) ⟨e,?_⟩;refine⟨.non,_,I.aax (its':=its++[u]) hH e (by simp) (r.append (.cons ru .nil)) ?_,rfl,q⟩;rw[length_append,List.length_singleton];omega
theorem len_rep{α:Type}(xs:List α)(k:Nat):(replicate k xs).flatten.length=k*xs.length:=by induction k with|zero=>simp|succ k ih=>rw[replicate_succ,flatten_cons,length_append,ih,Nat.succ_mul,Nat.add_comm]
end
end L2
namespace Zh
open PySem PySem.W PySem.Calls PyProof.Rows
theorem nW{P:Params}{h:Heap}:∀(ns:List Int)(vs:List Value),WellAll P h vs (ns.map WData.int)->IntsAre vs ns:=by intro ns;induction ns with|nil=>intro vs w;rw[map_nil]at w;cases w;exact .nil|cons n ns ih=>intro vs w;rw[map_cons]at w;cases w with|cons a b=>cases a;exact .cons _ _ (ih _ b)
theorem Bk{l:OpenLaw}{n:Nat}(hn:l.most=some n){P:Params}{h:Heap}{args:List WData}{vals:List Value}(hpre:l.row.toRowW.claim.pre args=true)(hwl:WellAll P h vals args):∃a vs ns,vals=[Value.ref a]/\args=[WData.list (ns.map WData.int)]/\h.get? a=some {cls:=.type "list",data:=.seq vs.toArray}/\IntsAre vs ns/\ns.length<=n:=by
 have hsh:WShape.hasAll [] args [.list .int]=true:=(pre_splitW hpre).1;have hc:l.pre.holds [] {args:=args}=true:=(pre_splitW hpre).2;obtain⟨d,r,rfl,h1,h2⟩:=hasAllW_cons hsh;obtain rfl:=hasAllW_nil h2;obtain⟨xs,rfl,h3⟩:=hasW_list h1;obtain⟨ns,rfl⟩:=items_int h3;have hlen:ns.length<=n:=by
  unfold OpenLaw.pre at hc;have h4:(WTm.not (.lt (.lit (.int (n:Int))) (.len (.arg 0)))).holds [] {args:=[.list (ns.map .int)]}=true:=by have h4:=(holds_andW hc).1;rw[hn]at h4;exact h4
  have h5:=condW_of h4 (w_not (w_lt w_lit (w_len_list (w_arg rfl))));rw[length_map]at h5;refine Nat.le_of_not_lt fun q=>?_;have q':(n:Int)<((ns.length:Nat):Int):=by omega
  first|(rw[decide_eq_true q']at h5;exact absurd h5 (by decide))|(simp at h5;omega)
 cases hwl with|cons w1 w2=>cases w2;cases w1 with|list ho hall=>exact⟨_,_,ns,rfl,rfl,ho,nW ns _ hall,hlen⟩
theorem Cp(l:OpenLaw)(args:List WData):l.row.toRowW.claim.post args (.bool true) args=true:=postW_of (r:=l.row.toRowW) (X:=(true==true)) (show WShape.has [] (.bool true) .bool=true by first|rfl|decide|simp[WShape.has,WShape.arms,WShape.armsAll]) (show(WTm.eq .res (.lit (.bool true))).value [] {args:=args,res:=some (.bool true),after:=args}=some (.bool (true==true))from w_eq_bool (w_res rfl) w_lit) rfl
theorem vN{l:OpenLaw}{n:Nat}{q:Program}{loose:List Str}{XP:(Str->Option Value)->Heap->Prop}{YP:World->Heap->Prop}{d:DefRec}(hn:l.most=some n)(hdf:d.params.defaults=[])(call:∀(w:World)(s₀ s₁:Shared)(mg mb:Str->Option Value)(fa:Addr)(o:Obj)(pm cd doc:Value)(a:Addr)(vs:List Value)(ns:List Int),Ground q loose [] XP w s₀ mg mb s₁.heap->YP w s₁.heap->s₁.heap.get? fa=some o->o.data=.func (docDef d.name d.params d.body d.scope pm cd doc)->s₁.heap.CodeRec cd d.name->mg d.name=some (.ref fa)->s₁.heap.get? a=some {cls:=.type "list",data:=.seq vs.toArray}->IntsAre vs ns->ns.length<=n->s₁.gens=#[]->codeAny (model l.prog w) callerA (.call (.ref fa) ⟨[.ref a],[]⟩) (fun r s'=>r=.ok (.ret (.bool true))/\OldK s₁.heap s'.heap/\s'.os=s₁.os/\AllBare s'.gens) s₁):WalkO q loose XP YP l.row.toRowW d [] (fun f vs=>PySem.call f vs):=by intro w s₀ s₁ mg mb G Y fa o pm cd doc dV kV ho hd hcd hD hmg hg args vals as hpre hlay hrd hwl hlo;obtain rfl:dV=.none:=Dflts.none hD hdf;obtain rfl:kV=.none:=Dflts.noKw hD;obtain⟨a,vs,ns,rfl,rfl,hobj,hints,hlen⟩:=Bk hn hpre hwl;refine enter_call (codeAny_mono (call w s₀ s₁ mg mb fa o pm cd doc a vs ns G Y ho (fd_plain hd) hcd hmg hobj hints hlen hg) fun r s' hq=>?_);obtain⟨rfl,h2,h3,h4⟩:=hq;exact⟨.inl ⟨.bool true,.bool true,[],rfl,fun _=>rfl,.bool true,Cp l _,fun _=>⟨List.Pairwise.nil,fun _ hm=>(nomatch hm)⟩⟩,h2,h3,h4⟩
end Zh
namespace L2
open PySem PySem.Spec PyProof.Rows
theorem sS:∀{vs:List Value}{ns:List Int},IntsAre vs ns->Vals (ns.map V.int) vs|_,_,.nil=>.nil|_,_,.cons n t h=>.cons ⟨t,rfl⟩ (sS h)
def Only(H:Hp):Prop:=∀b,H b=none\/∃o xs,H b=some (.cU o (.lst xs))
theorem GQ{P:Program}{w:World}{K:PySem.W.Frag}{mg mb:Str->Option Value}{CX:Ex}{k:Nat}{fa a:Addr}{fd:FuncData}{x:Str}{sp:Sp}{s₁:Shared}{vs:List Value}{ns:List Int}(KX:K.In s₁.heap)(hns:s₁.heap.Ns mainGlobals mg)(hb:s₁.heap.Ns builtinsNs mb)(hbb:∀x:Str,x≠"__name__"->mb x=bootBuiltins x)(hlim:s₁.heap.NoLimit)(hg:s₁.gens=#[])(ha:s₁.heap.get? a=some {cls:=.type "list",data:=.seq vs.toArray})(hi:IntsAre vs ns)(hl:ns.length<=sizeLine)(hr:jr k callerA)(F:∀base:Heap,K.In base->base.Ns mainGlobals mg->bV P w K mg base CX k fa fd [x] sp)(hbind:∀(s:Shared)(u:Value),BindsTo s fd ⟨[u],[]⟩ [(x,u)])(hsp:∀H:Hp,Only H->dI K H a (ns.map V.int)->sp [.ref a] H (fun v _=>v=.bl true) fun _ _ _=>False)(WT:∀H e s',CX [] H s₁ (fun _ _ _=>False) e s'->False):codeAny (model P w) callerA (.call (.ref fa) ⟨[.ref a],[]⟩) (fun r s'=>r=.ok (.ret (.bool true))/\OldK s₁.heap s'.heap/\s'.os=s₁.os/\AllBare s'.gens) s₁:=by
 have rv:=sS hi;have lenV:=hi.length--from an abstract heap in which nothing but the script may be tracked
 have core:∀H:Hp,Only H->dI K H a (ns.map V.int)->lZ P w H s₁.heap->(∀b,H b≠none->b=a)->(H a≠none->K.lookup a=none)->codeAny (model P w) callerA (.call (.ref fa) ⟨[.ref a],[]⟩) (fun r s'=>r=.ok (.ret (.bool true))/\OldK s₁.heap s'.heap/\s'.os=s₁.os/\AllBare s'.gens) s₁:=by
  intro H hO hS hok hA hK;have Ao:∀{b:Addr}{o:Obj},s₁.heap.get? b=some o->H b=none->(tL s₁.heap H).get? b=some o:=fun e n=>G9 e n;have WR:∀{b:Addr}{o:Obj}{es:Array DictEntry}{ep:Nat},s₁.heap.get? b=some o->o.data=.dict es ep->H b=none:=fun{b o es ep}e d=>by cases q:H b with|none=>rfl|some u=>have e':b=a:=hA b (by rw[q];simp);subst e';rw[ha]at e;cases e;have d':Data.seq vs.toArray _=Data.dict es ep:=d;cases d'
  have Zi:∀{b:Addr}{m:Str->Option Value},s₁.heap.Ns b m->(tL s₁.heap H).Ns b m:=fun{b m}⟨o,es,ep,e,d,r⟩=>⟨o,es,ep,Ao e (WR e d),d,r⟩;have hKb:K.In (tL s₁.heap H):=fun b o e=>Ao (KX b o e) (by cases q:H b with|none=>rfl|some u=>have e':b=a:=hA b (by rw[q];simp);subst e';rw[hK (by rw[q];simp)]at e;cases e);have hM:Mod K mg (tL s₁.heap H):=⟨hKb,Zi hns,⟨mb,Zi hb,hbb⟩,let⟨mc,h1,h2⟩:=hlim;⟨mc,Zi h1,h2⟩⟩;have e0:J7 P w K mg (tL s₁.heap H) callerA [] s₁ H:=⟨rfl,hM,fun b o e=>Km e,Nat.le_of_eq (Bh _ _),trivial,fun b hb=>absurd (show b∈([]:List Addr)from hb) (by simp),hok,.of_eq hg⟩;refine codeAny_mono ((F _ hKb (Zi hns)).run callerA [] s₁ H ⟨[.ref a],[]⟩ [.ref a] [.ref a] _ _ hr e0 (hbind s₁ (.ref a)) (.cons rfl .nil) (hsp H hO hS)) fun r s' h=>?_;cases r with|error e=>exact(WT H e s' h).elim|ok fl=>cases fl with|next=>exact False.elim h|brk=>exact False.elim h|cont=>exact False.elim h|ret u=>obtain⟨v,H',os,bare,un,hok',r',q⟩:=h;have q':v=.bl true:=q;subst q';obtain rfl:u=Value.bool true:=r';refine⟨rfl,OldK.of_keep fun b o e=>?_,os,bare⟩;cases q:H b with|none=>exact un.keep b o e q (by intro z;exact absurd (show b∈([]:List Addr)from z) (by simp)) (by simp)|some u=>
        rcases hO b with z|⟨ob,xs,z⟩;.rw[q]at z;cases z
        .have z2:=un.uN b ob _ z;obtain⟨e1,_⟩:=hok b _ z;obtain⟨e2,_⟩:=hok' b _ z2;rw[e]at e1;cases e1;exact e2
 cases hk:K.lookup a with|some o=>--the script is one of the module's own objects
   have e:=KX a o hk;rw[ha]at e;cases e;refine core (fun _=>none) (fun _=>.inl rfl) (.inr ⟨_,vs.toArray,_,hk,rfl,rfl,rfl,by rw[size_toArray,lenV];exact hl,by simpa using rv⟩) (fun b u z=>by have z':(none:Option HO)=some u:=z;cases z') (fun b z=>absurd rfl z) fun z=>absurd rfl z|none=>
   refine core (fun b=>if b=a then some (.cU {cls:=.type "list",data:=.seq vs.toArray} (.lst (ns.map V.int)))else none) (fun b=>?_) (.inl (.inr ⟨{cls:=.type "list",data:=.seq vs.toArray},if_pos rfl⟩)) (fun b u z=>?_) (fun b z=>?_) fun _=>hk
   . by_cases hb:b=a;.exact .inr ⟨_,_,if_pos hb⟩
     .exact .inl (if_neg hb)
   . by_cases hb:b=a;.have z':=(if_pos hb).symm.trans z;cases z';subst hb;exact⟨ha,by rw[length_map];exact hl,vs,_,rv,ha⟩
     .have z':=(if_neg hb).symm.trans z;cases z'
   . by_cases hb:b=a;.exact hb
     .exact absurd (if_neg hb) z
theorem JP{l:PySem.W.OpenLaw}{n k:Nat}{q:Program}{loose:List Str}{XP:(Str->Option Value)->Heap->Prop}{YP:World->Heap->Prop}{d:DefRec}{K:Params->PySem.W.Frag}{CX:World->Ex}{sp:World->Sp}{x:Str}(hn:l.most=some n)(hn2:n<=sizeLine)(hdf:d.params.defaults=[])(hr:jr k callerA)(hY:∀(w:World)(h:Heap),YP w h->(K w.params).In h)(F:∀(w:World)(mg:Str->Option Value)(fa:Addr)(h:Heap),(K w.params).In h->h.Ns mainGlobals mg->mg d.name=some (.ref fa)->∃ fd:FuncData,(∀(s:Shared)(u:Value),BindsTo s fd ⟨[u],[]⟩ [(x,u)])/\∀base:Heap,(K w.params).In base->base.Ns mainGlobals mg->bV l.prog w (K w.params) mg base (CX w) k fa fd [x] (sp w))(hsp:∀(w:World)(H:Hp)(a:Addr)(ns:List Int),ns.length<=n->Only H->dI (K w.params) H a (ns.map V.int)->sp w [.ref a] H (fun v _=>v=.bl true) fun _ _ _=>False)(WT:∀(w:World)(H:Hp)(s:Shared)(e:Value)(s':Shared),CX w [] H s (fun _ _ _=>False) e s'->False):PySem.W.WalkO q loose XP YP l.row.toRowW d [] (fun f vs=>PySem.call f vs):=by refine Zh.vN hn hdf fun w s₀ s₁ mg mb fa o pm cd doc a vs ns G Y ho hd hcd hmg hobj hints hlen hg=>?_;have KX:=hY w _ Y;obtain⟨fd,hb,hF⟩:=F w mg fa _ KX G.T.g hmg;exact GQ KX G.T.g G.T.b G.T.builtins G.T.nolimit hg hobj hints (le_trans hlen hn2) hr hF hb (fun H hO hS=>hsp w H a ns hlen hO hS) fun H e s'=>WT w H s₁ e s'
theorem G3{l:PySem.W.OpenLaw}{n k:Nat}{q:Program}{loose:List Str}{XP:(Str->Option Value)->Heap->Prop}{YP:World->Heap->Prop}{d:DefRec}{K:Params->PySem.W.Frag}{CX:Ex}{sp:PySem.W.Frag->Sp}{x:Str}(hn:l.most=some n)(hn2:n<=sizeLine)(hdf:d.params.defaults=[])(hr:jr k callerA)(hY:∀(w:World)(h:Heap),YP w h->(K w.params).In h)(F:∀(w:World)(mg:Str->Option Value)(fa:Addr)(h:Heap),(K w.params).In h->h.Ns mainGlobals mg->mg d.name=some (.ref fa)->∃ fd:FuncData,(∀(s:Shared)(u:Value),BindsTo s fd ⟨[u],[]⟩ [(x,u)])/\∀base:Heap,(K w.params).In base->base.Ns mainGlobals mg->bV l.prog w (K w.params) mg base CX k fa fd [x] (sp (K w.params)))(hsp:∀(K:PySem.W.Frag)(H:Hp)(a:Addr)(ns:List Int),ns.length<=n->Only H->dI K H a (ns.map V.int)->sp K [.ref a] H (fun v _=>v=.bl true) fun _ _ _=>False)(WT:∀(H:Hp)(s:Shared)(e:Value)(s':Shared),CX [] H s (fun _ _ _=>False) e s'->False):PySem.W.WalkO q loose XP YP l.row.toRowW d [] (fun f vs=>PySem.call f vs):=JP (K:=K) (CX:=fun _=>CX) (sp:=fun w=>sp (K w.params)) hn hn2 hdf hr hY F (fun w H a ns h1 h2 h3=>hsp (K w.params) H a ns h1 h2 h3) fun _ H s e s'=>WT H s e s'
end L2/-THE LAST THEOREM(shape;LID,My.*are ad4):My.Adr:a structure of the addresses that your layer names(classes,functions);My.Txt K t:a structure(Prop)of the equations over K;My.acv:{K}{implicit addresses..}(e1:nsIn K mainGlobals"law"=some(some(.ref f)))(e2:K.lookup f=some⟨oc,od,.func(fnOf"law""law"params body scope dV kV doc pm an cdv ct),sl⟩)(e3:codeIn K cdv"law"=true)..:∃t,My.Txt K t;set_option maxRecDepth 100000 in;set_option maxHeartbeats 0 in(the tactic k_is has no namespace:write k_is)-/
namespace L2
open PySem PySem.Spec PyProof.Rows
noncomputable def iz(s:Stmt):Arguments:=match s with|.FunctionDef _ a _ _ _ _ _ _ _ _=>a|_=>{posonlyargs:=[],args:=[],vararg:=none,kwonlyargs:=[],kw_defaults:=[],kwarg:=none,defaults:=[]}
noncomputable def fH(s:Stmt):List Stmt:=match s with|.FunctionDef _ _ b _ _ _ _ _ _ _=>b|_=>[]
noncomputable def aC(s:Stmt):Scope:=match s with|.FunctionDef _ _ _ _ _ _ sc _ _ _=>sc|_=>{kind:=.function,names:=[],isGenerator:=false,isCoroutine:=false}
abbrev gh:Ex:=fun _ _ _ _ _ _=>False
abbrev E0:XK:=fun _ _ _=>False
theorem UL{X:Cx}:Passes gh X E0:=fun _ _ _ _ _ _ _ h=>h.elim
structure gD(K:PySem.W.Frag)(x qual:Str)(st:Stmt)(f:Addr)(fd:FuncData):Prop where
 ex:∃(oc:Value)(od:Option Addr)(kV doc pm:Value)(an:Option Addr)(cdv ct:Value)(osl:Array (Option Value)),fd=PySem.W.fnOf x qual (iz st) (fH st) (aC st) .none kV doc pm an cdv ct/\K.lookup f=some ⟨oc,od,.func fd,osl⟩/\PySem.W.codeIn K cdv qual=true
 kp:keepIn K (.ref f)=true
section
variable{P:Program}{w:World}{K:PySem.W.Frag}{mg:Str->Option Value}{base:Heap}
theorem gD.ok{x qual:Str}{st:Stmt}{f:Addr}{fd:FuncData}{N ps:List Str}{k:Nat}{sp:Sp}(F:gD K x qual st f fd)(S:aN N ps (aC st))(len:∀vs H Q E,sp vs H Q E->vs.length=ps.length)(hbody:∀(cdv:Value)(A:Around)(outer:List Env)(s:Shared)(H:Hp)(vs:List V)(Q:VK)(E:XK),jr k (A.deeper (envOfC qual (aC st) s.heap.objs.size f cdv))->sp vs H Q E->∃t,v5 (yp gh P w K mg base N qual (aC st) f cdv A outer s H E).U5 (fH st) t/\t {nx:=fun _ H'=>Q .non H',rt:=Q} (start N vs) H):bV P w K mg base gh (k+1) f fd ps sp:=by obtain⟨oc,od,kV,doc,pm,an,cdv,ct,osl,rfl,lk,hcd⟩:=F.ex;refine Vl lk hcd S len fun A outer s H vs Q E hr hsp=>?_;obtain⟨t,h,q⟩:=hbody cdv A outer s H vs Q E hr hsp;exact⟨t,h.U5,q⟩
theorem gD.binds{x qual:Str}{st:Stmt}{f:Addr}{fd:FuncData}{ps:List Str}(F:gD K x qual st f fd)(h:∀(kV doc pm:Value)(an:Option Addr)(cdv ct:Value)(us:List Value),us.length=ps.length->bindArgs (PySem.W.fnOf x qual (iz st) (fH st) (aC st) .none kV doc pm an cdv ct) ⟨us,[]⟩=pure (ps.zip us)):Binds K fd ps []:=by obtain⟨oc,od,kV,doc,pm,an,cdv,ct,osl,rfl,lk,hcd⟩:=F.ex;exact .all (h kV doc pm an cdv ct)
theorem Nh{x qual:Str}{st:Stmt}{f:Addr}{oc:Value}{od an:Option Addr}{osl:Array (Option Value)}{kV doc pm cdv ct:Value}(l:K.lookup f=some ⟨oc,od,.func (PySem.W.fnOf x qual (iz st) (fH st) (aC st) .none kV doc pm an cdv ct),osl⟩)(c:PySem.W.codeIn K cdv qual=true)(k:keepIn K (.ref f)=true):gD K x qual st f (PySem.W.fnOf x qual (iz st) (fH st) (aC st) .none kV doc pm an cdv ct):=⟨⟨oc,od,kV,doc,pm,an,cdv,ct,osl,rfl,l,c⟩,k⟩
end
def aL(H H':Hp):Prop:=∀b o,H b=some o->H' b=some o
theorem aL.refl(H:Hp):aL H H:=fun _ _ h=>h
theorem aL.trans{H H1 H2:Hp}(a:aL H H1)(b:aL H1 H2):aL H H2:=fun c o h=>b c o (a c o h)
theorem aL.seq{K:PySem.W.Frag}{H H':Hp}{a:Addr}{xs:List V}(e:aL H H')(h:dI K H a xs):dI K H' a xs:=by
 rcases h with(h|⟨o,h⟩)|h;.exact .inl (.inl (e _ _ h))
 .exact .inl (.inr ⟨o,e _ _ h⟩)
 .exact .inr h
end L2
end
section
namespace HH
open PySem
inductive Dc where|k(kvs:List (Int×Int))|t(kvs:List (List Int×Int))deriving DecidableEq
inductive D where|non|bl(b:Bool)|int(i:Int)|str(s:Str)|tup(ds:List D)|lst(ds:List D)|dC(m:Dc)|dv(ks:List Int)(ds:List D)deriving Inhabited
mutual
noncomputable def jM:D->D->Bool|.non,.non=>true|.bl a,.bl b=>a==b|.bl a,.int i=>(if a then(1:Int)else 0)==i|.int i,.bl a=>i==(if a then(1:Int)else 0)|.int i,.int j=>i==j|.str a,.str b=>a==b|.tup xs,.tup ys=>gQ xs ys|.lst xs,.lst ys=>gQ xs ys|.dC a,.dC b=>decide (a=b)|.dv a xs,.dv b ys=>decide (a=b)&&gQ xs ys|_,_=>false
noncomputable def gQ:List D->List D->Bool|[],[]=>true|x::xs,y::ys=>jM x y&&gQ xs ys|_,_=>false
end
theorem pqi{i j}:jM (.int i) (.int j)=(i==j):=(rfl)
theorem pqt{x y}:jM (.tup x) (.tup y)=gQ x y:=(rfl)
theorem YJ{x y}:jM (.lst x) (.lst y)=gQ x y:=(rfl)
noncomputable def du:Nat->D->Bool|_,.non=>true|_,.bl _=>true|_,.int _=>true|_,.str _=>true|0,.tup _=>false|0,.lst _=>false|_,.dC _=>false|_,.dv _ _=>false|n+1,.tup ds=>ds.all (du n)|n+1,.lst ds=>ds.all (du n)
inductive Sl where|aZ|val(b:Bool)(d:D)|own(b:Bool)(ds:List D)|lent(ds:List D)|qX(m:Dc)|hold(rows:List (List D))|dh(kvs:List (Int×D))deriving Inhabited
inductive R where|val(d:D)|own(ds:List D)deriving Inhabited
noncomputable def R.d:R->D|.val d=>d|.own ds=>.lst ds
inductive Res(α:Type)where|ok(a:α)(ρ:List Sl)|exc(k:Nat)(ρ:List Sl)|stuck deriving Inhabited
noncomputable def Res.bind{α β:Type}(f:α->List Sl->Res β):Res α->Res β|.ok a ρ=>f a ρ|.exc _ _=>.stuck|.stuck=>.stuck
noncomputable def lift{α:Type}(o:Option α)(ρ:List Sl):Res α:=match o with|some a=>.ok a ρ|none=>.stuck
inductive Op where|add|sub|mul|fdiv|mod|pow|shl|shr|band|Cv|Zj|acw deriving DecidableEq
inductive Cm where|eq|ne|lt|le|gt|ge|isN|K1|inn|qH|isT|WW|leT deriving DecidableEq
inductive Ty where|int|bool|str|tuple|list|none deriving DecidableEq
inductive Xm where|len|list|tuple|max2|Cw|sum|all|int|rvs|keys|sset|T4|m8|Zk deriving DecidableEq
inductive P where|var(i:Nat)|con(d:D)|bin(o:Op)(a b:P)|neg(a:P)|not(a:P)|and(a b:P)|or(a b:P)|cmp(o:Cm)(a b:P)|chain(o o':Cm)(a b c:P)|M3(c a b:P)|tup(as:List P)|lst(as:List P)|idx(a i:P)|slice(a lo hi:P)|call(f:Nat)(as:List P)|blt(b:Xm)(as:List P)|inst(ts:List Ty)(a:P)|comp(src:P)(n:Nat)(is:List Nat)(one:Bool)(test:Option P)(elt:P)|oX(a b:P)|T5(a:P)|zip(a b:P)|vw(x:Nat)|M4(x:Nat)(k:P)|M5(x:Nat)(k:P)(neg:Bool)|wV(k e:Int)deriving Inhabited
noncomputable abbrev lim:Nat:=16777216
noncomputable def ql:D->D->Option R|.int i,.int j=>some (.val (.int (i+j)))|.lst xs,.lst ys=>if xs.length+ys.length<=lim then some (.own (xs++ys))else none|.tup xs,.tup ys=>if xs.length+ys.length<=lim then some (.val (.tup (xs++ys)))else none|.str x,.str y=>if x.length+y.length<=lim then some (.val (.str (x++y)))else none|_,_=>none
noncomputable def p7:D->D->Option R|.int i,.int j=>if((-18446744073709551616<i/\i<18446744073709551616)\/(-18446744073709551616<j/\j<18446744073709551616))then some (.val (.int (i*j)))else none|.lst xs,.int k=>if 0<=k/\0<xs.length/\xs.length*k.toNat<=lim then some (.own (replicate k.toNat xs).flatten)else none|.tup xs,.int k=>if 0<=k/\0<xs.length/\xs.length*k.toNat<=lim then some (.val (.tup (replicate k.toNat xs).flatten))else none|_,_=>none
noncomputable def wJ:D->D->Option R|.int i,.int j=>some (.val (.int (i-j)))|_,_=>none
noncomputable def o6:D->D->Option R|.int i,.int j=>if 0<j/\j<1606938044258990275541962092341162602522202993782792835301376 then some (.val (.int (i/j)))else none|_,_=>none
noncomputable def vZ:D->D->Option R|.int i,.int j=>if 0<j then some (.val (.int (i%j)))else none|_,_=>none
noncomputable def wg:D->D->Option R|.int i,.int j=>if 0<=j/\j<=1000/\i.natAbs<18446744073709551616 then some (.val (.int (i^j.toNat)))else none|_,_=>none
noncomputable def vy:D->D->Option R|.int i,.int j=>if 0<=j/\j<=1000/\i.natAbs<18446744073709551616 then some (.val (.int (i*2^j.toNat)))else none|_,_=>none
noncomputable def vW:D->D->Option R|.int i,.int j=>if 0<=j then some (.val (.int (i/2^j.toNat)))else none|_,_=>none
noncomputable def pX:D->D->Option R|.int i,.int j=>some (.val (.int (Builtin.bitAnd i j)))|_,_=>none
noncomputable def flat:D->Bool|.tup _=>false|.lst _=>false|.dC _=>false|.dv _ _=>false|_=>true
noncomputable def items:D->Option (List D)|.lst ds=>some ds|.tup ds=>some ds|_=>none
noncomputable def N8:D->Option (List D)|.tup ds=>some ds|_=>none
noncomputable def Gy(x y:D):Option Bool:=if du 8 x&&du 8 y then some (jM x y)else none
noncomputable def Gb(x y:D):Option Bool:=if du 8 x&&du 8 y then some (!jM x y)else none
noncomputable def HW(f:Int->Int->Bool):D->D->Option Bool|.int i,.int j=>some (f i j)|_,_=>none
noncomputable def je:D->Bool|.non=>true|_=>false
noncomputable def Yz(neg:Bool)(x:D):D->Option Bool|.non=>some (if neg then !je x else je x)|_=>none
noncomputable def nM(neg:Bool)(x y:D):Option Bool:=(items y).bind fun ys=>if(flat x&&ys.all flat)=true then some (if neg then !(ys.any fun y=>jM y x)else ys.any fun y=>jM y x)else none
noncomputable def cmT(neg:Bool):D->D->Option Bool|.bl b,.bl true=>some (if neg then !b else b)|_,_=>none
noncomputable def cR:List Int->List Int->Bool|[],_::_=>true|i::is,j::js=>decide (i<j)||(decide (i=j)&&cR is js)|_,[]=>false
noncomputable def cP:D->Int|.int i=>i|_=>0
noncomputable def mR:D->List Int|.int i=>[i]|.tup ds=>ds.map cP|_=>[]
noncomputable def dW:D->Bool|.int _=>true|_=>false
noncomputable def Dc.get:Dc->D->Option (Option Int)|.k kvs,.int i=>some ((kvs.find? fun kv=>decide (kv.1=i)).map (·.2))|_,_=>none
noncomputable def putD{κ:Type}[DecidableEq κ](kvs:List (κ×Int))(k:κ)(v:Int):List (κ×Int):=if(kvs.any fun kv=>decide (kv.1=k))=true then kvs.map (fun kv=>if kv.1=k then(kv.1,v)else kv)else kvs++[(k,v)]
noncomputable def Dc.put:Dc->D->Int->Option Dc|.k kvs,.int i,v=>if kvs.length<lim then some (.k (putD kvs i v))else none|_,_,_=>none
noncomputable def Dc.ab8:Dc->List D->Option (Option Int)|.t kvs,ds=>if ds.all dW=true then some ((kvs.find? fun kv=>decide (kv.1=ds.map cP)).map (·.2))else none|_,_=>none
noncomputable def Dc.putT:Dc->List D->Int->Option Dc|.t kvs,ds,v=>if ds.all dW=true/\kvs.length<lim then some (.t (putD kvs (ds.map cP) v))else none|_,_,_=>none
noncomputable def adL:D->List D->Option R|.dC m,ks=>(m.ab8 ks).bind fun o=>o.map fun v=>.val (.int v)|_,_=>none
noncomputable def mG(kvs:List (Int×D))(k:Int):Option D:=(kvs.find? fun p=>decide (p.1=k)).map (·.2)
noncomputable def jn(kvs:List (Int×D))(k:Int)(d:D):List (Int×D):=if(kvs.any fun p=>decide (p.1=k))=true then kvs.map (fun p=>if p.1=k then(p.1,d)else p)else kvs++[(k,d)]
noncomputable def vY(neg:Bool):D->D->Option R|.int k,.dv ks _=>some (.val (.bl (if neg then !ks.contains k else ks.contains k)))|_,_=>none
noncomputable def zp:D->D->Option R|.dC m,k=>(m.get k).bind fun o=>o.map fun v=>.val (.int v)|.dv ks ds,.int k=>(mG (ks.zip ds) k).map .val|_,_=>none
noncomputable def oE:Op->D->D->Option R|.add=>ql|.mul=>p7|.sub=>wJ|.fdiv=>o6|.mod=>vZ|.pow=>wg|.shl=>vy|.shr=>vW|.band=>pX|.Cv=>zp|.Zj=>vY false|.acw=>vY true
noncomputable def VM:D->D->Option Bool|.int i,.int j=>some (decide (i<j))|.tup xs,.tup ys=>if(xs.all dW&&ys.all dW)=true then some (cR (xs.map cP) (ys.map cP))else none|_,_=>none
noncomputable def ZM:D->D->Option Bool|.int i,.int j=>some (decide (i<=j))|.tup xs,.tup ys=>if(xs.all dW&&ys.all dW)=true then some (!cR (ys.map cP) (xs.map cP))else none|_,_=>none
noncomputable def cm:Cm->D->D->Option Bool|.eq=>Gy|.ne=>Gb|.lt=>VM|.le=>HW fun i j=>decide (i<=j)|.leT=>ZM|.gt=>HW fun i j=>decide (j<i)|.ge=>HW fun i j=>decide (j<=i)|.isN=>Yz false|.K1=>Yz true|.inn=>nM false|.qH=>nM true|.isT=>cmT false|.WW=>cmT true
noncomputable def oA(o:Cm)(x y:D):Option R:=(cm o x y).map fun k=>.val (.bl k)
noncomputable def uT(ks:List Int)(k:Int):List Int:=if ks.contains k=true then ks else ks++[k]
noncomputable def cZ(ns:List Int):List Int:=ns.foldl uT []
noncomputable def iH(n:Nat)(i:Int):Option Nat:=if 0<=i then(if i<n then some i.toNat else none)else if-(n:Int)<=i then some (i+n).toNat else none
noncomputable def at'{α:Type}(xs:List α)(i:Int):Option α:=(iH xs.length i).bind fun j=>xs[j]?
noncomputable def cV(n d:Nat):Option Int->Nat|none=>d|some i=>if 0<=i then min i.toNat n else(i+n).toNat
noncomputable def cut{α:Type}(xs:List α)(lo hi:Option Int):List α:=(xs.drop (cV xs.length 0 lo)).take (cV xs.length xs.length hi-cV xs.length 0 lo)
noncomputable def optI:D->Option (Option Int)|.non=>some none|.int i=>some (some i)|_=>none
noncomputable def jd:D->Option Int|.int i=>some i|_=>none
noncomputable def xV:D->Option Bool|.bl b=>some b|_=>none
noncomputable def J6(x y:D):Option R:=(items x).bind fun ds=>(jd y).bind fun i=>(at' ds i).map .val
noncomputable def Ew(x:D):Option R:=(jd x).map fun i=>.val (.int (-i))
noncomputable def vJ:P->Bool|.con .non=>true|_=>false
noncomputable def part(p:P)(d:D):Option (Option Int):=if vJ p then some none else(jd d).map some
noncomputable def Bd:D->Option (Option Int)->Option (Option Int)->Option R|.lst xs,some lo,some hi=>some (.own (cut xs lo hi))|.tup xs,some lo,some hi=>some (.val (.tup (cut xs lo hi)))|_,_,_=>none
noncomputable def cJ:Ty->D->Bool|.int,.int _=>true|.int,.bl _=>true|.bool,.bl _=>true|.str,.str _=>true|.tuple,.tup _=>true|.list,.lst _=>true|.none,.non=>true|_,_=>false
noncomputable def xY:D->Bool|.tup (x::xs)=>(x::xs).all dW|_=>false
noncomputable def sortable(ds:List D):Bool:=decide (ds.length<=16777216)&&(ds.all dW||ds.all xY)
noncomputable def kh(ds:List D):List D:=ds.mergeSort fun a b=>!cR (mR b) (mR a)
noncomputable def xR:D->Option (List D)|.lst ds=>some ds|_=>none
noncomputable def blt:Xm->List D->Option R|.len,[x]=>(items x).map fun ds=>.val (.int ds.length)|.list,[x]=>(items x).map fun ds=>.own ds|.tuple,[x]=>(items x).map fun ds=>.val (.tup ds)|.max2,[.int i,.int j]=>some (.val (.int (if i<j then j else i)))|.Cw,[x]=>((items x).bind fun ds=>ds.mapM jd).bind fun ns=>ns.min?.map fun i=>.val (.int i)|.sum,[x]=>((items x).bind fun ds=>ds.mapM jd).map fun ns=>.val (.int ns.sum)|.all,[x]=>((xR x).bind fun ds=>ds.mapM xV).map fun bs=>.val (.bl (bs.all id))|.int,[.int i]=>some (.val (.int i))|.int,[.bl b]=>some (.val (.int (if b then 1 else 0)))|.rvs,[.tup ds]=>some (.val (.tup ds.reverse))|.keys,[.dC (.k kvs)]=>some (.val (.tup (kvs.map fun p=>.int p.1)))|.keys,[.dv ks _]=>some (.val (.tup (ks.map D.int)))|.sset,[.lst ds]=>if ds.length<64/\ds.all dW=true then some (.own (kh ((cZ (ds.map cP)).map D.int)))else none|.sset,[.tup ds]=>if ds.length<64/\ds.all dW=true then some (.own (kh ((cZ (ds.map cP)).map D.int)))else none|.T4,[.dv ks _]=>if ks.length<=16777216 then some (.own (ks.map D.int))else none|.Zk,[.lst ds]=>some (.val (.tup ds.reverse))|.m8,[.dv ks _]=>if ks.length<64 then some (.own (kh (ks.map D.int)))else none|_,_=>none
noncomputable def pk(ρ:List Sl)(i:Nat):Option D:=match ρ[i]?with|some (.val _ d)=>some d|some (.own _ ds)=>some (.lst ds)|some (.lent ds)=>some (.lst ds)|_=>none
noncomputable def CN(ρ:List Sl)(i:Nat):Option (List D):=match pk ρ i with|some (.lst ds)=>some ds|_=>none
noncomputable abbrev Ev:=List Sl->Res R
noncomputable def isVar:P->Option Nat|.var i=>some i|_=>none
noncomputable def dm(i:Option Nat)(e:Ev)(ρ:List Sl):Res D:=match i with|some i=>lift (pk ρ i) ρ|none=>(e ρ).bind fun r ρ=>.ok r.d ρ
noncomputable def gY(i:Option Nat)(e:Ev)(j:Option Nat)(f:Ev)(ρ:List Sl):Res (D×D):=match i with|some i=>(lift (pk ρ i) ρ).bind fun _ ρ=>(dm j f ρ).bind fun y ρ=>(lift (pk ρ i) ρ).bind fun x ρ=>.ok (x,y) ρ|none=>(dm none e ρ).bind fun x ρ=>(dm j f ρ).bind fun y ρ=>.ok (x,y) ρ
noncomputable def iy(e:Ev)(ρ:List Sl):Res Bool:=(e ρ).bind fun r ρ=>lift (xV r.d) ρ
inductive Arg where|dat(d:D)|tmp(ds:List D)|fc(i:Nat)
noncomputable def vp:R->Arg|.val d=>.dat d|.own ds=>.tmp ds
noncomputable def bQ(ρ:List Sl):List Arg->List Nat->Option (List Sl)|[],_=>some []|.dat d::r,used=>(bQ ρ r used).map fun s=>.val false d::s|.tmp ds::r,used=>(bQ ρ r used).map fun s=>.own false ds::s|.fc i::r,used=>match ρ[i]?with|some (.val _ d)=>(bQ ρ r used).map fun s=>.val false d::s|some (.own _ ds)=>if used.contains i then none else(bQ ρ r (i::used)).map fun s=>.own true ds::s|some (.lent ds)=>if used.contains i then none else(bQ ρ r (i::used)).map fun s=>.lent ds::s|_=>none
noncomputable def bj(i:Nat):List Arg->List Sl->Option Sl|.fc k::as,s::ss=>if k=i then some s else bj i as ss|.dat _::as,_::ss=>bj i as ss|.tmp _::as,_::ss=>bj i as ss|_,_=>none
noncomputable def dY:Sl->Option Sl->Sl|.own b _,some (.own _ ds)=>.own b ds|.own b _,some (.val _ d)=>.val b d|s,_=>s
noncomputable def cT(as:List Arg)(ss:List Sl):Nat->List Sl->List Sl|_,[]=>[]|i,s::ρ=>dY s (bj i as ss)::cT as ss (i+1) ρ
noncomputable abbrev Call:=Nat->List Sl->Res R
noncomputable def jZ(c:Call)(f:Nat)(as:List Arg)(ρ:List Sl):Res R:=match bQ ρ as []with|none=>.stuck|some args=>match c f args with|.ok r args'=>.ok r (cT as args' 0 ρ)|.exc _ _=>.stuck|.stuck=>.stuck
noncomputable def put(ρ:List Sl)(i:Nat)(s:Sl):Option (List Sl):=match ρ[i]?with|some .aZ=>some (ρ.set i s)|some (.val false _)=>some (ρ.set i s)|some (.own false _)=>some (ρ.set i s)|_=>none
noncomputable def putAll(ρ:List Sl):List Nat->List D->Option (List Sl)|[],[]=>some ρ|i::is,d::ds=>(put ρ i (.val false d)).bind fun ρ=>putAll ρ is ds|_,_=>none
noncomputable def bW(ρ:List Sl)(is:List Nat)(one:Bool)(d:D):Option (List Sl):=match one,is,d with|true,[i],d=>put ρ i (.val false d)|false,is,.tup ds=>putAll ρ is ds|_,_,_=>none
noncomputable def srcOf(i:Option Nat)(e:Ev)(ρ:List Sl):Res (List D):=match i with
 |some i=>match ρ[i]?with|some (.val _ d)=>lift (items d) ρ|some (.own _ ds)=>.ok ds (ρ.set i (.lent ds))|some (.lent ds)=>.ok ds ρ|_=>.stuck
 |none=>(e ρ).bind fun r ρ=>lift (items r.d) ρ
noncomputable def bC(ρ₀:List Sl)(i:Option Nat)(ρ:List Sl):List Sl:=match i with
 |some i=>match ρ₀[i]?with|some (.own b ds)=>ρ.set i (.own b ds)|_=>ρ
 |none=>ρ
noncomputable def srcZ(i:Nat)(f:Ev)(ρ:List Sl):Res (List D×List Sl):=(lift (pk ρ i) ρ).bind fun _ ρ=>(f ρ).bind fun r ρb=>(lift (items r.d) ρb).bind fun es ρb=>match ρb[i]?with|some (.val _ d)=>(lift (items d) ρb).bind fun ds ρb=>.ok ((ds.zip es).map fun p=>D.tup [p.1,p.2],ρb) ρb|some (.own _ ds)=>.ok ((ds.zip es).map fun p=>D.tup [p.1,p.2],ρb) (ρb.set i (.lent ds))|some (.lent ds)=>.ok ((ds.zip es).map fun p=>D.tup [p.1,p.2],ρb) ρb|_=>.stuck
noncomputable def turns(is:List Nat)(one:Bool)(test:List Sl->Res Bool)(elt:Ev):List D->List D->List Sl->Res (List D)|[],acc,ρ=>.ok acc ρ|d::r,acc,ρ=>match bW ρ is one d with|none=>.stuck|some ρ=>(test ρ).bind fun b ρ=>if b then(elt ρ).bind fun x ρ=>turns is one test elt r (acc++[x.d]) ρ else turns is one test elt r acc ρ
mutual
noncomputable def ev(c:Call):P->List Sl->Res R
 |.var i,ρ=>match ρ[i]?with|some (.val _ d)=>.ok (.val d) ρ|some (.own b ds)=>.ok (.val (.lst ds)) (ρ.set i (.val b (.lst ds)))|some (.qX (.k kvs))=>.ok (.val (.dC (.k kvs))) (ρ.set i (.val false (.dC (.k kvs))))|some (.dh kvs)=>.ok (.val (.dv (kvs.map (·.1)) (kvs.map (·.2)))) (ρ.set i (.val false (.dv (kvs.map (·.1)) (kvs.map (·.2)))))|_=>.stuck
 |.con d,ρ=>.ok (.val d) ρ|.bin o a b,ρ=>(gY (isVar a) (ev c a) (isVar b) (ev c b) ρ).bind fun xy ρ=>lift (oE o xy.1 xy.2) ρ|.neg a,ρ=>(dm (isVar a) (ev c a) ρ).bind fun x ρ=>lift (Ew x) ρ|.not a,ρ=>(iy (ev c a) ρ).bind fun b ρ=>.ok (.val (.bl (!b))) ρ|.and a b,ρ=>(iy (ev c a) ρ).bind fun x ρ=>if x then(iy (ev c b) ρ).bind fun y ρ=>.ok (.val (.bl y)) ρ else .ok (.val (.bl false)) ρ|.or a b,ρ=>(iy (ev c a) ρ).bind fun x ρ=>if x then .ok (.val (.bl true)) ρ else(iy (ev c b) ρ).bind fun y ρ=>.ok (.val (.bl y)) ρ|.cmp o a b,ρ=>(gY (isVar a) (ev c a) (isVar b) (ev c b) ρ).bind fun xy ρ=>lift (oA o xy.1 xy.2) ρ|.chain o o' a b d,ρ=>(gY (isVar a) (ev c a) (isVar b) (ev c b) ρ).bind fun xy ρ=>(lift (if flat xy.2=true then cm o xy.1 xy.2 else none) ρ).bind fun k ρ=>if k then(dm (isVar d) (ev c d) ρ).bind fun z ρ=>lift (oA o' xy.2 z) ρ else .ok (.val (.bl false)) ρ|.M3 t a b,ρ=>(iy (ev c t) ρ).bind fun k ρ=>if k then(ev c a ρ).bind fun r ρ=>.ok (.val r.d) ρ else(ev c b ρ).bind fun r ρ=>.ok (.val r.d) ρ|.tup as,ρ=>(evs c as ρ).bind fun ds ρ=>.ok (.val (.tup ds)) ρ|.lst as,ρ=>(evs c as ρ).bind fun ds ρ=>.ok (.own ds) ρ|.idx a i,ρ=>(gY (isVar a) (ev c a) (isVar i) (ev c i) ρ).bind fun xy ρ=>lift (J6 xy.1 xy.2) ρ|.slice a l h,ρ=>match isVar a with|some i=>(lift (pk ρ i) ρ).bind fun _ ρ=>(dm (isVar l) (ev c l) ρ).bind fun y ρ=>(dm (isVar h) (ev c h) ρ).bind fun z ρ=>(lift (pk ρ i) ρ).bind fun x ρ=>lift (Bd x (part l y) (part h z)) ρ|none=>(dm none (ev c a) ρ).bind fun x ρ=>(dm (isVar l) (ev c l) ρ).bind fun y ρ=>(dm (isVar h) (ev c h) ρ).bind fun z ρ=>lift (Bd x (part l y) (part h z)) ρ
 |.call f as,ρ=>(xm c as ρ).bind fun xs ρ=>jZ c f xs ρ|.blt b [a],ρ=>(dm (isVar a) (ev c a) ρ).bind fun x ρ=>lift (blt b [x]) ρ|.blt b as,ρ=>(evs c as ρ).bind fun ds ρ=>lift (blt b ds) ρ|.inst ts a,ρ=>(dm (isVar a) (ev c a) ρ).bind fun x ρ=>.ok (.val (.bl (ts.any fun t=>cJ t x))) ρ|.comp src n is one test elt,ρ=>(srcOf (isVar src) (ev c src) ρ).bind fun ds ρ₁=>if ds.length<=lim then(turns is one (lr c test) (ev c elt) ds [] (ρ₁++replicate n .aZ)).bind fun xs ρ₂=>.ok (.own xs) (bC ρ (isVar src) (ρ₂.take ρ₁.length))else .stuck|.oX a b,ρ=>(gY (isVar a) (ev c a) (isVar b) (ev c b) ρ).bind fun xy ρ=>lift ((jd xy.1).bind fun i=>(jd xy.2).bind fun j=>if-1000000<=i/\i<=1000000000/\j<=1000000000/\-1000000000<=j then some (.val (.lst ((List.range (j-i).toNat).map fun(k:Nat)=>D.int (i+(k:Int)))))else none) ρ|.T5 a,ρ=>(ev c a ρ).bind fun r ρ=>lift ((items r.d).map fun ds=>.val (.lst (ds.mapIdx fun i d=>D.tup [.int (i:Int),d]))) ρ|.zip a b,ρ=>(ev c a ρ).bind fun x ρ=>(ev c b ρ).bind fun y ρ=>lift ((items x.d).bind fun ds=>(items y.d).map fun es=>.val (.lst ((ds.zip es).map fun p=>D.tup [p.1,p.2]))) ρ|.vw x,ρ=>match ρ[x]?with|some (.qX m)=>.ok (.val (.dC m)) (ρ.set x (.val false (.dC m)))|some (.dh kvs)=>.ok (.val (.dv (kvs.map (·.1)) (kvs.map (·.2)))) (ρ.set x (.val false (.dv (kvs.map (·.1)) (kvs.map (·.2)))))|_=>.stuck
 |.M4 x k,ρ=>match ρ[x]?with
   |some (.dh _)=>(dm (isVar k) (ev c k) ρ).bind fun kd ρ=>match ρ[x]?with|some (.dh kvs)=>lift ((jd kd).bind fun k=>(mG kvs k).map .val) ρ|_=>.stuck
   |_=>.stuck
 |.M5 x k neg,ρ=>(dm (isVar k) (ev c k) ρ).bind fun kd ρ=>match ρ[x]?with|some (.dh kvs)=>lift ((jd kd).map fun k=>.val (.bl (if neg then !(kvs.map (·.1)).contains k else(kvs.map (·.1)).contains k))) ρ|_=>.stuck
 |.wV k e,ρ=>.ok (.val (.dv [k] [.int e])) ρ
noncomputable def evs(c:Call):List P->List Sl->Res (List D)|[],ρ=>.ok [] ρ|a::r,ρ=>(ev c a ρ).bind fun x ρ=>(evs c r ρ).bind fun xs ρ=>.ok (x.d::xs) ρ
noncomputable def xm(c:Call):List P->List Sl->Res (List Arg)|[],ρ=>.ok [] ρ|a::r,ρ=>match isVar a with|some i=>(lift (pk ρ i) ρ).bind fun _ ρ=>(xm c r ρ).bind fun xs ρ=>.ok (.fc i::xs) ρ|none=>(ev c a ρ).bind fun x ρ=>(xm c r ρ).bind fun xs ρ=>.ok (vp x::xs) ρ
noncomputable def lr(c:Call):Option P->List Sl->Res Bool|none,ρ=>.ok true ρ|some t,ρ=>iy (ev c t) ρ
end
theorem E1{c i ρ}:ev c (.var i) ρ=match ρ[i]?with|some (.val _ d)=>.ok (.val d) ρ|some (.own b ds)=>.ok (.val (.lst ds)) (ρ.set i (.val b (.lst ds)))|some (.qX (.k kvs))=>.ok (.val (.dC (.k kvs))) (ρ.set i (.val false (.dC (.k kvs))))|some (.dh kvs)=>.ok (.val (.dv (kvs.map (·.1)) (kvs.map (·.2)))) (ρ.set i (.val false (.dv (kvs.map (·.1)) (kvs.map (·.2)))))|_=>.stuck:=(rfl)
theorem E2{c d ρ}:ev c (.con d) ρ=.ok (.val d) ρ:=(rfl)
theorem E3{c o a b ρ}:ev c (.bin o a b) ρ=(gY (isVar a) (ev c a) (isVar b) (ev c b) ρ).bind fun xy ρ=>lift (oE o xy.1 xy.2) ρ:=(rfl)
theorem E4{c a ρ}:ev c (.neg a) ρ=(dm (isVar a) (ev c a) ρ).bind fun x ρ=>lift (Ew x) ρ:=(rfl)
theorem E5{c a ρ}:ev c (.not a) ρ=(iy (ev c a) ρ).bind fun b ρ=>.ok (.val (.bl (!b))) ρ:=(rfl)
theorem E6{c a b ρ}:ev c (.and a b) ρ=(iy (ev c a) ρ).bind fun x ρ=>if x then(iy (ev c b) ρ).bind fun y ρ=>.ok (.val (.bl y)) ρ else .ok (.val (.bl false)) ρ:=(rfl)
theorem E7{c a b ρ}:ev c (.or a b) ρ=(iy (ev c a) ρ).bind fun x ρ=>if x then .ok (.val (.bl true)) ρ else(iy (ev c b) ρ).bind fun y ρ=>.ok (.val (.bl y)) ρ:=(rfl)
theorem E8{c o a b ρ}:ev c (.cmp o a b) ρ=(gY (isVar a) (ev c a) (isVar b) (ev c b) ρ).bind fun xy ρ=>lift (oA o xy.1 xy.2) ρ:=(rfl)
theorem E9{c o o' a b d ρ}:ev c (.chain o o' a b d) ρ=(gY (isVar a) (ev c a) (isVar b) (ev c b) ρ).bind fun xy ρ=>(lift (if flat xy.2=true then cm o xy.1 xy.2 else none) ρ).bind fun k ρ=>if k then(dm (isVar d) (ev c d) ρ).bind fun z ρ=>lift (oA o' xy.2 z) ρ else .ok (.val (.bl false)) ρ:=(rfl)
theorem E10{c t a b ρ}:ev c (.M3 t a b) ρ=(iy (ev c t) ρ).bind fun k ρ=>if k then(ev c a ρ).bind fun r ρ=>.ok (.val r.d) ρ else(ev c b ρ).bind fun r ρ=>.ok (.val r.d) ρ:=(rfl)
theorem E11{c as ρ}:ev c (.tup as) ρ=(evs c as ρ).bind fun ds ρ=>.ok (.val (.tup ds)) ρ:=(rfl)
theorem E12{c as ρ}:ev c (.lst as) ρ=(evs c as ρ).bind fun ds ρ=>.ok (.own ds) ρ:=(rfl)
theorem E13{c a i ρ}:ev c (.idx a i) ρ=(gY (isVar a) (ev c a) (isVar i) (ev c i) ρ).bind fun xy ρ=>lift (J6 xy.1 xy.2) ρ:=(rfl)
theorem E14{c a l h ρ}:ev c (.slice a l h) ρ=match isVar a with|some i=>(lift (pk ρ i) ρ).bind fun _ ρ=>(dm (isVar l) (ev c l) ρ).bind fun y ρ=>(dm (isVar h) (ev c h) ρ).bind fun z ρ=>(lift (pk ρ i) ρ).bind fun x ρ=>lift (Bd x (part l y) (part h z)) ρ|none=>(dm none (ev c a) ρ).bind fun x ρ=>(dm (isVar l) (ev c l) ρ).bind fun y ρ=>(dm (isVar h) (ev c h) ρ).bind fun z ρ=>lift (Bd x (part l y) (part h z)) ρ:=(rfl)
theorem E15{c f as ρ}:ev c (.call f as) ρ=(xm c as ρ).bind fun xs ρ=>jZ c f xs ρ:=(rfl)
theorem E16{c b a ρ}:ev c (.blt b [a]) ρ=(dm (isVar a) (ev c a) ρ).bind fun x ρ=>lift (blt b [x]) ρ:=(rfl)
theorem E17{c b x y r ρ}:ev c (.blt b (x::y::r)) ρ=(evs c (x::y::r) ρ).bind fun ds ρ=>lift (blt b ds) ρ:=(rfl)
theorem WL{c b ρ}:ev c (.blt b []) ρ=(evs c [] ρ).bind fun ds ρ=>lift (blt b ds) ρ:=(rfl)
theorem E18{c ts a ρ}:ev c (.inst ts a) ρ=(dm (isVar a) (ev c a) ρ).bind fun x ρ=>.ok (.val (.bl (ts.any fun t=>cJ t x))) ρ:=(rfl)
theorem E19{c src n is one test elt ρ}:ev c (.comp src n is one test elt) ρ=(srcOf (isVar src) (ev c src) ρ).bind fun ds ρ₁=>if ds.length<=lim then(turns is one (lr c test) (ev c elt) ds [] (ρ₁++replicate n .aZ)).bind fun xs ρ₂=>.ok (.own xs) (bC ρ (isVar src) (ρ₂.take ρ₁.length))else .stuck:=(rfl)
theorem E20{c a b ρ}:ev c (.oX a b) ρ=(gY (isVar a) (ev c a) (isVar b) (ev c b) ρ).bind fun xy ρ=>lift ((jd xy.1).bind fun i=>(jd xy.2).bind fun j=>if-1000000<=i/\i<=1000000000/\j<=1000000000/\-1000000000<=j then some (.val (.lst ((List.range (j-i).toNat).map fun(k:Nat)=>D.int (i+(k:Int)))))else none) ρ:=(rfl)
theorem E21{c a ρ}:ev c (.T5 a) ρ=(ev c a ρ).bind fun r ρ=>lift ((items r.d).map fun ds=>.val (.lst (ds.mapIdx fun i d=>D.tup [.int (i:Int),d]))) ρ:=(rfl)
theorem E22{c a b ρ}:ev c (.zip a b) ρ=(ev c a ρ).bind fun x ρ=>(ev c b ρ).bind fun y ρ=>lift ((items x.d).bind fun ds=>(items y.d).map fun es=>.val (.lst ((ds.zip es).map fun p=>D.tup [p.1,p.2]))) ρ:=(rfl)
theorem E23{c x ρ}:ev c (.vw x) ρ=match ρ[x]?with|some (.qX m)=>.ok (.val (.dC m)) (ρ.set x (.val false (.dC m)))|some (.dh kvs)=>.ok (.val (.dv (kvs.map (·.1)) (kvs.map (·.2)))) (ρ.set x (.val false (.dv (kvs.map (·.1)) (kvs.map (·.2)))))|_=>.stuck:=(rfl)
theorem E24{c x k ρ}:ev c (.M4 x k) ρ=match ρ[x]?with
 |some (.dh _)=>(dm (isVar k) (ev c k) ρ).bind fun kd ρ=>match ρ[x]?with|some (.dh kvs)=>lift ((jd kd).bind fun k=>(mG kvs k).map .val) ρ|_=>.stuck
 |_=>.stuck:=(rfl)
theorem E25{c x k neg ρ}:ev c (.M5 x k neg) ρ=(dm (isVar k) (ev c k) ρ).bind fun kd ρ=>match ρ[x]?with|some (.dh kvs)=>lift ((jd kd).map fun k=>.val (.bl (if neg then !(kvs.map (·.1)).contains k else(kvs.map (·.1)).contains k))) ρ|_=>.stuck:=(rfl)
theorem E26{c k e ρ}:ev c (.wV k e) ρ=.ok (.val (.dv [k] [.int e])) ρ:=(rfl)
inductive S where|pass|brk|cont|bad|expr(e:P)|asg(i:Nat)(e:P)|par(i j:Nat)(a b:P)|T6(i:List Nat)(e:P)|qY(x:Nat)(i e:P)|app(x:Nat)(e:P)|ret(e:P)|WX|ifs(c:P)(a b:List S)|gq(src:P)(i:List Nat)(one:Bool)(body:List S)|whl(c:P)(body:List S)|Hu(x:Nat)(i:P)(sub:Bool)(e:P)|Hv(x:Nat)(src:P)(k:Nat)(is:List Nat)(one:Bool)(elt:P)|Hw(x:Nat)(i e:P)|Cy(src:P)(is:List Nat)(one:Bool)(body:List S)|cU(x:Nat)|Cz(x:Nat)|jn(x:Nat)(k e:P)deriving Inhabited
inductive Fl where|next|brk|cont|ret(r:R)deriving Inhabited
noncomputable def xF:R->Sl|.val d=>.val false d|.own ds=>.own false ds
noncomputable def gW(is:List Nat)(one:Bool)(body:List Sl->Res Fl):List D->List Sl->Res Fl|[],ρ=>.ok .next ρ|d::r,ρ=>match bW ρ is one d with|none=>.stuck|some ρ=>(body ρ).bind fun fl ρ=>match fl with|.next=>gW is one body r ρ|.cont=>gW is one body r ρ|.brk=>.ok .next ρ|.ret r=>.ok (.ret r) ρ
noncomputable def Uq(x:Nat)(body:List Sl->Res Fl):List (List D)->List Sl->Res Fl|[],ρ=>.ok .next ρ|ds::r,ρ=>match put ρ x (.own false ds)with|none=>.stuck|some ρ=>(body ρ).bind fun fl ρ=>match fl with|.next=>Uq x body r ρ|.cont=>Uq x body r ρ|.brk=>.ok .next ρ|.ret r=>.ok (.ret r) ρ
noncomputable def qR(test:List Sl->Res Bool)(body:List Sl->Res Fl):Nat->List Sl->Res Fl|0,_=>.stuck|n+1,ρ=>(test ρ).bind fun b ρ=>if b then(body ρ).bind fun fl ρ=>match fl with|.next=>qR test body n ρ|.cont=>qR test body n ρ|.brk=>.ok .next ρ|.ret r=>.ok (.ret r) ρ else .ok .next ρ
noncomputable def fB(is:List Nat)(one:Bool)(elt:Ev):List D->List (List D)->List Sl->Res (List (List D))|[],acc,ρ=>.ok acc ρ|d::r,acc,ρ=>match bW ρ is one d with|none=>.stuck|some ρ=>(elt ρ).bind fun x ρ=>match x with|.own ds=>fB is one elt r (acc++[ds]) ρ|.val _=>.stuck
noncomputable def rowAt(rows:List (List D))(k:Int):Option (List D):=(iH rows.length k).bind fun r=>rows[r]?
noncomputable def ju(rows:List (List D))(k:Int)(f:List D->Option (List D)):Option (List (List D)):=(iH rows.length k).bind fun r=>(rows[r]?).bind fun row=>(f row).map fun jP=>rows.set r jP
noncomputable def setAt(l:Int)(d:D)(row:List D):Option (List D):=(iH row.length l).map fun m=>row.set m d
noncomputable def iW(ρ:List Sl)(x:Nat):Option (List (List D)):=match ρ[x]?with|some (.hold rows)=>some rows|_=>none
noncomputable def tD(ρ:List Sl)(x:Nat)(k:D):Option (List D):=(iW ρ x).bind fun rows=>(jd k).bind fun k=>rowAt rows k
noncomputable def Ca(ρ:List Sl)(x:Nat)(o:Option (List (List D))):Res Fl:=match o with|some rows=>.ok .next (ρ.set x (.hold rows))|none=>.stuck
noncomputable def rowOne(x r:Nat)(ej ek el:List Sl->Res D)(ρ:List Sl):Res Fl:=(ek ρ).bind fun k ρ=>(lift ((iW ρ x).bind fun rows=>(rows[r]?).bind fun row=>(jd k).bind fun k=>(at' row k).bind jd) ρ).bind fun u ρ=>(el ρ).bind fun l ρ=>(lift ((iW ρ x).bind fun rows=>(rows[r]?).bind fun row=>(jd l).bind fun l=>(at' row l).bind jd) ρ).bind fun v ρ=>(ej ρ).bind fun j ρ=>Ca ρ x ((iW ρ x).bind fun rows=>(rows[r]?).bind fun row=>(jd j).bind fun j=>(setAt j (.int (u+v)) row).map fun jP=>rows.set r jP)
noncomputable def QS(x y:Nat)(ej ek el:List Sl->Res D):Nat->Nat->List Sl->Res Fl|0,_,ρ=>.ok .next ρ|m+1,r,ρ=>(lift (put ρ y .aZ) ρ).bind fun ρ _=>(rowOne x r ej ek el ρ).bind fun _ ρ=>QS x y ej ek el m (r+1) ρ
noncomputable def hide(vis:List Nat)(x:Nat)(d:D):Nat->List Sl->List Sl|_,[]=>[]|i,s::ρ=>(if i=x then .val true d else if vis.contains i=true then(match s with|.val _ d=>.val true d|_=>.aZ)else .aZ)::hide vis x d (i+1) ρ
noncomputable def QZ(is:List Nat)(one:Bool)(body:List Sl->Res Fl)(bx:List Sl->Option (Nat×List Sl)):List D->List Sl->Option (Nat×List Sl)|[],_=>none|d::r,ρ=>match bW ρ is one d with|none=>none|some ρ=>match bx ρ with|some x=>some x|none=>match body ρ with|.ok .next ρ1=>QZ is one body bx r ρ1|.ok .cont ρ1=>QZ is one body bx r ρ1|_=>none
noncomputable def NQ:P->P|.idx a _=>a|e=>e
noncomputable def unl:Sl->Bool|.aZ=>true|.val b _=>!b|.own b _=>!b|.lent _=>false|.qX _=>true|.hold _=>false|.dh _=>true
noncomputable def Lz(c:Call)(e:P)(ρ:List Sl):Option (Nat×List Sl):=match NQ e with
 |.call f as=>match xm c as ρ with
   |.ok xs ρ1=>match bQ ρ1 xs []with
     |some args=>match c f args with|.exc k args'=>some (k,cT xs args' 0 ρ1)|_=>none
     |none=>none
   |_=>none
 |_=>none
mutual
noncomputable def ex(c:Call)(n:Nat):S->List Sl->Res Fl
 |.pass,ρ=>.ok .next ρ|.brk,ρ=>.ok .brk ρ|.cont,ρ=>.ok .cont ρ|.bad,_=>.stuck|.expr e,ρ=>(ev c e ρ).bind fun _ ρ=>.ok .next ρ|.asg i e,ρ=>(ev c e ρ).bind fun r ρ=>(lift (put ρ i (xF r)) ρ).bind fun ρ' _=>.ok .next ρ'|.par i j a b,ρ=>(ev c a ρ).bind fun x ρ=>(ev c b ρ).bind fun y ρ=>(lift ((put ρ i (.val false x.d)).bind fun ρ=>put ρ j (.val false y.d)) ρ).bind fun ρ' _=>.ok .next ρ'|.T6 is e,ρ=>(ev c e ρ).bind fun r ρ=>match r.d with|.tup ds=>(lift (putAll ρ is ds) ρ).bind fun ρ' _=>.ok .next ρ'|_=>.stuck
 |.qY x i e,ρ=>(ev c e ρ).bind fun r ρ=>(lift (pk ρ x) ρ).bind fun _ ρ=>(dm (isVar i) (ev c i) ρ).bind fun k ρ=>match ρ[x]?,k with
   |some (.own b ds),.int k=>match iH ds.length k with|some j=>.ok .next (ρ.set x (.own b (ds.set j r.d)))|none=>.stuck
   |_,_=>.stuck
 |.app x e,ρ=>(lift (CN ρ x) ρ).bind fun _ ρ=>(ev c e ρ).bind fun r ρ=>match ρ[x]?with|some (.own b ds)=>if ds.length<lim then .ok .next (ρ.set x (.own b (ds++[r.d])))else .stuck|_=>.stuck
 |.ret e,ρ=>match isVar e with
   |some i=>match ρ[i]?with|some (.own false ds)=>.ok (.ret (.own ds)) (ρ.set i .aZ)|_=>(ev c e ρ).bind fun r ρ=>.ok (.ret r) ρ
   |none=>(ev c e ρ).bind fun r ρ=>.ok (.ret r) ρ
 |.WX,ρ=>.ok (.ret (.val .non)) ρ|.ifs t a b,ρ=>(iy (ev c t) ρ).bind fun k ρ=>if k then gj c n a ρ else gj c n b ρ|.gq src is one body,ρ=>(srcOf (isVar src) (ev c src) ρ).bind fun ds ρ₁=>(gW is one (gj c n body) ds ρ₁).bind fun fl ρ₂=>.ok fl (bC ρ (isVar src) ρ₂)|.whl t body,ρ=>qR (iy (ev c t)) (gj c n body) n ρ|.Hu x i sub e,ρ=>(lift (CN ρ x) ρ).bind fun _ ρ=>(dm (isVar i) (ev c i) ρ).bind fun k ρ=>(lift (CN ρ x) ρ).bind fun l ρ=>(lift ((jd k).bind fun i=>at' l i) ρ).bind fun a ρ=>(dm (isVar e) (ev c e) ρ).bind fun b ρ=>match a,b,ρ[x]?,k with
   |.int u,.int v,some (.own bb ds),.int k=>match iH ds.length k with|some j=>.ok .next (ρ.set x (.own bb (ds.set j (.int (if sub then u-v else u+v)))))|none=>.stuck
   |_,_,_,_=>.stuck
 |.Hv x src k is one elt,ρ=>(srcOf (isVar src) (ev c src) ρ).bind fun ds ρ₁=>if ds.length<=lim then(fB is one (ev c elt) ds [] (ρ₁++replicate k .aZ)).bind fun rows ρ₂=>(lift (put (bC ρ (isVar src) (ρ₂.take ρ₁.length)) x (.hold rows)) ρ).bind fun ρ' _=>.ok .next ρ' else .stuck|.Hw x i e,ρ=>(dm (isVar i) (ev c i) ρ).bind fun k ρ=>(lift (tD ρ x k) ρ).bind fun _ ρ=>(ev c e ρ).bind fun r ρ=>Ca ρ x ((iW ρ x).bind fun rows=>(jd k).bind fun k=>ju rows k fun row=>if row.length<lim then some (row++[r.d])else none)|.Cy src is one body,ρ=>(ev c src ρ).bind fun r ρ₁=>(lift (items r.d) ρ₁).bind fun ds ρ₁=>gW is one (gj c n body) ds ρ₁|.cU x,ρ=>match ρ[x]?with|some (.hold rows)=>.ok .next (ρ.set x (.val false (.lst (rows.map D.lst))))|_=>.stuck
 |.Cz x,ρ=>match ρ[x]?with|some .aZ=>.ok .next (ρ.set x (.dh []))|some (.dh _)=>.ok .next (ρ.set x (.dh []))|some (.val false _)=>.ok .next (ρ.set x (.dh []))|_=>.stuck
 |.jn x k e,ρ=>(ev c e ρ).bind fun r ρ=>match ρ[x]?with
   |some (.dh _)=>(dm (isVar k) (ev c k) ρ).bind fun kd ρ=>match ρ[x]?,kd with|some (.dh kvs),.int k=>if kvs.length<lim then .ok .next (ρ.set x (.dh (jn kvs k r.d)))else .stuck|_,_=>.stuck
   |_=>.stuck
noncomputable def gj(c:Call)(n:Nat):List S->List Sl->Res Fl|[],ρ=>.ok .next ρ|s::r,ρ=>(ex c n s ρ).bind fun fl ρ=>match fl with|.next=>gj c n r ρ|fl=>.ok fl ρ
noncomputable def exX(c:Call)(n:Nat):S->List Sl->Option (Nat×List Sl)
 |.ifs t a b,ρ=>match iy (ev c t) ρ with|.ok x ρ1=>if x then Fy c n a ρ1 else Fy c n b ρ1|_=>none
 |.gq src is one body,ρ=>match srcOf (isVar src) (ev c src) ρ with|.ok ds ρ1=>(QZ is one (gj c n body) (Fy c n body) ds ρ1).map fun x=>(x.1,bC ρ (isVar src) x.2)|_=>none
 |.asg _ e,ρ=>Lz c e ρ|.expr e,ρ=>Lz c e ρ|_,_=>none
noncomputable def Fy(c:Call)(n:Nat):List S->List Sl->Option (Nat×List Sl)|[],_=>none|s::r,ρ=>match exX c n s ρ with|some x=>some x|none=>match ex c n s ρ with|.ok .next ρ1=>Fy c n r ρ1|_=>none
end
theorem X1{c n ρ}:ex c n (.pass) ρ=.ok .next ρ:=(rfl)
theorem X2{c n ρ}:ex c n (.brk) ρ=.ok .brk ρ:=(rfl)
theorem X3{c n ρ}:ex c n (.cont) ρ=.ok .cont ρ:=(rfl)
theorem X4{c n ρ}:ex c n (.bad) ρ=.stuck:=(rfl)
theorem X5{c n e ρ}:ex c n (.expr e) ρ=(ev c e ρ).bind fun _ ρ=>.ok .next ρ:=(rfl)
theorem X6{c n i e ρ}:ex c n (.asg i e) ρ=(ev c e ρ).bind fun r ρ=>(lift (put ρ i (xF r)) ρ).bind fun ρ' _=>.ok .next ρ':=(rfl)
theorem X7{c n i j a b ρ}:ex c n (.par i j a b) ρ=(ev c a ρ).bind fun x ρ=>(ev c b ρ).bind fun y ρ=>(lift ((put ρ i (.val false x.d)).bind fun ρ=>put ρ j (.val false y.d)) ρ).bind fun ρ' _=>.ok .next ρ':=(rfl)
theorem X8{c n is e ρ}:ex c n (.T6 is e) ρ=(ev c e ρ).bind fun r ρ=>match r.d with|.tup ds=>(lift (putAll ρ is ds) ρ).bind fun ρ' _=>.ok .next ρ'|_=>.stuck:=(rfl)
theorem X9{c n x i e ρ}:ex c n (.qY x i e) ρ=(ev c e ρ).bind fun r ρ=>(lift (pk ρ x) ρ).bind fun _ ρ=>(dm (isVar i) (ev c i) ρ).bind fun k ρ=>match ρ[x]?,k with
 |some (.own b ds),.int k=>match iH ds.length k with|some j=>.ok .next (ρ.set x (.own b (ds.set j r.d)))|none=>.stuck
 |_,_=>.stuck:=(rfl)
theorem X10{c n x e ρ}:ex c n (.app x e) ρ=(lift (CN ρ x) ρ).bind fun _ ρ=>(ev c e ρ).bind fun r ρ=>match ρ[x]?with|some (.own b ds)=>if ds.length<lim then .ok .next (ρ.set x (.own b (ds++[r.d])))else .stuck|_=>.stuck:=(rfl)
theorem Xu{c n e ρ}:ex c n (.ret e) ρ=match isVar e with
 |some i=>match ρ[i]?with|some (.own false ds)=>.ok (.ret (.own ds)) (ρ.set i .aZ)|_=>(ev c e ρ).bind fun r ρ=>.ok (.ret r) ρ
 |none=>(ev c e ρ).bind fun r ρ=>.ok (.ret r) ρ:=(rfl)
theorem X12{c n ρ}:ex c n (.WX) ρ=.ok (.ret (.val .non)) ρ:=(rfl)
theorem Xw{c n t a b ρ}:ex c n (.ifs t a b) ρ=(iy (ev c t) ρ).bind fun k ρ=>if k then gj c n a ρ else gj c n b ρ:=(rfl)
theorem X14{c n src is one body ρ}:ex c n (.gq src is one body) ρ=(srcOf (isVar src) (ev c src) ρ).bind fun ds ρ₁=>(gW is one (gj c n body) ds ρ₁).bind fun fl ρ₂=>.ok fl (bC ρ (isVar src) ρ₂):=(rfl)
theorem X15{c n t body ρ}:ex c n (.whl t body) ρ=qR (iy (ev c t)) (gj c n body) n ρ:=(rfl)
theorem X16{c n x i sub e ρ}:ex c n (.Hu x i sub e) ρ=(lift (CN ρ x) ρ).bind fun _ ρ=>(dm (isVar i) (ev c i) ρ).bind fun k ρ=>(lift (CN ρ x) ρ).bind fun l ρ=>(lift ((jd k).bind fun i=>at' l i) ρ).bind fun a ρ=>(dm (isVar e) (ev c e) ρ).bind fun b ρ=>match a,b,ρ[x]?,k with
 |.int u,.int v,some (.own bb ds),.int k=>match iH ds.length k with|some j=>.ok .next (ρ.set x (.own bb (ds.set j (.int (if sub then u-v else u+v)))))|none=>.stuck
 |_,_,_,_=>.stuck:=(rfl)
theorem X17{c n x src k is one elt ρ}:ex c n (.Hv x src k is one elt) ρ=(srcOf (isVar src) (ev c src) ρ).bind fun ds ρ₁=>if ds.length<=lim then(fB is one (ev c elt) ds [] (ρ₁++replicate k .aZ)).bind fun rows ρ₂=>(lift (put (bC ρ (isVar src) (ρ₂.take ρ₁.length)) x (.hold rows)) ρ).bind fun ρ' _=>.ok .next ρ' else .stuck:=(rfl)
theorem X18{c n x i e ρ}:ex c n (.Hw x i e) ρ=(dm (isVar i) (ev c i) ρ).bind fun k ρ=>(lift (tD ρ x k) ρ).bind fun _ ρ=>(ev c e ρ).bind fun r ρ=>Ca ρ x ((iW ρ x).bind fun rows=>(jd k).bind fun k=>ju rows k fun row=>if row.length<lim then some (row++[r.d])else none):=(rfl)
theorem X19{c n src is one body ρ}:ex c n (.Cy src is one body) ρ=(ev c src ρ).bind fun r ρ₁=>(lift (items r.d) ρ₁).bind fun ds ρ₁=>gW is one (gj c n body) ds ρ₁:=(rfl)
theorem X20{c n x ρ}:ex c n (.cU x) ρ=match ρ[x]?with|some (.hold rows)=>.ok .next (ρ.set x (.val false (.lst (rows.map D.lst))))|_=>.stuck:=(rfl)
theorem X21{c n x ρ}:ex c n (.Cz x) ρ=match ρ[x]?with|some .aZ=>.ok .next (ρ.set x (.dh []))|some (.dh _)=>.ok .next (ρ.set x (.dh []))|some (.val false _)=>.ok .next (ρ.set x (.dh []))|_=>.stuck:=(rfl)
theorem X22{c n x k e ρ}:ex c n (.jn x k e) ρ=(ev c e ρ).bind fun r ρ=>match ρ[x]?with
 |some (.dh _)=>(dm (isVar k) (ev c k) ρ).bind fun kd ρ=>match ρ[x]?,kd with|some (.dh kvs),.int k=>if kvs.length<lim then .ok .next (ρ.set x (.dh (jn kvs k r.d)))else .stuck|_,_=>.stuck
 |_=>.stuck:=(rfl)
structure Fd where
 np:Nat
 nn:Nat
 body:List S deriving Inhabited
noncomputable abbrev Tab:=Nat->Option Fd
noncomputable def enter(c:Call)(n:Nat)(d:Fd)(args:List Sl):Res R:=if args.length=d.np/\d.np<=d.nn then match gj c n d.body (args++replicate (d.nn-d.np) .aZ)with|.ok .next ρ=>.ok (.val .non) (ρ.take d.np)|.ok (.ret r) ρ=>.ok r (ρ.take d.np)|_=>match Fy c n d.body (args++replicate (d.nn-d.np) .aZ)with|some (k,ρ)=>.exc k (ρ.take d.np)|none=>.stuck else .stuck
noncomputable def run(Γ:Tab)(w:Nat):Nat->Call|0,_,_=>.stuck|n+1,f,args=>match Γ f with|some d=>enter (run Γ w n) w d args|none=>.stuck
end HH
end
section
namespace HH
open PySem L2
noncomputable def Dc.ho:Dc->HO|.k kvs=>.dK (kvs.map fun p=>(Sum.inl p.1,V.int p.2))|.t kvs=>.dT (kvs.map fun p=>(p.1.map Sum.inl,V.int p.2))
noncomputable def zu(ks:List Int)(vs:List V):HO:=.dK ((ks.zip vs).map fun p=>(Sum.inl p.1,p.2))
section
variable(K:PySem.W.Frag)
mutual
def Rep(F:Hp):V->D->Prop|v,.non=>v=.non|v,.bl b=>v=.bl b|v,.int i=>v=.int i|v,.str x=>v=.str x|v,.tup ds=>∃a xs,v=.ref a/\gM K F a xs/\aG F xs ds|v,.lst ds=>∃a xs,v=.ref a/\dI K F a xs/\aG F xs ds|v,.dC m=>∃a o,v=.ref a/\F a=some (.cU o m.ho)|v,.dv ks ds=>∃a o vs,v=.ref a/\F a=some (.cU o (zu ks vs))/\aG F vs ds/\ks.length=ds.length
def aG(F:Hp):List V->List D->Prop|vs,[]=>vs=[]|vs,d::ds=>∃v r,vs=v::r/\Rep F v d/\aG F r ds
end
end
section
variable{K:PySem.W.Frag}{F F' H H':Hp}
theorem aL.fO{a:Addr}{xs:List V}(e:aL H H')(h:gM K H a xs):gM K H' a xs:=by
 rcases h with(h|⟨o,h⟩)|h;.exact .inl (.inl (e _ _ h))
 .exact .inl (.inr ⟨o,e _ _ h⟩)
 .exact .inr h
mutual
theorem Rep.mono(e:aL F F'):∀{d:D}{v:V},Rep K F v d->Rep K F' v d|.non,_,h=>by rw[Rep]at h ⊢;exact h|.bl _,_,h=>by rw[Rep]at h ⊢;exact h|.int _,_,h=>by rw[Rep]at h ⊢;exact h|.str _,_,h=>by rw[Rep]at h ⊢;exact h|.tup ds,_,h=>by rw[Rep]at h ⊢;obtain⟨a,xs,rfl,hs,r⟩:=h;exact⟨a,xs,rfl,aL.fO e hs,aG.mono e r⟩|.lst ds,_,h=>by rw[Rep]at h ⊢;obtain⟨a,xs,rfl,hs,r⟩:=h;exact⟨a,xs,rfl,e.seq hs,aG.mono e r⟩|.dC m,_,h=>by rw[Rep]at h ⊢;obtain⟨a,o,rfl,hs⟩:=h;exact⟨a,o,rfl,e _ _ hs⟩|.dv ks ds,_,h=>by rw[Rep]at h ⊢;obtain⟨a,o,vs,rfl,hs,r,hl⟩:=h;exact⟨a,o,vs,rfl,e _ _ hs,aG.mono e r,hl⟩theorem aG.mono(e:aL F F'):∀{ds:List D}{vs:List V},aG K F vs ds->aG K F' vs ds|[],_,h=>by rw[aG]at h ⊢;exact h|d::ds,_,h=>by rw[aG]at h ⊢;obtain⟨v,r,rfl,h1,h2⟩:=h;exact⟨v,r,rfl,Rep.mono e h1,aG.mono e h2⟩end
theorem aG.nil:aG K F [] []:=by rw[aG]
theorem aG.cons{v:V}{d:D}{vs:List V}{ds:List D}(h:Rep K F v d)(t:aG K F vs ds):aG K F (v::vs) (d::ds):=by rw[aG];exact⟨v,vs,rfl,h,t⟩
theorem aG.bZ{vs:List V}{d:D}{ds:List D}(h:aG K F vs (d::ds)):∃v r,vs=v::r/\Rep K F v d/\aG K F r ds:=by rw[aG]at h;exact h
theorem aG.dX{vs:List V}(h:aG K F vs []):vs=[]:=by rw[aG]at h;exact h
theorem aG.length:∀{ds:List D}{vs:List V},aG K F vs ds->vs.length=ds.length|[],_,h=>by rw[h.dX];rfl|d::ds,_,h=>by obtain⟨v,r,rfl,_,t⟩:=h.bZ;simp[aG.length t]
theorem aG.get:∀{ds:List D}{vs:List V}{i:Nat}{d:D},aG K F vs ds->ds[i]?=some d->∃v,vs[i]?=some v/\Rep K F v d|[],_,_,_,h,e=>by simp at e|d::ds,_,0,_,h,e=>by obtain⟨v,r,rfl,h1,t⟩:=h.bZ;simp at e;subst e;exact⟨v,rfl,h1⟩|d::ds,_,i+1,_,h,e=>by obtain⟨v,r,rfl,_,t⟩:=h.bZ;simp at e;obtain⟨w,e1,e2⟩:=t.get e;exact⟨w,by simpa using e1,e2⟩
theorem aG.append:∀{ds es:List D}{vs us:List V},aG K F vs ds->aG K F us es->aG K F (vs++us) (ds++es)|[],_,_,_,h,h'=>by rw[h.dX];exact h'|d::ds,_,_,_,h,h'=>by obtain⟨v,r,rfl,h1,t⟩:=h.bZ;exact .cons h1 (t.append h')
theorem aG.set{v:V}{d:D}(hr:Rep K F v d):∀{ds:List D}{vs:List V}(i:Nat),aG K F vs ds->aG K F (vs.set i v) (ds.set i d)|[],_,_,h=>by rw[h.dX];exact .nil|_::_,_,0,h=>by obtain⟨w,r,rfl,h1,t⟩:=h.bZ;exact .cons hr t|_::_,_,i+1,h=>by obtain⟨w,r,rfl,h1,t⟩:=h.bZ;exact .cons h1 (aG.set hr i t)
theorem aG.take:∀{ds:List D}{vs:List V}(n:Nat),aG K F vs ds->aG K F (vs.take n) (ds.take n)|[],_,n,h=>by rw[h.dX];simpa using aG.nil|_::_,_,0,h=>.nil|_::_,_,n+1,h=>by obtain⟨w,r,rfl,h1,t⟩:=h.bZ;exact .cons h1 (t.take n)
theorem aG.drop:∀{ds:List D}{vs:List V}(n:Nat),aG K F vs ds->aG K F (vs.drop n) (ds.drop n)|[],_,n,h=>by rw[h.dX];simpa using aG.nil|_::_,_,0,h=>h|_::_,_,n+1,h=>by obtain⟨w,r,rfl,h1,t⟩:=h.bZ;exact t.drop n
theorem aG.rep{ds:List D}{vs:List V}(h:aG K F vs ds):∀n,aG K F (replicate n vs).flatten (replicate n ds).flatten|0=>by simpa using aG.nil|n+1=>by simpa[replicate_succ]using h.append (aG.rep h n)
inductive Oc where|l(ds:List D)|d(m:Dc)|v(kvs:List (Int×D))
noncomputable def lst?:Sl->Option Oc|.own _ ds=>some (.l ds)|.lent ds=>some (.l ds)|.qX m=>some (.d m)|.dh kvs=>some (.v kvs)|_=>none
def jR(K:PySem.W.Frag)(F:Hp)(o:HO):Oc->Prop|.l ds=>∃xs,o=.lst xs/\aG K F xs ds|.d m=>o=m.ho|.v kvs=>∃vs,o=zu (kvs.map (·.1)) vs/\aG K F vs (kvs.map (·.2))
theorem jR.mono{o:HO}{x:Oc}(e:aL F F')(h:jR K F o x):jR K F' o x:=by cases x with|l ds=>obtain⟨xs,e1,h⟩:=h;exact⟨xs,e1,h.mono e⟩|d m=>exact h|v kvs=>obtain⟨xs,e1,h⟩:=h;exact⟨xs,e1,h.mono e⟩
def bB(ρ:List Sl)(σ:St)(i:Nat)(a:Addr):Prop:=(∃s ds,ρ[i]?=some s/\lst? s=some ds)/\σ[i]?=some (some (V.ref a))
def Own(ρ:List Sl)(σ:St)(a:Addr):Prop:=∃i,bB ρ σ i a
structure GS(K:PySem.W.Frag)(F:Hp)(ρ:List Sl)(σ:St)(H:Hp):Prop where
 sub:aL F H
 len:ρ.length=σ.length
 val:∀(i:Nat)(b:Bool)(d:D),ρ[i]?=some (Sl.val b d)->∃v:V,σ[i]?=some (some v)/\Rep K F v d
 own:∀(i:Nat)(s:Sl)(ds:Oc),ρ[i]?=some s->lst? s=some ds->∃(a:Addr)(xs:HO),σ[i]?=some (some (V.ref a))/\H a=some xs/\F a=none/\jR K F xs ds
 dis:∀(i j:Nat)(a:Addr),bB ρ σ i a->bB ρ σ j a->i=j
theorem GS.qQ{ρ:List Sl}{σ:St}(g:GS K F ρ σ H)(i:Nat)(s:Sl)(ds:List D)(e:ρ[i]?=some s)(e':lst? s=some (.l ds)):∃(a:Addr)(xs:List V),σ[i]?=some (some (V.ref a))/\H a=some (.lst xs)/\F a=none/\aG K F xs ds:=by obtain⟨a,o,h1,h2,h3,xs,rfl,h4⟩:=g.own i s (.l ds) e e';exact⟨a,xs,h1,h2,h3,h4⟩
noncomputable def um:Sl->Bool|.val b _=>b|.own b _=>b|.lent _=>true|.aZ=>false|.qX _=>false|.dh _=>false|.hold _=>true
def lu:Sl->Sl->Prop|.val true d,s=>s=.val true d|.own true _,s=>(∃ds,s=.own true ds)\/∃d,s=.val true d|.lent ds,s=>s=.lent ds|.hold ds,s=>s=.hold ds|_,_=>True
theorem lu.refl(s:Sl):lu s s:=by unfold lu;split<;>first|rfl|exact .inl ⟨_,rfl⟩|trivial
theorem lu.um{s s':Sl}(h:lu s s')(l:um s=true):HH.um s'=true:=by cases s with
 |aZ=>cases l|qX _=>cases l|dh _=>cases l|val b d=>cases b with|true=>cases h;rfl|false=>cases l
 |own b d=>cases b with|true=>rcases h with⟨_,rfl⟩|⟨_,rfl⟩<;>rfl|false=>cases l
 |lent d=>cases h;rfl|hold d=>cases h;rfl
theorem lu.trans{s s' s'':Sl}(l:HH.um s=true)(h:lu s s')(h':lu s' s''):lu s s'':=by cases s with
 |aZ=>cases l|qX _=>cases l|dh _=>cases l|val b d=>cases b with|true=>cases h;exact h'|false=>cases l
 |own b d=>cases b with
   | true => rcases h with⟨_,rfl⟩|⟨d,rfl⟩;.exact h'
             .exact .inr ⟨d,h'⟩|false=>cases l
 |lent d=>cases h;exact h'|hold d=>cases h;exact h'
noncomputable def nt:Option HO->Option HO|some (.tup _)=>none|o=>o
theorem jE{o:Option HO}(h:o=none):nt o=none:=by rw[h];rfl
theorem GX{H:Hp}{b:Addr}{xs:List V}(h:H b=some (.lst xs))(z:nt (H b)=none):False:=by rw[h]at z;cases z
theorem DR{o:HO}{x:Oc}(h:jR K F o x)(z:nt (some o)=none):False:=by cases x with|l ds=>obtain⟨xs,rfl,_⟩:=h;cases z|d m=>cases m<;>(cases(show o=_ from h);cases z)|v kvs=>obtain⟨xs,rfl,_⟩:=h;cases z
structure aO(K:PySem.W.Frag)(F:Hp)(ρ:List Sl)(σ:St)(H:Hp)(F':Hp)(ρ':List Sl)(σ':St)(H':Hp):Prop where
 gs:GS K F' ρ' σ' H'
 cB:aL F F'
 wW:∀b,F b=none->F' b≠none->Own ρ σ b\/nt (H b)=none
 keep:∀b o,H b=some o->¬ Own ρ σ b->H' b=some o
 uX:∀b,Own ρ' σ' b->Own ρ σ b\/H b=none
 len:ρ'.length=ρ.length
 lk:∀(i:Nat)(s:Sl),ρ[i]?=some s->um s=true->σ'[i]?=σ[i]?/\∃s',ρ'[i]?=some s'/\lu s s'
theorem aO.refl{ρ:List Sl}{σ:St}(g:GS K F ρ σ H):aO K F ρ σ H F ρ σ H:=⟨g,aL.refl _,fun b h h'=>absurd h h',fun _ _ h _=>h,fun _ h=>.inl h,rfl,fun i s h _=>⟨rfl,s,h,.refl s⟩⟩
theorem aO.trans{F1 F2 H1 H2:Hp}{ρ ρ1 ρ2:List Sl}{σ σ1 σ2:St}(a:aO K F ρ σ H F1 ρ1 σ1 H1)(b:aO K F1 ρ1 σ1 H1 F2 ρ2 σ2 H2):aO K F ρ σ H F2 ρ2 σ2 H2:=by
 have back:∀c,Own ρ1 σ1 c\/H1 c=none->Own ρ σ c\/H c=none:=fun c h=>by
  rcases h with h|h;.exact a.uX c h
  . by_cases ho:Own ρ σ c;.exact .inl ho
    .right;cases e:H c with|none=>rfl|some o=>rw[a.keep c o e ho]at h;cases h
 refine⟨b.gs,a.cB.trans b.cB,fun c h h'=>?_,fun c o h n=>?_,fun c h=>back c (b.uX c h),b.len.trans a.len,fun i s h l=>?_⟩
 . by_cases e:F1 c=none
   . by_cases ho:Own ρ σ c;.exact .inl ho
     . rcases b.wW c e h' with z|z;.exact(back c (.inl z)).imp id jE
       .right;cases q:H c with|none=>rfl|some o=>rw[a.keep c o q ho]at z;exact z
   .exact a.wW c h e
 . refine b.keep c o (a.keep c o h n) fun h'=>?_;rcases a.uX c h' with h'|h';.exact n h'
   .rw[h]at h';cases h'
 .obtain⟨e1,s1,h1,k1⟩:=a.lk i s h l;obtain⟨e2,s2,h2,k2⟩:=b.lk i s1 h1 (k1.um l);exact⟨e2.trans e1,s2,h2,.trans l k1 k2⟩
def cY(K:PySem.W.Frag)(F H:Hp)(v:V)(d:D):Prop:=Rep K F v d\/∃a xs ds,v=.ref a/\H a=some (.lst xs)/\aG K F xs ds/\d=.lst ds
def cL(K:PySem.W.Frag)(F':Hp)(ρ':List Sl)(σ':St)(H':Hp)(ρ:List Sl)(σ:St)(H:Hp)(v:V):R->Prop|.val d=>Rep K F' v d|.own ds=>∃a xs,v=.ref a/\H' a=some (.lst xs)/\F' a=none/\aG K F' xs ds/\¬ Own ρ' σ' a/\(Own ρ σ a\/H a=none)
theorem aL.cO{F:Hp}{a:Addr}{o:HO}(h:F a=none):aL F (upd F a o):=fun b u e=>by
 have:b≠a:=by rintro rfl;rw[h]at e;cases e
 rw[aD this];exact e
theorem aO.cU{ρ ρ':List Sl}{σ σ':St}{v:V}{r:R}(s:aO K F ρ σ H F' ρ' σ' H')(h:cL K F' ρ' σ' H' ρ σ H v r):∃F'',aO K F ρ σ H F'' ρ' σ' H'/\aL F' F''/\Rep K F'' v r.d:=by cases r with|val d=>exact⟨F',s,.refl _,h⟩|own ds=>
   obtain⟨a,xs,rfl,h1,h2,h3,h4,h5⟩:=h;have sm:aL F' (upd F' a (.lst xs)):=aL.cO h2;refine⟨upd F' a (.lst xs),⟨⟨fun b o e=>?_,s.gs.len,fun i b d e=>?_,fun i sl ds' e e'=>?_,s.gs.dis⟩,s.cB.trans sm,fun b n n'=>?_,s.keep,s.uX,s.len,s.lk⟩,sm,?_⟩
   . by_cases hb:b=a;.subst hb;rw[aY]at e;cases e;exact h1
     .rw[aD hb]at e;exact s.gs.sub b o e
   .obtain⟨v,e1,e2⟩:=s.gs.val i b d e;exact⟨v,e1,e2.mono sm⟩
   . obtain⟨b,ys,e1,e2,e3,e4⟩:=s.gs.own i sl ds' e e';have hb:b≠a:=by rintro rfl;exact h4 ⟨i,⟨sl,ds',e,e'⟩,e1⟩
     exact⟨b,ys,e1,e2,by rw[aD hb];exact e3,e4.mono sm⟩
   . by_cases hb:b=a;.subst hb;exact h5.imp id jE
     .rw[aD hb]at n';exact s.wW b n n'
   .show Rep K _ _ (.lst ds);rw[Rep];exact⟨a,xs,rfl,dI.of aY,h3.mono sm⟩
theorem GS.pk{ρ:List Sl}{σ:St}{i:Nat}{d:D}(g:GS K F ρ σ H)(e:HH.pk ρ i=some d):∃v:V,σ[i]?=some (some v)/\cY K F H v d:=by
 unfold HH.pk at e;split at e;.rename_i b d' h;cases e;obtain⟨v,h1,h2⟩:=g.val i b d h;exact⟨v,h1,.inl h2⟩
 .rename_i b ds h;cases e;obtain⟨a,xs,h1,h2,h3,h4⟩:=g.qQ i _ ds h rfl;exact⟨.ref a,h1,.inr ⟨a,xs,ds,rfl,h2,h4,rfl⟩⟩
 .rename_i ds h;cases e;obtain⟨a,xs,h1,h2,h3,h4⟩:=g.qQ i _ ds h rfl;exact⟨.ref a,h1,.inr ⟨a,xs,ds,rfl,h2,h4,rfl⟩⟩
 .cases e
structure Ext(F H F' H':Hp):Prop where
 hs:aL H H'
 fs:aL F F'
 sub:aL F' H'
 gr:∀b,F b=none->F' b≠none->nt (H b)=none
theorem Ext.refl(h:aL F H):Ext F H F H:=⟨.refl _,.refl _,h,fun _ a b=>absurd a b⟩
theorem Ext.stp{ρ:List Sl}{σ:St}(g:GS K F ρ σ H)(e:Ext F H F' H'):aO K F ρ σ H F' ρ σ H':=by
 refine⟨⟨e.sub,g.len,fun i b d h=>?_,fun i s ds h h'=>?_,g.dis⟩,e.fs,fun b n n'=>.inr (e.gr b n n'),fun b o h _=>e.hs b o h,fun _ h=>.inl h,rfl,fun i s h _=>⟨rfl,s,h,.refl s⟩⟩;.obtain⟨v,h1,h2⟩:=g.val i b d h;exact⟨v,h1,h2.mono e.fs⟩
 .obtain⟨a,xs,h1,h2,h3,h4⟩:=g.own i s ds h h';refine⟨a,xs,h1,e.hs _ _ h2,?_,h4.mono e.fs⟩;cases q:F' a with|none=>rfl|some o=>have:=e.gr a h3 (by rw[q];simp);rw[h2]at this;exact(DR h4 this).elim
def cA(K:PySem.W.Frag)(F' H' H:Hp)(v:V):R->Prop|.val d=>Rep K F' v d|.own ds=>∃a xs,v=.ref a/\H' a=some (.lst xs)/\F' a=none/\aG K F' xs ds/\H a=none
theorem cA.nY{ρ:List Sl}{σ:St}{v:V}{r:R}(g:GS K F ρ σ H)(h:cA K F' H' H v r):cL K F' ρ σ H' ρ σ H v r:=by cases r with|val d=>exact h|own ds=>obtain⟨a,xs,rfl,h1,h2,h3,h4⟩:=h;refine⟨a,xs,rfl,h1,h2,h3,?_,.inr h4⟩;rintro⟨i,⟨s,ds',e,e'⟩,e2⟩;obtain⟨b,ys,q1,q2,_⟩:=g.own i s ds' e e';rw[e2]at q1;cases q1;rw[h4]at q2;cases q2
theorem cL.later{F1 H1 F2 H2:Hp}{ρ ρ1 ρ2:List Sl}{σ σ1 σ2:St}{v:V}{r:R}(a:aO K F ρ σ H F1 ρ1 σ1 H1)(h:cL K F2 ρ2 σ2 H2 ρ1 σ1 H1 v r):cL K F2 ρ2 σ2 H2 ρ σ H v r:=by cases r with|val d=>exact h|own ds=>
   obtain⟨b,xs,rfl,h1,h2,h3,h4,h5⟩:=h;refine⟨b,xs,rfl,h1,h2,h3,h4,?_⟩;rcases h5 with h5|h5;.exact a.uX b h5
   . by_cases ho:Own ρ σ b;.exact .inl ho
     .right;cases e:H b with|none=>rfl|some o=>rw[a.keep b o e ho]at h5;cases h5
end
end HH
end
section
namespace HH
open PySem L2 PySem.Spec PyProof.Rows
theorem ak{α β:Type}{x:Res α}{f:α->List Sl->Res β}{b:β}{ρ':List Sl}(h:x.bind f=.ok b ρ'):∃a ρ,x=.ok a ρ/\f a ρ=.ok b ρ':=by cases x with|ok a ρ=>exact⟨a,ρ,rfl,h⟩|exc _ _=>cases h|stuck=>cases h
theorem aF{α:Type}{o:Option α}{ρ ρ':List Sl}{a:α}(h:lift o ρ=.ok a ρ'):o=some a/\ρ=ρ':=by cases o with|none=>cases h|some b=>cases h;exact⟨rfl,rfl⟩
theorem map_some{α β:Type}{o:Option α}{f:α->β}{b:β}(h:o.map f=some b):∃a,o=some a/\f a=b:=by cases o with|none=>cases h|some a=>cases h;exact⟨a,rfl,rfl⟩
theorem cz{α β:Type}{o:Option α}{f:α->Option β}{b:β}(h:o.bind f=some b):∃a,o=some a/\f a=some b:=by cases o with|none=>cases h|some a=>exact⟨a,rfl,h⟩
theorem bu{α:Type}{c:Prop}[Decidable c]{a b:α}(h:(if c then some a else none)=some b):c/\a=b:=by
 split at h;.rename_i hc;cases h;exact⟨hc,rfl⟩
 .cases h
section
variable{X:Cx}{c:Call}{e a b:Expr}{p pa pb:P}{pos:Pos}
theorem eU{t t':TE}(h:PE X e t)(i:∀σ H Q,t' σ H Q->t σ H Q):PE X e t':=fun pins s σ H Q I q=>h pins s σ H Q I (i σ H Q q)
theorem wK{t t':TT}(h:PT X e t)(i:∀σ H Q,t' σ H Q->t σ H Q):PT X e t':=fun pins s σ H Q I q=>h pins s σ H Q I (i σ H Q q)
theorem Lk{t t':TT}(h:PW X e t)(i:∀σ H Q,t' σ H Q->t σ H Q):PW X e t':=fun wh pins s σ H Q I q=>h wh pins s σ H Q I (i σ H Q q)
theorem vM{es:List Expr}{t t':TA}(h:PA X es t)(i:∀σ H Q,t' σ H Q->t σ H Q):PA X es t':=fun pos pins s σ H Q I q=>h pos pins s σ H Q I (i σ H Q q)
inductive wG(K:PySem.W.Frag)(f:Ev)(σ:L2.St)(H:Hp)(Q:VK):Prop where|mk(F:Hp)(ρ:List Sl)(r:R)(ρ':List Sl)(g:GS K F ρ σ H)(e:f ρ=.ok r ρ')(k:∀v F' H',aO K F ρ σ H F' ρ' σ H'->cL K F' ρ' σ H' ρ σ H v r->Q v H')
inductive Hb(K:PySem.W.Frag)(f:List Sl->Res Bool)(σ:L2.St)(H:Hp)(Q:Bool->Hp->Prop):Prop where|mk(F:Hp)(ρ:List Sl)(b:Bool)(ρ':List Sl)(g:GS K F ρ σ H)(e:f ρ=.ok b ρ')(k:∀F' H',aO K F ρ σ H F' ρ' σ H'->Q b H')
inductive ace(K:PySem.W.Frag)(f:List Sl->Res (List D))(σ:L2.St)(H:Hp)(Q:List V->Hp->Prop):Prop where|mk(F:Hp)(ρ:List Sl)(ds:List D)(ρ':List Sl)(g:GS K F ρ σ H)(e:f ρ=.ok ds ρ')(k:∀vs F' H',aO K F ρ σ H F' ρ' σ H'->aG K F' vs ds->Q vs H')
structure SX(X:Cx)(c:Call)(e:Expr)(p:P):Prop where ev:PE X e (wG X.K (HH.ev c p))var:∀i,isVar p=some i->PE X e (O6 i)
def SA(X:Cx)(c:Call)(es:List Expr)(ps:List P):Prop:=PA X es (ace X.K (evs c ps))/\ps.length=es.length
theorem SX.dm(h:SX X c e p):∃t,PE X e t/\∀{σ:L2.St}{H F:Hp}{ρ ρ':List Sl}{d:D}{Q:VK},GS X.K F ρ σ H->dm (isVar p) (HH.ev c p) ρ=.ok d ρ'->(∀v F' H',aO X.K F ρ σ H F' ρ' σ H'->cY X.K F' H' v d->Q v H')->t σ H Q:=by cases hv:isVar p with|none=>refine⟨_,h.ev,fun{σ H F ρ ρ' d Q}g e k=>?_⟩;obtain⟨r,ρ1,e1,e2⟩:=ak e;cases e2;refine⟨F,ρ,r,_,g,e1,fun v F' H' s rr=>?_⟩;obtain⟨F'',s',_,rp⟩:=s.cU rr;exact k v F'' H' s' (.inl rp)|some i=>refine⟨_,h.var i hv,fun{σ H F ρ ρ' d Q}g e k=>?_⟩;obtain⟨e1,e2⟩:=aF e;subst e2;obtain⟨v,h1,h2⟩:=g.pk e1;exact⟨v,h1,k v F H (.refl g) h2⟩
theorem SX.gY(ha:SX X c a pa)(hb:SX X c b pb):∃ta tb,PE X a ta/\PE X b tb/\∀{σ:L2.St}{H F:Hp}{ρ ρ':List Sl}{xy:D×D}{R:V->V->Hp->Prop},GS X.K F ρ σ H->gY (isVar pa) (HH.ev c pa) (isVar pb) (HH.ev c pb) ρ=.ok xy ρ'->(∀v u F' H',aO X.K F ρ σ H F' ρ' σ H'->cY X.K F' H' v xy.1->cY X.K F' H' u xy.2->R v u H')->ta σ H fun x H1=>tb σ H1 fun y H2=>R x y H2:=by obtain⟨tb,hb1,hb2⟩:=hb.dm;cases hv:isVar pa with|none=>refine⟨_,tb,ha.ev,hb1,fun{σ H F ρ ρ' xy R}g e k=>?_⟩;obtain⟨x,ρ1,e1,e⟩:=ak e;obtain⟨y,ρ2,e2,e⟩:=ak e;cases e;obtain⟨r,ρ1',e1,e0⟩:=ak e1;cases e0;refine⟨F,ρ,r,_,g,e1,fun v F' H' s rr=>?_⟩;obtain⟨F1,s1,_,rp⟩:=s.cU rr;refine hb2 s1.gs e2 fun u F2 H2 s2 pu=>?_;exact k v u F2 H2 (s1.trans s2) (.inl (rp.mono s2.cB)) pu|some i=>refine⟨_,tb,ha.var i hv,hb1,fun{σ H F ρ ρ' xy R}g e k=>?_⟩;obtain⟨x0,ρ0,e0,e⟩:=ak e;obtain⟨e00,Hx⟩:=aF e0;subst Hx;obtain⟨y,ρ1,e1,e⟩:=ak e;obtain⟨x,ρ2,e2,e⟩:=ak e;cases e;have zz:=aF e2;clear e2;obtain⟨e2,e3⟩:=zz;subst e3;obtain⟨v,h1,_⟩:=g.pk e00;refine⟨v,h1,hb2 g e1 fun u F1 H1 s1 pu=>?_⟩;obtain⟨v',h1',pv⟩:=s1.gs.pk e2;rw[h1]at h1';cases h1';exact k v u F1 H1 s1 pv pu
inductive rD(K:PySem.W.Frag)(f:D->D->Option R)(x y:V)(H:Hp)(Q:VK):Prop where|mk(F:Hp)(d e:D)(r:R)(sm:aL F H)(px:cY K F H x d)(py:cY K F H y e)(he:f d e=some r)(k:∀v F' H',Ext F H F' H'->cA K F' H' H v r->Q v H')
inductive rD1(K:PySem.W.Frag)(f:D->Option R)(x:V)(H:Hp)(Q:VK):Prop where|mk(F:Hp)(d:D)(r:R)(sm:aL F H)(px:cY K F H x d)(he:f d=some r)(k:∀v F' H',Ext F H F' H'->cA K F' H' H v r->Q v H')
theorem ur{E:Expr}{f:D->D->Option R}{q:P}(hp:∀{ta tb},PE X a ta->PE X b tb->PE X E (NP (rD X.K f) ta tb))(ha:SX X c a pa)(hb:SX X c b pb)(hq:∀ρ,HH.ev c q ρ=(HH.gY (isVar pa) (HH.ev c pa) (isVar pb) (HH.ev c pb) ρ).bind fun xy ρ=>lift (f xy.1 xy.2) ρ)(hv:isVar q=none):SX X c E q:=by obtain⟨ta,tb,h1,h2,h3⟩:=ha.gY hb;refine⟨eU (hp h1 h2) ?_,fun i h=>by rw[hv]at h;cases h⟩;rintro σ H Q⟨F,ρ,r,ρ',g,e,k⟩;rw[hq]at e;obtain⟨xy,ρ1,e1,e2⟩:=ak e;have zz:=aF e2;clear e2;obtain⟨e2,e3⟩:=zz;subst e3;refine h3 g e1 fun v u F' H' s pv pu=>⟨F',xy.1,xy.2,r,s.gs.sub,pv,pu,e2,fun w F2 H2 x rn=>?_⟩;exact k w F2 H2 (s.trans (x.stp s.gs)) (.later s (rn.nY s.gs))
theorem Dd{E:Expr}{f:D->Option R}{q:P}(hp:∀{ta},PE X a ta->PE X E (tUn (rD1 X.K f) ta))(ha:SX X c a pa)(hq:∀ρ,HH.ev c q ρ=(HH.dm (isVar pa) (HH.ev c pa) ρ).bind fun x ρ=>lift (f x) ρ)(hv:isVar q=none):SX X c E q:=by obtain⟨ta,h1,h3⟩:=ha.dm;refine⟨eU (hp h1) ?_,fun i h=>by rw[hv]at h;cases h⟩;rintro σ H Q⟨F,ρ,r,ρ',g,e,k⟩;rw[hq]at e;obtain⟨x,ρ1,e1,e2⟩:=ak e;have zz:=aF e2;clear e2;obtain⟨e2,e3⟩:=zz;subst e3;refine h3 g e1 fun v F' H' s pv=>⟨F',x,r,s.gs.sub,pv,e2,fun w F2 H2 x rn=>?_⟩;exact k w F2 H2 (s.trans (x.stp s.gs)) (.later s (rn.nY s.gs))
theorem GS.freeze{K:PySem.W.Frag}{F H:Hp}{ρ:List Sl}{σ:L2.St}{i:Nat}{b:Bool}{ds:List D}(g:GS K F ρ σ H)(e:ρ[i]?=some (.own b ds)):∃v F',σ[i]?=some (some v)/\aO K F ρ σ H F' (ρ.set i (.val b (.lst ds))) σ H/\Rep K F' v (.lst ds):=by
 obtain⟨a,xs,h1,h2,h3,h4⟩:=g.qQ i _ ds e rfl;have hi:i<ρ.length:=(List.getElem?_eq_some_iff.mp e).1;have sm:aL F (upd F a (.lst xs)):=aL.cO h3;have rp:Rep K (upd F a (.lst xs)) (.ref a) (.lst ds):=by rw[Rep];exact⟨a,xs,rfl,dI.of aY,h4.mono sm⟩
 have oa:Own ρ σ a:=⟨i,⟨_,_,e,rfl⟩,h1⟩;have old:∀j x,bB (ρ.set i (.val b (.lst ds))) σ j x->bB ρ σ j x/\j≠i:=fun j x⟨⟨s,ds',q1,q2⟩,q3⟩=>by
  by_cases hj:j=i;.subst hj;rw[getElem?_set_self hi]at q1;cases q1;cases q2
  .rw[getElem?_set_ne (Ne.symm hj)]at q1;exact⟨⟨⟨s,ds',q1,q2⟩,q3⟩,hj⟩
 refine⟨.ref a,upd F a (.lst xs),h1,⟨⟨fun x o q=>?_,by simpa using g.len,fun j b' d q=>?_,fun j s ds' q q'=>?_,fun j k x q q'=>g.dis j k x (old j x q).1 (old k x q').1⟩,sm,fun x n n'=>?_,fun _ _ q _=>q,fun x⟨j,q⟩=>.inl ⟨j,(old j x q).1⟩,by simp,fun j s q l=>⟨rfl,?_⟩⟩,rp⟩
 . by_cases hx:x=a;.subst hx;rw[aY]at q;cases q;exact h2
   .rw[aD hx]at q;exact g.sub x o q
 . by_cases hj:j=i;.subst hj;rw[getElem?_set_self hi]at q;cases q;exact⟨_,h1,rp⟩
   .rw[getElem?_set_ne (Ne.symm hj)]at q;obtain⟨v,q1,q2⟩:=g.val j b' d q;exact⟨v,q1,q2.mono sm⟩
 . by_cases hj:j=i;.subst hj;rw[getElem?_set_self hi]at q;cases q;cases q'
   . rw[getElem?_set_ne (Ne.symm hj)]at q;obtain⟨x,ys,q1,q2,q3,q4⟩:=g.own j s ds' q q';have hx:x≠a:=by rintro rfl;exact hj (g.dis j i x ⟨⟨s,ds',q,q'⟩,q1⟩ ⟨⟨_,_,e,rfl⟩,h1⟩)
     exact⟨x,ys,q1,q2,by rw[aD hx];exact q3,q4.mono sm⟩
 . by_cases hx:x=a;.subst hx;exact .inl oa
   .rw[aD hx]at n';exact absurd n n'
 . by_cases hj:j=i;.subst hj;rw[e]at q;cases q;refine⟨_,getElem?_set_self hi,?_⟩;cases b with|true=>exact .inr ⟨_,rfl⟩|false=>cases l
   .exact⟨s,by rw[getElem?_set_ne (Ne.symm hj)];exact q,.refl s⟩
theorem GS.zR{K:PySem.W.Frag}{F H:Hp}{ρ:List Sl}{σ:L2.St}{i:Nat}{m:Dc}(g:GS K F ρ σ H)(e:ρ[i]?=some (.qX m)):∃a,σ[i]?=some (some (.ref a))/\H a=some m.ho/\∀ob,aO K F ρ σ H (upd F a (.cU ob m.ho)) (ρ.set i (.val false (.dC m))) σ (upd H a (.cU ob m.ho))/\Rep K (upd F a (.cU ob m.ho)) (.ref a) (.dC m):=by
 obtain⟨a,o0,h1,h2,h3,h4⟩:=g.own i _ _ e rfl;cases(show o0=m.ho from h4);have hi:i<ρ.length:=(List.getElem?_eq_some_iff.mp e).1;refine⟨a,h1,h2,fun ob=>?_⟩;have sm:aL F (upd F a (.cU ob m.ho)):=aL.cO h3;have rp:Rep K (upd F a (.cU ob m.ho)) (.ref a) (.dC m):=by rw[Rep];exact⟨a,ob,rfl,aY⟩
 have oa:Own ρ σ a:=⟨i,⟨_,_,e,rfl⟩,h1⟩;have old:∀j x,bB (ρ.set i (.val false (.dC m))) σ j x->bB ρ σ j x/\j≠i:=fun j x⟨⟨s,ds',q1,q2⟩,q3⟩=>by
  by_cases hj:j=i;.subst hj;rw[getElem?_set_self hi]at q1;cases q1;cases q2
  .rw[getElem?_set_ne (Ne.symm hj)]at q1;exact⟨⟨⟨s,ds',q1,q2⟩,q3⟩,hj⟩
 refine⟨⟨⟨fun x o q=>?_,by simpa using g.len,fun j b' d q=>?_,fun j s ds' q q'=>?_,fun j k x q q'=>g.dis j k x (old j x q).1 (old k x q').1⟩,sm,fun x n n'=>?_,fun x o q n=>?_,fun x⟨j,q⟩=>.inl ⟨j,(old j x q).1⟩,by simp,fun j s q l=>⟨rfl,?_⟩⟩,rp⟩
 . by_cases hx:x=a;.subst hx;rw[aY]at q ⊢;exact q
   .rw[aD hx]at q ⊢;exact g.sub x o q
 . by_cases hj:j=i;.subst hj;rw[getElem?_set_self hi]at q;cases q;exact⟨_,h1,rp⟩
   .rw[getElem?_set_ne (Ne.symm hj)]at q;obtain⟨v,q1,q2⟩:=g.val j b' d q;exact⟨v,q1,q2.mono sm⟩
 . by_cases hj:j=i;.subst hj;rw[getElem?_set_self hi]at q;cases q;cases q'
   . rw[getElem?_set_ne (Ne.symm hj)]at q;obtain⟨x,ys,q1,q2,q3,q4⟩:=g.own j s ds' q q';have hx:x≠a:=by rintro rfl;exact hj (g.dis j i x ⟨⟨s,ds',q,q'⟩,q1⟩ ⟨⟨_,_,e,rfl⟩,h1⟩)
     exact⟨x,ys,q1,by rw[aD hx];exact q2,by rw[aD hx];exact q3,q4.mono sm⟩
 . by_cases hx:x=a;.subst hx;exact .inl oa
   .rw[aD hx]at n';exact absurd n n'
 . have hx:x≠a:=by rintro rfl;exact n oa
   rw[aD hx];exact q
 . by_cases hj:j=i;.subst hj;rw[e]at q;cases q;cases l
   .exact⟨s,by rw[getElem?_set_ne (Ne.symm hj)];exact q,.refl s⟩
theorem GS.zT{K:PySem.W.Frag}{F H:Hp}{ρ:List Sl}{σ:L2.St}{i:Nat}{kvs:List (Int×D)}(g:GS K F ρ σ H)(e:ρ[i]?=some (.dh kvs)):∃a vs,σ[i]?=some (some (.ref a))/\H a=some (zu (kvs.map (·.1)) vs)/\∀ob,aO K F ρ σ H (upd F a (.cU ob (zu (kvs.map (·.1)) vs))) (ρ.set i (.val false (.dv (kvs.map (·.1)) (kvs.map (·.2))))) σ (upd H a (.cU ob (zu (kvs.map (·.1)) vs)))/\Rep K (upd F a (.cU ob (zu (kvs.map (·.1)) vs))) (.ref a) (.dv (kvs.map (·.1)) (kvs.map (·.2))):=by
 obtain⟨a,o0,h1,h2,h3,h4⟩:=g.own i _ _ e rfl;obtain⟨vs,rfl,h5⟩:=h4;have hi:i<ρ.length:=(List.getElem?_eq_some_iff.mp e).1;refine⟨a,vs,h1,h2,fun ob=>?_⟩;have sm:aL F (upd F a (.cU ob (zu (kvs.map (·.1)) vs))):=aL.cO h3;have rp:Rep K (upd F a (.cU ob (zu (kvs.map (·.1)) vs))) (.ref a) (.dv (kvs.map (·.1)) (kvs.map (·.2))):=by rw[Rep];exact⟨a,ob,vs,rfl,aY,h5.mono sm,by simp⟩
 have oa:Own ρ σ a:=⟨i,⟨_,_,e,rfl⟩,h1⟩;have old:∀j x,bB (ρ.set i (.val false (.dv (kvs.map (·.1)) (kvs.map (·.2))))) σ j x->bB ρ σ j x/\j≠i:=fun j x⟨⟨s,ds',q1,q2⟩,q3⟩=>by
  by_cases hj:j=i;.subst hj;rw[getElem?_set_self hi]at q1;cases q1;cases q2
  .rw[getElem?_set_ne (Ne.symm hj)]at q1;exact⟨⟨⟨s,ds',q1,q2⟩,q3⟩,hj⟩
 refine⟨⟨⟨fun x o q=>?_,by simpa using g.len,fun j b' d q=>?_,fun j s ds' q q'=>?_,fun j k x q q'=>g.dis j k x (old j x q).1 (old k x q').1⟩,sm,fun x n n'=>?_,fun x o q n=>?_,fun x⟨j,q⟩=>.inl ⟨j,(old j x q).1⟩,by simp,fun j s q l=>⟨rfl,?_⟩⟩,rp⟩
 . by_cases hx:x=a;.subst hx;rw[aY]at q ⊢;exact q
   .rw[aD hx]at q ⊢;exact g.sub x o q
 . by_cases hj:j=i;.subst hj;rw[getElem?_set_self hi]at q;cases q;exact⟨_,h1,rp⟩
   .rw[getElem?_set_ne (Ne.symm hj)]at q;obtain⟨v,q1,q2⟩:=g.val j b' d q;exact⟨v,q1,q2.mono sm⟩
 . by_cases hj:j=i;.subst hj;rw[getElem?_set_self hi]at q;cases q;cases q'
   . rw[getElem?_set_ne (Ne.symm hj)]at q;obtain⟨x,ys,q1,q2,q3,q4⟩:=g.own j s ds' q q';have hx:x≠a:=by rintro rfl;exact hj (g.dis j i x ⟨⟨s,ds',q,q'⟩,q1⟩ ⟨⟨_,_,e,rfl⟩,h1⟩)
     exact⟨x,ys,q1,by rw[aD hx];exact q2,by rw[aD hx];exact q3,q4.mono sm⟩
 . by_cases hx:x=a;.subst hx;exact .inl oa
   .rw[aD hx]at n';exact absurd n n'
 . have hx:x≠a:=by rintro rfl;exact n oa
   rw[aD hx];exact q
 . by_cases hj:j=i;.subst hj;rw[e]at q;cases q;cases l
   .exact⟨s,by rw[getElem?_set_ne (Ne.symm hj)];exact q,.refl s⟩
theorem Inv.Dm{X:Cx}{pins:List (Addr×Obj)}{σ:L2.St}{H:Hp}{s:Shared}{a:Addr}{kvs:List (Key×V)}(I:L2.Inv X pins σ H s)(h:H a=some (.dK kvs)):∃o,L2.Inv X pins σ (upd H a (.cU o (.dK kvs))) s:=by obtain⟨hz,hS,vs,r,dd⟩:=(show bR X.prog X.w H s.heap a (.dK kvs)from I.hok a _ h);obtain⟨o,ho,_⟩:=dd.typeIs;exact⟨o,I.write (h':=s.heap) (t':=s.toks) (by rw[h];exact trivial) (.inl rfl) (fun b u _ e=>e) ⟨o,ho⟩ ⟨ho,hz,hS,vs,r,dd⟩⟩
theorem Rc{i:Nat}{x:Str}(hN:X.N[i]?=some x)(hv:zW X.env.scope x)(hd:(x==("__debug__":Str))=false:=by decide)(hcd:(x==("__classdict__":Str))=false:=by decide):SX X c (.Name x pos) (.var i):=by
 have h:=gO (X:=X) (pos:=pos) hN hv hd hcd;refine⟨?_,fun j hj=>by cases hj;exact h⟩;rintro pins s σ H Q I⟨F,ρ,r,ρ',g,e,k⟩;rw[HH.E1]at e;split at e;.rename_i b d q;cases e;obtain⟨v,h1,h2⟩:=g.val i b d q;exact h pins s σ H Q I ⟨v,h1,k v F H (.refl g) h2⟩
 .rename_i b ds q;cases e;obtain⟨v,F',h1,h2,h3⟩:=g.freeze q;exact h pins s σ H Q I ⟨v,h1,k v F' H h2 h3⟩
 .rename_i kvs q;cases e;obtain⟨a,h1,h2,h3⟩:=g.zR q;refine cu (h pins s σ H (fun v H'=>v=.ref a/\H'=H) I ⟨.ref a,h1,rfl,rfl⟩) fun u s1⟨v,H1,I1,r1,e1,e2⟩=>?_;subst e1 e2;obtain⟨o,I2⟩:=Inv.Dm I1 h2;exact⟨.ref a,_,I2,r1,k _ _ _ (h3 o).1 (h3 o).2⟩
 .rename_i kvs q;cases e;obtain⟨a,vs,h1,h2,h3⟩:=g.zT q;refine cu (h pins s σ H (fun v H'=>v=.ref a/\H'=H) I ⟨.ref a,h1,rfl,rfl⟩) fun u s1⟨v,H1,I1,r1,e1,e2⟩=>?_;subst e1 e2;obtain⟨o,I2⟩:=Inv.Dm I1 h2;exact⟨.ref a,_,I2,r1,k _ _ _ (h3 o).1 (h3 o).2⟩
 .cases e
theorem xH{d:D}{v:V}(h:PE X e (tC v))(hr:∀F,Rep X.K F v d):SX X c e (.con d):=⟨eU h fun σ H Q⟨F,ρ,r,ρ',g,e,k⟩=>by rw[HH.E2]at e;cases e;exact k v F H (.refl g) (hr F),fun i h=>by cases h⟩
theorem aa{i j}:SX X c (.Constant (.int i) j pos) (.con (.int i)):=xH tY fun F=>by rw[Rep]
theorem ie{i j}:SX X c (.Constant (.bool i) j pos) (.con (.bl i)):=xH WD fun F=>by rw[Rep]
theorem Dn{j}:SX X c (.Constant .none j pos) (.con .non):=xH Pj fun F=>by rw[Rep]
theorem cY.int{K:PySem.W.Frag}{F H:Hp}{v:V}{i:Int}(h:cY K F H v (.int i)):v=.int i:=by
 rcases h with h|⟨_,_,_,_,_,_,h⟩;.rw[Rep]at h;exact h
 .cases h
theorem cY.bl{K:PySem.W.Frag}{F H:Hp}{v:V}{i:Bool}(h:cY K F H v (.bl i)):v=.bl i:=by
 rcases h with h|⟨_,_,_,_,_,_,h⟩;.rw[Rep]at h;exact h
 .cases h
theorem cY.str{K:PySem.W.Frag}{F H:Hp}{v:V}{i:Str}(h:cY K F H v (.str i)):v=.str i:=by
 rcases h with h|⟨_,_,_,_,_,_,h⟩;.rw[Rep]at h;exact h
 .cases h
theorem cY.non{K:PySem.W.Frag}{F H:Hp}{v:V}(h:cY K F H v .non):v=.non:=by
 rcases h with h|⟨_,_,_,_,_,_,h⟩;.rw[Rep]at h;exact h
 .cases h
theorem cY.tup{K:PySem.W.Frag}{F H:Hp}{v:V}{ds:List D}(s:aL F H)(h:cY K F H v (.tup ds)):∃a xs,v=.ref a/\gM K H a xs/\aG K F xs ds/\Rep K F v (.tup ds):=by
 rcases h with h|⟨_,_,_,_,_,_,h⟩;.have h':=h;rw[Rep]at h;obtain⟨a,xs,rfl,h1,h2⟩:=h;exact⟨a,xs,rfl,aL.fO s h1,h2,h'⟩
 .cases h
theorem cY.lst{K:PySem.W.Frag}{F H:Hp}{v:V}{ds:List D}(s:aL F H)(h:cY K F H v (.lst ds)):∃a xs,v=.ref a/\dI K H a xs/\aG K F xs ds:=by
 rcases h with h|⟨a,xs,es,h1,h2,h3,h⟩;.rw[Rep]at h;obtain⟨a,xs,rfl,h1,h2⟩:=h;exact⟨a,xs,rfl,s.seq h1,h2⟩
 .cases h;exact⟨a,xs,h1,dI.of h2,h3⟩
theorem cY.dC{K:PySem.W.Frag}{F H:Hp}{v:V}{m:Dc}(s:aL F H)(h:cY K F H v (.dC m)):∃a o,v=.ref a/\H a=some (.cU o m.ho):=by
 rcases h with h|⟨_,_,_,_,_,_,h⟩;.rw[Rep]at h;obtain⟨a,o,rfl,h⟩:=h;exact⟨a,o,rfl,s _ _ h⟩
 .cases h
theorem Dp{X:Cx}{pins:List (Addr×Obj)}{σ:L2.St}{H:Hp}{s:Shared}{a:Addr}{ob:Obj}{m:Dc}(I:L2.Inv X pins σ H s)(h:H a=some (.cU ob m.ho)):∃o,s.heap.get? a=some o/\o.cls=.type "dict":=by have z:=(show bR X.prog X.w H s.heap a (.cU ob m.ho)from I.hok a _ h).2;cases m with|k kvs=>obtain⟨_,_,vs,_,d2⟩:=(show bR X.prog X.w H s.heap a (.dK _)from z);exact d2.typeIs|t kvs=>obtain⟨_,_,xs,_,o,es,ep,h1,h2,_⟩:=(show bR X.prog X.w H s.heap a (.dT _)from z);exact⟨o,h1,h2.1⟩
theorem cY.dv{K:PySem.W.Frag}{F H:Hp}{v:V}{ks:List Int}{ds:List D}(s:aL F H)(h:cY K F H v (.dv ks ds)):∃a o vs,v=.ref a/\H a=some (.cU o (zu ks vs))/\aG K F vs ds/\ks.length=ds.length:=by
 rcases h with h|⟨_,_,_,_,_,_,h⟩;.rw[Rep]at h;obtain⟨a,o,vs,rfl,h,h1,h2⟩:=h;exact⟨a,o,vs,rfl,s _ _ h,h1,h2⟩
 .cases h
theorem Eh{X:Cx}{pins:List (Addr×Obj)}{σ:L2.St}{H:Hp}{s:Shared}{a:Addr}{ob:Obj}{ks:List Int}{vs:List V}(I:L2.Inv X pins σ H s)(h:H a=some (.cU ob (zu ks vs))):∃o,s.heap.get? a=some o/\o.cls=.type "dict":=by have z:=(show bR X.prog X.w H s.heap a (.cU ob (zu ks vs))from I.hok a _ h).2;obtain⟨_,_,vs,_,d2⟩:=(show bR X.prog X.w H s.heap a (.dK _)from z);exact d2.typeIs
theorem cY.items{K:PySem.W.Frag}{F H:Hp}{v:V}{d:D}{ds:List D}(s:aL F H)(h:cY K F H v d)(e:items d=some ds):∃a xs,v=.ref a/\(dI K H a xs\/gM K H a xs)/\aG K F xs ds:=by cases d with|tup es=>cases e;obtain⟨a,xs,h1,h2,h3,_⟩:=h.tup s;exact⟨a,xs,h1,.inr h2,h3⟩|lst es=>cases e;obtain⟨a,xs,h1,h2,h3⟩:=h.lst s;exact⟨a,xs,h1,.inl h2,h3⟩|_=>cases e
theorem cA.dj{K:PySem.W.Frag}{F H:Hp}{Q:VK}{v:V}{d:D}(s:aL F H)(r:Rep K F v d)(k:∀v F' H',Ext F H F' H'->cA K F' H' H v (.val d)->Q v H'):Q v H:=k v F H (.refl s) r
theorem bT{K:PySem.W.Frag}{F:Hp}(i:Int):Rep K F (.int i) (.int i):=by rw[Rep]
theorem gf{K:PySem.W.Frag}{F:Hp}(i:Bool):Rep K F (.bl i) (.bl i):=by rw[Rep]
theorem QD{K:PySem.W.Frag}{F:Hp}(i:Str):Rep K F (.str i) (.str i):=by rw[Rep]
theorem QX{K:PySem.W.Frag}{F:Hp}:Rep K F .non .non:=by rw[Rep]
theorem v7{K:PySem.W.Frag}{F H:Hp}{Q:VK}{xs:List V}{ds:List D}{p:Addr}(s:aL F H)(r:aG K F xs ds)(hp:H p=none)(k:∀v F' H',Ext F H F' H'->cA K F' H' H v (.own ds)->Q v H'):Q (.ref p) (upd H p (.lst xs)):=by
 have fp:F p=none:=by cases q:F p with|none=>rfl|some o=>rw[s p o q]at hp;cases hp
 exact k _ F _ ⟨aL.cO hp,.refl _,s.trans (aL.cO hp),fun _ a b=>absurd a b⟩ ⟨p,xs,rfl,aY,fp,r,hp⟩
theorem vA{K:PySem.W.Frag}{F H:Hp}{Q:VK}{xs:List V}{ds:List D}{p:Addr}(s:aL F H)(r:aG K F xs ds)(hp:H p=none)(k:∀v F' H',Ext F H F' H'->cA K F' H' H v (.val (.tup ds))->Q v H'):Q (.ref p) (upd H p (.tup xs)):=by
 have fp:F p=none:=by cases q:F p with|none=>rfl|some o=>rw[s p o q]at hp;cases hp
 have sm:aL F (upd F p (.tup xs)):=aL.cO fp;refine k _ (upd F p (.tup xs)) _ ⟨aL.cO hp,sm,fun b o e=>?_,fun b n n'=>?_⟩ ?_
 . by_cases hb:b=p;.subst hb;rw[aY]at e ⊢;exact e
   .rw[aD hb]at e ⊢;exact s b o e
 . by_cases hb:b=p;.subst hb;exact jE hp
   .rw[aD hb]at n';exact absurd n n'
 .show Rep K _ _ (.tup ds);rw[Rep];exact⟨p,xs,rfl,gM.of aY,r.mono sm⟩
end
theorem qP(k:Int)(t:Tok)(l:Addr)(its:Array Value)(n:Nat)(dd:Option Addr)(sl:Array (Option Value)):Meets (Builtin.«int.__rmul__» ⟨[.int k t,.ref l],[]⟩) (fun _ R s=>s.heap.get? l=some ⟨.type "list",dd,.seq its n,sl⟩/\R (.ok (.ret Value.notImplemented)) s):=.of_wp fun prog w A R s h=>by obtain⟨hp,g,d,tk,os⟩:=s;obtain⟨hl,h⟩:=h;wp_walk;exact⟨_,rfl,h⟩
theorem Bs(l:Addr)(its:Array Value)(n:Nat)(dd:Option Addr)(sl:Array (Option Value))(k:Int)(t:Tok)(h0:¬(!Builtin.List.listFitsIndex k)=true)(h1:¬its.size*k.toNat>(2^63-1)/8)(h2:¬listTooLong (its.size*k.toNat)=true):Meets (Builtin.«list.__mul__» ⟨[.ref l,.int k t],[]⟩) (fun _ R s=>s.heap.get? l=some ⟨.type "list",dd,.seq its n,sl⟩/\R (.ok (.ret (Value.ref s.heap.objs.size))) {s with heap:=s.heap.push {cls:=.type "list",data:=.seq (foldl (·++·) #[] (replicate (if its.isEmpty=true then 0 else k.toNat) its))}}):=.of_wp fun prog w A R s h=>by obtain⟨hp,g,d,tk,os⟩:=s;obtain⟨hl,h⟩:=h;have hz:=AutoListH.joined_fits h2;wp_walk using wpAny_loadPart' hl;refine wpAny_ite_false (decide_eq_false (not_lt.mpr hz)) ?_;wp_walk;exact⟨_,rfl,h⟩
section
variable{X:Cx}{c:Call}{e a b d:Expr}{p pa pb pd:P}{pos:Pos}
theorem KJ:dU X (binaryOp .Add) (fun x y H Q=>∃l b xs zs,x=.ref l/\y=.ref b/\dI X.K H l xs/\dI X.K H b zs/\xs.length+zs.length<=sizeLine/\∀p,H p=none->Q (.ref p) (upd H p (.lst (xs++zs)))):=by
 intro pins s σ H x y v u Q I rx ry h;obtain⟨l,b,xs,zs,rfl,rfl,hl,hb,hz,q⟩:=h;cases rx;cases ry;obtain⟨its,r,pl,_⟩:=I.list hl;obtain⟨its2,r2,M6,_⟩:=I.list hb;obtain⟨⟨cls,dd,data,sl⟩,ho,hc,n,hd⟩:=id pl.isList;obtain⟨⟨cls2,dd2,data2,sl2⟩,ho2,hc2,n2,hd2⟩:=id M6.isList;simp only at hc hd hc2 hd2;subst hc hd hc2 hd2;have e:its.toArray++its2.toArray=(its++its2).toArray:=by simp
 refine concat_meets ⟨_,ho,rfl⟩ ⟨_,ho2,rfl⟩ noFill_list_add seq_list_add PySem.F.slot_list_add PySem.F.entry_list_add (PySem.F.args_list_add_2 _ _) (list_addW l b its.toArray its2.toArray n n2 dd dd2 sl sl2 (by simp only[size_toArray];rw[<-r.length,<-r2.length];exact hz)) ⟨ho,ho2,?_⟩;rw[e];exact⟨.ref _,_,I.O2 (t':=s.toks) (r.append r2) (by rw[length_append];exact hz),rfl,q _ I.fresh⟩
theorem GR:dU X (binaryOp .Add) (fun x y H Q=>∃a b ys,x=.ref a/\y=.ref b/\gM X.K H a []/\gM X.K H b ys/\Q (.ref b) H):=by intro pins s σ H x y v u Q I rx ry h;obtain⟨a,b,ys,rfl,rfl,ha,hb,q⟩:=h;cases rx;cases ry;obtain⟨its,r1,p1,_⟩:=I.tuple ha;obtain⟨its2,r2,p2,_⟩:=I.tuple hb;obtain⟨⟨cls,dd,data,sl⟩,ho,hc,n,hd⟩:=id p1;obtain⟨⟨cls2,dd2,data2,sl2⟩,ho2,hc2,n2,hd2⟩:=id p2;simp only at hc hd hc2 hd2;subst hc hd hc2 hd2;have e0:its=[]:=r1.oJ.mpr rfl;subst e0;exact concat_meets ⟨_,ho,rfl⟩ ⟨_,ho2,rfl⟩ noFill_tuple_add seq_tuple_add slot_tuple_add entry_tuple_add (args_tuple_add_2 _ _) (tuple_addW0 a b _ its2.toArray n n2 dd dd2 sl sl2 (by simp)) ⟨ho,ho2,⟨.ref b,H,I,rfl,q⟩⟩
theorem aV:dU X (binaryOp .Add) (rD X.K (oE .add)):=by
 rintro pins s σ H x y v u Q I rx ry⟨F,d,e,r,sm,px,py,he,k⟩;replace he:ql d e=some r:=he;unfold ql at he;split at he;.cases he;rw[px.int]at rx;rw[py.int]at ry;exact O8 pins s σ H _ _ v u Q I rx ry ⟨_,_,rfl,rfl,cA.dj sm (bT _) k⟩
 .rename_i xs ys;obtain⟨hl,he⟩:=bu he;subst he;obtain⟨a,vs,rfl,ha,ra⟩:=px.lst sm;obtain⟨b,us,rfl,hb,rb⟩:=py.lst sm;exact KJ pins s σ H _ _ v u Q I rx ry ⟨a,b,vs,us,rfl,rfl,ha,hb,by rw[ra.length,rb.length];exact hl,fun p hp=>v7 sm (ra.append rb) hp k⟩
 . rename_i xs ys;obtain⟨hl,he⟩:=bu he;subst he;obtain⟨a,vs,rfl,ha,ra,ta⟩:=px.tup sm;obtain⟨b,us,rfl,hb,rb,tb⟩:=py.tup sm;by_cases h0:vs=[]
   . subst h0;have e0:xs=[]:=by have:=ra.length;exact List.eq_nil_of_length_eq_zero this.symm
     subst e0;exact GR pins s σ H _ _ v u Q I rx ry ⟨a,b,us,rfl,rfl,ha,hb,cA.dj sm tb k⟩
   . refine JL pins s σ H _ _ v u Q I rx ry ⟨a,b,vs,us,rfl,rfl,ha,hb,h0,by rw[ra.length,rb.length];exact hl,fun e=>?_,fun _ p hp=>vA sm (ra.append rb) hp k⟩;subst e;have e0:ys=[]:=by have:=rb.length;exact List.eq_nil_of_length_eq_zero this.symm
     subst e0;rw[append_nil]at k;exact cA.dj sm ta k
 .rename_i x1 y1;obtain⟨hl,he⟩:=bu he;subst he;rw[px.str]at rx;rw[py.str]at ry;exact xX pins s σ H _ _ v u Q I rx ry ⟨_,_,rfl,rfl,hl,cA.dj sm (QD _) k⟩
 .cases he
theorem bK:dU X (binaryOp .Sub) (rD X.K (oE .sub)):=by
 rintro pins s σ H x y v u Q I rx ry⟨F,d,e,r,sm,px,py,he,k⟩;replace he:wJ d e=some r:=he;unfold wJ at he;split at he;.cases he;rw[px.int]at rx;rw[py.int]at ry;exact Qe pins s σ H _ _ v u Q I rx ry ⟨_,_,rfl,rfl,cA.dj sm (bT _) k⟩
 .cases he
theorem Ii:dU X (binaryOp .Mult) (fun x y H Q=>∃l k xs,x=.ref l/\y=.int k/\dI X.K H l xs/\-(2^63)<=k/\k<2^63/\xs.length*k.toNat<=sizeLine/\∀p,H p=none->Q (.ref p) (upd H p (.lst (replicate k.toNat xs).flatten))):=by
 intro pins s σ H x y v u Q I rx ry h;obtain⟨l,k,xs,rfl,rfl,hl,h1,h2,hz,q⟩:=h;cases rx;obtain⟨t,rfl⟩:=ry;obtain⟨its,r,pl,_⟩:=I.list hl;obtain⟨⟨cls,dd,data,sl⟩,ho,hc,n,hd⟩:=id pl.isList;simp only at hc hd;subst hc hd;have hlen:its.toArray.size*k.toNat<=sizeLine:=by rw[size_toArray,<-r.length];exact hz
 have acy:¬ its.toArray.size*k.toNat>(2^63-1)/8:=by
  have:(sizeLine:Nat)<=(2^63-1)/8:=by decide
  omega
 have hnew:foldl (·++·) #[] (replicate (if its.toArray.isEmpty=true then 0 else k.toNat) its.toArray)=(replicate k.toNat its).flatten.toArray:=by
  have f0:∀m:Nat,foldl (·++·) #[] (replicate m its.toArray)=(replicate m its).flatten.toArray:=fun m=>by have:=foldl_rep its m [];rw[nil_append]at this;exact this
  rw[f0];cases its with|nil=>simp|cons a r'=>rw[if_neg (by simp)]
 refine wpAny_binaryOp_repeat_ref (T:="list") (U:="int") (by decide) ⟨_,ho,rfl⟩ (fun s'=>typeIs_int s' k t) noFill_list_mul F.fills_int_mul F.slot_int_rmul repeat_list F.slot_int_index.lookup ?_;refine call_meets F.slot_int_rmul (typeIs_int s k t) F.entry_int_rmul (F.args_int_rmul_2 _ _) (qP k t l its.toArray n dd sl) ⟨ho,rfl,⟨_,ho,rfl⟩,?_⟩;refine call_meets F.slot_list_mul ⟨_,ho,rfl⟩ F.entry_list_mul (F.args_list_mul_2 _ _) (Bs l its.toArray n dd sl k t (by rw[fitsIndex_both h1 h2];exact Bool.false_ne_true) acy (by rw[Gn hlen];exact Bool.false_ne_true)) ⟨ho,?_⟩;rw[hnew];exact⟨.ref _,_,I.O2 (t':=s.toks) (r.rep k.toNat) (by rw[len_rep,Nat.mul_comm];exact hz),rfl,q _ I.fresh⟩
theorem m7:fillsNumberSlot (.type "tuple") "mul"=pure false:=PySem.fillsNumberSlot_seq (id:="tuple.__mul__") (r:=some (.builtin "tuple.__rmul__")) slot_tuple_mul.lookup (by decide+kernel) PySem.F.slot_tuple_rmul.lookup (by decide+kernel)
theorem uL:seqRepeat? (.type "tuple")=pure (some (.builtin "tuple.__mul__")):=by unfold seqRepeat?;rw[PySem.seqSlot_of (T:="tuple") (name:="__mul__") (id:="tuple.__mul__") slot_tuple_mul.lookup (by decide+kernel),PySem.seqSlot_of (T:="tuple") (name:="__rmul__") (id:="tuple.__rmul__") PySem.F.slot_tuple_rmul.lookup (by decide+kernel)];rfl
theorem pQ(k:Int)(t:Tok)(l:Addr)(its:Array Value)(n:Nat)(dd:Option Addr)(sl:Array (Option Value)):Meets (Builtin.«int.__rmul__» ⟨[.int k t,.ref l],[]⟩) (fun _ R s=>s.heap.get? l=some ⟨.type "tuple",dd,.seq its n,sl⟩/\R (.ok (.ret Value.notImplemented)) s):=.of_wp fun prog w A R s h=>by obtain⟨hp,g,d,tk,os⟩:=s;obtain⟨hl,h⟩:=h;wp_walk;exact⟨_,rfl,h⟩
theorem yx(l:Addr)(its:Array Value)(n:Nat)(dd:Option Addr)(sl:Array (Option Value))(k:Int)(t:Tok)(h0:0<=k)(h1:k<2^63)(hz:its.size*k.toNat<=sizeLine)(hne:0<its.size):Meets (Builtin.«tuple.__mul__» ⟨[.ref l,.int k t],[]⟩) (fun _ R s=>s.heap.get? l=some ⟨.type "tuple",dd,.seq its n,sl⟩/\(k=1->R (.ok (.ret (Value.ref l))) s)/\(k≠1->R (.ok (.ret (Value.ref s.heap.objs.size))) {s with heap:=s.heap.push {cls:=.type "tuple",data:=.seq (foldl (·++·) #[] (replicate k.toNat its))}})):=.of_wp fun prog w A R s h=>by
  obtain⟨hp,g,d,tk,os⟩:=s;obtain⟨hl,q1,q2⟩:=h;have hem:its.isEmpty=false:=by cases e:its.isEmpty with|false=>rfl|true=>rw[Array.isEmpty_iff_size_eq_zero]at e;omega
  show wpAny _ _ (asIndex (.int k t)>>=_) _ _ _;wp_walk using wpAny_loadPart' hl;have hI:IsTup hp l its:=⟨_,hl,rfl,n,rfl⟩;rw[if_neg (by simp;omega)];refine wpAny_bind (PyProof.Rows.tupleItemsOf_ hI ?_);try dsimp only
  by_cases e1:k=1;.rw[if_pos (by simp[e1])];wp_walk using wpAny_loadPart' hl;exact⟨_,rfl,q1 e1⟩
  . have q:=q2 e1;rw[if_neg (by simp[hem,e1])];by_cases e0:k=0;.subst e0;rw[if_pos (by simp)];unfold tupleExact;refine wpAny_bind (wpAny_newObj_type ?_);exact wpAny_pure ⟨_,rfl,q⟩
    . have hb:(its.size:Int)*k<=sizeLine:=by
       have:((its.size*k.toNat:Nat):Int)<=(sizeLine:Nat):=by exact_mod_cast hz
       rw[Int.natCast_mul,show((k.toNat:Nat):Int)=k by omega]at this;exact this
      have hs2:(sizeLine:Int)<=(2^63-1)/8:=by decide
      rw[if_neg (by simp[hem];omega),if_neg (by omega),if_neg (by simp[Builtin.Tuple.tupleTooMany];omega)];unfold tupleExact;refine wpAny_bind (wpAny_newObj_type ?_ ?_);.exact wpAny_pure ⟨_,rfl,q⟩
      .have:=foldl_rep its.toList k.toNat [];rw[nil_append,show its.toList.toArray=its by simp]at this;show(foldl (·++·) #[] (replicate k.toNat its)).size<=sizeLine;rw[show(#[]:Array Value)=([]:List Value).toArray from rfl,this,size_toArray,len_rep,length_toList,Nat.mul_comm];exact hz
theorem Ke:dU X (binaryOp .Mult) (fun x y H Q=>∃l k xs,x=.ref l/\y=.int k/\gM X.K H l xs/\0<xs.length/\0<=k/\k<2^63/\xs.length*k.toNat<=sizeLine/\(k=1->Q (.ref l) H)/\(k≠1->∀p,H p=none->Q (.ref p) (upd H p (.tup (replicate k.toNat xs).flatten)))):=by
 intro pins s σ H x y v u Q I rx ry h;obtain⟨l,k,xs,rfl,rfl,hl,hne,h1,h2,hz,qa,qb⟩:=h;cases rx;obtain⟨t,rfl⟩:=ry;obtain⟨its,r,pl,_⟩:=I.tuple hl;obtain⟨⟨cls,dd,data,sl⟩,ho,hc,n,hd⟩:=id pl;simp only at hc hd;subst hc hd;have hlen:its.toArray.size*k.toNat<=sizeLine:=by rw[size_toArray,<-r.length];exact hz
 have hnew:foldl (·++·) #[] (replicate k.toNat its.toArray)=(replicate k.toNat its).flatten.toArray:=by have:=foldl_rep its k.toNat [];rw[nil_append]at this;exact this
 refine wpAny_binaryOp_repeat_ref (T:="tuple") (U:="int") (by decide) ⟨_,ho,rfl⟩ (fun s'=>typeIs_int s' k t) m7 F.fills_int_mul F.slot_int_rmul uL F.slot_int_index.lookup ?_;refine call_meets F.slot_int_rmul (typeIs_int s k t) F.entry_int_rmul (F.args_int_rmul_2 _ _) (pQ k t l its.toArray n dd sl) ⟨ho,rfl,⟨_,ho,rfl⟩,?_⟩;refine call_meets slot_tuple_mul ⟨_,ho,rfl⟩ PySem.F.entry_tuple_mul (PySem.F.args_tuple_mul_2 _ _) (yx l its.toArray n dd sl k t h1 h2 hlen (by rw[size_toArray,<-r.length];exact hne)) ⟨ho,fun e=>⟨.ref l,H,I,rfl,qa e⟩,fun e=>?_⟩;rw[hnew];refine⟨.ref s.heap.objs.size,_,I.laid (t':=s.toks) (o:=.tup (replicate k.toNat xs).flatten) (fun b ob q=>get?_push_of_some _ q) (le_refl _) ?_,rfl,qb e _ (I.hok.fresh (le_refl _))⟩;exact⟨by rw[len_rep,Nat.mul_comm];exact hz,_,r.rep k.toNat,IsTup.new _ _⟩
theorem gA:dU X (binaryOp .Mult) (rD X.K (oE .mul)):=by
 rintro pins s σ H x y v u Q I rx ry⟨F,d,e,r,sm,px,py,he,k⟩;replace he:p7 d e=some r:=he;unfold p7 at he;split at he;.obtain⟨hc,he⟩:=bu he;subst he;rw[px.int]at rx;rw[py.int]at ry;exact PJ pins s σ H _ _ v u Q I rx ry ⟨_,_,rfl,rfl,hc,cA.dj sm (bT _) k⟩
 . rename_i xs i;obtain⟨⟨h1,h2,h3⟩,he⟩:=bu he;subst he;obtain⟨a,vs,rfl,ha,ra⟩:=px.lst sm;rw[py.int]at ry;have hk:i<2^63:=by have h4:=Nat.le_mul_of_pos_left i.toNat h2;have h5:i.toNat<=16777216:=le_trans h4 h3;omega
   exact Ii pins s σ H _ _ v u Q I rx ry ⟨a,i,vs,rfl,rfl,ha,by omega,hk,by rw[ra.length];exact h3,fun p hp=>v7 sm (ra.rep i.toNat) hp k⟩
 . rename_i xs i;obtain⟨⟨h1,h2,h3⟩,he⟩:=bu he;subst he;obtain⟨a,vs,rfl,ha,ra,rr⟩:=px.tup sm;rw[py.int]at ry;have hk:i<2^63:=by have h4:=Nat.le_mul_of_pos_left i.toNat h2;have h5:i.toNat<=16777216:=le_trans h4 h3;omega
   refine Ke pins s σ H _ _ v u Q I rx ry ⟨a,i,vs,rfl,rfl,ha,by rw[ra.length];exact h2,h1,hk,by rw[ra.length];exact h3,fun e=>?_,fun e p hp=>vA sm (ra.rep i.toNat) hp k⟩;subst e;refine cA.dj sm ?_ k;have e1:(replicate (1:Int).toNat xs).flatten=xs:=by simp
   rw[e1];exact rr
 .cases he
theorem u6:dU X (binaryOp .FloorDiv) (rD X.K (oE .fdiv)):=by
 rintro pins s σ H x y v u Q I rx ry⟨F,d,e,r,sm,px,py,he,k⟩;replace he:o6 d e=some r:=he;unfold o6 at he;split at he
 . rename_i i j;obtain⟨⟨h1,h2⟩,he⟩:=bu he;subst he;rw[px.int]at rx;rw[py.int]at ry;obtain⟨t,rfl⟩:=rx;obtain⟨t',rfl⟩:=ry;have hl:j.natAbs.log2<9000:=by
    have:j.natAbs<2^200:=by
     have:(2:Nat)^200=1606938044258990275541962092341162602522202993782792835301376:=by decide
     omega
    have h3:=(Nat.log2_lt (by omega)).mpr this;omega
   exact floordiv_int (by omega) (by rw[Int.fdiv_eq_ediv_of_nonneg i (by omega)];exact⟨.int _,H,I.tok _,⟨_,rfl⟩,cA.dj sm (bT _) k⟩) (.inl (PyProof.noPylong_of_log2 hl))
 .cases he
theorem gB:dU X (binaryOp .Mod) (rD X.K (oE .mod)):=by
 rintro pins s σ H x y v u Q I rx ry⟨F,d,e,r,sm,px,py,he,k⟩;replace he:vZ d e=some r:=he;unfold vZ at he;split at he;.obtain⟨h1,he⟩:=bu he;subst he;rw[px.int]at rx;rw[py.int]at ry;exact PK pins s σ H _ _ v u Q I rx ry ⟨_,_,rfl,rfl,h1,cA.dj sm (bT _) k⟩
 .cases he
theorem gG:dU X (binaryOp .Pow) (rD X.K (oE .pow)):=by
 rintro pins s σ H x y v u Q I rx ry⟨F,d,e,r,sm,px,py,he,k⟩;replace he:wg d e=some r:=he;unfold wg at he;split at he;.obtain⟨⟨h1,h2,h3⟩,he⟩:=bu he;subst he;rw[px.int]at rx;rw[py.int]at ry;exact Rg pins s σ H _ _ v u Q I rx ry ⟨_,_,rfl,rfl,⟨h1,by omega,h3⟩,cA.dj sm (bT _) k⟩
 .cases he
theorem Kd:dU X (binaryOp .LShift) (rD X.K (oE .shl)):=by
 rintro pins s σ H x y v u Q I rx ry⟨F,d,e,r,sm,px,py,he,k⟩;replace he:vy d e=some r:=he;unfold vy at he;split at he;.obtain⟨⟨h1,h2,h3⟩,he⟩:=bu he;subst he;rw[px.int]at rx;rw[py.int]at ry;exact QJ pins s σ H _ _ v u Q I rx ry ⟨_,_,rfl,rfl,⟨h1,by omega,h3⟩,cA.dj sm (bT _) k⟩
 .cases he
theorem Ky:dU X (binaryOp .RShift) (rD X.K (oE .shr)):=by
 rintro pins s σ H x y v u Q I rx ry⟨F,d,e,r,sm,px,py,he,k⟩;replace he:vW d e=some r:=he;unfold vW at he;split at he;.obtain⟨h1,he⟩:=bu he;subst he;rw[px.int]at rx;rw[py.int]at ry;exact PQ pins s σ H _ _ v u Q I rx ry ⟨_,_,rfl,rfl,h1,cA.dj sm (bT _) k⟩
 .cases he
theorem Ff:dU X (binaryOp .BitAnd) (rD X.K (oE .band)):=by
 rintro pins s σ H x y v u Q I rx ry⟨F,d,e,r,sm,px,py,he,k⟩;replace he:pX d e=some r:=he;unfold pX at he;split at he;.cases he;rw[px.int]at rx;rw[py.int]at ry;exact Qf pins s σ H _ _ v u Q I rx ry ⟨_,_,rfl,rfl,cA.dj sm (bT _) k⟩
 .cases he
theorem az{o:Op}{op:Operator}(ho:dU X (binaryOp op) (rD X.K (oE o)))(ha:SX X c a pa)(hb:SX X c b pb):SX X c (.BinOp a op b pos) (.bin o pa pb):=ur (fun h1 h2=>VD ho h1 h2) ha hb (fun ρ=>rfl) rfl
theorem iC(ha:SX X c a pa):SX X c (.UnaryOp .USub a pos) (.neg pa):=by refine Dd (f:=Ew) (fun h1=>Lx ?_ h1) ha (fun ρ=>rfl) rfl;rintro pins s σ H x v Q I rx⟨F,d,r,sm,px,he,k⟩;unfold Ew at he;obtain⟨i,e1,e2⟩:=map_some he;subst e2;cases d<;>cases e1;rw[px.int]at rx;exact Ef pins s σ H _ v Q I rx ⟨_,rfl,cA.dj sm (bT _) k⟩
theorem Ai{op:CmpOp}{f:Int->Int->Bool}(ho:dU X (compareOp op) (Gi fun i j=>.bl (f i j))):dU X (compareOp op) (rD X.K fun x y=>(HW f x y).map fun k=>.val (.bl k)):=by
 rintro pins s σ H x y v u Q I rx ry⟨F,d,e,r,sm,px,py,he,k⟩;obtain⟨t,e1,e2⟩:=map_some (show(HW f d e).map _=some r from he);subst e2;unfold HW at e1;split at e1;.cases e1;rw[px.int]at rx;rw[py.int]at ry;exact ho pins s σ H _ _ v u Q I rx ry ⟨_,_,rfl,rfl,cA.dj sm (gf _) k⟩
 .cases e1
theorem yd{op:CmpOp}{f:Int->Int->Bool}(ho:dU X (compareOp op) (Gi fun i j=>.bl (f i j))){o:Cm}(hc:cm o=HW f):dU X (compareOp op) (rD X.K (oA o)):=by
 have e:oA o=fun x y=>(HW f x y).map fun k=>.val (.bl k):=by funext x y;unfold oA;rw[hc]
 rw[e];exact Ai ho
theorem Qx:dU X (compareOp .Lt) (rD X.K fun x y=>(HW (fun i j=>decide (i<j)) x y).map fun k=>.val (.bl k)):=Ai Vn
theorem Gg:dU X (compareOp .LtE) (rD X.K (oA .le)):=yd We rfl
theorem mq:dU X (compareOp .Gt) (rD X.K (oA .gt)):=yd Wo rfl
theorem Gr:dU X (compareOp .GtE) (rD X.K (oA .ge)):=yd Vd rfl
theorem Az{K:PySem.W.Frag}{F H:Hp}{v:V}{d:D}(h:cY K F H v d):decide (v=.non)=je d:=by cases d with
 |non=>rw[h.non];rfl|bl _=>rw[h.bl];rfl|int _=>rw[h.int];rfl|str _=>rw[h.str];rfl|tup _=>
   rcases h with h|⟨a,_,_,rfl,_⟩;.rw[Rep]at h;obtain⟨a,_,rfl,_⟩:=h;rfl
   .rfl|lst _=>
   rcases h with h|⟨a,_,_,rfl,_⟩;.rw[Rep]at h;obtain⟨a,_,rfl,_⟩:=h;rfl
   .rfl|dC _=>
   rcases h with h|⟨a,_,_,rfl,_⟩;.rw[Rep]at h;obtain⟨a,_,rfl,_⟩:=h;rfl
   .rfl|dv _ _=>
   rcases h with h|⟨a,_,_,rfl,_⟩;.rw[Rep]at h;obtain⟨a,_,_,rfl,_⟩:=h;rfl
   .rfl
theorem Kv:dU X (compareOp .IsNot) (rD X.K (oA .K1)):=by
 rintro pins s σ H x y v u Q I rx ry⟨F,d,e,r,sm,px,py,he,k⟩;obtain⟨t,e1,e2⟩:=map_some (show(Yz true d e).map _=some r from he);subst e2;unfold Yz at e1;split at e1;.cases e1;exact JC pins s σ H x y v u Q I rx ry ⟨py.non,by rw[Az px];exact cA.dj sm (gf _) k⟩
 .cases e1
theorem fM{o:Cm}{op:CmpOp}(ho:dU X (compareOp op) (rD X.K (oA o)))(ha:SX X c a pa)(hb:SX X c b pb)(hm:behindInMarks op b=false):SX X c (.Compare a [op] [b] pos) (.cmp o pa pb):=ur (fun h1 h2=>Js ho h1 h2 hm) ha hb (fun ρ=>rfl) rfl
theorem Gd{o o':Cm}{op op':CmpOp}(ho:dU X (compareOp op) (rD X.K (oA o)))(ho':dU X (compareOp op') (rD X.K (oA o')))(ha:SX X c a pa)(hb:SX X c b pb)(hd:SX X c d pd)(hm:lastMarks [op,op'] [b,d]=false:=by with_unfolding_all rfl):SX X c (.Compare a [op,op'] [b,d] pos) (.chain o o' pa pb pd):=by
 obtain⟨ta,tb,h1,h2,h3⟩:=ha.gY hb;obtain⟨td,h4,h5⟩:=hd.dm;refine⟨eU (Hf ho ho' h1 h2 h4 hm) ?_,fun i h=>by cases h⟩;rintro σ H Q⟨F,ρ,r,ρ',g,e,k⟩;rw[HH.E9]at e;obtain⟨xy,ρ1,e1,e⟩:=ak e;obtain⟨t,ρ2,e2,e⟩:=ak e;have zz:=aF e2;clear e2;obtain⟨e2,e3⟩:=zz;subst e3;have hfl:flat xy.2=true/\cm o xy.1 xy.2=some t:=by
  split at e2;.rename_i hf;exact⟨hf,e2⟩
  .cases e2
 obtain⟨hfl,e2⟩:=hfl;refine h3 g e1 fun v u F' H' s pv pu=>⟨F',xy.1,xy.2,.val (.bl t),s.gs.sub,pv,pu,by unfold oA;rw[e2];rfl,fun w F2 H2 x rn=>?_⟩;have s2:=s.trans (x.stp s.gs);have rn:Rep X.K F2 w (.bl t):=rn;rw[Rep]at rn;subst rn;refine⟨t,rfl,?_⟩;cases t with|false=>rw[if_neg Bool.false_ne_true]at e ⊢;cases e;exact k _ F2 H2 s2 (show Rep X.K F2 _ _ from gf _)|true=>
   rw[if_pos rfl]at e ⊢;obtain⟨z,ρ3,e3,e⟩:=ak e;obtain⟨e4,e5⟩:=aF e;subst e5;refine h5 s2.gs e3 fun w F3 H3 s3 pw=>⟨F3,xy.2,z,r,s3.gs.sub,?_,pw,e4,fun w' F4 H4 x4 rn=>?_⟩
   . have x1:=x.fs;have x2:=s3.cB;rcases pu with pu|⟨_,_,_,_,_,_,h⟩;.exact .inl ((pu.mono x1).mono x2)
     .rw[h]at hfl;cases hfl
   .have s4:=s2.trans s3;exact k w' F4 H4 (s4.trans (x4.stp s4.gs)) (.later s4 (rn.nY s4.gs))
end
section
variable{X:Cx}{c:Call}{e a b d:Expr}{p pa pb pd:P}{pos:Pos}{rest:List Expr}
theorem pL{x:D}{k:Bool}(h:xV x=some k):x=.bl k:=by cases x<;>cases h;rfl
theorem cX{x:D}{k:Int}(h:jd x=some k):x=.int k:=by cases x<;>cases h;rfl
theorem cL.bool{K:PySem.W.Frag}{F' H' H:Hp}{ρ' ρ:List Sl}{σ' σ:L2.St}{v:V}{r:R}{k:Bool}(h:cL K F' ρ' σ' H' ρ σ H v r)(e:r.d=.bl k):v=.bl k:=by cases r with|val d=>cases(show d=.bl k from e);have h:Rep K F' v (.bl k):=h;rw[Rep]at h;exact h|own ds=>cases e
def ST(X:Cx)(c:Call)(e:Expr)(p:P):Prop:=PT X e (Hb X.K (iy (HH.ev c p)))
def SW(X:Cx)(c:Call)(e:Expr)(p:P):Prop:=PW X e (Hb X.K (iy (HH.ev c p)))
theorem SW.st(h:SW X c e p):ST X c e p:=PW.pt h
theorem o7{t:TE}{Q:Bool->Hp->Prop}{σ:L2.St}{H:Hp}(hi:∀Q,wG X.K (HH.ev c p) σ H Q->t σ H Q)(h:Hb X.K (iy (HH.ev c p)) σ H Q):t σ H fun x H1=>∃k,x=.bl k/\Q k H1:=by obtain⟨F,ρ,k,ρ',g,e,q⟩:=h;obtain⟨r,ρ1,e1,e2⟩:=ak e;have zz:=aF e2;clear e2;obtain⟨e2,e3⟩:=zz;subst e3;exact hi _ ⟨F,ρ,r,ρ1,g,e1,fun v F' H' s rr=>⟨k,rr.bool (pL e2),q F' H' s⟩⟩
theorem iI(h:SX X c e p)(he:∀whole,isTrue e X.env whole=(do let v<-whole;standAt e.pos;holding [v] (truthy v)):=by intro _;rfl):ST X c e p:=wK (QK h.ev he) fun σ H Q q=>o7 (fun _ z=>z) q
theorem aW{o:Cm}{op:CmpOp}(ho:dU X (compareOp op) (rD X.K (oA o)))(ha:SX X c a pa)(hb:SX X c b pb)(hm:behindInMarks op b=false):ST X c (.Compare a [op] [b] pos) (.cmp o pa pb):=by obtain⟨ta,tb,h1,h2,h3⟩:=ha.gY hb;refine wK (zr ho h1 h2 hm) fun σ H Q q=>o7 (t:=NP (rD X.K (oA o)) ta tb) (fun Q z=>?_) q;obtain⟨F,ρ,r,ρ',g,e,k⟩:=z;rw[HH.E8]at e;obtain⟨xy,ρ1,e1,e2⟩:=ak e;have zz:=aF e2;clear e2;obtain⟨e2,e3⟩:=zz;subst e3;refine h3 g e1 fun v u F' H' s pv pu=>⟨F',xy.1,xy.2,r,s.gs.sub,pv,pu,e2,fun w F2 H2 x rn=>?_⟩;exact k w F2 H2 (s.trans (x.stp s.gs)) (.later s (rn.nY s.gs))
theorem qm(ha:ST X c a pa):ST X c (.UnaryOp .Not a pos) (.not pa):=by
 refine wK (Qd ha) ?_;rintro σ H Q⟨F,ρ,k,ρ',g,e,q⟩;unfold iy at e;rw[HH.E5]at e;obtain⟨r,ρ1,e1,e2⟩:=ak e;obtain⟨k',ρ2,e3,e4⟩:=ak e1;cases e4;have zz:=aF e2;clear e2;obtain⟨e2,e5⟩:=zz;subst e5;have e2:(!k')=k:=by cases e2;rfl
 exact⟨F,ρ,k',_,g,e3,fun F' H' s=>by show Q (!k') H';rw[e2];exact q F' H' s⟩
theorem Iv(ρ:List Sl):iy (HH.ev c (.and pa pb)) ρ=(iy (HH.ev c pa) ρ).bind fun x ρ=>if x then iy (HH.ev c pb) ρ else .ok false ρ:=by unfold iy;rw[HH.E6];unfold iy;cases HH.ev c pa ρ with|exc _ _=>rfl|stuck=>rfl|ok r ρ1=>simp only[Res.bind];cases h:xV r.d with|none=>rfl|some k=>cases k with|false=>rfl|true=>simp only[lift,if_true];cases HH.ev c pb ρ1 with|exc _ _=>rfl|stuck=>rfl|ok r2 ρ2=>simp only[Res.bind];cases h2:xV r2.d with|none=>rfl|some k2=>rfl
theorem Ot(ρ:List Sl):iy (HH.ev c (.or pa pb)) ρ=(iy (HH.ev c pa) ρ).bind fun x ρ=>if x then .ok true ρ else iy (HH.ev c pb) ρ:=by unfold iy;rw[HH.E7];unfold iy;cases HH.ev c pa ρ with|exc _ _=>rfl|stuck=>rfl|ok r ρ1=>simp only[Res.bind];cases h:xV r.d with|none=>rfl|some k=>cases k with|true=>rfl|false=>simp only[lift,false_eq_true,if_false];cases HH.ev c pb ρ1 with|exc _ _=>rfl|stuck=>rfl|ok r2 ρ2=>simp only[Res.bind];cases h2:xV r2.d with|none=>rfl|some k2=>rfl
theorem oR(ha:ST X c a pa):SW X c (.BoolOp .And [a] pos) pa:=Kq ha
theorem m6(ha:ST X c a pa):SW X c (.BoolOp .Or [a] pos) pa:=Oh ha
theorem uM(ha:ST X c a pa)(hb:SW X c (.BoolOp .And (b::rest) pos) pb):SW X c (.BoolOp .And (a::b::rest) pos) (.and pa pb):=by refine Lk (QG ha hb) ?_;rintro σ H Q⟨F,ρ,k,ρ',g,e,q⟩;rw[Iv]at e;obtain⟨x,ρ1,e1,e⟩:=ak e;refine⟨F,ρ,x,ρ1,g,e1,fun F1 H1 s1=>?_⟩;cases x with|true=>rw[if_pos rfl]at e ⊢;exact⟨F1,ρ1,k,ρ',s1.gs,e,fun F2 H2 s2=>q F2 H2 (s1.trans s2)⟩|false=>rw[if_neg Bool.false_ne_true]at e ⊢;cases e;exact q F1 H1 s1
theorem qu(ha:ST X c a pa)(hb:SW X c (.BoolOp .Or (b::rest) pos) pb):SW X c (.BoolOp .Or (a::b::rest) pos) (.or pa pb):=by refine Lk (Vc ha hb) ?_;rintro σ H Q⟨F,ρ,k,ρ',g,e,q⟩;rw[Ot]at e;obtain⟨x,ρ1,e1,e⟩:=ak e;refine⟨F,ρ,x,ρ1,g,e1,fun F1 H1 s1=>?_⟩;cases x with|true=>rw[if_pos rfl]at e ⊢;cases e;exact q F1 H1 s1|false=>rw[if_neg Bool.false_ne_true]at e ⊢;exact⟨F1,ρ1,k,ρ',s1.gs,e,fun F2 H2 s2=>q F2 H2 (s1.trans s2)⟩
theorem oH{op}(ha:SX X c a pa):PE X (.BoolOp op [a] pos) (wG X.K (HH.ev c pa)):=Qv ha.ev
theorem mQ(ha:SX X c a pa)(hb:PE X (.BoolOp .And (b::rest) pos) (wG X.K (HH.ev c pb))):SX X c (.BoolOp .And (a::b::rest) pos) (.and pa pb):=by refine⟨eU (QQ ha.ev hb) ?_,fun i h=>by cases h⟩;rintro σ H Q⟨F,ρ,r,ρ',g,e,k⟩;rw[HH.E6]at e;obtain⟨x,ρ1,e1,e⟩:=ak e;refine o7 (c:=c) (fun _ z=>z) (Q:=fun x H1=>if x=true then wG X.K (HH.ev c pb) σ H1 Q else Q (.bl false) H1) ⟨F,ρ,x,ρ1,g,e1,fun F1 H1 s1=>?_⟩;cases x with|true=>rw[if_pos rfl]at e ⊢;obtain⟨y,ρ2,e2,e3⟩:=ak e;cases e3;obtain⟨r2,ρ3,e4,e5⟩:=ak e2;have zz:=aF e5;clear e5;obtain⟨e5,e6⟩:=zz;subst e6;refine⟨F1,ρ1,r2,_,s1.gs,e4,fun v F2 H2 s2 rr=>?_⟩;rw[rr.bool (pL e5)];exact k _ F2 H2 (s1.trans s2) (show Rep X.K F2 _ _ from gf _)|false=>rw[if_neg Bool.false_ne_true]at e ⊢;cases e;exact k _ F1 H1 s1 (show Rep X.K F1 _ _ from gf _)
theorem uG(hc:ST X c e p)(ha:SX X c a pa)(hb:SX X c b pb):SX X c (.IfExp e a b pos) (.M3 p pa pb):=by refine⟨eU (Fp hc ha.ev hb.ev) ?_,fun i h=>by cases h⟩;rintro σ H Q⟨F,ρ,r,ρ',g,e,k⟩;rw[HH.E10]at e;obtain⟨x,ρ1,e1,e⟩:=ak e;refine⟨F,ρ,x,ρ1,g,e1,fun F1 H1 s1=>?_⟩;cases x with|true=>rw[if_pos rfl]at e ⊢;obtain⟨r2,ρ2,e2,e3⟩:=ak e;cases e3;refine⟨F1,ρ1,r2,_,s1.gs,e2,fun v F2 H2 s2 rr=>?_⟩;obtain⟨F3,s3,_,rp⟩:=s2.cU rr;exact k v F3 H2 (s1.trans s3) rp|false=>rw[if_neg Bool.false_ne_true]at e ⊢;obtain⟨r2,ρ2,e2,e3⟩:=ak e;cases e3;refine⟨F1,ρ1,r2,_,s1.gs,e2,fun v F2 H2 s2 rr=>?_⟩;obtain⟨F3,s3,_,rp⟩:=s2.cU rr;exact k v F3 H2 (s1.trans s3) rp
theorem uv:∀{ps:List P}{ρ ρ':List Sl}{ds:List D},evs c ps ρ=.ok ds ρ'->ds.length=ps.length|[],_,_,_,h=>by rw[evs]at h;cases h;rfl|p::ps,_,_,_,h=>by rw[evs]at h;obtain⟨r,ρ1,_,h⟩:=ak h;obtain⟨xs,ρ2,h2,h⟩:=ak h;cases h;simp[uv h2]
theorem aH:SA X c [] []:=⟨vM dR fun σ H Q⟨F,ρ,ds,ρ',g,e,k⟩=>by rw[evs]at e;cases e;exact k [] F H (.refl g) .nil,rfl⟩
theorem oM{es:List Expr}{ps:List P}(ha:SX X c a pa)(hr:SA X c es ps)(hs:starEach (a::es) X.env=(false,eval a X.env)::starEach es X.env:=by rfl):SA X c (a::es) (pa::ps):=by refine⟨vM (cg ha.ev hr.1 hs) ?_,by simp[hr.2]⟩;rintro σ H Q⟨F,ρ,ds,ρ',g,e,k⟩;rw[evs]at e;obtain⟨r,ρ1,e1,e⟩:=ak e;obtain⟨xs,ρ2,e2,e⟩:=ak e;cases e;refine⟨F,ρ,r,ρ1,g,e1,fun v F' H' s rr=>?_⟩;obtain⟨F1,s1,_,rp⟩:=s.cU rr;refine⟨F1,ρ1,xs,_,s1.gs,e2,fun vs F2 H2 s2 rs=>?_⟩;exact k _ F2 H2 (s1.trans s2) (.cons (rp.mono s2.cB) rs)
theorem Ext.Iw{K:PySem.W.Frag}{F H:Hp}{ρ ρ':List Sl}{σ:L2.St}{H0 F0:Hp}{Q:VK}{xs:List V}{ds:List D}(s:aO K F0 ρ σ H0 F ρ' σ H)(r:aG K F xs ds)(k:∀v F' H',aO K F0 ρ σ H0 F' ρ' σ H'->cL K F' ρ' σ H' ρ σ H0 v (.val (.tup ds))->Q v H')(p:Addr)(hp:H p=none):Q (.ref p) (upd H p (.tup xs)):=vA s.gs.sub r hp fun v F' H' x rn=>k v F' H' (s.trans (x.stp s.gs)) rn
theorem bJ{es:List Expr}{ps:List P}{x1}(h:SA X c es ps)(hz:ps.length<=sizeLine:=by decide):SX X c (.Tuple es x1 pos) (.tup ps):=by refine⟨eU (Qz h.1) ?_,fun i h=>by cases h⟩;rintro σ H Q⟨F,ρ,r,ρ',g,e,k⟩;rw[HH.E11]at e;obtain⟨ds,ρ1,e1,e⟩:=ak e;cases e;exact⟨F,ρ,ds,_,g,e1,fun vs F' H' s rs=>⟨by rw[rs.length,uv e1];exact hz,fun p hp=>Ext.Iw s rs k p hp⟩⟩
theorem bU{es:List Expr}{ps:List P}(h:SA X c es ps)(hz:ps.length<=sizeLine:=by decide):SX X c (.List es pos) (.lst ps):=by refine⟨eU (Pk h.1) ?_,fun i h=>by cases h⟩;rintro σ H Q⟨F,ρ,r,ρ',g,e,k⟩;rw[HH.E12]at e;obtain⟨ds,ρ1,e1,e⟩:=ak e;cases e;exact⟨F,ρ,ds,_,g,e1,fun vs F' H' s rs=>⟨by rw[rs.length,uv e1];exact hz,fun p hp=>v7 s.gs.sub rs hp fun v F2 H2 x rn=>k v F2 H2 (s.trans (x.stp s.gs)) (.later s (rn.nY s.gs))⟩⟩
theorem Dr{ds:List D}{i:Int}{d:D}(h:at' ds i=some d):∃j,L2.iH ds.length i=some j/\ds[j]?=some d:=cz h
theorem Z1:XF X (rD X.K J6):=by
 rintro value slice pins s σ H x y v u Q I rx ry⟨F,d,e,r,sm,px,py,he,k⟩hs;unfold J6 at he;obtain⟨ds,e1,he⟩:=cz he;obtain⟨i,e2,he⟩:=cz he;obtain⟨z,e3,he⟩:=map_some he;subst he;cases cX e2;rw[py.int]at ry;obtain⟨p,xs,rfl,hq,rs⟩:=px.items sm e1;obtain⟨j,h1,h2⟩:=Dr e3;obtain⟨w,h3,h4⟩:=rs.get h2;have hat:Hl xs i=some w:=by unfold Hl;rw[rs.length,h1];exact h3
 rcases hq with hq|hq;.exact zg value slice pins s σ H _ _ v u Q I rx ry ⟨p,xs,i,w,rfl,rfl,hq,hat,cA.dj sm h4 k⟩ hs
 .exact Ni value slice pins s σ H _ _ v u Q I rx ry ⟨p,xs,i,w,rfl,rfl,hq,hat,cA.dj sm h4 k⟩ hs
theorem ao(ha:SX X c a pa)(hb:SX X c b pb)(hs:tH b:=by intro _ _;rfl):SX X c (.Subscript a b pos) (.idx pa pb):=ur (f:=J6) (fun h1 h2=>Ml Z1 h1 h2 hs) ha hb (fun ρ=>rfl) rfl
def J1(K:PySem.W.Frag)(f:D->Option R):List V->Hp->VK->Prop:=fun xs H Q=>∃x,xs=[x]/\rD1 K f x H Q
theorem nu{E:Expr}{f:D->Option R}{q:P}(hp:∀{t},PA X [a] t->PE X E (YX (J1 X.K f) t))(ha:SX X c a pa)(hq:∀ρ,HH.ev c q ρ=(HH.dm (isVar pa) (HH.ev c pa) ρ).bind fun x ρ=>lift (f x) ρ)(hv:isVar q=none)(hs:starEach [a] X.env=(false,eval a X.env)::starEach [] X.env:=by rfl):SX X c E q:=by obtain⟨ta,h1,h3⟩:=ha.dm;refine⟨eU (hp (cg h1 dR hs)) ?_,fun i h=>by rw[hv]at h;cases h⟩;rintro σ H Q⟨F,ρ,r,ρ',g,e,k⟩;rw[hq]at e;obtain⟨x,ρ1,e1,e2⟩:=ak e;have zz:=aF e2;clear e2;obtain⟨e2,e3⟩:=zz;subst e3;refine h3 g e1 fun v F' H' s pv=>⟨v,rfl,F',x,r,s.gs.sub,pv,e2,fun w F2 H2 x rn=>?_⟩;exact k w F2 H2 (s.trans (x.stp s.gs)) (.later s (rn.nY s.gs))
theorem Vy:dN X (.builtin "len") (J1 X.K fun x=>blt .len [x]):=by rintro pins s σ H xs us Q I r⟨x,hx,F,d,r',sm,px,he,k⟩;obtain⟨ds,e1,he⟩:=map_some (show(items d).map _=some r' from he);subst he;obtain⟨p,ys,rfl,hq,rs⟩:=px.items sm e1;exact tU pins s σ H xs us Q I r ⟨p,ys,hx,hq,by rw[rs.length];exact cA.dj sm (bT _) k⟩
theorem Nz:dN X (.type "list") (J1 X.K fun x=>blt .list [x]):=by rintro pins s σ H xs us Q I r⟨x,hx,F,d,r',sm,px,he,k⟩;obtain⟨ds,e1,he⟩:=map_some (show(items d).map _=some r' from he);subst he;obtain⟨p,ys,rfl,hq,rs⟩:=px.items sm e1;exact uc pins s σ H xs us Q I r ⟨p,ys,hx,hq,fun l hl=>v7 sm rs hl k⟩
theorem Ib:dN X (.type "tuple") (J1 X.K fun x=>blt .tuple [x]):=by rintro pins s σ H xs us Q I r⟨x,hx,F,d,r',sm,px,he,k⟩;obtain⟨ds,e1,he⟩:=map_some (show(items d).map _=some r' from he);subst he;cases d with|tup es=>cases e1;obtain⟨a,ys,rfl,hq,rs,rt⟩:=px.tup sm;exact jV pins s σ H xs us Q I r ⟨a,ys,hx,.inr ⟨hq,cA.dj sm rt k⟩⟩|lst es=>cases e1;obtain⟨a,ys,rfl,hq,rs⟩:=px.lst sm;exact jV pins s σ H xs us Q I r ⟨a,ys,hx,.inl ⟨hq,fun l hl=>vA sm rs hl k⟩⟩|_=>cases e1
theorem cW{x:Str}{p':Pos}(hx:x="len")(hg:Gl X x)(hm:X.mg x=none)(ha:SX X c a pa)(hs:starEach [a] X.env=(false,eval a X.env)::starEach [] X.env:=by rfl):SX X c (.Call (.Name x p') [a] [] pos) (.blt .len [pa]):=by subst hx;exact nu (fun h=>eX Vy hg hm PySem.boot_len h (he:=hs)) ha (fun ρ=>rfl) rfl hs
theorem lU{x:Str}{p':Pos}(hx:x="list")(hg:Gl X x)(hm:X.mg x=none)(ha:SX X c a pa)(hs:starEach [a] X.env=(false,eval a X.env)::starEach [] X.env:=by rfl):SX X c (.Call (.Name x p') [a] [] pos) (.blt .list [pa]):=by subst hx;exact nu (fun h=>jK Nz hg hm (by decide+kernel) h (he:=hs)) ha (fun ρ=>rfl) rfl hs
theorem lH{x:Str}{p':Pos}(hx:x="tuple")(hg:Gl X x)(hm:X.mg x=none)(ha:SX X c a pa)(hs:starEach [a] X.env=(false,eval a X.env)::starEach [] X.env:=by rfl):SX X c (.Call (.Name x p') [a] [] pos) (.blt .tuple [pa]):=by subst hx;exact nu (fun h=>jK Ib hg hm (by decide+kernel) h (he:=hs)) ha (fun ρ=>rfl) rfl hs
end
def gF(K:PySem.W.Frag)(np:Nat)(f:List Sl->Res R):Sp:=fun vs H Q _=>vs.length=np/\∃F args r args',GS K F args (vs.map some) H/\f args=.ok r args'/\∀v F' σ' H',aO K F args (vs.map some) H F' args' σ' H'->cL K F' args' σ' H' args (vs.map some) H v r->Q v H'
section
variable{K:PySem.W.Frag}
def xP(K:PySem.W.Frag)(F:Hp)(ρ:List Sl)(σ:L2.St)(H:Hp)(ρ₀:List Sl)(H₀:Hp)(v:V):Arg->Prop|.dat d=>Rep K F v d|.tmp ds=>∃x xs,v=.ref x/\H x=some (.lst xs)/\F x=none/\aG K F xs ds/\¬ Own ρ σ x/\(Own ρ₀ σ x\/H₀ x=none)|.fc i=>σ[i]?=some (some v)
structure vo(K:PySem.W.Frag)(F:Hp)(ρ:List Sl)(σ:L2.St)(H:Hp)(ρ₀:List Sl)(H₀:Hp)(as:List Arg)(vs:List V):Prop where
 len:as.length=vs.length
 one:∀(j:Nat)(a:Arg)(v:V),as[j]?=some a->vs[j]?=some v->xP K F ρ σ H ρ₀ H₀ v a
 dis:∀(j k:Nat)(ds es:List D)(x:Addr),as[j]?=some (.tmp ds)->as[k]?=some (.tmp es)->vs[j]?=some (.ref x)->vs[k]?=some (.ref x)->j=k
theorem xP.later{F F' H H' H₀:Hp}{ρ ρ' ρ₀:List Sl}{σ:L2.St}{v:V}{a:Arg}(s:aO K F ρ σ H F' ρ' σ H')(h:xP K F ρ σ H ρ₀ H₀ v a):xP K F' ρ' σ H' ρ₀ H₀ v a:=by cases a with|dat d=>exact Rep.mono s.cB h|fc i=>exact h|tmp ds=>
   obtain⟨x,xs,h1,h2,h3,h4,h5,h6⟩:=h;refine⟨x,xs,h1,s.keep x _ h2 h5,?_,h4.mono s.cB,fun o=>?_,h6⟩;.cases q:F' x with|none=>rfl|some o=>
       rcases s.wW x h3 (by rw[q];simp)with z|z;.exact absurd z h5
       .exact(GX h2 z).elim
   . rcases s.uX x o with z|z;.exact h5 z
     .rw[h2]at z;cases z
theorem vo.nil{F H H₀:Hp}{ρ ρ₀:List Sl}{σ:L2.St}:vo K F ρ σ H ρ₀ H₀ [] []:=⟨rfl,fun j a v h=>by simp at h,fun j k ds es x h=>by simp at h⟩
theorem vo.cons{F H H₀:Hp}{ρ ρ₀:List Sl}{σ:L2.St}{a:Arg}{v:V}{as:List Arg}{vs:List V}(h:xP K F ρ σ H ρ₀ H₀ v a)(t:vo K F ρ σ H ρ₀ H₀ as vs)(hd:∀ds x,a=.tmp ds->v=.ref x->∀(k:Nat)es,as[k]?=some (.tmp es)->vs[k]?≠some (.ref x)):vo K F ρ σ H ρ₀ H₀ (a::as) (v::vs):=by
 refine⟨by simp[t.len],fun j b u h1 h2=>?_,fun j k ds es x h1 h2 h3 h4=>?_⟩;.cases j with|zero=>simp at h1 h2;subst h1;subst h2;exact h|succ j=>exact t.one j b u (by simpa using h1) (by simpa using h2)
 .cases j with
   |zero=>cases k with|zero=>rfl|succ k=>simp at h1 h3;exact absurd (by simpa using h4) (hd ds x h1 h3 k es (by simpa using h2))
   |succ j=>cases k with|zero=>simp at h2 h4;exact absurd (by simpa using h3) (hd es x h2 h4 j ds (by simpa using h1))|succ k=>rw[t.dis j k ds es x (by simpa using h1) (by simpa using h2) (by simpa using h3) (by simpa using h4)]
def Ei(ρ:List Sl):Arg->Sl->Prop|.dat d,s=>s=.val false d|.tmp ds,s=>s=.own false ds|.fc i,s=>(∃b d,ρ[i]?=some (.val b d)/\s=.val false d)\/(∃b ds,ρ[i]?=some (.own b ds)/\s=.own true ds)\/∃ds,ρ[i]?=some (.lent ds)/\s=.lent ds
theorem qw{ρ:List Sl}:∀{as:List Arg}{used:List Nat}{args:List Sl},bQ ρ as used=some args->args.length=as.length/\(∀(j:Nat)(a:Arg)(s:Sl),as[j]?=some a->args[j]?=some s->Ei ρ a s)/\(∀(j:Nat)(i:Nat)(s:Sl)ds,as[j]?=some (.fc i)->args[j]?=some s->lst? s=some ds->i∉used)/\(∀(j k:Nat)(i:Nat)(s t:Sl)ds es,as[j]?=some (.fc i)->as[k]?=some (.fc i)->args[j]?=some s->args[k]?=some t->lst? s=some ds->lst? t=some es->j=k)
 |[],used,args,h=>by rw[bQ]at h;cases h;exact⟨rfl,fun j a s h=>by simp at h,fun j i s ds h=>by simp at h,fun j k i s t ds es h=>by simp at h⟩|a::as,used,args,h=>by--the acz slot,the acA
   have key:∃s0 r wX,args=s0::r/\bQ ρ as wX=some r/\Ei ρ a s0/\((∃i ds,a=.fc i/\lst? s0=some ds/\wX=i::used/\i∉used)\/((∀i ds,a=.fc i->lst? s0≠some ds)/\wX=used)):=by cases a with|dat d=>rw[bQ]at h;obtain⟨r,e1,e2⟩:=map_some h;exact⟨_,r,used,e2.symm,e1,rfl,.inr ⟨fun i ds z=>(by cases z),rfl⟩⟩|tmp d=>rw[bQ]at h;obtain⟨r,e1,e2⟩:=map_some h;exact⟨_,r,used,e2.symm,e1,rfl,.inr ⟨fun i ds z=>(by cases z),rfl⟩⟩|fc i=>
      rw[bQ]at h;split at h;.rename_i b d q;obtain⟨r,e1,e2⟩:=map_some h;exact⟨_,r,used,e2.symm,e1,.inl ⟨b,d,q,rfl⟩,.inr ⟨fun _ _ _ z=>(by cases z),rfl⟩⟩
      . rename_i b ds q;split at h;.cases h
        .rename_i hu;obtain⟨r,e1,e2⟩:=map_some h;exact⟨_,r,_,e2.symm,e1,.inr (.inl ⟨b,ds,q,rfl⟩),.inl ⟨i,_,rfl,rfl,rfl,by simpa using hu⟩⟩
      . rename_i ds q;split at h;.cases h
        .rename_i hu;obtain⟨r,e1,e2⟩:=map_some h;exact⟨_,r,_,e2.symm,e1,.inr (.inr ⟨ds,q,rfl⟩),.inl ⟨i,_,rfl,rfl,rfl,by simpa using hu⟩⟩
      .cases h
   obtain⟨s0,r,wX,rfl,hr,hs0,hu⟩:=key;obtain⟨l1,l2,l3,l4⟩:=qw hr;have sub:∀i,i∉wX->i∉used:=fun i hi hm=>by
    rcases hu with⟨_,_,_,_,rfl,_⟩|⟨_,rfl⟩;.exact hi (mem_cons_of_mem _ hm)
    .exact hi hm
   refine⟨by simp[l1],fun j b s h1 h2=>?_,fun j i s ds h1 h2 h3=>?_,fun j k i s t ds es h1 h2 h3 h4 h5 h6=>?_⟩;.cases j with|zero=>simp at h1 h2;subst h1;subst h2;exact hs0|succ j=>exact l2 j b s (by simpa using h1) (by simpa using h2)
   .cases j with|zero=>
       simp at h1 h2;subst h1;subst h2;rcases hu with⟨i',_,e,_,_,hn⟩|⟨hn,_⟩;.cases e;exact hn
       .exact absurd h3 (hn i ds rfl)|succ j=>exact sub i (l3 j i s ds (by simpa using h1) (by simpa using h2) h3)
   . have z0:∀(k:Nat)(t:Sl)es,a=.fc i->lst? s0=some ds->(as[k]?=some (.fc i))->r[k]?=some t->lst? t=some es->False:=fun k t es ea e0 hk ht he=>by
      rcases hu with⟨i',_,e,_,rfl,hn⟩|⟨hn,_⟩;.rw[ea]at e;cases e;exact l3 k i t es hk ht he mem_cons_self
      .exact hn i ds ea e0
     have z1:∀(k:Nat)(t:Sl)es,a=.fc i->lst? s0=some es->(as[k]?=some (.fc i))->r[k]?=some t->lst? t=some ds->False:=fun k t es ea e0 hk ht he=>by
      rcases hu with⟨i',_,e,_,rfl,hn⟩|⟨hn,_⟩;.rw[ea]at e;cases e;exact l3 k i t ds hk ht he mem_cons_self
      .exact hn i es ea e0
     cases j with
     |zero=>cases k with|zero=>rfl|succ k=>simp at h1 h3;subst h3;exact(z0 k t es h1 h5 (by simpa using h2) (by simpa using h4) h6).elim
     |succ j=>cases k with|zero=>simp at h2 h4;subst h4;exact(z1 j s es h2 h6 (by simpa using h1) (by simpa using h3) h5).elim|succ k=>rw[l4 j k i s t ds es (by simpa using h1) (by simpa using h2) (by simpa using h3) (by simpa using h4) h5 h6]
theorem vo.get{F H H₀:Hp}{ρ ρ₀:List Sl}{σ:L2.St}{as:List Arg}{vs:List V}(A:vo K F ρ σ H ρ₀ H₀ as vs){args:List Sl}{j:Nat}{s:Sl}(hl:args.length=as.length)(h:args[j]?=some s):∃a v,as[j]?=some a/\vs[j]?=some v/\xP K F ρ σ H ρ₀ H₀ v a:=by
 have hj:j<args.length:=(List.getElem?_eq_some_iff.mp h).1;have h1:j<as.length:=by omega
 have h2:j<vs.length:=by rw[<-A.len];exact h1
 exact⟨as[j],vs[j],by simp[h1],by simp[h2],A.one j _ _ (by simp[h1]) (by simp[h2])⟩
theorem args_gs{F H H₀:Hp}{ρ ρ₀:List Sl}{σ:L2.St}{as:List Arg}{vs:List V}{args:List Sl}(g:GS K F ρ σ H)(A:vo K F ρ σ H ρ₀ H₀ as vs)(h:bQ ρ as []=some args):GS K F args (vs.map some) H:=by
 obtain⟨l1,l2,l3,l4⟩:=qw h;have up:∀{j:Nat}{v:V},vs[j]?=some v->(vs.map some)[j]?=some (some v):=fun e=>by rw[getElem?_map,e];rfl
 have dn:∀{j:Nat}{v:V},(vs.map some)[j]?=some (some v)->vs[j]?=some v:=fun{j v}e=>by rw[getElem?_map]at e;cases q:vs[j]?with|none=>rw[q]at e;cases e|some w=>rw[q]at e;cases e;rfl
 refine⟨g.sub,by rw[l1,A.len,length_map],fun j b d e=>?_,fun j s ds e e'=>?_,fun j k x⟨⟨s,ds,e1,e2⟩,e3⟩⟨⟨t,es,f1,f2⟩,f3⟩=>?_⟩;.obtain⟨a,v,h1,h2,h3⟩:=A.get l1 e;have h4:=l2 j a _ h1 e;refine⟨v,up h2,?_⟩;cases a with|dat d'=>cases h4;exact h3|tmp ds=>cases h4|fc i=>
     rcases h4 with⟨b',d',q1,q2⟩|⟨_,_,_,q2⟩|⟨_,_,q2⟩;.cases q2;obtain⟨w,q3,q4⟩:=g.val i b' d q1;have h3:σ[i]?=some (some v):=h3;rw[h3]at q3;cases q3;exact q4
     .cases q2
     .cases q2
 .obtain⟨a,v,h1,h2,h3⟩:=A.get l1 e;have h4:=l2 j a _ h1 e;cases a with|dat d'=>cases h4;cases e'|tmp es=>cases h4;cases e';obtain⟨x,xs,rfl,q2,q3,q4,_⟩:=h3;exact⟨x,_,up h2,q2,q3,xs,rfl,q4⟩|fc i=>
     have h3:σ[i]?=some (some v):=h3;rcases h4 with⟨b',d',q1,q2⟩|⟨b',es,q1,q2⟩|⟨es,q1,q2⟩;.cases q2;cases e'
     .cases q2;cases e';obtain⟨x,xs,q3,q4⟩:=g.own i _ _ q1 rfl;rw[h3]at q3;cases q3;exact⟨x,xs,up h2,q4⟩
     .cases q2;cases e';obtain⟨x,xs,q3,q4⟩:=g.own i _ _ q1 rfl;rw[h3]at q3;cases q3;exact⟨x,xs,up h2,q4⟩
 . obtain⟨a,v,h1,h2,h3⟩:=A.get l1 e1;obtain⟨a',v',h1',h2',h3'⟩:=A.get l1 f1;have e3:=dn e3;have f3:=dn f3;rw[h2]at e3;cases e3;rw[h2']at f3;cases f3;have s1:=l2 j a _ h1 e1;have s2:=l2 k a' _ h1' f1;have nm:∀{i:Nat}{s:Sl}{ds:Oc},lst? s=some ds->Ei ρ (.fc i) s->∃s' ds',ρ[i]?=some s'/\lst? s'=some ds':=fun{i s ds}l z=>by
    rcases z with⟨_,_,_,z⟩|⟨b,es,q,_⟩|⟨es,q,_⟩;.subst z;cases l
    .exact⟨_,_,q,rfl⟩
    .exact⟨_,_,q,rfl⟩
   cases a with
   |dat d=>cases s1;cases e2|tmp Rv=>cases a' with|dat d=>cases s2;cases f2|tmp K3=>exact A.dis j k Rv K3 x h1 h1' h2 h2'|fc i=>obtain⟨y,_,q1,_,_,_,q2,_⟩:=h3;cases q1;obtain⟨s',ds',q3,q4⟩:=nm f2 s2;exact absurd ⟨i,⟨s',ds',q3,q4⟩,h3'⟩ q2
   |fc i=>obtain⟨s',ds',q3,q4⟩:=nm e2 s1;cases a' with|dat d=>cases s2;cases f2|tmp K3=>obtain⟨y,_,q1,_,_,_,q2,_⟩:=h3';cases q1;exact absurd ⟨i,⟨s',ds',q3,q4⟩,h3⟩ q2|fc i'=>obtain⟨s'',acB,q5,q6⟩:=nm f2 s2;have:=g.dis i i' x ⟨⟨s',ds',q3,q4⟩,h3⟩ ⟨⟨s'',acB,q5,q6⟩,h3'⟩;subst this;exact l4 j k i s t ds es h1 h1' e1 f1 e2 f2
theorem mX{as:List Arg}{ss:List Sl}:∀(ρ:List Sl)(n i:Nat),(cT as ss n ρ)[i]?=(ρ[i]?).map fun s=>dY s (bj (n+i) as ss)
 |[],n,i=>by simp[cT]|s::ρ,n,0=>by simp[cT]|s::ρ,n,i+1=>by
   rw[cT];simp only[List.getElem?_cons_succ];rw[mX ρ (n+1) i];have:n+1+i=n+(i+1):=by omega
   rw[this]
theorem mF{as:List Arg}{ss:List Sl}:∀(ρ:List Sl)(n:Nat),(cT as ss n ρ).length=ρ.length|[],n=>rfl|s::ρ,n=>by rw[cT];simp[mF ρ]
theorem iM{i:Nat}:∀{as:List Arg}{ss:List Sl}{t:Sl},bj i as ss=some t->∃j:Nat,as[j]?=some (.fc i)/\ss[j]?=some t
 |[],_,_,h=>by simp[bj]at h|a::as,[],_,h=>by cases a<;>simp[bj]at h|a::as,s::ss,t,h=>by
   have tl:bj i as ss=some t->∃j:Nat,(a::as)[j]?=some (.fc i)/\(s::ss)[j]?=some t:=fun h=>by obtain⟨j,h1,h2⟩:=iM h;exact⟨j+1,by simpa using h1,by simpa using h2⟩
   cases a with|dat d=>exact tl (by simpa[bj]using h)|tmp d=>exact tl (by simpa[bj]using h)|fc k=>
     rw[bj]at h;split at h;.rename_i hk;cases h;subst hk;exact⟨0,rfl,rfl⟩
     .exact tl h
theorem jY{i:Nat}:∀{as:List Arg}{ss:List Sl},as.length=ss.length->bj i as ss=none->∀j:Nat,as[j]?≠some (.fc i)
 |[],_,_,_=>fun j h=>by simp at h|a::as,[],hl,_=>by simp at hl|a::as,s::ss,hl,h=>fun j hj=>by
   have hl':as.length=ss.length:=by simpa using hl
   have tl:bj i as ss=none/\a≠.fc i:=by cases a with|dat d=>exact⟨by simpa[bj]using h,by simp⟩|tmp d=>exact⟨by simpa[bj]using h,by simp⟩|fc k=>
      rw[bj]at h;split at h;.cases h
      .rename_i hk;exact⟨h,fun e=>hk (by cases e;rfl)⟩
   cases j with|zero=>simp at hj;exact tl.2 hj|succ j=>exact jY hl' tl.1 j (by simpa using hj)
theorem Hc{F₀ H₀ F H F' H':Hp}{ρ₀ ρ args args':List Sl}{σ σ':L2.St}{as:List Arg}{vs:List V}(s0:aO K F₀ ρ₀ σ H₀ F ρ σ H)(A:vo K F ρ σ H ρ₀ H₀ as vs)(hb:bQ ρ as []=some args)(s:aO K F args (vs.map some) H F' args' σ' H'):aO K F₀ ρ₀ σ H₀ F' (cT as args' 0 ρ) σ H'/\∀v r,cL K F' args' σ' H' args (vs.map some) H v r->cL K F' (cT as args' 0 ρ) σ H' ρ₀ σ H₀ v r:=by
 have g:=s0.gs;obtain⟨l1,l2,l3,l4⟩:=qw hb;have up:∀{j:Nat}{v:V},vs[j]?=some v->(vs.map some)[j]?=some (some v):=fun e=>by rw[getElem?_map,e];rfl
 have dn:∀{j:Nat}{v:V},(vs.map some)[j]?=some (some v)->vs[j]?=some v:=fun{j v}e=>by rw[getElem?_map]at e;cases q:vs[j]?with|none=>rw[q]at e;cases e|some w=>rw[q]at e;cases e;rfl
 have la:as.length=args'.length:=by rw[s.len,l1]--whose are the lists that the callee holds
 have own:∀b,Own args (vs.map some) b->(∃(j:Nat)(ds:List D),as[j]?=some (Arg.tmp ds)/\vs[j]?=some (V.ref b)/\¬ Own ρ σ b/\(Own ρ₀ σ b\/H₀ b=none))\/Own ρ σ b:=fun b⟨j,⟨sl,ds,e1,e2⟩,e3⟩=>by obtain⟨a,v,h1,h2,h3⟩:=A.get l1 e1;have s1:=l2 j a _ h1 e1;have e3:=dn e3;rw[h2]at e3;cases e3;cases a with|dat d=>cases s1;cases e2|tmp es=>obtain⟨x,_,q1,_,_,_,q2,q3⟩:=h3;cases q1;exact .inl ⟨j,es,h1,h2,q2,q3⟩|fc i=>
    right;rcases s1 with⟨_,_,_,z⟩|⟨b',es,q,_⟩|⟨es,q,_⟩;.subst z;cases e2
    .exact⟨i,⟨_,_,q,rfl⟩,h3⟩
    .exact⟨i,⟨_,_,q,rfl⟩,h3⟩
 have back:∀b,Own ρ σ b\/H b=none->Own ρ₀ σ b\/H₀ b=none:=fun b h=>by
  rcases h with h|h;.exact s0.uX b h
  . by_cases ho:Own ρ₀ σ b;.exact .inl ho
    .right;cases e:H₀ b with|none=>rfl|some o=>rw[s0.keep b o e ho]at h;cases h
 have own':∀b,Own args (vs.map some) b->Own ρ₀ σ b\/H₀ b=none:=fun b h=>by
  rcases own b h with⟨_,_,_,_,_,z⟩|z;.exact z
  .exact back b (.inl z)--a name's slot behind the call
 have slot:∀{i:Nat}{t:Sl},(cT as args' 0 ρ)[i]?=some t->∃s1,ρ[i]?=some s1/\t=dY s1 (bj i as args'):=fun{i t}h=>by rw[mX]at h;obtain⟨s1,e1,e2⟩:=map_some h;exact⟨s1,e1,by rw[<-e2,Nat.zero_add]⟩
 have WY:∀{i:Nat}{s1:Sl},ρ[i]?=some s1->(cT as args' 0 ρ)[i]?=some (dY s1 (bj i as args')):=fun{i s1}h=>by rw[mX,h,Nat.zero_add];rfl--what the callee left of a list that was lent to it
 have lent:∀{i j:Nat}{s1 t:Sl}{ds:List D},ρ[i]?=some s1->lst? s1=some (.l ds)->as[j]?=some (.fc i)->args'[j]?=some t->∃v s2,σ[i]?=some (some v)/\σ'[j]?=some (some v)/\args[j]?=some s2/\lu s2 t/\((∃b,s1=.own b ds/\s2=.own true ds)\/(s1=.lent ds/\s2=.lent ds)):=fun{i j s1 t ds}h1 h2 h3 h4=>by
  have hj:j<args.length:=by rw[l1];exact(List.getElem?_eq_some_iff.mp h3).1
  have e1:args[j]?=some args[j]:=by simp[hj]
  obtain⟨a,v,q1,q2,q3⟩:=A.get l1 e1;rw[h3]at q1;cases q1;have q4:=l2 j _ _ h3 e1;have kind:(∃b,s1=.own b ds/\args[j]=.own true ds)\/(s1=.lent ds/\args[j]=.lent ds):=by
   rcases q4 with⟨_,_,z,_⟩|⟨b,es,z,z'⟩|⟨es,z,z'⟩;.rw[h1]at z;cases z;cases h2
   .rw[h1]at z;cases z;cases h2;exact .inl ⟨b,rfl,z'⟩
   .rw[h1]at z;cases z;cases h2;exact .inr ⟨rfl,z'⟩
  have lk:um args[j]=true:=by rcases kind with⟨_,_,z⟩|⟨_,z⟩<;>rw[z]<;>rfl
  obtain⟨z1,s',z2,z3⟩:=s.lk j _ e1 lk;rw[h4]at z2;cases z2;exact⟨v,_,q3,by rw[z1];exact up q2,e1,z3,kind⟩
 have K4:∀{i:Nat}{x:Addr},bB (cT as args' 0 ρ) σ i x->bB ρ σ i x:=fun{i x}⟨⟨t,ds,e1,e2⟩,e3⟩=>by obtain⟨s1,q1,q2⟩:=slot e1;refine⟨?_,e3⟩;cases s1 with|aZ=>subst q2;cases e2|val b d=>subst q2;cases e2|own b es=>exact⟨_,_,q1,rfl⟩|lent es=>exact⟨_,_,q1,rfl⟩|qX m=>exact⟨_,_,q1,rfl⟩|dh m=>exact⟨_,_,q1,rfl⟩|hold _=>subst q2;cases e2
 refine⟨?_,fun v r h=>?_⟩;rotate_left;.cases r with|val d=>exact h|own ds=>
     obtain⟨x,xs,h1,h2,h3,h4,h5,h6⟩:=h;refine⟨x,xs,h1,h2,h3,h4,fun⟨i,h⟩=>?_,?_⟩
     . have hO:=K4 h;obtain⟨⟨s1,Rv,q1,q2⟩,q3⟩:=hO;obtain⟨x',xs',w1,w2,_⟩:=g.own i s1 Rv q1 q2;rw[q3]at w1;cases w1;rcases h6 with h6|h6
       . rcases own x h6 with⟨_,_,_,_,z,_⟩|_;.exact z ⟨i,⟨s1,Rv,q1,q2⟩,q3⟩
         .--a name was lent
           obtain⟨j,⟨sl,es,w3,w4⟩,w5⟩:=h6;obtain⟨a',v',y1,y2,y3⟩:=A.get l1 w3;have sa:=l2 j a' _ y1 w3;have w5:=dn w5;rw[y2]at w5;cases w5;cases a' with|dat d=>cases sa;cases w4|tmp es'=>obtain⟨_,_,u1,_,_,_,u2,_⟩:=y3;cases u1;exact u2 ⟨i,⟨s1,Rv,q1,q2⟩,q3⟩|fc i'=>
             have ex:∃s' ds',ρ[i']?=some s'/\lst? s'=some ds':=by
              rcases sa with⟨_,_,_,z⟩|⟨b,es,q,_⟩|⟨es,q,_⟩;.subst z;cases w4
              .exact⟨_,_,q,rfl⟩
              .exact⟨_,_,q,rfl⟩
             have:=g.dis i i' x ⟨⟨s1,Rv,q1,q2⟩,q3⟩ ⟨ex,y3⟩;subst this;have hk:∃K3,Rv=.l K3:=by
              rcases sa with⟨_,_,_,z⟩|⟨b,es,q,_⟩|⟨es,q,_⟩;.subst z;cases w4
              .rw[q1]at q;cases q;cases q2;exact⟨_,rfl⟩
              .rw[q1]at q;cases q;cases q2;exact⟨_,rfl⟩
             obtain⟨K3,rfl⟩:=hk;have hj:j<args'.length:=by rw[<-la];exact(List.getElem?_eq_some_iff.mp y1).1
             have e':args'[j]?=some args'[j]:=by simp[hj]
             obtain⟨v2,s2,u1,u2,u3,u4,u5⟩:=lent q1 q2 y1 e';rw[q3]at u1;cases u1--the slot behind the call is a list's
             obtain⟨⟨t,dt,t1,t2⟩,_⟩:=h;obtain⟨s3,t3,t4⟩:=slot t1;rw[q1]at t3;cases t3;have lo:∃t5,bj i as args'=some t5:=by cases hl:bj i as args' with|none=>exact absurd y1 (jY la hl j)|some t5=>exact⟨t5,rfl⟩
             obtain⟨t5,hl⟩:=lo;obtain⟨j2,t6,t7⟩:=iM hl;have hj2:j2<args.length:=by rw[l1];exact(List.getElem?_eq_some_iff.mp t6).1
             obtain⟨_,s6,_,v2',v3',v4',v5'⟩:=lent q1 q2 t6 t7;have l4':j2=j:=by
              have a1:lst? s6=some (.l K3):=by rcases v5' with⟨_,_,z⟩|⟨_,z⟩<;>rw[z]<;>rfl
              have a2:lst? s2=some (.l K3):=by rcases u5 with⟨_,_,z⟩|⟨_,z⟩<;>rw[z]<;>rfl
              exact l4 j2 j i s6 s2 _ _ t6 y1 v3' u3 a1 a2
             subst l4';rw[e']at t7;cases t7;rw[hl]at t4;refine h5 ⟨j2,?_,u2⟩;rcases u5 with⟨b,z1,z2⟩|⟨z1,z2⟩
             . subst z1;subst z2;rcases u4 with⟨d2,z⟩|⟨d2,z⟩;.exact⟨_,.l d2,e',by rw[z];rfl⟩
               .rw[z]at t4;subst t4;cases t2
             .subst z1;subst z2;exact⟨_,.l K3,e',by rw[show args'[j2]=.lent K3 from u4];rfl⟩
       .rw[w2]at h6;cases h6
     . rcases h6 with h6|h6;.exact own' x h6
       .exact back x (.inr h6)
 refine⟨⟨s.gs.sub,by rw[mF];exact g.len,fun i b d e=>?_,fun i t ds e e'=>?_,fun i j x h1 h2=>g.dis i j x (K4 h1) (K4 h2)⟩,s0.cB.trans s.cB,fun b n n'=>?_,fun b o h n=>?_,fun b⟨i,h⟩=>back b (.inl ⟨i,K4 h⟩),by rw[mF];exact s0.len,fun i s1 h l=>?_⟩;.--data
   obtain⟨s1,q1,q2⟩:=slot e;cases s1 with|aZ=>cases q2|lent es=>cases q2|qX _=>cases q2|dh _=>cases q2|hold _=>cases q2|val b' d'=>cases q2;obtain⟨v,z1,z2⟩:=g.val i b d q1;exact⟨v,z1,z2.mono s.cB⟩|own b' es=>cases hl:bj i as args' with|none=>rw[hl]at q2;cases q2|some t=>rw[hl]at q2;obtain⟨j,z1,z2⟩:=iM hl;obtain⟨v,s2,y1,y2,y3,y4,y5⟩:=lent q1 rfl z1 z2;cases t with|aZ=>cases q2|own _ _=>cases q2|lent _=>cases q2|qX _=>cases q2|dh _=>cases q2|hold _=>cases q2|val b2 d2=>cases q2;obtain⟨w,x1,x2⟩:=s.gs.val j b2 d z2;rw[y2]at x1;cases x1;exact⟨v,y1,x2⟩
 .--lists
   obtain⟨s1,q1,q2⟩:=slot e--a list that was not lent
   have stay:∀es,lst? s1=some es->(∀j:Nat,as[j]?≠some (.fc i))->t=s1->∃(a:Addr)(xs:HO),σ[i]?=some (some (V.ref a))/\H' a=some xs/\F' a=none/\jR K F' xs ds:=fun es he hn ht=>by
    subst ht;rw[he]at e';cases e';obtain⟨a,xs,z1,z2,z3,z4⟩:=g.own i _ ds q1 he;have no:¬ Own args (vs.map some) a:=fun h=>by obtain⟨j,⟨sl,es,w1,w2⟩,w3⟩:=h;obtain⟨a',v,h1,h2,h3⟩:=A.get l1 w1;have sa:=l2 j a' _ h1 w1;have w3:=dn w3;rw[h2]at w3;cases w3;cases a' with|dat d=>cases sa;cases w2|tmp es=>obtain⟨x,_,y1,_,_,_,y2,_⟩:=h3;cases y1;exact y2 ⟨i,⟨_,ds,q1,he⟩,z1⟩|fc i'=>
       have:∃s' ds',ρ[i']?=some s'/\lst? s'=some ds':=by
        rcases sa with⟨_,_,_,z⟩|⟨b,es,q,_⟩|⟨es,q,_⟩;.subst z;cases w2
        .exact⟨_,_,q,rfl⟩
        .exact⟨_,_,q,rfl⟩
       have:=g.dis i i' a ⟨⟨_,ds,q1,he⟩,z1⟩ ⟨this,h3⟩;subst this;exact hn j h1
    refine⟨a,xs,z1,s.keep a _ z2 no,?_,z4.mono s.cB⟩;cases q:F' a with|none=>rfl|some o=>
      rcases s.wW a z3 (by rw[q];simp)with z|z;.exact absurd z no
      .rw[z2]at z;exact(DR z4 z).elim
   cases hl:bj i as args' with
   |none=>have hn:=jY la hl;rw[hl]at q2;cases s1 with|aZ=>subst q2;cases e'|val b' d'=>subst q2;cases e'|own b' es=>exact stay _ rfl hn q2|lent es=>exact stay _ rfl hn q2|qX m=>exact stay _ rfl hn q2|dh m=>exact stay _ rfl hn q2|hold _=>subst q2;cases e'
   |some t2=>rw[hl]at q2;obtain⟨j,z1,z2⟩:=iM hl;cases s1 with
     |aZ=>subst q2;cases e'|val b' d'=>subst q2;cases e'|hold _=>subst q2;cases e'|qX m=>
       have hj:j<args.length:=by rw[l1];exact(List.getElem?_eq_some_iff.mp z1).1
       rcases l2 j _ _ z1 (show args[j]?=some args[j]by simp[hj])with⟨_,_,z,_⟩|⟨_,_,z,_⟩|⟨_,z,_⟩<;>(rw[q1]at z;cases z)|dh m=>
       have hj:j<args.length:=by rw[l1];exact(List.getElem?_eq_some_iff.mp z1).1
       rcases l2 j _ _ z1 (show args[j]?=some args[j]by simp[hj])with⟨_,_,z,_⟩|⟨_,_,z,_⟩|⟨_,z,_⟩<;>(rw[q1]at z;cases z)|own b' es=>
       obtain⟨v,s2,y1,y2,y3,y4,y5⟩:=lent q1 rfl z1 z2;have:t2≠.aZ/\∀x,t2≠.lent x:=by
        rcases y5 with⟨_,_,y5⟩|⟨y5,_⟩;.subst y5;rcases y4 with⟨_,rfl⟩|⟨_,rfl⟩<;>simp
        .cases y5
       cases t2 with
       |aZ=>exact absurd rfl this.1|hold x=>
         rcases y5 with⟨_,_,y5⟩|⟨y5,_⟩;.subst y5;rcases y4 with⟨_,h⟩|⟨_,h⟩<;>cases h
         .cases y5|qX x=>
         rcases y5 with⟨_,_,y5⟩|⟨y5,_⟩;.subst y5;rcases y4 with⟨_,h⟩|⟨_,h⟩<;>cases h
         .cases y5|dh x=>
         rcases y5 with⟨_,_,y5⟩|⟨y5,_⟩;.subst y5;rcases y4 with⟨_,h⟩|⟨_,h⟩<;>cases h
         .cases y5|lent x=>exact absurd rfl (this.2 x)|val b2 d2=>subst q2;cases e'|own b2 es2=>subst q2;cases e';obtain⟨a,xs,x1,x2⟩:=s.gs.own j _ _ z2 rfl;rw[y2]at x1;cases x1;exact⟨a,xs,y1,x2⟩
     |lent es=>
       obtain⟨v,s2,y1,y2,y3,y4,y5⟩:=lent q1 rfl z1 z2;have ht:t=.lent es:=by rw[q2];cases t2<;>rfl
       subst ht;cases e';rcases y5 with⟨_,y5,_⟩|⟨_,y5⟩;.cases y5
       .subst y5;cases(show t2=.lent es from y4);obtain⟨a,xs,x1,x2⟩:=s.gs.own j _ _ z2 rfl;rw[y2]at x1;cases x1;exact⟨a,xs,y1,x2⟩
 . by_cases q:F b=none
   . rcases s.wW b q n' with z|z;.exact(own' b z).imp id jE
     . by_cases ho:Own ρ₀ σ b;.exact .inl ho
       .right;cases q2:H₀ b with|none=>rfl|some o=>rw[s0.keep b o q2 ho]at z;exact z
   .exact s0.wW b n q
 . refine s.keep b o (s0.keep b o h n) fun z=>?_;rcases own' b z with z|z;.exact n z
   .rw[h]at z;cases z
 .obtain⟨e1,s2,h2,k2⟩:=s0.lk i s1 h l;refine⟨e1,_,WY h2,?_⟩;have T7:=k2.um l;refine lu.trans l k2 ?_;cases s2 with
   |aZ=>cases T7|qX _=>cases T7|dh _=>cases T7|hold _=>exact lu.refl _|val b d=>exact lu.refl _|lent es=>cases bj i as args' with|none=>rfl|some t=>cases t<;>rfl
   |own b es=>cases b with|false=>cases T7|true=>cases bj i as args' with|none=>exact .inl ⟨_,rfl⟩|some t=>cases t with|aZ=>exact .inl ⟨_,rfl⟩|lent _=>exact .inl ⟨_,rfl⟩|qX _=>exact .inl ⟨_,rfl⟩|dh _=>exact .inl ⟨_,rfl⟩|hold _=>exact .inl ⟨_,rfl⟩|own _ ds=>exact .inl ⟨_,rfl⟩|val _ d=>exact .inr ⟨_,rfl⟩
theorem vo.rebase{F1 H1 F2 H2 F H:Hp}{ρ ρ1 ρ2:List Sl}{σ:L2.St}{as:List Arg}{vs:List V}(a:aO K F ρ σ H F1 ρ1 σ H1)(A:vo K F2 ρ2 σ H2 ρ1 H1 as vs):vo K F2 ρ2 σ H2 ρ H as vs:=by refine⟨A.len,fun j b v h1 h2=>?_,A.dis⟩;have h:=A.one j b v h1 h2;cases b with|dat d=>exact h|fc i=>exact h|tmp ds=>
   obtain⟨x,xs,q1,q2,q3,q4,q5,q6⟩:=h;refine⟨x,xs,q1,q2,q3,q4,q5,?_⟩;rcases q6 with q6|q6;.exact a.uX x q6
   . by_cases ho:Own ρ σ x;.exact .inl ho
     .right;cases e:H x with|none=>rfl|some o=>rw[a.keep x o e ho]at q6;cases q6
theorem vo.Wm{F1 H1 F2 H2 F H:Hp}{ρ ρ1 ρ2:List Sl}{σ:L2.St}{as:List Arg}{vs:List V}{v:V}{r:R}(s1:aO K F ρ σ H F1 ρ1 σ H1)(rr:cL K F1 ρ1 σ H1 ρ σ H v r)(s2:aO K F1 ρ1 σ H1 F2 ρ2 σ H2)(A:vo K F2 ρ2 σ H2 ρ1 H1 as vs):vo K F2 ρ2 σ H2 ρ H (vp r::as) (v::vs):=by
 have h1:xP K F1 ρ1 σ H1 ρ H v (vp r):=by cases r with|val d=>exact rr|own ds=>exact rr
 refine .cons (h1.later s2) (A.rebase s1) fun ds x ea ev k es ek evk=>?_;cases r with|val d=>cases ea|own ds'=>
   obtain⟨y,xs,q1,q2,q3,q4,q5,q6⟩:=rr;rw[ev]at q1;cases q1;have h:=A.one k _ _ ek evk;obtain⟨z,zs,w1,_,_,_,_,w6⟩:=h;cases w1;rcases w6 with w6|w6;.exact q5 w6
   .rw[q2]at w6;cases w6
end
section
variable{K:PySem.W.Frag}{F F1 H H1:Hp}{ρ ρ1 ρ2:List Sl}{σ σ1:L2.St}
theorem Dt{i:Nat}{s:Sl}(h:put ρ i s=some ρ1):∃s0,ρ[i]?=some s0/\um s0=false/\ρ1=ρ.set i s:=by
 unfold put at h;split at h;.rename_i q;cases h;exact⟨_,q,rfl,rfl⟩
 .rename_i q;cases h;exact⟨_,q,rfl,rfl⟩
 .rename_i q;cases h;exact⟨_,q,rfl,rfl⟩
 .cases h
theorem aO.put{i:Nat}{v:V}{r:R}(s:aO K F ρ σ H F1 ρ1 σ1 H1)(rr:cL K F1 ρ1 σ1 H1 ρ σ H v r)(h:HH.put ρ1 i (xF r)=some ρ2):aO K F ρ σ H F1 ρ2 (σ1.set i (some v)) H1:=by
 obtain⟨s0,h0,hl,rfl⟩:=Dt h;have hi:i<ρ1.length:=(List.getElem?_eq_some_iff.mp h0).1;have hi':i<σ1.length:=by rw[<-s.gs.len];exact hi
 have old:∀{j:Nat}{a:Addr},j≠i->bB (ρ1.set i (xF r)) (σ1.set i (some v)) j a->bB ρ1 σ1 j a:=fun{j a}hj⟨⟨t,ds,e1,e2⟩,e3⟩=>by rw[getElem?_set_ne (Ne.symm hj)]at e1 e3;exact⟨⟨t,ds,e1,e2⟩,e3⟩
 have new:∀{a:Addr},bB (ρ1.set i (xF r)) (σ1.set i (some v)) i a->¬ Own ρ1 σ1 a/\(Own ρ σ a\/H a=none):=fun{a}⟨⟨t,ds,e1,e2⟩,e3⟩=>by rw[getElem?_set_self hi]at e1;rw[getElem?_set_self hi']at e3;cases e1;cases e3;cases r with|val d=>cases e2|own es=>obtain⟨x,xs,q1,q2,q3,q4,q5,q6⟩:=rr;cases q1;exact⟨q5,q6⟩
 refine⟨⟨s.gs.sub,by simp[s.gs.len],fun j b d e=>?_,fun j t ds e e'=>?_,fun j k a h1 h2=>?_⟩,s.cB,s.wW,s.keep,fun a⟨j,hj⟩=>?_,by simp[s.len],fun j t e l=>?_⟩
 . by_cases hj:j=i;.subst hj;rw[getElem?_set_self hi]at e;cases r with|own es=>cases e|val d'=>cases e;exact⟨v,getElem?_set_self hi',rr⟩
   .rw[getElem?_set_ne (Ne.symm hj)]at e ⊢;exact s.gs.val j b d e
 . by_cases hj:j=i;.subst hj;rw[getElem?_set_self hi]at e;cases r with|val d'=>cases e;cases e'|own es=>cases e;cases e';obtain⟨x,xs,rfl,q2,q3,q4,_⟩:=rr;exact⟨x,_,getElem?_set_self hi',q2,q3,xs,rfl,q4⟩
   .rw[getElem?_set_ne (Ne.symm hj)]at e ⊢;exact s.gs.own j t ds e e'
 . by_cases hj:j=i
   . by_cases hk:k=i;.rw[hj,hk]
     .subst hj;exact absurd ⟨k,old hk h2⟩ (new h1).1
   . by_cases hk:k=i;.subst hk;exact absurd ⟨j,old hj h1⟩ (new h2).1
     .exact s.gs.dis j k a (old hj h1) (old hk h2)
 . by_cases hji:j=i;.subst hji;exact(new hj).2
   .exact s.uX a ⟨j,old hji hj⟩
 . obtain⟨e1,t1,e2,e3⟩:=s.lk j t e l;have hj:j≠i:=by rintro rfl;rw[h0]at e2;cases e2;rw[e3.um l]at hl;cases hl
   exact⟨by rw[getElem?_set_ne (Ne.symm hj)];exact e1,t1,by rw[getElem?_set_ne (Ne.symm hj)];exact e2,e3⟩
theorem GS.mut{x:Nat}{b:Bool}{ds es:List D}{a:Addr}{ys:List V}(g:GS K F ρ σ H)(e:ρ[x]?=some (.own b ds))(hx:σ[x]?=some (some (.ref a)))(r:aG K F ys es):aO K F ρ σ H F (ρ.set x (.own b es)) σ (upd H a (.lst ys)):=by
 have hi:x<ρ.length:=(List.getElem?_eq_some_iff.mp e).1;have oa:bB ρ σ x a:=⟨⟨_,_,e,rfl⟩,hx⟩;obtain⟨a',xs,h1,h2,h3,h4⟩:=g.qQ x _ ds e rfl;rw[hx]at h1;cases h1;have old:∀{j:Nat}{c:Addr},bB (ρ.set x (.own b es)) σ j c->bB ρ σ j c:=fun{j c}⟨⟨t,dt,q1,q2⟩,q3⟩=>by
  by_cases hj:j=x;.subst hj;exact⟨⟨_,_,e,rfl⟩,q3⟩
  .rw[getElem?_set_ne (Ne.symm hj)]at q1;exact⟨⟨t,dt,q1,q2⟩,q3⟩
 refine⟨⟨fun c o q=>?_,by simp[g.len],fun j b' d q=>?_,fun j t dt q q'=>?_,fun j k c q1 q2=>g.dis j k c (old q1) (old q2)⟩,.refl _,fun c n n'=>absurd n n',fun c o q n=>?_,fun c⟨j,q⟩=>.inl ⟨j,old q⟩,by simp,fun j t q l=>⟨rfl,?_⟩⟩
 . have:c≠a:=by rintro rfl;rw[h3]at q;cases q
   rw[aD this];exact g.sub c o q
 . by_cases hj:j=x;.subst hj;rw[getElem?_set_self hi]at q;cases q
   .rw[getElem?_set_ne (Ne.symm hj)]at q;exact g.val j b' d q
 . by_cases hj:j=x;.subst hj;rw[getElem?_set_self hi]at q;cases q;cases q';exact⟨a,_,hx,aY,h3,ys,rfl,r⟩
   . rw[getElem?_set_ne (Ne.symm hj)]at q;obtain⟨c,zs,w1,w2,w3,w4⟩:=g.own j t dt q q';have:c≠a:=by rintro rfl;exact hj (g.dis j x c ⟨⟨t,dt,q,q'⟩,w1⟩ oa)
     exact⟨c,zs,w1,by rw[aD this];exact w2,w3,w4⟩
 . have:c≠a:=by rintro rfl;exact n ⟨x,oa⟩
   rw[aD this];exact q
 . by_cases hj:j=x;.subst hj;rw[e]at q;cases q;refine⟨_,getElem?_set_self hi,?_⟩;cases b with|true=>exact .inl ⟨_,rfl⟩|false=>cases l
   .exact⟨t,by rw[getElem?_set_ne (Ne.symm hj)];exact q,.refl t⟩
theorem GS.lend{i:Nat}{b:Bool}{ds:List D}(g:GS K F ρ σ H)(e:ρ[i]?=some (.own b ds)):GS K F (ρ.set i (.lent ds)) σ H:=by
 have hi:i<ρ.length:=(List.getElem?_eq_some_iff.mp e).1;have old:∀{j:Nat}{c:Addr},bB (ρ.set i (.lent ds)) σ j c->bB ρ σ j c:=fun{j c}⟨⟨t,dt,q1,q2⟩,q3⟩=>by
  by_cases hj:j=i;.subst hj;exact⟨⟨_,_,e,rfl⟩,q3⟩
  .rw[getElem?_set_ne (Ne.symm hj)]at q1;exact⟨⟨t,dt,q1,q2⟩,q3⟩
 refine⟨g.sub,by simp[g.len],fun j b' d q=>?_,fun j t dt q q'=>?_,fun j k c q1 q2=>g.dis j k c (old q1) (old q2)⟩
 . by_cases hj:j=i;.subst hj;rw[getElem?_set_self hi]at q;cases q
   .rw[getElem?_set_ne (Ne.symm hj)]at q;exact g.val j b' d q
 . by_cases hj:j=i;.subst hj;rw[getElem?_set_self hi]at q;cases q;cases q';exact g.own j _ _ e rfl
   .rw[getElem?_set_ne (Ne.symm hj)]at q;exact g.own j t dt q q'
theorem aO.bC{i:Nat}{b:Bool}{ds:List D}(g:GS K F ρ σ H)(e:ρ[i]?=some (.own b ds))(s:aO K F (ρ.set i (.lent ds)) σ H F1 ρ1 σ1 H1):aO K F ρ σ H F1 (ρ1.set i (.own b ds)) σ1 H1/\∀v r,cL K F1 ρ1 σ1 H1 (ρ.set i (.lent ds)) σ H v r->cL K F1 (ρ1.set i (.own b ds)) σ1 H1 ρ σ H v r:=by
 have hi:i<ρ.length:=(List.getElem?_eq_some_iff.mp e).1;have h1:(ρ.set i (.lent ds))[i]?=some (.lent ds):=getElem?_set_self hi;obtain⟨z1,s',z2,z3⟩:=s.lk i _ h1 rfl;cases(show s'=.lent ds from z3);have hi1:i<ρ1.length:=(List.getElem?_eq_some_iff.mp z2).1;have o1:∀{j:Nat}{c:Addr},bB (ρ.set i (.lent ds)) σ j c->bB ρ σ j c:=fun{j c}⟨⟨t,dt,q1,q2⟩,q3⟩=>by
  by_cases hj:j=i;.subst hj;exact⟨⟨_,_,e,rfl⟩,q3⟩
  .rw[getElem?_set_ne (Ne.symm hj)]at q1;exact⟨⟨t,dt,q1,q2⟩,q3⟩
 have o1':∀{c:Addr},Own ρ σ c->Own (ρ.set i (.lent ds)) σ c:=fun{c}⟨j,⟨t,dt,q1,q2⟩,q3⟩=>by
  by_cases hj:j=i;.subst hj;exact⟨j,⟨_,_,h1,rfl⟩,q3⟩
  .exact⟨j,⟨t,dt,by rw[getElem?_set_ne (Ne.symm hj)];exact q1,q2⟩,q3⟩
 have o2:∀{j:Nat}{c:Addr},bB (ρ1.set i (.own b ds)) σ1 j c->bB ρ1 σ1 j c:=fun{j c}⟨⟨t,dt,q1,q2⟩,q3⟩=>by
  by_cases hj:j=i;.subst hj;exact⟨⟨_,_,z2,rfl⟩,q3⟩
  .rw[getElem?_set_ne (Ne.symm hj)]at q1;exact⟨⟨t,dt,q1,q2⟩,q3⟩
 have w:∀{c:Addr}{h:Hp},Own (ρ.set i (.lent ds)) σ c\/h c=none->Own ρ σ c\/h c=none:=fun{c h}q=>q.imp (fun⟨j,q⟩=>⟨j,o1 q⟩) id;have w':∀{c:Addr}{h:Hp},Own (ρ.set i (.lent ds)) σ c\/nt (h c)=none->Own ρ σ c\/nt (h c)=none:=fun{c h}q=>q.imp (fun⟨j,q⟩=>⟨j,o1 q⟩) id;refine⟨⟨⟨s.gs.sub,by simp[s.gs.len],fun j b' d q=>?_,fun j t dt q q'=>?_,fun j k c q1 q2=>s.gs.dis j k c (o2 q1) (o2 q2)⟩,s.cB,fun c n n'=>w' (s.wW c n n'),fun c o q n=>s.keep c o q fun⟨j,x⟩=>n ⟨j,o1 x⟩,fun c⟨j,q⟩=>w (s.uX c ⟨j,o2 q⟩),by simpa using s.len,fun j t q l=>?_⟩,fun v r h=>?_⟩
 . by_cases hj:j=i;.subst hj;rw[getElem?_set_self hi1]at q;cases q
   .rw[getElem?_set_ne (Ne.symm hj)]at q;exact s.gs.val j b' d q
 . by_cases hj:j=i;.subst hj;rw[getElem?_set_self hi1]at q;cases q;cases q';exact s.gs.own j _ _ z2 rfl
   .rw[getElem?_set_ne (Ne.symm hj)]at q;exact s.gs.own j t dt q q'
 . by_cases hj:j=i;.subst hj;rw[e]at q;cases q;refine⟨z1,_,getElem?_set_self hi1,?_⟩;cases b with|true=>exact .inl ⟨_,rfl⟩|false=>cases l
   .obtain⟨y1,t',y2,y3⟩:=s.lk j t (by rw[getElem?_set_ne (Ne.symm hj)];exact q) l;exact⟨y1,t',by rw[getElem?_set_ne (Ne.symm hj)];exact y2,y3⟩
 .cases r with|val d=>exact h|own es=>obtain⟨x,xs,q1,q2,q3,q4,q5,q6⟩:=h;exact⟨x,xs,q1,q2,q3,q4,fun⟨j,q⟩=>q5 ⟨j,o2 q⟩,w q6⟩
theorem GS.give{i:Nat}{ds:List D}(g:GS K F ρ σ H)(e:ρ[i]?=some (.own false ds)):∃v,σ[i]?=some (some v)/\aO K F ρ σ H F (ρ.set i .aZ) σ H/\cL K F (ρ.set i .aZ) σ H ρ σ H v (.own ds):=by
 have hi:i<ρ.length:=(List.getElem?_eq_some_iff.mp e).1;obtain⟨a,xs,h1,h2,h3,h4⟩:=g.qQ i _ ds e rfl;have old:∀{j:Nat}{c:Addr},bB (ρ.set i .aZ) σ j c->bB ρ σ j c/\j≠i:=fun{j c}⟨⟨t,dt,q1,q2⟩,q3⟩=>by
  by_cases hj:j=i;.subst hj;rw[getElem?_set_self hi]at q1;cases q1;cases q2
  .rw[getElem?_set_ne (Ne.symm hj)]at q1;exact⟨⟨⟨t,dt,q1,q2⟩,q3⟩,hj⟩
 have oa:bB ρ σ i a:=⟨⟨_,_,e,rfl⟩,h1⟩;refine⟨.ref a,h1,⟨⟨g.sub,by simp[g.len],fun j b' d q=>?_,fun j t dt q q'=>?_,fun j k c q1 q2=>g.dis j k c (old q1).1 (old q2).1⟩,.refl _,fun c n n'=>absurd n n',fun _ _ q _=>q,fun c⟨j,q⟩=>.inl ⟨j,(old q).1⟩,by simp,fun j t q l=>⟨rfl,?_⟩⟩,a,xs,rfl,h2,h3,h4,fun⟨j,q⟩=>?_,.inl ⟨i,oa⟩⟩
 . by_cases hj:j=i;.subst hj;rw[getElem?_set_self hi]at q;cases q
   .rw[getElem?_set_ne (Ne.symm hj)]at q;exact g.val j b' d q
 . by_cases hj:j=i;.subst hj;rw[getElem?_set_self hi]at q;cases q;cases q'
   .rw[getElem?_set_ne (Ne.symm hj)]at q;exact g.own j t dt q q'
 . by_cases hj:j=i;.subst hj;rw[e]at q;cases q;cases l
   .exact⟨t,by rw[getElem?_set_ne (Ne.symm hj)];exact q,.refl t⟩
 .exact(old q).2 (g.dis j i a (old q).1 oa)
theorem GS.more{n:Nat}{τ:List (Option V)}(g:GS K F ρ σ H)(hn:τ.length=n):GS K F (ρ++replicate n .aZ) (σ++τ) H:=by
 have get:∀{j:Nat}{t:Sl},(ρ++replicate n Sl.aZ)[j]?=some t->t≠.aZ->ρ[j]?=some t/\j<ρ.length:=fun{j t}q ne=>by
  by_cases hj:j<ρ.length;.rw[getElem?_append_left hj]at q;exact⟨q,hj⟩
  . rw[getElem?_append_right (by omega),getElem?_replicate]at q;split at q;.cases q;exact absurd rfl ne
    .cases q
 have up:∀{j:Nat}{v:Option V},j<ρ.length->(σ[j]?=some v↔(σ++τ)[j]?=some v):=fun{j v}hj=>by rw[getElem?_append_left (by rw[<-g.len];exact hj)]
 have old:∀{j:Nat}{c:Addr},bB (ρ++replicate n .aZ) (σ++τ) j c->bB ρ σ j c:=fun{j c}⟨⟨t,dt,q1,q2⟩,q3⟩=>by obtain⟨h1,h2⟩:=get q1 (by rintro rfl;cases q2);exact⟨⟨t,dt,h1,q2⟩,(up h2).mpr q3⟩
 refine⟨g.sub,by simp[g.len,hn],fun j b d q=>?_,fun j t dt q q'=>?_,fun j k c q1 q2=>g.dis j k c (old q1) (old q2)⟩;.obtain⟨h1,h2⟩:=get q (by simp);obtain⟨v,e1,e2⟩:=g.val j b d h1;exact⟨v,(up h2).mp e1,e2⟩
 .obtain⟨h1,h2⟩:=get q (by rintro rfl;cases q');obtain⟨a,xs,e1,e2⟩:=g.own j t dt h1 q';exact⟨a,xs,(up h2).mp e1,e2⟩
theorem aO.less{n:Nat}{τ:List (Option V)}{m:Nat}(hm:m=ρ.length)(g:GS K F ρ σ H)(hn:τ.length=n)(s:aO K F (ρ++replicate n .aZ) (σ++τ) H F1 ρ1 σ1 H1):aO K F ρ σ H F1 (ρ1.take m) (σ1.take m) H1/\∀v r,cL K F1 ρ1 σ1 H1 (ρ++replicate n .aZ) (σ++τ) H v r->cL K F1 (ρ1.take m) (σ1.take m) H1 ρ σ H v r:=by
 subst hm;have l1:ρ.length<=ρ1.length:=by rw[s.len];simp
 have l2:ρ.length<=σ1.length:=by rw[<-s.gs.len];exact l1
 have tk:∀{α:Type}{l:List α}{j:Nat}{x:α},(l.take ρ.length)[j]?=some x->l[j]?=some x/\j<ρ.length:=fun{α l j x}q=>by
  rw[List.getElem?_take]at q;split at q;.exact⟨q,by assumption⟩
  .cases q
 have kt:∀{α:Type}{l:List α}{j:Nat}{x:α},j<ρ.length->l[j]?=some x->(l.take ρ.length)[j]?=some x:=fun{α l j x}hj q=>by rw[List.getElem?_take,if_pos hj];exact q
 have oN:∀{c:Addr},Own (ρ++replicate n .aZ) (σ++τ) c->Own ρ σ c:=fun{c}⟨j,⟨t,dt,q1,q2⟩,q3⟩=>by
  by_cases hj:j<ρ.length;.rw[getElem?_append_left hj]at q1;rw[getElem?_append_left (by rw[<-g.len];exact hj)]at q3;exact⟨j,⟨t,dt,q1,q2⟩,q3⟩
  . rw[getElem?_append_right (by omega),getElem?_replicate]at q1;split at q1;.cases q1;cases q2
    .cases q1
 have oN':∀{c:Addr},Own ρ σ c->Own (ρ++replicate n .aZ) (σ++τ) c:=fun{c}⟨j,⟨t,dt,q1,q2⟩,q3⟩=>by have hj:j<ρ.length:=(List.getElem?_eq_some_iff.mp q1).1;exact⟨j,⟨t,dt,by rw[getElem?_append_left hj];exact q1,q2⟩,by rw[getElem?_append_left (by rw[<-g.len];exact hj)];exact q3⟩
 have o1:∀{j:Nat}{c:Addr},bB (ρ1.take ρ.length) (σ1.take ρ.length) j c->bB ρ1 σ1 j c:=fun{j c}⟨⟨t,dt,q1,q2⟩,q3⟩=>⟨⟨t,dt,(tk q1).1,q2⟩,(tk q3).1⟩;have w:∀{c:Addr}{h:Hp},Own (ρ++replicate n .aZ) (σ++τ) c\/h c=none->Own ρ σ c\/h c=none:=fun{c h}q=>q.imp oN id;have w':∀{c:Addr}{h:Hp},Own (ρ++replicate n .aZ) (σ++τ) c\/nt (h c)=none->Own ρ σ c\/nt (h c)=none:=fun{c h}q=>q.imp oN id;refine⟨⟨⟨s.gs.sub,by simp only[length_take];omega,fun j b d q=>?_,fun j t dt q q'=>?_,fun j k c q1 q2=>s.gs.dis j k c (o1 q1) (o1 q2)⟩,s.cB,fun c a b=>w' (s.wW c a b),fun c o q n=>s.keep c o q fun x=>n (oN x),fun c⟨j,q⟩=>w (s.uX c ⟨j,o1 q⟩),by simp only[length_take];omega,fun j t q l=>?_⟩,fun v r h=>?_⟩;.obtain⟨h1,h2⟩:=tk q;obtain⟨v,e1,e2⟩:=s.gs.val j b d h1;exact⟨v,kt h2 e1,e2⟩
 .obtain⟨h1,h2⟩:=tk q;obtain⟨a,xs,e1,e2⟩:=s.gs.own j t dt h1 q';exact⟨a,xs,kt h2 e1,e2⟩
 .have hj:j<ρ.length:=(List.getElem?_eq_some_iff.mp q).1;obtain⟨y1,t',y2,y3⟩:=s.lk j t (by rw[getElem?_append_left hj];exact q) l;rw[getElem?_append_left (by rw[<-g.len];exact hj)]at y1;refine⟨?_,t',kt hj y2,y3⟩;rw[List.getElem?_take,if_pos hj];exact y1
 .cases r with|val d=>exact h|own es=>obtain⟨x,xs,q1,q2,q3,q4,q5,q6⟩:=h;exact⟨x,xs,q1,q2,q3,q4,fun⟨j,q⟩=>q5 ⟨j,o1 q⟩,w q6⟩
end
section
variable{X:Cx}{c:Call}{n:Nat}{e a b d:Expr}{p pa pb pd:P}{pos:Pos}{es:List Expr}{ps:List P}
inductive aa2(K:PySem.W.Frag)(f:List Sl->Res (List Arg))(σ:L2.St)(H:Hp)(Q:List V->Hp->Prop):Prop where|mk(F:Hp)(ρ:List Sl)(as:List Arg)(ρ':List Sl)(g:GS K F ρ σ H)(e:f ρ=.ok as ρ')(k:∀vs F' H',aO K F ρ σ H F' ρ' σ H'->vo K F' ρ' σ H' ρ H as vs->Q vs H')
def SG(X:Cx)(c:Call)(es:List Expr)(ps:List P):Prop:=PA X es (aa2 X.K (xm c ps))
theorem aB:SG X c [] []:=vM dR fun σ H Q⟨F,ρ,as,ρ',g,e,k⟩=>by rw[xm]at e;cases e;exact k [] F H (.refl g) .nil
theorem Ih(ha:SX X c a pa)(hr:SG X c es ps)(hs:starEach (a::es) X.env=(false,eval a X.env)::starEach es X.env:=by rfl):SG X c (a::es) (pa::ps):=by cases hv:isVar pa with|none=>refine vM (cg ha.ev hr hs) ?_;rintro σ H Q⟨F,ρ,as,ρ',g,e,k⟩;rw[xm,hv]at e;obtain⟨r,ρ1,e1,e⟩:=ak e;obtain⟨xs,ρ2,e2,e⟩:=ak e;cases e;refine⟨F,ρ,r,ρ1,g,e1,fun v F1 H1 s1 rr=>⟨F1,ρ1,xs,_,s1.gs,e2,fun vs F2 H2 s2 A=>k _ F2 H2 (s1.trans s2) (vo.Wm s1 rr s2 A)⟩⟩|some i=>refine vM (cg (ha.var i hv) hr hs) ?_;rintro σ H Q⟨F,ρ,as,ρ',g,e,k⟩;rw[xm,hv]at e;obtain⟨x0,ρ0,e0,e⟩:=ak e;obtain⟨e00,Hx⟩:=aF e0;subst Hx;obtain⟨xs,ρ2,e2,e⟩:=ak e;cases e;obtain⟨v,h1,_⟩:=g.pk e00;exact⟨v,h1,F,ρ,xs,_,g,e2,fun vs F2 H2 s2 A=>k _ F2 H2 s2 (.cons h1 A fun ds x z=>by cases z)⟩
theorem Jr{k f:Nat}{fa:Addr}{fd:FuncData}{qs:List Str}{x:Str}{p':Pos}(Fn:bV X.prog X.w X.K X.mg X.base gh k fa fd qs (gF X.K qs.length (c f)))(hr:jr k X.A)(hg:Gl X x)(hm:X.mg x=some (.ref fa))(hk:keepIn X.K (.ref fa)=true)(hb:Binds X.K fd qs [])(ha:SG X c (e::es) ps)(hl:(e::es).length=qs.length)(hdb:(x==("__debug__":Str))=false:=by decide)(he:starEach (e::es) X.env=(false,eval e X.env)::starEach es X.env:=by rfl)(hpl:(backTo pos (starEach es X.env)).any (·.1)=false:=by rfl)(hl2:ps.length=(e::es).length:=by rfl):SX X c (.Call (.Name x p') (e::es) [] pos) (.call f ps):=by
 refine⟨eU (Jz (E:=E0) Fn hr hg hm hk hb .nil UL ha hdb he hpl) ?_,fun i h=>by cases h⟩;rintro σ H Q⟨F,ρ,r,ρ',g,e,k⟩;rw[HH.E15]at e;obtain⟨as,ρ1,e1,e⟩:=ak e;unfold jZ at e;split at e;.cases e
 . rename_i args hb';split at e
   . rename_i r' args' hc;cases e;refine⟨F,ρ,as,ρ1,g,e1,fun vs F1 H1 s1 A=>?_⟩;have hlen:vs.length=qs.length:=by
      have:∀{ps:List P}{ρ ρ':List Sl}{as:List Arg},xm c ps ρ=.ok as ρ'->as.length=ps.length:=by intro ps;induction ps with|nil=>intro ρ ρ' as h;rw[xm]at h;cases h;rfl|cons q qs ih=>
         intro ρ ρ' as h;rw[xm]at h;split at h;.obtain⟨_,_,_,h⟩:=ak h;obtain⟨xs,ρ2,h2,h⟩:=ak h;cases h;simp[ih h2]
         .obtain⟨_,_,_,h⟩:=ak h;obtain⟨xs,ρ2,h2,h⟩:=ak h;cases h;simp[ih h2]
      rw[<-A.len,this e1,hl2,hl]
     show gF X.K qs.length (c f) (vs++[]) H1 Q E0;rw[append_nil];refine⟨hlen,F1,args,r,args',args_gs s1.gs A hb',hc,fun v F' σ' H' s rr=>?_⟩;obtain⟨z1,z2⟩:=Hc s1 A hb' s;exact k v F' H' z1 (z2 v r rr)
   .cases e
   .cases e
def Fg(K:PySem.W.Frag)(D:Ends)(F':Hp)(ρ':List Sl)(σ':L2.St)(H':Hp)(ρ:List Sl)(σ:L2.St)(H:Hp)(fl:Fl):Prop:=match fl with|.next=>D.nx σ' H'|.brk=>D.bk σ' H'|.cont=>D.ct σ' H'|.ret r=>∀v,cL K F' ρ' σ' H' ρ σ H v r->D.rt v H'
inductive Ys(K:PySem.W.Frag)(f:List Sl->Res Fl)(D:Ends)(σ:L2.St)(H:Hp):Prop where|mk(F:Hp)(ρ:List Sl)(fl:Fl)(ρ':List Sl)(g:GS K F ρ σ H)(e:f ρ=.ok fl ρ')(k:∀F' σ' H',aO K F ρ σ H F' ρ' σ' H'->Fg K D F' ρ' σ' H' ρ σ H fl)
def SS(X:Cx)(c:Call)(n:Nat)(st:Stmt)(s:S):Prop:=PS X st (Ys X.K (ex c n s))
def SB(X:Cx)(c:Call)(n:Nat)(st:List Stmt)(s:List S):Prop:=v5 X st (Ys X.K (gj c n s))
theorem fC{st:Stmt}{t t':TS}(h:PS X st t)(i:∀D σ H,t' D σ H->t D σ H):PS X st t':=fun pins s σ H D I q=>h pins s σ H D I (i D σ H q)
theorem mZ{st:List Stmt}{t t':TS}(h:v5 X st t)(i:∀D σ H,t' D σ H->t D σ H):v5 X st t':=fun pins s σ H D I q=>h pins s σ H D I (i D σ H q)
theorem aq:SB X c n [] []:=mZ zG fun D σ H⟨F,ρ,fl,ρ',g,e,k⟩=>by rw[gj]at e;cases e;exact k F σ H (.refl g)
theorem aU{st:Stmt}{s:S}{sts:List Stmt}{ss:List S}(h1:SS X c n st s)(h2:SB X c n sts ss):SB X c n (st::sts) (s::ss):=by refine mZ (lD h1 h2) ?_;rintro D σ H⟨F,ρ,fl,ρ',g,e,k⟩;rw[gj]at e;obtain⟨f1,ρ1,e1,e⟩:=ak e;cases f1 with
 |next=>refine⟨F,ρ,.next,ρ1,g,e1,fun F1 σ1 H1 s1=>⟨F1,ρ1,fl,ρ',s1.gs,e,fun F2 σ2 H2 s2=>?_⟩⟩;have q:=k F2 σ2 H2 (s1.trans s2);cases fl with|next=>exact q|brk=>exact q|cont=>exact q|ret r=>exact fun v rr=>q v (rr.later s1)
 |brk=>cases e;exact⟨F,ρ,.brk,_,g,e1,k⟩|cont=>cases e;exact⟨F,ρ,.cont,_,g,e1,k⟩|ret r=>cases e;exact⟨F,ρ,.ret r,_,g,e1,k⟩
theorem Ut{t1 t2:TE}(h1:PE X e t1)(h2:PE X e t2):PE X e (fun σ H Q=>t1 σ H Q\/t2 σ H Q):=fun pins s σ H Q I h=>h.elim (h1 pins s σ H Q I) (h2 pins s σ H Q I)
theorem Py(he:SX X c e p):SS X c n (.Return (some e) pos) (.ret p):=by
 have plain:∀(D:Ends)(σ:L2.St)(H:Hp),(∃F ρ fl ρ',GS X.K F ρ σ H/\((HH.ev c p ρ).bind fun r ρ=>.ok (Fl.ret r) ρ)=.ok fl ρ'/\∀F' σ' H',aO X.K F ρ σ H F' ρ' σ' H'->(match fl with|.next=>D.nx σ' H'|.brk=>D.bk σ' H'|.cont=>D.ct σ' H'|.ret r=>∀v,cL X.K F' ρ' σ' H' ρ σ H v r->D.rt v H'))->wG X.K (HH.ev c p) σ H D.rt:=fun D σ H⟨F,ρ,fl,ρ',g,e,k⟩=>by obtain⟨r,ρ1,e1,e⟩:=ak e;cases e;exact⟨F,ρ,r,_,g,e1,fun v F1 H1 s1 rr=>k F1 σ H1 s1 v rr⟩
 cases hv:isVar p with|none=>refine fC (CQ he.ev) fun D σ H⟨F,ρ,fl,ρ',g,e,k⟩=>plain D σ H ⟨F,ρ,fl,ρ',g,?_,k⟩;rw[HH.Xu,hv]at e;exact e|some i=>--by the name itself:its own list is handed back,else its data
   have hp:p=.var i:=by cases p<;>cases hv;rfl
   subst hp;refine fC (CQ (Ut (he.var i hv) he.ev)) ?_;rintro D σ H⟨F,ρ,fl,ρ',g,e,k⟩;rw[HH.Xu,hv]at e;dsimp only at e;split at e;.rename_i ds q;cases e;obtain⟨v,h1,h2,h3⟩:=g.give q;exact .inl ⟨v,h1,k F σ H h2 v h3⟩
   .exact .inr (plain D σ H ⟨F,ρ,fl,ρ',g,e,k⟩)
theorem bY{sa sb:List Stmt}{ta tb:List S}(hc:ST X c e p)(ha:SB X c n sa ta)(hb:SB X c n sb tb):SS X c n (.If e sa sb pos) (.ifs p ta tb):=by refine fC (Lw hc ha hb) ?_;rintro D σ H⟨F,ρ,fl,ρ',g,e,k⟩;rw[HH.Xw]at e;obtain⟨x,ρ1,e1,e⟩:=ak e;refine⟨F,ρ,x,ρ1,g,e1,fun F1 H1 s1=>?_⟩;have go:∀{f:List Sl->Res Fl},f ρ1=.ok fl ρ'->Ys X.K f D σ H1:=fun{f}h=>⟨F1,ρ1,fl,ρ',s1.gs,h,fun F2 σ2 H2 s2=>by have q:=k F2 σ2 H2 (s1.trans s2);cases fl with|next=>exact q|brk=>exact q|cont=>exact q|ret r=>exact fun v rr=>q v (rr.later s1)⟩;cases x with|true=>rw[if_pos rfl]at e;exact go e|false=>rw[if_neg Bool.false_ne_true]at e;exact go e
theorem fu{i:Nat}{x:Str}{pos':Pos}(hN:X.N.Nodup)(hi:X.N[i]?=some x)(hx:Loc X.env.scope x)(he:SX X c e p)(hs:swapsWith e (some (.Name x pos')) pos.line X.env=pure false:=by rfl)(hf:X.fn x=true\/X.env.scope.names.lookup x=some .local:=by first|exact .inl rfl|exact .inr rfl|assumption):SS X c n (.Assign [.Name x pos'] e pos) (.asg i p):=by refine fC (GF hN hi hx he.ev hs hf) ?_;rintro D σ H⟨F,ρ,fl,ρ',g,e,k⟩;rw[HH.X6]at e;obtain⟨r,ρ1,e1,e⟩:=ak e;obtain⟨ρ2,ρ3,e2,e⟩:=ak e;cases e;have zz:=aF e2;clear e2;obtain⟨e2,e3⟩:=zz;exact⟨F,ρ,r,ρ1,g,e1,fun v F1 H1 s1 rr=>k F1 _ H1 (s1.put rr e2)⟩
end
end HH
end
section
namespace L2
open PySem PySem.Spec PyProof.Rows
noncomputable def rQ(X:Cx)(scope:Scope)(N':List Str)(cl:List (Str×Addr))(C:Addr)(s₀:Shared)(H₀:Hp)(ex:List Addr):Cx:={X with N:=N',s₀:=s₀,H₀:=H₀,env:=compEnvC scope cl C X.env,outer:=X.stack,stack:=X.stack,ex:=ex,fn:=fun x=>scope.names.lookup x==some .cell,pn:=[],xe:=fun _ _=>False}
theorem xZ{env:Env}(l:List (Str×NameKind)):∀(cs:List (Str×Addr)),(∀n,(n,NameKind.free)∈l->∃c,env.cells.lookup n=some c)->(∀n c,cs.lookup n=some c->env.cells.lookup n=some c)->∃ cl,(forIn l cs (fun(x:Str × NameKind)(r:List (Str × Addr))=>(if(x.2==NameKind.free)=true then(do let a<-cellOf env x.1;pure (ForInStep.yield ((x.1,a)::r)))else pure (ForInStep.yield r):Sem (ForInStep (List (Str × Addr))))):Sem (List (Str × Addr)))=pure cl/\(∀n c,cl.lookup n=some c->env.cells.lookup n=some c)/\(∀n,((n,NameKind.free)∈l\/(cs.lookup n).isSome)->(cl.lookup n).isSome):=by induction l with|nil=>intro cs _ h;exact⟨cs,rfl,h,fun n hn=>by rcases hn with hn|hn;cases hn;exact hn⟩|cons y l ih=>
   obtain⟨n,k⟩:=y;intro cs hl hc;rw[forIn_cons];by_cases hk:k=.free
   . subst hk;obtain⟨a,ha⟩:=hl n mem_cons_self;obtain⟨cl,e,h1,h2⟩:=ih ((n,a)::cs) (fun m hm=>hl m (mem_cons_of_mem _ hm)) fun m c hm=>by
      rw[lookup_cons]at hm;split at hm;.rename_i q;have q:=eq_of_beq q;subst q;cases hm;exact ha
      .exact hc m c hm
     refine⟨cl,?_,h1,fun m hm=>h2 m ?_⟩
     . rw[<-e];have:cellOf env n=pure a:=by unfold cellOf;rw[ha]
       simp only[beq_self_eq_true,if_true,this];rfl
     . rcases hm with hm|hm
       . rcases mem_cons.mp hm with hm|hm;.cases hm;right;simp[lookup_cons]
         .exact .inl hm
       . right;rw[lookup_cons];split;.rfl
         .exact hm
   . obtain⟨cl,e,h1,h2⟩:=ih cs (fun m hm=>hl m (mem_cons_of_mem _ hm)) hc;refine⟨cl,?_,h1,fun m hm=>h2 m ?_⟩
     . rw[<-e];have:(k==NameKind.free)=false:=by simpa using hk
       simp only[this,false_eq_true,if_false];rfl
     . rcases hm with hm|hm
       . rcases mem_cons.mp hm with hm|hm;.cases hm;exact absurd rfl hk
         .exact .inl hm
       .exact .inr hm
theorem yg{env:Env}{scope:Scope}(hl:∀n,(n,NameKind.free)∈scope.names->∃c,env.cells.lookup n=some c):∃cl,closureFor scope env=pure cl/\(∀n c,cl.lookup n=some c->env.cells.lookup n=some c)/\∀n,(n,NameKind.free)∈scope.names->(cl.lookup n).isSome:=by obtain⟨cl,e,h1,h2⟩:=xZ (env:=env) scope.names [] hl (by simp);refine⟨cl,?_,h1,fun n hn=>h2 n (.inl hn)⟩;unfold closureFor;exact(congrArg (fun t=>t>>=fun r=>pure r) e).trans rfl
theorem dJ{env:Env}:∀(names:List (Str×NameKind))(x:Str),(names.map fun(n,k)=>if(k==NameKind.free&&env.scope.kind==.function&&env.kindOf n==some .cell)then(n,NameKind.cell)else(n,k)).lookup x=(names.lookup x).map fun k=>if(k==NameKind.free&&env.scope.kind==.function&&env.kindOf x==some .cell)=true then NameKind.cell else k
 |[],x=>rfl|(n,k)::r,x=>by
   have ih:=dJ (env:=env) r x;show List.lookup x ((if(k==NameKind.free&&env.scope.kind==.function&&env.kindOf n==some .cell)=true then(n,NameKind.cell)else(n,k))::_)=_;by_cases hc:(k==NameKind.free&&env.scope.kind==.function&&env.kindOf n==some .cell)=true;.rw[if_pos hc,lookup_cons,lookup_cons];cases hx:x==n with|true=>have:=eq_of_beq hx;subst this;show some NameKind.cell=some (if _ then _ else _);rw[if_pos hc]|false=>exact ih
   .rw[if_neg hc,lookup_cons,lookup_cons];cases hx:x==n with|true=>have:=eq_of_beq hx;subst this;show some k=some (if _ then _ else _);rw[if_neg hc]|false=>exact ih
noncomputable def UG(N N':List Str)(sc:Scope):Bool:=(N.zip N').all fun p=>(p.1==p.2&&sc.names.lookup p.2==some .free)||(sc.names.lookup p.2!=some .local&&sc.names.lookup p.2!=some .cell&&sc.names.lookup p.2!=some .free)
structure fj(X:Cx)(scope:Scope)(N':List Str)(n:Nat):Prop where
 kind:scope.kind=.function
 cons:∀y∈scope.names,scope.names.lookup y.1=some y.2
 names:∀y∈scope.names,y.2=.local->scope.names.lookup y.1=some .local
 cap:∀y∈scope.names,y.2=.free->X.env.scope.names.lookup y.1=some .cell\/X.env.scope.names.lookup y.1=some .free
 len:N'.length=X.N.length+n
 same:UG X.N N' scope=true
theorem fj.get{X:Cx}{scope:Scope}{N':List Str}{n:Nat}(c:fj X scope N' n){i:Nat}{x:Str}(hi:i<X.N.length)(h:N'[i]?=some x)(hv:zW (relabel scope X.env) x):X.N[i]?=some x/\scope.names.lookup x=some .free:=by
 have hz:(X.N.zip N')[i]?=some (X.N[i],x):=by rw[List.getElem?_zip_eq_some];exact⟨by simp[hi],h⟩
 have:=(all_eq_true.mp c.same) _ (mem_of_getElem? hz);simp only[or_eq_true,and_eq_true]at this;rcases this with⟨h1,h2⟩|⟨⟨h1,h2⟩,h3⟩;.have h1:=eq_of_beq h1;have h2:=eq_of_beq h2;exact⟨by simp[hi,h1],h2⟩
 . exfalso;have h1:scope.names.lookup x≠some .local:=by simpa using h1
   have h2:scope.names.lookup x≠some .cell:=by simpa using h2
   have h3:scope.names.lookup x≠some .free:=by simpa using h3
   have e:=dJ (env:=X.env) scope.names x;have hv:(relabel scope X.env).names.lookup x=some .local\/(relabel scope X.env).names.lookup x=some .cell\/(relabel scope X.env).names.lookup x=some .free:=hv;rw[show(relabel scope X.env).names.lookup x=_ from e]at hv;cases q:scope.names.lookup x with|none=>rw[q]at hv;simp at hv|some k=>
     rw[q]at hv h1 h2 h3;have hk:(k==NameKind.free)=false:=by cases k<;>first|rfl|exact absurd rfl h3
     simp only[Option.map_some,hk,Bool.false_and,false_eq_true,if_false,Option.some.injEq]at hv;rcases hv with rfl|rfl|rfl;.exact h1 rfl
     .exact h2 rfl
     .exact h3 rfl
structure CI(cl:List (Str×Addr))(z:Nat)(h:Heap)(acc:List (Str×Addr)):Prop where from':∀n c,acc.lookup n=some c->cl.lookup n=some c\/(z<=c/\h.IsCell c none)inj:∀n n' c,acc.lookup n=some c->acc.lookup n'=some c->n=n'
theorem DW{cl:List (Str×Addr)}{z:Nat}(hcl:∀n c,cl.lookup n=some c->c<z):∀(names:List (Str×NameKind))(h:Heap)(acc:List (Str×Addr)),z<=h.objs.size->CI cl z h acc->CI cl z (pushCells h names) (cellsFrom h.objs.size names acc)/\(∀n,(acc.lookup n).isSome->((cellsFrom h.objs.size names acc).lookup n).isSome)/\(∀n,((∃c,acc.lookup n=some c/\z<=c)\/(n,NameKind.cell)∈names)->∃c,(cellsFrom h.objs.size names acc).lookup n=some c/\z<=c)/\(∀n c,(n,NameKind.cell)∉names->(cellsFrom h.objs.size names acc).lookup n=some c->acc.lookup n=some c)
 |[],h,acc,hz,x=>by
   refine⟨x,fun _ q=>q,fun n q=>?_,fun _ _ _ q=>q⟩;rcases q with q|q;.exact q
   .cases q|(name,kind)::r,h,acc,hz,x=>by
   unfold pushCells cellsFrom;by_cases hk:kind=.cell
   . subst hk;rw[if_pos (by rfl),if_pos (by rfl)];have hx:CI cl z (h.push {cls:=.type "cell",data:=.cell none}) ((name,h.objs.size)::acc):=by
      have lt:∀n c,acc.lookup n=some c->c<h.objs.size:=fun n c e=>by
       rcases x.from' n c e with q|q;.exact lt_of_lt_of_le (hcl n c q) hz
       .exact q.2.lt
      refine⟨fun n c e=>?_,fun n n' c e e'=>?_⟩
      . rw[lookup_cons]at e;split at e;.cases e;exact .inr ⟨hz,_,get?_push_size _ rfl,rfl⟩
        . rcases x.from' n c e with q|q;.exact .inl q
          .exact .inr ⟨q.1,q.2.keeps fun b o e=>get?_push_of_some _ e⟩
      . rw[lookup_cons]at e e';split at e<;>split at e';.rename_i _ a _ b;rw[eq_of_beq a,eq_of_beq b]
        .cases e;exact absurd (lt n' _ e') (lt_irrefl _)
        .cases e';exact absurd (lt n _ e) (lt_irrefl _)
        .exact x.inj n n' c e e'
     have ih:=DW hcl r (h.push {cls:=.type "cell",data:=.cell none}) ((name,h.objs.size)::acc) (by rw[size_push];omega) hx;rw[size_push]at ih;refine⟨ih.1,fun n q=>ih.2.1 n ?_,fun n q=>ih.2.2.1 n ?_,fun n c q e=>?_⟩
     . rw[lookup_cons];split;.rfl
       .exact q
     . rcases q with⟨c,e,hc⟩|q
       . left;rw[lookup_cons];split;.exact⟨_,rfl,hz⟩
         .exact⟨c,e,hc⟩
       . rcases mem_cons.mp q with q|q;.cases q;left;exact⟨_,by simp[lookup_cons],hz⟩
         .exact .inr q
     . have:=ih.2.2.2 n c (fun z=>q (mem_cons_of_mem _ z)) e;rw[lookup_cons]at this;split at this;.rename_i a;exact absurd (by rw[eq_of_beq a];exact mem_cons_self) q
       .exact this
   . have hk':(kind==NameKind.cell)=false:=by simpa using hk
     rw[if_neg (by rw[hk'];decide),if_neg (by rw[hk'];decide)];have ih:=DW hcl r h acc hz x;refine⟨ih.1,ih.2.1,fun n q=>ih.2.2.1 n ?_,fun n c q e=>ih.2.2.2 n c (fun z=>q (mem_cons_of_mem _ z)) e⟩;rcases q with q|q;.exact .inl q
     . rcases mem_cons.mp q with q|q;.cases q;exact absurd rfl hk
       .exact .inr q
structure Eb(X:Cx)(scope:Scope)(z:Nat)(h:Heap)(cs:List (Str×Addr)):Prop where
 from':∀n c,cs.lookup n=some c->X.env.cells.lookup n=some c\/(z<c/\h.IsCell c none)inj:∀n n' c,cs.lookup n=some c->cs.lookup n'=some c->n=n'
 has:∀n,(scope.names.lookup n=some .free\/scope.names.lookup n=some .cell)->∃c,cs.lookup n=some c
 fre:∀n c,scope.names.lookup n=some .free->cs.lookup n=some c->X.env.cells.lookup n=some c
 own:∀n c,scope.names.lookup n=some .cell->cs.lookup n=some c->z<c
theorem Ce{M:Model}{A:Around}{E:Value->Shared->Prop}{X:Cx}{s:Shared}{scope:Scope}{N':List Str}{n:Nat}{cl:List (Str×Addr)}{Q:Env->Shared->Prop}(ok:fj X scope N' n)(hlt:∀n c,X.env.cells.lookup n=some c->c<s.heap.objs.size)(hinj:∀x y c,X.env.cells.lookup x=some c->X.env.cells.lookup y=some c->x=y)(hcl:∀n c,cl.lookup n=some c->X.env.cells.lookup n=some c)(yS:∀n,(n,NameKind.free)∈scope.names->(cl.lookup n).isSome)(hQ:∀ cs h',h'.Ns s.heap.objs.size (fun _=>none)->(∀ b o,s.heap.get? b=some o->h'.get? b=some o)->Eb X scope s.heap.objs.size h' cs->Q {scope:=scope,locals:=s.heap.objs.size,globals:=X.env.globals,cells:=cs,qual:=X.env.qual,func:=none,code:=X.env.code,frame:=X.env.frame,builtins:=X.env.builtins} {s with heap:=h'}):wpAny M A (newFunctionEnv scope X.env.globals cl [] X.env.qual none .none (some X.env)) Q E s:=by
 simp only[newFunctionEnv,Option.isSome_some,if_true];refine wpAny_bind (wpAny_alloc ?_);refine wpAny_bind (wpAny_layCells _ (fun name kind cells=>by cases hkc:kind==NameKind.cell<;>simp[hkc]) _ _ _ _ ?_);have ck:=DW (cl:=cl) (z:=s.heap.objs.size+1) (fun n c e=>lt_succ_of_lt (hlt n c (hcl n c e))) scope.names (s.heap.push {cls:=.type "dict",data:=.dict #[]}) cl (by rw[size_push];exact le_refl _) ⟨fun n c e=>.inl e,fun n n' c e e'=>hinj n n' c (hcl n c e) (hcl n' c e')⟩;obtain⟨c1,c2,c3,c4⟩:=ck;rw[show({s with heap:=s.heap.push {cls:=.type "dict",data:=.dict #[]}}:Shared).heap.objs.size=(s.heap.push {cls:=.type "dict",data:=.dict #[]}).objs.size from rfl];refine wpAny_bind ?_;rw[forIn_nil];refine wpAny_pure (wpAny_pure (hQ _ _ ((Heap.Ns.new s.heap (.type "dict")).keeps (pushCells_keeps _ _)) (fun b o e=>pushCells_keeps _ _ b o (get?_push_of_some _ e)) ⟨fun n c e=>?_,c1.inj,fun n q=>?_,fun n c q e=>?_,fun n c q e=>?_⟩))
 . rcases c1.from' n c e with z|z;.exact .inl (hcl n c z)
   .exact .inr ⟨z.1,z.2⟩
 . rcases q with q|q;.exact Option.isSome_iff_exists.mp (c2 n (yS n (PySem.mem_of_lookup q)))
   .obtain⟨c,e,_⟩:=c3 n (.inr (PySem.mem_of_lookup q));exact⟨c,e⟩
 .refine hcl n c (c4 n c (fun z=>?_) e);have:=ok.cons _ z;rw[q]at this;cases this
 .obtain⟨c',e',hc'⟩:=c3 n (.inr (PySem.mem_of_lookup q));rw[e]at e';cases e';exact hc'
section
variable{X:Cx}{pins:List (Addr×Obj)}{σ:L2.St}{H:Hp}{s:Shared}{scope:Scope}{N':List Str}{n:Nat}{fp:List Addr}{cl:List (Str×Addr)}
theorem FN{h1:Heap}{m:Str->Option Value}{t:Nat}{cs:List (Str×Addr)}(ok:fj X scope N' n)(I:Inv X pins σ H s)(hf:∀b∈fp,mK X pins H b/\b<s.heap.objs.size)(bc:Eb X scope s.heap.objs.size h1 cs)(hn:h1.Ns s.heap.objs.size m)(old:∀b u,s.heap.get? b=some u->h1.get? b=some u):Inv (rQ X scope N' cs s.heap.objs.size s H fp) [] (σ++replicate n none) H {s with heap:=h1,toks:=t}:=by
 have W0:∀x,scope.names.lookup x=some .free->(relabel scope X.env).names.lookup x=some .cell\/(relabel scope X.env).names.lookup x=some .free:=fun x h=>by
  have e:=dJ (env:=X.env) scope.names x;rw[h]at e;have e':(relabel scope X.env).names.lookup x=_:=e;rw[e'];simp only[Option.map_some];split;.exact .inl rfl
  .exact .inr rfl
 refine⟨⟨I.ok.mod,ok.kind,I.ok.glob,I.ok.blt,le_refl _,fun x y c h1 h2=>bc.inj x y c h1 h2,fun x hx=>?_,fun x c h e=>le_of_lt (bc.own x c (eq_of_beq (show(scope.names.lookup x==some NameKind.cell)=true from h)) e),I.ok.hd,I.ok.frames,.inl rfl,fun b hb=>?_,I.bs,le_trans I.ok.MN I.sz,fun b u e hb=>?_,fun b hb hfs=>?_,I.stack,I.zP⟩,rfl,I.bare,Un.kept old,⟨m,hn,fun i x v e1 e2 hv=>?_⟩,fun x c e=>?_,I.hok.fresh (le_refl _),fun x c e=>?_,fun p hp=>(by cases hp),I.hok.kept old,?_⟩;.--a W2 name has its cell
   have hx:(relabel scope X.env).names.lookup x=some .cell\/(relabel scope X.env).names.lookup x=some .free:=hx;have e:=dJ (env:=X.env) scope.names x;have e':(relabel scope X.env).names.lookup x=_:=e;rw[e']at hx;refine bc.has x ?_;cases q:scope.names.lookup x with|none=>rw[q]at hx;simp at hx|some k=>
     rw[q]at hx;by_cases hk:k=.free;.rw[hk];exact .inl rfl
     . have hk':(k==NameKind.free)=false:=by simpa using hk
       simp only[Option.map_some,hk',Bool.false_and,false_eq_true,if_false,Option.some.injEq]at hx;rcases hx with rfl|rfl;.exact .inr rfl
       .exact absurd rfl hk
 . obtain⟨f,lt⟩:=hf b hb;refine⟨ne_of_lt lt,fun x c e=>?_⟩;rcases bc.from' x c e with e|e;.exact f.2.2.2.2.1 x c e
   .rintro rfl;exact absurd (lt_trans e.1 lt) (lt_irrefl _)
 . obtain⟨f,lt⟩:=hf b hb;rcases f.2.2.2.1 with h|h;.exact I.ok.Hr b u e h
   .have this:b<X.base.objs.size:=lt_size e;exact absurd (lt_of_lt_of_le this (le_trans I.ok.MN h)) (lt_irrefl _)
 . obtain⟨f,lt⟩:=hf b hb;rcases mem_cons.mp (I.tK b hfs)with h|h;.exact f.2.1 h
   .exact f.2.2.1 h
 .--the names
   have hi:i<σ.length:=by
    by_cases hi:i<σ.length;.exact hi
    .rw[getElem?_append_right (by omega),getElem?_replicate]at e2;split at e2<;>cases e2
   rw[getElem?_append_left hi]at e2;obtain⟨h1',h2'⟩:=ok.get (by rw[<-I.len];exact hi) e1 hv;have hk:=ok.cap (x,.free) (PySem.mem_of_lookup h2') rfl;obtain⟨m0,hn0,hl⟩:=I.loc;obtain⟨u,r,l⟩:=hl i x v h1' e2 (.inr hk);refine⟨u,r,.inr ⟨W0 x h2',?_⟩⟩;rcases l with⟨hk',_⟩|⟨_,c,hc,hcell⟩;.have hk':X.env.scope.names.lookup x=some .local:=hk';rcases hk with hk|hk<;>(rw[hk']at hk;cases hk)
   .obtain⟨c',hc'⟩:=bc.has x (.inl h2');have:=bc.fre x c' h2' hc';rw[hc]at this;cases this;refine⟨c,hc',?_⟩;obtain⟨oc,e3,e4⟩:=hcell;exact⟨oc,old c oc e3,e4⟩
 . rcases bc.from' x c e with e|e;.obtain⟨v,oc,e3,e4⟩:=I.cell x c e;exact⟨v,oc,old c oc e3,e4⟩
   .exact⟨_,e.2⟩
 . rcases bc.from' x c e with e|e;.exact I.jA x c e
   .exact I.hok.fresh (le_of_lt e.1)
 .show(σ++replicate n none).length=N'.length;rw[length_append,List.length_replicate,I.len,ok.len]
theorem tZ{prog:Program}{w:World}{A:Around}{R:Result->Shared->Prop}{elt target iter:Expr}{ifs:List Expr}{scope:Scope}{pos:Pos}{it acc:Value}{env:Env}(I:Nat->Shared->Prop)(turn:∀ n s,I n s->wpAny (model prog w) A (pyNext it) (fun r s₁=>match r with|none=>R (.ok .next) s₁|some v=>wpAny (model prog w) A (letOwnedTupleGo target it v) (fun _ s₁=>wpAny (model prog w) A (assign target env v) (fun _ s₂=>wpAny (model prog w) A (forIn ifs true fun c r=>if r=true then do let ok<-isTrue c env (eval c env);pure (ForInStep.yield ok)else pure (ForInStep.yield r)) (fun ok s₃=>if ok=true then wpAny (model prog w) A (eval elt env) (fun x s₄=>wpAny (model prog w) A (call (.builtin "list.append") [acc,x]) (fun _ s₅=>∃m,m<n/\I m s₅) (notedBy (model prog w) A env fun e s'=>R (.error e) s') s₄) (notedBy (model prog w) A env fun e s'=>R (.error e) s') s₃ else ∃m,m<n/\I m s₃) (notedBy (model prog w) A env fun e s'=>R (.error e) s') s₂) (notedBy (model prog w) A env fun e s'=>R (.error e) s') s₁) (notedBy (model prog w) A env fun e s'=>R (.error e) s') s₁) (notedBy (model prog w) A env fun e s'=>R (.error e) s') s)(n:Nat){s:Shared}(h:I n s):codeAny (model prog w) A (.compLoop (.ListComp elt [⟨target,iter,ifs,0⟩] scope pos) 0 it acc env) R s:=by refine codeAny_loop rfl I (fun n s hI=>?_) n h;show wpAny _ A ((compTurn (.ListComp elt [⟨target,iter,ifs,0⟩] scope pos) 0 it acc env).onRaise (fun x=>do noteFrame x env;theTreesLotGoes x)) _ _ s;refine wpAny_noted ?_;rw[compTurn_list];refine wpAny_bind (wpAny_standAt (wpAny_bind (wpAny_mono (turn n s hI) (fun r s₁ h₁=>?_) fun _ _ h'=>h')));cases r with|none=>exact wpAny_pure h₁|some v=>refine wpAny_bind (wpAny_mono h₁ (fun _ s₁ h₁=>?_) fun _ _ h'=>h');refine wpAny_bind (wpAny_mono h₁ (fun _ s₂ h₂=>wpAny_bind (wpAny_mono h₂ (fun ok s₃ h₃=>?_) fun _ _ h'=>h')) fun _ _ h'=>h');cases ok with|false=>exact wpAny_pure ⟨rfl,h₃⟩|true=>exact wpAny_bind (wpAny_bind (wpAny_mono h₃ (fun x s₄ h₄=>wpAny_bind (wpAny_mono h₄ (fun _ s₅ h₅=>wpAny_pure (wpAny_pure ⟨rfl,h₅⟩)) fun _ _ h'=>h')) fun _ _ h'=>h'))
def PL(X:Cx)(ifs:List Expr)(t:TT):Prop:=∀(pins:List (Addr × Obj))(s:Shared)(σ:L2.St)(H:Hp)(Q:Bool->Hp->Prop),Inv X pins σ H s->t σ H Q->wpAny (model X.prog X.w) X.A (forIn ifs true fun c r=>if r=true then do let ok<-isTrue c X.env (eval c X.env);pure (ForInStep.yield ok)else pure (ForInStep.yield r)) (TP X pins σ Q) X.xe s
theorem Kr{X:Cx}:PL X [] (fun _ H Q=>Q true H):=fun pins s σ H Q I h=>wpAny_tests_nil ⟨H,I,h⟩
theorem Jl{X:Cx}{c:Expr}{t:TT}(h:PT X c t):PL X [c] t:=fun pins s σ H Q I q=>wpAny_tests_one (h pins s σ H Q I q)
def Mq(J:It)(g:TG)(tt:TT)(te:TE)(D:Addr)(Q:Hp->Prop)(W:Nat->Nat->List V->L2.St->Hp->Prop):Prop:=∀ i m ys σ H,W i m ys σ H->H D=some (.lst ys)/\((J.stop i H/\Q H)\/(J.go i H/\∀ x H2,J.Ht i H x H2->g x σ H2 fun σ3 H3=>tt σ3 H3 fun b H4=>if b=true then te σ3 H4 fun y H5=>H5 D=some (.lst ys)/\ys.length<sizeLine/\∃m',m'<m/\W (i+1) m' (ys++[y]) σ3 (upd H5 D (.lst (ys++[y])))else ∃m',m'<m/\W (i+1) m' ys σ3 H4))
theorem sJ{E:Value->Shared->Prop}{elt target iter:Expr}{ifs:List Expr}{pos:Pos}{it:Addr}{tn:Nat->Heap->Prop}{J:It}{g:TG}{tt:TT}{te:TE}{Q:Addr->Hp->Prop}{RR:Value->Addr->Result->Shared->Prop}(hc:X.calm=true)(ok:fj X scope N' n)(I:Inv X pins σ H s)(hcl:∀n c,cl.lookup n=some c->X.env.cells.lookup n=some c)(yS:∀n,(n,NameKind.free)∈scope.names->(cl.lookup n).isSome)(T:Turn X.prog X.w X.K target J fp it tn)(h0:tn 0 s.heap)(hf:∀b∈fp,mK X pins H b)(hg:∀cl C s₀ H₀ ex,PG (rQ X scope N' cl C s₀ H₀ ex) target g)(ht:∀cl C s₀ H₀ ex,PL (rQ X scope N' cl C s₀ H₀ ex) ifs tt)(he:∀cl C s₀ H₀ ex,PE (rQ X scope N' cl C s₀ H₀ ex) elt te)(hw:∀D,H D=none->∃W,(∃m,W 0 m [] (σ++replicate n none) (upd H D (.lst [])))/\Mq J g tt te D (Q D) W)(hRR:∀D C s' H',Q D H'->(∃m,s'.heap.Ns C m)->mK X pins H' C->Inv X pins σ H' s'->RR (.ref D) C (.ok .next) s'):wpAny (model X.prog X.w) X.A (newList []) (fun acc s₃=>wpAny (model X.prog X.w) X.A (newFunctionEnv scope X.env.globals cl [] X.env.qual none .none (some X.env)) (fun cenv s₄=>codeAny (model X.prog X.w) X.A (.compStart (.ListComp elt [⟨target,iter,ifs,0⟩] scope pos) 0 (.ref it) acc {cenv with scope:=relabel scope X.env}) (RR acc cenv.locals) s₄) E s₃) E s:=by
 refine wpAny_newObj_type (Ce ok (fun x c e=>?lt) I.ok.inj hcl yS (fun cs h₁ hns hold bc=>?_));case lt=>obtain⟨v,z⟩:=I.cell x c e;exact lt_of_lt_of_le z.lt (by show _<=(s.heap.push _).objs.size;rw[size_push];exact le_succ _)
 dsimp only at hns hold bc ⊢--the new list,tracked
 have I3:Inv X pins σ (upd H s.heap.objs.size (.lst [])) {s with heap:=s.heap.push {cls:=.type "list",data:=.seq ([]:List Value).toArray}}:=I.O2 (t':=s.toks) .nil (zero_le _);generalize hs3:({s with heap:=s.heap.push {cls:=.type "list",data:=.seq ([]:List Value).toArray}}:Shared)=s3 at I3;have hsz:s3.heap.objs.size=s.heap.objs.size+1:=by rw[<-hs3];exact size_push _ _
 have M7:s3.heap=s.heap.push {cls:=.type "list",data:=.seq ([]:List Value).toArray}:=by rw[<-hs3]
 obtain⟨W,⟨m0,w0⟩,turn⟩:=hw s.heap.objs.size I.fresh;have tnK:∀{h':Heap},(∀b o,s.heap.get? b=some o->h'.get? b=some o)->tn 0 h':=fun k=>T.keep _ _ _ h0 fun b hb o e=>k b o e;have Zm:∀b∈fp,mK X pins (upd H s.heap.objs.size (.lst [])) b/\b<s3.heap.objs.size:=fun b hb=>by obtain⟨o,e,_⟩:=T.obj 0 _ h0 b hb;have lt:=lt_size e;obtain⟨f1,f2⟩:=hf b hb;exact⟨⟨by rw[aD (ne_of_lt lt)];exact f1,f2⟩,by rw[hsz];exact lt_succ_of_lt lt⟩
 rw[<-M7]at hns hold bc ⊢;have I4:=FN (t:=s3.toks) ok I3 Zm bc hns hold;have W3:∀b o,s.heap.get? b=some o->h₁.get? b=some o:=fun b o e=>hold b o (by rw[M7];exact get?_push_of_some _ e);generalize hX:rQ X scope N' cs s3.heap.objs.size s3 (upd H s.heap.objs.size (.lst [])) fp=X' at I4;have hA:X'.A=X.A:=by rw[<-hX];rfl
 have hpr:X'.prog=X.prog:=by rw[<-hX];rfl
 have hwr:X'.w=X.w:=by rw[<-hX];rfl
 have hKK:X'.K=X.K:=by rw[<-hX];rfl
 have hcalm:X'.calm=true:=by rw[<-hX];exact hc
 have hxe:X'.xe=fun _ _=>False:=by rw[<-hX];rfl
 have henv:X'.env=compEnvC scope cs s3.heap.objs.size X.env:=by rw[<-hX];rfl
 have hg':PG X' target g:=by rw[<-hX];exact hg _ _ _ _ _
 have ht':PL X' ifs tt:=by rw[<-hX];exact ht _ _ _ _ _
 have he':PE X' elt te:=by rw[<-hX];exact he _ _ _ _ _
 have ff:∀{H':Hp}{b:Addr},b∈fp->H' b=none->mK X' [] H' b:=fun{H' b}hb hn=>by
  obtain⟨f,lt⟩:=Zm b hb;rw[<-hX];refine⟨hn,ne_of_lt lt,fun hfs=>?_,.inl hb,fun x c e=>?_,fun p hp=>by cases hp⟩
  . rcases mem_cons.mp (I3.tK b hfs)with h|h;.exact f.2.1 h
    .exact f.2.2.1 h
  . rcases bc.from' x c e with e|e;.exact f.2.2.2.2.1 x c e
    .rintro rfl;exact absurd (lt_trans e.1 lt) (lt_irrefl _)--behind the block
 have fin:∀{σ':L2.St}{H':Hp}{s':Shared},Inv X' [] σ' H' s'->Q s.heap.objs.size H'->RR (.ref s.heap.objs.size) s3.heap.objs.size (.ok .next) s':=fun{σ' H' s'}J' q=>by
  rw[<-hX]at J';have hC:H' s3.heap.objs.size=none:=J'.free;obtain⟨hh,gg,dd,tt',os'⟩:=s';have eos:os'=s3.os:=J'.os;subst eos;refine hRR _ _ _ H' q (let⟨m,hm,_⟩:=J'.loc;⟨m,hm⟩) ?_ (I3.call (h':=hh) (g':=gg) (d':=dd) (t':=tt') (ch:=fp) J'.base J'.hok J'.bare fun b hb=>?_);.exact I3.yf (le_refl _) hC
  .obtain⟨f,lt⟩:=Zm b hb;exact⟨f.2.2.2.1,f.2.1,f.2.2.2.2.1,f.2.2.2.2.2⟩
 have main:codeAny (model X.prog X.w) X.A (.compLoop (.ListComp elt [⟨target,iter,ifs,0⟩] scope pos) 0 (.ref it) (.ref s.heap.objs.size) X'.env) (RR (.ref s.heap.objs.size) s3.heap.objs.size) {s3 with heap:=h₁,toks:=s3.toks}:=by
  refine tZ (fun k s'=>∃i ys σ' H',Inv X' [] σ' H' s'/\tn i s'.heap/\(∀b∈fp,H' b=none)/\W i k ys σ' H') (fun k s5 hI=>?_) m0 ⟨0,[],_,_,I4,tnK W3,fun b hb=>(Zm b hb).1.1,w0⟩;obtain⟨i,ys,σ5,H5,I5,t5,f5,w5⟩:=hI;obtain⟨hD,hturn⟩:=turn i k ys σ5 H5 w5;have Zn:∀{Z:Value->Shared->Prop},∀(e:Value)(s':Shared),X'.xe e s'->Z e s':=fun e s' z=>by rw[hxe]at z;exact False.elim z
  rcases hturn with⟨stop,q⟩|⟨go,step⟩;.have z:=T.done X' hpr hwr hKK hcalm i [] s5 σ5 H5 (fun _ _=>False) I5 (fun b hb=>ff hb (f5 b hb)) t5 stop;rw[hA]at z;refine wpAny_mono z (?_) fun _ _ z=>False.elim z;rintro r s6⟨hr,I6⟩;subst hr;exact fin I6 q
  . have z:=T.item X' hpr hwr hKK hcalm i [] s5 σ5 H5 (fun _ _=>False) I5 (fun b hb=>ff hb (f5 b hb)) t5 go;rw[hA]at z;refine wpAny_mono z (?_) fun _ _ z=>False.elim z;rintro r s6⟨u,hr,z6⟩;subst hr;refine wpAny_mono z6 (?_) fun _ _ z=>False.elim z;rintro _ s7⟨x,H7,I7,r7,y7,t7,f7⟩;have I7':=I7.pinned (fun b hb=>ff hb (f7 b hb)) (T.obj _ _ t7)--what the pins keep
    have back:∀{σ':L2.St}{H':Hp}{s':Shared},Inv X' ([]++qF fp s7.heap) σ' H' s'->Inv X' [] σ' H' s'/\tn (i+1) s'.heap/\∀b∈fp,H' b=none:=fun{σ' H' s'}J'=>by refine⟨J'.kO,T.keep _ _ _ t7 fun b hb o e=>(J'.pin (b,o) (mem_append_right _ (mem_append_right _ (iQ hb e)))).1,fun b hb=>?_⟩;obtain⟨o,e,_⟩:=T.obj _ _ t7 b hb;exact(J'.pin (b,o) (mem_append_right _ (mem_append_right _ (iQ hb e)))).2.1
    have z7:=hg' _ s7 σ5 H7 x u _ I7' r7 (step x H7 y7);rw[hA,hpr,hwr]at z7;refine wpAny_mono z7 (?_) Zn;rintro _ s8⟨σ8,H8,I8,q8⟩;have z8:=ht' _ s8 σ8 H8 _ I8 q8;rw[hA,hpr,hwr]at z8;refine wpAny_mono z8 (?_) Zn;rintro b s9⟨H9,I9,q9⟩;cases b with|false=>rw[if_neg Bool.false_ne_true]at q9 ⊢;obtain⟨m',hm,w'⟩:=q9;obtain⟨b1,b2,b3⟩:=back I9;exact⟨m',hm,i+1,ys,σ8,H9,b1,b2,b3,w'⟩|true=>rw[if_pos rfl]at q9 ⊢;have z9:=he' _ s9 σ8 H9 _ I9 q9;rw[hA,hpr,hwr]at z9;refine wpAny_mono z9 (?_) Zn;rintro y jJ⟨yv,H10,I10,r10,acC,hlen,m',hm,w'⟩;have z10:=mj _ jJ σ8 H10 (.ref s.heap.objs.size) [yv] (.ref s.heap.objs.size) [y] (fun v H11=>H11=upd H10 s.heap.objs.size (.lst (ys++[yv]))) I10 rfl (.cons r10 .nil) ⟨_,ys,yv,rfl,rfl,acC,hlen,rfl⟩;rw[hA,hpr,hwr]at z10;refine wpAny_mono z10 (?_) Zn;rintro _ Xo⟨_,H11,I11,_,e11⟩;subst e11;obtain⟨b1,b2,b3⟩:=back I11;exact⟨m',hm,i+1,ys++[yv],σ8,_,b1,b2,b3,w'⟩
 have e3:({s3 with heap:=h₁,toks:=s3.toks}:Shared)={s with heap:=h₁}:=by rw[<-hs3]
 rw[henv,e3]at main;exact codeAny_compStart_list main (T.self _ 0 _ _ _ (tnK W3) main)
end
section
variable{X:Cx}{elt target iter:Expr}{ifs:List Expr}{scope:Scope}{pos:Pos}{N':List Str}{n:Nat}{wi:TI}{g:TG}{tt:TT}{te:TE}
def rB(n:Nat)(wi:TI)(g:TG)(tt:TT)(te:TE):TE:=fun σ H Q=>wi σ H fun J H1=>∀D,H1 D=none->∃W,(∃m,W 0 m [] (σ++replicate n none) (upd H1 D (.lst [])))/\Mq J g tt te D (fun H'=>Q (.ref D) H') W
theorem kW{pins:List (Addr×Obj)}{σ:L2.St}{H:Hp}{s:Shared}(I:Inv X pins σ H s)(ok:fj X scope N' n):∃cl,closureFor scope X.env=pure cl/\(∀n c,cl.lookup n=some c->X.env.cells.lookup n=some c)/\∀n,(n,NameKind.free)∈scope.names->(cl.lookup n).isSome:=yg fun m hm=>I.ok.has m (ok.cap (m,.free) hm rfl)
theorem JX(hc:X.calm=true)(ok:fj X scope N' n)(hi:PI X target iter wi)(hg:∀cl C s₀ H₀ ex,PG (rQ X scope N' cl C s₀ H₀ ex) target g)(ht:∀cl C s₀ H₀ ex,PL (rQ X scope N' cl C s₀ H₀ ex) ifs tt)(he:∀cl C s₀ H₀ ex,PE (rQ X scope N' cl C s₀ H₀ ex) elt te)(hs:∀x,foldedSetIterable iter X.env x=pure x:=by intro _;rfl):PE X (.ListComp elt [⟨target,iter,ifs,0⟩] scope pos) (rB n wi g tt te):=by intro pins s σ H Q I h;obtain⟨cl,hclos,hcl,yS⟩:=kW I ok;rw[eval_ListComp];refine wpAny_comprehension_free (use:=none) rfl hs hclos ok.kind ok.names (cu (hi pins s σ H _ I h) fun v s1 h1=>cu h1 fun itv s2 h2=>?_);obtain⟨it,fp,tn,J,H2,rfl,I2,T,t0,f2,hw⟩:=h2;refine sJ (Q:=fun D H'=>Q (.ref D) H') (RR:=fun acc C=>compPost (model X.prog X.w) X.A X.xe none (EP X pins σ Q) acc C) hc ok I2 hcl yS T t0 f2 hg ht he hw fun D C s' H' q hm CG I'=>?_;obtain⟨m,hm⟩:=hm;refine⟨m,hm,fun h' hs'=>⟨.ref D,H',?_,rfl,q⟩⟩;exact I'.turned (t':=s'.toks) (fun b o hb e=>hs'.extBut b o hb e) CG.1 CG.2.1 CG.2.2.2.1 CG.2.2.2.2.1 CG.2.2.2.2.2
theorem zA{i:Nat}{x:Str}{pos' spos:Pos}(hc:X.calm=true)(hN:X.N.Nodup)(hx0:X.N[i]?=some x)(hx:Loc X.env.scope x)(ok:fj X scope N' n)(hi:PI X target iter wi)(hg:∀cl C s₀ H₀ ex,PG (rQ X scope N' cl C s₀ H₀ ex) target g)(ht:∀cl C s₀ H₀ ex,PL (rQ X scope N' cl C s₀ H₀ ex) ifs tt)(he:∀cl C s₀ H₀ ex,PE (rQ X scope N' cl C s₀ H₀ ex) elt te)(hsw:swapsWith (.ListComp elt [⟨target,iter,ifs,0⟩] scope pos) (some (.Name x pos')) spos.line X.env=pure true)(hs:∀x,foldedSetIterable iter X.env x=pure x:=by intro _;rfl)(hf:X.fn x=true\/X.env.scope.names.lookup x=some .local:=by first|exact .inl rfl|exact .inr rfl|assumption):PS X (.Assign [.Name x pos'] (.ListComp elt [⟨target,iter,ifs,0⟩] scope pos) spos) (Od (rB n wi g tt te) (jh i)):=by
 intro pins s σ H D I h;obtain⟨cl,hclos,hcl,yS⟩:=kW I ok;rw[exec_Assign_Name_used _ _ _ _ hsw];refine wpAny_bind (wpAny_standAt (wpAny_bind ?_));show wpAny _ X.A (do let _<-comprehension (.ListComp elt [⟨target,iter,ifs,0⟩] scope pos) scope X.env _ (newList []) false (eval iter X.env) (some (assign (.Name x pos') X.env))) _ _ s;refine wpAny_bind (wpAny_mono (wpAny_comprehension_free (use:=some (assign (.Name x pos') X.env)) (Q:=fun _ s'=>SP X pins D .next s') rfl hs hclos ok.kind ok.names (cu (hi pins s σ H _ I h) fun v s1 h1=>cu h1 fun itv s2 h2=>?_)) (fun _ s' hq=>wpAny_pure (wpAny_pure hq)) fun _ _ e=>e);obtain⟨it,fp,tn,J,H2,rfl,I2,T,t0,f2,hw⟩:=h2;refine sJ (Q:=fun Da H'=>D.nx (σ.set i (some (.ref Da))) H') (RR:=fun acc C=>compPost (model X.prog X.w) X.A X.xe (some (assign (.Name x pos') X.env)) (fun _ s'=>SP X pins D .next s') acc C) hc ok I2 hcl yS T t0 f2 hg ht he hw fun Da C s' H' q hm CG I'=>?_;obtain⟨m,hm⟩:=hm;show wpAny _ X.A (assign (.Name x pos') X.env (.ref Da)) _ _ _;refine wpAny_assign_Name (rA I' hN hx0 hx (show RelV (.ref Da) (.ref Da)from rfl) (?_) hf);rintro s'' I''⟨a,sb,ha⟩;have hCa:C≠a:=by
  rcases ha with rfl|ha;.exact CG.2.1
  .exact fun z=>CG.2.2.2.2.1 x a ha z.symm
 refine⟨m,hm.sameBut sb hCa,fun h' hs'=>⟨_,H',?_,q⟩⟩;exact I''.turned (t':=s''.toks) (fun b o hb e=>hs'.extBut b o hb e) CG.1 CG.2.1 CG.2.2.2.1 CG.2.2.2.2.1 CG.2.2.2.2.2
def aa1(K:PySem.W.Frag)(tl:TE):TI:=fun σ H R=>tl σ H fun x H1=>∃a,x=.ref a/\(((∃xs,dI K H1 a xs)/\R (NK K a) H1)\/((∃xs,gM K H1 a xs)/\R (Tz K a) H1))
theorem yl{tg l:Expr}{tl:TE}(hl:PE X l tl):PI X tg l (aa1 X.K tl):=by
 intro pins s σ H R I h;refine cu (hl pins s σ H _ I h) ?_;rintro v s1⟨x,H1,I1,r1,q1⟩;obtain⟨a,e,q1⟩:=q1;subst e;cases r1;rcases q1 with⟨⟨xs,hq⟩,q⟩|⟨⟨xs,hq⟩,q⟩
 . obtain⟨its,rv,p,hz⟩:=I1.list hq;refine wpAny_pyIter_list p.isList ?_;refine⟨s1.heap.objs.size,[s1.heap.objs.size],_,_,H1,rfl,I1.kept (t':=s1.toks) fun b o e=>get?_push_of_some _ e,By a _,⟨_,get?_push_size _ rfl,rfl,rfl⟩,fun b hb=>?_,q⟩;have e:b=s1.heap.objs.size:=by simpa using hb
   subst e;exact I1.yf (le_refl _) (I1.hok.fresh (le_refl _))
 . obtain⟨its,rv,p,hz⟩:=I1.tuple hq;refine wpAny_pyIter_tuple (show s1.heap.IsTuple a its.toArray from p) ?_;refine⟨s1.heap.objs.size,[s1.heap.objs.size],_,_,H1,rfl,I1.kept (t':=s1.toks) fun b o e=>get?_push_of_some _ e,yH a _,⟨_,get?_push_size _ rfl,rfl,rfl⟩,fun b hb=>?_,q⟩;have e:b=s1.heap.objs.size:=by simpa using hb
   subst e;exact I1.yf (le_refl _) (I1.hok.fresh (le_refl _))
end
end L2
end
section
namespace HH
open PySem L2 PySem.Spec PyProof.Rows
structure Walk(K:PySem.W.Frag)(F:Hp)(ρ:List Sl)(σ:L2.St)(H:Hp)(ul:List Sl->List Sl)(J:It)(ds:List D)(F1:Hp)(ρ1:List Sl)(H1:Hp):Prop where
 gs:GS K F1 ρ1 σ H1
 src:∀(n k:Nat)(F':Hp)(ρ':List Sl)(σ':L2.St)(H':Hp),aO K F1 (ρ1++replicate n .aZ) (σ++replicate n none) H1 F' ρ' σ' H'->(∀d,ds[k]?=some d->J.go k H'/\∀x jO,J.Ht k H' x jO->∃F'',Ext F' H' F'' jO/\Rep K F'' x d)/\(ds.length<=k->J.stop k H')fin:∀F2 ρ2 σ2 H2,aO K F1 ρ1 σ H1 F2 ρ2 σ2 H2->aO K F ρ σ H F2 (ul ρ2) σ2 H2/\∀v r,cL K F2 ρ2 σ2 H2 ρ1 σ H1 v r->cL K F2 (ul ρ2) σ2 H2 ρ σ H v r
inductive tIt(K:PySem.W.Frag)(iv:Option Nat)(f:Ev)(σ:L2.St)(H:Hp)(R:It->Hp->Prop):Prop where|mk(F:Hp)(ρ:List Sl)(ds:List D)(ρ1:List Sl)(g:GS K F ρ σ H)(e:srcOf iv f ρ=.ok ds ρ1)(k:∀J F1 H1,Walk K F ρ σ H (bC ρ iv) J ds F1 ρ1 H1->R J H1)
section
variable{K:PySem.W.Frag}{F F1 H H1:Hp}{ρ ρ1:List Sl}{σ:L2.St}{ds:List D}{a:Addr}
theorem Aa{xs:List V}{F' H':Hp}(hq:gM K H' a xs)(r:aG K F' xs ds)(s:aL F' H')(k:Nat):(∀d,ds[k]?=some d->(Tz K a).go k H'/\∀x jO,(Tz K a).Ht k H' x jO->∃F'',Ext F' H' F'' jO/\Rep K F'' x d)/\(ds.length<=k->(Tz K a).stop k H'):=by refine⟨fun d hd=>?_,fun h=>⟨xs,hq,by rw[r.length];exact h⟩⟩;obtain⟨w,h1,h2⟩:=r.get hd;refine⟨⟨xs,w,hq,h1⟩,?_⟩;rintro x jO⟨e,y⟩;subst e;have:=y xs hq;rw[h1]at this;cases this;exact⟨F',.refl s,h2⟩
theorem qy{xs:List V}{F' H':Hp}(hq:dI K H' a xs)(r:aG K F' xs ds)(s:aL F' H')(k:Nat):(∀d,ds[k]?=some d->(NK K a).go k H'/\∀x jO,(NK K a).Ht k H' x jO->∃F'',Ext F' H' F'' jO/\Rep K F'' x d)/\(ds.length<=k->(NK K a).stop k H'):=by refine⟨fun d hd=>?_,fun h=>⟨xs,hq,by rw[r.length];exact h⟩⟩;obtain⟨w,h1,h2⟩:=r.get hd;refine⟨⟨xs,w,hq,h1⟩,?_⟩;rintro x jO⟨e,y⟩;subst e;have:=y xs hq;rw[h1]at this;cases this;exact⟨F',.refl s,h2⟩
theorem wA{ul:List Sl->List Sl}{v:V}{d:D}(s:aO K F ρ σ H F1 ρ1 σ H1)(r:Rep K F1 v d)(hi:items d=some ds)(fin:∀F2 ρ2 σ2 H2,aO K F1 ρ1 σ H1 F2 ρ2 σ2 H2->aO K F ρ σ H F2 (ul ρ2) σ2 H2/\∀v r,cL K F2 ρ2 σ2 H2 ρ1 σ H1 v r->cL K F2 (ul ρ2) σ2 H2 ρ σ H v r):∃a,v=.ref a/\(((∃xs,dI K H1 a xs)/\Walk K F ρ σ H ul (NK K a) ds F1 ρ1 H1)\/((∃xs,gM K H1 a xs)/\Walk K F ρ σ H ul (Tz K a) ds F1 ρ1 H1)):=by cases d with|tup es=>cases hi;rw[Rep]at r;obtain⟨a,xs,rfl,h1,h2⟩:=r;exact⟨a,rfl,.inr ⟨⟨xs,aL.fO s.gs.sub h1⟩,s.gs,fun n k F' ρ' σ' H' s'=>Aa (aL.fO s'.gs.sub (aL.fO s'.cB h1)) (h2.mono s'.cB) s'.gs.sub k,fin⟩⟩|lst es=>cases hi;rw[Rep]at r;obtain⟨a,xs,rfl,h1,h2⟩:=r;exact⟨a,rfl,.inl ⟨⟨xs,s.gs.sub.seq h1⟩,s.gs,fun n k F' ρ' σ' H' s'=>qy (s'.gs.sub.seq (s'.cB.seq h1)) (h2.mono s'.cB) s'.gs.sub k,fin⟩⟩|_=>cases hi
theorem rJ{i:Nat}{ul:List Sl->List Sl}(g:GS K F ρ1 σ H)(e:ρ1[i]?=some (.lent ds))(fin:∀F2 ρ2 σ2 H2,aO K F ρ1 σ H F2 ρ2 σ2 H2->aO K F ρ σ H F2 (ul ρ2) σ2 H2/\∀v r,cL K F2 ρ2 σ2 H2 ρ1 σ H v r->cL K F2 (ul ρ2) σ2 H2 ρ σ H v r):∃a,σ[i]?=some (some (.ref a))/\(∃xs,dI K H a xs)/\Walk K F ρ σ H ul (NK K a) ds F ρ1 H:=by obtain⟨a,xs,h1,h2,h3,h4⟩:=g.qQ i _ ds e rfl;have hi:i<ρ1.length:=(List.getElem?_eq_some_iff.mp e).1;refine⟨a,h1,⟨xs,dI.of h2⟩,g,fun n k F' ρ' σ' H' s'=>?_,fin⟩;obtain⟨z1,t,z2,z3⟩:=s'.lk i _ (by rw[getElem?_append_left hi];exact e) rfl;cases(show t=.lent ds from z3);rw[getElem?_append_left (by rw[<-g.len];exact hi),h1]at z1;obtain⟨a',ys,w1,w2,w3,w4⟩:=s'.gs.qQ i _ ds z2 rfl;rw[z1]at w1;cases w1;exact qy (dI.of w2) w4 s'.gs.sub k
end
section
variable{X:Cx}{c:Call}{n:Nat}{e a b d tg:Expr}{p pa pb pd:P}{pos:Pos}
theorem kZ{t t':TI}(h:PI X tg e t)(i:∀σ H R,t' σ H R->t σ H R):PI X tg e t':=fun pins s σ H R I q=>h pins s σ H R I (i σ H R q)
def SI(X:Cx)(c:Call)(tg e:Expr)(p:P):Prop:=PI X tg e (tIt X.K (isVar p) (HH.ev c p))
theorem dg(h:SX X c e p):SI X c tg e p:=by unfold SI;cases hv:isVar p with|none=>refine kZ (yl h.ev) ?_;rintro σ H R⟨F,ρ,ds,ρ1,g,e,k⟩;obtain⟨r,ρ2,e1,e2⟩:=ak e;have zz:=aF e2;clear e2;obtain⟨e2,e3⟩:=zz;subst e3;refine⟨F,ρ,r,_,g,e1,fun v F' H' s rr=>?_⟩;obtain⟨F2,s2,_,rp⟩:=s.cU rr;obtain⟨a,ha,hw⟩:=wA (ul:=bC ρ none) s2 rp e2 fun F3 ρ3 σ3 H3 s3=>⟨s2.trans s3,fun v r rr=>rr.later s2⟩;exact⟨a,ha,hw.imp (fun⟨z,w⟩=>⟨z,k _ _ _ w⟩) (fun⟨z,w⟩=>⟨z,k _ _ _ w⟩)⟩|some i=>
   refine kZ (yl (h.var i hv)) ?_;rintro σ H R⟨F,ρ,ds,ρ1,g,e,k⟩;unfold srcOf at e;dsimp only at e;split at e
   . rename_i b d q;have zz:=aF e;clear e;obtain⟨e2,e3⟩:=zz;subst e3;obtain⟨v,h1,h2⟩:=g.val i b d q;have fin:∀F2 ρ2 σ2 H2,aO X.K F ρ σ H F2 ρ2 σ2 H2->aO X.K F ρ σ H F2 (bC ρ (some i) ρ2) σ2 H2/\∀v r,cL X.K F2 ρ2 σ2 H2 ρ σ H v r->cL X.K F2 (bC ρ (some i) ρ2) σ2 H2 ρ σ H v r:=fun F2 ρ2 σ2 H2 s=>by unfold bC;dsimp only;rw[q];exact⟨s,fun _ _ z=>z⟩
     obtain⟨a,ha,hw⟩:=wA (ul:=bC ρ (some i)) (.refl g) h2 e2 fin;exact⟨v,h1,a,ha,hw.imp (fun⟨z,w⟩=>⟨z,k _ _ _ w⟩) (fun⟨z,w⟩=>⟨z,k _ _ _ w⟩)⟩
   . rename_i b ds' q;cases e;have hi:i<ρ.length:=(List.getElem?_eq_some_iff.mp q).1;have fin:∀F2 ρ2 σ2 H2,aO X.K F (ρ.set i (.lent ds)) σ H F2 ρ2 σ2 H2->aO X.K F ρ σ H F2 (bC ρ (some i) ρ2) σ2 H2/\∀v r,cL X.K F2 ρ2 σ2 H2 (ρ.set i (.lent ds)) σ H v r->cL X.K F2 (bC ρ (some i) ρ2) σ2 H2 ρ σ H v r:=fun F2 ρ2 σ2 H2 s=>by unfold bC;dsimp only;rw[q];exact aO.bC g q s
     obtain⟨a,h1,hx,w⟩:=rJ (ul:=bC ρ (some i)) (g.lend q) (getElem?_set_self hi) fin;exact⟨_,h1,a,rfl,.inl ⟨hx,k _ _ _ w⟩⟩
   . rename_i ds' q;cases e;have fin:∀F2 ρ2 σ2 H2,aO X.K F ρ σ H F2 ρ2 σ2 H2->aO X.K F ρ σ H F2 (bC ρ (some i) ρ2) σ2 H2/\∀v r,cL X.K F2 ρ2 σ2 H2 ρ σ H v r->cL X.K F2 (bC ρ (some i) ρ2) σ2 H2 ρ σ H v r:=fun F2 ρ2 σ2 H2 s=>by unfold bC;dsimp only;rw[q];exact⟨s,fun _ _ z=>z⟩
     obtain⟨a,h1,hx,w⟩:=rJ (ul:=bC ρ (some i)) g q fin;exact⟨_,h1,a,rfl,.inl ⟨hx,k _ _ _ w⟩⟩
   .cases e
theorem vm{K:PySem.W.Frag}{F F1 H H1:Hp}{ρ ρ1:List Sl}{σ:L2.St}(s:aO K F ρ σ H F1 ρ1 σ H1)(i j:Int):Walk K F ρ σ H (bC ρ none) (Tg i (j-i).toNat) ((List.range (j-i).toNat).map fun(k:Nat)=>D.int (i+(k:Int))) F1 ρ1 H1:=by
 refine⟨s.gs,fun n k F' ρ' σ' H' s'=>⟨fun d hd=>?_,fun h=>?_⟩,fun F3 ρ3 σ3 H3 s3=>⟨s.trans s3,fun v r rr=>rr.later s⟩⟩;.rw[getElem?_map]at hd;obtain⟨m,e1,e2⟩:=map_some hd;obtain⟨h1,h2⟩:=List.getElem?_eq_some_iff.mp e1;rw[List.getElem_range]at h2;subst h2;subst e2;rw[length_range]at h1;refine⟨h1,?_⟩;rintro x jO⟨q1,q2⟩;subst q1;subst q2;exact⟨F',.refl s'.gs.sub,bT _⟩
 .rw[length_map,length_range]at h;exact h
theorem eO{x:Str}{p':Pos}(hx:x="range")(hg:Gl X x)(hm:X.mg x=none)(ha:SX X c a pa)(hs:starEach [a] X.env=[(false,eval a X.env)]:=by rfl):SI X c tg (.Call (.Name x p') [a] [] pos) (.oX (.con (.int 0)) pa):=by
 subst hx;obtain⟨ta,h1,h2⟩:=ha.dm;refine kZ (rG hg hm (cg h1 dR hs) hs) ?_;rintro σ H R⟨F,ρ,ds,ρ1,g,e,k⟩;obtain⟨r,ρ2,e1,e2⟩:=ak e;have zz:=aF e2;clear e2;obtain⟨e2,e3⟩:=zz;subst e3;rw[HH.E20]at e1;obtain⟨xy,ρ3,e4,e5⟩:=ak e1;have zz:=aF e5;clear e5;obtain⟨e5,e6⟩:=zz;subst e6;obtain⟨y0,ρ5,e9,e10⟩:=ak e4;cases e10;obtain⟨i,f1,e5⟩:=cz e5;obtain⟨j,f2,e5⟩:=cz e5;obtain⟨⟨b1,b2,b3,b4⟩,e5⟩:=bu e5;have f1:i=0:=by cases f1;rfl
 subst f1;subst e5;cases e2;cases cX f2;refine h2 g e9 fun v F' H' s pv=>⟨j,by rw[pv.int],by omega,by omega,?_⟩;have:=vm s 0 j;rw[sub_zero]at this;refine k _ F' H' ?_;rw[sub_zero];exact this
theorem uE{x:Str}{p':Pos}(hx:x="range")(hg:Gl X x)(hm:X.mg x=none)(ha:SX X c a pa)(hb:SX X c b pb)(hs:starEach [a,b] X.env=[(false,eval a X.env),(false,eval b X.env)]:=by rfl)(hs2:starEach [b] X.env=[(false,eval b X.env)]:=by rfl):SI X c tg (.Call (.Name x p') [a,b] [] pos) (.oX pa pb):=by subst hx;obtain⟨ta,tb,h1,h2,h3⟩:=ha.gY hb;refine kZ (Be hg hm (cg h1 (cg h2 dR hs2) (by rw[hs,hs2])) hs hs2) ?_;rintro σ H R⟨F,ρ,ds,ρ1,g,e,k⟩;obtain⟨r,ρ2,e1,e2⟩:=ak e;have zz:=aF e2;clear e2;obtain⟨e2,e3⟩:=zz;subst e3;rw[HH.E20]at e1;obtain⟨xy,ρ3,e4,e5⟩:=ak e1;have zz:=aF e5;clear e5;obtain⟨e5,e6⟩:=zz;subst e6;obtain⟨i,f1,e5⟩:=cz e5;obtain⟨j,f2,e5⟩:=cz e5;obtain⟨⟨b1,b2,b3,b4⟩,e5⟩:=bu e5;subst e5;cases e2;refine h3 g e4 fun v u F' H' s pv pu=>⟨i,j,?_,by omega,k _ F' H' (vm s i j)⟩;have e1:=cX f1;have e2:=cX f2;rw[e1]at pv;rw[e2]at pu;rw[pv.int,pu.int]
end
section
variable{X:Cx}{c:Call}{n:Nat}{e a b d tg iter:Expr}{p pa pb pd:P}{pos:Pos}{body:List Stmt}{ss:List S}
def Gz(K:PySem.W.Frag)(bd:List Sl->D->Option (List Sl))(g:TG):Prop:=∀(x:V)(d:D)(F:Hp)(ρ ρ':List Sl)(σ:L2.St)(H:Hp)(Q:L2.St->Hp->Prop),GS K F ρ σ H->Rep K F x d->bd ρ d=some ρ'->(∀σ',aO K F ρ σ H F ρ' σ' H->Q σ' H)->g x σ H Q
theorem uC{K:PySem.W.Frag}(i:Nat):Gz K (fun ρ d=>put ρ i (.val false d)) (jh i):=fun x d F ρ ρ' σ H Q g r h k=>k _ (aO.put (r:=.val d) (.refl g) r h)
theorem cj{K:PySem.W.Frag}:∀(is:List Nat)(gs:CP),(∀(xs:List V)(ds:List D)(F:Hp)(ρ ρ':List Sl)(σ:L2.St)(H:Hp)(Q:L2.St->Hp->Prop),GS K F ρ σ H->aG K F xs ds->putAll ρ is ds=some ρ'->(∀σ',aO K F ρ σ H F ρ' σ' H->Q σ' H)->gs xs σ H Q)->∀i,∀(xs:List V)(ds:List D)(F:Hp)(ρ ρ':List Sl)(σ:L2.St)(H:Hp)(Q:L2.St->Hp->Prop),GS K F ρ σ H->aG K F xs ds->putAll ρ (i::is) ds=some ρ'->(∀σ',aO K F ρ σ H F ρ' σ' H->Q σ' H)->Dj (jh i) gs xs σ H Q:=by intro is gs ih i xs ds F ρ ρ' σ H Q g r h k;cases ds with|nil=>simp[putAll]at h|cons d ds=>obtain⟨v,vs,rfl,h1,h2⟩:=r.bZ;rw[putAll]at h;obtain⟨ρ1,e1,e2⟩:=cz h;have s1:=aO.put (r:=.val d) (.refl g) h1 e1;refine⟨v,vs,rfl,ih vs ds F ρ1 ρ' _ H _ s1.gs h2 e2 fun σ' s2=>k σ' (s1.trans s2)⟩
theorem jC{K:PySem.W.Frag}:∀(xs:List V)(ds:List D)(F:Hp)(ρ ρ':List Sl)(σ:L2.St)(H:Hp)(Q:L2.St->Hp->Prop),GS K F ρ σ H->aG K F xs ds->putAll ρ [] ds=some ρ'->(∀σ',aO K F ρ σ H F ρ' σ' H->Q σ' H)->N5 xs σ H Q:=by intro xs ds F ρ ρ' σ H Q g r h k;cases ds with|nil=>rw[putAll]at h;cases h;exact⟨r.dX,k σ (.refl g)⟩|cons d ds=>simp[putAll]at h
theorem j6:∀{is:List Nat}{ds:List D}{ρ ρ':List Sl},putAll ρ is ds=some ρ'->ds.length=is.length|[],[],_,_,_=>rfl|[],_::_,_,_,h=>by simp[putAll]at h|_::_,[],_,_,h=>by simp[putAll]at h|i::is,d::ds,ρ,ρ',h=>by rw[putAll]at h;obtain⟨ρ1,e1,e2⟩:=cz h;simp[j6 e2]
theorem mC{K:PySem.W.Frag}{is:List Nat}{gs:CP}{m:Nat}(hm:m=is.length)(h:∀(xs:List V)(ds:List D)(F:Hp)(ρ ρ':List Sl)(σ:L2.St)(H:Hp)(Q:L2.St->Hp->Prop),GS K F ρ σ H->aG K F xs ds->putAll ρ is ds=some ρ'->(∀σ',aO K F ρ σ H F ρ' σ' H->Q σ' H)->gs xs σ H Q):Gz K (fun ρ d=>bW ρ is false d) (Qq K m gs):=by intro x d F ρ ρ' σ H Q g r hb k;replace hb:bW ρ is false d=some ρ':=hb;cases d with|tup ds=>replace hb:putAll ρ is ds=some ρ':=hb;rw[Rep]at r;obtain⟨a,xs,rfl,h1,h2⟩:=r;exact⟨a,xs,rfl,aL.fO g.sub h1,by rw[h2.length,j6 hb,hm],h xs _ F ρ ρ' σ H Q g h2 hb k⟩|_=>cases hb
theorem tu{g:TG}{is:List Nat}{one:Bool}(hp:PassesOwn (model X.prog X.w) X.A X.env X.xe)(hc:X.calm=true)(hi:SI X c tg iter p)(hg:PG X tg g)(hgo:Gz X.K (fun ρ d=>bW ρ is one d) g)(hb:SB X c n body ss)(hs:∀x,foldedSetIterable iter X.env x=pure x:=by intro _;rfl):SS X c n (.For tg iter body [] pos) (.gq p is one ss):=by
 refine fC (Gv hp hc hi hg hb hs) ?_;rintro D σ H⟨F,ρ,fl,ρ',g0,e,k⟩;rw[HH.X14]at e;obtain⟨ds,ρ1,e1,e⟩:=ak e;obtain⟨fl',ρ2,e2,e⟩:=ak e;cases e;refine⟨F,ρ,ds,ρ1,g0,e1,fun J F1 H1 w=>?_⟩;have src:∀(i:Nat)(F':Hp)(ρ':List Sl)(σ':L2.St)(H':Hp),aO X.K F1 ρ1 σ H1 F' ρ' σ' H'->(∀d,ds[i]?=some d->J.go i H'/\∀x jO,J.Ht i H' x jO->∃F'',Ext F' H' F'' jO/\Rep X.K F'' x d)/\(ds.length<=i->J.stop i H'):=fun i F' ρ' σ' H' s=>w.src 0 i F' ρ' σ' H' (by simpa using s);refine⟨fun i m σi Hi=>∃Fi ρi,aO X.K F1 ρ1 σ H1 Fi ρi σi Hi/\m=ds.length-i/\i<=ds.length/\gW is one (gj c n ss) (ds.drop i) ρi=.ok fl ρ2,⟨_,F1,ρ1,.refl w.gs,rfl,zero_le _,e2⟩,?_⟩;rintro i m σi Hi⟨Fi,ρi,si,rfl,hle,ei⟩;obtain⟨s1,s2⟩:=src i Fi ρi σi Hi si;by_cases hlt:i<ds.length
 . right;have hd:ds[i]?=some ds[i]:=by simp[hlt]
   obtain⟨go,step⟩:=s1 _ hd;refine⟨go,fun σ' H'=>∃m',m'<ds.length-i/\∃Fi ρi,aO X.K F1 ρ1 σ H1 Fi ρi σ' H'/\m'=ds.length-(i+1)/\i+1<=ds.length/\gW is one (gj c n ss) (ds.drop (i+1)) ρi=.ok fl ρ2,fun σ' H' z=>z,fun x H' y=>?_⟩;obtain⟨F2,ext,rx⟩:=step x H' y;have si2:=si.trans (ext.stp si.gs);rw[drop_eq_getElem_cons hlt,gW]at ei;cases hbd:bW ρi is one ds[i]with|none=>rw[hbd]at ei;cases ei|some ρb=>rw[hbd]at ei;obtain⟨flb,ρc,eb,ei⟩:=ak ei;refine hgo x _ F2 ρi ρb σi H' _ si2.gs rx hbd fun σ2 sb=>?_;have si3:=si2.trans sb;refine⟨F2,ρb,flb,ρc,si3.gs,eb,fun F4 σ4 H4 s4=>?_⟩;have Zo:=si3.trans s4;cases flb with|next=>exact⟨_,by omega,F4,ρc,Zo,rfl,hlt,ei⟩|cont=>exact⟨_,by omega,F4,ρc,Zo,rfl,hlt,ei⟩|brk=>cases ei;exact k F4 σ4 H4 (w.fin _ _ _ _ Zo).1|ret r=>cases ei;intro v rr;obtain⟨z1,z2⟩:=w.fin _ _ _ _ Zo;exact k F4 σ4 H4 z1 v (z2 v r (rr.later si3))
 . left;have hdr:ds.drop i=[]:=by rw[drop_eq_nil_iff];omega
   rw[hdr,gW]at ei;cases ei;exact⟨s2 (by omega),k Fi σi Hi (w.fin _ _ _ _ si).1⟩
theorem mD(i:Nat):(fun(ρ:List Sl)(d:D)=>bW ρ [i] true d)=fun ρ d=>put ρ i (.val false d):=by funext ρ d;rfl
theorem Jx{i:Nat}{x:Str}{pos':Pos}(hp:PassesOwn (model X.prog X.w) X.A X.env X.xe)(hc:X.calm=true)(hN:X.N.Nodup)(hx0:X.N[i]?=some x)(hx:Loc X.env.scope x)(hi:SI X c (.Name x pos') iter p)(hb:SB X c n body ss)(hs:∀x,foldedSetIterable iter X.env x=pure x:=by intro _;rfl)(hf:X.fn x=true\/X.env.scope.names.lookup x=some .local:=by first|exact .inl rfl|exact .inr rfl|assumption):SS X c n (.For (.Name x pos') iter body [] pos) (.gq p [i] true ss):=tu hp hc hi (aJ hN hx0 hx hf) (by rw[mD];exact uC i) hb hs
theorem yD(hp:PassesOwn (model X.prog X.w) X.A X.env X.xe)(ht:ST X c e p)(hb:SB X c n body ss):SS X c n (.While e body [] pos) (.whl p ss):=by refine fC (Fj hp ht hb) ?_;rintro D σ H⟨F,ρ,fl,ρ',g,e,k⟩;rw[HH.X15]at e;refine⟨fun m σi Hi=>∃Fi ρi,aO X.K F ρ σ H Fi ρi σi Hi/\qR (iy (HH.ev c p)) (gj c n ss) m ρi=.ok fl ρ',⟨n,F,ρ,.refl g,e⟩,?_⟩;rintro m σi Hi⟨Fi,ρi,si,ei⟩;cases m with|zero=>rw[qR]at ei;cases ei|succ m=>rw[qR]at ei;obtain⟨b,ρ1,e1,ei⟩:=ak ei;refine⟨Fi,ρi,b,ρ1,si.gs,e1,fun F1 H1 s1=>?_⟩;have s2:=si.trans s1;cases b with|false=>rw[if_neg Bool.false_ne_true]at ei;cases ei;exact k F1 σi H1 s2|true=>rw[if_pos rfl]at ei;obtain⟨flb,ρc,eb,ei⟩:=ak ei;refine(show ∃N:L2.St->Hp->Prop,_/\_ from⟨fun σ' H'=>∃m',m'<m+1/\∃Fi ρi,aO X.K F ρ σ H Fi ρi σ' H'/\qR (iy (HH.ev c p)) (gj c n ss) m' ρi=.ok fl ρ',fun σ' H' z=>z,F1,ρ1,flb,ρc,s2.gs,eb,fun F4 σ4 H4 s4=>?_⟩);have s5:=s2.trans s4;cases flb with|next=>exact⟨m,by omega,F4,ρc,s5,ei⟩|cont=>exact⟨m,by omega,F4,ρc,s5,ei⟩|brk=>cases ei;exact k F4 σ4 H4 s5|ret r=>cases ei;exact fun v rr=>k F4 σ4 H4 s5 v (rr.later s2)
end
section
variable{X:Cx}{c:Call}{n:Nat}{e elt tg iter:Expr}{p ps pe:P}{pos:Pos}{scope:Scope}{N':List Str}{ifs:List Expr}
theorem PX{t t':TE}(h:PE X e t)(i:∀σ H Q,σ.length=X.N.length->t' σ H Q->t σ H Q):PE X e t':=fun pins s σ H Q I q=>h pins s σ H Q I (i σ H Q I.len q)
theorem Q5{st:Stmt}{t t':TS}(h:PS X st t)(i:∀D σ H,σ.length=X.N.length->t' D σ H->t D σ H):PS X st t':=fun pins s σ H D I q=>h pins s σ H D I (i D σ H I.len q)
def nC(K:PySem.W.Frag)(m:Nat)(is:List Nat)(one:Bool)(g:TG):Prop:=∀(x:V)(d:D)(F:Hp)(ρ ρ':List Sl)(σ:L2.St)(H:Hp)(Q:L2.St->Hp->Prop),GS K F ρ σ H->Rep K F x d->bW ρ is one d=some ρ'->(∀σ',aO K F ρ σ H F ρ' σ' H->σ'.take m=σ.take m->Q σ' H)->g x σ H Q
theorem take_set{α:Type}{l:List α}{i m:Nat}{a:α}(h:m<=i):(l.set i a).take m=l.take m:=by rw[List.take_set_of_le h]
theorem cG{K:PySem.W.Frag}{i m:Nat}(h:m<=i):nC K m [i] true (jh i):=fun x d F ρ ρ' σ H Q g r hb k=>k _ (aO.put (r:=.val d) (.refl g) r hb) (take_set h)
def Ik(K:PySem.W.Frag)(m:Nat)(is:List Nat)(gs:CP):Prop:=∀(xs:List V)(ds:List D)(F:Hp)(ρ ρ':List Sl)(σ:L2.St)(H:Hp)(Q:L2.St->Hp->Prop),GS K F ρ σ H->aG K F xs ds->putAll ρ is ds=some ρ'->(∀σ',aO K F ρ σ H F ρ' σ' H->σ'.take m=σ.take m->Q σ' H)->gs xs σ H Q
theorem eZ{K:PySem.W.Frag}{m i:Nat}{is:List Nat}{gs:CP}(hi:m<=i)(ih:Ik K m is gs):Ik K m (i::is) (Dj (jh i) gs):=by intro xs ds F ρ ρ' σ H Q g r h k;cases ds with|nil=>simp[putAll]at h|cons d ds=>obtain⟨v,vs,rfl,h1,h2⟩:=r.bZ;rw[putAll]at h;obtain⟨ρ1,e1,e2⟩:=cz h;have s1:=aO.put (r:=.val d) (.refl g) h1 e1;exact⟨v,vs,rfl,ih vs ds F ρ1 ρ' _ H _ s1.gs h2 e2 fun σ' s2 z=>k σ' (s1.trans s2) (z.trans (take_set hi))⟩
theorem ou{K:PySem.W.Frag}{m:Nat}:Ik K m [] N5:=by intro xs ds F ρ ρ' σ H Q g r h k;cases ds with|nil=>rw[putAll]at h;cases h;exact⟨r.dX,k σ (.refl g) rfl⟩|cons d ds=>simp[putAll]at h
theorem oO{K:PySem.W.Frag}{is:List Nat}{gs:CP}{m l:Nat}(hm:l=is.length)(h:Ik K m is gs):nC K m is false (Qq K l gs):=by intro x d F ρ ρ' σ H Q g r hb k;cases d with|tup ds=>replace hb:putAll ρ is ds=some ρ':=hb;rw[Rep]at r;obtain⟨a,xs,rfl,h1,h2⟩:=r;exact⟨a,xs,rfl,aL.fO g.sub h1,by rw[h2.length,j6 hb,hm],h xs _ F ρ ρ' σ H Q g h2 hb k⟩|_=>cases hb
def SQ(X:Cx)(c:Call)(ifs:List Expr)(t:Option P):Prop:=PL X ifs (Hb X.K (lr c t))
theorem dD:SQ X c [] none:=fun pins s σ H Q I⟨F,ρ,k,ρ',g,e,q⟩=>by rw[lr]at e;cases e;exact Kr pins s σ H Q I (q F H (.refl g))
theorem jD(h:ST X c e p):SQ X c [e] (some p):=fun pins s σ H Q I⟨F,ρ,k,ρ',g,e,q⟩=>by rw[lr]at e;exact Jl h pins s σ H Q I ⟨F,ρ,k,ρ',g,e,q⟩
theorem aO.Du{K:PySem.W.Frag}{F H F1 H1:Hp}{ρ ρ1:List Sl}{σ σ1:L2.St}{Da:Addr}{o:HO}(s:aO K F ρ σ H F1 ρ1 σ1 H1)(h:H Da=none)(hf:F1 Da=none)(ho:¬ Own ρ1 σ1 Da):aO K F ρ σ H F1 ρ1 σ1 (upd H1 Da o):=by
 refine⟨⟨fun b u e=>?_,s.gs.len,s.gs.val,fun i t ds e e'=>?_,s.gs.dis⟩,s.cB,s.wW,fun b u e n=>?_,s.uX,s.len,s.lk⟩
 . have:b≠Da:=by rintro rfl;rw[hf]at e;cases e
   rw[aD this];exact s.gs.sub b u e
 . obtain⟨a,xs,q1,q2,q3,q4⟩:=s.gs.own i t ds e e';have:a≠Da:=by rintro rfl;exact ho ⟨i,⟨t,ds,e,e'⟩,q1⟩
   exact⟨a,xs,q1,by rw[aD this];exact q2,q3,q4⟩
 . have:b≠Da:=by rintro rfl;rw[h]at e;cases e
   rw[aD this];exact s.keep b u e n
theorem DP{K:PySem.W.Frag}{F H:Hp}{ρ ρ1 ρ2:List Sl}{σ:L2.St}{ul:List Sl->List Sl}{ti:TI}{is:List Nat}{one:Bool}{test:List Sl->Res Bool}{el:Ev}{g:TG}{Q:VK}{ds xs:List D}{m:Nat}(hm:σ.length=m)(hgo:nC K m is one g)(hti:∀R:It->Hp->Prop,(∀J F1 H1,Walk K F ρ σ H ul J ds F1 ρ1 H1->R J H1)->ti σ H R)(hlim:ds.length<=lim)(e2:turns is one test el ds [] (ρ1++replicate n .aZ)=.ok xs ρ2)(k:∀v F' H',aO K F ρ σ H F' (ul (ρ2.take ρ1.length)) σ H'->cL K F' (ul (ρ2.take ρ1.length)) σ H' ρ σ H v (.own xs)->Q v H'):rB n ti g (Hb K test) (wG K el) σ H Q:=by
 refine hti _ fun J F1 H1 w Da Aq=>?_;have hl1:ρ1.length=σ.length:=w.gs.len;have gm:=w.gs.more (n:=n) (τ:=replicate n none) (by simp);have fD:F1 Da=none:=by cases q:F1 Da with|none=>rfl|some o=>rw[w.gs.sub Da o q]at Aq;cases Aq
 have nO:¬ Own (ρ1++replicate n .aZ) (σ++replicate n none) Da:=fun⟨i,⟨t,dt,q1,q2⟩,q3⟩=>by obtain⟨a,ys,z1,z2,_⟩:=gm.own i t dt q1 q2;rw[q3]at z1;cases z1;rw[Aq]at z2;cases z2
 refine⟨fun i mm ys σi Hi=>∃Fi ρi acc,aO K F1 (ρ1++replicate n .aZ) (σ++replicate n none) H1 Fi ρi σi Hi/\σi.take m=σ/\Hi Da=some (.lst ys)/\Fi Da=none/\¬ Own ρi σi Da/\aG K Fi ys acc/\acc.length<=i/\mm=ds.length-i/\i<=ds.length/\turns is one test el (ds.drop i) acc ρi=.ok xs ρ2,⟨_,F1,_,[],(aO.refl gm).Du Aq fD nO,by rw[List.take_append_of_le_length (by omega),List.take_of_length_le (by omega)],aY,fD,nO,.nil,zero_le _,rfl,zero_le _,e2⟩,?_⟩;rintro i mm ys σi Hi⟨Fi,ρi,acc,si,hσ,hD,hF,hO,rs,hacc,rfl,hle,ei⟩;refine⟨hD,?_⟩--what stays of the new list through a step
 have stay:∀{F2 H2:Hp}{ρ3:List Sl}{σ2:L2.St},aO K Fi ρi σi Hi F2 ρ3 σ2 H2->H2 Da=some (.lst ys)/\F2 Da=none/\¬ Own ρ3 σ2 Da:=fun{F2 H2 ρ3 σ2}s=>by
  refine⟨s.keep Da _ hD hO,?_,fun o=>?_⟩;.cases q:F2 Da with|none=>rfl|some o=>
      rcases s.wW Da hF (by rw[q];simp)with z|z;.exact absurd z hO
      .exact(GX hD z).elim
  . rcases s.uX Da o with z|z;.exact hO z
    .rw[hD]at z;cases z
 obtain⟨s1,s2⟩:=w.src n i Fi ρi σi Hi si;by_cases hlt:i<ds.length
 . right;have hd:ds[i]?=some ds[i]:=by simp[hlt]
   obtain⟨go,step⟩:=s1 _ hd;refine⟨go,fun x H2 y=>?_⟩;obtain⟨F2,ext,rx⟩:=step x H2 y;have t2:=ext.stp si.gs;rw[drop_eq_getElem_cons hlt,turns]at ei;cases hbd:bW ρi is one ds[i]with|none=>rw[hbd]at ei;cases ei|some ρb=>rw[hbd]at ei;obtain⟨bb,ρc,eb,ei⟩:=ak ei;refine hgo x _ F2 ρi ρb σi H2 _ t2.gs rx hbd fun σ2 sb htk=>?_;have t3:=t2.trans sb;refine⟨F2,ρb,bb,ρc,t3.gs,eb,fun F4 H4 s4=>?_⟩;have t4:=t3.trans s4;cases bb with|false=>rw[if_neg Bool.false_ne_true]at ei;obtain⟨y1,y2,y3⟩:=stay t4;exact⟨_,by omega,F4,ρc,acc,si.trans t4,htk.trans hσ,y1,y2,y3,rs.mono t4.cB,by omega,rfl,hlt,ei⟩|true=>
       rw[if_pos rfl]at ei;obtain⟨re,ρe,ee,ei⟩:=ak ei;refine(show wG K el σ2 H4 _ from⟨F4,ρc,re,ρe,t4.gs,ee,fun v F5 H5 s5 rr=>?_⟩);obtain⟨F6,s6,_,rp⟩:=s5.cU rr;have t6:=t4.trans s6;obtain⟨y1,y2,y3⟩:=stay t6;have hlen:ys.length<sizeLine:=by have h1:=rs.length;have h2:lim=sizeLine:=rfl;omega
       exact⟨y1,hlen,_,by omega,F6,ρe,acc++[re.d],(si.trans t6).Du Aq y2 y3,htk.trans hσ,aY,y2,y3,(rs.mono t6.cB).append (.cons rp .nil),by simp;omega,rfl,hlt,ei⟩
 . left;have hdr:ds.drop i=[]:=by rw[drop_eq_nil_iff];omega
   rw[hdr,turns]at ei;cases ei;refine⟨s2 (by omega),?_⟩;obtain⟨l1,l2⟩:=aO.less (m:=ρ1.length) rfl w.gs (by simp) si;have hst:σi.take ρ1.length=σ:=by rw[hl1,hm];exact hσ
   rw[hst]at l1;have rr:cL K Fi ρ2 σi Hi (ρ1++replicate n .aZ) (σ++replicate n none) H1 (.ref Da) (.own xs):=⟨Da,ys,rfl,hD,hF,rs,hO,.inr Aq⟩;have M8:=l2 _ _ rr;rw[hst]at M8;obtain⟨z1,z2⟩:=w.fin _ _ _ _ l1;exact k _ Fi Hi z1 (z2 _ _ M8)
theorem Af{K:PySem.W.Frag}{F H:Hp}{ρ:List Sl}{σ:L2.St}{iv:Option Nat}{f:Ev}{is:List Nat}{one:Bool}{test:List Sl->Res Bool}{el:Ev}{g:TG}{Q:VK}{r:R}{ρ':List Sl}{m:Nat}(hm:σ.length=m)(hgo:nC K m is one g)(g0:GS K F ρ σ H)(e:((srcOf iv f ρ).bind fun ds ρ₁=>if ds.length<=lim then(turns is one test el ds [] (ρ₁++replicate n .aZ)).bind fun xs ρ₂=>Res.ok (R.own xs) (bC ρ iv (ρ₂.take ρ₁.length))else .stuck)=.ok r ρ')(k:∀v F' H',aO K F ρ σ H F' ρ' σ H'->cL K F' ρ' σ H' ρ σ H v r->Q v H'):rB n (tIt K iv f) g (Hb K test) (wG K el) σ H Q:=by
 obtain⟨ds,ρ1,e1,e⟩:=ak e;split at e;.rename_i hlim;obtain⟨xs,ρ2,e2,e⟩:=ak e;cases e;exact DP hm hgo (fun R h=>⟨F,ρ,ds,ρ1,g0,e1,h⟩) hlim e2 k
 .cases e
theorem di{g:TG}{is:List Nat}{one:Bool}{t:Option P}(hc:X.calm=true)(ok:fj X scope N' n)(hi:SI X c tg iter ps)(hg:∀cl C s₀ H₀ ex,PG (rQ X scope N' cl C s₀ H₀ ex) tg g)(hgo:nC X.K X.N.length is one g)(ht:∀cl C s₀ H₀ ex,SQ (rQ X scope N' cl C s₀ H₀ ex) c ifs t)(he:∀cl C s₀ H₀ ex,SX (rQ X scope N' cl C s₀ H₀ ex) c elt pe)(hs:∀x,foldedSetIterable iter X.env x=pure x:=by intro _;rfl):SX X c (.ListComp elt [⟨tg,iter,ifs,0⟩] scope pos) (.comp ps n is one t pe):=by refine⟨PX (JX (tt:=Hb X.K (lr c t)) (te:=wG X.K (HH.ev c pe)) hc ok hi hg ht (fun cl C s₀ H₀ ex=>(he cl C s₀ H₀ ex).ev) hs) ?_,fun i h=>by cases h⟩;rintro σ H Q hl⟨F,ρ,r,ρ',g0,e,k⟩;rw[HH.E19]at e;exact Af hl hgo g0 e k
theorem oW{i:Nat}{x:Str}{pos' spos:Pos}{nn:Nat}{g:TG}{is:List Nat}{one:Bool}{t:Option P}(hc:X.calm=true)(hN:X.N.Nodup)(hx0:X.N[i]?=some x)(hx:Loc X.env.scope x)(ok:fj X scope N' n)(hi:SI X c tg iter ps)(hg:∀cl C s₀ H₀ ex,PG (rQ X scope N' cl C s₀ H₀ ex) tg g)(hgo:nC X.K X.N.length is one g)(ht:∀cl C s₀ H₀ ex,SQ (rQ X scope N' cl C s₀ H₀ ex) c ifs t)(he:∀cl C s₀ H₀ ex,SX (rQ X scope N' cl C s₀ H₀ ex) c elt pe)(hsw:swapsWith (.ListComp elt [⟨tg,iter,ifs,0⟩] scope pos) (some (.Name x pos')) spos.line X.env=pure true:=by rfl)(hs:∀x,foldedSetIterable iter X.env x=pure x:=by intro _;rfl)(hf:X.fn x=true\/X.env.scope.names.lookup x=some .local:=by first|exact .inl rfl|exact .inr rfl|assumption):SS X c nn (.Assign [.Name x pos'] (.ListComp elt [⟨tg,iter,ifs,0⟩] scope pos) spos) (.asg i (.comp ps n is one t pe)):=by refine Q5 (zA (tt:=Hb X.K (lr c t)) (te:=wG X.K (HH.ev c pe)) hc hN hx0 hx ok hi hg ht (fun cl C s₀ H₀ ex=>(he cl C s₀ H₀ ex).ev) hsw hs hf) ?_;rintro D σ H hl⟨F,ρ,fl,ρ',g0,e,k⟩;rw[HH.X6]at e;obtain⟨r,ρ1,e1,e⟩:=ak e;obtain⟨ρ2,ρ3,e2,e⟩:=ak e;cases e;have zz:=aF e2;clear e2;obtain⟨e2,e3⟩:=zz;rw[HH.E19]at e1;exact Af hl hgo g0 e1 fun v F1 H1 s1 rr=>k F1 _ H1 (s1.put rr e2)
end
section
variable{X:Cx}{c:Call}{n:Nat}{e a b d:Expr}{p pa pb pd:P}{pos:Pos}{es:List Expr}{ps:List P}
noncomputable def tyN:D->String|.non=>"NoneType"|.bl _=>"bool"|.int _=>"int"|.str _=>"str"|.tup _=>"tuple"|.lst _=>"list"|.dC _=>"dict"|.dv _ _=>"dict"
noncomputable def Wi:Ty->String|.none=>"NoneType"|.bool=>"bool"|.int=>"int"|.str=>"str"|.tuple=>"tuple"|.list=>"list"
theorem Vb(K:PySem.W.Frag)(t:Ty)(d:D):PySem.W.kitOne K (.type (tyN d)) (.type (Wi t))=some (cJ t d):=by cases t<;>cases d<;>rfl
theorem Wa{pins:List (Addr×Obj)}{σ:L2.St}{H F:Hp}{s:Shared}{x:V}{u:Value}{dt:D}(I:L2.Inv X pins σ H s)(sm:aL F H)(px:cY X.K F H x dt)(rx:RelV x u):(∃Hq,PySem.W.KitX X.K u (.type (tyN dt)) Hq/\Hq s.heap)/\u≠.builtin "__main__.__loader__#opaque":=by cases dt with|non=>rw[px.non]at rx;cases rx;exact⟨⟨_,PySem.W.kitx_none,trivial⟩,nofun⟩|bl y=>rw[px.bl]at rx;cases rx;exact⟨⟨_,PySem.W.kitx_bool,trivial⟩,nofun⟩|int i=>rw[px.int]at rx;obtain⟨t,rfl⟩:=rx;exact⟨⟨_,PySem.W.kitx_int,trivial⟩,nofun⟩|str y=>rw[px.str]at rx;obtain⟨t,rfl⟩:=rx;exact⟨⟨_,PySem.W.kitx_str,trivial⟩,nofun⟩|tup ds=>obtain⟨q,xs,rfl,hq,_⟩:=px.tup sm;cases rx;obtain⟨its,_,⟨o,h1,h2,_⟩,_⟩:=I.tuple hq;exact⟨⟨_,PySem.W.kitx_tuple,⟨o,h1,h2⟩⟩,nofun⟩|lst ds=>obtain⟨q,xs,rfl,hq,_⟩:=px.lst sm;cases rx;obtain⟨its,_,pl,_⟩:=I.list hq;obtain⟨o,h1,h2,_⟩:=pl.isList;exact⟨⟨_,PySem.W.kitx_list,⟨o,h1,h2⟩⟩,nofun⟩|dC m=>obtain⟨q,_,rfl,hq⟩:=px.dC sm;cases rx;obtain⟨o,h1,h2⟩:=Dp I hq;exact⟨⟨_,kitx_dict,⟨o,h1,h2⟩⟩,nofun⟩|dv ks ds=>obtain⟨q,_,vs,rfl,hq,_⟩:=px.dv sm;cases rx;obtain⟨o,h1,h2⟩:=Eh I hq;exact⟨⟨_,kitx_dict,⟨o,h1,h2⟩⟩,nofun⟩
theorem Qm(t:Ty):dN X (.builtin "isinstance") (fun xs H Q=>∃x F dt,xs=[x,.ty (Wi t)]/\aL F H/\cY X.K F H x dt/\Q (.bl (cJ t dt)) H):=by rintro pins s σ H xs us Q I r⟨x,F,dt,hx,sm,px,q⟩;subst hx;obtain⟨u,w',rfl,rx,rt⟩:=r.two;cases(show w'=Value.type (Wi t)from rt);obtain⟨⟨Hq,Z,hz⟩,hne⟩:=Wa I sm px rx;exact PySem.W.kia_one Z I.Q7 hz (Vb _ t dt) hne fun tk=>⟨.bl _,H,I.tok tk,rfl,q⟩
theorem G7:bootBuiltins "isinstance"=some (.builtin "isinstance"):=by decide+kernel
theorem FJ{x y:Str}{p' p2:Pos}(t:Ty)(hx:x="isinstance")(hg:Gl X x)(hm:X.mg x=none)(ha:SX X c a pa)(hgy:Gl X y)(hmy:X.mg y=none)(hy:bootBuiltins y=some (.type (Wi t)))(hny:y≠"__name__":=by decide)(hdy:(y==("__debug__":Str))=false:=by decide)(hs:starEach [a,.Name y p2] X.env=(false,eval a X.env)::starEach [.Name y p2] X.env:=by rfl):SX X c (.Call (.Name x p') [a,.Name y p2] [] pos) (.inst [t] pa):=by subst hx;obtain⟨ta,h1,h2⟩:=ha.dm;refine⟨eU (eX (Qm t) hg hm G7 (cg h1 (cg (J2 (v:=.ty (Wi t)) hgy hmy hy rfl hny hdy) dR) hs) (he:=hs)) ?_,fun i h=>by cases h⟩;rintro σ H Q⟨F,ρ,r,ρ',g,e,k⟩;rw[HH.E18]at e;obtain⟨dt,ρ1,e1,e⟩:=ak e;cases e;refine h2 g e1 fun v F' H' s pv=>⟨v,F',dt,rfl,s.gs.sub,pv,k _ F' H' s ?_⟩;show Rep X.K F' _ _;rw[any_cons,List.any_nil,Bool.or_false];exact gf _
inductive rBn(K:PySem.W.Frag)(f:List D->Option R)(xs:List V)(H:Hp)(Q:VK):Prop where|mk(F:Hp)(ds:List D)(r:R)(sm:aL F H)(rs:aG K F xs ds)(he:f ds=some r)(k:∀v F' H',Ext F H F' H'->cA K F' H' H v r->Q v H')
theorem Ur{E:Expr}{f:List D->Option R}{q:P}(hp:∀{t},PA X es t->PE X E (YX (rBn X.K f) t))(ha:SA X c es ps)(hq:∀ρ,HH.ev c q ρ=(evs c ps ρ).bind fun ds ρ=>lift (f ds) ρ)(hv:isVar q=none):SX X c E q:=by refine⟨eU (hp ha.1) ?_,fun i h=>by rw[hv]at h;cases h⟩;rintro σ H Q⟨F,ρ,r,ρ',g,e,k⟩;rw[hq]at e;obtain⟨ds,ρ1,e1,e2⟩:=ak e;have zz:=aF e2;clear e2;obtain⟨e2,e3⟩:=zz;subst e3;exact⟨F,ρ,ds,ρ1,g,e1,fun vs F' H' s rs=>⟨F',ds,r,s.gs.sub,rs,e2,fun w F2 H2 x rn=>k w F2 H2 (s.trans (x.stp s.gs)) (.later s (rn.nY s.gs))⟩⟩
theorem Uj{K:PySem.W.Frag}{F:Hp}{xs:List V}{i j:Int}(h:aG K F xs [.int i,.int j]):xs=[.int i,.int j]:=by obtain⟨v,r,rfl,h1,h2⟩:=h.bZ;obtain⟨u,r2,rfl,h3,h4⟩:=h2.bZ;rw[Rep]at h1 h3;rw[h1,h3,h4.dX]
theorem inv2{f:Xm}{g:Int->Int->Int}{ds:List D}{r:R}(h0:blt f []=none)(h1:∀a,blt f [a]=none)(h3:∀a b c l,blt f (a::b::c::l)=none)(hn:∀a b,dW a=false->blt f [a,b]=none)(hm:∀i b,dW b=false->blt f [.int i,b]=none)(hi:∀i j,blt f [.int i,.int j]=some (.val (.int (g i j))))(he:blt f ds=some r):∃i j,ds=[.int i,.int j]/\r=.val (.int (g i j)):=by
 rcases ds with _|⟨a,_|⟨b,_|⟨c,l⟩⟩⟩;.rw[h0]at he;cases he
 .rw[h1]at he;cases he
 . by_cases ha:dW a=true
   . obtain⟨i,rfl⟩:∃i,a=.int i:=by cases a<;>first|exact⟨_,rfl⟩|cases ha
     by_cases hb:dW b=true
     . obtain⟨j,rfl⟩:∃j,b=.int j:=by cases b<;>first|exact⟨_,rfl⟩|cases hb
       rw[hi]at he;cases he;exact⟨i,j,rfl,rfl⟩
     .rw[hm i b (by simpa using hb)]at he;cases he
   .rw[hn a b (by simpa using ha)]at he;cases he
 .rw[h3]at he;cases he
theorem O7(hc:X.calm=true):dN X (.builtin "max") (rBn X.K (blt .max2)):=by rintro pins s σ H xs us Q I r⟨F,ds,r',sm,rs,he,k⟩;obtain⟨i,j,rfl,rfl⟩:=inv2 (g:=fun i j=>if i<j then j else i) rfl (fun a=>by cases a<;>rfl) (fun a b c l=>by cases a<;>first|rfl|(cases b<;>rfl)) (fun a b h=>by cases a<;>first|rfl|cases h) (fun i b h=>by cases b<;>first|rfl|cases h) (fun _ _=>rfl) he;rw[Uj rs]at r;exact Cd hc pins s σ H _ us Q I r ⟨_,_,rfl,cA.dj sm (bT _) k⟩
theorem boot_min:bootBuiltins "min"=some (.builtin "min"):=by decide+kernel
theorem boot_max:bootBuiltins "max"=some (.builtin "max"):=by decide+kernel
theorem J5{x:Str}{p':Pos}(hx:x="max")(hc:X.calm=true)(hg:Gl X x)(hm:X.mg x=none)(ha:SA X c [a,b] [pa,pb])(hs:starEach [a,b] X.env=(false,eval a X.env)::starEach [b] X.env:=by rfl)(hpl:(backTo pos (starEach [b] X.env)).any (·.1)=false:=by rfl):SX X c (.Call (.Name x p') [a,b] [] pos) (.blt .max2 [pa,pb]):=by subst hx;exact Ur (fun h=>eX (O7 hc) hg hm boot_max h (he:=hs) (hpl:=hpl)) ha (fun ρ=>rfl) rfl
end
section
variable{X:Cx}{c:Call}{n:Nat}{e a b d:Expr}{p pa pb pd:P}{pos:Pos}{es:List Expr}{ps:List P}
theorem zx{K:PySem.W.Frag}{F H:Hp}{ρ:List Sl}{σ:L2.St}{i:Nat}{ds:List D}(g:GS K F ρ σ H)(h:CN ρ i=some ds):∃a xs,σ[i]?=some (some (V.ref a))/\dI K H a xs:=by
 unfold CN at h;split at h;.rename_i q;cases h;obtain⟨v,h1,h2⟩:=g.pk q;obtain⟨a,xs,rfl,h3,_⟩:=h2.lst g.sub;exact⟨a,xs,h1,h3⟩
 .cases h
theorem iw{x:Str}{k:Nat}{px tpos:Pos}(hN:X.N[k]?=some x)(hv:zW X.env.scope x)(hi:SX X c b pb)(he:SX X c e p)(ha:∀ v,assign (.Subscript (.Name x px) b tpos) X.env v=(do
  let ov<-holding [v] (eval (.Name x px) X.env)let iv<-holding [v,ov] (eval b X.env)standAt tpos
  holding [v,ov,iv] (setItem ov iv v)release [v,ov,iv] []):=by intro _;rfl)(hs:swapsWithSole [.Subscript (.Name x px) b tpos] e pos.line X.env=pure false:=by rfl)(hw:swappedStores [.Subscript (.Name x px) b tpos] e X.env=pure none:=by rfl)(h1:(assignEach [.Subscript (.Name x px) b tpos] X.env).map (·.2)=[assign (.Subscript (.Name x px) b tpos) X.env]:=by rfl)(hd:(x==("__debug__":Str))=false:=by decide)(hcd:(x==("__classdict__":Str))=false:=by decide):SS X c n (.Assign [.Subscript (.Name x px) b tpos] e pos) (.qY k pb p):=by
 obtain⟨ti,hi1,hi2⟩:=hi.dm;refine fC (DG he.ev (Pa (gO hN hv hd hcd) hi1 set_list ha) hs hw h1) ?_;rintro D σ H⟨F,ρ,fl,ρ',g,e,kk⟩;rw[HH.X9]at e;obtain⟨r,ρ1,e1,e⟩:=ak e;obtain⟨x0,ρ1',e0,e⟩:=ak e;have zz:=aF e0;clear e0;obtain⟨e0,Hx⟩:=zz;subst Hx;obtain⟨dk,ρ2,e2,e⟩:=ak e;refine⟨F,ρ,r,ρ1,g,e1,fun v F1 H1 s1 rr=>?_⟩;obtain⟨F2,s2,_,rp⟩:=s1.cU rr;obtain⟨o,ho,_⟩:=s2.gs.pk e0;refine⟨o,ho,hi2 s2.gs e2 fun vi F3 H3 s3 pi=>?_⟩;split at e
 . rename_i bb ds kk' q;split at e;.rename_i j hj;cases e;obtain⟨ad,xs,q1,q2,q3,q4⟩:=s3.gs.qQ k _ ds q rfl;rw[ho]at q1;cases q1;refine⟨ad,xs,kk',j,rfl,pi.int,q2,by rw[q4.length];exact hj,?_⟩;exact kk F3 σ _ ((s2.trans s3).trans (s3.gs.mut q ho (q4.set (rp.mono s3.cB) j)))
   .cases e
 .cases e
theorem gC{x:Str}{k:Nat}{px apos cpos:Pos}(hN:X.N[k]?=some x)(hv:zW X.env.scope x)(he:SX X c e p)(hline:(apos.endLine==cpos.line)=true:=by rfl)(hs:starEach [e] X.env=(false,eval e X.env)::starEach [] X.env:=by rfl)(hbase:attributeBase (.Name x px) "append" X.env (eval (.Name x px) X.env)=eval (.Name x px) X.env:=by rfl)(hfew:((backTo cpos (starEach [e] X.env)).all (fun x=>!x.1)&&(backToKw cpos (keywordEach [] X.env)).all (fun x=>x.1.isSome)&&decide ([e].length+([]:List Keyword).length+(if([]:List Keyword).isEmpty then 0 else 1)<30))=true:=by rfl)(hsw:swapsWith (.Call (.Attribute (.Name x px) "append" apos) [e] [] cpos) none pos.line X.env=pure false:=by rfl)(hd:(x==("__debug__":Str))=false:=by decide)(hcd:(x==("__classdict__":Str))=false:=by decide):SS X c n (.Expr (.Call (.Attribute (.Name x px) "append" apos) [e] [] cpos) pos) (.app k p):=by
 refine fC (zJ (Lj PySem.F.plainAttrs_list PySem.F.slot_list_append PySem.F.type_list_append mj (gO hN hv hd hcd) (cg he.ev dR hs) hbase hfew hline hs) hsw) ?_;rintro D σ H⟨F,ρ,fl,ρ',g,e,kk⟩;rw[HH.X10]at e;obtain⟨d0,ρ0,e0,e⟩:=ak e;have zz:=aF e0;clear e0;obtain⟨e0,Hx⟩:=zz;subst Hx;obtain⟨r,ρ1,e1,e⟩:=ak e;obtain⟨a,xs,h1,h2⟩:=zx g e0;refine⟨.ref a,h1,.inl ⟨rfl,xs,h2⟩,F,ρ,r,ρ1,g,e1,fun v F1 H1 s1 rr=>?_⟩;obtain⟨F2,s2,_,rp⟩:=s1.cU rr;split at e
 . rename_i bb ds q;split at e;.rename_i hlt;cases e;obtain⟨ad,ys,q1,q2,q3,q4⟩:=s2.gs.qQ k _ ds q rfl;rw[h1]at q1;cases q1;exact⟨_,ys,v,rfl,rfl,q2,by rw[q4.length];exact hlt,kk F2 σ _ (s2.trans (s2.gs.mut q h1 (q4.append (.cons rp .nil))))⟩
   .cases e
 .cases e
theorem OD{i j:Nat}{x y:Str}{px py pt:Pos}{kt k2 Rt}(hc:X.calm=true)(hN:X.N.Nodup)(hi:X.N[i]?=some x)(hj:X.N[j]?=some y)(hij:i≠j)(hx:X.env.scope.names.lookup x=some .local)(hy:X.env.scope.names.lookup y=some .local)(ha:SX X c a pa)(hb:SX X c b pb)(hw:swappedStores [.Tuple [.Name x px,.Name y py] kt pt] (.Tuple [a,b] k2 Rt) X.env=pure (some [x,y]):=by rfl)(hs:swapsWithSole [.Tuple [.Name x px,.Name y py] kt pt] (.Tuple [a,b] k2 Rt) pos.line X.env=pure false:=by rfl)(h1:starEach [a,b] X.env=(false,eval a X.env)::starEach [b] X.env:=by rfl)(h2:starEach [b] X.env=(false,eval b X.env)::starEach [] X.env:=by rfl):SS X c n (.Assign [.Tuple [.Name x px,.Name y py] kt pt] (.Tuple [a,b] k2 Rt) pos) (.par i j pa pb):=by refine fC (L2.QR hc hN hi hj hij hx hy (cg ha.ev (cg hb.ev dR h2) h1) hw hs) ?_;rintro D σ H⟨F,ρ,fl,ρ',g,e,k⟩;rw[HH.X7]at e;obtain⟨r,ρ1,e1,e⟩:=ak e;obtain⟨r2,ρ2,e2,e⟩:=ak e;obtain⟨ρ3,ρ4,e3,e⟩:=ak e;cases e;have zz:=aF e3;clear e3;obtain⟨e3,e4⟩:=zz;obtain⟨ρ5,e5,e6⟩:=cz e3;refine⟨F,ρ,r,ρ1,g,e1,fun v F1 H1 s1 rr=>?_⟩;obtain⟨F2,s2,_,rp⟩:=s1.cU rr;refine⟨F2,ρ1,r2,ρ2,s2.gs,e2,fun u F3 H3 s3 rr3=>?_⟩;obtain⟨F4,s4,_,rp4⟩:=s3.cU rr3;refine⟨v,u,rfl,?_⟩;have t4:=s2.trans s4;have t5:=t4.put (r:=.val r.d) (v:=v) (rp.mono s4.cB) e5;exact k F4 _ H3 (t5.put (r:=.val r2.d) (v:=u) rp4 e6)
theorem Eg{ds:List D}{bs:List Bool}(h:ds.mapM xV=some bs):ds=bs.map D.bl:=by induction ds generalizing bs with|nil=>simp at h;subst h;rfl|cons d ds ih=>rw[List.mapM_cons]at h;cases hd:xV d with|none=>rw[hd]at h;cases h|some k=>rw[hd]at h;cases hr:ds.mapM xV with|none=>rw[hr]at h;cases h|some r=>rw[hr]at h;cases h;rw[map_cons,<-ih hr,pL hd]
theorem zF{K:PySem.W.Frag}{F:Hp}:∀{bs:List Bool}{xs:List V},aG K F xs (bs.map D.bl)->xs=bs.map V.bl|[],_,h=>h.dX|k::bs,_,h=>by obtain⟨v,r,rfl,h1,h2⟩:=h.bZ;rw[Rep]at h1;rw[h1,zF h2];rfl
theorem zN:∀{bs:List Bool}{us:List Value},Vals (bs.map V.bl) us->us=bs.map Value.bool|[],_,h=>h.zero|k::bs,_,.cons r t=>by rw[map_cons,<-zN t,show _=_ from r]
theorem Jo{id:String}{f:List Bool->Bool}(hc:X.calm=true)(rule:∀{x:Value}{Q:Value->Shared->Prop}{s:Shared},wpAny (model X.prog X.w) X.A.in1 (pyIter x) (fun it s₂=>∃ I fp wr n P St tr,it=.ref I/\Walks X.prog X.w X.A.in1 I fp wr n P St/\St 0 s₂.heap/\TruthOf X.prog X.w X.A.in1 P tr/\∀h' tk,(∀b o,b∉wr->s₂.heap.get? b=some o->h'.get? b=some o)->Q (.bool (f ((List.range n).map tr))) {s₂ with heap:=h',toks:=tk}) X.xe s->wpAny (model X.prog X.w) X.A (call (.builtin id) [x]) Q X.xe s):dN X (.builtin id) (fun xs H Q=>∃p ys bs,xs=[.ref p]/\dI X.K H p ys/\ys=bs.map V.bl/\Q (.bl (f bs)) H):=by
 rintro pins s σ H xs us Q I r⟨p,ys,bs,hx,hq,hy,k⟩;subst hx;subst hy;obtain⟨u,rfl,rx⟩:=r.one;cases rx;obtain⟨its,rv,pl,hz⟩:=I.list hq;have hits:=zN rv;subst hits;refine rule (wpAny_pyIter_list pl.isList ?_);have hne:p≠s.heap.objs.size:=by obtain⟨o,h1,_⟩:=pl.isList;exact ne_of_lt (lt_size h1)
 refine⟨s.heap.objs.size,_,_,_,_,_,fun i=>bs.getD i false,rfl,Walks.list (prog:=X.prog) (w:=X.w) (A:=X.A.in1) (show X.A.in1.handled=none from I.ok.hd hc) s.heap.objs.size p hne (bs.map Value.bool).toArray,⟨⟨_,get?_push_size _ rfl,rfl,rfl⟩,?_⟩,?_,fun h' tk kp=>?_⟩;.obtain⟨o,h1,h2⟩:=pl.isList;exact⟨o,get?_push_of_some _ h1,h2⟩
 . intro i v s' Q' E' hP hQ;have hv:v=.bool (bs.getD i false):=by
    have hP:(bs.map Value.bool)[i]?=some v:=by simpa using hP
    rw[getElem?_map]at hP;obtain⟨k',e1,e2⟩:=map_some hP;rw[<-e2,List.getD_eq_getElem?_getD,e1];rfl
   subst hv;exact wpAny_truthy_bool hQ
 . have e:f ((List.range (bs.map Value.bool).toArray.size).map fun i=>bs.getD i false)=f bs:=by
    congr 1;apply List.ext_getElem;.simp
    .intro i h1 h2;simp at h1;simp[h1]
   rw[e];exact⟨.bl _,H,I.kept (fun b o z=>kp b o (by simp;exact ne_of_lt (lt_size z)) (get?_push_of_some _ z)),rfl,k⟩
theorem Vi(hc:X.calm=true):dN X (.builtin "all") (J1 X.K fun x=>blt .all [x]):=by rintro pins s σ H xs us Q I r⟨x,hx,F,d,r',sm,px,he,k⟩;obtain⟨bs,e1,he⟩:=map_some (show((xR d).bind fun ds=>ds.mapM xV).map _=some r' from he);subst he;obtain⟨ds,e2,e3⟩:=cz e1;have e4:=Eg e3;cases d with|lst es=>cases e2;obtain⟨p,ys,rfl,hq,rs⟩:=px.lst sm;rw[e4]at rs;refine Jo (f:=fun bs=>bs.all id) hc (fun h=>call_all_walk (wpAny_mono h (fun it s₂⟨I,fp,wr,n,P,Sx,tr,h1,h2,h3,h4,h5⟩=>⟨I,fp,wr,n,P,Sx,tr,h1,h2,h3,h4,fun h' tk kp=>?_⟩) fun _ _ z=>z)) pins s σ H xs us Q I r ⟨p,ys,bs,hx,hq,zF rs,cA.dj sm (gf _) k⟩;have z:=h5 h' tk kp;rw[all_map]at z;exact z|_=>cases e2
theorem boot_all:bootBuiltins "all"=some (.builtin "all"):=by decide+kernel
theorem yF{x:Str}{p':Pos}(hx:x="all")(hc:X.calm=true)(hg:Gl X x)(hm:X.mg x=none)(ha:SX X c a pa)(hs:starEach [a] X.env=(false,eval a X.env)::starEach [] X.env:=by rfl):SX X c (.Call (.Name x p') [a] [] pos) (.blt .all [pa]):=by subst hx;exact nu (fun h=>eX (Vi hc) hg hm boot_all h (he:=hs)) ha (fun ρ=>rfl) rfl hs
end
section
variable{K:PySem.W.Frag}
theorem jj:∀{xs ys:List D},xs.length≠ys.length->gQ xs ys=false|[],[],h=>absurd rfl h|[],_::_,_=>by simp[gQ]|_::_,[],_=>by simp[gQ]|x::xs,y::ys,h=>by rw[gQ,jj (xs:=xs) (ys:=ys) (by simpa using h),Bool.and_false]
theorem fU:∀{xs ys:List D},xs.length=ys.length->gQ xs ys=(List.range xs.length).all fun j=>jM (xs.getD j .non) (ys.getD j .non)|[],[],_=>by rw[gQ];rfl|[],_::_,h=>by simp at h|_::_,[],h=>by simp at h|x::xs,y::ys,h=>by rw[gQ,fU (xs:=xs) (ys:=ys) (by simpa using h),length_cons,List.range_succ_eq_map,all_cons,all_map];rfl
mutual
theorem uY:∀d:D,jM d d=true|.non=>rfl|.bl _=>by exact beq_self_eq_true _|.int _=>by exact beq_self_eq_true _|.str _=>by exact beq_self_eq_true _|.tup ds=>by exact jG ds|.lst ds=>by exact jG ds|.dC _=>by exact decide_eq_true rfl|.dv ks ds=>by rw[jM,jG ds];simp
theorem jG:∀ds:List D,gQ ds ds=true|[]=>by rw[gQ]|d::ds=>by rw[gQ,uY d,jG ds];rfl
end
theorem eV{F:Hp}{d e:D}{v:V}(hf:flat d=true)(h1:Rep K F v d)(h2:Rep K F v e):d=e:=by cases d with
 |tup _=>cases hf|lst _=>cases hf|dC _=>cases hf|dv _ _=>cases hf|non=>rw[Rep]at h1;subst h1;cases e with|non=>rfl|tup _=>rw[Rep]at h2;obtain⟨_,_,q,_⟩:=h2;cases q|lst _=>rw[Rep]at h2;obtain⟨_,_,q,_⟩:=h2;cases q|dC _=>rw[Rep]at h2;obtain⟨_,_,q,_⟩:=h2;cases q|dv _ _=>rw[Rep]at h2;obtain⟨_,_,_,q,_⟩:=h2;cases q|_=>rw[Rep]at h2;cases h2
 |bl k=>rw[Rep]at h1;subst h1;cases e with|bl _=>rw[Rep]at h2;cases h2;rfl|tup _=>rw[Rep]at h2;obtain⟨_,_,q,_⟩:=h2;cases q|lst _=>rw[Rep]at h2;obtain⟨_,_,q,_⟩:=h2;cases q|dC _=>rw[Rep]at h2;obtain⟨_,_,q,_⟩:=h2;cases q|dv _ _=>rw[Rep]at h2;obtain⟨_,_,_,q,_⟩:=h2;cases q|_=>rw[Rep]at h2;cases h2
 |int k=>rw[Rep]at h1;subst h1;cases e with|int _=>rw[Rep]at h2;cases h2;rfl|tup _=>rw[Rep]at h2;obtain⟨_,_,q,_⟩:=h2;cases q|lst _=>rw[Rep]at h2;obtain⟨_,_,q,_⟩:=h2;cases q|dC _=>rw[Rep]at h2;obtain⟨_,_,q,_⟩:=h2;cases q|dv _ _=>rw[Rep]at h2;obtain⟨_,_,_,q,_⟩:=h2;cases q|_=>rw[Rep]at h2;cases h2
 |str k=>rw[Rep]at h1;subst h1;cases e with|str _=>rw[Rep]at h2;cases h2;rfl|tup _=>rw[Rep]at h2;obtain⟨_,_,q,_⟩:=h2;cases q|lst _=>rw[Rep]at h2;obtain⟨_,_,q,_⟩:=h2;cases q|dC _=>rw[Rep]at h2;obtain⟨_,_,q,_⟩:=h2;cases q|dv _ _=>rw[Rep]at h2;obtain⟨_,_,_,q,_⟩:=h2;cases q|_=>rw[Rep]at h2;cases h2
theorem KD{X:Cx}{pins:List (Addr×Obj)}{σ:L2.St}{H F:Hp}{s:Shared}(I:L2.Inv X pins σ H s)(sm:aL F H):∀n:Nat,(∀d:D,du n d=true->∀(v:V)(e:D),Rep X.K F v d->Rep X.K F v e->d=e):=by
 have tl:∀{a:Addr}{xs ys:List V},gM X.K F a xs->dI X.K F a ys->False:=fun{a xs ys}h1 h2=>by obtain⟨_,_,⟨o,q1,q2,_⟩,_⟩:=I.tuple (aL.fO sm h1);obtain⟨_,_,pl,_⟩:=I.list (sm.seq h2);obtain⟨o',q3,q4,_⟩:=pl.isList;rw[q1]at q3;cases q3;rw[q2]at q4;exact absurd q4 (by decide)
 have dd:∀{a:Addr}{kvs:Dc},Rep X.K F (.ref a) (.dC kvs)->∃o,s.heap.get? a=some o/\o.cls=.type "dict":=fun{a kvs}h=>by rw[Rep]at h;obtain⟨a',_,q,hq⟩:=h;cases q;exact Dp I (sm _ _ hq)
 have td:∀{a:Addr}{xs:List V}{kvs:Dc},gM X.K F a xs->Rep X.K F (.ref a) (.dC kvs)->False:=fun{a xs kvs}h1 h2=>by obtain⟨_,_,⟨o,q1,q2,_⟩,_⟩:=I.tuple (aL.fO sm h1);obtain⟨o',q3,q4⟩:=dd h2;rw[q1]at q3;cases q3;rw[q2]at q4;exact absurd q4 (by decide)
 have ld:∀{a:Addr}{xs:List V}{kvs:Dc},dI X.K F a xs->Rep X.K F (.ref a) (.dC kvs)->False:=fun{a xs kvs}h1 h2=>by obtain⟨_,_,pl,_⟩:=I.list (sm.seq h1);obtain⟨o,q1,q2,_⟩:=pl.isList;obtain⟨o',q3,q4⟩:=dd h2;rw[q1]at q3;cases q3;rw[q2]at q4;exact absurd q4 (by decide)
 have dd2:∀{a:Addr}{ks:List Int}{es:List D},Rep X.K F (.ref a) (.dv ks es)->∃o,s.heap.get? a=some o/\o.cls=.type "dict":=fun{a ks es}h=>by rw[Rep]at h;obtain⟨a',_,_,q,hq,_⟩:=h;cases q;exact Eh I (sm _ _ hq)
 have td2:∀{a:Addr}{xs:List V}{ks:List Int}{es:List D},gM X.K F a xs->Rep X.K F (.ref a) (.dv ks es)->False:=fun{a xs ks es}h1 h2=>by obtain⟨_,_,⟨o,q1,q2,_⟩,_⟩:=I.tuple (aL.fO sm h1);obtain⟨o',q3,q4⟩:=dd2 h2;rw[q1]at q3;cases q3;rw[q2]at q4;exact absurd q4 (by decide)
 have ld2:∀{a:Addr}{xs:List V}{ks:List Int}{es:List D},dI X.K F a xs->Rep X.K F (.ref a) (.dv ks es)->False:=fun{a xs ks es}h1 h2=>by obtain⟨_,_,pl,_⟩:=I.list (sm.seq h1);obtain⟨o,q1,q2,_⟩:=pl.isList;obtain⟨o',q3,q4⟩:=dd2 h2;rw[q1]at q3;cases q3;rw[q2]at q4;exact absurd q4 (by decide)
 intro n;induction n with
 |zero=>intro d hd v e h1 h2;cases d with|tup _=>simp[du]at hd|lst _=>simp[du]at hd|dC _=>simp[du]at hd|dv _ _=>simp[du]at hd|non=>exact eV rfl h1 h2|bl k=>exact eV rfl h1 h2|int k=>exact eV rfl h1 h2|str k=>exact eV rfl h1 h2
 |succ n ih=>
   have all:∀{xs:List V}{ds es:List D},ds.all (du n)=true->aG X.K F xs ds->aG X.K F xs es->ds=es:=fun{xs ds}=>by induction ds generalizing xs with|nil=>intro es _ h1 h2;rw[h1.dX]at h2;have:=h2.length;exact(List.eq_nil_of_length_eq_zero this.symm).symm|cons d ds ih2=>intro es ha h1 h2;rw[all_cons,and_eq_true]at ha;obtain⟨v,r,rfl,q1,q2⟩:=h1.bZ;cases es with|nil=>cases h2.dX|cons e es=>obtain⟨v',r',q0,q3,q4⟩:=h2.bZ;cases q0;rw[ih d ha.1 v e q1 q3,ih2 ha.2 q2 q4]
   intro d hd v e h1 h2;cases d with
   |dC _=>simp[du]at hd|dv _ _=>simp[du]at hd|tup ds=>
     have ha:ds.all (du n)=true:=by simpa[du]using hd
     rw[Rep]at h1;obtain⟨a,xs,rfl,z1,z2⟩:=h1;cases e with|tup es=>rw[Rep]at h2;obtain⟨a',ys,q,w1,w2⟩:=h2;cases q;have:=I.jN (aL.fO sm z1) (aL.fO sm w1);subst this;rw[all ha z2 w2]|lst es=>rw[Rep]at h2;obtain⟨a',ys,q,w1,w2⟩:=h2;cases q;exact(tl z1 w1).elim|dC _=>exact(td z1 h2).elim|dv _ _=>exact(td2 z1 h2).elim|_=>rw[Rep]at h2;cases h2
   |lst ds=>
     have ha:ds.all (du n)=true:=by simpa[du]using hd
     rw[Rep]at h1;obtain⟨a,xs,rfl,z1,z2⟩:=h1;cases e with|lst es=>rw[Rep]at h2;obtain⟨a',ys,q,w1,w2⟩:=h2;cases q;have:=I.lV (sm.seq z1) (sm.seq w1);subst this;rw[all ha z2 w2]|tup es=>rw[Rep]at h2;obtain⟨a',ys,q,w1,w2⟩:=h2;cases q;exact(tl w1 z1).elim|dC _=>exact(ld z1 h2).elim|dv _ _=>exact(ld2 z1 h2).elim|_=>rw[Rep]at h2;cases h2
   |non=>exact eV rfl h1 h2|bl k=>exact eV rfl h1 h2|int k=>exact eV rfl h1 h2|str k=>exact eV rfl h1 h2
theorem zB{A:Around}{s:Shared}{F:Hp}{d e:D}{v u:V}{v' u':Value}(hd:flat d=true)(he:flat e=true)(h1:Rep K F v d)(h2:Rep K F u e)(r1:RelV v v')(r2:RelV u u'):SeqAt.EqAt A s v' u' (jM d e):=by cases d with
 |tup _=>cases hd|lst _=>cases hd|dC _=>cases hd|dv _ _=>cases hd|non=>rw[Rep]at h1;subst h1;cases(show v'=.none from r1);cases e with|tup _=>cases he|lst _=>cases he|dC _=>cases he|dv _ _=>cases he|non=>rw[Rep]at h2;subst h2;cases(show u'=.none from r2);exact SeqAt.EqAt.same _|bl _=>rw[Rep]at h2;subst h2;cases(show u'=.bool _ from r2);exact none_bool _|int _=>rw[Rep]at h2;subst h2;obtain⟨t,rfl⟩:=r2;exact none_int _ _|str _=>rw[Rep]at h2;subst h2;obtain⟨t,rfl⟩:=r2;exact none_str _ _
 |bl _=>rw[Rep]at h1;subst h1;cases(show v'=.bool _ from r1);cases e with|tup _=>cases he|lst _=>cases he|dC _=>cases he|dv _ _=>cases he|non=>rw[Rep]at h2;subst h2;cases(show u'=.none from r2);exact bool_none _|bl _=>rw[Rep]at h2;subst h2;cases(show u'=.bool _ from r2);exact bool_bool _ _|int _=>rw[Rep]at h2;subst h2;obtain⟨t,rfl⟩:=r2;exact bool_int _ _ _|str _=>rw[Rep]at h2;subst h2;obtain⟨t,rfl⟩:=r2;exact bool_str _ _ _
 |int _=>rw[Rep]at h1;subst h1;obtain⟨t0,rfl⟩:=r1;cases e with|tup _=>cases he|lst _=>cases he|dC _=>cases he|dv _ _=>cases he|non=>rw[Rep]at h2;subst h2;cases(show u'=.none from r2);exact int_none _ _|bl _=>rw[Rep]at h2;subst h2;cases(show u'=.bool _ from r2);exact int_bool _ _ _|int _=>rw[Rep]at h2;subst h2;obtain⟨t,rfl⟩:=r2;exact int_int _ _ _ _|str _=>rw[Rep]at h2;subst h2;obtain⟨t,rfl⟩:=r2;exact int_str _ _ _ _
 |str _=>rw[Rep]at h1;subst h1;obtain⟨t0,rfl⟩:=r1;cases e with|tup _=>cases he|lst _=>cases he|dC _=>cases he|dv _ _=>cases he|non=>rw[Rep]at h2;subst h2;cases(show u'=.none from r2);exact str_none _ _|bl _=>rw[Rep]at h2;subst h2;cases(show u'=.bool _ from r2);exact str_bool _ _ _|int _=>rw[Rep]at h2;subst h2;obtain⟨t,rfl⟩:=r2;exact str_int _ _ _ _|str _=>rw[Rep]at h2;subst h2;obtain⟨t,rfl⟩:=r2;exact str_str _ _ _ _
theorem lM{A:Around}{s:Shared}{F:Hp}{ds:List D}{e:D}{u:V}{u':Value}{a:Addr}{its:Array Value}(ht:s.heap.IsTuple a its)(hu:A.units<cLine)(he:flat e=true)(h2:Rep K F u e)(r2:RelV u u'):SeqAt.EqAt A s (.ref a) u' (jM (.tup ds) e)/\SeqAt.EqAt A s u' (.ref a) (jM e (.tup ds)):=by cases e with|tup _=>cases he|lst _=>cases he|dC _=>cases he|dv _ _=>cases he|non=>rw[Rep]at h2;subst h2;cases(show u'=.none from r2);exact⟨SeqAt.EqAt.tuple_none ht hu,SeqAt.EqAt.none_tuple ht hu⟩|bl _=>rw[Rep]at h2;subst h2;cases(show u'=.bool _ from r2);exact⟨SeqAt.EqAt.tuple_bool _ ht hu,SeqAt.EqAt.bool_tuple _ ht hu⟩|int _=>rw[Rep]at h2;subst h2;obtain⟨t,rfl⟩:=r2;exact⟨SeqAt.EqAt.tuple_int _ _ ht hu,SeqAt.EqAt.int_tuple _ _ ht hu⟩|str _=>rw[Rep]at h2;subst h2;obtain⟨t,rfl⟩:=r2;exact⟨SeqAt.EqAt.tuple_str _ _ ht hu,SeqAt.EqAt.str_tuple _ _ ht hu⟩
theorem lF{A:Around}{s:Shared}{F:Hp}{ds:List D}{e:D}{u:V}{u':Value}{a:Addr}{its:Array Value}(ht:s.heap.IsList a its)(hu:A.units<cLine)(he:flat e=true)(h2:Rep K F u e)(r2:RelV u u'):SeqAt.EqAt A s (.ref a) u' (jM (.lst ds) e)/\SeqAt.EqAt A s u' (.ref a) (jM e (.lst ds)):=by cases e with|tup _=>cases he|lst _=>cases he|dC _=>cases he|dv _ _=>cases he|non=>rw[Rep]at h2;subst h2;cases(show u'=.none from r2);exact⟨SeqAt.EqAt.list_none ht hu,SeqAt.EqAt.none_list ht hu⟩|bl _=>rw[Rep]at h2;subst h2;cases(show u'=.bool _ from r2);exact⟨SeqAt.EqAt.list_bool _ ht hu,SeqAt.EqAt.bool_list _ ht hu⟩|int _=>rw[Rep]at h2;subst h2;obtain⟨t,rfl⟩:=r2;exact⟨SeqAt.EqAt.list_int _ _ ht hu,SeqAt.EqAt.int_list _ _ ht hu⟩|str _=>rw[Rep]at h2;subst h2;obtain⟨t,rfl⟩:=r2;exact⟨SeqAt.EqAt.list_str _ _ ht hu,SeqAt.EqAt.str_list _ _ ht hu⟩
theorem wN{n:Nat}{d:D}(h:du n d=true)(h0:n=0):flat d=true:=by subst h0;cases d<;>first|rfl|simp[du]at h
theorem aaV{X:Cx}{pins:List (Addr×Obj)}{σ:L2.St}{H F:Hp}{s:Shared}(I:L2.Inv X pins σ H s)(sm:aL F H):∀(n:Nat)(A:Around),A.units+n<cLine->∀(d e:D),du n d=true->du n e=true->∀(v u:V)(v' u':Value),Rep X.K F v d->Rep X.K F u e->RelV v v'->RelV u u'->SeqAt.EqAt A s v' u' (jM d e):=by intro n;induction n with|zero=>intro A hu d e hd he v u v' u' h1 h2 r1 r2;exact zB (wN hd rfl) (wN he rfl) h1 h2 r1 r2|succ n ih=>
   intro A hu d e hd he v u v' u' h1 h2 r1 r2;have hu0:A.units<cLine:=by omega
   have hu1:A.in1.units+n<cLine:=by show A.units+1+n<cLine;omega--items by place
   have at_:∀{xs ys:List V}{us ws:List Value}{ds es:List D}{j:Nat}(k1:j<us.toArray.size)(k2:j<ws.toArray.size),ds.all (du n)=true->es.all (du n)=true->Vals xs us->Vals ys ws->aG X.K F xs ds->aG X.K F ys es->SeqAt.EqAt A.in1 s us.toArray[j] ws.toArray[j] (jM (ds.getD j .non) (es.getD j .non)):=fun{xs ys us ws ds es j}k1 k2 a1 a2 v1 v2 p1 p2=>by
    have k1:j<us.length:=by simpa using k1
    have k2:j<ws.length:=by simpa using k2
    have l1:j<ds.length:=by rw[<-p1.length,v1.length];exact k1
    have l2:j<es.length:=by rw[<-p2.length,v2.length];exact k2
    obtain⟨x,g1,g2⟩:=p1.get (show ds[j]?=some ds[j]by simp[l1]);obtain⟨y,g3,g4⟩:=p2.get (show es[j]?=some es[j]by simp[l2]);obtain⟨x',g5,g6⟩:=v1.get g1;obtain⟨y',g7,g8⟩:=v2.get g3;have e1:us.toArray[j]=x':=by have:=(List.getElem?_eq_some_iff.mp g5).2;simpa using this
    have e2:ws.toArray[j]=y':=by have:=(List.getElem?_eq_some_iff.mp g7).2;simpa using this
    have e3:ds.getD j .non=ds[j]:=by simp[getD,l1]
    have e4:es.getD j .non=es[j]:=by simp[getD,l2]
    rw[e1,e2,e3,e4];exact ih A.in1 hu1 _ _ (all_eq_true.mp a1 _ (getElem_mem l1)) (all_eq_true.mp a2 _ (getElem_mem l2)) x y x' y' g2 g4 g6 g8--the same object
   have same:∀{a:Addr},v=.ref a->u=.ref a->SeqAt.EqAt A s v' u' (jM d e):=fun{a}q1 q2=>by subst q1;subst q2;have:=KD I sm (n+1) d hd _ e h1 h2;subst this;rw[uY];cases r1;cases r2;exact SeqAt.EqAt.same _
   cases d with
   |dC _=>simp[du]at hd|dv _ _=>simp[du]at hd|tup ds=>
     have ha:ds.all (du n)=true:=by simpa[du]using hd
     have h1':=h1;rw[Rep]at h1';obtain⟨a,xs,rfl,z1,z2⟩:=h1';cases r1;obtain⟨us,v1,p1,_⟩:=I.tuple (aL.fO sm z1)
     cases e with|dC _=>simp[du]at he|dv _ _=>simp[du]at he|tup es=>
       have hb:es.all (du n)=true:=by simpa[du]using he
       have h2':=h2;rw[Rep]at h2';obtain⟨b,ys,rfl,w1,w2⟩:=h2';by_cases hab:a=b;.subst hab;exact same rfl rfl
       . cases r2;obtain⟨ws,v2,p2,_⟩:=I.tuple (aL.fO sm w1);refine .of_refs hab ?_;have z:=SeqAt.RcAt.tuples (A:=A) (e:=fun j=>jM (ds.getD j .non) (es.getD j .non)) p1 p2 hu0 fun j k1 k2=>at_ k1 k2 ha hb v1 v2 z2 w2;have l1:us.toArray.size=ds.length:=by rw[size_toArray,<-v1.length,z2.length]
         have l2:ws.toArray.size=es.length:=by rw[size_toArray,<-v2.length,w2.length]
         rw[l1,l2]at z;have e0:jM (.tup ds) (.tup es)=((List.range (min ds.length es.length)).all (fun j=>jM (ds.getD j .non) (es.getD j .non))&&ds.length==es.length):=by
          rw[pqt];by_cases hl:ds.length=es.length;.rw[fU hl,hl];simp
          . rw[jj hl];have:(ds.length==es.length)=false:=by simpa using hl
            rw[this,Bool.and_false]
         rw[e0];exact z|lst es=>rw[Rep]at h2;obtain⟨b,ys,rfl,w1,w2⟩:=h2;cases r2;obtain⟨ws,v2,p2,_⟩:=I.list (sm.seq w1);exact SeqAt.EqAt.tuple_list p1 p2.isList hu0|non=>exact(lM p1 hu0 rfl h2 r2).1|bl _=>exact(lM p1 hu0 rfl h2 r2).1|int _=>exact(lM p1 hu0 rfl h2 r2).1|str _=>exact(lM p1 hu0 rfl h2 r2).1
   |lst ds=>
     have ha:ds.all (du n)=true:=by simpa[du]using hd
     have h1':=h1;rw[Rep]at h1'
     obtain⟨a,xs,rfl,z1,z2⟩:=h1';cases r1;obtain⟨us,v1,p1,_⟩:=I.list (sm.seq z1);cases e with|dC _=>simp[du]at he|dv _ _=>simp[du]at he|lst es=>
       have hb:es.all (du n)=true:=by simpa[du]using he
       have h2':=h2;rw[Rep]at h2';obtain⟨b,ys,rfl,w1,w2⟩:=h2';by_cases hab:a=b;.subst hab;exact same rfl rfl
       . cases r2;obtain⟨ws,v2,p2,_⟩:=I.list (sm.seq w1);refine .of_refs hab ?_;have l1:us.toArray.size=ds.length:=by rw[size_toArray,<-v1.length,z2.length]
         have l2:ws.toArray.size=es.length:=by rw[size_toArray,<-v2.length,w2.length]
         rw[YJ];by_cases hl:ds.length=es.length;.have z:=SeqAt.RcAt.lists (A:=A) (e:=fun j=>jM (ds.getD j .non) (es.getD j .non)) p1.isList p2.isList (by rw[l1,l2,hl]) hu0 fun j k1 k2=>at_ k1 k2 ha hb v1 v2 z2 w2;rw[l1]at z;rw[fU hl];exact z
         .rw[jj hl];exact lists_lengths p1.isList p2.isList (by rw[l1,l2];simpa using hl) hu0|tup es=>rw[Rep]at h2;obtain⟨b,ys,rfl,w1,w2⟩:=h2;cases r2;obtain⟨ws,v2,p2,_⟩:=I.tuple (aL.fO sm w1);exact SeqAt.EqAt.list_tuple p1.isList p2 hu0|non=>exact(lF p1.isList hu0 rfl h2 r2).1|bl _=>exact(lF p1.isList hu0 rfl h2 r2).1|int _=>exact(lF p1.isList hu0 rfl h2 r2).1|str _=>exact(lF p1.isList hu0 rfl h2 r2).1
   |non|bl _|int _|str _=>cases e with|dC _=>simp[du]at he|dv _ _=>simp[du]at he|tup es=>rw[Rep]at h2;obtain⟨b,ys,rfl,w1,w2⟩:=h2;cases r2;obtain⟨ws,v2,p2,_⟩:=I.tuple (aL.fO sm w1);exact(lM p2 hu0 rfl h1 r1).2|lst es=>rw[Rep]at h2;obtain⟨b,ys,rfl,w1,w2⟩:=h2;cases r2;obtain⟨ws,v2,p2,_⟩:=I.list (sm.seq w1);exact(lF p2.isList hu0 rfl h1 r1).2|_=>exact zB rfl rfl h1 h2 r1 r2
end
section
variable{X:Cx}{pins:List (Addr×Obj)}{σ:L2.St}{H F:Hp}{s:Shared}{A:Around}
abbrev RC(A:Around)(s:Shared)(v u:Value)(k:Bool):Prop:=SeqAt.RcAt A s v u k/\SeqAt.RcNeAt A s v u (!k)
inductive Top(X:Cx)(F H:Hp)(s:Shared):Value->D->Prop where|non:Top X F H s .none .non|bl(b:Bool):Top X F H s (.bool b) (.bl b)|int(i:Int)(t:Tok):Top X F H s (.int i t) (.int i)|str(x:Str)(t:Tok):Top X F H s (.str x t) (.str x)|tup{a:Addr}{us:List Value}{xs:List V}{ds:List D}(ht:s.heap.IsTuple a us.toArray)(hv:Vals xs us)(hr:aG X.K F xs ds):Top X F H s (.ref a) (.tup ds)|lst{a:Addr}{us:List Value}{xs:List V}{ds:List D}(ht:s.heap.IsList a us.toArray)(hv:Vals xs us)(hr:aG X.K F xs ds):Top X F H s (.ref a) (.lst ds)
theorem uq(I:L2.Inv X pins σ H s)(sm:aL F H){v:V}{v':Value}{d:D}(hd:du 8 d=true)(h:cY X.K F H v d)(r:RelV v v'):Top X F H s v' d:=by cases d with|dC _=>simp[du]at hd|dv _ _=>simp[du]at hd|non=>rw[h.non]at r;cases r;exact .non|bl b=>rw[h.bl]at r;cases r;exact .bl b|int i=>rw[h.int]at r;obtain⟨t,rfl⟩:=r;exact .int i t|str x=>rw[h.str]at r;obtain⟨t,rfl⟩:=r;exact .str x t|tup ds=>obtain⟨a,xs,rfl,h1,h2,_⟩:=h.tup sm;cases r;obtain⟨us,v1,p1,_⟩:=I.tuple h1;exact .tup p1 v1 h2|lst ds=>obtain⟨a,xs,rfl,h1,h2⟩:=h.lst sm;cases r;obtain⟨us,v1,p1,_⟩:=I.list h1;exact .lst p1.isList v1 h2
theorem V9(I:L2.Inv X pins σ H s)(sm:aL F H){n:Nat}(hu:A.units+(n+1)<cLine){d e:D}(hd:du (n+1) d=true)(he:du (n+1) e=true){v' u':Value}(h1:Top X F H s v' d)(h2:Top X F H s u' e):RC A s v' u' (jM d e):=by
 have hu0:A.units<cLine:=by omega
 have hu1:A.in1.units+n<cLine:=by show A.units+1+n<cLine;omega
 have at_:∀{xs ys:List V}{us ws:List Value}{ds es:List D}{j:Nat}(k1:j<us.toArray.size)(k2:j<ws.toArray.size),ds.all (du n)=true->es.all (du n)=true->Vals xs us->Vals ys ws->aG X.K F xs ds->aG X.K F ys es->SeqAt.EqAt A.in1 s us.toArray[j] ws.toArray[j] (jM (ds.getD j .non) (es.getD j .non)):=fun{xs ys us ws ds es j}k1 k2 a1 a2 v1 v2 p1 p2=>by
  have k1:j<us.length:=by simpa using k1
  have k2:j<ws.length:=by simpa using k2
  have l1:j<ds.length:=by rw[<-p1.length,v1.length];exact k1
  have l2:j<es.length:=by rw[<-p2.length,v2.length];exact k2
  obtain⟨x,g1,g2⟩:=p1.get (show ds[j]?=some ds[j]by simp[l1]);obtain⟨y,g3,g4⟩:=p2.get (show es[j]?=some es[j]by simp[l2]);obtain⟨x',g5,g6⟩:=v1.get g1;obtain⟨y',g7,g8⟩:=v2.get g3;have e1:us.toArray[j]=x':=by have:=(List.getElem?_eq_some_iff.mp g5).2;simpa using this
  have e2:ws.toArray[j]=y':=by have:=(List.getElem?_eq_some_iff.mp g7).2;simpa using this
  have e3:ds.getD j .non=ds[j]:=by simp[getD,l1]
  have e4:es.getD j .non=es[j]:=by simp[getD,l2]
  rw[e1,e2,e3,e4];exact aaV I sm n A.in1 hu1 _ _ (all_eq_true.mp a1 _ (getElem_mem l1)) (all_eq_true.mp a2 _ (getElem_mem l2)) x y x' y' g2 g4 g6 g8
 cases h1 with
 |non=>cases h2 with|non=>exact⟨SeqAt.RcAt.none_none,SeqAt.RcNeAt.none_none⟩|bl b=>exact⟨SeqAt.RcAt.none_bool _,SeqAt.RcNeAt.none_bool _⟩|int i t=>exact⟨SeqAt.RcAt.none_int _ _,SeqAt.RcNeAt.none_int _ _⟩|str i t=>exact⟨SeqAt.RcAt.none_str _ _,SeqAt.RcNeAt.none_str _ _⟩|tup ht _ _=>exact⟨SeqAt.RcAt.none_tuple ht hu0,SeqAt.RcNeAt.none_tuple ht hu0⟩|lst ht _ _=>exact⟨SeqAt.RcAt.none_list ht hu0,SeqAt.RcNeAt.none_list ht hu0⟩
 |bl b0=>cases h2 with|non=>exact⟨SeqAt.RcAt.bool_none _,SeqAt.RcNeAt.bool_none _⟩|bl b=>exact⟨SeqAt.RcAt.bool_bool _ _,SeqAt.RcNeAt.bool_bool _ _⟩|int i t=>exact⟨SeqAt.RcAt.bool_int _ _ _,SeqAt.RcNeAt.bool_int _ _ _⟩|str i t=>exact⟨SeqAt.RcAt.bool_str _ _ _,SeqAt.RcNeAt.bool_str _ _ _⟩|tup ht _ _=>exact⟨SeqAt.RcAt.bool_tuple _ ht hu0,SeqAt.RcNeAt.bool_tuple _ ht hu0⟩|lst ht _ _=>exact⟨SeqAt.RcAt.bool_list _ ht hu0,SeqAt.RcNeAt.bool_list _ ht hu0⟩
 |int i0 t0=>cases h2 with|non=>exact⟨SeqAt.RcAt.int_none _ _,SeqAt.RcNeAt.int_none _ _⟩|bl b=>exact⟨SeqAt.RcAt.int_bool _ _ _,SeqAt.RcNeAt.int_bool _ _ _⟩|int i t=>exact⟨SeqAt.RcAt.int_int _ _ _ _,SeqAt.RcNeAt.int_int _ _ _ _⟩|str i t=>exact⟨SeqAt.RcAt.int_str _ _ _ _,SeqAt.RcNeAt.int_str _ _ _ _⟩|tup ht _ _=>exact⟨SeqAt.RcAt.int_tuple _ _ ht hu0,SeqAt.RcNeAt.int_tuple _ _ ht hu0⟩|lst ht _ _=>exact⟨SeqAt.RcAt.int_list _ _ ht hu0,int_list _ _ ht hu0⟩
 |str i0 t0=>cases h2 with|non=>exact⟨SeqAt.RcAt.str_none _ _,SeqAt.RcNeAt.str_none _ _⟩|bl b=>exact⟨SeqAt.RcAt.str_bool _ _ _,SeqAt.RcNeAt.str_bool _ _ _⟩|int i t=>exact⟨SeqAt.RcAt.str_int _ _ _ _,SeqAt.RcNeAt.str_int _ _ _ _⟩|str i t=>exact⟨SeqAt.RcAt.str_str _ _ _ _,SeqAt.RcNeAt.str_str _ _ _ _⟩|tup ht _ _=>exact⟨SeqAt.RcAt.str_tuple _ _ ht hu0,SeqAt.RcNeAt.str_tuple _ _ ht hu0⟩|lst ht _ _=>exact⟨SeqAt.RcAt.str_list _ _ ht hu0,str_list _ _ ht hu0⟩
 |@tup a us xs ds ht hv hr=>
   have ha:ds.all (du n)=true:=by simpa[du]using hd
   cases h2 with|non=>exact⟨SeqAt.RcAt.tuple_none ht hu0,SeqAt.RcNeAt.tuple_none ht hu0⟩|bl b=>exact⟨SeqAt.RcAt.tuple_bool _ ht hu0,SeqAt.RcNeAt.tuple_bool _ ht hu0⟩|int i t=>exact⟨SeqAt.RcAt.tuple_int _ _ ht hu0,SeqAt.RcNeAt.tuple_int _ _ ht hu0⟩|str i t=>exact⟨SeqAt.RcAt.tuple_str _ _ ht hu0,SeqAt.RcNeAt.tuple_str _ _ ht hu0⟩|lst wY _ _=>exact⟨SeqAt.RcAt.tuple_list ht wY hu0,SeqAt.RcNeAt.tuple_list ht wY hu0⟩|@tup b ws ys es wY hv2 hr2=>
     have hb:es.all (du n)=true:=by simpa[du]using he
     have l1:us.toArray.size=ds.length:=by rw[size_toArray,<-hv.length,hr.length]
     have l2:ws.toArray.size=es.length:=by rw[size_toArray,<-hv2.length,hr2.length]
     have z1:=SeqAt.RcAt.tuples (A:=A) (e:=fun j=>jM (ds.getD j .non) (es.getD j .non)) ht wY hu0 fun j k1 k2=>at_ k1 k2 ha hb hv hv2 hr hr2;have z2:=SeqAt.RcNeAt.tuples (A:=A) (e:=fun j=>jM (ds.getD j .non) (es.getD j .non)) ht wY hu0 fun j k1 k2=>at_ k1 k2 ha hb hv hv2 hr hr2;rw[l1,l2]at z1 z2;have e0:jM (.tup ds) (.tup es)=((List.range (min ds.length es.length)).all (fun j=>jM (ds.getD j .non) (es.getD j .non))&&ds.length==es.length):=by
      rw[pqt];by_cases hl:ds.length=es.length;.rw[fU hl,hl];simp
      . rw[jj hl];have:(ds.length==es.length)=false:=by simpa using hl
        rw[this,Bool.and_false]
     rw[e0];exact⟨z1,z2⟩
 |@lst a us xs ds ht hv hr=>
   have ha:ds.all (du n)=true:=by simpa[du]using hd
   cases h2 with|non=>exact⟨SeqAt.RcAt.list_none ht hu0,SeqAt.RcNeAt.list_none ht hu0⟩|bl b=>exact⟨SeqAt.RcAt.list_bool _ ht hu0,SeqAt.RcNeAt.list_bool _ ht hu0⟩|int i t=>exact⟨SeqAt.RcAt.list_int _ _ ht hu0,list_int _ _ ht hu0⟩|str i t=>exact⟨SeqAt.RcAt.list_str _ _ ht hu0,list_str _ _ ht hu0⟩|tup wY _ _=>exact⟨SeqAt.RcAt.list_tuple ht wY hu0,SeqAt.RcNeAt.list_tuple ht wY hu0⟩|@lst b ws ys es wY hv2 hr2=>
     have hb:es.all (du n)=true:=by simpa[du]using he
     have l1:us.toArray.size=ds.length:=by rw[size_toArray,<-hv.length,hr.length]
     have l2:ws.toArray.size=es.length:=by rw[size_toArray,<-hv2.length,hr2.length]
     rw[YJ];by_cases hl:ds.length=es.length;.have z1:=SeqAt.RcAt.lists (A:=A) (e:=fun j=>jM (ds.getD j .non) (es.getD j .non)) ht wY (by rw[l1,l2,hl]) hu0 fun j k1 k2=>at_ k1 k2 ha hb hv hv2 hr hr2;have z2:=SeqAt.RcNeAt.lists (A:=A) (e:=fun j=>jM (ds.getD j .non) (es.getD j .non)) ht wY (by rw[l1,l2,hl]) hu0 fun j k1 k2=>at_ k1 k2 ha hb hv hv2 hr hr2;rw[l1]at z1 z2;rw[fU hl];exact⟨z1,z2⟩
     .rw[jj hl];exact⟨lists_lengths ht wY (by rw[l1,l2];simpa using hl) hu0,SeqAt.RcNeAt.lists_lengths ht wY (by rw[l1,l2];simpa using hl) hu0⟩
theorem bI(hu:X.A.units+8<cLine):dU X (compareOp .Eq) (rD X.K (oA .eq)):=by rintro pins s σ H x y v u Q I rx ry⟨F,d,e,r,sm,px,py,he,k⟩;obtain⟨t,e1,e2⟩:=map_some (show(Gy d e).map _=some r from he);subst e2;unfold Gy at e1;obtain⟨hd,e1⟩:=bu e1;rw[and_eq_true]at hd;subst e1;exact(V9 I sm (n:=7) hu hd.1 hd.2 (uq I sm hd.1 px rx) (uq I sm hd.2 py ry)).1 _ _ _ _ ⟨.bl _,H,I,rfl,cA.dj sm (gf _) k⟩
theorem jz(hu:X.A.units+8<cLine):dU X (compareOp .NotEq) (rD X.K (oA .ne)):=by rintro pins s σ H x y v u Q I rx ry⟨F,d,e,r,sm,px,py,he,k⟩;obtain⟨t,e1,e2⟩:=map_some (show(Gb d e).map _=some r from he);subst e2;unfold Gb at e1;obtain⟨hd,e1⟩:=bu e1;rw[and_eq_true]at hd;subst e1;exact(V9 I sm (n:=7) hu hd.1 hd.2 (uq I sm hd.1 px rx) (uq I sm hd.2 py ry)).2 _ _ _ _ ⟨.bl _,H,I,rfl,cA.dj sm (gf _) k⟩
end
section
variable{Pg:Program}{w:World}{K:PySem.W.Frag}{mg:Str->Option Value}{base:Heap}
theorem Wx{x qual:Str}{st:Stmt}{f:Addr}{fd:FuncData}{N ps:List Str}{k n:Nat}{c:Call}{d:Fd}(Fu:gD K x qual st f fd)(S:aN N ps (aC st))(h1:d.np=ps.length)(h2:d.nn=N.length)(hb:∀(cdv:Value)(A:Around)(outer:List Env)(s:Shared)(H:Hp)(E:XK),jr k (A.deeper (envOfC qual (aC st) s.heap.objs.size f cdv))->SB (yp gh Pg w K mg base N qual (aC st) f cdv A outer s H E).U5 c n (fH st) d.body):bV Pg w K mg base gh (k+1) f fd ps (gF K ps.length (fun args=>enter c n d args)):=by
 refine Fu.ok S (fun vs H Q E h=>h.1) fun cdv A outer s H vs Q E hr h=>?_;obtain⟨hl,F,args,r,args',g,e,q⟩:=h;refine⟨_,hb cdv A outer s H E hr,?_⟩;replace e:enter c n d args=.ok r args':=e;unfold enter at e;split at e
 . rename_i hc;obtain⟨c1,c2⟩:=hc;have hg:=g.more (n:=d.nn-d.np) (τ:=replicate (N.length-vs.length) none) (by simp[h1,h2,hl]);have hla:args.length=d.np:=c1;have go:∀{fl:Fl}{ρ':List Sl},gj c n d.body (args++replicate (d.nn-d.np) .aZ)=.ok fl ρ'->(∀F' σ' H',aO K F (args++replicate (d.nn-d.np) .aZ) (start N vs) H F' ρ' σ' H'->(match fl with|.next=>Q .non H'|.brk=>False|.cont=>False|.ret r=>∀v,cL K F' ρ' σ' H' (args++replicate (d.nn-d.np) .aZ) (start N vs) H v r->Q v H'))->Ys K (gj c n d.body) {nx:=fun _ H'=>Q .non H',rt:=Q} (start N vs) H:=fun{fl ρ'}z k=>⟨F,_,fl,ρ',hg,z,fun F' σ' H' s=>by have:=k F' σ' H' s;cases fl<;>exact this⟩;split at e;.rename_i ρ' z;cases e;refine go z fun F' σ' H' s=>?_;obtain⟨z1,z2⟩:=aO.less (m:=d.np) hla.symm g (by simp[h1,h2,hl]) s;exact q .non F' _ H' z1 (show Rep K F' _ _ from QX)
   .rename_i r' ρ' z;cases e;refine go z fun F' σ' H' s v rr=>?_;obtain⟨z1,z2⟩:=aO.less (m:=d.np) hla.symm g (by simp[h1,h2,hl]) s;exact q v F' _ H' z1 (z2 v r rr)
   .split at e<;>cases e
 .cases e
structure au(Pg:Program)(w:World)(K:PySem.W.Frag)(mg:Str->Option Value)(base:Heap)(k:Nat)(c:Call)(i:Nat)(x:Str)(np:Nat):Prop where ex:∃fa fd qs,bV Pg w K mg base gh k fa fd qs (gF K qs.length (c i))/\mg x=some (.ref fa)/\keepIn K (.ref fa)=true/\Binds K fd qs []/\qs.length=np
end
section
variable{X:Cx}{c:Call}{n k:Nat}{e a b:Expr}{es:List Expr}{p pa pb:P}{ps:List P}{pos:Pos}
theorem sv(i:Nat){x:Str}(hN:X.N[i]?=some x:=by rfl)(hv:zW X.env.scope x:=by first|exact Or.inl rfl|exact Or.inr (Or.inl rfl)|exact Or.inr (Or.inr rfl))(hd:(x==("__debug__":Str))=false:=by rfl)(hcd:(x==("__classdict__":Str))=false:=by rfl):SX X c (.Name x pos) (.var i):=Rc hN hv hd hcd
theorem cQ{i np:Nat}{x:Str}{p':Pos}(C:au X.prog X.w X.K X.mg X.base k c i x np)(hr:jr k X.A)(ha:SG X c (e::es) ps)(hg:Gl X x:=by rfl)(hl:(e::es).length=np:=by rfl)(hdb:(x==("__debug__":Str))=false:=by rfl)(he:starEach (e::es) X.env=(false,eval e X.env)::starEach es X.env:=by rfl)(hpl:(backTo pos (starEach es X.env)).any (·.1)=false:=by rfl)(hl2:ps.length=(e::es).length:=by rfl):SX X c (.Call (.Name x p') (e::es) [] pos) (.call i ps):=by obtain⟨fa,fd,qs,h1,h2,h3,h4,h5⟩:=C.ex;exact Jr h1 hr hg h2 h3 h4 ha (hl.trans h5.symm) hdb he hpl hl2
noncomputable def MF(names outer:List (Str×NameKind))(N N':List Str)(n:Nat):Bool:=(names.all fun y=>names.lookup y.1==some y.2)&&(names.all fun y=>y.2!=.local||names.lookup y.1==some .local)&&(names.all fun y=>y.2!=.free||outer.lookup y.1==some .cell||outer.lookup y.1==some .free)&&N'.length==N.length+n&&((N.zip N').all fun p=>(p.1==p.2&&names.lookup p.2==some .free)||(names.lookup p.2!=some .local&&names.lookup p.2!=some .cell&&names.lookup p.2!=some .free))
theorem uW{scope:Scope}{N':List Str}(hk:scope.kind=.function)(h:MF scope.names X.env.scope.names X.N N' n=true):fj X scope N' n:=by
 unfold MF at h;simp only[and_eq_true]at h;obtain⟨⟨⟨⟨h1,h2⟩,h3⟩,h4⟩,h5⟩:=h;refine⟨hk,fun y hy=>eq_of_beq (all_eq_true.mp h1 y hy),fun y hy e=>?_,fun y hy e=>?_,by simpa using h4,h5⟩;.have:=all_eq_true.mp h2 y hy;rw[e]at this;simpa using this
 . have:=all_eq_true.mp h3 y hy;rw[e]at this;simp only[or_eq_true]at this;rcases this with(z|z)|z;.cases z
   .exact .inl (eq_of_beq z)
   .exact .inr (eq_of_beq z)
theorem aK{A:Around}(h:jr k A):A.units+8<cLine:=by have:=h.un;omega
end
end HH
end
section
namespace PySem
open AutoSeq1(wpAny_loadPart')
section
variable{prog:Program}{w:World}{A:Around}{E:Value->Shared->Prop}{s:Shared}
theorem gH{it l:Addr}{i:Nat}{items:Array Value}{x:Value}{Q:Value->Shared->Prop}(hit:s.heap.IsTupleIter it l i)(hl:s.heap.IsTuple l items)(hx:items[i]?=some x)(hQ:∀h',h'.IsTupleIter it l (i+1)->SameBut it s.heap h'->Q x {s with heap:=h'}):wpAny (model prog w) A (nextOf (.ref it)) Q E s:=by obtain⟨o,ho,hc,hd⟩:=id hit;obtain⟨ol,hol,_,nl,hdl⟩:=hl;unfold nextOf;refine wpAny_bind (wpAny_callSpecial?_slot (name:=Str.ofString "__next__") hit.typeIs F.slot_tuple_iterator_next (wpAny_call_entry F.slot_tuple_iterator_next hit.typeIs F.entry_tuple_iterator_next ?_ (F.args_tuple_iterator_next_1 _)));show wpAny _ _ (field (.ref it) 0>>=_) _ _ s;refine wpAny_bind (wpAny_field ho hd (x:=.ref l) rfl ?_);show wpAny _ _ (if(Value.ref l==Value.none)=true then _ else _) _ _ s;rw[if_neg (show ¬((Value.ref l==Value.none)=true)from Bool.false_ne_true)];show wpAny _ _ (field (.ref it) 1>>=_) _ _ s;refine wpAny_bind (wpAny_field ho hd (x:=.int i 0) rfl ?_);show wpAny _ _ (seqItems? (.ref l)>>=_) _ _ s;refine wpAny_bind (wpAny_seqItems hol hdl ?_);simp only[toNat_natCast,hx];refine wpAny_bind (wpAny_setField ho hd (by simp) (wpAny_pure ⟨x,rfl,wpAny_pure (hQ _ ?_ (Heap.SameBut.update ..))⟩));exact⟨_,get?_update_self _ ho (Obj.isFreed_of_fields (Obj.data_mapFields hd _)),(Obj.cls_mapFields ..).trans hc,by rw[Obj.data_mapFields hd];simp[rawInt]⟩
theorem dZ{it l:Addr}{i:Nat}{items:Array Value}{Q:Value->Shared->Prop}(hh:A.handled=none)(hit:s.heap.IsTupleIter it l i)(hl:s.heap.IsTuple l items)(hx:items[i]?=none)(hE:∀h' e,Heap.ExtBut it s.heap h'->(∃o,h'.get? e=some o/\o.cls=.type "StopIteration")->E (.ref e) {s with heap:=h'}):wpAny (model prog w) A (nextOf (.ref it)) Q E s:=by
 obtain⟨o,ho,hc,hd⟩:=id hit;obtain⟨ol,hol,_,nl,hdl⟩:=hl;unfold nextOf;refine wpAny_bind (wpAny_callSpecial?_slot (name:=Str.ofString "__next__") hit.typeIs F.slot_tuple_iterator_next (wpAny_call_entry F.slot_tuple_iterator_next hit.typeIs F.entry_tuple_iterator_next ?_ (F.args_tuple_iterator_next_1 _)));show wpAny _ _ (field (.ref it) 0>>=_) _ _ s;refine wpAny_bind (wpAny_field ho hd (x:=.ref l) rfl ?_);show wpAny _ _ (if(Value.ref l==Value.none)=true then _ else _) _ _ s;rw[if_neg (show ¬((Value.ref l==Value.none)=true)from Bool.false_ne_true)];show wpAny _ _ (field (.ref it) 1>>=_) _ _ s;refine wpAny_bind (wpAny_field ho hd (x:=.int i 0) rfl ?_);show wpAny _ _ (seqItems? (.ref l)>>=_) _ _ s;refine wpAny_bind (wpAny_seqItems hol hdl ?_);simp only[toNat_natCast,hx];refine wpAny_bind (wpAny_rule (wpAny_bind (wpAny_setField ho hd (by simp) ?_)));show wpAny _ _ (newExc (.type "StopIteration") []>>=_) _ _ _;refine wpAny_bind ?_;simp only[newExc,newTuple];refine wpAny_bind (wpAny_newObj_type ?_ (by size_fits));refine wpAny_bind (m:=firstArgMember _ _) (wpAny_of_eq (a:=Value.none) (by first|rfl|(simp only[firstArgMember];rfl)) ?_);refine wpAny_newObj_type ?_ (by size_fits);simp only[raiseNew];refine wpAny_bind (wpAny_handled ?_);first|rw[show A.in1.handled=none from hh]|rw[hh]
 refine wpAny_bind (wpAny_pure (wpAny_throw ?_));exact hE _ _ (((Heap.SameBut.update ..).extBut.push _).push _) ⟨_,get?_push_size _ rfl,rfl⟩
end
theorem jx(l:Addr)(items:Array Value)(n:Nat)(dct:Option Addr)(sl:Array (Option Value)):Meets (Builtin.«enumerate.__new__» ⟨[.type "enumerate",.ref l],[]⟩) (fun _ R s=>s.heap.get? l=some {cls:=.type "tuple",dict:=dct,data:=.seq items n,slots:=sl}/\R (.ok (.ret (.ref (s.heap.push {cls:=.type "tuple_iterator",data:=.fields #[.ref l,.int 0 0]}).objs.size))) {s with heap:=(s.heap.push {cls:=.type "tuple_iterator",data:=.fields #[.ref l,.int 0 0]}).push {cls:=.type "enumerate",data:=.fields #[.none,.bool false,.ref s.heap.objs.size,rawInt 0,.none,.none]}}):=.of_wp fun prog w A R s h=>by
  obtain⟨hp,g,d,tk,os⟩:=s;obtain⟨hl,h⟩:=h;have hsub:=sub_enumerate;have hL:IsTuple (Shared.heap ⟨hp,g,d,tk,os⟩) l items:=⟨_,hl,rfl,n,rfl⟩;wp_walk using wpAny_loadPart' hl;refine wpAny_stack_any fun st=>wpAny_pure ?_;split
  . rename_i c _ _ _ _ _;cases(c==Value.type "enumerate");.wp_walk using wpAny_loadPart' hl,wpAny_pyIter_tuple hL;exact⟨_,rfl,h⟩
    .wp_walk using wpAny_loadPart' hl,wpAny_pyIter_tuple hL;exact⟨_,rfl,h⟩
  .wp_walk using wpAny_loadPart' hl,wpAny_pyIter_tuple hL;exact⟨_,rfl,h⟩
section
variable{prog:Program}{w:World}{A:Around}{E:Value->Shared->Prop}{s:Shared}
theorem jy{l:Addr}{items:Array Value}{Q:Value->Shared->Prop}(hL:s.heap.IsTuple l items)(h:∀ h',IsEnum h' (s.heap.objs.size+1) s.heap.objs.size 0 .none->h'.IsTupleIter s.heap.objs.size l 0->h'.objs.size=s.heap.objs.size+2->(∀b o,s.heap.get? b=some o->h'.get? b=some o)->Q (.ref (s.heap.objs.size+1)) {s with heap:=h'}):wpAny (model prog w) A (call (.type "enumerate") [.ref l]) Q E s:=by
 obtain⟨⟨c,dct,dt,sl⟩,hl,hc,n,hd⟩:=hL;replace hc:c=.type "tuple":=hc;replace hd:dt=.seq items n:=hd;subst hc hd;refine callType_new F.called_enumerate (by decide) (F.typeCall_enumerate_1 _) (F.newCall_enumerate_1 _) (fun obj=>F.args_object_init_2 obj _) F.entry_enumerate_new (jx l items n dct sl) ⟨hl,?_⟩;have hz:(s.heap.push {cls:=.type "tuple_iterator",data:=.fields #[.ref l,.int 0 0]}).objs.size=s.heap.objs.size+1:=size_push ..;show _/\_;rw[hz];have he:IsEnum ((s.heap.push {cls:=.type "tuple_iterator",data:=.fields #[.ref l,.int 0 0]}).push {cls:=.type "enumerate",data:=.fields #[.none,.bool false,.ref s.heap.objs.size,rawInt 0,.none,.none]}) (s.heap.objs.size+1) s.heap.objs.size 0 .none:=by have:=get?_push_size (s.heap.push {cls:=.type "tuple_iterator",data:=.fields #[.ref l,.int 0 0]}) (o:={cls:=.type "enumerate",data:=.fields #[.none,.bool false,.ref s.heap.objs.size,rawInt 0,.none,.none]}) rfl;rw[hz]at this;exact this
 refine⟨⟨_,he,rfl⟩,h _ he ⟨_,get?_push_of_some _ (get?_push_size _ rfl),rfl,rfl⟩ (by rw[size_push,hz]) fun b o x=>get?_push_of_some _ (get?_push_of_some _ x)⟩
end
end PySem
end
section
namespace L2
open PySem PySem.Spec PyProof.Rows
section
variable{X:Cx}{pins:List (Addr×Obj)}{σ:L2.St}{H:Hp}{s:Shared}
theorem Inv.yu{ch:List Addr}{h':Heap}{o:HO}{t':Nat}(I:Inv X pins σ H s)(k:∀b u,b∉ch->s.heap.get? b=some u->h'.get? b=some u)(hl:∀b∈ch,∃u,h'.get? b=some u)(hf:∀b∈ch,mK X pins H b)(new:bR X.prog X.w (upd H s.heap.objs.size o) h' s.heap.objs.size o):Inv X pins σ (upd H s.heap.objs.size o) {s with heap:=h',toks:=t'}:=by
 have fr:H s.heap.objs.size=none:=I.hok.fresh (le_refl _);have Hs:∀b u,H b=some u->b∉ch:=fun b u e hb=>by rw[(hf b hb).1]at e;cases e
 have up:∀b u,H b=some u->upd H s.heap.objs.size o b=some u:=fun b u e=>by
  have:b≠s.heap.objs.size:=by rintro rfl;rw[fr]at e;cases e
  rw[aD this];exact e
 refine I.call (g':=s.gens) (d':=s.drawn) (ch:=ch) ⟨fun b u e n _ hx=>k b u hx e,fun b u e n _ hx=>⟨u.slots,k b u hx e⟩,fun b u e n hx=>?_,fun b u e hx=>⟨u,k b u hx e⟩,fun b xs e=>up b _ e,fun b ob u e=>up b _ e,fun b ps e=>⟨#[],by rw[up b _ e];simp⟩⟩ ?_ I.bare fun b hb=>⟨(hf b hb).2.2.2.1,(hf b hb).2.1,(hf b hb).2.2.2.2.1,(hf b hb).2.2.2.2.2⟩;.have:b≠s.heap.objs.size:=ne_of_lt (lt_size e);rw[aD this];exact n
 . intro b u e;by_cases hb:b=s.heap.objs.size;.subst hb;rw[aY]at e;cases e;exact new
   . rw[aD hb]at e;refine(I.hok b u e).stay (fun c v hc q=>k c v ?_ q) (fun c q=>up c _ q) fun c xs q=>up c _ q;rcases hc with rfl|hc;.exact Hs _ _ e
     .exact Hs _ _ hc
end
noncomputable def yN(K:PySem.W.Frag)(a:Addr):It:=⟨fun i H=>∃xs x,dI K H a xs/\xs[i]?=some x,fun i H x H'=>∃T v,H T=none/\x=.ref T/\H'=upd H T (.tup [.int (i:Int),v])/\∀xs,dI K H a xs->xs[i]?=some v,fun i H=>∃xs,dI K H a xs/\xs.length<=i⟩
theorem Qs{prog:Program}{w:World}{A:Around}(hh:A.handled=none)(it l:Addr)(hne:l≠it)(items:Array Value):Draws prog w A it [it,l] items.size (fun i v=>items[i]?=some v) (fun i h=>h.IsListIter it l i/\h.IsList l items)where
 live:=fun _ _ st=>let⟨o,ho,_⟩:=st.1;⟨o,ho⟩;frame:=fun _ _ _ st hk=>⟨(let⟨o,ho,r⟩:=st.1;⟨o,hk it (by simp) o ho,r⟩),(let⟨o,ho,r⟩:=st.2;⟨o,hk l (by simp) o ho,r⟩)⟩;item:=fun i s Q E hi st hQ=>by refine wpAny_nextOf_list_item st.1 st.2 (x:=items[i]) (by simp[hi]) fun h' hit' hs'=>?_;exact hQ _ h' s.toks (by simp[hi]) ⟨hit',(let⟨o,ho,r⟩:=st.2;⟨o,hs'.extBut l o hne ho,r⟩)⟩ hs'
 done:=fun s Q E st hE=>wpAny_nextOf_list_end hh st.1 st.2 (by simp) hE
theorem BK{prog:Program}{w:World}{A:Around}(hh:A.handled=none)(it l:Addr)(items:Array Value)(n:Nat)(hn:items.size<=n):Draws prog w A it [it,l] n (fun _ _=>True) (fun i h=>i=n/\h.IsListIter it l i/\h.IsList l items)where live:=fun _ _ st=>let⟨o,ho,_⟩:=st.2.1;⟨o,ho⟩;frame:=fun _ _ _ st hk=>⟨st.1,(let⟨o,ho,r⟩:=st.2.1;⟨o,hk it (by simp) o ho,r⟩),(let⟨o,ho,r⟩:=st.2.2;⟨o,hk l (by simp) o ho,r⟩)⟩;item:=fun i s Q E hi st hQ=>absurd st.1 (ne_of_lt hi);done:=fun s Q E st hE=>wpAny_nextOf_list_end hh st.2.1 st.2.2 (by simp;exact hn) hE
theorem Bq{P:Program}{w:World}{K:PySem.W.Frag}{elts:List Expr}{x1}{tp:Pos}(a it e:Addr)(hei:e≠it):Turn P w K (.Tuple elts x1 tp) (yN K a) [e,it] e (fun i h=>(∃old,IsEnum h e it (i:Int) old)/\h.IsListIter it a i)where
 mem:=by simp
 obj:=fun i h st b hb=>by
  obtain⟨⟨old,h1⟩,o,h2,h3,h4⟩:=st;rcases mem_cons.mp hb with rfl|hb;.exact⟨_,h1,fun v z=>by cases z⟩
  . have:b=it:=by simpa using hb
    subst this;exact⟨o,h2,fun v z=>by rw[h4]at z;cases z⟩
 keep:=fun i h h' st k=>by obtain⟨⟨old,h1⟩,o,h2,h3⟩:=st;exact⟨⟨old,k e (by simp) _ h1⟩,o,k it (by simp) _ h2,h3⟩
 item:=fun X hP hw hK hc i pins s σ H E I hf st go=>by
  subst hP hw hK;obtain⟨⟨old,he⟩,hit⟩:=st;obtain⟨xs,x,hq,hx⟩:=go;obtain⟨its,rv,pl,hz⟩:=I.list hq;have hL:s.heap.IsList a its.toArray:=pl.isList;obtain⟨oa,ha,hca,_⟩:=id hL;have hea:e≠a:=by rintro rfl;rw[he]at ha;cases ha;exact absurd (show Value.type "enumerate"=Value.type _ from hca) (by decide)
  have hia:a≠it:=by rintro rfl;obtain⟨o,h2,h3,_⟩:=id hit;rw[h2]at ha;cases ha;rw[h3]at hca;exact absurd hca (by decide)
  have hlt:i<its.toArray.size:=by rw[size_toArray,<-rv.length];exact(List.getElem?_eq_some_iff.mp hx).1
  refine wpAny_pyNext_enum_itemD (Qs (show X.A.in1.handled=none from I.ok.hd hc) it a hia its.toArray) he ⟨hit,hL⟩ hlt hei (by simp[hei,hea]) fun y h' tk hy heo hst ht hsz kp=>?_;refine⟨_,rfl,wpAny_letOwnedTupleGo_enum heo fun h'' Hy sb=>?_⟩;obtain⟨u,hu1,hu2⟩:=rv.get hx;have hyu:y=u:=by
   have hy:its[i]?=some y:=by simpa using hy
   rw[hu1]at hy;cases hy;rfl
  subst hyu;have hT:∀b∈[e,it],b≠s.heap.objs.size:=fun b hb=>by
   rcases mem_cons.mp hb with rfl|hb;.exact ne_of_lt (lt_size he)
   . have:b=it:=by simpa using hb
     subst this;obtain⟨o,h2,_⟩:=id hit;exact ne_of_lt (lt_size h2)
  have hTe:s.heap.objs.size≠e:=(hT e (by simp)).symm;have T9:∀b o,b∉[e,it]->s.heap.get? b=some o->h''.get? b=some o:=fun b o hb q=>by have h1:b≠e:=fun z=>hb (by simp[z]);have h2:b≠it:=fun z=>hb (by simp[z]);exact sb.extBut b o h1 (kp b o h1 h2 q)
  have wY:h''.get? s.heap.objs.size=some {cls:=.type "tuple",data:=.seq #[.int i tk,y]}:=sb.extBut _ _ hTe ht;refine⟨.ref s.heap.objs.size,upd H s.heap.objs.size (.tup [.int (i:Int),x]),?_,rfl,⟨_,x,I.fresh,rfl,rfl,fun ys hys=>?_⟩,⟨⟨_,Hy⟩,?_⟩,fun b hb=>?_⟩
  . refine I.yu (ch:=[e,it]) (t':=tk+1) T9 (fun b hb=>?_) (fun b hb=>(hf b hb)) ⟨(by show 2<=sizeLine;decide),[.int i tk,y],.cons ⟨_,rfl⟩ (.cons hu2 .nil),⟨_,wY,rfl,_,rfl⟩⟩;rcases mem_cons.mp hb with rfl|hb;.exact⟨_,Hy⟩
    . have:b=it:=by simpa using hb
      subst this;obtain⟨o,h2,_⟩:=id hst.1;exact⟨o,sb.extBut _ _ (Ne.symm hei) h2⟩
  .rw[I.lV hys hq];exact hx
  .obtain⟨o,h2,r⟩:=hst.1;exact⟨o,sb.extBut _ _ (Ne.symm hei) h2,r⟩
  .rw[aD (hT b hb)];exact(hf b hb).1
 done:=fun X hP hw hK hc i pins s σ H E I hf st stop=>by subst hP hw hK;obtain⟨⟨old,he⟩,hit⟩:=st;obtain⟨xs,hq,hx⟩:=stop;obtain⟨its,rv,pl,hz⟩:=I.list hq;have hL:s.heap.IsList a its.toArray:=pl.isList;refine wpAny_pyNext_enum_endD (BK (show X.A.in1.handled=none from I.ok.hd hc) it a its.toArray i (by rw[size_toArray,<-rv.length];exact hx)) he ⟨rfl,hit,hL⟩ fun h' hs=>⟨rfl,?_⟩;have f:=hf it (by simp);exact I.turned (t':=s.toks) (fun b o hb q=>hs b o hb q) f.1 f.2.1 f.2.2.2.1 f.2.2.2.2.1 f.2.2.2.2.2
 self:=fun A i s Q E st q=>wpAny_pyIter_enum st.1.choose_spec q
noncomputable def yq(K:PySem.W.Frag)(a:Addr):It:=⟨fun i H=>∃xs x,gM K H a xs/\xs[i]?=some x,fun i H x H'=>∃T v,H T=none/\x=.ref T/\H'=upd H T (.tup [.int (i:Int),v])/\∀xs,gM K H a xs->xs[i]?=some v,fun i H=>∃xs,gM K H a xs/\xs.length<=i⟩
theorem Nt{prog:Program}{w:World}{A:Around}(hh:A.handled=none)(it l:Addr)(hne:l≠it)(items:Array Value):Draws prog w A it [it,l] items.size (fun i v=>items[i]?=some v) (fun i h=>h.IsTupleIter it l i/\h.IsTuple l items)where
 live:=fun _ _ st=>let⟨o,ho,_⟩:=st.1;⟨o,ho⟩;frame:=fun _ _ _ st hk=>⟨(let⟨o,ho,r⟩:=st.1;⟨o,hk it (by simp) o ho,r⟩),(let⟨o,ho,r⟩:=st.2;⟨o,hk l (by simp) o ho,r⟩)⟩;item:=fun i s Q E hi st hQ=>by refine gH st.1 st.2 (x:=items[i]) (by simp[hi]) fun h' hit' hs'=>?_;exact hQ _ h' s.toks (by simp[hi]) ⟨hit',(let⟨o,ho,r⟩:=st.2;⟨o,hs'.extBut l o hne ho,r⟩)⟩ hs'
 done:=fun s Q E st hE=>dZ hh st.1 st.2 (by simp) hE
theorem Bb{prog:Program}{w:World}{A:Around}(hh:A.handled=none)(it l:Addr)(items:Array Value)(n:Nat)(hn:items.size<=n):Draws prog w A it [it,l] n (fun _ _=>True) (fun i h=>i=n/\h.IsTupleIter it l i/\h.IsTuple l items)where live:=fun _ _ st=>let⟨o,ho,_⟩:=st.2.1;⟨o,ho⟩;frame:=fun _ _ _ st hk=>⟨st.1,(let⟨o,ho,r⟩:=st.2.1;⟨o,hk it (by simp) o ho,r⟩),(let⟨o,ho,r⟩:=st.2.2;⟨o,hk l (by simp) o ho,r⟩)⟩;item:=fun i s Q E hi st hQ=>absurd st.1 (ne_of_lt hi);done:=fun s Q E st hE=>dZ hh st.2.1 st.2.2 (by simp;exact hn) hE
theorem Bx{P:Program}{w:World}{K:PySem.W.Frag}{elts:List Expr}{x1}{tp:Pos}(a it e:Addr)(hei:e≠it):Turn P w K (.Tuple elts x1 tp) (yq K a) [e,it] e (fun i h=>(∃old,IsEnum h e it (i:Int) old)/\h.IsTupleIter it a i)where
 mem:=by simp
 obj:=fun i h st b hb=>by
  obtain⟨⟨old,h1⟩,o,h2,h3,h4⟩:=st;rcases mem_cons.mp hb with rfl|hb;.exact⟨_,h1,fun v z=>by cases z⟩
  . have:b=it:=by simpa using hb
    subst this;exact⟨o,h2,fun v z=>by rw[h4]at z;cases z⟩
 keep:=fun i h h' st k=>by obtain⟨⟨old,h1⟩,o,h2,h3⟩:=st;exact⟨⟨old,k e (by simp) _ h1⟩,o,k it (by simp) _ h2,h3⟩
 item:=fun X hP hw hK hc i pins s σ H E I hf st go=>by
  subst hP hw hK;obtain⟨⟨old,he⟩,hit⟩:=st;obtain⟨xs,x,hq,hx⟩:=go;obtain⟨its,rv,pl,hz⟩:=I.tuple hq;have hL:s.heap.IsTuple a its.toArray:=pl;obtain⟨oa,ha,hca,_⟩:=id hL;have hea:e≠a:=by rintro rfl;rw[he]at ha;cases ha;exact absurd (show Value.type "enumerate"=Value.type _ from hca) (by decide)
  have hia:a≠it:=by rintro rfl;obtain⟨o,h2,h3,_⟩:=id hit;rw[h2]at ha;cases ha;rw[h3]at hca;exact absurd hca (by decide)
  have hlt:i<its.toArray.size:=by rw[size_toArray,<-rv.length];exact(List.getElem?_eq_some_iff.mp hx).1
  refine wpAny_pyNext_enum_itemD (Nt (show X.A.in1.handled=none from I.ok.hd hc) it a hia its.toArray) he ⟨hit,hL⟩ hlt hei (by simp[hei,hea]) fun y h' tk hy heo hst ht hsz kp=>?_;refine⟨_,rfl,wpAny_letOwnedTupleGo_enum heo fun h'' Hy sb=>?_⟩;obtain⟨u,hu1,hu2⟩:=rv.get hx;have hyu:y=u:=by
   have hy:its[i]?=some y:=by simpa using hy
   rw[hu1]at hy;cases hy;rfl
  subst hyu;have hT:∀b∈[e,it],b≠s.heap.objs.size:=fun b hb=>by
   rcases mem_cons.mp hb with rfl|hb;.exact ne_of_lt (lt_size he)
   . have:b=it:=by simpa using hb
     subst this;obtain⟨o,h2,_⟩:=id hit;exact ne_of_lt (lt_size h2)
  have hTe:s.heap.objs.size≠e:=(hT e (by simp)).symm;have T9:∀b o,b∉[e,it]->s.heap.get? b=some o->h''.get? b=some o:=fun b o hb q=>by have h1:b≠e:=fun z=>hb (by simp[z]);have h2:b≠it:=fun z=>hb (by simp[z]);exact sb.extBut b o h1 (kp b o h1 h2 q)
  have wY:h''.get? s.heap.objs.size=some {cls:=.type "tuple",data:=.seq #[.int i tk,y]}:=sb.extBut _ _ hTe ht;refine⟨.ref s.heap.objs.size,upd H s.heap.objs.size (.tup [.int (i:Int),x]),?_,rfl,⟨_,x,I.fresh,rfl,rfl,fun ys hys=>?_⟩,⟨⟨_,Hy⟩,?_⟩,fun b hb=>?_⟩
  . refine I.yu (ch:=[e,it]) (t':=tk+1) T9 (fun b hb=>?_) (fun b hb=>(hf b hb)) ⟨(by show 2<=sizeLine;decide),[.int i tk,y],.cons ⟨_,rfl⟩ (.cons hu2 .nil),⟨_,wY,rfl,_,rfl⟩⟩;rcases mem_cons.mp hb with rfl|hb;.exact⟨_,Hy⟩
    . have:b=it:=by simpa using hb
      subst this;obtain⟨o,h2,_⟩:=id hst.1;exact⟨o,sb.extBut _ _ (Ne.symm hei) h2⟩
  .rw[I.jN hys hq];exact hx
  .obtain⟨o,h2,r⟩:=hst.1;exact⟨o,sb.extBut _ _ (Ne.symm hei) h2,r⟩
  .rw[aD (hT b hb)];exact(hf b hb).1
 done:=fun X hP hw hK hc i pins s σ H E I hf st stop=>by subst hP hw hK;obtain⟨⟨old,he⟩,hit⟩:=st;obtain⟨xs,hq,hx⟩:=stop;obtain⟨its,rv,pl,hz⟩:=I.tuple hq;have hL:s.heap.IsTuple a its.toArray:=pl;refine wpAny_pyNext_enum_endD (Bb (show X.A.in1.handled=none from I.ok.hd hc) it a its.toArray i (by rw[size_toArray,<-rv.length];exact hx)) he ⟨rfl,hit,hL⟩ fun h' hs=>⟨rfl,?_⟩;have f:=hf it (by simp);exact I.turned (t':=s.toks) (fun b o hb q=>hs b o hb q) f.1 f.2.1 f.2.2.2.1 f.2.2.2.2.1 f.2.2.2.2.2
 self:=fun A i s Q E st q=>wpAny_pyIter_enum st.1.choose_spec q
section
variable{X:Cx}{elts:List Expr}{x1:Nat}{tp:Pos}
def ZK(K:PySem.W.Frag)(tl:TE):TI:=fun σ H R=>tl σ H fun x H1=>∃a,x=.ref a/\(((∃xs,dI K H1 a xs)/\R (yN K a) H1)\/((∃xs,gM K H1 a xs)/\R (yq K a) H1))
theorem boot_enumerate:bootBuiltins "enumerate"=some (.type "enumerate"):=by decide+kernel
theorem Ri{a:Expr}{ta:TE}{p pos:Pos}(hg:Gl X "enumerate")(hm:X.mg "enumerate"=none)(ha:PE X a ta)(hs:starEach [a] X.env=[(false,eval a X.env)]:=by rfl):PI X (.Tuple elts x1 tp) (.Call (.Name "enumerate" p) [a] [] pos) (ZK X.K ta):=by
 intro pins s σ H R I h;refine Call_ (iK I hg hm boot_enumerate (PyProof.Rows.callWith_type1 (cu ((cg ha dR hs) pos pins s σ H (fun vs H1=>match vs with|[x]=>∃a,x=.ref a/\(((∃xs,dI X.K H1 a xs)/\R (yN X.K a) H1)\/((∃xs,gM X.K H1 a xs)/\R (yq X.K a) H1))|_=>False) I h) ?_) hs rfl));rintro us s1⟨vs,H1,I1,r1,q1⟩
 . obtain⟨ad,q,vs1⟩:∃ad,(((∃xs,dI X.K H1 ad xs)/\R (yN X.K ad) H1)\/((∃xs,gM X.K H1 ad xs)/\R (yq X.K ad) H1))/\vs=[.ref ad]:=by cases vs with|nil=>cases q1|cons x r=>cases r with|nil=>obtain⟨ad,rfl,q⟩:=q1;exact⟨ad,q,rfl⟩|cons _ _=>cases q1
   subst vs1;obtain⟨u,rfl,ru⟩:=r1.one;cases ru;have fin:∀(h':Heap)(tn:Nat->Heap->Prop)(J:It),Turn X.prog X.w X.K (.Tuple elts x1 tp) J [s1.heap.objs.size+1,s1.heap.objs.size] (s1.heap.objs.size+1) tn->tn 0 h'->IsEnum h' (s1.heap.objs.size+1) s1.heap.objs.size 0 .none->(∀b o,s1.heap.get? b=some o->h'.get? b=some o)->R J H1->wpAny (model X.prog X.w) X.A (pyIter (.ref (s1.heap.objs.size+1))) (PIE X pins σ (.Tuple elts x1 tp) R) X.xe {s1 with heap:=h'}:=fun h' tn J T t0 he kp q=>by
    refine wpAny_pyIter_enum he ⟨_,_,tn,J,H1,rfl,I1.kept (t':=s1.toks) kp,T,t0,fun b hb=>?_,q⟩;have hb':s1.heap.objs.size<=b:=by
     rcases mem_cons.mp hb with rfl|hb;.exact le_succ _
     . have:b=s1.heap.objs.size:=by simpa using hb
       rw[this];exact le_refl _
    exact I1.yf hb' (I1.hok.fresh hb')
   rcases q with⟨⟨xs,hq⟩,q⟩|⟨⟨xs,hq⟩,q⟩;.obtain⟨its,rv,pl,hz⟩:=I1.list hq;exact call_enumerate_list pl.isList fun h' he hi hsz kp=>fin h' _ _ (Bq ad s1.heap.objs.size (s1.heap.objs.size+1) (Nat.succ_ne_self _)) ⟨⟨_,he⟩,hi⟩ he kp q
   .obtain⟨its,rv,pl,hz⟩:=I1.tuple hq;exact jy pl fun h' he hi hsz kp=>fin h' _ _ (Bx ad s1.heap.objs.size (s1.heap.objs.size+1) (Nat.succ_ne_self _)) ⟨⟨_,he⟩,hi⟩ he kp q
end
end L2
namespace HH
open PySem L2 PySem.Spec PyProof.Rows
section
variable{K:PySem.W.Frag}{F F1 H H1:Hp}{ρ ρ1:List Sl}{σ:L2.St}{ds:List D}{a:Addr}
theorem qj{F' H':Hp}{T:Addr}{v w:V}{d1 d2:D}(sm:aL F' H')(hT:H' T=none)(r1:Rep K F' v d1)(r2:Rep K F' w d2):∃F'',Ext F' H' F'' (upd H' T (.tup [v,w]))/\Rep K F'' (.ref T) (.tup [d1,d2]):=vA (Q:=fun v jO=>∃F'',Ext F' H' F'' jO/\Rep K F'' v (.tup [d1,d2])) sm (.cons r1 (.cons r2 .nil)) hT fun v F'' jO x rn=>⟨F'',x,rn⟩
theorem GZ{xs:List V}{F' H':Hp}(hq:dI K H' a xs)(r:aG K F' xs ds)(s:aL F' H')(k:Nat):(∀d,(ds.mapIdx fun i d=>D.tup [.int (i:Int),d])[k]?=some d->(yN K a).go k H'/\∀x jO,(yN K a).Ht k H' x jO->∃F'',Ext F' H' F'' jO/\Rep K F'' x d)/\((ds.mapIdx fun i d=>D.tup [.int (i:Int),d]).length<=k->(yN K a).stop k H'):=by refine⟨fun d hd=>?_,fun h=>⟨xs,hq,by rw[r.length];simpa using h⟩⟩;rw[List.getElem?_mapIdx]at hd;obtain⟨d0,e1,e2⟩:=map_some hd;subst e2;obtain⟨w,h1,h2⟩:=r.get e1;refine⟨⟨xs,w,hq,h1⟩,?_⟩;rintro x jO⟨T,v,hT,hx,hH,y⟩;subst hx;subst hH;have:=y xs hq;rw[h1]at this;cases this;exact qj s hT (bT _) h2
theorem CT{xs:List V}{F' H':Hp}(hq:gM K H' a xs)(r:aG K F' xs ds)(s:aL F' H')(k:Nat):(∀d,(ds.mapIdx fun i d=>D.tup [.int (i:Int),d])[k]?=some d->(yq K a).go k H'/\∀x jO,(yq K a).Ht k H' x jO->∃F'',Ext F' H' F'' jO/\Rep K F'' x d)/\((ds.mapIdx fun i d=>D.tup [.int (i:Int),d]).length<=k->(yq K a).stop k H'):=by refine⟨fun d hd=>?_,fun h=>⟨xs,hq,by rw[r.length];simpa using h⟩⟩;rw[List.getElem?_mapIdx]at hd;obtain⟨d0,e1,e2⟩:=map_some hd;subst e2;obtain⟨w,h1,h2⟩:=r.get e1;refine⟨⟨xs,w,hq,h1⟩,?_⟩;rintro x jO⟨T,v,hT,hx,hH,y⟩;subst hx;subst hH;have:=y xs hq;rw[h1]at this;cases this;exact qj s hT (bT _) h2
end
section
variable{X:Cx}{c:Call}{e a:Expr}{pa:P}{pos:Pos}{elts:List Expr}{x1:Nat}{tp:Pos}
theorem Ed{x:Str}{p':Pos}(hx:x="enumerate")(hg:Gl X x)(hm:X.mg x=none)(ha:SX X c a pa)(hs:starEach [a] X.env=[(false,eval a X.env)]:=by rfl):SI X c (.Tuple elts x1 tp) (.Call (.Name x p') [a] [] pos) (.T5 pa):=by subst hx;refine kZ (Ri hg hm ha.ev hs) ?_;rintro σ H R⟨F,ρ,ds,ρ1,g,e,k⟩;obtain⟨r,ρ2,e1,e2⟩:=ak e;have zz:=aF e2;clear e2;obtain⟨e2,e3⟩:=zz;subst e3;rw[HH.E21]at e1;obtain⟨r0,ρ3,e4,e5⟩:=ak e1;have zz:=aF e5;clear e5;obtain⟨e5,e6⟩:=zz;subst e6;obtain⟨es,f1,f2⟩:=map_some e5;subst f2;cases e2;refine⟨F,ρ,r0,_,g,e4,fun v F' H' s rr=>?_⟩;obtain⟨F2,s2,_,rp⟩:=s.cU rr;cases hd:r0.d with|tup es'=>rw[hd]at f1 rp;cases f1;rw[Rep]at rp;obtain⟨ad,xs,rfl,h1,h2⟩:=rp;exact⟨ad,rfl,.inr ⟨⟨xs,aL.fO s2.gs.sub h1⟩,k _ _ _ ⟨s2.gs,fun n k F' ρ' σ' H' s'=>CT (aL.fO s'.gs.sub (aL.fO s'.cB h1)) (h2.mono s'.cB) s'.gs.sub k,fun F3 ρ3 σ3 H3 s3=>⟨s2.trans s3,fun v r rr=>rr.later s2⟩⟩⟩⟩|lst es'=>rw[hd]at f1 rp;cases f1;rw[Rep]at rp;obtain⟨ad,xs,rfl,h1,h2⟩:=rp;exact⟨ad,rfl,.inl ⟨⟨xs,s2.gs.sub.seq h1⟩,k _ _ _ ⟨s2.gs,fun n k F' ρ' σ' H' s'=>GZ (s'.gs.sub.seq (s'.cB.seq h1)) (h2.mono s'.cB) s'.gs.sub k,fun F3 ρ3 σ3 H3 s3=>⟨s2.trans s3,fun v r rr=>rr.later s2⟩⟩⟩⟩|_=>rw[hd]at f1;cases f1
end
end HH
end
section
namespace PySem
structure Nx(prog:Program)(w:World)(A:Around)(it src:Addr)(Sx:Nat->Heap->Prop)(get:Nat->Option Value):Prop where
 obj:∀k h,Sx k h->∃o,h.get? it=some o/\∀v,o.data≠.cell v
 keep:∀k h h',Sx k h->(∀o,h.get? it=some o->h'.get? it=some o)->(∀o,h.get? src=some o->h'.get? src=some o)->Sx k h'
 item:∀k(s:Shared)(Q:Value->Shared->Prop)(E:Value->Shared->Prop)x,Sx k s.heap->get k=some x->(∀h',Sx (k+1) h'->SameBut it s.heap h'->Q x {s with heap:=h'})->wpAny (model prog w) A (nextOf (.ref it)) Q E s
 fin:∀k(s:Shared)(Q:Value->Shared->Prop)(E:Value->Shared->Prop),Sx k s.heap->get k=none->(∀h' e,Heap.ExtBut it s.heap h'->(∃o,h'.get? e=some o/\o.cls=.type "StopIteration")->E (.ref e) {s with heap:=h'})->wpAny (model prog w) A (nextOf (.ref it)) Q E s
section
variable{prog:Program}{w:World}{A:Around}{E:Value->Shared->Prop}{s:Shared}
theorem Nx.list(hh:A.handled=none)(it l:Addr)(hne:l≠it)(items:Array Value):Nx prog w A it l (fun k h=>h.IsListIter it l k/\h.IsList l items) (fun k=>items[k]?)where obj:=fun k h st=>let⟨o,h1,_,h3⟩:=st.1;⟨o,h1,fun v z=>by rw[h3]at z;cases z⟩;keep:=fun k h h' st a b=>⟨(let⟨o,ho,r⟩:=st.1;⟨o,a o ho,r⟩),(let⟨o,ho,r⟩:=st.2;⟨o,b o ho,r⟩)⟩;item:=fun k s Q E x st hx hQ=>wpAny_nextOf_list_item st.1 st.2 hx fun h' hit hs=>hQ h' ⟨hit,(let⟨o,ho,r⟩:=st.2;⟨o,hs.extBut l o hne ho,r⟩)⟩ hs;fin:=fun k s Q E st hx hE=>wpAny_nextOf_list_end hh st.1 st.2 hx hE
theorem Nx.tuple(hh:A.handled=none)(it l:Addr)(hne:l≠it)(items:Array Value):Nx prog w A it l (fun k h=>h.IsTupleIter it l k/\h.IsTuple l items) (fun k=>items[k]?)where obj:=fun k h st=>let⟨o,h1,_,h3⟩:=st.1;⟨o,h1,fun v z=>by rw[h3]at z;cases z⟩;keep:=fun k h h' st a b=>⟨(let⟨o,ho,r⟩:=st.1;⟨o,a o ho,r⟩),(let⟨o,ho,r⟩:=st.2;⟨o,b o ho,r⟩)⟩;item:=fun k s Q E x st hx hQ=>gH st.1 st.2 hx fun h' hit hs=>hQ h' ⟨hit,(let⟨o,ho,r⟩:=st.2;⟨o,hs.extBut l o hne ho,r⟩)⟩ hs;fin:=fun k s Q E st hx hE=>dZ hh st.1 st.2 hx hE
variable{z TI TO i1 i2 l1 l2:Addr}{k:Nat}{S1 S2:Nat->Heap->Prop}{g1 g2:Nat->Option Value}{a b:Value}
theorem Bj{x y:Value}{Q:Value->Shared->Prop}(D:ZipApart z TI TO i1 i2 l1 l2)(N1:Nx prog w A i1 l1 S1 g1)(N2:Nx prog w A i2 l2 S2 g2)(hz:IsZip s.heap z TI TO .none)(hTI:IsPair s.heap TI (.ref i1) (.ref i2))(hTO:IsPair s.heap TO a b)(h1:S1 k s.heap)(h2:S2 k s.heap)(hx:g1 k=some x)(hy:g2 k=some y)(hQ:∀ h',IsZip h' z TI TO (rawInt s.heap.objs.size)->IsPair h' TO x y->S1 (k+1) h'->S2 (k+1) h'->IsPair h' s.heap.objs.size x y->h'.objs.size=s.heap.objs.size+1->(∀c o,c≠z->c≠TO->c≠i1->c≠i2->s.heap.get? c=some o->h'.get? c=some o)->Q (.ref s.heap.objs.size) {s with heap:=h'}):wpAny (model prog w) A (Builtin.«zip.__next__» ⟨[.ref z],[]⟩) (fun fin s'=>∃v,fin=.done (.ret v)/\Q v s') E s:=by
 show wpAny _ _ (field (.ref z) 2>>=_) _ _ _;refine wpAny_bind (wpAny_field hz rfl (x:=.bool false) rfl ?_);show wpAny _ _ (field (.ref z) 3>>=_) _ _ _;refine wpAny_bind (wpAny_field hz rfl (x:=.ref TI) rfl (wpAny_bind (wpAny_seqItems hTI rfl ?_)));show wpAny _ _ (ownedTupleIsFree (.ref z)>>=_) _ _ _;refine wpAny_bind ?_;unfold ownedTupleIsFree;refine wpAny_bind (wpAny_field hz rfl (x:=.none) rfl (wpAny_pure ?_));simp only[if_true];refine wpAny_bind (wpAny_rule (wpAny_bind (wpAny_field hz rfl (x:=.ref TO) rfl (wpAny_bind (wpAny_setField_rec hz (by simp) fun t1 z1 yU=>?_)))));have z1:IsZip t1 z TI TO .ellipsis:=z1;refine wpAny_bind ?_;simp only[List.zipIdx_cons,List.zipIdx_nil,forIn_cons,forIn_nil];refine wpAny_bind (wpAny_bind (wpAny_onRaise ?_));show wpAny _ _ (nextOf (.ref i1)>>=_) _ _ _;have q1:S1 k t1:=N1.keep _ _ _ h1 (fun o e=>yU.extBut _ _ D.i1z e) fun o e=>yU.extBut _ _ D.l1z e;refine wpAny_bind (N1.item k _ _ _ x q1 hx fun t2 q2 yV=>wpAny_pure ?_);have p2:IsPair t2 TO a b:=yV.extBut _ _ D.TOi1 (yU.extBut _ _ D.TOz hTO);refine wpAny_bind (wpAny_seqItems p2 rfl (wpAny_bind (wpAny_updateSeq_pair p2 fun t3 p3 yW=>?_)));have p3:IsPair t3 TO x b:=p3;refine wpAny_bind (wpAny_letGo (wpAny_pure (wpAny_bind (wpAny_bind (wpAny_onRaise ?_)))));show wpAny _ _ (nextOf (.ref i2)>>=_) _ _ _;have w3:S2 k t3:=N2.keep _ _ _ h2 (fun o e=>yW.extBut _ _ D.TOi2.symm (yV.extBut _ _ D.i12.symm (yU.extBut _ _ D.i2z e))) fun o e=>yW.extBut _ _ D.l2TO (yV.extBut _ _ D.l2i1 (yU.extBut _ _ D.l2z e));refine wpAny_bind (N2.item k _ _ _ y w3 hy fun t4 w4 K5=>wpAny_pure ?_);have p4:IsPair t4 TO x b:=K5.extBut _ _ D.TOi2 p3;refine wpAny_bind (wpAny_seqItems p4 rfl (wpAny_bind (wpAny_updateSeq_pair p4 fun t5 p5 HY=>?_)));have p5:IsPair t5 TO x y:=p5;refine wpAny_bind (wpAny_letGo (wpAny_pure (wpAny_pure (wpAny_bind (wpAny_seqItems p5 rfl (wpAny_bind (wpAny_newTuple ?_)))))));have hsz:t5.objs.size=s.heap.objs.size:=by rw[HY.1,K5.1,yW.1,yV.1,yU.1]
 have z5:IsZip t5 z TI TO .ellipsis:=HY.extBut _ _ D.TOz.symm (K5.extBut _ _ D.i2z.symm (yW.extBut _ _ D.TOz.symm (yV.extBut _ _ D.i1z.symm z1)));have kp:∀c o,c≠z->c≠TO->c≠i1->c≠i2->s.heap.get? c=some o->t5.get? c=some o:=fun c o c1 c2 c3 c4 e=>HY.extBut _ _ c2 (K5.extBut _ _ c4 (yW.extBut _ _ c2 (yV.extBut _ _ c3 (yU.extBut _ _ c1 e))));have q5:S1 (k+1) t5:=N1.keep _ _ _ q2 (fun o e=>HY.extBut _ _ D.TOi1.symm (K5.extBut _ _ D.i12 (yW.extBut _ _ D.TOi1.symm e))) fun o e=>HY.extBut _ _ D.l1TO (K5.extBut _ _ D.l1i2 (yW.extBut _ _ D.l1TO e));have w5:S2 (k+1) t5:=N2.keep _ _ _ w4 (fun o e=>HY.extBut _ _ D.TOi2.symm e) fun o e=>HY.extBut _ _ D.l2TO e;have zlt:z<t5.objs.size:=lt_size z5;show wpAny _ _ (ownedTupleHandOut (.ref z) (.ref t5.objs.size)>>=_) _ _ _;refine wpAny_bind ?_;unfold ownedTupleHandOut;have z6:IsZip (t5.push {cls:=.type "tuple",data:=.seq #[x,y]}) z TI TO .ellipsis:=get?_push_of_some _ z5;refine wpAny_bind (wpAny_setField_rec z6 (by simp) fun t7 z7 sb7=>?_);have z7:IsZip t7 z TI TO (rawInt t5.objs.size):=z7;refine wpAny_setField_rec z7 (by simp) fun t8 z8 sb8=>?_;have z8:IsZip t8 z TI TO (rawInt t5.objs.size):=z8;have up:∀c o,c≠z->t5.get? c=some o->t8.get? c=some o:=fun c o c1 e=>sb8.extBut _ _ c1 (sb7.extBut _ _ c1 (get?_push_of_some _ e));have T8:IsPair t8 t5.objs.size x y:=sb8.extBut _ _ (ne_of_gt zlt) (sb7.extBut _ _ (ne_of_gt zlt) (get?_push_size _ rfl));have n8:t8.objs.size=t5.objs.size+1:=by rw[sb8.1,sb7.1,size_push]
 rw[hsz]at z8 T8 n8;refine wpAny_pure ⟨_,rfl,?_⟩;show Q (.ref t5.objs.size) _;rw[hsz];exact hQ t8 z8 (up _ _ D.TOz p5) (N1.keep _ _ _ q5 (fun o e=>up _ o D.i1z e) fun o e=>up _ o D.l1z e) (N2.keep _ _ _ w5 (fun o e=>up _ o D.i2z e) fun o e=>up _ o D.l2z e) T8 n8 fun c o c1 c2 c3 c4 e=>up c o c1 (kp c o c1 c2 c3 c4 e)
theorem Dw{Q:Fin->Shared->Prop}(D:ZipApart z TI TO i1 i2 l1 l2)(N1:Nx prog w A i1 l1 S1 g1)(N2:Nx prog w A i2 l2 S2 g2)(hz:IsZip s.heap z TI TO .none)(hTI:IsPair s.heap TI (.ref i1) (.ref i2))(hTO:IsPair s.heap TO a b)(h1:S1 k s.heap)(h2:S2 k s.heap)(hend:g1 k=none\/g2 k=none)(hE:∀h' e,(∀c o,c≠z->c≠TO->c≠i1->c≠i2->s.heap.get? c=some o->h'.get? c=some o)->(∃o,h'.get? e=some o/\o.cls=.type "StopIteration")->E (.ref e) {s with heap:=h'}):wpAny (model prog w) A (Builtin.«zip.__next__» ⟨[.ref z],[]⟩) Q E s:=by
 show wpAny _ _ (field (.ref z) 2>>=_) _ _ _;refine wpAny_bind (wpAny_field hz rfl (x:=.bool false) rfl ?_);show wpAny _ _ (field (.ref z) 3>>=_) _ _ _;refine wpAny_bind (wpAny_field hz rfl (x:=.ref TI) rfl (wpAny_bind (wpAny_seqItems hTI rfl ?_)));show wpAny _ _ (ownedTupleIsFree (.ref z)>>=_) _ _ _;refine wpAny_bind ?_;unfold ownedTupleIsFree;refine wpAny_bind (wpAny_field hz rfl (x:=.none) rfl (wpAny_pure ?_));simp only[if_true];refine wpAny_bind (wpAny_rule (wpAny_bind (wpAny_field hz rfl (x:=.ref TO) rfl (wpAny_bind (wpAny_setField_rec hz (by simp) fun t1 z1 yU=>?_)))));have z1:IsZip t1 z TI TO .ellipsis:=z1;refine wpAny_bind ?_;simp only[List.zipIdx_cons,List.zipIdx_nil,forIn_cons,forIn_nil];refine wpAny_bind (wpAny_bind (wpAny_onRaise ?_))
 show wpAny _ _ (nextOf (.ref i1)>>=_) _ _ _;have q1:S1 k t1:=N1.keep _ _ _ h1 (fun o e=>yU.extBut _ _ D.i1z e) fun o e=>yU.extBut _ _ D.l1z e;cases hx:g1 k with|none=>
   refine wpAny_bind (N1.fin k _ _ _ q1 hx fun t2 e yV he=>?_);obtain⟨oe,hoe,hce⟩:=he;have z2:IsZip t2 z TI TO .ellipsis:=yV _ _ D.i1z.symm z1;have hez:e≠z:=fun x=>by subst x;rw[z2]at hoe;cases hoe;simp at hce
   exact wpAny_setField_rec z2 (by simp) fun t3 _ yW=>hE t3 e (fun c o c1 _ c3 _ x=>yW.extBut _ _ c1 (yV _ _ c3 (yU.extBut _ _ c1 x))) ⟨oe,yW.extBut _ _ hez hoe,hce⟩|some x=>
   have hy:g2 k=none:=by rcases hend with h|h;rw[hx]at h;cases h;exact h
   refine wpAny_bind (N1.item k _ _ _ x q1 hx fun t2 q2 yV=>wpAny_pure ?_);have p2:IsPair t2 TO a b:=yV.extBut _ _ D.TOi1 (yU.extBut _ _ D.TOz hTO);refine wpAny_bind (wpAny_seqItems p2 rfl (wpAny_bind (wpAny_updateSeq_pair p2 fun t3 p3 yW=>?_)));refine wpAny_bind (wpAny_letGo (wpAny_pure (wpAny_bind (wpAny_bind (wpAny_onRaise ?_)))));show wpAny _ _ (nextOf (.ref i2)>>=_) _ _ _;have w3:S2 k t3:=N2.keep _ _ _ h2 (fun o e=>yW.extBut _ _ D.TOi2.symm (yV.extBut _ _ D.i12.symm (yU.extBut _ _ D.i2z e))) fun o e=>yW.extBut _ _ D.l2TO (yV.extBut _ _ D.l2i1 (yU.extBut _ _ D.l2z e));refine wpAny_bind (N2.fin k _ _ _ w3 hy fun t4 e K5 he=>?_);obtain⟨oe,hoe,hce⟩:=he;have z4:IsZip t4 z TI TO .ellipsis:=K5 _ _ D.i2z.symm (yW.extBut _ _ D.TOz.symm (yV.extBut _ _ D.i1z.symm z1));have hez:e≠z:=fun x=>by subst x;rw[z4]at hoe;cases hoe;simp at hce
   exact wpAny_setField_rec z4 (by simp) fun t5 _ HY=>hE t5 e (fun c o c1 c2 c3 c4 x=>HY.extBut _ _ c1 (K5 _ _ c4 (yW.extBut _ _ c2 (yV.extBut _ _ c3 (yU.extBut _ _ c1 x))))) ⟨oe,HY.extBut _ _ hez hoe,hce⟩
theorem mW{x y:Value}{Q:Option Value->Shared->Prop}(D:ZipApart z TI TO i1 i2 l1 l2)(N1:Nx prog w A.in1 i1 l1 S1 g1)(N2:Nx prog w A.in1 i2 l2 S2 g2)(hz:IsZip s.heap z TI TO .none)(hTI:IsPair s.heap TI (.ref i1) (.ref i2))(hTO:IsPair s.heap TO a b)(h1:S1 k s.heap)(h2:S2 k s.heap)(hx:g1 k=some x)(hy:g2 k=some y)(hQ:∀ h',IsZip h' z TI TO (rawInt s.heap.objs.size)->IsPair h' TO x y->S1 (k+1) h'->S2 (k+1) h'->IsPair h' s.heap.objs.size x y->h'.objs.size=s.heap.objs.size+1->(∀c o,c≠z->c≠TO->c≠i1->c≠i2->s.heap.get? c=some o->h'.get? c=some o)->Q (some (.ref s.heap.objs.size)) {s with heap:=h'}):wpAny (model prog w) A (pyNext (.ref z)) Q E s:=by have hT:s.TypeIs (.ref z) "zip":=⟨_,hz,rfl⟩;unfold pyNext;exact wpAny_bind (wpAny_attempt (wpAny_callSpecial?_slot (name:=Str.ofString "__next__") hT F.slot_zip_next (wpAny_call_entry F.slot_zip_next hT F.entry_zip_next (Bj D N1 N2 hz hTI hTO h1 h2 hx hy fun h' a1 a2 a3 a4 a5 a6 a7=>wpAny_pure (hQ h' a1 a2 a3 a4 a5 a6 a7)) (F.args_zip_next_1 _))))
theorem nT{Q:Option Value->Shared->Prop}(D:ZipApart z TI TO i1 i2 l1 l2)(N1:Nx prog w A.in1 i1 l1 S1 g1)(N2:Nx prog w A.in1 i2 l2 S2 g2)(hz:IsZip s.heap z TI TO .none)(hTI:IsPair s.heap TI (.ref i1) (.ref i2))(hTO:IsPair s.heap TO a b)(h1:S1 k s.heap)(h2:S2 k s.heap)(hend:g1 k=none\/g2 k=none)(hQ:∀h',(∀c o,c≠z->c≠TO->c≠i1->c≠i2->s.heap.get? c=some o->h'.get? c=some o)->Q none {s with heap:=h'}):wpAny (model prog w) A (pyNext (.ref z)) Q E s:=by have hT:s.TypeIs (.ref z) "zip":=⟨_,hz,rfl⟩;unfold pyNext;refine wpAny_bind (wpAny_attempt (wpAny_callSpecial?_slot (name:=Str.ofString "__next__") hT F.slot_zip_next (wpAny_call_entry F.slot_zip_next hT F.entry_zip_next (Dw D N1 N2 hz hTI hTO h1 h2 hend fun h' e hk he=>?_) (F.args_zip_next_1 _))));obtain⟨o,ho,hc⟩:=he;exact wpAny_bind (wpAny_isInstance (T:="StopIteration") (b:=true) ⟨o,ho,hc⟩ isSubtype_stop (wpAny_pure (hQ _ hk)))
end
theorem nQ(l1 l2:Addr)(xs ys:Array Value):Meets (Builtin.«zip.__new__» ⟨[.type "zip",.ref l1,.ref l2],[]⟩) (fun _ R s=>s.heap.IsList l1 xs/\s.heap.IsList l2 ys/\R (.ok (.ret (.ref (s.heap.objs.size+4)))) {s with heap:=((((s.heap.push {cls:=.type "list_iterator",data:=.fields #[.ref l1,.int 0 0]}).push {cls:=.type "list_iterator",data:=.fields #[.ref l2,.int 0 0]}).push {cls:=.type "tuple",data:=.seq #[.ref s.heap.objs.size,.ref (s.heap.objs.size+1)]}).push {cls:=.type "tuple",data:=.seq #[.none,.none]}).push {cls:=.type "zip",data:=.fields #[.none,.bool false,.bool false,.ref (s.heap.objs.size+2),.ref (s.heap.objs.size+3)]}}):=.of_wp fun prog w A R s h=>by obtain⟨hp,g,d,tk,os⟩:=s;obtain⟨hl1,hl2,h⟩:=h;have hsub:=sub_zip;have hL1:IsList (Shared.heap ⟨hp,g,d,tk,os⟩) l1 xs:=hl1;have hL2:IsList (Shared.heap ⟨hp.push {cls:=.type "list_iterator",data:=.fields #[.ref l1,.int 0 0]},g,d,tk,os⟩) l2 ys:=Heap.IsList.push hl2 _;wp_walk using wpAny_pyIter_list hL1,wpAny_pyIter_list hL2;simp only[size_push]at*;exact⟨_,rfl,h⟩
section
variable{prog:Program}{w:World}{A:Around}{E:Value->Shared->Prop}{s:Shared}
theorem yh{l1 l2:Addr}{xs ys:Array Value}{Q:Value->Shared->Prop}(hl1:s.heap.IsList l1 xs)(hl2:s.heap.IsList l2 ys)(h:∀ h',IsZip h' (s.heap.objs.size+4) (s.heap.objs.size+2) (s.heap.objs.size+3) .none->IsPair h' (s.heap.objs.size+2) (.ref s.heap.objs.size) (.ref (s.heap.objs.size+1))->IsPair h' (s.heap.objs.size+3) .none .none->h'.IsListIter s.heap.objs.size l1 0->h'.IsListIter (s.heap.objs.size+1) l2 0->(∀c o,s.heap.get? c=some o->h'.get? c=some o)->Q (.ref (s.heap.objs.size+4)) {s with heap:=h'}):wpAny (model prog w) A (call (.type "zip") [.ref l1,.ref l2]) Q E s:=by
 refine callType_new F.called_zip (by decide) (F.typeCall_zip_2 _ _) (F.newCall_zip_2 _ _) (fun obj=>F.args_object_init_3 obj _ _) F.entry_zip_new (nQ l1 l2 xs ys) ⟨hl1,hl2,?_⟩;generalize e1:s.heap.push {cls:=.type "list_iterator",data:=.fields #[.ref l1,.int 0 0]}=t1;have n1:t1.objs.size=s.heap.objs.size+1:=by rw[<-e1,size_push]
 have a1:t1.get? s.heap.objs.size=some {cls:=.type "list_iterator",data:=.fields #[.ref l1,.int 0 0]}:=by rw[<-e1];exact get?_push_size _ rfl
 have k1:∀c o,s.heap.get? c=some o->t1.get? c=some o:=fun c o e=>by rw[<-e1];exact get?_push_of_some _ e
 generalize e2:t1.push {cls:=.type "list_iterator",data:=.fields #[.ref l2,.int 0 0]}=t2;have n2:t2.objs.size=s.heap.objs.size+2:=by rw[<-e2,size_push,n1]
 have a2:t2.get? (s.heap.objs.size+1)=some {cls:=.type "list_iterator",data:=.fields #[.ref l2,.int 0 0]}:=by rw[<-n1,<-e2];exact get?_push_size _ rfl
 have k2:∀c o,t1.get? c=some o->t2.get? c=some o:=fun c o e=>by rw[<-e2];exact get?_push_of_some _ e
 generalize e3:t2.push {cls:=.type "tuple",data:=.seq #[.ref s.heap.objs.size,.ref (s.heap.objs.size+1)]}=t3;have n3:t3.objs.size=s.heap.objs.size+3:=by rw[<-e3,size_push,n2]
 have a3:t3.get? (s.heap.objs.size+2)=some {cls:=.type "tuple",data:=.seq #[.ref s.heap.objs.size,.ref (s.heap.objs.size+1)]}:=by rw[<-n2,<-e3];exact get?_push_size _ rfl
 have k3:∀c o,t2.get? c=some o->t3.get? c=some o:=fun c o e=>by rw[<-e3];exact get?_push_of_some _ e
 generalize e4:t3.push {cls:=.type "tuple",data:=.seq #[.none,.none]}=t4;have n4:t4.objs.size=s.heap.objs.size+4:=by rw[<-e4,size_push,n3]
 have a4:t4.get? (s.heap.objs.size+3)=some {cls:=.type "tuple",data:=.seq #[.none,.none]}:=by rw[<-n3,<-e4];exact get?_push_size _ rfl
 have k4:∀c o,t3.get? c=some o->t4.get? c=some o:=fun c o e=>by rw[<-e4];exact get?_push_of_some _ e
 generalize e5:t4.push {cls:=.type "zip",data:=.fields #[.none,.bool false,.bool false,.ref (s.heap.objs.size+2),.ref (s.heap.objs.size+3)]}=t5;have a5:t5.get? (s.heap.objs.size+4)=some {cls:=.type "zip",data:=.fields #[.none,.bool false,.bool false,.ref (s.heap.objs.size+2),.ref (s.heap.objs.size+3)]}:=by rw[<-n4,<-e5];exact get?_push_size _ rfl
 have k5:∀c o,t4.get? c=some o->t5.get? c=some o:=fun c o e=>by rw[<-e5];exact get?_push_of_some _ e
 exact⟨⟨_,a5,rfl⟩,h t5 a5 (k5 _ _ (k4 _ _ a3)) (k5 _ _ a4) ⟨_,k5 _ _ (k4 _ _ (k3 _ _ (k2 _ _ a1))),rfl,rfl⟩ ⟨_,k5 _ _ (k4 _ _ (k3 _ _ a2)),rfl,rfl⟩ fun c o e=>k5 _ _ (k4 _ _ (k3 _ _ (k2 _ _ (k1 _ _ e))))⟩
end
theorem nP(l1 l2:Addr)(xs ys:Array Value):Meets (Builtin.«zip.__new__» ⟨[.type "zip",.ref l1,.ref l2],[]⟩) (fun _ R s=>s.heap.IsList l1 xs/\s.heap.IsTuple l2 ys/\R (.ok (.ret (.ref (s.heap.objs.size+4)))) {s with heap:=((((s.heap.push {cls:=.type "list_iterator",data:=.fields #[.ref l1,.int 0 0]}).push {cls:=.type "tuple_iterator",data:=.fields #[.ref l2,.int 0 0]}).push {cls:=.type "tuple",data:=.seq #[.ref s.heap.objs.size,.ref (s.heap.objs.size+1)]}).push {cls:=.type "tuple",data:=.seq #[.none,.none]}).push {cls:=.type "zip",data:=.fields #[.none,.bool false,.bool false,.ref (s.heap.objs.size+2),.ref (s.heap.objs.size+3)]}}):=.of_wp fun prog w A R s h=>by obtain⟨hp,g,d,tk,os⟩:=s;obtain⟨hl1,hl2,h⟩:=h;have hsub:=sub_zip;have hL1:IsList (Shared.heap ⟨hp,g,d,tk,os⟩) l1 xs:=hl1;have hL2:IsTuple (Shared.heap ⟨hp.push {cls:=.type "list_iterator",data:=.fields #[.ref l1,.int 0 0]},g,d,tk,os⟩) l2 ys:=Heap.IsTuple.push hl2 _;wp_walk using wpAny_pyIter_list hL1,wpAny_pyIter_tuple hL2;simp only[size_push]at*;exact⟨_,rfl,h⟩
section
variable{prog:Program}{w:World}{A:Around}{E:Value->Shared->Prop}{s:Shared}
theorem yw{l1 l2:Addr}{xs ys:Array Value}{Q:Value->Shared->Prop}(hl1:s.heap.IsList l1 xs)(hl2:s.heap.IsTuple l2 ys)(h:∀ h',IsZip h' (s.heap.objs.size+4) (s.heap.objs.size+2) (s.heap.objs.size+3) .none->IsPair h' (s.heap.objs.size+2) (.ref s.heap.objs.size) (.ref (s.heap.objs.size+1))->IsPair h' (s.heap.objs.size+3) .none .none->h'.IsListIter s.heap.objs.size l1 0->h'.IsTupleIter (s.heap.objs.size+1) l2 0->(∀c o,s.heap.get? c=some o->h'.get? c=some o)->Q (.ref (s.heap.objs.size+4)) {s with heap:=h'}):wpAny (model prog w) A (call (.type "zip") [.ref l1,.ref l2]) Q E s:=by
 refine callType_new F.called_zip (by decide) (F.typeCall_zip_2 _ _) (F.newCall_zip_2 _ _) (fun obj=>F.args_object_init_3 obj _ _) F.entry_zip_new (nP l1 l2 xs ys) ⟨hl1,hl2,?_⟩;generalize e1:s.heap.push {cls:=.type "list_iterator",data:=.fields #[.ref l1,.int 0 0]}=t1;have n1:t1.objs.size=s.heap.objs.size+1:=by rw[<-e1,size_push]
 have a1:t1.get? s.heap.objs.size=some {cls:=.type "list_iterator",data:=.fields #[.ref l1,.int 0 0]}:=by rw[<-e1];exact get?_push_size _ rfl
 have k1:∀c o,s.heap.get? c=some o->t1.get? c=some o:=fun c o e=>by rw[<-e1];exact get?_push_of_some _ e
 generalize e2:t1.push {cls:=.type "tuple_iterator",data:=.fields #[.ref l2,.int 0 0]}=t2;have n2:t2.objs.size=s.heap.objs.size+2:=by rw[<-e2,size_push,n1]
 have a2:t2.get? (s.heap.objs.size+1)=some {cls:=.type "tuple_iterator",data:=.fields #[.ref l2,.int 0 0]}:=by rw[<-n1,<-e2];exact get?_push_size _ rfl
 have k2:∀c o,t1.get? c=some o->t2.get? c=some o:=fun c o e=>by rw[<-e2];exact get?_push_of_some _ e
 generalize e3:t2.push {cls:=.type "tuple",data:=.seq #[.ref s.heap.objs.size,.ref (s.heap.objs.size+1)]}=t3;have n3:t3.objs.size=s.heap.objs.size+3:=by rw[<-e3,size_push,n2]
 have a3:t3.get? (s.heap.objs.size+2)=some {cls:=.type "tuple",data:=.seq #[.ref s.heap.objs.size,.ref (s.heap.objs.size+1)]}:=by rw[<-n2,<-e3];exact get?_push_size _ rfl
 have k3:∀c o,t2.get? c=some o->t3.get? c=some o:=fun c o e=>by rw[<-e3];exact get?_push_of_some _ e
 generalize e4:t3.push {cls:=.type "tuple",data:=.seq #[.none,.none]}=t4;have n4:t4.objs.size=s.heap.objs.size+4:=by rw[<-e4,size_push,n3]
 have a4:t4.get? (s.heap.objs.size+3)=some {cls:=.type "tuple",data:=.seq #[.none,.none]}:=by rw[<-n3,<-e4];exact get?_push_size _ rfl
 have k4:∀c o,t3.get? c=some o->t4.get? c=some o:=fun c o e=>by rw[<-e4];exact get?_push_of_some _ e
 generalize e5:t4.push {cls:=.type "zip",data:=.fields #[.none,.bool false,.bool false,.ref (s.heap.objs.size+2),.ref (s.heap.objs.size+3)]}=t5;have a5:t5.get? (s.heap.objs.size+4)=some {cls:=.type "zip",data:=.fields #[.none,.bool false,.bool false,.ref (s.heap.objs.size+2),.ref (s.heap.objs.size+3)]}:=by rw[<-n4,<-e5];exact get?_push_size _ rfl
 have k5:∀c o,t4.get? c=some o->t5.get? c=some o:=fun c o e=>by rw[<-e5];exact get?_push_of_some _ e
 exact⟨⟨_,a5,rfl⟩,h t5 a5 (k5 _ _ (k4 _ _ a3)) (k5 _ _ a4) ⟨_,k5 _ _ (k4 _ _ (k3 _ _ (k2 _ _ a1))),rfl,rfl⟩ ⟨_,k5 _ _ (k4 _ _ (k3 _ _ a2)),rfl,rfl⟩ fun c o e=>k5 _ _ (k4 _ _ (k3 _ _ (k2 _ _ (k1 _ _ e))))⟩
end
theorem nZ(l1 l2:Addr)(xs ys:Array Value):Meets (Builtin.«zip.__new__» ⟨[.type "zip",.ref l1,.ref l2],[]⟩) (fun _ R s=>s.heap.IsTuple l1 xs/\s.heap.IsList l2 ys/\R (.ok (.ret (.ref (s.heap.objs.size+4)))) {s with heap:=((((s.heap.push {cls:=.type "tuple_iterator",data:=.fields #[.ref l1,.int 0 0]}).push {cls:=.type "list_iterator",data:=.fields #[.ref l2,.int 0 0]}).push {cls:=.type "tuple",data:=.seq #[.ref s.heap.objs.size,.ref (s.heap.objs.size+1)]}).push {cls:=.type "tuple",data:=.seq #[.none,.none]}).push {cls:=.type "zip",data:=.fields #[.none,.bool false,.bool false,.ref (s.heap.objs.size+2),.ref (s.heap.objs.size+3)]}}):=.of_wp fun prog w A R s h=>by obtain⟨hp,g,d,tk,os⟩:=s;obtain⟨hl1,hl2,h⟩:=h;have hsub:=sub_zip;have hL1:IsTuple (Shared.heap ⟨hp,g,d,tk,os⟩) l1 xs:=hl1;have hL2:IsList (Shared.heap ⟨hp.push {cls:=.type "tuple_iterator",data:=.fields #[.ref l1,.int 0 0]},g,d,tk,os⟩) l2 ys:=Heap.IsList.push hl2 _;wp_walk using wpAny_pyIter_tuple hL1,wpAny_pyIter_list hL2;simp only[size_push]at*;exact⟨_,rfl,h⟩
section
variable{prog:Program}{w:World}{A:Around}{E:Value->Shared->Prop}{s:Shared}
theorem yE{l1 l2:Addr}{xs ys:Array Value}{Q:Value->Shared->Prop}(hl1:s.heap.IsTuple l1 xs)(hl2:s.heap.IsList l2 ys)(h:∀ h',IsZip h' (s.heap.objs.size+4) (s.heap.objs.size+2) (s.heap.objs.size+3) .none->IsPair h' (s.heap.objs.size+2) (.ref s.heap.objs.size) (.ref (s.heap.objs.size+1))->IsPair h' (s.heap.objs.size+3) .none .none->h'.IsTupleIter s.heap.objs.size l1 0->h'.IsListIter (s.heap.objs.size+1) l2 0->(∀c o,s.heap.get? c=some o->h'.get? c=some o)->Q (.ref (s.heap.objs.size+4)) {s with heap:=h'}):wpAny (model prog w) A (call (.type "zip") [.ref l1,.ref l2]) Q E s:=by
 refine callType_new F.called_zip (by decide) (F.typeCall_zip_2 _ _) (F.newCall_zip_2 _ _) (fun obj=>F.args_object_init_3 obj _ _) F.entry_zip_new (nZ l1 l2 xs ys) ⟨hl1,hl2,?_⟩;generalize e1:s.heap.push {cls:=.type "tuple_iterator",data:=.fields #[.ref l1,.int 0 0]}=t1;have n1:t1.objs.size=s.heap.objs.size+1:=by rw[<-e1,size_push]
 have a1:t1.get? s.heap.objs.size=some {cls:=.type "tuple_iterator",data:=.fields #[.ref l1,.int 0 0]}:=by rw[<-e1];exact get?_push_size _ rfl
 have k1:∀c o,s.heap.get? c=some o->t1.get? c=some o:=fun c o e=>by rw[<-e1];exact get?_push_of_some _ e
 generalize e2:t1.push {cls:=.type "list_iterator",data:=.fields #[.ref l2,.int 0 0]}=t2;have n2:t2.objs.size=s.heap.objs.size+2:=by rw[<-e2,size_push,n1]
 have a2:t2.get? (s.heap.objs.size+1)=some {cls:=.type "list_iterator",data:=.fields #[.ref l2,.int 0 0]}:=by rw[<-n1,<-e2];exact get?_push_size _ rfl
 have k2:∀c o,t1.get? c=some o->t2.get? c=some o:=fun c o e=>by rw[<-e2];exact get?_push_of_some _ e
 generalize e3:t2.push {cls:=.type "tuple",data:=.seq #[.ref s.heap.objs.size,.ref (s.heap.objs.size+1)]}=t3;have n3:t3.objs.size=s.heap.objs.size+3:=by rw[<-e3,size_push,n2]
 have a3:t3.get? (s.heap.objs.size+2)=some {cls:=.type "tuple",data:=.seq #[.ref s.heap.objs.size,.ref (s.heap.objs.size+1)]}:=by rw[<-n2,<-e3];exact get?_push_size _ rfl
 have k3:∀c o,t2.get? c=some o->t3.get? c=some o:=fun c o e=>by rw[<-e3];exact get?_push_of_some _ e
 generalize e4:t3.push {cls:=.type "tuple",data:=.seq #[.none,.none]}=t4;have n4:t4.objs.size=s.heap.objs.size+4:=by rw[<-e4,size_push,n3]
 have a4:t4.get? (s.heap.objs.size+3)=some {cls:=.type "tuple",data:=.seq #[.none,.none]}:=by rw[<-n3,<-e4];exact get?_push_size _ rfl
 have k4:∀c o,t3.get? c=some o->t4.get? c=some o:=fun c o e=>by rw[<-e4];exact get?_push_of_some _ e
 generalize e5:t4.push {cls:=.type "zip",data:=.fields #[.none,.bool false,.bool false,.ref (s.heap.objs.size+2),.ref (s.heap.objs.size+3)]}=t5;have a5:t5.get? (s.heap.objs.size+4)=some {cls:=.type "zip",data:=.fields #[.none,.bool false,.bool false,.ref (s.heap.objs.size+2),.ref (s.heap.objs.size+3)]}:=by rw[<-n4,<-e5];exact get?_push_size _ rfl
 have k5:∀c o,t4.get? c=some o->t5.get? c=some o:=fun c o e=>by rw[<-e5];exact get?_push_of_some _ e
 exact⟨⟨_,a5,rfl⟩,h t5 a5 (k5 _ _ (k4 _ _ a3)) (k5 _ _ a4) ⟨_,k5 _ _ (k4 _ _ (k3 _ _ (k2 _ _ a1))),rfl,rfl⟩ ⟨_,k5 _ _ (k4 _ _ (k3 _ _ a2)),rfl,rfl⟩ fun c o e=>k5 _ _ (k4 _ _ (k3 _ _ (k2 _ _ (k1 _ _ e))))⟩
end
theorem nJ(l1 l2:Addr)(xs ys:Array Value):Meets (Builtin.«zip.__new__» ⟨[.type "zip",.ref l1,.ref l2],[]⟩) (fun _ R s=>s.heap.IsTuple l1 xs/\s.heap.IsTuple l2 ys/\R (.ok (.ret (.ref (s.heap.objs.size+4)))) {s with heap:=((((s.heap.push {cls:=.type "tuple_iterator",data:=.fields #[.ref l1,.int 0 0]}).push {cls:=.type "tuple_iterator",data:=.fields #[.ref l2,.int 0 0]}).push {cls:=.type "tuple",data:=.seq #[.ref s.heap.objs.size,.ref (s.heap.objs.size+1)]}).push {cls:=.type "tuple",data:=.seq #[.none,.none]}).push {cls:=.type "zip",data:=.fields #[.none,.bool false,.bool false,.ref (s.heap.objs.size+2),.ref (s.heap.objs.size+3)]}}):=.of_wp fun prog w A R s h=>by obtain⟨hp,g,d,tk,os⟩:=s;obtain⟨hl1,hl2,h⟩:=h;have hsub:=sub_zip;have hL1:IsTuple (Shared.heap ⟨hp,g,d,tk,os⟩) l1 xs:=hl1;have hL2:IsTuple (Shared.heap ⟨hp.push {cls:=.type "tuple_iterator",data:=.fields #[.ref l1,.int 0 0]},g,d,tk,os⟩) l2 ys:=Heap.IsTuple.push hl2 _;wp_walk using wpAny_pyIter_tuple hL1,wpAny_pyIter_tuple hL2;simp only[size_push]at*;exact⟨_,rfl,h⟩
section
variable{prog:Program}{w:World}{A:Around}{E:Value->Shared->Prop}{s:Shared}
theorem yK{l1 l2:Addr}{xs ys:Array Value}{Q:Value->Shared->Prop}(hl1:s.heap.IsTuple l1 xs)(hl2:s.heap.IsTuple l2 ys)(h:∀ h',IsZip h' (s.heap.objs.size+4) (s.heap.objs.size+2) (s.heap.objs.size+3) .none->IsPair h' (s.heap.objs.size+2) (.ref s.heap.objs.size) (.ref (s.heap.objs.size+1))->IsPair h' (s.heap.objs.size+3) .none .none->h'.IsTupleIter s.heap.objs.size l1 0->h'.IsTupleIter (s.heap.objs.size+1) l2 0->(∀c o,s.heap.get? c=some o->h'.get? c=some o)->Q (.ref (s.heap.objs.size+4)) {s with heap:=h'}):wpAny (model prog w) A (call (.type "zip") [.ref l1,.ref l2]) Q E s:=by
 refine callType_new F.called_zip (by decide) (F.typeCall_zip_2 _ _) (F.newCall_zip_2 _ _) (fun obj=>F.args_object_init_3 obj _ _) F.entry_zip_new (nJ l1 l2 xs ys) ⟨hl1,hl2,?_⟩;generalize e1:s.heap.push {cls:=.type "tuple_iterator",data:=.fields #[.ref l1,.int 0 0]}=t1;have n1:t1.objs.size=s.heap.objs.size+1:=by rw[<-e1,size_push]
 have a1:t1.get? s.heap.objs.size=some {cls:=.type "tuple_iterator",data:=.fields #[.ref l1,.int 0 0]}:=by rw[<-e1];exact get?_push_size _ rfl
 have k1:∀c o,s.heap.get? c=some o->t1.get? c=some o:=fun c o e=>by rw[<-e1];exact get?_push_of_some _ e
 generalize e2:t1.push {cls:=.type "tuple_iterator",data:=.fields #[.ref l2,.int 0 0]}=t2;have n2:t2.objs.size=s.heap.objs.size+2:=by rw[<-e2,size_push,n1]
 have a2:t2.get? (s.heap.objs.size+1)=some {cls:=.type "tuple_iterator",data:=.fields #[.ref l2,.int 0 0]}:=by rw[<-n1,<-e2];exact get?_push_size _ rfl
 have k2:∀c o,t1.get? c=some o->t2.get? c=some o:=fun c o e=>by rw[<-e2];exact get?_push_of_some _ e
 generalize e3:t2.push {cls:=.type "tuple",data:=.seq #[.ref s.heap.objs.size,.ref (s.heap.objs.size+1)]}=t3;have n3:t3.objs.size=s.heap.objs.size+3:=by rw[<-e3,size_push,n2]
 have a3:t3.get? (s.heap.objs.size+2)=some {cls:=.type "tuple",data:=.seq #[.ref s.heap.objs.size,.ref (s.heap.objs.size+1)]}:=by rw[<-n2,<-e3];exact get?_push_size _ rfl
 have k3:∀c o,t2.get? c=some o->t3.get? c=some o:=fun c o e=>by rw[<-e3];exact get?_push_of_some _ e
 generalize e4:t3.push {cls:=.type "tuple",data:=.seq #[.none,.none]}=t4;have n4:t4.objs.size=s.heap.objs.size+4:=by rw[<-e4,size_push,n3]
 have a4:t4.get? (s.heap.objs.size+3)=some {cls:=.type "tuple",data:=.seq #[.none,.none]}:=by rw[<-n3,<-e4];exact get?_push_size _ rfl
 have k4:∀c o,t3.get? c=some o->t4.get? c=some o:=fun c o e=>by rw[<-e4];exact get?_push_of_some _ e
 generalize e5:t4.push {cls:=.type "zip",data:=.fields #[.none,.bool false,.bool false,.ref (s.heap.objs.size+2),.ref (s.heap.objs.size+3)]}=t5;have a5:t5.get? (s.heap.objs.size+4)=some {cls:=.type "zip",data:=.fields #[.none,.bool false,.bool false,.ref (s.heap.objs.size+2),.ref (s.heap.objs.size+3)]}:=by rw[<-n4,<-e5];exact get?_push_size _ rfl
 have k5:∀c o,t4.get? c=some o->t5.get? c=some o:=fun c o e=>by rw[<-e5];exact get?_push_of_some _ e
 exact⟨⟨_,a5,rfl⟩,h t5 a5 (k5 _ _ (k4 _ _ a3)) (k5 _ _ a4) ⟨_,k5 _ _ (k4 _ _ (k3 _ _ (k2 _ _ a1))),rfl,rfl⟩ ⟨_,k5 _ _ (k4 _ _ (k3 _ _ a2)),rfl,rfl⟩ fun c o e=>k5 _ _ (k4 _ _ (k3 _ _ (k2 _ _ (k1 _ _ e))))⟩
end
end PySem
end
section
namespace L2
open PySem PySem.Spec PyProof.Rows
def Sq(t:Bool)(K:PySem.W.Frag)(H:Hp)(a:Addr)(xs:List V):Prop:=if t then gM K H a xs else dI K H a xs
def RK(t:Bool)(h:Heap)(a:Addr)(xs:Array Value):Prop:=if t then h.IsTuple a xs else h.IsList a xs
def CK(t:Bool)(h:Heap)(i a:Addr)(k:Nat):Prop:=if t then h.IsTupleIter i a k else h.IsListIter i a k
section
variable{X:Cx}{pins:List (Addr×Obj)}{σ:L2.St}{H:Hp}{s:Shared}
theorem Inv.sq{t:Bool}{a:Addr}{xs:List V}(I:Inv X pins σ H s)(h:Sq t X.K H a xs):∃its:List Value,Vals xs its/\RK t s.heap a its.toArray:=by cases t with|true=>obtain⟨its,rv,pl,_⟩:=I.tuple h;exact⟨its,rv,pl⟩|false=>obtain⟨its,rv,pl,_⟩:=I.list h;exact⟨its,rv,pl.isList⟩
theorem Inv.Gx{t:Bool}{a:Addr}{xs ys:List V}(I:Inv X pins σ H s)(h:Sq t X.K H a xs)(h':Sq t X.K H a ys):xs=ys:=by cases t with|true=>exact I.jN h h'|false=>exact I.lV h h'
theorem RK.lt{t:Bool}{h:Heap}{a:Addr}{xs:Array Value}(q:RK t h a xs):a<h.objs.size:=by cases t with|true=>obtain⟨o,e,_⟩:=id q;exact lt_size e|false=>obtain⟨o,e,_⟩:=id q;exact lt_size e
theorem CK.obj{t:Bool}{h:Heap}{i a:Addr}{k:Nat}(q:CK t h i a k):∃o,h.get? i=some o/\∀v,o.data≠.cell v:=by cases t with|true=>obtain⟨o,h2,h3,h4⟩:=id q;exact⟨o,h2,fun v z=>by rw[h4]at z;cases z⟩|false=>obtain⟨o,h2,h3,h4⟩:=id q;exact⟨o,h2,fun v z=>by rw[h4]at z;cases z⟩
theorem CK.keep{t:Bool}{h h':Heap}{i a:Addr}{k:Nat}(q:CK t h i a k)(e:∀o,h.get? i=some o->h'.get? i=some o):CK t h' i a k:=by cases t with|true=>obtain⟨o,h2,r⟩:=id q;exact⟨o,e o h2,r⟩|false=>obtain⟨o,h2,r⟩:=id q;exact⟨o,e o h2,r⟩
theorem JQ(t:Bool){prog:Program}{w:World}{A:Around}(hh:A.handled=none)(it l:Addr)(hne:l≠it)(items:Array Value):Nx prog w A it l (fun k h=>CK t h it l k/\RK t h l items) (fun k=>items[k]?):=by cases t with|true=>exact Nx.tuple hh it l hne items|false=>exact Nx.list hh it l hne items
theorem Inv.Fv{ch:List Addr}{h':Heap}(I:Inv X pins σ H s)(k:∀b u,b∉ch->s.heap.get? b=some u->h'.get? b=some u)(hf:∀b∈ch,mK X pins H b):Inv X pins σ H {s with heap:=h'}:=by
 have Hs:∀b u,H b=some u->b∉ch:=fun b u e hb=>by rw[(hf b hb).1]at e;cases e
 refine I.call (g':=s.gens) (d':=s.drawn) (t':=s.toks) (ch:=ch) ⟨fun b u e n _ hx=>k b u hx e,fun b u e n _ hx=>⟨u.slots,k b u hx e⟩,fun b u e n hx=>n,fun b u e hx=>⟨u,k b u hx e⟩,fun b xs e=>e,fun b ob u e=>e,fun b ps e=>⟨#[],by rw[e];simp⟩⟩ ?_ I.bare fun b hb=>⟨(hf b hb).2.2.2.1,(hf b hb).2.1,(hf b hb).2.2.2.2.1,(hf b hb).2.2.2.2.2⟩;intro b u e;refine(I.hok b u e).stay (fun c v hc q=>k c v ?_ q) (fun c q=>q) fun c xs q=>q;rcases hc with rfl|hc;.exact Hs _ _ e
 .exact Hs _ _ hc
end
noncomputable def Va(t1 t2:Bool)(K:PySem.W.Frag)(a b:Addr):It:=⟨fun i H=>∃ xs ys x y,Sq t1 K H a xs/\Sq t2 K H b ys/\xs[i]?=some x/\ys[i]?=some y,fun i H x H'=>∃T v w,H T=none/\x=.ref T/\H'=upd H T (.tup [v,w])/\(∀xs,Sq t1 K H a xs->xs[i]?=some v)/\∀ys,Sq t2 K H b ys->ys[i]?=some w,fun i H=>∃xs ys,Sq t1 K H a xs/\Sq t2 K H b ys/\(xs.length<=i\/ys.length<=i)⟩
theorem El{P:Program}{w:World}{K:PySem.W.Frag}{elts:List Expr}{x1}{tp:Pos}(t1 t2:Bool){z TI TO i1 i2 l1 l2:Addr}(D:ZipApart z TI TO i1 i2 l1 l2):Turn P w K (.Tuple elts x1 tp) (Va t1 t2 K l1 l2) [z,TI,TO,i1,i2] z (fun i h=>IsZip h z TI TO .none/\IsPair h TI (.ref i1) (.ref i2)/\(∃a b,IsPair h TO a b)/\CK t1 h i1 l1 i/\CK t2 h i2 l2 i)where
 mem:=by simp
 obj:=fun i h st b hb=>by
  obtain⟨h1,h2,⟨u,v,h3⟩,h4,h5⟩:=st;simp only[mem_cons,not_mem_nil,or_false]at hb;rcases hb with rfl|rfl|rfl|rfl|rfl;.exact⟨_,h1,fun v z=>by cases z⟩
  .exact⟨_,h2,fun v z=>by cases z⟩
  .exact⟨_,h3,fun v z=>by cases z⟩
  .exact h4.obj
  .exact h5.obj
 keep:=fun i h h' st k=>by obtain⟨h1,h2,⟨u,v,h3⟩,h4,h5⟩:=st;exact⟨k z (by simp) _ h1,k TI (by simp) _ h2,⟨u,v,k TO (by simp) _ h3⟩,h4.keep (k i1 (by simp)),h5.keep (k i2 (by simp))⟩
 item:=fun X hP hw hK hc i pins s σ H E I hf st go=>by
  subst hP hw hK;obtain⟨h1,h2,⟨u,v,h3⟩,h4,h5⟩:=st;obtain⟨xs,ys,x,y,hq1,hq2,hx,hy⟩:=go;obtain⟨K6,Zq,Ua⟩:=I.sq hq1;obtain⟨its2,Rw,M6⟩:=I.sq hq2;obtain⟨ux,hu1,hu2⟩:=Zq.get hx;obtain⟨uy,hw1,hw2⟩:=Rw.get hy;have hh:X.A.in1.handled=none:=I.ok.hd hc;refine mW D (JQ t1 hh i1 l1 D.l1i1 K6.toArray) (JQ t2 hh i2 l2 D.l2i2 its2.toArray) h1 h2 h3 (k:=i) ⟨h4,Ua⟩ ⟨h5,M6⟩ (x:=ux) (y:=uy) (by simpa using hu1) (by simpa using hw1) fun h' z1 p1 s1 s2 pT hsz kp=>?_;refine⟨_,rfl,wpAny_letOwnedTupleGo_zip z1 fun h'' z2 sb=>?_⟩;have hlt:∀b∈[z,TI,TO,i1,i2],b≠s.heap.objs.size:=fun b hb=>by
   simp only[mem_cons,not_mem_nil,or_false]at hb;rcases hb with rfl|rfl|rfl|rfl|rfl;.exact ne_of_lt (lt_size h1)
   .exact ne_of_lt (lt_size h2)
   .exact ne_of_lt (lt_size h3)
   .exact ne_of_lt (lt_size h4.obj.choose_spec.1)
   .exact ne_of_lt (lt_size h5.obj.choose_spec.1)
  have T9:∀b o,b∉[z,TO,i1,i2]->s.heap.get? b=some o->h''.get? b=some o:=fun b o hb q=>by simp only[mem_cons,not_mem_nil,or_false,not_or]at hb;exact sb.extBut b o hb.1 (kp b o hb.1 hb.2.1 hb.2.2.1 hb.2.2.2 q)
  have pT2:IsPair h'' s.heap.objs.size ux uy:=sb.extBut _ _ (hlt z (by simp)).symm pT;have p2:IsPair h'' TO ux uy:=sb.extBut _ _ D.TOz p1;have j1:CK t1 h'' i1 l1 (i+1):=s1.1.keep fun o e=>sb.extBut _ _ D.i1z e;have j2:CK t2 h'' i2 l2 (i+1):=s2.1.keep fun o e=>sb.extBut _ _ D.i2z e;refine⟨.ref s.heap.objs.size,upd H s.heap.objs.size (.tup [x,y]),?_,rfl,⟨_,x,y,I.fresh,rfl,rfl,fun zs hz=>?_,fun zs hz=>?_⟩,⟨z2,T9 TI _ ?_ h2,⟨_,_,p2⟩,j1,j2⟩,fun b hb=>?_⟩
  . refine I.yu (ch:=[z,TO,i1,i2]) (t':=s.toks) T9 (fun b hb=>?_) (fun b hb=>hf b ?_) ⟨(by show 2<=sizeLine;decide),[ux,uy],.cons hu2 (.cons hw2 .nil),⟨_,pT2,rfl,_,rfl⟩⟩
    . simp only[mem_cons,not_mem_nil,or_false]at hb;rcases hb with rfl|rfl|rfl|rfl;.exact⟨_,z2⟩
      .exact⟨_,p2⟩
      .exact⟨_,j1.obj.choose_spec.1⟩
      .exact⟨_,j2.obj.choose_spec.1⟩
    .simp only[mem_cons,not_mem_nil,or_false]at hb ⊢;rcases hb with h|h|h|h<;>simp[h]
  .rw[I.Gx hz hq1];exact hx
  .rw[I.Gx hz hq2];exact hy
  .simp[D.TIz,D.TITO,D.TIi1,D.TIi2]
  .rw[aD (hlt b hb)];exact(hf b hb).1
 done:=fun X hP hw hK hc i pins s σ H E I hf st stop=>by
  subst hP hw hK;obtain⟨h1,h2,⟨u,v,h3⟩,h4,h5⟩:=st;obtain⟨xs,ys,hq1,hq2,hx⟩:=stop;obtain⟨K6,Zq,Ua⟩:=I.sq hq1;obtain⟨its2,Rw,M6⟩:=I.sq hq2;have hh:X.A.in1.handled=none:=I.ok.hd hc;refine nT D (JQ t1 hh i1 l1 D.l1i1 K6.toArray) (JQ t2 hh i2 l2 D.l2i2 its2.toArray) h1 h2 h3 (k:=i) ⟨h4,Ua⟩ ⟨h5,M6⟩ ?_ fun h' kp=>⟨rfl,?_⟩
  . rcases hx with hx|hx;.left;rw[Zq.length]at hx;simpa using hx
    .right;rw[Rw.length]at hx;simpa using hx
  .exact I.Fv (ch:=[z,TO,i1,i2]) (fun b u hb q=>by simp only[mem_cons,not_mem_nil,or_false,not_or]at hb;exact kp b u hb.1 hb.2.1 hb.2.2.1 hb.2.2.2 q) fun b hb=>hf b (by simp only[mem_cons,not_mem_nil,or_false]at hb ⊢;rcases hb with h|h|h|h<;>simp[h])
 self:=fun A i s Q E st q=>wpAny_pyIter_zip st.1 q
section
variable{X:Cx}{elts:List Expr}{x1:Nat}{tp:Pos}
theorem Cj{prog:Program}{w:World}{A:Around}{E:Value->Shared->Prop}{s:Shared}(t1 t2:Bool){l1 l2:Addr}{xs ys:Array Value}{Q:Value->Shared->Prop}(hl1:RK t1 s.heap l1 xs)(hl2:RK t2 s.heap l2 ys)(h:∀ h',IsZip h' (s.heap.objs.size+4) (s.heap.objs.size+2) (s.heap.objs.size+3) .none->IsPair h' (s.heap.objs.size+2) (.ref s.heap.objs.size) (.ref (s.heap.objs.size+1))->IsPair h' (s.heap.objs.size+3) .none .none->CK t1 h' s.heap.objs.size l1 0->CK t2 h' (s.heap.objs.size+1) l2 0->(∀c o,s.heap.get? c=some o->h'.get? c=some o)->Q (.ref (s.heap.objs.size+4)) {s with heap:=h'}):wpAny (model prog w) A (call (.type "zip") [.ref l1,.ref l2]) Q E s:=by
 cases t1<;>cases t2;.exact yh hl1 hl2 h
 .exact yw hl1 hl2 h
 .exact yE hl1 hl2 h
 .exact yK hl1 hl2 h
theorem Ng{n l m:Nat}(h1:l<n)(h2:m<n):ZipApart (n+4) (n+2) (n+3) n (n+1) l m:=by constructor<;>exact fun h=>absurd (show(_:Nat)=_ from h) (by omega)
def aaB(K:PySem.W.Frag)(R:It->Hp->Prop)(vs:List V)(H1:Hp):Prop:=∃t1 t2 a b,vs=[.ref a,.ref b]/\(∃xs,Sq t1 K H1 a xs)/\(∃ys,Sq t2 K H1 b ys)/\R (Va t1 t2 K a b) H1
def abF(K:PySem.W.Frag)(ta:TA):TI:=fun σ H R=>ta σ H (aaB K R)
theorem boot_zip:bootBuiltins "zip"=some (.type "zip"):=by decide+kernel
theorem Qp{a b:Expr}{ta:TA}{p pos:Pos}(hg:Gl X "zip")(hm:X.mg "zip"=none)(ha:PA X [a,b] ta)(hs:starEach [a,b] X.env=[(false,eval a X.env),(false,eval b X.env)]:=by rfl)(hs2:starEach [b] X.env=[(false,eval b X.env)]:=by rfl):PI X (.Tuple elts x1 tp) (.Call (.Name "zip" p) [a,b] [] pos) (abF X.K ta):=by
 intro pins s σ H R I h;refine Call_ (iK I hg hm boot_zip (PyProof.Rows.callWith_type1 (cu (ha pos pins s σ H _ I h) ?_) (by rw[hs,hs2]) (by rw[hs2];rfl)));rintro us s1⟨vs,H1,I1,r1,q1⟩;obtain⟨t1,t2,l1,l2,rfl,⟨xs,hq1⟩,⟨ys,hq2⟩,q⟩:=q1;obtain⟨u,v,rfl,ru,rv⟩:=r1.two;cases ru;cases rv;obtain⟨K6,Zq,Ua⟩:=I1.sq hq1;obtain⟨its2,Rw,M6⟩:=I1.sq hq2;have b1:=Ua.lt;have b2:=M6.lt;refine Cj t1 t2 Ua M6 fun h' z0 p0 o0 j1 j2 kp=>?_;have D:ZipApart (s1.heap.objs.size+4) (s1.heap.objs.size+2) (s1.heap.objs.size+3) s1.heap.objs.size (s1.heap.objs.size+1) l1 l2:=Ng b1 b2;refine wpAny_pyIter_zip z0 ⟨_,_,_,_,H1,rfl,I1.kept (t':=s1.toks) kp,El t1 t2 D,⟨z0,p0,⟨_,_,o0⟩,j1,j2⟩,fun b hb=>?_,q⟩;have hb':s1.heap.objs.size<=b:=by simp only[mem_cons,not_mem_nil,or_false]at hb;rcases hb with rfl|rfl|rfl|rfl|rfl<;>first|exact Nat.le_add_right _ _|exact le_refl _
 exact I1.yf hb' (I1.hok.fresh hb')
end
end L2
namespace HH
open PySem L2 PySem.Spec PyProof.Rows
section
variable{K:PySem.W.Frag}{F F1 H H1:Hp}{ρ ρ1:List Sl}{σ:L2.St}{ds es:List D}{a b:Addr}
theorem aL.sq{t:Bool}{xs:List V}(e:aL F H)(h:Sq t K F a xs):Sq t K H a xs:=by cases t with|true=>exact aL.fO e h|false=>exact e.seq h
theorem Kl{t1 t2:Bool}{xs ys:List V}{F' H':Hp}(hq1:Sq t1 K H' a xs)(hq2:Sq t2 K H' b ys)(r1:aG K F' xs ds)(r2:aG K F' ys es)(s:aL F' H')(k:Nat):(∀d,((ds.zip es).map fun p=>D.tup [p.1,p.2])[k]?=some d->(Va t1 t2 K a b).go k H'/\∀x jO,(Va t1 t2 K a b).Ht k H' x jO->∃F'',Ext F' H' F'' jO/\Rep K F'' x d)/\(((ds.zip es).map fun p=>D.tup [p.1,p.2]).length<=k->(Va t1 t2 K a b).stop k H'):=by refine⟨fun d hd=>?_,fun h=>⟨xs,ys,hq1,hq2,by rw[r1.length,r2.length];rw[length_map,List.length_zip]at h;omega⟩⟩;rw[getElem?_map]at hd;obtain⟨⟨d0,d1⟩,e1,e2⟩:=map_some hd;subst e2;obtain⟨f1,f2⟩:=List.getElem?_zip_eq_some.mp e1;obtain⟨w,h1,h2⟩:=r1.get f1;obtain⟨w',h1',h2'⟩:=r2.get f2;refine⟨⟨xs,ys,w,w',hq1,hq2,h1,h1'⟩,?_⟩;rintro x jO⟨T,v,v',hT,hx,hH,y,y'⟩;subst hx;subst hH;have:=y xs hq1;rw[h1]at this;cases this;have:=y' ys hq2;rw[h1']at this;cases this;exact qj s hT h2 h2'
theorem Er{v:V}{d:D}{ds:List D}(h:Rep K F v d)(e:items d=some ds):∃t a xs,v=.ref a/\Sq t K F a xs/\aG K F xs ds:=by cases d with|tup es=>cases e;rw[Rep]at h;obtain⟨a,xs,rfl,h1,h2⟩:=h;exact⟨true,a,xs,rfl,h1,h2⟩|lst es=>cases e;rw[Rep]at h;obtain⟨a,xs,rfl,h1,h2⟩:=h;exact⟨false,a,xs,rfl,h1,h2⟩|_=>cases e
end
section
variable{X:Cx}{c:Call}{e a b:Expr}{pa pb:P}{pos:Pos}{elts:List Expr}{x1:Nat}{tp:Pos}
theorem DX{x:Str}{p':Pos}(hx:x="zip")(hg:Gl X x)(hm:X.mg x=none)(ha:SX X c a pa)(hb:SX X c b pb)(hs:starEach [a,b] X.env=[(false,eval a X.env),(false,eval b X.env)]:=by rfl)(hs2:starEach [b] X.env=[(false,eval b X.env)]:=by rfl):SI X c (.Tuple elts x1 tp) (.Call (.Name x p') [a,b] [] pos) (.zip pa pb):=by subst hx;refine kZ (Qp hg hm (oM ha (oM hb aH hs2) (by rw[hs,hs2])).1 hs hs2) ?_;rintro σ H R⟨F,ρ,ds,ρ1,g,e,k⟩;obtain⟨r,ρ2,e1,e2⟩:=ak e;have zz:=aF e2;clear e2;obtain⟨e2,e3⟩:=zz;subst e3;rw[HH.E22]at e1;obtain⟨x0,ρ3,e4,e7⟩:=ak e1;obtain⟨y0,ρ4,e5,e8⟩:=ak e7;have zz:=aF e8;clear e8;obtain⟨e8,e6⟩:=zz;subst e6;obtain⟨us,f1,e9⟩:=cz e8;obtain⟨ws,f2,f3⟩:=map_some e9;subst f3;cases e2;refine⟨F,ρ,[x0.d,y0.d],_,g,by rw[evs,e4];show(evs c [pb] ρ3).bind _=_;rw[evs,e5];rfl,fun vs F' H' s rr=>?_⟩;obtain⟨v,r',rfl,rv,rr⟩:=rr.bZ;obtain⟨u,r'',rfl,ru,rr⟩:=rr.bZ;rw[rr.dX];obtain⟨t1,a1,xs,rfl,q1,r1⟩:=Er rv f1;obtain⟨t2,a2,ys,rfl,q2,r2⟩:=Er ru f2;exact⟨t1,t2,a1,a2,rfl,⟨xs,aL.sq s.gs.sub q1⟩,⟨ys,aL.sq s.gs.sub q2⟩,k _ _ _ ⟨s.gs,fun n k F' ρ' σ' H' s'=>Kl (aL.sq s'.gs.sub (aL.sq s'.cB q1)) (aL.sq s'.gs.sub (aL.sq s'.cB q2)) (r1.mono s'.cB) (r2.mono s'.cB) s'.gs.sub k,fun F3 ρ3 σ3 H3 s3=>⟨s.trans s3,fun v r rr=>rr.later s⟩⟩⟩
end
structure bG(K:PySem.W.Frag)(x:Str)(st:Stmt):Prop where ex:∃f fd,PySem.W.nsIn K mainGlobals x=some (some (.ref f))/\gD K x x st f fd
section
variable{Pg:Program}{w:World}{K:PySem.W.Frag}{mg:Str->Option Value}{base h:Heap}
theorem Rk{x:Str}{st:Stmt}{f:Addr}{oc:Value}{od an:Option Addr}{osl:Array (Option Value)}{kV doc pm cdv ct:Value}(a:PySem.W.nsIn K mainGlobals x=some (some (.ref f)))(l:K.lookup f=some ⟨oc,od,.func (PySem.W.fnOf x x (iz st) (fH st) (aC st) .none kV doc pm an cdv ct),osl⟩)(c:PySem.W.codeIn K cdv x=true)(k:keepIn K (.ref f)=true):bG K x st:=⟨_,_,a,Nh l c k⟩
theorem bM{Γ:Tab}{wl i np:Nat}{x:Str}{st:Stmt}{ps:List Str}(X:K.In h)(G:h.Ns mainGlobals mg)(D:bG K x st)(hp:ps.length=np)(hb:∀(kV doc pm:Value)(an:Option Addr)(cdv ct:Value)(us:List Value),us.length=ps.length->bindArgs (PySem.W.fnOf x x (iz st) (fH st) (aC st) .none kV doc pm an cdv ct) ⟨us,[]⟩=pure (ps.zip us)):au Pg w K mg base 0 (run Γ wl 0) i x np:=by obtain⟨f,fd,a,F⟩:=D.ex;exact⟨f,fd,ps,⟨fun vs H Q E s=>s.1,fun A outer s H args us vs Q E hr e b v sp=>by obtain⟨_,F,as,r,as',_,z,_⟩:=sp;cases z⟩,mg_of X G a,F.kp,F.binds hb,hp⟩
theorem bL{Γ:Tab}{wl n i np:Nat}{x:Str}{st:Stmt}{ps:List Str}{d:Fd}(X:K.In h)(G:h.Ns mainGlobals mg)(D:bG K x st)(hp:ps.length=np)(hΓ:Γ i=some d)(hb:∀(kV doc pm:Value)(an:Option Addr)(cdv ct:Value)(us:List Value),us.length=ps.length->bindArgs (PySem.W.fnOf x x (iz st) (fH st) (aC st) .none kV doc pm an cdv ct) ⟨us,[]⟩=pure (ps.zip us))(ok:∀f fd,gD K x x st f fd->bV Pg w K mg base gh (n+1) f fd ps (gF K np (fun args=>enter (run Γ wl n) wl d args))):au Pg w K mg base (n+1) (run Γ wl (n+1)) i x np:=by
 obtain⟨f,fd,a,F⟩:=D.ex;refine⟨f,fd,ps,?_,mg_of X G a,F.kp,F.binds hb,hp⟩;have e:run Γ wl (n+1) i=fun args=>enter (run Γ wl n) wl d args:=by funext args;show(match Γ i with|some d=>enter (run Γ wl n) wl d args|none=>.stuck)=_;rw[hΓ]
 rw[e,hp];exact ok f fd F
theorem sW{F:Hp}:∀ns:List Int,aG K F (ns.map V.int) (ns.map D.int)|[]=>.nil|n::ns=>.cons (bT n) (sW ns)
theorem Ba{H:Hp}{a:Addr}{ns:List Int}{g:List Sl->Res R}{as:List Sl}(hS:dI K H a (ns.map V.int))(hr:g [.val false (.lst (ns.map D.int))]=.ok (.val (.bl true)) as):gF K 1 g [.ref a] H (fun v _=>v=.bl true) fun _ _ _=>False:=by
 refine⟨rfl,H,_,_,as,⟨.refl _,rfl,fun i b d e=>?_,fun i s ds e e'=>?_,fun i j c h=>?_⟩,hr,fun v F' σ' H' s rr=>?_⟩;.match i,e with|0,e=>cases e;refine⟨.ref a,rfl,?_⟩;rw[Rep];exact⟨a,_,rfl,hS,sW ns⟩|i+1,e=>simp at e
 .match i,e with|0,e=>cases e;cases e'|i+1,e=>simp at e
 .obtain⟨⟨s,ds,e,e'⟩,_⟩:=h;match i,e with|0,e=>cases e;cases e'|i+1,e=>simp at e
 .have rr:Rep K F' v (.bl true):=rr;rw[Rep]at rr;exact rr
end
end HH
end
section
namespace HH
open PySem
def Res.sat{α:Type}(Q:α->List Sl->Prop)(x:Res α):Prop:=match x with|.ok a ρ=>Q a ρ|.exc _ _=>False|.stuck=>False
section
variable{α β:Type}{Q Q':α->List Sl->Prop}
@[simp]theorem Ge{a:α}{ρ:List Sl}:(Res.ok a ρ).sat Q=Q a ρ:=rfl
@[simp]theorem YS{k:Nat}{ρ:List Sl}:(Res.exc k ρ:Res α).sat Q=False:=rfl
@[simp]theorem RD:(Res.stuck:Res α).sat Q=False:=rfl
theorem bF{x:Res β}{f:β->List Sl->Res α}:(x.bind f).sat Q=x.sat fun a ρ=>(f a ρ).sat Q:=by cases x<;>rfl
@[simp]theorem Yh{p:Prop}[Decidable p]{x y:Res α}:(if p then x else y).sat Q=((p->x.sat Q)/\(¬ p->y.sat Q)):=by by_cases h:p<;>simp[h]
@[simp]theorem qT{a:α}{ρ:List Sl}:(lift (some a) ρ).sat Q=Q a ρ:=rfl
@[simp]theorem HQ{ρ:List Sl}:(lift (none:Option α) ρ).sat Q=False:=rfl
@[simp]theorem KH{p:Prop}[Decidable p]{a:α}{ρ:List Sl}:(lift (if p then some a else none) ρ).sat Q=(p/\Q a ρ):=by by_cases h:p<;>simp[h]
theorem Res.sat.imp{x:Res α}(h:x.sat Q)(k:∀a ρ,Q a ρ->Q' a ρ):x.sat Q':=by cases x with|ok a ρ=>exact k a ρ h|exc _ _=>exact h|stuck=>exact h
theorem sat_iff{x:Res α}:x.sat Q↔∃a ρ,x=.ok a ρ/\Q a ρ:=by cases x with|ok a ρ=>exact⟨fun h=>⟨a,ρ,rfl,h⟩,fun⟨_,_,e,h⟩=>by cases e;exact h⟩|exc _ _=>exact⟨fun h=>h.elim,fun⟨_,_,e,_⟩=>by cases e⟩|stuck=>exact⟨fun h=>h.elim,fun⟨_,_,e,_⟩=>by cases e⟩
end
theorem RM{α:Type}{x y:Res α}{Q:α->List Sl->Prop}(h:x=y):x.sat Q=y.sat Q:=by rw[h]
theorem bind_congr{α β:Type}{x y:Res α}{f:α->List Sl->Res β}(h:x=y):x.bind f=y.bind f:=by rw[h]
noncomputable def fr:Sl->Bool|.aZ=>true|.val b _=>!b|.own b _=>!b|.lent _=>false|.qX _=>false|.dh _=>false|.hold _=>false
@[simp]theorem ab4:fr .aZ=true:=rfl
@[simp]theorem abO{b:Bool}{d:D}:fr (.val b d)=!b:=rfl
@[simp]theorem aco{b:Bool}{d:List D}:fr (.own b d)=!b:=rfl
@[simp]theorem YC{d:List D}:fr (.lent d)=false:=rfl
theorem N6(ρ:List Sl)(i:Nat)(s:Sl):put ρ i s=match ρ[i]?with|some t=>if fr t=true then some (ρ.set i s)else none|none=>none:=by unfold put;cases h:ρ[i]?with|none=>rfl|some t=>cases t with|aZ=>rfl|val b d=>cases b<;>rfl|own b d=>cases b<;>rfl|lent d=>rfl|qX m=>rfl|dh m=>rfl|hold m=>rfl
theorem Dq{Γ:Tab}{w n i:Nat}{d:Fd}{args:List Sl}(h:Γ i=some d):run Γ w (n+1) i args=enter (run Γ w n) w d args:=by rw[run,h]
noncomputable def fin(np:Nat):Fl->List Sl->Option (R×List Sl)|.next,ρ=>some (.val .non,ρ.take np)|.ret r,ρ=>some (r,ρ.take np)|_,_=>none
def eQ(np:Nat)(Q:R->List Sl->Prop)(fl:Fl)(ρ:List Sl):Prop:=match fl with|.next=>Q (.val .non) (ρ.take np)|.ret r=>Q r (ρ.take np)|_=>False
def sQ(c:Call)(n:Nat)(r:List S)(Q:Fl->List Sl->Prop)(fl:Fl)(ρ:List Sl):Prop:=match fl with|.next=>(gj c n r ρ).sat Q|fl=>Q fl ρ
def fQ(J:List Sl->Prop)(Q:Fl->List Sl->Prop)(fl:Fl)(ρ:List Sl):Prop:=match fl with|.next=>J ρ|.cont=>J ρ|.brk=>Q .next ρ|.ret v=>Q (.ret v) ρ
section
variable{np:Nat}{Q:R->List Sl->Prop}{ρ:List Sl}{v:R}{c:Call}{n:Nat}{r:List S}{Q':Fl->List Sl->Prop}{J:List Sl->Prop}
@[simp]theorem Yr:eQ np Q .next ρ=Q (.val .non) (ρ.take np):=rfl
@[simp]theorem aaL:eQ np Q (.ret v) ρ=Q v (ρ.take np):=rfl
@[simp]theorem abN:eQ np Q .brk ρ=False:=rfl
@[simp]theorem Yn:eQ np Q .cont ρ=False:=rfl
@[simp]theorem YQ:sQ c n r Q' .next ρ=(gj c n r ρ).sat Q':=rfl
@[simp]theorem abK:sQ c n r Q' (.ret v) ρ=Q' (.ret v) ρ:=rfl
@[simp]theorem abU:sQ c n r Q' .brk ρ=Q' .brk ρ:=rfl
@[simp]theorem YD:sQ c n r Q' .cont ρ=Q' .cont ρ:=rfl
@[simp]theorem Y4:fQ J Q' .next ρ=J ρ:=rfl
@[simp]theorem Yw:fQ J Q' .cont ρ=J ρ:=rfl
@[simp]theorem abX:fQ J Q' .brk ρ=Q' .next ρ:=rfl
@[simp]theorem abI:fQ J Q' (.ret v) ρ=Q' (.ret v) ρ:=rfl
end
theorem Ay{c:Call}{n:Nat}{d:Fd}{args:List Sl}{Q:R->List Sl->Prop}(hl:args.length=d.np)(hd:d.np<=d.nn)(h:(gj c n d.body (args++replicate (d.nn-d.np) .aZ)).sat (eQ d.np Q)):(enter c n d args).sat Q:=by unfold enter;rw[if_pos ⟨hl,hd⟩];revert h;cases gj c n d.body (args++replicate (d.nn-d.np) .aZ)with|stuck=>exact fun h=>False.elim h|exc _ _=>exact fun h=>False.elim h|ok fl ρ=>cases fl<;>first|exact id|exact fun h=>False.elim h
theorem aP{Γ:Tab}{w n i:Nat}{d:Fd}{args:List Sl}{Q:R->List Sl->Prop}(hΓ:Γ i=some d)(hl:args.length=d.np)(hd:d.np<=d.nn)(h:(gj (run Γ w n) w d.body (args++replicate (d.nn-d.np) .aZ)).sat (eQ d.np Q)):(run Γ w (n+1) i args).sat Q:=by rw[Dq hΓ];exact Ay hl hd h
theorem aj{c:Call}{n:Nat}{s:S}{r:List S}{ρ:List Sl}{Q:Fl->List Sl->Prop}(h:(ex c n s ρ).sat (sQ c n r Q)):(gj c n (s::r) ρ).sat Q:=by rw[gj,bF];refine h.imp fun fl ρ' q=>?_;cases fl<;>exact q
theorem dG{c:Call}{n:Nat}{s:S}{r:List S}{ρ:List Sl}{Q:Fl->List Sl->Prop}(h:(ex c n s ρ).sat (sQ c n r Q)):sQ c n (s::r) Q .next ρ:=aj h
@[simp]theorem Yj{c:Call}{n:Nat}{ρ:List Sl}{Q:Fl->List Sl->Prop}:(gj c n [] ρ).sat Q=Q .next ρ:=by rw[gj];rfl
theorem dB{c:Call}{n:Nat}{s:S}{r:List S}{ρ:List Sl}{Q:Fl->List Sl->Prop}(M:List Sl->Prop)(h:(ex c n s ρ).sat fun fl ρ'=>fl=.next/\M ρ')(k:∀ρ',M ρ'->(gj c n r ρ').sat Q):(gj c n (s::r) ρ).sat Q:=aj (h.imp fun fl ρ'⟨e,q⟩=>by subst e;exact k ρ' q)
theorem cF{is:List Nat}{one:Bool}{body:List Sl->Res Fl}(J:List D->List Sl->Prop){Q:Fl->List Sl->Prop}(hb:∀d r ρ,J (d::r) ρ->∃ρ1,bW ρ is one d=some ρ1/\(body ρ1).sat (fQ (J r) Q))(hq:∀ρ,J [] ρ->Q .next ρ):∀{ds:List D}{ρ:List Sl},J ds ρ->(gW is one body ds ρ).sat Q|[],ρ,j=>hq ρ j|d::r,ρ,j=>by obtain⟨ρ1,e,h⟩:=hb d r ρ j;rw[gW,e];show((body ρ1).bind _).sat Q;rw[bF];refine h.imp fun fl ρ2 q=>?_;cases fl with|next=>exact cF J hb hq q|cont=>exact cF J hb hq q|brk=>exact q|ret v=>exact q
theorem jF{is:List Nat}{one:Bool}{test:List Sl->Res Bool}{elt:Ev}(J:List Sl->Prop)(g:D->Option D){Q:List D->List Sl->Prop}:∀{ds acc:List D}{ρ:List Sl},J ρ->(∀ d,d ∈ ds->∀ ρ,J ρ->∃ ρ1,bW ρ is one d=some ρ1/\(test ρ1).sat fun b ρ2=>if b=true then(elt ρ2).sat fun r ρ3=>g d=some r.d/\J ρ3 else g d=none/\J ρ2)->(∀ ρ,J ρ->Q (acc++ds.filterMap g) ρ)->(turns is one test elt ds acc ρ).sat Q|[],acc,ρ,j,h,k=>by rw[turns];simpa using k ρ j|d::r,acc,ρ,j,h,k=>by obtain⟨ρ1,e,h1⟩:=h d (by simp) ρ j;rw[turns,e];show((test ρ1).bind _).sat Q;rw[bF];refine h1.imp fun b ρ2 q=>?_;cases b with|true=>rw[if_pos rfl]at q;rw[if_pos rfl,bF];refine q.imp fun x ρ3⟨e1,j3⟩=>?_;refine jF J g j3 (fun d' hd'=>h d' (by simp[hd'])) fun ρ' j'=>?_;have:=k ρ' j';rw[filterMap_cons,e1]at this;rw[append_assoc];exact this|false=>rw[if_neg (by simp)]at q;rw[if_neg (by simp)];refine jF J g q.2 (fun d' hd'=>h d' (by simp[hd'])) fun ρ' j'=>?_;have:=k ρ' j';rw[filterMap_cons,q.1]at this;exact this
theorem yr{is:List Nat}{one:Bool}{elt:Ev}{c:Call}(J:List Sl->Prop)(g:D->D){Q:List D->List Sl->Prop}{ds:List D}{ρ:List Sl}(j:J ρ)(h:∀d,d∈ds->∀ρ,J ρ->∃ρ1,bW ρ is one d=some ρ1/\(elt ρ1).sat fun r ρ3=>g d=r.d/\J ρ3)(k:∀ρ,J ρ->Q (ds.map g) ρ):(turns is one (lr c none) elt ds [] ρ).sat Q:=jF J (fun d=>some (g d)) j (fun d hd ρ j=>by obtain⟨ρ1,e,h1⟩:=h d hd ρ j;refine⟨ρ1,e,?_⟩;rw[lr,Ge,if_pos rfl];exact h1.imp fun r ρ3 q=>⟨by rw[q.1],q.2⟩) fun ρ j=>by simpa using k ρ j
section
variable{ρ l:List Sl}{a:Sl}{i j:Int}{k m:Nat}{b b':Bool}{s:Str}{d:D}{ds es:List D}{e f:Ev}{x:Option Sl}{c:Call}
@[simp]theorem Q0:cJ .int .non=false:=rfl
@[simp]theorem S6:cJ .int (.bl b)=true:=rfl
@[simp]theorem Oo:cJ .int (.int i)=true:=rfl
@[simp]theorem Nu:cJ .int (.str s)=false:=rfl
@[simp]theorem QM:cJ .int (.tup ds)=false:=rfl
@[simp]theorem Qk:cJ .int (.lst ds)=false:=rfl
@[simp]theorem Ls:cJ .bool .non=false:=rfl
@[simp]theorem Ra:cJ .bool (.bl b)=true:=rfl
@[simp]theorem Mv:cJ .bool (.int i)=false:=rfl
@[simp]theorem Ms:cJ .bool (.str s)=false:=rfl
@[simp]theorem MK:cJ .bool (.tup ds)=false:=rfl
@[simp]theorem Mx:cJ .bool (.lst ds)=false:=rfl
@[simp]theorem Px:cJ .str .non=false:=rfl
@[simp]theorem Tw:cJ .str (.bl b)=false:=rfl
@[simp]theorem Oq:cJ .str (.int i)=false:=rfl
@[simp]theorem O4:cJ .str (.str s)=true:=rfl
@[simp]theorem NZ:cJ .str (.tup ds)=false:=rfl
@[simp]theorem QL:cJ .str (.lst ds)=false:=rfl
@[simp]theorem KN:cJ .tuple .non=false:=rfl
@[simp]theorem Lf:cJ .tuple (.bl b)=false:=rfl
@[simp]theorem Ip:cJ .tuple (.int i)=false:=rfl
@[simp]theorem IV:cJ .tuple (.str s)=false:=rfl
@[simp]theorem JH:cJ .tuple (.tup ds)=true:=rfl
@[simp]theorem Iu:cJ .tuple (.lst ds)=false:=rfl
@[simp]theorem Mt:cJ .list .non=false:=rfl
@[simp]theorem Nk:cJ .list (.bl b)=false:=rfl
@[simp]theorem Li:cJ .list (.int i)=false:=rfl
@[simp]theorem Lp:cJ .list (.str s)=false:=rfl
@[simp]theorem LQ:cJ .list (.tup ds)=false:=rfl
@[simp]theorem Ma:cJ .list (.lst ds)=true:=rfl
@[simp]theorem Mi:cJ .none .non=true:=rfl
@[simp]theorem Qi:cJ .none (.bl b)=false:=rfl
@[simp]theorem Mu:cJ .none (.int i)=false:=rfl
@[simp]theorem Mr:cJ .none (.str s)=false:=rfl
@[simp]theorem LC:cJ .none (.tup ds)=false:=rfl
@[simp]theorem Lq:cJ .none (.lst ds)=false:=rfl
@[simp]theorem Sd:je .non=true:=rfl
@[simp]theorem U7:je (.bl b)=false:=rfl
@[simp]theorem R5:je (.int i)=false:=rfl
@[simp]theorem Tq:je (.str s)=false:=rfl
@[simp]theorem Tf:je (.tup ds)=false:=rfl
@[simp]theorem TQ:je (.lst ds)=false:=rfl
@[simp]theorem V8:flat .non=true:=rfl
@[simp]theorem XX:flat (.bl b)=true:=rfl
@[simp]theorem lN:flat (.int i)=true:=rfl
@[simp]theorem Wu:flat (.str s)=true:=rfl
@[simp]theorem Ud:flat (.tup ds)=false:=rfl
@[simp]theorem Uy:flat (.lst ds)=false:=rfl
@[simp]theorem Z9:(R.val d).d=d:=rfl
@[simp]theorem Ql:(R.own ds).d=.lst ds:=rfl
@[simp]theorem VL:xF (.val d)=.val false d:=rfl
@[simp]theorem U6:xF (.own ds)=.own false ds:=rfl
@[simp]theorem R8:vp (.val d)=.dat d:=rfl
@[simp]theorem RQ:vp (.own ds)=.tmp ds:=rfl
@[simp]theorem Yy:jd (.int i)=some i:=rfl
@[simp]theorem ZZ:xV (.bl b)=some b:=rfl
@[simp]theorem rE:items (.lst ds)=some ds:=rfl
@[simp]theorem rC:items (.tup ds)=some ds:=rfl
@[simp]theorem QW:N8 (.tup ds)=some ds:=rfl
@[simp]theorem Ow:xR (.lst ds)=some ds:=rfl
@[simp]theorem Xv:oE .add=ql:=rfl
@[simp]theorem Y9:oE .sub=wJ:=rfl
@[simp]theorem Yg:oE .mul=p7:=rfl
@[simp]theorem Up:oE .fdiv=o6:=rfl
@[simp]theorem XR:oE .mod=vZ:=rfl
@[simp]theorem Xj:oE .pow=wg:=rfl
@[simp]theorem S7:ql (.int i) (.int j)=some (.val (.int (i+j))):=rfl
@[simp]theorem Td:ql (.lst ds) (.lst es)=if ds.length+es.length<=lim then some (.own (ds++es))else none:=rfl
@[simp]theorem SJ:ql (.tup ds) (.tup es)=if ds.length+es.length<=lim then some (.val (.tup (ds++es)))else none:=rfl
@[simp]theorem S8:wJ (.int i) (.int j)=some (.val (.int (i-j))):=rfl
@[simp]theorem SM:p7 (.int i) (.int j)=if((-18446744073709551616<i/\i<18446744073709551616)\/(-18446744073709551616<j/\j<18446744073709551616))then some (.val (.int (i*j)))else none:=rfl
@[simp]theorem Rp:o6 (.int i) (.int j)=if 0<j/\j<1606938044258990275541962092341162602522202993782792835301376 then some (.val (.int (i/j)))else none:=rfl
@[simp]theorem RN:vZ (.int i) (.int j)=if 0<j then some (.val (.int (i%j)))else none:=rfl
@[simp]theorem RL:wg (.int i) (.int j)=if 0<=j/\j<=1000/\i.natAbs<18446744073709551616 then some (.val (.int (i^j.toNat)))else none:=rfl
@[simp]theorem XH:J6 (.lst ds) (.int i)=(at' ds i).map .val:=rfl
@[simp]theorem XD:J6 (.tup ds) (.int i)=(at' ds i).map .val:=rfl
@[simp]theorem U0:Ew (.int i)=some (.val (.int (-i))):=rfl
@[simp]theorem TX:cm .eq (.int i) (.int j)=some (i==j):=rfl
@[simp]theorem R9:cm .ne (.int i) (.int j)=some (!(i==j)):=rfl
@[simp]theorem VH:cm .eq (.bl b) (.bl b')=some (b==b'):=rfl
@[simp]theorem UW:cm .ne (.bl b) (.bl b')=some (!(b==b')):=rfl
@[simp]theorem Tv:cm .lt (.int i) (.int j)=some (decide (i<j)):=rfl
@[simp]theorem Sy:cm .le (.int i) (.int j)=some (decide (i<=j)):=rfl
@[simp]theorem TF:cm .gt (.int i) (.int j)=some (decide (j<i)):=rfl
@[simp]theorem RP:cm .ge (.int i) (.int j)=some (decide (j<=i)):=rfl
@[simp]theorem abE:cm .isN d .non=some (je d):=rfl
@[simp]theorem YW:cm .K1 d .non=some (!je d):=rfl
@[simp]theorem Lb:blt .len [.lst ds]=some (.val (.int ds.length)):=rfl
@[simp]theorem Ly:blt .len [.tup ds]=some (.val (.int ds.length)):=rfl
@[simp]theorem Jp:blt .list [.lst ds]=some (.own ds):=rfl
@[simp]theorem JK:blt .list [.tup ds]=some (.own ds):=rfl
@[simp]theorem HX:blt .tuple [.lst ds]=some (.val (.tup ds)):=rfl
@[simp]theorem HS:blt .tuple [.tup ds]=some (.val (.tup ds)):=rfl
@[simp]theorem V1:blt .max2 [.int i,.int j]=some (.val (.int (if i<j then j else i))):=rfl
@[simp]theorem JB:blt .all [.lst ds]=(ds.mapM xV).map fun bs=>.val (.bl (bs.all id)):=rfl
@[simp]theorem Tj:isVar (.var k)=some k:=rfl
@[simp]theorem YG:pk (a::l) k=match(a::l)[k]?with|some (.val _ d)=>some d|some (.own _ ds)=>some (.lst ds)|some (.lent ds)=>some (.lst ds)|_=>none:=rfl
@[simp]theorem V7:CN (a::l) k=match pk (a::l) k with|some (.lst ds)=>some ds|_=>none:=rfl
@[simp]theorem Uk:dm (some k) e ρ=lift (pk ρ k) ρ:=rfl
@[simp]theorem WK:dm none e ρ=(e ρ).bind fun r ρ=>.ok r.d ρ:=rfl
@[simp]theorem Tn{y:Option Nat}:gY (some k) e y f ρ=(lift (pk ρ k) ρ).bind fun _ ρ=>(dm y f ρ).bind fun y ρ=>(lift (pk ρ k) ρ).bind fun x ρ=>.ok (x,y) ρ:=rfl
@[simp]theorem RG{y:Option Nat}:gY none e y f ρ=(dm none e ρ).bind fun x ρ=>(dm y f ρ).bind fun y ρ=>.ok (x,y) ρ:=rfl
@[simp]theorem Sv{es:List D}:dY (.own b ds) (some (.own b' es))=.own b es:=rfl
@[simp]theorem R6:dY (.own b ds) (some (.val b' d))=.val b d:=rfl
@[simp]theorem G4:dY a none=a:=by cases a<;>rfl
@[simp]theorem BL:dY (.val b d) x=.val b d:=by cases x<;>rfl
@[simp]theorem RZ:dY .aZ x=.aZ:=by cases x<;>rfl
@[simp]theorem yG:dY (.lent ds) x=.lent ds:=by cases x<;>rfl
@[simp]theorem Vp:bW ρ [k] true d=put ρ k (.val false d):=rfl
@[simp]theorem Sg{is:List Nat}:bW ρ is false (.tup ds)=putAll ρ is ds:=by cases is<;>rfl
@[simp]theorem Pr:srcOf none e ρ=(e ρ).bind fun r ρ=>lift (items r.d) ρ:=rfl
@[simp]theorem Oj:srcOf (some k) e (a::l)=match(a::l)[k]?with|some (.val _ d)=>lift (items d) (a::l)|some (.own _ ds)=>.ok ds ((a::l).set k (.lent ds))|some (.lent ds)=>.ok ds (a::l)|_=>.stuck:=rfl
@[simp]theorem MJ{ρ':List Sl}:bC ρ' none ρ=ρ:=rfl
@[simp]theorem Lr:bC (a::l) (some k) ρ=match(a::l)[k]?with|some (.own b ds)=>ρ.set k (.own b ds)|_=>ρ:=rfl
@[simp]theorem V5{s:Sl}:put (a::l) k s=match(a::l)[k]?with|some t=>if fr t=true then some ((a::l).set k s)else none|none=>none:=N6 ..
@[simp]theorem Om:putAll ρ [] []=some ρ:=rfl
@[simp]theorem Mj{is:List Nat}:putAll ρ (k::is) (d::ds)=(put ρ k (.val false d)).bind fun ρ=>putAll ρ is ds:=rfl
theorem Rf{as:List Arg}{Q:R->List Sl->Prop}:(jZ c k as ρ).sat Q=match bQ ρ as []with|none=>False|some args=>(c k args).sat fun r args'=>Q r (cT as args' 0 ρ):=by unfold jZ;cases bQ ρ as []with|none=>rfl|some args=>simp only;cases c k args<;>rfl
end
@[simp]theorem Ve{α:Type}{a0:α}{l:List α}:at' (a0::l) 0=some a0:=by unfold at' iH;rw[if_pos (by decide),if_pos (by simp only[length_cons];omega)];rfl
@[simp]theorem Vm{α:Type}{a0 a1:α}{l:List α}:at' (a0::a1::l) 1=some a1:=by unfold at' iH;rw[if_pos (by decide),if_pos (by simp only[length_cons];omega)];rfl
@[simp]theorem Z0{α:Type}{a0 a1 a2:α}{l:List α}:at' (a0::a1::a2::l) 2=some a2:=by unfold at' iH;rw[if_pos (by decide),if_pos (by simp only[length_cons];omega)];rfl
@[simp]theorem aaX{α:Type}{a0 a1 a2 a3:α}{l:List α}:at' (a0::a1::a2::a3::l) 3=some a3:=by unfold at' iH;rw[if_pos (by decide),if_pos (by simp only[length_cons];omega)];rfl
@[simp]theorem at_4{α:Type}{a0 a1 a2 a3 a4:α}{l:List α}:at' (a0::a1::a2::a3::a4::l) 4=some a4:=by unfold at' iH;rw[if_pos (by decide),if_pos (by simp only[length_cons];omega)];rfl
@[simp]theorem at_5{α:Type}{a0 a1 a2 a3 a4 a5:α}{l:List α}:at' (a0::a1::a2::a3::a4::a5::l) 5=some a5:=by unfold at' iH;rw[if_pos (by decide),if_pos (by simp only[length_cons];omega)];rfl
@[simp]theorem at_6{α:Type}{a0 a1 a2 a3 a4 a5 a6:α}{l:List α}:at' (a0::a1::a2::a3::a4::a5::a6::l) 6=some a6:=by unfold at' iH;rw[if_pos (by decide),if_pos (by simp only[length_cons];omega)];rfl
@[simp]theorem at_7{α:Type}{a0 a1 a2 a3 a4 a5 a6 a7:α}{l:List α}:at' (a0::a1::a2::a3::a4::a5::a6::a7::l) 7=some a7:=by unfold at' iH;rw[if_pos (by decide),if_pos (by simp only[length_cons];omega)];rfl
theorem uI{α:Type}{l:List α}{i:Int}(h:0<=i)(h':i<l.length):at' l i=l[i.toNat]?:=by unfold at' iH;rw[if_pos h,if_pos h'];rfl
theorem Ec{α:Type}{l:List α}{k:Nat}(h':k<l.length):at' l (k:Int)=l[k]?:=by rw[uI (by omega) (by omega)];simp
theorem Yu{α:Type}{l:List α}{i:Int}(h:(l.length:Int)<=i):at' l i=none:=by unfold at' iH;rw[if_pos (by omega),if_neg (by omega)];rfl
theorem WM{p:P}(h:∀i,p≠.var i):isVar p=none:=by cases p<;>first|rfl|exact absurd rfl (h _)
@[simp]theorem R1{d:D}:isVar (.con d)=none:=rfl
@[simp]theorem TJ{o:Op}{p q:P}:isVar (.bin o p q)=none:=rfl
@[simp]theorem R4{p:P}:isVar (.neg p)=none:=rfl
@[simp]theorem RT{p:P}:isVar (.not p)=none:=rfl
@[simp]theorem RX{p q:P}:isVar (.and p q)=none:=rfl
@[simp]theorem V6{p q:P}:isVar (.or p q)=none:=rfl
@[simp]theorem TV{o:Cm}{p q:P}:isVar (.cmp o p q)=none:=rfl
@[simp]theorem Mm{o o':Cm}{p q r:P}:isVar (.chain o o' p q r)=none:=rfl
@[simp]theorem Tc{p q r:P}:isVar (.M3 p q r)=none:=rfl
@[simp]theorem TY{as:List P}:isVar (.tup as)=none:=rfl
@[simp]theorem Th{as:List P}:isVar (.lst as)=none:=rfl
@[simp]theorem RW{p q:P}:isVar (.idx p q)=none:=rfl
@[simp]theorem LK{p q r:P}:isVar (.slice p q r)=none:=rfl
@[simp]theorem Ph{f:Nat}{as:List P}:isVar (.call f as)=none:=rfl
@[simp]theorem Tt{b:Xm}{as:List P}:isVar (.blt b as)=none:=rfl
@[simp]theorem O9{ts:List Ty}{p:P}:isVar (.inst ts p)=none:=rfl
@[simp]theorem Nj{p e:P}{n:Nat}{is:List Nat}{one:Bool}{t:Option P}:isVar (.comp p n is one t e)=none:=rfl
@[simp]theorem Sw{p q:P}:isVar (.oX p q)=none:=rfl
@[simp]theorem Ss{p:P}:isVar (.T5 p)=none:=rfl
@[simp]theorem S9{p q:P}:isVar (.zip p q)=none:=rfl
noncomputable def jU(c:Call)(is:List Nat)(one:Bool)(test:Option P)(elt:P)(ds:List D)(ρ:List Sl):Res (List D):=turns is one (lr c test) (ev c elt) ds [] ρ
@[simp]theorem YM{c:Call}{src elt:P}{n:Nat}{is:List Nat}{one:Bool}{test:Option P}{ρ:List Sl}:ev c (.comp src n is one test elt) ρ=(srcOf (isVar src) (ev c src) ρ).bind fun ds ρ₁=>if ds.length<=lim then(jU c is one test elt ds (ρ₁++replicate n .aZ)).bind fun xs ρ₂=>.ok (.own xs) (bC ρ (isVar src) (ρ₂.take ρ₁.length))else .stuck:=(rfl)
noncomputable def EY(c:Call)(n:Nat)(t:P)(body:List S)(k:Nat)(ρ:List Sl):Res Fl:=qR (iy (ev c t)) (gj c n body) k ρ
@[simp]theorem aan{c:Call}{n:Nat}{t:P}{body:List S}{ρ:List Sl}:ex c n (.whl t body) ρ=EY c n t body n ρ:=(rfl)
theorem tR{α β γ:Type}{x:Res β}{f:β->List Sl->Res α}{g:α->List Sl->Res γ}:(x.bind f).bind g=x.bind fun a ρ=>(f a ρ).bind g:=by cases x<;>rfl
@[simp]theorem abk{Γ:Tab}{w n i:Nat}{args:List Sl}{α:Type}{f:R->List Sl->Res α}{Q:α->List Sl->Prop}:((run Γ w n i args).bind f).sat Q=(run Γ w n i args).sat fun a ρ=>(f a ρ).sat Q:=bF
@[simp]theorem acb{Γ:Tab}{w n i:Nat}{args:List Sl}{α β:Type}{f:R->List Sl->Res α}{g:α->List Sl->Res β}:((run Γ w n i args).bind f).bind g=(run Γ w n i args).bind fun a ρ=>(f a ρ).bind g:=tR
@[simp]theorem YK{c:Call}{is:List Nat}{one:Bool}{test:Option P}{elt:P}{ds:List D}{ρ:List Sl}{α:Type}{f:List D->List Sl->Res α}{Q:α->List Sl->Prop}:((jU c is one test elt ds ρ).bind f).sat Q=(jU c is one test elt ds ρ).sat fun a ρ=>(f a ρ).sat Q:=bF
@[simp]theorem Xh{c:Call}{is:List Nat}{one:Bool}{test:Option P}{elt:P}{ds:List D}{ρ:List Sl}{α β:Type}{f:List D->List Sl->Res α}{g:α->List Sl->Res β}:((jU c is one test elt ds ρ).bind f).bind g=(jU c is one test elt ds ρ).bind fun a ρ=>(f a ρ).bind g:=tR
@[simp]theorem abJ{is:List Nat}{one:Bool}{b:List Sl->Res Fl}{ds:List D}{ρ:List Sl}{α:Type}{f:Fl->List Sl->Res α}{Q:α->List Sl->Prop}:((gW is one b ds ρ).bind f).sat Q=(gW is one b ds ρ).sat fun a ρ=>(f a ρ).sat Q:=bF
@[simp]theorem Xk{α β:Type}{p:Prop}[Decidable p]{a:β}{ρ:List Sl}{f:β->List Sl->Res α}{Q:α->List Sl->Prop}:((lift (if p then some a else none) ρ).bind f).sat Q=(p/\(f a ρ).sat Q):=by by_cases h:p<;>simp[h,lift,Res.bind]
@[simp]theorem Yd{α β γ:Type}{p:Prop}[Decidable p]{a:β}{ρ:List Sl}{f:β->List Sl->Res α}{g:α->List Sl->Res γ}:((lift (if p then some a else none) ρ).bind f).bind g=(lift (if p then some a else none) ρ).bind fun a ρ=>(f a ρ).bind g:=tR
@[simp]theorem bb_ite{α β:Type}{p:Prop}[Decidable p]{x y:Res β}{f:β->List Sl->Res α}:(if p then x else y).bind f=if p then x.bind f else y.bind f:=by by_cases h:p<;>simp[h]
@[simp]theorem abf{c:Call}{n k:Nat}{t:P}{b:List S}{ρ:List Sl}{α:Type}{f:Fl->List Sl->Res α}{Q:α->List Sl->Prop}:((EY c n t b k ρ).bind f).sat Q=(EY c n t b k ρ).sat fun a ρ=>(f a ρ).sat Q:=bF
@[simp]theorem abd{α β:Type}{a:α}{ρ:List Sl}{f:α->List Sl->Res β}:(Res.ok a ρ).bind f=f a ρ:=rfl
@[simp]theorem RJ{α β:Type}{f:α->List Sl->Res β}:(Res.stuck:Res α).bind f=.stuck:=rfl
@[simp]theorem Vt{α:Type}{a:α}{ρ:List Sl}:lift (some a) ρ=.ok a ρ:=rfl
@[simp]theorem Um{α:Type}{ρ:List Sl}:lift (none:Option α) ρ=.stuck:=rfl
noncomputable def Cu:List Sl->Nat->Sl->List Sl|[],_,_=>[]|t::ρ,0,s=>dY t (some s)::ρ|t::ρ,k+1,s=>t::Cu ρ k s
noncomputable def bk:List Arg->List Sl->List Sl->List Sl|.fc k::as,s::ss,ρ=>bk as ss (Cu ρ k s)|.dat _::as,_::ss,ρ=>bk as ss ρ|.tmp _::as,_::ss,ρ=>bk as ss ρ|_,_,ρ=>ρ
section
variable{t s:Sl}{ρ ss:List Sl}{k:Nat}{as:List Arg}{d:D}{ds:List D}
@[simp]theorem ada:Cu (t::ρ) 0 s=dY t (some s)::ρ:=rfl
@[simp]theorem adM:Cu (t::ρ) (k+1) s=t::Cu ρ k s:=rfl
@[simp]theorem Nr:bk (.fc k::as) (s::ss) ρ=bk as ss (Cu ρ k s):=rfl
@[simp]theorem O5:bk (.dat d::as) (s::ss) ρ=bk as ss ρ:=rfl
@[simp]theorem Q8:bk (.tmp ds::as) (s::ss) ρ=bk as ss ρ:=rfl
@[simp]theorem aca:bk [] ss ρ=ρ:=rfl
end
theorem xQ{s:Sl}:∀{ρ:List Sl}{k j:Nat},(Cu ρ k s)[j]?=(ρ[j]?).map fun t=>if j=k then dY t (some s)else t|[],_,_=>by simp[Cu]|t::ρ,0,0=>by simp[Cu]|t::ρ,0,j+1=>by simp[Cu]|t::ρ,k+1,0=>by simp[Cu]|t::ρ,k+1,j+1=>by have:=xQ (s:=s) (ρ:=ρ) (k:=k) (j:=j);simp only[Cu,List.getElem?_cons_succ,this];congr 1;funext t;simp
theorem wC{as:List Arg}{ss:List Sl}:∀{ρ:List Sl}{i j:Nat},(cT as ss i ρ)[j]?=(ρ[j]?).map fun t=>dY t (bj (i+j) as ss)|[],_,_=>by simp[cT]|t::ρ,i,0=>by simp[cT]|t::ρ,i,j+1=>by have:=wC (as:=as) (ss:=ss) (ρ:=ρ) (i:=i+1) (j:=j);simp only[cT,List.getElem?_cons_succ,this];rw[show i+1+j=i+(j+1)by omega]
def stb(t:Sl):Prop:=∀x,dY t x=t
def Ox(ρ:List Sl):List Arg->Prop|[]=>True|.fc k::as=>(Arg.fc k∈as->∀t,ρ[k]?=some t->stb t)/\Ox ρ as|_::as=>Ox ρ as
theorem oG{ρ:List Sl}:∀{as:List Arg}{ρ':List Sl},Ox ρ as->(∀k,Arg.fc k∈as->∀t,ρ'[k]?=some t->ρ[k]?=some t\/stb t)->Ox ρ' as
 |[],_,_,_=>trivial|.fc k::as,ρ',h,g=>⟨fun hm t ht=>by
  rcases g k (by simp) t ht with e|e;.exact h.1 hm t e
  .exact e,oG h.2 fun j hj=>g j (by simp[hj])⟩|.dat _::as,ρ',h,g=>oG (as:=as) h fun j hj=>g j (by simp[hj])|.tmp _::as,ρ',h,g=>oG (as:=as) h fun j hj=>g j (by simp[hj])
theorem lA{k:Nat}:∀{as:List Arg}{ss:List Sl},Arg.fc k∉as->bj k as ss=none|[],_,_=>by unfold bj;rfl|.fc j::as,[],_=>rfl|.dat _::as,[],_=>rfl|.tmp _::as,[],_=>rfl|.fc j::as,s::ss,h=>by simp only[mem_cons,Arg.fc.injEq,not_or]at h;rw[bj,if_neg (fun e=>h.1 e.symm),lA h.2]|.dat _::as,s::ss,h=>by simp only[mem_cons,not_or]at h;rw[bj,lA h.2]|.tmp _::as,s::ss,h=>by simp only[mem_cons,not_or]at h;rw[bj,lA h.2]
theorem zK:∀{as:List Arg}{ss ρ:List Sl},Ox ρ as->∀j,(bk as ss ρ)[j]?=(ρ[j]?).map fun t=>dY t (bj j as ss)
 |[],ss,ρ,_,j=>by cases ss<;>simp[bj]|.fc k::as,[],ρ,_,j=>by rw[show bk (.fc k::as) [] ρ=ρ from rfl];simp[bj]|.dat d::as,[],ρ,_,j=>by rw[show bk (.dat d::as) [] ρ=ρ from rfl];simp[bj]|.tmp d::as,[],ρ,_,j=>by rw[show bk (.tmp d::as) [] ρ=ρ from rfl];simp[bj]|.dat _::as,s::ss,ρ,h,j=>by rw[O5,bj];exact zK (as:=as) h j|.tmp _::as,s::ss,ρ,h,j=>by rw[Q8,bj];exact zK (as:=as) h j|.fc k::as,s::ss,ρ,h,j=>by
   have h2:Ox (Cu ρ k s) as:=oG h.2 fun i hi t ht=>by rw[xQ]at ht;cases e:ρ[i]?with|none=>rw[e]at ht;cases ht|some t0=>
      rw[e]at ht;by_cases c:i=k;.subst c;have hs:=h.1 hi t0 e;simp[hs (some s)]at ht;exact .inl (by rw[ht])
      .simp[c]at ht;exact .inl (by rw[ht])
   rw[Nr,zK h2 j,xQ,bj];cases e:ρ[j]?with|none=>rfl|some t0=>
     simp only[Option.map_some];by_cases c:j=k
     . subst c;rw[if_pos rfl,if_pos rfl];by_cases hm:Arg.fc j∈as;.have hs:=h.1 hm t0 e;rw[hs (some s),hs]
       .rw[lA hm,G4]
     .rw[if_neg c,if_neg (fun z=>c z.symm)]
theorem fJ{ρ:List Sl}{k:Nat}{b:Bool}{ds:List D}(e:ρ[k]?=some (.own b ds)):∀{as:List Arg}{u:List Nat}{r:List Sl},k∈u->bQ ρ as u=some r->Arg.fc k∉as
 |[],_,_,_,_=>by simp|.dat _::as,u,r,hu,h=>by simp only[bQ,map_eq_some_iff]at h;obtain⟨r',h,_⟩:=h;simp[fJ e hu h]|.tmp _::as,u,r,hu,h=>by simp only[bQ,map_eq_some_iff]at h;obtain⟨r',h,_⟩:=h;simp[fJ e hu h]|.fc i::as,u,r,hu,h=>by
   rw[bQ]at h;have hi:i≠k:=by rintro rfl;rw[e]at h;simp[hu]at h
   have:Arg.fc k∉as:=by
    split at h;.obtain⟨r',h,_⟩:=map_eq_some_iff.mp h;exact fJ e hu h
    . split at h;.cases h
      .obtain⟨r',h,_⟩:=map_eq_some_iff.mp h;exact fJ e (by simp[hu]) h
    . split at h;.cases h
      .obtain⟨r',h,_⟩:=map_eq_some_iff.mp h;exact fJ e (by simp[hu]) h
    .cases h
   simp[this];exact fun z=>hi z.symm
theorem fL{ρ:List Sl}:∀{as:List Arg}{u:List Nat}{r:List Sl},bQ ρ as u=some r->Ox ρ as
 |[],_,_,_=>trivial|.dat _::as,u,r,h=>by obtain⟨r',h,_⟩:=map_eq_some_iff.mp h;exact fL (as:=as) h|.tmp _::as,u,r,h=>by obtain⟨r',h,_⟩:=map_eq_some_iff.mp h;exact fL (as:=as) h|.fc i::as,u,r,h=>by
   rw[bQ]at h;split at h;.rename_i b d q;obtain⟨r',h,_⟩:=map_eq_some_iff.mp h;exact⟨fun _ t ht=>by rw[q]at ht;cases ht;exact fun x=>BL,fL h⟩
   . rename_i b ds q;split at h;.cases h
     .obtain⟨r',h,_⟩:=map_eq_some_iff.mp h;exact⟨fun hm=>absurd hm (fJ q (by simp) h),fL h⟩
   . rename_i ds q;split at h;.cases h
     .obtain⟨r',h,_⟩:=map_eq_some_iff.mp h;exact⟨fun _ t ht=>by rw[q]at ht;cases ht;exact fun x=>yG,fL h⟩
   .cases h
theorem Uw{as:List Arg}{ss ρ r:List Sl}{u:List Nat}(h:bQ ρ as u=some r):cT as ss 0 ρ=bk as ss ρ:=by apply List.ext_getElem?;intro j;rw[wC,zK (fL h),Nat.zero_add]
@[simp]theorem Sh{c:Call}{k:Nat}{as:List Arg}{ρ:List Sl}:jZ c k as ρ=match bQ ρ as []with|none=>.stuck|some args=>(c k args).bind fun r args'=>.ok r (bk as args' ρ):=by unfold jZ;cases e:bQ ρ as []with|none=>rfl|some args=>simp only[<-Uw (r:=args) e];cases c k args<;>rfl
theorem cC{c:Call}{is:List Nat}{one:Bool}{elt:P}(J:List Sl->Prop)(g:D->D){Q:List D->List Sl->Prop}{ds:List D}{ρ:List Sl}(j:J ρ)(h:∀d,d∈ds->∀ρ,J ρ->∃ρ1,bW ρ is one d=some ρ1/\(ev c elt ρ1).sat fun r ρ3=>g d=r.d/\J ρ3)(k:∀ρ,J ρ->Q (ds.map g) ρ):(jU c is one none elt ds ρ).sat Q:=yr J g j h k
theorem mV{c:Call}{is:List Nat}{one:Bool}{elt t:P}(J:List Sl->Prop)(g:D->Option D){Q:List D->List Sl->Prop}{ds:List D}{ρ:List Sl}(j:J ρ)(h:∀d,d∈ds->∀ρ,J ρ->∃ρ1,bW ρ is one d=some ρ1/\(ev c t ρ1).sat fun r ρ2=>∃b,r.d=.bl b/\if b=true then(ev c elt ρ2).sat fun r ρ3=>g d=some r.d/\J ρ3 else g d=none/\J ρ2)(k:∀ρ,J ρ->Q (ds.filterMap g) ρ):(jU c is one (some t) elt ds ρ).sat Q:=jF J g j (fun d hd ρ j=>by obtain⟨ρ1,e,h1⟩:=h d hd ρ j;refine⟨ρ1,e,?_⟩;rw[lr,iy,bF];refine h1.imp fun r ρ2⟨b,e,q⟩=>?_;rw[e];exact q) fun ρ j=>by simpa using k ρ j
theorem jt{c:Call}{n:Nat}{t:P}{body:List S}(J:Nat->List Sl->Prop){Q:Fl->List Sl->Prop}(h:∀m ρ,J m ρ->(ev c t ρ).sat fun r ρ1=>∃b,r.d=.bl b/\if b=true then(gj c n body ρ1).sat (fQ (fun ρ2=>∃m',m'<m/\J m' ρ2) Q)else Q .next ρ1):∀{k m:Nat}{ρ:List Sl},m<k->J m ρ->(EY c n t body k ρ).sat Q|0,m,ρ,hk,_=>absurd hk (Nat.not_lt_zero _)|k+1,m,ρ,hk,j=>by unfold EY;rw[qR,bF,iy,bF];refine(h m ρ j).imp fun r ρ1⟨b,e,q⟩=>?_;rw[e];show(if b=true then _ else _:Res Fl).sat Q;cases b with|false=>rw[if_neg (by simp)]at q;rw[if_neg (by simp)];exact q|true=>rw[if_pos rfl]at q;rw[if_pos rfl,bF];refine q.imp fun fl ρ2 q=>?_;cases fl with|next=>obtain⟨m',hm,j'⟩:=q;exact jt J h (lt_of_lt_of_le hm (Nat.lt_succ_iff.mp hk)) j'|cont=>obtain⟨m',hm,j'⟩:=q;exact jt J h (lt_of_lt_of_le hm (Nat.lt_succ_iff.mp hk)) j'|brk=>exact q|ret v=>exact q
@[simp]theorem adP:type_of%@HH.E1:=@HH.E1
@[simp]theorem adJ:type_of%@HH.E2:=@HH.E2
@[simp]theorem adV:type_of%@HH.E3:=@HH.E3
@[simp]theorem adg:type_of%@HH.E4:=@HH.E4
@[simp]theorem adA:type_of%@HH.E5:=@HH.E5
@[simp]theorem adD:type_of%@HH.E6:=@HH.E6
@[simp]theorem adl:type_of%@HH.E7:=@HH.E7
@[simp]theorem adb:type_of%@HH.E8:=@HH.E8
@[simp]theorem acg:type_of%@HH.E9:=@HH.E9
@[simp]theorem aaP:type_of%@HH.E10:=@HH.E10
@[simp]theorem aar:type_of%@HH.E11:=@HH.E11
@[simp]theorem abn:type_of%@HH.E12:=@HH.E12
@[simp]theorem aaa:type_of%@HH.E13:=@HH.E13
@[simp]theorem aal:type_of%@HH.E14:=@HH.E14
@[simp]theorem ZV:type_of%@HH.E15:=@HH.E15
@[simp]theorem aa5:type_of%@HH.E16:=@HH.E16
@[simp]theorem aac:type_of%@HH.E17:=@HH.E17
@[simp]theorem YZ:type_of%@HH.WL:=@HH.WL
@[simp]theorem ZR:type_of%@HH.E18:=@HH.E18
@[simp]theorem aaY:type_of%@HH.E20:=@HH.E20
@[simp]theorem aaC:type_of%@HH.E21:=@HH.E21
@[simp]theorem abg:type_of%@HH.E22:=@HH.E22
@[simp]theorem adv:type_of%@HH.X1:=@HH.X1
@[simp]theorem adn:type_of%@HH.X2:=@HH.X2
@[simp]theorem adh:type_of%@HH.X3:=@HH.X3
@[simp]theorem adx:type_of%@HH.X4:=@HH.X4
@[simp]theorem adS:type_of%@HH.X5:=@HH.X5
@[simp]theorem adE:type_of%@HH.X6:=@HH.X6
@[simp]theorem adR:type_of%@HH.X7:=@HH.X7
@[simp]theorem adC:type_of%@HH.X8:=@HH.X8
@[simp]theorem adu:type_of%@HH.X9:=@HH.X9
@[simp]theorem aay:type_of%@HH.X10:=@HH.X10
@[simp]theorem Z7:type_of%@HH.Xu:=@HH.Xu
@[simp]theorem ab7:type_of%@HH.X12:=@HH.X12
@[simp]theorem aaM:type_of%@HH.Xw:=@HH.Xw
@[simp]theorem abS:type_of%@HH.X14:=@HH.X14
@[simp]theorem ZW:type_of%@HH.iy.eq_1:=@HH.iy.eq_1
@[simp]theorem abp:type_of%@HH.evs.eq_1:=@HH.evs.eq_1
@[simp]theorem aaO:type_of%@HH.evs.eq_2:=@HH.evs.eq_2
@[simp]theorem abh:type_of%@HH.xm.eq_1:=@HH.xm.eq_1
@[simp]theorem aat:type_of%@HH.xm.eq_2:=@HH.xm.eq_2
@[simp]theorem aaQ:type_of%@HH.lr.eq_1:=@HH.lr.eq_1
@[simp]theorem aa4:type_of%@HH.lr.eq_2:=@HH.lr.eq_2
@[simp]theorem acp:type_of%@HH.oA.eq_1:=@HH.oA.eq_1
@[simp]theorem VF:type_of%@HH.bQ.eq_1:=@HH.bQ.eq_1
@[simp]theorem VG:type_of%@HH.bQ.eq_2:=@HH.bQ.eq_2
@[simp]theorem Wv:type_of%@HH.bQ.eq_3:=@HH.bQ.eq_3
@[simp]theorem Wd:type_of%@HH.bQ.eq_4:=@HH.bQ.eq_4
@[simp]theorem V4:type_of%@HH.cT.eq_1:=@HH.cT.eq_1
@[simp]theorem VJ:type_of%@HH.cT.eq_2:=@HH.cT.eq_2
@[simp]theorem Ux:type_of%@HH.bj.eq_1:=@HH.bj.eq_1
@[simp]theorem Wf:type_of%@HH.bj.eq_2:=@HH.bj.eq_2
@[simp]theorem U3:type_of%@HH.bj.eq_3:=@HH.bj.eq_3
@[simp]theorem Wz:type_of%@HH.bj.eq_4:=@HH.bj.eq_4
end HH
end
section
namespace HH
open PySem L2 PySem.Spec PyProof.Rows
section
variable{X:Cx}{c:Call}{a b:Expr}{pa pb:P}{pos:Pos}
theorem pN:∀{ds:List D}{ns:List Int},ds.mapM jd=some ns->ds=ns.map D.int|[],ns,h=>by simp at h;subst h;rfl|d::ds,ns,h=>by simp[List.mapM_cons,Option.bind_eq_some_iff]at h;obtain⟨i,e1,ms,e2,rfl⟩:=h;rw[cX e1,pN e2];rfl
theorem gZ{K:PySem.W.Frag}{F:Hp}:∀{ns:List Int}{ys:List V},aG K F ys (ns.map D.int)->ys=ns.map V.int|[],ys,h=>by rw[h.dX];rfl|n::ns,ys,h=>by obtain⟨v,r,rfl,h1,t⟩:=h.bZ;rw[Rep]at h1;rw[h1,gZ t];rfl
theorem uB{ns:List Int}{us:List Value}(h:Vals (ns.map V.int) us){i:Nat}{v:Value}(e:us.toArray[i]?=some v):∃t,v=.int (ns.getD i 0) t:=by
 have e:us[i]?=some v:=by simpa using e
 have hi:i<us.length:=(List.getElem?_eq_some_iff.mp e).1;have hl:=h.length;rw[length_map]at hl;have g:(ns.map V.int)[i]?=some (.int (ns.getD i 0)):=by rw[getElem?_map,getElem?_eq_getElem (by omega)];simp[getD,show i<ns.length by omega]
 obtain⟨w,g1,g2⟩:=h.get g;rw[e]at g1;cases g1;exact g2
theorem walked{pins:List (Addr×Obj)}{σ:L2.St}{H:Hp}{s:Shared}{p:Addr}{ys:List V}(I:L2.Inv X pins σ H s)(hc:X.calm=true)(hq:dI X.K H p ys\/gM X.K H p ys){Q:Value->Shared->Prop}{E:Value->Shared->Prop}(k:∀(it:Addr)(us:List Value)(s₂:Shared)(St:Nat->Heap->Prop),Vals ys us->Walks X.prog X.w X.A.in1 it [it,p] [it] us.toArray.size (fun i v=>us.toArray[i]?=some v) St->St 0 s₂.heap->(∀ b ∈[it,p],b<s₂.heap.objs.size)->(∀h' tk,(∀b o,b∉[it]->s₂.heap.get? b=some o->h'.get? b=some o)->L2.Inv X pins σ H {s₂ with heap:=h',toks:=tk})->Q (.ref it) s₂):wpAny (model X.prog X.w) X.A.in1 (pyIter (.ref p)) Q E s:=by
 have hh:X.A.in1.handled=none:=I.ok.hd hc;rcases hq with hq|hq
 . obtain⟨us,rv,pl,hz⟩:=I.list hq;have pl:=pl.isList;have hlt:p<s.heap.objs.size:=by obtain⟨o,h1,_⟩:=pl;exact lt_size h1
   refine wpAny_pyIter_list pl (k s.heap.objs.size us _ _ rv (Walks.list hh s.heap.objs.size p (ne_of_lt hlt) us.toArray) ⟨⟨_,get?_push_size _ rfl,rfl,rfl⟩,?_⟩ ?_ fun h' tk kp=>?_);.obtain⟨o,h1,h2⟩:=pl;exact⟨o,get?_push_of_some _ h1,h2⟩
   . intro b hb;obtain⟨o,h1,_⟩:=pl;simp at hb;rcases hb with rfl|rfl;.exact lt_size (get?_push_size _ rfl)
     .exact lt_size (get?_push_of_some _ h1)
   .exact I.kept (fun b o z=>kp b o (by simp;exact ne_of_lt (lt_size z)) (get?_push_of_some _ z))
 . obtain⟨us,rv,pl,hz⟩:=I.tuple hq;have hlt:p<s.heap.objs.size:=by obtain⟨o,h1,_⟩:=pl;exact lt_size h1
   refine wpAny_pyIter_tuple pl (k s.heap.objs.size us _ _ rv (Walks.tuple hh s.heap.objs.size p (ne_of_lt hlt) us.toArray) ⟨⟨_,get?_push_size _ rfl,rfl,rfl⟩,?_⟩ ?_ fun h' tk kp=>?_);.obtain⟨o,h1,h2⟩:=pl;exact⟨o,get?_push_of_some _ h1,h2⟩
   . intro b hb;obtain⟨o,h1,_⟩:=pl;simp at hb;rcases hb with rfl|rfl;.exact lt_size (get?_push_size _ rfl)
     .exact lt_size (get?_push_of_some _ h1)
   .exact I.kept (fun b o z=>kp b o (by simp;exact ne_of_lt (lt_size z)) (get?_push_of_some _ z))
theorem nD(ns:List Int):∀k,k<=ns.length->preSum (fun i=>ns.getD i 0) k=(ns.take k).sum|0,_=>by simp[preSum]|k+1,h=>by rw[preSum,nD ns k (by omega),List.take_succ,List.sum_append];simp[getD,show k<ns.length by omega]
theorem U9(hc:X.calm=true):dN X (.builtin "sum") (J1 X.K fun x=>blt .sum [x]):=by
 rintro pins s σ H xs us Q I r⟨x,hx,F,d,r',sm,px,he,k⟩;obtain⟨ns,e1,he⟩:=map_some (show((items d).bind fun ds=>ds.mapM jd).map _=some r' from he);subst he;obtain⟨ds,e2,e3⟩:=cz e1;obtain⟨p,ys,rfl,hq,rs⟩:=px.items sm e2;rw[pN e3]at rs;have ey:=gZ rs;subst hx;obtain⟨u,rfl,rx⟩:=r.one;cases rx;refine call_sum_walkG (walked I hc hq fun it us s₂ St rv W h0 hl kp=>?_);subst ey;have hlen:us.toArray.size=ns.length:=by rw[size_toArray,<-rv.length,length_map]
 refine⟨it,_,_,_,_,St,fun i=>ns.getD i 0,rfl,W,h0,hl,fun i v e=>uB rv e,fun h' tk t' kk=>?_⟩;rw[hlen,nD ns _ (le_refl _),List.take_length];exact⟨.int _,H,kp h' tk kk,⟨t',rfl⟩,cA.dj sm (bT _) k⟩
theorem Hm{ns:List Int}{m:Int}(hm:ns.min?=some m):ns.getD (argBest (fun i j=>decide (ns.getD i 0<ns.getD j 0)) (ns.length-1)) 0=m:=by
 have hne:ns≠[]:=by rintro rfl;simp at hm
 have hl:0<ns.length:=List.length_pos_iff.mpr hne;obtain⟨h1,h2⟩:=argBest_lt (fun i=>ns.getD i 0) (ns.length-1);have hb:=List.min?_eq_some_iff.mp hm;generalize argBest (fun i j=>decide (ns.getD i 0<ns.getD j 0)) (ns.length-1)=j at*;have hj:j<ns.length:=by omega
 have hmem:ns.getD j 0∈ns:=by simp[getD,hj]
 obtain⟨q,hq,e⟩:=List.getElem_of_mem hb.1;have h3:=h2 q (by omega);simp only[getD,getElem?_eq_getElem hq,Option.getD_some]at h3;rw[e]at h3;have h4:=hb.2 _ hmem;have h3:ns.getD j 0<=m:=h3;omega
theorem Qh(hc:X.calm=true):dN X (.builtin "min") (J1 X.K fun x=>blt .Cw [x]):=by
 rintro pins s σ H xs us Q I r⟨x,hx,F,d,r',sm,px,he,k⟩;obtain⟨ns,e1,he⟩:=cz (show((items d).bind fun ds=>ds.mapM jd).bind _=some r' from he);obtain⟨m,hm,he⟩:=map_some he;subst he;obtain⟨ds,e2,e3⟩:=cz e1;obtain⟨p,ys,rfl,hq,rs⟩:=px.items sm e2;rw[pN e3]at rs;have ey:=gZ rs;subst hx;obtain⟨u,rfl,rx⟩:=r.one;cases rx;refine call_min_walk (walked I hc hq fun it us s₂ St rv W h0 hl kp=>?_);subst ey;have hlen:us.toArray.size=ns.length:=by rw[size_toArray,<-rv.length,length_map]
 have hpos:0<ns.length:=by cases ns with|nil=>simp at hm|cons _ _=>simp
 refine⟨it,_,_,_,_,St,_,rfl,W,h0,hl,by rw[hlen];exact hpos,CmpOf.ints_lt (fun i=>ns.getD i 0) (fun i v e=>uB rv e),fun v h' tk hv kk=>?_⟩;rw[hlen]at hv;obtain⟨t,rfl⟩:=uB rv hv;rw[Hm hm];exact⟨.int _,H,kp h' tk kk,⟨t,rfl⟩,cA.dj sm (bT _) k⟩
theorem boot_sum:bootBuiltins "sum"=some (.builtin "sum"):=by decide+kernel
theorem yo{x:Str}{p':Pos}(hx:x="sum")(hc:X.calm=true)(hg:Gl X x)(hm:X.mg x=none)(ha:SX X c a pa)(hs:starEach [a] X.env=(false,eval a X.env)::starEach [] X.env:=by rfl):SX X c (.Call (.Name x p') [a] [] pos) (.blt .sum [pa]):=by subst hx;exact nu (fun h=>eX (U9 hc) hg hm boot_sum h (he:=hs)) ha (fun ρ=>rfl) rfl hs
theorem zM{x:Str}{p':Pos}(hx:x="min")(hc:X.calm=true)(hg:Gl X x)(hm:X.mg x=none)(ha:SX X c a pa)(hs:starEach [a] X.env=(false,eval a X.env)::starEach [] X.env:=by rfl):SX X c (.Call (.Name x p') [a] [] pos) (.blt .Cw [pa]):=by subst hx;exact nu (fun h=>eX (Qh hc) hg hm boot_min h (he:=hs)) ha (fun ρ=>rfl) rfl hs
theorem xn{K:PySem.W.Frag}{F H:Hp}{v:V}{d:D}(h:cY K F H v d)(f:flat d=true):jT v=true:=by cases d with|non=>rw[h.non];rfl|bl _=>rw[h.bl];rfl|int _=>rw[h.int];rfl|str _=>rw[h.str];rfl|tup _=>cases f|lst _=>cases f|dC _=>cases f|dv _ _=>cases f
theorem abM{K:PySem.W.Frag}{F H:Hp}{v u:V}{d e:D}(h:cY K F H v d)(h':cY K F H u e)(f:flat d=true)(g:flat e=true):Ig v u=jM d e:=by cases d with
 |tup _=>cases f|lst _=>cases f|dC _=>cases f|dv _ _=>cases f|non=>rw[h.non];cases e with|tup _=>cases g|lst _=>cases g|dC _=>cases g|dv _ _=>cases g|non=>rw[h'.non];rfl|bl _=>rw[h'.bl];rfl|int _=>rw[h'.int];rfl|str _=>rw[h'.str];rfl
 |bl _=>rw[h.bl];cases e with|tup _=>cases g|lst _=>cases g|dC _=>cases g|dv _ _=>cases g|non=>rw[h'.non];rfl|bl _=>rw[h'.bl];rfl|int _=>rw[h'.int];rfl|str _=>rw[h'.str];rfl
 |int _=>rw[h.int];cases e with|tup _=>cases g|lst _=>cases g|dC _=>cases g|dv _ _=>cases g|non=>rw[h'.non];rfl|bl _=>rw[h'.bl];rfl|int _=>rw[h'.int];rfl|str _=>rw[h'.str];rfl
 |str _=>rw[h.str];cases e with|tup _=>cases g|lst _=>cases g|dC _=>cases g|dv _ _=>cases g|non=>rw[h'.non];rfl|bl _=>rw[h'.bl];rfl|int _=>rw[h'.int];rfl|str _=>rw[h'.str];rfl
theorem Ov{K:PySem.W.Frag}{F H:Hp}{v:V}{d:D}(h:cY K F H v d)(f:flat d=true):∀{ds:List D}{vs:List V},aG K F vs ds->ds.all flat=true->vs.all jT=true/\inV v vs=ds.any fun y=>jM y d|[],vs,r,_=>by rw[r.dX];exact⟨rfl,rfl⟩|e::ds,vs,r,g=>by obtain⟨w,ws,rfl,h1,t⟩:=r.bZ;rw[all_cons,and_eq_true]at g;obtain⟨i1,i2⟩:=Ov h f t g.2;have q:cY K F H w e:=.inl h1;refine⟨by rw[all_cons,xn q g.1,i1];rfl,?_⟩;unfold inV at i2 ⊢;rw[any_cons,any_cons,i2,abM q h g.1 f]
theorem zj:dU X (compareOp .In) (rD X.K (oA .inn)):=by rintro pins s σ H x y v u Q I rx ry⟨F,d,e,r,sm,px,py,he,k⟩;obtain⟨t,e1,e2⟩:=map_some (show(nM false d e).map _=some r from he);subst e2;obtain⟨ds,e3,e4⟩:=cz e1;obtain⟨hf,e5⟩:=bu e4;rw[and_eq_true]at hf;obtain⟨p,xs,rfl,hq,rs⟩:=py.items sm e3;obtain⟨i1,i2⟩:=Ov px hf.1 rs hf.2;subst e5;refine Bt pins s σ H x _ v u Q I rx ry ⟨p,xs,rfl,hq,xn px hf.1,i1,?_⟩;rw[i2];exact cA.dj sm (gf _) k
theorem m5:dU X (compareOp .NotIn) (rD X.K (oA .qH)):=by rintro pins s σ H x y v u Q I rx ry⟨F,d,e,r,sm,px,py,he,k⟩;obtain⟨t,e1,e2⟩:=map_some (show(nM true d e).map _=some r from he);subst e2;obtain⟨ds,e3,e4⟩:=cz e1;obtain⟨hf,e5⟩:=bu e4;rw[and_eq_true]at hf;obtain⟨p,xs,rfl,hq,rs⟩:=py.items sm e3;obtain⟨i1,i2⟩:=Ov px hf.1 rs hf.2;subst e5;refine uh pins s σ H x _ v u Q I rx ry ⟨p,xs,rfl,hq,xn px hf.1,i1,?_⟩;rw[i2];exact cA.dj sm (gf _) k
end
end HH
end
section
namespace HH
open PySem
section
variable{i j:Int}{ds es:List D}{d:D}{b b':Bool}
@[simp]theorem Xi:oE .shl=vy:=rfl
@[simp]theorem Ye:oE .shr=vW:=rfl
@[simp]theorem Vs:oE .band=pX:=rfl
@[simp]theorem S5:vy (.int i) (.int j)=if 0<=j/\j<=1000/\i.natAbs<18446744073709551616 then some (.val (.int (i*2^j.toNat)))else none:=rfl
@[simp]theorem Tp:vW (.int i) (.int j)=if 0<=j then some (.val (.int (i/2^j.toNat)))else none:=rfl
@[simp]theorem Ro:pX (.int i) (.int j)=some (.val (.int (Builtin.bitAnd i j))):=rfl
@[simp]theorem R7:p7 (.lst ds) (.int i)=if 0<=i/\0<ds.length/\ds.length*i.toNat<=lim then some (.own (replicate i.toNat ds).flatten)else none:=rfl
@[simp]theorem Su:p7 (.tup ds) (.int i)=if 0<=i/\0<ds.length/\ds.length*i.toNat<=lim then some (.val (.tup (replicate i.toNat ds).flatten))else none:=rfl
@[simp]theorem aaF:cm .isT (.bl b) (.bl true)=some b:=rfl
@[simp]theorem Y5:cm .WW (.bl b) (.bl true)=some (!b):=rfl
@[simp]theorem XJ:blt .sum [.lst ds]=(ds.mapM jd).map fun ns=>.val (.int ns.sum):=rfl
@[simp]theorem Wb:blt .Cw [.lst ds]=(ds.mapM jd).bind fun ns=>ns.min?.map fun i=>.val (.int i):=rfl
end
@[simp]theorem aad:type_of%@HH.X16:=@HH.X16
theorem pg{ns:List Int}:(ns.map D.int).mapM jd=some ns:=by induction ns with|nil=>rfl|cons n ns ih=>simp[ih]
@[simp]theorem R0{ns:List Int}:ns.mapM (jd ∘ D.int)=some ns:=by rw[<-pg (ns:=ns),List.mapM_map]
@[simp]theorem Uv{bs:List Bool}:bs.mapM (xV ∘ D.bl)=some bs:=by induction bs with|nil=>rfl|cons b bs ih=>simp[ih]
theorem oK{S:List Int}{i:Int}:((S.map D.int).any fun y=>jM y (.int i))=S.contains i:=by induction S with|nil=>rfl|cons s S ih=>rw[map_cons,any_cons,List.contains_cons,ih,pqi];rw[show(s==i)=(i==s)from Bool.eq_iff_iff.mpr ⟨fun h=>by simp at h ⊢;exact h.symm,fun h=>by simp at h ⊢;exact h.symm⟩]
theorem lG{S:List Int}:(S.map D.int).all flat=true:=by rw[all_eq_true];intro d hd;obtain⟨i,_,rfl⟩:=mem_map.mp hd;rfl
theorem ZP{S:List Int}{i:Int}:cm .inn (.int i) (.lst (S.map D.int))=some (S.contains i):=by show nM false _ _=_;unfold nM;simp only[rE,bind_some,lN,lG,Bool.and_true,oK];rfl
theorem mL{S:List Int}{i:Int}:cm .inn (.int i) (.tup (S.map D.int))=some (S.contains i):=by show nM false _ _=_;unfold nM;simp only[rC,bind_some,lN,lG,Bool.and_true,oK];rfl
theorem BX{S:List Int}{i:Int}:cm .qH (.int i) (.lst (S.map D.int))=some (!S.contains i):=by show nM true _ _=_;unfold nM;simp only[rE,bind_some,lN,lG,Bool.and_true,oK];rfl
theorem fK{S:List Int}{i:Int}:cm .qH (.int i) (.tup (S.map D.int))=some (!S.contains i):=by show nM true _ _=_;unfold nM;simp only[rC,bind_some,lN,lG,Bool.and_true,oK];rfl
theorem oV{n:Nat}{S:List Int}:du (n+1) (.lst (S.map D.int))=true:=by rw[du,all_eq_true];intro d hd;obtain⟨i,_,rfl⟩:=mem_map.mp hd;cases n<;>rfl
theorem pI:∀{S T:List Int},gQ (S.map D.int) (T.map D.int)=(S==T)|[],[]=>by simp[gQ]|[],_::_=>by simp[gQ]|_::_,[]=>by simp[gQ]|s::S,t::T=>by rw[map_cons,map_cons,gQ,pI,pqi];rfl
theorem zH{S T:List Int}:cm .eq (.lst (S.map D.int)) (.lst (T.map D.int))=some (S==T):=by show Gy _ _=_;unfold Gy;rw[oV,oV,YJ,pI];rfl
theorem Ab{S T:List Int}:cm .ne (.lst (S.map D.int)) (.lst (T.map D.int))=some (!(S==T)):=by show Gb _ _=_;unfold Gb;rw[oV,oV,YJ,pI];rfl
theorem Io{S:List Int}:cm .eq (.lst (S.map D.int)) (.lst [])=some S.isEmpty:=by rw[show(.lst []:D)=.lst (([]:List Int).map D.int)from rfl,zH];cases S<;>rfl
theorem uw{S:List Int}:cm .ne (.lst (S.map D.int)) (.lst [])=some (!S.isEmpty):=by rw[show(.lst []:D)=.lst (([]:List Int).map D.int)from rfl,Ab];cases S<;>rfl
theorem Ir{α:Type}{l:List α}{x:α}:at' (l++[x]) (-1)=some x:=by
 unfold at' iH;rw[if_neg (by decide),if_pos (by simp only[length_append,List.length_singleton];omega)];have:(-1+((l++[x]).length:Int)).toNat=l.length:=by simp only[length_append,List.length_singleton];omega
 rw[this];simp
theorem bz{α:Type}{l:List α}{f:α->D}{k:Nat}{x:α}(h:l[k]?=some x):at' (l.map f) (k:Int)=some (f x):=by have hk:=(List.getElem?_eq_some_iff.mp h).1;rw[Ec (by simpa using hk),getElem?_map,h];rfl
theorem qd{n k:Nat}(h:k<n):iH n (k:Int)=some k:=by unfold iH;rw[if_pos (by omega),if_pos (by omega)];simp
theorem Ko{α:Type}{l:List α}{i:Int}(h:0<=i)(h':i<l.length):∃x,at' l i=some x/\x∈l:=by
 rw[uI h h'];have hk:i.toNat<l.length:=by omega
 exact⟨l[i.toNat],by simp[hk],getElem_mem hk⟩
theorem dM{is:List Nat}{one:Bool}{body:List Sl->Res Fl}{g:Nat->D}{N:Nat}(J:Nat->List Sl->Prop){Q:Fl->List Sl->Prop}(hb:∀i ρ,i<N->J i ρ->∃ρ1,bW ρ is one (g i)=some ρ1/\(body ρ1).sat (fQ (J (i+1)) Q))(hq:∀ρ,J N ρ->Q .next ρ){ρ:List Sl}(h0:J 0 ρ):(gW is one body ((List.range N).map g) ρ).sat Q:=by
 refine cF (fun r ρ=>∃i,i<=N/\r=((List.range N).map g).drop i/\J i ρ) ?_ ?_ ⟨0,zero_le _,rfl,h0⟩
 . rintro d r ρ⟨i,hi,e,j⟩;have hlt:i<N:=by
    rcases Nat.lt_or_ge i N with h|h;.exact h
    .rw[List.drop_eq_nil_of_le (by simpa using h)]at e;cases e
   rw[drop_eq_getElem_cons (by simpa using hlt)]at e;injection e with e1 e2;simp at e1;subst e1;obtain⟨ρ1,h1,h2⟩:=hb i ρ hlt j;refine⟨ρ1,h1,h2.imp fun fl ρ2 q=>?_⟩;cases fl with|next=>exact⟨i+1,hlt,e2,q⟩|cont=>exact⟨i+1,hlt,e2,q⟩|brk=>exact q|ret v=>exact q
 . rintro ρ⟨i,hi,e,j⟩;have:i=N:=by have hl:=congrArg List.length e;simp at hl;omega
   subst this;exact hq ρ j
theorem mz{c:Call}{is:List Nat}{one:Bool}{elt:P}{t:Option P}(J:List Sl->Prop)(P:D->Prop){Q:List D->List Sl->Prop}{ds:List D}{ρ:List Sl}(j:J ρ)(h:∀d,d∈ds->∀ρ,J ρ->∃ρ1,bW ρ is one d=some ρ1/\(lr c t ρ1).sat fun b ρ2=>if b=true then(ev c elt ρ2).sat fun r ρ3=>P r.d/\J ρ3 else J ρ2)(k:∀xs ρ,J ρ->xs.length<=ds.length->(∀x∈xs,P x)->Q xs ρ):(jU c is one t elt ds ρ).sat Q:=by suffices hh:∀(ds:List D)(acc:List D)(ρ:List Sl),J ρ->(∀x∈acc,P x)->(∀d,d∈ds->∀ρ,J ρ->∃ρ1,bW ρ is one d=some ρ1/\(lr c t ρ1).sat fun b ρ2=>if b=true then(ev c elt ρ2).sat fun r ρ3=>P r.d/\J ρ3 else J ρ2)->(turns is one (lr c t) (ev c elt) ds acc ρ).sat fun xs ρ=>J ρ/\(∀x∈xs,P x)/\xs.length<=acc.length+ds.length from(hh ds [] ρ j (by simp) h).imp fun xs ρ⟨q1,q2,q3⟩=>k xs ρ q1 (by simpa using q3) q2;intro ds;induction ds with|nil=>intro acc ρ j ha _;rw[turns];exact⟨j,ha,by simp⟩|cons d r ih=>
   intro acc ρ j ha h;obtain⟨ρ1,e,h1⟩:=h d (by simp) ρ j;rw[turns,e];show((lr c t ρ1).bind _).sat _;rw[bF];refine h1.imp fun b ρ2 q=>?_
   cases b with|true=>
     rw[if_pos rfl]at q;rw[if_pos rfl,bF];refine q.imp fun x ρ3⟨p,j3⟩=>?_;refine(ih (acc++[x.d]) ρ3 j3 (fun y hy=>?_) fun d' hd'=>h d' (by simp[hd'])).imp fun xs ρ⟨q1,q2,q3⟩=>⟨q1,q2,by simp at q3 ⊢;omega⟩;rcases mem_append.mp hy with hy|hy;.exact ha y hy
     .rw[mem_singleton.mp hy];exact p|false=>rw[if_neg (by simp)]at q;rw[if_neg (by simp)];exact(ih acc ρ2 q ha fun d' hd'=>h d' (by simp[hd'])).imp fun xs ρ⟨q1,q2,q3⟩=>⟨q1,q2,by simp at q3 ⊢;omega⟩
theorem rK{c:Call}{is:List Nat}{one:Bool}{elt:P}(J:List Sl->Prop)(P:D->Prop){Q:List D->List Sl->Prop}{ds:List D}{ρ:List Sl}(j:J ρ)(h:∀d,d∈ds->∀ρ,J ρ->∃ρ1,bW ρ is one d=some ρ1/\(ev c elt ρ1).sat fun r ρ3=>P r.d/\J ρ3)(k:∀xs ρ,J ρ->xs.length=ds.length->(∀x∈xs,P x)->Q xs ρ):(jU c is one none elt ds ρ).sat Q:=by suffices hh:∀(ds:List D)(acc:List D)(ρ:List Sl),J ρ->(∀x∈acc,P x)->(∀d,d∈ds->∀ρ,J ρ->∃ρ1,bW ρ is one d=some ρ1/\(ev c elt ρ1).sat fun r ρ3=>P r.d/\J ρ3)->(turns is one (lr c none) (ev c elt) ds acc ρ).sat fun xs ρ=>J ρ/\(∀x∈xs,P x)/\xs.length=acc.length+ds.length from(hh ds [] ρ j (by simp) h).imp fun xs ρ⟨q1,q2,q3⟩=>k xs ρ q1 (by simpa using q3) q2;intro ds;induction ds with|nil=>intro acc ρ j ha _;rw[turns];exact⟨j,ha,by simp⟩|cons d r ih=>
   intro acc ρ j ha h;obtain⟨ρ1,e,h1⟩:=h d (by simp) ρ j;rw[turns,e];show((lr c none ρ1).bind _).sat _;rw[lr];show((ev c elt ρ1).bind _).sat _;rw[bF];refine h1.imp fun x ρ3⟨p,j3⟩=>?_;refine(ih (acc++[x.d]) ρ3 j3 (fun y hy=>?_) fun d' hd'=>h d' (by simp[hd'])).imp fun xs ρ⟨q1,q2,q3⟩=>⟨q1,q2,by simp at q3 ⊢;omega⟩;rcases mem_append.mp hy with hy|hy;.exact ha y hy
   .rw[mem_singleton.mp hy];exact p
inductive A3(a b c:Prop):Prop where|mk(ha:a)(hb:b)(hc:c)
inductive A4(a b c d:Prop):Prop where|mk(ha:a)(hb:b)(hc:c)(hd:d)
inductive A5(a b c d e:Prop):Prop where|mk(ha:a)(hb:b)(hc:c)(hd:d)(he:e)
inductive A6(a b c d e f:Prop):Prop where|mk(ha:a)(hb:b)(hc:c)(hd:d)(he:e)(hf:f)
inductive A7(a b c d e f g:Prop):Prop where|mk(ha:a)(hb:b)(hc:c)(hd:d)(he:e)(hf:f)(hg:g)
inductive A8(a b c d e f g h:Prop):Prop where|mk(ha:a)(hb:b)(hc:c)(hd:d)(he:e)(hf:f)(hg:g)(hh:h)
inductive A9(a b c d e f g h i:Prop):Prop where|mk(ha:a)(hb:b)(hc:c)(hd:d)(he:e)(hf:f)(hg:g)(hh:h)(hi:i)
end HH
end
section
namespace HH
open PySem L2 PySem.Spec PyProof.Rows
section
variable{X:Cx}{c:Call}{n:Nat}{e a b d tg:Expr}{p pa pb pd:P}{pos:Pos}
theorem yI{g:TG}{is:List Nat}(he:SX X c e p)(hg:PG X tg g)(hgo:Gz X.K (fun ρ d=>bW ρ is false d) g)(hs:swapsWithSole [tg] e pos.line X.env=pure false:=by rfl)(hw:swappedStores [tg] e X.env=pure none:=by rfl)(h1:(assignEach [tg] X.env).map (·.2)=[assign tg X.env]:=by rfl):SS X c n (.Assign [tg] e pos) (.T6 is p):=by
 refine fC (DG he.ev hg hs hw h1) ?_;rintro D σ H⟨F,ρ,fl,ρ',g0,e,k⟩;rw[HH.X8]at e;obtain⟨r,ρ1,e1,e⟩:=ak e;refine⟨F,ρ,r,ρ1,g0,e1,fun v F1 H1 s1 rr=>?_⟩;obtain⟨F2,s2,_,rp⟩:=s1.cU rr;split at e;.rename_i ds hd;obtain⟨ρ2,ρ3,e2,e⟩:=ak e;cases e;have zz:=aF e2;clear e2;obtain⟨e2,e3⟩:=zz;rw[hd]at rp;exact hgo v (.tup ds) F2 ρ1 _ σ H1 _ s2.gs rp (by show bW ρ1 is false (.tup ds)=_;cases is<;>exact e2) fun σ' s3=>k F2 σ' H1 (s2.trans s3)
 .cases e
end
end HH
end
section
namespace HT
open PySem PySem.Spec PyProof.Rows
section
variable{prog:Program}{w:World}{A:Around}{E:Value->Shared->Prop}{s:Shared}
theorem wy{t sl:Addr}{its:Array Value}{vl vu:Value}{lo hi:Option Int}{Q:Value->Shared->Prop}(ht:IsTup s.heap t its)(hs:s.heap.IsSliceOf sl vl vu .none)(pl:IsPart vl lo)(pu:IsPart vu hi)(h1:cV its.size 0 lo=0)(h2:cV its.size its.size hi=its.size)(h:Q (.ref t) s):wpAny (model prog w) A (getItem (.ref t) (.ref sl)) Q E s:=by
 obtain⟨os,hos,hcs,hds⟩:=id hs;have hT:s.TypeIs (.ref sl) "slice":=⟨os,hos,hcs⟩;unfold getItem;try with_reducible refine wpAny_holding ?_
 first|refine wpAny_bind (wpAny_pure ?_)|skip
 refine wpAny_bind (wpAny_sequenceKey ht.typeIs (by decide) (wpAny_bind (wpAny_callSpecial?_slot (name:=Str.ofString "__getitem__") ht.typeIs slot_tuple_getitem (wpAny_call_entry slot_tuple_getitem ht.typeIs entry_tuple_getitem ?_ (args_tuple_getitem _ _)))));show wpAny _ _ (tupleItemsOf (.ref t)>>=_) _ _ s;refine wpAny_bind (tupleItemsOf_ ht (wpAny_bind (wpAny_typeOf hT ?_)));rw[if_pos (by decide)];refine wpAny_bind (ig hs pl pu ?_);have acI:((((cV its.size 0 lo:Nat):Int)==0&&(1:Int)==1&&(cV its.size its.size hi-cV its.size 0 lo)==its.size)=true):=by rw[h1,h2];simp
 show wpAny _ _ (if(((cV its.size 0 lo:Nat):Int)==0&&(1:Int)==1&&(cV its.size its.size hi-cV its.size 0 lo)==its.size)=true then _ else _) _ _ s;rw[if_pos acI];unfold Builtin.Tuple.tupleIsExact;refine wpAny_bind (wpAny_bind (wpAny_typeOf ht.typeIs (wpAny_pure ?_)));rw[if_pos (by decide)];exact wpAny_bind (wpAny_rule (wpAny_pure ⟨_,rfl,wpAny_pure h⟩))
end
end HT
namespace HH
open PySem L2 PySem.Spec PyProof.Rows
noncomputable def ZQ:Expr->Bool|.Starred _ _=>false|_=>true
theorem iB{e:Expr}{es:List Expr}{env:Env}(h:ZQ e=true):starEach (e::es) env=(false,eval e env)::starEach es env:=by cases e with|Starred a b=>cases h|_=>rw[starEach];(intro e p z;cases z)
noncomputable def pR:List Int->List Expr->Option (List Expr)|[],es=>some es|i::is,.Constant (.int j) _ _::es=>if i=j then pR is es else none|_,_=>none
theorem uA{X:L2.Cx}{c:Call}:∀(is:List Int){es es':List Expr}{ps':List P},pR is es=some es'->SA X c es' ps'->SA X c es (is.map (fun i=>P.con (.int i))++ps')|[],es,es',ps',h,r=>by cases h;exact r|i::is,[],es',ps',h,r=>by cases h|i::is,e::es,es',ps',h,r=>by cases e with
   |Constant v k p=>cases v with
     |int j=>
       replace h:(if i=j then pR is es else none)=some es':=h;split at h;.rename_i hij;subst hij;exact oM aa (uA is h r) (iB rfl)
       .cases h|_=>cases h
   |_=>cases h
theorem tV{n d:Nat}{o:Option Int}:HT.cV n d o=HH.cV n d o:=by cases o with|none=>rfl|some v=>
   show(if v<0 then(v+(n:Int)).toNat else min v.toNat n)=(if 0<=v then min v.toNat n else(v+n).toNat);by_cases h:0<=v;.rw[if_pos h,if_neg (by omega)]
   .rw[if_neg h,if_pos (by omega)]
theorem Hj{xs:List V}{lo hi:Option Int}:vh xs lo hi=HH.cut xs lo hi:=by unfold vh HH.cut;rw[tV,tV]
theorem aG.cut{K:PySem.W.Frag}{F:Hp}{ds:List D}{vs:List V}{lo hi:Option Int}(h:aG K F vs ds):aG K F (HH.cut vs lo hi) (HH.cut ds lo hi):=by unfold HH.cut;rw[h.length];exact(h.drop _).take _
section
variable{X:Cx}{c:Call}{n:Nat}{e a b:Expr}{p pa pb pl ph:P}{pos p2:Pos}{lo hi:Option Expr}
def abb(K:PySem.W.Frag):V->Option Int->Option Int->Hp->VK->Prop:=fun x lo hi H Q=>∃F d r,aL F H/\cY K F H x d/\Bd d (some lo) (some hi)=some r/\∀v F' H',Ext F H F' H'->cA K F' H' H v r->Q v H'
theorem Wc:Xr X (abb X.K):=by rintro pins s σ H x v vl vu lo hi sl Q I rx hs pl pu⟨F,d,r,sm,px,he,k⟩;cases d with|lst ds=>cases he;obtain⟨a,xs,rfl,hq,rs⟩:=px.lst sm;refine JM pins s σ H _ v vl vu lo hi sl Q I rx hs pl pu ⟨a,xs,rfl,hq,fun p hp=>?_⟩;rw[Hj];exact v7 sm rs.cut hp k|tup ds=>
   cases he;obtain⟨a,xs,rfl,hq,rs,rt⟩:=px.tup sm;by_cases hw:HT.cV xs.length 0 lo=0/\HT.cV xs.length xs.length hi=xs.length
   . cases rx;obtain⟨its,rv,ht,hz⟩:=I.tuple hq;have hlen:its.toArray.size=xs.length:=by rw[size_toArray];exact rv.length.symm
     refine⟨"tuple",_,slot_tuple_getitem.lookup,ht.typeIs,HT.wy ht hs pl pu (by rw[hlen];exact hw.1) (by rw[hlen];exact hw.2) ⟨.ref a,H,I,rfl,?_⟩⟩;have hc:HH.cut ds lo hi=ds:=by unfold HH.cut;rw[<-rs.length,<-tV,<-tV,hw.1,hw.2];simp[rs.length]
     rw[hc]at k;exact cA.dj sm rt k
   .refine P0 pins s σ H _ v vl vu lo hi sl Q I rx hs pl pu ⟨a,xs,rfl,hq,hw,fun p hp=>?_⟩;rw[Hj];exact vA sm rs.cut hp k|_=>cases he
def SO(X:Cx)(c:Call)(o:Option Expr)(p:P):Prop:=∃t,PO X o t/\∀{σ:L2.St}{H F:Hp}{ρ ρ':List Sl}{d:D}{i:Option Int}{Q:Option Int->Hp->Prop},GS X.K F ρ σ H->dm (isVar p) (HH.ev c p) ρ=.ok d ρ'->part p d=some i->(∀F' H',aO X.K F ρ σ H F' ρ' σ H'->Q i H')->t σ H Q
theorem iD:SO X c none (.con .non):=by refine⟨_,Kh,fun{σ H F ρ ρ' d i Q}g e h k=>?_⟩;cases(show some none=some i from h);have e':(HH.ev c (.con .non) ρ).bind (fun r ρ=>.ok r.d ρ)=.ok d ρ':=e;clear e;rw[HH.E2]at e';cases e';exact k F H (.refl g)
theorem iG(h:SX X c e p)(hn:vJ p=false:=by rfl):SO X c (some e) p:=by obtain⟨t,h1,h2⟩:=h.dm;refine⟨_,Jt h1,fun{σ H F ρ ρ' d i Q}g e hp k=>?_⟩;unfold part at hp;rw[hn,if_neg (by decide)]at hp;obtain⟨j,e1,e2⟩:=map_some hp;cases cX e1;subst e2;exact h2 g e fun v F' H' s pv=>⟨j,pv.int,k F' H' s⟩
theorem vq{d:D}{x y:Option (Option Int)}{r:R}(h:Bd d x y=some r):∃lo hi,x=some lo/\y=some hi:=by cases x with|none=>cases d<;>cases h|some lo=>cases y with|none=>cases d<;>cases h|some hi=>exact⟨lo,hi,rfl,rfl⟩
theorem fY(ha:SX X c a pa)(hl:SO X c lo pl)(hh:SO X c hi ph):SX X c (.Subscript a (.Slice lo hi none p2) pos) (.slice pa pl ph):=by obtain⟨tl,l1,l2⟩:=hl;obtain⟨th,h1,h2⟩:=hh;cases hv:isVar pa with|none=>refine⟨eU (wM Wc ha.ev l1 h1) ?_,fun i h=>by cases h⟩;rintro σ H Q⟨F,ρ,r,ρ',g,e,k⟩;rw[HH.E14,hv]at e;obtain⟨x,ρ1,e1',ea⟩:=ak e;clear e;have W4:(HH.ev c pa ρ).bind (fun r ρ=>.ok r.d ρ)=.ok x ρ1:=e1';clear e1';obtain⟨rx,ρ1',e1,e0⟩:=ak W4;clear W4;cases e0;obtain⟨y,ρ2,e2,eb⟩:=ak ea;clear ea;obtain⟨z,ρ3,e3,ec⟩:=ak eb;clear eb;obtain⟨e,e4⟩:=aF ec;clear ec;subst e4;obtain⟨lo',hi',q1,q2⟩:=vq e;rw[q1,q2]at e;refine⟨F,ρ,rx,_,g,e1,fun v F1 H1 s1 rr=>?_⟩;obtain⟨F2,s2,_,rp⟩:=s1.cU rr;refine l2 s2.gs e2 q1 fun F3 H3 s3=>h2 s3.gs e3 q2 fun F4 H4 s4=>?_;have s5:=s2.trans (s3.trans s4);refine⟨F4,_,r,s4.gs.sub,.inl ((rp.mono s3.cB).mono s4.cB),e,fun v F5 H5 x rn=>?_⟩;exact k v F5 H5 (s5.trans (x.stp s5.gs)) (.later s5 (rn.nY s5.gs))|some i=>refine⟨eU (wM Wc (ha.var i hv) l1 h1) ?_,fun i h=>by cases h⟩;rintro σ H Q⟨F,ρ,r,ρ',g,e,k⟩;rw[HH.E14,hv]at e;obtain⟨x0,ρ0,e0',ea⟩:=ak e;clear e;obtain⟨e0,Hx⟩:=aF e0';clear e0';subst Hx;obtain⟨y,ρ2,e2,eb⟩:=ak ea;clear ea;obtain⟨z,ρ3,e3,ec⟩:=ak eb;clear eb;obtain⟨x,ρ4,e5',ed⟩:=ak ec;clear ec;obtain⟨e5,e6⟩:=aF e5';clear e5';subst e6;obtain⟨e,e4⟩:=aF ed;clear ed;subst e4;obtain⟨lo',hi',q1,q2⟩:=vq e;rw[q1,q2]at e;obtain⟨v,hv1,_⟩:=g.pk e0;refine⟨v,hv1,l2 g e2 q1 fun F3 H3 s3=>h2 s3.gs e3 q2 fun F4 H4 s4=>?_⟩;have s5:=s3.trans s4;obtain⟨v',hv2,pv⟩:=s5.gs.pk e5;rw[hv1]at hv2;cases hv2;refine⟨F4,_,r,s4.gs.sub,pv,e,fun v F5 H5 x rn=>?_⟩;exact k v F5 H5 (s5.trans (x.stp s5.gs)) (.later s5 (rn.nY s5.gs))
theorem Ju:Xq X .Add (ipI fun i j=>if false then i-j else i+j):=O3
end
end HH
end
section
namespace L2
open PySem PySem.Spec PyProof.Rows
section
variable{X:Cx}{tg:Expr}
theorem vg:bootBuiltins "tuple"=some (.type "tuple"):=by decide+kernel
theorem p8:bootBuiltins "reversed"=some (.type "reversed"):=by decide+kernel
end
end L2
namespace HH
open PySem L2 PySem.Spec PyProof.Rows
section
variable{K:PySem.W.Frag}{F F1 H H1:Hp}{ρ ρ1:List Sl}{σ:L2.St}{ds:List D}{a:Addr}
theorem aG.rev:∀{ds:List D}{xs:List V},aG K F xs ds->aG K F xs.reverse ds.reverse|[],_,h=>by rw[h.dX];exact .nil|d::ds,_,h=>by obtain⟨v,r,rfl,h1,h2⟩:=h.bZ;rw[reverse_cons,reverse_cons];exact(aG.rev h2).append (.cons h1 .nil)
end
end HH
end
section
namespace HT
open PySem PySem.Spec PyProof.Rows
section
variable{prog:Program}{w:World}{A:Around}{E:Value->Shared->Prop}{s:Shared}
theorem yj(n:Nat):sliceAdjust none none (-1) (n:Int)=((n:Int)-1,-1):=rfl
theorem yJ(n:Nat):slicePlaces ((n:Int)-1) (-1) (-1)=n:=by
 unfold slicePlaces;have h1:¬((-1:Int)>0):=by omega
 rw[if_neg h1];by_cases h:(n:Int)-1>-1
 . rw[if_pos h];have:((n:Int)-1- -1-1)/(- -1)=(n:Int)-1:=by rw[show(- -1:Int)=1 from rfl,Int.ediv_one];omega
   rw[this];omega
 .rw[if_neg h];omega
theorem wz{sl:Addr}{t:Tok}{n:Nat}{Q:Int×Int×Nat->Shared->Prop}(hs:s.heap.IsSliceOf sl .none .none (.int (-1) t))(h:Q ((n:Int)-1,-1,n) s):wpAny (model prog w) A (sliceApplied (.ref sl) (pure (n:Int))) Q E s:=by obtain⟨os,hos,hcs,hds⟩:=id hs;unfold sliceApplied sliceFields;refine wpAny_bind (wpAny_bind (wpAny_field hos hds (x:=.none) rfl (wpAny_bind (wpAny_field hos hds (x:=.none) rfl (wpAny_bind (wpAny_field hos hds (x:=.int (-1) t) rfl (wpAny_pure ?_)))))));refine wpAny_bind (slicePart_int ?_);show wpAny _ _ (if((-1:Int)==0)=true then _ else _) _ _ s;rw[if_neg (by decide)];refine wpAny_bind (slicePart_none (wpAny_bind (slicePart_none (wpAny_bind (wpAny_pure ?_)))));show wpAny _ _ (match sliceAdjust none none (-1) (n:Int)with|(lo,hi)=>pure (lo,(-1:Int),slicePlaces lo hi (-1))) _ _ s;rw[yj];show wpAny _ _ (pure ((n:Int)-1,(-1:Int),slicePlaces ((n:Int)-1) (-1) (-1))) _ _ s;rw[yJ];exact wpAny_pure h
theorem Gm(xs:Array Value):((List.range xs.size).filterMap fun(m:Nat)=>xs[((xs.size:Int)-1+(m:Int)*(-1)).toNat]?).toArray=xs.toList.reverse.toArray:=by
 have key:∀k,k<=xs.size->(List.range k).filterMap (fun(m:Nat)=>xs[((xs.size:Int)-1+(m:Int)*(-1)).toNat]?)=xs.toList.reverse.take k:=by intro k;induction k with|zero=>intro _;rfl|succ k ih=>
    intro h;have e1:((xs.size:Int)-1+(k:Int)*(-1)).toNat=xs.size-1-k:=by omega
    have hk:k<xs.toList.reverse.length:=by simp;omega
    rw[List.range_succ,List.filterMap_append,ih (by omega),List.take_succ_eq_append_getElem hk];congr 1;simp only[filterMap_cons,List.filterMap_nil,e1];rw[Array.getElem?_eq_getElem (by omega)];simp
 rw[key _ (le_refl _),List.take_of_length_le (by simp)]
theorem lO{t sl:Addr}{items:Array Value}{u:Tok}{Q:Value->Shared->Prop}(ht:IsTup s.heap t items)(hs:s.heap.IsSliceOf sl .none .none (.int (-1) u))(h:Q (.ref s.heap.objs.size) {s with heap:=s.heap.push {cls:=.type "tuple",data:=.seq items.toList.reverse.toArray}})(hsz:items.size<=sizeLine):wpAny (model prog w) A (getItem (.ref t) (.ref sl)) Q E s:=by
 have lW:sizeOk (.seq items.toList.reverse.toArray):=by show items.toList.reverse.toArray.size<=sizeLine;simpa using hsz
 obtain⟨os,hos,hcs,hds⟩:=id hs;have hTs:s.TypeIs (.ref sl) "slice":=⟨os,hos,hcs⟩;unfold getItem;try with_reducible refine wpAny_holding ?_
 first|refine wpAny_bind (wpAny_pure ?_)|skip
 refine wpAny_bind (wpAny_sequenceKey ht.typeIs (by decide) (wpAny_bind (wpAny_callSpecial?_slot (name:=Str.ofString "__getitem__") ht.typeIs slot_tuple_getitem (wpAny_call_entry slot_tuple_getitem ht.typeIs entry_tuple_getitem ?_ (args_tuple_getitem _ _)))));show wpAny _ _ (tupleItemsOf (.ref t)>>=_) _ _ s;refine wpAny_bind (tupleItemsOf_ ht (wpAny_bind (wpAny_typeOf hTs ?_)));rw[if_pos (by decide)];refine wpAny_bind (wz hs ?_);have hno:¬(((((items.size:Int)-1)==0&&(-1:Int)==1&&items.size==items.size))=true):=by simp
 show wpAny _ _ (if(((items.size:Int)-1)==0&&(-1:Int)==1&&items.size==items.size)=true then _ else _) _ _ s;rw[if_neg hno,Gm];first|exact wpAny_bind (m:=tupleExact _) (wpAny_newObj_type (wpAny_pure ⟨_,rfl,wpAny_pure h⟩) lW)|exact wpAny_bind (m:=tupleExact _) (wpAny_newObj_type (wpAny_bind (wpAny_pure (wpAny_pure ⟨_,rfl,wpAny_pure h⟩))) lW)|exact wpAny_bind (wpAny_bind (m:=tupleExact _) (wpAny_newObj_type (wpAny_pure (wpAny_pure ⟨_,rfl,wpAny_pure h⟩)) lW))|exact wpAny_bind (wpAny_bind (m:=tupleExact _) (wpAny_newObj_type (wpAny_pure ⟨_,rfl,wpAny_pure h⟩) lW))
end
end HT
namespace HH
open PySem L2 PySem.Spec PyProof.Rows
theorem vO:∀{xs:List V}{us:List Value},Vals xs us->Vals xs.reverse us.reverse|_,_,.nil=>.nil|_,_,.cons r rs=>by rw[reverse_cons,reverse_cons];exact(vO rs).append (.cons r .nil)
theorem wO{K:PySem.W.Frag}{F:Hp}:∀{ds:List D}{vs:List V},aG K F vs ds->aG K F vs.reverse ds.reverse|[],vs,h=>by rw[h.dX];exact .nil|d::ds,vs,h=>by obtain⟨v,r,rfl,h1,h2⟩:=h.bZ;rw[reverse_cons,reverse_cons];exact(wO h2).append (.cons h1 .nil)
section
variable{X:Cx}{c:Call}{e a:Expr}{te:TE}{pa:P}{pos p1 p2 p3:Pos}
theorem Bo{r:V->Hp->VK->Prop}{j}(hr:∀(pins:List (Addr×Obj))(s:Shared)(σ:L2.St)(H:Hp)(x:V)(v:Value)(t:Tok)(sl:Addr)(Q:VK),Inv X pins σ H s->RelV x v->s.heap.IsSliceOf sl .none .none (.int (-1) t)->r x H Q->∃T id,typeLookup (.type T) "__getitem__"=pure (some (.builtin id))/\s.TypeIs v T/\wpAny (model X.prog X.w) X.A (getItem v (.ref sl)) (EP X pins σ Q) X.xe s)(he:PE X e te):PE X (.Subscript e (.Slice none none (some (.UnaryOp .USub (.Constant (.int 1) j p1) p2)) p3) pos) (tUn r te):=by intro pins s σ H Q I h;refine Subscript_ (cu (he pins s σ H _ I h) ?_);rintro v s1⟨x,H1,I1,r1,q1⟩;refine wpAny_Slice ?_;rw[evalPart_none];refine wpAny_pure (wpAny_pure ?_);rw[evalPart_some];refine cu (Lx Ef tY pins s1 σ H1 (fun y H2=>y=.int (-1)/\H2=H1) I1 ⟨1,rfl,rfl,rfl⟩) ?_;rintro v' s2⟨y,H2,I2,r2,e1,e2⟩;subst e1 e2;obtain⟨t,rfl⟩:=r2;have I4:Inv X pins σ H2 {s2 with heap:=s2.heap.push {cls:=.type "slice",data:=.fields #[.none,.none,.int (-1) t]}}:=I2.kept (t':=s2.toks) fun b ob q=>get?_push_of_some _ q;obtain⟨T,id,hT,ht,hg⟩:=hr pins {s2 with heap:=s2.heap.push {cls:=.type "slice",data:=.fields #[.none,.none,.int (-1) t]}} σ H2 x v t s2.heap.objs.size Q I4 r1 (Heap.IsSliceOf.new ..) q1;show wpAny (model X.prog X.w) X.A (subscriptTail e (.Slice none none (some (.UnaryOp .USub (.Constant (.int 1) j p1) p2)) p3) v (.ref s2.heap.objs.size)) (EP X pins σ Q) X.xe {s2 with heap:=s2.heap.push {cls:=.type "slice",data:=.fields #[.none,.none,.int (-1) t]}};exact tail_any (ops:=[v,.ref s2.heap.objs.size]) ht hT hg (by with_unfolding_all rfl)
theorem PN{j}(ha:SX X c a pa):SX X c (.Subscript a (.Slice none none (some (.UnaryOp .USub (.Constant (.int 1) j p1) p2)) p3) pos) (.blt .rvs [pa]):=by refine Dd (f:=fun x=>blt .rvs [x]) (fun h1=>Bo ?_ h1) ha (fun ρ=>rfl) rfl;rintro pins s σ H x v t sl Q I rx hs⟨F,d,r,sm,px,he,k⟩;cases d with|tup ds=>
   cases he;obtain⟨a,xs,rfl,hq,rs,rt⟩:=px.tup sm;cases rx;obtain⟨its,rv,ht,hz⟩:=I.tuple hq;have hlen:its.toArray.size=xs.length:=by rw[size_toArray];exact rv.length.symm
   refine⟨"tuple",_,slot_tuple_getitem.lookup,ht.typeIs,HT.lO ht hs ?_ (by rw[hlen];exact hz)⟩;refine⟨.ref s.heap.objs.size,_,I.laid (t':=s.toks) (o:=.tup xs.reverse) (fun b ob q=>get?_push_of_some _ q) (le_refl _) ?_,rfl,vA sm (wO rs) (I.hok.fresh (le_refl _)) k⟩;exact⟨by simpa using hz,_,vO rv,IsTup.new _ _⟩|_=>cases he
end
end HH
end
section
namespace PySem
namespace F
theorem Gh:typeLookup (.type "list_reverseiterator") "__len__"=pure none:=by rw[typeLookup_type,builtinLookup_eq_fast];kernel_rfl
theorem Ku:typeLookup (.type "list_reverseiterator") "__length_hint__"=pure (some (.builtin "list_reverseiterator.__length_hint__")):=by rw[typeLookup_type,builtinLookup_eq_fast];kernel_rfl
end F
section
variable{prog:Program}{w:World}{A:Around}{E:Value->Shared->Prop}{s:Shared}
theorem nR{it l:Addr}{items:Array Value}{Q:Bool->Shared->Prop}(hit:s.heap.IsRevIter it l ((items.size:Int)-1))(hl:s.heap.IsList l items)(hlen:items.size<=2^24)(h:∀b tk,s.toks<=tk->Q b {s with toks:=tk}):wpAny (model prog w) A (listLengthHint (.ref it)) Q E s:=by
 have hT:=hit.typeIs;unfold listLengthHint;refine wpAny_bind (wpAny_specialOf hT F.Gh ?_);show wpAny _ _ (specialOf (Value.ref it) (Str.ofString "__length_hint__")>>=_) _ _ _;refine wpAny_bind (wpAny_specialOf hT F.Ku ?_);generalize hid:("list_reverseiterator.__length_hint__":String)=id0;(fail_if_success(clear hid id0));wp_delta;rw[show splitId id0=some ("list_reverseiterator","__length_hint__")from by subst hid;decide+kernel];subst hid;refine wpAny_bind (wpAny_isInstance (b:=true) hT (by rw[isSubtype_type];kernel_rfl) ?_);rw[if_neg (by decide)];dsimp only;split;.refine wpAny_ite_split (fun hab=>absurd hab (by decide+kernel)) (fun _=>?_);exact wpAny_pure (h _ s.toks (le_refl _))
 .rename_i hq;exact absurd (by decide+kernel) hq
theorem lC{R:Result->Shared->Prop}{I l:Addr}{items:Array Value}(hh:A.handled=none)(hit:s.heap.IsRevIter I l ((items.size:Int)-1))(hl:s.heap.IsList l items)(hne:l≠I)(hlen:items.size<=2^24)(S:Addr)(hSI:S≠I)(hSl:S≠l)(res:Value)(c₀:Nat)(hS:s.heap.get? S=some {cls:=.type "list",data:=.seq #[] c₀})(hR:∀ h' tk acc' c',(∀ b o,b ≠ S->b ≠ I->s.heap.get? b=some o->h'.get? b=some o)->h'.get? S=some {cls:=.type "list",dict:=none,data:=.seq acc' c',slots:=#[]}->ItemsOf (fun i v=>items[items.size-1-i]?=some v) acc' items.size->R (.ok (.ret res)) {s with heap:=h',toks:=tk}):wpAny (model prog w) A.in1 (listExtendWith (.ref S) (.ref I) res) (fun fin s'=>match fin with|.done f=>R (.ok f) s'|.again c'=>c'.quiet=true/\codeAny (model prog w) A c' R s') (fun e s'=>R (.error e) s') s:=by
 have hSf:S∉[I,l]:=fun hm=>by
  rcases mem_cons.mp hm with e|hm;.exact hSI e
  .exact hSl (mem_singleton.mp hm)
 have W:=(Walks.listRev (prog:=prog) (w:=w) (A:=A.in1) hh I l hne items).toS;have hT:s.TypeIs (.ref I) "list_reverseiterator":=hit.typeIs;have key:∀(h:Heap)(c₁ tk:Nat),h.IsRevIter I l ((items.size:Int)-1-((0:Nat):Int))->h.IsList l items->(∀b o,b≠S->s.heap.get? b=some o->h.get? b=some o)->h.get? S=some {cls:=.type "list",data:=.seq #[] c₁}->codeAny (model prog w) A (.builtin "list.extend.loop" ⟨[.ref S,.ref I,res],[]⟩) R {s with heap:=h,toks:=tk}:=by
  intro h c₁ tk hi hl' hk hS₁;refine codeAny_extend_loopS W (by rw[sizeLine_eq];omega) S hSf res items.size 0 _ #[] c₁ rfl (zero_le _) ⟨zero_le _,hi,hl'⟩ hS₁ (ItemsOf.nil _) fun s' acc' c' hm hS' hacc=>?_;rw[Moved.eq_with hm];refine hR s'.heap s'.toks acc' c' (fun b o hb hbI e=>hm.heap b o (fun hmem=>?_) (hk b o hb e)) hS' hacc;rcases mem_cons.mp hmem with e'|hmem;.exact hb e'
  .exact hbI (mem_singleton.mp hmem)
 unfold listExtendWith;refine wpAny_bind (wpAny_typeOf hT ?_);have h1:listSameRef (.ref S) (.ref I)=false:=by simp[listSameRef,hSI]
 have h2:(Value.type "list_reverseiterator"==Value.type "list")=false:=by decide
 have h3:(Value.type "list_reverseiterator"==Value.type "tuple")=false:=by decide
 simp only[h1,h2,h3,Bool.or_false,false_eq_true,if_false];refine wpAny_bind (wpAny_pyIter_revIter hit ?_);refine wpAny_bind (wpAny_holding (nR hit hl hlen fun bb tk htk=>?_));have hi0:s.heap.IsRevIter I l ((items.size:Int)-1-((0:Nat):Int)):=by simpa using hit
 refine wpAny_ite_split (fun _=>?_) (fun _=>wpAny_pure ⟨plainId_quiet F.plain_extend_loop _,key _ c₀ _ hi0 hl (fun b o _ e=>e) hS⟩);refine wpAny_bind (wpAny_rule ?_);refine wpAny_bind ?_;show wpAny _ _ (updateSeq S (·.push .none)>>=fun _=>updateSeq S (·.pop)) _ _ _;refine wpAny_bind (wpAny_updateSeq hS rfl ?_);have hS₂:=get?_update_self (Obj.mapSeq (·.push Value.none)) hS rfl;refine wpAny_updateSeq (hz:=by seq_fits) hS₂ rfl ?_;have hS₃:=get?_update_self (Obj.mapSeq (·.pop)) hS₂ rfl;have oth:∀b o,b≠S->s.heap.get? b=some o->((s.heap.update S (Obj.mapSeq (·.push Value.none))).update S (Obj.mapSeq (·.pop))).get? b=some o:=fun b o hb e=>(get?_update_other _ _ (Ne.symm hb)).trans ((get?_update_other _ _ (Ne.symm hb)).trans e);exact wpAny_pure ⟨plainId_quiet F.plain_extend_loop _,key _ _ _ (hi0.at fun o e=>oth I o (Ne.symm hSI) e) (hl.at fun o e=>oth l o (Ne.symm hSl) e) oth hS₃⟩
end
end PySem
namespace L2
open PySem PySem.Spec PyProof.Rows
end L2
namespace HH
open PySem L2 PySem.Spec PyProof.Rows
end HH
end
section
namespace HH
open PySem
theorem v8:∀a b:List Int,cR a b=true->cR b a=false
 |[],[],h=>by simp[cR]at h|[],_::_,_=>by simp[cR]|_::_,[],h=>by simp[cR]at h|x::a,y::b,h=>by
   simp only[cR,or_eq_true,decide_eq_true_eq,and_eq_true]at h;simp only[cR,Bool.or_eq_false_iff,decide_eq_false_iff_not,Bool.and_eq_false_iff];rcases h with h|⟨h,h'⟩;.exact⟨by omega,.inl (by omega)⟩
   .exact⟨by omega,.inr (v8 a b h')⟩
theorem DN:∀a b c:List Int,cR b a=false->cR c b=false->cR c a=false
 |[],_,c,_,_=>by cases c<;>simp[cR]|_::_,[],_,h,_=>by simp[cR]at h|_::_,_::_,[],_,h=>by simp[cR]at h|x::a,y::b,z::c,h1,h2=>by
   simp only[cR,Bool.or_eq_false_iff,decide_eq_false_iff_not,Bool.and_eq_false_iff]at h1 h2 ⊢;refine⟨by omega,?_⟩;by_cases e:z=x;.right;exact DN a b c (h1.2.resolve_left (by omega)) (h2.2.resolve_left (by omega))
   .exact .inl e
theorem wB:∀a b:List Int,cR a b=false->cR b a=false->a=b
 |[],[],_,_=>rfl|[],_::_,h,_=>by simp[cR]at h|_::_,[],_,h=>by simp[cR]at h|x::a,y::b,h1,h2=>by
   simp only[cR,Bool.or_eq_false_iff,decide_eq_false_iff_not,Bool.and_eq_false_iff]at h1 h2;have e:x=y:=by omega
   subst e;rw[wB a b (h1.2.resolve_left (by simp)) (h2.2.resolve_left (by simp))]
theorem vR:∀{xs ys:List D},xs.all dW=true->ys.all dW=true->xs.map cP=ys.map cP->xs=ys
 |[],[],_,_,_=>rfl|[],_::_,_,_,h=>by simp at h|_::_,[],_,_,h=>by simp at h|x::xs,y::ys,h1,h2,h=>by
   simp only[all_cons,and_eq_true]at h1 h2;simp only[map_cons,List.cons.injEq]at h;obtain⟨i,rfl⟩:∃i,x=.int i:=by cases x<;>first|exact⟨_,rfl⟩|(have q:=h1.1;simp[dW]at q;done)
   obtain⟨j,rfl⟩:∃j,y=.int j:=by cases y<;>first|exact⟨_,rfl⟩|(have q:=h2.1;simp[dW]at q;done)
   rw[vR h1.2 h2.2 h.2,show i=j from h.1]
theorem zU{x y:D}(h:(dW x=true/\dW y=true)\/(xY x=true/\xY y=true))(e:mR x=mR y):x=y:=by
 rcases h with⟨h1,h2⟩|⟨h1,h2⟩
 . cases x<;>first|(simp[dW]at h1;done)|skip
   cases y<;>first|(simp[dW]at h2;done)|skip
   simpa[mR]using e
 . cases x<;>first|(simp[xY]at h1;done)|skip
   cases y<;>first|(simp[xY]at h2;done)|skip
   rename_i xs ys;cases xs<;>first|(simp[xY]at h1;done)|skip
   cases ys<;>first|(simp[xY]at h2;done)|skip
   rw[vR h1 h2 e]
noncomputable def kJ(a b:D):Bool:=!cR (mR b) (mR a)
theorem fX(ds:List D):(kh ds).Perm ds:=List.mergeSort_perm ..
theorem Jf(a b c:D)(h1:kJ a b=true)(h2:kJ b c=true):kJ a c=true:=by simp only[kJ,not_eq_true']at*;exact DN _ _ _ h1 h2
theorem Eu(a b:D):(kJ a b||kJ b a)=true:=by simp only[kJ,or_eq_true,not_eq_true'];cases h:cR (mR b) (mR a)with|false=>exact .inl rfl|true=>exact .inr (v8 _ _ h)
theorem j9(ds:List D):(kh ds).Pairwise fun a b=>kJ a b=true:=List.pairwise_mergeSort Jf Eu ds
theorem uJ{ds:List D}(h:sortable ds=true):∀x∈ds,∀y∈ds,mR x=mR y->x=y:=by
 simp only[sortable,and_eq_true,or_eq_true,all_eq_true]at h;intro x hx y hy e;rcases h.2 with h|h;.exact zU (.inl ⟨h x hx,h y hy⟩) e
 .exact zU (.inr ⟨h x hx,h y hy⟩) e
theorem pG{ds l:List D}(h:sortable ds=true)(p:l.Perm ds)(s:l.Pairwise fun a b=>kJ a b=true):l=kh ds:=by refine List.Perm.eq_of_pairwise (le:=fun a b=>kJ a b=true) (fun a b ha hb h1 h2=>?_) s (j9 ds) (p.trans (fX ds).symm);simp only[kJ,not_eq_true']at h1 h2;exact uJ h a (p.mem_iff.mp ha) b ((fX ds).mem_iff.mp hb) (wB _ _ h2 h1)
end HH
end
section
namespace HH
open PySem L2 PySem.Spec PyProof.Rows PySem.Calls PySem.W
theorem all_ints:∀{ds:List D},ds.all dW=true->ds=(ds.map cP).map D.int
 |[],_=>rfl|d::ds,h=>by
   simp only[all_cons,and_eq_true]at h;cases d<;>first|(have q:=h.1;simp[dW]at q;done)|skip
   rw[map_cons,map_cons,<-all_ints h.2];rfl
theorem intsAre_of:∀{ns:List Int}{us:List Value},Vals (ns.map V.int) us->IntsAre us ns|[],_,.nil=>.nil|n::ns,_,.cons r t=>by obtain⟨tk,rfl⟩:=r;exact .cons n tk (intsAre_of t)
section
variable{X:Cx}{c:Call}{a:Expr}{pa:P}{pos:Pos}
theorem boot_sorted:bootBuiltins "sorted"=some (.builtin "sorted"):=by decide+kernel
end
end HH
end
section
namespace HH
open PySem L2 PySem.Spec PyProof.Rows PySem.Calls
theorem xN(l b:Addr)(items items2:List Value)(n n2:Nat)(dd dd2:Option Addr)(sl sl2:Array (Option Value))(is js:List Int)(hi:IntsAre items is)(hj:IntsAre items2 js):Meets (Builtin.«tuple.__lt__» ⟨[.ref l,.ref b],[]⟩) (fun A R s=>s.heap.get? l=some {cls:=.type "tuple",dict:=dd,data:=.seq items.toArray n,slots:=sl}/\s.heap.get? b=some {cls:=.type "tuple",dict:=dd2,data:=.seq items2.toArray n2,slots:=sl2}/\R (.ok (.ret (.bool (cR is js)))) s):=.of_wp fun prog w A R s h=>by
  obtain⟨hp,g,d,tk,os⟩:=s;obtain⟨hl,hb,h⟩:=h;have f2:=AutoSeq1.sub_tuple_tuple;wp_walk using wpAny_loadPart' hl,wpAny_loadPart' hb,wpAny_forIn_list _ (fun rest b s'=>b.1=none/\s'=⟨hp,g,d,tk,os⟩/\∃xs ys is' Ub,rest=xs.zip ys/\IntsAre xs is'/\IntsAre ys Ub/\decide (items.length<items2.length)=decide (is'.length<Ub.length)/\R (.ok (.ret (.bool (cR is' Ub)))) ⟨hp,g,d,tk,os⟩) _;case turn=>rintro⟨y,x⟩rest b s'⟨hb',rfl,xs,ys,is',Ub,hz,h1,h2,h3,hR⟩;cases h1 with|nil=>cases hz|cons p t h1=>cases h2 with|nil=>cases hz|cons q u h2=>
       injection hz with hyx hrest;cases hyx;refine wpAny_bind (wpAny_eqBool_int ?_);by_cases e:p=q;.subst e;rw[beq_self_eq_true];wp_walk;exact⟨rfl,rfl,_,_,_,_,hrest,h1,h2,by rw[h3];simp,by simpa[cR]using hR⟩
       . rw[beq_eq_false_iff_ne.mpr e];have hR':R (.ok (.ret (.bool (decide (p<q))))) ⟨hp,g,d,tk,os⟩:=by simpa[cR,e]using hR
         simp only[Bool.not_false,if_true];refine wpAny_bind (wpAny_rule ?_);refine wpAny_bind (show wpAny (model prog w) A.in1 (compareOp .Lt (Value.int p t) (Value.int q u)) _ _ _ from wpAny_lt_int ?_);refine wpAny_bind (wpAny_pure ?_);exact wpAny_pure (wpAny_pure ⟨_,rfl,hR'⟩)
  case fin=>
   rintro⟨b1,b2⟩s'⟨hb',rfl,xs,ys,is',Ub,hz,h1,h2,h3,hR⟩;simp only at hb';subst hb';have e:cR is' Ub=decide (items.length<items2.length):=by rw[h3];cases h1 with|nil=>cases h2<;>simp[cR]|cons _ _ _=>cases h2 with|nil=>simp[cR]|cons _ _ _=>cases hz
   rw[e]at hR;wp_walk;exact⟨_,rfl,by simpa[Builtin.Tuple.tupleCompareSizes]using hR⟩
  case h=>exact⟨rfl,rfl,items,items2,is,js,by simp,hi,hj,by rw[IntsAre.length hi,IntsAre.length hj],h⟩
section
variable{X:Cx}
theorem mJ(hu:X.A.units+8<cLine):dU X (compareOp .Lt) (rD X.K (oA .lt)):=by rintro pins s σ H x y v u Q I rx ry⟨F,d,e,r,sm,px,py,he,k⟩;obtain⟨t,e1,e2⟩:=map_some (show(VM d e).map _=some r from he);subst e2;cases d with
 |int i=>cases e with|int j=>exact Qx pins s σ H x y v u Q I rx ry ⟨F,.int i,.int j,_,sm,px,py,by have e2:HW (fun i j=>decide (i<j)) (.int i) (.int j)=some t:=e1;simp only[e2];rfl,k⟩|_=>cases e1
 |tup xs=>cases e with|tup ys=>obtain⟨hc,e1⟩:=bu (show(if(xs.all dW&&ys.all dW)=true then some (cR (xs.map cP) (ys.map cP))else none)=some t from e1);rw[and_eq_true]at hc;obtain⟨a,vs,rfl,h1,h2,_⟩:=px.tup sm;obtain⟨b,ws,rfl,h3,h4,_⟩:=py.tup sm;cases rx;cases ry;obtain⟨its,rv,it,_⟩:=I.tuple h1;obtain⟨its2,Rw,it2,_⟩:=I.tuple h3;rw[all_ints hc.1]at h2;rw[all_ints hc.2]at h4;rw[gZ h2]at rv;rw[gZ h4]at Rw;have i1:=intsAre_of rv;have i2:=intsAre_of Rw;obtain⟨⟨cls,dd,data,sl⟩,ho,hc1,n,hd⟩:=it;obtain⟨⟨cls2,dd2,data2,sl2⟩,ho2,hc2,n2,hd2⟩:=it2;simp only at hc1 hd hc2 hd2;subst hc1 hd hc2 hd2;refine(show wpAny (model X.prog X.w) X.A (richCompare .Lt (.ref a) (.ref b)) _ _ s from richCompare_meets_room (op:=.Lt) ⟨_,ho,rfl⟩ ⟨_,ho2,rfl⟩ PySem.F.slot_tuple_lt PySem.F.entry_tuple_lt (PySem.F.args_tuple_lt_2 _ _) (xN a b its its2 n n2 dd dd2 sl sl2 _ _ i1 i2) ⟨ho,ho2,show Value.bool _≠Value.notImplemented/\_ from⟨(fun x=>nomatch x),⟨.bl t,H,I,by rw[<-e1];rfl,cA.dj sm (gf _) k⟩⟩⟩ (by omega))|_=>cases e1
 |_=>cases e1
end
end HH
end
section
namespace L2
open PySem PySem.Spec PyProof.Rows
section
variable{κ:Type}[DecidableEq κ]
noncomputable def jc(kvs:List (κ×V))(k:κ):Option V:=(kvs.find? fun kv=>decide (kv.1=k)).map (·.2)
noncomputable def putK(kvs:List (κ×V))(k:κ)(v:V):List (κ×V):=if(kvs.any fun kv=>decide (kv.1=k))=true then kvs.map (fun kv=>if kv.1=k then(kv.1,v)else kv)else kvs++[(k,v)]
theorem lR{p:κ×V}{r:List (κ×V)}{k:κ}(e:p.1=k):jc (p::r) k=some p.2:=by simp[jc,find?_cons,e]
theorem lg{p:κ×V}{r:List (κ×V)}{k:κ}(e:¬ p.1=k):jc (p::r) k=jc r k:=by simp[jc,find?_cons,e]
theorem o5(k:κ):∀kvs:List (κ×V),(kvs.any fun kv=>decide (kv.1=k))=(jc kvs k).isSome
 |[]=>rfl|p::r=>by
   rw[any_cons];by_cases e:p.1=k;.simp only[lR e,decide_eq_true e,Bool.true_or,Option.isSome_some]
   .rw[lg e,decide_eq_false e,Bool.false_or];exact o5 k r
theorem jm(kvs:List (κ×V))(k:κ)(v:V):(putK kvs k v).length<=kvs.length+1:=by
 unfold putK;split;.rw[length_map];omega
 .rw[length_append,length_cons,length_nil];omega
theorem qM.il{o:Option V}{u:Option Value}(r:qM o u):o.isSome=u.isSome:=by cases o with
 |none=>cases u with|none=>rfl|some _=>exact(show False from r).elim
 |some _=>cases u with|none=>exact(show False from r).elim|some _=>rfl
theorem KV.val{kvs:List (κ×V)}{vs:List (κ×Value)}(r:KV kvs vs)(k:κ):qM (jc kvs k) (valueAt vs k):=by unfold KV at r;induction r with|nil=>exact True.intro|@cons p q ps qs h t ih=>
   obtain⟨h1,h2⟩:=h;by_cases e:p.1=k
   . have e':q.1=k:=h1.symm.trans e;have b:valueAt (q::qs) k=some q.2:=by simp[valueAt,find?_cons,e']
     rw[lR e,b];exact h2
   . have e':¬ q.1=k:=fun z=>e (h1.trans z);have b:valueAt (q::qs) k=valueAt qs k:=by simp[valueAt,find?_cons,e']
     rw[lg e,b];exact ih
theorem KV.any{kvs:List (κ×V)}{vs:List (κ×Value)}(r:KV kvs vs)(k:κ):(kvs.any fun kv=>decide (kv.1=k))=vs.any fun kv=>decide (kv.1=k):=by unfold KV at r;induction r with|nil=>rfl|cons h t ih=>rw[any_cons,any_cons,ih,h.1]
theorem KV.repl{kvs:List (κ×V)}{vs:List (κ×Value)}(r:KV kvs vs)(k:κ){y:V}{u:Value}(ry:RelV y u):KV (kvs.map fun kv=>if kv.1=k then(kv.1,y)else kv) (vs.map fun kv=>if kv.1=k then(kv.1,u)else kv):=by unfold KV at r ⊢;induction r with|nil=>exact .nil|@cons p q ps qs h t ih=>
   rw[map_cons,map_cons];refine .cons ?_ ih;obtain⟨h1,h2⟩:=h;by_cases e:p.1=k;.rw[if_pos e,if_pos (h1.symm.trans e)];exact⟨h1,ry⟩
   .rw[if_neg e,if_neg (fun z=>e (h1.trans z))];exact⟨h1,h2⟩
theorem KV.put{kvs:List (κ×V)}{vs:List (κ×Value)}(r:KV kvs vs)(k:κ){y:V}{u:Value}(ry:RelV y u):KV (putK kvs k y) (stored vs k u):=by
 unfold putK stored;rw[r.any k];by_cases e:(vs.any fun kv=>decide (kv.1=k))=true;.rw[if_pos e,if_pos e];exact r.repl k ry
 .rw[if_neg e,if_neg e];exact Paired.snoc r ⟨rfl,ry⟩
theorem KV.length{kvs:List (κ×V)}{vs:List (κ×Value)}(r:KV kvs vs):kvs.length=vs.length:=Paired.length r
end
theorem sG{P:Program}{w:World}{k:Key}{u:Value}(r:RelV (kV k) u):(bN P w).is k u=true:=by cases k with|inl i=>obtain⟨t,e⟩:=(show ∃t,u=Value.int i t from r);subst e;exact vX P w i t|inr x=>obtain⟨t,e⟩:=(show ∃t,u=Value.str x t from r);subst e;exact vz P w x t
theorem rO{P:Program}{w:World}:∀{ks:List Key}{us:List Value},Vals (ks.map kV) us->ItemsAre (bN P w) ks us|[],_,r=>by rw[map_nil]at r;cases r;exact .nil|k::ks,_,r=>by rw[map_cons]at r;cases r with|cons h t=>exact .cons (sG h) (rO t)
abbrev KT(H:Hp):List (List Key×V)->List (List Key×Addr×Value)->Prop:=Paired fun p q=>p.1=q.1/\H q.2.1=some (.tup (p.1.map kV))/\RelV p.2 q.2.2
theorem KT.val{H:Hp}{kvs:List (List Key×V)}{xs:List (List Key×Addr×Value)}(r:KT H kvs xs)(k:List Key):qM (jc kvs k) ((atKey xs k).map (·.2)):=by induction r with|nil=>exact True.intro|@cons p q ps qs h t ih=>
   obtain⟨h1,_,h2⟩:=h;by_cases e:p.1=k
   . have e':q.1=k:=h1.symm.trans e;have b:atKey (q::qs) k=some q.2:=by simp[atKey,find?_cons,e']
     rw[lR e,b];exact h2
   . have e':¬ q.1=k:=fun z=>e (h1.trans z);have b:atKey (q::qs) k=atKey qs k:=by simp[atKey,find?_cons,e']
     rw[lg e,b];exact ih
theorem KT.repl{H:Hp}{kvs:List (List Key×V)}{xs:List (List Key×Addr×Value)}(r:KT H kvs xs)(k:List Key){y:V}{u:Value}(ry:RelV y u):KT H (kvs.map fun kv=>if kv.1=k then(kv.1,y)else kv) (xs.map (putAt k u)):=by induction r with|nil=>exact .nil|@cons p q ps qs h t ih=>
   rw[map_cons,map_cons];refine .cons ?_ ih;obtain⟨h1,h2,h3⟩:=h;unfold putAt;by_cases e:p.1=k;.rw[if_pos e,if_pos (h1.symm.trans e)];exact⟨h1,h2,ry⟩
   .rw[if_neg e,if_neg (fun z=>e (h1.trans z))];exact⟨h1,h2,h3⟩
theorem KT.put{H:Hp}{kvs:List (List Key×V)}{xs:List (List Key×Addr×Value)}(r:KT H kvs xs)(k:List Key){b:Addr}{y:V}{u:Value}(hb:H b=some (.tup (k.map kV)))(ry:RelV y u):KT H (putK kvs k y) (storedH xs k b u):=by
 have e:(kvs.any fun kv=>decide (kv.1=k))=(atKey xs k).isSome:=by rw[o5,(r.val k).il,isSome_map]
 unfold putK storedH;rw[e];by_cases q:(atKey xs k).isSome=true;.rw[if_pos q,if_pos q];exact r.repl k ry
 .rw[if_neg q,if_neg q];exact Paired.snoc r ⟨rfl,hb,ry⟩
theorem KT.keeps{H H':Hp}{kvs:List (List Key×V)}{xs:List (List Key×Addr×Value)}(r:KT H kvs xs)(ht:∀b ys,H b=some (.tup ys)->H' b=some (.tup ys)):KT H' kvs xs:=Paired.Pz r fun _ _ z=>⟨z.1,ht _ _ z.2.1,z.2.2⟩
section
variable{P:Program}{w:World}{H:Hp}{h:Heap}{a:Addr}
theorem Mh{u:HO}(ok:lZ P w H h)(e:Rd H a u):bR P w H h a u:=e.ok ok
theorem vU{kvs:List (Key×V)}(ok:lZ P w H h)(e:Rd H a (.dK kvs)):kvs.length<=sizeLine/\(a==sysModules)=false/\∃vs,KV kvs vs/\h.DictOf (bN P w) a vs:=show bR P w H h a (.dK kvs)from Mh ok e
theorem Mz{kvs:List (Key×V)}(ok:lZ P w H h)(e:H a=some (.dK kvs)):kvs.length<=sizeLine/\(a==sysModules)=false/\∃vs,KV kvs vs/\h.DictOf (bN P w) a vs:=vU ok (.inl e)
theorem pJ{ks:List Key}(ok:lZ P w H h)(e:H a=some (.tup (ks.map kV))):(tupleKind (bN P w)).is h ks a:=by obtain⟨_,its,r,o,h1,h2,n,h3⟩:=(show bR P w H h a (.tup (ks.map kV))from ok a _ e);exact⟨o,its.toArray,n,h1,h2,h3,by simpa using rO r⟩
theorem vP{kvs:List (List Key×V)}(ok:lZ P w H h)(e:Rd H a (.dT kvs)):kvs.length<=sizeLine/\(a==sysModules)=false/\∃xs,KT H kvs xs/\h.DictOfH (tupleKind (bN P w)) a xs:=by
 obtain⟨z,y,xs,r,o,es,ep,h1,h2,h3,h4,h5⟩:=(show bR P w H h a (.dT kvs)from Mh ok e);refine⟨z,y,xs,r,o,es,ep,h1,h2,h3,h4,fun x hx=>?_,h5⟩;have all:∀{l:List (List Key×V)}{m:List (List Key×Addr×Value)},KT H l m->∀x∈m,(tupleKind (bN P w)).is h x.1 x.2.1:=by intro l m q;induction q with|nil=>intro x hx;exact nomatch hx|@cons p q ps qs hq t ih=>
    intro x hx;rcases mem_cons.mp hx with e|hx;.subst e;exact pJ ok (by rw[<-hq.1];exact hq.2.1)
    .exact ih x hx
 exact all r x hx
theorem VR{kvs:List (List Key×V)}(ok:lZ P w H h)(e:H a=some (.dT kvs)):kvs.length<=sizeLine/\(a==sysModules)=false/\∃xs,KT H kvs xs/\h.DictOfH (tupleKind (bN P w)) a xs:=vP ok (.inl e)
end
def pA(H:Hp)(a:Addr)(y:V)(r:Option V):Prop:=(∃kvs k,Rd H a (.dK kvs)/\y=kV k/\r=jc kvs k)\/∃kvs k b,Rd H a (.dT kvs)/\y=.ref b/\H b=some (.tup (k.map kV))/\r=jc kvs k
def Vv(H:Hp)(a:Addr)(y v:V)(H':Hp):Prop:=(∃kvs k,H a=some (.dK kvs)/\y=kV k/\kvs.length<sizeLine/\H'=upd H a (.dK (putK kvs k v)))\/∃kvs k b,H a=some (.dT kvs)/\y=.ref b/\H b=some (.tup (k.map kV))/\kvs.length<sizeLine/\H'=upd H a (.dT (putK kvs k v))
section
variable{X:Cx}{pins:List (Addr×Obj)}{σ:St}{H:Hp}{s:Shared}{a:Addr}{y v:V}{u r:Value}{o:Option V}{A:Around}{E:Value->Shared->Prop}
theorem Inv.big(I:Inv X pins σ H s):sysModules<s.heap.objs.size:=by have h:mainGlobals<s.heap.objs.size:=(I.mod.glob.keeps I.bk).lt;exact lt_trans (by decide) h
theorem mO{Q:Value->Shared->Prop}(hu:A.units+1<cLine)(I:Inv X pins σ H s)(g:pA H a y (some v))(ry:RelV y u)(h:∀w' s',Inv X pins σ H s'->RelV v w'->Q w' s'):wpAny (model X.prog X.w) A (getItem (.ref a) u) Q E s:=by
 rcases g with⟨kvs,k,e,ey,l⟩|⟨kvs,k,b,e,ey,eb,l⟩;.subst ey;obtain⟨z,hd,vs,rel,dd⟩:=vU I.hok e;obtain⟨w',hw,wU⟩:=qM.some_of (v:=v) (o:=valueAt vs k) (by rw[l];exact rel.val k);exact wpAny_getItem_of (sG ry) dd.mapOf hw (h w' _ (I.tok _) wU)
 .subst ey;cases(show u=Value.ref b from ry);obtain⟨z,hd,xs,rel,dd⟩:=vP I.hok e;obtain⟨w',hw,wU⟩:=qM.some_of (v:=v) (o:=(atKey xs k).map (·.2)) (by rw[l];exact rel.val k);obtain⟨p,hp,hp2⟩:=map_eq_some_iff.mp hw;refine wpAny_getItem_heap (tupleKind_room_in1 hu) (pJ I.hok eb) dd hp ?_;rw[hp2];exact h w' _ (I.tok _) wU
theorem V3{Q:Value->Shared->Prop}(hu:A.units+1<cLine)(I:Inv X pins σ H s)(g:pA H a y o)(ry:RelV y u)(h:∀s',Inv X pins σ H s'->Q (.bool o.isSome) s'):wpAny (model X.prog X.w) A (compareOp .In u (.ref a)) Q E s:=by
 rcases g with⟨kvs,k,e,ey,l⟩|⟨kvs,k,b,e,ey,eb,l⟩;.subst ey;obtain⟨z,hd,vs,rel,dd⟩:=vU I.hok e;refine wpAny_in_of (sG ry) hd dd.mapOf ?_;rw[<-(rel.val k).il,<-l];exact h _ (I.tok _)
 .subst ey;cases(show u=Value.ref b from ry);obtain⟨z,hd,xs,rel,dd⟩:=vP I.hok e;refine wpAny_in_heap (tupleKind_room_in1 hu) (pJ I.hok eb) hd dd ?_;have q:=(rel.val k).il;rw[isSome_map]at q;rw[<-q,<-l];exact h _ (I.tok _)
theorem zY{Q:Value->Shared->Prop}(hu:A.units+1<cLine)(I:Inv X pins σ H s)(g:pA H a y o)(ry:RelV y u)(h:∀s',Inv X pins σ H s'->Q (.bool (!o.isSome)) s'):wpAny (model X.prog X.w) A (compareOp .NotIn u (.ref a)) Q E s:=by
 rcases g with⟨kvs,k,e,ey,l⟩|⟨kvs,k,b,e,ey,eb,l⟩;.subst ey;obtain⟨z,hd,vs,rel,dd⟩:=vU I.hok e;refine wpAny_notIn_of (sG ry) hd dd.mapOf ?_;rw[<-(rel.val k).il,<-l];exact h _ (I.tok _)
 .subst ey;cases(show u=Value.ref b from ry);obtain⟨z,hd,xs,rel,dd⟩:=vP I.hok e;refine wpAny_notIn_heap (tupleKind_room_in1 hu) (pJ I.hok eb) hd dd ?_;have q:=(rel.val k).il;rw[isSome_map]at q;rw[<-q,<-l];exact h _ (I.tok _)
theorem tM{h':Heap}{t':Nat}{ob:HO}(I:Inv X pins σ H s)(mu:U8 (H a))(hs:SameBut a s.heap h')(he:∃q,h'.get? a=some q)(new:bR X.prog X.w (upd H a ob) h' a ob):Inv X pins σ (upd H a ob) {s with heap:=h',toks:=t'}:=I.write (x:=a) (e:=a) mu (.inl rfl) (fun b q hb z=>(hs.2 b hb).trans z) he new
theorem Dy{P:Program}{w:World}{H':Hp}{h':Heap}{kvs:List (Key×V)}{vs:List (Key×Value)}(z:kvs.length<=sizeLine)(hd:(a==sysModules)=false)(rel:KV kvs vs)(dd:h'.DictOf (bN P w) a vs):bR P w H' h' a (.dK kvs):=⟨z,hd,vs,rel,dd⟩
theorem Bg{H':Hp}{Q:Unit->Shared->Prop}(hu:A.units+1<cLine)(I:Inv X pins σ H s)(g:Vv H a y v H')(ry:RelV y u)(rv:RelV v r)(h:∀s',Inv X pins σ H' s'->Q () s'):wpAny (model X.prog X.w) A (setItem (.ref a) u r) Q E s:=by
 rcases g with⟨kvs,k,e,ey,l,eH⟩|⟨kvs,k,b,e,ey,eb,l,eH⟩
 . subst ey eH;obtain⟨z,hd,vs,rel,dd⟩:=Mz I.hok e;have hz:vs.length<=sizeLine:=by rw[<-rel.length];exact z
   have hl:(putK kvs k v).length<=sizeLine:=by have:=jm kvs k v;omega
   refine wpAny_setItem_pairs (hsz:=hz) (sG ry) dd fun h' Rx hs=>h _ ?_;have he:∃q,h'.get? a=some q:=let⟨q,_,_,hq,_⟩:=Rx;⟨q,hq⟩;exact tM I (by rw[e];exact True.intro) hs he (Dy hl hd (rel.put k rv) Rx)
 . subst ey eH;cases(show u=Value.ref b from ry);obtain⟨z,hd,xs,rel,dd⟩:=VR I.hok e;have hz:xs.length<=sizeLine:=by rw[<-Paired.length rel];exact z
   have hl:(putK kvs k v).length<=sizeLine:=by have:=jm kvs k v;omega
   refine wpAny_setItem_heap (hsz:=hz) (tupleKind_room_in1 hu) (pJ I.hok eb) dd fun h' Rx hs=>h _ ?_;obtain⟨q,es,ep,hq,h2,h3,h4,_,h5⟩:=Rx;refine tM I (by rw[e];exact True.intro) hs ⟨q,hq⟩ ⟨hl,hd,_,(rel.put k eb rv).keeps fun c ys ec=>?_,q,es,ep,hq,h2,h3,h4,h5⟩;rw[aD (Ue ec e (fun z=>nomatch z))];exact ec
end
def Ie(i:Expr):Prop:=∀ov iv,subscripted i false ov iv=operate [ov,iv] (getItem ov iv)
theorem zL{prog:Program}{w:World}{A:Around}{E:Value->Shared->Prop}{s:Shared}{env:Env}{value slice:Expr}{pos:Pos}{T id:String}{Q:Value->Shared->Prop}(hl:typeLookup (.type T) "__getitem__"=pure (some (.builtin id)))(hs:Ie slice)(h:wpAny (model prog w) A (eval value env) (fun o s₁=>wpAny (model prog w) A (eval slice env) (fun i s₂=>s₂.TypeIs o T/\wpAny (model prog w) A (getItem o i) Q E s₂) E s₁) E s):wpAny (model prog w) A (eval (.Subscript value slice pos) env) Q E s:=by
 refine Subscript_ (wpAny_mono h (fun o s₁ h₁=>wpAny_mono h₁ (fun i s₂ h₂=>?_) fun _ _ x=>x) fun _ _ x=>x);obtain⟨hT,h₂⟩:=h₂;unfold subscriptTail;refine wpAny_bind ?_;rw[getitemInPython_of_ne hT.not_modules];refine wpAny_bind (wpAny_specialOf hT hl ?_);have fin:wpAny (model prog w) A (subscripted slice false o i) (fun r s₃=>wpAny (model prog w) A (letTemporaryGo value o r>>=fun _=>pure r) Q E s₃) E s₂:=by rw[hs o i];exact wpAny_operating (wpAny_mono h₂ (fun r s₃ h₃=>wpAny_bind (wpAny_letTemporaryGo (wpAny_pure h₃))) fun _ _ x=>x)
 first|exact wpAny_pure (wpAny_bind fin)|exact wpAny_bind (wpAny_pure (wpAny_bind fin))|exact wpAny_bind fin
theorem jl{X:Cx}{pins:List (Addr×Obj)}{σ:St}{H:Hp}{s:Shared}{a:Addr}{y:V}{o:Option V}(I:Inv X pins σ H s)(g:pA H a y o):s.TypeIs (.ref a) "dict":=by
 rcases g with⟨kvs,k,e,_,_⟩|⟨kvs,k,b,e,_,_,_⟩;.obtain⟨_,_,vs,_,dd⟩:=vU I.hok e;exact dd.typeIs
 .obtain⟨_,_,xs,_,dd⟩:=vP I.hok e;exact dd.typeIs
def Wr(td ty:TE):TE:=fun σ H Q=>td σ H fun x H1=>ty σ H1 fun y H2=>∃a v,x=.ref a/\pA H2 a y (some v)/\Q v H2
def abD(ty td:TE):TE:=fun σ H Q=>ty σ H fun y H1=>td σ H1 fun x H2=>∃a o,x=.ref a/\pA H2 a y o/\Q (.bl o.isSome) H2
def Il(ty td:TE):TE:=fun σ H Q=>ty σ H fun y H1=>td σ H1 fun x H2=>∃a o,x=.ref a/\pA H2 a y o/\Q (.bl (!o.isSome)) H2
def Wk(td ty tv:TE):TS:=fun D σ H=>tv σ H fun v H1=>td σ H1 fun x H2=>ty σ H2 fun y H3=>∃a H4,x=.ref a/\Vv H3 a y v H4/\D.nx σ H4
section
variable{X:Cx}{o i e value:Expr}{pos pos' tpos:Pos}{td ty tv:TE}
theorem KC(hu:X.A.units+1<cLine)(ho:PE X o td)(hi:PE X i ty)(hs:Ie i):PE X (.Subscript o i pos) (Wr td ty):=by intro pins s σ H Q I h;refine zL PySem.F.slot_dict_getitem.lookup hs (cu (ho pins s σ H _ I h) fun u s1⟨x,H1,I1,rx,q1⟩=>cu (hi pins s1 σ H1 _ I1 q1) fun iv s2⟨y,H2,I2,ry,a,v,ex,g,q2⟩=>?_);subst ex;obtain rfl:u=Value.ref a:=rx;exact⟨jl I2 g,mO hu I2 g ry fun w' s3 I3 wU=>⟨v,H2,I3,wU,q2⟩⟩
theorem Qo(hu:X.A.units+1<cLine)(hi:PE X i ty)(ho:PE X o td):PC X .In i o (abD ty td):=by intro pins s σ H Q I h;refine cu (hi pins s σ H _ I h) fun iv s1⟨y,H1,I1,ry,q1⟩=>cu (ho pins s1 σ H1 _ I1 q1) fun u s2⟨x,H2,I2,rx,a,ov,ex,g,q2⟩=>?_;subst ex;obtain rfl:u=Value.ref a:=rx;exact V3 hu I2 g ry fun s3 I3=>⟨.bl ov.isSome,H2,I3,rfl,q2⟩
theorem Bp(hu:X.A.units+1<cLine)(hi:PE X i ty)(ho:PE X o td):PC X .NotIn i o (Il ty td):=by intro pins s σ H Q I h;refine cu (hi pins s σ H _ I h) fun iv s1⟨y,H1,I1,ry,q1⟩=>cu (ho pins s1 σ H1 _ I1 q1) fun u s2⟨x,H2,I2,rx,a,ov,ex,g,q2⟩=>?_;subst ex;obtain rfl:u=Value.ref a:=rx;exact zY hu I2 g ry fun s3 I3=>⟨.bl (!ov.isSome),H2,I3,rfl,q2⟩
theorem Je(hu:X.A.units+1<cLine)(ho:PE X o td)(hi:PE X i ty)(hv:PE X value tv)(hs:swapsWith value (some (.Subscript o i pos')) pos.line X.env=pure false):PS X (.Assign [.Subscript o i pos'] value pos) (Wk td ty tv):=by intro pins s σ H D I h;refine wpAny_Assign_Subscript (cu (hv pins s σ H _ I h) fun r s1⟨v,H1,I1,rv,q1⟩=>cu (ho pins s1 σ H1 _ I1 q1) fun u s2⟨x,H2,I2,rx,q2⟩=>cu (hi pins s2 σ H2 _ I2 q2) fun iv s3⟨y,H3,I3,ry,a,H4,ex,g,q3⟩=>?_) hs;subst ex;obtain rfl:u=Value.ref a:=rx;exact Bg hu I3 g ry rv fun s4 I4=>⟨σ,H4,I4,q3⟩
end
theorem vd{P:Program}{w:World}{H:Hp}(h:Heap)(hb:sysModules<h.objs.size):bR P w H (h.push {cls:=.type "dict",data:=.dict #[]}) h.objs.size (.dK []):=⟨zero_le _,beq_eq_false_iff_ne.mpr (Ne.symm (ne_of_lt hb)),[],.nil,Heap.DictOf.new h⟩
def Qy:TE:=fun _ H Q=>∀p,H p=none->Q (.ref p) (upd H p (.dK []))
section
variable{X:Cx}{pos:Pos}
theorem CV:PE X (.Dict [] [] pos) Qy:=fun pins s σ H Q I h=>wpAny_Dict_empty ⟨.ref s.heap.objs.size,_,I.laid (a:=s.heap.objs.size) (o:=.dK []) (t':=s.toks) (fun _ _ q=>get?_push_of_some _ q) (le_refl _) (vd s.heap I.big),rfl,h _ (I.hok.fresh (le_refl _))⟩
end
def xG:List (TE×TE)->St->Hp->(List (V×V)->Hp->Prop)->Prop|[],_,H,Q=>Q [] H|(tk,tv)::r,σ,H,Q=>tk σ H fun x H1=>tv σ H1 fun y H2=>xG r σ H2 fun ps H3=>Q ((x,y)::ps) H3
abbrev VV:List (V×V)->List (Value×Value)->Prop:=Paired fun p q=>RelV p.1 q.1/\RelV p.2 q.2
def Yo(X:Cx)(pos:Pos)(keys:List (Option Expr))(values:List Expr)(K7:List (TE×TE)):Prop:=∀(pins:List (Addr × Obj))(s:Shared)(σ:St)(H:Hp)(Q:List (V × V)->Hp->Prop),Inv X pins σ H s->xG K7 σ H Q->wpAny (model X.prog X.w) X.A (evalPairs (pairTrees keys values X.env pos)) (fun vs s'=>∃ps H',Inv X pins σ H' s'/\VV ps vs/\Q ps H') X.xe s
theorem Jc{X:Cx}{pos:Pos}:Yo X pos [] [] []:=fun pins s σ H Q I h=>pairTrees_nil_walk ⟨[],H,I,.nil,h⟩
theorem GK{X:Cx}{pos:Pos}{k v:Expr}{ks:List (Option Expr)}{vs:List Expr}{tk tv:TE}{K7:List (TE×TE)}(hk:PE X k tk)(hv:PE X v tv)(hr:Yo X pos ks vs K7):Yo X pos (some k::ks) (v::vs) ((tk,tv)::K7):=fun pins s σ H Q I h=>pairTrees_cons_walk (cu (hk pins s σ H _ I h) fun u s1⟨x,H1,I1,rx,q1⟩=>cu (hv pins s1 σ H1 _ I1 q1) fun w2 s2⟨y,H2,I2,ry,q2⟩=>cu (hr pins s2 σ H2 _ I2 q2) fun ws s3⟨ps,H3,I3,rel,q3⟩=>⟨(x,y)::ps,H3,I3,.cons ⟨rx,ry⟩ rel,q3⟩)
noncomputable def mH(kvs more:List (Key×V)):List (Key×V):=more.foldl (fun acc kv=>putK acc kv.1 kv.2) kvs
theorem KV.merge:∀{more:List (Key×V)}{rs:List (Key×Value)}{kvs:List (Key×V)}{vs:List (Key×Value)},KV more rs->KV kvs vs->KV (mH kvs more) (merged vs rs):=by intro more rs kvs vs r;unfold KV at r;induction r generalizing kvs vs with|nil=>intro q;exact q|@cons p q ps qs h t ih=>
   intro r0;have e:KV (putK kvs p.1 p.2) (stored vs q.1 q.2):=by have:=r0.put p.1 h.2;rw[<-h.1];exact this
   exact ih e
theorem jW:∀(more kvs:List (Key×V)),(mH kvs more).length<=kvs.length+more.length|[],kvs=>by show kvs.length<=kvs.length+0;omega|p::r,kvs=>by have h1:=jW r (putK kvs p.1 p.2);have h2:=jm kvs p.1 p.2;show(mH (putK kvs p.1 p.2) r).length<=_;rw[length_cons];omega
theorem qi{P:Program}{w:World}:∀{kvs:List (Key×V)}{ws:List (Value×Value)},VV (kvs.map fun kv=>(kV kv.1,kv.2)) ws->∃rs,Carries (bN P w) ws rs/\KV kvs rs|[],_,r=>by rw[map_nil]at r;cases r;exact⟨[],True.intro,.nil⟩|p::kvs,_,r=>by rw[map_cons]at r;cases r with|@cons a b as bs h t=>obtain⟨rs,c,q⟩:=qi (P:=P) (w:=w) t;obtain⟨b1,b2⟩:=b;exact⟨(p.1,b2)::rs,⟨sG h.1,rfl,c⟩,.cons ⟨rfl,h.2⟩ q⟩
def Wg(K7:List (TE×TE)):TE:=fun σ H Q=>∀p,H p=none->xG K7 σ (upd H p (.dK [])) fun ps H2=>H2 p=some (.dK [])/\∃kvs:List (Key×V),ps=kvs.map (fun kv=>(kV kv.1,kv.2))/\kvs.length<=15/\Q (.ref p) (upd H2 p (.dK (mH [] kvs)))
theorem Ja{X:Cx}{pos:Pos}{keys:List (Option Expr)}{values:List Expr}{K7:List (TE×TE)}(h:Yo X pos keys values K7)(hall:keys.all (·.isSome)=true)(hl:keys.length=values.length)(h0:keys≠[])(h15:keys.length<=15):PE X (.Dict keys values pos) (Wg K7):=by
 intro pins s σ H Q I q;have hn:=I.hok.fresh (le_refl s.heap.objs.size);have I1:=I.laid (a:=s.heap.objs.size) (o:=.dK []) (h':=s.heap.push {cls:=.type "dict",data:=.dict #[]}) (t':=s.toks) (fun _ _ q=>get?_push_of_some _ q) (le_refl _) (vd s.heap I.big);refine wpAny_Dict_walk (knd:=bN X.prog X.w) hall hl h0 h15 (cu (h pins _ σ _ _ I1 (q _ hn)) fun ws s2⟨ps,H2,I2,rel,e,kvs,ep,lk,q2⟩=>?_);subst ep;obtain⟨rs,c,rk⟩:=qi (P:=X.prog) (w:=X.w) rel;obtain⟨z,hd,Uc,r0,dd⟩:=Mz I2.hok e;cases r0;refine⟨rs,c,dd,fun h' Rx hs=>⟨.ref s.heap.objs.size,_,?_,rfl,q2⟩⟩;have hz:(mH [] kvs).length<=sizeLine:=by have h1:=jW kvs [];rw[length_nil]at h1;rw[sizeLine_eq];omega
 have he:∃q,h'.get? s.heap.objs.size=some q:=let⟨q,_,_,hq,_⟩:=Rx;⟨q,hq⟩;exact tM I2 (by rw[e];exact True.intro) hs he (Dy hz hd (rk.merge .nil) Rx)
end L2
namespace Zh
open PySem PySem.W PySem.Calls PyProof.Rows
end Zh
namespace L2
open PySem PySem.Spec PyProof.Rows
end L2
end
section
namespace HH
open PySem L2 PySem.Spec PyProof.Rows
inductive KR(K:PySem.W.Frag)(F:Hp):List (Int×D)->List (Key×V)->Prop where|nil:KR K F [] []|cons{k:Int}{d:D}{v:V}{kvs:List (Int×D)}{es:List (Key×V)}(h:Rep K F v d)(t:KR K F kvs es):KR K F ((k,d)::kvs) ((Sum.inl k,v)::es)
section
variable{K:PySem.W.Frag}{F F':Hp}
noncomputable def ent(ks:List Int)(vs:List V):List (Key×V):=(ks.zip vs).map fun p=>(Sum.inl p.1,p.2)
theorem KR.of:∀{kvs:List (Int×D)}{vs:List V},aG K F vs (kvs.map (·.2))->KR K F kvs (ent (kvs.map (·.1)) vs)|[],vs,h=>by rw[map_nil]at h;rw[h.dX];exact .nil|(k,d)::kvs,vs,h=>by obtain⟨v,r,rfl,h1,h2⟩:=h.bZ;exact .cons h1 (KR.of h2)
theorem KR.to{kvs:List (Int×D)}{es:List (Key×V)}(h:KR K F kvs es):∃vs,es=ent (kvs.map (·.1)) vs/\aG K F vs (kvs.map (·.2)):=by induction h with|nil=>exact⟨[],rfl,.nil⟩|@cons k d v kvs es h t ih=>obtain⟨vs,rfl,r⟩:=ih;exact⟨v::vs,rfl,.cons h r⟩
theorem KR.oc{kvs:List (Int×D)}{es:List (Key×V)}(h:KR K F kvs es):jR K F (.dK es) (.v kvs):=by obtain⟨vs,rfl,r⟩:=h.to;exact⟨vs,rfl,r⟩
theorem KR.Rq{kvs:List (Int×D)}{o:HO}(h:jR K F o (.v kvs)):∃es,o=.dK es/\KR K F kvs es:=by obtain⟨vs,rfl,r⟩:=h;exact⟨_,rfl,.of r⟩
theorem KR.len{kvs:List (Int×D)}{es:List (Key×V)}(h:KR K F kvs es):es.length=kvs.length:=by induction h with|nil=>rfl|cons h t ih=>simp[ih]
theorem KR.get{kvs:List (Int×D)}{es:List (Key×V)}{k:Int}{d:D}(h:KR K F kvs es)(e:mG kvs k=some d):∃v,jc es (Sum.inl k:Key)=some v/\Rep K F v d:=by induction h with|nil=>cases e|@cons j d' v kvs es h t ih=>
   unfold mG at e ih;rw[find?_cons]at e;by_cases c:j=k;.simp[c]at e;subst e;exact⟨v,lR (by rw[c]),h⟩
   .simp[c]at e;obtain⟨v',h1,h2⟩:=ih (by simpa using e);exact⟨v',by rw[lg (by simpa using c)];exact h1,h2⟩
theorem KR.any{kvs:List (Int×D)}{es:List (Key×V)}(k:Int)(h:KR K F kvs es):(es.any fun kv=>decide (kv.1=(Sum.inl k:Key)))=kvs.any fun p=>decide (p.1=k):=by induction h with|nil=>rfl|cons h t ih=>simp[ih]
theorem KR.has{kvs:List (Int×D)}{es:List (Key×V)}(k:Int)(h:KR K F kvs es):(jc es (Sum.inl k:Key)).isSome=(kvs.map (·.1)).contains k:=by rw[<-o5,h.any k];induction h with|nil=>rfl|@cons j d v kvs es h t ih=>rw[any_cons,ih,map_cons,List.contains_cons];congr 1;exact Bool.eq_iff_iff.mpr ⟨fun z=>by simp at z ⊢;exact z.symm,fun z=>by simp at z ⊢;exact z.symm⟩
theorem KR.repl{kvs:List (Int×D)}{es:List (Key×V)}{k:Int}{d:D}{v:V}(r:Rep K F v d)(h:KR K F kvs es):KR K F (kvs.map fun p=>if p.1=k then(p.1,d)else p) (es.map fun kv=>if kv.1=(Sum.inl k:Key)then(kv.1,v)else kv):=by induction h with|nil=>exact .nil|@cons j d' v' kvs es h t ih=>
   by_cases c:j=k;.subst c;simp;exact .cons r ih
   . have:¬(Sum.inl j:Key)=Sum.inl k:=by simpa using c
     simp[c,this];exact .cons h ih
theorem KR.snoc{kvs:List (Int×D)}{es:List (Key×V)}{k:Int}{d:D}{v:V}(r:Rep K F v d)(h:KR K F kvs es):KR K F (kvs++[(k,d)]) (es++[(Sum.inl k,v)]):=by induction h with|nil=>exact .cons r .nil|cons h t ih=>exact .cons h ih
theorem KR.put{kvs:List (Int×D)}{es:List (Key×V)}{k:Int}{d:D}{v:V}(r:Rep K F v d)(h:KR K F kvs es):KR K F (jn kvs k d) (putK es (Sum.inl k:Key) v):=by
 unfold jn putK;rw[h.any k];split;.exact h.repl r
 .exact h.snoc r
theorem KR.zip{ks:List Int}{ds:List D}{vs:List V}(h:aG K F vs ds)(hl:ks.length=ds.length):KR K F (ks.zip ds) (ent ks vs):=by induction ds generalizing ks vs with
 |nil=>rw[h.dX];cases ks with|nil=>exact .nil|cons _ _=>simp at hl
 |cons d ds ih=>obtain⟨v,r,rfl,h1,h2⟩:=h.bZ;cases ks with|nil=>simp at hl|cons k ks=>exact .cons h1 (ih h2 (by simpa using hl))
end
noncomputable def Mw(p:Int×Int):Key×V:=(Sum.inl p.1,V.int p.2)
theorem GP(i:Int):∀kvs:List (Int×Int),jc (kvs.map Mw) (Sum.inl i:Key)=((kvs.find? fun kv=>decide (kv.1=i)).map (·.2)).map V.int
 |[]=>rfl|p::kvs=>by
   have ih:=GP i kvs;unfold jc at ih ⊢;rw[map_cons,find?_cons,find?_cons];by_cases h:p.1=i
   . have e:decide ((Mw p).1=(Sum.inl i:Key))=true:=by simp[Mw,h]
     rw[e];simp[h,Mw]
   . have e:decide ((Mw p).1=(Sum.inl i:Key))=false:=by simp[Mw,h]
     rw[e];simp only[h,decide_false];exact ih
section
variable{X:Cx}{c:Call}{n:Nat}{a b e:Expr}{pa pb p:P}{pos:Pos}
theorem Qu{H:Hp}{q:Addr}{m:Dc}{i:Int}{o:Option Int}(h:Rd H q m.ho)(e:m.get (.int i)=some o):pA H q (.int i) (o.map V.int):=by cases m with|k kvs=>cases e;exact .inl ⟨kvs.map Mw,Sum.inl i,h,rfl,(GP i kvs).symm⟩|t kvs=>cases e
theorem uH(hu:X.A.units+8<cLine)(ha:SX X c a pa)(hb:SX X c b pb)(hs:Ie b):SX X c (.Subscript a b pos) (.bin .Cv pa pb):=by refine ur (f:=zp) (fun h1 h2=>?_) ha hb (fun ρ=>rfl) rfl;intro pins s σ H Q I h;refine zL PySem.F.slot_dict_getitem.lookup hs (cu (h1 pins s σ H _ I h) fun u s1⟨x,H1,I1,rx,q1⟩=>cu (h2 pins s1 σ H1 _ I1 q1) fun iv s2⟨y,H2,I2,ry,q2⟩=>?_);obtain⟨F,d,e,r,sm,px,py,he,k⟩:=q2;cases d with
 |dC m=>have zz:=cz (show(m.get e).bind (fun o=>o.map fun v=>R.val (.int v))=some r from he);clear he;obtain⟨o,e1,he⟩:=zz;cases o with|none=>cases he|some v=>
     cases he;obtain⟨i,rfl⟩:∃i,e=.int i:=by cases m with|t kvs=>cases e<;>cases e1|k kvs=>cases e<;>first|exact⟨_,rfl⟩|cases e1
     obtain⟨q,ob,rfl,hq⟩:=px.dC sm;rw[py.int]at ry;obtain rfl:u=Value.ref q:=rx;have g:=Qu (.inr ⟨ob,hq⟩) e1;exact⟨jl I2 g,mO (by omega) I2 g ry fun w' s3 I3 wU=>⟨.int v,H2,I3,wU,cA.dj sm (bT _) k⟩⟩
 |dv ks ds=>cases e with|int j=>obtain⟨d',e5,he⟩:=map_some (show(mG (ks.zip ds) j).map R.val=some r from he);subst he;obtain⟨q,ob,vs,rfl,hq,rs,hl⟩:=px.dv sm;obtain⟨v',g1,g2⟩:=(KR.zip rs hl).get e5;rw[py.int]at ry;obtain rfl:u=Value.ref q:=rx;have g:pA H2 q (.int j) (some v'):=.inl ⟨_,Sum.inl j,.inr ⟨ob,hq⟩,rfl,g1.symm⟩;exact⟨jl I2 g,mO (by omega) I2 g ry fun w' s3 I3 wU=>⟨v',H2,I3,wU,cA.dj sm g2 k⟩⟩|_=>cases he
 |_=>cases he
end
end HH
end
section
namespace L2
open PySem PySem.Spec PyProof.Rows
noncomputable def Itk(a:Addr)(ob:Obj)(kvs:List (Key×V)):It:=⟨fun i H=>H a=some (.cU ob (.dK kvs))/\i<kvs.length,fun i H x H'=>H'=H/\∃p,kvs[i]?=some p/\x=kV p.1,fun i H=>H a=some (.cU ob (.dK kvs))/\kvs.length<=i⟩
theorem KV.get:∀{κ:Type}{kvs:List (κ×V)}{vs:List (κ×Value)}{i:Nat}{p:κ×V},KV kvs vs->kvs[i]?=some p->∃v,vs[i]?=some (p.1,v)|_,_,_,_,_,.nil,e=>by simp at e|_,_,_,0,_,.cons r _,e=>by simp at e;subst e;exact⟨_,by rw[List.getElem?_cons_zero,r.1]⟩|_,_,_,i+1,p,.cons _ t,e=>by obtain⟨v,h⟩:=KV.get (i:=i) (p:=p) t (by simpa using e);exact⟨v,by simpa using h⟩
theorem su{X:Cx}{pins:List (Addr×Obj)}{σ:St}{H:Hp}{s:Shared}{a:Addr}{ob:Obj}{kvs:List (Key×V)}{es:Array DictEntry}{ep:Nat}(I:Inv X pins σ H s)(h:H a=some (.cU ob (.dK kvs)))(hd:ob.data=.dict es ep):(a==sysModules)=false/\∃vs,KV kvs vs/\s.heap.DictAt (bN X.prog X.w) a vs ep:=by obtain⟨ho,hz,hS,vs,r,dd⟩:=(show bR X.prog X.w H s.heap a (.cU ob (.dK kvs))from I.hok a _ h);obtain⟨o,es',ep',h1,h2,h3,h4⟩:=dd;rw[ho]at h1;cases h1;rw[hd]at h3;cases h3;exact⟨hS,vs,r,⟨ob,es,ho,h2,hd,h4⟩⟩
theorem Nq{P:Program}{w:World}{k:Key}{u:Value}(h:(bN P w).is k u=true):RelV (kV k) u:=by
 rcases bO h with⟨i,t,rfl,rfl⟩|⟨x,t,rfl,rfl⟩;.exact⟨t,rfl⟩
 .exact⟨t,rfl⟩
theorem BJ{P:Program}{w:World}{K:PySem.W.Frag}{tg:Expr}(a it:Addr)(ob:Obj)(kvs:List (Key×V))(es:Array DictEntry)(ep:Nat)(hd:ob.data=.dict es ep):Turn P w K tg (Itk a ob kvs) [it] it (fun i h=>h.IsKeyIter it a i kvs.length ep)where
 mem:=by simp
 obj:=fun i h st b hb=>by
  have e:b=it:=by simpa using hb
  subst e;obtain⟨o,e,c,d⟩:=st;exact⟨o,e,fun v z=>by rw[d]at z;cases z⟩
 keep:=fun i h h' st k=>st.at fun o e=>k it (by simp) o e;item:=by intro X hP hw hK hc i pins s σ H E I hf st hg;subst hP hw hK;obtain⟨hq,hi⟩:=hg;obtain⟨hS,vs,r,dd⟩:=su I hq hd;have hl:vs.length=kvs.length:=(Paired.length r).symm;obtain⟨v,hx⟩:=KV.get r (show kvs[i]?=some kvs[i]by simp[hi]);obtain⟨f0,f1,f2,f3,f4,f5⟩:=hf it (by simp);refine wpAny_pyNext_dict_item (by rw[hl];exact st) dd hx fun u h' hu st' sb=>?_;have I1:Inv X pins σ H {s with heap:=h'}:=I.turned (t':=s.toks) (fun b o hb e=>(sb.2 b hb).trans e) f0 f1 f3 f4 f5;rw[hl]at st';obtain⟨o,e,c,d⟩:=id st';exact⟨u,rfl,Am (s:={s with heap:=h'}) e c d (by decide) ⟨_,H,I1,Nq hu,⟨rfl,_,by simp[hi],rfl⟩,st',fun b hb=>(hf b hb).1⟩⟩
 done:=by intro X hP hw hK hc i pins s σ H E I hf st hg;subst hP hw hK;obtain⟨hq,hi⟩:=hg;obtain⟨hS,vs,r,dd⟩:=su I hq hd;have hl:vs.length=kvs.length:=(Paired.length r).symm;obtain⟨f0,f1,f2,f3,f4,f5⟩:=hf it (by simp);refine wpAny_pyNext_dict_end (I.ok.hd hc) (by rw[hl];exact st) dd (by simp[hl,hi]) fun h' he=>⟨rfl,?_⟩;exact I.turned (t':=s.toks) (fun b o hb e=>he b o hb e) f0 f1 f3 f4 f5
 self:=fun A i s Q E st hQ=>wpAny_pyIter_keyiter st hQ
section
variable{X:Cx}{tg:Expr}
theorem JG{l:Expr}{tl:TE}(hl:PE X l tl):PI X tg l (fun σ H R=>tl σ H fun x H1=>∃a ob kvs,x=.ref a/\H1 a=some (.cU ob (.dK kvs))/\R (Itk a ob kvs) H1):=by
 intro pins s σ H R I h;refine cu (hl pins s σ H _ I h) ?_;rintro v s1⟨x,H1,I1,r1,a,ob,kvs,e,hq,q⟩;subst e;cases r1;obtain⟨ho,hz,hS,vs,r,dd⟩:=(show bR X.prog X.w H1 s1.heap a (.cU ob (.dK kvs))from I1.hok a _ hq);obtain⟨o,es,ep,h1,h2,h3,h4⟩:=id dd;rw[ho]at h1;cases h1;have hlen:vs.length=kvs.length:=(Paired.length r).symm;refine wpAny_pyIter_dict (knd:=bN X.prog X.w) (kvs:=vs) (ep:=ep) hS ⟨ob,es,ho,h2,h3,h4⟩ ?_;refine⟨s1.heap.objs.size,[s1.heap.objs.size],_,_,H1,rfl,I1.kept (t':=s1.toks) fun b o e=>get?_push_of_some _ e,BJ a _ ob kvs es ep h3,⟨_,get?_push_size _ rfl,rfl,by rw[hlen];rfl⟩,fun b hb=>?_,q⟩;have e:b=s1.heap.objs.size:=by simpa using hb
 subst e;exact I1.yf (le_refl _) (I1.hok.fresh (le_refl _))
end
end L2
namespace HH
open PySem L2 PySem.Spec PyProof.Rows
section
variable{X:Cx}{c:Call}{tg e:Expr}{p:P}
theorem J4{ks:List Int}{es:List (Key×V)}{j:Nat}{p:Key×V}{i:Int}(h:es.map (·.1)=ks.map (Sum.inl:Int->Key))(e1:es[j]?=some p)(e2:ks[j]?=some i):p.1=Sum.inl i:=by
 have:(es.map (·.1))[j]?=(ks.map (Sum.inl:Int->Key))[j]?:=by rw[h]
 rw[getElem?_map,getElem?_map,e1,e2]at this;exact Option.some.inj this
theorem lL:∀{ks:List Int}{vs:List V},ks.length=vs.length->(ent ks vs).map (·.1)=ks.map (Sum.inl:Int->Key)|[],[],_=>rfl|k::ks,v::vs,h=>by have:=lL (ks:=ks) (vs:=vs) (by simpa using h);unfold ent at this ⊢;simpa using this|[],_::_,h=>by simp at h|_::_,[],h=>by simp at h
theorem Jj(h:SX X c e p):SI X c tg e (.blt .keys [p]):=by
 unfold SI;obtain⟨ta,h1,h2⟩:=h.dm;refine kZ (JG h1) ?_;rintro σ H R⟨F,ρ,ds,ρ1,g,eA,k⟩;obtain⟨r,ρ2,eB,eC⟩:=ak (show((HH.ev c (.blt .keys [p]) ρ).bind fun r ρ=>lift (items r.d) ρ)=.ok ds ρ1 from eA);obtain⟨eD,e3⟩:=aF eC;subst e3;rw[HH.E16]at eB;obtain⟨d,ρ3,e1,eE⟩:=ak eB;obtain⟨eF,e4⟩:=aF eE;subst e4;refine h2 g e1 fun v F' H' s pv=>?_;have hd:∃(ks:List Int)(es:List (Key×V))(a:Addr)(ob:Obj),ds=ks.map D.int/\v=.ref a/\H' a=some (.cU ob (.dK es))/\es.map (·.1)=ks.map (Sum.inl:Int->Key):=by cases d with
  |dC m=>cases m with|k kvs=>cases eF;cases eD;obtain⟨a,ob,rfl,hq⟩:=pv.dC s.gs.sub;exact⟨kvs.map (·.1),kvs.map Mw,a,ob,by rw[map_map];rfl,rfl,hq,by rw[map_map,map_map];rfl⟩|t kvs=>cases eF
  |dv ks ds'=>cases eF;cases eD;obtain⟨a,ob,vs,rfl,hq,rs,hl⟩:=pv.dv s.gs.sub;exact⟨ks,ent ks vs,a,ob,rfl,rfl,hq,lL (by rw[rs.length];exact hl)⟩|_=>cases eF
 obtain⟨ks,es,a,ob,rfl,rfl,hq,hes⟩:=hd;have hle:es.length=ks.length:=by have:=congrArg List.length hes;simpa using this
 refine⟨a,ob,es,rfl,hq,k _ F' H' ⟨s.gs,fun n j F2 ρ2 σ2 H2 s2=>?_,fun F2 ρ2 σ2 H2 s2=>⟨s.trans s2,fun v r rr=>rr.later s⟩⟩⟩;have gm:=s.gs.more (n:=n) (τ:=replicate n none) (by simp);have hq2:=s2.keep a _ hq fun⟨j,⟨t,dt,q1,q2⟩,q3⟩=>by obtain⟨a',o',z1,z2,z3,z4⟩:=gm.own j t dt q1 q2;rw[q3]at z1;cases z1;rw[hq]at z2;cases z2;cases dt with|l ds=>obtain⟨xs,z,_⟩:=z4;cases z|d m=>cases m<;>cases z4|v kvs=>obtain⟨xs,z,_⟩:=z4;cases z
 refine⟨fun d hd=>?_,fun hj=>⟨hq2,by rw[hle];simpa using hj⟩⟩;have hj:j<ks.length:=by have:=(List.getElem?_eq_some_iff.mp hd).1;simpa using this
 refine⟨⟨hq2,by omega⟩,fun x jO⟨e5,q,e6,e7⟩=>?_⟩;subst e5;refine⟨F2,.refl s2.gs.sub,?_⟩;rw[getElem?_map]at hd;obtain⟨i,e8,e9⟩:=map_some hd;rw[e7,J4 hes e6 e8,<-e9];exact bT _
end
end HH
end
section
namespace HH
open PySem L2 PySem.Spec PyProof.Rows PySem.Calls PySem.W
section
variable{prog:Program}{w:World}{A:Around}{E:Value->Shared->Prop}{s:Shared}
theorem ue{κ:Type}[DecidableEq κ]{knd:PySem.KeyKind prog w κ}{d:Addr}{kvs:List (κ×Value)}{ep:Nat}{Q:List Value->Shared->Prop}(hh:A.handled=none)(lo:(d==sysModules)=false)(dd:s.heap.DictAt knd d kvs ep)(hn:kvs.length<=sizeLine)(hQ:∀h' tk acc,(∀b o,s.heap.get? b=some o->h'.get? b=some o)->s.heap.objs.size<h'.objs.size->ItemsOf (fun i v=>∃k x,kvs[i]?=some (k,x)/\knd.is k v=true) acc kvs.length->Q acc.toList {s with heap:=h',toks:=tk}):
 wpAny (model prog w) A (collect (.ref d)) Q E s:=by have hlt:=dd.lt_size;unfold collect;refine wpAny_bind (wpAny_runValue (codeAny_builtin F.entry_proto_collect ?_));rw[Around.under_plainId F.plain_proto_collect _];show wpAny _ A.in1 (newList []>>=fun l=>again (.builtin "list.__iadd__" ⟨[l,.ref d],[]⟩)) _ _ s;refine wpAny_bind (wpAny_newObj_type ?_);refine wpAny_pure ⟨plainId_quiet F.plain_list_iadd _,codeAny_builtin F.entry_list_iadd ?_⟩;rw[Around.under_plainId F.plain_list_iadd _];show wpAny _ A.in1 (listExtendWith (.ref s.heap.objs.size) (.ref d) (.ref s.heap.objs.size)) _ _ _;refine kdl_extend (A:=A) (R:=fun r s'=>match r with
  |.ok (.ret v)=>wpAny (model prog w) A (match v with
   |.ref a=>do let o<-load a match o.data with|.seq xs _=>pure xs.toList|_=>unsupported "internal:collect"
   |_=>unsupported "internal:collect") Q E s'|.ok _=>False|.error e=>E e s') (s:={s with heap:=s.heap.push {cls:=.type "list",data:=.seq #[]}}) (kdl_dict (knd:=knd) (kvs:=kvs) (ep:=ep) lo) hh (dd.push _) s.heap.objs.size (ne_of_gt hlt) (ne_of_gt hlt) _ 0 (get?_push_size _ rfl) (fun h' tk acc c' hk hS hacc=>?_) hn;refine wpAny_bind (wpAny_load hS ?_);exact wpAny_pure (hQ h' tk acc (fun b o e=>hk b o (ne_of_lt (lt_size e)) (get?_push_of_some _ e)) (lt_size hS) hacc)
end
section
variable{X:Cx}{c:Call}{a:Expr}{pa:P}{pos:Pos}
theorem fG:∀{ns:List Int}{us:List Value},IntsAre us ns->Vals (ns.map V.int) us|_,_,.nil=>.nil|_,_,.cons n t r=>.cons ⟨t,rfl⟩ (fG r)
theorem jL{K:PySem.W.Frag}{F:Hp}:∀ns:List Int,aG K F (ns.map V.int) (ns.map D.int)|[]=>.nil|n::ns=>.cons (bT n) (jL ns)
end
end HH
end
section
namespace HH
open PySem L2 PySem.Spec PyProof.Rows
theorem Inv.aa7{X:Cx}{pins:List (Addr×Obj)}{σ:L2.St}{H:Hp}{s:Shared}{a:Addr}{kvs:List (List Key×V)}(I:L2.Inv X pins σ H s)(h:H a=some (.dT kvs)):∃o,L2.Inv X pins σ (upd H a (.cU o (.dT kvs))) s:=by obtain⟨z,y,xs,r,o,es,ep,h1,h2,h3,h4,h5⟩:=(show bR X.prog X.w H s.heap a (.dT kvs)from I.hok a _ h);refine⟨o,I.write (h':=s.heap) (t':=s.toks) (by rw[h];exact trivial) (.inl rfl) (fun b u _ e=>e) ⟨o,h1⟩ ⟨h1,z,y,xs,KT.keeps r fun b ys q=>?_,o,es,ep,h1,h2,h3,h4,h5⟩⟩;rw[aD (by rintro rfl;rw[h]at q;cases q)];exact q
section
variable{X:Cx}{c:Call}{n:Nat}{a b e:Expr}{p pa pb:P}{pos:Pos}{es:List Expr}{ps:List P}{x1:Nat}{tpos:Pos}
theorem Wj{i:Nat}{x:Str}{px:Pos}(hN:X.N[i]?=some x)(hv:zW X.env.scope x)(hd:(x==("__debug__":Str))=false:=by decide)(hcd:(x==("__classdict__":Str))=false:=by decide):SX X c (.Name x px) (.vw i):=by
 have h:=gO (X:=X) (pos:=px) hN hv hd hcd;refine⟨?_,fun i h=>by cases h⟩;rintro pins s σ H Q I⟨F,ρ,r,ρ',g,e,k⟩;rw[HH.E23]at e;split at e
 . rename_i m q;cases e;obtain⟨a,h1,h2,h3⟩:=g.zR q;refine cu (h pins s σ H (fun v H'=>v=.ref a/\H'=H) I ⟨.ref a,h1,rfl,rfl⟩) fun u s1⟨v,H1,I1,r1,e1,e2⟩=>?_;subst e1 e2;have zz:∃o,L2.Inv X pins σ (upd H1 a (.cU o m.ho)) s1:=by cases m with|k kvs=>exact Inv.Dm I1 h2|t kvs=>exact Inv.aa7 I1 h2
   obtain⟨o,I2⟩:=zz;exact⟨.ref a,_,I2,r1,k _ _ _ (h3 o).1 (h3 o).2⟩
 .rename_i kvs q;cases e;obtain⟨a,vs,h1,h2,h3⟩:=g.zT q;refine cu (h pins s σ H (fun v H'=>v=.ref a/\H'=H) I ⟨.ref a,h1,rfl,rfl⟩) fun u s1⟨v,H1,I1,r1,e1,e2⟩=>?_;subst e1 e2;obtain⟨o,I2⟩:=Inv.Dm I1 h2;exact⟨.ref a,_,I2,r1,k _ _ _ (h3 o).1 (h3 o).2⟩
 .cases e
end
end HH
end
section
namespace HH
open PySem L2 PySem.Spec PyProof.Rows
section
variable{K:PySem.W.Frag}{F H F' H':Hp}{ρ ρ':List Sl}{σ σ':L2.St}
def Kp(ρ:List Sl)(σ:L2.St)(H:Hp)(a:Addr)(o:HO):Prop:=H a=some o/\¬ Own ρ σ a
theorem Kp.stp{a:Addr}{o:HO}(h:Kp ρ σ H a o)(s:aO K F ρ σ H F' ρ' σ' H'):Kp ρ' σ' H' a o:=⟨s.keep a o h.1 h.2,fun z=>(s.uX a z).elim h.2 fun e=>by rw[h.1]at e;cases e⟩
structure Wt(K:PySem.W.Frag)(F:Hp)(ρ:List Sl)(σ:L2.St)(H:Hp)(a:Addr)(ds:List D):Prop where
 ex:∃xs,Kp ρ σ H a (.lst xs)/\aG K F xs ds
 fr:F a=none
theorem Wt.stp{a:Addr}{ds:List D}(h:Wt K F ρ σ H a ds)(s:aO K F ρ σ H F' ρ' σ' H'):Wt K F' ρ' σ' H' a ds:=by obtain⟨⟨xs,h1,h2⟩,h3⟩:=h;refine⟨⟨xs,h1.stp s,h2.mono s.cB⟩,?_⟩;cases q:F' a with|none=>rfl|some o=>
   rcases s.wW a h3 (by rw[q];simp)with z|z;.exact absurd z h1.2
   .rw[h1.1]at z;cases z
end
end HH
end
section
namespace HH
open PySem L2 PySem.Spec PyProof.Rows PySem.Calls PySem.W
theorem Jk{ns js:List Int}(p:js.Perm ns)(s:js.Pairwise (·<=·))(hl:ns.length<64):kh (ns.map D.int)=js.map D.int:=by
 refine(pG ?_ (p.map D.int) ?_).symm;.simp only[sortable,length_map,and_eq_true,or_eq_true,decide_eq_true_eq];refine⟨by omega,.inl ?_⟩;rw[all_eq_true];intro x hx;obtain⟨i,_,rfl⟩:=mem_map.mp hx;rfl
 .rw[pairwise_map];refine s.imp fun{a b}h=>?_;simp only[kJ,mR,cR,not_eq_true'];simp;omega
theorem rP{prog:Program}{w:World}{A:Around}{E:Value->Shared->Prop}{s:Shared}{vs:List Value}{ns:List Int}{a:Addr}{n:Nat}{O:PySem.Fin->Shared->Prop}(ho:s.heap.get? a=some (seqObj "list" vs.toArray n))(ia:IntsAre vs ns)(h64:vs.length<64)(h:∀h' c(out:List Value)(js:List Int),(∀b o,b≠a->s.heap.get? b=some o->h'.get? b=some o)->IntsAre out js->kh (ns.map D.int)=js.map D.int->js.length=ns.length->h'.get? a=some (seqObj "list" out.toArray c)->O (.done (.ret .none)) {s with heap:=h'}):wpAny (model prog w) A (Builtin.«list.sort» ⟨[.ref a],[]⟩) O E s:=by refine list_sort_tree ho ia h64 fun out js i1 p1 s1=>?_;have ha:a<s.heap.objs.size:=lt_size ho;obtain⟨e1,ho1⟩:∃e1,(s.heap.update a (Obj.mapSeq fun _=>(#[]:Array Value))).get? a=some (seqObj "list" #[] e1):=⟨_,get?_update_seq ho fun _=>#[]⟩;have ho6:(((s.heap.update a (Obj.mapSeq fun _=>(#[]:Array Value))).push (seqObj "tuple" vs.toArray 0)).push (seqObj "list" #[] 0)).get? a=some (seqObj "list" #[] e1):=get?_push_of_some _ (get?_push_of_some _ ho1);obtain⟨c,hc⟩:∃c,(sortedHeap s.heap a vs out).get? a=some (seqObj "list" out c):=⟨_,get?_update_seq ho6 fun _=>out⟩;refine h (sortedHeap s.heap a vs out) c out.toList js (fun b o hb e=>?_) i1 (Jk p1 s1 (by rw[<-IntsAre.length ia];exact h64)) p1.length_eq (by rw[hc]);exact(get?_update_other _ _ (Ne.symm hb)).trans (get?_push_of_some _ (get?_push_of_some _ ((get?_update_other _ _ (Ne.symm hb)).trans e)))
end HH
end
section
namespace HH
open PySem
def nU(l:List Nat):Prop:=∀i j(hi:i<l.length)(hj:j<l.length),i<j->l[i]<l[j]
theorem gV{l:List Nat}:nU l↔l.Pairwise (·<·):=by rw[List.pairwise_iff_getElem];exact Iff.rfl
theorem qD{xs:Array Nat}{j:Nat}(r:nU xs.toList):∀(f lo hi:Nat),hi-lo<=f->lo<=hi->hi<=xs.size->(∀k(h:k<xs.size),k<lo->xs[k]<j)->(∀k(h:k<xs.size),hi<=k->j<=xs[k])->∃i,SetTable.below.go xs j f lo hi=i/\i<=xs.size/\(∀k(h:k<xs.size),k<i->xs[k]<j)/\(∀k(h:k<xs.size),i<=k->j<=xs[k])
 |0,lo,hi,h1,h2,h3,h4,h5=>⟨lo,rfl,by omega,h4,fun k h hk=>h5 k h (by omega)⟩|f+1,lo,hi,h1,h2,h3,h4,h5=>by
   unfold SetTable.below.go;by_cases c:lo<hi
   . rw[if_pos c];have hm:(lo+hi)/2<xs.size:=by omega
     have e:xs.getD ((lo+hi)/2) j=xs[(lo+hi)/2]:=by simp[Array.getD,hm]
     dsimp only;rw[e];by_cases d:xs[(lo+hi)/2]<j
     . rw[if_pos d];refine qD r f _ _ (by omega) (by omega) h3 (fun k h hk=>?_) h5;by_cases q:k=(lo+hi)/2;.subst q;exact d
       .have:=r k ((lo+hi)/2) (by simpa using h) (by simpa using hm) (by omega);simp only[getElem_toList]at this;omega
     . rw[if_neg d];refine qD r f _ _ (by omega) (by omega) (by omega) h4 (fun k h hk=>?_);by_cases q:k=(lo+hi)/2;.subst q;omega
       .have:=r ((lo+hi)/2) k (by simpa using hm) (by simpa using h) (by omega);simp only[getElem_toList]at this;omega
   .rw[if_neg c];exact⟨lo,rfl,by omega,h4,fun k h hk=>h5 k h (by omega)⟩
theorem below_at{xs:Array Nat}{j:Nat}(r:nU xs.toList):SetTable.below xs j<=xs.size/\(∀k(h:k<xs.size),k<SetTable.below xs j->xs[k]<j)/\(∀k(h:k<xs.size),SetTable.below xs j<=k->j<=xs[k]):=by obtain⟨i,e,q⟩:=qD (j:=j) r xs.size 0 xs.size (by omega) (by omega) (by omega) (fun k h hk=>by omega) (fun k h hk=>by omega);rw[show SetTable.below xs j=i from e];exact q
theorem Jw{xs:Array Nat}{j:Nat}(r:nU xs.toList)(n:xs[SetTable.below xs j]?≠some j):nU (SetTable.insertAt xs (SetTable.below xs j) j).toList:=by
 obtain⟨h1,h2,h3⟩:=below_at (j:=j) r;rw[SetTable.toList_insertAt,gV];rw[gV]at r;have rs:=r;rw[<-List.take_append_drop (SetTable.below xs j) xs.toList,List.pairwise_append]at rs;rw[List.pairwise_append];have hd:∀x∈xs.toList.drop (SetTable.below xs j),j<x:=fun x hx=>by
  obtain⟨k,hk,rfl⟩:=List.mem_iff_getElem.mp hx;rw[List.getElem_drop];have hk':SetTable.below xs j+k<xs.size:=by simp at hk;omega
  have q:=h3 (SetTable.below xs j+k) hk' (by omega);simp only[getElem_toList];refine Nat.lt_of_le_of_ne q fun e=>n ?_;by_cases z:k=0;.subst z;rw[Array.getElem?_eq_getElem (by omega)];simpa using e.symm
  . have lt:SetTable.below xs j<xs.size:=by omega
    have r':=(gV.mpr r) (SetTable.below xs j) (SetTable.below xs j+k) (by simpa using lt) (by simpa using hk') (by omega);have:=h3 _ lt (by omega);simp only[getElem_toList]at r';omega
 refine⟨rs.1,List.pairwise_cons.mpr ⟨hd,rs.2.1⟩,fun a ha b hb=>?_⟩;have hl:a<j:=by obtain⟨k,hk,rfl⟩:=List.mem_iff_getElem.mp ha;rw[List.getElem_take];simp at hk;have:=h2 k (by omega) (by omega);simpa using this
 rcases mem_cons.mp hb with rfl|hb;.exact hl
 .exact lt_trans hl (hd b hb)
def BR(b:Bool)(t:SetTable):Prop:=t.led=b/\t.dummies=#[]/\nU t.place.toList
theorem yL(n:Nat):nU (Array.range n).toList:=by rw[gV];simpa using List.pairwise_lt_range
theorem lB{b:Bool}{t:SetTable}(g:BR b t)(n:Nat):BR b (t.standIn n):=⟨g.1,rfl,yL n⟩
theorem Vg{b:Bool}{t:SetTable}(g:BR b t)(n:Nat):BR b (t.orStandIn n):=by
 unfold SetTable.orStandIn;split;.exact g
 .exact lB g n
theorem G8{b:Bool}{t:SetTable}(g:BR b t):BR b {t with plain:=false}:=g
theorem zO(j:Nat):SetTable.has #[] j=false:=by simp[SetTable.has]
theorem vL{t:SetTable}{hs:Nat->Int}{h:Int}(hd:t.dummies=#[]):∀(f:Nat)(p:SetTable.Probe)(j:Nat)(o:Option Nat),p.dummy=none->probe.go t hs h f p=some (.empty j o)->o=none/\t.slot j=.empty
 |0,p,j,o,e,q=>by simp[probe.go]at q|f+1,p,j,o,e,q=>by
   unfold probe.go at q;split at q;.rename_i hs;cases q;exact⟨e,hs⟩
   .rename_i hsl;unfold SetTable.slot at hsl;rw[hd,zO]at hsl;dsimp only at hsl;split at hsl<;>simp at hsl
   . split at q;.cases q
     .exact vL hd f _ j o (by unfold SetTable.advance;split<;>exact e) q
theorem Q6{b:Bool}{t:SetTable}(g:BR b t)(es:Array (Int×Value))(h:Int)(x:Value):BR b (layNew t es h x).2.1:=by unfold layNew;cases hf:t.freeSlot h with|none=>exact lB g _|some sd=>
   obtain⟨slot,wd⟩:=sd;have:t.slot slot=.empty:=by
    unfold SetTable.freeSlot at hf;split at hf;.rename_i j d hq;obtain⟨e1,e2⟩:=vL g.2.1 _ _ j d rfl hq;subst e1;cases hf;exact e2
    .cases hf
   dsimp only;refine Vg (t:=(t.put slot).1) ⟨g.1,?_,?_⟩ _;.show(if SetTable.has t.dummies slot then _ else t.dummies)=#[];rw[g.2.1,zO];rfl
   .refine Jw g.2.2 fun e=>?_;unfold SetTable.slot at this;dsimp only at this;rw[e]at this;simp at this
theorem Gs{b:Bool}{t:SetTable}(g:BR b t)(es:Array (Int×Value))(n:Nat):BR b (relayAll t es n).2.1:=by
 unfold relayAll;split
 . rename_i t' order hr;dsimp only;split;.unfold SetTable.relaid SetTable.laid at hr;cases hc:SetTable.layClean (SetTable.sizeAbove n-1) (es.map (·.1))with|none=>rw[hc]at hr;cases hr|some owner=>rw[hc]at hr;cases hr;refine⟨g.1,rfl,?_⟩;rw[gV];dsimp only;rw[pairwise_map,List.pairwise_filterMap];refine List.pairwise_lt_range.imp fun{a b}hab=>?_;intro x hx y hy;cases ha:owner.getD a none with|none=>rw[ha]at hx;cases hx|some u=>cases hb:owner.getD b none with|none=>rw[hb]at hy;cases hy|some v=>rw[ha]at hx;rw[hb]at hy;cases hx;cases hy;exact hab
   .exact lB g _
 .exact lB g _
theorem rN{α:Type}{nx:Nat->Nat}:∀(f k:Nat)(l:List α)(out:Array α),l.length=f->(pickOrder.go nx f k l out).toList.Perm (out.toList++l)
 |0,k,l,out,h=>by rw[List.length_eq_zero_iff.mp h];simp[pickOrder.go]|f+1,k,l,out,h=>by
   unfold pickOrder.go;have hm:nx k%l.length<l.length:=Nat.mod_lt _ (by omega);rw[getElem?_eq_getElem hm];refine(rN f (k+1) _ _ (by rw[List.length_eraseIdx];simp[hm];omega)).trans ?_;rw[Array.toList_push,append_assoc];refine List.Perm.append_left _ ?_;rw[List.eraseIdx_eq_take_drop_succ];have e:l=l.take (nx k%l.length)++l[nx k%l.length]::l.drop (nx k%l.length+1):=by rw[List.getElem_cons_drop,List.take_append_drop]
   conv=>rhs;rw[e]
   rw[List.singleton_append];exact List.perm_middle.symm
theorem kj{α:Type}(nx:Nat->Nat)(xs:Array α):(pickOrder nx xs).toList.Perm xs.toList:=by have:=rN (nx:=nx) xs.size 0 xs.toList #[] (by simp);simpa[pickOrder]using this
end HH
end
section
namespace HH
open PySem PyProof.Rows PySem.Spec
inductive iZ(prog:Program)(w:World)(b:Bool)(h:Heap)(a:Addr)(ks:List Int):Prop where|mk(o:Obj)(es:Array (Int×Value))(ep:Nat)(t:SetTable)(is:List Int)(ho:h.get? a=some o)(hx:o.ExactSet)(hd:o.data=.set es ep t)(g:BR b t)(hf:t.fits es.size=true)(he:ElemsOf (intKind prog w) es.toList)(hi:IntsAre (es.toList.map (·.2)) is)(hp:is.Perm ks)
section
variable{prog:Program}{w:World}{b:Bool}{h h':Heap}{a:Addr}{ks:List Int}{A:Around}{E:Value->Shared->Prop}{s:Shared}
theorem iZ.at'(x:iZ prog w b h a ks)(k:∀o,h.get? a=some o->h'.get? a=some o):iZ prog w b h' a ks:=by obtain⟨o,es,ep,t,is,ho,r1,r2,r3,r4,r5,r6,r7⟩:=x;exact⟨o,es,ep,t,is,k o ho,r1,r2,r3,r4,r5,r6,r7⟩
theorem ints_app:∀{us vs:List Value}{ns ms:List Int},IntsAre us ns->IntsAre vs ms->IntsAre (us++vs) (ns++ms)|_,_,_,_,.nil,h=>h|_,_,_,_,.cons n t r,h=>.cons n t (ints_app r h)
theorem mY{us vs:List Value}(p:us.Perm vs):∀{ns:List Int},IntsAre vs ns->∃ms,IntsAre us ms/\ms.Perm ns:=by induction p with
 |nil=>intro ns h;exact⟨ns,h,.refl _⟩|cons x p ih=>intro ns h;cases h with|cons n t r=>obtain⟨ms,h1,h2⟩:=ih r;exact⟨n::ms,.cons n t h1,h2.cons n⟩
 |swap x y l=>intro ns h;cases h with|cons n t r=>cases r with|cons m u r=>exact⟨m::n::_,.cons m u (.cons n t r),.swap ..⟩
 |trans p q ih1 ih2=>intro ns h;obtain⟨ms,h1,h2⟩:=ih2 h;obtain⟨ls,h3,h4⟩:=ih1 h1;exact⟨ls,h3,h4.trans h2⟩
theorem ik{us:List Value}{ns:List Int}(h:IntsAre us ns):us.length=ns.length:=by induction h with|nil=>rfl|cons n t r ih=>simp[ih]
theorem pD{k:Int}:∀{es:List (Int×Value)}{is:List Int},IntsAre (es.map (·.2)) is->((∃e∈es,(intKind prog w).is k e.2=true)↔k∈is)|[],_,.nil=>by simp|(hh,v)::es,_,hi=>by generalize hq:((hh,v)::es).map (·.2)=us at hi;cases hi with|nil=>cases hq|cons n t r=>
     obtain⟨e1,e2⟩:=List.cons.inj hq;dsimp only at e1;subst e1;subst e2;rw[mem_cons,<-pD r];constructor
     . rintro⟨e,he,hk⟩;rcases mem_cons.mp he with rfl|he;.exact .inl ((intKind prog w).inj _ _ _ hk (intKind_is _ _ _ _))
       .exact .inr ⟨e,he,hk⟩
     . rintro(rfl|⟨e,he,hk⟩);.exact⟨_,.head _,intKind_is _ _ _ _⟩
       .exact⟨e,.tail _ he,hk⟩
theorem vG{o:Obj}{es es':Array (Int×Value)}{ep:Nat}{t t':SetTable}{is:List Int}(ho:h.get? a=some o)(hx:o.ExactSet)(hd:o.data=.set es ep t)(g:BR b t')(hf:t'.fits es'.size=true)(he:ElemsOf (intKind prog w) es'.toList)(hi:IntsAre (es'.toList.map (·.2)) is)(hp:is.Perm ks):∃o',(h.update a (Obj.putSet es' t')).get? a=some o'/\o'.ExactSet/\o'.data=.set es' (ep+1) t'/\iZ prog w b (h.update a (Obj.putSet es' t')) a ks:=by
 have hg:(h.update a (Obj.putSet es' t')).get? a=some {o with data:=.set es' (ep+1) t'}:=by rw[<-putSet_of es' t' hd];exact get?_update_self (Obj.putSet es' t') ho (by rw[putSet_of es' t' hd];rfl)
 exact⟨_,hg,hx,rfl,⟨_,es',ep+1,t',is,hg,hx,rfl,g,hf,he,hi,hp⟩⟩
theorem vD{g:Bool->Sem Unit}(hg:∀(b:Bool)(s₁:Shared)(Q':Unit->Shared->Prop),Q' () s₁->wpAny (model prog w) A (g b) Q' E s₁){o:Obj}{es es1:Array (Int×Value)}{ep:Nat}{t t2:SetTable}{is:List Int}(ho:s.heap.get? a=some o)(hx:o.ExactSet)(hd:o.data=.set es ep t)(tg:BR b t2)(hf:t2.fits es1.size=true)(he:ElemsOf (intKind prog w) es1.toList)(hi:IntsAre (es1.toList.map (·.2)) is)(hp:is.Perm ks)(hz:es1.size<=sizeLine){wd:Bool}{Q:Option Bool->Shared->Prop}(q:∀h',SameBut a s.heap h'->iZ prog w b h' a ks->Q (some true) {s with heap:=h'}):wpAny (model prog w) A (storeSet a es1 t2>>=fun _=>if(!wd&&t2.tooFull)=true then(g (relayAll t2 es1 (grown es1.size)).2.2>>=fun _=>storeSet a (relayAll t2 es1 (grown es1.size)).1 (relayAll t2 es1 (grown es1.size)).2.1>>=fun _=>pure (some true))else pure (some true)) Q E s:=by
 refine wpAny_bind (wpAny_storeSet_of ho hd ?_ hz);obtain⟨o1,g1,g2,g3,g4⟩:=vG (prog:=prog) (w:=w) ho hx hd tg hf he hi hp;have sb:=Heap.SameBut.update s.heap a (Obj.putSet es1 t2);split;.have pr:=relayAll_perm t2 es1 (grown es1.size);have fr:=relayAll_fits t2 es1 (grown es1.size);have tr:=Gs tg es1 (grown es1.size);generalize relayAll t2 es1 (grown es1.size)=R at pr fr tr;obtain⟨es2,t3,gv⟩:=R;dsimp only at pr fr tr;refine wpAny_bind (hg _ _ _ (wpAny_bind (wpAny_storeSet_of g1 g3 (wpAny_pure ?_) (by rw[<-length_toList,pr.length_eq,length_toList];exact hz))));obtain⟨js,j1,j2⟩:=mY (pr.map (·.2)) hi;obtain⟨o2,_,_,_,f4⟩:=vG (prog:=prog) (w:=w) g1 g2 g3 tr fr (he.perm pr) j1 (j2.trans hp);exact q _ (sb.trans (Heap.SameBut.update _ a _)) f4
 .exact wpAny_pure (q _ sb g4)
theorem Ds{k:Int}{tk:Tok}{Q:Bool->Shared->Prop}(x:iZ prog w b s.heap a ks)(hz:ks.length+1<scanBound)(q:∀r h',SameBut a s.heap h'->iZ prog w b h' a (uT ks k)->Q r {s with heap:=h'}):wpAny (model prog w) A (setAddHashed a (.int k tk) ((intKind prog w).hash k)) Q E s:=by
 obtain⟨o,es,ep,t,is,ho,hx,hd,tg,hf,he,hi,hp⟩:=id x;have hsz:es.size=ks.length:=by rw[<-hp.length_eq,<-ik hi,length_map,length_toList]
 unfold setAddHashed setAddHashedIn;refine wpAny_holding (wpAny_bind (wpAny_setState_of ho hd hf ?_));dsimp only;rw[byScan_of (knd:=intKind prog w) rfl (by omega) he,if_pos rfl];unfold setAddByScan;refine wpAny_bind (wpAny_bind (wpAny_rule (wpAny_bind (wpAny_setScan_of (intKind_is _ _ _ _) ho hd hf he ?_))));cases hr:es.toList.findIdx? (fun e=>(intKind prog w).is k e.2)with|some j=>dsimp only;obtain⟨hj,hk,_⟩:=List.findIdx?_eq_some_iff_getElem.mp hr;have hm:k∈ks:=hp.mem_iff.mp ((pD (prog:=prog) (w:=w) hi).mp ⟨_,getElem_mem hj,hk⟩);refine wpAny_pure (wpAny_pure ?_);have:=q false s.heap (Heap.SameBut.refl a s.heap) (by unfold uT;rw[if_pos (by simpa using hm)];exact x);cases s;exact this|none=>
   dsimp only;have hm:k∉ks:=fun hm=>by obtain⟨e,e1,e2⟩:=(pD (prog:=prog) (w:=w) hi).mpr (hp.mem_iff.mpr hm);have:=List.findIdx?_eq_none_iff.mp hr e e1;rw[e2]at this;cases this
   have e':uT ks k=ks++[k]:=by unfold uT;rw[if_neg (by simpa using hm)]
   rw[e']at q;have pr:=layNew_perm t es ((intKind prog w).hash k) (.int k tk);have fr:=layNew_fits t es ((intKind prog w).hash k) (.int k tk);have tr:=Q6 tg es ((intKind prog w).hash k) (.int k tk);generalize layNew t es ((intKind prog w).hash k) (.int k tk)=L at pr fr tr;obtain⟨es1,t1,wd,gv⟩:=L;dsimp only at pr fr tr ⊢;rw[Array.toList_push]at pr;have gw:∀(b:Bool)(s₁:Shared)(Q':Unit->Shared->Prop),Q' () s₁->wpAny (model prog w) A (match b with|true=>rule "set.scan.the-table-gave-way"|false=>pure ()) Q' E s₁:=fun b s₁ Q' hq=>by
    cases b;.exact wpAny_pure hq
    .exact wpAny_rule hq
   have W5:ElemsOf (intKind prog w) es1.toList:=(he.push (k:=k) (x:=.int k tk) (intKind_is _ _ _ _) rfl).perm pr;have hi1:IntsAre ((es.toList++[((intKind prog w).hash k,Value.int k tk)]).map (·.2)) (is++[k]):=by rw[List.map_append];exact ints_app hi (.cons k tk .nil)
   obtain⟨js,j1,j2⟩:=mY (pr.map (·.2)) hi1;have hz1:es1.size<=sizeLine:=by rw[<-length_toList,pr.length_eq,length_append,length_toList,hsz];exact fits_of_scanBound (by simpa using hz)
   have jp:js.Perm (ks++[k]):=j2.trans (hp.append_right [k]);refine wpAny_bind (gw _ _ _ ?_);split
   . refine wpAny_bind ?_;rw[hashByValue_scannable 8 rfl];refine wpAny_pure ?_;refine vD (fun b s₁ Q' hq=>gw b s₁ Q' hq) ho hx hd (b:=b) ?_ ?_ W5 j1 jp hz1 fun h' sb y=>wpAny_pure (q true h' sb y)
     . split;.exact tr
       .exact G8 tr
     . split;.exact fr
       .exact SetTable.fits_plain_off fr
   .refine wpAny_bind (wpAny_pure ?_);rw[if_pos rfl];exact vD (fun b s₁ Q' hq=>gw b s₁ Q' hq) ho hx hd tr fr W5 j1 jp hz1 fun h' sb y=>wpAny_pure (q true h' sb y)
end
theorem xJ:∀(ns ks:List Int),(ns.foldl uT ks).length<=ks.length+ns.length
 |[],ks=>by simp|n::ns,ks=>by
   have h1:=xJ ns (uT ks n);have h2:(uT ks n).length<=ks.length+1:=by unfold uT;split<;>simp
   rw[foldl_cons,length_cons];omega
noncomputable abbrev iY(w:World):Bool:=w.params.followText "set-order"
noncomputable abbrev fS(b:Bool):Obj:={cls:=.type "set",dict:=none,data:=.set #[] 0 (.fresh 0 0 b)}
section
variable{prog:Program}{w:World}{A:Around}{E:Value->Shared->Prop}{s:Shared}
theorem rT{h:Heap}{a:Addr}(e:h.get? a=some (fS (!iY w))):iZ prog w (!iY w) h a []:=⟨_,#[],0,_,[],e,⟨rfl,rfl,rfl⟩,rfl,⟨rfl,rfl,fun i j hi=>by simp[SetTable.fresh]at hi⟩,rfl,fun e he=>by simp at he,.nil,.refl _⟩
theorem wI(a:Value){Q₁:Value->Shared->Prop}(h:Q₁ (.ref s.heap.objs.size) {s with heap:=s.heap.push (fS (!iY w))}):codeAny (model prog w) A (.call (.builtin "set.__new__") ⟨[.type "set",a],[]⟩) (wants Q₁ E) s:=by refine codeAny_of_tree ?_;show wpAny _ A.in1 (do checkBuiltinCall "set.__new__" ⟨[.type "set",a],[]⟩;again (.builtin "set.__new__" ⟨[.type "set",a],[]⟩)) _ _ s;refine wpAny_bind (wpAny_of_eq (PySem.F.newCall_set_1 a) (wpAny_pure ⟨plainId_quiet PySem.F.plain_set_new _,codeAny_builtin PySem.F.entry_set_new ?_⟩));rw[Around.under_plainId PySem.F.plain_set_new _];unfold Builtin.«set.__new__» Builtin.Frozenset.newClass;have hsub:=sub_set_self;obtain⟨hp,g,d,tk,os⟩:=s;dsimp only;wp_walk;refine wpAny_askSetting (wpAny_pure ?_);dsimp only;simp only[newObj];exact wpAny_bind (wpAny_alloc (wpAny_pure (wpAny_pure h)))
theorem wQ{R:Result->Shared->Prop}{I:Addr}{fp wr:List Addr}{G:Array GenState->Array GenState->Prop}{P:Nat->Value->Prop}{St:Nat->Shared->Prop}{b:Bool}{ns:List Int}(W:WalksS prog w A.in1 I fp wr G ns.length P St)(S:Addr)(hSf:S∉fp)(hval:∀i v,P i v->∃t,v=.int (ns.getD i 0) t)(hb:ns.length+1<scanBound):∀(k i:Nat)(s:Shared),ns.length-i=k->i<=ns.length->St i s->iZ prog w b s.heap S (cZ (ns.take i))->(∀ s',Moved (S::wr) G s s'->iZ prog w b s'.heap S (cZ ns)->R (.ok (.ret .none)) s')->
   codeAny (model prog w) A (.builtin "set.update.loop" ⟨[.ref S,.ref I],[]⟩) R s:=by have hSw:S∉wr:=fun h=>hSf (W.sub _ h);have sub:∀b∈wr,b∈S::wr:=fun b hb=>.tail _ hb;intro k;induction k with|zero=>
   intro i s hk hi hst hS hR;have hin:i=ns.length:=by omega
   subst hin;refine codeAny_builtin PyProof.Rows.F.entry_set_update_loop ?_;rw[Around.under_plainId PyProof.Rows.F.plain_set_update_loop _];show wpAny _ A.in1 (pyNext (.ref I)>>=_) _ _ s;refine wpAny_bind (W.done s _ _ hst fun s' hm=>?_);show wpAny _ A.in1 (ret Value.none) _ _ s';rw[List.take_length]at hS;exact wpAny_pure (hR s' (hm.mono sub) (hS.at' fun o e=>hm.heap S o hSw e))|succ k ih=>
   intro i s hk hi hst hS hR;have lt:i<ns.length:=by omega
   refine codeAny_builtin PyProof.Rows.F.entry_set_update_loop ?_;rw[Around.under_plainId PyProof.Rows.F.plain_set_update_loop _];show wpAny _ A.in1 (pyNext (.ref I)>>=_) _ _ s;refine wpAny_bind (W.item i s _ _ lt hst fun v s' hP hst' hm=>?_);obtain⟨t,rfl⟩:=hval i v hP;have hS':=hS.at' fun o e=>hm.heap S o hSw e;show wpAny _ A.in1 (holding [Value.int (ns.getD i 0) t] (setAdd S (.int (ns.getD i 0) t))>>=_) _ _ s';refine wpAny_bind (wpAny_holding ?_);unfold setAdd;refine wpAny_holding (wpAny_bind ((intKind prog w).pyHash (k:=ns.getD i 0) (intKind_is _ _ _ _) ?_));have hroom:(cZ (ns.take i)).length+1<scanBound:=by have:=xJ (ns.take i) [];unfold cZ;rw[length_take]at this;simp only[length_nil]at this;omega
   refine Ds (s:={s' with toks:=s'.toks+1}) hS' hroom fun r h' sb hS2=>?_;have hSi:iZ prog w b h' S (cZ (ns.take (i+1))):=by
    have e:ns.take (i+1)=ns.take i++[ns.getD i 0]:=by rw[List.take_add_one];simp[lt]
    unfold cZ;rw[e,List.foldl_append];exact hS2
   refine wpAny_pure ⟨plainId_quiet PyProof.Rows.F.plain_set_update_loop _,ih (i+1) _ (by omega) lt (W.frame _ s' _ _ hst' (le_succ _) fun b hb o e=>?_) hSi fun s'' hm'' hS''=>?_⟩;.rw[sb.2 b (fun h:b=S=>hSf (by rw[<-h];exact hb))];exact e
   .refine hR s'' (Moved.trans W.gtrans ((hm.mono sub).then_heap (le_succ _) fun b o hb e=>?_) hm'') hS'';rw[sb.2 b (fun h:b=S=>hb (by rw[h];exact .head _))];exact e
set_option maxHeartbeats 3200000 in
theorem Hg{l:Addr}{its:List Value}{ns:List Int}{Q:Value->Shared->Prop}(hh:A.handled=none)(hl:s.heap.IsList l its.toArray)(hi:IntsAre its ns)(hb:ns.length+1<scanBound)(h:∀(h':Heap)(tk:Nat),iZ prog w (!iY w) h' s.heap.objs.size (cZ ns)->(∀b o,s.heap.get? b=some o->h'.get? b=some o)->Q (.ref s.heap.objs.size) {s with heap:=h',toks:=tk}):wpAny (model prog w) A (call (.type "set") [.ref l]) Q E s:=by
 obtain⟨c,tl,hmro⟩:=called_set.mro;have hmade:=called_set.made;have hsub:=called_set.sub;refine wpAny_call (codeAny_of_tree ?_);show wpAny _ _ (callAny (.type "set") _) _ _ _;refine wpAny_pure ⟨Code.quiet_builtin _ (by decide+kernel),codeAny_builtin PySem.F.entry_type_call ?_⟩;rw[Around.under_plain (weight_type_call_type "set" [.ref l] []) rfl];have h1:=called_set.notType;have h2:=called_set.canCreate;have hct:=PySem.F.typeCall_set_1 (.ref l);repeat(any_goals(first|assumption|wp_step))
 refine codeAny_mono (wI (.ref l) (E:=E) (Q₁:=fun obj s₁=>obj=.ref s.heap.objs.size/\s₁={s with heap:=s.heap.push (fS (!iY w))}) ⟨rfl,rfl⟩) fun r s₁ hr=>?_;cases r with|error e=>exact hr|ok fl=>cases fl with
   |ret obj=>
     obtain⟨rfl,rfl⟩:=hr;have hS:(s.heap.push (fS (!iY w))).get? s.heap.objs.size=some (fS (!iY w)):=get?_push_size _ rfl;have hT:Shared.TypeIs {s with heap:=s.heap.push (fS (!iY w))} (.ref s.heap.objs.size) "set":=⟨_,hS,rfl⟩;have hli:=called_set.init.lookup;have hbi:=called_set.init.bind (.ref s.heap.objs.size);repeat(any_goals(first|assumption|wp_step))
     refine codeAny_mono (codeAny_call_builtin (R:=wants (fun r s₂=>r=.none/\∃h' tk,s₂={s with heap:=h',toks:=tk}/\iZ prog w (!iY w) h' s.heap.objs.size (cZ ns)/\(∀b o,s.heap.get? b=some o->h'.get? b=some o)) E) called_set.init.plain PySem.F.entry_set_init (check_set_init_1 hT ?_)) fun r₂ s₂ hr₂=>?_
     . obtain⟨ol,hol,hcl,nl,hdl⟩:=hl;obtain⟨ocls,odict,odata,oslots⟩:=ol;simp only at hcl hdl;subst hcl;subst hdl;have hol':(s.heap.push (fS (!iY w))).get? l=some {cls:=.type "list",dict:=odict,data:=.seq its.toArray nl,slots:=oslots}:=get?_push_of_some _ hol;have hsls:=PySem.F.sub_list_set;have hslf:=PySem.F.sub_list_frozenset;have hne:(Value.type "list"==Value.type "dict")=false:=by decide
       have hl1:(s.heap.push (fS (!iY w))).IsList l its.toArray:=⟨_,hol',rfl,nl,rfl⟩;unfold Builtin.«set.__init__» noKeywords Builtin.Frozenset.updateFrom;generalize hPI:pyIter=PI;wp_walk;subst hPI;refine wpAny_pyIter_list hl1 (wpAny_bind (wpAny_runValue ?_));have hlS:l<s.heap.objs.size:=lt_size hol;have hh3:A.in1.in1.in1.handled=none:=by simp[hh]
       have hz:(s.heap.push (fS (!iY w))).objs.size=s.heap.objs.size+1:=size_push ..;have hneI:l≠(s.heap.push (fS (!iY w))).objs.size:=by rw[hz];exact ne_of_lt (lt_succ_of_lt hlS)
       have hSf:s.heap.objs.size∉[(s.heap.push (fS (!iY w))).objs.size,l]:=by rw[hz];simp only[mem_cons,not_mem_nil,or_false,not_or];exact⟨ne_of_lt (Nat.lt_succ_self _),ne_of_gt hlS⟩
       have hln:its.toArray.size=ns.length:=by rw[size_toArray];exact ik hi
       have W:=(Walks.list (prog:=prog) (w:=w) hh3 _ l hneI its.toArray).toS;rw[hln]at W;refine wQ (b:=!iY w) W s.heap.objs.size hSf (fun i v hv=>IntsAre.int_at hi i v (by simpa using hv)) hb (ns.length-0) 0 _ (by omega) (zero_le _) ⟨⟨_,get?_push_size _ rfl,rfl,rfl⟩,hl1.push _⟩ (rT (get?_push_of_some _ hS)) fun s' hm hS'=>?_;obtain⟨h',g',d',tk',os'⟩:=s';have eg:g'=s.gens:=hm.gens;have ed:d'=s.drawn:=hm.drawn;have eo:os'=s.os:=hm.os;subst eg;subst ed;subst eo;show wpAny _ _ _ _ _ _;refine wpAny_pure ?_;show wpAny _ _ (ret Value.none) _ _ _;refine wpAny_pure ⟨rfl,h',tk',rfl,hS',fun b o e=>?_⟩;have:=lt_size e;exact hm.heap b o (by rw[hz];simp only[mem_cons,not_mem_nil,or_false,not_or];exact⟨ne_of_lt this,ne_of_lt (lt_succ_of_lt this)⟩) (get?_push_of_some _ (get?_push_of_some _ e))
     .cases r₂ with|error e=>exact hr₂|ok fl₂=>
         cases fl₂ with|ret r=>
           obtain⟨rfl,h',tk,rfl,hS',hk'⟩:=hr₂;repeat(any_goals(first|assumption|wp_step))
           exact h _ _ hS' hk'|_=>exact hr₂.elim
   |_=>exact hr.elim
end
section
variable{prog:Program}{w:World}{A:Around}{E:Value->Shared->Prop}{s:Shared}
set_option maxHeartbeats 3200000 in
theorem Ci{l:Addr}{its:List Value}{ns:List Int}{Q:Value->Shared->Prop}(hh:A.handled=none)(hl:s.heap.IsTuple l its.toArray)(hi:IntsAre its ns)(hb:ns.length+1<scanBound)(h:∀(h':Heap)(tk:Nat),iZ prog w (!iY w) h' s.heap.objs.size (cZ ns)->(∀b o,s.heap.get? b=some o->h'.get? b=some o)->Q (.ref s.heap.objs.size) {s with heap:=h',toks:=tk}):wpAny (model prog w) A (call (.type "set") [.ref l]) Q E s:=by
 obtain⟨c,tl,hmro⟩:=called_set.mro;have hmade:=called_set.made;have hsub:=called_set.sub;refine wpAny_call (codeAny_of_tree ?_);show wpAny _ _ (callAny (.type "set") _) _ _ _;refine wpAny_pure ⟨Code.quiet_builtin _ (by decide+kernel),codeAny_builtin PySem.F.entry_type_call ?_⟩;rw[Around.under_plain (weight_type_call_type "set" [.ref l] []) rfl];have h1:=called_set.notType;have h2:=called_set.canCreate;have hct:=PySem.F.typeCall_set_1 (.ref l);repeat(any_goals(first|assumption|wp_step))
 refine codeAny_mono (wI (.ref l) (E:=E) (Q₁:=fun obj s₁=>obj=.ref s.heap.objs.size/\s₁={s with heap:=s.heap.push (fS (!iY w))}) ⟨rfl,rfl⟩) fun r s₁ hr=>?_;cases r with|error e=>exact hr|ok fl=>cases fl with
   |ret obj=>
     obtain⟨rfl,rfl⟩:=hr;have hS:(s.heap.push (fS (!iY w))).get? s.heap.objs.size=some (fS (!iY w)):=get?_push_size _ rfl;have hT:Shared.TypeIs {s with heap:=s.heap.push (fS (!iY w))} (.ref s.heap.objs.size) "set":=⟨_,hS,rfl⟩;have hli:=called_set.init.lookup;have hbi:=called_set.init.bind (.ref s.heap.objs.size);repeat(any_goals(first|assumption|wp_step))
     refine codeAny_mono (codeAny_call_builtin (R:=wants (fun r s₂=>r=.none/\∃h' tk,s₂={s with heap:=h',toks:=tk}/\iZ prog w (!iY w) h' s.heap.objs.size (cZ ns)/\(∀b o,s.heap.get? b=some o->h'.get? b=some o)) E) called_set.init.plain PySem.F.entry_set_init (check_set_init_1 hT ?_)) fun r₂ s₂ hr₂=>?_
     . obtain⟨ol,hol,hcl,nl,hdl⟩:=hl;obtain⟨ocls,odict,odata,oslots⟩:=ol;simp only at hcl hdl;subst hcl;subst hdl;have hol':(s.heap.push (fS (!iY w))).get? l=some {cls:=.type "tuple",dict:=odict,data:=.seq its.toArray nl,slots:=oslots}:=get?_push_of_some _ hol;have hsls:isSubtype (.type "tuple") (.type "set")=pure false:=by rw[isSubtype_type];kernel_rfl
       have hslf:isSubtype (.type "tuple") (.type "frozenset")=pure false:=by rw[isSubtype_type];kernel_rfl
       have hne:(Value.type "tuple"==Value.type "dict")=false:=by decide
       have hl1:(s.heap.push (fS (!iY w))).IsTuple l its.toArray:=⟨_,hol',rfl,nl,rfl⟩;unfold Builtin.«set.__init__» noKeywords Builtin.Frozenset.updateFrom;generalize hPI:pyIter=PI;wp_walk;subst hPI;refine wpAny_pyIter_tuple hl1 (wpAny_bind (wpAny_runValue ?_));have hlS:l<s.heap.objs.size:=lt_size hol;have hh3:A.in1.in1.in1.handled=none:=by simp[hh]
       have hz:(s.heap.push (fS (!iY w))).objs.size=s.heap.objs.size+1:=size_push ..;have hneI:l≠(s.heap.push (fS (!iY w))).objs.size:=by rw[hz];exact ne_of_lt (lt_succ_of_lt hlS)
       have hSf:s.heap.objs.size∉[(s.heap.push (fS (!iY w))).objs.size,l]:=by rw[hz];simp only[mem_cons,not_mem_nil,or_false,not_or];exact⟨ne_of_lt (Nat.lt_succ_self _),ne_of_gt hlS⟩
       have hln:its.toArray.size=ns.length:=by rw[size_toArray];exact ik hi
       have W:=(Walks.tuple (prog:=prog) (w:=w) hh3 _ l hneI its.toArray).toS;rw[hln]at W;refine wQ (b:=!iY w) W s.heap.objs.size hSf (fun i v hv=>IntsAre.int_at hi i v (by simpa using hv)) hb (ns.length-0) 0 _ (by omega) (zero_le _) ⟨⟨_,get?_push_size _ rfl,rfl,rfl⟩,hl1.at fun o e=>get?_push_of_some _ e⟩ (rT (get?_push_of_some _ hS)) fun s' hm hS'=>?_;obtain⟨h',g',d',tk',os'⟩:=s';have eg:g'=s.gens:=hm.gens;have ed:d'=s.drawn:=hm.drawn;have eo:os'=s.os:=hm.os;subst eg;subst ed;subst eo;show wpAny _ _ _ _ _ _;refine wpAny_pure ?_;show wpAny _ _ (ret Value.none) _ _ _;refine wpAny_pure ⟨rfl,h',tk',rfl,hS',fun b o e=>?_⟩;have:=lt_size e;exact hm.heap b o (by rw[hz];simp only[mem_cons,not_mem_nil,or_false,not_or];exact⟨ne_of_lt this,ne_of_lt (lt_succ_of_lt this)⟩) (get?_push_of_some _ (get?_push_of_some _ e))
     .cases r₂ with|error e=>exact hr₂|ok fl₂=>
         cases fl₂ with|ret r=>
           obtain⟨rfl,h',tk,rfl,hS',hk'⟩:=hr₂;repeat(any_goals(first|assumption|wp_step))
           exact h _ _ hS' hk'|_=>exact hr₂.elim
   |_=>exact hr.elim
end
theorem bD:Slot "set_iterator" "__next__" "set_iterator.__next__":=.of (owner:="set_iterator") (n:="__next__") (by rw[typeLookup_type,builtinLookup_eq_fast];kernel_rfl) (by decide+kernel) (by decide+kernel) (by decide+kernel) (by first|exact .inl (by decide+kernel)|exact .inr (by decide+kernel)) (by rw[isSubtype_type];kernel_rfl)
theorem dO:entryFor table "set_iterator.__next__"=some Builtin.«set_iterator.__next__»:=entryFor_of_tree (by kernel_rfl)
theorem rZ:Manifest.owners.lookup (String.ofList ['r','o','t','a','r','e','t','i','_','t','e','s'].reverse)=some Manifest.sig_set_iterator:=by kernel_rfl
theorem eN(a:Value):argsOk "set_iterator.__next__" ⟨[a],[]⟩:=by unfold argsOk;rw[signature?_of (id:="set_iterator.__next__") (n:=['_','_','t','x','e','n','_','_']) (o:=['r','o','t','a','r','e','t','i','_','t','e','s']) (by kernel_rfl) rZ];kernel_rfl
theorem tX:entryFor table "set.__iter__"=some Builtin.«frozenset.__iter__»:=entryFor_alias (id':="frozenset.__iter__") (by kernel_rfl) rfl (by decide+kernel) (by kernel_rfl)
theorem jQ:Slot "set_iterator" "__iter__" "set_iterator.__iter__":=.of (owner:="set_iterator") (n:="__iter__") (by rw[typeLookup_type,builtinLookup_eq_fast];kernel_rfl) (by decide+kernel) (by decide+kernel) (by decide+kernel) (by first|exact .inl (by decide+kernel)|exact .inr (by decide+kernel)) (by rw[isSubtype_type];kernel_rfl)
theorem qN(a:Value):argsOk "set_iterator.__iter__" ⟨[a],[]⟩:=by unfold argsOk;rw[signature?_of (id:="set_iterator.__iter__") (n:=['_','_','r','e','t','i','_','_']) (o:=['r','o','t','a','r','e','t','i','_','t','e','s']) (by kernel_rfl) rZ];kernel_rfl
theorem qe:entryFor table "set_iterator.__iter__"=some Builtin.«dict_keyiterator.__iter__»:=entryFor_alias (id':="dict_keyiterator.__iter__") (by kernel_rfl) rfl (by decide+kernel) (by kernel_rfl)
theorem uf:typeLookup (.type "set") "__len__"=pure (some (.builtin "set.__len__")):=by rw[typeLookup_type,builtinLookup_eq_fast];kernel_rfl
inductive fW(h:Heap)(a:Addr)(es:Array (Int×Value))(ep:Nat)(t:SetTable):Prop where|mk(o:Obj)(ho:h.get? a=some o)(hx:o.ExactSet)(hd:o.data=.set es ep t)(hf:t.fits es.size=true)
noncomputable def slotAt(t:SetTable):Nat->Int|0=>0|i+1=>(t.place.getD i 0:Int)+1
inductive uU(h:Heap)(J a:Addr)(f:Value)(i n ep:Nat):Prop where|mk(o:Obj)(ho:h.get? J=some o)(hc:o.cls=.type "set_iterator")(hd:o.data=.fields #[f,.int i 0,.ref a,.int n 0,.int ep 0])
section
variable{prog:Program}{w:World}{A:Around}{E:Value->Shared->Prop}{s:Shared}{a J:Addr}{es:Array (Int×Value)}{ep i:Nat}{t:SetTable}{f:Value}
theorem fW.at'{h h':Heap}(x:fW h a es ep t)(k:∀o,h.get? a=some o->h'.get? a=some o):fW h' a es ep t:=by obtain⟨o,ho,r1,r2,r3⟩:=x;exact⟨o,k o ho,r1,r2,r3⟩
theorem uU.at'{h h':Heap}{n:Nat}(x:uU h J a f i n ep)(k:∀o,h.get? J=some o->h'.get? J=some o):uU h' J a f i n ep:=by obtain⟨o,ho,r1,r2⟩:=x;exact⟨o,k o ho,r1,r2⟩
theorem uU.ty{n:Nat}(x:uU s.heap J a f i n ep):s.TypeIs (.ref J) "set_iterator":=by obtain⟨o,ho,r1,r2⟩:=x;exact⟨o,ho,r1⟩
theorem fW.ty(x:fW s.heap a es ep t):s.TypeIs (.ref a) "set":=by obtain⟨o,ho,r1,r2⟩:=x;exact⟨o,ho,r1.1⟩
theorem fP{Q:(Array (Int×Value)×Nat×SetTable)->Shared->Prop}(r:fW s.heap a es ep t)(h:Q (es,ep,t) s):wpAny (model prog w) A (setState a) Q E s:=by obtain⟨o,ho,_,hd,hf⟩:=r;exact wpAny_setState_of ho hd hf h
theorem iJ{Q:Array (Int×Value)->Shared->Prop}(r:fW s.heap a es ep t)(h:Q es s):wpAny (model prog w) A (setEntries a) Q E s:=by obtain⟨o,ho,_,hd,hf⟩:=r;exact wpAny_setEntries_of ho hd hf h
theorem abT{α:Type}{m:Sem α}{Q Q':α->Shared->Prop}{M:Model}(h:wpAny M A m Q E s)(hQ:∀a s,Q a s->Q' a s):wpAny M A m Q' E s:=wpAny_mono h hQ fun _ _ x=>x
theorem rH{Q:PySem.Fin->Shared->Prop}(x:uU s.heap J a f i es.size ep)(r:fW s.heap a es ep t){slot:Int}{tk:Tok}(hf:f=.int slot tk)(h:wpAny (model prog w) A (setNext a slot.toNat i ep) (fun o s'=>(∀ x nx,o=some (x,nx)->wpAny (model prog w) A (setField (.ref J) 0 (rawInt nx)>>=fun _=>setField (.ref J) 1 (rawInt ((i:Int)+1))>>=fun _=>ret x) Q E s')/\(o=none->wpAny (model prog w) A (setField (.ref J) 2 .none>>=fun _=>newExc (.type "StopIteration") []>>=fun e=>raiseNew e) Q E s')) E s):wpAny (model prog w) A (Builtin.«set_iterator.__next__» ⟨[.ref J],[]⟩) Q E s:=by obtain⟨o,ho,hc,hd⟩:=id x;subst hf;unfold Builtin.«set_iterator.__next__»;refine wpAny_bind (wpAny_pure (wpAny_bind (wpAny_fieldsOf ho hd (wpAny_bind (iJ r ?_)))));dsimp only;rw[if_neg (by simp),toNat_natCast,toNat_natCast];refine wpAny_bind (abT h fun o s' hq=>?_);cases o with|none=>exact hq.2 rfl|some p=>obtain⟨y,nx⟩:=p;exact hq.1 y nx rfl
theorem qC{Q:PySem.Fin->Shared->Prop}(x:uU s.heap J a f i es.size ep)(r:fW s.heap a es ep t){T:Addr}{os:List Nat}{ot:Obj}{c:Nat}(hf:f=.ref T)(h1:s.heap.get? T=some ot)(h2:ot.data=.seq (os.map fun(i:Nat)=>rawInt (i:Int)).toArray c)(h:(∀ j,os[i]?=some j->wpAny (model prog w) A (setNextDrawn a j ep) (fun x s'=>wpAny (model prog w) A (setField (.ref J) 1 (rawInt ((i:Int)+1))>>=fun _=>ret x) Q E s') E s)/\(os[i]?=none->wpAny (model prog w) A (setField (.ref J) 0 (rawInt 0)>>=fun _=>setField (.ref J) 2 .none>>=fun _=>newExc (.type "StopIteration") []>>=fun e=>raiseNew e) Q E s)):wpAny (model prog w) A (Builtin.«set_iterator.__next__» ⟨[.ref J],[]⟩) Q E s:=by
 obtain⟨o,ho,hc,hd⟩:=id x;subst hf;unfold Builtin.«set_iterator.__next__»;refine wpAny_bind (wpAny_pure (wpAny_bind (wpAny_fieldsOf ho hd (wpAny_bind (iJ r ?_)))));dsimp only;rw[if_neg (by simp),toNat_natCast,toNat_natCast];refine wpAny_bind (wpAny_seqItems h1 h2 ?_);have e:(os.map fun(i:Nat)=>rawInt (i:Int)).toArray[i]?=os[i]?.map fun(j:Nat)=>rawInt (j:Int):=by simp
 dsimp only;rw[e];cases q:os[i]?with|none=>exact h.2 q|some j=>simp only[Option.map_some,rawInt,toNat_natCast];exact wpAny_bind (h.1 j q)
theorem o9{Q:PySem.Fin->Shared->Prop}{E:Value->Shared->Prop}(hh:A.handled=none)(h:∀h' e,(∀b o,s.heap.get? b=some o->h'.get? b=some o)->(h'.get? e).map (·.cls)=some (.type "StopIteration")->E (.ref e) {s with heap:=h'}):wpAny (model prog w) A (newExc (.type "StopIteration") []>>=fun e=>(raiseNew e:Sem PySem.Fin)) Q E s:=by refine wpAny_bind ?_;simp only[newExc,newTuple];refine wpAny_bind (wpAny_newObj_type ?_ (by size_fits));refine wpAny_bind (m:=firstArgMember _ _) (wpAny_of_eq (a:=Value.none) (by first|rfl|(simp only[firstArgMember];rfl)) (wpAny_newObj_type ?_ (by size_fits)));simp only[raiseNew];refine wpAny_bind (wpAny_handled ?_);rw[hh];refine wpAny_bind (wpAny_pure (wpAny_throw (h _ _ (fun b o e=>get?_push_of_some _ (get?_push_of_some _ e)) ?_)));rw[get?_push_size _ rfl];rfl
theorem Ho(ht:iY w=true){Q:Option (Value×Nat)->Shared->Prop}(r:fW s.heap a es ep t){slot:Nat}(h:Q (((pickOrder (w.params.setOrder a ep) es)[i]?).map fun e=>(e.2,slot)) s):wpAny (model prog w) A (setNext a slot i ep) Q E s:=by unfold setNext;refine wpAny_bind (fP r ?_);unfold setsByText;refine wpAny_bind (wpAny_bind (wpAny_askSetting (wpAny_pure ?_)));dsimp only;rw[if_pos (show(model prog w).w.params.followText "set-order"=true from ht),if_neg (by simp)];unfold setWalk;refine wpAny_bind (wpAny_bind (fP r ?_));unfold setsByText;refine wpAny_bind (wpAny_bind (wpAny_askSetting (wpAny_pure ?_)));dsimp only;rw[if_pos (show(model prog w).w.params.followText "set-order"=true from ht)];refine wpAny_bind (wpAny_askSetting (wpAny_pure (wpAny_pure ?_)));exact h
theorem Dg(ht:iY w=false)(hl:t.led=true)(hp:(!t.plain&&decide (es.size>1))=false){Q:Option (Value×Nat)->Shared->Prop}(r:fW s.heap a es ep t){slot:Nat}(h:Q (match es[SetTable.below t.place slot]?,t.place[SetTable.below t.place slot]?with|some (_,x),some j=>some (x,j+1)|_,_=>none) s):wpAny (model prog w) A (setNext a slot i ep) Q E s:=by unfold setNext;refine wpAny_bind (fP r ?_);unfold setsByText;refine wpAny_bind (wpAny_bind (wpAny_askSetting (wpAny_pure ?_)));dsimp only;rw[if_neg (by rw[show(model prog w).w.params.followText "set-order"=false from ht];simp)];show wpAny _ _ (if(!t.plain&&decide (es.size>1))=true then _ else _) _ _ _;rw[if_neg (by rw[hp];simp)];refine wpAny_bind ?_;show wpAny _ _ (if(!t.led&&!es.isEmpty)=true then _ else _) _ _ _;rw[if_neg (by rw[hl];simp)];exact wpAny_pure (wpAny_pure h)
theorem N7{j:Nat}{Q:Value->Shared->Prop}{e:Int×Value}(r:fW s.heap a es ep t)(he:es[j]?=some e)(h:Q e.2 s):wpAny (model prog w) A (setNextDrawn a j ep) Q E s:=by unfold setNextDrawn;refine wpAny_bind (fP r ?_);dsimp only;rw[if_neg (by simp),he];exact wpAny_pure h
theorem oF{v:Value}{j n:Nat}{o:Obj}{vs:Array Value}{h:Heap}(ho:h.get? J=some o)(hc:o.cls=.type "set_iterator")(hd:o.data=.fields vs):∃o',(h.update J (Obj.mapFields (·.setIfInBounds j v))).get? J=some o'/\o'.cls=.type "set_iterator"/\o'.data=.fields (vs.setIfInBounds j v):=⟨_,get?_update_self _ ho (Obj.isFreed_of_fields (Obj.data_mapFields hd _)),(Obj.cls_mapFields ..).trans hc,by rw[Obj.data_mapFields hd]⟩
theorem vK{slot:Int}{nx:Nat}{v:Value}{Q:Option Value->Shared->Prop}(x:uU s.heap J a (.int slot 0) i es.size ep)(r:fW s.heap a es ep t)(hq:∀(A:Around)(E:Value->Shared->Prop)(Q:Option (Value×Nat)->Shared->Prop),Q (some (v,nx)) s->wpAny (model prog w) A (setNext a slot.toNat i ep) Q E s)(q:∀h',uU h' J a (.int (nx:Int) 0) (i+1) es.size ep->SameBut J s.heap h'->Q (some v) {s with heap:=h'}):wpAny (model prog w) A (pyNext (.ref J)) Q E s:=by
 unfold pyNext;refine wpAny_bind (wpAny_attempt (wpAny_callSpecial?_slot (name:=Str.ofString "__next__") x.ty bD (wpAny_call_entry bD x.ty dO ?bd (eN _))));refine rH x r rfl (hq _ _ _ ⟨fun y ny e=>?_,fun e=>by cases e⟩);cases e;obtain⟨o,ho,hc,hd⟩:=x;obtain⟨o1,p1,p2,p3⟩:=oF (n:=0) (v:=rawInt (nx:Int)) (j:=0) ho hc hd;obtain⟨o2,q1,q2,q3⟩:=oF (n:=0) (v:=rawInt ((i:Int)+1)) (j:=1) p1 p2 p3;refine wpAny_bind (wpAny_setField ho hd (by simp) (wpAny_bind (wpAny_setField p1 p3 (by simp) (wpAny_pure ⟨_,rfl,wpAny_pure (q _ ⟨o2,q1,q2,?_⟩ ?_)⟩))));.rw[q3];simp[rawInt]
 .exact(Heap.SameBut.update _ J _).trans (Heap.SameBut.update _ J _)
theorem Ae{slot:Int}{Q:Option Value->Shared->Prop}(hh:A.handled=none)(x:uU s.heap J a (.int slot 0) i es.size ep)(r:fW s.heap a es ep t)(hq:∀(A:Around)(E:Value->Shared->Prop)(Q:Option (Value×Nat)->Shared->Prop),Q none s->wpAny (model prog w) A (setNext a slot.toNat i ep) Q E s)(q:∀h',(∀b o,b≠J->s.heap.get? b=some o->h'.get? b=some o)->Q none {s with heap:=h'}):wpAny (model prog w) A (pyNext (.ref J)) Q E s:=by unfold pyNext;refine wpAny_bind (wpAny_attempt (wpAny_callSpecial?_slot (name:=Str.ofString "__next__") x.ty bD (wpAny_call_entry bD x.ty dO ?bd (eN _))));refine rH x r rfl (hq _ _ _ ⟨fun y ny e=>(by cases e),fun _=>?_⟩);obtain⟨o,ho,hc,hd⟩:=x;refine wpAny_bind (wpAny_setField ho hd (by simp) (o9 hh fun h' e k c=>?_));cases he:h'.get? e with|none=>rw[he]at c;cases c|some oe=>rw[he]at c;refine wpAny_bind (wpAny_isInstance (T:="StopIteration") (b:=true) ⟨oe,he,by simpa using c⟩ isSubtype_stop ?_);exact wpAny_pure (q _ fun b o hb e=>k b o ((get?_update_other _ _ (Ne.symm hb)).trans e))
theorem Av{T:Addr}{os:List Nat}{ot:Obj}{c j:Nat}{v:Int×Value}{Q:Option Value->Shared->Prop}(x:uU s.heap J a (.ref T) i es.size ep)(r:fW s.heap a es ep t)(h1:s.heap.get? T=some ot)(h2:ot.data=.seq (os.map fun(i:Nat)=>rawInt (i:Int)).toArray c)(hj:os[i]?=some j)(hv:es[j]?=some v)(q:∀h',uU h' J a (.ref T) (i+1) es.size ep->SameBut J s.heap h'->Q (some v.2) {s with heap:=h'}):wpAny (model prog w) A (pyNext (.ref J)) Q E s:=by unfold pyNext;refine wpAny_bind (wpAny_attempt (wpAny_callSpecial?_slot (name:=Str.ofString "__next__") x.ty bD (wpAny_call_entry bD x.ty dO ?bd (eN _))));refine qC x r rfl h1 h2 ⟨fun j' e=>?_,fun e=>by rw[hj]at e;cases e⟩;rw[hj]at e;cases e;obtain⟨o,ho,hc,hd⟩:=x;obtain⟨o1,p1,p2,p3⟩:=oF (n:=0) (v:=rawInt ((i:Int)+1)) (j:=1) ho hc hd;refine N7 r hv (wpAny_bind (wpAny_setField ho hd (by simp) (wpAny_pure ⟨_,rfl,wpAny_pure (q _ ⟨o1,p1,p2,?_⟩ (Heap.SameBut.update _ J _))⟩)));rw[p3];simp[rawInt]
theorem Ea{T:Addr}{os:List Nat}{ot:Obj}{c:Nat}{Q:Option Value->Shared->Prop}(hh:A.handled=none)(x:uU s.heap J a (.ref T) i es.size ep)(r:fW s.heap a es ep t)(h1:s.heap.get? T=some ot)(h2:ot.data=.seq (os.map fun(i:Nat)=>rawInt (i:Int)).toArray c)(hj:os[i]?=none)(q:∀h',(∀b o,b≠J->s.heap.get? b=some o->h'.get? b=some o)->Q none {s with heap:=h'}):wpAny (model prog w) A (pyNext (.ref J)) Q E s:=by unfold pyNext;refine wpAny_bind (wpAny_attempt (wpAny_callSpecial?_slot (name:=Str.ofString "__next__") x.ty bD (wpAny_call_entry bD x.ty dO ?bd (eN _))));refine qC x r rfl h1 h2 ⟨fun j' e=>(by rw[hj]at e;cases e),fun _=>?_⟩;obtain⟨o,ho,hc,hd⟩:=x;obtain⟨o1,p1,p2,p3⟩:=oF (n:=0) (v:=rawInt 0) (j:=0) ho hc hd;refine wpAny_bind (wpAny_setField ho hd (by simp) (wpAny_bind (wpAny_setField p1 p3 (by simp) (o9 hh fun h' e k c=>?_))));cases he:h'.get? e with|none=>rw[he]at c;cases c|some oe=>rw[he]at c;refine wpAny_bind (wpAny_isInstance (T:="StopIteration") (b:=true) ⟨oe,he,by simpa using c⟩ isSubtype_stop ?_);exact wpAny_pure (q _ fun b o hb e=>k b o ((get?_update_other _ _ (Ne.symm hb)).trans ((get?_update_other _ _ (Ne.symm hb)).trans e)))
theorem pO{n:Nat}{Q:Value->Shared->Prop}(x:uU s.heap J a f i n ep)(h:Q (.ref J) s):wpAny (model prog w) A (pyIter (.ref J)) Q E s:=by refine wpAny_pyIter_slot x.ty jQ (wpAny_call_entry jQ x.ty qe ?_ (qN _));show wpAny _ _ (ret (.ref J)) _ _ s;exact wpAny_pure ⟨_,rfl,"set_iterator",_,x.ty,bD.lookup,h⟩
theorem qx(g:nU t.place.toList)(hi:i<=t.place.size):SetTable.below t.place (slotAt t i).toNat=i:=by
 obtain⟨h1,h2,h3⟩:=below_at (j:=(slotAt t i).toNat) g;have up:∀k(h:k<t.place.size),k<i->t.place[k]<(slotAt t i).toNat:=fun k h hk=>by cases i with|zero=>omega|succ i=>
    have hi':i<t.place.size:=by omega
    have e:slotAt t (i+1)=(t.place[i]:Int)+1:=by simp[slotAt,Array.getD,hi']
    rw[e];by_cases q:k=i;.subst q;omega
    .have:=g k i (by simpa using h) (by simpa using hi') (by omega);simp only[getElem_toList]at this;omega
 have dn:∀k(h:k<t.place.size),i<=k->(slotAt t i).toNat<=t.place[k]:=fun k h hk=>by cases i with|zero=>simp[slotAt]|succ i=>
    have hi':i<t.place.size:=by omega
    have e:slotAt t (i+1)=(t.place[i]:Int)+1:=by simp[slotAt,Array.getD,hi']
    rw[e];have:=g i k (by simpa using hi') (by simpa using h) (by omega);simp only[getElem_toList]at this;omega
 rcases Nat.lt_trichotomy (SetTable.below t.place (slotAt t i).toNat) i with c|c|c;.have k1:=up _ (by omega) c;have k2:=h3 _ (by omega) (le_refl _);omega
 .exact c
 . have hi':i<t.place.size:=by omega
   have k1:=dn i hi' (le_refl _);have k2:=h2 i hi' c;omega
theorem Nf(hh:A.handled=none)(ht:iY w=true)(hne:a≠J):Walks prog w A J [J,a] [J] es.size (fun i v=>((pickOrder (w.params.setOrder a ep) es).toList.map (·.2))[i]?=some v) (fun i h=>uU h J a (.int 0 0) i es.size ep/\fW h a es ep t)where
 sub:=fun b hb=>by simp at hb;simp[hb]
 frame:=fun _ _ _ st hk=>⟨st.1.at' fun o e=>hk J (by simp) o e,st.2.at' fun o e=>hk a (by simp) o e⟩;item:=fun i s Q E hi st hQ=>by
  have hz:(pickOrder (w.params.setOrder a ep) es).size=es.size:=by rw[<-length_toList,(kj _ es).length_eq,length_toList]
  have e:(pickOrder (w.params.setOrder a ep) es)[i]?=some ((pickOrder (w.params.setOrder a ep) es)[i]'(by omega)):=Array.getElem?_eq_getElem _;refine vK (nx:=0) (v:=((pickOrder (w.params.setOrder a ep) es)[i]'(by omega)).2) st.1 st.2 (fun A E Q q=>Ho ht st.2 (by rw[e];exact q)) fun h' x sb=>?_;exact hQ _ h' s.toks (by rw[getElem?_map,getElem?_toList,e];rfl) ⟨x,st.2.at' fun o e=>(sb.2 a hne).trans e⟩ fun b o hb e=>(sb.2 b fun z=>hb (by simp[z])).trans e
 done:=fun s Q E st hQ=>by
  have hz:(pickOrder (w.params.setOrder a ep) es).size=es.size:=by rw[<-length_toList,(kj _ es).length_eq,length_toList]
  refine Ae hh st.1 st.2 (fun A E Q q=>Ho ht st.2 (by rw[Array.getElem?_eq_none (by omega)];exact q)) fun h' k=>?_;exact hQ h' s.toks fun b o hb e=>k b o (fun z=>hb (by simp[z])) e
 self:=fun _ _ _ _ st hQ=>pO st.1 hQ
theorem Nm(hh:A.handled=none)(ht:iY w=false)(hl:t.led=true)(hp:(!t.plain&&decide (es.size>1))=false)(g:nU t.place.toList)(hz:t.place.size=es.size)(hne:a≠J):Walks prog w A J [J,a] [J] es.size (fun i v=>(es.toList.map (·.2))[i]?=some v) (fun i h=>uU h J a (.int (slotAt t i) 0) i es.size ep/\fW h a es ep t)where
 sub:=fun b hb=>by simp at hb;simp[hb]
 frame:=fun _ _ _ st hk=>⟨st.1.at' fun o e=>hk J (by simp) o e,st.2.at' fun o e=>hk a (by simp) o e⟩;item:=fun i s Q E hi st hQ=>by
  have hb:=qx g (i:=i) (by omega);have hi':i<t.place.size:=by omega
  refine vK (nx:=t.place[i]+1) (v:=es[i].2) st.1 st.2 (fun A E Q q=>Dg ht hl hp st.2 (by rw[hb,Array.getElem?_eq_getElem hi,Array.getElem?_eq_getElem hi'];exact q)) fun h' x sb=>?_;refine hQ _ h' s.toks (by simp[hi]) ⟨?_,st.2.at' fun o e=>(sb.2 a hne).trans e⟩ fun b o hb e=>(sb.2 b fun z=>hb (by simp[z])).trans e;have e:slotAt t (i+1)=((t.place[i]+1:Nat):Int):=by simp[slotAt,Array.getD,hi']
  rw[e];exact x
 done:=fun s Q E st hQ=>by have hb:=qx g (i:=es.size) (by omega);refine Ae hh st.1 st.2 (fun A E Q q=>Dg ht hl hp st.2 (by rw[hb,Array.getElem?_eq_none (le_refl _)];exact q)) fun h' k=>?_;exact hQ h' s.toks fun b o hb e=>k b o (fun z=>hb (by simp[z])) e
 self:=fun _ _ _ _ st hQ=>pO st.1 hQ
theorem O1{T:Addr}{os:List Nat}{ot:Obj}{c:Nat}(h2:ot.data=.seq (os.map fun(i:Nat)=>rawInt (i:Int)).toArray c)(hh:A.handled=none)(ho:os.Perm (List.range es.size))(hne:a≠J)(hT:T≠J):Walks prog w A J [J,a,T] [J] es.size (fun i v=>(os.map fun j=>(es.getD j (0,.none)).2)[i]?=some v) (fun i h=>uU h J a (.ref T) i es.size ep/\fW h a es ep t/\h.get? T=some ot)where
 sub:=fun b hb=>by simp at hb;simp[hb]
 frame:=fun _ _ _ st hk=>⟨st.1.at' fun o e=>hk J (by simp) o e,st.2.1.at' fun o e=>hk a (by simp) o e,hk T (by simp) _ st.2.2⟩;item:=fun i s Q E hi st hQ=>by
  have hl:os.length=es.size:=by rw[ho.length_eq,length_range]
  have e:os[i]?=some (os[i]'(by omega)):=getElem?_eq_getElem _;have hj:os[i]'(by omega)<es.size:=mem_range.mp (ho.mem_iff.mp (getElem_mem _));refine Av st.1 st.2.1 st.2.2 h2 e (Array.getElem?_eq_getElem hj) fun h' x sb=>?_;exact hQ _ h' s.toks (by rw[getElem?_map,e];simp[Array.getD,hj]) ⟨x,st.2.1.at' fun o e=>(sb.2 a hne).trans e,(sb.2 T hT).trans st.2.2⟩ fun b o hb e=>(sb.2 b fun z=>hb (by simp[z])).trans e
 done:=fun s Q E st hQ=>by
  have hl:os.length=es.size:=by rw[ho.length_eq,length_range]
  refine Ea hh st.1 st.2.1 st.2.2 h2 (List.getElem?_eq_none (by omega)) fun h' k=>?_;exact hQ h' s.toks fun b o hb e=>k b o (fun z=>hb (by simp[z])) e
 self:=fun _ _ _ _ st hQ=>pO st.1 hQ
end
section
variable{prog:Program}{w:World}{A:Around}{E:Value->Shared->Prop}{s:Shared}{a J:Addr}{es:Array (Int×Value)}{ep i:Nat}{t:SetTable}{f:Value}
theorem xu{src:Source}{n:Nat}{Q:Nat->Shared->Prop}(hn:n≠0)(h:∀i d,i<n->Q i {s with drawn:=d}):wpAny (model prog w) A (choose src n) Q E s:=fun _ _ _=>⟨hn,h _ _ (Nat.mod_lt _ (Nat.pos_of_ne_zero hn))⟩
theorem wH{α:Type}:∀(n:Nat)(xs:List α){s:Shared}{Q:List α->Shared->Prop},xs.length=n->(∀l d,l.Perm xs->Q l {s with drawn:=d})->wpAny (model prog w) A (drawOrder n xs) Q E s
 |0,xs,s,Q,hl,h=>by unfold drawOrder;refine wpAny_pure ?_;have:=h [] s.drawn (by rw[List.length_eq_zero_iff.mp hl]);cases s;exact this|n+1,[],s,Q,hl,h=>by cases hl|n+1,x::xs,s,Q,hl,h=>by
   unfold drawOrder;refine wpAny_bind (xu (by simp) fun i d hi=>?_);rw[getElem?_eq_getElem hi];refine wpAny_bind (wH n ((x::xs).eraseIdx i) (by rw[List.length_eraseIdx,if_pos hi];simpa using hl) fun l d' p=>wpAny_pure ?_);refine h _ d' ((p.cons _).trans ?_);rw[List.eraseIdx_eq_take_drop_succ];have e:x::xs=(x::xs).take i++(x::xs)[i]::(x::xs).drop (i+1):=by rw[List.getElem_cons_drop,List.take_append_drop]
   conv=>rhs;rw[e]
   exact List.perm_middle.symm
inductive Ln(prog:Program)(w:World)(h h':Heap)(a:Addr)(es:Array (Int×Value))(J:Addr):Prop where|mk(fp:List Addr)(its:List Value)(St:Nat->Heap->Prop)(hp:its.Perm (es.toList.map (·.2)))(k:∀b o,h.get? b=some o->h'.get? b=some o)(W:∀A:Around,A.handled=none->Walks prog w A J fp [J] es.size (fun i v=>its[i]?=some v) St)(st:St 0 h')(hJ:h.objs.size<=J)(hf:∀b∈fp,b=a\/h.objs.size<=b)
theorem sr{f:Value}{Q:Value->Shared->Prop}(r:fW s.heap a es ep t)(q:uU (s.heap.push {cls:=.type "set_iterator",data:=.fields #[f,.int 0 0,.ref a,.int es.size 0,.int ep 0]}) s.heap.objs.size a f 0 es.size ep->Q (.ref s.heap.objs.size) {s with heap:=s.heap.push {cls:=.type "set_iterator",data:=.fields #[f,.int 0 0,.ref a,.int es.size 0,.int ep 0]}}):wpAny (model prog w) A (setEpoch a>>=fun ep=>newFields "set_iterator" [f,rawInt 0,Value.ref a,rawInt (es.size:Int),rawInt (ep:Int)]>>=fun r=>ret r) (fun fin s'=>∃v,fin=Fin.done (Flow.ret v)/\∃T' r,s'.TypeIs v T'/\typeLookup (Value.type T') (Str.ofString "__next__")=pure (some r)/\Q v s') E s:=by obtain⟨o,ho,_,hd,hf⟩:=id r;refine wpAny_bind (wpAny_setEpoch_of ho hd hf (wpAny_bind ?_));unfold newFields;refine wpAny_newObj_type (wpAny_pure ⟨_,rfl,"set_iterator",_,⟨_,get?_push_size _ rfl,rfl⟩,bD.lookup,?_⟩);exact q ⟨_,get?_push_size _ rfl,rfl,rfl⟩
theorem Em{Q:Value->Shared->Prop}(r:fW s.heap a es ep t)(hl:t.led=!iY w)(g:nU t.place.toList)(hz:es.size<=sizeLine)(q:∀h' J d,Ln prog w s.heap h' a es J->Q (.ref J) {s with heap:=h',drawn:=d}):wpAny (model prog w) A (pyIter (.ref a)) Q E s:=by
 have hlt:a<s.heap.objs.size:=by obtain⟨o,ho,_⟩:=r;exact lt_size ho
 have hps:t.place.size=es.size:=by obtain⟨o,ho,_,_,hf⟩:=r;simp only[SetTable.fits,and_eq_true,beq_iff_eq]at hf;exact hf.1
 refine wpAny_pyIter_slot r.ty PySem.F.slot_set_iter (wpAny_call_entry PySem.F.slot_set_iter r.ty tX ?bd (PySem.F.args_set_iter_1 _));unfold Builtin.«frozenset.__iter__» Builtin.Frozenset.slot0 Builtin.Frozenset.addrOf;refine wpAny_bind (wpAny_bind (wpAny_pure (wpAny_pure ?_)));unfold Builtin.Frozenset.sizeOf;refine wpAny_bind (wpAny_bind (iJ r (wpAny_pure ?_)));unfold setDrawn;refine wpAny_bind (wpAny_bind (fP r ?_));unfold setsByText;refine wpAny_bind (wpAny_bind (wpAny_askSetting (wpAny_pure (wpAny_pure ?_))));show wpAny _ _ (if(!iY w&&(!t.plain&&decide (es.size>1)))=true then _ else _) _ _ _;by_cases c:(!iY w&&(!t.plain&&decide (es.size>1)))=true
 . rw[if_pos c];refine wpAny_bind (wH es.size _ length_range fun os d po=>wpAny_bind (wpAny_newTuple ?_ (by rw[length_map,po.length_eq,length_range];exact hz)));refine sr (es:=es) (s:={s with heap:=_,drawn:=d}) (r.at' fun o e=>get?_push_of_some _ e) fun x=>?_;refine q _ _ d ⟨_,_,_,?_,fun b o e=>get?_push_of_some _ (get?_push_of_some _ e),fun A hh=>O1 (T:=s.heap.objs.size) (c:=0) rfl hh po ?_ ?_,⟨x,(r.at' fun o e=>get?_push_of_some _ (get?_push_of_some _ e)),get?_push_of_some _ (get?_push_size _ rfl)⟩,?_,?_⟩;.have:=po.map fun j=>(es.getD j (0,Value.none)).2;refine this.trans (.of_eq ?_);refine List.ext_getElem (by simp) fun i h1 h2=>?_;simp at h1;simp[Array.getD,h1]
   .rw[size_push];exact ne_of_lt (lt_succ_of_lt hlt)
   .rw[size_push];exact ne_of_lt (Nat.lt_succ_self _)
   .rw[size_push];exact le_succ _
   . intro b hb;rw[size_push]at hb;simp only[mem_cons,not_mem_nil,or_false]at hb;rcases hb with rfl|rfl|rfl;.exact .inr (le_succ _)
     .exact .inl rfl
     .exact .inr (le_refl _)
 . rw[if_neg c];refine wpAny_bind (wpAny_pure (sr (es:=es) r fun x=>?_));have kp:∀b o,s.heap.get? b=some o->(s.heap.push {cls:=.type "set_iterator",data:=.fields #[rawInt 0,.int 0 0,.ref a,.int es.size 0,.int ep 0]}).get? b=some o:=fun b o e=>get?_push_of_some _ e;have q':=q (s.heap.push {cls:=.type "set_iterator",data:=.fields #[rawInt 0,.int 0 0,.ref a,.int es.size 0,.int ep 0]}) s.heap.objs.size s.drawn;refine(show Ln prog w s.heap (s.heap.push {cls:=.type "set_iterator",data:=.fields #[rawInt 0,.int 0 0,.ref a,.int es.size 0,.int ep 0]}) a es s.heap.objs.size->_ from fun z=>by have:=q' z;cases s;exact this) ?_;have hf:∀b∈[s.heap.objs.size,a],b=a\/s.heap.objs.size<=b:=fun b hb=>by
    simp only[mem_cons,not_mem_nil,or_false]at hb;rcases hb with rfl|rfl;.exact .inr (le_refl _)
    .exact .inl rfl
   cases ht:iY w with|true=>exact⟨_,_,_,(kj (w.params.setOrder a ep) es).map (·.2),kp,fun A hh=>Nf hh ht (ne_of_lt hlt),⟨x,r.at' fun o e=>kp a o e⟩,le_refl _,hf⟩|false=>rw[ht]at c hl;exact⟨_,_,_,.refl _,kp,fun A hh=>Nm hh ht hl (by simpa using c) g hps (ne_of_lt hlt),⟨x,r.at' fun o e=>kp a o e⟩,le_refl _,hf⟩
theorem Gu(hT:s.TypeIs (.ref a) "set"){Q:Bool->Shared->Prop}(h:Q false s):wpAny (model prog w) A (listLengthHint (.ref a)) Q E s:=by unfold listLengthHint;refine wpAny_bind (wpAny_specialOf hT uf ?_);generalize hid:("set.__len__":String)=id0;wp_delta;rw[show splitId id0=some ("set","__len__")from by subst hid;decide+kernel];subst hid;refine wpAny_bind (wpAny_isInstance (T:="set") (b:=true) hT (by rw[isSubtype_type];kernel_rfl) ?_);refine wpAny_ite_split (fun z=>absurd z (by decide)) (fun _=>wpAny_ite_split (fun _=>wpAny_bind (wpAny_typeOf hT (wpAny_pure h))) (fun z=>absurd (by decide+kernel) z))
theorem yt{acc:Array Value}{its:List Value}(h:ItemsOf (fun i v=>its[i]?=some v) acc its.length):acc.toList=its:=by refine List.ext_getElem? fun i=>?_;rw[getElem?_toList];cases q:acc[i]?with|none=>rw[Array.getElem?_eq_none_iff,h.1]at q;rw[List.getElem?_eq_none q]|some v=>exact(h.2 i v q).symm
theorem xq{R:Result->Shared->Prop}(hh:A.handled=none)(r:fW s.heap a es ep t)(hl:t.led=!iY w)(g:nU t.place.toList)(hz:es.size<=sizeLine)(S:Addr)(hSa:S≠a)(res:Value)(c₀:Nat)(hS:s.heap.get? S=some {cls:=.type "list",data:=.seq #[] c₀})(hR:∀h' tk d acc c',(∀b o,b≠S->s.heap.get? b=some o->h'.get? b=some o)->h'.get? S=some {cls:=.type "list",dict:=none,data:=.seq acc c',slots:=#[]}->acc.toList.Perm (es.toList.map (·.2))->R (.ok (.ret res)) {s with heap:=h',toks:=tk,drawn:=d}):wpAny (model prog w) A.in1 (listExtendWith (.ref S) (.ref a) res) (fun fin s'=>match fin with|.done f=>R (.ok f) s'|.again c'=>c'.quiet=true/\codeAny (model prog w) A c' R s') (fun e s'=>R (.error e) s') s:=by
 unfold listExtendWith;refine wpAny_bind (wpAny_typeOf (T:="set") r.ty ?_);have h1:listSameRef (.ref S) (.ref a)=false:=by simp[listSameRef,hSa]
 have h2:(Value.type "set"==Value.type "list")=false:=by decide
 have h3:(Value.type "set"==Value.type "tuple")=false:=by decide
 simp only[h1,h2,h3,Bool.or_false,false_eq_true,if_false];refine wpAny_bind (Em r hl g hz fun h' J d x=>?_);obtain⟨fp,its,St,hp,k,W,st,hJ,hf⟩:=x;have hlen:its.length=es.size:=by rw[hp.length_eq,length_map,length_toList]
 have hSl:=lt_size hS;have hSf:S∉fp:=fun z=>by
  rcases hf S z with e|e;.exact hSa e
  .exact absurd hSl (not_lt.mpr e)
 have hSJ:S≠J:=fun e=>absurd hSl (not_lt.mpr (e▸hJ));have key:∀(h1:Heap)(c₁ tk:Nat),St 0 h1->(∀b o,b≠S->s.heap.get? b=some o->h1.get? b=some o)->h1.get? S=some {cls:=.type "list",data:=.seq #[] c₁}->codeAny (model prog w) A (.builtin "list.extend.loop" ⟨[.ref S,.ref J,res],[]⟩) R {s with heap:=h1,toks:=tk,drawn:=d}:=by
  intro h1 c₁ tk hst hk hS₁;refine codeAny_extend_loopS (W A.in1 hh).toS hz S hSf res es.size 0 _ #[] c₁ rfl (zero_le _) hst hS₁ (ItemsOf.nil _) fun s' acc' c' hm hS' hacc=>?_;rw[Moved.eq_with hm];rw[<-hlen]at hacc;refine hR s'.heap s'.toks d acc' c' (fun b o hb e=>hm.heap b o (fun z=>?_) (hk b o hb e)) hS' (by rw[yt hacc];exact hp);rcases mem_cons.mp z with e'|z;.exact hb e'
  .rw[mem_singleton.mp z]at e;exact absurd (lt_size e) (not_lt.mpr hJ)
 have hS₁:=k S _ hS;refine wpAny_bind (wpAny_holding (Gu (s:={s with heap:=h',drawn:=d}) (by obtain⟨o,ho,hx,_⟩:=r;exact⟨o,k _ _ ho,hx.1⟩) ?_));refine wpAny_ite_split (fun _=>?_) (fun _=>wpAny_pure ⟨plainId_quiet PySem.F.plain_extend_loop _,key _ c₀ _ st (fun b o _ e=>k b o e) hS₁⟩);refine wpAny_bind (wpAny_rule (wpAny_bind ?_));show wpAny _ _ (updateSeq S (·.push .none)>>=fun _=>updateSeq S (·.pop)) _ _ _;refine wpAny_bind (wpAny_updateSeq hS₁ rfl ?_);have hS₂:=get?_update_self (Obj.mapSeq (·.push Value.none)) hS₁ rfl;refine wpAny_updateSeq (hz:=by seq_fits) hS₂ rfl ?_;have hS₃:=get?_update_self (Obj.mapSeq (·.pop)) hS₂ rfl;refine wpAny_pure ⟨plainId_quiet PySem.F.plain_extend_loop _,key _ _ _ ((W A hh).frame 0 _ _ st fun b hb o e=>?_) (fun b o hb e=>?_) hS₃⟩;.have hbS:b≠S:=fun h=>hSf (h▸hb);exact(get?_update_other _ _ (Ne.symm hbS)).trans ((get?_update_other _ _ (Ne.symm hbS)).trans e)
 .exact(get?_update_other _ _ (Ne.symm hb)).trans ((get?_update_other _ _ (Ne.symm hb)).trans (k b o e))
theorem vQ{Q:List Value->Shared->Prop}(hh:A.handled=none)(r:fW s.heap a es ep t)(hl:t.led=!iY w)(g:nU t.place.toList)(hz:es.size<=sizeLine)(hQ:∀h' tk d its,(∀b o,s.heap.get? b=some o->h'.get? b=some o)->s.heap.objs.size<h'.objs.size->its.Perm (es.toList.map (·.2))->Q its {s with heap:=h',toks:=tk,drawn:=d}):wpAny (model prog w) A (collect (.ref a)) Q E s:=by
 have hlt:a<s.heap.objs.size:=by obtain⟨o,ho,_⟩:=r;exact lt_size ho
 unfold collect;refine wpAny_bind (wpAny_runValue (codeAny_builtin PySem.F.entry_proto_collect ?_));rw[Around.under_plainId PySem.F.plain_proto_collect _];show wpAny _ A.in1 (newList []>>=fun l=>again (.builtin "list.__iadd__" ⟨[l,.ref a],[]⟩)) _ _ s;refine wpAny_bind (wpAny_newObj_type (wpAny_pure ⟨plainId_quiet PySem.F.plain_list_iadd _,codeAny_builtin PySem.F.entry_list_iadd ?_⟩));rw[Around.under_plainId PySem.F.plain_list_iadd _];show wpAny _ A.in1 (listExtendWith (.ref s.heap.objs.size) (.ref a) (.ref s.heap.objs.size)) _ _ _;refine xq (A:=A) (R:=fun r s'=>match r with
  |.ok (.ret v)=>wpAny (model prog w) A (match v with
   |.ref a=>do let o<-load a match o.data with|.seq xs _=>pure xs.toList|_=>unsupported "internal:collect"
   |_=>unsupported "internal:collect") Q E s'|.ok _=>False|.error e=>E e s') (s:={s with heap:=s.heap.push {cls:=.type "list",data:=.seq #[]}}) hh (r.at' fun o e=>get?_push_of_some _ e) hl g hz s.heap.objs.size (ne_of_gt hlt) _ 0 (get?_push_size _ rfl) (fun h' tk d acc c' hk hS hacc=>?_);exact wpAny_bind (wpAny_load hS (wpAny_pure (hQ h' tk d acc.toList (fun b o e=>hk b o (ne_of_lt (lt_size e)) (get?_push_of_some _ e)) (lt_size hS) hacc)))
end
end HH
end
section
namespace HH
open PySem L2 PySem.Spec PyProof.Rows PySem.Calls PySem.W
theorem QT{X:Cx}{pins:List (Addr×Obj)}{σ:L2.St}{H:Hp}{s:Shared}(I:L2.Inv X pins σ H s)(d:Drawn):L2.Inv X pins σ H {s with drawn:=d}:=⟨I.ok,I.os,I.bare,I.base,I.loc,I.cell,I.free,I.jA,I.pin,I.hok,I.len⟩
def sI(X:Cx)(l:Addr)(ks:List Int):Heap->Prop:=fun h=>iZ X.prog X.w (!iY X.w) h l ks
def aba(X:Cx):List V->Hp->VK->Prop:=fun xs H Q=>∃p ns,xs=[.ref p]/\(dI X.K H p (map V.int ns)\/gM X.K H p (map V.int ns))/\ns.length<64/\∀l,H l=none->Q (.ref l) (upd H l (.ext (sI X l (cZ ns))))
def aaR(X:Cx):List V->Hp->VK->Prop:=fun xs H Q=>∃l ks,xs=[.ref l]/\H l=some (.ext (sI X l ks))/\ks.length<64/\∀q,H q=none->Q (.ref q) (upd H q (.lst (((kh (ks.map D.int)).map cP).map V.int)))
section
variable{X:Cx}{c:Call}{a:Expr}{pa:P}{pos:Pos}
theorem Uh(hc:X.calm=true):dN X (.type "set") (aba X):=by
 rintro pins s σ H xs us Q I r⟨p,ns,rfl,hq,hn,k⟩;obtain⟨u,rfl,rx⟩:=r.one;cases rx;rcases hq with hq|hq;.obtain⟨its,rv,pl,hz⟩:=I.list hq;refine Hg (I.ok.hd hc) pl.isList (intsAre_of rv) (by unfold scanBound;omega) fun h' tk hs kp=>?_;refine⟨.ref s.heap.objs.size,_,I.laid (t':=tk) (o:=.ext (sI X s.heap.objs.size (cZ ns))) (h':=h') kp (le_refl _) ⟨hs,?_,fun h1 h2 z k=>iZ.at' z k⟩,rfl,k _ (I.hok.fresh (le_refl _))⟩;obtain⟨o,_,_,_,_,ho,_⟩:=hs;exact⟨o,ho⟩
 .obtain⟨its,rv,pl,hz⟩:=I.tuple hq;refine Ci (I.ok.hd hc) pl (intsAre_of rv) (by unfold scanBound;omega) fun h' tk hs kp=>?_;refine⟨.ref s.heap.objs.size,_,I.laid (t':=tk) (o:=.ext (sI X s.heap.objs.size (cZ ns))) (h':=h') kp (le_refl _) ⟨hs,?_,fun h1 h2 z k=>iZ.at' z k⟩,rfl,k _ (I.hok.fresh (le_refl _))⟩;obtain⟨o,_,_,_,_,ho,_⟩:=hs;exact⟨o,ho⟩
theorem pB{ks:List Int}(h:ks.length<=16777216):sortable (ks.map D.int)=true:=by simp only[sortable,length_map,and_eq_true,or_eq_true,decide_eq_true_eq];refine⟨h,.inl ?_⟩;rw[all_eq_true];intro x hx;obtain⟨i,_,rfl⟩:=mem_map.mp hx;rfl
theorem Fo{js ks:List Int}(h:js.length<=16777216)(p:js.Perm ks):kh (js.map D.int)=kh (ks.map D.int):=by have sk:=pB (ks:=ks) (by rw[<-p.length_eq];exact h);exact pG sk ((fX _).trans (p.map D.int)) (j9 _)
theorem Jm(hc:X.calm=true):dN X (.builtin "sorted") (aaR X):=by
 rintro pins s σ H xs us Q I r⟨l,ks,rfl,hq,hn,k⟩;obtain⟨u,rfl,rx⟩:=r.one;cases rx;obtain⟨⟨o,es,ep,t,is,ho,hx,hd,tg,hf,he,hi,hp⟩,_,_⟩:=(show bR X.prog X.w H s.heap l (.ext (sI X l ks))from I.hok l _ hq);have hes:es.size=ks.length:=by rw[<-hp.length_eq,<-ik hi,length_map,length_toList]
 refine Calls.call_function_entry kind_sorted plain_sorted entry_sorted (args_sorted1 _) ?_;unfold Builtin.«sorted»;refine wpAny_bind (m:=checkCount "sorted" 1 1 _) (wpAny_pure ?_);refine wpAny_bind (vQ (A:=X.A.in1) (I.ok.hd hc) ⟨o,ho,hx,hd,hf⟩ tg.1 tg.2.2 (by rw[hes,sizeLine_eq];omega) fun h1 tk d its kp hsz pi=>?_);obtain⟨js,ij,jp⟩:=mY pi hi;have jk:=jp.trans hp;have hla:its.length=ks.length:=by rw[ik ij,jk.length_eq]
 refine wpAny_bind (wpAny_newList ?_ (by rw[sizeLine_eq];omega));have hsz:=le_of_lt hsz;generalize hG:(h1.push {cls:=.type "list",data:=.seq its.toArray}:Heap)=H2;have ho2:H2.get? h1.objs.size=some (seqObj "list" its.toArray 0):=by rw[<-hG];exact get?_push_size _ rfl
 have Hz:∀b o,s.heap.get? b=some o->H2.get? b=some o:=fun b o e=>by rw[<-hG];exact get?_push_of_some _ (kp b o e)
 have hne:∀b o,s.heap.get? b=some o->b≠h1.objs.size:=fun b o e=>ne_of_lt (lt_size (kp b o e));show wpAny _ _ _ _ _ {s with heap:=H2,toks:=tk,drawn:=d};refine wpAny_bind (wpAny_holding (wpAny_call_entry slot_list_sort ⟨_,ho2,rfl⟩ entry_list_sort ?body (args_list_sort _)));case body=>
  refine rP (s:={s with heap:=H2,toks:=tk,drawn:=d}) ho2 ij (by omega) fun h' cc out is k' i1 p2 l2 e=>⟨_,rfl,wpAny_pure ⟨_,rfl,?_⟩⟩;have kk:∀b o,s.heap.get? b=some o->h'.get? b=some o:=fun b o z=>k' b o (hne b o z) (Hz b o z);have e2:is.map V.int=((kh (ks.map D.int)).map cP).map V.int:=by rw[<-Fo (by rw[jk.length_eq];omega) jk,p2];simp[cP,Function.comp_def]
  refine⟨.ref h1.objs.size,_,QT (I.laid (t':=tk) (o:=.lst (is.map V.int)) (h':=h') kk hsz ⟨by rw[length_map,l2,<-ik ij,sizeLine_eq];omega,out,cc,fG i1,e⟩) d,rfl,?_⟩;rw[e2];exact k _ (I.hok.fresh hsz)
theorem Jy{x y:Str}{p' p2 pos2:Pos}(hx:x="sorted")(hy:y="set")(hc:X.calm=true)(hg:Gl X x)(hm:X.mg x=none)(hg2:Gl X y)(hm2:X.mg y=none)(ha:SX X c a pa)(hs:starEach [a] X.env=(false,eval a X.env)::starEach [] X.env:=by rfl):SX X c (.Call (.Name x p') [.Call (.Name y p2) [a] [] pos2] [] pos) (.blt .sset [pa]):=by
 subst hx;subst hy;obtain⟨ta,h1,h3⟩:=ha.dm;refine⟨eU (eX (Jm hc) hg hm boot_sorted (cg (jK (Uh hc) hg2 hm2 (by decide+kernel) (cg h1 dR hs) (he:=hs)) dR)) ?_,fun i h=>by cases h⟩;rintro σ H Q⟨F,ρ,r,ρ',g,e,k⟩;rw[HH.E16]at e;obtain⟨d,ρ1,e1,e2⟩:=ak e;have zz:=aF e2;clear e2;obtain⟨e2,e3⟩:=zz;subst e3;refine h3 g e1 fun v F' H' st pv=>?_;obtain⟨ds,e2,p,ys,rfl,hq,rs⟩:∃ds:List D,(if ds.length<64/\ds.all dW=true then some (R.own (kh ((cZ (ds.map cP)).map D.int)))else none)=some r/\∃p ys,v=.ref p/\(dI X.K H' p ys\/gM X.K H' p ys)/\aG X.K F' ys ds:=by cases d with|lst ds=>obtain⟨p,ys,h1,h2,h3⟩:=pv.lst st.gs.sub;exact⟨ds,e2,p,ys,h1,.inl h2,h3⟩|tup ds=>obtain⟨p,ys,h1,h2,h3,_⟩:=pv.tup st.gs.sub;exact⟨ds,e2,p,ys,h1,.inr h2,h3⟩|_=>cases e2
 obtain⟨⟨hn,ho⟩,he⟩:=bu e2;subst he;rw[all_ints ho]at rs;have ey:=gZ rs;subst ey;have hdl:(cZ (ds.map cP)).length<64:=by have:=xJ (ds.map cP) [];unfold cZ;simp only[length_nil,length_map]at this;omega
 refine⟨p,ds.map cP,rfl,hq,by rw[length_map];exact hn,fun l hl=>⟨l,cZ (ds.map cP),rfl,aY ..,hdl,fun q hq2=>?_⟩⟩;have x1:Ext F' H' F' (upd H' l (.ext (sI X l (cZ (ds.map cP))))):=⟨aL.cO hl,.refl _,fun b o e=>aL.cO hl b o (st.gs.sub b o e),fun _ a b=>absurd a b⟩;refine v7 (K:=X.K) (F:=F') x1.sub (ds:=kh ((cZ (ds.map cP)).map D.int)) ?_ hq2 fun w F2 H2 x2 rn=>?_;.have e4:kh ((cZ (ds.map cP)).map D.int)=((kh ((cZ (ds.map cP)).map D.int)).map cP).map D.int:=all_ints (by rw[all_eq_true];intro x hx;obtain⟨i,_,rfl⟩:=mem_map.mp ((fX _).mem_iff.mp hx);rfl);rw[e4];have:=jL (K:=X.K) (F:=F') ((kh ((cZ (ds.map cP)).map D.int)).map cP);rw[<-e4]at this ⊢;exact this
 . have x3:Ext F' H' F2 H2:=⟨x1.hs.trans x2.hs,x2.fs,x2.sub,fun b n n'=>by
    have:=x2.gr b n n';by_cases eb:b=l;.subst eb;rw[hl];rfl
    .rw[aD eb]at this;exact this⟩;have rn2:cA X.K F2 H2 H' w (.own (kh ((cZ (ds.map cP)).map D.int))):=by obtain⟨b,xs,q1,q2,q3,q4,q5⟩:=rn;refine⟨b,xs,q1,q2,q3,q4,?_⟩;cases z:H' b with|none=>rfl|some o=>rw[x1.hs b o z]at q5;cases q5
   exact k w F2 H2 (st.trans (x3.stp st.gs)) (.later st (rn2.nY st.gs))
end
end HH
end
section
namespace HH
open PySem L2 PySem.Spec PyProof.Rows
section
variable{K:PySem.W.Frag}{F F' F1 H H' H1 F0 H0:Hp}{ρ ρ' ρ1 ρ0:List Sl}{σ σ' σ1 σ0:L2.St}{x:Nat}{q:Addr}{as:List Addr}{rows nG:List (List D)}
noncomputable def Eo:Sl->Bool|.aZ=>true|.hold _=>true|_=>false
theorem fZ{s:Sl}{i:Nat}{b:Addr}(hm:Eo s=true){o:Option V}(h:bB (ρ.set x s) (σ.set x o) i b):bB ρ σ i b/\i≠x:=by
 obtain⟨⟨t,ds,e,e'⟩,e1⟩:=h;by_cases c:x=i
 . subst c;rw[List.getElem?_set]at e;rw[if_pos rfl]at e;split at e;.cases e;cases s<;>first|(cases e';done)|(cases hm;done)
   .cases e
 .rw[getElem?_set_ne c]at e e1;exact⟨⟨⟨t,ds,e,e'⟩,e1⟩,fun z=>c z.symm⟩
theorem GS.zq{s:Sl}{o:Option V}(hm:Eo s=true)(g:GS K F ρ σ H):GS K F (ρ.set x s) (σ.set x o) H:=by
 refine⟨g.sub,by simp[g.len],fun i b d e=>?_,fun i t ds e e'=>?_,fun i j a h1 h2=>g.dis i j a (fZ hm h1).1 (fZ hm h2).1⟩
 . by_cases c:x=i
   . subst c;rw[List.getElem?_set,if_pos rfl]at e;split at e;.cases e;cases hm
     .cases e
   .rw[getElem?_set_ne c]at e ⊢;exact g.val i b d e
 . by_cases c:x=i
   . subst c;rw[List.getElem?_set,if_pos rfl]at e;split at e;.cases e;cases s<;>first|(cases e';done)|(cases hm;done)
     .cases e
   .rw[getElem?_set_ne c]at e ⊢;exact g.own i t ds e e'
theorem aO.zq{s:Sl}{o:Option V}(hm:Eo s=true)(t:aO K F ρ σ H F1 ρ1 σ1 H1)(hf:∀s0,ρ[x]?=some s0->um s0=false):aO K F ρ σ H F1 (ρ1.set x s) (σ1.set x o) H1:=by
 refine⟨t.gs.zq hm,t.cB,t.wW,t.keep,fun b⟨i,h⟩=>t.uX b ⟨i,(fZ hm h).1⟩,by simp[t.len],fun i s' e l=>?_⟩;have c:x≠i:=by rintro rfl;rw[hf _ e]at l;cases l
 obtain⟨z1,s2,z2,z3⟩:=t.lk i s' e l;exact⟨by rw[getElem?_set_ne c];exact z1,s2,by rw[getElem?_set_ne c];exact z2,z3⟩
theorem aO.free{i:Nat}{s1:Sl}(t:aO K F ρ σ H F1 ρ1 σ1 H1)(h:ρ1[i]?=some s1)(hl:um s1=false):∀s0,ρ[i]?=some s0->um s0=false:=fun s0 e=>by cases z:um s0 with|false=>rfl|true=>obtain⟨_,s2,z2,z3⟩:=t.lk i s0 e z;rw[h]at z2;cases z2;rw[z3.um z]at hl;cases hl
structure Qj(F:Hp)(ρ:List Sl)(σ:L2.St)(H:Hp)(a:Addr)(xs:List V):Prop where kp:Kp ρ σ H a (.lst xs)fr:F a=none
theorem Qj.stp{a:Addr}{xs:List V}(h:Qj F ρ σ H a xs)(s:aO K F ρ σ H F' ρ' σ' H'):Qj F' ρ' σ' H' a xs:=by refine⟨h.kp.stp s,?_⟩;cases z:F' a with|none=>rfl|some o=>
   rcases s.wW a h.fr (by rw[z];simp)with y|y;.exact absurd y h.kp.2
   .rw[h.kp.1]at y;cases y
structure Nw(K:PySem.W.Frag)(x:Nat)(q:Addr)(as:List Addr)(F:Hp)(ρ:List Sl)(σ:L2.St)(H:Hp)(rows:List (List D)):Prop where
 slot:ρ[x]?=some (.hold rows)val:σ[x]?=some (some (.ref q))out:Qj F ρ σ H q (as.map V.ref)nd:(q::as).Nodup
 len:as.length=rows.length
 row:∀(k:Nat)(a:Addr)(ds:List D),as[k]?=some a->rows[k]?=some ds->Wt K F ρ σ H a ds
theorem Nw.stp(w:Nw K x q as F ρ σ H rows)(s:aO K F ρ σ H F' ρ' σ' H'):Nw K x q as F' ρ' σ' H' rows:=by obtain⟨z1,s2,z2,z3⟩:=s.lk x _ w.slot rfl;cases(show s2=.hold rows from z3);exact⟨z2,z1.trans w.val,w.out.stp s,w.nd,w.len,fun k a ds h1 h2=>(w.row k a ds h1 h2).stp s⟩
structure NB(K:PySem.W.Frag)(x:Nat)(q:Addr)(as:List Addr)(F0:Hp)(ρ0:List Sl)(σ0:L2.St)(H0:Hp)(F:Hp)(ρ:List Sl)(σ:L2.St)(H:Hp)(rows:List (List D)):Prop where
 stp:aO K F0 ρ0 σ0 H0 F ρ σ H
 fresh:∀b,b∈q::as->Own ρ0 σ0 b\/H0 b=none
 free:∀s0,ρ0[x]?=some s0->um s0=false
 nw:Nw K x q as F ρ σ H rows
theorem NB.step(b:NB K x q as F0 ρ0 σ0 H0 F ρ σ H rows)(s:aO K F ρ σ H F' ρ' σ' H'):NB K x q as F0 ρ0 σ0 H0 F' ρ' σ' H' rows:=⟨b.stp.trans s,b.fresh,b.free,b.nw.stp s⟩
theorem zQ{s:Sl}{o:Option V}{a:Addr}{ob:HO}(hm:Eo s=true)(h:Kp ρ σ H a ob):Kp (ρ.set x s) (σ.set x o) H a ob:=⟨h.1,fun⟨i,z⟩=>h.2 ⟨i,(fZ hm z).1⟩⟩
theorem Jq{s:Sl}{o:Option V}{a:Addr}{ds:List D}(hm:Eo s=true)(h:Wt K F ρ σ H a ds):Wt K F (ρ.set x s) (σ.set x o) H a ds:=by obtain⟨⟨xs,h1,h2⟩,h3⟩:=h;exact⟨⟨xs,zQ hm h1,h2⟩,h3⟩
theorem aO.aaW{Da:Addr}{o:HO}(s:aO K F ρ σ H F1 ρ1 σ1 H1)(h:Own ρ σ Da\/H Da=none)(hf:F1 Da=none)(ho:¬ Own ρ1 σ1 Da):aO K F ρ σ H F1 ρ1 σ1 (upd H1 Da o):=by
 refine⟨⟨fun b u e=>?_,s.gs.len,s.gs.val,fun i t ds e e'=>?_,s.gs.dis⟩,s.cB,s.wW,fun b u e n=>?_,s.uX,s.len,s.lk⟩
 . have:b≠Da:=by rintro rfl;rw[hf]at e;cases e
   rw[aD this];exact s.gs.sub b u e
 . obtain⟨a,xs,q1,q2,q3,q4⟩:=s.gs.own i t ds e e';have:a≠Da:=by rintro rfl;exact ho ⟨i,⟨t,ds,e,e'⟩,q1⟩
   exact⟨a,xs,q1,by rw[aD this];exact q2,q3,q4⟩
 . have:b≠Da:=by
    rintro rfl;rcases h with h|h;.exact n h
    .rw[h]at e;cases e
   rw[aD this];exact s.keep b u e n
theorem NB.mut{r:Nat}{a:Addr}{row jP:List D}{ys:List V}(b:NB K x q as F0 ρ0 σ0 H0 F ρ σ H rows)(ha:as[r]?=some a)(hr:rows[r]?=some row)(rp:aG K F ys jP):NB K x q as F0 ρ0 σ0 H0 F (ρ.set x (.hold (rows.set r jP))) σ (upd H a (.lst ys)) (rows.set r jP):=by
 have w:=b.nw.row r a row ha hr;obtain⟨⟨xs,k1,r1⟩,f1⟩:=w;have hx:x<ρ.length:=(List.getElem?_eq_some_iff.mp b.nw.slot).1;have sx:σ.set x (some (.ref q))=σ:=by have:=b.nw.val;obtain⟨h1,h2⟩:=List.getElem?_eq_some_iff.mp this;rw[<-h2];simp
 have mem:a∈q::as:=mem_cons_of_mem _ (mem_of_getElem? ha);have s1:=(b.stp.aaW (o:=.lst ys) (b.fresh a mem) f1 k1.2).zq (x:=x) (s:=.hold (rows.set r jP)) (o:=some (.ref q)) rfl b.free;rw[sx]at s1;have nq:q≠a:=by have:=(nodup_cons.mp b.nw.nd).1;rintro rfl;exact this (mem_of_getElem? ha)
 have own:∀{c:Addr},¬ Own ρ σ c->¬ Own (ρ.set x (.hold (rows.set r jP))) σ c:=fun{c}h⟨i,z⟩=>h ⟨i,by have:=fZ (x:=x) (s:=.hold (rows.set r jP)) (o:=some (.ref q)) (σ:=σ) (ρ:=ρ) rfl (b:=c) (i:=i) (by rw[sx];exact z);exact this.1⟩;refine⟨s1,b.fresh,b.free,⟨getElem?_set_self hx,b.nw.val,⟨⟨by rw[aD nq];exact b.nw.out.kp.1,own b.nw.out.kp.2⟩,b.nw.out.fr⟩,b.nw.nd,by simp[b.nw.len],fun k c ds h1 h2=>?_⟩⟩;by_cases hk:k=r;.subst hk;rw[ha]at h1;cases h1;have hl:k<rows.length:=(List.getElem?_eq_some_iff.mp hr).1;rw[getElem?_set_self hl]at h2;cases h2;exact⟨⟨ys,⟨aY,own k1.2⟩,rp⟩,f1⟩
 . rw[getElem?_set_ne (fun z=>hk z.symm)]at h2;obtain⟨⟨zs,k2,r2⟩,f2⟩:=b.nw.row k c ds h1 h2;have nc:c≠a:=by rintro rfl;have nd:=(nodup_cons.mp b.nw.nd).2;obtain⟨l1,e1⟩:=List.getElem?_eq_some_iff.mp h1;obtain⟨l2,e2⟩:=List.getElem?_eq_some_iff.mp ha;exact hk ((List.getElem_inj nd).mp (e1.trans e2.symm))
   exact⟨⟨zs,⟨by rw[aD nc];exact k2.1,own k2.2⟩,r2⟩,f2⟩
noncomputable def Fz(F H:Hp)(bs:List Addr):Hp:=fun b=>if b∈bs then H b else F b
theorem sU{G:Hp}:∀{as:List Addr}{rows:List (List D)},as.length=rows.length->(∀(k:Nat)(a:Addr)(ds:List D),as[k]?=some a->rows[k]?=some ds->Rep K G (.ref a) (.lst ds))->aG K G (as.map V.ref) (rows.map D.lst)|[],[],_,_=>.nil|a::as,ds::rows,h,k=>.cons (k 0 a ds rfl rfl) (sU (by simpa using h) fun j b es h1 h2=>k (j+1) b es (by simpa using h1) (by simpa using h2))|[],_::_,h,_=>by simp at h|_::_,[],h,_=>by simp at h
theorem Nw.Mp(w:Nw K x q as F ρ σ H rows){b:Addr}(hb:b∈q::as):F b=none/\¬ Own ρ σ b:=by
 rcases mem_cons.mp hb with rfl|hb;.exact⟨w.out.fr,w.out.kp.2⟩
 . obtain⟨k,hk⟩:=List.getElem?_of_mem hb;have hl:k<rows.length:=by rw[<-w.len];exact(List.getElem?_eq_some_iff.mp hk).1
   obtain⟨⟨xs,k1,_⟩,f1⟩:=w.row k b rows[k] hk (by simp[hl]);exact⟨f1,k1.2⟩
theorem Nw.fz(w:Nw K x q as F ρ σ H rows)(sm:aL F H):aL F (Fz F H (q::as))/\aL (Fz F H (q::as)) H/\Rep K (Fz F H (q::as)) (.ref q) (.lst (rows.map D.lst)):=by
 have s1:aL F (Fz F H (q::as)):=fun b o e=>by unfold Fz;rw[if_neg fun hb=>by rw[(w.Mp hb).1]at e;cases e];exact e
 refine⟨s1,fun b o e=>?_,?_⟩
 . unfold Fz at e;split at e;.exact e
   .exact sm b o e
 .rw[Rep];refine⟨q,as.map V.ref,rfl,dI.of (by unfold Fz;rw[if_pos mem_cons_self];exact w.out.kp.1),sU w.len fun k a ds h1 h2=>?_⟩;obtain⟨⟨xs,k1,r1⟩,f1⟩:=w.row k a ds h1 h2;rw[Rep];exact⟨a,xs,rfl,dI.of (by unfold Fz;rw[if_pos (mem_cons_of_mem _ (mem_of_getElem? h1))];exact k1.1),r1.mono s1⟩
theorem NB.cU(b:NB K x q as F0 ρ0 σ0 H0 F ρ σ H rows):aO K F0 ρ0 σ0 H0 (Fz F H (q::as)) (ρ.set x (.val false (.lst (rows.map D.lst)))) σ H:=by
 obtain⟨s1,s2,rp⟩:=b.nw.fz b.stp.gs.sub;have g:=b.stp.gs;have hx:x<ρ.length:=(List.getElem?_eq_some_iff.mp b.nw.slot).1;have old:∀{j:Nat}{c:Addr},bB (ρ.set x (.val false (.lst (rows.map D.lst)))) σ j c->bB ρ σ j c/\x≠j:=fun{j c}⟨⟨t,ds,e,e'⟩,e1⟩=>by
  by_cases hj:x=j;.subst hj;rw[getElem?_set_self hx]at e;cases e;cases e'
  .rw[getElem?_set_ne hj]at e;exact⟨⟨⟨t,ds,e,e'⟩,e1⟩,hj⟩
 refine⟨⟨s2,by simp[g.len],fun i bb d e=>?_,fun i t ds e e'=>?_,fun i j c h1 h2=>g.dis i j c (old h1).1 (old h2).1⟩,b.stp.cB.trans s1,fun c n n'=>?_,b.stp.keep,fun c⟨j,h⟩=>b.stp.uX c ⟨j,(old h).1⟩,by simp[b.stp.len],fun i t e l=>?_⟩
 . by_cases hj:x=i;.subst hj;rw[getElem?_set_self hx]at e;cases e;exact⟨_,b.nw.val,rp⟩
   .rw[getElem?_set_ne hj]at e;obtain⟨v,h1,h2⟩:=g.val i bb d e;exact⟨v,h1,h2.mono s1⟩
 . by_cases hj:x=i;.subst hj;rw[getElem?_set_self hx]at e;cases e;cases e'
   .rw[getElem?_set_ne hj]at e;obtain⟨a,o,h1,h2,h3,h4⟩:=g.own i t ds e e';refine⟨a,o,h1,h2,?_,h4.mono s1⟩;unfold Fz;rw[if_neg fun hb=>(b.nw.Mp hb).2 ⟨i,⟨t,ds,e,e'⟩,h1⟩];exact h3
 . by_cases hc:c∈q::as;.exact(b.fresh c hc).imp id jE
   . have:Fz F H (q::as) c=F c:=by unfold Fz;rw[if_neg hc]
     rw[this]at n';exact b.stp.wW c n n'
 . have c:x≠i:=by rintro rfl;rw[b.free _ e]at l;cases l
   obtain⟨z1,s3,z2,z3⟩:=b.stp.lk i t e l;exact⟨z1,s3,by rw[getElem?_set_ne c];exact z2,z3⟩
end
inductive Rh(K:PySem.W.Frag)(x:Nat)(f:List Sl->Res Fl)(E:Ends)(σ:L2.St)(H:Hp):Prop where|mk(F0:Hp)(ρ0:List Sl)(σ0:L2.St)(H0 F:Hp)(ρ:List Sl)(q:Addr)(as:List Addr)(rows:List (List D))(fl:Fl)(ρ':List Sl)(b:NB K x q as F0 ρ0 σ0 H0 F ρ σ H rows)(e:f ρ=.ok fl ρ')(k:∀F' σ' H',aO K F0 ρ0 σ0 H0 F' ρ' σ' H'->aL F F'->((∀r,fl≠.ret r)->∃nG,NB K x q as F0 ρ0 σ0 H0 F' ρ' σ' H' nG)->Fg K E F' ρ' σ' H' ρ0 σ0 H0 fl)
inductive Vx(K:PySem.W.Frag)(x:Nat)(f:List Sl->Res Fl)(E:Ends)(σ:L2.St)(H:Hp):Prop where|mk(F0:Hp)(ρ0:List Sl)(σ0:L2.St)(H0 F:Hp)(ρ:List Sl)(q:Addr)(as:List Addr)(rows:List (List D))(fl:Fl)(ρ':List Sl)(b:NB K x q as F0 ρ0 σ0 H0 F ρ σ H rows)(e:f ρ=.ok fl ρ')(k:∀F' σ' H',aO K F0 ρ0 σ0 H0 F' ρ' σ' H'->Fg K E F' ρ' σ' H' ρ0 σ0 H0 fl)
structure V2(X:Cx)(c:Call)(n x:Nat)(st:Stmt)(s:S):Prop where p:PS X st (Rh X.K x (ex c n s))
structure Tu(X:Cx)(c:Call)(n x:Nat)(st:List Stmt)(s:List S):Prop where p:v5 X st (Rh X.K x (gj c n s))
structure Xe(X:Cx)(c:Call)(n x:Nat)(st:List Stmt)(s:List S):Prop where p:v5 X st (Vx X.K x (gj c n s))
section
variable{X:Cx}{c:Call}{n x:Nat}{e a b d tg iter:Expr}{p pa pb pd:P}{pos:Pos}{body:List Stmt}{ss:List S}{st:Stmt}{s:S}{sts:List Stmt}
theorem oU:Tu X c n x [] []:=⟨mZ zG fun D σ H⟨F0,ρ0,σ0,H0,F,ρ,q,as,rows,fl,ρ',nb,e,k⟩=>by rw[gj]at e;cases e;exact k F σ H nb.stp (.refl _) fun _=>⟨rows,nb⟩⟩
theorem oY(h1:V2 X c n x st s)(h2:Tu X c n x sts ss):Tu X c n x (st::sts) (s::ss):=by refine⟨mZ (lD h1.p h2.p) ?_⟩;rintro D σ H⟨F0,ρ0,σ0,H0,F,ρ,q,as,rows,fl,ρ',nb,e,k⟩;rw[gj]at e;obtain⟨f1,ρ1,e1,e⟩:=ak e;cases f1 with|next=>refine⟨F0,ρ0,σ0,H0,F,ρ,q,as,rows,.next,ρ1,nb,e1,fun F1 σ1 H1 s1 sm nn=>?_⟩;obtain⟨HB,M9⟩:=nn (fun r z=>by cases z);exact⟨F0,ρ0,σ0,H0,F1,ρ1,q,as,HB,fl,ρ',M9,e,fun F2 σ2 H2 s2 Ry nn2=>k F2 σ2 H2 s2 (sm.trans Ry) nn2⟩|brk=>cases e;exact⟨F0,ρ0,σ0,H0,F,ρ,q,as,rows,.brk,_,nb,e1,k⟩|cont=>cases e;exact⟨F0,ρ0,σ0,H0,F,ρ,q,as,rows,.cont,_,nb,e1,k⟩|ret r=>cases e;exact⟨F0,ρ0,σ0,H0,F,ρ,q,as,rows,.ret r,_,nb,e1,k⟩
theorem GJ(h1:V2 X c n x st s)(h2:Xe X c n x sts ss):Xe X c n x (st::sts) (s::ss):=by refine⟨mZ (lD h1.p h2.p) ?_⟩;rintro D σ H⟨F0,ρ0,σ0,H0,F,ρ,q,as,rows,fl,ρ',nb,e,k⟩;rw[gj]at e;obtain⟨f1,ρ1,e1,e⟩:=ak e;cases f1 with|next=>refine⟨F0,ρ0,σ0,H0,F,ρ,q,as,rows,.next,ρ1,nb,e1,fun F1 σ1 H1 s1 sm nn=>?_⟩;obtain⟨HB,M9⟩:=nn (fun r z=>by cases z);exact⟨F0,ρ0,σ0,H0,F1,ρ1,q,as,HB,fl,ρ',M9,e,k⟩|brk=>cases e;exact⟨F0,ρ0,σ0,H0,F,ρ,q,as,rows,.brk,_,nb,e1,fun F1 σ1 H1 s1 _ _=>k F1 σ1 H1 s1⟩|cont=>cases e;exact⟨F0,ρ0,σ0,H0,F,ρ,q,as,rows,.cont,_,nb,e1,fun F1 σ1 H1 s1 _ _=>k F1 σ1 H1 s1⟩|ret r=>cases e;exact⟨F0,ρ0,σ0,H0,F,ρ,q,as,rows,.ret r,_,nb,e1,fun F1 σ1 H1 s1 _ _=>k F1 σ1 H1 s1⟩
theorem IK(h:SB X c n sts ss):Xe X c n x sts (.cU x::ss):=by refine⟨mZ h ?_⟩;rintro D σ H⟨F0,ρ0,σ0,H0,F,ρ,q,as,rows,fl,ρ',nb,e,k⟩;rw[gj]at e;obtain⟨f1,ρ1,e1,e⟩:=ak e;rw[HH.X20,nb.nw.slot]at e1;cases e1;have t:=nb.cU;refine⟨_,_,fl,ρ',t.gs,e,fun F' σ' H' s=>?_⟩;have z:=k F' σ' H' (t.trans s);cases fl with|next=>exact z|brk=>exact z|cont=>exact z|ret r=>exact fun v rr=>z v (rr.later t)
theorem Ol{sa sb:List Stmt}{ta tb:List S}(hc:ST X c e p)(ha:Tu X c n x sa ta)(hb:Tu X c n x sb tb):V2 X c n x (.If e sa sb pos) (.ifs p ta tb):=by refine⟨fC (Lw hc ha.p hb.p) ?_⟩;rintro D σ H⟨F0,ρ0,σ0,H0,F,ρ,q,as,rows,fl,ρ',nb,e,k⟩;rw[HH.Xw]at e;obtain⟨t,ρ1,e1,e⟩:=ak e;refine⟨F,ρ,t,ρ1,nb.stp.gs,e1,fun F1 H1 s1=>?_⟩;have go:∀{f:List Sl->Res Fl},f ρ1=.ok fl ρ'->Rh X.K x f D σ H1:=fun{f}h=>⟨F0,ρ0,σ0,H0,F1,ρ1,q,as,rows,fl,ρ',nb.step s1,h,fun F2 σ2 H2 s2 sm nn=>k F2 σ2 H2 s2 (s1.cB.trans sm) nn⟩;cases t with|true=>rw[if_pos rfl]at e;exact go e|false=>rw[if_neg Bool.false_ne_true]at e;exact go e
theorem Ha{ρ:List Sl}{rows:List (List D)}(h:iW ρ x=some rows):ρ[x]?=some (.hold rows):=by
 unfold iW at h;split at h;.rename_i z;cases h;exact z
 .cases h
def WalkN(K:PySem.W.Frag)(J:It)(ds:List D)(F1:Hp):Prop:=∀(k:Nat)(F' H':Hp),aL F1 F'->aL F' H'->(∀d,ds[k]?=some d->J.go k H'/\∀x jO,J.Ht k H' x jO->∃F'',Ext F' H' F'' jO/\Rep K F'' x d)/\(ds.length<=k->J.stop k H')
inductive aah(K:PySem.W.Frag)(f:Ev)(σ:L2.St)(H:Hp)(R:It->Hp->Prop):Prop where|mk(F:Hp)(ρ:List Sl)(r:HH.R)(ρ1:List Sl)(ds:List D)(g:GS K F ρ σ H)(e:f ρ=.ok r ρ1)(e2:items r.d=some ds)(k:∀J F1 H1,aO K F ρ σ H F1 ρ1 σ H1->WalkN K J ds F1->R J H1)
structure SIN(X:Cx)(c:Call)(tg e:Expr)(p:P):Prop where p:PI X tg e (aah X.K (HH.ev c p))
theorem Ka(h:SX X c e p):SIN X c tg e p:=by refine⟨kZ (yl h.ev) ?_⟩;rintro σ H R⟨F,ρ,r,ρ1,ds,g,e,e2,k⟩;refine⟨F,ρ,r,ρ1,g,e,fun v F' H' s rr=>?_⟩;obtain⟨F2,s2,_,rp⟩:=s.cU rr;cases hd:r.d with|tup es=>rw[hd]at rp e2;cases e2;rw[Rep]at rp;obtain⟨a,xs,rfl,h1,h2⟩:=rp;exact⟨a,rfl,.inr ⟨⟨xs,aL.fO s2.gs.sub h1⟩,k _ _ _ s2 fun k F3 H3 W6 Ry=>Aa (aL.fO Ry (aL.fO W6 h1)) (h2.mono W6) Ry k⟩⟩|lst es=>rw[hd]at rp e2;cases e2;rw[Rep]at rp;obtain⟨a,xs,rfl,h1,h2⟩:=rp;exact⟨a,rfl,.inl ⟨⟨xs,s2.gs.sub.seq h1⟩,k _ _ _ s2 fun k F3 H3 W6 Ry=>qy (Ry.seq (W6.seq h1)) (h2.mono W6) Ry k⟩⟩|_=>rw[hd]at e2;cases e2
theorem Ax{K:PySem.W.Frag}{F1:Hp}(i j:Int):WalkN K (Tg i (j-i).toNat) ((List.range (j-i).toNat).map fun(k:Nat)=>D.int (i+(k:Int))) F1:=by
 refine fun k F' H' _ sm=>⟨fun d hd=>?_,fun h=>?_⟩;.rw[getElem?_map]at hd;obtain⟨m,e1,e2⟩:=map_some hd;obtain⟨h1,h2⟩:=List.getElem?_eq_some_iff.mp e1;rw[List.getElem_range]at h2;subst h2;subst e2;rw[length_range]at h1;refine⟨h1,?_⟩;rintro x jO⟨q1,q2⟩;subst q1;subst q2;exact⟨F',.refl sm,bT _⟩
 .rw[length_map,length_range]at h;exact h
theorem Dh{x:Str}{p':Pos}(hx:x="range")(hg:Gl X x)(hm:X.mg x=none)(ha:SX X c a pa)(hs:starEach [a] X.env=[(false,eval a X.env)]:=by rfl):SIN X c tg (.Call (.Name x p') [a] [] pos) (.oX (.con (.int 0)) pa):=by
 subst hx;obtain⟨ta,h1,h2⟩:=ha.dm;refine⟨kZ (rG hg hm (cg h1 dR hs) hs) ?_⟩;rintro σ H R⟨F,ρ,r,ρ1,ds,g,e1,e2,k⟩;rw[HH.E20]at e1;obtain⟨xy,ρ3,e4,e5⟩:=ak e1;have zz:=aF e5;clear e5;obtain⟨e5,e6⟩:=zz;subst e6;obtain⟨y0,ρ5,e9,e10⟩:=ak e4;cases e10;obtain⟨i,f1,e5⟩:=cz e5;obtain⟨j,f2,e5⟩:=cz e5;obtain⟨⟨b1,b2,b3,b4⟩,e5⟩:=bu e5;have f1:i=0:=by cases f1;rfl
 subst f1;subst e5;cases e2;cases cX f2;refine h2 g e9 fun v F' H' s pv=>⟨j,by rw[pv.int],by omega,by omega,?_⟩;have:=Ax (K:=X.K) (F1:=F') 0 j;rw[sub_zero]at this;refine k _ F' H' s ?_;rw[sub_zero];exact this
theorem Aj{g:TG}{is:List Nat}{one:Bool}(hp:PassesOwn (model X.prog X.w) X.A X.env X.xe)(hc:X.calm=true)(hi:SIN X c tg iter p)(hg:PG X tg g)(hgo:Gz X.K (fun ρ d=>bW ρ is one d) g)(hb:Tu X c n x body ss)(hs:∀x,foldedSetIterable iter X.env x=pure x:=by intro _;rfl):V2 X c n x (.For tg iter body [] pos) (.Cy p is one ss):=by
 refine⟨fC (Gv hp hc hi.p hg hb.p hs) ?_⟩;rintro D σ H⟨F0,ρ0,σ0,H0,F,ρ,q,as,rows,fl,ρ',nb,e,k⟩;rw[HH.X19]at e;obtain⟨r,ρ1,e1,e⟩:=ak e;obtain⟨ds,ρ9,e9,e2⟩:=ak e;have zz:=aF e9;clear e9;obtain⟨e9,e91⟩:=zz;subst e91;refine⟨F,ρ,r,ρ1,ds,nb.stp.gs,e1,e9,fun J F1 H1 s1 w=>?_⟩;refine⟨fun i m σi Hi=>∃Fi ρi sX,NB X.K x q as F0 ρ0 σ0 H0 Fi ρi σi Hi sX/\aL F1 Fi/\m=ds.length-i/\i<=ds.length/\gW is one (gj c n ss) (ds.drop i) ρi=.ok fl ρ',⟨_,F1,ρ1,rows,nb.step s1,.refl _,rfl,zero_le _,e2⟩,?_⟩;rintro i m σi Hi⟨Fi,ρi,sX,W7,smi,rfl,hle,ei⟩;obtain⟨w1,w2⟩:=w i Fi Hi smi W7.stp.gs.sub;by_cases hlt:i<ds.length
 . right;have hd:ds[i]?=some ds[i]:=by simp[hlt]
   obtain⟨go,step⟩:=w1 _ hd;refine⟨go,fun σ' H'=>∃m',m'<ds.length-i/\∃Fi ρi sX,NB X.K x q as F0 ρ0 σ0 H0 Fi ρi σ' H' sX/\aL F1 Fi/\m'=ds.length-(i+1)/\i+1<=ds.length/\gW is one (gj c n ss) (ds.drop (i+1)) ρi=.ok fl ρ',fun σ' H' z=>z,fun y H' yy=>?_⟩;obtain⟨F2,ext,rx⟩:=step y H' yy;have t2:=ext.stp W7.stp.gs;rw[drop_eq_getElem_cons hlt,gW]at ei;cases hbd:bW ρi is one ds[i]with|none=>rw[hbd]at ei;cases ei|some ρb=>rw[hbd]at ei;obtain⟨flb,ρc,eb,ei⟩:=ak ei;refine hgo y _ F2 ρi ρb σi H' _ t2.gs rx hbd fun σ2 sb=>?_;have t3:=t2.trans sb;refine⟨F0,ρ0,σ0,H0,F2,ρb,q,as,sX,flb,ρc,W7.step t3,eb,fun F4 σ4 H4 s4 sm4 nn4=>?_⟩;have Zr:aL F1 F4:=smi.trans (ext.fs.trans sm4);cases flb with|next=>obtain⟨HD,nb4⟩:=nn4 (fun r z=>by cases z);exact⟨_,by omega,F4,ρc,HD,nb4,Zr,rfl,hlt,ei⟩|cont=>obtain⟨HD,nb4⟩:=nn4 (fun r z=>by cases z);exact⟨_,by omega,F4,ρc,HD,nb4,Zr,rfl,hlt,ei⟩|brk=>cases ei;exact k F4 σ4 H4 s4 (s1.cB.trans Zr) fun _=>nn4 (fun r z=>by cases z)|ret r=>cases ei;exact fun v rr=>k F4 σ4 H4 s4 (s1.cB.trans Zr) (fun h=>(h r rfl).elim) v rr
 . left;have hdr:ds.drop i=[]:=by rw[drop_eq_nil_iff];omega
   rw[hdr,gW]at ei;cases ei;exact⟨w2 (by omega),k Fi σi Hi W7.stp (s1.cB.trans smi) fun _=>⟨sX,W7⟩⟩
end
section
variable{X:Cx}{c:Call}{n:Nat}{e a b d i j:Expr}{p pa pb pd pi pj:P}{pos:Pos}
theorem JV{ρ ρ':List Sl}{x:Nat}{o:Option (List (List D))}{fl:Fl}(h:Ca ρ x o=.ok fl ρ'):∃rows,o=some rows/\fl=.next/\ρ'=ρ.set x (.hold rows):=by cases o with|none=>cases h|some rows=>cases h;exact⟨rows,rfl,rfl,rfl⟩
section
variable{K:PySem.W.Frag}{F H F0 H0:Hp}{ρ ρ0:List Sl}{σ σ0:L2.St}{x:Nat}{q:Addr}{as:List Addr}{rows nG:List (List D)}
theorem NB.hold(nb:NB K x q as F0 ρ0 σ0 H0 F ρ σ H rows)(h:iW ρ x=some nG):nG=rows:=by have:=Ha h;rw[nb.nw.slot]at this;cases this;rfl
theorem NB.at{k:Int}{r:Nat}{row:List D}(nb:NB K x q as F0 ρ0 σ0 H0 F ρ σ H rows)(h1:HH.iH rows.length k=some r)(h2:rows[r]?=some row):∃a ys,as[r]?=some a/\Hl (as.map V.ref) k=some (.ref a)/\H a=some (.lst ys)/\aG K F ys row:=by
 have hl:r<as.length:=by rw[nb.nw.len];exact(List.getElem?_eq_some_iff.mp h2).1
 obtain⟨⟨ys,k1,r1⟩,_⟩:=nb.nw.row r as[r] row (by simp[hl]) h2;refine⟨as[r],ys,by simp[hl],?_,k1.1,r1⟩;unfold Hl;rw[length_map,nb.nw.len];rw[show L2.iH rows.length k=some r from h1];simp[hl]
theorem NB.tD{dk:D}{row:List D}(nb:NB K x q as F0 ρ0 σ0 H0 F ρ σ H rows)(h:HH.tD ρ x dk=some row):∃k a,(∃r:Nat,as[r]?=some a)/\Hl (as.map V.ref) k=some (.ref a)/\dk=.int k/\∃ys,H a=some (.lst ys)/\aG K F ys row:=by unfold HH.tD at h;obtain⟨rows0,h1,h⟩:=cz h;cases nb.hold h1;obtain⟨k,h2,h⟩:=cz h;obtain⟨r,h3,h4⟩:=cz h;obtain⟨a,ys,g1,g2,g3,g4⟩:=nb.at h3 h4;exact⟨k,a,⟨r,g1⟩,g2,cX h2,ys,g3,g4⟩
end
theorem Ar{rows nG:List (List D)}{k:Int}{f:List D->Option (List D)}(h:ju rows k f=some nG):∃r row jP,HH.iH rows.length k=some r/\rows[r]?=some row/\f row=some jP/\nG=rows.set r jP:=by unfold ju at h;obtain⟨r,h1,h⟩:=cz h;obtain⟨row,h2,h⟩:=cz h;obtain⟨jP,h3,h⟩:=map_some h;exact⟨r,row,jP,h1,h2,h3,h.symm⟩
theorem Gk{x:Str}{k:Nat}{px ipos apos cpos:Pos}(hN:X.N[k]?=some x)(hv:zW X.env.scope x)(hi:SX X c i pi)(he:SX X c e p)(hpx:tH i:=by intro _ _;rfl)(hline:(apos.endLine==cpos.line)=true:=by rfl)(hs:starEach [e] X.env=(false,eval e X.env)::starEach [] X.env:=by rfl)(hbase:attributeBase (.Subscript (.Name x px) i ipos) "append" X.env (eval (.Subscript (.Name x px) i ipos) X.env)=eval (.Subscript (.Name x px) i ipos) X.env:=by rfl)(hfew:((backTo cpos (starEach [e] X.env)).all (fun x=>!x.1)&&(backToKw cpos (keywordEach [] X.env)).all (fun x=>x.1.isSome)&&decide ([e].length+([]:List Keyword).length+(if([]:List Keyword).isEmpty then 0 else 1)<30))=true:=by rfl)(hsw:swapsWith (.Call (.Attribute (.Subscript (.Name x px) i ipos) "append" apos) [e] [] cpos) none pos.line X.env=pure false:=by rfl)(hd:(x==("__debug__":Str))=false:=by decide)(hcd:(x==("__classdict__":Str))=false:=by decide):V2 X c n k (.Expr (.Call (.Attribute (.Subscript (.Name x px) i ipos) "append" apos) [e] [] cpos) pos) (.Hw k pi p):=by obtain⟨ti,hi1,hi2⟩:=hi.dm;refine⟨fC (zJ (Lj PySem.F.plainAttrs_list PySem.F.slot_list_append PySem.F.type_list_append mj (Ml zg (gO hN hv hd hcd) hi1 hpx) (cg he.ev dR hs) hbase hfew hline hs) hsw) ?_⟩;rintro E σ H⟨F0,ρ0,σ0,H0,F,ρ,q,as,rows,fl,ρ',nb,e,kk⟩;rw[HH.X18]at e;obtain⟨dk,ρ2,e2,e⟩:=ak e;obtain⟨row0,ρ2',e8,e⟩:=ak e;have zz:=aF e8;clear e8;obtain⟨e8,e81⟩:=zz;subst e81;obtain⟨r,ρ3,e3,e⟩:=ak e;obtain⟨rs,e4,rfl,rfl⟩:=JV e;refine⟨.ref q,nb.nw.val,hi2 nb.stp.gs e2 fun vi F1 H1 s1 pi=>?_⟩;have M9:=nb.step s1;obtain⟨k0,a,g1,g2,g0,ys,g3,g4⟩:=M9.tD e8;rw[g0]at pi;refine⟨q,_,k0,_,rfl,pi.int,dI.of M9.nw.out.kp.1,g2,.inl ⟨rfl,ys,dI.of g3⟩,F1,ρ2,r,ρ3,M9.stp.gs,e3,fun v F2 H2 s2 rr=>?_⟩;obtain⟨F3,s3,_,rp⟩:=s2.cU rr;have nb3:=M9.step s3;obtain⟨rows0,e5,e4⟩:=cz e4;cases nb3.hold e5;obtain⟨k1,e6,e4⟩:=cz e4;obtain⟨m,row,jP,f1,f2,f3,rfl⟩:=Ar e4;obtain⟨hlt,rfl⟩:=bu f3;have:=cX e6;rw[g0]at this;cases this;obtain⟨a',ys',g1',g2',g3',g4'⟩:=nb3.at f1 f2;rw[g2]at g2';cases g2';have nb5:=nb3.mut g1' f2 (g4'.append (.cons rp .nil));exact⟨a,ys',v,rfl,rfl,g3',by rw[g4'.length];exact hlt,kk F3 σ _ nb5.stp (s1.cB.trans s3.cB) fun _=>⟨_,nb5⟩⟩
end
section
variable{K:PySem.W.Frag}{F H F1 H1:Hp}{ρ ρ1:List Sl}{σ σ1:L2.St}
theorem aO.since{b:Addr}(s:aO K F ρ σ H F1 ρ1 σ1 H1)(h:H1 b=none):Own ρ σ b\/H b=none:=by
 by_cases ho:Own ρ σ b;.exact .inl ho
 .right;cases e:H b with|none=>rfl|some o=>rw[s.keep b o e ho]at h;cases h
theorem NB.mk'{x:Nat}{q:Addr}{as:List Addr}{rows:List (List D)}{s1:Sl}(s:aO K F ρ σ H F1 ρ1 σ1 H1)(hx:ρ1[x]?=some s1)(hl:um s1=false)(hq:Qj F1 ρ1 σ1 H1 q (as.map V.ref))(nd:(q::as).Nodup)(len:as.length=rows.length)(row:∀(k:Nat)(a:Addr)(ds:List D),as[k]?=some a->rows[k]?=some ds->Wt K F1 ρ1 σ1 H1 a ds)(fr:∀b,b∈q::as->Own ρ σ b\/H b=none):NB K x q as F ρ σ H F1 (ρ1.set x (.hold rows)) (σ1.set x (some (.ref q))) H1 rows:=by
 have hi:x<ρ1.length:=(List.getElem?_eq_some_iff.mp hx).1;have hi':x<σ1.length:=by rw[<-s.gs.len];exact hi
 exact⟨s.zq rfl (s.free hx hl),fr,s.free hx hl,⟨getElem?_set_self hi,getElem?_set_self hi',⟨zQ rfl hq.kp,hq.fr⟩,nd,len,fun k a ds h1 h2=>Jq rfl (row k a ds h1 h2)⟩⟩
end
theorem GD{K:PySem.W.Frag}{F H:Hp}{ρ ρ1 ρ2:List Sl}{σ:L2.St}{ul:List Sl->List Sl}{ti:TI}{is:List Nat}{one:Bool}{c:Call}{el:Ev}{g:TG}{Q:VK}{ds:List D}{rows:List (List D)}{m n:Nat}(hm:σ.length=m)(hgo:nC K m is one g)(hti:∀R:It->Hp->Prop,(∀J F1 H1,Walk K F ρ σ H ul J ds F1 ρ1 H1->R J H1)->ti σ H R)(hlim:ds.length<=lim)(e2:fB is one el ds [] (ρ1++replicate n .aZ)=.ok rows ρ2)(k:∀ q as F' H',aO K F ρ σ H F' (ul (ρ2.take ρ1.length)) σ H'->Qj F' (ul (ρ2.take ρ1.length)) σ H' q (as.map V.ref)->(q::as).Nodup->as.length=rows.length->(∀(k:Nat)(a:Addr)(ds:List D),as[k]?=some a->rows[k]?=some ds->Wt K F' (ul (ρ2.take ρ1.length)) σ H' a ds)->(∀b,b∈q::as->Own ρ σ b\/H b=none)->Q (.ref q) H'):rB n ti g (Hb K (lr c none)) (wG K el) σ H Q:=by
 refine hti _ fun J F1 H1 w Da Aq=>?_;have hl1:ρ1.length=σ.length:=w.gs.len;have gm:=w.gs.more (n:=n) (τ:=replicate n none) (by simp);have fD:F1 Da=none:=by cases q:F1 Da with|none=>rfl|some o=>rw[w.gs.sub Da o q]at Aq;cases Aq
 have nO:¬ Own (ρ1++replicate n .aZ) (σ++replicate n none) Da:=fun⟨i,⟨t,dt,q1,q2⟩,q3⟩=>by obtain⟨a,ys,z1,z2,_⟩:=gm.own i t dt q1 q2;rw[q3]at z1;cases z1;rw[Aq]at z2;cases z2
 refine⟨fun i mm ys σi Hi=>∃Fi ρi acc as,aO K F1 (ρ1++replicate n .aZ) (σ++replicate n none) H1 Fi ρi σi Hi/\σi.take m=σ/\ys=as.map V.ref/\Hi Da=some (.lst ys)/\Fi Da=none/\¬ Own ρi σi Da/\(Da::as).Nodup/\as.length=acc.length/\(∀(k:Nat)(a:Addr)(ds:List D),as[k]?=some a->acc[k]?=some ds->Wt K Fi ρi σi Hi a ds/\(Own (ρ1++replicate n .aZ) (σ++replicate n none) a\/H1 a=none))/\acc.length<=i/\mm=ds.length-i/\i<=ds.length/\fB is one el (ds.drop i) acc ρi=.ok rows ρ2,⟨_,F1,_,[],[],(aO.refl gm).Du Aq fD nO,by rw[List.take_append_of_le_length (by omega),List.take_of_length_le (by omega)],rfl,aY,fD,nO,by simp,rfl,fun k a ds h=>by simp at h,zero_le _,rfl,zero_le _,e2⟩,?_⟩;rintro i mm ys σi Hi⟨Fi,ρi,acc,as,si,hσ,hys,hD,hF,hO,hnd,hlen,hrow,hacc,rfl,hle,ei⟩;refine⟨hD,?_⟩;have stay:∀{F2 H2:Hp}{ρ3:List Sl}{σ2:L2.St},aO K Fi ρi σi Hi F2 ρ3 σ2 H2->H2 Da=some (.lst ys)/\F2 Da=none/\¬ Own ρ3 σ2 Da:=fun{F2 H2 ρ3 σ2}s=>by have:=(Qj.stp (xs:=ys) ⟨⟨hD,hO⟩,hF⟩ s);exact⟨this.kp.1,this.fr,this.kp.2⟩
 obtain⟨s1,s2⟩:=w.src n i Fi ρi σi Hi si;by_cases hlt:i<ds.length
 . right;have hd:ds[i]?=some ds[i]:=by simp[hlt]
   obtain⟨go,step⟩:=s1 _ hd;refine⟨go,fun x H2 y=>?_⟩;obtain⟨F2,ext,rx⟩:=step x H2 y;have t2:=ext.stp si.gs;rw[drop_eq_getElem_cons hlt,fB]at ei;cases hbd:bW ρi is one ds[i]with|none=>rw[hbd]at ei;cases ei|some ρb=>rw[hbd]at ei;obtain⟨re,ρe,ee,ei⟩:=ak ei;cases re with|val _=>cases ei|own rw0=>
     replace ei:fB is one el (ds.drop (i+1)) (acc++[rw0]) ρe=.ok rows ρ2:=ei;refine hgo x _ F2 ρi ρb σi H2 _ t2.gs rx hbd fun σ2 sb htk=>?_;have t3:=t2.trans sb;refine⟨F2,ρb,true,ρb,t3.gs,by rw[lr],fun F4 H4 s4=>?_⟩;have t4:=t3.trans s4;refine(show wG K el σ2 H4 _ from⟨F4,ρb,.own rw0,ρe,t4.gs,ee,fun v F5 H5 s5 rr=>?_⟩);have t6:=t4.trans s5;obtain⟨y1,y2,y3⟩:=stay t6;obtain⟨z1,z2,z3⟩:=stay t4;have hlen2:ys.length<sizeLine:=by have h2:lim=sizeLine:=rfl;rw[hys,length_map];omega
     obtain⟨A,xs,rfl,a1,a2,a3,a4,a5⟩:=rr;have nDA:A≠Da:=by
      rintro rfl;rcases a5 with z|z;.exact z3 z
      .rw[z1]at z;cases z
     have nA:A∉as:=fun hA=>by
      obtain⟨k0,hk0⟩:=List.getElem?_of_mem hA;have hl0:k0<acc.length:=by rw[<-hlen];exact(List.getElem?_eq_some_iff.mp hk0).1
      obtain⟨⟨zs,k1,_⟩,_⟩:=(hrow k0 A acc[k0] hk0 (by simp[hl0])).1.stp t4;rcases a5 with z|z;.exact k1.2 z
      .rw[k1.1]at z;cases z
     have fA:Own (ρ1++replicate n .aZ) (σ++replicate n none) A\/H1 A=none:=by
      have t:=si.trans t4;rcases a5 with z|z;.exact t.uX A z
      .exact t.since z
     refine⟨y1,hlen2,_,by omega,F5,ρe,acc++[rw0],as++[A],(si.trans t6).Du Aq y2 y3,htk.trans hσ,by rw[hys];simp,aY,y2,y3,?_,by simp[hlen],fun k0 a0 ds0 h1 h2=>?_,by simp;omega,rfl,hlt,ei⟩
     . rw[<-List.cons_append,nodup_append];refine⟨hnd,by simp,fun p hp r hr=>?_⟩;simp at hr;subst hr;rcases mem_cons.mp hp with rfl|hp;.exact fun z=>nDA z.symm
       .rintro rfl;exact nA hp
     . by_cases hk0:k0<as.length
       . rw[getElem?_append_left hk0]at h1;rw[getElem?_append_left (by omega)]at h2;obtain⟨w0,f0⟩:=hrow k0 a0 ds0 h1 h2;obtain⟨⟨zs,k1,r1⟩,g1⟩:=w0.stp t6;have na:a0≠Da:=by rintro rfl;exact(nodup_cons.mp hnd).1 (mem_of_getElem? h1)
         exact⟨⟨⟨zs,⟨by rw[aD na];exact k1.1,k1.2⟩,r1⟩,g1⟩,f0⟩
       . rw[getElem?_append_right (by omega)]at h1;rw[getElem?_append_right (by omega)]at h2;have:k0-as.length=0:=by have:=(List.getElem?_eq_some_iff.mp h1).1;simp at this;exact this
         rw[this]at h1;rw[<-hlen,this]at h2;cases h1;cases h2;exact⟨⟨⟨xs,⟨by rw[aD nDA];exact a1,a4⟩,a3⟩,a2⟩,fA⟩
 . left;have hdr:ds.drop i=[]:=by rw[drop_eq_nil_iff];omega
   rw[hdr,fB]at ei;cases ei;refine⟨s2 (by omega),?_⟩;have hst:σi.take ρ1.length=σ:=by rw[hl1,hm];exact hσ
   obtain⟨l1,l2⟩:=aO.less (m:=ρ1.length) rfl w.gs (by simp) si;rw[hst]at l1;obtain⟨z1,z2⟩:=w.fin _ _ _ _ l1--the outer list:with nothing in it,it is like any new one
   have si':=si.Du (o:=.lst []) Aq hF hO;obtain⟨l1',T7⟩:=aO.less (m:=ρ1.length) rfl w.gs (by simp) si';rw[hst]at l1';obtain⟨z1',z2'⟩:=w.fin _ _ _ _ l1';have rr:cL K Fi ρ2 σi (upd Hi Da (.lst [])) (ρ1++replicate n .aZ) (σ++replicate n none) H1 (.ref Da) (.own []):=⟨Da,[],rfl,aY,hF,.nil,hO,.inr Aq⟩;have M8:=T7 _ _ rr;rw[hst]at M8;obtain⟨_,_,q0,_,q3,_,q5,q6⟩:=z2' _ _ M8;cases q0;have rws:∀(k:Nat)(a:Addr)(ds:List D),as[k]?=some a->rows[k]?=some ds->Wt K Fi (ul (ρ2.take ρ1.length)) σ Hi a ds/\(Own ρ σ a\/H a=none):=fun k a ds h1 h2=>by obtain⟨⟨⟨xs,k1,r1⟩,f1⟩,f2⟩:=hrow k a ds h1 h2;have rr:cL K Fi ρ2 σi Hi (ρ1++replicate n .aZ) (σ++replicate n none) H1 (.ref a) (.own ds):=⟨a,xs,rfl,k1.1,f1,r1,k1.2,f2⟩;have M8:=l2 _ _ rr;rw[hst]at M8;obtain⟨a',xs',q0,q2,q3,q4,q5,q6⟩:=z2 _ _ M8;cases q0;exact⟨⟨⟨xs',⟨q2,q5⟩,q4⟩,q3⟩,q6⟩
   refine k Da as Fi Hi z1 ⟨⟨by rw[hD,hys],q5⟩,q3⟩ hnd hlen (fun k a ds h1 h2=>(rws k a ds h1 h2).1) fun b hb=>?_;rcases mem_cons.mp hb with rfl|hb;.exact q6
   . obtain⟨k0,hk0⟩:=List.getElem?_of_mem hb;have hl0:k0<rows.length:=by rw[<-hlen];exact(List.getElem?_eq_some_iff.mp hk0).1
     exact(rws k0 b rows[k0] hk0 (by simp[hl0])).2
section
variable{X:Cx}{c:Call}{nn n:Nat}{tg iter elt:Expr}{ps pe:P}{pos:Pos}{sts:List Stmt}{ss:List S}{scope:Scope}{N':List Str}
theorem Jb{i:Nat}{x:Str}{pos' spos:Pos}{g:TG}{is:List Nat}{one:Bool}(hc:X.calm=true)(hN:X.N.Nodup)(hx0:X.N[i]?=some x)(hx:Loc X.env.scope x)(ok:fj X scope N' n)(hi:SI X c tg iter ps)(hg:∀cl C s₀ H₀ ex,PG (rQ X scope N' cl C s₀ H₀ ex) tg g)(hgo:nC X.K X.N.length is one g)(ht:∀cl C s₀ H₀ ex,SQ (rQ X scope N' cl C s₀ H₀ ex) c [] none)(he:∀cl C s₀ H₀ ex,SX (rQ X scope N' cl C s₀ H₀ ex) c elt pe)(hT:Xe X c nn i sts ss)(hsw:swapsWith (.ListComp elt [⟨tg,iter,[],0⟩] scope pos) (some (.Name x pos')) spos.line X.env=pure true:=by rfl)(hs:∀x,foldedSetIterable iter X.env x=pure x:=by intro _;rfl)(hf:X.fn x=true\/X.env.scope.names.lookup x=some .local:=by first|exact .inl rfl|exact .inr rfl|assumption):SB X c nn (.Assign [.Name x pos'] (.ListComp elt [⟨tg,iter,[],0⟩] scope pos) spos::sts) (.Hv i ps n is one pe::ss):=by
 have h0:=zA (tt:=Hb X.K (lr c none)) (te:=wG X.K (HH.ev c pe)) hc hN hx0 hx ok hi hg ht (fun cl C s₀ H₀ ex=>(he cl C s₀ H₀ ex).ev) hsw hs hf;refine fun pins s σ H D I q=>lD h0 hT.p pins s σ H D I ?_;have hl:σ.length=X.N.length:=I.len;obtain⟨F,ρ,fl,ρ',g0,e,kk⟩:=q;rw[gj]at e;obtain⟨f1,ρ9,e1,e⟩:=ak e;rw[HH.X17]at e1;obtain⟨ds,ρ1,e2,e1⟩:=ak e1;split at e1;.rename_i hlim;obtain⟨rows,ρ2,e3,e1⟩:=ak e1;obtain⟨ρ3,ρ3',e4,e1⟩:=ak e1;cases e1;have zz:=aF e4;clear e4;obtain⟨e4,_⟩:=zz;obtain⟨s1,h1,h2,rfl⟩:=Dt e4;refine(show rB n (tIt X.K (isVar ps) (HH.ev c ps)) g (Hb X.K (lr c none)) (wG X.K (HH.ev c pe)) σ H (fun v H1=>jh i v σ H1 (Vx X.K i (gj c nn ss) D))from GD (c:=c) (ul:=bC ρ (isVar ps)) hl hgo (fun R h=>⟨F,ρ,ds,ρ1,g0,e2,h⟩) hlim e3 fun q as F' H' s wq nd len row fr=>?_);exact⟨F,ρ,σ,H,F',_,q,as,rows,fl,ρ',NB.mk' s h1 h2 wq nd len row fr,e,fun F2 σ2 H2 s2=>kk F2 σ2 H2 s2⟩
 .cases e1
end
end HH
end
section
namespace HH
open PySem L2 PySem.Spec PyProof.Rows PySem.Calls PySem.W
section
variable{K:PySem.W.Frag}{F F1 H H1:Hp}{ρ ρ1 ρ2:List Sl}{σ σ1:L2.St}
theorem GS.abH{x:Nat}{kvs kvs':List (Int×D)}{a:Addr}{o':HO}(g:GS K F ρ σ H)(e:ρ[x]?=some (.dh kvs))(hx:σ[x]?=some (some (.ref a)))(r:jR K F o' (.v kvs')):aO K F ρ σ H F (ρ.set x (.dh kvs')) σ (upd H a o'):=by
 have hi:x<ρ.length:=(List.getElem?_eq_some_iff.mp e).1;have oa:bB ρ σ x a:=⟨⟨_,_,e,rfl⟩,hx⟩;obtain⟨a',o0,h1,h2,h3,h4⟩:=g.own x _ _ e rfl;rw[hx]at h1;cases h1;have old:∀{j:Nat}{c:Addr},bB (ρ.set x (.dh kvs')) σ j c->bB ρ σ j c:=fun{j c}⟨⟨t,dt,q1,q2⟩,q3⟩=>by
  by_cases hj:j=x;.subst hj;exact⟨⟨_,_,e,rfl⟩,q3⟩
  .rw[getElem?_set_ne (Ne.symm hj)]at q1;exact⟨⟨t,dt,q1,q2⟩,q3⟩
 refine⟨⟨fun c o q=>?_,by simp[g.len],fun j b' d q=>?_,fun j t dt q q'=>?_,fun j k c q1 q2=>g.dis j k c (old q1) (old q2)⟩,.refl _,fun c n n'=>absurd n n',fun c o q n=>?_,fun c⟨j,q⟩=>.inl ⟨j,old q⟩,by simp,fun j t q l=>⟨rfl,?_⟩⟩
 . have:c≠a:=by rintro rfl;rw[h3]at q;cases q
   rw[aD this];exact g.sub c o q
 . by_cases hj:j=x;.subst hj;rw[getElem?_set_self hi]at q;cases q
   .rw[getElem?_set_ne (Ne.symm hj)]at q;exact g.val j b' d q
 . by_cases hj:j=x;.subst hj;rw[getElem?_set_self hi]at q;cases q;cases q';exact⟨a,_,hx,aY,h3,r⟩
   . rw[getElem?_set_ne (Ne.symm hj)]at q;obtain⟨c,zs,w1,w2,w3,w4⟩:=g.own j t dt q q';have:c≠a:=by rintro rfl;exact hj (g.dis j x c ⟨⟨t,dt,q,q'⟩,w1⟩ oa)
     exact⟨c,zs,w1,by rw[aD this];exact w2,w3,w4⟩
 . have:c≠a:=by rintro rfl;exact n ⟨x,oa⟩
   rw[aD this];exact q
 . by_cases hj:j=x;.subst hj;rw[e]at q;cases q;cases l
   .exact⟨t,by rw[getElem?_set_ne (Ne.symm hj)];exact q,.refl t⟩
theorem GS.newV{i:Nat}{kvs:List (Int×D)}{a:Addr}{o':HO}{s0:Sl}(g:GS K F ρ σ H)(e:ρ[i]?=some s0)(hl0:um s0=false)(r:jR K F o' (.v kvs))(ha:H a=none):aO K F ρ σ H F (ρ.set i (.dh kvs)) (σ.set i (some (.ref a))) (upd H a o'):=by
 have hi:i<ρ.length:=(List.getElem?_eq_some_iff.mp e).1;have hi':i<σ.length:=by rw[<-g.len];exact hi
 have fa:F a=none:=by cases q:F a with|none=>rfl|some o=>rw[g.sub a o q]at ha;cases ha
 have old:∀{j:Nat}{c:Addr},j≠i->bB (ρ.set i (.dh kvs)) (σ.set i (some (.ref a))) j c->bB ρ σ j c:=fun{j c}hj⟨⟨t,ds,e1,e2⟩,e3⟩=>by rw[getElem?_set_ne (Ne.symm hj)]at e1 e3;exact⟨⟨t,ds,e1,e2⟩,e3⟩
 have new:∀{c:Addr},bB (ρ.set i (.dh kvs)) (σ.set i (some (.ref a))) i c->c=a:=fun{c}⟨_,e3⟩=>by rw[getElem?_set_self hi']at e3;cases e3;rfl
 have no:∀{j:Nat},¬ bB ρ σ j a:=fun{j}⟨⟨t,ds,e1,e2⟩,e3⟩=>by obtain⟨c,o,q1,q2,_⟩:=g.own j t ds e1 e2;rw[e3]at q1;cases q1;rw[ha]at q2;cases q2
 refine⟨⟨fun c o q=>?_,by simp[g.len],fun j b' d q=>?_,fun j t dt q q'=>?_,fun j k c q1 q2=>?_⟩,.refl _,fun c n n'=>absurd n n',fun c o q n=>?_,fun c⟨j,q⟩=>?_,by simp,fun j t q l=>?_⟩
 . have:c≠a:=by rintro rfl;rw[fa]at q;cases q
   rw[aD this];exact g.sub c o q
 . by_cases hj:j=i;.subst hj;rw[getElem?_set_self hi]at q;cases q
   .rw[getElem?_set_ne (Ne.symm hj)]at q ⊢;exact g.val j b' d q
 . by_cases hj:j=i;.subst hj;rw[getElem?_set_self hi]at q;cases q;cases q';exact⟨a,_,getElem?_set_self hi',aY,fa,r⟩
   . rw[getElem?_set_ne (Ne.symm hj)]at q ⊢;obtain⟨c,o,w1,w2,w3,w4⟩:=g.own j t dt q q';have:c≠a:=by rintro rfl;rw[ha]at w2;cases w2
     exact⟨c,o,w1,by rw[aD this];exact w2,w3,w4⟩
 . by_cases hj:j=i
   . by_cases hk:k=i;.rw[hj,hk]
     .subst hj;rw[new q1]at q2;exact absurd (old hk q2) no
   . by_cases hk:k=i;.subst hk;rw[new q2]at q1;exact absurd (old hj q1) no
     .exact g.dis j k c (old hj q1) (old hk q2)
 . have:c≠a:=by rintro rfl;rw[ha]at q;cases q
   rw[aD this];exact q
 . by_cases hj:j=i;.subst hj;rw[new q];exact .inr ha
   .exact .inl ⟨j,old hj q⟩
 . have hj:j≠i:=by rintro rfl;rw[e]at q;cases q;rw[hl0]at l;cases l
   exact⟨by rw[getElem?_set_ne (Ne.symm hj)],t,by rw[getElem?_set_ne (Ne.symm hj)];exact q,.refl t⟩
end
section
variable{X:Cx}{c:Call}{n:Nat}{a b e:Expr}{pa pb p:P}{pos:Pos}
theorem Ag{i:Nat}{x:Str}{pos' p2:Pos}(hN:X.N.Nodup)(hi:X.N[i]?=some x)(hx:Loc X.env.scope x)(hs:swapsWith (.Dict [] [] p2) (some (.Name x pos')) pos.line X.env=pure false:=by rfl)(hf:X.fn x=true\/X.env.scope.names.lookup x=some .local:=by first|exact .inl rfl|exact .inr rfl|assumption):SS X c n (.Assign [.Name x pos'] (.Dict [] [] p2) pos) (.Cz i):=by
 refine fC (GF hN hi hx CV hs hf) ?_;rintro D σ H⟨F,ρ,fl,ρ',g,e,k⟩;rw[HH.X21]at e;have go:∀s0,ρ[i]?=some s0->um s0=false->fl=.next->ρ'=ρ.set i (.dh [])->∀a,H a=none->D.nx (σ.set i (some (.ref a))) (upd H a (.dK [])):=fun s0 q hl hfl hρ a ha=>by subst hfl hρ;exact k F _ _ (g.newV (kvs:=[]) q hl (KR.oc .nil) ha)
 split at e;.rename_i q;cases e;exact go _ q rfl rfl rfl
 .rename_i q;cases e;exact go _ q rfl rfl rfl
 .rename_i q;cases e;exact go _ q rfl rfl rfl
 .cases e
theorem tE{i:Nat}{x:Str}{px pos':Pos}{pk:P}(hu:X.A.units+8<cLine)(hN:X.N[i]?=some x)(hv:zW X.env.scope x)(ha:SX X c a pk)(he:SX X c e p)(hs:swapsWith e (some (.Subscript (.Name x px) a pos')) pos.line X.env=pure false:=by rfl)(hd:(x==("__debug__":Str))=false:=by decide)(hcd:(x==("__classdict__":Str))=false:=by decide):SS X c n (.Assign [.Subscript (.Name x px) a pos'] e pos) (.jn i pk p):=by
 obtain⟨ta,h1,h2⟩:=ha.dm;refine fC (Je (by omega) (gO hN hv hd hcd) h1 he.ev hs) ?_;rintro D σ H⟨F,ρ,fl,ρ',g,e,k⟩;rw[HH.X22]at e;obtain⟨r,ρ1,e1,eA⟩:=ak e;clear e;refine⟨F,ρ,r,ρ1,g,e1,fun v F1 H1 s1 rr=>?_⟩;obtain⟨F2,s2,_,rp⟩:=s1.cU rr;split at eA
 . rename_i acP q0;obtain⟨kd,ρ2,e2,eB⟩:=ak eA;clear eA;obtain⟨a0,o0,w1,w2,w3,w4⟩:=s2.gs.own i _ _ q0 rfl;refine⟨.ref a0,w1,h2 s2.gs e2 fun y F3 H3 s3 py=>?_⟩;split at eB
   . rename_i kvs j q;split at eB;.rename_i hl;cases eB;obtain⟨a1,o1,y1,y2,y3,y4⟩:=s3.gs.own i _ _ q rfl;rw[w1]at y1;cases y1;obtain⟨es,rfl,kr⟩:=KR.Rq y4;have kr2:=kr.put (k:=j) (rp.mono s3.cB);refine⟨a0,upd H3 a0 (.dK (putK es (Sum.inl j:Key) v)),rfl,?_,k F3 σ _ ((s2.trans s3).trans (s3.gs.abH q w1 kr2.oc))⟩;rw[py.int];exact .inl ⟨es,Sum.inl j,y2,rfl,by rw[kr.len,sizeLine_eq];exact hl,rfl⟩
     .cases eB
   .cases eB
 .cases eA
theorem yC{i:Nat}{x:Str}{px:Pos}{pk:P}(hu:X.A.units+8<cLine)(hN:X.N[i]?=some x)(hv:zW X.env.scope x)(ha:SX X c a pk)(hs:Ie a)(hd:(x==("__debug__":Str))=false:=by decide)(hcd:(x==("__classdict__":Str))=false:=by decide):SX X c (.Subscript (.Name x px) a pos) (.M4 i pk):=by
 obtain⟨ta,h1,h2⟩:=ha.dm;refine⟨eU (KC (by omega) (gO hN hv hd hcd) h1 hs) ?_,fun i h=>by cases h⟩;rintro σ H Q⟨F,ρ,r,ρ',g,e,k⟩;rw[HH.E24]at e;split at e
 . rename_i acP q;obtain⟨kd,ρ1,e1,eA⟩:=ak e;clear e;obtain⟨a0,o0,w1,w2,w3,w4⟩:=g.own i _ _ q rfl;refine⟨.ref a0,w1,h2 g e1 fun v F1 H1 s1 pv=>?_⟩;split at eA;.rename_i kvs q1;obtain⟨eC,e3⟩:=aF eA;clear eA;subst e3;obtain⟨j,e4,eD⟩:=cz eC;clear eC;obtain⟨d,e5,e6⟩:=map_some eD;subst e6;rw[cX e4]at pv;obtain⟨a1,o1,y1,y2,y3,y4⟩:=s1.gs.own i _ _ q1 rfl;rw[w1]at y1;cases y1;obtain⟨es,rfl,kr⟩:=KR.Rq y4;obtain⟨v',g1,g2⟩:=kr.get e5;rw[pv.int];exact⟨a0,v',rfl,.inl ⟨es,Sum.inl j,.inl y2,rfl,g1.symm⟩,k v' F1 H1 s1 (show Rep X.K F1 _ _ from g2)⟩
   .cases eA
 .cases e
theorem OJ{i:Nat}{x:Str}{px:Pos}{pk:P}{neg:Bool}{op:CmpOp}(hop:(op=.In/\neg=false)\/(op=.NotIn/\neg=true))(hu:X.A.units+8<cLine)(hN:X.N[i]?=some x)(hv:zW X.env.scope x)(ha:SX X c a pk)(hd:(x==("__debug__":Str))=false:=by decide)(hcd:(x==("__classdict__":Str))=false:=by decide):PC X op a (.Name x px) (wG X.K (HH.ev c (.M5 i pk neg))):=by
 obtain⟨ta,h1,h2⟩:=ha.dm;have main:∀{σ:L2.St}{H:Hp}{Q:VK},wG X.K (HH.ev c (.M5 i pk neg)) σ H Q->ta σ H fun y H1=>O6 i σ H1 fun x H2=>∃a o,x=.ref a/\pA H2 a y o/\Q (.bl (if neg then !o.isSome else o.isSome)) H2:=fun{σ H Q}⟨F,ρ,r,ρ',g,e,k⟩=>by
  rw[HH.E25]at e;obtain⟨kd,ρ1,e1,eA⟩:=ak e;clear e;refine h2 g e1 fun v F1 H1 s1 pv=>?_;split at eA;.rename_i kvs q1;obtain⟨eC,e3⟩:=aF eA;clear eA;subst e3;obtain⟨j,e4,e5⟩:=map_some eC;subst e5;rw[cX e4]at pv;obtain⟨a1,o1,y1,y2,y3,y4⟩:=s1.gs.own i _ _ q1 rfl;obtain⟨es,rfl,kr⟩:=KR.Rq y4;rw[pv.int];refine⟨.ref a1,y1,a1,_,rfl,.inl ⟨es,Sum.inl j,.inl y2,rfl,rfl⟩,?_⟩;rw[kr.has j];exact k _ F1 H1 s1 (show Rep X.K F1 _ _ from gf _)
  .cases eA
 rcases hop with⟨rfl,rfl⟩|⟨rfl,rfl⟩;.exact fun pins s σ H Q I h=>Qo (by omega) h1 (gO hN hv hd hcd) pins s σ H Q I (main h)
 .exact fun pins s σ H Q I h=>Bp (by omega) h1 (gO hN hv hd hcd) pins s σ H Q I (main h)
end
theorem jo{P:Program}{w:World}:∀{ks:List Int}{es:List (Key×V)}{vs:List (Key×Value)}{acc:List Value},es.map (·.1)=ks.map (Sum.inl:Int->Key)->KV es vs->acc.length=vs.length->(∀(j:Nat)(v:Value),acc[j]?=some v->∃(k:Key)(x:Value),vs[j]?=some (k,x)/\(bN P w).is k v=true)->IntsAre acc ks
 |[],es,_,acc,he,r,h,_=>by cases es with
   |nil=>cases r;cases acc with|nil=>exact .nil|cons _ _=>simp at h
   |cons _ _=>simp at he
 |i::ks,es,_,acc,he,r,h,k=>by cases es with|nil=>simp at he|cons p es=>cases r with|@cons _ q _ _ r t=>rw[map_cons,map_cons]at he;cases acc with|nil=>simp at h|cons v acc=>
         obtain⟨k',x,e1,e2⟩:=k 0 v rfl;simp at e1;have e3:k'=Sum.inl i:=by have z:=r.1;rw[e1]at z;rw[<-(List.cons.inj he).1];exact z.symm
         subst e3;obtain⟨i',tk,e4,rfl⟩|⟨_,_,e4,_⟩:=bO (show pZ (Sum.inl i) v=true from e2);.cases e4;exact .cons _ tk (jo (List.cons.inj he).2 t (by simpa using h) fun j v e=>k (j+1) v (by simpa using e))
         .cases e4
section
variable{X:Cx}{c:Call}{n:Nat}{a b e:Expr}{pa pb p:P}{pos:Pos}
theorem Vz(hc:X.calm=true):dN X (.type "list") (J1 X.K fun x=>blt .T4 [x]):=by rintro pins s σ H xs us Q I r⟨x,hx,F,d,r',sm,px,he,k⟩;cases d with|dv ks ds=>
   obtain⟨hle,he⟩:=bu (show(if ks.length<=16777216 then some (R.own (ks.map D.int))else none)=some r' from he);subst he;obtain⟨q,ob,Uc,rfl,hq,rs,hl⟩:=px.dv sm;subst hx;obtain⟨u,rfl,rx⟩:=r.one;cases rx;obtain⟨ho,hz,hS,vs,rv,dd⟩:=(show bR X.prog X.w H s.heap q (.cU ob (.dK (ent ks Uc)))from I.hok q _ hq);obtain⟨ep,dd⟩:=dd.dictAt;have hk:=lL (ks:=ks) (vs:=Uc) (by rw[rs.length];exact hl);have hlv:vs.length=ks.length:=by rw[<-Paired.length rv];have:=congrArg List.length hk;simpa using this
   refine kdl_call (kdl_dict (knd:=bN X.prog X.w) (kvs:=vs) (ep:=ep) hS) (I.ok.hd hc) dd (by rw[hlv,sizeLine_eq];omega) fun h' tk acc c' kp hD hacc=>?_;have ia:IntsAre acc.toList ks:=jo (P:=X.prog) (w:=X.w) hk rv (by rw[length_toList];exact hacc.1) fun j v e=>hacc.2 j v (by rw[<-getElem?_toList];exact e);refine⟨.ref s.heap.objs.size,_,I.laid (t':=tk) (o:=.lst (ks.map V.int)) (h':=h') kp (le_refl _) ⟨by rw[length_map,sizeLine_eq];omega,acc.toList,c',fG ia,by rw[Array.toArray_toList];exact hD⟩,rfl,?_⟩;exact v7 sm (jL ks) (I.hok.fresh (le_refl _)) k|_=>cases he
theorem Ft{x:Str}{p':Pos}(hx:x="list")(hc:X.calm=true)(hg:Gl X x)(hm:X.mg x=none)(ha:SX X c a pa)(hs:starEach [a] X.env=(false,eval a X.env)::starEach [] X.env:=by rfl):SX X c (.Call (.Name x p') [a] [] pos) (.blt .T4 [pa]):=by subst hx;exact nu (fun h=>jK (Vz hc) hg hm (by decide+kernel) h (he:=hs)) ha (fun ρ=>rfl) rfl hs
theorem DQ(hc:X.calm=true):dN X (.builtin "sorted") (J1 X.K fun x=>blt .m8 [x]):=by
 rintro pins s σ H xs us Q I r⟨x,hx,F,d,r',sm,px,he,k⟩
 cases d with|dv ks ds=>
   obtain⟨so,he⟩:=bu (show(if ks.length<64 then some (R.own (kh (ks.map D.int)))else none)=some r' from he);subst he;obtain⟨q,ob,Uc,rfl,hq,rs,hl⟩:=px.dv sm;subst hx;obtain⟨u,rfl,rx⟩:=r.one;cases rx;obtain⟨ho,hz,hS,vs,rv,dd⟩:=(show bR X.prog X.w H s.heap q (.cU ob (.dK (ent ks Uc)))from I.hok q _ hq);obtain⟨ep,dd⟩:=dd.dictAt;have hk:=lL (ks:=ks) (vs:=Uc) (by rw[rs.length];exact hl);have hlv:vs.length=ks.length:=by rw[<-Paired.length rv];have:=congrArg List.length hk;simpa using this
   refine Calls.call_function_entry kind_sorted plain_sorted entry_sorted (args_sorted1 _) ?_;unfold Builtin.«sorted»;refine wpAny_bind (m:=checkCount "sorted" 1 1 _) (wpAny_pure ?_);refine wpAny_bind (ue (A:=X.A.in1) (knd:=bN X.prog X.w) (I.ok.hd hc) hS dd (by rw[hlv,sizeLine_eq];omega) fun h1 tk acc kp hsz hacc=>?_);have ia:IntsAre acc.toList ks:=jo (P:=X.prog) (w:=X.w) hk rv (by rw[length_toList];exact hacc.1) fun j v e=>hacc.2 j v (by rw[<-getElem?_toList];exact e);have hla:acc.toList.length=ks.length:=by rw[IntsAre.length ia]
   generalize acc.toList=its at ia hla;refine wpAny_bind (wpAny_newList ?_ (by rw[sizeLine_eq];omega));have hsz:=le_of_lt hsz;generalize hG:(h1.push {cls:=.type "list",data:=.seq its.toArray}:Heap)=H2;have ho2:H2.get? h1.objs.size=some (seqObj "list" its.toArray 0):=by rw[<-hG];exact get?_push_size _ rfl
   have Hz:∀b o,s.heap.get? b=some o->H2.get? b=some o:=fun b o e=>by rw[<-hG];exact get?_push_of_some _ (kp b o e)
   have hne:∀b o,s.heap.get? b=some o->b≠h1.objs.size:=fun b o e=>ne_of_lt (lt_size (kp b o e));show wpAny _ _ _ _ _ {s with heap:=H2,toks:=tk};refine wpAny_bind (wpAny_holding (wpAny_call_entry slot_list_sort ⟨_,ho2,rfl⟩ entry_list_sort ?body (args_list_sort _)));case body=>
    refine rP (s:={s with heap:=H2,toks:=tk}) ho2 ia (by omega) fun h' cc out is k' i1 p2 l2 e=>⟨_,rfl,wpAny_pure ⟨_,rfl,?_⟩⟩;have kk:∀b o,s.heap.get? b=some o->h'.get? b=some o:=fun b o z=>k' b o (hne b o z) (Hz b o z);refine⟨.ref h1.objs.size,_,I.laid (t':=tk) (o:=.lst (is.map V.int)) (h':=h') kk hsz ⟨by rw[length_map,l2,sizeLine_eq];omega,out,cc,fG i1,e⟩,rfl,?_⟩;have rs2:aG X.K F (is.map V.int) (kh (ks.map D.int)):=by rw[p2];exact jL is
    exact v7 sm rs2 (I.hok.fresh hsz) k|_=>cases he
theorem Cq{x:Str}{p':Pos}(hx:x="sorted")(hc:X.calm=true)(hg:Gl X x)(hm:X.mg x=none)(ha:SX X c a pa)(hs:starEach [a] X.env=(false,eval a X.env)::starEach [] X.env:=by rfl):SX X c (.Call (.Name x p') [a] [] pos) (.blt .m8 [pa]):=by subst hx;exact nu (fun h=>eX (DQ hc) hg hm boot_sorted h (he:=hs)) ha (fun ρ=>rfl) rfl hs
theorem J8{neg:Bool}{op:CmpOp}(hop:(op=.In/\neg=false)\/(op=.NotIn/\neg=true))(hu:X.A.units+8<cLine):dU X (compareOp op) (rD X.K (vY neg)):=by rintro pins s σ H x y v u Q I rx ry⟨F,d,e,r,sm,px,py,he,k⟩;cases d with
 |int j=>cases e with|dv ks ds=>
     cases he;obtain⟨q,ob,vs,rfl,hq,rs,hl⟩:=py.dv sm;have kr:=KR.zip rs hl;rw[px.int]at rx;obtain rfl:u=Value.ref q:=ry;have g:pA H q (.int j) (jc (ent ks vs) (Sum.inl j:Key)):=.inl ⟨_,Sum.inl j,.inr ⟨ob,hq⟩,rfl,rfl⟩;have hh:(jc (ent ks vs) (Sum.inl j:Key)).isSome=ks.contains j:=by rw[kr.has j];congr 1;rw[List.map_fst_zip (by omega)]
     rcases hop with⟨rfl,rfl⟩|⟨rfl,rfl⟩;.refine V3 (by omega) I g rx fun s3 I3=>⟨.bl (jc (ent ks vs) (Sum.inl j:Key)).isSome,H,I3,rfl,?_⟩;rw[hh];exact cA.dj sm (gf _) k
     .refine zY (by omega) I g rx fun s3 I3=>⟨.bl (!(jc (ent ks vs) (Sum.inl j:Key)).isSome),H,I3,rfl,?_⟩;rw[hh];exact cA.dj sm (gf _) k|_=>cases he
 |_=>cases he
end
end HH
end
section
namespace PySem
section
variable{prog:Program}{w:World}{A:Around}{E:Value->Shared->Prop}{s:Shared}
theorem uo{Q:List Value->Shared->Prop}{I l:Addr}{items:Array Value}(hh:A.handled=none)(hit:s.heap.IsRevIter I l ((items.size:Int)-1))(hl:s.heap.IsList l items)(hne:l≠I)(hlen:items.size<=2^24)(hQ:∀h' tk acc,(∀b o,b≠I->s.heap.get? b=some o->h'.get? b=some o)->s.heap.objs.size<h'.objs.size->ItemsOf (fun i v=>items[items.size-1-i]?=some v) acc items.size->Q acc.toList {s with heap:=h',toks:=tk}):
 wpAny (model prog w) A (collect (.ref I)) Q E s:=by have hIlt:I<s.heap.objs.size:=let⟨_,ho,_⟩:=hit;lt_size ho;have acR:l<s.heap.objs.size:=let⟨_,ho,_⟩:=hl;lt_size ho;unfold collect;refine wpAny_bind (wpAny_runValue (codeAny_builtin F.entry_proto_collect ?_));rw[Around.under_plainId F.plain_proto_collect _];show wpAny _ A.in1 (newList []>>=fun l=>again (.builtin "list.__iadd__" ⟨[l,.ref I],[]⟩)) _ _ s;refine wpAny_bind (wpAny_newObj_type ?_);refine wpAny_pure ⟨plainId_quiet F.plain_list_iadd _,codeAny_builtin F.entry_list_iadd ?_⟩;rw[Around.under_plainId F.plain_list_iadd _];show wpAny _ A.in1 (listExtendWith (.ref s.heap.objs.size) (.ref I) (.ref s.heap.objs.size)) _ _ _;refine lC (A:=A) (R:=fun r s'=>match r with
  |.ok (.ret v)=>wpAny (model prog w) A (match v with
   |.ref a=>do let o<-load a match o.data with|.seq xs _=>pure xs.toList|_=>unsupported "internal:collect"
   |_=>unsupported "internal:collect") Q E s'|.ok _=>False|.error e=>E e s') (s:={s with heap:=s.heap.push {cls:=.type "list",data:=.seq #[]}}) hh (hit.at fun o e=>get?_push_of_some _ e) (hl.at fun o e=>get?_push_of_some _ e) hne hlen s.heap.objs.size (Ne.symm (ne_of_lt hIlt)) (Ne.symm (ne_of_lt acR)) _ 0 (get?_push_size _ rfl) fun h' tk acc c' hk hS hacc=>?_;refine wpAny_bind (wpAny_load hS ?_);exact wpAny_pure (hQ h' tk acc (fun b o hb e=>hk b o (ne_of_lt (lt_size e)) hb (get?_push_of_some _ e)) (lt_size hS) hacc)
end
theorem jf(I l:Addr)(items:Array Value)(hne:l≠I)(hsz:items.size<=2^24):Meets (Builtin.«tuple.__new__» ⟨[.type "tuple",.ref I],[]⟩) (fun A R s=>A.handled=none/\s.heap.IsRevIter I l ((items.size:Int)-1)/\s.heap.IsList l items/\∀(h':Heap)(tk:Nat),(∀b o,b≠I->s.heap.get? b=some o->h'.get? b=some o)->s.heap.objs.size<h'.objs.size->∀acc:Array Value,acc=items.reverse->R (.ok (.ret (.ref h'.objs.size))) {s with heap:=h'.push {cls:=.type "tuple",data:=.seq acc},toks:=tk}):=.of_wp fun prog w A R s h=>by
  obtain⟨hh,hit,hl,h⟩:=h;have hsub:=sub_tuple_self;have hinit:=init_tuple_lookup;have hmh:=madeHere_tuple;have hT:Shared.TypeIs s (.ref I) "list_reverseiterator":=hit.typeIs;obtain⟨o,ho,hc,hd⟩:=id hit;obtain⟨hp,g,d,tk,os⟩:=s;wp_walk using AutoSeq1.wpAny_loadPart' ho,wpAny_typeOf hT,uo (A:=A.in1) hh hit hl hne hsz;intro h' tk' acc hk hlt hacc;show wpAny _ _ (tupleExact acc.toList.toArray>>=fun v=>ret v) _ _ _;have e:acc.toList.toArray=acc:=by simp
  have er:acc=items.reverse:=by refine Array.ext (by rw[hacc.1,Array.size_reverse]) fun j h1 h2=>?_;have:=hacc.2 j _ (Array.getElem?_eq_getElem h1);rw[Array.getElem_reverse];have h3:=Array.getElem?_eq_some_iff.mp this;exact h3.2.symm
  rw[e];unfold tupleExact;refine wpAny_bind (wpAny_newObj_type ?_ (by show acc.size<=sizeLine;rw[hacc.1,sizeLine_eq];omega));exact wpAny_pure ⟨_,rfl,h h' tk' hk hlt acc er⟩
section
variable{prog:Program}{w:World}{A:Around}{E:Value->Shared->Prop}{s:Shared}
theorem nH{I l:Addr}{items:Array Value}{Q:Value->Shared->Prop}(hh:A.handled=none)(hit:s.heap.IsRevIter I l ((items.size:Int)-1))(hl:s.heap.IsList l items)(hne:l≠I)(hsz:items.size<=2^24)(h:∀(h':Heap)(tk:Nat),(∀b o,b≠I->s.heap.get? b=some o->h'.get? b=some o)->s.heap.objs.size<h'.objs.size->Q (.ref h'.objs.size) {s with heap:=h'.push {cls:=.type "tuple",data:=.seq items.reverse},toks:=tk}):wpAny (model prog w) A (call (.type "tuple") [.ref I]) Q E s:=callType_new F.called_tuple (by decide) (F.typeCall_tuple_1 _) (F.newCall_tuple_1 _) (fun obj=>F.args_object_init_2 obj _) F.entry_tuple_new (jf I l items hne hsz) ⟨hh,hit,hl,fun h' tk hk hlt acc e=>by subst e;exact⟨⟨_,get?_push_size _ rfl,rfl⟩,h h' tk hk hlt⟩⟩
end
end PySem
namespace L2
open PySem PySem.Spec PyProof.Rows
section
variable{X:Cx}{pins:List (Addr×Obj)}{σ:St}{H:Hp}{s:Shared}{E:Value->Shared->Prop}
theorem ym{a:Expr}{ta:TE}{p pos p2 pos2:Pos}(hc:X.calm=true)(hgL:Gl X "tuple")(hmL:X.mg "tuple"=none)(hg:Gl X "reversed")(hm:X.mg "reversed"=none)(ha:PE X a ta)(hs:starEach [a] X.env=[(false,eval a X.env)]:=by rfl)(hs2:starEach [.Call (.Name "reversed" p) [a] [] pos] X.env=[(false,eval (.Call (.Name "reversed" p) [a] [] pos) X.env)]:=by rfl):PE X (.Call (.Name "tuple" p2) [.Call (.Name "reversed" p) [a] [] pos] [] pos2) (fun σ H Q=>ta σ H fun x H1=>∃ad xs,x=.ref ad/\dI X.K H1 ad xs/\∀l,H1 l=none->Q (.ref l) (upd H1 l (.tup xs.reverse))):=by
 intro pins s σ H Q I h;refine Call_ (iK I hgL hmL vg (PyProof.Rows.callWith_type1 ?_ hs2 rfl));rw[hs2];show wpAny _ _ (spliced ((false,eval (.Call (.Name "reversed" p) [a] [] pos) X.env)::[])) _ _ _;refine Calls.spliced_cons (Call_ (iK I hg hm p8 (PyProof.Rows.callWith_type1 (cu ((cg ha dR hs) pos pins s σ H (fun vs H1=>match vs with|[x]=>∃ad xs,x=.ref ad/\dI X.K H1 ad xs/\∀l,H1 l=none->Q (.ref l) (upd H1 l (.tup xs.reverse))|_=>False) I h) ?_) hs rfl)));rintro us s1⟨vs,H1,I1,r1,q1⟩;obtain⟨ad,xs,hq,q,vs1⟩:∃ad xs,dI X.K H1 ad xs/\(∀l,H1 l=none->Q (.ref l) (upd H1 l (.tup xs.reverse)))/\vs=[.ref ad]:=by cases vs with|nil=>cases q1|cons x r=>cases r with|nil=>obtain⟨ad,xs,rfl,q,q'⟩:=q1;exact⟨ad,xs,q,q',rfl⟩|cons _ _=>cases q1
 subst vs1;obtain⟨u,rfl,ru⟩:=r1.one;cases ru;obtain⟨its,rv,pl,hz⟩:=I1.list hq;have hsz:its.toArray.size=xs.length:=by rw[size_toArray,<-rv.length]
 refine call_reversed_list pl.isList (Calls.spliced_nil ?_);have hne:ad≠s1.heap.objs.size:=ne_of_lt (let⟨_,ho,_⟩:=pl.isList;lt_size ho);have hl2:(s1.heap.push (revObj ad ((its.toArray.size:Int)-1))).IsList ad its.toArray:=pl.isList.at fun o e=>get?_push_of_some _ e;refine nH (I1.ok.hd hc) (I:=s1.heap.objs.size) (l:=ad) (items:=its.toArray) ⟨_,get?_push_size _ rfl,rfl,rfl⟩ hl2 hne (by rw[hsz];exact le_trans hz (by decide)) fun h' tk hk hlt=>?_;have hsz2:(s1.heap.push (revObj ad ((its.toArray.size:Int)-1))).objs.size=s1.heap.objs.size+1:=size_push ..;dsimp only at hk hlt ⊢;rw[hsz2]at hlt;have er:its.toArray.reverse=its.reverse.toArray:=by simp
 rw[er];refine⟨.ref h'.objs.size,_,I1.laid (t':=tk) (o:=.tup xs.reverse) (h':=h'.push {cls:=.type "tuple",data:=.seq its.reverse.toArray}) (fun b o e=>get?_push_of_some _ (hk b o (ne_of_lt (lt_size e)) (get?_push_of_some _ e))) (by omega) ?_,rfl,q _ (I1.hok.fresh (by omega))⟩;exact⟨by rw[List.length_reverse];exact hz,_,rv.reverse,IsTup.new _ _⟩
end
end L2
namespace HH
open PySem L2 PySem.Spec PyProof.Rows
section
variable{X:Cx}{c:Call}{a:Expr}{pa:P}{pos:Pos}
theorem yO{x y:Str}{p' q' pos':Pos}(hy:y="tuple")(hx:x="reversed")(hc:X.calm=true)(hgL:Gl X y)(hmL:X.mg y=none)(hg:Gl X x)(hm:X.mg x=none)(ha:SX X c a pa)(hs:starEach [a] X.env=[(false,eval a X.env)]:=by rfl)(hs2:starEach [.Call (.Name x p') [a] [] pos] X.env=[(false,eval (.Call (.Name x p') [a] [] pos) X.env)]:=by rfl):SX X c (.Call (.Name y q') [.Call (.Name x p') [a] [] pos] [] pos') (.blt .Zk [pa]):=by subst hx hy;obtain⟨ta,h1,h2⟩:=ha.dm;refine⟨eU (ym hc hgL hmL hg hm h1 hs hs2) ?_,fun i h=>by cases h⟩;rintro σ H Q⟨F,ρ,r,ρ',g,e,k⟩;rw[HH.E16]at e;obtain⟨d,ρ2,e1,e2⟩:=ak e;have zz:=aF e2;clear e2;obtain⟨e2,e3⟩:=zz;subst e3;cases d with|lst ds=>cases e2;refine h2 g e1 ?_;rintro v F' H' s pv;obtain⟨ad,xs,rfl,hq,rs⟩:=pv.lst s.gs.sub;exact⟨ad,xs,rfl,hq,fun l hl=>vA s.gs.sub (aG.rev rs) hl fun v F2 H2 xt rn=>k v F2 H2 (s.trans (xt.stp s.gs)) (.later s (rn.nY s.gs))⟩|_=>cases e2
end
end HH
end
section
namespace L2
open PySem PySem.Spec PyProof.Rows PySem.Calls
section
variable{X:Cx}
theorem Hd:Vf X (Wn X.K):=by
 intro pins s σ H x y v u Q I rx ry h;obtain⟨p,xs,i,z,rfl,rfl,hq,he,q⟩:=h;cases rx;obtain⟨t,rfl⟩:=ry;obtain⟨its,r,pl,hz⟩:=I.list hq;obtain⟨j,h1,h2,h3,h4,h5⟩:=tG he;obtain⟨w,ew,wU⟩:=r.get h2;have hl:=r.length;have hn:=qG;have fin:EP X pins σ Q w s:=⟨z,H,I,wU,q⟩;by_cases h0:0<=i
 . have hj:i.toNat=j:=by rw[seqIndex_of h0 h5]at h1;exact Option.some.inj h1
   exact wpAny_getItem_list pl.isList h0 (by omega) (by rw[hj];simpa using ew) fin
 . have hj:(i+(its.toArray.size:Int)).toNat=j:=by rw[seqIndex_neg (by omega) h4]at h1;rw[size_toArray,<-hl];exact Option.some.inj h1
   exact wpAny_getItem_list_neg pl.isList (by omega) (by rw[size_toArray]<;>omega) (by omega) (by rw[hj];simpa using ew) fin
end
end L2
namespace HH
open PySem L2 PySem.Spec PyProof.Rows PySem.Calls PySem.W
section
variable{X:Cx}{c:Call}{n:Nat}{a b e:Expr}{pa pb p:P}{pos:Pos}
set_option maxHeartbeats 800000 in
theorem uK{k e:Int}{t1 t2 p1 p2 p3}:SX X c (.Dict [some (.Constant (.int k) t1 p1)] [.Constant (.int e) t2 p2] p3) (.wV k e):=by
 refine⟨?_,fun i h=>by cases h⟩;intro pins s σ H Q I h;obtain⟨F,ρ,r,ρ',g,e',kk⟩:=h;rw[HH.E26]at e';cases e';have em:mH [] [((Sum.inl k:Key),V.int e)]=ent [k] [.int e]:=rfl;have pe:=Ja (X:=X) (pos:=p3) (GK (tY (i:=k) (j:=t1) (pos:=p1)) (tY (i:=e) (j:=t2) (pos:=p2)) Jc) rfl rfl (by simp) (by simp);refine cu (pe pins s σ H (fun v H'=>∃q,v=.ref q/\H q=none/\H'=upd H q (zu [k] [.int e])) I ?_) fun u s1⟨v,H1,I1,r1,q,e1,hn,e2⟩=>?_;.intro q hq;refine⟨aY,[(Sum.inl k,.int e)],rfl,by simp,q,rfl,hq,?_⟩;rw[zX,em];rfl
 subst e1 e2;obtain⟨o,I2⟩:=Inv.Dm I1 (a:=q) (kvs:=ent [k] [.int e]) aY;rw[zX]at I2;have fp:F q=none:=by cases z:F q with|none=>rfl|some o=>rw[g.sub q o z]at hn;cases hn
 have sm:aL F (upd F q (.cU o (zu [k] [.int e]))):=aL.cO fp;refine⟨.ref q,_,I2,r1,kk _ (upd F q (.cU o (zu [k] [.int e]))) _ (Ext.stp g ⟨aL.cO hn,sm,fun b o e=>?_,fun b n n'=>?_⟩) ?_⟩
 . by_cases hb:b=q;.subst hb;rw[aY]at e ⊢;exact e
   .rw[aD hb]at e ⊢;exact g.sub b o e
 . by_cases hb:b=q;.subst hb;exact jE hn
   .rw[aD hb]at n';exact absurd n n'
 .show Rep X.K _ _ (.dv [k] [.int e]);rw[Rep];exact⟨q,o,[.int e],rfl,aY,.cons (bT _) .nil,rfl⟩
theorem Kg{x:Str}{k:Nat}{px tpos:Pos}{op:Operator}{sub:Bool}(ho:Xq X op (ipI fun i j=>if sub then i-j else i+j))(hN:X.N[k]?=some x)(hv:zW X.env.scope x)(hi:SX X c b pb)(he:SX X c e p)(ha:∀ov iv new,augStore b ov iv new=(do holding [new,ov,iv] (setItem ov iv new);release [new,ov,iv] [];pure .next):=by intros;rfl)(hd:(x==("__debug__":Str))=false:=by decide)(hcd:(x==("__classdict__":Str))=false:=by decide):SS X c n (.AugAssign (.Subscript (.Name x px) b tpos) op e pos) (.Hu k pb sub p):=by
 obtain⟨ti,hi1,hi2⟩:=hi.dm;obtain⟨te,W5,he2⟩:=he.dm;refine fC (JD (gO hN hv hd hcd) hi1 Hd W5 ho set_list ha) ?_;rintro D σ H⟨F,ρ,fl,ρ',g,e,kk⟩;rw[HH.X16]at e;obtain⟨x0,ρ0,e0',eA⟩:=ak e;clear e;obtain⟨e0,Hx⟩:=aF e0';clear e0';subst Hx;obtain⟨dk,ρ1,e1,eB⟩:=ak eA;clear eA;obtain⟨l,ρ2,e2',eC⟩:=ak eB;clear eB;obtain⟨e2,e21⟩:=aF e2';clear e2';subst e21;obtain⟨ra,ρ3,e3',eD⟩:=ak eC;clear eC;obtain⟨e3,e31⟩:=aF e3';clear e3';subst e31;obtain⟨db,ρ4,e4,eE⟩:=ak eD;clear eD;obtain⟨o1,xs1,ho1,_⟩:=zx g e0;refine⟨.ref o1,ho1,hi2 g e1 fun vi F1 H1 s1 pi=>?_⟩;split at eE
 . rename_i u v bb ds kz q;split at eE
   . rename_i j hj;cases eE;obtain⟨i0,f3,f5⟩:=cz e3;have hi0:i0=kz:=by cases f3;rfl
     subst hi0;have e2':pk ρ1 k=some (.lst l):=by
      unfold CN at e2;split at e2;.rename_i z;cases e2;exact z
      .cases e2
     obtain⟨o',ho2,po⟩:=s1.gs.pk e2';rw[ho1]at ho2;cases ho2;obtain⟨ad,xs,hr,hL,rs⟩:=po.lst s1.gs.sub;cases hr;obtain⟨j0,h1,h2⟩:=Dr f5;obtain⟨w,h3,h4⟩:=rs.get h2;have hat:Hl xs i0=some w:=by unfold Hl;rw[rs.length,h1];exact h3
     have hw:w=.int u:=by rw[Rep]at h4;exact h4
     subst hw;refine⟨o1,xs,i0,.int u,rfl,pi.int,hL,hat,he2 s1.gs e4 fun vb F2 H2 s2 pb=>⟨u,v,rfl,pb.int,?_⟩⟩;obtain⟨ad2,zs,z1,z2,z3,z4⟩:=s2.gs.qQ k _ ds q rfl;rw[ho1]at z1;cases z1;refine⟨o1,zs,i0,j,rfl,pi.int,z2,by rw[z4.length];exact hj,?_⟩;exact kk F2 σ _ ((s1.trans s2).trans (s2.gs.mut q ho1 (z4.set (bT _) j)))
   .cases eE
 .cases eE
end
section
variable{X:Cx}{c:Call}{n:Nat}{a b e:Expr}{pa pb p:P}{pos:Pos}
theorem Jh{neg:Bool}{o:Op}{op:CmpOp}(hop:(op=.In/\neg=false)\/(op=.NotIn/\neg=true))(hq:oE o=vY neg)(hu:X.A.units+8<cLine)(ha:SX X c a pa)(hb:SX X c b pb)(hm:behindInMarks op b=false):ST X c (.Compare a [op] [b] pos) (.bin o pa pb):=by obtain⟨ta,tb,h1,h2,h3⟩:=ha.gY hb;refine wK (zr (J8 hop hu) h1 h2 hm) fun σ H Q q=>o7 (t:=NP (rD X.K (vY neg)) ta tb) (fun Q z=>?_) q;obtain⟨F,ρ,r,ρ',g,e,k⟩:=z;rw[HH.E3]at e;obtain⟨xy,ρ1,e1,e2⟩:=ak e;have zz:=aF e2;clear e2;obtain⟨e2,e3⟩:=zz;subst e3;rw[hq]at e2;refine h3 g e1 fun v u F' H' s pv pu=>⟨F',xy.1,xy.2,r,s.gs.sub,pv,pu,e2,fun w F2 H2 x rn=>?_⟩;exact k w F2 H2 (s.trans (x.stp s.gs)) (.later s (rn.nY s.gs))
theorem Ny(hu:X.A.units+8<cLine)(ha:SX X c a pa)(hb:SX X c b pb)(hm:behindInMarks .In b=false):ST X c (.Compare a [.In] [b] pos) (.bin .Zj pa pb):=Jh (.inl ⟨rfl,rfl⟩) rfl hu ha hb hm
theorem QH{i:Nat}{x:Str}{px:Pos}{pk:P}{neg:Bool}{op:CmpOp}(hop:(op=.In/\neg=false)\/(op=.NotIn/\neg=true))(hu:X.A.units+8<cLine)(hN:X.N[i]?=some x)(hv:zW X.env.scope x)(ha:SX X c a pk)(hb:behindInMarks op (.Name x px)=false)(hd:(x==("__debug__":Str))=false:=by decide)(hcd:(x==("__classdict__":Str))=false:=by decide):ST X c (.Compare a [op] [.Name x px] pos) (.M5 i pk neg):=wK (PB (OJ hop hu hN hv ha hd hcd) hb) fun σ H Q q=>o7 (fun _ z=>z) q
end
end HH
end
section
set_option maxHeartbeats 4000000
namespace T
open PySem L2 PySem.Spec PyProof.Rows HH
local macro_rules|`(term|nofun)=>`(⟨rfl,rfl,rfl,by decide+kernel,rfl,by decide+kernel,by decide+kernel⟩)
local macro_rules|`(tactic|exists$e)=>`(tactic|with_reducible refine$e)
local macro_rules|`(tactic|lia)=>`(tactic|with_reducible refine aU ?_ ?_)
set_option hygiene false
local macro_rules|`(tactic|exists$i,$e)=>`(tactic|((with_reducible refine fu (i:=$i) ?_ ?_ ?_ ?_ ?_ ?_);exact nd;exact rfl;exact oi;rotate_left;rfl;exact oi;exact$e))
local macro_rules|`(tactic|exists$i,$e,0)=>`(tactic|((with_reducible refine Jx (i:=$i) ?_ ?_ ?_ ?_ ?_ ?_ ?_ ?_ ?_);exact PassesOwn.never;exact hc;exact nd;exact rfl;exact oi;exact$e;rotate_left;(· intro _;rfl);exact oi))
local macro_rules|`(tactic|exists$a,$b,0,0)=>`(tactic|(refine Wx $a $b rfl rfl fun cdv A outer s H E hr=>?_;have nd:=($b).nd))
local macro_rules|`(tactic|exists(),$e)=>`(tactic|((with_reducible refine Py ?_);exact$e))
set_option hygiene true
local macro_rules|`(term|‹$l›)=>`((show(($l):List Str).Nodup by decide+kernel))
theorem hc:true=true:=rfl
theorem oi{α:Type}{a:α}{p:Prop}:a=a\/p:=.inl rfl
theorem aX{X:Cx}{c:Call}{a:Expr}{es:List Expr}{pa:P}{ps:List P}(ha:SX X c a pa)(hr:SG X c es ps)(h:ZQ a=true):SG X c (a::es) (pa::ps):=Ih ha hr (iB h)
theorem cH{X:Cx}{c:Call}{a:Expr}{es:List Expr}{pa:P}{ps:List P}(ha:SX X c a pa)(hr:SA X c es ps)(h:ZQ a=true):SA X c (a::es) (pa::ps):=oM ha hr (iB h)
variable{Pg:Program}{w:World}{K:PySem.W.Frag}{mg:Str->Option Value}{base:Heap}{f:Addr}{fd:FuncData}{k n:Nat}{c:Call}{cl:Nat->Addr}
noncomputable def top(i:Nat):Stmt:=PySem.Challenge.pw_hourhaul_k25_fullest_judged.main.body.getD i (.Pass ⟨0,0,0,0⟩)
noncomputable abbrev s0:=top 1
noncomputable def b0:List S:=[.asg 2 (.idx (.idx (.var 0) (.con (.int 1))) (.idx (.var 1) (.con (.int 0)))),.ret (.M3 (.idx (.var 1) (.con (.int 1))) (.tup [.idx (.var 2) (.con (.int 0)),.idx (.var 2) (.con (.int 1))]) (.tup [.idx (.var 2) (.con (.int 1)),.idx (.var 2) (.con (.int 0))]))]
noncomputable def f0:Fd:=⟨2,3,b0⟩
theorem sc0:aN ["net","step","way"] ["net","step"] (aC s0):=nofun
include cl in
theorem d0(Fu:gD K "step_places" "step_places" s0 f fd):bV Pg w K mg base gh (k+1) f fd ["net","step"] (gF K 2 (fun args=>enter c n f0 args)):=by
 exists Fu,sc0,0,0;refine aU ?_ ?_;.exists 2,ao (ao (sv 0) aa) (ao (sv 1) aa)
 lia;.exists(),uG (iI (ao (sv 1) aa)) (bJ (cH (ao (sv 2) aa) (cH (ao (sv 2) aa) aH rfl) rfl)) (bJ (cH (ao (sv 2) aa) (cH (ao (sv 2) aa) aH rfl) rfl))
 exact aq
noncomputable abbrev s1:=top 2
noncomputable def b1:List S:=[.asg 2 (.idx (.idx (.idx (.var 0) (.con (.int 1))) (.idx (.var 1) (.con (.int 0)))) (.con (.int 3))),.ret (.M3 (.idx (.var 1) (.con (.int 1))) (.var 2) (.neg (.var 2)))]
noncomputable def f1:Fd:=⟨2,3,b1⟩
theorem sc1:aN ["net","step","hours"] ["net","step"] (aC s1):=nofun
include cl in
theorem d1(Fu:gD K "step_hours" "step_hours" s1 f fd):bV Pg w K mg base gh (k+1) f fd ["net","step"] (gF K 2 (fun args=>enter c n f1 args)):=by
 exists Fu,sc1,0,0;refine aU ?_ ?_;.exists 2,ao (ao (ao (sv 0) aa) (ao (sv 1) aa)) aa
 lia;.exists(),uG (iI (ao (sv 1) aa)) (sv 2) (iC (sv 2))
 exact aq
noncomputable abbrev s2:=top 3
noncomputable def b2:List S:=[.asg 3 (.idx (.var 1) (.idx (.var 2) (.con (.int 0)))),.ret (.M3 (.idx (.var 2) (.con (.int 1))) (.bin .sub (.idx (.idx (.idx (.var 0) (.con (.int 1))) (.idx (.var 2) (.con (.int 0)))) (.con (.int 2))) (.var 3)) (.var 3))]
noncomputable def f2:Fd:=⟨3,4,b2⟩
theorem sc2:aN ["net","stream","step","loads"] ["net","stream","step"] (aC s2):=nofun
include cl in
theorem d2(Fu:gD K "step_room" "step_room" s2 f fd):bV Pg w K mg base gh (k+1) f fd ["net","stream","step"] (gF K 3 (fun args=>enter c n f2 args)):=by
 exists Fu,sc2,0,0;refine aU ?_ ?_;.exists 3,ao (sv 1) (ao (sv 2) aa)
 lia;.exists(),uG (iI (ao (sv 2) aa)) (az bK (ao (ao (ao (sv 0) aa) (ao (sv 2) aa)) aa) (sv 3)) (sv 3)
 exact aq
noncomputable abbrev s3:=top 4
noncomputable def b3:List S:=[.Hv 2 (.oX (.con (.int 0)) (.idx (.var 0) (.con (.int 0)))) 1 [5] true (.lst []),.Cy (.oX (.con (.int 0)) (.blt .len [.idx (.var 0) (.con (.int 1))])) [3] true [.Cy (.tup [.tup [.var 3,.con (.bl true)],.tup [.var 3,.con (.bl false)]]) [4] true [.ifs (.cmp .gt (.call 2 [.var 0,.var 1,.var 4]) (.con (.int 0))) [.Hw 2 (.idx (.call 0 [.var 0,.var 4]) (.con (.int 0))) (.var 4)] []]],.cU 2,.ret (.var 2)]
noncomputable def f3:Fd:=⟨2,5,b3⟩
theorem sc3:aN ["net","stream","steps","number","step"] ["net","stream"] (aC s3):=nofun
include cl in
theorem d3(Fu:gD K "open_steps" "open_steps" s3 f fd)(bH:mg "len"=none)(aQ:mg "range"=none)(dw:au Pg w K mg base k c 0 "step_places" 2)(jB:au Pg w K mg base k c 2 "step_room" 3):bV Pg w K mg base gh (k+1) f fd ["net","stream"] (gF K 2 (fun args=>enter c n f3 args)):=by exists Fu,sc3,0,0;exact(by(refine Jb (i:=2) (N':=["net","stream","steps","number","step","place"]) (g:=jh 5) ?_ ?_ ?_ ?_ ?_ ?_ ?_ ?_ ?_ ?_ ?_ ?_ ?_ ?_);exact hc;exact nd;exact rfl;exact oi;exact uW rfl (by rfl);exact eO rfl (by rfl) aQ (ao (sv 0) aa);exact(fun _ _ _ _ _=>aJ (i:=5) ‹["net","stream","steps","number","step","place"]› rfl (Or.inl rfl) (Or.inr rfl));exact cG (le_refl _);exact(fun _ _ _ _ _=>dD);exact(fun _ _ _ _ _=>(bU aH));(· exists GJ ?_ ?_;(· exists Aj (g:=jh 3) ?_ ?_ ?_ ?_ ?_ ?_ ?_;exact PassesOwn.never;exact hc;(· exists Dh ?_ ?_ ?_ ?_ ?_;exact rfl;rfl;exact aQ;exact cW rfl (by rfl) bH (ao (sv 0) aa);rfl);exact aJ (i:=3) nd rfl oi oi;(· rw[mD];exact uC 3);(· exists oY ?_ ?_;(· exists Aj (g:=jh 4) ?_ ?_ ?_ ?_ ?_ ?_ ?_;exact PassesOwn.never;exact hc;exact Ka (bJ (cH (bJ (cH (sv 3) (cH ie aH rfl) rfl)) (cH (bJ (cH (sv 3) (cH ie aH rfl) rfl)) aH rfl) rfl));exact aJ (i:=4) nd rfl oi oi;(· rw[mD];exact uC 4);(· exists oY ?_ ?_;(· exists Ol ?_ ?_ ?_;exact aW mq (cQ jB hr (aX (sv 0) (aX (sv 1) (aX (sv 4) aB rfl) rfl) rfl)) aa (aM _);(· exists oY ?_ ?_;(· exists Gk (k:=2) ?_ ?_ ?_ ?_ ?_ ?_ ?_ ?_ ?_ ?_ ?_ ?_;exact rfl;(· first|exact Or.inl rfl|exact Or.inr (Or.inl rfl));exact ao (cQ dw hr (aX (sv 0) (aX (sv 4) aB rfl) rfl)) aa;exact sv 4;(· intro _ _;rfl);rfl;rfl;rfl;rfl;rfl;rfl;rfl);exact oU);exact oU);exact oU);(· intro _;rfl));exact oU);(· intro _;rfl));(· exists IK ?_;(· lia;(· exists(),sv 2);exact aq)));rfl;(· intro _;rfl);exact oi)
noncomputable abbrev s4:=top 5
noncomputable def b4:List S:=[.asg 3 (.call 3 [.var 0,.var 1]),.Cz 4,.gq (.blt .keys [.var 2]) [5] true [.jn 4 (.var 5) (.tup [.bin .Cv (.var 2) (.var 5),.con (.int 0),.con .non])],.asg 6 (.blt .T4 [.var 2]),.whl (.cmp .gt (.blt .len [.var 6]) (.con (.int 0))) [.Cz 7,.gq (.var 6) [5] true [.gq (.idx (.var 3) (.var 5)) [8] true [.asg 9 (.idx (.call 0 [.var 0,.var 8]) (.con (.int 1))),.asg 10 (.tup [.bin .add (.idx (.M4 4 (.var 5)) (.con (.int 0))) (.call 1 [.var 0,.var 8]),.bin .add (.idx (.M4 4 (.var 5)) (.con (.int 1))) (.con (.int 1))]),.ifs (.or (.M5 4 (.var 9) true) (.cmp .lt (.var 10) (.slice (.M4 4 (.var 9)) (.con .non) (.con (.int 2))))) [.jn 4 (.var 9) (.bin .add (.var 10) (.tup [.var 8])),.jn 7 (.var 9) (.con (.bl true))] []]],.asg 6 (.blt .T4 [.vw 7])],.ret (.var 4)]
noncomputable def f4:Fd:=⟨3,11,b4⟩
theorem sc4:aN ["net","stream","begun","steps","come","place","row","changed","step","to","found"] ["net","stream","begun"] (aC s4):=nofun
include cl in
theorem d4(Fu:gD K "shortest_come" "shortest_come" s4 f fd)(bH:mg "len"=none)(cM:mg "list"=none)(uO:au Pg w K mg base k c 3 "open_steps" 2)(uP:au Pg w K mg base k c 1 "step_hours" 2)(dw:au Pg w K mg base k c 0 "step_places" 2):bV Pg w K mg base gh (k+1) f fd ["net","stream","begun"] (gF K 3 (fun args=>enter c n f4 args)):=by
 exists Fu,sc4,0,0;refine aU ?_ ?_;.exists 3,cQ uO hr (aX (sv 0) (aX (sv 1) aB rfl) rfl)
 lia;.exact(Ag (i:=4) nd rfl oi (by rfl) (Or.inl rfl))
 lia;.exists 5,Jj (sv 2),0;(· lia;exact tE (i:=4) (aK hr) rfl (by first|exact Or.inl rfl|exact Or.inr (Or.inl rfl)) (sv 5) (bJ (cH (uH (aK hr) (sv 2) (sv 5) (fun _ _=>rfl)) (cH aa (cH Dn aH rfl) rfl) rfl)) (by rfl);exact aq)
 lia;.exists 6,Ft rfl hc (by rfl) cM (sv 2)
 lia;.exact(yD PassesOwn.never (aW mq (cW rfl (by rfl) bH (sv 6)) aa (aM _)) (by lia;exact Ag (i:=7) nd rfl oi (by rfl) (Or.inl rfl);(· lia;(· exists 5,dg (sv 6),0;(· lia;(· exists 8,dg (ao (sv 3) (sv 5)),0;(· lia;(· exists 9,ao (cQ dw hr (aX (sv 0) (aX (sv 8) aB rfl) rfl)) aa);(· lia;(· exists 10,bJ (cH (az aV (ao (yC (i:=4) (aK hr) rfl (by first|exact Or.inl rfl|exact Or.inr (Or.inl rfl)) (sv 5) (fun _ _=>rfl)) aa) (cQ uP hr (aX (sv 0) (aX (sv 8) aB rfl) rfl))) (cH (az aV (ao (yC (i:=4) (aK hr) rfl (by first|exact Or.inl rfl|exact Or.inr (Or.inl rfl)) (sv 5) (fun _ _=>rfl)) aa) aa) aH rfl) rfl));(· lia;(· exists bY ?_ ?_ ?_;exact SW.st (qu (QH (i:=4) (Or.inr ⟨rfl,rfl⟩) (aK hr) rfl (by first|exact Or.inl rfl|exact Or.inr (Or.inl rfl)) (sv 9) (by with_unfolding_all rfl)) (m6 (aW (mJ (aK hr)) (sv 10) (fY (yC (i:=4) (aK hr) rfl (by first|exact Or.inl rfl|exact Or.inr (Or.inl rfl)) (sv 9) (fun _ _=>rfl)) iD (iG aa)) (aM _))));(· lia;exact tE (i:=4) (aK hr) rfl (by first|exact Or.inl rfl|exact Or.inr (Or.inl rfl)) (sv 9) (az aV (sv 10) (bJ (cH (sv 8) aH rfl))) (by rfl);(· lia;exact tE (i:=7) (aK hr) rfl (by first|exact Or.inl rfl|exact Or.inr (Or.inl rfl)) (sv 9) ie (by rfl);exact aq));exact aq);exact aq))));exact aq));(· lia;(· exists 6,Ft rfl hc (by rfl) cM (Wj (i:=7) rfl (by first|exact Or.inl rfl|exact Or.inr (Or.inl rfl))));exact aq))))
 lia;.exists(),sv 4
 exact aq
noncomputable abbrev s5:=top 6
noncomputable def b5:List S:=[.asg 3 (.lst []),.asg 4 (.var 2),.whl (.cmp .K1 (.idx (.bin .Cv (.var 1) (.var 4)) (.con (.int 2))) (.con .non)) [.asg 5 (.idx (.bin .Cv (.var 1) (.var 4)) (.con (.int 2))),.app 3 (.var 5),.asg 4 (.idx (.call 0 [.var 0,.var 5]) (.con (.int 0)))],.ret (.blt .Zk [.var 3])]
noncomputable def f5:Fd:=⟨3,6,b5⟩
theorem sc5:aN ["net","come","place","steps","here","step"] ["net","come","place"] (aC s5):=nofun
include cl in
theorem d5(Fu:gD K "steps_to" "steps_to" s5 f fd)(km:mg "reversed"=none)(cN:mg "tuple"=none)(dw:au Pg w K mg base k c 0 "step_places" 2):bV Pg w K mg base gh (k+1) f fd ["net","come","place"] (gF K 3 (fun args=>enter c n f5 args)):=by
 exists Fu,sc5,0,0;refine aU ?_ ?_;.exists 3,bU aH
 lia;.exists 4,sv 2
 lia;.exact(yD PassesOwn.never (aW Kv (ao (uH (aK hr) (sv 1) (sv 4) (fun _ _=>rfl)) aa) Dn (aM _)) (by lia;(· exists 5,ao (uH (aK hr) (sv 1) (sv 4) (fun _ _=>rfl)) aa);(· lia;exact gC (k:=3) rfl (by first|exact Or.inl rfl|exact Or.inr (Or.inl rfl)) (sv 5);(· lia;(· exists 4,ao (cQ dw hr (aX (sv 0) (aX (sv 5) aB rfl) rfl)) aa);exact aq))))
 lia;.exists(),yO rfl rfl hc (by rfl) cN (by rfl) km (sv 3)
 exact aq
noncomputable abbrev s6:=top 7
noncomputable def b6:List S:=[.asg 3 (.blt .list [.var 0]),.gq (.var 1) [4,5] false [.Hu 3 (.var 4) false (.M3 (.var 5) (.var 2) (.neg (.var 2)))],.ret (.var 3)]
noncomputable def f6:Fd:=⟨3,6,b6⟩
theorem sc6:aN ["stream","steps","loads","changed","number","forth"] ["stream","steps","loads"] (aC s6):=nofun
include cl in
theorem d6(Fu:gD K "stream_with" "stream_with" s6 f fd)(cM:mg "list"=none):bV Pg w K mg base gh (k+1) f fd ["stream","steps","loads"] (gF K 3 (fun args=>enter c n f6 args)):=by
 exists Fu,sc6,0,0;refine aU ?_ ?_;.exists 3,lU rfl (by rfl) cM (sv 0)
 lia;.exact(tu PassesOwn.never hc (dg (sv 1)) (gP hc (bh (aJ (i:=4) nd rfl oi oi) (bh (aJ (i:=5) nd rfl oi oi) eG))) (mC rfl (cj _ _ (cj _ _ jC 5) 4)) (by lia;exact Kg (k:=3) (sub:=false) Ju rfl (by first|exact Or.inl rfl|exact Or.inr (Or.inl rfl)) (sv 4) (uG (iI (sv 5)) (sv 2) (iC (sv 2)));exact aq))
 lia;.exists(),sv 3
 exact aq
noncomputable abbrev s7:=top 8
noncomputable def b7:List S:=[.asg 1 (.bin .sub (.idx (.var 0) (.con (.int 0))) (.con (.int 1))),.asg 2 (.bin .mul (.lst [.con (.int 0)]) (.blt .len [.idx (.var 0) (.con (.int 1))])),.asg 3 (.lst []),.asg 4 (.call 4 [.var 0,.var 2,.wV 0 0]),.whl (.bin .Zj (.var 1) (.var 4)) [.asg 5 (.call 5 [.var 0,.var 4,.var 1]),.asg 6 (.blt .Cw [.comp (.var 5) 1 [7] true none (.call 2 [.var 0,.var 2,.var 7])]),.app 3 (.tup [.var 5,.var 6]),.asg 2 (.call 6 [.var 2,.var 5,.var 6]),.asg 4 (.call 4 [.var 0,.var 2,.wV 0 0])],.ret (.var 3)]
noncomputable def f7:Fd:=⟨1,7,b7⟩
theorem sc7:aN ["net","end","stream","chains","come","steps","loads"] ["net"] (aC s7):=nofun
include cl in
theorem d7(Fu:gD K "chains_to_end" "chains_to_end" s7 f fd)(bH:mg "len"=none)(sY:mg "min"=none)(dF:au Pg w K mg base k c 4 "shortest_come" 3)(jB:au Pg w K mg base k c 2 "step_room" 3)(yX:au Pg w K mg base k c 5 "steps_to" 3)(gU:au Pg w K mg base k c 6 "stream_with" 3):bV Pg w K mg base gh (k+1) f fd ["net"] (gF K 1 (fun args=>enter c n f7 args)):=by
 exists Fu,sc7,0,0;refine aU ?_ ?_;.exists 1,az bK (ao (sv 0) aa) aa
 lia;.exists fu (i:=2) ?_ ?_ ?_ ?_ ?_ ?_;exact nd;exact rfl;exact Or.inr rfl;rotate_left;rfl;exact oi;exact az gA (bU (cH aa aH rfl)) (cW rfl (by rfl) bH (ao (sv 0) aa))
 lia;.exists 3,bU aH
 lia;.exists 4,cQ dF hr (aX (sv 0) (aX (sv 2) (aX uK aB rfl) rfl) rfl)
 lia;.exact(yD PassesOwn.never (Ny (aK hr) (sv 1) (sv 4) (by with_unfolding_all rfl)) (by lia;(· exists 5,cQ yX hr (aX (sv 0) (aX (sv 4) (aX (sv 1) aB rfl) rfl) rfl));(· lia;(· exists 6,zM rfl hc (by rfl) sY (di (N':=["net","end","stream","chains","come","steps","loads","step"]) hc (uW rfl (by rfl)) (dg (sv 5)) (fun _ _ _ _ _=>aJ (i:=7) ‹["net","end","stream","chains","come","steps","loads","step"]› rfl (Or.inl rfl) (Or.inr rfl)) (cG (le_refl _)) (fun _ _ _ _ _=>dD) (fun _ _ _ _ _=>(cQ jB hr (aX (sv 0) (aX (sv 2) (aX (sv 7) aB rfl) rfl) rfl)))));(· lia;exact gC (k:=3) rfl (by first|exact Or.inl rfl|exact Or.inr (Or.inl rfl)) (bJ (cH (sv 5) (cH (sv 6) aH rfl) rfl));(· lia;(· exists fu (i:=2) ?_ ?_ ?_ ?_ ?_ ?_;exact nd;exact rfl;exact Or.inr rfl;rotate_left;rfl;exact oi;exact cQ gU hr (aX (sv 2) (aX (sv 5) (aX (sv 6) aB rfl) rfl) rfl));(· lia;(· exists 4,cQ dF hr (aX (sv 0) (aX (sv 2) (aX uK aB rfl) rfl) rfl));exact aq))))))
 lia;.exists(),sv 3
 exact aq
noncomputable abbrev s8:=top 10
noncomputable def b8:List S:=[.ret (.blt .all [.comp (.zip (.var 0) (.slice (.var 0) (.con (.int 1)) (.con .non))) 2 [1,2] false none (.cmp .lt (.var 1) (.var 2))])]
noncomputable def f8:Fd:=⟨1,1,b8⟩
theorem sc8:aN ["things"] ["things"] (aC s8):=nofun
include cl in
theorem d8(Fu:gD K "is_rising" "is_rising" s8 f fd)(lX:mg "all"=none)(sZ:mg "zip"=none):bV Pg w K mg base gh (k+1) f fd ["things"] (gF K 1 (fun args=>enter c n f8 args)):=by
 exists Fu,sc8,0,0;refine aU ?_ ?_;.exists(),yF rfl hc (by rfl) lX (di (N':=["things","one","other"]) hc (uW rfl (by rfl)) (DX rfl (by rfl) sZ (sv 0) (fY (sv 0) (iG aa) iD)) (fun _ _ _ _ _=>gP hc (bh (aJ (i:=1) ‹["things","one","other"]› rfl (Or.inl rfl) (Or.inr rfl)) (bh (aJ (i:=2) ‹["things","one","other"]› rfl (Or.inl rfl) (Or.inr rfl)) eG))) (oO rfl (eZ (show 1<=1 by decide) (eZ (show 1<=2 by decide) ou))) (fun _ _ _ _ _=>dD) (fun _ _ _ _ _=>(fM (mJ (aK hr)) (sv 1) (sv 2) (aM _))))
 exact aq
noncomputable abbrev s9:=top 12
noncomputable def b9:List S:=[.ret (.comp (.T5 (.idx (.var 0) (.con (.int 1)))) 2 [2,3] false (some (.cmp .eq (.idx (.var 3) (.con (.int 0))) (.var 1))) (.var 2))]
noncomputable def f9:Fd:=⟨2,2,b9⟩
theorem sc9:aN ["net","place"] ["net","place"] (aC s9):=nofun
include cl in
theorem d9(Fu:gD K "ways_out" "ways_out" s9 f fd)(dH:mg "enumerate"=none):bV Pg w K mg base gh (k+1) f fd ["net","place"] (gF K 2 (fun args=>enter c n f9 args)):=by
 exists Fu,sc9,0,0;refine aU ?_ ?_;.exists(),di (N':=["net","place","number","way"]) hc (uW rfl (by rfl)) (Ed rfl (by rfl) dH (ao (sv 0) aa)) (fun _ _ _ _ _=>gP hc (bh (aJ (i:=2) ‹["net","place","number","way"]› rfl (Or.inl rfl) (Or.inr rfl)) (bh (aJ (i:=3) ‹["net","place","number","way"]› rfl (Or.inl rfl) (Or.inr rfl)) eG))) (oO rfl (eZ (show 2<=2 by decide) (eZ (show 2<=3 by decide) ou))) (fun _ _ _ _ _=>jD (aW (bI (aK hr)) (ao (sv 3) aa) (sv 1) (aM _))) (fun _ _ _ _ _=>(sv 2))
 exact aq
noncomputable abbrev jJ:=top 13
noncomputable def b10:List S:=[.ret (.comp (.T5 (.idx (.var 0) (.con (.int 1)))) 2 [2,3] false (some (.cmp .eq (.idx (.var 3) (.con (.int 1))) (.var 1))) (.var 2))]
noncomputable def Y6:Fd:=⟨2,2,b10⟩
theorem abB:aN ["net","place"] ["net","place"] (aC jJ):=nofun
include cl in
theorem d10(Fu:gD K "ways_in" "ways_in" jJ f fd)(dH:mg "enumerate"=none):bV Pg w K mg base gh (k+1) f fd ["net","place"] (gF K 2 (fun args=>enter c n Y6 args)):=by
 exists Fu,abB,0,0;refine aU ?_ ?_;.exists(),di (N':=["net","place","number","way"]) hc (uW rfl (by rfl)) (Ed rfl (by rfl) dH (ao (sv 0) aa)) (fun _ _ _ _ _=>gP hc (bh (aJ (i:=2) ‹["net","place","number","way"]› rfl (Or.inl rfl) (Or.inr rfl)) (bh (aJ (i:=3) ‹["net","place","number","way"]› rfl (Or.inl rfl) (Or.inr rfl)) eG))) (oO rfl (eZ (show 2<=2 by decide) (eZ (show 2<=3 by decide) ou))) (fun _ _ _ _ _=>jD (aW (bI (aK hr)) (ao (sv 3) aa) (sv 1) (aM _))) (fun _ _ _ _ _=>(sv 2))
 exact aq
noncomputable abbrev Xo:=top 15
noncomputable def b11:List S:=[.asg 3 (.blt .sum [.comp (.call 10 [.var 0,.var 2]) 1 [4] true none (.idx (.var 1) (.var 4))]),.ret (.bin .sub (.var 3) (.blt .sum [.comp (.call 9 [.var 0,.var 2]) 1 [4] true none (.idx (.var 1) (.var 4))]))]
noncomputable def f11:Fd:=⟨3,4,b11⟩
theorem ZL:aN ["net","stream","place","come"] ["net","stream","place"] (aC Xo):=nofun
include cl in
theorem d11(Fu:gD K "stays_at" "stays_at" Xo f fd)(qI:mg "sum"=none)(CJ:au Pg w K mg base k c 10 "ways_in" 2)(yZ:au Pg w K mg base k c 9 "ways_out" 2):bV Pg w K mg base gh (k+1) f fd ["net","stream","place"] (gF K 3 (fun args=>enter c n f11 args)):=by
 exists Fu,ZL,0,0;refine aU ?_ ?_;.exists 3,yo rfl hc (by rfl) qI (di (N':=["net","stream","place","come","number"]) hc (uW rfl (by rfl)) (dg (cQ CJ hr (aX (sv 0) (aX (sv 2) aB rfl) rfl))) (fun _ _ _ _ _=>aJ (i:=4) ‹["net","stream","place","come","number"]› rfl (Or.inl rfl) (Or.inr rfl)) (cG (le_refl _)) (fun _ _ _ _ _=>dD) (fun _ _ _ _ _=>(ao (sv 1) (sv 4))))
 lia;.exists(),az bK (sv 3) (yo rfl hc (by rfl) qI (di (N':=["net","stream","place","come","number"]) hc (uW rfl (by rfl)) (dg (cQ yZ hr (aX (sv 0) (aX (sv 2) aB rfl) rfl))) (fun _ _ _ _ _=>aJ (i:=4) ‹["net","stream","place","come","number"]› rfl (Or.inl rfl) (Or.inr rfl)) (cG (le_refl _)) (fun _ _ _ _ _=>dD) (fun _ _ _ _ _=>(ao (sv 1) (sv 4)))))
 exact aq
noncomputable abbrev s12:=top 16
noncomputable def b12:List S:=[.ret (.neg (.call 11 [.var 0,.var 1,.con (.int 0)]))]
noncomputable def Ti:Fd:=⟨2,2,b12⟩
theorem aam:aN ["net","stream"] ["net","stream"] (aC s12):=nofun
include cl in
theorem d12(Fu:gD K "stream_rate" "stream_rate" s12 f fd)(kE:au Pg w K mg base k c 11 "stays_at" 3):bV Pg w K mg base gh (k+1) f fd ["net","stream"] (gF K 2 (fun args=>enter c n Ti args)):=by
 exists Fu,aam,0,0;refine aU ?_ ?_;.exists(),iC (cQ kE hr (aX (sv 0) (aX (sv 1) (aX aa aB rfl) rfl) rfl))
 exact aq
noncomputable abbrev s13:=top 17
noncomputable def b13:List S:=[.ret (.blt .all [.comp (.zip (.var 1) (.idx (.var 0) (.con (.int 1)))) 2 [2,3] false none (.chain .le .le (.con (.int 0)) (.var 2) (.idx (.var 3) (.con (.int 2))))])]
noncomputable def Y7:Fd:=⟨2,2,b13⟩
theorem aa3:aN ["net","stream"] ["net","stream"] (aC s13):=nofun
include cl in
theorem d13(Fu:gD K "within_rooms" "within_rooms" s13 f fd)(lX:mg "all"=none)(sZ:mg "zip"=none):bV Pg w K mg base gh (k+1) f fd ["net","stream"] (gF K 2 (fun args=>enter c n Y7 args)):=by
 exists Fu,aa3,0,0;refine aU ?_ ?_;.exists(),yF rfl hc (by rfl) lX (di (N':=["net","stream","loads","way"]) hc (uW rfl (by rfl)) (DX rfl (by rfl) sZ (sv 1) (ao (sv 0) aa)) (fun _ _ _ _ _=>gP hc (bh (aJ (i:=2) ‹["net","stream","loads","way"]› rfl (Or.inl rfl) (Or.inr rfl)) (bh (aJ (i:=3) ‹["net","stream","loads","way"]› rfl (Or.inl rfl) (Or.inr rfl)) eG))) (oO rfl (eZ (show 2<=2 by decide) (eZ (show 2<=3 by decide) ou))) (fun _ _ _ _ _=>dD) (fun _ _ _ _ _=>(Gd Gg Gg aa (sv 2) (ao (sv 3) aa))))
 exact aq
noncomputable abbrev s14:=top 18
noncomputable def b14:List S:=[.ifs (.or (.cmp .ne (.blt .len [.var 1]) (.blt .len [.idx (.var 0) (.con (.int 1))])) (.not (.call 13 [.var 0,.var 1]))) [.ret (.con (.bl false))] [],.ifs (.cmp .lt (.call 12 [.var 0,.var 1]) (.con (.int 0))) [.ret (.con (.bl false))] [],.ret (.blt .all [.comp (.oX (.con (.int 1)) (.bin .sub (.idx (.var 0) (.con (.int 0))) (.con (.int 1)))) 1 [2] true none (.cmp .eq (.call 11 [.var 0,.var 1,.var 2]) (.con (.int 0)))])]
noncomputable def UT:Fd:=⟨2,2,b14⟩
theorem aaI:aN ["net","stream"] ["net","stream"] (aC s14):=nofun
include cl in
theorem d14(Fu:gD K "stream_right" "stream_right" s14 f fd)(lX:mg "all"=none)(bH:mg "len"=none)(aQ:mg "range"=none)(kE:au Pg w K mg base k c 11 "stays_at" 3)(dz:au Pg w K mg base k c 12 "stream_rate" 2)(qJ:au Pg w K mg base k c 13 "within_rooms" 2):bV Pg w K mg base gh (k+1) f fd ["net","stream"] (gF K 2 (fun args=>enter c n UT args)):=by
 exists Fu,aaI,0,0;refine aU ?_ ?_;.exists bY ?_ ?_ ?_;exact SW.st (qu (aW (jz (aK hr)) (cW rfl (by rfl) bH (sv 1)) (cW rfl (by rfl) bH (ao (sv 0) aa)) (aM _)) (m6 (qm (iI (cQ qJ hr (aX (sv 0) (aX (sv 1) aB rfl) rfl))))));(· lia;(· exists(),ie);exact aq);exact aq
 lia;.exists bY ?_ ?_ ?_;exact aW (mJ (aK hr)) (cQ dz hr (aX (sv 0) (aX (sv 1) aB rfl) rfl)) aa (aM _);(· lia;(· exists(),ie);exact aq);exact aq
 lia;.exists(),yF rfl hc (by rfl) lX (di (N':=["net","stream","place"]) hc (uW rfl (by rfl)) (uE rfl (by rfl) aQ aa (az bK (ao (sv 0) aa) aa)) (fun _ _ _ _ _=>aJ (i:=2) ‹["net","stream","place"]› rfl (Or.inl rfl) (Or.inr rfl)) (cG (le_refl _)) (fun _ _ _ _ _=>dD) (fun _ _ _ _ _=>(fM (bI (aK hr)) (cQ kE hr (aX (sv 0) (aX (sv 1) (aX (sv 2) aB rfl) rfl) rfl)) aa (aM _))))
 exact aq
noncomputable abbrev s15:=top 19
noncomputable def b15:List S:=[.ret (.and (.call 8 [.var 1]) (.and (.cmp .eq (.slice (.var 1) (.con .non) (.con (.int 1))) (.tup [.con (.int 0)])) (.cmp .lt (.idx (.var 1) (.neg (.con (.int 1)))) (.bin .sub (.idx (.var 0) (.con (.int 0))) (.con (.int 1))))))]
noncomputable def Yx:Fd:=⟨2,2,b15⟩
theorem aci:aN ["net","side"] ["net","side"] (aC s15):=nofun
include cl in
theorem d15(Fu:gD K "side_right" "side_right" s15 f fd)(wZ:au Pg w K mg base k c 8 "is_rising" 1):bV Pg w K mg base gh (k+1) f fd ["net","side"] (gF K 2 (fun args=>enter c n Yx args)):=by
 exists Fu,aci,0,0;refine aU ?_ ?_;.exists(),mQ (cQ wZ hr (aX (sv 1) aB rfl)) (mQ (fM (bI (aK hr)) (fY (sv 1) iD (iG aa)) (bJ (cH aa aH rfl)) (aM _)) (oH (fM (mJ (aK hr)) (ao (sv 1) (iC aa)) (az bK (ao (sv 0) aa) aa) (aM _)))).ev
 exact aq
noncomputable abbrev s16:=top 20
noncomputable def b16:List S:=[.ret (.blt .sum [.comp (.idx (.var 0) (.con (.int 1))) 1 [2] true (some (.and (.cmp .inn (.idx (.var 2) (.con (.int 0))) (.var 1)) (.cmp .qH (.idx (.var 2) (.con (.int 1))) (.var 1)))) (.idx (.var 2) (.con (.int 2)))])]
noncomputable def Xp:Fd:=⟨2,2,b16⟩
theorem abv:aN ["net","side"] ["net","side"] (aC s16):=nofun
include cl in
theorem d16(Fu:gD K "side_room" "side_room" s16 f fd)(qI:mg "sum"=none):bV Pg w K mg base gh (k+1) f fd ["net","side"] (gF K 2 (fun args=>enter c n Xp args)):=by
 exists Fu,abv,0,0;refine aU ?_ ?_;.exists(),yo rfl hc (by rfl) qI (di (N':=["net","side","way"]) hc (uW rfl (by rfl)) (dg (ao (sv 0) aa)) (fun _ _ _ _ _=>aJ (i:=2) ‹["net","side","way"]› rfl (Or.inl rfl) (Or.inr rfl)) (cG (le_refl _)) (fun _ _ _ _ _=>jD (SW.st (uM (aW zj (ao (sv 2) aa) (sv 1) (by with_unfolding_all rfl)) (oR (aW m5 (ao (sv 2) aa) (sv 1) (by with_unfolding_all rfl)))))) (fun _ _ _ _ _=>(ao (sv 2) aa)))
 exact aq
noncomputable abbrev s17:=top 22
noncomputable def b17:List S:=[.ret (.tup [.idx (.var 0) (.con (.int 0)),.blt .tuple [.comp (.idx (.var 0) (.con (.int 1))) 1 [1] true none (.tup [.idx (.var 1) (.con (.int 0)),.idx (.var 1) (.con (.int 1)),.idx (.var 1) (.con (.int 2)),.con (.int 0)])]])]
noncomputable def Yq:Fd:=⟨1,1,b17⟩
theorem abZ:aN ["net"] ["net"] (aC s17):=nofun
include cl in
theorem d17(Fu:gD K "hourless_net" "hourless_net" s17 f fd)(cN:mg "tuple"=none):bV Pg w K mg base gh (k+1) f fd ["net"] (gF K 1 (fun args=>enter c n Yq args)):=by
 exists Fu,abZ,0,0;refine aU ?_ ?_;.exists(),bJ (cH (ao (sv 0) aa) (cH (lH rfl (by rfl) cN (di (N':=["net","way"]) hc (uW rfl (by rfl)) (dg (ao (sv 0) aa)) (fun _ _ _ _ _=>aJ (i:=1) ‹["net","way"]› rfl (Or.inl rfl) (Or.inr rfl)) (cG (le_refl _)) (fun _ _ _ _ _=>dD) (fun _ _ _ _ _=>(bJ (cH (ao (sv 1) aa) (cH (ao (sv 1) aa) (cH (ao (sv 1) aa) (cH aa aH rfl) rfl) rfl) rfl))))) aH rfl) rfl)
 exact aq
noncomputable abbrev s18:=top 23
noncomputable def b18:List S:=[.asg 1 (.call 17 [.var 0]),.asg 2 (.bin .mul (.lst [.con (.int 0)]) (.blt .len [.idx (.var 0) (.con (.int 1))])),.gq (.call 7 [.var 1]) [3,4] false [.asg 2 (.call 6 [.var 2,.var 3,.var 4])],.asg 5 (.blt .tuple [.blt .m8 [.call 4 [.var 1,.var 2,.wV 0 0]]]),.ret (.tup [.call 12 [.var 0,.var 2],.var 2,.var 5])]
noncomputable def XS:Fd:=⟨1,6,b18⟩
theorem abQ:aN ["net","hourless","stream","steps","loads","side"] ["net"] (aC s18):=nofun
include cl in
theorem d18(Fu:gD K "fullest_stream" "fullest_stream" s18 f fd)(bH:mg "len"=none)(iu:mg "sorted"=none)(cN:mg "tuple"=none)(n6:au Pg w K mg base k c 7 "chains_to_end" 1)(qK:au Pg w K mg base k c 17 "hourless_net" 1)(dF:au Pg w K mg base k c 4 "shortest_come" 3)(dz:au Pg w K mg base k c 12 "stream_rate" 2)(gU:au Pg w K mg base k c 6 "stream_with" 3):bV Pg w K mg base gh (k+1) f fd ["net"] (gF K 1 (fun args=>enter c n XS args)):=by
 exists Fu,abQ,0,0;refine aU ?_ ?_;.exists 1,cQ qK hr (aX (sv 0) aB rfl)
 lia;.exists 2,az gA (bU (cH aa aH rfl)) (cW rfl (by rfl) bH (ao (sv 0) aa))
 lia;.exact(tu PassesOwn.never hc (dg (cQ n6 hr (aX (sv 1) aB rfl))) (gP hc (bh (aJ (i:=3) nd rfl oi oi) (bh (aJ (i:=4) nd rfl oi oi) eG))) (mC rfl (cj _ _ (cj _ _ jC 4) 3)) (by lia;(· exists 2,cQ gU hr (aX (sv 2) (aX (sv 3) (aX (sv 4) aB rfl) rfl) rfl));exact aq))
 lia;.exists 5,lH rfl (by rfl) cN (Cq rfl hc (by rfl) iu (cQ dF hr (aX (sv 1) (aX (sv 2) (aX uK aB rfl) rfl) rfl)))
 lia;.exists(),bJ (cH (cQ dz hr (aX (sv 0) (aX (sv 2) aB rfl) rfl)) (cH (sv 2) (cH (sv 5) aH rfl) rfl) rfl)
 exact aq
noncomputable abbrev s19:=top 24
noncomputable def b19:List S:=[.ifs (.or (.not (.call 14 [.var 0,.idx (.var 1) (.con (.int 1))])) (.not (.call 15 [.var 0,.idx (.var 1) (.con (.int 2))]))) [.ret (.con (.bl false))] [],.ret (.and (.cmp .eq (.call 12 [.var 0,.idx (.var 1) (.con (.int 1))]) (.idx (.var 1) (.con (.int 0)))) (.cmp .eq (.call 16 [.var 0,.idx (.var 1) (.con (.int 2))]) (.idx (.var 1) (.con (.int 0)))))]
noncomputable def XQ:Fd:=⟨2,2,b19⟩
theorem ab1:aN ["net","told"] ["net","told"] (aC s19):=nofun
include cl in
theorem d19(Fu:gD K "fullest_right" "fullest_right" s19 f fd)(uQ:au Pg w K mg base k c 15 "side_right" 2)(xf:au Pg w K mg base k c 16 "side_room" 2)(dz:au Pg w K mg base k c 12 "stream_rate" 2)(qL:au Pg w K mg base k c 14 "stream_right" 2):bV Pg w K mg base gh (k+1) f fd ["net","told"] (gF K 2 (fun args=>enter c n XQ args)):=by
 exists Fu,ab1,0,0;refine aU ?_ ?_;.exists bY ?_ ?_ ?_;exact SW.st (qu (qm (iI (cQ qL hr (aX (sv 0) (aX (ao (sv 1) aa) aB rfl) rfl)))) (m6 (qm (iI (cQ uQ hr (aX (sv 0) (aX (ao (sv 1) aa) aB rfl) rfl))))));(· lia;(· exists(),ie);exact aq);exact aq
 lia;.exists(),mQ (fM (bI (aK hr)) (cQ dz hr (aX (sv 0) (aX (ao (sv 1) aa) aB rfl) rfl)) (ao (sv 1) aa) (aM _)) (oH (fM (bI (aK hr)) (cQ xf hr (aX (sv 0) (aX (ao (sv 1) aa) aB rfl) rfl)) (ao (sv 1) aa) (aM _)))
 exact aq
noncomputable abbrev s20:=top 26
noncomputable def b20:List S:=[.ret (.lst [.blt .max2 [.con (.int 0),.bin .sub (.var 0) (.bin .pow (.con (.int 10)) (.con (.int 18)))],.bin .mod (.var 0) (.bin .pow (.con (.int 10)) (.con (.int 18))),.con (.int 0)])]
noncomputable def Za:Fd:=⟨1,1,b20⟩
theorem abx:aN ["cell"] ["cell"] (aC s20):=nofun
include cl in
theorem d20(Fu:gD K "_law_pool" "_law_pool" s20 f fd)(HF:mg "max"=none):bV Pg w K mg base gh (k+1) f fd ["cell"] (gF K 1 (fun args=>enter c n Za args)):=by
 exists Fu,abx,0,0;refine aU ?_ ?_;.exists(),bU (cH (J5 rfl hc (by rfl) HF (cH aa (cH (az bK (sv 0) (az gG aa aa)) aH rfl) rfl)) (cH (az gB (sv 0) (az gG aa aa)) (cH aa aH rfl) rfl) rfl)
 exact aq
noncomputable abbrev s21:=top 27
noncomputable def b21:List S:=[.ifs (.cmp .gt (.idx (.var 0) (.con (.int 0))) (.con (.int 0))) [.asg 2 (.bin .mod (.idx (.var 0) (.con (.int 0))) (.var 1)),.qY 0 (.con (.int 0)) (.bin .fdiv (.idx (.var 0) (.con (.int 0))) (.var 1)),.ret (.var 2)] [],.qY 0 (.con (.int 2)) (.bin .add (.idx (.var 0) (.con (.int 2))) (.con (.int 1))),.asg 3 (.bin .mod (.bin .add (.idx (.var 0) (.con (.int 1))) (.bin .mul (.con (.int 7919)) (.idx (.var 0) (.con (.int 2))))) (.con (.int 1000000007))),.asg 4 (.bin .mod (.bin .mul (.bin .add (.var 3) (.con (.int 11))) (.bin .add (.var 3) (.con (.int 48271)))) (.con (.int 998244353))),.ret (.bin .mod (.bin .fdiv (.bin .mod (.bin .mul (.var 4) (.var 4)) (.con (.int 2147483647))) (.con (.int 8))) (.var 1))]
noncomputable def Y0:Fd:=⟨2,5,b21⟩
theorem Z4:aN ["pool","base","digit","near","stir"] ["pool","base"] (aC s21):=nofun
include cl in
theorem d21(Fu:gD K "_law_next" "_law_next" s21 f fd):bV Pg w K mg base gh (k+1) f fd ["pool","base"] (gF K 2 (fun args=>enter c n Y0 args)):=by
 exists Fu,Z4,0,0;refine aU ?_ ?_;.exists bY ?_ ?_ ?_;exact aW mq (ao (sv 0) aa) aa (aM _);(· lia;(· exists 2,az gB (ao (sv 0) aa) (sv 1));(· lia;exact iw (k:=0) rfl (by first|exact Or.inl rfl|exact Or.inr (Or.inl rfl)) aa (az u6 (ao (sv 0) aa) (sv 1));(· lia;(· exists(),sv 2);exact aq)));exact aq
 lia;.exact(iw (k:=0) rfl (by first|exact Or.inl rfl|exact Or.inr (Or.inl rfl)) aa (az aV (ao (sv 0) aa) aa))
 lia;.exists 3,az gB (az aV (ao (sv 0) aa) (az gA aa (ao (sv 0) aa))) aa
 lia;.exists 4,az gB (az gA (az aV (sv 3) aa) (az aV (sv 3) aa)) aa
 lia;.exists(),az gB (az u6 (az gB (az gA (sv 4) (sv 4)) aa) aa) (sv 1)
 exact aq
noncomputable abbrev s22:=top 28
noncomputable def b22:List S:=[.ifs (.cmp .gt (.idx (.var 0) (.con (.int 0))) (.con (.int 0))) [.ret (.call 21 [.var 0,.var 1])] [],.asg 2 (.con (.int 0)),.gq (.oX (.con (.int 0)) (.con (.int 4))) [3] true [.asg 2 (.bin .add (.bin .mul (.var 2) (.bin .pow (.con (.int 10)) (.con (.int 7)))) (.call 21 [.var 0,.bin .pow (.con (.int 10)) (.con (.int 7))]))],.ret (.bin .mod (.var 2) (.var 1))]
noncomputable def Xg:Fd:=⟨2,4,b22⟩
theorem aby:aN ["pool","base","found","k"] ["pool","base"] (aC s22):=nofun
include cl in
theorem d22(Fu:gD K "_law_wide" "_law_wide" s22 f fd)(aQ:mg "range"=none)(aA:au Pg w K mg base k c 21 "_law_next" 2):bV Pg w K mg base gh (k+1) f fd ["pool","base"] (gF K 2 (fun args=>enter c n Xg args)):=by
 exists Fu,aby,0,0;refine aU ?_ ?_;.exists bY ?_ ?_ ?_;exact aW mq (ao (sv 0) aa) aa (aM _);(· lia;(· exists(),cQ aA hr (aX (sv 0) (aX (sv 1) aB rfl) rfl));exact aq);exact aq
 lia;.exists 2,aa
 lia;.exists 3,eO rfl (by rfl) aQ aa,0;(· lia;(· exists 2,az aV (az gA (sv 2) (az gG aa aa)) (cQ aA hr (aX (sv 0) (aX (az gG aa aa) aB rfl) rfl)));exact aq)
 lia;.exists(),az gB (sv 2) (sv 1)
 exact aq
noncomputable abbrev s23:=top 29
noncomputable def b23:List S:=[.ifs (.cmp .eq (.call 21 [.var 0,.con (.int 3)]) (.con (.int 0))) [.asg 4 (.call 21 [.var 0,.var 1]),.asg 5 (.bin .mod (.bin .add (.bin .add (.var 4) (.con (.int 1))) (.call 21 [.var 0,.bin .sub (.var 1) (.con (.int 1))])) (.var 1))] [.asg 4 (.call 21 [.var 0,.bin .sub (.var 1) (.con (.int 1))]),.asg 5 (.bin .add (.bin .add (.var 4) (.con (.int 1))) (.call 21 [.var 0,.bin .sub (.bin .sub (.var 1) (.con (.int 1))) (.var 4)]))],.ret (.tup [.var 4,.var 5,.call 22 [.var 0,.bin .add (.var 2) (.con (.int 1))],.bin .add (.con (.int 1)) (.call 22 [.var 0,.var 3])])]
noncomputable def Yk:Fd:=⟨4,6,b23⟩
theorem aaf:aN ["pool","many","most","longest","start","to"] ["pool","many","most","longest"] (aC s23):=nofun
include cl in
theorem d23(Fu:gD K "_law_way" "_law_way" s23 f fd)(aA:au Pg w K mg base k c 21 "_law_next" 2)(gJ:au Pg w K mg base k c 22 "_law_wide" 2):bV Pg w K mg base gh (k+1) f fd ["pool","many","most","longest"] (gF K 4 (fun args=>enter c n Yk args)):=by
 exists Fu,aaf,0,0;refine aU ?_ ?_;.exists bY ?_ ?_ ?_;exact aW (bI (aK hr)) (cQ aA hr (aX (sv 0) (aX aa aB rfl) rfl)) aa (aM _);(· lia;(· exists 4,cQ aA hr (aX (sv 0) (aX (sv 1) aB rfl) rfl));(· lia;(· exists 5,az gB (az aV (az aV (sv 4) aa) (cQ aA hr (aX (sv 0) (aX (az bK (sv 1) aa) aB rfl) rfl))) (sv 1));exact aq));(· lia;(· exists 4,cQ aA hr (aX (sv 0) (aX (az bK (sv 1) aa) aB rfl) rfl));(· lia;(· exists 5,az aV (az aV (sv 4) aa) (cQ aA hr (aX (sv 0) (aX (az bK (az bK (sv 1) aa) (sv 4)) aB rfl) rfl)));exact aq))
 lia;.exists(),bJ (cH (sv 4) (cH (sv 5) (cH (cQ gJ hr (aX (sv 0) (aX (az aV (sv 2) aa) aB rfl) rfl)) (cH (az aV aa (cQ gJ hr (aX (sv 0) (aX (sv 3) aB rfl) rfl))) aH rfl) rfl) rfl) rfl)
 exact aq
noncomputable abbrev Z8:=top 30
noncomputable def b24:List S:=[.asg 3 (.bin .add (.con (.int 2)) (.call 21 [.var 0,.bin .sub (.var 1) (.con (.int 1))])),.asg 4 (.idx (.lst [.con (.int 1),.con (.int 3),.con (.int 9),.bin .pow (.con (.int 10)) (.con (.int 9))]) (.call 21 [.var 0,.con (.int 4)])),.asg 5 (.idx (.lst [.con (.int 1),.con (.int 2),.con (.int 4),.bin .pow (.con (.int 10)) (.con (.int 6))]) (.call 21 [.var 0,.con (.int 4)])),.asg 6 (.lst []),.gq (.oX (.con (.int 0)) (.call 21 [.var 0,.bin .add (.var 2) (.con (.int 1))])) [7] true [.app 6 (.call 23 [.var 0,.var 3,.var 4,.var 5]),.ifs (.cmp .eq (.call 21 [.var 0,.con (.int 6)]) (.con (.int 0))) [.qY 6 (.var 7) (.idx (.var 6) (.call 21 [.var 0,.bin .add (.var 7) (.con (.int 1))]))] []],.ret (.tup [.var 3,.blt .tuple [.var 6]])]
noncomputable def YT:Fd:=⟨3,8,b24⟩
theorem aai:aN ["pool","places","count","many","most","longest","ways","k"] ["pool","places","count"] (aC Z8):=nofun
include cl in
theorem d24(Fu:gD K "_law_net" "_law_net" Z8 f fd)(aQ:mg "range"=none)(cN:mg "tuple"=none)(aA:au Pg w K mg base k c 21 "_law_next" 2)(za:au Pg w K mg base k c 23 "_law_way" 4):bV Pg w K mg base gh (k+1) f fd ["pool","places","count"] (gF K 3 (fun args=>enter c n YT args)):=by
 exists Fu,aai,0,0;refine aU ?_ ?_;.exists 3,az aV aa (cQ aA hr (aX (sv 0) (aX (az bK (sv 1) aa) aB rfl) rfl))
 lia;.exists 4,ao (bU (uA [1,3,9] rfl (cH (az gG aa aa) aH rfl))) (cQ aA hr (aX (sv 0) (aX aa aB rfl) rfl))
 lia;.exists 5,ao (bU (uA [1,2,4] rfl (cH (az gG aa aa) aH rfl))) (cQ aA hr (aX (sv 0) (aX aa aB rfl) rfl))
 lia;.exists 6,bU aH
 lia;.exists 7,eO rfl (by rfl) aQ (cQ aA hr (aX (sv 0) (aX (az aV (sv 2) aa) aB rfl) rfl)),0;(· lia;exact gC (k:=6) rfl (by first|exact Or.inl rfl|exact Or.inr (Or.inl rfl)) (cQ za hr (aX (sv 0) (aX (sv 3) (aX (sv 4) (aX (sv 5) aB rfl) rfl) rfl) rfl));(· lia;(· exists bY ?_ ?_ ?_;exact aW (bI (aK hr)) (cQ aA hr (aX (sv 0) (aX aa aB rfl) rfl)) aa (aM _);(· lia;exact iw (k:=6) rfl (by first|exact Or.inl rfl|exact Or.inr (Or.inl rfl)) (sv 7) (ao (sv 6) (cQ aA hr (aX (sv 0) (aX (az aV (sv 7) aa) aB rfl) rfl)));exact aq);exact aq);exact aq))
 lia;.exists(),bJ (cH (sv 3) (cH (lH rfl (by rfl) cN (sv 6)) aH rfl) rfl)
 exact aq
noncomputable abbrev s25:=top 31
noncomputable def b25:List S:=[.asg 5 (.lst []),.asg 6 (.var 3),.gq (.oX (.con (.int 0)) (.bin .add (.idx (.var 1) (.con (.int 0))) (.con (.int 2)))) [7] true [.asg 8 (.comp (.oX (.con (.int 0)) (.blt .len [.var 2])) 1 [9] true (some (.and (.cmp .eq (.idx (.idx (.idx (.var 1) (.con (.int 1))) (.var 9)) (.con (.int 0))) (.var 6)) (.cmp .gt (.idx (.var 2) (.var 9)) (.con (.int 0))))) (.var 9)),.asg 8 (.comp (.var 8) 1 [9] true (some (.cmp .qH (.var 9) (.var 5))) (.var 9)),.ifs (.cmp .eq (.var 8) (.lst [])) [.ret (.lst [])] [],.app 5 (.idx (.var 8) (.call 21 [.var 0,.blt .len [.var 8]])),.asg 6 (.idx (.idx (.idx (.var 1) (.con (.int 1))) (.idx (.var 5) (.neg (.con (.int 1))))) (.con (.int 1))),.ifs (.cmp .eq (.var 6) (.var 4)) [.ret (.var 5)] []],.ret (.lst [])]
noncomputable def Xn:Fd:=⟨5,9,b25⟩
theorem aab:aN ["pool","net","left","start","goal","trail","place","turn","outs"] ["pool","net","left","start","goal"] (aC s25):=nofun
include cl in
theorem d25(Fu:gD K "_law_trail" "_law_trail" s25 f fd)(bH:mg "len"=none)(aQ:mg "range"=none)(aA:au Pg w K mg base k c 21 "_law_next" 2):bV Pg w K mg base gh (k+1) f fd ["pool","net","left","start","goal"] (gF K 5 (fun args=>enter c n Xn args)):=by
 exists Fu,aab,0,0;refine aU ?_ ?_;.exists fu (i:=5) ?_ ?_ ?_ ?_ ?_ ?_;exact nd;exact rfl;exact Or.inr rfl;rotate_left;rfl;exact oi;exact bU aH
 lia;.exists fu (i:=6) ?_ ?_ ?_ ?_ ?_ ?_;exact nd;exact rfl;exact Or.inr rfl;rotate_left;rfl;exact oi;exact sv 3
 lia;.exists 7,eO rfl (by rfl) aQ (az aV (ao (sv 1) aa) aa),0;(· lia;exact oW (i:=8) (N':=["pool","net","left","start","goal","trail","place","turn","outs","k"]) hc nd rfl oi (uW rfl (by rfl)) (eO rfl (by rfl) aQ (cW rfl (by rfl) bH (sv 2))) (fun _ _ _ _ _=>aJ (i:=9) ‹["pool","net","left","start","goal","trail","place","turn","outs","k"]› rfl (Or.inl rfl) (Or.inr rfl)) (cG (le_refl _)) (fun _ _ _ _ _=>jD (SW.st (uM (aW (bI (aK hr)) (ao (ao (ao (sv 1) aa) (sv 9)) aa) (sv 6) (aM _)) (oR (aW mq (ao (sv 2) (sv 9)) aa (aM _)))))) (fun _ _ _ _ _=>(sv 9)) (by rfl) (by intro _;rfl) (Or.inl rfl);(· lia;exact oW (i:=8) (N':=["pool","net","left","start","goal","trail","place","turn","outs","k"]) hc nd rfl oi (uW rfl (by rfl)) (dg (sv 8)) (fun _ _ _ _ _=>aJ (i:=9) ‹["pool","net","left","start","goal","trail","place","turn","outs","k"]› rfl (Or.inl rfl) (Or.inr rfl)) (cG (le_refl _)) (fun _ _ _ _ _=>jD (aW m5 (sv 9) (sv 5) (by with_unfolding_all rfl))) (fun _ _ _ _ _=>(sv 9)) (by rfl) (by intro _;rfl) (Or.inl rfl);(· lia;(· exists bY ?_ ?_ ?_;exact aW (bI (aK hr)) (sv 8) (bU aH) (aM _);(· lia;(· exists(),bU aH);exact aq);exact aq);(· lia;exact gC (k:=5) rfl (by first|exact Or.inl rfl|exact Or.inr (Or.inl rfl)) (ao (sv 8) (cQ aA hr (aX (sv 0) (aX (cW rfl (by rfl) bH (sv 8)) aB rfl) rfl)));(· lia;(· exists fu (i:=6) ?_ ?_ ?_ ?_ ?_ ?_;exact nd;exact rfl;exact Or.inr rfl;rotate_left;rfl;exact oi;exact ao (ao (ao (sv 1) aa) (ao (sv 5) (iC aa))) aa);(· lia;(· exists bY ?_ ?_ ?_;exact aW (bI (aK hr)) (sv 6) (sv 4) (aM _);(· lia;(· exists(),sv 5);exact aq);exact aq);exact aq))))))
 lia;.exists(),bU aH
 exact aq
noncomputable abbrev s26:=top 32
noncomputable def b26:List S:=[.asg 2 (.comp (.idx (.var 1) (.con (.int 1))) 1 [11] true none (.idx (.var 11) (.con (.int 2)))),.asg 3 (.bin .mul (.lst [.con (.int 0)]) (.blt .len [.var 2])),.gq (.oX (.con (.int 0)) (.bin .add (.con (.int 1)) (.call 21 [.var 0,.con (.int 6)]))) [4] true [.par 5 6 (.con (.int 0)) (.bin .sub (.idx (.var 1) (.con (.int 0))) (.con (.int 1))),.ifs (.cmp .eq (.call 21 [.var 0,.con (.int 4)]) (.con (.int 0))) [.asg 5 (.call 21 [.var 0,.idx (.var 1) (.con (.int 0))]),.asg 6 (.var 5)] [],.asg 7 (.call 25 [.var 0,.var 1,.var 2,.var 5,.var 6]),.ifs (.cmp .ne (.var 7) (.lst [])) [.asg 8 (.blt .Cw [.comp (.var 7) 1 [11] true none (.idx (.var 2) (.var 11))]),.asg 9 (.idx (.lst [.var 8,.bin .add (.con (.int 1)) (.call 22 [.var 0,.var 8])]) (.call 21 [.var 0,.con (.int 2)])),.gq (.var 7) [10] true [.qY 2 (.var 10) (.bin .sub (.idx (.var 2) (.var 10)) (.var 9)),.qY 3 (.var 10) (.bin .add (.idx (.var 3) (.var 10)) (.var 9))]] []],.ret (.var 3)]
noncomputable def Xf:Fd:=⟨2,11,b26⟩
theorem abV:aN ["pool","net","left","stream","turn","start","goal","trail","most","loads","k"] ["pool","net"] (aC s26):=nofun
include cl in
theorem d26(Fu:gD K "_law_stream" "_law_stream" s26 f fd)(bH:mg "len"=none)(sY:mg "min"=none)(aQ:mg "range"=none)(aA:au Pg w K mg base k c 21 "_law_next" 2)(iR:au Pg w K mg base k c 25 "_law_trail" 5)(gJ:au Pg w K mg base k c 22 "_law_wide" 2):bV Pg w K mg base gh (k+1) f fd ["pool","net"] (gF K 2 (fun args=>enter c n Xf args)):=by
 exists Fu,abV,0,0;refine aU ?_ ?_;.exists fu (i:=2) ?_ ?_ ?_ ?_ ?_ ?_;exact nd;exact rfl;exact Or.inr rfl;rotate_left;rfl;exact oi;exact di (N':=["pool","net","left","stream","turn","start","goal","trail","most","loads","k","way"]) hc (uW rfl (by rfl)) (dg (ao (sv 1) aa)) (fun _ _ _ _ _=>aJ (i:=11) ‹["pool","net","left","stream","turn","start","goal","trail","most","loads","k","way"]› rfl (Or.inl rfl) (Or.inr rfl)) (cG (le_refl _)) (fun _ _ _ _ _=>dD) (fun _ _ _ _ _=>(ao (sv 11) aa))
 lia;.exists 3,az gA (bU (cH aa aH rfl)) (cW rfl (by rfl) bH (sv 2))
 lia;.exists 4,eO rfl (by rfl) aQ (az aV aa (cQ aA hr (aX (sv 0) (aX aa aB rfl) rfl))),0;(· lia;exact OD (i:=5) (j:=6) hc nd rfl rfl (by decide) rfl rfl aa (az bK (ao (sv 1) aa) aa);(· lia;(· exists bY ?_ ?_ ?_;exact aW (bI (aK hr)) (cQ aA hr (aX (sv 0) (aX aa aB rfl) rfl)) aa (aM _);(· lia;(· exists 5,cQ aA hr (aX (sv 0) (aX (ao (sv 1) aa) aB rfl) rfl));(· lia;(· exists 6,sv 5);exact aq));exact aq);(· lia;(· exists 7,cQ iR hr (aX (sv 0) (aX (sv 1) (aX (sv 2) (aX (sv 5) (aX (sv 6) aB rfl) rfl) rfl) rfl) rfl));(· lia;(· exists bY ?_ ?_ ?_;exact aW (jz (aK hr)) (sv 7) (bU aH) (aM _);(· lia;(· exists 8,zM rfl hc (by rfl) sY (di (N':=["pool","net","left","stream","turn","start","goal","trail","most","loads","k#10","k"]) hc (uW rfl (by rfl)) (dg (sv 7)) (fun _ _ _ _ _=>aJ (i:=11) ‹["pool","net","left","stream","turn","start","goal","trail","most","loads","k#10","k"]› rfl (Or.inl rfl) (Or.inr rfl)) (cG (le_refl _)) (fun _ _ _ _ _=>dD) (fun _ _ _ _ _=>(ao (sv 2) (sv 11)))));(· lia;(· exists 9,ao (bU (cH (sv 8) (cH (az aV aa (cQ gJ hr (aX (sv 0) (aX (sv 8) aB rfl) rfl))) aH rfl) rfl)) (cQ aA hr (aX (sv 0) (aX aa aB rfl) rfl)));(· lia;(· exists 10,dg (sv 7),0;(· lia;exact iw (k:=2) rfl (by first|exact Or.inl rfl|exact Or.inr (Or.inl rfl)) (sv 10) (az bK (ao (sv 2) (sv 10)) (sv 9));(· lia;exact iw (k:=3) rfl (by first|exact Or.inl rfl|exact Or.inr (Or.inl rfl)) (sv 10) (az aV (ao (sv 3) (sv 10)) (sv 9));exact aq)));exact aq)));exact aq);exact aq))))
 lia;.exists(),sv 3
 exact aq
noncomputable abbrev s27:=top 33
noncomputable def b27:List S:=[.asg 3 (.con (.int 0)),.gq (.oX (.con (.int 0)) (.blt .len [.idx (.var 0) (.con (.int 1))])) [4] true [.T6 [5,6,7,8] (.idx (.idx (.var 0) (.con (.int 1))) (.var 4)),.ifs (.cmp .eq (.var 5) (.var 2)) [.asg 3 (.bin .add (.var 3) (.idx (.var 1) (.var 4)))] [],.ifs (.cmp .eq (.var 6) (.var 2)) [.asg 3 (.bin .sub (.var 3) (.idx (.var 1) (.var 4)))] []],.ret (.var 3)]
noncomputable def Vo:Fd:=⟨3,9,b27⟩
theorem ZS:aN ["net","stream","place","found","k","start","to","room","hours"] ["net","stream","place"] (aC s27):=nofun
include cl in
theorem d27(Fu:gD K "_law_over" "_law_over" s27 f fd)(bH:mg "len"=none)(aQ:mg "range"=none):bV Pg w K mg base gh (k+1) f fd ["net","stream","place"] (gF K 3 (fun args=>enter c n Vo args)):=by
 exists Fu,ZS,0,0;refine aU ?_ ?_;.exists 3,aa
 lia;.exists 4,eO rfl (by rfl) aQ (cW rfl (by rfl) bH (ao (sv 0) aa)),0;(· lia;exact yI (ao (ao (sv 0) aa) (sv 4)) (gP hc (bh (aJ (i:=5) nd rfl oi oi) (bh (aJ (i:=6) nd rfl oi oi) (bh (aJ (i:=7) nd rfl oi oi) (bh (aJ (i:=8) nd rfl oi oi) eG))))) (mC rfl (cj _ _ (cj _ _ (cj _ _ (cj _ _ jC 8) 7) 6) 5));(· lia;(· exists bY ?_ ?_ ?_;exact aW (bI (aK hr)) (sv 5) (sv 2) (aM _);(· lia;(· exists 3,az aV (sv 3) (ao (sv 1) (sv 4)));exact aq);exact aq);(· lia;(· exists bY ?_ ?_ ?_;exact aW (bI (aK hr)) (sv 6) (sv 2) (aM _);(· lia;(· exists 3,az bK (sv 3) (ao (sv 1) (sv 4)));exact aq);exact aq);exact aq)))
 lia;.exists(),sv 3
 exact aq
noncomputable abbrev s28:=top 34
noncomputable def b28:List S:=[.ifs (.cmp .ne (.blt .len [.var 1]) (.blt .len [.idx (.var 0) (.con (.int 1))])) [.ret (.con (.bl false))] [],.gq (.oX (.con (.int 0)) (.blt .len [.var 1])) [2] true [.ifs (.or (.cmp .lt (.idx (.var 1) (.var 2)) (.con (.int 0))) (.cmp .gt (.idx (.var 1) (.var 2)) (.idx (.idx (.idx (.var 0) (.con (.int 1))) (.var 2)) (.con (.int 2))))) [.ret (.con (.bl false))] []],.gq (.oX (.con (.int 1)) (.bin .sub (.idx (.var 0) (.con (.int 0))) (.con (.int 1)))) [3] true [.ifs (.cmp .ne (.call 27 [.var 0,.var 1,.var 3]) (.con (.int 0))) [.ret (.con (.bl false))] []],.ret (.cmp .ge (.call 27 [.var 0,.var 1,.con (.int 0)]) (.con (.int 0)))]
noncomputable def Uz:Fd:=⟨2,4,b28⟩
theorem Z2:aN ["net","stream","k","place"] ["net","stream"] (aC s28):=nofun
include cl in
theorem d28(Fu:gD K "_law_is_stream" "_law_is_stream" s28 f fd)(bH:mg "len"=none)(aQ:mg "range"=none)(gK:au Pg w K mg base k c 27 "_law_over" 3):bV Pg w K mg base gh (k+1) f fd ["net","stream"] (gF K 2 (fun args=>enter c n Uz args)):=by
 exists Fu,Z2,0,0;refine aU ?_ ?_;.exists bY ?_ ?_ ?_;exact aW (jz (aK hr)) (cW rfl (by rfl) bH (sv 1)) (cW rfl (by rfl) bH (ao (sv 0) aa)) (aM _);(· lia;(· exists(),ie);exact aq);exact aq
 lia;.exists 2,eO rfl (by rfl) aQ (cW rfl (by rfl) bH (sv 1)),0;(· lia;(· exists bY ?_ ?_ ?_;exact SW.st (qu (aW (mJ (aK hr)) (ao (sv 1) (sv 2)) aa (aM _)) (m6 (aW mq (ao (sv 1) (sv 2)) (ao (ao (ao (sv 0) aa) (sv 2)) aa) (aM _))));(· lia;(· exists(),ie);exact aq);exact aq);exact aq)
 lia;.exists 3,uE rfl (by rfl) aQ aa (az bK (ao (sv 0) aa) aa),0;(· lia;(· exists bY ?_ ?_ ?_;exact aW (jz (aK hr)) (cQ gK hr (aX (sv 0) (aX (sv 1) (aX (sv 3) aB rfl) rfl) rfl)) aa (aM _);(· lia;(· exists(),ie);exact aq);exact aq);exact aq)
 lia;.exists(),fM Gr (cQ gK hr (aX (sv 0) (aX (sv 1) (aX aa aB rfl) rfl) rfl)) aa (aM _)
 exact aq
noncomputable abbrev s29:=top 35
noncomputable def b29:List S:=[.asg 2 (.con (.int 0)),.gq (.idx (.var 0) (.con (.int 1))) [3,4,5,6] false [.ifs (.and (.cmp .inn (.var 3) (.var 1)) (.cmp .qH (.var 4) (.var 1))) [.asg 2 (.bin .add (.var 2) (.var 5))] []],.ret (.var 2)]
noncomputable def Y8:Fd:=⟨2,7,b29⟩
theorem aak:aN ["net","side","found","start","to","room","hours"] ["net","side"] (aC s29):=nofun
include cl in
theorem d29(Fu:gD K "_law_side_room" "_law_side_room" s29 f fd):bV Pg w K mg base gh (k+1) f fd ["net","side"] (gF K 2 (fun args=>enter c n Y8 args)):=by
 exists Fu,aak,0,0;refine aU ?_ ?_;.exists 2,aa
 lia;.exact(tu PassesOwn.never hc (dg (ao (sv 0) aa)) (gP hc (bh (aJ (i:=3) nd rfl oi oi) (bh (aJ (i:=4) nd rfl oi oi) (bh (aJ (i:=5) nd rfl oi oi) (bh (aJ (i:=6) nd rfl oi oi) eG))))) (mC rfl (cj _ _ (cj _ _ (cj _ _ (cj _ _ jC 6) 5) 4) 3)) (by lia;(· exists bY ?_ ?_ ?_;exact SW.st (uM (aW zj (sv 3) (sv 1) (by with_unfolding_all rfl)) (oR (aW m5 (sv 4) (sv 1) (by with_unfolding_all rfl))));(· lia;(· exists 2,az aV (sv 2) (sv 5));exact aq);exact aq);exact aq))
 lia;.exists(),sv 2
 exact aq
noncomputable abbrev s30:=top 36
noncomputable def b30:List S:=[.T6 [2,3,4] (.var 1),.ifs (.or (.not (.call 28 [.var 0,.var 3])) (.or (.cmp .ne (.blt .list [.var 4]) (.blt .sset [.var 4])) (.cmp .eq (.var 4) (.tup [])))) [.ret (.con (.bl false))] [],.ifs (.or (.cmp .ne (.idx (.var 4) (.con (.int 0))) (.con (.int 0))) (.cmp .ge (.idx (.var 4) (.neg (.con (.int 1)))) (.bin .sub (.idx (.var 0) (.con (.int 0))) (.con (.int 1))))) [.ret (.con (.bl false))] [],.ret (.and (.cmp .eq (.call 27 [.var 0,.var 3,.con (.int 0)]) (.var 2)) (.cmp .eq (.call 29 [.var 0,.var 4]) (.var 2)))]
noncomputable def YB:Fd:=⟨2,5,b30⟩
theorem aaZ:aN ["net","told","rate","stream","side"] ["net","told"] (aC s30):=nofun
include cl in
theorem d30(Fu:gD K "_law_due" "_law_due" s30 f fd)(cM:mg "list"=none)(HJ:mg "set"=none)(iu:mg "sorted"=none)(m9:au Pg w K mg base k c 28 "_law_is_stream" 2)(gK:au Pg w K mg base k c 27 "_law_over" 3)(ni:au Pg w K mg base k c 29 "_law_side_room" 2):bV Pg w K mg base gh (k+1) f fd ["net","told"] (gF K 2 (fun args=>enter c n YB args)):=by
 exists Fu,aaZ,0,0;refine aU ?_ ?_;.exact(yI (sv 1) (gP hc (bh (aJ (i:=2) nd rfl oi oi) (bh (aJ (i:=3) nd rfl oi oi) (bh (aJ (i:=4) nd rfl oi oi) eG)))) (mC rfl (cj _ _ (cj _ _ (cj _ _ jC 4) 3) 2)))
 lia;.exists bY ?_ ?_ ?_;exact SW.st (qu (qm (iI (cQ m9 hr (aX (sv 0) (aX (sv 3) aB rfl) rfl)))) (qu (aW (jz (aK hr)) (lU rfl (by rfl) cM (sv 4)) (Jy rfl rfl hc (by rfl) iu (by rfl) HJ (sv 4)) (aM _)) (m6 (aW (bI (aK hr)) (sv 4) (bJ aH) (aM _)))));(· lia;(· exists(),ie);exact aq);exact aq
 lia;.exists bY ?_ ?_ ?_;exact SW.st (qu (aW (jz (aK hr)) (ao (sv 4) aa) aa (aM _)) (m6 (aW Gr (ao (sv 4) (iC aa)) (az bK (ao (sv 0) aa) aa) (aM _))));(· lia;(· exists(),ie);exact aq);exact aq
 lia;.exists(),mQ (fM (bI (aK hr)) (cQ gK hr (aX (sv 0) (aX (sv 3) (aX aa aB rfl) rfl) rfl)) (sv 2) (aM _)) (oH (fM (bI (aK hr)) (cQ ni hr (aX (sv 0) (aX (sv 4) aB rfl) rfl)) (sv 2) (aM _)))
 exact aq
noncomputable abbrev s31:=top 37
noncomputable def b31:List S:=[.asg 3 (.call 21 [.var 0,.con (.int 7)]),.ifs (.cmp .lt (.var 3) (.con (.int 3))) [.asg 4 (.call 21 [.var 0,.bin .shl (.con (.int 1)) (.bin .sub (.idx (.var 1) (.con (.int 0))) (.con (.int 2)))]),.ret (.bin .add (.tup [.con (.int 0)]) (.blt .tuple [.comp (.oX (.con (.int 1)) (.bin .sub (.idx (.var 1) (.con (.int 0))) (.con (.int 1)))) 1 [5] true (some (.cmp .eq (.bin .band (.bin .shr (.var 4) (.bin .sub (.var 5) (.con (.int 1)))) (.con (.int 1))) (.con (.int 1)))) (.var 5)]))] [],.ifs (.cmp .eq (.var 3) (.con (.int 3))) [.ret (.bin .add (.var 2) (.tup [.bin .sub (.idx (.var 1) (.con (.int 0))) (.con (.int 1))]))] [],.ifs (.cmp .eq (.var 3) (.con (.int 4))) [.ret (.slice (.var 2) (.con (.int 1)) (.con .non))] [],.ifs (.cmp .eq (.var 3) (.con (.int 5))) [.ret (.blt .rvs [.var 2])] [],.ret (.idx (.lst [.bin .add (.var 2) (.slice (.var 2) (.neg (.con (.int 1))) (.con .non)),.bin .add (.tup [.neg (.con (.int 1))]) (.var 2),.bin .add (.var 2) (.tup [.bin .pow (.con (.int 10)) (.con (.int 30))]),.bin .add (.tup [.con (.int 0),.con (.int 0)]) (.slice (.var 2) (.con (.int 1)) (.con .non))]) (.call 21 [.var 0,.con (.int 4)]))]
noncomputable def Yc:Fd:=⟨3,5,b31⟩
theorem acd:aN ["pool","net","side","way","bits"] ["pool","net","side"] (aC s31):=nofun
include cl in
theorem d31(Fu:gD K "_law_other_side" "_law_other_side" s31 f fd)(aQ:mg "range"=none)(cN:mg "tuple"=none)(aA:au Pg w K mg base k c 21 "_law_next" 2):bV Pg w K mg base gh (k+1) f fd ["pool","net","side"] (gF K 3 (fun args=>enter c n Yc args)):=by
 exists Fu,acd,0,0;refine aU ?_ ?_;.exists 3,cQ aA hr (aX (sv 0) (aX aa aB rfl) rfl)
 lia;.exists bY ?_ ?_ ?_;exact aW (mJ (aK hr)) (sv 3) aa (aM _);(· lia;(· exists fu (i:=4) ?_ ?_ ?_ ?_ ?_ ?_;exact nd;exact rfl;exact Or.inr rfl;rotate_left;rfl;exact oi;exact cQ aA hr (aX (sv 0) (aX (az Kd aa (az bK (ao (sv 1) aa) aa)) aB rfl) rfl));(· lia;(· exists(),az aV (bJ (cH aa aH rfl)) (lH rfl (by rfl) cN (di (N':=["pool","net","side","way","bits","place"]) hc (uW rfl (by rfl)) (uE rfl (by rfl) aQ aa (az bK (ao (sv 1) aa) aa)) (fun _ _ _ _ _=>aJ (i:=5) ‹["pool","net","side","way","bits","place"]› rfl (Or.inl rfl) (Or.inr rfl)) (cG (le_refl _)) (fun _ _ _ _ _=>jD (aW (bI (aK hr)) (az Ff (az Ky (sv 4) (az bK (sv 5) aa)) aa) aa (aM _))) (fun _ _ _ _ _=>(sv 5)))));exact aq));exact aq
 lia;.exists bY ?_ ?_ ?_;exact aW (bI (aK hr)) (sv 3) aa (aM _);(· lia;(· exists(),az aV (sv 2) (bJ (cH (az bK (ao (sv 1) aa) aa) aH rfl)));exact aq);exact aq
 lia;.exists bY ?_ ?_ ?_;exact aW (bI (aK hr)) (sv 3) aa (aM _);(· lia;(· exists(),fY (sv 2) (iG aa) iD);exact aq);exact aq
 lia;.exists bY ?_ ?_ ?_;exact aW (bI (aK hr)) (sv 3) aa (aM _);(· lia;(· exists(),PN (sv 2));exact aq);exact aq
 lia;.exists(),ao (bU (cH (az aV (sv 2) (fY (sv 2) (iG (iC aa)) iD)) (cH (az aV (bJ (cH (iC aa) aH rfl)) (sv 2)) (cH (az aV (sv 2) (bJ (cH (az gG aa aa) aH rfl))) (cH (az aV (bJ (cH aa (cH aa aH rfl) rfl)) (fY (sv 2) (iG aa) iD)) aH rfl) rfl) rfl) rfl)) (cQ aA hr (aX (sv 0) (aX aa aB rfl) rfl))
 exact aq
noncomputable abbrev s32:=top 38
noncomputable def b32:List S:=[.asg 3 (.blt .list [.var 2]),.ifs (.cmp .ne (.blt .len [.var 3]) (.blt .len [.idx (.var 1) (.con (.int 1))])) [.ret (.var 3)] [],.asg 4 (.comp (.oX (.con (.int 0)) (.blt .len [.var 3])) 1 [7] true none (.bin .sub (.idx (.idx (.idx (.var 1) (.con (.int 1))) (.var 7)) (.con (.int 2))) (.idx (.var 3) (.var 7)))),.asg 5 (.call 21 [.var 0,.idx (.var 1) (.con (.int 0))]),.gq (.call 25 [.var 0,.var 1,.var 4,.var 5,.var 5]) [6] true [.qY 3 (.var 6) (.bin .add (.idx (.var 3) (.var 6)) (.con (.int 1)))],.ret (.var 3)]
noncomputable def YL:Fd:=⟨3,7,b32⟩
theorem acf:aN ["pool","net","stream","some","left","start","k"] ["pool","net","stream"] (aC s32):=nofun
include cl in
theorem d32(Fu:gD K "_law_ringed" "_law_ringed" s32 f fd)(bH:mg "len"=none)(cM:mg "list"=none)(aQ:mg "range"=none)(aA:au Pg w K mg base k c 21 "_law_next" 2)(iR:au Pg w K mg base k c 25 "_law_trail" 5):bV Pg w K mg base gh (k+1) f fd ["pool","net","stream"] (gF K 3 (fun args=>enter c n YL args)):=by
 exists Fu,acf,0,0;refine aU ?_ ?_;.exists fu (i:=3) ?_ ?_ ?_ ?_ ?_ ?_;exact nd;exact rfl;exact Or.inr rfl;rotate_left;rfl;exact oi;exact lU rfl (by rfl) cM (sv 2)
 lia;.exists bY ?_ ?_ ?_;exact aW (jz (aK hr)) (cW rfl (by rfl) bH (sv 3)) (cW rfl (by rfl) bH (ao (sv 1) aa)) (aM _);(· lia;(· exists(),sv 3);exact aq);exact aq
 lia;.exact(oW (i:=4) (N':=["pool","net","stream","some","left","start","k#6","k"]) hc nd rfl oi (uW rfl (by rfl)) (eO rfl (by rfl) aQ (cW rfl (by rfl) bH (sv 3))) (fun _ _ _ _ _=>aJ (i:=7) ‹["pool","net","stream","some","left","start","k#6","k"]› rfl (Or.inl rfl) (Or.inr rfl)) (cG (le_refl _)) (fun _ _ _ _ _=>dD) (fun _ _ _ _ _=>(az bK (ao (ao (ao (sv 1) aa) (sv 7)) aa) (ao (sv 3) (sv 7)))) (by rfl) (by intro _;rfl) (Or.inl rfl))
 lia;.exists 5,cQ aA hr (aX (sv 0) (aX (ao (sv 1) aa) aB rfl) rfl)
 lia;.exists 6,dg (cQ iR hr (aX (sv 0) (aX (sv 1) (aX (sv 4) (aX (sv 5) (aX (sv 5) aB rfl) rfl) rfl) rfl) rfl)),0;(· lia;exact iw (k:=3) rfl (by first|exact Or.inl rfl|exact Or.inr (Or.inl rfl)) (sv 6) (az aV (ao (sv 3) (sv 6)) aa);exact aq)
 lia;.exists(),sv 3
 exact aq
noncomputable abbrev Z5:=top 39
noncomputable def b33:List S:=[.T6 [3,4,5] (.var 2),.asg 6 (.call 21 [.var 0,.con (.int 7)]),.ifs (.cmp .eq (.var 6) (.con (.int 0))) [.ret (.tup [.bin .add (.var 3) (.idx (.lst [.con (.int 1),.neg (.con (.int 1)),.bin .pow (.con (.int 10)) (.con (.int 30))]) (.call 21 [.var 0,.con (.int 3)])),.var 4,.var 5])] [],.ifs (.cmp .eq (.var 6) (.con (.int 1))) [.ret (.tup [.var 3,.call 26 [.var 0,.var 1],.var 5])] [],.ifs (.cmp .eq (.var 6) (.con (.int 2))) [.ret (.tup [.var 3,.call 32 [.var 0,.var 1,.var 4],.var 5])] [],.ifs (.and (.cmp .eq (.var 6) (.con (.int 3))) (.cmp .ne (.var 4) (.lst []))) [.asg 7 (.blt .list [.var 4]),.asg 8 (.call 21 [.var 0,.blt .len [.var 7]]),.qY 7 (.var 8) (.bin .sub (.bin .add (.idx (.var 7) (.var 8)) (.con (.int 1))) (.bin .mul (.con (.int 2)) (.call 21 [.var 0,.con (.int 2)]))),.ret (.tup [.var 3,.var 7,.var 5])] [],.ifs (.cmp .eq (.var 6) (.con (.int 4))) [.ret (.tup [.var 3,.idx (.lst [.bin .add (.var 4) (.lst [.con (.int 0)]),.slice (.var 4) (.con (.int 1)) (.con .non)]) (.call 21 [.var 0,.con (.int 2)]),.var 5])] [],.ret (.tup [.var 3,.var 4,.call 31 [.var 0,.var 1,.var 5]])]
noncomputable def Vw:Fd:=⟨3,9,b33⟩
theorem ab0:aN ["pool","net","told","rate","stream","side","way","some","at"] ["pool","net","told"] (aC Z5):=nofun
include cl in
theorem d33(Fu:gD K "_law_spoilt" "_law_spoilt" Z5 f fd)(bH:mg "len"=none)(cM:mg "list"=none)(aA:au Pg w K mg base k c 21 "_law_next" 2)(lY:au Pg w K mg base k c 31 "_law_other_side" 3)(qZ:au Pg w K mg base k c 32 "_law_ringed" 3)(rm:au Pg w K mg base k c 26 "_law_stream" 2):bV Pg w K mg base gh (k+1) f fd ["pool","net","told"] (gF K 3 (fun args=>enter c n Vw args)):=by
 exists Fu,ab0,0,0;refine aU ?_ ?_;.exact(yI (sv 2) (gP hc (bh (aJ (i:=3) nd rfl oi oi) (bh (aJ (i:=4) nd rfl oi oi) (bh (aJ (i:=5) nd rfl oi oi) eG)))) (mC rfl (cj _ _ (cj _ _ (cj _ _ jC 5) 4) 3)))
 lia;.exists 6,cQ aA hr (aX (sv 0) (aX aa aB rfl) rfl)
 lia;.exists bY ?_ ?_ ?_;exact aW (bI (aK hr)) (sv 6) aa (aM _);(· lia;(· exists(),bJ (cH (az aV (sv 3) (ao (bU (cH aa (cH (iC aa) (cH (az gG aa aa) aH rfl) rfl) rfl)) (cQ aA hr (aX (sv 0) (aX aa aB rfl) rfl)))) (cH (sv 4) (cH (sv 5) aH rfl) rfl) rfl));exact aq);exact aq
 lia;.exists bY ?_ ?_ ?_;exact aW (bI (aK hr)) (sv 6) aa (aM _);(· lia;(· exists(),bJ (cH (sv 3) (cH (cQ rm hr (aX (sv 0) (aX (sv 1) aB rfl) rfl)) (cH (sv 5) aH rfl) rfl) rfl));exact aq);exact aq
 lia;.exists bY ?_ ?_ ?_;exact aW (bI (aK hr)) (sv 6) aa (aM _);(· lia;(· exists(),bJ (cH (sv 3) (cH (cQ qZ hr (aX (sv 0) (aX (sv 1) (aX (sv 4) aB rfl) rfl) rfl)) (cH (sv 5) aH rfl) rfl) rfl));exact aq);exact aq
 lia;.exists bY ?_ ?_ ?_;exact SW.st (uM (aW (bI (aK hr)) (sv 6) aa (aM _)) (oR (aW (jz (aK hr)) (sv 4) (bU aH) (aM _))));(· lia;(· exists 7,lU rfl (by rfl) cM (sv 4));(· lia;(· exists 8,cQ aA hr (aX (sv 0) (aX (cW rfl (by rfl) bH (sv 7)) aB rfl) rfl));(· lia;exact iw (k:=7) rfl (by first|exact Or.inl rfl|exact Or.inr (Or.inl rfl)) (sv 8) (az bK (az aV (ao (sv 7) (sv 8)) aa) (az gA aa (cQ aA hr (aX (sv 0) (aX aa aB rfl) rfl))));(· lia;(· exists(),bJ (cH (sv 3) (cH (sv 7) (cH (sv 5) aH rfl) rfl) rfl));exact aq))));exact aq
 lia;.exists bY ?_ ?_ ?_;exact aW (bI (aK hr)) (sv 6) aa (aM _);(· lia;(· exists(),bJ (cH (sv 3) (cH (ao (bU (cH (az aV (sv 4) (bU (cH aa aH rfl))) (cH (fY (sv 4) (iG aa) iD) aH rfl) rfl)) (cQ aA hr (aX (sv 0) (aX aa aB rfl) rfl))) (cH (sv 5) aH rfl) rfl) rfl));exact aq);exact aq
 lia;.exists(),bJ (cH (sv 3) (cH (sv 4) (cH (cQ lY hr (aX (sv 0) (aX (sv 1) (aX (sv 5) aB rfl) rfl) rfl)) aH rfl) rfl) rfl)
 exact aq
noncomputable abbrev s34:=top 40
noncomputable def b34:List S:=[.asg 2 (.tup [.idx (.var 1) (.con (.int 0)),.blt .list [.idx (.var 1) (.con (.int 1))],.idx (.var 1) (.con (.int 2))]),.asg 3 (.call 19 [.var 0,.var 2]),.ret (.and (.inst [.bool] (.var 3)) (.and (.cmp .eq (.var 3) (.call 30 [.var 0,.var 1])) (.cmp .eq (.idx (.var 2) (.con (.int 1))) (.idx (.var 1) (.con (.int 1))))))]
noncomputable def XM:Fd:=⟨2,4,b34⟩
theorem abo:aN ["net","told","handed","found"] ["net","told"] (aC s34):=nofun
include cl in
theorem d34(Fu:gD K "_law_judged" "_law_judged" s34 f fd)(zb:mg "bool"=none)(iT:mg "isinstance"=none)(cM:mg "list"=none)(zc:au Pg w K mg base k c 30 "_law_due" 2)(oh:au Pg w K mg base k c 19 "fullest_right" 2):bV Pg w K mg base gh (k+1) f fd ["net","told"] (gF K 2 (fun args=>enter c n XM args)):=by
 exists Fu,abo,0,0;refine aU ?_ ?_;.exists 2,bJ (cH (ao (sv 1) aa) (cH (lU rfl (by rfl) cM (ao (sv 1) aa)) (cH (ao (sv 1) aa) aH rfl) rfl) rfl)
 lia;.exists 3,cQ oh hr (aX (sv 0) (aX (sv 2) aB rfl) rfl)
 lia;.exists(),mQ (FJ .bool rfl (by rfl) iT (sv 3) (by rfl) zb (by kernel_rfl) (by decide) (by rfl)) (mQ (fM (bI (aK hr)) (sv 3) (cQ zc hr (aX (sv 0) (aX (sv 1) aB rfl) rfl)) (aM _)) (oH (fM (bI (aK hr)) (ao (sv 2) aa) (ao (sv 1) aa) (aM _)))).ev
 exact aq
noncomputable abbrev ZJ:=top 41
noncomputable def b35:List S:=[.gq (.bin .add (.lst [.con (.int 0)]) (.var 0)) [1] true [.asg 2 (.call 20 [.var 1]),.asg 3 (.call 24 [.var 2,.con (.int 6),.con (.int 12)]),.asg 4 (.call 18 [.var 3]),.asg 5 (.comp (.oX (.con (.int 0)) (.con (.int 3))) 1 [8] true none (.call 33 [.var 2,.var 3,.var 4])),.asg 6 (.call 33 [.var 2,.var 3,.idx (.var 5) (.con (.int 0))]),.gq (.bin .add (.bin .add (.lst [.var 4]) (.var 5)) (.lst [.var 6,.var 4,.idx (.var 5) (.con (.int 0))])) [7] true [.ifs (.not (.call 34 [.var 3,.var 7])) [.ret (.con (.bl false))] []]],.ret (.con (.bl true))]
noncomputable def Yb:Fd:=⟨1,8,b35⟩
theorem acn:aN ["script","cell","pool","net","told","spoilt","twice","one"] ["script"] (aC ZJ):=nofun
include cl in
theorem d35(Fu:gD K "law" "law" ZJ f fd)(aQ:mg "range"=none)(rz:au Pg w K mg base k c 34 "_law_judged" 2)(zf:au Pg w K mg base k c 24 "_law_net" 3)(xg:au Pg w K mg base k c 20 "_law_pool" 1)(jX:au Pg w K mg base k c 33 "_law_spoilt" 3)(nj:au Pg w K mg base k c 18 "fullest_stream" 1):bV Pg w K mg base gh (k+1) f fd ["script"] (gF K 1 (fun args=>enter c n Yb args)):=by
 exists Fu,acn,0,0;refine aU ?_ ?_;.exists 1,dg (az aV (bU (cH aa aH rfl)) (sv 0)),0;(· lia;(· exists fu (i:=2) ?_ ?_ ?_ ?_ ?_ ?_;exact nd;exact rfl;exact Or.inr rfl;rotate_left;rfl;exact oi;exact cQ xg hr (aX (sv 1) aB rfl));(· lia;(· exists fu (i:=3) ?_ ?_ ?_ ?_ ?_ ?_;exact nd;exact rfl;exact Or.inr rfl;rotate_left;rfl;exact oi;exact cQ zf hr (aX (sv 2) (aX aa (aX aa aB rfl) rfl) rfl));(· lia;(· exists fu (i:=4) ?_ ?_ ?_ ?_ ?_ ?_;exact nd;exact rfl;exact Or.inr rfl;rotate_left;rfl;exact oi;exact cQ nj hr (aX (sv 3) aB rfl));(· lia;exact oW (i:=5) (N':=["script","cell","pool","net","told","spoilt","twice","one","turn"]) hc nd rfl oi (uW rfl (by rfl)) (eO rfl (by rfl) aQ aa) (fun _ _ _ _ _=>aJ (i:=8) ‹["script","cell","pool","net","told","spoilt","twice","one","turn"]› rfl (Or.inl rfl) (Or.inr rfl)) (cG (le_refl _)) (fun _ _ _ _ _=>dD) (fun _ _ _ _ _=>(cQ jX hr (aX (sv 2) (aX (sv 3) (aX (sv 4) aB rfl) rfl) rfl))) (by rfl) (by intro _;rfl) (Or.inl rfl);(· lia;(· exists 6,cQ jX hr (aX (sv 2) (aX (sv 3) (aX (ao (sv 5) aa) aB rfl) rfl) rfl));(· lia;(· exists 7,dg (az aV (az aV (bU (cH (sv 4) aH rfl)) (sv 5)) (bU (cH (sv 6) (cH (sv 4) (cH (ao (sv 5) aa) aH rfl) rfl) rfl))),0;(· lia;(· exists bY ?_ ?_ ?_;exact qm (iI (cQ rz hr (aX (sv 3) (aX (sv 7) aB rfl) rfl)));(· lia;(· exists(),ie);exact aq);exact aq);exact aq));exact aq))))))
 lia;.exists(),ie
 exact aq
end T
end
section
namespace T
open PySem L2 PySem.Spec PyProof.Rows HH
noncomputable def Γ:Tab:=fun i=>[f0,f1,f2,f3,f4,f5,f6,f7,f8,f9,Y6,f11,Ti,Y7,UT,Yx,Xp,Yq,XS,XQ,Za,Y0,Xg,Yk,YT,Xn,Xf,Vo,Uz,Y8,YB,Yc,YL,Vw,XM,Yb][i]?
end T
end
section
namespace T
open HH
local macro_rules|`(tactic|symm)=>`(tactic|first|apply aj|apply dG)
noncomputable abbrev big:Int:=1606938044258990275541962092341162602522202993782792835301376
theorem bf{w n:Nat}{x y z m:Int}{Q:R->List Sl->Prop}(h0:0<m)(h2:m<big)(k:∀d x z:Int,0<=d->d<m->Q (.val (.int d)) [.own true [.int x,.int y,.int z],.val false (.int m)]):(run Γ w (n+1) 21 [.own true [.int x,.int y,.int z],.val false (.int m)]).sat Q:=by
 have h3:m<1606938044258990275541962092341162602522202993782792835301376:=h2;refine aP (d:=Y0) rfl rfl (by decide) ?_;symm;simp[Y0];constructor;.intro _;symm;simp[h0];apply aj;simp[h0,h3,iH];apply aj;simp;exact k _ _ _ (Int.emod_nonneg _ (by omega)) (Int.emod_lt_of_pos _ h0)
 . intro _;symm;simp[iH];apply aj;simp;generalize hq:(y+7919*(z+1))%1000000007=q;have q0:0<=q/\q<1000000007:=by omega
   have q1:-18446744073709551616<q+11/\q+11<18446744073709551616:=by omega
   symm;simp[q1];generalize hs:(q+11)*(q+48271)%998244353=st;have q2:-18446744073709551616<st/\st<18446744073709551616:=by omega
   symm;simp[q2,h0];exact k _ _ _ (Int.emod_nonneg _ (by omega)) (Int.emod_lt_of_pos _ h0)
theorem Gw{w n:Nat}{x:Int}{Q:R->List Sl->Prop}(k:∀a b c:Int,Q (.own [.int a,.int b,.int c]) [.val false (.int x)]):(run Γ w (n+1) 20 [.val false (.int x)]).sat Q:=by refine aP (d:=Za) rfl rfl (by decide) ?_;symm;simp[Za];exact k _ _ _
inductive JW(y m:Int)(_:Nat)(ρ:List Sl):Prop where|mk(x z f:Int)(s:Sl)(q0:ρ=[.own true [.int x,.int y,.int z],.val false (.int m),.val false (.int f),s])(q1:fr s=true)
theorem pM{w n:Nat}{x y z m:Int}{Q:R->List Sl->Prop}(h0:0<m)(h2:m<big)(k:∀d x z:Int,0<=d->d<m->Q (.val (.int d)) [.own true [.int x,.int y,.int z],.val false (.int m)]):(run Γ w (n+2) 22 [.own true [.int x,.int y,.int z],.val false (.int m)]).sat Q:=by
 refine aP (d:=Xg) rfl rfl (by decide) ?_;symm;simp[Xg];constructor;.intro _;symm;simp;refine bf h0 h2 fun d x z h3 h4=>?_;simp;exact k _ _ _ h3 h4
 . intro _;symm;simp;apply aj;simp;refine dM (JW y m) ?_ ?_ ⟨x,z,0,.aZ,rfl,rfl⟩;.rintro i _ hi⟨x,z,f,s,rfl,hs⟩;simp[hs];apply aj;simp;refine bf (by decide) (by decide) fun d x z h3 h4=>?_;simp;exact⟨_,_,_,_,rfl,rfl⟩
   .rintro _⟨x,z,f,s,rfl,hs⟩;symm;simp[h0];exact k _ _ _ (Int.emod_nonneg _ (by omega)) (Int.emod_lt_of_pos _ h0)
structure Wy where(s t r h:Int)
noncomputable def Wy.d(w:Wy):D:=.tup [.int w.s,.int w.t,.int w.r,.int w.h]
structure Wy.Ok(m:Int)(w:Wy):Prop where
 s0:0<=w.s
 s1:w.s<m
 t0:0<=w.t
 t1:w.t<m
 ne:w.s≠w.t
 r0:0<=w.r
 r1:w.r<=1000000000
 h0:1<=w.h
 h1:w.h<=1000000
theorem other{a b m:Int}(h1:0<=a)(h2:a<m)(h3:0<=b)(h4:b<m-1):0<=(a+1+b)%m/\(a+1+b)%m<m/\(a+1+b)%m≠a:=by
 by_cases h:a+1+b<m;.rw[Int.emod_eq_of_lt (by omega) h];omega
 . have e:(a+1+b)%m=a+1+b-m:=by rw[<-Int.sub_emod_right,Int.emod_eq_of_lt (by omega) (by omega)]
   rw[e];omega
theorem aau(w:Wy):du 7 w.d=true:=rfl
theorem Yt{ds:List D}{k:Nat}(h:∀d∈ds,du k d=true):du (k+1) (.lst ds)=true:=by rw[du];exact all_eq_true.mpr h
theorem V0{ds:List D}{k:Nat}(h:∀d∈ds,du k d=true):du (k+1) (.tup ds)=true:=by rw[du];exact all_eq_true.mpr h
noncomputable def aR(m:Int)(ws:List Wy):D:=.tup [.int m,.tup (ws.map Wy.d)]
structure cI(m:Int)(ws:List Wy):Prop where
 m0:2<=m
 m1:m<=6
 len:ws.length<=12
 ok:∀w∈ws,w.Ok m
@[simp]theorem adQ{m:Int}{ws:List Wy}:J6 (aR m ws) (.int 0)=some (.val (.int m)):=rfl
@[simp]theorem adf{m:Int}{ws:List Wy}:J6 (aR m ws) (.int 1)=some (.val (.tup (ws.map Wy.d))):=rfl
theorem Ks{w n:Nat}{x y z m p l:Int}{Q:R->List Sl->Prop}(h0:2<=m)(h2:m<=6)(p0:1<=p)(p1:p<=1000000000)(l0:1<=l)(l1:l<=1000000)(k:∀(v:Wy)(x z:Int),v.Ok m->Q (.val v.d) [.own true [.int x,.int y,.int z],.val false (.int m),.val false (.int p),.val false (.int l)]):(run Γ w (n+3) 23 [.own true [.int x,.int y,.int z],.val false (.int m),.val false (.int p),.val false (.int l)]).sat Q:=by
 refine aP (d:=Yk) rfl rfl (by decide) ?_;refine dB (fun ρ=>∃x z s t,ρ=[.own true [.int x,.int y,.int z],.val false (.int m),.val false (.int p),.val false (.int l),.val false (.int s),.val false (.int t)]/\0<=s/\s<m/\0<=t/\t<m/\s≠t) ?_ ?_
 . simp[Yk];refine bf (by decide) (by decide) fun d x z _ _=>?_;simp;constructor;.intro _;symm;simp;refine bf (by omega) (by show _<(1606938044258990275541962092341162602522202993782792835301376:Int);omega) fun a x z ha1 ha2=>?_;simp;apply aj;simp;refine bf (by omega) (by show _<(1606938044258990275541962092341162602522202993782792835301376:Int);omega) fun b x z hb1 hb2=>?_;obtain⟨t0,t1,tn⟩:=other ha1 ha2 hb1 hb2;simp[show 0<m by omega];refine⟨_,_,_,_,⟨⟨rfl,rfl⟩,rfl,rfl⟩,?_⟩;omega
   .intro _;symm;simp;refine bf (by omega) (by show _<(1606938044258990275541962092341162602522202993782792835301376:Int);omega) fun a x z ha1 ha2=>?_;simp;apply aj;simp;refine bf (by omega) (by show _<(1606938044258990275541962092341162602522202993782792835301376:Int);omega) fun b x z hb1 hb2=>?_;simp;refine⟨_,_,_,_,⟨⟨rfl,rfl⟩,rfl,rfl⟩,?_⟩;omega
 rintro _⟨x,z,s,t,rfl,s0,s1,t0,t1,ne⟩;symm;simp;refine pM (by omega) (by show _<(1606938044258990275541962092341162602522202993782792835301376:Int);omega) fun r x z hr1 hr2=>?_;simp;refine pM (by omega) (by show _<(1606938044258990275541962092341162602522202993782792835301376:Int);omega) fun h x z hh1 hh2=>?_;simp;exact k ⟨s,t,r,1+h⟩ x z ⟨s0,s1,t0,t1,ne,hr1,by show r<=_;omega,by show 1<=1+h;omega,by show 1+h<=_;omega⟩
inductive JN(y m p l:Int)(i:Nat)(ρ:List Sl):Prop where|mk(x z:Int)(ws:List Wy)(s:Sl)(q0:ρ=[.own true [.int x,.int y,.int z],.val false (.int 6),.val false (.int 12),.val false (.int m),.val false (.int p),.val false (.int l),.own false (ws.map Wy.d),s])(q1:fr s=true)(q2:(∀w∈ws,w.Ok m))(q3:ws.length=i)
theorem Ld{a b c d i lo hi:Int}(h0:0<=i)(h1:i<4)(k1:lo<=a/\a<=hi/\lo<=b/\b<=hi)(k2:lo<=c/\c<=hi/\lo<=d/\d<=hi):∃r,at' [D.int a,D.int b,D.int c,D.int d] i=some (.int r)/\lo<=r/\r<=hi:=by
 have:i=0\/i=1\/i=2\/i=3:=by omega
 rcases this with rfl|rfl|rfl|rfl;.exact⟨a,Ve,by omega⟩
 .exact⟨b,Vm,by omega⟩
 .exact⟨c,Z0,by omega⟩
 .exact⟨d,aaX,by omega⟩
theorem Iz{w n:Nat}{x y z:Int}{Q:R->List Sl->Prop}(k:∀(m:Int)(ws:List Wy)(x z:Int),cI m ws->Q (.val (aR m ws)) [.own true [.int x,.int y,.int z],.val false (.int 6),.val false (.int 12)]):(run Γ w (n+4) 24 [.own true [.int x,.int y,.int z],.val false (.int 6),.val false (.int 12)]).sat Q:=by
 refine aP (d:=YT) rfl rfl (by decide) ?_;symm;simp[YT];refine bf (by decide) (by decide) fun d x z hd1 hd2=>?_;simp;obtain⟨m,hm,m0,m1⟩:∃m,m=2+d/\2<=m/\m<=6:=⟨_,rfl,by omega,by omega⟩;rw[<-hm];symm;simp;refine bf (by decide) (by decide) fun d x z hd1 hd2=>?_;simp;obtain⟨p,e,p0,p1⟩:∃r,at' [D.int 1,D.int 3,D.int 9,D.int 1000000000] d=some (.int r)/\1<=r/\r<=1000000000:=Ld hd1 hd2 (by omega) (by omega);rw[e];simp;apply aj;simp;refine bf (by decide) (by decide) fun d x z hd1 hd2=>?_;simp;obtain⟨l,e,l0,l1⟩:∃r,at' [D.int 1,D.int 2,D.int 4,D.int 1000000] d=some (.int r)/\1<=r/\r<=1000000:=Ld hd1 hd2 (by omega) (by omega);rw[e];simp;apply aj;simp;apply aj;simp;refine bf (by decide) (by decide) fun c x z hc1 hc2=>?_;simp;refine⟨by omega,?_⟩;refine dM (JN y m p l) ?_ ?_ ⟨x,z,[],.aZ,rfl,rfl,by simp,rfl⟩
 . rintro i _ hi⟨x,z,ws,s,rfl,hs,hw,hl⟩;simp[hs];apply aj;simp;refine Ks m0 m1 p0 p1 l0 l1 fun v x z hv=>?_;have hlim:ws.length<lim:=by show _<16777216;omega
   simp[hlim];have hw2:∀u∈ws++[v],u.Ok m:=fun u hu=>by
    rw[mem_append,mem_singleton]at hu;rcases hu with hu|rfl;.exact hw u hu
    .exact hv
   rw[show ws.map Wy.d++[v.d]=(ws++[v]).map Wy.d by simp];have hl2:(ws++[v]).length=i+1:=by simp[hl]
   generalize ws++[v]=us at*;symm;simp;refine bf (by decide) (by decide) fun c x z hc1 hc2=>?_;simp;constructor
   . intro _;symm;simp;refine bf (by omega) (by show _<(1606938044258990275541962092341162602522202993782792835301376:Int);omega) fun c x z hc1 hc2=>?_;simp;have hlt:c.toNat<us.length:=by omega
     rw[uI hc1 (by rw[length_map];omega),getElem?_map,getElem?_eq_getElem hlt];simp[qd (show i<us.length by omega)];refine⟨x,z,us.set i us[c.toNat],.val false (.int i),by simp,rfl,fun u hu=>?_,by simpa using hl2⟩;rcases List.mem_or_eq_of_mem_set hu with hu|rfl;.exact hw2 u hu
     .exact hw2 _ (getElem_mem hlt)
   .intro _;exact⟨x,z,us,_,rfl,rfl,hw2,hl2⟩
 .rintro _⟨x,z,ws,s,rfl,hs,hw,hl⟩;symm;simp;exact k m ws x z ⟨m0,m1,by omega,hw⟩
def path(ws:List Wy):Int->List Nat->Int->Prop|p,[],q=>p=q|p,k::ks,q=>∃w,ws[k]?=some w/\w.s=p/\path ws w.t ks q
theorem sV{ws:List Wy}{k:Nat}{w:Wy}(hk:ws[k]?=some w):∀{ks:List Nat}{p q:Int},path ws p ks q->w.s=q->path ws p (ks++[k]) w.t|[],p,q,h,e=>⟨w,hk,by rw[e];exact h.symm,rfl⟩|j::ks,p,q,⟨v,h1,h2,h3⟩,e=>⟨v,h1,h2,sV hk h3 e⟩
noncomputable def dot(c:Int->Int):List Wy->List Int->Int|w::ws,f::fs=>f*(c w.s-c w.t)+dot c ws fs|_,_=>0
theorem Ak{c:Int->Int}{l:Int}{w:Wy}{f:Int}:∀{k:Nat}{ws:List Wy}{fs:List Int},ws[k]?=some w->fs[k]?=some f->dot c ws (fs.set k (f+l))=dot c ws fs+l*(c w.s-c w.t)|_,[],_,h,_=>by simp at h|_,_,[],_,h=>by simp at h|0,v::ws,g::fs,h,h'=>by simp at h h';subst h h';simp only[List.set_cons_zero,dot,Int.add_mul];omega|k+1,v::ws,g::fs,h,h'=>by simp at h h';simp only[List.set_cons_succ,dot,Ak h h'];omega
theorem J9(c e:Int->Int):∀(ws:List Wy)(fs:List Int),dot (fun x=>c x+e x) ws fs=dot c ws fs+dot e ws fs
 |[],_=>rfl|_::_,[]=>rfl|w::ws,f::fs=>by
   simp only[dot,J9 c e ws fs];have:f*(c w.s+e w.s-(c w.t+e w.t))=f*(c w.s-c w.t)+f*(e w.s-e w.t):=by rw[<-Int.mul_add];congr 1;omega
   omega
theorem wD{c:Int->Int}:∀(ws:List Wy)(n:Nat),dot c ws (replicate n 0)=0|[],_=>rfl|_::_,0=>rfl|w::ws,n+1=>by simp only[replicate_succ,dot,wD ws n];omega
def Lh(ws:List Wy)(ls fs:List Int):Prop:=ls.length=ws.length/\fs.length=ws.length/\∀(k:Nat)(w:Wy)(l f:Int),ws[k]?=some w->ls[k]?=some l->fs[k]?=some f->0<=l/\0<=f/\l+f=w.r
theorem Lh.move{ws:List Wy}{ls fs:List Int}{k:Nat}{l f a:Int}(h:Lh ws ls fs)(hl:ls[k]?=some l)(hf:fs[k]?=some f)(h0:0<=a)(h1:a<=l):Lh ws (ls.set k (l-a)) (fs.set k (f+a)):=by
 refine⟨by simpa using h.1,by simpa using h.2.1,fun j w l' f' e1 e2 e3=>?_⟩;by_cases hj:j=k;.subst hj;have k1:=(List.getElem?_eq_some_iff.mp hl).1;have k2:=(List.getElem?_eq_some_iff.mp hf).1;rw[getElem?_set_self k1]at e2;rw[getElem?_set_self k2]at e3;cases e2;cases e3;have:=h.2.2 j w l f e1 hl hf;omega
 .rw[getElem?_set_ne (Ne.symm hj)]at e2 e3;exact h.2.2 j w l' f' e1 e2 e3
def Goes(m:Int)(ws:List Wy)(fs:List Int)(r:Int):Prop:=0<=r/\∀c:Int->Int,dot c ws fs=r*(c 0-c (m-1))
def Flow(m:Int)(ws:List Wy)(fs:List Int):Prop:=fs.length=ws.length/\(∀(k:Nat)(w:Wy)(f:Int),ws[k]?=some w->fs[k]?=some f->0<=f/\f<=w.r)/\(∀c:Int->Int,c 0=0->c (m-1)=0->dot c ws fs=0)/\∃r,Goes m ws fs r
theorem Lh.flow{m:Int}{ws:List Wy}{ls fs:List Int}{r:Int}(h:Lh ws ls fs)(hd:Goes m ws fs r):Flow m ws fs:=by refine⟨h.2.1,fun k w f e1 e2=>?_,fun c c0 c1=>by rw[hd.2,c0,c1];simp,r,hd⟩;have hk:=(List.getElem?_eq_some_iff.mp e1).1;obtain⟨l,hl⟩:∃l,ls[k]?=some l:=⟨ls[k]'(by rw[h.1];exact hk),by simp[h.1,hk]⟩;have:=h.2.2 k w l f e1 hl e2;omega
def Good(ws:List Wy)(ls:List Int)(ks:List Nat):Prop:=ks.Nodup/\∀k∈ks,∃l,ls[k]?=some l/\0<l
noncomputable def bA(ks:List Nat):List Int:=ks.map fun(k:Nat)=>(k:Int)
theorem qp{ks:List Nat}{k:Nat}:(bA ks).map D.int++[D.int (k:Int)]=(bA (ks++[k])).map D.int:=by simp[bA]
theorem Aw{ks:List Nat}{k:Nat}:(bA ks).contains (k:Int)=ks.contains k:=by induction ks with|nil=>rfl|cons a ks ih=>
   have:((k:Int)==(a:Int))=(k==a):=by rw[Bool.eq_iff_iff];simp;omega
   simp only[bA,map_cons,List.contains_cons,this]at ih ⊢;rw[ih]
inductive JT(y:Int)(m:Int)(ws:List Wy)(ls:List Int)(s g:Int)(i:Nat)(ρ:List Sl):Prop where|mk(x z:Int)(ks:List Nat)(p:Int)(s1 s2:Sl)(q0:ρ=[.own true [.int x,.int y,.int z],.val false (aR m ws),.own true (ls.map D.int),.val false (.int s),.val false (.int g),.own false ((bA ks).map D.int),.val false (.int p),s1,s2])(q1:fr s1=true)(q2:fr s2=true)(q3:path ws s ks p)(q4:Good ws ls ks)(q5:ks.length<=i)
inductive FT(a0 a1 a2 a3 a4 a5 a6 a7 a8:Sl)(ρ:List Sl):Prop where|mk(s:Sl)(q0:ρ=[a0,a1,a2,a3,a4,a5,a6,a7,a8,s])(q1:fr s=true)
def PT1(ws:List Wy)(ls:List Int)(p:Int)(d:D):Prop:=∃(k:Nat)(w:Wy)(l:Int),d=.int (k:Int)/\ws[k]?=some w/\w.s=p/\ls[k]?=some l/\0<l
def PT2(ws:List Wy)(ls:List Int)(p:Int)(ks:List Nat)(d:D):Prop:=∃(k:Nat)(w:Wy)(l:Int),d=.int (k:Int)/\ws[k]?=some w/\w.s=p/\ls[k]?=some l/\0<l/\k∉ks
theorem zV{ws:List Wy}{ls:List Int}{p:Int}{ks:List Nat}:∀{xs:List D},(∀x∈xs,PT2 ws ls p ks x)->∃ns:List Int,xs=ns.map D.int|[],_=>⟨[],rfl⟩|x::xs,h=>by obtain⟨k,_,_,rfl,_⟩:=h x (by simp);obtain⟨ns,rfl⟩:=zV (xs:=xs) fun y hy=>h y (by simp[hy]);exact⟨(k:Int)::ns,rfl⟩
theorem sO{w n:Nat}{x y z m s g:Int}{ws:List Wy}{ls:List Int}{Q:R->List Sl->Prop}(h:cI m ws)(hl:ls.length=ws.length)(k:∀(ks:List Nat)(x z:Int),(ks=[]\/(path ws s ks g/\Good ws ls ks/\ks.length<1000))->Q (.own ((bA ks).map D.int)) [.own true [.int x,.int y,.int z],.val false (aR m ws),.own true (ls.map D.int),.val false (.int s),.val false (.int g)]):(run Γ w (n+2) 25 [.own true [.int x,.int y,.int z],.val false (aR m ws),.own true (ls.map D.int),.val false (.int s),.val false (.int g)]).sat Q:=by
 have m0:=h.m0;have m1:=h.m1;have hn:=h.len;refine aP (d:=Xn) rfl rfl (by decide) ?_;symm;simp[Xn];apply aj;simp;apply aj;simp;refine⟨by omega,?_⟩;refine dM (JT y m ws ls s g) ?_ ?_ ⟨x,z,[],s,.aZ,.aZ,rfl,rfl,rfl,rfl,⟨by simp,by simp⟩,by decide⟩
 . rintro i _ hi⟨x,z,ks,p,s1,s2,rfl,h1,h2,hp,hg,hk⟩;simp[h1];have hlm:ls.length<=lim:=by show _<=16777216;omega
   symm;simp[show ls.length<=lim from hlm,show(ls.length:Int)<=1000000000 by omega,show-1000000000<=(ls.length:Int)by omega];refine mz (FT _ _ _ _ _ _ _ _ _) (PT1 ws ls p) ⟨.aZ,rfl,rfl⟩ ?_ ?_
   . rintro d hd _⟨s',rfl,hs'⟩;rw[mem_map]at hd;obtain⟨j,hj,rfl⟩:=hd;rw[mem_range]at hj;have hj2:j<ws.length:=by omega
     have e1:ws[j]?=some ws[j]:=by simp[hj2]
     have e2:ls[j]?=some ls[j]:=by simp[hj]
     simp[hs',bz e1,bz e2,Wy.d];refine⟨fun hp1=>?_,fun _=>⟨_,rfl,rfl⟩⟩;split;.rename_i hp2;exact⟨⟨j,_,_,rfl,e1,hp1,e2,hp2⟩,_,rfl,rfl⟩
     .exact⟨_,rfl,rfl⟩
   . rintro xs _⟨s',rfl,hs'⟩W8 hxs;simp at W8;simp[h2];apply aj;simp[show xs.length<=lim by show _<=16777216;omega];refine mz (FT _ _ _ _ _ _ _ _ _) (PT2 ws ls p ks) ⟨.aZ,rfl,rfl⟩ ?_ ?_
     . rintro d hd _⟨s',rfl,hs'⟩;obtain⟨j,v,l,rfl,e1,e2,e3,e4⟩:=hxs d hd;simp[hs',BX,Aw];split;.exact⟨_,rfl,rfl⟩
       .rename_i hj;exact⟨⟨j,v,l,rfl,e1,e2,e3,e4,fun hm=>hj (mem_map.mpr ⟨j,hm,rfl⟩)⟩,_,rfl,rfl⟩
     . rintro os _⟨s',rfl,hs'⟩hol hos;obtain⟨ns,rfl⟩:=zV hos;simp;apply aj;simp[Io];constructor;.intro _;symm;simp;exact k [] x z (.inl rfl)
       . intro hne;have hl0:0<ns.length:=List.length_pos_iff.mpr hne;simp at hol;apply aj;simp;refine bf (by omega) (by show _<(1606938044258990275541962092341162602522202993782792835301376:Int);omega) fun d x z hd1 hd2=>?_;simp;obtain⟨o,ho1,ho2⟩:=Ko (l:=ns.map D.int) hd1 (by simpa using hd2);obtain⟨j,v,l,rfl,e1,e2,e3,e4,e5⟩:=hos o ho2;rw[ho1];have hkl:(bA ks).length<lim:=by simp only[bA,length_map];show _<16777216;omega
         simp[hkl];rw[qp];have hg2:Good ws ls (ks++[j]):=by
          refine⟨nodup_append.mpr ⟨hg.1,by simp,fun a ha b hb e=>?_⟩,fun a ha=>?_⟩;.rw[mem_singleton]at hb;subst hb;subst e;exact e5 ha
          . rcases mem_append.mp ha with ha|ha;.exact hg.2 a ha
            .rw[mem_singleton.mp ha];exact⟨l,e3,e4⟩
         have hp2:=sV e1 hp e2;have hk2:(ks++[j]).length<=i+1:=by simp;omega
         have hat:at' ((bA (ks++[j])).map D.int) (-1)=some (.int j):=by rw[<-qp];exact Ir
         generalize ks++[j]=ks' at*;symm;simp[hat,bz e1,Wy.d];apply aj;simp;constructor;.intro he;symm;simp;exact k ks' x z (.inr ⟨by rw[<-he];exact hp2,hg2,by omega⟩)
         .intro _;exact⟨x,z,ks',_,_,_,rfl,rfl,rfl,hp2,hg2,hk2⟩
 .rintro _⟨x,z,ks,p,s1,s2,rfl,h1,h2,hp,hg,hk⟩;symm;simp;exact k [] x z (.inl rfl)
inductive JS(y:Int)(m:Int)(ws:List Wy)(_:Nat)(ρ:List Sl):Prop where|mk(x z:Int)(ls fs:List Int)(s4 s5 s6 s7 s8 s9 jJ:Sl)(q0:ρ=[.own true [.int x,.int y,.int z],.val false (aR m ws),.own false (ls.map D.int),.own false (fs.map D.int),s4,s5,s6,s7,s8,s9,jJ])(q1:A7 (fr s4=true) (fr s5=true) (fr s6=true) (fr s7=true) (fr s8=true) (fr s9=true) (fr jJ=true))(q2:Lh ws ls fs)(q3:∃r,Goes m ws fs r)
inductive JI(m:Int)(ws:List Wy)(a0 a1 a4 a5 a6 a7 a8 a9:Sl)(s g lo q:Int)(r:List D)(ρ:List Sl):Prop where|mk(ls fs:List Int)(ks:List Nat)(p:Int)(jJ:Sl)(q0:ρ=[a0,a1,.own false (ls.map D.int),.own false (fs.map D.int),a4,a5,a6,a7,a8,a9,jJ])(q1:fr jJ=true)(q2:r=(bA ks).map D.int)(q3:Lh ws ls fs)(q4:path ws p ks g)(q5:ks.Nodup)(q6:(∀k∈ks,∃l,ls[k]?=some l/\lo<=l))(q7:∀c:Int->Int,dot c ws fs=q*(c 0-c (m-1))+lo*(c s-c p))
inductive FS(a0 a1 a2 a3 a4 a5 a6 a7 a8 a9 a10:Sl)(ρ:List Sl):Prop where|mk(s:Sl)(q0:ρ=[a0,a1,a2,a3,a4,a5,a6,a7,a8,a9,a10,s])(q1:fr s=true)
noncomputable def Ej:D->D|.tup (_::_::r::_)=>r|d=>d
theorem Bv{ws:List Wy}:(ws.map Wy.d).map Ej=(ws.map Wy.r).map D.int:=by rw[map_map,map_map];rfl
noncomputable def iV(ls:List Int):D->D|.int i=>.int (ls.getD i.toNat 0)|d=>d
theorem jg{ls:List Int}{ks:List Nat}:((bA ks).map D.int).map (iV ls)=(ks.map fun k=>ls.getD k 0).map D.int:=by simp only[bA,map_map];apply map_congr_left;intro k _;simp[iV]
theorem FZ{ns:List Int}(h:ns≠[]):∃i,ns.min?=some i/\i∈ns/\∀j∈ns,i<=j:=by cases e:ns.min? with|none=>rw[List.min?_eq_none_iff]at e;exact absurd e h|some i=>have:=List.min?_eq_some_iff.mp e;exact⟨i,rfl,this.1,this.2⟩
theorem aae{m:Int}{ws:List Wy}(h:cI m ws):Lh ws (ws.map Wy.r) (replicate ws.length 0):=by refine⟨by simp,by simp,fun k w l f e1 e2 e3=>?_⟩;have hw:=h.ok w (mem_of_getElem? e1);rw[getElem?_map,e1]at e2;cases e2;have hk:=(List.getElem?_eq_some_iff.mp e1).1;rw[getElem?_replicate,if_pos hk]at e3;cases e3;have:=hw.r0;omega
theorem yP{w n:Nat}{x y z m:Int}{ws:List Wy}{Q:R->List Sl->Prop}(h:cI m ws)(k:∀(fs:List Int)(x z:Int),Flow m ws fs->Q (.own (fs.map D.int)) [.own true [.int x,.int y,.int z],.val false (aR m ws)]):(run Γ w (n+3) 26 [.own true [.int x,.int y,.int z],.val false (aR m ws)]).sat Q:=by
 have m0:=h.m0;have m1:=h.m1;have hn:=h.len;refine aP (d:=Xf) rfl rfl (by decide) ?_;refine dB (fun ρ=>ρ=[.own true [.int x,.int y,.int z],.val false (aR m ws),.own false ((ws.map Wy.r).map D.int),.aZ,.aZ,.aZ,.aZ,.aZ,.aZ,.aZ,.aZ]) ?_ ?_
 . simp[Xf,show ws.length<=lim by show _<=16777216;omega];refine cC (FS _ _ _ _ _ _ _ _ _ _ _) Ej ⟨.aZ,rfl,rfl⟩ ?_ ?_;.rintro d hd _⟨s',rfl,hs'⟩;obtain⟨v,_,rfl⟩:=mem_map.mp hd;simp[hs',Wy.d,Ej];exact⟨_,rfl,rfl⟩
   rintro _⟨s',rfl,hs'⟩;rw[Bv];simp
 rintro _ rfl;symm;simp[show ws.length<=lim by show _<=16777216;omega];apply aj;simp;refine bf (by decide) (by decide) fun d x z hd1 hd2=>?_;simp;refine⟨by omega,?_⟩;refine dM (JS y m ws) ?_ ?_ ⟨x,z,ws.map Wy.r,replicate ws.length 0,.aZ,.aZ,.aZ,.aZ,.aZ,.aZ,.aZ,?_,⟨rfl,rfl,rfl,rfl,rfl,rfl,rfl⟩,aae h,0,Int.le_refl _,fun c=>by rw[wD];simp⟩
 . rintro i _ hi⟨x,z,ls,fs,s4,s5,s6,s7,s8,s9,jJ,rfl,⟨h4,h5,h6,h7,h8,h9,h10⟩,hb,q,q0,hd⟩;simp[h4];apply aj;simp[h5,h6];refine dB (fun ρ=>∃(x z s g:Int),ρ=[.own true [.int x,.int y,.int z],.val false (aR m ws),.own false (ls.map D.int),.own false (fs.map D.int),.val false (.int i),.val false (.int s),.val false (.int g),s7,s8,s9,jJ]/\((s=0/\g=m-1)\/s=g)) ?_ ?_
   . simp;refine bf (by decide) (by decide) fun d x z hd1 hd2=>?_;simp;constructor;.intro _;symm;simp;refine bf (by omega) (by show _<(1606938044258990275541962092341162602522202993782792835301376:Int);omega) fun d x z hd1 hd2=>?_;simp;apply aj;simp;exact⟨_,_,_,_,⟨⟨rfl,rfl⟩,rfl,rfl⟩,.inr rfl⟩
     .intro _;exact⟨_,_,_,_,⟨⟨rfl,rfl⟩,rfl,rfl⟩,.inl ⟨rfl,rfl⟩⟩
   rintro _⟨x,z,s,g,rfl,hsg⟩;symm;simp;refine sO h hb.1 fun ks x z hks=>?_;simp[h7];apply aj;simp[uw];constructor;rotate_left
   . intro hne;have hne:ks≠[]:=by rintro rfl;exact hne rfl
     obtain⟨hp,hg,hkl⟩:=hks.resolve_left hne;symm;simp[show(bA ks).length<=lim by simp only[bA,length_map];show _<=16777216;omega];refine cC (FS _ _ _ _ _ _ _ _ _ _ _) (iV ls) ⟨.aZ,rfl,rfl⟩ ?_ ?_;.rintro d hd _⟨s',rfl,hs'⟩;simp only[bA,map_map,mem_map]at hd;obtain⟨k,hk,rfl⟩:=hd;obtain⟨l,hl,_⟩:=hg.2 k hk;simp[hs',bz hl,iV,hl];exact⟨_,rfl,rfl⟩
     rintro _⟨s',rfl,hs'⟩;rw[jg];obtain⟨ns,hns⟩:∃ns,ns=ks.map fun k=>ls.getD k 0:=⟨_,rfl⟩;rw[<-hns];obtain⟨mo,hm1,hm2,hm3⟩:=FZ (ns:=ns) (by rw[hns];simpa using hne);simp[pg,hm1,h8];have hmo:0<mo/\mo<=1000000000:=by
      rw[hns]at hm2;obtain⟨k,hk,e⟩:=mem_map.mp hm2;obtain⟨l,hl,hl0⟩:=hg.2 k hk;have e:l=mo:=by simpa[hl]using e
      subst e;refine⟨hl0,?_⟩;have hk1:=(List.getElem?_eq_some_iff.mp hl).1;have hkw:k<ws.length:=by rw[<-hb.1];exact hk1
      have hkf:k<fs.length:=by rw[hb.2.1];exact hkw
      have e1:ws[k]?=some ws[k]:=by simp[hkw]
      have e3:fs[k]?=some fs[k]:=by simp[hkf]
      have:=hb.2.2 k _ _ _ e1 hl e3;have:=(h.ok _ (getElem_mem hkw)).r1;omega
     have hle:∀k∈ks,∃l,ls[k]?=some l/\mo<=l:=fun k hk=>by obtain⟨l,hl,hl0⟩:=hg.2 k hk;refine⟨l,hl,hm3 l (by rw[hns];exact mem_map.mpr ⟨k,hk,by simp[hl]⟩)⟩
     symm;simp;refine pM hmo.1 (by show _<(1606938044258990275541962092341162602522202993782792835301376:Int);omega) fun dd x z hd1 hd2=>?_;simp;refine bf (by decide) (by decide) fun d x z hd3 hd4=>?_;simp;obtain⟨lo,elo,lo0,lo1⟩:∃r,at' [D.int mo,D.int (1+dd)] d=some (.int r)/\0<=r/\r<=mo:=by
      have:d=0\/d=1:=by omega
      rcases this with rfl|rfl;.exact⟨_,Ve,by omega,by omega⟩
      .exact⟨_,Vm,by omega,by omega⟩
     rw[elo];simp[h9];apply aj;simp;refine cF (JI m ws _ _ _ _ _ _ _ _ s g lo q) ?_ ?_ ⟨ls,fs,ks,s,jJ,rfl,h10,rfl,hb,hp,hg.1,fun k hk=>?_,fun c=>?_⟩;.rintro d r _⟨ls,fs,ks,p,jJ,rfl,h10,hr,hb,hp,hnd,hle,K8⟩;cases ks with|nil=>cases hr|cons k ks=>
         obtain⟨rfl,rfl⟩:d=.int (k:Int)/\r=(bA ks).map D.int:=by simp[bA]at hr;exact⟨hr.1,by simp[bA,hr.2]⟩
         obtain⟨v,e1,e2,e3⟩:=hp;obtain⟨l,hl,hl1⟩:=hle k (by simp);have hkw:=(List.getElem?_eq_some_iff.mp e1).1;have hkf:k<fs.length:=by rw[hb.2.1];exact hkw
         have hkl:k<ls.length:=by rw[hb.1];exact hkw
         obtain⟨f,hf⟩:∃f,fs[k]?=some f:=⟨fs[k],by simp[hkf]⟩;have hb2:=hb.move hl hf lo0 hl1;have hnk:=nodup_cons.mp hnd;simp[h10];apply aj;simp[bz hl,qd (show k<ls.length from hkl)];apply aj;simp[bz hf,qd (show k<fs.length from hkf)];refine⟨ls.set k (l-lo),fs.set k (f+lo),ks,v.t,.val false (.int k),by simp,rfl,rfl,hb2,e3,hnk.2,fun j hj=>?_,fun c=>?_⟩
         . obtain⟨l',h1,h2⟩:=hle j (by simp[hj]);have hjk:k≠j:=by rintro rfl;exact hnk.1 hj
           exact⟨l',by rw[getElem?_set_ne hjk];exact h1,h2⟩
         .rw[Ak e1 hf,K8 c,<-e2,Int.add_assoc,<-Int.mul_add];congr 2;omega
     . rintro _⟨ls,fs,ks,p,jJ,rfl,h10,hr,hb,hp,hnd,hle,K8⟩;have hk0:ks=[]:=by cases ks with|nil=>rfl|cons _ _=>cases hr
       subst hk0;simp;have hpg:p=g:=hp;rcases hsg with⟨rfl,rfl⟩|rfl;.refine⟨x,z,ls,fs,_,_,_,_,_,_,_,rfl,⟨rfl,rfl,rfl,rfl,rfl,rfl,h10⟩,hb,q+lo,by omega,fun c=>?_⟩;rw[K8 c,hpg,<-Int.add_mul]
       .refine⟨x,z,ls,fs,_,_,_,_,_,_,_,rfl,⟨rfl,rfl,rfl,rfl,rfl,rfl,h10⟩,hb,q,q0,fun c=>?_⟩;rw[K8 c,hpg];simp
     .obtain⟨l,h1,h2⟩:=hle k hk;exact⟨l,h1,by omega⟩
     .rw[hd c];simp
   .intro _;exact⟨x,z,ls,fs,_,_,_,_,_,_,_,rfl,⟨rfl,rfl,rfl,rfl,h8,h9,h10⟩,hb,q,q0,hd⟩
 .rintro _⟨x,z,ls,fs,s4,s5,s6,s7,s8,s9,jJ,rfl,_,hb,q,hd⟩;symm;simp;exact k fs x z (hb.flow hd)
 .simp
noncomputable def j7(p:Int):Nat->List Wy->List Nat|_,[]=>[]|i,w::ws=>if w.t=p then i::j7 p (i+1) ws else j7 p (i+1) ws
noncomputable def j8(p:Int):Nat->List Wy->List Nat|_,[]=>[]|i,w::ws=>if w.s=p then i::j8 p (i+1) ws else j8 p (i+1) ws
noncomputable def inD(p:Int):D->Option D|.tup [i,.tup (_::.int t::_)]=>if t==p then some i else none|_=>none
noncomputable def outD(p:Int):D->Option D|.tup [i,.tup (.int s::_)]=>if s==p then some i else none|_=>none
noncomputable def yz(ws:List Wy):List D:=(ws.map Wy.d).mapIdx fun i d=>D.tup [.int (i:Int),d]
theorem Kc{ds:List D}{d:D}(h:d∈ds.mapIdx fun i d=>D.tup [.int (i:Int),d]):∃(i:Nat)(e:D),d=.tup [.int i,e]/\e∈ds:=by rw[List.mem_mapIdx]at h;obtain⟨i,hi,rfl⟩:=h;exact⟨i,_,rfl,getElem_mem hi⟩
theorem wk{ws:List Wy}{d:D}(h:d∈yz ws):∃(i:Nat)(w:Wy),d=.tup [.int i,w.d]/\w∈ws:=by obtain⟨i,e,rfl,he⟩:=Kc h;obtain⟨w,hw,rfl⟩:=mem_map.mp he;exact⟨i,w,rfl,hw⟩
theorem o4(f:D->Option D)(sel:Nat->List Wy->List Nat)(h0:∀i,sel i []=[])(h1:∀(i:Nat)(w:Wy)(ws:List Wy),(match f (.tup [.int (i:Int),w.d])with|some x=>x=.int (i:Int)/\sel i (w::ws)=i::sel (i+1) ws|none=>sel i (w::ws)=sel (i+1) ws)):∀(ws:List Wy)(i:Nat),(((ws.map Wy.d).mapIdx fun j d=>D.tup [.int ((i+j:Nat):Int),d]).filterMap f)=(bA (sel i ws)).map D.int
 |[],i=>by rw[h0];rfl|w::ws,i=>by
   rw[map_cons,List.mapIdx_cons,filterMap_cons];have ih:=o4 f sel h0 h1 ws (i+1);have e:(fun(j:Nat)(d:D)=>D.tup [.int ((i+(j+1):Nat):Int),d])=fun j d=>D.tup [.int ((i+1+j:Nat):Int),d]:=by funext j d;rw[show i+(j+1)=i+1+j by omega]
   rw[e,ih];have:=h1 i w ws;rw[Nat.add_zero];cases hf:f (.tup [.int (i:Int),w.d])with|none=>rw[hf]at this;simp only at this;rw[this]|some x=>rw[hf]at this;simp only at this;rw[this.2,this.1];rfl
theorem Oa{p:Int}{ws:List Wy}:(yz ws).filterMap (inD p)=(bA (j7 p 0 ws)).map D.int:=by have:=o4 (inD p) (j7 p) (fun _=>rfl) (fun i w ws=>by by_cases h:w.t=p<;>simp[inD,Wy.d,j7,h]) ws 0;simpa[yz]using this
theorem Jg{p:Int}{ws:List Wy}:(yz ws).filterMap (outD p)=(bA (j8 p 0 ws)).map D.int:=by have:=o4 (outD p) (j8 p) (fun _=>rfl) (fun i w ws=>by by_cases h:w.s=p<;>simp[outD,Wy.d,j8,h]) ws 0;simpa[yz]using this
inductive F2(a b:Sl)(ρ:List Sl):Prop where|mk(s:Sl)(t:Sl)(q0:ρ=[a,b,s,t])(q1:fr s=true)(q2:fr t=true)
theorem Ah{w n:Nat}{m p:Int}{ws:List Wy}{Q:R->List Sl->Prop}(h:cI m ws)(k:Q (.own ((bA (j8 p 0 ws)).map D.int)) [.val false (aR m ws),.val false (.int p)]):(run Γ w (n+1) 9 [.val false (aR m ws),.val false (.int p)]).sat Q:=by
 refine aP (d:=f9) rfl rfl (by decide) ?_;symm;have hl:=h.len;have h1:ws.length<=lim:=by show _<=16777216;omega
 simp[f9,h1];refine mV (F2 _ _) (outD p) ⟨.aZ,.aZ,rfl,rfl,rfl⟩ ?_ ?_
 . rintro d hd _⟨s,t,rfl,hs,ht⟩;obtain⟨i,w,rfl,hw⟩:=wk hd;by_cases e:w.s=p;.simp[hs,ht,Wy.d,outD,e];exact⟨_,_,rfl,rfl,rfl⟩
   .simp[hs,ht,Wy.d,outD,e];exact⟨_,_,rfl,rfl,rfl⟩
 .rintro _⟨s,t,rfl,hs,ht⟩;rw[show((map Wy.d ws).mapIdx fun i d=>D.tup [.int (i:Int),d])=yz ws from rfl,Jg];generalize(bA (j8 p 0 ws)).map D.int=L at*;simp;exact k
theorem Dv{w n:Nat}{m p:Int}{ws:List Wy}{Q:R->List Sl->Prop}(h:cI m ws)(k:Q (.own ((bA (j7 p 0 ws)).map D.int)) [.val false (aR m ws),.val false (.int p)]):(run Γ w (n+1) 10 [.val false (aR m ws),.val false (.int p)]).sat Q:=by
 refine aP (d:=Y6) rfl rfl (by decide) ?_;symm;have hl:=h.len;have h1:ws.length<=lim:=by show _<=16777216;omega
 simp[Y6,h1];refine mV (F2 _ _) (inD p) ⟨.aZ,.aZ,rfl,rfl,rfl⟩ ?_ ?_
 . rintro d hd _⟨s,t,rfl,hs,ht⟩;obtain⟨i,w,rfl,hw⟩:=wk hd;by_cases e:w.t=p;.simp[hs,ht,Wy.d,inD,e];exact⟨_,_,rfl,rfl,rfl⟩
   .simp[hs,ht,Wy.d,inD,e];exact⟨_,_,rfl,rfl,rfl⟩
 .rintro _⟨s,t,rfl,hs,ht⟩;rw[show((map Wy.d ws).mapIdx fun i d=>D.tup [.int (i:Int),d])=yz ws from rfl,Oa];generalize(bA (j7 p 0 ws)).map D.int=L at*;simp;exact k
noncomputable def gk(p:Int):List Wy->List Int->Int|w::ws,f::fs=>(if w.t=p then f else 0)+gk p ws fs|_,_=>0
noncomputable def gn(p:Int):List Wy->List Int->Int|w::ws,f::fs=>(if w.s=p then f else 0)+gn p ws fs|_,_=>0
theorem qz{p:Int}{F:List Int}:∀(ws:List Wy)(i:Nat),F.length=i+ws.length->((j7 p i ws).map fun k=>F.getD k 0).sum=gk p ws (F.drop i)/\∀k∈j7 p i ws,k<F.length
 |[],i,_=>by simp[j7,gk]|w::ws,i,h=>by
   simp only[length_cons]at h;have hi:i<F.length:=by omega
   obtain⟨ih1,ih2⟩:=qz (F:=F) ws (i+1) (by omega);rw[drop_eq_getElem_cons hi,j7,gk];by_cases e:w.t=p
   . rw[if_pos e,if_pos e];refine⟨?_,fun k hk=>?_⟩;.rw[map_cons,List.sum_cons,ih1];simp[hi]
     . rcases mem_cons.mp hk with rfl|hk;.exact hi
       .exact ih2 k hk
   .rw[if_neg e,if_neg e];exact⟨by rw[ih1];omega,ih2⟩
theorem pK{p:Int}{F:List Int}:∀(ws:List Wy)(i:Nat),F.length=i+ws.length->((j8 p i ws).map fun k=>F.getD k 0).sum=gn p ws (F.drop i)/\∀k∈j8 p i ws,k<F.length
 |[],i,_=>by simp[j8,gn]|w::ws,i,h=>by
   simp only[length_cons]at h;have hi:i<F.length:=by omega
   obtain⟨ih1,ih2⟩:=pK (F:=F) ws (i+1) (by omega);rw[drop_eq_getElem_cons hi,j8,gn];by_cases e:w.s=p
   . rw[if_pos e,if_pos e];refine⟨?_,fun k hk=>?_⟩;.rw[map_cons,List.sum_cons,ih1];simp[hi]
     . rcases mem_cons.mp hk with rfl|hk;.exact hi
       .exact ih2 k hk
   .rw[if_neg e,if_neg e];exact⟨by rw[ih1];omega,ih2⟩
theorem o8{p:Int}:∀(ws:List Wy)(i:Nat),(j7 p i ws).length<=ws.length|[],_=>le_refl _|w::ws,i=>by have:=o8 (p:=p) ws (i+1);rw[j7];split<;>simp<;>omega
theorem pU{p:Int}:∀(ws:List Wy)(i:Nat),(j8 p i ws).length<=ws.length|[],_=>le_refl _|w::ws,i=>by have:=pU (p:=p) ws (i+1);rw[j8];split<;>simp<;>omega
inductive F4(a b c d:Sl)(ρ:List Sl):Prop where|mk(s:Sl)(q0:ρ=[a,b,c,d,s])(q1:fr s=true)
theorem pF{w n:Nat}{b:Bool}{m p:Int}{ws:List Wy}{fs:List Int}{Q:R->List Sl->Prop}(h:cI m ws)(hf:fs.length=ws.length)(k:Q (.val (.int (gk p ws fs-gn p ws fs))) [.val false (aR m ws),.own b (fs.map D.int),.val false (.int p)]):(run Γ w (n+2) 11 [.val false (aR m ws),.own b (fs.map D.int),.val false (.int p)]).sat Q:=by
 have hn:=h.len;refine aP (d:=f11) rfl rfl (by decide) ?_;symm;simp[f11];refine Dv h ?_;obtain⟨t1,t2⟩:=qz (p:=p) (F:=fs) ws 0 (by omega);have hl1:=o8 (p:=p) ws 0;generalize j7 p 0 ws=ks at*;simp[show(bA ks).length<=lim by simp only[bA,length_map];show _<=16777216;omega];refine cC (F4 _ _ _ _) (iV fs) ⟨.aZ,rfl,rfl⟩ ?_ ?_;.rintro d hd _⟨s',rfl,hs'⟩;simp only[bA,map_map,mem_map]at hd;obtain⟨k,hk,rfl⟩:=hd;obtain⟨f,hl⟩:∃f,fs[k]?=some f:=⟨_,getElem?_eq_getElem (t2 k hk)⟩;simp[hs',bz hl,iV,hl];exact⟨_,rfl,rfl⟩
 rintro _⟨s',rfl,hs'⟩;rw[jg];generalize(ks.map fun k=>fs.getD k 0)=ns at*;simp[t1];apply aj;simp;refine Ah h ?_;obtain⟨u1,u2⟩:=pK (p:=p) (F:=fs) ws 0 (by omega);have hl2:=pU (p:=p) ws 0;generalize j8 p 0 ws=ks at*;simp[show(bA ks).length<=lim by simp only[bA,length_map];show _<=16777216;omega];refine cC (F4 _ _ _ _) (iV fs) ⟨.aZ,rfl,rfl⟩ ?_ ?_;.rintro d hd _⟨s',rfl,hs'⟩;simp only[bA,map_map,mem_map]at hd;obtain⟨k,hk,rfl⟩:=hd;obtain⟨f,hl⟩:∃f,fs[k]?=some f:=⟨_,getElem?_eq_getElem (u2 k hk)⟩;simp[hs',bz hl,iV,hl];exact⟨_,rfl,rfl⟩
 rintro _⟨s',rfl,hs'⟩;rw[jg];generalize(ks.map fun k=>fs.getD k 0)=ns at*;simp[u1];exact k
theorem pH{w n:Nat}{m p:Int}{ws:List Wy}{fs:List Int}{Q:R->List Sl->Prop}(h:cI m ws)(hf:fs.length=ws.length)(k:Q (.val (.int (gk p ws fs-gn p ws fs))) [.val false (aR m ws),.val false (.lst (fs.map D.int)),.val false (.int p)]):(run Γ w (n+2) 11 [.val false (aR m ws),.val false (.lst (fs.map D.int)),.val false (.int p)]).sat Q:=by
 have hn:=h.len;refine aP (d:=f11) rfl rfl (by decide) ?_;symm;simp[f11];refine Dv h ?_;obtain⟨t1,t2⟩:=qz (p:=p) (F:=fs) ws 0 (by omega);have hl1:=o8 (p:=p) ws 0;generalize j7 p 0 ws=ks at*;simp[show(bA ks).length<=lim by simp only[bA,length_map];show _<=16777216;omega];refine cC (F4 _ _ _ _) (iV fs) ⟨.aZ,rfl,rfl⟩ ?_ ?_;.rintro d hd _⟨s',rfl,hs'⟩;simp only[bA,map_map,mem_map]at hd;obtain⟨k,hk,rfl⟩:=hd;obtain⟨f,hl⟩:∃f,fs[k]?=some f:=⟨_,getElem?_eq_getElem (t2 k hk)⟩;simp[hs',bz hl,iV,hl];exact⟨_,rfl,rfl⟩
 rintro _⟨s',rfl,hs'⟩;rw[jg];generalize(ks.map fun k=>fs.getD k 0)=ns at*;simp[t1];apply aj;simp;refine Ah h ?_;obtain⟨u1,u2⟩:=pK (p:=p) (F:=fs) ws 0 (by omega);have hl2:=pU (p:=p) ws 0;generalize j8 p 0 ws=ks at*;simp[show(bA ks).length<=lim by simp only[bA,length_map];show _<=16777216;omega];refine cC (F4 _ _ _ _) (iV fs) ⟨.aZ,rfl,rfl⟩ ?_ ?_;.rintro d hd _⟨s',rfl,hs'⟩;simp only[bA,map_map,mem_map]at hd;obtain⟨k,hk,rfl⟩:=hd;obtain⟨f,hl⟩:∃f,fs[k]?=some f:=⟨_,getElem?_eq_getElem (u2 k hk)⟩;simp[hs',bz hl,iV,hl];exact⟨_,rfl,rfl⟩
 rintro _⟨s',rfl,hs'⟩;rw[jg];generalize(ks.map fun k=>fs.getD k 0)=ns at*;simp[u1];exact k
def DK(s:Sl)(fs:List Int):Prop:=s=.val false (.lst (fs.map D.int))\/∃b,s=.own b (fs.map D.int)
theorem Bl{w n:Nat}{s:Sl}{m p:Int}{ws:List Wy}{fs:List Int}{Q:R->List Sl->Prop}(hs:DK s fs)(h:cI m ws)(hf:fs.length=ws.length)(k:Q (.val (.int (gk p ws fs-gn p ws fs))) [.val false (aR m ws),s,.val false (.int p)]):(run Γ w (n+2) 11 [.val false (aR m ws),s,.val false (.int p)]).sat Q:=by
 rcases hs with rfl|⟨b,rfl⟩;.exact pH h hf k
 .exact pF h hf k
theorem ir(p:Int):∀(ws:List Wy)(fs:List Int),dot (fun x=>if x=p then 1 else 0) ws fs=gn p ws fs-gk p ws fs|[],_=>rfl|_::_,[]=>rfl|w::ws,f::fs=>by simp only[dot,gn,gk,ir p ws fs];by_cases e1:w.s=p<;>by_cases e2:w.t=p<;>simp[e1,e2]<;>omega
theorem BP{w n:Nat}{b:Bool}{m:Int}{ws:List Wy}{fs:List Int}{Q:R->List Sl->Prop}(h:cI m ws)(hf:fs.length=ws.length)(k:Q (.val (.int (dot (fun x=>if x=0 then 1 else 0) ws fs))) [.val false (aR m ws),.own b (fs.map D.int)]):(run Γ w (n+3) 12 [.val false (aR m ws),.own b (fs.map D.int)]).sat Q:=by refine aP (d:=Ti) rfl rfl (by decide) ?_;symm;simp[Ti];refine pF h hf ?_;rw[ir]at k;simp;rw[show-(gk 0 ws fs-gn 0 ws fs)=gn 0 ws fs-gk 0 ws fs by omega];exact k
theorem Bw{w n:Nat}{m:Int}{ws:List Wy}{fs:List Int}{Q:R->List Sl->Prop}(h:cI m ws)(hf:fs.length=ws.length)(k:Q (.val (.int (dot (fun x=>if x=0 then 1 else 0) ws fs))) [.val false (aR m ws),.val false (.lst (fs.map D.int))]):(run Γ w (n+3) 12 [.val false (aR m ws),.val false (.lst (fs.map D.int))]).sat Q:=by refine aP (d:=Ti) rfl rfl (by decide) ?_;symm;simp[Ti];refine pH h hf ?_;rw[ir]at k;simp;rw[show-(gk 0 ws fs-gn 0 ws fs)=gn 0 ws fs-gk 0 ws fs by omega];exact k
theorem pW{w n:Nat}{s:Sl}{m:Int}{ws:List Wy}{fs:List Int}{Q:R->List Sl->Prop}(hs:DK s fs)(h:cI m ws)(hf:fs.length=ws.length)(k:Q (.val (.int (dot (fun x=>if x=0 then 1 else 0) ws fs))) [.val false (aR m ws),s]):(run Γ w (n+3) 12 [.val false (aR m ws),s]).sat Q:=by
 rcases hs with rfl|⟨b,rfl⟩;.exact Bw h hf k
 .exact BP h hf k
def Within(ws:List Wy)(fs:List Int):Prop:=∀(k:Nat)(w:Wy)(f:Int),ws[k]?=some w->fs[k]?=some f->0<=f/\f<=w.r
noncomputable def over(p:Int)(ws:List Wy)(fs:List Int):Int:=gn p ws fs-gk p ws fs
def tW(m:Int)(ws:List Wy)(fs:List Int):Prop:=fs.length=ws.length/\Within ws fs/\0<=over 0 ws fs/\∀p,1<=p->p<m-1->over p ws fs=0
noncomputable def cU:Sl->Sl|.own b ds=>.val b (.lst ds)|s=>s
noncomputable def Xl:D->D|.tup [.int f,.tup (_::_::.int r::_)]=>.bl (decide (0<=f)&&decide (f<=r))|d=>d
theorem Le:∀(fs:List Int)(ws:List Wy),((fs.map D.int).zip (ws.map Wy.d)).map (fun p=>D.tup [p.1,p.2])=(fs.zip ws).map fun p=>D.tup [.int p.1,p.2.d]|[],_=>by simp|_::_,[]=>by simp|f::fs,w::ws=>by simp[Le fs ws]
theorem Q9(zs:List (Int×Wy)):(zs.map fun p=>D.tup [.int p.1,p.2.d]).map Xl=(zs.map fun p=>(decide (0<=p.1)&&decide (p.1<=p.2.r))).map D.bl:=by rw[map_map,map_map];rfl
theorem Hk:∀{ws:List Wy}{fs:List Int},((fs.zip ws).map fun p=>(decide (0<=p.1)&&decide (p.1<=p.2.r))).all id=true↔Within ws fs
 |[],fs=>by simp[Within]|_::_,[]=>by simp[Within]|w::ws,f::fs=>by
   rw[List.zip_cons_cons,map_cons,all_cons,and_eq_true,Hk (ws:=ws) (fs:=fs)];constructor;.rintro⟨h1,h2⟩k v g e1 e2;cases k with|zero=>simp at e1 e2;subst e1 e2;simpa using h1|succ k=>exact h2 k v g (by simpa using e1) (by simpa using e2)
   .intro h;exact⟨by simpa using h 0 w f rfl rfl,fun k v g e1 e2=>h (k+1) v g (by simpa using e1) (by simpa using e2)⟩
inductive FW(b:Sl)(a:Sl)(ρ:List Sl):Prop where|mk(s:Sl)(t:Sl)(q0:ρ=[a,b,s,t])(q1:fr s=true)(q2:fr t=true)
theorem ye{w n:Nat}{s:Sl}{m:Int}{ws:List Wy}{fs:List Int}{Q:R->List Sl->Prop}(hs:DK s fs)(h:cI m ws)(hf:fs.length=ws.length)(k:∀b:Bool,(b=true↔Within ws fs)->Q (.val (.bl b)) [.val false (aR m ws),cU s]):(run Γ w (n+1) 13 [.val false (aR m ws),s]).sat Q:=by have hn:=h.len;refine aP (d:=Y7) rfl rfl (by decide) ?_;symm;have hk:=k _ Hk;rcases hs with rfl|⟨b,rfl⟩;all_goals
  simp only[cU]at hk;simp[Y7,show fs.length<=lim by show _<=16777216;omega];rw[Le];refine⟨fun _=>?_,by show _<=16777216;omega⟩;refine cC (FW _ _) Xl ⟨.aZ,.aZ,rfl,rfl,rfl⟩ ?_ ?_
  . rintro d hd _⟨s1,s2,rfl,h1,h2⟩;obtain⟨⟨f,v⟩,_,rfl⟩:=mem_map.mp hd;by_cases e:0<=f;.simp[h1,h2,Wy.d,Xl,e];exact⟨_,_,rfl,rfl,rfl⟩
    .simp[h1,h2,Wy.d,Xl,e];exact⟨_,_,rfl,rfl,rfl⟩
  .rintro _⟨s1,s2,rfl,h1,h2⟩;rw[Q9];generalize((fs.zip ws).map fun p=>(decide (0<=p.1)&&decide (p.1<=p.2.r)))=bs at hk ⊢;simp;simpa using hk
noncomputable def uT(ws:List Wy)(fs:List Int):D->D|.int p=>.bl (decide (gk p ws fs-gn p ws fs=0))|d=>d
inductive FO(a b:Sl)(ρ:List Sl):Prop where|mk(s:Sl)(q0:ρ=[a,b,s])(q1:fr s=true)
theorem De{m:Int}{ws:List Wy}{fs:List Int}(m0:2<=m):(((List.range (m-1-1).toNat).map fun(k:Nat)=>decide (gk (1+(k:Int)) ws fs-gn (1+(k:Int)) ws fs=0)).all id=true)↔∀p,1<=p->p<m-1->over p ws fs=0:=by
 rw[all_map,all_eq_true];constructor;.intro h p h1 h2;have:=h (p-1).toNat (mem_range.mpr (by omega));simp only[Function.comp,id,decide_eq_true_eq]at this;rw[show 1+((p-1).toNat:Int)=p by omega]at this;unfold over;omega
 .intro h k hk;rw[mem_range]at hk;have:=h (1+k) (by omega) (by omega);simp only[Function.comp,id,decide_eq_true_eq];unfold over at this;omega
theorem Ek{N:Nat}{ws:List Wy}{fs:List Int}:((List.range N).map fun(k:Nat)=>D.int (1+(k:Int))).map (uT ws fs)=((List.range N).map fun(k:Nat)=>decide (gk (1+(k:Int)) ws fs-gn (1+(k:Int)) ws fs=0)).map D.bl:=by rw[map_map,map_map];rfl
theorem Bm{w n:Nat}{s:Sl}{m:Int}{ws:List Wy}{fs:List Int}{Q:R->List Sl->Prop}(hs:DK s fs)(h:cI m ws)(k:∀(b:Bool)(s':Sl),(b=true↔tW m ws fs)->(s'=s\/s'=cU s)->Q (.val (.bl b)) [.val false (aR m ws),s']):(run Γ w (n+4) 14 [.val false (aR m ws),s]).sat Q:=by
 have hn:=h.len;have m0:=h.m0;have m1:=h.m1;refine aP (d:=UT) rfl rfl (by decide) ?_;symm;by_cases hf:fs.length=ws.length;.have e1:∀s',DK s' fs->s'=.val false (.lst (fs.map D.int))\/∃b,s'=.own b (fs.map D.int):=fun _ z=>z;rcases hs with rfl|⟨b,rfl⟩;all_goals
    simp[UT,hf];refine ye (by first|exact .inl rfl|exact .inr ⟨_,rfl⟩) h hf fun bw hbw=>?_;simp[cU];refine⟨fun hb=>?_,fun hb=>?_⟩;.subst hb;symm;simp;exact k false _ ⟨fun z=>noConfusion z,fun z=>noConfusion (hbw.mpr z.2.1)⟩ (.inr rfl)
    subst hb;have hwi:=hbw.mp rfl;symm;simp;refine pW (.inl rfl) h hf ?_;rw[ir];simp;refine⟨fun hlt=>?_,fun hge=>?_⟩;.symm;simp;exact k false _ ⟨fun z=>noConfusion z,fun z=>by have:=z.2.2.1;unfold over at this;omega⟩ (.inr rfl)
    symm;simp[show m-1<=1000000000 by omega,show-1000000000<=m-1 by omega];refine⟨fun _=>?_,by omega⟩;rw[show m.toNat-1-1=(m-1-1).toNat by omega];refine cC (FO _ _) (uT ws fs) ⟨.aZ,rfl,rfl⟩ ?_ ?_;.rintro d hd _⟨s1,rfl,h1⟩;obtain⟨j,_,rfl⟩:=mem_map.mp hd;simp[h1];refine Bl (.inl rfl) h hf ?_;simp[uT];exact⟨rfl,_,rfl,rfl⟩
    .rintro _⟨s1,rfl,h1⟩;have ha:=De (m:=m) (ws:=ws) (fs:=fs) m0;rw[Ek];generalize((List.range (m-1-1).toNat).map fun(k:Nat)=>decide (gk (1+(k:Int)) ws fs-gn (1+(k:Int)) ws fs=0))=bs at ha ⊢;simp;have hk:=k (bs.all id) _ ⟨fun z=>⟨hf,hwi,by unfold over;omega,ha.mp z⟩,fun z=>ha.mpr z.2.2.2⟩ (.inr rfl);simpa[cU]using hk
 . have hf':¬(fs.length:Int)=(ws.length:Int):=by omega
   rcases hs with rfl|⟨b,rfl⟩;all_goals simp[UT,hf'];apply aj;simp;exact k false _ ⟨fun z=>noConfusion z,fun z=>absurd z.1 hf⟩ (.inl rfl)
inductive JO(m p:Int)(ws:List Wy)(fs:List Int)(s:Sl)(i:Nat)(ρ:List Sl):Prop where|mk(f:Int)(s4 s5 s6 s7 s8:Sl)(q0:ρ=[.val false (aR m ws),s,.val false (.int p),.val false (.int f),s4,s5,s6,s7,s8])(q1:A5 (fr s4=true) (fr s5=true) (fr s6=true) (fr s7=true) (fr s8=true))(q2:f+over p (ws.drop i) (fs.drop i)=over p ws fs)
theorem rY{p:Int}{w:Wy}{f:Int}{ws:List Wy}{fs:List Int}:over p (w::ws) (f::fs)=(if w.s=p then f else 0)-(if w.t=p then f else 0)+over p ws fs:=by simp only[over,gn,gk];omega
theorem pY{w n:Nat}{s:Sl}{m p:Int}{ws:List Wy}{fs:List Int}{Q:R->List Sl->Prop}(hs:DK s fs)(h:cI m ws)(hf:fs.length=ws.length)(k:Q (.val (.int (over p ws fs))) [.val false (aR m ws),s,.val false (.int p)]):(run Γ w (n+1) 27 [.val false (aR m ws),s,.val false (.int p)]).sat Q:=by
 have hn:=h.len;refine aP (d:=Vo) rfl rfl (by decide) ?_;symm;rcases hs with rfl|⟨b,rfl⟩
 . simp[Vo];symm;simp[show(ws.length:Int)<=1000000000 by omega];refine dM (JO m p ws fs _) ?_ ?_ ⟨0,.aZ,.aZ,.aZ,.aZ,.aZ,rfl,⟨rfl,rfl,rfl,rfl,rfl⟩,by simp⟩
   . rintro i _ hi⟨f,s4,s5,s6,s7,s8,rfl,⟨h4,h5,h6,h7,h8⟩,hf'⟩;have hi2:i<fs.length:=by omega
     have e1:ws[i]?=some ws[i]:=by simp[hi]
     have e2:fs[i]?=some fs[i]:=by simp[hi2]
     rw[drop_eq_getElem_cons hi,drop_eq_getElem_cons hi2,rY]at hf';generalize ws[i]=v at*;generalize fs[i]=g at*;simp[h4];apply aj;simp[bz e1,Wy.d,h5,h6,h7,h8];refine dB (fun ρ=>ρ=[.val false (aR m ws),.val false (.lst (fs.map D.int)),.val false (.int p),.val false (.int (f+if v.s=p then g else 0)),.val false (.int i),.val false (.int v.s),.val false (.int v.t),.val false (.int v.r),.val false (.int v.h)]) ?_ ?_
     . by_cases e:v.s=p;.simp[e];symm;simp[bz e2]
       .simp[e]
     rintro _ rfl;symm;by_cases e:v.t=p;.simp[e];symm;simp[bz e2];exact⟨_,_,_,_,_,_,rfl,⟨rfl,rfl,rfl,rfl,rfl⟩,by rw[if_pos e]at hf';omega⟩
     .simp[e];exact⟨_,_,_,_,_,_,rfl,⟨rfl,rfl,rfl,rfl,rfl⟩,by rw[if_neg e]at hf';omega⟩
   . rintro _⟨f,s4,s5,s6,s7,s8,rfl,_,hf'⟩;symm;simp;rw[List.drop_eq_nil_of_le (le_refl _)]at hf';have:f=over p ws fs:=by rw[<-hf'];simp[over,gn,gk]
     rw[this];exact k
 . simp[Vo];symm;simp[show(ws.length:Int)<=1000000000 by omega];refine dM (JO m p ws fs _) ?_ ?_ ⟨0,.aZ,.aZ,.aZ,.aZ,.aZ,rfl,⟨rfl,rfl,rfl,rfl,rfl⟩,by simp⟩
   . rintro i _ hi⟨f,s4,s5,s6,s7,s8,rfl,⟨h4,h5,h6,h7,h8⟩,hf'⟩;have hi2:i<fs.length:=by omega
     have e1:ws[i]?=some ws[i]:=by simp[hi]
     have e2:fs[i]?=some fs[i]:=by simp[hi2]
     rw[drop_eq_getElem_cons hi,drop_eq_getElem_cons hi2,rY]at hf';generalize ws[i]=v at*;generalize fs[i]=g at*;simp[h4];apply aj;simp[bz e1,Wy.d,h5,h6,h7,h8];refine dB (fun ρ=>ρ=[.val false (aR m ws),.own b (fs.map D.int),.val false (.int p),.val false (.int (f+if v.s=p then g else 0)),.val false (.int i),.val false (.int v.s),.val false (.int v.t),.val false (.int v.r),.val false (.int v.h)]) ?_ ?_
     . by_cases e:v.s=p;.simp[e];symm;simp[bz e2]
       .simp[e]
     rintro _ rfl;symm;by_cases e:v.t=p;.simp[e];symm;simp[bz e2];exact⟨_,_,_,_,_,_,rfl,⟨rfl,rfl,rfl,rfl,rfl⟩,by rw[if_pos e]at hf';omega⟩
     .simp[e];exact⟨_,_,_,_,_,_,rfl,⟨rfl,rfl,rfl,rfl,rfl⟩,by rw[if_neg e]at hf';omega⟩
   . rintro _⟨f,s4,s5,s6,s7,s8,rfl,_,hf'⟩;symm;simp;rw[List.drop_eq_nil_of_le (le_refl _)]at hf';have:f=over p ws fs:=by rw[<-hf'];simp[over,gn,gk]
     rw[this];exact k
inductive KI(m:Int)(ws:List Wy)(fs:List Int)(s:Sl)(i:Nat)(ρ:List Sl):Prop where|mk(s2 s3:Sl)(q0:ρ=[.val false (aR m ws),s,s2,s3])(q1:fr s2=true)(q2:fr s3=true)(q3:∀(k:Nat)(w:Wy)(f:Int),k<i->ws[k]?=some w->fs[k]?=some f->0<=f/\f<=w.r)
inductive KP(m:Int)(ws:List Wy)(fs:List Int)(s:Sl)(i:Nat)(ρ:List Sl):Prop where|mk(s2 s3:Sl)(q0:ρ=[.val false (aR m ws),s,s2,s3])(q1:fr s2=true)(q2:fr s3=true)(q3:∀p:Int,1<=p->p<1+i->over p ws fs=0)
theorem CW{w n:Nat}{s:Sl}{m:Int}{ws:List Wy}{fs:List Int}{Q:R->List Sl->Prop}(hs:DK s fs)(h:cI m ws)(k:∀b:Bool,(b=true↔tW m ws fs)->Q (.val (.bl b)) [.val false (aR m ws),s]):(run Γ w (n+2) 28 [.val false (aR m ws),s]).sat Q:=by
 have hn:=h.len;have m0:=h.m0;have m1:=h.m1;refine aP (d:=Uz) rfl rfl (by decide) ?_;symm;by_cases hf:fs.length=ws.length;.have hss:=hs;rcases hs with rfl|⟨b,rfl⟩;all_goals
    simp[Uz,hf];apply aj;simp[hf,show(ws.length:Int)<=1000000000 by omega];refine dM (KI m ws fs _) ?_ ?_ ⟨.aZ,.aZ,rfl,rfl,rfl,fun k w f hk=>absurd hk (Nat.not_lt_zero _)⟩
    . rintro i _ hi⟨s2,s3,rfl,h2,h3,hw⟩;have hi2:i<fs.length:=by omega
      have e1:ws[i]?=some ws[i]:=by simp[hi]
      have e2:fs[i]?=some fs[i]:=by simp[hi2]
      generalize ws[i]=v at*;generalize fs[i]=g at*;simp[h2];apply aj;have no:¬(0<=g/\g<=v.r)->¬ tW m ws fs:=fun hq z=>hq (z.2.1 i v g e1 e2);have go:(0<=g/\g<=v.r)->∀(k:Nat)(w:Wy)(f:Int),k<i+1->ws[k]?=some w->fs[k]?=some f->0<=f/\f<=w.r:=fun hq k w f hk e3 e4=>by
       by_cases hki:k=i;.subst hki;rw[e1]at e3;rw[e2]at e4;cases e3;cases e4;exact hq
       .exact hw k w f (by omega) e3 e4
      by_cases q1:g<0;.simp[bz e1,bz e2,Wy.d,q1];symm;simp;exact k false ⟨fun z=>noConfusion z,fun z=>absurd z (no (by omega))⟩
      . by_cases q2:v.r<g;.simp[bz e1,bz e2,Wy.d,q1,q2];symm;simp;exact k false ⟨fun z=>noConfusion z,fun z=>absurd z (no (by omega))⟩
        .simp[bz e1,bz e2,Wy.d,q1,q2];exact⟨_,_,rfl,rfl,h3,go (by omega)⟩
    . rintro _⟨s2,s3,rfl,h2,h3,hw⟩;have hwi:Within ws fs:=fun k w f e1 e2=>hw k w f (List.getElem?_eq_some_iff.mp e1).1 e1 e2;symm;simp[show m-1<=1000000000 by omega,show-1000000000<=m-1 by omega];refine dM (KP m ws fs _) ?_ ?_ ⟨s2,s3,rfl,h2,h3,fun p p1 p2=>by omega⟩
      . rintro i _ hi⟨s2,s3,rfl,h2,h3,hp⟩;simp[h3];apply aj;simp;refine pY (by first|exact .inl rfl|exact .inr ⟨_,rfl⟩) h hf ?_;simp;refine⟨fun hq=>?_,fun hq=>?_⟩;rotate_left;.symm;simp;exact k false ⟨fun z=>noConfusion z,fun z=>absurd (z.2.2.2 (1+i) (by omega) (by omega)) hq⟩
        . refine⟨_,_,rfl,h2,rfl,fun p p1 p2=>?_⟩;by_cases hpi:p=1+i;.rw[hpi];exact hq
          .exact hp p p1 (by omega)
      .rintro _⟨s2,s3,rfl,h2,h3,hp⟩;symm;simp;refine pY (by first|exact .inl rfl|exact .inr ⟨_,rfl⟩) h hf ?_;simp;exact k _ ⟨fun z=>⟨hf,hwi,by simpa using z,fun p p1 p2=>hp p p1 (by omega)⟩,fun z=>by simpa using z.2.2.1⟩
 . have hf':¬(fs.length:Int)=(ws.length:Int):=by omega
   rcases hs with rfl|⟨b,rfl⟩;all_goals simp[Uz,hf'];apply aj;simp;exact k false ⟨fun z=>noConfusion z,fun z=>absurd z.1 hf⟩
noncomputable def qU(S:List Int):List Wy->Int|[]=>0|w::ws=>(if w.s∈S/\w.t∉S then w.r else 0)+qU S ws
noncomputable def cutD(S:List Int):D->Option D|.tup [.int s,.int t,r,_]=>if s∈S/\t∉S then some r else none|_=>none
theorem Ac{S:List Int}:∀ws:List Wy,∃ns:List Int,(ws.map Wy.d).filterMap (cutD S)=ns.map D.int/\ns.sum=qU S ws
 |[]=>⟨[],rfl,rfl⟩|w::ws=>by
   obtain⟨ns,h1,h2⟩:=Ac ws;rw[map_cons,filterMap_cons,h1,qU,<-h2];by_cases e:w.s∈S/\w.t∉S;.rw[if_pos e,show cutD S w.d=some (.int w.r)by simp only[cutD,Wy.d];rw[if_pos e]];exact⟨w.r::ns,rfl,by simp⟩
   .rw[if_neg e,show cutD S w.d=none by simp only[cutD,Wy.d];rw[if_neg e]];exact⟨ns,rfl,by omega⟩
inductive F2o(a b:Sl)(ρ:List Sl):Prop where|mk(s:Sl)(q0:ρ=[a,b,s])(q1:fr s=true)
theorem Gp{w n:Nat}{m:Int}{ws:List Wy}{S:List Int}{Q:R->List Sl->Prop}(h:cI m ws)(k:Q (.val (.int (qU S ws))) [.val false (aR m ws),.val false (.tup (S.map D.int))]):(run Γ w (n+1) 16 [.val false (aR m ws),.val false (.tup (S.map D.int))]).sat Q:=by
 have hn:=h.len;refine aP (d:=Xp) rfl rfl (by decide) ?_;symm;simp[Xp,show ws.length<=lim by show _<=16777216;omega];refine mV (F2o _ _) (cutD S) ⟨.aZ,rfl,rfl⟩ ?_ ?_
 . rintro d hd _⟨s',rfl,hs'⟩;obtain⟨v,_,rfl⟩:=mem_map.mp hd;by_cases e1:v.s∈S
   . by_cases e2:v.t∈S;.simp[hs',cutD,Wy.d,mL,fK,e1,e2];exact⟨_,rfl,rfl⟩
     .simp[hs',cutD,Wy.d,mL,fK,e1,e2];exact⟨_,rfl,rfl⟩
   .simp[hs',cutD,Wy.d,mL,fK,e1];exact⟨_,rfl,rfl⟩
 .rintro _⟨s',rfl,hs'⟩;obtain⟨ns,h1,h2⟩:=Ac (S:=S) ws;rw[h1];simp[h2];exact k
inductive JR(m:Int)(ws:List Wy)(S:List Int)(r:List D)(ρ:List Sl):Prop where|mk(us:List Wy)(f:Int)(s3 s4 s5 s6:Sl)(q0:ρ=[.val false (aR m ws),.val false (.tup (S.map D.int)),.val false (.int f),s3,s4,s5,s6])(q1:A4 (fr s3=true) (fr s4=true) (fr s5=true) (fr s6=true))(q2:r=us.map Wy.d)(q3:f+qU S us=qU S ws)
theorem Bf{w n:Nat}{m:Int}{ws:List Wy}{S:List Int}{Q:R->List Sl->Prop}(h:cI m ws)(k:Q (.val (.int (qU S ws))) [.val false (aR m ws),.val false (.tup (S.map D.int))]):(run Γ w (n+1) 29 [.val false (aR m ws),.val false (.tup (S.map D.int))]).sat Q:=by
 have hn:=h.len;refine aP (d:=Y8) rfl rfl (by decide) ?_;symm;simp[Y8];apply aj;simp;refine cF (JR m ws S) ?_ ?_ ⟨ws,0,.aZ,.aZ,.aZ,.aZ,rfl,⟨rfl,rfl,rfl,rfl⟩,rfl,by omega⟩;.rintro d r _⟨us,f,s3,s4,s5,s6,rfl,⟨h3,h4,h5,h6⟩,hr,hf⟩;cases us with|nil=>cases hr|cons v us=>
     obtain⟨rfl,rfl⟩:d=v.d/\r=us.map Wy.d:=by simpa using hr
     simp[h3,h4,h5,h6,Wy.d];rw[qU]at hf;symm;by_cases e1:v.s∈S
     . by_cases e2:v.t∈S;.rw[if_neg (fun h=>h.2 e2)]at hf;simp[mL,fK,e1,e2];exact⟨us,f,_,_,_,_,rfl,⟨rfl,rfl,rfl,rfl⟩,rfl,by omega⟩
       .rw[if_pos ⟨e1,e2⟩]at hf;simp[mL,fK,e1,e2];apply aj;simp;exact⟨us,f+v.r,_,_,_,_,rfl,⟨rfl,rfl,rfl,rfl⟩,rfl,by omega⟩
     .rw[if_neg (fun h=>e1 h.1)]at hf;simp[mL,fK,e1];exact⟨us,f,_,_,_,_,rfl,⟨rfl,rfl,rfl,rfl⟩,rfl,by omega⟩
 . rintro _⟨us,f,s3,s4,s5,s6,rfl,_,hr,hf⟩;have:us=[]:=by cases us with|nil=>rfl|cons _ _=>cases hr
   subst this;symm;simp;rw[show f=qU S ws by rw[<-hf];show f=f+0;omega];exact k
noncomputable def mU:List Int->Bool|a::b::r=>decide (a<b)&&mU (b::r)|_=>true
theorem vV:∀S:List Int,((S.zip S.tail).map fun p=>decide (p.1<p.2)).all id=mU S|[]=>rfl|[_]=>rfl|a::b::r=>by have ih:=vV (b::r);simp only[List.tail_cons,List.zip_cons_cons,map_cons,all_cons,mU]at ih ⊢;rw[ih];rfl
noncomputable def ltI:D->D|.tup [.int a,.int b]=>.bl (decide (a<b))|d=>d
@[simp]theorem adK{a b:Int}:ltI (.tup [.int a,.int b])=.bl (decide (a<b)):=rfl
theorem zE:∀(S T:List Int),((S.map D.int).zip (T.map D.int)).map (fun p=>D.tup [p.1,p.2])=(S.zip T).map fun p=>D.tup [.int p.1,.int p.2]|[],_=>by simp|_::_,[]=>by simp|a::S,b::T=>by simp[zE S T]
theorem Kz(zs:List (Int×Int)):(zs.map fun p=>D.tup [.int p.1,.int p.2]).map ltI=(zs.map fun p=>decide (p.1<p.2)).map D.bl:=by rw[map_map,map_map];rfl
theorem Fe(S:List Int):cut (S.map D.int) (some 1) none=S.tail.map D.int:=by cases S with|nil=>rfl|cons a r=>simp[cut,cV];exact List.take_of_length_le (by simp)
inductive FR1(a0:Sl)(ρ:List Sl):Prop where|mk(s:Sl)(t:Sl)(q0:ρ=[a0,s,t])(q1:fr s=true)(q2:fr t=true)
theorem Hn{bs:List Bool}:(bs.map D.bl).mapM xV=some bs:=by induction bs with|nil=>rfl|cons b bs ih=>simp[ih]
theorem xr{w n:Nat}{S:List Int}{Q:R->List Sl->Prop}(hl:S.length<=1000)(q:Q (.val (.bl (mU S))) [.val false (.tup (S.map D.int))]):(run Γ w (n+1) 8 [.val false (.tup (S.map D.int))]).sat Q:=by
 refine aP (d:=f8) rfl rfl (by decide) ?_;symm;simp[f8,Bd,part,vJ,Fe];rw[<-List.map_tail,zE];refine⟨fun _=>?_,by show _<=16777217;omega⟩;refine cC (FR1 _) ltI ⟨.aZ,.aZ,rfl,rfl,rfl⟩ ?_ ?_;.rintro d hd _⟨s,t,rfl,hs,ht⟩;obtain⟨⟨x,y⟩,hxy,rfl⟩:=mem_map.mp hd;simp[hs,ht];exact⟨_,_,rfl,rfl,rfl⟩
 .rintro _⟨s,t,rfl,hs,ht⟩;rw[Kz];simp only[Ql,JB,Hn,Option.map_some,qT,bF,Ge,vV];simp;exact q
noncomputable def lq(m:Int)(S:List Int):Bool:=match S with|[]=>false|a::r=>mU (a::r)&&(decide (a=0)&&decide ((a::r).getLast (by simp)<m-1))
theorem Al{α:Type}{a:α}{r:List α}:at' (a::r) (-1)=some ((a::r).getLast (by simp)):=by unfold at' iH;rw[if_neg (by omega),if_pos (by simp only[length_cons];omega)];show(a::r)[(-1+((a::r).length:Int)).toNat]?=_;rw[show(-1+((a::r).length:Int)).toNat=(a::r).length-1 by simp only[length_cons];omega,<-List.getLast?_eq_getElem?,List.getLast?_eq_some_getLast (by simp)]
theorem Ey{a b:Int}:cm .eq (.tup [.int a]) (.tup [.int b])=some (a==b&&true):=rfl
theorem Dk{w n:Nat}{m:Int}{ws:List Wy}{S:List Int}{Q:R->List Sl->Prop}(hl:S.length<=1000)(k:Q (.val (.bl (lq m S))) [.val false (aR m ws),.val false (.tup (S.map D.int))]):(run Γ w (n+2) 15 [.val false (aR m ws),.val false (.tup (S.map D.int))]).sat Q:=by refine aP (d:=Yx) rfl rfl (by decide) ?_;symm;simp[Yx];refine xr hl ?_;cases S with|nil=>simp[mU,Bd,part,vJ,cut,cV];exact k|cons a r=>simp only[lq]at k;cases e:mU (a::r)with|false=>rw[e]at k;simp;exact k|true=>
     rw[e]at k;have ec:cut (D.int a::r.map D.int) none (some 1)=[.int a]:=by simp[cut,cV]
     simp[Bd,part,vJ,ec];by_cases ha:a=0
     . subst ha;have el:at' (D.int 0::r.map D.int) (-1)=some (.int ((0::r).getLast (by simp))):=by have:=Al (a:=D.int 0) (r:=r.map D.int);rw[this];congr 1;have:=List.getLast_map (f:=D.int) (l:=0::r) (by simp);simpa using this
       simp[Ey,el];simpa using k
     .simp[Ey,ha];simpa[ha]using k
noncomputable def dq(r:Int)(fs S:List Int):D:=.tup [.int r,.lst (fs.map D.int),.tup (S.map D.int)]
def Lg(m:Int)(ws:List Wy)(r:Int)(fs S:List Int):Prop:=tW m ws fs/\lq m S=true/\over 0 ws fs=r/\qU S ws=r
theorem Fw{w n:Nat}{m r:Int}{ws:List Wy}{fs S:List Int}{Q:R->List Sl->Prop}(h:cI m ws)(hl:S.length<=60)(k:∀b:Bool,(b=true↔Lg m ws r fs S)->Q (.val (.bl b)) [.val false (aR m ws),.val false (dq r fs S)]):(run Γ w (n+5) 19 [.val false (aR m ws),.val false (dq r fs S)]).sat Q:=by
 refine aP (d:=XQ) rfl rfl (by decide) ?_;symm;simp[XQ,dq];refine Bm (s:=.val false (.lst (fs.map D.int))) (.inl rfl) h fun b s' hb hs'=>?_;have hs':s'=.val false (.lst (fs.map D.int)):=by rcases hs' with z|z<;>exact z
 subst hs';cases b with|false=>simp;apply aj;simp;exact k false ⟨fun z=>noConfusion z,fun z=>by have:=hb.mpr z.1;cases this⟩|true=>have hr:=hb.mp rfl;simp;refine Dk (by omega) ?_;cases e:lq m S with|false=>simp;apply aj;simp;exact k false ⟨fun z=>noConfusion z,fun z=>by have:=z.2.1;rw[e]at this;exact this⟩|true=>
     simp;apply aj;simp;refine pW (s:=.val false (.lst (fs.map D.int))) (.inl rfl) h hr.1 ?_;rw[ir,show gn 0 ws fs-gk 0 ws fs=over 0 ws fs from rfl];by_cases e1:over 0 ws fs=r;.simp[e1];refine Gp h ?_;simp;exact k _ ⟨fun z=>⟨hr,e,e1,by simpa using z⟩,fun z=>by simpa using z.2.2.2⟩
     .simp[e1];exact k false ⟨fun z=>noConfusion z,fun z=>absurd z.2.2.1 e1⟩
theorem wu:∀{S:List Int},mU S=true↔S.Pairwise (·<·)
 |[]=>by simp[mU]|[a]=>by simp[mU]|a::b::r=>by
   have ih:=wu (S:=b::r);simp only[mU,and_eq_true,decide_eq_true_eq,ih];rw[List.pairwise_cons (a:=a)];refine⟨fun⟨h1,h2⟩=>⟨fun c hc=>?_,h2⟩,fun⟨h1,h2⟩=>⟨h1 b (by simp),h2⟩⟩;rcases mem_cons.mp hc with rfl|hc;.exact h1
   .have:=(List.pairwise_cons.mp h2).1 c hc;omega
theorem FQ:∀(ns ks:List Int),ks.Nodup->(ns.foldl HH.uT ks).Nodup
 |[],_,h=>h|n::ns,ks,h=>by
   rw[foldl_cons];refine FQ ns _ ?_;unfold HH.uT;split;.exact h
   .rename_i hn;rw[nodup_append];refine⟨h,by simp,fun a ha b hb=>?_⟩;rintro rfl;rw[mem_singleton]at hb;subst hb;exact hn (by first|exact ha|simpa using ha)
theorem Hh:∀(ns ks:List Int),(ks++ns).Nodup->ns.foldl HH.uT ks=ks++ns
 |[],ks,_=>by simp|n::ns,ks,h=>by
   have hn:n∉ks:=fun z=>by rw[nodup_append]at h;exact h.2.2 n z n (by simp) rfl
   have e:HH.uT ks n=ks++[n]:=by unfold HH.uT;rw[if_neg (by simpa using hn)]
   rw[foldl_cons,e,Hh ns (ks++[n]) (by simpa using h)];simp
theorem lE(S:List Int):(S.map D.int).map cP=S:=by rw[map_map];exact(map_congr_left fun _ _=>rfl).trans (map_id _)
theorem Ad{a b:Int}:kJ (.int a) (.int b)=true↔a<=b:=by simp[kJ,mR,cP,cR]
theorem GC{S:List Int}(hl:S.length<=60):S.map D.int=kh ((cZ S).map D.int)↔mU S=true:=by
 rw[wu];constructor
 . intro e;have hp:S.Perm (cZ S):=by have:=(fX ((cZ S).map D.int)).map cP;rw[<-e,lE,lE]at this;exact this
   have nd:S.Nodup:=hp.nodup_iff.mpr (FQ S [] .nil);have hs:=j9 ((cZ S).map D.int);rw[<-e,pairwise_map]at hs;refine(hs.and nd).imp fun{a b}⟨h1,h2⟩=>?_;have:=Ad.mp h1;omega
 . intro hs;have nd:S.Nodup:=hs.imp fun{a b}h=>by omega
   have e:cZ S=S:=by have:=Hh S [] (by simpa using nd);simpa[cZ]using this
   rw[e];refine pG ?_ (.refl _) ?_;.have h:=(show S.length<=16777216 by omega);simp[sortable,h,dW]
   .rw[pairwise_map];exact hs.imp fun{a b}h=>Ad.mpr (by omega)
theorem G6{S:List Int}(hl:S.length<=60):blt .sset [.tup (S.map D.int)]=some (.own (kh ((cZ S).map D.int))):=by show(if _ then _ else _)=_;rw[if_pos ⟨by rw[length_map];omega,by rw[all_eq_true];intro x hx;obtain⟨i,_,rfl⟩:=mem_map.mp hx;rfl⟩,lE]
theorem Ck{S:List Int}:∃T:List Int,kh ((cZ S).map D.int)=T.map D.int:=by refine⟨(kh ((cZ S).map D.int)).map cP,?_⟩;rw[map_map];refine((map_congr_left fun d hd=>?_).trans (map_id _)).symm;obtain⟨i,_,rfl⟩:=mem_map.mp ((fX _).mem_iff.mp hd);rfl
theorem Es{S T:List Int}(h:S.map D.int=T.map D.int):S=T:=by have:=congrArg (map cP) h;rwa[lE,lE]at this
theorem Rn{S:List Int}(hl:S.length<=60):cm .ne (.lst (S.map D.int)) (.lst (kh ((cZ S).map D.int)))=some (!mU S):=by obtain⟨T,e⟩:=Ck (S:=S);have h:=GC hl;rw[e]at h ⊢;rw[Ab];congr 2;refine Bool.eq_iff_iff.mpr ?_;rw[<-h,beq_iff_eq];exact⟨fun z=>by rw[z],Es⟩
theorem JZ{S:List Int}:cm .eq (.tup (S.map D.int)) (.tup [])=some (decide (S=[])):=by show(if _ then _ else _)=_;rw[if_pos (by simp[du])];cases S<;>rfl
theorem Ji{w n:Nat}{m r:Int}{ws:List Wy}{fs S:List Int}{Q:R->List Sl->Prop}(h:cI m ws)(hl:S.length<=60)(k:∀b:Bool,(b=true↔Lg m ws r fs S)->Q (.val (.bl b)) [.val false (aR m ws),.val false (dq r fs S)]):(run Γ w (n+5) 30 [.val false (aR m ws),.val false (dq r fs S)]).sat Q:=by
 have hlim:S.length<=lim:=by show _<=16777216;omega
 refine aP (d:=YB) rfl rfl (by decide) ?_;symm;simp[YB,dq];apply aj;simp;refine CW (s:=.val false (.lst (fs.map D.int))) (.inl rfl) h fun b hb=>?_;cases b with|false=>simp;apply aj;simp;exact k false ⟨fun z=>noConfusion z,fun z=>by have:=hb.mpr z.1;cases this⟩|true=>
   have hr:=hb.mp rfl;simp[hlim,G6 hl,Rn hl];refine⟨fun e=>?_,fun e=>?_⟩;.symm;simp;refine k false ⟨fun z=>noConfusion z,fun z=>?_⟩;have:=z.2.1;cases S with|nil=>cases this|cons a q=>simp[lq,e]at this
   .cases S with|nil=>simp[show cm .eq (.tup []) (.tup [])=some true from rfl];apply aj;simp;exact k false ⟨fun z=>noConfusion z,fun z=>by have:=z.2.1;cases this⟩|cons a q=>
       have ek:cm .eq (.tup (.int a::q.map D.int)) (.tup [])=some false:=by have:=JZ (S:=a::q);simpa using this
       have el:at' (D.int a::q.map D.int) (-1)=some (.int ((a::q).getLast (by simp))):=by have:=Al (a:=D.int a) (r:=q.map D.int);rw[this];congr 1;have:=List.getLast_map (f:=D.int) (l:=a::q) (by simp);simpa using this
       simp[ek];apply aj;by_cases ha:a=0
       . subst ha;by_cases hb:(0::q).getLast (by simp)<m-1
         . have hs:lq m (0::q)=true:=by simp[lq,e];simpa using hb
           simp[el,show ¬ m-1<=(0::q).getLast (by simp)by omega];apply aj;simp;refine pY (s:=.val false (.lst (fs.map D.int))) (.inl rfl) h hr.1 ?_;by_cases e1:over 0 ws fs=r;.simp[e1];refine Bf (S:=0::q) h ?_;simp;exact k _ ⟨fun z=>⟨hr,hs,e1,by simpa using z⟩,fun z=>by simpa using z.2.2.2⟩
           .simp[e1];exact k false ⟨fun z=>noConfusion z,fun z=>absurd z.2.2.1 e1⟩
         .simp[el,show m-1<=(0::q).getLast (by simp)by omega];symm;simp;refine k false ⟨fun z=>noConfusion z,fun z=>?_⟩;have:=z.2.1;simp[lq,e]at this;exact absurd this (by simpa using hb)
       .simp[ha];symm;simp;refine k false ⟨fun z=>noConfusion z,fun z=>?_⟩;have:=z.2.1;simp[lq,ha]at this
theorem yR{w n:Nat}{m r:Int}{ws:List Wy}{fs S:List Int}{Q:R->List Sl->Prop}(h:cI m ws)(hf:fs.length<=1000)(hl:S.length<=60)(k:Q (.val (.bl true)) [.val false (aR m ws),.val false (dq r fs S)]):(run Γ w (n+6) 34 [.val false (aR m ws),.val false (dq r fs S)]).sat Q:=by
 have hlim:fs.length<=lim:=by show _<=16777216;omega
 refine aP (d:=XM) rfl rfl (by decide) ?_;symm;simp[XM,dq,hlim];apply aj;simp;refine Fw (r:=r) (fs:=fs) (S:=S) h hl fun b hb=>?_;simp;apply aj;simp;refine Ji (r:=r) (fs:=fs) (S:=S) h hl fun b' hb'=>?_;have e:b=b':=Bool.eq_iff_iff.mpr (hb.trans hb'.symm);subst e;simp[dq,zH];exact k
theorem oZ{S:List Int}{a b:Option Int}:cut (S.map D.int) a b=(cut S a b).map D.int:=by unfold cut;simp
theorem kY{α:Type}{S:List α}{a b:Option Int}:(cut S a b).length<=S.length:=by unfold cut;simp;omega
def PZ(m:Int)(d:D):Prop:=∃i:Int,d=.int i/\1<=i/\i<m-1
theorem zy{m:Int}:∀{xs:List D},(∀x∈xs,PZ m x)->∃ns:List Int,xs=ns.map D.int|[],_=>⟨[],rfl⟩|x::xs,h=>by obtain⟨i,rfl,h1⟩:=h x (by simp);obtain⟨ns,rfl⟩:=zy (m:=m) (xs:=xs) fun y hy=>h y (by simp[hy]);exact⟨i::ns,rfl⟩
inductive F5(a b c d e:Sl)(ρ:List Sl):Prop where|mk(s:Sl)(q0:ρ=[a,b,c,d,e,s])(q1:fr s=true)
theorem VB{m:Int}(m0:2<=m)(m1:m<=6):∃N:Nat,0<N/\N<=16/\(2:Int)^(m-2).toNat=N:=by
 have:m=2\/m=3\/m=4\/m=5\/m=6:=by omega
 rcases this with rfl|rfl|rfl|rfl|rfl;.exact⟨1,by decide,by decide,rfl⟩
 .exact⟨2,by decide,by decide,rfl⟩
 .exact⟨4,by decide,by decide,rfl⟩
 .exact⟨8,by decide,by decide,rfl⟩
 .exact⟨16,by decide,by decide,rfl⟩
theorem BV{w n:Nat}{x y z m:Int}{ws:List Wy}{S:List Int}{Q:R->List Sl->Prop}(h:cI m ws)(hl:S.length<=900)(k:∀(T:List Int)(x z:Int),T.length<=S.length+10->Q (.val (.tup (T.map D.int))) [.own true [.int x,.int y,.int z],.val false (aR m ws),.val false (.tup (S.map D.int))]):(run Γ w (n+2) 31 [.own true [.int x,.int y,.int z],.val false (aR m ws),.val false (.tup (S.map D.int))]).sat Q:=by
 have m0:=h.m0;have m1:=h.m1;obtain⟨N,hN0,hN,hp⟩:=VB m0 m1;refine aP (d:=Yc) rfl rfl (by decide) ?_;symm;simp[Yc];refine bf (by decide) (by decide) fun d x z hd1 hd2=>?_;simp;apply aj;by_cases q3:d<3
 . simp[q3];symm;simp[show 0<=m-2 by omega,show m-2<=1000 by omega,hp];refine⟨m0,?_⟩;refine bf (by omega) (by show _<(1606938044258990275541962092341162602522202993782792835301376:Int);omega) fun bi x z hb1 hb2=>?_;simp;apply aj;simp[show m-1<=1000000000 by omega,show-1000000000<=m-1 by omega];refine⟨fun _=>?_,by omega⟩;refine mz (F5 _ _ _ _ _) (PZ m) ⟨.aZ,rfl,rfl⟩ ?_ ?_
   . rintro d hd' _⟨s',rfl,hs'⟩;rw[mem_map]at hd';obtain⟨j,hj,rfl⟩:=hd';rw[mem_range]at hj;simp[hs',show(0:Int)<=1+(j:Int)-1 by omega];refine⟨by omega,?_⟩;generalize PySem.Builtin.bitAnd _ _=q;by_cases hq:q=1;.rw[if_pos hq];exact⟨⟨_,rfl,by omega,by omega⟩,_,rfl,rfl⟩
     .rw[if_neg hq];exact⟨_,rfl,rfl⟩
   .rintro xs _⟨s',rfl,hs'⟩W8 hxs;obtain⟨ns,rfl⟩:=zy hxs;simp at W8;simp[show 1+ns.length<=lim by show _<=16777216;omega];exact k (0::ns) _ _ (by simp;omega)
 . have hS:S.length+2<=lim:=by show _<=16777216;omega
   have hS1:S.length+1<=lim:=by show _<=16777216;omega
   simp[q3];apply aj;by_cases q4:d=3;.subst q4;simp;apply aj;simp[hS1];have:=k (S++[m-1]) x z (by simp);simpa using this
   . simp[q4];symm;by_cases q5:d=4;.subst q5;simp;apply aj;simp[Bd,part,vJ,oZ];exact k (cut S (some 1) none) _ _ (by have:=kY (S:=S) (a:=some 1) (b:=none);omega)
     . simp[q5];symm;by_cases q6:d=5;.subst q6;simp;apply aj;simp[show blt .rvs [.tup (S.map D.int)]=some (.val (.tup (S.map D.int).reverse))from rfl];have:=k S.reverse x z (by simp);simpa using this
       . simp[q6];symm;have c1:=kY (S:=S) (a:=some (-1)) (b:=none);have c2:=kY (S:=S) (a:=some 1) (b:=none);simp[Bd,part,vJ,oZ,show S.length+(cut S (some (-1)) none).length<=lim by show _<=16777216;omega,show 1+S.length<=lim by show _<=16777216;omega,hS1,show 2+(cut S (some 1) none).length<=lim by show _<=16777216;omega];refine bf (by decide) (by decide) fun d x z hd1 hd2=>?_;have hd:d=0\/d=1\/d=2\/d=3:=by omega
         rcases hd with rfl|rfl|rfl|rfl;.simp;have:=k (S++cut S (some (-1)) none) x z (by simp[cut];unfold cV;simp;omega);simpa using this
         .simp;have:=k (-1::S) x z (by simp);simpa using this
         .simp;have:=k (S++[1000000000000000000000000000000]) x z (by simp);simpa using this
         .simp;have:=k (0::0::cut S (some 1) none) x z (by simp;omega);simpa using this
noncomputable def lfD(ws:List Wy)(fs:List Int):D->D|.int i=>.int ((ws.map Wy.r).getD i.toNat 0-fs.getD i.toNat 0)|d=>d
@[simp]theorem adI{ws:List Wy}{fs:List Int}{i:Int}:lfD ws fs (.int i)=.int ((ws.map Wy.r).getD i.toNat 0-fs.getD i.toNat 0):=rfl
inductive F7(a b c d e f g:Sl)(ρ:List Sl):Prop where|mk(s:Sl)(q0:ρ=[a,b,c,d,e,f,g,s])(q1:fr s=true)
inductive JRg(a0 a1 a2 a4 a5:Sl)(N:Nat)(r:List D)(ρ:List Sl):Prop where|mk(gs:List Int)(ks:List Nat)(s6:Sl)(q0:ρ=[a0,a1,a2,.own false (gs.map D.int),a4,a5,s6])(q1:fr s6=true)(q2:gs.length=N)(q3:r=(bA ks).map D.int)(q4:∀k∈ks,k<N)
theorem xx{w n:Nat}{x y z m:Int}{ws:List Wy}{fs:List Int}{Q:R->List Sl->Prop}(h:cI m ws)(hf:fs.length<=1000)(k:∀(gs:List Int)(x z:Int),gs.length=fs.length->Q (.own (gs.map D.int)) [.own true [.int x,.int y,.int z],.val false (aR m ws),.val false (.lst (fs.map D.int))]):(run Γ w (n+3) 32 [.own true [.int x,.int y,.int z],.val false (aR m ws),.val false (.lst (fs.map D.int))]).sat Q:=by
 have m0:=h.m0;have m1:=h.m1;have hn:=h.len;have hlim:fs.length<=lim:=by show _<=16777216;omega
 refine aP (d:=YL) rfl rfl (by decide) ?_;symm;simp[YL,hlim];apply aj;by_cases e:fs.length=ws.length
 . simp[e];symm;simp[e,show(ws.length:Int)<=1000000000 by omega];refine⟨fun _=>?_,by show _<=16777216;omega⟩;refine cC (F7 _ _ _ _ _ _ _) (lfD ws fs) ⟨.aZ,rfl,rfl⟩ ?_ ?_
   . rintro d hd _⟨s',rfl,hs'⟩;rw[mem_map]at hd;obtain⟨j,hj,rfl⟩:=hd;rw[mem_range]at hj;have e1:ws[j]?=some ws[j]:=by simp[hj]
     have hj2:j<fs.length:=by omega
     have e2:fs[j]?=some fs[j]:=by simp[hj2]
     simp[hs',bz e1,bz e2,Wy.d,e1,e2,hj,hj2];exact⟨_,rfl,rfl⟩
   . rintro _⟨s',rfl,hs'⟩;have el:((List.range ws.length).map fun(j:Nat)=>D.int (j:Int)).map (lfD ws fs)=((List.range ws.length).map fun j=>(ws.map Wy.r).getD j 0-fs.getD j 0).map D.int:=by rw[map_map,map_map];rfl
     rw[el];generalize hls:((List.range ws.length).map fun j=>(ws.map Wy.r).getD j 0-fs.getD j 0)=ls;have hll:ls.length=ws.length:=by rw[<-hls];simp
     simp;apply aj;simp;refine bf (by omega) (by show _<(1606938044258990275541962092341162602522202993782792835301376:Int);omega) fun d x z hd1 hd2=>?_;simp;apply aj;simp;refine sO h hll fun ks x z hks=>?_;have hk:∀j∈ks,j<fs.length:=fun j hj=>by
      rcases hks with rfl|⟨_,hg,_⟩;.cases hj
      .obtain⟨l,hl,_⟩:=hg.2 j hj;have:=(List.getElem?_eq_some_iff.mp hl).1;omega
     simp;refine cF (JRg _ _ _ _ _ fs.length) ?_ ?_ ⟨fs,ks,.aZ,rfl,rfl,rfl,rfl,hk⟩;.rintro d r _⟨gs,ks,s6,rfl,h6,hg,hr,hk⟩;cases ks with|nil=>cases hr|cons j ks=>
         obtain⟨rfl,rfl⟩:d=.int (j:Int)/\r=(bA ks).map D.int:=by simp[bA]at hr;exact⟨hr.1,by simp[bA,hr.2]⟩
         have hj:j<gs.length:=by rw[hg];exact hk j (by simp)
         have ej:gs[j]?=some gs[j]:=by simp[hj]
         simp[h6];apply aj;simp[bz ej,qd (show j<gs.length from hj)];exact⟨gs.set j (gs[j]+1),ks,.val false (.int j),by simp,rfl,by simpa using hg,rfl,fun i hi=>hk i (by simp[hi])⟩
     .rintro _⟨gs,ks,s6,rfl,h6,hg,hr,hk⟩;symm;simp;exact k gs x z hg
 . have e':¬(fs.length:Int)=(ws.length:Int):=by omega
   simp[e'];apply aj;simp;exact k fs x z rfl
theorem pP{w n:Nat}{x y z m r:Int}{ws:List Wy}{fs S:List Int}{Q:R->List Sl->Prop}(h:cI m ws)(hf:fs.length<=900)(hl:S.length<=900)(k:∀(r':Int)(gs T:List Int)(x z:Int),gs.length<=fs.length+12->T.length<=S.length+10->Q (.val (dq r' gs T)) [.own true [.int x,.int y,.int z],.val false (aR m ws),.val false (dq r fs S)]):(run Γ w (n+4) 33 [.own true [.int x,.int y,.int z],.val false (aR m ws),.val false (dq r fs S)]).sat Q:=by
 have m0:=h.m0;have m1:=h.m1;have hn:=h.len;have hlim:fs.length<=lim:=by show _<=16777216;omega
 refine aP (d:=Vw) rfl rfl (by decide) ?_;symm;simp[Vw,dq];apply aj;simp;refine bf (by decide) (by decide) fun d x z hd1 hd2=>?_;simp;apply aj;by_cases q0:d=0
 . subst q0;simp;apply aj;simp;refine bf (by decide) (by decide) fun d x z hd1 hd2=>?_;have hd:d=0\/d=1\/d=2:=by omega
   rcases hd with rfl|rfl|rfl;.simp;exact k (r+1) fs S x z (by omega) (by omega)
   .simp;exact k (r+-1) fs S x z (by omega) (by omega)
   .simp;exact k (r+1000000000000000000000000000000) fs S x z (by omega) (by omega)
 . simp[q0];symm;by_cases q1:d=1;.subst q1;simp;apply aj;simp;refine yP h fun gs x z hg=>?_;simp;exact k r gs S x z (by have:=hg.1;omega) (by omega)
   . simp[q1];symm;by_cases q2:d=2;.subst q2;simp;apply aj;simp;refine xx h (by omega) fun gs x z hg=>?_;simp;exact k r gs S x z (by omega) (by omega)
     . simp[q2];symm;have last:∀(d x z:Int),¬ d=4->(sQ (run Γ w (n+3)) w (Vw.body.drop 6) (eQ 3 Q)) .next [.own true [.int x,.int y,.int z],.val false (aR m ws),.val false (dq r fs S),.val false (.int r),.val false (.lst (fs.map D.int)),.val false (.tup (S.map D.int)),.val false (.int d),.aZ,.aZ]:=by intro d x z q4;apply dG;simp[q4];apply dG;simp;refine BV h hl fun T x z hT=>?_;simp;exact k r fs T x z (by omega) hT
       by_cases q3:d=3
       . subst q3;by_cases hz:fs=[];.simp[uw,hz];subst hz;exact last 3 x z (by decide)
         . simp[uw,hz];have h0:0<fs.length:=by cases fs with|nil=>exact absurd rfl hz|cons _ _=>simp
           apply dG;simp[hlim];apply dG;simp;refine bf (by omega) (by show _<(1606938044258990275541962092341162602522202993782792835301376:Int);omega) fun d x z hd1 hd2=>?_;obtain⟨j,rfl⟩:∃j:Nat,d=j:=⟨d.toNat,by omega⟩;have hj:j<fs.length:=by omega
           have ej:fs[j]?=some fs[j]:=by simp[hj]
           simp;apply dG;simp[bz ej];refine bf (by decide) (by decide) fun e x z W5 he2=>?_;simp[qd (show j<fs.length from hj)];apply aj;simp;have:=k r (fs.set j (fs[j]+1-2*e)) S x z (by simp) (by omega);simpa[dq]using this
       . simp[q3];by_cases q4:d=4
         . subst q4;apply dG;simp;apply dG;have c2:=kY (S:=fs) (a:=some 1) (b:=none);simp[Bd,part,vJ,oZ,show fs.length+1<=lim by show _<=16777216;omega];refine bf (by decide) (by decide) fun d x z hd1 hd2=>?_;have hd:d=0\/d=1:=by omega
           rcases hd with rfl|rfl;.simp;have:=k r (fs++[0]) S x z (by simp) (by omega);simpa[dq]using this
           .simp;exact k r (cut fs (some 1) none) S x z (by omega) (by omega)
         .exact last d x z q4
noncomputable def Wy.z(w:Wy):Wy:={w with h:=0}
noncomputable def hlD:D->D|.tup [a,b,c,_]=>.tup [a,b,c,.int 0]|d=>d
@[simp]theorem adq{a b c e:D}:hlD (.tup [a,b,c,e])=.tup [a,b,c,.int 0]:=rfl
inductive F1z(a:Sl)(ρ:List Sl):Prop where|mk(s:Sl)(q0:ρ=[a,s])(q1:fr s=true)
theorem uz{w n:Nat}{m:Int}{ws:List Wy}{Q:R->List Sl->Prop}(h:cI m ws)(k:Q (.val (aR m (ws.map Wy.z))) [.val false (aR m ws)]):(run Γ w (n+1) 17 [.val false (aR m ws)]).sat Q:=by
 have hn:=h.len;refine aP (d:=Yq) rfl rfl (by decide) ?_;symm;simp[Yq,show ws.length<=lim by show _<=16777216;omega];refine cC (F1z _) hlD ⟨.aZ,rfl,rfl⟩ ?_ ?_;.rintro d hd _⟨s',rfl,hs'⟩;obtain⟨v,_,rfl⟩:=mem_map.mp hd;simp[hs',Wy.d];exact⟨_,rfl,rfl⟩
 . rintro _⟨s',rfl,hs'⟩;have e:(ws.map Wy.d).map hlD=(ws.map Wy.z).map Wy.d:=by rw[map_map,map_map];rfl
   rw[e];simp;simpa[aR]using k
noncomputable def eY(j:Nat)(f:Bool):D:=.tup [.int j,.bl f]
noncomputable def frm(v:Wy)(f:Bool):Int:=if f then v.s else v.t
noncomputable def too(v:Wy)(f:Bool):Int:=if f then v.t else v.s
theorem j4{w n j:Nat}{f:Bool}{m:Int}{ws:List Wy}{v:Wy}{Q:R->List Sl->Prop}(e:ws[j]?=some v)(k:Q (.val (.tup [.int (frm v f),.int (too v f)])) [.val false (aR m ws),.val false (eY j f)]):(run Γ w (n+1) 0 [.val false (aR m ws),.val false (eY j f)]).sat Q:=by refine aP (d:=f0) rfl rfl (by decide) ?_;symm;simp[f0,eY,bz e];apply aj;cases f with|true=>simp[Wy.d];exact k|false=>simp[Wy.d];exact k
theorem Cr{w n j:Nat}{f:Bool}{m:Int}{ws:List Wy}{v:Wy}{Q:R->List Sl->Prop}(e:ws[j]?=some v)(hz:v.h=0)(k:Q (.val (.int 0)) [.val false (aR m ws),.val false (eY j f)]):(run Γ w (n+1) 1 [.val false (aR m ws),.val false (eY j f)]).sat Q:=by refine aP (d:=f1) rfl rfl (by decide) ?_;symm;simp[f1,eY,bz e,Wy.d,hz];apply aj;cases f with|true=>simp;exact k|false=>simp;exact k
noncomputable def uV(v:Wy)(g:Int)(f:Bool):Int:=if f then v.r-g else g
theorem sH{w n j:Nat}{f:Bool}{s:Sl}{m g:Int}{ws:List Wy}{fs:List Int}{v:Wy}{Q:R->List Sl->Prop}(hs:DK s fs)(e:ws[j]?=some v)(eg:fs[j]?=some g)(k:Q (.val (.int (uV v g f))) [.val false (aR m ws),s,.val false (eY j f)]):(run Γ w (n+1) 2 [.val false (aR m ws),s,.val false (eY j f)]).sat Q:=by refine aP (d:=f2) rfl rfl (by decide) ?_;symm;rcases hs with rfl|⟨b,rfl⟩;all_goals simp[f2,eY,bz eg];apply aj;cases f with|true=>simp[bz e,Wy.d];exact k|false=>simp;exact k
@[simp]theorem Yi{c:Call}{n x k:Nat}{src elt:P}{is:List Nat}{one:Bool}{ρ:List Sl}:ex c n (.Hv x src k is one elt) ρ=(srcOf (isVar src) (ev c src) ρ).bind fun ds ρ₁=>if ds.length<=lim then(fB is one (ev c elt) ds [] (ρ₁++replicate k .aZ)).bind fun rows ρ₂=>(lift (put (bC ρ (isVar src) (ρ₂.take ρ₁.length)) x (.hold rows)) ρ).bind fun ρ' _=>.ok .next ρ' else .stuck:=(rfl)
@[simp]theorem YF{c:Call}{n:Nat}{src:P}{is:List Nat}{one:Bool}{body:List S}{ρ:List Sl}:ex c n (.Cy src is one body) ρ=(ev c src ρ).bind fun r ρ₁=>(lift (items r.d) ρ₁).bind fun ds ρ₁=>gW is one (gj c n body) ds ρ₁:=(rfl)
@[simp]theorem aaS{c:Call}{n x:Nat}{ρ:List Sl}:ex c n (.cU x) ρ=match ρ[x]?with|some (.hold rows)=>.ok .next (ρ.set x (.val false (.lst (rows.map D.lst))))|_=>.stuck:=(rfl)
@[simp]theorem Xd{c:Call}{n x:Nat}{i e:P}{ρ:List Sl}:ex c n (.Hw x i e) ρ=(dm (isVar i) (ev c i) ρ).bind fun k ρ=>(lift (tD ρ x k) ρ).bind fun _ ρ=>(ev c e ρ).bind fun r ρ=>Ca ρ x ((iW ρ x).bind fun rows=>(jd k).bind fun k=>ju rows k fun row=>if row.length<lim then some (row++[r.d])else none):=(rfl)
@[simp]theorem Ym{a:Sl}{l:List Sl}{x:Nat}:iW (a::l) x=match(a::l)[x]?with|some (.hold rows)=>some rows|_=>none:=rfl
@[simp]theorem SN{ρ:List Sl}{x:Nat}{rows:List (List D)}:Ca ρ x (some rows)=.ok .next (ρ.set x (.hold rows)):=rfl
@[simp]theorem abP{a:Sl}{l:List Sl}{x:Nat}{k:Int}:tD (a::l) x (.int k)=match(a::l)[x]?with|some (.hold rows)=>rowAt rows k|_=>none:=by unfold tD iW;cases h:(a::l)[x]?with|none=>rfl|some s=>cases s<;>rfl
theorem qt{is:List Nat}{one:Bool}{elt:Ev}(J:List Sl->Prop)(g:D->List D){Q:List (List D)->List Sl->Prop}:∀{ds:List D}{acc:List (List D)}{ρ:List Sl},J ρ->(∀d,d∈ds->∀ρ,J ρ->∃ρ1,bW ρ is one d=some ρ1/\(elt ρ1).sat fun r ρ3=>r=.own (g d)/\J ρ3)->(∀ρ,J ρ->Q (acc++ds.map g) ρ)->(fB is one elt ds acc ρ).sat Q|[],acc,ρ,j,h,k=>by rw[fB];simpa using k ρ j|d::r,acc,ρ,j,h,k=>by obtain⟨ρ1,e,h1⟩:=h d (by simp) ρ j;rw[fB,e];show((elt ρ1).bind _).sat Q;rw[bF];refine h1.imp fun x ρ3⟨e1,j3⟩=>?_;subst e1;exact qt J g j3 (fun d' hd'=>h d' (by simp[hd'])) fun ρ' j'=>by simpa using k ρ' j'
@[simp]theorem ab2{c:Call}{x:Nat}{k:P}{ρ:List Sl}:ev c (.M4 x k) ρ=match ρ[x]?with
 |some (.dh _)=>(dm (isVar k) (ev c k) ρ).bind fun kd ρ=>match ρ[x]?with|some (.dh kvs)=>lift ((jd kd).bind fun k=>(mG kvs k).map .val) ρ|_=>.stuck
 |_=>.stuck:=(rfl)
noncomputable def uR(kvs:List (Int×D))(k:Int):Bool:=(kvs.map (·.1)).contains k
noncomputable def IW(kvs:List (Int×D)):List Int:=kvs.map (·.1)
noncomputable def dsV(kvs:List (Int×D)):List D:=kvs.map (·.2)
@[simp]theorem ZX{c:Call}{x:Nat}{k:P}{neg:Bool}{ρ:List Sl}:ev c (.M5 x k neg) ρ=(dm (isVar k) (ev c k) ρ).bind fun kd ρ=>match ρ[x]?with|some (.dh kvs)=>lift ((jd kd).map fun k=>.val (.bl (if neg then !uR kvs k else uR kvs k))) ρ|_=>.stuck:=(rfl)
@[simp]theorem XN{c:Call}{k e:Int}{ρ:List Sl}:ev c (.wV k e) ρ=.ok (.val (.dv [k] [.int e])) ρ:=(rfl)
@[simp]theorem adO{c:Call}{x:Nat}{ρ:List Sl}:ev c (.vw x) ρ=match ρ[x]?with|some (.qX m)=>.ok (.val (.dC m)) (ρ.set x (.val false (.dC m)))|some (.dh kvs)=>.ok (.val (.dv (IW kvs) (dsV kvs))) (ρ.set x (.val false (.dv (IW kvs) (dsV kvs))))|_=>.stuck:=(rfl)
@[simp]theorem Zc{c:Call}{n x:Nat}{ρ:List Sl}:ex c n (.Cz x) ρ=match ρ[x]?with|some .aZ=>.ok .next (ρ.set x (.dh []))|some (.dh _)=>.ok .next (ρ.set x (.dh []))|some (.val false _)=>.ok .next (ρ.set x (.dh []))|_=>.stuck:=(rfl)
@[simp]theorem Xc{c:Call}{n x:Nat}{k e:P}{ρ:List Sl}:ex c n (.jn x k e) ρ=(ev c e ρ).bind fun r ρ=>match ρ[x]?with
 |some (.dh _)=>(dm (isVar k) (ev c k) ρ).bind fun kd ρ=>match ρ[x]?,kd with|some (.dh kvs),.int k=>if kvs.length<lim then .ok .next (ρ.set x (.dh (jn kvs k r.d)))else .stuck|_,_=>.stuck
 |_=>.stuck:=(rfl)
@[simp]theorem Xz{c:Call}{n x:Nat}{i e:P}{sub:Bool}{ρ:List Sl}:ex c n (.Hu x i sub e) ρ=(lift (CN ρ x) ρ).bind fun _ ρ=>(dm (isVar i) (ev c i) ρ).bind fun k ρ=>(lift (CN ρ x) ρ).bind fun l ρ=>(lift ((jd k).bind fun i=>at' l i) ρ).bind fun a ρ=>(dm (isVar e) (ev c e) ρ).bind fun b ρ=>match a,b,ρ[x]?,k with
 |.int u,.int v,some (.own bb ds),.int k=>match iH ds.length k with|some j=>.ok .next (ρ.set x (.own bb (ds.set j (.int (if sub then u-v else u+v)))))|none=>.stuck
 |_,_,_,_=>.stuck:=(rfl)
@[simp]theorem Tr{x:Nat}{k:P}:isVar (.M4 x k)=none:=rfl
@[simp]theorem RV{x:Nat}{k:P}{b:Bool}:isVar (.M5 x k b)=none:=rfl
@[simp]theorem VP{x:Nat}:isVar (.vw x)=none:=rfl
@[simp]theorem Qg{k e:Int}:isVar (.wV k e)=none:=rfl
@[simp]theorem abW{kvs:List (Int×D)}:fr (.dh kvs)=false:=rfl
@[simp]theorem Yl{r:List (List D)}:fr (.hold r)=false:=rfl
@[simp]theorem Vj:oE .Cv=zp:=rfl
@[simp]theorem Xx:oE .Zj=vY false:=rfl
@[simp]theorem Ug{ks:List Int}{ds:List D}{k:Int}:zp (.dv ks ds) (.int k)=(mG (ks.zip ds) k).map .val:=rfl
@[simp]theorem Xy{ks:List Int}{ds:List D}{k:Int}:vY false (.int k) (.dv ks ds)=some (.val (.bl (ks.contains k))):=rfl
@[simp]theorem Te{ks:List Int}{ds:List D}:blt .keys [.dv ks ds]=some (.val (.tup (ks.map D.int))):=rfl
@[simp]theorem Zb{ks:List Int}{ds:List D}:blt .T4 [.dv ks ds]=if ks.length<=16777216 then some (.own (ks.map D.int))else none:=rfl
@[simp]theorem XC{ds:List D}:blt .Zk [.lst ds]=some (.val (.tup ds.reverse)):=rfl
@[simp]theorem QB{ks:List Int}{ds:List D}:blt .m8 [.dv ks ds]=if ks.length<64 then some (.own (kh (ks.map D.int)))else none:=rfl
@[simp]theorem R3{kvs:List (Int×D)}{x:Option Sl}:dY (.dh kvs) x=.dh kvs:=by cases x<;>rfl
@[simp]theorem NT{r:List (List D)}{x:Option Sl}:dY (.hold r) x=.hold r:=by cases x<;>rfl
structure HN(m:Int)(ws:List Wy):Prop where
 m0:2<=m
 m1:m<=6
 len:ws.length<=12
 ok:∀w∈ws,(0<=w.s/\w.s<m)/\(0<=w.t/\w.t<m)/\w.h=0
theorem HN.of{m:Int}{ws:List Wy}(h:cI m ws):HN m (ws.map Wy.z):=⟨h.m0,h.m1,by rw[length_map];exact h.len,fun w hw=>by obtain⟨v,hv,rfl⟩:=mem_map.mp hw;have:=h.ok v hv;exact⟨⟨this.s0,this.s1⟩,⟨this.t0,this.t1⟩,rfl⟩⟩
noncomputable abbrev aO:=Nat×Bool
noncomputable def sD(s:aO):D:=eY s.1 s.2
noncomputable def jw(ws:List Wy)(fs:List Int)(p:Int)(s:aO):Bool:=match ws[s.1]?,fs[s.1]?with|some v,some g=>decide (frm v s.2=p)&&decide (0<uV v g s.2)|_,_=>false
theorem ug{ws:List Wy}{fs:List Int}{p:Int}{s:aO}{v:Wy}{g:Int}(e:ws[s.1]?=some v)(e2:fs[s.1]?=some g):jw ws fs p s=(decide (frm v s.2=p)&&decide (0<uV v g s.2)):=by unfold jw;rw[e,e2]
noncomputable def j5(ws:List Wy)(fs:List Int)(M:Nat)(l:List aO):List (List aO):=(List.range M).map fun(p:Nat)=>l.filter (jw ws fs (p:Int))
noncomputable def rD(l:List (List aO)):List (List D):=l.map fun r=>r.map sD
noncomputable def gR(N:Nat):List aO:=(List.range N).flatMap fun j=>[(j,true),(j,false)]
theorem rW{N:Nat}:gR (N+1)=(gR N++[(N,true)])++[(N,false)]:=by simp[gR,List.range_succ]
theorem u0{N:Nat}:(gR N).length=2*N:=by induction N with|zero=>rfl|succ N ih=>rw[rW];simp[ih];omega
theorem Pu{m:Int}{ws:List Wy}(h:HN m ws){j:Nat}{v:Wy}(e:ws[j]?=some v)(f:Bool):0<=frm v f/\frm v f<m:=by have:=h.ok v (mem_of_getElem? e);cases f<;>simp only[frm]<;>simp<;>omega
theorem Qc{m:Int}{ws:List Wy}(h:HN m ws){j:Nat}{v:Wy}(e:ws[j]?=some v)(f:Bool):0<=too v f/\too v f<m:=by have:=h.ok v (mem_of_getElem? e);cases f<;>simp only[too]<;>simp<;>omega
theorem Gq{ws:List Wy}{fs:List Int}{M:Nat}{l:List aO}{s:aO}{v:Wy}{g:Int}(e:ws[s.1]?=some v)(e2:fs[s.1]?=some g)(h:¬ 0<uV v g s.2):j5 ws fs M (l++[s])=j5 ws fs M l:=by unfold j5;refine map_congr_left fun p _=>?_;rw[List.filter_append];simp[ug e e2,h]
theorem J3{ws:List Wy}{fs:List Int}{m:Int}{l:List aO}{s:aO}{v:Wy}{g:Int}(e:ws[s.1]?=some v)(e2:fs[s.1]?=some g)(h:0<uV v g s.2)(hp:0<=frm v s.2/\frm v s.2<m)(hl:l.length<1000):(∃row,rowAt (rD (j5 ws fs m.toNat l)) (frm v s.2)=some row)/\ju (rD (j5 ws fs m.toNat l)) (frm v s.2) (fun row=>if row.length<lim then some (row++[sD s])else none)=some (rD (j5 ws fs m.toNat (l++[s]))):=by
 have hlen:(rD (j5 ws fs m.toNat l)).length=m.toNat:=by simp[rD,j5]
 have hx:iH (rD (j5 ws fs m.toNat l)).length (frm v s.2)=some (frm v s.2).toNat:=by unfold iH;rw[hlen,if_pos hp.1,if_pos (by omega)]
 have hg:(rD (j5 ws fs m.toNat l))[(frm v s.2).toNat]?=some ((l.filter (jw ws fs (frm v s.2))).map sD):=by simp[rD,j5,show(frm v s.2).toNat<m.toNat by omega,Int.toNat_of_nonneg hp.1]
 refine⟨⟨_,by unfold rowAt;rw[hx];exact hg⟩,?_⟩;unfold ju;rw[hx];show((rD (j5 ws fs m.toNat l))[(frm v s.2).toNat]?).bind _=_;rw[hg];have hq:((l.filter (jw ws fs (frm v s.2))).map sD).length<lim:=by have:=List.length_filter_le (jw ws fs (frm v s.2)) l;rw[length_map];show _<16777216;omega
 show Option.map _ (if _ then _ else _)=_;rw[if_pos hq];show some _=some _;congr 1;refine List.ext_getElem (by simp[rD,j5]) fun i h2 h3=>?_;rw[List.getElem_set];by_cases c:(frm v s.2).toNat=i
 . rw[if_pos c];have:(i:Int)=frm v s.2:=by omega
   simp[rD,j5,this,List.filter_append,ug e e2,h]
 . rw[if_neg c];have:¬ frm v s.2=(i:Int):=by omega
   simp[rD,j5,List.filter_append,ug e e2,this]
inductive JOp(m:Int)(ws:List Wy)(fs:List Int)(s:Sl)(i:Nat)(ρ:List Sl):Prop where|mk(s3 s4:Sl)(q0:ρ=[.val false (aR m ws),s,.hold (rD (j5 ws fs m.toNat (gR i))),s3,s4])(q1:fr s3=true)(q2:fr s4=true)
inductive JOq(m:Int)(ws:List Wy)(fs:List Int)(s:Sl)(i:Nat)(r:List D)(ρ:List Sl):Prop where|mk(l us:List aO)(s4:Sl)(q0:ρ=[.val false (aR m ws),s,.hold (rD (j5 ws fs m.toNat l)),.val false (.int i),s4])(q1:fr s4=true)(q2:r=us.map sD)(q3:l++us=gR (i+1))(q4:∀u∈us,u.1=i)
inductive F1n(a b c d e:Sl)(ρ:List Sl):Prop where|mk(s:Sl)(q0:ρ=[a,b,c,d,e,s])(q1:fr s=true)
theorem Et{w n:Nat}{s:Sl}{m:Int}{ws:List Wy}{fs:List Int}{Q:R->List Sl->Prop}(hs:DK s fs)(h:HN m ws)(hf:fs.length=ws.length)(k:Q (.val (.lst ((rD (j5 ws fs m.toNat (gR ws.length))).map D.lst))) [.val false (aR m ws),s]):(run Γ w (n+2) 3 [.val false (aR m ws),s]).sat Q:=by
 have hn:=h.len;have m0:=h.m0;have m1:=h.m1;refine aP (d:=f3) rfl rfl (by decide) ?_;refine dB (fun ρ=>ρ=[.val false (aR m ws),s,.hold (rD (j5 ws fs m.toNat (gR 0))),.aZ,.aZ]) ?_ ?_
 . simp[f3,show m<=1000000000 by omega,show-1000000000<=m by omega];refine⟨fun _=>?_,by omega⟩;rw[bF];refine qt (F1n _ _ _ _ _) (fun _=>[]) ⟨.aZ,rfl,rfl⟩ ?_ ?_;.rintro d hd _⟨s',rfl,hs'⟩;simp[hs'];exact⟨_,rfl,rfl⟩
   .rintro _⟨s',rfl,hs'⟩;simp[rD,j5,gR]
 rintro _ rfl;refine dB (JOp m ws fs s ws.length) ?_ ?_
 . simp[show(ws.length:Int)<=1000000000 by omega];refine dM (JOp m ws fs s) ?_ ?_ ⟨.aZ,.aZ,rfl,rfl,rfl⟩
   . rintro i _ hi⟨s3,s4,rfl,h3,h4⟩;have hi2:i<fs.length:=by omega
     have e1:ws[i]?=some ws[i]:=by simp[hi]
     have e2:fs[i]?=some fs[i]:=by simp[hi2]
     generalize ws[i]=v at*;generalize fs[i]=g at*;simp[h3];apply aj;simp;refine cF (JOq m ws fs s i) ?_ ?_ ⟨gR i,[(i,true),(i,false)],s4,rfl,h4,rfl,by rw[rW];simp,by simp⟩;.rintro d r _⟨l,us,s4,rfl,h4,hr,hl,hu⟩;cases us with|nil=>cases hr|cons u us=>
         obtain⟨rfl,rfl⟩:d=sD u/\r=us.map sD:=by simpa using hr
         obtain rfl:=hu u (by simp);have hl2:(l++[u])++us=gR (u.1+1):=by rw[append_assoc];exact hl
         have hll:l.length<1000:=by have:=congrArg List.length hl;rw[u0]at this;simp at this;omega
         simp[h4];apply aj;rcases hs with rfl|⟨b,rfl⟩;all_goals
          simp[sD];refine sH (by first|exact .inl rfl|exact .inr ⟨_,rfl⟩) e1 e2 ?_;simp;refine⟨fun ho=>?_,fun ho=>?_⟩;.obtain⟨⟨row,q1⟩,q2⟩:=J3 (ws:=ws) (fs:=fs) (l:=l) e1 e2 ho (Pu h e1 u.2) hll;symm;simp;refine j4 e1 ?_;simp[q1];have q3:ju (rD (j5 ws fs m.toNat l)) (frm v u.2) (fun row=>if row.length<lim then some (row++[eY u.1 u.2])else none)=_:=q2;rw[q3];simp;exact⟨l++[u],us,_,rfl,rfl,rfl,hl2,fun x hx=>hu x (by simp[hx])⟩
          .exact⟨l++[u],us,_,by rw[Gq e1 e2 (by omega)],rfl,rfl,hl2,fun x hx=>hu x (by simp[hx])⟩
     . rintro _⟨l,us,s4,rfl,h4,hr,hl,hu⟩;have:us=[]:=by cases us with|nil=>rfl|cons _ _=>cases hr
       subst this;rw[append_nil]at hl;subst hl;simp;exact⟨_,_,rfl,rfl,h4⟩
   .rintro _⟨s3,s4,rfl,h3,h4⟩;exact⟨rfl,_,_,rfl,h3,h4⟩
 rintro _⟨s3,s4,rfl,h3,h4⟩;symm;simp;apply aj;simp;exact k
noncomputable abbrev En:=Int×Nat×Option aO
noncomputable def oS:Option aO->D|none=>.non|some s=>sD s
noncomputable def xj(e:En):D:=.tup [.int 0,.int (e.2.1:Int),oS e.2.2]
noncomputable def en(e:En):Int×D:=(e.1,xj e)
noncomputable def lz(es:List En):D:=.dv (es.map (·.1)) (es.map xj)
noncomputable def HR(p:Int):Int×D:=(p,.bl true)
@[simp]theorem Rj{l:List Int}:IW (l.map HR)=l:=by simp[IW,HR,Function.comp_def]
theorem DY{l:List En}:IW (l.map en)=l.map (·.1):=by simp[IW,en,Function.comp_def]
theorem xU{l:List En}{p:Int}:uR (l.map en) p=true↔∃n o,(p,n,o)∈l:=by show(IW (l.map en)).contains p=true↔_;rw[DY];simp
theorem kin_no{l:List En}{p:Int}(h:¬ ∃n o,(p,n,o)∈l):uR (l.map en) p=false:=by cases e:uR (l.map en) p with|false=>rfl|true=>exact absurd (xU.mp e) h
theorem jH{p:Int}{n:Nat}{o:Option aO}:∀{l:List En},(l.map (·.1)).Nodup->(p,n,o)∈l->mG (l.map en) p=some (xj (p,n,o))
 |[],_,h=>by cases h|e::l,hn,h=>by
   rw[map_cons,nodup_cons]at hn;unfold mG;rw[map_cons,find?_cons];by_cases c:e.1=p
   . have:(p,n,o)=e:=by
      rcases mem_cons.mp h with h|h;.exact h
      .exact absurd (c▸mem_map.mpr ⟨_,h,rfl⟩) hn.1
     subst this;simp[en]
   . have h':(p,n,o)∈l:=by
      rcases mem_cons.mp h with h|h;.exact absurd (by rw[<-h]) c
      .exact h
     simp[en,c];have:=jH hn.2 h';unfold mG at this;simpa[en]using this
theorem vH{kvs:List (Int×D)}{p:Int}{d:D}(h:uR kvs p=false):jn kvs p d=kvs++[(p,d)]:=by
 unfold jn;rw[if_neg];intro h2;obtain⟨x,hx,e⟩:=List.any_eq_true.mp h2;have:uR kvs p=true:=by show(kvs.map (·.1)).contains p=true;rw[List.contains_iff_mem];exact mem_map.mpr ⟨x,hx,by simpa using e⟩
 rw[this]at h;cases h
theorem Di{l:List En}{p:Int}{a b:Nat}{o u:Option aO}(hn:(l.map (·.1)).Nodup)(h1:(p,a,o)∈l)(h2:(p,b,u)∈l):a=b/\o=u:=by
 have e1:=jH hn h1;rw[jH hn h2]at e1;have:xj (p,b,u)=xj (p,a,o):=by simpa using e1
 unfold xj at this;simp at this;refine⟨by omega,?_⟩;cases o with
 |none=>cases u with|none=>rfl|some u=>cases this.2
 |some o=>cases u with|none=>cases this.2|some u=>have:=this.2;simp[oS,sD,eY]at this;rw[Prod.ext_iff.mpr ⟨(by omega:o.1=u.1),this.2.symm⟩]
theorem vf{α:Type}[BEq α][LawfulBEq α]:∀{l l2:List α},l.Nodup->(∀a∈l,a∈l2)->l.length<=l2.length
 |[],_,_,_=>zero_le _|a::l,l2,hn,hs=>by
   have ha:=hs a (by simp);have hn':=nodup_cons.mp hn;have:=vf (l:=l) (l2:=l2.erase a) hn'.2 fun b hb=>by
    have hba:b≠a:=by rintro rfl;exact hn'.1 hb
    exact(List.mem_erase_of_ne hba).mpr (hs b (by simp[hb]))
   rw[List.length_erase_of_mem ha]at this;have:=List.length_pos_of_mem ha;simp only[length_cons];omega
structure Mf(m:Int)(ws:List Wy)(fs:List Int)(es:List En):Prop where
 nd:(es.map (·.1)).Nodup
 inm:∀p l o,(p,l,o)∈es->0<=p/\p<m
 z:(0,0,none)∈es
 lv:∀p l o,(p,l,o)∈es->l<es.length
 stp:∀p l o,(p,l,o)∈es->(o=none/\p=0/\l=0)\/∃(s:aO)(v:Wy)(l':Nat)(o':Option aO),o=some s/\l=l'+1/\ws[s.1]?=some v/\too v s.2=p/\jw ws fs (frm v s.2) s=true/\(frm v s.2,l',o')∈es
theorem Mf.len{m:Int}{ws:List Wy}{fs:List Int}{es:List En}(h:Mf m ws fs es)(m1:m<=6):es.length<=6:=by
 have:=vf (l2:=[0,1,2,3,4,5]) h.nd fun q hq=>by
  obtain⟨⟨p,l,o⟩,he,rfl⟩:=mem_map.mp hq;have:=h.inm p l o he;have:p=0\/p=1\/p=2\/p=3\/p=4\/p=5:=by omega
  simpa using this
 simpa using this
def Q4(ws:List Wy)(es:List En)(n:Nat)(s:aO):Prop:=∀v,ws[s.1]?=some v->∃l o,(too v s.2,l,o)∈es/\l<=n+1
theorem Q4.app{ws:List Wy}{es es':List En}{n:Nat}{s:aO}(h:Q4 ws es n s):Q4 ws (es++es') n s:=fun v e=>by obtain⟨l,o,h1,h2⟩:=h v e;exact⟨l,o,mem_append_left _ h1,h2⟩
structure In(m:Int)(ws:List Wy)(fs:List Int)(n:Nat)(R:List Int)(L:Nat)(K:aO->Prop)(es:List En)(ch:List Int):Prop where
 cm:Mf m ws fs es
 row:∀p∈R,∃o,(p,n,o)∈es
 Ia:∀p l o,(p,l,o)∈es->l<=n+1
 new:∀p o,(p,n+1,o)∈es->p∈ch
 old:∀p o,(p,n,o)∈es->p∈R
 chg:∀p∈ch,∃o,(p,n+1,o)∈es
 cl:∀p l o s,(p,l,o)∈es->l<n->jw ws fs p s=true->Q4 ws es l s
 dn:∀s,K s->Q4 ws es n s
 len:es.length=L+ch.length
theorem In.put{m:Int}{ws:List Wy}{fs:List Int}{n:Nat}{R:List Int}{L:Nat}{K:aO->Prop}{es:List En}{ch:List Int}(h:In m ws fs n R L K es ch)(hm:HN m ws){s:aO}{v:Wy}{p:Int}(hp:p∈R)(e:ws[s.1]?=some v)(ho:jw ws fs p s=true)(hf:frm v s.2=p)(hn:¬ ∃l o,(too v s.2,l,o)∈es):In m ws fs n R L (fun u=>K u\/u=s) (es++[(too v s.2,n+1,some s)]) (ch++[too v s.2]):=by
 obtain⟨op,hop⟩:=h.row p hp;have mono:∀{p l o},(p,l,o)∈es->(p,l,o)∈es++[(too v s.2,n+1,some s)]:=fun z=>mem_append_left _ z;have last:(too v s.2,n+1,some s)∈es++[(too v s.2,n+1,some s)]:=mem_append_right _ (by simp);have Rz:∀{p l o},(p,l,o)∈es++[(too v s.2,n+1,some s)]->(p,l,o)∈es\/(p=too v s.2/\l=n+1/\o=some s):=fun z=>by simpa using z
 refine⟨⟨?_,fun p l o z=>?_,mono h.cm.z,fun p l o z=>?_,fun p l o z=>?_⟩,fun q hq=>?_,fun p l o z=>?_,fun q o z=>?_,fun q o z=>?_,fun q hq=>?_,fun q l o u z hl hu=>?_,fun u hu=>?_,?_⟩
 . rw[List.map_append,nodup_append];refine⟨h.cm.nd,by simp,fun a ha b hb e=>?_⟩;obtain rfl:b=too v s.2:=by simpa using hb
   obtain⟨⟨q,l,o⟩,hq,rfl⟩:=mem_map.mp ha;exact hn ⟨l,o,e▸hq⟩
 . rcases Rz z with z|⟨rfl,_,_⟩;.exact h.cm.inm p l o z
   .exact Qc hm e s.2
 . have hl:=h.cm.lv _ _ _ hop;simp only[length_append,length_cons,length_nil];rcases Rz z with z|⟨_,rfl,_⟩;.have:=h.cm.lv p l o z;omega
   .omega
 . rcases Rz z with z|⟨rfl,rfl,rfl⟩
   . rcases h.cm.stp p l o z with z|⟨s',v',l',o',z1,z2,z3,z4,z5,z6⟩;.exact .inl z
     .exact .inr ⟨s',v',l',o',z1,z2,z3,z4,z5,mono z6⟩
   .exact .inr ⟨s,v,n,op,rfl,rfl,e,rfl,by rw[hf];exact ho,by rw[hf];exact mono hop⟩
 .obtain⟨o,z⟩:=h.row q hq;exact⟨o,mono z⟩
 . rcases Rz z with z|⟨_,rfl,_⟩;.exact h.Ia p l o z
   .exact le_refl _
 . rcases Rz z with z|⟨rfl,_,_⟩;.exact mem_append_left _ (h.new q o z)
   .exact mem_append_right _ (by simp)
 . rcases Rz z with z|⟨_,z,_⟩;.exact h.old q o z
   .omega
 . rcases mem_append.mp hq with hq|hq;.obtain⟨o,z⟩:=h.chg q hq;exact⟨o,mono z⟩
   . obtain rfl:q=too v s.2:=by simpa using hq
     exact⟨_,last⟩
 . rcases Rz z with z|⟨_,rfl,_⟩;.exact(h.cl q l o u z hl hu).app
   .omega
 . rcases hu with hu|rfl;.exact(h.dn u hu).app
   .exact fun v' e'=>by rw[e]at e';cases e';exact⟨_,_,last,le_refl _⟩
 .have:=h.len;simp only[length_append,length_cons,length_nil];omega
theorem In.keep{m:Int}{ws:List Wy}{fs:List Int}{n:Nat}{R:List Int}{L:Nat}{K:aO->Prop}{es:List En}{ch:List Int}(h:In m ws fs n R L K es ch){s:aO}{v:Wy}{l:Nat}{o:Option aO}(e:ws[s.1]?=some v)(hn:(too v s.2,l,o)∈es):In m ws fs n R L (fun u=>K u\/u=s) es ch:=by
 refine⟨h.cm,h.row,h.Ia,h.new,h.old,h.chg,h.cl,fun u hu=>?_,h.len⟩;rcases hu with hu|rfl;.exact h.dn u hu
 .exact fun v' e'=>by rw[e]at e';cases e';exact⟨_,_,hn,h.Ia _ _ _ hn⟩
structure Wh(m:Int)(ws:List Wy)(fs:List Int)(n:Nat)(R:List Int)(es:List En):Prop where
 cm:Mf m ws fs es
 row:∀p∈R,∃o,(p,n,o)∈es
 Ia:∀p l o,(p,l,o)∈es->l<=n
 old:∀p o,(p,n,o)∈es->p∈R
 cl:∀p l o s,(p,l,o)∈es->l<n->jw ws fs p s=true->Q4 ws es l s
theorem Wh.start{m:Int}{ws:List Wy}{fs:List Int}(m0:2<=m):Wh m ws fs 0 [0] [(0,0,none)]:=by
 refine⟨⟨by simp,fun p l o z=>?_,by simp,fun p l o z=>?_,fun p l o z=>.inl ?_⟩,fun p hp=>?_,fun p l o z=>?_,fun p o z=>?_,fun p l o s z hl=>by omega⟩;.simp at z;omega
 .simp at z;simp[z]
 .simp at z;exact⟨z.2.2,z.1,z.2.1⟩
 .simp at hp;subst hp;exact⟨none,by simp⟩
 .simp at z;omega
 .simp at z;simp[z.1]
theorem Wh.to{m:Int}{ws:List Wy}{fs:List Int}{n:Nat}{R:List Int}{es:List En}(h:Wh m ws fs n R es):In m ws fs n R es.length (fun _=>False) es []:=⟨h.cm,h.row,fun p l o z=>Nat.le_succ_of_le (h.Ia p l o z),fun p o z=>absurd (h.Ia _ _ _ z) (by omega),h.old,fun p hp=>(by cases hp),h.cl,fun s hs=>hs.elim,by simp⟩
theorem In.out{m:Int}{ws:List Wy}{fs:List Int}{n:Nat}{R:List Int}{L:Nat}{es:List En}{ch:List Int}(h:In m ws fs n R L (fun s=>∃p∈R,jw ws fs p s=true) es ch):Wh m ws fs (n+1) ch es:=⟨h.cm,h.chg,h.Ia,h.new,fun p l o s z hl hs=>by
  by_cases c:l<n;.exact h.cl p l o s z c hs
  . obtain rfl:l=n:=by omega
    exact h.dn s ⟨p,h.old p o z,hs⟩⟩
structure wL(m:Int)(ws:List Wy)(fs:List Int)(es:List En):Prop where
 cm:Mf m ws fs es
 cl:∀p l o s,(p,l,o)∈es->jw ws fs p s=true->Q4 ws es l s
theorem Wh.fin{m:Int}{ws:List Wy}{fs:List Int}{n:Nat}{es:List En}(h:Wh m ws fs n [] es):wL m ws fs es:=⟨h.cm,fun p l o s z hs=>h.cl p l o s z (by
  have:=h.Ia p l o z;by_cases c:l=n;.subst c;cases h.old p o z
  .omega) hs⟩
theorem wj{N:Nat}{s:aO}(h:s.1<N):s∈gR N:=by unfold gR;rw[List.mem_flatMap];refine⟨s.1,by simp[h],?_⟩;obtain⟨j,f⟩:=s;cases f<;>simp
theorem yM{ws:List Wy}{fs:List Int}{p:Int}{s:aO}(h:jw ws fs p s=true):∃v g,ws[s.1]?=some v/\fs[s.1]?=some g/\frm v s.2=p/\0<uV v g s.2:=by
 unfold jw at h;split at h;.rename_i v g e1 e2;simp at h;exact⟨v,g,e1,e2,h.1,h.2⟩
 .cases h
theorem In.imp{m:Int}{ws:List Wy}{fs:List Int}{n:Nat}{R:List Int}{L:Nat}{K K':aO->Prop}{es:List En}{ch:List Int}(h:In m ws fs n R L K es ch)(z:∀s,K' s->K s):In m ws fs n R L K' es ch:=⟨h.cm,h.row,h.Ia,h.new,h.old,h.chg,h.cl,fun s hs=>h.dn s (z s hs),h.len⟩
theorem Q3{m:Int}{ws:List Wy}{fs:List Int}{l:List aO}{p:Int}(hp:0<=p/\p<m):at' ((rD (j5 ws fs m.toNat l)).map D.lst) p=some (.lst ((l.filter (jw ws fs p)).map sD)):=by rw[uI hp.1 (by simp[rD,j5];omega)];simp[rD,j5,show p.toNat<m.toNat by omega,Int.toNat_of_nonneg hp.1]
@[simp]theorem cut3{a b c:D}:Bd (.tup [a,b,c]) (part (.con .non) .non) (part (.con (.int 2)) (.int 2))=some (.val (.tup [a,b])):=rfl
@[simp]theorem ach{i j:Int}:cm .lt (.tup [.int 0,.int i]) (.tup [.int 0,.int j])=some (decide (i<j)):=by show some (cR [0,i] [0,j])=_;simp[cR]
noncomputable def bg:Sl:=.val false (.dv [0] [.int 0])
inductive JC2(m:Int)(ws:List Wy)(fs:List Int)(a0 a1 a2 a3 a6:Sl)(n:Nat)(R:List Int)(L:Nat)(pre:List Int)(p:Int)(r:List D)(ρ:List Sl):Prop where|mk(es:List En)(ch:List Int)(kI us:List aO)(s8 s9 jJ:Sl)(q0:ρ=[a0,a1,a2,a3,.dh (es.map en),.val false (.int p),a6,.dh (ch.map HR),s8,s9,jJ])(q1:A3 (fr s8=true) (fr s9=true) (fr jJ=true))(q2:r=us.map sD)(q3:kI++us=(gR ws.length).filter (jw ws fs p))(q4:In m ws fs n R L (fun s=>(∃q∈pre,jw ws fs q s=true)\/s∈kI) es ch)
inductive JC1(m:Int)(ws:List Wy)(fs:List Int)(a0 a1 a2 a3 a6:Sl)(n:Nat)(R:List Int)(L:Nat)(r:List D)(ρ:List Sl):Prop where|mk(es:List En)(ch pre qs:List Int)(s5 s8 s9 jJ:Sl)(q0:ρ=[a0,a1,a2,a3,.dh (es.map en),s5,a6,.dh (ch.map HR),s8,s9,jJ])(q1:A4 (fr s5=true) (fr s8=true) (fr s9=true) (fr jJ=true))(q2:r=qs.map D.int)(q3:pre++qs=R)(q4:In m ws fs n R L (fun s=>∃q∈pre,jw ws fs q s=true) es ch)
inductive JCw(m:Int)(ws:List Wy)(fs:List Int)(a0 a1 a2 a3:Sl)(M:Nat)(ρ:List Sl):Prop where|mk(n:Nat)(R:List Int)(es:List En)(s5 s7 s8 s9 jJ:Sl)(q0:ρ=[a0,a1,a2,a3,.dh (es.map en),s5,.own false (R.map D.int),s7,s8,s9,jJ])(q1:A4 (fr s5=true) (fr s8=true) (fr s9=true) (fr jJ=true))(q2:(s7=.aZ\/∃d,s7=.val false d))(q3:Wh m ws fs n R es)(q4:(R≠[]->2*(6-es.length)+1<=M))
def JC0(a0 a1 a2 a3:Sl)(r:List D)(ρ:List Sl):Prop:=(r=[.int 0]/\ρ=[a0,a1,a2,a3,.dh [],.aZ,.aZ,.aZ,.aZ,.aZ,.aZ])\/(r=[]/\ρ=[a0,a1,a2,a3,.dh [en (0,0,none)],.val false (.int 0),.aZ,.aZ,.aZ,.aZ,.aZ])
theorem pC{w n:Nat}{s:Sl}{m:Int}{ws:List Wy}{fs:List Int}{Q:R->List Sl->Prop}(hw:100<=w)(hs:DK s fs)(h:HN m ws)(hf:fs.length=ws.length)(k:∀es,wL m ws fs es->Q (.val (lz es)) [.val false (aR m ws),s,bg]):(run Γ w (n+3) 4 [.val false (aR m ws),s,bg]).sat Q:=by
 have hn:=h.len;have m0:=h.m0;have m1:=h.m1;refine aP (d:=f4) rfl rfl (by decide) ?_;refine dB (fun ρ=>ρ=[.val false (aR m ws),s,bg,.val false (.lst ((rD (j5 ws fs m.toNat (gR ws.length))).map D.lst)),.aZ,.aZ,.aZ,.aZ,.aZ,.aZ,.aZ]) ?_ ?_;.have hss:=hs;rcases hs with rfl|⟨b,rfl⟩;all_goals simp[f4,bg];refine Et (by first|exact .inl rfl|exact .inr ⟨_,rfl⟩) h hf ?_;simp
 rintro _ rfl;generalize hA:((rD (j5 ws fs m.toNat (gR ws.length))).map D.lst)=A;symm;simp;apply aj;simp[bg];refine cF (JC0 (.val false (aR m ws)) s bg (.val false (.lst A))) ?_ ?_ (.inl ⟨rfl,rfl⟩)
 . rintro d r _(⟨hr,rfl⟩|⟨hr,rfl⟩)
   . obtain⟨rfl,rfl⟩:d=.int 0/\r=[]:=by simpa using hr
     simp;apply aj;simp[bg,mG];exact .inr ⟨rfl,rfl⟩
   .cases hr
 rintro _(⟨hr,rfl⟩|⟨hr,rfl⟩);.cases hr
 simp;apply aj;simp[bg];apply aj;simp;refine jt (JCw m ws fs _ _ _ _) ?_ (k:=w) (m:=50) (by omega) ⟨0,[0],[(0,0,none)],_,_,_,_,_,rfl,⟨rfl,rfl,rfl,rfl⟩,.inl rfl,Wh.start m0,fun _=>by simp⟩;rintro M _⟨n',R,es,s5,s7,s8,s9,jJ,rfl,⟨h5,h8,h9,h10⟩,h7,hW,hM⟩;by_cases hR:R=[];.subst hR;simp;apply aj;simp;have:=k es hW.fin;simp[Function.comp_def,en];exact this
 . have hR2:0<R.length:=by cases R with|nil=>exact absurd rfl hR|cons _ _=>simp
   simp[hR2];refine dB (fun ρ=>ρ=[.val false (aR m ws),s,bg,.val false (.lst A),.dh (es.map en),s5,.own false (R.map D.int),.dh [],s8,s9,jJ]) ?_ ?_
   . rcases h7 with rfl|⟨d,rfl⟩;.simp[bg]
     .simp[bg]
   rintro _ rfl;symm;simp;refine cF (JC1 m ws fs _ _ _ _ _ n' R es.length) ?_ ?_ ⟨es,[],[],R,s5,s8,s9,jJ,rfl,⟨h5,h8,h9,h10⟩,rfl,rfl,hW.to.imp fun s hs=>by obtain⟨q,hq,_⟩:=hs;cases hq⟩;.rintro d r _⟨es',ch,pre,qs,s5,s8,s9,jJ,rfl,⟨h5,h8,h9,h10⟩,hr,hpq,hI⟩;cases qs with|nil=>cases hr|cons p qs=>
       obtain⟨rfl,rfl⟩:d=.int p/\r=qs.map D.int:=by simpa using hr
       have hpR:p∈R:=by rw[<-hpq];simp
       have hpm:0<=p/\p<m:=by obtain⟨o,ho⟩:=hI.row p hpR;exact hI.cm.inm _ _ _ ho
       have hrow:=Q3 (ws:=ws) (fs:=fs) (l:=gR ws.length) hpm;rw[hA]at hrow;simp[h5];apply aj;simp[hrow];refine cF (JC2 m ws fs _ _ _ _ _ n' R es.length pre p) ?_ ?_ ⟨es',ch,[],_,s8,s9,jJ,rfl,⟨h8,h9,h10⟩,rfl,rfl,hI.imp fun s hs=>by rcases hs with hs|hs;exact hs;cases hs⟩;.rintro d r _⟨es',ch,kI,us,s8,s9,jJ,rfl,⟨h8,h9,h10⟩,hr,hdu,hI⟩;cases us with|nil=>cases hr|cons u us=>
           obtain⟨rfl,rfl⟩:d=sD u/\r=us.map sD:=by simpa using hr
           have hu:jw ws fs p u=true:=by
            have:u∈(gR ws.length).filter (jw ws fs p):=by rw[<-hdu];simp
            exact(mem_filter.mp this).2
           obtain⟨v,g,e1,e2,e3,e4⟩:=yM hu;have W9:(kI++[u])++us=(gR ws.length).filter (jw ws fs p):=by rw[append_assoc];exact hdu
           have hz:v.h=0:=(h.ok v (mem_of_getElem? e1)).2.2;obtain⟨op,hop⟩:=hI.row p hpR;have gp:=jH hI.cm.nd hop;have hlen:=hI.cm.len m1;have hcl:ch.length<=6:=by have:=hI.len;omega
           simp[h8];apply aj;simp[sD];refine j4 e1 ?_;simp[h9];apply aj;simp[gp,xj];refine Cr e1 hz ?_;simp[gp,xj,h10];apply aj;by_cases hq:∃l o,(too v u.2,l,o)∈es';.obtain⟨l,o,hlo⟩:=hq;have gt:=jH hI.cm.nd hlo;have kt:uR (es'.map en) (too v u.2)=true:=xU.mpr ⟨l,o,hlo⟩;have hle:=hI.Ia _ _ _ hlo;simp[kt,gt,xj];refine⟨fun z=>by omega,?_⟩;exact fun _=>⟨es',ch,kI++[u],us,_,_,_,rfl,⟨rfl,rfl,rfl⟩,rfl,W9,(hI.keep e1 hlo).imp fun s hs=>by
              rcases hs with hs|hs;.exact .inl (.inl hs)
              . rcases mem_append.mp hs with hs|hs;.exact .inl (.inr hs)
                .exact .inr (by simpa using hs)⟩
           . have kt:uR (es'.map en) (too v u.2)=false:=kin_no hq;have kc:uR (ch.map HR) (too v u.2)=false:=by cases e:uR (ch.map HR) (too v u.2)with|false=>rfl|true=>have:(IW (ch.map HR)).contains (too v u.2)=true:=e;rw[Rj,List.contains_iff_mem]at this;obtain⟨o,ho⟩:=hI.chg _ this;exact absurd ⟨_,_,ho⟩ hq
             have p1:jn (es'.map en) (too v u.2) (.tup [.int 0,.int ((n':Int)+1),eY u.1 u.2])=(es'++[(too v u.2,n'+1,some u)]).map en:=by rw[vH kt];simp[en,xj,oS,sD]
             have p2:jn (ch.map HR) (too v u.2) (.bl true)=(ch++[too v u.2]).map HR:=by rw[vH kc];simp[HR]
             simp[kt];apply aj;simp[p1];refine⟨by decide,fun _=>?_,by show _<16777216;omega⟩;symm;simp[p2];refine⟨fun _=>?_,by show _<16777216;omega⟩;refine⟨es'++[(too v u.2,n'+1,some u)],ch++[too v u.2],kI++[u],us,.val false (eY u.1 u.2),.val false (.int (too v u.2)),.val false (.tup [.int 0,.int ((n':Int)+1)]),by simp,⟨rfl,rfl,rfl⟩,rfl,W9,(hI.put h hpR e1 hu e3 hq).imp fun s hs=>?_⟩;rcases hs with hs|hs;.exact .inl (.inl hs)
             . rcases mem_append.mp hs with hs|hs;.exact .inl (.inr hs)
               .exact .inr (by simpa using hs)
       . rintro _⟨es',ch,kI,us,s8,s9,jJ,rfl,⟨h8,h9,h10⟩,hr,hdu,hI⟩;have:us=[]:=by cases us with|nil=>rfl|cons _ _=>cases hr
         subst this;rw[append_nil]at hdu;simp;refine⟨es',ch,pre++[p],qs,_,_,_,_,rfl,⟨rfl,h8,h9,h10⟩,rfl,by rw[append_assoc];exact hpq,hI.imp fun s hs=>?_⟩;obtain⟨q,hq,hs⟩:=hs;rcases mem_append.mp hq with hq|hq;.exact .inl ⟨q,hq,hs⟩
         . obtain rfl:q=p:=by simpa using hq
           refine .inr ?_;rw[hdu];obtain⟨v,g,e1,_⟩:=yM hs;exact mem_filter.mpr ⟨wj (List.getElem?_eq_some_iff.mp e1).1,hs⟩
   . rintro _⟨es',ch,pre,qs,s5,s8,s9,jJ,rfl,⟨h5,h8,h9,h10⟩,hr,hpq,hI⟩;have:qs=[]:=by cases qs with|nil=>rfl|cons _ _=>cases hr
     subst this;rw[append_nil]at hpq;subst hpq;have hlen:=hI.cm.len m1;have hel:=hI.len;have hM2:=hM hR;have hO:=hI.out;simp;apply aj;simp[show ch.length<=16777216 by omega];by_cases hc:ch=[];.exact⟨0,by omega,n'+1,ch,es',_,_,_,_,_,rfl,⟨h5,h8,h9,h10⟩,.inr ⟨_,rfl⟩,hO,fun z=>absurd hc z⟩
     . have:0<ch.length:=by cases ch with|nil=>exact absurd rfl hc|cons _ _=>simp
       exact⟨2*(6-es'.length)+1,by omega,n'+1,ch,es',_,_,_,_,_,rfl,⟨h5,h8,h9,h10⟩,.inr ⟨_,rfl⟩,hO,fun _=>le_refl _⟩
def Qt(ws:List Wy)(b:Int):List aO->Int->Prop|[],a=>a=b|s::c,a=>∃v,ws[s.1]?=some v/\frm v s.2=a/\Qt ws b c (too v s.2)
structure Ws(ws:List Wy)(fs:List Int)(es:List En)(p:Int)(L:Nat)(a:Int)(l:Nat)(c:List aO):Prop where
 Xa:Qt ws p c a
 j5:∀s∈c,∃v,ws[s.1]?=some v/\jw ws fs (frm v s.2) s=true
 nd:(c.map (·.1)).Nodup
 lv:∀s∈c,∀v,ws[s.1]?=some v->∃l1 o1 o2,(frm v s.2,l1,o1)∈es/\(too v s.2,l1+1,o2)∈es/\l<=l1
 len:c.length+l=L
theorem tO{v:Wy}{f g:Bool}(h:g≠f):frm v g=too v f/\too v g=frm v f:=by cases f<;>cases g<;>first|exact absurd rfl h|exact⟨rfl,rfl⟩
theorem Ws.cons{m:Int}{ws:List Wy}{fs:List Int}{es:List En}{p:Int}{L l:Nat}{c:List aO}{s:aO}{v:Wy}{o o':Option aO}(hc:Mf m ws fs es)(h:Ws ws fs es p L (too v s.2) (l+1) c)(e:ws[s.1]?=some v)(h1:(too v s.2,l+1,o)∈es)(h2:(frm v s.2,l,o')∈es)(ho:jw ws fs (frm v s.2) s=true):Ws ws fs es p L (frm v s.2) l (s::c):=by
 refine⟨⟨v,e,rfl,h.Xa⟩,fun u hu=>?_,?_,fun u hu x ex=>?_,by have:=h.len;simp only[length_cons];omega⟩
 . rcases mem_cons.mp hu with rfl|hu;.exact⟨v,e,ho⟩
   .exact h.j5 u hu
 . rw[map_cons,nodup_cons];refine⟨fun hm=>?_,h.nd⟩;obtain⟨t,ht,et⟩:=mem_map.mp hm;obtain⟨l1,o1,o2,q1,q2,q3⟩:=h.lv t ht v (by rw[et];exact e);by_cases z:t.2=s.2;.rw[z]at q1;have:=(Di hc.nd q1 h2).1;omega
   .rw[(tO z).2]at q2;have:=(Di hc.nd q2 h2).1;omega
 . rcases mem_cons.mp hu with rfl|hu;.rw[e]at ex;cases ex;exact⟨l,_,_,h2,h1,le_refl _⟩
   .obtain⟨l1,o1,o2,q1,q2,q3⟩:=h.lv u hu x ex;exact⟨l1,o1,o2,q1,q2,by omega⟩
theorem Ez{es:List En}{p:Int}{l:Nat}{o:Option aO}(hn:(es.map (·.1)).Nodup)(h:(p,l,o)∈es):mG ((es.map (·.1)).zip (es.map xj)) p=some (xj (p,l,o)):=by
 have:(es.map (·.1)).zip (es.map xj)=es.map en:=by rw[List.zip_map'];rfl
 rw[this];exact jH hn h
inductive JSt(m:Int)(ws:List Wy)(fs:List Int)(es:List En)(p:Int)(L:Nat)(a0 a1 a2:Sl)(M:Nat)(ρ:List Sl):Prop where|mk(a:Int)(l:Nat)(o:Option aO)(c:List aO)(s5:Sl)(q0:ρ=[a0,a1,a2,.own false (c.reverse.map sD),.val false (.int a),s5])(q1:fr s5=true)(q2:(a,l,o)∈es)(q3:Ws ws fs es p L a l c)(q4:l<=M)
theorem BZ{w n L:Nat}{m p:Int}{ws:List Wy}{fs:List Int}{es:List En}{o:Option aO}{Q:R->List Sl->Prop}(hw:100<=w)(h:Mf m ws fs es)(m1:m<=6)(hp:(p,L,o)∈es)(k:∀c,Ws ws fs es p L 0 0 c->Q (.val (.tup (c.map sD))) [.val false (aR m ws),.val false (lz es),.val false (.int p)]):(run Γ w (n+2) 5 [.val false (aR m ws),.val false (lz es),.val false (.int p)]).sat Q:=by
 refine aP (d:=f5) rfl rfl (by decide) ?_;symm;simp[f5];apply aj;simp;apply aj;simp;have hL:=h.lv _ _ _ hp;have hes:=h.len m1;refine jt (JSt m ws fs es p L _ _ _) ?_ (k:=w) (m:=L) (by omega) ⟨p,L,o,[],.aZ,rfl,rfl,hp,⟨rfl,by simp,by simp,by simp,by simp⟩,le_refl _⟩;rintro M _⟨a,l,o,c,s5,rfl,h5,ha,hc,hM⟩;have gz:=Ez h.nd ha;rcases h.stp a l o ha with⟨rfl,rfl,rfl⟩|⟨s,v,l',o',rfl,rfl,e,rfl,ho,h2⟩;.simp[lz,gz,xj,oS];symm;simp;exact k c hc
 . simp[lz,gz,xj,oS,sD,eY];symm;simp[gz,xj,oS,h5];apply aj;have hcl:c.length<16777216:=by have:=hc.len;omega
   simp[hcl];apply aj;simp[sD];refine j4 e ?_;simp;exact⟨l',by omega,frm v s.2,l',o',s::c,.val false (eY s.1 s.2),by simp[lz,sD],rfl,h2,hc.cons h e ha h2 ho,le_refl _⟩
noncomputable def sg(x:Int)(f:Bool):Int:=if f then x else-x
noncomputable def p6(x:Int)(fs:List Int)(s:aO):List Int:=fs.set s.1 ((fs[s.1]?.getD 0)+sg x s.2)
noncomputable def aug(x:Int)(fs:List Int)(c:List aO):List Int:=c.foldl (p6 x) fs
@[simp]theorem Fx{x:Int}{fs:List Int}{s:aO}:(p6 x fs s).length=fs.length:=by simp[p6]
theorem uD{x:Int}:∀{c:List aO}{fs:List Int},(aug x fs c).length=fs.length|[],_=>rfl|s::c,fs=>by show(aug x (p6 x fs s) c).length=_;rw[uD,Fx]
theorem tQ{x:Int}{j:Nat}:∀{c:List aO}{fs:List Int},j∉c.map (·.1)->(aug x fs c)[j]?=fs[j]?|[],_,_=>rfl|s::c,fs,h=>by rw[map_cons,mem_cons,not_or]at h;show(aug x (p6 x fs s) c)[j]?=_;rw[tQ h.2];unfold p6;rw[getElem?_set_ne (fun z=>h.1 z.symm)]
theorem G5{x:Int}:∀{c:List aO}{fs:List Int}{s:aO}{g:Int},(c.map (·.1)).Nodup->s∈c->fs[s.1]?=some g->(aug x fs c)[s.1]?=some (g+sg x s.2)
 |[],_,_,_,_,h,_=>by cases h|t::c,fs,s,g,hn,h,e=>by
   rw[map_cons,nodup_cons]at hn;show(aug x (p6 x fs t) c)[s.1]?=_;have hlt:=(List.getElem?_eq_some_iff.mp e).1;rcases mem_cons.mp h with rfl|h;.rw[tQ hn.1];unfold p6;rw[getElem?_set_self hlt,e];rfl
   .refine G5 hn.2 h ?_;unfold p6;rw[getElem?_set_ne (fun z=>hn.1 (by rw[z];exact mem_map.mpr ⟨s,h,rfl⟩))];exact e
inductive JWt(x:Int)(fs:List Int)(c:List aO)(a0 a1 a2:Sl)(r:List D)(ρ:List Sl):Prop where|mk(kI us:List aO)(s4 s5:Sl)(q0:ρ=[a0,a1,a2,.own false ((aug x fs kI).map D.int),s4,s5])(q1:fr s4=true)(q2:fr s5=true)(q3:r=us.map sD)(q4:kI++us=c)
theorem uZ{w n:Nat}{s:Sl}{x:Int}{fs:List Int}{c:List aO}{Q:R->List Sl->Prop}(hs:DK s fs)(hc:∀s∈c,s.1<fs.length)(k:Q (.own ((aug x fs c).map D.int)) [s,.val false (.tup (c.map sD)),.val false (.int x)]):(run Γ w (n+1) 6 [s,.val false (.tup (c.map sD)),.val false (.int x)]).sat Q:=by
 refine aP (d:=f6) rfl rfl (by decide) ?_;refine dB (fun ρ=>ρ=[s,.val false (.tup (c.map sD)),.val false (.int x),.own false (fs.map D.int),.aZ,.aZ]) ?_ ?_;.rcases hs with rfl|⟨b,rfl⟩;all_goals simp[f6]
 rintro _ rfl;symm;simp;refine cF (JWt x fs c _ _ _) ?_ ?_ ⟨[],c,.aZ,.aZ,rfl,rfl,rfl,rfl,rfl⟩;.rintro d r _⟨kI,us,s4,s5,rfl,h4,h5,hr,hd⟩;cases us with|nil=>cases hr|cons u us=>
     obtain⟨rfl,rfl⟩:d=sD u/\r=us.map sD:=by simpa using hr
     have hu:u.1<(aug x fs kI).length:=by rw[uD];exact hc u (by rw[<-hd];simp)
     have ea:(aug x fs kI)[u.1]?=some (aug x fs kI)[u.1]:=by simp[hu]
     have hx:iH (aug x fs kI).length (u.1:Int)=some u.1:=by unfold iH;rw[if_pos (by omega),if_pos (by omega)];simp
     have he:aug x fs (kI++[u])=(aug x fs kI).set u.1 ((aug x fs kI)[u.1]+sg x u.2):=by unfold aug;rw[List.foldl_append];show p6 x (aug x fs kI) u=_;unfold p6;rw[ea];rfl
     have hd2:(kI++[u])++us=c:=by rw[append_assoc];exact hd
     generalize(aug x fs kI)[u.1]=g at*;simp[sD,eY,h4,h5];apply aj;obtain⟨j,f⟩:=u;cases f with|true=>simp[bz ea,hx];exact⟨kI++[(j,true)],us,_,_,by rw[he,List.map_set];rfl,rfl,rfl,rfl,hd2⟩|false=>simp[bz ea,hx];exact⟨kI++[(j,false)],us,_,_,by rw[he,List.map_set];rfl,rfl,rfl,rfl,hd2⟩
 . rintro _⟨kI,us,s4,s5,rfl,h4,h5,hr,hd⟩;have:us=[]:=by cases us with|nil=>rfl|cons _ _=>cases hr
   subst this;rw[append_nil]at hd;subst hd;simp;apply aj;simp;exact k
noncomputable def Ij:List En->Int->Nat|[],_=>6|e::es,p=>if e.1=p then e.2.1 else Ij es p
theorem my{p:Int}{l:Nat}{o:Option aO}:∀{es:List En},(es.map (·.1)).Nodup->(p,l,o)∈es->Ij es p=l
 |[],_,h=>by cases h|e::es,hn,h=>by
   rw[map_cons,nodup_cons]at hn;rw[Ij];rcases mem_cons.mp h with rfl|h;.rw[if_pos rfl]
   .rw[if_neg (fun z=>hn.1 (by rw[z];exact mem_map.mpr ⟨_,h,rfl⟩))];exact my hn.2 h
theorem uF{p:Int}:∀{es:List En},(¬ ∃l o,(p,l,o)∈es)->Ij es p=6|[],_=>rfl|e::es,h=>by rw[Ij,if_neg (fun z=>h ⟨e.2.1,e.2.2,by rw[<-z];simp⟩)];exact uF fun⟨l,o,z⟩=>h ⟨l,o,mem_cons_of_mem _ z⟩
structure LR(m:Int)(ws:List Wy)(fs:List Int)(F:Int->Nat)(d:Nat):Prop where
 z:F 0=0
 e:F (m-1)=d
 st:∀s v,ws[s.1]?=some v->jw ws fs (frm v s.2) s=true->F (too v s.2)<=F (frm v s.2)+1
theorem wL.pot{m:Int}{ws:List Wy}{fs:List Int}{es:List En}(h:wL m ws fs es)(m1:m<=6){l:Nat}{o:Option aO}(hl:(m-1,l,o)∈es):LR m ws fs (Ij es) l:=by
 refine⟨my h.cm.nd h.cm.z,my h.cm.nd hl,fun s v e ho=>?_⟩;have h6:=h.cm.len m1;have le6:Ij es (too v s.2)<=6:=by
  by_cases c:∃l o,(too v s.2,l,o)∈es;.obtain⟨l,o,c⟩:=c;rw[my h.cm.nd c];have:=h.cm.lv _ _ _ c;omega
  .rw[uF c];exact le_refl _
 by_cases c:∃l o,(frm v s.2,l,o)∈es;.obtain⟨l1,o1,c⟩:=c;obtain⟨l2,o2,c2,c3⟩:=h.cl _ _ _ s c ho v e;rw[my h.cm.nd c,my h.cm.nd c2];exact c3
 .rw[uF c];omega
theorem xW{m:Int}{ws:List Wy}{fs:List Int}{F:Int->Nat}{d:Nat}(h:LR m ws fs F d){b:Int}:∀{c:List aO}{a:Int},Qt ws b c a->(∀s∈c,∃v,ws[s.1]?=some v/\jw ws fs (frm v s.2) s=true)->F b<=F a+c.length|[],a,hp,_=>by have:a=b:=hp;rw[this];simp|s::c,a,⟨v,e,hf,hp⟩,ho=>by have h1:=xW h hp fun u hu=>ho u (mem_cons_of_mem _ hu);obtain⟨v',e',o⟩:=ho s (by simp);rw[e]at e';cases e';have h2:=h.st s v e o;rw[hf]at h2;simp only[length_cons];omega
theorem rM{m:Int}{ws:List Wy}{fs:List Int}{F:Int->Nat}{d:Nat}(h:LR m ws fs F d){b:Int}:∀{c:List aO}{a:Int},Qt ws b c a->(∀s∈c,∃v,ws[s.1]?=some v/\jw ws fs (frm v s.2) s=true)->F b=F a+c.length->∀s∈c,∀v,ws[s.1]?=some v->F (too v s.2)=F (frm v s.2)+1
 |[],_,_,_,_,s,hs,_,_=>by cases hs|s::c,a,⟨v,e,hf,hp⟩,ho,he,u,hu,x,ex=>by
   have ho':∀s∈c,∃v,ws[s.1]?=some v/\jw ws fs (frm v s.2) s=true:=fun u hu=>ho u (mem_cons_of_mem _ hu);have h1:=xW h hp ho';obtain⟨v',e',o⟩:=ho s (by simp);rw[e]at e';cases e';have h2:=h.st s v e o;rw[hf]at h2;simp only[length_cons]at he;rcases mem_cons.mp hu with rfl|hu;.rw[e]at ex;cases ex;rw[hf];omega
   .exact rM h hp ho' (by omega) u hu x ex
noncomputable def tgt(ws:List Wy)(fs:List Int)(F:Int->Nat)(s:aO):Bool:=match ws[s.1]?with|some v=>jw ws fs (frm v s.2) s&&decide (F (too v s.2)=F (frm v s.2)+1)|none=>false
theorem FP{ws:List Wy}{fs:List Int}{F:Int->Nat}{s:aO}{v:Wy}(e:ws[s.1]?=some v):tgt ws fs F s=(jw ws fs (frm v s.2) s&&decide (F (too v s.2)=F (frm v s.2)+1)):=by unfold tgt;rw[e]
noncomputable def cnt(ws:List Wy)(fs:List Int)(F:Int->Nat):Nat:=((gR ws.length).filter (tgt ws fs F)).length
theorem Ga{ws:List Wy}{fs:List Int}{F:Int->Nat}(h:ws.length<=12):cnt ws fs F<=24:=by have:=List.length_filter_le (tgt ws fs F) (gR ws.length);rw[u0]at this;unfold cnt;omega
theorem Fq{p q:aO->Bool}(h:∀t,q t=true->p t=true):∀(l:List aO),(l.filter q).length<=(l.filter p).length|[]=>le_refl _|t::l=>by have ih:=Fq h l;cases hq:q t with|true=>simp[hq,h t hq,ih]|false=>cases hp:p t with|true=>simp[hq,hp];omega|false=>simp[hq,hp,ih]
theorem CZ{p q:aO->Bool}{s:aO}(h:∀t,q t=true->p t=true)(hp:p s=true)(hq:q s=false):∀{l:List aO},s∈l->(l.filter q).length<(l.filter p).length
 |[],hs=>by cases hs|t::l,hs=>by
   have le:=Fq h l;rcases mem_cons.mp hs with rfl|hs;.simp[hp,hq];omega
   .have ih:=CZ h hp hq hs;cases hq2:q t with|true=>simp[hq2,h t hq2,ih]|false=>cases hp2:p t with|true=>simp[hq2,hp2];omega|false=>simp[hq2,hp2,ih]
theorem vC{ws:List Wy}{fs:List Int}{c:List aO}{x:Int}{t:aO}{v:Wy}(hc:∀s∈c,∃v,ws[s.1]?=some v/\jw ws fs (frm v s.2) s=true)(e:ws[t.1]?=some v)(h:jw ws (aug x fs c) (frm v t.2) t=true):jw ws fs (frm v t.2) t=true\/∃s∈c,s.1=t.1/\t.2≠s.2:=by
 by_cases z:t.1∈c.map (·.1)
 . obtain⟨s,hs,es⟩:=mem_map.mp z;by_cases q:t.2=s.2;.have:t=s:=Prod.ext_iff.mpr ⟨es.symm,q⟩;subst this;obtain⟨v',e',o⟩:=hc t hs;rw[e]at e';cases e';exact .inl o
   .exact .inr ⟨s,hs,es,q⟩
 .refine .inl ?_;unfold jw at h ⊢;rwa[tQ z]at h
theorem Gf{ws:List Wy}{fs:List Int}{c:List aO}{s:aO}{v:Wy}{g:Int}(hn:(c.map (·.1)).Nodup)(hs:s∈c)(e:ws[s.1]?=some v)(e2:fs[s.1]?=some g){p:Int}:jw ws (aug (uV v g s.2) fs c) p s=false:=by
 rw[ug e (G5 hn hs e2)];have:uV v (g+sg (uV v g s.2) s.2) s.2=0:=by cases s.2<;>simp[uV,sg]<;>omega
 rw[this];simp
theorem LR.aug{m:Int}{ws:List Wy}{fs:List Int}{F:Int->Nat}{d:Nat}(h:LR m ws fs F d){c:List aO}{s:aO}{v:Wy}{g:Int}(hp:Qt ws (m-1) c 0)(ho:∀s∈c,∃v,ws[s.1]?=some v/\jw ws fs (frm v s.2) s=true)(hn:(c.map (·.1)).Nodup)(hl:c.length=d)(hs:s∈c)(e:ws[s.1]?=some v)(e2:fs[s.1]?=some g):LR m ws (aug (uV v g s.2) fs c) F d/\cnt ws (aug (uV v g s.2) fs c) F<cnt ws fs F:=by
 have Nb:=rM h hp ho (by rw[h.e,h.z];omega);have back:∀(t u:aO)(x:Wy),u∈c->u.1=t.1->t.2≠u.2->ws[t.1]?=some x->F (too x t.2)+1=F (frm x t.2):=fun t u x hu eu ne ex=>by have:=Nb u hu x (by rw[eu];exact ex);rw[(tO ne).1,(tO ne).2];omega
 refine⟨⟨h.z,h.e,fun t x ex o=>?_⟩,?_⟩
 . rcases vC ho ex o with o|⟨u,hu,eu,ne⟩;.exact h.st t x ex o
   .have:=back t u x hu eu ne ex;omega
 . obtain⟨v',e',o⟩:=ho s hs;rw[e]at e';cases e';refine CZ (s:=s) (fun t ht=>?_) (by rw[FP e,o,Nb s hs v e];simp) (by rw[FP e,Gf hn hs e e2];rfl) (wj (List.getElem?_eq_some_iff.mp e).1);unfold tgt at ht ⊢;split at ht
   . rename_i x ex;simp only[and_eq_true,decide_eq_true_eq]at ht ⊢;refine⟨?_,ht.2⟩;rcases vC ho ex ht.1 with o|⟨u,hu,eu,ne⟩;.exact o
     .have:=back t u x hu eu ne ex;omega
   .cases ht
noncomputable def cD(x:List aO×Int):D:=.tup [.tup (x.1.map sD),.int x.2]
noncomputable def La(fs:List Int)(x:List aO×Int):List Int:=aug x.2 fs x.1
noncomputable def flow(N:Nat)(cs:List (List aO×Int)):List Int:=cs.foldl La (replicate N 0)
theorem vI{N:Nat}{cs:List (List aO×Int)}{x:List aO×Int}:flow N (cs++[x])=aug x.2 (flow N cs) x.1:=by unfold flow;rw[List.foldl_append];rfl
theorem fV{N:Nat}{cs:List (List aO×Int)}:(flow N cs).length=N:=by
 have:∀(cs:List (List aO×Int))(fs:List Int),(cs.foldl La fs).length=fs.length:=fun cs=>by induction cs with|nil=>intro fs;rfl|cons x cs ih=>intro fs;rw[foldl_cons,ih];exact uD
 unfold flow;rw[this];simp
noncomputable def unS:D->aO|.tup [.int j,.bl f]=>(j.toNat,f)|_=>(0,true)
@[simp]theorem Nv{s:aO}:unS (sD s)=s:=rfl
noncomputable def Mg(ws:List Wy)(fs:List Int)(s:aO):Int:=match ws[s.1]?,fs[s.1]?with|some v,some g=>uV v g s.2|_,_=>0
noncomputable def rmD(ws:List Wy)(fs:List Int)(d:D):D:=.int (Mg ws fs (unS d))
@[simp]theorem Vk{es:List En}{p:Int}:vY false (.int p) (lz es)=some (.val (.bl (uR (es.map en) p))):=by show some (R.val (.bl ((es.map (·.1)).contains p)))=some (R.val (.bl ((IW (es.map en)).contains p)));rw[DY]
theorem Df{m:Int}{ws:List Wy}{fs:List Int}{es es':List En}(h:wL m ws fs es)(h':Mf m ws fs es'):∀(l:Nat)(p:Int)(o:Option aO),(p,l,o)∈es'->∃l o,(p,l,o)∈es:=by intro l;induction l with
 |zero=>
   intro p o z;rcases h'.stp p 0 o z with⟨_,rfl,_⟩|⟨_,_,_,_,_,z,_⟩;.exact⟨_,_,h.cm.z⟩
   .cases z|succ l ih=>
   intro p o z;rcases h'.stp p (l+1) o z with⟨_,_,z⟩|⟨s,v,l',o',_,e,e1,rfl,ho,z⟩;.cases z
   .cases e;obtain⟨l2,o2,z2⟩:=ih _ _ z;obtain⟨l3,o3,z3,_⟩:=h.cl _ _ _ s z2 ho v e1;exact⟨l3,o3,z3⟩
inductive FcE(a0 a1 a2 a3 a4 a5 a6:Sl)(ρ:List Sl):Prop where|mk(s:Sl)(q0:ρ=[a0,a1,a2,a3,a4,a5,a6,s])(q1:fr s=true)
inductive JE(I:List Int->Prop)(m:Int)(ws:List Wy)(M:Nat)(ρ:List Sl):Prop where|mk(cs:List (List aO×Int))(fs:List Int)(es:List En)(F:Int->Nat)(d:Nat)(s5 s6:Sl)(q0:ρ=[.val false (aR m ws),.val false (.int (m-1)),.own false (fs.map D.int),.own false (cs.map cD),.val false (lz es),s5,s6])(q1:(fr s5=true/\fr s6=true))(q2:fs=flow ws.length cs)(q3:I fs)(q4:wL m ws fs es)(q5:LR m ws fs F d)(q6:(6-d)*25+cnt ws fs F<=M)(q7:cs.length+M<=500)(q8:(∀x∈cs,∀s∈x.1,s.1<ws.length))
theorem Dz{w n:Nat}{m:Int}{ws:List Wy}{Q:R->List Sl->Prop}(I:List Int->Prop)(hw:1000<=w)(h:HN m ws)(I0:I (replicate ws.length 0))(I1:∀(fs:List Int)(c:List aO)(x:Int),I fs->fs.length=ws.length->Qt ws (m-1) c 0->(c.map (·.1)).Nodup->0<x->(∀s∈c,∃v g,ws[s.1]?=some v/\fs[s.1]?=some g/\x<=uV v g s.2)->I (aug x fs c))(k:∀cs,cs.length<=500->(∀x∈cs,∀s∈x.1,s.1<ws.length)->I (flow ws.length cs)->(∀es,wL m ws (flow ws.length cs) es->¬ ∃l o,(m-1,l,o)∈es)->Q (.own (cs.map cD)) [.val false (aR m ws)]):(run Γ w (n+4) 7 [.val false (aR m ws)]).sat Q:=by
 have hn:=h.len;have m0:=h.m0;have m1:=h.m1;refine aP (d:=f7) rfl rfl (by decide) ?_;symm;simp[f7];refine dB (fun ρ=>ρ=[.val false (aR m ws),.val false (.int (m-1)),.own false ((flow ws.length []).map D.int),.aZ,.aZ,.aZ,.aZ]) ?_ ?_;.simp[flow];show _<=16777216;omega
 rintro _ rfl;symm;simp;apply aj;simp;refine pC (by omega) (.inr ⟨true,rfl⟩) h fV fun es hes=>?_;simp;apply aj;simp;have hc0:=Ga (fs:=flow ws.length []) (F:=fun _=>0) hn;refine jt (JE I m ws) ?_ (k:=w) (m:=200) (by omega) ⟨[],flow ws.length [],es,fun _=>0,0,.aZ,.aZ,rfl,⟨rfl,rfl⟩,rfl,I0,hes,⟨rfl,rfl,fun _ _ _ _=>zero_le _⟩,by omega,by simp,by simp⟩;rintro M _⟨cs,fs,es,F,d,s5,s6,rfl,⟨h5,h6⟩,hfs,hI,hes,hP,hM,hcs,hin⟩;have hfl:fs.length=ws.length:=by rw[hfs];exact fV
 by_cases hq:∃l o,(m-1,l,o)∈es
 . obtain⟨l,o,hlo⟩:=hq;have kt:uR (es.map en) (m-1)=true:=xU.mpr ⟨l,o,hlo⟩;simp[kt];apply aj;simp;refine BZ (by omega) hes.cm m1 hlo fun c hc=>?_;simp[h5];apply aj;have hcl:c.length<=6:=by have:=hc.len;have:=hes.cm.lv _ _ _ hlo;have:=hes.cm.len m1;omega
   have K9:∀s∈c,∃v g,ws[s.1]?=some v/\fs[s.1]?=some g/\0<uV v g s.2:=fun s hs=>by obtain⟨v,e,o⟩:=hc.j5 s hs;obtain⟨v',g,e1,e2,_,e4⟩:=yM o;exact⟨v',g,e1,e2,e4⟩
   simp[show c.length<=16777216 by omega];refine cC (FcE _ _ _ _ _ _ _) (rmD ws fs) ⟨.aZ,rfl,rfl⟩ ?_ ?_;.rintro d hd _⟨s',rfl,hs'⟩;obtain⟨s,hs,rfl⟩:=mem_map.mp hd;obtain⟨v,g,e1,e2,_⟩:=K9 s hs;simp[hs',sD];refine sH (.inr ⟨true,rfl⟩) e1 e2 ?_;simp;refine⟨?_,_,rfl,rfl⟩;show D.int (Mg ws fs (unS (sD s)))=_;rw[Nv];unfold Mg;rw[e1,e2]
   rintro _⟨s',rfl,hs'⟩;have hmap:(c.map sD).map (rmD ws fs)=(c.map (Mg ws fs)).map D.int:=by rw[map_map,map_map];rfl
   rw[hmap];have acW:c≠[]:=by rintro rfl;have:(0:Int)=m-1:=hc.Xa;omega
   obtain⟨x,hx1,hx2,hx3⟩:=FZ (ns:=c.map (Mg ws fs)) (by simpa using acW);obtain⟨s,hs,hsx⟩:=mem_map.mp hx2;obtain⟨v,g,e1,e2,e3⟩:=K9 s hs;have hxr:uV v g s.2=x:=by rw[<-hsx];unfold Mg;rw[e1,e2]
   have hx0:0<x:=by omega
   have hle:∀s∈c,∃v g,ws[s.1]?=some v/\fs[s.1]?=some g/\x<=uV v g s.2:=fun u hu=>by obtain⟨v,g,e1,e2,_⟩:=K9 u hu;refine⟨v,g,e1,e2,?_⟩;have:=hx3 _ (mem_map.mpr ⟨u,hu,rfl⟩);unfold Mg at this;rw[e1,e2]at this;exact this
   have hlt:∀s∈c,s.1<ws.length:=fun u hu=>by obtain⟨v,g,e1,_⟩:=K9 u hu;exact(List.getElem?_eq_some_iff.mp e1).1
   generalize c.map (Mg ws fs)=ns at*;simp[pg,hx1,h6];apply aj;simp[show cs.length<16777216 by omega];apply aj;simp;refine uZ (.inr ⟨true,rfl⟩) (fun u hu=>by rw[hfl];exact hlt u hu) ?_;simp;apply aj;have Xb:aug x fs c=flow ws.length (cs++[(c,x)]):=by rw[vI,<-hfs]
   simp;refine pC (by omega) (.inr ⟨true,rfl⟩) h (by rw[Xb];exact fV) fun es' RB=>?_;simp;have hlen:c.length=l:=by have:=hc.len;omega
   have hdl:d<=l:=by have:=xW hP hc.Xa hc.j5;rw[hP.e,hP.z]at this;omega
   have hl6:l<6:=by have:=hes.cm.lv _ _ _ hlo;have:=hes.cm.len m1;omega
   obtain⟨F',hP',hM'⟩:∃F',LR m ws fs F' l/\(6-l)*25+cnt ws fs F'<=M:=by
    by_cases c:d=l;.subst c;exact⟨F,hP,hM⟩
    .have:=Ga (fs:=fs) (F:=Ij es) hn;exact⟨Ij es,hes.pot m1 hlo,by omega⟩
   have hA:=hP'.aug hc.Xa hc.j5 hc.nd hlen hs e1 e2;rw[hxr]at hA;refine⟨M-1,by omega,cs++[(c,x)],aug x fs c,es',F',l,.val false (.tup (c.map sD)),.val false (.int x),by simp[cD],⟨rfl,rfl⟩,Xb,I1 fs c x hI hfl hc.Xa hc.nd hx0 hle,RB,hA.1,by omega,by simp;omega,fun y hy=>?_⟩;rcases mem_append.mp hy with hy|hy;.exact hin y hy
   . obtain rfl:y=(c,x):=by simpa using hy
     exact hlt
 .have kt:uR (es.map en) (m-1)=false:=kin_no hq;simp[kt];apply aj;simp;exact k cs (by omega) hin (by rw[<-hfs];exact hI) fun es' RB⟨l,o,z⟩=>hq (Df hes (by rw[hfs];exact RB.cm) l (m-1) o z)
inductive JF(m:Int)(ws zs:List Wy)(cs:List (List aO×Int))(r:List D)(ρ:List Sl):Prop where|mk(kI us:List (List aO×Int))(s3 s4:Sl)(q0:ρ=[.val false (aR m ws),.val false (aR m zs),.own false ((flow ws.length kI).map D.int),s3,s4,.aZ])(q1:fr s3=true)(q2:fr s4=true)(q3:r=us.map cD)(q4:kI++us=cs)
theorem pB(ks:List Int):∃S:List Int,kh (ks.map D.int)=S.map D.int/\S.Perm ks:=by
 have hp:=fX (ks.map D.int);have e:kh (ks.map D.int)=((kh (ks.map D.int)).map cP).map D.int:=by rw[map_map];refine(List.map_id'' (fun _=>rfl) _).symm.trans (map_congr_left fun d hd=>?_);obtain⟨i,_,rfl⟩:=mem_map.mp (hp.mem_iff.mp hd);rfl
 refine⟨_,e,?_⟩;have:=hp.map cP;rwa[map_map,show cP ∘ D.int=id from rfl,map_id]at this
theorem v9{w n:Nat}{m:Int}{ws:List Wy}{Q:R->List Sl->Prop}(I:List Int->Prop)(hw:1000<=w)(h:cI m ws)(I0:I (replicate ws.length 0))(I1:∀(fs:List Int)(c:List aO)(x:Int),I fs->fs.length=ws.length->Qt (ws.map Wy.z) (m-1) c 0->(c.map (·.1)).Nodup->0<x->(∀s∈c,∃v g,(ws.map Wy.z)[s.1]?=some v/\fs[s.1]?=some g/\x<=uV v g s.2)->I (aug x fs c))(k:∀fs es S,fs.length=ws.length->I fs->wL m (ws.map Wy.z) fs es->(¬ ∃l o,(m-1,l,o)∈es)->kh ((es.map (·.1)).map D.int)=S.map D.int->S.Perm (es.map (·.1))->Q (.val (dq (dot (fun x=>if x=0 then 1 else 0) ws fs) fs S)) [.val false (aR m ws)]):(run Γ w (n+5) 18 [.val false (aR m ws)]).sat Q:=by
 have hn:=h.len;have m0:=h.m0;have m1:=h.m1;have hz:=HN.of h;have Zt:(ws.map Wy.z).length=ws.length:=length_map _;refine aP (d:=XS) rfl rfl (by decide) ?_;symm;simp[XS];refine uz h ?_;generalize ws.map Wy.z=zs at*;simp;refine dB (fun ρ=>ρ=[.val false (aR m ws),.val false (aR m zs),.own false ((flow ws.length []).map D.int),.aZ,.aZ,.aZ]) ?_ ?_;.simp[flow];show _<=16777216;omega
 rintro _ rfl;symm;simp;refine Dz I hw hz (by rw[Zt];exact I0) (fun fs c x q1 q2=>I1 fs c x q1 (by rw[q2,Zt])) fun cs hcs hin hI hend=>?_;rw[Zt]at hin hI hend;simp;refine cF (JF m ws zs cs) ?_ ?_ ⟨[],cs,.aZ,.aZ,rfl,rfl,rfl,rfl,rfl⟩;.rintro d r _⟨kI,us,s3,s4,rfl,h3,h4,hr,hd⟩;cases us with|nil=>cases hr|cons u us=>
     obtain⟨rfl,rfl⟩:d=cD u/\r=us.map cD:=by simpa using hr
     have hd2:(kI++[u])++us=cs:=by rw[append_assoc];exact hd
     simp[cD,h3,h4];apply aj;simp;refine uZ (.inr ⟨true,rfl⟩) (fun s hs=>by rw[fV];exact hin u (by rw[<-hd];simp) s hs) ?_;simp;exact⟨kI++[u],us,_,_,by rw[vI],rfl,rfl,rfl,hd2⟩
 . rintro _⟨kI,us,s3,s4,rfl,h3,h4,hr,hd⟩;have:us=[]:=by cases us with|nil=>rfl|cons _ _=>cases hr
   subst this;rw[append_nil]at hd;subst hd;simp;apply aj;simp;refine pC (by omega) (.inr ⟨true,rfl⟩) hz (by rw[fV,Zt]) fun es hes=>?_;obtain⟨S,hS1,hS2⟩:=pB (es.map (·.1));have hso:blt .m8 [lz es]=some (.own (S.map D.int)):=by show(if(es.map (·.1)).length<64 then some (R.own (kh ((es.map (·.1)).map D.int)))else none)=_;have hl:=hes.cm.len m1;rw[hS1,if_pos (by rw[length_map];omega)]
   simp[hso];apply aj;simp;refine pW (.inr ⟨true,rfl⟩) h fV ?_;simp;exact k _ es S fV hI hes (hend es hes) hS1 hS2
theorem rK{c:Call}{is:List Nat}{one:Bool}{elt:P}(J:List Sl->Prop)(P:D->Prop){Q:List D->List Sl->Prop}{ds:List D}{ρ:List Sl}(j:J ρ)(h:∀d,d∈ds->∀ρ,J ρ->∃ρ1,bW ρ is one d=some ρ1/\(ev c elt ρ1).sat fun r ρ3=>P r.d/\J ρ3)(k:∀xs ρ,J ρ->xs.length=ds.length->(∀x∈xs,P x)->Q xs ρ):(jU c is one none elt ds ρ).sat Q:=by suffices hh:∀(ds:List D)(acc:List D)(ρ:List Sl),J ρ->(∀x∈acc,P x)->(∀d,d∈ds->∀ρ,J ρ->∃ρ1,bW ρ is one d=some ρ1/\(ev c elt ρ1).sat fun r ρ3=>P r.d/\J ρ3)->(turns is one (lr c none) (ev c elt) ds acc ρ).sat fun xs ρ=>J ρ/\(∀x∈xs,P x)/\xs.length=acc.length+ds.length from(hh ds [] ρ j (by simp) h).imp fun xs ρ⟨q1,q2,q3⟩=>k xs ρ q1 (by simpa using q3) q2;intro ds;induction ds with|nil=>intro acc ρ j ha _;exact⟨j,ha,by simp⟩|cons d ds ih=>
   intro acc ρ j ha h;obtain⟨ρ1,e1,h1⟩:=h d (by simp) ρ j;rw[turns,e1];show((lr c none ρ1).bind _).sat _;rw[lr];show((ev c elt ρ1).bind _).sat _;rw[bF];refine h1.imp fun r ρ3⟨e2,j3⟩=>?_;refine(ih (acc++[r.d]) ρ3 j3 (fun x hx=>?_) fun d' hd'=>h d' (by simp[hd'])).imp fun xs ρ4⟨q1,q2,q3⟩=>⟨q1,q2,by simp at q3 ⊢;omega⟩;rcases mem_append.mp hx with hx|hx;.exact ha x hx
   .rw[mem_singleton.mp hx];exact e2
def IsT(b:Nat)(d:D):Prop:=∃r fs S,d=dq r fs S/\fs.length<=b/\S.length<=b
inductive J25(v:Sl)(r:List D)(ρ:List Sl):Prop where|mk(s1:Sl)(s2:Sl)(s3:Sl)(s4:Sl)(s5:Sl)(s6:Sl)(s7:Sl)(q0:ρ=[v,s1,s2,s3,s4,s5,s6,s7])(q1:A7 (fr s1=true) (fr s2=true) (fr s3=true) (fr s4=true) (fr s5=true) (fr s6=true) (fr s7=true))(q2:∀d∈r,∃i,d=D.int i)
inductive F25(y:Int)(a0 a1 a3 a4 a5 a6 a7:Sl)(ρ:List Sl):Prop where|mk(x z:Int)(s:Sl)(q0:ρ=[a0,a1,.own false [.int x,.int y,.int z],a3,a4,a5,a6,a7,s])(q1:fr s=true)
inductive K25(a0 a1 a2 a3 a4 a5 a6:Sl)(r:List D)(ρ:List Sl):Prop where|mk(s7:Sl)(q0:ρ=[a0,a1,a2,a3,a4,a5,a6,s7])(q1:fr s7=true)(q2:∀d∈r,IsT 60 d)
theorem Kf(ns:List Int)(hn:ns.length<=63):∃as,run Γ 1000 40 35 [.val false (.lst (ns.map D.int))]=.ok (.val (.bl true)) as:=by
 suffices h:(run Γ 1000 40 35 [.val false (.lst (ns.map D.int))]).sat fun r _=>r=.val (.bl true)by obtain⟨a,ρ,e,rfl⟩:=sat_iff.mp h;exact⟨ρ,e⟩
 refine aP (d:=Yb) rfl rfl (by decide) ?_;symm;have hl:1+ns.length<=lim:=by show _<=16777216;omega
 simp[Yb,hl];refine cF (J25 (.val false (.lst (ns.map D.int)))) ?_ ?_ ?_
 . rintro d r _⟨s1,s2,s3,s4,s5,s6,s7,rfl,⟨h1,h2,h3,h4,h5,h6,h7⟩,hd⟩;obtain⟨x,rfl⟩:=hd d (by simp);simp[h1];apply aj;simp;refine Gw fun a b c=>?_;simp[h2];apply aj;simp;refine Iz fun m ws a c hk=>?_;have hwl:=hk.len;simp[h3];apply aj;simp;refine v9 (fun _=>True) (le_refl _) hk trivial (fun _ _ _ _ _ _ _ _ _=>trivial) fun fs es S hf _ hes _ _ hS=>?_;have hSl:S.length<=6:=by have:=hes.cm.len hk.m1;rw[hS.length_eq,length_map];exact this
   generalize dot (fun x=>if x=0 then 1 else 0) ws fs=q;have hT:IsT 60 (dq q fs S):=⟨q,fs,S,rfl,by omega,by omega⟩;simp[h4];apply aj;simp;refine⟨fun _=>?_,by decide⟩;refine rK (F25 b _ _ _ _ _ _ _) (IsT 24) ⟨a,c,.aZ,rfl,rfl⟩ ?_ ?_;.rintro d hd _⟨x,z,s,rfl,hs⟩;simp[hs];refine pP hk (by omega) (by omega) fun r' gs T x z l1 l2=>?_;simp;exact⟨⟨r',gs,T,rfl,by omega,by omega⟩,_,_,_,rfl,rfl⟩
   rintro xs _⟨a,c,s,rfl,hs⟩W8 hx;obtain⟨d0,d1,d2,rfl⟩:∃d0 d1 d2,xs=[d0,d1,d2]:=by match xs,W8 with|[d0,d1,d2],_=>exact⟨d0,d1,d2,rfl⟩
   obtain⟨r0,f0,S0,rfl,l1,l2⟩:=hx d0 (by simp);simp[h5];apply aj;simp;refine pP hk (by omega) (by omega) fun r' gs T x z l3 l4=>?_;have hT2:IsT 60 (dq r' gs T):=⟨r',gs,T,rfl,by omega,by omega⟩;have hT0:IsT 60 (dq r0 f0 S0):=⟨r0,f0,S0,rfl,by omega,by omega⟩;have hT1:∀d∈[d1,d2],IsT 60 d:=fun d hd=>by obtain⟨r,f,S,e,q1,q2⟩:=hx d (mem_cons_of_mem _ hd);exact⟨r,f,S,e,by omega,by omega⟩
   simp[h6];apply aj;simp;refine⟨by decide,by decide,?_⟩;refine cF (K25 _ _ _ _ _ _ _) ?_ ?_ ⟨s7,rfl,h7,fun d hd=>?_⟩;.rintro d r _⟨s7,rfl,h7,hd⟩;obtain⟨r',gs,T,rfl,l1,l2⟩:=hd d (by simp);simp[h7];apply aj;simp;refine yR hk (by omega) (by omega) ?_;simp;exact⟨_,rfl,rfl,fun d h=>hd d (mem_cons_of_mem _ h)⟩
   .rintro _⟨s7,rfl,h7,hd2⟩;simp;exact⟨_,_,_,_,_,_,_,rfl,⟨rfl,rfl,rfl,rfl,rfl,rfl,h7⟩,fun d h=>hd d (mem_cons_of_mem _ h)⟩
   . simp at hd;rcases hd with rfl|rfl|rfl|rfl|rfl|rfl|rfl;.exact hT
     .exact hT0
     .exact hT1 _ (by simp)
     .exact hT1 _ (by simp)
     .exact hT2
     .exact hT
     .exact hT0
 .rintro _⟨s1,s2,s3,s4,s5,s6,s7,rfl,⟨h1,h2,h3,h4,h5,h6,h7⟩,hd⟩;symm;simp
 . refine⟨_,_,_,_,_,_,_,rfl,⟨rfl,rfl,rfl,rfl,rfl,rfl,rfl⟩,fun d hd=>?_⟩;simp at hd;rcases hd with rfl|⟨i,_,rfl⟩;.exact⟨_,rfl⟩
   .exact⟨_,rfl⟩
end T
end
structure PySem.W.Fast:Prop where(tw2629054144171834158 tw8950661312546966564 tw5806552859140669634 tw18079348825402360406 tw13465538090305149755 tw7976890206869278441 tw11842805106928230906 tw12347605429446419555 tw3789803301685094087 tw13327796445914408739 tw17283512103552450631 tw10906063982325557539 tw5581080717009321617 tw9053987188568779138 tw4125384706305670372 tw1108204652765139410 tw7337848893921149881 tw3877743487037932059 tw5619298417550391489 tw4989266778708501935 tw17323263433283195807 tw12940917696699724765 tw7910340001248613049 tw9348004009662332023 tw4111584455684048898 tw12762085131832921341 tw13638238186463419111 tw16348028018901232402 tw11593743525892427775 tw15543247292264028178 tw14869040834560059238 tw2998298413318846275 tw11725128453112184048 tw2772140975000592719 tw4841917430644176516 tw2736039934501217082 tw16951073918204492922 tw17213500784640527176 tw16275394323741658798 tw14423624164599191795 tw162604034023005956 tw16631578572212440497 tw9598397547947919713 tw13516554462047639231 tw7535675596038500020 tw3660897282909181269 tw10959330680750553649 tw3906096768658246681 tw8247520885217990312 tw8654336892220979221 tw7072003749572119728 tw1335130301813243378 tw4588867777407706044 tw15444095048608881820 tw17215074511081466672 tw14744964053532181316 tw11110200398514277477 tw5487663960146946171 tw7587985075444884738 tw14336912740279255938 tw12668648916525902261 tw18065524216731752381 tw7466954408188116952 tw898244364615605074 tw12477721872893966218 tw5709561477593468191 tw13343228182113256294 tw7383946873244796552 tw16206681606321576421 tw16718653323214630227 tw6098145547931770209 tw4705522549159311976 tw8974279063076147837 tw15074423950058106020 tw13158176821937404101 tw3301036329190100135 tw14648544150752518639 tw44590960949319244 tw1299971569219191292 tw9536066464057795711 tw17699881987859881714 tw18245215541433096204 tw9819471638193084684 tw9239180992247061044 tw365367048212775563 tw6725831652920397485 tw11635040709322178155 tw3652988813059072508 tw86107598504759879 tw2868033017398324563 tw17866845960107317390 tw16406049725864364767 tw11757895519091592468 tw15311860522585830907 tw13990538468388108144 tw5322562345595348759 tw8449305943763098272 tw17570391274198432385 tw7759353460644799389 tw10777781594677515745 tw4259878274620096538 tw3553922121188363049 tw7225264014223597741 tw12654459014524615005 tw14244464637705086622 tw8157505745789521180 tw15579326913964117915 tw1432827692686701891 tw1230910735421164105 tw11635305392289098300 tw555738736180978663 tw6336830751955056481 tw5730662449320063176 tw1320437468468992277 tw13596734374083549565 tw11890854987385495207 tw1373027981136199246 tw5932794391066226693 tw4814324075148162817 tw11867211166856368878 tw13769683455185474859 tw12739418262012570821 tw15210126272088199921 tw6850055564342717962 tw17947497801695616494 tw6285995843927265300 tw4485113730733792967 tw13347470297179855711 tw14698650454407545589 tw12189295227286955253 tw6263490894432114130 tw13511707116017077331 tw5523999314409775988 tw510671022235985763 tw13782917939003079817 tw9376128762185846112 tw7783411686289540597 tw8285662287155840509 tw714954618598533288 tw8009702688213759025 tw15864252905618770788 tw15740914422491115023 tw3062698802826204614 tw9022380006417310853 tw399484782355385261 tw11495138726558631346 tw11941748760340084756 tw38590064937925256 tw10036585148986105666 tw12097258079734445381 tw16695548060969760060 tw8627206020171600247 tw10940548399232171977 tw2643614148332221660 tw15063432198260296906 tw4782952838129033086 tw8468703092549581388 tw13316188874747939228 tw17445605099932666724 tw18308371092812250346 tw16605088059797272565 tw14181180706457381602 tw13683549070460142603 tw17984245139377607697 tw14636868833145177689 tw3190021268247993406 tw17903170799710584078 tw4483965952139680215 tw5082172446272277401 tw5308193752633820264 tw1136522031814799019 tw3511258734771842493 tw16233079426290675572 tw10878936281928913086 tw18169080818481810580 tw6306152212058446914 tw16632702662790087246 tw12187541205581697257 tw4313718404619495623 tw14466321244083642126 tw14837897183456951766 tw11009643573435284178 tw6265397222753806972 tw7613371464832375683 tw13949127997668965920 tw9587782936699161496 tw8234751386693268438 tw1402654875332127868 tw10383282449089319687 tw13344262326494607000 tw14488016781829820442 tw12397307238433618533 tw8326163587748764057 tw2542703173857636809 tw7390301928255705336 tw9557594162947095879 tw15661292528598544955 tw3054360695994696092 tw732873055571713562 tw15826416323123400726 tw11671540074458175841 tw11362090180189143742 tw10919468132369196011 tw12488900225121132828 tw17908284434058310626 tw17191385181820378725:True)
namespace T
open PySem L2 PySem.Spec PyProof.Rows HH
theorem Vr{P:List Value → Prop}{n:Nat}(h:∀(a:Value)(us:List Value),us.length=n → P (a::us))(us:List Value)(hl:us.length=n+1):P us:=by cases us with|nil=>cases hl|cons a us=>exact h a us (Nat.succ.inj hl)
theorem lk0{P:List Value → Prop}(h:P [])(us:List Value)(hl:us.length=0):P us:=by cases us with|nil=>exact h|cons a us=>cases hl
theorem Bc{P:List Value → Prop}(h:∀a,P [a]):∀us:List Value,us.length=1 → P us:=Vr fun a=>lk0 (h a)
theorem jb{P:List Value → Prop}(h:∀a b,P [a,b]):∀us:List Value,us.length=2 → P us:=Vr fun a=>Bc (h a)
theorem qW{P:List Value → Prop}(h:∀a b c,P [a,b,c]):∀us:List Value,us.length=3 → P us:=Vr fun a=>jb (h a)
theorem lk4{P:List Value → Prop}(h:∀a b c d,P [a,b,c,d]):∀us:List Value,us.length=4 → P us:=Vr fun a=>qW (h a)
theorem lk5{P:List Value → Prop}(h:∀a b c d e,P [a,b,c,d,e]):∀us:List Value,us.length=5 → P us:=Vr fun a=>lk4 (h a)
local macro_rules|`(term|‹$p›)=>`(fun _ _ _ _ _ _=>$p)
structure Txt(K:PySem.W.Frag):Prop where
 D0:bG K "step_places" s0
 D1:bG K "step_hours" s1
 D2:bG K "step_room" s2
 D3:bG K "open_steps" s3
 D4:bG K "shortest_come" s4
 D5:bG K "steps_to" s5
 D6:bG K "stream_with" s6
 D7:bG K "chains_to_end" s7
 D8:bG K "is_rising" s8
 D9:bG K "ways_out" s9
 D10:bG K "ways_in" jJ
 D11:bG K "stays_at" Xo
 D12:bG K "stream_rate" s12
 D13:bG K "within_rooms" s13
 D14:bG K "stream_right" s14
 D15:bG K "side_right" s15
 D16:bG K "side_room" s16
 D17:bG K "hourless_net" s17
 D18:bG K "fullest_stream" s18
 D19:bG K "fullest_right" s19
 D20:bG K "_law_pool" s20
 D21:bG K "_law_next" s21
 D22:bG K "_law_wide" s22
 D23:bG K "_law_way" s23
 D24:bG K "_law_net" Z8
 D25:bG K "_law_trail" s25
 D26:bG K "_law_stream" s26
 D27:bG K "_law_over" s27
 D28:bG K "_law_is_stream" s28
 D29:bG K "_law_side_room" s29
 D30:bG K "_law_due" s30
 D31:bG K "_law_other_side" s31
 D32:bG K "_law_ringed" s32
 D33:bG K "_law_spoilt" Z5
 D34:bG K "_law_judged" s34
 D35:bG K "law" ZJ
 lX:PySem.W.nsIn K mainGlobals "all"=some none
 zb:PySem.W.nsIn K mainGlobals "bool"=some none
 dH:PySem.W.nsIn K mainGlobals "enumerate"=some none
 iT:PySem.W.nsIn K mainGlobals "isinstance"=some none
 bH:PySem.W.nsIn K mainGlobals "len"=some none
 cM:PySem.W.nsIn K mainGlobals "list"=some none
 HF:PySem.W.nsIn K mainGlobals "max"=some none
 sY:PySem.W.nsIn K mainGlobals "min"=some none
 aQ:PySem.W.nsIn K mainGlobals "range"=some none
 km:PySem.W.nsIn K mainGlobals "reversed"=some none
 HJ:PySem.W.nsIn K mainGlobals "set"=some none
 iu:PySem.W.nsIn K mainGlobals "sorted"=some none
 qI:PySem.W.nsIn K mainGlobals "sum"=some none
 cN:PySem.W.nsIn K mainGlobals "tuple"=some none
 sZ:PySem.W.nsIn K mainGlobals "zip"=some none
noncomputable def iU{K:PySem.W.Frag}(T:Txt K):Nat->Addr:=fun k=>0
structure Oks(Pg:Program)(w:World)(K:PySem.W.Frag)(mg:Str->Option Value)(base:Heap)(cl:Nat->Addr)(n:Nat):Prop where
 c0:au Pg w K mg base n (run Γ 1000 n) 0 "step_places" 2
 c1:au Pg w K mg base n (run Γ 1000 n) 1 "step_hours" 2
 c2:au Pg w K mg base n (run Γ 1000 n) 2 "step_room" 3
 c3:au Pg w K mg base n (run Γ 1000 n) 3 "open_steps" 2
 c4:au Pg w K mg base n (run Γ 1000 n) 4 "shortest_come" 3
 c5:au Pg w K mg base n (run Γ 1000 n) 5 "steps_to" 3
 c6:au Pg w K mg base n (run Γ 1000 n) 6 "stream_with" 3
 c7:au Pg w K mg base n (run Γ 1000 n) 7 "chains_to_end" 1
 c8:au Pg w K mg base n (run Γ 1000 n) 8 "is_rising" 1
 c9:au Pg w K mg base n (run Γ 1000 n) 9 "ways_out" 2
 c10:au Pg w K mg base n (run Γ 1000 n) 10 "ways_in" 2
 Zu:au Pg w K mg base n (run Γ 1000 n) 11 "stays_at" 3
 c12:au Pg w K mg base n (run Γ 1000 n) 12 "stream_rate" 2
 c13:au Pg w K mg base n (run Γ 1000 n) 13 "within_rooms" 2
 c14:au Pg w K mg base n (run Γ 1000 n) 14 "stream_right" 2
 c15:au Pg w K mg base n (run Γ 1000 n) 15 "side_right" 2
 c16:au Pg w K mg base n (run Γ 1000 n) 16 "side_room" 2
 c17:au Pg w K mg base n (run Γ 1000 n) 17 "hourless_net" 1
 Zv:au Pg w K mg base n (run Γ 1000 n) 18 "fullest_stream" 1
 c19:au Pg w K mg base n (run Γ 1000 n) 19 "fullest_right" 2
 Zw:au Pg w K mg base n (run Γ 1000 n) 20 "_law_pool" 1
 c21:au Pg w K mg base n (run Γ 1000 n) 21 "_law_next" 2
 Zx:au Pg w K mg base n (run Γ 1000 n) 22 "_law_wide" 2
 c23:au Pg w K mg base n (run Γ 1000 n) 23 "_law_way" 4
 Zy:au Pg w K mg base n (run Γ 1000 n) 24 "_law_net" 3
 Zz:au Pg w K mg base n (run Γ 1000 n) 25 "_law_trail" 5
 c26:au Pg w K mg base n (run Γ 1000 n) 26 "_law_stream" 2
 ZC:au Pg w K mg base n (run Γ 1000 n) 27 "_law_over" 3
 c28:au Pg w K mg base n (run Γ 1000 n) 28 "_law_is_stream" 2
 c29:au Pg w K mg base n (run Γ 1000 n) 29 "_law_side_room" 2
 c30:au Pg w K mg base n (run Γ 1000 n) 30 "_law_due" 2
 c31:au Pg w K mg base n (run Γ 1000 n) 31 "_law_other_side" 3
 c32:au Pg w K mg base n (run Γ 1000 n) 32 "_law_ringed" 3
 ZD:au Pg w K mg base n (run Γ 1000 n) 33 "_law_spoilt" 3
 ZF:au Pg w K mg base n (run Γ 1000 n) 34 "_law_judged" 2
 c35:au Pg w K mg base n (run Γ 1000 n) 35 "law" 1
set_option maxHeartbeats 0 in
theorem Ep{Pg:Program}{w:World}{K:PySem.W.Frag}{mg:Str->Option Value}{base:Heap}(T:Txt K)(X:K.In base)(G:base.Ns mainGlobals mg):∀n,Oks Pg w K mg base (iU T) n
 |0=>{
   c0:=bM (ps:=["net","step"]) X G T.D0 rfl ‹jb fun _ _=>rfl›
   c1:=bM (ps:=["net","step"]) X G T.D1 rfl ‹jb fun _ _=>rfl›
   c2:=bM (ps:=["net","stream","step"]) X G T.D2 rfl ‹qW fun _ _ _=>rfl›
   c3:=bM (ps:=["net","stream"]) X G T.D3 rfl ‹jb fun _ _=>rfl›
   c4:=bM (ps:=["net","stream","begun"]) X G T.D4 rfl ‹qW fun _ _ _=>rfl›
   c5:=bM (ps:=["net","come","place"]) X G T.D5 rfl ‹qW fun _ _ _=>rfl›
   c6:=bM (ps:=["stream","steps","loads"]) X G T.D6 rfl ‹qW fun _ _ _=>rfl›
   c7:=bM (ps:=["net"]) X G T.D7 rfl ‹Bc fun _=>rfl›
   c8:=bM (ps:=["things"]) X G T.D8 rfl ‹Bc fun _=>rfl›
   c9:=bM (ps:=["net","place"]) X G T.D9 rfl ‹jb fun _ _=>rfl›
   c10:=bM (ps:=["net","place"]) X G T.D10 rfl ‹jb fun _ _=>rfl›
   Zu:=bM (ps:=["net","stream","place"]) X G T.D11 rfl ‹qW fun _ _ _=>rfl›
   c12:=bM (ps:=["net","stream"]) X G T.D12 rfl ‹jb fun _ _=>rfl›
   c13:=bM (ps:=["net","stream"]) X G T.D13 rfl ‹jb fun _ _=>rfl›
   c14:=bM (ps:=["net","stream"]) X G T.D14 rfl ‹jb fun _ _=>rfl›
   c15:=bM (ps:=["net","side"]) X G T.D15 rfl ‹jb fun _ _=>rfl›
   c16:=bM (ps:=["net","side"]) X G T.D16 rfl ‹jb fun _ _=>rfl›
   c17:=bM (ps:=["net"]) X G T.D17 rfl ‹Bc fun _=>rfl›
   Zv:=bM (ps:=["net"]) X G T.D18 rfl ‹Bc fun _=>rfl›
   c19:=bM (ps:=["net","told"]) X G T.D19 rfl ‹jb fun _ _=>rfl›
   Zw:=bM (ps:=["cell"]) X G T.D20 rfl ‹Bc fun _=>rfl›
   c21:=bM (ps:=["pool","base"]) X G T.D21 rfl ‹jb fun _ _=>rfl›
   Zx:=bM (ps:=["pool","base"]) X G T.D22 rfl ‹jb fun _ _=>rfl›
   c23:=bM (ps:=["pool","many","most","longest"]) X G T.D23 rfl ‹lk4 fun _ _ _ _=>rfl›
   Zy:=bM (ps:=["pool","places","count"]) X G T.D24 rfl ‹qW fun _ _ _=>rfl›
   Zz:=bM (ps:=["pool","net","left","start","goal"]) X G T.D25 rfl ‹lk5 fun _ _ _ _ _=>rfl›
   c26:=bM (ps:=["pool","net"]) X G T.D26 rfl ‹jb fun _ _=>rfl›
   ZC:=bM (ps:=["net","stream","place"]) X G T.D27 rfl ‹qW fun _ _ _=>rfl›
   c28:=bM (ps:=["net","stream"]) X G T.D28 rfl ‹jb fun _ _=>rfl›
   c29:=bM (ps:=["net","side"]) X G T.D29 rfl ‹jb fun _ _=>rfl›
   c30:=bM (ps:=["net","told"]) X G T.D30 rfl ‹jb fun _ _=>rfl›
   c31:=bM (ps:=["pool","net","side"]) X G T.D31 rfl ‹qW fun _ _ _=>rfl›
   c32:=bM (ps:=["pool","net","stream"]) X G T.D32 rfl ‹qW fun _ _ _=>rfl›
   ZD:=bM (ps:=["pool","net","told"]) X G T.D33 rfl ‹qW fun _ _ _=>rfl›
   ZF:=bM (ps:=["net","told"]) X G T.D34 rfl ‹jb fun _ _=>rfl›
   c35:=bM (ps:=["script"]) X G T.D35 rfl ‹Bc fun _=>rfl›}|n+1=>have ih:=Ep (Pg:=Pg) (w:=w) (base:=base) T X G n
   {c0:=bL (ps:=["net","step"]) X G T.D0 rfl rfl ‹jb fun _ _=>rfl› fun _ _ F=>d0 (cl:=iU T) F
    c1:=bL (ps:=["net","step"]) X G T.D1 rfl rfl ‹jb fun _ _=>rfl› fun _ _ F=>d1 (cl:=iU T) F
    c2:=bL (ps:=["net","stream","step"]) X G T.D2 rfl rfl ‹qW fun _ _ _=>rfl› fun _ _ F=>d2 (cl:=iU T) F
    c3:=bL (ps:=["net","stream"]) X G T.D3 rfl rfl ‹jb fun _ _=>rfl› fun _ _ F=>d3 (cl:=iU T) F (mg_none_of X G T.bH) (mg_none_of X G T.aQ) ih.c0 ih.c2
    c4:=bL (ps:=["net","stream","begun"]) X G T.D4 rfl rfl ‹qW fun _ _ _=>rfl› fun _ _ F=>d4 (cl:=iU T) F (mg_none_of X G T.bH) (mg_none_of X G T.cM) ih.c3 ih.c1 ih.c0
    c5:=bL (ps:=["net","come","place"]) X G T.D5 rfl rfl ‹qW fun _ _ _=>rfl› fun _ _ F=>d5 (cl:=iU T) F (mg_none_of X G T.km) (mg_none_of X G T.cN) ih.c0
    c6:=bL (ps:=["stream","steps","loads"]) X G T.D6 rfl rfl ‹qW fun _ _ _=>rfl› fun _ _ F=>d6 (cl:=iU T) F (mg_none_of X G T.cM)
    c7:=bL (ps:=["net"]) X G T.D7 rfl rfl ‹Bc fun _=>rfl› fun _ _ F=>d7 (cl:=iU T) F (mg_none_of X G T.bH) (mg_none_of X G T.sY) ih.c4 ih.c2 ih.c5 ih.c6
    c8:=bL (ps:=["things"]) X G T.D8 rfl rfl ‹Bc fun _=>rfl› fun _ _ F=>d8 (cl:=iU T) F (mg_none_of X G T.lX) (mg_none_of X G T.sZ)
    c9:=bL (ps:=["net","place"]) X G T.D9 rfl rfl ‹jb fun _ _=>rfl› fun _ _ F=>d9 (cl:=iU T) F (mg_none_of X G T.dH)
    c10:=bL (ps:=["net","place"]) X G T.D10 rfl rfl ‹jb fun _ _=>rfl› fun _ _ F=>d10 (cl:=iU T) F (mg_none_of X G T.dH)
    Zu:=bL (ps:=["net","stream","place"]) X G T.D11 rfl rfl ‹qW fun _ _ _=>rfl› fun _ _ F=>d11 (cl:=iU T) F (mg_none_of X G T.qI) ih.c10 ih.c9
    c12:=bL (ps:=["net","stream"]) X G T.D12 rfl rfl ‹jb fun _ _=>rfl› fun _ _ F=>d12 (cl:=iU T) F ih.Zu
    c13:=bL (ps:=["net","stream"]) X G T.D13 rfl rfl ‹jb fun _ _=>rfl› fun _ _ F=>d13 (cl:=iU T) F (mg_none_of X G T.lX) (mg_none_of X G T.sZ)
    c14:=bL (ps:=["net","stream"]) X G T.D14 rfl rfl ‹jb fun _ _=>rfl› fun _ _ F=>d14 (cl:=iU T) F (mg_none_of X G T.lX) (mg_none_of X G T.bH) (mg_none_of X G T.aQ) ih.Zu ih.c12 ih.c13
    c15:=bL (ps:=["net","side"]) X G T.D15 rfl rfl ‹jb fun _ _=>rfl› fun _ _ F=>d15 (cl:=iU T) F ih.c8
    c16:=bL (ps:=["net","side"]) X G T.D16 rfl rfl ‹jb fun _ _=>rfl› fun _ _ F=>d16 (cl:=iU T) F (mg_none_of X G T.qI)
    c17:=bL (ps:=["net"]) X G T.D17 rfl rfl ‹Bc fun _=>rfl› fun _ _ F=>d17 (cl:=iU T) F (mg_none_of X G T.cN)
    Zv:=bL (ps:=["net"]) X G T.D18 rfl rfl ‹Bc fun _=>rfl› fun _ _ F=>d18 (cl:=iU T) F (mg_none_of X G T.bH) (mg_none_of X G T.iu) (mg_none_of X G T.cN) ih.c7 ih.c17 ih.c4 ih.c12 ih.c6
    c19:=bL (ps:=["net","told"]) X G T.D19 rfl rfl ‹jb fun _ _=>rfl› fun _ _ F=>d19 (cl:=iU T) F ih.c15 ih.c16 ih.c12 ih.c14
    Zw:=bL (ps:=["cell"]) X G T.D20 rfl rfl ‹Bc fun _=>rfl› fun _ _ F=>d20 (cl:=iU T) F (mg_none_of X G T.HF)
    c21:=bL (ps:=["pool","base"]) X G T.D21 rfl rfl ‹jb fun _ _=>rfl› fun _ _ F=>d21 (cl:=iU T) F
    Zx:=bL (ps:=["pool","base"]) X G T.D22 rfl rfl ‹jb fun _ _=>rfl› fun _ _ F=>d22 (cl:=iU T) F (mg_none_of X G T.aQ) ih.c21
    c23:=bL (ps:=["pool","many","most","longest"]) X G T.D23 rfl rfl ‹lk4 fun _ _ _ _=>rfl› fun _ _ F=>d23 (cl:=iU T) F ih.c21 ih.Zx
    Zy:=bL (ps:=["pool","places","count"]) X G T.D24 rfl rfl ‹qW fun _ _ _=>rfl› fun _ _ F=>d24 (cl:=iU T) F (mg_none_of X G T.aQ) (mg_none_of X G T.cN) ih.c21 ih.c23
    Zz:=bL (ps:=["pool","net","left","start","goal"]) X G T.D25 rfl rfl ‹lk5 fun _ _ _ _ _=>rfl› fun _ _ F=>d25 (cl:=iU T) F (mg_none_of X G T.bH) (mg_none_of X G T.aQ) ih.c21
    c26:=bL (ps:=["pool","net"]) X G T.D26 rfl rfl ‹jb fun _ _=>rfl› fun _ _ F=>d26 (cl:=iU T) F (mg_none_of X G T.bH) (mg_none_of X G T.sY) (mg_none_of X G T.aQ) ih.c21 ih.Zz ih.Zx
    ZC:=bL (ps:=["net","stream","place"]) X G T.D27 rfl rfl ‹qW fun _ _ _=>rfl› fun _ _ F=>d27 (cl:=iU T) F (mg_none_of X G T.bH) (mg_none_of X G T.aQ)
    c28:=bL (ps:=["net","stream"]) X G T.D28 rfl rfl ‹jb fun _ _=>rfl› fun _ _ F=>d28 (cl:=iU T) F (mg_none_of X G T.bH) (mg_none_of X G T.aQ) ih.ZC
    c29:=bL (ps:=["net","side"]) X G T.D29 rfl rfl ‹jb fun _ _=>rfl› fun _ _ F=>d29 (cl:=iU T) F
    c30:=bL (ps:=["net","told"]) X G T.D30 rfl rfl ‹jb fun _ _=>rfl› fun _ _ F=>d30 (cl:=iU T) F (mg_none_of X G T.cM) (mg_none_of X G T.HJ) (mg_none_of X G T.iu) ih.c28 ih.ZC ih.c29
    c31:=bL (ps:=["pool","net","side"]) X G T.D31 rfl rfl ‹qW fun _ _ _=>rfl› fun _ _ F=>d31 (cl:=iU T) F (mg_none_of X G T.aQ) (mg_none_of X G T.cN) ih.c21
    c32:=bL (ps:=["pool","net","stream"]) X G T.D32 rfl rfl ‹qW fun _ _ _=>rfl› fun _ _ F=>d32 (cl:=iU T) F (mg_none_of X G T.bH) (mg_none_of X G T.cM) (mg_none_of X G T.aQ) ih.c21 ih.Zz
    ZD:=bL (ps:=["pool","net","told"]) X G T.D33 rfl rfl ‹qW fun _ _ _=>rfl› fun _ _ F=>d33 (cl:=iU T) F (mg_none_of X G T.bH) (mg_none_of X G T.cM) ih.c21 ih.c31 ih.c32 ih.c26
    ZF:=bL (ps:=["net","told"]) X G T.D34 rfl rfl ‹jb fun _ _=>rfl› fun _ _ F=>d34 (cl:=iU T) F (mg_none_of X G T.zb) (mg_none_of X G T.iT) (mg_none_of X G T.cM) ih.c30 ih.c19
    c35:=bL (ps:=["script"]) X G T.D35 rfl rfl ‹Bc fun _=>rfl› fun _ _ F=>d35 (cl:=iU T) F (mg_none_of X G T.aQ) ih.ZF ih.Zy ih.Zw ih.ZD ih.Zv}
theorem gin{K:PySem.W.Frag}{x:Str}{i:Int}{t:Tok}(a:PySem.W.nsIn K mainGlobals x=some (some (Value.int i t))):∃t,PySem.W.nsIn K mainGlobals x=some (some (Value.int i t)):=⟨t,a⟩
set_option maxHeartbeats 0 in
theorem Oz{Pg:Program}{w:World}{K:PySem.W.Frag}{mg:Str->Option Value}{h:Heap}{fa:Addr}(T:Txt K)(X:K.In h)(G:h.Ns mainGlobals mg)(hmg:mg "law"=some (.ref fa)):∃fd:FuncData,(∀(s:Shared)(u:Value),BindsTo s fd ⟨[u],[]⟩ [("script",u)])/\∀base:Heap,K.In base->base.Ns mainGlobals mg->bV Pg w K mg base gh 40 fa fd ["script"] (gF K 1 (run Γ 1000 40 35)):=by
 obtain⟨f,fd,a,F⟩:=T.D35.ex;have e:=hmg.symm.trans (mg_of X G a);cases e;refine⟨fd,fun s u=>?_,fun base kb nb=>?_⟩;.obtain⟨oc,od,kV,doc,pm,an,cdv,ct,osl,rfl,lk,hcd⟩:=F.ex;exact .of_eq rfl
 .have ih:=Ep (Pg:=Pg) (w:=w) (base:=base) T kb nb 39;exact d35 (cl:=iU T) (k:=39) (n:=1000) (c:=run Γ 1000 39) F (mg_none_of X G T.aQ) ih.ZF ih.Zy ih.Zw ih.ZD ih.Zv
end T
open PySem PySem.W PyProof.Rows
set_option maxRecDepth 100000 in
set_option maxHeartbeats 0 in
theorem PySem.Challenge.cw_hourhaul_k25_fullest_judged_holds : PySem.Challenge.rw_hourhaul_k25_fullest_judged.Holds := by
 w_on;o_law;k_head;(case hw=>w_witness2);k_fill;refine L2.G3 (l:=PySem.Challenge.rw_hourhaul_k25_fullest_judged) (n:=63) (k:=40) (x:="script") (CX:=L2.gh) (sp:=fun K=>HH.gF K 1 (HH.run T.Γ 1000 40 35)) rfl (by decide) rfl ⟨rfl,by decide,by decide⟩ (fun w h Y=>PySem.W.kIn_of Y) ?F ?S ?C;case F=>
  intro w mg fa h KX G hmg;refine T.Oz ?T KX G hmg;constructor;iterate 36(· refine' HH.Rk ?a ?l ?c ?k;case a|l|c|k=>k_is)
  all_goals k_is
 case S=>intro K H a ns hl hO hS;obtain⟨as,e⟩:=T.Kf ns hl;exact HH.Ba hS e
 case C=>exact fun H s e s' z=>z
