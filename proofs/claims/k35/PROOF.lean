import PyProof.Rows.All
import Wide.All
import OpenK.AllK
import Wide.FinOn
import Lean
import PyProof.EqAt
import PyProof.EqKinds
import PyProof.TupleCall
import PySem.Str
import PySem.Builtin.Int.W1All
import PyProof.NeKinds
import PyProof.ZipIter
import PyProof.SumWalkG
import PyProof.MinMaxWalk
import PyProof.WalksMore
import PyProof.SeqI3
import PyProof.WalkInts
import PyProof.Rows.CallKwBuiltin
import PyProof.Rows.Tup
import PyProof.CollectIter
import PyProof.EnumMake
import PyProof.TupleOfSeq
import PyProof.ListNew
import PyProof.ReprLoop
import PyProof.StationsW
import PyProof.ExcClass3
import PyProof.Rows.CatchBare
import OpenK.KOwn
import KE.KIsAll
import PyProof.NsDelKeeps
import PyProof.RulesAs
import PyProof.ExcArgsOwn
import PyProof.ListRange
import KE.RegKIsAll
import KE.KRevIter
import PyProof.Rows.SortRuns
import KE.KSortTup
import PyProof.DictWalks
import KE.KDictList
import PyProof.SetScanFacts
import PyProof.SetKind
import PyProof.Rows.SetFrom
import KE.KItemsList
import PyProof.ExcBaseAll.ValueError
import PySem.Challenge.RW_hourhaul_k35_the_most_by_an_hour
set_option Elab.async false
set_option linter.all false
set_option maxRecDepth 100000
set_option genSizeOf false
set_option compiler.extract_closed false
set_option bootstrap.genMatcherCode false
open List(replicate getElem?_set_ne getElem?_set_self size_toArray mem_map mem_cons map_cons length_map map_map length_cons mem_append length_append append_assoc mem_singleton getElem?_append_left all_eq_true mem_cons_of_mem nodup_cons getElem?_map mem_of_getElem? lookup_cons map_congr_left find?_cons append_nil length_range mem_append_right map_nil getD_eq_getElem?_getD getElem?_append_right foldl getElem_mem mem_cons_self length_take drop_eq_getElem_cons replicate_succ map_append not_mem_nil filterMap_cons any_cons take_append_drop length_nil mem_range take_of_length_le mem_iff_getElem cons_append mem_filter length_drop reverse_cons flatten_cons foldl_cons nil_append getElem?_take drop_eq_nil_iff all_cons ext_getElem map map_id of_mem_zip sum_cons)
open Nat(le_refl ne_of_lt zero_le lt_of_lt_of_le le_trans lt_irrefl le_of_lt lt_succ_of_lt le_succ ne_of_gt not_lt lt_trans mod_lt)
open PySem.Heap(get?_push_of_some lt_size get?_push_size get?_update_other size_push SameBut get?_update_self)
open PySem.W(mg_none_of keepIn methodObj mg_of kitx_dict)
open Array(length_toList toList_push getElem_toList getElem?_eq_getElem getElem?_toList toList)
open PySem.F(called_set slot_tuple_add entry_tuple_add args_tuple_add_2 slot_tuple_mul plainAttrs_list slot_dict_get)
open PySem.Builtin.Tuple(tupleExact tupleItemsOf)
open PySem.Builtin.List(listExtendWith listTooLong listLengthHint listSameRef)
open Option(map_eq_some_iff bind_some isSome_map getD_none)
open Bool(and_eq_true false_eq_true or_eq_true not_eq_true')
open PySem.SetTable(grown probe fits)
open PySem.Builtin.Slice(slicePlaces sliceAdjust sliceApplied)
open PySem.SeqAt.EqAt(int_str str_int)
open PySem.SeqAt.RcAt(lists_lengths)
open Int(toNat_natCast sub_zero mul_add mul_comm mul_neg)
open PySem.SeqAt.RcNeAt(none_int none_str bool_int bool_str int_none int_bool int_int int_list str_none str_bool str_str str_list list_int list_str)
section
namespace L2
open PySem PySem.Spec PyProof.Rows
noncomputable abbrev Key:=Sum Int Str
noncomputable def mO:Key->Value->Bool|.inl k,v=>Value.isInt k v|.inr x,v=>Value.isStrOf x v
noncomputable def aaz(w:World):Key->Int|.inl k=>hashInt k|.inr x=>hashStr w x
theorem aZ:∀{k:Key}{v:Value},mO k v=true->(∃i t,k=Sum.inl i/\v=Value.int i t)\/(∃x t,k=Sum.inr x/\v=Value.str x t)|.inl i,v,h=>by obtain⟨t,e⟩:=Value.isInt_shape (k:=i) (v:=v) h;exact .inl ⟨i,t,rfl,e⟩|.inr x,v,h=>by obtain⟨t,e⟩:=Value.isStrOf_shape (x:=x) (v:=v) h;exact .inr ⟨x,t,rfl,e⟩
theorem Bg(i:Int)(t:Tok):mO (.inl i) (.int i t)=true:=by simp[mO,Value.isInt]
theorem BZ(x:Str)(t:Tok):mO (.inr x) (.str x t)=true:=by simp[mO,Value.isStrOf]
theorem QM(a b:Int):decide ((Sum.inl a:Key)=Sum.inl b)=(a==b):=by
 by_cases e:a=b;.subst e;simp
 .have h:¬(Sum.inl a:Key)=Sum.inl b:=fun q=>e (Sum.inl.inj q);rw[decide_eq_false h];exact(beq_eq_false_iff_ne.mpr e).symm
theorem QQ(a b:Str):decide ((Sum.inr a:Key)=Sum.inr b)=decide (a=b):=by
 by_cases e:a=b;.subst e;simp
 .have h:¬(Sum.inr a:Key)=Sum.inr b:=fun q=>e (Sum.inr.inj q);rw[decide_eq_false h,decide_eq_false e]
theorem Nm(a:Int)(b:Str):decide ((Sum.inl a:Key)=Sum.inr b)=false:=decide_eq_false (fun q=>nomatch q)
theorem Nu(a:Str)(b:Int):decide ((Sum.inr a:Key)=Sum.inl b)=false:=decide_eq_false (fun q=>nomatch q)
noncomputable def aN(prog:Program)(w:World):PySem.KeyKind prog w Key where
 is:=mO;hash:=aaz w;inj:=fun v a b ha hb=>by
  rcases aZ ha with⟨i,t,rfl,rfl⟩|⟨x,t,rfl,rfl⟩
  . rcases aZ hb with⟨j,u,rfl,e⟩|⟨y,u,rfl,e⟩;.injection e with e1 _;rw[e1]
    .exact nomatch e
  . rcases aZ hb with⟨j,u,rfl,e⟩|⟨y,u,rfl,e⟩;.exact nomatch e
    .injection e with e1 _;rw[e1]
 byValue:=fun k v h=>by rcases aZ h with⟨i,t,rfl,rfl⟩|⟨x,t,rfl,rfl⟩<;>rfl
 pyHash:=fun hv h=>by
  rcases aZ hv with⟨i,t,rfl,rfl⟩|⟨x,t,rfl,rfl⟩;.exact wpAny_pyHash_int h
  .exact wpAny_pyHash_str h
 eqBool:=fun hu hv h=>by
  rcases aZ hu with⟨i,t,rfl,rfl⟩|⟨x,t,rfl,rfl⟩
  . rcases aZ hv with⟨j,u,rfl,rfl⟩|⟨y,u,rfl,rfl⟩;.rw[QM]at h;exact wpAny_eqBool_int h
    .rw[Nm]at h;exact int_str i t y u _ _ _ _ h
  . rcases aZ hv with⟨j,u,rfl,rfl⟩|⟨y,u,rfl,rfl⟩;.rw[Nu]at h;exact str_int x t j u _ _ _ _ h
    .rw[QQ]at h;exact wpAny_eqBool_str h
 «strs»:=fun k x t v h=>by
  rcases aZ h with⟨i,u,rfl,e⟩|⟨y,u,rfl,e⟩;.exact nomatch e
  .injection e with e1 _;subst e1;cases v<;>rfl
theorem wg(prog:Program)(w:World)(i:Int)(t:Tok):(aN prog w).is (.inl i) (.int i t)=true:=Bg i t
theorem vB(prog:Program)(w:World)(x:Str)(t:Tok):(aN prog w).is (.inr x) (.str x t)=true:=BZ x t
inductive V where|non|bl(b:Bool)|int(i:Int)|str(x:Str)|byt(b:Array UInt8)|flt(b:UInt64)|ref(a:Addr)|ty(n:String)deriving DecidableEq
def RelV:V->Value->Prop|.non,u=>u=Value.none|.bl b,u=>u=Value.bool b|.int i,u=>∃t,u=Value.int i t|.str x,u=>∃t,u=Value.str x t|.byt b,u=>∃t,u=Value.bytes b t|.flt b,u=>∃t,u=Value.float b t|.ref a,u=>u=Value.ref a|.ty n,u=>u=Value.type n
abbrev Vals:List V->List Value->Prop:=Paired RelV
theorem Vals.length{xs:List V}{us:List Value}(r:Vals xs us):xs.length=us.length:=Paired.length r
theorem Vals.get:∀{xs:List V}{us:List Value}{i:Nat}{x:V},Vals xs us->xs[i]?=some x->∃u,us[i]?=some u/\RelV x u|_,_,_,_,.nil,e=>by simp at e|_,_,0,_,.cons r _,e=>by simp at e;subst e;exact⟨_,rfl,r⟩|_,_,i+1,x,.cons _ t,e=>by obtain⟨u,h1,h2⟩:=Vals.get (i:=i) (x:=x) t (by simpa using e);exact⟨u,by simpa using h1,h2⟩
theorem Vals.set{x:V}{u:Value}(r:RelV x u):∀{xs:List V}{us:List Value}(i:Nat),Vals xs us->Vals (xs.set i x) (us.set i u)|_,_,_,.nil=>.nil|_,_,0,.cons _ t=>.cons r t|_,_,i+1,.cons q t=>.cons q (Vals.set r i t)
theorem Vals.append:∀{xs ys:List V}{us ws:List Value},Vals xs us->Vals ys ws->Vals (xs++ys) (us++ws)|_,_,_,_,.nil,s=>s|_,_,_,_,.cons r t,s=>.cons r (Vals.append t s)
theorem Vals.take:∀{xs:List V}{us:List Value}(n:Nat),Vals xs us->Vals (xs.take n) (us.take n)|_,_,0,_=>.nil|_,_,_+1,.nil=>.nil|_,_,n+1,.cons r t=>.cons r (Vals.take n t)
theorem Vals.drop:∀{xs:List V}{us:List Value}(n:Nat),Vals xs us->Vals (xs.drop n) (us.drop n)|_,_,0,r=>r|_,_,_+1,.nil=>.nil|_,_,n+1,.cons _ t=>Vals.drop n t
def m6:Option V->Option Value->Prop|some v,some u=>RelV v u|none,none=>True|_,_=>False
def KV{κ:Type}:List (κ×V)->List (κ×Value)->Prop:=Paired fun(p:κ×V)(q:κ×Value)=>p.1=q.1/\RelV p.2 q.2
noncomputable def kV:Key->V|.inl i=>.int i|.inr x=>.str x
inductive HO where/--a list -/|lst(xs:List V)/--a tuple (never changes) -/|tup(xs:List V)/--a dict whose keys are ints and texts;one whose keys are tuples of ints and texts (the empty one is both) -/|dK(kvs:List (Key×V))|dT(kvs:List (List Key×V))/--a set of ints: its members,its size -/|set(S:Int->Bool)(n:Nat)/--an instance of the class at C,its dict at dx,its attributes -/|ins(C dx:Addr)(fs:List (Str×V))/--the dict of the instance at x -/|own(x:Addr)/--the dict of an exception -/|xd(fs:List (Str×V))/--a bound method,f of x -/|met(f x:Addr)/--a range object lo,lo+1,.. below hi -/|xj(lo hi:Int)/--a thing that is known to the object (the script;a dict while a loop walks it): read,never written while it is so -/|cC(o:Obj)(u:HO)/--a code object's table -/|R3(ps:Array Value)/--any other thing,by what is true of its one object (a def of one's own: SetO a S n:=HO.ext fun h=>..) -/|ext(φ:Heap->Prop)
noncomputable abbrev Hp:=Addr->Option HO
noncomputable def upd(H:Hp)(a:Addr)(o:HO):Hp:=fun b=>if b=a then some o else H b
theorem aH{H:Hp}{a:Addr}{o:HO}:upd H a o a=some o:=by unfold upd;rw[if_pos rfl]
theorem ao{H:Hp}{a b:Addr}{o:HO}(h:b≠a):upd H a o b=H b:=by unfold upd;rw[if_neg h]
theorem Am{H:Hp}{a:Addr}{o u:HO}:upd (upd H a o) a u=upd H a u:=by funext b;unfold upd;split<;>rfl
theorem WQ{H:Hp}{a b:Addr}{o u:HO}(h:H a=some o)(h':H b=some u)(d:o≠u):a≠b:=by intro e;subst e;rw[h]at h';exact d (Option.some.inj h')
theorem eG{H:Hp}{a b:Addr}{o:HO}(h:H a=some o)(h':H b=none):a≠b:=by intro e;subst e;rw[h]at h';cases h'
section
variable(P:Program)(w:World)
def bh(H:Hp)(h:Heap)(a:Addr):HO->Prop|.lst xs=>xs.length<=sizeLine/\∃(its:List Value)(n:Nat),Vals xs its/\h.get? a=some {cls:=.type "list",data:=.seq its.toArray n}|.tup xs=>xs.length<=sizeLine/\∃its:List Value,Vals xs its/\IsTup h a its.toArray|.dK kvs=>kvs.length<=sizeLine/\(a==sysModules)=false/\∃vs,KV kvs vs/\h.DictOf (aN P w) a vs|.dT kvs=>kvs.length<=sizeLine/\(a==sysModules)=false/\∃xs:List (List Key×Addr×Value),Paired (fun(p:List Key×V)(q:List Key×Addr×Value)=>p.1=q.1/\H q.2.1=some (.tup (p.1.map kV))/\RelV p.2 q.2.2) kvs xs/\∃o es ep,h.get? a=some o/\o.ExactDict/\o.data=.dict es ep/\es.toList=xs.map (entryOfKey (tupleKind (aN P w)))/\(xs.map (·.1)).Nodup|.set S n=>h.SetOf (intKind P w) a S n|.ins C dx fs=>H dx=some (.own a)/\fs.length<=1000/\dx≠a/\h.get? a=some (PySem.W.instObj C dx)/\∃mA,h.Ns1 dx mA/\(∀f,m6 (fs.lookup f) (mA f))/\PySem.Within mA (fs.map (·.1))|.own _=>∃o,h.get? a=some o|.xd fs=>∃mA,h.Ns1 a mA/\∀f,m6 (fs.lookup f) (mA f)|.xj lo hi=>∃t u v,h.get? a=some {cls:=.type "range",data:=.fields #[.int lo t,.int hi u,.int 1 v]}|.cC o u=>h.get? a=some o/\bh H h a u|.R3 ps=>h.get? a=some {cls:=.none,data:=.fields ps}|.met f x=>h.get? a=some (methodObj (.ref f) (.ref x))|.ext φ=>φ h/\(∃o,h.get? a=some o)/\∀h1 h2:Heap,φ h1->(∀o,h1.get? a=some o->h2.get? a=some o)->φ h2
def lG(H:Hp)(h:Heap):Prop:=∀a o,H a=some o->bh P w H h a o
end
section
variable{P:Program}{w:World}{H H':Hp}{h h':Heap}{a:Addr}{o:HO}
theorem bh.lt(x:bh P w H h a o):a<h.objs.size:=by cases o with|lst xs=>obtain⟨_,_,_,_,e⟩:=x;exact lt_size e|tup xs=>obtain⟨_,_,_,p⟩:=x;exact p.lt|dK kvs=>obtain⟨_,_,_,_,o,_,_,e,_⟩:=x;exact lt_size e|dT kvs=>obtain⟨_,_,_,_,o,_,_,e,_⟩:=x;exact lt_size e|set S n=>obtain⟨o,_,_,_,e,_⟩:=x;exact lt_size e|ins C dx fs=>obtain⟨_,_,_,e,_⟩:=x;exact lt_size e|own y=>obtain⟨_,e⟩:=x;exact lt_size e|xd fs=>obtain⟨_,⟨_,_,_,e,_⟩,_⟩:=x;exact lt_size e|xj lo hi=>obtain⟨_,_,_,e⟩:=x;exact lt_size e|cC ob u=>obtain⟨e,_⟩:=x;exact lt_size e|R3 ps=>exact lt_size (show h.get? a=some _ from x)|met f y=>exact lt_size (show h.get? a=some _ from x)|ext φ=>obtain⟨_,⟨_,e⟩,_⟩:=x;exact lt_size e
theorem Paired.Q9{α β:Type}{F G:α->β->Prop}:∀{l₁:List α}{l₂:List β},Paired F l₁ l₂->(∀a b,F a b->G a b)->Paired G l₁ l₂|_,_,.nil,_=>.nil|_,_,.cons r t,f=>.cons (f _ _ r) (Paired.Q9 t f)
theorem bh.stay(x:bh P w H h a o)(k:∀b u,(b=a\/H b=some (.own a))->h.get? b=some u->h'.get? b=some u)(ho:∀b,H b=some (.own a)->H' b=some (.own a))(ht:∀b xs,H b=some (.tup xs)->H' b=some (.tup xs)):bh P w H' h' a o:=by induction o with|lst xs=>obtain⟨z,its,n,r,e⟩:=x;exact⟨z,its,n,r,k _ _ (.inl rfl) e⟩|tup xs=>obtain⟨z,its,r,ob,e,c⟩:=x;exact⟨z,its,r,ob,k _ _ (.inl rfl) e,c⟩|dK kvs=>obtain⟨z,y,vs,r,ob,es,ep,e,c⟩:=x;exact⟨z,y,vs,r,ob,es,ep,k _ _ (.inl rfl) e,c⟩|dT kvs=>obtain⟨z,y,xs,r,ob,es,ep,e,c⟩:=x;exact⟨z,y,xs,Paired.Q9 r fun p q z=>⟨z.1,ht _ _ z.2.1,z.2.2⟩,ob,es,ep,k _ _ (.inl rfl) e,c⟩|set S n=>obtain⟨ob,es,ep,t,e,c⟩:=x;exact⟨ob,es,ep,t,k _ _ (.inl rfl) e,c⟩|ins C dx fs=>obtain⟨d,z,ne,e,mA,⟨od,es,ep,e2,c⟩,r⟩:=x;exact⟨ho _ d,z,ne,k _ _ (.inl rfl) e,mA,⟨od,es,ep,k _ _ (.inr d) e2,c⟩,r⟩|own y=>obtain⟨ob,e⟩:=x;exact⟨ob,k _ _ (.inl rfl) e⟩|xd fs=>obtain⟨mA,⟨od,es,ep,e,c⟩,r⟩:=x;exact⟨mA,⟨od,es,ep,k _ _ (.inl rfl) e,c⟩,r⟩|xj lo hi=>obtain⟨t,u,v,e⟩:=x;exact⟨t,u,v,k _ _ (.inl rfl) e⟩|cC ob u ih=>obtain⟨e,q⟩:=x;exact⟨k _ _ (.inl rfl) e,ih q⟩|R3 ps=>have e:h.get? a=some {cls:=.none,data:=.fields ps}:=x;show h'.get? a=some {cls:=.none,data:=.fields ps};exact k a _ (.inl rfl) e|met f y=>have e:h.get? a=some (methodObj (.ref f) (.ref y)):=x;show h'.get? a=some (methodObj (.ref f) (.ref y));exact k a _ (.inl rfl) e|ext φ=>obtain⟨p,⟨o,e⟩,st⟩:=x;exact⟨st _ _ p fun o q=>k _ _ (.inl rfl) q,⟨o,k _ _ (.inl rfl) e⟩,st⟩
theorem lG.lt(x:lG P w H h)(e:H a=some o):a<h.objs.size:=(x a o e).lt
theorem lG.fresh(x:lG P w H h)(e:h.objs.size<=a):H a=none:=by cases q:H a with|none=>rfl|some u=>exact absurd (lt_of_lt_of_le (x.lt q) e) (lt_irrefl _)
theorem lG.kept(x:lG P w H h)(k:∀b u,h.get? b=some u->h'.get? b=some u):lG P w H h':=fun a o e=>(x a o e).stay (fun b u _ q=>k b u q) (fun _ q=>q) fun _ _ q=>q
theorem lG.laid(x:lG P w H h)(k:∀b u,h.get? b=some u->h'.get? b=some u)(hp:h.objs.size<=a)(new:bh P w (upd H a o) h' a o):lG P w (upd H a o) h':=fun b u e=>by
 have hn:=x.fresh hp;by_cases hb:b=a;.subst hb;rw[aH]at e;cases e;exact new
 .rw[ao hb]at e;exact(x b u e).stay (fun c v _ q=>k c v q) (fun c q=>by rw[ao (eG q hn)];exact q) fun c xs q=>by rw[ao (eG q hn)];exact q
end
def Rd(H:Hp)(a:Addr)(u:HO):Prop:=H a=some u\/∃o,H a=some (.cC o u)
theorem Rd.ok{P:Program}{w:World}{H:Hp}{h:Heap}{a:Addr}{u:HO}(r:Rd H a u)(x:lG P w H h):bh P w H h a u:=by
 rcases r with r|⟨o,r⟩;.exact x a u r
 .obtain⟨_,q⟩:=x a _ r;exact q
def VJ:Option HO->Prop|some (.lst _)=>True|some (.dK _)=>True|some (.dT _)=>True|some (.set _ _)=>True|some (.ins _ _ _)=>True|some (.ext _)=>True|_=>False
section
variable{P:Program}{w:World}{H:Hp}{h h':Heap}{x e:Addr}{o':HO}
theorem lG.write(ok:lG P w H h)(mu:VJ (H x))(he:e=x\/H e=some (.own x))(k:∀b u,b≠e->h.get? b=some u->h'.get? b=some u)(heo:∃u,h'.get? e=some u)(new:bh P w (upd H x o') h' x o'):lG P w (upd H x o') h':=fun b u q=>by
 have Xp:∀c y,H c=some (.own y)->c≠x:=fun c y r z=>by subst z;rw[r]at mu;exact mu
 have acq:∀c xs,H c=some (.tup xs)->c≠x:=fun c xs r z=>by subst z;rw[r]at mu;exact mu
 by_cases hb:b=x;.subst hb;rw[aH]at q;cases q;exact new
 . rw[ao hb]at q;by_cases hbe:b=e
   . have q':H b=some (.own x):=by
      rcases he with z|z;.exact absurd (hbe.trans z) hb
      .rw[hbe];exact z
     rw[q]at q';cases q';obtain⟨v,hv⟩:=heo;exact⟨v,by rw[hbe];exact hv⟩
   . refine(ok b u q).stay (fun c v hc r=>k c v ?_ r) (fun c r=>by rw[ao (Xp c b r)];exact r) fun c xs r=>by rw[ao (acq c xs r)];exact r
     rcases hc with rfl|hc;.exact hbe
     . rintro rfl;rcases he with z|z;.exact Xp c b hc z
       .rw[hc]at z;cases z;exact hb rfl
end
structure Un(fs ex:List Addr)(H H':Hp)(h h':Heap):Prop where
 keep:∀b o,h.get? b=some o->H b=none->b∉fs->b∉ex->h'.get? b=some o
 slot:∀b o,h.get? b=some o->H b=none->b∈fs->b∉ex->∃sl,h'.get? b=some {o with slots:=sl}free:∀b o,h.get? b=some o->H b=none->b∉ex->H' b=none
 there:∀b o,h.get? b=some o->b∉ex->∃o',h'.get? b=some o'
 tups:∀b xs,H b=some (.tup xs)->H' b=some (.tup xs)uC:∀b o u,H b=some (.cC o u)->H' b=some (.cC o u)wQ:∀b ps,H b=some (.R3 ps)->∃more,H' b=some (.R3 (ps++more))
section
variable{fs fs' ex ex':List Addr}{H H1 H2:Hp}{h h1 h2 h':Heap}{a x e:Addr}{o:HO}
theorem Un.any(u:Un fs ex H H1 h h1){b:Addr}{ob:Obj}(q:h.get? b=some ob)(n:H b=none)(hx:b∉ex):∃sl,h1.get? b=some {ob with slots:=sl}:=by
 by_cases hb:b∈fs;.exact u.slot b ob q n hb hx
 .exact⟨ob.slots,u.keep b ob q n hb hx⟩
theorem Un.kept(k:∀b u,h.get? b=some u->h'.get? b=some u):Un fs ex H H h h':=⟨fun b ob q _ _ _=>k b ob q,fun b ob q _ _ _=>⟨ob.slots,k b ob q⟩,fun _ _ _ n _=>n,fun b ob q _=>⟨ob,k b ob q⟩,fun _ _ q=>q,fun _ _ _ q=>q,fun _ ps q=>⟨#[],by rw[q];simp⟩⟩
theorem Un.refl:Un fs ex H H h h:=Un.kept fun _ _ q=>q
theorem Un.laid(k:∀b u,h.get? b=some u->h'.get? b=some u)(hp:h.objs.size<=a)(hn:H a=none):Un fs ex H (upd H a o) h h' where
 keep:=fun b u q _ _ _=>k b u q;slot:=fun b u q _ _ _=>⟨u.slots,k b u q⟩;free:=fun b u q n _=>by rw[ao (ne_of_lt (lt_of_lt_of_le (lt_size q) hp))];exact n
 there:=fun b u q _=>⟨u,k b u q⟩;tups:=fun b xs q=>by rw[ao (eG q hn)];exact q
 uC:=fun b u xs q=>by rw[ao (eG q hn)];exact q
 wQ:=fun b ps q=>⟨#[],by rw[ao (eG q hn),q];simp⟩
theorem Un.write(mu:VJ (H x))(he:e=x\/H e=some (.own x))(k:∀b u,b≠e->h.get? b=some u->h'.get? b=some u)(heo:∃u,h'.get? e=some u):Un fs ex H (upd H x o) h h':=by
 have hx:∀b,H b=none->b≠x:=fun b n z=>by subst z;rw[n]at mu;exact mu
 have hb:∀b,H b=none->b≠e:=fun b n z=>by
  subst z;rcases he with r|r;.exact hx b n r
  .rw[n]at r;cases r
 have hm:∀b u,H b=some u->¬ VJ (some u)->b≠x:=fun b u q nm z=>by subst z;rw[q]at mu;exact nm mu
 refine⟨fun b u q n _ _=>k b u (hb b n) q,fun b u q n _ _=>⟨u.slots,k b u (hb b n) q⟩,fun b u q n _=>by rw[ao (hx b n)];exact n,fun b u q _=>?_,fun b xs q=>by rw[ao (hm b _ q fun z=>z)];exact q,fun b u xs q=>by rw[ao (hm b _ q fun z=>z)];exact q,fun b ps q=>⟨#[],by rw[ao (hm b _ q fun z=>z),q];simp⟩⟩;by_cases hbe:b=e;.subst hbe;exact heo
 .exact⟨u,k b u hbe q⟩
end
noncomputable def YH(h:Heap)(H:Hp):List Addr:=(List.range h.objs.size).filter fun a=>(H a).isSome
noncomputable def tY(h:Heap)(H:Hp):Heap:=PySem.W.hideAll h (YH h H)
theorem By(h:Heap)(H:Hp):(tY h H).objs.size=h.objs.size:=PySem.W.hideAll_size _ _
theorem Ga{h:Heap}{H:Hp}{b:Addr}{o:Obj}(e:h.get? b=some o)(n:H b=none):(tY h H).get? b=some o:=PySem.W.hideAll_get _ e fun hm=>by have q:(H b).isSome=true:=(mem_filter.mp hm).2;rw[n]at q;simp at q
theorem Jm{h:Heap}{H:Hp}{b:Addr}{o:Obj}(e:(tY h H).get? b=some o):h.get? b=some o/\H b=none:=by have e':h.get? b=some o:=PySem.W.of_hideAll (YH h H) e;refine⟨e',?_⟩;cases q:H b with|none=>rfl|some x=>have hm:b∈YH h H:=mem_filter.mpr ⟨mem_range.mpr (lt_size e'),by simp[q]⟩;have z:(tY h H).get? b=none:=PySem.W.hideAll_none (YH h H) hm;rw[z]at e;cases e
structure Mod(K:PySem.W.Frag)(mg:Str->Option Value)(base:Heap):Prop where
 ql:K.In base
 glob:base.Ns mainGlobals mg
 blt:∃mb,base.Ns builtinsNs mb/\∀x:Str,x≠"__name__"->mb x=bootBuiltins x
 nolimit:base.NoLimit
structure Cx where
 prog:Program
 w:World
 K:PySem.W.Frag
 mg:Str->Option Value
 base:Heap
 A:Around
 N:List Str
 s₀:Shared
 H₀:Hp
 env:Env
 outer:List Env
 stack:List Env
 ex:List Addr
 fn:Str->Bool
 calm:Bool
 pn:List (Addr×Obj)xe:Value->Shared->Prop
noncomputable def frs(l:List Env):List Addr:=l.filterMap (·.frame)
noncomputable abbrev Cx.fs(X:Cx):List Addr:=frs X.outer
def uY(sc:Scope)(x:Str):Prop:=sc.names.lookup x=some .local\/sc.names.lookup x=some .cell\/sc.names.lookup x=some .free
def Loc(sc:Scope)(x:Str):Prop:=sc.names.lookup x=some .local\/sc.names.lookup x=some .cell
def Look(env:Env)(h:Heap)(m:Str->Option Value)(x:Str)(u:Value):Prop:=(env.kindOf x=some .local/\m x=some u)\/((env.kindOf x=some .cell\/env.kindOf x=some .free)/\∃c,env.cells.lookup x=some c/\h.IsCell c (some u))
structure Cx.Ok(X:Cx):Prop where
 mod:Mod X.K X.mg X.base
 kind:X.env.scope.kind=.function
 glob:X.env.globals=mainGlobals
 blt:X.env.builtins=builtinsNs
 above:X.s₀.heap.objs.size<=X.env.locals
 inj:∀x y c,X.env.cells.lookup x=some c->X.env.cells.lookup y=some c->x=y
 has:∀x,(X.env.kindOf x=some .cell\/X.env.kindOf x=some .free)->∃c,X.env.cells.lookup x=some c
 cab:∀x c,X.fn x=true->X.env.cells.lookup x=some c->X.s₀.heap.objs.size<=c
 hd:X.calm=true->X.A.handled=none
 frames:X.A.frames=some X.stack
 ZZ:X.stack=X.outer\/(X.stack=X.env::X.outer/\X.env.frame=some X.env.locals)exf:∀b∈X.ex,b≠X.env.locals/\∀x c,X.env.cells.lookup x=some c->c≠b
 bs:∀b o,X.base.get? b=some o->X.s₀.heap.get? b=some o/\X.H₀ b=none
 M3:X.base.objs.size<=X.s₀.heap.objs.size
 Hv:∀b o,X.base.get? b=some o->b∉X.ex
 K8:∀b∈X.ex,b∉X.fs
 oZ:X.s₀.heap.FunFrames X.base X.outer
 Uy:∀b∈X.fs,X.H₀ b=none
structure Inv(X:Cx)(pins:List (Addr×Obj))(σ:List (Option V))(H:Hp)(s:Shared):Prop where
 ok:X.Ok
 os:s.os=X.s₀.os
 bare:AllBare s.gens
 base:Un X.fs X.ex X.H₀ H X.s₀.heap s.heap
 loc:∃m,s.heap.Ns X.env.locals m/\∀(i:Nat)(x:Str)(v:V),X.N[i]?=some x->σ[i]?=some (some v)->uY X.env.scope x->∃u,RelV v u/\Look X.env s.heap m x u
 cell:∀x c,X.env.cells.lookup x=some c->∃v,s.heap.IsCell c v
 free:H X.env.locals=none
 iW:∀x c,X.env.cells.lookup x=some c->H c=none
 pin:∀p∈X.pn++pins,s.heap.get? p.1=some p.2/\H p.1=none/\p.1≠X.env.locals/\p.1∉X.fs/\∀v,p.2.data≠.cell v
 hok:lG X.prog X.w H s.heap
 len:σ.length=X.N.length
section
variable{X:Cx}{pins:List (Addr×Obj)}{σ:List (Option V)}{H H':Hp}{s:Shared}{h':Heap}
theorem Cx.Ok.aaX(ok:X.Ok){b:Addr}{o:Obj}(e:X.base.get? b=some o):b∉X.fs:=fun hb=>by have:=(ok.oZ.mem hb).1;rw[e]at this;cases this
theorem Inv.bs(I:Inv X pins σ H s):∀b o,X.base.get? b=some o->s.heap.get? b=some o/\H b=none:=fun b o e=>⟨I.base.keep b o (I.ok.bs b o e).1 (I.ok.bs b o e).2 (I.ok.aaX e) (I.ok.Hv b o e),I.base.free b o (I.ok.bs b o e).1 (I.ok.bs b o e).2 (I.ok.Hv b o e)⟩
theorem Inv.bk(I:Inv X pins σ H s):∀b o,X.base.get? b=some o->s.heap.get? b=some o:=fun b o e=>(I.bs b o e).1
theorem Inv.mod(I:Inv X pins σ H s):Mod X.K X.mg X.base:=I.ok.mod
theorem Inv.O8(I:Inv X pins σ H s):X.K.In s.heap:=I.ok.mod.ql.keeps I.bk
theorem Inv.lt(I:Inv X pins σ H s):X.env.locals<s.heap.objs.size:=let⟨_,hn,_⟩:=I.loc;hn.lt
theorem Inv.sz(I:Inv X pins σ H s):X.s₀.heap.objs.size<=s.heap.objs.size:=le_trans I.ok.above (le_of_lt I.lt)
theorem Inv.abT(I:Inv X pins σ H s){a:Addr}(h:s.heap.objs.size<=a):a∉X.fs:=fun hb=>by obtain⟨_,o,ho,_⟩:=I.ok.oZ.mem hb;exact absurd (lt_of_lt_of_le (lt_size ho) (le_trans I.sz h)) (lt_irrefl _)
theorem Inv.RW(I:Inv X pins σ H s):∀x c,X.env.cells.lookup x=some c->c≠X.env.locals:=fun x c e z=>by obtain⟨v,o,ho,hd⟩:=I.cell x c e;obtain⟨m,⟨o',es,ep,ho',hd',_⟩,_⟩:=I.loc;rw[z,ho']at ho;cases ho;rw[hd']at hd;cases hd
theorem Inv.oZ(I:Inv X pins σ H s):s.heap.FunFrames X.base X.outer:=by
 have all:∀(l:List Env),(∀b∈frs l,b∈X.fs)->X.s₀.heap.FunFrames X.base l->s.heap.FunFrames X.base l:=by intro l;induction l with|nil=>intro _ _;trivial|cons env r ih=>intro hs hl;obtain⟨hk,⟨L,o,hf,hn,ho,hd⟩,hr⟩:=hl;have hL:L∈X.fs:=hs L (by unfold frs;rw[filterMap_cons,hf];exact mem_cons_self);obtain⟨sl,e⟩:=I.base.slot L o ho (I.ok.Uy L hL) hL fun z=>I.ok.K8 L z hL;exact⟨hk,⟨L,_,hf,hn,e,hd⟩,ih (fun b hb=>hs b (by unfold frs;rw[filterMap_cons,hf];exact mem_cons_of_mem _ hb)) hr⟩
 exact all X.outer (fun _ hb=>hb) I.ok.oZ
theorem Inv.stack(I:Inv X pins σ H s):s.heap.FunFrames X.base X.stack:=by
 rcases I.ok.ZZ with e|⟨e,hf⟩;.rw[e];exact I.oZ
 .rw[e];obtain⟨m,hn,_⟩:=I.loc;refine .cons (by rw[I.ok.kind];decide) hf hn ?_ I.oZ;exact Heap.get?_none_of_le (le_trans I.ok.M3 I.ok.above)
theorem Inv.uz(I:Inv X pins σ H s):∀b∈frs X.stack,b∈X.env.locals::X.fs:=fun b hb=>by
 rcases I.ok.ZZ with e|⟨e,hf⟩;.rw[e]at hb;exact mem_cons_of_mem _ hb
 .rw[e]at hb;unfold frs at hb;rw[filterMap_cons,hf]at hb;exact hb
theorem Inv.Az(I:Inv X pins σ H s):∀b∈frs X.stack,H b=none:=fun b hb=>by
 rcases mem_cons.mp (I.uz b hb)with e|hb;.rw[e];exact I.free
 .obtain⟨_,o,ho,_⟩:=I.ok.oZ.mem hb;exact I.base.free b o ho (I.ok.Uy b hb) fun z=>I.ok.K8 b z hb
theorem Inv.step{g':Array GenState}{t':Nat}{d':Drawn}{ch:List Addr}(I:Inv X pins σ H s)(hch:∀b∈ch,(b∈X.ex\/X.s₀.heap.objs.size<=b)/\b≠X.env.locals/\(∀x c,X.env.cells.lookup x=some c->c≠b)/\∀p∈X.pn++pins,p.1≠b)(keep:∀b o,b≠X.env.locals->b∉X.fs->b∉ch->s.heap.get? b=some o->H b=none->h'.get? b=some o)(slot:∀b o,b≠X.env.locals->b∈X.fs->b∉ch->s.heap.get? b=some o->H b=none->∃sl,h'.get? b=some {o with slots:=sl})(free:∀b o,b∉ch->s.heap.get? b=some o->H b=none->H' b=none)(there:∀b o,b∉ch->s.heap.get? b=some o->∃o',h'.get? b=some o')(tups:∀b xs,H b=some (.tup xs)->H' b=some (.tup xs))(uC:∀b o u,H b=some (.cC o u)->H' b=some (.cC o u))(wQ:∀b ps,H b=some (.R3 ps)->∃more,H' b=some (.R3 (ps++more)))(ns:∀m,s.heap.Ns X.env.locals m->h'.Ns X.env.locals m)(hok:lG X.prog X.w H' h')(hg:AllBare g'):Inv X pins σ H' {s with heap:=h',gens:=g',drawn:=d',toks:=t'}:=by
 have neL:∀b o,X.s₀.heap.get? b=some o->b≠X.env.locals:=fun b o e=>ne_of_lt (lt_of_lt_of_le (lt_size e) I.ok.above);have Z0:∀b o,X.s₀.heap.get? b=some o->b∉X.ex->b∉ch:=fun b o e hx hb=>by
  rcases(hch b hb).1 with z|z;.exact hx z
  .exact absurd (lt_of_lt_of_le (lt_size e) z) (lt_irrefl _)
 have cellK:∀x c,X.env.cells.lookup x=some c->∀v,s.heap.IsCell c v->h'.IsCell c v:=fun x c e v⟨o,ho,hd⟩=>by
  have Xq:c∉ch:=fun z=>(hch c z).2.2.1 x c e rfl;by_cases hc:c∈X.fs;.obtain⟨sl,q⟩:=slot c o (I.RW x c e) hc Xq ho (I.iW x c e);exact⟨_,q,hd⟩
  .exact⟨o,keep c o (I.RW x c e) hc Xq ho (I.iW x c e),hd⟩
 refine⟨I.ok,I.os,hg,⟨fun b o e n hb hx=>?_,fun b o e n hb hx=>?_,fun b o e n hx=>?_,fun b o e hx=>?_,fun b xs e=>tups b xs (I.base.tups b xs e),fun b o xs e=>uC b o xs (I.base.uC b o xs e),fun b ps e=>?_⟩,?_,fun x c e=>?_,?_,fun x c e=>?_,fun p hp=>?_,hok,I.len⟩;.exact keep b o (neL b o e) hb (Z0 b o e hx) (I.base.keep b o e n hb hx) (I.base.free b o e n hx)
 .obtain⟨sl,e1⟩:=I.base.slot b o e n hb hx;obtain⟨sl',e2⟩:=slot b _ (neL b o e) hb (Z0 b o e hx) e1 (I.base.free b o e n hx);exact⟨sl',e2⟩
 .obtain⟨o',e1⟩:=I.base.there b o e hx;exact free b o' (Z0 b o e hx) e1 (I.base.free b o e n hx)
 .obtain⟨o',e1⟩:=I.base.there b o e hx;exact there b o' (Z0 b o e hx) e1
 .obtain⟨m1,e1⟩:=I.base.wQ b ps e;obtain⟨m2,e2⟩:=wQ b _ e1;exact⟨m1++m2,by rw[e2,Array.append_assoc]⟩
 . obtain⟨m,hn,hl⟩:=I.loc;refine⟨m,ns m hn,fun i x v e1 e2 e3=>?_⟩;obtain⟨u,r,l⟩:=hl i x v e1 e2 e3;refine⟨u,r,?_⟩;rcases l with l|⟨k,c,e,z⟩;.exact .inl l
   .exact .inr ⟨k,c,e,cellK x c e _ z⟩
 .obtain⟨v,z⟩:=I.cell x c e;exact⟨v,cellK x c e v z⟩
 .obtain⟨m,⟨o,_,_,ho,_⟩,_⟩:=I.loc;exact free _ o (fun z=>(hch _ z).2.1 rfl) ho I.free
 .obtain⟨v,o,ho,hd⟩:=I.cell x c e;exact free c o (fun z=>(hch c z).2.2.1 x c e rfl) ho (I.iW x c e)
 .obtain⟨e,n,ne,nf,d⟩:=I.pin p hp;have Xq:p.1∉ch:=fun z=>(hch p.1 z).2.2.2 p hp rfl;exact⟨keep p.1 p.2 ne nf Xq e n,free p.1 p.2 Xq e n,ne,nf,d⟩
theorem Inv.un{t':Nat}(I:Inv X pins σ H s)(u:Un X.fs [] H H' s.heap h')(hok:lG X.prog X.w H' h'):Inv X pins σ H' {s with heap:=h',toks:=t'}:=by obtain⟨m,⟨o,es,ep,ho,r⟩,_⟩:=id I.loc;obtain⟨sl,hL⟩:=u.any ho I.free (by simp);exact I.step (g':=s.gens) (d':=s.drawn) (ch:=[]) (fun _ z=>nomatch z) (fun b o _ hb _ e n=>u.keep b o e n hb (by simp)) (fun b o _ hb _ e n=>u.slot b o e n hb (by simp)) (fun b o _ e n=>u.free b o e n (by simp)) (fun b o _ e=>u.there b o e (by simp)) u.tups u.uC u.wQ (fun m' hm=>by obtain⟨o',es',ep',ho',r'⟩:=hm;rw[ho]at ho';cases ho';exact⟨_,es',ep',hL,r'⟩) hok I.bare
theorem Inv.call{g':Array GenState}{t':Nat}{d':Drawn}{ch:List Addr}(I:Inv X pins σ H s)(u:Un (frs X.stack) ch H H' s.heap h')(hok:lG X.prog X.w H' h')(hg:AllBare g')(hch:∀b∈ch,(b∈X.ex\/X.s₀.heap.objs.size<=b)/\b≠X.env.locals/\(∀x c,X.env.cells.lookup x=some c->c≠b)/\∀p∈X.pn++pins,p.1≠b):Inv X pins σ H' {s with heap:=h',gens:=g',drawn:=d',toks:=t'}:=by obtain⟨m,⟨o,es,ep,ho,r⟩,_⟩:=id I.loc;obtain⟨sl,hL⟩:=u.any ho I.free fun z=>(hch _ z).2.1 rfl;exact I.step (ch:=ch) hch (fun b o hL hb hc e n=>u.keep b o e n (fun z=>(mem_cons.mp (I.uz b z)).elim hL hb) hc) (fun b o _ _ hc e n=>u.any e n hc) (fun b o hc e n=>u.free b o e n hc) (fun b o hc e=>u.there b o e hc) u.tups u.uC u.wQ (fun m' hm=>by obtain⟨o',es',ep',ho',r'⟩:=hm;rw[ho]at ho';cases ho';exact⟨_,es',ep',hL,r'⟩) hok hg
theorem Inv.turned{t':Nat}{it:Addr}(I:Inv X pins σ H s)(k:∀b o,b≠it->s.heap.get? b=some o->h'.get? b=some o)(hn:H it=none)(hL:it≠X.env.locals)(h1:it∈X.ex\/X.s₀.heap.objs.size<=it)(h2:∀x c,X.env.cells.lookup x=some c->c≠it)(h3:∀p∈X.pn++pins,p.1≠it):Inv X pins σ H {s with heap:=h',toks:=t'}:=by
 have nit:∀b u,H b=some u->b≠it:=fun b u e z=>by rw[z,hn]at e;cases e
 refine I.step (g':=s.gens) (d':=s.drawn) (ch:=[it]) (fun b hb=>?_) (fun b o _ _ hc e _=>k b o (fun z=>hc (by simp[z])) e) (fun b o _ _ hc e _=>⟨o.slots,k b o (fun z=>hc (by simp[z])) e⟩) (fun _ _ _ _ n=>n) (fun b o hc e=>⟨o,k b o (fun z=>hc (by simp[z])) e⟩) (fun _ _ e=>e) (fun _ _ _ e=>e) (fun b ps e=>⟨#[],by rw[e];simp⟩) (fun m hm=>?_) (fun b u e=>?_) I.bare
 . have e:b=it:=by simpa using hb
   subst e;exact⟨h1,hL,h2,h3⟩
 .obtain⟨o,es,ep,ho,r⟩:=hm;exact⟨o,es,ep,k _ o (Ne.symm hL) ho,r⟩
 . refine(I.hok b u e).stay (fun c v hc q=>k c v ?_ q) (fun _ q=>q) fun _ _ q=>q;rcases hc with z|z;.rw[z];exact nit b u e
   .exact nit c _ z
theorem Inv.tok(I:Inv X pins σ H s)(t:Nat):Inv X pins σ H {s with toks:=t}:=I.un (h':=s.heap) (t':=t) Un.refl I.hok
theorem Inv.kept{t':Nat}(I:Inv X pins σ H s)(k:∀b u,s.heap.get? b=some u->h'.get? b=some u):Inv X pins σ H {s with heap:=h',toks:=t'}:=I.un (Un.kept k) (I.hok.kept k)
theorem Inv.laid{a:Addr}{o:HO}{t':Nat}(I:Inv X pins σ H s)(k:∀b u,s.heap.get? b=some u->h'.get? b=some u)(hp:s.heap.objs.size<=a)(new:bh X.prog X.w (upd H a o) h' a o):Inv X pins σ (upd H a o) {s with heap:=h',toks:=t'}:=I.un (Un.laid k hp (I.hok.fresh hp)) (I.hok.laid k hp new)
theorem Inv.write{x e:Addr}{o:HO}{t':Nat}(I:Inv X pins σ H s)(mu:VJ (H x))(he:e=x\/H e=some (.own x))(k:∀b u,b≠e->s.heap.get? b=some u->h'.get? b=some u)(heo:∃u,h'.get? e=some u)(new:bh X.prog X.w (upd H x o) h' x o):Inv X pins σ (upd H x o) {s with heap:=h',toks:=t'}:=I.un (Un.write mu he k heo) (I.hok.write mu he k heo new)
theorem Inv.Ay{M4:List (Addr×Obj)}(I:Inv X pins σ H s)(h:∀p∈M4,s.heap.get? p.1=some p.2/\H p.1=none/\p.1≠X.env.locals/\p.1∉X.fs/\∀v,p.2.data≠.cell v):Inv X M4 σ H s:=⟨I.ok,I.os,I.bare,I.base,I.loc,I.cell,I.free,I.iW,fun p hp=>(mem_append.mp hp).elim (fun z=>I.pin p (List.mem_append_left _ z)) (h p),I.hok,I.len⟩
theorem vO{N:List Str}(hN:N.Nodup){i j:Nat}{x:Str}(a:N[i]?=some x)(b:N[j]?=some x):i=j:=by obtain⟨h1,e1⟩:=List.getElem?_eq_some_iff.mp a;obtain⟨h2,e2⟩:=List.getElem?_eq_some_iff.mp b;exact(List.getElem_inj hN).mp (e1.trans e2.symm)
theorem qW{M:Model}{A:Around}{E:Value->Shared->Prop}{i:Nat}{x:Str}{v:V}{u:Value}{Q:Unit->Shared->Prop}(I:Inv X pins σ H s)(hN:X.N.Nodup)(hi:X.N[i]?=some x)(hx:Loc X.env.scope x)(r:RelV v u)(h:∀s',Inv X pins (σ.set i (some v)) H s'->(∃a,SameBut a s.heap s'.heap/\(a=X.env.locals\/X.env.cells.lookup x=some a))->Q () s')(hf:X.fn x=true\/X.env.scope.names.lookup x=some .local:=by first|exact .inl rfl|exact .inr rfl|assumption):wpAny M A (storeName X.env x u) Q E s:=by
 obtain⟨m,hn,hl⟩:=id I.loc;have hcls:(X.env.scope.kind==.class||(X.env.scope.kind==.module&&X.env.locals !=X.env.globals))=false:=by rw[I.ok.kind];rfl
 have hiσ:i<σ.length:=by rw[I.len];exact(List.getElem?_eq_some_iff.mp hi).1
 have RW:=I.RW;have tracked:∀{a:Addr}{h':Heap},(∃o,s.heap.get? a=some o/\H a=none)->SameBut a s.heap h'->lG X.prog X.w H h':=fun{a h'}ha hs b ob e=>by
  obtain⟨_,_,hfree⟩:=ha;refine(I.hok b ob e).stay (fun c w' hc q=>(hs.2 c ?_).trans q) (fun _ q=>q) fun _ _ q=>q;rintro rfl;rcases hc with rfl|hc;.rw[hfree]at e;cases e
  .rw[hfree]at hc;cases hc
 rcases hx with hk|hk
 . refine wpAny_storeName_local hk hn (fun h' hn' hs=>?_) hcls;obtain⟨oL,_,_,hoL,_⟩:=id hn;refine h _ ⟨I.ok,I.os,I.bare,⟨fun b o e n hb hx=>?_,fun b o e n hb hx=>?_,I.base.free,fun b o e hx=>?_,I.base.tups,I.base.uC,I.base.wQ⟩,⟨_,hn',fun j y v' e1 e2 e3=>?_⟩,fun y c e=>?_,I.free,I.iW,fun p hp=>?_,tracked ⟨oL,hoL,I.free⟩ hs,by simpa using I.len⟩ ⟨_,hs,.inl rfl⟩;.exact(hs.2 b (ne_of_lt (lt_of_lt_of_le (lt_size e) I.ok.above))).trans (I.base.keep b o e n hb hx)
   .obtain⟨sl,e1⟩:=I.base.slot b o e n hb hx;exact⟨sl,(hs.2 b (ne_of_lt (lt_of_lt_of_le (lt_size e) I.ok.above))).trans e1⟩
   .obtain⟨o',e1⟩:=I.base.there b o e hx;exact⟨o',(hs.2 b (ne_of_lt (lt_of_lt_of_le (lt_size e) I.ok.above))).trans e1⟩
   . by_cases hj:j=i;.subst hj;rw[hi]at e1;cases e1;rw[getElem?_set_self hiσ]at e2;cases e2;exact⟨u,r,.inl ⟨hk,by simp⟩⟩
     . rw[getElem?_set_ne (Ne.symm hj)]at e2;obtain⟨u',r',q⟩:=hl j y v' e1 e2 e3;refine⟨u',r',?_⟩;rcases q with⟨k,e⟩|⟨k,c,e,z⟩;.refine .inl ⟨k,?_⟩;have:y≠x:=fun e=>hj (vO hN e1 (e▸hi));simp[this,e]
       .exact .inr ⟨k,c,e,z.sameBut hs (RW y c e)⟩
   .obtain⟨w',z⟩:=I.cell y c e;exact⟨w',z.sameBut hs (RW y c e)⟩
   .obtain⟨e,n,ne,nf,d⟩:=I.pin p hp;exact⟨(hs.2 p.1 ne).trans e,n,ne,nf,d⟩
 . have hfn:X.fn x=true:=by
    rcases hf with z|z;.exact z
    .rw[z]at hk;cases hk
   obtain⟨c,hc⟩:=I.ok.has x (.inl hk);obtain⟨w',z⟩:=I.cell x c hc;refine wpAny_storeName_cell I.ok.kind hk hc z (fun h' hc' hs=>?_);obtain⟨oc,hoc,acr⟩:=id z;refine h {s with heap:=h'} ⟨I.ok,I.os,I.bare,⟨fun b o e n hb hx=>?_,fun b o e n hb hx=>?_,I.base.free,fun b o e hx=>?_,I.base.tups,I.base.uC,I.base.wQ⟩,⟨m,hn.sameBut hs (Ne.symm (RW x c hc)),fun j y v' e1 e2 e3=>?_⟩,fun y c' e=>?_,I.free,I.iW,fun p hp=>?_,tracked ⟨oc,hoc,I.iW x c hc⟩ hs,by simpa using I.len⟩ ⟨c,hs,.inr hc⟩;.exact(hs.2 b (ne_of_lt (lt_of_lt_of_le (lt_size e) (I.ok.cab x c hfn hc)))).trans (I.base.keep b o e n hb hx)
   .obtain⟨sl,e1⟩:=I.base.slot b o e n hb hx;exact⟨sl,(hs.2 b (ne_of_lt (lt_of_lt_of_le (lt_size e) (I.ok.cab x c hfn hc)))).trans e1⟩
   .obtain⟨o',e1⟩:=I.base.there b o e hx;exact⟨o',(hs.2 b (ne_of_lt (lt_of_lt_of_le (lt_size e) (I.ok.cab x c hfn hc)))).trans e1⟩
   . by_cases hj:j=i;.subst hj;rw[hi]at e1;cases e1;rw[getElem?_set_self hiσ]at e2;cases e2;exact⟨u,r,.inr ⟨.inl hk,c,hc,hc'⟩⟩
     . rw[getElem?_set_ne (Ne.symm hj)]at e2;obtain⟨u',r',q⟩:=hl j y v' e1 e2 e3;refine⟨u',r',?_⟩;rcases q with q|⟨k,c',e,z'⟩;.exact .inl q
       .refine .inr ⟨k,c',e,z'.sameBut hs ?_⟩;rintro rfl;exact hj (vO hN e1 (I.ok.inj _ _ _ e hc▸hi))
   . by_cases hcc:c'=c;.subst hcc;exact⟨_,hc'⟩
     .obtain⟨w2,z2⟩:=I.cell y c' e;exact⟨w2,z2.sameBut hs hcc⟩
   .obtain⟨e,n,ne,nf,d⟩:=I.pin p hp;refine⟨(hs.2 p.1 ?_).trans e,n,ne,nf,d⟩;intro q;rw[q,hoc]at e;have q':oc=p.2:=Option.some.inj e;exact d w' (by rw[<-q'];exact acr)
theorem lr{M:Model}{A:Around}{E:Value->Shared->Prop}{i:Nat}{x:Str}{v:V}{u:Value}{Q:Unit->Shared->Prop}(I:Inv X pins σ H s)(hN:X.N.Nodup)(hi:X.N[i]?=some x)(hx:Loc X.env.scope x)(r:RelV v u)(h:∀s',Inv X pins (σ.set i (some v)) H s'->Q () s')(hf:X.fn x=true\/X.env.scope.names.lookup x=some .local:=by first|exact .inl rfl|exact .inr rfl|assumption):wpAny M A (storeName X.env x u) Q E s:=qW I hN hi hx r (fun s' I' _=>h s' I') hf
end
abbrev XK:=Value->Option Addr->Hp->Prop
noncomputable abbrev St:=List (Option V)
abbrev VK:=V->Hp->Prop
abbrev TE:=St->Hp->VK->Prop
abbrev TT:=St->Hp->(Bool->Hp->Prop)->Prop
abbrev TA:=St->Hp->(List V->Hp->Prop)->Prop
structure Ends where
 nx:St->Hp->Prop
 rt:VK
 bk:St->Hp->Prop:=fun _ _=>False
 ct:St->Hp->Prop:=fun _ _=>False
abbrev TS:=Ends->St->Hp->Prop
inductive EP(X:Cx)(pins:List (Addr×Obj))(σ:St)(Q:VK)(u:Value)(s':Shared):Prop where|mk(v:V)(H':Hp)(q0:Inv X pins σ H' s')(q1:RelV v u)(q2:Q v H')
def TP(X:Cx)(pins:List (Addr×Obj))(σ:St)(Q:Bool->Hp->Prop)(b:Bool)(s':Shared):Prop:=∃H',Inv X pins σ H' s'/\Q b H'
inductive AP(X:Cx)(pins:List (Addr×Obj))(σ:St)(Q:List V->Hp->Prop)(us:List Value)(s':Shared):Prop where|mk(vs:List V)(H':Hp)(q0:Inv X pins σ H' s')(q1:Vals vs us)(q2:Q vs H')
def SP(X:Cx)(pins:List (Addr×Obj))(D:Ends)(f:Flow)(s':Shared):Prop:=match f with|.next=>∃σ' H',Inv X pins σ' H' s'/\D.nx σ' H'|.brk=>∃σ' H',Inv X pins σ' H' s'/\D.bk σ' H'|.cont=>∃σ' H',Inv X pins σ' H' s'/\D.ct σ' H'|.ret u=>∃v σ' H',Inv X pins σ' H' s'/\RelV v u/\D.rt v H'
def PE(X:Cx)(e:Expr)(t:TE):Prop:=∀(pins:List (Addr×Obj))(s:Shared)(σ:St)(H:Hp)(Q:VK),Inv X pins σ H s->t σ H Q->wpAny (model X.prog X.w) X.A (eval e X.env) (EP X pins σ Q) X.xe s
def PT(X:Cx)(e:Expr)(t:TT):Prop:=∀(pins:List (Addr×Obj))(s:Shared)(σ:St)(H:Hp)(Q:Bool->Hp->Prop),Inv X pins σ H s->t σ H Q->wpAny (model X.prog X.w) X.A (isTrue e X.env (eval e X.env)) (TP X pins σ Q) X.xe s
def PW(X:Cx)(e:Expr)(t:TT):Prop:=∀(whole:Sem Value)(pins:List (Addr×Obj))(s:Shared)(σ:St)(H:Hp)(Q:Bool->Hp->Prop),Inv X pins σ H s->t σ H Q->wpAny (model X.prog X.w) X.A (isTrue e X.env whole) (TP X pins σ Q) X.xe s
theorem PW.pt{X:Cx}{e:Expr}{t:TT}(h:PW X e t):PT X e t:=h _
def PA(X:Cx)(es:List Expr)(t:TA):Prop:=∀(pos:Pos)(pins:List (Addr×Obj))(s:Shared)(σ:St)(H:Hp)(Q:List V->Hp->Prop),Inv X pins σ H s->t σ H Q->wpAny (model X.prog X.w) X.A (spliced (backTo pos (starEach es X.env))) (AP X pins σ Q) X.xe s
def PS(X:Cx)(st:Stmt)(t:TS):Prop:=∀(pins:List (Addr×Obj))(s:Shared)(σ:St)(H:Hp)(D:Ends),Inv X pins σ H s->t D σ H->wpAny (model X.prog X.w) X.A (exec st X.env) (SP X pins D) X.xe s
def wD(X:Cx)(st:List Stmt)(t:TS):Prop:=∀(pins:List (Addr×Obj))(s:Shared)(σ:St)(H:Hp)(D:Ends),Inv X pins σ H s->t D σ H->wpAny (model X.prog X.w) X.A (execs st X.env) (SP X pins D) X.xe s
theorem bC{α:Type}{t:Sem α}{Q Q':α->Shared->Prop}{M:Model}{A:Around}{E:Value->Shared->Prop}{s:Shared}(h:wpAny M A t Q E s)(hQ:∀a s,Q a s->Q' a s):wpAny M A t Q' E s:=wpAny_mono h hQ fun _ _ x=>x
section
variable{X:Cx}
def QT(i:Nat):TE:=fun σ H Q=>∃v,σ[i]?=some (some v)/\Q v H
def tC(v:V):TE:=fun _ H Q=>Q v H
theorem cW{i:Nat}{x:Str}{pos:Pos}(hN:X.N[i]?=some x)(hv:uY X.env.scope x)(hd:(x==("__debug__":Str))=false:=by decide)(hcd:(x==("__classdict__":Str))=false:=by decide):PE X (.Name x pos) (QT i):=by
 intro pins s σ H Q I h;obtain⟨v,e,h⟩:=h;obtain⟨m,hn,hl⟩:=I.loc;obtain⟨u,r,l⟩:=hl i x v hN e hv;have fin:EP X pins σ Q u s:=⟨v,H,I,r,h⟩;rcases l with⟨hk,hm⟩|⟨hk,c,hc,hcell⟩;.exact wpAny_Name (wpAny_loadName_local I.ok.kind hk hn hm fin) hd
 . rcases hk with hk|hk;.exact wpAny_Name (wpAny_loadName_cell I.ok.kind hk hc hcell fin) hd
   .exact wpAny_Name (wpAny_loadName_free I.ok.kind hk hc hcell fin hcd) hd
theorem xX{i j pos}:PE X (.Constant (.int i) j pos) (tC (.int i)):=fun _ _ _ H _ I h=>wpAny_Constant_int ⟨.int i,H,I.tok _,⟨_,rfl⟩,h⟩
theorem VR{b j pos}:PE X (.Constant (.bool b) j pos) (tC (.bl b)):=fun _ _ _ H _ I h=>Constant_bool ⟨.bl b,H,I,rfl,h⟩
theorem Rm{j pos}:PE X (.Constant .none j pos) (tC .non):=fun _ _ _ H _ I h=>Constant_none ⟨.non,H,I,rfl,h⟩
def Gl(X:Cx)(x:Str):Prop:=X.env.kindOf x=some .globalImplicit
theorem JW{E:Value->Shared->Prop}{pins:List (Addr×Obj)}{s:Shared}{σ:St}{H:Hp}{x:Str}{u:Value}{pos:Pos}{Q:Value->Shared->Prop}(I:Inv X pins σ H s)(hg:Gl X x)(hm:X.mg x=some u)(h:Q u s)(hd:(x==("__debug__":Str))=false:=by decide):wpAny (model X.prog X.w) X.A (eval (.Name x pos) X.env) Q E s:=Calls.Name_function_global I.ok.kind hg (Calls.loadGlobal_global (by rw[I.ok.glob];exact I.mod.glob.keeps I.bk) hm h) hd
theorem jN{E:Value->Shared->Prop}{pins:List (Addr×Obj)}{s:Shared}{σ:St}{H:Hp}{x:Str}{u:Value}{pos:Pos}{Q:Value->Shared->Prop}(I:Inv X pins σ H s)(hg:Gl X x)(hm:X.mg x=none)(hv:bootBuiltins x=some u)(h:Q u s)(hn:x≠"__name__":=by decide)(hd:(x==("__debug__":Str))=false:=by decide):wpAny (model X.prog X.w) X.A (eval (.Name x pos) X.env) Q E s:=by obtain⟨mb,h1,h2⟩:=I.mod.blt;exact Calls.Name_function_global I.ok.kind hg (Calls.loadGlobal_builtin (by rw[I.ok.glob];exact I.mod.glob.keeps I.bk) hm (by rw[I.ok.blt];exact h1.keeps I.bk) ((h2 x hn).trans hv) h) hd
theorem Ks{x:Str}{v:V}{u:Value}{pos:Pos}(hg:Gl X x)(hm:X.mg x=none)(hv:bootBuiltins x=some u)(r:RelV v u)(hn:x≠"__name__":=by decide)(hd:(x==("__debug__":Str))=false:=by decide):PE X (.Name x pos) (tC v):=fun _ _ _ H _ I h=>jN I hg hm hv ⟨v,H,I,r,h⟩ hn hd
variable{a b:Expr}{ta tb:TE}{pos:Pos}
def PC(X:Cx)(op:CmpOp)(a b:Expr)(t:TE):Prop:=∀(pins:List (Addr × Obj))(s:Shared)(σ:St)(H:Hp)(Q:VK),Inv X pins σ H s->t σ H Q->wpAny (model X.prog X.w) X.A (eval a X.env) (fun v s₁=>wpAny (model X.prog X.w) X.A (eval b X.env) (fun u s₂=>wpAny (model X.prog X.w) X.A (compareOp op v u) (EP X pins σ Q) X.xe s₂) X.xe s₁) X.xe s
def tB(t:TE):TT:=fun σ H Q=>t σ H fun x H1=>∃c,x=.bl c/\Q c H1
theorem RQ{op:CmpOp}{t:TE}(h:PC X op a b t)(h1:behindInMarks op b=false:=by first|exact Xr _ (by decide) (by decide)|rfl):PT X (.Compare a [op] [b] pos) (tB t):=by intro pins s σ H Q I hw;refine wpAny_isTrue_Compare1 (bC (h pins s σ H _ I hw) fun v s1 h1=>bC h1 fun u s2 h2=>bC h2 fun c s3⟨x,H1,I1,r1,q1⟩=>?_) h1;obtain⟨d,rfl,q⟩:=q1;cases r1;exact wpAny_truthy_bool ⟨H1,I1,q⟩
theorem Qx{e:Expr}{t:TE}(h:PE X e t)(he:∀whole,isTrue e X.env whole=(do let v<-whole;standAt e.pos;holding [v] (truthy v)):=by intro _;rfl):PT X e (tB t):=by intro pins s σ H Q I hw;refine isTrue_plain (bC (h pins s σ H _ I hw) fun v s1⟨x,H1,I1,r1,q1⟩=>?_) (he _);obtain⟨d,rfl,q⟩:=q1;cases r1;exact wpAny_truthy_bool ⟨H1,I1,q⟩
variable{tA Z1:TT}{rest:List Expr}
def abI(t u:TT):TT:=fun σ H Q=>t σ H fun c H1=>if c=true then u σ H1 Q else Q false H1
def tOr(t u:TT):TT:=fun σ H Q=>t σ H fun c H1=>if c=true then Q true H1 else u σ H1 Q
def aax(t:TT):TT:=fun σ H Q=>t σ H fun c H1=>Q (!c) H1
theorem IK(ha:PT X a tA):PW X (.BoolOp .And [a] pos) tA:=by intro wh pins s σ H Q I h;refine isTrue_and (bC (ha pins s σ H Q I h) fun c s1 e=>?_);cases c with|true=>exact isTrue_and_nil e|false=>exact e
theorem RM(ha:PT X a tA):PW X (.BoolOp .Or [a] pos) tA:=by intro wh pins s σ H Q I h;refine isTrue_or (bC (ha pins s σ H Q I h) fun c s1 e=>?_);cases c with|false=>exact isTrue_or_nil e|true=>exact e
theorem RX(ha:PT X a tA)(hb:PW X (.BoolOp .And (b::rest) pos) Z1):PW X (.BoolOp .And (a::b::rest) pos) (abI tA Z1):=by intro wh pins s σ H Q I h;refine isTrue_and (bC (ha pins s σ H _ I h) fun c s1⟨H1,I1,q1⟩=>?_);cases c with|true=>exact hb wh pins s1 σ H1 Q I1 q1|false=>exact⟨H1,I1,q1⟩
theorem VB(ha:PT X a tA)(hb:PW X (.BoolOp .Or (b::rest) pos) Z1):PW X (.BoolOp .Or (a::b::rest) pos) (tOr tA Z1):=by intro wh pins s σ H Q I h;refine isTrue_or (bC (ha pins s σ H _ I h) fun c s1⟨H1,I1,q1⟩=>?_);cases c with|true=>exact⟨H1,I1,q1⟩|false=>exact hb wh pins s1 σ H1 Q I1 q1
theorem N8(ha:PT X a tA):PT X (.UnaryOp .Not a pos) (aax tA):=by intro pins s σ H Q I h;exact isTrue_not (ha pins s σ H (fun c H1=>Q (!c) H1) I h)
def W2(ta tb:TE):TE:=fun σ H Q=>ta σ H fun x H1=>∃c,x=.bl c/\if c=true then tb σ H1 Q else Q (.bl false) H1
def WK(ta:TE):TE:=fun σ H Q=>ta σ H fun x H1=>∃c,x=.bl c/\Q (.bl (!c)) H1
theorem Ph{op}{t:TE}(h:PE X a t):PE X (.BoolOp op [a] pos) t:=fun pins s σ H Q I hw=>BoolOp_one (h pins s σ H Q I hw)
theorem QX(ha:PE X a ta)(hb:PE X (.BoolOp .And (b::rest) pos) tb):PE X (.BoolOp .And (a::b::rest) pos) (W2 ta tb):=by intro pins s σ H Q I h;refine BoolOp_and (bC (ha pins s σ H _ I h) fun v s1⟨x,H1,I1,r1,q1⟩=>?_);obtain⟨c,rfl,q1⟩:=q1;cases r1;refine wpAny_truthy_bool ?_;cases c with|true=>exact hb pins s1 σ H1 Q I1 q1|false=>exact⟨.bl false,H1,I1,rfl,q1⟩
theorem R0(ha:PE X a ta):PE X (.UnaryOp .Not a pos) (WK ta):=by intro pins s σ H Q I h;refine UnaryOp_ (bC (ha pins s σ H _ I h) fun v s1⟨x,H1,I1,r1,q1⟩=>?_);obtain⟨c,rfl,q1⟩:=q1;cases r1;exact not_of (wpAny_truthy_bool ⟨.bl (!c),H1,I1,rfl,q1⟩)
def tIf(t:TT)(ta tb:TE):TE:=fun σ H Q=>t σ H fun c H1=>if c=true then ta σ H1 Q else tb σ H1 Q
theorem G6{c:Expr}(hc:PT X c tA)(ha:PE X a ta)(hb:PE X b tb):PE X (.IfExp c a b pos) (tIf tA ta tb):=by intro pins s σ H Q I h;refine wpAny_IfExp (bC (hc pins s σ H _ I h) fun d s1⟨H1,I1,q1⟩=>?_);cases d with|true=>exact ha pins s1 σ H1 Q I1 q1|false=>exact hb pins s1 σ H1 Q I1 q1
end
def dz(K:PySem.W.Frag)(H:Hp)(a:Addr)(xs:List V):Prop:=Rd H a (.lst xs)\/∃(o:Obj)(its:Array Value)(n:Nat),K.lookup a=some o/\o.cls=.type "list"/\o.dict=none/\o.data=.seq its n/\its.size<=sizeLine/\Vals xs its.toList
def jm(K:PySem.W.Frag)(H:Hp)(a:Addr)(xs:List V):Prop:=Rd H a (.tup xs)\/∃(o:Obj)(its:Array Value)(n:Nat),K.lookup a=some o/\o.cls=.type "tuple"/\o.data=.seq its n/\its.size<=sizeLine/\Vals xs its.toList
noncomputable def acf:Value->Option V|.none=>some .non|.bool b=>some (.bl b)|.int i _=>some (.int i)|.str x _=>some (.str x)|.bytes b _=>some (.byt b)|.float b _=>some (.flt b)|.ref a=>some (.ref a)|.type n=>some (.ty n)|_=>none
theorem RelV.abs{x:V}{u:Value}(r:RelV x u):acf u=some x:=by cases x with|non=>cases r;rfl|bl _=>cases r;rfl|int _=>obtain⟨t,rfl⟩:=r;rfl|str _=>obtain⟨t,rfl⟩:=r;rfl|byt _=>obtain⟨t,rfl⟩:=r;rfl|flt _=>obtain⟨t,rfl⟩:=r;rfl|ref _=>cases r;rfl|ty _=>cases r;rfl
theorem RelV.inj{x y:V}{u:Value}(r:RelV x u)(q:RelV y u):x=y:=Option.some.inj (r.abs.symm.trans q.abs)
theorem Vals.inj:∀{xs ys:List V}{us:List Value},Vals xs us->Vals ys us->xs=ys|_,_,_,.nil,.nil=>rfl|_,_,_,.cons r t,.cons r' t'=>by rw[r.inj r',Vals.inj t t']
section
variable{X:Cx}{pins:List (Addr×Obj)}{σ:St}{H:Hp}{s:Shared}{a:Addr}{xs ys:List V}
theorem dz.of{K:PySem.W.Frag}(h:H a=some (.lst xs)):dz K H a xs:=.inl (.inl h)
theorem jm.of{K:PySem.W.Frag}(h:H a=some (.tup xs)):jm K H a xs:=.inl (.inl h)
theorem Inv.list(I:Inv X pins σ H s)(h:dz X.K H a xs):∃its:List Value,Vals xs its/\PlainL s.heap a its.toArray/\xs.length<=sizeLine:=by
 rcases h with h|⟨o,its,n,hk,hc,hd,hs,hz,r⟩;.obtain⟨z,its,n,r,e⟩:=h.ok I.hok;exact⟨its,r,⟨_,n,e,rfl,rfl,rfl⟩,z⟩
 .refine⟨its.toList,r,⟨o,n,I.O8 a o hk,hc,hd,by simpa using hs⟩,?_⟩;have e:=r.length;simp only[length_toList]at e;omega
theorem Inv.tuple(I:Inv X pins σ H s)(h:jm X.K H a xs):∃its:List Value,Vals xs its/\IsTup s.heap a its.toArray/\xs.length<=sizeLine:=by
 rcases h with h|⟨o,its,n,hk,hc,hs,hz,r⟩;.obtain⟨z,its,r,p⟩:=h.ok I.hok;exact⟨its,r,p,z⟩
 .refine⟨its.toList,r,⟨o,I.O8 a o hk,hc,n,by simpa using hs⟩,?_⟩;have e:=r.length;simp only[length_toList]at e;omega
theorem Inv.vD(I:Inv X pins σ H s)(h:dz X.K H a xs)(h':dz X.K H a ys):xs=ys:=by
 obtain⟨its,r,⟨o,n,e,_,_,d⟩,_⟩:=I.list h;obtain⟨its',r',⟨o',n',e',_,_,d'⟩,_⟩:=I.list h';rw[e]at e';cases e';rw[d]at d';injection d' with d1 _;have:its=its':=by simpa using congrArg toList d1
 subst this;exact r.inj r'
theorem Inv.qU(I:Inv X pins σ H s)(h:jm X.K H a xs)(h':jm X.K H a ys):xs=ys:=by
 obtain⟨its,r,⟨o,e,_,n,d⟩,_⟩:=I.tuple h;obtain⟨its',r',⟨o',e',_,n',d'⟩,_⟩:=I.tuple h';rw[e]at e';cases e';rw[d]at d';injection d' with d1 _;have:its=its':=by simpa using congrArg toList d1
 subst this;exact r.inj r'
end
noncomputable abbrev Cx.wish(X:Cx)(E:Value->Shared->Prop):Cx:={X with xe:=E}
noncomputable abbrev Cx.Wk(X:Cx):Cx:=X.wish fun _ _=>False
theorem Cx.Ok.wish{X:Cx}(ok:X.Ok)(E:Value->Shared->Prop):(X.wish E).Ok:=⟨ok.mod,ok.kind,ok.glob,ok.blt,ok.above,ok.inj,ok.has,ok.cab,ok.hd,ok.frames,ok.ZZ,ok.exf,ok.bs,ok.M3,ok.Hv,ok.K8,ok.oZ,ok.Uy⟩
theorem Cx.Ok.iJ{X:Cx}{E:Value->Shared->Prop}(ok:(X.wish E).Ok):X.Ok:=⟨ok.mod,ok.kind,ok.glob,ok.blt,ok.above,ok.inj,ok.has,ok.cab,ok.hd,ok.frames,ok.ZZ,ok.exf,ok.bs,ok.M3,ok.Hv,ok.K8,ok.oZ,ok.Uy⟩
section
variable{X:Cx}{pins:List (Addr×Obj)}{σ:St}{H:Hp}{s:Shared}{E:Value->Shared->Prop}
theorem Inv.wish(I:Inv X pins σ H s)(E:Value->Shared->Prop):Inv (X.wish E) pins σ H s:=⟨I.ok.wish E,I.os,I.bare,I.base,I.loc,I.cell,I.free,I.iW,I.pin,I.hok,I.len⟩
theorem Inv.iJ(I:Inv (X.wish E) pins σ H s):Inv X pins σ H s:=⟨I.ok.iJ,I.os,I.bare,I.base,I.loc,I.cell,I.free,I.iW,I.pin,I.hok,I.len⟩
theorem SP.iJ{D:Ends}{f:Flow}{s':Shared}(h:SP (X.wish E) pins D f s'):SP X pins D f s':=by cases f with|next=>obtain⟨σ',H',I,q⟩:=h;exact⟨σ',H',I.iJ,q⟩|brk=>obtain⟨σ',H',I,q⟩:=h;exact⟨σ',H',I.iJ,q⟩|cont=>obtain⟨σ',H',I,q⟩:=h;exact⟨σ',H',I.iJ,q⟩|ret u=>obtain⟨v,σ',H',I,r,q⟩:=h;exact⟨v,σ',H',I.iJ,r,q⟩
theorem wD.Wk{st:List Stmt}{t:TS}(h:wD X.Wk st t):wD X st t:=fun pins s σ H D I hw=>wpAny_mono (h pins s σ H D (I.wish _) hw) (fun _ _ q=>q.iJ) fun _ _ z=>False.elim z
end
section
variable{X:Cx}{st:Stmt}{rest:List Stmt}{t u:TS}{e:Expr}{te:TE}{pos:Pos}
def Ve:TS:=fun D σ H=>D.nx σ H
def abH(t u:TS):TS:=fun D σ H=>t {D with nx:=u D} σ H
theorem zx:wD X [] Ve:=fun _ _ σ H _ I h=>wpAny_execs_nil ⟨σ,H,I,h⟩
theorem j7(h1:PS X st t)(h2:wD X rest u):wD X (st::rest) (abH t u):=by intro pins s σ H D I h;refine wpAny_execs_cons (bC (h1 pins s σ H {D with nx:=u D} I h) fun f s1 q=>?_);cases f with|next=>obtain⟨σ',H',I',q⟩:=q;exact h2 pins s1 σ' H' D I' q|ret v=>exact q|brk=>exact q|cont=>exact q
theorem Inv.quiet{pins:List (Addr×Obj)}{σ:St}{H:Hp}{s:Shared}(I:Inv X pins σ H s):interactive X.env=false:=by simp[interactive,I.ok.kind]
def VG(te:TE):TS:=fun D σ H=>te σ H fun _ H1=>D.nx σ H1
theorem uc(he:PE X e te)(hs:swapsWith e none pos.line X.env=pure false:=by rfl):PS X (.Expr e pos) (VG te):=by intro pins s σ H D I h;exact wpAny_Expr_any (bC (he pins s σ H _ I h) fun v s1⟨x,H1,I1,r1,q1⟩=>⟨σ,H1,I1,q1⟩) I.quiet hs
def ab2(te:TE):TS:=fun D σ H=>te σ H D.rt
theorem Dw(he:PE X e te):PS X (.Return (some e) pos) (ab2 te):=by intro pins s σ H D I h;exact wpAny_Return_some (bC (he pins s σ H _ I h) fun v s1⟨x,H1,I1,r1,q1⟩=>⟨x,σ,H1,I1,r1,q1⟩)
def abr(c:TT)(t u:TS):TS:=fun D σ H=>c σ H fun b H1=>if b=true then t D σ H1 else u D σ H1
theorem Mh{c:Expr}{a b:List Stmt}{tc:TT}(hc:PT X c tc)(ha:wD X a t)(hb:wD X b u):PS X (.If c a b pos) (abr tc t u):=by intro pins s σ H D I h;refine wpAny_If (bC (hc pins s σ H _ I h) fun d s1⟨H1,I1,q1⟩=>?_);cases d with|true=>exact ha pins s1 σ H1 D I1 q1|false=>exact hb pins s1 σ H1 D I1 q1
end
abbrev TG:=V->St->Hp->(St->Hp->Prop)->Prop
abbrev De:=List V->St->Hp->(St->Hp->Prop)->Prop
def PG(X:Cx)(target:Expr)(t:TG):Prop:=∀(pins:List (Addr × Obj))(s:Shared)(σ:St)(H:Hp)(v:V)(u:Value)(Q:St->Hp->Prop),Inv X pins σ H s->RelV v u->t v σ H Q->wpAny (model X.prog X.w) X.A (assign target X.env u) (fun _ s'=>∃σ' H',Inv X pins σ' H' s'/\Q σ' H') X.xe s
def Yj(X:Cx)(ts:List Expr)(t:De):Prop:=∀(pins:List (Addr × Obj))(s:Shared)(σ:St)(H:Hp)(vs:List V)(us:List Value)(Q:St->Hp->Prop),Inv X pins σ H s->Vals vs us->t vs σ H Q->wpAny (model X.prog X.w) X.A (assignInOrder ((assignEach ts X.env).map (·.2)) us) (fun _ s'=>∃σ' H',Inv X pins σ' H' s'/\Q σ' H') X.xe s
abbrev Hj:=V->V->V->Hp->(Hp->Prop)->Prop
def Rp(X:Cx)(t:Hj):Prop:=∀(pins:List (Addr × Obj))(s:Shared)(σ:St)(H:Hp)(o i v:V)(ov iv u:Value)(Q:Hp->Prop),Inv X pins σ H s->RelV o ov->RelV i iv->RelV v u->t o i v H Q->wpAny (model X.prog X.w) X.A (setItem ov iv u) (fun _ s'=>∃H',Inv X pins σ H' s'/\Q H') X.xe s
abbrev ZP:=V->V->Hp->VK->Prop
def YS(X:Cx)(op:Operator)(t:ZP):Prop:=∀(pins:List (Addr × Obj))(s:Shared)(σ:St)(H:Hp)(x y:V)(v u:Value)(Q:VK),Inv X pins σ H s->RelV x v->RelV y u->t x y H Q->wpAny (model X.prog X.w) X.A (inplaceOp op v u) (EP X pins σ Q) X.xe s
section
variable{X:Cx}{pos:Pos}
def iT(i:Nat):TG:=fun v σ H Q=>Q (σ.set i (some v)) H
theorem bw{i:Nat}{x:Str}(hN:X.N.Nodup)(hi:X.N[i]?=some x)(hx:Loc X.env.scope x)(hf:X.fn x=true\/X.env.scope.names.lookup x=some .local:=by first|exact .inl rfl|exact .inr rfl|assumption):PG X (.Name x pos) (iT i):=by intro pins s σ H v u Q I r h;exact wpAny_assign_Name (lr I hN hi hx r (fun s' I'=>⟨_,H,I',h⟩) hf)
def PX:De:=fun vs σ H Q=>vs=[]/\Q σ H
def Ek(t:TG)(u:De):De:=fun vs σ H Q=>∃v r,vs=v::r/\t v σ H fun σ' H'=>u r σ' H' Q
theorem n8:Yj X [] PX:=by intro pins s σ H vs us Q I r h;obtain⟨e,h⟩:=h;subst e;cases r;exact assignInOrder_nil ⟨σ,H,I,h⟩
theorem cH{e:Expr}{es:List Expr}{t:TG}{u:De}(h1:PG X e t)(h2:Yj X es u)(hs:(assignEach (e::es) X.env).map (·.2)=assign e X.env::(assignEach es X.env).map (·.2):=by rfl):Yj X (e::es) (Ek t u):=by intro pins s σ H vs us Q I r h;obtain⟨v,vr,e1,h⟩:=h;subst e1;cases r with|cons r rr=>rw[hs];refine assignInOrder_cons (bC (h1 pins s σ H _ _ _ I r h) fun _ s1⟨σ1,H1,I1,q1⟩=>?_);exact h2 pins s1 σ1 H1 _ _ Q I1 rr q1
def O5(K:PySem.W.Frag)(n:Nat)(t:De):TG:=fun v σ H Q=>∃a xs,v=.ref a/\jm K H a xs/\xs.length=n/\t xs σ H Q
theorem tO{es:List Expr}{k:Nat}{t:De}{n:Nat}(hc:X.calm=true)(h:Yj X es t)(hn:(assignEach es X.env).length=n:=by rfl)(hst:(assignEach es X.env).findIdx? (·.1)=none:=by rfl):PG X (.Tuple es k pos) (O5 X.K n t):=by intro pins s σ H v u Q I r hw;obtain⟨a,xs,e1,hq,hl,hw⟩:=hw;subst e1;cases r;obtain⟨its,rv,ht,hz⟩:=I.tuple hq;refine assign_Tuple_tuple (I.ok.hd hc) ht (by simp[hn,<-hl,rv.length]) hst fun h' hx=>?_;have I1:Inv X pins σ H {s with heap:=h'}:=I.kept (t':=s.toks) fun b o e=>hx b o (ne_of_lt (lt_size e)) e;exact h pins _ σ H xs _ Q I1 (by simpa using rv) hw
def abM(to ti:TE)(t:Hj):TG:=fun v σ H Q=>to σ H fun o H1=>ti σ H1 fun i H2=>t o i v H2 fun H3=>Q σ H3
theorem OJ{o i:Expr}{to ti:TE}{t:Hj}(ho:PE X o to)(hi:PE X i ti)(hs:Rp X t)(ha:∀ v,assign (.Subscript o i pos) X.env v=(do
  let ov<-holding [v] (eval o X.env)let iv<-holding [v,ov] (eval i X.env)standAt pos
  holding [v,ov,iv] (setItem ov iv v)release [v,ov,iv] []):=by intro _;rfl):PG X (.Subscript o i pos) (abM to ti t):=by intro pins s σ H v u Q I r h;rw[ha];refine wpAny_bind (wpAny_holding (bC (ho pins s σ H _ I h) fun ov s1⟨x,H1,I1,r1,q1⟩=>?_));refine wpAny_bind (wpAny_holding (bC (hi pins s1 σ H1 _ I1 q1) fun iv s2⟨y,H2,I2,r2,q2⟩=>?_));refine wpAny_bind (wpAny_standAt (wpAny_bind (wpAny_holding (bC (hs pins s2 σ H2 x y v ov iv u _ I2 r1 r2 r q2) fun _ s3⟨H3,I3,q3⟩=>?_))));exact wpAny_release ⟨σ,H3,I3,q3⟩
def QF(te:TE)(g:TG):TS:=fun D σ H=>te σ H fun x H1=>g x σ H1 D.nx
theorem Pb{tg e:Expr}{te:TE}{g:TG}(he:PE X e te)(hg:PG X tg g)(hs:swapsWithSole [tg] e pos.line X.env=pure false:=by rfl)(hw:swappedStores [tg] e X.env=pure none:=by rfl)(h1:(assignEach [tg] X.env).map (·.2)=[assign tg X.env]:=by rfl):PS X (.Assign [tg] e pos) (QF te g):=by intro pins s σ H D I h;refine wpAny_Assign_stores (bC (he pins s σ H _ I h) fun v s1⟨x,H1,I1,r1,q1⟩=>?_) hs hw;rw[h1];exact bC (hg pins s1 σ H1 x v _ I1 r1 q1) fun _ s2 q=>q
theorem xN{i:Nat}{x:Str}{e:Expr}{te:TE}{pos':Pos}(hN:X.N.Nodup)(hi:X.N[i]?=some x)(hx:Loc X.env.scope x)(he:PE X e te)(hs:swapsWith e (some (.Name x pos')) pos.line X.env=pure false:=by rfl)(hf:X.fn x=true\/X.env.scope.names.lookup x=some .local:=by first|exact .inl rfl|exact .inr rfl|assumption):PS X (.Assign [.Name x pos'] e pos) (QF te (iT i)):=by intro pins s σ H D I h;refine wpAny_Assign_Name (bC (he pins s σ H _ I h) fun v s1⟨y,H1,I1,r1,q1⟩=>?_) hs;exact lr I1 hN hi hx r1 (fun s2 I2=>⟨_,H1,I2,q1⟩) hf
def abb(i j:Nat)(ta:TA):TS:=fun D σ H=>ta σ H fun vs H1=>∃v w,vs=[v,w]/\D.nx ((σ.set i (some v)).set j (some w)) H1
theorem QJ{i j:Nat}{x y:Str}{a b:Expr}{ta:TA}{px py pt:Pos}{kt k2 R4}(hc:X.calm=true)(hN:X.N.Nodup)(hi:X.N[i]?=some x)(hj:X.N[j]?=some y)(hij:i≠j)(hx:X.env.scope.names.lookup x=some .local)(hy:X.env.scope.names.lookup y=some .local)(ha:PA X [a,b] ta)(hw:swappedStores [.Tuple [.Name x px,.Name y py] kt pt] (.Tuple [a,b] k2 R4) X.env=pure (some [x,y]))(hs:swapsWithSole [.Tuple [.Name x px,.Name y py] kt pt] (.Tuple [a,b] k2 R4) pos.line X.env=pure false:=by rfl):PS X (.Assign [.Tuple [.Name x px,.Name y py] kt pt] (.Tuple [a,b] k2 R4) pos) (abb i j ta):=by
 intro pins s σ H D I h;rw[exec_Assign_arm];refine wpAny_bind (wpAny_standAt ?_);rw[hs];refine wpAny_bind (wpAny_pure ?_);rw[if_neg (by decide)];refine wpAny_bind (Tuple_ (bC (ha _ pins s σ H _ I h) fun us s1⟨vs,H1,I1,r1,q1⟩=>?_));obtain⟨v,w,e1,q1⟩:=q1;subst e1;obtain⟨u1,u2,rfl,rv,uD⟩:∃u1 u2,us=[u1,u2]/\RelV v u1/\RelV w u2:=by cases r1 with|cons p q=>cases q with|cons p' q'=>cases q';exact⟨_,_,rfl,p,p'⟩
 refine wpAny_newObj_type ?_ (by show 2<=sizeLine;decide);have I2:Inv X pins σ H1 {s1 with heap:=s1.heap.push {cls:=.type "tuple",data:=.seq [u1,u2].toArray}}:=I1.kept (t':=s1.toks) fun b o e=>get?_push_of_some _ e;rw[hw];refine wpAny_bind (wpAny_pure ?_);show wpAny (model X.prog X.w) X.A (do rule "assign.swapped-stores";let items<-unpackItems (.ref s1.heap.objs.size) 2 none;assignInOrder [fun v=>bindName X.env y v,fun v=>bindName X.env x v] items.reverse;pure Flow.next) _ _ _;refine wpAny_bind (wpAny_rule (wpAny_bind (unpackItems_tuple (items:=#[u1,u2]) (I.ok.hd hc) (IsTup.new s1.heap _) fun h' hx'=>?_)));have I3:=I2.kept (h':=h') (t':=s1.toks) fun b o e=>hx' b o (ne_of_lt (lt_size e)) e;show wpAny _ _ (assignInOrder [fun v=>bindName X.env y v,fun v=>bindName X.env x v] [u2,u1]>>=fun _=>pure Flow.next) _ _ _;refine wpAny_bind (assignInOrder_cons (wpAny_bindName (lr I3 hN hj (.inl hy) uD (fun s2 I4=>?_) (.inr hy))));refine assignInOrder_cons (wpAny_bindName (lr I4 hN hi (.inl hx) rv (fun s3 I5=>assignInOrder_nil (wpAny_pure ?_)) (.inr hx)));rw[List.set_comm _ _ (Ne.symm hij)]at I5;exact⟨_,H1,I5,q1⟩
def Vu(to ti te:TE)(K9:V->V->Hp->VK->Prop)(Z2:ZP)(La:Hj):TS:=fun D σ H=>to σ H fun o H1=>ti σ H1 fun i H2=>K9 o i H2 fun x H3=>te σ H3 fun y H4=>Z2 x y H4 fun z H5=>La o i z H5 fun H6=>D.nx σ H6
def Vx(X:Cx)(t:V->V->Hp->VK->Prop):Prop:=∀(pins:List (Addr × Obj))(s:Shared)(σ:St)(H:Hp)(o i:V)(ov iv:Value)(Q:VK),Inv X pins σ H s->RelV o ov->RelV i iv->t o i H Q->wpAny (model X.prog X.w) X.A (getItem ov iv) (EP X pins σ Q) X.xe s
theorem Je{o i e:Expr}{to ti te:TE}{K9:V->V->Hp->VK->Prop}{Z2:ZP}{La:Hj}{op:Operator}{tpos:Pos}(ho:PE X o to)(hi:PE X i ti)(hg:Vx X K9)(he:PE X e te)(hp:YS X op Z2)(hs:Rp X La)(ha:∀ov iv new,augStore i ov iv new=(do holding [new,ov,iv] (setItem ov iv new);release [new,ov,iv] [];pure .next):=by intros;rfl):PS X (.AugAssign (.Subscript o i tpos) op e pos) (Vu to ti te K9 Z2 La):=by intro pins s σ H D I h;refine wpAny_AugAssign_SubscriptAny (bC (ho pins s σ H _ I h) fun ov s1⟨x1,H1,I1,r1,q1⟩=>?_) ha;refine bC (hi pins s1 σ H1 _ I1 q1) fun iv s2⟨x2,H2,I2,r2,q2⟩=>?_;refine bC (hg pins s2 σ H2 x1 x2 ov iv _ I2 r1 r2 q2) fun old s3⟨x3,H3,I3,r3,q3⟩=>?_;refine bC (he pins s3 σ H3 _ I3 q3) fun v s4⟨x4,H4,I4,r4,q4⟩=>?_;refine bC (hp pins s4 σ H4 x3 x4 old v _ I4 r3 r4 q4) fun new s5⟨x5,H5,I5,r5,q5⟩=>?_;exact bC (hs pins s5 σ H5 x1 x2 x5 ov iv new _ I5 r1 r2 r5 q5) fun _ s6⟨H6,I6,q6⟩=>⟨σ,H6,I6,q6⟩
def ipI(f:Int->Int->Int):ZP:=fun x y H Q=>∃i j,x=.int i/\y=.int j/\Q (.int (f i j)) H
theorem Nx:YS X .Add (ipI fun i j=>i+j):=by intro pins s σ H x y v u Q I r1 r2 h;obtain⟨i,j,e1,e2,q⟩:=h;subst e1;subst e2;obtain⟨t,rfl⟩:=r1;obtain⟨t',rfl⟩:=r2;exact iadd_int ⟨.int _,H,I.tok _,⟨_,rfl⟩,q⟩
end
section
variable{X:Cx}{pos:Pos}
def RD(c:TT)(tb:TS):TS:=fun D σ H=>∃W:Nat->St->Hp->Prop,(∃m,W m σ H)/\∀m σ H,W m σ H->c σ H fun b H1=>if b=true then ∃N:St->Hp->Prop,(∀σ' H',N σ' H'->∃m',m'<m/\W m' σ' H')/\tb {D with nx:=N,ct:=N,bk:=D.nx} σ H1 else D.nx σ H1
theorem FZ{c:Expr}{body:List Stmt}{tc:TT}{tb:TS}(hp:PassesOwn (model X.prog X.w) X.A X.env X.xe)(hc:PT X c tc)(hb:wD X body tb):PS X (.While c body [] pos) (RD tc tb):=by intro pins s σ H D I h;obtain⟨W,⟨m0,w0⟩,turn⟩:=h;refine wpAny_While (codeAny_whileLoop (fun n s'=>∃σ' H',Inv X pins σ' H' s'/\W n σ' H') ?_ m0 ⟨σ,H,I,w0⟩);rintro n s1⟨σ1,H1,I1,w1⟩;refine wpAny_passesOwn hp (bC (hc pins s1 σ1 H1 _ I1 (turn n σ1 H1 w1)) fun b s2⟨H2,I2,q2⟩=>?_);cases b with
 |true=>obtain⟨N,hN,q2⟩:=q2;rw[if_pos rfl];refine wpAny_passesOwn hp (bC (hb pins s2 σ1 H2 _ I2 q2) fun f s3 q3=>?_);cases f with|next=>obtain⟨σ3,H3,I3,n3⟩:=q3;obtain⟨m',hm,w3⟩:=hN σ3 H3 n3;exact⟨m',hm,σ3,H3,I3,w3⟩|cont=>obtain⟨σ3,H3,I3,n3⟩:=q3;obtain⟨m',hm,w3⟩:=hN σ3 H3 n3;exact⟨m',hm,σ3,H3,I3,w3⟩|brk=>exact q3|ret v=>exact q3
 |false=>rw[if_neg Bool.false_ne_true];exact wpAny_execs_nil ⟨σ1,H2,I2,q2⟩
end
structure It where
 go:Nat->Hp->Prop
 M5:Nat->Hp->V->Hp->Prop
 stop:Nat->Hp->Prop
def oF(X:Cx)(pins:List (Addr×Obj))(H:Hp)(b:Addr):Prop:=H b=none/\b≠X.env.locals/\b∉X.fs/\(b∈X.ex\/X.s₀.heap.objs.size<=b)/\(∀x c,X.env.cells.lookup x=some c->c≠b)/\∀p∈X.pn++pins,p.1≠b
theorem Inv.Hf{X:Cx}{pins:List (Addr×Obj)}{σ:St}{H H':Hp}{s:Shared}{b:Addr}(I:Inv X pins σ H s)(hb:s.heap.objs.size<=b)(hn:H' b=none):oF X pins H' b:=by
 refine⟨hn,ne_of_gt (lt_of_lt_of_le I.lt hb),I.abT hb,.inr (le_trans I.sz hb),fun x c e z=>?_,fun p hp z=>?_⟩;.obtain⟨v,q⟩:=I.cell x c e;exact absurd (lt_of_lt_of_le q.lt (by rw[z];exact hb)) (lt_irrefl _)
 .exact absurd (lt_of_lt_of_le (lt_size (I.pin p hp).1) (by rw[z];exact hb)) (lt_irrefl _)
structure Turn(P:Program)(w:World)(K:PySem.W.Frag)(tg:Expr)(J:It)(fp:List Addr)(it:Addr)(tn:Nat->Heap->Prop):Prop where
 mem:it∈fp
 obj:∀i h,tn i h->∀b∈fp,∃o,h.get? b=some o/\∀v,o.data≠.cell v
 keep:∀i h h',tn i h->(∀b∈fp,∀o,h.get? b=some o->h'.get? b=some o)->tn i h'
 item:∀(X:Cx),X.prog=P->X.w=w->X.K=K->X.calm=true->∀(i:Nat)(pins:List (Addr×Obj))(s:Shared)(σ:St)(H:Hp)(E:Value->Shared->Prop),Inv X pins σ H s->(∀b∈fp,oF X pins H b)->tn i s.heap->J.go i H->wpAny (model P w) X.A (pyNext (.ref it)) (fun r s1=>∃u,r=some u/\wpAny (model P w) X.A (letOwnedTupleGo tg (.ref it) u) (fun _ s2=>∃x H',Inv X pins σ H' s2/\RelV x u/\J.M5 i H x H'/\tn (i+1) s2.heap/\∀b∈fp,H' b=none) E s1) E s
 done:∀(X:Cx),X.prog=P->X.w=w->X.K=K->X.calm=true->∀(i:Nat)(pins:List (Addr×Obj))(s:Shared)(σ:St)(H:Hp)(E:Value->Shared->Prop),Inv X pins σ H s->(∀b∈fp,oF X pins H b)->tn i s.heap->J.stop i H->wpAny (model P w) X.A (pyNext (.ref it)) (fun r s1=>r=none/\Inv X pins σ H s1) E s
 self:∀(A:Around)(i:Nat)(s:Shared)(Q:Value->Shared->Prop)(E:Value->Shared->Prop),tn i s.heap->Q (.ref it) s->wpAny (model P w) A (pyIter (.ref it)) Q E s
abbrev TI:=St->Hp->(It->Hp->Prop)->Prop
def PIE(X:Cx)(pins:List (Addr×Obj))(σ:St)(tg:Expr)(R:It->Hp->Prop)(itv:Value)(s2:Shared):Prop:=∃(it:Addr)(fp:List Addr)(tn:Nat->Heap->Prop)(J:It)(H':Hp),itv=.ref it/\Inv X pins σ H' s2/\Turn X.prog X.w X.K tg J fp it tn/\tn 0 s2.heap/\(∀b∈fp,oF X pins H' b)/\R J H'
def PI(X:Cx)(tg iter:Expr)(wi:TI):Prop:=∀(pins:List (Addr × Obj))(s:Shared)(σ:St)(H:Hp)(R:It->Hp->Prop),Inv X pins σ H s->wi σ H R->wpAny (model X.prog X.w) X.A (eval iter X.env) (fun v s1=>wpAny (model X.prog X.w) X.A (pyIter v) (PIE X pins σ tg R) X.xe s1) X.xe s
theorem Ax{M:Model}{A:Around}{E:Value->Shared->Prop}{s:Shared}{tg:Expr}{it:Addr}{u:Value}{o:Obj}{n:String}{vs:Array Value}{Q:Unit->Shared->Prop}(ho:s.heap.get? it=some o)(hc:o.cls=.type n)(hd:o.data=.fields vs)(hn:["enumerate","zip","dict_itemiterator","dict_reverseitemiterator","odict_iterator","itertools.zip_longest","itertools.pairwise"].contains n=false)(hQ:Q () s):wpAny M A (letOwnedTupleGo tg (.ref it) u) Q E s:=by unfold letOwnedTupleGo;cases tg<;>first|exact wpAny_pure hQ|(cases u<;>first|exact wpAny_pure hQ|(refine wpAny_bind (wpAny_load ho ?_);rw[hc,hd];show wpAny M A (if(["enumerate","zip","dict_itemiterator","dict_reverseitemiterator","odict_iterator","itertools.zip_longest","itertools.pairwise"].contains n&&vs[0]?==some (rawInt _))=true then _ else _) Q E s;rw[if_neg (by intro h;rw[hn,Bool.false_and]at h;cases h)];exact wpAny_pure hQ))
noncomputable def Qu(K:PySem.W.Frag)(a:Addr):It:=⟨fun i H=>∃xs x,dz K H a xs/\xs[i]?=some x,fun i H x H'=>H'=H/\∀xs,dz K H a xs->xs[i]?=some x,fun i H=>∃xs,dz K H a xs/\xs.length<=i⟩
noncomputable def Tn(K:PySem.W.Frag)(a:Addr):It:=⟨fun i H=>∃xs x,jm K H a xs/\xs[i]?=some x,fun i H x H'=>H'=H/\∀xs,jm K H a xs->xs[i]?=some x,fun i H=>∃xs,jm K H a xs/\xs.length<=i⟩
noncomputable def Uc(lo:Int)(n:Nat):It:=⟨fun i _=>i<n,fun i H x H'=>H'=H/\x=.int (lo+i),fun i _=>n<=i⟩
theorem BJ{P:Program}{w:World}{K:PySem.W.Frag}{tg:Expr}(a it:Addr):Turn P w K tg (Qu K a) [it] it (fun i h=>h.IsListIter it a i)where
 mem:=by simp
 obj:=fun i h st b hb=>by
  have e:b=it:=by simpa using hb
  subst e;obtain⟨o,e,c,d⟩:=st;exact⟨o,e,fun v z=>by rw[d]at z;cases z⟩
 keep:=fun i h h' st k=>st.at fun o e=>k it (by simp) o e;item:=by intro X hP hw hK hc i pins s σ H E I hf st hg;subst hP hw hK;obtain⟨xs,x,hq,hx⟩:=hg;obtain⟨its,rv,p,hz⟩:=I.list hq;obtain⟨u,hu,ru⟩:=rv.get hx;obtain⟨f0,f1,f2,f3,f4,f5⟩:=hf it (by simp);refine wpAny_pyNext_list_item st p.isList (x:=u) (by simpa using hu) fun h' st' sb=>?_;have I1:Inv X pins σ H {s with heap:=h'}:=I.turned (t':=s.toks) (fun b o hb e=>(sb.2 b hb).trans e) f0 f1 f3 f4 f5;obtain⟨o,e,c,d⟩:=id st';exact⟨u,rfl,Ax (s:={s with heap:=h'}) e c d (by decide) ⟨x,H,I1,ru,⟨rfl,fun ys hy=>by rw[I.vD hy hq];exact hx⟩,st',fun b hb=>(hf b hb).1⟩⟩
 done:=by intro X hP hw hK hc i pins s σ H E I hf st hg;subst hP hw hK;obtain⟨xs,hq,hx⟩:=hg;obtain⟨its,rv,p,hz⟩:=I.list hq;obtain⟨f0,f1,f2,f3,f4,f5⟩:=hf it (by simp);have hl:=rv.length;exact wpAny_pyNext_list_end (I.ok.hd hc) st p.isList (by simp;omega) fun h' eb=>⟨rfl,I.turned (t':=s.toks) (fun b o hb e=>eb b o hb e) f0 f1 f3 f4 f5⟩
 self:=fun _ _ _ _ _ st h=>wpAny_pyIter_listiter st h
theorem xF{P:Program}{w:World}{K:PySem.W.Frag}{tg:Expr}(a it:Addr):Turn P w K tg (Tn K a) [it] it (fun i h=>h.IsTupleIter it a i)where
 mem:=by simp
 obj:=fun i h st b hb=>by
  have e:b=it:=by simpa using hb
  subst e;obtain⟨o,e,c,d⟩:=st;exact⟨o,e,fun v z=>by rw[d]at z;cases z⟩
 keep:=fun i h h' st k=>st.at fun o e=>k it (by simp) o e;item:=by intro X hP hw hK hc i pins s σ H E I hf st hg;subst hP hw hK;obtain⟨xs,x,hq,hx⟩:=hg;obtain⟨its,rv,p,hz⟩:=I.tuple hq;obtain⟨u,hu,ru⟩:=rv.get hx;obtain⟨f0,f1,f2,f3,f4,f5⟩:=hf it (by simp);refine wpAny_pyNext_tuple_item st (show s.heap.IsTuple a its.toArray from p) (x:=u) (by simpa using hu) fun h' st' sb=>?_;have I1:Inv X pins σ H {s with heap:=h'}:=I.turned (t':=s.toks) (fun b o hb e=>(sb.2 b hb).trans e) f0 f1 f3 f4 f5;obtain⟨o,e,c,d⟩:=id st';exact⟨u,rfl,Ax (s:={s with heap:=h'}) e c d (by decide) ⟨x,H,I1,ru,⟨rfl,fun ys hy=>by rw[I.qU hy hq];exact hx⟩,st',fun b hb=>(hf b hb).1⟩⟩
 done:=by intro X hP hw hK hc i pins s σ H E I hf st hg;subst hP hw hK;obtain⟨xs,hq,hx⟩:=hg;obtain⟨its,rv,p,hz⟩:=I.tuple hq;obtain⟨f0,f1,f2,f3,f4,f5⟩:=hf it (by simp);have hl:=rv.length;exact wpAny_pyNext_tuple_end (I.ok.hd hc) st (show s.heap.IsTuple a its.toArray from p) (by simp;omega) fun h' eb=>⟨rfl,I.turned (t':=s.toks) (fun b o hb e=>eb b o hb e) f0 f1 f3 f4 f5⟩
 self:=fun _ _ _ _ _ st h=>wpAny_pyIter_tupleiter st h
theorem xO{P:Program}{w:World}{K:PySem.W.Frag}{tg:Expr}(it:Addr)(lo:Int)(n:Nat):Turn P w K tg (Uc lo n) [it] it (fun i h=>IsRangeIter h it (lo+(i:Nat)*1) ((n:Int)-(i:Nat)) 1)where
 mem:=by simp
 obj:=fun i h st b hb=>by
  have e:b=it:=by simpa using hb
  subst e;exact⟨_,st,fun v z=>by have z':Data.fields _=Data.cell v:=z;cases z'⟩
 keep:=fun i h h' st k=>k it (by simp) _ st;item:=by intro X hP hw hK hc i pins s σ H E I hf st hg;subst hP hw hK;obtain⟨f0,f1,f2,f3,f4,f5⟩:=hf it (by simp);have W:=Walks.range (prog:=X.prog) (w:=X.w) (I.ok.hd hc) it lo 1 n;refine W.item i s _ _ hg st fun v h' tk hv st' kk=>?_;obtain⟨t,rfl⟩:=hv;have I1:Inv X pins σ H {s with heap:=h',toks:=tk}:=I.turned (fun b o hb e=>kk b o (by simpa using hb) e) f0 f1 f3 f4 f5;refine⟨_,rfl,Ax (s:={s with heap:=h',toks:=tk}) (n:="range_iterator") st' rfl rfl (by decide) ⟨.int (lo+i),H,I1,⟨t,?_⟩,⟨rfl,rfl⟩,st',fun b hb=>(hf b hb).1⟩⟩;rw[Int.mul_one]
 done:=by intro X hP hw hK hc i pins s σ H E I hf st hg;subst hP hw hK;obtain⟨f0,f1,f2,f3,f4,f5⟩:=hf it (by simp);exact wpAny_pyNext_range_end (I.ok.hd hc) st (by have:n<=i:=hg;omega) fun h' eb=>⟨rfl,I.turned (t':=s.toks) (fun b o hb e=>eb b o hb e) f0 f1 f3 f4 f5⟩
 self:=fun _ _ _ _ _ st h=>wpAny_pyIter_rangeiter st h
section
variable{X:Cx}{tg:Expr}
theorem v8{pins:List (Addr×Obj)}{σ:St}{H:Hp}{s:Shared}{R:It->Hp->Prop}{E:Value->Shared->Prop}{lo hi:Int}{t u v:Tok}{tk:Nat}(I:Inv X pins σ H s)(h1:-(2^62)<=lo)(h2:lo<2^62)(h3:-(2^62)<=hi)(h4:hi<2^62)(q:R (Uc lo (hi-lo).toNat) H):wpAny (model X.prog X.w) X.A (pyIter (.ref s.heap.objs.size)) (PIE X pins σ tg R) E {s with heap:=s.heap.push {cls:=.type "range",data:=.fields #[.int lo t,.int hi u,.int 1 v]},toks:=tk}:=by
 refine wpAny_pyIter_range (IsRange.new ..) (small_one h1 h2 h3 h4) ?_;have I1:Inv X pins σ H {s with heap:=s.heap.push {cls:=.type "range",data:=.fields #[.int lo t,.int hi u,.int 1 v]},toks:=tk}:=I.kept fun b o e=>get?_push_of_some _ e;refine⟨(s.heap.push {cls:=.type "range",data:=.fields #[.int lo t,.int hi u,.int 1 v]}).objs.size,[(s.heap.push {cls:=.type "range",data:=.fields #[.int lo t,.int hi u,.int 1 v]}).objs.size],_,_,H,rfl,I1.kept (t':=tk) fun b o e=>get?_push_of_some _ e,xO _ lo (hi-lo).toNat,?_,fun b hb=>?_,q⟩
 . have e1:lo+((0:Nat):Int)*1=lo:=by simp
   have e2:(((hi-lo).toNat:Nat):Int)-((0:Nat):Int)=Builtin.Range.rangeSize lo hi 1:=by rw[rangeSize_one];split<;>omega
   show IsRangeIter _ _ (lo+((0:Nat):Int)*1) ((((hi-lo).toNat:Nat):Int)-((0:Nat):Int)) 1;rw[e1,e2];exact get?_push_size _ rfl
 . have e:b=(s.heap.push {cls:=.type "range",data:=.fields #[.int lo t,.int hi u,.int 1 v]}).objs.size:=by simpa using hb
   subst e;exact I1.Hf (le_refl _) (I1.hok.fresh (le_refl _))
def Xf(ta:TA):TI:=fun σ H R=>ta σ H fun vs H1=>∃j:Int,vs=[.int j]/\-(2^62)<=j/\j<2^62/\R (Uc 0 j.toNat) H1
def W0(ta:TA):TI:=fun σ H R=>ta σ H fun vs H1=>∃i j:Int,vs=[.int i,.int j]/\(-(2^62)<=i/\i<2^62/\-(2^62)<=j/\j<2^62)/\R (Uc i (j-i).toNat) H1
theorem qH{a:Expr}{ta:TA}{p pos:Pos}(hg:Gl X "range")(hm:X.mg "range"=none)(ha:PA X [a] ta)(hs:starEach [a] X.env=[(false,eval a X.env)]:=by rfl):PI X tg (.Call (.Name "range" p) [a] [] pos) (Xf ta):=by intro pins s σ H R I h;refine Call_ (jN I hg hm boot_range (PyProof.Rows.callWith_type1 (bC (ha pos pins s σ H _ I h) fun us s1⟨vs,H1,I1,r1,q1⟩=>?_) hs rfl));obtain⟨j,e,q1,q2,q⟩:=q1;subst e;cases r1 with|cons r rr=>cases rr;obtain⟨t,rfl⟩:=r;exact call_range_1 (v8 I1 (by omega) (by omega) q1 q2 (by simpa using q))
theorem CG{a b:Expr}{ta:TA}{p pos:Pos}(hg:Gl X "range")(hm:X.mg "range"=none)(ha:PA X [a,b] ta)(hs:starEach [a,b] X.env=[(false,eval a X.env),(false,eval b X.env)]:=by rfl)(hs2:starEach [b] X.env=[(false,eval b X.env)]:=by rfl):PI X tg (.Call (.Name "range" p) [a,b] [] pos) (W0 ta):=by intro pins s σ H R I h;refine Call_ (jN I hg hm boot_range (PyProof.Rows.callWith_type1 (bC (ha pos pins s σ H _ I h) fun us s1⟨vs,H1,I1,r1,q1⟩=>?_) (by rw[hs,hs2]) (by rw[hs2];rfl)));obtain⟨i,j,e,⟨q1,q2,q3,q4⟩,q⟩:=q1;subst e;cases r1 with|cons r rr=>cases rr with|cons r' rr=>cases rr;obtain⟨t,rfl⟩:=r;obtain⟨t',rfl⟩:=r';exact call_range_2 (v8 I1 q1 q2 q3 q4 q)
def aaV(wi:TI)(g:TG)(tb:TS):TS:=fun D σ H=>wi σ H fun J H1=>∃W:Nat->Nat->St->Hp->Prop,(∃m,W 0 m σ H1)/\∀i m σ H,W i m σ H->(J.stop i H/\D.nx σ H)\/(J.go i H/\∃N:St->Hp->Prop,(∀σ' H',N σ' H'->∃m',m'<m/\W (i+1) m' σ' H')/\∀x H',J.M5 i H x H'->g x σ H' fun σ2 H2=>tb {D with nx:=N,ct:=N,bk:=D.nx} σ2 H2)
noncomputable def pZ(fp:List Addr)(h:Heap):List (Addr×Obj):=fp.filterMap fun b=>(h.get? b).map fun o=>(b,o)
theorem gC{fp:List Addr}{h:Heap}{b:Addr}{o:Obj}(hb:b∈fp)(e:h.get? b=some o):(b,o)∈pZ fp h:=List.mem_filterMap.mpr ⟨b,hb,by rw[e];rfl⟩
theorem Ce{fp:List Addr}{h:Heap}{p:Addr×Obj}(hp:p∈pZ fp h):p.1∈fp/\h.get? p.1=some p.2:=by obtain⟨b,hb,e⟩:=List.mem_filterMap.mp hp;cases q:h.get? b with|none=>rw[q]at e;cases e|some o=>rw[q]at e;have e':(b,o)=p:=Option.some.inj e;subst e';exact⟨hb,q⟩
theorem Inv.pinned{pins:List (Addr×Obj)}{σ:St}{H:Hp}{s:Shared}{fp:List Addr}(I:Inv X pins σ H s)(hf:∀b∈fp,oF X pins H b)(ho:∀b∈fp,∃o,s.heap.get? b=some o/\∀v,o.data≠.cell v):Inv X (pins++pZ fp s.heap) σ H s:=I.Ay fun p hp=>(mem_append.mp hp).elim (fun z=>I.pin p (mem_append_right _ z)) fun z=>by obtain⟨hb,e⟩:=Ce z;obtain⟨f0,f1,f2,_⟩:=hf p.1 hb;obtain⟨o,e',d⟩:=ho p.1 hb;rw[e]at e';cases e';exact⟨e,f0,f1,f2,d⟩
theorem Inv.kY{pins pl:List (Addr×Obj)}{σ:St}{H:Hp}{s:Shared}(I:Inv X (pins++pl) σ H s):Inv X pins σ H s:=I.Ay fun p hp=>I.pin p (mem_append_right _ (List.mem_append_left _ hp))
theorem Ds{iter:Expr}{body:List Stmt}{wi:TI}{g:TG}{tb:TS}{pos:Pos}(hp:PassesOwn (model X.prog X.w) X.A X.env X.xe)(hc:X.calm=true)(hi:PI X tg iter wi)(hg:PG X tg g)(hb:wD X body tb)(hs:∀x,foldedSetIterable iter X.env x=pure x:=by intro _;rfl):PS X (.For tg iter body [] pos) (aaV wi g tb):=by
 intro pins s σ H D I h;refine wpAny_For (bC (hi pins s σ H _ I h) fun v s1 h1=>bC h1 fun itv s2 h2=>?_) hs;obtain⟨it,fp,tn,J,H2,e,I2,T,st2,f2,W,⟨m0,w0⟩,turn⟩:=h2;subst e--what stays true of the iterator's objects through the loop
 have stat:∀{H':Hp},(∀b∈fp,H' b=none)->∀b∈fp,oF X pins H' b:=fun hn b hb=>⟨hn b hb,(f2 b hb).2⟩;refine codeAny_forLoop_any (fun n s'=>∃i σ' H',Inv X pins σ' H' s'/\tn i s'.heap/\(∀b∈fp,H' b=none)/\W i n σ' H') ?_ m0 ⟨0,σ,H2,I2,st2,fun b hb=>(f2 b hb).1,w0⟩;rintro n s3⟨i,σ3,H3,I3,st3,fr3,w3⟩;rcases turn i n σ3 H3 w3 with⟨stop,qn⟩|⟨go,N,hN,step⟩;.refine wpAny_passesOwn hp (bC (T.done X rfl rfl rfl hc i pins s3 σ3 H3 X.xe I3 (stat fr3) st3 stop) fun r s4⟨hr,I4⟩=>?_);subst hr;exact wpAny_execs_nil ⟨σ3,H3,I4,qn⟩
 . refine wpAny_passesOwn hp (bC (T.item X rfl rfl rfl hc i pins s3 σ3 H3 X.xe I3 (stat fr3) st3 go) fun r s4⟨u,hr,h4⟩=>?_);subst hr;refine wpAny_passesOwn hp (bC h4 fun _ s5⟨x,H5,I5,r5,y5,Lb,fr5⟩=>?_);have I5':=I5.pinned (stat fr5) (T.obj _ _ Lb);refine wpAny_passesOwn hp (bC (hg _ s5 σ3 H5 x u _ I5' r5 (step x H5 y5)) fun _ s6⟨σ6,H6,I6,q6⟩=>?_);refine wpAny_passesOwn hp (bC (hb _ s6 σ6 H6 _ I6 q6) fun f s7 q7=>?_);have again:∀{σ7:St}{H7:Hp},Inv X (pins++pZ fp s5.heap) σ7 H7 s7->N σ7 H7->∃m,m<n/\∃i σ' H',Inv X pins σ' H' s7/\tn i s7.heap/\(∀b∈fp,H' b=none)/\W i m σ' H':=fun{σ7 H7}I7 n7=>by obtain⟨m',hm,w7⟩:=hN σ7 H7 n7;refine⟨m',hm,i+1,σ7,H7,I7.kY,T.keep _ _ _ Lb fun b hb o e=>(I7.pin (b,o) (mem_append_right _ (mem_append_right _ (gC hb e)))).1,fun b hb=>?_,w7⟩;obtain⟨o,e,d⟩:=T.obj _ _ Lb b hb;exact(I7.pin (b,o) (mem_append_right _ (mem_append_right _ (gC hb e)))).2.1
   cases f with|next=>obtain⟨σ7,H7,I7,n7⟩:=q7;exact again I7 n7|cont=>obtain⟨σ7,H7,I7,n7⟩:=q7;exact again I7 n7|brk=>obtain⟨σ7,H7,I7,q7⟩:=q7;exact⟨σ7,H7,I7.kY,q7⟩|ret v=>obtain⟨x7,σ7,H7,I7,r7,q7⟩:=q7;exact⟨x7,σ7,H7,I7.kY,r7,q7⟩
end
abbrev R2:=V->V->Hp->VK->Prop
def fV(X:Cx)(f:Value->Value->Sem Value)(r:R2):Prop:=∀(pins:List (Addr × Obj))(s:Shared)(σ:St)(H:Hp)(x y:V)(v u:Value)(Q:VK),Inv X pins σ H s->RelV x v->RelV y u->r x y H Q->wpAny (model X.prog X.w) X.A (f v u) (EP X pins σ Q) X.xe s
def UnR(X:Cx)(f:Value->Sem Value)(r:V->Hp->VK->Prop):Prop:=∀(pins:List (Addr × Obj))(s:Shared)(σ:St)(H:Hp)(x:V)(v:Value)(Q:VK),Inv X pins σ H s->RelV x v->r x H Q->wpAny (model X.prog X.w) X.A (f v) (EP X pins σ Q) X.xe s
def dm(X:Cx)(f:Value)(r:List V->Hp->VK->Prop):Prop:=∀(pins:List (Addr × Obj))(s:Shared)(σ:St)(H:Hp)(xs:List V)(us:List Value)(Q:VK),Inv X pins σ H s->Vals xs us->r xs H Q->wpAny (model X.prog X.w) X.A (call f us) (EP X pins σ Q) X.xe s
def Qz(r:R2)(ta tb:TE):TE:=fun σ H Q=>ta σ H fun x H1=>tb σ H1 fun y H2=>r x y H2 Q
def tUn(r:V->Hp->VK->Prop)(ta:TE):TE:=fun σ H Q=>ta σ H fun x H1=>r x H1 Q
def rI(C:Int->Int->Prop)(g:Int->Int->V):R2:=fun x y H Q=>∃i j,x=.int i/\y=.int j/\C i j/\Q (g i j) H
def KC(g:Int->Int->V):R2:=fun x y H Q=>∃i j,x=.int i/\y=.int j/\Q (g i j) H
def rU(g:Int->V):V->Hp->VK->Prop:=fun x H Q=>∃i,x=.int i/\Q (g i) H
section
variable{X:Cx}{a b c:Expr}{ta tb tc:TE}{pos:Pos}
theorem PN(ha:PE X a ta)(hb:PE X b tb){pins:List (Addr×Obj)}{s:Shared}{σ:St}{H:Hp}{R:V->V->Hp->Prop}(I:Inv X pins σ H s)(h:ta σ H fun x H1=>tb σ H1 fun y H2=>R x y H2){Q:Value->Shared->Prop}{f:Value->Value->Sem Value}(hf:∀v u s2 x y H2,Inv X pins σ H2 s2->RelV x v->RelV y u->R x y H2->wpAny (model X.prog X.w) X.A (f v u) Q X.xe s2):wpAny (model X.prog X.w) X.A (eval a X.env) (fun v s₁=>wpAny (model X.prog X.w) X.A (eval b X.env) (fun u s₂=>wpAny (model X.prog X.w) X.A (f v u) Q X.xe s₂) X.xe s₁) X.xe s:=by refine bC (ha pins s σ H _ I h) fun v s1⟨x,H1,I1,r1,q1⟩=>?_;refine bC (hb pins s1 σ H1 _ I1 q1) fun u s2⟨y,H2,I2,r2,q2⟩=>?_;exact hf v u s2 x y H2 I2 r1 r2 q2
theorem V2{op:Operator}{r:R2}(ho:fV X (binaryOp op) r)(ha:PE X a ta)(hb:PE X b tb):PE X (.BinOp a op b pos) (Qz r ta tb):=by intro pins s σ H Q I h;exact wpAny_BinOp (PN ha hb I h fun v u s2 x y H2 I2 rx ry q=>ho pins s2 σ H2 x y v u Q I2 rx ry q)
theorem Xm{op:UnaryOp}{r:V->Hp->VK->Prop}(ho:UnR X (unaryOp op) r)(ha:PE X a ta):PE X (.UnaryOp op a pos) (tUn r ta):=by intro pins s σ H Q I h;exact UnaryOp_ (bC (ha pins s σ H _ I h) fun v s1⟨x,H1,I1,r1,q1⟩=>ho pins s1 σ H1 x v Q I1 r1 q1)
theorem opI{f:Value->Value->Sem Value}{C:Int->Int->Prop}{g:Int->Int->Int}(rule:∀(i j:Int)(t u:Tok)(s:Shared)(Q:Value->Shared->Prop)(E:Value->Shared->Prop),C i j->Q (.int (g i j) s.toks) {s with toks:=s.toks+1}->wpAny (model X.prog X.w) X.A (f (.int i t) (.int j u)) Q E s):fV X f (rI C fun i j=>.int (g i j)):=by intro pins s σ H x y v u Q I rx ry h;obtain⟨i,j,rfl,rfl,hc,q⟩:=h;obtain⟨t,rfl⟩:=rx;obtain⟨t',rfl⟩:=ry;exact rule i j t t' s _ _ hc ⟨.int (g i j),H,I.tok _,⟨_,rfl⟩,q⟩
theorem Wa{f:Value->Value->Sem Value}{g:Int->Int->Int}(rule:∀(i j:Int)(t u:Tok)(s:Shared)(Q:Value->Shared->Prop)(E:Value->Shared->Prop),Q (.int (g i j) s.toks) {s with toks:=s.toks+1}->wpAny (model X.prog X.w) X.A (f (.int i t) (.int j u)) Q E s):fV X f (KC fun i j=>.int (g i j)):=by intro pins s σ H x y v u Q I rx ry h;obtain⟨i,j,rfl,rfl,q⟩:=h;obtain⟨t,rfl⟩:=rx;obtain⟨t',rfl⟩:=ry;exact rule i j t t' s _ _ ⟨.int (g i j),H,I.tok _,⟨_,rfl⟩,q⟩
theorem Pq{f:Value->Value->Sem Value}{g:Int->Int->Bool}(rule:∀(i j:Int)(t u:Tok)(s:Shared)(Q:Value->Shared->Prop)(E:Value->Shared->Prop),Q (.bool (g i j)) s->wpAny (model X.prog X.w) X.A (f (.int i t) (.int j u)) Q E s):fV X f (KC fun i j=>.bl (g i j)):=by intro pins s σ H x y v u Q I rx ry h;obtain⟨i,j,rfl,rfl,q⟩:=h;obtain⟨t,rfl⟩:=rx;obtain⟨t',rfl⟩:=ry;exact rule i j t t' s _ _ ⟨.bl (g i j),H,I,rfl,q⟩
def abg(i j:Int):Prop:=0<=j/\j<=1000000/\i.natAbs<2^64
def Nr(i j:Int):Prop:=(-(2^64)<i/\i<2^64)\/(-(2^64)<j/\j<2^64)
theorem Nr.ok{i j:Int}(h:Nr i j):IntMulOk i j:=by
 rcases h with⟨h1,h2⟩|⟨h1,h2⟩;.exact .of_left (intBits_le_64 h1 h2)
 .exact .of_right (intBits_le_64 h1 h2)
theorem RN:fV X (binaryOp .Add) (KC fun i j=>.int (i+j)):=Wa fun _ _ _ _ _ _ _ q=>add_int q
theorem O7:fV X (binaryOp .Sub) (KC fun i j=>.int (i-j)):=Wa fun _ _ _ _ _ _ _ q=>sub_int q
theorem NT:fV X (binaryOp .Mult) (rI Nr fun i j=>.int (i*j)):=opI fun _ _ _ _ _ _ _ hc q=>mul_int q hc.ok
theorem Ql:fV X (binaryOp .Mod) (rI (fun _ j=>0<j) fun i j=>.int (i%j)):=opI fun i j _ _ _ _ _ hc q=>by have h1:(0:Int)<j:=hc;exact mod_int' (by omega) (by rw[Int.fmod_eq_emod_of_nonneg i (by omega)];exact q)
theorem Np:fV X (binaryOp .Pow) (rI abg fun i j=>.int (i^j.toNat)):=opI fun _ _ _ _ _ _ _ hc q=>pow_int_small hc.1 hc.2.1 hc.2.2 q
theorem unI{f:Value->Sem Value}{g:Int->Int}(rule:∀(i:Int)(t:Tok)(s:Shared)(Q:Value->Shared->Prop)(E:Value->Shared->Prop),Q (.int (g i) s.toks) {s with toks:=s.toks+1}->wpAny (model X.prog X.w) X.A (f (.int i t)) Q E s):UnR X f (rU fun i=>.int (g i)):=by intro pins s σ H x v Q I rx h;obtain⟨i,rfl,q⟩:=h;obtain⟨t,rfl⟩:=rx;exact rule i t s _ _ ⟨.int (g i),H,I.tok _,⟨_,rfl⟩,q⟩
theorem O2:UnR X (unaryOp .USub) (rU fun i=>.int (-i)):=unI fun _ _ _ _ _ q=>neg_int q
end
section
variable{X:Cx}{a b c:Expr}{ta tb tc:TE}{pos:Pos}
theorem Oe{pins:List (Addr×Obj)}{σ:St}{H:Hp}{s:Shared}{Q:VK}{k k':Bool}(I:Inv X pins σ H s)(q:Q (.bl k) H)(e:k=k'):EP X pins σ Q (.bool k') s:=by subst e;exact⟨.bl k,H,I,rfl,q⟩
theorem Xh:fV X (compareOp .Lt) (KC fun i j=>.bl (decide (i<j))):=Pq fun _ _ _ _ _ _ _ q=>lt_int q
theorem Xb:fV X (compareOp .LtE) (KC fun i j=>.bl (decide (i<=j))):=Pq fun _ _ _ _ _ _ _ q=>le_int q
theorem Vr:fV X (compareOp .Gt) (KC fun i j=>.bl (decide (j<i))):=Pq fun _ _ _ _ _ _ _ q=>gt_int q
theorem JM:fV X (compareOp .IsNot) (fun x y H Q=>y=.non/\Q (.bl (!decide (x=.non))) H):=by intro pins s σ H x y v u Q I rx ry h;obtain⟨rfl,q⟩:=h;cases ry;refine isnot_none_gen (Oe I q ?_);cases x<;>first|(cases rx;rfl)|(obtain⟨t,rfl⟩:=rx;rfl)
theorem dN(b:Expr){op:CmpOp}(h:op≠.In:=by decide)(h2:op≠.NotIn:=by decide):behindInMarks op b=false:=by
 have e1:(op==CmpOp.In)=false:=by cases op<;>first|rfl|exact absurd rfl h
 have e2:(op==CmpOp.NotIn)=false:=by cases op<;>first|rfl|exact absurd rfl h2
 cases b<;>simp[behindInMarks,e1,e2]
theorem Jf{op:CmpOp}{r:R2}(ho:fV X (compareOp op) r)(ha:PE X a ta)(hb:PE X b tb)(hm:behindInMarks op b=false):PE X (.Compare a [op] [b] pos) (Qz r ta tb):=by intro pins s σ H Q I h;exact wpAny_Compare1 (PN ha hb I h fun v u s2 x y H2 I2 rx ry q=>ho pins s2 σ H2 x y v u Q I2 rx ry q) hm
def VN(t:TE):TT:=fun σ H Q=>t σ H fun x H'=>∃k,x=.bl k/\Q k H'
theorem yU{op:CmpOp}{r:R2}(ho:fV X (compareOp op) r)(ha:PE X a ta)(hb:PE X b tb)(hm:behindInMarks op b=false):PT X (.Compare a [op] [b] pos) (VN (Qz r ta tb)):=by intro pins s σ H Q I h;refine wpAny_isTrue_Compare1 (bC (ha pins s σ H _ I h) fun v s1⟨x,H1,I1,r1,q1⟩=>bC (hb pins s1 σ H1 _ I1 q1) fun u s2⟨y,H2,I2,r2,q2⟩=>bC (ho pins s2 σ H2 x y v u _ I2 r1 r2 q2) fun c s3⟨z,H3,I3,r3,k,e,q3⟩=>?_) hm;subst e;cases r3;exact wpAny_truthy_bool ⟨H3,I3,q3⟩
theorem pK:(sizeLine:Nat)<2^63:=by rw[sizeLine_eq];decide
theorem xu:fV X (binaryOp .Add) (fun x y H Q=>∃i j,x=.str i/\y=.str j/\i.length+j.length<=sizeLine/\Q (.str (i++j)) H):=by intro pins s σ H x y v u Q I rx ry h;obtain⟨i,j,rfl,rfl,hz,q⟩:=h;obtain⟨t,rfl⟩:=rx;obtain⟨t',rfl⟩:=ry;exact add_str (fun t' tk=>⟨.str (i++j),H,I.tok _,⟨_,rfl⟩,q⟩) hz
theorem vals1{x:V}{us:List Value}(r:Vals [x] us):∃u,us=[u]/\RelV x u:=by cases r with|cons r1 r2=>cases r2;exact⟨_,rfl,r1⟩
theorem vals2{x y:V}{us:List Value}(r:Vals [x,y] us):∃u w',us=[u,w']/\RelV x u/\RelV y w':=by cases r with|cons r1 r2=>cases r2 with|cons r3 r4=>cases r4;exact⟨_,_,rfl,r1,r3⟩
theorem Cr(hc:X.calm=true):dm X (.builtin "max") (fun xs H Q=>∃i j,xs=[.int i,.int j]/\Q (.int (if j>i then j else i)) H):=by
 intro pins s σ H xs us Q I r h;obtain⟨i,j,rfl,q⟩:=h;obtain⟨u,w',rfl,⟨t,rfl⟩,⟨t',rfl⟩⟩:=vals2 r;refine max_two_ints (I.ok.hd hc) fun h' tk k=>⟨_,H,I.kept k,?_,q⟩;by_cases hj:j>i;.rw[if_pos hj,if_pos hj];exact⟨_,rfl⟩
 .rw[if_neg hj,if_neg hj];exact⟨_,rfl⟩
end
theorem m6.some_of{v:V}{o:Option Value}(r:m6 (some v) o):∃u,o=some u/\RelV v u:=by cases o with|none=>exact(show False from r).elim|some u=>exact⟨u,rfl,r⟩
structure iC(k:Nat)(A:Around):Prop where
 hd:A.handled=none
 dp:A.depth+3*k+5<recursionLimit
 un:A.units+16*k+200<cLine
theorem iC.deeper{k:Nat}{A:Around}(r:iC (k+1) A)(env:Env):iC k (A.deeper env):=⟨r.hd,by have:=r.dp;show A.depth+1+3*k+5<_;omega,by have:=r.un;show A.units+3+16*k+200<_;omega⟩
theorem iC.depth{k:Nat}{A:Around}(r:iC k A):A.depth<recursionLimit:=by have:=r.dp;omega
def abj:TA:=fun _ H Q=>Q [] H
def Vs(ta:TE)(tr:TA):TA:=fun σ H Q=>ta σ H fun x H1=>tr σ H1 fun xs H2=>Q (x::xs) H2
section
variable{X:Cx}{e:Expr}{es:List Expr}{te:TE}{t:TA}{pos:Pos}
theorem cL:PA X [] abj:=fun _ _ _ _ H Q I h=>Calls.spliced_nil ⟨[],H,I,.nil,h⟩
theorem bA(ha:PE X e te)(hr:PA X es t)(hs:starEach (e::es) X.env=(false,eval e X.env)::starEach es X.env:=by rfl):PA X (e::es) (Vs te t):=by intro pos pins s σ H Q I h;rw[hs];show wpAny _ _ (spliced ((false,eval e X.env)::backTo pos (starEach es X.env))) _ _ s;refine Calls.spliced_cons (bC (ha pins s σ H _ I h) fun u s1⟨x,H1,I1,r1,q1⟩=>?_);exact bC (hr pos pins s1 σ H1 _ I1 q1) fun us s2⟨xs,H2,I2,r2,q2⟩=>⟨x::xs,H2,I2,.cons r1 r2,q2⟩
def abd(t:TA):TE:=fun σ H Q=>t σ H fun xs H1=>xs.length<=sizeLine/\∀p,H1 p=none->Q (.ref p) (upd H1 p (.tup xs))
def abA(t:TA):TE:=fun σ H Q=>t σ H fun xs H1=>xs.length<=sizeLine/\∀p,H1 p=none->Q (.ref p) (upd H1 p (.lst xs))
theorem N7{x1}(h:PA X es t):PE X (.Tuple es x1 pos) (abd t):=by intro pins s σ H Q I hq;refine wpAny_Tuple_spliced (bC (h pos pins s σ H _ I hq) fun us s1⟨xs,H1,I1,r,z,q⟩=>⟨by rw[<-r.length];exact z,?_⟩);have hf:H1 s1.heap.objs.size=none:=I1.hok.fresh (le_refl _);refine⟨.ref s1.heap.objs.size,upd H1 s1.heap.objs.size (.tup xs),I1.laid (t':=s1.toks) (fun b u e=>get?_push_of_some _ e) (le_refl _) ?_,rfl,q _ hf⟩;exact⟨z,us,r,⟨_,get?_push_size _ rfl,rfl,_,rfl⟩⟩
theorem Qn(h:PA X es t):PE X (.List es pos) (abA t):=by intro pins s σ H Q I hq;refine wpAny_List_spliced (bC (h pos pins s σ H _ I hq) fun us s1⟨xs,H1,I1,r,z,q⟩=>⟨by rw[<-r.length];exact z,?_⟩);have hf:H1 s1.heap.objs.size=none:=I1.hok.fresh (le_refl _);refine⟨.ref s1.heap.objs.size,upd H1 s1.heap.objs.size (.lst xs),I1.laid (t':=s1.toks) (fun b u e=>get?_push_of_some _ e) (le_refl _) ?_,rfl,q _ hf⟩;exact⟨z,us,0,r,get?_push_size _ rfl⟩
end
abbrev Sp:=List V->Hp->VK->XK->Prop
abbrev DN:=List Env->Hp->Shared->XK->Value->Shared->Prop
structure JG(P:Program)(w:World)(K:PySem.W.Frag)(mg:Str->Option Value)(base:Heap)(A:Around)(outer:List Env)(s:Shared)(H:Hp):Prop where
 frames:A.frames=some outer
 mod:Mod K mg base
 bs:∀b o,base.get? b=some o->s.heap.get? b=some o/\H b=none
 M3:base.objs.size<=s.heap.objs.size
 oZ:s.heap.FunFrames base outer
 Uy:∀b∈frs outer,H b=none
 hok:lG P w H s.heap
 bare:AllBare s.gens
def CE(outer:List Env)(P:Program)(w:World)(H:Hp)(s:Shared)(Q:VK)(u:Value)(s':Shared):Prop:=∃v H',s'.os=s.os/\AllBare s'.gens/\Un (frs outer) [] H H' s.heap s'.heap/\lG P w H' s'.heap/\RelV v u/\Q v H'
def CR(CX:DN)(outer:List Env)(P:Program)(w:World)(H:Hp)(s:Shared)(Q:VK)(E:XK)(r:Result)(s':Shared):Prop:=match r with|.ok (.ret u)=>CE outer P w H s Q u s'|.ok _=>False|.error e=>CX outer H s E e s'
structure cj(P:Program)(w:World)(K:PySem.W.Frag)(mg:Str->Option Value)(base:Heap)(CX:DN)(k:Nat)(f:Addr)(fd:FuncData)(ps:List Str)(sp:Sp):Prop where
 len:∀vs H Q E,sp vs H Q E->vs.length=ps.length
 run:∀(A:Around)(outer:List Env)(s:Shared)(H:Hp)(args:Args)(us:List Value)(vs:List V)(Q:VK)(E:XK),iC k A->JG P w K mg base A outer s H->BindsTo s fd args (ps.zip us)->Vals vs us->sp vs H Q E->codeAny (model P w) A (.call (.ref f) args) (CR CX outer P w H s Q E) s
section
variable{X:Cx}{pins:List (Addr×Obj)}{σ:St}{H:Hp}{s s':Shared}
theorem Inv.env0(I:Inv X pins σ H s):JG X.prog X.w X.K X.mg X.base X.A X.stack s H:=⟨I.ok.frames,I.ok.mod,I.bs,le_trans I.ok.M3 I.sz,I.stack,I.Az,I.hok,I.bare⟩
theorem Inv.after{Q:VK}{u:Value}(I:Inv X pins σ H s)(h:CE X.stack X.prog X.w H s Q u s'):EP X pins σ Q u s':=by obtain⟨v,H',os,bare,un,hok,r,q⟩:=h;obtain⟨hh,g,d,t,os'⟩:=s';obtain rfl:os'=s.os:=os;exact⟨v,H',I.call (h':=hh) (g':=g) (d':=d) (t':=t) (ch:=[]) un hok bare (fun b z=>absurd z (by simp)),r,q⟩
end
def W4(sp:Sp)(M6:List V)(E:XK)(t:TA):TE:=fun σ H Q=>t σ H fun vs H1=>sp (vs++M6) H1 Q E
def Binds(K:PySem.W.Frag)(fd:FuncData)(ps:List Str)(ds:List Value):Prop:=∀(s:Shared)(us:List Value),K.In s.heap->(us++ds).length=ps.length->BindsTo s fd ⟨us,[]⟩ (ps.zip (us++ds))
theorem Binds.all{K:PySem.W.Frag}{fd:FuncData}{ps:List Str}(h:∀us:List Value,us.length=ps.length->bindArgs fd ⟨us,[]⟩=pure (ps.zip us)):Binds K fd ps []:=fun s us _ hl=>by rw[append_nil]at hl ⊢;exact .of_eq (h us hl)
def Passes(CX:DN)(X:Cx)(E:XK):Prop:=∀(pins:List (Addr×Obj))(σ:St)(H:Hp)(s:Shared)(e:Value)(s':Shared),Inv X pins σ H s->CX X.stack H s E e s'->X.xe e s'
section
variable{X:Cx}{CX:DN}{k:Nat}{f C:Addr}{fd:FuncData}{ps:List Str}{sp:Sp}{M6:List V}{ds:List Value}{E:XK}{x m:Str}{p pos apos:Pos}{e o:Expr}{es:List Expr}{ta:TE}{t:TA}
theorem Nt{pins:List (Addr×Obj)}{σ:St}{H:Hp}{s:Shared}{Q:VK}{us:List Value}{vs:List V}(F:cj X.prog X.w X.K X.mg X.base CX k f fd ps sp)(hr:iC k X.A)(hb:Binds X.K fd ps ds)(hd:Vals M6 ds)(hx:Passes CX X E)(I:Inv X pins σ H s)(r:Vals vs us)(h:sp (vs++M6) H Q E):wpAny (model X.prog X.w) X.A (call (.ref f) us) (EP X pins σ Q) X.xe s:=by
 have r2:Vals (vs++M6) (us++ds):=r.append hd;have hl:(us++ds).length=ps.length:=by rw[<-r2.length];exact F.len _ _ _ _ h
 refine wpAny_call (codeAny_mono (F.run X.A X.stack s H ⟨us,[]⟩ (us++ds) (vs++M6) Q E hr I.env0 (hb s us I.O8 hl) r2 h) fun r s' hq=>?_);cases r with|error e=>exact hx pins σ H s e s' I hq|ok fl=>cases fl with|ret u=>exact I.after hq|next=>exact False.elim hq|brk=>exact False.elim hq|cont=>exact False.elim hq
theorem JS(F:cj X.prog X.w X.K X.mg X.base CX k f fd ps sp)(hr:iC k X.A)(hg:Gl X x)(hm:X.mg x=some (.ref f))(hk:keepIn X.K (.ref f)=true)(hb:Binds X.K fd ps ds)(hd:Vals M6 ds)(hx:Passes CX X E)(ha:PA X (e::es) t)(hdb:(x==("__debug__":Str))=false:=by decide)(he:starEach (e::es) X.env=(false,eval e X.env)::starEach es X.env:=by rfl)(hpl:(backTo pos (starEach es X.env)).any (·.1)=false:=by rfl):PE X (.Call (.Name x p) (e::es) [] pos) (W4 sp M6 E t):=by intro pins s σ H Q I h;refine wpAny_Call_Name_kw (JW I hg hm ?_ hdb);refine PySem.W.callWith_K (h₀:=X.base) I.ok.mod.ql hk (bC (ha pos pins s σ H _ I h) fun us s1⟨vs,H1,I1,r,q⟩=>⟨I1.O8,?_⟩) he hpl;exact Nt F hr hb hd hx I1 r q
end
structure aM(N P:List Str)(sc:Scope):Prop where
 kind:sc.kind=.function
 co:sc.isCoroutine=false
 gen:sc.isGenerator=false
 nd:N.Nodup
 pre:N.take P.length=P
 par:∀x∈P,sc.names.lookup x=some .local\/sc.names.lookup x=some .cell
 R5:∀y∈sc.names,y.2≠.free
theorem rH{kindOf:Str->Option NameKind}{x:Str}:∀{binds:List (Str×Value)}{m:Str->Option Value},(∀v,(x,v)∉binds)->bindL kindOf binds m x=m x
 |[],_,_=>rfl|(n,v)::r,m,h=>by
   unfold bindL;rw[rH fun w hw=>h w (mem_cons_of_mem _ hw)];split
   . have:x≠n:=by rintro rfl;exact h v mem_cons_self
     simp[this]
   .rfl
theorem qQ{kindOf:Str->Option NameKind}{x:Str}:∀{binds:List (Str×Value)}{m:Str->Option Value},(∀v,(x,v)∉binds)->bindC kindOf binds m x=m x
 |[],_,_=>rfl|(n,v)::r,m,h=>by
   unfold bindC;rw[qQ fun w hw=>h w (mem_cons_of_mem _ hw)];split;.rfl
   . have:x≠n:=by rintro rfl;exact h v mem_cons_self
     simp[this]
theorem qY{kindOf:Str->Option NameKind}{x:Str}{v:Value}:∀{P:List Str}{vs:List Value}{i:Nat}{m:Str->Option Value},P.Nodup->P[i]?=some x->vs[i]?=some v->kindOf x=some .local->bindL kindOf (P.zip vs) m x=some v|[],_,_,_,_,h,_,_=>by simp at h|_::_,[],_,_,_,_,h,_=>by simp at h|p::P,w::vs,0,m,nd,h1,h2,hk=>by simp at h1 h2;subst h1;subst h2;show bindL kindOf ((p,w)::P.zip vs) m p=_;unfold bindL;rw[rH fun v hv=>(nodup_cons.mp nd).1 (of_mem_zip hv).1,if_pos hk];simp|p::P,w::vs,i+1,m,nd,h1,h2,hk=>by show bindL kindOf ((p,w)::P.zip vs) m x=_;unfold bindL;exact qY (i:=i) (nodup_cons.mp nd).2 (by simpa using h1) (by simpa using h2) hk
theorem rA{kindOf:Str->Option NameKind}{x:Str}{v:Value}:∀{P:List Str}{vs:List Value}{i:Nat}{m:Str->Option Value},P.Nodup->P[i]?=some x->vs[i]?=some v->kindOf x≠some .local->bindC kindOf (P.zip vs) m x=some v|[],_,_,_,_,h,_,_=>by simp at h|_::_,[],_,_,_,_,h,_=>by simp at h|p::P,w::vs,0,m,nd,h1,h2,hk=>by simp at h1 h2;subst h1;subst h2;show bindC kindOf ((p,w)::P.zip vs) m p=_;unfold bindC;rw[qQ fun v hv=>(nodup_cons.mp nd).1 (of_mem_zip hv).1,if_neg hk];simp|p::P,w::vs,i+1,m,nd,h1,h2,hk=>by show bindC kindOf ((p,w)::P.zip vs) m x=_;unfold bindC;exact rA (i:=i) (nodup_cons.mp nd).2 (by simpa using h1) (by simpa using h2) hk
noncomputable def start(N:List Str)(vs:List V):St:=vs.map some++replicate (N.length-vs.length) none
noncomputable def yj(CX:DN)(P:Program)(w:World)(K:PySem.W.Frag)(mg:Str->Option Value)(base:Heap)(N:List Str)(qual:Str)(scope:Scope)(f:Addr)(cd:Value)(A:Around)(outer:List Env)(s:Shared)(H:Hp)(E:XK):Cx where prog:=P;w:=w;K:=K;mg:=mg;base:=base;A:=A.deeper (envOfC qual scope s.heap.objs.size f cd);N:=N;s₀:=s;H₀:=H;env:=envOfC qual scope s.heap.objs.size f cd;outer:=outer;stack:=envOfC qual scope s.heap.objs.size f cd::outer;ex:=[];calm:=true;fn:=fun _=>true;pn:=[];xe:=fun e s'=>wpAny (model P w) (A.deeper (envOfC qual scope s.heap.objs.size f cd)) (leaving (envOfC qual scope s.heap.objs.size f cd) e) (fun _ s''=>CX outer H s E e s'') (fun e' s''=>CX outer H s E e' s'') s'
theorem uU{sc:Scope}{n:Nat}{x:Str}(h:sc.names.lookup x=some .cell):∃c,(cellsFrom n sc.names []).lookup x=some c:=by have q:=PySem.W.cellsFrom_some sc.names n [] (.inl h);exact Option.isSome_iff_exists.mp q
theorem Bu{CX:DN}{P:Program}{w:World}{K:PySem.W.Frag}{mg:Str->Option Value}{base:Heap}{N ps:List Str}{qual:Str}{scope:Scope}{f:Addr}{cd:Value}{A:Around}{outer:List Env}{s s1:Shared}{H:Hp}{E:XK}{us:List Value}{vs:List V}(S:aM N ps scope)(hd:A.handled=none)(e0:JG P w K mg base A outer s H)(hl:vs.length=ps.length)(r:Vals vs us)(x:InCallC s s.heap.objs.size (bindL (envOfC qual scope s.heap.objs.size f cd).kindOf (ps.zip us) fun _=>none) (cellsFrom (s.heap.objs.size+1) scope.names []) (bindC (envOfC qual scope s.heap.objs.size f cd).kindOf (ps.zip us) fun _=>none) s1):Inv (yj CX P w K mg base N qual scope f cd A outer s H E) [] (start N vs) H s1:=by
 have hpl:ps.length<=N.length:=by have:=congrArg List.length S.pre;rw[length_take]at this;omega
 obtain⟨h1,tk,rfl,hk⟩:=x.done;have Xu:∀b:Addr,b∉(yj CX P w K mg base N qual scope f cd A outer s H E).ex:=fun b z=>absurd (show b∈([]:List Addr)from z) (by simp);refine⟨⟨e0.mod,S.kind,rfl,rfl,le_refl _,fun y z c h1 h2=>?_,fun y hy=>?_,fun y c _ h=>?_,fun _=>hd,Around.frames_deeper e0.frames,.inr ⟨rfl,rfl⟩,fun b z=>absurd z (Xu b),e0.bs,e0.M3,fun b _ _=>Xu b,fun b z=>absurd z (Xu b),e0.oZ,e0.Uy⟩,rfl,e0.bare,Un.kept hk,⟨_,x.toInCall.ns,fun i y v h1 h2 h3=>?_⟩,fun y c h=>⟨_,x.cell y c h⟩,e0.hok.fresh (le_refl _),fun y c h=>?_,fun p hp=>absurd (show p∈([]:List (Addr×Obj))from hp) (by simp),e0.hok.kept hk,?_⟩;.exact name_of_addr x.apart (PySem.mem_of_lookup h1) (PySem.mem_of_lookup h2)
 . have hy:scope.names.lookup y=some .cell\/scope.names.lookup y=some .free:=hy;rcases hy with hy|hy;.exact uU hy
   .exact absurd rfl (S.R5 _ (PySem.mem_of_lookup hy))
 .exact le_of_lt (x.above y c (PySem.mem_of_lookup h))
 . have hi:i<vs.length:=by
    unfold start at h2;by_cases hi:i<vs.length;.exact hi
    .rw[getElem?_append_right (by simpa using hi)]at h2;rw[List.getElem?_replicate]at h2;split at h2<;>cases h2
   have ha:vs[i]?=some v:=by unfold start at h2;rw[getElem?_append_left (by simpa using hi),getElem?_map]at h2;cases e:vs[i]?with|none=>rw[e]at h2;cases h2|some a=>rw[e]at h2;cases h2;rfl
   obtain⟨u,hu,rv⟩:=r.get ha;have hp:ps[i]?=some y:=by rw[<-S.pre,List.getElem?_take_of_lt (by omega)];exact h1
   have ndP:ps.Nodup:=by rw[<-S.pre];exact S.nd.sublist (List.take_sublist _ _)
   refine⟨u,rv,?_⟩;rcases S.par y (mem_of_getElem? hp)with k|k;.exact .inl ⟨k,qY ndP hp hu k⟩
   .obtain⟨c,e⟩:=uU (n:=s.heap.objs.size+1) k;refine .inr ⟨.inl k,c,e,?_⟩;have q:=x.cell y c e;rw[rA ndP hp hu (by show scope.names.lookup y≠_;rw[k];decide)]at q;exact q
 .exact e0.hok.fresh (le_of_lt (x.above y c (PySem.mem_of_lookup h)))
 .unfold start;show _=N.length;rw[length_append,length_map,List.length_replicate];omega
theorem Vm{CX:DN}{P:Program}{w:World}{K:PySem.W.Frag}{mg:Str->Option Value}{base:Heap}{k:Nat}{f:Addr}{name qual:Str}{params:Arguments}{body:List Stmt}{scope:Scope}{dV kV doc pm cdv ct oc:Value}{an od:Option Addr}{osl:Array (Option Value)}{N ps:List Str}{sp:Sp}(lk:K.lookup f=some ⟨oc,od,.func (PySem.W.fnOf name qual params body scope dV kV doc pm an cdv ct),osl⟩)(hcd:PySem.W.codeIn K cdv qual=true)(S:aM N ps scope)(len:∀vs H Q E,sp vs H Q E->vs.length=ps.length)(hbody:∀(A:Around)(outer:List Env)(s:Shared)(H:Hp)(vs:List V)(Q:VK)(E:XK),iC k (A.deeper (envOfC qual scope s.heap.objs.size f cdv))->sp vs H Q E->∃t,wD (yj CX P w K mg base N qual scope f cdv A outer s H E) body t/\t {nx:=fun _ H'=>Q .non H',rt:=Q} (start N vs) H):cj P w K mg base CX (k+1) f (PySem.W.fnOf name qual params body scope dV kV doc pm an cdv ct) ps sp:=by
 refine⟨len,fun A outer s H args us vs Q E hr e0 hb r hsp=>?_⟩;have hl:=len _ _ _ _ hsp;have KX:K.In s.heap:=e0.mod.ql.keeps fun b o e=>(e0.bs b o e).1;have lim:s.heap.NoLimit:=e0.mod.nolimit.keeps fun b o e=>(e0.bs b o e).1;have hkind:∀y∈ps.zip us,scope.names.lookup y.1=some .local\/(scope.names.lookup y.1=some .cell/\((cellsFrom (s.heap.objs.size+1) scope.names []).lookup y.1).isSome=true):=fun⟨n,v⟩hy=>by
  rcases S.par n (of_mem_zip hy).1 with q|q;.exact .inl q
  .exact .inr ⟨q,PySem.W.cellsFrom_some _ _ _ (.inl q)⟩
 refine codeAny_call_function hr.depth (KX _ _ lk) rfl S.co S.gen rfl (PySem.W.codeRec_of KX hcd) (hb _ _ _ _ ?_);refine wpAny_newFunctionEnv_cells S.kind hkind fun env he s1 x=>?_;subst he;refine⟨lim.keeps x.toInCall.keep,codeAny_func ?_⟩;obtain⟨t,ht,hq⟩:=hbody A outer s H vs Q E (hr.deeper _) hsp;have I:Inv (yj CX P w K mg base N qual scope f cdv A outer s H E) [] (start N vs) H s1:=Bu S hr.hd e0 hl r x;refine wpAny_mono (ht [] s1 (start N vs) H _ I hq) (fun fl s' hs=>?_) fun e s' hs=>hs;have fin:∀{σ':St}{H':Hp}{v:V}{u:Value},Inv (yj CX P w K mg base N qual scope f cdv A outer s H E) [] σ' H' s'->RelV v u->Q v H'->CE outer P w H s Q u s':=fun{σ' H' v u}J rv q=>⟨v,H',J.os,J.bare,J.base,J.hok,rv,q⟩;cases fl with|ret u=>obtain⟨v,σ',H',J,rv,q⟩:=hs;exact fin J rv q|next=>obtain⟨σ',H',J,q⟩:=hs;exact fin (v:=V.non) (u:=Value.none) J rfl q|brk=>obtain⟨_,_,_,q⟩:=hs;exact False.elim q|cont=>obtain⟨_,_,_,q⟩:=hs;exact False.elim q
section
variable{X:Cx}{x:Str}{p pos:Pos}{e:Expr}{es:List Expr}{t:TA}{id T:String}{r:List V->Hp->VK->Prop}
def Yo(r:List V->Hp->VK->Prop)(t:TA):TE:=fun σ H Q=>t σ H fun vs H1=>r vs H1 Q
theorem dY(hc:dm X (.builtin id) r)(hg:Gl X x)(hm:X.mg x=none)(hv:bootBuiltins x=some (.builtin id))(ha:PA X (e::es) t)(hn:x≠"__name__":=by decide)(hdb:(x==("__debug__":Str))=false:=by decide)(he:starEach (e::es) X.env=(false,eval e X.env)::starEach es X.env:=by rfl)(hpl:(backTo pos (starEach es X.env)).any (·.1)=false:=by rfl):PE X (.Call (.Name x p) (e::es) [] pos) (Yo r t):=by intro pins s σ H Q I h;refine wpAny_Call_Name_kw (jN I hg hm hv ?_ hn hdb);exact PyProof.Rows.callWith_builtin1 (bC (ha pos pins s σ H _ I h) fun us s1⟨vs,H1,I1,r1,q1⟩=>hc pins s1 σ H1 vs us Q I1 r1 q1) he hpl
theorem je(hc:dm X (.type T) r)(hg:Gl X x)(hm:X.mg x=none)(hv:bootBuiltins x=some (.type T))(ha:PA X (e::es) t)(hn:x≠"__name__":=by decide)(hdb:(x==("__debug__":Str))=false:=by decide)(he:starEach (e::es) X.env=(false,eval e X.env)::starEach es X.env:=by rfl)(hpl:(backTo pos (starEach es X.env)).any (·.1)=false:=by rfl):PE X (.Call (.Name x p) (e::es) [] pos) (Yo r t):=by intro pins s σ H Q I h;refine wpAny_Call_Name_kw (jN I hg hm hv ?_ hn hdb);exact PyProof.Rows.callWith_type1 (bC (ha pos pins s σ H _ I h) fun us s1⟨vs,H1,I1,r1,q1⟩=>hc pins s1 σ H1 vs us Q I1 r1 q1) he hpl
end
end L2
namespace HT
open PySem PyProof.Rows
section
variable{prog:Program}{w:World}{A:Around}{E:Value->Shared->Prop}{s:Shared}
theorem JF{t b:Addr}{vs ws:List Value}{Q:Value->Shared->Prop}(ht:IsTup s.heap t vs.toArray)(hb:IsTup s.heap b ws.toArray)(hv:vs≠[])(h1:ws=[]->Q (.ref t) s)(h2:ws≠[]->Q (.ref s.heap.objs.size) {s with heap:=s.heap.push {cls:=.type "tuple",data:=.seq (vs++ws).toArray}})(hsz:vs.length+ws.length<=sizeLine):wpAny (model prog w) A (binaryOp .Add (.ref t) (.ref b)) Q E s:=by
 obtain⟨⟨cls,dd,data,sl⟩,ho,hc,n,hd⟩:=id ht;obtain⟨⟨cls2,dd2,data2,sl2⟩,ho2,hc2,n2,hd2⟩:=id hb;simp only at hc hd hc2 hd2;subst hc hd hc2 hd2;have e:vs.toArray++ws.toArray=(vs++ws).toArray:=by simp
 by_cases hw:ws=[];.exact concat_meets ⟨_,ho,rfl⟩ ⟨_,ho2,rfl⟩ noFill_tuple_add seq_tuple_add slot_tuple_add entry_tuple_add (args_tuple_add_2 _ _) (tuple_addW1 t b vs.toArray ws.toArray n n2 dd dd2 sl sl2 (by simpa using hv) (by simp[hw])) ⟨ho,ho2,h1 hw⟩
 .refine concat_meets ⟨_,ho,rfl⟩ ⟨_,ho2,rfl⟩ noFill_tuple_add seq_tuple_add slot_tuple_add entry_tuple_add (args_tuple_add_2 _ _) (tuple_addW2 t b vs.toArray ws.toArray n n2 dd dd2 sl sl2 (by simpa using hv) (by simpa using hw) (by rw[size_toArray,size_toArray];exact hsz)) ⟨ho,ho2,?_⟩;rw[e];exact h2 hw
noncomputable def cF(n d:Nat):Option Int->Nat|none=>d|some v=>if v<0 then(v+(n:Int)).toNat else min v.toNat n
theorem Qy(n d:Nat)(hd:d<=n)(o:Option Int):cF n d o<=n:=by cases o with|none=>exact hd|some v=>
   show(if v<0 then(v+(n:Int)).toNat else min v.toNat n)<=n;by_cases hv:v<0;.rw[if_pos hv];omega
   .rw[if_neg hv];exact Nat.min_le_right _ _
theorem zO(v:Int)(n d:Nat):(if v<0 then max (v+(n:Int)) 0 else min v (n:Int))=((cF n d (some v):Nat):Int):=by
 show(if v<0 then max (v+(n:Int)) 0 else min v (n:Int))=(((if v<0 then(v+(n:Int)).toNat else min v.toNat n):Nat):Int);by_cases hv:v<0;.simp only[if_pos hv];omega
 .simp only[if_neg hv];omega
theorem yg(lo hi:Option Int)(n:Nat):sliceAdjust lo hi 1 (n:Int)=(((cF n 0 lo:Nat):Int),((cF n n hi:Nat):Int)):=by
 have h1:¬((1:Int)<0):=by omega
 unfold sliceAdjust;simp only[h1,if_false];refine Prod.ext ?_ ?_;.cases lo with|none=>rfl|some v=>exact zO v n 0
 .cases hi with|none=>rfl|some v=>exact zO v n n
theorem yq(i j:Nat):slicePlaces (i:Int) (j:Int) 1=j-i:=by
 unfold slicePlaces;have h1:(1:Int)>0:=by omega
 simp only[h1,if_true,Int.ediv_one];split<;>omega
theorem oM{v:Value}{o:Option Int}{Q:Option Int->Shared->Prop}(p:IsPart v o)(h:Q o s):wpAny (model prog w) A (Builtin.Slice.slicePartIndex v) Q E s:=by cases p with|none=>exact slicePart_none h|int i t=>exact slicePart_int h
theorem fX{sl:Addr}{vl vu:Value}{lo hi:Option Int}{n:Nat}{Q:Int×Int×Nat->Shared->Prop}(hs:s.heap.IsSliceOf sl vl vu .none)(pl:IsPart vl lo)(pu:IsPart vu hi)(h:Q (((cF n 0 lo:Nat):Int),1,cF n n hi-cF n 0 lo) s):wpAny (model prog w) A (sliceApplied (.ref sl) (pure (n:Int))) Q E s:=by obtain⟨os,hos,hcs,hds⟩:=id hs;unfold sliceApplied Builtin.Slice.sliceFields;refine wpAny_bind (wpAny_bind (wpAny_field hos hds (x:=vl) rfl (wpAny_bind (wpAny_field hos hds (x:=vu) rfl (wpAny_bind (wpAny_field hos hds (x:=.none) rfl (wpAny_pure ?_)))))));refine wpAny_bind (slicePart_none ?_);show wpAny _ _ (if((1:Int)==0)=true then _ else _) _ _ s;rw[if_neg (by decide)];refine wpAny_bind (oM pl (wpAny_bind (oM pu (wpAny_bind (wpAny_pure ?_)))));show wpAny _ _ (match sliceAdjust lo hi 1 (n:Int)with|(lo,hi)=>pure (lo,(1:Int),slicePlaces lo hi 1)) _ _ s;rw[yg lo hi n];show wpAny _ _ (pure (((cF n 0 lo:Nat):Int),(1:Int),slicePlaces ((cF n 0 lo:Nat):Int) ((cF n n hi:Nat):Int) 1)) _ _ s;rw[yq];exact wpAny_pure h
theorem Hk(xs:Array Value)(i k:Nat):((List.range k).filterMap fun(m:Nat)=>xs[((i:Int)+(m:Int)*1).toNat]?).toArray=((xs.toList.drop i).take k).toArray:=by
 have e:(fun(m:Nat)=>xs[((i:Int)+(m:Int)*1).toNat]?)=fun m=>xs[i+m]?:=by
  funext m;have:((i:Int)+(m:Int)*1).toNat=i+m:=by omega
  rw[this]
 rw[e];have:=pick_run xs i k;rw[List.filterMap_map]at this;have e2:((fun x=>xs[x]?)∘ fun x=>i+x)=fun m=>xs[i+m]?:=rfl;rw[e2]at this;rw[this]
theorem kJ{t sl:Addr}{items:Array Value}{vl vu:Value}{lo hi:Option Int}{Q:Value->Shared->Prop}(ht:IsTup s.heap t items)(hs:s.heap.IsSliceOf sl vl vu .none)(pl:IsPart vl lo)(pu:IsPart vu hi)(hw:¬(cF items.size 0 lo=0/\cF items.size items.size hi=items.size))(h:Q (.ref s.heap.objs.size) {s with heap:=s.heap.push {cls:=.type "tuple",data:=.seq ((items.toList.drop (cF items.size 0 lo)).take (cF items.size items.size hi-cF items.size 0 lo)).toArray}})(hsz:items.size<=sizeLine):wpAny (model prog w) A (getItem (.ref t) (.ref sl)) Q E s:=by
 have Bc:sizeOk (.seq ((items.toList.drop (cF items.size 0 lo)).take (cF items.size items.size hi-cF items.size 0 lo)).toArray):=by show((items.toList.drop (cF items.size 0 lo)).take (cF items.size items.size hi-cF items.size 0 lo)).toArray.size<=sizeLine;rw[size_toArray,length_take,length_drop,length_toList];omega
 have hj:cF items.size items.size hi<=items.size:=Qy _ _ (le_refl _) hi;obtain⟨os,hos,hcs,hds⟩:=id hs;have hTs:s.TypeIs (.ref sl) "slice":=⟨os,hos,hcs⟩;unfold getItem;try with_reducible refine wpAny_holding ?_
 first|refine wpAny_bind (wpAny_pure ?_)|skip
 refine wpAny_bind (wpAny_sequenceKey ht.typeIs (by decide) ?_);refine wpAny_bind (wpAny_callSpecial?_slot (name:=Str.ofString "__getitem__") ht.typeIs PyProof.Rows.slot_tuple_getitem (wpAny_call_entry PyProof.Rows.slot_tuple_getitem ht.typeIs entry_tuple_getitem ?_ (args_tuple_getitem _ _)));show wpAny _ _ (tupleItemsOf (.ref t)>>=_) _ _ s;refine wpAny_bind (tupleItemsOf_ ht ?_);refine wpAny_bind (wpAny_typeOf hTs ?_);rw[if_pos (by decide)];refine wpAny_bind (fX hs pl pu ?_);have hno:¬((((cF items.size 0 lo:Nat):Int)==0&&(1:Int)==1&&(cF items.size items.size hi-cF items.size 0 lo)==items.size)=true):=by intro q;rw[and_eq_true,and_eq_true]at q;have q1:((cF items.size 0 lo:Nat):Int)=0:=eq_of_beq q.1.1;have q2:cF items.size items.size hi-cF items.size 0 lo=items.size:=eq_of_beq q.2;exact hw ⟨by omega,by omega⟩
 show wpAny _ _ (if(((cF items.size 0 lo:Nat):Int)==0&&(1:Int)==1&&(cF items.size items.size hi-cF items.size 0 lo)==items.size)=true then _ else _) _ _ s;rw[if_neg hno,Hk];first|exact wpAny_bind (m:=tupleExact _) (wpAny_newObj_type (wpAny_pure ⟨_,rfl,wpAny_pure h⟩) Bc)|exact wpAny_bind (m:=tupleExact _) (wpAny_newObj_type (wpAny_bind (wpAny_pure (wpAny_pure ⟨_,rfl,wpAny_pure h⟩))) Bc)|exact wpAny_bind (wpAny_bind (m:=tupleExact _) (wpAny_newObj_type (wpAny_pure (wpAny_pure ⟨_,rfl,wpAny_pure h⟩)) Bc))|exact wpAny_bind (wpAny_bind (m:=tupleExact _) (wpAny_newObj_type (wpAny_pure ⟨_,rfl,wpAny_pure h⟩) Bc))
end
end HT
namespace L2
open PySem PySem.Spec PyProof.Rows
abbrev TO:=St->Hp->(Option Int->Hp->Prop)->Prop
def PO(X:Cx)(e:Option Expr)(t:TO):Prop:=∀(pins:List (Addr × Obj))(s:Shared)(σ:St)(H:Hp)(Q:Option Int->Hp->Prop),Inv X pins σ H s->t σ H Q->wpAny (model X.prog X.w) X.A (evalPart e X.env) (fun u s'=>∃o H',Inv X pins σ H' s'/\IsPart u o/\Q o H') X.xe s
def J0:TO:=fun _ H Q=>Q none H
def VF(t:TE):TO:=fun σ H Q=>t σ H fun x H1=>∃i,x=.int i/\Q (some i) H1
section
variable{X:Cx}{e:Expr}{te:TE}{lo hi:Option Expr}{tl th:TO}{pos p2:Pos}
theorem Ir:PO X none J0:=by intro pins s σ H Q I h;rw[evalPart_none];exact wpAny_pure ⟨none,H,I,.none,h⟩
theorem Kd(h:PE X e te):PO X (some e) (VF te):=by intro pins s σ H Q I hw;rw[evalPart_some];refine bC (h pins s σ H _ I hw) fun u s1⟨x,H1,I1,r1,q1⟩=>?_;obtain⟨i,rfl,q⟩:=q1;obtain⟨t,rfl⟩:=r1;exact⟨some i,H1,I1,.int i t,q⟩
def ZS(X:Cx)(r:V->Option Int->Option Int->Hp->VK->Prop):Prop:=∀(pins:List (Addr × Obj))(s:Shared)(σ:St)(H:Hp)(x:V)(v vl vu:Value)(lo hi:Option Int)(sl:Addr)(Q:VK),Inv X pins σ H s->RelV x v->s.heap.IsSliceOf sl vl vu .none->IsPart vl lo->IsPart vu hi->r x lo hi H Q->∃T id,typeLookup (.type T) "__getitem__"=pure (some (.builtin id))/\s.TypeIs v T/\wpAny (model X.prog X.w) X.A (getItem v (.ref sl)) (EP X pins σ Q) X.xe s
def tSl(r:V->Option Int->Option Int->Hp->VK->Prop)(te:TE)(tl th:TO):TE:=fun σ H Q=>te σ H fun x H1=>tl σ H1 fun l H2=>th σ H2 fun u H3=>r x l u H3 Q
theorem v7{r:V->Option Int->Option Int->Hp->VK->Prop}(hr:ZS X r)(he:PE X e te)(hl:PO X lo tl)(hu:PO X hi th):PE X (.Subscript e (.Slice lo hi none p2) pos) (tSl r te tl th):=by intro pins s σ H Q I h;refine Subscript_ (bC (he pins s σ H _ I h) fun v s1⟨x,H1,I1,r1,q1⟩=>?_);refine wpAny_Slice (bC (hl pins s1 σ H1 _ I1 q1) fun vl s2⟨l,H2,I2,pl,q2⟩=>bC (hu pins s2 σ H2 _ I2 q2) fun vu s3⟨u,H3,I3,pu,q3⟩=>?_);rw[evalPart_none];refine wpAny_pure ?_;have I4:Inv X pins σ H3 {s3 with heap:=s3.heap.push {cls:=.type "slice",data:=.fields #[vl,vu,.none]}}:=I3.kept (t':=s3.toks) fun b ob q=>get?_push_of_some _ q;obtain⟨T,id,hT,ht,hg⟩:=hr pins {s3 with heap:=s3.heap.push {cls:=.type "slice",data:=.fields #[vl,vu,.none]}} σ H3 x v vl vu l u s3.heap.objs.size Q I4 r1 (Heap.IsSliceOf.new ..) pl pu q3;show wpAny (model X.prog X.w) X.A (subscriptTail e (.Slice lo hi none p2) v (.ref s3.heap.objs.size)) (EP X pins σ Q) X.xe {s3 with heap:=s3.heap.push {cls:=.type "slice",data:=.fields #[vl,vu,.none]}};exact tail_any (ops:=[.ref s3.heap.objs.size,v]) ht hT hg (by with_unfolding_all rfl)
noncomputable def vm(xs:List V)(lo hi:Option Int):List V:=(xs.drop (HT.cF xs.length 0 lo)).take (HT.cF xs.length xs.length hi-HT.cF xs.length 0 lo)
theorem mV(xs:List V)(lo hi:Option Int):(vm xs lo hi).length<=xs.length:=by unfold vm;rw[length_take,length_drop];omega
def aaJ(K:PySem.W.Frag):V->Option Int->Option Int->Hp->VK->Prop:=fun x lo hi H Q=>∃a xs,x=.ref a/\jm K H a xs/\¬(HT.cF xs.length 0 lo=0/\HT.cF xs.length xs.length hi=xs.length)/\∀p,H p=none->Q (.ref p) (upd H p (.tup (vm xs lo hi)))
theorem Om:ZS X (aaJ X.K):=by
 intro pins s σ H x v vl vu lo hi sl Q I rx hs pl pu h;obtain⟨a,xs,rfl,hx,hw,q⟩:=h;cases rx;obtain⟨its,r,ht,hz⟩:=I.tuple hx;have hlen:its.toArray.size=xs.length:=by rw[size_toArray];exact r.length.symm
 refine⟨"tuple",_,PyProof.Rows.slot_tuple_getitem.lookup,ht.typeIs,?_⟩;refine HT.kJ ht hs pl pu (by rw[hlen];exact hw) ?_ (by rw[hlen];exact hz);rw[hlen];refine⟨.ref s.heap.objs.size,_,I.laid (t':=s.toks) (o:=.tup (vm xs lo hi)) (fun b ob q=>get?_push_of_some _ q) (le_refl _) ?_,rfl,q _ (I.hok.fresh (le_refl _))⟩;exact⟨le_trans (mV xs lo hi) hz,_,(r.drop (HT.cF xs.length 0 lo)).take (HT.cF xs.length xs.length hi-HT.cF xs.length 0 lo),IsTup.new _ _⟩
def WT(K:PySem.W.Frag):R2:=fun x y H Q=>∃a b xs ys,x=.ref a/\y=.ref b/\jm K H a xs/\jm K H b ys/\xs≠[]/\xs.length+ys.length<=sizeLine/\(ys=[]->Q (.ref a) H)/\(ys≠[]->∀p,H p=none->Q (.ref p) (upd H p (.tup (xs++ys))))
theorem Vals.nM{xs:List V}{us:List Value}(r:Vals xs us):us=[]↔xs=[]:=by cases r with|nil=>simp|cons _ _=>simp
theorem Ke:fV X (binaryOp .Add) (WT X.K):=by intro pins s σ H x y v u Q I rx ry h;obtain⟨a,b,xs,ys,rfl,rfl,ha,hb,hx,hz,q1,q2⟩:=h;cases rx;cases ry;obtain⟨its,r1,p1,_⟩:=I.tuple ha;obtain⟨its2,r2,p2,_⟩:=I.tuple hb;refine HT.JF p1 p2 (fun z=>hx (r1.nM.mp z)) (fun z=>⟨.ref a,H,I,rfl,q1 (r2.nM.mp z)⟩) (fun z=>?_) (by rw[<-r1.length,<-r2.length];exact hz);refine⟨.ref s.heap.objs.size,_,I.laid (t':=s.toks) (o:=.tup (xs++ys)) (fun b ob q=>get?_push_of_some _ q) (le_refl _) ?_,rfl,q2 (fun w=>z (r2.nM.mpr w)) _ (I.hok.fresh (le_refl _))⟩;exact⟨by rw[length_append];exact hz,_,r1.append r2,IsTup.new _ _⟩
end
noncomputable def gB(n:Nat)(i:Int):Option Nat:=if 0<=i then(if i<n then some i.toNat else none)else if-(n:Int)<=i then some (i+n).toNat else none
noncomputable def DQ{α:Type}(xs:List α)(i:Int):Option α:=(gB xs.length i).bind fun j=>xs[j]?
theorem Ar{n:Nat}{i:Int}{j:Nat}(h:gB n i=some j):seqIndex? i n=some j/\j<n/\-(n:Int)<=i/\i<n:=by
 unfold gB at h;by_cases h0:0<=i
 . rw[if_pos h0]at h;by_cases h1:i<n;.rw[if_pos h1]at h;have e:i.toNat=j:=Option.some.inj h;exact⟨by rw[seqIndex_of h0 h1,e],by omega,by omega,h1⟩
   .rw[if_neg h1]at h;cases h
 . rw[if_neg h0]at h;by_cases h1:-(n:Int)<=i;.rw[if_pos h1]at h;have e:(i+n).toNat=j:=Option.some.inj h;exact⟨by rw[seqIndex_neg (by omega) h1,e],by omega,h1,by omega⟩
   .rw[if_neg h1]at h;cases h
theorem tG{α:Type}{xs:List α}{i:Int}{v:α}(h:DQ xs i=some v):∃j,seqIndex? i xs.length=some j/\xs[j]?=some v/\j<xs.length/\-(xs.length:Int)<=i/\i<xs.length:=by unfold DQ at h;cases e:gB xs.length i with|none=>rw[e]at h;cases h|some j=>rw[e]at h;obtain⟨h1,h2,h3,h4⟩:=Ar e;exact⟨j,h1,h,h2,h3,h4⟩
def uv(b:Expr):Prop:=∀o i,subscripted b false o i=operate [o,i] (getItem o i)
def Yt(X:Cx)(r:R2):Prop:=∀(value slice:Expr)(pins:List (Addr × Obj))(s:Shared)(σ:St)(H:Hp)(x y:V)(v u:Value)(Q:VK),Inv X pins σ H s->RelV x v->RelV y u->r x y H Q->subscripted slice false v u=operate [v,u] (getItem v u)->wpAny (model X.prog X.w) X.A (subscriptTail value slice v u) (EP X pins σ Q) X.xe s
def MtR(X:Cx)(id:String)(r:V->List V->Hp->VK->Prop):Prop:=∀(pins:List (Addr × Obj))(s:Shared)(σ:St)(H:Hp)(x:V)(xs:List V)(v:Value)(us:List Value)(Q:VK),Inv X pins σ H s->RelV x v->Vals xs us->r x xs H Q->wpAny (model X.prog X.w) X.A (call (.builtin id) (v::us)) (EP X pins σ Q) X.xe s
section
variable{X:Cx}{a b:Expr}{ta tb:TE}{pos:Pos}
theorem Mr{r:R2}(hr:Yt X r)(ha:PE X a ta)(hb:PE X b tb)(hs:uv b):PE X (.Subscript a b pos) (Qz r ta tb):=by intro pins s σ H Q I h;exact Subscript_ (PN ha hb I h fun v u s2 x y H2 I2 rx ry q=>hr a b pins s2 σ H2 x y v u Q I2 rx ry q (hs _ _))
def W6(K:PySem.W.Frag):R2:=fun x y H Q=>∃p xs i v,x=.ref p/\y=.int i/\dz K H p xs/\DQ xs i=some v/\Q v H
def aba(K:PySem.W.Frag):R2:=fun x y H Q=>∃p xs i v,x=.ref p/\y=.int i/\jm K H p xs/\DQ xs i=some v/\Q v H
theorem Aw:Yt X (W6 X.K):=by
 intro value slice pins s σ H x y v u Q I rx ry h hs;obtain⟨p,xs,i,z,rfl,rfl,hq,he,q⟩:=h;cases rx;obtain⟨t,rfl⟩:=ry;obtain⟨its,r,pl,hz⟩:=I.list hq;obtain⟨j,h1,h2,h3,h4,h5⟩:=tG he;obtain⟨w,ew,uD⟩:=r.get h2;have hl:=r.length;have hn:=pK;have fin:EP X pins σ Q w s:=⟨z,H,I,uD,q⟩;by_cases h0:0<=i
 . have hj:i.toNat=j:=by rw[seqIndex_of h0 h5]at h1;exact Option.some.inj h1
   exact item_listR pl.isList h0 (by omega) (by rw[hj];simpa using ew) fin hs
 . have hj:(i+(its.toArray.size:Int)).toNat=j:=by rw[seqIndex_neg (by omega) h4]at h1;rw[size_toArray,<-hl];exact Option.some.inj h1
   exact subscriptTail_builtinR (x:=w) pl.isList.typeIs slot_list_getitem.lookup (wpAny_getItem_list_neg (Q:=fun r s'=>r=w/\EP X pins σ Q r s') pl.isList (by omega) (by rw[size_toArray]<;>omega) (by omega) (by rw[hj];simpa using ew) ⟨rfl,fin⟩) hs
theorem Qc:Yt X (aba X.K):=by intro value slice pins s σ H x y v u Q I rx ry h hs;obtain⟨p,xs,i,z,rfl,rfl,hq,he,q⟩:=h;cases rx;obtain⟨t,rfl⟩:=ry;obtain⟨its,r,pl,hz⟩:=I.tuple hq;obtain⟨j,h1,h2,h3,h4,h5⟩:=tG he;obtain⟨w,ew,uD⟩:=r.get h2;have hl:=r.length;have hn:=pK;have fin:EP X pins σ Q w s:=⟨z,H,I,uD,q⟩;exact subscriptTail_builtinR (x:=w) pl.typeIs slot_tuple_getitem.lookup (getItem_tuple (j:=j) (Q:=fun r s'=>r=w/\EP X pins σ Q r s') pl (by omega) (by omega) (by rw[size_toArray,<-hl];exact h1) (by simpa using ew) ⟨rfl,fin⟩) hs
theorem xZ(its:List Value)(n j:Nat)(u:Value):Obj.mapSeq (·.setIfInBounds j u) {cls:=.type "list",data:=.seq its.toArray n}={cls:=.type "list",data:=.seq (its.set j u).toArray n}:=by simp[Obj.mapSeq]
theorem Inv.lst{pins:List (Addr×Obj)}{σ:St}{H:Hp}{s:Shared}{p:Addr}{xs:List V}(I:Inv X pins σ H s)(h:H p=some (.lst xs)):∃(its:List Value)(n:Nat),Vals xs its/\s.heap.get? p=some {cls:=.type "list",data:=.seq its.toArray n}/\xs.length<=sizeLine:=by obtain⟨z,its,n,r,e⟩:=I.hok p _ h;exact⟨its,n,r,e,z⟩
theorem Inv.Rz{pins:List (Addr×Obj)}{σ:St}{H:Hp}{s:Shared}{p:Addr}{xs ys:List V}{its its':List Value}{n n':Nat}{f:Obj->Obj}(I:Inv X pins σ H s)(h:H p=some (.lst xs))(ho:s.heap.get? p=some {cls:=.type "list",data:=.seq its.toArray n})(hf:f {cls:=.type "list",data:=.seq its.toArray n}={cls:=.type "list",data:=.seq its'.toArray n'})(r:Vals ys its')(hz:ys.length<=sizeLine)(t:Nat):Inv X pins σ (upd H p (.lst ys)) {s with heap:=s.heap.update p f,toks:=t}:=by
 have e:(s.heap.update p f).get? p=some {cls:=.type "list",data:=.seq its'.toArray n'}:=by rw[get?_update_self f ho (by rw[hf]<;>rfl),hf]
 refine I.write (x:=p) (e:=p) (by rw[h];trivial) (.inl rfl) (fun b u hb q=>(get?_update_other _ _ (Ne.symm hb)).trans q) ⟨_,e⟩ ?_;exact⟨hz,its',n',r,e⟩
def Wi:V->V->V->Hp->(Hp->Prop)->Prop:=fun o i v H Q=>∃p xs k j,o=.ref p/\i=.int k/\H p=some (.lst xs)/\gB xs.length k=some j/\Q (upd H p (.lst (xs.set j v)))
theorem set_list:Rp X Wi:=by
 intro pins s σ H o i v ov iv u Q I ro ri rv h;obtain⟨p,xs,k,j,rfl,rfl,hp,hj,q⟩:=h;cases ro;obtain⟨t,rfl⟩:=ri;obtain⟨its,n,r,ho,hz⟩:=I.lst hp;obtain⟨h1,h2,h3,h4⟩:=Ar hj;have hl:=r.length;have hn:=pK;have I':Inv X pins σ (upd H p (.lst (xs.set j v))) {s with heap:=s.heap.update p (Obj.mapSeq (·.setIfInBounds j u))}:=I.Rz hp ho (xZ its n j u) (r.set rv j) (by rw[List.length_set];exact hz) s.toks;by_cases h0:0<=k
 . have hk:k.toNat=j:=by rw[seqIndex_of h0 h4]at h1;exact Option.some.inj h1
   exact PySem.W.ki_setAt ho h0 (by omega) (by rw[size_toArray,<-hl];exact h4) (by rw[hk];exact⟨_,I',q⟩)
 . have hk:(k+(its.toArray.size:Int)).toNat=j:=by rw[seqIndex_neg (by omega) h3]at h1;rw[size_toArray,<-hl];exact Option.some.inj h1
   exact PySem.W.ki_setBack ho (by omega) (by rw[size_toArray,<-hl];exact h3) (by omega) (by rw[hk];exact⟨_,I',q⟩)
theorem ur(lo hi:Option Int)(n:Nat):(sliceBounds lo hi none n).1=((HT.cF n 0 lo:Nat):Int)/\(sliceBounds lo hi none n).2.1=((HT.cF n n hi:Nat):Int)/\(sliceBounds lo hi none n).2.2=1:=by
 refine⟨?_,?_,rfl⟩;.cases lo with|none=>simp[sliceBounds,HT.cF]|some i=>
     simp only[sliceBounds,HT.cF,getD_none,show(1:Int)>0 by decide,if_true];by_cases h:i<0;.simp only[h,if_true]<;>omega
     .simp only[h,if_false]<;>omega
 .cases hi with|none=>simp[sliceBounds,HT.cF]|some i=>
     simp only[sliceBounds,HT.cF,getD_none,show(1:Int)>0 by decide,if_true];by_cases h:i<0;.simp only[h,if_true]<;>omega
     .simp only[h,if_false]<;>omega
theorem qp(its:List Value)(lo hi:Option Int):slicePick its.toArray lo hi none=((its.drop (HT.cF its.length 0 lo)).take (HT.cF its.length its.length hi-HT.cF its.length 0 lo)).toArray:=by obtain⟨h1,h2,h3⟩:=ur lo hi its.toArray.size;unfold slicePick;rw[h1,h2,h3];simp only[sliceRange_one,pick_run,size_toArray]<;>rfl
def aaU(K:PySem.W.Frag):V->Option Int->Option Int->Hp->VK->Prop:=fun x lo hi H Q=>∃a xs,x=.ref a/\dz K H a xs/\∀p,H p=none->Q (.ref p) (upd H p (.lst (vm xs lo hi)))
theorem Ij:ZS X (aaU X.K):=by intro pins s σ H x v vl vu lo hi sl Q I rx hs pl pu h;obtain⟨a,xs,rfl,hx,q⟩:=h;cases rx;obtain⟨its,r,ht,hz⟩:=I.list hx;have hlen:=r.length;refine⟨"list",_,slot_list_getitem.lookup,ht.isList.typeIs,?_⟩;refine wpAny_getItem_list_slice ht.isList hs pl pu .none (by simp) ?_ (by rw[size_toArray]<;>omega);rw[qp,<-hlen];refine⟨.ref s.heap.objs.size,_,I.laid (t':=s.toks) (o:=.lst (vm xs lo hi)) (fun b ob q=>get?_push_of_some _ q) (le_refl _) ?_,rfl,q _ (I.hok.fresh (le_refl _))⟩;exact⟨le_trans (mV xs lo hi) hz,_,0,(r.drop (HT.cF xs.length 0 lo)).take (HT.cF xs.length xs.length hi-HT.cF xs.length 0 lo),get?_push_size _ rfl⟩
theorem sO:dm X (.builtin "len") (fun xs H Q=>∃p ys,xs=[.ref p]/\(dz X.K H p ys\/jm X.K H p ys)/\Q (.int ys.length) H):=by
 intro pins s σ H xs us Q I r h;obtain⟨p,ys,rfl,hq,q⟩:=h;obtain⟨u,rfl,rx⟩:=vals1 r;cases rx;have hn:=pK;rcases hq with hq|hq;.obtain⟨its,r',pl,hz⟩:=I.list hq;have hlen:=r'.length;exact Calls.call_len_list pl.isList (by simp only[size_toArray]<;>omega) ⟨.int ys.length,H,I.tok _,⟨s.toks+1,by rw[size_toArray,hlen]⟩,q⟩
 .obtain⟨its,r',pl,hz⟩:=I.tuple hq;have hlen:=r'.length;exact len_tuple pl (by simp only[size_toArray]<;>omega) ⟨.int ys.length,H,I.tok _,⟨s.toks+1,by rw[size_toArray,hlen]⟩,q⟩
theorem ue:dm X (.type "list") (fun xs H Q=>∃p ys,xs=[.ref p]/\(dz X.K H p ys\/jm X.K H p ys)/\∀l,H l=none->Q (.ref l) (upd H l (.lst ys))):=by
 intro pins s σ H xs us Q I r h;obtain⟨p,ys,rfl,hq,q⟩:=h;obtain⟨u,rfl,rx⟩:=vals1 r;cases rx;have fin:∀(its:List Value),Vals ys its->ys.length<=sizeLine->∀(h':Heap)(c':Nat),(∀b o',s.heap.get? b=some o'->h'.get? b=some o')->h'.get? s.heap.objs.size=some {cls:=.type "list",dict:=none,data:=.seq its.toArray c',slots:=#[]}->EP X pins σ Q (.ref s.heap.objs.size) {s with heap:=h'}:=fun its r' hz h' c' kp e=>⟨.ref s.heap.objs.size,_,I.laid (t':=s.toks) kp (le_refl _) (show bh X.prog X.w _ h' _ (.lst ys)from⟨hz,its,c',r',e⟩),rfl,q _ (I.hok.fresh (le_refl _))⟩;rcases hq with hq|hq;.obtain⟨its,r',pl,hz⟩:=I.list hq;have hlen:=r'.length;obtain⟨o,ho,hc,n,hd⟩:=pl.isList;exact call_list_seq p (.inl rfl) ho hc hd (fun h' c' kp e=>fin its r' hz h' c' kp e) (by simp only[size_toArray]<;>omega)
 .obtain⟨its,r',pl,hz⟩:=I.tuple hq;have hlen:=r'.length;obtain⟨o,ho,hc,n,hd⟩:=pl;exact call_list_seq p (.inr rfl) ho hc hd (fun h' c' kp e=>fin its r' hz h' c' kp e) (by simp only[size_toArray]<;>omega)
theorem jz:dm X (.type "tuple") (fun xs H Q=>∃p ys,xs=[.ref p]/\((dz X.K H p ys/\∀l,H l=none->Q (.ref l) (upd H l (.tup ys)))\/(jm X.K H p ys/\Q (.ref p) H))):=by
 intro pins s σ H xs us Q I r h;obtain⟨p,ys,rfl,h⟩:=h;obtain⟨u,rfl,rx⟩:=vals1 r;cases rx;rcases h with⟨hq,q⟩|⟨hq,q⟩;.obtain⟨its,r',pl,hz⟩:=I.list hq;have hlen:=r'.length;refine call_tuple_list pl.isList (fun h' kp=>?_) (by simp only[size_toArray]<;>omega);have I1:Inv X pins σ H {s with heap:=h'}:=I.kept (t':=s.toks) kp;have I2:Inv X pins σ (upd H h'.objs.size (.tup ys)) {s with heap:=h'.push {cls:=.type "tuple",data:=.seq its.toArray}}:=I1.laid (t':=s.toks) (fun b o e=>get?_push_of_some _ e) (le_refl _) (show bh X.prog X.w _ _ _ (.tup ys)from⟨hz,its,r',IsTup.new _ _⟩);exact⟨.ref h'.objs.size,_,I2,rfl,q _ (I1.hok.fresh (le_refl _))⟩
 .obtain⟨its,r',pl,hz⟩:=I.tuple hq;exact call_tuple_same pl ⟨.ref p,H,I,rfl,q⟩
def tyV(K:PySem.W.Frag)(T:String)(x:V)(H:Hp):Prop:=match x with|.str _=>T="str"|.int _=>T="int"|.ref p=>(T="list"/\∃xs,dz K H p xs)\/(T="tuple"/\∃o,K.lookup p=some o/\o.cls=.type "tuple"/\o.dict=none)\/(T="dict"/\((∃kvs,H p=some (.dK kvs))\/∃kvs,H p=some (.dT kvs)))\/(T="set"/\∃S n,H p=some (.set S n))|_=>False
theorem N5{pins:List (Addr×Obj)}{σ:St}{H:Hp}{s:Shared}{T:String}{x:V}{v:Value}(I:Inv X pins σ H s)(r:RelV x v)(ty:tyV X.K T x H):
 s.TypeIs v T/\∀a,v=.ref a->∃ob,s.heap.get? a=some ob/\ob.dict=none:=by cases x with|str z=>obtain⟨t,rfl⟩:=r;cases(show T="str"from ty);exact⟨typeIs_str s z t,fun _ e=>nomatch e⟩|int i=>obtain⟨t,rfl⟩:=r;cases(show T="int"from ty);exact⟨typeIs_int s i t,fun _ e=>nomatch e⟩|ref p=>
   cases r;rcases ty with⟨rfl,xs,hq⟩|⟨rfl,o,hk,hc,hd⟩|⟨rfl,hk⟩|⟨rfl,S,n,hk⟩;.obtain⟨its,_,pl,_⟩:=I.list hq;refine⟨pl.isList.typeIs,fun a e=>?_⟩;cases e;obtain⟨o,n,e,c,hd,_⟩:=pl;exact⟨o,e,hd⟩
   .refine⟨⟨o,I.O8 p o hk,hc⟩,fun a e=>?_⟩;cases e;exact⟨o,I.O8 _ o hk,hd⟩
   . have z:∃o,s.heap.get? p=some o/\o.ExactDict:=by
      rcases hk with⟨kvs,hk⟩|⟨kvs,hk⟩;.obtain⟨_,_,_,_,o,_,_,e,ex,_⟩:=I.hok p _ hk;exact⟨o,e,ex⟩
      .obtain⟨_,_,_,_,o,_,_,e,ex,_⟩:=I.hok p _ hk;exact⟨o,e,ex⟩
     obtain⟨o,e,ex⟩:=z;refine⟨⟨o,e,ex.1⟩,fun a e2=>?_⟩;cases e2;exact⟨o,e,ex.2.1⟩
   .obtain⟨o,_,_,_,e,ex,_⟩:=I.hok p _ hk;refine⟨⟨o,e,ex.1⟩,fun a e2=>?_⟩;cases e2;exact⟨o,e,ex.2.1⟩|_=>exact False.elim ty
def tBM(K:PySem.W.Frag)(T:String)(r:V->List V->Hp->VK->Prop)(to:TE)(t:TA):TE:=fun σ H Q=>to σ H fun x H1=>tyV K T x H1/\t σ H1 fun xs H2=>r x xs H2 Q
variable{o e:Expr}{es:List Expr}{to:TE}{t:TA}{name:Str}{apos cpos:Pos}{T id:String}{r:V->List V->Hp->VK->Prop}
theorem Gi(pa:PlainAttrs T)(slot:Slot T name id)(hty:typeOf (.builtin id)=pure (.type "method_descriptor"))(hm:MtR X id r)(ho:PE X o to)(ha:PA X (e::es) t)(hbase:attributeBase o name X.env (eval o X.env)=eval o X.env:=by rfl)(hfew:((backTo cpos (starEach (e::es) X.env)).all (fun x=>!x.1)&&(backToKw cpos (keywordEach [] X.env)).all (fun x=>x.1.isSome)&&decide ((e::es).length+([]:List Keyword).length+(if([]:List Keyword).isEmpty then 0 else 1)<30))=true:=by rfl)(hline:(apos.endLine==cpos.line)=true:=by rfl)(hs:starEach (e::es) X.env=(false,eval e X.env)::starEach es X.env:=by rfl)(hplain:(backTo cpos (starEach es X.env)).any (·.1)=false:=by rfl):PE X (.Call (.Attribute o name apos) (e::es) [] cpos) (tBM X.K T r to t):=by intro pins s σ H Q I h;refine wpAny_Call_method_late hbase hfew hline rfl (bC (ho pins s σ H _ I h) fun v s1⟨x,H1,I1,r1,ty,q1⟩=>?_);obtain⟨h1,h2⟩:=N5 I1 r1 ty;refine⟨T,id,pa,slot,hty,h1,h2,?_⟩;have hA:=ha cpos pins s1 σ H1 _ I1 q1;rw[hs]at hA ⊢;refine Calls.callWith_builtin (by show(false||(backTo cpos (starEach es X.env)).any (·.1))=false;rw[hplain]<;>rfl) (Calls.evalArgs_plain ?_);exact bC hA fun us s2⟨vs,H2,I2,r2,q2⟩=>hm pins s2 σ H2 x vs v us Q I2 r1 r2 q2/-xs.append(e),list.index on a module's tuple..are MtR facts of 06m-/
end
def MtM(X:Cx)(id:String)(r:V->List V->Hp->VK->Prop):Prop:=∀(pins:List (Addr × Obj))(s:Shared)(σ:St)(H:Hp)(x:V)(xs:List V)(v:Value)(us:List Value)(Q:VK),Inv X pins σ H s->RelV x v->Vals xs us->r x xs H Q->wpAny (model X.prog X.w) X.A (call (.builtin id) (v::us)) (EP X pins σ Q) X.xe s
theorem Vals.one:∀{x:V}{us:List Value},Vals [x] us->∃u,us=[u]/\RelV x u|x,us,h=>by cases h with|cons r t=>cases t;exact⟨_,rfl,r⟩
theorem Vals.two:∀{x y:V}{us:List Value},Vals [x,y] us->∃u v,us=[u,v]/\RelV x u/\RelV y v|x,y,us,h=>by cases h with|cons r t=>cases t with|cons q z=>cases z;exact⟨_,_,rfl,r,q⟩
theorem Vals.reverse{xs:List V}{us:List Value}(h:Vals xs us):Vals xs.reverse us.reverse:=by induction h with|nil=>exact .nil|cons r t ih=>rw[reverse_cons,reverse_cons];exact Vals.append ih (.cons r .nil)
theorem Vals.rep{xs:List V}{us:List Value}(h:Vals xs us):∀k:Nat,Vals (replicate k xs).flatten (replicate k us).flatten|0=>.nil|k+1=>by rw[replicate_succ,replicate_succ,flatten_cons,flatten_cons];exact Vals.append h (Vals.rep h k)
theorem foldl_rep(its:List Value):∀(k:Nat)(acc:List Value),foldl (fun x1 x2=>x1++x2) acc.toArray (replicate k its.toArray)=(acc++(replicate k its).flatten).toArray
 |0,acc=>by simp|k+1,acc=>by
   have e:acc.toArray++its.toArray=(acc++its).toArray:=by simp
   have e2:(acc++its)++(replicate k its).flatten=acc++(replicate (k+1) its).flatten:=by rw[replicate_succ,flatten_cons,append_assoc]
   rw[<-e2,<-foldl_rep its k (acc++its),<-e,replicate_succ,foldl_cons]
section
variable{X:Cx}{pins:List (Addr×Obj)}{σ:St}{H:Hp}{s:Shared}{l b:Addr}{xs ys zs:List V}
theorem Inv.U7{its its':List Value}{n:Nat}{f:Array Value->Array Value}{t':Nat}(I:Inv X pins σ H s)(hH:H l=some (.lst xs))(e:s.heap.get? l=some {cls:=.type "list",data:=.seq its.toArray n})(hf:f its.toArray=its'.toArray)(hv:Vals ys its')(hz:ys.length<=sizeLine):Inv X pins σ (upd H l (.lst ys)) {s with heap:=s.heap.update l (Obj.mapSeq f),toks:=t'}:=by have q:=PySem.IsL.update e f;rw[hf]at q;refine I.write (x:=l) (e:=l) (by rw[hH];exact trivial) (.inl rfl) (fun b' u hb hu=>(get?_update_other s.heap (Obj.mapSeq f) (Ne.symm hb)).trans hu) ⟨_,q⟩ ?_;exact⟨hz,its',_,hv,q⟩
theorem Inv.QW{its:List Value}{t':Nat}(I:Inv X pins σ H s)(hv:Vals ys its)(hz:ys.length<=sizeLine):Inv X pins σ (upd H s.heap.objs.size (.lst ys)) {s with heap:=s.heap.push {cls:=.type "list",data:=.seq its.toArray},toks:=t'}:=I.laid (fun _ _ q=>get?_push_of_some _ q) (le_refl _) ⟨hz,its,0,hv,get?_push_size _ rfl⟩
theorem Inv.fresh(I:Inv X pins σ H s):H s.heap.objs.size=none:=I.hok.fresh (le_refl _)
theorem Inv.Rj(I:Inv X pins σ H s)(hH:H l=some (.lst xs)):xs.length<=sizeLine/\∃(its:List Value)(n:Nat),Vals xs its/\xs.length=its.length/\s.heap.get? l=some {cls:=.type "list",data:=.seq its.toArray n}:=by obtain⟨z,its,n,r,e⟩:=I.hok l _ hH;exact⟨z,its,n,r,r.length,e⟩
theorem vo{n:Nat}(h:n<=sizeLine):listTooLong n=false:=by unfold listTooLong;exact decide_eq_false (by omega)
end
section
variable{X:Cx}
def KZ:V->List V->Hp->VK->Prop:=fun x vs H Q=>∃l xs y,x=.ref l/\vs=[y]/\H l=some (.lst xs)/\xs.length<sizeLine/\Q .non (upd H l (.lst (xs++[y])))
theorem lQ:MtM X "list.append" KZ:=by intro pins s σ H x vs v us Q I rx rv h;obtain⟨l,xs,y,rfl,rfl,hH,hz,q⟩:=h;cases rx;obtain⟨u,rfl,ru⟩:=rv.one;obtain⟨z,its,n,r,hl,e⟩:=I.Rj hH;refine call_meets F.slot_list_append ⟨_,e,rfl⟩ F.entry_list_append (F.args_list_append_2 _ _) (PySem.list_append l its.toArray n u (by rw[size_toArray];omega)) ⟨e,?_⟩;refine⟨.non,_,I.U7 (its':=its++[u]) hH e (by simp) (r.append (.cons ru .nil)) ?_,rfl,q⟩;rw[length_append,List.length_singleton];omega
def Ju:V->List V->Hp->VK->Prop:=fun x vs H Q=>∃l b xs zs,x=.ref l/\vs=[.ref b]/\H l=some (.lst xs)/\H b=some (.lst zs)/\xs.length+zs.length<=sizeLine/\Q .non (upd H l (.lst (xs++zs)))
theorem BR:MtM X "list.extend" Ju:=by
 intro pins s σ H x vs v us Q I rx rv h;obtain⟨l,b,xs,zs,rfl,rfl,hH,hB,hz,q⟩:=h;cases rx;obtain⟨u,rfl,ru⟩:=rv.one;cases ru;obtain⟨z,its,n,r,hl,e⟩:=I.Rj hH;obtain⟨z2,its2,n2,r2,hl2,e2⟩:=I.Rj hB;have hsz:its.toArray.size+its2.toArray.size<=sizeLine:=by rw[size_toArray,size_toArray];omega
 have Xv:¬(!its.toArray.isEmpty&&listTooLong (its.toArray.size+its2.toArray.size))=true:=by rw[vo hsz,Bool.and_false];exact Bool.false_ne_true
 refine call_meets F.slot_list_extend ⟨_,e,rfl⟩ F.entry_list_extend (F.args_list_extend_2 _ _) (AutoSeq1.list_extend_list_list_0 l its.toArray n b its2.toArray n2 Xv (by rw[size_toArray];omega) (by omega)) ⟨e,e2,?_⟩;refine⟨.non,_,I.U7 (its':=its++its2) hH e (by simp) (r.append r2) ?_,rfl,q⟩;rw[length_append];omega
theorem len_rep{α:Type}(xs:List α)(k:Nat):(replicate k xs).flatten.length=k*xs.length:=by induction k with|zero=>simp|succ k ih=>rw[replicate_succ,flatten_cons,length_append,ih,Nat.succ_mul,Nat.add_comm]
end
end L2
namespace Z3
open PySem PySem.W PySem.Calls PyProof.Rows
theorem m7{P:Params}{h:Heap}:∀(ns:List Int)(vs:List Value),WellAll P h vs (ns.map WData.int)->IntsAre vs ns:=by intro ns;induction ns with|nil=>intro vs w;rw[map_nil]at w;cases w;exact .nil|cons n ns ih=>intro vs w;rw[map_cons]at w;cases w with|cons a b=>cases a;exact .cons _ _ (ih _ b)
theorem Cq{l:OpenLaw}{n:Nat}(hn:l.most=some n){P:Params}{h:Heap}{args:List WData}{vals:List Value}(hpre:l.row.toRowW.claim.pre args=true)(hwl:WellAll P h vals args):∃a vs ns,vals=[Value.ref a]/\args=[WData.list (ns.map WData.int)]/\h.get? a=some {cls:=.type "list",data:=.seq vs.toArray}/\IntsAre vs ns/\ns.length<=n:=by
 have hsh:WShape.hasAll [] args [.list .int]=true:=(pre_splitW hpre).1;have hc:l.pre.holds [] {args:=args}=true:=(pre_splitW hpre).2;obtain⟨d,r,rfl,h1,h2⟩:=hasAllW_cons hsh;obtain rfl:=hasAllW_nil h2;obtain⟨xs,rfl,h3⟩:=hasW_list h1;obtain⟨ns,rfl⟩:=items_int h3;have hlen:ns.length<=n:=by
  unfold OpenLaw.pre at hc;have h4:(WTm.not (.lt (.lit (.int (n:Int))) (.len (.arg 0)))).holds [] {args:=[.list (ns.map .int)]}=true:=by have h4:=(holds_andW hc).1;rw[hn]at h4;exact h4
  have h5:=condW_of h4 (w_not (w_lt w_lit (w_len_list (w_arg rfl))));rw[length_map]at h5;refine Nat.le_of_not_lt fun q=>?_;have q':(n:Int)<((ns.length:Nat):Int):=by omega
  first|(rw[decide_eq_true q']at h5;exact absurd h5 (by decide))|(simp at h5;omega)
 cases hwl with|cons w1 w2=>cases w2;cases w1 with|list ho hall=>exact⟨_,_,ns,rfl,rfl,ho,m7 ns _ hall,hlen⟩
theorem Cu(l:OpenLaw)(args:List WData):l.row.toRowW.claim.post args (.bool true) args=true:=postW_of (r:=l.row.toRowW) (X:=(true==true)) (show WShape.has [] (.bool true) .bool=true by first|rfl|decide|simp[WShape.has,WShape.arms,WShape.armsAll]) (show(WTm.eq .res (.lit (.bool true))).value [] {args:=args,res:=some (.bool true),after:=args}=some (.bool (true==true))from w_eq_bool (w_res rfl) w_lit) rfl
theorem uN{l:OpenLaw}{n:Nat}{q:Program}{loose:List Str}{XP:(Str->Option Value)->Heap->Prop}{YP:World->Heap->Prop}{d:DefRec}(hn:l.most=some n)(hdf:d.params.defaults=[])(call:∀(w:World)(s₀ s₁:Shared)(mg mb:Str->Option Value)(fa:Addr)(o:Obj)(pm cd doc:Value)(a:Addr)(vs:List Value)(ns:List Int),Ground q loose [] XP w s₀ mg mb s₁.heap->YP w s₁.heap->s₁.heap.get? fa=some o->o.data=.func (docDef d.name d.params d.body d.scope pm cd doc)->s₁.heap.CodeRec cd d.name->mg d.name=some (.ref fa)->s₁.heap.get? a=some {cls:=.type "list",data:=.seq vs.toArray}->IntsAre vs ns->ns.length<=n->s₁.gens=#[]->codeAny (model l.prog w) callerA (.call (.ref fa) ⟨[.ref a],[]⟩) (fun r s'=>r=.ok (.ret (.bool true))/\OldK s₁.heap s'.heap/\s'.os=s₁.os/\AllBare s'.gens) s₁):WalkO q loose XP YP l.row.toRowW d [] (fun f vs=>PySem.call f vs):=by intro w s₀ s₁ mg mb G Y fa o pm cd doc dV kV ho hd hcd hD hmg hg args vals as hpre hlay hrd hwl hlo;obtain rfl:dV=.none:=Dflts.none hD hdf;obtain rfl:kV=.none:=Dflts.noKw hD;obtain⟨a,vs,ns,rfl,rfl,hobj,hints,hlen⟩:=Cq hn hpre hwl;refine enter_call (codeAny_mono (call w s₀ s₁ mg mb fa o pm cd doc a vs ns G Y ho (fd_plain hd) hcd hmg hobj hints hlen hg) fun r s' hq=>?_);obtain⟨rfl,h2,h3,h4⟩:=hq;exact⟨.inl ⟨.bool true,.bool true,[],rfl,fun _=>rfl,.bool true,Cu l _,fun _=>⟨List.Pairwise.nil,fun _ hm=>(nomatch hm)⟩⟩,h2,h3,h4⟩
end Z3
namespace L2
open PySem PySem.Spec PyProof.Rows
theorem qN:∀{vs:List Value}{ns:List Int},IntsAre vs ns->Vals (ns.map V.int) vs|_,_,.nil=>.nil|_,_,.cons n t h=>.cons ⟨t,rfl⟩ (qN h)
def Only(H:Hp):Prop:=∀b,H b=none\/∃o xs,H b=some (.cC o (.lst xs))
theorem GD{P:Program}{w:World}{K:PySem.W.Frag}{mg mb:Str->Option Value}{CX:DN}{k:Nat}{fa a:Addr}{fd:FuncData}{x:Str}{sp:Sp}{s₁:Shared}{vs:List Value}{ns:List Int}(KX:K.In s₁.heap)(hns:s₁.heap.Ns mainGlobals mg)(hb:s₁.heap.Ns builtinsNs mb)(hbb:∀x:Str,x≠"__name__"->mb x=bootBuiltins x)(hlim:s₁.heap.NoLimit)(hg:s₁.gens=#[])(ha:s₁.heap.get? a=some {cls:=.type "list",data:=.seq vs.toArray})(hi:IntsAre vs ns)(hl:ns.length<=sizeLine)(hr:iC k callerA)(F:∀base:Heap,K.In base->base.Ns mainGlobals mg->cj P w K mg base CX k fa fd [x] sp)(hbind:∀(s:Shared)(u:Value),BindsTo s fd ⟨[u],[]⟩ [(x,u)])(hsp:∀H:Hp,Only H->dz K H a (ns.map V.int)->sp [.ref a] H (fun v _=>v=.bl true) fun _ _ _=>False)(Xw:∀H e s',CX [] H s₁ (fun _ _ _=>False) e s'->False):codeAny (model P w) callerA (.call (.ref fa) ⟨[.ref a],[]⟩) (fun r s'=>r=.ok (.ret (.bool true))/\OldK s₁.heap s'.heap/\s'.os=s₁.os/\AllBare s'.gens) s₁:=by
 have rv:=qN hi;have lenV:=hi.length--from an abstract heap in which nothing but the script may be tracked
 have core:∀H:Hp,Only H->dz K H a (ns.map V.int)->lG P w H s₁.heap->(∀b,H b≠none->b=a)->(H a≠none->K.lookup a=none)->codeAny (model P w) callerA (.call (.ref fa) ⟨[.ref a],[]⟩) (fun r s'=>r=.ok (.ret (.bool true))/\OldK s₁.heap s'.heap/\s'.os=s₁.os/\AllBare s'.gens) s₁:=by
  intro H hO hS hok hA hK;have Bd:∀{b:Addr}{o:Obj},s₁.heap.get? b=some o->H b=none->(tY s₁.heap H).get? b=some o:=fun e n=>Ga e n;have Xu:∀{b:Addr}{o:Obj}{es:Array DictEntry}{ep:Nat},s₁.heap.get? b=some o->o.data=.dict es ep->H b=none:=fun{b o es ep}e d=>by cases q:H b with|none=>rfl|some u=>have e':b=a:=hA b (by rw[q];simp);subst e';rw[ha]at e;cases e;have d':Data.seq vs.toArray _=Data.dict es ep:=d;cases d'
  have Z4:∀{b:Addr}{m:Str->Option Value},s₁.heap.Ns b m->(tY s₁.heap H).Ns b m:=fun{b m}⟨o,es,ep,e,d,r⟩=>⟨o,es,ep,Bd e (Xu e d),d,r⟩;have hKb:K.In (tY s₁.heap H):=fun b o e=>Bd (KX b o e) (by cases q:H b with|none=>rfl|some u=>have e':b=a:=hA b (by rw[q];simp);subst e';rw[hK (by rw[q];simp)]at e;cases e);have hM:Mod K mg (tY s₁.heap H):=⟨hKb,Z4 hns,⟨mb,Z4 hb,hbb⟩,let⟨mc,h1,h2⟩:=hlim;⟨mc,Z4 h1,h2⟩⟩;have e0:JG P w K mg (tY s₁.heap H) callerA [] s₁ H:=⟨rfl,hM,fun b o e=>Jm e,Nat.le_of_eq (By _ _),trivial,fun b hb=>absurd (show b∈([]:List Addr)from hb) (by simp),hok,.of_eq hg⟩;refine codeAny_mono ((F _ hKb (Z4 hns)).run callerA [] s₁ H ⟨[.ref a],[]⟩ [.ref a] [.ref a] _ _ hr e0 (hbind s₁ (.ref a)) (.cons rfl .nil) (hsp H hO hS)) fun r s' h=>?_;cases r with|error e=>exact(Xw H e s' h).elim|ok fl=>cases fl with|next=>exact False.elim h|brk=>exact False.elim h|cont=>exact False.elim h|ret u=>obtain⟨v,H',os,bare,un,hok',r',q⟩:=h;have q':v=.bl true:=q;subst q';obtain rfl:u=Value.bool true:=r';refine⟨rfl,OldK.of_keep fun b o e=>?_,os,bare⟩;cases q:H b with|none=>exact un.keep b o e q (by intro z;exact absurd (show b∈([]:List Addr)from z) (by simp)) (by simp)|some u=>
        rcases hO b with z|⟨ob,xs,z⟩;.rw[q]at z;cases z
        .have z2:=un.uC b ob _ z;obtain⟨e1,_⟩:=hok b _ z;obtain⟨e2,_⟩:=hok' b _ z2;rw[e]at e1;cases e1;exact e2
 cases hk:K.lookup a with|some o=>--the script is one of the module's own objects
   have e:=KX a o hk;rw[ha]at e;cases e;refine core (fun _=>none) (fun _=>.inl rfl) (.inr ⟨_,vs.toArray,_,hk,rfl,rfl,rfl,by rw[size_toArray,lenV];exact hl,by simpa using rv⟩) (fun b u z=>by have z':(none:Option HO)=some u:=z;cases z') (fun b z=>absurd rfl z) fun z=>absurd rfl z|none=>
   refine core (fun b=>if b=a then some (.cC {cls:=.type "list",data:=.seq vs.toArray} (.lst (ns.map V.int)))else none) (fun b=>?_) (.inl (.inr ⟨{cls:=.type "list",data:=.seq vs.toArray},if_pos rfl⟩)) (fun b u z=>?_) (fun b z=>?_) fun _=>hk
   . by_cases hb:b=a;.exact .inr ⟨_,_,if_pos hb⟩
     .exact .inl (if_neg hb)
   . by_cases hb:b=a;.have z':=(if_pos hb).symm.trans z;cases z';subst hb;exact⟨ha,by rw[length_map];exact hl,vs,_,rv,ha⟩
     .have z':=(if_neg hb).symm.trans z;cases z'
   . by_cases hb:b=a;.exact hb
     .exact absurd (if_neg hb) z
theorem Ik{l:PySem.W.OpenLaw}{n k:Nat}{q:Program}{loose:List Str}{XP:(Str->Option Value)->Heap->Prop}{YP:World->Heap->Prop}{d:DefRec}{K:Params->PySem.W.Frag}{CX:World->DN}{sp:World->Sp}{x:Str}(hn:l.most=some n)(hn2:n<=sizeLine)(hdf:d.params.defaults=[])(hr:iC k callerA)(hY:∀(w:World)(h:Heap),YP w h->(K w.params).In h)(F:∀(w:World)(mg:Str->Option Value)(fa:Addr)(h:Heap),(K w.params).In h->h.Ns mainGlobals mg->mg d.name=some (.ref fa)->∃ fd:FuncData,(∀(s:Shared)(u:Value),BindsTo s fd ⟨[u],[]⟩ [(x,u)])/\∀base:Heap,(K w.params).In base->base.Ns mainGlobals mg->cj l.prog w (K w.params) mg base (CX w) k fa fd [x] (sp w))(hsp:∀(w:World)(H:Hp)(a:Addr)(ns:List Int),ns.length<=n->Only H->dz (K w.params) H a (ns.map V.int)->sp w [.ref a] H (fun v _=>v=.bl true) fun _ _ _=>False)(Xw:∀(w:World)(H:Hp)(s:Shared)(e:Value)(s':Shared),CX w [] H s (fun _ _ _=>False) e s'->False):PySem.W.WalkO q loose XP YP l.row.toRowW d [] (fun f vs=>PySem.call f vs):=by refine Z3.uN hn hdf fun w s₀ s₁ mg mb fa o pm cd doc a vs ns G Y ho hd hcd hmg hobj hints hlen hg=>?_;have KX:=hY w _ Y;obtain⟨fd,hb,hF⟩:=F w mg fa _ KX G.T.g hmg;exact GD KX G.T.g G.T.b G.T.builtins G.T.nolimit hg hobj hints (le_trans hlen hn2) hr hF hb (fun H hO hS=>hsp w H a ns hlen hO hS) fun H e s'=>Xw w H s₁ e s'
theorem G4{l:PySem.W.OpenLaw}{n k:Nat}{q:Program}{loose:List Str}{XP:(Str->Option Value)->Heap->Prop}{YP:World->Heap->Prop}{d:DefRec}{K:Params->PySem.W.Frag}{CX:DN}{sp:PySem.W.Frag->Sp}{x:Str}(hn:l.most=some n)(hn2:n<=sizeLine)(hdf:d.params.defaults=[])(hr:iC k callerA)(hY:∀(w:World)(h:Heap),YP w h->(K w.params).In h)(F:∀(w:World)(mg:Str->Option Value)(fa:Addr)(h:Heap),(K w.params).In h->h.Ns mainGlobals mg->mg d.name=some (.ref fa)->∃ fd:FuncData,(∀(s:Shared)(u:Value),BindsTo s fd ⟨[u],[]⟩ [(x,u)])/\∀base:Heap,(K w.params).In base->base.Ns mainGlobals mg->cj l.prog w (K w.params) mg base CX k fa fd [x] (sp (K w.params)))(hsp:∀(K:PySem.W.Frag)(H:Hp)(a:Addr)(ns:List Int),ns.length<=n->Only H->dz K H a (ns.map V.int)->sp K [.ref a] H (fun v _=>v=.bl true) fun _ _ _=>False)(Xw:∀(H:Hp)(s:Shared)(e:Value)(s':Shared),CX [] H s (fun _ _ _=>False) e s'->False):PySem.W.WalkO q loose XP YP l.row.toRowW d [] (fun f vs=>PySem.call f vs):=Ik (K:=K) (CX:=fun _=>CX) (sp:=fun w=>sp (K w.params)) hn hn2 hdf hr hY F (fun w H a ns h1 h2 h3=>hsp (K w.params) H a ns h1 h2 h3) fun _ H s e s'=>Xw H s e s'
end L2/-THE LAST THEOREM(shape;LID,My.*are adW):My.Adr:a structure of the addresses that your layer names(classes,functions);My.Txt K t:a structure(Prop)of the equations over K;My.acs:{K}{implicit addresses..}(e1:nsIn K mainGlobals"law"=some(some(.ref f)))(e2:K.lookup f=some⟨oc,od,.func(fnOf"law""law"params body scope dV kV doc pm an cdv ct),sl⟩)(e3:codeIn K cdv"law"=true)..:∃t,My.Txt K t;set_option maxRecDepth 100000 in;set_option maxHeartbeats 0 in(the tactic k_is has no namespace:write k_is)-/
namespace L2
open PySem PySem.Spec PyProof.Rows
noncomputable def gK(s:Stmt):Arguments:=match s with|.FunctionDef _ a _ _ _ _ _ _ _ _=>a|_=>{posonlyargs:=[],args:=[],vararg:=none,kwonlyargs:=[],kw_defaults:=[],kwarg:=none,defaults:=[]}
noncomputable def dF(s:Stmt):List Stmt:=match s with|.FunctionDef _ _ b _ _ _ _ _ _ _=>b|_=>[]
noncomputable def az(s:Stmt):Scope:=match s with|.FunctionDef _ _ _ _ _ _ sc _ _ _=>sc|_=>{kind:=.function,names:=[],isGenerator:=false,isCoroutine:=false}
abbrev jr:DN:=fun _ _ _ _ _ _=>False
abbrev E0:XK:=fun _ _ _=>False
theorem V6{X:Cx}:Passes jr X E0:=fun _ _ _ _ _ _ _ h=>h.elim
structure jM(K:PySem.W.Frag)(x qual:Str)(st:Stmt)(f:Addr)(fd:FuncData):Prop where
 ex:∃(oc:Value)(od:Option Addr)(kV doc pm:Value)(an:Option Addr)(cdv ct:Value)(osl:Array (Option Value)),fd=PySem.W.fnOf x qual (gK st) (dF st) (az st) .none kV doc pm an cdv ct/\K.lookup f=some ⟨oc,od,.func fd,osl⟩/\PySem.W.codeIn K cdv qual=true
 kp:keepIn K (.ref f)=true
section
variable{P:Program}{w:World}{K:PySem.W.Frag}{mg:Str->Option Value}{base:Heap}
theorem jM.ok{x qual:Str}{st:Stmt}{f:Addr}{fd:FuncData}{N ps:List Str}{k:Nat}{sp:Sp}(F:jM K x qual st f fd)(S:aM N ps (az st))(len:∀vs H Q E,sp vs H Q E->vs.length=ps.length)(hbody:∀(cdv:Value)(A:Around)(outer:List Env)(s:Shared)(H:Hp)(vs:List V)(Q:VK)(E:XK),iC k (A.deeper (envOfC qual (az st) s.heap.objs.size f cdv))->sp vs H Q E->∃t,wD (yj jr P w K mg base N qual (az st) f cdv A outer s H E).Wk (dF st) t/\t {nx:=fun _ H'=>Q .non H',rt:=Q} (start N vs) H):cj P w K mg base jr (k+1) f fd ps sp:=by obtain⟨oc,od,kV,doc,pm,an,cdv,ct,osl,rfl,lk,hcd⟩:=F.ex;refine Vm lk hcd S len fun A outer s H vs Q E hr hsp=>?_;obtain⟨t,h,q⟩:=hbody cdv A outer s H vs Q E hr hsp;exact⟨t,h.Wk,q⟩
theorem jM.binds{x qual:Str}{st:Stmt}{f:Addr}{fd:FuncData}{ps:List Str}(F:jM K x qual st f fd)(h:∀(kV doc pm:Value)(an:Option Addr)(cdv ct:Value)(us:List Value),us.length=ps.length->bindArgs (PySem.W.fnOf x qual (gK st) (dF st) (az st) .none kV doc pm an cdv ct) ⟨us,[]⟩=pure (ps.zip us)):Binds K fd ps []:=by obtain⟨oc,od,kV,doc,pm,an,cdv,ct,osl,rfl,lk,hcd⟩:=F.ex;exact .all (h kV doc pm an cdv ct)
theorem Ol{x qual:Str}{st:Stmt}{f:Addr}{oc:Value}{od an:Option Addr}{osl:Array (Option Value)}{kV doc pm cdv ct:Value}(l:K.lookup f=some ⟨oc,od,.func (PySem.W.fnOf x qual (gK st) (dF st) (az st) .none kV doc pm an cdv ct),osl⟩)(c:PySem.W.codeIn K cdv qual=true)(k:keepIn K (.ref f)=true):jM K x qual st f (PySem.W.fnOf x qual (gK st) (dF st) (az st) .none kV doc pm an cdv ct):=⟨⟨oc,od,kV,doc,pm,an,cdv,ct,osl,rfl,l,c⟩,k⟩
end
def aG(H H':Hp):Prop:=∀b o,H b=some o->H' b=some o
theorem aG.refl(H:Hp):aG H H:=fun _ _ h=>h
theorem aG.trans{H H1 H2:Hp}(a:aG H H1)(b:aG H1 H2):aG H H2:=fun c o h=>b c o (a c o h)
theorem aG.seq{K:PySem.W.Frag}{H H':Hp}{a:Addr}{xs:List V}(e:aG H H')(h:dz K H a xs):dz K H' a xs:=by
 rcases h with(h|⟨o,h⟩)|h;.exact .inl (.inl (e _ _ h))
 .exact .inl (.inr ⟨o,e _ _ h⟩)
 .exact .inr h
end L2
end
section
namespace HH
open PySem
inductive Dc where|k(kvs:List (Int×Int))|t(kvs:List (List Int×Int))deriving DecidableEq
inductive D where|non|bl(b:Bool)|int(i:Int)|str(s:Str)|tup(ds:List D)|lst(ds:List D)|cN(m:Dc)|dv(ks:List Int)(ds:List D)deriving Inhabited
mutual
noncomputable def jC:D->D->Bool|.non,.non=>true|.bl a,.bl b=>a==b|.bl a,.int i=>(if a then(1:Int)else 0)==i|.int i,.bl a=>i==(if a then(1:Int)else 0)|.int i,.int j=>i==j|.str a,.str b=>a==b|.tup xs,.tup ys=>fC xs ys|.lst xs,.lst ys=>fC xs ys|.cN a,.cN b=>decide (a=b)|.dv a xs,.dv b ys=>decide (a=b)&&fC xs ys|_,_=>false
noncomputable def fC:List D->List D->Bool|[],[]=>true|x::xs,y::ys=>jC x y&&fC xs ys|_,_=>false
end
theorem pqi{i j}:jC (.int i) (.int j)=(i==j):=(rfl)
theorem pqt{x y}:jC (.tup x) (.tup y)=fC x y:=(rfl)
theorem ZJ{x y}:jC (.lst x) (.lst y)=fC x y:=(rfl)
noncomputable def cJ:Nat->D->Bool|_,.non=>true|_,.bl _=>true|_,.int _=>true|_,.str _=>true|0,.tup _=>false|0,.lst _=>false|_,.cN _=>false|_,.dv _ _=>false|n+1,.tup ds=>ds.all (cJ n)|n+1,.lst ds=>ds.all (cJ n)
inductive Sl where|aP|val(b:Bool)(d:D)|own(b:Bool)(ds:List D)|lent(ds:List D)|eY(m:Dc)|hold(rows:List (List D))|bW(kvs:List (Int×D))deriving Inhabited
inductive R where|val(d:D)|own(ds:List D)deriving Inhabited
noncomputable def R.d:R->D|.val d=>d|.own ds=>.lst ds
inductive Res(α:Type)where|ok(a:α)(ρ:List Sl)|exc(k:Nat)(ρ:List Sl)|stuck deriving Inhabited
noncomputable def Res.bind{α β:Type}(f:α->List Sl->Res β):Res α->Res β|.ok a ρ=>f a ρ|.exc _ _=>.stuck|.stuck=>.stuck
noncomputable def lift{α:Type}(o:Option α)(ρ:List Sl):Res α:=match o with|some a=>.ok a ρ|none=>.stuck
inductive Op where|add|sub|mul|fdiv|mod|pow|shl|shr|band|CK|Z5|acu deriving DecidableEq
inductive Cm where|eq|ne|lt|le|gt|ge|isN|Ld|inn|Hw|isT|Xx|leT deriving DecidableEq
inductive Ty where|int|bool|str|tuple|list|none deriving DecidableEq
inductive Zq where|len|list|tuple|max2|CN|sum|int|keys|sset|Uz|Z6|Lf deriving DecidableEq
inductive P where|var(i:Nat)|con(d:D)|bin(o:Op)(a b:P)|neg(a:P)|not(a:P)|and(a b:P)|or(a b:P)|cmp(o:Cm)(a b:P)|M7(c a b:P)|tup(as:List P)|lst(as:List P)|idx(a i:P)|slice(a lo hi:P)|call(f:Nat)(as:List P)|blt(b:Zq)(as:List P)|inst(ts:List Ty)(a:P)|comp(src:P)(n:Nat)(is:List Nat)(one:Bool)(test:Option P)(elt:P)|xj(a b:P)|zip(a b:P)|UG(x:Nat)(k d:P)|vw(x:Nat)|M8(x:Nat)(k:P)|M9(x:Nat)(k:P)(neg:Bool)|yJ(k e:Int)deriving Inhabited
noncomputable abbrev lim:Nat:=16777216
noncomputable def pH:D->D->Option R|.int i,.int j=>some (.val (.int (i+j)))|.lst xs,.lst ys=>if xs.length+ys.length<=lim then some (.own (xs++ys))else none|.tup xs,.tup ys=>if xs.length+ys.length<=lim then some (.val (.tup (xs++ys)))else none|.str x,.str y=>if x.length+y.length<=lim then some (.val (.str (x++y)))else none|_,_=>none
noncomputable def kh:D->D->Option R|.int i,.int j=>if((-18446744073709551616<i/\i<18446744073709551616)\/(-18446744073709551616<j/\j<18446744073709551616))then some (.val (.int (i*j)))else none|.lst xs,.int k=>if 0<=k/\0<xs.length/\xs.length*k.toNat<=lim then some (.own (replicate k.toNat xs).flatten)else none|.tup xs,.int k=>if 0<=k/\0<xs.length/\xs.length*k.toNat<=lim then some (.val (.tup (replicate k.toNat xs).flatten))else none|_,_=>none
noncomputable def wN:D->D->Option R|.int i,.int j=>some (.val (.int (i-j)))|_,_=>none
noncomputable def oX:D->D->Option R|.int i,.int j=>if 0<j/\j<1606938044258990275541962092341162602522202993782792835301376 then some (.val (.int (i/j)))else none|_,_=>none
noncomputable def vJ:D->D->Option R|.int i,.int j=>if 0<j then some (.val (.int (i%j)))else none|_,_=>none
noncomputable def vG:D->D->Option R|.int i,.int j=>if 0<=j/\j<=1000/\i.natAbs<18446744073709551616 then some (.val (.int (i^j.toNat)))else none|_,_=>none
noncomputable def GJ:D->D->Option R|.int i,.int j=>if 0<=j/\j<=1000/\i.natAbs<18446744073709551616 then some (.val (.int (i*2^j.toNat)))else none|_,_=>none
noncomputable def Gb:D->D->Option R|.int i,.int j=>if 0<=j then some (.val (.int (i/2^j.toNat)))else none|_,_=>none
noncomputable def yD:D->D->Option R|.int i,.int j=>some (.val (.int (Builtin.bitAnd i j)))|_,_=>none
noncomputable def flat:D->Bool|.tup _=>false|.lst _=>false|.cN _=>false|.dv _ _=>false|_=>true
noncomputable def items:D->Option (List D)|.lst ds=>some ds|.tup ds=>some ds|_=>none
noncomputable def P0:D->Option (List D)|.tup ds=>some ds|_=>none
noncomputable def Hg(x y:D):Option Bool:=if cJ 8 x&&cJ 8 y then some (jC x y)else none
noncomputable def Ru(x y:D):Option Bool:=if cJ 8 x&&cJ 8 y then some (!jC x y)else none
noncomputable def HX(f:Int->Int->Bool):D->D->Option Bool|.int i,.int j=>some (f i j)|_,_=>none
noncomputable def iz:D->Bool|.non=>true|_=>false
noncomputable def Yv(neg:Bool)(x:D):D->Option Bool|.non=>some (if neg then !iz x else iz x)|_=>none
noncomputable def qj(neg:Bool)(x y:D):Option Bool:=(items y).bind fun ys=>if(flat x&&ys.all flat)=true then some (if neg then !(ys.any fun y=>jC y x)else ys.any fun y=>jC y x)else none
noncomputable def cmT(neg:Bool):D->D->Option Bool|.bl b,.bl true=>some (if neg then !b else b)|_,_=>none
noncomputable def aV:List Int->List Int->Bool|[],_::_=>true|i::is,j::js=>decide (i<j)||(decide (i=j)&&aV is js)|_,[]=>false
noncomputable def cu:D->Int|.int i=>i|_=>0
noncomputable def bO:D->List Int|.int i=>[i]|.tup ds=>ds.map cu|_=>[]
noncomputable def cX:D->Bool|.int _=>true|_=>false
noncomputable def Dc.get:Dc->D->Option (Option Int)|.k kvs,.int i=>some ((kvs.find? fun kv=>decide (kv.1=i)).map (·.2))|_,_=>none
noncomputable def putD{κ:Type}[DecidableEq κ](kvs:List (κ×Int))(k:κ)(v:Int):List (κ×Int):=if(kvs.any fun kv=>decide (kv.1=k))=true then kvs.map (fun kv=>if kv.1=k then(kv.1,v)else kv)else kvs++[(k,v)]
noncomputable def Dc.put:Dc->D->Int->Option Dc|.k kvs,.int i,v=>if kvs.length<lim then some (.k (putD kvs i v))else none|_,_,_=>none
noncomputable def Dc.ab7:Dc->List D->Option (Option Int)|.t kvs,ds=>if ds.all cX=true then some ((kvs.find? fun kv=>decide (kv.1=ds.map cu)).map (·.2))else none|_,_=>none
noncomputable def Dc.putT:Dc->List D->Int->Option Dc|.t kvs,ds,v=>if ds.all cX=true/\kvs.length<lim then some (.t (putD kvs (ds.map cu) v))else none|_,_,_=>none
noncomputable def adJ:D->List D->Option R|.cN m,ks=>(m.ab7 ks).bind fun o=>o.map fun v=>.val (.int v)|_,_=>none
noncomputable def lK(kvs:List (Int×D))(k:Int):Option D:=(kvs.find? fun p=>decide (p.1=k)).map (·.2)
noncomputable def fH(kvs:List (Int×D))(k:Int)(d:D):List (Int×D):=if(kvs.any fun p=>decide (p.1=k))=true then kvs.map (fun p=>if p.1=k then(p.1,d)else p)else kvs++[(k,d)]
noncomputable def wC(neg:Bool):D->D->Option R|.int k,.dv ks _=>some (.val (.bl (if neg then !ks.contains k else ks.contains k)))|_,_=>none
noncomputable def zK:D->D->Option R|.cN m,k=>(m.get k).bind fun o=>o.map fun v=>.val (.int v)|.dv ks ds,.int k=>(lK (ks.zip ds) k).map .val|_,_=>none
noncomputable def qm:Op->D->D->Option R|.add=>pH|.mul=>kh|.sub=>wN|.fdiv=>oX|.mod=>vJ|.pow=>vG|.shl=>GJ|.shr=>Gb|.band=>yD|.CK=>zK|.Z5=>wC false|.acu=>wC true
noncomputable def Wv:D->D->Option Bool|.int i,.int j=>some (decide (i<j))|.tup xs,.tup ys=>if(xs.all cX&&ys.all cX)=true then some (aV (xs.map cu) (ys.map cu))else none|_,_=>none
noncomputable def aaj:D->D->Option Bool|.int i,.int j=>some (decide (i<=j))|.tup xs,.tup ys=>if(xs.all cX&&ys.all cX)=true then some (!aV (ys.map cu) (xs.map cu))else none|_,_=>none
noncomputable def cm:Cm->D->D->Option Bool|.eq=>Hg|.ne=>Ru|.lt=>Wv|.le=>HX fun i j=>decide (i<=j)|.leT=>aaj|.gt=>HX fun i j=>decide (j<i)|.ge=>HX fun i j=>decide (j<=i)|.isN=>Yv false|.Ld=>Yv true|.inn=>qj false|.Hw=>qj true|.isT=>cmT false|.Xx=>cmT true
noncomputable def xR(o:Cm)(x y:D):Option R:=(cm o x y).map fun k=>.val (.bl k)
noncomputable def DG(ks:List Int)(k:Int):List Int:=if ks.contains k=true then ks else ks++[k]
noncomputable def dg(ns:List Int):List Int:=ns.foldl DG []
noncomputable def gB(n:Nat)(i:Int):Option Nat:=if 0<=i then(if i<n then some i.toNat else none)else if-(n:Int)<=i then some (i+n).toNat else none
noncomputable def at'{α:Type}(xs:List α)(i:Int):Option α:=(gB xs.length i).bind fun j=>xs[j]?
noncomputable def cF(n d:Nat):Option Int->Nat|none=>d|some i=>if 0<=i then min i.toNat n else(i+n).toNat
noncomputable def cut{α:Type}(xs:List α)(lo hi:Option Int):List α:=(xs.drop (cF xs.length 0 lo)).take (cF xs.length xs.length hi-cF xs.length 0 lo)
noncomputable def optI:D->Option (Option Int)|.non=>some none|.int i=>some (some i)|_=>none
noncomputable def gA:D->Option Int|.int i=>some i|_=>none
noncomputable def MF:D->Option Bool|.bl b=>some b|_=>none
noncomputable def Ku(x y:D):Option R:=(items x).bind fun ds=>(gA y).bind fun i=>(at' ds i).map .val
noncomputable def Gz(x:D):Option R:=(gA x).map fun i=>.val (.int (-i))
noncomputable def R1:P->Bool|.con .non=>true|_=>false
noncomputable def part(p:P)(d:D):Option (Option Int):=if R1 p then some none else(gA d).map some
noncomputable def LQ:D->Option (Option Int)->Option (Option Int)->Option R|.lst xs,some lo,some hi=>some (.own (cut xs lo hi))|.tup xs,some lo,some hi=>some (.val (.tup (cut xs lo hi)))|_,_,_=>none
noncomputable def bJ:Ty->D->Bool|.int,.int _=>true|.int,.bl _=>true|.bool,.bl _=>true|.str,.str _=>true|.tuple,.tup _=>true|.list,.lst _=>true|.none,.non=>true|_,_=>false
noncomputable def vZ:D->Bool|.tup (x::xs)=>(x::xs).all cX|_=>false
noncomputable def sortable(ds:List D):Bool:=decide (ds.length<=16777216)&&(ds.all cX||ds.all vZ)
noncomputable def jQ(ds:List D):List D:=ds.mergeSort fun a b=>!aV (bO b) (bO a)
noncomputable def Rr:D->Option (List D)|.lst ds=>some ds|_=>none
noncomputable def jW(p:Int×Int):D:=.tup [.int p.1,.int p.2]
noncomputable def blt:Zq->List D->Option R|.len,[x]=>(items x).map fun ds=>.val (.int ds.length)|.list,[x]=>(items x).map fun ds=>.own ds|.tuple,[x]=>(items x).map fun ds=>.val (.tup ds)|.max2,[.int i,.int j]=>some (.val (.int (if i<j then j else i)))|.CN,[x]=>((items x).bind fun ds=>ds.mapM gA).bind fun ns=>ns.min?.map fun i=>.val (.int i)|.sum,[x]=>((items x).bind fun ds=>ds.mapM gA).map fun ns=>.val (.int ns.sum)|.int,[.int i]=>some (.val (.int i))|.int,[.bl b]=>some (.val (.int (if b then 1 else 0)))|.keys,[.cN (.k kvs)]=>some (.val (.tup (kvs.map fun p=>.int p.1)))|.keys,[.dv ks _]=>some (.val (.tup (ks.map D.int)))|.sset,[.lst ds]=>if ds.length<64/\ds.all cX=true then some (.own (jQ ((dg (ds.map cu)).map D.int)))else none|.sset,[.tup ds]=>if ds.length<64/\ds.all cX=true then some (.own (jQ ((dg (ds.map cu)).map D.int)))else none|.Uz,[.dv ks _]=>if ks.length<=16777216 then some (.own (ks.map D.int))else none|.Z6,[.lst ds]=>some (.val (.tup ds.reverse))|.Lf,[.cN (.k kvs)]=>if sortable (kvs.map jW)then some (.own (jQ (kvs.map jW)))else none|_,_=>none
noncomputable def pk(ρ:List Sl)(i:Nat):Option D:=match ρ[i]?with|some (.val _ d)=>some d|some (.own _ ds)=>some (.lst ds)|some (.lent ds)=>some (.lst ds)|_=>none
noncomputable def yF(ρ:List Sl)(i:Nat):Option (List D):=match pk ρ i with|some (.lst ds)=>some ds|_=>none
noncomputable abbrev Ev:=List Sl->Res R
noncomputable def isVar:P->Option Nat|.var i=>some i|_=>none
noncomputable def bN(i:Option Nat)(e:Ev)(ρ:List Sl):Res D:=match i with|some i=>lift (pk ρ i) ρ|none=>(e ρ).bind fun r ρ=>.ok r.d ρ
noncomputable def iU(i:Option Nat)(e:Ev)(j:Option Nat)(f:Ev)(ρ:List Sl):Res (D×D):=match i with|some i=>(lift (pk ρ i) ρ).bind fun _ ρ=>(bN j f ρ).bind fun y ρ=>(lift (pk ρ i) ρ).bind fun x ρ=>.ok (x,y) ρ|none=>(bN none e ρ).bind fun x ρ=>(bN j f ρ).bind fun y ρ=>.ok (x,y) ρ
noncomputable def gH(e:Ev)(ρ:List Sl):Res Bool:=(e ρ).bind fun r ρ=>lift (MF r.d) ρ
inductive Arg where|dat(d:D)|tmp(ds:List D)|du(i:Nat)
noncomputable def vq:R->Arg|.val d=>.dat d|.own ds=>.tmp ds
noncomputable def bz(ρ:List Sl):List Arg->List Nat->Option (List Sl)|[],_=>some []|.dat d::r,used=>(bz ρ r used).map fun s=>.val false d::s|.tmp ds::r,used=>(bz ρ r used).map fun s=>.own false ds::s|.du i::r,used=>match ρ[i]?with|some (.val _ d)=>(bz ρ r used).map fun s=>.val false d::s|some (.own _ ds)=>if used.contains i then none else(bz ρ r (i::used)).map fun s=>.own true ds::s|some (.lent ds)=>if used.contains i then none else(bz ρ r (i::used)).map fun s=>.lent ds::s|_=>none
noncomputable def aL(i:Nat):List Arg->List Sl->Option Sl|.du k::as,s::ss=>if k=i then some s else aL i as ss|.dat _::as,_::ss=>aL i as ss|.tmp _::as,_::ss=>aL i as ss|_,_=>none
noncomputable def cU:Sl->Option Sl->Sl|.own b _,some (.own _ ds)=>.own b ds|.own b _,some (.val _ d)=>.val b d|s,_=>s
noncomputable def bV(as:List Arg)(ss:List Sl):Nat->List Sl->List Sl|_,[]=>[]|i,s::ρ=>cU s (aL i as ss)::bV as ss (i+1) ρ
noncomputable abbrev Call:=Nat->List Sl->Res R
noncomputable def jT(c:Call)(f:Nat)(as:List Arg)(ρ:List Sl):Res R:=match bz ρ as []with|none=>.stuck|some args=>match c f args with|.ok r args'=>.ok r (bV as args' 0 ρ)|.exc _ _=>.stuck|.stuck=>.stuck
noncomputable def put(ρ:List Sl)(i:Nat)(s:Sl):Option (List Sl):=match ρ[i]?with|some .aP=>some (ρ.set i s)|some (.val false _)=>some (ρ.set i s)|some (.own false _)=>some (ρ.set i s)|_=>none
noncomputable def putAll(ρ:List Sl):List Nat->List D->Option (List Sl)|[],[]=>some ρ|i::is,d::ds=>(put ρ i (.val false d)).bind fun ρ=>putAll ρ is ds|_,_=>none
noncomputable def bI(ρ:List Sl)(is:List Nat)(one:Bool)(d:D):Option (List Sl):=match one,is,d with|true,[i],d=>put ρ i (.val false d)|false,is,.tup ds=>putAll ρ is ds|_,_,_=>none
noncomputable def srcOf(i:Option Nat)(e:Ev)(ρ:List Sl):Res (List D):=match i with
 |some i=>match ρ[i]?with|some (.val _ d)=>lift (items d) ρ|some (.own _ ds)=>.ok ds (ρ.set i (.lent ds))|some (.lent ds)=>.ok ds ρ|_=>.stuck
 |none=>(e ρ).bind fun r ρ=>lift (items r.d) ρ
noncomputable def aQ(ρ₀:List Sl)(i:Option Nat)(ρ:List Sl):List Sl:=match i with
 |some i=>match ρ₀[i]?with|some (.own b ds)=>ρ.set i (.own b ds)|_=>ρ
 |none=>ρ
noncomputable def srcZ(i:Nat)(f:Ev)(ρ:List Sl):Res (List D×List Sl):=(lift (pk ρ i) ρ).bind fun _ ρ=>(f ρ).bind fun r ρb=>(lift (items r.d) ρb).bind fun es ρb=>match ρb[i]?with|some (.val _ d)=>(lift (items d) ρb).bind fun ds ρb=>.ok ((ds.zip es).map fun p=>D.tup [p.1,p.2],ρb) ρb|some (.own _ ds)=>.ok ((ds.zip es).map fun p=>D.tup [p.1,p.2],ρb) (ρb.set i (.lent ds))|some (.lent ds)=>.ok ((ds.zip es).map fun p=>D.tup [p.1,p.2],ρb) ρb|_=>.stuck
noncomputable def srcY(i:Nat)(f:Ev)(ρ:List Sl):Res (List D×List Sl):=(f ρ).bind fun r ρb=>(lift (items r.d) ρb).bind fun es ρb=>match ρb[i]?with|some (.val _ d)=>(lift (items d) ρb).bind fun ds ρb=>.ok ((es.zip ds).map fun p=>D.tup [p.1,p.2],ρb) ρb|some (.own _ ds)=>.ok ((es.zip ds).map fun p=>D.tup [p.1,p.2],ρb) (ρb.set i (.lent ds))|some (.lent ds)=>.ok ((es.zip ds).map fun p=>D.tup [p.1,p.2],ρb) ρb|_=>.stuck
noncomputable def turns(is:List Nat)(one:Bool)(test:List Sl->Res Bool)(elt:Ev):List D->List D->List Sl->Res (List D)|[],acc,ρ=>.ok acc ρ|d::r,acc,ρ=>match bI ρ is one d with|none=>.stuck|some ρ=>(test ρ).bind fun b ρ=>if b then(elt ρ).bind fun x ρ=>turns is one test elt r (acc++[x.d]) ρ else turns is one test elt r acc ρ
mutual
noncomputable def ev(c:Call):P->List Sl->Res R
 |.var i,ρ=>match ρ[i]?with|some (.val _ d)=>.ok (.val d) ρ|some (.own b ds)=>.ok (.val (.lst ds)) (ρ.set i (.val b (.lst ds)))|some (.eY (.k kvs))=>.ok (.val (.cN (.k kvs))) (ρ.set i (.val false (.cN (.k kvs))))|some (.bW kvs)=>.ok (.val (.dv (kvs.map (·.1)) (kvs.map (·.2)))) (ρ.set i (.val false (.dv (kvs.map (·.1)) (kvs.map (·.2)))))|_=>.stuck
 |.con d,ρ=>.ok (.val d) ρ|.bin o a b,ρ=>(iU (isVar a) (ev c a) (isVar b) (ev c b) ρ).bind fun xy ρ=>lift (qm o xy.1 xy.2) ρ|.neg a,ρ=>(bN (isVar a) (ev c a) ρ).bind fun x ρ=>lift (Gz x) ρ|.not a,ρ=>(gH (ev c a) ρ).bind fun b ρ=>.ok (.val (.bl (!b))) ρ|.and a b,ρ=>(gH (ev c a) ρ).bind fun x ρ=>if x then(gH (ev c b) ρ).bind fun y ρ=>.ok (.val (.bl y)) ρ else .ok (.val (.bl false)) ρ|.or a b,ρ=>(gH (ev c a) ρ).bind fun x ρ=>if x then .ok (.val (.bl true)) ρ else(gH (ev c b) ρ).bind fun y ρ=>.ok (.val (.bl y)) ρ|.cmp o a b,ρ=>(iU (isVar a) (ev c a) (isVar b) (ev c b) ρ).bind fun xy ρ=>lift (xR o xy.1 xy.2) ρ|.M7 t a b,ρ=>(gH (ev c t) ρ).bind fun k ρ=>if k then(ev c a ρ).bind fun r ρ=>.ok (.val r.d) ρ else(ev c b ρ).bind fun r ρ=>.ok (.val r.d) ρ|.tup as,ρ=>(evs c as ρ).bind fun ds ρ=>.ok (.val (.tup ds)) ρ|.lst as,ρ=>(evs c as ρ).bind fun ds ρ=>.ok (.own ds) ρ|.idx a i,ρ=>(iU (isVar a) (ev c a) (isVar i) (ev c i) ρ).bind fun xy ρ=>lift (Ku xy.1 xy.2) ρ|.slice a l h,ρ=>match isVar a with|some i=>(lift (pk ρ i) ρ).bind fun _ ρ=>(bN (isVar l) (ev c l) ρ).bind fun y ρ=>(bN (isVar h) (ev c h) ρ).bind fun z ρ=>(lift (pk ρ i) ρ).bind fun x ρ=>lift (LQ x (part l y) (part h z)) ρ|none=>(bN none (ev c a) ρ).bind fun x ρ=>(bN (isVar l) (ev c l) ρ).bind fun y ρ=>(bN (isVar h) (ev c h) ρ).bind fun z ρ=>lift (LQ x (part l y) (part h z)) ρ
 |.call f as,ρ=>(xg c as ρ).bind fun xs ρ=>jT c f xs ρ|.blt b [a],ρ=>(bN (isVar a) (ev c a) ρ).bind fun x ρ=>lift (blt b [x]) ρ|.blt b as,ρ=>(evs c as ρ).bind fun ds ρ=>lift (blt b ds) ρ|.inst ts a,ρ=>(bN (isVar a) (ev c a) ρ).bind fun x ρ=>.ok (.val (.bl (ts.any fun t=>bJ t x))) ρ|.comp src n is one test elt,ρ=>(srcOf (isVar src) (ev c src) ρ).bind fun ds ρ₁=>if ds.length<=lim then(turns is one (m9 c test) (ev c elt) ds [] (ρ₁++replicate n .aP)).bind fun xs ρ₂=>.ok (.own xs) (aQ ρ (isVar src) (ρ₂.take ρ₁.length))else .stuck|.xj a b,ρ=>(iU (isVar a) (ev c a) (isVar b) (ev c b) ρ).bind fun xy ρ=>lift ((gA xy.1).bind fun i=>(gA xy.2).bind fun j=>if-1000000<=i/\i<=1000000000/\j<=1000000000/\-1000000000<=j then some (.val (.lst ((List.range (j-i).toNat).map fun(k:Nat)=>D.int (i+(k:Int)))))else none) ρ|.zip a b,ρ=>(ev c a ρ).bind fun x ρ=>(ev c b ρ).bind fun y ρ=>lift ((items x.d).bind fun ds=>(items y.d).map fun es=>.val (.lst ((ds.zip es).map fun p=>D.tup [p.1,p.2]))) ρ|.UG x k d,ρ=>match ρ[x]?with
   |some (.eY _)=>(bN (isVar k) (ev c k) ρ).bind fun kd ρ=>(bN (isVar d) (ev c d) ρ).bind fun dd ρ=>match ρ[x]?with|some (.eY m)=>lift ((m.get kd).bind fun o=>(gA dd).map fun v=>.val (.int (o.getD v))) ρ|_=>.stuck
   |_=>.stuck
 |.vw x,ρ=>match ρ[x]?with|some (.eY m)=>.ok (.val (.cN m)) (ρ.set x (.val false (.cN m)))|some (.bW kvs)=>.ok (.val (.dv (kvs.map (·.1)) (kvs.map (·.2)))) (ρ.set x (.val false (.dv (kvs.map (·.1)) (kvs.map (·.2)))))|_=>.stuck
 |.M8 x k,ρ=>match ρ[x]?with
   |some (.bW _)=>(bN (isVar k) (ev c k) ρ).bind fun kd ρ=>match ρ[x]?with|some (.bW kvs)=>lift ((gA kd).bind fun k=>(lK kvs k).map .val) ρ|_=>.stuck
   |_=>.stuck
 |.M9 x k neg,ρ=>(bN (isVar k) (ev c k) ρ).bind fun kd ρ=>match ρ[x]?with|some (.bW kvs)=>lift ((gA kd).map fun k=>.val (.bl (if neg then !(kvs.map (·.1)).contains k else(kvs.map (·.1)).contains k))) ρ|_=>.stuck
 |.yJ k e,ρ=>.ok (.val (.dv [k] [.int e])) ρ
noncomputable def evs(c:Call):List P->List Sl->Res (List D)|[],ρ=>.ok [] ρ|a::r,ρ=>(ev c a ρ).bind fun x ρ=>(evs c r ρ).bind fun xs ρ=>.ok (x.d::xs) ρ
noncomputable def xg(c:Call):List P->List Sl->Res (List Arg)|[],ρ=>.ok [] ρ|a::r,ρ=>match isVar a with|some i=>(lift (pk ρ i) ρ).bind fun _ ρ=>(xg c r ρ).bind fun xs ρ=>.ok (.du i::xs) ρ|none=>(ev c a ρ).bind fun x ρ=>(xg c r ρ).bind fun xs ρ=>.ok (vq x::xs) ρ
noncomputable def m9(c:Call):Option P->List Sl->Res Bool|none,ρ=>.ok true ρ|some t,ρ=>gH (ev c t) ρ
end
theorem E1{c i ρ}:ev c (.var i) ρ=match ρ[i]?with|some (.val _ d)=>.ok (.val d) ρ|some (.own b ds)=>.ok (.val (.lst ds)) (ρ.set i (.val b (.lst ds)))|some (.eY (.k kvs))=>.ok (.val (.cN (.k kvs))) (ρ.set i (.val false (.cN (.k kvs))))|some (.bW kvs)=>.ok (.val (.dv (kvs.map (·.1)) (kvs.map (·.2)))) (ρ.set i (.val false (.dv (kvs.map (·.1)) (kvs.map (·.2)))))|_=>.stuck:=(rfl)
theorem E2{c d ρ}:ev c (.con d) ρ=.ok (.val d) ρ:=(rfl)
theorem E3{c o a b ρ}:ev c (.bin o a b) ρ=(iU (isVar a) (ev c a) (isVar b) (ev c b) ρ).bind fun xy ρ=>lift (qm o xy.1 xy.2) ρ:=(rfl)
theorem E4{c a ρ}:ev c (.neg a) ρ=(bN (isVar a) (ev c a) ρ).bind fun x ρ=>lift (Gz x) ρ:=(rfl)
theorem E5{c a ρ}:ev c (.not a) ρ=(gH (ev c a) ρ).bind fun b ρ=>.ok (.val (.bl (!b))) ρ:=(rfl)
theorem E6{c a b ρ}:ev c (.and a b) ρ=(gH (ev c a) ρ).bind fun x ρ=>if x then(gH (ev c b) ρ).bind fun y ρ=>.ok (.val (.bl y)) ρ else .ok (.val (.bl false)) ρ:=(rfl)
theorem E7{c a b ρ}:ev c (.or a b) ρ=(gH (ev c a) ρ).bind fun x ρ=>if x then .ok (.val (.bl true)) ρ else(gH (ev c b) ρ).bind fun y ρ=>.ok (.val (.bl y)) ρ:=(rfl)
theorem E8{c o a b ρ}:ev c (.cmp o a b) ρ=(iU (isVar a) (ev c a) (isVar b) (ev c b) ρ).bind fun xy ρ=>lift (xR o xy.1 xy.2) ρ:=(rfl)
theorem E9{c t a b ρ}:ev c (.M7 t a b) ρ=(gH (ev c t) ρ).bind fun k ρ=>if k then(ev c a ρ).bind fun r ρ=>.ok (.val r.d) ρ else(ev c b ρ).bind fun r ρ=>.ok (.val r.d) ρ:=(rfl)
theorem E10{c as ρ}:ev c (.tup as) ρ=(evs c as ρ).bind fun ds ρ=>.ok (.val (.tup ds)) ρ:=(rfl)
theorem E11{c as ρ}:ev c (.lst as) ρ=(evs c as ρ).bind fun ds ρ=>.ok (.own ds) ρ:=(rfl)
theorem E12{c a i ρ}:ev c (.idx a i) ρ=(iU (isVar a) (ev c a) (isVar i) (ev c i) ρ).bind fun xy ρ=>lift (Ku xy.1 xy.2) ρ:=(rfl)
theorem E13{c a l h ρ}:ev c (.slice a l h) ρ=match isVar a with|some i=>(lift (pk ρ i) ρ).bind fun _ ρ=>(bN (isVar l) (ev c l) ρ).bind fun y ρ=>(bN (isVar h) (ev c h) ρ).bind fun z ρ=>(lift (pk ρ i) ρ).bind fun x ρ=>lift (LQ x (part l y) (part h z)) ρ|none=>(bN none (ev c a) ρ).bind fun x ρ=>(bN (isVar l) (ev c l) ρ).bind fun y ρ=>(bN (isVar h) (ev c h) ρ).bind fun z ρ=>lift (LQ x (part l y) (part h z)) ρ:=(rfl)
theorem E14{c f as ρ}:ev c (.call f as) ρ=(xg c as ρ).bind fun xs ρ=>jT c f xs ρ:=(rfl)
theorem E15{c b a ρ}:ev c (.blt b [a]) ρ=(bN (isVar a) (ev c a) ρ).bind fun x ρ=>lift (blt b [x]) ρ:=(rfl)
theorem E16{c b x y r ρ}:ev c (.blt b (x::y::r)) ρ=(evs c (x::y::r) ρ).bind fun ds ρ=>lift (blt b ds) ρ:=(rfl)
theorem Xl{c b ρ}:ev c (.blt b []) ρ=(evs c [] ρ).bind fun ds ρ=>lift (blt b ds) ρ:=(rfl)
theorem E17{c ts a ρ}:ev c (.inst ts a) ρ=(bN (isVar a) (ev c a) ρ).bind fun x ρ=>.ok (.val (.bl (ts.any fun t=>bJ t x))) ρ:=(rfl)
theorem E18{c src n is one test elt ρ}:ev c (.comp src n is one test elt) ρ=(srcOf (isVar src) (ev c src) ρ).bind fun ds ρ₁=>if ds.length<=lim then(turns is one (m9 c test) (ev c elt) ds [] (ρ₁++replicate n .aP)).bind fun xs ρ₂=>.ok (.own xs) (aQ ρ (isVar src) (ρ₂.take ρ₁.length))else .stuck:=(rfl)
theorem E19{c a b ρ}:ev c (.xj a b) ρ=(iU (isVar a) (ev c a) (isVar b) (ev c b) ρ).bind fun xy ρ=>lift ((gA xy.1).bind fun i=>(gA xy.2).bind fun j=>if-1000000<=i/\i<=1000000000/\j<=1000000000/\-1000000000<=j then some (.val (.lst ((List.range (j-i).toNat).map fun(k:Nat)=>D.int (i+(k:Int)))))else none) ρ:=(rfl)
theorem E20{c a b ρ}:ev c (.zip a b) ρ=(ev c a ρ).bind fun x ρ=>(ev c b ρ).bind fun y ρ=>lift ((items x.d).bind fun ds=>(items y.d).map fun es=>.val (.lst ((ds.zip es).map fun p=>D.tup [p.1,p.2]))) ρ:=(rfl)
theorem E21{c x k d ρ}:ev c (.UG x k d) ρ=match ρ[x]?with
 |some (.eY _)=>(bN (isVar k) (ev c k) ρ).bind fun kd ρ=>(bN (isVar d) (ev c d) ρ).bind fun dd ρ=>match ρ[x]?with|some (.eY m)=>lift ((m.get kd).bind fun o=>(gA dd).map fun v=>.val (.int (o.getD v))) ρ|_=>.stuck
 |_=>.stuck:=(rfl)
theorem E22{c x ρ}:ev c (.vw x) ρ=match ρ[x]?with|some (.eY m)=>.ok (.val (.cN m)) (ρ.set x (.val false (.cN m)))|some (.bW kvs)=>.ok (.val (.dv (kvs.map (·.1)) (kvs.map (·.2)))) (ρ.set x (.val false (.dv (kvs.map (·.1)) (kvs.map (·.2)))))|_=>.stuck:=(rfl)
theorem E23{c x k ρ}:ev c (.M8 x k) ρ=match ρ[x]?with
 |some (.bW _)=>(bN (isVar k) (ev c k) ρ).bind fun kd ρ=>match ρ[x]?with|some (.bW kvs)=>lift ((gA kd).bind fun k=>(lK kvs k).map .val) ρ|_=>.stuck
 |_=>.stuck:=(rfl)
theorem E24{c x k neg ρ}:ev c (.M9 x k neg) ρ=(bN (isVar k) (ev c k) ρ).bind fun kd ρ=>match ρ[x]?with|some (.bW kvs)=>lift ((gA kd).map fun k=>.val (.bl (if neg then !(kvs.map (·.1)).contains k else(kvs.map (·.1)).contains k))) ρ|_=>.stuck:=(rfl)
theorem E25{c k e ρ}:ev c (.yJ k e) ρ=.ok (.val (.dv [k] [.int e])) ρ:=(rfl)
inductive S where|pass|brk|cont|bad|expr(e:P)|asg(i:Nat)(e:P)|par(i j:Nat)(a b:P)|CP(x:Nat)(i e:P)|app(x:Nat)(e:P)|ret(e:P)|Xy|ifs(c:P)(a b:List S)|jw(src:P)(i:List Nat)(one:Bool)(body:List S)|whl(c:P)(body:List S)|Hx(x:Nat)(i:P)(sub:Bool)(e:P)|Hy(x:Nat)(e:P)|Hz(x:Nat)(t:Bool)|dput(x:Nat)(k e:P)|HB(x:Nat)(src:P)(k:Nat)(is:List Nat)(one:Bool)(elt:P)|HD(x:Nat)(i e:P)|CQ(src:P)(is:List Nat)(one:Bool)(body:List S)|cC(x:Nat)|CT(x:Nat)|fH(x:Nat)(k e:P)deriving Inhabited
inductive Fl where|next|brk|cont|ret(r:R)deriving Inhabited
noncomputable def yu:R->Sl|.val d=>.val false d|.own ds=>.own false ds
noncomputable def fO(is:List Nat)(one:Bool)(body:List Sl->Res Fl):List D->List Sl->Res Fl|[],ρ=>.ok .next ρ|d::r,ρ=>match bI ρ is one d with|none=>.stuck|some ρ=>(body ρ).bind fun fl ρ=>match fl with|.next=>fO is one body r ρ|.cont=>fO is one body r ρ|.brk=>.ok .next ρ|.ret r=>.ok (.ret r) ρ
noncomputable def V5(x:Nat)(body:List Sl->Res Fl):List (List D)->List Sl->Res Fl|[],ρ=>.ok .next ρ|ds::r,ρ=>match put ρ x (.own false ds)with|none=>.stuck|some ρ=>(body ρ).bind fun fl ρ=>match fl with|.next=>V5 x body r ρ|.cont=>V5 x body r ρ|.brk=>.ok .next ρ|.ret r=>.ok (.ret r) ρ
noncomputable def qt(test:List Sl->Res Bool)(body:List Sl->Res Fl):Nat->List Sl->Res Fl|0,_=>.stuck|n+1,ρ=>(test ρ).bind fun b ρ=>if b then(body ρ).bind fun fl ρ=>match fl with|.next=>qt test body n ρ|.cont=>qt test body n ρ|.brk=>.ok .next ρ|.ret r=>.ok (.ret r) ρ else .ok .next ρ
noncomputable def dw(is:List Nat)(one:Bool)(elt:Ev):List D->List (List D)->List Sl->Res (List (List D))|[],acc,ρ=>.ok acc ρ|d::r,acc,ρ=>match bI ρ is one d with|none=>.stuck|some ρ=>(elt ρ).bind fun x ρ=>match x with|.own ds=>dw is one elt r (acc++[ds]) ρ|.val _=>.stuck
noncomputable def rowAt(rows:List (List D))(k:Int):Option (List D):=(gB rows.length k).bind fun r=>rows[r]?
noncomputable def iR(rows:List (List D))(k:Int)(f:List D->Option (List D)):Option (List (List D)):=(gB rows.length k).bind fun r=>(rows[r]?).bind fun row=>(f row).map fun ie=>rows.set r ie
noncomputable def setAt(l:Int)(d:D)(row:List D):Option (List D):=(gB row.length l).map fun m=>row.set m d
noncomputable def gQ(ρ:List Sl)(x:Nat):Option (List (List D)):=match ρ[x]?with|some (.hold rows)=>some rows|_=>none
noncomputable def sY(ρ:List Sl)(x:Nat)(k:D):Option (List D):=(gQ ρ x).bind fun rows=>(gA k).bind fun k=>rowAt rows k
noncomputable def BX(ρ:List Sl)(x:Nat)(o:Option (List (List D))):Res Fl:=match o with|some rows=>.ok .next (ρ.set x (.hold rows))|none=>.stuck
noncomputable def rowOne(x r:Nat)(ej ek el:List Sl->Res D)(ρ:List Sl):Res Fl:=(ek ρ).bind fun k ρ=>(lift ((gQ ρ x).bind fun rows=>(rows[r]?).bind fun row=>(gA k).bind fun k=>(at' row k).bind gA) ρ).bind fun u ρ=>(el ρ).bind fun l ρ=>(lift ((gQ ρ x).bind fun rows=>(rows[r]?).bind fun row=>(gA l).bind fun l=>(at' row l).bind gA) ρ).bind fun v ρ=>(ej ρ).bind fun j ρ=>BX ρ x ((gQ ρ x).bind fun rows=>(rows[r]?).bind fun row=>(gA j).bind fun j=>(setAt j (.int (u+v)) row).map fun ie=>rows.set r ie)
noncomputable def Ov(x y:Nat)(ej ek el:List Sl->Res D):Nat->Nat->List Sl->Res Fl|0,_,ρ=>.ok .next ρ|m+1,r,ρ=>(lift (put ρ y .aP) ρ).bind fun ρ _=>(rowOne x r ej ek el ρ).bind fun _ ρ=>Ov x y ej ek el m (r+1) ρ
noncomputable def hide(vis:List Nat)(x:Nat)(d:D):Nat->List Sl->List Sl|_,[]=>[]|i,s::ρ=>(if i=x then .val true d else if vis.contains i=true then(match s with|.val _ d=>.val true d|_=>.aP)else .aP)::hide vis x d (i+1) ρ
noncomputable def Ob(is:List Nat)(one:Bool)(body:List Sl->Res Fl)(bx:List Sl->Option (Nat×List Sl)):List D->List Sl->Option (Nat×List Sl)|[],_=>none|d::r,ρ=>match bI ρ is one d with|none=>none|some ρ=>match bx ρ with|some x=>some x|none=>match body ρ with|.ok .next ρ1=>Ob is one body bx r ρ1|.ok .cont ρ1=>Ob is one body bx r ρ1|_=>none
noncomputable def Q3:P->P|.idx a _=>a|e=>e
noncomputable def unl:Sl->Bool|.aP=>true|.val b _=>!b|.own b _=>!b|.lent _=>false|.eY _=>true|.hold _=>false|.bW _=>true
noncomputable def Lk(c:Call)(e:P)(ρ:List Sl):Option (Nat×List Sl):=match Q3 e with
 |.call f as=>match xg c as ρ with
   |.ok xs ρ1=>match bz ρ1 xs []with
     |some args=>match c f args with|.exc k args'=>some (k,bV xs args' 0 ρ1)|_=>none
     |none=>none
   |_=>none
 |_=>none
mutual
noncomputable def ex(c:Call)(n:Nat):S->List Sl->Res Fl
 |.pass,ρ=>.ok .next ρ|.brk,ρ=>.ok .brk ρ|.cont,ρ=>.ok .cont ρ|.bad,_=>.stuck|.expr e,ρ=>(ev c e ρ).bind fun _ ρ=>.ok .next ρ|.asg i e,ρ=>(ev c e ρ).bind fun r ρ=>(lift (put ρ i (yu r)) ρ).bind fun ρ' _=>.ok .next ρ'|.par i j a b,ρ=>(ev c a ρ).bind fun x ρ=>(ev c b ρ).bind fun y ρ=>(lift ((put ρ i (.val false x.d)).bind fun ρ=>put ρ j (.val false y.d)) ρ).bind fun ρ' _=>.ok .next ρ'|.CP x i e,ρ=>(ev c e ρ).bind fun r ρ=>(lift (pk ρ x) ρ).bind fun _ ρ=>(bN (isVar i) (ev c i) ρ).bind fun k ρ=>match ρ[x]?,k with
   |some (.own b ds),.int k=>match gB ds.length k with|some j=>.ok .next (ρ.set x (.own b (ds.set j r.d)))|none=>.stuck
   |_,_=>.stuck
 |.app x e,ρ=>(lift (yF ρ x) ρ).bind fun _ ρ=>(ev c e ρ).bind fun r ρ=>match ρ[x]?with|some (.own b ds)=>if ds.length<lim then .ok .next (ρ.set x (.own b (ds++[r.d])))else .stuck|_=>.stuck
 |.ret e,ρ=>match isVar e with
   |some i=>match ρ[i]?with|some (.own false ds)=>.ok (.ret (.own ds)) (ρ.set i .aP)|_=>(ev c e ρ).bind fun r ρ=>.ok (.ret r) ρ
   |none=>(ev c e ρ).bind fun r ρ=>.ok (.ret r) ρ
 |.Xy,ρ=>.ok (.ret (.val .non)) ρ|.ifs t a b,ρ=>(gH (ev c t) ρ).bind fun k ρ=>if k then eX c n a ρ else eX c n b ρ|.jw src is one body,ρ=>(srcOf (isVar src) (ev c src) ρ).bind fun ds ρ₁=>(fO is one (eX c n body) ds ρ₁).bind fun fl ρ₂=>.ok fl (aQ ρ (isVar src) ρ₂)|.whl t body,ρ=>qt (gH (ev c t)) (eX c n body) n ρ|.Hx x i sub e,ρ=>(lift (yF ρ x) ρ).bind fun _ ρ=>(bN (isVar i) (ev c i) ρ).bind fun k ρ=>(lift (yF ρ x) ρ).bind fun l ρ=>(lift ((gA k).bind fun i=>at' l i) ρ).bind fun a ρ=>(bN (isVar e) (ev c e) ρ).bind fun b ρ=>match a,b,ρ[x]?,k with
   |.int u,.int v,some (.own bb ds),.int k=>match gB ds.length k with|some j=>.ok .next (ρ.set x (.own bb (ds.set j (.int (if sub then u-v else u+v)))))|none=>.stuck
   |_,_,_,_=>.stuck
 |.Hy x e,ρ=>(lift (yF ρ x) ρ).bind fun _ ρ=>(ev c e ρ).bind fun r ρ=>match ρ[x]?,r with|some (.own b ds),.own es=>if ds.length+es.length<=lim then .ok .next (ρ.set x (.own b (ds++es)))else .stuck|_,_=>.stuck
 |.Hz x t,ρ=>match ρ[x]?with|some .aP=>.ok .next (ρ.set x (.eY (if t then .t []else .k [])))|_=>.stuck
 |.dput x k e,ρ=>(ev c e ρ).bind fun r ρ=>match ρ[x]?with
   |some (.eY _)=>(bN (isVar k) (ev c k) ρ).bind fun kd ρ=>match ρ[x]?,r with
     |some (.eY m),.val (.int v)=>match m.put kd v with|some m'=>.ok .next (ρ.set x (.eY m'))|none=>.stuck
     |_,_=>.stuck
   |_=>.stuck
 |.HB x src k is one elt,ρ=>(srcOf (isVar src) (ev c src) ρ).bind fun ds ρ₁=>if ds.length<=lim then(dw is one (ev c elt) ds [] (ρ₁++replicate k .aP)).bind fun rows ρ₂=>(lift (put (aQ ρ (isVar src) (ρ₂.take ρ₁.length)) x (.hold rows)) ρ).bind fun ρ' _=>.ok .next ρ' else .stuck|.HD x i e,ρ=>(bN (isVar i) (ev c i) ρ).bind fun k ρ=>(lift (sY ρ x k) ρ).bind fun _ ρ=>(ev c e ρ).bind fun r ρ=>BX ρ x ((gQ ρ x).bind fun rows=>(gA k).bind fun k=>iR rows k fun row=>if row.length<lim then some (row++[r.d])else none)|.CQ src is one body,ρ=>(ev c src ρ).bind fun r ρ₁=>(lift (items r.d) ρ₁).bind fun ds ρ₁=>fO is one (eX c n body) ds ρ₁|.cC x,ρ=>match ρ[x]?with|some (.hold rows)=>.ok .next (ρ.set x (.val false (.lst (rows.map D.lst))))|_=>.stuck
 |.CT x,ρ=>match ρ[x]?with|some .aP=>.ok .next (ρ.set x (.bW []))|some (.bW _)=>.ok .next (ρ.set x (.bW []))|some (.val false _)=>.ok .next (ρ.set x (.bW []))|_=>.stuck
 |.fH x k e,ρ=>(ev c e ρ).bind fun r ρ=>match ρ[x]?with
   |some (.bW _)=>(bN (isVar k) (ev c k) ρ).bind fun kd ρ=>match ρ[x]?,kd with|some (.bW kvs),.int k=>if kvs.length<lim then .ok .next (ρ.set x (.bW (fH kvs k r.d)))else .stuck|_,_=>.stuck
   |_=>.stuck
noncomputable def eX(c:Call)(n:Nat):List S->List Sl->Res Fl|[],ρ=>.ok .next ρ|s::r,ρ=>(ex c n s ρ).bind fun fl ρ=>match fl with|.next=>eX c n r ρ|fl=>.ok fl ρ
noncomputable def exX(c:Call)(n:Nat):S->List Sl->Option (Nat×List Sl)
 |.ifs t a b,ρ=>match gH (ev c t) ρ with|.ok x ρ1=>if x then Gf c n a ρ1 else Gf c n b ρ1|_=>none
 |.jw src is one body,ρ=>match srcOf (isVar src) (ev c src) ρ with|.ok ds ρ1=>(Ob is one (eX c n body) (Gf c n body) ds ρ1).map fun x=>(x.1,aQ ρ (isVar src) x.2)|_=>none
 |.asg _ e,ρ=>Lk c e ρ|.expr e,ρ=>Lk c e ρ|_,_=>none
noncomputable def Gf(c:Call)(n:Nat):List S->List Sl->Option (Nat×List Sl)|[],_=>none|s::r,ρ=>match exX c n s ρ with|some x=>some x|none=>match ex c n s ρ with|.ok .next ρ1=>Gf c n r ρ1|_=>none
end
theorem X1{c n ρ}:ex c n (.pass) ρ=.ok .next ρ:=(rfl)
theorem X2{c n ρ}:ex c n (.brk) ρ=.ok .brk ρ:=(rfl)
theorem X3{c n ρ}:ex c n (.cont) ρ=.ok .cont ρ:=(rfl)
theorem X4{c n ρ}:ex c n (.bad) ρ=.stuck:=(rfl)
theorem X5{c n e ρ}:ex c n (.expr e) ρ=(ev c e ρ).bind fun _ ρ=>.ok .next ρ:=(rfl)
theorem X6{c n i e ρ}:ex c n (.asg i e) ρ=(ev c e ρ).bind fun r ρ=>(lift (put ρ i (yu r)) ρ).bind fun ρ' _=>.ok .next ρ':=(rfl)
theorem X7{c n i j a b ρ}:ex c n (.par i j a b) ρ=(ev c a ρ).bind fun x ρ=>(ev c b ρ).bind fun y ρ=>(lift ((put ρ i (.val false x.d)).bind fun ρ=>put ρ j (.val false y.d)) ρ).bind fun ρ' _=>.ok .next ρ':=(rfl)
theorem X8{c n x i e ρ}:ex c n (.CP x i e) ρ=(ev c e ρ).bind fun r ρ=>(lift (pk ρ x) ρ).bind fun _ ρ=>(bN (isVar i) (ev c i) ρ).bind fun k ρ=>match ρ[x]?,k with
 |some (.own b ds),.int k=>match gB ds.length k with|some j=>.ok .next (ρ.set x (.own b (ds.set j r.d)))|none=>.stuck
 |_,_=>.stuck:=(rfl)
theorem X9{c n x e ρ}:ex c n (.app x e) ρ=(lift (yF ρ x) ρ).bind fun _ ρ=>(ev c e ρ).bind fun r ρ=>match ρ[x]?with|some (.own b ds)=>if ds.length<lim then .ok .next (ρ.set x (.own b (ds++[r.d])))else .stuck|_=>.stuck:=(rfl)
theorem Zu{c n e ρ}:ex c n (.ret e) ρ=match isVar e with
 |some i=>match ρ[i]?with|some (.own false ds)=>.ok (.ret (.own ds)) (ρ.set i .aP)|_=>(ev c e ρ).bind fun r ρ=>.ok (.ret r) ρ
 |none=>(ev c e ρ).bind fun r ρ=>.ok (.ret r) ρ:=(rfl)
theorem X11{c n ρ}:ex c n (.Xy) ρ=.ok (.ret (.val .non)) ρ:=(rfl)
theorem YJ{c n t a b ρ}:ex c n (.ifs t a b) ρ=(gH (ev c t) ρ).bind fun k ρ=>if k then eX c n a ρ else eX c n b ρ:=(rfl)
theorem X13{c n src is one body ρ}:ex c n (.jw src is one body) ρ=(srcOf (isVar src) (ev c src) ρ).bind fun ds ρ₁=>(fO is one (eX c n body) ds ρ₁).bind fun fl ρ₂=>.ok fl (aQ ρ (isVar src) ρ₂):=(rfl)
theorem X14{c n t body ρ}:ex c n (.whl t body) ρ=qt (gH (ev c t)) (eX c n body) n ρ:=(rfl)
theorem X15{c n x i sub e ρ}:ex c n (.Hx x i sub e) ρ=(lift (yF ρ x) ρ).bind fun _ ρ=>(bN (isVar i) (ev c i) ρ).bind fun k ρ=>(lift (yF ρ x) ρ).bind fun l ρ=>(lift ((gA k).bind fun i=>at' l i) ρ).bind fun a ρ=>(bN (isVar e) (ev c e) ρ).bind fun b ρ=>match a,b,ρ[x]?,k with
 |.int u,.int v,some (.own bb ds),.int k=>match gB ds.length k with|some j=>.ok .next (ρ.set x (.own bb (ds.set j (.int (if sub then u-v else u+v)))))|none=>.stuck
 |_,_,_,_=>.stuck:=(rfl)
theorem X16{c n x e ρ}:ex c n (.Hy x e) ρ=(lift (yF ρ x) ρ).bind fun _ ρ=>(ev c e ρ).bind fun r ρ=>match ρ[x]?,r with|some (.own b ds),.own es=>if ds.length+es.length<=lim then .ok .next (ρ.set x (.own b (ds++es)))else .stuck|_,_=>.stuck:=(rfl)
theorem X17{c n x t ρ}:ex c n (.Hz x t) ρ=match ρ[x]?with|some .aP=>.ok .next (ρ.set x (.eY (if t then .t []else .k [])))|_=>.stuck:=(rfl)
theorem X18{c n x k e ρ}:ex c n (.dput x k e) ρ=(ev c e ρ).bind fun r ρ=>match ρ[x]?with
 |some (.eY _)=>(bN (isVar k) (ev c k) ρ).bind fun kd ρ=>match ρ[x]?,r with
   |some (.eY m),.val (.int v)=>match m.put kd v with|some m'=>.ok .next (ρ.set x (.eY m'))|none=>.stuck
   |_,_=>.stuck
 |_=>.stuck:=(rfl)
theorem X19{c n x src k is one elt ρ}:ex c n (.HB x src k is one elt) ρ=(srcOf (isVar src) (ev c src) ρ).bind fun ds ρ₁=>if ds.length<=lim then(dw is one (ev c elt) ds [] (ρ₁++replicate k .aP)).bind fun rows ρ₂=>(lift (put (aQ ρ (isVar src) (ρ₂.take ρ₁.length)) x (.hold rows)) ρ).bind fun ρ' _=>.ok .next ρ' else .stuck:=(rfl)
theorem X20{c n x i e ρ}:ex c n (.HD x i e) ρ=(bN (isVar i) (ev c i) ρ).bind fun k ρ=>(lift (sY ρ x k) ρ).bind fun _ ρ=>(ev c e ρ).bind fun r ρ=>BX ρ x ((gQ ρ x).bind fun rows=>(gA k).bind fun k=>iR rows k fun row=>if row.length<lim then some (row++[r.d])else none):=(rfl)
theorem X21{c n src is one body ρ}:ex c n (.CQ src is one body) ρ=(ev c src ρ).bind fun r ρ₁=>(lift (items r.d) ρ₁).bind fun ds ρ₁=>fO is one (eX c n body) ds ρ₁:=(rfl)
theorem X22{c n x ρ}:ex c n (.cC x) ρ=match ρ[x]?with|some (.hold rows)=>.ok .next (ρ.set x (.val false (.lst (rows.map D.lst))))|_=>.stuck:=(rfl)
theorem X23{c n x ρ}:ex c n (.CT x) ρ=match ρ[x]?with|some .aP=>.ok .next (ρ.set x (.bW []))|some (.bW _)=>.ok .next (ρ.set x (.bW []))|some (.val false _)=>.ok .next (ρ.set x (.bW []))|_=>.stuck:=(rfl)
theorem X24{c n x k e ρ}:ex c n (.fH x k e) ρ=(ev c e ρ).bind fun r ρ=>match ρ[x]?with
 |some (.bW _)=>(bN (isVar k) (ev c k) ρ).bind fun kd ρ=>match ρ[x]?,kd with|some (.bW kvs),.int k=>if kvs.length<lim then .ok .next (ρ.set x (.bW (fH kvs k r.d)))else .stuck|_,_=>.stuck
 |_=>.stuck:=(rfl)
structure Fd where
 np:Nat
 nn:Nat
 body:List S deriving Inhabited
noncomputable abbrev Tab:=Nat->Option Fd
noncomputable def enter(c:Call)(n:Nat)(d:Fd)(args:List Sl):Res R:=if args.length=d.np/\d.np<=d.nn then match eX c n d.body (args++replicate (d.nn-d.np) .aP)with|.ok .next ρ=>.ok (.val .non) (ρ.take d.np)|.ok (.ret r) ρ=>.ok r (ρ.take d.np)|_=>match Gf c n d.body (args++replicate (d.nn-d.np) .aP)with|some (k,ρ)=>.exc k (ρ.take d.np)|none=>.stuck else .stuck
noncomputable def run(Γ:Tab)(w:Nat):Nat->Call|0,_,_=>.stuck|n+1,f,args=>match Γ f with|some d=>enter (run Γ w n) w d args|none=>.stuck
end HH
end
section
namespace HH
open PySem L2
noncomputable def Dc.ho:Dc->HO|.k kvs=>.dK (kvs.map fun p=>(Sum.inl p.1,V.int p.2))|.t kvs=>.dT (kvs.map fun p=>(p.1.map Sum.inl,V.int p.2))
noncomputable def Aq(ks:List Int)(vs:List V):HO:=.dK ((ks.zip vs).map fun p=>(Sum.inl p.1,p.2))
section
variable(K:PySem.W.Frag)
mutual
def Rep(F:Hp):V->D->Prop|v,.non=>v=.non|v,.bl b=>v=.bl b|v,.int i=>v=.int i|v,.str x=>v=.str x|v,.tup ds=>∃a xs,v=.ref a/\jm K F a xs/\au F xs ds|v,.lst ds=>∃a xs,v=.ref a/\dz K F a xs/\au F xs ds|v,.cN m=>∃a o,v=.ref a/\F a=some (.cC o m.ho)|v,.dv ks ds=>∃a o vs,v=.ref a/\F a=some (.cC o (Aq ks vs))/\au F vs ds/\ks.length=ds.length
def au(F:Hp):List V->List D->Prop|vs,[]=>vs=[]|vs,d::ds=>∃v r,vs=v::r/\Rep F v d/\au F r ds
end
end
section
variable{K:PySem.W.Frag}{F F' H H':Hp}
theorem aG.gq{a:Addr}{xs:List V}(e:aG H H')(h:jm K H a xs):jm K H' a xs:=by
 rcases h with(h|⟨o,h⟩)|h;.exact .inl (.inl (e _ _ h))
 .exact .inl (.inr ⟨o,e _ _ h⟩)
 .exact .inr h
mutual
theorem Rep.mono(e:aG F F'):∀{d:D}{v:V},Rep K F v d->Rep K F' v d|.non,_,h=>by rw[Rep]at h ⊢;exact h|.bl _,_,h=>by rw[Rep]at h ⊢;exact h|.int _,_,h=>by rw[Rep]at h ⊢;exact h|.str _,_,h=>by rw[Rep]at h ⊢;exact h|.tup ds,_,h=>by rw[Rep]at h ⊢;obtain⟨a,xs,rfl,hs,r⟩:=h;exact⟨a,xs,rfl,aG.gq e hs,au.mono e r⟩|.lst ds,_,h=>by rw[Rep]at h ⊢;obtain⟨a,xs,rfl,hs,r⟩:=h;exact⟨a,xs,rfl,e.seq hs,au.mono e r⟩|.cN m,_,h=>by rw[Rep]at h ⊢;obtain⟨a,o,rfl,hs⟩:=h;exact⟨a,o,rfl,e _ _ hs⟩|.dv ks ds,_,h=>by rw[Rep]at h ⊢;obtain⟨a,o,vs,rfl,hs,r,hl⟩:=h;exact⟨a,o,vs,rfl,e _ _ hs,au.mono e r,hl⟩theorem au.mono(e:aG F F'):∀{ds:List D}{vs:List V},au K F vs ds->au K F' vs ds|[],_,h=>by rw[au]at h ⊢;exact h|d::ds,_,h=>by rw[au]at h ⊢;obtain⟨v,r,rfl,h1,h2⟩:=h;exact⟨v,r,rfl,Rep.mono e h1,au.mono e h2⟩end
theorem au.nil:au K F [] []:=by rw[au]
theorem au.cons{v:V}{d:D}{vs:List V}{ds:List D}(h:Rep K F v d)(t:au K F vs ds):au K F (v::vs) (d::ds):=by rw[au];exact⟨v,vs,rfl,h,t⟩
theorem au.bT{vs:List V}{d:D}{ds:List D}(h:au K F vs (d::ds)):∃v r,vs=v::r/\Rep K F v d/\au K F r ds:=by rw[au]at h;exact h
theorem au.fu{vs:List V}(h:au K F vs []):vs=[]:=by rw[au]at h;exact h
theorem au.length:∀{ds:List D}{vs:List V},au K F vs ds->vs.length=ds.length|[],_,h=>by rw[h.fu];rfl|d::ds,_,h=>by obtain⟨v,r,rfl,_,t⟩:=h.bT;simp[au.length t]
theorem au.get:∀{ds:List D}{vs:List V}{i:Nat}{d:D},au K F vs ds->ds[i]?=some d->∃v,vs[i]?=some v/\Rep K F v d|[],_,_,_,h,e=>by simp at e|d::ds,_,0,_,h,e=>by obtain⟨v,r,rfl,h1,t⟩:=h.bT;simp at e;subst e;exact⟨v,rfl,h1⟩|d::ds,_,i+1,_,h,e=>by obtain⟨v,r,rfl,_,t⟩:=h.bT;simp at e;obtain⟨w,e1,e2⟩:=t.get e;exact⟨w,by simpa using e1,e2⟩
theorem au.append:∀{ds es:List D}{vs us:List V},au K F vs ds->au K F us es->au K F (vs++us) (ds++es)|[],_,_,_,h,h'=>by rw[h.fu];exact h'|d::ds,_,_,_,h,h'=>by obtain⟨v,r,rfl,h1,t⟩:=h.bT;exact .cons h1 (t.append h')
theorem au.set{v:V}{d:D}(hr:Rep K F v d):∀{ds:List D}{vs:List V}(i:Nat),au K F vs ds->au K F (vs.set i v) (ds.set i d)|[],_,_,h=>by rw[h.fu];exact .nil|_::_,_,0,h=>by obtain⟨w,r,rfl,h1,t⟩:=h.bT;exact .cons hr t|_::_,_,i+1,h=>by obtain⟨w,r,rfl,h1,t⟩:=h.bT;exact .cons h1 (au.set hr i t)
theorem au.take:∀{ds:List D}{vs:List V}(n:Nat),au K F vs ds->au K F (vs.take n) (ds.take n)|[],_,n,h=>by rw[h.fu];simpa using au.nil|_::_,_,0,h=>.nil|_::_,_,n+1,h=>by obtain⟨w,r,rfl,h1,t⟩:=h.bT;exact .cons h1 (t.take n)
theorem au.drop:∀{ds:List D}{vs:List V}(n:Nat),au K F vs ds->au K F (vs.drop n) (ds.drop n)|[],_,n,h=>by rw[h.fu];simpa using au.nil|_::_,_,0,h=>h|_::_,_,n+1,h=>by obtain⟨w,r,rfl,h1,t⟩:=h.bT;exact t.drop n
theorem au.rep{ds:List D}{vs:List V}(h:au K F vs ds):∀n,au K F (replicate n vs).flatten (replicate n ds).flatten|0=>by simpa using au.nil|n+1=>by simpa[replicate_succ]using h.append (au.rep h n)
inductive Oc where|l(ds:List D)|d(m:Dc)|v(kvs:List (Int×D))
noncomputable def lst?:Sl->Option Oc|.own _ ds=>some (.l ds)|.lent ds=>some (.l ds)|.eY m=>some (.d m)|.bW kvs=>some (.v kvs)|_=>none
def jy(K:PySem.W.Frag)(F:Hp)(o:HO):Oc->Prop|.l ds=>∃xs,o=.lst xs/\au K F xs ds|.d m=>o=m.ho|.v kvs=>∃vs,o=Aq (kvs.map (·.1)) vs/\au K F vs (kvs.map (·.2))
theorem jy.mono{o:HO}{x:Oc}(e:aG F F')(h:jy K F o x):jy K F' o x:=by cases x with|l ds=>obtain⟨xs,e1,h⟩:=h;exact⟨xs,e1,h.mono e⟩|d m=>exact h|v kvs=>obtain⟨xs,e1,h⟩:=h;exact⟨xs,e1,h.mono e⟩
def aK(ρ:List Sl)(σ:St)(i:Nat)(a:Addr):Prop:=(∃s ds,ρ[i]?=some s/\lst? s=some ds)/\σ[i]?=some (some (V.ref a))
def Own(ρ:List Sl)(σ:St)(a:Addr):Prop:=∃i,aK ρ σ i a
structure GS(K:PySem.W.Frag)(F:Hp)(ρ:List Sl)(σ:St)(H:Hp):Prop where
 sub:aG F H
 len:ρ.length=σ.length
 val:∀(i:Nat)(b:Bool)(d:D),ρ[i]?=some (Sl.val b d)->∃v:V,σ[i]?=some (some v)/\Rep K F v d
 own:∀(i:Nat)(s:Sl)(ds:Oc),ρ[i]?=some s->lst? s=some ds->∃(a:Addr)(xs:HO),σ[i]?=some (some (V.ref a))/\H a=some xs/\F a=none/\jy K F xs ds
 dis:∀(i j:Nat)(a:Addr),aK ρ σ i a->aK ρ σ j a->i=j
theorem GS.pM{ρ:List Sl}{σ:St}(g:GS K F ρ σ H)(i:Nat)(s:Sl)(ds:List D)(e:ρ[i]?=some s)(e':lst? s=some (.l ds)):∃(a:Addr)(xs:List V),σ[i]?=some (some (V.ref a))/\H a=some (.lst xs)/\F a=none/\au K F xs ds:=by obtain⟨a,o,h1,h2,h3,xs,rfl,h4⟩:=g.own i s (.l ds) e e';exact⟨a,xs,h1,h2,h3,h4⟩
noncomputable def ud:Sl->Bool|.val b _=>b|.own b _=>b|.lent _=>true|.aP=>false|.eY _=>false|.bW _=>false|.hold _=>true
def j9:Sl->Sl->Prop|.val true d,s=>s=.val true d|.own true _,s=>(∃ds,s=.own true ds)\/∃d,s=.val true d|.lent ds,s=>s=.lent ds|.hold ds,s=>s=.hold ds|_,_=>True
theorem j9.refl(s:Sl):j9 s s:=by unfold j9;split<;>first|rfl|exact .inl ⟨_,rfl⟩|trivial
theorem j9.ud{s s':Sl}(h:j9 s s')(l:ud s=true):HH.ud s'=true:=by cases s with
 |aP=>cases l|eY _=>cases l|bW _=>cases l|val b d=>cases b with|true=>cases h;rfl|false=>cases l
 |own b d=>cases b with|true=>rcases h with⟨_,rfl⟩|⟨_,rfl⟩<;>rfl|false=>cases l
 |lent d=>cases h;rfl|hold d=>cases h;rfl
theorem j9.trans{s s' s'':Sl}(l:HH.ud s=true)(h:j9 s s')(h':j9 s' s''):j9 s s'':=by cases s with
 |aP=>cases l|eY _=>cases l|bW _=>cases l|val b d=>cases b with|true=>cases h;exact h'|false=>cases l
 |own b d=>cases b with
   | true => rcases h with⟨_,rfl⟩|⟨d,rfl⟩;.exact h'
             .exact .inr ⟨d,h'⟩|false=>cases l
 |lent d=>cases h;exact h'|hold d=>cases h;exact h'
noncomputable def nt:Option HO->Option HO|some (.tup _)=>none|o=>o
theorem iZ{o:Option HO}(h:o=none):nt o=none:=by rw[h];rfl
theorem Gm{H:Hp}{b:Addr}{xs:List V}(h:H b=some (.lst xs))(z:nt (H b)=none):False:=by rw[h]at z;cases z
theorem Gg{o:HO}{x:Oc}(h:jy K F o x)(z:nt (some o)=none):False:=by cases x with|l ds=>obtain⟨xs,rfl,_⟩:=h;cases z|d m=>cases m<;>(cases(show o=_ from h);cases z)|v kvs=>obtain⟨xs,rfl,_⟩:=h;cases z
structure aq(K:PySem.W.Frag)(F:Hp)(ρ:List Sl)(σ:St)(H:Hp)(F':Hp)(ρ':List Sl)(σ':St)(H':Hp):Prop where
 gs:GS K F' ρ' σ' H'
 bZ:aG F F'
 wR:∀b,F b=none->F' b≠none->Own ρ σ b\/nt (H b)=none
 keep:∀b o,H b=some o->¬ Own ρ σ b->H' b=some o
 uJ:∀b,Own ρ' σ' b->Own ρ σ b\/H b=none
 len:ρ'.length=ρ.length
 lk:∀(i:Nat)(s:Sl),ρ[i]?=some s->ud s=true->σ'[i]?=σ[i]?/\∃s',ρ'[i]?=some s'/\j9 s s'
theorem aq.refl{ρ:List Sl}{σ:St}(g:GS K F ρ σ H):aq K F ρ σ H F ρ σ H:=⟨g,aG.refl _,fun b h h'=>absurd h h',fun _ _ h _=>h,fun _ h=>.inl h,rfl,fun i s h _=>⟨rfl,s,h,.refl s⟩⟩
theorem aq.trans{F1 F2 H1 H2:Hp}{ρ ρ1 ρ2:List Sl}{σ σ1 σ2:St}(a:aq K F ρ σ H F1 ρ1 σ1 H1)(b:aq K F1 ρ1 σ1 H1 F2 ρ2 σ2 H2):aq K F ρ σ H F2 ρ2 σ2 H2:=by
 have back:∀c,Own ρ1 σ1 c\/H1 c=none->Own ρ σ c\/H c=none:=fun c h=>by
  rcases h with h|h;.exact a.uJ c h
  . by_cases ho:Own ρ σ c;.exact .inl ho
    .right;cases e:H c with|none=>rfl|some o=>rw[a.keep c o e ho]at h;cases h
 refine⟨b.gs,a.bZ.trans b.bZ,fun c h h'=>?_,fun c o h n=>?_,fun c h=>back c (b.uJ c h),b.len.trans a.len,fun i s h l=>?_⟩
 . by_cases e:F1 c=none
   . by_cases ho:Own ρ σ c;.exact .inl ho
     . rcases b.wR c e h' with z|z;.exact(back c (.inl z)).imp id iZ
       .right;cases q:H c with|none=>rfl|some o=>rw[a.keep c o q ho]at z;exact z
   .exact a.wR c h e
 . refine b.keep c o (a.keep c o h n) fun h'=>?_;rcases a.uJ c h' with h'|h';.exact n h'
   .rw[h]at h';cases h'
 .obtain⟨e1,s1,h1,k1⟩:=a.lk i s h l;obtain⟨e2,s2,h2,k2⟩:=b.lk i s1 h1 (k1.ud l);exact⟨e2.trans e1,s2,h2,.trans l k1 k2⟩
def cO(K:PySem.W.Frag)(F H:Hp)(v:V)(d:D):Prop:=Rep K F v d\/∃a xs ds,v=.ref a/\H a=some (.lst xs)/\au K F xs ds/\d=.lst ds
def bM(K:PySem.W.Frag)(F':Hp)(ρ':List Sl)(σ':St)(H':Hp)(ρ:List Sl)(σ:St)(H:Hp)(v:V):R->Prop|.val d=>Rep K F' v d|.own ds=>∃a xs,v=.ref a/\H' a=some (.lst xs)/\F' a=none/\au K F' xs ds/\¬ Own ρ' σ' a/\(Own ρ σ a\/H a=none)
theorem aG.bB{F:Hp}{a:Addr}{o:HO}(h:F a=none):aG F (upd F a o):=fun b u e=>by
 have:b≠a:=by rintro rfl;rw[h]at e;cases e
 rw[ao this];exact e
theorem aq.cC{ρ ρ':List Sl}{σ σ':St}{v:V}{r:R}(s:aq K F ρ σ H F' ρ' σ' H')(h:bM K F' ρ' σ' H' ρ σ H v r):∃F'',aq K F ρ σ H F'' ρ' σ' H'/\aG F' F''/\Rep K F'' v r.d:=by cases r with|val d=>exact⟨F',s,.refl _,h⟩|own ds=>
   obtain⟨a,xs,rfl,h1,h2,h3,h4,h5⟩:=h;have sm:aG F' (upd F' a (.lst xs)):=aG.bB h2;refine⟨upd F' a (.lst xs),⟨⟨fun b o e=>?_,s.gs.len,fun i b d e=>?_,fun i sl ds' e e'=>?_,s.gs.dis⟩,s.bZ.trans sm,fun b n n'=>?_,s.keep,s.uJ,s.len,s.lk⟩,sm,?_⟩
   . by_cases hb:b=a;.subst hb;rw[aH]at e;cases e;exact h1
     .rw[ao hb]at e;exact s.gs.sub b o e
   .obtain⟨v,e1,e2⟩:=s.gs.val i b d e;exact⟨v,e1,e2.mono sm⟩
   . obtain⟨b,ys,e1,e2,e3,e4⟩:=s.gs.own i sl ds' e e';have hb:b≠a:=by rintro rfl;exact h4 ⟨i,⟨sl,ds',e,e'⟩,e1⟩
     exact⟨b,ys,e1,e2,by rw[ao hb];exact e3,e4.mono sm⟩
   . by_cases hb:b=a;.subst hb;exact h5.imp id iZ
     .rw[ao hb]at n';exact s.wR b n n'
   .show Rep K _ _ (.lst ds);rw[Rep];exact⟨a,xs,rfl,dz.of aH,h3.mono sm⟩
theorem GS.pk{ρ:List Sl}{σ:St}{i:Nat}{d:D}(g:GS K F ρ σ H)(e:HH.pk ρ i=some d):∃v:V,σ[i]?=some (some v)/\cO K F H v d:=by
 unfold HH.pk at e;split at e;.rename_i b d' h;cases e;obtain⟨v,h1,h2⟩:=g.val i b d h;exact⟨v,h1,.inl h2⟩
 .rename_i b ds h;cases e;obtain⟨a,xs,h1,h2,h3,h4⟩:=g.pM i _ ds h rfl;exact⟨.ref a,h1,.inr ⟨a,xs,ds,rfl,h2,h4,rfl⟩⟩
 .rename_i ds h;cases e;obtain⟨a,xs,h1,h2,h3,h4⟩:=g.pM i _ ds h rfl;exact⟨.ref a,h1,.inr ⟨a,xs,ds,rfl,h2,h4,rfl⟩⟩
 .cases e
structure Ext(F H F' H':Hp):Prop where
 hs:aG H H'
 fs:aG F F'
 sub:aG F' H'
 gr:∀b,F b=none->F' b≠none->nt (H b)=none
theorem Ext.refl(h:aG F H):Ext F H F H:=⟨.refl _,.refl _,h,fun _ a b=>absurd a b⟩
theorem Ext.stp{ρ:List Sl}{σ:St}(g:GS K F ρ σ H)(e:Ext F H F' H'):aq K F ρ σ H F' ρ σ H':=by
 refine⟨⟨e.sub,g.len,fun i b d h=>?_,fun i s ds h h'=>?_,g.dis⟩,e.fs,fun b n n'=>.inr (e.gr b n n'),fun b o h _=>e.hs b o h,fun _ h=>.inl h,rfl,fun i s h _=>⟨rfl,s,h,.refl s⟩⟩;.obtain⟨v,h1,h2⟩:=g.val i b d h;exact⟨v,h1,h2.mono e.fs⟩
 .obtain⟨a,xs,h1,h2,h3,h4⟩:=g.own i s ds h h';refine⟨a,xs,h1,e.hs _ _ h2,?_,h4.mono e.fs⟩;cases q:F' a with|none=>rfl|some o=>have:=e.gr a h3 (by rw[q];simp);rw[h2]at this;exact(Gg h4 this).elim
def bK(K:PySem.W.Frag)(F' H' H:Hp)(v:V):R->Prop|.val d=>Rep K F' v d|.own ds=>∃a xs,v=.ref a/\H' a=some (.lst xs)/\F' a=none/\au K F' xs ds/\H a=none
theorem bK.m5{ρ:List Sl}{σ:St}{v:V}{r:R}(g:GS K F ρ σ H)(h:bK K F' H' H v r):bM K F' ρ σ H' ρ σ H v r:=by cases r with|val d=>exact h|own ds=>obtain⟨a,xs,rfl,h1,h2,h3,h4⟩:=h;refine⟨a,xs,rfl,h1,h2,h3,?_,.inr h4⟩;rintro⟨i,⟨s,ds',e,e'⟩,e2⟩;obtain⟨b,ys,q1,q2,_⟩:=g.own i s ds' e e';rw[e2]at q1;cases q1;rw[h4]at q2;cases q2
theorem bM.later{F1 H1 F2 H2:Hp}{ρ ρ1 ρ2:List Sl}{σ σ1 σ2:St}{v:V}{r:R}(a:aq K F ρ σ H F1 ρ1 σ1 H1)(h:bM K F2 ρ2 σ2 H2 ρ1 σ1 H1 v r):bM K F2 ρ2 σ2 H2 ρ σ H v r:=by cases r with|val d=>exact h|own ds=>
   obtain⟨b,xs,rfl,h1,h2,h3,h4,h5⟩:=h;refine⟨b,xs,rfl,h1,h2,h3,h4,?_⟩;rcases h5 with h5|h5;.exact a.uJ b h5
   . by_cases ho:Own ρ σ b;.exact .inl ho
     .right;cases e:H b with|none=>rfl|some o=>rw[a.keep b o e ho]at h5;cases h5
end
end HH
end
section
namespace HH
open PySem L2 PySem.Spec PyProof.Rows
theorem aa{α β:Type}{x:Res α}{f:α->List Sl->Res β}{b:β}{ρ':List Sl}(h:x.bind f=.ok b ρ'):∃a ρ,x=.ok a ρ/\f a ρ=.ok b ρ':=by cases x with|ok a ρ=>exact⟨a,ρ,rfl,h⟩|exc _ _=>cases h|stuck=>cases h
theorem aA{α:Type}{o:Option α}{ρ ρ':List Sl}{a:α}(h:lift o ρ=.ok a ρ'):o=some a/\ρ=ρ':=by cases o with|none=>cases h|some b=>cases h;exact⟨rfl,rfl⟩
theorem map_some{α β:Type}{o:Option α}{f:α->β}{b:β}(h:o.map f=some b):∃a,o=some a/\f a=b:=by cases o with|none=>cases h|some a=>cases h;exact⟨a,rfl,rfl⟩
theorem bF{α β:Type}{o:Option α}{f:α->Option β}{b:β}(h:o.bind f=some b):∃a,o=some a/\f a=some b:=by cases o with|none=>cases h|some a=>exact⟨a,rfl,h⟩
theorem aW{α:Type}{c:Prop}[Decidable c]{a b:α}(h:(if c then some a else none)=some b):c/\a=b:=by
 split at h;.rename_i hc;cases h;exact⟨hc,rfl⟩
 .cases h
section
variable{X:Cx}{c:Call}{e a b:Expr}{p pa pb:P}{pos:Pos}
theorem cT{t t':TE}(h:PE X e t)(i:∀σ H Q,t' σ H Q->t σ H Q):PE X e t':=fun pins s σ H Q I q=>h pins s σ H Q I (i σ H Q q)
theorem vf{t t':TT}(h:PT X e t)(i:∀σ H Q,t' σ H Q->t σ H Q):PT X e t':=fun pins s σ H Q I q=>h pins s σ H Q I (i σ H Q q)
theorem Mv{t t':TT}(h:PW X e t)(i:∀σ H Q,t' σ H Q->t σ H Q):PW X e t':=fun wh pins s σ H Q I q=>h wh pins s σ H Q I (i σ H Q q)
theorem wH{es:List Expr}{t t':TA}(h:PA X es t)(i:∀σ H Q,t' σ H Q->t σ H Q):PA X es t':=fun pos pins s σ H Q I q=>h pos pins s σ H Q I (i σ H Q q)
inductive xf(K:PySem.W.Frag)(f:Ev)(σ:L2.St)(H:Hp)(Q:VK):Prop where|mk(F:Hp)(ρ:List Sl)(r:R)(ρ':List Sl)(g:GS K F ρ σ H)(e:f ρ=.ok r ρ')(k:∀v F' H',aq K F ρ σ H F' ρ' σ H'->bM K F' ρ' σ H' ρ σ H v r->Q v H')
inductive HR(K:PySem.W.Frag)(f:List Sl->Res Bool)(σ:L2.St)(H:Hp)(Q:Bool->Hp->Prop):Prop where|mk(F:Hp)(ρ:List Sl)(b:Bool)(ρ':List Sl)(g:GS K F ρ σ H)(e:f ρ=.ok b ρ')(k:∀F' H',aq K F ρ σ H F' ρ' σ H'->Q b H')
inductive ace(K:PySem.W.Frag)(f:List Sl->Res (List D))(σ:L2.St)(H:Hp)(Q:List V->Hp->Prop):Prop where|mk(F:Hp)(ρ:List Sl)(ds:List D)(ρ':List Sl)(g:GS K F ρ σ H)(e:f ρ=.ok ds ρ')(k:∀vs F' H',aq K F ρ σ H F' ρ' σ H'->au K F' vs ds->Q vs H')
structure SX(X:Cx)(c:Call)(e:Expr)(p:P):Prop where ev:PE X e (xf X.K (HH.ev c p))var:∀i,isVar p=some i->PE X e (QT i)
def SA(X:Cx)(c:Call)(es:List Expr)(ps:List P):Prop:=PA X es (ace X.K (evs c ps))/\ps.length=es.length
theorem SX.bN(h:SX X c e p):∃t,PE X e t/\∀{σ:L2.St}{H F:Hp}{ρ ρ':List Sl}{d:D}{Q:VK},GS X.K F ρ σ H->bN (isVar p) (HH.ev c p) ρ=.ok d ρ'->(∀v F' H',aq X.K F ρ σ H F' ρ' σ H'->cO X.K F' H' v d->Q v H')->t σ H Q:=by cases hv:isVar p with|none=>refine⟨_,h.ev,fun{σ H F ρ ρ' d Q}g e k=>?_⟩;obtain⟨r,ρ1,e1,e2⟩:=aa e;cases e2;refine⟨F,ρ,r,_,g,e1,fun v F' H' s rr=>?_⟩;obtain⟨F'',s',_,rp⟩:=s.cC rr;exact k v F'' H' s' (.inl rp)|some i=>refine⟨_,h.var i hv,fun{σ H F ρ ρ' d Q}g e k=>?_⟩;obtain⟨e1,e2⟩:=aA e;subst e2;obtain⟨v,h1,h2⟩:=g.pk e1;exact⟨v,h1,k v F H (.refl g) h2⟩
theorem SX.iU(ha:SX X c a pa)(hb:SX X c b pb):∃ta tb,PE X a ta/\PE X b tb/\∀{σ:L2.St}{H F:Hp}{ρ ρ':List Sl}{xy:D×D}{R:V->V->Hp->Prop},GS X.K F ρ σ H->iU (isVar pa) (HH.ev c pa) (isVar pb) (HH.ev c pb) ρ=.ok xy ρ'->(∀v u F' H',aq X.K F ρ σ H F' ρ' σ H'->cO X.K F' H' v xy.1->cO X.K F' H' u xy.2->R v u H')->ta σ H fun x H1=>tb σ H1 fun y H2=>R x y H2:=by obtain⟨tb,hb1,hb2⟩:=hb.bN;cases hv:isVar pa with|none=>refine⟨_,tb,ha.ev,hb1,fun{σ H F ρ ρ' xy R}g e k=>?_⟩;obtain⟨x,ρ1,e1,e⟩:=aa e;obtain⟨y,ρ2,e2,e⟩:=aa e;cases e;obtain⟨r,ρ1',e1,e0⟩:=aa e1;cases e0;refine⟨F,ρ,r,_,g,e1,fun v F' H' s rr=>?_⟩;obtain⟨F1,s1,_,rp⟩:=s.cC rr;refine hb2 s1.gs e2 fun u F2 H2 s2 pu=>?_;exact k v u F2 H2 (s1.trans s2) (.inl (rp.mono s2.bZ)) pu|some i=>refine⟨_,tb,ha.var i hv,hb1,fun{σ H F ρ ρ' xy R}g e k=>?_⟩;obtain⟨x0,ρ0,e0,e⟩:=aa e;obtain⟨e00,CV⟩:=aA e0;subst CV;obtain⟨y,ρ1,e1,e⟩:=aa e;obtain⟨x,ρ2,e2,e⟩:=aa e;cases e;have zz:=aA e2;clear e2;obtain⟨e2,e3⟩:=zz;subst e3;obtain⟨v,h1,_⟩:=g.pk e00;refine⟨v,h1,hb2 g e1 fun u F1 H1 s1 pu=>?_⟩;obtain⟨v',h1',pv⟩:=s1.gs.pk e2;rw[h1]at h1';cases h1';exact k v u F1 H1 s1 pv pu
inductive rD(K:PySem.W.Frag)(f:D->D->Option R)(x y:V)(H:Hp)(Q:VK):Prop where|mk(F:Hp)(d e:D)(r:R)(sm:aG F H)(px:cO K F H x d)(py:cO K F H y e)(he:f d e=some r)(k:∀v F' H',Ext F H F' H'->bK K F' H' H v r->Q v H')
inductive rD1(K:PySem.W.Frag)(f:D->Option R)(x:V)(H:Hp)(Q:VK):Prop where|mk(F:Hp)(d:D)(r:R)(sm:aG F H)(px:cO K F H x d)(he:f d=some r)(k:∀v F' H',Ext F H F' H'->bK K F' H' H v r->Q v H')
theorem tV{E:Expr}{f:D->D->Option R}{q:P}(hp:∀{ta tb},PE X a ta->PE X b tb->PE X E (Qz (rD X.K f) ta tb))(ha:SX X c a pa)(hb:SX X c b pb)(hq:∀ρ,HH.ev c q ρ=(HH.iU (isVar pa) (HH.ev c pa) (isVar pb) (HH.ev c pb) ρ).bind fun xy ρ=>lift (f xy.1 xy.2) ρ)(hv:isVar q=none):SX X c E q:=by obtain⟨ta,tb,h1,h2,h3⟩:=ha.iU hb;refine⟨cT (hp h1 h2) ?_,fun i h=>by rw[hv]at h;cases h⟩;rintro σ H Q⟨F,ρ,r,ρ',g,e,k⟩;rw[hq]at e;obtain⟨xy,ρ1,e1,e2⟩:=aa e;have zz:=aA e2;clear e2;obtain⟨e2,e3⟩:=zz;subst e3;refine h3 g e1 fun v u F' H' s pv pu=>⟨F',xy.1,xy.2,r,s.gs.sub,pv,pu,e2,fun w F2 H2 x rn=>?_⟩;exact k w F2 H2 (s.trans (x.stp s.gs)) (.later s (rn.m5 s.gs))
theorem QD{E:Expr}{f:D->Option R}{q:P}(hp:∀{ta},PE X a ta->PE X E (tUn (rD1 X.K f) ta))(ha:SX X c a pa)(hq:∀ρ,HH.ev c q ρ=(HH.bN (isVar pa) (HH.ev c pa) ρ).bind fun x ρ=>lift (f x) ρ)(hv:isVar q=none):SX X c E q:=by obtain⟨ta,h1,h3⟩:=ha.bN;refine⟨cT (hp h1) ?_,fun i h=>by rw[hv]at h;cases h⟩;rintro σ H Q⟨F,ρ,r,ρ',g,e,k⟩;rw[hq]at e;obtain⟨x,ρ1,e1,e2⟩:=aa e;have zz:=aA e2;clear e2;obtain⟨e2,e3⟩:=zz;subst e3;refine h3 g e1 fun v F' H' s pv=>⟨F',x,r,s.gs.sub,pv,e2,fun w F2 H2 x rn=>?_⟩;exact k w F2 H2 (s.trans (x.stp s.gs)) (.later s (rn.m5 s.gs))
theorem GS.freeze{K:PySem.W.Frag}{F H:Hp}{ρ:List Sl}{σ:L2.St}{i:Nat}{b:Bool}{ds:List D}(g:GS K F ρ σ H)(e:ρ[i]?=some (.own b ds)):∃v F',σ[i]?=some (some v)/\aq K F ρ σ H F' (ρ.set i (.val b (.lst ds))) σ H/\Rep K F' v (.lst ds):=by
 obtain⟨a,xs,h1,h2,h3,h4⟩:=g.pM i _ ds e rfl;have hi:i<ρ.length:=(List.getElem?_eq_some_iff.mp e).1;have sm:aG F (upd F a (.lst xs)):=aG.bB h3;have rp:Rep K (upd F a (.lst xs)) (.ref a) (.lst ds):=by rw[Rep];exact⟨a,xs,rfl,dz.of aH,h4.mono sm⟩
 have oa:Own ρ σ a:=⟨i,⟨_,_,e,rfl⟩,h1⟩;have old:∀j x,aK (ρ.set i (.val b (.lst ds))) σ j x->aK ρ σ j x/\j≠i:=fun j x⟨⟨s,ds',q1,q2⟩,q3⟩=>by
  by_cases hj:j=i;.subst hj;rw[getElem?_set_self hi]at q1;cases q1;cases q2
  .rw[getElem?_set_ne (Ne.symm hj)]at q1;exact⟨⟨⟨s,ds',q1,q2⟩,q3⟩,hj⟩
 refine⟨.ref a,upd F a (.lst xs),h1,⟨⟨fun x o q=>?_,by simpa using g.len,fun j b' d q=>?_,fun j s ds' q q'=>?_,fun j k x q q'=>g.dis j k x (old j x q).1 (old k x q').1⟩,sm,fun x n n'=>?_,fun _ _ q _=>q,fun x⟨j,q⟩=>.inl ⟨j,(old j x q).1⟩,by simp,fun j s q l=>⟨rfl,?_⟩⟩,rp⟩
 . by_cases hx:x=a;.subst hx;rw[aH]at q;cases q;exact h2
   .rw[ao hx]at q;exact g.sub x o q
 . by_cases hj:j=i;.subst hj;rw[getElem?_set_self hi]at q;cases q;exact⟨_,h1,rp⟩
   .rw[getElem?_set_ne (Ne.symm hj)]at q;obtain⟨v,q1,q2⟩:=g.val j b' d q;exact⟨v,q1,q2.mono sm⟩
 . by_cases hj:j=i;.subst hj;rw[getElem?_set_self hi]at q;cases q;cases q'
   . rw[getElem?_set_ne (Ne.symm hj)]at q;obtain⟨x,ys,q1,q2,q3,q4⟩:=g.own j s ds' q q';have hx:x≠a:=by rintro rfl;exact hj (g.dis j i x ⟨⟨s,ds',q,q'⟩,q1⟩ ⟨⟨_,_,e,rfl⟩,h1⟩)
     exact⟨x,ys,q1,q2,by rw[ao hx];exact q3,q4.mono sm⟩
 . by_cases hx:x=a;.subst hx;exact .inl oa
   .rw[ao hx]at n';exact absurd n n'
 . by_cases hj:j=i;.subst hj;rw[e]at q;cases q;refine⟨_,getElem?_set_self hi,?_⟩;cases b with|true=>exact .inr ⟨_,rfl⟩|false=>cases l
   .exact⟨s,by rw[getElem?_set_ne (Ne.symm hj)];exact q,.refl s⟩
theorem GS.Af{K:PySem.W.Frag}{F H:Hp}{ρ:List Sl}{σ:L2.St}{i:Nat}{m:Dc}(g:GS K F ρ σ H)(e:ρ[i]?=some (.eY m)):∃a,σ[i]?=some (some (.ref a))/\H a=some m.ho/\∀ob,aq K F ρ σ H (upd F a (.cC ob m.ho)) (ρ.set i (.val false (.cN m))) σ (upd H a (.cC ob m.ho))/\Rep K (upd F a (.cC ob m.ho)) (.ref a) (.cN m):=by
 obtain⟨a,o0,h1,h2,h3,h4⟩:=g.own i _ _ e rfl;cases(show o0=m.ho from h4);have hi:i<ρ.length:=(List.getElem?_eq_some_iff.mp e).1;refine⟨a,h1,h2,fun ob=>?_⟩;have sm:aG F (upd F a (.cC ob m.ho)):=aG.bB h3;have rp:Rep K (upd F a (.cC ob m.ho)) (.ref a) (.cN m):=by rw[Rep];exact⟨a,ob,rfl,aH⟩
 have oa:Own ρ σ a:=⟨i,⟨_,_,e,rfl⟩,h1⟩;have old:∀j x,aK (ρ.set i (.val false (.cN m))) σ j x->aK ρ σ j x/\j≠i:=fun j x⟨⟨s,ds',q1,q2⟩,q3⟩=>by
  by_cases hj:j=i;.subst hj;rw[getElem?_set_self hi]at q1;cases q1;cases q2
  .rw[getElem?_set_ne (Ne.symm hj)]at q1;exact⟨⟨⟨s,ds',q1,q2⟩,q3⟩,hj⟩
 refine⟨⟨⟨fun x o q=>?_,by simpa using g.len,fun j b' d q=>?_,fun j s ds' q q'=>?_,fun j k x q q'=>g.dis j k x (old j x q).1 (old k x q').1⟩,sm,fun x n n'=>?_,fun x o q n=>?_,fun x⟨j,q⟩=>.inl ⟨j,(old j x q).1⟩,by simp,fun j s q l=>⟨rfl,?_⟩⟩,rp⟩
 . by_cases hx:x=a;.subst hx;rw[aH]at q ⊢;exact q
   .rw[ao hx]at q ⊢;exact g.sub x o q
 . by_cases hj:j=i;.subst hj;rw[getElem?_set_self hi]at q;cases q;exact⟨_,h1,rp⟩
   .rw[getElem?_set_ne (Ne.symm hj)]at q;obtain⟨v,q1,q2⟩:=g.val j b' d q;exact⟨v,q1,q2.mono sm⟩
 . by_cases hj:j=i;.subst hj;rw[getElem?_set_self hi]at q;cases q;cases q'
   . rw[getElem?_set_ne (Ne.symm hj)]at q;obtain⟨x,ys,q1,q2,q3,q4⟩:=g.own j s ds' q q';have hx:x≠a:=by rintro rfl;exact hj (g.dis j i x ⟨⟨s,ds',q,q'⟩,q1⟩ ⟨⟨_,_,e,rfl⟩,h1⟩)
     exact⟨x,ys,q1,by rw[ao hx];exact q2,by rw[ao hx];exact q3,q4.mono sm⟩
 . by_cases hx:x=a;.subst hx;exact .inl oa
   .rw[ao hx]at n';exact absurd n n'
 . have hx:x≠a:=by rintro rfl;exact n oa
   rw[ao hx];exact q
 . by_cases hj:j=i;.subst hj;rw[e]at q;cases q;cases l
   .exact⟨s,by rw[getElem?_set_ne (Ne.symm hj)];exact q,.refl s⟩
theorem GS.yW{K:PySem.W.Frag}{F H:Hp}{ρ:List Sl}{σ:L2.St}{i:Nat}{kvs:List (Int×D)}(g:GS K F ρ σ H)(e:ρ[i]?=some (.bW kvs)):∃a vs,σ[i]?=some (some (.ref a))/\H a=some (Aq (kvs.map (·.1)) vs)/\∀ob,aq K F ρ σ H (upd F a (.cC ob (Aq (kvs.map (·.1)) vs))) (ρ.set i (.val false (.dv (kvs.map (·.1)) (kvs.map (·.2))))) σ (upd H a (.cC ob (Aq (kvs.map (·.1)) vs)))/\Rep K (upd F a (.cC ob (Aq (kvs.map (·.1)) vs))) (.ref a) (.dv (kvs.map (·.1)) (kvs.map (·.2))):=by
 obtain⟨a,o0,h1,h2,h3,h4⟩:=g.own i _ _ e rfl;obtain⟨vs,rfl,h5⟩:=h4;have hi:i<ρ.length:=(List.getElem?_eq_some_iff.mp e).1;refine⟨a,vs,h1,h2,fun ob=>?_⟩;have sm:aG F (upd F a (.cC ob (Aq (kvs.map (·.1)) vs))):=aG.bB h3;have rp:Rep K (upd F a (.cC ob (Aq (kvs.map (·.1)) vs))) (.ref a) (.dv (kvs.map (·.1)) (kvs.map (·.2))):=by rw[Rep];exact⟨a,ob,vs,rfl,aH,h5.mono sm,by simp⟩
 have oa:Own ρ σ a:=⟨i,⟨_,_,e,rfl⟩,h1⟩;have old:∀j x,aK (ρ.set i (.val false (.dv (kvs.map (·.1)) (kvs.map (·.2))))) σ j x->aK ρ σ j x/\j≠i:=fun j x⟨⟨s,ds',q1,q2⟩,q3⟩=>by
  by_cases hj:j=i;.subst hj;rw[getElem?_set_self hi]at q1;cases q1;cases q2
  .rw[getElem?_set_ne (Ne.symm hj)]at q1;exact⟨⟨⟨s,ds',q1,q2⟩,q3⟩,hj⟩
 refine⟨⟨⟨fun x o q=>?_,by simpa using g.len,fun j b' d q=>?_,fun j s ds' q q'=>?_,fun j k x q q'=>g.dis j k x (old j x q).1 (old k x q').1⟩,sm,fun x n n'=>?_,fun x o q n=>?_,fun x⟨j,q⟩=>.inl ⟨j,(old j x q).1⟩,by simp,fun j s q l=>⟨rfl,?_⟩⟩,rp⟩
 . by_cases hx:x=a;.subst hx;rw[aH]at q ⊢;exact q
   .rw[ao hx]at q ⊢;exact g.sub x o q
 . by_cases hj:j=i;.subst hj;rw[getElem?_set_self hi]at q;cases q;exact⟨_,h1,rp⟩
   .rw[getElem?_set_ne (Ne.symm hj)]at q;obtain⟨v,q1,q2⟩:=g.val j b' d q;exact⟨v,q1,q2.mono sm⟩
 . by_cases hj:j=i;.subst hj;rw[getElem?_set_self hi]at q;cases q;cases q'
   . rw[getElem?_set_ne (Ne.symm hj)]at q;obtain⟨x,ys,q1,q2,q3,q4⟩:=g.own j s ds' q q';have hx:x≠a:=by rintro rfl;exact hj (g.dis j i x ⟨⟨s,ds',q,q'⟩,q1⟩ ⟨⟨_,_,e,rfl⟩,h1⟩)
     exact⟨x,ys,q1,by rw[ao hx];exact q2,by rw[ao hx];exact q3,q4.mono sm⟩
 . by_cases hx:x=a;.subst hx;exact .inl oa
   .rw[ao hx]at n';exact absurd n n'
 . have hx:x≠a:=by rintro rfl;exact n oa
   rw[ao hx];exact q
 . by_cases hj:j=i;.subst hj;rw[e]at q;cases q;cases l
   .exact⟨s,by rw[getElem?_set_ne (Ne.symm hj)];exact q,.refl s⟩
theorem Inv.Gk{X:Cx}{pins:List (Addr×Obj)}{σ:L2.St}{H:Hp}{s:Shared}{a:Addr}{kvs:List (Key×V)}(I:L2.Inv X pins σ H s)(h:H a=some (.dK kvs)):∃o,L2.Inv X pins σ (upd H a (.cC o (.dK kvs))) s:=by obtain⟨hz,hS,vs,r,dd⟩:=(show bh X.prog X.w H s.heap a (.dK kvs)from I.hok a _ h);obtain⟨o,ho,_⟩:=dd.typeIs;exact⟨o,I.write (h':=s.heap) (t':=s.toks) (by rw[h];exact trivial) (.inl rfl) (fun b u _ e=>e) ⟨o,ho⟩ ⟨ho,hz,hS,vs,r,dd⟩⟩
theorem QB{i:Nat}{x:Str}(hN:X.N[i]?=some x)(hv:uY X.env.scope x)(hd:(x==("__debug__":Str))=false:=by decide)(hcd:(x==("__classdict__":Str))=false:=by decide):SX X c (.Name x pos) (.var i):=by
 have h:=cW (X:=X) (pos:=pos) hN hv hd hcd;refine⟨?_,fun j hj=>by cases hj;exact h⟩;rintro pins s σ H Q I⟨F,ρ,r,ρ',g,e,k⟩;rw[HH.E1]at e;split at e;.rename_i b d q;cases e;obtain⟨v,h1,h2⟩:=g.val i b d q;exact h pins s σ H Q I ⟨v,h1,k v F H (.refl g) h2⟩
 .rename_i b ds q;cases e;obtain⟨v,F',h1,h2,h3⟩:=g.freeze q;exact h pins s σ H Q I ⟨v,h1,k v F' H h2 h3⟩
 .rename_i kvs q;cases e;obtain⟨a,h1,h2,h3⟩:=g.Af q;refine bC (h pins s σ H (fun v H'=>v=.ref a/\H'=H) I ⟨.ref a,h1,rfl,rfl⟩) fun u s1⟨v,H1,I1,r1,e1,e2⟩=>?_;subst e1 e2;obtain⟨o,I2⟩:=Inv.Gk I1 h2;exact⟨.ref a,_,I2,r1,k _ _ _ (h3 o).1 (h3 o).2⟩
 .rename_i kvs q;cases e;obtain⟨a,vs,h1,h2,h3⟩:=g.yW q;refine bC (h pins s σ H (fun v H'=>v=.ref a/\H'=H) I ⟨.ref a,h1,rfl,rfl⟩) fun u s1⟨v,H1,I1,r1,e1,e2⟩=>?_;subst e1 e2;obtain⟨o,I2⟩:=Inv.Gk I1 h2;exact⟨.ref a,_,I2,r1,k _ _ _ (h3 o).1 (h3 o).2⟩
 .cases e
theorem xJ{d:D}{v:V}(h:PE X e (tC v))(hr:∀F,Rep X.K F v d):SX X c e (.con d):=⟨cT h fun σ H Q⟨F,ρ,r,ρ',g,e,k⟩=>by rw[HH.E2]at e;cases e;exact k v F H (.refl g) (hr F),fun i h=>by cases h⟩
theorem aj{i j}:SX X c (.Constant (.int i) j pos) (.con (.int i)):=xJ xX fun F=>by rw[Rep]
theorem rm{i j}:SX X c (.Constant (.bool i) j pos) (.con (.bl i)):=xJ VR fun F=>by rw[Rep]
theorem Hl{j}:SX X c (.Constant .none j pos) (.con .non):=xJ Rm fun F=>by rw[Rep]
theorem cO.int{K:PySem.W.Frag}{F H:Hp}{v:V}{i:Int}(h:cO K F H v (.int i)):v=.int i:=by
 rcases h with h|⟨_,_,_,_,_,_,h⟩;.rw[Rep]at h;exact h
 .cases h
theorem cO.bl{K:PySem.W.Frag}{F H:Hp}{v:V}{i:Bool}(h:cO K F H v (.bl i)):v=.bl i:=by
 rcases h with h|⟨_,_,_,_,_,_,h⟩;.rw[Rep]at h;exact h
 .cases h
theorem cO.str{K:PySem.W.Frag}{F H:Hp}{v:V}{i:Str}(h:cO K F H v (.str i)):v=.str i:=by
 rcases h with h|⟨_,_,_,_,_,_,h⟩;.rw[Rep]at h;exact h
 .cases h
theorem cO.non{K:PySem.W.Frag}{F H:Hp}{v:V}(h:cO K F H v .non):v=.non:=by
 rcases h with h|⟨_,_,_,_,_,_,h⟩;.rw[Rep]at h;exact h
 .cases h
theorem cO.tup{K:PySem.W.Frag}{F H:Hp}{v:V}{ds:List D}(s:aG F H)(h:cO K F H v (.tup ds)):∃a xs,v=.ref a/\jm K H a xs/\au K F xs ds/\Rep K F v (.tup ds):=by
 rcases h with h|⟨_,_,_,_,_,_,h⟩;.have h':=h;rw[Rep]at h;obtain⟨a,xs,rfl,h1,h2⟩:=h;exact⟨a,xs,rfl,aG.gq s h1,h2,h'⟩
 .cases h
theorem cO.lst{K:PySem.W.Frag}{F H:Hp}{v:V}{ds:List D}(s:aG F H)(h:cO K F H v (.lst ds)):∃a xs,v=.ref a/\dz K H a xs/\au K F xs ds:=by
 rcases h with h|⟨a,xs,es,h1,h2,h3,h⟩;.rw[Rep]at h;obtain⟨a,xs,rfl,h1,h2⟩:=h;exact⟨a,xs,rfl,s.seq h1,h2⟩
 .cases h;exact⟨a,xs,h1,dz.of h2,h3⟩
theorem cO.cN{K:PySem.W.Frag}{F H:Hp}{v:V}{m:Dc}(s:aG F H)(h:cO K F H v (.cN m)):∃a o,v=.ref a/\H a=some (.cC o m.ho):=by
 rcases h with h|⟨_,_,_,_,_,_,h⟩;.rw[Rep]at h;obtain⟨a,o,rfl,h⟩:=h;exact⟨a,o,rfl,s _ _ h⟩
 .cases h
theorem GZ{X:Cx}{pins:List (Addr×Obj)}{σ:L2.St}{H:Hp}{s:Shared}{a:Addr}{ob:Obj}{m:Dc}(I:L2.Inv X pins σ H s)(h:H a=some (.cC ob m.ho)):∃o,s.heap.get? a=some o/\o.cls=.type "dict":=by have z:=(show bh X.prog X.w H s.heap a (.cC ob m.ho)from I.hok a _ h).2;cases m with|k kvs=>obtain⟨_,_,vs,_,d2⟩:=(show bh X.prog X.w H s.heap a (.dK _)from z);exact d2.typeIs|t kvs=>obtain⟨_,_,xs,_,o,es,ep,h1,h2,_⟩:=(show bh X.prog X.w H s.heap a (.dT _)from z);exact⟨o,h1,h2.1⟩
theorem cO.dv{K:PySem.W.Frag}{F H:Hp}{v:V}{ks:List Int}{ds:List D}(s:aG F H)(h:cO K F H v (.dv ks ds)):∃a o vs,v=.ref a/\H a=some (.cC o (Aq ks vs))/\au K F vs ds/\ks.length=ds.length:=by
 rcases h with h|⟨_,_,_,_,_,_,h⟩;.rw[Rep]at h;obtain⟨a,o,vs,rfl,h,h1,h2⟩:=h;exact⟨a,o,vs,rfl,s _ _ h,h1,h2⟩
 .cases h
theorem Gj{X:Cx}{pins:List (Addr×Obj)}{σ:L2.St}{H:Hp}{s:Shared}{a:Addr}{ob:Obj}{ks:List Int}{vs:List V}(I:L2.Inv X pins σ H s)(h:H a=some (.cC ob (Aq ks vs))):∃o,s.heap.get? a=some o/\o.cls=.type "dict":=by have z:=(show bh X.prog X.w H s.heap a (.cC ob (Aq ks vs))from I.hok a _ h).2;obtain⟨_,_,vs,_,d2⟩:=(show bh X.prog X.w H s.heap a (.dK _)from z);exact d2.typeIs
theorem cO.items{K:PySem.W.Frag}{F H:Hp}{v:V}{d:D}{ds:List D}(s:aG F H)(h:cO K F H v d)(e:items d=some ds):∃a xs,v=.ref a/\(dz K H a xs\/jm K H a xs)/\au K F xs ds:=by cases d with|tup es=>cases e;obtain⟨a,xs,h1,h2,h3,_⟩:=h.tup s;exact⟨a,xs,h1,.inr h2,h3⟩|lst es=>cases e;obtain⟨a,xs,h1,h2,h3⟩:=h.lst s;exact⟨a,xs,h1,.inl h2,h3⟩|_=>cases e
theorem bK.cY{K:PySem.W.Frag}{F H:Hp}{Q:VK}{v:V}{d:D}(s:aG F H)(r:Rep K F v d)(k:∀v F' H',Ext F H F' H'->bK K F' H' H v (.val d)->Q v H'):Q v H:=k v F H (.refl s) r
theorem bH{K:PySem.W.Frag}{F:Hp}(i:Int):Rep K F (.int i) (.int i):=by rw[Rep]
theorem ir{K:PySem.W.Frag}{F:Hp}(i:Bool):Rep K F (.bl i) (.bl i):=by rw[Rep]
theorem PK{K:PySem.W.Frag}{F:Hp}(i:Str):Rep K F (.str i) (.str i):=by rw[Rep]
theorem Oi{K:PySem.W.Frag}{F:Hp}:Rep K F .non .non:=by rw[Rep]
theorem uL{K:PySem.W.Frag}{F H:Hp}{Q:VK}{xs:List V}{ds:List D}{p:Addr}(s:aG F H)(r:au K F xs ds)(hp:H p=none)(k:∀v F' H',Ext F H F' H'->bK K F' H' H v (.own ds)->Q v H'):Q (.ref p) (upd H p (.lst xs)):=by
 have fp:F p=none:=by cases q:F p with|none=>rfl|some o=>rw[s p o q]at hp;cases hp
 exact k _ F _ ⟨aG.bB hp,.refl _,s.trans (aG.bB hp),fun _ a b=>absurd a b⟩ ⟨p,xs,rfl,aH,fp,r,hp⟩
theorem BV{K:PySem.W.Frag}{F H:Hp}{Q:VK}{xs:List V}{ds:List D}{p:Addr}(s:aG F H)(r:au K F xs ds)(hp:H p=none)(k:∀v F' H',Ext F H F' H'->bK K F' H' H v (.val (.tup ds))->Q v H'):Q (.ref p) (upd H p (.tup xs)):=by
 have fp:F p=none:=by cases q:F p with|none=>rfl|some o=>rw[s p o q]at hp;cases hp
 have sm:aG F (upd F p (.tup xs)):=aG.bB fp;refine k _ (upd F p (.tup xs)) _ ⟨aG.bB hp,sm,fun b o e=>?_,fun b n n'=>?_⟩ ?_
 . by_cases hb:b=p;.subst hb;rw[aH]at e ⊢;exact e
   .rw[ao hb]at e ⊢;exact s b o e
 . by_cases hb:b=p;.subst hb;exact iZ hp
   .rw[ao hb]at n';exact absurd n n'
 .show Rep K _ _ (.tup ds);rw[Rep];exact⟨p,xs,rfl,jm.of aH,r.mono sm⟩
end
theorem qg(k:Int)(t:Tok)(l:Addr)(its:Array Value)(n:Nat)(dd:Option Addr)(sl:Array (Option Value)):Meets (Builtin.«int.__rmul__» ⟨[.int k t,.ref l],[]⟩) (fun _ R s=>s.heap.get? l=some ⟨.type "list",dd,.seq its n,sl⟩/\R (.ok (.ret Value.notImplemented)) s):=.of_wp fun prog w A R s h=>by obtain⟨hp,g,d,tk,os⟩:=s;obtain⟨hl,h⟩:=h;wp_walk;exact⟨_,rfl,h⟩
theorem BK(l:Addr)(its:Array Value)(n:Nat)(dd:Option Addr)(sl:Array (Option Value))(k:Int)(t:Tok)(h0:¬(!Builtin.List.listFitsIndex k)=true)(h1:¬its.size*k.toNat>(2^63-1)/8)(h2:¬listTooLong (its.size*k.toNat)=true):Meets (Builtin.«list.__mul__» ⟨[.ref l,.int k t],[]⟩) (fun _ R s=>s.heap.get? l=some ⟨.type "list",dd,.seq its n,sl⟩/\R (.ok (.ret (Value.ref s.heap.objs.size))) {s with heap:=s.heap.push {cls:=.type "list",data:=.seq (foldl (·++·) #[] (replicate (if its.isEmpty=true then 0 else k.toNat) its))}}):=.of_wp fun prog w A R s h=>by obtain⟨hp,g,d,tk,os⟩:=s;obtain⟨hl,h⟩:=h;have hz:=AutoListH.joined_fits h2;wp_walk using wpAny_loadPart' hl;refine wpAny_ite_false (decide_eq_false (not_lt.mpr hz)) ?_;wp_walk;exact⟨_,rfl,h⟩
section
variable{X:Cx}{c:Call}{e a b d:Expr}{p pa pb pd:P}{pos:Pos}
theorem J9:fV X (binaryOp .Add) (fun x y H Q=>∃l b xs zs,x=.ref l/\y=.ref b/\dz X.K H l xs/\dz X.K H b zs/\xs.length+zs.length<=sizeLine/\∀p,H p=none->Q (.ref p) (upd H p (.lst (xs++zs)))):=by
 intro pins s σ H x y v u Q I rx ry h;obtain⟨l,b,xs,zs,rfl,rfl,hl,hb,hz,q⟩:=h;cases rx;cases ry;obtain⟨its,r,pl,_⟩:=I.list hl;obtain⟨its2,r2,pl2,_⟩:=I.list hb;obtain⟨⟨cls,dd,data,sl⟩,ho,hc,n,hd⟩:=id pl.isList;obtain⟨⟨cls2,dd2,data2,sl2⟩,ho2,hc2,n2,hd2⟩:=id pl2.isList;simp only at hc hd hc2 hd2;subst hc hd hc2 hd2;have e:its.toArray++its2.toArray=(its++its2).toArray:=by simp
 refine concat_meets ⟨_,ho,rfl⟩ ⟨_,ho2,rfl⟩ noFill_list_add seq_list_add PySem.F.slot_list_add PySem.F.entry_list_add (PySem.F.args_list_add_2 _ _) (list_addW l b its.toArray its2.toArray n n2 dd dd2 sl sl2 (by simp only[size_toArray];rw[<-r.length,<-r2.length];exact hz)) ⟨ho,ho2,?_⟩;rw[e];exact⟨.ref _,_,I.QW (t':=s.toks) (r.append r2) (by rw[length_append];exact hz),rfl,q _ I.fresh⟩
theorem Gp:fV X (binaryOp .Add) (fun x y H Q=>∃a b ys,x=.ref a/\y=.ref b/\jm X.K H a []/\jm X.K H b ys/\Q (.ref b) H):=by intro pins s σ H x y v u Q I rx ry h;obtain⟨a,b,ys,rfl,rfl,ha,hb,q⟩:=h;cases rx;cases ry;obtain⟨its,r1,p1,_⟩:=I.tuple ha;obtain⟨its2,r2,p2,_⟩:=I.tuple hb;obtain⟨⟨cls,dd,data,sl⟩,ho,hc,n,hd⟩:=id p1;obtain⟨⟨cls2,dd2,data2,sl2⟩,ho2,hc2,n2,hd2⟩:=id p2;simp only at hc hd hc2 hd2;subst hc hd hc2 hd2;have e0:its=[]:=r1.nM.mpr rfl;subst e0;exact concat_meets ⟨_,ho,rfl⟩ ⟨_,ho2,rfl⟩ noFill_tuple_add seq_tuple_add slot_tuple_add entry_tuple_add (args_tuple_add_2 _ _) (tuple_addW0 a b _ its2.toArray n n2 dd dd2 sl sl2 (by simp)) ⟨ho,ho2,⟨.ref b,H,I,rfl,q⟩⟩
theorem bj:fV X (binaryOp .Add) (rD X.K (qm .add)):=by
 rintro pins s σ H x y v u Q I rx ry⟨F,d,e,r,sm,px,py,he,k⟩;replace he:pH d e=some r:=he;unfold pH at he;split at he;.cases he;rw[px.int]at rx;rw[py.int]at ry;exact RN pins s σ H _ _ v u Q I rx ry ⟨_,_,rfl,rfl,bK.cY sm (bH _) k⟩
 .rename_i xs ys;obtain⟨hl,he⟩:=aW he;subst he;obtain⟨a,vs,rfl,ha,ra⟩:=px.lst sm;obtain⟨b,us,rfl,hb,rb⟩:=py.lst sm;exact J9 pins s σ H _ _ v u Q I rx ry ⟨a,b,vs,us,rfl,rfl,ha,hb,by rw[ra.length,rb.length];exact hl,fun p hp=>uL sm (ra.append rb) hp k⟩
 . rename_i xs ys;obtain⟨hl,he⟩:=aW he;subst he;obtain⟨a,vs,rfl,ha,ra,ta⟩:=px.tup sm;obtain⟨b,us,rfl,hb,rb,tb⟩:=py.tup sm;by_cases h0:vs=[]
   . subst h0;have e0:xs=[]:=by have:=ra.length;exact List.eq_nil_of_length_eq_zero this.symm
     subst e0;exact Gp pins s σ H _ _ v u Q I rx ry ⟨a,b,us,rfl,rfl,ha,hb,bK.cY sm tb k⟩
   . refine Ke pins s σ H _ _ v u Q I rx ry ⟨a,b,vs,us,rfl,rfl,ha,hb,h0,by rw[ra.length,rb.length];exact hl,fun e=>?_,fun _ p hp=>BV sm (ra.append rb) hp k⟩;subst e;have e0:ys=[]:=by have:=rb.length;exact List.eq_nil_of_length_eq_zero this.symm
     subst e0;rw[append_nil]at k;exact bK.cY sm ta k
 .rename_i x1 y1;obtain⟨hl,he⟩:=aW he;subst he;rw[px.str]at rx;rw[py.str]at ry;exact xu pins s σ H _ _ v u Q I rx ry ⟨_,_,rfl,rfl,hl,bK.cY sm (PK _) k⟩
 .cases he
theorem dG:fV X (binaryOp .Sub) (rD X.K (qm .sub)):=by
 rintro pins s σ H x y v u Q I rx ry⟨F,d,e,r,sm,px,py,he,k⟩;replace he:wN d e=some r:=he;unfold wN at he;split at he;.cases he;rw[px.int]at rx;rw[py.int]at ry;exact O7 pins s σ H _ _ v u Q I rx ry ⟨_,_,rfl,rfl,bK.cY sm (bH _) k⟩
 .cases he
theorem Jw:fV X (binaryOp .Mult) (fun x y H Q=>∃l k xs,x=.ref l/\y=.int k/\dz X.K H l xs/\-(2^63)<=k/\k<2^63/\xs.length*k.toNat<=sizeLine/\∀p,H p=none->Q (.ref p) (upd H p (.lst (replicate k.toNat xs).flatten))):=by
 intro pins s σ H x y v u Q I rx ry h;obtain⟨l,k,xs,rfl,rfl,hl,h1,h2,hz,q⟩:=h;cases rx;obtain⟨t,rfl⟩:=ry;obtain⟨its,r,pl,_⟩:=I.list hl;obtain⟨⟨cls,dd,data,sl⟩,ho,hc,n,hd⟩:=id pl.isList;simp only at hc hd;subst hc hd;have hlen:its.toArray.size*k.toNat<=sizeLine:=by rw[size_toArray,<-r.length];exact hz
 have acw:¬ its.toArray.size*k.toNat>(2^63-1)/8:=by
  have:(sizeLine:Nat)<=(2^63-1)/8:=by decide
  omega
 have hnew:foldl (·++·) #[] (replicate (if its.toArray.isEmpty=true then 0 else k.toNat) its.toArray)=(replicate k.toNat its).flatten.toArray:=by
  have f0:∀m:Nat,foldl (·++·) #[] (replicate m its.toArray)=(replicate m its).flatten.toArray:=fun m=>by have:=foldl_rep its m [];rw[nil_append]at this;exact this
  rw[f0];cases its with|nil=>simp|cons a r'=>rw[if_neg (by simp)]
 refine wpAny_binaryOp_repeat_ref (T:="list") (U:="int") (by decide) ⟨_,ho,rfl⟩ (fun s'=>typeIs_int s' k t) noFill_list_mul F.fills_int_mul F.slot_int_rmul repeat_list F.slot_int_index.lookup ?_;refine call_meets F.slot_int_rmul (typeIs_int s k t) F.entry_int_rmul (F.args_int_rmul_2 _ _) (qg k t l its.toArray n dd sl) ⟨ho,rfl,⟨_,ho,rfl⟩,?_⟩;refine call_meets F.slot_list_mul ⟨_,ho,rfl⟩ F.entry_list_mul (F.args_list_mul_2 _ _) (BK l its.toArray n dd sl k t (by rw[fitsIndex_both h1 h2];exact Bool.false_ne_true) acw (by rw[vo hlen];exact Bool.false_ne_true)) ⟨ho,?_⟩;rw[hnew];exact⟨.ref _,_,I.QW (t':=s.toks) (r.rep k.toNat) (by rw[len_rep,Nat.mul_comm];exact hz),rfl,q _ I.fresh⟩
theorem lR:fillsNumberSlot (.type "tuple") "mul"=pure false:=PySem.fillsNumberSlot_seq (id:="tuple.__mul__") (r:=some (.builtin "tuple.__rmul__")) slot_tuple_mul.lookup (by decide+kernel) PySem.F.slot_tuple_rmul.lookup (by decide+kernel)
theorem tR:seqRepeat? (.type "tuple")=pure (some (.builtin "tuple.__mul__")):=by unfold seqRepeat?;rw[PySem.seqSlot_of (T:="tuple") (name:="__mul__") (id:="tuple.__mul__") slot_tuple_mul.lookup (by decide+kernel),PySem.seqSlot_of (T:="tuple") (name:="__rmul__") (id:="tuple.__rmul__") PySem.F.slot_tuple_rmul.lookup (by decide+kernel)];rfl
theorem pC(k:Int)(t:Tok)(l:Addr)(its:Array Value)(n:Nat)(dd:Option Addr)(sl:Array (Option Value)):Meets (Builtin.«int.__rmul__» ⟨[.int k t,.ref l],[]⟩) (fun _ R s=>s.heap.get? l=some ⟨.type "tuple",dd,.seq its n,sl⟩/\R (.ok (.ret Value.notImplemented)) s):=.of_wp fun prog w A R s h=>by obtain⟨hp,g,d,tk,os⟩:=s;obtain⟨hl,h⟩:=h;wp_walk;exact⟨_,rfl,h⟩
theorem xG(l:Addr)(its:Array Value)(n:Nat)(dd:Option Addr)(sl:Array (Option Value))(k:Int)(t:Tok)(h0:0<=k)(h1:k<2^63)(hz:its.size*k.toNat<=sizeLine)(hne:0<its.size):Meets (Builtin.«tuple.__mul__» ⟨[.ref l,.int k t],[]⟩) (fun _ R s=>s.heap.get? l=some ⟨.type "tuple",dd,.seq its n,sl⟩/\(k=1->R (.ok (.ret (Value.ref l))) s)/\(k≠1->R (.ok (.ret (Value.ref s.heap.objs.size))) {s with heap:=s.heap.push {cls:=.type "tuple",data:=.seq (foldl (·++·) #[] (replicate k.toNat its))}})):=.of_wp fun prog w A R s h=>by
  obtain⟨hp,g,d,tk,os⟩:=s;obtain⟨hl,q1,q2⟩:=h;have hem:its.isEmpty=false:=by cases e:its.isEmpty with|false=>rfl|true=>rw[Array.isEmpty_iff_size_eq_zero]at e;omega
  show wpAny _ _ (asIndex (.int k t)>>=_) _ _ _;wp_walk using wpAny_loadPart' hl;have hI:IsTup hp l its:=⟨_,hl,rfl,n,rfl⟩;rw[if_neg (by simp;omega)];refine wpAny_bind (PyProof.Rows.tupleItemsOf_ hI ?_);try dsimp only
  by_cases e1:k=1;.rw[if_pos (by simp[e1])];wp_walk using wpAny_loadPart' hl;exact⟨_,rfl,q1 e1⟩
  . have q:=q2 e1;rw[if_neg (by simp[hem,e1])];by_cases e0:k=0;.subst e0;rw[if_pos (by simp)];unfold tupleExact;refine wpAny_bind (wpAny_newObj_type ?_);exact wpAny_pure ⟨_,rfl,q⟩
    . have hb:(its.size:Int)*k<=sizeLine:=by
       have:((its.size*k.toNat:Nat):Int)<=(sizeLine:Nat):=by exact_mod_cast hz
       rw[Int.natCast_mul,show((k.toNat:Nat):Int)=k by omega]at this;exact this
      have hs2:(sizeLine:Int)<=(2^63-1)/8:=by decide
      rw[if_neg (by simp[hem];omega),if_neg (by omega),if_neg (by simp[Builtin.Tuple.tupleTooMany];omega)];unfold tupleExact;refine wpAny_bind (wpAny_newObj_type ?_ ?_);.exact wpAny_pure ⟨_,rfl,q⟩
      .have:=foldl_rep its.toList k.toNat [];rw[nil_append,show its.toList.toArray=its by simp]at this;show(foldl (·++·) #[] (replicate k.toNat its)).size<=sizeLine;rw[show(#[]:Array Value)=([]:List Value).toArray from rfl,this,size_toArray,len_rep,length_toList,Nat.mul_comm];exact hz
theorem J2:fV X (binaryOp .Mult) (fun x y H Q=>∃l k xs,x=.ref l/\y=.int k/\jm X.K H l xs/\0<xs.length/\0<=k/\k<2^63/\xs.length*k.toNat<=sizeLine/\(k=1->Q (.ref l) H)/\(k≠1->∀p,H p=none->Q (.ref p) (upd H p (.tup (replicate k.toNat xs).flatten)))):=by
 intro pins s σ H x y v u Q I rx ry h;obtain⟨l,k,xs,rfl,rfl,hl,hne,h1,h2,hz,qa,qb⟩:=h;cases rx;obtain⟨t,rfl⟩:=ry;obtain⟨its,r,pl,_⟩:=I.tuple hl;obtain⟨⟨cls,dd,data,sl⟩,ho,hc,n,hd⟩:=id pl;simp only at hc hd;subst hc hd;have hlen:its.toArray.size*k.toNat<=sizeLine:=by rw[size_toArray,<-r.length];exact hz
 have hnew:foldl (·++·) #[] (replicate k.toNat its.toArray)=(replicate k.toNat its).flatten.toArray:=by have:=foldl_rep its k.toNat [];rw[nil_append]at this;exact this
 refine wpAny_binaryOp_repeat_ref (T:="tuple") (U:="int") (by decide) ⟨_,ho,rfl⟩ (fun s'=>typeIs_int s' k t) lR F.fills_int_mul F.slot_int_rmul tR F.slot_int_index.lookup ?_;refine call_meets F.slot_int_rmul (typeIs_int s k t) F.entry_int_rmul (F.args_int_rmul_2 _ _) (pC k t l its.toArray n dd sl) ⟨ho,rfl,⟨_,ho,rfl⟩,?_⟩;refine call_meets slot_tuple_mul ⟨_,ho,rfl⟩ PySem.F.entry_tuple_mul (PySem.F.args_tuple_mul_2 _ _) (xG l its.toArray n dd sl k t h1 h2 hlen (by rw[size_toArray,<-r.length];exact hne)) ⟨ho,fun e=>⟨.ref l,H,I,rfl,qa e⟩,fun e=>?_⟩;rw[hnew];refine⟨.ref s.heap.objs.size,_,I.laid (t':=s.toks) (o:=.tup (replicate k.toNat xs).flatten) (fun b ob q=>get?_push_of_some _ q) (le_refl _) ?_,rfl,qb e _ (I.hok.fresh (le_refl _))⟩;exact⟨by rw[len_rep,Nat.mul_comm];exact hz,_,r.rep k.toNat,IsTup.new _ _⟩
theorem gF:fV X (binaryOp .Mult) (rD X.K (qm .mul)):=by
 rintro pins s σ H x y v u Q I rx ry⟨F,d,e,r,sm,px,py,he,k⟩;replace he:kh d e=some r:=he;unfold kh at he;split at he;.obtain⟨hc,he⟩:=aW he;subst he;rw[px.int]at rx;rw[py.int]at ry;exact NT pins s σ H _ _ v u Q I rx ry ⟨_,_,rfl,rfl,hc,bK.cY sm (bH _) k⟩
 . rename_i xs i;obtain⟨⟨h1,h2,h3⟩,he⟩:=aW he;subst he;obtain⟨a,vs,rfl,ha,ra⟩:=px.lst sm;rw[py.int]at ry;have hk:i<2^63:=by have h4:=Nat.le_mul_of_pos_left i.toNat h2;have h5:i.toNat<=16777216:=le_trans h4 h3;omega
   exact Jw pins s σ H _ _ v u Q I rx ry ⟨a,i,vs,rfl,rfl,ha,by omega,hk,by rw[ra.length];exact h3,fun p hp=>uL sm (ra.rep i.toNat) hp k⟩
 . rename_i xs i;obtain⟨⟨h1,h2,h3⟩,he⟩:=aW he;subst he;obtain⟨a,vs,rfl,ha,ra,rr⟩:=px.tup sm;rw[py.int]at ry;have hk:i<2^63:=by have h4:=Nat.le_mul_of_pos_left i.toNat h2;have h5:i.toNat<=16777216:=le_trans h4 h3;omega
   refine J2 pins s σ H _ _ v u Q I rx ry ⟨a,i,vs,rfl,rfl,ha,by rw[ra.length];exact h2,h1,hk,by rw[ra.length];exact h3,fun e=>?_,fun e p hp=>BV sm (ra.rep i.toNat) hp k⟩;subst e;refine bK.cY sm ?_ k;have e1:(replicate (1:Int).toNat xs).flatten=xs:=by simp
   rw[e1];exact rr
 .cases he
theorem vR:fV X (binaryOp .FloorDiv) (rD X.K (qm .fdiv)):=by
 rintro pins s σ H x y v u Q I rx ry⟨F,d,e,r,sm,px,py,he,k⟩;replace he:oX d e=some r:=he;unfold oX at he;split at he
 . rename_i i j;obtain⟨⟨h1,h2⟩,he⟩:=aW he;subst he;rw[px.int]at rx;rw[py.int]at ry;obtain⟨t,rfl⟩:=rx;obtain⟨t',rfl⟩:=ry;have hl:j.natAbs.log2<9000:=by
    have:j.natAbs<2^200:=by
     have:(2:Nat)^200=1606938044258990275541962092341162602522202993782792835301376:=by decide
     omega
    have h3:=(Nat.log2_lt (by omega)).mpr this;omega
   exact floordiv_int (by omega) (by rw[Int.fdiv_eq_ediv_of_nonneg i (by omega)];exact⟨.int _,H,I.tok _,⟨_,rfl⟩,bK.cY sm (bH _) k⟩) (.inl (PyProof.noPylong_of_log2 hl))
 .cases he
theorem dD:fV X (binaryOp .Mod) (rD X.K (qm .mod)):=by
 rintro pins s σ H x y v u Q I rx ry⟨F,d,e,r,sm,px,py,he,k⟩;replace he:vJ d e=some r:=he;unfold vJ at he;split at he;.obtain⟨h1,he⟩:=aW he;subst he;rw[px.int]at rx;rw[py.int]at ry;exact Ql pins s σ H _ _ v u Q I rx ry ⟨_,_,rfl,rfl,h1,bK.cY sm (bH _) k⟩
 .cases he
theorem zV:fV X (binaryOp .Pow) (rD X.K (qm .pow)):=by
 rintro pins s σ H x y v u Q I rx ry⟨F,d,e,r,sm,px,py,he,k⟩;replace he:vG d e=some r:=he;unfold vG at he;split at he;.obtain⟨⟨h1,h2,h3⟩,he⟩:=aW he;subst he;rw[px.int]at rx;rw[py.int]at ry;exact Np pins s σ H _ _ v u Q I rx ry ⟨_,_,rfl,rfl,⟨h1,by omega,h3⟩,bK.cY sm (bH _) k⟩
 .cases he
theorem aC{o:Op}{op:Operator}(ho:fV X (binaryOp op) (rD X.K (qm o)))(ha:SX X c a pa)(hb:SX X c b pb):SX X c (.BinOp a op b pos) (.bin o pa pb):=tV (fun h1 h2=>V2 ho h1 h2) ha hb (fun ρ=>rfl) rfl
theorem Eu(ha:SX X c a pa):SX X c (.UnaryOp .USub a pos) (.neg pa):=by refine QD (f:=Gz) (fun h1=>Xm ?_ h1) ha (fun ρ=>rfl) rfl;rintro pins s σ H x v Q I rx⟨F,d,r,sm,px,he,k⟩;unfold Gz at he;obtain⟨i,e1,e2⟩:=map_some he;subst e2;cases d<;>cases e1;rw[px.int]at rx;exact O2 pins s σ H _ v Q I rx ⟨_,rfl,bK.cY sm (bH _) k⟩
theorem Aj{op:CmpOp}{f:Int->Int->Bool}(ho:fV X (compareOp op) (KC fun i j=>.bl (f i j))):fV X (compareOp op) (rD X.K fun x y=>(HX f x y).map fun k=>.val (.bl k)):=by
 rintro pins s σ H x y v u Q I rx ry⟨F,d,e,r,sm,px,py,he,k⟩;obtain⟨t,e1,e2⟩:=map_some (show(HX f d e).map _=some r from he);subst e2;unfold HX at e1;split at e1;.cases e1;rw[px.int]at rx;rw[py.int]at ry;exact ho pins s σ H _ _ v u Q I rx ry ⟨_,_,rfl,rfl,bK.cY sm (ir _) k⟩
 .cases e1
theorem DX{op:CmpOp}{f:Int->Int->Bool}(ho:fV X (compareOp op) (KC fun i j=>.bl (f i j))){o:Cm}(hc:cm o=HX f):fV X (compareOp op) (rD X.K (xR o)):=by
 have e:xR o=fun x y=>(HX f x y).map fun k=>.val (.bl k):=by funext x y;unfold xR;rw[hc]
 rw[e];exact Aj ho
theorem N6:fV X (compareOp .Lt) (rD X.K fun x y=>(HX (fun i j=>decide (i<j)) x y).map fun k=>.val (.bl k)):=Aj Xh
theorem Rt:fV X (compareOp .LtE) (rD X.K (xR .le)):=DX Xb rfl
theorem mC:fV X (compareOp .Gt) (rD X.K (xR .gt)):=DX Vr rfl
theorem Bj{K:PySem.W.Frag}{F H:Hp}{v:V}{d:D}(h:cO K F H v d):decide (v=.non)=iz d:=by cases d with
 |non=>rw[h.non];rfl|bl _=>rw[h.bl];rfl|int _=>rw[h.int];rfl|str _=>rw[h.str];rfl|tup _=>
   rcases h with h|⟨a,_,_,rfl,_⟩;.rw[Rep]at h;obtain⟨a,_,rfl,_⟩:=h;rfl
   .rfl|lst _=>
   rcases h with h|⟨a,_,_,rfl,_⟩;.rw[Rep]at h;obtain⟨a,_,rfl,_⟩:=h;rfl
   .rfl|cN _=>
   rcases h with h|⟨a,_,_,rfl,_⟩;.rw[Rep]at h;obtain⟨a,_,rfl,_⟩:=h;rfl
   .rfl|dv _ _=>
   rcases h with h|⟨a,_,_,rfl,_⟩;.rw[Rep]at h;obtain⟨a,_,_,rfl,_⟩:=h;rfl
   .rfl
theorem JK:fV X (compareOp .IsNot) (rD X.K (xR .Ld)):=by
 rintro pins s σ H x y v u Q I rx ry⟨F,d,e,r,sm,px,py,he,k⟩;obtain⟨t,e1,e2⟩:=map_some (show(Yv true d e).map _=some r from he);subst e2;unfold Yv at e1;split at e1;.cases e1;exact JM pins s σ H x y v u Q I rx ry ⟨py.non,by rw[Bj px];exact bK.cY sm (ir _) k⟩
 .cases e1
theorem Nv{o:Cm}{op:CmpOp}(ho:fV X (compareOp op) (rD X.K (xR o)))(ha:SX X c a pa)(hb:SX X c b pb)(hm:behindInMarks op b=false):SX X c (.Compare a [op] [b] pos) (.cmp o pa pb):=tV (fun h1 h2=>Jf ho h1 h2 hm) ha hb (fun ρ=>rfl) rfl
end
section
variable{X:Cx}{c:Call}{e a b d:Expr}{p pa pb pd:P}{pos:Pos}{rest:List Expr}
theorem wO{x:D}{k:Bool}(h:MF x=some k):x=.bl k:=by cases x<;>cases h;rfl
theorem bR{x:D}{k:Int}(h:gA x=some k):x=.int k:=by cases x<;>cases h;rfl
theorem bM.bool{K:PySem.W.Frag}{F' H' H:Hp}{ρ' ρ:List Sl}{σ' σ:L2.St}{v:V}{r:R}{k:Bool}(h:bM K F' ρ' σ' H' ρ σ H v r)(e:r.d=.bl k):v=.bl k:=by cases r with|val d=>cases(show d=.bl k from e);have h:Rep K F' v (.bl k):=h;rw[Rep]at h;exact h|own ds=>cases e
def ST(X:Cx)(c:Call)(e:Expr)(p:P):Prop:=PT X e (HR X.K (gH (HH.ev c p)))
def SW(X:Cx)(c:Call)(e:Expr)(p:P):Prop:=PW X e (HR X.K (gH (HH.ev c p)))
theorem SW.st(h:SW X c e p):ST X c e p:=PW.pt h
theorem mj{t:TE}{Q:Bool->Hp->Prop}{σ:L2.St}{H:Hp}(hi:∀Q,xf X.K (HH.ev c p) σ H Q->t σ H Q)(h:HR X.K (gH (HH.ev c p)) σ H Q):t σ H fun x H1=>∃k,x=.bl k/\Q k H1:=by obtain⟨F,ρ,k,ρ',g,e,q⟩:=h;obtain⟨r,ρ1,e1,e2⟩:=aa e;have zz:=aA e2;clear e2;obtain⟨e2,e3⟩:=zz;subst e3;exact hi _ ⟨F,ρ,r,ρ1,g,e1,fun v F' H' s rr=>⟨k,rr.bool (wO e2),q F' H' s⟩⟩
theorem lX(h:SX X c e p)(he:∀whole,isTrue e X.env whole=(do let v<-whole;standAt e.pos;holding [v] (truthy v)):=by intro _;rfl):ST X c e p:=vf (Qx h.ev he) fun σ H Q q=>mj (fun _ z=>z) q
theorem fJ{o:Cm}{op:CmpOp}(ho:fV X (compareOp op) (rD X.K (xR o)))(ha:SX X c a pa)(hb:SX X c b pb)(hm:behindInMarks op b=false):ST X c (.Compare a [op] [b] pos) (.cmp o pa pb):=by obtain⟨ta,tb,h1,h2,h3⟩:=ha.iU hb;refine vf (yU ho h1 h2 hm) fun σ H Q q=>mj (t:=Qz (rD X.K (xR o)) ta tb) (fun Q z=>?_) q;obtain⟨F,ρ,r,ρ',g,e,k⟩:=z;rw[HH.E8]at e;obtain⟨xy,ρ1,e1,e2⟩:=aa e;have zz:=aA e2;clear e2;obtain⟨e2,e3⟩:=zz;subst e3;refine h3 g e1 fun v u F' H' s pv pu=>⟨F',xy.1,xy.2,r,s.gs.sub,pv,pu,e2,fun w F2 H2 x rn=>?_⟩;exact k w F2 H2 (s.trans (x.stp s.gs)) (.later s (rn.m5 s.gs))
theorem Fo(ha:ST X c a pa):ST X c (.UnaryOp .Not a pos) (.not pa):=by
 refine vf (N8 ha) ?_;rintro σ H Q⟨F,ρ,k,ρ',g,e,q⟩;unfold gH at e;rw[HH.E5]at e;obtain⟨r,ρ1,e1,e2⟩:=aa e;obtain⟨k',ρ2,e3,e4⟩:=aa e1;cases e4;have zz:=aA e2;clear e2;obtain⟨e2,e5⟩:=zz;subst e5;have e2:(!k')=k:=by cases e2;rfl
 exact⟨F,ρ,k',_,g,e3,fun F' H' s=>by show Q (!k') H';rw[e2];exact q F' H' s⟩
theorem JT(ρ:List Sl):gH (HH.ev c (.and pa pb)) ρ=(gH (HH.ev c pa) ρ).bind fun x ρ=>if x then gH (HH.ev c pb) ρ else .ok false ρ:=by unfold gH;rw[HH.E6];unfold gH;cases HH.ev c pa ρ with|exc _ _=>rfl|stuck=>rfl|ok r ρ1=>simp only[Res.bind];cases h:MF r.d with|none=>rfl|some k=>cases k with|false=>rfl|true=>simp only[lift,if_true];cases HH.ev c pb ρ1 with|exc _ _=>rfl|stuck=>rfl|ok r2 ρ2=>simp only[Res.bind];cases h2:MF r2.d with|none=>rfl|some k2=>rfl
theorem Pn(ρ:List Sl):gH (HH.ev c (.or pa pb)) ρ=(gH (HH.ev c pa) ρ).bind fun x ρ=>if x then .ok true ρ else gH (HH.ev c pb) ρ:=by unfold gH;rw[HH.E7];unfold gH;cases HH.ev c pa ρ with|exc _ _=>rfl|stuck=>rfl|ok r ρ1=>simp only[Res.bind];cases h:MF r.d with|none=>rfl|some k=>cases k with|true=>rfl|false=>simp only[lift,false_eq_true,if_false];cases HH.ev c pb ρ1 with|exc _ _=>rfl|stuck=>rfl|ok r2 ρ2=>simp only[Res.bind];cases h2:MF r2.d with|none=>rfl|some k2=>rfl
theorem yV(ha:ST X c a pa):SW X c (.BoolOp .And [a] pos) pa:=IK ha
theorem O4(ha:ST X c a pa):SW X c (.BoolOp .Or [a] pos) pa:=RM ha
theorem Fq(ha:ST X c a pa)(hb:SW X c (.BoolOp .And (b::rest) pos) pb):SW X c (.BoolOp .And (a::b::rest) pos) (.and pa pb):=by refine Mv (RX ha hb) ?_;rintro σ H Q⟨F,ρ,k,ρ',g,e,q⟩;rw[JT]at e;obtain⟨x,ρ1,e1,e⟩:=aa e;refine⟨F,ρ,x,ρ1,g,e1,fun F1 H1 s1=>?_⟩;cases x with|true=>rw[if_pos rfl]at e ⊢;exact⟨F1,ρ1,k,ρ',s1.gs,e,fun F2 H2 s2=>q F2 H2 (s1.trans s2)⟩|false=>rw[if_neg Bool.false_ne_true]at e ⊢;cases e;exact q F1 H1 s1
theorem VM(ha:ST X c a pa)(hb:SW X c (.BoolOp .Or (b::rest) pos) pb):SW X c (.BoolOp .Or (a::b::rest) pos) (.or pa pb):=by refine Mv (VB ha hb) ?_;rintro σ H Q⟨F,ρ,k,ρ',g,e,q⟩;rw[Pn]at e;obtain⟨x,ρ1,e1,e⟩:=aa e;refine⟨F,ρ,x,ρ1,g,e1,fun F1 H1 s1=>?_⟩;cases x with|true=>rw[if_pos rfl]at e ⊢;cases e;exact q F1 H1 s1|false=>rw[if_neg Bool.false_ne_true]at e ⊢;exact⟨F1,ρ1,k,ρ',s1.gs,e,fun F2 H2 s2=>q F2 H2 (s1.trans s2)⟩
theorem Qi(ha:SX X c a pa):SX X c (.UnaryOp .Not a pos) (.not pa):=by refine⟨cT (R0 ha.ev) ?_,fun i h=>by cases h⟩;rintro σ H Q⟨F,ρ,r,ρ',g,e,k⟩;rw[HH.E5]at e;obtain⟨x,ρ1,e1,e2⟩:=aa e;cases e2;exact mj (c:=c) (fun _ z=>z) ⟨F,ρ,x,_,g,e1,fun F' H' s=>k _ F' H' s (show Rep X.K F' _ _ from ir _)⟩
theorem Ji{op}(ha:SX X c a pa):PE X (.BoolOp op [a] pos) (xf X.K (HH.ev c pa)):=Ph ha.ev
theorem GK(ha:SX X c a pa)(hb:PE X (.BoolOp .And (b::rest) pos) (xf X.K (HH.ev c pb))):SX X c (.BoolOp .And (a::b::rest) pos) (.and pa pb):=by refine⟨cT (QX ha.ev hb) ?_,fun i h=>by cases h⟩;rintro σ H Q⟨F,ρ,r,ρ',g,e,k⟩;rw[HH.E6]at e;obtain⟨x,ρ1,e1,e⟩:=aa e;refine mj (c:=c) (fun _ z=>z) (Q:=fun x H1=>if x=true then xf X.K (HH.ev c pb) σ H1 Q else Q (.bl false) H1) ⟨F,ρ,x,ρ1,g,e1,fun F1 H1 s1=>?_⟩;cases x with|true=>rw[if_pos rfl]at e ⊢;obtain⟨y,ρ2,e2,e3⟩:=aa e;cases e3;obtain⟨r2,ρ3,e4,e5⟩:=aa e2;have zz:=aA e5;clear e5;obtain⟨e5,e6⟩:=zz;subst e6;refine⟨F1,ρ1,r2,_,s1.gs,e4,fun v F2 H2 s2 rr=>?_⟩;rw[rr.bool (wO e5)];exact k _ F2 H2 (s1.trans s2) (show Rep X.K F2 _ _ from ir _)|false=>rw[if_neg Bool.false_ne_true]at e ⊢;cases e;exact k _ F1 H1 s1 (show Rep X.K F1 _ _ from ir _)
theorem tE(hc:ST X c e p)(ha:SX X c a pa)(hb:SX X c b pb):SX X c (.IfExp e a b pos) (.M7 p pa pb):=by refine⟨cT (G6 hc ha.ev hb.ev) ?_,fun i h=>by cases h⟩;rintro σ H Q⟨F,ρ,r,ρ',g,e,k⟩;rw[HH.E9]at e;obtain⟨x,ρ1,e1,e⟩:=aa e;refine⟨F,ρ,x,ρ1,g,e1,fun F1 H1 s1=>?_⟩;cases x with|true=>rw[if_pos rfl]at e ⊢;obtain⟨r2,ρ2,e2,e3⟩:=aa e;cases e3;refine⟨F1,ρ1,r2,_,s1.gs,e2,fun v F2 H2 s2 rr=>?_⟩;obtain⟨F3,s3,_,rp⟩:=s2.cC rr;exact k v F3 H2 (s1.trans s3) rp|false=>rw[if_neg Bool.false_ne_true]at e ⊢;obtain⟨r2,ρ2,e2,e3⟩:=aa e;cases e3;refine⟨F1,ρ1,r2,_,s1.gs,e2,fun v F2 H2 s2 rr=>?_⟩;obtain⟨F3,s3,_,rp⟩:=s2.cC rr;exact k v F3 H2 (s1.trans s3) rp
theorem rT:∀{ps:List P}{ρ ρ':List Sl}{ds:List D},evs c ps ρ=.ok ds ρ'->ds.length=ps.length|[],_,_,_,h=>by rw[evs]at h;cases h;rfl|p::ps,_,_,_,h=>by rw[evs]at h;obtain⟨r,ρ1,_,h⟩:=aa h;obtain⟨xs,ρ2,h2,h⟩:=aa h;cases h;simp[rT h2]
theorem aO:SA X c [] []:=⟨wH cL fun σ H Q⟨F,ρ,ds,ρ',g,e,k⟩=>by rw[evs]at e;cases e;exact k [] F H (.refl g) .nil,rfl⟩
theorem zT{es:List Expr}{ps:List P}(ha:SX X c a pa)(hr:SA X c es ps)(hs:starEach (a::es) X.env=(false,eval a X.env)::starEach es X.env:=by rfl):SA X c (a::es) (pa::ps):=by refine⟨wH (bA ha.ev hr.1 hs) ?_,by simp[hr.2]⟩;rintro σ H Q⟨F,ρ,ds,ρ',g,e,k⟩;rw[evs]at e;obtain⟨r,ρ1,e1,e⟩:=aa e;obtain⟨xs,ρ2,e2,e⟩:=aa e;cases e;refine⟨F,ρ,r,ρ1,g,e1,fun v F' H' s rr=>?_⟩;obtain⟨F1,s1,_,rp⟩:=s.cC rr;refine⟨F1,ρ1,xs,_,s1.gs,e2,fun vs F2 H2 s2 rs=>?_⟩;exact k _ F2 H2 (s1.trans s2) (.cons (rp.mono s2.bZ) rs)
theorem Ext.KY{K:PySem.W.Frag}{F H:Hp}{ρ ρ':List Sl}{σ:L2.St}{H0 F0:Hp}{Q:VK}{xs:List V}{ds:List D}(s:aq K F0 ρ σ H0 F ρ' σ H)(r:au K F xs ds)(k:∀v F' H',aq K F0 ρ σ H0 F' ρ' σ H'->bM K F' ρ' σ H' ρ σ H0 v (.val (.tup ds))->Q v H')(p:Addr)(hp:H p=none):Q (.ref p) (upd H p (.tup xs)):=BV s.gs.sub r hp fun v F' H' x rn=>k v F' H' (s.trans (x.stp s.gs)) rn
theorem dR{es:List Expr}{ps:List P}{x1}(h:SA X c es ps)(hz:ps.length<=sizeLine:=by decide):SX X c (.Tuple es x1 pos) (.tup ps):=by refine⟨cT (N7 h.1) ?_,fun i h=>by cases h⟩;rintro σ H Q⟨F,ρ,r,ρ',g,e,k⟩;rw[HH.E10]at e;obtain⟨ds,ρ1,e1,e⟩:=aa e;cases e;exact⟨F,ρ,ds,_,g,e1,fun vs F' H' s rs=>⟨by rw[rs.length,rT e1];exact hz,fun p hp=>Ext.KY s rs k p hp⟩⟩
theorem cg{es:List Expr}{ps:List P}(h:SA X c es ps)(hz:ps.length<=sizeLine:=by decide):SX X c (.List es pos) (.lst ps):=by refine⟨cT (Qn h.1) ?_,fun i h=>by cases h⟩;rintro σ H Q⟨F,ρ,r,ρ',g,e,k⟩;rw[HH.E11]at e;obtain⟨ds,ρ1,e1,e⟩:=aa e;cases e;exact⟨F,ρ,ds,_,g,e1,fun vs F' H' s rs=>⟨by rw[rs.length,rT e1];exact hz,fun p hp=>uL s.gs.sub rs hp fun v F2 H2 x rn=>k v F2 H2 (s.trans (x.stp s.gs)) (.later s (rn.m5 s.gs))⟩⟩
theorem DY{ds:List D}{i:Int}{d:D}(h:at' ds i=some d):∃j,L2.gB ds.length i=some j/\ds[j]?=some d:=bF h
theorem aa8:Yt X (rD X.K Ku):=by
 rintro value slice pins s σ H x y v u Q I rx ry⟨F,d,e,r,sm,px,py,he,k⟩hs;unfold Ku at he;obtain⟨ds,e1,he⟩:=bF he;obtain⟨i,e2,he⟩:=bF he;obtain⟨z,e3,he⟩:=map_some he;subst he;cases bR e2;rw[py.int]at ry;obtain⟨p,xs,rfl,hq,rs⟩:=px.items sm e1;obtain⟨j,h1,h2⟩:=DY e3;obtain⟨w,h3,h4⟩:=rs.get h2;have hat:DQ xs i=some w:=by unfold DQ;rw[rs.length,h1];exact h3
 rcases hq with hq|hq;.exact Aw value slice pins s σ H _ _ v u Q I rx ry ⟨p,xs,i,w,rfl,rfl,hq,hat,bK.cY sm h4 k⟩ hs
 .exact Qc value slice pins s σ H _ _ v u Q I rx ry ⟨p,xs,i,w,rfl,rfl,hq,hat,bK.cY sm h4 k⟩ hs
theorem aD(ha:SX X c a pa)(hb:SX X c b pb)(hs:uv b:=by intro _ _;rfl):SX X c (.Subscript a b pos) (.idx pa pb):=tV (f:=Ku) (fun h1 h2=>Mr aa8 h1 h2 hs) ha hb (fun ρ=>rfl) rfl
def Rh(K:PySem.W.Frag)(f:D->Option R):List V->Hp->VK->Prop:=fun xs H Q=>∃x,xs=[x]/\rD1 K f x H Q
theorem qM{E:Expr}{f:D->Option R}{q:P}(hp:∀{t},PA X [a] t->PE X E (Yo (Rh X.K f) t))(ha:SX X c a pa)(hq:∀ρ,HH.ev c q ρ=(HH.bN (isVar pa) (HH.ev c pa) ρ).bind fun x ρ=>lift (f x) ρ)(hv:isVar q=none)(hs:starEach [a] X.env=(false,eval a X.env)::starEach [] X.env:=by rfl):SX X c E q:=by obtain⟨ta,h1,h3⟩:=ha.bN;refine⟨cT (hp (bA h1 cL hs)) ?_,fun i h=>by rw[hv]at h;cases h⟩;rintro σ H Q⟨F,ρ,r,ρ',g,e,k⟩;rw[hq]at e;obtain⟨x,ρ1,e1,e2⟩:=aa e;have zz:=aA e2;clear e2;obtain⟨e2,e3⟩:=zz;subst e3;refine h3 g e1 fun v F' H' s pv=>⟨v,rfl,F',x,r,s.gs.sub,pv,e2,fun w F2 H2 x rn=>?_⟩;exact k w F2 H2 (s.trans (x.stp s.gs)) (.later s (rn.m5 s.gs))
theorem Wd:dm X (.builtin "len") (Rh X.K fun x=>blt .len [x]):=by rintro pins s σ H xs us Q I r⟨x,hx,F,d,r',sm,px,he,k⟩;obtain⟨ds,e1,he⟩:=map_some (show(items d).map _=some r' from he);subst he;obtain⟨p,ys,rfl,hq,rs⟩:=px.items sm e1;exact sO pins s σ H xs us Q I r ⟨p,ys,hx,hq,by rw[rs.length];exact bK.cY sm (bH _) k⟩
theorem PJ:dm X (.type "list") (Rh X.K fun x=>blt .list [x]):=by rintro pins s σ H xs us Q I r⟨x,hx,F,d,r',sm,px,he,k⟩;obtain⟨ds,e1,he⟩:=map_some (show(items d).map _=some r' from he);subst he;obtain⟨p,ys,rfl,hq,rs⟩:=px.items sm e1;exact ue pins s σ H xs us Q I r ⟨p,ys,hx,hq,fun l hl=>uL sm rs hl k⟩
theorem J8:dm X (.type "tuple") (Rh X.K fun x=>blt .tuple [x]):=by rintro pins s σ H xs us Q I r⟨x,hx,F,d,r',sm,px,he,k⟩;obtain⟨ds,e1,he⟩:=map_some (show(items d).map _=some r' from he);subst he;cases d with|tup es=>cases e1;obtain⟨a,ys,rfl,hq,rs,rt⟩:=px.tup sm;exact jz pins s σ H xs us Q I r ⟨a,ys,hx,.inr ⟨hq,bK.cY sm rt k⟩⟩|lst es=>cases e1;obtain⟨a,ys,rfl,hq,rs⟩:=px.lst sm;exact jz pins s σ H xs us Q I r ⟨a,ys,hx,.inl ⟨hq,fun l hl=>BV sm rs hl k⟩⟩|_=>cases e1
theorem tU{x:Str}{p':Pos}(hx:x="len")(hg:Gl X x)(hm:X.mg x=none)(ha:SX X c a pa)(hs:starEach [a] X.env=(false,eval a X.env)::starEach [] X.env:=by rfl):SX X c (.Call (.Name x p') [a] [] pos) (.blt .len [pa]):=by subst hx;exact qM (fun h=>dY Wd hg hm PySem.boot_len h (he:=hs)) ha (fun ρ=>rfl) rfl hs
theorem zJ{x:Str}{p':Pos}(hx:x="list")(hg:Gl X x)(hm:X.mg x=none)(ha:SX X c a pa)(hs:starEach [a] X.env=(false,eval a X.env)::starEach [] X.env:=by rfl):SX X c (.Call (.Name x p') [a] [] pos) (.blt .list [pa]):=by subst hx;exact qM (fun h=>je PJ hg hm (by decide+kernel) h (he:=hs)) ha (fun ρ=>rfl) rfl hs
theorem Fg{x:Str}{p':Pos}(hx:x="tuple")(hg:Gl X x)(hm:X.mg x=none)(ha:SX X c a pa)(hs:starEach [a] X.env=(false,eval a X.env)::starEach [] X.env:=by rfl):SX X c (.Call (.Name x p') [a] [] pos) (.blt .tuple [pa]):=by subst hx;exact qM (fun h=>je J8 hg hm (by decide+kernel) h (he:=hs)) ha (fun ρ=>rfl) rfl hs
end
def jG(K:PySem.W.Frag)(np:Nat)(f:List Sl->Res R):Sp:=fun vs H Q _=>vs.length=np/\∃F args r args',GS K F args (vs.map some) H/\f args=.ok r args'/\∀v F' σ' H',aq K F args (vs.map some) H F' args' σ' H'->bM K F' args' σ' H' args (vs.map some) H v r->Q v H'
section
variable{K:PySem.W.Frag}
def xW(K:PySem.W.Frag)(F:Hp)(ρ:List Sl)(σ:L2.St)(H:Hp)(ρ₀:List Sl)(H₀:Hp)(v:V):Arg->Prop|.dat d=>Rep K F v d|.tmp ds=>∃x xs,v=.ref x/\H x=some (.lst xs)/\F x=none/\au K F xs ds/\¬ Own ρ σ x/\(Own ρ₀ σ x\/H₀ x=none)|.du i=>σ[i]?=some (some v)
structure uW(K:PySem.W.Frag)(F:Hp)(ρ:List Sl)(σ:L2.St)(H:Hp)(ρ₀:List Sl)(H₀:Hp)(as:List Arg)(vs:List V):Prop where
 len:as.length=vs.length
 one:∀(j:Nat)(a:Arg)(v:V),as[j]?=some a->vs[j]?=some v->xW K F ρ σ H ρ₀ H₀ v a
 dis:∀(j k:Nat)(ds es:List D)(x:Addr),as[j]?=some (.tmp ds)->as[k]?=some (.tmp es)->vs[j]?=some (.ref x)->vs[k]?=some (.ref x)->j=k
theorem xW.later{F F' H H' H₀:Hp}{ρ ρ' ρ₀:List Sl}{σ:L2.St}{v:V}{a:Arg}(s:aq K F ρ σ H F' ρ' σ H')(h:xW K F ρ σ H ρ₀ H₀ v a):xW K F' ρ' σ H' ρ₀ H₀ v a:=by cases a with|dat d=>exact Rep.mono s.bZ h|du i=>exact h|tmp ds=>
   obtain⟨x,xs,h1,h2,h3,h4,h5,h6⟩:=h;refine⟨x,xs,h1,s.keep x _ h2 h5,?_,h4.mono s.bZ,fun o=>?_,h6⟩;.cases q:F' x with|none=>rfl|some o=>
       rcases s.wR x h3 (by rw[q];simp)with z|z;.exact absurd z h5
       .exact(Gm h2 z).elim
   . rcases s.uJ x o with z|z;.exact h5 z
     .rw[h2]at z;cases z
theorem uW.nil{F H H₀:Hp}{ρ ρ₀:List Sl}{σ:L2.St}:uW K F ρ σ H ρ₀ H₀ [] []:=⟨rfl,fun j a v h=>by simp at h,fun j k ds es x h=>by simp at h⟩
theorem uW.cons{F H H₀:Hp}{ρ ρ₀:List Sl}{σ:L2.St}{a:Arg}{v:V}{as:List Arg}{vs:List V}(h:xW K F ρ σ H ρ₀ H₀ v a)(t:uW K F ρ σ H ρ₀ H₀ as vs)(hd:∀ds x,a=.tmp ds->v=.ref x->∀(k:Nat)es,as[k]?=some (.tmp es)->vs[k]?≠some (.ref x)):uW K F ρ σ H ρ₀ H₀ (a::as) (v::vs):=by
 refine⟨by simp[t.len],fun j b u h1 h2=>?_,fun j k ds es x h1 h2 h3 h4=>?_⟩;.cases j with|zero=>simp at h1 h2;subst h1;subst h2;exact h|succ j=>exact t.one j b u (by simpa using h1) (by simpa using h2)
 .cases j with
   |zero=>cases k with|zero=>rfl|succ k=>simp at h1 h3;exact absurd (by simpa using h4) (hd ds x h1 h3 k es (by simpa using h2))
   |succ j=>cases k with|zero=>simp at h2 h4;exact absurd (by simpa using h3) (hd es x h2 h4 j ds (by simpa using h1))|succ k=>rw[t.dis j k ds es x (by simpa using h1) (by simpa using h2) (by simpa using h3) (by simpa using h4)]
def Es(ρ:List Sl):Arg->Sl->Prop|.dat d,s=>s=.val false d|.tmp ds,s=>s=.own false ds|.du i,s=>(∃b d,ρ[i]?=some (.val b d)/\s=.val false d)\/(∃b ds,ρ[i]?=some (.own b ds)/\s=.own true ds)\/∃ds,ρ[i]?=some (.lent ds)/\s=.lent ds
theorem oJ{ρ:List Sl}:∀{as:List Arg}{used:List Nat}{args:List Sl},bz ρ as used=some args->args.length=as.length/\(∀(j:Nat)(a:Arg)(s:Sl),as[j]?=some a->args[j]?=some s->Es ρ a s)/\(∀(j:Nat)(i:Nat)(s:Sl)ds,as[j]?=some (.du i)->args[j]?=some s->lst? s=some ds->i∉used)/\(∀(j k:Nat)(i:Nat)(s t:Sl)ds es,as[j]?=some (.du i)->as[k]?=some (.du i)->args[j]?=some s->args[k]?=some t->lst? s=some ds->lst? t=some es->j=k)
 |[],used,args,h=>by rw[bz]at h;cases h;exact⟨rfl,fun j a s h=>by simp at h,fun j i s ds h=>by simp at h,fun j k i s t ds es h=>by simp at h⟩|a::as,used,args,h=>by--the acx slot,the acy
   have key:∃s0 r wU,args=s0::r/\bz ρ as wU=some r/\Es ρ a s0/\((∃i ds,a=.du i/\lst? s0=some ds/\wU=i::used/\i∉used)\/((∀i ds,a=.du i->lst? s0≠some ds)/\wU=used)):=by cases a with|dat d=>rw[bz]at h;obtain⟨r,e1,e2⟩:=map_some h;exact⟨_,r,used,e2.symm,e1,rfl,.inr ⟨fun i ds z=>(by cases z),rfl⟩⟩|tmp d=>rw[bz]at h;obtain⟨r,e1,e2⟩:=map_some h;exact⟨_,r,used,e2.symm,e1,rfl,.inr ⟨fun i ds z=>(by cases z),rfl⟩⟩|du i=>
      rw[bz]at h;split at h;.rename_i b d q;obtain⟨r,e1,e2⟩:=map_some h;exact⟨_,r,used,e2.symm,e1,.inl ⟨b,d,q,rfl⟩,.inr ⟨fun _ _ _ z=>(by cases z),rfl⟩⟩
      . rename_i b ds q;split at h;.cases h
        .rename_i hu;obtain⟨r,e1,e2⟩:=map_some h;exact⟨_,r,_,e2.symm,e1,.inr (.inl ⟨b,ds,q,rfl⟩),.inl ⟨i,_,rfl,rfl,rfl,by simpa using hu⟩⟩
      . rename_i ds q;split at h;.cases h
        .rename_i hu;obtain⟨r,e1,e2⟩:=map_some h;exact⟨_,r,_,e2.symm,e1,.inr (.inr ⟨ds,q,rfl⟩),.inl ⟨i,_,rfl,rfl,rfl,by simpa using hu⟩⟩
      .cases h
   obtain⟨s0,r,wU,rfl,hr,hs0,hu⟩:=key;obtain⟨l1,l2,l3,l4⟩:=oJ hr;have sub:∀i,i∉wU->i∉used:=fun i hi hm=>by
    rcases hu with⟨_,_,_,_,rfl,_⟩|⟨_,rfl⟩;.exact hi (mem_cons_of_mem _ hm)
    .exact hi hm
   refine⟨by simp[l1],fun j b s h1 h2=>?_,fun j i s ds h1 h2 h3=>?_,fun j k i s t ds es h1 h2 h3 h4 h5 h6=>?_⟩;.cases j with|zero=>simp at h1 h2;subst h1;subst h2;exact hs0|succ j=>exact l2 j b s (by simpa using h1) (by simpa using h2)
   .cases j with|zero=>
       simp at h1 h2;subst h1;subst h2;rcases hu with⟨i',_,e,_,_,hn⟩|⟨hn,_⟩;.cases e;exact hn
       .exact absurd h3 (hn i ds rfl)|succ j=>exact sub i (l3 j i s ds (by simpa using h1) (by simpa using h2) h3)
   . have z0:∀(k:Nat)(t:Sl)es,a=.du i->lst? s0=some ds->(as[k]?=some (.du i))->r[k]?=some t->lst? t=some es->False:=fun k t es ea e0 hk ht he=>by
      rcases hu with⟨i',_,e,_,rfl,hn⟩|⟨hn,_⟩;.rw[ea]at e;cases e;exact l3 k i t es hk ht he mem_cons_self
      .exact hn i ds ea e0
     have z1:∀(k:Nat)(t:Sl)es,a=.du i->lst? s0=some es->(as[k]?=some (.du i))->r[k]?=some t->lst? t=some ds->False:=fun k t es ea e0 hk ht he=>by
      rcases hu with⟨i',_,e,_,rfl,hn⟩|⟨hn,_⟩;.rw[ea]at e;cases e;exact l3 k i t ds hk ht he mem_cons_self
      .exact hn i es ea e0
     cases j with
     |zero=>cases k with|zero=>rfl|succ k=>simp at h1 h3;subst h3;exact(z0 k t es h1 h5 (by simpa using h2) (by simpa using h4) h6).elim
     |succ j=>cases k with|zero=>simp at h2 h4;subst h4;exact(z1 j s es h2 h6 (by simpa using h1) (by simpa using h3) h5).elim|succ k=>rw[l4 j k i s t ds es (by simpa using h1) (by simpa using h2) (by simpa using h3) (by simpa using h4) h5 h6]
theorem uW.get{F H H₀:Hp}{ρ ρ₀:List Sl}{σ:L2.St}{as:List Arg}{vs:List V}(A:uW K F ρ σ H ρ₀ H₀ as vs){args:List Sl}{j:Nat}{s:Sl}(hl:args.length=as.length)(h:args[j]?=some s):∃a v,as[j]?=some a/\vs[j]?=some v/\xW K F ρ σ H ρ₀ H₀ v a:=by
 have hj:j<args.length:=(List.getElem?_eq_some_iff.mp h).1;have h1:j<as.length:=by omega
 have h2:j<vs.length:=by rw[<-A.len];exact h1
 exact⟨as[j],vs[j],by simp[h1],by simp[h2],A.one j _ _ (by simp[h1]) (by simp[h2])⟩
theorem args_gs{F H H₀:Hp}{ρ ρ₀:List Sl}{σ:L2.St}{as:List Arg}{vs:List V}{args:List Sl}(g:GS K F ρ σ H)(A:uW K F ρ σ H ρ₀ H₀ as vs)(h:bz ρ as []=some args):GS K F args (vs.map some) H:=by
 obtain⟨l1,l2,l3,l4⟩:=oJ h;have up:∀{j:Nat}{v:V},vs[j]?=some v->(vs.map some)[j]?=some (some v):=fun e=>by rw[getElem?_map,e];rfl
 have dn:∀{j:Nat}{v:V},(vs.map some)[j]?=some (some v)->vs[j]?=some v:=fun{j v}e=>by rw[getElem?_map]at e;cases q:vs[j]?with|none=>rw[q]at e;cases e|some w=>rw[q]at e;cases e;rfl
 refine⟨g.sub,by rw[l1,A.len,length_map],fun j b d e=>?_,fun j s ds e e'=>?_,fun j k x⟨⟨s,ds,e1,e2⟩,e3⟩⟨⟨t,es,f1,f2⟩,f3⟩=>?_⟩;.obtain⟨a,v,h1,h2,h3⟩:=A.get l1 e;have h4:=l2 j a _ h1 e;refine⟨v,up h2,?_⟩;cases a with|dat d'=>cases h4;exact h3|tmp ds=>cases h4|du i=>
     rcases h4 with⟨b',d',q1,q2⟩|⟨_,_,_,q2⟩|⟨_,_,q2⟩;.cases q2;obtain⟨w,q3,q4⟩:=g.val i b' d q1;have h3:σ[i]?=some (some v):=h3;rw[h3]at q3;cases q3;exact q4
     .cases q2
     .cases q2
 .obtain⟨a,v,h1,h2,h3⟩:=A.get l1 e;have h4:=l2 j a _ h1 e;cases a with|dat d'=>cases h4;cases e'|tmp es=>cases h4;cases e';obtain⟨x,xs,rfl,q2,q3,q4,_⟩:=h3;exact⟨x,_,up h2,q2,q3,xs,rfl,q4⟩|du i=>
     have h3:σ[i]?=some (some v):=h3;rcases h4 with⟨b',d',q1,q2⟩|⟨b',es,q1,q2⟩|⟨es,q1,q2⟩;.cases q2;cases e'
     .cases q2;cases e';obtain⟨x,xs,q3,q4⟩:=g.own i _ _ q1 rfl;rw[h3]at q3;cases q3;exact⟨x,xs,up h2,q4⟩
     .cases q2;cases e';obtain⟨x,xs,q3,q4⟩:=g.own i _ _ q1 rfl;rw[h3]at q3;cases q3;exact⟨x,xs,up h2,q4⟩
 . obtain⟨a,v,h1,h2,h3⟩:=A.get l1 e1;obtain⟨a',v',h1',h2',h3'⟩:=A.get l1 f1;have e3:=dn e3;have f3:=dn f3;rw[h2]at e3;cases e3;rw[h2']at f3;cases f3;have s1:=l2 j a _ h1 e1;have s2:=l2 k a' _ h1' f1;have nm:∀{i:Nat}{s:Sl}{ds:Oc},lst? s=some ds->Es ρ (.du i) s->∃s' ds',ρ[i]?=some s'/\lst? s'=some ds':=fun{i s ds}l z=>by
    rcases z with⟨_,_,_,z⟩|⟨b,es,q,_⟩|⟨es,q,_⟩;.subst z;cases l
    .exact⟨_,_,q,rfl⟩
    .exact⟨_,_,q,rfl⟩
   cases a with
   |dat d=>cases s1;cases e2|tmp R6=>cases a' with|dat d=>cases s2;cases f2|tmp Lg=>exact A.dis j k R6 Lg x h1 h1' h2 h2'|du i=>obtain⟨y,_,q1,_,_,_,q2,_⟩:=h3;cases q1;obtain⟨s',ds',q3,q4⟩:=nm f2 s2;exact absurd ⟨i,⟨s',ds',q3,q4⟩,h3'⟩ q2
   |du i=>obtain⟨s',ds',q3,q4⟩:=nm e2 s1;cases a' with|dat d=>cases s2;cases f2|tmp Lg=>obtain⟨y,_,q1,_,_,_,q2,_⟩:=h3';cases q1;exact absurd ⟨i,⟨s',ds',q3,q4⟩,h3⟩ q2|du i'=>obtain⟨s'',acz,q5,q6⟩:=nm f2 s2;have:=g.dis i i' x ⟨⟨s',ds',q3,q4⟩,h3⟩ ⟨⟨s'',acz,q5,q6⟩,h3'⟩;subst this;exact l4 j k i s t ds es h1 h1' e1 f1 e2 f2
theorem lU{as:List Arg}{ss:List Sl}:∀(ρ:List Sl)(n i:Nat),(bV as ss n ρ)[i]?=(ρ[i]?).map fun s=>cU s (aL (n+i) as ss)
 |[],n,i=>by simp[bV]|s::ρ,n,0=>by simp[bV]|s::ρ,n,i+1=>by
   rw[bV];simp only[List.getElem?_cons_succ];rw[lU ρ (n+1) i];have:n+1+i=n+(i+1):=by omega
   rw[this]
theorem lY{as:List Arg}{ss:List Sl}:∀(ρ:List Sl)(n:Nat),(bV as ss n ρ).length=ρ.length|[],n=>rfl|s::ρ,n=>by rw[bV];simp[lY ρ]
theorem gk{i:Nat}:∀{as:List Arg}{ss:List Sl}{t:Sl},aL i as ss=some t->∃j:Nat,as[j]?=some (.du i)/\ss[j]?=some t
 |[],_,_,h=>by simp[aL]at h|a::as,[],_,h=>by cases a<;>simp[aL]at h|a::as,s::ss,t,h=>by
   have tl:aL i as ss=some t->∃j:Nat,(a::as)[j]?=some (.du i)/\(s::ss)[j]?=some t:=fun h=>by obtain⟨j,h1,h2⟩:=gk h;exact⟨j+1,by simpa using h1,by simpa using h2⟩
   cases a with|dat d=>exact tl (by simpa[aL]using h)|tmp d=>exact tl (by simpa[aL]using h)|du k=>
     rw[aL]at h;split at h;.rename_i hk;cases h;subst hk;exact⟨0,rfl,rfl⟩
     .exact tl h
theorem jK{i:Nat}:∀{as:List Arg}{ss:List Sl},as.length=ss.length->aL i as ss=none->∀j:Nat,as[j]?≠some (.du i)
 |[],_,_,_=>fun j h=>by simp at h|a::as,[],hl,_=>by simp at hl|a::as,s::ss,hl,h=>fun j hj=>by
   have hl':as.length=ss.length:=by simpa using hl
   have tl:aL i as ss=none/\a≠.du i:=by cases a with|dat d=>exact⟨by simpa[aL]using h,by simp⟩|tmp d=>exact⟨by simpa[aL]using h,by simp⟩|du k=>
      rw[aL]at h;split at h;.cases h
      .rename_i hk;exact⟨h,fun e=>hk (by cases e;rfl)⟩
   cases j with|zero=>simp at hj;exact tl.2 hj|succ j=>exact jK hl' tl.1 j (by simpa using hj)
theorem Dk{F₀ H₀ F H F' H':Hp}{ρ₀ ρ args args':List Sl}{σ σ':L2.St}{as:List Arg}{vs:List V}(s0:aq K F₀ ρ₀ σ H₀ F ρ σ H)(A:uW K F ρ σ H ρ₀ H₀ as vs)(hb:bz ρ as []=some args)(s:aq K F args (vs.map some) H F' args' σ' H'):aq K F₀ ρ₀ σ H₀ F' (bV as args' 0 ρ) σ H'/\∀v r,bM K F' args' σ' H' args (vs.map some) H v r->bM K F' (bV as args' 0 ρ) σ H' ρ₀ σ H₀ v r:=by
 have g:=s0.gs;obtain⟨l1,l2,l3,l4⟩:=oJ hb;have up:∀{j:Nat}{v:V},vs[j]?=some v->(vs.map some)[j]?=some (some v):=fun e=>by rw[getElem?_map,e];rfl
 have dn:∀{j:Nat}{v:V},(vs.map some)[j]?=some (some v)->vs[j]?=some v:=fun{j v}e=>by rw[getElem?_map]at e;cases q:vs[j]?with|none=>rw[q]at e;cases e|some w=>rw[q]at e;cases e;rfl
 have la:as.length=args'.length:=by rw[s.len,l1]--whose are the lists that the callee holds
 have own:∀b,Own args (vs.map some) b->(∃(j:Nat)(ds:List D),as[j]?=some (Arg.tmp ds)/\vs[j]?=some (V.ref b)/\¬ Own ρ σ b/\(Own ρ₀ σ b\/H₀ b=none))\/Own ρ σ b:=fun b⟨j,⟨sl,ds,e1,e2⟩,e3⟩=>by obtain⟨a,v,h1,h2,h3⟩:=A.get l1 e1;have s1:=l2 j a _ h1 e1;have e3:=dn e3;rw[h2]at e3;cases e3;cases a with|dat d=>cases s1;cases e2|tmp es=>obtain⟨x,_,q1,_,_,_,q2,q3⟩:=h3;cases q1;exact .inl ⟨j,es,h1,h2,q2,q3⟩|du i=>
    right;rcases s1 with⟨_,_,_,z⟩|⟨b',es,q,_⟩|⟨es,q,_⟩;.subst z;cases e2
    .exact⟨i,⟨_,_,q,rfl⟩,h3⟩
    .exact⟨i,⟨_,_,q,rfl⟩,h3⟩
 have back:∀b,Own ρ σ b\/H b=none->Own ρ₀ σ b\/H₀ b=none:=fun b h=>by
  rcases h with h|h;.exact s0.uJ b h
  . by_cases ho:Own ρ₀ σ b;.exact .inl ho
    .right;cases e:H₀ b with|none=>rfl|some o=>rw[s0.keep b o e ho]at h;cases h
 have own':∀b,Own args (vs.map some) b->Own ρ₀ σ b\/H₀ b=none:=fun b h=>by
  rcases own b h with⟨_,_,_,_,_,z⟩|z;.exact z
  .exact back b (.inl z)--a name's slot behind the call
 have slot:∀{i:Nat}{t:Sl},(bV as args' 0 ρ)[i]?=some t->∃s1,ρ[i]?=some s1/\t=cU s1 (aL i as args'):=fun{i t}h=>by rw[lU]at h;obtain⟨s1,e1,e2⟩:=map_some h;exact⟨s1,e1,by rw[<-e2,Nat.zero_add]⟩
 have Xz:∀{i:Nat}{s1:Sl},ρ[i]?=some s1->(bV as args' 0 ρ)[i]?=some (cU s1 (aL i as args')):=fun{i s1}h=>by rw[lU,h,Nat.zero_add];rfl--what the callee left of a list that was lent to it
 have lent:∀{i j:Nat}{s1 t:Sl}{ds:List D},ρ[i]?=some s1->lst? s1=some (.l ds)->as[j]?=some (.du i)->args'[j]?=some t->∃v s2,σ[i]?=some (some v)/\σ'[j]?=some (some v)/\args[j]?=some s2/\j9 s2 t/\((∃b,s1=.own b ds/\s2=.own true ds)\/(s1=.lent ds/\s2=.lent ds)):=fun{i j s1 t ds}h1 h2 h3 h4=>by
  have hj:j<args.length:=by rw[l1];exact(List.getElem?_eq_some_iff.mp h3).1
  have e1:args[j]?=some args[j]:=by simp[hj]
  obtain⟨a,v,q1,q2,q3⟩:=A.get l1 e1;rw[h3]at q1;cases q1;have q4:=l2 j _ _ h3 e1;have kind:(∃b,s1=.own b ds/\args[j]=.own true ds)\/(s1=.lent ds/\args[j]=.lent ds):=by
   rcases q4 with⟨_,_,z,_⟩|⟨b,es,z,z'⟩|⟨es,z,z'⟩;.rw[h1]at z;cases z;cases h2
   .rw[h1]at z;cases z;cases h2;exact .inl ⟨b,rfl,z'⟩
   .rw[h1]at z;cases z;cases h2;exact .inr ⟨rfl,z'⟩
  have lk:ud args[j]=true:=by rcases kind with⟨_,_,z⟩|⟨_,z⟩<;>rw[z]<;>rfl
  obtain⟨z1,s',z2,z3⟩:=s.lk j _ e1 lk;rw[h4]at z2;cases z2;exact⟨v,_,q3,by rw[z1];exact up q2,e1,z3,kind⟩
 have Lh:∀{i:Nat}{x:Addr},aK (bV as args' 0 ρ) σ i x->aK ρ σ i x:=fun{i x}⟨⟨t,ds,e1,e2⟩,e3⟩=>by obtain⟨s1,q1,q2⟩:=slot e1;refine⟨?_,e3⟩;cases s1 with|aP=>subst q2;cases e2|val b d=>subst q2;cases e2|own b es=>exact⟨_,_,q1,rfl⟩|lent es=>exact⟨_,_,q1,rfl⟩|eY m=>exact⟨_,_,q1,rfl⟩|bW m=>exact⟨_,_,q1,rfl⟩|hold _=>subst q2;cases e2
 refine⟨?_,fun v r h=>?_⟩;rotate_left;.cases r with|val d=>exact h|own ds=>
     obtain⟨x,xs,h1,h2,h3,h4,h5,h6⟩:=h;refine⟨x,xs,h1,h2,h3,h4,fun⟨i,h⟩=>?_,?_⟩
     . have hO:=Lh h;obtain⟨⟨s1,R6,q1,q2⟩,q3⟩:=hO;obtain⟨x',xs',w1,w2,_⟩:=g.own i s1 R6 q1 q2;rw[q3]at w1;cases w1;rcases h6 with h6|h6
       . rcases own x h6 with⟨_,_,_,_,z,_⟩|_;.exact z ⟨i,⟨s1,R6,q1,q2⟩,q3⟩
         .--a name was lent
           obtain⟨j,⟨sl,es,w3,w4⟩,w5⟩:=h6;obtain⟨a',v',y1,y2,y3⟩:=A.get l1 w3;have sa:=l2 j a' _ y1 w3;have w5:=dn w5;rw[y2]at w5;cases w5;cases a' with|dat d=>cases sa;cases w4|tmp es'=>obtain⟨_,_,u1,_,_,_,u2,_⟩:=y3;cases u1;exact u2 ⟨i,⟨s1,R6,q1,q2⟩,q3⟩|du i'=>
             have ex:∃s' ds',ρ[i']?=some s'/\lst? s'=some ds':=by
              rcases sa with⟨_,_,_,z⟩|⟨b,es,q,_⟩|⟨es,q,_⟩;.subst z;cases w4
              .exact⟨_,_,q,rfl⟩
              .exact⟨_,_,q,rfl⟩
             have:=g.dis i i' x ⟨⟨s1,R6,q1,q2⟩,q3⟩ ⟨ex,y3⟩;subst this;have hk:∃Lg,R6=.l Lg:=by
              rcases sa with⟨_,_,_,z⟩|⟨b,es,q,_⟩|⟨es,q,_⟩;.subst z;cases w4
              .rw[q1]at q;cases q;cases q2;exact⟨_,rfl⟩
              .rw[q1]at q;cases q;cases q2;exact⟨_,rfl⟩
             obtain⟨Lg,rfl⟩:=hk;have hj:j<args'.length:=by rw[<-la];exact(List.getElem?_eq_some_iff.mp y1).1
             have e':args'[j]?=some args'[j]:=by simp[hj]
             obtain⟨v2,s2,u1,u2,u3,u4,u5⟩:=lent q1 q2 y1 e';rw[q3]at u1;cases u1--the slot behind the call is a list's
             obtain⟨⟨t,dt,t1,t2⟩,_⟩:=h;obtain⟨s3,t3,t4⟩:=slot t1;rw[q1]at t3;cases t3;have lo:∃t5,aL i as args'=some t5:=by cases hl:aL i as args' with|none=>exact absurd y1 (jK la hl j)|some t5=>exact⟨t5,rfl⟩
             obtain⟨t5,hl⟩:=lo;obtain⟨j2,t6,t7⟩:=gk hl;have hj2:j2<args.length:=by rw[l1];exact(List.getElem?_eq_some_iff.mp t6).1
             obtain⟨_,s6,_,v2',v3',v4',v5'⟩:=lent q1 q2 t6 t7;have l4':j2=j:=by
              have a1:lst? s6=some (.l Lg):=by rcases v5' with⟨_,_,z⟩|⟨_,z⟩<;>rw[z]<;>rfl
              have a2:lst? s2=some (.l Lg):=by rcases u5 with⟨_,_,z⟩|⟨_,z⟩<;>rw[z]<;>rfl
              exact l4 j2 j i s6 s2 _ _ t6 y1 v3' u3 a1 a2
             subst l4';rw[e']at t7;cases t7;rw[hl]at t4;refine h5 ⟨j2,?_,u2⟩;rcases u5 with⟨b,z1,z2⟩|⟨z1,z2⟩
             . subst z1;subst z2;rcases u4 with⟨d2,z⟩|⟨d2,z⟩;.exact⟨_,.l d2,e',by rw[z];rfl⟩
               .rw[z]at t4;subst t4;cases t2
             .subst z1;subst z2;exact⟨_,.l Lg,e',by rw[show args'[j2]=.lent Lg from u4];rfl⟩
       .rw[w2]at h6;cases h6
     . rcases h6 with h6|h6;.exact own' x h6
       .exact back x (.inr h6)
 refine⟨⟨s.gs.sub,by rw[lY];exact g.len,fun i b d e=>?_,fun i t ds e e'=>?_,fun i j x h1 h2=>g.dis i j x (Lh h1) (Lh h2)⟩,s0.bZ.trans s.bZ,fun b n n'=>?_,fun b o h n=>?_,fun b⟨i,h⟩=>back b (.inl ⟨i,Lh h⟩),by rw[lY];exact s0.len,fun i s1 h l=>?_⟩;.--data
   obtain⟨s1,q1,q2⟩:=slot e;cases s1 with|aP=>cases q2|lent es=>cases q2|eY _=>cases q2|bW _=>cases q2|hold _=>cases q2|val b' d'=>cases q2;obtain⟨v,z1,z2⟩:=g.val i b d q1;exact⟨v,z1,z2.mono s.bZ⟩|own b' es=>cases hl:aL i as args' with|none=>rw[hl]at q2;cases q2|some t=>rw[hl]at q2;obtain⟨j,z1,z2⟩:=gk hl;obtain⟨v,s2,y1,y2,y3,y4,y5⟩:=lent q1 rfl z1 z2;cases t with|aP=>cases q2|own _ _=>cases q2|lent _=>cases q2|eY _=>cases q2|bW _=>cases q2|hold _=>cases q2|val b2 d2=>cases q2;obtain⟨w,x1,x2⟩:=s.gs.val j b2 d z2;rw[y2]at x1;cases x1;exact⟨v,y1,x2⟩
 .--lists
   obtain⟨s1,q1,q2⟩:=slot e--a list that was not lent
   have stay:∀es,lst? s1=some es->(∀j:Nat,as[j]?≠some (.du i))->t=s1->∃(a:Addr)(xs:HO),σ[i]?=some (some (V.ref a))/\H' a=some xs/\F' a=none/\jy K F' xs ds:=fun es he hn ht=>by
    subst ht;rw[he]at e';cases e';obtain⟨a,xs,z1,z2,z3,z4⟩:=g.own i _ ds q1 he;have no:¬ Own args (vs.map some) a:=fun h=>by obtain⟨j,⟨sl,es,w1,w2⟩,w3⟩:=h;obtain⟨a',v,h1,h2,h3⟩:=A.get l1 w1;have sa:=l2 j a' _ h1 w1;have w3:=dn w3;rw[h2]at w3;cases w3;cases a' with|dat d=>cases sa;cases w2|tmp es=>obtain⟨x,_,y1,_,_,_,y2,_⟩:=h3;cases y1;exact y2 ⟨i,⟨_,ds,q1,he⟩,z1⟩|du i'=>
       have:∃s' ds',ρ[i']?=some s'/\lst? s'=some ds':=by
        rcases sa with⟨_,_,_,z⟩|⟨b,es,q,_⟩|⟨es,q,_⟩;.subst z;cases w2
        .exact⟨_,_,q,rfl⟩
        .exact⟨_,_,q,rfl⟩
       have:=g.dis i i' a ⟨⟨_,ds,q1,he⟩,z1⟩ ⟨this,h3⟩;subst this;exact hn j h1
    refine⟨a,xs,z1,s.keep a _ z2 no,?_,z4.mono s.bZ⟩;cases q:F' a with|none=>rfl|some o=>
      rcases s.wR a z3 (by rw[q];simp)with z|z;.exact absurd z no
      .rw[z2]at z;exact(Gg z4 z).elim
   cases hl:aL i as args' with
   |none=>have hn:=jK la hl;rw[hl]at q2;cases s1 with|aP=>subst q2;cases e'|val b' d'=>subst q2;cases e'|own b' es=>exact stay _ rfl hn q2|lent es=>exact stay _ rfl hn q2|eY m=>exact stay _ rfl hn q2|bW m=>exact stay _ rfl hn q2|hold _=>subst q2;cases e'
   |some t2=>rw[hl]at q2;obtain⟨j,z1,z2⟩:=gk hl;cases s1 with
     |aP=>subst q2;cases e'|val b' d'=>subst q2;cases e'|hold _=>subst q2;cases e'|eY m=>
       have hj:j<args.length:=by rw[l1];exact(List.getElem?_eq_some_iff.mp z1).1
       rcases l2 j _ _ z1 (show args[j]?=some args[j]by simp[hj])with⟨_,_,z,_⟩|⟨_,_,z,_⟩|⟨_,z,_⟩<;>(rw[q1]at z;cases z)|bW m=>
       have hj:j<args.length:=by rw[l1];exact(List.getElem?_eq_some_iff.mp z1).1
       rcases l2 j _ _ z1 (show args[j]?=some args[j]by simp[hj])with⟨_,_,z,_⟩|⟨_,_,z,_⟩|⟨_,z,_⟩<;>(rw[q1]at z;cases z)|own b' es=>
       obtain⟨v,s2,y1,y2,y3,y4,y5⟩:=lent q1 rfl z1 z2;have:t2≠.aP/\∀x,t2≠.lent x:=by
        rcases y5 with⟨_,_,y5⟩|⟨y5,_⟩;.subst y5;rcases y4 with⟨_,rfl⟩|⟨_,rfl⟩<;>simp
        .cases y5
       cases t2 with
       |aP=>exact absurd rfl this.1|hold x=>
         rcases y5 with⟨_,_,y5⟩|⟨y5,_⟩;.subst y5;rcases y4 with⟨_,h⟩|⟨_,h⟩<;>cases h
         .cases y5|eY x=>
         rcases y5 with⟨_,_,y5⟩|⟨y5,_⟩;.subst y5;rcases y4 with⟨_,h⟩|⟨_,h⟩<;>cases h
         .cases y5|bW x=>
         rcases y5 with⟨_,_,y5⟩|⟨y5,_⟩;.subst y5;rcases y4 with⟨_,h⟩|⟨_,h⟩<;>cases h
         .cases y5|lent x=>exact absurd rfl (this.2 x)|val b2 d2=>subst q2;cases e'|own b2 es2=>subst q2;cases e';obtain⟨a,xs,x1,x2⟩:=s.gs.own j _ _ z2 rfl;rw[y2]at x1;cases x1;exact⟨a,xs,y1,x2⟩
     |lent es=>
       obtain⟨v,s2,y1,y2,y3,y4,y5⟩:=lent q1 rfl z1 z2;have ht:t=.lent es:=by rw[q2];cases t2<;>rfl
       subst ht;cases e';rcases y5 with⟨_,y5,_⟩|⟨_,y5⟩;.cases y5
       .subst y5;cases(show t2=.lent es from y4);obtain⟨a,xs,x1,x2⟩:=s.gs.own j _ _ z2 rfl;rw[y2]at x1;cases x1;exact⟨a,xs,y1,x2⟩
 . by_cases q:F b=none
   . rcases s.wR b q n' with z|z;.exact(own' b z).imp id iZ
     . by_cases ho:Own ρ₀ σ b;.exact .inl ho
       .right;cases q2:H₀ b with|none=>rfl|some o=>rw[s0.keep b o q2 ho]at z;exact z
   .exact s0.wR b n q
 . refine s.keep b o (s0.keep b o h n) fun z=>?_;rcases own' b z with z|z;.exact n z
   .rw[h]at z;cases z
 .obtain⟨e1,s2,h2,k2⟩:=s0.lk i s1 h l;refine⟨e1,_,Xz h2,?_⟩;have UJ:=k2.ud l;refine j9.trans l k2 ?_;cases s2 with
   |aP=>cases UJ|eY _=>cases UJ|bW _=>cases UJ|hold _=>exact j9.refl _|val b d=>exact j9.refl _|lent es=>cases aL i as args' with|none=>rfl|some t=>cases t<;>rfl
   |own b es=>cases b with|false=>cases UJ|true=>cases aL i as args' with|none=>exact .inl ⟨_,rfl⟩|some t=>cases t with|aP=>exact .inl ⟨_,rfl⟩|lent _=>exact .inl ⟨_,rfl⟩|eY _=>exact .inl ⟨_,rfl⟩|bW _=>exact .inl ⟨_,rfl⟩|hold _=>exact .inl ⟨_,rfl⟩|own _ ds=>exact .inl ⟨_,rfl⟩|val _ d=>exact .inr ⟨_,rfl⟩
theorem uW.rebase{F1 H1 F2 H2 F H:Hp}{ρ ρ1 ρ2:List Sl}{σ:L2.St}{as:List Arg}{vs:List V}(a:aq K F ρ σ H F1 ρ1 σ H1)(A:uW K F2 ρ2 σ H2 ρ1 H1 as vs):uW K F2 ρ2 σ H2 ρ H as vs:=by refine⟨A.len,fun j b v h1 h2=>?_,A.dis⟩;have h:=A.one j b v h1 h2;cases b with|dat d=>exact h|du i=>exact h|tmp ds=>
   obtain⟨x,xs,q1,q2,q3,q4,q5,q6⟩:=h;refine⟨x,xs,q1,q2,q3,q4,q5,?_⟩;rcases q6 with q6|q6;.exact a.uJ x q6
   . by_cases ho:Own ρ σ x;.exact .inl ho
     .right;cases e:H x with|none=>rfl|some o=>rw[a.keep x o e ho]at q6;cases q6
theorem uW.V8{F1 H1 F2 H2 F H:Hp}{ρ ρ1 ρ2:List Sl}{σ:L2.St}{as:List Arg}{vs:List V}{v:V}{r:R}(s1:aq K F ρ σ H F1 ρ1 σ H1)(rr:bM K F1 ρ1 σ H1 ρ σ H v r)(s2:aq K F1 ρ1 σ H1 F2 ρ2 σ H2)(A:uW K F2 ρ2 σ H2 ρ1 H1 as vs):uW K F2 ρ2 σ H2 ρ H (vq r::as) (v::vs):=by
 have h1:xW K F1 ρ1 σ H1 ρ H v (vq r):=by cases r with|val d=>exact rr|own ds=>exact rr
 refine .cons (h1.later s2) (A.rebase s1) fun ds x ea ev k es ek evk=>?_;cases r with|val d=>cases ea|own ds'=>
   obtain⟨y,xs,q1,q2,q3,q4,q5,q6⟩:=rr;rw[ev]at q1;cases q1;have h:=A.one k _ _ ek evk;obtain⟨z,zs,w1,_,_,_,_,w6⟩:=h;cases w1;rcases w6 with w6|w6;.exact q5 w6
   .rw[q2]at w6;cases w6
end
section
variable{K:PySem.W.Frag}{F F1 H H1:Hp}{ρ ρ1 ρ2:List Sl}{σ σ1:L2.St}
theorem sE{i:Nat}{s:Sl}(h:put ρ i s=some ρ1):∃s0,ρ[i]?=some s0/\ud s0=false/\ρ1=ρ.set i s:=by
 unfold put at h;split at h;.rename_i q;cases h;exact⟨_,q,rfl,rfl⟩
 .rename_i q;cases h;exact⟨_,q,rfl,rfl⟩
 .rename_i q;cases h;exact⟨_,q,rfl,rfl⟩
 .cases h
theorem aq.put{i:Nat}{v:V}{r:R}(s:aq K F ρ σ H F1 ρ1 σ1 H1)(rr:bM K F1 ρ1 σ1 H1 ρ σ H v r)(h:HH.put ρ1 i (yu r)=some ρ2):aq K F ρ σ H F1 ρ2 (σ1.set i (some v)) H1:=by
 obtain⟨s0,h0,hl,rfl⟩:=sE h;have hi:i<ρ1.length:=(List.getElem?_eq_some_iff.mp h0).1;have hi':i<σ1.length:=by rw[<-s.gs.len];exact hi
 have old:∀{j:Nat}{a:Addr},j≠i->aK (ρ1.set i (yu r)) (σ1.set i (some v)) j a->aK ρ1 σ1 j a:=fun{j a}hj⟨⟨t,ds,e1,e2⟩,e3⟩=>by rw[getElem?_set_ne (Ne.symm hj)]at e1 e3;exact⟨⟨t,ds,e1,e2⟩,e3⟩
 have new:∀{a:Addr},aK (ρ1.set i (yu r)) (σ1.set i (some v)) i a->¬ Own ρ1 σ1 a/\(Own ρ σ a\/H a=none):=fun{a}⟨⟨t,ds,e1,e2⟩,e3⟩=>by rw[getElem?_set_self hi]at e1;rw[getElem?_set_self hi']at e3;cases e1;cases e3;cases r with|val d=>cases e2|own es=>obtain⟨x,xs,q1,q2,q3,q4,q5,q6⟩:=rr;cases q1;exact⟨q5,q6⟩
 refine⟨⟨s.gs.sub,by simp[s.gs.len],fun j b d e=>?_,fun j t ds e e'=>?_,fun j k a h1 h2=>?_⟩,s.bZ,s.wR,s.keep,fun a⟨j,hj⟩=>?_,by simp[s.len],fun j t e l=>?_⟩
 . by_cases hj:j=i;.subst hj;rw[getElem?_set_self hi]at e;cases r with|own es=>cases e|val d'=>cases e;exact⟨v,getElem?_set_self hi',rr⟩
   .rw[getElem?_set_ne (Ne.symm hj)]at e ⊢;exact s.gs.val j b d e
 . by_cases hj:j=i;.subst hj;rw[getElem?_set_self hi]at e;cases r with|val d'=>cases e;cases e'|own es=>cases e;cases e';obtain⟨x,xs,rfl,q2,q3,q4,_⟩:=rr;exact⟨x,_,getElem?_set_self hi',q2,q3,xs,rfl,q4⟩
   .rw[getElem?_set_ne (Ne.symm hj)]at e ⊢;exact s.gs.own j t ds e e'
 . by_cases hj:j=i
   . by_cases hk:k=i;.rw[hj,hk]
     .subst hj;exact absurd ⟨k,old hk h2⟩ (new h1).1
   . by_cases hk:k=i;.subst hk;exact absurd ⟨j,old hj h1⟩ (new h2).1
     .exact s.gs.dis j k a (old hj h1) (old hk h2)
 . by_cases hji:j=i;.subst hji;exact(new hj).2
   .exact s.uJ a ⟨j,old hji hj⟩
 . obtain⟨e1,t1,e2,e3⟩:=s.lk j t e l;have hj:j≠i:=by rintro rfl;rw[h0]at e2;cases e2;rw[e3.ud l]at hl;cases hl
   exact⟨by rw[getElem?_set_ne (Ne.symm hj)];exact e1,t1,by rw[getElem?_set_ne (Ne.symm hj)];exact e2,e3⟩
theorem GS.mut{x:Nat}{b:Bool}{ds es:List D}{a:Addr}{ys:List V}(g:GS K F ρ σ H)(e:ρ[x]?=some (.own b ds))(hx:σ[x]?=some (some (.ref a)))(r:au K F ys es):aq K F ρ σ H F (ρ.set x (.own b es)) σ (upd H a (.lst ys)):=by
 have hi:x<ρ.length:=(List.getElem?_eq_some_iff.mp e).1;have oa:aK ρ σ x a:=⟨⟨_,_,e,rfl⟩,hx⟩;obtain⟨a',xs,h1,h2,h3,h4⟩:=g.pM x _ ds e rfl;rw[hx]at h1;cases h1;have old:∀{j:Nat}{c:Addr},aK (ρ.set x (.own b es)) σ j c->aK ρ σ j c:=fun{j c}⟨⟨t,dt,q1,q2⟩,q3⟩=>by
  by_cases hj:j=x;.subst hj;exact⟨⟨_,_,e,rfl⟩,q3⟩
  .rw[getElem?_set_ne (Ne.symm hj)]at q1;exact⟨⟨t,dt,q1,q2⟩,q3⟩
 refine⟨⟨fun c o q=>?_,by simp[g.len],fun j b' d q=>?_,fun j t dt q q'=>?_,fun j k c q1 q2=>g.dis j k c (old q1) (old q2)⟩,.refl _,fun c n n'=>absurd n n',fun c o q n=>?_,fun c⟨j,q⟩=>.inl ⟨j,old q⟩,by simp,fun j t q l=>⟨rfl,?_⟩⟩
 . have:c≠a:=by rintro rfl;rw[h3]at q;cases q
   rw[ao this];exact g.sub c o q
 . by_cases hj:j=x;.subst hj;rw[getElem?_set_self hi]at q;cases q
   .rw[getElem?_set_ne (Ne.symm hj)]at q;exact g.val j b' d q
 . by_cases hj:j=x;.subst hj;rw[getElem?_set_self hi]at q;cases q;cases q';exact⟨a,_,hx,aH,h3,ys,rfl,r⟩
   . rw[getElem?_set_ne (Ne.symm hj)]at q;obtain⟨c,zs,w1,w2,w3,w4⟩:=g.own j t dt q q';have:c≠a:=by rintro rfl;exact hj (g.dis j x c ⟨⟨t,dt,q,q'⟩,w1⟩ oa)
     exact⟨c,zs,w1,by rw[ao this];exact w2,w3,w4⟩
 . have:c≠a:=by rintro rfl;exact n ⟨x,oa⟩
   rw[ao this];exact q
 . by_cases hj:j=x;.subst hj;rw[e]at q;cases q;refine⟨_,getElem?_set_self hi,?_⟩;cases b with|true=>exact .inl ⟨_,rfl⟩|false=>cases l
   .exact⟨t,by rw[getElem?_set_ne (Ne.symm hj)];exact q,.refl t⟩
theorem GS.lend{i:Nat}{b:Bool}{ds:List D}(g:GS K F ρ σ H)(e:ρ[i]?=some (.own b ds)):GS K F (ρ.set i (.lent ds)) σ H:=by
 have hi:i<ρ.length:=(List.getElem?_eq_some_iff.mp e).1;have old:∀{j:Nat}{c:Addr},aK (ρ.set i (.lent ds)) σ j c->aK ρ σ j c:=fun{j c}⟨⟨t,dt,q1,q2⟩,q3⟩=>by
  by_cases hj:j=i;.subst hj;exact⟨⟨_,_,e,rfl⟩,q3⟩
  .rw[getElem?_set_ne (Ne.symm hj)]at q1;exact⟨⟨t,dt,q1,q2⟩,q3⟩
 refine⟨g.sub,by simp[g.len],fun j b' d q=>?_,fun j t dt q q'=>?_,fun j k c q1 q2=>g.dis j k c (old q1) (old q2)⟩
 . by_cases hj:j=i;.subst hj;rw[getElem?_set_self hi]at q;cases q
   .rw[getElem?_set_ne (Ne.symm hj)]at q;exact g.val j b' d q
 . by_cases hj:j=i;.subst hj;rw[getElem?_set_self hi]at q;cases q;cases q';exact g.own j _ _ e rfl
   .rw[getElem?_set_ne (Ne.symm hj)]at q;exact g.own j t dt q q'
theorem aq.aQ{i:Nat}{b:Bool}{ds:List D}(g:GS K F ρ σ H)(e:ρ[i]?=some (.own b ds))(s:aq K F (ρ.set i (.lent ds)) σ H F1 ρ1 σ1 H1):aq K F ρ σ H F1 (ρ1.set i (.own b ds)) σ1 H1/\∀v r,bM K F1 ρ1 σ1 H1 (ρ.set i (.lent ds)) σ H v r->bM K F1 (ρ1.set i (.own b ds)) σ1 H1 ρ σ H v r:=by
 have hi:i<ρ.length:=(List.getElem?_eq_some_iff.mp e).1;have h1:(ρ.set i (.lent ds))[i]?=some (.lent ds):=getElem?_set_self hi;obtain⟨z1,s',z2,z3⟩:=s.lk i _ h1 rfl;cases(show s'=.lent ds from z3);have hi1:i<ρ1.length:=(List.getElem?_eq_some_iff.mp z2).1;have o1:∀{j:Nat}{c:Addr},aK (ρ.set i (.lent ds)) σ j c->aK ρ σ j c:=fun{j c}⟨⟨t,dt,q1,q2⟩,q3⟩=>by
  by_cases hj:j=i;.subst hj;exact⟨⟨_,_,e,rfl⟩,q3⟩
  .rw[getElem?_set_ne (Ne.symm hj)]at q1;exact⟨⟨t,dt,q1,q2⟩,q3⟩
 have o1':∀{c:Addr},Own ρ σ c->Own (ρ.set i (.lent ds)) σ c:=fun{c}⟨j,⟨t,dt,q1,q2⟩,q3⟩=>by
  by_cases hj:j=i;.subst hj;exact⟨j,⟨_,_,h1,rfl⟩,q3⟩
  .exact⟨j,⟨t,dt,by rw[getElem?_set_ne (Ne.symm hj)];exact q1,q2⟩,q3⟩
 have o2:∀{j:Nat}{c:Addr},aK (ρ1.set i (.own b ds)) σ1 j c->aK ρ1 σ1 j c:=fun{j c}⟨⟨t,dt,q1,q2⟩,q3⟩=>by
  by_cases hj:j=i;.subst hj;exact⟨⟨_,_,z2,rfl⟩,q3⟩
  .rw[getElem?_set_ne (Ne.symm hj)]at q1;exact⟨⟨t,dt,q1,q2⟩,q3⟩
 have w:∀{c:Addr}{h:Hp},Own (ρ.set i (.lent ds)) σ c\/h c=none->Own ρ σ c\/h c=none:=fun{c h}q=>q.imp (fun⟨j,q⟩=>⟨j,o1 q⟩) id;have w':∀{c:Addr}{h:Hp},Own (ρ.set i (.lent ds)) σ c\/nt (h c)=none->Own ρ σ c\/nt (h c)=none:=fun{c h}q=>q.imp (fun⟨j,q⟩=>⟨j,o1 q⟩) id;refine⟨⟨⟨s.gs.sub,by simp[s.gs.len],fun j b' d q=>?_,fun j t dt q q'=>?_,fun j k c q1 q2=>s.gs.dis j k c (o2 q1) (o2 q2)⟩,s.bZ,fun c n n'=>w' (s.wR c n n'),fun c o q n=>s.keep c o q fun⟨j,x⟩=>n ⟨j,o1 x⟩,fun c⟨j,q⟩=>w (s.uJ c ⟨j,o2 q⟩),by simpa using s.len,fun j t q l=>?_⟩,fun v r h=>?_⟩
 . by_cases hj:j=i;.subst hj;rw[getElem?_set_self hi1]at q;cases q
   .rw[getElem?_set_ne (Ne.symm hj)]at q;exact s.gs.val j b' d q
 . by_cases hj:j=i;.subst hj;rw[getElem?_set_self hi1]at q;cases q;cases q';exact s.gs.own j _ _ z2 rfl
   .rw[getElem?_set_ne (Ne.symm hj)]at q;exact s.gs.own j t dt q q'
 . by_cases hj:j=i;.subst hj;rw[e]at q;cases q;refine⟨z1,_,getElem?_set_self hi1,?_⟩;cases b with|true=>exact .inl ⟨_,rfl⟩|false=>cases l
   .obtain⟨y1,t',y2,y3⟩:=s.lk j t (by rw[getElem?_set_ne (Ne.symm hj)];exact q) l;exact⟨y1,t',by rw[getElem?_set_ne (Ne.symm hj)];exact y2,y3⟩
 .cases r with|val d=>exact h|own es=>obtain⟨x,xs,q1,q2,q3,q4,q5,q6⟩:=h;exact⟨x,xs,q1,q2,q3,q4,fun⟨j,q⟩=>q5 ⟨j,o2 q⟩,w q6⟩
theorem GS.give{i:Nat}{ds:List D}(g:GS K F ρ σ H)(e:ρ[i]?=some (.own false ds)):∃v,σ[i]?=some (some v)/\aq K F ρ σ H F (ρ.set i .aP) σ H/\bM K F (ρ.set i .aP) σ H ρ σ H v (.own ds):=by
 have hi:i<ρ.length:=(List.getElem?_eq_some_iff.mp e).1;obtain⟨a,xs,h1,h2,h3,h4⟩:=g.pM i _ ds e rfl;have old:∀{j:Nat}{c:Addr},aK (ρ.set i .aP) σ j c->aK ρ σ j c/\j≠i:=fun{j c}⟨⟨t,dt,q1,q2⟩,q3⟩=>by
  by_cases hj:j=i;.subst hj;rw[getElem?_set_self hi]at q1;cases q1;cases q2
  .rw[getElem?_set_ne (Ne.symm hj)]at q1;exact⟨⟨⟨t,dt,q1,q2⟩,q3⟩,hj⟩
 have oa:aK ρ σ i a:=⟨⟨_,_,e,rfl⟩,h1⟩;refine⟨.ref a,h1,⟨⟨g.sub,by simp[g.len],fun j b' d q=>?_,fun j t dt q q'=>?_,fun j k c q1 q2=>g.dis j k c (old q1).1 (old q2).1⟩,.refl _,fun c n n'=>absurd n n',fun _ _ q _=>q,fun c⟨j,q⟩=>.inl ⟨j,(old q).1⟩,by simp,fun j t q l=>⟨rfl,?_⟩⟩,a,xs,rfl,h2,h3,h4,fun⟨j,q⟩=>?_,.inl ⟨i,oa⟩⟩
 . by_cases hj:j=i;.subst hj;rw[getElem?_set_self hi]at q;cases q
   .rw[getElem?_set_ne (Ne.symm hj)]at q;exact g.val j b' d q
 . by_cases hj:j=i;.subst hj;rw[getElem?_set_self hi]at q;cases q;cases q'
   .rw[getElem?_set_ne (Ne.symm hj)]at q;exact g.own j t dt q q'
 . by_cases hj:j=i;.subst hj;rw[e]at q;cases q;cases l
   .exact⟨t,by rw[getElem?_set_ne (Ne.symm hj)];exact q,.refl t⟩
 .exact(old q).2 (g.dis j i a (old q).1 oa)
theorem GS.more{n:Nat}{τ:List (Option V)}(g:GS K F ρ σ H)(hn:τ.length=n):GS K F (ρ++replicate n .aP) (σ++τ) H:=by
 have get:∀{j:Nat}{t:Sl},(ρ++replicate n Sl.aP)[j]?=some t->t≠.aP->ρ[j]?=some t/\j<ρ.length:=fun{j t}q ne=>by
  by_cases hj:j<ρ.length;.rw[getElem?_append_left hj]at q;exact⟨q,hj⟩
  . rw[getElem?_append_right (by omega),List.getElem?_replicate]at q;split at q;.cases q;exact absurd rfl ne
    .cases q
 have up:∀{j:Nat}{v:Option V},j<ρ.length->(σ[j]?=some v↔(σ++τ)[j]?=some v):=fun{j v}hj=>by rw[getElem?_append_left (by rw[<-g.len];exact hj)]
 have old:∀{j:Nat}{c:Addr},aK (ρ++replicate n .aP) (σ++τ) j c->aK ρ σ j c:=fun{j c}⟨⟨t,dt,q1,q2⟩,q3⟩=>by obtain⟨h1,h2⟩:=get q1 (by rintro rfl;cases q2);exact⟨⟨t,dt,h1,q2⟩,(up h2).mpr q3⟩
 refine⟨g.sub,by simp[g.len,hn],fun j b d q=>?_,fun j t dt q q'=>?_,fun j k c q1 q2=>g.dis j k c (old q1) (old q2)⟩;.obtain⟨h1,h2⟩:=get q (by simp);obtain⟨v,e1,e2⟩:=g.val j b d h1;exact⟨v,(up h2).mp e1,e2⟩
 .obtain⟨h1,h2⟩:=get q (by rintro rfl;cases q');obtain⟨a,xs,e1,e2⟩:=g.own j t dt h1 q';exact⟨a,xs,(up h2).mp e1,e2⟩
theorem aq.less{n:Nat}{τ:List (Option V)}{m:Nat}(hm:m=ρ.length)(g:GS K F ρ σ H)(hn:τ.length=n)(s:aq K F (ρ++replicate n .aP) (σ++τ) H F1 ρ1 σ1 H1):aq K F ρ σ H F1 (ρ1.take m) (σ1.take m) H1/\∀v r,bM K F1 ρ1 σ1 H1 (ρ++replicate n .aP) (σ++τ) H v r->bM K F1 (ρ1.take m) (σ1.take m) H1 ρ σ H v r:=by
 subst hm;have l1:ρ.length<=ρ1.length:=by rw[s.len];simp
 have l2:ρ.length<=σ1.length:=by rw[<-s.gs.len];exact l1
 have tk:∀{α:Type}{l:List α}{j:Nat}{x:α},(l.take ρ.length)[j]?=some x->l[j]?=some x/\j<ρ.length:=fun{α l j x}q=>by
  rw[getElem?_take]at q;split at q;.exact⟨q,by assumption⟩
  .cases q
 have kt:∀{α:Type}{l:List α}{j:Nat}{x:α},j<ρ.length->l[j]?=some x->(l.take ρ.length)[j]?=some x:=fun{α l j x}hj q=>by rw[getElem?_take,if_pos hj];exact q
 have oN:∀{c:Addr},Own (ρ++replicate n .aP) (σ++τ) c->Own ρ σ c:=fun{c}⟨j,⟨t,dt,q1,q2⟩,q3⟩=>by
  by_cases hj:j<ρ.length;.rw[getElem?_append_left hj]at q1;rw[getElem?_append_left (by rw[<-g.len];exact hj)]at q3;exact⟨j,⟨t,dt,q1,q2⟩,q3⟩
  . rw[getElem?_append_right (by omega),List.getElem?_replicate]at q1;split at q1;.cases q1;cases q2
    .cases q1
 have oN':∀{c:Addr},Own ρ σ c->Own (ρ++replicate n .aP) (σ++τ) c:=fun{c}⟨j,⟨t,dt,q1,q2⟩,q3⟩=>by have hj:j<ρ.length:=(List.getElem?_eq_some_iff.mp q1).1;exact⟨j,⟨t,dt,by rw[getElem?_append_left hj];exact q1,q2⟩,by rw[getElem?_append_left (by rw[<-g.len];exact hj)];exact q3⟩
 have o1:∀{j:Nat}{c:Addr},aK (ρ1.take ρ.length) (σ1.take ρ.length) j c->aK ρ1 σ1 j c:=fun{j c}⟨⟨t,dt,q1,q2⟩,q3⟩=>⟨⟨t,dt,(tk q1).1,q2⟩,(tk q3).1⟩;have w:∀{c:Addr}{h:Hp},Own (ρ++replicate n .aP) (σ++τ) c\/h c=none->Own ρ σ c\/h c=none:=fun{c h}q=>q.imp oN id;have w':∀{c:Addr}{h:Hp},Own (ρ++replicate n .aP) (σ++τ) c\/nt (h c)=none->Own ρ σ c\/nt (h c)=none:=fun{c h}q=>q.imp oN id;refine⟨⟨⟨s.gs.sub,by simp only[length_take];omega,fun j b d q=>?_,fun j t dt q q'=>?_,fun j k c q1 q2=>s.gs.dis j k c (o1 q1) (o1 q2)⟩,s.bZ,fun c a b=>w' (s.wR c a b),fun c o q n=>s.keep c o q fun x=>n (oN x),fun c⟨j,q⟩=>w (s.uJ c ⟨j,o1 q⟩),by simp only[length_take];omega,fun j t q l=>?_⟩,fun v r h=>?_⟩;.obtain⟨h1,h2⟩:=tk q;obtain⟨v,e1,e2⟩:=s.gs.val j b d h1;exact⟨v,kt h2 e1,e2⟩
 .obtain⟨h1,h2⟩:=tk q;obtain⟨a,xs,e1,e2⟩:=s.gs.own j t dt h1 q';exact⟨a,xs,kt h2 e1,e2⟩
 .have hj:j<ρ.length:=(List.getElem?_eq_some_iff.mp q).1;obtain⟨y1,t',y2,y3⟩:=s.lk j t (by rw[getElem?_append_left hj];exact q) l;rw[getElem?_append_left (by rw[<-g.len];exact hj)]at y1;refine⟨?_,t',kt hj y2,y3⟩;rw[getElem?_take,if_pos hj];exact y1
 .cases r with|val d=>exact h|own es=>obtain⟨x,xs,q1,q2,q3,q4,q5,q6⟩:=h;exact⟨x,xs,q1,q2,q3,q4,fun⟨j,q⟩=>q5 ⟨j,o1 q⟩,w q6⟩
end
section
variable{X:Cx}{c:Call}{n:Nat}{e a b d:Expr}{p pa pb pd:P}{pos:Pos}{es:List Expr}{ps:List P}
inductive abk(K:PySem.W.Frag)(f:List Sl->Res (List Arg))(σ:L2.St)(H:Hp)(Q:List V->Hp->Prop):Prop where|mk(F:Hp)(ρ:List Sl)(as:List Arg)(ρ':List Sl)(g:GS K F ρ σ H)(e:f ρ=.ok as ρ')(k:∀vs F' H',aq K F ρ σ H F' ρ' σ H'->uW K F' ρ' σ H' ρ H as vs->Q vs H')
def SG(X:Cx)(c:Call)(es:List Expr)(ps:List P):Prop:=PA X es (abk X.K (xg c ps))
theorem aJ:SG X c [] []:=wH cL fun σ H Q⟨F,ρ,as,ρ',g,e,k⟩=>by rw[xg]at e;cases e;exact k [] F H (.refl g) .nil
theorem Kh(ha:SX X c a pa)(hr:SG X c es ps)(hs:starEach (a::es) X.env=(false,eval a X.env)::starEach es X.env:=by rfl):SG X c (a::es) (pa::ps):=by cases hv:isVar pa with|none=>refine wH (bA ha.ev hr hs) ?_;rintro σ H Q⟨F,ρ,as,ρ',g,e,k⟩;rw[xg,hv]at e;obtain⟨r,ρ1,e1,e⟩:=aa e;obtain⟨xs,ρ2,e2,e⟩:=aa e;cases e;refine⟨F,ρ,r,ρ1,g,e1,fun v F1 H1 s1 rr=>⟨F1,ρ1,xs,_,s1.gs,e2,fun vs F2 H2 s2 A=>k _ F2 H2 (s1.trans s2) (uW.V8 s1 rr s2 A)⟩⟩|some i=>refine wH (bA (ha.var i hv) hr hs) ?_;rintro σ H Q⟨F,ρ,as,ρ',g,e,k⟩;rw[xg,hv]at e;obtain⟨x0,ρ0,e0,e⟩:=aa e;obtain⟨e00,CV⟩:=aA e0;subst CV;obtain⟨xs,ρ2,e2,e⟩:=aa e;cases e;obtain⟨v,h1,_⟩:=g.pk e00;exact⟨v,h1,F,ρ,xs,_,g,e2,fun vs F2 H2 s2 A=>k _ F2 H2 s2 (.cons h1 A fun ds x z=>by cases z)⟩
theorem Kz{k f:Nat}{fa:Addr}{fd:FuncData}{qs:List Str}{x:Str}{p':Pos}(Fn:cj X.prog X.w X.K X.mg X.base jr k fa fd qs (jG X.K qs.length (c f)))(hr:iC k X.A)(hg:Gl X x)(hm:X.mg x=some (.ref fa))(hk:keepIn X.K (.ref fa)=true)(hb:Binds X.K fd qs [])(ha:SG X c (e::es) ps)(hl:(e::es).length=qs.length)(hdb:(x==("__debug__":Str))=false:=by decide)(he:starEach (e::es) X.env=(false,eval e X.env)::starEach es X.env:=by rfl)(hpl:(backTo pos (starEach es X.env)).any (·.1)=false:=by rfl)(hl2:ps.length=(e::es).length:=by rfl):SX X c (.Call (.Name x p') (e::es) [] pos) (.call f ps):=by
 refine⟨cT (JS (E:=E0) Fn hr hg hm hk hb .nil V6 ha hdb he hpl) ?_,fun i h=>by cases h⟩;rintro σ H Q⟨F,ρ,r,ρ',g,e,k⟩;rw[HH.E14]at e;obtain⟨as,ρ1,e1,e⟩:=aa e;unfold jT at e;split at e;.cases e
 . rename_i args hb';split at e
   . rename_i r' args' hc;cases e;refine⟨F,ρ,as,ρ1,g,e1,fun vs F1 H1 s1 A=>?_⟩;have hlen:vs.length=qs.length:=by
      have:∀{ps:List P}{ρ ρ':List Sl}{as:List Arg},xg c ps ρ=.ok as ρ'->as.length=ps.length:=by intro ps;induction ps with|nil=>intro ρ ρ' as h;rw[xg]at h;cases h;rfl|cons q qs ih=>
         intro ρ ρ' as h;rw[xg]at h;split at h;.obtain⟨_,_,_,h⟩:=aa h;obtain⟨xs,ρ2,h2,h⟩:=aa h;cases h;simp[ih h2]
         .obtain⟨_,_,_,h⟩:=aa h;obtain⟨xs,ρ2,h2,h⟩:=aa h;cases h;simp[ih h2]
      rw[<-A.len,this e1,hl2,hl]
     show jG X.K qs.length (c f) (vs++[]) H1 Q E0;rw[append_nil];refine⟨hlen,F1,args,r,args',args_gs s1.gs A hb',hc,fun v F' σ' H' s rr=>?_⟩;obtain⟨z1,z2⟩:=Dk s1 A hb' s;exact k v F' H' z1 (z2 v r rr)
   .cases e
   .cases e
def G7(K:PySem.W.Frag)(D:Ends)(F':Hp)(ρ':List Sl)(σ':L2.St)(H':Hp)(ρ:List Sl)(σ:L2.St)(H:Hp)(fl:Fl):Prop:=match fl with|.next=>D.nx σ' H'|.brk=>D.bk σ' H'|.cont=>D.ct σ' H'|.ret r=>∀v,bM K F' ρ' σ' H' ρ σ H v r->D.rt v H'
inductive Zc(K:PySem.W.Frag)(f:List Sl->Res Fl)(D:Ends)(σ:L2.St)(H:Hp):Prop where|mk(F:Hp)(ρ:List Sl)(fl:Fl)(ρ':List Sl)(g:GS K F ρ σ H)(e:f ρ=.ok fl ρ')(k:∀F' σ' H',aq K F ρ σ H F' ρ' σ' H'->G7 K D F' ρ' σ' H' ρ σ H fl)
def SS(X:Cx)(c:Call)(n:Nat)(st:Stmt)(s:S):Prop:=PS X st (Zc X.K (ex c n s))
def SB(X:Cx)(c:Call)(n:Nat)(st:List Stmt)(s:List S):Prop:=wD X st (Zc X.K (eX c n s))
theorem cV{st:Stmt}{t t':TS}(h:PS X st t)(i:∀D σ H,t' D σ H->t D σ H):PS X st t':=fun pins s σ H D I q=>h pins s σ H D I (i D σ H q)
theorem lH{st:List Stmt}{t t':TS}(h:wD X st t)(i:∀D σ H,t' D σ H->t D σ H):wD X st t':=fun pins s σ H D I q=>h pins s σ H D I (i D σ H q)
theorem aF:SB X c n [] []:=lH zx fun D σ H⟨F,ρ,fl,ρ',g,e,k⟩=>by rw[eX]at e;cases e;exact k F σ H (.refl g)
theorem aY{st:Stmt}{s:S}{sts:List Stmt}{ss:List S}(h1:SS X c n st s)(h2:SB X c n sts ss):SB X c n (st::sts) (s::ss):=by refine lH (j7 h1 h2) ?_;rintro D σ H⟨F,ρ,fl,ρ',g,e,k⟩;rw[eX]at e;obtain⟨f1,ρ1,e1,e⟩:=aa e;cases f1 with
 |next=>refine⟨F,ρ,.next,ρ1,g,e1,fun F1 σ1 H1 s1=>⟨F1,ρ1,fl,ρ',s1.gs,e,fun F2 σ2 H2 s2=>?_⟩⟩;have q:=k F2 σ2 H2 (s1.trans s2);cases fl with|next=>exact q|brk=>exact q|cont=>exact q|ret r=>exact fun v rr=>q v (rr.later s1)
 |brk=>cases e;exact⟨F,ρ,.brk,_,g,e1,k⟩|cont=>cases e;exact⟨F,ρ,.cont,_,g,e1,k⟩|ret r=>cases e;exact⟨F,ρ,.ret r,_,g,e1,k⟩
theorem Vg{t1 t2:TE}(h1:PE X e t1)(h2:PE X e t2):PE X e (fun σ H Q=>t1 σ H Q\/t2 σ H Q):=fun pins s σ H Q I h=>h.elim (h1 pins s σ H Q I) (h2 pins s σ H Q I)
theorem Qq(he:SX X c e p):SS X c n (.Return (some e) pos) (.ret p):=by
 have plain:∀(D:Ends)(σ:L2.St)(H:Hp),(∃F ρ fl ρ',GS X.K F ρ σ H/\((HH.ev c p ρ).bind fun r ρ=>.ok (Fl.ret r) ρ)=.ok fl ρ'/\∀F' σ' H',aq X.K F ρ σ H F' ρ' σ' H'->(match fl with|.next=>D.nx σ' H'|.brk=>D.bk σ' H'|.cont=>D.ct σ' H'|.ret r=>∀v,bM X.K F' ρ' σ' H' ρ σ H v r->D.rt v H'))->xf X.K (HH.ev c p) σ H D.rt:=fun D σ H⟨F,ρ,fl,ρ',g,e,k⟩=>by obtain⟨r,ρ1,e1,e⟩:=aa e;cases e;exact⟨F,ρ,r,_,g,e1,fun v F1 H1 s1 rr=>k F1 σ H1 s1 v rr⟩
 cases hv:isVar p with|none=>refine cV (Dw he.ev) fun D σ H⟨F,ρ,fl,ρ',g,e,k⟩=>plain D σ H ⟨F,ρ,fl,ρ',g,?_,k⟩;rw[HH.Zu,hv]at e;exact e|some i=>--by the name itself:its own list is handed back,else its data
   have hp:p=.var i:=by cases p<;>cases hv;rfl
   subst hp;refine cV (Dw (Vg (he.var i hv) he.ev)) ?_;rintro D σ H⟨F,ρ,fl,ρ',g,e,k⟩;rw[HH.Zu,hv]at e;dsimp only at e;split at e;.rename_i ds q;cases e;obtain⟨v,h1,h2,h3⟩:=g.give q;exact .inl ⟨v,h1,k F σ H h2 v h3⟩
   .exact .inr (plain D σ H ⟨F,ρ,fl,ρ',g,e,k⟩)
theorem rM{sa sb:List Stmt}{ta tb:List S}(hc:ST X c e p)(ha:SB X c n sa ta)(hb:SB X c n sb tb):SS X c n (.If e sa sb pos) (.ifs p ta tb):=by refine cV (Mh hc ha hb) ?_;rintro D σ H⟨F,ρ,fl,ρ',g,e,k⟩;rw[HH.YJ]at e;obtain⟨x,ρ1,e1,e⟩:=aa e;refine⟨F,ρ,x,ρ1,g,e1,fun F1 H1 s1=>?_⟩;have go:∀{f:List Sl->Res Fl},f ρ1=.ok fl ρ'->Zc X.K f D σ H1:=fun{f}h=>⟨F1,ρ1,fl,ρ',s1.gs,h,fun F2 σ2 H2 s2=>by have q:=k F2 σ2 H2 (s1.trans s2);cases fl with|next=>exact q|brk=>exact q|cont=>exact q|ret r=>exact fun v rr=>q v (rr.later s1)⟩;cases x with|true=>rw[if_pos rfl]at e;exact go e|false=>rw[if_neg Bool.false_ne_true]at e;exact go e
theorem rR{i:Nat}{x:Str}{pos':Pos}(hN:X.N.Nodup)(hi:X.N[i]?=some x)(hx:Loc X.env.scope x)(he:SX X c e p)(hs:swapsWith e (some (.Name x pos')) pos.line X.env=pure false:=by rfl)(hf:X.fn x=true\/X.env.scope.names.lookup x=some .local:=by first|exact .inl rfl|exact .inr rfl|assumption):SS X c n (.Assign [.Name x pos'] e pos) (.asg i p):=by refine cV (xN hN hi hx he.ev hs hf) ?_;rintro D σ H⟨F,ρ,fl,ρ',g,e,k⟩;rw[HH.X6]at e;obtain⟨r,ρ1,e1,e⟩:=aa e;obtain⟨ρ2,ρ3,e2,e⟩:=aa e;cases e;have zz:=aA e2;clear e2;obtain⟨e2,e3⟩:=zz;exact⟨F,ρ,r,ρ1,g,e1,fun v F1 H1 s1 rr=>k F1 _ H1 (s1.put rr e2)⟩
end
end HH
end
section
namespace L2
open PySem PySem.Spec PyProof.Rows
noncomputable def uP(X:Cx)(scope:Scope)(N':List Str)(cl:List (Str×Addr))(C:Addr)(s₀:Shared)(H₀:Hp)(ex:List Addr):Cx:={X with N:=N',s₀:=s₀,H₀:=H₀,env:=compEnvC scope cl C X.env,outer:=X.stack,stack:=X.stack,ex:=ex,fn:=fun x=>scope.names.lookup x==some .cell,pn:=[],xe:=fun _ _=>False}
theorem xn{env:Env}(l:List (Str×NameKind)):∀(cs:List (Str×Addr)),(∀n,(n,NameKind.free)∈l->∃c,env.cells.lookup n=some c)->(∀n c,cs.lookup n=some c->env.cells.lookup n=some c)->∃ cl,(forIn l cs (fun(x:Str × NameKind)(r:List (Str × Addr))=>(if(x.2==NameKind.free)=true then(do let a<-cellOf env x.1;pure (ForInStep.yield ((x.1,a)::r)))else pure (ForInStep.yield r):Sem (ForInStep (List (Str × Addr))))):Sem (List (Str × Addr)))=pure cl/\(∀n c,cl.lookup n=some c->env.cells.lookup n=some c)/\(∀n,((n,NameKind.free)∈l\/(cs.lookup n).isSome)->(cl.lookup n).isSome):=by induction l with|nil=>intro cs _ h;exact⟨cs,rfl,h,fun n hn=>by rcases hn with hn|hn;cases hn;exact hn⟩|cons y l ih=>
   obtain⟨n,k⟩:=y;intro cs hl hc;rw[List.forIn_cons];by_cases hk:k=.free
   . subst hk;obtain⟨a,ha⟩:=hl n mem_cons_self;obtain⟨cl,e,h1,h2⟩:=ih ((n,a)::cs) (fun m hm=>hl m (mem_cons_of_mem _ hm)) fun m c hm=>by
      rw[lookup_cons]at hm;split at hm;.rename_i q;have q:=eq_of_beq q;subst q;cases hm;exact ha
      .exact hc m c hm
     refine⟨cl,?_,h1,fun m hm=>h2 m ?_⟩
     . rw[<-e];have:cellOf env n=pure a:=by unfold cellOf;rw[ha]
       simp only[beq_self_eq_true,if_true,this];rfl
     . rcases hm with hm|hm
       . rcases mem_cons.mp hm with hm|hm;.cases hm;right;simp[lookup_cons]
         .exact .inl hm
       . right;rw[lookup_cons];split;.rfl
         .exact hm
   . obtain⟨cl,e,h1,h2⟩:=ih cs (fun m hm=>hl m (mem_cons_of_mem _ hm)) hc;refine⟨cl,?_,h1,fun m hm=>h2 m ?_⟩
     . rw[<-e];have:(k==NameKind.free)=false:=by simpa using hk
       simp only[this,false_eq_true,if_false];rfl
     . rcases hm with hm|hm
       . rcases mem_cons.mp hm with hm|hm;.cases hm;exact absurd rfl hk
         .exact .inl hm
       .exact .inr hm
theorem xV{env:Env}{scope:Scope}(hl:∀n,(n,NameKind.free)∈scope.names->∃c,env.cells.lookup n=some c):∃cl,closureFor scope env=pure cl/\(∀n c,cl.lookup n=some c->env.cells.lookup n=some c)/\∀n,(n,NameKind.free)∈scope.names->(cl.lookup n).isSome:=by obtain⟨cl,e,h1,h2⟩:=xn (env:=env) scope.names [] hl (by simp);refine⟨cl,?_,h1,fun n hn=>h2 n (.inl hn)⟩;unfold closureFor;exact(congrArg (fun t=>t>>=fun r=>pure r) e).trans rfl
theorem cQ{env:Env}:∀(names:List (Str×NameKind))(x:Str),(names.map fun(n,k)=>if(k==NameKind.free&&env.scope.kind==.function&&env.kindOf n==some .cell)then(n,NameKind.cell)else(n,k)).lookup x=(names.lookup x).map fun k=>if(k==NameKind.free&&env.scope.kind==.function&&env.kindOf x==some .cell)=true then NameKind.cell else k
 |[],x=>rfl|(n,k)::r,x=>by
   have ih:=cQ (env:=env) r x;show List.lookup x ((if(k==NameKind.free&&env.scope.kind==.function&&env.kindOf n==some .cell)=true then(n,NameKind.cell)else(n,k))::_)=_;by_cases hc:(k==NameKind.free&&env.scope.kind==.function&&env.kindOf n==some .cell)=true;.rw[if_pos hc,lookup_cons,lookup_cons];cases hx:x==n with|true=>have:=eq_of_beq hx;subst this;show some NameKind.cell=some (if _ then _ else _);rw[if_pos hc]|false=>exact ih
   .rw[if_neg hc,lookup_cons,lookup_cons];cases hx:x==n with|true=>have:=eq_of_beq hx;subst this;show some k=some (if _ then _ else _);rw[if_neg hc]|false=>exact ih
noncomputable def W3(N N':List Str)(sc:Scope):Bool:=(N.zip N').all fun p=>(p.1==p.2&&sc.names.lookup p.2==some .free)||(sc.names.lookup p.2!=some .local&&sc.names.lookup p.2!=some .cell&&sc.names.lookup p.2!=some .free)
structure dZ(X:Cx)(scope:Scope)(N':List Str)(n:Nat):Prop where
 kind:scope.kind=.function
 cons:∀y∈scope.names,scope.names.lookup y.1=some y.2
 names:∀y∈scope.names,y.2=.local->scope.names.lookup y.1=some .local
 cap:∀y∈scope.names,y.2=.free->X.env.scope.names.lookup y.1=some .cell\/X.env.scope.names.lookup y.1=some .free
 len:N'.length=X.N.length+n
 same:W3 X.N N' scope=true
theorem dZ.get{X:Cx}{scope:Scope}{N':List Str}{n:Nat}(c:dZ X scope N' n){i:Nat}{x:Str}(hi:i<X.N.length)(h:N'[i]?=some x)(hv:uY (relabel scope X.env) x):X.N[i]?=some x/\scope.names.lookup x=some .free:=by
 have hz:(X.N.zip N')[i]?=some (X.N[i],x):=by rw[List.getElem?_zip_eq_some];exact⟨by simp[hi],h⟩
 have:=(all_eq_true.mp c.same) _ (mem_of_getElem? hz);simp only[or_eq_true,and_eq_true]at this;rcases this with⟨h1,h2⟩|⟨⟨h1,h2⟩,h3⟩;.have h1:=eq_of_beq h1;have h2:=eq_of_beq h2;exact⟨by simp[hi,h1],h2⟩
 . exfalso;have h1:scope.names.lookup x≠some .local:=by simpa using h1
   have h2:scope.names.lookup x≠some .cell:=by simpa using h2
   have h3:scope.names.lookup x≠some .free:=by simpa using h3
   have e:=cQ (env:=X.env) scope.names x;have hv:(relabel scope X.env).names.lookup x=some .local\/(relabel scope X.env).names.lookup x=some .cell\/(relabel scope X.env).names.lookup x=some .free:=hv;rw[show(relabel scope X.env).names.lookup x=_ from e]at hv;cases q:scope.names.lookup x with|none=>rw[q]at hv;simp at hv|some k=>
     rw[q]at hv h1 h2 h3;have hk:(k==NameKind.free)=false:=by cases k<;>first|rfl|exact absurd rfl h3
     simp only[Option.map_some,hk,Bool.false_and,false_eq_true,if_false,Option.some.injEq]at hv;rcases hv with rfl|rfl|rfl;.exact h1 rfl
     .exact h2 rfl
     .exact h3 rfl
structure CI(cl:List (Str×Addr))(z:Nat)(h:Heap)(acc:List (Str×Addr)):Prop where from':∀n c,acc.lookup n=some c->cl.lookup n=some c\/(z<=c/\h.IsCell c none)inj:∀n n' c,acc.lookup n=some c->acc.lookup n'=some c->n=n'
theorem Gy{cl:List (Str×Addr)}{z:Nat}(hcl:∀n c,cl.lookup n=some c->c<z):∀(names:List (Str×NameKind))(h:Heap)(acc:List (Str×Addr)),z<=h.objs.size->CI cl z h acc->CI cl z (pushCells h names) (cellsFrom h.objs.size names acc)/\(∀n,(acc.lookup n).isSome->((cellsFrom h.objs.size names acc).lookup n).isSome)/\(∀n,((∃c,acc.lookup n=some c/\z<=c)\/(n,NameKind.cell)∈names)->∃c,(cellsFrom h.objs.size names acc).lookup n=some c/\z<=c)/\(∀n c,(n,NameKind.cell)∉names->(cellsFrom h.objs.size names acc).lookup n=some c->acc.lookup n=some c)
 |[],h,acc,hz,x=>by
   refine⟨x,fun _ q=>q,fun n q=>?_,fun _ _ _ q=>q⟩;rcases q with q|q;.exact q
   .cases q|(name,kind)::r,h,acc,hz,x=>by
   unfold pushCells cellsFrom;by_cases hk:kind=.cell
   . subst hk;rw[if_pos (by rfl),if_pos (by rfl)];have hx:CI cl z (h.push {cls:=.type "cell",data:=.cell none}) ((name,h.objs.size)::acc):=by
      have lt:∀n c,acc.lookup n=some c->c<h.objs.size:=fun n c e=>by
       rcases x.from' n c e with q|q;.exact lt_of_lt_of_le (hcl n c q) hz
       .exact q.2.lt
      refine⟨fun n c e=>?_,fun n n' c e e'=>?_⟩
      . rw[lookup_cons]at e;split at e;.cases e;exact .inr ⟨hz,_,get?_push_size _ rfl,rfl⟩
        . rcases x.from' n c e with q|q;.exact .inl q
          .exact .inr ⟨q.1,q.2.keeps fun b o e=>get?_push_of_some _ e⟩
      . rw[lookup_cons]at e e';split at e<;>split at e';.rename_i _ a _ b;rw[eq_of_beq a,eq_of_beq b]
        .cases e;exact absurd (lt n' _ e') (lt_irrefl _)
        .cases e';exact absurd (lt n _ e) (lt_irrefl _)
        .exact x.inj n n' c e e'
     have ih:=Gy hcl r (h.push {cls:=.type "cell",data:=.cell none}) ((name,h.objs.size)::acc) (by rw[size_push];omega) hx;rw[size_push]at ih;refine⟨ih.1,fun n q=>ih.2.1 n ?_,fun n q=>ih.2.2.1 n ?_,fun n c q e=>?_⟩
     . rw[lookup_cons];split;.rfl
       .exact q
     . rcases q with⟨c,e,hc⟩|q
       . left;rw[lookup_cons];split;.exact⟨_,rfl,hz⟩
         .exact⟨c,e,hc⟩
       . rcases mem_cons.mp q with q|q;.cases q;left;exact⟨_,by simp[lookup_cons],hz⟩
         .exact .inr q
     . have:=ih.2.2.2 n c (fun z=>q (mem_cons_of_mem _ z)) e;rw[lookup_cons]at this;split at this;.rename_i a;exact absurd (by rw[eq_of_beq a];exact mem_cons_self) q
       .exact this
   . have hk':(kind==NameKind.cell)=false:=by simpa using hk
     rw[if_neg (by rw[hk'];decide),if_neg (by rw[hk'];decide)];have ih:=Gy hcl r h acc hz x;refine⟨ih.1,ih.2.1,fun n q=>ih.2.2.1 n ?_,fun n c q e=>ih.2.2.2 n c (fun z=>q (mem_cons_of_mem _ z)) e⟩;rcases q with q|q;.exact .inl q
     . rcases mem_cons.mp q with q|q;.cases q;exact absurd rfl hk
       .exact .inr q
structure Dj(X:Cx)(scope:Scope)(z:Nat)(h:Heap)(cs:List (Str×Addr)):Prop where
 from':∀n c,cs.lookup n=some c->X.env.cells.lookup n=some c\/(z<c/\h.IsCell c none)inj:∀n n' c,cs.lookup n=some c->cs.lookup n'=some c->n=n'
 has:∀n,(scope.names.lookup n=some .free\/scope.names.lookup n=some .cell)->∃c,cs.lookup n=some c
 fre:∀n c,scope.names.lookup n=some .free->cs.lookup n=some c->X.env.cells.lookup n=some c
 own:∀n c,scope.names.lookup n=some .cell->cs.lookup n=some c->z<c
theorem Bw{M:Model}{A:Around}{E:Value->Shared->Prop}{X:Cx}{s:Shared}{scope:Scope}{N':List Str}{n:Nat}{cl:List (Str×Addr)}{Q:Env->Shared->Prop}(ok:dZ X scope N' n)(hlt:∀n c,X.env.cells.lookup n=some c->c<s.heap.objs.size)(hinj:∀x y c,X.env.cells.lookup x=some c->X.env.cells.lookup y=some c->x=y)(hcl:∀n c,cl.lookup n=some c->X.env.cells.lookup n=some c)(yK:∀n,(n,NameKind.free)∈scope.names->(cl.lookup n).isSome)(hQ:∀ cs h',h'.Ns s.heap.objs.size (fun _=>none)->(∀ b o,s.heap.get? b=some o->h'.get? b=some o)->Dj X scope s.heap.objs.size h' cs->Q {scope:=scope,locals:=s.heap.objs.size,globals:=X.env.globals,cells:=cs,qual:=X.env.qual,func:=none,code:=X.env.code,frame:=X.env.frame,builtins:=X.env.builtins} {s with heap:=h'}):wpAny M A (newFunctionEnv scope X.env.globals cl [] X.env.qual none .none (some X.env)) Q E s:=by
 simp only[newFunctionEnv,Option.isSome_some,if_true];refine wpAny_bind (wpAny_alloc ?_);refine wpAny_bind (wpAny_layCells _ (fun name kind cells=>by cases hkc:kind==NameKind.cell<;>simp[hkc]) _ _ _ _ ?_);have ck:=Gy (cl:=cl) (z:=s.heap.objs.size+1) (fun n c e=>lt_succ_of_lt (hlt n c (hcl n c e))) scope.names (s.heap.push {cls:=.type "dict",data:=.dict #[]}) cl (by rw[size_push];exact le_refl _) ⟨fun n c e=>.inl e,fun n n' c e e'=>hinj n n' c (hcl n c e) (hcl n' c e')⟩;obtain⟨c1,c2,c3,c4⟩:=ck;rw[show({s with heap:=s.heap.push {cls:=.type "dict",data:=.dict #[]}}:Shared).heap.objs.size=(s.heap.push {cls:=.type "dict",data:=.dict #[]}).objs.size from rfl];refine wpAny_bind ?_;rw[List.forIn_nil];refine wpAny_pure (wpAny_pure (hQ _ _ ((Heap.Ns.new s.heap (.type "dict")).keeps (pushCells_keeps _ _)) (fun b o e=>pushCells_keeps _ _ b o (get?_push_of_some _ e)) ⟨fun n c e=>?_,c1.inj,fun n q=>?_,fun n c q e=>?_,fun n c q e=>?_⟩))
 . rcases c1.from' n c e with z|z;.exact .inl (hcl n c z)
   .exact .inr ⟨z.1,z.2⟩
 . rcases q with q|q;.exact Option.isSome_iff_exists.mp (c2 n (yK n (PySem.mem_of_lookup q)))
   .obtain⟨c,e,_⟩:=c3 n (.inr (PySem.mem_of_lookup q));exact⟨c,e⟩
 .refine hcl n c (c4 n c (fun z=>?_) e);have:=ok.cons _ z;rw[q]at this;cases this
 .obtain⟨c',e',hc'⟩:=c3 n (.inr (PySem.mem_of_lookup q));rw[e]at e';cases e';exact hc'
section
variable{X:Cx}{pins:List (Addr×Obj)}{σ:L2.St}{H:Hp}{s:Shared}{scope:Scope}{N':List Str}{n:Nat}{fp:List Addr}{cl:List (Str×Addr)}
theorem Fb{h1:Heap}{m:Str->Option Value}{t:Nat}{cs:List (Str×Addr)}(ok:dZ X scope N' n)(I:Inv X pins σ H s)(hf:∀b∈fp,oF X pins H b/\b<s.heap.objs.size)(bc:Dj X scope s.heap.objs.size h1 cs)(hn:h1.Ns s.heap.objs.size m)(old:∀b u,s.heap.get? b=some u->h1.get? b=some u):Inv (uP X scope N' cs s.heap.objs.size s H fp) [] (σ++replicate n none) H {s with heap:=h1,toks:=t}:=by
 have XC:∀x,scope.names.lookup x=some .free->(relabel scope X.env).names.lookup x=some .cell\/(relabel scope X.env).names.lookup x=some .free:=fun x h=>by
  have e:=cQ (env:=X.env) scope.names x;rw[h]at e;have e':(relabel scope X.env).names.lookup x=_:=e;rw[e'];simp only[Option.map_some];split;.exact .inl rfl
  .exact .inr rfl
 refine⟨⟨I.ok.mod,ok.kind,I.ok.glob,I.ok.blt,le_refl _,fun x y c h1 h2=>bc.inj x y c h1 h2,fun x hx=>?_,fun x c h e=>le_of_lt (bc.own x c (eq_of_beq (show(scope.names.lookup x==some NameKind.cell)=true from h)) e),I.ok.hd,I.ok.frames,.inl rfl,fun b hb=>?_,I.bs,le_trans I.ok.M3 I.sz,fun b u e hb=>?_,fun b hb hfs=>?_,I.stack,I.Az⟩,rfl,I.bare,Un.kept old,⟨m,hn,fun i x v e1 e2 hv=>?_⟩,fun x c e=>?_,I.hok.fresh (le_refl _),fun x c e=>?_,fun p hp=>(by cases hp),I.hok.kept old,?_⟩;.--a XD name has its cell
   have hx:(relabel scope X.env).names.lookup x=some .cell\/(relabel scope X.env).names.lookup x=some .free:=hx;have e:=cQ (env:=X.env) scope.names x;have e':(relabel scope X.env).names.lookup x=_:=e;rw[e']at hx;refine bc.has x ?_;cases q:scope.names.lookup x with|none=>rw[q]at hx;simp at hx|some k=>
     rw[q]at hx;by_cases hk:k=.free;.rw[hk];exact .inl rfl
     . have hk':(k==NameKind.free)=false:=by simpa using hk
       simp only[Option.map_some,hk',Bool.false_and,false_eq_true,if_false,Option.some.injEq]at hx;rcases hx with rfl|rfl;.exact .inr rfl
       .exact absurd rfl hk
 . obtain⟨f,lt⟩:=hf b hb;refine⟨ne_of_lt lt,fun x c e=>?_⟩;rcases bc.from' x c e with e|e;.exact f.2.2.2.2.1 x c e
   .rintro rfl;exact absurd (lt_trans e.1 lt) (lt_irrefl _)
 . obtain⟨f,lt⟩:=hf b hb;rcases f.2.2.2.1 with h|h;.exact I.ok.Hv b u e h
   .have this:b<X.base.objs.size:=lt_size e;exact absurd (lt_of_lt_of_le this (le_trans I.ok.M3 h)) (lt_irrefl _)
 . obtain⟨f,lt⟩:=hf b hb;rcases mem_cons.mp (I.uz b hfs)with h|h;.exact f.2.1 h
   .exact f.2.2.1 h
 .--the names
   have hi:i<σ.length:=by
    by_cases hi:i<σ.length;.exact hi
    .rw[getElem?_append_right (by omega),List.getElem?_replicate]at e2;split at e2<;>cases e2
   rw[getElem?_append_left hi]at e2;obtain⟨h1',h2'⟩:=ok.get (by rw[<-I.len];exact hi) e1 hv;have hk:=ok.cap (x,.free) (PySem.mem_of_lookup h2') rfl;obtain⟨m0,hn0,hl⟩:=I.loc;obtain⟨u,r,l⟩:=hl i x v h1' e2 (.inr hk);refine⟨u,r,.inr ⟨XC x h2',?_⟩⟩;rcases l with⟨hk',_⟩|⟨_,c,hc,hcell⟩;.have hk':X.env.scope.names.lookup x=some .local:=hk';rcases hk with hk|hk<;>(rw[hk']at hk;cases hk)
   .obtain⟨c',hc'⟩:=bc.has x (.inl h2');have:=bc.fre x c' h2' hc';rw[hc]at this;cases this;refine⟨c,hc',?_⟩;obtain⟨oc,e3,e4⟩:=hcell;exact⟨oc,old c oc e3,e4⟩
 . rcases bc.from' x c e with e|e;.obtain⟨v,oc,e3,e4⟩:=I.cell x c e;exact⟨v,oc,old c oc e3,e4⟩
   .exact⟨_,e.2⟩
 . rcases bc.from' x c e with e|e;.exact I.iW x c e
   .exact I.hok.fresh (le_of_lt e.1)
 .show(σ++replicate n none).length=N'.length;rw[length_append,List.length_replicate,I.len,ok.len]
theorem tX{prog:Program}{w:World}{A:Around}{R:Result->Shared->Prop}{elt target iter:Expr}{ifs:List Expr}{scope:Scope}{pos:Pos}{it acc:Value}{env:Env}(I:Nat->Shared->Prop)(turn:∀ n s,I n s->wpAny (model prog w) A (pyNext it) (fun r s₁=>match r with|none=>R (.ok .next) s₁|some v=>wpAny (model prog w) A (letOwnedTupleGo target it v) (fun _ s₁=>wpAny (model prog w) A (assign target env v) (fun _ s₂=>wpAny (model prog w) A (forIn ifs true fun c r=>if r=true then do let ok<-isTrue c env (eval c env);pure (ForInStep.yield ok)else pure (ForInStep.yield r)) (fun ok s₃=>if ok=true then wpAny (model prog w) A (eval elt env) (fun x s₄=>wpAny (model prog w) A (call (.builtin "list.append") [acc,x]) (fun _ s₅=>∃m,m<n/\I m s₅) (notedBy (model prog w) A env fun e s'=>R (.error e) s') s₄) (notedBy (model prog w) A env fun e s'=>R (.error e) s') s₃ else ∃m,m<n/\I m s₃) (notedBy (model prog w) A env fun e s'=>R (.error e) s') s₂) (notedBy (model prog w) A env fun e s'=>R (.error e) s') s₁) (notedBy (model prog w) A env fun e s'=>R (.error e) s') s₁) (notedBy (model prog w) A env fun e s'=>R (.error e) s') s)(n:Nat){s:Shared}(h:I n s):codeAny (model prog w) A (.compLoop (.ListComp elt [⟨target,iter,ifs,0⟩] scope pos) 0 it acc env) R s:=by refine codeAny_loop rfl I (fun n s hI=>?_) n h;show wpAny _ A ((compTurn (.ListComp elt [⟨target,iter,ifs,0⟩] scope pos) 0 it acc env).onRaise (fun x=>do noteFrame x env;theTreesLotGoes x)) _ _ s;refine wpAny_noted ?_;rw[compTurn_list];refine wpAny_bind (wpAny_standAt (wpAny_bind (wpAny_mono (turn n s hI) (fun r s₁ h₁=>?_) fun _ _ h'=>h')));cases r with|none=>exact wpAny_pure h₁|some v=>refine wpAny_bind (wpAny_mono h₁ (fun _ s₁ h₁=>?_) fun _ _ h'=>h');refine wpAny_bind (wpAny_mono h₁ (fun _ s₂ h₂=>wpAny_bind (wpAny_mono h₂ (fun ok s₃ h₃=>?_) fun _ _ h'=>h')) fun _ _ h'=>h');cases ok with|false=>exact wpAny_pure ⟨rfl,h₃⟩|true=>exact wpAny_bind (wpAny_bind (wpAny_mono h₃ (fun x s₄ h₄=>wpAny_bind (wpAny_mono h₄ (fun _ s₅ h₅=>wpAny_pure (wpAny_pure ⟨rfl,h₅⟩)) fun _ _ h'=>h')) fun _ _ h'=>h'))
def QL(X:Cx)(ifs:List Expr)(t:TT):Prop:=∀(pins:List (Addr × Obj))(s:Shared)(σ:L2.St)(H:Hp)(Q:Bool->Hp->Prop),Inv X pins σ H s->t σ H Q->wpAny (model X.prog X.w) X.A (forIn ifs true fun c r=>if r=true then do let ok<-isTrue c X.env (eval c X.env);pure (ForInStep.yield ok)else pure (ForInStep.yield r)) (TP X pins σ Q) X.xe s
theorem KD{X:Cx}:QL X [] (fun _ H Q=>Q true H):=fun pins s σ H Q I h=>wpAny_tests_nil ⟨H,I,h⟩
theorem J3{X:Cx}{c:Expr}{t:TT}(h:PT X c t):QL X [c] t:=fun pins s σ H Q I q=>wpAny_tests_one (h pins s σ H Q I q)
def Mi(J:It)(g:TG)(tt:TT)(te:TE)(D:Addr)(Q:Hp->Prop)(W:Nat->Nat->List V->L2.St->Hp->Prop):Prop:=∀ i m ys σ H,W i m ys σ H->H D=some (.lst ys)/\((J.stop i H/\Q H)\/(J.go i H/\∀ x H2,J.M5 i H x H2->g x σ H2 fun σ3 H3=>tt σ3 H3 fun b H4=>if b=true then te σ3 H4 fun y H5=>H5 D=some (.lst ys)/\ys.length<sizeLine/\∃m',m'<m/\W (i+1) m' (ys++[y]) σ3 (upd H5 D (.lst (ys++[y])))else ∃m',m'<m/\W (i+1) m' ys σ3 H4))
theorem qT{E:Value->Shared->Prop}{elt target iter:Expr}{ifs:List Expr}{pos:Pos}{it:Addr}{tn:Nat->Heap->Prop}{J:It}{g:TG}{tt:TT}{te:TE}{Q:Addr->Hp->Prop}{RR:Value->Addr->Result->Shared->Prop}(hc:X.calm=true)(ok:dZ X scope N' n)(I:Inv X pins σ H s)(hcl:∀n c,cl.lookup n=some c->X.env.cells.lookup n=some c)(yK:∀n,(n,NameKind.free)∈scope.names->(cl.lookup n).isSome)(T:Turn X.prog X.w X.K target J fp it tn)(h0:tn 0 s.heap)(hf:∀b∈fp,oF X pins H b)(hg:∀cl C s₀ H₀ ex,PG (uP X scope N' cl C s₀ H₀ ex) target g)(ht:∀cl C s₀ H₀ ex,QL (uP X scope N' cl C s₀ H₀ ex) ifs tt)(he:∀cl C s₀ H₀ ex,PE (uP X scope N' cl C s₀ H₀ ex) elt te)(hw:∀D,H D=none->∃W,(∃m,W 0 m [] (σ++replicate n none) (upd H D (.lst [])))/\Mi J g tt te D (Q D) W)(hRR:∀D C s' H',Q D H'->(∃m,s'.heap.Ns C m)->oF X pins H' C->Inv X pins σ H' s'->RR (.ref D) C (.ok .next) s'):wpAny (model X.prog X.w) X.A (newList []) (fun acc s₃=>wpAny (model X.prog X.w) X.A (newFunctionEnv scope X.env.globals cl [] X.env.qual none .none (some X.env)) (fun cenv s₄=>codeAny (model X.prog X.w) X.A (.compStart (.ListComp elt [⟨target,iter,ifs,0⟩] scope pos) 0 (.ref it) acc {cenv with scope:=relabel scope X.env}) (RR acc cenv.locals) s₄) E s₃) E s:=by
 refine wpAny_newObj_type (Bw ok (fun x c e=>?lt) I.ok.inj hcl yK (fun cs h₁ hns hold bc=>?_));case lt=>obtain⟨v,z⟩:=I.cell x c e;exact lt_of_lt_of_le z.lt (by show _<=(s.heap.push _).objs.size;rw[size_push];exact le_succ _)
 dsimp only at hns hold bc ⊢--the new list,tracked
 have I3:Inv X pins σ (upd H s.heap.objs.size (.lst [])) {s with heap:=s.heap.push {cls:=.type "list",data:=.seq ([]:List Value).toArray}}:=I.QW (t':=s.toks) .nil (zero_le _);generalize hs3:({s with heap:=s.heap.push {cls:=.type "list",data:=.seq ([]:List Value).toArray}}:Shared)=s3 at I3;have hsz:s3.heap.objs.size=s.heap.objs.size+1:=by rw[<-hs3];exact size_push _ _
 have Nb:s3.heap=s.heap.push {cls:=.type "list",data:=.seq ([]:List Value).toArray}:=by rw[<-hs3]
 obtain⟨W,⟨m0,w0⟩,turn⟩:=hw s.heap.objs.size I.fresh;have tnK:∀{h':Heap},(∀b o,s.heap.get? b=some o->h'.get? b=some o)->tn 0 h':=fun k=>T.keep _ _ _ h0 fun b hb o e=>k b o e;have Z7:∀b∈fp,oF X pins (upd H s.heap.objs.size (.lst [])) b/\b<s3.heap.objs.size:=fun b hb=>by obtain⟨o,e,_⟩:=T.obj 0 _ h0 b hb;have lt:=lt_size e;obtain⟨f1,f2⟩:=hf b hb;exact⟨⟨by rw[ao (ne_of_lt lt)];exact f1,f2⟩,by rw[hsz];exact lt_succ_of_lt lt⟩
 rw[<-Nb]at hns hold bc ⊢;have I4:=Fb (t:=s3.toks) ok I3 Z7 bc hns hold;have XF:∀b o,s.heap.get? b=some o->h₁.get? b=some o:=fun b o e=>hold b o (by rw[Nb];exact get?_push_of_some _ e);generalize hX:uP X scope N' cs s3.heap.objs.size s3 (upd H s.heap.objs.size (.lst [])) fp=X' at I4;have hA:X'.A=X.A:=by rw[<-hX];rfl
 have hpr:X'.prog=X.prog:=by rw[<-hX];rfl
 have hwr:X'.w=X.w:=by rw[<-hX];rfl
 have hKK:X'.K=X.K:=by rw[<-hX];rfl
 have hcalm:X'.calm=true:=by rw[<-hX];exact hc
 have hxe:X'.xe=fun _ _=>False:=by rw[<-hX];rfl
 have henv:X'.env=compEnvC scope cs s3.heap.objs.size X.env:=by rw[<-hX];rfl
 have hg':PG X' target g:=by rw[<-hX];exact hg _ _ _ _ _
 have ht':QL X' ifs tt:=by rw[<-hX];exact ht _ _ _ _ _
 have he':PE X' elt te:=by rw[<-hX];exact he _ _ _ _ _
 have ff:∀{H':Hp}{b:Addr},b∈fp->H' b=none->oF X' [] H' b:=fun{H' b}hb hn=>by
  obtain⟨f,lt⟩:=Z7 b hb;rw[<-hX];refine⟨hn,ne_of_lt lt,fun hfs=>?_,.inl hb,fun x c e=>?_,fun p hp=>by cases hp⟩
  . rcases mem_cons.mp (I3.uz b hfs)with h|h;.exact f.2.1 h
    .exact f.2.2.1 h
  . rcases bc.from' x c e with e|e;.exact f.2.2.2.2.1 x c e
    .rintro rfl;exact absurd (lt_trans e.1 lt) (lt_irrefl _)--behind the block
 have fin:∀{σ':L2.St}{H':Hp}{s':Shared},Inv X' [] σ' H' s'->Q s.heap.objs.size H'->RR (.ref s.heap.objs.size) s3.heap.objs.size (.ok .next) s':=fun{σ' H' s'}J' q=>by
  rw[<-hX]at J';have hC:H' s3.heap.objs.size=none:=J'.free;obtain⟨hh,gg,dd,tt',os'⟩:=s';have eos:os'=s3.os:=J'.os;subst eos;refine hRR _ _ _ H' q (let⟨m,hm,_⟩:=J'.loc;⟨m,hm⟩) ?_ (I3.call (h':=hh) (g':=gg) (d':=dd) (t':=tt') (ch:=fp) J'.base J'.hok J'.bare fun b hb=>?_);.exact I3.Hf (le_refl _) hC
  .obtain⟨f,lt⟩:=Z7 b hb;exact⟨f.2.2.2.1,f.2.1,f.2.2.2.2.1,f.2.2.2.2.2⟩
 have main:codeAny (model X.prog X.w) X.A (.compLoop (.ListComp elt [⟨target,iter,ifs,0⟩] scope pos) 0 (.ref it) (.ref s.heap.objs.size) X'.env) (RR (.ref s.heap.objs.size) s3.heap.objs.size) {s3 with heap:=h₁,toks:=s3.toks}:=by
  refine tX (fun k s'=>∃i ys σ' H',Inv X' [] σ' H' s'/\tn i s'.heap/\(∀b∈fp,H' b=none)/\W i k ys σ' H') (fun k s5 hI=>?_) m0 ⟨0,[],_,_,I4,tnK XF,fun b hb=>(Z7 b hb).1.1,w0⟩;obtain⟨i,ys,σ5,H5,I5,t5,f5,w5⟩:=hI;obtain⟨hD,hturn⟩:=turn i k ys σ5 H5 w5;have Z8:∀{Z:Value->Shared->Prop},∀(e:Value)(s':Shared),X'.xe e s'->Z e s':=fun e s' z=>by rw[hxe]at z;exact False.elim z
  rcases hturn with⟨stop,q⟩|⟨go,step⟩;.have z:=T.done X' hpr hwr hKK hcalm i [] s5 σ5 H5 (fun _ _=>False) I5 (fun b hb=>ff hb (f5 b hb)) t5 stop;rw[hA]at z;refine wpAny_mono z (?_) fun _ _ z=>False.elim z;rintro r s6⟨hr,I6⟩;subst hr;exact fin I6 q
  . have z:=T.item X' hpr hwr hKK hcalm i [] s5 σ5 H5 (fun _ _=>False) I5 (fun b hb=>ff hb (f5 b hb)) t5 go;rw[hA]at z;refine wpAny_mono z (?_) fun _ _ z=>False.elim z;rintro r s6⟨u,hr,z6⟩;subst hr;refine wpAny_mono z6 (?_) fun _ _ z=>False.elim z;rintro _ s7⟨x,H7,I7,r7,y7,t7,f7⟩;have I7':=I7.pinned (fun b hb=>ff hb (f7 b hb)) (T.obj _ _ t7)--what the pins keep
    have back:∀{σ':L2.St}{H':Hp}{s':Shared},Inv X' ([]++pZ fp s7.heap) σ' H' s'->Inv X' [] σ' H' s'/\tn (i+1) s'.heap/\∀b∈fp,H' b=none:=fun{σ' H' s'}J'=>by refine⟨J'.kY,T.keep _ _ _ t7 fun b hb o e=>(J'.pin (b,o) (mem_append_right _ (mem_append_right _ (gC hb e)))).1,fun b hb=>?_⟩;obtain⟨o,e,_⟩:=T.obj _ _ t7 b hb;exact(J'.pin (b,o) (mem_append_right _ (mem_append_right _ (gC hb e)))).2.1
    have z7:=hg' _ s7 σ5 H7 x u _ I7' r7 (step x H7 y7);rw[hA,hpr,hwr]at z7;refine wpAny_mono z7 (?_) Z8;rintro _ s8⟨σ8,H8,I8,q8⟩;have z8:=ht' _ s8 σ8 H8 _ I8 q8;rw[hA,hpr,hwr]at z8;refine wpAny_mono z8 (?_) Z8;rintro b s9⟨H9,I9,q9⟩;cases b with|false=>rw[if_neg Bool.false_ne_true]at q9 ⊢;obtain⟨m',hm,w'⟩:=q9;obtain⟨b1,b2,b3⟩:=back I9;exact⟨m',hm,i+1,ys,σ8,H9,b1,b2,b3,w'⟩|true=>rw[if_pos rfl]at q9 ⊢;have z9:=he' _ s9 σ8 H9 _ I9 q9;rw[hA,hpr,hwr]at z9;refine wpAny_mono z9 (?_) Z8;rintro y qd⟨yv,H10,I10,r10,acA,hlen,m',hm,w'⟩;have z10:=lQ _ qd σ8 H10 (.ref s.heap.objs.size) [yv] (.ref s.heap.objs.size) [y] (fun v H11=>H11=upd H10 s.heap.objs.size (.lst (ys++[yv]))) I10 rfl (.cons r10 .nil) ⟨_,ys,yv,rfl,rfl,acA,hlen,rfl⟩;rw[hA,hpr,hwr]at z10;refine wpAny_mono z10 (?_) Z8;rintro _ ZQ⟨_,H11,I11,_,e11⟩;subst e11;obtain⟨b1,b2,b3⟩:=back I11;exact⟨m',hm,i+1,ys++[yv],σ8,_,b1,b2,b3,w'⟩
 have e3:({s3 with heap:=h₁,toks:=s3.toks}:Shared)={s with heap:=h₁}:=by rw[<-hs3]
 rw[henv,e3]at main;exact codeAny_compStart_list main (T.self _ 0 _ _ _ (tnK XF) main)
end
section
variable{X:Cx}{elt target iter:Expr}{ifs:List Expr}{scope:Scope}{pos:Pos}{N':List Str}{n:Nat}{wi:TI}{g:TG}{tt:TT}{te:TE}
def qK(n:Nat)(wi:TI)(g:TG)(tt:TT)(te:TE):TE:=fun σ H Q=>wi σ H fun J H1=>∀D,H1 D=none->∃W,(∃m,W 0 m [] (σ++replicate n none) (upd H1 D (.lst [])))/\Mi J g tt te D (fun H'=>Q (.ref D) H') W
theorem lD{pins:List (Addr×Obj)}{σ:L2.St}{H:Hp}{s:Shared}(I:Inv X pins σ H s)(ok:dZ X scope N' n):∃cl,closureFor scope X.env=pure cl/\(∀n c,cl.lookup n=some c->X.env.cells.lookup n=some c)/\∀n,(n,NameKind.free)∈scope.names->(cl.lookup n).isSome:=xV fun m hm=>I.ok.has m (ok.cap (m,.free) hm rfl)
theorem Jv(hc:X.calm=true)(ok:dZ X scope N' n)(hi:PI X target iter wi)(hg:∀cl C s₀ H₀ ex,PG (uP X scope N' cl C s₀ H₀ ex) target g)(ht:∀cl C s₀ H₀ ex,QL (uP X scope N' cl C s₀ H₀ ex) ifs tt)(he:∀cl C s₀ H₀ ex,PE (uP X scope N' cl C s₀ H₀ ex) elt te)(hs:∀x,foldedSetIterable iter X.env x=pure x:=by intro _;rfl):PE X (.ListComp elt [⟨target,iter,ifs,0⟩] scope pos) (qK n wi g tt te):=by intro pins s σ H Q I h;obtain⟨cl,hclos,hcl,yK⟩:=lD I ok;rw[eval_ListComp];refine wpAny_comprehension_free (use:=none) rfl hs hclos ok.kind ok.names (bC (hi pins s σ H _ I h) fun v s1 h1=>bC h1 fun itv s2 h2=>?_);obtain⟨it,fp,tn,J,H2,rfl,I2,T,t0,f2,hw⟩:=h2;refine qT (Q:=fun D H'=>Q (.ref D) H') (RR:=fun acc C=>compPost (model X.prog X.w) X.A X.xe none (EP X pins σ Q) acc C) hc ok I2 hcl yK T t0 f2 hg ht he hw fun D C s' H' q hm CW I'=>?_;obtain⟨m,hm⟩:=hm;refine⟨m,hm,fun h' hs'=>⟨.ref D,H',?_,rfl,q⟩⟩;exact I'.turned (t':=s'.toks) (fun b o hb e=>hs'.extBut b o hb e) CW.1 CW.2.1 CW.2.2.2.1 CW.2.2.2.2.1 CW.2.2.2.2.2
theorem Jz{i:Nat}{x:Str}{pos' spos:Pos}(hc:X.calm=true)(hN:X.N.Nodup)(hx0:X.N[i]?=some x)(hx:Loc X.env.scope x)(ok:dZ X scope N' n)(hi:PI X target iter wi)(hg:∀cl C s₀ H₀ ex,PG (uP X scope N' cl C s₀ H₀ ex) target g)(ht:∀cl C s₀ H₀ ex,QL (uP X scope N' cl C s₀ H₀ ex) ifs tt)(he:∀cl C s₀ H₀ ex,PE (uP X scope N' cl C s₀ H₀ ex) elt te)(hsw:swapsWith (.ListComp elt [⟨target,iter,ifs,0⟩] scope pos) (some (.Name x pos')) spos.line X.env=pure true)(hs:∀x,foldedSetIterable iter X.env x=pure x:=by intro _;rfl)(hf:X.fn x=true\/X.env.scope.names.lookup x=some .local:=by first|exact .inl rfl|exact .inr rfl|assumption):PS X (.Assign [.Name x pos'] (.ListComp elt [⟨target,iter,ifs,0⟩] scope pos) spos) (QF (qK n wi g tt te) (iT i)):=by
 intro pins s σ H D I h;obtain⟨cl,hclos,hcl,yK⟩:=lD I ok;rw[exec_Assign_Name_used _ _ _ _ hsw];refine wpAny_bind (wpAny_standAt (wpAny_bind ?_));show wpAny _ X.A (do let _<-comprehension (.ListComp elt [⟨target,iter,ifs,0⟩] scope pos) scope X.env _ (newList []) false (eval iter X.env) (some (assign (.Name x pos') X.env))) _ _ s;refine wpAny_bind (wpAny_mono (wpAny_comprehension_free (use:=some (assign (.Name x pos') X.env)) (Q:=fun _ s'=>SP X pins D .next s') rfl hs hclos ok.kind ok.names (bC (hi pins s σ H _ I h) fun v s1 h1=>bC h1 fun itv s2 h2=>?_)) (fun _ s' hq=>wpAny_pure (wpAny_pure hq)) fun _ _ e=>e);obtain⟨it,fp,tn,J,H2,rfl,I2,T,t0,f2,hw⟩:=h2;refine qT (Q:=fun Da H'=>D.nx (σ.set i (some (.ref Da))) H') (RR:=fun acc C=>compPost (model X.prog X.w) X.A X.xe (some (assign (.Name x pos') X.env)) (fun _ s'=>SP X pins D .next s') acc C) hc ok I2 hcl yK T t0 f2 hg ht he hw fun Da C s' H' q hm CW I'=>?_;obtain⟨m,hm⟩:=hm;show wpAny _ X.A (assign (.Name x pos') X.env (.ref Da)) _ _ _;refine wpAny_assign_Name (qW I' hN hx0 hx (show RelV (.ref Da) (.ref Da)from rfl) (?_) hf);rintro s'' I''⟨a,sb,ha⟩;have hCa:C≠a:=by
  rcases ha with rfl|ha;.exact CW.2.1
  .exact fun z=>CW.2.2.2.2.1 x a ha z.symm
 refine⟨m,hm.sameBut sb hCa,fun h' hs'=>⟨_,H',?_,q⟩⟩;exact I''.turned (t':=s''.toks) (fun b o hb e=>hs'.extBut b o hb e) CW.1 CW.2.1 CW.2.2.2.1 CW.2.2.2.2.1 CW.2.2.2.2.2
def aaE(K:PySem.W.Frag)(tl:TE):TI:=fun σ H R=>tl σ H fun x H1=>∃a,x=.ref a/\(((∃xs,dz K H1 a xs)/\R (Qu K a) H1)\/((∃xs,jm K H1 a xs)/\R (Tn K a) H1))
theorem yI{tg l:Expr}{tl:TE}(hl:PE X l tl):PI X tg l (aaE X.K tl):=by
 intro pins s σ H R I h;refine bC (hl pins s σ H _ I h) ?_;rintro v s1⟨x,H1,I1,r1,q1⟩;obtain⟨a,e,q1⟩:=q1;subst e;cases r1;rcases q1 with⟨⟨xs,hq⟩,q⟩|⟨⟨xs,hq⟩,q⟩
 . obtain⟨its,rv,p,hz⟩:=I1.list hq;refine wpAny_pyIter_list p.isList ?_;refine⟨s1.heap.objs.size,[s1.heap.objs.size],_,_,H1,rfl,I1.kept (t':=s1.toks) fun b o e=>get?_push_of_some _ e,BJ a _,⟨_,get?_push_size _ rfl,rfl,rfl⟩,fun b hb=>?_,q⟩;have e:b=s1.heap.objs.size:=by simpa using hb
   subst e;exact I1.Hf (le_refl _) (I1.hok.fresh (le_refl _))
 . obtain⟨its,rv,p,hz⟩:=I1.tuple hq;refine wpAny_pyIter_tuple (show s1.heap.IsTuple a its.toArray from p) ?_;refine⟨s1.heap.objs.size,[s1.heap.objs.size],_,_,H1,rfl,I1.kept (t':=s1.toks) fun b o e=>get?_push_of_some _ e,xF a _,⟨_,get?_push_size _ rfl,rfl,rfl⟩,fun b hb=>?_,q⟩;have e:b=s1.heap.objs.size:=by simpa using hb
   subst e;exact I1.Hf (le_refl _) (I1.hok.fresh (le_refl _))
end
end L2
end
section
namespace HH
open PySem L2 PySem.Spec PyProof.Rows
structure Walk(K:PySem.W.Frag)(F:Hp)(ρ:List Sl)(σ:L2.St)(H:Hp)(ul:List Sl->List Sl)(J:It)(ds:List D)(F1:Hp)(ρ1:List Sl)(H1:Hp):Prop where
 gs:GS K F1 ρ1 σ H1
 src:∀(n k:Nat)(F':Hp)(ρ':List Sl)(σ':L2.St)(H':Hp),aq K F1 (ρ1++replicate n .aP) (σ++replicate n none) H1 F' ρ' σ' H'->(∀d,ds[k]?=some d->J.go k H'/\∀x uE,J.M5 k H' x uE->∃F'',Ext F' H' F'' uE/\Rep K F'' x d)/\(ds.length<=k->J.stop k H')fin:∀F2 ρ2 σ2 H2,aq K F1 ρ1 σ H1 F2 ρ2 σ2 H2->aq K F ρ σ H F2 (ul ρ2) σ2 H2/\∀v r,bM K F2 ρ2 σ2 H2 ρ1 σ H1 v r->bM K F2 (ul ρ2) σ2 H2 ρ σ H v r
inductive tIt(K:PySem.W.Frag)(iv:Option Nat)(f:Ev)(σ:L2.St)(H:Hp)(R:It->Hp->Prop):Prop where|mk(F:Hp)(ρ:List Sl)(ds:List D)(ρ1:List Sl)(g:GS K F ρ σ H)(e:srcOf iv f ρ=.ok ds ρ1)(k:∀J F1 H1,Walk K F ρ σ H (aQ ρ iv) J ds F1 ρ1 H1->R J H1)
section
variable{K:PySem.W.Frag}{F F1 H H1:Hp}{ρ ρ1:List Sl}{σ:L2.St}{ds:List D}{a:Addr}
theorem zZ{xs:List V}{F' H':Hp}(hq:jm K H' a xs)(r:au K F' xs ds)(s:aG F' H')(k:Nat):(∀d,ds[k]?=some d->(Tn K a).go k H'/\∀x uE,(Tn K a).M5 k H' x uE->∃F'',Ext F' H' F'' uE/\Rep K F'' x d)/\(ds.length<=k->(Tn K a).stop k H'):=by refine⟨fun d hd=>?_,fun h=>⟨xs,hq,by rw[r.length];exact h⟩⟩;obtain⟨w,h1,h2⟩:=r.get hd;refine⟨⟨xs,w,hq,h1⟩,?_⟩;rintro x uE⟨e,y⟩;subst e;have:=y xs hq;rw[h1]at this;cases this;exact⟨F',.refl s,h2⟩
theorem o9{xs:List V}{F' H':Hp}(hq:dz K H' a xs)(r:au K F' xs ds)(s:aG F' H')(k:Nat):(∀d,ds[k]?=some d->(Qu K a).go k H'/\∀x uE,(Qu K a).M5 k H' x uE->∃F'',Ext F' H' F'' uE/\Rep K F'' x d)/\(ds.length<=k->(Qu K a).stop k H'):=by refine⟨fun d hd=>?_,fun h=>⟨xs,hq,by rw[r.length];exact h⟩⟩;obtain⟨w,h1,h2⟩:=r.get hd;refine⟨⟨xs,w,hq,h1⟩,?_⟩;rintro x uE⟨e,y⟩;subst e;have:=y xs hq;rw[h1]at this;cases this;exact⟨F',.refl s,h2⟩
theorem uT{ul:List Sl->List Sl}{v:V}{d:D}(s:aq K F ρ σ H F1 ρ1 σ H1)(r:Rep K F1 v d)(hi:items d=some ds)(fin:∀F2 ρ2 σ2 H2,aq K F1 ρ1 σ H1 F2 ρ2 σ2 H2->aq K F ρ σ H F2 (ul ρ2) σ2 H2/\∀v r,bM K F2 ρ2 σ2 H2 ρ1 σ H1 v r->bM K F2 (ul ρ2) σ2 H2 ρ σ H v r):∃a,v=.ref a/\(((∃xs,dz K H1 a xs)/\Walk K F ρ σ H ul (Qu K a) ds F1 ρ1 H1)\/((∃xs,jm K H1 a xs)/\Walk K F ρ σ H ul (Tn K a) ds F1 ρ1 H1)):=by cases d with|tup es=>cases hi;rw[Rep]at r;obtain⟨a,xs,rfl,h1,h2⟩:=r;exact⟨a,rfl,.inr ⟨⟨xs,aG.gq s.gs.sub h1⟩,s.gs,fun n k F' ρ' σ' H' s'=>zZ (aG.gq s'.gs.sub (aG.gq s'.bZ h1)) (h2.mono s'.bZ) s'.gs.sub k,fin⟩⟩|lst es=>cases hi;rw[Rep]at r;obtain⟨a,xs,rfl,h1,h2⟩:=r;exact⟨a,rfl,.inl ⟨⟨xs,s.gs.sub.seq h1⟩,s.gs,fun n k F' ρ' σ' H' s'=>o9 (s'.gs.sub.seq (s'.bZ.seq h1)) (h2.mono s'.bZ) s'.gs.sub k,fin⟩⟩|_=>cases hi
theorem rC{i:Nat}{ul:List Sl->List Sl}(g:GS K F ρ1 σ H)(e:ρ1[i]?=some (.lent ds))(fin:∀F2 ρ2 σ2 H2,aq K F ρ1 σ H F2 ρ2 σ2 H2->aq K F ρ σ H F2 (ul ρ2) σ2 H2/\∀v r,bM K F2 ρ2 σ2 H2 ρ1 σ H v r->bM K F2 (ul ρ2) σ2 H2 ρ σ H v r):∃a,σ[i]?=some (some (.ref a))/\(∃xs,dz K H a xs)/\Walk K F ρ σ H ul (Qu K a) ds F ρ1 H:=by obtain⟨a,xs,h1,h2,h3,h4⟩:=g.pM i _ ds e rfl;have hi:i<ρ1.length:=(List.getElem?_eq_some_iff.mp e).1;refine⟨a,h1,⟨xs,dz.of h2⟩,g,fun n k F' ρ' σ' H' s'=>?_,fin⟩;obtain⟨z1,t,z2,z3⟩:=s'.lk i _ (by rw[getElem?_append_left hi];exact e) rfl;cases(show t=.lent ds from z3);rw[getElem?_append_left (by rw[<-g.len];exact hi),h1]at z1;obtain⟨a',ys,w1,w2,w3,w4⟩:=s'.gs.pM i _ ds z2 rfl;rw[z1]at w1;cases w1;exact o9 (dz.of w2) w4 s'.gs.sub k
end
section
variable{X:Cx}{c:Call}{n:Nat}{e a b d tg:Expr}{p pa pb pd:P}{pos:Pos}
theorem oU{t t':TI}(h:PI X tg e t)(i:∀σ H R,t' σ H R->t σ H R):PI X tg e t':=fun pins s σ H R I q=>h pins s σ H R I (i σ H R q)
def SI(X:Cx)(c:Call)(tg e:Expr)(p:P):Prop:=PI X tg e (tIt X.K (isVar p) (HH.ev c p))
theorem cZ(h:SX X c e p):SI X c tg e p:=by unfold SI;cases hv:isVar p with|none=>refine oU (yI h.ev) ?_;rintro σ H R⟨F,ρ,ds,ρ1,g,e,k⟩;obtain⟨r,ρ2,e1,e2⟩:=aa e;have zz:=aA e2;clear e2;obtain⟨e2,e3⟩:=zz;subst e3;refine⟨F,ρ,r,_,g,e1,fun v F' H' s rr=>?_⟩;obtain⟨F2,s2,_,rp⟩:=s.cC rr;obtain⟨a,ha,hw⟩:=uT (ul:=aQ ρ none) s2 rp e2 fun F3 ρ3 σ3 H3 s3=>⟨s2.trans s3,fun v r rr=>rr.later s2⟩;exact⟨a,ha,hw.imp (fun⟨z,w⟩=>⟨z,k _ _ _ w⟩) (fun⟨z,w⟩=>⟨z,k _ _ _ w⟩)⟩|some i=>
   refine oU (yI (h.var i hv)) ?_;rintro σ H R⟨F,ρ,ds,ρ1,g,e,k⟩;unfold srcOf at e;dsimp only at e;split at e
   . rename_i b d q;have zz:=aA e;clear e;obtain⟨e2,e3⟩:=zz;subst e3;obtain⟨v,h1,h2⟩:=g.val i b d q;have fin:∀F2 ρ2 σ2 H2,aq X.K F ρ σ H F2 ρ2 σ2 H2->aq X.K F ρ σ H F2 (aQ ρ (some i) ρ2) σ2 H2/\∀v r,bM X.K F2 ρ2 σ2 H2 ρ σ H v r->bM X.K F2 (aQ ρ (some i) ρ2) σ2 H2 ρ σ H v r:=fun F2 ρ2 σ2 H2 s=>by unfold aQ;dsimp only;rw[q];exact⟨s,fun _ _ z=>z⟩
     obtain⟨a,ha,hw⟩:=uT (ul:=aQ ρ (some i)) (.refl g) h2 e2 fin;exact⟨v,h1,a,ha,hw.imp (fun⟨z,w⟩=>⟨z,k _ _ _ w⟩) (fun⟨z,w⟩=>⟨z,k _ _ _ w⟩)⟩
   . rename_i b ds' q;cases e;have hi:i<ρ.length:=(List.getElem?_eq_some_iff.mp q).1;have fin:∀F2 ρ2 σ2 H2,aq X.K F (ρ.set i (.lent ds)) σ H F2 ρ2 σ2 H2->aq X.K F ρ σ H F2 (aQ ρ (some i) ρ2) σ2 H2/\∀v r,bM X.K F2 ρ2 σ2 H2 (ρ.set i (.lent ds)) σ H v r->bM X.K F2 (aQ ρ (some i) ρ2) σ2 H2 ρ σ H v r:=fun F2 ρ2 σ2 H2 s=>by unfold aQ;dsimp only;rw[q];exact aq.aQ g q s
     obtain⟨a,h1,hx,w⟩:=rC (ul:=aQ ρ (some i)) (g.lend q) (getElem?_set_self hi) fin;exact⟨_,h1,a,rfl,.inl ⟨hx,k _ _ _ w⟩⟩
   . rename_i ds' q;cases e;have fin:∀F2 ρ2 σ2 H2,aq X.K F ρ σ H F2 ρ2 σ2 H2->aq X.K F ρ σ H F2 (aQ ρ (some i) ρ2) σ2 H2/\∀v r,bM X.K F2 ρ2 σ2 H2 ρ σ H v r->bM X.K F2 (aQ ρ (some i) ρ2) σ2 H2 ρ σ H v r:=fun F2 ρ2 σ2 H2 s=>by unfold aQ;dsimp only;rw[q];exact⟨s,fun _ _ z=>z⟩
     obtain⟨a,h1,hx,w⟩:=rC (ul:=aQ ρ (some i)) g q fin;exact⟨_,h1,a,rfl,.inl ⟨hx,k _ _ _ w⟩⟩
   .cases e
theorem vA{K:PySem.W.Frag}{F F1 H H1:Hp}{ρ ρ1:List Sl}{σ:L2.St}(s:aq K F ρ σ H F1 ρ1 σ H1)(i j:Int):Walk K F ρ σ H (aQ ρ none) (Uc i (j-i).toNat) ((List.range (j-i).toNat).map fun(k:Nat)=>D.int (i+(k:Int))) F1 ρ1 H1:=by
 refine⟨s.gs,fun n k F' ρ' σ' H' s'=>⟨fun d hd=>?_,fun h=>?_⟩,fun F3 ρ3 σ3 H3 s3=>⟨s.trans s3,fun v r rr=>rr.later s⟩⟩;.rw[getElem?_map]at hd;obtain⟨m,e1,e2⟩:=map_some hd;obtain⟨h1,h2⟩:=List.getElem?_eq_some_iff.mp e1;rw[List.getElem_range]at h2;subst h2;subst e2;rw[length_range]at h1;refine⟨h1,?_⟩;rintro x uE⟨q1,q2⟩;subst q1;subst q2;exact⟨F',.refl s'.gs.sub,bH _⟩
 .rw[length_map,length_range]at h;exact h
theorem uq{x:Str}{p':Pos}(hx:x="range")(hg:Gl X x)(hm:X.mg x=none)(ha:SX X c a pa)(hs:starEach [a] X.env=[(false,eval a X.env)]:=by rfl):SI X c tg (.Call (.Name x p') [a] [] pos) (.xj (.con (.int 0)) pa):=by
 subst hx;obtain⟨ta,h1,h2⟩:=ha.bN;refine oU (qH hg hm (bA h1 cL hs) hs) ?_;rintro σ H R⟨F,ρ,ds,ρ1,g,e,k⟩;obtain⟨r,ρ2,e1,e2⟩:=aa e;have zz:=aA e2;clear e2;obtain⟨e2,e3⟩:=zz;subst e3;rw[HH.E19]at e1;obtain⟨xy,ρ3,e4,e5⟩:=aa e1;have zz:=aA e5;clear e5;obtain⟨e5,e6⟩:=zz;subst e6;obtain⟨y0,ρ5,e9,e10⟩:=aa e4;cases e10;obtain⟨i,f1,e5⟩:=bF e5;obtain⟨j,f2,e5⟩:=bF e5;obtain⟨⟨b1,b2,b3,b4⟩,e5⟩:=aW e5;have f1:i=0:=by cases f1;rfl
 subst f1;subst e5;cases e2;cases bR f2;refine h2 g e9 fun v F' H' s pv=>⟨j,by rw[pv.int],by omega,by omega,?_⟩;have:=vA s 0 j;rw[sub_zero]at this;refine k _ F' H' ?_;rw[sub_zero];exact this
theorem zy{x:Str}{p':Pos}(hx:x="range")(hg:Gl X x)(hm:X.mg x=none)(ha:SX X c a pa)(hb:SX X c b pb)(hs:starEach [a,b] X.env=[(false,eval a X.env),(false,eval b X.env)]:=by rfl)(hs2:starEach [b] X.env=[(false,eval b X.env)]:=by rfl):SI X c tg (.Call (.Name x p') [a,b] [] pos) (.xj pa pb):=by subst hx;obtain⟨ta,tb,h1,h2,h3⟩:=ha.iU hb;refine oU (CG hg hm (bA h1 (bA h2 cL hs2) (by rw[hs,hs2])) hs hs2) ?_;rintro σ H R⟨F,ρ,ds,ρ1,g,e,k⟩;obtain⟨r,ρ2,e1,e2⟩:=aa e;have zz:=aA e2;clear e2;obtain⟨e2,e3⟩:=zz;subst e3;rw[HH.E19]at e1;obtain⟨xy,ρ3,e4,e5⟩:=aa e1;have zz:=aA e5;clear e5;obtain⟨e5,e6⟩:=zz;subst e6;obtain⟨i,f1,e5⟩:=bF e5;obtain⟨j,f2,e5⟩:=bF e5;obtain⟨⟨b1,b2,b3,b4⟩,e5⟩:=aW e5;subst e5;cases e2;refine h3 g e4 fun v u F' H' s pv pu=>⟨i,j,?_,by omega,k _ F' H' (vA s i j)⟩;have e1:=bR f1;have e2:=bR f2;rw[e1]at pv;rw[e2]at pu;rw[pv.int,pu.int]
end
section
variable{X:Cx}{c:Call}{n:Nat}{e a b d tg iter:Expr}{p pa pb pd:P}{pos:Pos}{body:List Stmt}{ss:List S}
def KH(K:PySem.W.Frag)(bd:List Sl->D->Option (List Sl))(g:TG):Prop:=∀(x:V)(d:D)(F:Hp)(ρ ρ':List Sl)(σ:L2.St)(H:Hp)(Q:L2.St->Hp->Prop),GS K F ρ σ H->Rep K F x d->bd ρ d=some ρ'->(∀σ',aq K F ρ σ H F ρ' σ' H->Q σ' H)->g x σ H Q
theorem uh{K:PySem.W.Frag}(i:Nat):KH K (fun ρ d=>put ρ i (.val false d)) (iT i):=fun x d F ρ ρ' σ H Q g r h k=>k _ (aq.put (r:=.val d) (.refl g) r h)
theorem fB{K:PySem.W.Frag}:∀(is:List Nat)(gs:De),(∀(xs:List V)(ds:List D)(F:Hp)(ρ ρ':List Sl)(σ:L2.St)(H:Hp)(Q:L2.St->Hp->Prop),GS K F ρ σ H->au K F xs ds->putAll ρ is ds=some ρ'->(∀σ',aq K F ρ σ H F ρ' σ' H->Q σ' H)->gs xs σ H Q)->∀i,∀(xs:List V)(ds:List D)(F:Hp)(ρ ρ':List Sl)(σ:L2.St)(H:Hp)(Q:L2.St->Hp->Prop),GS K F ρ σ H->au K F xs ds->putAll ρ (i::is) ds=some ρ'->(∀σ',aq K F ρ σ H F ρ' σ' H->Q σ' H)->Ek (iT i) gs xs σ H Q:=by intro is gs ih i xs ds F ρ ρ' σ H Q g r h k;cases ds with|nil=>simp[putAll]at h|cons d ds=>obtain⟨v,vs,rfl,h1,h2⟩:=r.bT;rw[putAll]at h;obtain⟨ρ1,e1,e2⟩:=bF h;have s1:=aq.put (r:=.val d) (.refl g) h1 e1;refine⟨v,vs,rfl,ih vs ds F ρ1 ρ' _ H _ s1.gs h2 e2 fun σ' s2=>k σ' (s1.trans s2)⟩
theorem tK{K:PySem.W.Frag}:∀(xs:List V)(ds:List D)(F:Hp)(ρ ρ':List Sl)(σ:L2.St)(H:Hp)(Q:L2.St->Hp->Prop),GS K F ρ σ H->au K F xs ds->putAll ρ [] ds=some ρ'->(∀σ',aq K F ρ σ H F ρ' σ' H->Q σ' H)->PX xs σ H Q:=by intro xs ds F ρ ρ' σ H Q g r h k;cases ds with|nil=>rw[putAll]at h;cases h;exact⟨r.fu,k σ (.refl g)⟩|cons d ds=>simp[putAll]at h
theorem jU:∀{is:List Nat}{ds:List D}{ρ ρ':List Sl},putAll ρ is ds=some ρ'->ds.length=is.length|[],[],_,_,_=>rfl|[],_::_,_,_,h=>by simp[putAll]at h|_::_,[],_,_,h=>by simp[putAll]at h|i::is,d::ds,ρ,ρ',h=>by rw[putAll]at h;obtain⟨ρ1,e1,e2⟩:=bF h;simp[jU e2]
theorem xx{K:PySem.W.Frag}{is:List Nat}{gs:De}{m:Nat}(hm:m=is.length)(h:∀(xs:List V)(ds:List D)(F:Hp)(ρ ρ':List Sl)(σ:L2.St)(H:Hp)(Q:L2.St->Hp->Prop),GS K F ρ σ H->au K F xs ds->putAll ρ is ds=some ρ'->(∀σ',aq K F ρ σ H F ρ' σ' H->Q σ' H)->gs xs σ H Q):KH K (fun ρ d=>bI ρ is false d) (O5 K m gs):=by intro x d F ρ ρ' σ H Q g r hb k;replace hb:bI ρ is false d=some ρ':=hb;cases d with|tup ds=>replace hb:putAll ρ is ds=some ρ':=hb;rw[Rep]at r;obtain⟨a,xs,rfl,h1,h2⟩:=r;exact⟨a,xs,rfl,aG.gq g.sub h1,by rw[h2.length,jU hb,hm],h xs _ F ρ ρ' σ H Q g h2 hb k⟩|_=>cases hb
theorem tW{g:TG}{is:List Nat}{one:Bool}(hp:PassesOwn (model X.prog X.w) X.A X.env X.xe)(hc:X.calm=true)(hi:SI X c tg iter p)(hg:PG X tg g)(hgo:KH X.K (fun ρ d=>bI ρ is one d) g)(hb:SB X c n body ss)(hs:∀x,foldedSetIterable iter X.env x=pure x:=by intro _;rfl):SS X c n (.For tg iter body [] pos) (.jw p is one ss):=by
 refine cV (Ds hp hc hi hg hb hs) ?_;rintro D σ H⟨F,ρ,fl,ρ',g0,e,k⟩;rw[HH.X13]at e;obtain⟨ds,ρ1,e1,e⟩:=aa e;obtain⟨fl',ρ2,e2,e⟩:=aa e;cases e;refine⟨F,ρ,ds,ρ1,g0,e1,fun J F1 H1 w=>?_⟩;have src:∀(i:Nat)(F':Hp)(ρ':List Sl)(σ':L2.St)(H':Hp),aq X.K F1 ρ1 σ H1 F' ρ' σ' H'->(∀d,ds[i]?=some d->J.go i H'/\∀x uE,J.M5 i H' x uE->∃F'',Ext F' H' F'' uE/\Rep X.K F'' x d)/\(ds.length<=i->J.stop i H'):=fun i F' ρ' σ' H' s=>w.src 0 i F' ρ' σ' H' (by simpa using s);refine⟨fun i m σi Hi=>∃Fi ρi,aq X.K F1 ρ1 σ H1 Fi ρi σi Hi/\m=ds.length-i/\i<=ds.length/\fO is one (eX c n ss) (ds.drop i) ρi=.ok fl ρ2,⟨_,F1,ρ1,.refl w.gs,rfl,zero_le _,e2⟩,?_⟩;rintro i m σi Hi⟨Fi,ρi,si,rfl,hle,ei⟩;obtain⟨s1,s2⟩:=src i Fi ρi σi Hi si;by_cases hlt:i<ds.length
 . right;have hd:ds[i]?=some ds[i]:=by simp[hlt]
   obtain⟨go,step⟩:=s1 _ hd;refine⟨go,fun σ' H'=>∃m',m'<ds.length-i/\∃Fi ρi,aq X.K F1 ρ1 σ H1 Fi ρi σ' H'/\m'=ds.length-(i+1)/\i+1<=ds.length/\fO is one (eX c n ss) (ds.drop (i+1)) ρi=.ok fl ρ2,fun σ' H' z=>z,fun x H' y=>?_⟩;obtain⟨F2,ext,rx⟩:=step x H' y;have si2:=si.trans (ext.stp si.gs);rw[drop_eq_getElem_cons hlt,fO]at ei;cases hbd:bI ρi is one ds[i]with|none=>rw[hbd]at ei;cases ei|some ρb=>rw[hbd]at ei;obtain⟨flb,ρc,eb,ei⟩:=aa ei;refine hgo x _ F2 ρi ρb σi H' _ si2.gs rx hbd fun σ2 sb=>?_;have si3:=si2.trans sb;refine⟨F2,ρb,flb,ρc,si3.gs,eb,fun F4 σ4 H4 s4=>?_⟩;have Z9:=si3.trans s4;cases flb with|next=>exact⟨_,by omega,F4,ρc,Z9,rfl,hlt,ei⟩|cont=>exact⟨_,by omega,F4,ρc,Z9,rfl,hlt,ei⟩|brk=>cases ei;exact k F4 σ4 H4 (w.fin _ _ _ _ Z9).1|ret r=>cases ei;intro v rr;obtain⟨z1,z2⟩:=w.fin _ _ _ _ Z9;exact k F4 σ4 H4 z1 v (z2 v r (rr.later si3))
 . left;have hdr:ds.drop i=[]:=by rw[drop_eq_nil_iff];omega
   rw[hdr,fO]at ei;cases ei;exact⟨s2 (by omega),k Fi σi Hi (w.fin _ _ _ _ si).1⟩
theorem lO(i:Nat):(fun(ρ:List Sl)(d:D)=>bI ρ [i] true d)=fun ρ d=>put ρ i (.val false d):=by funext ρ d;rfl
theorem zQ{i:Nat}{x:Str}{pos':Pos}(hp:PassesOwn (model X.prog X.w) X.A X.env X.xe)(hc:X.calm=true)(hN:X.N.Nodup)(hx0:X.N[i]?=some x)(hx:Loc X.env.scope x)(hi:SI X c (.Name x pos') iter p)(hb:SB X c n body ss)(hs:∀x,foldedSetIterable iter X.env x=pure x:=by intro _;rfl)(hf:X.fn x=true\/X.env.scope.names.lookup x=some .local:=by first|exact .inl rfl|exact .inr rfl|assumption):SS X c n (.For (.Name x pos') iter body [] pos) (.jw p [i] true ss):=tW hp hc hi (bw hN hx0 hx hf) (by rw[lO];exact uh i) hb hs
theorem yd(hp:PassesOwn (model X.prog X.w) X.A X.env X.xe)(ht:ST X c e p)(hb:SB X c n body ss):SS X c n (.While e body [] pos) (.whl p ss):=by refine cV (FZ hp ht hb) ?_;rintro D σ H⟨F,ρ,fl,ρ',g,e,k⟩;rw[HH.X14]at e;refine⟨fun m σi Hi=>∃Fi ρi,aq X.K F ρ σ H Fi ρi σi Hi/\qt (gH (HH.ev c p)) (eX c n ss) m ρi=.ok fl ρ',⟨n,F,ρ,.refl g,e⟩,?_⟩;rintro m σi Hi⟨Fi,ρi,si,ei⟩;cases m with|zero=>rw[qt]at ei;cases ei|succ m=>rw[qt]at ei;obtain⟨b,ρ1,e1,ei⟩:=aa ei;refine⟨Fi,ρi,b,ρ1,si.gs,e1,fun F1 H1 s1=>?_⟩;have s2:=si.trans s1;cases b with|false=>rw[if_neg Bool.false_ne_true]at ei;cases ei;exact k F1 σi H1 s2|true=>rw[if_pos rfl]at ei;obtain⟨flb,ρc,eb,ei⟩:=aa ei;refine(show ∃N:L2.St->Hp->Prop,_/\_ from⟨fun σ' H'=>∃m',m'<m+1/\∃Fi ρi,aq X.K F ρ σ H Fi ρi σ' H'/\qt (gH (HH.ev c p)) (eX c n ss) m' ρi=.ok fl ρ',fun σ' H' z=>z,F1,ρ1,flb,ρc,s2.gs,eb,fun F4 σ4 H4 s4=>?_⟩);have s5:=s2.trans s4;cases flb with|next=>exact⟨m,by omega,F4,ρc,s5,ei⟩|cont=>exact⟨m,by omega,F4,ρc,s5,ei⟩|brk=>cases ei;exact k F4 σ4 H4 s5|ret r=>cases ei;exact fun v rr=>k F4 σ4 H4 s5 v (rr.later s2)
end
section
variable{X:Cx}{c:Call}{n:Nat}{e elt tg iter:Expr}{p ps pe:P}{pos:Pos}{scope:Scope}{N':List Str}{ifs:List Expr}
theorem PB{t t':TE}(h:PE X e t)(i:∀σ H Q,σ.length=X.N.length->t' σ H Q->t σ H Q):PE X e t':=fun pins s σ H Q I q=>h pins s σ H Q I (i σ H Q I.len q)
def o6(K:PySem.W.Frag)(m:Nat)(is:List Nat)(one:Bool)(g:TG):Prop:=∀(x:V)(d:D)(F:Hp)(ρ ρ':List Sl)(σ:L2.St)(H:Hp)(Q:L2.St->Hp->Prop),GS K F ρ σ H->Rep K F x d->bI ρ is one d=some ρ'->(∀σ',aq K F ρ σ H F ρ' σ' H->σ'.take m=σ.take m->Q σ' H)->g x σ H Q
theorem take_set{α:Type}{l:List α}{i m:Nat}{a:α}(h:m<=i):(l.set i a).take m=l.take m:=by rw[List.take_set_of_le h]
theorem dX{K:PySem.W.Frag}{i m:Nat}(h:m<=i):o6 K m [i] true (iT i):=fun x d F ρ ρ' σ H Q g r hb k=>k _ (aq.put (r:=.val d) (.refl g) r hb) (take_set h)
def Km(K:PySem.W.Frag)(m:Nat)(is:List Nat)(gs:De):Prop:=∀(xs:List V)(ds:List D)(F:Hp)(ρ ρ':List Sl)(σ:L2.St)(H:Hp)(Q:L2.St->Hp->Prop),GS K F ρ σ H->au K F xs ds->putAll ρ is ds=some ρ'->(∀σ',aq K F ρ σ H F ρ' σ' H->σ'.take m=σ.take m->Q σ' H)->gs xs σ H Q
theorem uO{K:PySem.W.Frag}{m i:Nat}{is:List Nat}{gs:De}(hi:m<=i)(ih:Km K m is gs):Km K m (i::is) (Ek (iT i) gs):=by intro xs ds F ρ ρ' σ H Q g r h k;cases ds with|nil=>simp[putAll]at h|cons d ds=>obtain⟨v,vs,rfl,h1,h2⟩:=r.bT;rw[putAll]at h;obtain⟨ρ1,e1,e2⟩:=bF h;have s1:=aq.put (r:=.val d) (.refl g) h1 e1;exact⟨v,vs,rfl,ih vs ds F ρ1 ρ' _ H _ s1.gs h2 e2 fun σ' s2 z=>k σ' (s1.trans s2) (z.trans (take_set hi))⟩
theorem KJ{K:PySem.W.Frag}{m:Nat}:Km K m [] PX:=by intro xs ds F ρ ρ' σ H Q g r h k;cases ds with|nil=>rw[putAll]at h;cases h;exact⟨r.fu,k σ (.refl g) rfl⟩|cons d ds=>simp[putAll]at h
theorem Iw{K:PySem.W.Frag}{is:List Nat}{gs:De}{m l:Nat}(hm:l=is.length)(h:Km K m is gs):o6 K m is false (O5 K l gs):=by intro x d F ρ ρ' σ H Q g r hb k;cases d with|tup ds=>replace hb:putAll ρ is ds=some ρ':=hb;rw[Rep]at r;obtain⟨a,xs,rfl,h1,h2⟩:=r;exact⟨a,xs,rfl,aG.gq g.sub h1,by rw[h2.length,jU hb,hm],h xs _ F ρ ρ' σ H Q g h2 hb k⟩|_=>cases hb
def SQ(X:Cx)(c:Call)(ifs:List Expr)(t:Option P):Prop:=QL X ifs (HR X.K (m9 c t))
theorem gO:SQ X c [] none:=fun pins s σ H Q I⟨F,ρ,k,ρ',g,e,q⟩=>by rw[m9]at e;cases e;exact KD pins s σ H Q I (q F H (.refl g))
theorem Jb(h:ST X c e p):SQ X c [e] (some p):=fun pins s σ H Q I⟨F,ρ,k,ρ',g,e,q⟩=>by rw[m9]at e;exact J3 h pins s σ H Q I ⟨F,ρ,k,ρ',g,e,q⟩
theorem aq.Dr{K:PySem.W.Frag}{F H F1 H1:Hp}{ρ ρ1:List Sl}{σ σ1:L2.St}{Da:Addr}{o:HO}(s:aq K F ρ σ H F1 ρ1 σ1 H1)(h:H Da=none)(hf:F1 Da=none)(ho:¬ Own ρ1 σ1 Da):aq K F ρ σ H F1 ρ1 σ1 (upd H1 Da o):=by
 refine⟨⟨fun b u e=>?_,s.gs.len,s.gs.val,fun i t ds e e'=>?_,s.gs.dis⟩,s.bZ,s.wR,fun b u e n=>?_,s.uJ,s.len,s.lk⟩
 . have:b≠Da:=by rintro rfl;rw[hf]at e;cases e
   rw[ao this];exact s.gs.sub b u e
 . obtain⟨a,xs,q1,q2,q3,q4⟩:=s.gs.own i t ds e e';have:a≠Da:=by rintro rfl;exact ho ⟨i,⟨t,ds,e,e'⟩,q1⟩
   exact⟨a,xs,q1,by rw[ao this];exact q2,q3,q4⟩
 . have:b≠Da:=by rintro rfl;rw[h]at e;cases e
   rw[ao this];exact s.keep b u e n
theorem Ex{K:PySem.W.Frag}{F H:Hp}{ρ ρ1 ρ2:List Sl}{σ:L2.St}{ul:List Sl->List Sl}{ti:TI}{is:List Nat}{one:Bool}{test:List Sl->Res Bool}{el:Ev}{g:TG}{Q:VK}{ds xs:List D}{m:Nat}(hm:σ.length=m)(hgo:o6 K m is one g)(hti:∀R:It->Hp->Prop,(∀J F1 H1,Walk K F ρ σ H ul J ds F1 ρ1 H1->R J H1)->ti σ H R)(hlim:ds.length<=lim)(e2:turns is one test el ds [] (ρ1++replicate n .aP)=.ok xs ρ2)(k:∀v F' H',aq K F ρ σ H F' (ul (ρ2.take ρ1.length)) σ H'->bM K F' (ul (ρ2.take ρ1.length)) σ H' ρ σ H v (.own xs)->Q v H'):qK n ti g (HR K test) (xf K el) σ H Q:=by
 refine hti _ fun J F1 H1 w Da Be=>?_;have hl1:ρ1.length=σ.length:=w.gs.len;have gm:=w.gs.more (n:=n) (τ:=replicate n none) (by simp);have fD:F1 Da=none:=by cases q:F1 Da with|none=>rfl|some o=>rw[w.gs.sub Da o q]at Be;cases Be
 have nO:¬ Own (ρ1++replicate n .aP) (σ++replicate n none) Da:=fun⟨i,⟨t,dt,q1,q2⟩,q3⟩=>by obtain⟨a,ys,z1,z2,_⟩:=gm.own i t dt q1 q2;rw[q3]at z1;cases z1;rw[Be]at z2;cases z2
 refine⟨fun i mm ys σi Hi=>∃Fi ρi acc,aq K F1 (ρ1++replicate n .aP) (σ++replicate n none) H1 Fi ρi σi Hi/\σi.take m=σ/\Hi Da=some (.lst ys)/\Fi Da=none/\¬ Own ρi σi Da/\au K Fi ys acc/\acc.length<=i/\mm=ds.length-i/\i<=ds.length/\turns is one test el (ds.drop i) acc ρi=.ok xs ρ2,⟨_,F1,_,[],(aq.refl gm).Dr Be fD nO,by rw[List.take_append_of_le_length (by omega),take_of_length_le (by omega)],aH,fD,nO,.nil,zero_le _,rfl,zero_le _,e2⟩,?_⟩;rintro i mm ys σi Hi⟨Fi,ρi,acc,si,hσ,hD,hF,hO,rs,hacc,rfl,hle,ei⟩;refine⟨hD,?_⟩--what stays of the new list through a step
 have stay:∀{F2 H2:Hp}{ρ3:List Sl}{σ2:L2.St},aq K Fi ρi σi Hi F2 ρ3 σ2 H2->H2 Da=some (.lst ys)/\F2 Da=none/\¬ Own ρ3 σ2 Da:=fun{F2 H2 ρ3 σ2}s=>by
  refine⟨s.keep Da _ hD hO,?_,fun o=>?_⟩;.cases q:F2 Da with|none=>rfl|some o=>
      rcases s.wR Da hF (by rw[q];simp)with z|z;.exact absurd z hO
      .exact(Gm hD z).elim
  . rcases s.uJ Da o with z|z;.exact hO z
    .rw[hD]at z;cases z
 obtain⟨s1,s2⟩:=w.src n i Fi ρi σi Hi si;by_cases hlt:i<ds.length
 . right;have hd:ds[i]?=some ds[i]:=by simp[hlt]
   obtain⟨go,step⟩:=s1 _ hd;refine⟨go,fun x H2 y=>?_⟩;obtain⟨F2,ext,rx⟩:=step x H2 y;have t2:=ext.stp si.gs;rw[drop_eq_getElem_cons hlt,turns]at ei;cases hbd:bI ρi is one ds[i]with|none=>rw[hbd]at ei;cases ei|some ρb=>rw[hbd]at ei;obtain⟨bb,ρc,eb,ei⟩:=aa ei;refine hgo x _ F2 ρi ρb σi H2 _ t2.gs rx hbd fun σ2 sb htk=>?_;have t3:=t2.trans sb;refine⟨F2,ρb,bb,ρc,t3.gs,eb,fun F4 H4 s4=>?_⟩;have t4:=t3.trans s4;cases bb with|false=>rw[if_neg Bool.false_ne_true]at ei;obtain⟨y1,y2,y3⟩:=stay t4;exact⟨_,by omega,F4,ρc,acc,si.trans t4,htk.trans hσ,y1,y2,y3,rs.mono t4.bZ,by omega,rfl,hlt,ei⟩|true=>
       rw[if_pos rfl]at ei;obtain⟨re,ρe,ee,ei⟩:=aa ei;refine(show xf K el σ2 H4 _ from⟨F4,ρc,re,ρe,t4.gs,ee,fun v F5 H5 s5 rr=>?_⟩);obtain⟨F6,s6,_,rp⟩:=s5.cC rr;have t6:=t4.trans s6;obtain⟨y1,y2,y3⟩:=stay t6;have hlen:ys.length<sizeLine:=by have h1:=rs.length;have h2:lim=sizeLine:=rfl;omega
       exact⟨y1,hlen,_,by omega,F6,ρe,acc++[re.d],(si.trans t6).Dr Be y2 y3,htk.trans hσ,aH,y2,y3,(rs.mono t6.bZ).append (.cons rp .nil),by simp;omega,rfl,hlt,ei⟩
 . left;have hdr:ds.drop i=[]:=by rw[drop_eq_nil_iff];omega
   rw[hdr,turns]at ei;cases ei;refine⟨s2 (by omega),?_⟩;obtain⟨l1,l2⟩:=aq.less (m:=ρ1.length) rfl w.gs (by simp) si;have hst:σi.take ρ1.length=σ:=by rw[hl1,hm];exact hσ
   rw[hst]at l1;have rr:bM K Fi ρ2 σi Hi (ρ1++replicate n .aP) (σ++replicate n none) H1 (.ref Da) (.own xs):=⟨Da,ys,rfl,hD,hF,rs,hO,.inr Be⟩;have Nf:=l2 _ _ rr;rw[hst]at Nf;obtain⟨z1,z2⟩:=w.fin _ _ _ _ l1;exact k _ Fi Hi z1 (z2 _ _ Nf)
theorem K1{K:PySem.W.Frag}{F H:Hp}{ρ:List Sl}{σ:L2.St}{iv:Option Nat}{f:Ev}{is:List Nat}{one:Bool}{test:List Sl->Res Bool}{el:Ev}{g:TG}{Q:VK}{r:R}{ρ':List Sl}{m:Nat}(hm:σ.length=m)(hgo:o6 K m is one g)(g0:GS K F ρ σ H)(e:((srcOf iv f ρ).bind fun ds ρ₁=>if ds.length<=lim then(turns is one test el ds [] (ρ₁++replicate n .aP)).bind fun xs ρ₂=>Res.ok (R.own xs) (aQ ρ iv (ρ₂.take ρ₁.length))else .stuck)=.ok r ρ')(k:∀v F' H',aq K F ρ σ H F' ρ' σ H'->bM K F' ρ' σ H' ρ σ H v r->Q v H'):qK n (tIt K iv f) g (HR K test) (xf K el) σ H Q:=by
 obtain⟨ds,ρ1,e1,e⟩:=aa e;split at e;.rename_i hlim;obtain⟨xs,ρ2,e2,e⟩:=aa e;cases e;exact Ex hm hgo (fun R h=>⟨F,ρ,ds,ρ1,g0,e1,h⟩) hlim e2 k
 .cases e
theorem gJ{g:TG}{is:List Nat}{one:Bool}{t:Option P}(hc:X.calm=true)(ok:dZ X scope N' n)(hi:SI X c tg iter ps)(hg:∀cl C s₀ H₀ ex,PG (uP X scope N' cl C s₀ H₀ ex) tg g)(hgo:o6 X.K X.N.length is one g)(ht:∀cl C s₀ H₀ ex,SQ (uP X scope N' cl C s₀ H₀ ex) c ifs t)(he:∀cl C s₀ H₀ ex,SX (uP X scope N' cl C s₀ H₀ ex) c elt pe)(hs:∀x,foldedSetIterable iter X.env x=pure x:=by intro _;rfl):SX X c (.ListComp elt [⟨tg,iter,ifs,0⟩] scope pos) (.comp ps n is one t pe):=by refine⟨PB (Jv (tt:=HR X.K (m9 c t)) (te:=xf X.K (HH.ev c pe)) hc ok hi hg ht (fun cl C s₀ H₀ ex=>(he cl C s₀ H₀ ex).ev) hs) ?_,fun i h=>by cases h⟩;rintro σ H Q hl⟨F,ρ,r,ρ',g0,e,k⟩;rw[HH.E18]at e;exact K1 hl hgo g0 e k
end
section
variable{X:Cx}{c:Call}{n:Nat}{e a b d:Expr}{p pa pb pd:P}{pos:Pos}{es:List Expr}{ps:List P}
noncomputable def tyN:D->String|.non=>"NoneType"|.bl _=>"bool"|.int _=>"int"|.str _=>"str"|.tup _=>"tuple"|.lst _=>"list"|.cN _=>"dict"|.dv _ _=>"dict"
noncomputable def Vn:Ty->String|.none=>"NoneType"|.bool=>"bool"|.int=>"int"|.str=>"str"|.tuple=>"tuple"|.list=>"list"
theorem Wm(K:PySem.W.Frag)(t:Ty)(d:D):PySem.W.kitOne K (.type (tyN d)) (.type (Vn t))=some (bJ t d):=by cases t<;>cases d<;>rfl
theorem Xc{pins:List (Addr×Obj)}{σ:L2.St}{H F:Hp}{s:Shared}{x:V}{u:Value}{dt:D}(I:L2.Inv X pins σ H s)(sm:aG F H)(px:cO X.K F H x dt)(rx:RelV x u):(∃Hq,PySem.W.KitX X.K u (.type (tyN dt)) Hq/\Hq s.heap)/\u≠.builtin "__main__.__loader__#opaque":=by cases dt with|non=>rw[px.non]at rx;cases rx;exact⟨⟨_,PySem.W.kitx_none,trivial⟩,nofun⟩|bl y=>rw[px.bl]at rx;cases rx;exact⟨⟨_,PySem.W.kitx_bool,trivial⟩,nofun⟩|int i=>rw[px.int]at rx;obtain⟨t,rfl⟩:=rx;exact⟨⟨_,PySem.W.kitx_int,trivial⟩,nofun⟩|str y=>rw[px.str]at rx;obtain⟨t,rfl⟩:=rx;exact⟨⟨_,PySem.W.kitx_str,trivial⟩,nofun⟩|tup ds=>obtain⟨q,xs,rfl,hq,_⟩:=px.tup sm;cases rx;obtain⟨its,_,⟨o,h1,h2,_⟩,_⟩:=I.tuple hq;exact⟨⟨_,PySem.W.kitx_tuple,⟨o,h1,h2⟩⟩,nofun⟩|lst ds=>obtain⟨q,xs,rfl,hq,_⟩:=px.lst sm;cases rx;obtain⟨its,_,pl,_⟩:=I.list hq;obtain⟨o,h1,h2,_⟩:=pl.isList;exact⟨⟨_,PySem.W.kitx_list,⟨o,h1,h2⟩⟩,nofun⟩|cN m=>obtain⟨q,_,rfl,hq⟩:=px.cN sm;cases rx;obtain⟨o,h1,h2⟩:=GZ I hq;exact⟨⟨_,kitx_dict,⟨o,h1,h2⟩⟩,nofun⟩|dv ks ds=>obtain⟨q,_,vs,rfl,hq,_⟩:=px.dv sm;cases rx;obtain⟨o,h1,h2⟩:=Gj I hq;exact⟨⟨_,kitx_dict,⟨o,h1,h2⟩⟩,nofun⟩
theorem Ny(t:Ty):dm X (.builtin "isinstance") (fun xs H Q=>∃x F dt,xs=[x,.ty (Vn t)]/\aG F H/\cO X.K F H x dt/\Q (.bl (bJ t dt)) H):=by rintro pins s σ H xs us Q I r⟨x,F,dt,hx,sm,px,q⟩;subst hx;obtain⟨u,w',rfl,rx,rt⟩:=r.two;cases(show w'=Value.type (Vn t)from rt);obtain⟨⟨Hq,Z,hz⟩,hne⟩:=Xc I sm px rx;exact PySem.W.kia_one Z I.O8 hz (Wm _ t dt) hne fun tk=>⟨.bl _,H,I.tok tk,rfl,q⟩
theorem Hc:bootBuiltins "isinstance"=some (.builtin "isinstance"):=by decide+kernel
theorem uK{x y:Str}{p' p2:Pos}(t:Ty)(hx:x="isinstance")(hg:Gl X x)(hm:X.mg x=none)(ha:SX X c a pa)(hgy:Gl X y)(hmy:X.mg y=none)(hy:bootBuiltins y=some (.type (Vn t)))(hny:y≠"__name__":=by decide)(hdy:(y==("__debug__":Str))=false:=by decide)(hs:starEach [a,.Name y p2] X.env=(false,eval a X.env)::starEach [.Name y p2] X.env:=by rfl):SX X c (.Call (.Name x p') [a,.Name y p2] [] pos) (.inst [t] pa):=by subst hx;obtain⟨ta,h1,h2⟩:=ha.bN;refine⟨cT (dY (Ny t) hg hm Hc (bA h1 (bA (Ks (v:=.ty (Vn t)) hgy hmy hy rfl hny hdy) cL) hs) (he:=hs)) ?_,fun i h=>by cases h⟩;rintro σ H Q⟨F,ρ,r,ρ',g,e,k⟩;rw[HH.E17]at e;obtain⟨dt,ρ1,e1,e⟩:=aa e;cases e;refine h2 g e1 fun v F' H' s pv=>⟨v,F',dt,rfl,s.gs.sub,pv,k _ F' H' s ?_⟩;show Rep X.K F' _ _;rw[any_cons,List.any_nil,Bool.or_false];exact ir _
inductive rBn(K:PySem.W.Frag)(f:List D->Option R)(xs:List V)(H:Hp)(Q:VK):Prop where|mk(F:Hp)(ds:List D)(r:R)(sm:aG F H)(rs:au K F xs ds)(he:f ds=some r)(k:∀v F' H',Ext F H F' H'->bK K F' H' H v r->Q v H')
theorem V0{E:Expr}{f:List D->Option R}{q:P}(hp:∀{t},PA X es t->PE X E (Yo (rBn X.K f) t))(ha:SA X c es ps)(hq:∀ρ,HH.ev c q ρ=(evs c ps ρ).bind fun ds ρ=>lift (f ds) ρ)(hv:isVar q=none):SX X c E q:=by refine⟨cT (hp ha.1) ?_,fun i h=>by rw[hv]at h;cases h⟩;rintro σ H Q⟨F,ρ,r,ρ',g,e,k⟩;rw[hq]at e;obtain⟨ds,ρ1,e1,e2⟩:=aa e;have zz:=aA e2;clear e2;obtain⟨e2,e3⟩:=zz;subst e3;exact⟨F,ρ,ds,ρ1,g,e1,fun vs F' H' s rs=>⟨F',ds,r,s.gs.sub,rs,e2,fun w F2 H2 x rn=>k w F2 H2 (s.trans (x.stp s.gs)) (.later s (rn.m5 s.gs))⟩⟩
theorem WY{K:PySem.W.Frag}{F:Hp}{xs:List V}{i j:Int}(h:au K F xs [.int i,.int j]):xs=[.int i,.int j]:=by obtain⟨v,r,rfl,h1,h2⟩:=h.bT;obtain⟨u,r2,rfl,h3,h4⟩:=h2.bT;rw[Rep]at h1 h3;rw[h1,h3,h4.fu]
theorem inv2{f:Zq}{g:Int->Int->Int}{ds:List D}{r:R}(h0:blt f []=none)(h1:∀a,blt f [a]=none)(h3:∀a b c l,blt f (a::b::c::l)=none)(hn:∀a b,cX a=false->blt f [a,b]=none)(hm:∀i b,cX b=false->blt f [.int i,b]=none)(hi:∀i j,blt f [.int i,.int j]=some (.val (.int (g i j))))(he:blt f ds=some r):∃i j,ds=[.int i,.int j]/\r=.val (.int (g i j)):=by
 rcases ds with _|⟨a,_|⟨b,_|⟨c,l⟩⟩⟩;.rw[h0]at he;cases he
 .rw[h1]at he;cases he
 . by_cases ha:cX a=true
   . obtain⟨i,rfl⟩:∃i,a=.int i:=by cases a<;>first|exact⟨_,rfl⟩|cases ha
     by_cases hb:cX b=true
     . obtain⟨j,rfl⟩:∃j,b=.int j:=by cases b<;>first|exact⟨_,rfl⟩|cases hb
       rw[hi]at he;cases he;exact⟨i,j,rfl,rfl⟩
     .rw[hm i b (by simpa using hb)]at he;cases he
   .rw[hn a b (by simpa using ha)]at he;cases he
 .rw[h3]at he;cases he
theorem PL(hc:X.calm=true):dm X (.builtin "max") (rBn X.K (blt .max2)):=by rintro pins s σ H xs us Q I r⟨F,ds,r',sm,rs,he,k⟩;obtain⟨i,j,rfl,rfl⟩:=inv2 (g:=fun i j=>if i<j then j else i) rfl (fun a=>by cases a<;>rfl) (fun a b c l=>by cases a<;>first|rfl|(cases b<;>rfl)) (fun a b h=>by cases a<;>first|rfl|cases h) (fun i b h=>by cases b<;>first|rfl|cases h) (fun _ _=>rfl) he;rw[WY rs]at r;exact Cr hc pins s σ H _ us Q I r ⟨_,_,rfl,bK.cY sm (bH _) k⟩
theorem boot_min:bootBuiltins "min"=some (.builtin "min"):=by decide+kernel
theorem boot_max:bootBuiltins "max"=some (.builtin "max"):=by decide+kernel
theorem tu{x:Str}{p':Pos}(hx:x="max")(hc:X.calm=true)(hg:Gl X x)(hm:X.mg x=none)(ha:SA X c [a,b] [pa,pb])(hs:starEach [a,b] X.env=(false,eval a X.env)::starEach [b] X.env:=by rfl)(hpl:(backTo pos (starEach [b] X.env)).any (·.1)=false:=by rfl):SX X c (.Call (.Name x p') [a,b] [] pos) (.blt .max2 [pa,pb]):=by subst hx;exact V0 (fun h=>dY (PL hc) hg hm boot_max h (he:=hs) (hpl:=hpl)) ha (fun ρ=>rfl) rfl
end
section
variable{X:Cx}{c:Call}{n:Nat}{e a b d:Expr}{p pa pb pd:P}{pos:Pos}{es:List Expr}{ps:List P}
theorem tM{K:PySem.W.Frag}{F H:Hp}{ρ:List Sl}{σ:L2.St}{i:Nat}{ds:List D}(g:GS K F ρ σ H)(h:yF ρ i=some ds):∃a xs,σ[i]?=some (some (V.ref a))/\dz K H a xs:=by
 unfold yF at h;split at h;.rename_i q;cases h;obtain⟨v,h1,h2⟩:=g.pk q;obtain⟨a,xs,rfl,h3,_⟩:=h2.lst g.sub;exact⟨a,xs,h1,h3⟩
 .cases h
theorem ug{x:Str}{k:Nat}{px tpos:Pos}(hN:X.N[k]?=some x)(hv:uY X.env.scope x)(hi:SX X c b pb)(he:SX X c e p)(ha:∀ v,assign (.Subscript (.Name x px) b tpos) X.env v=(do
  let ov<-holding [v] (eval (.Name x px) X.env)let iv<-holding [v,ov] (eval b X.env)standAt tpos
  holding [v,ov,iv] (setItem ov iv v)release [v,ov,iv] []):=by intro _;rfl)(hs:swapsWithSole [.Subscript (.Name x px) b tpos] e pos.line X.env=pure false:=by rfl)(hw:swappedStores [.Subscript (.Name x px) b tpos] e X.env=pure none:=by rfl)(h1:(assignEach [.Subscript (.Name x px) b tpos] X.env).map (·.2)=[assign (.Subscript (.Name x px) b tpos) X.env]:=by rfl)(hd:(x==("__debug__":Str))=false:=by decide)(hcd:(x==("__classdict__":Str))=false:=by decide):SS X c n (.Assign [.Subscript (.Name x px) b tpos] e pos) (.CP k pb p):=by
 obtain⟨ti,hi1,hi2⟩:=hi.bN;refine cV (Pb he.ev (OJ (cW hN hv hd hcd) hi1 set_list ha) hs hw h1) ?_;rintro D σ H⟨F,ρ,fl,ρ',g,e,kk⟩;rw[HH.X8]at e;obtain⟨r,ρ1,e1,e⟩:=aa e;obtain⟨x0,ρ1',e0,e⟩:=aa e;have zz:=aA e0;clear e0;obtain⟨e0,CV⟩:=zz;subst CV;obtain⟨dk,ρ2,e2,e⟩:=aa e;refine⟨F,ρ,r,ρ1,g,e1,fun v F1 H1 s1 rr=>?_⟩;obtain⟨F2,s2,_,rp⟩:=s1.cC rr;obtain⟨o,ho,_⟩:=s2.gs.pk e0;refine⟨o,ho,hi2 s2.gs e2 fun vi F3 H3 s3 pi=>?_⟩;split at e
 . rename_i bb ds kk' q;split at e;.rename_i j hj;cases e;obtain⟨ad,xs,q1,q2,q3,q4⟩:=s3.gs.pM k _ ds q rfl;rw[ho]at q1;cases q1;refine⟨ad,xs,kk',j,rfl,pi.int,q2,by rw[q4.length];exact hj,?_⟩;exact kk F3 σ _ ((s2.trans s3).trans (s3.gs.mut q ho (q4.set (rp.mono s3.bZ) j)))
   .cases e
 .cases e
theorem mR{x:Str}{k:Nat}{px apos cpos:Pos}(hN:X.N[k]?=some x)(hv:uY X.env.scope x)(he:SX X c e p)(hline:(apos.endLine==cpos.line)=true:=by rfl)(hs:starEach [e] X.env=(false,eval e X.env)::starEach [] X.env:=by rfl)(hbase:attributeBase (.Name x px) "append" X.env (eval (.Name x px) X.env)=eval (.Name x px) X.env:=by rfl)(hfew:((backTo cpos (starEach [e] X.env)).all (fun x=>!x.1)&&(backToKw cpos (keywordEach [] X.env)).all (fun x=>x.1.isSome)&&decide ([e].length+([]:List Keyword).length+(if([]:List Keyword).isEmpty then 0 else 1)<30))=true:=by rfl)(hsw:swapsWith (.Call (.Attribute (.Name x px) "append" apos) [e] [] cpos) none pos.line X.env=pure false:=by rfl)(hd:(x==("__debug__":Str))=false:=by decide)(hcd:(x==("__classdict__":Str))=false:=by decide):SS X c n (.Expr (.Call (.Attribute (.Name x px) "append" apos) [e] [] cpos) pos) (.app k p):=by
 refine cV (uc (Gi plainAttrs_list PySem.F.slot_list_append PySem.F.type_list_append lQ (cW hN hv hd hcd) (bA he.ev cL hs) hbase hfew hline hs) hsw) ?_;rintro D σ H⟨F,ρ,fl,ρ',g,e,kk⟩;rw[HH.X9]at e;obtain⟨d0,ρ0,e0,e⟩:=aa e;have zz:=aA e0;clear e0;obtain⟨e0,CV⟩:=zz;subst CV;obtain⟨r,ρ1,e1,e⟩:=aa e;obtain⟨a,xs,h1,h2⟩:=tM g e0;refine⟨.ref a,h1,.inl ⟨rfl,xs,h2⟩,F,ρ,r,ρ1,g,e1,fun v F1 H1 s1 rr=>?_⟩;obtain⟨F2,s2,_,rp⟩:=s1.cC rr;split at e
 . rename_i bb ds q;split at e;.rename_i hlt;cases e;obtain⟨ad,ys,q1,q2,q3,q4⟩:=s2.gs.pM k _ ds q rfl;rw[h1]at q1;cases q1;exact⟨_,ys,v,rfl,rfl,q2,by rw[q4.length];exact hlt,kk F2 σ _ (s2.trans (s2.gs.mut q h1 (q4.append (.cons rp .nil))))⟩
   .cases e
 .cases e
theorem Gv{i j:Nat}{x y:Str}{px py pt:Pos}{kt k2 R4}(hc:X.calm=true)(hN:X.N.Nodup)(hi:X.N[i]?=some x)(hj:X.N[j]?=some y)(hij:i≠j)(hx:X.env.scope.names.lookup x=some .local)(hy:X.env.scope.names.lookup y=some .local)(ha:SX X c a pa)(hb:SX X c b pb)(hw:swappedStores [.Tuple [.Name x px,.Name y py] kt pt] (.Tuple [a,b] k2 R4) X.env=pure (some [x,y]):=by rfl)(hs:swapsWithSole [.Tuple [.Name x px,.Name y py] kt pt] (.Tuple [a,b] k2 R4) pos.line X.env=pure false:=by rfl)(h1:starEach [a,b] X.env=(false,eval a X.env)::starEach [b] X.env:=by rfl)(h2:starEach [b] X.env=(false,eval b X.env)::starEach [] X.env:=by rfl):SS X c n (.Assign [.Tuple [.Name x px,.Name y py] kt pt] (.Tuple [a,b] k2 R4) pos) (.par i j pa pb):=by refine cV (L2.QJ hc hN hi hj hij hx hy (bA ha.ev (bA hb.ev cL h2) h1) hw hs) ?_;rintro D σ H⟨F,ρ,fl,ρ',g,e,k⟩;rw[HH.X7]at e;obtain⟨r,ρ1,e1,e⟩:=aa e;obtain⟨r2,ρ2,e2,e⟩:=aa e;obtain⟨ρ3,ρ4,e3,e⟩:=aa e;cases e;have zz:=aA e3;clear e3;obtain⟨e3,e4⟩:=zz;obtain⟨ρ5,e5,e6⟩:=bF e3;refine⟨F,ρ,r,ρ1,g,e1,fun v F1 H1 s1 rr=>?_⟩;obtain⟨F2,s2,_,rp⟩:=s1.cC rr;refine⟨F2,ρ1,r2,ρ2,s2.gs,e2,fun u F3 H3 s3 rr3=>?_⟩;obtain⟨F4,s4,_,rp4⟩:=s3.cC rr3;refine⟨v,u,rfl,?_⟩;have t4:=s2.trans s4;have t5:=t4.put (r:=.val r.d) (v:=v) (rp.mono s4.bZ) e5;exact k F4 _ H3 (t5.put (r:=.val r2.d) (v:=u) rp4 e6)
end
section
variable{K:PySem.W.Frag}
theorem iQ:∀{xs ys:List D},xs.length≠ys.length->fC xs ys=false|[],[],h=>absurd rfl h|[],_::_,_=>by simp[fC]|_::_,[],_=>by simp[fC]|x::xs,y::ys,h=>by rw[fC,iQ (xs:=xs) (ys:=ys) (by simpa using h),Bool.and_false]
theorem dO:∀{xs ys:List D},xs.length=ys.length->fC xs ys=(List.range xs.length).all fun j=>jC (xs.getD j .non) (ys.getD j .non)|[],[],_=>by rw[fC];rfl|[],_::_,h=>by simp at h|_::_,[],h=>by simp at h|x::xs,y::ys,h=>by rw[fC,dO (xs:=xs) (ys:=ys) (by simpa using h),length_cons,List.range_succ_eq_map,all_cons,List.all_map];rfl
mutual
theorem wF:∀d:D,jC d d=true|.non=>rfl|.bl _=>by exact beq_self_eq_true _|.int _=>by exact beq_self_eq_true _|.str _=>by exact beq_self_eq_true _|.tup ds=>by exact ji ds|.lst ds=>by exact ji ds|.cN _=>by exact decide_eq_true rfl|.dv ks ds=>by rw[jC,ji ds];simp
theorem ji:∀ds:List D,fC ds ds=true|[]=>by rw[fC]|d::ds=>by rw[fC,wF d,ji ds];rfl
end
theorem dj{F:Hp}{d e:D}{v:V}(hf:flat d=true)(h1:Rep K F v d)(h2:Rep K F v e):d=e:=by cases d with
 |tup _=>cases hf|lst _=>cases hf|cN _=>cases hf|dv _ _=>cases hf|non=>rw[Rep]at h1;subst h1;cases e with|non=>rfl|tup _=>rw[Rep]at h2;obtain⟨_,_,q,_⟩:=h2;cases q|lst _=>rw[Rep]at h2;obtain⟨_,_,q,_⟩:=h2;cases q|cN _=>rw[Rep]at h2;obtain⟨_,_,q,_⟩:=h2;cases q|dv _ _=>rw[Rep]at h2;obtain⟨_,_,_,q,_⟩:=h2;cases q|_=>rw[Rep]at h2;cases h2
 |bl k=>rw[Rep]at h1;subst h1;cases e with|bl _=>rw[Rep]at h2;cases h2;rfl|tup _=>rw[Rep]at h2;obtain⟨_,_,q,_⟩:=h2;cases q|lst _=>rw[Rep]at h2;obtain⟨_,_,q,_⟩:=h2;cases q|cN _=>rw[Rep]at h2;obtain⟨_,_,q,_⟩:=h2;cases q|dv _ _=>rw[Rep]at h2;obtain⟨_,_,_,q,_⟩:=h2;cases q|_=>rw[Rep]at h2;cases h2
 |int k=>rw[Rep]at h1;subst h1;cases e with|int _=>rw[Rep]at h2;cases h2;rfl|tup _=>rw[Rep]at h2;obtain⟨_,_,q,_⟩:=h2;cases q|lst _=>rw[Rep]at h2;obtain⟨_,_,q,_⟩:=h2;cases q|cN _=>rw[Rep]at h2;obtain⟨_,_,q,_⟩:=h2;cases q|dv _ _=>rw[Rep]at h2;obtain⟨_,_,_,q,_⟩:=h2;cases q|_=>rw[Rep]at h2;cases h2
 |str k=>rw[Rep]at h1;subst h1;cases e with|str _=>rw[Rep]at h2;cases h2;rfl|tup _=>rw[Rep]at h2;obtain⟨_,_,q,_⟩:=h2;cases q|lst _=>rw[Rep]at h2;obtain⟨_,_,q,_⟩:=h2;cases q|cN _=>rw[Rep]at h2;obtain⟨_,_,q,_⟩:=h2;cases q|dv _ _=>rw[Rep]at h2;obtain⟨_,_,_,q,_⟩:=h2;cases q|_=>rw[Rep]at h2;cases h2
theorem JR{X:Cx}{pins:List (Addr×Obj)}{σ:L2.St}{H F:Hp}{s:Shared}(I:L2.Inv X pins σ H s)(sm:aG F H):∀n:Nat,(∀d:D,cJ n d=true->∀(v:V)(e:D),Rep X.K F v d->Rep X.K F v e->d=e):=by
 have tl:∀{a:Addr}{xs ys:List V},jm X.K F a xs->dz X.K F a ys->False:=fun{a xs ys}h1 h2=>by obtain⟨_,_,⟨o,q1,q2,_⟩,_⟩:=I.tuple (aG.gq sm h1);obtain⟨_,_,pl,_⟩:=I.list (sm.seq h2);obtain⟨o',q3,q4,_⟩:=pl.isList;rw[q1]at q3;cases q3;rw[q2]at q4;exact absurd q4 (by decide)
 have dd:∀{a:Addr}{kvs:Dc},Rep X.K F (.ref a) (.cN kvs)->∃o,s.heap.get? a=some o/\o.cls=.type "dict":=fun{a kvs}h=>by rw[Rep]at h;obtain⟨a',_,q,hq⟩:=h;cases q;exact GZ I (sm _ _ hq)
 have td:∀{a:Addr}{xs:List V}{kvs:Dc},jm X.K F a xs->Rep X.K F (.ref a) (.cN kvs)->False:=fun{a xs kvs}h1 h2=>by obtain⟨_,_,⟨o,q1,q2,_⟩,_⟩:=I.tuple (aG.gq sm h1);obtain⟨o',q3,q4⟩:=dd h2;rw[q1]at q3;cases q3;rw[q2]at q4;exact absurd q4 (by decide)
 have ld:∀{a:Addr}{xs:List V}{kvs:Dc},dz X.K F a xs->Rep X.K F (.ref a) (.cN kvs)->False:=fun{a xs kvs}h1 h2=>by obtain⟨_,_,pl,_⟩:=I.list (sm.seq h1);obtain⟨o,q1,q2,_⟩:=pl.isList;obtain⟨o',q3,q4⟩:=dd h2;rw[q1]at q3;cases q3;rw[q2]at q4;exact absurd q4 (by decide)
 have dd2:∀{a:Addr}{ks:List Int}{es:List D},Rep X.K F (.ref a) (.dv ks es)->∃o,s.heap.get? a=some o/\o.cls=.type "dict":=fun{a ks es}h=>by rw[Rep]at h;obtain⟨a',_,_,q,hq,_⟩:=h;cases q;exact Gj I (sm _ _ hq)
 have td2:∀{a:Addr}{xs:List V}{ks:List Int}{es:List D},jm X.K F a xs->Rep X.K F (.ref a) (.dv ks es)->False:=fun{a xs ks es}h1 h2=>by obtain⟨_,_,⟨o,q1,q2,_⟩,_⟩:=I.tuple (aG.gq sm h1);obtain⟨o',q3,q4⟩:=dd2 h2;rw[q1]at q3;cases q3;rw[q2]at q4;exact absurd q4 (by decide)
 have ld2:∀{a:Addr}{xs:List V}{ks:List Int}{es:List D},dz X.K F a xs->Rep X.K F (.ref a) (.dv ks es)->False:=fun{a xs ks es}h1 h2=>by obtain⟨_,_,pl,_⟩:=I.list (sm.seq h1);obtain⟨o,q1,q2,_⟩:=pl.isList;obtain⟨o',q3,q4⟩:=dd2 h2;rw[q1]at q3;cases q3;rw[q2]at q4;exact absurd q4 (by decide)
 intro n;induction n with
 |zero=>intro d hd v e h1 h2;cases d with|tup _=>simp[cJ]at hd|lst _=>simp[cJ]at hd|cN _=>simp[cJ]at hd|dv _ _=>simp[cJ]at hd|non=>exact dj rfl h1 h2|bl k=>exact dj rfl h1 h2|int k=>exact dj rfl h1 h2|str k=>exact dj rfl h1 h2
 |succ n ih=>
   have all:∀{xs:List V}{ds es:List D},ds.all (cJ n)=true->au X.K F xs ds->au X.K F xs es->ds=es:=fun{xs ds}=>by induction ds generalizing xs with|nil=>intro es _ h1 h2;rw[h1.fu]at h2;have:=h2.length;exact(List.eq_nil_of_length_eq_zero this.symm).symm|cons d ds ih2=>intro es ha h1 h2;rw[all_cons,and_eq_true]at ha;obtain⟨v,r,rfl,q1,q2⟩:=h1.bT;cases es with|nil=>cases h2.fu|cons e es=>obtain⟨v',r',q0,q3,q4⟩:=h2.bT;cases q0;rw[ih d ha.1 v e q1 q3,ih2 ha.2 q2 q4]
   intro d hd v e h1 h2;cases d with
   |cN _=>simp[cJ]at hd|dv _ _=>simp[cJ]at hd|tup ds=>
     have ha:ds.all (cJ n)=true:=by simpa[cJ]using hd
     rw[Rep]at h1;obtain⟨a,xs,rfl,z1,z2⟩:=h1;cases e with|tup es=>rw[Rep]at h2;obtain⟨a',ys,q,w1,w2⟩:=h2;cases q;have:=I.qU (aG.gq sm z1) (aG.gq sm w1);subst this;rw[all ha z2 w2]|lst es=>rw[Rep]at h2;obtain⟨a',ys,q,w1,w2⟩:=h2;cases q;exact(tl z1 w1).elim|cN _=>exact(td z1 h2).elim|dv _ _=>exact(td2 z1 h2).elim|_=>rw[Rep]at h2;cases h2
   |lst ds=>
     have ha:ds.all (cJ n)=true:=by simpa[cJ]using hd
     rw[Rep]at h1;obtain⟨a,xs,rfl,z1,z2⟩:=h1;cases e with|lst es=>rw[Rep]at h2;obtain⟨a',ys,q,w1,w2⟩:=h2;cases q;have:=I.vD (sm.seq z1) (sm.seq w1);subst this;rw[all ha z2 w2]|tup es=>rw[Rep]at h2;obtain⟨a',ys,q,w1,w2⟩:=h2;cases q;exact(tl w1 z1).elim|cN _=>exact(ld z1 h2).elim|dv _ _=>exact(ld2 z1 h2).elim|_=>rw[Rep]at h2;cases h2
   |non=>exact dj rfl h1 h2|bl k=>exact dj rfl h1 h2|int k=>exact dj rfl h1 h2|str k=>exact dj rfl h1 h2
theorem zR{A:Around}{s:Shared}{F:Hp}{d e:D}{v u:V}{v' u':Value}(hd:flat d=true)(he:flat e=true)(h1:Rep K F v d)(h2:Rep K F u e)(r1:RelV v v')(r2:RelV u u'):SeqAt.EqAt A s v' u' (jC d e):=by cases d with
 |tup _=>cases hd|lst _=>cases hd|cN _=>cases hd|dv _ _=>cases hd|non=>rw[Rep]at h1;subst h1;cases(show v'=.none from r1);cases e with|tup _=>cases he|lst _=>cases he|cN _=>cases he|dv _ _=>cases he|non=>rw[Rep]at h2;subst h2;cases(show u'=.none from r2);exact SeqAt.EqAt.same _|bl _=>rw[Rep]at h2;subst h2;cases(show u'=.bool _ from r2);exact SeqAt.EqAt.none_bool _|int _=>rw[Rep]at h2;subst h2;obtain⟨t,rfl⟩:=r2;exact SeqAt.EqAt.none_int _ _|str _=>rw[Rep]at h2;subst h2;obtain⟨t,rfl⟩:=r2;exact SeqAt.EqAt.none_str _ _
 |bl _=>rw[Rep]at h1;subst h1;cases(show v'=.bool _ from r1);cases e with|tup _=>cases he|lst _=>cases he|cN _=>cases he|dv _ _=>cases he|non=>rw[Rep]at h2;subst h2;cases(show u'=.none from r2);exact SeqAt.EqAt.bool_none _|bl _=>rw[Rep]at h2;subst h2;cases(show u'=.bool _ from r2);exact SeqAt.EqAt.bool_bool _ _|int _=>rw[Rep]at h2;subst h2;obtain⟨t,rfl⟩:=r2;exact SeqAt.EqAt.bool_int _ _ _|str _=>rw[Rep]at h2;subst h2;obtain⟨t,rfl⟩:=r2;exact SeqAt.EqAt.bool_str _ _ _
 |int _=>rw[Rep]at h1;subst h1;obtain⟨t0,rfl⟩:=r1;cases e with|tup _=>cases he|lst _=>cases he|cN _=>cases he|dv _ _=>cases he|non=>rw[Rep]at h2;subst h2;cases(show u'=.none from r2);exact SeqAt.EqAt.int_none _ _|bl _=>rw[Rep]at h2;subst h2;cases(show u'=.bool _ from r2);exact SeqAt.EqAt.int_bool _ _ _|int _=>rw[Rep]at h2;subst h2;obtain⟨t,rfl⟩:=r2;exact SeqAt.EqAt.int_int _ _ _ _|str _=>rw[Rep]at h2;subst h2;obtain⟨t,rfl⟩:=r2;exact int_str _ _ _ _
 |str _=>rw[Rep]at h1;subst h1;obtain⟨t0,rfl⟩:=r1;cases e with|tup _=>cases he|lst _=>cases he|cN _=>cases he|dv _ _=>cases he|non=>rw[Rep]at h2;subst h2;cases(show u'=.none from r2);exact SeqAt.EqAt.str_none _ _|bl _=>rw[Rep]at h2;subst h2;cases(show u'=.bool _ from r2);exact SeqAt.EqAt.str_bool _ _ _|int _=>rw[Rep]at h2;subst h2;obtain⟨t,rfl⟩:=r2;exact str_int _ _ _ _|str _=>rw[Rep]at h2;subst h2;obtain⟨t,rfl⟩:=r2;exact SeqAt.EqAt.str_str _ _ _ _
theorem lz{A:Around}{s:Shared}{F:Hp}{ds:List D}{e:D}{u:V}{u':Value}{a:Addr}{its:Array Value}(ht:s.heap.IsTuple a its)(hu:A.units<cLine)(he:flat e=true)(h2:Rep K F u e)(r2:RelV u u'):SeqAt.EqAt A s (.ref a) u' (jC (.tup ds) e)/\SeqAt.EqAt A s u' (.ref a) (jC e (.tup ds)):=by cases e with|tup _=>cases he|lst _=>cases he|cN _=>cases he|dv _ _=>cases he|non=>rw[Rep]at h2;subst h2;cases(show u'=.none from r2);exact⟨SeqAt.EqAt.tuple_none ht hu,SeqAt.EqAt.none_tuple ht hu⟩|bl _=>rw[Rep]at h2;subst h2;cases(show u'=.bool _ from r2);exact⟨SeqAt.EqAt.tuple_bool _ ht hu,SeqAt.EqAt.bool_tuple _ ht hu⟩|int _=>rw[Rep]at h2;subst h2;obtain⟨t,rfl⟩:=r2;exact⟨SeqAt.EqAt.tuple_int _ _ ht hu,SeqAt.EqAt.int_tuple _ _ ht hu⟩|str _=>rw[Rep]at h2;subst h2;obtain⟨t,rfl⟩:=r2;exact⟨SeqAt.EqAt.tuple_str _ _ ht hu,SeqAt.EqAt.str_tuple _ _ ht hu⟩
theorem lA{A:Around}{s:Shared}{F:Hp}{ds:List D}{e:D}{u:V}{u':Value}{a:Addr}{its:Array Value}(ht:s.heap.IsList a its)(hu:A.units<cLine)(he:flat e=true)(h2:Rep K F u e)(r2:RelV u u'):SeqAt.EqAt A s (.ref a) u' (jC (.lst ds) e)/\SeqAt.EqAt A s u' (.ref a) (jC e (.lst ds)):=by cases e with|tup _=>cases he|lst _=>cases he|cN _=>cases he|dv _ _=>cases he|non=>rw[Rep]at h2;subst h2;cases(show u'=.none from r2);exact⟨SeqAt.EqAt.list_none ht hu,SeqAt.EqAt.none_list ht hu⟩|bl _=>rw[Rep]at h2;subst h2;cases(show u'=.bool _ from r2);exact⟨SeqAt.EqAt.list_bool _ ht hu,SeqAt.EqAt.bool_list _ ht hu⟩|int _=>rw[Rep]at h2;subst h2;obtain⟨t,rfl⟩:=r2;exact⟨SeqAt.EqAt.list_int _ _ ht hu,SeqAt.EqAt.int_list _ _ ht hu⟩|str _=>rw[Rep]at h2;subst h2;obtain⟨t,rfl⟩:=r2;exact⟨SeqAt.EqAt.list_str _ _ ht hu,SeqAt.EqAt.str_list _ _ ht hu⟩
theorem wj{n:Nat}{d:D}(h:cJ n d=true)(h0:n=0):flat d=true:=by subst h0;cases d<;>first|rfl|simp[cJ]at h
theorem abP{X:Cx}{pins:List (Addr×Obj)}{σ:L2.St}{H F:Hp}{s:Shared}(I:L2.Inv X pins σ H s)(sm:aG F H):∀(n:Nat)(A:Around),A.units+n<cLine->∀(d e:D),cJ n d=true->cJ n e=true->∀(v u:V)(v' u':Value),Rep X.K F v d->Rep X.K F u e->RelV v v'->RelV u u'->SeqAt.EqAt A s v' u' (jC d e):=by intro n;induction n with|zero=>intro A hu d e hd he v u v' u' h1 h2 r1 r2;exact zR (wj hd rfl) (wj he rfl) h1 h2 r1 r2|succ n ih=>
   intro A hu d e hd he v u v' u' h1 h2 r1 r2;have hu0:A.units<cLine:=by omega
   have hu1:A.in1.units+n<cLine:=by show A.units+1+n<cLine;omega--items by place
   have at_:∀{xs ys:List V}{us ws:List Value}{ds es:List D}{j:Nat}(k1:j<us.toArray.size)(k2:j<ws.toArray.size),ds.all (cJ n)=true->es.all (cJ n)=true->Vals xs us->Vals ys ws->au X.K F xs ds->au X.K F ys es->SeqAt.EqAt A.in1 s us.toArray[j] ws.toArray[j] (jC (ds.getD j .non) (es.getD j .non)):=fun{xs ys us ws ds es j}k1 k2 a1 a2 v1 v2 p1 p2=>by
    have k1:j<us.length:=by simpa using k1
    have k2:j<ws.length:=by simpa using k2
    have l1:j<ds.length:=by rw[<-p1.length,v1.length];exact k1
    have l2:j<es.length:=by rw[<-p2.length,v2.length];exact k2
    obtain⟨x,g1,g2⟩:=p1.get (show ds[j]?=some ds[j]by simp[l1]);obtain⟨y,g3,g4⟩:=p2.get (show es[j]?=some es[j]by simp[l2]);obtain⟨x',g5,g6⟩:=v1.get g1;obtain⟨y',g7,g8⟩:=v2.get g3;have e1:us.toArray[j]=x':=by have:=(List.getElem?_eq_some_iff.mp g5).2;simpa using this
    have e2:ws.toArray[j]=y':=by have:=(List.getElem?_eq_some_iff.mp g7).2;simpa using this
    have e3:ds.getD j .non=ds[j]:=by simp[List.getD,l1]
    have e4:es.getD j .non=es[j]:=by simp[List.getD,l2]
    rw[e1,e2,e3,e4];exact ih A.in1 hu1 _ _ (all_eq_true.mp a1 _ (getElem_mem l1)) (all_eq_true.mp a2 _ (getElem_mem l2)) x y x' y' g2 g4 g6 g8--the same object
   have same:∀{a:Addr},v=.ref a->u=.ref a->SeqAt.EqAt A s v' u' (jC d e):=fun{a}q1 q2=>by subst q1;subst q2;have:=JR I sm (n+1) d hd _ e h1 h2;subst this;rw[wF];cases r1;cases r2;exact SeqAt.EqAt.same _
   cases d with
   |cN _=>simp[cJ]at hd|dv _ _=>simp[cJ]at hd|tup ds=>
     have ha:ds.all (cJ n)=true:=by simpa[cJ]using hd
     have h1':=h1;rw[Rep]at h1';obtain⟨a,xs,rfl,z1,z2⟩:=h1';cases r1;obtain⟨us,v1,p1,_⟩:=I.tuple (aG.gq sm z1)
     cases e with|cN _=>simp[cJ]at he|dv _ _=>simp[cJ]at he|tup es=>
       have hb:es.all (cJ n)=true:=by simpa[cJ]using he
       have h2':=h2;rw[Rep]at h2';obtain⟨b,ys,rfl,w1,w2⟩:=h2';by_cases hab:a=b;.subst hab;exact same rfl rfl
       . cases r2;obtain⟨ws,v2,p2,_⟩:=I.tuple (aG.gq sm w1);refine .of_refs hab ?_;have z:=SeqAt.RcAt.tuples (A:=A) (e:=fun j=>jC (ds.getD j .non) (es.getD j .non)) p1 p2 hu0 fun j k1 k2=>at_ k1 k2 ha hb v1 v2 z2 w2;have l1:us.toArray.size=ds.length:=by rw[size_toArray,<-v1.length,z2.length]
         have l2:ws.toArray.size=es.length:=by rw[size_toArray,<-v2.length,w2.length]
         rw[l1,l2]at z;have e0:jC (.tup ds) (.tup es)=((List.range (min ds.length es.length)).all (fun j=>jC (ds.getD j .non) (es.getD j .non))&&ds.length==es.length):=by
          rw[pqt];by_cases hl:ds.length=es.length;.rw[dO hl,hl];simp
          . rw[iQ hl];have:(ds.length==es.length)=false:=by simpa using hl
            rw[this,Bool.and_false]
         rw[e0];exact z|lst es=>rw[Rep]at h2;obtain⟨b,ys,rfl,w1,w2⟩:=h2;cases r2;obtain⟨ws,v2,p2,_⟩:=I.list (sm.seq w1);exact SeqAt.EqAt.tuple_list p1 p2.isList hu0|non=>exact(lz p1 hu0 rfl h2 r2).1|bl _=>exact(lz p1 hu0 rfl h2 r2).1|int _=>exact(lz p1 hu0 rfl h2 r2).1|str _=>exact(lz p1 hu0 rfl h2 r2).1
   |lst ds=>
     have ha:ds.all (cJ n)=true:=by simpa[cJ]using hd
     have h1':=h1;rw[Rep]at h1'
     obtain⟨a,xs,rfl,z1,z2⟩:=h1';cases r1;obtain⟨us,v1,p1,_⟩:=I.list (sm.seq z1);cases e with|cN _=>simp[cJ]at he|dv _ _=>simp[cJ]at he|lst es=>
       have hb:es.all (cJ n)=true:=by simpa[cJ]using he
       have h2':=h2;rw[Rep]at h2';obtain⟨b,ys,rfl,w1,w2⟩:=h2';by_cases hab:a=b;.subst hab;exact same rfl rfl
       . cases r2;obtain⟨ws,v2,p2,_⟩:=I.list (sm.seq w1);refine .of_refs hab ?_;have l1:us.toArray.size=ds.length:=by rw[size_toArray,<-v1.length,z2.length]
         have l2:ws.toArray.size=es.length:=by rw[size_toArray,<-v2.length,w2.length]
         rw[ZJ];by_cases hl:ds.length=es.length;.have z:=SeqAt.RcAt.lists (A:=A) (e:=fun j=>jC (ds.getD j .non) (es.getD j .non)) p1.isList p2.isList (by rw[l1,l2,hl]) hu0 fun j k1 k2=>at_ k1 k2 ha hb v1 v2 z2 w2;rw[l1]at z;rw[dO hl];exact z
         .rw[iQ hl];exact lists_lengths p1.isList p2.isList (by rw[l1,l2];simpa using hl) hu0|tup es=>rw[Rep]at h2;obtain⟨b,ys,rfl,w1,w2⟩:=h2;cases r2;obtain⟨ws,v2,p2,_⟩:=I.tuple (aG.gq sm w1);exact SeqAt.EqAt.list_tuple p1.isList p2 hu0|non=>exact(lA p1.isList hu0 rfl h2 r2).1|bl _=>exact(lA p1.isList hu0 rfl h2 r2).1|int _=>exact(lA p1.isList hu0 rfl h2 r2).1|str _=>exact(lA p1.isList hu0 rfl h2 r2).1
   |non|bl _|int _|str _=>cases e with|cN _=>simp[cJ]at he|dv _ _=>simp[cJ]at he|tup es=>rw[Rep]at h2;obtain⟨b,ys,rfl,w1,w2⟩:=h2;cases r2;obtain⟨ws,v2,p2,_⟩:=I.tuple (aG.gq sm w1);exact(lz p2 hu0 rfl h1 r1).2|lst es=>rw[Rep]at h2;obtain⟨b,ys,rfl,w1,w2⟩:=h2;cases r2;obtain⟨ws,v2,p2,_⟩:=I.list (sm.seq w1);exact(lA p2.isList hu0 rfl h1 r1).2|_=>exact zR rfl rfl h1 h2 r1 r2
end
section
variable{X:Cx}{pins:List (Addr×Obj)}{σ:L2.St}{H F:Hp}{s:Shared}{A:Around}
abbrev RC(A:Around)(s:Shared)(v u:Value)(k:Bool):Prop:=SeqAt.RcAt A s v u k/\SeqAt.RcNeAt A s v u (!k)
inductive Top(X:Cx)(F H:Hp)(s:Shared):Value->D->Prop where|non:Top X F H s .none .non|bl(b:Bool):Top X F H s (.bool b) (.bl b)|int(i:Int)(t:Tok):Top X F H s (.int i t) (.int i)|str(x:Str)(t:Tok):Top X F H s (.str x t) (.str x)|tup{a:Addr}{us:List Value}{xs:List V}{ds:List D}(ht:s.heap.IsTuple a us.toArray)(hv:Vals xs us)(hr:au X.K F xs ds):Top X F H s (.ref a) (.tup ds)|lst{a:Addr}{us:List Value}{xs:List V}{ds:List D}(ht:s.heap.IsList a us.toArray)(hv:Vals xs us)(hr:au X.K F xs ds):Top X F H s (.ref a) (.lst ds)
theorem Ew(I:L2.Inv X pins σ H s)(sm:aG F H){v:V}{v':Value}{d:D}(hd:cJ 8 d=true)(h:cO X.K F H v d)(r:RelV v v'):Top X F H s v' d:=by cases d with|cN _=>simp[cJ]at hd|dv _ _=>simp[cJ]at hd|non=>rw[h.non]at r;cases r;exact .non|bl b=>rw[h.bl]at r;cases r;exact .bl b|int i=>rw[h.int]at r;obtain⟨t,rfl⟩:=r;exact .int i t|str x=>rw[h.str]at r;obtain⟨t,rfl⟩:=r;exact .str x t|tup ds=>obtain⟨a,xs,rfl,h1,h2,_⟩:=h.tup sm;cases r;obtain⟨us,v1,p1,_⟩:=I.tuple h1;exact .tup p1 v1 h2|lst ds=>obtain⟨a,xs,rfl,h1,h2⟩:=h.lst sm;cases r;obtain⟨us,v1,p1,_⟩:=I.list h1;exact .lst p1.isList v1 h2
theorem ab3(I:L2.Inv X pins σ H s)(sm:aG F H){n:Nat}(hu:A.units+(n+1)<cLine){d e:D}(hd:cJ (n+1) d=true)(he:cJ (n+1) e=true){v' u':Value}(h1:Top X F H s v' d)(h2:Top X F H s u' e):RC A s v' u' (jC d e):=by
 have hu0:A.units<cLine:=by omega
 have hu1:A.in1.units+n<cLine:=by show A.units+1+n<cLine;omega
 have at_:∀{xs ys:List V}{us ws:List Value}{ds es:List D}{j:Nat}(k1:j<us.toArray.size)(k2:j<ws.toArray.size),ds.all (cJ n)=true->es.all (cJ n)=true->Vals xs us->Vals ys ws->au X.K F xs ds->au X.K F ys es->SeqAt.EqAt A.in1 s us.toArray[j] ws.toArray[j] (jC (ds.getD j .non) (es.getD j .non)):=fun{xs ys us ws ds es j}k1 k2 a1 a2 v1 v2 p1 p2=>by
  have k1:j<us.length:=by simpa using k1
  have k2:j<ws.length:=by simpa using k2
  have l1:j<ds.length:=by rw[<-p1.length,v1.length];exact k1
  have l2:j<es.length:=by rw[<-p2.length,v2.length];exact k2
  obtain⟨x,g1,g2⟩:=p1.get (show ds[j]?=some ds[j]by simp[l1]);obtain⟨y,g3,g4⟩:=p2.get (show es[j]?=some es[j]by simp[l2]);obtain⟨x',g5,g6⟩:=v1.get g1;obtain⟨y',g7,g8⟩:=v2.get g3;have e1:us.toArray[j]=x':=by have:=(List.getElem?_eq_some_iff.mp g5).2;simpa using this
  have e2:ws.toArray[j]=y':=by have:=(List.getElem?_eq_some_iff.mp g7).2;simpa using this
  have e3:ds.getD j .non=ds[j]:=by simp[List.getD,l1]
  have e4:es.getD j .non=es[j]:=by simp[List.getD,l2]
  rw[e1,e2,e3,e4];exact abP I sm n A.in1 hu1 _ _ (all_eq_true.mp a1 _ (getElem_mem l1)) (all_eq_true.mp a2 _ (getElem_mem l2)) x y x' y' g2 g4 g6 g8
 cases h1 with
 |non=>cases h2 with|non=>exact⟨SeqAt.RcAt.none_none,SeqAt.RcNeAt.none_none⟩|bl b=>exact⟨SeqAt.RcAt.none_bool _,SeqAt.RcNeAt.none_bool _⟩|int i t=>exact⟨SeqAt.RcAt.none_int _ _,none_int _ _⟩|str i t=>exact⟨SeqAt.RcAt.none_str _ _,none_str _ _⟩|tup ht _ _=>exact⟨SeqAt.RcAt.none_tuple ht hu0,SeqAt.RcNeAt.none_tuple ht hu0⟩|lst ht _ _=>exact⟨SeqAt.RcAt.none_list ht hu0,SeqAt.RcNeAt.none_list ht hu0⟩
 |bl b0=>cases h2 with|non=>exact⟨SeqAt.RcAt.bool_none _,SeqAt.RcNeAt.bool_none _⟩|bl b=>exact⟨SeqAt.RcAt.bool_bool _ _,SeqAt.RcNeAt.bool_bool _ _⟩|int i t=>exact⟨SeqAt.RcAt.bool_int _ _ _,bool_int _ _ _⟩|str i t=>exact⟨SeqAt.RcAt.bool_str _ _ _,bool_str _ _ _⟩|tup ht _ _=>exact⟨SeqAt.RcAt.bool_tuple _ ht hu0,SeqAt.RcNeAt.bool_tuple _ ht hu0⟩|lst ht _ _=>exact⟨SeqAt.RcAt.bool_list _ ht hu0,SeqAt.RcNeAt.bool_list _ ht hu0⟩
 |int i0 t0=>cases h2 with|non=>exact⟨SeqAt.RcAt.int_none _ _,int_none _ _⟩|bl b=>exact⟨SeqAt.RcAt.int_bool _ _ _,int_bool _ _ _⟩|int i t=>exact⟨SeqAt.RcAt.int_int _ _ _ _,int_int _ _ _ _⟩|str i t=>exact⟨SeqAt.RcAt.int_str _ _ _ _,SeqAt.RcNeAt.int_str _ _ _ _⟩|tup ht _ _=>exact⟨SeqAt.RcAt.int_tuple _ _ ht hu0,SeqAt.RcNeAt.int_tuple _ _ ht hu0⟩|lst ht _ _=>exact⟨SeqAt.RcAt.int_list _ _ ht hu0,int_list _ _ ht hu0⟩
 |str i0 t0=>cases h2 with|non=>exact⟨SeqAt.RcAt.str_none _ _,str_none _ _⟩|bl b=>exact⟨SeqAt.RcAt.str_bool _ _ _,str_bool _ _ _⟩|int i t=>exact⟨SeqAt.RcAt.str_int _ _ _ _,SeqAt.RcNeAt.str_int _ _ _ _⟩|str i t=>exact⟨SeqAt.RcAt.str_str _ _ _ _,str_str _ _ _ _⟩|tup ht _ _=>exact⟨SeqAt.RcAt.str_tuple _ _ ht hu0,SeqAt.RcNeAt.str_tuple _ _ ht hu0⟩|lst ht _ _=>exact⟨SeqAt.RcAt.str_list _ _ ht hu0,str_list _ _ ht hu0⟩
 |@tup a us xs ds ht hv hr=>
   have ha:ds.all (cJ n)=true:=by simpa[cJ]using hd
   cases h2 with|non=>exact⟨SeqAt.RcAt.tuple_none ht hu0,SeqAt.RcNeAt.tuple_none ht hu0⟩|bl b=>exact⟨SeqAt.RcAt.tuple_bool _ ht hu0,SeqAt.RcNeAt.tuple_bool _ ht hu0⟩|int i t=>exact⟨SeqAt.RcAt.tuple_int _ _ ht hu0,SeqAt.RcNeAt.tuple_int _ _ ht hu0⟩|str i t=>exact⟨SeqAt.RcAt.tuple_str _ _ ht hu0,SeqAt.RcNeAt.tuple_str _ _ ht hu0⟩|lst CZ _ _=>exact⟨SeqAt.RcAt.tuple_list ht CZ hu0,SeqAt.RcNeAt.tuple_list ht CZ hu0⟩|@tup b ws ys es CZ hv2 hr2=>
     have hb:es.all (cJ n)=true:=by simpa[cJ]using he
     have l1:us.toArray.size=ds.length:=by rw[size_toArray,<-hv.length,hr.length]
     have l2:ws.toArray.size=es.length:=by rw[size_toArray,<-hv2.length,hr2.length]
     have z1:=SeqAt.RcAt.tuples (A:=A) (e:=fun j=>jC (ds.getD j .non) (es.getD j .non)) ht CZ hu0 fun j k1 k2=>at_ k1 k2 ha hb hv hv2 hr hr2;have z2:=SeqAt.RcNeAt.tuples (A:=A) (e:=fun j=>jC (ds.getD j .non) (es.getD j .non)) ht CZ hu0 fun j k1 k2=>at_ k1 k2 ha hb hv hv2 hr hr2;rw[l1,l2]at z1 z2;have e0:jC (.tup ds) (.tup es)=((List.range (min ds.length es.length)).all (fun j=>jC (ds.getD j .non) (es.getD j .non))&&ds.length==es.length):=by
      rw[pqt];by_cases hl:ds.length=es.length;.rw[dO hl,hl];simp
      . rw[iQ hl];have:(ds.length==es.length)=false:=by simpa using hl
        rw[this,Bool.and_false]
     rw[e0];exact⟨z1,z2⟩
 |@lst a us xs ds ht hv hr=>
   have ha:ds.all (cJ n)=true:=by simpa[cJ]using hd
   cases h2 with|non=>exact⟨SeqAt.RcAt.list_none ht hu0,SeqAt.RcNeAt.list_none ht hu0⟩|bl b=>exact⟨SeqAt.RcAt.list_bool _ ht hu0,SeqAt.RcNeAt.list_bool _ ht hu0⟩|int i t=>exact⟨SeqAt.RcAt.list_int _ _ ht hu0,list_int _ _ ht hu0⟩|str i t=>exact⟨SeqAt.RcAt.list_str _ _ ht hu0,list_str _ _ ht hu0⟩|tup CZ _ _=>exact⟨SeqAt.RcAt.list_tuple ht CZ hu0,SeqAt.RcNeAt.list_tuple ht CZ hu0⟩|@lst b ws ys es CZ hv2 hr2=>
     have hb:es.all (cJ n)=true:=by simpa[cJ]using he
     have l1:us.toArray.size=ds.length:=by rw[size_toArray,<-hv.length,hr.length]
     have l2:ws.toArray.size=es.length:=by rw[size_toArray,<-hv2.length,hr2.length]
     rw[ZJ];by_cases hl:ds.length=es.length;.have z1:=SeqAt.RcAt.lists (A:=A) (e:=fun j=>jC (ds.getD j .non) (es.getD j .non)) ht CZ (by rw[l1,l2,hl]) hu0 fun j k1 k2=>at_ k1 k2 ha hb hv hv2 hr hr2;have z2:=SeqAt.RcNeAt.lists (A:=A) (e:=fun j=>jC (ds.getD j .non) (es.getD j .non)) ht CZ (by rw[l1,l2,hl]) hu0 fun j k1 k2=>at_ k1 k2 ha hb hv hv2 hr hr2;rw[l1]at z1 z2;rw[dO hl];exact⟨z1,z2⟩
     .rw[iQ hl];exact⟨lists_lengths ht CZ (by rw[l1,l2];simpa using hl) hu0,SeqAt.RcNeAt.lists_lengths ht CZ (by rw[l1,l2];simpa using hl) hu0⟩
theorem Qk(hu:X.A.units+8<cLine):fV X (compareOp .Eq) (rD X.K (xR .eq)):=by rintro pins s σ H x y v u Q I rx ry⟨F,d,e,r,sm,px,py,he,k⟩;obtain⟨t,e1,e2⟩:=map_some (show(Hg d e).map _=some r from he);subst e2;unfold Hg at e1;obtain⟨hd,e1⟩:=aW e1;rw[and_eq_true]at hd;subst e1;exact(ab3 I sm (n:=7) hu hd.1 hd.2 (Ew I sm hd.1 px rx) (Ew I sm hd.2 py ry)).1 _ _ _ _ ⟨.bl _,H,I,rfl,bK.cY sm (ir _) k⟩
end
section
variable{Pg:Program}{w:World}{K:PySem.W.Frag}{mg:Str->Option Value}{base:Heap}
theorem Wz{x qual:Str}{st:Stmt}{f:Addr}{fd:FuncData}{N ps:List Str}{k n:Nat}{c:Call}{d:Fd}(Fu:jM K x qual st f fd)(S:aM N ps (az st))(h1:d.np=ps.length)(h2:d.nn=N.length)(hb:∀(cdv:Value)(A:Around)(outer:List Env)(s:Shared)(H:Hp)(E:XK),iC k (A.deeper (envOfC qual (az st) s.heap.objs.size f cdv))->SB (yj jr Pg w K mg base N qual (az st) f cdv A outer s H E).Wk c n (dF st) d.body):cj Pg w K mg base jr (k+1) f fd ps (jG K ps.length (fun args=>enter c n d args)):=by
 refine Fu.ok S (fun vs H Q E h=>h.1) fun cdv A outer s H vs Q E hr h=>?_;obtain⟨hl,F,args,r,args',g,e,q⟩:=h;refine⟨_,hb cdv A outer s H E hr,?_⟩;replace e:enter c n d args=.ok r args':=e;unfold enter at e;split at e
 . rename_i hc;obtain⟨c1,c2⟩:=hc;have hg:=g.more (n:=d.nn-d.np) (τ:=replicate (N.length-vs.length) none) (by simp[h1,h2,hl]);have hla:args.length=d.np:=c1;have go:∀{fl:Fl}{ρ':List Sl},eX c n d.body (args++replicate (d.nn-d.np) .aP)=.ok fl ρ'->(∀F' σ' H',aq K F (args++replicate (d.nn-d.np) .aP) (start N vs) H F' ρ' σ' H'->(match fl with|.next=>Q .non H'|.brk=>False|.cont=>False|.ret r=>∀v,bM K F' ρ' σ' H' (args++replicate (d.nn-d.np) .aP) (start N vs) H v r->Q v H'))->Zc K (eX c n d.body) {nx:=fun _ H'=>Q .non H',rt:=Q} (start N vs) H:=fun{fl ρ'}z k=>⟨F,_,fl,ρ',hg,z,fun F' σ' H' s=>by have:=k F' σ' H' s;cases fl<;>exact this⟩;split at e;.rename_i ρ' z;cases e;refine go z fun F' σ' H' s=>?_;obtain⟨z1,z2⟩:=aq.less (m:=d.np) hla.symm g (by simp[h1,h2,hl]) s;exact q .non F' _ H' z1 (show Rep K F' _ _ from Oi)
   .rename_i r' ρ' z;cases e;refine go z fun F' σ' H' s v rr=>?_;obtain⟨z1,z2⟩:=aq.less (m:=d.np) hla.symm g (by simp[h1,h2,hl]) s;exact q v F' _ H' z1 (z2 v r rr)
   .split at e<;>cases e
 .cases e
structure aB(Pg:Program)(w:World)(K:PySem.W.Frag)(mg:Str->Option Value)(base:Heap)(k:Nat)(c:Call)(i:Nat)(x:Str)(np:Nat):Prop where ex:∃fa fd qs,cj Pg w K mg base jr k fa fd qs (jG K qs.length (c i))/\mg x=some (.ref fa)/\keepIn K (.ref fa)=true/\Binds K fd qs []/\qs.length=np
end
section
variable{X:Cx}{c:Call}{n k:Nat}{e a b:Expr}{es:List Expr}{p pa pb:P}{ps:List P}{pos:Pos}
theorem sv(i:Nat){x:Str}(hN:X.N[i]?=some x:=by rfl)(hv:uY X.env.scope x:=by first|exact Or.inl rfl|exact Or.inr (Or.inl rfl)|exact Or.inr (Or.inr rfl))(hd:(x==("__debug__":Str))=false:=by rfl)(hcd:(x==("__classdict__":Str))=false:=by rfl):SX X c (.Name x pos) (.var i):=QB hN hv hd hcd
theorem gR{i np:Nat}{x:Str}{p':Pos}(C:aB X.prog X.w X.K X.mg X.base k c i x np)(hr:iC k X.A)(ha:SG X c (e::es) ps)(hg:Gl X x:=by rfl)(hl:(e::es).length=np:=by rfl)(hdb:(x==("__debug__":Str))=false:=by rfl)(he:starEach (e::es) X.env=(false,eval e X.env)::starEach es X.env:=by rfl)(hpl:(backTo pos (starEach es X.env)).any (·.1)=false:=by rfl)(hl2:ps.length=(e::es).length:=by rfl):SX X c (.Call (.Name x p') (e::es) [] pos) (.call i ps):=by obtain⟨fa,fd,qs,h1,h2,h3,h4,h5⟩:=C.ex;exact Kz h1 hr hg h2 h3 h4 ha (hl.trans h5.symm) hdb he hpl hl2
noncomputable def LK(names outer:List (Str×NameKind))(N N':List Str)(n:Nat):Bool:=(names.all fun y=>names.lookup y.1==some y.2)&&(names.all fun y=>y.2!=.local||names.lookup y.1==some .local)&&(names.all fun y=>y.2!=.free||outer.lookup y.1==some .cell||outer.lookup y.1==some .free)&&N'.length==N.length+n&&((N.zip N').all fun p=>(p.1==p.2&&names.lookup p.2==some .free)||(names.lookup p.2!=some .local&&names.lookup p.2!=some .cell&&names.lookup p.2!=some .free))
theorem Mm{scope:Scope}{N':List Str}(hk:scope.kind=.function)(h:LK scope.names X.env.scope.names X.N N' n=true):dZ X scope N' n:=by
 unfold LK at h;simp only[and_eq_true]at h;obtain⟨⟨⟨⟨h1,h2⟩,h3⟩,h4⟩,h5⟩:=h;refine⟨hk,fun y hy=>eq_of_beq (all_eq_true.mp h1 y hy),fun y hy e=>?_,fun y hy e=>?_,by simpa using h4,h5⟩;.have:=all_eq_true.mp h2 y hy;rw[e]at this;simpa using this
 . have:=all_eq_true.mp h3 y hy;rw[e]at this;simp only[or_eq_true]at this;rcases this with(z|z)|z;.cases z
   .exact .inl (eq_of_beq z)
   .exact .inr (eq_of_beq z)
theorem cG{A:Around}(h:iC k A):A.units+8<cLine:=by have:=h.un;omega
end
end HH
end
section
namespace L2
open PySem PySem.Spec PyProof.Rows
end L2
namespace HH
open PySem L2 PySem.Spec PyProof.Rows
structure bL(K:PySem.W.Frag)(x:Str)(st:Stmt):Prop where ex:∃f fd,PySem.W.nsIn K mainGlobals x=some (some (.ref f))/\jM K x x st f fd
section
variable{Pg:Program}{w:World}{K:PySem.W.Frag}{mg:Str->Option Value}{base h:Heap}
theorem Q8{x:Str}{st:Stmt}{f:Addr}{oc:Value}{od an:Option Addr}{osl:Array (Option Value)}{kV doc pm cdv ct:Value}(a:PySem.W.nsIn K mainGlobals x=some (some (.ref f)))(l:K.lookup f=some ⟨oc,od,.func (PySem.W.fnOf x x (gK st) (dF st) (az st) .none kV doc pm an cdv ct),osl⟩)(c:PySem.W.codeIn K cdv x=true)(k:keepIn K (.ref f)=true):bL K x st:=⟨_,_,a,Ol l c k⟩
theorem cz{Γ:Tab}{wl i np:Nat}{x:Str}{st:Stmt}{ps:List Str}(X:K.In h)(G:h.Ns mainGlobals mg)(D:bL K x st)(hp:ps.length=np)(hb:∀(kV doc pm:Value)(an:Option Addr)(cdv ct:Value)(us:List Value),us.length=ps.length->bindArgs (PySem.W.fnOf x x (gK st) (dF st) (az st) .none kV doc pm an cdv ct) ⟨us,[]⟩=pure (ps.zip us)):aB Pg w K mg base 0 (run Γ wl 0) i x np:=by obtain⟨f,fd,a,F⟩:=D.ex;exact⟨f,fd,ps,⟨fun vs H Q E s=>s.1,fun A outer s H args us vs Q E hr e b v sp=>by obtain⟨_,F,as,r,as',_,z,_⟩:=sp;cases z⟩,mg_of X G a,F.kp,F.binds hb,hp⟩
theorem cA{Γ:Tab}{wl n i np:Nat}{x:Str}{st:Stmt}{ps:List Str}{d:Fd}(X:K.In h)(G:h.Ns mainGlobals mg)(D:bL K x st)(hp:ps.length=np)(hΓ:Γ i=some d)(hb:∀(kV doc pm:Value)(an:Option Addr)(cdv ct:Value)(us:List Value),us.length=ps.length->bindArgs (PySem.W.fnOf x x (gK st) (dF st) (az st) .none kV doc pm an cdv ct) ⟨us,[]⟩=pure (ps.zip us))(ok:∀f fd,jM K x x st f fd->cj Pg w K mg base jr (n+1) f fd ps (jG K np (fun args=>enter (run Γ wl n) wl d args))):aB Pg w K mg base (n+1) (run Γ wl (n+1)) i x np:=by
 obtain⟨f,fd,a,F⟩:=D.ex;refine⟨f,fd,ps,?_,mg_of X G a,F.kp,F.binds hb,hp⟩;have e:run Γ wl (n+1) i=fun args=>enter (run Γ wl n) wl d args:=by funext args;show(match Γ i with|some d=>enter (run Γ wl n) wl d args|none=>.stuck)=_;rw[hΓ]
 rw[e,hp];exact ok f fd F
theorem qy{F:Hp}:∀ns:List Int,au K F (ns.map V.int) (ns.map D.int)|[]=>.nil|n::ns=>.cons (bH n) (qy ns)
theorem BW{H:Hp}{a:Addr}{ns:List Int}{g:List Sl->Res R}{as:List Sl}(hS:dz K H a (ns.map V.int))(hr:g [.val false (.lst (ns.map D.int))]=.ok (.val (.bl true)) as):jG K 1 g [.ref a] H (fun v _=>v=.bl true) fun _ _ _=>False:=by
 refine⟨rfl,H,_,_,as,⟨.refl _,rfl,fun i b d e=>?_,fun i s ds e e'=>?_,fun i j c h=>?_⟩,hr,fun v F' σ' H' s rr=>?_⟩;.match i,e with|0,e=>cases e;refine⟨.ref a,rfl,?_⟩;rw[Rep];exact⟨a,_,rfl,hS,qy ns⟩|i+1,e=>simp at e
 .match i,e with|0,e=>cases e;cases e'|i+1,e=>simp at e
 .obtain⟨⟨s,ds,e,e'⟩,_⟩:=h;match i,e with|0,e=>cases e;cases e'|i+1,e=>simp at e
 .have rr:Rep K F' v (.bl true):=rr;rw[Rep]at rr;exact rr
end
end HH
end
section
namespace HH
open PySem
def Res.sat{α:Type}(Q:α->List Sl->Prop)(x:Res α):Prop:=match x with|.ok a ρ=>Q a ρ|.exc _ _=>False|.stuck=>False
section
variable{α β:Type}{Q Q':α->List Sl->Prop}
@[simp]theorem Qj{a:α}{ρ:List Sl}:(Res.ok a ρ).sat Q=Q a ρ:=rfl
@[simp]theorem YW{k:Nat}{ρ:List Sl}:(Res.exc k ρ:Res α).sat Q=False:=rfl
@[simp]theorem Sv:(Res.stuck:Res α).sat Q=False:=rfl
theorem bu{x:Res β}{f:β->List Sl->Res α}:(x.bind f).sat Q=x.sat fun a ρ=>(f a ρ).sat Q:=by cases x<;>rfl
@[simp]theorem ZF{p:Prop}[Decidable p]{x y:Res α}:(if p then x else y).sat Q=((p->x.sat Q)/\(¬ p->y.sat Q)):=by by_cases h:p<;>simp[h]
@[simp]theorem HW{a:α}{ρ:List Sl}:(lift (some a) ρ).sat Q=Q a ρ:=rfl
@[simp]theorem Ia{ρ:List Sl}:(lift (none:Option α) ρ).sat Q=False:=rfl
@[simp]theorem Jk{p:Prop}[Decidable p]{a:α}{ρ:List Sl}:(lift (if p then some a else none) ρ).sat Q=(p/\Q a ρ):=by by_cases h:p<;>simp[h]
theorem Res.sat.imp{x:Res α}(h:x.sat Q)(k:∀a ρ,Q a ρ->Q' a ρ):x.sat Q':=by cases x with|ok a ρ=>exact k a ρ h|exc _ _=>exact h|stuck=>exact h
theorem sat_iff{x:Res α}:x.sat Q↔∃a ρ,x=.ok a ρ/\Q a ρ:=by cases x with|ok a ρ=>exact⟨fun h=>⟨a,ρ,rfl,h⟩,fun⟨_,_,e,h⟩=>by cases e;exact h⟩|exc _ _=>exact⟨fun h=>h.elim,fun⟨_,_,e,_⟩=>by cases e⟩|stuck=>exact⟨fun h=>h.elim,fun⟨_,_,e,_⟩=>by cases e⟩
end
theorem TJ{α:Type}{x y:Res α}{Q:α->List Sl->Prop}(h:x=y):x.sat Q=y.sat Q:=by rw[h]
theorem bind_congr{α β:Type}{x y:Res α}{f:α->List Sl->Res β}(h:x=y):x.bind f=y.bind f:=by rw[h]
noncomputable def fr:Sl->Bool|.aP=>true|.val b _=>!b|.own b _=>!b|.lent _=>false|.eY _=>false|.bW _=>false|.hold _=>false
@[simp]theorem abh:fr .aP=true:=rfl
@[simp]theorem aaQ{b:Bool}{d:D}:fr (.val b d)=!b:=rfl
@[simp]theorem abm{b:Bool}{d:List D}:fr (.own b d)=!b:=rfl
@[simp]theorem Zz{d:List D}:fr (.lent d)=false:=rfl
theorem Rf(ρ:List Sl)(i:Nat)(s:Sl):put ρ i s=match ρ[i]?with|some t=>if fr t=true then some (ρ.set i s)else none|none=>none:=by unfold put;cases h:ρ[i]?with|none=>rfl|some t=>cases t with|aP=>rfl|val b d=>cases b<;>rfl|own b d=>cases b<;>rfl|lent d=>rfl|eY m=>rfl|bW m=>rfl|hold m=>rfl
theorem Gd{Γ:Tab}{w n i:Nat}{d:Fd}{args:List Sl}(h:Γ i=some d):run Γ w (n+1) i args=enter (run Γ w n) w d args:=by rw[run,h]
noncomputable def fin(np:Nat):Fl->List Sl->Option (R×List Sl)|.next,ρ=>some (.val .non,ρ.take np)|.ret r,ρ=>some (r,ρ.take np)|_,_=>none
def eQ(np:Nat)(Q:R->List Sl->Prop)(fl:Fl)(ρ:List Sl):Prop:=match fl with|.next=>Q (.val .non) (ρ.take np)|.ret r=>Q r (ρ.take np)|_=>False
def sQ(c:Call)(n:Nat)(r:List S)(Q:Fl->List Sl->Prop)(fl:Fl)(ρ:List Sl):Prop:=match fl with|.next=>(eX c n r ρ).sat Q|fl=>Q fl ρ
def fQ(J:List Sl->Prop)(Q:Fl->List Sl->Prop)(fl:Fl)(ρ:List Sl):Prop:=match fl with|.next=>J ρ|.cont=>J ρ|.brk=>Q .next ρ|.ret v=>Q (.ret v) ρ
section
variable{np:Nat}{Q:R->List Sl->Prop}{ρ:List Sl}{v:R}{c:Call}{n:Nat}{r:List S}{Q':Fl->List Sl->Prop}{J:List Sl->Prop}
@[simp]theorem Yy:eQ np Q .next ρ=Q (.val .non) (ρ.take np):=rfl
@[simp]theorem acb:eQ np Q (.ret v) ρ=Q v (ρ.take np):=rfl
@[simp]theorem abf:eQ np Q .brk ρ=False:=rfl
@[simp]theorem YC:eQ np Q .cont ρ=False:=rfl
@[simp]theorem Zd:sQ c n r Q' .next ρ=(eX c n r ρ).sat Q':=rfl
@[simp]theorem abG:sQ c n r Q' (.ret v) ρ=Q' (.ret v) ρ:=rfl
@[simp]theorem aaS:sQ c n r Q' .brk ρ=Q' .brk ρ:=rfl
@[simp]theorem Y9:sQ c n r Q' .cont ρ=Q' .cont ρ:=rfl
@[simp]theorem YQ:fQ J Q' .next ρ=J ρ:=rfl
@[simp]theorem ZG:fQ J Q' .cont ρ=J ρ:=rfl
@[simp]theorem abQ:fQ J Q' .brk ρ=Q' .next ρ:=rfl
@[simp]theorem aaB:fQ J Q' (.ret v) ρ=Q' (.ret v) ρ:=rfl
end
theorem Cw{c:Call}{n:Nat}{d:Fd}{args:List Sl}{Q:R->List Sl->Prop}(hl:args.length=d.np)(hd:d.np<=d.nn)(h:(eX c n d.body (args++replicate (d.nn-d.np) .aP)).sat (eQ d.np Q)):(enter c n d args).sat Q:=by unfold enter;rw[if_pos ⟨hl,hd⟩];revert h;cases eX c n d.body (args++replicate (d.nn-d.np) .aP)with|stuck=>exact fun h=>False.elim h|exc _ _=>exact fun h=>False.elim h|ok fl ρ=>cases fl<;>first|exact id|exact fun h=>False.elim h
theorem aU{Γ:Tab}{w n i:Nat}{d:Fd}{args:List Sl}{Q:R->List Sl->Prop}(hΓ:Γ i=some d)(hl:args.length=d.np)(hd:d.np<=d.nn)(h:(eX (run Γ w n) w d.body (args++replicate (d.nn-d.np) .aP)).sat (eQ d.np Q)):(run Γ w (n+1) i args).sat Q:=by rw[Gd hΓ];exact Cw hl hd h
theorem ak{c:Call}{n:Nat}{s:S}{r:List S}{ρ:List Sl}{Q:Fl->List Sl->Prop}(h:(ex c n s ρ).sat (sQ c n r Q)):(eX c n (s::r) ρ).sat Q:=by rw[eX,bu];refine h.imp fun fl ρ' q=>?_;cases fl<;>exact q
theorem Cz{c:Call}{n:Nat}{s:S}{r:List S}{ρ:List Sl}{Q:Fl->List Sl->Prop}(h:(ex c n s ρ).sat (sQ c n r Q)):sQ c n (s::r) Q .next ρ:=ak h
@[simp]theorem Y4{c:Call}{n:Nat}{ρ:List Sl}{Q:Fl->List Sl->Prop}:(eX c n [] ρ).sat Q=Q .next ρ:=by rw[eX];rfl
theorem dC{c:Call}{n:Nat}{s:S}{r:List S}{ρ:List Sl}{Q:Fl->List Sl->Prop}(M:List Sl->Prop)(h:(ex c n s ρ).sat fun fl ρ'=>fl=.next/\M ρ')(k:∀ρ',M ρ'->(eX c n r ρ').sat Q):(eX c n (s::r) ρ).sat Q:=ak (h.imp fun fl ρ'⟨e,q⟩=>by subst e;exact k ρ' q)
theorem bG{is:List Nat}{one:Bool}{body:List Sl->Res Fl}(J:List D->List Sl->Prop){Q:Fl->List Sl->Prop}(hb:∀d r ρ,J (d::r) ρ->∃ρ1,bI ρ is one d=some ρ1/\(body ρ1).sat (fQ (J r) Q))(hq:∀ρ,J [] ρ->Q .next ρ):∀{ds:List D}{ρ:List Sl},J ds ρ->(fO is one body ds ρ).sat Q|[],ρ,j=>hq ρ j|d::r,ρ,j=>by obtain⟨ρ1,e,h⟩:=hb d r ρ j;rw[fO,e];show((body ρ1).bind _).sat Q;rw[bu];refine h.imp fun fl ρ2 q=>?_;cases fl with|next=>exact bG J hb hq q|cont=>exact bG J hb hq q|brk=>exact q|ret v=>exact q
theorem jb{is:List Nat}{one:Bool}{test:List Sl->Res Bool}{elt:Ev}(J:List Sl->Prop)(g:D->Option D){Q:List D->List Sl->Prop}:∀{ds acc:List D}{ρ:List Sl},J ρ->(∀ d,d ∈ ds->∀ ρ,J ρ->∃ ρ1,bI ρ is one d=some ρ1/\(test ρ1).sat fun b ρ2=>if b=true then(elt ρ2).sat fun r ρ3=>g d=some r.d/\J ρ3 else g d=none/\J ρ2)->(∀ ρ,J ρ->Q (acc++ds.filterMap g) ρ)->(turns is one test elt ds acc ρ).sat Q|[],acc,ρ,j,h,k=>by rw[turns];simpa using k ρ j|d::r,acc,ρ,j,h,k=>by obtain⟨ρ1,e,h1⟩:=h d (by simp) ρ j;rw[turns,e];show((test ρ1).bind _).sat Q;rw[bu];refine h1.imp fun b ρ2 q=>?_;cases b with|true=>rw[if_pos rfl]at q;rw[if_pos rfl,bu];refine q.imp fun x ρ3⟨e1,j3⟩=>?_;refine jb J g j3 (fun d' hd'=>h d' (by simp[hd'])) fun ρ' j'=>?_;have:=k ρ' j';rw[filterMap_cons,e1]at this;rw[append_assoc];exact this|false=>rw[if_neg (by simp)]at q;rw[if_neg (by simp)];refine jb J g q.2 (fun d' hd'=>h d' (by simp[hd'])) fun ρ' j'=>?_;have:=k ρ' j';rw[filterMap_cons,q.1]at this;exact this
theorem yo{is:List Nat}{one:Bool}{elt:Ev}{c:Call}(J:List Sl->Prop)(g:D->D){Q:List D->List Sl->Prop}{ds:List D}{ρ:List Sl}(j:J ρ)(h:∀d,d∈ds->∀ρ,J ρ->∃ρ1,bI ρ is one d=some ρ1/\(elt ρ1).sat fun r ρ3=>g d=r.d/\J ρ3)(k:∀ρ,J ρ->Q (ds.map g) ρ):(turns is one (m9 c none) elt ds [] ρ).sat Q:=jb J (fun d=>some (g d)) j (fun d hd ρ j=>by obtain⟨ρ1,e,h1⟩:=h d hd ρ j;refine⟨ρ1,e,?_⟩;rw[m9,Qj,if_pos rfl];exact h1.imp fun r ρ3 q=>⟨by rw[q.1],q.2⟩) fun ρ j=>by simpa using k ρ j
section
variable{ρ l:List Sl}{a:Sl}{i j:Int}{k m:Nat}{b b':Bool}{s:Str}{d:D}{ds es:List D}{e f:Ev}{x:Option Sl}{c:Call}
@[simp]theorem RZ:bJ .int .non=false:=rfl
@[simp]theorem TY:bJ .int (.bl b)=true:=rfl
@[simp]theorem Qp:bJ .int (.int i)=true:=rfl
@[simp]theorem QR:bJ .int (.str s)=false:=rfl
@[simp]theorem Rc:bJ .int (.tup ds)=false:=rfl
@[simp]theorem Oq:bJ .int (.lst ds)=false:=rfl
@[simp]theorem Lz:bJ .bool .non=false:=rfl
@[simp]theorem Q6:bJ .bool (.bl b)=true:=rfl
@[simp]theorem Lx:bJ .bool (.int i)=false:=rfl
@[simp]theorem Ms:bJ .bool (.str s)=false:=rfl
@[simp]theorem Mq:bJ .bool (.tup ds)=false:=rfl
@[simp]theorem Mt:bJ .bool (.lst ds)=false:=rfl
@[simp]theorem Px:bJ .str .non=false:=rfl
@[simp]theorem S7:bJ .str (.bl b)=false:=rfl
@[simp]theorem Rg:bJ .str (.int i)=false:=rfl
@[simp]theorem Qd:bJ .str (.str s)=true:=rfl
@[simp]theorem O3:bJ .str (.tup ds)=false:=rfl
@[simp]theorem QZ:bJ .str (.lst ds)=false:=rfl
@[simp]theorem Ig:bJ .tuple .non=false:=rfl
@[simp]theorem Ls:bJ .tuple (.bl b)=false:=rfl
@[simp]theorem K5:bJ .tuple (.int i)=false:=rfl
@[simp]theorem JD:bJ .tuple (.str s)=false:=rfl
@[simp]theorem JP:bJ .tuple (.tup ds)=true:=rfl
@[simp]theorem K4:bJ .tuple (.lst ds)=false:=rfl
@[simp]theorem Mx:bJ .list .non=false:=rfl
@[simp]theorem Q4:bJ .list (.bl b)=false:=rfl
@[simp]theorem Mj:bJ .list (.int i)=false:=rfl
@[simp]theorem Lq:bJ .list (.str s)=false:=rfl
@[simp]theorem Mw:bJ .list (.tup ds)=false:=rfl
@[simp]theorem MT:bJ .list (.lst ds)=true:=rfl
@[simp]theorem LR:bJ .none .non=true:=rfl
@[simp]theorem Pj:bJ .none (.bl b)=false:=rfl
@[simp]theorem Ln:bJ .none (.int i)=false:=rfl
@[simp]theorem Mp:bJ .none (.str s)=false:=rfl
@[simp]theorem MP:bJ .none (.tup ds)=false:=rfl
@[simp]theorem Ma:bJ .none (.lst ds)=false:=rfl
@[simp]theorem T3:iz .non=true:=rfl
@[simp]theorem Vp:iz (.bl b)=false:=rfl
@[simp]theorem S9:iz (.int i)=false:=rfl
@[simp]theorem T5:iz (.str s)=false:=rfl
@[simp]theorem Tf:iz (.tup ds)=false:=rfl
@[simp]theorem Sh:iz (.lst ds)=false:=rfl
@[simp]theorem W7:flat .non=true:=rfl
@[simp]theorem Yp:flat (.bl b)=true:=rfl
@[simp]theorem kW:flat (.int i)=true:=rfl
@[simp]theorem Xn:flat (.str s)=true:=rfl
@[simp]theorem U9:flat (.tup ds)=false:=rfl
@[simp]theorem Xg:flat (.lst ds)=false:=rfl
@[simp]theorem ab0:(R.val d).d=d:=rfl
@[simp]theorem aah:(R.own ds).d=.lst ds:=rfl
@[simp]theorem Ww:yu (.val d)=.val false d:=rfl
@[simp]theorem Vo:yu (.own ds)=.own false ds:=rfl
@[simp]theorem T6:vq (.val d)=.dat d:=rfl
@[simp]theorem Uw:vq (.own ds)=.tmp ds:=rfl
@[simp]theorem Yh:gA (.int i)=some i:=rfl
@[simp]theorem abB:MF (.bl b)=some b:=rfl
@[simp]theorem qI:items (.lst ds)=some ds:=rfl
@[simp]theorem rK:items (.tup ds)=some ds:=rfl
@[simp]theorem Rw:P0 (.tup ds)=some ds:=rfl
@[simp]theorem Qw:Rr (.lst ds)=some ds:=rfl
@[simp]theorem Yz:qm .add=pH:=rfl
@[simp]theorem Yr:qm .sub=wN:=rfl
@[simp]theorem YF:qm .mul=kh:=rfl
@[simp]theorem Vd:qm .fdiv=oX:=rfl
@[simp]theorem Zi:qm .mod=vJ:=rfl
@[simp]theorem Zx:qm .pow=vG:=rfl
@[simp]theorem Uj:pH (.int i) (.int j)=some (.val (.int (i+j))):=rfl
@[simp]theorem Tz:pH (.lst ds) (.lst es)=if ds.length+es.length<=lim then some (.own (ds++es))else none:=rfl
@[simp]theorem T7:pH (.tup ds) (.tup es)=if ds.length+es.length<=lim then some (.val (.tup (ds++es)))else none:=rfl
@[simp]theorem Tt:wN (.int i) (.int j)=some (.val (.int (i-j))):=rfl
@[simp]theorem Ud:kh (.int i) (.int j)=if((-18446744073709551616<i/\i<18446744073709551616)\/(-18446744073709551616<j/\j<18446744073709551616))then some (.val (.int (i*j)))else none:=rfl
@[simp]theorem Qv:oX (.int i) (.int j)=if 0<j/\j<1606938044258990275541962092341162602522202993782792835301376 then some (.val (.int (i/j)))else none:=rfl
@[simp]theorem Sy:vJ (.int i) (.int j)=if 0<j then some (.val (.int (i%j)))else none:=rfl
@[simp]theorem Ug:vG (.int i) (.int j)=if 0<=j/\j<=1000/\i.natAbs<18446744073709551616 then some (.val (.int (i^j.toNat)))else none:=rfl
@[simp]theorem Zt:Ku (.lst ds) (.int i)=(at' ds i).map .val:=rfl
@[simp]theorem YG:Ku (.tup ds) (.int i)=(at' ds i).map .val:=rfl
@[simp]theorem W5:Gz (.int i)=some (.val (.int (-i))):=rfl
@[simp]theorem Ub:cm .eq (.int i) (.int j)=some (i==j):=rfl
@[simp]theorem Ui:cm .ne (.int i) (.int j)=some (!(i==j)):=rfl
@[simp]theorem Wb:cm .eq (.bl b) (.bl b')=some (b==b'):=rfl
@[simp]theorem Ws:cm .ne (.bl b) (.bl b')=some (!(b==b')):=rfl
@[simp]theorem Sw:cm .lt (.int i) (.int j)=some (decide (i<j)):=rfl
@[simp]theorem Ue:cm .le (.int i) (.int j)=some (decide (i<=j)):=rfl
@[simp]theorem Tw:cm .gt (.int i) (.int j)=some (decide (j<i)):=rfl
@[simp]theorem Sd:cm .ge (.int i) (.int j)=some (decide (j<=i)):=rfl
@[simp]theorem aa2:cm .isN d .non=some (iz d):=rfl
@[simp]theorem Yx:cm .Ld d .non=some (!iz d):=rfl
@[simp]theorem Ml:blt .len [.lst ds]=some (.val (.int ds.length)):=rfl
@[simp]theorem LC:blt .len [.tup ds]=some (.val (.int ds.length)):=rfl
@[simp]theorem Ky:blt .list [.lst ds]=some (.own ds):=rfl
@[simp]theorem Kl:blt .list [.tup ds]=some (.own ds):=rfl
@[simp]theorem HS:blt .tuple [.lst ds]=some (.val (.tup ds)):=rfl
@[simp]theorem HY:blt .tuple [.tup ds]=some (.val (.tup ds)):=rfl
@[simp]theorem WR:blt .max2 [.int i,.int j]=some (.val (.int (if i<j then j else i))):=rfl
@[simp]theorem Th:isVar (.var k)=some k:=rfl
@[simp]theorem YT:pk (a::l) k=match(a::l)[k]?with|some (.val _ d)=>some d|some (.own _ ds)=>some (.lst ds)|some (.lent ds)=>some (.lst ds)|_=>none:=rfl
@[simp]theorem Wq:yF (a::l) k=match pk (a::l) k with|some (.lst ds)=>some ds|_=>none:=rfl
@[simp]theorem Xo:bN (some k) e ρ=lift (pk ρ k) ρ:=rfl
@[simp]theorem Wl:bN none e ρ=(e ρ).bind fun r ρ=>.ok r.d ρ:=rfl
@[simp]theorem Ut{y:Option Nat}:iU (some k) e y f ρ=(lift (pk ρ k) ρ).bind fun _ ρ=>(bN y f ρ).bind fun y ρ=>(lift (pk ρ k) ρ).bind fun x ρ=>.ok (x,y) ρ:=rfl
@[simp]theorem T4{y:Option Nat}:iU none e y f ρ=(bN none e ρ).bind fun x ρ=>(bN y f ρ).bind fun y ρ=>.ok (x,y) ρ:=rfl
@[simp]theorem Um{es:List D}:cU (.own b ds) (some (.own b' es))=.own b es:=rfl
@[simp]theorem TX:cU (.own b ds) (some (.val b' d))=.val b d:=rfl
@[simp]theorem Eb:cU a none=a:=by cases a<;>rfl
@[simp]theorem Cp:cU (.val b d) x=.val b d:=by cases x<;>rfl
@[simp]theorem Ur:cU .aP x=.aP:=by cases x<;>rfl
@[simp]theorem ye:cU (.lent ds) x=.lent ds:=by cases x<;>rfl
@[simp]theorem Vy:bI ρ [k] true d=put ρ k (.val false d):=rfl
@[simp]theorem T9{is:List Nat}:bI ρ is false (.tup ds)=putAll ρ is ds:=by cases is<;>rfl
@[simp]theorem QV:srcOf none e ρ=(e ρ).bind fun r ρ=>lift (items r.d) ρ:=rfl
@[simp]theorem Rq:srcOf (some k) e (a::l)=match(a::l)[k]?with|some (.val _ d)=>lift (items d) (a::l)|some (.own _ ds)=>.ok ds ((a::l).set k (.lent ds))|some (.lent ds)=>.ok ds (a::l)|_=>.stuck:=rfl
@[simp]theorem MK{ρ':List Sl}:aQ ρ' none ρ=ρ:=rfl
@[simp]theorem Mg:aQ (a::l) (some k) ρ=match(a::l)[k]?with|some (.own b ds)=>ρ.set k (.own b ds)|_=>ρ:=rfl
@[simp]theorem W9{s:Sl}:put (a::l) k s=match(a::l)[k]?with|some t=>if fr t=true then some ((a::l).set k s)else none|none=>none:=Rf ..
@[simp]theorem Pk:putAll ρ [] []=some ρ:=rfl
@[simp]theorem Lr{is:List Nat}:putAll ρ (k::is) (d::ds)=(put ρ k (.val false d)).bind fun ρ=>putAll ρ is ds:=rfl
theorem Q0{as:List Arg}{Q:R->List Sl->Prop}:(jT c k as ρ).sat Q=match bz ρ as []with|none=>False|some args=>(c k args).sat fun r args'=>Q r (bV as args' 0 ρ):=by unfold jT;cases bz ρ as []with|none=>rfl|some args=>simp only;cases c k args<;>rfl
end
@[simp]theorem at_0{α:Type}{a0:α}{l:List α}:at' (a0::l) 0=some a0:=by unfold at' gB;rw[if_pos (by decide),if_pos (by simp only[length_cons];omega)];rfl
@[simp]theorem at_1{α:Type}{a0 a1:α}{l:List α}:at' (a0::a1::l) 1=some a1:=by unfold at' gB;rw[if_pos (by decide),if_pos (by simp only[length_cons];omega)];rfl
@[simp]theorem at_2{α:Type}{a0 a1 a2:α}{l:List α}:at' (a0::a1::a2::l) 2=some a2:=by unfold at' gB;rw[if_pos (by decide),if_pos (by simp only[length_cons];omega)];rfl
@[simp]theorem at_3{α:Type}{a0 a1 a2 a3:α}{l:List α}:at' (a0::a1::a2::a3::l) 3=some a3:=by unfold at' gB;rw[if_pos (by decide),if_pos (by simp only[length_cons];omega)];rfl
@[simp]theorem at_4{α:Type}{a0 a1 a2 a3 a4:α}{l:List α}:at' (a0::a1::a2::a3::a4::l) 4=some a4:=by unfold at' gB;rw[if_pos (by decide),if_pos (by simp only[length_cons];omega)];rfl
@[simp]theorem at_5{α:Type}{a0 a1 a2 a3 a4 a5:α}{l:List α}:at' (a0::a1::a2::a3::a4::a5::l) 5=some a5:=by unfold at' gB;rw[if_pos (by decide),if_pos (by simp only[length_cons];omega)];rfl
@[simp]theorem at_6{α:Type}{a0 a1 a2 a3 a4 a5 a6:α}{l:List α}:at' (a0::a1::a2::a3::a4::a5::a6::l) 6=some a6:=by unfold at' gB;rw[if_pos (by decide),if_pos (by simp only[length_cons];omega)];rfl
@[simp]theorem at_7{α:Type}{a0 a1 a2 a3 a4 a5 a6 a7:α}{l:List α}:at' (a0::a1::a2::a3::a4::a5::a6::a7::l) 7=some a7:=by unfold at' gB;rw[if_pos (by decide),if_pos (by simp only[length_cons];omega)];rfl
theorem oO{α:Type}{l:List α}{i:Int}(h:0<=i)(h':i<l.length):at' l i=l[i.toNat]?:=by unfold at' gB;rw[if_pos h,if_pos h'];rfl
theorem Hs{α:Type}{l:List α}{k:Nat}(h':k<l.length):at' l (k:Int)=l[k]?:=by rw[oO (by omega) (by omega)];simp
theorem Y5{α:Type}{l:List α}{i:Int}(h:(l.length:Int)<=i):at' l i=none:=by unfold at' gB;rw[if_pos (by omega),if_neg (by omega)];rfl
theorem Wr{p:P}(h:∀i,p≠.var i):isVar p=none:=by cases p<;>first|rfl|exact absurd rfl (h _)
@[simp]theorem TF{d:D}:isVar (.con d)=none:=rfl
@[simp]theorem Tj{o:Op}{p q:P}:isVar (.bin o p q)=none:=rfl
@[simp]theorem TV{p:P}:isVar (.neg p)=none:=rfl
@[simp]theorem Uh{p:P}:isVar (.not p)=none:=rfl
@[simp]theorem SN{p q:P}:isVar (.and p q)=none:=rfl
@[simp]theorem We{p q:P}:isVar (.or p q)=none:=rfl
@[simp]theorem S6{o:Cm}{p q:P}:isVar (.cmp o p q)=none:=rfl
@[simp]theorem Up{p q r:P}:isVar (.M7 p q r)=none:=rfl
@[simp]theorem Tr{as:List P}:isVar (.tup as)=none:=rfl
@[simp]theorem Su{as:List P}:isVar (.lst as)=none:=rfl
@[simp]theorem Us{p q:P}:isVar (.idx p q)=none:=rfl
@[simp]theorem MN{p q r:P}:isVar (.slice p q r)=none:=rfl
@[simp]theorem RK{f:Nat}{as:List P}:isVar (.call f as)=none:=rfl
@[simp]theorem Ti{b:Zq}{as:List P}:isVar (.blt b as)=none:=rfl
@[simp]theorem Og{ts:List Ty}{p:P}:isVar (.inst ts p)=none:=rfl
@[simp]theorem NP{p e:P}{n:Nat}{is:List Nat}{one:Bool}{t:Option P}:isVar (.comp p n is one t e)=none:=rfl
@[simp]theorem Uk{p q:P}:isVar (.xj p q)=none:=rfl
@[simp]theorem Tc{p q:P}:isVar (.zip p q)=none:=rfl
noncomputable def lC(c:Call)(is:List Nat)(one:Bool)(test:Option P)(elt:P)(ds:List D)(ρ:List Sl):Res (List D):=turns is one (m9 c test) (ev c elt) ds [] ρ
@[simp]theorem Y8{c:Call}{src elt:P}{n:Nat}{is:List Nat}{one:Bool}{test:Option P}{ρ:List Sl}:ev c (.comp src n is one test elt) ρ=(srcOf (isVar src) (ev c src) ρ).bind fun ds ρ₁=>if ds.length<=lim then(lC c is one test elt ds (ρ₁++replicate n .aP)).bind fun xs ρ₂=>.ok (.own xs) (aQ ρ (isVar src) (ρ₂.take ρ₁.length))else .stuck:=(rfl)
noncomputable def Dz(c:Call)(n:Nat)(t:P)(body:List S)(k:Nat)(ρ:List Sl):Res Fl:=qt (gH (ev c t)) (eX c n body) k ρ
@[simp]theorem aay{c:Call}{n:Nat}{t:P}{body:List S}{ρ:List Sl}:ex c n (.whl t body) ρ=Dz c n t body n ρ:=(rfl)
theorem tZ{α β γ:Type}{x:Res β}{f:β->List Sl->Res α}{g:α->List Sl->Res γ}:(x.bind f).bind g=x.bind fun a ρ=>(f a ρ).bind g:=by cases x<;>rfl
@[simp]theorem aaG{Γ:Tab}{w n i:Nat}{args:List Sl}{α:Type}{f:R->List Sl->Res α}{Q:α->List Sl->Prop}:((run Γ w n i args).bind f).sat Q=(run Γ w n i args).sat fun a ρ=>(f a ρ).sat Q:=bu
@[simp]theorem abF{Γ:Tab}{w n i:Nat}{args:List Sl}{α β:Type}{f:R->List Sl->Res α}{g:α->List Sl->Res β}:((run Γ w n i args).bind f).bind g=(run Γ w n i args).bind fun a ρ=>(f a ρ).bind g:=tZ
@[simp]theorem ZL{c:Call}{is:List Nat}{one:Bool}{test:Option P}{elt:P}{ds:List D}{ρ:List Sl}{α:Type}{f:List D->List Sl->Res α}{Q:α->List Sl->Prop}:((lC c is one test elt ds ρ).bind f).sat Q=(lC c is one test elt ds ρ).sat fun a ρ=>(f a ρ).sat Q:=bu
@[simp]theorem ZX{c:Call}{is:List Nat}{one:Bool}{test:Option P}{elt:P}{ds:List D}{ρ:List Sl}{α β:Type}{f:List D->List Sl->Res α}{g:α->List Sl->Res β}:((lC c is one test elt ds ρ).bind f).bind g=(lC c is one test elt ds ρ).bind fun a ρ=>(f a ρ).bind g:=tZ
@[simp]theorem aaM{is:List Nat}{one:Bool}{b:List Sl->Res Fl}{ds:List D}{ρ:List Sl}{α:Type}{f:Fl->List Sl->Res α}{Q:α->List Sl->Prop}:((fO is one b ds ρ).bind f).sat Q=(fO is one b ds ρ).sat fun a ρ=>(f a ρ).sat Q:=bu
@[simp]theorem Zj{α β:Type}{p:Prop}[Decidable p]{a:β}{ρ:List Sl}{f:β->List Sl->Res α}{Q:α->List Sl->Prop}:((lift (if p then some a else none) ρ).bind f).sat Q=(p/\(f a ρ).sat Q):=by by_cases h:p<;>simp[h,lift,Res.bind]
@[simp]theorem Yw{α β γ:Type}{p:Prop}[Decidable p]{a:β}{ρ:List Sl}{f:β->List Sl->Res α}{g:α->List Sl->Res γ}:((lift (if p then some a else none) ρ).bind f).bind g=(lift (if p then some a else none) ρ).bind fun a ρ=>(f a ρ).bind g:=tZ
@[simp]theorem bb_ite{α β:Type}{p:Prop}[Decidable p]{x y:Res β}{f:β->List Sl->Res α}:(if p then x else y).bind f=if p then x.bind f else y.bind f:=by by_cases h:p<;>simp[h]
@[simp]theorem aa7{c:Call}{n k:Nat}{t:P}{b:List S}{ρ:List Sl}{α:Type}{f:Fl->List Sl->Res α}{Q:α->List Sl->Prop}:((Dz c n t b k ρ).bind f).sat Q=(Dz c n t b k ρ).sat fun a ρ=>(f a ρ).sat Q:=bu
@[simp]theorem aaR{α β:Type}{a:α}{ρ:List Sl}{f:α->List Sl->Res β}:(Res.ok a ρ).bind f=f a ρ:=rfl
@[simp]theorem Te{α β:Type}{f:α->List Sl->Res β}:(Res.stuck:Res α).bind f=.stuck:=rfl
@[simp]theorem Wg{α:Type}{a:α}{ρ:List Sl}:lift (some a) ρ=.ok a ρ:=rfl
@[simp]theorem Wx{α:Type}{ρ:List Sl}:lift (none:Option α) ρ=.stuck:=rfl
noncomputable def Bh:List Sl->Nat->Sl->List Sl|[],_,_=>[]|t::ρ,0,s=>cU t (some s)::ρ|t::ρ,k+1,s=>t::Bh ρ k s
noncomputable def bk:List Arg->List Sl->List Sl->List Sl|.du k::as,s::ss,ρ=>bk as ss (Bh ρ k s)|.dat _::as,_::ss,ρ=>bk as ss ρ|.tmp _::as,_::ss,ρ=>bk as ss ρ|_,_,ρ=>ρ
section
variable{t s:Sl}{ρ ss:List Sl}{k:Nat}{as:List Arg}{d:D}{ds:List D}
@[simp]theorem ac8:Bh (t::ρ) 0 s=cU t (some s)::ρ:=rfl
@[simp]theorem ac7:Bh (t::ρ) (k+1) s=t::Bh ρ k s:=rfl
@[simp]theorem Ot:bk (.du k::as) (s::ss) ρ=bk as ss (Bh ρ k s):=rfl
@[simp]theorem Rb:bk (.dat d::as) (s::ss) ρ=bk as ss ρ:=rfl
@[simp]theorem NQ:bk (.tmp ds::as) (s::ss) ρ=bk as ss ρ:=rfl
@[simp]theorem abO:bk [] ss ρ=ρ:=rfl
end
theorem xT{s:Sl}:∀{ρ:List Sl}{k j:Nat},(Bh ρ k s)[j]?=(ρ[j]?).map fun t=>if j=k then cU t (some s)else t|[],_,_=>by simp[Bh]|t::ρ,0,0=>by simp[Bh]|t::ρ,0,j+1=>by simp[Bh]|t::ρ,k+1,0=>by simp[Bh]|t::ρ,k+1,j+1=>by have:=xT (s:=s) (ρ:=ρ) (k:=k) (j:=j);simp only[Bh,List.getElem?_cons_succ,this];congr 1;funext t;simp
theorem wu{as:List Arg}{ss:List Sl}:∀{ρ:List Sl}{i j:Nat},(bV as ss i ρ)[j]?=(ρ[j]?).map fun t=>cU t (aL (i+j) as ss)|[],_,_=>by simp[bV]|t::ρ,i,0=>by simp[bV]|t::ρ,i,j+1=>by have:=wu (as:=as) (ss:=ss) (ρ:=ρ) (i:=i+1) (j:=j);simp only[bV,List.getElem?_cons_succ,this];rw[show i+1+j=i+(j+1)by omega]
def stb(t:Sl):Prop:=∀x,cU t x=t
def RJ(ρ:List Sl):List Arg->Prop|[]=>True|.du k::as=>(Arg.du k∈as->∀t,ρ[k]?=some t->stb t)/\RJ ρ as|_::as=>RJ ρ as
theorem nP{ρ:List Sl}:∀{as:List Arg}{ρ':List Sl},RJ ρ as->(∀k,Arg.du k∈as->∀t,ρ'[k]?=some t->ρ[k]?=some t\/stb t)->RJ ρ' as
 |[],_,_,_=>trivial|.du k::as,ρ',h,g=>⟨fun hm t ht=>by
  rcases g k (by simp) t ht with e|e;.exact h.1 hm t e
  .exact e,nP h.2 fun j hj=>g j (by simp[hj])⟩|.dat _::as,ρ',h,g=>nP (as:=as) h fun j hj=>g j (by simp[hj])|.tmp _::as,ρ',h,g=>nP (as:=as) h fun j hj=>g j (by simp[hj])
theorem lB{k:Nat}:∀{as:List Arg}{ss:List Sl},Arg.du k∉as->aL k as ss=none|[],_,_=>by unfold aL;rfl|.du j::as,[],_=>rfl|.dat _::as,[],_=>rfl|.tmp _::as,[],_=>rfl|.du j::as,s::ss,h=>by simp only[mem_cons,Arg.du.injEq,not_or]at h;rw[aL,if_neg (fun e=>h.1 e.symm),lB h.2]|.dat _::as,s::ss,h=>by simp only[mem_cons,not_or]at h;rw[aL,lB h.2]|.tmp _::as,s::ss,h=>by simp only[mem_cons,not_or]at h;rw[aL,lB h.2]
theorem yX:∀{as:List Arg}{ss ρ:List Sl},RJ ρ as->∀j,(bk as ss ρ)[j]?=(ρ[j]?).map fun t=>cU t (aL j as ss)
 |[],ss,ρ,_,j=>by cases ss<;>simp[aL]|.du k::as,[],ρ,_,j=>by rw[show bk (.du k::as) [] ρ=ρ from rfl];simp[aL]|.dat d::as,[],ρ,_,j=>by rw[show bk (.dat d::as) [] ρ=ρ from rfl];simp[aL]|.tmp d::as,[],ρ,_,j=>by rw[show bk (.tmp d::as) [] ρ=ρ from rfl];simp[aL]|.dat _::as,s::ss,ρ,h,j=>by rw[Rb,aL];exact yX (as:=as) h j|.tmp _::as,s::ss,ρ,h,j=>by rw[NQ,aL];exact yX (as:=as) h j|.du k::as,s::ss,ρ,h,j=>by
   have h2:RJ (Bh ρ k s) as:=nP h.2 fun i hi t ht=>by rw[xT]at ht;cases e:ρ[i]?with|none=>rw[e]at ht;cases ht|some t0=>
      rw[e]at ht;by_cases c:i=k;.subst c;have hs:=h.1 hi t0 e;simp[hs (some s)]at ht;exact .inl (by rw[ht])
      .simp[c]at ht;exact .inl (by rw[ht])
   rw[Ot,yX h2 j,xT,aL];cases e:ρ[j]?with|none=>rfl|some t0=>
     simp only[Option.map_some];by_cases c:j=k
     . subst c;rw[if_pos rfl,if_pos rfl];by_cases hm:Arg.du j∈as;.have hs:=h.1 hm t0 e;rw[hs (some s),hs]
       .rw[lB hm,Eb]
     .rw[if_neg c,if_neg (fun z=>c z.symm)]
theorem dJ{ρ:List Sl}{k:Nat}{b:Bool}{ds:List D}(e:ρ[k]?=some (.own b ds)):∀{as:List Arg}{u:List Nat}{r:List Sl},k∈u->bz ρ as u=some r->Arg.du k∉as
 |[],_,_,_,_=>by simp|.dat _::as,u,r,hu,h=>by simp only[bz,map_eq_some_iff]at h;obtain⟨r',h,_⟩:=h;simp[dJ e hu h]|.tmp _::as,u,r,hu,h=>by simp only[bz,map_eq_some_iff]at h;obtain⟨r',h,_⟩:=h;simp[dJ e hu h]|.du i::as,u,r,hu,h=>by
   rw[bz]at h;have hi:i≠k:=by rintro rfl;rw[e]at h;simp[hu]at h
   have:Arg.du k∉as:=by
    split at h;.obtain⟨r',h,_⟩:=map_eq_some_iff.mp h;exact dJ e hu h
    . split at h;.cases h
      .obtain⟨r',h,_⟩:=map_eq_some_iff.mp h;exact dJ e (by simp[hu]) h
    . split at h;.cases h
      .obtain⟨r',h,_⟩:=map_eq_some_iff.mp h;exact dJ e (by simp[hu]) h
    .cases h
   simp[this];exact fun z=>hi z.symm
theorem dI{ρ:List Sl}:∀{as:List Arg}{u:List Nat}{r:List Sl},bz ρ as u=some r->RJ ρ as
 |[],_,_,_=>trivial|.dat _::as,u,r,h=>by obtain⟨r',h,_⟩:=map_eq_some_iff.mp h;exact dI (as:=as) h|.tmp _::as,u,r,h=>by obtain⟨r',h,_⟩:=map_eq_some_iff.mp h;exact dI (as:=as) h|.du i::as,u,r,h=>by
   rw[bz]at h;split at h;.rename_i b d q;obtain⟨r',h,_⟩:=map_eq_some_iff.mp h;exact⟨fun _ t ht=>by rw[q]at ht;cases ht;exact fun x=>Cp,dI h⟩
   . rename_i b ds q;split at h;.cases h
     .obtain⟨r',h,_⟩:=map_eq_some_iff.mp h;exact⟨fun hm=>absurd hm (dJ q (by simp) h),dI h⟩
   . rename_i ds q;split at h;.cases h
     .obtain⟨r',h,_⟩:=map_eq_some_iff.mp h;exact⟨fun _ t ht=>by rw[q]at ht;cases ht;exact fun x=>ye,dI h⟩
   .cases h
theorem Xi{as:List Arg}{ss ρ r:List Sl}{u:List Nat}(h:bz ρ as u=some r):bV as ss 0 ρ=bk as ss ρ:=by apply List.ext_getElem?;intro j;rw[wu,yX (dI h),Nat.zero_add]
@[simp]theorem Uv{c:Call}{k:Nat}{as:List Arg}{ρ:List Sl}:jT c k as ρ=match bz ρ as []with|none=>.stuck|some args=>(c k args).bind fun r args'=>.ok r (bk as args' ρ):=by unfold jT;cases e:bz ρ as []with|none=>rfl|some args=>simp only[<-Xi (r:=args) e];cases c k args<;>rfl
theorem gb{c:Call}{is:List Nat}{one:Bool}{elt:P}(J:List Sl->Prop)(g:D->D){Q:List D->List Sl->Prop}{ds:List D}{ρ:List Sl}(j:J ρ)(h:∀d,d∈ds->∀ρ,J ρ->∃ρ1,bI ρ is one d=some ρ1/\(ev c elt ρ1).sat fun r ρ3=>g d=r.d/\J ρ3)(k:∀ρ,J ρ->Q (ds.map g) ρ):(lC c is one none elt ds ρ).sat Q:=yo J g j h k
theorem Cj{c:Call}{is:List Nat}{one:Bool}{elt t:P}(J:List Sl->Prop)(g:D->Option D){Q:List D->List Sl->Prop}{ds:List D}{ρ:List Sl}(j:J ρ)(h:∀d,d∈ds->∀ρ,J ρ->∃ρ1,bI ρ is one d=some ρ1/\(ev c t ρ1).sat fun r ρ2=>∃b,r.d=.bl b/\if b=true then(ev c elt ρ2).sat fun r ρ3=>g d=some r.d/\J ρ3 else g d=none/\J ρ2)(k:∀ρ,J ρ->Q (ds.filterMap g) ρ):(lC c is one (some t) elt ds ρ).sat Q:=jb J g j (fun d hd ρ j=>by obtain⟨ρ1,e,h1⟩:=h d hd ρ j;refine⟨ρ1,e,?_⟩;rw[m9,gH,bu];refine h1.imp fun r ρ2⟨b,e,q⟩=>?_;rw[e];exact q) fun ρ j=>by simpa using k ρ j
theorem iI{c:Call}{n:Nat}{t:P}{body:List S}(J:Nat->List Sl->Prop){Q:Fl->List Sl->Prop}(h:∀m ρ,J m ρ->(ev c t ρ).sat fun r ρ1=>∃b,r.d=.bl b/\if b=true then(eX c n body ρ1).sat (fQ (fun ρ2=>∃m',m'<m/\J m' ρ2) Q)else Q .next ρ1):∀{k m:Nat}{ρ:List Sl},m<k->J m ρ->(Dz c n t body k ρ).sat Q|0,m,ρ,hk,_=>absurd hk (Nat.not_lt_zero _)|k+1,m,ρ,hk,j=>by unfold Dz;rw[qt,bu,gH,bu];refine(h m ρ j).imp fun r ρ1⟨b,e,q⟩=>?_;rw[e];show(if b=true then _ else _:Res Fl).sat Q;cases b with|false=>rw[if_neg (by simp)]at q;rw[if_neg (by simp)];exact q|true=>rw[if_pos rfl]at q;rw[if_pos rfl,bu];refine q.imp fun fl ρ2 q=>?_;cases fl with|next=>obtain⟨m',hm,j'⟩:=q;exact iI J h (lt_of_lt_of_le hm (Nat.lt_succ_iff.mp hk)) j'|cont=>obtain⟨m',hm,j'⟩:=q;exact iI J h (lt_of_lt_of_le hm (Nat.lt_succ_iff.mp hk)) j'|brk=>exact q|ret v=>exact q
@[simp]theorem ado:type_of%@HH.E1:=@HH.E1
@[simp]theorem adz:type_of%@HH.E2:=@HH.E2
@[simp]theorem adD:type_of%@HH.E3:=@HH.E3
@[simp]theorem adL:type_of%@HH.E4:=@HH.E4
@[simp]theorem adG:type_of%@HH.E5:=@HH.E5
@[simp]theorem ac2:type_of%@HH.E6:=@HH.E6
@[simp]theorem adO:type_of%@HH.E7:=@HH.E7
@[simp]theorem ac3:type_of%@HH.E8:=@HH.E8
@[simp]theorem aaH:type_of%@HH.E9:=@HH.E9
@[simp]theorem ach:type_of%@HH.E10:=@HH.E10
@[simp]theorem abR:type_of%@HH.E11:=@HH.E11
@[simp]theorem abK:type_of%@HH.E12:=@HH.E12
@[simp]theorem aal:type_of%@HH.E13:=@HH.E13
@[simp]theorem aag:type_of%@HH.E14:=@HH.E14
@[simp]theorem ab4:type_of%@HH.E15:=@HH.E15
@[simp]theorem abp:type_of%@HH.E16:=@HH.E16
@[simp]theorem Ys:type_of%@HH.Xl:=@HH.Xl
@[simp]theorem aas:type_of%@HH.E17:=@HH.E17
@[simp]theorem aaF:type_of%@HH.E19:=@HH.E19
@[simp]theorem abi:type_of%@HH.E20:=@HH.E20
@[simp]theorem adm:type_of%@HH.X1:=@HH.X1
@[simp]theorem adM:type_of%@HH.X2:=@HH.X2
@[simp]theorem adb:type_of%@HH.X3:=@HH.X3
@[simp]theorem adN:type_of%@HH.X4:=@HH.X4
@[simp]theorem ac6:type_of%@HH.X5:=@HH.X5
@[simp]theorem ada:type_of%@HH.X6:=@HH.X6
@[simp]theorem adH:type_of%@HH.X7:=@HH.X7
@[simp]theorem ac1:type_of%@HH.X8:=@HH.X8
@[simp]theorem aap:type_of%@HH.X9:=@HH.X9
@[simp]theorem acn:type_of%@HH.Zu:=@HH.Zu
@[simp]theorem acg:type_of%@HH.X11:=@HH.X11
@[simp]theorem aa4:type_of%@HH.YJ:=@HH.YJ
@[simp]theorem aaD:type_of%@HH.X13:=@HH.X13
@[simp]theorem aaP:type_of%@HH.gH.eq_1:=@HH.gH.eq_1
@[simp]theorem abw:type_of%@HH.evs.eq_1:=@HH.evs.eq_1
@[simp]theorem abU:type_of%@HH.evs.eq_2:=@HH.evs.eq_2
@[simp]theorem aam:type_of%@HH.xg.eq_1:=@HH.xg.eq_1
@[simp]theorem aaI:type_of%@HH.xg.eq_2:=@HH.xg.eq_2
@[simp]theorem aaZ:type_of%@HH.m9.eq_1:=@HH.m9.eq_1
@[simp]theorem ab8:type_of%@HH.m9.eq_2:=@HH.m9.eq_2
@[simp]theorem abJ:type_of%@HH.xR.eq_1:=@HH.xR.eq_1
@[simp]theorem Vi:type_of%@HH.bz.eq_1:=@HH.bz.eq_1
@[simp]theorem W8:type_of%@HH.bz.eq_2:=@HH.bz.eq_2
@[simp]theorem Xk:type_of%@HH.bz.eq_3:=@HH.bz.eq_3
@[simp]theorem V1:type_of%@HH.bz.eq_4:=@HH.bz.eq_4
@[simp]theorem Vh:type_of%@HH.bV.eq_1:=@HH.bV.eq_1
@[simp]theorem WM:type_of%@HH.bV.eq_2:=@HH.bV.eq_2
@[simp]theorem V7:type_of%@HH.aL.eq_1:=@HH.aL.eq_1
@[simp]theorem Vz:type_of%@HH.aL.eq_2:=@HH.aL.eq_2
@[simp]theorem Vw:type_of%@HH.aL.eq_3:=@HH.aL.eq_3
@[simp]theorem VH:type_of%@HH.aL.eq_4:=@HH.aL.eq_4
end HH
end
section
namespace HH
open PySem L2 PySem.Spec PyProof.Rows
section
variable{X:Cx}{c:Call}{a b:Expr}{pa pb:P}{pos:Pos}
theorem pq:∀{ds:List D}{ns:List Int},ds.mapM gA=some ns->ds=ns.map D.int|[],ns,h=>by simp at h;subst h;rfl|d::ds,ns,h=>by simp[List.mapM_cons,Option.bind_eq_some_iff]at h;obtain⟨i,e1,ms,e2,rfl⟩:=h;rw[bR e1,pq e2];rfl
theorem fY{K:PySem.W.Frag}{F:Hp}:∀{ns:List Int}{ys:List V},au K F ys (ns.map D.int)->ys=ns.map V.int|[],ys,h=>by rw[h.fu];rfl|n::ns,ys,h=>by obtain⟨v,r,rfl,h1,t⟩:=h.bT;rw[Rep]at h1;rw[h1,fY t];rfl
theorem sU{ns:List Int}{us:List Value}(h:Vals (ns.map V.int) us){i:Nat}{v:Value}(e:us.toArray[i]?=some v):∃t,v=.int (ns.getD i 0) t:=by
 have e:us[i]?=some v:=by simpa using e
 have hi:i<us.length:=(List.getElem?_eq_some_iff.mp e).1;have hl:=h.length;rw[length_map]at hl;have g:(ns.map V.int)[i]?=some (.int (ns.getD i 0)):=by rw[getElem?_map,List.getElem?_eq_getElem (by omega)];simp[List.getD,show i<ns.length by omega]
 obtain⟨w,g1,g2⟩:=h.get g;rw[e]at g1;cases g1;exact g2
theorem walked{pins:List (Addr×Obj)}{σ:L2.St}{H:Hp}{s:Shared}{p:Addr}{ys:List V}(I:L2.Inv X pins σ H s)(hc:X.calm=true)(hq:dz X.K H p ys\/jm X.K H p ys){Q:Value->Shared->Prop}{E:Value->Shared->Prop}(k:∀(it:Addr)(us:List Value)(s₂:Shared)(St:Nat->Heap->Prop),Vals ys us->Walks X.prog X.w X.A.in1 it [it,p] [it] us.toArray.size (fun i v=>us.toArray[i]?=some v) St->St 0 s₂.heap->(∀ b ∈[it,p],b<s₂.heap.objs.size)->(∀h' tk,(∀b o,b∉[it]->s₂.heap.get? b=some o->h'.get? b=some o)->L2.Inv X pins σ H {s₂ with heap:=h',toks:=tk})->Q (.ref it) s₂):wpAny (model X.prog X.w) X.A.in1 (pyIter (.ref p)) Q E s:=by
 have hh:X.A.in1.handled=none:=I.ok.hd hc;rcases hq with hq|hq
 . obtain⟨us,rv,pl,hz⟩:=I.list hq;have pl:=pl.isList;have hlt:p<s.heap.objs.size:=by obtain⟨o,h1,_⟩:=pl;exact lt_size h1
   refine wpAny_pyIter_list pl (k s.heap.objs.size us _ _ rv (Walks.list hh s.heap.objs.size p (ne_of_lt hlt) us.toArray) ⟨⟨_,get?_push_size _ rfl,rfl,rfl⟩,?_⟩ ?_ fun h' tk kp=>?_);.obtain⟨o,h1,h2⟩:=pl;exact⟨o,get?_push_of_some _ h1,h2⟩
   . intro b hb;obtain⟨o,h1,_⟩:=pl;simp at hb;rcases hb with rfl|rfl;.exact lt_size (get?_push_size _ rfl)
     .exact lt_size (get?_push_of_some _ h1)
   .exact I.kept (fun b o z=>kp b o (by simp;exact ne_of_lt (lt_size z)) (get?_push_of_some _ z))
 . obtain⟨us,rv,pl,hz⟩:=I.tuple hq;have hlt:p<s.heap.objs.size:=by obtain⟨o,h1,_⟩:=pl;exact lt_size h1
   refine wpAny_pyIter_tuple pl (k s.heap.objs.size us _ _ rv (Walks.tuple hh s.heap.objs.size p (ne_of_lt hlt) us.toArray) ⟨⟨_,get?_push_size _ rfl,rfl,rfl⟩,?_⟩ ?_ fun h' tk kp=>?_);.obtain⟨o,h1,h2⟩:=pl;exact⟨o,get?_push_of_some _ h1,h2⟩
   . intro b hb;obtain⟨o,h1,_⟩:=pl;simp at hb;rcases hb with rfl|rfl;.exact lt_size (get?_push_size _ rfl)
     .exact lt_size (get?_push_of_some _ h1)
   .exact I.kept (fun b o z=>kp b o (by simp;exact ne_of_lt (lt_size z)) (get?_push_of_some _ z))
theorem mW(ns:List Int):∀k,k<=ns.length->preSum (fun i=>ns.getD i 0) k=(ns.take k).sum|0,_=>by simp[preSum]|k+1,h=>by rw[preSum,mW ns k (by omega),List.take_succ,List.sum_append];simp[List.getD,show k<ns.length by omega]
theorem Wu(hc:X.calm=true):dm X (.builtin "sum") (Rh X.K fun x=>blt .sum [x]):=by
 rintro pins s σ H xs us Q I r⟨x,hx,F,d,r',sm,px,he,k⟩;obtain⟨ns,e1,he⟩:=map_some (show((items d).bind fun ds=>ds.mapM gA).map _=some r' from he);subst he;obtain⟨ds,e2,e3⟩:=bF e1;obtain⟨p,ys,rfl,hq,rs⟩:=px.items sm e2;rw[pq e3]at rs;have ey:=fY rs;subst hx;obtain⟨u,rfl,rx⟩:=r.one;cases rx;refine call_sum_walkG (walked I hc hq fun it us s₂ St rv W h0 hl kp=>?_);subst ey;have hlen:us.toArray.size=ns.length:=by rw[size_toArray,<-rv.length,length_map]
 refine⟨it,_,_,_,_,St,fun i=>ns.getD i 0,rfl,W,h0,hl,fun i v e=>sU rv e,fun h' tk t' kk=>?_⟩;rw[hlen,mW ns _ (le_refl _),List.take_length];exact⟨.int _,H,kp h' tk kk,⟨t',rfl⟩,bK.cY sm (bH _) k⟩
theorem Ec{ns:List Int}{m:Int}(hm:ns.min?=some m):ns.getD (argBest (fun i j=>decide (ns.getD i 0<ns.getD j 0)) (ns.length-1)) 0=m:=by
 have hne:ns≠[]:=by rintro rfl;simp at hm
 have hl:0<ns.length:=List.length_pos_iff.mpr hne;obtain⟨h1,h2⟩:=argBest_lt (fun i=>ns.getD i 0) (ns.length-1);have hb:=List.min?_eq_some_iff.mp hm;generalize argBest (fun i j=>decide (ns.getD i 0<ns.getD j 0)) (ns.length-1)=j at*;have hj:j<ns.length:=by omega
 have hmem:ns.getD j 0∈ns:=by simp[List.getD,hj]
 obtain⟨q,hq,e⟩:=List.getElem_of_mem hb.1;have h3:=h2 q (by omega);simp only[List.getD,List.getElem?_eq_getElem hq,Option.getD_some]at h3;rw[e]at h3;have h4:=hb.2 _ hmem;have h3:ns.getD j 0<=m:=h3;omega
theorem Ra(hc:X.calm=true):dm X (.builtin "min") (Rh X.K fun x=>blt .CN [x]):=by
 rintro pins s σ H xs us Q I r⟨x,hx,F,d,r',sm,px,he,k⟩;obtain⟨ns,e1,he⟩:=bF (show((items d).bind fun ds=>ds.mapM gA).bind _=some r' from he);obtain⟨m,hm,he⟩:=map_some he;subst he;obtain⟨ds,e2,e3⟩:=bF e1;obtain⟨p,ys,rfl,hq,rs⟩:=px.items sm e2;rw[pq e3]at rs;have ey:=fY rs;subst hx;obtain⟨u,rfl,rx⟩:=r.one;cases rx;refine call_min_walk (walked I hc hq fun it us s₂ St rv W h0 hl kp=>?_);subst ey;have hlen:us.toArray.size=ns.length:=by rw[size_toArray,<-rv.length,length_map]
 have hpos:0<ns.length:=by cases ns with|nil=>simp at hm|cons _ _=>simp
 refine⟨it,_,_,_,_,St,_,rfl,W,h0,hl,by rw[hlen];exact hpos,CmpOf.ints_lt (fun i=>ns.getD i 0) (fun i v e=>sU rv e),fun v h' tk hv kk=>?_⟩;rw[hlen]at hv;obtain⟨t,rfl⟩:=sU rv hv;rw[Ec hm];exact⟨.int _,H,kp h' tk kk,⟨t,rfl⟩,bK.cY sm (bH _) k⟩
theorem boot_sum:bootBuiltins "sum"=some (.builtin "sum"):=by decide+kernel
theorem Et{x:Str}{p':Pos}(hx:x="sum")(hc:X.calm=true)(hg:Gl X x)(hm:X.mg x=none)(ha:SX X c a pa)(hs:starEach [a] X.env=(false,eval a X.env)::starEach [] X.env:=by rfl):SX X c (.Call (.Name x p') [a] [] pos) (.blt .sum [pa]):=by subst hx;exact qM (fun h=>dY (Wu hc) hg hm boot_sum h (he:=hs)) ha (fun ρ=>rfl) rfl hs
theorem Ad{x:Str}{p':Pos}(hx:x="min")(hc:X.calm=true)(hg:Gl X x)(hm:X.mg x=none)(ha:SX X c a pa)(hs:starEach [a] X.env=(false,eval a X.env)::starEach [] X.env:=by rfl):SX X c (.Call (.Name x p') [a] [] pos) (.blt .CN [pa]):=by subst hx;exact qM (fun h=>dY (Ra hc) hg hm boot_min h (he:=hs)) ha (fun ρ=>rfl) rfl hs
end
end HH
end
section
namespace HH
open PySem
section
variable{i j:Int}{ds es:List D}{d:D}{b b':Bool}
@[simp]theorem ZM:qm .shl=GJ:=rfl
@[simp]theorem YZ:qm .shr=Gb:=rfl
@[simp]theorem Wc:qm .band=yD:=rfl
@[simp]theorem Tg:GJ (.int i) (.int j)=if 0<=j/\j<=1000/\i.natAbs<18446744073709551616 then some (.val (.int (i*2^j.toNat)))else none:=rfl
@[simp]theorem TQ:Gb (.int i) (.int j)=if 0<=j then some (.val (.int (i/2^j.toNat)))else none:=rfl
@[simp]theorem Pz:yD (.int i) (.int j)=some (.val (.int (Builtin.bitAnd i j))):=rfl
@[simp]theorem Ss:kh (.lst ds) (.int i)=if 0<=i/\0<ds.length/\ds.length*i.toNat<=lim then some (.own (replicate i.toNat ds).flatten)else none:=rfl
@[simp]theorem S8:kh (.tup ds) (.int i)=if 0<=i/\0<ds.length/\ds.length*i.toNat<=lim then some (.val (.tup (replicate i.toNat ds).flatten))else none:=rfl
@[simp]theorem abZ:cm .isT (.bl b) (.bl true)=some b:=rfl
@[simp]theorem Zo:cm .Xx (.bl b) (.bl true)=some (!b):=rfl
@[simp]theorem Y7:blt .sum [.lst ds]=(ds.mapM gA).map fun ns=>.val (.int ns.sum):=rfl
@[simp]theorem Wj:blt .CN [.lst ds]=(ds.mapM gA).bind fun ns=>ns.min?.map fun i=>.val (.int i):=rfl
end
@[simp]theorem aa3:type_of%@HH.X15:=@HH.X15
@[simp]theorem aan:type_of%@HH.X16:=@HH.X16
theorem iB{ns:List Int}:(ns.map D.int).mapM gA=some ns:=by induction ns with|nil=>rfl|cons n ns ih=>simp[ih]
@[simp]theorem Ul{ns:List Int}:ns.mapM (gA ∘ D.int)=some ns:=by rw[<-iB (ns:=ns),List.mapM_map]
@[simp]theorem Xe{bs:List Bool}:bs.mapM (MF ∘ D.bl)=some bs:=by induction bs with|nil=>rfl|cons b bs ih=>simp[ih]
theorem nT{S:List Int}{i:Int}:((S.map D.int).any fun y=>jC y (.int i))=S.contains i:=by induction S with|nil=>rfl|cons s S ih=>rw[map_cons,any_cons,List.contains_cons,ih,pqi];rw[show(s==i)=(i==s)from Bool.eq_iff_iff.mpr ⟨fun h=>by simp at h ⊢;exact h.symm,fun h=>by simp at h ⊢;exact h.symm⟩]
theorem kZ{S:List Int}:(S.map D.int).all flat=true:=by rw[all_eq_true];intro d hd;obtain⟨i,_,rfl⟩:=mem_map.mp hd;rfl
theorem aco{S:List Int}{i:Int}:cm .inn (.int i) (.lst (S.map D.int))=some (S.contains i):=by show qj false _ _=_;unfold qj;simp only[qI,bind_some,kW,kZ,Bool.and_true,nT];rfl
theorem aaL{S:List Int}{i:Int}:cm .inn (.int i) (.tup (S.map D.int))=some (S.contains i):=by show qj false _ _=_;unfold qj;simp only[rK,bind_some,kW,kZ,Bool.and_true,nT];rfl
theorem Tp{S:List Int}{i:Int}:cm .Hw (.int i) (.lst (S.map D.int))=some (!S.contains i):=by show qj true _ _=_;unfold qj;simp only[qI,bind_some,kW,kZ,Bool.and_true,nT];rfl
theorem Td{S:List Int}{i:Int}:cm .Hw (.int i) (.tup (S.map D.int))=some (!S.contains i):=by show qj true _ _=_;unfold qj;simp only[rK,bind_some,kW,kZ,Bool.and_true,nT];rfl
theorem nQ{n:Nat}{S:List Int}:cJ (n+1) (.lst (S.map D.int))=true:=by rw[cJ,all_eq_true];intro d hd;obtain⟨i,_,rfl⟩:=mem_map.mp hd;cases n<;>rfl
theorem pg:∀{S T:List Int},fC (S.map D.int) (T.map D.int)=(S==T)|[],[]=>by simp[fC]|[],_::_=>by simp[fC]|_::_,[]=>by simp[fC]|s::S,t::T=>by rw[map_cons,map_cons,fC,pg,pqi];rfl
theorem JB{S T:List Int}:cm .eq (.lst (S.map D.int)) (.lst (T.map D.int))=some (S==T):=by show Hg _ _=_;unfold Hg;rw[nQ,nQ,ZJ,pg];rfl
theorem K7{S T:List Int}:cm .ne (.lst (S.map D.int)) (.lst (T.map D.int))=some (!(S==T)):=by show Ru _ _=_;unfold Ru;rw[nQ,nQ,ZJ,pg];rfl
theorem Zh{S:List Int}:cm .eq (.lst (S.map D.int)) (.lst [])=some S.isEmpty:=by rw[show(.lst []:D)=.lst (([]:List Int).map D.int)from rfl,JB];cases S<;>rfl
theorem ZV{S:List Int}:cm .ne (.lst (S.map D.int)) (.lst [])=some (!S.isEmpty):=by rw[show(.lst []:D)=.lst (([]:List Int).map D.int)from rfl,K7];cases S<;>rfl
theorem YL{α:Type}{l:List α}{x:α}:at' (l++[x]) (-1)=some x:=by
 unfold at' gB;rw[if_neg (by decide),if_pos (by simp only[length_append,List.length_singleton];omega)];have:(-1+((l++[x]).length:Int)).toNat=l.length:=by simp only[length_append,List.length_singleton];omega
 rw[this];simp
theorem iG{α:Type}{l:List α}{f:α->D}{k:Nat}{x:α}(h:l[k]?=some x):at' (l.map f) (k:Int)=some (f x):=by have hk:=(List.getElem?_eq_some_iff.mp h).1;rw[Hs (by simpa using hk),getElem?_map,h];rfl
theorem RL{n k:Nat}(h:k<n):gB n (k:Int)=some k:=by unfold gB;rw[if_pos (by omega),if_pos (by omega)];simp
theorem Yu{α:Type}{l:List α}{i:Int}(h:0<=i)(h':i<l.length):∃x,at' l i=some x/\x∈l:=by
 rw[oO h h'];have hk:i.toNat<l.length:=by omega
 exact⟨l[i.toNat],by simp[hk],getElem_mem hk⟩
theorem p6{is:List Nat}{one:Bool}{body:List Sl->Res Fl}{g:Nat->D}{N:Nat}(J:Nat->List Sl->Prop){Q:Fl->List Sl->Prop}(hb:∀i ρ,i<N->J i ρ->∃ρ1,bI ρ is one (g i)=some ρ1/\(body ρ1).sat (fQ (J (i+1)) Q))(hq:∀ρ,J N ρ->Q .next ρ){ρ:List Sl}(h0:J 0 ρ):(fO is one body ((List.range N).map g) ρ).sat Q:=by
 refine bG (fun r ρ=>∃i,i<=N/\r=((List.range N).map g).drop i/\J i ρ) ?_ ?_ ⟨0,zero_le _,rfl,h0⟩
 . rintro d r ρ⟨i,hi,e,j⟩;have hlt:i<N:=by
    rcases Nat.lt_or_ge i N with h|h;.exact h
    .rw[List.drop_eq_nil_of_le (by simpa using h)]at e;cases e
   rw[drop_eq_getElem_cons (by simpa using hlt)]at e;injection e with e1 e2;simp at e1;subst e1;obtain⟨ρ1,h1,h2⟩:=hb i ρ hlt j;refine⟨ρ1,h1,h2.imp fun fl ρ2 q=>?_⟩;cases fl with|next=>exact⟨i+1,hlt,e2,q⟩|cont=>exact⟨i+1,hlt,e2,q⟩|brk=>exact q|ret v=>exact q
 . rintro ρ⟨i,hi,e,j⟩;have:i=N:=by have hl:=congrArg List.length e;simp at hl;omega
   subst this;exact hq ρ j
theorem Uo{c:Call}{is:List Nat}{one:Bool}{elt:P}{t:Option P}(J:List Sl->Prop)(P:D->Prop){Q:List D->List Sl->Prop}{ds:List D}{ρ:List Sl}(j:J ρ)(h:∀d,d∈ds->∀ρ,J ρ->∃ρ1,bI ρ is one d=some ρ1/\(m9 c t ρ1).sat fun b ρ2=>if b=true then(ev c elt ρ2).sat fun r ρ3=>P r.d/\J ρ3 else J ρ2)(k:∀xs ρ,J ρ->xs.length<=ds.length->(∀x∈xs,P x)->Q xs ρ):(lC c is one t elt ds ρ).sat Q:=by suffices hh:∀(ds:List D)(acc:List D)(ρ:List Sl),J ρ->(∀x∈acc,P x)->(∀d,d∈ds->∀ρ,J ρ->∃ρ1,bI ρ is one d=some ρ1/\(m9 c t ρ1).sat fun b ρ2=>if b=true then(ev c elt ρ2).sat fun r ρ3=>P r.d/\J ρ3 else J ρ2)->(turns is one (m9 c t) (ev c elt) ds acc ρ).sat fun xs ρ=>J ρ/\(∀x∈xs,P x)/\xs.length<=acc.length+ds.length from(hh ds [] ρ j (by simp) h).imp fun xs ρ⟨q1,q2,q3⟩=>k xs ρ q1 (by simpa using q3) q2;intro ds;induction ds with|nil=>intro acc ρ j ha _;rw[turns];exact⟨j,ha,by simp⟩|cons d r ih=>
   intro acc ρ j ha h;obtain⟨ρ1,e,h1⟩:=h d (by simp) ρ j;rw[turns,e];show((m9 c t ρ1).bind _).sat _;rw[bu];refine h1.imp fun b ρ2 q=>?_
   cases b with|true=>
     rw[if_pos rfl]at q;rw[if_pos rfl,bu];refine q.imp fun x ρ3⟨p,j3⟩=>?_;refine(ih (acc++[x.d]) ρ3 j3 (fun y hy=>?_) fun d' hd'=>h d' (by simp[hd'])).imp fun xs ρ⟨q1,q2,q3⟩=>⟨q1,q2,by simp at q3 ⊢;omega⟩;rcases mem_append.mp hy with hy|hy;.exact ha y hy
     .rw[mem_singleton.mp hy];exact p|false=>rw[if_neg (by simp)]at q;rw[if_neg (by simp)];exact(ih acc ρ2 q ha fun d' hd'=>h d' (by simp[hd'])).imp fun xs ρ⟨q1,q2,q3⟩=>⟨q1,q2,by simp at q3 ⊢;omega⟩
theorem Bl{c:Call}{is:List Nat}{one:Bool}{elt:P}(J:List Sl->Prop)(P:D->Prop){Q:List D->List Sl->Prop}{ds:List D}{ρ:List Sl}(j:J ρ)(h:∀d,d∈ds->∀ρ,J ρ->∃ρ1,bI ρ is one d=some ρ1/\(ev c elt ρ1).sat fun r ρ3=>P r.d/\J ρ3)(k:∀xs ρ,J ρ->xs.length=ds.length->(∀x∈xs,P x)->Q xs ρ):(lC c is one none elt ds ρ).sat Q:=by suffices hh:∀(ds:List D)(acc:List D)(ρ:List Sl),J ρ->(∀x∈acc,P x)->(∀d,d∈ds->∀ρ,J ρ->∃ρ1,bI ρ is one d=some ρ1/\(ev c elt ρ1).sat fun r ρ3=>P r.d/\J ρ3)->(turns is one (m9 c none) (ev c elt) ds acc ρ).sat fun xs ρ=>J ρ/\(∀x∈xs,P x)/\xs.length=acc.length+ds.length from(hh ds [] ρ j (by simp) h).imp fun xs ρ⟨q1,q2,q3⟩=>k xs ρ q1 (by simpa using q3) q2;intro ds;induction ds with|nil=>intro acc ρ j ha _;rw[turns];exact⟨j,ha,by simp⟩|cons d r ih=>
   intro acc ρ j ha h;obtain⟨ρ1,e,h1⟩:=h d (by simp) ρ j;rw[turns,e];show((m9 c none ρ1).bind _).sat _;rw[m9];show((ev c elt ρ1).bind _).sat _;rw[bu];refine h1.imp fun x ρ3⟨p,j3⟩=>?_;refine(ih (acc++[x.d]) ρ3 j3 (fun y hy=>?_) fun d' hd'=>h d' (by simp[hd'])).imp fun xs ρ⟨q1,q2,q3⟩=>⟨q1,q2,by simp at q3 ⊢;omega⟩;rcases mem_append.mp hy with hy|hy;.exact ha y hy
   .rw[mem_singleton.mp hy];exact p
inductive A3(a b c:Prop):Prop where|mk(ha:a)(hb:b)(hc:c)
inductive A4(a b c d:Prop):Prop where|mk(ha:a)(hb:b)(hc:c)(hd:d)
inductive A5(a b c d e:Prop):Prop where|mk(ha:a)(hb:b)(hc:c)(hd:d)(he:e)
inductive A6(a b c d e f:Prop):Prop where|mk(ha:a)(hb:b)(hc:c)(hd:d)(he:e)(hf:f)
inductive A7(a b c d e f g:Prop):Prop where|mk(ha:a)(hb:b)(hc:c)(hd:d)(he:e)(hf:f)(hg:g)
inductive A8(a b c d e f g h:Prop):Prop where|mk(ha:a)(hb:b)(hc:c)(hd:d)(he:e)(hf:f)(hg:g)(hh:h)
inductive A9(a b c d e f g h i:Prop):Prop where|mk(ha:a)(hb:b)(hc:c)(hd:d)(he:e)(hf:f)(hg:g)(hh:h)(hi:i)
end HH
end
section
namespace HT
open PySem PySem.Spec PyProof.Rows
section
variable{prog:Program}{w:World}{A:Around}{E:Value->Shared->Prop}{s:Shared}
theorem uV{t sl:Addr}{its:Array Value}{vl vu:Value}{lo hi:Option Int}{Q:Value->Shared->Prop}(ht:IsTup s.heap t its)(hs:s.heap.IsSliceOf sl vl vu .none)(pl:IsPart vl lo)(pu:IsPart vu hi)(h1:cF its.size 0 lo=0)(h2:cF its.size its.size hi=its.size)(h:Q (.ref t) s):wpAny (model prog w) A (getItem (.ref t) (.ref sl)) Q E s:=by
 obtain⟨os,hos,hcs,hds⟩:=id hs;have hT:s.TypeIs (.ref sl) "slice":=⟨os,hos,hcs⟩;unfold getItem;try with_reducible refine wpAny_holding ?_
 first|refine wpAny_bind (wpAny_pure ?_)|skip
 refine wpAny_bind (wpAny_sequenceKey ht.typeIs (by decide) (wpAny_bind (wpAny_callSpecial?_slot (name:=Str.ofString "__getitem__") ht.typeIs slot_tuple_getitem (wpAny_call_entry slot_tuple_getitem ht.typeIs entry_tuple_getitem ?_ (args_tuple_getitem _ _)))));show wpAny _ _ (tupleItemsOf (.ref t)>>=_) _ _ s;refine wpAny_bind (tupleItemsOf_ ht (wpAny_bind (wpAny_typeOf hT ?_)));rw[if_pos (by decide)];refine wpAny_bind (fX hs pl pu ?_);have acC:((((cF its.size 0 lo:Nat):Int)==0&&(1:Int)==1&&(cF its.size its.size hi-cF its.size 0 lo)==its.size)=true):=by rw[h1,h2];simp
 show wpAny _ _ (if(((cF its.size 0 lo:Nat):Int)==0&&(1:Int)==1&&(cF its.size its.size hi-cF its.size 0 lo)==its.size)=true then _ else _) _ _ s;rw[if_pos acC];unfold Builtin.Tuple.tupleIsExact;refine wpAny_bind (wpAny_bind (wpAny_typeOf ht.typeIs (wpAny_pure ?_)));rw[if_pos (by decide)];exact wpAny_bind (wpAny_rule (wpAny_pure ⟨_,rfl,wpAny_pure h⟩))
end
end HT
namespace HH
open PySem L2 PySem.Spec PyProof.Rows
noncomputable def nst:Expr->Bool|.Starred _ _=>false|_=>true
theorem gh{e:Expr}{es:List Expr}{env:Env}(h:nst e=true):starEach (e::es) env=(false,eval e env)::starEach es env:=by cases e with|Starred a b=>cases h|_=>rw[starEach];(intro e p z;cases z)
noncomputable def oW:List Int->List Expr->Option (List Expr)|[],es=>some es|i::is,.Constant (.int j) _ _::es=>if i=j then oW is es else none|_,_=>none
theorem jf{X:L2.Cx}{c:Call}:∀(is:List Int){es es':List Expr}{ps':List P},oW is es=some es'->SA X c es' ps'->SA X c es (is.map (fun i=>P.con (.int i))++ps')|[],es,es',ps',h,r=>by cases h;exact r|i::is,[],es',ps',h,r=>by cases h|i::is,e::es,es',ps',h,r=>by cases e with
   |Constant v k p=>cases v with
     |int j=>
       replace h:(if i=j then oW is es else none)=some es':=h;split at h;.rename_i hij;subst hij;exact zT aj (jf is h r) (gh rfl)
       .cases h|_=>cases h
   |_=>cases h
theorem rZ{n d:Nat}{o:Option Int}:HT.cF n d o=HH.cF n d o:=by cases o with|none=>rfl|some v=>
   show(if v<0 then(v+(n:Int)).toNat else min v.toNat n)=(if 0<=v then min v.toNat n else(v+n).toNat);by_cases h:0<=v;.rw[if_pos h,if_neg (by omega)]
   .rw[if_neg h,if_pos (by omega)]
theorem GR{xs:List V}{lo hi:Option Int}:vm xs lo hi=HH.cut xs lo hi:=by unfold vm HH.cut;rw[rZ,rZ]
theorem au.cut{K:PySem.W.Frag}{F:Hp}{ds:List D}{vs:List V}{lo hi:Option Int}(h:au K F vs ds):au K F (HH.cut vs lo hi) (HH.cut ds lo hi):=by unfold HH.cut;rw[h.length];exact(h.drop _).take _
section
variable{X:Cx}{c:Call}{n:Nat}{e a b:Expr}{p pa pb pl ph:P}{pos p2:Pos}{lo hi:Option Expr}
def aa6(K:PySem.W.Frag):V->Option Int->Option Int->Hp->VK->Prop:=fun x lo hi H Q=>∃F d r,aG F H/\cO K F H x d/\LQ d (some lo) (some hi)=some r/\∀v F' H',Ext F H F' H'->bK K F' H' H v r->Q v H'
theorem Wo:ZS X (aa6 X.K):=by rintro pins s σ H x v vl vu lo hi sl Q I rx hs pl pu⟨F,d,r,sm,px,he,k⟩;cases d with|lst ds=>cases he;obtain⟨a,xs,rfl,hq,rs⟩:=px.lst sm;refine Ij pins s σ H _ v vl vu lo hi sl Q I rx hs pl pu ⟨a,xs,rfl,hq,fun p hp=>?_⟩;rw[GR];exact uL sm rs.cut hp k|tup ds=>
   cases he;obtain⟨a,xs,rfl,hq,rs,rt⟩:=px.tup sm;by_cases hw:HT.cF xs.length 0 lo=0/\HT.cF xs.length xs.length hi=xs.length
   . cases rx;obtain⟨its,rv,ht,hz⟩:=I.tuple hq;have hlen:its.toArray.size=xs.length:=by rw[size_toArray];exact rv.length.symm
     refine⟨"tuple",_,slot_tuple_getitem.lookup,ht.typeIs,HT.uV ht hs pl pu (by rw[hlen];exact hw.1) (by rw[hlen];exact hw.2) ⟨.ref a,H,I,rfl,?_⟩⟩;have hc:HH.cut ds lo hi=ds:=by unfold HH.cut;rw[<-rs.length,<-rZ,<-rZ,hw.1,hw.2];simp[rs.length]
     rw[hc]at k;exact bK.cY sm rt k
   .refine Om pins s σ H _ v vl vu lo hi sl Q I rx hs pl pu ⟨a,xs,rfl,hq,hw,fun p hp=>?_⟩;rw[GR];exact BV sm rs.cut hp k|_=>cases he
def SO(X:Cx)(c:Call)(o:Option Expr)(p:P):Prop:=∃t,PO X o t/\∀{σ:L2.St}{H F:Hp}{ρ ρ':List Sl}{d:D}{i:Option Int}{Q:Option Int->Hp->Prop},GS X.K F ρ σ H->bN (isVar p) (HH.ev c p) ρ=.ok d ρ'->part p d=some i->(∀F' H',aq X.K F ρ σ H F' ρ' σ H'->Q i H')->t σ H Q
theorem Ao:SO X c none (.con .non):=by refine⟨_,Ir,fun{σ H F ρ ρ' d i Q}g e h k=>?_⟩;cases(show some none=some i from h);have e':(HH.ev c (.con .non) ρ).bind (fun r ρ=>.ok r.d ρ)=.ok d ρ':=e;clear e;rw[HH.E2]at e';cases e';exact k F H (.refl g)
theorem zW(h:SX X c e p)(hn:R1 p=false:=by rfl):SO X c (some e) p:=by obtain⟨t,h1,h2⟩:=h.bN;refine⟨_,Kd h1,fun{σ H F ρ ρ' d i Q}g e hp k=>?_⟩;unfold part at hp;rw[hn,if_neg (by decide)]at hp;obtain⟨j,e1,e2⟩:=map_some hp;cases bR e1;subst e2;exact h2 g e fun v F' H' s pv=>⟨j,pv.int,k F' H' s⟩
theorem wJ{d:D}{x y:Option (Option Int)}{r:R}(h:LQ d x y=some r):∃lo hi,x=some lo/\y=some hi:=by cases x with|none=>cases d<;>cases h|some lo=>cases y with|none=>cases d<;>cases h|some hi=>exact⟨lo,hi,rfl,rfl⟩
theorem vK(ha:SX X c a pa)(hl:SO X c lo pl)(hh:SO X c hi ph):SX X c (.Subscript a (.Slice lo hi none p2) pos) (.slice pa pl ph):=by obtain⟨tl,l1,l2⟩:=hl;obtain⟨th,h1,h2⟩:=hh;cases hv:isVar pa with|none=>refine⟨cT (v7 Wo ha.ev l1 h1) ?_,fun i h=>by cases h⟩;rintro σ H Q⟨F,ρ,r,ρ',g,e,k⟩;rw[HH.E13,hv]at e;obtain⟨x,ρ1,e1',ea⟩:=aa e;clear e;have XH:(HH.ev c pa ρ).bind (fun r ρ=>.ok r.d ρ)=.ok x ρ1:=e1';clear e1';obtain⟨rx,ρ1',e1,e0⟩:=aa XH;clear XH;cases e0;obtain⟨y,ρ2,e2,eb⟩:=aa ea;clear ea;obtain⟨z,ρ3,e3,ec⟩:=aa eb;clear eb;obtain⟨e,e4⟩:=aA ec;clear ec;subst e4;obtain⟨lo',hi',q1,q2⟩:=wJ e;rw[q1,q2]at e;refine⟨F,ρ,rx,_,g,e1,fun v F1 H1 s1 rr=>?_⟩;obtain⟨F2,s2,_,rp⟩:=s1.cC rr;refine l2 s2.gs e2 q1 fun F3 H3 s3=>h2 s3.gs e3 q2 fun F4 H4 s4=>?_;have s5:=s2.trans (s3.trans s4);refine⟨F4,_,r,s4.gs.sub,.inl ((rp.mono s3.bZ).mono s4.bZ),e,fun v F5 H5 x rn=>?_⟩;exact k v F5 H5 (s5.trans (x.stp s5.gs)) (.later s5 (rn.m5 s5.gs))|some i=>refine⟨cT (v7 Wo (ha.var i hv) l1 h1) ?_,fun i h=>by cases h⟩;rintro σ H Q⟨F,ρ,r,ρ',g,e,k⟩;rw[HH.E13,hv]at e;obtain⟨x0,ρ0,e0',ea⟩:=aa e;clear e;obtain⟨e0,CV⟩:=aA e0';clear e0';subst CV;obtain⟨y,ρ2,e2,eb⟩:=aa ea;clear ea;obtain⟨z,ρ3,e3,ec⟩:=aa eb;clear eb;obtain⟨x,ρ4,e5',ed⟩:=aa ec;clear ec;obtain⟨e5,e6⟩:=aA e5';clear e5';subst e6;obtain⟨e,e4⟩:=aA ed;clear ed;subst e4;obtain⟨lo',hi',q1,q2⟩:=wJ e;rw[q1,q2]at e;obtain⟨v,hv1,_⟩:=g.pk e0;refine⟨v,hv1,l2 g e2 q1 fun F3 H3 s3=>h2 s3.gs e3 q2 fun F4 H4 s4=>?_⟩;have s5:=s3.trans s4;obtain⟨v',hv2,pv⟩:=s5.gs.pk e5;rw[hv1]at hv2;cases hv2;refine⟨F4,_,r,s4.gs.sub,pv,e,fun v F5 H5 x rn=>?_⟩;exact k v F5 H5 (s5.trans (x.stp s5.gs)) (.later s5 (rn.m5 s5.gs))
theorem Jq:YS X .Add (ipI fun i j=>if false then i-j else i+j):=Nx
theorem Oh{x:Str}{k:Nat}{px apos cpos:Pos}(hN:X.N[k]?=some x)(hv:uY X.env.scope x)(he:SX X c e p)(hline:(apos.endLine==cpos.line)=true:=by rfl)(hs:starEach [e] X.env=(false,eval e X.env)::starEach [] X.env:=by rfl)(hbase:attributeBase (.Name x px) "extend" X.env (eval (.Name x px) X.env)=eval (.Name x px) X.env:=by rfl)(hfew:((backTo cpos (starEach [e] X.env)).all (fun x=>!x.1)&&(backToKw cpos (keywordEach [] X.env)).all (fun x=>x.1.isSome)&&decide ([e].length+([]:List Keyword).length+(if([]:List Keyword).isEmpty then 0 else 1)<30))=true:=by rfl)(hsw:swapsWith (.Call (.Attribute (.Name x px) "extend" apos) [e] [] cpos) none pos.line X.env=pure false:=by rfl)(hd:(x==("__debug__":Str))=false:=by decide)(hcd:(x==("__classdict__":Str))=false:=by decide):SS X c n (.Expr (.Call (.Attribute (.Name x px) "extend" apos) [e] [] cpos) pos) (.Hy k p):=by
 refine cV (uc (Gi plainAttrs_list PySem.F.slot_list_extend PySem.F.type_list_extend BR (cW hN hv hd hcd) (bA he.ev cL hs) hbase hfew hline hs) hsw) ?_;rintro D σ H⟨F,ρ,fl,ρ',g,e,kk⟩;rw[HH.X16]at e;obtain⟨d0,ρ0,e0',ea⟩:=aa e;clear e;obtain⟨e0,CV⟩:=aA e0';clear e0';subst CV;obtain⟨r,ρ1,e1,eb⟩:=aa ea;clear ea;obtain⟨a,xs,h1,h2⟩:=tM g e0;refine⟨.ref a,h1,.inl ⟨rfl,xs,h2⟩,F,ρ,r,ρ1,g,e1,fun v F1 H1 s1 rr=>?_⟩;split at eb
 . rename_i bb ds es q;split at eb;.rename_i hlt;cases eb;obtain⟨b1,ys,rfl,w2,w3,w4,w5,w6⟩:=rr;obtain⟨ad,zs,q1,q2,q3,q4⟩:=s1.gs.pM k _ ds q rfl;rw[h1]at q1;cases q1;exact⟨_,b1,zs,ys,rfl,rfl,q2,w2,by rw[q4.length,w4.length];exact hlt,kk F1 σ _ (s1.trans (s1.gs.mut q h1 (q4.append w4)))⟩
   .cases eb
 .cases eb
end
end HH
end
section
namespace L2
open PySem PySem.Spec PyProof.Rows
section
variable{X:Cx}{tg:Expr}
theorem vg:bootBuiltins "tuple"=some (.type "tuple"):=by decide+kernel
theorem pN:bootBuiltins "reversed"=some (.type "reversed"):=by decide+kernel
end
end L2
namespace HH
open PySem L2 PySem.Spec PyProof.Rows
section
variable{K:PySem.W.Frag}{F F1 H H1:Hp}{ρ ρ1:List Sl}{σ:L2.St}{ds:List D}{a:Addr}
theorem au.rev:∀{ds:List D}{xs:List V},au K F xs ds->au K F xs.reverse ds.reverse|[],_,h=>by rw[h.fu];exact .nil|d::ds,_,h=>by obtain⟨v,r,rfl,h1,h2⟩:=h.bT;rw[reverse_cons,reverse_cons];exact(au.rev h2).append (.cons h1 .nil)
end
end HH
end
section
namespace PySem
namespace F
theorem Fy:typeLookup (.type "list_reverseiterator") "__len__"=pure none:=by rw[typeLookup_type,builtinLookup_eq_fast];kernel_rfl
theorem J4:typeLookup (.type "list_reverseiterator") "__length_hint__"=pure (some (.builtin "list_reverseiterator.__length_hint__")):=by rw[typeLookup_type,builtinLookup_eq_fast];kernel_rfl
end F
section
variable{prog:Program}{w:World}{A:Around}{E:Value->Shared->Prop}{s:Shared}
theorem nj{it l:Addr}{items:Array Value}{Q:Bool->Shared->Prop}(hit:s.heap.IsRevIter it l ((items.size:Int)-1))(hl:s.heap.IsList l items)(hlen:items.size<=2^24)(h:∀b tk,s.toks<=tk->Q b {s with toks:=tk}):wpAny (model prog w) A (listLengthHint (.ref it)) Q E s:=by
 have hT:=hit.typeIs;unfold listLengthHint;refine wpAny_bind (wpAny_specialOf hT F.Fy ?_);show wpAny _ _ (specialOf (Value.ref it) (Str.ofString "__length_hint__")>>=_) _ _ _;refine wpAny_bind (wpAny_specialOf hT F.J4 ?_);generalize hid:("list_reverseiterator.__length_hint__":String)=id0;(fail_if_success(clear hid id0));wp_delta;rw[show splitId id0=some ("list_reverseiterator","__length_hint__")from by subst hid;decide+kernel];subst hid;refine wpAny_bind (wpAny_isInstance (b:=true) hT (by rw[isSubtype_type];kernel_rfl) ?_);rw[if_neg (by decide)];dsimp only;split;.refine wpAny_ite_split (fun hab=>absurd hab (by decide+kernel)) (fun _=>?_);exact wpAny_pure (h _ s.toks (le_refl _))
 .rename_i hq;exact absurd (by decide+kernel) hq
theorem lq{R:Result->Shared->Prop}{I l:Addr}{items:Array Value}(hh:A.handled=none)(hit:s.heap.IsRevIter I l ((items.size:Int)-1))(hl:s.heap.IsList l items)(hne:l≠I)(hlen:items.size<=2^24)(S:Addr)(hSI:S≠I)(hSl:S≠l)(res:Value)(c₀:Nat)(hS:s.heap.get? S=some {cls:=.type "list",data:=.seq #[] c₀})(hR:∀ h' tk acc' c',(∀ b o,b ≠ S->b ≠ I->s.heap.get? b=some o->h'.get? b=some o)->h'.get? S=some {cls:=.type "list",dict:=none,data:=.seq acc' c',slots:=#[]}->ItemsOf (fun i v=>items[items.size-1-i]?=some v) acc' items.size->R (.ok (.ret res)) {s with heap:=h',toks:=tk}):wpAny (model prog w) A.in1 (listExtendWith (.ref S) (.ref I) res) (fun fin s'=>match fin with|.done f=>R (.ok f) s'|.again c'=>c'.quiet=true/\codeAny (model prog w) A c' R s') (fun e s'=>R (.error e) s') s:=by
 have hSf:S∉[I,l]:=fun hm=>by
  rcases mem_cons.mp hm with e|hm;.exact hSI e
  .exact hSl (mem_singleton.mp hm)
 have W:=(Walks.listRev (prog:=prog) (w:=w) (A:=A.in1) hh I l hne items).toS;have hT:s.TypeIs (.ref I) "list_reverseiterator":=hit.typeIs;have key:∀(h:Heap)(c₁ tk:Nat),h.IsRevIter I l ((items.size:Int)-1-((0:Nat):Int))->h.IsList l items->(∀b o,b≠S->s.heap.get? b=some o->h.get? b=some o)->h.get? S=some {cls:=.type "list",data:=.seq #[] c₁}->codeAny (model prog w) A (.builtin "list.extend.loop" ⟨[.ref S,.ref I,res],[]⟩) R {s with heap:=h,toks:=tk}:=by
  intro h c₁ tk hi hl' hk hS₁;refine codeAny_extend_loopS W (by rw[sizeLine_eq];omega) S hSf res items.size 0 _ #[] c₁ rfl (zero_le _) ⟨zero_le _,hi,hl'⟩ hS₁ (ItemsOf.nil _) fun s' acc' c' hm hS' hacc=>?_;rw[Moved.eq_with hm];refine hR s'.heap s'.toks acc' c' (fun b o hb hbI e=>hm.heap b o (fun hmem=>?_) (hk b o hb e)) hS' hacc;rcases mem_cons.mp hmem with e'|hmem;.exact hb e'
  .exact hbI (mem_singleton.mp hmem)
 unfold listExtendWith;refine wpAny_bind (wpAny_typeOf hT ?_);have h1:listSameRef (.ref S) (.ref I)=false:=by simp[listSameRef,hSI]
 have h2:(Value.type "list_reverseiterator"==Value.type "list")=false:=by decide
 have h3:(Value.type "list_reverseiterator"==Value.type "tuple")=false:=by decide
 simp only[h1,h2,h3,Bool.or_false,false_eq_true,if_false];refine wpAny_bind (wpAny_pyIter_revIter hit ?_);refine wpAny_bind (wpAny_holding (nj hit hl hlen fun bb tk htk=>?_));have hi0:s.heap.IsRevIter I l ((items.size:Int)-1-((0:Nat):Int)):=by simpa using hit
 refine wpAny_ite_split (fun _=>?_) (fun _=>wpAny_pure ⟨plainId_quiet F.plain_extend_loop _,key _ c₀ _ hi0 hl (fun b o _ e=>e) hS⟩);refine wpAny_bind (wpAny_rule ?_);refine wpAny_bind ?_;show wpAny _ _ (updateSeq S (·.push .none)>>=fun _=>updateSeq S (·.pop)) _ _ _;refine wpAny_bind (wpAny_updateSeq hS rfl ?_);have hS₂:=get?_update_self (Obj.mapSeq (·.push Value.none)) hS rfl;refine wpAny_updateSeq (hz:=by seq_fits) hS₂ rfl ?_;have hS₃:=get?_update_self (Obj.mapSeq (·.pop)) hS₂ rfl;have oth:∀b o,b≠S->s.heap.get? b=some o->((s.heap.update S (Obj.mapSeq (·.push Value.none))).update S (Obj.mapSeq (·.pop))).get? b=some o:=fun b o hb e=>(get?_update_other _ _ (Ne.symm hb)).trans ((get?_update_other _ _ (Ne.symm hb)).trans e);exact wpAny_pure ⟨plainId_quiet F.plain_extend_loop _,key _ _ _ (hi0.at fun o e=>oth I o (Ne.symm hSI) e) (hl.at fun o e=>oth l o (Ne.symm hSl) e) oth hS₃⟩
end
end PySem
namespace L2
open PySem PySem.Spec PyProof.Rows
end L2
namespace HH
open PySem L2 PySem.Spec PyProof.Rows
end HH
end
section
namespace HH
open PySem
theorem kj:∀a b:List Int,aV a b=true->aV b a=false
 |[],[],h=>by simp[aV]at h|[],_::_,_=>by simp[aV]|_::_,[],h=>by simp[aV]at h|x::a,y::b,h=>by
   simp only[aV,or_eq_true,decide_eq_true_eq,and_eq_true]at h;simp only[aV,Bool.or_eq_false_iff,decide_eq_false_iff_not,Bool.and_eq_false_iff];rcases h with h|⟨h,h'⟩;.exact⟨by omega,.inl (by omega)⟩
   .exact⟨by omega,.inr (kj a b h')⟩
theorem yf:∀a b c:List Int,aV b a=false->aV c b=false->aV c a=false
 |[],_,c,_,_=>by cases c<;>simp[aV]|_::_,[],_,h,_=>by simp[aV]at h|_::_,_::_,[],_,h=>by simp[aV]at h|x::a,y::b,z::c,h1,h2=>by
   simp only[aV,Bool.or_eq_false_iff,decide_eq_false_iff_not,Bool.and_eq_false_iff]at h1 h2 ⊢;refine⟨by omega,?_⟩;by_cases e:z=x;.right;exact yf a b c (h1.2.resolve_left (by omega)) (h2.2.resolve_left (by omega))
   .exact .inl e
theorem vN:∀a b:List Int,aV a b=false->aV b a=false->a=b
 |[],[],_,_=>rfl|[],_::_,h,_=>by simp[aV]at h|_::_,[],_,h=>by simp[aV]at h|x::a,y::b,h1,h2=>by
   simp only[aV,Bool.or_eq_false_iff,decide_eq_false_iff_not,Bool.and_eq_false_iff]at h1 h2;have e:x=y:=by omega
   subst e;rw[vN a b (h1.2.resolve_left (by simp)) (h2.2.resolve_left (by simp))]
theorem uQ:∀{xs ys:List D},xs.all cX=true->ys.all cX=true->xs.map cu=ys.map cu->xs=ys
 |[],[],_,_,_=>rfl|[],_::_,_,_,h=>by simp at h|_::_,[],_,_,h=>by simp at h|x::xs,y::ys,h1,h2,h=>by
   simp only[all_cons,and_eq_true]at h1 h2;simp only[map_cons,List.cons.injEq]at h;obtain⟨i,rfl⟩:∃i,x=.int i:=by cases x<;>first|exact⟨_,rfl⟩|(have q:=h1.1;simp[cX]at q;done)
   obtain⟨j,rfl⟩:∃j,y=.int j:=by cases y<;>first|exact⟨_,rfl⟩|(have q:=h2.1;simp[cX]at q;done)
   rw[uQ h1.2 h2.2 h.2,show i=j from h.1]
theorem zP{x y:D}(h:(cX x=true/\cX y=true)\/(vZ x=true/\vZ y=true))(e:bO x=bO y):x=y:=by
 rcases h with⟨h1,h2⟩|⟨h1,h2⟩
 . cases x<;>first|(simp[cX]at h1;done)|skip
   cases y<;>first|(simp[cX]at h2;done)|skip
   simpa[bO]using e
 . cases x<;>first|(simp[vZ]at h1;done)|skip
   cases y<;>first|(simp[vZ]at h2;done)|skip
   rename_i xs ys;cases xs<;>first|(simp[vZ]at h1;done)|skip
   cases ys<;>first|(simp[vZ]at h2;done)|skip
   rw[uQ h1 h2 e]
noncomputable def lV(a b:D):Bool:=!aV (bO b) (bO a)
theorem fW(ds:List D):(jQ ds).Perm ds:=List.mergeSort_perm ..
theorem Ii(a b c:D)(h1:lV a b=true)(h2:lV b c=true):lV a c=true:=by simp only[lV,not_eq_true']at*;exact yf _ _ _ h1 h2
theorem Hh(a b:D):(lV a b||lV b a)=true:=by simp only[lV,or_eq_true,not_eq_true'];cases h:aV (bO b) (bO a)with|false=>exact .inl rfl|true=>exact .inr (kj _ _ h)
theorem oY(ds:List D):(jQ ds).Pairwise fun a b=>lV a b=true:=List.pairwise_mergeSort Ii Hh ds
theorem rY{ds:List D}(h:sortable ds=true):∀x∈ds,∀y∈ds,bO x=bO y->x=y:=by
 simp only[sortable,and_eq_true,or_eq_true,all_eq_true]at h;intro x hx y hy e;rcases h.2 with h|h;.exact zP (.inl ⟨h x hx,h y hy⟩) e
 .exact zP (.inr ⟨h x hx,h y hy⟩) e
theorem lu{ds l:List D}(h:sortable ds=true)(p:l.Perm ds)(s:l.Pairwise fun a b=>lV a b=true):l=jQ ds:=by refine List.Perm.eq_of_pairwise (le:=fun a b=>lV a b=true) (fun a b ha hb h1 h2=>?_) s (oY ds) (p.trans (fW ds).symm);simp only[lV,not_eq_true']at h1 h2;exact rY h a (p.mem_iff.mp ha) b ((fW ds).mem_iff.mp hb) (vN _ _ h2 h1)
end HH
end
section
namespace HH
open PySem PyProof.Rows
noncomputable abbrev SM:=StateT SortSt Sem
noncomputable def gal:Bool->Keyed->Array Keyed->Nat->Nat->Nat->SM (Option Nat):=sortPriv%PySem.Builtin.gallop
noncomputable def Ow(l:Bool)(k:Keyed)(xs:Array Keyed)(b i:Nat):SM (Option Bool):=elem' xs (b+i)>>=fun x=>if l=true then lt' x k else lt' k x>>=fun o=>pure (o.map fun x=>!x)
noncomputable def Ho(l:Bool)(k:Keyed)(xs:Array Keyed)(b n lo hi:Nat):SM (Option Nat):=(forIn [0:n] ((none,lo,hi):Option (Option Nat)× Nat × Nat) fun _ c=>if c.2.1 ≥ c.2.2 then pure (.done (none,c.2.1,c.2.2))else Ow l k xs b (c.2.1+(c.2.2-c.2.1)/2)>>=fun o=>match o with|some m=>if m=true then pure (.yield (none,c.2.1+(c.2.2-c.2.1)/2+1,c.2.2))else pure (.yield (none,c.2.1,c.2.1+(c.2.2-c.2.1)/2))|_=>pure (.done (some none,c.2.1,c.2.2)))>>=fun c=>match c.1 with|some r=>pure r|none=>pure (some c.2.2)
theorem Qm(l:Bool)(k:Keyed)(xs:Array Keyed)(b n h:Nat):gal l k xs b n h=Ow l k xs b h>>=fun o=>match o with
 |some r=>if r=true then(forIn [0:n] ((none,0,1):Option (Option Nat)× Nat × Nat) fun _ c=>if c.2.2 ≥ n-h then pure (.done (none,c.2.1,c.2.2))else Ow l k xs b (h+c.2.2)>>=fun o=>match o with|some m=>if(!m)=true then pure (.done (none,c.2.1,c.2.2))else pure (.yield (none,c.2.2,2*c.2.2+1))|_=>pure (.done (some none,c.2.1,c.2.2)))>>=fun c=>match c.1 with|some r=>pure r|none=>Ho l k xs b n (h+c.2.1+1) (h+min c.2.2 (n-h))else(forIn [0:n] ((none,0,1):Option (Option Nat)× Nat × Nat) fun _ c=>if c.2.2 ≥ h+1 then pure (.done (none,c.2.1,c.2.2))else Ow l k xs b (h-c.2.2)>>=fun o=>match o with|some m=>if m=true then pure (.done (none,c.2.1,c.2.2))else pure (.yield (none,c.2.2,2*c.2.2+1))|_=>pure (.done (some none,c.2.1,c.2.2)))>>=fun c=>match c.1 with|some r=>pure r|none=>Ho l k xs b n (h+1-min c.2.2 (h+1)) (h-c.2.1)
 |_=>pure none:=by unfold Ho;show Ow l k xs b h>>=_=_;congr 1;funext o;cases o with|none=>rfl|some r=>dsimp only;cases r with
   |true=>simp only[if_true];congr 1;funext c;obtain⟨c1,c2,c3⟩:=c;cases c1 with|some r=>rfl|none=>dsimp only;congr 1;funext c;obtain⟨c1,c2,c3⟩:=c;cases c1<;>rfl
   |false=>simp only[false_eq_true,if_false];congr 1;funext c;obtain⟨c1,c2,c3⟩:=c;cases c1 with|some r=>rfl|none=>dsimp only;congr 1;funext c;obtain⟨c1,c2,c3⟩:=c;cases c1<;>rfl
structure Rk(M:Model)(A:Around)(E:Value->Shared->Prop)(s:Shared)(κ:SortKind)(ok:Keyed->Prop)(K:Keyed->Int):Prop where lt:∀{x y:Keyed}{Q:Option Bool->SortSt->Prop}{st:SortSt},ok x->ok y->kindOf st=κ->Q (some (decide (K x<K y))) st->wpS M A E s (lt' x y) Q st
section
variable{M:Model}{A:Around}{E:Value->Shared->Prop}{s:Shared}{κ:SortKind}{ok:Keyed->Prop}{K:Keyed->Int}
noncomputable def it(xs:Array Keyed)(i:Nat):Keyed:=xs.getD i (Value.none,Value.none)
theorem sr{xs:Array Keyed}{i:Nat}(h:i<xs.size):xs[i]?=some (it xs i):=by unfold it;simp[Array.getD,h]
theorem cM{xs:Array Keyed}{i:Nat}(h:i<xs.size):it xs i∈xs.toList:=by
 have:it xs i=xs[i]:=by unfold it;simp[Array.getD,h]
 rw[this];simp
theorem aX{xs:Array Keyed}{i:Nat}{Q:Keyed->SortSt->Prop}{st:SortSt}(h:i<xs.size)(q:Q (it xs i) st):wpS M A E s (elem' xs i) Q st:=by rw[elem'_eq,sr h];exact wpS_pure q
noncomputable def bb(K:Keyed->Int)(l:Bool)(k x:Keyed):Bool:=if l=true then decide (K x<K k)else !decide (K k<K x)
theorem sX(R:Rk M A E s κ ok K){l:Bool}{k:Keyed}{xs:Array Keyed}{b i:Nat}{Q:Option Bool->SortSt->Prop}{st:SortSt}(hk:ok k)(hx:∀x∈xs.toList,ok x)(hi:b+i<xs.size)(hs:kindOf st=κ)(q:Q (some (bb K l k (it xs (b+i)))) st):wpS M A E s (Ow l k xs b i) Q st:=by unfold Ow;refine wpS_bind (aX hi ?_);have ho:=hx _ (cM hi);cases l with|true=>exact R.lt ho hk hs q|false=>exact wpS_bind (R.lt hk ho hs (wpS_pure q))
def Ja(K:Keyed->Int)(l:Bool)(k:Keyed)(xs:Array Keyed)(b n:Nat):Prop:=∀i j,i<=j->j<n->bb K l k (it xs (b+j))=true->bb K l k (it xs (b+i))=true
theorem Aa(R:Rk M A E s κ ok K){l:Bool}{k:Keyed}{xs:Array Keyed}{b n lo hi:Nat}{Q:Option Nat->SortSt->Prop}{st:SortSt}(hk:ok k)(hx:∀x∈xs.toList,ok x)(hb:b+n<=xs.size)(hs:kindOf st=κ)(hc:Ja K l k xs b n)(h1:lo<=hi)(h2:hi<=n)(h3:∀i,i<lo->bb K l k (it xs (b+i))=true)(h4:∀i,hi<=i->i<n->bb K l k (it xs (b+i))=false)(q:∀m,m<=n->(∀i,i<m->bb K l k (it xs (b+i))=true)->(∀i,m<=i->i<n->bb K l k (it xs (b+i))=false)->Q (some m) st):wpS M A E s (Ho l k xs b n lo hi) Q st:=by
 unfold Ho;refine wpS_bind (wpS_mono (wpS_forRange (I:=fun x c st'=>st'=st/\∃lo hi,c=(none,lo,hi)/\lo<=hi/\hi<=n/\hi-lo<=n-x/\(∀i,i<lo->bb K l k (it xs (b+i))=true)/\∀i,hi<=i->i<n->bb K l k (it xs (b+i))=false) (Q:=fun c st'=>st'=st/\∃m,c=(none,m,m)/\m<=n/\(∀i,i<m->bb K l k (it xs (b+i))=true)/\∀i,m<=i->i<n->bb K l k (it xs (b+i))=false) ?_ ?_ ⟨rfl,lo,hi,rfl,h1,h2,by omega,h3,h4⟩) ?_)
 . rintro x c st' _ hxn⟨rfl,lo,hi,rfl,a1,a2,a3,a4,a5⟩;dsimp only;by_cases e:lo ≥ hi
   . rw[if_pos e];have:lo=hi:=by omega
     subst this;exact wpS_pure ⟨rfl,lo,rfl,a2,a4,a5⟩
   .rw[if_neg e];refine wpS_bind (sX R hk hx (by omega) hs ?_);cases c:bb K l k (it xs (b+(lo+(hi-lo)/2)))with|true=>dsimp only;rw[if_pos rfl];exact wpS_pure ⟨rfl,_,_,rfl,by omega,a2,by omega,fun i hi'=>hc i (lo+(hi-lo)/2) (by omega) (by omega) c,a5⟩|false=>dsimp only;rw[if_neg (by simp)];refine wpS_pure ⟨rfl,_,_,rfl,by omega,by omega,by omega,a4,fun i i1 i2=>?_⟩;cases z:bb K l k (it xs (b+i))with|false=>rfl|true=>have:=hc (lo+(hi-lo)/2) i i1 i2 z;rw[c]at this;cases this
 . rintro c st'⟨rfl,lo,hi,rfl,a1,a2,a3,a4,a5⟩;have:lo=hi:=by omega
   subst this;exact⟨rfl,lo,rfl,a2,a4,a5⟩
 .rintro c st'⟨rfl,m,rfl,a1,a2,a3⟩;exact wpS_pure (q m a1 a2 a3)
theorem lL(R:Rk M A E s κ ok K){l:Bool}{k:Keyed}{xs:Array Keyed}{b n h:Nat}{Q:Option Nat->SortSt->Prop}{st:SortSt}(hk:ok k)(hx:∀x∈xs.toList,ok x)(hb:b+n<=xs.size)(hh:h<n)(hs:kindOf st=κ)(hc:Ja K l k xs b n)(q:∀m,m<=n->(∀i,i<m->bb K l k (it xs (b+i))=true)->(∀i,m<=i->i<n->bb K l k (it xs (b+i))=false)->Q (some m) st):wpS M A E s (gal l k xs b n h) Q st:=by
 have up:∀{i:Nat},i<n->bb K l k (it xs (b+i))=true->∀j,j<=i->bb K l k (it xs (b+j))=true:=fun hi c j hj=>hc _ _ hj hi c;have dn:∀{i:Nat},bb K l k (it xs (b+i))=false->∀j,i<=j->j<n->bb K l k (it xs (b+j))=false:=fun{i}c j h1 h2=>by cases z:bb K l k (it xs (b+j))with|false=>rfl|true=>have:=hc i j h1 h2 z;rw[c]at this;cases this
 rw[Qm];refine wpS_bind (sX R hk hx (by omega) hs ?_);cases c0:bb K l k (it xs (b+h))with
 |true=>
   dsimp only;rw[if_pos rfl];refine wpS_bind (wpS_mono (wpS_forRange (I:=fun x c st'=>st'=st/\∃a o,c=(none,a,o)/\x+1<=o/\a<o/\h+a<n/\bb K l k (it xs (b+(h+a)))=true) (Q:=fun c st'=>st'=st/\∃a o,c=(none,a,o)/\a<o/\h+a<n/\bb K l k (it xs (b+(h+a)))=true/\(n-h<=o\/o<n-h/\bb K l k (it xs (b+(h+o)))=false)) ?_ ?_ ⟨rfl,0,1,rfl,by omega,by omega,by omega,by simpa using c0⟩) ?_)
   . rintro x c st' _ hxn⟨rfl,a,o,rfl,a1,a2,a3,a4⟩;dsimp only;by_cases e:o ≥ n-h;.rw[if_pos e];exact wpS_pure ⟨rfl,a,o,rfl,a2,a3,a4,.inl e⟩
     .rw[if_neg e];refine wpS_bind (sX R hk hx (by omega) hs ?_);cases c:bb K l k (it xs (b+(h+o)))with|true=>dsimp only;rw[if_neg (by simp)];exact wpS_pure ⟨rfl,_,_,rfl,by omega,by omega,by omega,c⟩|false=>dsimp only;rw[if_pos (by simp)];exact wpS_pure ⟨rfl,a,o,rfl,a2,a3,a4,.inr ⟨by omega,c⟩⟩
   .rintro c st'⟨rfl,a,o,rfl,a1,a2,a3,a4⟩;exact⟨rfl,a,o,rfl,a2,a3,a4,.inl (by omega)⟩
   . rintro c st'⟨rfl,a,o,rfl,a2,a3,a4,a5⟩;dsimp only;refine Aa R hk hx hb hs hc (by omega) (by omega) (fun i hi=>up a3 a4 i (by omega)) (fun i h1 h2=>?_) q;rcases a5 with z|⟨z1,z2⟩;.omega
     .exact dn z2 i (by omega) h2|false=>
   dsimp only;rw[if_neg (by simp)];refine wpS_bind (wpS_mono (wpS_forRange (I:=fun x c st'=>st'=st/\∃a o,c=(none,a,o)/\x+1<=o/\a<o/\a<=h/\bb K l k (it xs (b+(h-a)))=false) (Q:=fun c st'=>st'=st/\∃a o,c=(none,a,o)/\a<o/\a<=h/\bb K l k (it xs (b+(h-a)))=false/\(h+1<=o\/o<h+1/\bb K l k (it xs (b+(h-o)))=true)) ?_ ?_ ⟨rfl,0,1,rfl,by omega,by omega,by omega,by simpa using c0⟩) ?_)
   . rintro x c st' _ hxn⟨rfl,a,o,rfl,a1,a2,a3,a4⟩;dsimp only;by_cases e:o ≥ h+1;.rw[if_pos e];exact wpS_pure ⟨rfl,a,o,rfl,a2,a3,a4,.inl e⟩
     .rw[if_neg e];refine wpS_bind (sX R hk hx (by omega) hs ?_);cases c:bb K l k (it xs (b+(h-o)))with|false=>dsimp only;rw[if_neg (by simp)];exact wpS_pure ⟨rfl,_,_,rfl,by omega,by omega,by omega,c⟩|true=>dsimp only;rw[if_pos rfl];exact wpS_pure ⟨rfl,a,o,rfl,a2,a3,a4,.inr ⟨by omega,c⟩⟩
   .rintro c st'⟨rfl,a,o,rfl,a1,a2,a3,a4⟩;exact⟨rfl,a,o,rfl,a2,a3,a4,.inl (by omega)⟩
   . rintro c st'⟨rfl,a,o,rfl,a2,a3,a4,a5⟩;dsimp only;refine Aa R hk hx hb hs hc (by omega) (by omega) (fun i hi=>?_) (fun i h1 h2=>dn a4 i (by omega) h2) q;rcases a5 with z|⟨z1,z2⟩;.omega
     .exact up (by omega) z2 i (by omega)
end
section
variable{K:Keyed->Int}{T out A B P:List Keyed}{x y z:Keyed}
def SL(K:Keyed->Int)(l:List Keyed):Prop:=l.Pairwise fun x y=>K x<=K y
theorem bU{l k:List Keyed}:SL K (l++k)↔SL K l/\SL K k/\∀x∈l,∀y∈k,K x<=K y:=List.pairwise_append
structure MW(K:Keyed->Int)(T out A B:List Keyed):Prop where
 perm:(out++(A++B)).Perm T
 sa:SL K (out++A)sb:SL K (out++B)
theorem MW.Wn(w:MW K T out (P++A) B)(h:∀x∈P,∀y∈B,K x<=K y):MW K T (out++P) A B:=by
 refine⟨by simpa using w.perm,by simpa using w.sa,?_⟩;have h1:=bU.mp w.sb;have h2:=bU.mp (show SL K ((out++P)++A)by simpa using w.sa);refine bU.mpr ⟨h2.1,h1.2.1,fun x hx y hy=>?_⟩;rcases mem_append.mp hx with hx|hx;.exact h1.2.2 x hx y hy
 .exact h x hx y hy
theorem MW.Xd(w:MW K T out A (P++B))(h:∀x∈P,∀y∈A,K x<=K y):MW K T (out++P) A B:=by
 have h1:=bU.mp w.sa;have h2:=bU.mp (show SL K ((out++P)++B)by simpa using w.sb);refine⟨?_,bU.mpr ⟨h2.1,h1.2.1,fun x hx y hy=>?_⟩,by simpa using w.sb⟩;.refine List.Perm.trans ?_ w.perm;rw[append_assoc];refine List.Perm.append_left out ?_;rw[<-append_assoc,<-append_assoc];exact List.perm_append_comm.append_right B
 . rcases mem_append.mp hx with hx|hx;.exact h1.2.2 x hx y hy
   .exact h x hx y hy
theorem MW.ab5(w:MW K T out A []):(out++A).Perm T/\SL K (out++A):=⟨by simpa using w.perm,w.sa⟩
theorem MW.aau(w:MW K T out [] B):(out++B).Perm T/\SL K (out++B):=⟨by simpa using w.perm,w.sb⟩
theorem MW.last(w:MW K T out [z] B)(h:∀y∈B,K y<=K z):(out++B++[z]).Perm T/\SL K (out++B++[z]):=by
 refine⟨?_,bU.mpr ⟨w.sb,List.pairwise_singleton _ _,fun x hx y hy=>?_⟩⟩;.refine List.Perm.trans ?_ w.perm;rw[append_assoc];exact List.Perm.append_left out List.perm_append_comm
 . rw[mem_singleton.mp hy];rcases mem_append.mp hx with hx|hx;.exact(bU.mp w.sa).2.2 x hx z (by simp)
   .exact h x hx
theorem tD{a:Array Keyed}{i:Nat}(h:i<a.size):a.toList.drop i=it a i::a.toList.drop (i+1):=by
 have e:it a i=a.toList[i]:=by unfold it;simp[Array.getD,h]
 rw[e];exact drop_eq_getElem_cons (by simpa using h)
theorem iK{a:Array Keyed}{i j:Nat}(h:j<=a.size):(a.extract i j).toList=(a.toList.drop i).take (j-i):=by simp[Array.toList_extract,List.extract]
theorem jj{a:Array Keyed}{i:Nat}:(a.extract i a.size).toList=a.toList.drop i:=by rw[iK (le_refl _)];exact take_of_length_le (by simp)
theorem jJ{a:Array Keyed}{i k:Nat}(h:i+k<=a.size):a.toList.drop i=(a.extract i (i+k)).toList++a.toList.drop (i+k):=by rw[iK h,Nat.add_sub_cancel_left];rw[show a.toList.drop (i+k)=(a.toList.drop i).drop k by rw[List.drop_drop]];exact(take_append_drop k _).symm
theorem ext_mem{a:Array Keyed}{i k:Nat}{x:Keyed}(h:i+k<=a.size)(hx:x∈(a.extract i (i+k)).toList):∃j,j<k/\x=it a (i+j):=by rw[iK h,Nat.add_sub_cancel_left]at hx;obtain⟨j,hj,e⟩:=mem_iff_getElem.mp hx;simp only[length_take,length_drop,length_toList]at hj;refine⟨j,by omega,?_⟩;rw[<-e];unfold it;simp[Array.getD,show i+j<a.size by omega]
theorem iH{a:Array Keyed}{i:Nat}{x:Keyed}(hx:x∈a.toList.drop i):∃j,i<=j/\j<a.size/\x=it a j:=by obtain⟨j,hj,e⟩:=mem_iff_getElem.mp hx;simp only[length_drop,length_toList]at hj;refine⟨i+j,by omega,by omega,?_⟩;rw[<-e];unfold it;simp[Array.getD,show i+j<a.size by omega]
def uH(K:Keyed->Int)(a:Array Keyed):Prop:=∀i j,i<=j->j<a.size->K (it a i)<=K (it a j)
theorem oV{a:Array Keyed}(h:uH K a):SL K a.toList:=by
 unfold SL;rw[List.pairwise_iff_getElem];intro i j hi hj hij;have:=h i j (by omega) (by simpa using hj);have hi':i<a.size:=by simpa using hi
 have hj':j<a.size:=by simpa using hj
 unfold it at this;simpa[Array.getD,hi',hj']using this
end
section
variable{M:Model}{A:Around}{E:Value->Shared->Prop}{s:Shared}{κ:SortKind}{ok:Keyed->Prop}{K:Keyed->Int}
structure qe(st st':SortSt):Prop where
 kind:kindOf st'=kindOf st
 arr:arrOf st'=arrOf st
 pend:pendingOf st'=pendingOf st
 fail:failedOf st'=failedOf st
theorem qe.refl(st:SortSt):qe st st:=⟨rfl,rfl,rfl,rfl⟩
theorem qe.trans{a b c:SortSt}(h:qe a b)(k:qe b c):qe a c:=⟨k.kind.trans h.kind,k.arr.trans h.arr,k.pend.trans h.pend,k.fail.trans h.fail⟩
noncomputable def setG:Nat->SM Unit:=sortPriv%PySem.Builtin.setMinGallop
theorem nG{g:Nat}{Q:Unit->SortSt->Prop}{st:SortSt}(q:∀st',qe st st'->Q () st'):wpS M A E s (setG g) Q st:=wpS_modify (q _ ⟨rfl,rfl,rfl,rfl⟩)
theorem wp_rule{x:String}{Q:Unit->SortSt->Prop}{st:SortSt}(q:Q () st):wpS M A E s (liftM (rule x):SM Unit) Q st:=wpS_lift (wpAny_rule ⟨rfl,q⟩)
noncomputable def mlo:Array Keyed->Array Keyed->SM (Array Keyed):=sortPriv%PySem.Builtin.mergeLo
structure MI(K:Keyed->Int)(a b out:Array Keyed)(ia ib:Nat):Prop where
 i1:ia+1<a.size
 i2:ib<b.size
 w:MW K (a.toList++b.toList) out.toList (a.toList.drop ia) (b.toList.drop ib)
structure Fin(K:Keyed->Int)(a b out:Array Keyed):Prop where perm:out.toList.Perm (a.toList++b.toList)jQ:SL K out.toList
theorem jh{a b out:Array Keyed}{ia ib:Nat}(h:ib=b.size)(w:MW K (a.toList++b.toList) out.toList (a.toList.drop ia) (b.toList.drop ib)):Fin K a b (out++a.extract ia a.size++b.extract ib b.size):=by
 have e:b.toList.drop ib=[]:=by rw[h];simp
 rw[e]at w;obtain⟨h1,h2⟩:=w.ab5;refine⟨?_,?_⟩<;>rw[Array.toList_append,Array.toList_append,jj,jj,e,append_nil]<;>assumption
theorem Ci{a b out:Array Keyed}{ia ib:Nat}(h:ia=a.size)(w:MW K (a.toList++b.toList) out.toList (a.toList.drop ia) (b.toList.drop ib)):Fin K a b (out++a.extract ia a.size++b.extract ib b.size):=by
 have e:a.toList.drop ia=[]:=by rw[h];simp
 rw[e]at w;obtain⟨h1,h2⟩:=w.aau;refine⟨?_,?_⟩<;>rw[Array.toList_append,Array.toList_append,jj,jj,e,append_nil]<;>assumption
theorem j8{a b out:Array Keyed}{ia ib:Nat}(h:ia+1=a.size)(hl:∀i,i<b.size->K (it b i)<=K (it a (a.size-1)))(w:MW K (a.toList++b.toList) out.toList (a.toList.drop ia) (b.toList.drop ib)):Fin K a b (out++b.extract ib b.size++a.extract ia a.size):=by
 have e:a.toList.drop ia=[it a ia]:=by rw[tD (by omega),h];simp
 rw[e]at w;obtain⟨h1,h2⟩:=w.last fun y hy=>by obtain⟨j,_,hj,rfl⟩:=iH hy;rw[show ia=a.size-1 by omega];exact hl j hj
 refine⟨?_,?_⟩<;>rw[Array.toList_append,Array.toList_append,jj,jj,e]<;>assumption
theorem MW.qO{a b out:Array Keyed}{ia ib:Nat}(h:ia<a.size)(w:MW K (a.toList++b.toList) out.toList (a.toList.drop ia) (b.toList.drop ib))(hb:uH K b)(hk:ib<b.size->K (it a ia)<=K (it b ib)):MW K (a.toList++b.toList) (out.push (it a ia)).toList (a.toList.drop (ia+1)) (b.toList.drop ib):=by rw[tD h]at w;rw[toList_push];refine MW.Wn (P:=[it a ia]) w fun x hx y hy=>?_;rw[mem_singleton.mp hx];obtain⟨j,j1,j2,rfl⟩:=iH hy;exact Int.le_trans (hk (by omega)) (hb _ _ j1 j2)
theorem MW.qC{a b out:Array Keyed}{ia ib:Nat}(h:ib<b.size)(w:MW K (a.toList++b.toList) out.toList (a.toList.drop ia) (b.toList.drop ib))(ha:uH K a)(hk:ia<a.size->K (it b ib)<=K (it a ia)):MW K (a.toList++b.toList) (out.push (it b ib)).toList (a.toList.drop ia) (b.toList.drop (ib+1)):=by rw[tD h]at w;rw[toList_push];refine MW.Xd (P:=[it b ib]) w fun x hx y hy=>?_;rw[mem_singleton.mp hx];obtain⟨j,j1,j2,rfl⟩:=iH hy;exact Int.le_trans (hk (by omega)) (ha _ _ j1 j2)
theorem MW.Du{a b out:Array Keyed}{ia ib k:Nat}(h:ia+k<=a.size)(w:MW K (a.toList++b.toList) out.toList (a.toList.drop ia) (b.toList.drop ib))(hb:uH K b)(hk:∀j,j<k->ib<b.size->K (it a (ia+j))<=K (it b ib)):MW K (a.toList++b.toList) (out++a.extract ia (ia+k)).toList (a.toList.drop (ia+k)) (b.toList.drop ib):=by rw[jJ h]at w;rw[Array.toList_append];refine MW.Wn w fun x hx y hy=>?_;obtain⟨i,hi,rfl⟩:=ext_mem h hx;obtain⟨j,j1,j2,rfl⟩:=iH hy;exact Int.le_trans (hk i hi (by omega)) (hb _ _ j1 j2)
theorem MW.Gn{a b out:Array Keyed}{ia ib k:Nat}(h:ib+k<=b.size)(w:MW K (a.toList++b.toList) out.toList (a.toList.drop ia) (b.toList.drop ib))(ha:uH K a)(hk:∀j,j<k->ia<a.size->K (it b (ib+j))<=K (it a ia)):MW K (a.toList++b.toList) (out++b.extract ib (ib+k)).toList (a.toList.drop ia) (b.toList.drop (ib+k)):=by rw[jJ h]at w;rw[Array.toList_append];refine MW.Xd w fun x hx y hy=>?_;obtain⟨i,hi,rfl⟩:=ext_mem h hx;obtain⟨j,j1,j2,rfl⟩:=iH hy;exact Int.le_trans (hk i hi (by omega)) (ha _ _ j1 j2)
theorem tL{l:Bool}{k:Keyed}{a:Array Keyed}{b n:Nat}(h:uH K a)(hn:b+n<=a.size):Ja K l k a b n:=fun i j hij hj c=>by have:=h (b+i) (b+j) (by omega) (by omega);unfold bb at*;cases l with|true=>simp only[if_true,decide_eq_true_eq]at*;omega|false=>simp only[false_eq_true,if_false,not_eq_true',decide_eq_false_iff_not]at*;omega
end
section
variable{M:Model}{A:Around}{E:Value->Shared->Prop}{s:Shared}{κ:SortKind}{ok:Keyed->Prop}{K:Keyed->Int}
theorem Dm{α γ:Type}{T:PUnit->α->SM γ}{c:Prop}{d:Decidable c}{x y:α}{Q:γ->SortSt->Prop}{st:SortSt}(h:∀r u,wpS M A E s (T r u) Q st):wpS M A E s (@ite _ c d (T ⟨⟩ x) (T ⟨⟩ y)) Q st:=by split<;>exact h _ _
theorem nH{α β γ:Type}{T:PUnit->α->β->SM γ}{c:Prop}{d:Decidable c}{B:SM γ}{x:α}{y:β}{Q:γ->SortSt->Prop}{st:SortSt}(C:α->β->Prop)(h:∀r u v,C u v->wpS M A E s (T r u v) Q st)(hB:c->(∀r u v,C u v->wpS M A E s (T r u v) Q st)->wpS M A E s B Q st)(hx:¬ c->C x y):wpS M A E s (@ite _ c d B (T ⟨⟩ x y)) Q st:=by
 split;.exact hB ‹_› h
 .exact h _ _ _ (hx ‹_›)
abbrev MQ{γ:Type}(K:Keyed->Int)(a b:Array Keyed)(st:SortSt)(c:Option (Array Keyed)×γ)(st':SortSt):Prop:=qe st st'/\∃out,c.1=some out/\Fin K a b out
abbrev MI1(K:Keyed->Int)(a b:Array Keyed)(st:SortSt)(x:Nat)(c:Option (Array Keyed)×Array Keyed×Nat×Nat×Nat)(st':SortSt):Prop:=qe st st'/\∃out ia ib mg,c=(none,out,ia,ib,mg)/\MI K a b out ia ib/\x+1<=ia+ib
abbrev MI2(K:Keyed->Int)(a b:Array Keyed)(st:SortSt)(n y:Nat)(c:Option (Array Keyed)×Array Keyed×Nat×Nat×Nat×Nat)(st':SortSt):Prop:=qe st st'/\∃out jo gf ac bc,c=(none,out,jo,gf,ac,bc)/\MI K a b out jo gf/\n+y<=jo+gf
abbrev MI3(K:Keyed->Int)(a b:Array Keyed)(st:SortSt)(n:Nat)(c:Option (Array Keyed)×Array Keyed×Nat×Nat×Nat×Nat×Nat)(st':SortSt):Prop:=qe st st'/\∃out jo gf mg ac bc,c=(none,out,jo,gf,mg,ac,bc)/\MI K a b out jo gf/\n+1<=jo+gf
abbrev MQ2(K:Keyed->Int)(a b:Array Keyed)(st:SortSt)(n:Nat)(c:Option (Array Keyed)×Array Keyed×Nat×Nat×Nat×Nat)(st':SortSt):Prop:=qe st st'/\((∃out,c.1=some out/\Fin K a b out)\/∃out jo gf ac bc,c=(none,out,jo,gf,ac,bc)/\MI K a b out jo gf/\n+1<=jo+gf)
abbrev MQ3(K:Keyed->Int)(a b:Array Keyed)(st:SortSt)(n:Nat)(c:Option (Array Keyed)×Array Keyed×Nat×Nat×Nat×Nat×Nat)(st':SortSt):Prop:=qe st st'/\((∃out,c.1=some out/\Fin K a b out)\/∃out jo gf mg ac bc,c=(none,out,jo,gf,mg,ac,bc)/\MI K a b out jo gf/\n+1<=jo+gf)
set_option maxHeartbeats 1000000 in
theorem Qo(R:Rk M A E s κ ok K){a b:Array Keyed}{Q:Array Keyed->SortSt->Prop}{st:SortSt}(ha:∀x∈a.toList,ok x)(hb:∀x∈b.toList,ok x)(hs:kindOf st=κ)(ua:uH K a)(ub:uH K b)(a1:1<=a.size)(b1:1<=b.size)(h0:K (it b 0)<=K (it a 0))(hl:∀i,i<b.size->K (it b i)<=K (it a (a.size-1)))(q:∀out st',Fin K a b out->qe st st'->Q out st'):wpS M A E s (mlo a b) Q st:=by
 show wpS M A E s (liftM (rule "list.sort.merge-lo")>>=_) Q st;refine wpS_bind (wp_rule ?_);extract_lets+onlyGivenNames-merge-underBinder x0 x1 x2;refine wpS_bind (aX (by omega) ?_);extract_lets+onlyGivenNames-merge-underBinder x3 x4 x5;dsimp-zeta-zetaHave only[x0,x1,x2,x3,x4,x5];have w0:MW K (a.toList++b.toList) (#[]:Array Keyed).toList (a.toList.drop 0) (b.toList.drop 0):=⟨by simp,by simpa using oV ua,by simpa using oV ub⟩;have w1:=w0.qC (by omega) ua (fun _=>h0);rw[show(#[]:Array Keyed).push (it b 0)=#[it b 0]from rfl]at w1;by_cases c1:1=b.size;.rw[if_pos (by simpa using c1)];exact wpS_pure (q _ _ (jh c1 w1) (.refl _))
 rw[if_neg (by simpa using c1)];by_cases c2:0+1=a.size;.rw[if_pos (by simpa using c2)];exact wpS_pure (q _ _ (j8 c2 hl w1) (.refl _))
 rw[if_neg (by simpa using c2)];refine wpS_bind (wpS_get ?_);extract_lets+onlyGivenNames-merge-underBinder x6;refine wpS_bind (wpS_mono (wpS_forRange (I:=MI1 K a b st) (Q:=MQ K a b st) ?_ ?_ ⟨.refl _,_,0,1,_,rfl,⟨by omega,by omega,w1⟩,by omega⟩) ?_)
 . rintro x c st1 _ hx⟨s1,out,ia,ib,mg,rfl,mi,hp⟩;extract_lets+onlyGivenNames-merge-underBinder y0 y1 y2 y3 y4 y5 y6 y7 y8;dsimp-zeta-zetaHave only[x0,x1,x2,x3,x4,x5,y0,y1,y2,y3,y4,y5,y6,y7,y8];refine wpS_bind (wpS_mono (wpS_forRange (I:=MI2 K a b st (ia+ib)) (Q:=MQ2 K a b st (ia+ib)) ?_ ?_ ⟨s1,out,ia,ib,0,0,rfl,mi,by omega⟩) ?_)
   . rintro y c st2 _ hy⟨s2,out,jo,gf,ac,bc,rfl,mi,hp'⟩;have i1:=mi.i1;have i2:=mi.i2;try dsimp only
     refine wpS_bind (aX i2 (wpS_bind (aX (by omega) (wpS_bind (R.lt (hb _ (cM i2)) (ha _ (cM (by omega))) (s2.kind.trans hs) ?_)))));by_cases c:K (it b gf)<K (it a jo)
     . rw[decide_eq_true c];try dsimp only
       rw[if_pos rfl];refine wpS_bind (aX i2 ?_);try dsimp only
       have w:=mi.w.qC i2 ua (fun _=>by omega);by_cases e:gf+1=b.size;.rw[if_pos (by simpa using e)];exact wpS_pure ⟨s2,.inl ⟨_,rfl,jh e w⟩⟩
       . rw[if_neg (by simpa using e)];have wV:MI K a b (out.push (it b gf)) jo (gf+1):=⟨i1,by omega,w⟩;split;.exact wpS_pure ⟨s2,.inr ⟨_,_,_,_,_,rfl,wV,by omega⟩⟩
         .exact wpS_pure ⟨s2,_,_,_,_,_,rfl,wV,by omega⟩
     . rw[decide_eq_false c];try dsimp only
       rw[if_neg (by simp)];refine wpS_bind (aX (by omega) ?_);try dsimp only
       have w:=mi.w.qO (by omega) ub (fun _=>by omega);by_cases e:jo+1+1=a.size;.rw[if_pos (by simpa using e)];exact wpS_pure ⟨s2,.inl ⟨_,rfl,j8 e hl w⟩⟩
       . rw[if_neg (by simpa using e)];have wV:MI K a b (out.push (it a jo)) (jo+1) gf:=⟨by omega,i2,w⟩;split;.exact wpS_pure ⟨s2,.inr ⟨_,_,_,_,_,rfl,wV,by omega⟩⟩
         .exact wpS_pure ⟨s2,_,_,_,_,_,rfl,wV,by omega⟩
   .rintro c st2⟨s2,out,jo,gf,ac,bc,rfl,mi,hp'⟩;exact⟨s2,.inr ⟨_,_,_,_,_,rfl,mi,by omega⟩⟩
   . rintro c st2⟨s2,⟨out,hc,hf⟩|⟨out,jo,gf,ac,bc,rfl,mi,hp'⟩⟩;.obtain⟨c1,c2,c3,c4,c5,c6⟩:=c;cases hc;exact wpS_pure ⟨s2,out,rfl,hf⟩
     . extract_lets+onlyGivenNames-merge-underBinder z0 z1 z2 z3 z4 z5 z6 z7 z8 z9;dsimp-zeta-zetaHave only[z0,z1,z2,z3,z4,z5,z6,z7,z8,z9];refine wpS_bind (wp_rule ?_);extract_lets+onlyGivenNames-merge-underBinder za;refine wpS_bind (wpS_mono (wpS_forRange (I:=fun _=>MI3 K a b st (ia+ib)) (Q:=MQ3 K a b st (ia+ib)) ?_ ?_ ⟨s2,out,jo,gf,_,ac,bc,rfl,mi,by omega⟩) ?_)
       . rintro y c st3 _ hy⟨s3,out,jo,gf,mg,ac,bc,rfl,mi,hp'⟩;have i1:=mi.i1;have i2:=mi.i2;extract_lets+onlyGivenNames-merge-underBinder t0 t1 t2 t3 t4 t5 t6 t7 t8 t9 ta jp;dsimp only[t0,t1,t2,t3,t4,t5,t6,t7,t8,t9,ta];refine Dm (T:=jp) ?_;intro _ mg;dsimp-zeta-zetaHave only[jp,t0,t1,t2,t3,t4,t5,t6,t7,t8,t9,ta];refine wpS_bind (nG fun Ie R7=>?_);have s4:=s3.trans R7;refine wpS_bind (aX i2 ?_);refine wpS_bind (lL R (hb _ (cM i2)) ha (by omega) (by omega) (s4.kind.trans hs) (tL ua (by omega)) fun k k1 k2 k3=>?_);have k2':∀j,j<k->K (it a (jo+j))<=K (it b gf):=fun j hj=>by have:=k2 j hj;simp[bb]at this;omega
         have UL:∀j,k<=j->j<a.size-jo->K (it b gf)<=K (it a (jo+j)):=fun j h1 h2=>by have:=k3 j h1 h2;simp[bb]at this;omega
         try dsimp-zeta-zetaHave only
         extract_lets+onlyGivenNames-merge-underBinder u0 jp2;dsimp only[u0];refine nH (T:=jp2) (x:=out) (y:=jo) (fun yL Df=>(jo<=Df/\Df+1<a.size)/\MW K (a.toList++b.toList) yL.toList (a.toList.drop Df) (b.toList.drop gf)/\K (it b gf)<=K (it a Df)) ?_ (fun c key=>?_) (fun c=>⟨⟨le_refl _,i1⟩,mi.w,UL 0 (by omega) (by omega)⟩)
         . rintro _ yL Df⟨⟨j0,j1⟩,w,k4⟩;dsimp-zeta-zetaHave only[jp2,u0];refine wpS_bind (aX i2 ?_);have w2:=w.qC i2 ua fun _=>k4;extract_lets+onlyGivenNames-merge-underBinder v0 v1;dsimp-zeta-zetaHave only[v0,v1];by_cases e3:gf+1=b.size;.rw[if_pos (by simpa using e3)];exact wpS_pure ⟨s4,.inl ⟨_,rfl,jh e3 w2⟩⟩
           rw[if_neg (by simpa using e3)];have j3:gf+1<b.size:=by omega
           refine wpS_bind (aX (by omega) ?_);refine wpS_bind (lL R (ha _ (cM (by omega))) hb (by omega) (by omega) (s4.kind.trans hs) (tL ub (by omega)) fun m m1 m2 m3=>?_);have m2':∀j,j<m->K (it b (gf+1+j))<=K (it a Df):=fun j hj=>by have:=m2 j hj;simp[bb]at this;omega
           have m3':∀j,m<=j->j<b.size-(gf+1)->K (it a Df)<=K (it b (gf+1+j)):=fun j h1 h2=>by have:=m3 j h1 h2;simp[bb]at this;omega
           try dsimp-zeta-zetaHave only
           extract_lets+onlyGivenNames-merge-underBinder v2 XJ;dsimp only[v2];refine nH (T:=XJ) (x:=yL.push (it b gf)) (y:=gf+1) (fun yM UT=>(gf+1<=UT/\UT<b.size)/\MW K (a.toList++b.toList) yM.toList (a.toList.drop Df) (b.toList.drop UT)/\K (it a Df)<=K (it b UT)) ?_ (fun c key=>?_) (fun c=>⟨⟨le_refl _,j3⟩,w2,m3' 0 (by omega) (by omega)⟩)
           . rintro _ yM UT⟨⟨j4,j2⟩,w3,m4⟩;dsimp only[XJ,v2];refine wpS_bind (aX (by omega) ?_);have w4:=w3.qO (by omega) ub fun _=>m4;try dsimp only
             by_cases e5:Df+1+1=a.size;.rw[if_pos (by simpa using e5)];exact wpS_pure ⟨s4,.inl ⟨_,rfl,j8 e5 hl w4⟩⟩
             rw[if_neg (by simpa using e5)];have wV:MI K a b (yM.push (it a Df)) (Df+1) UT:=⟨by omega,j2,w4⟩;split;.exact wpS_pure ⟨s4,.inr ⟨_,_,_,_,_,_,rfl,wV,by omega⟩⟩
             .exact wpS_pure ⟨s4,_,_,_,_,_,_,rfl,wV,by omega⟩
           . have w3:=w2.Gn (k:=m) (by omega) ua fun j hj _=>m2' j hj;by_cases e4:gf+1+m=b.size;.rw[if_pos (by simpa using e4)];exact wpS_pure ⟨s4,.inl ⟨_,rfl,jh e4 w3⟩⟩
             rw[if_neg (by simpa using e4)];exact key ⟨⟩ _ _ ⟨⟨by omega,by omega⟩,w3,m3' m (le_refl _) (by omega)⟩
         . have w:=mi.w.Du (k:=k) (by omega) ub fun j hj _=>k2' j hj;by_cases e1:jo+k+1=a.size;.rw[if_pos (by simpa using e1)];exact wpS_pure ⟨s4,.inl ⟨_,rfl,j8 e1 hl w⟩⟩
           rw[if_neg (by simpa using e1)];by_cases e2:jo+k=a.size;.rw[if_pos (by simpa using e2)];exact wpS_pure ⟨s4,.inl ⟨_,rfl,Ci e2 w⟩⟩
           rw[if_neg (by simpa using e2)];exact key ⟨⟩ _ _ ⟨⟨by omega,by omega⟩,w,UL k (le_refl _) (by omega)⟩
       .rintro c st3⟨s3,out,jo,gf,mg,ac,bc,rfl,mi,hp'⟩;exact⟨s3,.inr ⟨_,_,_,_,_,_,rfl,mi,hp'⟩⟩
       . rintro c st3⟨s3,⟨out,hc,hf⟩|⟨out,jo,gf,mg,ac,bc,rfl,mi,hp'⟩⟩;.obtain⟨c1,c2,c3,c4,c5,c6,c7⟩:=c;cases hc;exact wpS_pure ⟨s3,out,rfl,hf⟩
         . try dsimp only
           exact wpS_bind (nG fun Ie R7=>wpS_pure ⟨s3.trans R7,_,_,_,_,rfl,mi,by omega⟩)
 .rintro c st1⟨s1,out,ia,ib,mg,rfl,mi,hp⟩;have:=mi.i1;have:=mi.i2;omega
 .rintro c st1⟨s1,out,hc,hf⟩;obtain⟨c1,c2,c3,c4,c5⟩:=c;cases hc;exact wpS_pure (q _ _ hf s1)
end
section
variable{K:Keyed->Int}{T A B S P:List Keyed}{z:Keyed}
structure MH(K:Keyed->Int)(T A B S:List Keyed):Prop where
 perm:(A++(B++S)).Perm T
 sa:SL K (A++S)sb:SL K (B++S)
theorem MH.Wn(w:MH K T (A++P) B S)(h:∀x∈P,∀y∈B,K y<=K x):MH K T A B (P++S):=by
 have h1:=bU.mp w.sb;have h2:=bU.mp (show SL K (A++(P++S))by simpa using w.sa);refine⟨?_,by simpa using w.sa,bU.mpr ⟨h1.1,h2.2.1,fun x hx y hy=>?_⟩⟩;.refine List.Perm.trans ?_ w.perm;rw[append_assoc];refine List.Perm.append_left A ?_;rw[<-append_assoc,<-append_assoc];exact List.perm_append_comm.append_right S
 . rcases mem_append.mp hy with hy|hy;.exact h y hy x hx
   .exact h1.2.2 x hx y hy
theorem MH.Xd(w:MH K T A (B++P) S)(h:∀x∈P,∀y∈A,K y<=K x):MH K T A B (P++S):=by
 have h1:=bU.mp w.sa;have h2:=bU.mp (show SL K (B++(P++S))by simpa using w.sb);refine⟨by simpa using w.perm,bU.mpr ⟨h1.1,h2.2.1,fun x hx y hy=>?_⟩,by simpa using w.sb⟩;rcases mem_append.mp hy with hy|hy;.exact h y hy x hx
 .exact h1.2.2 x hx y hy
theorem MH.first(w:MH K T A [z] S)(h:∀x∈A,K z<=K x):([z]++A++S).Perm T/\SL K ([z]++A++S):=by
 refine⟨?_,?_⟩;.refine List.Perm.trans ?_ w.perm;rw[<-append_assoc];exact List.perm_append_comm.append_right S
 . rw[append_assoc];refine bU.mpr ⟨List.pairwise_singleton _ _,w.sa,fun x hx y hy=>?_⟩;rw[mem_singleton.mp hx];rcases mem_append.mp hy with hy|hy;.exact h y hy
   .exact(bU.mp w.sb).2.2 z (by simp) y hy
theorem fM{a:Array Keyed}{n:Nat}(h:n<=a.size):(a.extract 0 n).toList=a.toList.take n:=by rw[iK h];simp
theorem gM{a:Array Keyed}{i n:Nat}(hi:i<=n)(h:n<=a.size):a.toList.take n=a.toList.take i++(a.extract i n).toList:=by
 rw[iK h];have e:n=i+(n-i):=by omega
 conv=>lhs;rw[e,List.take_add]
theorem rW{a:Array Keyed}{n:Nat}(h0:1<=n)(h:n<=a.size):a.toList.take n=a.toList.take (n-1)++[it a (n-1)]:=by
 have e:it a (n-1)=a.toList[n-1]'(by simp;omega):=by unfold it;simp[Array.getD,show n-1<a.size by omega]
 have e2:n=(n-1)+1:=by omega
 conv=>lhs;rw[e2]
 rw[List.take_succ_eq_append_getElem (by simp;omega),e]
theorem iM{a:Array Keyed}{n:Nat}{x:Keyed}(h:n<=a.size)(hx:x∈a.toList.take n):∃j,j<n/\x=it a j:=by obtain⟨j,hj,e⟩:=mem_iff_getElem.mp hx;simp only[length_take,length_toList]at hj;refine⟨j,by omega,?_⟩;rw[<-e];unfold it;simp[Array.getD,show j<a.size by omega]
theorem pP{a:Array Keyed}{i n:Nat}{x:Keyed}(hi:i<=n)(h:n<=a.size)(hx:x∈(a.extract i n).toList):∃j,i<=j/\j<n/\x=it a j:=by obtain⟨j,hj,e⟩:=ext_mem (a:=a) (i:=i) (k:=n-i) (by omega) (by rw[show i+(n-i)=n by omega];exact hx);exact⟨i+j,by omega,by omega,e⟩
end
section
variable{M:Model}{A:Around}{E:Value->Shared->Prop}{s:Shared}{κ:SortKind}{ok:Keyed->Prop}{K:Keyed->Int}
noncomputable def mhi:Array Keyed->Array Keyed->SM (Array Keyed):=sortPriv%PySem.Builtin.mergeHi
abbrev MV(K:Keyed->Int)(a b out:Array Keyed)(na nb:Nat):Prop:=MH K (a.toList++b.toList) (a.toList.take na) (b.toList.take nb) out.toList.reverse
structure MJ(K:Keyed->Int)(a b out:Array Keyed)(na nb:Nat):Prop where
 i1:1<=na
 i2:2<=nb
 i3:na<=a.size
 i4:nb<=b.size
 w:MV K a b out na nb
theorem iD{out:Array Keyed}:out.reverse.toList=out.toList.reverse:=Array.toList_reverse
theorem sG{a b out:Array Keyed}{na nb:Nat}(h:na=0)(hb:nb<=b.size)(w:MV K a b out na nb):Fin K a b (a.extract 0 na++b.extract 0 nb++out.reverse):=by
 subst h;have e:(a.extract 0 0++b.extract 0 nb++out.reverse).toList=b.toList.take nb++out.toList.reverse:=by rw[Array.toList_append,Array.toList_append,fM (zero_le _),fM hb,iD];simp
 exact⟨by rw[e];simpa using w.perm,by rw[e];exact w.sb⟩
theorem Oa{a b out:Array Keyed}{na nb:Nat}(h:nb=0)(ha:na<=a.size)(w:MV K a b out na nb):Fin K a b (a.extract 0 na++b.extract 0 nb++out.reverse):=by
 subst h;have e:(a.extract 0 na++b.extract 0 0++out.reverse).toList=a.toList.take na++out.toList.reverse:=by rw[Array.toList_append,Array.toList_append,fM (zero_le _),fM ha,iD];simp
 exact⟨by rw[e];simpa using w.perm,by rw[e];exact w.sa⟩
theorem jg{a b out:Array Keyed}{na nb:Nat}(h:nb=1)(ha:na<=a.size)(hb:nb<=b.size)(ua:uH K a)(h0:K (it b 0)<=K (it a 0))(w:MV K a b out na nb):Fin K a b (b.extract 0 nb++a.extract 0 na++out.reverse):=by
 subst h;have e1:b.toList.take 1=[it b 0]:=by rw[rW (le_refl 1) hb];simp
 have e:(b.extract 0 1++a.extract 0 na++out.reverse).toList=[it b 0]++a.toList.take na++out.toList.reverse:=by rw[Array.toList_append,Array.toList_append,fM hb,fM ha,iD,e1]
 have w':=w;unfold MV at w';rw[e1]at w';obtain⟨h1,h2⟩:=w'.first fun x hx=>by obtain⟨j,hj,rfl⟩:=iM ha hx;exact Int.le_trans h0 (ua 0 j (by omega) (by omega))
 exact⟨by rw[e];exact h1,by rw[e];exact h2⟩
theorem MH.qO{a b out:Array Keyed}{na nb:Nat}(h:1<=na)(ha:na<=a.size)(hb:nb<=b.size)(w:MV K a b out na nb)(ub:uH K b)(hk:1<=nb->K (it b (nb-1))<=K (it a (na-1))):MV K a b (out.push (it a (na-1))) (na-1) nb:=by unfold MV at*;rw[rW h ha]at w;rw[toList_push,List.reverse_append];refine MH.Wn (P:=[it a (na-1)]) w fun x hx y hy=>?_;rw[mem_singleton.mp hx];obtain⟨j,hj,rfl⟩:=iM hb hy;exact Int.le_trans (ub j (nb-1) (by omega) (by omega)) (hk (by omega))
theorem MH.qC{a b out:Array Keyed}{na nb:Nat}(h:1<=nb)(ha:na<=a.size)(hb:nb<=b.size)(w:MV K a b out na nb)(ua:uH K a)(hk:1<=na->K (it a (na-1))<=K (it b (nb-1))):MV K a b (out.push (it b (nb-1))) na (nb-1):=by unfold MV at*;rw[rW h hb]at w;rw[toList_push,List.reverse_append];refine MH.Xd (P:=[it b (nb-1)]) w fun x hx y hy=>?_;rw[mem_singleton.mp hx];obtain⟨j,hj,rfl⟩:=iM ha hy;exact Int.le_trans (ua j (na-1) (by omega) (by omega)) (hk (by omega))
theorem MH.Du{a b out:Array Keyed}{na nb i:Nat}(h:i<=na)(ha:na<=a.size)(hb:nb<=b.size)(w:MV K a b out na nb)(ub:uH K b)(hk:∀j,i<=j->j<na->1<=nb->K (it b (nb-1))<=K (it a j)):MV K a b (out++(a.extract i na).reverse) i nb:=by unfold MV at*;rw[gM h ha]at w;rw[Array.toList_append,List.reverse_append,iD,List.reverse_reverse];refine MH.Wn w fun x hx y hy=>?_;obtain⟨j,j1,j2,rfl⟩:=pP h ha hx;obtain⟨l,hl,rfl⟩:=iM hb hy;exact Int.le_trans (ub l (nb-1) (by omega) (by omega)) (hk j j1 j2 (by omega))
theorem MH.Gn{a b out:Array Keyed}{na nb i:Nat}(h:i<=nb)(ha:na<=a.size)(hb:nb<=b.size)(w:MV K a b out na nb)(ua:uH K a)(hk:∀j,i<=j->j<nb->1<=na->K (it a (na-1))<=K (it b j)):MV K a b (out++(b.extract i nb).reverse) na i:=by unfold MV at*;rw[gM h hb]at w;rw[Array.toList_append,List.reverse_append,iD,List.reverse_reverse];refine MH.Xd w fun x hx y hy=>?_;obtain⟨j,j1,j2,rfl⟩:=pP h hb hx;obtain⟨l,hl,rfl⟩:=iM ha hy;exact Int.le_trans (ua l (na-1) (by omega) (by omega)) (hk j j1 j2 (by omega))
set_option maxHeartbeats 1000000 in
theorem O9(R:Rk M A E s κ ok K){a b:Array Keyed}{Q:Array Keyed->SortSt->Prop}{st:SortSt}(ha:∀x∈a.toList,ok x)(hb:∀x∈b.toList,ok x)(hs:kindOf st=κ)(ua:uH K a)(ub:uH K b)(a1:1<=a.size)(b1:1<=b.size)(h0:K (it b 0)<=K (it a 0))(hl:∀i,i<b.size->K (it b i)<=K (it a (a.size-1)))(q:∀out st',Fin K a b out->qe st st'->Q out st'):wpS M A E s (mhi a b) Q st:=by
 show wpS M A E s (liftM (rule "list.sort.merge-hi")>>=_) Q st;refine wpS_bind (wp_rule ?_);extract_lets+onlyGivenNames-merge-underBinder x0 x1 x2 x3 x4;refine wpS_bind (aX (by omega) ?_);extract_lets+onlyGivenNames-merge-underBinder x5;dsimp-zeta-zetaHave only[x0,x1,x2,x3,x4,x5];have ta:∀c:Array Keyed,c.toList.take c.size=c.toList:=fun c=>take_of_length_le (by simp);have w0:MV K a b #[] a.size b.size:=by unfold MV;rw[ta,ta];exact⟨by simp,by simpa using oV ua,by simpa using oV ub⟩
 have w1:=MH.qO a1 (le_refl _) (le_refl _) w0 ub (fun _=>hl _ (by omega));rw[show(#[]:Array Keyed).push (it a (a.size-1))=#[it a (a.size-1)]from rfl]at w1;by_cases c1:a.size-1=0;.rw[if_pos (by simpa using c1)];exact wpS_pure (q _ _ (sG c1 (le_refl _) w1) (.refl _))
 rw[if_neg (by simpa using c1)];by_cases c2:b.size=1;.rw[if_pos (by simpa using c2)];exact wpS_pure (q _ _ (jg c2 (by omega) (le_refl _) ua h0 w1) (.refl _))
 rw[if_neg (by simpa using c2)];refine wpS_bind (wpS_get ?_);extract_lets+onlyGivenNames-merge-underBinder x6;refine wpS_bind (wpS_mono (wpS_forRange (I:=fun x c st'=>qe st st'/\∃na nb out mg,c=(none,na,nb,out,mg)/\MJ K a b out na nb/\x+1+na+nb<=a.size+b.size) (Q:=fun c st'=>qe st st'/\∃out,c.1=some out/\Fin K a b out) ?_ ?_ ⟨.refl _,_,_,_,_,rfl,⟨by omega,by omega,by omega,le_refl _,w1⟩,by omega⟩) ?_)
 . rintro x c st1 _ hx⟨s1,na,nb,out,mg,rfl,mi,hp⟩;extract_lets+onlyGivenNames-merge-underBinder y0 y1 y2 y3 y4 y5 y6 y7 y8;dsimp-zeta-zetaHave only[x0,x1,x2,x3,x4,x5,y0,y1,y2,y3,y4,y5,y6,y7,y8];refine wpS_bind (wpS_mono (wpS_forRange (I:=fun y c st'=>qe st st'/\∃jZ ig out ac bc,c=(none,jZ,ig,out,ac,bc)/\MJ K a b out jZ ig/\jZ+ig+y<=na+nb) (Q:=fun c st'=>qe st st'/\((∃out,c.1=some out/\Fin K a b out)\/∃jZ ig out ac bc,c=(none,jZ,ig,out,ac,bc)/\MJ K a b out jZ ig/\jZ+ig+1<=na+nb)) ?_ ?_ ⟨s1,na,nb,out,0,0,rfl,mi,by omega⟩) ?_)
   . rintro y c st2 _ hy⟨s2,jZ,ig,out,ac,bc,rfl,mi,hp'⟩;obtain⟨i1,i2,i3,i4,w⟩:=mi;try dsimp only
     refine wpS_bind (aX (by omega) (wpS_bind (aX (by omega) (wpS_bind (R.lt (hb _ (cM (by omega))) (ha _ (cM (by omega))) (s2.kind.trans hs) ?_)))));by_cases c:K (it b (ig-1))<K (it a (jZ-1))
     . rw[decide_eq_true c];try dsimp only
       rw[if_pos rfl];refine wpS_bind (aX (by omega) ?_);try dsimp only
       have w':=MH.qO i1 i3 i4 w ub (fun _=>by omega);by_cases e:jZ-1=0;.rw[if_pos (by simpa using e)];exact wpS_pure ⟨s2,.inl ⟨_,rfl,sG e i4 w'⟩⟩
       . rw[if_neg (by simpa using e)];have wV:MJ K a b (out.push (it a (jZ-1))) (jZ-1) ig:=⟨by omega,i2,by omega,i4,w'⟩;split;.exact wpS_pure ⟨s2,.inr ⟨_,_,_,_,_,rfl,wV,by omega⟩⟩
         .exact wpS_pure ⟨s2,_,_,_,_,_,rfl,wV,by omega⟩
     . rw[decide_eq_false c];try dsimp only
       rw[if_neg (by simp)];refine wpS_bind (aX (by omega) ?_);try dsimp only
       have w':=MH.qC (by omega) i3 i4 w ua (fun _=>by omega);by_cases e:ig-1=1;.rw[if_pos (by simpa using e)];exact wpS_pure ⟨s2,.inl ⟨_,rfl,jg e i3 (by omega) ua h0 w'⟩⟩
       . rw[if_neg (by simpa using e)];have wV:MJ K a b (out.push (it b (ig-1))) jZ (ig-1):=⟨i1,by omega,i3,by omega,w'⟩;split;.exact wpS_pure ⟨s2,.inr ⟨_,_,_,_,_,rfl,wV,by omega⟩⟩
         .exact wpS_pure ⟨s2,_,_,_,_,_,rfl,wV,by omega⟩
   .rintro c st2⟨s2,jZ,ig,out,ac,bc,rfl,mi,hp'⟩;exact⟨s2,.inr ⟨_,_,_,_,_,rfl,mi,by omega⟩⟩
   . rintro c st2⟨s2,⟨out,hc,hf⟩|⟨jZ,ig,out,ac,bc,rfl,mi,hp'⟩⟩;.obtain⟨c1,c2,c3,c4,c5,c6⟩:=c;cases hc;exact wpS_pure ⟨s2,out,rfl,hf⟩
     . extract_lets+onlyGivenNames-merge-underBinder z0 z1 z2 z3 z4 z5 z6 z7 z8 z9;dsimp-zeta-zetaHave only[z0,z1,z2,z3,z4,z5,z6,z7,z8,z9];refine wpS_bind (wp_rule ?_);extract_lets+onlyGivenNames-merge-underBinder za;refine wpS_bind (wpS_mono (wpS_forRange (I:=fun y c st'=>qe st st'/\∃jZ ig out mg ac bc,c=(none,jZ,ig,out,mg,ac,bc)/\MJ K a b out jZ ig/\jZ+ig+1<=na+nb) (Q:=fun c st'=>qe st st'/\((∃out,c.1=some out/\Fin K a b out)\/∃jZ ig out mg ac bc,c=(none,jZ,ig,out,mg,ac,bc)/\MJ K a b out jZ ig/\jZ+ig+1<=na+nb)) ?_ ?_ ⟨s2,jZ,ig,out,_,ac,bc,rfl,mi,by omega⟩) ?_)
       . rintro y c st3 _ hy⟨s3,jZ,ig,out,mg,ac,bc,rfl,mi,hp'⟩;obtain⟨i1,i2,i3,i4,w⟩:=mi;extract_lets+onlyGivenNames-merge-underBinder t0 t1 t2 t3 t4 t5 t6 t7 t8 t9 ta jp;dsimp only[t0,t1,t2,t3,t4,t5,t6,t7,t8,t9,ta];refine Dm (T:=jp) ?_;intro _ mg;dsimp-zeta-zetaHave only[jp,t0,t1,t2,t3,t4,t5,t6,t7,t8,t9,ta];refine wpS_bind (nG fun Ie R7=>?_);have s4:=s3.trans R7;refine wpS_bind (aX (by omega) ?_);refine wpS_bind (lL R (hb _ (cM (by omega))) ha (by omega) (by omega) (s4.kind.trans hs) (tL ua (by omega)) fun k k1 k2 k3=>?_);have k2':∀j,j<k->K (it a j)<=K (it b (ig-1)):=fun j hj=>by have:=k2 j hj;simp[bb]at this;omega
         have UL:∀j,k<=j->j<jZ->K (it b (ig-1))<=K (it a j):=fun j h1 h2=>by have:=k3 j h1 h2;simp[bb]at this;omega
         try dsimp-zeta-zetaHave only
         extract_lets+onlyGivenNames-merge-underBinder u0 u1 jp2;dsimp only[u0,u1];refine nH (T:=jp2) (x:=jZ) (y:=out) (fun n1 yL=>(1<=n1/\n1<=jZ)/\MV K a b yL n1 ig/\K (it a (n1-1))<=K (it b (ig-1))) ?_ (fun c key=>?_) (fun c=>⟨⟨i1,le_refl _⟩,w,k2' _ (by omega)⟩)
         . rintro _ n1 yL⟨⟨j1,j0⟩,w1,k4⟩;dsimp-zeta-zetaHave only[jp2,u0,u1];extract_lets+onlyGivenNames-merge-underBinder v0;refine wpS_bind (aX (by dsimp only[v0];omega) ?_);have w2:=MH.qC (by omega) (by omega) i4 w1 ua (fun _=>k4);extract_lets+onlyGivenNames-merge-underBinder v1;dsimp-zeta-zetaHave only[v0,v1];by_cases e3:ig-1=1;.rw[if_pos (by simpa using e3)];exact wpS_pure ⟨s4,.inl ⟨_,rfl,jg e3 (by omega) (by omega) ua h0 w2⟩⟩
           rw[if_neg (by simpa using e3)];refine wpS_bind (aX (by omega) ?_);refine wpS_bind (lL R (ha _ (cM (by omega))) hb (by omega) (by omega) (s4.kind.trans hs) (tL ub (by omega)) fun m m1 m2 m3=>?_);have m2':∀j,j<m->K (it b j)<=K (it a (n1-1)):=fun j hj=>by have:=m2 j hj;simp[bb]at this;omega
           have m3':∀j,m<=j->j<ig-1->K (it a (n1-1))<=K (it b j):=fun j h1 h2=>by have:=m3 j h1 h2;simp[bb]at this;omega
           try dsimp-zeta-zetaHave only
           extract_lets+onlyGivenNames-merge-underBinder v2 v3 XJ;dsimp only[v2,v3];refine nH (T:=XJ) (x:=ig-1) (y:=yL.push (it b (ig-1))) (fun n2 yM=>(2<=n2/\n2<=ig-1)/\MV K a b yM n1 n2/\K (it b (n2-1))<=K (it a (n1-1))) ?_ (fun c key=>?_) (fun c=>⟨⟨by omega,le_refl _⟩,w2,m2' _ (by omega)⟩)
           . rintro _ n2 yM⟨⟨j2,j3⟩,w3,m4⟩;dsimp only[XJ,v2,v3];refine wpS_bind (aX (by omega) ?_);have w4:=MH.qO j1 (by omega) (by omega) w3 ub (fun _=>m4);try dsimp only
             by_cases e6:n1-1=0;.rw[if_pos (by simpa using e6)];exact wpS_pure ⟨s4,.inl ⟨_,rfl,sG e6 (by omega) w4⟩⟩
             rw[if_neg (by simpa using e6)];have wV:MJ K a b (yM.push (it a (n1-1))) (n1-1) n2:=⟨by omega,j2,by omega,by omega,w4⟩;split;.exact wpS_pure ⟨s4,.inr ⟨_,_,_,_,_,_,rfl,wV,by omega⟩⟩
             .exact wpS_pure ⟨s4,_,_,_,_,_,_,rfl,wV,by omega⟩
           . have w3:=MH.Gn m1 (by omega) (by omega) w2 ua fun j h1 h2 _=>m3' j h1 h2;by_cases e4:m=1;.rw[if_pos (by simpa using e4)];exact wpS_pure ⟨s4,.inl ⟨_,rfl,jg e4 (by omega) (by omega) ua h0 w3⟩⟩
             rw[if_neg (by simpa using e4)];by_cases e5:m=0;.rw[if_pos (by simpa using e5)];exact wpS_pure ⟨s4,.inl ⟨_,rfl,Oa e5 (by omega) w3⟩⟩
             rw[if_neg (by simpa using e5)];exact key ⟨⟩ _ _ ⟨⟨by omega,m1⟩,w3,m2' _ (by omega)⟩
         . have w1:=MH.Du k1 i3 i4 w ub fun j h1 h2 _=>UL j h1 h2;by_cases e1:k=0;.rw[if_pos (by simpa using e1)];exact wpS_pure ⟨s4,.inl ⟨_,rfl,sG e1 i4 w1⟩⟩
           rw[if_neg (by simpa using e1)];exact key ⟨⟩ _ _ ⟨⟨by omega,k1⟩,w1,k2' _ (by omega)⟩
       .rintro c st3⟨s3,jZ,ig,out,mg,ac,bc,rfl,mi,hp'⟩;exact⟨s3,.inr ⟨_,_,_,_,_,_,rfl,mi,hp'⟩⟩
       . rintro c st3⟨s3,⟨out,hc,hf⟩|⟨jZ,ig,out,mg,ac,bc,rfl,mi,hp'⟩⟩;.obtain⟨c1,c2,c3,c4,c5,c6,c7⟩:=c;cases hc;exact wpS_pure ⟨s3,out,rfl,hf⟩
         . try dsimp only
           exact wpS_bind (nG fun Ie R7=>wpS_pure ⟨s3.trans R7,_,_,_,_,rfl,mi,by omega⟩)
 .rintro c st1⟨s1,na,nb,out,mg,rfl,mi,hp⟩;have:=mi.i1;have:=mi.i2;omega
 .rintro c st1⟨s1,out,hc,hf⟩;obtain⟨c1,c2,c3,c4,c5⟩:=c;cases hc;exact wpS_pure (q _ _ hf s1)
end
section
variable{K:Keyed->Int}
def Seg(K:Keyed->Int)(xs:Array Keyed)(lo hi:Nat):Prop:=∀i j,lo<=i->i<=j->j<hi->K (it xs i)<=K (it xs j)
theorem zH{l:Bool}{k:Keyed}{a:Array Keyed}{b n:Nat}(h:Seg K a b (b+n)):Ja K l k a b n:=fun i j hij hj c=>by have:=h (b+i) (b+j) (by omega) (by omega) (by omega);unfold bb at*;cases l with|true=>simp only[if_true,decide_eq_true_eq]at*;omega|false=>simp only[false_eq_true,if_false,not_eq_true',decide_eq_false_iff_not]at*;omega
theorem gD{xs:Array Keyed}{i:Nat}:it xs i=xs.toList.getD i (Value.none,Value.none):=by
 unfold it;by_cases h:i<xs.size;.simp[Array.getD,h]
 .simp[Array.getD,h]
theorem lJ{a:Array Keyed}{i n j:Nat}(h:n<=a.size)(hj:j<n-i):it (a.extract i n) j=it a (i+j):=by
 have:j<(a.extract i n).size:=by simp;omega
 have e:(a.extract i n)[j]?=a[i+j]?:=by rw[Array.getElem?_extract,if_pos (by omega)]
 have e1:=sr this;have e2:=sr (show i+j<a.size by omega);rw[e,e2]at e1;injection e1 with e1;exact e1.symm
theorem sS{a:Array Keyed}{i n:Nat}(h:n<=a.size)(hs:Seg K a i n):uH K (a.extract i n):=fun u v huv hv=>by
 have hsz:(a.extract i n).size=n-i:=by simp;omega
 rw[hsz]at hv;rw[lJ h (by omega),lJ h hv];exact hs _ _ (by omega) (by omega) (by omega)
theorem vY:∀(m:List Keyed)(arr:Array Keyed)(o k:Nat),o+k+m.length<=arr.size->((m.zipIdx k).foldl (fun a x=>match x with|(p,j)=>a.setIfInBounds (o+j) p) arr).toList=arr.toList.take (o+k)++(m++arr.toList.drop (o+k+m.length))
 |[],arr,o,k,h=>by simp|x::m,arr,o,k,h=>by
   have hl:o+k<arr.size:=by simp at h;omega
   rw[List.zipIdx_cons,foldl_cons];have ih:=vY m (arr.setIfInBounds (o+k) x) o (k+1) (by simp at h ⊢;omega);rw[ih,Array.toList_setIfInBounds];have e1:(arr.toList.set (o+k) x).take (o+(k+1))=arr.toList.take (o+k)++[x]:=by rw[<-Nat.add_assoc,List.take_succ_eq_append_getElem (by simpa using hl),List.take_set_of_le (le_refl _)];simp
   have e2:(arr.toList.set (o+k) x).drop (o+(k+1)+m.length)=arr.toList.drop (o+k+(x::m).length):=by rw[List.drop_set_of_lt (by omega)];congr 1;simp;omega
   rw[e1,e2];simp
theorem Fin.mem{a b out:Array Keyed}{z:Keyed}(f:Fin K a b out)(h:z∈out.toList):z∈a.toList\/z∈b.toList:=mem_append.mp (f.perm.mem_iff.mp h)
theorem vz{xs:Array Keyed}{P Q S:List Keyed}{lo hi:Nat}(e:xs.toList=P++(Q++S))(hl:P.length=lo)(hh:P.length+Q.length=hi)(h:SL K Q):Seg K xs lo hi:=fun i j h1 h2 h3=>by
 rw[gD,gD,e];have gi:∀n,lo<=n->n<hi->(P++(Q++S)).getD n (Value.none,Value.none)=Q.getD (n-lo) (Value.none,Value.none):=fun n n1 n2=>by rw[getD_eq_getElem?_getD,getD_eq_getElem?_getD,getElem?_append_right (by omega),getElem?_append_left (by omega),hl]
 rw[gi i h1 (by omega),gi j (by omega) h3];by_cases hij:i=j;.rw[hij];exact Int.le_refl _
 .have:=List.pairwise_iff_getElem.mp h (i-lo) (j-lo) (by omega) (by omega) (by omega);simpa[getD_eq_getElem?_getD,show i-lo<Q.length by omega,show j-lo<Q.length by omega]using this
end
section
variable{M:Model}{A:Around}{E:Value->Shared->Prop}{s:Shared}{κ:SortKind}{ok:Keyed->Prop}{K:Keyed->Int}
theorem three{a:Array Keyed}{i n:Nat}(hi:i<=n)(h:n<=a.size):a.toList=a.toList.take i++((a.extract i n).toList++a.toList.drop n):=by rw[<-append_assoc,<-gM hi h,take_append_drop]
theorem DK{a:Array Keyed}{i n:Nat}(h:n<=a.size)(hs:Seg K a i n):SL K (a.extract i n).toList:=oV (sS h hs)
structure S5(K:Keyed->Int)(xs ys:Array Keyed)(lo hi:Nat):Prop where
 perm:ys.toList.Perm xs.toList
 pre:ys.toList.take lo=xs.toList.take lo
 post:ys.toList.drop hi=xs.toList.drop hi
 seg:Seg K ys lo hi
theorem uZ{xs:Array Keyed}{lo hi:Nat}(h:Seg K xs lo hi):S5 K xs xs lo hi:=⟨.refl _,rfl,rfl,h⟩
theorem Rv{xs ys:Array Keyed}{lo u v hi:Nat}{m:List Keyed}(h1:lo<=u)(h2:u<=v)(h3:v<=hi)(h4:hi<=xs.size)(hy:ys.toList=xs.toList.take u++(m++xs.toList.drop v))(hp:m.Perm (xs.extract u v).toList)(hs:SL K ((xs.extract lo u).toList++(m++(xs.extract v hi).toList))):S5 K xs ys lo hi:=by
 have hlm:m.length=v-u:=by rw[hp.length_eq];simp;omega
 have el:xs.toList.take u=xs.toList.take lo++(xs.extract lo u).toList:=gM h1 (by omega);have er:xs.toList.drop v=(xs.extract v hi).toList++xs.toList.drop hi:=by have:=jJ (a:=xs) (i:=v) (k:=hi-v) (by omega);rwa[show v+(hi-v)=hi by omega]at this
 have e:ys.toList=xs.toList.take lo++(((xs.extract lo u).toList++(m++(xs.extract v hi).toList))++xs.toList.drop hi):=by rw[hy,el,er];simp
 have hlo:(xs.toList.take lo).length=lo:=by simp;omega
 have hmid:((xs.extract lo u).toList++(m++(xs.extract v hi).toList)).length=hi-lo:=by simp[hlm];omega
 refine⟨?_,?_,?_,vz e hlo (by omega) hs⟩;.have t:=three h2 (show v<=xs.size by omega);rw[hy];refine List.Perm.trans (List.Perm.append_left _ (List.Perm.append_right _ hp)) (.of_eq t.symm)
 .rw[e,List.take_append_of_le_length (by omega),take_of_length_le (by omega)]
 .rw[e,<-append_assoc,List.drop_append,List.drop_eq_nil_of_le (Nat.le_of_eq (by rw[length_append,hlo,hmid,Nat.add_sub_cancel' (le_trans h1 (le_trans h2 h3))])),nil_append,length_append,hlo,hmid,Nat.add_sub_cancel' (le_trans h1 (le_trans h2 h3)),Nat.sub_self];rfl
end
section
variable{M:Model}{A:Around}{E:Value->Shared->Prop}{s:Shared}{κ:SortKind}{ok:Keyed->Prop}{K:Keyed->Int}
theorem PQ{st st':SortSt}{Q:PUnit->SortSt->Prop}(h:Q ⟨⟩ st'):wpS M A E s (set st':SM PUnit) Q st:=by unfold wpS;rw[StateT.run_set];exact wpAny_pure ⟨rfl,h⟩
theorem jP{a:Array Keyed}{i n:Nat}{x:Keyed}(hi:i<=n)(h:n<=a.size)(hx:x∈(a.extract i n).toList):∃j,i<=j/\j<n/\x=it a j:=pP hi h hx
theorem QC{arr merged:Array Keyed}{sa u sb v hi:Nat}(h1:sa<=u)(h2:u<=sb)(h3:sb<=v)(h4:v<=hi)(h5:hi<=arr.size)(hu:u<sb)(hv:sb<v)(s1:Seg K arr sa sb)(s2:Seg K arr sb hi)(f:Fin K (arr.extract u sb) (arr.extract sb v) merged)(k2:∀j,sa<=j->j<u->K (it arr j)<=K (it arr sb))(m3:∀j,v<=j->j<hi->K (it arr (sb-1))<=K (it arr j)):SL K ((arr.extract sa u).toList++(merged.toList++(arr.extract v hi).toList)):=by
 have Ng:∀z∈merged.toList,(∃j,u<=j/\j<sb/\z=it arr j)\/∃j,sb<=j/\j<v/\z=it arr j:=fun z hz=>(f.mem hz).imp (jP h2 (by omega)) (jP h3 (by omega));refine bU.mpr ⟨DK (by omega) fun i j a b c=>s1 i j a b (by omega),bU.mpr ⟨f.jQ,DK h5 fun i j a b c=>s2 i j (by omega) b c,fun z hz y hy=>?_⟩,fun x hx y hy=>?_⟩
 . obtain⟨j,j1,j2,rfl⟩:=jP h4 h5 hy;rcases Ng z hz with⟨i,i1,i2,rfl⟩|⟨i,i1,i2,rfl⟩;.exact Int.le_trans (s1 i (sb-1) (by omega) (by omega) (by omega)) (m3 j j1 j2)
   .exact s2 i j (by omega) (by omega) (by omega)
 . obtain⟨i,i1,i2,rfl⟩:=jP h1 (by omega) hx;rcases mem_append.mp hy with hy|hy
   . rcases Ng y hy with⟨j,j1,j2,rfl⟩|⟨j,j1,j2,rfl⟩;.exact s1 i j (by omega) (by omega) (by omega)
     .exact Int.le_trans (k2 i i1 i2) (s2 sb j (by omega) (by omega) (by omega))
   .obtain⟨j,j1,j2,rfl⟩:=jP h4 h5 hy;exact Int.le_trans (k2 i i1 i2) (s2 sb j (by omega) (by omega) (by omega))
set_option maxHeartbeats 1000000 in
theorem O1(R:Rk M A E s κ ok K){i sa na pw sb nb pw2:Nat}{Q:Bool->SortSt->Prop}{st:SortSt}(hs:kindOf st=κ)(ho:∀x∈(arrOf st).toList,ok x)(hf:failedOf st=none)(hi:(pendingOf st)[i]?=some (sa,na,pw))(hj:(pendingOf st)[i+1]?=some (sb,nb,pw2))(hsb:sb=sa+na)(n1:1<=na)(m1:1<=nb)(hz:sb+nb<=(arrOf st).size)(s1:Seg K (arrOf st) sa sb)(s2:Seg K (arrOf st) sb (sb+nb))(q:∀st',kindOf st'=κ->failedOf st'=none->pendingOf st'=((pendingOf st).setIfInBounds i (sa,na+nb,pw)).eraseIdxIfInBounds (i+1)->S5 K (arrOf st) (arrOf st') sa (sb+nb)->Q true st'):wpS M A E s (mergeAt' i) Q st:=by
 obtain⟨kd,arr,pend,gm,fl⟩:=st;replace hs:kd=κ:=hs;replace ho:∀x∈arr.toList,ok x:=ho;replace hf:fl=none:=hf;replace hi:pend[i]?=some (sa,na,pw):=hi;replace hj:pend[i+1]?=some (sb,nb,pw2):=hj;replace hz:sb+nb<=arr.size:=hz;replace s1:Seg K arr sa sb:=s1;replace s2:Seg K arr sb (sb+nb):=s2;replace q:∀st',kindOf st'=κ->failedOf st'=none->pendingOf st'=(pend.setIfInBounds i (sa,na+nb,pw)).eraseIdxIfInBounds (i+1)->S5 K arr (arrOf st') sa (sb+nb)->Q true st':=q;show wpS M A E s (get>>=_) Q _;refine wpS_bind (wpS_get ?_);dsimp only;rw[hi,hj];try dsimp only
 refine wpS_bind (PQ ?_);refine wpS_bind (aX (by omega) ?_);refine wpS_bind (lL R (ho _ (cM (by omega))) ho (by omega) (by omega) hs (zH (by rw[<-hsb];exact s1)) fun k k1 k2 k3=>?_);have k2':∀j,sa<=j->j<sa+k->K (it arr j)<=K (it arr sb):=fun j h1 h2=>by have:=k2 (j-sa) (by omega);rw[show sa+(j-sa)=j by omega]at this;simp[bb]at this;omega
 try dsimp only
 by_cases c1:na-k=0
 . rw[if_pos (by simpa using c1)];refine wpS_pure (q _ hs hf rfl (uZ fun u v u1 u2 u3=>?_));by_cases hv:v<sb;.exact s1 u v u1 u2 hv
   . by_cases hu:u<sb;.exact Int.le_trans (k2' u u1 (by omega)) (s2 sb v (by omega) (by omega) u3)
     .exact s2 u v (by omega) u2 u3
 rw[if_neg (by simpa using c1)];rw[show sa+k+(na-k)-1=sb-1 by omega];refine wpS_bind (aX (by show sb-1<arr.size;omega) ?_);refine wpS_bind (lL R (ho _ (cM (by omega))) ho (by omega) (by omega) hs (zH s2) fun m m1' m2 m3=>?_);have m2':∀j,sb<=j->j<sb+m->K (it arr j)<K (it arr (sb-1)):=fun j h1 h2=>by have:=m2 (j-sb) (by omega);rw[show sb+(j-sb)=j by omega]at this;simpa[bb]using this
 have m3':∀j,sb+m<=j->j<sb+nb->K (it arr (sb-1))<=K (it arr j):=fun j h1 h2=>by have:=m3 (j-sb) (by omega) (by omega);rw[show sb+(j-sb)=j by omega]at this;simp[bb]at this;omega
 have UL:K (it arr sb)<=K (it arr (sa+k)):=by have:=k3 k (le_refl _) (by omega);simp[bb]at this;omega
 try dsimp only
 by_cases c2:m=0
 . rw[if_pos (by simpa using c2)];refine wpS_pure (q _ hs hf rfl (uZ fun u v u1 u2 u3=>?_));by_cases hv:v<sb;.exact s1 u v u1 u2 hv
   . by_cases hu:u<sb;.exact Int.le_trans (s1 u (sb-1) u1 (by omega) (by omega)) (m3' v (by omega) u3)
     .exact s2 u v (by omega) u2 u3
 rw[if_neg (by simpa using c2)];have hxa:(arr.extract (sa+k) sb).size=sb-(sa+k):=by simp;omega
 have hya:(arr.extract sb (sb+m)).size=m:=by simp;omega
 have ux:uH K (arr.extract (sa+k) sb):=sS (by omega) fun u v a b c=>s1 u v (by omega) b c;have uy:uH K (arr.extract sb (sb+m)):=sS (by omega) fun u v a b c=>s2 u v a b (by omega);have ox:∀x∈(arr.extract (sa+k) sb).toList,ok x:=fun x hx=>by obtain⟨j,j1,j2,rfl⟩:=jP (by omega) (by omega) hx;exact ho _ (cM (by omega))
 have oy:∀x∈(arr.extract sb (sb+m)).toList,ok x:=fun x hx=>by obtain⟨j,j1,j2,rfl⟩:=jP (by omega) (by omega) hx;exact ho _ (cM (by omega))
 have hh0:K (it (arr.extract sb (sb+m)) 0)<=K (it (arr.extract (sa+k) sb) 0):=by rw[lJ (by omega) (by omega),lJ (by omega) (by omega)];exact UL
 have hhl:∀j,j<(arr.extract sb (sb+m)).size->K (it (arr.extract sb (sb+m)) j)<=K (it (arr.extract (sa+k) sb) ((arr.extract (sa+k) sb).size-1)):=fun j hj=>by rw[hya]at hj;rw[hxa,lJ (by omega) (by omega),lJ (by omega) (by omega),show sa+k+(sb-(sa+k)-1)=sb-1 by omega];exact Int.le_of_lt (m2' _ (by omega) (by omega))
 have fin:∀(merged:Array Keyed)(st':SortSt),Fin K (arr.extract (sa+k) sb) (arr.extract sb (sb+m)) merged->qe (SortSt.mk' kd arr ((pend.setIfInBounds i (sa,na+nb,pw)).eraseIdxIfInBounds (i+1)) gm fl) st'->wpS M A E s ((modify fun s=>setArr s (foldl (fun a x=>match x with|(p,j)=>a.setIfInBounds (sa+k+j) p) (arrOf s) merged.toList.zipIdx))>>=fun _=>get>>=fun s=>pure (failedOf s).isNone) Q st':=fun merged st' f sm=>by
  refine wpS_bind (wpS_modify (wpS_bind (wpS_get (wpS_pure ?_))));have e1:arrOf st'=arr:=sm.arr;have e2:failedOf st'=none:=sm.fail.trans hf;have hlm:merged.toList.length=sb+m-(sa+k):=by rw[f.perm.length_eq];simp;omega
  show Q (failedOf st').isNone _;rw[e2];refine q _ (sm.kind.trans hs) e2 sm.pend ?_;show S5 K arr (foldl _ (arrOf st') merged.toList.zipIdx) sa (sb+nb);rw[e1];have hy:=vY merged.toList arr (sa+k) 0 (by omega);rw[Nat.add_zero,hlm,show sa+k+(sb+m-(sa+k))=sb+m by omega]at hy;have he:arr.extract (sa+k) (sb+m)=arr.extract (sa+k) sb++arr.extract sb (sb+m):=by simp[Array.extract_append_extract];congr 1<;>omega
  refine Rv (u:=sa+k) (v:=sb+m) (by omega) (by omega) (by omega) hz hy (f.perm.trans (.of_eq ?_)) (QC (by omega) (by omega) (by omega) (by omega) hz (by omega) (by omega) s1 s2 f k2' m3');rw[he,Array.toList_append]
 try dsimp only
 split;.exact wpS_bind (Qo R ox oy hs ux uy (by omega) (by omega) hh0 hhl fun merged st' f sm=>fin merged st' f sm)
 .exact wpS_bind (O9 R ox oy hs ux uy (by omega) (by omega) hh0 hhl fun merged st' f sm=>fin merged st' f sm)
end
section
variable{K:Keyed->Int}
theorem vU{xs:Array Keyed}{i:Nat}:it xs i=(xs[i]?).getD (Value.none,Value.none):=by unfold it;by_cases h:i<xs.size<;>simp[Array.getD,h]
theorem jF{xs:Array Keyed}{i j:Nat}(hj:j<=xs.size)(k:Nat):it (mirror xs i j ((j-i)/2)) k=if i<=k/\k<j then it xs (i+j-1-k)else it xs k:=by rw[vU,getElem?_mirror_all hj];split<;>rw[vU]
theorem yt{xs:Array Keyed}{u d:Nat}(hs:u<xs.size)(hd:d<=u)(k:Nat):it (bubble xs u d) k=if k=u-d then it xs u else if u-d<k/\k<=u then it xs (k-1)else it xs k:=by
 rw[vU,getElem?_bubble hs d hd];by_cases h1:k=u-d;.rw[if_pos h1,if_pos h1,vU]
 .rw[if_neg h1,if_neg h1];split<;>rw[vU]
structure n6(xs ys:Array Keyed)(lo:Nat):Prop where
 perm:ys.toList.Perm xs.toList
 pre:∀i,i<lo->it ys i=it xs i
theorem n6.refl(xs:Array Keyed)(lo:Nat):n6 xs xs lo:=⟨.refl _,fun _ _=>rfl⟩
theorem n6.trans{xs ys zs:Array Keyed}{lo:Nat}(a:n6 xs ys lo)(b:n6 ys zs lo):n6 xs zs lo:=⟨b.perm.trans a.perm,fun i h=>(b.pre i h).trans (a.pre i h)⟩
theorem n6.size{xs ys:Array Keyed}{lo:Nat}(h:n6 xs ys lo):ys.size=xs.size:=by simpa using h.perm.length_eq
theorem jd{xs:Array Keyed}{lo i j:Nat}(h:lo<=i)(hj:j<=xs.size):n6 xs (mirror xs i j ((j-i)/2)) lo:=⟨Array.perm_iff_toList_perm.mp (mirror_perm ..),fun k hk=>by rw[jF hj,if_neg (by omega)]⟩
theorem Jx{xs:Array Keyed}{lo u d:Nat}(hs:u<xs.size)(hd:d<=u)(h:lo<=u-d):n6 xs (bubble xs u d) lo:=⟨Array.perm_iff_toList_perm.mp (bubble_perm ..),fun k hk=>by rw[yt hs hd,if_neg (by omega),if_neg (by omega)]⟩
def Im(K:Keyed->Int)(xs:Array Keyed)(lo hi:Nat):Prop:=∀i j,lo<=i->i<=j->j<hi->K (it xs j)<=K (it xs i)
end
section
variable{M:Model}{A:Around}{E:Value->Shared->Prop}{s:Shared}{κ:SortKind}{ok:Keyed->Prop}{K:Keyed->Int}
structure Sx(κ:SortKind)(ok:Keyed->Prop)(st:SortSt)(xs:Array Keyed)(st':SortSt):Prop where
 kind:kindOf st'=κ
 arr:arrOf st'=xs
 pend:pendingOf st'=pendingOf st
 fail:failedOf st'=none
 ok:∀x∈xs.toList,ok x
theorem Sx.set{st st':SortSt}{xs ys:Array Keyed}{lo:Nat}(h:Sx κ ok st xs st')(c:n6 xs ys lo):Sx κ ok st ys (setArr st' ys):=⟨h.kind,rfl,h.pend,h.fail,fun x hx=>h.ok x (c.perm.mem_iff.mp hx)⟩
theorem kO(R:Rk M A E s κ ok K){st st':SortSt}{xs:Array Keyed}{i j:Nat}{Q:Option Bool->SortSt->Prop}(h:Sx κ ok st xs st')(hi:i<xs.size)(hj:j<xs.size)(q:Q (some (decide (K (it xs i)<K (it xs j)))) st'):wpS M A E s (ltAt' i j) Q st':=by rw[ltAt'_eq];refine wpS_bind (wpS_get ?_);show wpS M A E s (elem' (arrOf st') i>>=fun x=>elem' (arrOf st') j>>=fun y=>lt' x y) Q st';rw[h.arr];exact wpS_bind (aX hi (wpS_bind (aX hj (R.lt (h.ok _ (cM hi)) (h.ok _ (cM hj)) h.kind q))))
theorem oH{st st':SortSt}{xs:Array Keyed}{lo i j:Nat}{Q:Unit->SortSt->Prop}(h:Sx κ ok st xs st')(hl:lo<=i)(hj:j<=xs.size)(q:∀st2,Sx κ ok st (mirror xs i j ((j-i)/2)) st2->Q () st2):wpS M A E s (reverseSlice' i j) Q st':=by rw[reverseSlice'_eq];refine wpS_modify ?_;rw[h.arr];exact q _ (h.set (jd hl hj))
theorem xM(R:Rk M A E s κ ok K){st st':SortSt}{xs:Array Keyed}{lo a n:Nat}{Q:Option (Option Nat)×Nat->SortSt->Prop}(h:Sx κ ok st xs st')(hn:lo+n<=xs.size)(ha:1<=a)(han:a<=n)(hs:Seg K xs lo (lo+a))(q:∀m,a<=m->m<=n->Seg K xs lo (lo+m)->(m=n\/K (it xs (lo+m))<K (it xs (lo+m-1)))->Q (none,m) st'):wpS M A E s (forIn [a:n] ((none,a):Option (Option Nat)×Nat) fun _ c=>ltAt' (lo+c.2) (lo+c.2-1)>>=fun o=>match o with|some b=>if b=true then pure (.done (none,c.2))else pure (.yield (none,c.2+1))|_=>pure (.done (some none,c.2))) Q st':=by
 refine wpS_forRange (I:=fun x c st2=>st2=st'/\c=(none,x)/\Seg K xs lo (lo+x)) ?_ ?_ ⟨rfl,rfl,hs⟩
 . rintro x c st2 h1 h2⟨rfl,rfl,hs'⟩;try dsimp only
   refine wpS_bind (kO R h (by omega) (by omega) ?_);by_cases c:K (it xs (lo+x))<K (it xs (lo+x-1))
   . rw[decide_eq_true c];try dsimp only
     rw[if_pos rfl];exact wpS_pure (q x h1 (by omega) hs' (.inr c))
   . rw[decide_eq_false c];try dsimp only
     rw[if_neg (by simp)];refine wpS_pure ⟨rfl,rfl,fun i j i1 ij jx=>?_⟩;by_cases hj:j<lo+x;.exact hs' i j i1 ij hj
     . have:j=lo+x:=by omega
       subst this;by_cases e:i=lo+x;.rw[e];exact Int.le_refl _
       .have:=hs' i (lo+x-1) i1 (by omega) (by omega);omega
 .rintro c st2⟨rfl,rfl,hs'⟩;rw[show max a n=n by omega]at hs' ⊢;exact q n han (le_refl _) hs' (.inl rfl)
theorem Jr(R:Rk M A E s κ ok K){st st':SortSt}{xs:Array Keyed}{lo a n:Nat}{Q:Option (Option Nat)×Nat×Nat->SortSt->Prop}(h:Sx κ ok st xs st')(hn:lo+n<=xs.size)(ha:1<=a)(han:a<=n)(hs:Im K xs lo (lo+a))(q:∀ys st2 m e,n6 xs ys lo->Sx κ ok st ys st2->a<=m->m<=n->Im K ys lo (lo+m)->e+1<=m->(∀i,lo+m-(e+1)<=i->i<lo+m->K (it ys i)=K (it ys (lo+m-1)))->Q (none,m,e) st2):wpS M A E s (forIn [a:n] ((none,a,0):Option (Option Nat)×Nat×Nat) fun _ c=>ltAt' (lo+c.2.1) (lo+c.2.1-1)>>=fun o=>match o with
  |some b=>if b=true then(if c.2.2>0 then reverseSlice' (lo+c.2.1-(c.2.2+1)) (lo+c.2.1)>>=fun _=>pure (.yield (none,c.2.1+1,0))else pure (.yield (none,c.2.1+1,0)))else ltAt' (lo+c.2.1-1) (lo+c.2.1)>>=fun o=>match o with|some b=>if b=true then pure (.done (none,c.2.1,c.2.2))else pure (.yield (none,c.2.1+1,c.2.2+1))|_=>pure (.done (some none,c.2.1,c.2.2))
  |_=>pure (.done (some none,c.2.1,c.2.2))) Q st':=by
 refine wpS_forRange (I:=fun x c st2=>∃ys e,c=(none,x,e)/\n6 xs ys lo/\Sx κ ok st ys st2/\Im K ys lo (lo+x)/\e+1<=x/\∀i,lo+x-(e+1)<=i->i<lo+x->K (it ys i)=K (it ys (lo+x-1))) ?_ ?_ ⟨xs,0,rfl,.refl _ _,h,hs,by omega,fun i h1 h2=>by rw[show i=lo+a-1 by omega]⟩
 . rintro x c st2 h1 h2⟨ys,e,rfl,hc,hx,hd,he,hq⟩;have hsz:=hc.size;try dsimp only
   refine wpS_bind (kO R hx (by omega) (by omega) ?_);by_cases c:K (it ys (lo+x))<K (it ys (lo+x-1))
   . rw[decide_eq_true c];try dsimp only
     rw[if_pos rfl];have more:∀zs:Array Keyed,(∀i,K (it zs i)=K (it ys i))->Im K zs lo (lo+(x+1)):=fun zs hz i j i1 ij jx=>by
      rw[hz,hz];by_cases hj:j<lo+x;.exact hd i j i1 ij hj
      . have:j=lo+x:=by omega
        subst this;by_cases e:i=lo+x;.rw[e];exact Int.le_refl _
        .have:=hd i (lo+x-1) i1 (by omega) (by omega);omega
     by_cases c2:e>0
     . rw[if_pos c2];refine wpS_bind (oH (lo:=lo) hx (by omega) (by omega) fun st3 h3=>wpS_pure ⟨_,0,rfl,hc.trans (jd (by omega) (by omega)),h3,more _ fun i=>?_,by omega,fun i h1 h2=>by rw[show i=lo+(x+1)-1 by omega]⟩);rw[jF (by omega)];split;.rw[hq _ (by omega) (by omega),hq i (by omega) (by omega)]
       .rfl
     .rw[if_neg c2];exact wpS_pure ⟨ys,0,rfl,hc,hx,more ys fun _=>rfl,by omega,fun i h1 h2=>by rw[show i=lo+(x+1)-1 by omega]⟩
   . rw[decide_eq_false c];try dsimp only
     rw[if_neg (by simp)];refine wpS_bind (kO R hx (by omega) (by omega) ?_);by_cases c2:K (it ys (lo+x-1))<K (it ys (lo+x))
     . rw[decide_eq_true c2];try dsimp only
       rw[if_pos rfl];exact wpS_pure (q ys st2 x e hc hx h1 (by omega) hd he hq)
     . rw[decide_eq_false c2];try dsimp only
       rw[if_neg (by simp)];have eqx:K (it ys (lo+x))=K (it ys (lo+x-1)):=by omega
       refine wpS_pure ⟨ys,e+1,rfl,hc,hx,fun i j i1 ij jx=>?_,by omega,fun i i1 i2=>?_⟩
       . by_cases hj:j<lo+x;.exact hd i j i1 ij hj
         . have:j=lo+x:=by omega
           subst this;by_cases e:i=lo+x;.rw[e];exact Int.le_refl _
           .rw[eqx];exact hd i (lo+x-1) i1 (by omega) (by omega)
       . rw[show lo+(x+1)-1=lo+x by omega];by_cases e':i=lo+x;.rw[e']
         .rw[eqx];exact hq i (by omega) (by omega)
 .rintro c st2⟨ys,e,rfl,hc,hx,hd,he,hq⟩;rw[show max a n=n by omega]at*;exact q ys st2 n e hc hx han (le_refl _) hd he hq
end
section
variable{M:Model}{A:Around}{E:Value->Shared->Prop}{s:Shared}{κ:SortKind}{ok:Keyed->Prop}{K:Keyed->Int}
theorem Fv{xs:Array Keyed}{lo n:Nat}(hn:lo+n<=xs.size)(h:Im K xs lo (lo+n)):Seg K (mirror xs lo (lo+n) ((lo+n-lo)/2)) lo (lo+n):=fun i j i1 ij jn=>by rw[jF hn,jF hn,if_pos (by omega),if_pos (by omega)];exact h _ _ (by omega) (by omega) (by omega)
theorem El(R:Rk M A E s κ ok K){st st':SortSt}{xs:Array Keyed}{lo n:Nat}{Q:Option Nat->SortSt->Prop}(h:Sx κ ok st xs st')(hn:lo+n<=xs.size)(h1:1<=n)(q:∀ys st2 m,n6 xs ys lo->Sx κ ok st ys st2->1<=m->m<=n->Seg K ys lo (lo+m)->Q (some m) st2):wpS M A E s (countRun' lo n) Q st':=by
 have one:∀ys:Array Keyed,Seg K ys lo (lo+1):=fun ys i j i1 ij jn=>by rw[show i=j by omega];exact Int.le_refl _
 show wpS M A E s (_>>=_) Q st';refine wpS_bind (xM (a:=1) (n:=n) R h hn (le_refl 1) h1 (one xs) fun m m1 m2 sm hor=>?_);dsimp only;by_cases c1:m=n;.rw[if_pos (by simpa using c1)];exact wpS_pure (q xs st' m (.refl _ _) h m1 m2 sm)
 rw[if_neg (by simpa using c1)];have hlt:=hor.resolve_left c1;by_cases c2:m>1;rw[if_pos c2];refine wpS_bind (kO R h (by omega) (by omega) ?_);by_cases c3:K (it xs lo)<K (it xs (lo+m-1))
 . rw[decide_eq_true c3];try dsimp only
   rw[if_pos rfl];exact wpS_pure (q xs st' m (.refl _ _) h m1 m2 sm)
 rw[decide_eq_false c3];try dsimp only
 rw[if_neg (by simp)];have hall:∀k,lo<=k->k<lo+m->K (it xs k)=K (it xs (lo+m-1)):=fun k k1 k2=>by have a1:=sm lo k (le_refl _) k1 k2;have a2:=sm k (lo+m-1) k1 (by omega) (by omega);omega
 refine wpS_bind (oH (lo:=lo) h (le_refl _) (by omega) fun st2 h2=>?_);have hc:n6 xs (mirror xs lo (lo+m) ((lo+m-lo)/2)) lo:=jd (le_refl _) (by omega);have hd:Im K (mirror xs lo (lo+m) ((lo+m-lo)/2)) lo (lo+(m+1)):=fun i j i1 ij jn=>by
  have e:∀k,lo<=k->k<lo+m->K (it (mirror xs lo (lo+m) ((lo+m-lo)/2)) k)=K (it xs (lo+m-1)):=fun k k1 k2=>by rw[jF (by omega),if_pos (by omega)];exact hall _ (by omega) (by omega)
  by_cases hj:j<lo+m;.rw[e i i1 (by omega),e j (by omega) hj];exact Int.le_refl _
  . have:j=lo+m:=by omega
    subst this;by_cases e':i=lo+m;.rw[e'];exact Int.le_refl _
    .rw[e i i1 (by omega),jF (by omega),if_neg (by omega)];omega
 generalize mirror xs lo (lo+m) ((lo+m-lo)/2)=ys at h2 hc hd;rotate_left;rw[if_neg c2];have hd0:Im K xs lo (lo+(m+1)):=fun i j i1 ij jn=>by
  by_cases e:i=j;.rw[e];exact Int.le_refl _
  . have e1:i=lo:=by omega
    have e2:j=lo+m:=by omega
    rw[e1,e2];rw[show lo+m-1=lo by omega]at hlt;omega
 obtain⟨ys,hc,h2,hd⟩:∃ys,n6 xs ys lo/\Sx κ ok st ys st'/\Im K ys lo (lo+(m+1)):=⟨xs,.refl _ _,h,hd0⟩;all_goals
  have hsz:=hc.size;refine wpS_bind (wp_rule ?_);refine wpS_bind (Jr (a:=m+1) R h2 (by omega) (by omega) (by omega) hd fun zs st3 p e hcz UW p1 p2 hdz he hq=>?_);have hsz2:=hcz.size;dsimp only;by_cases ce:e>0
  . rw[if_pos ce];refine wpS_bind (oH (lo:=lo) UW (by omega) (by omega) fun Ie h4=>?_);have hc4:n6 xs (mirror zs (lo+p-(e+1)) (lo+p) ((lo+p-(lo+p-(e+1)))/2)) lo:=hc.trans (hcz.trans (jd (by omega) (by omega)));have hd4:Im K (mirror zs (lo+p-(e+1)) (lo+p) ((lo+p-(lo+p-(e+1)))/2)) lo (lo+p):=fun i j i1 ij jn=>by
     have ez:∀k,K (it (mirror zs (lo+p-(e+1)) (lo+p) ((lo+p-(lo+p-(e+1)))/2)) k)=K (it zs k):=fun k=>by
      rw[jF (by omega)];split;.rw[hq _ (by omega) (by omega),hq k (by omega) (by omega)]
      .rfl
     rw[ez,ez];exact hdz i j i1 ij jn
    generalize mirror zs (lo+p-(e+1)) (lo+p) ((lo+p-(lo+p-(e+1)))/2)=us at h4 hc4 hd4;have hs4:=hc4.size;have hc5:n6 us (mirror us lo (lo+p) ((lo+p-lo)/2)) lo:=jd (le_refl _) (by omega);refine wpS_bind (oH (lo:=lo) h4 (le_refl _) (by omega) fun Lb h5=>?_);refine wpS_bind (xM R h5 (by rw[hc5.size];omega) (by omega) p2 (Fv (by omega) hd4) fun u u1 u2 su _=>?_);exact wpS_pure (q _ Lb u (hc4.trans hc5) h5 (by omega) u2 su)
  .rw[if_neg ce];have hs4:=(hc.trans hcz).size;have hc5:n6 zs (mirror zs lo (lo+p) ((lo+p-lo)/2)) lo:=jd (le_refl _) (by omega);refine wpS_bind (oH (lo:=lo) UW (le_refl _) (by omega) fun Lb h5=>?_);refine wpS_bind (xM R h5 (by rw[hc5.size];omega) (by omega) p2 (Fv (by omega) hdz) fun u u1 u2 su _=>?_);exact wpS_pure (q _ Lb u ((hc.trans hcz).trans hc5) h5 (by omega) u2 su)
theorem NK(R:Rk M A E s κ ok K){st st':SortSt}{xs:Array Keyed}{lo n o:Nat}{Q:Bool->SortSt->Prop}(h:Sx κ ok st xs st')(hn:lo+n<=xs.size)(ho:o<=n)(hs:Seg K xs lo (lo+o))(q:∀ys st2,n6 xs ys lo->Sx κ ok st ys st2->Seg K ys lo (lo+n)->Q true st2):wpS M A E s (binarySort' lo n o) Q st':=by
 show wpS M A E s (_>>=_) Q st';refine wpS_bind (wpS_mono (wpS_forRange (I:=fun k c st2=>∃ys,c=(none,())/\n6 xs ys lo/\Sx κ ok st ys st2/\Seg K ys lo (lo+min k n)) (Q:=fun c st2=>∃ys,c=(none,())/\n6 xs ys lo/\Sx κ ok st ys st2/\Seg K ys lo (lo+n)) ?_ ?_ ?_) ?_)
 . rintro k c st2 k1 k2⟨ys,rfl,hc,hx,sg⟩;rw[show min k n=k by omega]at sg;have hsz:=hc.size;refine wpS_bind (wpS_mono (wpS_forRange (I:=fun x c st3=>st3=st2/\∃l r,c=(none,l,r)/\l<=r/\r<=k/\r-l<=k-x/\(∀i,lo<=i->i<lo+l->K (it ys i)<=K (it ys (lo+k)))/\∀i,lo+r<=i->i<lo+k->K (it ys (lo+k))<K (it ys i)) (Q:=fun c st3=>st3=st2/\∃l r,c=(none,l,r)/\l<=k/\(∀i,lo<=i->i<lo+l->K (it ys i)<=K (it ys (lo+k)))/\∀i,lo+l<=i->i<lo+k->K (it ys (lo+k))<K (it ys i)) ?_ ?_ ⟨rfl,0,k,rfl,by omega,by omega,by omega,fun i a b=>by omega,fun i a b=>by omega⟩) ?_)
   . rintro x c st3 _ xk⟨rfl,l,r,rfl,a1,a2,a3,a4,a5⟩;dsimp only;by_cases e:l ≥ r
     . rw[if_pos e];have:l=r:=by omega
       subst this;exact wpS_pure ⟨rfl,l,l,rfl,a2,a4,a5⟩
     . rw[if_neg e];refine wpS_bind (kO R hx (by omega) (by omega) ?_);by_cases c:K (it ys (lo+k))<K (it ys (lo+(l+r)/2));.rw[decide_eq_true c];dsimp only;rw[if_pos rfl];exact wpS_pure ⟨rfl,_,_,rfl,by omega,by omega,by omega,a4,fun i i1 i2=>Int.lt_of_lt_of_le c (sg _ _ (by omega) i1 i2)⟩
       .rw[decide_eq_false c];dsimp only;rw[if_neg (by simp)];exact wpS_pure ⟨rfl,_,_,rfl,by omega,a2,by omega,fun i i1 i2=>Int.le_trans (sg i (lo+(l+r)/2) i1 (by omega) (by omega)) (Int.not_lt.mp c),a5⟩
   . rintro c st3⟨rfl,l,r,rfl,a1,a2,a3,a4,a5⟩;have:l=r:=by omega
     subst this;exact⟨rfl,l,l,rfl,a2,a4,a5⟩
   . rintro c st3⟨rfl,l,r,rfl,a2,a4,a5⟩;show wpS M A E s (moveDown' (lo+k) (lo+l)>>=fun _=>pure (ForInStep.yield (none,()))) _ _;rw[moveDown'_eq];refine wpS_bind (wpS_modify (wpS_pure ?_));rw[hx.arr];have hb:n6 ys (bubble ys (lo+k) (lo+k-(lo+l))) lo:=Jx (by omega) (by omega) (by omega);refine⟨_,rfl,hc.trans hb,hx.set hb,fun i j i1 ij jn=>?_⟩;rw[show min (k+1) n=k+1 by omega]at jn;rw[yt (by omega) (by omega),yt (by omega) (by omega),show lo+k-(lo+k-(lo+l))=lo+l by omega];repeat' split
     all_goals first|(exfalso;omega)|exact Int.le_refl _|exact a4 _ (by omega) (by omega)|exact Int.le_of_lt (a5 _ (by omega) (by omega))|exact sg _ _ (by omega) (by omega) (by omega)
 .rintro c st2⟨ys,hc0,hc,hx,sg⟩;rw[show min (max (max o 1) n) n=n by omega]at sg;exact⟨ys,hc0,hc,hx,sg⟩
 . refine⟨xs,rfl,.refl _ _,h,fun i j i1 ij jn=>?_⟩;by_cases e:i=j;.rw[e];exact Int.le_refl _
   .exact hs i j i1 ij (by omega)
 .rintro c st2⟨ys,rfl,hc,hx,sg⟩;exact wpS_pure (q ys st2 hc hx sg)
end
noncomputable abbrev Rn:=Nat×Nat×Nat
section
variable{K:Keyed->Int}{xs ys:Array Keyed}
def Bm(K:Keyed->Int)(xs:Array Keyed):Nat->List Rn->Nat->Prop|a,[],b=>a=b|a,r::l,b=>r.1=a/\1<=r.2.1/\Seg K xs a (a+r.2.1)/\Bm K xs (a+r.2.1) l b
theorem fc:∀{l k:List Rn}{a b:Nat},Bm K xs a (l++k) b↔∃m,Bm K xs a l m/\Bm K xs m k b
 |[],k,a,b=>⟨fun h=>⟨a,rfl,h⟩,fun⟨m,h1,h2⟩=>by cases(show a=m from h1);exact h2⟩|r::l,k,a,b=>by
   rw[cons_append];constructor;.rintro⟨h1,h2,h3,h4⟩;obtain⟨m,h5,h6⟩:=fc.mp h4;exact⟨m,⟨h1,h2,h3,h5⟩,h6⟩
   .rintro⟨m,⟨h1,h2,h3,h4⟩,h5⟩;exact⟨h1,h2,h3,fc.mpr ⟨m,h4,h5⟩⟩
theorem pR:∀{l:List Rn}{a b:Nat},Bm K xs a l b->a+l.length<=b|[],a,b,h=>by cases(show a=b from h);simp|r::l,a,b,⟨_,h2,_,h4⟩=>by have:=pR h4;simp only[length_cons];omega
theorem vV{lo hi:Nat}(h:∀i,lo<=i->i<hi->it ys i=it xs i)(s:Seg K xs lo hi):Seg K ys lo hi:=fun i j i1 ij jn=>by rw[h i i1 (by omega),h j (by omega) jn];exact s i j i1 ij jn
theorem kI:∀{l:List Rn}{a b:Nat},(∀i,a<=i->i<b->it ys i=it xs i)->Bm K xs a l b->Bm K ys a l b|[],_,_,_,h=>h|r::l,a,b,e,⟨h1,h2,h3,h4⟩=>by have:=pR h4;exact⟨h1,h2,vV (fun i i1 i2=>e i i1 (by omega)) h3,kI (fun i i1 i2=>e i (by omega) i2) h4⟩
theorem Jh{r r':Rn}{a b:Nat}(h1:r'.1=r.1)(h2:r'.2.1=r.2.1){l:List Rn}(h:Bm K xs a (l++[r]) b):Bm K xs a (l++[r']) b:=by obtain⟨m,g1,g2,g3,g4,g5⟩:=fc.mp h;exact fc.mpr ⟨m,g1,h1.trans g2,by omega,by rw[h2];exact g4,by rw[h2];exact g5⟩
theorem Iu{lo:Nat}(h:ys.toList.take lo=xs.toList.take lo)(i:Nat)(hi:i<lo):it ys i=it xs i:=by rw[gD,gD,getD_eq_getElem?_getD,getD_eq_getElem?_getD];have e:=congrArg (fun l=>l[i]?) h;simp only[getElem?_take,hi,if_true]at e;rw[e]
theorem zU{hi:Nat}(h:ys.toList.drop hi=xs.toList.drop hi)(i:Nat)(h1:hi<=i):it ys i=it xs i:=by rw[gD,gD,getD_eq_getElem?_getD,getD_eq_getElem?_getD];have e:=congrArg (fun l=>l[i-hi]?) h;simp only[List.getElem?_drop,show hi+(i-hi)=i by omega]at e;rw[e]
theorem Js{l1 l2:List Rn}{a b:Nat}{r1 r2:Rn}{p:Nat}(h:Bm K xs a (l1++r1::r2::l2) b)(g:S5 K xs ys r1.1 (r2.1+r2.2.1)):Bm K ys a (l1++(r1.1,r1.2.1+r2.2.1,p)::l2) b:=by
 obtain⟨m,g1,g2,g3,g4,g5,g6,g7,g8⟩:=fc.mp h;subst g2;have e:=pR g8;refine fc.mpr ⟨r1.1,kI (fun i i1 i2=>Iu g.pre i i2) g1,rfl,by show 1<=r1.2.1+r2.2.1;omega,?_,?_⟩;.show Seg K ys r1.1 (r1.1+(r1.2.1+r2.2.1));have:=g.seg;rw[g5]at this;rwa[<-Nat.add_assoc]
 .show Bm K ys (r1.1+(r1.2.1+r2.2.1)) l2 b;rw[<-Nat.add_assoc];exact kI (fun i i1 i2=>zU g.post i (by rw[g5];exact i1)) g8
theorem Ef{l:List Rn}{i:Nat}(h:i+1<l.length):∃l1 r1 r2 l2,l=l1++r1::r2::l2/\l1.length=i:=by refine⟨l.take i,l[i],l[i+1],l.drop (i+2),?_,by simp;omega⟩;rw[<-drop_eq_getElem_cons (by omega),<-drop_eq_getElem_cons (by omega),take_append_drop]
theorem o7:∀{l:List Rn},l≠[]->∃k r,l=k++[r]|[],h=>absurd rfl h|[r],_=>⟨[],r,rfl⟩|r::x::l,_=>by obtain⟨k,q,e⟩:=o7 (l:=x::l) (by simp);exact⟨r::k,q,by rw[e];rfl⟩
theorem Ab(x r1 r2:Rn)(l2:List Rn):∀l1:List Rn,((l1++r1::r2::l2).set l1.length x).eraseIdx (l1.length+1)=l1++x::l2|[]=>rfl|r::l1=>by show r::((l1++r1::r2::l2).set l1.length x).eraseIdx (l1.length+1)=r::(l1++x::l2);rw[Ab x r1 r2 l2 l1]
end
section
variable{M:Model}{A:Around}{E:Value->Shared->Prop}{s:Shared}{κ:SortKind}{ok:Keyed->Prop}{K:Keyed->Int}
structure SR(κ:SortKind)(ok:Keyed->Prop)(K:Keyed->Int)(x0 ys:Array Keyed)(l:List Rn)(lo:Nat)(st:SortSt):Prop where
 kind:kindOf st=κ
 arr:arrOf st=ys
 fail:failedOf st=none
 pend:(pendingOf st).toList=l
 perm:ys.toList.Perm x0.toList
 ok:∀x∈ys.toList,ok x
 U0:Bm K ys 0 l lo
 le:lo<=ys.size
theorem SR.sx{x0 ys:Array Keyed}{l:List Rn}{lo:Nat}{st:SortSt}(h:SR κ ok K x0 ys l lo st):Sx κ ok st ys st:=⟨h.kind,h.arr,rfl,h.fail,h.ok⟩
theorem zE(R:Rk M A E s κ ok K){x0 ys:Array Keyed}{l:List Rn}{lo i:Nat}{st:SortSt}{Q:Bool->SortSt->Prop}(h:SR κ ok K x0 ys l lo st)(hi:i+1<l.length)(q:∀zs k st2,SR κ ok K x0 zs k lo st2->k.length+1=l.length->(∀j,lo<=j->it zs j=it ys j)->Q true st2):wpS M A E s (mergeAt' i) Q st:=by
 obtain⟨l1,r1,r2,l2,e,hl⟩:=Ef hi;have hr:=h.U0;rw[e]at hr;obtain⟨m,g1,g2,g3,g4,g5,g6,g7,g8⟩:=fc.mp hr;have hle:=pR g8;have hz:=h.le;have hp:=h.pend;have ei:(pendingOf st)[i]?=some (r1.1,r1.2.1,r1.2.2):=by rw[<-getElem?_toList,hp,e,<-hl];simp
 have ej:(pendingOf st)[i+1]?=some (r2.1,r2.2.1,r2.2.2):=by rw[<-getElem?_toList,hp,e,<-hl];simp
 refine O1 R h.kind (by rw[h.arr];exact h.ok) h.fail ei ej (by omega) g3 g6 (by rw[h.arr];omega) (by rw[h.arr,g2,g5];exact g4) (by rw[h.arr,g5];exact g7) fun st2 a1 a2 a3 a4=>?_;rw[h.arr]at a4;have hr2:=Js (p:=r1.2.2) hr a4;refine q (arrOf st2) (l1++(r1.1,r1.2.1+r2.2.1,r1.2.2)::l2) st2 ⟨a1,rfl,a2,?_,a4.perm.trans h.perm,fun x hx=>h.ok x (a4.perm.mem_iff.mp hx),hr2,?_⟩ (by rw[e];simp only[length_append,length_cons];omega) fun j hj=>zU a4.post j (by omega);.rw[a3];rw[Array.toList_eraseIdxIfInBounds,Array.toList_setIfInBounds,hp,e,<-hl];exact Ab _ _ _ _ _
 .have:=a4.perm.length_eq;simp only[length_toList]at this;omega
end
section
variable{M:Model}{A:Around}{E:Value->Shared->Prop}{s:Shared}{κ:SortKind}{ok:Keyed->Prop}{K:Keyed->Int}
theorem SR.move{x0 ys zs:Array Keyed}{l:List Rn}{lo:Nat}{st st2:SortSt}(h:SR κ ok K x0 ys l lo st)(c:n6 ys zs lo)(x:Sx κ ok st zs st2):SR κ ok K x0 zs l lo st2:=⟨x.kind,x.arr,x.fail,by rw[x.pend];exact h.pend,c.perm.trans h.perm,x.ok,kI (fun i _ i2=>c.pre i i2) h.U0,by rw[c.size];exact h.le⟩
theorem uX{r:Rn}{f:Rn->Rn}:∀k:List Rn,(k++[r]).modify (k.length+1-1) f=k++[f r]|[]=>rfl|x::k=>by show x::(k++[r]).modify k.length f=x::(k++[f r]);rw[<-uX k];rfl
theorem pX{p:Array Rn}{k:List Rn}{r:Rn}{f:Rn->Rn}(h:p.toList=k++[r]):(p.modify (p.size-1) f).toList=k++[f r]:=by
 have hz:p.size=k.length+1:=by rw[<-length_toList,h];simp
 rw[Array.toList_modify,h,hz];exact uX k
theorem SR.push{x0 ys:Array Keyed}{l:List Rn}{lo n:Nat}{st:SortSt}(h:SR κ ok K x0 ys l lo st)(h1:1<=n)(h2:lo+n<=ys.size)(hs:Seg K ys lo (lo+n)):SR κ ok K x0 ys (l++[(lo,n,0)]) (lo+n) (setPending st ((pendingOf st).push (lo,n,0))):=⟨h.kind,h.arr,h.fail,by show((pendingOf st).push (lo,n,0)).toList=_;rw[toList_push,h.pend],h.perm,h.ok,fc.mpr ⟨lo,h.U0,rfl,h1,hs,rfl⟩,h2⟩
theorem SR.pow{x0 ys:Array Keyed}{l:List Rn}{lo pw:Nat}{st:SortSt}(h:SR κ ok K x0 ys l lo st)(hl:l≠[]):∃k,k≠[]/\SR κ ok K x0 ys k lo (setPending st ((pendingOf st).modify ((pendingOf st).size-1) fun(a,b,_)=>(a,b,pw))):=by obtain⟨k,r,e⟩:=o7 hl;have hr:=h.U0;have hp:=h.pend;rw[e]at hr hp;exact⟨k++[(r.1,r.2.1,pw)],by simp,h.kind,h.arr,h.fail,pX hp,h.perm,h.ok,Jh (r:=r) (r':=(r.1,r.2.1,pw)) rfl rfl hr,h.le⟩
theorem Ou{p:Prop}[Decidable p]{a n:Nat}(h:a+1<n):(if p then a-1 else a)+1<n:=by split<;>omega
theorem Iv(R:Rk M A E s κ ok K){x0:Array Keyed}{Q:Unit->SortSt->Prop}{st:SortSt}(h:SR κ ok K x0 x0 [] 0 st)(q:∀ys st',arrOf st'=ys->failedOf st'=none->ys.toList.Perm x0.toList->Seg K ys 0 ys.size->Q () st'):wpS M A E s sortRuns' Q st:=by
 rw[sortRuns'_eq];refine wpS_bind (wpS_get ?_);dsimp only;simp only[h.arr];have big:∀{ys l lo st},SR κ ok K x0 ys l lo st->ys.size=x0.size:=fun h=>by simpa using h.perm.length_eq
 generalize minRun' x0.size x0.size 0=mr;refine wpS_bind (wpS_mono (wpS_forRange (I:=fun x c st'=>∃ys l lo,c=(none,lo)/\SR κ ok K x0 ys l lo st'/\x<=lo) (Q:=fun c st'=>∃ys l,c=(none,x0.size)/\SR κ ok K x0 ys l x0.size st') ?_ ?_ ⟨x0,[],0,rfl,h,le_refl _⟩) ?_)
 . rintro x c st1 _ hx⟨ys,l,lo,rfl,hS,hlo⟩;have hz:=big hS;have hle:=hS.le;dsimp only;by_cases c1:lo ≥ x0.size
   . rw[if_pos c1];have:lo=x0.size:=by omega
     subst this;exact wpS_pure ⟨ys,l,rfl,hS⟩
   rw[if_neg c1];refine wpS_bind (El R hS.sx (lo:=lo) (n:=x0.size-lo) (by omega) (by omega) fun ys1 st2 m ch hx1 m1 m2 sg=>?_);have hS1:=hS.move ch hx1;have hz1:=big hS1;dsimp only;by_cases c2:m<mr;case' pos=>
    rw[if_pos c2];refine wpS_bind (wpS_lift (wpAny_rule ⟨rfl,?_⟩));refine wpS_bind (NK R hx1 (lo:=lo) (n:=min (x0.size-lo) mr) (by omega) (by omega) sg fun Nh st3 ch2 hx2 sg2=>?_);simp only[Bool.not_true,false_eq_true,if_false];replace hS1:=hS.move (ch.trans ch2) hx2;replace hz1:=big hS1;replace m1:1<=min (x0.size-lo) mr:=by omega
    replace m2:min (x0.size-lo) mr<=x0.size-lo:=by omega
    generalize min (x0.size-lo) mr=n at*
   case' neg=>rw[if_neg c2];clear ch;obtain⟨Nh,hys⟩:∃Nh,Nh=ys1:=⟨_,rfl⟩;obtain⟨st3,hst⟩:∃st3,st3=st2:=⟨_,rfl⟩;obtain⟨n,hn⟩:∃n,n=m:=⟨_,rfl⟩;subst hys hst hn;have sg2:=sg
   all_goals refine wpS_bind (wpS_get ?_);cases hb:(pendingOf st3).back? with|none=>dsimp only;exact wpS_bind (wpS_modify (wpS_pure ⟨Nh,_,lo+n,rfl,hS1.push m1 (by omega) sg2,by omega⟩))|some r=>
      obtain⟨s1,n1,p1⟩:=r;dsimp only;have hne:l≠[]:=by rintro rfl;have:pendingOf st3=#[]:=Array.toList_inj.mp hS1.pend;rw[this]at hb;exact nomatch hb
      generalize power' x0.size (2*s1+n1) (2*s1+n1+n1+n) x0.size=pw;refine wpS_bind (wpS_mono (wpS_forRange (I:=fun _ c st'=>∃ys k,c=(none,())/\k≠[]/\SR κ ok K x0 ys k lo st'/\∀j,lo<=j->it ys j=it Nh j) (Q:=fun c st'=>∃ys k,c=(none,())/\k≠[]/\SR κ ok K x0 ys k lo st'/\∀j,lo<=j->it ys j=it Nh j) ?_ (fun _ _ h=>h) ⟨Nh,l,rfl,hne,hS1,fun _ _=>rfl⟩) ?_)
      . rintro y c Ie _ _⟨ys3,k,rfl,hk,U3,sm⟩;refine wpS_bind (wpS_get ?_);try dsimp only
        have stop:∃ys k,((none,()):Option Unit×Unit)=(none,())/\k≠[]/\SR κ ok K x0 ys k lo Ie/\∀j,lo<=j->it ys j=it Nh j:=⟨ys3,k,rfl,hk,U3,sm⟩;split
        . rename_i older ho;split;.exact wpS_pure stop
          . have hp1:(pendingOf Ie).size>1:=by
             by_cases hh:(pendingOf Ie).size>1;.exact hh
             .rw[if_neg hh]at ho;exact nomatch ho
            have hkl:k.length=(pendingOf Ie).size:=by rw[<-U3.pend];simp
            refine wpS_bind (zE R U3 (by omega) fun zs k2 Lb hS5 hk2 U4=>?_);simp only[Bool.not_true,false_eq_true,if_false];exact wpS_pure ⟨zs,k2,rfl,by rintro rfl;simp at hk2;omega,hS5,fun j hj=>(U4 j hj).trans (sm j hj)⟩
        .exact wpS_pure stop
      .rintro c Ie⟨ys3,k,rfl,hk,U3,sm⟩;dsimp only;obtain⟨k2,_,hS4⟩:=U3.pow (pw:=pw) hk;refine wpS_bind (wpS_modify ?_);have hz3:=big U3;exact wpS_bind (wpS_modify (wpS_pure ⟨ys3,_,lo+n,rfl,hS4.push m1 (by omega) (vV (fun i i1 _=>sm i i1) sg2),by omega⟩))
 . rintro c st1⟨ys,l,lo,rfl,hS,hlo⟩;have:=hS.le;have:=big hS;have:lo=x0.size:=by omega
   subst this;exact⟨ys,l,rfl,hS⟩
 . rintro c st1⟨ys,l,rfl,hS⟩;dsimp only;have hl:=pR hS.U0;refine wpS_bind (wpS_mono (wpS_forRange (I:=fun x c st'=>∃ys l,c=(none,())/\SR κ ok K x0 ys l x0.size st'/\l.length<=max 1 (x0.size-x)) (Q:=fun c st'=>∃ys l,c=(none,())/\SR κ ok K x0 ys l x0.size st'/\l.length<=1) ?_ ?_ ⟨ys,l,rfl,hS,by omega⟩) ?_)
   . rintro x c st2 _ hx⟨zs,k,rfl,hZ,hk⟩;refine wpS_bind (wpS_get ?_);try dsimp only
     have hkl:k.length=(pendingOf st2).size:=by rw[<-hZ.pend];simp
     by_cases c1:(pendingOf st2).size<=1;.rw[if_pos c1];exact wpS_pure ⟨zs,k,rfl,hZ,by omega⟩
     rw[if_neg c1];refine wpS_bind (zE R hZ (Ou (by omega)) fun zs2 k2 Lb hS5 hk2 _=>?_);simp only[Bool.not_true,false_eq_true,if_false];exact wpS_pure ⟨zs2,k2,rfl,hS5,by omega⟩
   .rintro c st2⟨zs,k,rfl,hZ,hk⟩;exact⟨zs,k,rfl,hZ,by omega⟩
   .rintro c st2⟨zs,k,rfl,hZ,hk⟩;dsimp only;have hz:=big hZ;refine wpS_pure (q zs st2 hZ.arr hZ.fail hZ.perm ?_);match k,hk,hZ.U0 with|[],_,e=>have e:0=x0.size:=e;intro i j _ _ _;omega|[r],_,⟨_,_,g,e⟩=>have e:0+r.2.1=x0.size:=e;rw[e]at g;rwa[hz]
end
end HH
end
section
namespace HH
open PySem PySem.W PyProof.Rows PySem.Calls L2 PySem.Spec
theorem Ck{α β:Type}{f:α->β}{l' m:List β}(h:l'.Perm m):∀{l:List α},m=l.map f->∃k:List α,k.Perm l/\k.map f=l':=by induction h with
 |nil=>intro l e;cases l with|nil=>exact⟨[],.refl _,rfl⟩|cons _ _=>cases e
 |cons x h ih=>intro l e;cases l with|nil=>cases e|cons a l=>obtain⟨e1,e2⟩:=List.cons.inj e;obtain⟨k,h1,h2⟩:=ih e2;exact⟨a::k,h1.cons a,by rw[map_cons,h2,e1]⟩
 |swap x y l0=>intro l e;match l,e with|a::b::l,e=>obtain⟨e1,e2⟩:=List.cons.inj e;obtain⟨e3,e4⟩:=List.cons.inj e2;exact⟨b::a::l,.swap ..,by rw[map_cons,map_cons,e1,e3,e4]⟩
 |trans h1 h2 ih1 ih2=>intro l e;obtain⟨k,p1,e1⟩:=ih2 e;obtain⟨k2,p2,e2⟩:=ih1 e1.symm;exact⟨k2,p2.trans p1,e2⟩
theorem JX(a:List Int):aV a a=false:=by cases h:aV a a with|false=>rfl|true=>rw[kj _ _ h]at h;cases h
theorem Gs{a b x:List Int}(h:aV b a=false)(hx:aV x a=true):aV x b=true:=by cases e:aV x b with|true=>rfl|false=>rw[yf _ _ _ h e]at hx;cases hx
theorem qD{α:Type}{p q:α->Bool}(h:∀x,p x=true->q x=true):∀{l:List α},(∃x,x∈l/\q x=true/\p x=false)->l.countP p<l.countP q
 |[],⟨x,hx,_⟩=>by cases hx|y::l,⟨x,hx,h1,h2⟩=>by
   rw[List.countP_cons,List.countP_cons];have m:=List.countP_mono_left (l:=l) (p:=p) (q:=q) fun x _=>h x;rcases mem_cons.mp hx with rfl|hx;.rw[h1,h2,if_pos rfl,if_neg (by simp)];omega
   .have:=qD h ⟨x,hx,h1,h2⟩;cases hp:p y with|true=>rw[h y hp];omega|false=>rw[if_neg (by simp)];omega
noncomputable def Ox(ds:List D)(d:D):Nat:=ds.countP fun e=>aV (bO e) (bO d)
theorem Ge{ds:List D}{d e:D}(hd:d∈ds):decide ((Ox ds d:Int)<Ox ds e)=aV (bO d) (bO e):=by cases h:aV (bO d) (bO e)with|true=>have:=qD (l:=ds) (p:=fun x=>aV (bO x) (bO d)) (q:=fun x=>aV (bO x) (bO e)) (fun x hx=>Gs (kj _ _ h) hx) ⟨d,hd,h,JX _⟩;rw[decide_eq_true_iff];unfold Ox;omega|false=>have:=List.countP_mono_left (l:=ds) (p:=fun x=>aV (bO x) (bO e)) (q:=fun x=>aV (bO x) (bO d)) fun x _ hx=>Gs h hx;rw[decide_eq_false_iff_not];unfold Ox;omega
open Classical in
noncomputable def rkK(P:Value->D->Prop)(ds:List D)(x:Keyed):Int:=if h:∃d,d∈ds/\P x.1 d then(Ox ds h.choose:Int)else 0
theorem zM{P:Value->D->Prop}{ds:List D}{x:Keyed}{d:D}(fn:∀u d e,P u d->P u e->bO d=bO e)(hd:d∈ds)(hp:P x.1 d):rkK P ds x=Ox ds d:=by have h:∃d,d∈ds/\P x.1 d:=⟨d,hd,hp⟩;unfold rkK;rw[dif_pos h];unfold Ox;rw[fn _ _ _ h.choose_spec.2 hp]
noncomputable def pick{α:Type}(d:α)(p:List Nat)(l:List α):List α:=p.map fun i=>l.getD i d
theorem o8{α:Type}(d:α)(l:List α):pick d (List.range l.length) l=l:=by refine ext_getElem (by simp[pick]) fun i h1 h2=>?_;simp[pick,h2]
theorem oK{α:Type}{d:α}{p:List Nat}{l:List α}{n:Nat}(h:p.Perm (List.range n)):(pick d p l).length=n:=by rw[pick,length_map,h.length_eq,length_range]
theorem jl{P:Value->D->Prop}:∀{us:List Value}{ds:List D},Paired P us ds->∀i,i<us.length->P (us.getD i .none) (ds.getD i .non)/\ds.getD i .non∈ds|_,_,.cons r _,0,_=>⟨by simpa using r,by simp⟩|_,_,.cons _ t,i+1,hi=>by have:=jl t i (by simpa using hi);exact⟨by simpa using this.1,by simpa using Or.inr this.2⟩
section
variable{prog:Program}{w:World}{A:Around}{E:Value->Shared->Prop}{s:Shared}{vs:List Value}{κ:SortKind}{P:Value->D->Prop}{ds:List D}
theorem Bx{a:Addr}{n:Nat}{O:PySem.Fin->Shared->Prop}(ho:s.heap.get? a=some (seqObj "list" vs.toArray n))(so:sortable ds=true)(hz:vs.length<=16777216)(pr:Paired P vs ds)(fn:∀u d e,P u d->P u e->bO d=bO e)(hk:∀h',(∀b o,b≠a->s.heap.get? b=some o->h'.get? b=some o)->∀C:SortKind->Shared->Prop,C κ {s with heap:=h'}->2<=vs.length->wpAny (model prog w) A (keyKind' vs.toArray) C (fun _ _=>False) {s with heap:=h'})(hl:∀h',(∀b o,b≠a->s.heap.get? b=some o->h'.get? b=some o)->∀u v d e,P u d->P v e->∀C:Bool->Shared->Prop,C (aV (bO d) (bO e)) {s with heap:=h'}->wpAny (model prog w) A (keyLt' κ u v) C (fun _ _=>False) {s with heap:=h'})(h:∀h' c p,(∀b o,b≠a->s.heap.get? b=some o->h'.get? b=some o)->p.Perm (List.range vs.length)->pick .non p ds=jQ ds->h'.get? a=some (seqObj "list" (pick .none p vs).toArray c)->O (.done (.ret .none)) {s with heap:=h'}):wpAny (model prog w) A (Builtin.«list.sort» ⟨[.ref a],[]⟩) O E s:=by
 have ha:a<s.heap.objs.size:=lt_size ho;have hld:vs.length=ds.length:=Paired.length pr;obtain⟨e1,ho1⟩:∃e1,(s.heap.update a (Obj.mapSeq fun _=>(#[]:Array Value))).get? a=some (seqObj "list" #[] e1):=⟨_,get?_update_seq ho fun _=>#[]⟩;rw[list_sort_plain];refine wpAny_bind (listItems_at ho rfl ?_);refine wpAny_bind (listUpdate_at ho rfl ?_ (by rw[size_toArray,sizeLine_eq];omega) (zero_le _));refine wpAny_bind (seqEpoch_at ho1 rfl ?_);refine wpAny_bind (wpAny_newTuple ?_ (by show vs.length<=_;rw[sizeLine_eq];omega));refine wpAny_bind (wpAny_newList ?_ (zero_le _));refine wpAny_holding ?_;generalize hH:(((s.heap.update a (Obj.mapSeq fun _=>(#[]:Array Value))).push {cls:=.type "tuple",data:=.seq vs.toArray}).push {cls:=.type "list",data:=.seq #[]}:Heap)=H1;have XM:H1.get? a=some (seqObj "list" #[] e1):=by rw[<-hH];exact get?_push_of_some _ (get?_push_of_some _ ho1)
 have keep:∀b o,b≠a->s.heap.get? b=some o->H1.get? b=some o:=fun b o hb e=>by rw[<-hH];exact get?_push_of_some _ (get?_push_of_some _ ((get?_update_other _ _ (Ne.symm hb)).trans e))
 have fin:∀p:List Nat,p.Perm (List.range vs.length)->pick .non p ds=jQ ds->O (.done (.ret .none)) {s with heap:=H1.update a (Obj.mapSeq fun _=>List.toArray (pick .none p vs))}:=by intro p h1 h2;obtain⟨c2,hc2⟩:∃c2,(H1.update a (Obj.mapSeq fun _=>List.toArray (pick Value.none p vs))).get? a=some (seqObj "list" (pick Value.none p vs).toArray c2):=⟨_,get?_update_seq XM fun _=>List.toArray (pick Value.none p vs)⟩;exact h _ c2 p (fun b o hb e=>(get?_update_other _ _ (Ne.symm hb)).trans (keep b o hb e)) h1 h2 hc2
 show wpAny (model prog w) A _ O E {s with heap:=H1};dsimp only;by_cases h2:vs.toArray.size<2
 . rw[if_pos h2,if_pos h2];refine wpAny_bind (wpAny_pure ?_);rw[StateT.run_pure];refine wpAny_bind (wpAny_pure ?_);dsimp only;have eo:(arrOf (SortSt.mk' general' (vs.toArray.zip vs.toArray) #[] 7 none)).map (·.2)=List.toArray (pick Value.none (List.range vs.length) vs):=by rw[o8];apply Array.toList_inj.mp;show((vs.toArray.zip vs.toArray).map (·.2)).toList=vs;simp[List.map_snd_zip]
   rw[eo];refine wpAny_bind (seqEpoch_at XM rfl ?_);refine wpAny_bind (listUpdate_at XM rfl ?_ (zero_le _) (by rw[size_toArray,oK (.refl _),sizeLine_eq];omega));simp only[bne_self_eq_false,false_eq_true,if_false];refine wpAny_pure (fin _ (.refl _) ?_);rw[hld,o8];refine lu so (.refl _) ?_;match ds,(show ds.length<2 by simp at h2;omega)with|[],_=>exact .nil|[_],_=>exact List.pairwise_singleton ..|_::_::_,h2=>simp at h2;omega
 . rw[if_neg h2,if_neg h2];have h2':2<=vs.length:=by simpa using h2
   refine wpAny_bind (hk H1 keep _ ?_ h2'|>fun q=>wpAny_mono q (fun _ _ x=>x) fun _ _ x=>x.elim);have hzl:(vs.toArray.zip vs.toArray).toList=(List.range vs.length).map fun i=>(vs.getD i Value.none,vs.getD i Value.none):=by
    refine ext_getElem (by simp) fun i h1 h2=>?_;have:i<vs.length:=by simpa using h2
    simp[this]
   have okk:∀x∈(vs.toArray.zip vs.toArray).toList,∃d,d∈ds/\P x.1 d:=fun x hx=>by rw[hzl]at hx;obtain⟨i,hi,rfl⟩:=mem_map.mp hx;have:=jl pr i (mem_range.mp hi);exact⟨_,this.2,this.1⟩
   have R:Rk (model prog w) A E {s with heap:=H1} κ (fun x=>∃d,d∈ds/\P x.1 d) (rkK P ds):=⟨by rintro x y Q st⟨d,d1,d2⟩⟨e,e1,e2⟩hkd hq;rw[zM fn d1 d2,zM fn e1 e2,Ge d1]at hq;rw[lt'_eq];refine wpS_bind (wpS_get ?_);rw[hkd];refine wpS_bind (wpS_lift (wpAny_attempt (wpAny_mono (hl H1 keep x.1 y.1 d e d2 e2 (fun b s'=>s'={s with heap:=H1}/\b=aV (bO d) (bO e)) ⟨rfl,rfl⟩) ?_ fun _ _ h=>h.elim)));rintro b s'⟨rfl,rfl⟩;exact⟨rfl,wpS_pure hq⟩⟩;have run:=Iv R (x0:=vs.toArray.zip vs.toArray) (st:=SortSt.mk' κ (vs.toArray.zip vs.toArray) #[] 7 none) (Q:=fun _ st'=>∃p:List Nat,p.Perm (List.range vs.length)/\pick .non p ds=jQ ds/\(arrOf st').map (·.2)=(pick Value.none p vs).toArray/\failedOf st'=none) ⟨rfl,rfl,rfl,rfl,.refl _,okk,rfl,zero_le _⟩ fun ys st' e1 e2 e3 e4=>by
     rw[hzl]at e3;obtain⟨p,p1,p2⟩:=Ck e3 rfl;have hpl:p.length=vs.length:=by rw[p1.length_eq,length_range]
     have hys:ys.size=vs.length:=by rw[<-length_toList,<-p2,length_map,hpl]
     refine⟨p,p1,lu so ?_ ?_,?_,e2⟩;.have:=p1.map fun i=>ds.getD i .non;rw[hld]at this;exact this.trans (.of_eq (o8 D.non ds))
     . rw[List.pairwise_iff_getElem];intro i j hi hj hij;simp only[pick,length_map]at hi hj;have sg:=e4 i j (zero_le _) (by omega) (by omega);have at':∀k(hk:k<p.length),it ys k=(vs.getD p[k] .none,vs.getD p[k] .none):=fun k hk=>by rw[gD,<-p2];simp[hk]
       have inn:∀k(hk:k<p.length),p[k]<vs.length:=fun k hk=>mem_range.mp (p1.mem_iff.mp (getElem_mem hk));rw[at' i hi,at' j hj]at sg;have a1:=jl pr p[i] (inn i hi);have a2:=jl pr p[j] (inn j hj);rw[zM fn a1.2 a1.1,zM fn a2.2 a2.1]at sg;simp only[pick,List.getElem_map,lV,not_eq_true'];rw[<-Ge a2.2,decide_eq_false_iff_not];omega
     .apply Array.toList_inj.mp;rw[e1,Array.toList_map,<-p2,map_map];rfl
   refine wpAny_bind (wpAny_mono run ?_ fun _ _ e=>e);rintro⟨⟨⟩,st'⟩s'⟨rfl,p,p1,p2,hout,hf⟩;dsimp only;rw[hout];refine wpAny_bind (seqEpoch_at XM rfl ?_);refine wpAny_bind (listUpdate_at XM rfl ?_ (zero_le _) (by rw[size_toArray,oK p1,sizeLine_eq];omega));rw[hf];simp only[bne_self_eq_false,false_eq_true,if_false];exact wpAny_pure (fin _ p1 p2)
end
end HH
end
section
namespace HH
open PySem L2 PySem.Spec PyProof.Rows PySem.Calls PySem.W
section
variable{prog:Program}{w:World}{A:Around}{E:Value->Shared->Prop}{s:Shared}{vs:List Value}{κ:SortKind}{P:Value->D->Prop}{ds:List D}
theorem mU{b fin:Bool}{Q:Bool->Shared->Prop}:∀{xs ys:List Value}{is js:List Int}{i:Nat},IntsAre xs is->IntsAre ys js->fin=decide (is.length<js.length)->Q (aV is js) s->KatLex prog w A b fin Q (xs.zip ys) i s
 |_,_,_,_,_,.nil,.nil,e,h=>by subst e;exact kat_nil (by simpa[aV]using h)|_,_,_,_,_,.nil,.cons _ _ _,e,h=>by subst e;exact kat_nil (by simpa[aV]using h)|_,_,_,_,_,.cons _ _ _,.nil,e,h=>by subst e;exact kat_nil (by simpa[aV]using h)|_,_,_,_,i,.cons (ns:=is) x t r,.cons (ns:=js) y u r',e,h=>by
   refine kat_cons (wpAny_eqBool_int ?_);by_cases q:x=y;.subst q;rw[beq_self_eq_true];refine kat_yes (mU r r' (by rw[e];simp) ?_);simpa[aV]using h
   . rw[beq_eq_false_iff_ne.mpr q];refine kat_no ?_;have hx:Q (decide (x<y)) s:=by simpa[aV,q]using h
     cases(b&&i==0)with|true=>exact oneLt_int hx|false=>exact kat_one _ _ (wpAny_lt_int hx)
def mZ(h:Heap)(u:Value)(d:D):Prop:=∃a its is,u=.ref a/\IsTup h a (List.toArray its)/\IntsAre its is/\is≠[]/\bO d=is
theorem lZ{h h':Heap}(k:∀b o,h.get? b=some o->h'.get? b=some o){u:Value}{d:D}(t:mZ h u d):mZ h' u d:=by obtain⟨a,its,is,e,⟨o,h1,h2⟩,h3⟩:=t;exact⟨a,its,is,e,⟨o,k _ _ h1,h2⟩,h3⟩
theorem qJ{h h':Heap}(k:∀b o,h.get? b=some o->h'.get? b=some o):∀{us:List Value}{ds:List D},Paired (mZ h) us ds->Paired (mZ h') us ds|_,_,.nil=>.nil|_,_,.cons r t=>.cons (lZ k r) (qJ k t)
theorem mJ{h:Heap}:∀{us:List Value}{ds:List D},Paired (mZ h) us ds->∃fs,KatTups h us fs/\fs.length=us.length/\∀f∈fs,∃n t,f=Value.int n t|_,_,.nil=>⟨[],trivial,rfl,by simp⟩|_,_,.cons r t=>by obtain⟨fs,h1,h2,h3⟩:=mJ t;obtain⟨a,its,is,rfl,⟨o,o1,o2,n,o3⟩,hi,hne,_⟩:=r;cases hi with|nil=>exact absurd rfl hne|cons x tk r'=>
     refine⟨.int x tk::fs,KatTups.cons o1 o2 o3 (by simp) h1,by simp[h2],fun f hf=>?_⟩;rcases mem_cons.mp hf with rfl|hf;.exact⟨_,_,rfl⟩
     .exact h3 f hf
theorem Br{ds:List D}(t:Paired (mZ s.heap) vs ds)(h2:2<=vs.length){C:SortKind->Shared->Prop}(hC:C (tuples' (Value.type "int"!=Value.type "tuple")) s):wpAny (model prog w) A (keyKind' vs.toArray) C E s:=by obtain⟨fs,h1,h3,h4⟩:=mJ t;refine kat_kind (T:=.type "int") h1 (by omega) (fun v hv=>?_) rfl hC;obtain⟨n,t,rfl⟩:=h4 v hv;exact Looks.now
theorem Jt{x y:Value}{d e:D}(hx:mZ s.heap x d)(hy:mZ s.heap y e){b:Bool}{C:Bool->Shared->Prop}(hC:C (aV (bO d) (bO e)) s):wpAny (model prog w) A (keyLt' (tuples' b) x y) C E s:=by obtain⟨a,its,is,rfl,⟨o,o1,o2,n,o3⟩,hi,hne,e1⟩:=hx;obtain⟨a',its',js,rfl,⟨o',p1,p2,n',p3⟩,hj,hne',e2⟩:=hy;refine kat_lt o1 o3 p1 p3 ?_;rw[e1,e2]at hC;refine mU (is:=is) (js:=js) (by simpa using hi) (by simpa using hj) ?_ hC;rw[size_toArray,size_toArray,IntsAre.length hi,IntsAre.length hj]
end
theorem Bq{xs:List V}{us:List Value}(h:Vals xs us)(i:Nat):RelV (xs.getD i .non) (us.getD i .none):=by
 have hl:=h.length;by_cases hi:i<xs.length
 . obtain⟨u,e,r⟩:=h.get (i:=i) (x:=xs[i]) (List.getElem?_eq_getElem hi);have e1:xs.getD i .non=xs[i]:=by simp[hi]
   have e2:us.getD i .none=u:=by simp[e]
   rw[e1,e2];exact r
 . have e1:xs.getD i .non=.non:=by simp[Nat.le_of_not_lt hi]
   have e2:us.getD i .none=.none:=by simp[show us.length<=i by omega]
   rw[e1,e2];rfl
theorem vP{f:Nat->V}{g:Nat->Value}(h:∀i,RelV (f i) (g i)):∀l:List Nat,Vals (l.map f) (l.map g)|[]=>.nil|i::l=>.cons (h i) (vP h l)
theorem Ez{p:List Nat}{xs:List V}{us:List Value}(h:Vals xs us):Vals (pick .non p xs) (pick .none p us):=vP (Bq h) _
theorem vh{K:PySem.W.Frag}{F:Hp}{f:Nat->V}{g:Nat->D}(h:∀i,Rep K F (f i) (g i)):∀l:List Nat,au K F (l.map f) (l.map g)|[]=>.nil|i::l=>.cons (h i) (vh h l)
theorem Dp{K:PySem.W.Frag}{F:Hp}{p:List Nat}{xs:List V}{ds:List D}(h:au K F xs ds):au K F (pick .non p xs) (pick .non p ds):=vh (fun i=>by
 have hl:=h.length;by_cases hi:i<ds.length
 . obtain⟨u,e,r⟩:=h.get (i:=i) (d:=ds[i]) (List.getElem?_eq_getElem hi);have e1:ds.getD i .non=ds[i]:=by simp[hi]
   have e2:xs.getD i .non=u:=by simp[e]
   rw[e1,e2];exact r
 . have e1:ds.getD i .non=.non:=by simp[Nat.le_of_not_lt hi]
   have e2:xs.getD i .non=.non:=by simp[show xs.length<=i by omega]
   rw[e1,e2,Rep]) _
theorem Eg{us:List Value}:∀{ns ms:List Int},IntsAre us ns->IntsAre us ms->ns=ms:=by induction us with|nil=>intro ns ms h1 h2;cases h1;cases h2;rfl|cons u us ih=>intro ns ms h1 h2;cases h1 with|cons n t r=>cases h2 with|cons m t' r'=>rw[ih r r']
theorem Kq{h:Heap}(u:Value)(d e:D):mZ h u d->mZ h u e->bO d=bO e:=fun⟨a,its,is,h1,⟨o,o1,o2,n,o3⟩,h3,_,h4⟩⟨b,jts,js,g1,⟨o',p1,p2,m,p3⟩,g3,_,g4⟩=>by rw[h1]at g1;cases g1;rw[o1]at p1;cases p1;rw[o3]at p3;cases p3;rw[h4,g4,Eg h3 g3]
theorem all_ints:∀{ds:List D},ds.all cX=true->ds=(ds.map cu).map D.int
 |[],_=>rfl|d::ds,h=>by
   simp only[all_cons,and_eq_true]at h;cases d<;>first|(have q:=h.1;simp[cX]at q;done)|skip
   rw[map_cons,map_cons,<-all_ints h.2];rfl
theorem intsAre_of:∀{ns:List Int}{us:List Value},Vals (ns.map V.int) us->IntsAre us ns|[],_,.nil=>.nil|n::ns,_,.cons r t=>by obtain⟨tk,rfl⟩:=r;exact .cons n tk (intsAre_of t)
section
variable{X:Cx}{c:Call}{a:Expr}{pa:P}{pos:Pos}
theorem boot_sorted:bootBuiltins "sorted"=some (.builtin "sorted"):=by decide+kernel
end
end HH
end
section
namespace HH
open PySem L2 PySem.Spec PyProof.Rows PySem.Calls
theorem ym(l b:Addr)(items items2:List Value)(n n2:Nat)(dd dd2:Option Addr)(sl sl2:Array (Option Value))(is js:List Int)(hi:IntsAre items is)(hj:IntsAre items2 js):Meets (Builtin.«tuple.__lt__» ⟨[.ref l,.ref b],[]⟩) (fun A R s=>s.heap.get? l=some {cls:=.type "tuple",dict:=dd,data:=.seq items.toArray n,slots:=sl}/\s.heap.get? b=some {cls:=.type "tuple",dict:=dd2,data:=.seq items2.toArray n2,slots:=sl2}/\R (.ok (.ret (.bool (aV is js)))) s):=.of_wp fun prog w A R s h=>by
  obtain⟨hp,g,d,tk,os⟩:=s;obtain⟨hl,hb,h⟩:=h;have f2:=AutoSeq1.sub_tuple_tuple;wp_walk using wpAny_loadPart' hl,wpAny_loadPart' hb,wpAny_forIn_list _ (fun rest b s'=>b.1=none/\s'=⟨hp,g,d,tk,os⟩/\∃xs ys is' U5,rest=xs.zip ys/\IntsAre xs is'/\IntsAre ys U5/\decide (items.length<items2.length)=decide (is'.length<U5.length)/\R (.ok (.ret (.bool (aV is' U5)))) ⟨hp,g,d,tk,os⟩) _;case turn=>rintro⟨y,x⟩rest b s'⟨hb',rfl,xs,ys,is',U5,hz,h1,h2,h3,hR⟩;cases h1 with|nil=>cases hz|cons p t h1=>cases h2 with|nil=>cases hz|cons q u h2=>
       injection hz with hyx hrest;cases hyx;refine wpAny_bind (wpAny_eqBool_int ?_);by_cases e:p=q;.subst e;rw[beq_self_eq_true];wp_walk;exact⟨rfl,rfl,_,_,_,_,hrest,h1,h2,by rw[h3];simp,by simpa[aV]using hR⟩
       . rw[beq_eq_false_iff_ne.mpr e];have hR':R (.ok (.ret (.bool (decide (p<q))))) ⟨hp,g,d,tk,os⟩:=by simpa[aV,e]using hR
         simp only[Bool.not_false,if_true];refine wpAny_bind (wpAny_rule ?_);refine wpAny_bind (show wpAny (model prog w) A.in1 (compareOp .Lt (Value.int p t) (Value.int q u)) _ _ _ from wpAny_lt_int ?_);refine wpAny_bind (wpAny_pure ?_);exact wpAny_pure (wpAny_pure ⟨_,rfl,hR'⟩)
  case fin=>
   rintro⟨b1,b2⟩s'⟨hb',rfl,xs,ys,is',U5,hz,h1,h2,h3,hR⟩;simp only at hb';subst hb';have e:aV is' U5=decide (items.length<items2.length):=by rw[h3];cases h1 with|nil=>cases h2<;>simp[aV]|cons _ _ _=>cases h2 with|nil=>simp[aV]|cons _ _ _=>cases hz
   rw[e]at hR;wp_walk;exact⟨_,rfl,by simpa[Builtin.Tuple.tupleCompareSizes]using hR⟩
  case h=>exact⟨rfl,rfl,items,items2,is,js,by simp,hi,hj,by rw[IntsAre.length hi,IntsAre.length hj],h⟩
section
variable{X:Cx}
theorem G8(hu:X.A.units+8<cLine):fV X (compareOp .Lt) (rD X.K (xR .lt)):=by rintro pins s σ H x y v u Q I rx ry⟨F,d,e,r,sm,px,py,he,k⟩;obtain⟨t,e1,e2⟩:=map_some (show(Wv d e).map _=some r from he);subst e2;cases d with
 |int i=>cases e with|int j=>exact N6 pins s σ H x y v u Q I rx ry ⟨F,.int i,.int j,_,sm,px,py,by have e2:HX (fun i j=>decide (i<j)) (.int i) (.int j)=some t:=e1;simp only[e2];rfl,k⟩|_=>cases e1
 |tup xs=>cases e with|tup ys=>obtain⟨hc,e1⟩:=aW (show(if(xs.all cX&&ys.all cX)=true then some (aV (xs.map cu) (ys.map cu))else none)=some t from e1);rw[and_eq_true]at hc;obtain⟨a,vs,rfl,h1,h2,_⟩:=px.tup sm;obtain⟨b,ws,rfl,h3,h4,_⟩:=py.tup sm;cases rx;cases ry;obtain⟨its,rv,it,_⟩:=I.tuple h1;obtain⟨its2,rv2,it2,_⟩:=I.tuple h3;rw[all_ints hc.1]at h2;rw[all_ints hc.2]at h4;rw[fY h2]at rv;rw[fY h4]at rv2;have i1:=intsAre_of rv;have i2:=intsAre_of rv2;obtain⟨⟨cls,dd,data,sl⟩,ho,hc1,n,hd⟩:=it;obtain⟨⟨cls2,dd2,data2,sl2⟩,ho2,hc2,n2,hd2⟩:=it2;simp only at hc1 hd hc2 hd2;subst hc1 hd hc2 hd2;refine(show wpAny (model X.prog X.w) X.A (richCompare .Lt (.ref a) (.ref b)) _ _ s from richCompare_meets_room (op:=.Lt) ⟨_,ho,rfl⟩ ⟨_,ho2,rfl⟩ PySem.F.slot_tuple_lt PySem.F.entry_tuple_lt (PySem.F.args_tuple_lt_2 _ _) (ym a b its its2 n n2 dd dd2 sl sl2 _ _ i1 i2) ⟨ho,ho2,show Value.bool _≠Value.notImplemented/\_ from⟨(fun x=>nomatch x),⟨.bl t,H,I,by rw[<-e1];rfl,bK.cY sm (ir _) k⟩⟩⟩ (by omega))|_=>cases e1
 |_=>cases e1
end
end HH
end
section
namespace L2
open PySem PySem.Spec PyProof.Rows
section
variable{κ:Type}[DecidableEq κ]
noncomputable def gZ(kvs:List (κ×V))(k:κ):Option V:=(kvs.find? fun kv=>decide (kv.1=k)).map (·.2)
noncomputable def putK(kvs:List (κ×V))(k:κ)(v:V):List (κ×V):=if(kvs.any fun kv=>decide (kv.1=k))=true then kvs.map (fun kv=>if kv.1=k then(kv.1,v)else kv)else kvs++[(k,v)]
theorem km{p:κ×V}{r:List (κ×V)}{k:κ}(e:p.1=k):gZ (p::r) k=some p.2:=by simp[gZ,find?_cons,e]
theorem j6{p:κ×V}{r:List (κ×V)}{k:κ}(e:¬ p.1=k):gZ (p::r) k=gZ r k:=by simp[gZ,find?_cons,e]
theorem p7(k:κ):∀kvs:List (κ×V),(kvs.any fun kv=>decide (kv.1=k))=(gZ kvs k).isSome
 |[]=>rfl|p::r=>by
   rw[any_cons];by_cases e:p.1=k;.simp only[km e,decide_eq_true e,Bool.true_or,Option.isSome_some]
   .rw[j6 e,decide_eq_false e,Bool.false_or];exact p7 k r
theorem iu(kvs:List (κ×V))(k:κ)(v:V):(putK kvs k v).length<=kvs.length+1:=by
 unfold putK;split;.rw[length_map];omega
 .rw[length_append,length_cons,length_nil];omega
theorem m6.fZ{o:Option V}{u:Option Value}(r:m6 o u):o.isSome=u.isSome:=by cases o with
 |none=>cases u with|none=>rfl|some _=>exact(show False from r).elim
 |some _=>cases u with|none=>exact(show False from r).elim|some _=>rfl
theorem m6.getD{o:Option V}{u:Option Value}{d:V}{d':Value}(r:m6 o u)(rd:RelV d d'):RelV (o.getD d) (u.getD d'):=by cases o with
 |none=>cases u with|none=>exact rd|some _=>exact(show False from r).elim
 |some _=>cases u with|none=>exact(show False from r).elim|some _=>exact r
theorem KV.val{kvs:List (κ×V)}{vs:List (κ×Value)}(r:KV kvs vs)(k:κ):m6 (gZ kvs k) (valueAt vs k):=by unfold KV at r;induction r with|nil=>exact True.intro|@cons p q ps qs h t ih=>
   obtain⟨h1,h2⟩:=h;by_cases e:p.1=k
   . have e':q.1=k:=h1.symm.trans e;have b:valueAt (q::qs) k=some q.2:=by simp[valueAt,find?_cons,e']
     rw[km e,b];exact h2
   . have e':¬ q.1=k:=fun z=>e (h1.trans z);have b:valueAt (q::qs) k=valueAt qs k:=by simp[valueAt,find?_cons,e']
     rw[j6 e,b];exact ih
theorem KV.any{kvs:List (κ×V)}{vs:List (κ×Value)}(r:KV kvs vs)(k:κ):(kvs.any fun kv=>decide (kv.1=k))=vs.any fun kv=>decide (kv.1=k):=by unfold KV at r;induction r with|nil=>rfl|cons h t ih=>rw[any_cons,any_cons,ih,h.1]
theorem KV.repl{kvs:List (κ×V)}{vs:List (κ×Value)}(r:KV kvs vs)(k:κ){y:V}{u:Value}(ry:RelV y u):KV (kvs.map fun kv=>if kv.1=k then(kv.1,y)else kv) (vs.map fun kv=>if kv.1=k then(kv.1,u)else kv):=by unfold KV at r ⊢;induction r with|nil=>exact .nil|@cons p q ps qs h t ih=>
   rw[map_cons,map_cons];refine .cons ?_ ih;obtain⟨h1,h2⟩:=h;by_cases e:p.1=k;.rw[if_pos e,if_pos (h1.symm.trans e)];exact⟨h1,ry⟩
   .rw[if_neg e,if_neg (fun z=>e (h1.trans z))];exact⟨h1,h2⟩
theorem KV.put{kvs:List (κ×V)}{vs:List (κ×Value)}(r:KV kvs vs)(k:κ){y:V}{u:Value}(ry:RelV y u):KV (putK kvs k y) (stored vs k u):=by
 unfold putK stored;rw[r.any k];by_cases e:(vs.any fun kv=>decide (kv.1=k))=true;.rw[if_pos e,if_pos e];exact r.repl k ry
 .rw[if_neg e,if_neg e];exact Paired.snoc r ⟨rfl,ry⟩
theorem KV.length{kvs:List (κ×V)}{vs:List (κ×Value)}(r:KV kvs vs):kvs.length=vs.length:=Paired.length r
end
theorem pY{P:Program}{w:World}{k:Key}{u:Value}(r:RelV (kV k) u):(aN P w).is k u=true:=by cases k with|inl i=>obtain⟨t,e⟩:=(show ∃t,u=Value.int i t from r);subst e;exact wg P w i t|inr x=>obtain⟨t,e⟩:=(show ∃t,u=Value.str x t from r);subst e;exact vB P w x t
theorem rJ{P:Program}{w:World}:∀{ks:List Key}{us:List Value},Vals (ks.map kV) us->ItemsAre (aN P w) ks us|[],_,r=>by rw[map_nil]at r;cases r;exact .nil|k::ks,_,r=>by rw[map_cons]at r;cases r with|cons h t=>exact .cons (pY h) (rJ t)
abbrev KT(H:Hp):List (List Key×V)->List (List Key×Addr×Value)->Prop:=Paired fun p q=>p.1=q.1/\H q.2.1=some (.tup (p.1.map kV))/\RelV p.2 q.2.2
theorem KT.val{H:Hp}{kvs:List (List Key×V)}{xs:List (List Key×Addr×Value)}(r:KT H kvs xs)(k:List Key):m6 (gZ kvs k) ((atKey xs k).map (·.2)):=by induction r with|nil=>exact True.intro|@cons p q ps qs h t ih=>
   obtain⟨h1,_,h2⟩:=h;by_cases e:p.1=k
   . have e':q.1=k:=h1.symm.trans e;have b:atKey (q::qs) k=some q.2:=by simp[atKey,find?_cons,e']
     rw[km e,b];exact h2
   . have e':¬ q.1=k:=fun z=>e (h1.trans z);have b:atKey (q::qs) k=atKey qs k:=by simp[atKey,find?_cons,e']
     rw[j6 e,b];exact ih
theorem KT.repl{H:Hp}{kvs:List (List Key×V)}{xs:List (List Key×Addr×Value)}(r:KT H kvs xs)(k:List Key){y:V}{u:Value}(ry:RelV y u):KT H (kvs.map fun kv=>if kv.1=k then(kv.1,y)else kv) (xs.map (putAt k u)):=by induction r with|nil=>exact .nil|@cons p q ps qs h t ih=>
   rw[map_cons,map_cons];refine .cons ?_ ih;obtain⟨h1,h2,h3⟩:=h;unfold putAt;by_cases e:p.1=k;.rw[if_pos e,if_pos (h1.symm.trans e)];exact⟨h1,h2,ry⟩
   .rw[if_neg e,if_neg (fun z=>e (h1.trans z))];exact⟨h1,h2,h3⟩
theorem KT.put{H:Hp}{kvs:List (List Key×V)}{xs:List (List Key×Addr×Value)}(r:KT H kvs xs)(k:List Key){b:Addr}{y:V}{u:Value}(hb:H b=some (.tup (k.map kV)))(ry:RelV y u):KT H (putK kvs k y) (storedH xs k b u):=by
 have e:(kvs.any fun kv=>decide (kv.1=k))=(atKey xs k).isSome:=by rw[p7,(r.val k).fZ,isSome_map]
 unfold putK storedH;rw[e];by_cases q:(atKey xs k).isSome=true;.rw[if_pos q,if_pos q];exact r.repl k ry
 .rw[if_neg q,if_neg q];exact Paired.snoc r ⟨rfl,hb,ry⟩
theorem KT.keeps{H H':Hp}{kvs:List (List Key×V)}{xs:List (List Key×Addr×Value)}(r:KT H kvs xs)(ht:∀b ys,H b=some (.tup ys)->H' b=some (.tup ys)):KT H' kvs xs:=Paired.Q9 r fun _ _ z=>⟨z.1,ht _ _ z.2.1,z.2.2⟩
section
variable{P:Program}{w:World}{H:Hp}{h:Heap}{a:Addr}
theorem Ly{u:HO}(ok:lG P w H h)(e:Rd H a u):bh P w H h a u:=e.ok ok
theorem oh{kvs:List (Key×V)}(ok:lG P w H h)(e:Rd H a (.dK kvs)):kvs.length<=sizeLine/\(a==sysModules)=false/\∃vs,KV kvs vs/\h.DictOf (aN P w) a vs:=show bh P w H h a (.dK kvs)from Ly ok e
theorem Mf{kvs:List (Key×V)}(ok:lG P w H h)(e:H a=some (.dK kvs)):kvs.length<=sizeLine/\(a==sysModules)=false/\∃vs,KV kvs vs/\h.DictOf (aN P w) a vs:=oh ok (.inl e)
theorem lN{ks:List Key}(ok:lG P w H h)(e:H a=some (.tup (ks.map kV))):(tupleKind (aN P w)).is h ks a:=by obtain⟨_,its,r,o,h1,h2,n,h3⟩:=(show bh P w H h a (.tup (ks.map kV))from ok a _ e);exact⟨o,its.toArray,n,h1,h2,h3,by simpa using rJ r⟩
theorem pA{kvs:List (List Key×V)}(ok:lG P w H h)(e:Rd H a (.dT kvs)):kvs.length<=sizeLine/\(a==sysModules)=false/\∃xs,KT H kvs xs/\h.DictOfH (tupleKind (aN P w)) a xs:=by
 obtain⟨z,y,xs,r,o,es,ep,h1,h2,h3,h4,h5⟩:=(show bh P w H h a (.dT kvs)from Ly ok e);refine⟨z,y,xs,r,o,es,ep,h1,h2,h3,h4,fun x hx=>?_,h5⟩;have all:∀{l:List (List Key×V)}{m:List (List Key×Addr×Value)},KT H l m->∀x∈m,(tupleKind (aN P w)).is h x.1 x.2.1:=by intro l m q;induction q with|nil=>intro x hx;exact nomatch hx|@cons p q ps qs hq t ih=>
    intro x hx;rcases mem_cons.mp hx with e|hx;.subst e;exact lN ok (by rw[<-hq.1];exact hq.2.1)
    .exact ih x hx
 exact all r x hx
theorem Xj{kvs:List (List Key×V)}(ok:lG P w H h)(e:H a=some (.dT kvs)):kvs.length<=sizeLine/\(a==sysModules)=false/\∃xs,KT H kvs xs/\h.DictOfH (tupleKind (aN P w)) a xs:=pA ok (.inl e)
end
def mz(H:Hp)(a:Addr)(y:V)(r:Option V):Prop:=(∃kvs k,Rd H a (.dK kvs)/\y=kV k/\r=gZ kvs k)\/∃kvs k b,Rd H a (.dT kvs)/\y=.ref b/\H b=some (.tup (k.map kV))/\r=gZ kvs k
def VP(H:Hp)(a:Addr)(y v:V)(H':Hp):Prop:=(∃kvs k,H a=some (.dK kvs)/\y=kV k/\kvs.length<sizeLine/\H'=upd H a (.dK (putK kvs k v)))\/∃kvs k b,H a=some (.dT kvs)/\y=.ref b/\H b=some (.tup (k.map kV))/\kvs.length<sizeLine/\H'=upd H a (.dT (putK kvs k v))
section
variable{X:Cx}{pins:List (Addr×Obj)}{σ:St}{H:Hp}{s:Shared}{a:Addr}{y v:V}{u r:Value}{o:Option V}{A:Around}{E:Value->Shared->Prop}
theorem Inv.big(I:Inv X pins σ H s):sysModules<s.heap.objs.size:=by have h:mainGlobals<s.heap.objs.size:=(I.mod.glob.keeps I.bk).lt;exact lt_trans (by decide) h
theorem lM{Q:Value->Shared->Prop}(hu:A.units+1<cLine)(I:Inv X pins σ H s)(g:mz H a y (some v))(ry:RelV y u)(h:∀w' s',Inv X pins σ H s'->RelV v w'->Q w' s'):wpAny (model X.prog X.w) A (getItem (.ref a) u) Q E s:=by
 rcases g with⟨kvs,k,e,ey,l⟩|⟨kvs,k,b,e,ey,eb,l⟩;.subst ey;obtain⟨z,hd,vs,rel,dd⟩:=oh I.hok e;obtain⟨w',hw,uD⟩:=m6.some_of (v:=v) (o:=valueAt vs k) (by rw[l];exact rel.val k);exact wpAny_getItem_of (pY ry) dd.mapOf hw (h w' _ (I.tok _) uD)
 .subst ey;cases(show u=Value.ref b from ry);obtain⟨z,hd,xs,rel,dd⟩:=pA I.hok e;obtain⟨w',hw,uD⟩:=m6.some_of (v:=v) (o:=(atKey xs k).map (·.2)) (by rw[l];exact rel.val k);obtain⟨p,hp,hp2⟩:=map_eq_some_iff.mp hw;refine wpAny_getItem_heap (tupleKind_room_in1 hu) (lN I.hok eb) dd hp ?_;rw[hp2];exact h w' _ (I.tok _) uD
theorem Vl{Q:Value->Shared->Prop}(hu:A.units+1<cLine)(I:Inv X pins σ H s)(g:mz H a y o)(ry:RelV y u)(h:∀s',Inv X pins σ H s'->Q (.bool o.isSome) s'):wpAny (model X.prog X.w) A (compareOp .In u (.ref a)) Q E s:=by
 rcases g with⟨kvs,k,e,ey,l⟩|⟨kvs,k,b,e,ey,eb,l⟩;.subst ey;obtain⟨z,hd,vs,rel,dd⟩:=oh I.hok e;refine wpAny_in_of (pY ry) hd dd.mapOf ?_;rw[<-(rel.val k).fZ,<-l];exact h _ (I.tok _)
 .subst ey;cases(show u=Value.ref b from ry);obtain⟨z,hd,xs,rel,dd⟩:=pA I.hok e;refine wpAny_in_heap (tupleKind_room_in1 hu) (lN I.hok eb) hd dd ?_;have q:=(rel.val k).fZ;rw[isSome_map]at q;rw[<-q,<-l];exact h _ (I.tok _)
theorem An{Q:Value->Shared->Prop}(hu:A.units+1<cLine)(I:Inv X pins σ H s)(g:mz H a y o)(ry:RelV y u)(h:∀s',Inv X pins σ H s'->Q (.bool (!o.isSome)) s'):wpAny (model X.prog X.w) A (compareOp .NotIn u (.ref a)) Q E s:=by
 rcases g with⟨kvs,k,e,ey,l⟩|⟨kvs,k,b,e,ey,eb,l⟩;.subst ey;obtain⟨z,hd,vs,rel,dd⟩:=oh I.hok e;refine wpAny_notIn_of (pY ry) hd dd.mapOf ?_;rw[<-(rel.val k).fZ,<-l];exact h _ (I.tok _)
 .subst ey;cases(show u=Value.ref b from ry);obtain⟨z,hd,xs,rel,dd⟩:=pA I.hok e;refine wpAny_notIn_heap (tupleKind_room_in1 hu) (lN I.hok eb) hd dd ?_;have q:=(rel.val k).fZ;rw[isSome_map]at q;rw[<-q,<-l];exact h _ (I.tok _)
theorem sJ{h':Heap}{t':Nat}{ob:HO}(I:Inv X pins σ H s)(mu:VJ (H a))(hs:SameBut a s.heap h')(he:∃q,h'.get? a=some q)(new:bh X.prog X.w (upd H a ob) h' a ob):Inv X pins σ (upd H a ob) {s with heap:=h',toks:=t'}:=I.write (x:=a) (e:=a) mu (.inl rfl) (fun b q hb z=>(hs.2 b hb).trans z) he new
theorem GP{P:Program}{w:World}{H':Hp}{h':Heap}{kvs:List (Key×V)}{vs:List (Key×Value)}(z:kvs.length<=sizeLine)(hd:(a==sysModules)=false)(rel:KV kvs vs)(dd:h'.DictOf (aN P w) a vs):bh P w H' h' a (.dK kvs):=⟨z,hd,vs,rel,dd⟩
theorem Bo{H':Hp}{Q:Unit->Shared->Prop}(hu:A.units+1<cLine)(I:Inv X pins σ H s)(g:VP H a y v H')(ry:RelV y u)(rv:RelV v r)(h:∀s',Inv X pins σ H' s'->Q () s'):wpAny (model X.prog X.w) A (setItem (.ref a) u r) Q E s:=by
 rcases g with⟨kvs,k,e,ey,l,eH⟩|⟨kvs,k,b,e,ey,eb,l,eH⟩
 . subst ey eH;obtain⟨z,hd,vs,rel,dd⟩:=Mf I.hok e;have hz:vs.length<=sizeLine:=by rw[<-rel.length];exact z
   have hl:(putK kvs k v).length<=sizeLine:=by have:=iu kvs k v;omega
   refine wpAny_setItem_pairs (hsz:=hz) (pY ry) dd fun h' R8 hs=>h _ ?_;have he:∃q,h'.get? a=some q:=let⟨q,_,_,hq,_⟩:=R8;⟨q,hq⟩;exact sJ I (by rw[e];exact True.intro) hs he (GP hl hd (rel.put k rv) R8)
 . subst ey eH;cases(show u=Value.ref b from ry);obtain⟨z,hd,xs,rel,dd⟩:=Xj I.hok e;have hz:xs.length<=sizeLine:=by rw[<-Paired.length rel];exact z
   have hl:(putK kvs k v).length<=sizeLine:=by have:=iu kvs k v;omega
   refine wpAny_setItem_heap (hsz:=hz) (tupleKind_room_in1 hu) (lN I.hok eb) dd fun h' R8 hs=>h _ ?_;obtain⟨q,es,ep,hq,h2,h3,h4,_,h5⟩:=R8;refine sJ I (by rw[e];exact True.intro) hs ⟨q,hq⟩ ⟨hl,hd,_,(rel.put k eb rv).keeps fun c ys ec=>?_,q,es,ep,hq,h2,h3,h4,h5⟩;rw[ao (WQ ec e (fun z=>nomatch z))];exact ec
end
def Jp(i:Expr):Prop:=∀ov iv,subscripted i false ov iv=operate [ov,iv] (getItem ov iv)
theorem Bb{prog:Program}{w:World}{A:Around}{E:Value->Shared->Prop}{s:Shared}{env:Env}{value slice:Expr}{pos:Pos}{T id:String}{Q:Value->Shared->Prop}(hl:typeLookup (.type T) "__getitem__"=pure (some (.builtin id)))(hs:Jp slice)(h:wpAny (model prog w) A (eval value env) (fun o s₁=>wpAny (model prog w) A (eval slice env) (fun i s₂=>s₂.TypeIs o T/\wpAny (model prog w) A (getItem o i) Q E s₂) E s₁) E s):wpAny (model prog w) A (eval (.Subscript value slice pos) env) Q E s:=by
 refine Subscript_ (wpAny_mono h (fun o s₁ h₁=>wpAny_mono h₁ (fun i s₂ h₂=>?_) fun _ _ x=>x) fun _ _ x=>x);obtain⟨hT,h₂⟩:=h₂;unfold subscriptTail;refine wpAny_bind ?_;rw[getitemInPython_of_ne hT.not_modules];refine wpAny_bind (wpAny_specialOf hT hl ?_);have fin:wpAny (model prog w) A (subscripted slice false o i) (fun r s₃=>wpAny (model prog w) A (letTemporaryGo value o r>>=fun _=>pure r) Q E s₃) E s₂:=by rw[hs o i];exact wpAny_operating (wpAny_mono h₂ (fun r s₃ h₃=>wpAny_bind (wpAny_letTemporaryGo (wpAny_pure h₃))) fun _ _ x=>x)
 first|exact wpAny_pure (wpAny_bind fin)|exact wpAny_bind (wpAny_pure (wpAny_bind fin))|exact wpAny_bind fin
theorem iw{X:Cx}{pins:List (Addr×Obj)}{σ:St}{H:Hp}{s:Shared}{a:Addr}{y:V}{o:Option V}(I:Inv X pins σ H s)(g:mz H a y o):s.TypeIs (.ref a) "dict":=by
 rcases g with⟨kvs,k,e,_,_⟩|⟨kvs,k,b,e,_,_,_⟩;.obtain⟨_,_,vs,_,dd⟩:=oh I.hok e;exact dd.typeIs
 .obtain⟨_,_,xs,_,dd⟩:=pA I.hok e;exact dd.typeIs
def WW(td ty:TE):TE:=fun σ H Q=>td σ H fun x H1=>ty σ H1 fun y H2=>∃a v,x=.ref a/\mz H2 a y (some v)/\Q v H2
def abS(ty td:TE):TE:=fun σ H Q=>ty σ H fun y H1=>td σ H1 fun x H2=>∃a o,x=.ref a/\mz H2 a y o/\Q (.bl o.isSome) H2
def Ip(ty td:TE):TE:=fun σ H Q=>ty σ H fun y H1=>td σ H1 fun x H2=>∃a o,x=.ref a/\mz H2 a y o/\Q (.bl (!o.isSome)) H2
def Vv(td ty tv:TE):TS:=fun D σ H=>tv σ H fun v H1=>td σ H1 fun x H2=>ty σ H2 fun y H3=>∃a H4,x=.ref a/\VP H3 a y v H4/\D.nx σ H4
section
variable{X:Cx}{o i e value:Expr}{pos pos' tpos:Pos}{td ty tv:TE}
theorem Il(hu:X.A.units+1<cLine)(ho:PE X o td)(hi:PE X i ty)(hs:Jp i):PE X (.Subscript o i pos) (WW td ty):=by intro pins s σ H Q I h;refine Bb PySem.F.slot_dict_getitem.lookup hs (bC (ho pins s σ H _ I h) fun u s1⟨x,H1,I1,rx,q1⟩=>bC (hi pins s1 σ H1 _ I1 q1) fun iv s2⟨y,H2,I2,ry,a,v,ex,g,q2⟩=>?_);subst ex;obtain rfl:u=Value.ref a:=rx;exact⟨iw I2 g,lM hu I2 g ry fun w' s3 I3 uD=>⟨v,H2,I3,uD,q2⟩⟩
theorem QK(hu:X.A.units+1<cLine)(hi:PE X i ty)(ho:PE X o td):PC X .In i o (abS ty td):=by intro pins s σ H Q I h;refine bC (hi pins s σ H _ I h) fun iv s1⟨y,H1,I1,ry,q1⟩=>bC (ho pins s1 σ H1 _ I1 q1) fun u s2⟨x,H2,I2,rx,a,ov,ex,g,q2⟩=>?_;subst ex;obtain rfl:u=Value.ref a:=rx;exact Vl hu I2 g ry fun s3 I3=>⟨.bl ov.isSome,H2,I3,rfl,q2⟩
theorem CJ(hu:X.A.units+1<cLine)(hi:PE X i ty)(ho:PE X o td):PC X .NotIn i o (Ip ty td):=by intro pins s σ H Q I h;refine bC (hi pins s σ H _ I h) fun iv s1⟨y,H1,I1,ry,q1⟩=>bC (ho pins s1 σ H1 _ I1 q1) fun u s2⟨x,H2,I2,rx,a,ov,ex,g,q2⟩=>?_;subst ex;obtain rfl:u=Value.ref a:=rx;exact An hu I2 g ry fun s3 I3=>⟨.bl (!ov.isSome),H2,I3,rfl,q2⟩
theorem zG(hu:X.A.units+1<cLine)(ho:PE X o td)(hi:PE X i ty)(hv:PE X value tv)(hs:swapsWith value (some (.Subscript o i pos')) pos.line X.env=pure false):PS X (.Assign [.Subscript o i pos'] value pos) (Vv td ty tv):=by intro pins s σ H D I h;refine wpAny_Assign_Subscript (bC (hv pins s σ H _ I h) fun r s1⟨v,H1,I1,rv,q1⟩=>bC (ho pins s1 σ H1 _ I1 q1) fun u s2⟨x,H2,I2,rx,q2⟩=>bC (hi pins s2 σ H2 _ I2 q2) fun iv s3⟨y,H3,I3,ry,a,H4,ex,g,q3⟩=>?_) hs;subst ex;obtain rfl:u=Value.ref a:=rx;exact Bo hu I3 g ry rv fun s4 I4=>⟨σ,H4,I4,q3⟩
end
theorem wK{P:Program}{w:World}{H:Hp}(h:Heap)(hb:sysModules<h.objs.size):bh P w H (h.push {cls:=.type "dict",data:=.dict #[]}) h.objs.size (.dK []):=⟨zero_le _,beq_eq_false_iff_ne.mpr (Ne.symm (ne_of_lt hb)),[],.nil,Heap.DictOf.new h⟩
def Qg:TE:=fun _ H Q=>∀p,H p=none->Q (.ref p) (upd H p (.dK []))
section
variable{X:Cx}{pos:Pos}
theorem uR:PE X (.Dict [] [] pos) Qg:=fun pins s σ H Q I h=>wpAny_Dict_empty ⟨.ref s.heap.objs.size,_,I.laid (a:=s.heap.objs.size) (o:=.dK []) (t':=s.toks) (fun _ _ q=>get?_push_of_some _ q) (le_refl _) (wK s.heap I.big),rfl,h _ (I.hok.fresh (le_refl _))⟩
end
def yx:List (TE×TE)->St->Hp->(List (V×V)->Hp->Prop)->Prop|[],_,H,Q=>Q [] H|(tk,tv)::r,σ,H,Q=>tk σ H fun x H1=>tv σ H1 fun y H2=>yx r σ H2 fun ps H3=>Q ((x,y)::ps) H3
abbrev VV:List (V×V)->List (Value×Value)->Prop:=Paired fun p q=>RelV p.1 q.1/\RelV p.2 q.2
def Zf(X:Cx)(pos:Pos)(keys:List (Option Expr))(values:List Expr)(Li:List (TE×TE)):Prop:=∀(pins:List (Addr × Obj))(s:Shared)(σ:St)(H:Hp)(Q:List (V × V)->Hp->Prop),Inv X pins σ H s->yx Li σ H Q->wpAny (model X.prog X.w) X.A (evalPairs (pairTrees keys values X.env pos)) (fun vs s'=>∃ps H',Inv X pins σ H' s'/\VV ps vs/\Q ps H') X.xe s
theorem Jl{X:Cx}{pos:Pos}:Zf X pos [] [] []:=fun pins s σ H Q I h=>pairTrees_nil_walk ⟨[],H,I,.nil,h⟩
theorem FJ{X:Cx}{pos:Pos}{k v:Expr}{ks:List (Option Expr)}{vs:List Expr}{tk tv:TE}{Li:List (TE×TE)}(hk:PE X k tk)(hv:PE X v tv)(hr:Zf X pos ks vs Li):Zf X pos (some k::ks) (v::vs) ((tk,tv)::Li):=fun pins s σ H Q I h=>pairTrees_cons_walk (bC (hk pins s σ H _ I h) fun u s1⟨x,H1,I1,rx,q1⟩=>bC (hv pins s1 σ H1 _ I1 q1) fun w2 s2⟨y,H2,I2,ry,q2⟩=>bC (hr pins s2 σ H2 _ I2 q2) fun ws s3⟨ps,H3,I3,rel,q3⟩=>⟨(x,y)::ps,H3,I3,.cons ⟨rx,ry⟩ rel,q3⟩)
noncomputable def mD(kvs more:List (Key×V)):List (Key×V):=more.foldl (fun acc kv=>putK acc kv.1 kv.2) kvs
theorem KV.merge:∀{more:List (Key×V)}{rs:List (Key×Value)}{kvs:List (Key×V)}{vs:List (Key×Value)},KV more rs->KV kvs vs->KV (mD kvs more) (merged vs rs):=by intro more rs kvs vs r;unfold KV at r;induction r generalizing kvs vs with|nil=>intro q;exact q|@cons p q ps qs h t ih=>
   intro r0;have e:KV (putK kvs p.1 p.2) (stored vs q.1 q.2):=by have:=r0.put p.1 h.2;rw[<-h.1];exact this
   exact ih e
theorem jB:∀(more kvs:List (Key×V)),(mD kvs more).length<=kvs.length+more.length|[],kvs=>by show kvs.length<=kvs.length+0;omega|p::r,kvs=>by have h1:=jB r (putK kvs p.1 p.2);have h2:=iu kvs p.1 p.2;show(mD (putK kvs p.1 p.2) r).length<=_;rw[length_cons];omega
theorem o4{P:Program}{w:World}:∀{kvs:List (Key×V)}{ws:List (Value×Value)},VV (kvs.map fun kv=>(kV kv.1,kv.2)) ws->∃rs,Carries (aN P w) ws rs/\KV kvs rs|[],_,r=>by rw[map_nil]at r;cases r;exact⟨[],True.intro,.nil⟩|p::kvs,_,r=>by rw[map_cons]at r;cases r with|@cons a b as bs h t=>obtain⟨rs,c,q⟩:=o4 (P:=P) (w:=w) t;obtain⟨b1,b2⟩:=b;exact⟨(p.1,b2)::rs,⟨pY h.1,rfl,c⟩,.cons ⟨rfl,h.2⟩ q⟩
def U8(Li:List (TE×TE)):TE:=fun σ H Q=>∀p,H p=none->yx Li σ (upd H p (.dK [])) fun ps H2=>H2 p=some (.dK [])/\∃kvs:List (Key×V),ps=kvs.map (fun kv=>(kV kv.1,kv.2))/\kvs.length<=15/\Q (.ref p) (upd H2 p (.dK (mD [] kvs)))
theorem JZ{X:Cx}{pos:Pos}{keys:List (Option Expr)}{values:List Expr}{Li:List (TE×TE)}(h:Zf X pos keys values Li)(hall:keys.all (·.isSome)=true)(hl:keys.length=values.length)(h0:keys≠[])(h15:keys.length<=15):PE X (.Dict keys values pos) (U8 Li):=by
 intro pins s σ H Q I q;have hn:=I.hok.fresh (le_refl s.heap.objs.size);have I1:=I.laid (a:=s.heap.objs.size) (o:=.dK []) (h':=s.heap.push {cls:=.type "dict",data:=.dict #[]}) (t':=s.toks) (fun _ _ q=>get?_push_of_some _ q) (le_refl _) (wK s.heap I.big);refine wpAny_Dict_walk (knd:=aN X.prog X.w) hall hl h0 h15 (bC (h pins _ σ _ _ I1 (q _ hn)) fun ws s2⟨ps,H2,I2,rel,e,kvs,ep,lk,q2⟩=>?_);subst ep;obtain⟨rs,c,rk⟩:=o4 (P:=X.prog) (w:=X.w) rel;obtain⟨z,hd,vs0,r0,dd⟩:=Mf I2.hok e;cases r0;refine⟨rs,c,dd,fun h' R8 hs=>⟨.ref s.heap.objs.size,_,?_,rfl,q2⟩⟩;have hz:(mD [] kvs).length<=sizeLine:=by have h1:=jB kvs [];rw[length_nil]at h1;rw[sizeLine_eq];omega
 have he:∃q,h'.get? s.heap.objs.size=some q:=let⟨q,_,_,hq,_⟩:=R8;⟨q,hq⟩;exact sJ I2 (by rw[e];exact True.intro) hs he (GP hz hd (rk.merge .nil) R8)
structure M2(X:Cx)(o:Expr)(m:Str)(apos:Pos)(e f:Expr)(cpos:Pos):Prop where
 base:attributeBase o m X.env (eval o X.env)=eval o X.env
 few:((backTo cpos (starEach [e,f] X.env)).all (fun x=>!x.1)&&(backToKw cpos (keywordEach [] X.env)).all (fun x=>x.1.isSome)&&decide (([e,f]:List Expr).length+([]:List Keyword).length+(if([]:List Keyword).isEmpty then 0 else 1)<30))=true
 line:(apos.endLine==cpos.line)=true
 trees:backTo cpos (starEach [e,f] X.env)=[(false,eval e X.env),(false,eval f X.env)]
def IsD(H:Hp)(a:Addr):Prop:=(∃kvs,Rd H a (.dK kvs))\/∃kvs,Rd H a (.dT kvs)
theorem Qa{X:Cx}{pins:List (Addr×Obj)}{σ:St}{H:Hp}{s:Shared}{a:Addr}(I:Inv X pins σ H s)(d:IsD H a):s.TypeIs (.ref a) "dict"/\(∀b,Value.ref a=.ref b->∃ob,s.heap.get? b=some ob/\ob.dict=none)/\(a==sysModules)=false:=by
 rcases d with⟨kvs,e⟩|⟨kvs,e⟩;.obtain⟨_,hd,vs,_,dd⟩:=oh I.hok e;refine⟨dd.typeIs,fun b q=>?_,hd⟩;cases q;obtain⟨ob,_,_,h1,h2,_⟩:=dd;exact⟨ob,h1,h2.2.1⟩
 .obtain⟨_,hd,xs,_,dd⟩:=pA I.hok e;refine⟨dd.typeIs,fun b q=>?_,hd⟩;cases q;obtain⟨ob,_,_,h1,h2,_⟩:=dd;exact⟨ob,h1,h2.2.1⟩
section
variable{X:Cx}{pins:List (Addr×Obj)}{σ:St}{H:Hp}{s:Shared}{a:Addr}{y d:V}{u r:Value}{o:Option V}{A:Around}{E:Value->Shared->Prop}
theorem Qt{Q:Value->Shared->Prop}(hu:A.units+1<cLine)(I:Inv X pins σ H s)(g:mz H a y o)(ry:RelV y u)(rd:RelV d r)(h:∀w' s',Inv X pins σ H s'->RelV (o.getD d) w'->Q w' s'):wpAny (model X.prog X.w) A (call (.builtin "dict.get") [.ref a,u,r]) Q E s:=by
 rcases g with⟨kvs,k,e,ey,l⟩|⟨kvs,k,b,e,ey,eb,l⟩;.subst ey;obtain⟨z,hd,vs,rel,dd⟩:=oh I.hok e;refine call_meetsIn slot_dict_get dd.typeIs PySem.F.entry_dict_get (PySem.F.args_dict_get_3 _ _ _) (meets_dict_get_default (aN X.prog X.w) a (pY ry) hd r) ⟨_,dd.mapOf,h _ _ (I.tok _) ?_⟩;rw[l];exact(rel.val k).getD rd
 .subst ey;cases(show u=Value.ref b from ry);obtain⟨z,hd,xs,rel,dd⟩:=pA I.hok e;refine call_meetsIn slot_dict_get dd.typeIs PySem.F.entry_dict_get (PySem.F.args_dict_get_3 _ _ _) (meetsH_dict_get_default (tupleKind (aN X.prog X.w)) a b hd r) ⟨tupleKind_room_in1 hu,k,xs,lN I.hok eb,dd,h _ _ (I.tok _) ?_⟩;rw[l];exact(rel.val k).getD rd
end
def Oz(td ty tx:TE):TE:=fun σ H Q=>td σ H fun x H1=>∃a,x=.ref a/\IsD H1 a/\ty σ H1 fun y H2=>tx σ H2 fun z H3=>∃o,mz H3 a y o/\Q (o.getD z) H3
section
variable{X:Cx}{o e f:Expr}{apos cpos:Pos}{td ty tx:TE}
theorem G9(hu:X.A.units+1<cLine)(ho:PE X o td)(he:PE X e ty)(hf:PE X f tx)(m:M2 X o "get" apos e f cpos):PE X (.Call (.Attribute o "get" apos) [e,f] [] cpos) (Oz td ty tx):=by intro pins s σ H Q I h;refine wpAny_Call_method m.base m.few m.line PySem.F.plainAttrs_dict slot_dict_get PySem.F.type_dict_get (bC (ho pins s σ H _ I h) fun u s1⟨x,H1,I1,rx,a,ex,d,q1⟩=>?_);subst ex;obtain rfl:u=Value.ref a:=rx;obtain⟨t1,t2,_⟩:=Qa I1 d;refine⟨t1,t2,?_⟩;rw[m.trees];refine Calls.callWith_builtin rfl (Calls.evalArgs_plain (Calls.spliced_cons (bC (he pins s1 σ H1 _ I1 q1) fun iv s2⟨y,H2,I2,ry,q2⟩=>Calls.spliced_cons (bC (hf pins s2 σ H2 _ I2 q2) fun fv s3⟨z,H3,I3,rz,ov,g,q3⟩=>Calls.spliced_nil ?_))));exact Qt hu I3 g ry rz fun w' s4 I4 uD=>⟨_,H3,I4,uD,q3⟩
end
end L2
namespace Z3
open PySem PySem.W PySem.Calls PyProof.Rows
end Z3
namespace L2
open PySem PySem.Spec PyProof.Rows
end L2
end
section
namespace HH
open PySem L2 PySem.Spec PyProof.Rows
inductive KR(K:PySem.W.Frag)(F:Hp):List (Int×D)->List (Key×V)->Prop where|nil:KR K F [] []|cons{k:Int}{d:D}{v:V}{kvs:List (Int×D)}{es:List (Key×V)}(h:Rep K F v d)(t:KR K F kvs es):KR K F ((k,d)::kvs) ((Sum.inl k,v)::es)
section
variable{K:PySem.W.Frag}{F F':Hp}
noncomputable def ent(ks:List Int)(vs:List V):List (Key×V):=(ks.zip vs).map fun p=>(Sum.inl p.1,p.2)
theorem KR.of:∀{kvs:List (Int×D)}{vs:List V},au K F vs (kvs.map (·.2))->KR K F kvs (ent (kvs.map (·.1)) vs)|[],vs,h=>by rw[map_nil]at h;rw[h.fu];exact .nil|(k,d)::kvs,vs,h=>by obtain⟨v,r,rfl,h1,h2⟩:=h.bT;exact .cons h1 (KR.of h2)
theorem KR.to{kvs:List (Int×D)}{es:List (Key×V)}(h:KR K F kvs es):∃vs,es=ent (kvs.map (·.1)) vs/\au K F vs (kvs.map (·.2)):=by induction h with|nil=>exact⟨[],rfl,.nil⟩|@cons k d v kvs es h t ih=>obtain⟨vs,rfl,r⟩:=ih;exact⟨v::vs,rfl,.cons h r⟩
theorem KR.oc{kvs:List (Int×D)}{es:List (Key×V)}(h:KR K F kvs es):jy K F (.dK es) (.v kvs):=by obtain⟨vs,rfl,r⟩:=h.to;exact⟨vs,rfl,r⟩
theorem KR.O6{kvs:List (Int×D)}{o:HO}(h:jy K F o (.v kvs)):∃es,o=.dK es/\KR K F kvs es:=by obtain⟨vs,rfl,r⟩:=h;exact⟨_,rfl,.of r⟩
theorem KR.len{kvs:List (Int×D)}{es:List (Key×V)}(h:KR K F kvs es):es.length=kvs.length:=by induction h with|nil=>rfl|cons h t ih=>simp[ih]
theorem KR.get{kvs:List (Int×D)}{es:List (Key×V)}{k:Int}{d:D}(h:KR K F kvs es)(e:lK kvs k=some d):∃v,gZ es (Sum.inl k:Key)=some v/\Rep K F v d:=by induction h with|nil=>cases e|@cons j d' v kvs es h t ih=>
   unfold lK at e ih;rw[find?_cons]at e;by_cases c:j=k;.simp[c]at e;subst e;exact⟨v,km (by rw[c]),h⟩
   .simp[c]at e;obtain⟨v',h1,h2⟩:=ih (by simpa using e);exact⟨v',by rw[j6 (by simpa using c)];exact h1,h2⟩
theorem KR.any{kvs:List (Int×D)}{es:List (Key×V)}(k:Int)(h:KR K F kvs es):(es.any fun kv=>decide (kv.1=(Sum.inl k:Key)))=kvs.any fun p=>decide (p.1=k):=by induction h with|nil=>rfl|cons h t ih=>simp[ih]
theorem KR.has{kvs:List (Int×D)}{es:List (Key×V)}(k:Int)(h:KR K F kvs es):(gZ es (Sum.inl k:Key)).isSome=(kvs.map (·.1)).contains k:=by rw[<-p7,h.any k];induction h with|nil=>rfl|@cons j d v kvs es h t ih=>rw[any_cons,ih,map_cons,List.contains_cons];congr 1;exact Bool.eq_iff_iff.mpr ⟨fun z=>by simp at z ⊢;exact z.symm,fun z=>by simp at z ⊢;exact z.symm⟩
theorem KR.repl{kvs:List (Int×D)}{es:List (Key×V)}{k:Int}{d:D}{v:V}(r:Rep K F v d)(h:KR K F kvs es):KR K F (kvs.map fun p=>if p.1=k then(p.1,d)else p) (es.map fun kv=>if kv.1=(Sum.inl k:Key)then(kv.1,v)else kv):=by induction h with|nil=>exact .nil|@cons j d' v' kvs es h t ih=>
   by_cases c:j=k;.subst c;simp;exact .cons r ih
   . have:¬(Sum.inl j:Key)=Sum.inl k:=by simpa using c
     simp[c,this];exact .cons h ih
theorem KR.snoc{kvs:List (Int×D)}{es:List (Key×V)}{k:Int}{d:D}{v:V}(r:Rep K F v d)(h:KR K F kvs es):KR K F (kvs++[(k,d)]) (es++[(Sum.inl k,v)]):=by induction h with|nil=>exact .cons r .nil|cons h t ih=>exact .cons h ih
theorem KR.put{kvs:List (Int×D)}{es:List (Key×V)}{k:Int}{d:D}{v:V}(r:Rep K F v d)(h:KR K F kvs es):KR K F (fH kvs k d) (putK es (Sum.inl k:Key) v):=by
 unfold fH putK;rw[h.any k];split;.exact h.repl r
 .exact h.snoc r
theorem KR.zip{ks:List Int}{ds:List D}{vs:List V}(h:au K F vs ds)(hl:ks.length=ds.length):KR K F (ks.zip ds) (ent ks vs):=by induction ds generalizing ks vs with
 |nil=>rw[h.fu];cases ks with|nil=>exact .nil|cons _ _=>simp at hl
 |cons d ds ih=>obtain⟨v,r,rfl,h1,h2⟩:=h.bT;cases ks with|nil=>simp at hl|cons k ks=>exact .cons h1 (ih h2 (by simpa using hl))
end
section
variable{K:PySem.W.Frag}{F F1 H H1:Hp}{ρ ρ1 ρ2:List Sl}{σ σ1:L2.St}
theorem GS.aci{x:Nat}{m m':Dc}{a:Addr}(g:GS K F ρ σ H)(e:ρ[x]?=some (.eY m))(hx:σ[x]?=some (some (.ref a))):aq K F ρ σ H F (ρ.set x (.eY m')) σ (upd H a m'.ho):=by
 have hi:x<ρ.length:=(List.getElem?_eq_some_iff.mp e).1;have oa:aK ρ σ x a:=⟨⟨_,_,e,rfl⟩,hx⟩;obtain⟨a',o0,h1,h2,h3,h4⟩:=g.own x _ _ e rfl;rw[hx]at h1;cases h1;have old:∀{j:Nat}{c:Addr},aK (ρ.set x (.eY m')) σ j c->aK ρ σ j c:=fun{j c}⟨⟨t,dt,q1,q2⟩,q3⟩=>by
  by_cases hj:j=x;.subst hj;exact⟨⟨_,_,e,rfl⟩,q3⟩
  .rw[getElem?_set_ne (Ne.symm hj)]at q1;exact⟨⟨t,dt,q1,q2⟩,q3⟩
 refine⟨⟨fun c o q=>?_,by simp[g.len],fun j b' d q=>?_,fun j t dt q q'=>?_,fun j k c q1 q2=>g.dis j k c (old q1) (old q2)⟩,.refl _,fun c n n'=>absurd n n',fun c o q n=>?_,fun c⟨j,q⟩=>.inl ⟨j,old q⟩,by simp,fun j t q l=>⟨rfl,?_⟩⟩
 . have:c≠a:=by rintro rfl;rw[h3]at q;cases q
   rw[ao this];exact g.sub c o q
 . by_cases hj:j=x;.subst hj;rw[getElem?_set_self hi]at q;cases q
   .rw[getElem?_set_ne (Ne.symm hj)]at q;exact g.val j b' d q
 . by_cases hj:j=x;.subst hj;rw[getElem?_set_self hi]at q;cases q;cases q';exact⟨a,_,hx,aH,h3,rfl⟩
   . rw[getElem?_set_ne (Ne.symm hj)]at q;obtain⟨c,zs,w1,w2,w3,w4⟩:=g.own j t dt q q';have:c≠a:=by rintro rfl;exact hj (g.dis j x c ⟨⟨t,dt,q,q'⟩,w1⟩ oa)
     exact⟨c,zs,w1,by rw[ao this];exact w2,w3,w4⟩
 . have:c≠a:=by rintro rfl;exact n ⟨x,oa⟩
   rw[ao this];exact q
 . by_cases hj:j=x;.subst hj;rw[e]at q;cases q;cases l
   .exact⟨t,by rw[getElem?_set_ne (Ne.symm hj)];exact q,.refl t⟩
theorem GS.newD{i:Nat}{m:Dc}{a:Addr}(g:GS K F ρ σ H)(e:ρ[i]?=some .aP)(ha:H a=none):aq K F ρ σ H F (ρ.set i (.eY m)) (σ.set i (some (.ref a))) (upd H a m.ho):=by
 have hi:i<ρ.length:=(List.getElem?_eq_some_iff.mp e).1;have hi':i<σ.length:=by rw[<-g.len];exact hi
 have fa:F a=none:=by cases q:F a with|none=>rfl|some o=>rw[g.sub a o q]at ha;cases ha
 have old:∀{j:Nat}{c:Addr},j≠i->aK (ρ.set i (.eY m)) (σ.set i (some (.ref a))) j c->aK ρ σ j c:=fun{j c}hj⟨⟨t,ds,e1,e2⟩,e3⟩=>by rw[getElem?_set_ne (Ne.symm hj)]at e1 e3;exact⟨⟨t,ds,e1,e2⟩,e3⟩
 have new:∀{c:Addr},aK (ρ.set i (.eY m)) (σ.set i (some (.ref a))) i c->c=a:=fun{c}⟨_,e3⟩=>by rw[getElem?_set_self hi']at e3;cases e3;rfl
 have no:∀{j:Nat},¬ aK ρ σ j a:=fun{j}⟨⟨t,ds,e1,e2⟩,e3⟩=>by obtain⟨c,o,q1,q2,_⟩:=g.own j t ds e1 e2;rw[e3]at q1;cases q1;rw[ha]at q2;cases q2
 refine⟨⟨fun c o q=>?_,by simp[g.len],fun j b' d q=>?_,fun j t dt q q'=>?_,fun j k c q1 q2=>?_⟩,.refl _,fun c n n'=>absurd n n',fun c o q n=>?_,fun c⟨j,q⟩=>?_,by simp,fun j t q l=>?_⟩
 . have:c≠a:=by rintro rfl;rw[fa]at q;cases q
   rw[ao this];exact g.sub c o q
 . by_cases hj:j=i;.subst hj;rw[getElem?_set_self hi]at q;cases q
   .rw[getElem?_set_ne (Ne.symm hj)]at q ⊢;exact g.val j b' d q
 . by_cases hj:j=i;.subst hj;rw[getElem?_set_self hi]at q;cases q;cases q';exact⟨a,_,getElem?_set_self hi',aH,fa,rfl⟩
   . rw[getElem?_set_ne (Ne.symm hj)]at q ⊢;obtain⟨c,o,w1,w2,w3,w4⟩:=g.own j t dt q q';have:c≠a:=by rintro rfl;rw[ha]at w2;cases w2
     exact⟨c,o,w1,by rw[ao this];exact w2,w3,w4⟩
 . by_cases hj:j=i
   . by_cases hk:k=i;.rw[hj,hk]
     .subst hj;rw[new q1]at q2;exact absurd (old hk q2) no
   . by_cases hk:k=i;.subst hk;rw[new q2]at q1;exact absurd (old hj q1) no
     .exact g.dis j k c (old hj q1) (old hk q2)
 . have:c≠a:=by rintro rfl;rw[ha]at q;cases q
   rw[ao this];exact q
 . by_cases hj:j=i;.subst hj;rw[new q];exact .inr ha
   .exact .inl ⟨j,old hj q⟩
 . have hj:j≠i:=by rintro rfl;rw[e]at q;cases q;cases l
   exact⟨by rw[getElem?_set_ne (Ne.symm hj)],t,by rw[getElem?_set_ne (Ne.symm hj)];exact q,.refl t⟩
end
noncomputable def qi(p:Int×Int):Key×V:=(Sum.inl p.1,V.int p.2)
theorem GC(i:Int):∀kvs:List (Int×Int),gZ (kvs.map qi) (Sum.inl i:Key)=((kvs.find? fun kv=>decide (kv.1=i)).map (·.2)).map V.int
 |[]=>rfl|p::kvs=>by
   have ih:=GC i kvs;unfold gZ at ih ⊢;rw[map_cons,find?_cons,find?_cons];by_cases h:p.1=i
   . have e:decide ((qi p).1=(Sum.inl i:Key))=true:=by simp[qi,h]
     rw[e];simp[h,qi]
   . have e:decide ((qi p).1=(Sum.inl i:Key))=false:=by simp[qi,h]
     rw[e];simp only[h,decide_false];exact ih
theorem QS(i v:Int)(kvs:List (Int×Int)):putK (kvs.map qi) (Sum.inl i:Key) (V.int v)=(putD kvs i v).map qi:=by
 have e:((kvs.map qi).any fun kv=>decide (kv.1=(Sum.inl i:Key)))=kvs.any fun kv=>decide (kv.1=i):=by rw[List.any_map];congr 1;funext p;simp[qi]
 unfold putK putD;rw[e];split
 . rw[map_map,map_map];refine map_congr_left fun p _=>?_;by_cases h:p.1=i;.simp[qi,h]
   .simp[qi,h]
 .rw[map_append];rfl
section
variable{X:Cx}{c:Call}{n:Nat}{a b e:Expr}{pa pb p:P}{pos:Pos}
theorem Dv{H:Hp}{q:Addr}{m:Dc}{i:Int}{o:Option Int}(h:Rd H q m.ho)(e:m.get (.int i)=some o):mz H q (.int i) (o.map V.int):=by cases m with|k kvs=>cases e;exact .inl ⟨kvs.map qi,Sum.inl i,h,rfl,(GC i kvs).symm⟩|t kvs=>cases e
theorem tQ(hu:X.A.units+8<cLine)(ha:SX X c a pa)(hb:SX X c b pb)(hs:Jp b):SX X c (.Subscript a b pos) (.bin .CK pa pb):=by refine tV (f:=zK) (fun h1 h2=>?_) ha hb (fun ρ=>rfl) rfl;intro pins s σ H Q I h;refine Bb PySem.F.slot_dict_getitem.lookup hs (bC (h1 pins s σ H _ I h) fun u s1⟨x,H1,I1,rx,q1⟩=>bC (h2 pins s1 σ H1 _ I1 q1) fun iv s2⟨y,H2,I2,ry,q2⟩=>?_);obtain⟨F,d,e,r,sm,px,py,he,k⟩:=q2;cases d with
 |cN m=>have zz:=bF (show(m.get e).bind (fun o=>o.map fun v=>R.val (.int v))=some r from he);clear he;obtain⟨o,e1,he⟩:=zz;cases o with|none=>cases he|some v=>
     cases he;obtain⟨i,rfl⟩:∃i,e=.int i:=by cases m with|t kvs=>cases e<;>cases e1|k kvs=>cases e<;>first|exact⟨_,rfl⟩|cases e1
     obtain⟨q,ob,rfl,hq⟩:=px.cN sm;rw[py.int]at ry;obtain rfl:u=Value.ref q:=rx;have g:=Dv (.inr ⟨ob,hq⟩) e1;exact⟨iw I2 g,lM (by omega) I2 g ry fun w' s3 I3 uD=>⟨.int v,H2,I3,uD,bK.cY sm (bH _) k⟩⟩
 |dv ks ds=>cases e with|int j=>obtain⟨d',e5,he⟩:=map_some (show(lK (ks.zip ds) j).map R.val=some r from he);subst he;obtain⟨q,ob,vs,rfl,hq,rs,hl⟩:=px.dv sm;obtain⟨v',g1,g2⟩:=(KR.zip rs hl).get e5;rw[py.int]at ry;obtain rfl:u=Value.ref q:=rx;have g:mz H2 q (.int j) (some v'):=.inl ⟨_,Sum.inl j,.inr ⟨ob,hq⟩,rfl,g1.symm⟩;exact⟨iw I2 g,lM (by omega) I2 g ry fun w' s3 I3 uD=>⟨v',H2,I3,uD,bK.cY sm g2 k⟩⟩|_=>cases he
 |_=>cases he
theorem J6{i:Nat}{x:Str}{pos' p2:Pos}(hN:X.N.Nodup)(hi:X.N[i]?=some x)(hx:Loc X.env.scope x)(hs:swapsWith (.Dict [] [] p2) (some (.Name x pos')) pos.line X.env=pure false:=by rfl)(hf:X.fn x=true\/X.env.scope.names.lookup x=some .local:=by first|exact .inl rfl|exact .inr rfl|assumption):SS X c n (.Assign [.Name x pos'] (.Dict [] [] p2) pos) (.Hz i false):=by
 refine cV (xN hN hi hx uR hs hf) ?_;rintro D σ H⟨F,ρ,fl,ρ',g,e,k⟩;rw[HH.X17]at e;split at e;.rename_i q;cases e;exact fun a ha=>k F _ _ (g.newD (m:=.k []) q ha)
 .cases e
theorem RV{i:Nat}{x:Str}{px apos cpos:Pos}{pk pd:P}(hu:X.A.units+8<cLine)(hN:X.N[i]?=some x)(hv:uY X.env.scope x)(ha:SX X c a pk)(hb:SX X c b pd)(m:M2 X (.Name x px) "get" apos a b cpos)(hd:(x==("__debug__":Str))=false:=by decide)(hcd:(x==("__classdict__":Str))=false:=by decide):SX X c (.Call (.Attribute (.Name x px) "get" apos) [a,b] [] cpos) (.UG i pk pd):=by
 obtain⟨ta,h1,h2⟩:=ha.bN;obtain⟨tb,h3,h4⟩:=hb.bN;refine⟨cT (G9 (by omega) (cW hN hv hd hcd) h1 h3 m) ?_,fun i h=>by cases h⟩;rintro σ H Q⟨F,ρ,r,ρ',g,e,k⟩;rw[HH.E21]at e;split at e
 . rename_i m0 q;obtain⟨kd,ρ1,e1,eA⟩:=aa e;clear e;obtain⟨dd,ρ2,e2,eB⟩:=aa eA;clear eA;obtain⟨a0,o0,w1,w2,w3,w4⟩:=g.own i _ _ q rfl;refine⟨.ref a0,w1,a0,rfl,?_,?_⟩;.cases(show o0=m0.ho from w4);cases m0 with|k kvs=>exact .inl ⟨_,.inl w2⟩|t kvs=>exact .inr ⟨_,.inl w2⟩
   . refine h2 g e1 fun v F1 H1 s1 pv=>h4 s1.gs e2 fun z F2 H2 s2 pz=>?_;split at eB
     . rename_i m1 q1;obtain⟨eC,e3⟩:=aA eB;clear eB;subst e3;obtain⟨o,e4,eD⟩:=bF eC;clear eC;obtain⟨w,e5,e6⟩:=map_some eD;subst e6;obtain⟨a1,o1,y1,y2,y3,y4⟩:=s2.gs.own i _ _ q1 rfl;rw[w1]at y1;cases y1;cases(show o1=m1.ho from y4);obtain⟨j,rfl⟩:∃j,kd=.int j:=by cases m1 with|t kvs=>cases kd<;>cases e4|k kvs=>cases kd<;>first|exact⟨_,rfl⟩|cases e4
       rw[bR e5]at pz;rw[pv.int,pz.int];refine⟨o.map V.int,Dv (.inl y2) e4,?_⟩;have:(o.map V.int).getD (V.int w)=V.int (o.getD w):=by cases o<;>rfl
       rw[this];exact k _ F2 H2 (s1.trans s2) (show Rep X.K F2 _ _ from bH _)
     .cases eB
 .cases e
theorem Kg{i:Nat}{x:Str}{px pos':Pos}{pk:P}(hu:X.A.units+8<cLine)(hN:X.N[i]?=some x)(hv:uY X.env.scope x)(ha:SX X c a pk)(he:SX X c e p)(hs:swapsWith e (some (.Subscript (.Name x px) a pos')) pos.line X.env=pure false:=by rfl)(hd:(x==("__debug__":Str))=false:=by decide)(hcd:(x==("__classdict__":Str))=false:=by decide):SS X c n (.Assign [.Subscript (.Name x px) a pos'] e pos) (.dput i pk p):=by
 obtain⟨ta,h1,h2⟩:=ha.bN;refine cV (zG (by omega) (cW hN hv hd hcd) h1 he.ev hs) ?_;rintro D σ H⟨F,ρ,fl,ρ',g,e,k⟩;rw[HH.X18]at e;obtain⟨r,ρ1,e1,eA⟩:=aa e;clear e;refine⟨F,ρ,r,ρ1,g,e1,fun v F1 H1 s1 rr=>?_⟩;split at eA
 . rename_i m0 q0;obtain⟨kd,ρ2,e2,eB⟩:=aa eA;clear eA;obtain⟨a0,o0,w1,w2,w3,w4⟩:=s1.gs.own i _ _ q0 rfl;refine⟨.ref a0,w1,h2 s1.gs e2 fun y F2 H2 s2 py=>?_⟩;split at eB
   . rename_i m w q;split at eB;.rename_i m' e4;cases eB;obtain⟨a1,o1,y1,y2,y3,y4⟩:=s2.gs.own i _ _ q rfl;rw[w1]at y1;cases y1;cases(show o1=m.ho from y4);cases(show v=.int w by have:Rep X.K F1 v (.int w):=rr;rwa[Rep]at this);refine⟨a0,upd H2 a0 m'.ho,rfl,?_,k F2 σ _ ((s1.trans s2).trans (s2.gs.aci q w1))⟩;cases m with|t kvs=>cases kd<;>cases e4|k kvs=>cases kd with|int j=>obtain⟨hl,e4⟩:=aW (show(if kvs.length<lim then some (Dc.k (putD kvs j w))else none)=some m' from e4);subst e4;rw[py.int];refine .inl ⟨kvs.map qi,Sum.inl j,y2,rfl,by rw[length_map,sizeLine_eq];exact hl,?_⟩;rw[QS];rfl|_=>cases e4
     .cases eB
   .cases eB
 .cases eA
end
end HH
end
section
namespace L2
open PySem PySem.Spec PyProof.Rows
noncomputable def Itk(a:Addr)(ob:Obj)(kvs:List (Key×V)):It:=⟨fun i H=>H a=some (.cC ob (.dK kvs))/\i<kvs.length,fun i H x H'=>H'=H/\∃p,kvs[i]?=some p/\x=kV p.1,fun i H=>H a=some (.cC ob (.dK kvs))/\kvs.length<=i⟩
theorem KV.get:∀{κ:Type}{kvs:List (κ×V)}{vs:List (κ×Value)}{i:Nat}{p:κ×V},KV kvs vs->kvs[i]?=some p->∃v,vs[i]?=some (p.1,v)|_,_,_,_,_,.nil,e=>by simp at e|_,_,_,0,_,.cons r _,e=>by simp at e;subst e;exact⟨_,by rw[List.getElem?_cons_zero,r.1]⟩|_,_,_,i+1,p,.cons _ t,e=>by obtain⟨v,h⟩:=KV.get (i:=i) (p:=p) t (by simpa using e);exact⟨v,by simpa using h⟩
theorem rG{X:Cx}{pins:List (Addr×Obj)}{σ:St}{H:Hp}{s:Shared}{a:Addr}{ob:Obj}{kvs:List (Key×V)}{es:Array DictEntry}{ep:Nat}(I:Inv X pins σ H s)(h:H a=some (.cC ob (.dK kvs)))(hd:ob.data=.dict es ep):(a==sysModules)=false/\∃vs,KV kvs vs/\s.heap.DictAt (aN X.prog X.w) a vs ep:=by obtain⟨ho,hz,hS,vs,r,dd⟩:=(show bh X.prog X.w H s.heap a (.cC ob (.dK kvs))from I.hok a _ h);obtain⟨o,es',ep',h1,h2,h3,h4⟩:=dd;rw[ho]at h1;cases h1;rw[hd]at h3;cases h3;exact⟨hS,vs,r,⟨ob,es,ho,h2,hd,h4⟩⟩
theorem Od{P:Program}{w:World}{k:Key}{u:Value}(h:(aN P w).is k u=true):RelV (kV k) u:=by
 rcases aZ h with⟨i,t,rfl,rfl⟩|⟨x,t,rfl,rfl⟩;.exact⟨t,rfl⟩
 .exact⟨t,rfl⟩
theorem Bs{P:Program}{w:World}{K:PySem.W.Frag}{tg:Expr}(a it:Addr)(ob:Obj)(kvs:List (Key×V))(es:Array DictEntry)(ep:Nat)(hd:ob.data=.dict es ep):Turn P w K tg (Itk a ob kvs) [it] it (fun i h=>h.IsKeyIter it a i kvs.length ep)where
 mem:=by simp
 obj:=fun i h st b hb=>by
  have e:b=it:=by simpa using hb
  subst e;obtain⟨o,e,c,d⟩:=st;exact⟨o,e,fun v z=>by rw[d]at z;cases z⟩
 keep:=fun i h h' st k=>st.at fun o e=>k it (by simp) o e;item:=by intro X hP hw hK hc i pins s σ H E I hf st hg;subst hP hw hK;obtain⟨hq,hi⟩:=hg;obtain⟨hS,vs,r,dd⟩:=rG I hq hd;have hl:vs.length=kvs.length:=(Paired.length r).symm;obtain⟨v,hx⟩:=KV.get r (show kvs[i]?=some kvs[i]by simp[hi]);obtain⟨f0,f1,f2,f3,f4,f5⟩:=hf it (by simp);refine wpAny_pyNext_dict_item (by rw[hl];exact st) dd hx fun u h' hu st' sb=>?_;have I1:Inv X pins σ H {s with heap:=h'}:=I.turned (t':=s.toks) (fun b o hb e=>(sb.2 b hb).trans e) f0 f1 f3 f4 f5;rw[hl]at st';obtain⟨o,e,c,d⟩:=id st';exact⟨u,rfl,Ax (s:={s with heap:=h'}) e c d (by decide) ⟨_,H,I1,Od hu,⟨rfl,_,by simp[hi],rfl⟩,st',fun b hb=>(hf b hb).1⟩⟩
 done:=by intro X hP hw hK hc i pins s σ H E I hf st hg;subst hP hw hK;obtain⟨hq,hi⟩:=hg;obtain⟨hS,vs,r,dd⟩:=rG I hq hd;have hl:vs.length=kvs.length:=(Paired.length r).symm;obtain⟨f0,f1,f2,f3,f4,f5⟩:=hf it (by simp);refine wpAny_pyNext_dict_end (I.ok.hd hc) (by rw[hl];exact st) dd (by simp[hl,hi]) fun h' he=>⟨rfl,?_⟩;exact I.turned (t':=s.toks) (fun b o hb e=>he b o hb e) f0 f1 f3 f4 f5
 self:=fun A i s Q E st hQ=>wpAny_pyIter_keyiter st hQ
section
variable{X:Cx}{tg:Expr}
theorem Kv{l:Expr}{tl:TE}(hl:PE X l tl):PI X tg l (fun σ H R=>tl σ H fun x H1=>∃a ob kvs,x=.ref a/\H1 a=some (.cC ob (.dK kvs))/\R (Itk a ob kvs) H1):=by
 intro pins s σ H R I h;refine bC (hl pins s σ H _ I h) ?_;rintro v s1⟨x,H1,I1,r1,a,ob,kvs,e,hq,q⟩;subst e;cases r1;obtain⟨ho,hz,hS,vs,r,dd⟩:=(show bh X.prog X.w H1 s1.heap a (.cC ob (.dK kvs))from I1.hok a _ hq);obtain⟨o,es,ep,h1,h2,h3,h4⟩:=id dd;rw[ho]at h1;cases h1;have hlen:vs.length=kvs.length:=(Paired.length r).symm;refine wpAny_pyIter_dict (knd:=aN X.prog X.w) (kvs:=vs) (ep:=ep) hS ⟨ob,es,ho,h2,h3,h4⟩ ?_;refine⟨s1.heap.objs.size,[s1.heap.objs.size],_,_,H1,rfl,I1.kept (t':=s1.toks) fun b o e=>get?_push_of_some _ e,Bs a _ ob kvs es ep h3,⟨_,get?_push_size _ rfl,rfl,by rw[hlen];rfl⟩,fun b hb=>?_,q⟩;have e:b=s1.heap.objs.size:=by simpa using hb
 subst e;exact I1.Hf (le_refl _) (I1.hok.fresh (le_refl _))
end
end L2
namespace HH
open PySem L2 PySem.Spec PyProof.Rows
section
variable{X:Cx}{c:Call}{tg e:Expr}{p:P}
theorem Io{ks:List Int}{es:List (Key×V)}{j:Nat}{p:Key×V}{i:Int}(h:es.map (·.1)=ks.map (Sum.inl:Int->Key))(e1:es[j]?=some p)(e2:ks[j]?=some i):p.1=Sum.inl i:=by
 have:(es.map (·.1))[j]?=(ks.map (Sum.inl:Int->Key))[j]?:=by rw[h]
 rw[getElem?_map,getElem?_map,e1,e2]at this;exact Option.some.inj this
theorem pW:∀{ks:List Int}{vs:List V},ks.length=vs.length->(ent ks vs).map (·.1)=ks.map (Sum.inl:Int->Key)|[],[],_=>rfl|k::ks,v::vs,h=>by have:=pW (ks:=ks) (vs:=vs) (by simpa using h);unfold ent at this ⊢;simpa using this|[],_::_,h=>by simp at h|_::_,[],h=>by simp at h
theorem Ih(h:SX X c e p):SI X c tg e (.blt .keys [p]):=by
 unfold SI;obtain⟨ta,h1,h2⟩:=h.bN;refine oU (Kv h1) ?_;rintro σ H R⟨F,ρ,ds,ρ1,g,eA,k⟩;obtain⟨r,ρ2,eB,eC⟩:=aa (show((HH.ev c (.blt .keys [p]) ρ).bind fun r ρ=>lift (items r.d) ρ)=.ok ds ρ1 from eA);obtain⟨eD,e3⟩:=aA eC;subst e3;rw[HH.E15]at eB;obtain⟨d,ρ3,e1,eE⟩:=aa eB;obtain⟨eF,e4⟩:=aA eE;subst e4;refine h2 g e1 fun v F' H' s pv=>?_;have hd:∃(ks:List Int)(es:List (Key×V))(a:Addr)(ob:Obj),ds=ks.map D.int/\v=.ref a/\H' a=some (.cC ob (.dK es))/\es.map (·.1)=ks.map (Sum.inl:Int->Key):=by cases d with
  |cN m=>cases m with|k kvs=>cases eF;cases eD;obtain⟨a,ob,rfl,hq⟩:=pv.cN s.gs.sub;exact⟨kvs.map (·.1),kvs.map qi,a,ob,by rw[map_map];rfl,rfl,hq,by rw[map_map,map_map];rfl⟩|t kvs=>cases eF
  |dv ks ds'=>cases eF;cases eD;obtain⟨a,ob,vs,rfl,hq,rs,hl⟩:=pv.dv s.gs.sub;exact⟨ks,ent ks vs,a,ob,rfl,rfl,hq,pW (by rw[rs.length];exact hl)⟩|_=>cases eF
 obtain⟨ks,es,a,ob,rfl,rfl,hq,hes⟩:=hd;have hle:es.length=ks.length:=by have:=congrArg List.length hes;simpa using this
 refine⟨a,ob,es,rfl,hq,k _ F' H' ⟨s.gs,fun n j F2 ρ2 σ2 H2 s2=>?_,fun F2 ρ2 σ2 H2 s2=>⟨s.trans s2,fun v r rr=>rr.later s⟩⟩⟩;have gm:=s.gs.more (n:=n) (τ:=replicate n none) (by simp);have hq2:=s2.keep a _ hq fun⟨j,⟨t,dt,q1,q2⟩,q3⟩=>by obtain⟨a',o',z1,z2,z3,z4⟩:=gm.own j t dt q1 q2;rw[q3]at z1;cases z1;rw[hq]at z2;cases z2;cases dt with|l ds=>obtain⟨xs,z,_⟩:=z4;cases z|d m=>cases m<;>cases z4|v kvs=>obtain⟨xs,z,_⟩:=z4;cases z
 refine⟨fun d hd=>?_,fun hj=>⟨hq2,by rw[hle];simpa using hj⟩⟩;have hj:j<ks.length:=by have:=(List.getElem?_eq_some_iff.mp hd).1;simpa using this
 refine⟨⟨hq2,by omega⟩,fun x uE⟨e5,q,e6,e7⟩=>?_⟩;subst e5;refine⟨F2,.refl s2.gs.sub,?_⟩;rw[getElem?_map]at hd;obtain⟨i,e8,e9⟩:=map_some hd;rw[e7,Io hes e6 e8,<-e9];exact bH _
end
end HH
end
section
namespace HH
open PySem L2 PySem.Spec PyProof.Rows PySem.Calls PySem.W
section
variable{X:Cx}{c:Call}{a:Expr}{pa:P}{pos:Pos}
theorem gG:∀{ns:List Int}{us:List Value},IntsAre us ns->Vals (ns.map V.int) us|_,_,.nil=>.nil|_,_,.cons n t r=>.cons ⟨t,rfl⟩ (gG r)
theorem my{K:PySem.W.Frag}{F:Hp}:∀ns:List Int,au K F (ns.map V.int) (ns.map D.int)|[]=>.nil|n::ns=>.cons (bH n) (my ns)
end
end HH
end
section
namespace HH
open PySem L2 PySem.Spec PyProof.Rows
theorem Inv.aaw{X:Cx}{pins:List (Addr×Obj)}{σ:L2.St}{H:Hp}{s:Shared}{a:Addr}{kvs:List (List Key×V)}(I:L2.Inv X pins σ H s)(h:H a=some (.dT kvs)):∃o,L2.Inv X pins σ (upd H a (.cC o (.dT kvs))) s:=by obtain⟨z,y,xs,r,o,es,ep,h1,h2,h3,h4,h5⟩:=(show bh X.prog X.w H s.heap a (.dT kvs)from I.hok a _ h);refine⟨o,I.write (h':=s.heap) (t':=s.toks) (by rw[h];exact trivial) (.inl rfl) (fun b u _ e=>e) ⟨o,h1⟩ ⟨h1,z,y,xs,KT.keeps r fun b ys q=>?_,o,es,ep,h1,h2,h3,h4,h5⟩⟩;rw[ao (by rintro rfl;rw[h]at q;cases q)];exact q
section
variable{X:Cx}{c:Call}{n:Nat}{a b e:Expr}{p pa pb:P}{pos:Pos}{es:List Expr}{ps:List P}{x1:Nat}{tpos:Pos}
theorem Lp{i:Nat}{x:Str}{px:Pos}(hN:X.N[i]?=some x)(hv:uY X.env.scope x)(hd:(x==("__debug__":Str))=false:=by decide)(hcd:(x==("__classdict__":Str))=false:=by decide):SX X c (.Name x px) (.vw i):=by
 have h:=cW (X:=X) (pos:=px) hN hv hd hcd;refine⟨?_,fun i h=>by cases h⟩;rintro pins s σ H Q I⟨F,ρ,r,ρ',g,e,k⟩;rw[HH.E22]at e;split at e
 . rename_i m q;cases e;obtain⟨a,h1,h2,h3⟩:=g.Af q;refine bC (h pins s σ H (fun v H'=>v=.ref a/\H'=H) I ⟨.ref a,h1,rfl,rfl⟩) fun u s1⟨v,H1,I1,r1,e1,e2⟩=>?_;subst e1 e2;have zz:∃o,L2.Inv X pins σ (upd H1 a (.cC o m.ho)) s1:=by cases m with|k kvs=>exact Inv.Gk I1 h2|t kvs=>exact Inv.aaw I1 h2
   obtain⟨o,I2⟩:=zz;exact⟨.ref a,_,I2,r1,k _ _ _ (h3 o).1 (h3 o).2⟩
 .rename_i kvs q;cases e;obtain⟨a,vs,h1,h2,h3⟩:=g.yW q;refine bC (h pins s σ H (fun v H'=>v=.ref a/\H'=H) I ⟨.ref a,h1,rfl,rfl⟩) fun u s1⟨v,H1,I1,r1,e1,e2⟩=>?_;subst e1 e2;obtain⟨o,I2⟩:=Inv.Gk I1 h2;exact⟨.ref a,_,I2,r1,k _ _ _ (h3 o).1 (h3 o).2⟩
 .cases e
end
end HH
end
section
namespace HH
open PySem L2 PySem.Spec PyProof.Rows
section
variable{K:PySem.W.Frag}{F H F' H':Hp}{ρ ρ':List Sl}{σ σ':L2.St}
def Kp(ρ:List Sl)(σ:L2.St)(H:Hp)(a:Addr)(o:HO):Prop:=H a=some o/\¬ Own ρ σ a
theorem Kp.stp{a:Addr}{o:HO}(h:Kp ρ σ H a o)(s:aq K F ρ σ H F' ρ' σ' H'):Kp ρ' σ' H' a o:=⟨s.keep a o h.1 h.2,fun z=>(s.uJ a z).elim h.2 fun e=>by rw[h.1]at e;cases e⟩
structure Wt(K:PySem.W.Frag)(F:Hp)(ρ:List Sl)(σ:L2.St)(H:Hp)(a:Addr)(ds:List D):Prop where
 ex:∃xs,Kp ρ σ H a (.lst xs)/\au K F xs ds
 fr:F a=none
theorem Wt.stp{a:Addr}{ds:List D}(h:Wt K F ρ σ H a ds)(s:aq K F ρ σ H F' ρ' σ' H'):Wt K F' ρ' σ' H' a ds:=by obtain⟨⟨xs,h1,h2⟩,h3⟩:=h;refine⟨⟨xs,h1.stp s,h2.mono s.bZ⟩,?_⟩;cases q:F' a with|none=>rfl|some o=>
   rcases s.wR a h3 (by rw[q];simp)with z|z;.exact absurd z h1.2
   .rw[h1.1]at z;cases z
end
end HH
end
section
namespace HH
open PySem L2 PySem.Spec PyProof.Rows PySem.Calls PySem.W
theorem J7{ns js:List Int}(p:js.Perm ns)(s:js.Pairwise (·<=·))(hl:ns.length<64):jQ (ns.map D.int)=js.map D.int:=by
 refine(lu ?_ (p.map D.int) ?_).symm;.simp only[sortable,length_map,and_eq_true,or_eq_true,decide_eq_true_eq];refine⟨by omega,.inl ?_⟩;rw[all_eq_true];intro x hx;obtain⟨i,_,rfl⟩:=mem_map.mp hx;rfl
 .rw[List.pairwise_map];refine s.imp fun{a b}h=>?_;simp only[lV,bO,aV,not_eq_true'];simp;omega
theorem Bk{prog:Program}{w:World}{A:Around}{E:Value->Shared->Prop}{s:Shared}{vs:List Value}{ns:List Int}{a:Addr}{n:Nat}{O:PySem.Fin->Shared->Prop}(ho:s.heap.get? a=some (seqObj "list" vs.toArray n))(ia:IntsAre vs ns)(h64:vs.length<64)(h:∀h' c(out:List Value)(js:List Int),(∀b o,b≠a->s.heap.get? b=some o->h'.get? b=some o)->IntsAre out js->jQ (ns.map D.int)=js.map D.int->js.length=ns.length->h'.get? a=some (seqObj "list" out.toArray c)->O (.done (.ret .none)) {s with heap:=h'}):wpAny (model prog w) A (Builtin.«list.sort» ⟨[.ref a],[]⟩) O E s:=by refine list_sort_tree ho ia h64 fun out js i1 p1 s1=>?_;have ha:a<s.heap.objs.size:=lt_size ho;obtain⟨e1,ho1⟩:∃e1,(s.heap.update a (Obj.mapSeq fun _=>(#[]:Array Value))).get? a=some (seqObj "list" #[] e1):=⟨_,get?_update_seq ho fun _=>#[]⟩;have ho6:(((s.heap.update a (Obj.mapSeq fun _=>(#[]:Array Value))).push (seqObj "tuple" vs.toArray 0)).push (seqObj "list" #[] 0)).get? a=some (seqObj "list" #[] e1):=get?_push_of_some _ (get?_push_of_some _ ho1);obtain⟨c,hc⟩:∃c,(sortedHeap s.heap a vs out).get? a=some (seqObj "list" out c):=⟨_,get?_update_seq ho6 fun _=>out⟩;refine h (sortedHeap s.heap a vs out) c out.toList js (fun b o hb e=>?_) i1 (J7 p1 s1 (by rw[<-IntsAre.length ia];exact h64)) p1.length_eq (by rw[hc]);exact(get?_update_other _ _ (Ne.symm hb)).trans (get?_push_of_some _ (get?_push_of_some _ ((get?_update_other _ _ (Ne.symm hb)).trans e)))
end HH
end
section
namespace HH
open PySem
def m8(l:List Nat):Prop:=∀i j(hi:i<l.length)(hj:j<l.length),i<j->l[i]<l[j]
theorem fU{l:List Nat}:m8 l↔l.Pairwise (·<·):=by rw[List.pairwise_iff_getElem];exact Iff.rfl
theorem pF{xs:Array Nat}{j:Nat}(r:m8 xs.toList):∀(f lo hi:Nat),hi-lo<=f->lo<=hi->hi<=xs.size->(∀k(h:k<xs.size),k<lo->xs[k]<j)->(∀k(h:k<xs.size),hi<=k->j<=xs[k])->∃i,SetTable.below.go xs j f lo hi=i/\i<=xs.size/\(∀k(h:k<xs.size),k<i->xs[k]<j)/\(∀k(h:k<xs.size),i<=k->j<=xs[k])
 |0,lo,hi,h1,h2,h3,h4,h5=>⟨lo,rfl,by omega,h4,fun k h hk=>h5 k h (by omega)⟩|f+1,lo,hi,h1,h2,h3,h4,h5=>by
   unfold SetTable.below.go;by_cases c:lo<hi
   . rw[if_pos c];have hm:(lo+hi)/2<xs.size:=by omega
     have e:xs.getD ((lo+hi)/2) j=xs[(lo+hi)/2]:=by simp[Array.getD,hm]
     dsimp only;rw[e];by_cases d:xs[(lo+hi)/2]<j
     . rw[if_pos d];refine pF r f _ _ (by omega) (by omega) h3 (fun k h hk=>?_) h5;by_cases q:k=(lo+hi)/2;.subst q;exact d
       .have:=r k ((lo+hi)/2) (by simpa using h) (by simpa using hm) (by omega);simp only[getElem_toList]at this;omega
     . rw[if_neg d];refine pF r f _ _ (by omega) (by omega) (by omega) h4 (fun k h hk=>?_);by_cases q:k=(lo+hi)/2;.subst q;omega
       .have:=r ((lo+hi)/2) k (by simpa using hm) (by simpa using h) (by omega);simp only[getElem_toList]at this;omega
   .rw[if_neg c];exact⟨lo,rfl,by omega,h4,fun k h hk=>h5 k h (by omega)⟩
theorem below_at{xs:Array Nat}{j:Nat}(r:m8 xs.toList):SetTable.below xs j<=xs.size/\(∀k(h:k<xs.size),k<SetTable.below xs j->xs[k]<j)/\(∀k(h:k<xs.size),SetTable.below xs j<=k->j<=xs[k]):=by obtain⟨i,e,q⟩:=pF (j:=j) r xs.size 0 xs.size (by omega) (by omega) (by omega) (fun k h hk=>by omega) (fun k h hk=>by omega);rw[show SetTable.below xs j=i from e];exact q
theorem KQ{xs:Array Nat}{j:Nat}(r:m8 xs.toList)(n:xs[SetTable.below xs j]?≠some j):m8 (SetTable.insertAt xs (SetTable.below xs j) j).toList:=by
 obtain⟨h1,h2,h3⟩:=below_at (j:=j) r;rw[SetTable.toList_insertAt,fU];rw[fU]at r;have rs:=r;rw[<-take_append_drop (SetTable.below xs j) xs.toList,List.pairwise_append]at rs;rw[List.pairwise_append];have hd:∀x∈xs.toList.drop (SetTable.below xs j),j<x:=fun x hx=>by
  obtain⟨k,hk,rfl⟩:=mem_iff_getElem.mp hx;rw[List.getElem_drop];have hk':SetTable.below xs j+k<xs.size:=by simp at hk;omega
  have q:=h3 (SetTable.below xs j+k) hk' (by omega);simp only[getElem_toList];refine Nat.lt_of_le_of_ne q fun e=>n ?_;by_cases z:k=0;.subst z;rw[getElem?_eq_getElem (by omega)];simpa using e.symm
  . have lt:SetTable.below xs j<xs.size:=by omega
    have r':=(fU.mpr r) (SetTable.below xs j) (SetTable.below xs j+k) (by simpa using lt) (by simpa using hk') (by omega);have:=h3 _ lt (by omega);simp only[getElem_toList]at r';omega
 refine⟨rs.1,List.pairwise_cons.mpr ⟨hd,rs.2.1⟩,fun a ha b hb=>?_⟩;have hl:a<j:=by obtain⟨k,hk,rfl⟩:=mem_iff_getElem.mp ha;rw[List.getElem_take];simp at hk;have:=h2 k (by omega) (by omega);simpa using this
 rcases mem_cons.mp hb with rfl|hb;.exact hl
 .exact lt_trans hl (hd b hb)
def Ca(b:Bool)(t:SetTable):Prop:=t.led=b/\t.dummies=#[]/\m8 t.place.toList
theorem xq(n:Nat):m8 (Array.range n).toList:=by rw[fU];simpa using List.pairwise_lt_range
theorem kE{b:Bool}{t:SetTable}(g:Ca b t)(n:Nat):Ca b (t.standIn n):=⟨g.1,rfl,xq n⟩
theorem Vf{b:Bool}{t:SetTable}(g:Ca b t)(n:Nat):Ca b (t.orStandIn n):=by
 unfold SetTable.orStandIn;split;.exact g
 .exact kE g n
theorem Eo{b:Bool}{t:SetTable}(g:Ca b t):Ca b {t with plain:=false}:=g
theorem zY(j:Nat):SetTable.has #[] j=false:=by simp[SetTable.has]
theorem wz{t:SetTable}{hs:Nat->Int}{h:Int}(hd:t.dummies=#[]):∀(f:Nat)(p:SetTable.Probe)(j:Nat)(o:Option Nat),p.dummy=none->probe.go t hs h f p=some (.empty j o)->o=none/\t.slot j=.empty
 |0,p,j,o,e,q=>by simp[probe.go]at q|f+1,p,j,o,e,q=>by
   unfold probe.go at q;split at q;.rename_i hs;cases q;exact⟨e,hs⟩
   .rename_i hsl;unfold SetTable.slot at hsl;rw[hd,zY]at hsl;dsimp only at hsl;split at hsl<;>simp at hsl
   . split at q;.cases q
     .exact wz hd f _ j o (by unfold SetTable.advance;split<;>exact e) q
theorem Oo{b:Bool}{t:SetTable}(g:Ca b t)(es:Array (Int×Value))(h:Int)(x:Value):Ca b (layNew t es h x).2.1:=by unfold layNew;cases hf:t.freeSlot h with|none=>exact kE g _|some sd=>
   obtain⟨slot,wd⟩:=sd;have:t.slot slot=.empty:=by
    unfold SetTable.freeSlot at hf;split at hf;.rename_i j d hq;obtain⟨e1,e2⟩:=wz g.2.1 _ _ j d rfl hq;subst e1;cases hf;exact e2
    .cases hf
   dsimp only;refine Vf (t:=(t.put slot).1) ⟨g.1,?_,?_⟩ _;.show(if SetTable.has t.dummies slot then _ else t.dummies)=#[];rw[g.2.1,zY];rfl
   .refine KQ g.2.2 fun e=>?_;unfold SetTable.slot at this;dsimp only at this;rw[e]at this;simp at this
theorem Dn{b:Bool}{t:SetTable}(g:Ca b t)(es:Array (Int×Value))(n:Nat):Ca b (relayAll t es n).2.1:=by
 unfold relayAll;split
 . rename_i t' order hr;dsimp only;split;.unfold SetTable.relaid SetTable.laid at hr;cases hc:SetTable.layClean (SetTable.sizeAbove n-1) (es.map (·.1))with|none=>rw[hc]at hr;cases hr|some owner=>rw[hc]at hr;cases hr;refine⟨g.1,rfl,?_⟩;rw[fU];dsimp only;rw[List.pairwise_map,List.pairwise_filterMap];refine List.pairwise_lt_range.imp fun{a b}hab=>?_;intro x hx y hy;cases ha:owner.getD a none with|none=>rw[ha]at hx;cases hx|some u=>cases hb:owner.getD b none with|none=>rw[hb]at hy;cases hy|some v=>rw[ha]at hx;rw[hb]at hy;cases hx;cases hy;exact hab
   .exact kE g _
 .exact kE g _
theorem qG{α:Type}{nx:Nat->Nat}:∀(f k:Nat)(l:List α)(out:Array α),l.length=f->(pickOrder.go nx f k l out).toList.Perm (out.toList++l)
 |0,k,l,out,h=>by rw[List.length_eq_zero_iff.mp h];simp[pickOrder.go]|f+1,k,l,out,h=>by
   unfold pickOrder.go;have hm:nx k%l.length<l.length:=mod_lt _ (by omega);rw[List.getElem?_eq_getElem hm];refine(qG f (k+1) _ _ (by rw[List.length_eraseIdx];simp[hm];omega)).trans ?_;rw[toList_push,append_assoc];refine List.Perm.append_left _ ?_;rw[List.eraseIdx_eq_take_drop_succ];have e:l=l.take (nx k%l.length)++l[nx k%l.length]::l.drop (nx k%l.length+1):=by rw[List.getElem_cons_drop,take_append_drop]
   conv=>rhs;rw[e]
   rw[List.singleton_append];exact List.perm_middle.symm
theorem jE{α:Type}(nx:Nat->Nat)(xs:Array α):(pickOrder nx xs).toList.Perm xs.toList:=by have:=qG (nx:=nx) xs.size 0 xs.toList #[] (by simp);simpa[pickOrder]using this
end HH
end
section
namespace HH
open PySem PyProof.Rows PySem.Spec
inductive gY(prog:Program)(w:World)(b:Bool)(h:Heap)(a:Addr)(ks:List Int):Prop where|mk(o:Obj)(es:Array (Int×Value))(ep:Nat)(t:SetTable)(is:List Int)(ho:h.get? a=some o)(hx:o.ExactSet)(hd:o.data=.set es ep t)(g:Ca b t)(hf:t.fits es.size=true)(he:ElemsOf (intKind prog w) es.toList)(hi:IntsAre (es.toList.map (·.2)) is)(hp:is.Perm ks)
section
variable{prog:Program}{w:World}{b:Bool}{h h':Heap}{a:Addr}{ks:List Int}{A:Around}{E:Value->Shared->Prop}{s:Shared}
theorem gY.at'(x:gY prog w b h a ks)(k:∀o,h.get? a=some o->h'.get? a=some o):gY prog w b h' a ks:=by obtain⟨o,es,ep,t,is,ho,r1,r2,r3,r4,r5,r6,r7⟩:=x;exact⟨o,es,ep,t,is,k o ho,r1,r2,r3,r4,r5,r6,r7⟩
theorem ints_app:∀{us vs:List Value}{ns ms:List Int},IntsAre us ns->IntsAre vs ms->IntsAre (us++vs) (ns++ms)|_,_,_,_,.nil,h=>h|_,_,_,_,.cons n t r,h=>.cons n t (ints_app r h)
theorem mq{us vs:List Value}(p:us.Perm vs):∀{ns:List Int},IntsAre vs ns->∃ms,IntsAre us ms/\ms.Perm ns:=by induction p with
 |nil=>intro ns h;exact⟨ns,h,.refl _⟩|cons x p ih=>intro ns h;cases h with|cons n t r=>obtain⟨ms,h1,h2⟩:=ih r;exact⟨n::ms,.cons n t h1,h2.cons n⟩
 |swap x y l=>intro ns h;cases h with|cons n t r=>cases r with|cons m u r=>exact⟨m::n::_,.cons m u (.cons n t r),.swap ..⟩
 |trans p q ih1 ih2=>intro ns h;obtain⟨ms,h1,h2⟩:=ih2 h;obtain⟨ls,h3,h4⟩:=ih1 h1;exact⟨ls,h3,h4.trans h2⟩
theorem fP{us:List Value}{ns:List Int}(h:IntsAre us ns):us.length=ns.length:=by induction h with|nil=>rfl|cons n t r ih=>simp[ih]
theorem pJ{k:Int}:∀{es:List (Int×Value)}{is:List Int},IntsAre (es.map (·.2)) is->((∃e∈es,(intKind prog w).is k e.2=true)↔k∈is)|[],_,.nil=>by simp|(hh,v)::es,_,hi=>by generalize hq:((hh,v)::es).map (·.2)=us at hi;cases hi with|nil=>cases hq|cons n t r=>
     obtain⟨e1,e2⟩:=List.cons.inj hq;dsimp only at e1;subst e1;subst e2;rw[mem_cons,<-pJ r];constructor
     . rintro⟨e,he,hk⟩;rcases mem_cons.mp he with rfl|he;.exact .inl ((intKind prog w).inj _ _ _ hk (intKind_is _ _ _ _))
       .exact .inr ⟨e,he,hk⟩
     . rintro(rfl|⟨e,he,hk⟩);.exact⟨_,.head _,intKind_is _ _ _ _⟩
       .exact⟨e,.tail _ he,hk⟩
theorem wG{o:Obj}{es es':Array (Int×Value)}{ep:Nat}{t t':SetTable}{is:List Int}(ho:h.get? a=some o)(hx:o.ExactSet)(hd:o.data=.set es ep t)(g:Ca b t')(hf:t'.fits es'.size=true)(he:ElemsOf (intKind prog w) es'.toList)(hi:IntsAre (es'.toList.map (·.2)) is)(hp:is.Perm ks):∃o',(h.update a (Obj.putSet es' t')).get? a=some o'/\o'.ExactSet/\o'.data=.set es' (ep+1) t'/\gY prog w b (h.update a (Obj.putSet es' t')) a ks:=by
 have hg:(h.update a (Obj.putSet es' t')).get? a=some {o with data:=.set es' (ep+1) t'}:=by rw[<-putSet_of es' t' hd];exact get?_update_self (Obj.putSet es' t') ho (by rw[putSet_of es' t' hd];rfl)
 exact⟨_,hg,hx,rfl,⟨_,es',ep+1,t',is,hg,hx,rfl,g,hf,he,hi,hp⟩⟩
theorem v9{g:Bool->Sem Unit}(hg:∀(b:Bool)(s₁:Shared)(Q':Unit->Shared->Prop),Q' () s₁->wpAny (model prog w) A (g b) Q' E s₁){o:Obj}{es es1:Array (Int×Value)}{ep:Nat}{t t2:SetTable}{is:List Int}(ho:s.heap.get? a=some o)(hx:o.ExactSet)(hd:o.data=.set es ep t)(tg:Ca b t2)(hf:t2.fits es1.size=true)(he:ElemsOf (intKind prog w) es1.toList)(hi:IntsAre (es1.toList.map (·.2)) is)(hp:is.Perm ks)(hz:es1.size<=sizeLine){wd:Bool}{Q:Option Bool->Shared->Prop}(q:∀h',SameBut a s.heap h'->gY prog w b h' a ks->Q (some true) {s with heap:=h'}):wpAny (model prog w) A (storeSet a es1 t2>>=fun _=>if(!wd&&t2.tooFull)=true then(g (relayAll t2 es1 (grown es1.size)).2.2>>=fun _=>storeSet a (relayAll t2 es1 (grown es1.size)).1 (relayAll t2 es1 (grown es1.size)).2.1>>=fun _=>pure (some true))else pure (some true)) Q E s:=by
 refine wpAny_bind (wpAny_storeSet_of ho hd ?_ hz);obtain⟨o1,g1,g2,g3,g4⟩:=wG (prog:=prog) (w:=w) ho hx hd tg hf he hi hp;have sb:=Heap.SameBut.update s.heap a (Obj.putSet es1 t2);split;.have pr:=relayAll_perm t2 es1 (grown es1.size);have fr:=relayAll_fits t2 es1 (grown es1.size);have tr:=Dn tg es1 (grown es1.size);generalize relayAll t2 es1 (grown es1.size)=R at pr fr tr;obtain⟨es2,t3,gv⟩:=R;dsimp only at pr fr tr;refine wpAny_bind (hg _ _ _ (wpAny_bind (wpAny_storeSet_of g1 g3 (wpAny_pure ?_) (by rw[<-length_toList,pr.length_eq,length_toList];exact hz))));obtain⟨js,j1,j2⟩:=mq (pr.map (·.2)) hi;obtain⟨o2,_,_,_,f4⟩:=wG (prog:=prog) (w:=w) g1 g2 g3 tr fr (he.perm pr) j1 (j2.trans hp);exact q _ (sb.trans (Heap.SameBut.update _ a _)) f4
 .exact wpAny_pure (q _ sb g4)
theorem Eh{k:Int}{tk:Tok}{Q:Bool->Shared->Prop}(x:gY prog w b s.heap a ks)(hz:ks.length+1<scanBound)(q:∀r h',SameBut a s.heap h'->gY prog w b h' a (DG ks k)->Q r {s with heap:=h'}):wpAny (model prog w) A (setAddHashed a (.int k tk) ((intKind prog w).hash k)) Q E s:=by
 obtain⟨o,es,ep,t,is,ho,hx,hd,tg,hf,he,hi,hp⟩:=id x;have hsz:es.size=ks.length:=by rw[<-hp.length_eq,<-fP hi,length_map,length_toList]
 unfold setAddHashed setAddHashedIn;refine wpAny_holding (wpAny_bind (wpAny_setState_of ho hd hf ?_));dsimp only;rw[byScan_of (knd:=intKind prog w) rfl (by omega) he,if_pos rfl];unfold setAddByScan;refine wpAny_bind (wpAny_bind (wpAny_rule (wpAny_bind (wpAny_setScan_of (intKind_is _ _ _ _) ho hd hf he ?_))));cases hr:es.toList.findIdx? (fun e=>(intKind prog w).is k e.2)with|some j=>dsimp only;obtain⟨hj,hk,_⟩:=List.findIdx?_eq_some_iff_getElem.mp hr;have hm:k∈ks:=hp.mem_iff.mp ((pJ (prog:=prog) (w:=w) hi).mp ⟨_,getElem_mem hj,hk⟩);refine wpAny_pure (wpAny_pure ?_);have:=q false s.heap (Heap.SameBut.refl a s.heap) (by unfold DG;rw[if_pos (by simpa using hm)];exact x);cases s;exact this|none=>
   dsimp only;have hm:k∉ks:=fun hm=>by obtain⟨e,e1,e2⟩:=(pJ (prog:=prog) (w:=w) hi).mpr (hp.mem_iff.mpr hm);have:=List.findIdx?_eq_none_iff.mp hr e e1;rw[e2]at this;cases this
   have e':DG ks k=ks++[k]:=by unfold DG;rw[if_neg (by simpa using hm)]
   rw[e']at q;have pr:=layNew_perm t es ((intKind prog w).hash k) (.int k tk);have fr:=layNew_fits t es ((intKind prog w).hash k) (.int k tk);have tr:=Oo tg es ((intKind prog w).hash k) (.int k tk);generalize layNew t es ((intKind prog w).hash k) (.int k tk)=L at pr fr tr;obtain⟨es1,t1,wd,gv⟩:=L;dsimp only at pr fr tr ⊢;rw[toList_push]at pr;have gw:∀(b:Bool)(s₁:Shared)(Q':Unit->Shared->Prop),Q' () s₁->wpAny (model prog w) A (match b with|true=>rule "set.scan.the-table-gave-way"|false=>pure ()) Q' E s₁:=fun b s₁ Q' hq=>by
    cases b;.exact wpAny_pure hq
    .exact wpAny_rule hq
   have he1:ElemsOf (intKind prog w) es1.toList:=(he.push (k:=k) (x:=.int k tk) (intKind_is _ _ _ _) rfl).perm pr;have hi1:IntsAre ((es.toList++[((intKind prog w).hash k,Value.int k tk)]).map (·.2)) (is++[k]):=by rw[map_append];exact ints_app hi (.cons k tk .nil)
   obtain⟨js,j1,j2⟩:=mq (pr.map (·.2)) hi1;have hz1:es1.size<=sizeLine:=by rw[<-length_toList,pr.length_eq,length_append,length_toList,hsz];exact fits_of_scanBound (by simpa using hz)
   have jp:js.Perm (ks++[k]):=j2.trans (hp.append_right [k]);refine wpAny_bind (gw _ _ _ ?_);split
   . refine wpAny_bind ?_;rw[hashByValue_scannable 8 rfl];refine wpAny_pure ?_;refine v9 (fun b s₁ Q' hq=>gw b s₁ Q' hq) ho hx hd (b:=b) ?_ ?_ he1 j1 jp hz1 fun h' sb y=>wpAny_pure (q true h' sb y)
     . split;.exact tr
       .exact Eo tr
     . split;.exact fr
       .exact SetTable.fits_plain_off fr
   .refine wpAny_bind (wpAny_pure ?_);rw[if_pos rfl];exact v9 (fun b s₁ Q' hq=>gw b s₁ Q' hq) ho hx hd tr fr he1 j1 jp hz1 fun h' sb y=>wpAny_pure (q true h' sb y)
end
theorem xH:∀(ns ks:List Int),(ns.foldl DG ks).length<=ks.length+ns.length
 |[],ks=>by simp|n::ns,ks=>by
   have h1:=xH ns (DG ks n);have h2:(DG ks n).length<=ks.length+1:=by unfold DG;split<;>simp
   rw[foldl_cons,length_cons];omega
noncomputable abbrev gU(w:World):Bool:=w.params.followText "set-order"
noncomputable abbrev fS(b:Bool):Obj:={cls:=.type "set",dict:=none,data:=.set #[] 0 (.fresh 0 0 b)}
section
variable{prog:Program}{w:World}{A:Around}{E:Value->Shared->Prop}{s:Shared}
theorem rE{h:Heap}{a:Addr}(e:h.get? a=some (fS (!gU w))):gY prog w (!gU w) h a []:=⟨_,#[],0,_,[],e,⟨rfl,rfl,rfl⟩,rfl,⟨rfl,rfl,fun i j hi=>by simp[SetTable.fresh]at hi⟩,rfl,fun e he=>by simp at he,.nil,.refl _⟩
theorem v5(a:Value){Q₁:Value->Shared->Prop}(h:Q₁ (.ref s.heap.objs.size) {s with heap:=s.heap.push (fS (!gU w))}):codeAny (model prog w) A (.call (.builtin "set.__new__") ⟨[.type "set",a],[]⟩) (wants Q₁ E) s:=by refine codeAny_of_tree ?_;show wpAny _ A.in1 (do checkBuiltinCall "set.__new__" ⟨[.type "set",a],[]⟩;again (.builtin "set.__new__" ⟨[.type "set",a],[]⟩)) _ _ s;refine wpAny_bind (wpAny_of_eq (PySem.F.newCall_set_1 a) (wpAny_pure ⟨plainId_quiet PySem.F.plain_set_new _,codeAny_builtin PySem.F.entry_set_new ?_⟩));rw[Around.under_plainId PySem.F.plain_set_new _];unfold Builtin.«set.__new__» Builtin.Frozenset.newClass;have hsub:=sub_set_self;obtain⟨hp,g,d,tk,os⟩:=s;dsimp only;wp_walk;refine wpAny_askSetting (wpAny_pure ?_);dsimp only;simp only[newObj];exact wpAny_bind (wpAny_alloc (wpAny_pure (wpAny_pure h)))
theorem vX{R:Result->Shared->Prop}{I:Addr}{fp wr:List Addr}{G:Array GenState->Array GenState->Prop}{P:Nat->Value->Prop}{St:Nat->Shared->Prop}{b:Bool}{ns:List Int}(W:WalksS prog w A.in1 I fp wr G ns.length P St)(S:Addr)(hSf:S∉fp)(hval:∀i v,P i v->∃t,v=.int (ns.getD i 0) t)(hb:ns.length+1<scanBound):∀(k i:Nat)(s:Shared),ns.length-i=k->i<=ns.length->St i s->gY prog w b s.heap S (dg (ns.take i))->(∀ s',Moved (S::wr) G s s'->gY prog w b s'.heap S (dg ns)->R (.ok (.ret .none)) s')->
   codeAny (model prog w) A (.builtin "set.update.loop" ⟨[.ref S,.ref I],[]⟩) R s:=by have hSw:S∉wr:=fun h=>hSf (W.sub _ h);have sub:∀b∈wr,b∈S::wr:=fun b hb=>.tail _ hb;intro k;induction k with|zero=>
   intro i s hk hi hst hS hR;have hin:i=ns.length:=by omega
   subst hin;refine codeAny_builtin PyProof.Rows.F.entry_set_update_loop ?_;rw[Around.under_plainId PyProof.Rows.F.plain_set_update_loop _];show wpAny _ A.in1 (pyNext (.ref I)>>=_) _ _ s;refine wpAny_bind (W.done s _ _ hst fun s' hm=>?_);show wpAny _ A.in1 (ret Value.none) _ _ s';rw[List.take_length]at hS;exact wpAny_pure (hR s' (hm.mono sub) (hS.at' fun o e=>hm.heap S o hSw e))|succ k ih=>
   intro i s hk hi hst hS hR;have lt:i<ns.length:=by omega
   refine codeAny_builtin PyProof.Rows.F.entry_set_update_loop ?_;rw[Around.under_plainId PyProof.Rows.F.plain_set_update_loop _];show wpAny _ A.in1 (pyNext (.ref I)>>=_) _ _ s;refine wpAny_bind (W.item i s _ _ lt hst fun v s' hP hst' hm=>?_);obtain⟨t,rfl⟩:=hval i v hP;have hS':=hS.at' fun o e=>hm.heap S o hSw e;show wpAny _ A.in1 (holding [Value.int (ns.getD i 0) t] (setAdd S (.int (ns.getD i 0) t))>>=_) _ _ s';refine wpAny_bind (wpAny_holding ?_);unfold setAdd;refine wpAny_holding (wpAny_bind ((intKind prog w).pyHash (k:=ns.getD i 0) (intKind_is _ _ _ _) ?_));have hroom:(dg (ns.take i)).length+1<scanBound:=by have:=xH (ns.take i) [];unfold dg;rw[length_take]at this;simp only[length_nil]at this;omega
   refine Eh (s:={s' with toks:=s'.toks+1}) hS' hroom fun r h' sb hS2=>?_;have hSi:gY prog w b h' S (dg (ns.take (i+1))):=by
    have e:ns.take (i+1)=ns.take i++[ns.getD i 0]:=by rw[List.take_add_one];simp[lt]
    unfold dg;rw[e,List.foldl_append];exact hS2
   refine wpAny_pure ⟨plainId_quiet PyProof.Rows.F.plain_set_update_loop _,ih (i+1) _ (by omega) lt (W.frame _ s' _ _ hst' (le_succ _) fun b hb o e=>?_) hSi fun s'' hm'' hS''=>?_⟩;.rw[sb.2 b (fun h:b=S=>hSf (by rw[<-h];exact hb))];exact e
   .refine hR s'' (Moved.trans W.gtrans ((hm.mono sub).then_heap (le_succ _) fun b o hb e=>?_) hm'') hS'';rw[sb.2 b (fun h:b=S=>hb (by rw[h];exact .head _))];exact e
set_option maxHeartbeats 3200000 in
theorem Ei{l:Addr}{its:List Value}{ns:List Int}{Q:Value->Shared->Prop}(hh:A.handled=none)(hl:s.heap.IsList l its.toArray)(hi:IntsAre its ns)(hb:ns.length+1<scanBound)(h:∀(h':Heap)(tk:Nat),gY prog w (!gU w) h' s.heap.objs.size (dg ns)->(∀b o,s.heap.get? b=some o->h'.get? b=some o)->Q (.ref s.heap.objs.size) {s with heap:=h',toks:=tk}):wpAny (model prog w) A (call (.type "set") [.ref l]) Q E s:=by
 obtain⟨c,tl,hmro⟩:=called_set.mro;have hmade:=called_set.made;have hsub:=called_set.sub;refine wpAny_call (codeAny_of_tree ?_);show wpAny _ _ (callAny (.type "set") _) _ _ _;refine wpAny_pure ⟨Code.quiet_builtin _ (by decide+kernel),codeAny_builtin PySem.F.entry_type_call ?_⟩;rw[Around.under_plain (weight_type_call_type "set" [.ref l] []) rfl];have h1:=called_set.notType;have h2:=called_set.canCreate;have hct:=PySem.F.typeCall_set_1 (.ref l);repeat(any_goals(first|assumption|wp_step))
 refine codeAny_mono (v5 (.ref l) (E:=E) (Q₁:=fun obj s₁=>obj=.ref s.heap.objs.size/\s₁={s with heap:=s.heap.push (fS (!gU w))}) ⟨rfl,rfl⟩) fun r s₁ hr=>?_;cases r with|error e=>exact hr|ok fl=>cases fl with
   |ret obj=>
     obtain⟨rfl,rfl⟩:=hr;have hS:(s.heap.push (fS (!gU w))).get? s.heap.objs.size=some (fS (!gU w)):=get?_push_size _ rfl;have hT:Shared.TypeIs {s with heap:=s.heap.push (fS (!gU w))} (.ref s.heap.objs.size) "set":=⟨_,hS,rfl⟩;have hli:=called_set.init.lookup;have hbi:=called_set.init.bind (.ref s.heap.objs.size);repeat(any_goals(first|assumption|wp_step))
     refine codeAny_mono (codeAny_call_builtin (R:=wants (fun r s₂=>r=.none/\∃h' tk,s₂={s with heap:=h',toks:=tk}/\gY prog w (!gU w) h' s.heap.objs.size (dg ns)/\(∀b o,s.heap.get? b=some o->h'.get? b=some o)) E) called_set.init.plain PySem.F.entry_set_init (check_set_init_1 hT ?_)) fun r₂ s₂ hr₂=>?_
     . obtain⟨ol,hol,hcl,nl,hdl⟩:=hl;obtain⟨ocls,odict,odata,oslots⟩:=ol;simp only at hcl hdl;subst hcl;subst hdl;have hol':(s.heap.push (fS (!gU w))).get? l=some {cls:=.type "list",dict:=odict,data:=.seq its.toArray nl,slots:=oslots}:=get?_push_of_some _ hol;have hsls:=PySem.F.sub_list_set;have hslf:=PySem.F.sub_list_frozenset;have hne:(Value.type "list"==Value.type "dict")=false:=by decide
       have hl1:(s.heap.push (fS (!gU w))).IsList l its.toArray:=⟨_,hol',rfl,nl,rfl⟩;unfold Builtin.«set.__init__» noKeywords Builtin.Frozenset.updateFrom;generalize hPI:pyIter=PI;wp_walk;subst hPI;refine wpAny_pyIter_list hl1 (wpAny_bind (wpAny_runValue ?_));have hlS:l<s.heap.objs.size:=lt_size hol;have hh3:A.in1.in1.in1.handled=none:=by simp[hh]
       have hz:(s.heap.push (fS (!gU w))).objs.size=s.heap.objs.size+1:=size_push ..;have hneI:l≠(s.heap.push (fS (!gU w))).objs.size:=by rw[hz];exact ne_of_lt (lt_succ_of_lt hlS)
       have hSf:s.heap.objs.size∉[(s.heap.push (fS (!gU w))).objs.size,l]:=by rw[hz];simp only[mem_cons,not_mem_nil,or_false,not_or];exact⟨ne_of_lt (Nat.lt_succ_self _),ne_of_gt hlS⟩
       have hln:its.toArray.size=ns.length:=by rw[size_toArray];exact fP hi
       have W:=(Walks.list (prog:=prog) (w:=w) hh3 _ l hneI its.toArray).toS;rw[hln]at W;refine vX (b:=!gU w) W s.heap.objs.size hSf (fun i v hv=>IntsAre.int_at hi i v (by simpa using hv)) hb (ns.length-0) 0 _ (by omega) (zero_le _) ⟨⟨_,get?_push_size _ rfl,rfl,rfl⟩,hl1.push _⟩ (rE (get?_push_of_some _ hS)) fun s' hm hS'=>?_;obtain⟨h',g',d',tk',os'⟩:=s';have eg:g'=s.gens:=hm.gens;have ed:d'=s.drawn:=hm.drawn;have eo:os'=s.os:=hm.os;subst eg;subst ed;subst eo;show wpAny _ _ _ _ _ _;refine wpAny_pure ?_;show wpAny _ _ (ret Value.none) _ _ _;refine wpAny_pure ⟨rfl,h',tk',rfl,hS',fun b o e=>?_⟩;have:=lt_size e;exact hm.heap b o (by rw[hz];simp only[mem_cons,not_mem_nil,or_false,not_or];exact⟨ne_of_lt this,ne_of_lt (lt_succ_of_lt this)⟩) (get?_push_of_some _ (get?_push_of_some _ e))
     .cases r₂ with|error e=>exact hr₂|ok fl₂=>
         cases fl₂ with|ret r=>
           obtain⟨rfl,h',tk,rfl,hS',hk'⟩:=hr₂;repeat(any_goals(first|assumption|wp_step))
           exact h _ _ hS' hk'|_=>exact hr₂.elim
   |_=>exact hr.elim
end
section
variable{prog:Program}{w:World}{A:Around}{E:Value->Shared->Prop}{s:Shared}
set_option maxHeartbeats 3200000 in
theorem Cg{l:Addr}{its:List Value}{ns:List Int}{Q:Value->Shared->Prop}(hh:A.handled=none)(hl:s.heap.IsTuple l its.toArray)(hi:IntsAre its ns)(hb:ns.length+1<scanBound)(h:∀(h':Heap)(tk:Nat),gY prog w (!gU w) h' s.heap.objs.size (dg ns)->(∀b o,s.heap.get? b=some o->h'.get? b=some o)->Q (.ref s.heap.objs.size) {s with heap:=h',toks:=tk}):wpAny (model prog w) A (call (.type "set") [.ref l]) Q E s:=by
 obtain⟨c,tl,hmro⟩:=called_set.mro;have hmade:=called_set.made;have hsub:=called_set.sub;refine wpAny_call (codeAny_of_tree ?_);show wpAny _ _ (callAny (.type "set") _) _ _ _;refine wpAny_pure ⟨Code.quiet_builtin _ (by decide+kernel),codeAny_builtin PySem.F.entry_type_call ?_⟩;rw[Around.under_plain (weight_type_call_type "set" [.ref l] []) rfl];have h1:=called_set.notType;have h2:=called_set.canCreate;have hct:=PySem.F.typeCall_set_1 (.ref l);repeat(any_goals(first|assumption|wp_step))
 refine codeAny_mono (v5 (.ref l) (E:=E) (Q₁:=fun obj s₁=>obj=.ref s.heap.objs.size/\s₁={s with heap:=s.heap.push (fS (!gU w))}) ⟨rfl,rfl⟩) fun r s₁ hr=>?_;cases r with|error e=>exact hr|ok fl=>cases fl with
   |ret obj=>
     obtain⟨rfl,rfl⟩:=hr;have hS:(s.heap.push (fS (!gU w))).get? s.heap.objs.size=some (fS (!gU w)):=get?_push_size _ rfl;have hT:Shared.TypeIs {s with heap:=s.heap.push (fS (!gU w))} (.ref s.heap.objs.size) "set":=⟨_,hS,rfl⟩;have hli:=called_set.init.lookup;have hbi:=called_set.init.bind (.ref s.heap.objs.size);repeat(any_goals(first|assumption|wp_step))
     refine codeAny_mono (codeAny_call_builtin (R:=wants (fun r s₂=>r=.none/\∃h' tk,s₂={s with heap:=h',toks:=tk}/\gY prog w (!gU w) h' s.heap.objs.size (dg ns)/\(∀b o,s.heap.get? b=some o->h'.get? b=some o)) E) called_set.init.plain PySem.F.entry_set_init (check_set_init_1 hT ?_)) fun r₂ s₂ hr₂=>?_
     . obtain⟨ol,hol,hcl,nl,hdl⟩:=hl;obtain⟨ocls,odict,odata,oslots⟩:=ol;simp only at hcl hdl;subst hcl;subst hdl;have hol':(s.heap.push (fS (!gU w))).get? l=some {cls:=.type "tuple",dict:=odict,data:=.seq its.toArray nl,slots:=oslots}:=get?_push_of_some _ hol;have hsls:isSubtype (.type "tuple") (.type "set")=pure false:=by rw[isSubtype_type];kernel_rfl
       have hslf:isSubtype (.type "tuple") (.type "frozenset")=pure false:=by rw[isSubtype_type];kernel_rfl
       have hne:(Value.type "tuple"==Value.type "dict")=false:=by decide
       have hl1:(s.heap.push (fS (!gU w))).IsTuple l its.toArray:=⟨_,hol',rfl,nl,rfl⟩;unfold Builtin.«set.__init__» noKeywords Builtin.Frozenset.updateFrom;generalize hPI:pyIter=PI;wp_walk;subst hPI;refine wpAny_pyIter_tuple hl1 (wpAny_bind (wpAny_runValue ?_));have hlS:l<s.heap.objs.size:=lt_size hol;have hh3:A.in1.in1.in1.handled=none:=by simp[hh]
       have hz:(s.heap.push (fS (!gU w))).objs.size=s.heap.objs.size+1:=size_push ..;have hneI:l≠(s.heap.push (fS (!gU w))).objs.size:=by rw[hz];exact ne_of_lt (lt_succ_of_lt hlS)
       have hSf:s.heap.objs.size∉[(s.heap.push (fS (!gU w))).objs.size,l]:=by rw[hz];simp only[mem_cons,not_mem_nil,or_false,not_or];exact⟨ne_of_lt (Nat.lt_succ_self _),ne_of_gt hlS⟩
       have hln:its.toArray.size=ns.length:=by rw[size_toArray];exact fP hi
       have W:=(Walks.tuple (prog:=prog) (w:=w) hh3 _ l hneI its.toArray).toS;rw[hln]at W;refine vX (b:=!gU w) W s.heap.objs.size hSf (fun i v hv=>IntsAre.int_at hi i v (by simpa using hv)) hb (ns.length-0) 0 _ (by omega) (zero_le _) ⟨⟨_,get?_push_size _ rfl,rfl,rfl⟩,hl1.at fun o e=>get?_push_of_some _ e⟩ (rE (get?_push_of_some _ hS)) fun s' hm hS'=>?_;obtain⟨h',g',d',tk',os'⟩:=s';have eg:g'=s.gens:=hm.gens;have ed:d'=s.drawn:=hm.drawn;have eo:os'=s.os:=hm.os;subst eg;subst ed;subst eo;show wpAny _ _ _ _ _ _;refine wpAny_pure ?_;show wpAny _ _ (ret Value.none) _ _ _;refine wpAny_pure ⟨rfl,h',tk',rfl,hS',fun b o e=>?_⟩;have:=lt_size e;exact hm.heap b o (by rw[hz];simp only[mem_cons,not_mem_nil,or_false,not_or];exact⟨ne_of_lt this,ne_of_lt (lt_succ_of_lt this)⟩) (get?_push_of_some _ (get?_push_of_some _ e))
     .cases r₂ with|error e=>exact hr₂|ok fl₂=>
         cases fl₂ with|ret r=>
           obtain⟨rfl,h',tk,rfl,hS',hk'⟩:=hr₂;repeat(any_goals(first|assumption|wp_step))
           exact h _ _ hS' hk'|_=>exact hr₂.elim
   |_=>exact hr.elim
end
theorem aR:Slot "set_iterator" "__next__" "set_iterator.__next__":=.of (owner:="set_iterator") (n:="__next__") (by rw[typeLookup_type,builtinLookup_eq_fast];kernel_rfl) (by decide+kernel) (by decide+kernel) (by decide+kernel) (by first|exact .inl (by decide+kernel)|exact .inr (by decide+kernel)) (by rw[isSubtype_type];kernel_rfl)
theorem cR:entryFor table "set_iterator.__next__"=some Builtin.«set_iterator.__next__»:=entryFor_of_tree (by kernel_rfl)
theorem rB:Manifest.owners.lookup (String.ofList ['r','o','t','a','r','e','t','i','_','t','e','s'].reverse)=some Manifest.sig_set_iterator:=by kernel_rfl
theorem dh(a:Value):argsOk "set_iterator.__next__" ⟨[a],[]⟩:=by unfold argsOk;rw[signature?_of (id:="set_iterator.__next__") (n:=['_','_','t','x','e','n','_','_']) (o:=['r','o','t','a','r','e','t','i','_','t','e','s']) (by kernel_rfl) rB];kernel_rfl
theorem sH:entryFor table "set.__iter__"=some Builtin.«frozenset.__iter__»:=entryFor_alias (id':="frozenset.__iter__") (by kernel_rfl) rfl (by decide+kernel) (by kernel_rfl)
theorem jA:Slot "set_iterator" "__iter__" "set_iterator.__iter__":=.of (owner:="set_iterator") (n:="__iter__") (by rw[typeLookup_type,builtinLookup_eq_fast];kernel_rfl) (by decide+kernel) (by decide+kernel) (by decide+kernel) (by first|exact .inl (by decide+kernel)|exact .inr (by decide+kernel)) (by rw[isSubtype_type];kernel_rfl)
theorem qu(a:Value):argsOk "set_iterator.__iter__" ⟨[a],[]⟩:=by unfold argsOk;rw[signature?_of (id:="set_iterator.__iter__") (n:=['_','_','r','e','t','i','_','_']) (o:=['r','o','t','a','r','e','t','i','_','t','e','s']) (by kernel_rfl) rB];kernel_rfl
theorem oR:entryFor table "set_iterator.__iter__"=some Builtin.«dict_keyiterator.__iter__»:=entryFor_alias (id':="dict_keyiterator.__iter__") (by kernel_rfl) rfl (by decide+kernel) (by kernel_rfl)
theorem sV:typeLookup (.type "set") "__len__"=pure (some (.builtin "set.__len__")):=by rw[typeLookup_type,builtinLookup_eq_fast];kernel_rfl
inductive dW(h:Heap)(a:Addr)(es:Array (Int×Value))(ep:Nat)(t:SetTable):Prop where|mk(o:Obj)(ho:h.get? a=some o)(hx:o.ExactSet)(hd:o.data=.set es ep t)(hf:t.fits es.size=true)
noncomputable def slotAt(t:SetTable):Nat->Int|0=>0|i+1=>(t.place.getD i 0:Int)+1
inductive uI(h:Heap)(J a:Addr)(f:Value)(i n ep:Nat):Prop where|mk(o:Obj)(ho:h.get? J=some o)(hc:o.cls=.type "set_iterator")(hd:o.data=.fields #[f,.int i 0,.ref a,.int n 0,.int ep 0])
section
variable{prog:Program}{w:World}{A:Around}{E:Value->Shared->Prop}{s:Shared}{a J:Addr}{es:Array (Int×Value)}{ep i:Nat}{t:SetTable}{f:Value}
theorem dW.at'{h h':Heap}(x:dW h a es ep t)(k:∀o,h.get? a=some o->h'.get? a=some o):dW h' a es ep t:=by obtain⟨o,ho,r1,r2,r3⟩:=x;exact⟨o,k o ho,r1,r2,r3⟩
theorem uI.at'{h h':Heap}{n:Nat}(x:uI h J a f i n ep)(k:∀o,h.get? J=some o->h'.get? J=some o):uI h' J a f i n ep:=by obtain⟨o,ho,r1,r2⟩:=x;exact⟨o,k o ho,r1,r2⟩
theorem uI.ty{n:Nat}(x:uI s.heap J a f i n ep):s.TypeIs (.ref J) "set_iterator":=by obtain⟨o,ho,r1,r2⟩:=x;exact⟨o,ho,r1⟩
theorem dW.ty(x:dW s.heap a es ep t):s.TypeIs (.ref a) "set":=by obtain⟨o,ho,r1,r2⟩:=x;exact⟨o,ho,r1.1⟩
theorem dM{Q:(Array (Int×Value)×Nat×SetTable)->Shared->Prop}(r:dW s.heap a es ep t)(h:Q (es,ep,t) s):wpAny (model prog w) A (setState a) Q E s:=by obtain⟨o,ho,_,hd,hf⟩:=r;exact wpAny_setState_of ho hd hf h
theorem gn{Q:Array (Int×Value)->Shared->Prop}(r:dW s.heap a es ep t)(h:Q es s):wpAny (model prog w) A (setEntries a) Q E s:=by obtain⟨o,ho,_,hd,hf⟩:=r;exact wpAny_setEntries_of ho hd hf h
theorem aa9{α:Type}{m:Sem α}{Q Q':α->Shared->Prop}{M:Model}(h:wpAny M A m Q E s)(hQ:∀a s,Q a s->Q' a s):wpAny M A m Q' E s:=wpAny_mono h hQ fun _ _ x=>x
theorem rF{Q:PySem.Fin->Shared->Prop}(x:uI s.heap J a f i es.size ep)(r:dW s.heap a es ep t){slot:Int}{tk:Tok}(hf:f=.int slot tk)(h:wpAny (model prog w) A (setNext a slot.toNat i ep) (fun o s'=>(∀ x nx,o=some (x,nx)->wpAny (model prog w) A (setField (.ref J) 0 (rawInt nx)>>=fun _=>setField (.ref J) 1 (rawInt ((i:Int)+1))>>=fun _=>ret x) Q E s')/\(o=none->wpAny (model prog w) A (setField (.ref J) 2 .none>>=fun _=>newExc (.type "StopIteration") []>>=fun e=>raiseNew e) Q E s')) E s):wpAny (model prog w) A (Builtin.«set_iterator.__next__» ⟨[.ref J],[]⟩) Q E s:=by obtain⟨o,ho,hc,hd⟩:=id x;subst hf;unfold Builtin.«set_iterator.__next__»;refine wpAny_bind (wpAny_pure (wpAny_bind (wpAny_fieldsOf ho hd (wpAny_bind (gn r ?_)))));dsimp only;rw[if_neg (by simp),toNat_natCast,toNat_natCast];refine wpAny_bind (aa9 h fun o s' hq=>?_);cases o with|none=>exact hq.2 rfl|some p=>obtain⟨y,nx⟩:=p;exact hq.1 y nx rfl
theorem pQ{Q:PySem.Fin->Shared->Prop}(x:uI s.heap J a f i es.size ep)(r:dW s.heap a es ep t){T:Addr}{os:List Nat}{ot:Obj}{c:Nat}(hf:f=.ref T)(h1:s.heap.get? T=some ot)(h2:ot.data=.seq (os.map fun(i:Nat)=>rawInt (i:Int)).toArray c)(h:(∀ j,os[i]?=some j->wpAny (model prog w) A (setNextDrawn a j ep) (fun x s'=>wpAny (model prog w) A (setField (.ref J) 1 (rawInt ((i:Int)+1))>>=fun _=>ret x) Q E s') E s)/\(os[i]?=none->wpAny (model prog w) A (setField (.ref J) 0 (rawInt 0)>>=fun _=>setField (.ref J) 2 .none>>=fun _=>newExc (.type "StopIteration") []>>=fun e=>raiseNew e) Q E s)):wpAny (model prog w) A (Builtin.«set_iterator.__next__» ⟨[.ref J],[]⟩) Q E s:=by
 obtain⟨o,ho,hc,hd⟩:=id x;subst hf;unfold Builtin.«set_iterator.__next__»;refine wpAny_bind (wpAny_pure (wpAny_bind (wpAny_fieldsOf ho hd (wpAny_bind (gn r ?_)))));dsimp only;rw[if_neg (by simp),toNat_natCast,toNat_natCast];refine wpAny_bind (wpAny_seqItems h1 h2 ?_);have e:(os.map fun(i:Nat)=>rawInt (i:Int)).toArray[i]?=os[i]?.map fun(j:Nat)=>rawInt (j:Int):=by simp
 dsimp only;rw[e];cases q:os[i]?with|none=>exact h.2 q|some j=>simp only[Option.map_some,rawInt,toNat_natCast];exact wpAny_bind (h.1 j q)
theorem oE{Q:PySem.Fin->Shared->Prop}{E:Value->Shared->Prop}(hh:A.handled=none)(h:∀h' e,(∀b o,s.heap.get? b=some o->h'.get? b=some o)->(h'.get? e).map (·.cls)=some (.type "StopIteration")->E (.ref e) {s with heap:=h'}):wpAny (model prog w) A (newExc (.type "StopIteration") []>>=fun e=>(raiseNew e:Sem PySem.Fin)) Q E s:=by refine wpAny_bind ?_;simp only[newExc,newTuple];refine wpAny_bind (wpAny_newObj_type ?_ (by size_fits));refine wpAny_bind (m:=firstArgMember _ _) (wpAny_of_eq (a:=Value.none) (by first|rfl|(simp only[firstArgMember];rfl)) (wpAny_newObj_type ?_ (by size_fits)));simp only[raiseNew];refine wpAny_bind (wpAny_handled ?_);rw[hh];refine wpAny_bind (wpAny_pure (wpAny_throw (h _ _ (fun b o e=>get?_push_of_some _ (get?_push_of_some _ e)) ?_)));rw[get?_push_size _ rfl];rfl
theorem DR(ht:gU w=true){Q:Option (Value×Nat)->Shared->Prop}(r:dW s.heap a es ep t){slot:Nat}(h:Q (((pickOrder (w.params.setOrder a ep) es)[i]?).map fun e=>(e.2,slot)) s):wpAny (model prog w) A (setNext a slot i ep) Q E s:=by unfold setNext;refine wpAny_bind (dM r ?_);unfold setsByText;refine wpAny_bind (wpAny_bind (wpAny_askSetting (wpAny_pure ?_)));dsimp only;rw[if_pos (show(model prog w).w.params.followText "set-order"=true from ht),if_neg (by simp)];unfold setWalk;refine wpAny_bind (wpAny_bind (dM r ?_));unfold setsByText;refine wpAny_bind (wpAny_bind (wpAny_askSetting (wpAny_pure ?_)));dsimp only;rw[if_pos (show(model prog w).w.params.followText "set-order"=true from ht)];refine wpAny_bind (wpAny_askSetting (wpAny_pure (wpAny_pure ?_)));exact h
theorem Ht(ht:gU w=false)(hl:t.led=true)(hp:(!t.plain&&decide (es.size>1))=false){Q:Option (Value×Nat)->Shared->Prop}(r:dW s.heap a es ep t){slot:Nat}(h:Q (match es[SetTable.below t.place slot]?,t.place[SetTable.below t.place slot]?with|some (_,x),some j=>some (x,j+1)|_,_=>none) s):wpAny (model prog w) A (setNext a slot i ep) Q E s:=by unfold setNext;refine wpAny_bind (dM r ?_);unfold setsByText;refine wpAny_bind (wpAny_bind (wpAny_askSetting (wpAny_pure ?_)));dsimp only;rw[if_neg (by rw[show(model prog w).w.params.followText "set-order"=false from ht];simp)];show wpAny _ _ (if(!t.plain&&decide (es.size>1))=true then _ else _) _ _ _;rw[if_neg (by rw[hp];simp)];refine wpAny_bind ?_;show wpAny _ _ (if(!t.led&&!es.isEmpty)=true then _ else _) _ _ _;rw[if_neg (by rw[hl];simp)];exact wpAny_pure (wpAny_pure h)
theorem Qe{j:Nat}{Q:Value->Shared->Prop}{e:Int×Value}(r:dW s.heap a es ep t)(he:es[j]?=some e)(h:Q e.2 s):wpAny (model prog w) A (setNextDrawn a j ep) Q E s:=by unfold setNextDrawn;refine wpAny_bind (dM r ?_);dsimp only;rw[if_neg (by simp),he];exact wpAny_pure h
theorem nW{v:Value}{j n:Nat}{o:Obj}{vs:Array Value}{h:Heap}(ho:h.get? J=some o)(hc:o.cls=.type "set_iterator")(hd:o.data=.fields vs):∃o',(h.update J (Obj.mapFields (·.setIfInBounds j v))).get? J=some o'/\o'.cls=.type "set_iterator"/\o'.data=.fields (vs.setIfInBounds j v):=⟨_,get?_update_self _ ho (Obj.isFreed_of_fields (Obj.data_mapFields hd _)),(Obj.cls_mapFields ..).trans hc,by rw[Obj.data_mapFields hd]⟩
theorem vL{slot:Int}{nx:Nat}{v:Value}{Q:Option Value->Shared->Prop}(x:uI s.heap J a (.int slot 0) i es.size ep)(r:dW s.heap a es ep t)(hq:∀(A:Around)(E:Value->Shared->Prop)(Q:Option (Value×Nat)->Shared->Prop),Q (some (v,nx)) s->wpAny (model prog w) A (setNext a slot.toNat i ep) Q E s)(q:∀h',uI h' J a (.int (nx:Int) 0) (i+1) es.size ep->SameBut J s.heap h'->Q (some v) {s with heap:=h'}):wpAny (model prog w) A (pyNext (.ref J)) Q E s:=by
 unfold pyNext;refine wpAny_bind (wpAny_attempt (wpAny_callSpecial?_slot (name:=Str.ofString "__next__") x.ty aR (wpAny_call_entry aR x.ty cR ?bd (dh _))));refine rF x r rfl (hq _ _ _ ⟨fun y ny e=>?_,fun e=>by cases e⟩);cases e;obtain⟨o,ho,hc,hd⟩:=x;obtain⟨o1,p1,p2,p3⟩:=nW (n:=0) (v:=rawInt (nx:Int)) (j:=0) ho hc hd;obtain⟨o2,q1,q2,q3⟩:=nW (n:=0) (v:=rawInt ((i:Int)+1)) (j:=1) p1 p2 p3;refine wpAny_bind (wpAny_setField ho hd (by simp) (wpAny_bind (wpAny_setField p1 p3 (by simp) (wpAny_pure ⟨_,rfl,wpAny_pure (q _ ⟨o2,q1,q2,?_⟩ ?_)⟩))));.rw[q3];simp[rawInt]
 .exact(Heap.SameBut.update _ J _).trans (Heap.SameBut.update _ J _)
theorem zL{slot:Int}{Q:Option Value->Shared->Prop}(hh:A.handled=none)(x:uI s.heap J a (.int slot 0) i es.size ep)(r:dW s.heap a es ep t)(hq:∀(A:Around)(E:Value->Shared->Prop)(Q:Option (Value×Nat)->Shared->Prop),Q none s->wpAny (model prog w) A (setNext a slot.toNat i ep) Q E s)(q:∀h',(∀b o,b≠J->s.heap.get? b=some o->h'.get? b=some o)->Q none {s with heap:=h'}):wpAny (model prog w) A (pyNext (.ref J)) Q E s:=by unfold pyNext;refine wpAny_bind (wpAny_attempt (wpAny_callSpecial?_slot (name:=Str.ofString "__next__") x.ty aR (wpAny_call_entry aR x.ty cR ?bd (dh _))));refine rF x r rfl (hq _ _ _ ⟨fun y ny e=>(by cases e),fun _=>?_⟩);obtain⟨o,ho,hc,hd⟩:=x;refine wpAny_bind (wpAny_setField ho hd (by simp) (oE hh fun h' e k c=>?_));cases he:h'.get? e with|none=>rw[he]at c;cases c|some oe=>rw[he]at c;refine wpAny_bind (wpAny_isInstance (T:="StopIteration") (b:=true) ⟨oe,he,by simpa using c⟩ isSubtype_stop ?_);exact wpAny_pure (q _ fun b o hb e=>k b o ((get?_update_other _ _ (Ne.symm hb)).trans e))
theorem Cy{T:Addr}{os:List Nat}{ot:Obj}{c j:Nat}{v:Int×Value}{Q:Option Value->Shared->Prop}(x:uI s.heap J a (.ref T) i es.size ep)(r:dW s.heap a es ep t)(h1:s.heap.get? T=some ot)(h2:ot.data=.seq (os.map fun(i:Nat)=>rawInt (i:Int)).toArray c)(hj:os[i]?=some j)(hv:es[j]?=some v)(q:∀h',uI h' J a (.ref T) (i+1) es.size ep->SameBut J s.heap h'->Q (some v.2) {s with heap:=h'}):wpAny (model prog w) A (pyNext (.ref J)) Q E s:=by unfold pyNext;refine wpAny_bind (wpAny_attempt (wpAny_callSpecial?_slot (name:=Str.ofString "__next__") x.ty aR (wpAny_call_entry aR x.ty cR ?bd (dh _))));refine pQ x r rfl h1 h2 ⟨fun j' e=>?_,fun e=>by rw[hj]at e;cases e⟩;rw[hj]at e;cases e;obtain⟨o,ho,hc,hd⟩:=x;obtain⟨o1,p1,p2,p3⟩:=nW (n:=0) (v:=rawInt ((i:Int)+1)) (j:=1) ho hc hd;refine Qe r hv (wpAny_bind (wpAny_setField ho hd (by simp) (wpAny_pure ⟨_,rfl,wpAny_pure (q _ ⟨o1,p1,p2,?_⟩ (Heap.SameBut.update _ J _))⟩)));rw[p3];simp[rawInt]
theorem DP{T:Addr}{os:List Nat}{ot:Obj}{c:Nat}{Q:Option Value->Shared->Prop}(hh:A.handled=none)(x:uI s.heap J a (.ref T) i es.size ep)(r:dW s.heap a es ep t)(h1:s.heap.get? T=some ot)(h2:ot.data=.seq (os.map fun(i:Nat)=>rawInt (i:Int)).toArray c)(hj:os[i]?=none)(q:∀h',(∀b o,b≠J->s.heap.get? b=some o->h'.get? b=some o)->Q none {s with heap:=h'}):wpAny (model prog w) A (pyNext (.ref J)) Q E s:=by unfold pyNext;refine wpAny_bind (wpAny_attempt (wpAny_callSpecial?_slot (name:=Str.ofString "__next__") x.ty aR (wpAny_call_entry aR x.ty cR ?bd (dh _))));refine pQ x r rfl h1 h2 ⟨fun j' e=>(by rw[hj]at e;cases e),fun _=>?_⟩;obtain⟨o,ho,hc,hd⟩:=x;obtain⟨o1,p1,p2,p3⟩:=nW (n:=0) (v:=rawInt 0) (j:=0) ho hc hd;refine wpAny_bind (wpAny_setField ho hd (by simp) (wpAny_bind (wpAny_setField p1 p3 (by simp) (oE hh fun h' e k c=>?_))));cases he:h'.get? e with|none=>rw[he]at c;cases c|some oe=>rw[he]at c;refine wpAny_bind (wpAny_isInstance (T:="StopIteration") (b:=true) ⟨oe,he,by simpa using c⟩ isSubtype_stop ?_);exact wpAny_pure (q _ fun b o hb e=>k b o ((get?_update_other _ _ (Ne.symm hb)).trans ((get?_update_other _ _ (Ne.symm hb)).trans e)))
theorem oA{n:Nat}{Q:Value->Shared->Prop}(x:uI s.heap J a f i n ep)(h:Q (.ref J) s):wpAny (model prog w) A (pyIter (.ref J)) Q E s:=by refine wpAny_pyIter_slot x.ty jA (wpAny_call_entry jA x.ty oR ?_ (qu _));show wpAny _ _ (ret (.ref J)) _ _ s;exact wpAny_pure ⟨_,rfl,"set_iterator",_,x.ty,aR.lookup,h⟩
theorem pB(g:m8 t.place.toList)(hi:i<=t.place.size):SetTable.below t.place (slotAt t i).toNat=i:=by
 obtain⟨h1,h2,h3⟩:=below_at (j:=(slotAt t i).toNat) g;have up:∀k(h:k<t.place.size),k<i->t.place[k]<(slotAt t i).toNat:=fun k h hk=>by cases i with|zero=>omega|succ i=>
    have hi':i<t.place.size:=by omega
    have e:slotAt t (i+1)=(t.place[i]:Int)+1:=by simp[slotAt,Array.getD,hi']
    rw[e];by_cases q:k=i;.subst q;omega
    .have:=g k i (by simpa using h) (by simpa using hi') (by omega);simp only[getElem_toList]at this;omega
 have dn:∀k(h:k<t.place.size),i<=k->(slotAt t i).toNat<=t.place[k]:=fun k h hk=>by cases i with|zero=>simp[slotAt]|succ i=>
    have hi':i<t.place.size:=by omega
    have e:slotAt t (i+1)=(t.place[i]:Int)+1:=by simp[slotAt,Array.getD,hi']
    rw[e];have:=g i k (by simpa using hi') (by simpa using h) (by omega);simp only[getElem_toList]at this;omega
 rcases Nat.lt_trichotomy (SetTable.below t.place (slotAt t i).toNat) i with c|c|c;.have k1:=up _ (by omega) c;have k2:=h3 _ (by omega) (le_refl _);omega
 .exact c
 . have hi':i<t.place.size:=by omega
   have k1:=dn i hi' (le_refl _);have k2:=h2 i hi' c;omega
theorem Ry(hh:A.handled=none)(ht:gU w=true)(hne:a≠J):Walks prog w A J [J,a] [J] es.size (fun i v=>((pickOrder (w.params.setOrder a ep) es).toList.map (·.2))[i]?=some v) (fun i h=>uI h J a (.int 0 0) i es.size ep/\dW h a es ep t)where
 sub:=fun b hb=>by simp at hb;simp[hb]
 frame:=fun _ _ _ st hk=>⟨st.1.at' fun o e=>hk J (by simp) o e,st.2.at' fun o e=>hk a (by simp) o e⟩;item:=fun i s Q E hi st hQ=>by
  have hz:(pickOrder (w.params.setOrder a ep) es).size=es.size:=by rw[<-length_toList,(jE _ es).length_eq,length_toList]
  have e:(pickOrder (w.params.setOrder a ep) es)[i]?=some ((pickOrder (w.params.setOrder a ep) es)[i]'(by omega)):=getElem?_eq_getElem _;refine vL (nx:=0) (v:=((pickOrder (w.params.setOrder a ep) es)[i]'(by omega)).2) st.1 st.2 (fun A E Q q=>DR ht st.2 (by rw[e];exact q)) fun h' x sb=>?_;exact hQ _ h' s.toks (by rw[getElem?_map,getElem?_toList,e];rfl) ⟨x,st.2.at' fun o e=>(sb.2 a hne).trans e⟩ fun b o hb e=>(sb.2 b fun z=>hb (by simp[z])).trans e
 done:=fun s Q E st hQ=>by
  have hz:(pickOrder (w.params.setOrder a ep) es).size=es.size:=by rw[<-length_toList,(jE _ es).length_eq,length_toList]
  refine zL hh st.1 st.2 (fun A E Q q=>DR ht st.2 (by rw[Array.getElem?_eq_none (by omega)];exact q)) fun h' k=>?_;exact hQ h' s.toks fun b o hb e=>k b o (fun z=>hb (by simp[z])) e
 self:=fun _ _ _ _ st hQ=>oA st.1 hQ
theorem Oj(hh:A.handled=none)(ht:gU w=false)(hl:t.led=true)(hp:(!t.plain&&decide (es.size>1))=false)(g:m8 t.place.toList)(hz:t.place.size=es.size)(hne:a≠J):Walks prog w A J [J,a] [J] es.size (fun i v=>(es.toList.map (·.2))[i]?=some v) (fun i h=>uI h J a (.int (slotAt t i) 0) i es.size ep/\dW h a es ep t)where
 sub:=fun b hb=>by simp at hb;simp[hb]
 frame:=fun _ _ _ st hk=>⟨st.1.at' fun o e=>hk J (by simp) o e,st.2.at' fun o e=>hk a (by simp) o e⟩;item:=fun i s Q E hi st hQ=>by
  have hb:=pB g (i:=i) (by omega);have hi':i<t.place.size:=by omega
  refine vL (nx:=t.place[i]+1) (v:=es[i].2) st.1 st.2 (fun A E Q q=>Ht ht hl hp st.2 (by rw[hb,getElem?_eq_getElem hi,getElem?_eq_getElem hi'];exact q)) fun h' x sb=>?_;refine hQ _ h' s.toks (by simp[hi]) ⟨?_,st.2.at' fun o e=>(sb.2 a hne).trans e⟩ fun b o hb e=>(sb.2 b fun z=>hb (by simp[z])).trans e;have e:slotAt t (i+1)=((t.place[i]+1:Nat):Int):=by simp[slotAt,Array.getD,hi']
  rw[e];exact x
 done:=fun s Q E st hQ=>by have hb:=pB g (i:=es.size) (by omega);refine zL hh st.1 st.2 (fun A E Q q=>Ht ht hl hp st.2 (by rw[hb,Array.getElem?_eq_none (le_refl _)];exact q)) fun h' k=>?_;exact hQ h' s.toks fun b o hb e=>k b o (fun z=>hb (by simp[z])) e
 self:=fun _ _ _ _ st hQ=>oA st.1 hQ
theorem QH{T:Addr}{os:List Nat}{ot:Obj}{c:Nat}(h2:ot.data=.seq (os.map fun(i:Nat)=>rawInt (i:Int)).toArray c)(hh:A.handled=none)(ho:os.Perm (List.range es.size))(hne:a≠J)(hT:T≠J):Walks prog w A J [J,a,T] [J] es.size (fun i v=>(os.map fun j=>(es.getD j (0,.none)).2)[i]?=some v) (fun i h=>uI h J a (.ref T) i es.size ep/\dW h a es ep t/\h.get? T=some ot)where
 sub:=fun b hb=>by simp at hb;simp[hb]
 frame:=fun _ _ _ st hk=>⟨st.1.at' fun o e=>hk J (by simp) o e,st.2.1.at' fun o e=>hk a (by simp) o e,hk T (by simp) _ st.2.2⟩;item:=fun i s Q E hi st hQ=>by
  have hl:os.length=es.size:=by rw[ho.length_eq,length_range]
  have e:os[i]?=some (os[i]'(by omega)):=List.getElem?_eq_getElem _;have hj:os[i]'(by omega)<es.size:=mem_range.mp (ho.mem_iff.mp (getElem_mem _));refine Cy st.1 st.2.1 st.2.2 h2 e (getElem?_eq_getElem hj) fun h' x sb=>?_;exact hQ _ h' s.toks (by rw[getElem?_map,e];simp[Array.getD,hj]) ⟨x,st.2.1.at' fun o e=>(sb.2 a hne).trans e,(sb.2 T hT).trans st.2.2⟩ fun b o hb e=>(sb.2 b fun z=>hb (by simp[z])).trans e
 done:=fun s Q E st hQ=>by
  have hl:os.length=es.size:=by rw[ho.length_eq,length_range]
  refine DP hh st.1 st.2.1 st.2.2 h2 (List.getElem?_eq_none (by omega)) fun h' k=>?_;exact hQ h' s.toks fun b o hb e=>k b o (fun z=>hb (by simp[z])) e
 self:=fun _ _ _ _ st hQ=>oA st.1 hQ
end
section
variable{prog:Program}{w:World}{A:Around}{E:Value->Shared->Prop}{s:Shared}{a J:Addr}{es:Array (Int×Value)}{ep i:Nat}{t:SetTable}{f:Value}
theorem xU{src:Source}{n:Nat}{Q:Nat->Shared->Prop}(hn:n≠0)(h:∀i d,i<n->Q i {s with drawn:=d}):wpAny (model prog w) A (choose src n) Q E s:=fun _ _ _=>⟨hn,h _ _ (mod_lt _ (Nat.pos_of_ne_zero hn))⟩
theorem u6{α:Type}:∀(n:Nat)(xs:List α){s:Shared}{Q:List α->Shared->Prop},xs.length=n->(∀l d,l.Perm xs->Q l {s with drawn:=d})->wpAny (model prog w) A (drawOrder n xs) Q E s
 |0,xs,s,Q,hl,h=>by unfold drawOrder;refine wpAny_pure ?_;have:=h [] s.drawn (by rw[List.length_eq_zero_iff.mp hl]);cases s;exact this|n+1,[],s,Q,hl,h=>by cases hl|n+1,x::xs,s,Q,hl,h=>by
   unfold drawOrder;refine wpAny_bind (xU (by simp) fun i d hi=>?_);rw[List.getElem?_eq_getElem hi];refine wpAny_bind (u6 n ((x::xs).eraseIdx i) (by rw[List.length_eraseIdx,if_pos hi];simpa using hl) fun l d' p=>wpAny_pure ?_);refine h _ d' ((p.cons _).trans ?_);rw[List.eraseIdx_eq_take_drop_succ];have e:x::xs=(x::xs).take i++(x::xs)[i]::(x::xs).drop (i+1):=by rw[List.getElem_cons_drop,take_append_drop]
   conv=>rhs;rw[e]
   exact List.perm_middle.symm
inductive Mu(prog:Program)(w:World)(h h':Heap)(a:Addr)(es:Array (Int×Value))(J:Addr):Prop where|mk(fp:List Addr)(its:List Value)(St:Nat->Heap->Prop)(hp:its.Perm (es.toList.map (·.2)))(k:∀b o,h.get? b=some o->h'.get? b=some o)(W:∀A:Around,A.handled=none->Walks prog w A J fp [J] es.size (fun i v=>its[i]?=some v) St)(st:St 0 h')(hJ:h.objs.size<=J)(hf:∀b∈fp,b=a\/h.objs.size<=b)
theorem qF{f:Value}{Q:Value->Shared->Prop}(r:dW s.heap a es ep t)(q:uI (s.heap.push {cls:=.type "set_iterator",data:=.fields #[f,.int 0 0,.ref a,.int es.size 0,.int ep 0]}) s.heap.objs.size a f 0 es.size ep->Q (.ref s.heap.objs.size) {s with heap:=s.heap.push {cls:=.type "set_iterator",data:=.fields #[f,.int 0 0,.ref a,.int es.size 0,.int ep 0]}}):wpAny (model prog w) A (setEpoch a>>=fun ep=>newFields "set_iterator" [f,rawInt 0,Value.ref a,rawInt (es.size:Int),rawInt (ep:Int)]>>=fun r=>ret r) (fun fin s'=>∃v,fin=Fin.done (Flow.ret v)/\∃T' r,s'.TypeIs v T'/\typeLookup (Value.type T') (Str.ofString "__next__")=pure (some r)/\Q v s') E s:=by obtain⟨o,ho,_,hd,hf⟩:=id r;refine wpAny_bind (wpAny_setEpoch_of ho hd hf (wpAny_bind ?_));unfold newFields;refine wpAny_newObj_type (wpAny_pure ⟨_,rfl,"set_iterator",_,⟨_,get?_push_size _ rfl,rfl⟩,aR.lookup,?_⟩);exact q ⟨_,get?_push_size _ rfl,rfl,rfl⟩
theorem Em{Q:Value->Shared->Prop}(r:dW s.heap a es ep t)(hl:t.led=!gU w)(g:m8 t.place.toList)(hz:es.size<=sizeLine)(q:∀h' J d,Mu prog w s.heap h' a es J->Q (.ref J) {s with heap:=h',drawn:=d}):wpAny (model prog w) A (pyIter (.ref a)) Q E s:=by
 have hlt:a<s.heap.objs.size:=by obtain⟨o,ho,_⟩:=r;exact lt_size ho
 have hps:t.place.size=es.size:=by obtain⟨o,ho,_,_,hf⟩:=r;simp only[fits,and_eq_true,beq_iff_eq]at hf;exact hf.1
 refine wpAny_pyIter_slot r.ty PySem.F.slot_set_iter (wpAny_call_entry PySem.F.slot_set_iter r.ty sH ?bd (PySem.F.args_set_iter_1 _));unfold Builtin.«frozenset.__iter__» Builtin.Frozenset.slot0 Builtin.Frozenset.addrOf;refine wpAny_bind (wpAny_bind (wpAny_pure (wpAny_pure ?_)));unfold Builtin.Frozenset.sizeOf;refine wpAny_bind (wpAny_bind (gn r (wpAny_pure ?_)));unfold setDrawn;refine wpAny_bind (wpAny_bind (dM r ?_));unfold setsByText;refine wpAny_bind (wpAny_bind (wpAny_askSetting (wpAny_pure (wpAny_pure ?_))));show wpAny _ _ (if(!gU w&&(!t.plain&&decide (es.size>1)))=true then _ else _) _ _ _;by_cases c:(!gU w&&(!t.plain&&decide (es.size>1)))=true
 . rw[if_pos c];refine wpAny_bind (u6 es.size _ length_range fun os d po=>wpAny_bind (wpAny_newTuple ?_ (by rw[length_map,po.length_eq,length_range];exact hz)));refine qF (es:=es) (s:={s with heap:=_,drawn:=d}) (r.at' fun o e=>get?_push_of_some _ e) fun x=>?_;refine q _ _ d ⟨_,_,_,?_,fun b o e=>get?_push_of_some _ (get?_push_of_some _ e),fun A hh=>QH (T:=s.heap.objs.size) (c:=0) rfl hh po ?_ ?_,⟨x,(r.at' fun o e=>get?_push_of_some _ (get?_push_of_some _ e)),get?_push_of_some _ (get?_push_size _ rfl)⟩,?_,?_⟩;.have:=po.map fun j=>(es.getD j (0,Value.none)).2;refine this.trans (.of_eq ?_);refine ext_getElem (by simp) fun i h1 h2=>?_;simp at h1;simp[Array.getD,h1]
   .rw[size_push];exact ne_of_lt (lt_succ_of_lt hlt)
   .rw[size_push];exact ne_of_lt (Nat.lt_succ_self _)
   .rw[size_push];exact le_succ _
   . intro b hb;rw[size_push]at hb;simp only[mem_cons,not_mem_nil,or_false]at hb;rcases hb with rfl|rfl|rfl;.exact .inr (le_succ _)
     .exact .inl rfl
     .exact .inr (le_refl _)
 . rw[if_neg c];refine wpAny_bind (wpAny_pure (qF (es:=es) r fun x=>?_));have kp:∀b o,s.heap.get? b=some o->(s.heap.push {cls:=.type "set_iterator",data:=.fields #[rawInt 0,.int 0 0,.ref a,.int es.size 0,.int ep 0]}).get? b=some o:=fun b o e=>get?_push_of_some _ e;have q':=q (s.heap.push {cls:=.type "set_iterator",data:=.fields #[rawInt 0,.int 0 0,.ref a,.int es.size 0,.int ep 0]}) s.heap.objs.size s.drawn;refine(show Mu prog w s.heap (s.heap.push {cls:=.type "set_iterator",data:=.fields #[rawInt 0,.int 0 0,.ref a,.int es.size 0,.int ep 0]}) a es s.heap.objs.size->_ from fun z=>by have:=q' z;cases s;exact this) ?_;have hf:∀b∈[s.heap.objs.size,a],b=a\/s.heap.objs.size<=b:=fun b hb=>by
    simp only[mem_cons,not_mem_nil,or_false]at hb;rcases hb with rfl|rfl;.exact .inr (le_refl _)
    .exact .inl rfl
   cases ht:gU w with|true=>exact⟨_,_,_,(jE (w.params.setOrder a ep) es).map (·.2),kp,fun A hh=>Ry hh ht (ne_of_lt hlt),⟨x,r.at' fun o e=>kp a o e⟩,le_refl _,hf⟩|false=>rw[ht]at c hl;exact⟨_,_,_,.refl _,kp,fun A hh=>Oj hh ht hl (by simpa using c) g hps (ne_of_lt hlt),⟨x,r.at' fun o e=>kp a o e⟩,le_refl _,hf⟩
theorem Di(hT:s.TypeIs (.ref a) "set"){Q:Bool->Shared->Prop}(h:Q false s):wpAny (model prog w) A (listLengthHint (.ref a)) Q E s:=by unfold listLengthHint;refine wpAny_bind (wpAny_specialOf hT sV ?_);generalize hid:("set.__len__":String)=id0;wp_delta;rw[show splitId id0=some ("set","__len__")from by subst hid;decide+kernel];subst hid;refine wpAny_bind (wpAny_isInstance (T:="set") (b:=true) hT (by rw[isSubtype_type];kernel_rfl) ?_);refine wpAny_ite_split (fun z=>absurd z (by decide)) (fun _=>wpAny_ite_split (fun _=>wpAny_bind (wpAny_typeOf hT (wpAny_pure h))) (fun z=>absurd (by decide+kernel) z))
theorem yl{acc:Array Value}{its:List Value}(h:ItemsOf (fun i v=>its[i]?=some v) acc its.length):acc.toList=its:=by refine List.ext_getElem? fun i=>?_;rw[getElem?_toList];cases q:acc[i]?with|none=>rw[Array.getElem?_eq_none_iff,h.1]at q;rw[List.getElem?_eq_none q]|some v=>exact(h.2 i v q).symm
theorem yc{R:Result->Shared->Prop}(hh:A.handled=none)(r:dW s.heap a es ep t)(hl:t.led=!gU w)(g:m8 t.place.toList)(hz:es.size<=sizeLine)(S:Addr)(hSa:S≠a)(res:Value)(c₀:Nat)(hS:s.heap.get? S=some {cls:=.type "list",data:=.seq #[] c₀})(hR:∀h' tk d acc c',(∀b o,b≠S->s.heap.get? b=some o->h'.get? b=some o)->h'.get? S=some {cls:=.type "list",dict:=none,data:=.seq acc c',slots:=#[]}->acc.toList.Perm (es.toList.map (·.2))->R (.ok (.ret res)) {s with heap:=h',toks:=tk,drawn:=d}):wpAny (model prog w) A.in1 (listExtendWith (.ref S) (.ref a) res) (fun fin s'=>match fin with|.done f=>R (.ok f) s'|.again c'=>c'.quiet=true/\codeAny (model prog w) A c' R s') (fun e s'=>R (.error e) s') s:=by
 unfold listExtendWith;refine wpAny_bind (wpAny_typeOf (T:="set") r.ty ?_);have h1:listSameRef (.ref S) (.ref a)=false:=by simp[listSameRef,hSa]
 have h2:(Value.type "set"==Value.type "list")=false:=by decide
 have h3:(Value.type "set"==Value.type "tuple")=false:=by decide
 simp only[h1,h2,h3,Bool.or_false,false_eq_true,if_false];refine wpAny_bind (Em r hl g hz fun h' J d x=>?_);obtain⟨fp,its,St,hp,k,W,st,hJ,hf⟩:=x;have hlen:its.length=es.size:=by rw[hp.length_eq,length_map,length_toList]
 have hSl:=lt_size hS;have hSf:S∉fp:=fun z=>by
  rcases hf S z with e|e;.exact hSa e
  .exact absurd hSl (not_lt.mpr e)
 have hSJ:S≠J:=fun e=>absurd hSl (not_lt.mpr (e▸hJ));have key:∀(h1:Heap)(c₁ tk:Nat),St 0 h1->(∀b o,b≠S->s.heap.get? b=some o->h1.get? b=some o)->h1.get? S=some {cls:=.type "list",data:=.seq #[] c₁}->codeAny (model prog w) A (.builtin "list.extend.loop" ⟨[.ref S,.ref J,res],[]⟩) R {s with heap:=h1,toks:=tk,drawn:=d}:=by
  intro h1 c₁ tk hst hk hS₁;refine codeAny_extend_loopS (W A.in1 hh).toS hz S hSf res es.size 0 _ #[] c₁ rfl (zero_le _) hst hS₁ (ItemsOf.nil _) fun s' acc' c' hm hS' hacc=>?_;rw[Moved.eq_with hm];rw[<-hlen]at hacc;refine hR s'.heap s'.toks d acc' c' (fun b o hb e=>hm.heap b o (fun z=>?_) (hk b o hb e)) hS' (by rw[yl hacc];exact hp);rcases mem_cons.mp z with e'|z;.exact hb e'
  .rw[mem_singleton.mp z]at e;exact absurd (lt_size e) (not_lt.mpr hJ)
 have hS₁:=k S _ hS;refine wpAny_bind (wpAny_holding (Di (s:={s with heap:=h',drawn:=d}) (by obtain⟨o,ho,hx,_⟩:=r;exact⟨o,k _ _ ho,hx.1⟩) ?_));refine wpAny_ite_split (fun _=>?_) (fun _=>wpAny_pure ⟨plainId_quiet PySem.F.plain_extend_loop _,key _ c₀ _ st (fun b o _ e=>k b o e) hS₁⟩);refine wpAny_bind (wpAny_rule (wpAny_bind ?_));show wpAny _ _ (updateSeq S (·.push .none)>>=fun _=>updateSeq S (·.pop)) _ _ _;refine wpAny_bind (wpAny_updateSeq hS₁ rfl ?_);have hS₂:=get?_update_self (Obj.mapSeq (·.push Value.none)) hS₁ rfl;refine wpAny_updateSeq (hz:=by seq_fits) hS₂ rfl ?_;have hS₃:=get?_update_self (Obj.mapSeq (·.pop)) hS₂ rfl;refine wpAny_pure ⟨plainId_quiet PySem.F.plain_extend_loop _,key _ _ _ ((W A hh).frame 0 _ _ st fun b hb o e=>?_) (fun b o hb e=>?_) hS₃⟩;.have hbS:b≠S:=fun h=>hSf (h▸hb);exact(get?_update_other _ _ (Ne.symm hbS)).trans ((get?_update_other _ _ (Ne.symm hbS)).trans e)
 .exact(get?_update_other _ _ (Ne.symm hb)).trans ((get?_update_other _ _ (Ne.symm hb)).trans (k b o e))
theorem wy{Q:List Value->Shared->Prop}(hh:A.handled=none)(r:dW s.heap a es ep t)(hl:t.led=!gU w)(g:m8 t.place.toList)(hz:es.size<=sizeLine)(hQ:∀h' tk d its,(∀b o,s.heap.get? b=some o->h'.get? b=some o)->s.heap.objs.size<h'.objs.size->its.Perm (es.toList.map (·.2))->Q its {s with heap:=h',toks:=tk,drawn:=d}):wpAny (model prog w) A (collect (.ref a)) Q E s:=by
 have hlt:a<s.heap.objs.size:=by obtain⟨o,ho,_⟩:=r;exact lt_size ho
 unfold collect;refine wpAny_bind (wpAny_runValue (codeAny_builtin PySem.F.entry_proto_collect ?_));rw[Around.under_plainId PySem.F.plain_proto_collect _];show wpAny _ A.in1 (newList []>>=fun l=>again (.builtin "list.__iadd__" ⟨[l,.ref a],[]⟩)) _ _ s;refine wpAny_bind (wpAny_newObj_type (wpAny_pure ⟨plainId_quiet PySem.F.plain_list_iadd _,codeAny_builtin PySem.F.entry_list_iadd ?_⟩));rw[Around.under_plainId PySem.F.plain_list_iadd _];show wpAny _ A.in1 (listExtendWith (.ref s.heap.objs.size) (.ref a) (.ref s.heap.objs.size)) _ _ _;refine yc (A:=A) (R:=fun r s'=>match r with
  |.ok (.ret v)=>wpAny (model prog w) A (match v with
   |.ref a=>do let o<-load a match o.data with|.seq xs _=>pure xs.toList|_=>unsupported "internal:collect"
   |_=>unsupported "internal:collect") Q E s'|.ok _=>False|.error e=>E e s') (s:={s with heap:=s.heap.push {cls:=.type "list",data:=.seq #[]}}) hh (r.at' fun o e=>get?_push_of_some _ e) hl g hz s.heap.objs.size (ne_of_gt hlt) _ 0 (get?_push_size _ rfl) (fun h' tk d acc c' hk hS hacc=>?_);exact wpAny_bind (wpAny_load hS (wpAny_pure (hQ h' tk d acc.toList (fun b o e=>hk b o (ne_of_lt (lt_size e)) (get?_push_of_some _ e)) (lt_size hS) hacc)))
end
end HH
end
section
namespace HH
open PySem L2 PySem.Spec PyProof.Rows PySem.Calls PySem.W
theorem Pr{X:Cx}{pins:List (Addr×Obj)}{σ:L2.St}{H:Hp}{s:Shared}(I:L2.Inv X pins σ H s)(d:Drawn):L2.Inv X pins σ H {s with drawn:=d}:=⟨I.ok,I.os,I.bare,I.base,I.loc,I.cell,I.free,I.iW,I.pin,I.hok,I.len⟩
def sI(X:Cx)(l:Addr)(ks:List Int):Heap->Prop:=fun h=>gY X.prog X.w (!gU X.w) h l ks
def abq(X:Cx):List V->Hp->VK->Prop:=fun xs H Q=>∃p ns,xs=[.ref p]/\(dz X.K H p (map V.int ns)\/jm X.K H p (map V.int ns))/\ns.length<64/\∀l,H l=none->Q (.ref l) (upd H l (.ext (sI X l (dg ns))))
def abo(X:Cx):List V->Hp->VK->Prop:=fun xs H Q=>∃l ks,xs=[.ref l]/\H l=some (.ext (sI X l ks))/\ks.length<64/\∀q,H q=none->Q (.ref q) (upd H q (.lst (((jQ (ks.map D.int)).map cu).map V.int)))
section
variable{X:Cx}{c:Call}{a:Expr}{pa:P}{pos:Pos}
theorem Va(hc:X.calm=true):dm X (.type "set") (abq X):=by
 rintro pins s σ H xs us Q I r⟨p,ns,rfl,hq,hn,k⟩;obtain⟨u,rfl,rx⟩:=r.one;cases rx;rcases hq with hq|hq;.obtain⟨its,rv,pl,hz⟩:=I.list hq;refine Ei (I.ok.hd hc) pl.isList (intsAre_of rv) (by unfold scanBound;omega) fun h' tk hs kp=>?_;refine⟨.ref s.heap.objs.size,_,I.laid (t':=tk) (o:=.ext (sI X s.heap.objs.size (dg ns))) (h':=h') kp (le_refl _) ⟨hs,?_,fun h1 h2 z k=>gY.at' z k⟩,rfl,k _ (I.hok.fresh (le_refl _))⟩;obtain⟨o,_,_,_,_,ho,_⟩:=hs;exact⟨o,ho⟩
 .obtain⟨its,rv,pl,hz⟩:=I.tuple hq;refine Cg (I.ok.hd hc) pl (intsAre_of rv) (by unfold scanBound;omega) fun h' tk hs kp=>?_;refine⟨.ref s.heap.objs.size,_,I.laid (t':=tk) (o:=.ext (sI X s.heap.objs.size (dg ns))) (h':=h') kp (le_refl _) ⟨hs,?_,fun h1 h2 z k=>gY.at' z k⟩,rfl,k _ (I.hok.fresh (le_refl _))⟩;obtain⟨o,_,_,_,_,ho,_⟩:=hs;exact⟨o,ho⟩
theorem Ep{ks:List Int}(h:ks.length<=16777216):sortable (ks.map D.int)=true:=by simp only[sortable,length_map,and_eq_true,or_eq_true,decide_eq_true_eq];refine⟨h,.inl ?_⟩;rw[all_eq_true];intro x hx;obtain⟨i,_,rfl⟩:=mem_map.mp hx;rfl
theorem Er{js ks:List Int}(h:js.length<=16777216)(p:js.Perm ks):jQ (js.map D.int)=jQ (ks.map D.int):=by have sk:=Ep (ks:=ks) (by rw[<-p.length_eq];exact h);exact lu sk ((fW _).trans (p.map D.int)) (oY _)
theorem Jy(hc:X.calm=true):dm X (.builtin "sorted") (abo X):=by
 rintro pins s σ H xs us Q I r⟨l,ks,rfl,hq,hn,k⟩;obtain⟨u,rfl,rx⟩:=r.one;cases rx;obtain⟨⟨o,es,ep,t,is,ho,hx,hd,tg,hf,he,hi,hp⟩,_,_⟩:=(show bh X.prog X.w H s.heap l (.ext (sI X l ks))from I.hok l _ hq);have hes:es.size=ks.length:=by rw[<-hp.length_eq,<-fP hi,length_map,length_toList]
 refine Calls.call_function_entry kind_sorted plain_sorted entry_sorted (args_sorted1 _) ?_;unfold Builtin.«sorted»;refine wpAny_bind (m:=checkCount "sorted" 1 1 _) (wpAny_pure ?_);refine wpAny_bind (wy (A:=X.A.in1) (I.ok.hd hc) ⟨o,ho,hx,hd,hf⟩ tg.1 tg.2.2 (by rw[hes,sizeLine_eq];omega) fun h1 tk d its kp hsz pi=>?_);obtain⟨js,ij,jp⟩:=mq pi hi;have jk:=jp.trans hp;have hla:its.length=ks.length:=by rw[fP ij,jk.length_eq]
 refine wpAny_bind (wpAny_newList ?_ (by rw[sizeLine_eq];omega));have hsz:=le_of_lt hsz;generalize hG:(h1.push {cls:=.type "list",data:=.seq its.toArray}:Heap)=H2;have ho2:H2.get? h1.objs.size=some (seqObj "list" its.toArray 0):=by rw[<-hG];exact get?_push_size _ rfl
 have wW:∀b o,s.heap.get? b=some o->H2.get? b=some o:=fun b o e=>by rw[<-hG];exact get?_push_of_some _ (kp b o e)
 have hne:∀b o,s.heap.get? b=some o->b≠h1.objs.size:=fun b o e=>ne_of_lt (lt_size (kp b o e));show wpAny _ _ _ _ _ {s with heap:=H2,toks:=tk,drawn:=d};refine wpAny_bind (wpAny_holding (wpAny_call_entry slot_list_sort ⟨_,ho2,rfl⟩ entry_list_sort ?body (args_list_sort _)));case body=>
  refine Bk (s:={s with heap:=H2,toks:=tk,drawn:=d}) ho2 ij (by omega) fun h' cc out is k' i1 p2 l2 e=>⟨_,rfl,wpAny_pure ⟨_,rfl,?_⟩⟩;have kk:∀b o,s.heap.get? b=some o->h'.get? b=some o:=fun b o z=>k' b o (hne b o z) (wW b o z);have e2:is.map V.int=((jQ (ks.map D.int)).map cu).map V.int:=by rw[<-Er (by rw[jk.length_eq];omega) jk,p2];simp[cu,Function.comp_def]
  refine⟨.ref h1.objs.size,_,Pr (I.laid (t':=tk) (o:=.lst (is.map V.int)) (h':=h') kk hsz ⟨by rw[length_map,l2,<-fP ij,sizeLine_eq];omega,out,cc,gG i1,e⟩) d,rfl,?_⟩;rw[e2];exact k _ (I.hok.fresh hsz)
theorem IV{x y:Str}{p' p2 pos2:Pos}(hx:x="sorted")(hy:y="set")(hc:X.calm=true)(hg:Gl X x)(hm:X.mg x=none)(hg2:Gl X y)(hm2:X.mg y=none)(ha:SX X c a pa)(hs:starEach [a] X.env=(false,eval a X.env)::starEach [] X.env:=by rfl):SX X c (.Call (.Name x p') [.Call (.Name y p2) [a] [] pos2] [] pos) (.blt .sset [pa]):=by
 subst hx;subst hy;obtain⟨ta,h1,h3⟩:=ha.bN;refine⟨cT (dY (Jy hc) hg hm boot_sorted (bA (je (Va hc) hg2 hm2 (by decide+kernel) (bA h1 cL hs) (he:=hs)) cL)) ?_,fun i h=>by cases h⟩;rintro σ H Q⟨F,ρ,r,ρ',g,e,k⟩;rw[HH.E15]at e;obtain⟨d,ρ1,e1,e2⟩:=aa e;have zz:=aA e2;clear e2;obtain⟨e2,e3⟩:=zz;subst e3;refine h3 g e1 fun v F' H' st pv=>?_;obtain⟨ds,e2,p,ys,rfl,hq,rs⟩:∃ds:List D,(if ds.length<64/\ds.all cX=true then some (R.own (jQ ((dg (ds.map cu)).map D.int)))else none)=some r/\∃p ys,v=.ref p/\(dz X.K H' p ys\/jm X.K H' p ys)/\au X.K F' ys ds:=by cases d with|lst ds=>obtain⟨p,ys,h1,h2,h3⟩:=pv.lst st.gs.sub;exact⟨ds,e2,p,ys,h1,.inl h2,h3⟩|tup ds=>obtain⟨p,ys,h1,h2,h3,_⟩:=pv.tup st.gs.sub;exact⟨ds,e2,p,ys,h1,.inr h2,h3⟩|_=>cases e2
 obtain⟨⟨hn,ho⟩,he⟩:=aW e2;subst he;rw[all_ints ho]at rs;have ey:=fY rs;subst ey;have hdl:(dg (ds.map cu)).length<64:=by have:=xH (ds.map cu) [];unfold dg;simp only[length_nil,length_map]at this;omega
 refine⟨p,ds.map cu,rfl,hq,by rw[length_map];exact hn,fun l hl=>⟨l,dg (ds.map cu),rfl,aH ..,hdl,fun q hq2=>?_⟩⟩;have x1:Ext F' H' F' (upd H' l (.ext (sI X l (dg (ds.map cu))))):=⟨aG.bB hl,.refl _,fun b o e=>aG.bB hl b o (st.gs.sub b o e),fun _ a b=>absurd a b⟩;refine uL (K:=X.K) (F:=F') x1.sub (ds:=jQ ((dg (ds.map cu)).map D.int)) ?_ hq2 fun w F2 H2 x2 rn=>?_;.have e4:jQ ((dg (ds.map cu)).map D.int)=((jQ ((dg (ds.map cu)).map D.int)).map cu).map D.int:=all_ints (by rw[all_eq_true];intro x hx;obtain⟨i,_,rfl⟩:=mem_map.mp ((fW _).mem_iff.mp hx);rfl);rw[e4];have:=my (K:=X.K) (F:=F') ((jQ ((dg (ds.map cu)).map D.int)).map cu);rw[<-e4]at this ⊢;exact this
 . have x3:Ext F' H' F2 H2:=⟨x1.hs.trans x2.hs,x2.fs,x2.sub,fun b n n'=>by
    have:=x2.gr b n n';by_cases eb:b=l;.subst eb;rw[hl];rfl
    .rw[ao eb]at this;exact this⟩;have rn2:bK X.K F2 H2 H' w (.own (jQ ((dg (ds.map cu)).map D.int))):=by obtain⟨b,xs,q1,q2,q3,q4,q5⟩:=rn;refine⟨b,xs,q1,q2,q3,q4,?_⟩;cases z:H' b with|none=>rfl|some o=>rw[x1.hs b o z]at q5;cases q5
   exact k w F2 H2 (st.trans (x3.stp st.gs)) (.later st (rn2.m5 st.gs))
end
noncomputable def wZ(nw:Addr->Option HO)(H:Hp):Hp:=fun a=>match nw a with|some o=>some o|none=>H a
theorem sZ{nw:Addr->Option HO}{H:Hp}{a:Addr}{o:HO}(h:nw a=some o):wZ nw H a=some o:=by unfold wZ;rw[h]
theorem fj{nw:Addr->Option HO}{H:Hp}{a:Addr}(h:nw a=none):wZ nw H a=H a:=by unfold wZ;rw[h]
theorem Vc{X:Cx}{pins:List (Addr×Obj)}{σ:L2.St}{H:Hp}{s:Shared}{h':Heap}{t':Nat}{nw:Addr->Option HO}(I:L2.Inv X pins σ H s)(k:∀b u,s.heap.get? b=some u->h'.get? b=some u)(hp:∀a o,nw a=some o->s.heap.objs.size<=a)(new:∀a o,nw a=some o->bh X.prog X.w (wZ nw H) h' a o):L2.Inv X pins σ (wZ nw H) {s with heap:=h',toks:=t'}:=by
 have no:∀a,a<s.heap.objs.size->nw a=none:=fun a ha=>by cases q:nw a with|none=>rfl|some o=>exact absurd (hp a o q) (Nat.not_le_of_lt ha)
 have old:∀a o,H a=some o->wZ nw H a=some o:=fun a o e=>by rw[fj (no a (I.hok.lt e))];exact e
 refine I.un ⟨fun b u q _ _ _=>k b u q,fun b u q _ _ _=>⟨u.slots,k b u q⟩,fun b u q n _=>?_,fun b u q _=>⟨u,k b u q⟩,fun b xs q=>old b _ q,fun b u xs q=>old b _ q,fun b ps q=>⟨#[],by rw[old b _ q];simp⟩⟩ fun b u e=>?_;.rw[fj (no b (lt_size q))];exact n
 .cases q:nw b with|some o=>rw[sZ q]at e;cases e;exact new b _ q|none=>rw[fj q]at e;exact(I.hok b u e).stay (fun c v _ z=>k c v z) (fun c z=>old c _ z) fun c xs z=>old c _ z
def iv(l d:Addr):Heap->Prop:=fun h=>h.IsItemsView l d
def Hd:V->List V->Hp->VK->Prop:=fun x xs H Q=>∃q ob kvs,x=.ref q/\xs=[]/\H q=some (.cC ob (.dK (map qi kvs)))/\∀l,H l=none->Q (.ref l) (upd H l (.ext (iv l q)))
def rIt(X:Cx):List V->Hp->VK->Prop:=fun xs H Q=>∃l q ob kvs,xs=[.ref l]/\H l=some (.ext (iv l q))/\H q=some (.cC ob (.dK (map qi kvs)))/\sortable (kvs.map jW)=true/\∃F,aG F H/\∀v F' H',Ext F H F' H'->bK X.K F' H' H v (.own (jQ (kvs.map jW)))->Q v H'
theorem vH{P:Program}{w:World}{h:Heap}:∀{kvs:List (Int×Int)}{vs:List (Key×Value)}{as:List Addr},KV (kvs.map qi) vs->as.length=vs.length->(∀(j:Nat)(a:Addr),as[j]?=some a->∃key k x,vs[j]?=some (k,x)/\(aN P w).is k key=true/\h.get? a=some {cls:=.type "tuple",data:=.seq #[key,x]})->∀(j:Nat)(a:Addr),as[j]?=some a->∃p,kvs[j]?=some p/\∃t u,h.get? a=some {cls:=.type "tuple",data:=.seq #[Value.int p.1 t,Value.int p.2 u]}
 |[],_,as,.nil,hl,_,j,a,e=>by cases as with|nil=>cases e|cons _ _=>simp at hl
 |p::kvs,_,as,.cons (b:=q) r t,hl,hk,j,a,e=>by cases as with|nil=>cases e|cons b as=>cases j with
     |zero=>
       obtain⟨key,k,x,e1,e2,e3⟩:=hk 0 a e;simp at e1;have e4:k=Sum.inl p.1:=by have z:=r.1;rw[e1]at z;exact z.symm
       have e5:∃u,x=Value.int p.2 u:=by have z:=r.2;rw[e1]at z;exact z
       subst e4;obtain⟨u,rfl⟩:=e5;obtain⟨i,tk,e6,rfl⟩|⟨_,_,e6,_⟩:=aZ (show mO (Sum.inl p.1) key=true from e2);.cases e6;exact⟨p,rfl,tk,u,e3⟩
       .cases e6|succ j=>exact vH t (by simpa using hl) (fun i c z=>by simpa using hk (i+1) c (by simpa using z)) j a (by simpa using e)
noncomputable def Yi(p:Int×Int):HO:=.tup [.int p.1,.int p.2]
noncomputable def nF:List Addr->List (Int×Int)->Addr->Option HO|a::as,p::ps,b=>if b=a then some (Yi p)else nF as ps b|_,_,_=>none
theorem nJ:∀{as:List Addr}{ps:List (Int×Int)}{b:Addr}{o:HO},nF as ps b=some o->∃(j:Nat)(p:Int×Int),as[j]?=some b/\ps[j]?=some p/\o=Yi p
 |a::as,p::ps,b,o,h=>by
   unfold nF at h;split at h;.rename_i e;cases h;subst e;exact⟨0,p,rfl,rfl,rfl⟩
   .obtain⟨j,q,h1,h2,h3⟩:=nJ h;exact⟨j+1,q,by simpa using h1,by simpa using h2,h3⟩|[],_,_,_,h=>by simp[nF]at h|_::_,[],_,_,h=>by simp[nF]at h
theorem Av:∀{as:List Addr}{ps:List (Int×Int)},as.Pairwise (·<·)->∀{j:Nat}{b:Addr}{p:Int×Int},as[j]?=some b->ps[j]?=some p->nF as ps b=some (Yi p)|[],_,_,_,_,_,h,_=>by simp at h|_::_,[],_,_,_,_,_,h=>by simp at h|a::as,q::ps,hp,j,b,p,h1,h2=>by unfold nF;cases j with|zero=>cases h1;cases h2;rw[if_pos rfl]|succ j=>
     have h1:as[j]?=some b:=by simpa using h1
     have:=(List.pairwise_cons.mp hp).1 b (mem_of_getElem? h1);rw[if_neg (fun e=>by rw[e]at this;exact lt_irrefl _ this)];exact Av (List.pairwise_cons.mp hp).2 h1 (by simpa using h2)
theorem oG:∀as:List Addr,Vals (as.map V.ref) (as.map Value.ref)|[]=>.nil|_::as=>.cons rfl (oG as)
theorem Ac{K:PySem.W.Frag}{F:Hp}:∀{as:List Addr}{ps:List (Int×Int)},as.length=ps.length->(∀(j:Nat)(b:Addr)(p:Int×Int),as[j]?=some b->ps[j]?=some p->F b=some (Yi p))->au K F (as.map V.ref) (ps.map jW)|[],[],_,_=>.nil|a::as,p::ps,hl,h=>.cons (by have:=h 0 a p rfl rfl;rw[show jW p=.tup [.int p.1,.int p.2]from rfl,Rep];refine⟨a,_,rfl,.inl (.inl this),.cons (by rw[Rep]) (.cons (by rw[Rep]) .nil)⟩) (Ac (by simpa using hl) fun j b q h1 h2=>h (j+1) b q (by simpa using h1) (by simpa using h2))|[],_::_,hl,_=>by simp at hl|_::_,[],hl,_=>by simp at hl
theorem zu{h:Heap}:∀{as:List Addr}{ps:List (Int×Int)},as.length=ps.length->(∀(j:Nat)(b:Addr),as[j]?=some b->∃p,ps[j]?=some p/\∃t u,h.get? b=some {cls:=.type "tuple",data:=.seq #[Value.int p.1 t,Value.int p.2 u]})->Paired (mZ h) (as.map Value.ref) (ps.map jW)|[],[],_,_=>.nil|a::as,p::ps,hl,h=>.cons (by obtain⟨q,e,t,u,g⟩:=h 0 a rfl;cases e;exact⟨a,[Value.int p.1 t,Value.int p.2 u],[p.1,p.2],rfl,⟨_,g,rfl,0,rfl⟩,.cons _ _ (.cons _ _ .nil),by simp,rfl⟩) (zu (by simpa using hl) fun j b h1=>by simpa using h (j+1) b (by simpa using h1))|[],_::_,hl,_=>by simp at hl|_::_,[],hl,_=>by simp at hl
theorem vW{prog:Program}{w:World}{A:Around}{E:Value->Shared->Prop}{s:Shared}{v d:Addr}{kvs:List (Key×Value)}{ep:Nat}{Q:List Value->Shared->Prop}(hh:A.handled=none)(hv:s.heap.IsItemsView v d)(hm:s.heap.DictAt (aN prog w) d kvs ep)(hn:kvs.length<=sizeLine)(hQ:∀(h':Heap)(tk:Nat)(as:List Addr),(∀b o,s.heap.get? b=some o->h'.get? b=some o)->s.heap.objs.size<h'.objs.size->as.length=kvs.length->KdxG (aN prog w) kvs s.heap.objs.size h' as->Q (as.map Value.ref) {s with heap:=h',toks:=tk}):wpAny (model prog w) A (collect (.ref v)) Q E s:=by
 have hvl:v<s.heap.objs.size:=let⟨_,h1,_⟩:=hv;lt_size h1;have hdl:d<s.heap.objs.size:=hm.lt_size;unfold collect;refine wpAny_bind (wpAny_runValue (codeAny_builtin F.entry_proto_collect ?_));rw[Around.under_plainId F.plain_proto_collect _];show wpAny _ A.in1 (newList []>>=fun l=>again (.builtin "list.__iadd__" ⟨[l,.ref v],[]⟩)) _ _ s;refine wpAny_bind (wpAny_newObj_type (wpAny_pure ⟨plainId_quiet F.plain_list_iadd _,codeAny_builtin F.entry_list_iadd ?_⟩));rw[Around.under_plainId F.plain_list_iadd _];show wpAny _ A.in1 (listExtendWith (.ref s.heap.objs.size) (.ref v) (.ref s.heap.objs.size)) _ _ _;refine kdx_extend (A:=A) (R:=fun r s'=>match r with
  |.ok (.ret v)=>wpAny (model prog w) A (match v with
   |.ref a=>do let o<-load a match o.data with|.seq xs _=>pure xs.toList|_=>unsupported "internal:collect"
   |_=>unsupported "internal:collect") Q E s'|.ok _=>False|.error e=>E e s') (s:={s with heap:=s.heap.push {cls:=.type "list",data:=.seq #[]}}) hh (let⟨o,h1,q⟩:=hv;⟨o,get?_push_of_some _ h1,q⟩) (hm.at' fun o e=>get?_push_of_some _ e) s.heap.objs.size (ne_of_gt hvl) (ne_of_lt hdl) _ 0 (get?_push_size _ rfl) (fun h' tk acc c' as hk hS hl hG hacc=>?_) hn;refine wpAny_bind (wpAny_load hS (wpAny_pure ?_));rw[hacc];exact hQ h' tk as (fun b o e=>hk b o (ne_of_lt (lt_size e)) (get?_push_of_some _ e)) (lt_size hS) hl (hG.low (by rw[size_push'];exact le_succ _))
section
variable{X:Cx}{c:Call}{a:Expr}{pa:P}{pos:Pos}
theorem G3:MtR X "dict.items" Hd:=by rintro pins s σ H x xs v us Q I rx rv⟨q,ob,kvs,rfl,rfl,hq,k⟩;cases rx;cases rv;obtain⟨ho,hz,hS,vs,r,dd⟩:=(show bh X.prog X.w H s.heap q (.cC ob (.dK (kvs.map qi)))from I.hok q _ hq);refine call_meetsIn PySem.F.slot_dict_items dd.typeIs PySem.F.entry_dict_items (PySem.F.args_dict_items_1 _) (meets_dict_items _ q hS) ⟨⟨vs,dd⟩,?_⟩;have hn:(s.heap.push {cls:=.type "dict_items",data:=.fields #[.ref q]}).IsItemsView s.heap.objs.size q:=⟨_,get?_push_size _ rfl,rfl,rfl⟩;refine⟨.ref s.heap.objs.size,_,I.laid (t':=s.toks) (o:=.ext (iv s.heap.objs.size q)) (fun b o e=>get?_push_of_some _ e) (le_refl _) ⟨hn,⟨_,get?_push_size _ rfl⟩,fun h1 h2 z k=>?_⟩,rfl,k _ (I.hok.fresh (le_refl _))⟩;obtain⟨o,z1,z2⟩:=z;exact⟨o,k o z1,z2⟩
theorem Q7(hc:X.calm=true):dm X (.builtin "sorted") (rIt X):=by
 rintro pins s σ H xs us Q I r⟨l,q,ob,kvs,hx,hl,hq,so,F,sm,k⟩;subst hx;obtain⟨u,rfl,rx⟩:=r.one;cases rx;obtain⟨XN,_,_⟩:=(show bh X.prog X.w H s.heap l (.ext (iv l q))from I.hok l _ hl);obtain⟨ho,hz,hS,vs,rv,dd⟩:=(show bh X.prog X.w H s.heap q (.cC ob (.dK (kvs.map qi)))from I.hok q _ hq);have hvl:vs.length=kvs.length:=by rw[<-Paired.length rv,length_map]
 obtain⟨o',es,ep,d1,d2,d3,d4⟩:=dd;have dat:s.heap.DictAt (aN X.prog X.w) q vs ep:=⟨o',es,d1,d2,d3,d4⟩;have so':=so;simp only[sortable,and_eq_true,decide_eq_true_eq,length_map]at so';have h64:=so'.1;clear so';refine Calls.call_function_entry kind_sorted plain_sorted entry_sorted (args_sorted1 _) ?_;unfold Builtin.«sorted»;refine wpAny_bind (m:=checkCount "sorted" 1 1 _) (wpAny_pure ?_);refine wpAny_bind (vW (A:=X.A.in1) (I.ok.hd hc) XN dat (by rw[hvl,sizeLine_eq];omega) fun h1 tk as kp hsz hla hG=>?_);have hsz:=le_of_lt hsz;have hlk:as.length=kvs.length:=hla.trans hvl;have pr:=vH rv hla hG.pairs;have tt:Paired (mZ h1) (as.map Value.ref) (kvs.map jW):=zu hlk pr;have hfr:∀a o,nF as kvs a=some o->s.heap.objs.size<=a:=fun a o e=>by obtain⟨j,p,e1,_,_⟩:=nJ e;exact le_of_lt (hG.above a (mem_of_getElem? e1))
 have hno:∀a o,nF as kvs a=some o->H a=none:=fun a o e=>I.hok.fresh (hfr a o e);have hsm:aG H (wZ (nF as kvs) H):=fun b o e=>by cases z:nF as kvs b with|none=>rw[fj z];exact e|some o'=>rw[hno b o' z]at e;cases e
 have e0:Ext F H (wZ (nF as kvs) F) (wZ (nF as kvs) H):=by
  refine⟨hsm,fun b o e=>?_,fun b o e=>?_,fun b n n'=>?_⟩;.cases z:nF as kvs b with|none=>rw[fj z];exact e|some o'=>have n0:=hno b o' z;rw[sm b o e]at n0;cases n0
  .cases z:nF as kvs b with|none=>rw[fj z]at e ⊢;exact sm b o e|some o'=>rw[sZ z]at e ⊢;exact e
  .cases z:nF as kvs b with|none=>rw[fj z]at n';exact absurd n n'|some o'=>rw[hno b o' z];rfl
 have rs:au X.K (wZ (nF as kvs) F) (as.map V.ref) (kvs.map jW):=Ac hlk fun j b p h1 h2=>sZ (Av hG.rise h1 h2);have vv:=oG as;have hlt:∀b∈as,b<h1.objs.size:=fun b hb=>hG.there hb;have XQ:(as.map Value.ref).length=kvs.length:=by rw[length_map];exact hlk
 refine wpAny_bind (wpAny_newList ?_ (by rw[XQ,sizeLine_eq];omega));generalize hG2:(h1.push {cls:=.type "list",data:=.seq (as.map Value.ref).toArray}:Heap)=H2;have ho2:H2.get? h1.objs.size=some (seqObj "list" (as.map Value.ref).toArray 0):=by rw[<-hG2];exact get?_push_size _ rfl
 have wW:∀b o,h1.get? b=some o->H2.get? b=some o:=fun b o e=>by rw[<-hG2];exact get?_push_of_some _ e
 have hne:∀b o,h1.get? b=some o->b≠h1.objs.size:=fun b o e=>ne_of_lt (lt_size e);show wpAny _ _ _ _ _ {s with heap:=H2,toks:=tk};refine wpAny_bind (wpAny_holding (wpAny_call_entry slot_list_sort ⟨_,ho2,rfl⟩ entry_list_sort ?body (args_list_sort _)));case body=>
  refine Bx (s:={s with heap:=H2,toks:=tk}) (κ:=tuples' (Value.type "int"!=Value.type "tuple")) ho2 so (by omega) tt Kq (fun h' k' C hC h2=>?_) (fun h' k' u v d e hd he C hC=>?_) fun h' cc p k' p1 p2 e=>?_;.exact Br (s:={s with heap:=h',toks:=tk}) (qJ (fun b o z=>k' b o (hne b o z) (wW b o z)) tt) h2 hC
  .have kk:∀b o,h1.get? b=some o->h'.get? b=some o:=fun b o z=>k' b o (hne b o z) (wW b o z);exact Jt (s:={s with heap:=h',toks:=tk}) (lZ kk hd) (lZ kk he) hC
  . refine⟨_,rfl,wpAny_pure ⟨_,rfl,?_⟩⟩;have kk:∀b o,h1.get? b=some o->h'.get? b=some o:=fun b o z=>k' b o (hne b o z) (wW b o z);have hL:nF as kvs h1.objs.size=none:=by cases z:nF as kvs h1.objs.size with|none=>rfl|some o=>obtain⟨j,p,e1,_,_⟩:=nJ z;exact absurd (hlt _ (mem_of_getElem? e1)) (lt_irrefl _)
    have heq:upd (wZ (nF as kvs) H) h1.objs.size (.lst (pick .non p (as.map V.ref)))=wZ (fun b=>if b=h1.objs.size then some (.lst (pick .non p (as.map V.ref)))else nF as kvs b) H:=by
     funext b;unfold upd wZ;by_cases z:b=h1.objs.size;.rw[if_pos z];simp only[if_pos z]
     .rw[if_neg z];simp only[if_neg z]
    have I':=Vc (t':=tk) (h':=h') (nw:=fun b=>if b=h1.objs.size then some (.lst (pick .non p (as.map V.ref)))else nF as kvs b) I (fun b o z=>kk b o (kp b o z)) (fun a o z=>by
     by_cases y:a=h1.objs.size;.rw[y];exact hsz
     .simp only[if_neg y]at z;exact hfr a o z) (fun a o z=>by
     by_cases y:a=h1.objs.size;.simp only[if_pos y]at z;cases z;subst y;exact⟨by rw[oK p1,XQ,sizeLine_eq];omega,pick .none p (as.map Value.ref),cc,Ez vv,e⟩
     .simp only[if_neg y]at z;obtain⟨j,p',e1,e2,rfl⟩:=nJ z;obtain⟨p'',e3,t,u,e4⟩:=pr j a e1;rw[e2]at e3;cases e3;exact⟨by rw[sizeLine_eq];simp,[Value.int p'.1 t,Value.int p'.2 u],.cons ⟨t,rfl⟩ (.cons ⟨u,rfl⟩ .nil),⟨_,kk _ _ e4,rfl,0,rfl⟩⟩);rw[<-heq]at I';refine⟨.ref h1.objs.size,_,I',rfl,?_⟩;have rs2:au X.K (wZ (nF as kvs) F) (pick .non p (as.map V.ref)) (jQ (kvs.map jW)):=by rw[<-p2];exact Dp rs
    refine uL e0.sub rs2 (by rw[fj hL];exact I.hok.fresh hsz) fun v F2 H2 x rn=>k v F2 H2 ⟨e0.hs.trans x.hs,e0.fs.trans x.fs,x.sub,fun c n n'=>?_⟩ ?_
    . by_cases e:wZ (nF as kvs) F c=none;.have:=x.gr c e n';cases z:H c with|none=>rfl|some o=>rw[hsm c o z]at this;exact this
      .exact e0.gr c n e
    obtain⟨b,xs,q1,q2,q3,q4,q5⟩:=rn;refine⟨b,xs,q1,q2,q3,q4,?_⟩;cases z:H b with|none=>rfl|some o=>rw[hsm b o z]at q5;cases q5
theorem Gh{o:Expr}{to:TE}{apos cpos:Pos}(ho:PE X o to)(hbase:attributeBase o "items" X.env (eval o X.env)=eval o X.env:=by rfl)(hline:(apos.endLine==cpos.line)=true:=by rfl):PE X (.Call (.Attribute o "items" apos) [] [] cpos) (fun σ H Q=>to σ H fun x H1=>Hd x [] H1 Q):=by intro pins s σ H Q I h;refine wpAny_Call_method0_late hbase hline (bC (ho pins s σ H _ I h) fun v s1⟨x,H1,I1,r1,q1⟩=>?_);obtain⟨q,ob,kvs,rfl,_,hq,k⟩:=id q1;cases r1;obtain⟨ho,hz,hS,vs,r,o',es,ep,g1,g2,g3⟩:=(show bh X.prog X.w H1 s1.heap q (.cC ob (.dK (kvs.map qi)))from I1.hok q _ hq);refine⟨"dict","dict.items",PySem.F.plainAttrs_dict,PySem.F.slot_dict_items,PySem.F.type_dict_items,⟨o',g1,g2.1⟩,fun b e=>?_,Calls.callWith_builtin rfl (PySem.evalArgs_none (G3 pins s1 σ H1 (.ref q) [] _ [] Q I1 rfl .nil q1))⟩;cases e;exact⟨o',g1,g2.2.1⟩
theorem Kw{x:Str}{p' apos cpos:Pos}{o:Expr}(hx:x="sorted")(hc:X.calm=true)(hg:Gl X x)(hm:X.mg x=none)(hline:(apos.endLine==cpos.line)=true)(ha:SX X c o pa)(hbase:attributeBase o "items" X.env (eval o X.env)=eval o X.env:=by rfl):SX X c (.Call (.Name x p') [.Call (.Attribute o "items" apos) [] [] cpos] [] pos) (.blt .Lf [pa]):=by
 subst hx;obtain⟨ta,h1,h3⟩:=ha.bN;refine⟨cT (dY (Q7 hc) hg hm boot_sorted (bA (Gh h1 hbase hline) cL)) ?_,fun i h=>by cases h⟩;rintro σ H Q⟨F,ρ,r,ρ',g,e,k⟩;rw[HH.ev]at e;obtain⟨d,ρ1,e1,e2⟩:=aa e;have zz:=aA e2;clear e2;obtain⟨e2,e3⟩:=zz;subst e3;refine h3 g e1 fun v F' H' st pv=>?_;obtain⟨kvs,rfl⟩:∃kvs,d=.cN (.k kvs):=by cases d with
  |cN m=>cases m with|k kvs=>exact⟨kvs,rfl⟩|t kvs=>cases e2
  |_=>cases e2
 obtain⟨so,he⟩:=aW (show(if sortable (kvs.map jW)=true then some (R.own (jQ (kvs.map jW)))else none)=some r from e2);subst he;obtain⟨q,ob,rfl,hq⟩:=pv.cN st.gs.sub;refine⟨q,ob,kvs,rfl,rfl,hq,fun l hl=>⟨l,q,ob,kvs,rfl,aH,aG.bB hl q _ hq,so,F',fun b o e=>aG.bB hl b o (st.gs.sub b o e),fun w F2 H2 x2 rn=>?_⟩⟩;have sm:aG H' (upd H' l (.ext (iv l q))):=aG.bB hl;have x3:Ext F' H' F2 H2:=⟨sm.trans x2.hs,x2.fs,x2.sub,fun b n n'=>by
  have:=x2.gr b n n';by_cases eb:b=l;.subst eb;rw[hl];rfl
  .rw[ao eb]at this;exact this⟩;have rn2:bK X.K F2 H2 H' w (.own (jQ (kvs.map jW))):=by obtain⟨b,xs,q1,q2,q3,q4,q5⟩:=rn;refine⟨b,xs,q1,q2,q3,q4,?_⟩;cases z:H' b with|none=>rfl|some o=>rw[sm b o z]at q5;cases q5
 exact k w F2 H2 (st.trans (x3.stp st.gs)) (.later st (rn2.m5 st.gs))
end
end HH
end
section
namespace HH
open PySem L2 PySem.Spec PyProof.Rows
section
variable{K:PySem.W.Frag}{F F' F1 H H' H1 F0 H0:Hp}{ρ ρ' ρ1 ρ0:List Sl}{σ σ' σ1 σ0:L2.St}{x:Nat}{q:Addr}{as:List Addr}{rows mX:List (List D)}
noncomputable def Ff:Sl->Bool|.aP=>true|.hold _=>true|_=>false
theorem dU{s:Sl}{i:Nat}{b:Addr}(hm:Ff s=true){o:Option V}(h:aK (ρ.set x s) (σ.set x o) i b):aK ρ σ i b/\i≠x:=by
 obtain⟨⟨t,ds,e,e'⟩,e1⟩:=h;by_cases c:x=i
 . subst c;rw[List.getElem?_set]at e;rw[if_pos rfl]at e;split at e;.cases e;cases s<;>first|(cases e';done)|(cases hm;done)
   .cases e
 .rw[getElem?_set_ne c]at e e1;exact⟨⟨⟨t,ds,e,e'⟩,e1⟩,fun z=>c z.symm⟩
theorem GS.zf{s:Sl}{o:Option V}(hm:Ff s=true)(g:GS K F ρ σ H):GS K F (ρ.set x s) (σ.set x o) H:=by
 refine⟨g.sub,by simp[g.len],fun i b d e=>?_,fun i t ds e e'=>?_,fun i j a h1 h2=>g.dis i j a (dU hm h1).1 (dU hm h2).1⟩
 . by_cases c:x=i
   . subst c;rw[List.getElem?_set,if_pos rfl]at e;split at e;.cases e;cases hm
     .cases e
   .rw[getElem?_set_ne c]at e ⊢;exact g.val i b d e
 . by_cases c:x=i
   . subst c;rw[List.getElem?_set,if_pos rfl]at e;split at e;.cases e;cases s<;>first|(cases e';done)|(cases hm;done)
     .cases e
   .rw[getElem?_set_ne c]at e ⊢;exact g.own i t ds e e'
theorem aq.zf{s:Sl}{o:Option V}(hm:Ff s=true)(t:aq K F ρ σ H F1 ρ1 σ1 H1)(hf:∀s0,ρ[x]?=some s0->ud s0=false):aq K F ρ σ H F1 (ρ1.set x s) (σ1.set x o) H1:=by
 refine⟨t.gs.zf hm,t.bZ,t.wR,t.keep,fun b⟨i,h⟩=>t.uJ b ⟨i,(dU hm h).1⟩,by simp[t.len],fun i s' e l=>?_⟩;have c:x≠i:=by rintro rfl;rw[hf _ e]at l;cases l
 obtain⟨z1,s2,z2,z3⟩:=t.lk i s' e l;exact⟨by rw[getElem?_set_ne c];exact z1,s2,by rw[getElem?_set_ne c];exact z2,z3⟩
theorem aq.free{i:Nat}{s1:Sl}(t:aq K F ρ σ H F1 ρ1 σ1 H1)(h:ρ1[i]?=some s1)(hl:ud s1=false):∀s0,ρ[i]?=some s0->ud s0=false:=fun s0 e=>by cases z:ud s0 with|false=>rfl|true=>obtain⟨_,s2,z2,z3⟩:=t.lk i s0 e z;rw[h]at z2;cases z2;rw[z3.ud z]at hl;cases hl
structure RB(F:Hp)(ρ:List Sl)(σ:L2.St)(H:Hp)(a:Addr)(xs:List V):Prop where kp:Kp ρ σ H a (.lst xs)fr:F a=none
theorem RB.stp{a:Addr}{xs:List V}(h:RB F ρ σ H a xs)(s:aq K F ρ σ H F' ρ' σ' H'):RB F' ρ' σ' H' a xs:=by refine⟨h.kp.stp s,?_⟩;cases z:F' a with|none=>rfl|some o=>
   rcases s.wR a h.fr (by rw[z];simp)with y|y;.exact absurd y h.kp.2
   .rw[h.kp.1]at y;cases y
structure Nw(K:PySem.W.Frag)(x:Nat)(q:Addr)(as:List Addr)(F:Hp)(ρ:List Sl)(σ:L2.St)(H:Hp)(rows:List (List D)):Prop where
 slot:ρ[x]?=some (.hold rows)val:σ[x]?=some (some (.ref q))out:RB F ρ σ H q (as.map V.ref)nd:(q::as).Nodup
 len:as.length=rows.length
 row:∀(k:Nat)(a:Addr)(ds:List D),as[k]?=some a->rows[k]?=some ds->Wt K F ρ σ H a ds
theorem Nw.stp(w:Nw K x q as F ρ σ H rows)(s:aq K F ρ σ H F' ρ' σ' H'):Nw K x q as F' ρ' σ' H' rows:=by obtain⟨z1,s2,z2,z3⟩:=s.lk x _ w.slot rfl;cases(show s2=.hold rows from z3);exact⟨z2,z1.trans w.val,w.out.stp s,w.nd,w.len,fun k a ds h1 h2=>(w.row k a ds h1 h2).stp s⟩
structure NB(K:PySem.W.Frag)(x:Nat)(q:Addr)(as:List Addr)(F0:Hp)(ρ0:List Sl)(σ0:L2.St)(H0:Hp)(F:Hp)(ρ:List Sl)(σ:L2.St)(H:Hp)(rows:List (List D)):Prop where
 stp:aq K F0 ρ0 σ0 H0 F ρ σ H
 fresh:∀b,b∈q::as->Own ρ0 σ0 b\/H0 b=none
 free:∀s0,ρ0[x]?=some s0->ud s0=false
 nw:Nw K x q as F ρ σ H rows
theorem NB.step(b:NB K x q as F0 ρ0 σ0 H0 F ρ σ H rows)(s:aq K F ρ σ H F' ρ' σ' H'):NB K x q as F0 ρ0 σ0 H0 F' ρ' σ' H' rows:=⟨b.stp.trans s,b.fresh,b.free,b.nw.stp s⟩
theorem Ba{s:Sl}{o:Option V}{a:Addr}{ob:HO}(hm:Ff s=true)(h:Kp ρ σ H a ob):Kp (ρ.set x s) (σ.set x o) H a ob:=⟨h.1,fun⟨i,z⟩=>h.2 ⟨i,(dU hm z).1⟩⟩
theorem Jc{s:Sl}{o:Option V}{a:Addr}{ds:List D}(hm:Ff s=true)(h:Wt K F ρ σ H a ds):Wt K F (ρ.set x s) (σ.set x o) H a ds:=by obtain⟨⟨xs,h1,h2⟩,h3⟩:=h;exact⟨⟨xs,Ba hm h1,h2⟩,h3⟩
theorem aq.abV{Da:Addr}{o:HO}(s:aq K F ρ σ H F1 ρ1 σ1 H1)(h:Own ρ σ Da\/H Da=none)(hf:F1 Da=none)(ho:¬ Own ρ1 σ1 Da):aq K F ρ σ H F1 ρ1 σ1 (upd H1 Da o):=by
 refine⟨⟨fun b u e=>?_,s.gs.len,s.gs.val,fun i t ds e e'=>?_,s.gs.dis⟩,s.bZ,s.wR,fun b u e n=>?_,s.uJ,s.len,s.lk⟩
 . have:b≠Da:=by rintro rfl;rw[hf]at e;cases e
   rw[ao this];exact s.gs.sub b u e
 . obtain⟨a,xs,q1,q2,q3,q4⟩:=s.gs.own i t ds e e';have:a≠Da:=by rintro rfl;exact ho ⟨i,⟨t,ds,e,e'⟩,q1⟩
   exact⟨a,xs,q1,by rw[ao this];exact q2,q3,q4⟩
 . have:b≠Da:=by
    rintro rfl;rcases h with h|h;.exact n h
    .rw[h]at e;cases e
   rw[ao this];exact s.keep b u e n
theorem NB.mut{r:Nat}{a:Addr}{row ie:List D}{ys:List V}(b:NB K x q as F0 ρ0 σ0 H0 F ρ σ H rows)(ha:as[r]?=some a)(hr:rows[r]?=some row)(rp:au K F ys ie):NB K x q as F0 ρ0 σ0 H0 F (ρ.set x (.hold (rows.set r ie))) σ (upd H a (.lst ys)) (rows.set r ie):=by
 have w:=b.nw.row r a row ha hr;obtain⟨⟨xs,k1,r1⟩,f1⟩:=w;have hx:x<ρ.length:=(List.getElem?_eq_some_iff.mp b.nw.slot).1;have sx:σ.set x (some (.ref q))=σ:=by have:=b.nw.val;obtain⟨h1,h2⟩:=List.getElem?_eq_some_iff.mp this;rw[<-h2];simp
 have mem:a∈q::as:=mem_cons_of_mem _ (mem_of_getElem? ha);have s1:=(b.stp.abV (o:=.lst ys) (b.fresh a mem) f1 k1.2).zf (x:=x) (s:=.hold (rows.set r ie)) (o:=some (.ref q)) rfl b.free;rw[sx]at s1;have nq:q≠a:=by have:=(nodup_cons.mp b.nw.nd).1;rintro rfl;exact this (mem_of_getElem? ha)
 have own:∀{c:Addr},¬ Own ρ σ c->¬ Own (ρ.set x (.hold (rows.set r ie))) σ c:=fun{c}h⟨i,z⟩=>h ⟨i,by have:=dU (x:=x) (s:=.hold (rows.set r ie)) (o:=some (.ref q)) (σ:=σ) (ρ:=ρ) rfl (b:=c) (i:=i) (by rw[sx];exact z);exact this.1⟩;refine⟨s1,b.fresh,b.free,⟨getElem?_set_self hx,b.nw.val,⟨⟨by rw[ao nq];exact b.nw.out.kp.1,own b.nw.out.kp.2⟩,b.nw.out.fr⟩,b.nw.nd,by simp[b.nw.len],fun k c ds h1 h2=>?_⟩⟩;by_cases hk:k=r;.subst hk;rw[ha]at h1;cases h1;have hl:k<rows.length:=(List.getElem?_eq_some_iff.mp hr).1;rw[getElem?_set_self hl]at h2;cases h2;exact⟨⟨ys,⟨aH,own k1.2⟩,rp⟩,f1⟩
 . rw[getElem?_set_ne (fun z=>hk z.symm)]at h2;obtain⟨⟨zs,k2,r2⟩,f2⟩:=b.nw.row k c ds h1 h2;have nc:c≠a:=by rintro rfl;have nd:=(nodup_cons.mp b.nw.nd).2;obtain⟨l1,e1⟩:=List.getElem?_eq_some_iff.mp h1;obtain⟨l2,e2⟩:=List.getElem?_eq_some_iff.mp ha;exact hk ((List.getElem_inj nd).mp (e1.trans e2.symm))
   exact⟨⟨zs,⟨by rw[ao nc];exact k2.1,own k2.2⟩,r2⟩,f2⟩
noncomputable def Fz(F H:Hp)(bs:List Addr):Hp:=fun b=>if b∈bs then H b else F b
theorem qX{G:Hp}:∀{as:List Addr}{rows:List (List D)},as.length=rows.length->(∀(k:Nat)(a:Addr)(ds:List D),as[k]?=some a->rows[k]?=some ds->Rep K G (.ref a) (.lst ds))->au K G (as.map V.ref) (rows.map D.lst)|[],[],_,_=>.nil|a::as,ds::rows,h,k=>.cons (k 0 a ds rfl rfl) (qX (by simpa using h) fun j b es h1 h2=>k (j+1) b es (by simpa using h1) (by simpa using h2))|[],_::_,h,_=>by simp at h|_::_,[],h,_=>by simp at h
theorem Nw.Mz(w:Nw K x q as F ρ σ H rows){b:Addr}(hb:b∈q::as):F b=none/\¬ Own ρ σ b:=by
 rcases mem_cons.mp hb with rfl|hb;.exact⟨w.out.fr,w.out.kp.2⟩
 . obtain⟨k,hk⟩:=List.getElem?_of_mem hb;have hl:k<rows.length:=by rw[<-w.len];exact(List.getElem?_eq_some_iff.mp hk).1
   obtain⟨⟨xs,k1,_⟩,f1⟩:=w.row k b rows[k] hk (by simp[hl]);exact⟨f1,k1.2⟩
theorem Nw.fz(w:Nw K x q as F ρ σ H rows)(sm:aG F H):aG F (Fz F H (q::as))/\aG (Fz F H (q::as)) H/\Rep K (Fz F H (q::as)) (.ref q) (.lst (rows.map D.lst)):=by
 have s1:aG F (Fz F H (q::as)):=fun b o e=>by unfold Fz;rw[if_neg fun hb=>by rw[(w.Mz hb).1]at e;cases e];exact e
 refine⟨s1,fun b o e=>?_,?_⟩
 . unfold Fz at e;split at e;.exact e
   .exact sm b o e
 .rw[Rep];refine⟨q,as.map V.ref,rfl,dz.of (by unfold Fz;rw[if_pos mem_cons_self];exact w.out.kp.1),qX w.len fun k a ds h1 h2=>?_⟩;obtain⟨⟨xs,k1,r1⟩,f1⟩:=w.row k a ds h1 h2;rw[Rep];exact⟨a,xs,rfl,dz.of (by unfold Fz;rw[if_pos (mem_cons_of_mem _ (mem_of_getElem? h1))];exact k1.1),r1.mono s1⟩
theorem NB.cC(b:NB K x q as F0 ρ0 σ0 H0 F ρ σ H rows):aq K F0 ρ0 σ0 H0 (Fz F H (q::as)) (ρ.set x (.val false (.lst (rows.map D.lst)))) σ H:=by
 obtain⟨s1,s2,rp⟩:=b.nw.fz b.stp.gs.sub;have g:=b.stp.gs;have hx:x<ρ.length:=(List.getElem?_eq_some_iff.mp b.nw.slot).1;have old:∀{j:Nat}{c:Addr},aK (ρ.set x (.val false (.lst (rows.map D.lst)))) σ j c->aK ρ σ j c/\x≠j:=fun{j c}⟨⟨t,ds,e,e'⟩,e1⟩=>by
  by_cases hj:x=j;.subst hj;rw[getElem?_set_self hx]at e;cases e;cases e'
  .rw[getElem?_set_ne hj]at e;exact⟨⟨⟨t,ds,e,e'⟩,e1⟩,hj⟩
 refine⟨⟨s2,by simp[g.len],fun i bb d e=>?_,fun i t ds e e'=>?_,fun i j c h1 h2=>g.dis i j c (old h1).1 (old h2).1⟩,b.stp.bZ.trans s1,fun c n n'=>?_,b.stp.keep,fun c⟨j,h⟩=>b.stp.uJ c ⟨j,(old h).1⟩,by simp[b.stp.len],fun i t e l=>?_⟩
 . by_cases hj:x=i;.subst hj;rw[getElem?_set_self hx]at e;cases e;exact⟨_,b.nw.val,rp⟩
   .rw[getElem?_set_ne hj]at e;obtain⟨v,h1,h2⟩:=g.val i bb d e;exact⟨v,h1,h2.mono s1⟩
 . by_cases hj:x=i;.subst hj;rw[getElem?_set_self hx]at e;cases e;cases e'
   .rw[getElem?_set_ne hj]at e;obtain⟨a,o,h1,h2,h3,h4⟩:=g.own i t ds e e';refine⟨a,o,h1,h2,?_,h4.mono s1⟩;unfold Fz;rw[if_neg fun hb=>(b.nw.Mz hb).2 ⟨i,⟨t,ds,e,e'⟩,h1⟩];exact h3
 . by_cases hc:c∈q::as;.exact(b.fresh c hc).imp id iZ
   . have:Fz F H (q::as) c=F c:=by unfold Fz;rw[if_neg hc]
     rw[this]at n';exact b.stp.wR c n n'
 . have c:x≠i:=by rintro rfl;rw[b.free _ e]at l;cases l
   obtain⟨z1,s3,z2,z3⟩:=b.stp.lk i t e l;exact⟨z1,s3,by rw[getElem?_set_ne c];exact z2,z3⟩
end
inductive RP(K:PySem.W.Frag)(x:Nat)(f:List Sl->Res Fl)(E:Ends)(σ:L2.St)(H:Hp):Prop where|mk(F0:Hp)(ρ0:List Sl)(σ0:L2.St)(H0 F:Hp)(ρ:List Sl)(q:Addr)(as:List Addr)(rows:List (List D))(fl:Fl)(ρ':List Sl)(b:NB K x q as F0 ρ0 σ0 H0 F ρ σ H rows)(e:f ρ=.ok fl ρ')(k:∀F' σ' H',aq K F0 ρ0 σ0 H0 F' ρ' σ' H'->aG F F'->((∀r,fl≠.ret r)->∃mX,NB K x q as F0 ρ0 σ0 H0 F' ρ' σ' H' mX)->G7 K E F' ρ' σ' H' ρ0 σ0 H0 fl)
inductive Vt(K:PySem.W.Frag)(x:Nat)(f:List Sl->Res Fl)(E:Ends)(σ:L2.St)(H:Hp):Prop where|mk(F0:Hp)(ρ0:List Sl)(σ0:L2.St)(H0 F:Hp)(ρ:List Sl)(q:Addr)(as:List Addr)(rows:List (List D))(fl:Fl)(ρ':List Sl)(b:NB K x q as F0 ρ0 σ0 H0 F ρ σ H rows)(e:f ρ=.ok fl ρ')(k:∀F' σ' H',aq K F0 ρ0 σ0 H0 F' ρ' σ' H'->G7 K E F' ρ' σ' H' ρ0 σ0 H0 fl)
structure V4(X:Cx)(c:Call)(n x:Nat)(st:Stmt)(s:S):Prop where p:PS X st (RP X.K x (ex c n s))
structure Sg(X:Cx)(c:Call)(n x:Nat)(st:List Stmt)(s:List S):Prop where p:wD X st (RP X.K x (eX c n s))
structure Zy(X:Cx)(c:Call)(n x:Nat)(st:List Stmt)(s:List S):Prop where p:wD X st (Vt X.K x (eX c n s))
section
variable{X:Cx}{c:Call}{n x:Nat}{e a b d tg iter:Expr}{p pa pb pd:P}{pos:Pos}{body:List Stmt}{ss:List S}{st:Stmt}{s:S}{sts:List Stmt}
theorem nU:Sg X c n x [] []:=⟨lH zx fun D σ H⟨F0,ρ0,σ0,H0,F,ρ,q,as,rows,fl,ρ',nb,e,k⟩=>by rw[eX]at e;cases e;exact k F σ H nb.stp (.refl _) fun _=>⟨rows,nb⟩⟩
theorem pU(h1:V4 X c n x st s)(h2:Sg X c n x sts ss):Sg X c n x (st::sts) (s::ss):=by refine⟨lH (j7 h1.p h2.p) ?_⟩;rintro D σ H⟨F0,ρ0,σ0,H0,F,ρ,q,as,rows,fl,ρ',nb,e,k⟩;rw[eX]at e;obtain⟨f1,ρ1,e1,e⟩:=aa e;cases f1 with|next=>refine⟨F0,ρ0,σ0,H0,F,ρ,q,as,rows,.next,ρ1,nb,e1,fun F1 σ1 H1 s1 sm nn=>?_⟩;obtain⟨HF,Ni⟩:=nn (fun r z=>by cases z);exact⟨F0,ρ0,σ0,H0,F1,ρ1,q,as,HF,fl,ρ',Ni,e,fun F2 σ2 H2 s2 R9 nn2=>k F2 σ2 H2 s2 (sm.trans R9) nn2⟩|brk=>cases e;exact⟨F0,ρ0,σ0,H0,F,ρ,q,as,rows,.brk,_,nb,e1,k⟩|cont=>cases e;exact⟨F0,ρ0,σ0,H0,F,ρ,q,as,rows,.cont,_,nb,e1,k⟩|ret r=>cases e;exact⟨F0,ρ0,σ0,H0,F,ρ,q,as,rows,.ret r,_,nb,e1,k⟩
theorem Ea(h1:V4 X c n x st s)(h2:Zy X c n x sts ss):Zy X c n x (st::sts) (s::ss):=by refine⟨lH (j7 h1.p h2.p) ?_⟩;rintro D σ H⟨F0,ρ0,σ0,H0,F,ρ,q,as,rows,fl,ρ',nb,e,k⟩;rw[eX]at e;obtain⟨f1,ρ1,e1,e⟩:=aa e;cases f1 with|next=>refine⟨F0,ρ0,σ0,H0,F,ρ,q,as,rows,.next,ρ1,nb,e1,fun F1 σ1 H1 s1 sm nn=>?_⟩;obtain⟨HF,Ni⟩:=nn (fun r z=>by cases z);exact⟨F0,ρ0,σ0,H0,F1,ρ1,q,as,HF,fl,ρ',Ni,e,k⟩|brk=>cases e;exact⟨F0,ρ0,σ0,H0,F,ρ,q,as,rows,.brk,_,nb,e1,fun F1 σ1 H1 s1 _ _=>k F1 σ1 H1 s1⟩|cont=>cases e;exact⟨F0,ρ0,σ0,H0,F,ρ,q,as,rows,.cont,_,nb,e1,fun F1 σ1 H1 s1 _ _=>k F1 σ1 H1 s1⟩|ret r=>cases e;exact⟨F0,ρ0,σ0,H0,F,ρ,q,as,rows,.ret r,_,nb,e1,fun F1 σ1 H1 s1 _ _=>k F1 σ1 H1 s1⟩
theorem Jg(h:SB X c n sts ss):Zy X c n x sts (.cC x::ss):=by refine⟨lH h ?_⟩;rintro D σ H⟨F0,ρ0,σ0,H0,F,ρ,q,as,rows,fl,ρ',nb,e,k⟩;rw[eX]at e;obtain⟨f1,ρ1,e1,e⟩:=aa e;rw[HH.X22,nb.nw.slot]at e1;cases e1;have t:=nb.cC;refine⟨_,_,fl,ρ',t.gs,e,fun F' σ' H' s=>?_⟩;have z:=k F' σ' H' (t.trans s);cases fl with|next=>exact z|brk=>exact z|cont=>exact z|ret r=>exact fun v rr=>z v (rr.later t)
theorem Qf{sa sb:List Stmt}{ta tb:List S}(hc:ST X c e p)(ha:Sg X c n x sa ta)(hb:Sg X c n x sb tb):V4 X c n x (.If e sa sb pos) (.ifs p ta tb):=by refine⟨cV (Mh hc ha.p hb.p) ?_⟩;rintro D σ H⟨F0,ρ0,σ0,H0,F,ρ,q,as,rows,fl,ρ',nb,e,k⟩;rw[HH.YJ]at e;obtain⟨t,ρ1,e1,e⟩:=aa e;refine⟨F,ρ,t,ρ1,nb.stp.gs,e1,fun F1 H1 s1=>?_⟩;have go:∀{f:List Sl->Res Fl},f ρ1=.ok fl ρ'->RP X.K x f D σ H1:=fun{f}h=>⟨F0,ρ0,σ0,H0,F1,ρ1,q,as,rows,fl,ρ',nb.step s1,h,fun F2 σ2 H2 s2 sm nn=>k F2 σ2 H2 s2 (s1.bZ.trans sm) nn⟩;cases t with|true=>rw[if_pos rfl]at e;exact go e|false=>rw[if_neg Bool.false_ne_true]at e;exact go e
theorem GF{ρ:List Sl}{rows:List (List D)}(h:gQ ρ x=some rows):ρ[x]?=some (.hold rows):=by
 unfold gQ at h;split at h;.rename_i z;cases h;exact z
 .cases h
def WalkN(K:PySem.W.Frag)(J:It)(ds:List D)(F1:Hp):Prop:=∀(k:Nat)(F' H':Hp),aG F1 F'->aG F' H'->(∀d,ds[k]?=some d->J.go k H'/\∀x uE,J.M5 k H' x uE->∃F'',Ext F' H' F'' uE/\Rep K F'' x d)/\(ds.length<=k->J.stop k H')
inductive aby(K:PySem.W.Frag)(f:Ev)(σ:L2.St)(H:Hp)(R:It->Hp->Prop):Prop where|mk(F:Hp)(ρ:List Sl)(r:HH.R)(ρ1:List Sl)(ds:List D)(g:GS K F ρ σ H)(e:f ρ=.ok r ρ1)(e2:items r.d=some ds)(k:∀J F1 H1,aq K F ρ σ H F1 ρ1 σ H1->WalkN K J ds F1->R J H1)
structure SIN(X:Cx)(c:Call)(tg e:Expr)(p:P):Prop where p:PI X tg e (aby X.K (HH.ev c p))
theorem IW(h:SX X c e p):SIN X c tg e p:=by refine⟨oU (yI h.ev) ?_⟩;rintro σ H R⟨F,ρ,r,ρ1,ds,g,e,e2,k⟩;refine⟨F,ρ,r,ρ1,g,e,fun v F' H' s rr=>?_⟩;obtain⟨F2,s2,_,rp⟩:=s.cC rr;cases hd:r.d with|tup es=>rw[hd]at rp e2;cases e2;rw[Rep]at rp;obtain⟨a,xs,rfl,h1,h2⟩:=rp;exact⟨a,rfl,.inr ⟨⟨xs,aG.gq s2.gs.sub h1⟩,k _ _ _ s2 fun k F3 H3 XR R9=>zZ (aG.gq R9 (aG.gq XR h1)) (h2.mono XR) R9 k⟩⟩|lst es=>rw[hd]at rp e2;cases e2;rw[Rep]at rp;obtain⟨a,xs,rfl,h1,h2⟩:=rp;exact⟨a,rfl,.inl ⟨⟨xs,s2.gs.sub.seq h1⟩,k _ _ _ s2 fun k F3 H3 XR R9=>o9 (R9.seq (XR.seq h1)) (h2.mono XR) R9 k⟩⟩|_=>rw[hd]at e2;cases e2
theorem BP{K:PySem.W.Frag}{F1:Hp}(i j:Int):WalkN K (Uc i (j-i).toNat) ((List.range (j-i).toNat).map fun(k:Nat)=>D.int (i+(k:Int))) F1:=by
 refine fun k F' H' _ sm=>⟨fun d hd=>?_,fun h=>?_⟩;.rw[getElem?_map]at hd;obtain⟨m,e1,e2⟩:=map_some hd;obtain⟨h1,h2⟩:=List.getElem?_eq_some_iff.mp e1;rw[List.getElem_range]at h2;subst h2;subst e2;rw[length_range]at h1;refine⟨h1,?_⟩;rintro x uE⟨q1,q2⟩;subst q1;subst q2;exact⟨F',.refl sm,bH _⟩
 .rw[length_map,length_range]at h;exact h
theorem Hb{x:Str}{p':Pos}(hx:x="range")(hg:Gl X x)(hm:X.mg x=none)(ha:SX X c a pa)(hs:starEach [a] X.env=[(false,eval a X.env)]:=by rfl):SIN X c tg (.Call (.Name x p') [a] [] pos) (.xj (.con (.int 0)) pa):=by
 subst hx;obtain⟨ta,h1,h2⟩:=ha.bN;refine⟨oU (qH hg hm (bA h1 cL hs) hs) ?_⟩;rintro σ H R⟨F,ρ,r,ρ1,ds,g,e1,e2,k⟩;rw[HH.E19]at e1;obtain⟨xy,ρ3,e4,e5⟩:=aa e1;have zz:=aA e5;clear e5;obtain⟨e5,e6⟩:=zz;subst e6;obtain⟨y0,ρ5,e9,e10⟩:=aa e4;cases e10;obtain⟨i,f1,e5⟩:=bF e5;obtain⟨j,f2,e5⟩:=bF e5;obtain⟨⟨b1,b2,b3,b4⟩,e5⟩:=aW e5;have f1:i=0:=by cases f1;rfl
 subst f1;subst e5;cases e2;cases bR f2;refine h2 g e9 fun v F' H' s pv=>⟨j,by rw[pv.int],by omega,by omega,?_⟩;have:=BP (K:=X.K) (F1:=F') 0 j;rw[sub_zero]at this;refine k _ F' H' s ?_;rw[sub_zero];exact this
theorem Al{g:TG}{is:List Nat}{one:Bool}(hp:PassesOwn (model X.prog X.w) X.A X.env X.xe)(hc:X.calm=true)(hi:SIN X c tg iter p)(hg:PG X tg g)(hgo:KH X.K (fun ρ d=>bI ρ is one d) g)(hb:Sg X c n x body ss)(hs:∀x,foldedSetIterable iter X.env x=pure x:=by intro _;rfl):V4 X c n x (.For tg iter body [] pos) (.CQ p is one ss):=by
 refine⟨cV (Ds hp hc hi.p hg hb.p hs) ?_⟩;rintro D σ H⟨F0,ρ0,σ0,H0,F,ρ,q,as,rows,fl,ρ',nb,e,k⟩;rw[HH.X21]at e;obtain⟨r,ρ1,e1,e⟩:=aa e;obtain⟨ds,ρ9,e9,e2⟩:=aa e;have zz:=aA e9;clear e9;obtain⟨e9,e91⟩:=zz;subst e91;refine⟨F,ρ,r,ρ1,ds,nb.stp.gs,e1,e9,fun J F1 H1 s1 w=>?_⟩;refine⟨fun i m σi Hi=>∃Fi ρi rN,NB X.K x q as F0 ρ0 σ0 H0 Fi ρi σi Hi rN/\aG F1 Fi/\m=ds.length-i/\i<=ds.length/\fO is one (eX c n ss) (ds.drop i) ρi=.ok fl ρ',⟨_,F1,ρ1,rows,nb.step s1,.refl _,rfl,zero_le _,e2⟩,?_⟩;rintro i m σi Hi⟨Fi,ρi,rN,XS,smi,rfl,hle,ei⟩;obtain⟨w1,w2⟩:=w i Fi Hi smi XS.stp.gs.sub;by_cases hlt:i<ds.length
 . right;have hd:ds[i]?=some ds[i]:=by simp[hlt]
   obtain⟨go,step⟩:=w1 _ hd;refine⟨go,fun σ' H'=>∃m',m'<ds.length-i/\∃Fi ρi rN,NB X.K x q as F0 ρ0 σ0 H0 Fi ρi σ' H' rN/\aG F1 Fi/\m'=ds.length-(i+1)/\i+1<=ds.length/\fO is one (eX c n ss) (ds.drop (i+1)) ρi=.ok fl ρ',fun σ' H' z=>z,fun y H' yy=>?_⟩;obtain⟨F2,ext,rx⟩:=step y H' yy;have t2:=ext.stp XS.stp.gs;rw[drop_eq_getElem_cons hlt,fO]at ei;cases hbd:bI ρi is one ds[i]with|none=>rw[hbd]at ei;cases ei|some ρb=>rw[hbd]at ei;obtain⟨flb,ρc,eb,ei⟩:=aa ei;refine hgo y _ F2 ρi ρb σi H' _ t2.gs rx hbd fun σ2 sb=>?_;have t3:=t2.trans sb;refine⟨F0,ρ0,σ0,H0,F2,ρb,q,as,rN,flb,ρc,XS.step t3,eb,fun F4 σ4 H4 s4 sm4 nn4=>?_⟩;have U4:aG F1 F4:=smi.trans (ext.fs.trans sm4);cases flb with|next=>obtain⟨HJ,nb4⟩:=nn4 (fun r z=>by cases z);exact⟨_,by omega,F4,ρc,HJ,nb4,U4,rfl,hlt,ei⟩|cont=>obtain⟨HJ,nb4⟩:=nn4 (fun r z=>by cases z);exact⟨_,by omega,F4,ρc,HJ,nb4,U4,rfl,hlt,ei⟩|brk=>cases ei;exact k F4 σ4 H4 s4 (s1.bZ.trans U4) fun _=>nn4 (fun r z=>by cases z)|ret r=>cases ei;exact fun v rr=>k F4 σ4 H4 s4 (s1.bZ.trans U4) (fun h=>(h r rfl).elim) v rr
 . left;have hdr:ds.drop i=[]:=by rw[drop_eq_nil_iff];omega
   rw[hdr,fO]at ei;cases ei;exact⟨w2 (by omega),k Fi σi Hi XS.stp (s1.bZ.trans smi) fun _=>⟨rN,XS⟩⟩
end
section
variable{X:Cx}{c:Call}{n:Nat}{e a b d i j:Expr}{p pa pb pd pi pj:P}{pos:Pos}
theorem K3{ρ ρ':List Sl}{x:Nat}{o:Option (List (List D))}{fl:Fl}(h:BX ρ x o=.ok fl ρ'):∃rows,o=some rows/\fl=.next/\ρ'=ρ.set x (.hold rows):=by cases o with|none=>cases h|some rows=>cases h;exact⟨rows,rfl,rfl,rfl⟩
section
variable{K:PySem.W.Frag}{F H F0 H0:Hp}{ρ ρ0:List Sl}{σ σ0:L2.St}{x:Nat}{q:Addr}{as:List Addr}{rows mX:List (List D)}
theorem NB.hold(nb:NB K x q as F0 ρ0 σ0 H0 F ρ σ H rows)(h:gQ ρ x=some mX):mX=rows:=by have:=GF h;rw[nb.nw.slot]at this;cases this;rfl
theorem NB.at{k:Int}{r:Nat}{row:List D}(nb:NB K x q as F0 ρ0 σ0 H0 F ρ σ H rows)(h1:HH.gB rows.length k=some r)(h2:rows[r]?=some row):∃a ys,as[r]?=some a/\DQ (as.map V.ref) k=some (.ref a)/\H a=some (.lst ys)/\au K F ys row:=by
 have hl:r<as.length:=by rw[nb.nw.len];exact(List.getElem?_eq_some_iff.mp h2).1
 obtain⟨⟨ys,k1,r1⟩,_⟩:=nb.nw.row r as[r] row (by simp[hl]) h2;refine⟨as[r],ys,by simp[hl],?_,k1.1,r1⟩;unfold DQ;rw[length_map,nb.nw.len];rw[show L2.gB rows.length k=some r from h1];simp[hl]
theorem NB.sY{dk:D}{row:List D}(nb:NB K x q as F0 ρ0 σ0 H0 F ρ σ H rows)(h:HH.sY ρ x dk=some row):∃k a,(∃r:Nat,as[r]?=some a)/\DQ (as.map V.ref) k=some (.ref a)/\dk=.int k/\∃ys,H a=some (.lst ys)/\au K F ys row:=by unfold HH.sY at h;obtain⟨rows0,h1,h⟩:=bF h;cases nb.hold h1;obtain⟨k,h2,h⟩:=bF h;obtain⟨r,h3,h4⟩:=bF h;obtain⟨a,ys,g1,g2,g3,g4⟩:=nb.at h3 h4;exact⟨k,a,⟨r,g1⟩,g2,bR h2,ys,g3,g4⟩
end
theorem BL{rows mX:List (List D)}{k:Int}{f:List D->Option (List D)}(h:iR rows k f=some mX):∃r row ie,HH.gB rows.length k=some r/\rows[r]?=some row/\f row=some ie/\mX=rows.set r ie:=by unfold iR at h;obtain⟨r,h1,h⟩:=bF h;obtain⟨row,h2,h⟩:=bF h;obtain⟨ie,h3,h⟩:=map_some h;exact⟨r,row,ie,h1,h2,h3,h.symm⟩
theorem DW{x:Str}{k:Nat}{px ipos apos cpos:Pos}(hN:X.N[k]?=some x)(hv:uY X.env.scope x)(hi:SX X c i pi)(he:SX X c e p)(hpx:uv i:=by intro _ _;rfl)(hline:(apos.endLine==cpos.line)=true:=by rfl)(hs:starEach [e] X.env=(false,eval e X.env)::starEach [] X.env:=by rfl)(hbase:attributeBase (.Subscript (.Name x px) i ipos) "append" X.env (eval (.Subscript (.Name x px) i ipos) X.env)=eval (.Subscript (.Name x px) i ipos) X.env:=by rfl)(hfew:((backTo cpos (starEach [e] X.env)).all (fun x=>!x.1)&&(backToKw cpos (keywordEach [] X.env)).all (fun x=>x.1.isSome)&&decide ([e].length+([]:List Keyword).length+(if([]:List Keyword).isEmpty then 0 else 1)<30))=true:=by rfl)(hsw:swapsWith (.Call (.Attribute (.Subscript (.Name x px) i ipos) "append" apos) [e] [] cpos) none pos.line X.env=pure false:=by rfl)(hd:(x==("__debug__":Str))=false:=by decide)(hcd:(x==("__classdict__":Str))=false:=by decide):V4 X c n k (.Expr (.Call (.Attribute (.Subscript (.Name x px) i ipos) "append" apos) [e] [] cpos) pos) (.HD k pi p):=by obtain⟨ti,hi1,hi2⟩:=hi.bN;refine⟨cV (uc (Gi plainAttrs_list PySem.F.slot_list_append PySem.F.type_list_append lQ (Mr Aw (cW hN hv hd hcd) hi1 hpx) (bA he.ev cL hs) hbase hfew hline hs) hsw) ?_⟩;rintro E σ H⟨F0,ρ0,σ0,H0,F,ρ,q,as,rows,fl,ρ',nb,e,kk⟩;rw[HH.X20]at e;obtain⟨dk,ρ2,e2,e⟩:=aa e;obtain⟨row0,ρ2',e8,e⟩:=aa e;have zz:=aA e8;clear e8;obtain⟨e8,e81⟩:=zz;subst e81;obtain⟨r,ρ3,e3,e⟩:=aa e;obtain⟨rs,e4,rfl,rfl⟩:=K3 e;refine⟨.ref q,nb.nw.val,hi2 nb.stp.gs e2 fun vi F1 H1 s1 pi=>?_⟩;have Ni:=nb.step s1;obtain⟨k0,a,g1,g2,g0,ys,g3,g4⟩:=Ni.sY e8;rw[g0]at pi;refine⟨q,_,k0,_,rfl,pi.int,dz.of Ni.nw.out.kp.1,g2,.inl ⟨rfl,ys,dz.of g3⟩,F1,ρ2,r,ρ3,Ni.stp.gs,e3,fun v F2 H2 s2 rr=>?_⟩;obtain⟨F3,s3,_,rp⟩:=s2.cC rr;have nb3:=Ni.step s3;obtain⟨rows0,e5,e4⟩:=bF e4;cases nb3.hold e5;obtain⟨k1,e6,e4⟩:=bF e4;obtain⟨m,row,ie,f1,f2,f3,rfl⟩:=BL e4;obtain⟨hlt,rfl⟩:=aW f3;have:=bR e6;rw[g0]at this;cases this;obtain⟨a',ys',g1',g2',g3',g4'⟩:=nb3.at f1 f2;rw[g2]at g2';cases g2';have nb5:=nb3.mut g1' f2 (g4'.append (.cons rp .nil));exact⟨a,ys',v,rfl,rfl,g3',by rw[g4'.length];exact hlt,kk F3 σ _ nb5.stp (s1.bZ.trans s3.bZ) fun _=>⟨_,nb5⟩⟩
end
section
variable{K:PySem.W.Frag}{F H F1 H1:Hp}{ρ ρ1:List Sl}{σ σ1:L2.St}
theorem aq.since{b:Addr}(s:aq K F ρ σ H F1 ρ1 σ1 H1)(h:H1 b=none):Own ρ σ b\/H b=none:=by
 by_cases ho:Own ρ σ b;.exact .inl ho
 .right;cases e:H b with|none=>rfl|some o=>rw[s.keep b o e ho]at h;cases h
theorem NB.mk'{x:Nat}{q:Addr}{as:List Addr}{rows:List (List D)}{s1:Sl}(s:aq K F ρ σ H F1 ρ1 σ1 H1)(hx:ρ1[x]?=some s1)(hl:ud s1=false)(hq:RB F1 ρ1 σ1 H1 q (as.map V.ref))(nd:(q::as).Nodup)(len:as.length=rows.length)(row:∀(k:Nat)(a:Addr)(ds:List D),as[k]?=some a->rows[k]?=some ds->Wt K F1 ρ1 σ1 H1 a ds)(fr:∀b,b∈q::as->Own ρ σ b\/H b=none):NB K x q as F ρ σ H F1 (ρ1.set x (.hold rows)) (σ1.set x (some (.ref q))) H1 rows:=by
 have hi:x<ρ1.length:=(List.getElem?_eq_some_iff.mp hx).1;have hi':x<σ1.length:=by rw[<-s.gs.len];exact hi
 exact⟨s.zf rfl (s.free hx hl),fr,s.free hx hl,⟨getElem?_set_self hi,getElem?_set_self hi',⟨Ba rfl hq.kp,hq.fr⟩,nd,len,fun k a ds h1 h2=>Jc rfl (row k a ds h1 h2)⟩⟩
end
theorem Dh{K:PySem.W.Frag}{F H:Hp}{ρ ρ1 ρ2:List Sl}{σ:L2.St}{ul:List Sl->List Sl}{ti:TI}{is:List Nat}{one:Bool}{c:Call}{el:Ev}{g:TG}{Q:VK}{ds:List D}{rows:List (List D)}{m n:Nat}(hm:σ.length=m)(hgo:o6 K m is one g)(hti:∀R:It->Hp->Prop,(∀J F1 H1,Walk K F ρ σ H ul J ds F1 ρ1 H1->R J H1)->ti σ H R)(hlim:ds.length<=lim)(e2:dw is one el ds [] (ρ1++replicate n .aP)=.ok rows ρ2)(k:∀ q as F' H',aq K F ρ σ H F' (ul (ρ2.take ρ1.length)) σ H'->RB F' (ul (ρ2.take ρ1.length)) σ H' q (as.map V.ref)->(q::as).Nodup->as.length=rows.length->(∀(k:Nat)(a:Addr)(ds:List D),as[k]?=some a->rows[k]?=some ds->Wt K F' (ul (ρ2.take ρ1.length)) σ H' a ds)->(∀b,b∈q::as->Own ρ σ b\/H b=none)->Q (.ref q) H'):qK n ti g (HR K (m9 c none)) (xf K el) σ H Q:=by
 refine hti _ fun J F1 H1 w Da Be=>?_;have hl1:ρ1.length=σ.length:=w.gs.len;have gm:=w.gs.more (n:=n) (τ:=replicate n none) (by simp);have fD:F1 Da=none:=by cases q:F1 Da with|none=>rfl|some o=>rw[w.gs.sub Da o q]at Be;cases Be
 have nO:¬ Own (ρ1++replicate n .aP) (σ++replicate n none) Da:=fun⟨i,⟨t,dt,q1,q2⟩,q3⟩=>by obtain⟨a,ys,z1,z2,_⟩:=gm.own i t dt q1 q2;rw[q3]at z1;cases z1;rw[Be]at z2;cases z2
 refine⟨fun i mm ys σi Hi=>∃Fi ρi acc as,aq K F1 (ρ1++replicate n .aP) (σ++replicate n none) H1 Fi ρi σi Hi/\σi.take m=σ/\ys=as.map V.ref/\Hi Da=some (.lst ys)/\Fi Da=none/\¬ Own ρi σi Da/\(Da::as).Nodup/\as.length=acc.length/\(∀(k:Nat)(a:Addr)(ds:List D),as[k]?=some a->acc[k]?=some ds->Wt K Fi ρi σi Hi a ds/\(Own (ρ1++replicate n .aP) (σ++replicate n none) a\/H1 a=none))/\acc.length<=i/\mm=ds.length-i/\i<=ds.length/\dw is one el (ds.drop i) acc ρi=.ok rows ρ2,⟨_,F1,_,[],[],(aq.refl gm).Dr Be fD nO,by rw[List.take_append_of_le_length (by omega),take_of_length_le (by omega)],rfl,aH,fD,nO,by simp,rfl,fun k a ds h=>by simp at h,zero_le _,rfl,zero_le _,e2⟩,?_⟩;rintro i mm ys σi Hi⟨Fi,ρi,acc,as,si,hσ,hys,hD,hF,hO,hnd,hlen,hrow,hacc,rfl,hle,ei⟩;refine⟨hD,?_⟩;have stay:∀{F2 H2:Hp}{ρ3:List Sl}{σ2:L2.St},aq K Fi ρi σi Hi F2 ρ3 σ2 H2->H2 Da=some (.lst ys)/\F2 Da=none/\¬ Own ρ3 σ2 Da:=fun{F2 H2 ρ3 σ2}s=>by have:=(RB.stp (xs:=ys) ⟨⟨hD,hO⟩,hF⟩ s);exact⟨this.kp.1,this.fr,this.kp.2⟩
 obtain⟨s1,s2⟩:=w.src n i Fi ρi σi Hi si;by_cases hlt:i<ds.length
 . right;have hd:ds[i]?=some ds[i]:=by simp[hlt]
   obtain⟨go,step⟩:=s1 _ hd;refine⟨go,fun x H2 y=>?_⟩;obtain⟨F2,ext,rx⟩:=step x H2 y;have t2:=ext.stp si.gs;rw[drop_eq_getElem_cons hlt,dw]at ei;cases hbd:bI ρi is one ds[i]with|none=>rw[hbd]at ei;cases ei|some ρb=>rw[hbd]at ei;obtain⟨re,ρe,ee,ei⟩:=aa ei;cases re with|val _=>cases ei|own rw0=>
     replace ei:dw is one el (ds.drop (i+1)) (acc++[rw0]) ρe=.ok rows ρ2:=ei;refine hgo x _ F2 ρi ρb σi H2 _ t2.gs rx hbd fun σ2 sb htk=>?_;have t3:=t2.trans sb;refine⟨F2,ρb,true,ρb,t3.gs,by rw[m9],fun F4 H4 s4=>?_⟩;have t4:=t3.trans s4;refine(show xf K el σ2 H4 _ from⟨F4,ρb,.own rw0,ρe,t4.gs,ee,fun v F5 H5 s5 rr=>?_⟩);have t6:=t4.trans s5;obtain⟨y1,y2,y3⟩:=stay t6;obtain⟨z1,z2,z3⟩:=stay t4;have hlen2:ys.length<sizeLine:=by have h2:lim=sizeLine:=rfl;rw[hys,length_map];omega
     obtain⟨A,xs,rfl,a1,a2,a3,a4,a5⟩:=rr;have nDA:A≠Da:=by
      rintro rfl;rcases a5 with z|z;.exact z3 z
      .rw[z1]at z;cases z
     have nA:A∉as:=fun hA=>by
      obtain⟨k0,hk0⟩:=List.getElem?_of_mem hA;have hl0:k0<acc.length:=by rw[<-hlen];exact(List.getElem?_eq_some_iff.mp hk0).1
      obtain⟨⟨zs,k1,_⟩,_⟩:=(hrow k0 A acc[k0] hk0 (by simp[hl0])).1.stp t4;rcases a5 with z|z;.exact k1.2 z
      .rw[k1.1]at z;cases z
     have fA:Own (ρ1++replicate n .aP) (σ++replicate n none) A\/H1 A=none:=by
      have t:=si.trans t4;rcases a5 with z|z;.exact t.uJ A z
      .exact t.since z
     refine⟨y1,hlen2,_,by omega,F5,ρe,acc++[rw0],as++[A],(si.trans t6).Dr Be y2 y3,htk.trans hσ,by rw[hys];simp,aH,y2,y3,?_,by simp[hlen],fun k0 a0 ds0 h1 h2=>?_,by simp;omega,rfl,hlt,ei⟩
     . rw[<-cons_append,List.nodup_append];refine⟨hnd,by simp,fun p hp r hr=>?_⟩;simp at hr;subst hr;rcases mem_cons.mp hp with rfl|hp;.exact fun z=>nDA z.symm
       .rintro rfl;exact nA hp
     . by_cases hk0:k0<as.length
       . rw[getElem?_append_left hk0]at h1;rw[getElem?_append_left (by omega)]at h2;obtain⟨w0,f0⟩:=hrow k0 a0 ds0 h1 h2;obtain⟨⟨zs,k1,r1⟩,g1⟩:=w0.stp t6;have na:a0≠Da:=by rintro rfl;exact(nodup_cons.mp hnd).1 (mem_of_getElem? h1)
         exact⟨⟨⟨zs,⟨by rw[ao na];exact k1.1,k1.2⟩,r1⟩,g1⟩,f0⟩
       . rw[getElem?_append_right (by omega)]at h1;rw[getElem?_append_right (by omega)]at h2;have:k0-as.length=0:=by have:=(List.getElem?_eq_some_iff.mp h1).1;simp at this;exact this
         rw[this]at h1;rw[<-hlen,this]at h2;cases h1;cases h2;exact⟨⟨⟨xs,⟨by rw[ao nDA];exact a1,a4⟩,a3⟩,a2⟩,fA⟩
 . left;have hdr:ds.drop i=[]:=by rw[drop_eq_nil_iff];omega
   rw[hdr,dw]at ei;cases ei;refine⟨s2 (by omega),?_⟩;have hst:σi.take ρ1.length=σ:=by rw[hl1,hm];exact hσ
   obtain⟨l1,l2⟩:=aq.less (m:=ρ1.length) rfl w.gs (by simp) si;rw[hst]at l1;obtain⟨z1,z2⟩:=w.fin _ _ _ _ l1--the outer list:with nothing in it,it is like any new one
   have si':=si.Dr (o:=.lst []) Be hF hO;obtain⟨l1',UJ⟩:=aq.less (m:=ρ1.length) rfl w.gs (by simp) si';rw[hst]at l1';obtain⟨z1',z2'⟩:=w.fin _ _ _ _ l1';have rr:bM K Fi ρ2 σi (upd Hi Da (.lst [])) (ρ1++replicate n .aP) (σ++replicate n none) H1 (.ref Da) (.own []):=⟨Da,[],rfl,aH,hF,.nil,hO,.inr Be⟩;have Nf:=UJ _ _ rr;rw[hst]at Nf;obtain⟨_,_,q0,_,q3,_,q5,q6⟩:=z2' _ _ Nf;cases q0;have rws:∀(k:Nat)(a:Addr)(ds:List D),as[k]?=some a->rows[k]?=some ds->Wt K Fi (ul (ρ2.take ρ1.length)) σ Hi a ds/\(Own ρ σ a\/H a=none):=fun k a ds h1 h2=>by obtain⟨⟨⟨xs,k1,r1⟩,f1⟩,f2⟩:=hrow k a ds h1 h2;have rr:bM K Fi ρ2 σi Hi (ρ1++replicate n .aP) (σ++replicate n none) H1 (.ref a) (.own ds):=⟨a,xs,rfl,k1.1,f1,r1,k1.2,f2⟩;have Nf:=l2 _ _ rr;rw[hst]at Nf;obtain⟨a',xs',q0,q2,q3,q4,q5,q6⟩:=z2 _ _ Nf;cases q0;exact⟨⟨⟨xs',⟨q2,q5⟩,q4⟩,q3⟩,q6⟩
   refine k Da as Fi Hi z1 ⟨⟨by rw[hD,hys],q5⟩,q3⟩ hnd hlen (fun k a ds h1 h2=>(rws k a ds h1 h2).1) fun b hb=>?_;rcases mem_cons.mp hb with rfl|hb;.exact q6
   . obtain⟨k0,hk0⟩:=List.getElem?_of_mem hb;have hl0:k0<rows.length:=by rw[<-hlen];exact(List.getElem?_eq_some_iff.mp hk0).1
     exact(rws k0 b rows[k0] hk0 (by simp[hl0])).2
section
variable{X:Cx}{c:Call}{nn n:Nat}{tg iter elt:Expr}{ps pe:P}{pos:Pos}{sts:List Stmt}{ss:List S}{scope:Scope}{N':List Str}
theorem Kf{i:Nat}{x:Str}{pos' spos:Pos}{g:TG}{is:List Nat}{one:Bool}(hc:X.calm=true)(hN:X.N.Nodup)(hx0:X.N[i]?=some x)(hx:Loc X.env.scope x)(ok:dZ X scope N' n)(hi:SI X c tg iter ps)(hg:∀cl C s₀ H₀ ex,PG (uP X scope N' cl C s₀ H₀ ex) tg g)(hgo:o6 X.K X.N.length is one g)(ht:∀cl C s₀ H₀ ex,SQ (uP X scope N' cl C s₀ H₀ ex) c [] none)(he:∀cl C s₀ H₀ ex,SX (uP X scope N' cl C s₀ H₀ ex) c elt pe)(hT:Zy X c nn i sts ss)(hsw:swapsWith (.ListComp elt [⟨tg,iter,[],0⟩] scope pos) (some (.Name x pos')) spos.line X.env=pure true:=by rfl)(hs:∀x,foldedSetIterable iter X.env x=pure x:=by intro _;rfl)(hf:X.fn x=true\/X.env.scope.names.lookup x=some .local:=by first|exact .inl rfl|exact .inr rfl|assumption):SB X c nn (.Assign [.Name x pos'] (.ListComp elt [⟨tg,iter,[],0⟩] scope pos) spos::sts) (.HB i ps n is one pe::ss):=by
 have h0:=Jz (tt:=HR X.K (m9 c none)) (te:=xf X.K (HH.ev c pe)) hc hN hx0 hx ok hi hg ht (fun cl C s₀ H₀ ex=>(he cl C s₀ H₀ ex).ev) hsw hs hf;refine fun pins s σ H D I q=>j7 h0 hT.p pins s σ H D I ?_;have hl:σ.length=X.N.length:=I.len;obtain⟨F,ρ,fl,ρ',g0,e,kk⟩:=q;rw[eX]at e;obtain⟨f1,ρ9,e1,e⟩:=aa e;rw[HH.X19]at e1;obtain⟨ds,ρ1,e2,e1⟩:=aa e1;split at e1;.rename_i hlim;obtain⟨rows,ρ2,e3,e1⟩:=aa e1;obtain⟨ρ3,ρ3',e4,e1⟩:=aa e1;cases e1;have zz:=aA e4;clear e4;obtain⟨e4,_⟩:=zz;obtain⟨s1,h1,h2,rfl⟩:=sE e4;refine(show qK n (tIt X.K (isVar ps) (HH.ev c ps)) g (HR X.K (m9 c none)) (xf X.K (HH.ev c pe)) σ H (fun v H1=>iT i v σ H1 (Vt X.K i (eX c nn ss) D))from Dh (c:=c) (ul:=aQ ρ (isVar ps)) hl hgo (fun R h=>⟨F,ρ,ds,ρ1,g0,e2,h⟩) hlim e3 fun q as F' H' s wq nd len row fr=>?_);exact⟨F,ρ,σ,H,F',_,q,as,rows,fl,ρ',NB.mk' s h1 h2 wq nd len row fr,e,fun F2 σ2 H2 s2=>kk F2 σ2 H2 s2⟩
 .cases e1
end
end HH
end
section
namespace HH
open PySem L2 PySem.Spec PyProof.Rows PySem.Calls PySem.W
section
variable{K:PySem.W.Frag}{F F1 H H1:Hp}{ρ ρ1 ρ2:List Sl}{σ σ1:L2.St}
theorem GS.abC{x:Nat}{kvs kvs':List (Int×D)}{a:Addr}{o':HO}(g:GS K F ρ σ H)(e:ρ[x]?=some (.bW kvs))(hx:σ[x]?=some (some (.ref a)))(r:jy K F o' (.v kvs')):aq K F ρ σ H F (ρ.set x (.bW kvs')) σ (upd H a o'):=by
 have hi:x<ρ.length:=(List.getElem?_eq_some_iff.mp e).1;have oa:aK ρ σ x a:=⟨⟨_,_,e,rfl⟩,hx⟩;obtain⟨a',o0,h1,h2,h3,h4⟩:=g.own x _ _ e rfl;rw[hx]at h1;cases h1;have old:∀{j:Nat}{c:Addr},aK (ρ.set x (.bW kvs')) σ j c->aK ρ σ j c:=fun{j c}⟨⟨t,dt,q1,q2⟩,q3⟩=>by
  by_cases hj:j=x;.subst hj;exact⟨⟨_,_,e,rfl⟩,q3⟩
  .rw[getElem?_set_ne (Ne.symm hj)]at q1;exact⟨⟨t,dt,q1,q2⟩,q3⟩
 refine⟨⟨fun c o q=>?_,by simp[g.len],fun j b' d q=>?_,fun j t dt q q'=>?_,fun j k c q1 q2=>g.dis j k c (old q1) (old q2)⟩,.refl _,fun c n n'=>absurd n n',fun c o q n=>?_,fun c⟨j,q⟩=>.inl ⟨j,old q⟩,by simp,fun j t q l=>⟨rfl,?_⟩⟩
 . have:c≠a:=by rintro rfl;rw[h3]at q;cases q
   rw[ao this];exact g.sub c o q
 . by_cases hj:j=x;.subst hj;rw[getElem?_set_self hi]at q;cases q
   .rw[getElem?_set_ne (Ne.symm hj)]at q;exact g.val j b' d q
 . by_cases hj:j=x;.subst hj;rw[getElem?_set_self hi]at q;cases q;cases q';exact⟨a,_,hx,aH,h3,r⟩
   . rw[getElem?_set_ne (Ne.symm hj)]at q;obtain⟨c,zs,w1,w2,w3,w4⟩:=g.own j t dt q q';have:c≠a:=by rintro rfl;exact hj (g.dis j x c ⟨⟨t,dt,q,q'⟩,w1⟩ oa)
     exact⟨c,zs,w1,by rw[ao this];exact w2,w3,w4⟩
 . have:c≠a:=by rintro rfl;exact n ⟨x,oa⟩
   rw[ao this];exact q
 . by_cases hj:j=x;.subst hj;rw[e]at q;cases q;cases l
   .exact⟨t,by rw[getElem?_set_ne (Ne.symm hj)];exact q,.refl t⟩
theorem GS.newV{i:Nat}{kvs:List (Int×D)}{a:Addr}{o':HO}{s0:Sl}(g:GS K F ρ σ H)(e:ρ[i]?=some s0)(hl0:ud s0=false)(r:jy K F o' (.v kvs))(ha:H a=none):aq K F ρ σ H F (ρ.set i (.bW kvs)) (σ.set i (some (.ref a))) (upd H a o'):=by
 have hi:i<ρ.length:=(List.getElem?_eq_some_iff.mp e).1;have hi':i<σ.length:=by rw[<-g.len];exact hi
 have fa:F a=none:=by cases q:F a with|none=>rfl|some o=>rw[g.sub a o q]at ha;cases ha
 have old:∀{j:Nat}{c:Addr},j≠i->aK (ρ.set i (.bW kvs)) (σ.set i (some (.ref a))) j c->aK ρ σ j c:=fun{j c}hj⟨⟨t,ds,e1,e2⟩,e3⟩=>by rw[getElem?_set_ne (Ne.symm hj)]at e1 e3;exact⟨⟨t,ds,e1,e2⟩,e3⟩
 have new:∀{c:Addr},aK (ρ.set i (.bW kvs)) (σ.set i (some (.ref a))) i c->c=a:=fun{c}⟨_,e3⟩=>by rw[getElem?_set_self hi']at e3;cases e3;rfl
 have no:∀{j:Nat},¬ aK ρ σ j a:=fun{j}⟨⟨t,ds,e1,e2⟩,e3⟩=>by obtain⟨c,o,q1,q2,_⟩:=g.own j t ds e1 e2;rw[e3]at q1;cases q1;rw[ha]at q2;cases q2
 refine⟨⟨fun c o q=>?_,by simp[g.len],fun j b' d q=>?_,fun j t dt q q'=>?_,fun j k c q1 q2=>?_⟩,.refl _,fun c n n'=>absurd n n',fun c o q n=>?_,fun c⟨j,q⟩=>?_,by simp,fun j t q l=>?_⟩
 . have:c≠a:=by rintro rfl;rw[fa]at q;cases q
   rw[ao this];exact g.sub c o q
 . by_cases hj:j=i;.subst hj;rw[getElem?_set_self hi]at q;cases q
   .rw[getElem?_set_ne (Ne.symm hj)]at q ⊢;exact g.val j b' d q
 . by_cases hj:j=i;.subst hj;rw[getElem?_set_self hi]at q;cases q;cases q';exact⟨a,_,getElem?_set_self hi',aH,fa,r⟩
   . rw[getElem?_set_ne (Ne.symm hj)]at q ⊢;obtain⟨c,o,w1,w2,w3,w4⟩:=g.own j t dt q q';have:c≠a:=by rintro rfl;rw[ha]at w2;cases w2
     exact⟨c,o,w1,by rw[ao this];exact w2,w3,w4⟩
 . by_cases hj:j=i
   . by_cases hk:k=i;.rw[hj,hk]
     .subst hj;rw[new q1]at q2;exact absurd (old hk q2) no
   . by_cases hk:k=i;.subst hk;rw[new q2]at q1;exact absurd (old hj q1) no
     .exact g.dis j k c (old hj q1) (old hk q2)
 . have:c≠a:=by rintro rfl;rw[ha]at q;cases q
   rw[ao this];exact q
 . by_cases hj:j=i;.subst hj;rw[new q];exact .inr ha
   .exact .inl ⟨j,old hj q⟩
 . have hj:j≠i:=by rintro rfl;rw[e]at q;cases q;rw[hl0]at l;cases l
   exact⟨by rw[getElem?_set_ne (Ne.symm hj)],t,by rw[getElem?_set_ne (Ne.symm hj)];exact q,.refl t⟩
end
section
variable{X:Cx}{c:Call}{n:Nat}{a b e:Expr}{pa pb p:P}{pos:Pos}
theorem zg{i:Nat}{x:Str}{pos' p2:Pos}(hN:X.N.Nodup)(hi:X.N[i]?=some x)(hx:Loc X.env.scope x)(hs:swapsWith (.Dict [] [] p2) (some (.Name x pos')) pos.line X.env=pure false:=by rfl)(hf:X.fn x=true\/X.env.scope.names.lookup x=some .local:=by first|exact .inl rfl|exact .inr rfl|assumption):SS X c n (.Assign [.Name x pos'] (.Dict [] [] p2) pos) (.CT i):=by
 refine cV (xN hN hi hx uR hs hf) ?_;rintro D σ H⟨F,ρ,fl,ρ',g,e,k⟩;rw[HH.X23]at e;have go:∀s0,ρ[i]?=some s0->ud s0=false->fl=.next->ρ'=ρ.set i (.bW [])->∀a,H a=none->D.nx (σ.set i (some (.ref a))) (upd H a (.dK [])):=fun s0 q hl hfl hρ a ha=>by subst hfl hρ;exact k F _ _ (g.newV (kvs:=[]) q hl (KR.oc .nil) ha)
 split at e;.rename_i q;cases e;exact go _ q rfl rfl rfl
 .rename_i q;cases e;exact go _ q rfl rfl rfl
 .rename_i q;cases e;exact go _ q rfl rfl rfl
 .cases e
theorem tH{i:Nat}{x:Str}{px pos':Pos}{pk:P}(hu:X.A.units+8<cLine)(hN:X.N[i]?=some x)(hv:uY X.env.scope x)(ha:SX X c a pk)(he:SX X c e p)(hs:swapsWith e (some (.Subscript (.Name x px) a pos')) pos.line X.env=pure false:=by rfl)(hd:(x==("__debug__":Str))=false:=by decide)(hcd:(x==("__classdict__":Str))=false:=by decide):SS X c n (.Assign [.Subscript (.Name x px) a pos'] e pos) (.fH i pk p):=by
 obtain⟨ta,h1,h2⟩:=ha.bN;refine cV (zG (by omega) (cW hN hv hd hcd) h1 he.ev hs) ?_;rintro D σ H⟨F,ρ,fl,ρ',g,e,k⟩;rw[HH.X24]at e;obtain⟨r,ρ1,e1,eA⟩:=aa e;clear e;refine⟨F,ρ,r,ρ1,g,e1,fun v F1 H1 s1 rr=>?_⟩;obtain⟨F2,s2,_,rp⟩:=s1.cC rr;split at eA
 . rename_i acP q0;obtain⟨kd,ρ2,e2,eB⟩:=aa eA;clear eA;obtain⟨a0,o0,w1,w2,w3,w4⟩:=s2.gs.own i _ _ q0 rfl;refine⟨.ref a0,w1,h2 s2.gs e2 fun y F3 H3 s3 py=>?_⟩;split at eB
   . rename_i kvs j q;split at eB;.rename_i hl;cases eB;obtain⟨a1,o1,y1,y2,y3,y4⟩:=s3.gs.own i _ _ q rfl;rw[w1]at y1;cases y1;obtain⟨es,rfl,kr⟩:=KR.O6 y4;have kr2:=kr.put (k:=j) (rp.mono s3.bZ);refine⟨a0,upd H3 a0 (.dK (putK es (Sum.inl j:Key) v)),rfl,?_,k F3 σ _ ((s2.trans s3).trans (s3.gs.abC q w1 kr2.oc))⟩;rw[py.int];exact .inl ⟨es,Sum.inl j,y2,rfl,by rw[kr.len,sizeLine_eq];exact hl,rfl⟩
     .cases eB
   .cases eB
 .cases eA
theorem xr{i:Nat}{x:Str}{px:Pos}{pk:P}(hu:X.A.units+8<cLine)(hN:X.N[i]?=some x)(hv:uY X.env.scope x)(ha:SX X c a pk)(hs:Jp a)(hd:(x==("__debug__":Str))=false:=by decide)(hcd:(x==("__classdict__":Str))=false:=by decide):SX X c (.Subscript (.Name x px) a pos) (.M8 i pk):=by
 obtain⟨ta,h1,h2⟩:=ha.bN;refine⟨cT (Il (by omega) (cW hN hv hd hcd) h1 hs) ?_,fun i h=>by cases h⟩;rintro σ H Q⟨F,ρ,r,ρ',g,e,k⟩;rw[HH.E23]at e;split at e
 . rename_i acP q;obtain⟨kd,ρ1,e1,eA⟩:=aa e;clear e;obtain⟨a0,o0,w1,w2,w3,w4⟩:=g.own i _ _ q rfl;refine⟨.ref a0,w1,h2 g e1 fun v F1 H1 s1 pv=>?_⟩;split at eA;.rename_i kvs q1;obtain⟨eC,e3⟩:=aA eA;clear eA;subst e3;obtain⟨j,e4,eD⟩:=bF eC;clear eC;obtain⟨d,e5,e6⟩:=map_some eD;subst e6;rw[bR e4]at pv;obtain⟨a1,o1,y1,y2,y3,y4⟩:=s1.gs.own i _ _ q1 rfl;rw[w1]at y1;cases y1;obtain⟨es,rfl,kr⟩:=KR.O6 y4;obtain⟨v',g1,g2⟩:=kr.get e5;rw[pv.int];exact⟨a0,v',rfl,.inl ⟨es,Sum.inl j,.inl y2,rfl,g1.symm⟩,k v' F1 H1 s1 (show Rep X.K F1 _ _ from g2)⟩
   .cases eA
 .cases e
theorem Pu{i:Nat}{x:Str}{px:Pos}{pk:P}{neg:Bool}{op:CmpOp}(hop:(op=.In/\neg=false)\/(op=.NotIn/\neg=true))(hu:X.A.units+8<cLine)(hN:X.N[i]?=some x)(hv:uY X.env.scope x)(ha:SX X c a pk)(hd:(x==("__debug__":Str))=false:=by decide)(hcd:(x==("__classdict__":Str))=false:=by decide):PC X op a (.Name x px) (xf X.K (HH.ev c (.M9 i pk neg))):=by
 obtain⟨ta,h1,h2⟩:=ha.bN;have main:∀{σ:L2.St}{H:Hp}{Q:VK},xf X.K (HH.ev c (.M9 i pk neg)) σ H Q->ta σ H fun y H1=>QT i σ H1 fun x H2=>∃a o,x=.ref a/\mz H2 a y o/\Q (.bl (if neg then !o.isSome else o.isSome)) H2:=fun{σ H Q}⟨F,ρ,r,ρ',g,e,k⟩=>by
  rw[HH.E24]at e;obtain⟨kd,ρ1,e1,eA⟩:=aa e;clear e;refine h2 g e1 fun v F1 H1 s1 pv=>?_;split at eA;.rename_i kvs q1;obtain⟨eC,e3⟩:=aA eA;clear eA;subst e3;obtain⟨j,e4,e5⟩:=map_some eC;subst e5;rw[bR e4]at pv;obtain⟨a1,o1,y1,y2,y3,y4⟩:=s1.gs.own i _ _ q1 rfl;obtain⟨es,rfl,kr⟩:=KR.O6 y4;rw[pv.int];refine⟨.ref a1,y1,a1,_,rfl,.inl ⟨es,Sum.inl j,.inl y2,rfl,rfl⟩,?_⟩;rw[kr.has j];exact k _ F1 H1 s1 (show Rep X.K F1 _ _ from ir _)
  .cases eA
 rcases hop with⟨rfl,rfl⟩|⟨rfl,rfl⟩;.exact fun pins s σ H Q I h=>QK (by omega) h1 (cW hN hv hd hcd) pins s σ H Q I (main h)
 .exact fun pins s σ H Q I h=>CJ (by omega) h1 (cW hN hv hd hcd) pins s σ H Q I (main h)
end
theorem mK{P:Program}{w:World}:∀{ks:List Int}{es:List (Key×V)}{vs:List (Key×Value)}{acc:List Value},es.map (·.1)=ks.map (Sum.inl:Int->Key)->KV es vs->acc.length=vs.length->(∀(j:Nat)(v:Value),acc[j]?=some v->∃(k:Key)(x:Value),vs[j]?=some (k,x)/\(aN P w).is k v=true)->IntsAre acc ks
 |[],es,_,acc,he,r,h,_=>by cases es with
   |nil=>cases r;cases acc with|nil=>exact .nil|cons _ _=>simp at h
   |cons _ _=>simp at he
 |i::ks,es,_,acc,he,r,h,k=>by cases es with|nil=>simp at he|cons p es=>cases r with|@cons _ q _ _ r t=>rw[map_cons,map_cons]at he;cases acc with|nil=>simp at h|cons v acc=>
         obtain⟨k',x,e1,e2⟩:=k 0 v rfl;simp at e1;have e3:k'=Sum.inl i:=by have z:=r.1;rw[e1]at z;rw[<-(List.cons.inj he).1];exact z.symm
         subst e3;obtain⟨i',tk,e4,rfl⟩|⟨_,_,e4,_⟩:=aZ (show mO (Sum.inl i) v=true from e2);.cases e4;exact .cons _ tk (mK (List.cons.inj he).2 t (by simpa using h) fun j v e=>k (j+1) v (by simpa using e))
         .cases e4
section
variable{X:Cx}{c:Call}{n:Nat}{a b e:Expr}{pa pb p:P}{pos:Pos}
theorem WX(hc:X.calm=true):dm X (.type "list") (Rh X.K fun x=>blt .Uz [x]):=by rintro pins s σ H xs us Q I r⟨x,hx,F,d,r',sm,px,he,k⟩;cases d with|dv ks ds=>
   obtain⟨hle,he⟩:=aW (show(if ks.length<=16777216 then some (R.own (ks.map D.int))else none)=some r' from he);subst he;obtain⟨q,ob,vs0,rfl,hq,rs,hl⟩:=px.dv sm;subst hx;obtain⟨u,rfl,rx⟩:=r.one;cases rx;obtain⟨ho,hz,hS,vs,rv,dd⟩:=(show bh X.prog X.w H s.heap q (.cC ob (.dK (ent ks vs0)))from I.hok q _ hq);obtain⟨ep,dd⟩:=dd.dictAt;have hk:=pW (ks:=ks) (vs:=vs0) (by rw[rs.length];exact hl);have hlv:vs.length=ks.length:=by rw[<-Paired.length rv];have:=congrArg List.length hk;simpa using this
   refine kdl_call (kdl_dict (knd:=aN X.prog X.w) (kvs:=vs) (ep:=ep) hS) (I.ok.hd hc) dd (by rw[hlv,sizeLine_eq];omega) fun h' tk acc c' kp hD hacc=>?_;have ia:IntsAre acc.toList ks:=mK (P:=X.prog) (w:=X.w) hk rv (by rw[length_toList];exact hacc.1) fun j v e=>hacc.2 j v (by rw[<-getElem?_toList];exact e);refine⟨.ref s.heap.objs.size,_,I.laid (t':=tk) (o:=.lst (ks.map V.int)) (h':=h') kp (le_refl _) ⟨by rw[length_map,sizeLine_eq];omega,acc.toList,c',gG ia,by rw[Array.toArray_toList];exact hD⟩,rfl,?_⟩;exact uL sm (my ks) (I.hok.fresh (le_refl _)) k|_=>cases he
theorem GX{x:Str}{p':Pos}(hx:x="list")(hc:X.calm=true)(hg:Gl X x)(hm:X.mg x=none)(ha:SX X c a pa)(hs:starEach [a] X.env=(false,eval a X.env)::starEach [] X.env:=by rfl):SX X c (.Call (.Name x p') [a] [] pos) (.blt .Uz [pa]):=by subst hx;exact qM (fun h=>je (WX hc) hg hm (by decide+kernel) h (he:=hs)) ha (fun ρ=>rfl) rfl hs
theorem Jd{neg:Bool}{op:CmpOp}(hop:(op=.In/\neg=false)\/(op=.NotIn/\neg=true))(hu:X.A.units+8<cLine):fV X (compareOp op) (rD X.K (wC neg)):=by rintro pins s σ H x y v u Q I rx ry⟨F,d,e,r,sm,px,py,he,k⟩;cases d with
 |int j=>cases e with|dv ks ds=>
     cases he;obtain⟨q,ob,vs,rfl,hq,rs,hl⟩:=py.dv sm;have kr:=KR.zip rs hl;rw[px.int]at rx;obtain rfl:u=Value.ref q:=ry;have g:mz H q (.int j) (gZ (ent ks vs) (Sum.inl j:Key)):=.inl ⟨_,Sum.inl j,.inr ⟨ob,hq⟩,rfl,rfl⟩;have hh:(gZ (ent ks vs) (Sum.inl j:Key)).isSome=ks.contains j:=by rw[kr.has j];congr 1;rw[List.map_fst_zip (by omega)]
     rcases hop with⟨rfl,rfl⟩|⟨rfl,rfl⟩;.refine Vl (by omega) I g rx fun s3 I3=>⟨.bl (gZ (ent ks vs) (Sum.inl j:Key)).isSome,H,I3,rfl,?_⟩;rw[hh];exact bK.cY sm (ir _) k
     .refine An (by omega) I g rx fun s3 I3=>⟨.bl (!(gZ (ent ks vs) (Sum.inl j:Key)).isSome),H,I3,rfl,?_⟩;rw[hh];exact bK.cY sm (ir _) k|_=>cases he
 |_=>cases he
end
end HH
end
section
namespace PySem
section
variable{prog:Program}{w:World}{A:Around}{E:Value->Shared->Prop}{s:Shared}
theorem uw{Q:List Value->Shared->Prop}{I l:Addr}{items:Array Value}(hh:A.handled=none)(hit:s.heap.IsRevIter I l ((items.size:Int)-1))(hl:s.heap.IsList l items)(hne:l≠I)(hlen:items.size<=2^24)(hQ:∀h' tk acc,(∀b o,b≠I->s.heap.get? b=some o->h'.get? b=some o)->s.heap.objs.size<h'.objs.size->ItemsOf (fun i v=>items[items.size-1-i]?=some v) acc items.size->Q acc.toList {s with heap:=h',toks:=tk}):
 wpAny (model prog w) A (collect (.ref I)) Q E s:=by have hIlt:I<s.heap.objs.size:=let⟨_,ho,_⟩:=hit;lt_size ho;have acQ:l<s.heap.objs.size:=let⟨_,ho,_⟩:=hl;lt_size ho;unfold collect;refine wpAny_bind (wpAny_runValue (codeAny_builtin F.entry_proto_collect ?_));rw[Around.under_plainId F.plain_proto_collect _];show wpAny _ A.in1 (newList []>>=fun l=>again (.builtin "list.__iadd__" ⟨[l,.ref I],[]⟩)) _ _ s;refine wpAny_bind (wpAny_newObj_type ?_);refine wpAny_pure ⟨plainId_quiet F.plain_list_iadd _,codeAny_builtin F.entry_list_iadd ?_⟩;rw[Around.under_plainId F.plain_list_iadd _];show wpAny _ A.in1 (listExtendWith (.ref s.heap.objs.size) (.ref I) (.ref s.heap.objs.size)) _ _ _;refine lq (A:=A) (R:=fun r s'=>match r with
  |.ok (.ret v)=>wpAny (model prog w) A (match v with
   |.ref a=>do let o<-load a match o.data with|.seq xs _=>pure xs.toList|_=>unsupported "internal:collect"
   |_=>unsupported "internal:collect") Q E s'|.ok _=>False|.error e=>E e s') (s:={s with heap:=s.heap.push {cls:=.type "list",data:=.seq #[]}}) hh (hit.at fun o e=>get?_push_of_some _ e) (hl.at fun o e=>get?_push_of_some _ e) hne hlen s.heap.objs.size (Ne.symm (ne_of_lt hIlt)) (Ne.symm (ne_of_lt acQ)) _ 0 (get?_push_size _ rfl) fun h' tk acc c' hk hS hacc=>?_;refine wpAny_bind (wpAny_load hS ?_);exact wpAny_pure (hQ h' tk acc (fun b o hb e=>hk b o (ne_of_lt (lt_size e)) hb (get?_push_of_some _ e)) (lt_size hS) hacc)
end
theorem il(I l:Addr)(items:Array Value)(hne:l≠I)(hsz:items.size<=2^24):Meets (Builtin.«tuple.__new__» ⟨[.type "tuple",.ref I],[]⟩) (fun A R s=>A.handled=none/\s.heap.IsRevIter I l ((items.size:Int)-1)/\s.heap.IsList l items/\∀(h':Heap)(tk:Nat),(∀b o,b≠I->s.heap.get? b=some o->h'.get? b=some o)->s.heap.objs.size<h'.objs.size->∀acc:Array Value,acc=items.reverse->R (.ok (.ret (.ref h'.objs.size))) {s with heap:=h'.push {cls:=.type "tuple",data:=.seq acc},toks:=tk}):=.of_wp fun prog w A R s h=>by
  obtain⟨hh,hit,hl,h⟩:=h;have hsub:=sub_tuple_self;have hinit:=init_tuple_lookup;have hmh:=madeHere_tuple;have hT:Shared.TypeIs s (.ref I) "list_reverseiterator":=hit.typeIs;obtain⟨o,ho,hc,hd⟩:=id hit;obtain⟨hp,g,d,tk,os⟩:=s;wp_walk using AutoSeq1.wpAny_loadPart' ho,wpAny_typeOf hT,uw (A:=A.in1) hh hit hl hne hsz;intro h' tk' acc hk hlt hacc;show wpAny _ _ (tupleExact acc.toList.toArray>>=fun v=>ret v) _ _ _;have e:acc.toList.toArray=acc:=by simp
  have er:acc=items.reverse:=by refine Array.ext (by rw[hacc.1,Array.size_reverse]) fun j h1 h2=>?_;have:=hacc.2 j _ (getElem?_eq_getElem h1);rw[Array.getElem_reverse];have h3:=Array.getElem?_eq_some_iff.mp this;exact h3.2.symm
  rw[e];unfold tupleExact;refine wpAny_bind (wpAny_newObj_type ?_ (by show acc.size<=sizeLine;rw[hacc.1,sizeLine_eq];omega));exact wpAny_pure ⟨_,rfl,h h' tk' hk hlt acc er⟩
section
variable{prog:Program}{w:World}{A:Around}{E:Value->Shared->Prop}{s:Shared}
theorem nC{I l:Addr}{items:Array Value}{Q:Value->Shared->Prop}(hh:A.handled=none)(hit:s.heap.IsRevIter I l ((items.size:Int)-1))(hl:s.heap.IsList l items)(hne:l≠I)(hsz:items.size<=2^24)(h:∀(h':Heap)(tk:Nat),(∀b o,b≠I->s.heap.get? b=some o->h'.get? b=some o)->s.heap.objs.size<h'.objs.size->Q (.ref h'.objs.size) {s with heap:=h'.push {cls:=.type "tuple",data:=.seq items.reverse},toks:=tk}):wpAny (model prog w) A (call (.type "tuple") [.ref I]) Q E s:=callType_new F.called_tuple (by decide) (F.typeCall_tuple_1 _) (F.newCall_tuple_1 _) (fun obj=>F.args_object_init_2 obj _) F.entry_tuple_new (il I l items hne hsz) ⟨hh,hit,hl,fun h' tk hk hlt acc e=>by subst e;exact⟨⟨_,get?_push_size _ rfl,rfl⟩,h h' tk hk hlt⟩⟩
end
end PySem
namespace L2
open PySem PySem.Spec PyProof.Rows
section
variable{X:Cx}{pins:List (Addr×Obj)}{σ:St}{H:Hp}{s:Shared}{E:Value->Shared->Prop}
theorem yH{a:Expr}{ta:TE}{p pos p2 pos2:Pos}(hc:X.calm=true)(hgL:Gl X "tuple")(hmL:X.mg "tuple"=none)(hg:Gl X "reversed")(hm:X.mg "reversed"=none)(ha:PE X a ta)(hs:starEach [a] X.env=[(false,eval a X.env)]:=by rfl)(hs2:starEach [.Call (.Name "reversed" p) [a] [] pos] X.env=[(false,eval (.Call (.Name "reversed" p) [a] [] pos) X.env)]:=by rfl):PE X (.Call (.Name "tuple" p2) [.Call (.Name "reversed" p) [a] [] pos] [] pos2) (fun σ H Q=>ta σ H fun x H1=>∃ad xs,x=.ref ad/\dz X.K H1 ad xs/\∀l,H1 l=none->Q (.ref l) (upd H1 l (.tup xs.reverse))):=by
 intro pins s σ H Q I h;refine Call_ (jN I hgL hmL vg (PyProof.Rows.callWith_type1 ?_ hs2 rfl));rw[hs2];show wpAny _ _ (spliced ((false,eval (.Call (.Name "reversed" p) [a] [] pos) X.env)::[])) _ _ _;refine Calls.spliced_cons (Call_ (jN I hg hm pN (PyProof.Rows.callWith_type1 (bC ((bA ha cL hs) pos pins s σ H (fun vs H1=>match vs with|[x]=>∃ad xs,x=.ref ad/\dz X.K H1 ad xs/\∀l,H1 l=none->Q (.ref l) (upd H1 l (.tup xs.reverse))|_=>False) I h) ?_) hs rfl)));rintro us s1⟨vs,H1,I1,r1,q1⟩;obtain⟨ad,xs,hq,q,vs1⟩:∃ad xs,dz X.K H1 ad xs/\(∀l,H1 l=none->Q (.ref l) (upd H1 l (.tup xs.reverse)))/\vs=[.ref ad]:=by cases vs with|nil=>cases q1|cons x r=>cases r with|nil=>obtain⟨ad,xs,rfl,q,q'⟩:=q1;exact⟨ad,xs,q,q',rfl⟩|cons _ _=>cases q1
 subst vs1;obtain⟨u,rfl,ru⟩:=r1.one;cases ru;obtain⟨its,rv,pl,hz⟩:=I1.list hq;have hsz:its.toArray.size=xs.length:=by rw[size_toArray,<-rv.length]
 refine call_reversed_list pl.isList (Calls.spliced_nil ?_);have hne:ad≠s1.heap.objs.size:=ne_of_lt (let⟨_,ho,_⟩:=pl.isList;lt_size ho);have hl2:(s1.heap.push (revObj ad ((its.toArray.size:Int)-1))).IsList ad its.toArray:=pl.isList.at fun o e=>get?_push_of_some _ e;refine nC (I1.ok.hd hc) (I:=s1.heap.objs.size) (l:=ad) (items:=its.toArray) ⟨_,get?_push_size _ rfl,rfl,rfl⟩ hl2 hne (by rw[hsz];exact le_trans hz (by decide)) fun h' tk hk hlt=>?_;have hsz2:(s1.heap.push (revObj ad ((its.toArray.size:Int)-1))).objs.size=s1.heap.objs.size+1:=size_push ..;dsimp only at hk hlt ⊢;rw[hsz2]at hlt;have er:its.toArray.reverse=its.reverse.toArray:=by simp
 rw[er];refine⟨.ref h'.objs.size,_,I1.laid (t':=tk) (o:=.tup xs.reverse) (h':=h'.push {cls:=.type "tuple",data:=.seq its.reverse.toArray}) (fun b o e=>get?_push_of_some _ (hk b o (ne_of_lt (lt_size e)) (get?_push_of_some _ e))) (by omega) ?_,rfl,q _ (I1.hok.fresh (by omega))⟩;exact⟨by rw[List.length_reverse];exact hz,_,rv.reverse,IsTup.new _ _⟩
end
end L2
namespace HH
open PySem L2 PySem.Spec PyProof.Rows
section
variable{X:Cx}{c:Call}{a:Expr}{pa:P}{pos:Pos}
theorem xQ{x y:Str}{p' q' pos':Pos}(hy:y="tuple")(hx:x="reversed")(hc:X.calm=true)(hgL:Gl X y)(hmL:X.mg y=none)(hg:Gl X x)(hm:X.mg x=none)(ha:SX X c a pa)(hs:starEach [a] X.env=[(false,eval a X.env)]:=by rfl)(hs2:starEach [.Call (.Name x p') [a] [] pos] X.env=[(false,eval (.Call (.Name x p') [a] [] pos) X.env)]:=by rfl):SX X c (.Call (.Name y q') [.Call (.Name x p') [a] [] pos] [] pos') (.blt .Z6 [pa]):=by subst hx hy;obtain⟨ta,h1,h2⟩:=ha.bN;refine⟨cT (yH hc hgL hmL hg hm h1 hs hs2) ?_,fun i h=>by cases h⟩;rintro σ H Q⟨F,ρ,r,ρ',g,e,k⟩;rw[HH.E15]at e;obtain⟨d,ρ2,e1,e2⟩:=aa e;have zz:=aA e2;clear e2;obtain⟨e2,e3⟩:=zz;subst e3;cases d with|lst ds=>cases e2;refine h2 g e1 ?_;rintro v F' H' s pv;obtain⟨ad,xs,rfl,hq,rs⟩:=pv.lst s.gs.sub;exact⟨ad,xs,rfl,hq,fun l hl=>BV s.gs.sub (au.rev rs) hl fun v F2 H2 xt rn=>k v F2 H2 (s.trans (xt.stp s.gs)) (.later s (rn.m5 s.gs))⟩|_=>cases e2
end
end HH
end
section
namespace L2
open PySem PySem.Spec PyProof.Rows PySem.Calls
section
variable{X:Cx}
theorem FW:Vx X (W6 X.K):=by
 intro pins s σ H x y v u Q I rx ry h;obtain⟨p,xs,i,z,rfl,rfl,hq,he,q⟩:=h;cases rx;obtain⟨t,rfl⟩:=ry;obtain⟨its,r,pl,hz⟩:=I.list hq;obtain⟨j,h1,h2,h3,h4,h5⟩:=tG he;obtain⟨w,ew,uD⟩:=r.get h2;have hl:=r.length;have hn:=pK;have fin:EP X pins σ Q w s:=⟨z,H,I,uD,q⟩;by_cases h0:0<=i
 . have hj:i.toNat=j:=by rw[seqIndex_of h0 h5]at h1;exact Option.some.inj h1
   exact wpAny_getItem_list pl.isList h0 (by omega) (by rw[hj];simpa using ew) fin
 . have hj:(i+(its.toArray.size:Int)).toNat=j:=by rw[seqIndex_neg (by omega) h4]at h1;rw[size_toArray,<-hl];exact Option.some.inj h1
   exact wpAny_getItem_list_neg pl.isList (by omega) (by rw[size_toArray]<;>omega) (by omega) (by rw[hj];simpa using ew) fin
end
end L2
namespace HH
open PySem L2 PySem.Spec PyProof.Rows PySem.Calls PySem.W
section
variable{X:Cx}{c:Call}{n:Nat}{a b e:Expr}{pa pb p:P}{pos:Pos}
set_option maxHeartbeats 800000 in
theorem zq{k e:Int}{t1 t2 p1 p2 p3}:SX X c (.Dict [some (.Constant (.int k) t1 p1)] [.Constant (.int e) t2 p2] p3) (.yJ k e):=by
 refine⟨?_,fun i h=>by cases h⟩;intro pins s σ H Q I h;obtain⟨F,ρ,r,ρ',g,e',kk⟩:=h;rw[HH.E25]at e';cases e';have em:mD [] [((Sum.inl k:Key),V.int e)]=ent [k] [.int e]:=rfl;have pe:=JZ (X:=X) (pos:=p3) (FJ (xX (i:=k) (j:=t1) (pos:=p1)) (xX (i:=e) (j:=t2) (pos:=p2)) Jl) rfl rfl (by simp) (by simp);refine bC (pe pins s σ H (fun v H'=>∃q,v=.ref q/\H q=none/\H'=upd H q (Aq [k] [.int e])) I ?_) fun u s1⟨v,H1,I1,r1,q,e1,hn,e2⟩=>?_;.intro q hq;refine⟨aH,[(Sum.inl k,.int e)],rfl,by simp,q,rfl,hq,?_⟩;rw[Am,em];rfl
 subst e1 e2;obtain⟨o,I2⟩:=Inv.Gk I1 (a:=q) (kvs:=ent [k] [.int e]) aH;rw[Am]at I2;have fp:F q=none:=by cases z:F q with|none=>rfl|some o=>rw[g.sub q o z]at hn;cases hn
 have sm:aG F (upd F q (.cC o (Aq [k] [.int e]))):=aG.bB fp;refine⟨.ref q,_,I2,r1,kk _ (upd F q (.cC o (Aq [k] [.int e]))) _ (Ext.stp g ⟨aG.bB hn,sm,fun b o e=>?_,fun b n n'=>?_⟩) ?_⟩
 . by_cases hb:b=q;.subst hb;rw[aH]at e ⊢;exact e
   .rw[ao hb]at e ⊢;exact g.sub b o e
 . by_cases hb:b=q;.subst hb;exact iZ hn
   .rw[ao hb]at n';exact absurd n n'
 .show Rep X.K _ _ (.dv [k] [.int e]);rw[Rep];exact⟨q,o,[.int e],rfl,aH,.cons (bH _) .nil,rfl⟩
theorem Iz{x:Str}{k:Nat}{px tpos:Pos}{op:Operator}{sub:Bool}(ho:YS X op (ipI fun i j=>if sub then i-j else i+j))(hN:X.N[k]?=some x)(hv:uY X.env.scope x)(hi:SX X c b pb)(he:SX X c e p)(ha:∀ov iv new,augStore b ov iv new=(do holding [new,ov,iv] (setItem ov iv new);release [new,ov,iv] [];pure .next):=by intros;rfl)(hd:(x==("__debug__":Str))=false:=by decide)(hcd:(x==("__classdict__":Str))=false:=by decide):SS X c n (.AugAssign (.Subscript (.Name x px) b tpos) op e pos) (.Hx k pb sub p):=by
 obtain⟨ti,hi1,hi2⟩:=hi.bN;obtain⟨te,he1,he2⟩:=he.bN;refine cV (Je (cW hN hv hd hcd) hi1 FW he1 ho set_list ha) ?_;rintro D σ H⟨F,ρ,fl,ρ',g,e,kk⟩;rw[HH.X15]at e;obtain⟨x0,ρ0,e0',eA⟩:=aa e;clear e;obtain⟨e0,CV⟩:=aA e0';clear e0';subst CV;obtain⟨dk,ρ1,e1,eB⟩:=aa eA;clear eA;obtain⟨l,ρ2,e2',eC⟩:=aa eB;clear eB;obtain⟨e2,e21⟩:=aA e2';clear e2';subst e21;obtain⟨ra,ρ3,e3',eD⟩:=aa eC;clear eC;obtain⟨e3,e31⟩:=aA e3';clear e3';subst e31;obtain⟨db,ρ4,e4,eE⟩:=aa eD;clear eD;obtain⟨o1,xs1,ho1,_⟩:=tM g e0;refine⟨.ref o1,ho1,hi2 g e1 fun vi F1 H1 s1 pi=>?_⟩;split at eE
 . rename_i u v bb ds kz q;split at eE
   . rename_i j hj;cases eE;obtain⟨i0,f3,f5⟩:=bF e3;have hi0:i0=kz:=by cases f3;rfl
     subst hi0;have e2':pk ρ1 k=some (.lst l):=by
      unfold yF at e2;split at e2;.rename_i z;cases e2;exact z
      .cases e2
     obtain⟨o',ho2,po⟩:=s1.gs.pk e2';rw[ho1]at ho2;cases ho2;obtain⟨ad,xs,hr,hL,rs⟩:=po.lst s1.gs.sub;cases hr;obtain⟨j0,h1,h2⟩:=DY f5;obtain⟨w,h3,h4⟩:=rs.get h2;have hat:DQ xs i0=some w:=by unfold DQ;rw[rs.length,h1];exact h3
     have hw:w=.int u:=by rw[Rep]at h4;exact h4
     subst hw;refine⟨o1,xs,i0,.int u,rfl,pi.int,hL,hat,he2 s1.gs e4 fun vb F2 H2 s2 pb=>⟨u,v,rfl,pb.int,?_⟩⟩;obtain⟨ad2,zs,z1,z2,z3,z4⟩:=s2.gs.pM k _ ds q rfl;rw[ho1]at z1;cases z1;refine⟨o1,zs,i0,j,rfl,pi.int,z2,by rw[z4.length];exact hj,?_⟩;exact kk F2 σ _ ((s1.trans s2).trans (s2.gs.mut q ho1 (z4.set (bH _) j)))
   .cases eE
 .cases eE
end
section
variable{X:Cx}{c:Call}{n:Nat}{a b e:Expr}{pa pb p:P}{pos:Pos}
theorem J5{neg:Bool}{o:Op}{op:CmpOp}(hop:(op=.In/\neg=false)\/(op=.NotIn/\neg=true))(hq:qm o=wC neg)(hu:X.A.units+8<cLine)(ha:SX X c a pa)(hb:SX X c b pb)(hm:behindInMarks op b=false):ST X c (.Compare a [op] [b] pos) (.bin o pa pb):=by obtain⟨ta,tb,h1,h2,h3⟩:=ha.iU hb;refine vf (yU (Jd hop hu) h1 h2 hm) fun σ H Q q=>mj (t:=Qz (rD X.K (wC neg)) ta tb) (fun Q z=>?_) q;obtain⟨F,ρ,r,ρ',g,e,k⟩:=z;rw[HH.E3]at e;obtain⟨xy,ρ1,e1,e2⟩:=aa e;have zz:=aA e2;clear e2;obtain⟨e2,e3⟩:=zz;subst e3;rw[hq]at e2;refine h3 g e1 fun v u F' H' s pv pu=>⟨F',xy.1,xy.2,r,s.gs.sub,pv,pu,e2,fun w F2 H2 x rn=>?_⟩;exact k w F2 H2 (s.trans (x.stp s.gs)) (.later s (rn.m5 s.gs))
theorem Qs(hu:X.A.units+8<cLine)(ha:SX X c a pa)(hb:SX X c b pb)(hm:behindInMarks .In b=false):ST X c (.Compare a [.In] [b] pos) (.bin .Z5 pa pb):=J5 (.inl ⟨rfl,rfl⟩) rfl hu ha hb hm
theorem Q5{i:Nat}{x:Str}{px:Pos}{pk:P}{neg:Bool}{op:CmpOp}(hop:(op=.In/\neg=false)\/(op=.NotIn/\neg=true))(hu:X.A.units+8<cLine)(hN:X.N[i]?=some x)(hv:uY X.env.scope x)(ha:SX X c a pk)(hb:behindInMarks op (.Name x px)=false)(hd:(x==("__debug__":Str))=false:=by decide)(hcd:(x==("__classdict__":Str))=false:=by decide):ST X c (.Compare a [op] [.Name x px] pos) (.M9 i pk neg):=vf (RQ (Pu hop hu hN hv ha hd hcd) hb) fun σ H Q q=>mj (fun _ z=>z) q
end
end HH
end
section
set_option maxHeartbeats 4000000
namespace T
open PySem L2 PySem.Spec PyProof.Rows HH
local macro_rules|`(term|nofun)=>`(⟨rfl,rfl,rfl,by decide+kernel,rfl,by decide+kernel,by decide+kernel⟩)
local macro_rules|`(tactic|exists$e)=>`(tactic|with_reducible refine$e)
local macro_rules|`(tactic|lia)=>`(tactic|with_reducible refine aY ?_ ?_)
set_option hygiene false
local macro_rules|`(tactic|exists$i,$e)=>`(tactic|((with_reducible refine rR (i:=$i) ?_ ?_ ?_ ?_ ?_ ?_);exact nd;exact rfl;exact oi;rotate_left;rfl;exact oi;exact$e))
local macro_rules|`(tactic|exists$i,$e,0)=>`(tactic|((with_reducible refine zQ (i:=$i) ?_ ?_ ?_ ?_ ?_ ?_ ?_ ?_ ?_);exact PassesOwn.never;exact hc;exact nd;exact rfl;exact oi;exact$e;rotate_left;(· intro _;rfl);exact oi))
local macro_rules|`(tactic|exists$a,$b,0,0)=>`(tactic|(refine Wz $a $b rfl rfl fun cdv A outer s H E hr=>?_;have nd:=($b).nd))
local macro_rules|`(tactic|exists(),$e)=>`(tactic|((with_reducible refine Qq ?_);exact$e))
set_option hygiene true
local macro_rules|`(term|‹$l›)=>`((show(($l):List Str).Nodup by decide+kernel))
theorem hc:true=true:=rfl
theorem oi{α:Type}{a:α}{p:Prop}:a=a\/p:=.inl rfl
theorem bQ{X:Cx}{c:Call}{a:Expr}{es:List Expr}{pa:P}{ps:List P}(ha:SX X c a pa)(hr:SG X c es ps)(h:nst a=true):SG X c (a::es) (pa::ps):=Kh ha hr (gh h)
theorem fG{X:Cx}{c:Call}{a:Expr}{es:List Expr}{pa:P}{ps:List P}(ha:SX X c a pa)(hr:SA X c es ps)(h:nst a=true):SA X c (a::es) (pa::ps):=zT ha hr (gh h)
variable{Pg:Program}{w:World}{K:PySem.W.Frag}{mg:Str->Option Value}{base:Heap}{f:Addr}{fd:FuncData}{k n:Nat}{c:Call}{cl:Nat->Addr}
noncomputable def top(i:Nat):Stmt:=PySem.Challenge.pw_hourhaul_k35_the_most_by_an_hour.main.body.getD i (.Pass ⟨0,0,0,0⟩)
noncomputable abbrev s0:=top 1
noncomputable def b0:List S:=[.asg 2 (.idx (.idx (.var 0) (.con (.int 1))) (.idx (.var 1) (.con (.int 0)))),.ret (.M7 (.idx (.var 1) (.con (.int 1))) (.tup [.idx (.var 2) (.con (.int 0)),.idx (.var 2) (.con (.int 1))]) (.tup [.idx (.var 2) (.con (.int 1)),.idx (.var 2) (.con (.int 0))]))]
noncomputable def f0:Fd:=⟨2,3,b0⟩
theorem sc0:aM ["net","step","way"] ["net","step"] (az s0):=nofun
include cl in
theorem d0(Fu:jM K "step_places" "step_places" s0 f fd):cj Pg w K mg base jr (k+1) f fd ["net","step"] (jG K 2 (fun args=>enter c n f0 args)):=by
 exists Fu,sc0,0,0;refine aY ?_ ?_;.exists 2,aD (aD (sv 0) aj) (aD (sv 1) aj)
 lia;.exists(),tE (lX (aD (sv 1) aj)) (dR (fG (aD (sv 2) aj) (fG (aD (sv 2) aj) aO rfl) rfl)) (dR (fG (aD (sv 2) aj) (fG (aD (sv 2) aj) aO rfl) rfl))
 exact aF
noncomputable abbrev s1:=top 2
noncomputable def b1:List S:=[.asg 2 (.idx (.idx (.idx (.var 0) (.con (.int 1))) (.idx (.var 1) (.con (.int 0)))) (.con (.int 3))),.ret (.M7 (.idx (.var 1) (.con (.int 1))) (.var 2) (.neg (.var 2)))]
noncomputable def f1:Fd:=⟨2,3,b1⟩
theorem sc1:aM ["net","step","hours"] ["net","step"] (az s1):=nofun
include cl in
theorem d1(Fu:jM K "step_hours" "step_hours" s1 f fd):cj Pg w K mg base jr (k+1) f fd ["net","step"] (jG K 2 (fun args=>enter c n f1 args)):=by
 exists Fu,sc1,0,0;refine aY ?_ ?_;.exists 2,aD (aD (aD (sv 0) aj) (aD (sv 1) aj)) aj
 lia;.exists(),tE (lX (aD (sv 1) aj)) (sv 2) (Eu (sv 2))
 exact aF
noncomputable abbrev s2:=top 3
noncomputable def b2:List S:=[.asg 3 (.idx (.var 1) (.idx (.var 2) (.con (.int 0)))),.ret (.M7 (.idx (.var 2) (.con (.int 1))) (.bin .sub (.idx (.idx (.idx (.var 0) (.con (.int 1))) (.idx (.var 2) (.con (.int 0)))) (.con (.int 2))) (.var 3)) (.var 3))]
noncomputable def f2:Fd:=⟨3,4,b2⟩
theorem sc2:aM ["net","stream","step","loads"] ["net","stream","step"] (az s2):=nofun
include cl in
theorem d2(Fu:jM K "step_room" "step_room" s2 f fd):cj Pg w K mg base jr (k+1) f fd ["net","stream","step"] (jG K 3 (fun args=>enter c n f2 args)):=by
 exists Fu,sc2,0,0;refine aY ?_ ?_;.exists 3,aD (sv 1) (aD (sv 2) aj)
 lia;.exists(),tE (lX (aD (sv 2) aj)) (aC dG (aD (aD (aD (sv 0) aj) (aD (sv 2) aj)) aj) (sv 3)) (sv 3)
 exact aF
noncomputable abbrev s3:=top 4
noncomputable def b3:List S:=[.ret (.blt .sum [.comp (.var 1) 1 [2] true none (.call 1 [.var 0,.var 2])])]
noncomputable def f3:Fd:=⟨2,2,b3⟩
theorem sc3:aM ["net","steps"] ["net","steps"] (az s3):=nofun
include cl in
theorem d3(Fu:jM K "steps_hours" "steps_hours" s3 f fd)(rO:mg "sum"=none)(gP:aB Pg w K mg base k c 1 "step_hours" 2):cj Pg w K mg base jr (k+1) f fd ["net","steps"] (jG K 2 (fun args=>enter c n f3 args)):=by
 exists Fu,sc3,0,0;refine aY ?_ ?_;.exists(),Et rfl hc (by rfl) rO (gJ (N':=["net","steps","step"]) hc (Mm rfl (by rfl)) (cZ (sv 1)) (fun _ _ _ _ _=>bw (i:=2) ‹["net","steps","step"]› rfl (Or.inl rfl) (Or.inr rfl)) (dX (le_refl _)) (fun _ _ _ _ _=>gO) (fun _ _ _ _ _=>(gR gP hr (bQ (sv 0) (bQ (sv 2) aJ rfl) rfl))))
 exact aF
noncomputable abbrev s4:=top 5
noncomputable def b4:List S:=[.HB 2 (.xj (.con (.int 0)) (.idx (.var 0) (.con (.int 0)))) 1 [5] true (.lst []),.CQ (.xj (.con (.int 0)) (.blt .len [.idx (.var 0) (.con (.int 1))])) [3] true [.CQ (.tup [.tup [.var 3,.con (.bl true)],.tup [.var 3,.con (.bl false)]]) [4] true [.ifs (.cmp .gt (.call 2 [.var 0,.var 1,.var 4]) (.con (.int 0))) [.HD 2 (.idx (.call 0 [.var 0,.var 4]) (.con (.int 0))) (.var 4)] []]],.cC 2,.ret (.var 2)]
noncomputable def f4:Fd:=⟨2,5,b4⟩
theorem sc4:aM ["net","stream","steps","number","step"] ["net","stream"] (az s4):=nofun
include cl in
theorem d4(Fu:jM K "open_steps" "open_steps" s4 f fd)(gV:mg "len"=none)(bY:mg "range"=none)(cI:aB Pg w K mg base k c 0 "step_places" 2)(iY:aB Pg w K mg base k c 2 "step_room" 3):cj Pg w K mg base jr (k+1) f fd ["net","stream"] (jG K 2 (fun args=>enter c n f4 args)):=by exists Fu,sc4,0,0;exact(by(refine Kf (i:=2) (N':=["net","stream","steps","number","step","place"]) (g:=iT 5) ?_ ?_ ?_ ?_ ?_ ?_ ?_ ?_ ?_ ?_ ?_ ?_ ?_ ?_);exact hc;exact nd;exact rfl;exact oi;exact Mm rfl (by rfl);exact uq rfl (by rfl) bY (aD (sv 0) aj);exact(fun _ _ _ _ _=>bw (i:=5) ‹["net","stream","steps","number","step","place"]› rfl (Or.inl rfl) (Or.inr rfl));exact dX (le_refl _);exact(fun _ _ _ _ _=>gO);exact(fun _ _ _ _ _=>(cg aO));(· exists Ea ?_ ?_;(· exists Al (g:=iT 3) ?_ ?_ ?_ ?_ ?_ ?_ ?_;exact PassesOwn.never;exact hc;(· exists Hb ?_ ?_ ?_ ?_ ?_;exact rfl;rfl;exact bY;exact tU rfl (by rfl) gV (aD (sv 0) aj);rfl);exact bw (i:=3) nd rfl oi oi;(· rw[lO];exact uh 3);(· exists pU ?_ ?_;(· exists Al (g:=iT 4) ?_ ?_ ?_ ?_ ?_ ?_ ?_;exact PassesOwn.never;exact hc;exact IW (dR (fG (dR (fG (sv 3) (fG rm aO rfl) rfl)) (fG (dR (fG (sv 3) (fG rm aO rfl) rfl)) aO rfl) rfl));exact bw (i:=4) nd rfl oi oi;(· rw[lO];exact uh 4);(· exists pU ?_ ?_;(· exists Qf ?_ ?_ ?_;exact fJ mC (gR iY hr (bQ (sv 0) (bQ (sv 1) (bQ (sv 4) aJ rfl) rfl) rfl)) aj (dN _);(· exists pU ?_ ?_;(· exists DW (k:=2) ?_ ?_ ?_ ?_ ?_ ?_ ?_ ?_ ?_ ?_ ?_ ?_;exact rfl;(· first|exact Or.inl rfl|exact Or.inr (Or.inl rfl));exact aD (gR cI hr (bQ (sv 0) (bQ (sv 4) aJ rfl) rfl)) aj;exact sv 4;(· intro _ _;rfl);rfl;rfl;rfl;rfl;rfl;rfl;rfl);exact nU);exact nU);exact nU);(· intro _;rfl));exact nU);(· intro _;rfl));(· exists Jg ?_;(· lia;(· exists(),sv 2);exact aF)));rfl;(· intro _;rfl);exact oi)
noncomputable abbrev s5:=top 6
noncomputable def b5:List S:=[.asg 3 (.call 4 [.var 0,.var 1]),.CT 4,.jw (.blt .keys [.var 2]) [5] true [.fH 4 (.var 5) (.tup [.bin .CK (.var 2) (.var 5),.con (.int 0),.con .non])],.asg 6 (.blt .Uz [.var 2]),.whl (.cmp .gt (.blt .len [.var 6]) (.con (.int 0))) [.CT 7,.jw (.var 6) [5] true [.jw (.idx (.var 3) (.var 5)) [8] true [.asg 9 (.idx (.call 0 [.var 0,.var 8]) (.con (.int 1))),.asg 10 (.tup [.bin .add (.idx (.M8 4 (.var 5)) (.con (.int 0))) (.call 1 [.var 0,.var 8]),.bin .add (.idx (.M8 4 (.var 5)) (.con (.int 1))) (.con (.int 1))]),.ifs (.or (.M9 4 (.var 9) true) (.cmp .lt (.var 10) (.slice (.M8 4 (.var 9)) (.con .non) (.con (.int 2))))) [.fH 4 (.var 9) (.bin .add (.var 10) (.tup [.var 8])),.fH 7 (.var 9) (.con (.bl true))] []]],.asg 6 (.blt .Uz [.vw 7])],.ret (.var 4)]
noncomputable def f5:Fd:=⟨3,11,b5⟩
theorem sc5:aM ["net","stream","begun","steps","come","place","row","changed","step","to","found"] ["net","stream","begun"] (az s5):=nofun
include cl in
theorem d5(Fu:jM K "shortest_come" "shortest_come" s5 f fd)(gV:mg "len"=none)(fL:mg "list"=none)(uF:aB Pg w K mg base k c 4 "open_steps" 2)(gP:aB Pg w K mg base k c 1 "step_hours" 2)(cI:aB Pg w K mg base k c 0 "step_places" 2):cj Pg w K mg base jr (k+1) f fd ["net","stream","begun"] (jG K 3 (fun args=>enter c n f5 args)):=by
 exists Fu,sc5,0,0;refine aY ?_ ?_;.exists 3,gR uF hr (bQ (sv 0) (bQ (sv 1) aJ rfl) rfl)
 lia;.exact(zg (i:=4) nd rfl oi (by rfl) (Or.inl rfl))
 lia;.exists 5,Ih (sv 2),0;(· lia;exact tH (i:=4) (cG hr) rfl (by first|exact Or.inl rfl|exact Or.inr (Or.inl rfl)) (sv 5) (dR (fG (tQ (cG hr) (sv 2) (sv 5) (fun _ _=>rfl)) (fG aj (fG Hl aO rfl) rfl) rfl)) (by rfl);exact aF)
 lia;.exists 6,GX rfl hc (by rfl) fL (sv 2)
 lia;.exact(yd PassesOwn.never (fJ mC (tU rfl (by rfl) gV (sv 6)) aj (dN _)) (by lia;exact zg (i:=7) nd rfl oi (by rfl) (Or.inl rfl);(· lia;(· exists 5,cZ (sv 6),0;(· lia;(· exists 8,cZ (aD (sv 3) (sv 5)),0;(· lia;(· exists 9,aD (gR cI hr (bQ (sv 0) (bQ (sv 8) aJ rfl) rfl)) aj);(· lia;(· exists 10,dR (fG (aC bj (aD (xr (i:=4) (cG hr) rfl (by first|exact Or.inl rfl|exact Or.inr (Or.inl rfl)) (sv 5) (fun _ _=>rfl)) aj) (gR gP hr (bQ (sv 0) (bQ (sv 8) aJ rfl) rfl))) (fG (aC bj (aD (xr (i:=4) (cG hr) rfl (by first|exact Or.inl rfl|exact Or.inr (Or.inl rfl)) (sv 5) (fun _ _=>rfl)) aj) aj) aO rfl) rfl));(· lia;(· exists rM ?_ ?_ ?_;exact SW.st (VM (Q5 (i:=4) (Or.inr ⟨rfl,rfl⟩) (cG hr) rfl (by first|exact Or.inl rfl|exact Or.inr (Or.inl rfl)) (sv 9) (by with_unfolding_all rfl)) (O4 (fJ (G8 (cG hr)) (sv 10) (vK (xr (i:=4) (cG hr) rfl (by first|exact Or.inl rfl|exact Or.inr (Or.inl rfl)) (sv 9) (fun _ _=>rfl)) Ao (zW aj)) (dN _))));(· lia;exact tH (i:=4) (cG hr) rfl (by first|exact Or.inl rfl|exact Or.inr (Or.inl rfl)) (sv 9) (aC bj (sv 10) (dR (fG (sv 8) aO rfl))) (by rfl);(· lia;exact tH (i:=7) (cG hr) rfl (by first|exact Or.inl rfl|exact Or.inr (Or.inl rfl)) (sv 9) rm (by rfl);exact aF));exact aF);exact aF))));exact aF));(· lia;(· exists 6,GX rfl hc (by rfl) fL (Lp (i:=7) rfl (by first|exact Or.inl rfl|exact Or.inr (Or.inl rfl))));exact aF))))
 lia;.exists(),sv 4
 exact aF
noncomputable abbrev s6:=top 7
noncomputable def b6:List S:=[.asg 3 (.lst []),.asg 4 (.var 2),.whl (.cmp .Ld (.idx (.bin .CK (.var 1) (.var 4)) (.con (.int 2))) (.con .non)) [.asg 5 (.idx (.bin .CK (.var 1) (.var 4)) (.con (.int 2))),.app 3 (.var 5),.asg 4 (.idx (.call 0 [.var 0,.var 5]) (.con (.int 0)))],.ret (.blt .Z6 [.var 3])]
noncomputable def f6:Fd:=⟨3,6,b6⟩
theorem sc6:aM ["net","come","place","steps","here","step"] ["net","come","place"] (az s6):=nofun
include cl in
theorem d6(Fu:jM K "steps_to" "steps_to" s6 f fd)(jV:mg "reversed"=none)(jq:mg "tuple"=none)(cI:aB Pg w K mg base k c 0 "step_places" 2):cj Pg w K mg base jr (k+1) f fd ["net","come","place"] (jG K 3 (fun args=>enter c n f6 args)):=by
 exists Fu,sc6,0,0;refine aY ?_ ?_;.exists 3,cg aO
 lia;.exists 4,sv 2
 lia;.exact(yd PassesOwn.never (fJ JK (aD (tQ (cG hr) (sv 1) (sv 4) (fun _ _=>rfl)) aj) Hl (dN _)) (by lia;(· exists 5,aD (tQ (cG hr) (sv 1) (sv 4) (fun _ _=>rfl)) aj);(· lia;exact mR (k:=3) rfl (by first|exact Or.inl rfl|exact Or.inr (Or.inl rfl)) (sv 5);(· lia;(· exists 4,aD (gR cI hr (bQ (sv 0) (bQ (sv 5) aJ rfl) rfl)) aj);exact aF))))
 lia;.exists(),xQ rfl rfl hc (by rfl) jq (by rfl) jV (sv 3)
 exact aF
noncomputable abbrev s7:=top 8
noncomputable def b7:List S:=[.asg 3 (.blt .list [.var 0]),.jw (.var 1) [4,5] false [.Hx 3 (.var 4) false (.M7 (.var 5) (.var 2) (.neg (.var 2)))],.ret (.var 3)]
noncomputable def f7:Fd:=⟨3,6,b7⟩
theorem sc7:aM ["stream","steps","loads","changed","number","forth"] ["stream","steps","loads"] (az s7):=nofun
include cl in
theorem d7(Fu:jM K "stream_with" "stream_with" s7 f fd)(fL:mg "list"=none):cj Pg w K mg base jr (k+1) f fd ["stream","steps","loads"] (jG K 3 (fun args=>enter c n f7 args)):=by
 exists Fu,sc7,0,0;refine aY ?_ ?_;.exists 3,zJ rfl (by rfl) fL (sv 0)
 lia;.exact(tW PassesOwn.never hc (cZ (sv 1)) (tO hc (cH (bw (i:=4) nd rfl oi oi) (cH (bw (i:=5) nd rfl oi oi) n8))) (xx rfl (fB _ _ (fB _ _ tK 5) 4)) (by lia;exact Iz (k:=3) (sub:=false) Jq rfl (by first|exact Or.inl rfl|exact Or.inr (Or.inl rfl)) (sv 4) (tE (lX (sv 5)) (sv 2) (Eu (sv 2)));exact aF))
 lia;.exists(),sv 3
 exact aF
noncomputable abbrev s8:=top 9
noncomputable def b8:List S:=[.asg 1 (.bin .sub (.idx (.var 0) (.con (.int 0))) (.con (.int 1))),.asg 2 (.bin .mul (.lst [.con (.int 0)]) (.blt .len [.idx (.var 0) (.con (.int 1))])),.asg 3 (.lst []),.asg 4 (.call 5 [.var 0,.var 2,.yJ 0 0]),.whl (.bin .Z5 (.var 1) (.var 4)) [.asg 5 (.call 6 [.var 0,.var 4,.var 1]),.asg 6 (.blt .CN [.comp (.var 5) 1 [7] true none (.call 2 [.var 0,.var 2,.var 7])]),.app 3 (.tup [.var 5,.var 6]),.asg 2 (.call 7 [.var 2,.var 5,.var 6]),.asg 4 (.call 5 [.var 0,.var 2,.yJ 0 0])],.ret (.var 3)]
noncomputable def f8:Fd:=⟨1,7,b8⟩
theorem sc8:aM ["net","end","stream","chains","come","steps","loads"] ["net"] (az s8):=nofun
include cl in
theorem d8(Fu:jM K "chains_to_end" "chains_to_end" s8 f fd)(gV:mg "len"=none)(rP:mg "min"=none)(gW:aB Pg w K mg base k c 5 "shortest_come" 3)(iY:aB Pg w K mg base k c 2 "step_room" 3)(yN:aB Pg w K mg base k c 6 "steps_to" 3)(qw:aB Pg w K mg base k c 7 "stream_with" 3):cj Pg w K mg base jr (k+1) f fd ["net"] (jG K 1 (fun args=>enter c n f8 args)):=by
 exists Fu,sc8,0,0;refine aY ?_ ?_;.exists 1,aC dG (aD (sv 0) aj) aj
 lia;.exists rR (i:=2) ?_ ?_ ?_ ?_ ?_ ?_;exact nd;exact rfl;exact Or.inr rfl;rotate_left;rfl;exact oi;exact aC gF (cg (fG aj aO rfl)) (tU rfl (by rfl) gV (aD (sv 0) aj))
 lia;.exists 3,cg aO
 lia;.exists 4,gR gW hr (bQ (sv 0) (bQ (sv 2) (bQ zq aJ rfl) rfl) rfl)
 lia;.exact(yd PassesOwn.never (Qs (cG hr) (sv 1) (sv 4) (by with_unfolding_all rfl)) (by lia;(· exists 5,gR yN hr (bQ (sv 0) (bQ (sv 4) (bQ (sv 1) aJ rfl) rfl) rfl));(· lia;(· exists 6,Ad rfl hc (by rfl) rP (gJ (N':=["net","end","stream","chains","come","steps","loads","step"]) hc (Mm rfl (by rfl)) (cZ (sv 5)) (fun _ _ _ _ _=>bw (i:=7) ‹["net","end","stream","chains","come","steps","loads","step"]› rfl (Or.inl rfl) (Or.inr rfl)) (dX (le_refl _)) (fun _ _ _ _ _=>gO) (fun _ _ _ _ _=>(gR iY hr (bQ (sv 0) (bQ (sv 2) (bQ (sv 7) aJ rfl) rfl) rfl)))));(· lia;exact mR (k:=3) rfl (by first|exact Or.inl rfl|exact Or.inr (Or.inl rfl)) (dR (fG (sv 5) (fG (sv 6) aO rfl) rfl));(· lia;(· exists rR (i:=2) ?_ ?_ ?_ ?_ ?_ ?_;exact nd;exact rfl;exact Or.inr rfl;rotate_left;rfl;exact oi;exact gR qw hr (bQ (sv 2) (bQ (sv 5) (bQ (sv 6) aJ rfl) rfl) rfl));(· lia;(· exists 4,gR gW hr (bQ (sv 0) (bQ (sv 2) (bQ zq aJ rfl) rfl) rfl));exact aF))))))
 lia;.exists(),sv 3
 exact aF
noncomputable abbrev s9:=top 11
noncomputable def b9:List S:=[.Hz 1 false,.jw (.call 8 [.var 0]) [2,3] false [.asg 4 (.call 3 [.var 0,.var 2]),.dput 1 (.var 4) (.bin .add (.UG 1 (.var 4) (.con (.int 0))) (.var 3))],.ret (.blt .Lf [.vw 1])]
noncomputable def f9:Fd:=⟨1,5,b9⟩
theorem sc9:aM ["net","bends","steps","loads","length"] ["net"] (az s9):=nofun
include cl in
theorem d9(Fu:jM K "bends_of" "bends_of" s9 f fd)(eO:mg "sorted"=none)(nD:aB Pg w K mg base k c 8 "chains_to_end" 1)(qx:aB Pg w K mg base k c 3 "steps_hours" 2):cj Pg w K mg base jr (k+1) f fd ["net"] (jG K 1 (fun args=>enter c n f9 args)):=by
 exists Fu,sc9,0,0;refine aY ?_ ?_;.exact(J6 (i:=1) nd rfl oi (by rfl) (Or.inl rfl))
 lia;.exact(tW PassesOwn.never hc (cZ (gR nD hr (bQ (sv 0) aJ rfl))) (tO hc (cH (bw (i:=2) nd rfl oi oi) (cH (bw (i:=3) nd rfl oi oi) n8))) (xx rfl (fB _ _ (fB _ _ tK 3) 2)) (by lia;(· exists 4,gR qx hr (bQ (sv 0) (bQ (sv 2) aJ rfl) rfl));(· lia;exact Kg (i:=1) (cG hr) rfl (by first|exact Or.inl rfl|exact Or.inr (Or.inl rfl)) (sv 4) (aC bj (RV (i:=1) (cG hr) rfl (by first|exact Or.inl rfl|exact Or.inr (Or.inl rfl)) (sv 4) aj ⟨rfl,rfl,rfl,rfl⟩) (sv 3)) (by rfl);exact aF)))
 lia;.exists(),Kw rfl hc (by rfl) eO rfl (Lp (i:=1) rfl (by first|exact Or.inl rfl|exact Or.inr (Or.inl rfl)))
 exact aF
noncomputable abbrev qd:=top 13
noncomputable def b10:List S:=[.ret (.blt .sum [.comp (.var 0) 2 [2,3] false (some (.cmp .le (.var 2) (.var 1))) (.bin .mul (.var 3) (.bin .add (.bin .sub (.var 1) (.var 2)) (.con (.int 1))))])]
noncomputable def Y6:Fd:=⟨2,2,b10⟩
theorem aai:aM ["bends","last"] ["bends","last"] (az qd):=nofun
include cl in
theorem d10(Fu:jM K "most_of" "most_of" qd f fd)(rO:mg "sum"=none):cj Pg w K mg base jr (k+1) f fd ["bends","last"] (jG K 2 (fun args=>enter c n Y6 args)):=by
 exists Fu,aai,0,0;refine aY ?_ ?_;.exists(),Et rfl hc (by rfl) rO (gJ (N':=["bends","last","length","loads"]) hc (Mm rfl (by rfl)) (cZ (sv 0)) (fun _ _ _ _ _=>tO hc (cH (bw (i:=2) ‹["bends","last","length","loads"]› rfl (Or.inl rfl) (Or.inr rfl)) (cH (bw (i:=3) ‹["bends","last","length","loads"]› rfl (Or.inl rfl) (Or.inr rfl)) n8))) (Iw rfl (uO (show 2<=2 by decide) (uO (show 2<=3 by decide) KJ))) (fun _ _ _ _ _=>Jb (fJ Rt (sv 2) (sv 1) (dN _))) (fun _ _ _ _ _=>(aC gF (sv 3) (aC bj (aC dG (sv 1) (sv 2)) aj))))
 exact aF
noncomputable abbrev ZQ:=top 14
noncomputable def b11:List S:=[.ret (.call 10 [.call 9 [.var 0],.var 1])]
noncomputable def f11:Fd:=⟨2,2,b11⟩
theorem abu:aM ["net","last"] ["net","last"] (az ZQ):=nofun
include cl in
theorem d11(Fu:jM K "most_by" "most_by" ZQ f fd)(yO:aB Pg w K mg base k c 9 "bends_of" 1)(Dd:aB Pg w K mg base k c 10 "most_of" 2):cj Pg w K mg base jr (k+1) f fd ["net","last"] (jG K 2 (fun args=>enter c n f11 args)):=by
 exists Fu,abu,0,0;refine aY ?_ ?_;.exists(),gR Dd hr (bQ (gR yO hr (bQ (sv 0) aJ rfl)) (bQ (sv 1) aJ rfl) rfl)
 exact aF
noncomputable abbrev s12:=top 16
noncomputable def b12:List S:=[.ret (.lst [.blt .max2 [.con (.int 0),.bin .sub (.var 0) (.bin .pow (.con (.int 10)) (.con (.int 18)))],.bin .mod (.var 0) (.bin .pow (.con (.int 10)) (.con (.int 18))),.con (.int 0)])]
noncomputable def Zk:Fd:=⟨1,1,b12⟩
theorem abx:aM ["cell"] ["cell"] (az s12):=nofun
include cl in
theorem d12(Fu:jM K "_law_pool" "_law_pool" s12 f fd)(jD:mg "max"=none):cj Pg w K mg base jr (k+1) f fd ["cell"] (jG K 1 (fun args=>enter c n Zk args)):=by
 exists Fu,abx,0,0;refine aY ?_ ?_;.exists(),cg (fG (tu rfl hc (by rfl) jD (fG aj (fG (aC dG (sv 0) (aC zV aj aj)) aO rfl) rfl)) (fG (aC dD (sv 0) (aC zV aj aj)) (fG aj aO rfl) rfl) rfl)
 exact aF
noncomputable abbrev s13:=top 17
noncomputable def b13:List S:=[.ifs (.cmp .gt (.idx (.var 0) (.con (.int 0))) (.con (.int 0))) [.asg 2 (.bin .mod (.idx (.var 0) (.con (.int 0))) (.var 1)),.CP 0 (.con (.int 0)) (.bin .fdiv (.idx (.var 0) (.con (.int 0))) (.var 1)),.ret (.var 2)] [],.CP 0 (.con (.int 2)) (.bin .add (.idx (.var 0) (.con (.int 2))) (.con (.int 1))),.asg 3 (.bin .mod (.bin .add (.idx (.var 0) (.con (.int 1))) (.bin .mul (.con (.int 7919)) (.idx (.var 0) (.con (.int 2))))) (.con (.int 1000000007))),.asg 4 (.bin .mod (.bin .mul (.bin .add (.var 3) (.con (.int 11))) (.bin .add (.var 3) (.con (.int 48271)))) (.con (.int 998244353))),.ret (.bin .mod (.bin .fdiv (.bin .mod (.bin .mul (.var 4) (.var 4)) (.con (.int 2147483647))) (.con (.int 8))) (.var 1))]
noncomputable def YK:Fd:=⟨2,5,b13⟩
theorem aaW:aM ["pool","base","digit","mixed","stir"] ["pool","base"] (az s13):=nofun
include cl in
theorem d13(Fu:jM K "_law_next" "_law_next" s13 f fd):cj Pg w K mg base jr (k+1) f fd ["pool","base"] (jG K 2 (fun args=>enter c n YK args)):=by
 exists Fu,aaW,0,0;refine aY ?_ ?_;.exists rM ?_ ?_ ?_;exact fJ mC (aD (sv 0) aj) aj (dN _);(· lia;(· exists 2,aC dD (aD (sv 0) aj) (sv 1));(· lia;exact ug (k:=0) rfl (by first|exact Or.inl rfl|exact Or.inr (Or.inl rfl)) aj (aC vR (aD (sv 0) aj) (sv 1));(· lia;(· exists(),sv 2);exact aF)));exact aF
 lia;.exact(ug (k:=0) rfl (by first|exact Or.inl rfl|exact Or.inr (Or.inl rfl)) aj (aC bj (aD (sv 0) aj) aj))
 lia;.exists 3,aC dD (aC bj (aD (sv 0) aj) (aC gF aj (aD (sv 0) aj))) aj
 lia;.exists 4,aC dD (aC gF (aC bj (sv 3) aj) (aC bj (sv 3) aj)) aj
 lia;.exists(),aC dD (aC vR (aC dD (aC gF (sv 4) (sv 4)) aj) aj) (sv 1)
 exact aF
noncomputable abbrev s14:=top 18
noncomputable def b14:List S:=[.asg 2 (.blt .list [.slice (.var 0) (.con .non) (.var 1)]),.jw (.xj (.var 1) (.blt .len [.var 0])) [3] true [.CP 2 (.bin .mod (.var 3) (.var 1)) (.bin .add (.bin .mul (.idx (.var 2) (.bin .mod (.var 3) (.var 1))) (.con (.int 31))) (.idx (.var 0) (.var 3)))],.ret (.var 2)]
noncomputable def ZD:Fd:=⟨2,4,b14⟩
theorem ack:aM ["script","most","cells","k"] ["script","most"] (az s14):=nofun
include cl in
theorem d14(Fu:jM K "_law_cells" "_law_cells" s14 f fd)(gV:mg "len"=none)(fL:mg "list"=none)(bY:mg "range"=none):cj Pg w K mg base jr (k+1) f fd ["script","most"] (jG K 2 (fun args=>enter c n ZD args)):=by
 exists Fu,ack,0,0;refine aY ?_ ?_;.exists 2,zJ rfl (by rfl) fL (vK (sv 0) Ao (zW (sv 1)))
 lia;.exists 3,zy rfl (by rfl) bY (sv 1) (tU rfl (by rfl) gV (sv 0)),0;(· lia;exact ug (k:=2) rfl (by first|exact Or.inl rfl|exact Or.inr (Or.inl rfl)) (aC dD (sv 3) (sv 1)) (aC bj (aC gF (aD (sv 2) (aC dD (sv 3) (sv 1))) aj) (aD (sv 0) (sv 3)));exact aF)
 lia;.exists(),sv 2
 exact aF
noncomputable abbrev s15:=top 19
noncomputable def b15:List S:=[.asg 3 (.call 13 [.var 0,.var 1]),.asg 4 (.bin .mod (.bin .add (.bin .add (.var 3) (.con (.int 1))) (.call 13 [.var 0,.bin .sub (.var 1) (.con (.int 1))])) (.var 1)),.ifs (.and (.cmp .lt (.bin .add (.var 2) (.con (.int 1))) (.var 1)) (.cmp .gt (.call 13 [.var 0,.con (.int 3)]) (.con (.int 0)))) [.par 3 4 (.var 2) (.bin .add (.var 2) (.con (.int 1)))] [.ifs (.and (.cmp .gt (.var 3) (.var 4)) (.cmp .gt (.call 13 [.var 0,.con (.int 3)]) (.con (.int 0)))) [.par 3 4 (.var 4) (.var 3)] []],.asg 5 (.idx (.lst [.con (.int 1),.con (.int 2),.con (.int 3),.con (.int 5),.con (.int 0),.con (.int 1),.con (.int 4),.bin .add (.con (.int 1)) (.call 13 [.var 0,.con (.int 9)])]) (.call 13 [.var 0,.con (.int 8)])),.ret (.tup [.var 3,.var 4,.var 5,.idx (.lst [.con (.int 1),.con (.int 1),.con (.int 1),.con (.int 2),.con (.int 2),.con (.int 3),.con (.int 1),.con (.int 4)]) (.call 13 [.var 0,.con (.int 8)])])]
noncomputable def Yg:Fd:=⟨3,6,b15⟩
theorem aa5:aM ["pool","many","k","begin","end","room"] ["pool","many","k"] (az s15):=nofun
include cl in
theorem d15(Fu:jM K "_law_way" "_law_way" s15 f fd)(bf:aB Pg w K mg base k c 13 "_law_next" 2):cj Pg w K mg base jr (k+1) f fd ["pool","many","k"] (jG K 3 (fun args=>enter c n Yg args)):=by
 exists Fu,aa5,0,0;refine aY ?_ ?_;.exists 3,gR bf hr (bQ (sv 0) (bQ (sv 1) aJ rfl) rfl)
 lia;.exists 4,aC dD (aC bj (aC bj (sv 3) aj) (gR bf hr (bQ (sv 0) (bQ (aC dG (sv 1) aj) aJ rfl) rfl))) (sv 1)
 lia;.exists rM ?_ ?_ ?_;exact SW.st (Fq (fJ (G8 (cG hr)) (aC bj (sv 2) aj) (sv 1) (dN _)) (yV (fJ mC (gR bf hr (bQ (sv 0) (bQ aj aJ rfl) rfl)) aj (dN _))));(· lia;exact Gv (i:=3) (j:=4) hc nd rfl rfl (by decide) rfl rfl (sv 2) (aC bj (sv 2) aj);exact aF);(· lia;(· exists rM ?_ ?_ ?_;exact SW.st (Fq (fJ mC (sv 3) (sv 4) (dN _)) (yV (fJ mC (gR bf hr (bQ (sv 0) (bQ aj aJ rfl) rfl)) aj (dN _))));(· lia;exact Gv (i:=3) (j:=4) hc nd rfl rfl (by decide) rfl rfl (sv 4) (sv 3);exact aF);exact aF);exact aF)
 lia;.exists 5,aD (cg (jf [1,2,3,5,0,1,4] rfl (fG (aC bj aj (gR bf hr (bQ (sv 0) (bQ aj aJ rfl) rfl))) aO rfl))) (gR bf hr (bQ (sv 0) (bQ aj aJ rfl) rfl))
 lia;.exists(),dR (fG (sv 3) (fG (sv 4) (fG (sv 5) (fG (aD (cg (jf [1,1,1,2,2,3,1,4] rfl aO)) (gR bf hr (bQ (sv 0) (bQ aj aJ rfl) rfl))) aO rfl) rfl) rfl) rfl)
 exact aF
noncomputable abbrev s16:=top 20
noncomputable def b16:List S:=[.asg 1 (.idx (.lst [.con (.int 3),.con (.int 4),.con (.int 3),.con (.int 4),.con (.int 2),.con (.int 5),.con (.int 6),.con (.int 4)]) (.call 13 [.var 0,.con (.int 8)])),.asg 2 (.idx (.lst [.con (.int 5),.con (.int 3),.con (.int 4),.con (.int 6),.con (.int 2),.con (.int 7),.con (.int 8),.con (.int 10),.con (.int 12),.con (.int 1),.con (.int 0),.con (.int 5)]) (.call 13 [.var 0,.con (.int 12)])),.ret (.tup [.var 1,.blt .tuple [.comp (.xj (.con (.int 0)) (.var 2)) 1 [3] true none (.call 15 [.var 0,.var 1,.var 3])]])]
noncomputable def Yq:Fd:=⟨1,3,b16⟩
theorem abn:aM ["pool","many","count"] ["pool"] (az s16):=nofun
include cl in
theorem d16(Fu:jM K "_law_net" "_law_net" s16 f fd)(bY:mg "range"=none)(jq:mg "tuple"=none)(bf:aB Pg w K mg base k c 13 "_law_next" 2)(yP:aB Pg w K mg base k c 15 "_law_way" 3):cj Pg w K mg base jr (k+1) f fd ["pool"] (jG K 1 (fun args=>enter c n Yq args)):=by
 exists Fu,abn,0,0;refine aY ?_ ?_;.exists rR (i:=1) ?_ ?_ ?_ ?_ ?_ ?_;exact nd;exact rfl;exact Or.inr rfl;rotate_left;rfl;exact oi;exact aD (cg (jf [3,4,3,4,2,5,6,4] rfl aO)) (gR bf hr (bQ (sv 0) (bQ aj aJ rfl) rfl))
 lia;.exists 2,aD (cg (jf [5,3,4,6,2,7,8,10,12,1,0,5] rfl aO)) (gR bf hr (bQ (sv 0) (bQ aj aJ rfl) rfl))
 lia;.exists(),dR (fG (sv 1) (fG (Fg rfl (by rfl) jq (gJ (N':=["pool","many","count","k"]) hc (Mm rfl (by rfl)) (uq rfl (by rfl) bY (sv 2)) (fun _ _ _ _ _=>bw (i:=3) ‹["pool","many","count","k"]› rfl (Or.inl rfl) (Or.inr rfl)) (dX (le_refl _)) (fun _ _ _ _ _=>gO) (fun _ _ _ _ _=>(gR yP hr (bQ (sv 0) (bQ (sv 1) (bQ (sv 3) aJ rfl) rfl) rfl))))) aO rfl) rfl)
 exact aF
noncomputable abbrev s17:=top 21
noncomputable def b17:List S:=[.asg 2 (.con (.int 0)),.jw (.idx (.var 0) (.con (.int 1))) [3,4,5,6] false [.asg 2 (.bin .add (.var 2) (.bin .mul (.var 5) (.blt .max2 [.con (.int 0),.bin .sub (.bin .sub (.idx (.var 1) (.var 4)) (.idx (.var 1) (.var 3))) (.var 6)])))],.ret (.var 2)]
noncomputable def Zw:Fd:=⟨2,7,b17⟩
theorem aaA:aM ["net","closed","found","begin","end","room","hours"] ["net","closed"] (az s17):=nofun
include cl in
theorem d17(Fu:jM K "_law_sum" "_law_sum" s17 f fd)(jD:mg "max"=none):cj Pg w K mg base jr (k+1) f fd ["net","closed"] (jG K 2 (fun args=>enter c n Zw args)):=by
 exists Fu,aaA,0,0;refine aY ?_ ?_;.exists 2,aj
 lia;.exact(tW PassesOwn.never hc (cZ (aD (sv 0) aj)) (tO hc (cH (bw (i:=3) nd rfl oi oi) (cH (bw (i:=4) nd rfl oi oi) (cH (bw (i:=5) nd rfl oi oi) (cH (bw (i:=6) nd rfl oi oi) n8))))) (xx rfl (fB _ _ (fB _ _ (fB _ _ (fB _ _ tK 6) 5) 4) 3)) (by lia;(· exists 2,aC bj (sv 2) (aC gF (sv 5) (tu rfl hc (by rfl) jD (fG aj (fG (aC dG (aC dG (aD (sv 1) (sv 4)) (aD (sv 1) (sv 3))) (sv 6)) aO rfl) rfl))));exact aF))
 lia;.exists(),sv 2
 exact aF
noncomputable abbrev s18:=top 22
noncomputable def b18:List S:=[.asg 2 (.lst [.lst [.con (.int 0)]]),.jw (.xj (.con (.int 1)) (.bin .sub (.var 0) (.con (.int 1)))) [3] true [.asg 4 (.lst []),.jw (.var 2) [5] true [.Hy 4 (.comp (.xj (.con (.int 0)) (.bin .add (.var 1) (.con (.int 2)))) 1 [6] true none (.bin .add (.var 5) (.lst [.var 6])))],.asg 2 (.var 4)],.ret (.comp (.var 2) 1 [6] true none (.bin .add (.var 6) (.lst [.bin .add (.var 1) (.con (.int 1))])))]
noncomputable def ZW:Fd:=⟨2,6,b18⟩
theorem abY:aM ["many","last","found","place","more","row"] ["many","last"] (az s18):=nofun
include cl in
theorem d18(Fu:jM K "_law_all_closed" "_law_all_closed" s18 f fd)(bY:mg "range"=none):cj Pg w K mg base jr (k+1) f fd ["many","last"] (jG K 2 (fun args=>enter c n ZW args)):=by
 exists Fu,abY,0,0;refine aY ?_ ?_;.exists 2,cg (fG (cg (fG aj aO rfl)) aO rfl)
 lia;.exists 3,zy rfl (by rfl) bY aj (aC dG (sv 0) aj),0;(· lia;(· exists 4,cg aO);(· lia;(· exists zQ (i:=5) ?_ ?_ ?_ ?_ ?_ ?_ ?_ ?_ ?_;exact PassesOwn.never;exact hc;exact nd;exact rfl;exact Or.inr rfl;exact cZ (sv 2);(· lia;exact Oh (k:=4) rfl (by first|exact Or.inl rfl|exact Or.inr (Or.inl rfl)) (gJ (N':=["many","last","found","place","more","row","hour"]) hc (Mm rfl (by rfl)) (uq rfl (by rfl) bY (aC bj (sv 1) aj)) (fun _ _ _ _ _=>bw (i:=6) ‹["many","last","found","place","more","row","hour"]› rfl (Or.inl rfl) (Or.inr rfl)) (dX (le_refl _)) (fun _ _ _ _ _=>gO) (fun _ _ _ _ _=>(aC bj (sv 5) (cg (fG (sv 6) aO rfl)))));exact aF);(· intro _;rfl);exact oi);(· lia;(· exists 2,sv 4);exact aF)))
 lia;.exists(),gJ (N':=["many","last","found","place","more","row#5","row"]) hc (Mm rfl (by rfl)) (cZ (sv 2)) (fun _ _ _ _ _=>bw (i:=6) ‹["many","last","found","place","more","row#5","row"]› rfl (Or.inl rfl) (Or.inr rfl)) (dX (le_refl _)) (fun _ _ _ _ _=>gO) (fun _ _ _ _ _=>(aC bj (sv 6) (cg (fG (aC bj (sv 1) aj) aO rfl))))
 exact aF
noncomputable abbrev s19:=top 23
noncomputable def b19:List S:=[.ret (.blt .CN [.comp (.call 18 [.idx (.var 0) (.con (.int 0)),.var 1]) 1 [2] true none (.call 17 [.var 0,.var 2])])]
noncomputable def YM:Fd:=⟨2,2,b19⟩
theorem abt:aM ["net","last"] ["net","last"] (az s19):=nofun
include cl in
theorem d19(Fu:jM K "_law_least_sum" "_law_least_sum" s19 f fd)(rP:mg "min"=none)(lE:aB Pg w K mg base k c 18 "_law_all_closed" 2)(yQ:aB Pg w K mg base k c 17 "_law_sum" 2):cj Pg w K mg base jr (k+1) f fd ["net","last"] (jG K 2 (fun args=>enter c n YM args)):=by
 exists Fu,abt,0,0;refine aY ?_ ?_;.exists(),Ad rfl hc (by rfl) rP (gJ (N':=["net","last","closed"]) hc (Mm rfl (by rfl)) (cZ (gR lE hr (bQ (aD (sv 0) aj) (bQ (sv 1) aJ rfl) rfl))) (fun _ _ _ _ _=>bw (i:=2) ‹["net","last","closed"]› rfl (Or.inl rfl) (Or.inr rfl)) (dX (le_refl _)) (fun _ _ _ _ _=>gO) (fun _ _ _ _ _=>(gR yQ hr (bQ (sv 0) (bQ (sv 2) aJ rfl) rfl))))
 exact aF
noncomputable abbrev s20:=top 24
noncomputable def b20:List S:=[.ret (.call 13 [.var 0,.idx (.lst [.con (.int 13),.con (.int 13),.con (.int 13),.con (.int 13),.con (.int 13),.con (.int 7),.con (.int 4)]) (.idx (.var 1) (.con (.int 0)))])]
noncomputable def Zb:Fd:=⟨2,2,b20⟩
theorem abD:aM ["pool","net"] ["pool","net"] (az s20):=nofun
include cl in
theorem d20(Fu:jM K "_law_few_hours" "_law_few_hours" s20 f fd)(bf:aB Pg w K mg base k c 13 "_law_next" 2):cj Pg w K mg base jr (k+1) f fd ["pool","net"] (jG K 2 (fun args=>enter c n Zb args)):=by
 exists Fu,abD,0,0;refine aY ?_ ?_;.exists(),gR bf hr (bQ (sv 0) (bQ (aD (cg (jf [13,13,13,13,13,7,4] rfl aO)) (aD (sv 1) aj)) aJ rfl) rfl)
 exact aF
noncomputable abbrev s21:=top 25
noncomputable def b21:List S:=[.ret (.and (.inst [.int] (.var 0)) (.and (.not (.inst [.bool] (.var 0))) (.cmp .eq (.var 0) (.var 1))))]
noncomputable def Zm:Fd:=⟨2,2,b21⟩
theorem abv:aM ["found","due"] ["found","due"] (az s21):=nofun
include cl in
theorem d21(Fu:jM K "_law_number_like" "_law_number_like" s21 f fd)(yR:mg "bool"=none)(HQ:mg "int"=none)(dH:mg "isinstance"=none):cj Pg w K mg base jr (k+1) f fd ["found","due"] (jG K 2 (fun args=>enter c n Zm args)):=by
 exists Fu,abv,0,0;refine aY ?_ ?_;.exists(),GK (uK .int rfl (by rfl) dH (sv 0) (by rfl) HQ (by kernel_rfl) (by decide) (by rfl)) (GK (Qi (uK .bool rfl (by rfl) dH (sv 0) (by rfl) yR (by kernel_rfl) (by decide) (by rfl))) (Ji (Nv (Qk (cG hr)) (sv 0) (sv 1) (dN _)))).ev
 exact aF
noncomputable abbrev s22:=top 26
noncomputable def b22:List S:=[.jw (.bin .add (.lst [.con (.int 0)]) (.call 14 [.var 0,.con (.int 8)])) [1] true [.asg 2 (.call 12 [.var 1]),.asg 3 (.call 16 [.var 2]),.asg 4 (.call 20 [.var 2,.var 3]),.jw (.blt .sset [.lst [.blt .max2 [.con (.int 0),.bin .sub (.var 4) (.con (.int 1))],.var 4,.con (.int 0)]]) [5] true [.asg 6 (.call 19 [.var 3,.var 5]),.ifs (.not (.call 21 [.call 11 [.var 3,.var 5],.var 6])) [.ret (.con (.bl false))] [],.ifs (.not (.call 21 [.call 11 [.var 3,.var 5],.var 6])) [.ret (.con (.bl false))] []]],.ret (.con (.bl true))]
noncomputable def Zv:Fd:=⟨1,7,b22⟩
theorem ab6:aM ["script","cell","pool","net","last","hour","due"] ["script"] (az s22):=nofun
include cl in
theorem d22(Fu:jM K "law" "law" s22 f fd)(jD:mg "max"=none)(Bf:mg "set"=none)(eO:mg "sorted"=none)(uG:aB Pg w K mg base k c 14 "_law_cells" 2)(mF:aB Pg w K mg base k c 20 "_law_few_hours" 2)(mG:aB Pg w K mg base k c 19 "_law_least_sum" 2)(yS:aB Pg w K mg base k c 16 "_law_net" 1)(eU:aB Pg w K mg base k c 21 "_law_number_like" 2)(wX:aB Pg w K mg base k c 12 "_law_pool" 1)(rQ:aB Pg w K mg base k c 11 "most_by" 2):cj Pg w K mg base jr (k+1) f fd ["script"] (jG K 1 (fun args=>enter c n Zv args)):=by
 exists Fu,ab6,0,0;refine aY ?_ ?_;.exists 1,cZ (aC bj (cg (fG aj aO rfl)) (gR uG hr (bQ (sv 0) (bQ aj aJ rfl) rfl))),0;(· lia;(· exists 2,gR wX hr (bQ (sv 1) aJ rfl));(· lia;(· exists 3,gR yS hr (bQ (sv 2) aJ rfl));(· lia;(· exists 4,gR mF hr (bQ (sv 2) (bQ (sv 3) aJ rfl) rfl));(· lia;(· exists 5,cZ (IV rfl rfl hc (by rfl) eO (by rfl) Bf (cg (fG (tu rfl hc (by rfl) jD (fG aj (fG (aC dG (sv 4) aj) aO rfl) rfl)) (fG (sv 4) (fG aj aO rfl) rfl) rfl))),0;(· lia;(· exists 6,gR mG hr (bQ (sv 3) (bQ (sv 5) aJ rfl) rfl));(· lia;(· exists rM ?_ ?_ ?_;exact Fo (lX (gR eU hr (bQ (gR rQ hr (bQ (sv 3) (bQ (sv 5) aJ rfl) rfl)) (bQ (sv 6) aJ rfl) rfl)));(· lia;(· exists(),rm);exact aF);exact aF);(· lia;(· exists rM ?_ ?_ ?_;exact Fo (lX (gR eU hr (bQ (gR rQ hr (bQ (sv 3) (bQ (sv 5) aJ rfl) rfl)) (bQ (sv 6) aJ rfl) rfl)));(· lia;(· exists(),rm);exact aF);exact aF);exact aF))));exact aF))))
 lia;.exists(),rm
 exact aF
end T
end
section
namespace T
open PySem L2 PySem.Spec PyProof.Rows HH
noncomputable def Γ:Tab:=fun i=>[f0,f1,f2,f3,f4,f5,f6,f7,f8,f9,Y6,f11,Zk,YK,ZD,Yg,Yq,Zw,ZW,YM,Zb,Zm,Zv][i]?
end T
end
section
namespace T
open HH
local macro_rules|`(tactic|symm)=>`(tactic|first|apply ak|apply Cz)
noncomputable abbrev big:Int:=1606938044258990275541962092341162602522202993782792835301376
theorem cB{w n:Nat}{x y z m:Int}{Q:R->List Sl->Prop}(h0:0<m)(h2:m<big)(k:∀d x z:Int,0<=d->d<m->Q (.val (.int d)) [.own true [.int x,.int y,.int z],.val false (.int m)]):(run Γ w (n+1) 13 [.own true [.int x,.int y,.int z],.val false (.int m)]).sat Q:=by
 have h3:m<1606938044258990275541962092341162602522202993782792835301376:=h2;refine aU (d:=YK) rfl rfl (by decide) ?_;symm;simp[YK];constructor;.intro _;symm;simp[h0];apply ak;simp[h0,h3,gB];apply ak;simp;exact k _ _ _ (Int.emod_nonneg _ (by omega)) (Int.emod_lt_of_pos _ h0)
 . intro _;symm;simp[gB];apply ak;simp;generalize hq:(y+7919*(z+1))%1000000007=q;have q0:0<=q/\q<1000000007:=by omega
   have q1:-18446744073709551616<q+11/\q+11<18446744073709551616:=by omega
   symm;simp[q1];generalize hs:(q+11)*(q+48271)%998244353=st;have q2:-18446744073709551616<st/\st<18446744073709551616:=by omega
   symm;simp[q2,h0];exact k _ _ _ (Int.emod_nonneg _ (by omega)) (Int.emod_lt_of_pos _ h0)
theorem Gu{w n:Nat}{x:Int}{Q:R->List Sl->Prop}(k:∀a b c:Int,Q (.own [.int a,.int b,.int c]) [.val false (.int x)]):(run Γ w (n+1) 12 [.val false (.int x)]).sat Q:=by refine aU (d:=Zk) rfl rfl (by decide) ?_;symm;simp[Zk];exact k _ _ _
theorem yw{cs:List Int}{k m:Nat}{x:Int}(hm:0<m)(hl:cs.length=m):∃c:Int,at' (cs.map D.int) ((k:Int)%(m:Int))=some (.int c)/\gB (cs.map D.int).length ((k:Int)%(m:Int))=some (k%m):=by
 have h:k%m<cs.length:=by rw[hl];exact mod_lt _ hm
 rw[show(k:Int)%(m:Int)=((k%m:Nat):Int)by simp];exact⟨cs[k%m],iG (by simp[h]),RL (by simpa using h)⟩
inductive JC(ns:List Int)(m:Nat)(_:Nat)(ρ:List Sl):Prop where|mk(cs:List Int)(s:Sl)(q0:ρ=[.val false (.lst (ns.map D.int)),.val false (.int m),.own false (cs.map D.int),s])(q1:fr s=true)(q2:cs.length=min m ns.length)
theorem Bv{w n m:Nat}{ns:List Int}{Q:R->List Sl->Prop}(hm:0<m)(hm2:m<=63)(hn:ns.length<=63)(k:∀cs:List Int,cs.length<=m->Q (.own (cs.map D.int)) [.val false (.lst (ns.map D.int)),.val false (.int m)]):(run Γ w (n+1) 14 [.val false (.lst (ns.map D.int)),.val false (.int m)]).sat Q:=by
 refine aU (d:=ZD) rfl rfl (by decide) ?_;symm;simp[ZD,LQ,part,R1];apply ak;simp;refine⟨by omega,?_⟩;refine p6 (JC ns m) ?_ ?_ ⟨ns.take m,.aP,?_,rfl,by simp⟩
 . rintro i _ hi⟨cs,s,rfl,hs,hl⟩;have hl2:cs.length=m:=by omega
   obtain⟨c,e1,e2⟩:=yw (cs:=cs) (k:=i) (x:=0) hm hl2;obtain⟨x,hx⟩:∃x:Int,at' (ns.map D.int) ((m:Int)+(i:Int))=some (.int x):=by rw[show(m:Int)+(i:Int)=((m+i:Nat):Int)by simp];exact⟨ns[m+i]'(by omega),iG (by simp)⟩
   simp[hs];apply ak;rw[length_map]at e2;simp[hm,e1,e2,hx];exact⟨cs.set (i%m) (c*31+x),.val false (.int (m+i)),by simp,rfl,by simpa using hl⟩
 .rintro _⟨cs,s,rfl,hs,hl⟩;symm;simp;exact k cs (by omega)
 .simp[cut,cF,List.map_take]
theorem yG{w n m:Nat}{M:Int}{ns:List Int}{Q:R->List Sl->Prop}(hM:M=(m:Int))(hm:0<m)(hm2:m<=63)(hn:ns.length<=63)(k:∀cs:List Int,cs.length<=m->Q (.own (cs.map D.int)) [.val false (.lst (ns.map D.int)),.val false (.int M)]):(run Γ w (n+1) 14 [.val false (.lst (ns.map D.int)),.val false (.int M)]).sat Q:=by subst hM;exact Bv hm hm2 hn k
structure Wy where(s t r h:Int)
noncomputable def Wy.d(w:Wy):D:=.tup [.int w.s,.int w.t,.int w.r,.int w.h]
structure Wy.Ok(m:Int)(w:Wy):Prop where
 s0:0<=w.s
 s1:w.s<m
 t0:0<=w.t
 t1:w.t<m
 ne:w.s≠w.t
 r0:0<=w.r
 r1:w.r<=1000000000
 h0:1<=w.h
 h1:w.h<=1000000
theorem other{a b m:Int}(h1:0<=a)(h2:a<m)(h3:0<=b)(h4:b<m-1):0<=(a+1+b)%m/\(a+1+b)%m<m/\(a+1+b)%m≠a:=by
 by_cases h:a+1+b<m;.rw[Int.emod_eq_of_lt (by omega) h];omega
 . have e:(a+1+b)%m=a+1+b-m:=by rw[<-Int.sub_emod_right,Int.emod_eq_of_lt (by omega) (by omega)]
   rw[e];omega
theorem aat(w:Wy):cJ 7 w.d=true:=rfl
theorem YB{ds:List D}{k:Nat}(h:∀d∈ds,cJ k d=true):cJ (k+1) (.lst ds)=true:=by rw[cJ];exact all_eq_true.mpr h
theorem V9{ds:List D}{k:Nat}(h:∀d∈ds,cJ k d=true):cJ (k+1) (.tup ds)=true:=by rw[cJ];exact all_eq_true.mpr h
noncomputable def bD(m:Int)(ws:List Wy):D:=.tup [.int m,.tup (ws.map Wy.d)]
structure qR(m:Int)(ws:List Wy):Prop where
 m0:2<=m
 m1:m<=6
 len:ws.length<=12
 ok:∀w∈ws,w.Ok m
@[simp]theorem adv{m:Int}{ws:List Wy}:Ku (bD m ws) (.int 0)=some (.val (.int m)):=rfl
@[simp]theorem ac4{m:Int}{ws:List Wy}:Ku (bD m ws) (.int 1)=some (.val (.tup (ws.map Wy.d))):=rfl
theorem wL{ns:List Int}{i lo hi:Int}(h0:0<=i)(h1:i<(ns.length:Int))(k:∀x∈ns,lo<=x/\x<=hi):∃r,at' (ns.map D.int) i=some (.int r)/\lo<=r/\r<=hi:=by
 have hk:i.toNat<ns.length:=by omega
 refine⟨ns[i.toNat],?_,k _ (getElem_mem hk)⟩;rw[oO h0 (by simpa using h1)];simp[hk]
theorem xY{a:Int}(h:a<=1000000000000000000000):a<big:=by show _<(1606938044258990275541962092341162602522202993782792835301376:Int);omega
noncomputable abbrev Po(b:Bool)(x y z:Int):Sl:=.own b [.int x,.int y,.int z]
theorem Kr{w n:Nat}{x y z m p:Int}{Q:R->List Sl->Prop}(h0:2<=m)(h2:m<=6)(p0:0<=p)(k:∀(v:Wy)(x z:Int),v.Ok m->v.r<=9->v.h<=4->Q (.val v.d) [.own true [.int x,.int y,.int z],.val false (.int m),.val false (.int p)]):(run Γ w (n+2) 15 [.own true [.int x,.int y,.int z],.val false (.int m),.val false (.int p)]).sat Q:=by
 refine aU (d:=Yg) rfl rfl (by decide) ?_;symm;simp[Yg];refine cB (by omega) (xY (by omega)) fun a x z ha1 ha2=>?_;simp;apply ak;simp;refine cB (by omega) (xY (by omega)) fun b x z hb1 hb2=>?_;obtain⟨t0,t1,tn⟩:=other ha1 ha2 hb1 hb2;simp[show 0<m by omega];generalize(a+1+b)%m=t at*;refine dC (fun ρ=>∃x z s t,ρ=[.own true [.int x,.int y,.int z],.val false (.int m),.val false (.int p),.val false (.int s),.val false (.int t),.aP]/\0<=s/\s<m/\0<=t/\t<m/\s≠t) ?_ ?_
 . by_cases hp:p+1<m
   . simp[hp];refine cB (by decide) (by decide) fun c x z _ _=>?_;simp;refine⟨fun _=>?_,fun _=>?_⟩;.symm;simp;exact⟨_,_,_,_,⟨⟨rfl,rfl⟩,rfl,rfl⟩,by omega⟩
     . symm;by_cases hab:t<a
       . simp[hab];refine cB (by decide) (by decide) fun c x z _ _=>?_;simp;refine⟨fun _=>?_,fun _=>?_⟩;.symm;simp;exact⟨_,_,_,_,⟨⟨rfl,rfl⟩,rfl,rfl⟩,by omega⟩
         .exact⟨_,_,_,_,⟨⟨rfl,rfl⟩,rfl,rfl⟩,by omega⟩
       .simp[hab];exact⟨_,_,_,_,⟨⟨rfl,rfl⟩,rfl,rfl⟩,by omega⟩
   . simp[hp];symm;by_cases hab:t<a
     . simp[hab];refine cB (by decide) (by decide) fun c x z _ _=>?_;simp;refine⟨fun _=>?_,fun _=>?_⟩;.symm;simp;exact⟨_,_,_,_,⟨⟨rfl,rfl⟩,rfl,rfl⟩,by omega⟩
       .exact⟨_,_,_,_,⟨⟨rfl,rfl⟩,rfl,rfl⟩,by omega⟩
     .simp[hab];exact⟨_,_,_,_,⟨⟨rfl,rfl⟩,rfl,rfl⟩,by omega⟩
 rintro _⟨x,z,s,t,rfl,s0,s1,t0,t1,ne⟩;symm;simp;refine cB (by decide) (by decide) fun c x z c0 c1=>?_;simp;refine cB (by decide) (by decide) fun d x z d0 d1=>?_;obtain⟨r,e,r0,r1⟩:=wL (ns:=[1,2,3,5,0,1,4,1+c]) (lo:=0) (hi:=9) d0 (by simpa using d1) (by simp;omega);simp only[map_cons,map_nil]at e;simp[e];apply ak;simp;refine cB (by decide) (by decide) fun d x z d0 d1=>?_;obtain⟨h,e,h0',h1⟩:=wL (ns:=[1,1,1,2,2,3,1,4]) (lo:=1) (hi:=4) d0 (by simpa using d1) (by simp);simp only[map_cons,map_nil]at e;simp[e];exact k ⟨s,t,r,h⟩ x z ⟨s0,s1,t0,t1,ne,r0,by show r<=_;omega,h0',by show h<=_;omega⟩ r1 h1
inductive FN(y m c:Int)(ρ:List Sl):Prop where|mk(x z:Int)(s:Sl)(q0:ρ=[.own true [.int x,.int y,.int z],.val false (.int m),.val false (.int c),s])(q1:fr s=true)
def WyP(m:Int)(d:D):Prop:=∃v:Wy,d=v.d/\v.Ok m/\v.r<=9/\v.h<=4
theorem wys{m:Int}:∀{xs:List D},(∀x∈xs,WyP m x)->∃ws:List Wy,xs=ws.map Wy.d/\∀v∈ws,v.Ok m/\v.r<=9/\v.h<=4|[],_=>⟨[],rfl,by simp⟩|x::xs,h=>by obtain⟨v,rfl,h1⟩:=h x (by simp);obtain⟨ws,rfl,h2⟩:=wys (m:=m) (xs:=xs) fun y hy=>h y (by simp[hy]);exact⟨v::ws,rfl,fun u hu=>by
    rcases mem_cons.mp hu with rfl|hu;.exact h1
    .exact h2 u hu⟩
theorem Jj{w n:Nat}{x y z:Int}{Q:R->List Sl->Prop}(k:∀(m:Int)(ws:List Wy)(x z:Int),qR m ws->(∀v∈ws,v.r<=9/\v.h<=4)->Q (.val (bD m ws)) [.own true [.int x,.int y,.int z]]):(run Γ w (n+3) 16 [.own true [.int x,.int y,.int z]]).sat Q:=by
 refine aU (d:=Yq) rfl rfl (by decide) ?_;symm;simp[Yq];refine cB (by decide) (by decide) fun d x z d0 d1=>?_;obtain⟨m,e,m0,m1⟩:=wL (ns:=[3,4,3,4,2,5,6,4]) (lo:=2) (hi:=6) d0 (by simpa using d1) (by simp);simp only[map_cons,map_nil]at e;simp[e];apply ak;simp;refine cB (by decide) (by decide) fun d x z d0 d1=>?_;obtain⟨c,e,c0,c1⟩:=wL (ns:=[5,3,4,6,2,7,8,10,12,1,0,5]) (lo:=0) (hi:=12) d0 (by simpa using d1) (by simp);simp only[map_cons,map_nil]at e;simp[e];apply ak;simp;refine⟨by omega,fun _=>?_,by show _<=16777216;omega⟩;refine Bl (FN y m c) (WyP m) ⟨x,z,.aP,rfl,rfl⟩ ?_ ?_;.rintro d hd _⟨x,z,s,rfl,hs⟩;obtain⟨j,_,rfl⟩:=mem_map.mp hd;simp[hs];refine Kr m0 m1 (by omega) fun v x z hv hr hh=>?_;simp;exact⟨⟨v,rfl,hv,hr,hh⟩,_,_,_,rfl,rfl⟩
 .rintro xs _⟨x,z,s,rfl,hs⟩hl hx;obtain⟨ws,rfl,hw⟩:=wys hx;simp at hl;simp;exact k m ws x z ⟨m0,m1,by omega,fun v hv=>(hw v hv).1⟩ fun v hv=>(hw v hv).2
noncomputable def dq(j:Nat)(f:Bool):D:=.tup [.int j,.bl f]
noncomputable def frm(v:Wy)(f:Bool):Int:=if f then v.s else v.t
noncomputable def too(v:Wy)(f:Bool):Int:=if f then v.t else v.s
theorem jL{w n j:Nat}{f:Bool}{m:Int}{ws:List Wy}{v:Wy}{Q:R->List Sl->Prop}(e:ws[j]?=some v)(k:Q (.val (.tup [.int (frm v f),.int (too v f)])) [.val false (bD m ws),.val false (dq j f)]):(run Γ w (n+1) 0 [.val false (bD m ws),.val false (dq j f)]).sat Q:=by refine aU (d:=f0) rfl rfl (by decide) ?_;symm;simp[f0,dq,iG e];apply ak;cases f with|true=>simp[Wy.d];exact k|false=>simp[Wy.d];exact k
noncomputable def hsp(v:Wy)(f:Bool):Int:=if f then v.h else-v.h
theorem qZ{w n j:Nat}{f:Bool}{m:Int}{ws:List Wy}{v:Wy}{Q:R->List Sl->Prop}(e:ws[j]?=some v)(k:Q (.val (.int (hsp v f))) [.val false (bD m ws),.val false (dq j f)]):(run Γ w (n+1) 1 [.val false (bD m ws),.val false (dq j f)]).sat Q:=by refine aU (d:=f1) rfl rfl (by decide) ?_;symm;simp[f1,dq,iG e,Wy.d];apply ak;cases f with|true=>simp;exact k|false=>simp;exact k
def YX(s:Sl)(fs:List Int):Prop:=s=.val false (.lst (fs.map D.int))\/∃b,s=.own b (fs.map D.int)
noncomputable def wY(v:Wy)(g:Int)(f:Bool):Int:=if f then v.r-g else g
theorem qL{w n j:Nat}{f:Bool}{s:Sl}{m g:Int}{ws:List Wy}{fs:List Int}{v:Wy}{Q:R->List Sl->Prop}(hs:YX s fs)(e:ws[j]?=some v)(eg:fs[j]?=some g)(k:Q (.val (.int (wY v g f))) [.val false (bD m ws),s,.val false (dq j f)]):(run Γ w (n+1) 2 [.val false (bD m ws),s,.val false (dq j f)]).sat Q:=by refine aU (d:=f2) rfl rfl (by decide) ?_;symm;rcases hs with rfl|⟨b,rfl⟩;all_goals simp[f2,dq,iG eg];apply ak;cases f with|true=>simp[iG e,Wy.d];exact k|false=>simp;exact k
@[simp]theorem ZR{c:Call}{n x k:Nat}{src elt:P}{is:List Nat}{one:Bool}{ρ:List Sl}:ex c n (.HB x src k is one elt) ρ=(srcOf (isVar src) (ev c src) ρ).bind fun ds ρ₁=>if ds.length<=lim then(dw is one (ev c elt) ds [] (ρ₁++replicate k .aP)).bind fun rows ρ₂=>(lift (put (aQ ρ (isVar src) (ρ₂.take ρ₁.length)) x (.hold rows)) ρ).bind fun ρ' _=>.ok .next ρ' else .stuck:=(rfl)
@[simp]theorem Zg{c:Call}{n:Nat}{src:P}{is:List Nat}{one:Bool}{body:List S}{ρ:List Sl}:ex c n (.CQ src is one body) ρ=(ev c src ρ).bind fun r ρ₁=>(lift (items r.d) ρ₁).bind fun ds ρ₁=>fO is one (eX c n body) ds ρ₁:=(rfl)
@[simp]theorem aak{c:Call}{n x:Nat}{ρ:List Sl}:ex c n (.cC x) ρ=match ρ[x]?with|some (.hold rows)=>.ok .next (ρ.set x (.val false (.lst (rows.map D.lst))))|_=>.stuck:=(rfl)
@[simp]theorem Yn{c:Call}{n x:Nat}{i e:P}{ρ:List Sl}:ex c n (.HD x i e) ρ=(bN (isVar i) (ev c i) ρ).bind fun k ρ=>(lift (sY ρ x k) ρ).bind fun _ ρ=>(ev c e ρ).bind fun r ρ=>BX ρ x ((gQ ρ x).bind fun rows=>(gA k).bind fun k=>iR rows k fun row=>if row.length<lim then some (row++[r.d])else none):=(rfl)
@[simp]theorem Yk{a:Sl}{l:List Sl}{x:Nat}:gQ (a::l) x=match(a::l)[x]?with|some (.hold rows)=>some rows|_=>none:=rfl
@[simp]theorem Ua{ρ:List Sl}{x:Nat}{rows:List (List D)}:BX ρ x (some rows)=.ok .next (ρ.set x (.hold rows)):=rfl
@[simp]theorem acd{a:Sl}{l:List Sl}{x:Nat}{k:Int}:sY (a::l) x (.int k)=match(a::l)[x]?with|some (.hold rows)=>rowAt rows k|_=>none:=by unfold sY gQ;cases h:(a::l)[x]?with|none=>rfl|some s=>cases s<;>rfl
theorem pD{is:List Nat}{one:Bool}{elt:Ev}(J:List Sl->Prop)(g:D->List D){Q:List (List D)->List Sl->Prop}:∀{ds:List D}{acc:List (List D)}{ρ:List Sl},J ρ->(∀d,d∈ds->∀ρ,J ρ->∃ρ1,bI ρ is one d=some ρ1/\(elt ρ1).sat fun r ρ3=>r=.own (g d)/\J ρ3)->(∀ρ,J ρ->Q (acc++ds.map g) ρ)->(dw is one elt ds acc ρ).sat Q|[],acc,ρ,j,h,k=>by rw[dw];simpa using k ρ j|d::r,acc,ρ,j,h,k=>by obtain⟨ρ1,e,h1⟩:=h d (by simp) ρ j;rw[dw,e];show((elt ρ1).bind _).sat Q;rw[bu];refine h1.imp fun x ρ3⟨e1,j3⟩=>?_;subst e1;exact pD J g j3 (fun d' hd'=>h d' (by simp[hd'])) fun ρ' j'=>by simpa using k ρ' j'
@[simp]theorem aav{c:Call}{x:Nat}{k:P}{ρ:List Sl}:ev c (.M8 x k) ρ=match ρ[x]?with
 |some (.bW _)=>(bN (isVar k) (ev c k) ρ).bind fun kd ρ=>match ρ[x]?with|some (.bW kvs)=>lift ((gA kd).bind fun k=>(lK kvs k).map .val) ρ|_=>.stuck
 |_=>.stuck:=(rfl)
noncomputable def ql(kvs:List (Int×D))(k:Int):Bool:=(kvs.map (·.1)).contains k
noncomputable def Ib(kvs:List (Int×D)):List Int:=kvs.map (·.1)
noncomputable def dsV(kvs:List (Int×D)):List D:=kvs.map (·.2)
@[simp]theorem ab9{c:Call}{x:Nat}{k:P}{neg:Bool}{ρ:List Sl}:ev c (.M9 x k neg) ρ=(bN (isVar k) (ev c k) ρ).bind fun kd ρ=>match ρ[x]?with|some (.bW kvs)=>lift ((gA kd).map fun k=>.val (.bl (if neg then !ql kvs k else ql kvs k))) ρ|_=>.stuck:=(rfl)
@[simp]theorem YD{c:Call}{k e:Int}{ρ:List Sl}:ev c (.yJ k e) ρ=.ok (.val (.dv [k] [.int e])) ρ:=(rfl)
@[simp]theorem adP{c:Call}{x:Nat}{ρ:List Sl}:ev c (.vw x) ρ=match ρ[x]?with|some (.eY m)=>.ok (.val (.cN m)) (ρ.set x (.val false (.cN m)))|some (.bW kvs)=>.ok (.val (.dv (Ib kvs) (dsV kvs))) (ρ.set x (.val false (.dv (Ib kvs) (dsV kvs))))|_=>.stuck:=(rfl)
@[simp]theorem Ze{c:Call}{n x:Nat}{ρ:List Sl}:ex c n (.CT x) ρ=match ρ[x]?with|some .aP=>.ok .next (ρ.set x (.bW []))|some (.bW _)=>.ok .next (ρ.set x (.bW []))|some (.val false _)=>.ok .next (ρ.set x (.bW []))|_=>.stuck:=(rfl)
@[simp]theorem Ym{c:Call}{n x:Nat}{k e:P}{ρ:List Sl}:ex c n (.fH x k e) ρ=(ev c e ρ).bind fun r ρ=>match ρ[x]?with
 |some (.bW _)=>(bN (isVar k) (ev c k) ρ).bind fun kd ρ=>match ρ[x]?,kd with|some (.bW kvs),.int k=>if kvs.length<lim then .ok .next (ρ.set x (.bW (fH kvs k r.d)))else .stuck|_,_=>.stuck
 |_=>.stuck:=(rfl)
@[simp]theorem ZK{c:Call}{n x:Nat}{i e:P}{sub:Bool}{ρ:List Sl}:ex c n (.Hx x i sub e) ρ=(lift (yF ρ x) ρ).bind fun _ ρ=>(bN (isVar i) (ev c i) ρ).bind fun k ρ=>(lift (yF ρ x) ρ).bind fun l ρ=>(lift ((gA k).bind fun i=>at' l i) ρ).bind fun a ρ=>(bN (isVar e) (ev c e) ρ).bind fun b ρ=>match a,b,ρ[x]?,k with
 |.int u,.int v,some (.own bb ds),.int k=>match gB ds.length k with|some j=>.ok .next (ρ.set x (.own bb (ds.set j (.int (if sub then u-v else u+v)))))|none=>.stuck
 |_,_,_,_=>.stuck:=(rfl)
@[simp]theorem Uu{x:Nat}{k:P}:isVar (.M8 x k)=none:=rfl
@[simp]theorem T8{x:Nat}{k:P}{b:Bool}:isVar (.M9 x k b)=none:=rfl
@[simp]theorem VL{x:Nat}:isVar (.vw x)=none:=rfl
@[simp]theorem Qh{k e:Int}:isVar (.yJ k e)=none:=rfl
@[simp]theorem abW{kvs:List (Int×D)}:fr (.bW kvs)=false:=rfl
@[simp]theorem Y0{r:List (List D)}:fr (.hold r)=false:=rfl
@[simp]theorem Vk:qm .CK=zK:=rfl
@[simp]theorem Zn:qm .Z5=wC false:=rfl
@[simp]theorem Xa{ks:List Int}{ds:List D}{k:Int}:zK (.dv ks ds) (.int k)=(lK (ks.zip ds) k).map .val:=rfl
@[simp]theorem Yl{ks:List Int}{ds:List D}{k:Int}:wC false (.int k) (.dv ks ds)=some (.val (.bl (ks.contains k))):=rfl
@[simp]theorem Ux{ks:List Int}{ds:List D}:blt .keys [.dv ks ds]=some (.val (.tup (ks.map D.int))):=rfl
@[simp]theorem Zr{ks:List Int}{ds:List D}:blt .Uz [.dv ks ds]=if ks.length<=16777216 then some (.own (ks.map D.int))else none:=rfl
@[simp]theorem ZC{ds:List D}:blt .Z6 [.lst ds]=some (.val (.tup ds.reverse)):=rfl
@[simp]theorem Sq{kvs:List (Int×D)}{x:Option Sl}:cU (.bW kvs) x=.bW kvs:=by cases x<;>rfl
@[simp]theorem Pa{r:List (List D)}{x:Option Sl}:cU (.hold r) x=.hold r:=by cases x<;>rfl
structure HN(m:Int)(ws:List Wy):Prop where
 m0:2<=m
 m1:m<=6
 len:ws.length<=12
 ok:∀w∈ws,(0<=w.s/\w.s<m)/\(0<=w.t/\w.t<m)/\0<=w.h
theorem HN.of{m:Int}{ws:List Wy}(h:qR m ws):HN m ws:=⟨h.m0,h.m1,h.len,fun w hw=>by have:=h.ok w hw;exact⟨⟨this.s0,this.s1⟩,⟨this.t0,this.t1⟩,by have:=this.h0;omega⟩⟩
noncomputable abbrev aq:=Nat×Bool
noncomputable def sD(s:aq):D:=dq s.1 s.2
noncomputable def jX(ws:List Wy)(fs:List Int)(p:Int)(s:aq):Bool:=match ws[s.1]?,fs[s.1]?with|some v,some g=>decide (frm v s.2=p)&&decide (0<wY v g s.2)|_,_=>false
theorem pL{ws:List Wy}{fs:List Int}{p:Int}{s:aq}{v:Wy}{g:Int}(e:ws[s.1]?=some v)(e2:fs[s.1]?=some g):jX ws fs p s=(decide (frm v s.2=p)&&decide (0<wY v g s.2)):=by unfold jX;rw[e,e2]
noncomputable def jR(ws:List Wy)(fs:List Int)(M:Nat)(l:List aq):List (List aq):=(List.range M).map fun(p:Nat)=>l.filter (jX ws fs (p:Int))
noncomputable def rD(l:List (List aq)):List (List D):=l.map fun r=>r.map sD
noncomputable def gj(N:Nat):List aq:=(List.range N).flatMap fun j=>[(j,true),(j,false)]
theorem qP{N:Nat}:gj (N+1)=(gj N++[(N,true)])++[(N,false)]:=by simp[gj,List.range_succ]
theorem Dt{N:Nat}:(gj N).length=2*N:=by induction N with|zero=>rfl|succ N ih=>rw[qP];simp[ih];omega
theorem Nz{m:Int}{ws:List Wy}(h:HN m ws){j:Nat}{v:Wy}(e:ws[j]?=some v)(f:Bool):0<=frm v f/\frm v f<m:=by have:=h.ok v (mem_of_getElem? e);cases f<;>simp only[frm]<;>simp<;>omega
theorem EY{m:Int}{ws:List Wy}(h:HN m ws){j:Nat}{v:Wy}(e:ws[j]?=some v)(f:Bool):0<=too v f/\too v f<m:=by have:=h.ok v (mem_of_getElem? e);cases f<;>simp only[too]<;>simp<;>omega
theorem Dy{ws:List Wy}{fs:List Int}{M:Nat}{l:List aq}{s:aq}{v:Wy}{g:Int}(e:ws[s.1]?=some v)(e2:fs[s.1]?=some g)(h:¬ 0<wY v g s.2):jR ws fs M (l++[s])=jR ws fs M l:=by unfold jR;refine map_congr_left fun p _=>?_;rw[List.filter_append];simp[pL e e2,h]
theorem JQ{ws:List Wy}{fs:List Int}{m:Int}{l:List aq}{s:aq}{v:Wy}{g:Int}(e:ws[s.1]?=some v)(e2:fs[s.1]?=some g)(h:0<wY v g s.2)(hp:0<=frm v s.2/\frm v s.2<m)(hl:l.length<1000):(∃row,rowAt (rD (jR ws fs m.toNat l)) (frm v s.2)=some row)/\iR (rD (jR ws fs m.toNat l)) (frm v s.2) (fun row=>if row.length<lim then some (row++[sD s])else none)=some (rD (jR ws fs m.toNat (l++[s]))):=by
 have hlen:(rD (jR ws fs m.toNat l)).length=m.toNat:=by simp[rD,jR]
 have hx:gB (rD (jR ws fs m.toNat l)).length (frm v s.2)=some (frm v s.2).toNat:=by unfold gB;rw[hlen,if_pos hp.1,if_pos (by omega)]
 have hg:(rD (jR ws fs m.toNat l))[(frm v s.2).toNat]?=some ((l.filter (jX ws fs (frm v s.2))).map sD):=by simp[rD,jR,show(frm v s.2).toNat<m.toNat by omega,Int.toNat_of_nonneg hp.1]
 refine⟨⟨_,by unfold rowAt;rw[hx];exact hg⟩,?_⟩;unfold iR;rw[hx];show((rD (jR ws fs m.toNat l))[(frm v s.2).toNat]?).bind _=_;rw[hg];have hq:((l.filter (jX ws fs (frm v s.2))).map sD).length<lim:=by have:=List.length_filter_le (jX ws fs (frm v s.2)) l;rw[length_map];show _<16777216;omega
 show Option.map _ (if _ then _ else _)=_;rw[if_pos hq];show some _=some _;congr 1;refine ext_getElem (by simp[rD,jR]) fun i h2 h3=>?_;rw[List.getElem_set];by_cases c:(frm v s.2).toNat=i
 . rw[if_pos c];have:(i:Int)=frm v s.2:=by omega
   simp[rD,jR,this,List.filter_append,pL e e2,h]
 . rw[if_neg c];have:¬ frm v s.2=(i:Int):=by omega
   simp[rD,jR,List.filter_append,pL e e2,this]
inductive JOp(m:Int)(ws:List Wy)(fs:List Int)(s:Sl)(i:Nat)(ρ:List Sl):Prop where|mk(s3 s4:Sl)(q0:ρ=[.val false (bD m ws),s,.hold (rD (jR ws fs m.toNat (gj i))),s3,s4])(q1:fr s3=true)(q2:fr s4=true)
inductive JOq(m:Int)(ws:List Wy)(fs:List Int)(s:Sl)(i:Nat)(r:List D)(ρ:List Sl):Prop where|mk(l us:List aq)(s4:Sl)(q0:ρ=[.val false (bD m ws),s,.hold (rD (jR ws fs m.toNat l)),.val false (.int i),s4])(q1:fr s4=true)(q2:r=us.map sD)(q3:l++us=gj (i+1))(q4:∀u∈us,u.1=i)
inductive F1n(a b c d e:Sl)(ρ:List Sl):Prop where|mk(s:Sl)(q0:ρ=[a,b,c,d,e,s])(q1:fr s=true)
theorem Dg{w n:Nat}{s:Sl}{m:Int}{ws:List Wy}{fs:List Int}{Q:R->List Sl->Prop}(hs:YX s fs)(h:HN m ws)(hf:fs.length=ws.length)(k:Q (.val (.lst ((rD (jR ws fs m.toNat (gj ws.length))).map D.lst))) [.val false (bD m ws),s]):(run Γ w (n+2) 4 [.val false (bD m ws),s]).sat Q:=by
 have hn:=h.len;have m0:=h.m0;have m1:=h.m1;refine aU (d:=f4) rfl rfl (by decide) ?_;refine dC (fun ρ=>ρ=[.val false (bD m ws),s,.hold (rD (jR ws fs m.toNat (gj 0))),.aP,.aP]) ?_ ?_
 . simp[f4,show m<=1000000000 by omega,show-1000000000<=m by omega];refine⟨fun _=>?_,by omega⟩;rw[bu];refine pD (F1n _ _ _ _ _) (fun _=>[]) ⟨.aP,rfl,rfl⟩ ?_ ?_;.rintro d hd _⟨s',rfl,hs'⟩;simp[hs'];exact⟨_,rfl,rfl⟩
   .rintro _⟨s',rfl,hs'⟩;simp[rD,jR,gj]
 rintro _ rfl;refine dC (JOp m ws fs s ws.length) ?_ ?_
 . simp[show(ws.length:Int)<=1000000000 by omega];refine p6 (JOp m ws fs s) ?_ ?_ ⟨.aP,.aP,rfl,rfl,rfl⟩
   . rintro i _ hi⟨s3,s4,rfl,h3,h4⟩;have hi2:i<fs.length:=by omega
     have e1:ws[i]?=some ws[i]:=by simp[hi]
     have e2:fs[i]?=some fs[i]:=by simp[hi2]
     generalize ws[i]=v at*;generalize fs[i]=g at*;simp[h3];apply ak;simp;refine bG (JOq m ws fs s i) ?_ ?_ ⟨gj i,[(i,true),(i,false)],s4,rfl,h4,rfl,by rw[qP];simp,by simp⟩;.rintro d r _⟨l,us,s4,rfl,h4,hr,hl,hu⟩;cases us with|nil=>cases hr|cons u us=>
         obtain⟨rfl,rfl⟩:d=sD u/\r=us.map sD:=by simpa using hr
         obtain rfl:=hu u (by simp);have hl2:(l++[u])++us=gj (u.1+1):=by rw[append_assoc];exact hl
         have hll:l.length<1000:=by have:=congrArg List.length hl;rw[Dt]at this;simp at this;omega
         simp[h4];apply ak;rcases hs with rfl|⟨b,rfl⟩;all_goals
          simp[sD];refine qL (by first|exact .inl rfl|exact .inr ⟨_,rfl⟩) e1 e2 ?_;simp;refine⟨fun ho=>?_,fun ho=>?_⟩;.obtain⟨⟨row,q1⟩,q2⟩:=JQ (ws:=ws) (fs:=fs) (l:=l) e1 e2 ho (Nz h e1 u.2) hll;symm;simp;refine jL e1 ?_;simp[q1];have q3:iR (rD (jR ws fs m.toNat l)) (frm v u.2) (fun row=>if row.length<lim then some (row++[dq u.1 u.2])else none)=_:=q2;rw[q3];simp;exact⟨l++[u],us,_,rfl,rfl,rfl,hl2,fun x hx=>hu x (by simp[hx])⟩
          .exact⟨l++[u],us,_,by rw[Dy e1 e2 (by omega)],rfl,rfl,hl2,fun x hx=>hu x (by simp[hx])⟩
     . rintro _⟨l,us,s4,rfl,h4,hr,hl,hu⟩;have:us=[]:=by cases us with|nil=>rfl|cons _ _=>cases hr
       subst this;rw[append_nil]at hl;subst hl;simp;exact⟨_,_,rfl,rfl,h4⟩
   .rintro _⟨s3,s4,rfl,h3,h4⟩;exact⟨rfl,_,_,rfl,h3,h4⟩
 rintro _⟨s3,s4,rfl,h3,h4⟩;symm;simp;apply ak;simp;exact k
noncomputable abbrev En:=Int×Nat×(Option aq×Int)
noncomputable def oS:Option aq->D|none=>.non|some s=>sD s
noncomputable def Ah(e:En):D:=.tup [.int e.2.2.2,.int (e.2.1:Int),oS e.2.2.1]
noncomputable def en(e:En):Int×D:=(e.1,Ah e)
noncomputable def mL(es:List En):D:=.dv (es.map (·.1)) (es.map Ah)
noncomputable def xm(p:Int):Int×D:=(p,.bl true)
@[simp]theorem Rx{l:List Int}:Ib (l.map xm)=l:=by simp[Ib,xm,Function.comp_def]
theorem yr{l:List En}:Ib (l.map en)=l.map (·.1):=by simp[Ib,en,Function.comp_def]
theorem xK{l:List En}{p:Int}:ql (l.map en) p=true↔∃n o,(p,n,o)∈l:=by show(Ib (l.map en)).contains p=true↔_;rw[yr];simp
theorem kin_no{l:List En}{p:Int}(h:¬ ∃n o,(p,n,o)∈l):ql (l.map en) p=false:=by cases e:ql (l.map en) p with|false=>rfl|true=>exact absurd (xK.mp e) h
theorem sW{β:Type}{p:Int}{x y:β}:∀{l:List (Int×β)},(l.map (·.1)).Nodup->(p,x)∈l->(p,y)∈l->x=y
 |[],_,h,_=>by cases h|e::l,hn,h1,h2=>by
   rw[map_cons,nodup_cons]at hn;rcases mem_cons.mp h1 with h1|h1<;>rcases mem_cons.mp h2 with h2|h2;.rw[<-h2]at h1;cases h1;rfl
   .exact absurd (mem_map.mpr ⟨_,h2,by rw[<-h1]⟩) hn.1
   .exact absurd (mem_map.mpr ⟨_,h1,by rw[<-h2]⟩) hn.1
   .exact sW hn.2 h1 h2
theorem nZ{p:Int}{x:Nat×(Option aq×Int)}:∀{l:List En},(l.map (·.1)).Nodup->(p,x)∈l->lK (l.map en) p=some (Ah (p,x))
 |[],_,h=>by cases h|e::l,hn,h=>by
   have hn0:=hn;rw[map_cons,nodup_cons]at hn;unfold lK;rw[map_cons,find?_cons];by_cases c:e.1=p;.obtain⟨q,y⟩:=e;cases c;have:=sW hn0 h (by simp:(q,y)∈(q,y)::l);subst this;simp[en]
   . have h':(p,x)∈l:=by
      rcases mem_cons.mp h with h|h;.exact absurd (by rw[<-h]) c
      .exact h
     simp[en,c];have:=nZ hn.2 h';unfold lK at this;simpa[en]using this
theorem vI{kvs:List (Int×D)}{p:Int}{d:D}(h:ql kvs p=false):fH kvs p d=kvs++[(p,d)]:=by
 unfold fH;rw[if_neg];intro h2;obtain⟨x,hx,e⟩:=List.any_eq_true.mp h2;have:ql kvs p=true:=by show(kvs.map (·.1)).contains p=true;rw[List.contains_iff_mem];exact mem_map.mpr ⟨x,hx,by simpa using e⟩
 rw[this]at h;cases h
theorem wA{kvs:List (Int×D)}{p:Int}{d:D}(h:ql kvs p=true):fH kvs p d=kvs.map fun e=>if e.1=p then(p,d)else e:=by
 unfold fH;rw[if_pos]
 . refine map_congr_left fun e _=>?_;by_cases c:e.1=p;.simp[c]
   .simp[c]
 .have h':(kvs.map (·.1)).contains p=true:=h;rw[List.contains_iff_mem]at h';obtain⟨x,hx,e⟩:=mem_map.mp h';exact List.any_eq_true.mpr ⟨x,hx,by simpa using e⟩
noncomputable def vp(p:Int)(x:Nat×(Option aq×Int))(e:En):En:=if e.1=p then(p,x)else e
noncomputable def ni(es:List En)(p:Int)(x:Nat×(Option aq×Int)):List En:=if p∈es.map (·.1)then es.map (vp p x)else es++[(p,x)]
noncomputable def pI(ch:List Int)(p:Int):List Int:=if p∈ch then ch else ch++[p]
theorem JL{es:List En}{p:Int}{x:Nat×(Option aq×Int)}:fH (es.map en) p (Ah (p,x))=(ni es p x).map en:=by
 have hk:ql (es.map en) p=true↔p∈es.map (·.1):=by show(Ib (es.map en)).contains p=true↔_;rw[yr,List.contains_iff_mem]
 unfold ni;by_cases c:p∈es.map (·.1)
 . rw[if_pos c,wA (hk.mpr c),map_map,map_map];refine map_congr_left fun e _=>?_;show(if e.1=p then _ else _)=en (vp p x e);unfold vp;by_cases z:e.1=p;.rw[if_pos z,if_pos z];rfl
   .rw[if_neg z,if_neg z]
 .rw[if_neg c,vI (by cases e:ql (es.map en) p with|false=>rfl|true=>exact absurd (hk.mp e) c)];simp[en]
theorem K6{ch:List Int}{p:Int}:fH (ch.map xm) p (.bl true)=(pI ch p).map xm:=by
 have hk:ql (ch.map xm) p=true↔p∈ch:=by show(Ib (ch.map xm)).contains p=true↔_;rw[Rx,List.contains_iff_mem]
 unfold pI;by_cases c:p∈ch
 . rw[if_pos c,wA (hk.mpr c),map_map];refine map_congr_left fun e _=>?_;show(if e=p then _ else _)=xm e;by_cases z:e=p;.rw[if_pos z,z];rfl
   .rw[if_neg z]
 .rw[if_neg c,vI (by cases e:ql (ch.map xm) p with|false=>rfl|true=>exact absurd (hk.mp e) c)];simp[xm]
theorem u9{ch:List Int}{p q:Int}:q∈pI ch p↔q∈ch\/q=p:=by
 unfold pI;split;.exact⟨.inl,fun h=>h.elim id fun e=>by rw[e];assumption⟩
 .simp
theorem yZ{ch:List Int}{p:Int}(h:ch.Nodup):(pI ch p).Nodup:=by
 unfold pI;split;.exact h
 .rename_i hn;rw[List.nodup_append];exact⟨h,by simp,fun a ha b hb e=>hn (by rw[<-mem_singleton.mp hb,<-e];exact ha)⟩
theorem Cd{es:List En}{p:Int}{x:Nat×(Option aq×Int)}:(ni es p x).map (·.1)=pI (es.map (·.1)) p:=by
 unfold ni pI;split
 . rw[map_map];refine map_congr_left fun e _=>?_;show(vp p x e).1=e.1;unfold vp;split;.rename_i h;exact h.symm
   .rfl
 .simp
theorem eN{es:List En}{p q:Int}{x y:Nat×(Option aq×Int)}:(q,y)∈ni es p x↔(q=p/\y=x)\/(q≠p/\(q,y)∈es):=by
 unfold ni;split
 . rename_i hp;obtain⟨e0,he0,hp0⟩:=mem_map.mp hp;rw[mem_map];constructor
   . rintro⟨e,he,h⟩;unfold vp at h;split at h;.cases h;exact .inl ⟨rfl,rfl⟩
     .rename_i hne;subst h;exact .inr ⟨hne,he⟩
   . rintro(⟨rfl,rfl⟩|⟨h1,h2⟩);.exact⟨e0,he0,by unfold vp;rw[if_pos hp0]⟩
     .exact⟨_,h2,by unfold vp;rw[if_neg h1]⟩
 . rename_i hp;rw[mem_append,mem_singleton];constructor
   . rintro(h|h);.refine .inr ⟨fun e=>hp ?_,h⟩;rw[<-e];exact mem_map.mpr ⟨_,h,rfl⟩
     .cases h;exact .inl ⟨rfl,rfl⟩
   . rintro(⟨rfl,rfl⟩|⟨_,h2⟩);.exact .inr rfl
     .exact .inl h2
theorem vC{α:Type}[BEq α][LawfulBEq α]:∀{l l2:List α},l.Nodup->(∀a∈l,a∈l2)->l.length<=l2.length
 |[],_,_,_=>zero_le _|a::l,l2,hn,hs=>by
   have ha:=hs a (by simp);have hn':=nodup_cons.mp hn;have:=vC (l:=l) (l2:=l2.erase a) hn'.2 fun b hb=>by
    have hba:b≠a:=by rintro rfl;exact hn'.1 hb
    exact(List.mem_erase_of_ne hba).mpr (hs b (by simp[hb]))
   rw[List.length_erase_of_mem ha]at this;have:=List.length_pos_of_mem ha;simp only[length_cons];omega
theorem six{l:List Int}{m:Int}(m1:m<=6)(hn:l.Nodup)(h:∀p∈l,0<=p/\p<m):l.length<=6:=by
 have:=vC (l2:=[0,1,2,3,4,5]) hn fun q hq=>by
  have:=h q hq;have:q=0\/q=1\/q=2\/q=3\/q=4\/q=5:=by omega
  simpa using this
 simpa using this
theorem uf{ws:List Wy}{fs:List Int}{p:Int}{s:aq}(h:jX ws fs p s=true):∃v g,ws[s.1]?=some v/\fs[s.1]?=some g/\frm v s.2=p/\0<wY v g s.2:=by
 unfold jX at h;split at h;.rename_i v g e1 e2;simp at h;exact⟨v,g,e1,e2,h.1,h.2⟩
 .cases h
theorem Hr{N:Nat}{s:aq}(h:s.1<N):s∈gj N:=by unfold gj;rw[List.mem_flatMap];refine⟨s.1,by simp[h],?_⟩;obtain⟨j,f⟩:=s;cases f<;>simp
def jY(ws:List Wy)(b:Int):List aq->Int->Prop|[],a=>a=b|s::c,a=>∃v,ws[s.1]?=some v/\frm v s.2=a/\jY ws b c (too v s.2)
noncomputable def hst(ws:List Wy)(s:aq):Int:=match ws[s.1]?with|some v=>hsp v s.2|none=>0
theorem iy{ws:List Wy}{s:aq}{v:Wy}(e:ws[s.1]?=some v):hst ws s=hsp v s.2:=by unfold hst;rw[e]
noncomputable def dB(ws:List Wy):List aq->Int|[]=>0|s::c=>hst ws s+dB ws c
theorem jc{ws:List Wy}{c2:List aq}:∀{c1:List aq},dB ws (c1++c2)=dB ws c1+dB ws c2|[]=>by simp[dB]|s::c=>by rw[cons_append,dB,jc,dB];omega
def Cv(ws:List Wy)(fs:List Int)(c:List aq):Prop:=∀s∈c,∃v,ws[s.1]?=some v/\jX ws fs (frm v s.2) s=true
theorem jY.app{ws:List Wy}{b q:Int}{c2:List aq}(h2:jY ws b c2 q):∀{c1:List aq}{a:Int},jY ws q c1 a->jY ws b (c1++c2) a|[],a,h=>by have:a=q:=h;rw[this];exact h2|s::c,a,⟨v,e,hf,h⟩=>⟨v,e,hf,jY.app h2 h⟩
theorem zm{ws:List Wy}{b:Int}{c2:List aq}:∀{c1:List aq}{a:Int},jY ws b (c1++c2) a->∃q,jY ws q c1 a/\jY ws b c2 q|[],a,h=>⟨a,rfl,h⟩|s::c,a,⟨v,e,hf,h⟩=>by obtain⟨q,h1,h2⟩:=zm (c1:=c) h;exact⟨q,⟨v,e,hf,h1⟩,h2⟩
def Pt(ws:List Wy)(fs:List Int)(F:Int->Int):Prop:=∀(s:aq)(v:Wy),ws[s.1]?=some v->jX ws fs (frm v s.2) s=true->F (too v s.2)<=F (frm v s.2)+hsp v s.2
theorem pG{ws:List Wy}{fs:List Int}{F:Int->Int}(h:Pt ws fs F){b:Int}:∀{c:List aq}{a:Int},jY ws b c a->Cv ws fs c->F b<=F a+dB ws c|[],a,hp,_=>by have:a=b:=hp;rw[this,dB];omega|s::c,a,⟨v,e,hf,hp⟩,ho=>by have h1:=pG h hp fun u hu=>ho u (mem_cons_of_mem _ hu);obtain⟨v',e',o⟩:=ho s (by simp);rw[e]at e';cases e';have h2:=h s v e o;rw[hf]at h2;rw[dB,iy e];omega
noncomputable def yz(ws:List Wy)(s:aq):Int:=match ws[s.1]?with|some v=>too v s.2|none=>0
noncomputable def zB(ws:List Wy):List aq->Int->List Int|[],a=>[a]|s::c,a=>a::zB ws c (yz ws s)
theorem zc{ws:List Wy}:∀{c:List aq}{a:Int},(zB ws c a).length=c.length+1|[],_=>rfl|s::c,a=>by rw[zB,length_cons,zc];rfl
theorem Gx{m:Int}{ws:List Wy}{b:Int}(hm:HN m ws):∀{c:List aq}{a:Int},jY ws b c a->0<=a/\a<m->∀q∈zB ws c a,0<=q/\q<m
 |[],a,_,ha,q,hq=>by rw[zB,mem_singleton]at hq;rw[hq];exact ha|s::c,a,⟨v,e,hf,hp⟩,ha,q,hq=>by
   rw[zB,mem_cons]at hq;rcases hq with rfl|hq;.exact ha
   . have:yz ws s=too v s.2:=by unfold yz;rw[e]
     rw[this]at hq;exact Gx hm hp (EY hm e s.2) q hq
theorem zN{ws:List Wy}{b q:Int}:∀{c:List aq}{a:Int},jY ws b c a->q∈zB ws c a->∃c1 c2,c=c1++c2/\jY ws q c1 a/\jY ws b c2 q
 |[],a,h,hq=>by rw[zB,mem_singleton]at hq;exact⟨[],[],rfl,hq.symm,by rw[hq];exact h⟩|s::c,a,h,hq=>by
   rw[zB,mem_cons]at hq;rcases hq with rfl|hq;.exact⟨[],s::c,rfl,rfl,h⟩
   . obtain⟨v,e,hf,hp⟩:=h;have:yz ws s=too v s.2:=by unfold yz;rw[e]
     rw[this]at hq;obtain⟨c1,c2,rfl,h1,h2⟩:=zN hp hq;exact⟨s::c1,c2,rfl,⟨v,e,hf,h1⟩,h2⟩
theorem zb{ws:List Wy}{b:Int}:∀{c:List aq}{a:Int},jY ws b c a->¬(zB ws c a).Nodup->∃c1 c2 c3 q,c=c1++(c2++c3)/\0<c2.length/\jY ws q c1 a/\jY ws q c2 q/\jY ws b c3 q
 |[],a,_,hn=>absurd (by simp[zB]) hn|s::c,a,⟨v,e,hf,hp⟩,hn=>by
   have et:yz ws s=too v s.2:=by unfold yz;rw[e]
   rw[zB,et,nodup_cons]at hn;by_cases ha:a∈zB ws c (too v s.2);.obtain⟨c1,c2,rfl,h1,h2⟩:=zN hp ha;exact⟨[],s::c1,c2,a,rfl,by simp,rfl,⟨v,e,hf,h1⟩,h2⟩
   .obtain⟨c1,c2,c3,q,rfl,h0,h1,h2,h3⟩:=zb hp fun z=>hn ⟨ha,z⟩;exact⟨s::c1,c2,c3,q,rfl,h0,⟨v,e,hf,h1⟩,h2,h3⟩
def Le(h:Int)(n:Nat)(h':Int)(n':Nat):Prop:=h<h'\/(h=h'/\n<=n')
theorem Le.refl{h:Int}{n:Nat}:Le h n h n:=.inr ⟨rfl,le_refl _⟩
theorem Le.trans{a b c:Int}{k l n:Nat}(h1:Le a k b l)(h2:Le b l c n):Le a k c n:=by unfold Le at*;omega
theorem Le.add{a b:Int}{k l:Nat}(x:Int)(h1:Le a k b l):Le (a+x) (k+1) (b+x) (l+1):=by unfold Le at*;omega
theorem short{m:Int}{ws:List Wy}{fs:List Int}{F:Int->Int}{a b:Int}(hm:HN m ws)(h:Pt ws fs F)(ha:0<=a/\a<m):∀(n:Nat){c:List aq},c.length<=n->jY ws b c a->Cv ws fs c->∃c',jY ws b c' a/\Cv ws fs c'/\c'.length<=5/\Le (dB ws c') c'.length (dB ws c) c.length:=by intro n;induction n with|zero=>intro c hc hp ho;exact⟨c,hp,ho,by omega,.refl⟩|succ n ih=>
   intro c hc hp ho;by_cases h5:c.length<=5;.exact⟨c,hp,ho,h5,.refl⟩
   . have hn:¬(zB ws c a).Nodup:=fun z=>by have:=six hm.m1 z (Gx hm hp ha);rw[zc]at this;omega
     obtain⟨c1,c2,c3,q,rfl,h0,h1,h2,h3⟩:=zb hp hn;have ho2:Cv ws fs c2:=fun s hs=>ho s (by simp[hs]);have hr:=pG h h2 ho2;simp only[length_append]at hc;obtain⟨c',q1,q2,q3,q4⟩:=ih (c:=c1++c3) (by simp only[length_append];omega) (jY.app h3 h1) fun s hs=>ho s (by rcases mem_append.mp hs with hs|hs<;>simp[hs]);refine⟨c',q1,q2,q3,q4.trans ?_⟩;rw[jc,jc,jc];simp only[length_append];unfold Le;omega
structure Tu(m:Int)(ws:List Wy)(fs:List Int)(es:List En):Prop where
 nd:(es.map (·.1)).Nodup
 Ng:∀p l o,(p,l,o)∈es->0<=p/\p<m
 z:(0,0,(none,0))∈es
 wk:∀p l o,(p,l,o)∈es->∃c,jY ws p c 0/\Cv ws fs c/\c.length=l/\dB ws c=o.2
 stp:∀p l o,(p,l,o)∈es->(o.1=none/\p=0/\l=0)\/∃(s:aq)(v:Wy)(l':Nat)(o':Option aq×Int),o.1=some s/\ws[s.1]?=some v/\too v s.2=p/\jX ws fs (frm v s.2) s=true/\(frm v s.2,l',o')∈es/\Le (o'.2+hsp v s.2) (l'+1) o.2 l
theorem Tu.len{m:Int}{ws:List Wy}{fs:List Int}{es:List En}(h:Tu m ws fs es)(m1:m<=6):es.length<=6:=by
 have:=six m1 h.nd fun p hp=>by obtain⟨⟨p,l,o⟩,he,rfl⟩:=mem_map.mp hp;exact h.Ng p l o he
 simpa using this
theorem ik{l:List En}{p:Int}{a b:Nat}{o u:Option aq×Int}(hn:(l.map (·.1)).Nodup)(h1:(p,a,o)∈l)(h2:(p,b,u)∈l):a=b/\o=u:=by have:=sW hn h1 h2;cases this;exact⟨rfl,rfl⟩
def At(es:List En)(p h:Int)(n:Nat):Prop:=∃l o,(p,l,o)∈es/\Le o.2 l h n
theorem At.le{es:List En}{p h h':Int}{n n':Nat}(a:At es p h n)(z:Le h n h' n'):At es p h' n':=by obtain⟨l,o,h1,h2⟩:=a;exact⟨l,o,h1,h2.trans z⟩
structure Wh(m:Int)(ws:List Wy)(fs:List Int)(n:Nat)(R:List Int)(es:List En):Prop where
 cm:Tu m ws fs es
 row:∀p∈R,∃l o,(p,l,o)∈es
 nr:R.Nodup
 wl:∀c p,jY ws p c 0->Cv ws fs c->c.length<=n->At es p (dB ws c) c.length
 cl:∀l o(s:aq)v,ws[s.1]?=some v->frm v s.2∉R->(frm v s.2,l,o)∈es->jX ws fs (frm v s.2) s=true->At es (too v s.2) (o.2+hsp v s.2) (l+1)few:6<=n->R=[]
structure In(m:Int)(ws:List Wy)(fs:List Int)(n:Nat)(R:List Int)(p8:List En)(K:aq->Prop)(es:List En)(ch:List Int):Prop where
 wh:Wh m ws fs n R p8
 cm:Tu m ws fs es
 le:∀p l o,(p,l,o)∈p8->At es p o.2 l
 out:∀p l o,p∉ch->(p,l,o)∈es->(p,l,o)∈p8
 chg:∀p∈ch,∃l o,(p,l,o)∈es
 nc:ch.Nodup
 dn:∀s,K s->∀v,ws[s.1]?=some v->∀l o,(frm v s.2,l,o)∈p8->At es (too v s.2) (o.2+hsp v s.2) (l+1)few:5<=n->ch=[]
theorem In.row{m:Int}{ws:List Wy}{fs:List Int}{n:Nat}{R:List Int}{p8:List En}{K:aq->Prop}{es:List En}{ch:List Int}(h:In m ws fs n R p8 K es ch){p:Int}(hp:p∈R):∃l o,(p,l,o)∈es:=by obtain⟨l,o,z⟩:=h.wh.row p hp;obtain⟨l,o,z,_⟩:=h.le _ _ _ z;exact⟨l,o,z⟩
theorem In.keep{m:Int}{ws:List Wy}{fs:List Int}{n:Nat}{R:List Int}{p8:List En}{K:aq->Prop}{es:List En}{ch:List Int}(h:In m ws fs n R p8 K es ch){s:aq}{v:Wy}{l:Nat}{o:Option aq×Int}(e:ws[s.1]?=some v)(hp:(frm v s.2,l,o)∈es)(hn:At es (too v s.2) (o.2+hsp v s.2) (l+1)):In m ws fs n R p8 (fun u=>K u\/u=s) es ch:=by
 refine⟨h.wh,h.cm,h.le,h.out,h.chg,h.nc,fun u hu=>?_,h.few⟩;rcases hu with hu|rfl;.exact h.dn u hu
 .intro v' e' l0 o0 h0;rw[e]at e';cases e';obtain⟨l1,o1,q1,q2⟩:=h.le _ _ _ h0;obtain⟨rfl,rfl⟩:=ik h.cm.nd hp q1;exact hn.le (q2.add _)
theorem In.put{m:Int}{ws:List Wy}{fs:List Int}{F:Int->Int}{n:Nat}{R:List Int}{p8:List En}{K:aq->Prop}{es:List En}{ch:List Int}(h:In m ws fs n R p8 K es ch)(hm:HN m ws)(hF:Pt ws fs F){s:aq}{v:Wy}{l:Nat}{o:Option aq×Int}(e:ws[s.1]?=some v)(hp:(frm v s.2,l,o)∈es)(ho:jX ws fs (frm v s.2) s=true)(hn:¬ At es (too v s.2) (o.2+hsp v s.2) (l+1)):In m ws fs n R p8 (fun u=>K u\/u=s) (ni es (too v s.2) (l+1,(some s,o.2+hsp v s.2))) (pI ch (too v s.2)):=by
 have m0:=hm.m0;obtain⟨c,c1,c2,c3,c4⟩:=h.cm.wk _ _ _ hp;have w1:jY ws (too v s.2) (c++[s]) 0:=jY.app (c2:=[s]) ⟨v,e,rfl,rfl⟩ c1;have w2:Cv ws fs (c++[s]):=fun u hu=>by
  rcases mem_append.mp hu with hu|hu;.exact c2 u hu
  .rw[mem_singleton.mp hu];exact⟨v,e,ho⟩
 have w3:(c++[s]).length=l+1:=by simp[c3]
 have w4:dB ws (c++[s])=o.2+hsp v s.2:=by rw[jc,c4,dB,dB,iy e];omega
 have new:(too v s.2,l+1,(some s,o.2+hsp v s.2))∈ni es (too v s.2) (l+1,(some s,o.2+hsp v s.2)):=eN.mpr (.inl ⟨rfl,rfl⟩);have mono:∀{q l2 o2},(q,l2,o2)∈es->At (ni es (too v s.2) (l+1,(some s,o.2+hsp v s.2))) q o2.2 l2:=fun{q l2 o2}z=>by
  by_cases c:q=too v s.2;.subst c;refine⟨_,_,new,?_⟩;have:¬ Le o2.2 l2 (o.2+hsp v s.2) (l+1):=fun y=>hn ⟨_,_,z,y⟩;unfold Le at this ⊢;simp only;omega
  .exact⟨l2,o2,eN.mpr (.inr ⟨c,z⟩),.refl⟩
 have Nj:∀{q h n},At es q h n->At (ni es (too v s.2) (l+1,(some s,o.2+hsp v s.2))) q h n:=fun⟨l2,o2,z1,z2⟩=>(mono z1).le z2;refine⟨h.wh,⟨by rw[Cd];exact yZ h.cm.nd,fun p l o z=>?_,?_,fun p l2 o2 z=>?_,fun p l2 o2 z=>?_⟩,fun p l o z=>Nj (h.le p l o z),fun p l o hc z=>?_,fun p hc=>?_,yZ h.nc,fun u hu=>?_,fun h5=>?_⟩
 . rcases eN.mp z with⟨rfl,_⟩|⟨_,z⟩;.exact EY hm e s.2
   .exact h.cm.Ng p l o z
 .refine eN.mpr (.inr ⟨fun z=>hn ?_,h.cm.z⟩);have:=pG hF w1 w2;rw[<-z,w4]at this;rw[<-z];exact⟨_,_,h.cm.z,by unfold Le;simp only;omega⟩
 . rcases eN.mp z with⟨rfl,y⟩|⟨_,z⟩;.cases y;exact⟨_,w1,w2,w3,w4⟩
   .exact h.cm.wk p l2 o2 z
 . rcases eN.mp z with⟨rfl,y⟩|⟨_,z⟩;.cases y;obtain⟨l',o',q1,q2⟩:=mono hp;exact .inr ⟨s,v,l',o',rfl,e,rfl,ho,q1,q2.add _⟩
   . rcases h.cm.stp p l2 o2 z with z|⟨s',v',l',o',z1,z3,z4,z5,z6,z7⟩;.exact .inl z
     .obtain⟨l3,o3,q1,q2⟩:=mono z6;exact .inr ⟨s',v',l3,o3,z1,z3,z4,z5,q1,(q2.add _).trans z7⟩
 . rw[u9,not_or]at hc;rcases eN.mp z with⟨rfl,_⟩|⟨_,z⟩;.exact absurd rfl hc.2
   .exact h.out p l o hc.1 z
 . rcases u9.mp hc with hc|rfl;.obtain⟨l2,o2,z⟩:=h.chg p hc;obtain⟨l3,o3,z,_⟩:=mono z;exact⟨l3,o3,z⟩
   .exact⟨_,_,new⟩
 . rcases hu with hu|rfl;.exact fun v' e' l0 o0 h0=>Nj (h.dn u hu v' e' l0 o0 h0)
   .intro v' e' l0 o0 h0;rw[e]at e';cases e';obtain⟨l1,o1,q1,q2⟩:=h.le _ _ _ h0;obtain⟨rfl,rfl⟩:=ik h.cm.nd hp q1;exact⟨_,_,new,q2.add _⟩
 .obtain⟨c',q1,q2,q3,q4⟩:=short hm hF ⟨by omega,by omega⟩ _ (le_refl _) w1 w2;obtain⟨l1,o1,z1,z2⟩:=h.wh.wl c' _ q1 q2 (by omega);rw[w3,w4]at q4;exact absurd ((h.le _ _ _ z1).le (z2.trans q4)) hn
theorem Wh.start{m:Int}{ws:List Wy}{fs:List Int}(m0:2<=m):Wh m ws fs 0 [0] [(0,0,(none,0))]:=by
 refine⟨⟨by simp,fun p l o z=>?_,by simp,fun p l o z=>?_,fun p l o z=>.inl ?_⟩,fun p hp=>?_,by simp,fun c p hp _ hc=>?_,fun l o s v _ hR z=>?_,fun h=>by omega⟩;.simp at z;omega
 .simp at z;obtain⟨rfl,rfl,rfl⟩:=z;exact⟨[],rfl,fun s hs=>(by cases hs),rfl,rfl⟩
 .simp at z;obtain⟨rfl,rfl,rfl⟩:=z;exact⟨rfl,rfl,rfl⟩
 .simp at hp;subst hp;exact⟨0,(none,0),by simp⟩
 .cases c with|nil=>have:(0:Int)=p:=hp;subst this;exact⟨0,(none,0),by simp,.refl⟩|cons _ _=>simp at hc
 .simp at z hR;exact absurd z.1 hR
theorem Wh.to{m:Int}{ws:List Wy}{fs:List Int}{n:Nat}{R:List Int}{es:List En}(h:Wh m ws fs n R es):In m ws fs n R es (fun _=>False) es []:=⟨h,h.cm,fun p l o z=>⟨l,o,z,.refl⟩,fun p l o _ z=>z,fun p hp=>(by cases hp),.nil,fun s hs=>hs.elim,fun _=>rfl⟩
theorem In.out'{m:Int}{ws:List Wy}{fs:List Int}{n:Nat}{R:List Int}{p8:List En}{es:List En}{ch:List Int}(h:In m ws fs n R p8 (fun s=>∃p∈R,jX ws fs p s=true) es ch):Wh m ws fs (n+1) ch es:=by
 have leA:∀{p h' k},At p8 p h' k->At es p h' k:=fun⟨l,o,z1,z2⟩=>(h.le _ _ _ z1).le z2;have Nk:∀(s:aq)v l o,ws[s.1]?=some v->(frm v s.2,l,o)∈p8->jX ws fs (frm v s.2) s=true->At es (too v s.2) (o.2+hsp v s.2) (l+1):=fun s v l o e z ho=>by
  by_cases c:frm v s.2∈R;.exact h.dn s ⟨_,c,ho⟩ v e l o z
  .exact leA (h.wh.cl l o s v e c z ho)
 refine⟨h.cm,h.chg,h.nc,fun c p hp ho hc=>?_,fun l o s v e hc z hs=>Nk s v l o e (h.out _ _ _ hc z) hs,fun h6=>h.few (by omega)⟩;rcases List.eq_nil_or_concat c with rfl|⟨c',s,rfl⟩;.exact leA (h.wh.wl [] p hp ho (zero_le _))
 . rw[List.concat_eq_append]at*;obtain⟨q,h1,v,e,rfl,h3⟩:=zm hp;have h3:too v s.2=p:=h3;subst h3;obtain⟨v',e',o'⟩:=ho s (by simp);rw[e]at e';cases e';simp only[length_append,length_cons,length_nil]at hc;obtain⟨l,o,z1,z2⟩:=h.wh.wl c' _ h1 (fun u hu=>ho u (by simp[hu])) (by omega);refine(Nk s v l o e z1 o').le ?_;have:=z2.add (hsp v s.2);have w4:dB ws (c'++[s])=dB ws c'+hsp v s.2:=by rw[jc,dB,dB,iy e];omega
   rw[w4];simpa using this
structure ju(m:Int)(ws:List Wy)(fs:List Int)(es:List En):Prop where
 cm:Tu m ws fs es
 cl:∀l o(s:aq)v,ws[s.1]?=some v->(frm v s.2,l,o)∈es->jX ws fs (frm v s.2) s=true->At es (too v s.2) (o.2+hsp v s.2) (l+1)
theorem Wh.fin{m:Int}{ws:List Wy}{fs:List Int}{n:Nat}{es:List En}(h:Wh m ws fs n [] es):ju m ws fs es:=⟨h.cm,fun l o s v e z ho=>h.cl l o s v e (by simp) z ho⟩
theorem In.imp{m:Int}{ws:List Wy}{fs:List Int}{n:Nat}{R:List Int}{p8:List En}{K K':aq->Prop}{es:List En}{ch:List Int}(h:In m ws fs n R p8 K es ch)(z:∀s,K' s->K s):In m ws fs n R p8 K' es ch:=⟨h.wh,h.cm,h.le,h.out,h.chg,h.nc,fun s hs=>h.dn s (z s hs),h.few⟩
theorem Ro{m:Int}{ws:List Wy}{fs:List Int}{l:List aq}{p:Int}(hp:0<=p/\p<m):at' ((rD (jR ws fs m.toNat l)).map D.lst) p=some (.lst ((l.filter (jX ws fs p)).map sD)):=by rw[oO hp.1 (by simp[rD,jR];omega)];simp[rD,jR,show p.toNat<m.toNat by omega,Int.toNat_of_nonneg hp.1]
@[simp]theorem cut3{a b c:D}:LQ (.tup [a,b,c]) (part (.con .non) .non) (part (.con (.int 2)) (.int 2))=some (.val (.tup [a,b])):=rfl
theorem Nq{a b i j:Int}:cm .lt (.tup [.int a,.int i]) (.tup [.int b,.int j])=some (aV [a,i] [b,j]):=rfl
theorem lex_lt{a b:Int}{i j:Nat}:aV [a,(i:Int)] [b,(j:Int)]=true↔¬ Le b j a i:=by unfold Le;simp[aV];omega
noncomputable def bg:Sl:=.val false (.dv [0] [.int 0])
inductive JC2(m:Int)(ws:List Wy)(fs:List Int)(a0 a1 a2 a3 a6:Sl)(n:Nat)(R:List Int)(p8:List En)(pre:List Int)(p:Int)(r:List D)(ρ:List Sl):Prop where|mk(es:List En)(ch:List Int)(eV us:List aq)(s8 s9 qd:Sl)(q0:ρ=[a0,a1,a2,a3,.bW (es.map en),.val false (.int p),a6,.bW (ch.map xm),s8,s9,qd])(q1:A3 (fr s8=true) (fr s9=true) (fr qd=true))(q2:r=us.map sD)(q3:eV++us=(gj ws.length).filter (jX ws fs p))(q4:In m ws fs n R p8 (fun s=>(∃q∈pre,jX ws fs q s=true)\/s∈eV) es ch)
inductive JC1(m:Int)(ws:List Wy)(fs:List Int)(a0 a1 a2 a3 a6:Sl)(n:Nat)(R:List Int)(p8:List En)(r:List D)(ρ:List Sl):Prop where|mk(es:List En)(ch pre qs:List Int)(s5 s8 s9 qd:Sl)(q0:ρ=[a0,a1,a2,a3,.bW (es.map en),s5,a6,.bW (ch.map xm),s8,s9,qd])(q1:A4 (fr s5=true) (fr s8=true) (fr s9=true) (fr qd=true))(q2:r=qs.map D.int)(q3:pre++qs=R)(q4:In m ws fs n R p8 (fun s=>∃q∈pre,jX ws fs q s=true) es ch)
inductive JCw(m:Int)(ws:List Wy)(fs:List Int)(a0 a1 a2 a3:Sl)(M:Nat)(ρ:List Sl):Prop where|mk(n:Nat)(R:List Int)(es:List En)(s5 s7 s8 s9 qd:Sl)(q0:ρ=[a0,a1,a2,a3,.bW (es.map en),s5,.own false (R.map D.int),s7,s8,s9,qd])(q1:A4 (fr s5=true) (fr s8=true) (fr s9=true) (fr qd=true))(q2:(s7=.aP\/∃d,s7=.val false d))(q3:Wh m ws fs n R es)(q4:7<=n+M)
def JC0(a0 a1 a2 a3:Sl)(r:List D)(ρ:List Sl):Prop:=(r=[.int 0]/\ρ=[a0,a1,a2,a3,.bW [],.aP,.aP,.aP,.aP,.aP,.aP])\/(r=[]/\ρ=[a0,a1,a2,a3,.bW [en (0,0,(none,0))],.val false (.int 0),.aP,.aP,.aP,.aP,.aP])
theorem uM{w n:Nat}{s:Sl}{m:Int}{ws:List Wy}{fs:List Int}{F:Int->Int}{Q:R->List Sl->Prop}(hw:100<=w)(hF:Pt ws fs F)(hs:YX s fs)(h:HN m ws)(hf:fs.length=ws.length)(k:∀es,ju m ws fs es->Q (.val (mL es)) [.val false (bD m ws),s,bg]):(run Γ w (n+3) 5 [.val false (bD m ws),s,bg]).sat Q:=by
 have hn:=h.len;have m0:=h.m0;have m1:=h.m1;refine aU (d:=f5) rfl rfl (by decide) ?_;refine dC (fun ρ=>ρ=[.val false (bD m ws),s,bg,.val false (.lst ((rD (jR ws fs m.toNat (gj ws.length))).map D.lst)),.aP,.aP,.aP,.aP,.aP,.aP,.aP]) ?_ ?_;.have hss:=hs;rcases hs with rfl|⟨b,rfl⟩;all_goals simp[f5,bg];refine Dg (by first|exact .inl rfl|exact .inr ⟨_,rfl⟩) h hf ?_;simp
 rintro _ rfl;generalize hA:((rD (jR ws fs m.toNat (gj ws.length))).map D.lst)=A;symm;simp;apply ak;simp[bg];refine bG (JC0 (.val false (bD m ws)) s bg (.val false (.lst A))) ?_ ?_ (.inl ⟨rfl,rfl⟩)
 . rintro d r _(⟨hr,rfl⟩|⟨hr,rfl⟩)
   . obtain⟨rfl,rfl⟩:d=.int 0/\r=[]:=by simpa using hr
     simp;apply ak;simp[bg,lK];exact .inr ⟨rfl,rfl⟩
   .cases hr
 rintro _(⟨hr,rfl⟩|⟨hr,rfl⟩);.cases hr
 simp;apply ak;simp[bg];apply ak;simp;refine iI (JCw m ws fs _ _ _ _) ?_ (k:=w) (m:=50) (by omega) ⟨0,[0],[(0,0,(none,0))],_,_,_,_,_,rfl,⟨rfl,rfl,rfl,rfl⟩,.inl rfl,Wh.start m0,by omega⟩;rintro M _⟨n',R,es,s5,s7,s8,s9,qd,rfl,⟨h5,h8,h9,h10⟩,h7,hW,hM⟩;by_cases hR:R=[];.subst hR;simp;apply ak;simp;have:=k es hW.fin;simp[Function.comp_def,en];exact this
 . have hR2:0<R.length:=by cases R with|nil=>exact absurd rfl hR|cons _ _=>simp
   simp[hR2];refine dC (fun ρ=>ρ=[.val false (bD m ws),s,bg,.val false (.lst A),.bW (es.map en),s5,.own false (R.map D.int),.bW [],s8,s9,qd]) ?_ ?_
   . rcases h7 with rfl|⟨d,rfl⟩;.simp[bg]
     .simp[bg]
   rintro _ rfl;symm;simp;refine bG (JC1 m ws fs _ _ _ _ _ n' R es) ?_ ?_ ⟨es,[],[],R,s5,s8,s9,qd,rfl,⟨h5,h8,h9,h10⟩,rfl,rfl,hW.to.imp fun s hs=>by obtain⟨q,hq,_⟩:=hs;cases hq⟩;.rintro d r _⟨es',ch,pre,qs,s5,s8,s9,qd,rfl,⟨h5,h8,h9,h10⟩,hr,hpq,hI⟩;cases qs with|nil=>cases hr|cons p qs=>
       obtain⟨rfl,rfl⟩:d=.int p/\r=qs.map D.int:=by simpa using hr
       have hpR:p∈R:=by rw[<-hpq];simp
       have hpm:0<=p/\p<m:=by obtain⟨l,o,ho⟩:=hI.row hpR;exact hI.cm.Ng _ _ _ ho
       have hrow:=Ro (ws:=ws) (fs:=fs) (l:=gj ws.length) hpm;rw[hA]at hrow;simp[h5];apply ak;simp[hrow];refine bG (JC2 m ws fs _ _ _ _ _ n' R es pre p) ?_ ?_ ⟨es',ch,[],_,s8,s9,qd,rfl,⟨h8,h9,h10⟩,rfl,rfl,hI.imp fun s hs=>by rcases hs with hs|hs;exact hs;cases hs⟩;.rintro d r _⟨es',ch,eV,us,s8,s9,qd,rfl,⟨h8,h9,h10⟩,hr,hdu,hI⟩;cases us with|nil=>cases hr|cons u us=>
           obtain⟨rfl,rfl⟩:d=sD u/\r=us.map sD:=by simpa using hr
           have hu:jX ws fs p u=true:=by
            have:u∈(gj ws.length).filter (jX ws fs p):=by rw[<-hdu];simp
            exact(mem_filter.mp this).2
           obtain⟨v,g,e1,e2,e3,e4⟩:=uf hu;have XX:(eV++[u])++us=(gj ws.length).filter (jX ws fs p):=by rw[append_assoc];exact hdu
           obtain⟨lp,op,hop⟩:=hI.row hpR;subst e3;have gp:=nZ hI.cm.nd hop;have hlen:=hI.cm.len m1;have hcl:ch.length<=6:=six m1 hI.nc fun q hq=>by obtain⟨l,o,z⟩:=hI.chg q hq;exact hI.cm.Ng _ _ _ z
           have Yb:∀s,((∃q∈pre,jX ws fs q s=true)\/s∈eV++[u])->((∃q∈pre,jX ws fs q s=true)\/s∈eV)\/s=u:=fun s hs=>by
            rcases hs with hs|hs;.exact .inl (.inl hs)
            . rcases mem_append.mp hs with hs|hs;.exact .inl (.inr hs)
              .exact .inr (by simpa using hs)
           simp[h8];apply ak;simp[sD];refine jL e1 ?_;simp[h9];apply ak;simp[gp,Ah];refine qZ e1 ?_;simp[gp,Ah,h10];apply ak;have keep:At es' (too v u.2) (op.2+hsp v u.2) (lp+1)->JC2 m ws fs (.val false (bD m ws)) s bg (.val false (.lst A)) (.lent (R.map D.int)) n' R es pre (frm v u.2) (us.map sD) [.val false (bD m ws),s,bg,.val false (.lst A),.bW (es'.map en),.val false (.int (frm v u.2)),.lent (R.map D.int),.bW (ch.map xm),.val false (dq u.1 u.2),.val false (.int (too v u.2)),.val false (.tup [.int (op.2+hsp v u.2),.int ((lp:Int)+1)])]:=fun hat=>⟨es',ch,eV++[u],us,_,_,_,rfl,⟨rfl,rfl,rfl⟩,rfl,XX,(hI.keep e1 hop hat).imp Yb⟩;have Yc:¬ At es' (too v u.2) (op.2+hsp v u.2) (lp+1)->JC2 m ws fs (.val false (bD m ws)) s bg (.val false (.lst A)) (.lent (R.map D.int)) n' R es pre (frm v u.2) (us.map sD) [.val false (bD m ws),s,bg,.val false (.lst A),.bW ((ni es' (too v u.2) (lp+1,(some u,op.2+hsp v u.2))).map en),.val false (.int (frm v u.2)),.lent (R.map D.int),.bW ((pI ch (too v u.2)).map xm),.val false (dq u.1 u.2),.val false (.int (too v u.2)),.val false (.tup [.int (op.2+hsp v u.2),.int ((lp:Int)+1)])]:=fun hat=>⟨_,_,eV++[u],us,_,_,_,rfl,⟨rfl,rfl,rfl⟩,rfl,XX,(hI.put h hF e1 hop hu hat).imp Yb⟩;have p1:fH (es'.map en) (too v u.2) (.tup [.int (op.2+hsp v u.2),.int ((lp:Int)+1),dq u.1 u.2])=(ni es' (too v u.2) (lp+1,(some u,op.2+hsp v u.2))).map en:=by rw[<-JL];simp[Ah,oS,sD]
           have p2:fH (ch.map xm) (too v u.2) (.bl true)=(pI ch (too v u.2)).map xm:=K6;by_cases hq:∃l o,(too v u.2,l,o)∈es'
           . obtain⟨l,o,hlo⟩:=hq;have gt:=nZ hI.cm.nd hlo;have kt:ql (es'.map en) (too v u.2)=true:=xK.mpr ⟨l,o,hlo⟩;have hlx:=lex_lt (a:=op.2+hsp v u.2) (i:=lp+1) (b:=o.2) (j:=l);rw[show((lp+1:Nat):Int)=(lp:Int)+1 by omega]at hlx;simp[kt,gt,Ah,Nq];refine⟨fun z=>?_,fun z=>?_⟩
             . have hat:¬ At es' (too v u.2) (op.2+hsp v u.2) (lp+1):=fun⟨l2,o2,y1,y2⟩=>by obtain⟨rfl,rfl⟩:=ik hI.cm.nd hlo y1;exact hlx.mp z y2
               symm;simp[p1];refine⟨by decide,fun _=>?_,by show _<16777216;omega⟩;symm;simp[p2];refine⟨fun _=>Yc hat,by show _<16777216;omega⟩
             . have hat:At es' (too v u.2) (op.2+hsp v u.2) (lp+1):=by
                refine⟨l,o,hlo,?_⟩;by_cases y:Le o.2 l (op.2+hsp v u.2) (lp+1);.exact y
                .rw[hlx.mpr y]at z;cases z
               exact keep hat
           .have kt:ql (es'.map en) (too v u.2)=false:=kin_no hq;simp[kt];apply ak;simp[p1];refine⟨by decide,fun _=>?_,by show _<16777216;omega⟩;symm;simp[p2];exact⟨fun _=>Yc fun⟨l2,o2,y1,_⟩=>hq ⟨l2,o2,y1⟩,by show _<16777216;omega⟩
       . rintro _⟨es',ch,eV,us,s8,s9,qd,rfl,⟨h8,h9,h10⟩,hr,hdu,hI⟩;have:us=[]:=by cases us with|nil=>rfl|cons _ _=>cases hr
         subst this;rw[append_nil]at hdu;simp;refine⟨es',ch,pre++[p],qs,_,_,_,_,rfl,⟨rfl,h8,h9,h10⟩,rfl,by rw[append_assoc];exact hpq,hI.imp fun s hs=>?_⟩;obtain⟨q,hq,hs⟩:=hs;rcases mem_append.mp hq with hq|hq;.exact .inl ⟨q,hq,hs⟩
         . obtain rfl:q=p:=by simpa using hq
           refine .inr ?_;rw[hdu];obtain⟨v,g,e1,_⟩:=uf hs;exact mem_filter.mpr ⟨Hr (List.getElem?_eq_some_iff.mp e1).1,hs⟩
   . rintro _⟨es',ch,pre,qs,s5,s8,s9,qd,rfl,⟨h5,h8,h9,h10⟩,hr,hpq,hI⟩;have:qs=[]:=by cases qs with|nil=>rfl|cons _ _=>cases hr
     subst this;rw[append_nil]at hpq;subst hpq;have hcl:ch.length<=6:=six m1 hI.nc fun q hq=>by obtain⟨l,o,z⟩:=hI.chg q hq;exact hI.cm.Ng _ _ _ z
     have hO:=hI.out';have hn6:n'<6:=by
      by_cases c:6<=n';.exact absurd (hW.few c) hR
      .omega
     simp;apply ak;simp[show ch.length<=16777216 by omega];exact⟨M-1,by omega,n'+1,ch,es',_,_,_,_,_,rfl,⟨h5,h8,h9,h10⟩,.inr ⟨_,rfl⟩,hO,by omega⟩
theorem ju.all{m:Int}{ws:List Wy}{fs:List Int}{es:List En}(h:ju m ws fs es){b:Int}:∀{c:List aq}{a:Int}{l:Nat}{o:Option aq×Int},jY ws b c a->Cv ws fs c->(a,l,o)∈es->At es b (o.2+dB ws c) (l+c.length)|[],a,l,o,hp,_,z=>by have:a=b:=hp;subst this;exact⟨l,o,z,by unfold Le dB;simp⟩|s::c,a,l,o,⟨v,e,hf,hp⟩,ho,z=>by subst hf;obtain⟨v',e',o'⟩:=ho s (by simp);rw[e]at e';cases e';obtain⟨l1,o1,z1,z2⟩:=h.cl l o s v e z o';obtain⟨l2,o2,z3,z4⟩:=ju.all h hp (fun u hu=>ho u (mem_cons_of_mem _ hu)) z1;refine⟨l2,o2,z3,z4.trans ?_⟩;rw[dB,iy e,length_cons];unfold Le at*;omega
theorem ju.l5{m:Int}{ws:List Wy}{fs:List Int}{F:Int->Int}{es:List En}(h:ju m ws fs es)(hm:HN m ws)(hF:Pt ws fs F){p:Int}{l:Nat}{o:Option aq×Int}(z:(p,l,o)∈es):l<=5:=by have m0:=hm.m0;obtain⟨c,c1,c2,c3,c4⟩:=h.cm.wk p l o z;obtain⟨c',q1,q2,q3,q4⟩:=short hm hF ⟨by omega,by omega⟩ _ (le_refl _) c1 c2;obtain⟨l2,o2,z1,z2⟩:=h.all q1 q2 h.cm.z;obtain⟨rfl,rfl⟩:=ik h.cm.nd z z1;rw[c3,c4]at q4;unfold Le at*;simp only at z2;omega
theorem ju.on{m:Int}{ws:List Wy}{fs:List Int}{es:List En}(h:ju m ws fs es){p:Int}{l:Nat}{o:Option aq×Int}(z:(p,l,o)∈es):(o=(none,0)/\p=0/\l=0)\/∃(s:aq)(v:Wy)(l':Nat)(o':Option aq×Int),o=(some s,o'.2+hsp v s.2)/\l=l'+1/\ws[s.1]?=some v/\too v s.2=p/\jX ws fs (frm v s.2) s=true/\(frm v s.2,l',o')∈es:=by
 rcases h.cm.stp p l o z with⟨h1,rfl,rfl⟩|⟨s,v,l',o',h1,h2,rfl,h4,h5,h6⟩;.exact .inl ⟨(ik h.cm.nd z h.cm.z).2,rfl,rfl⟩
 . obtain⟨l2,o2,z1,z2⟩:=h.cl l' o' s v h2 h5 h4;obtain⟨rfl,rfl⟩:=ik h.cm.nd z z1;refine .inr ⟨s,v,l',o',?_,?_,h2,rfl,h4,h5⟩;.exact Prod.ext_iff.mpr ⟨h1,by show _=o'.2+hsp v s.2;unfold Le at*;omega⟩
   .unfold Le at*;omega
structure Tv(ws:List Wy)(fs:List Int)(es:List En)(p:Int)(L:Nat)(H:Int)(a:Int)(l:Nat)(h:Int)(c:List aq):Prop where
 Yd:jY ws p c a
 jR:Cv ws fs c
 nd:(c.map (·.1)).Nodup
 lv:∀s∈c,∀v,ws[s.1]?=some v->∃l1 o1 o2,(frm v s.2,l1,o1)∈es/\(too v s.2,l1+1,o2)∈es/\l<=l1
 len:c.length+l=L
 hrs:dB ws c+h=H
theorem uB{v:Wy}{f g:Bool}(h:g≠f):frm v g=too v f/\too v g=frm v f:=by cases f<;>cases g<;>first|exact absurd rfl h|exact⟨rfl,rfl⟩
theorem Tv.cons{m:Int}{ws:List Wy}{fs:List Int}{es:List En}{p:Int}{L l:Nat}{H x:Int}{c:List aq}{s:aq}{v:Wy}{o o':Option aq×Int}(hc:Tu m ws fs es)(h:Tv ws fs es p L H (too v s.2) (l+1) (x+hsp v s.2) c)(e:ws[s.1]?=some v)(h1:(too v s.2,l+1,o)∈es)(h2:(frm v s.2,l,o')∈es)(ho:jX ws fs (frm v s.2) s=true):Tv ws fs es p L H (frm v s.2) l x (s::c):=by
 refine⟨⟨v,e,rfl,h.Yd⟩,fun u hu=>?_,?_,fun u hu x ex=>?_,by have:=h.len;simp only[length_cons];omega,by have:=h.hrs;rw[dB,iy e];omega⟩
 . rcases mem_cons.mp hu with rfl|hu;.exact⟨v,e,ho⟩
   .exact h.jR u hu
 . rw[map_cons,nodup_cons];refine⟨fun hm=>?_,h.nd⟩;obtain⟨t,ht,et⟩:=mem_map.mp hm;obtain⟨l1,o1,o2,q1,q2,q3⟩:=h.lv t ht v (by rw[et];exact e);by_cases z:t.2=s.2;.rw[z]at q1;have:=(ik hc.nd q1 h2).1;omega
   .rw[(uB z).2]at q2;have:=(ik hc.nd q2 h2).1;omega
 . rcases mem_cons.mp hu with rfl|hu;.rw[e]at ex;cases ex;exact⟨l,_,_,h2,h1,le_refl _⟩
   .obtain⟨l1,o1,o2,q1,q2,q3⟩:=h.lv u hu x ex;exact⟨l1,o1,o2,q1,q2,by omega⟩
theorem Fx{es:List En}{p:Int}{x:Nat×(Option aq×Int)}(hn:(es.map (·.1)).Nodup)(h:(p,x)∈es):lK ((es.map (·.1)).zip (es.map Ah)) p=some (Ah (p,x)):=by
 have:(es.map (·.1)).zip (es.map Ah)=es.map en:=by rw[List.zip_map'];rfl
 rw[this];exact nZ hn h
inductive JSt(m:Int)(ws:List Wy)(fs:List Int)(es:List En)(p:Int)(L:Nat)(H:Int)(a0 a1 a2:Sl)(M:Nat)(ρ:List Sl):Prop where|mk(a:Int)(l:Nat)(o:Option aq×Int)(c:List aq)(s5:Sl)(q0:ρ=[a0,a1,a2,.own false (c.reverse.map sD),.val false (.int a),s5])(q1:fr s5=true)(q2:(a,l,o)∈es)(q3:Tv ws fs es p L H a l o.2 c)(q4:l<=M)
theorem Bt{w n L:Nat}{m p:Int}{ws:List Wy}{fs:List Int}{es:List En}{o:Option aq×Int}{Q:R->List Sl->Prop}(hw:100<=w)(h:ju m ws fs es)(hL:L<=5)(hp:(p,L,o)∈es)(k:∀c,Tv ws fs es p L o.2 0 0 0 c->Q (.val (.tup (c.map sD))) [.val false (bD m ws),.val false (mL es),.val false (.int p)]):(run Γ w (n+2) 6 [.val false (bD m ws),.val false (mL es),.val false (.int p)]).sat Q:=by
 refine aU (d:=f6) rfl rfl (by decide) ?_;symm;simp[f6];apply ak;simp;apply ak;simp;refine iI (JSt m ws fs es p L o.2 _ _ _) ?_ (k:=w) (m:=L) (by omega) ⟨p,L,o,[],.aP,rfl,rfl,hp,⟨rfl,fun s hs=>(by cases hs),by simp,by simp,by simp,by rw[dB];omega⟩,le_refl _⟩;rintro M _⟨a,l,o1,c,s5,rfl,h5,ha,hc,hM⟩;have gz:=Fx h.cm.nd ha;rcases h.on ha with⟨rfl,rfl,rfl⟩|⟨s,v,l',o',rfl,rfl,e,rfl,ho,h2⟩;.simp[mL,gz,Ah,oS];symm;simp;exact k c hc
 . simp[mL,gz,Ah,oS,sD,dq];symm;simp[gz,Ah,oS,h5];apply ak;have hcl:c.length<16777216:=by have:=hc.len;omega
   simp[hcl];apply ak;simp[sD];refine jL e ?_;simp;exact⟨l',by omega,frm v s.2,l',o',s::c,.val false (dq s.1 s.2),by simp[mL,sD],rfl,h2,hc.cons h.cm e ha h2 ho,le_refl _⟩
noncomputable def sg(x:Int)(f:Bool):Int:=if f then x else-x
noncomputable def j5(x:Int)(fs:List Int)(s:aq):List Int:=fs.set s.1 ((fs[s.1]?.getD 0)+sg x s.2)
noncomputable def aug(x:Int)(fs:List Int)(c:List aq):List Int:=c.foldl (j5 x) fs
@[simp]theorem wM{x:Int}{fs:List Int}{s:aq}:(j5 x fs s).length=fs.length:=by simp[j5]
theorem sy{x:Int}:∀{c:List aq}{fs:List Int},(aug x fs c).length=fs.length|[],_=>rfl|s::c,fs=>by show(aug x (j5 x fs s) c).length=_;rw[sy,wM]
theorem nY{x:Int}{j:Nat}:∀{c:List aq}{fs:List Int},j∉c.map (·.1)->(aug x fs c)[j]?=fs[j]?|[],_,_=>rfl|s::c,fs,h=>by rw[map_cons,mem_cons,not_or]at h;show(aug x (j5 x fs s) c)[j]?=_;rw[nY h.2];unfold j5;rw[getElem?_set_ne (fun z=>h.1 z.symm)]
theorem Fj{x:Int}:∀{c:List aq}{fs:List Int}{s:aq}{g:Int},(c.map (·.1)).Nodup->s∈c->fs[s.1]?=some g->(aug x fs c)[s.1]?=some (g+sg x s.2)
 |[],_,_,_,_,h,_=>by cases h|t::c,fs,s,g,hn,h,e=>by
   rw[map_cons,nodup_cons]at hn;show(aug x (j5 x fs t) c)[s.1]?=_;have hlt:=(List.getElem?_eq_some_iff.mp e).1;rcases mem_cons.mp h with rfl|h;.rw[nY hn.1];unfold j5;rw[getElem?_set_self hlt,e];rfl
   .refine Fj hn.2 h ?_;unfold j5;rw[getElem?_set_ne (fun z=>hn.1 (by rw[z];exact mem_map.mpr ⟨s,h,rfl⟩))];exact e
inductive JWt(x:Int)(fs:List Int)(c:List aq)(a0 a1 a2:Sl)(r:List D)(ρ:List Sl):Prop where|mk(eV us:List aq)(s4 s5:Sl)(q0:ρ=[a0,a1,a2,.own false ((aug x fs eV).map D.int),s4,s5])(q1:fr s4=true)(q2:fr s5=true)(q3:r=us.map sD)(q4:eV++us=c)
theorem Ha{w n:Nat}{s:Sl}{x:Int}{fs:List Int}{c:List aq}{Q:R->List Sl->Prop}(hs:YX s fs)(hc:∀s∈c,s.1<fs.length)(k:Q (.own ((aug x fs c).map D.int)) [s,.val false (.tup (c.map sD)),.val false (.int x)]):(run Γ w (n+1) 7 [s,.val false (.tup (c.map sD)),.val false (.int x)]).sat Q:=by
 refine aU (d:=f7) rfl rfl (by decide) ?_;refine dC (fun ρ=>ρ=[s,.val false (.tup (c.map sD)),.val false (.int x),.own false (fs.map D.int),.aP,.aP]) ?_ ?_;.rcases hs with rfl|⟨b,rfl⟩;all_goals simp[f7]
 rintro _ rfl;symm;simp;refine bG (JWt x fs c _ _ _) ?_ ?_ ⟨[],c,.aP,.aP,rfl,rfl,rfl,rfl,rfl⟩;.rintro d r _⟨eV,us,s4,s5,rfl,h4,h5,hr,hd⟩;cases us with|nil=>cases hr|cons u us=>
     obtain⟨rfl,rfl⟩:d=sD u/\r=us.map sD:=by simpa using hr
     have hu:u.1<(aug x fs eV).length:=by rw[sy];exact hc u (by rw[<-hd];simp)
     have ea:(aug x fs eV)[u.1]?=some (aug x fs eV)[u.1]:=by simp[hu]
     have hx:gB (aug x fs eV).length (u.1:Int)=some u.1:=by unfold gB;rw[if_pos (by omega),if_pos (by omega)];simp
     have he:aug x fs (eV++[u])=(aug x fs eV).set u.1 ((aug x fs eV)[u.1]+sg x u.2):=by unfold aug;rw[List.foldl_append];show j5 x (aug x fs eV) u=_;unfold j5;rw[ea];rfl
     have hd2:(eV++[u])++us=c:=by rw[append_assoc];exact hd
     generalize(aug x fs eV)[u.1]=g at*;simp[sD,dq,h4,h5];apply ak;obtain⟨j,f⟩:=u;cases f with|true=>simp[iG ea,hx];exact⟨eV++[(j,true)],us,_,_,by rw[he,List.map_set];rfl,rfl,rfl,rfl,hd2⟩|false=>simp[iG ea,hx];exact⟨eV++[(j,false)],us,_,_,by rw[he,List.map_set];rfl,rfl,rfl,rfl,hd2⟩
 . rintro _⟨eV,us,s4,s5,rfl,h4,h5,hr,hd⟩;have:us=[]:=by cases us with|nil=>rfl|cons _ _=>cases hr
   subst this;rw[append_nil]at hd;subst hd;simp;apply ak;simp;exact k
noncomputable def Hm(F:Int->Int)(D:Int):List En->Int->Int|[],p=>F p+D|e::es,p=>if e.1=p then e.2.2.2 else Hm F D es p
theorem jH{F:Int->Int}{D p:Int}{l:Nat}{o:Option aq×Int}:∀{es:List En},(es.map (·.1)).Nodup->(p,l,o)∈es->Hm F D es p=o.2
 |[],_,h=>by cases h|e::es,hn,h=>by
   rw[map_cons,nodup_cons]at hn;rw[Hm];rcases mem_cons.mp h with rfl|h;.rw[if_pos rfl]
   .rw[if_neg (fun z=>hn.1 (by rw[z];exact mem_map.mpr ⟨_,h,rfl⟩))];exact jH hn.2 h
theorem nR{F:Int->Int}{D p:Int}:∀{es:List En},(¬ ∃l o,(p,l,o)∈es)->Hm F D es p=F p+D|[],_=>rfl|e::es,h=>by rw[Hm,if_neg (fun z=>h ⟨e.2.1,e.2.2,by rw[<-z];simp⟩)];exact nR fun⟨l,o,z⟩=>h ⟨l,o,mem_cons_of_mem _ z⟩
theorem Gw(F:Int->Int):∀(es:List En),∃D,∀p l o,(p,l,o)∈es->o.2<=F p+D
 |[]=>⟨0,fun _ _ _ h=>by cases h⟩|e::es=>by
   obtain⟨D,h⟩:=Gw F es;refine⟨max D (e.2.2.2-F e.1),fun p l o z=>?_⟩;rcases mem_cons.mp z with rfl|z;.simp only;omega
   .have:=h p l o z;omega
theorem ju.pt{m:Int}{ws:List Wy}{fs:List Int}{es:List En}{F:Int->Int}{D:Int}(h:ju m ws fs es)(hF:Pt ws fs F)(hD:∀p l o,(p,l,o)∈es->o.2<=F p+D):Pt ws fs (Hm F D es):=fun s v e ho=>by
 by_cases c:∃l o,(frm v s.2,l,o)∈es;.obtain⟨l,o,c⟩:=c;obtain⟨l2,o2,c2,c3⟩:=h.cl l o s v e c ho;rw[jH h.cm.nd c,jH h.cm.nd c2];unfold Le at c3;omega
 . rw[nR c];have h1:=hF s v e ho;by_cases c2:∃l o,(too v s.2,l,o)∈es;.obtain⟨l2,o2,c2⟩:=c2;rw[jH h.cm.nd c2];have:=hD _ _ _ c2;omega
   .rw[nR c2];omega
theorem Fe{ws:List Wy}{fs:List Int}{F G:Int->Int}(d:Int)(hF:Pt ws fs F)(hG:Pt ws fs G):Pt ws fs (fun p=>min (F p) (G p+d)):=fun s v e ho=>by have h1:=hF s v e ho;have h2:=hG s v e ho;simp only;omega
theorem qz{ws:List Wy}{fs:List Int}{F:Int->Int}(h:Pt ws fs F){b:Int}:∀{c:List aq}{a:Int},jY ws b c a->Cv ws fs c->F b=F a+dB ws c->∀s∈c,∀v,ws[s.1]?=some v->F (too v s.2)=F (frm v s.2)+hsp v s.2
 |[],_,_,_,_,s,hs,_,_=>by cases hs|s::c,a,⟨v,e,hf,hp⟩,ho,he,u,hu,x,ex=>by
   have ho':Cv ws fs c:=fun u hu=>ho u (mem_cons_of_mem _ hu);have h1:=pG h hp ho';obtain⟨v',e',o⟩:=ho s (by simp);rw[e]at e';cases e';have h2:=h s v e o;rw[hf]at h2;rw[dB,iy e]at he;rcases mem_cons.mp hu with rfl|hu;.rw[e]at ex;cases ex;rw[hf];omega
   .exact qz h hp ho' (by omega) u hu x ex
theorem Hn{ws:List Wy}{fs:List Int}{c:List aq}{x:Int}{t:aq}{v:Wy}(hc:Cv ws fs c)(e:ws[t.1]?=some v)(h:jX ws (aug x fs c) (frm v t.2) t=true):jX ws fs (frm v t.2) t=true\/∃s∈c,s.1=t.1/\t.2≠s.2:=by
 by_cases z:t.1∈c.map (·.1)
 . obtain⟨s,hs,es⟩:=mem_map.mp z;by_cases q:t.2=s.2;.have:t=s:=Prod.ext_iff.mpr ⟨es.symm,q⟩;subst this;obtain⟨v',e',o⟩:=hc t hs;rw[e]at e';cases e';exact .inl o
   .exact .inr ⟨s,hs,es,q⟩
 .refine .inl ?_;unfold jX at h ⊢;rwa[nY z]at h
theorem Pt.aug{ws:List Wy}{fs:List Int}{F:Int->Int}(h:Pt ws fs F){a b x:Int}{c:List aq}(hp:jY ws b c a)(ho:Cv ws fs c)(he:F b=F a+dB ws c):Pt ws (aug x fs c) F:=fun t v e o=>by
 rcases Hn ho e o with o|⟨u,hu,eu,ne⟩;.exact h t v e o
 . have:=qz h hp ho he u hu v (by rw[eu];exact e);rw[(uB ne).1,(uB ne).2];have:hsp v t.2=-hsp v u.2:=by cases h1:t.2<;>cases h2:u.2<;>simp[hsp]<;>(rw[h1,h2]at ne;exact absurd rfl ne)
   omega
noncomputable def eZ(G:Wy->Int):List Wy->List Int->Int|v::ws,g::fs=>G v*g+eZ G ws fs|_,_=>0
noncomputable def mY(H:Wy->Int):List Wy->Int|[]=>0|v::ws=>H v+mY H ws
theorem yE{G H:Wy->Int}:∀{ws:List Wy}{fs:List Int},fs.length=ws.length->(∀(j:Nat)v g,ws[j]?=some v->fs[j]?=some g->G v*g<=H v)->eZ G ws fs<=mY H ws|[],[],_,_=>Int.le_refl _|[],_::_,h,_=>by simp at h|_::_,[],h,_=>by simp at h|v::ws,g::fs,h,k=>by have h1:=k 0 v g rfl rfl;have h2:=yE (G:=G) (H:=H) (ws:=ws) (fs:=fs) (by simpa using h) fun j v g e1 e2=>k (j+1) v g (by simpa using e1) (by simpa using e2);rw[eZ,mY];omega
theorem Gr{G H:Wy->Int}:∀{ws:List Wy}{fs:List Int},fs.length=ws.length->(∀(j:Nat)v g,ws[j]?=some v->fs[j]?=some g->H v<=G v*g)->mY H ws<=eZ G ws fs|[],[],_,_=>Int.le_refl _|[],_::_,h,_=>by simp at h|_::_,[],h,_=>by simp at h|v::ws,g::fs,h,k=>by have h1:=k 0 v g rfl rfl;have h2:=Gr (G:=G) (H:=H) (ws:=ws) (fs:=fs) (by simpa using h) fun j v g e1 e2=>k (j+1) v g (by simpa using e1) (by simpa using e2);rw[eZ,mY];omega
theorem zF{G:Wy->Int}{v:Wy}{g y:Int}:∀{j:Nat}{ws:List Wy}{fs:List Int},ws[j]?=some v->fs[j]?=some g->eZ G ws (fs.set j (g+y))=eZ G ws fs+G v*y|_,[],_,e,_=>by simp at e|_,_::_,[],_,e=>by simp at e|0,u::ws,f::fs,e1,e2=>by simp at e1 e2;subst e1 e2;rw[List.set_cons_zero,eZ,eZ,mul_add];omega|j+1,u::ws,f::fs,e1,e2=>by rw[List.set_cons_succ,eZ,eZ,zF (j:=j) (by simpa using e1) (by simpa using e2)];omega
noncomputable def gap(k:Int)(q:Int->Int)(v:Wy):Int:=q v.t-q v.s-k*v.h
theorem Fp{k x:Int}{q:Int->Int}{v:Wy}{f:Bool}:gap k q v*sg x f=x*(q (too v f)-q (frm v f)-k*hsp v f):=by cases f with|true=>show(q v.t-q v.s-k*v.h)*x=x*(q v.t-q v.s-k*v.h);exact mul_comm _ _|false=>show(q v.t-q v.s-k*v.h)*(-x)=x*(q v.s-q v.t-k*(-v.h));rw[mul_neg,mul_neg k,show q v.s-q v.t- -(k*v.h)=-(q v.t-q v.s-k*v.h)by omega,mul_neg,mul_comm]
theorem zX{k x:Int}{q:Int->Int}{ws:List Wy}{b:Int}:∀{c:List aq}{fs:List Int}{a:Int},fs.length=ws.length->jY ws b c a->eZ (gap k q) ws (aug x fs c)=eZ (gap k q) ws fs+x*(q b-q a-k*dB ws c)
 |[],fs,a,_,h=>by have:a=b:=h;subst this;show _=_+x*(q a-q a-k*0);simp;rfl|s::c,fs,a,hl,⟨v,e,hf,hp⟩=>by
   show eZ (gap k q) ws (aug x (j5 x fs s) c)=_;have hlt:s.1<fs.length:=by rw[hl];exact(List.getElem?_eq_some_iff.mp e).1
   have e2:fs[s.1]?=some fs[s.1]:=by simp[hlt]
   rw[zX (by rw[wM];exact hl) hp];have:j5 x fs s=fs.set s.1 (fs[s.1]+sg x s.2):=by unfold j5;rw[e2];rfl
   rw[this,zF e e2,Fp,hf,Int.add_assoc,<-mul_add,dB,iy e,mul_add k];congr 2;omega
structure Uq(ws:List Wy)(fs:List Int):Prop where
 len:fs.length=ws.length
 ok:∀(j:Nat)v g,ws[j]?=some v->fs[j]?=some g->0<=g/\g<=v.r
theorem Uq.aug{ws:List Wy}{fs:List Int}{c:List aq}{x:Int}(h:Uq ws fs)(hn:(c.map (·.1)).Nodup)(hx:0<x)(hc:∀s∈c,∃v g,ws[s.1]?=some v/\fs[s.1]?=some g/\x<=wY v g s.2):Uq ws (aug x fs c):=by
 refine⟨by rw[sy];exact h.len,fun j v g e1 e2=>?_⟩;by_cases z:j∈c.map (·.1);.obtain⟨s,hs,rfl⟩:=mem_map.mp z;obtain⟨v',g',q1,q2,q3⟩:=hc s hs;rw[e1]at q1;cases q1;rw[Fj hn hs q2]at e2;cases e2;have:=h.ok _ _ _ e1 q2;cases hf:s.2<;>rw[hf]at q3<;>simp[wY,sg]at q3 ⊢<;>omega
 .rw[nY z]at e2;exact h.ok _ _ _ e1 e2
noncomputable def mH(q:Int->Int)(v:Wy):Int:=v.r*max 0 (q v.t-q v.s-v.h)
noncomputable def fK(q:Int->Int)(ws:List Wy):Int:=mY (mH q) ws
theorem Vb{q:Int->Int}{v:Wy}:gap 1 q v=q v.t-q v.s-v.h:=by unfold gap;omega
theorem Ag{ws:List Wy}{fs:List Int}{q:Int->Int}(h:Uq ws fs):eZ (gap 1 q) ws fs<=fK q ws:=yE h.len fun j v g e1 e2=>by
 have:=h.ok _ _ _ e1 e2;rw[Vb];unfold mH;generalize q v.t-q v.s-v.h=y;by_cases c:0<=y;.rw[Int.max_eq_right c,mul_comm];exact Int.mul_le_mul_of_nonneg_right this.2 c
 .rw[Int.max_eq_left (by omega),Int.mul_zero];exact Int.mul_nonpos_of_nonpos_of_nonneg (by omega) this.1
theorem JV{ws:List Wy}{fs:List Int}{q:Int->Int}(h:Uq ws fs)(hp:Pt ws fs q):fK q ws=eZ (gap 1 q) ws fs:=by
 refine Int.le_antisymm (Gr h.len fun j v g e1 e2=>?_) (Ag h);have hg:=h.ok _ _ _ e1 e2;have o1:0<v.r-g->q v.t<=q v.s+v.h:=fun z=>hp (j,true) v e1 (by rw[pL (s:=(j,true)) e1 e2];simp[frm,wY];omega);have o2:0<g->q v.s<=q v.t+-v.h:=fun z=>hp (j,false) v e1 (by rw[pL (s:=(j,false)) e1 e2];simp[frm,wY];omega);rw[Vb];unfold mH;generalize hy:q v.t-q v.s-v.h=y;by_cases c:g=v.r
 . subst c;by_cases c0:0<v.r;.have:=o2 c0;rw[Int.max_eq_right (by omega),mul_comm];exact Int.le_refl _
   . have:v.r=0:=by omega
     rw[this];simp
 . have:=o1 (by omega);rw[Int.max_eq_left (by omega),Int.mul_zero];by_cases c0:0<g;.have:=o2 c0;rw[show y=0 by omega];simp
   .rw[show g=0 by omega];simp
noncomputable def WL(fs:List Int)(x:List aq×Int):List Int:=aug x.2 fs x.1
noncomputable def flow(N:Nat)(cs:List (List aq×Int)):List Int:=cs.foldl WL (replicate N 0)
theorem G5{N:Nat}{cs:List (List aq×Int)}{x:List aq×Int}:flow N (cs++[x])=aug x.2 (flow N cs) x.1:=by unfold flow;rw[List.foldl_append];rfl
noncomputable def jt(H:List aq×Int->Int):List (List aq×Int)->Int|[]=>0|x::cs=>H x+jt H cs
theorem lg{H:List aq×Int->Int}{x:List aq×Int}:∀{cs:List (List aq×Int)},jt H (cs++[x])=jt H cs+H x|[]=>by simp[jt]|y::cs=>by rw[cons_append,jt,jt,lg];omega
theorem uo{H K:List aq×Int->Int}:∀{cs:List (List aq×Int)},(∀x∈cs,H x=K x)->jt H cs=jt K cs|[],_=>rfl|x::cs,h=>by rw[jt,jt,h x (by simp),uo fun y hy=>h y (by simp[hy])]
theorem vd{H:List aq×Int->Int}:∀{cs:List (List aq×Int)},(∀x∈cs,1<=H x)->(cs.length:Int)<=jt H cs|[],_=>by simp[jt]|x::cs,h=>by have h1:=h x (by simp);have h2:=vd (H:=H) (cs:=cs) fun y hy=>h y (by simp[hy]);rw[jt,length_cons];omega
noncomputable def VD(ws:List Wy)(T:Int)(x:List aq×Int):Int:=if dB ws x.1<=T then x.2*(T-dB ws x.1+1)else 0
noncomputable def val(ws:List Wy)(T:Int)(cs:List (List aq×Int)):Int:=jt (VD ws T) cs
structure mQ(m:Int)(ws:List Wy)(T v:Int):Prop where
 ex:∃q:Int->Int,q 0=0/\q (m-1)=T+1/\fK q ws=v
 le:∀q:Int->Int,q 0=0->q (m-1)=T+1->v<=fK q ws
structure um(m:Int)(ws:List Wy)(cs:List (List aq×Int))(fs:List Int)(F:Int->Int)(d:Int):Prop where
 fit:Uq ws fs
 pt:Pt ws fs F
 z:F 0=0
 e:F (m-1)=d
 d0:0<=d
 nn:∀x∈cs,0<=dB ws x.1
 ch:∀x∈cs,dB ws x.1<=d/\0<x.2/\∀s∈x.1,s.1<ws.length
 dt:∀k q,eZ (gap k q) ws fs=jt (fun x=>x.2*(q (m-1)-q 0-k*dB ws x.1)) cs
 lst:∀T,0<=T->T+1<=d->mQ m ws T (val ws T cs)
theorem vM{G:Wy->Int}:∀{ws:List Wy}{n:Nat},eZ G ws (replicate n 0)=0|[],n=>by unfold eZ;rfl|v::ws,0=>rfl|v::ws,n+1=>by rw[replicate_succ,eZ,vM];simp
theorem GQ{n j:Nat}{g:Int}(h:(replicate n (0:Int))[j]?=some g):g=0:=(List.mem_replicate.mp (mem_of_getElem? h)).2
theorem um.zero{m:Int}{ws:List Wy}(hm:HN m ws)(hr:∀v∈ws,0<=v.r):um m ws [] (replicate ws.length 0) (fun _=>0) 0:=by
 refine⟨⟨by simp,fun j v g e1 e2=>?_⟩,fun s v e ho=>?_,rfl,rfl,by omega,by simp,by simp,fun k q=>by rw[vM];rfl,fun T h1 h2=>by omega⟩;.rw[GQ e2];exact⟨Int.le_refl _,hr v (mem_of_getElem? e1)⟩
 .obtain⟨v',g,e1,e2,_,e4⟩:=uf ho;rw[e]at e1;cases e1;have:=GQ e2;subst this;have:=(hm.ok v (mem_of_getElem? e)).2.2;cases hf:s.2<;>rw[hf]at e4<;>simp[wY,hsp]at e4 ⊢<;>omega
theorem um.at{m d T:Int}{ws:List Wy}{cs:List (List aq×Int)}{fs:List Int}{F G:Int->Int}(h:um m ws cs fs F d)(hT:d<=T+1)(hG:Pt ws fs G)(g0:G 0=0)(g1:G (m-1)=T+1):mQ m ws T (val ws T cs):=by
 have hv:∀q:Int->Int,q 0=0->q (m-1)=T+1->eZ (gap 1 q) ws fs=val ws T cs:=fun q q0 q1=>by
  rw[h.dt,q0,q1];refine uo fun x hx=>?_;have:=(h.ch x hx).1;unfold VD;split;.congr 1;omega
  .rw[show T+1-0-1*dB ws x.1=0 by omega,Int.mul_zero]
 exact⟨⟨G,g0,g1,by rw[JV h.fit hG,hv G g0 g1]⟩,fun q q0 q1=>by rw[<-hv q q0 q1];exact Ag h.fit⟩
theorem um.more{m d:Int}{ws:List Wy}{cs:List (List aq×Int)}{fs:List Int}{F:Int->Int}{es:List En}{c:List aq}{x:Int}{l:Nat}{o:Option aq×Int}(h:um m ws cs fs F d)(hes:ju m ws fs es)(hlo:(m-1,l,o)∈es)(hc:Tv ws fs es (m-1) l o.2 0 0 0 c)(hx:0<x)(hr:∀s∈c,∃v g,ws[s.1]?=some v/\fs[s.1]?=some g/\x<=wY v g s.2):∃F',um m ws (cs++[(c,x)]) (aug x fs c) F' o.2:=by
 obtain⟨D,hD⟩:=Gw F es;have hP:=hes.pt h.pt hD;have hH:dB ws c=o.2:=by have:=hc.hrs;omega
 have e0:Hm F D es 0=0:=jH hes.cm.nd hes.cm.z;have e1:Hm F D es (m-1)=o.2:=jH hes.cm.nd hlo;have hd:d<=o.2:=by have:=pG h.pt hc.Yd hc.jR;rw[h.e,h.z]at this;omega
 refine⟨Hm F D es,h.fit.aug hc.nd hx hr,hP.aug hc.Yd hc.jR (by rw[e0,e1];omega),e0,e1,by have:=h.d0;omega,fun y hy=>?_,fun y hy=>?_,fun k q=>?_,fun T h0 h1=>?_⟩
 . rcases mem_append.mp hy with hy|hy;.exact h.nn y hy
   .rw[mem_singleton.mp hy];show 0<=dB ws c;have:=h.d0;omega
 . rcases mem_append.mp hy with hy|hy;.have:=h.ch y hy;exact⟨by omega,this.2⟩
   .rw[mem_singleton.mp hy];refine⟨by show dB ws c<=_;omega,hx,fun s hs=>?_⟩;obtain⟨v,g,e,_⟩:=hr s hs;exact(List.getElem?_eq_some_iff.mp e).1
 .rw[zX h.fit.len hc.Yd,lg,h.dt]
 . have e3:val ws T (cs++[(c,x)])=val ws T cs:=by unfold val;rw[lg];show _+(if dB ws c<=T then _ else 0)=_;rw[if_neg (by omega)];omega
   rw[e3];by_cases q:T+1<=d;.exact h.lst T h0 q
   . refine h.at (by omega) (Fe (T+1-d) hP h.pt) ?_ ?_;.have:=h.z;omega
     .have:=h.e;omega
theorem um.least{m d T:Int}{ws:List Wy}{cs:List (List aq×Int)}{fs:List Int}{F:Int->Int}{es:List En}(h:um m ws cs fs F d)(hes:ju m ws fs es)(hno:¬ ∃l o,(m-1,l,o)∈es)(h0:0<=T):mQ m ws T (val ws T cs):=by
 by_cases q:T+1<=d;.exact h.lst T h0 q
 . obtain⟨D,hD⟩:=Gw F es;have hP:=hes.pt (D:=max D (T+1-d)) h.pt fun p l o z=>by have:=hD p l o z;omega
   have e0:Hm F (max D (T+1-d)) es 0=0:=jH hes.cm.nd hes.cm.z;have e1:Hm F (max D (T+1-d)) es (m-1)=F (m-1)+max D (T+1-d):=nR hno;refine h.at (by omega) (Fe (T+1-d) hP h.pt) ?_ ?_;.have:=h.z;omega
   .have:=h.e;omega
noncomputable def Vq(ws:List Wy):Int:=mY (fun v=>v.r) ws
theorem um.few{m d:Int}{ws:List Wy}{cs:List (List aq×Int)}{fs:List Int}{F:Int->Int}(h:um m ws cs fs F d)(m0:2<=m):(cs.length:Int)<=Vq ws:=by
 have h1:=vd (H:=fun x=>x.2) (cs:=cs) fun x hx=>(h.ch x hx).2.1;have h2:=h.dt 0 (fun p=>if p=m-1 then 1 else 0);have h3:jt (fun x=>x.2) cs=eZ (gap 0 (fun p=>if p=m-1 then 1 else 0)) ws fs:=by rw[h2];refine uo fun x _=>?_;show x.2=x.2*((if m-1=m-1 then 1 else 0)-(if 0=m-1 then 1 else 0)-0*dB ws x.1);rw[if_pos rfl,if_neg (by omega)];simp
 rw[h3]at h1;refine Int.le_trans h1 (yE h.fit.len fun j v g e1 e2=>?_);have hg:=h.fit.ok _ _ _ e1 e2;unfold gap;simp only;split<;>split<;>simp<;>omega
noncomputable def cD(x:List aq×Int):D:=.tup [.tup (x.1.map sD),.int x.2]
theorem Fw{ns:List Int}(h:ns≠[]):∃i,ns.min?=some i/\i∈ns/\∀j∈ns,i<=j:=by cases e:ns.min? with|none=>rw[List.min?_eq_none_iff]at e;exact absurd e h|some i=>have:=List.min?_eq_some_iff.mp e;exact⟨i,rfl,this.1,this.2⟩
noncomputable def WN:D->aq|.tup [.int j,.bl f]=>(j.toNat,f)|_=>(0,true)
@[simp]theorem Dq{s:aq}:WN (sD s)=s:=rfl
noncomputable def Lw(ws:List Wy)(fs:List Int)(s:aq):Int:=match ws[s.1]?,fs[s.1]?with|some v,some g=>wY v g s.2|_,_=>0
noncomputable def rmD(ws:List Wy)(fs:List Int)(d:D):D:=.int (Lw ws fs (WN d))
@[simp]theorem U6{es:List En}{p:Int}:wC false (.int p) (mL es)=some (.val (.bl (ql (es.map en) p))):=by show some (R.val (.bl ((es.map (·.1)).contains p)))=some (R.val (.bl ((Ib (es.map en)).contains p)));rw[yr]
def Chk(ws:List Wy)(x:List aq×Int):Prop:=x.1.length<=5/\∀s∈x.1,s.1<ws.length
structure Ends(m:Int)(ws:List Wy)(cs:List (List aq×Int))(fs:List Int)(F:Int->Int)(d:Int)(es:List En):Prop where
 fl:fs=flow ws.length cs
 iv:um m ws cs fs F d
 cm:ju m ws fs es
 no:¬ ∃l o,(m-1,l,o)∈es
 ck:∀x∈cs,Chk ws x
inductive FcE(a0 a1 a2 a3 a4 a5 a6:Sl)(ρ:List Sl):Prop where|mk(s:Sl)(q0:ρ=[a0,a1,a2,a3,a4,a5,a6,s])(q1:fr s=true)
inductive JE(m:Int)(ws:List Wy)(B M:Nat)(ρ:List Sl):Prop where|mk(cs:List (List aq×Int))(fs:List Int)(es:List En)(F:Int->Int)(d:Int)(s5 s6:Sl)(q0:ρ=[.val false (bD m ws),.val false (.int (m-1)),.own false (fs.map D.int),.own false (cs.map cD),.val false (mL es),s5,s6])(q1:(fr s5=true/\fr s6=true))(q2:fs=flow ws.length cs)(q3:um m ws cs fs F d)(q4:ju m ws fs es)(q5:cs.length+M=B)(q6:(∀x∈cs,Chk ws x))
theorem FT{w n B:Nat}{m:Int}{ws:List Wy}{Q:R->List Sl->Prop}(hB:∀cs fs F d,um m ws cs fs F d->cs.length<=B)(hB2:B<=16000000)(hw:B+200<=w)(h:HN m ws)(hr:∀v∈ws,0<=v.r)(k:∀cs fs F d es,cs.length<=B->Ends m ws cs fs F d es->Q (.own (cs.map cD)) [.val false (bD m ws)]):(run Γ w (n+4) 8 [.val false (bD m ws)]).sat Q:=by
 have hn:=h.len;have m0:=h.m0;have m1:=h.m1;refine aU (d:=f8) rfl rfl (by decide) ?_;symm;simp[f8];refine dC (fun ρ=>ρ=[.val false (bD m ws),.val false (.int (m-1)),.own false ((flow ws.length []).map D.int),.aP,.aP,.aP,.aP]) ?_ ?_;.simp[flow];show _<=16777216;omega
 rintro _ rfl;have I0:um m ws [] (flow ws.length []) (fun _=>0) 0:=um.zero h hr;symm;simp;apply ak;simp;refine uM (by omega) I0.pt (.inr ⟨true,rfl⟩) h I0.fit.len fun es hes=>?_;simp;apply ak;simp;refine iI (JE m ws B) ?_ (k:=w) (m:=B) (by omega) ⟨[],flow ws.length [],es,fun _=>0,0,.aP,.aP,rfl,⟨rfl,rfl⟩,rfl,I0,hes,by simp,by simp⟩;rintro M _⟨cs,fs,es,F,d,s5,s6,rfl,⟨h5,h6⟩,hfs,hI,hes,hM,hin⟩;have hfl:=hI.fit.len;by_cases hq:∃l o,(m-1,l,o)∈es
 . obtain⟨l,o,hlo⟩:=hq;have kt:ql (es.map en) (m-1)=true:=xK.mpr ⟨l,o,hlo⟩;have hl5:=hes.l5 h hI.pt hlo;simp[kt];apply ak;simp;refine Bt (by omega) hes hl5 hlo fun c hc=>?_;simp[h5];apply ak;have hcl:c.length<=5:=by have:=hc.len;omega
   have Lj:∀s∈c,∃v g,ws[s.1]?=some v/\fs[s.1]?=some g/\0<wY v g s.2:=fun s hs=>by obtain⟨v,e,o⟩:=hc.jR s hs;obtain⟨v',g,e1,e2,_,e4⟩:=uf o;exact⟨v',g,e1,e2,e4⟩
   simp[show c.length<=16777216 by omega];refine gb (FcE _ _ _ _ _ _ _) (rmD ws fs) ⟨.aP,rfl,rfl⟩ ?_ ?_;.rintro d hd _⟨s',rfl,hs'⟩;obtain⟨s,hs,rfl⟩:=mem_map.mp hd;obtain⟨v,g,e1,e2,_⟩:=Lj s hs;simp[hs',sD];refine qL (.inr ⟨true,rfl⟩) e1 e2 ?_;simp;refine⟨?_,_,rfl,rfl⟩;show D.int (Lw ws fs (WN (sD s)))=_;rw[Dq];unfold Lw;rw[e1,e2]
   rintro _⟨s',rfl,hs'⟩;have hmap:(c.map sD).map (rmD ws fs)=(c.map (Lw ws fs)).map D.int:=by rw[map_map,map_map];rfl
   rw[hmap];have acT:c≠[]:=by rintro rfl;have:(0:Int)=m-1:=hc.Yd;omega
   obtain⟨x,hx1,hx2,UW⟩:=Fw (ns:=c.map (Lw ws fs)) (by simpa using acT);obtain⟨s,hs,hsx⟩:=mem_map.mp hx2;obtain⟨v,g,e1,e2,e3⟩:=Lj s hs;have hxr:wY v g s.2=x:=by rw[<-hsx];unfold Lw;rw[e1,e2]
   have hx0:0<x:=by omega
   have hle:∀s∈c,∃v g,ws[s.1]?=some v/\fs[s.1]?=some g/\x<=wY v g s.2:=fun u hu=>by obtain⟨v,g,e1,e2,_⟩:=Lj u hu;refine⟨v,g,e1,e2,?_⟩;have:=UW _ (mem_map.mpr ⟨u,hu,rfl⟩);unfold Lw at this;rw[e1,e2]at this;exact this
   have hlt:∀s∈c,s.1<ws.length:=fun u hu=>by obtain⟨v,g,e1,_⟩:=Lj u hu;exact(List.getElem?_eq_some_iff.mp e1).1
   obtain⟨F',hI'⟩:=hI.more hes hlo hc hx0 hle;generalize c.map (Lw ws fs)=ns at*;simp[iB,hx1,h6];apply ak;simp[show cs.length<16777216 by omega];apply ak;simp;refine Ha (.inr ⟨true,rfl⟩) (fun u hu=>by rw[hfl];exact hlt u hu) ?_;simp;apply ak;have acU:aug x fs c=flow ws.length (cs++[(c,x)]):=by rw[G5,<-hfs]
   simp;refine uM (by omega) hI'.pt (.inr ⟨true,rfl⟩) h hI'.fit.len fun es' acV=>?_;simp;have hB':=hB _ _ _ _ hI';simp only[length_append,length_cons,length_nil]at hB';refine⟨M-1,by omega,cs++[(c,x)],aug x fs c,es',F',o.2,.val false (.tup (c.map sD)),.val false (.int x),by simp[cD],⟨rfl,rfl⟩,acU,hI',acV,by simp;omega,fun y hy=>?_⟩;rcases mem_append.mp hy with hy|hy;.exact hin y hy
   . obtain rfl:y=(c,x):=by simpa using hy
     exact⟨hcl,hlt⟩
 .have kt:ql (es.map en) (m-1)=false:=kin_no hq;simp[kt];apply ak;simp;exact k cs fs F d es (by omega) ⟨hfs,hI,hes,hq,hin⟩
theorem QG{c:Call}{x:Nat}{k d:P}{ρ:List Sl}:ev c (.UG x k d) ρ=match ρ[x]?with
 |some (.eY _)=>(bN (isVar k) (ev c k) ρ).bind fun kd ρ=>(bN (isVar d) (ev c d) ρ).bind fun dd ρ=>match ρ[x]?with|some (.eY m)=>lift ((m.get kd).bind fun o=>(gA dd).map fun v=>.val (.int (o.getD v))) ρ|_=>.stuck
 |_=>.stuck:=(rfl)
theorem J1{c:Call}{n x:Nat}{ρ:List Sl}:ex c n (.Hz x false) ρ=match ρ[x]?with|some .aP=>.ok .next (ρ.set x (.eY (.k [])))|_=>.stuck:=(rfl)
theorem JN{c:Call}{n x:Nat}{k e:P}{ρ:List Sl}:ex c n (.dput x k e) ρ=(ev c e ρ).bind fun r ρ=>match ρ[x]?with
 |some (.eY _)=>(bN (isVar k) (ev c k) ρ).bind fun kd ρ=>match ρ[x]?,r with
   |some (.eY m),.val (.int v)=>match m.put kd v with|some m'=>.ok .next (ρ.set x (.eY m'))|none=>.stuck
   |_,_=>.stuck
 |_=>.stuck:=(rfl)
@[simp]theorem Tq{x:Nat}{k d:P}:isVar (.UG x k d)=none:=rfl
@[simp]theorem Wf{kvs:List (Int×Int)}:blt .Lf [.cN (.k kvs)]=if sortable (kvs.map jW)then some (.own (jQ (kvs.map jW)))else none:=rfl
theorem Ri{kvs:List (Int×Int)}{i:Int}:(Dc.get (.k kvs) (.int i))=some ((kvs.find? fun kv=>decide (kv.1=i)).map (·.2)):=rfl
theorem V3{kvs:List (Int×Int)}{i v:Int}(h:kvs.length<lim):Dc.put (.k kvs) (.int i) v=some (.k (putD kvs i v)):=by show(if _ then _ else _)=_;rw[if_pos h]
noncomputable def hsD(ws:List Wy)(d:D):D:=.int (hst ws (WN d))
theorem Ak{ws:List Wy}:∀{c:List aq},(c.map (hst ws)).sum=dB ws c|[]=>rfl|s::c=>by rw[map_cons,sum_cons,Ak,dB]
inductive F2s(a b:Sl)(ρ:List Sl):Prop where|mk(s:Sl)(q0:ρ=[a,b,s])(q1:fr s=true)
theorem yh{w n:Nat}{m:Int}{ws:List Wy}{c:List aq}{Q:R->List Sl->Prop}(hc:∀s∈c,s.1<ws.length)(hl:c.length<=1000)(k:Q (.val (.int (dB ws c))) [.val false (bD m ws),.val false (.tup (c.map sD))]):(run Γ w (n+2) 3 [.val false (bD m ws),.val false (.tup (c.map sD))]).sat Q:=by
 refine aU (d:=f3) rfl rfl (by decide) ?_;symm;simp[f3,show c.length<=16777216 by omega];refine gb (F2s _ _) (hsD ws) ⟨.aP,rfl,rfl⟩ ?_ ?_
 . rintro d hd _⟨s',rfl,hs'⟩;obtain⟨s,hs,rfl⟩:=mem_map.mp hd;have hlt:=hc s hs;have e:ws[s.1]?=some ws[s.1]:=by simp[hlt]
   simp[hs',sD];refine qZ e ?_;simp;refine⟨?_,_,rfl,rfl⟩;show D.int (hst ws (WN (sD s)))=_;rw[Dq,iy e]
 rintro _⟨s',rfl,hs'⟩;have hmap:(c.map sD).map (hsD ws)=(c.map (hst ws)).map D.int:=by rw[map_map,map_map];rfl
 rw[hmap];have hsum:=Ak (ws:=ws) (c:=c);generalize c.map (hst ws)=ns at*;simp[iB,hsum];exact k
noncomputable def gv(kvs:List (Int×Int))(k:Int):Int:=((kvs.find? fun kv=>decide (kv.1=k)).map (·.2)).getD 0
noncomputable def vt(T k v:Int):Int:=if k<=T then v*(T-k+1)else 0
noncomputable def lF(T:Int):List (Int×Int)->Int|[]=>0|kv::r=>vt T kv.1 kv.2+lF T r
theorem RG{T k a b:Int}:vt T k (a+b)=vt T k a+vt T k b:=by
 unfold vt;split;.exact Int.add_mul ..
 .rfl
theorem zj{T:Int}{b:List (Int×Int)}:∀{a:List (Int×Int)},lF T (a++b)=lF T a+lF T b|[]=>by simp[lF]|x::a=>by rw[cons_append,lF,lF,zj];omega
theorem FP{T:Int}{a b:List (Int×Int)}(h:a.Perm b):lF T a=lF T b:=by induction h with|nil=>rfl|cons a _ ih=>rw[lF,lF,ih]|swap a b l=>rw[lF,lF,lF,lF];omega|trans _ _ h1 h2=>rw[h1,h2]
theorem Ae{k v:Int}:∀{r:List (Int×Int)},k∉r.map (·.1)->(r.map fun kv=>if kv.1=k then(kv.1,v)else kv)=r|[],_=>rfl|x::r,h=>by rw[map_cons,mem_cons,not_or]at h;rw[map_cons,Ae h.2,if_neg (fun z=>h.1 z.symm)]
theorem Ai{T k x:Int}:∀{r:List (Int×Int)},(r.map (·.1)).Nodup->k∈r.map (·.1)->lF T (r.map fun kv=>if kv.1=k then(kv.1,gv r k+x)else kv)=lF T r+vt T k x
 |[],_,h=>by cases h|y::r,hn,h=>by
   rw[map_cons,nodup_cons]at hn;by_cases c:y.1=k
   . have hg:gv (y::r) k=y.2:=by unfold gv;rw[find?_cons];simp[c]
     rw[hg,map_cons,if_pos c,Ae (by rw[<-c];exact hn.1),lF,lF];show vt T y.1 (y.2+x)+_=_;rw[RG,c];omega
   . have hg:gv (y::r) k=gv r k:=by unfold gv;rw[find?_cons];simp[c]
     have hk:k∈r.map (·.1):=by
      rcases mem_cons.mp h with h|h;.exact absurd h.symm c
      .exact h
     rw[hg,map_cons,if_neg c,lF,lF,Ai hn.2 hk];omega
theorem Py{k:Int}{r:List (Int×Int)}(h:k∉r.map (·.1)):gv r k=0:=by
 unfold gv;rw[List.find?_eq_none.mpr];.rfl
 .intro x hx;simp;intro e;exact h (mem_map.mpr ⟨x,hx,e⟩)
theorem sE{T k x:Int}{r:List (Int×Int)}(hn:(r.map (·.1)).Nodup):((putD r k (gv r k+x)).map (·.1)).Nodup/\(putD r k (gv r k+x)).length<=r.length+1/\(∀j∈(putD r k (gv r k+x)).map (·.1),j=k\/j∈r.map (·.1))/\lF T (putD r k (gv r k+x))=lF T r+vt T k x:=by
 have hk:(r.any fun kv=>decide (kv.1=k))=true↔k∈r.map (·.1):=by rw[List.any_eq_true,mem_map];exact⟨fun⟨y,h1,h2⟩=>⟨y,h1,by simpa using h2⟩,fun⟨y,h1,h2⟩=>⟨y,h1,by simpa using h2⟩⟩
 unfold putD;by_cases c:k∈r.map (·.1)
 . rw[if_pos (hk.mpr c)];have e:(r.map fun kv=>if kv.1=k then(kv.1,gv r k+x)else kv).map (·.1)=r.map (·.1):=by rw[map_map];refine map_congr_left fun y _=>?_;show(if y.1=k then _ else _:Int×Int).1=y.1;split<;>rfl
   refine⟨by rw[e];exact hn,by simp,fun j hj=>.inr (by rw[e]at hj;exact hj),Ai hn c⟩
 . rw[if_neg fun z=>c (hk.mp z),Py c,Int.zero_add];refine⟨?_,by simp,fun j hj=>?_,?_⟩;.rw[map_append,List.nodup_append];exact⟨hn,by simp,fun a ha b hb e=>c (by
      have:b=k:=by simpa using hb
      rw[<-this,<-e];exact ha)⟩
   . rw[map_append,mem_append]at hj;rcases hj with hj|hj;.exact .inr hj
     .exact .inl (by simpa using hj)
   .rw[zj];simp[lF]
noncomputable def SJ:D->Int×Int|.tup [.int a,.int b]=>(a,b)|_=>(0,0)
theorem Ko(kvs:List (Int×Int)):∃us:List (Int×Int),jQ (kvs.map jW)=us.map jW/\us.Perm kvs:=by
 have hp:=fW (kvs.map jW);refine⟨(jQ (kvs.map jW)).map SJ,?_,?_⟩;.rw[map_map];refine(map_id _).symm.trans (map_congr_left fun d hd=>?_);obtain⟨p,_,rfl⟩:=mem_map.mp (hp.mem_iff.mp hd);rfl
 .have:=hp.map SJ;rw[map_map]at this;have e:kvs.map (SJ ∘ jW)=kvs:=(map_congr_left fun p _=>rfl).trans (map_id _);rwa[e]at this
structure WD(ws:List Wy)(cs:List (List aq×Int))(kvs:List (Int×Int)):Prop where
 nd:(kvs.map (·.1)).Nodup
 len:kvs.length<=cs.length
 nn:∀kv∈kvs,0<=kv.1
 sm:∀T,lF T kvs=val ws T cs
theorem WD.put{ws:List Wy}{cs:List (List aq×Int)}{kvs:List (Int×Int)}(h:WD ws cs kvs){x:List aq×Int}(h0:0<=dB ws x.1):WD ws (cs++[x]) (putD kvs (dB ws x.1) (gv kvs (dB ws x.1)+x.2)):=by
 have p:=fun T=>sE (T:=T) (k:=dB ws x.1) (x:=x.2) h.nd;have hl:=h.len;refine⟨(p 0).1,by have:=(p 0).2.1;simp;omega,fun kv hkv=>?_,fun T=>?_⟩
 . rcases(p 0).2.2.1 kv.1 (mem_map.mpr ⟨kv,hkv,rfl⟩)with e|e;.rw[e];exact h0
   .obtain⟨y,hy,e⟩:=mem_map.mp e;rw[<-e];exact h.nn y hy
 .rw[(p T).2.2.2,h.sm,val,val,lg];rfl
inductive JBn(m:Int)(ws:List Wy)(cs:List (List aq×Int))(r:List D)(ρ:List Sl):Prop where|mk(eV us:List (List aq×Int))(kvs:List (Int×Int))(s2 s3 s4:Sl)(q0:ρ=[.val false (bD m ws),.eY (.k kvs),s2,s3,s4])(q1:A3 (fr s2=true) (fr s3=true) (fr s4=true))(q2:r=us.map cD)(q3:eV++us=cs)(q4:WD ws eV kvs)
theorem Bp{w n B:Nat}{m:Int}{ws:List Wy}{Q:R->List Sl->Prop}(hB:∀cs fs F d,um m ws cs fs F d->cs.length<=B)(hB2:B<=16000000)(hw:B+200<=w)(h:HN m ws)(hr:∀v∈ws,0<=v.r)(k:∀cs fs F d es kvs,cs.length<=B->Ends m ws cs fs F d es->WD ws cs kvs->Q (.own (kvs.map jW)) [.val false (bD m ws)]):(run Γ w (n+5) 9 [.val false (bD m ws)]).sat Q:=by
 refine aU (d:=f9) rfl rfl (by decide) ?_;symm;simp[f9,J1];apply ak;simp;refine FT hB hB2 hw h hr fun cs fs F d es hl hE=>?_;simp;refine bG (JBn m ws cs) ?_ ?_ ⟨[],cs,[],.aP,.aP,.aP,rfl,⟨rfl,rfl,rfl⟩,rfl,rfl,⟨by simp,by simp,by simp,fun T=>rfl⟩⟩;.rintro d r _⟨eV,us,kvs,s2,s3,s4,rfl,⟨h2,h3,h4⟩,hr,hd,hb⟩;cases us with|nil=>cases hr|cons u us=>
     obtain⟨rfl,rfl⟩:d=cD u/\r=us.map cD:=by simpa using hr
     have hu:u∈cs:=by rw[<-hd];simp
     have hck:=hE.ck u hu;have hdl:eV.length<=cs.length:=by rw[<-hd];simp
     have hkl:=hb.len;have hd2:(eV++[u])++us=cs:=by rw[append_assoc];exact hd
     simp[cD,h2,h3];apply ak;simp;refine yh hck.2 (by have:=hck.1;omega) ?_;simp[h4];apply ak;simp[JN,QG,Ri];rw[V3 (by show _<16777216;omega)];simp;exact⟨eV++[u],us,_,_,_,_,rfl,⟨rfl,rfl,rfl⟩,rfl,hd2,hb.put (hE.iv.nn u hu)⟩
 . rintro _⟨eV,us,kvs,s2,s3,s4,rfl,⟨h2,h3,h4⟩,hr,hd,hb⟩;have:us=[]:=by cases us with|nil=>rfl|cons _ _=>cases hr
   subst this;rw[append_nil]at hd;subst hd;have hkl:=hb.len;have hso:sortable (kvs.map jW)=true:=by
    have:(kvs.map jW).all vZ=true:=by rw[all_eq_true];intro x hx;obtain⟨p,_,rfl⟩:=mem_map.mp hx;rfl
    simp only[sortable,length_map,this,Bool.or_true,Bool.and_true,decide_eq_true_eq];omega
   obtain⟨us,e1,e2⟩:=Ko kvs;simp;apply ak;simp[hso,e1];exact k eV fs F d es us hl hE ⟨(e2.map _).nodup_iff.mpr hb.nd,by rw[e2.length_eq];exact hb.len,fun kv hkv=>hb.nn kv (e2.mem_iff.mp hkv),fun T=>by rw[FP e2];exact hb.sm T⟩
noncomputable def Za(T:Int)(d:D):Option D:=if(SJ d).1<=T then some (.int ((SJ d).2*(T-(SJ d).1+1)))else none
theorem Ed{T:Int}:∀(kvs:List (Int×Int)),∃ns:List Int,(kvs.map jW).filterMap (Za T)=ns.map D.int/\ns.sum=lF T kvs
 |[]=>⟨[],rfl,rfl⟩|kv::r=>by
   obtain⟨ns,h1,h2⟩:=Ed (T:=T) r;have e:Za T (jW kv)=if kv.1<=T then some (.int (kv.2*(T-kv.1+1)))else none:=rfl;rw[map_cons,filterMap_cons,h1,lF,<-h2,e];unfold vt;by_cases c:kv.1<=T;.rw[if_pos c,if_pos c];exact⟨_::ns,rfl,by rw[sum_cons]⟩
   .rw[if_neg c,if_neg c];exact⟨ns,rfl,by omega⟩
inductive F2t(a b:Sl)(ρ:List Sl):Prop where|mk(s:Sl)(t:Sl)(q0:ρ=[a,b,s,t])(q1:fr s=true)(q2:fr t=true)
theorem yp{w n:Nat}{T:Int}{kvs:List (Int×Int)}{s:Sl}{Q:R->List Sl->Prop}(hs:s=.own false (kvs.map jW)\/s=.val false (.lst (kvs.map jW)))(hl:kvs.length<=16000000)(h0:∀kv∈kvs,0<=kv.1)(hT:T<=1000000000000000000)(k:Q (.val (.int (lF T kvs))) [s,.val false (.int T)]):(run Γ w (n+1) 10 [s,.val false (.int T)]).sat Q:=by refine aU (d:=Y6) rfl rfl (by decide) ?_;symm;rcases hs with rfl|rfl;all_goals
  simp[Y6,show kvs.length<=16777216 by omega];refine Cj (F2t _ _) (Za T) ⟨.aP,.aP,rfl,rfl,rfl⟩ ?_ ?_
  . rintro d hd _⟨s,t,rfl,hs,ht⟩;obtain⟨kv,hkv,rfl⟩:=mem_map.mp hd;have:=h0 kv hkv;have e:Za T (jW kv)=if kv.1<=T then some (.int (kv.2*(T-kv.1+1)))else none:=rfl;by_cases c:kv.1<=T
    . rw[if_pos c]at e;have hm:kh (.int kv.2) (.int (T-kv.1+1))=some (.val (.int (kv.2*(T-kv.1+1)))):=by show(if _ then _ else _)=_;rw[if_pos];right;omega
      rw[e];simp[hs,ht,jW,c,hm];exact⟨_,_,rfl,rfl,rfl⟩
    .rw[if_neg c]at e;rw[e];simp[hs,ht,jW,c];exact⟨_,_,rfl,rfl,rfl⟩
  .rintro _⟨s,t,rfl,hs,ht⟩;obtain⟨ns,h1,h2⟩:=Ed (T:=T) kvs;rw[h1];simp[iB,h2];exact k
theorem ou{w n B:Nat}{m T:Int}{ws:List Wy}{Q:R->List Sl->Prop}(hB:∀cs fs F d,um m ws cs fs F d->cs.length<=B)(hB2:B<=16000000)(hw:B+200<=w)(h:HN m ws)(hr:∀v∈ws,0<=v.r)(h0:0<=T)(hT:T<=1000000000000000000)(k:∀v,mQ m ws T v->Q (.val (.int v)) [.val false (bD m ws),.val false (.int T)]):(run Γ w (n+6) 11 [.val false (bD m ws),.val false (.int T)]).sat Q:=by refine aU (d:=f11) rfl rfl (by decide) ?_;symm;simp[f11];refine Bp hB hB2 hw h hr fun cs fs F d es kvs hl hE hb=>?_;simp;refine yp (by first|exact .inl rfl|exact .inr rfl) (by have:=hb.len;omega) hb.nn hT ?_;simp;exact k _ (by rw[hb.sm];exact hE.iv.least hE.cm hE.no h0)
noncomputable def di(row:List Int)(i:Int):Int:=row.getD i.toNat 0
theorem zp{row:List Int}{i:Int}(h0:0<=i)(h:i<(row.length:Int)):at' (row.map D.int) i=some (.int (di row i)):=by
 rw[oO h0 (by simpa using h)];have:i.toNat<row.length:=by omega
 simp[di,this]
inductive JSm(ws:List Wy)(q:Int->Int)(a0 a1:Sl)(r:List D)(ρ:List Sl):Prop where|mk(us:List Wy)(f:Int)(s3 s4 s5 s6:Sl)(q0:ρ=[a0,a1,.val false (.int f),s3,s4,s5,s6])(q1:A4 (fr s3=true) (fr s4=true) (fr s5=true) (fr s6=true))(q2:r=us.map Wy.d)(q3:(∀u∈us,u∈ws))(q4:f+fK q us=fK q ws)
theorem Ej{w n:Nat}{m:Int}{ws:List Wy}{row:List Int}{Q:R->List Sl->Prop}(h:qR m ws)(hl:(row.length:Int)=m)(k:Q (.val (.int (fK (di row) ws))) [.val false (bD m ws),.val false (.lst (row.map D.int))]):(run Γ w (n+1) 17 [.val false (bD m ws),.val false (.lst (row.map D.int))]).sat Q:=by
 refine aU (d:=Zw) rfl rfl (by decide) ?_;symm;simp[Zw];apply ak;simp;refine bG (JSm ws (di row) _ _) ?_ ?_ ⟨ws,0,.aP,.aP,.aP,.aP,rfl,⟨rfl,rfl,rfl,rfl⟩,rfl,fun _ h=>h,by omega⟩;.rintro d r _⟨us,f,s3,s4,s5,s6,rfl,⟨h3,h4,h5,h6⟩,hr,hu,hf⟩;cases us with|nil=>cases hr|cons u us=>
     obtain⟨rfl,rfl⟩:d=Wy.d u/\r=us.map Wy.d:=by simpa using hr
     have ho:=h.ok u (hu u (by simp));have a1:=zp (row:=row) ho.s0 (by have:=ho.s1;omega);have a2:=zp (row:=row) ho.t0 (by have:=ho.t1;omega);have r0:=ho.r0;have r1:=ho.r1;have hm:∀y,kh (.int u.r) (.int y)=some (.val (.int (u.r*y))):=fun y=>by show(if _ then _ else _)=_;rw[if_pos];left;omega
     have hf2:f+(mH (di row) u+fK (di row) us)=fK (di row) ws:=hf;simp[Wy.d,h3,h4,h5,h6];apply ak;simp[a1,a2,hm];have hd:mH (di row) u=u.r*(if u.h<di row u.t-di row u.s then di row u.t-di row u.s-u.h else 0):=by unfold mH;congr 1;split<;>omega
     rw[<-hd];exact⟨us,f+mH (di row) u,.val false (.int u.s),.val false (.int u.t),.val false (.int u.r),.val false (.int u.h),rfl,⟨rfl,rfl,rfl,rfl⟩,rfl,fun x hx=>hu x (by simp[hx]),by omega⟩
 . rintro _⟨us,f,s3,s4,s5,s6,rfl,⟨h3,h4,h5,h6⟩,hr,hu,hf⟩;have:us=[]:=by cases us with|nil=>rfl|cons _ _=>cases hr
   subst this;have hf2:f+0=fK (di row) ws:=hf;simp;apply ak;simp;rw[show f=fK (di row) ws by omega];exact k
noncomputable def jO(T:Int)(row:List Int):List (List Int):=(List.range (T+2).toNat).map fun(h:Nat)=>row++[(h:Int)]
noncomputable def cP(T:Int):Nat->List (List Int)|0=>[[0]]|j+1=>(cP T j).flatMap (jO T)
noncomputable def vy(row:List Int):D:=.lst (row.map D.int)
theorem o5{T:Int}(hT:T<=12):∀{j:Nat},(cP T j).length<=14^j
 |0=>by simp[cP]|j+1=>by
   rw[cP,List.length_flatMap];have ih:=o5 hT (j:=j);have:∀(l:List (List Int)),(l.map fun a=>(jO T a).length).sum<=l.length*14:=fun l=>by induction l with|nil=>simp|cons a l ih=>
      rw[map_cons,sum_cons,length_cons];have:(jO T a).length<=14:=by simp[jO];omega
      omega
   have:=this (cP T j);rw[Nat.pow_succ];omega
theorem iV{T:Int}:∀{j:Nat}{row:List Int},row∈cP T j->row.length=j+1/\row[0]?=some 0|0,row,h=>by rw[cP,mem_singleton]at h;subst h;simp|j+1,row,h=>by rw[cP,List.mem_flatMap]at h;obtain⟨r,hr,h⟩:=h;obtain⟨i,_,rfl⟩:=mem_map.mp h;have:=iV hr;refine⟨by simp[this.1],?_⟩;rw[getElem?_append_left (by omega)];exact this.2
theorem pO{T:Int}{q:Int->Int}(q0:q 0=0)(hq:∀i,0<=q i/\q i<=T+1):∀{j:Nat},(List.range (j+1)).map (fun(i:Nat)=>q (i:Int))∈cP T j
 |0=>by simp[cP,q0]|j+1=>by
   rw[cP,List.mem_flatMap];refine⟨_,pO q0 hq (j:=j),?_⟩;refine mem_map.mpr ⟨(q ((j+1:Nat):Int)).toNat,?_,?_⟩;.have:=hq ((j+1:Nat):Int);rw[mem_range];omega
   .rw[List.range_succ (n:=j+1),map_append,Int.toNat_of_nonneg (hq _).1];rfl
theorem Ka{c:Call}{n x:Nat}{e:P}{ρ:List Sl}:ex c n (.Hy x e) ρ=(lift (yF ρ x) ρ).bind fun _ ρ=>(ev c e ρ).bind fun r ρ=>match ρ[x]?,r with|some (.own b ds),.own es=>if ds.length+es.length<=lim then .ok .next (ρ.set x (.own b (ds++es)))else .stuck|_,_=>.stuck:=(rfl)
def LO(s:Sl)(ds:List D):Prop:=s=.own false ds\/s=.val false (.lst ds)
inductive JAc(T:Int)(a0 a1:Sl)(i:Nat)(ρ:List Sl):Prop where|mk(s2:Sl)(s3:Sl)(s4:Sl)(s5:Sl)(q0:ρ=[a0,a1,s2,s3,s4,s5])(q1:LO s2 ((cP T i).map vy))(q2:A3 (fr s3=true) (fr s4=true) (fr s5=true))
inductive JAd(T:Int)(rows:List (List Int))(a0 a1 a2 a3:Sl)(r:List D)(ρ:List Sl):Prop where|mk(eV us:List (List Int))(s5:Sl)(q0:ρ=[a0,a1,a2,a3,.own false ((eV.flatMap (jO T)).map vy),s5])(q1:fr s5=true)(q2:r=us.map vy)(q3:eV++us=rows)
inductive F6a(a0 a1 a2 a3 a4 a5:Sl)(ρ:List Sl):Prop where|mk(s:Sl)(q0:ρ=[a0,a1,a2,a3,a4,a5,s])(q1:fr s=true)
noncomputable def RT(row:List Int):D->D|.int h=>vy (row++[h])|d=>d
noncomputable def OD(x:Int):D->D|.lst ds=>.lst (ds++[.int x])|d=>d
theorem wI{T:Int}{row:List Int}(h:T<=12):(jO T row).length<=14:=by simp[jO];omega
theorem wB{T:Int}(hT:T<=12):∀{l:List (List Int)},(l.flatMap (jO T)).length<=l.length*14|[]=>by simp|a::l=>by have h1:=wB hT (l:=l);have h2:=wI (row:=a) hT;rw[List.flatMap_cons,length_append,length_cons];omega
theorem Kc{w n:Nat}{m T:Int}{Q:R->List Sl->Prop}(m0:2<=m)(m1:m<=6)(h0:0<=T)(hT:T<=12)(k:Q (.own (((cP T (m-2).toNat).map fun row=>row++[T+1]).map vy)) [.val false (.int m),.val false (.int T)]):(run Γ w (n+1) 18 [.val false (.int m),.val false (.int T)]).sat Q:=by
 refine aU (d:=ZW) rfl rfl (by decide) ?_;symm;simp[ZW];have bnd:∀i:Nat,i<=4->(cP T i).length<=38416:=fun i hi=>by
  have h1:=o5 hT (j:=i);have:i=0\/i=1\/i=2\/i=3\/i=4:=by omega
  rcases this with rfl|rfl|rfl|rfl|rfl<;>omega
 refine dC (JAc T (.val false (.int m)) (.val false (.int T)) (m-2).toNat) ?_ ?_
 . simp[show m-1<=1000000000 by omega,show-1000000000<=m-1 by omega];rw[show m.toNat-1-1=(m-2).toNat by omega];refine p6 (JAc T (.val false (.int m)) (.val false (.int T))) ?_ ?_ ⟨_,.aP,.aP,.aP,rfl,.inl rfl,rfl,rfl,rfl⟩
   . rintro i _ hi⟨s2,s3,s4,s5,rfl,h2,h3,h4,h5⟩;have hb:=bnd i (by omega);simp[h3];apply ak;simp[h4];refine dC (fun ρ=>∃s2 s5,ρ=[.val false (.int m),.val false (.int T),s2,.val false (.int (1+(i:Int))),.own false ((cP T (i+1)).map vy),s5]/\LO s2 ((cP T i).map vy)/\fr s5=true) ?_ ?_;.rcases h2 with rfl|rfl;all_goals
        simp;refine bG (JAd T (cP T i) _ _ _ _) ?_ ?_ ⟨[],cP T i,s5,rfl,h5,rfl,rfl⟩;.rintro d r _⟨eV,us,s5,rfl,h5,hr,hd⟩;cases us with|nil=>cases hr|cons u us=>
            obtain⟨rfl,rfl⟩:d=vy u/\r=us.map vy:=by simpa using hr
            have hdl:eV.length<=(cP T i).length:=by rw[<-hd];simp
            have hfl:=wB hT (l:=eV);have hd2:(eV++[u])++us=cP T i:=by rw[append_assoc];exact hd
            have hul:=(iV (T:=T) (j:=i) (row:=u) (by rw[<-hd];simp)).1;have hal:=wI (row:=u) hT;simp[h5];apply ak;simp[Ka,show T+2<=1000000000 by omega,show-1000000000<=T+2 by omega];refine⟨fun _=>?_,by omega⟩;refine gb (F6a _ _ _ _ _ _) (RT u) ⟨.aP,rfl,rfl⟩ ?_ ?_;.rintro d hd _⟨s,rfl,hs⟩;obtain⟨j,_,rfl⟩:=mem_map.mp hd;simp[hs,vy,RT,show u.length+1<=lim by show _<=16777216;omega];exact⟨_,rfl,rfl⟩
            . rintro _⟨s,rfl,hs⟩;have e:((List.range (T+2).toNat).map fun(k:Nat)=>D.int (k:Int)).map (RT u)=(jO T u).map vy:=by rw[map_map,jO,map_map];rfl
              have e2:(eV++[u]).flatMap (jO T)=eV.flatMap (jO T)++jO T u:=by simp
              rw[e];have hlen:(List.flatMap (jO T) eV).length+(jO T u).length<=lim:=by show _<=16777216;omega
              simp only[List.getElem?_cons_succ,List.getElem?_cons_zero,length_map];rw[if_pos hlen];simp;exact⟨eV++[u],us,.val false (vy u),by rw[e2,map_append],rfl,rfl,hd2⟩
        . rintro _⟨eV,us,s5,rfl,h5,hr,hd⟩;have:us=[]:=by cases us with|nil=>rfl|cons _ _=>cases hr
          subst this;rw[append_nil]at hd;subst hd;simp;exact⟨_,_,⟨rfl,rfl,rfl⟩,by first|exact .inl rfl|exact .inr rfl,h5⟩
     .rintro _⟨s2,s5,rfl,h2,h5⟩;symm;rcases h2 with rfl|rfl;all_goals simp;exact⟨_,_,_,_,rfl,.inr rfl,rfl,rfl,h5⟩
   .rintro _⟨s2,s3,s4,s5,rfl,h2,h3,h4,h5⟩;exact⟨rfl,_,_,_,_,rfl,h2,h3,h4,h5⟩
 rintro _⟨s2,s3,s4,s5,rfl,h2,h3,h4,h5⟩;have hb:=bnd (m-2).toNat (by omega);symm;rcases h2 with rfl|rfl;all_goals
  simp[show(cP T (m-2).toNat).length<=16777216 by omega];refine gb (F6a _ _ _ _ _ _) (OD (T+1)) ⟨.aP,rfl,rfl⟩ ?_ ?_;.rintro d hd _⟨s,rfl,hs⟩;obtain⟨u,hu,rfl⟩:=mem_map.mp hd;have hul:=(iV hu).1;simp[hs,vy,OD,show u.length+1<=lim by show _<=16777216;omega];exact⟨_,rfl,rfl⟩
  . rintro _⟨s,rfl,hs⟩;have e:((cP T (m-2).toNat).map vy).map (OD (T+1))=((cP T (m-2).toNat).map fun row=>row++[T+1]).map vy:=by rw[map_map,map_map];refine map_congr_left fun row _=>?_;show D.lst (row.map D.int++[.int (T+1)])=D.lst ((row++[T+1]).map D.int);rw[map_append];rfl
    rw[e];simpa using k
noncomputable def dlD(ws:List Wy):D->D|.lst ds=>.int (fK (di (ds.map cu)) ws)|d=>d
theorem uA(S:List Int):(S.map D.int).map cu=S:=by rw[map_map];exact(map_congr_left fun _ _=>rfl).trans (map_id _)
noncomputable def JH(T:Int)(q:Int->Int)(p:Int):Int:=max 0 (min (T+1) (q p))
theorem zr{H K:Wy->Int}:∀{ws:List Wy},(∀v∈ws,H v<=K v)->mY H ws<=mY K ws|[],_=>Int.le_refl _|v::ws,h=>by have h1:=h v (by simp);have h2:=zr (H:=H) (K:=K) (ws:=ws) fun u hu=>h u (by simp[hu]);rw[mY,mY];omega
theorem Ft{m T:Int}{ws:List Wy}{q r:Int->Int}(h:qR m ws)(hr:∀p,0<=p->p<m->r p=JH T q p):fK r ws<=fK q ws:=zr fun v hv=>by have ho:=h.ok v hv;have h0:=ho.h0;unfold mH;refine Int.mul_le_mul_of_nonneg_left ?_ ho.r0;rw[hr _ ho.s0 ho.s1,hr _ ho.t0 ho.t1];unfold JH;omega
theorem yC{m T v:Int}{ws:List Wy}(h:qR m ws)(h0:0<=T)(hv:mQ m ws T v):(∀row∈(cP T (m-2).toNat).map fun row=>row++[T+1],v<=fK (di row) ws)/\∃row∈(cP T (m-2).toNat).map fun row=>row++[T+1],fK (di row) ws<=v:=by
 have m0:=h.m0;refine⟨fun row hrow=>?_,?_⟩
 . obtain⟨u,hu,rfl⟩:=mem_map.mp hrow;have:=iV hu;refine hv.le _ ?_ ?_;.unfold di;rw[getD_eq_getElem?_getD,show(0:Int).toNat=0 from rfl,getElem?_append_left (by omega),this.2];rfl
   .unfold di;rw[getD_eq_getElem?_getD,getElem?_append_right (by omega),show(m-1).toNat-u.length=0 by omega];rfl
 . obtain⟨q,q0,q1,q2⟩:=hv.ex;have hc:∀i,0<=JH T q i/\JH T q i<=T+1:=fun i=>by unfold JH;omega
   have hm:=pO (T:=T) (q:=JH T q) (by unfold JH;omega) hc (j:=(m-2).toNat);refine⟨_,mem_map.mpr ⟨_,hm,rfl⟩,?_⟩;rw[<-q2];refine Ft (T:=T) h fun p p0 p1=>?_;unfold di;rw[getD_eq_getElem?_getD];by_cases c:p=m-1;.rw[getElem?_append_right (by simp;omega),c];simp only[length_map,length_range];rw[show(m-1).toNat-((m-2).toNat+1)=0 by omega];show T+1=_;unfold JH;omega
   .rw[getElem?_append_left (by simp;omega),getElem?_map,List.getElem?_range (by omega)];show JH T q (p.toNat:Int)=_;rw[Int.toNat_of_nonneg p0]
theorem xP{w n:Nat}{m T:Int}{ws:List Wy}{Q:R->List Sl->Prop}(h:qR m ws)(h0:0<=T)(hT:T<=12)(k:∀d,(∀v,mQ m ws T v->v=d)->Q (.val (.int d)) [.val false (bD m ws),.val false (.int T)]):(run Γ w (n+2) 19 [.val false (bD m ws),.val false (.int T)]).sat Q:=by
 have m0:=h.m0;have m1:=h.m1;have hb:(cP T (m-2).toNat).length<=38416:=by
  have h1:=o5 hT (j:=(m-2).toNat);have:(m-2).toNat=0\/(m-2).toNat=1\/(m-2).toNat=2\/(m-2).toNat=3\/(m-2).toNat=4:=by omega
  rcases this with e|e|e|e|e<;>rw[e]at h1 ⊢<;>omega
 refine aU (d:=YM) rfl rfl (by decide) ?_;symm;simp[YM];refine Kc m0 m1 h0 hT ?_;have hrl:∀row∈(cP T (m-2).toNat).map fun row=>row++[T+1],(row.length:Int)=m:=fun row hrow=>by obtain⟨u,hu,rfl⟩:=mem_map.mp hrow;have:=(iV hu).1;simp;omega
 have hne:(cP T (m-2).toNat).map (fun row=>row++[T+1])≠[]:=by have:=pO (T:=T) (q:=fun _=>0) rfl (fun i=>by omega) (j:=(m-2).toNat);intro z;rw[List.map_eq_nil_iff]at z;rw[z]at this;cases this
 have hlr:∀v,mQ m ws T v->_:=fun v hv=>yC h h0 hv;have hb2:((cP T (m-2).toNat).map fun row=>row++[T+1]).length<=38416:=by rw[length_map];exact hb
 generalize((cP T (m-2).toNat).map fun row=>row++[T+1])=rows at*;simp[show rows.length<=16777216 by omega];refine gb (F2s _ _) (dlD ws) ⟨.aP,rfl,rfl⟩ ?_ ?_;.rintro d hd _⟨s,rfl,hs⟩;obtain⟨u,hu,rfl⟩:=mem_map.mp hd;simp[hs,vy];refine Ej h (hrl u hu) ?_;simp;refine⟨?_,_,rfl,rfl⟩;show D.int (fK (di ((u.map D.int).map cu)) ws)=_;rw[uA]
 . rintro _⟨s,rfl,hs⟩;have e:(rows.map vy).map (dlD ws)=(rows.map fun row=>fK (di row) ws).map D.int:=by rw[map_map,map_map];refine map_congr_left fun row _=>?_;show D.int (fK (di ((row.map D.int).map cu)) ws)=_;rw[uA];rfl
   rw[e];obtain⟨x,hx1,hx2,UW⟩:=Fw (ns:=rows.map fun row=>fK (di row) ws) (by simpa using hne);have hx:∀v,mQ m ws T v->v=x:=fun v hv=>by obtain⟨a1,row,a2,a3⟩:=hlr v hv;obtain⟨ie,b1,b2⟩:=mem_map.mp hx2;have c1:=a1 ie b1;have c2:=UW _ (mem_map.mpr ⟨row,a2,rfl⟩);omega
   generalize(rows.map fun row=>fK (di row) ws)=ns at*;simp[iB,hx1];exact k x hx
theorem vQ{w n:Nat}{i:Int}{Q:R->List Sl->Prop}(k:Q (.val (.bl true)) [.val false (.int i),.val false (.int i)]):(run Γ w (n+1) 21 [.val false (.int i),.val false (.int i)]).sat Q:=by refine aU (d:=Zm) rfl rfl (by decide) ?_;symm;simp[Zm];exact k
theorem KN{w n:Nat}{x y z m:Int}{ws:List Wy}{Q:R->List Sl->Prop}(m0:2<=m)(m1:m<=6)(k:∀d x z:Int,0<=d->d<=12->Q (.val (.int d)) [.own true [.int x,.int y,.int z],.val false (bD m ws)]):(run Γ w (n+2) 20 [.own true [.int x,.int y,.int z],.val false (bD m ws)]).sat Q:=by refine aU (d:=Zb) rfl rfl (by decide) ?_;symm;obtain⟨b,e,b0,b1⟩:=wL (ns:=[13,13,13,13,13,7,4]) (i:=m) (lo:=4) (hi:=13) (by omega) (by simp;omega) (by simp);simp only[map_cons,map_nil]at e;simp[Zb,e];refine cB (by omega) (xY (by omega)) fun d x z d0 d1=>?_;simp;exact k d x z d0 (by omega)
theorem zA{k:Int}:∀{ns ks:List Int},k∈ns.foldl HH.DG ks->k∈ks\/k∈ns
 |[],ks,h=>.inl h|n::ns,ks,h=>by
   rw[foldl_cons]at h;rcases zA h with h|h
   . unfold HH.DG at h;split at h;.exact .inl h
     . rcases mem_append.mp h with h|h;.exact .inl h
       .exact .inr (by rw[mem_singleton.mp h];simp)
   .exact .inr (by simp[h])
theorem Ey{S:List Int}(hl:S.length<=60):∃us:List Int,blt .sset [.lst (S.map D.int)]=some (.own (us.map D.int))/\∀u∈us,u∈S:=by
 have hp:=fW ((dg S).map D.int);refine⟨(jQ ((dg S).map D.int)).map cu,?_,fun u hu=>?_⟩;.show(if _ then _ else _)=_;rw[if_pos ⟨by rw[length_map];omega,by rw[all_eq_true];intro x hx;obtain⟨i,_,rfl⟩:=mem_map.mp hx;rfl⟩,uA,map_map];congr 2;refine(map_id _).symm.trans (map_congr_left fun d hd=>?_);obtain⟨p,_,rfl⟩:=mem_map.mp (hp.mem_iff.mp hd);rfl
 . obtain⟨d,hd,rfl⟩:=mem_map.mp hu;obtain⟨p,hp',rfl⟩:=mem_map.mp (hp.mem_iff.mp hd);rcases zA (ns:=S) (ks:=[]) hp' with h|h;.cases h
   .exact h
theorem Gq{b:Int}:∀{ws:List Wy},(∀v∈ws,v.r<=b)->Vq ws<=b*ws.length|[],_=>by simp[Vq,mY]|v::ws,h=>by have h1:=h v (by simp);have h2:=Gq (b:=b) (ws:=ws) fun u hu=>h u (by simp[hu]);have e:Vq (v::ws)=v.r+Vq ws:=rfl;rw[e,length_cons,show((ws.length+1:Nat):Int)=(ws.length:Int)+1 by omega,mul_add];omega
inductive J35(v:Sl)(r:List D)(ρ:List Sl):Prop where|mk(s1:Sl)(s2:Sl)(s3:Sl)(s4:Sl)(s5:Sl)(s6:Sl)(q0:ρ=[v,s1,s2,s3,s4,s5,s6])(q1:A6 (fr s1=true) (fr s2=true) (fr s3=true) (fr s4=true) (fr s5=true) (fr s6=true))(q2:∀d∈r,∃i,d=D.int i)
inductive K35(a0 a1 a2 a3 a4:Sl)(r:List D)(ρ:List Sl):Prop where|mk(s5:Sl)(s6:Sl)(q0:ρ=[a0,a1,a2,a3,a4,s5,s6])(q1:(fr s5=true/\fr s6=true))(q2:∀d∈r,∃i,d=D.int i/\0<=i/\i<=12)
theorem Jo(ns:List Int)(hn:ns.length<=63):∃as,run Γ 1000 40 22 [.val false (.lst (ns.map D.int))]=.ok (.val (.bl true)) as:=by
 suffices h:(run Γ 1000 40 22 [.val false (.lst (ns.map D.int))]).sat fun r _=>r=.val (.bl true)by obtain⟨a,ρ,e,rfl⟩:=sat_iff.mp h;exact⟨ρ,e⟩
 refine aU (d:=Zv) rfl rfl (by decide) ?_;symm;simp[Zv];refine yG (m:=8) rfl (by decide) (by decide) hn fun cs hcs=>?_;have hl:1+cs.length<=lim:=by show _<=16777216;omega
 simp[hl];refine bG (J35 (.val false (.lst (ns.map D.int)))) ?_ ?_ ?_
 . rintro d r _⟨s1,s2,s3,s4,s5,s6,rfl,⟨h1,h2,h3,h4,h5,h6⟩,hd⟩;obtain⟨x,rfl⟩:=hd d (by simp);simp[h1];apply ak;simp;refine Gu fun a y c=>?_;simp[h2];apply ak;simp;refine Jj fun m ws a c hk hs=>?_;simp[h3];apply ak;simp;refine KN hk.m0 hk.m1 fun T a c t0 t1=>?_;have hN:=HN.of hk;have hr0:∀v∈ws,0<=v.r:=fun v hv=>(hk.ok v hv).r0;have hB:∀cs fs F d,um m ws cs fs F d->cs.length<=108:=fun cs fs F d hI=>by have h1:=hI.few hk.m0;have h2:=Gq (b:=9) (ws:=ws) fun v hv=>(hs v hv).1;have h3:=hk.len;omega
   obtain⟨us,e1,e2⟩:=Ey (S:=[if 1<T then T-1 else 0,T,0]) (by simp);have hus:∀d∈us.map D.int,∃i,d=D.int i/\0<=i/\i<=12:=fun d hd=>by
    obtain⟨i,hi,rfl⟩:=mem_map.mp hd;have:=e2 i hi;simp only[mem_cons,not_mem_nil,or_false]at this;have hi2:(if 1<T then T-1 else 0)=T-1/\1<T\/(if 1<T then T-1 else 0)=0:=by split<;>simp[*]
    exact⟨i,rfl,by omega,by omega⟩
   simp only[map_cons,map_nil]at e1;simp[h4];apply ak;simp[e1];refine bG (K35 _ _ _ _ _) ?_ ?_ ⟨s5,s6,rfl,⟨h5,h6⟩,hus⟩;.rintro d r _⟨s5,s6,rfl,⟨h5,h6⟩,hd⟩;obtain⟨i,rfl,i0,i1⟩:=hd d (by simp);simp[h5];apply ak;simp;refine xP hk i0 i1 fun q hq=>?_;simp[h6];apply ak;simp;refine ou hB (by omega) (by omega) hN hr0 i0 (by omega) fun v hv=>?_;obtain rfl:=hq v hv;simp;refine vQ ?_;simp;apply ak;simp;refine ou hB (by omega) (by omega) hN hr0 i0 (by omega) fun v' hv'=>?_;obtain rfl:=hq v' hv';simp;refine vQ ?_;simp;exact⟨_,_,rfl,⟨rfl,rfl⟩,fun d h=>hd d (mem_cons_of_mem _ h)⟩
   .rintro _⟨s5,s6,rfl,⟨h5,h6⟩,hd2⟩;simp;exact⟨_,_,_,_,_,_,rfl,⟨rfl,rfl,rfl,rfl,h5,h6⟩,fun d h=>hd d (mem_cons_of_mem _ h)⟩
 .rintro _⟨s1,s2,s3,s4,s5,s6,rfl,⟨h1,h2,h3,h4,h5,h6⟩,hd⟩;symm;simp
 . refine⟨_,_,_,_,_,_,rfl,⟨rfl,rfl,rfl,rfl,rfl,rfl⟩,fun d hd=>?_⟩;simp at hd;rcases hd with rfl|⟨i,_,rfl⟩;.exact⟨_,rfl⟩
   .exact⟨_,rfl⟩
end T
end
structure PySem.W.Fast:Prop where(tw17856735112828423082 tw452048937226336620 tw12978730799253318163 tw11870111221665720985 tw14585473814428838494 tw15241907247537385743 tw10417996134708330032 tw3362273568399996870 tw16951496626430787051 tw2383192401420361720 tw12620652574577062607 tw14797196694139658041 tw893081937827580865 tw14264136438714127377 tw233823936277539779 tw4801755294188824595 tw16632423550502786895 tw3679354618383829603 tw11418272676628507507 tw10217206347814108989 tw17391548056453648528 tw6769352787365382971 tw6475337132296373764 tw5536535845841295539 tw11453535392111491531 tw9123342416092260309 tw3789343811277573222 tw17620132583874167547 tw6867146251728561515 tw8276697456022198258 tw115448355519865430 tw7191109535581935733 tw9608016811167514175 tw2064874585954752254 tw7261201614692971155 tw14054746198785770467 tw18276391190177971730 tw3745635814842070535 tw14153242661620909498 tw4993592243148438392 tw5863066187145733166 tw3212437420023739199 tw5063418942001647811 tw18320736675672926953 tw16305173925554472840 tw17641603670755261607 tw923156301333035068 tw12127193727141481210 tw17392069200385366254 tw7112533820519283042 tw15789171876954048803 tw1038470270612741036 tw10310716681719144552 tw1426992050776722031 tw365392869916702464 tw13833873431233294494 tw2136052361842754207 tw16514844071729447560 tw10678581361579193577 tw4306141416420356920 tw13923675177898191911 tw4051136170735952762 tw16938247051872625214 tw4059933129124879837 tw3866756576191226512 tw4326854227083773935 tw18072049167853846706 tw12907950081007569518 tw14306046047367168638 tw3121878501440019118 tw13599169446485884674 tw15475147923811475519 tw5861602200193010613 tw17390512279179583975 tw12733721391007250183 tw17528159625765750136 tw5088576675880800840 tw6800097007158017734 tw8087299781974134122 tw12807077411973797376 tw7702930769481748603 tw14853313317900526455 tw5133304332854538824 tw4050518623186194915 tw16440814586346399928 tw1676175872306433267 tw16810695845238374719 tw16781746643309148809 tw13745508299203458481 tw12436209927616679595 tw4587110920320021136 tw16380451776314615393 tw8320356657325632843 tw16746546894450392214 tw7647900952574691179 tw15625134584411370469 tw16904642367199776716 tw11606357862500640318 tw12976477820519742357 tw2300961219566499991 tw5161605544073862829 tw7101851771948237704 tw3236297326715268194 tw12197675282229268920 tw5433084613775212221 tw9244398486795608733 tw13007657663840889478 tw8860036251025637203 tw13754134731656873316 tw18130519093560746887 tw3991487339732888870 tw5531583387311167339 tw6370193349133324908 tw3229094998054873122 tw17146906840828308620 tw3253953849118162581 tw8578706449696029056 tw13166048770074659421 tw1163489791421582587 tw2311915053319995123 tw5441665920215034288 tw9138030208069810164 tw3514226543438825194 tw3955339166966151672 tw8814118445526038930 tw13992885312002679560 tw675366052232085675 tw3534943644849291453 tw10172546866316306804 tw14108789044634049028 tw11622713027280399701 tw14767121896752158958 tw2234818106115394318 tw12886503635464919805 tw5395615993040878927 tw7625728887179892648 tw1938400395384421001 tw17534070677025890773 tw14896951353509631775 tw3960685491039214926 tw8911313446254114552:True)
namespace T
open PySem L2 PySem.Spec PyProof.Rows HH
theorem Vj{P:List Value → Prop}{n:Nat}(h:∀(a:Value)(us:List Value),us.length=n → P (a::us))(us:List Value)(hl:us.length=n+1):P us:=by cases us with|nil=>cases hl|cons a us=>exact h a us (Nat.succ.inj hl)
theorem lk0{P:List Value → Prop}(h:P [])(us:List Value)(hl:us.length=0):P us:=by cases us with|nil=>exact h|cons a us=>cases hl
theorem FQ{P:List Value → Prop}(h:∀a,P [a]):∀us:List Value,us.length=1 → P us:=Vj fun a=>lk0 (h a)
theorem lW{P:List Value → Prop}(h:∀a b,P [a,b]):∀us:List Value,us.length=2 → P us:=Vj fun a=>FQ (h a)
theorem Hu{P:List Value → Prop}(h:∀a b c,P [a,b,c]):∀us:List Value,us.length=3 → P us:=Vj fun a=>lW (h a)
theorem lk4{P:List Value → Prop}(h:∀a b c d,P [a,b,c,d]):∀us:List Value,us.length=4 → P us:=Vj fun a=>Hu (h a)
theorem lk5{P:List Value → Prop}(h:∀a b c d e,P [a,b,c,d,e]):∀us:List Value,us.length=5 → P us:=Vj fun a=>lk4 (h a)
local macro_rules|`(term|‹$p›)=>`(fun _ _ _ _ _ _=>$p)
structure Txt(K:PySem.W.Frag):Prop where
 D0:bL K "step_places" s0
 D1:bL K "step_hours" s1
 D2:bL K "step_room" s2
 D3:bL K "steps_hours" s3
 D4:bL K "open_steps" s4
 D5:bL K "shortest_come" s5
 D6:bL K "steps_to" s6
 D7:bL K "stream_with" s7
 D8:bL K "chains_to_end" s8
 D9:bL K "bends_of" s9
 D10:bL K "most_of" qd
 D11:bL K "most_by" ZQ
 D12:bL K "_law_pool" s12
 D13:bL K "_law_next" s13
 D14:bL K "_law_cells" s14
 D15:bL K "_law_way" s15
 D16:bL K "_law_net" s16
 D17:bL K "_law_sum" s17
 D18:bL K "_law_all_closed" s18
 D19:bL K "_law_least_sum" s19
 D20:bL K "_law_few_hours" s20
 D21:bL K "_law_number_like" s21
 D22:bL K "law" s22
 yR:PySem.W.nsIn K mainGlobals "bool"=some none
 HQ:PySem.W.nsIn K mainGlobals "int"=some none
 dH:PySem.W.nsIn K mainGlobals "isinstance"=some none
 gV:PySem.W.nsIn K mainGlobals "len"=some none
 fL:PySem.W.nsIn K mainGlobals "list"=some none
 jD:PySem.W.nsIn K mainGlobals "max"=some none
 rP:PySem.W.nsIn K mainGlobals "min"=some none
 bY:PySem.W.nsIn K mainGlobals "range"=some none
 jV:PySem.W.nsIn K mainGlobals "reversed"=some none
 Bf:PySem.W.nsIn K mainGlobals "set"=some none
 eO:PySem.W.nsIn K mainGlobals "sorted"=some none
 rO:PySem.W.nsIn K mainGlobals "sum"=some none
 jq:PySem.W.nsIn K mainGlobals "tuple"=some none
noncomputable def nu{K:PySem.W.Frag}(T:Txt K):Nat->Addr:=fun k=>0
structure Oks(Pg:Program)(w:World)(K:PySem.W.Frag)(mg:Str->Option Value)(base:Heap)(cl:Nat->Addr)(n:Nat):Prop where
 c0:aB Pg w K mg base n (run Γ 1000 n) 0 "step_places" 2
 c1:aB Pg w K mg base n (run Γ 1000 n) 1 "step_hours" 2
 c2:aB Pg w K mg base n (run Γ 1000 n) 2 "step_room" 3
 c3:aB Pg w K mg base n (run Γ 1000 n) 3 "steps_hours" 2
 c4:aB Pg w K mg base n (run Γ 1000 n) 4 "open_steps" 2
 c5:aB Pg w K mg base n (run Γ 1000 n) 5 "shortest_come" 3
 c6:aB Pg w K mg base n (run Γ 1000 n) 6 "steps_to" 3
 c7:aB Pg w K mg base n (run Γ 1000 n) 7 "stream_with" 3
 c8:aB Pg w K mg base n (run Γ 1000 n) 8 "chains_to_end" 1
 c9:aB Pg w K mg base n (run Γ 1000 n) 9 "bends_of" 1
 c10:aB Pg w K mg base n (run Γ 1000 n) 10 "most_of" 2
 c11:aB Pg w K mg base n (run Γ 1000 n) 11 "most_by" 2
 c12:aB Pg w K mg base n (run Γ 1000 n) 12 "_law_pool" 1
 Ye:aB Pg w K mg base n (run Γ 1000 n) 13 "_law_next" 2
 c14:aB Pg w K mg base n (run Γ 1000 n) 14 "_law_cells" 2
 c15:aB Pg w K mg base n (run Γ 1000 n) 15 "_law_way" 3
 c16:aB Pg w K mg base n (run Γ 1000 n) 16 "_law_net" 1
 c17:aB Pg w K mg base n (run Γ 1000 n) 17 "_law_sum" 2
 c18:aB Pg w K mg base n (run Γ 1000 n) 18 "_law_all_closed" 2
 c19:aB Pg w K mg base n (run Γ 1000 n) 19 "_law_least_sum" 2
 c20:aB Pg w K mg base n (run Γ 1000 n) 20 "_law_few_hours" 2
 c21:aB Pg w K mg base n (run Γ 1000 n) 21 "_law_number_like" 2
 c22:aB Pg w K mg base n (run Γ 1000 n) 22 "law" 1
set_option maxHeartbeats 0 in
theorem Dl{Pg:Program}{w:World}{K:PySem.W.Frag}{mg:Str->Option Value}{base:Heap}(T:Txt K)(X:K.In base)(G:base.Ns mainGlobals mg):∀n,Oks Pg w K mg base (nu T) n
 |0=>{
   c0:=cz (ps:=["net","step"]) X G T.D0 rfl ‹lW fun _ _=>rfl›
   c1:=cz (ps:=["net","step"]) X G T.D1 rfl ‹lW fun _ _=>rfl›
   c2:=cz (ps:=["net","stream","step"]) X G T.D2 rfl ‹Hu fun _ _ _=>rfl›
   c3:=cz (ps:=["net","steps"]) X G T.D3 rfl ‹lW fun _ _=>rfl›
   c4:=cz (ps:=["net","stream"]) X G T.D4 rfl ‹lW fun _ _=>rfl›
   c5:=cz (ps:=["net","stream","begun"]) X G T.D5 rfl ‹Hu fun _ _ _=>rfl›
   c6:=cz (ps:=["net","come","place"]) X G T.D6 rfl ‹Hu fun _ _ _=>rfl›
   c7:=cz (ps:=["stream","steps","loads"]) X G T.D7 rfl ‹Hu fun _ _ _=>rfl›
   c8:=cz (ps:=["net"]) X G T.D8 rfl ‹FQ fun _=>rfl›
   c9:=cz (ps:=["net"]) X G T.D9 rfl ‹FQ fun _=>rfl›
   c10:=cz (ps:=["bends","last"]) X G T.D10 rfl ‹lW fun _ _=>rfl›
   c11:=cz (ps:=["net","last"]) X G T.D11 rfl ‹lW fun _ _=>rfl›
   c12:=cz (ps:=["cell"]) X G T.D12 rfl ‹FQ fun _=>rfl›
   Ye:=cz (ps:=["pool","base"]) X G T.D13 rfl ‹lW fun _ _=>rfl›
   c14:=cz (ps:=["script","most"]) X G T.D14 rfl ‹lW fun _ _=>rfl›
   c15:=cz (ps:=["pool","many","k"]) X G T.D15 rfl ‹Hu fun _ _ _=>rfl›
   c16:=cz (ps:=["pool"]) X G T.D16 rfl ‹FQ fun _=>rfl›
   c17:=cz (ps:=["net","closed"]) X G T.D17 rfl ‹lW fun _ _=>rfl›
   c18:=cz (ps:=["many","last"]) X G T.D18 rfl ‹lW fun _ _=>rfl›
   c19:=cz (ps:=["net","last"]) X G T.D19 rfl ‹lW fun _ _=>rfl›
   c20:=cz (ps:=["pool","net"]) X G T.D20 rfl ‹lW fun _ _=>rfl›
   c21:=cz (ps:=["found","due"]) X G T.D21 rfl ‹lW fun _ _=>rfl›
   c22:=cz (ps:=["script"]) X G T.D22 rfl ‹FQ fun _=>rfl›}|n+1=>have ih:=Dl (Pg:=Pg) (w:=w) (base:=base) T X G n
   {c0:=cA (ps:=["net","step"]) X G T.D0 rfl rfl ‹lW fun _ _=>rfl› fun _ _ F=>d0 (cl:=nu T) F
    c1:=cA (ps:=["net","step"]) X G T.D1 rfl rfl ‹lW fun _ _=>rfl› fun _ _ F=>d1 (cl:=nu T) F
    c2:=cA (ps:=["net","stream","step"]) X G T.D2 rfl rfl ‹Hu fun _ _ _=>rfl› fun _ _ F=>d2 (cl:=nu T) F
    c3:=cA (ps:=["net","steps"]) X G T.D3 rfl rfl ‹lW fun _ _=>rfl› fun _ _ F=>d3 (cl:=nu T) F (mg_none_of X G T.rO) ih.c1
    c4:=cA (ps:=["net","stream"]) X G T.D4 rfl rfl ‹lW fun _ _=>rfl› fun _ _ F=>d4 (cl:=nu T) F (mg_none_of X G T.gV) (mg_none_of X G T.bY) ih.c0 ih.c2
    c5:=cA (ps:=["net","stream","begun"]) X G T.D5 rfl rfl ‹Hu fun _ _ _=>rfl› fun _ _ F=>d5 (cl:=nu T) F (mg_none_of X G T.gV) (mg_none_of X G T.fL) ih.c4 ih.c1 ih.c0
    c6:=cA (ps:=["net","come","place"]) X G T.D6 rfl rfl ‹Hu fun _ _ _=>rfl› fun _ _ F=>d6 (cl:=nu T) F (mg_none_of X G T.jV) (mg_none_of X G T.jq) ih.c0
    c7:=cA (ps:=["stream","steps","loads"]) X G T.D7 rfl rfl ‹Hu fun _ _ _=>rfl› fun _ _ F=>d7 (cl:=nu T) F (mg_none_of X G T.fL)
    c8:=cA (ps:=["net"]) X G T.D8 rfl rfl ‹FQ fun _=>rfl› fun _ _ F=>d8 (cl:=nu T) F (mg_none_of X G T.gV) (mg_none_of X G T.rP) ih.c5 ih.c2 ih.c6 ih.c7
    c9:=cA (ps:=["net"]) X G T.D9 rfl rfl ‹FQ fun _=>rfl› fun _ _ F=>d9 (cl:=nu T) F (mg_none_of X G T.eO) ih.c8 ih.c3
    c10:=cA (ps:=["bends","last"]) X G T.D10 rfl rfl ‹lW fun _ _=>rfl› fun _ _ F=>d10 (cl:=nu T) F (mg_none_of X G T.rO)
    c11:=cA (ps:=["net","last"]) X G T.D11 rfl rfl ‹lW fun _ _=>rfl› fun _ _ F=>d11 (cl:=nu T) F ih.c9 ih.c10
    c12:=cA (ps:=["cell"]) X G T.D12 rfl rfl ‹FQ fun _=>rfl› fun _ _ F=>d12 (cl:=nu T) F (mg_none_of X G T.jD)
    Ye:=cA (ps:=["pool","base"]) X G T.D13 rfl rfl ‹lW fun _ _=>rfl› fun _ _ F=>d13 (cl:=nu T) F
    c14:=cA (ps:=["script","most"]) X G T.D14 rfl rfl ‹lW fun _ _=>rfl› fun _ _ F=>d14 (cl:=nu T) F (mg_none_of X G T.gV) (mg_none_of X G T.fL) (mg_none_of X G T.bY)
    c15:=cA (ps:=["pool","many","k"]) X G T.D15 rfl rfl ‹Hu fun _ _ _=>rfl› fun _ _ F=>d15 (cl:=nu T) F ih.Ye
    c16:=cA (ps:=["pool"]) X G T.D16 rfl rfl ‹FQ fun _=>rfl› fun _ _ F=>d16 (cl:=nu T) F (mg_none_of X G T.bY) (mg_none_of X G T.jq) ih.Ye ih.c15
    c17:=cA (ps:=["net","closed"]) X G T.D17 rfl rfl ‹lW fun _ _=>rfl› fun _ _ F=>d17 (cl:=nu T) F (mg_none_of X G T.jD)
    c18:=cA (ps:=["many","last"]) X G T.D18 rfl rfl ‹lW fun _ _=>rfl› fun _ _ F=>d18 (cl:=nu T) F (mg_none_of X G T.bY)
    c19:=cA (ps:=["net","last"]) X G T.D19 rfl rfl ‹lW fun _ _=>rfl› fun _ _ F=>d19 (cl:=nu T) F (mg_none_of X G T.rP) ih.c18 ih.c17
    c20:=cA (ps:=["pool","net"]) X G T.D20 rfl rfl ‹lW fun _ _=>rfl› fun _ _ F=>d20 (cl:=nu T) F ih.Ye
    c21:=cA (ps:=["found","due"]) X G T.D21 rfl rfl ‹lW fun _ _=>rfl› fun _ _ F=>d21 (cl:=nu T) F (mg_none_of X G T.yR) (mg_none_of X G T.HQ) (mg_none_of X G T.dH)
    c22:=cA (ps:=["script"]) X G T.D22 rfl rfl ‹FQ fun _=>rfl› fun _ _ F=>d22 (cl:=nu T) F (mg_none_of X G T.jD) (mg_none_of X G T.Bf) (mg_none_of X G T.eO) ih.c14 ih.c20 ih.c19 ih.c16 ih.c21 ih.c12 ih.c11}
theorem gin{K:PySem.W.Frag}{x:Str}{i:Int}{t:Tok}(a:PySem.W.nsIn K mainGlobals x=some (some (Value.int i t))):∃t,PySem.W.nsIn K mainGlobals x=some (some (Value.int i t)):=⟨t,a⟩
set_option maxHeartbeats 0 in
theorem NZ{Pg:Program}{w:World}{K:PySem.W.Frag}{mg:Str->Option Value}{h:Heap}{fa:Addr}(T:Txt K)(X:K.In h)(G:h.Ns mainGlobals mg)(hmg:mg "law"=some (.ref fa)):∃fd:FuncData,(∀(s:Shared)(u:Value),BindsTo s fd ⟨[u],[]⟩ [("script",u)])/\∀base:Heap,K.In base->base.Ns mainGlobals mg->cj Pg w K mg base jr 40 fa fd ["script"] (jG K 1 (run Γ 1000 40 22)):=by
 obtain⟨f,fd,a,F⟩:=T.D22.ex;have e:=hmg.symm.trans (mg_of X G a);cases e;refine⟨fd,fun s u=>?_,fun base kb nb=>?_⟩;.obtain⟨oc,od,kV,doc,pm,an,cdv,ct,osl,rfl,lk,hcd⟩:=F.ex;exact .of_eq rfl
 .have ih:=Dl (Pg:=Pg) (w:=w) (base:=base) T kb nb 39;exact d22 (cl:=nu T) (k:=39) (n:=1000) (c:=run Γ 1000 39) F (mg_none_of X G T.jD) (mg_none_of X G T.Bf) (mg_none_of X G T.eO) ih.c14 ih.c20 ih.c19 ih.c16 ih.c21 ih.c12 ih.c11
end T
open PySem PySem.W PyProof.Rows
set_option maxRecDepth 100000 in
set_option maxHeartbeats 0 in
theorem PySem.Challenge.cw_hourhaul_k35_the_most_by_an_hour_holds : PySem.Challenge.rw_hourhaul_k35_the_most_by_an_hour.Holds := by
 w_on;o_law;k_head;(case hw=>w_witness2);k_fill;refine L2.G4 (l:=PySem.Challenge.rw_hourhaul_k35_the_most_by_an_hour) (n:=63) (k:=40) (x:="script") (CX:=L2.jr) (sp:=fun K=>HH.jG K 1 (HH.run T.Γ 1000 40 22)) rfl (by decide) rfl ⟨rfl,by decide,by decide⟩ (fun w h Y=>PySem.W.kIn_of Y) ?F ?S ?C;case F=>
  intro w mg fa h KX G hmg;refine T.NZ ?T KX G hmg;constructor;iterate 23(· refine' HH.Q8 ?a ?l ?c ?k;case a|l|c|k=>k_is)
  iterate 13(· k_is)
 case S=>intro K H a ns hl hO hS;obtain⟨as,e⟩:=T.Jo ns hl;exact HH.BW hS e
 case C=>exact fun H s e s' z=>z
