import PyProof.Rows.All
import Wide.All
import OpenK.AllK
import Wide.FinOn
import Lean
import PyProof.EqAt
import PyProof.EqKinds
import PyProof.TupleCall
import PySem.Str
import PySem.Builtin.Int.W1All
import PyProof.NeKinds
import PyProof.ZipIter
import PyProof.SumWalkG
import PyProof.MinMaxWalk
import PyProof.WalksMore
import PyProof.SeqI3
import PyProof.WalkInts
import PyProof.Rows.CallKwBuiltin
import PyProof.Rows.Tup
import PyProof.CollectIter
import PyProof.EnumMake
import PyProof.TupleOfSeq
import PyProof.ListNew
import PyProof.ReprLoop
import PyProof.StationsW
import PyProof.ExcClass3
import PyProof.Rows.CatchBare
import OpenK.KOwn
import KE.KIsAll
import PyProof.NsDelKeeps
import PyProof.RulesAs
import PyProof.ExcArgsOwn
import PyProof.ListRange
import KE.RegKIsAll
import KE.KRevIter
import PyProof.Rows.SortRuns
import KE.KSortTup
import PyProof.DictWalks
import KE.KDictList
import PyProof.ExcBaseAll.ValueError
import PySem.Challenge.RW_hourhaul_k27_whole_greatest_rate_is_the
set_option Elab.async false
set_option linter.all false
set_option maxRecDepth 100000
set_option genSizeOf false
set_option compiler.extract_closed false
set_option bootstrap.genMatcherCode false
open PySem.W(mg_none_of keepIn mg_of methodObj)
open List(replicate getElem?_set_ne mem_map mem_cons getElem?_set_self size_toArray map_cons map_map length_map length_cons mem_append getElem?_map mem_singleton getElem?_append_left mem_of_getElem? getElem?_eq_getElem mem_cons_of_mem all_eq_true nodup_cons length_append lookup_cons mem_append_right mem_filter mem_range filterMap_cons append_nil all_cons getD find?_cons any_cons append_assoc getElem_mem mem_cons_self getElem?_replicate drop_eq_getElem_cons not_mem_nil replicate_succ foldl getElem?_cons_succ mem_append_left getElem?_append_right reverse_cons length_range length_nil map_append length_take length_replicate getElem_of_mem nodup_append map_congr_left sum_cons length_filter_le of_mem_zip flatten_cons map_nil nil_append drop_eq_nil_iff set_cons_succ filter_cons map_set map_id length_set forIn_cons forIn_nil mapM_cons all_map sum_append map)
open PySem.Heap(get?_push_of_some lt_size get?_push_size size_push get?_update_other SameBut get?_update_self IsTuple IsList)
open Nat(le_refl ne_of_lt lt_of_lt_of_le le_trans zero_le lt_irrefl le_of_lt ne_of_gt le_succ)
open PySem.Builtin.SmallTypes(nextOf ownedTupleIsFree ownedTupleHandOut)
open PySem.Builtin.Tuple(tupleExact tupleItemsOf)
open Bool(and_eq_true noConfusion or_eq_true false_eq_true not_eq_true')
open Option(map_eq_some_iff bind_some isSome_map getD_none getD_some)
open PySem.Builtin.List(listExtendWith listTooLong listLengthHint listSameRef listItems)
open PySem.Builtin.Slice(slicePlaces sliceAdjust sliceApplied)
open Array(length_toList toList)
open PySem.SeqAt.EqAt(int_str str_int none_bool none_int none_str bool_none bool_bool bool_int bool_str int_none int_bool int_int str_none str_bool str_str)
open PySem.F(slot_tuple_add entry_tuple_add args_tuple_add_2 slot_tuple_mul)
open PySem.SeqAt.RcAt(lists_lengths)
open Int(sub_zero mul_add add_mul)
open PySem.SeqAt.RcNeAt(int_list str_list list_int list_str)
theorem dw{h:PySem.Heap}{o o1:PySem.Obj}{a:PySem.Addr}(e:h.get? a=some o):(h.push o1).get? a=some o:=PySem.Heap.get?_push_of_some _ e
theorem cV{α:Type}{l:List α}{i:Nat}{a:α}(h:l[i]?=some a):∃h:i<l.length,l[i]=a:=List.getElem?_eq_some_iff.mp h
theorem fZ{α:Type}{l:List α}{i j:Nat}{a:α}(h:j≠i):(l.set i a)[j]?=l[j]?:=List.getElem?_set_ne (Ne.symm h)
theorem Bm{n:Nat}:0<=n:=Nat.zero_le n
theorem cR{n:Nat}:n<=n:=Nat.le_refl n
section
namespace L2
open PySem PySem.Spec PyProof.Rows
variable{w:World}{h:Heap}{t' i:Nat}{M:Model}{A:Around}{s:Shared}{pins:List (Addr×Obj)}{op:CmpOp}{K:PySem.W.Frag}{tg:Expr}{us:List Value}
noncomputable abbrev Key:=Sum Int Str
noncomputable def qD:Key->Value->Bool|.inl k,v=>Value.isInt k v|.inr x,v=>Value.isStrOf x v
noncomputable def acP(w:World):Key->Int|.inl k=>hashInt k|.inr x=>hashStr w x
theorem bZ:∀{k:Key}{v:Value},qD k v=true->(∃i t,k=Sum.inl i/\v=Value.int i t)\/(∃x t,k=Sum.inr x/\v=Value.str x t)|.inl i,v,h=>by obtain⟨t,e⟩:=Value.isInt_shape (k:=i) (v:=v) h;exact .inl ⟨i,t,rfl,e⟩|.inr x,v,h=>by obtain⟨t,e⟩:=Value.isStrOf_shape (x:=x) (v:=v) h;exact .inr ⟨x,t,rfl,e⟩
theorem CK(i:Int)(t:Tok):qD (.inl i) (.int i t)=true:=by simp[qD,Value.isInt]
theorem CN(x:Str)(t:Tok):qD (.inr x) (.str x t)=true:=by simp[qD,Value.isStrOf]
theorem Qa(a b:Int):decide ((Sum.inl a:Key)=Sum.inl b)=(a==b):=by
 by_cases e:a=b;.subst e;simp
 .have h:¬(Sum.inl a:Key)=Sum.inl b:=fun q=>e (Sum.inl.inj q);rw[decide_eq_false h];exact(beq_eq_false_iff_ne.mpr e).symm
theorem Rc(a b:Str):decide ((Sum.inr a:Key)=Sum.inr b)=decide (a=b):=by
 by_cases e:a=b;.subst e;simp
 .have h:¬(Sum.inr a:Key)=Sum.inr b:=fun q=>e (Sum.inr.inj q);rw[decide_eq_false h,decide_eq_false e]
theorem QT(a:Int)(b:Str):decide ((Sum.inl a:Key)=Sum.inr b)=false:=decide_eq_false (fun q=>nomatch q)
theorem Rf(a:Str)(b:Int):decide ((Sum.inr a:Key)=Sum.inl b)=false:=decide_eq_false (fun q=>nomatch q)
noncomputable def bU(prog:Program)(w:World):PySem.KeyKind prog w Key where
 is:=qD;hash:=acP w;inj:=fun v a b ha hb=>by
  rcases bZ ha with⟨i,t,rfl,rfl⟩|⟨x,t,rfl,rfl⟩
  . rcases bZ hb with⟨j,u,rfl,e⟩|⟨y,u,rfl,e⟩;.injection e with e1 _;rw[e1]
    .exact nomatch e
  . rcases bZ hb with⟨j,u,rfl,e⟩|⟨y,u,rfl,e⟩;.exact nomatch e
    .injection e with e1 _;rw[e1]
 byValue:=fun k v h=>by rcases bZ h with⟨i,t,rfl,rfl⟩|⟨x,t,rfl,rfl⟩<;>rfl
 pyHash:=fun hv h=>by
  rcases bZ hv with⟨i,t,rfl,rfl⟩|⟨x,t,rfl,rfl⟩;.exact wpAny_pyHash_int h
  .exact wpAny_pyHash_str h
 eqBool:=fun hu hv h=>by
  rcases bZ hu with⟨i,t,rfl,rfl⟩|⟨x,t,rfl,rfl⟩
  . rcases bZ hv with⟨j,u,rfl,rfl⟩|⟨y,u,rfl,rfl⟩;.rw[Qa]at h;exact wpAny_eqBool_int h
    .rw[QT]at h;exact int_str i t y u _ _ _ _ h
  . rcases bZ hv with⟨j,u,rfl,rfl⟩|⟨y,u,rfl,rfl⟩;.rw[Rf]at h;exact str_int x t j u _ _ _ _ h
    .rw[Rc]at h;exact wpAny_eqBool_str h
 «strs»:=fun k x t v h=>by
  rcases bZ h with⟨i,u,rfl,e⟩|⟨y,u,rfl,e⟩;.exact nomatch e
  .injection e with e1 _;subst e1;cases v<;>rfl
theorem wg(prog:Program)(w:World)(i:Int)(t:Tok):(bU prog w).is (.inl i) (.int i t)=true:=CK i t
theorem v8(prog:Program)(w:World)(x:Str)(t:Tok):(bU prog w).is (.inr x) (.str x t)=true:=CN x t
inductive V where|non|bl(b:Bool)|int(i:Int)|str(x:Str)|byt(b:Array UInt8)|flt(b:UInt64)|ref(a:Addr)|ty(n:String)deriving DecidableEq
def RelV:V->Value->Prop|.non,u=>u=Value.none|.bl b,u=>u=Value.bool b|.int i,u=>∃t,u=Value.int i t|.str x,u=>∃t,u=Value.str x t|.byt b,u=>∃t,u=Value.bytes b t|.flt b,u=>∃t,u=Value.float b t|.ref a,u=>u=Value.ref a|.ty n,u=>u=Value.type n
abbrev Vals:List V->List Value->Prop:=Paired RelV
theorem Vals.length{xs:List V}{us:List Value}(r:Vals xs us):xs.length=us.length:=Paired.length r
theorem Vals.get:∀{xs:List V}{us:List Value}{i:Nat}{x:V},Vals xs us->xs[i]?=some x->∃u,us[i]?=some u/\RelV x u|_,_,_,_,.nil,e=>by simp at e|_,_,0,_,.cons r _,e=>by simp at e;subst e;exact⟨_,rfl,r⟩|_,_,i+1,x,.cons _ t,e=>by obtain⟨u,h1,h2⟩:=Vals.get (i:=i) (x:=x) t (by simpa using e);exact⟨u,by simpa using h1,h2⟩
theorem Vals.set{x:V}{u:Value}(r:RelV x u):∀{xs:List V}{us:List Value}(i:Nat),Vals xs us->Vals (xs.set i x) (us.set i u)|_,_,_,.nil=>.nil|_,_,0,.cons _ t=>.cons r t|_,_,i+1,.cons q t=>.cons q (Vals.set r i t)
theorem Vals.append:∀{xs ys:List V}{us ws:List Value},Vals xs us->Vals ys ws->Vals (xs++ys) (us++ws)|_,_,_,_,.nil,s=>s|_,_,_,_,.cons r t,s=>.cons r (Vals.append t s)
theorem Vals.take:∀{xs:List V}{us:List Value}(n:Nat),Vals xs us->Vals (xs.take n) (us.take n)|_,_,0,_=>.nil|_,_,_+1,.nil=>.nil|_,_,n+1,.cons r t=>.cons r (Vals.take n t)
theorem Vals.drop:∀{xs:List V}{us:List Value}(n:Nat),Vals xs us->Vals (xs.drop n) (us.drop n)|_,_,0,r=>r|_,_,_+1,.nil=>.nil|_,_,n+1,.cons _ t=>Vals.drop n t
def rW:Option V->Option Value->Prop|some v,some u=>RelV v u|none,none=>True|_,_=>False
def KV{κ:Type}:List (κ×V)->List (κ×Value)->Prop:=Paired fun(p:κ×V)(q:κ×Value)=>p.1=q.1/\RelV p.2 q.2
noncomputable def kV:Key->V|.inl i=>.int i|.inr x=>.str x
inductive HO where|lst(xs:List V)|tup(xs:List V)|dK(kvs:List (Key×V))|dT(kvs:List (List Key×V))|set(S:Int->Bool)(n:Nat)|ins(C dx:Addr)(fs:List (Str×V))|own(x:Addr)|xd(fs:List (Str×V))|met(f x:Addr)|rQ(lo hi:Int)|cX(o:Obj)(u:HO)|Tn(ps:Array Value)|ext(φ:Heap->Prop)
noncomputable abbrev Hp:=Addr->Option HO
variable{H:Hp}
noncomputable def upd(H:Hp)(a:Addr)(o:HO):Hp:=fun b=>if b=a then some o else H b
theorem bh{a:Addr}{o:HO}:upd H a o a=some o:=by unfold upd;rw[if_pos rfl]
theorem aG{a b:Addr}{o:HO}(h:b≠a):upd H a o b=H b:=by unfold upd;rw[if_neg h]
theorem Bq{a:Addr}{o u:HO}:upd (upd H a o) a u=upd H a u:=by funext b;unfold upd;split<;>rfl
theorem Xh{a b:Addr}{o u:HO}(h:H a=some o)(h':H b=some u)(d:o≠u):a≠b:=by intro e;subst e;rw[h]at h';exact d (Option.some.inj h')
theorem gA{a b:Addr}{o:HO}(h:H a=some o)(h':H b=none):a≠b:=by intro e;subst e;rw[h]at h';cases h'
section
variable(P:Program)(w:World)
def cj(H:Hp)(h:Heap)(a:Addr):HO->Prop|.lst xs=>xs.length<=sizeLine/\∃(its:List Value)(n:Nat),Vals xs its/\h.get? a=some {cls:=.type "list",data:=.seq its.toArray n}|.tup xs=>xs.length<=sizeLine/\∃its:List Value,Vals xs its/\IsTup h a its.toArray|.dK kvs=>kvs.length<=sizeLine/\(a==sysModules)=false/\∃vs,KV kvs vs/\h.DictOf (bU P w) a vs|.dT kvs=>kvs.length<=sizeLine/\(a==sysModules)=false/\∃xs:List (List Key×Addr×Value),Paired (fun(p:List Key×V)(q:List Key×Addr×Value)=>p.1=q.1/\H q.2.1=some (.tup (p.1.map kV))/\RelV p.2 q.2.2) kvs xs/\∃o es ep,h.get? a=some o/\o.ExactDict/\o.data=.dict es ep/\es.toList=xs.map (entryOfKey (tupleKind (bU P w)))/\(xs.map (·.1)).Nodup|.set S n=>h.SetOf (intKind P w) a S n|.ins C dx fs=>H dx=some (.own a)/\fs.length<=1000/\dx≠a/\h.get? a=some (PySem.W.instObj C dx)/\∃mA,h.Ns1 dx mA/\(∀f,rW (fs.lookup f) (mA f))/\PySem.Within mA (fs.map (·.1))|.own _=>∃o,h.get? a=some o|.xd fs=>∃mA,h.Ns1 a mA/\∀f,rW (fs.lookup f) (mA f)|.rQ lo hi=>∃t u v,h.get? a=some {cls:=.type "range",data:=.fields #[.int lo t,.int hi u,.int 1 v]}|.cX o u=>h.get? a=some o/\cj H h a u|.Tn ps=>h.get? a=some {cls:=.none,data:=.fields ps}|.met f x=>h.get? a=some (methodObj (.ref f) (.ref x))|.ext φ=>φ h/\(∃o,h.get? a=some o)/\∀h1 h2:Heap,φ h1->(∀o,h1.get? a=some o->h2.get? a=some o)->φ h2
def m7(H:Hp)(h:Heap):Prop:=∀a o,H a=some o->cj P w H h a o
end
section
variable{P:Program}{w:World}{H H':Hp}{h h':Heap}{a:Addr}{o:HO}
theorem cj.lt(x:cj P w H h a o):a<h.objs.size:=by cases o with|lst xs=>obtain⟨_,_,_,_,e⟩:=x;exact lt_size e|tup xs=>obtain⟨_,_,_,p⟩:=x;exact p.lt|dK kvs=>obtain⟨_,_,_,_,o,_,_,e,_⟩:=x;exact lt_size e|dT kvs=>obtain⟨_,_,_,_,o,_,_,e,_⟩:=x;exact lt_size e|set S n=>obtain⟨o,_,_,_,e,_⟩:=x;exact lt_size e|ins C dx fs=>obtain⟨_,_,_,e,_⟩:=x;exact lt_size e|own y=>obtain⟨_,e⟩:=x;exact lt_size e|xd fs=>obtain⟨_,⟨_,_,_,e,_⟩,_⟩:=x;exact lt_size e|rQ lo hi=>obtain⟨_,_,_,e⟩:=x;exact lt_size e|cX ob u=>obtain⟨e,_⟩:=x;exact lt_size e|Tn ps=>exact lt_size (show h.get? a=some _ from x)|met f y=>exact lt_size (show h.get? a=some _ from x)|ext φ=>obtain⟨_,⟨_,e⟩,_⟩:=x;exact lt_size e
theorem Paired.QH{α β:Type}{F G:α->β->Prop}:∀{l₁:List α}{l₂:List β},Paired F l₁ l₂->(∀a b,F a b->G a b)->Paired G l₁ l₂|_,_,.nil,_=>.nil|_,_,.cons r t,f=>.cons (f _ _ r) (Paired.QH t f)
theorem cj.stay(x:cj P w H h a o)(k:∀b u,(b=a\/H b=some (.own a))->h.get? b=some u->h'.get? b=some u)(ho:∀b,H b=some (.own a)->H' b=some (.own a))(ht:∀b xs,H b=some (.tup xs)->H' b=some (.tup xs)):cj P w H' h' a o:=by induction o with|lst xs=>obtain⟨z,its,n,r,e⟩:=x;exact⟨z,its,n,r,k _ _ (.inl rfl) e⟩|tup xs=>obtain⟨z,its,r,ob,e,c⟩:=x;exact⟨z,its,r,ob,k _ _ (.inl rfl) e,c⟩|dK kvs=>obtain⟨z,y,vs,r,ob,es,ep,e,c⟩:=x;exact⟨z,y,vs,r,ob,es,ep,k _ _ (.inl rfl) e,c⟩|dT kvs=>obtain⟨z,y,xs,r,ob,es,ep,e,c⟩:=x;exact⟨z,y,xs,Paired.QH r fun p q z=>⟨z.1,ht _ _ z.2.1,z.2.2⟩,ob,es,ep,k _ _ (.inl rfl) e,c⟩|set S n=>obtain⟨ob,es,ep,t,e,c⟩:=x;exact⟨ob,es,ep,t,k _ _ (.inl rfl) e,c⟩|ins C dx fs=>obtain⟨d,z,ne,e,mA,⟨od,es,ep,e2,c⟩,r⟩:=x;exact⟨ho _ d,z,ne,k _ _ (.inl rfl) e,mA,⟨od,es,ep,k _ _ (.inr d) e2,c⟩,r⟩|own y=>obtain⟨ob,e⟩:=x;exact⟨ob,k _ _ (.inl rfl) e⟩|xd fs=>obtain⟨mA,⟨od,es,ep,e,c⟩,r⟩:=x;exact⟨mA,⟨od,es,ep,k _ _ (.inl rfl) e,c⟩,r⟩|rQ lo hi=>obtain⟨t,u,v,e⟩:=x;exact⟨t,u,v,k _ _ (.inl rfl) e⟩|cX ob u ih=>obtain⟨e,q⟩:=x;exact⟨k _ _ (.inl rfl) e,ih q⟩|Tn ps=>have e:h.get? a=some {cls:=.none,data:=.fields ps}:=x;show h'.get? a=some {cls:=.none,data:=.fields ps};exact k a _ (.inl rfl) e|met f y=>have e:h.get? a=some (methodObj (.ref f) (.ref y)):=x;show h'.get? a=some (methodObj (.ref f) (.ref y));exact k a _ (.inl rfl) e|ext φ=>obtain⟨p,⟨o,e⟩,st⟩:=x;exact⟨st _ _ p fun o q=>k _ _ (.inl rfl) q,⟨o,k _ _ (.inl rfl) e⟩,st⟩
theorem m7.lt(x:m7 P w H h)(e:H a=some o):a<h.objs.size:=(x a o e).lt
theorem m7.fresh(x:m7 P w H h)(e:h.objs.size<=a):H a=none:=by cases q:H a with|none=>rfl|some u=>exact absurd (lt_of_lt_of_le (x.lt q) e) (lt_irrefl _)
theorem m7.kept(x:m7 P w H h)(k:∀b u,h.get? b=some u->h'.get? b=some u):m7 P w H h':=fun a o e=>(x a o e).stay (fun b u _ q=>k b u q) (fun _ q=>q) fun _ _ q=>q
theorem m7.laid(x:m7 P w H h)(k:∀b u,h.get? b=some u->h'.get? b=some u)(hp:h.objs.size<=a)(new:cj P w (upd H a o) h' a o):m7 P w (upd H a o) h':=fun b u e=>by
 have hn:=x.fresh hp;by_cases hb:b=a;.subst hb;rw[bh]at e;cases e;exact new
 .rw[aG hb]at e;exact(x b u e).stay (fun c v _ q=>k c v q) (fun c q=>by rw[aG (gA q hn)];exact q) fun c xs q=>by rw[aG (gA q hn)];exact q
end
def Rd(H:Hp)(a:Addr)(u:HO):Prop:=H a=some u\/∃o,H a=some (.cX o u)
theorem Rd.ok{P:Program}{a:Addr}{u:HO}(r:Rd H a u)(x:m7 P w H h):cj P w H h a u:=by
 rcases r with r|⟨o,r⟩;.exact x a u r
 .obtain⟨_,q⟩:=x a _ r;exact q
def XM:Option HO->Prop|some (.lst _)=>True|some (.dK _)=>True|some (.dT _)=>True|some (.set _ _)=>True|some (.ins _ _ _)=>True|some (.ext _)=>True|_=>False
section
variable{P:Program}{w:World}{H:Hp}{h h':Heap}{x e:Addr}{o':HO}
theorem m7.write(ok:m7 P w H h)(mu:XM (H x))(he:e=x\/H e=some (.own x))(k:∀b u,b≠e->h.get? b=some u->h'.get? b=some u)(heo:∃u,h'.get? e=some u)(new:cj P w (upd H x o') h' x o'):m7 P w (upd H x o') h':=fun b u q=>by
 have Yu:∀c y,H c=some (.own y)->c≠x:=fun c y r z=>by subst z;rw[r]at mu;exact mu
 have aet:∀c xs,H c=some (.tup xs)->c≠x:=fun c xs r z=>by subst z;rw[r]at mu;exact mu
 by_cases hb:b=x;.subst hb;rw[bh]at q;cases q;exact new
 . rw[aG hb]at q;by_cases hbe:b=e
   . have q':H b=some (.own x):=by
      rcases he with z|z;.exact absurd (hbe.trans z) hb
      .rw[hbe];exact z
     rw[q]at q';cases q';obtain⟨v,hv⟩:=heo;exact⟨v,by rw[hbe];exact hv⟩
   . refine(ok b u q).stay (fun c v hc r=>k c v ?_ r) (fun c r=>by rw[aG (Yu c b r)];exact r) fun c xs r=>by rw[aG (aet c xs r)];exact r
     rcases hc with rfl|hc;.exact hbe
     . rintro rfl;rcases he with z|z;.exact Yu c b hc z
       .rw[hc]at z;cases z;exact hb rfl
end
structure Un(fs ex:List Addr)(H H':Hp)(h h':Heap):Prop where
 keep:∀b o,h.get? b=some o->H b=none->b∉fs->b∉ex->h'.get? b=some o
 slot:∀b o,h.get? b=some o->H b=none->b∈fs->b∉ex->∃sl,h'.get? b=some {o with slots:=sl}free:∀b o,h.get? b=some o->H b=none->b∉ex->H' b=none
 there:∀b o,h.get? b=some o->b∉ex->∃o',h'.get? b=some o'
 tups:∀b xs,H b=some (.tup xs)->H' b=some (.tup xs)vG:∀b o u,H b=some (.cX o u)->H' b=some (.cX o u)xX:∀b ps,H b=some (.Tn ps)->∃more,H' b=some (.Tn (ps++more))
section
variable{fs fs' ex ex':List Addr}{H H1 H2:Hp}{h h1 h2 h':Heap}{a x e:Addr}{o:HO}
theorem Un.any(u:Un fs ex H H1 h h1){b:Addr}{ob:Obj}(q:h.get? b=some ob)(n:H b=none)(hx:b∉ex):∃sl,h1.get? b=some {ob with slots:=sl}:=by
 by_cases hb:b∈fs;.exact u.slot b ob q n hb hx
 .exact⟨ob.slots,u.keep b ob q n hb hx⟩
theorem Un.kept(k:∀b u,h.get? b=some u->h'.get? b=some u):Un fs ex H H h h':=⟨fun b ob q _ _ _=>k b ob q,fun b ob q _ _ _=>⟨ob.slots,k b ob q⟩,fun _ _ _ n _=>n,fun b ob q _=>⟨ob,k b ob q⟩,fun _ _ q=>q,fun _ _ _ q=>q,fun _ ps q=>⟨#[],by rw[q];simp⟩⟩
theorem Un.refl:Un fs ex H H h h:=Un.kept fun _ _ q=>q
theorem Un.laid(k:∀b u,h.get? b=some u->h'.get? b=some u)(hp:h.objs.size<=a)(hn:H a=none):Un fs ex H (upd H a o) h h' where
 keep:=fun b u q _ _ _=>k b u q;slot:=fun b u q _ _ _=>⟨u.slots,k b u q⟩;free:=fun b u q n _=>by rw[aG (ne_of_lt (lt_of_lt_of_le (lt_size q) hp))];exact n
 there:=fun b u q _=>⟨u,k b u q⟩;tups:=fun b xs q=>by rw[aG (gA q hn)];exact q
 vG:=fun b u xs q=>by rw[aG (gA q hn)];exact q
 xX:=fun b ps q=>⟨#[],by rw[aG (gA q hn),q];simp⟩
theorem Un.write(mu:XM (H x))(he:e=x\/H e=some (.own x))(k:∀b u,b≠e->h.get? b=some u->h'.get? b=some u)(heo:∃u,h'.get? e=some u):Un fs ex H (upd H x o) h h':=by
 have hx:∀b,H b=none->b≠x:=fun b n z=>by subst z;rw[n]at mu;exact mu
 have hb:∀b,H b=none->b≠e:=fun b n z=>by
  subst z;rcases he with r|r;.exact hx b n r
  .rw[n]at r;cases r
 have hm:∀b u,H b=some u->¬ XM (some u)->b≠x:=fun b u q nm z=>by subst z;rw[q]at mu;exact nm mu
 refine⟨fun b u q n _ _=>k b u (hb b n) q,fun b u q n _ _=>⟨u.slots,k b u (hb b n) q⟩,fun b u q n _=>by rw[aG (hx b n)];exact n,fun b u q _=>?_,fun b xs q=>by rw[aG (hm b _ q fun z=>z)];exact q,fun b u xs q=>by rw[aG (hm b _ q fun z=>z)];exact q,fun b ps q=>⟨#[],by rw[aG (hm b _ q fun z=>z),q];simp⟩⟩;by_cases hbe:b=e;.subst hbe;exact heo
 .exact⟨u,k b u hbe q⟩
end
noncomputable def trk(h:Heap)(H:Hp):List Addr:=(List.range h.objs.size).filter fun a=>(H a).isSome
noncomputable def uB(h:Heap)(H:Hp):Heap:=PySem.W.hideAll h (trk h H)
theorem DQ(h:Heap)(H:Hp):(uB h H).objs.size=h.objs.size:=PySem.W.hideAll_size _ _
theorem Jo{b:Addr}{o:Obj}(e:h.get? b=some o)(n:H b=none):(uB h H).get? b=some o:=PySem.W.hideAll_get _ e fun hm=>by have q:(H b).isSome=true:=(mem_filter.mp hm).2;rw[n]at q;simp at q
theorem Mp{b:Addr}{o:Obj}(e:(uB h H).get? b=some o):h.get? b=some o/\H b=none:=by have e':h.get? b=some o:=PySem.W.of_hideAll (trk h H) e;refine⟨e',?_⟩;cases q:H b with|none=>rfl|some x=>have hm:b∈trk h H:=mem_filter.mpr ⟨mem_range.mpr (lt_size e'),by simp[q]⟩;have z:(uB h H).get? b=none:=PySem.W.hideAll_none (trk h H) hm;rw[z]at e;cases e
structure Mod(K:PySem.W.Frag)(mg:Str->Option Value)(base:Heap):Prop where
 vQ:K.In base
 glob:base.Ns mainGlobals mg
 blt:∃mb,base.Ns builtinsNs mb/\∀x:Str,x≠"__name__"->mb x=bootBuiltins x
 nolimit:base.NoLimit
structure Cx where
 prog:Program
 w:World
 K:PySem.W.Frag
 mg:Str->Option Value
 base:Heap
 A:Around
 N:List Str
 s₀:Shared
 H₀:Hp
 env:Env
 outer:List Env
 stack:List Env
 ex:List Addr
 fn:Str->Bool
 calm:Bool
 pn:List (Addr×Obj)xe:Value->Shared->Prop
variable{X:Cx}
noncomputable def frs(l:List Env):List Addr:=l.filterMap (·.frame)
noncomputable abbrev Cx.fs(X:Cx):List Addr:=frs X.outer
def yC(sc:Scope)(x:Str):Prop:=sc.names.lookup x=some .local\/sc.names.lookup x=some .cell\/sc.names.lookup x=some .free
def Loc(sc:Scope)(x:Str):Prop:=sc.names.lookup x=some .local\/sc.names.lookup x=some .cell
def Look(env:Env)(h:Heap)(m:Str->Option Value)(x:Str)(u:Value):Prop:=(env.kindOf x=some .local/\m x=some u)\/((env.kindOf x=some .cell\/env.kindOf x=some .free)/\∃c,env.cells.lookup x=some c/\h.IsCell c (some u))
structure Cx.Ok(X:Cx):Prop where
 mod:Mod X.K X.mg X.base
 kind:X.env.scope.kind=.function
 glob:X.env.globals=mainGlobals
 blt:X.env.builtins=builtinsNs
 above:X.s₀.heap.objs.size<=X.env.locals
 inj:∀x y c,X.env.cells.lookup x=some c->X.env.cells.lookup y=some c->x=y
 has:∀x,(X.env.kindOf x=some .cell\/X.env.kindOf x=some .free)->∃c,X.env.cells.lookup x=some c
 cab:∀x c,X.fn x=true->X.env.cells.lookup x=some c->X.s₀.heap.objs.size<=c
 hd:X.calm=true->X.A.handled=none
 frames:X.A.frames=some X.stack
 Vv:X.stack=X.outer\/(X.stack=X.env::X.outer/\X.env.frame=some X.env.locals)exf:∀b∈X.ex,b≠X.env.locals/\∀x c,X.env.cells.lookup x=some c->c≠b
 bs:∀b o,X.base.get? b=some o->X.s₀.heap.get? b=some o/\X.H₀ b=none
 Kh:X.base.objs.size<=X.s₀.heap.objs.size
 zV:∀b o,X.base.get? b=some o->b∉X.ex
 El:∀b∈X.ex,b∉X.fs
 m9:X.s₀.heap.FunFrames X.base X.outer
 Pa:∀b∈X.fs,X.H₀ b=none
structure Inv(X:Cx)(pins:List (Addr×Obj))(σ:List (Option V))(H:Hp)(s:Shared):Prop where
 ok:X.Ok
 os:s.os=X.s₀.os
 bare:AllBare s.gens
 base:Un X.fs X.ex X.H₀ H X.s₀.heap s.heap
 loc:∃m,s.heap.Ns X.env.locals m/\∀(i:Nat)(x:Str)(v:V),X.N[i]?=some x->σ[i]?=some (some v)->yC X.env.scope x->∃u,RelV v u/\Look X.env s.heap m x u
 cell:∀x c,X.env.cells.lookup x=some c->∃v,s.heap.IsCell c v
 free:H X.env.locals=none
 jt:∀x c,X.env.cells.lookup x=some c->H c=none
 pin:∀p∈X.pn++pins,s.heap.get? p.1=some p.2/\H p.1=none/\p.1≠X.env.locals/\p.1∉X.fs/\∀v,p.2.data≠.cell v
 hok:m7 X.prog X.w H s.heap
 len:σ.length=X.N.length
section
variable{X:Cx}{pins:List (Addr×Obj)}{σ:List (Option V)}{H H':Hp}{s:Shared}{h':Heap}
theorem Cx.Ok.aei(ok:X.Ok){b:Addr}{o:Obj}(e:X.base.get? b=some o):b∉X.fs:=fun hb=>by have:=(ok.m9.mem hb).1;rw[e]at this;cases this
theorem Inv.bs(I:Inv X pins σ H s):∀b o,X.base.get? b=some o->s.heap.get? b=some o/\H b=none:=fun b o e=>⟨I.base.keep b o (I.ok.bs b o e).1 (I.ok.bs b o e).2 (I.ok.aei e) (I.ok.zV b o e),I.base.free b o (I.ok.bs b o e).1 (I.ok.bs b o e).2 (I.ok.zV b o e)⟩
theorem Inv.bk(I:Inv X pins σ H s):∀b o,X.base.get? b=some o->s.heap.get? b=some o:=fun b o e=>(I.bs b o e).1
theorem Inv.mod(I:Inv X pins σ H s):Mod X.K X.mg X.base:=I.ok.mod
theorem Inv.Ui(I:Inv X pins σ H s):X.K.In s.heap:=I.ok.mod.vQ.keeps I.bk
theorem Inv.lt(I:Inv X pins σ H s):X.env.locals<s.heap.objs.size:=let⟨_,hn,_⟩:=I.loc;hn.lt
theorem Inv.sz(I:Inv X pins σ H s):X.s₀.heap.objs.size<=s.heap.objs.size:=le_trans I.ok.above (le_of_lt I.lt)
theorem Inv.adN(I:Inv X pins σ H s){a:Addr}(h:s.heap.objs.size<=a):a∉X.fs:=fun hb=>by obtain⟨_,o,ho,_⟩:=I.ok.m9.mem hb;exact absurd (lt_of_lt_of_le (lt_size ho) (le_trans I.sz h)) (lt_irrefl _)
theorem Inv.R1(I:Inv X pins σ H s):∀x c,X.env.cells.lookup x=some c->c≠X.env.locals:=fun x c e z=>by obtain⟨v,o,ho,hd⟩:=I.cell x c e;obtain⟨m,⟨o',es,ep,ho',hd',_⟩,_⟩:=I.loc;rw[z,ho']at ho;cases ho;rw[hd']at hd;cases hd
theorem Inv.m9(I:Inv X pins σ H s):s.heap.FunFrames X.base X.outer:=by
 have all:∀(l:List Env),(∀b∈frs l,b∈X.fs)->X.s₀.heap.FunFrames X.base l->s.heap.FunFrames X.base l:=by intro l;induction l with|nil=>intro _ _;trivial|cons env r ih=>intro hs hl;obtain⟨hk,⟨L,o,hf,hn,ho,hd⟩,hr⟩:=hl;have hL:L∈X.fs:=hs L (by unfold frs;rw[filterMap_cons,hf];exact mem_cons_self);obtain⟨sl,e⟩:=I.base.slot L o ho (I.ok.Pa L hL) hL fun z=>I.ok.El L z hL;exact⟨hk,⟨L,_,hf,hn,e,hd⟩,ih (fun b hb=>hs b (by unfold frs;rw[filterMap_cons,hf];exact mem_cons_of_mem _ hb)) hr⟩
 exact all X.outer (fun _ hb=>hb) I.ok.m9
theorem Inv.stack(I:Inv X pins σ H s):s.heap.FunFrames X.base X.stack:=by
 rcases I.ok.Vv with e|⟨e,hf⟩;.rw[e];exact I.m9
 .rw[e];obtain⟨m,hn,_⟩:=I.loc;refine .cons (by rw[I.ok.kind];decide) hf hn ?_ I.m9;exact Heap.get?_none_of_le (le_trans I.ok.Kh I.ok.above)
theorem Inv.uY(I:Inv X pins σ H s):∀b∈frs X.stack,b∈X.env.locals::X.fs:=fun b hb=>by
 rcases I.ok.Vv with e|⟨e,hf⟩;.rw[e]at hb;exact mem_cons_of_mem _ hb
 .rw[e]at hb;unfold frs at hb;rw[filterMap_cons,hf]at hb;exact hb
theorem Inv.Ao(I:Inv X pins σ H s):∀b∈frs X.stack,H b=none:=fun b hb=>by
 rcases mem_cons.mp (I.uY b hb)with e|hb;.rw[e];exact I.free
 .obtain⟨_,o,ho,_⟩:=I.ok.m9.mem hb;exact I.base.free b o ho (I.ok.Pa b hb) fun z=>I.ok.El b z hb
theorem Inv.step{g':Array GenState}{t':Nat}{d':Drawn}{ch:List Addr}(I:Inv X pins σ H s)(hch:∀b∈ch,(b∈X.ex\/X.s₀.heap.objs.size<=b)/\b≠X.env.locals/\(∀x c,X.env.cells.lookup x=some c->c≠b)/\∀p∈X.pn++pins,p.1≠b)(keep:∀b o,b≠X.env.locals->b∉X.fs->b∉ch->s.heap.get? b=some o->H b=none->h'.get? b=some o)(slot:∀b o,b≠X.env.locals->b∈X.fs->b∉ch->s.heap.get? b=some o->H b=none->∃sl,h'.get? b=some {o with slots:=sl})(free:∀b o,b∉ch->s.heap.get? b=some o->H b=none->H' b=none)(there:∀b o,b∉ch->s.heap.get? b=some o->∃o',h'.get? b=some o')(tups:∀b xs,H b=some (.tup xs)->H' b=some (.tup xs))(vG:∀b o u,H b=some (.cX o u)->H' b=some (.cX o u))(xX:∀b ps,H b=some (.Tn ps)->∃more,H' b=some (.Tn (ps++more)))(ns:∀m,s.heap.Ns X.env.locals m->h'.Ns X.env.locals m)(hok:m7 X.prog X.w H' h')(hg:AllBare g'):Inv X pins σ H' {s with heap:=h',gens:=g',drawn:=d',toks:=t'}:=by
 have neL:∀b o,X.s₀.heap.get? b=some o->b≠X.env.locals:=fun b o e=>ne_of_lt (lt_of_lt_of_le (lt_size e) I.ok.above);have neC:∀b o,X.s₀.heap.get? b=some o->b∉X.ex->b∉ch:=fun b o e hx hb=>by
  rcases(hch b hb).1 with z|z;.exact hx z
  .exact absurd (lt_of_lt_of_le (lt_size e) z) (lt_irrefl _)
 have cellK:∀x c,X.env.cells.lookup x=some c->∀v,s.heap.IsCell c v->h'.IsCell c v:=fun x c e v⟨o,ho,hd⟩=>by
  have JP:c∉ch:=fun z=>(hch c z).2.2.1 x c e rfl;by_cases hc:c∈X.fs;.obtain⟨sl,q⟩:=slot c o (I.R1 x c e) hc JP ho (I.jt x c e);exact⟨_,q,hd⟩
  .exact⟨o,keep c o (I.R1 x c e) hc JP ho (I.jt x c e),hd⟩
 refine⟨I.ok,I.os,hg,⟨fun b o e n hb hx=>?_,fun b o e n hb hx=>?_,fun b o e n hx=>?_,fun b o e hx=>?_,fun b xs e=>tups b xs (I.base.tups b xs e),fun b o xs e=>vG b o xs (I.base.vG b o xs e),fun b ps e=>?_⟩,?_,fun x c e=>?_,?_,fun x c e=>?_,fun p hp=>?_,hok,I.len⟩;.exact keep b o (neL b o e) hb (neC b o e hx) (I.base.keep b o e n hb hx) (I.base.free b o e n hx)
 .obtain⟨sl,e1⟩:=I.base.slot b o e n hb hx;obtain⟨sl',e2⟩:=slot b _ (neL b o e) hb (neC b o e hx) e1 (I.base.free b o e n hx);exact⟨sl',e2⟩
 .obtain⟨o',e1⟩:=I.base.there b o e hx;exact free b o' (neC b o e hx) e1 (I.base.free b o e n hx)
 .obtain⟨o',e1⟩:=I.base.there b o e hx;exact there b o' (neC b o e hx) e1
 .obtain⟨m1,e1⟩:=I.base.xX b ps e;obtain⟨m2,e2⟩:=xX b _ e1;exact⟨m1++m2,by rw[e2,Array.append_assoc]⟩
 . obtain⟨m,hn,hl⟩:=I.loc;refine⟨m,ns m hn,fun i x v e1 e2 e3=>?_⟩;obtain⟨u,r,l⟩:=hl i x v e1 e2 e3;refine⟨u,r,?_⟩;rcases l with l|⟨k,c,e,z⟩;.exact .inl l
   .exact .inr ⟨k,c,e,cellK x c e _ z⟩
 .obtain⟨v,z⟩:=I.cell x c e;exact⟨v,cellK x c e v z⟩
 .obtain⟨m,⟨o,_,_,ho,_⟩,_⟩:=I.loc;exact free _ o (fun z=>(hch _ z).2.1 rfl) ho I.free
 .obtain⟨v,o,ho,hd⟩:=I.cell x c e;exact free c o (fun z=>(hch c z).2.2.1 x c e rfl) ho (I.jt x c e)
 .obtain⟨e,n,ne,nf,d⟩:=I.pin p hp;have JP:p.1∉ch:=fun z=>(hch p.1 z).2.2.2 p hp rfl;exact⟨keep p.1 p.2 ne nf JP e n,free p.1 p.2 JP e n,ne,nf,d⟩
theorem Inv.un(I:Inv X pins σ H s)(u:Un X.fs [] H H' s.heap h')(hok:m7 X.prog X.w H' h'):Inv X pins σ H' {s with heap:=h',toks:=t'}:=by obtain⟨m,⟨o,es,ep,ho,r⟩,_⟩:=id I.loc;obtain⟨sl,hL⟩:=u.any ho I.free (by simp);exact I.step (g':=s.gens) (d':=s.drawn) (ch:=[]) (fun _ z=>nomatch z) (fun b o _ hb _ e n=>u.keep b o e n hb (by simp)) (fun b o _ hb _ e n=>u.slot b o e n hb (by simp)) (fun b o _ e n=>u.free b o e n (by simp)) (fun b o _ e=>u.there b o e (by simp)) u.tups u.vG u.xX (fun m' hm=>by obtain⟨o',es',ep',ho',r'⟩:=hm;rw[ho]at ho';cases ho';exact⟨_,es',ep',hL,r'⟩) hok I.bare
theorem Inv.call{g':Array GenState}{d':Drawn}{ch:List Addr}(I:Inv X pins σ H s)(u:Un (frs X.stack) ch H H' s.heap h')(hok:m7 X.prog X.w H' h')(hg:AllBare g')(hch:∀b∈ch,(b∈X.ex\/X.s₀.heap.objs.size<=b)/\b≠X.env.locals/\(∀x c,X.env.cells.lookup x=some c->c≠b)/\∀p∈X.pn++pins,p.1≠b):Inv X pins σ H' {s with heap:=h',gens:=g',drawn:=d',toks:=t'}:=by obtain⟨m,⟨o,es,ep,ho,r⟩,_⟩:=id I.loc;obtain⟨sl,hL⟩:=u.any ho I.free fun z=>(hch _ z).2.1 rfl;exact I.step (ch:=ch) hch (fun b o hL hb hc e n=>u.keep b o e n (fun z=>(mem_cons.mp (I.uY b z)).elim hL hb) hc) (fun b o _ _ hc e n=>u.any e n hc) (fun b o hc e n=>u.free b o e n hc) (fun b o hc e=>u.there b o e hc) u.tups u.vG u.xX (fun m' hm=>by obtain⟨o',es',ep',ho',r'⟩:=hm;rw[ho]at ho';cases ho';exact⟨_,es',ep',hL,r'⟩) hok hg
theorem Inv.turned{it:Addr}(I:Inv X pins σ H s)(k:∀b o,b≠it->s.heap.get? b=some o->h'.get? b=some o)(hn:H it=none)(hL:it≠X.env.locals)(h1:it∈X.ex\/X.s₀.heap.objs.size<=it)(h2:∀x c,X.env.cells.lookup x=some c->c≠it)(h3:∀p∈X.pn++pins,p.1≠it):Inv X pins σ H {s with heap:=h',toks:=t'}:=by
 have nit:∀b u,H b=some u->b≠it:=fun b u e z=>by rw[z,hn]at e;cases e
 refine I.step (g':=s.gens) (d':=s.drawn) (ch:=[it]) (fun b hb=>?_) (fun b o _ _ hc e _=>k b o (fun z=>hc (by simp[z])) e) (fun b o _ _ hc e _=>⟨o.slots,k b o (fun z=>hc (by simp[z])) e⟩) (fun _ _ _ _ n=>n) (fun b o hc e=>⟨o,k b o (fun z=>hc (by simp[z])) e⟩) (fun _ _ e=>e) (fun _ _ _ e=>e) (fun b ps e=>⟨#[],by rw[e];simp⟩) (fun m hm=>?_) (fun b u e=>?_) I.bare
 . have e:b=it:=by simpa using hb
   subst e;exact⟨h1,hL,h2,h3⟩
 .obtain⟨o,es,ep,ho,r⟩:=hm;exact⟨o,es,ep,k _ o (Ne.symm hL) ho,r⟩
 . refine(I.hok b u e).stay (fun c v hc q=>k c v ?_ q) (fun _ q=>q) fun _ _ q=>q;rcases hc with z|z;.rw[z];exact nit b u e
   .exact nit c _ z
theorem Inv.tok(I:Inv X pins σ H s)(t:Nat):Inv X pins σ H {s with toks:=t}:=I.un (h':=s.heap) (t':=t) Un.refl I.hok
theorem Inv.kept{t':Nat}(I:Inv X pins σ H s)(k:∀b u,s.heap.get? b=some u->h'.get? b=some u):Inv X pins σ H {s with heap:=h',toks:=t'}:=I.un (Un.kept k) (I.hok.kept k)
theorem Inv.laid{a:Addr}{o:HO}{t':Nat}(I:Inv X pins σ H s)(k:∀b u,s.heap.get? b=some u->h'.get? b=some u)(hp:s.heap.objs.size<=a)(new:cj X.prog X.w (upd H a o) h' a o):Inv X pins σ (upd H a o) {s with heap:=h',toks:=t'}:=I.un (Un.laid k hp (I.hok.fresh hp)) (I.hok.laid k hp new)
theorem Inv.write{x e:Addr}{o:HO}{t':Nat}(I:Inv X pins σ H s)(mu:XM (H x))(he:e=x\/H e=some (.own x))(k:∀b u,b≠e->s.heap.get? b=some u->h'.get? b=some u)(heo:∃u,h'.get? e=some u)(new:cj X.prog X.w (upd H x o) h' x o):Inv X pins σ (upd H x o) {s with heap:=h',toks:=t'}:=I.un (Un.write mu he k heo) (I.hok.write mu he k heo new)
theorem Inv.An{Ck:List (Addr×Obj)}(I:Inv X pins σ H s)(h:∀p∈Ck,s.heap.get? p.1=some p.2/\H p.1=none/\p.1≠X.env.locals/\p.1∉X.fs/\∀v,p.2.data≠.cell v):Inv X Ck σ H s:=⟨I.ok,I.os,I.bare,I.base,I.loc,I.cell,I.free,I.jt,fun p hp=>(mem_append.mp hp).elim (fun z=>I.pin p (mem_append_left _ z)) (h p),I.hok,I.len⟩
theorem xT{N:List Str}(hN:N.Nodup){j:Nat}{x:Str}(a:N[i]?=some x)(b:N[j]?=some x):i=j:=by obtain⟨h1,e1⟩:=cV a;obtain⟨h2,e2⟩:=cV b;exact(List.getElem_inj hN).mp (e1.trans e2.symm)
theorem ug{E:Value->Shared->Prop}{x:Str}{v:V}{u:Value}{Q:Unit->Shared->Prop}(I:Inv X pins σ H s)(hN:X.N.Nodup)(hi:X.N[i]?=some x)(hx:Loc X.env.scope x)(r:RelV v u)(h:∀s',Inv X pins (σ.set i (some v)) H s'->(∃a,SameBut a s.heap s'.heap/\(a=X.env.locals\/X.env.cells.lookup x=some a))->Q () s')(hf:X.fn x=true\/X.env.scope.names.lookup x=some .local:=by first|exact .inl rfl|exact .inr rfl|assumption):wpAny M A (storeName X.env x u) Q E s:=by
 obtain⟨m,hn,hl⟩:=id I.loc;have hcls:(X.env.scope.kind==.class||(X.env.scope.kind==.module&&X.env.locals !=X.env.globals))=false:=by rw[I.ok.kind];rfl
 have hiσ:i<σ.length:=by rw[I.len];exact(cV hi).1
 have R1:=I.R1;have tracked:∀{a:Addr}{h':Heap},(∃o,s.heap.get? a=some o/\H a=none)->SameBut a s.heap h'->m7 X.prog X.w H h':=fun{a h'}ha hs b ob e=>by
  obtain⟨_,_,hfree⟩:=ha;refine(I.hok b ob e).stay (fun c w' hc q=>(hs.2 c ?_).trans q) (fun _ q=>q) fun _ _ q=>q;rintro rfl;rcases hc with rfl|hc;.rw[hfree]at e;cases e
  .rw[hfree]at hc;cases hc
 rcases hx with hk|hk
 . refine wpAny_storeName_local hk hn (fun h' hn' hs=>?_) hcls;obtain⟨oL,_,_,hoL,_⟩:=id hn;refine h _ ⟨I.ok,I.os,I.bare,⟨fun b o e n hb hx=>?_,fun b o e n hb hx=>?_,I.base.free,fun b o e hx=>?_,I.base.tups,I.base.vG,I.base.xX⟩,⟨_,hn',fun j y v' e1 e2 e3=>?_⟩,fun y c e=>?_,I.free,I.jt,fun p hp=>?_,tracked ⟨oL,hoL,I.free⟩ hs,by simpa using I.len⟩ ⟨_,hs,.inl rfl⟩;.exact(hs.2 b (ne_of_lt (lt_of_lt_of_le (lt_size e) I.ok.above))).trans (I.base.keep b o e n hb hx)
   .obtain⟨sl,e1⟩:=I.base.slot b o e n hb hx;exact⟨sl,(hs.2 b (ne_of_lt (lt_of_lt_of_le (lt_size e) I.ok.above))).trans e1⟩
   .obtain⟨o',e1⟩:=I.base.there b o e hx;exact⟨o',(hs.2 b (ne_of_lt (lt_of_lt_of_le (lt_size e) I.ok.above))).trans e1⟩
   . by_cases hj:j=i;.subst hj;rw[hi]at e1;cases e1;rw[getElem?_set_self hiσ]at e2;cases e2;exact⟨u,r,.inl ⟨hk,by simp⟩⟩
     . rw[fZ hj]at e2;obtain⟨u',r',q⟩:=hl j y v' e1 e2 e3;refine⟨u',r',?_⟩;rcases q with⟨k,e⟩|⟨k,c,e,z⟩;.refine .inl ⟨k,?_⟩;have:y≠x:=fun e=>hj (xT hN e1 (e▸hi));simp[this,e]
       .exact .inr ⟨k,c,e,z.sameBut hs (R1 y c e)⟩
   .obtain⟨w',z⟩:=I.cell y c e;exact⟨w',z.sameBut hs (R1 y c e)⟩
   .obtain⟨e,n,ne,nf,d⟩:=I.pin p hp;exact⟨(hs.2 p.1 ne).trans e,n,ne,nf,d⟩
 . have hfn:X.fn x=true:=by
    rcases hf with z|z;.exact z
    .rw[z]at hk;cases hk
   obtain⟨c,hc⟩:=I.ok.has x (.inl hk);obtain⟨w',z⟩:=I.cell x c hc;refine wpAny_storeName_cell I.ok.kind hk hc z (fun h' hc' hs=>?_);obtain⟨oc,hoc,aeu⟩:=id z;refine h {s with heap:=h'} ⟨I.ok,I.os,I.bare,⟨fun b o e n hb hx=>?_,fun b o e n hb hx=>?_,I.base.free,fun b o e hx=>?_,I.base.tups,I.base.vG,I.base.xX⟩,⟨m,hn.sameBut hs (Ne.symm (R1 x c hc)),fun j y v' e1 e2 e3=>?_⟩,fun y c' e=>?_,I.free,I.jt,fun p hp=>?_,tracked ⟨oc,hoc,I.jt x c hc⟩ hs,by simpa using I.len⟩ ⟨c,hs,.inr hc⟩;.exact(hs.2 b (ne_of_lt (lt_of_lt_of_le (lt_size e) (I.ok.cab x c hfn hc)))).trans (I.base.keep b o e n hb hx)
   .obtain⟨sl,e1⟩:=I.base.slot b o e n hb hx;exact⟨sl,(hs.2 b (ne_of_lt (lt_of_lt_of_le (lt_size e) (I.ok.cab x c hfn hc)))).trans e1⟩
   .obtain⟨o',e1⟩:=I.base.there b o e hx;exact⟨o',(hs.2 b (ne_of_lt (lt_of_lt_of_le (lt_size e) (I.ok.cab x c hfn hc)))).trans e1⟩
   . by_cases hj:j=i;.subst hj;rw[hi]at e1;cases e1;rw[getElem?_set_self hiσ]at e2;cases e2;exact⟨u,r,.inr ⟨.inl hk,c,hc,hc'⟩⟩
     . rw[fZ hj]at e2;obtain⟨u',r',q⟩:=hl j y v' e1 e2 e3;refine⟨u',r',?_⟩;rcases q with q|⟨k,c',e,z'⟩;.exact .inl q
       .refine .inr ⟨k,c',e,z'.sameBut hs ?_⟩;rintro rfl;exact hj (xT hN e1 (I.ok.inj _ _ _ e hc▸hi))
   . by_cases hcc:c'=c;.subst hcc;exact⟨_,hc'⟩
     .obtain⟨w2,z2⟩:=I.cell y c' e;exact⟨w2,z2.sameBut hs hcc⟩
   .obtain⟨e,n,ne,nf,d⟩:=I.pin p hp;refine⟨(hs.2 p.1 ?_).trans e,n,ne,nf,d⟩;intro q;rw[q,hoc]at e;have q':oc=p.2:=Option.some.inj e;exact d w' (by rw[<-q'];exact aeu)
theorem jN{E:Value->Shared->Prop}{x:Str}{v:V}{u:Value}{Q:Unit->Shared->Prop}(I:Inv X pins σ H s)(hN:X.N.Nodup)(hi:X.N[i]?=some x)(hx:Loc X.env.scope x)(r:RelV v u)(h:∀s',Inv X pins (σ.set i (some v)) H s'->Q () s')(hf:X.fn x=true\/X.env.scope.names.lookup x=some .local:=by first|exact .inl rfl|exact .inr rfl|assumption):wpAny M A (storeName X.env x u) Q E s:=ug I hN hi hx r (fun s' I' _=>h s' I') hf
end
abbrev XK:=Value->Option Addr->Hp->Prop
noncomputable abbrev St:=List (Option V)
abbrev VK:=V->Hp->Prop
abbrev TE:=St->Hp->VK->Prop
variable{te:TE}
abbrev TT:=St->Hp->(Bool->Hp->Prop)->Prop
abbrev TA:=St->Hp->(List V->Hp->Prop)->Prop
structure Ends where
 nx:St->Hp->Prop
 rt:VK
 bk:St->Hp->Prop:=fun _ _=>False
 ct:St->Hp->Prop:=fun _ _=>False
abbrev TS:=Ends->St->Hp->Prop
inductive EP(X:Cx)(pins:List (Addr×Obj))(σ:St)(Q:VK)(u:Value)(s':Shared):Prop where|mk(v:V)(H':Hp)(q0:Inv X pins σ H' s')(q1:RelV v u)(q2:Q v H')
def TP(X:Cx)(pins:List (Addr×Obj))(σ:St)(Q:Bool->Hp->Prop)(b:Bool)(s':Shared):Prop:=∃H',Inv X pins σ H' s'/\Q b H'
inductive AP(X:Cx)(pins:List (Addr×Obj))(σ:St)(Q:List V->Hp->Prop)(us:List Value)(s':Shared):Prop where|mk(vs:List V)(H':Hp)(q0:Inv X pins σ H' s')(q1:Vals vs us)(q2:Q vs H')
def SP(X:Cx)(pins:List (Addr×Obj))(D:Ends)(f:Flow)(s':Shared):Prop:=match f with|.next=>∃σ' H',Inv X pins σ' H' s'/\D.nx σ' H'|.brk=>∃σ' H',Inv X pins σ' H' s'/\D.bk σ' H'|.cont=>∃σ' H',Inv X pins σ' H' s'/\D.ct σ' H'|.ret u=>∃v σ' H',Inv X pins σ' H' s'/\RelV v u/\D.rt v H'
def PE(X:Cx)(e:Expr)(t:TE):Prop:=∀(pins:List (Addr×Obj))(s:Shared)(σ:St)(H:Hp)(Q:VK),Inv X pins σ H s->t σ H Q->wpAny (model X.prog X.w) X.A (eval e X.env) (EP X pins σ Q) X.xe s
def PT(X:Cx)(e:Expr)(t:TT):Prop:=∀(pins:List (Addr×Obj))(s:Shared)(σ:St)(H:Hp)(Q:Bool->Hp->Prop),Inv X pins σ H s->t σ H Q->wpAny (model X.prog X.w) X.A (isTrue e X.env (eval e X.env)) (TP X pins σ Q) X.xe s
def PW(X:Cx)(e:Expr)(t:TT):Prop:=∀(whole:Sem Value)(pins:List (Addr×Obj))(s:Shared)(σ:St)(H:Hp)(Q:Bool->Hp->Prop),Inv X pins σ H s->t σ H Q->wpAny (model X.prog X.w) X.A (isTrue e X.env whole) (TP X pins σ Q) X.xe s
theorem PW.pt{e:Expr}{t:TT}(h:PW X e t):PT X e t:=h _
def PA(X:Cx)(es:List Expr)(t:TA):Prop:=∀(pos:Pos)(pins:List (Addr×Obj))(s:Shared)(σ:St)(H:Hp)(Q:List V->Hp->Prop),Inv X pins σ H s->t σ H Q->wpAny (model X.prog X.w) X.A (spliced (backTo pos (starEach es X.env))) (AP X pins σ Q) X.xe s
def PS(X:Cx)(st:Stmt)(t:TS):Prop:=∀(pins:List (Addr×Obj))(s:Shared)(σ:St)(H:Hp)(D:Ends),Inv X pins σ H s->t D σ H->wpAny (model X.prog X.w) X.A (exec st X.env) (SP X pins D) X.xe s
def vZ(X:Cx)(st:List Stmt)(t:TS):Prop:=∀(pins:List (Addr×Obj))(s:Shared)(σ:St)(H:Hp)(D:Ends),Inv X pins σ H s->t D σ H->wpAny (model X.prog X.w) X.A (execs st X.env) (SP X pins D) X.xe s
theorem cz{α:Type}{t:Sem α}{Q Q':α->Shared->Prop}{E:Value->Shared->Prop}(h:wpAny M A t Q E s)(hQ:∀a s,Q a s->Q' a s):wpAny M A t Q' E s:=wpAny_mono h hQ fun _ _ x=>x
section
variable{X:Cx}
def Rg(i:Nat):TE:=fun σ H Q=>∃v,σ[i]?=some (some v)/\Q v H
def tC(v:V):TE:=fun _ H Q=>Q v H
theorem iB{x:Str}{pos:Pos}(hN:X.N[i]?=some x)(hv:yC X.env.scope x)(hd:(x==("__debug__":Str))=false:=by decide)(hcd:(x==("__classdict__":Str))=false:=by decide):PE X (.Name x pos) (Rg i):=by
 intro pins s σ H Q I h;obtain⟨v,e,h⟩:=h;obtain⟨m,hn,hl⟩:=I.loc;obtain⟨u,r,l⟩:=hl i x v hN e hv;have fin:EP X pins σ Q u s:=⟨v,H,I,r,h⟩;rcases l with⟨hk,hm⟩|⟨hk,c,hc,hcell⟩;.exact wpAny_Name (wpAny_loadName_local I.ok.kind hk hn hm fin) hd
 . rcases hk with hk|hk;.exact wpAny_Name (wpAny_loadName_cell I.ok.kind hk hc hcell fin) hd
   .exact wpAny_Name (wpAny_loadName_free I.ok.kind hk hc hcell fin hcd) hd
theorem yJ{i j pos}:PE X (.Constant (.int i) j pos) (tC (.int i)):=fun _ _ _ H _ I h=>wpAny_Constant_int ⟨.int i,H,I.tok _,⟨_,rfl⟩,h⟩
theorem Xz{b j pos}:PE X (.Constant (.bool b) j pos) (tC (.bl b)):=fun _ _ _ H _ I h=>Constant_bool ⟨.bl b,H,I,rfl,h⟩
theorem Qj{j pos}:PE X (.Constant .none j pos) (tC .non):=fun _ _ _ H _ I h=>Constant_none ⟨.non,H,I,rfl,h⟩
def Gl(X:Cx)(x:Str):Prop:=X.env.kindOf x=some .globalImplicit
theorem Bs{E:Value->Shared->Prop}{σ:St}{x:Str}{u:Value}{pos:Pos}{Q:Value->Shared->Prop}(I:Inv X pins σ H s)(hg:Gl X x)(hm:X.mg x=some u)(h:Q u s)(hd:(x==("__debug__":Str))=false:=by decide):wpAny (model X.prog X.w) X.A (eval (.Name x pos) X.env) Q E s:=Calls.Name_function_global I.ok.kind hg (Calls.loadGlobal_global (by rw[I.ok.glob];exact I.mod.glob.keeps I.bk) hm h) hd
theorem iu{E:Value->Shared->Prop}{σ:St}{x:Str}{u:Value}{pos:Pos}{Q:Value->Shared->Prop}(I:Inv X pins σ H s)(hg:Gl X x)(hm:X.mg x=none)(hv:bootBuiltins x=some u)(h:Q u s)(hn:x≠"__name__":=by decide)(hd:(x==("__debug__":Str))=false:=by decide):wpAny (model X.prog X.w) X.A (eval (.Name x pos) X.env) Q E s:=by obtain⟨mb,h1,h2⟩:=I.mod.blt;exact Calls.Name_function_global I.ok.kind hg (Calls.loadGlobal_builtin (by rw[I.ok.glob];exact I.mod.glob.keeps I.bk) hm (by rw[I.ok.blt];exact h1.keeps I.bk) ((h2 x hn).trans hv) h) hd
theorem Kz{x:Str}{v:V}{u:Value}{pos:Pos}(hg:Gl X x)(hm:X.mg x=some u)(r:RelV v u)(hd:(x==("__debug__":Str))=false:=by decide):PE X (.Name x pos) (tC v):=fun _ _ _ H _ I h=>Bs I hg hm ⟨v,H,I,r,h⟩ hd
variable{a b:Expr}{ta tb:TE}{pos:Pos}
def PC(X:Cx)(op:CmpOp)(a b:Expr)(t:TE):Prop:=∀(pins:List (Addr × Obj))(s:Shared)(σ:St)(H:Hp)(Q:VK),Inv X pins σ H s->t σ H Q->wpAny (model X.prog X.w) X.A (eval a X.env) (fun v s₁=>wpAny (model X.prog X.w) X.A (eval b X.env) (fun u s₂=>wpAny (model X.prog X.w) X.A (compareOp op v u) (EP X pins σ Q) X.xe s₂) X.xe s₁) X.xe s
def tB(t:TE):TT:=fun σ H Q=>t σ H fun x H1=>∃c,x=.bl c/\Q c H1
theorem Qn{t:TE}(h:PC X op a b t)(h1:behindInMarks op b=false:=by first|exact Yv _ (by decide) (by decide)|rfl):PT X (.Compare a [op] [b] pos) (tB t):=by intro pins s σ H Q I hw;refine wpAny_isTrue_Compare1 (cz (h pins s σ H _ I hw) fun v s1 h1=>cz h1 fun u s2 h2=>cz h2 fun c s3⟨x,H1,I1,r1,q1⟩=>?_) h1;obtain⟨d,rfl,q⟩:=q1;cases r1;exact wpAny_truthy_bool ⟨H1,I1,q⟩
theorem Qw{e:Expr}{t:TE}(h:PE X e t)(he:∀whole,isTrue e X.env whole=(do let v<-whole;standAt e.pos;holding [v] (truthy v)):=by intro _;rfl):PT X e (tB t):=by intro pins s σ H Q I hw;refine isTrue_plain (cz (h pins s σ H _ I hw) fun v s1⟨x,H1,I1,r1,q1⟩=>?_) (he _);obtain⟨d,rfl,q⟩:=q1;cases r1;exact wpAny_truthy_bool ⟨H1,I1,q⟩
variable{tA tB':TT}{rest:List Expr}
def abG(t u:TT):TT:=fun σ H Q=>t σ H fun c H1=>if c=true then u σ H1 Q else Q false H1
def tOr(t u:TT):TT:=fun σ H Q=>t σ H fun c H1=>if c=true then Q true H1 else u σ H1 Q
def acN(t:TT):TT:=fun σ H Q=>t σ H fun c H1=>Q (!c) H1
theorem Mx(ha:PT X a tA):PW X (.BoolOp .And [a] pos) tA:=by intro wh pins s σ H Q I h;refine isTrue_and (cz (ha pins s σ H Q I h) fun c s1 e=>?_);cases c with|true=>exact isTrue_and_nil e|false=>exact e
theorem RZ(ha:PT X a tA):PW X (.BoolOp .Or [a] pos) tA:=by intro wh pins s σ H Q I h;refine isTrue_or (cz (ha pins s σ H Q I h) fun c s1 e=>?_);cases c with|false=>exact isTrue_or_nil e|true=>exact e
theorem Tf(ha:PT X a tA)(hb:PW X (.BoolOp .And (b::rest) pos) tB'):PW X (.BoolOp .And (a::b::rest) pos) (abG tA tB'):=by intro wh pins s σ H Q I h;refine isTrue_and (cz (ha pins s σ H _ I h) fun c s1⟨H1,I1,q1⟩=>?_);cases c with|true=>exact hb wh pins s1 σ H1 Q I1 q1|false=>exact⟨H1,I1,q1⟩
theorem Wg(ha:PT X a tA)(hb:PW X (.BoolOp .Or (b::rest) pos) tB'):PW X (.BoolOp .Or (a::b::rest) pos) (tOr tA tB'):=by intro wh pins s σ H Q I h;refine isTrue_or (cz (ha pins s σ H _ I h) fun c s1⟨H1,I1,q1⟩=>?_);cases c with|true=>exact⟨H1,I1,q1⟩|false=>exact hb wh pins s1 σ H1 Q I1 q1
theorem R4(ha:PT X a tA):PT X (.UnaryOp .Not a pos) (acN tA):=by intro pins s σ H Q I h;exact isTrue_not (ha pins s σ H (fun c H1=>Q (!c) H1) I h)
def V2(ta tb:TE):TE:=fun σ H Q=>ta σ H fun x H1=>∃c,x=.bl c/\if c=true then tb σ H1 Q else Q (.bl false) H1
theorem S8{op}{t:TE}(h:PE X a t):PE X (.BoolOp op [a] pos) t:=fun pins s σ H Q I hw=>BoolOp_one (h pins s σ H Q I hw)
theorem Rn(ha:PE X a ta)(hb:PE X (.BoolOp .And (b::rest) pos) tb):PE X (.BoolOp .And (a::b::rest) pos) (V2 ta tb):=by intro pins s σ H Q I h;refine BoolOp_and (cz (ha pins s σ H _ I h) fun v s1⟨x,H1,I1,r1,q1⟩=>?_);obtain⟨c,rfl,q1⟩:=q1;cases r1;refine wpAny_truthy_bool ?_;cases c with|true=>exact hb pins s1 σ H1 Q I1 q1|false=>exact⟨.bl false,H1,I1,rfl,q1⟩
def tIf(t:TT)(ta tb:TE):TE:=fun σ H Q=>t σ H fun c H1=>if c=true then ta σ H1 Q else tb σ H1 Q
theorem Jx{c:Expr}(hc:PT X c tA)(ha:PE X a ta)(hb:PE X b tb):PE X (.IfExp c a b pos) (tIf tA ta tb):=by intro pins s σ H Q I h;refine wpAny_IfExp (cz (hc pins s σ H _ I h) fun d s1⟨H1,I1,q1⟩=>?_);cases d with|true=>exact ha pins s1 σ H1 Q I1 q1|false=>exact hb pins s1 σ H1 Q I1 q1
end
def dF(K:PySem.W.Frag)(H:Hp)(a:Addr)(xs:List V):Prop:=Rd H a (.lst xs)\/∃(o:Obj)(its:Array Value)(n:Nat),K.lookup a=some o/\o.cls=.type "list"/\o.dict=none/\o.data=.seq its n/\its.size<=sizeLine/\Vals xs its.toList
def iT(K:PySem.W.Frag)(H:Hp)(a:Addr)(xs:List V):Prop:=Rd H a (.tup xs)\/∃(o:Obj)(its:Array Value)(n:Nat),K.lookup a=some o/\o.cls=.type "tuple"/\o.data=.seq its n/\its.size<=sizeLine/\Vals xs its.toList
noncomputable def abS:Value->Option V|.none=>some .non|.bool b=>some (.bl b)|.int i _=>some (.int i)|.str x _=>some (.str x)|.bytes b _=>some (.byt b)|.float b _=>some (.flt b)|.ref a=>some (.ref a)|.type n=>some (.ty n)|_=>none
theorem RelV.abs{x:V}{u:Value}(r:RelV x u):abS u=some x:=by cases x with|non=>cases r;rfl|bl _=>cases r;rfl|int _=>obtain⟨t,rfl⟩:=r;rfl|str _=>obtain⟨t,rfl⟩:=r;rfl|byt _=>obtain⟨t,rfl⟩:=r;rfl|flt _=>obtain⟨t,rfl⟩:=r;rfl|ref _=>cases r;rfl|ty _=>cases r;rfl
theorem RelV.inj{x y:V}{u:Value}(r:RelV x u)(q:RelV y u):x=y:=Option.some.inj (r.abs.symm.trans q.abs)
theorem Vals.inj:∀{xs ys:List V}{us:List Value},Vals xs us->Vals ys us->xs=ys|_,_,_,.nil,.nil=>rfl|_,_,_,.cons r t,.cons r' t'=>by rw[r.inj r',Vals.inj t t']
section
variable{X:Cx}{pins:List (Addr×Obj)}{σ:St}{H:Hp}{s:Shared}{a:Addr}{xs ys:List V}
theorem dF.of(h:H a=some (.lst xs)):dF K H a xs:=.inl (.inl h)
theorem iT.of(h:H a=some (.tup xs)):iT K H a xs:=.inl (.inl h)
theorem Inv.list(I:Inv X pins σ H s)(h:dF X.K H a xs):∃its:List Value,Vals xs its/\PlainL s.heap a its.toArray/\xs.length<=sizeLine:=by
 rcases h with h|⟨o,its,n,hk,hc,hd,hs,hz,r⟩;.obtain⟨z,its,n,r,e⟩:=h.ok I.hok;exact⟨its,r,⟨_,n,e,rfl,rfl,rfl⟩,z⟩
 .refine⟨its.toList,r,⟨o,n,I.Ui a o hk,hc,hd,by simpa using hs⟩,?_⟩;have e:=r.length;simp only[length_toList]at e;omega
theorem Inv.tuple(I:Inv X pins σ H s)(h:iT X.K H a xs):∃its:List Value,Vals xs its/\IsTup s.heap a its.toArray/\xs.length<=sizeLine:=by
 rcases h with h|⟨o,its,n,hk,hc,hs,hz,r⟩;.obtain⟨z,its,r,p⟩:=h.ok I.hok;exact⟨its,r,p,z⟩
 .refine⟨its.toList,r,⟨o,I.Ui a o hk,hc,n,by simpa using hs⟩,?_⟩;have e:=r.length;simp only[length_toList]at e;omega
theorem Inv.lN(I:Inv X pins σ H s)(h:dF X.K H a xs)(h':dF X.K H a ys):xs=ys:=by
 obtain⟨its,r,⟨o,n,e,_,_,d⟩,_⟩:=I.list h;obtain⟨its',r',⟨o',n',e',_,_,d'⟩,_⟩:=I.list h';rw[e]at e';cases e';rw[d]at d';injection d' with d1 _;have:its=its':=by simpa using congrArg toList d1
 subst this;exact r.inj r'
theorem Inv.jZ(I:Inv X pins σ H s)(h:iT X.K H a xs)(h':iT X.K H a ys):xs=ys:=by
 obtain⟨its,r,⟨o,e,_,n,d⟩,_⟩:=I.tuple h;obtain⟨its',r',⟨o',e',_,n',d'⟩,_⟩:=I.tuple h';rw[e]at e';cases e';rw[d]at d';injection d' with d1 _;have:its=its':=by simpa using congrArg toList d1
 subst this;exact r.inj r'
end
noncomputable abbrev Cx.wish(X:Cx)(E:Value->Shared->Prop):Cx:={X with xe:=E}
noncomputable abbrev Cx.Xg(X:Cx):Cx:=X.wish fun _ _=>False
theorem Cx.Ok.wish{X:Cx}(ok:X.Ok)(E:Value->Shared->Prop):(X.wish E).Ok:=⟨ok.mod,ok.kind,ok.glob,ok.blt,ok.above,ok.inj,ok.has,ok.cab,ok.hd,ok.frames,ok.Vv,ok.exf,ok.bs,ok.Kh,ok.zV,ok.El,ok.m9,ok.Pa⟩
theorem Cx.Ok.jC{E:Value->Shared->Prop}(ok:(X.wish E).Ok):X.Ok:=⟨ok.mod,ok.kind,ok.glob,ok.blt,ok.above,ok.inj,ok.has,ok.cab,ok.hd,ok.frames,ok.Vv,ok.exf,ok.bs,ok.Kh,ok.zV,ok.El,ok.m9,ok.Pa⟩
section
variable{X:Cx}{pins:List (Addr×Obj)}{σ:St}{H:Hp}{s:Shared}{E:Value->Shared->Prop}
theorem Inv.wish(I:Inv X pins σ H s)(E:Value->Shared->Prop):Inv (X.wish E) pins σ H s:=⟨I.ok.wish E,I.os,I.bare,I.base,I.loc,I.cell,I.free,I.jt,I.pin,I.hok,I.len⟩
theorem Inv.jC(I:Inv (X.wish E) pins σ H s):Inv X pins σ H s:=⟨I.ok.jC,I.os,I.bare,I.base,I.loc,I.cell,I.free,I.jt,I.pin,I.hok,I.len⟩
theorem SP.jC{D:Ends}{f:Flow}{s':Shared}(h:SP (X.wish E) pins D f s'):SP X pins D f s':=by cases f with|next=>obtain⟨σ',H',I,q⟩:=h;exact⟨σ',H',I.jC,q⟩|brk=>obtain⟨σ',H',I,q⟩:=h;exact⟨σ',H',I.jC,q⟩|cont=>obtain⟨σ',H',I,q⟩:=h;exact⟨σ',H',I.jC,q⟩|ret u=>obtain⟨v,σ',H',I,r,q⟩:=h;exact⟨v,σ',H',I.jC,r,q⟩
theorem vZ.Xg{st:List Stmt}{t:TS}(h:vZ X.Xg st t):vZ X st t:=fun pins s σ H D I hw=>wpAny_mono (h pins s σ H D (I.wish _) hw) (fun _ _ q=>q.jC) fun _ _ z=>False.elim z
end
section
variable{X:Cx}{st:Stmt}{rest:List Stmt}{t u:TS}{e:Expr}{te:TE}{pos:Pos}
def V9:TS:=fun D σ H=>D.nx σ H
def ad9(t u:TS):TS:=fun D σ H=>t {D with nx:=u D} σ H
theorem Af:vZ X [] V9:=fun _ _ σ H _ I h=>wpAny_execs_nil ⟨σ,H,I,h⟩
theorem mF(h1:PS X st t)(h2:vZ X rest u):vZ X (st::rest) (ad9 t u):=by intro pins s σ H D I h;refine wpAny_execs_cons (cz (h1 pins s σ H {D with nx:=u D} I h) fun f s1 q=>?_);cases f with|next=>obtain⟨σ',H',I',q⟩:=q;exact h2 pins s1 σ' H' D I' q|ret v=>exact q|brk=>exact q|cont=>exact q
theorem Inv.quiet{σ:St}(I:Inv X pins σ H s):interactive X.env=false:=by simp[interactive,I.ok.kind]
def W8(te:TE):TS:=fun D σ H=>te σ H fun _ H1=>D.nx σ H1
theorem vy(he:PE X e te)(hs:swapsWith e none pos.line X.env=pure false:=by rfl):PS X (.Expr e pos) (W8 te):=by intro pins s σ H D I h;exact wpAny_Expr_any (cz (he pins s σ H _ I h) fun v s1⟨x,H1,I1,r1,q1⟩=>⟨σ,H1,I1,q1⟩) I.quiet hs
def ac6(te:TE):TS:=fun D σ H=>te σ H D.rt
theorem Hk(he:PE X e te):PS X (.Return (some e) pos) (ac6 te):=by intro pins s σ H D I h;exact wpAny_Return_some (cz (he pins s σ H _ I h) fun v s1⟨x,H1,I1,r1,q1⟩=>⟨x,σ,H1,I1,r1,q1⟩)
def abF(c:TT)(t u:TS):TS:=fun D σ H=>c σ H fun b H1=>if b=true then t D σ H1 else u D σ H1
theorem O5{c:Expr}{a b:List Stmt}{tc:TT}(hc:PT X c tc)(ha:vZ X a t)(hb:vZ X b u):PS X (.If c a b pos) (abF tc t u):=by intro pins s σ H D I h;refine wpAny_If (cz (hc pins s σ H _ I h) fun d s1⟨H1,I1,q1⟩=>?_);cases d with|true=>exact ha pins s1 σ H1 D I1 q1|false=>exact hb pins s1 σ H1 D I1 q1
def SJ:TS:=fun _ _ _=>False
theorem Hb:PS X st SJ:=fun _ _ _ _ _ _ h=>h.elim
end
abbrev TG:=V->St->Hp->(St->Hp->Prop)->Prop
abbrev Fb:=List V->St->Hp->(St->Hp->Prop)->Prop
def PG(X:Cx)(target:Expr)(t:TG):Prop:=∀(pins:List (Addr × Obj))(s:Shared)(σ:St)(H:Hp)(v:V)(u:Value)(Q:St->Hp->Prop),Inv X pins σ H s->RelV v u->t v σ H Q->wpAny (model X.prog X.w) X.A (assign target X.env u) (fun _ s'=>∃σ' H',Inv X pins σ' H' s'/\Q σ' H') X.xe s
def PGs(X:Cx)(ts:List Expr)(t:Fb):Prop:=∀(pins:List (Addr × Obj))(s:Shared)(σ:St)(H:Hp)(vs:List V)(us:List Value)(Q:St->Hp->Prop),Inv X pins σ H s->Vals vs us->t vs σ H Q->wpAny (model X.prog X.w) X.A (assignInOrder ((assignEach ts X.env).map (·.2)) us) (fun _ s'=>∃σ' H',Inv X pins σ' H' s'/\Q σ' H') X.xe s
abbrev HY:=V->V->V->Hp->(Hp->Prop)->Prop
def Sy(X:Cx)(t:HY):Prop:=∀(pins:List (Addr × Obj))(s:Shared)(σ:St)(H:Hp)(o i v:V)(ov iv u:Value)(Q:Hp->Prop),Inv X pins σ H s->RelV o ov->RelV i iv->RelV v u->t o i v H Q->wpAny (model X.prog X.w) X.A (setItem ov iv u) (fun _ s'=>∃H',Inv X pins σ H' s'/\Q H') X.xe s
abbrev Uz:=V->V->Hp->VK->Prop
def O7(X:Cx)(op:Operator)(t:Uz):Prop:=∀(pins:List (Addr × Obj))(s:Shared)(σ:St)(H:Hp)(x y:V)(v u:Value)(Q:VK),Inv X pins σ H s->RelV x v->RelV y u->t x y H Q->wpAny (model X.prog X.w) X.A (inplaceOp op v u) (EP X pins σ Q) X.xe s
section
variable{X:Cx}{pos:Pos}
def jP(i:Nat):TG:=fun v σ H Q=>Q (σ.set i (some v)) H
theorem aF{x:Str}(hN:X.N.Nodup)(hi:X.N[i]?=some x)(hx:Loc X.env.scope x)(hf:X.fn x=true\/X.env.scope.names.lookup x=some .local:=by first|exact .inl rfl|exact .inr rfl|assumption):PG X (.Name x pos) (jP i):=by intro pins s σ H v u Q I r h;exact wpAny_assign_Name (jN I hN hi hx r (fun s' I'=>⟨_,H,I',h⟩) hf)
def Qo:Fb:=fun vs σ H Q=>vs=[]/\Q σ H
def Jy(t:TG)(u:Fb):Fb:=fun vs σ H Q=>∃v r,vs=v::r/\t v σ H fun σ' H'=>u r σ' H' Q
theorem dm:PGs X [] Qo:=by intro pins s σ H vs us Q I r h;obtain⟨e,h⟩:=h;subst e;cases r;exact assignInOrder_nil ⟨σ,H,I,h⟩
theorem aY{e:Expr}{es:List Expr}{t:TG}{u:Fb}(h1:PG X e t)(h2:PGs X es u)(hs:(assignEach (e::es) X.env).map (·.2)=assign e X.env::(assignEach es X.env).map (·.2):=by rfl):PGs X (e::es) (Jy t u):=by intro pins s σ H vs us Q I r h;obtain⟨v,vr,e1,h⟩:=h;subst e1;cases r with|cons r rr=>rw[hs];refine assignInOrder_cons (cz (h1 pins s σ H _ _ _ I r h) fun _ s1⟨σ1,H1,I1,q1⟩=>?_);exact h2 pins s1 σ1 H1 _ _ Q I1 rr q1
def R9(K:PySem.W.Frag)(n:Nat)(t:Fb):TG:=fun v σ H Q=>∃a xs,v=.ref a/\iT K H a xs/\xs.length=n/\t xs σ H Q
theorem eX{es:List Expr}{k:Nat}{t:Fb}{n:Nat}(hc:X.calm=true)(h:PGs X es t)(hn:(assignEach es X.env).length=n:=by rfl)(hst:(assignEach es X.env).findIdx? (·.1)=none:=by rfl):PG X (.Tuple es k pos) (R9 X.K n t):=by intro pins s σ H v u Q I r hw;obtain⟨a,xs,e1,hq,hl,hw⟩:=hw;subst e1;cases r;obtain⟨its,rv,ht,hz⟩:=I.tuple hq;refine assign_Tuple_tuple (I.ok.hd hc) ht (by simp[hn,<-hl,rv.length]) hst fun h' hx=>?_;have I1:Inv X pins σ H {s with heap:=h'}:=I.kept (t':=s.toks) fun b o e=>hx b o (ne_of_lt (lt_size e)) e;exact h pins _ σ H xs _ Q I1 (by simpa using rv) hw
def ac9(to ti:TE)(t:HY):TG:=fun v σ H Q=>to σ H fun o H1=>ti σ H1 fun i H2=>t o i v H2 fun H3=>Q σ H3
theorem QC{o i:Expr}{to ti:TE}{t:HY}(ho:PE X o to)(hi:PE X i ti)(hs:Sy X t)(ha:∀ v,assign (.Subscript o i pos) X.env v=(do
  let ov<-holding [v] (eval o X.env)let iv<-holding [v,ov] (eval i X.env)standAt pos
  holding [v,ov,iv] (setItem ov iv v)release [v,ov,iv] []):=by intro _;rfl):PG X (.Subscript o i pos) (ac9 to ti t):=by intro pins s σ H v u Q I r h;rw[ha];refine wpAny_bind (wpAny_holding (cz (ho pins s σ H _ I h) fun ov s1⟨x,H1,I1,r1,q1⟩=>?_));refine wpAny_bind (wpAny_holding (cz (hi pins s1 σ H1 _ I1 q1) fun iv s2⟨y,H2,I2,r2,q2⟩=>?_));refine wpAny_bind (wpAny_standAt (wpAny_bind (wpAny_holding (cz (hs pins s2 σ H2 x y v ov iv u _ I2 r1 r2 r q2) fun _ s3⟨H3,I3,q3⟩=>?_))));exact wpAny_release ⟨σ,H3,I3,q3⟩
def Qk(te:TE)(g:TG):TS:=fun D σ H=>te σ H fun x H1=>g x σ H1 D.nx
theorem G9{e:Expr}{g:TG}(he:PE X e te)(hg:PG X tg g)(hs:swapsWithSole [tg] e pos.line X.env=pure false:=by rfl)(hw:swappedStores [tg] e X.env=pure none:=by rfl)(h1:(assignEach [tg] X.env).map (·.2)=[assign tg X.env]:=by rfl):PS X (.Assign [tg] e pos) (Qk te g):=by intro pins s σ H D I h;refine wpAny_Assign_stores (cz (he pins s σ H _ I h) fun v s1⟨x,H1,I1,r1,q1⟩=>?_) hs hw;rw[h1];exact cz (hg pins s1 σ H1 x v _ I1 r1 q1) fun _ s2 q=>q
theorem GQ{x:Str}{e:Expr}{pos':Pos}(hN:X.N.Nodup)(hi:X.N[i]?=some x)(hx:Loc X.env.scope x)(he:PE X e te)(hs:swapsWith e (some (.Name x pos')) pos.line X.env=pure false:=by rfl)(hf:X.fn x=true\/X.env.scope.names.lookup x=some .local:=by first|exact .inl rfl|exact .inr rfl|assumption):PS X (.Assign [.Name x pos'] e pos) (Qk te (jP i)):=by intro pins s σ H D I h;refine wpAny_Assign_Name (cz (he pins s σ H _ I h) fun v s1⟨y,H1,I1,r1,q1⟩=>?_) hs;exact jN I1 hN hi hx r1 (fun s2 I2=>⟨_,H1,I2,q1⟩) hf
def adB(i j:Nat)(ta:TA):TS:=fun D σ H=>ta σ H fun vs H1=>∃v w,vs=[v,w]/\D.nx ((σ.set i (some v)).set j (some w)) H1
theorem R3{j:Nat}{x y:Str}{a b:Expr}{ta:TA}{px py pt:Pos}{kt k2 Tp}(hc:X.calm=true)(hN:X.N.Nodup)(hi:X.N[i]?=some x)(hj:X.N[j]?=some y)(hij:i≠j)(hx:X.env.scope.names.lookup x=some .local)(hy:X.env.scope.names.lookup y=some .local)(ha:PA X [a,b] ta)(hw:swappedStores [.Tuple [.Name x px,.Name y py] kt pt] (.Tuple [a,b] k2 Tp) X.env=pure (some [x,y]))(hs:swapsWithSole [.Tuple [.Name x px,.Name y py] kt pt] (.Tuple [a,b] k2 Tp) pos.line X.env=pure false:=by rfl):PS X (.Assign [.Tuple [.Name x px,.Name y py] kt pt] (.Tuple [a,b] k2 Tp) pos) (adB i j ta):=by
 intro pins s σ H D I h;rw[exec_Assign_arm];refine wpAny_bind (wpAny_standAt ?_);rw[hs];refine wpAny_bind (wpAny_pure ?_);rw[if_neg (by decide)];refine wpAny_bind (Tuple_ (cz (ha _ pins s σ H _ I h) fun us s1⟨vs,H1,I1,r1,q1⟩=>?_));obtain⟨v,w,e1,q1⟩:=q1;subst e1;obtain⟨u1,u2,rfl,rv,xY⟩:∃u1 u2,us=[u1,u2]/\RelV v u1/\RelV w u2:=by cases r1 with|cons p q=>cases q with|cons p' q'=>cases q';exact⟨_,_,rfl,p,p'⟩
 refine wpAny_newObj_type ?_ (by show 2<=sizeLine;decide);have I2:Inv X pins σ H1 {s1 with heap:=s1.heap.push {cls:=.type "tuple",data:=.seq [u1,u2].toArray}}:=I1.kept (t':=s1.toks) fun b o e=>dw e;rw[hw];refine wpAny_bind (wpAny_pure ?_);show wpAny (model X.prog X.w) X.A (do rule "assign.swapped-stores";let items<-unpackItems (.ref s1.heap.objs.size) 2 none;assignInOrder [fun v=>bindName X.env y v,fun v=>bindName X.env x v] items.reverse;pure Flow.next) _ _ _;refine wpAny_bind (wpAny_rule (wpAny_bind (unpackItems_tuple (items:=#[u1,u2]) (I.ok.hd hc) (IsTup.new s1.heap _) fun h' hx'=>?_)));have I3:=I2.kept (h':=h') (t':=s1.toks) fun b o e=>hx' b o (ne_of_lt (lt_size e)) e;show wpAny _ _ (assignInOrder [fun v=>bindName X.env y v,fun v=>bindName X.env x v] [u2,u1]>>=fun _=>pure Flow.next) _ _ _;refine wpAny_bind (assignInOrder_cons (wpAny_bindName (jN I3 hN hj (.inl hy) xY (fun s2 I4=>?_) (.inr hy))));refine assignInOrder_cons (wpAny_bindName (jN I4 hN hi (.inl hx) rv (fun s3 I5=>assignInOrder_nil (wpAny_pure ?_)) (.inr hx)));rw[List.set_comm _ _ (Ne.symm hij)]at I5;exact⟨_,H1,I5,q1⟩
def adi(i:Nat)(te:TE)(ti:Uz):TS:=fun D σ H=>∃x,σ[i]?=some (some x)/\te σ H fun y H1=>ti x y H1 fun z H2=>D.nx (σ.set i (some z)) H2
theorem Te{x:Str}{e:Expr}{op:Operator}{ti:Uz}{pos':Pos}(hN:X.N.Nodup)(hi:X.N[i]?=some x)(hx:Loc X.env.scope x)(he:PE X e te)(ho:O7 X op ti)(hf:X.fn x=true\/X.env.scope.names.lookup x=some .local:=by first|exact .inl rfl|exact .inr rfl|assumption):PS X (.AugAssign (.Name x pos') op e pos) (adi i te ti):=by
 intro pins s σ H D I h;obtain⟨v,e1,h⟩:=h;obtain⟨m,hn,hl⟩:=I.loc;have vis:yC X.env.scope x:=by rcases hx with k|k;exact .inl k;exact .inr (.inl k)
 obtain⟨u,r,l⟩:=hl i x v hi e1 vis;refine wpAny_AugAssign_Name ?_;have go:wpAny (model X.prog X.w) X.A (eval e X.env) (fun w s₂=>wpAny (model X.prog X.w) X.A (inplaceOp op u w) (fun r s₃=>wpAny (model X.prog X.w) X.A (storeName X.env x r) (fun _=>SP X pins D .next) X.xe s₃) X.xe s₂) X.xe s:=by refine cz (he pins s σ H _ I h) fun w s1⟨y,H1,I1,r1,q1⟩=>?_;refine cz (ho pins s1 σ H1 v y u w _ I1 r r1 q1) fun z s2⟨zv,H2,I2,r2,q2⟩=>?_;exact jN I2 hN hi hx r2 (fun s3 I3=>⟨_,H2,I3,q2⟩) hf
 rcases l with⟨hk,hm⟩|⟨hk,c,hc,hcell⟩;.exact wpAny_loadName_local I.ok.kind hk hn hm go
 . rcases hk with hk|hk;.exact wpAny_loadName_cell I.ok.kind hk hc hcell go
   . rcases hx with k|k;.have:X.env.scope.names.lookup x=some .free:=hk;rw[k]at this;cases this
     .have:X.env.scope.names.lookup x=some .free:=hk;rw[k]at this;cases this
def W4(to ti te:TE)(Nv:V->V->Hp->VK->Prop)(tip:Uz)(Ny:HY):TS:=fun D σ H=>to σ H fun o H1=>ti σ H1 fun i H2=>Nv o i H2 fun x H3=>te σ H3 fun y H4=>tip x y H4 fun z H5=>Ny o i z H5 fun H6=>D.nx σ H6
def Wo(X:Cx)(t:V->V->Hp->VK->Prop):Prop:=∀(pins:List (Addr × Obj))(s:Shared)(σ:St)(H:Hp)(o i:V)(ov iv:Value)(Q:VK),Inv X pins σ H s->RelV o ov->RelV i iv->t o i H Q->wpAny (model X.prog X.w) X.A (getItem ov iv) (EP X pins σ Q) X.xe s
theorem KH{o i e:Expr}{to ti:TE}{Nv:V->V->Hp->VK->Prop}{tip:Uz}{Ny:HY}{op:Operator}{tpos:Pos}(ho:PE X o to)(hi:PE X i ti)(hg:Wo X Nv)(he:PE X e te)(hp:O7 X op tip)(hs:Sy X Ny)(ha:∀ov iv new,augStore i ov iv new=(do holding [new,ov,iv] (setItem ov iv new);release [new,ov,iv] [];pure .next):=by intros;rfl):PS X (.AugAssign (.Subscript o i tpos) op e pos) (W4 to ti te Nv tip Ny):=by intro pins s σ H D I h;refine wpAny_AugAssign_SubscriptAny (cz (ho pins s σ H _ I h) fun ov s1⟨x1,H1,I1,r1,q1⟩=>?_) ha;refine cz (hi pins s1 σ H1 _ I1 q1) fun iv s2⟨x2,H2,I2,r2,q2⟩=>?_;refine cz (hg pins s2 σ H2 x1 x2 ov iv _ I2 r1 r2 q2) fun old s3⟨x3,H3,I3,r3,q3⟩=>?_;refine cz (he pins s3 σ H3 _ I3 q3) fun v s4⟨x4,H4,I4,r4,q4⟩=>?_;refine cz (hp pins s4 σ H4 x3 x4 old v _ I4 r3 r4 q4) fun new s5⟨x5,H5,I5,r5,q5⟩=>?_;exact cz (hs pins s5 σ H5 x1 x2 x5 ov iv new _ I5 r1 r2 r5 q5) fun _ s6⟨H6,I6,q6⟩=>⟨σ,H6,I6,q6⟩
def Uy(f:Int->Int->Int):Uz:=fun x y H Q=>∃i j,x=.int i/\y=.int j/\Q (.int (f i j)) H
theorem QF:O7 X .Add (Uy fun i j=>i+j):=by intro pins s σ H x y v u Q I r1 r2 h;obtain⟨i,j,e1,e2,q⟩:=h;subst e1;subst e2;obtain⟨t,rfl⟩:=r1;obtain⟨t',rfl⟩:=r2;exact iadd_int ⟨.int _,H,I.tok _,⟨_,rfl⟩,q⟩
theorem Ry:O7 X .Sub (Uy fun i j=>i-j):=by intro pins s σ H x y v u Q I r1 r2 h;obtain⟨i,j,e1,e2,q⟩:=h;subst e1;subst e2;obtain⟨t,rfl⟩:=r1;obtain⟨t',rfl⟩:=r2;exact isub_int ⟨.int _,H,I.tok _,⟨_,rfl⟩,q⟩
end
section
variable{X:Cx}{pos:Pos}
def Qh(c:TT)(tb:TS):TS:=fun D σ H=>∃W:Nat->St->Hp->Prop,(∃m,W m σ H)/\∀m σ H,W m σ H->c σ H fun b H1=>if b=true then ∃N:St->Hp->Prop,(∀σ' H',N σ' H'->∃m',m'<m/\W m' σ' H')/\tb {D with nx:=N,ct:=N,bk:=D.nx} σ H1 else D.nx σ H1
theorem Hc{c:Expr}{body:List Stmt}{tc:TT}{tb:TS}(hp:PassesOwn (model X.prog X.w) X.A X.env X.xe)(hc:PT X c tc)(hb:vZ X body tb):PS X (.While c body [] pos) (Qh tc tb):=by intro pins s σ H D I h;obtain⟨W,⟨m0,w0⟩,turn⟩:=h;refine wpAny_While (codeAny_whileLoop (fun n s'=>∃σ' H',Inv X pins σ' H' s'/\W n σ' H') ?_ m0 ⟨σ,H,I,w0⟩);rintro n s1⟨σ1,H1,I1,w1⟩;refine wpAny_passesOwn hp (cz (hc pins s1 σ1 H1 _ I1 (turn n σ1 H1 w1)) fun b s2⟨H2,I2,q2⟩=>?_);cases b with
 |true=>obtain⟨N,hN,q2⟩:=q2;rw[if_pos rfl];refine wpAny_passesOwn hp (cz (hb pins s2 σ1 H2 _ I2 q2) fun f s3 q3=>?_);cases f with|next=>obtain⟨σ3,H3,I3,n3⟩:=q3;obtain⟨m',hm,w3⟩:=hN σ3 H3 n3;exact⟨m',hm,σ3,H3,I3,w3⟩|cont=>obtain⟨σ3,H3,I3,n3⟩:=q3;obtain⟨m',hm,w3⟩:=hN σ3 H3 n3;exact⟨m',hm,σ3,H3,I3,w3⟩|brk=>exact q3|ret v=>exact q3
 |false=>rw[if_neg Bool.false_ne_true];exact wpAny_execs_nil ⟨σ1,H2,I2,q2⟩
end
structure It where
 go:Nat->Hp->Prop
 JQ:Nat->Hp->V->Hp->Prop
 stop:Nat->Hp->Prop
def n6(X:Cx)(pins:List (Addr×Obj))(H:Hp)(b:Addr):Prop:=H b=none/\b≠X.env.locals/\b∉X.fs/\(b∈X.ex\/X.s₀.heap.objs.size<=b)/\(∀x c,X.env.cells.lookup x=some c->c≠b)/\∀p∈X.pn++pins,p.1≠b
theorem Inv.yu{σ:St}{H':Hp}{b:Addr}(I:Inv X pins σ H s)(hb:s.heap.objs.size<=b)(hn:H' b=none):n6 X pins H' b:=by
 refine⟨hn,ne_of_gt (lt_of_lt_of_le I.lt hb),I.adN hb,.inr (le_trans I.sz hb),fun x c e z=>?_,fun p hp z=>?_⟩;.obtain⟨v,q⟩:=I.cell x c e;exact absurd (lt_of_lt_of_le q.lt (by rw[z];exact hb)) (lt_irrefl _)
 .exact absurd (lt_of_lt_of_le (lt_size (I.pin p hp).1) (by rw[z];exact hb)) (lt_irrefl _)
structure Turn(P:Program)(w:World)(K:PySem.W.Frag)(tg:Expr)(J:It)(fp:List Addr)(it:Addr)(tn:Nat->Heap->Prop):Prop where
 mem:it∈fp
 obj:∀i h,tn i h->∀b∈fp,∃o,h.get? b=some o/\∀v,o.data≠.cell v
 keep:∀i h h',tn i h->(∀b∈fp,∀o,h.get? b=some o->h'.get? b=some o)->tn i h'
 item:∀(X:Cx),X.prog=P->X.w=w->X.K=K->X.calm=true->∀(i:Nat)(pins:List (Addr×Obj))(s:Shared)(σ:St)(H:Hp)(E:Value->Shared->Prop),Inv X pins σ H s->(∀b∈fp,n6 X pins H b)->tn i s.heap->J.go i H->wpAny (model P w) X.A (pyNext (.ref it)) (fun r s1=>∃u,r=some u/\wpAny (model P w) X.A (letOwnedTupleGo tg (.ref it) u) (fun _ s2=>∃x H',Inv X pins σ H' s2/\RelV x u/\J.JQ i H x H'/\tn (i+1) s2.heap/\∀b∈fp,H' b=none) E s1) E s
 done:∀(X:Cx),X.prog=P->X.w=w->X.K=K->X.calm=true->∀(i:Nat)(pins:List (Addr×Obj))(s:Shared)(σ:St)(H:Hp)(E:Value->Shared->Prop),Inv X pins σ H s->(∀b∈fp,n6 X pins H b)->tn i s.heap->J.stop i H->wpAny (model P w) X.A (pyNext (.ref it)) (fun r s1=>r=none/\Inv X pins σ H s1) E s
 self:∀(A:Around)(i:Nat)(s:Shared)(Q:Value->Shared->Prop)(E:Value->Shared->Prop),tn i s.heap->Q (.ref it) s->wpAny (model P w) A (pyIter (.ref it)) Q E s
abbrev TI:=St->Hp->(It->Hp->Prop)->Prop
def PIE(X:Cx)(pins:List (Addr×Obj))(σ:St)(tg:Expr)(R:It->Hp->Prop)(itv:Value)(s2:Shared):Prop:=∃(it:Addr)(fp:List Addr)(tn:Nat->Heap->Prop)(J:It)(H':Hp),itv=.ref it/\Inv X pins σ H' s2/\Turn X.prog X.w X.K tg J fp it tn/\tn 0 s2.heap/\(∀b∈fp,n6 X pins H' b)/\R J H'
def PI(X:Cx)(tg iter:Expr)(wi:TI):Prop:=∀(pins:List (Addr × Obj))(s:Shared)(σ:St)(H:Hp)(R:It->Hp->Prop),Inv X pins σ H s->wi σ H R->wpAny (model X.prog X.w) X.A (eval iter X.env) (fun v s1=>wpAny (model X.prog X.w) X.A (pyIter v) (PIE X pins σ tg R) X.xe s1) X.xe s
theorem Bk{E:Value->Shared->Prop}{it:Addr}{u:Value}{o:Obj}{n:String}{vs:Array Value}{Q:Unit->Shared->Prop}(ho:s.heap.get? it=some o)(hc:o.cls=.type n)(hd:o.data=.fields vs)(hn:["enumerate","zip","dict_itemiterator","dict_reverseitemiterator","odict_iterator","itertools.zip_longest","itertools.pairwise"].contains n=false)(hQ:Q () s):wpAny M A (letOwnedTupleGo tg (.ref it) u) Q E s:=by unfold letOwnedTupleGo;cases tg<;>first|exact wpAny_pure hQ|(cases u<;>first|exact wpAny_pure hQ|(refine wpAny_bind (wpAny_load ho ?_);rw[hc,hd];show wpAny M A (if(["enumerate","zip","dict_itemiterator","dict_reverseitemiterator","odict_iterator","itertools.zip_longest","itertools.pairwise"].contains n&&vs[0]?==some (rawInt _))=true then _ else _) Q E s;rw[if_neg (by intro h;rw[hn,Bool.false_and]at h;cases h)];exact wpAny_pure hQ))
noncomputable def Sw(K:PySem.W.Frag)(a:Addr):It:=⟨fun i H=>∃xs x,dF K H a xs/\xs[i]?=some x,fun i H x H'=>H'=H/\∀xs,dF K H a xs->xs[i]?=some x,fun i H=>∃xs,dF K H a xs/\xs.length<=i⟩
noncomputable def Vk(K:PySem.W.Frag)(a:Addr):It:=⟨fun i H=>∃xs x,iT K H a xs/\xs[i]?=some x,fun i H x H'=>H'=H/\∀xs,iT K H a xs->xs[i]?=some x,fun i H=>∃xs,iT K H a xs/\xs.length<=i⟩
noncomputable def Uv(lo:Int)(n:Nat):It:=⟨fun i _=>i<n,fun i H x H'=>H'=H/\x=.int (lo+i),fun i _=>n<=i⟩
theorem Eg{P:Program}(a it:Addr):Turn P w K tg (Sw K a) [it] it (fun i h=>h.IsListIter it a i)where
 mem:=by simp
 obj:=fun i h st b hb=>by
  have e:b=it:=by simpa using hb
  subst e;obtain⟨o,e,c,d⟩:=st;exact⟨o,e,fun v z=>by rw[d]at z;cases z⟩
 keep:=fun i h h' st k=>st.at fun o e=>k it (by simp) o e;item:=by intro X hP hw hK hc i pins s σ H E I hf st hg;subst hP hw hK;obtain⟨xs,x,hq,hx⟩:=hg;obtain⟨its,rv,p,hz⟩:=I.list hq;obtain⟨u,hu,ru⟩:=rv.get hx;obtain⟨f0,f1,f2,f3,f4,f5⟩:=hf it (by simp);refine wpAny_pyNext_list_item st p.isList (x:=u) (by simpa using hu) fun h' st' sb=>?_;have I1:Inv X pins σ H {s with heap:=h'}:=I.turned (t':=s.toks) (fun b o hb e=>(sb.2 b hb).trans e) f0 f1 f3 f4 f5;obtain⟨o,e,c,d⟩:=id st';exact⟨u,rfl,Bk (s:={s with heap:=h'}) e c d (by decide) ⟨x,H,I1,ru,⟨rfl,fun ys hy=>by rw[I.lN hy hq];exact hx⟩,st',fun b hb=>(hf b hb).1⟩⟩
 done:=by intro X hP hw hK hc i pins s σ H E I hf st hg;subst hP hw hK;obtain⟨xs,hq,hx⟩:=hg;obtain⟨its,rv,p,hz⟩:=I.list hq;obtain⟨f0,f1,f2,f3,f4,f5⟩:=hf it (by simp);have hl:=rv.length;exact wpAny_pyNext_list_end (I.ok.hd hc) st p.isList (by simp;omega) fun h' eb=>⟨rfl,I.turned (t':=s.toks) (fun b o hb e=>eb b o hb e) f0 f1 f3 f4 f5⟩
 self:=fun _ _ _ _ _ st h=>wpAny_pyIter_listiter st h
theorem zT{P:Program}(a it:Addr):Turn P w K tg (Vk K a) [it] it (fun i h=>h.IsTupleIter it a i)where
 mem:=by simp
 obj:=fun i h st b hb=>by
  have e:b=it:=by simpa using hb
  subst e;obtain⟨o,e,c,d⟩:=st;exact⟨o,e,fun v z=>by rw[d]at z;cases z⟩
 keep:=fun i h h' st k=>st.at fun o e=>k it (by simp) o e;item:=by intro X hP hw hK hc i pins s σ H E I hf st hg;subst hP hw hK;obtain⟨xs,x,hq,hx⟩:=hg;obtain⟨its,rv,p,hz⟩:=I.tuple hq;obtain⟨u,hu,ru⟩:=rv.get hx;obtain⟨f0,f1,f2,f3,f4,f5⟩:=hf it (by simp);refine wpAny_pyNext_tuple_item st (show s.heap.IsTuple a its.toArray from p) (x:=u) (by simpa using hu) fun h' st' sb=>?_;have I1:Inv X pins σ H {s with heap:=h'}:=I.turned (t':=s.toks) (fun b o hb e=>(sb.2 b hb).trans e) f0 f1 f3 f4 f5;obtain⟨o,e,c,d⟩:=id st';exact⟨u,rfl,Bk (s:={s with heap:=h'}) e c d (by decide) ⟨x,H,I1,ru,⟨rfl,fun ys hy=>by rw[I.jZ hy hq];exact hx⟩,st',fun b hb=>(hf b hb).1⟩⟩
 done:=by intro X hP hw hK hc i pins s σ H E I hf st hg;subst hP hw hK;obtain⟨xs,hq,hx⟩:=hg;obtain⟨its,rv,p,hz⟩:=I.tuple hq;obtain⟨f0,f1,f2,f3,f4,f5⟩:=hf it (by simp);have hl:=rv.length;exact wpAny_pyNext_tuple_end (I.ok.hd hc) st (show s.heap.IsTuple a its.toArray from p) (by simp;omega) fun h' eb=>⟨rfl,I.turned (t':=s.toks) (fun b o hb e=>eb b o hb e) f0 f1 f3 f4 f5⟩
 self:=fun _ _ _ _ _ st h=>wpAny_pyIter_tupleiter st h
theorem yM{P:Program}(it:Addr)(lo:Int)(n:Nat):Turn P w K tg (Uv lo n) [it] it (fun i h=>IsRangeIter h it (lo+(i:Nat)*1) ((n:Int)-(i:Nat)) 1)where
 mem:=by simp
 obj:=fun i h st b hb=>by
  have e:b=it:=by simpa using hb
  subst e;exact⟨_,st,fun v z=>by have z':Data.fields _=Data.cell v:=z;cases z'⟩
 keep:=fun i h h' st k=>k it (by simp) _ st;item:=by intro X hP hw hK hc i pins s σ H E I hf st hg;subst hP hw hK;obtain⟨f0,f1,f2,f3,f4,f5⟩:=hf it (by simp);have W:=Walks.range (prog:=X.prog) (w:=X.w) (I.ok.hd hc) it lo 1 n;refine W.item i s _ _ hg st fun v h' tk hv st' kk=>?_;obtain⟨t,rfl⟩:=hv;have I1:Inv X pins σ H {s with heap:=h',toks:=tk}:=I.turned (fun b o hb e=>kk b o (by simpa using hb) e) f0 f1 f3 f4 f5;refine⟨_,rfl,Bk (s:={s with heap:=h',toks:=tk}) (n:="range_iterator") st' rfl rfl (by decide) ⟨.int (lo+i),H,I1,⟨t,?_⟩,⟨rfl,rfl⟩,st',fun b hb=>(hf b hb).1⟩⟩;rw[Int.mul_one]
 done:=by intro X hP hw hK hc i pins s σ H E I hf st hg;subst hP hw hK;obtain⟨f0,f1,f2,f3,f4,f5⟩:=hf it (by simp);exact wpAny_pyNext_range_end (I.ok.hd hc) st (by have:n<=i:=hg;omega) fun h' eb=>⟨rfl,I.turned (t':=s.toks) (fun b o hb e=>eb b o hb e) f0 f1 f3 f4 f5⟩
 self:=fun _ _ _ _ _ st h=>wpAny_pyIter_rangeiter st h
section
variable{X:Cx}{tg:Expr}
theorem xQ{σ:St}{R:It->Hp->Prop}{E:Value->Shared->Prop}{lo hi:Int}{t u v:Tok}{tk:Nat}(I:Inv X pins σ H s)(h1:-(2^62)<=lo)(h2:lo<2^62)(h3:-(2^62)<=hi)(h4:hi<2^62)(q:R (Uv lo (hi-lo).toNat) H):wpAny (model X.prog X.w) X.A (pyIter (.ref s.heap.objs.size)) (PIE X pins σ tg R) E {s with heap:=s.heap.push {cls:=.type "range",data:=.fields #[.int lo t,.int hi u,.int 1 v]},toks:=tk}:=by
 refine wpAny_pyIter_range (IsRange.new ..) (small_one h1 h2 h3 h4) ?_;have I1:Inv X pins σ H {s with heap:=s.heap.push {cls:=.type "range",data:=.fields #[.int lo t,.int hi u,.int 1 v]},toks:=tk}:=I.kept fun b o e=>dw e;refine⟨(s.heap.push {cls:=.type "range",data:=.fields #[.int lo t,.int hi u,.int 1 v]}).objs.size,[(s.heap.push {cls:=.type "range",data:=.fields #[.int lo t,.int hi u,.int 1 v]}).objs.size],_,_,H,rfl,I1.kept (t':=tk) fun b o e=>dw e,yM _ lo (hi-lo).toNat,?_,fun b hb=>?_,q⟩
 . have e1:lo+((0:Nat):Int)*1=lo:=by simp
   have e2:(((hi-lo).toNat:Nat):Int)-((0:Nat):Int)=Builtin.Range.rangeSize lo hi 1:=by rw[rangeSize_one];split<;>omega
   show IsRangeIter _ _ (lo+((0:Nat):Int)*1) ((((hi-lo).toNat:Nat):Int)-((0:Nat):Int)) 1;rw[e1,e2];exact get?_push_size _ rfl
 . have e:b=(s.heap.push {cls:=.type "range",data:=.fields #[.int lo t,.int hi u,.int 1 v]}).objs.size:=by simpa using hb
   subst e;exact I1.yu (cR) (I1.hok.fresh (cR))
def Xq(ta:TA):TI:=fun σ H R=>ta σ H fun vs H1=>∃j:Int,vs=[.int j]/\-(2^62)<=j/\j<2^62/\R (Uv 0 j.toNat) H1
def XD(ta:TA):TI:=fun σ H R=>ta σ H fun vs H1=>∃i j:Int,vs=[.int i,.int j]/\(-(2^62)<=i/\i<2^62/\-(2^62)<=j/\j<2^62)/\R (Uv i (j-i).toNat) H1
theorem tZ{a:Expr}{ta:TA}{p pos:Pos}(hg:Gl X "range")(hm:X.mg "range"=none)(ha:PA X [a] ta)(hs:starEach [a] X.env=[(false,eval a X.env)]:=by rfl):PI X tg (.Call (.Name "range" p) [a] [] pos) (Xq ta):=by intro pins s σ H R I h;refine Call_ (iu I hg hm boot_range (PyProof.Rows.callWith_type1 (cz (ha pos pins s σ H _ I h) fun us s1⟨vs,H1,I1,r1,q1⟩=>?_) hs rfl));obtain⟨j,e,q1,q2,q⟩:=q1;subst e;cases r1 with|cons r rr=>cases rr;obtain⟨t,rfl⟩:=r;exact call_range_1 (xQ I1 (by omega) (by omega) q1 q2 (by simpa using q))
theorem DR{a b:Expr}{ta:TA}{p pos:Pos}(hg:Gl X "range")(hm:X.mg "range"=none)(ha:PA X [a,b] ta)(hs:starEach [a,b] X.env=[(false,eval a X.env),(false,eval b X.env)]:=by rfl)(hs2:starEach [b] X.env=[(false,eval b X.env)]:=by rfl):PI X tg (.Call (.Name "range" p) [a,b] [] pos) (XD ta):=by intro pins s σ H R I h;refine Call_ (iu I hg hm boot_range (PyProof.Rows.callWith_type1 (cz (ha pos pins s σ H _ I h) fun us s1⟨vs,H1,I1,r1,q1⟩=>?_) (by rw[hs,hs2]) (by rw[hs2];rfl)));obtain⟨i,j,e,⟨q1,q2,q3,q4⟩,q⟩:=q1;subst e;cases r1 with|cons r rr=>cases rr with|cons r' rr=>cases rr;obtain⟨t,rfl⟩:=r;obtain⟨t',rfl⟩:=r';exact call_range_2 (xQ I1 q1 q2 q3 q4 q)
def adZ(wi:TI)(g:TG)(tb:TS):TS:=fun D σ H=>wi σ H fun J H1=>∃W:Nat->Nat->St->Hp->Prop,(∃m,W 0 m σ H1)/\∀i m σ H,W i m σ H->(J.stop i H/\D.nx σ H)\/(J.go i H/\∃N:St->Hp->Prop,(∀σ' H',N σ' H'->∃m',m'<m/\W (i+1) m' σ' H')/\∀x H',J.JQ i H x H'->g x σ H' fun σ2 H2=>tb {D with nx:=N,ct:=N,bk:=D.nx} σ2 H2)
noncomputable def rz(fp:List Addr)(h:Heap):List (Addr×Obj):=fp.filterMap fun b=>(h.get? b).map fun o=>(b,o)
theorem jc{fp:List Addr}{b:Addr}{o:Obj}(hb:b∈fp)(e:h.get? b=some o):(b,o)∈rz fp h:=List.mem_filterMap.mpr ⟨b,hb,by rw[e];rfl⟩
theorem CP{fp:List Addr}{p:Addr×Obj}(hp:p∈rz fp h):p.1∈fp/\h.get? p.1=some p.2:=by obtain⟨b,hb,e⟩:=List.mem_filterMap.mp hp;cases q:h.get? b with|none=>rw[q]at e;cases e|some o=>rw[q]at e;have e':(b,o)=p:=Option.some.inj e;subst e';exact⟨hb,q⟩
theorem Inv.pinned{σ:St}{fp:List Addr}(I:Inv X pins σ H s)(hf:∀b∈fp,n6 X pins H b)(ho:∀b∈fp,∃o,s.heap.get? b=some o/\∀v,o.data≠.cell v):Inv X (pins++rz fp s.heap) σ H s:=I.An fun p hp=>(mem_append.mp hp).elim (fun z=>I.pin p (mem_append_right _ z)) fun z=>by obtain⟨hb,e⟩:=CP z;obtain⟨f0,f1,f2,_⟩:=hf p.1 hb;obtain⟨o,e',d⟩:=ho p.1 hb;rw[e]at e';cases e';exact⟨e,f0,f1,f2,d⟩
theorem Inv.lK{pl:List (Addr×Obj)}{σ:St}(I:Inv X (pins++pl) σ H s):Inv X pins σ H s:=I.An fun p hp=>I.pin p (mem_append_right _ (mem_append_left _ hp))
theorem Hj{iter:Expr}{body:List Stmt}{wi:TI}{g:TG}{tb:TS}{pos:Pos}(hp:PassesOwn (model X.prog X.w) X.A X.env X.xe)(hc:X.calm=true)(hi:PI X tg iter wi)(hg:PG X tg g)(hb:vZ X body tb)(hs:∀x,foldedSetIterable iter X.env x=pure x:=by intro _;rfl):PS X (.For tg iter body [] pos) (adZ wi g tb):=by
 intro pins s σ H D I h;refine wpAny_For (cz (hi pins s σ H _ I h) fun v s1 h1=>cz h1 fun itv s2 h2=>?_) hs;obtain⟨it,fp,tn,J,H2,e,I2,T,st2,f2,W,⟨m0,w0⟩,turn⟩:=h2;subst e--what stays true of the iterator's objects through the loop
 have stat:∀{H':Hp},(∀b∈fp,H' b=none)->∀b∈fp,n6 X pins H' b:=fun hn b hb=>⟨hn b hb,(f2 b hb).2⟩;refine codeAny_forLoop_any (fun n s'=>∃i σ' H',Inv X pins σ' H' s'/\tn i s'.heap/\(∀b∈fp,H' b=none)/\W i n σ' H') ?_ m0 ⟨0,σ,H2,I2,st2,fun b hb=>(f2 b hb).1,w0⟩;rintro n s3⟨i,σ3,H3,I3,st3,fr3,w3⟩;rcases turn i n σ3 H3 w3 with⟨stop,qn⟩|⟨go,N,hN,step⟩;.refine wpAny_passesOwn hp (cz (T.done X rfl rfl rfl hc i pins s3 σ3 H3 X.xe I3 (stat fr3) st3 stop) fun r s4⟨hr,I4⟩=>?_);subst hr;exact wpAny_execs_nil ⟨σ3,H3,I4,qn⟩
 . refine wpAny_passesOwn hp (cz (T.item X rfl rfl rfl hc i pins s3 σ3 H3 X.xe I3 (stat fr3) st3 go) fun r s4⟨u,hr,h4⟩=>?_);subst hr;refine wpAny_passesOwn hp (cz h4 fun _ s5⟨x,H5,I5,r5,y5,st5,fr5⟩=>?_);have I5':=I5.pinned (stat fr5) (T.obj _ _ st5);refine wpAny_passesOwn hp (cz (hg _ s5 σ3 H5 x u _ I5' r5 (step x H5 y5)) fun _ s6⟨σ6,H6,I6,q6⟩=>?_);refine wpAny_passesOwn hp (cz (hb _ s6 σ6 H6 _ I6 q6) fun f s7 q7=>?_);have again:∀{σ7:St}{H7:Hp},Inv X (pins++rz fp s5.heap) σ7 H7 s7->N σ7 H7->∃m,m<n/\∃i σ' H',Inv X pins σ' H' s7/\tn i s7.heap/\(∀b∈fp,H' b=none)/\W i m σ' H':=fun{σ7 H7}I7 n7=>by obtain⟨m',hm,w7⟩:=hN σ7 H7 n7;refine⟨m',hm,i+1,σ7,H7,I7.lK,T.keep _ _ _ st5 fun b hb o e=>(I7.pin (b,o) (mem_append_right _ (mem_append_right _ (jc hb e)))).1,fun b hb=>?_,w7⟩;obtain⟨o,e,d⟩:=T.obj _ _ st5 b hb;exact(I7.pin (b,o) (mem_append_right _ (mem_append_right _ (jc hb e)))).2.1
   cases f with|next=>obtain⟨σ7,H7,I7,n7⟩:=q7;exact again I7 n7|cont=>obtain⟨σ7,H7,I7,n7⟩:=q7;exact again I7 n7|brk=>obtain⟨σ7,H7,I7,q7⟩:=q7;exact⟨σ7,H7,I7.lK,q7⟩|ret v=>obtain⟨x7,σ7,H7,I7,r7,q7⟩:=q7;exact⟨x7,σ7,H7,I7.lK,r7,q7⟩
end
abbrev R2:=V->V->Hp->VK->Prop
def dC(X:Cx)(f:Value->Value->Sem Value)(r:R2):Prop:=∀(pins:List (Addr × Obj))(s:Shared)(σ:St)(H:Hp)(x y:V)(v u:Value)(Q:VK),Inv X pins σ H s->RelV x v->RelV y u->r x y H Q->wpAny (model X.prog X.w) X.A (f v u) (EP X pins σ Q) X.xe s
def UnR(X:Cx)(f:Value->Sem Value)(r:V->Hp->VK->Prop):Prop:=∀(pins:List (Addr × Obj))(s:Shared)(σ:St)(H:Hp)(x:V)(v:Value)(Q:VK),Inv X pins σ H s->RelV x v->r x H Q->wpAny (model X.prog X.w) X.A (f v) (EP X pins σ Q) X.xe s
def fL(X:Cx)(f:Value)(r:List V->Hp->VK->Prop):Prop:=∀(pins:List (Addr × Obj))(s:Shared)(σ:St)(H:Hp)(xs:List V)(us:List Value)(Q:VK),Inv X pins σ H s->Vals xs us->r xs H Q->wpAny (model X.prog X.w) X.A (call f us) (EP X pins σ Q) X.xe s
def Qg(r:R2)(ta tb:TE):TE:=fun σ H Q=>ta σ H fun x H1=>tb σ H1 fun y H2=>r x y H2 Q
def tUn(r:V->Hp->VK->Prop)(ta:TE):TE:=fun σ H Q=>ta σ H fun x H1=>r x H1 Q
def rI(C:Int->Int->Prop)(g:Int->Int->V):R2:=fun x y H Q=>∃i j,x=.int i/\y=.int j/\C i j/\Q (g i j) H
def Gs(g:Int->Int->V):R2:=fun x y H Q=>∃i j,x=.int i/\y=.int j/\Q (g i j) H
def rU(g:Int->V):V->Hp->VK->Prop:=fun x H Q=>∃i,x=.int i/\Q (g i) H
section
variable{X:Cx}{a b c:Expr}{ta tb tc:TE}{pos:Pos}
theorem Q8(ha:PE X a ta)(hb:PE X b tb){σ:St}{R:V->V->Hp->Prop}(I:Inv X pins σ H s)(h:ta σ H fun x H1=>tb σ H1 fun y H2=>R x y H2){Q:Value->Shared->Prop}{f:Value->Value->Sem Value}(hf:∀v u s2 x y H2,Inv X pins σ H2 s2->RelV x v->RelV y u->R x y H2->wpAny (model X.prog X.w) X.A (f v u) Q X.xe s2):wpAny (model X.prog X.w) X.A (eval a X.env) (fun v s₁=>wpAny (model X.prog X.w) X.A (eval b X.env) (fun u s₂=>wpAny (model X.prog X.w) X.A (f v u) Q X.xe s₂) X.xe s₁) X.xe s:=by refine cz (ha pins s σ H _ I h) fun v s1⟨x,H1,I1,r1,q1⟩=>?_;refine cz (hb pins s1 σ H1 _ I1 q1) fun u s2⟨y,H2,I2,r2,q2⟩=>?_;exact hf v u s2 x y H2 I2 r1 r2 q2
theorem VM{op:Operator}{r:R2}(ho:dC X (binaryOp op) r)(ha:PE X a ta)(hb:PE X b tb):PE X (.BinOp a op b pos) (Qg r ta tb):=by intro pins s σ H Q I h;exact wpAny_BinOp (Q8 ha hb I h fun v u s2 x y H2 I2 rx ry q=>ho pins s2 σ H2 x y v u Q I2 rx ry q)
theorem Wl{op:UnaryOp}{r:V->Hp->VK->Prop}(ho:UnR X (unaryOp op) r)(ha:PE X a ta):PE X (.UnaryOp op a pos) (tUn r ta):=by intro pins s σ H Q I h;exact UnaryOp_ (cz (ha pins s σ H _ I h) fun v s1⟨x,H1,I1,r1,q1⟩=>ho pins s1 σ H1 x v Q I1 r1 q1)
theorem Yq{f:Value->Value->Sem Value}{C:Int->Int->Prop}{g:Int->Int->Int}(rule:∀(i j:Int)(t u:Tok)(s:Shared)(Q:Value->Shared->Prop)(E:Value->Shared->Prop),C i j->Q (.int (g i j) s.toks) {s with toks:=s.toks+1}->wpAny (model X.prog X.w) X.A (f (.int i t) (.int j u)) Q E s):dC X f (rI C fun i j=>.int (g i j)):=by intro pins s σ H x y v u Q I rx ry h;obtain⟨i,j,rfl,rfl,hc,q⟩:=h;obtain⟨t,rfl⟩:=rx;obtain⟨t',rfl⟩:=ry;exact rule i j t t' s _ _ hc ⟨.int (g i j),H,I.tok _,⟨_,rfl⟩,q⟩
theorem S7{f:Value->Value->Sem Value}{g:Int->Int->Int}(rule:∀(i j:Int)(t u:Tok)(s:Shared)(Q:Value->Shared->Prop)(E:Value->Shared->Prop),Q (.int (g i j) s.toks) {s with toks:=s.toks+1}->wpAny (model X.prog X.w) X.A (f (.int i t) (.int j u)) Q E s):dC X f (Gs fun i j=>.int (g i j)):=by intro pins s σ H x y v u Q I rx ry h;obtain⟨i,j,rfl,rfl,q⟩:=h;obtain⟨t,rfl⟩:=rx;obtain⟨t',rfl⟩:=ry;exact rule i j t t' s _ _ ⟨.int (g i j),H,I.tok _,⟨_,rfl⟩,q⟩
theorem Lz{f:Value->Value->Sem Value}{g:Int->Int->Bool}(rule:∀(i j:Int)(t u:Tok)(s:Shared)(Q:Value->Shared->Prop)(E:Value->Shared->Prop),Q (.bool (g i j)) s->wpAny (model X.prog X.w) X.A (f (.int i t) (.int j u)) Q E s):dC X f (Gs fun i j=>.bl (g i j)):=by intro pins s σ H x y v u Q I rx ry h;obtain⟨i,j,rfl,rfl,q⟩:=h;obtain⟨t,rfl⟩:=rx;obtain⟨t',rfl⟩:=ry;exact rule i j t t' s _ _ ⟨.bl (g i j),H,I,rfl,q⟩
def Xv(i j:Int):Prop:=0<=j/\j<=1000000/\i.natAbs<2^64
def QD(i j:Int):Prop:=(-(2^64)<i/\i<2^64)\/(-(2^64)<j/\j<2^64)
theorem QD.ok{i j:Int}(h:QD i j):IntMulOk i j:=by
 rcases h with⟨h1,h2⟩|⟨h1,h2⟩;.exact .of_left (intBits_le_64 h1 h2)
 .exact .of_right (intBits_le_64 h1 h2)
theorem yZ(k:Nat):(0:Int)<=2^k:=by rw[two_pow_cast];exact Int.natCast_nonneg _
theorem RK:dC X (binaryOp .Add) (Gs fun i j=>.int (i+j)):=S7 fun _ _ _ _ _ _ _ q=>add_int q
theorem Rz:dC X (binaryOp .Sub) (Gs fun i j=>.int (i-j)):=S7 fun _ _ _ _ _ _ _ q=>sub_int q
theorem PK:dC X (binaryOp .Mult) (rI QD fun i j=>.int (i*j)):=Yq fun _ _ _ _ _ _ _ hc q=>mul_int q hc.ok
theorem Rq:dC X (binaryOp .Mod) (rI (fun _ j=>0<j) fun i j=>.int (i%j)):=Yq fun i j _ _ _ _ _ hc q=>by have h1:(0:Int)<j:=hc;exact mod_int' (by omega) (by rw[Int.fmod_eq_emod_of_nonneg i (by omega)];exact q)
theorem SM:dC X (binaryOp .Pow) (rI Xv fun i j=>.int (i^j.toNat)):=Yq fun _ _ _ _ _ _ _ hc q=>pow_int_small hc.1 hc.2.1 hc.2.2 q
theorem RB:dC X (binaryOp .LShift) (rI Xv fun i j=>.int (i*2^j.toNat)):=Yq fun _ _ _ _ _ _ _ hc q=>lshift_int_small hc.1 hc.2.1 hc.2.2 q
theorem Rr:dC X (binaryOp .RShift) (rI (fun _ j=>0<=j) fun i j=>.int (i/2^j.toNat)):=Yq fun i j _ _ _ _ _ hc q=>rshift_int hc (by rw[Int.fdiv_eq_ediv_of_nonneg i (yZ _)];exact q)
theorem Qt:dC X (binaryOp .BitAnd) (Gs fun i j=>.int (Builtin.bitAnd i j)):=S7 fun _ _ _ _ _ _ _ q=>and_int q
theorem U7{f:Value->Sem Value}{g:Int->Int}(rule:∀(i:Int)(t:Tok)(s:Shared)(Q:Value->Shared->Prop)(E:Value->Shared->Prop),Q (.int (g i) s.toks) {s with toks:=s.toks+1}->wpAny (model X.prog X.w) X.A (f (.int i t)) Q E s):UnR X f (rU fun i=>.int (g i)):=by intro pins s σ H x v Q I rx h;obtain⟨i,rfl,q⟩:=h;obtain⟨t,rfl⟩:=rx;exact rule i t s _ _ ⟨.int (g i),H,I.tok _,⟨_,rfl⟩,q⟩
theorem RW:UnR X (unaryOp .USub) (rU fun i=>.int (-i)):=U7 fun _ _ _ _ _ q=>neg_int q
end
section
variable{X:Cx}{a b c:Expr}{ta tb tc:TE}{pos:Pos}
theorem Jq{σ:St}{Q:VK}{k k':Bool}(I:Inv X pins σ H s)(q:Q (.bl k) H)(e:k=k'):EP X pins σ Q (.bool k') s:=by subst e;exact⟨.bl k,H,I,rfl,q⟩
theorem WW:dC X (compareOp .Lt) (Gs fun i j=>.bl (decide (i<j))):=Lz fun _ _ _ _ _ _ _ q=>lt_int q
theorem Ye:dC X (compareOp .LtE) (Gs fun i j=>.bl (decide (i<=j))):=Lz fun _ _ _ _ _ _ _ q=>le_int q
theorem Yt:dC X (compareOp .Gt) (Gs fun i j=>.bl (decide (j<i))):=Lz fun _ _ _ _ _ _ _ q=>gt_int q
theorem VN:dC X (compareOp .GtE) (Gs fun i j=>.bl (decide (j<=i))):=Lz fun _ _ _ _ _ _ _ q=>ge_int q
theorem Rv:dC X (compareOp .Is) (fun x y H Q=>y=.non/\Q (.bl (decide (x=.non))) H):=by intro pins s σ H x y v u Q I rx ry h;obtain⟨rfl,q⟩:=h;cases ry;refine is_none_gen (Jq I q ?_);cases x<;>first|(cases rx;rfl)|(obtain⟨t,rfl⟩:=rx;rfl)
theorem Nj:dC X (compareOp .IsNot) (fun x y H Q=>y=.non/\Q (.bl (!decide (x=.non))) H):=by intro pins s σ H x y v u Q I rx ry h;obtain⟨rfl,q⟩:=h;cases ry;refine isnot_none_gen (Jq I q ?_);cases x<;>first|(cases rx;rfl)|(obtain⟨t,rfl⟩:=rx;rfl)
theorem aP(b:Expr)(h:op≠.In:=by decide)(h2:op≠.NotIn:=by decide):behindInMarks op b=false:=by
 have e1:(op==CmpOp.In)=false:=by cases op<;>first|rfl|exact absurd rfl h
 have e2:(op==CmpOp.NotIn)=false:=by cases op<;>first|rfl|exact absurd rfl h2
 cases b<;>simp[behindInMarks,e1,e2]
theorem Mg{r:R2}(ho:dC X (compareOp op) r)(ha:PE X a ta)(hb:PE X b tb)(hm:behindInMarks op b=false):PE X (.Compare a [op] [b] pos) (Qg r ta tb):=by intro pins s σ H Q I h;exact wpAny_Compare1 (Q8 ha hb I h fun v u s2 x y H2 I2 rx ry q=>ho pins s2 σ H2 x y v u Q I2 rx ry q) hm
def Ou(t:TE):TT:=fun σ H Q=>t σ H fun x H'=>∃k,x=.bl k/\Q k H'
theorem Bw{r:R2}(ho:dC X (compareOp op) r)(ha:PE X a ta)(hb:PE X b tb)(hm:behindInMarks op b=false):PT X (.Compare a [op] [b] pos) (Ou (Qg r ta tb)):=by intro pins s σ H Q I h;refine wpAny_isTrue_Compare1 (cz (ha pins s σ H _ I h) fun v s1⟨x,H1,I1,r1,q1⟩=>cz (hb pins s1 σ H1 _ I1 q1) fun u s2⟨y,H2,I2,r2,q2⟩=>cz (ho pins s2 σ H2 x y v u _ I2 r1 r2 q2) fun c s3⟨z,H3,I3,r3,k,e,q3⟩=>?_) hm;subst e;cases r3;exact wpAny_truthy_bool ⟨H3,I3,q3⟩
def yR(r r':R2)(ta tb tc:TE):TE:=fun σ H Q=>ta σ H fun x H1=>tb σ H1 fun y H2=>r x y H2 fun z H3=>∃k,z=.bl k/\(if k=true then tc σ H3 fun w' H4=>r' y w' H4 Q else Q (.bl false) H3)
theorem Im{op':CmpOp}{r r':R2}(ho:dC X (compareOp op) r)(ho':dC X (compareOp op') r')(ha:PE X a ta)(hb:PE X b tb)(hc:PE X c tc)(hm:lastMarks [op,op'] [b,c]=false:=by with_unfolding_all rfl):PE X (.Compare a [op,op'] [b,c] pos) (yR r r' ta tb tc):=by intro pins s σ H Q I h;refine Compare_chain (cz (ha pins s σ H _ I h) fun v s1⟨x,H1,I1,r1,q1⟩=>chain_link (cz (hb pins s1 σ H1 _ I1 q1) fun u s2⟨y,H2,I2,r2,q2⟩=>cz (ho pins s2 σ H2 x y v u _ I2 r1 r2 q2) fun d s3⟨z,H3,I3,r3,k,e,q3⟩=>?_)) hm;subst e;cases r3;refine wpAny_truthy_bool ?_;cases k with|false=>exact ite_ff ⟨.bl false,H3,I3,rfl,q3⟩|true=>exact ite_tt (chain_last (cz (hc pins s3 σ H3 _ I3 q3) fun w' s4⟨z',H4,I4,r4,q4⟩=>ho' pins s4 σ H4 y z' u w' Q I4 r2 r4 q4))
theorem G8{op':CmpOp}{r r':R2}(ho:dC X (compareOp op) r)(ho':dC X (compareOp op') r')(ha:PE X a ta)(hb:PE X b tb)(hc:PE X c tc)(hm:lastMarks [op,op'] [b,c]=false:=by with_unfolding_all rfl):PT X (.Compare a [op,op'] [b,c] pos) (Ou (yR r r' ta tb tc)):=by intro pins s σ H Q I h;refine isTrue_chain (cz (ha pins s σ H _ I h) fun v s1⟨x,H1,I1,r1,q1⟩=>test_link (cz (hb pins s1 σ H1 _ I1 q1) fun u s2⟨y,H2,I2,r2,q2⟩=>cz (ho pins s2 σ H2 x y v u _ I2 r1 r2 q2) fun d s3⟨z,H3,I3,r3,k,e,q3⟩=>?_)) hm;subst e;cases r3;refine wpAny_truthy_bool ?_;cases k with|false=>obtain⟨k',e',q'⟩:=q3;cases e';exact ite_ff ⟨H3,I3,q'⟩|true=>refine ite_tt (test_last (cz (hc pins s3 σ H3 _ I3 q3) fun w' s4⟨z',H4,I4,r4,q4⟩=>cz (ho' pins s4 σ H4 y z' u w' _ I4 r2 r4 q4) fun d' s5⟨z2,H5,I5,r5,k2,e2,q5⟩=>?_));subst e2;cases r5;exact wpAny_truthy_bool ⟨H5,I5,q5⟩
theorem qj:(sizeLine:Nat)<2^63:=by rw[sizeLine_eq];decide
theorem zf:dC X (binaryOp .Add) (fun x y H Q=>∃i j,x=.str i/\y=.str j/\i.length+j.length<=sizeLine/\Q (.str (i++j)) H):=by intro pins s σ H x y v u Q I rx ry h;obtain⟨i,j,rfl,rfl,hz,q⟩:=h;obtain⟨t,rfl⟩:=rx;obtain⟨t',rfl⟩:=ry;exact add_str (fun t' tk=>⟨.str (i++j),H,I.tok _,⟨_,rfl⟩,q⟩) hz
theorem vals1{x:V}(r:Vals [x] us):∃u,us=[u]/\RelV x u:=by cases r with|cons r1 r2=>cases r2;exact⟨_,rfl,r1⟩
theorem vals2{x y:V}(r:Vals [x,y] us):∃u w',us=[u,w']/\RelV x u/\RelV y w':=by cases r with|cons r1 r2=>cases r2 with|cons r3 r4=>cases r4;exact⟨_,_,rfl,r1,r3⟩
theorem CW(hc:X.calm=true):fL X (.builtin "max") (fun xs H Q=>∃i j,xs=[.int i,.int j]/\Q (.int (if j>i then j else i)) H):=by
 intro pins s σ H xs us Q I r h;obtain⟨i,j,rfl,q⟩:=h;obtain⟨u,w',rfl,⟨t,rfl⟩,⟨t',rfl⟩⟩:=vals2 r;refine max_two_ints (I.ok.hd hc) fun h' tk k=>⟨_,H,I.kept k,?_,q⟩;by_cases hj:j>i;.rw[if_pos hj,if_pos hj];exact⟨_,rfl⟩
 .rw[if_neg hj,if_neg hj];exact⟨_,rfl⟩
end
theorem rW.some_of{v:V}{o:Option Value}(r:rW (some v) o):∃u,o=some u/\RelV v u:=by cases o with|none=>exact(show False from r).elim|some u=>exact⟨u,rfl,r⟩
structure jH(k:Nat)(A:Around):Prop where
 hd:A.handled=none
 dp:A.depth+3*k+5<recursionLimit
 un:A.units+16*k+200<cLine
theorem jH.deeper{k:Nat}{A:Around}(r:jH (k+1) A)(env:Env):jH k (A.deeper env):=⟨r.hd,by have:=r.dp;show A.depth+1+3*k+5<_;omega,by have:=r.un;show A.units+3+16*k+200<_;omega⟩
theorem jH.depth{k:Nat}{A:Around}(r:jH k A):A.depth<recursionLimit:=by have:=r.dp;omega
def aek:TA:=fun _ H Q=>Q [] H
def Xx(ta:TE)(tr:TA):TA:=fun σ H Q=>ta σ H fun x H1=>tr σ H1 fun xs H2=>Q (x::xs) H2
section
variable{X:Cx}{e:Expr}{es:List Expr}{te:TE}{t:TA}{pos:Pos}
theorem eU:PA X [] aek:=fun _ _ _ _ H Q I h=>Calls.spliced_nil ⟨[],H,I,.nil,h⟩
theorem cO(ha:PE X e te)(hr:PA X es t)(hs:starEach (e::es) X.env=(false,eval e X.env)::starEach es X.env:=by rfl):PA X (e::es) (Xx te t):=by intro pos pins s σ H Q I h;rw[hs];show wpAny _ _ (spliced ((false,eval e X.env)::backTo pos (starEach es X.env))) _ _ s;refine Calls.spliced_cons (cz (ha pins s σ H _ I h) fun u s1⟨x,H1,I1,r1,q1⟩=>?_);exact cz (hr pos pins s1 σ H1 _ I1 q1) fun us s2⟨xs,H2,I2,r2,q2⟩=>⟨x::xs,H2,I2,.cons r1 r2,q2⟩
def adI(t:TA):TE:=fun σ H Q=>t σ H fun xs H1=>xs.length<=sizeLine/\∀p,H1 p=none->Q (.ref p) (upd H1 p (.tup xs))
def adT(t:TA):TE:=fun σ H Q=>t σ H fun xs H1=>xs.length<=sizeLine/\∀p,H1 p=none->Q (.ref p) (upd H1 p (.lst xs))
theorem S5{x1}(h:PA X es t):PE X (.Tuple es x1 pos) (adI t):=by intro pins s σ H Q I hq;refine wpAny_Tuple_spliced (cz (h pos pins s σ H _ I hq) fun us s1⟨xs,H1,I1,r,z,q⟩=>⟨by rw[<-r.length];exact z,?_⟩);have hf:H1 s1.heap.objs.size=none:=I1.hok.fresh (cR);refine⟨.ref s1.heap.objs.size,upd H1 s1.heap.objs.size (.tup xs),I1.laid (t':=s1.toks) (fun b u e=>dw e) (cR) ?_,rfl,q _ hf⟩;exact⟨z,us,r,⟨_,get?_push_size _ rfl,rfl,_,rfl⟩⟩
theorem R7(h:PA X es t):PE X (.List es pos) (adT t):=by intro pins s σ H Q I hq;refine wpAny_List_spliced (cz (h pos pins s σ H _ I hq) fun us s1⟨xs,H1,I1,r,z,q⟩=>⟨by rw[<-r.length];exact z,?_⟩);have hf:H1 s1.heap.objs.size=none:=I1.hok.fresh (cR);refine⟨.ref s1.heap.objs.size,upd H1 s1.heap.objs.size (.lst xs),I1.laid (t':=s1.toks) (fun b u e=>dw e) (cR) ?_,rfl,q _ hf⟩;exact⟨z,us,0,r,get?_push_size _ rfl⟩
end
abbrev Sp:=List V->Hp->VK->XK->Prop
abbrev Fx:=List Env->Hp->Shared->XK->Value->Shared->Prop
structure Nt(P:Program)(w:World)(K:PySem.W.Frag)(mg:Str->Option Value)(base:Heap)(A:Around)(outer:List Env)(s:Shared)(H:Hp):Prop where
 frames:A.frames=some outer
 mod:Mod K mg base
 bs:∀b o,base.get? b=some o->s.heap.get? b=some o/\H b=none
 Kh:base.objs.size<=s.heap.objs.size
 m9:s.heap.FunFrames base outer
 Pa:∀b∈frs outer,H b=none
 hok:m7 P w H s.heap
 bare:AllBare s.gens
def CE(outer:List Env)(P:Program)(w:World)(H:Hp)(s:Shared)(Q:VK)(u:Value)(s':Shared):Prop:=∃v H',s'.os=s.os/\AllBare s'.gens/\Un (frs outer) [] H H' s.heap s'.heap/\m7 P w H' s'.heap/\RelV v u/\Q v H'
def CR(CX:Fx)(outer:List Env)(P:Program)(w:World)(H:Hp)(s:Shared)(Q:VK)(E:XK)(r:Result)(s':Shared):Prop:=match r with|.ok (.ret u)=>CE outer P w H s Q u s'|.ok _=>False|.error e=>CX outer H s E e s'
structure nM(P:Program)(w:World)(K:PySem.W.Frag)(mg:Str->Option Value)(base:Heap)(CX:Fx)(k:Nat)(f:Addr)(fd:FuncData)(ps:List Str)(sp:Sp):Prop where
 len:∀vs H Q E,sp vs H Q E->vs.length=ps.length
 run:∀(A:Around)(outer:List Env)(s:Shared)(H:Hp)(args:Args)(us:List Value)(vs:List V)(Q:VK)(E:XK),jH k A->Nt P w K mg base A outer s H->BindsTo s fd args (ps.zip us)->Vals vs us->sp vs H Q E->codeAny (model P w) A (.call (.ref f) args) (CR CX outer P w H s Q E) s
section
variable{X:Cx}{pins:List (Addr×Obj)}{σ:St}{H:Hp}{s s':Shared}
theorem Inv.env0(I:Inv X pins σ H s):Nt X.prog X.w X.K X.mg X.base X.A X.stack s H:=⟨I.ok.frames,I.ok.mod,I.bs,le_trans I.ok.Kh I.sz,I.stack,I.Ao,I.hok,I.bare⟩
theorem Inv.after{Q:VK}{u:Value}(I:Inv X pins σ H s)(h:CE X.stack X.prog X.w H s Q u s'):EP X pins σ Q u s':=by obtain⟨v,H',os,bare,un,hok,r,q⟩:=h;obtain⟨hh,g,d,t,os'⟩:=s';obtain rfl:os'=s.os:=os;exact⟨v,H',I.call (h':=hh) (g':=g) (d':=d) (t':=t) (ch:=[]) un hok bare (fun b z=>absurd z (by simp)),r,q⟩
end
def V4(sp:Sp)(Pb:List V)(E:XK)(t:TA):TE:=fun σ H Q=>t σ H fun vs H1=>sp (vs++Pb) H1 Q E
def Binds(K:PySem.W.Frag)(fd:FuncData)(ps:List Str)(ds:List Value):Prop:=∀(s:Shared)(us:List Value),K.In s.heap->(us++ds).length=ps.length->BindsTo s fd ⟨us,[]⟩ (ps.zip (us++ds))
theorem Binds.all{fd:FuncData}{ps:List Str}(h:∀us:List Value,us.length=ps.length->bindArgs fd ⟨us,[]⟩=pure (ps.zip us)):Binds K fd ps []:=fun s us _ hl=>by rw[append_nil]at hl ⊢;exact .of_eq (h us hl)
def Passes(CX:Fx)(X:Cx)(E:XK):Prop:=∀(pins:List (Addr×Obj))(σ:St)(H:Hp)(s:Shared)(e:Value)(s':Shared),Inv X pins σ H s->CX X.stack H s E e s'->X.xe e s'
section
variable{X:Cx}{CX:Fx}{k:Nat}{f C:Addr}{fd:FuncData}{ps:List Str}{sp:Sp}{Pb:List V}{ds:List Value}{E:XK}{x m:Str}{p pos apos:Pos}{e o:Expr}{es:List Expr}{ta:TE}{t:TA}
theorem Ql{σ:St}{Q:VK}{vs:List V}(F:nM X.prog X.w X.K X.mg X.base CX k f fd ps sp)(hr:jH k X.A)(hb:Binds X.K fd ps ds)(hd:Vals Pb ds)(hx:Passes CX X E)(I:Inv X pins σ H s)(r:Vals vs us)(h:sp (vs++Pb) H Q E):wpAny (model X.prog X.w) X.A (call (.ref f) us) (EP X pins σ Q) X.xe s:=by
 have r2:Vals (vs++Pb) (us++ds):=r.append hd;have hl:(us++ds).length=ps.length:=by rw[<-r2.length];exact F.len _ _ _ _ h
 refine wpAny_call (codeAny_mono (F.run X.A X.stack s H ⟨us,[]⟩ (us++ds) (vs++Pb) Q E hr I.env0 (hb s us I.Ui hl) r2 h) fun r s' hq=>?_);cases r with|error e=>exact hx pins σ H s e s' I hq|ok fl=>cases fl with|ret u=>exact I.after hq|next=>exact False.elim hq|brk=>exact False.elim hq|cont=>exact False.elim hq
theorem Le(F:nM X.prog X.w X.K X.mg X.base CX k f fd ps sp)(hr:jH k X.A)(hg:Gl X x)(hm:X.mg x=some (.ref f))(hk:keepIn X.K (.ref f)=true)(hb:Binds X.K fd ps ds)(hd:Vals Pb ds)(hx:Passes CX X E)(ha:PA X (e::es) t)(hdb:(x==("__debug__":Str))=false:=by decide)(he:starEach (e::es) X.env=(false,eval e X.env)::starEach es X.env:=by rfl)(hpl:(backTo pos (starEach es X.env)).any (·.1)=false:=by rfl):PE X (.Call (.Name x p) (e::es) [] pos) (V4 sp Pb E t):=by intro pins s σ H Q I h;refine wpAny_Call_Name_kw (Bs I hg hm ?_ hdb);refine PySem.W.callWith_K (h₀:=X.base) I.ok.mod.vQ hk (cz (ha pos pins s σ H _ I h) fun us s1⟨vs,H1,I1,r,q⟩=>⟨I1.Ui,?_⟩) he hpl;exact Ql F hr hb hd hx I1 r q
end
structure aD(N P:List Str)(sc:Scope):Prop where
 kind:sc.kind=.function
 co:sc.isCoroutine=false
 gen:sc.isGenerator=false
 nd:N.Nodup
 pre:N.take P.length=P
 par:∀x∈P,sc.names.lookup x=some .local\/sc.names.lookup x=some .cell
 Tq:∀y∈sc.names,y.2≠.free
theorem sX{kindOf:Str->Option NameKind}{x:Str}:∀{binds:List (Str×Value)}{m:Str->Option Value},(∀v,(x,v)∉binds)->bindL kindOf binds m x=m x
 |[],_,_=>rfl|(n,v)::r,m,h=>by
   unfold bindL;rw[sX fun w hw=>h w (mem_cons_of_mem _ hw)];split
   . have:x≠n:=by rintro rfl;exact h v mem_cons_self
     simp[this]
   .rfl
theorem sI{kindOf:Str->Option NameKind}{x:Str}:∀{binds:List (Str×Value)}{m:Str->Option Value},(∀v,(x,v)∉binds)->bindC kindOf binds m x=m x
 |[],_,_=>rfl|(n,v)::r,m,h=>by
   unfold bindC;rw[sI fun w hw=>h w (mem_cons_of_mem _ hw)];split;.rfl
   . have:x≠n:=by rintro rfl;exact h v mem_cons_self
     simp[this]
theorem tX{kindOf:Str->Option NameKind}{x:Str}{v:Value}:∀{P:List Str}{vs:List Value}{i:Nat}{m:Str->Option Value},P.Nodup->P[i]?=some x->vs[i]?=some v->kindOf x=some .local->bindL kindOf (P.zip vs) m x=some v|[],_,_,_,_,h,_,_=>by simp at h|_::_,[],_,_,_,_,h,_=>by simp at h|p::P,w::vs,0,m,nd,h1,h2,hk=>by simp at h1 h2;subst h1;subst h2;show bindL kindOf ((p,w)::P.zip vs) m p=_;unfold bindL;rw[sX fun v hv=>(nodup_cons.mp nd).1 (of_mem_zip hv).1,if_pos hk];simp|p::P,w::vs,i+1,m,nd,h1,h2,hk=>by show bindL kindOf ((p,w)::P.zip vs) m x=_;unfold bindL;exact tX (i:=i) (nodup_cons.mp nd).2 (by simpa using h1) (by simpa using h2) hk
theorem sW{kindOf:Str->Option NameKind}{x:Str}{v:Value}:∀{P:List Str}{vs:List Value}{i:Nat}{m:Str->Option Value},P.Nodup->P[i]?=some x->vs[i]?=some v->kindOf x≠some .local->bindC kindOf (P.zip vs) m x=some v|[],_,_,_,_,h,_,_=>by simp at h|_::_,[],_,_,_,_,h,_=>by simp at h|p::P,w::vs,0,m,nd,h1,h2,hk=>by simp at h1 h2;subst h1;subst h2;show bindC kindOf ((p,w)::P.zip vs) m p=_;unfold bindC;rw[sI fun v hv=>(nodup_cons.mp nd).1 (of_mem_zip hv).1,if_neg hk];simp|p::P,w::vs,i+1,m,nd,h1,h2,hk=>by show bindC kindOf ((p,w)::P.zip vs) m x=_;unfold bindC;exact sW (i:=i) (nodup_cons.mp nd).2 (by simpa using h1) (by simpa using h2) hk
noncomputable def start(N:List Str)(vs:List V):St:=vs.map some++replicate (N.length-vs.length) none
noncomputable def yE(CX:Fx)(P:Program)(w:World)(K:PySem.W.Frag)(mg:Str->Option Value)(base:Heap)(N:List Str)(qual:Str)(scope:Scope)(f:Addr)(cd:Value)(A:Around)(outer:List Env)(s:Shared)(H:Hp)(E:XK):Cx where prog:=P;w:=w;K:=K;mg:=mg;base:=base;A:=A.deeper (envOfC qual scope s.heap.objs.size f cd);N:=N;s₀:=s;H₀:=H;env:=envOfC qual scope s.heap.objs.size f cd;outer:=outer;stack:=envOfC qual scope s.heap.objs.size f cd::outer;ex:=[];calm:=true;fn:=fun _=>true;pn:=[];xe:=fun e s'=>wpAny (model P w) (A.deeper (envOfC qual scope s.heap.objs.size f cd)) (leaving (envOfC qual scope s.heap.objs.size f cd) e) (fun _ s''=>CX outer H s E e s'') (fun e' s''=>CX outer H s E e' s'') s'
theorem xV{sc:Scope}{n:Nat}{x:Str}(h:sc.names.lookup x=some .cell):∃c,(cellsFrom n sc.names []).lookup x=some c:=by have q:=PySem.W.cellsFrom_some sc.names n [] (.inl h);exact Option.isSome_iff_exists.mp q
theorem Dt{CX:Fx}{P:Program}{mg:Str->Option Value}{base:Heap}{N ps:List Str}{qual:Str}{scope:Scope}{f:Addr}{cd:Value}{outer:List Env}{s1:Shared}{E:XK}{vs:List V}(S:aD N ps scope)(hd:A.handled=none)(e0:Nt P w K mg base A outer s H)(hl:vs.length=ps.length)(r:Vals vs us)(x:InCallC s s.heap.objs.size (bindL (envOfC qual scope s.heap.objs.size f cd).kindOf (ps.zip us) fun _=>none) (cellsFrom (s.heap.objs.size+1) scope.names []) (bindC (envOfC qual scope s.heap.objs.size f cd).kindOf (ps.zip us) fun _=>none) s1):Inv (yE CX P w K mg base N qual scope f cd A outer s H E) [] (start N vs) H s1:=by
 have hpl:ps.length<=N.length:=by have:=congrArg List.length S.pre;rw[length_take]at this;omega
 obtain⟨h1,tk,rfl,hk⟩:=x.done;have Yw:∀b:Addr,b∉(yE CX P w K mg base N qual scope f cd A outer s H E).ex:=fun b z=>absurd (show b∈([]:List Addr)from z) (by simp);refine⟨⟨e0.mod,S.kind,rfl,rfl,cR,fun y z c h1 h2=>?_,fun y hy=>?_,fun y c _ h=>?_,fun _=>hd,Around.frames_deeper e0.frames,.inr ⟨rfl,rfl⟩,fun b z=>absurd z (Yw b),e0.bs,e0.Kh,fun b _ _=>Yw b,fun b z=>absurd z (Yw b),e0.m9,e0.Pa⟩,rfl,e0.bare,Un.kept hk,⟨_,x.toInCall.ns,fun i y v h1 h2 h3=>?_⟩,fun y c h=>⟨_,x.cell y c h⟩,e0.hok.fresh (cR),fun y c h=>?_,fun p hp=>absurd (show p∈([]:List (Addr×Obj))from hp) (by simp),e0.hok.kept hk,?_⟩;.exact name_of_addr x.apart (PySem.mem_of_lookup h1) (PySem.mem_of_lookup h2)
 . have hy:scope.names.lookup y=some .cell\/scope.names.lookup y=some .free:=hy;rcases hy with hy|hy;.exact xV hy
   .exact absurd rfl (S.Tq _ (PySem.mem_of_lookup hy))
 .exact le_of_lt (x.above y c (PySem.mem_of_lookup h))
 . have hi:i<vs.length:=by
    unfold start at h2;by_cases hi:i<vs.length;.exact hi
    .rw[getElem?_append_right (by simpa using hi)]at h2;rw[getElem?_replicate]at h2;split at h2<;>cases h2
   have ha:vs[i]?=some v:=by unfold start at h2;rw[getElem?_append_left (by simpa using hi),getElem?_map]at h2;cases e:vs[i]?with|none=>rw[e]at h2;cases h2|some a=>rw[e]at h2;cases h2;rfl
   obtain⟨u,hu,rv⟩:=r.get ha;have hp:ps[i]?=some y:=by rw[<-S.pre,List.getElem?_take_of_lt (by omega)];exact h1
   have ndP:ps.Nodup:=by rw[<-S.pre];exact S.nd.sublist (List.take_sublist _ _)
   refine⟨u,rv,?_⟩;rcases S.par y (mem_of_getElem? hp)with k|k;.exact .inl ⟨k,tX ndP hp hu k⟩
   .obtain⟨c,e⟩:=xV (n:=s.heap.objs.size+1) k;refine .inr ⟨.inl k,c,e,?_⟩;have q:=x.cell y c e;rw[sW ndP hp hu (by show scope.names.lookup y≠_;rw[k];decide)]at q;exact q
 .exact e0.hok.fresh (le_of_lt (x.above y c (PySem.mem_of_lookup h)))
 .unfold start;show _=N.length;rw[length_append,length_map,length_replicate];omega
theorem Wf{CX:Fx}{P:Program}{w:World}{K:PySem.W.Frag}{mg:Str->Option Value}{base:Heap}{k:Nat}{f:Addr}{name qual:Str}{params:Arguments}{body:List Stmt}{scope:Scope}{dV kV doc pm cdv ct oc:Value}{an od:Option Addr}{osl:Array (Option Value)}{N ps:List Str}{sp:Sp}(lk:K.lookup f=some ⟨oc,od,.func (PySem.W.fnOf name qual params body scope dV kV doc pm an cdv ct),osl⟩)(hcd:PySem.W.codeIn K cdv qual=true)(S:aD N ps scope)(len:∀vs H Q E,sp vs H Q E->vs.length=ps.length)(hbody:∀(A:Around)(outer:List Env)(s:Shared)(H:Hp)(vs:List V)(Q:VK)(E:XK),jH k (A.deeper (envOfC qual scope s.heap.objs.size f cdv))->sp vs H Q E->∃t,vZ (yE CX P w K mg base N qual scope f cdv A outer s H E) body t/\t {nx:=fun _ H'=>Q .non H',rt:=Q} (start N vs) H):nM P w K mg base CX (k+1) f (PySem.W.fnOf name qual params body scope dV kV doc pm an cdv ct) ps sp:=by
 refine⟨len,fun A outer s H args us vs Q E hr e0 hb r hsp=>?_⟩;have hl:=len _ _ _ _ hsp;have KX:K.In s.heap:=e0.mod.vQ.keeps fun b o e=>(e0.bs b o e).1;have lim:s.heap.NoLimit:=e0.mod.nolimit.keeps fun b o e=>(e0.bs b o e).1;have hkind:∀y∈ps.zip us,scope.names.lookup y.1=some .local\/(scope.names.lookup y.1=some .cell/\((cellsFrom (s.heap.objs.size+1) scope.names []).lookup y.1).isSome=true):=fun⟨n,v⟩hy=>by
  rcases S.par n (of_mem_zip hy).1 with q|q;.exact .inl q
  .exact .inr ⟨q,PySem.W.cellsFrom_some _ _ _ (.inl q)⟩
 refine codeAny_call_function hr.depth (KX _ _ lk) rfl S.co S.gen rfl (PySem.W.codeRec_of KX hcd) (hb _ _ _ _ ?_);refine wpAny_newFunctionEnv_cells S.kind hkind fun env he s1 x=>?_;subst he;refine⟨lim.keeps x.toInCall.keep,codeAny_func ?_⟩;obtain⟨t,ht,hq⟩:=hbody A outer s H vs Q E (hr.deeper _) hsp;have I:Inv (yE CX P w K mg base N qual scope f cdv A outer s H E) [] (start N vs) H s1:=Dt S hr.hd e0 hl r x;refine wpAny_mono (ht [] s1 (start N vs) H _ I hq) (fun fl s' hs=>?_) fun e s' hs=>hs;have fin:∀{σ':St}{H':Hp}{v:V}{u:Value},Inv (yE CX P w K mg base N qual scope f cdv A outer s H E) [] σ' H' s'->RelV v u->Q v H'->CE outer P w H s Q u s':=fun{σ' H' v u}J rv q=>⟨v,H',J.os,J.bare,J.base,J.hok,rv,q⟩;cases fl with|ret u=>obtain⟨v,σ',H',J,rv,q⟩:=hs;exact fin J rv q|next=>obtain⟨σ',H',J,q⟩:=hs;exact fin (v:=V.non) (u:=Value.none) J rfl q|brk=>obtain⟨_,_,_,q⟩:=hs;exact False.elim q|cont=>obtain⟨_,_,_,q⟩:=hs;exact False.elim q
section
variable{X:Cx}{x:Str}{p pos:Pos}{e:Expr}{es:List Expr}{t:TA}{id T:String}{r:List V->Hp->VK->Prop}
def tCB(r:List V->Hp->VK->Prop)(t:TA):TE:=fun σ H Q=>t σ H fun vs H1=>r vs H1 Q
theorem gG(hc:fL X (.builtin id) r)(hg:Gl X x)(hm:X.mg x=none)(hv:bootBuiltins x=some (.builtin id))(ha:PA X (e::es) t)(hn:x≠"__name__":=by decide)(hdb:(x==("__debug__":Str))=false:=by decide)(he:starEach (e::es) X.env=(false,eval e X.env)::starEach es X.env:=by rfl)(hpl:(backTo pos (starEach es X.env)).any (·.1)=false:=by rfl):PE X (.Call (.Name x p) (e::es) [] pos) (tCB r t):=by intro pins s σ H Q I h;refine wpAny_Call_Name_kw (iu I hg hm hv ?_ hn hdb);exact PyProof.Rows.callWith_builtin1 (cz (ha pos pins s σ H _ I h) fun us s1⟨vs,H1,I1,r1,q1⟩=>hc pins s1 σ H1 vs us Q I1 r1 q1) he hpl
theorem nT(hc:fL X (.type T) r)(hg:Gl X x)(hm:X.mg x=none)(hv:bootBuiltins x=some (.type T))(ha:PA X (e::es) t)(hn:x≠"__name__":=by decide)(hdb:(x==("__debug__":Str))=false:=by decide)(he:starEach (e::es) X.env=(false,eval e X.env)::starEach es X.env:=by rfl)(hpl:(backTo pos (starEach es X.env)).any (·.1)=false:=by rfl):PE X (.Call (.Name x p) (e::es) [] pos) (tCB r t):=by intro pins s σ H Q I h;refine wpAny_Call_Name_kw (iu I hg hm hv ?_ hn hdb);exact PyProof.Rows.callWith_type1 (cz (ha pos pins s σ H _ I h) fun us s1⟨vs,H1,I1,r1,q1⟩=>hc pins s1 σ H1 vs us Q I1 r1 q1) he hpl
end
end L2
namespace HT
open PySem PyProof.Rows
section
variable{prog:Program}{w:World}{A:Around}{E:Value->Shared->Prop}{s:Shared}
theorem Ma{t b:Addr}{vs ws:List Value}{Q:Value->Shared->Prop}(ht:IsTup s.heap t vs.toArray)(hb:IsTup s.heap b ws.toArray)(hv:vs≠[])(h1:ws=[]->Q (.ref t) s)(h2:ws≠[]->Q (.ref s.heap.objs.size) {s with heap:=s.heap.push {cls:=.type "tuple",data:=.seq (vs++ws).toArray}})(hsz:vs.length+ws.length<=sizeLine):wpAny (model prog w) A (binaryOp .Add (.ref t) (.ref b)) Q E s:=by
 obtain⟨⟨cls,dd,data,sl⟩,ho,hc,n,hd⟩:=id ht;obtain⟨⟨cls2,dd2,data2,sl2⟩,ho2,hc2,n2,hd2⟩:=id hb;simp only at hc hd hc2 hd2;subst hc hd hc2 hd2;have e:vs.toArray++ws.toArray=(vs++ws).toArray:=by simp
 by_cases hw:ws=[];.exact concat_meets ⟨_,ho,rfl⟩ ⟨_,ho2,rfl⟩ noFill_tuple_add seq_tuple_add slot_tuple_add entry_tuple_add (args_tuple_add_2 _ _) (tuple_addW1 t b vs.toArray ws.toArray n n2 dd dd2 sl sl2 (by simpa using hv) (by simp[hw])) ⟨ho,ho2,h1 hw⟩
 .refine concat_meets ⟨_,ho,rfl⟩ ⟨_,ho2,rfl⟩ noFill_tuple_add seq_tuple_add slot_tuple_add entry_tuple_add (args_tuple_add_2 _ _) (tuple_addW2 t b vs.toArray ws.toArray n n2 dd dd2 sl sl2 (by simpa using hv) (by simpa using hw) (by rw[size_toArray,size_toArray];exact hsz)) ⟨ho,ho2,?_⟩;rw[e];exact h2 hw
noncomputable def cZ(n d:Nat):Option Int->Nat|none=>d|some v=>if v<0 then(v+(n:Int)).toNat else min v.toNat n
theorem Qu(n d:Nat)(hd:d<=n)(o:Option Int):cZ n d o<=n:=by cases o with|none=>exact hd|some v=>
   show(if v<0 then(v+(n:Int)).toNat else min v.toNat n)<=n;by_cases hv:v<0;.rw[if_pos hv];omega
   .rw[if_neg hv];exact Nat.min_le_right _ _
theorem Br(v:Int)(n d:Nat):(if v<0 then max (v+(n:Int)) 0 else min v (n:Int))=((cZ n d (some v):Nat):Int):=by
 show(if v<0 then max (v+(n:Int)) 0 else min v (n:Int))=(((if v<0 then(v+(n:Int)).toNat else min v.toNat n):Nat):Int);by_cases hv:v<0;.simp only[if_pos hv];omega
 .simp only[if_neg hv];omega
theorem zQ(lo hi:Option Int)(n:Nat):sliceAdjust lo hi 1 (n:Int)=(((cZ n 0 lo:Nat):Int),((cZ n n hi:Nat):Int)):=by
 have h1:¬((1:Int)<0):=by omega
 unfold sliceAdjust;simp only[h1,if_false];refine Prod.ext ?_ ?_;.cases lo with|none=>rfl|some v=>exact Br v n 0
 .cases hi with|none=>rfl|some v=>exact Br v n n
theorem yW(i j:Nat):slicePlaces (i:Int) (j:Int) 1=j-i:=by
 unfold slicePlaces;have h1:(1:Int)>0:=by omega
 simp only[h1,if_true,Int.ediv_one];split<;>omega
theorem qC{v:Value}{o:Option Int}{Q:Option Int->Shared->Prop}(p:IsPart v o)(h:Q o s):wpAny (model prog w) A (Builtin.Slice.slicePartIndex v) Q E s:=by cases p with|none=>exact slicePart_none h|int i t=>exact slicePart_int h
theorem iR{sl:Addr}{vl vu:Value}{lo hi:Option Int}{n:Nat}{Q:Int×Int×Nat->Shared->Prop}(hs:s.heap.IsSliceOf sl vl vu .none)(pl:IsPart vl lo)(pu:IsPart vu hi)(h:Q (((cZ n 0 lo:Nat):Int),1,cZ n n hi-cZ n 0 lo) s):wpAny (model prog w) A (sliceApplied (.ref sl) (pure (n:Int))) Q E s:=by obtain⟨os,hos,hcs,hds⟩:=id hs;unfold sliceApplied Builtin.Slice.sliceFields;refine wpAny_bind (wpAny_bind (wpAny_field hos hds (x:=vl) rfl (wpAny_bind (wpAny_field hos hds (x:=vu) rfl (wpAny_bind (wpAny_field hos hds (x:=.none) rfl (wpAny_pure ?_)))))));refine wpAny_bind (slicePart_none ?_);show wpAny _ _ (if((1:Int)==0)=true then _ else _) _ _ s;rw[if_neg (by decide)];refine wpAny_bind (qC pl (wpAny_bind (qC pu (wpAny_bind (wpAny_pure ?_)))));show wpAny _ _ (match sliceAdjust lo hi 1 (n:Int)with|(lo,hi)=>pure (lo,(1:Int),slicePlaces lo hi 1)) _ _ s;rw[zQ lo hi n];show wpAny _ _ (pure (((cZ n 0 lo:Nat):Int),(1:Int),slicePlaces ((cZ n 0 lo:Nat):Int) ((cZ n n hi:Nat):Int) 1)) _ _ s;rw[yW];exact wpAny_pure h
theorem Jz(xs:Array Value)(i k:Nat):((List.range k).filterMap fun(m:Nat)=>xs[((i:Int)+(m:Int)*1).toNat]?).toArray=((xs.toList.drop i).take k).toArray:=by
 have e:(fun(m:Nat)=>xs[((i:Int)+(m:Int)*1).toNat]?)=fun m=>xs[i+m]?:=by
  funext m;have:((i:Int)+(m:Int)*1).toNat=i+m:=by omega
  rw[this]
 rw[e];have:=pick_run xs i k;rw[List.filterMap_map]at this;have e2:((fun x=>xs[x]?)∘ fun x=>i+x)=fun m=>xs[i+m]?:=rfl;rw[e2]at this;rw[this]
theorem lL{t sl:Addr}{items:Array Value}{vl vu:Value}{lo hi:Option Int}{Q:Value->Shared->Prop}(ht:IsTup s.heap t items)(hs:s.heap.IsSliceOf sl vl vu .none)(pl:IsPart vl lo)(pu:IsPart vu hi)(hw:¬(cZ items.size 0 lo=0/\cZ items.size items.size hi=items.size))(h:Q (.ref s.heap.objs.size) {s with heap:=s.heap.push {cls:=.type "tuple",data:=.seq ((items.toList.drop (cZ items.size 0 lo)).take (cZ items.size items.size hi-cZ items.size 0 lo)).toArray}})(hsz:items.size<=sizeLine):wpAny (model prog w) A (getItem (.ref t) (.ref sl)) Q E s:=by
 have Cp:sizeOk (.seq ((items.toList.drop (cZ items.size 0 lo)).take (cZ items.size items.size hi-cZ items.size 0 lo)).toArray):=by show((items.toList.drop (cZ items.size 0 lo)).take (cZ items.size items.size hi-cZ items.size 0 lo)).toArray.size<=sizeLine;rw[size_toArray,length_take,List.length_drop,length_toList];omega
 have hj:cZ items.size items.size hi<=items.size:=Qu _ _ (cR) hi;obtain⟨os,hos,hcs,hds⟩:=id hs;have hTs:s.TypeIs (.ref sl) "slice":=⟨os,hos,hcs⟩;unfold getItem;try with_reducible refine wpAny_holding ?_
 first|refine wpAny_bind (wpAny_pure ?_)|skip
 refine wpAny_bind (wpAny_sequenceKey ht.typeIs (by decide) ?_);refine wpAny_bind (wpAny_callSpecial?_slot (name:=Str.ofString "__getitem__") ht.typeIs PyProof.Rows.slot_tuple_getitem (wpAny_call_entry PyProof.Rows.slot_tuple_getitem ht.typeIs entry_tuple_getitem ?_ (args_tuple_getitem _ _)));show wpAny _ _ (tupleItemsOf (.ref t)>>=_) _ _ s;refine wpAny_bind (tupleItemsOf_ ht ?_);refine wpAny_bind (wpAny_typeOf hTs ?_);rw[if_pos (by decide)];refine wpAny_bind (iR hs pl pu ?_);have hno:¬((((cZ items.size 0 lo:Nat):Int)==0&&(1:Int)==1&&(cZ items.size items.size hi-cZ items.size 0 lo)==items.size)=true):=by intro q;rw[and_eq_true,and_eq_true]at q;have q1:((cZ items.size 0 lo:Nat):Int)=0:=eq_of_beq q.1.1;have q2:cZ items.size items.size hi-cZ items.size 0 lo=items.size:=eq_of_beq q.2;exact hw ⟨by omega,by omega⟩
 show wpAny _ _ (if(((cZ items.size 0 lo:Nat):Int)==0&&(1:Int)==1&&(cZ items.size items.size hi-cZ items.size 0 lo)==items.size)=true then _ else _) _ _ s;rw[if_neg hno,Jz];first|exact wpAny_bind (m:=tupleExact _) (wpAny_newObj_type (wpAny_pure ⟨_,rfl,wpAny_pure h⟩) Cp)|exact wpAny_bind (m:=tupleExact _) (wpAny_newObj_type (wpAny_bind (wpAny_pure (wpAny_pure ⟨_,rfl,wpAny_pure h⟩))) Cp)|exact wpAny_bind (wpAny_bind (m:=tupleExact _) (wpAny_newObj_type (wpAny_pure (wpAny_pure ⟨_,rfl,wpAny_pure h⟩)) Cp))|exact wpAny_bind (wpAny_bind (m:=tupleExact _) (wpAny_newObj_type (wpAny_pure ⟨_,rfl,wpAny_pure h⟩) Cp))
end
end HT
namespace L2
open PySem PySem.Spec PyProof.Rows
variable{n:Nat}{s:Shared}{x:V}
abbrev TO:=St->Hp->(Option Int->Hp->Prop)->Prop
def PO(X:Cx)(e:Option Expr)(t:TO):Prop:=∀(pins:List (Addr × Obj))(s:Shared)(σ:St)(H:Hp)(Q:Option Int->Hp->Prop),Inv X pins σ H s->t σ H Q->wpAny (model X.prog X.w) X.A (evalPart e X.env) (fun u s'=>∃o H',Inv X pins σ H' s'/\IsPart u o/\Q o H') X.xe s
def Li:TO:=fun _ H Q=>Q none H
def Xy(t:TE):TO:=fun σ H Q=>t σ H fun x H1=>∃i,x=.int i/\Q (some i) H1
section
variable{X:Cx}{e:Expr}{te:TE}{lo hi:Option Expr}{tl th:TO}{pos p2:Pos}
theorem M5:PO X none Li:=by intro pins s σ H Q I h;rw[evalPart_none];exact wpAny_pure ⟨none,H,I,.none,h⟩
theorem Mw(h:PE X e te):PO X (some e) (Xy te):=by intro pins s σ H Q I hw;rw[evalPart_some];refine cz (h pins s σ H _ I hw) fun u s1⟨x,H1,I1,r1,q1⟩=>?_;obtain⟨i,rfl,q⟩:=q1;obtain⟨t,rfl⟩:=r1;exact⟨some i,H1,I1,.int i t,q⟩
def SlR(X:Cx)(r:V->Option Int->Option Int->Hp->VK->Prop):Prop:=∀(pins:List (Addr × Obj))(s:Shared)(σ:St)(H:Hp)(x:V)(v vl vu:Value)(lo hi:Option Int)(sl:Addr)(Q:VK),Inv X pins σ H s->RelV x v->s.heap.IsSliceOf sl vl vu .none->IsPart vl lo->IsPart vu hi->r x lo hi H Q->∃T id,typeLookup (.type T) "__getitem__"=pure (some (.builtin id))/\s.TypeIs v T/\wpAny (model X.prog X.w) X.A (getItem v (.ref sl)) (EP X pins σ Q) X.xe s
def tSl(r:V->Option Int->Option Int->Hp->VK->Prop)(te:TE)(tl th:TO):TE:=fun σ H Q=>te σ H fun x H1=>tl σ H1 fun l H2=>th σ H2 fun u H3=>r x l u H3 Q
theorem xW{r:V->Option Int->Option Int->Hp->VK->Prop}(hr:SlR X r)(he:PE X e te)(hl:PO X lo tl)(hu:PO X hi th):PE X (.Subscript e (.Slice lo hi none p2) pos) (tSl r te tl th):=by intro pins s σ H Q I h;refine Subscript_ (cz (he pins s σ H _ I h) fun v s1⟨x,H1,I1,r1,q1⟩=>?_);refine wpAny_Slice (cz (hl pins s1 σ H1 _ I1 q1) fun vl s2⟨l,H2,I2,pl,q2⟩=>cz (hu pins s2 σ H2 _ I2 q2) fun vu s3⟨u,H3,I3,pu,q3⟩=>?_);rw[evalPart_none];refine wpAny_pure ?_;have I4:Inv X pins σ H3 {s3 with heap:=s3.heap.push {cls:=.type "slice",data:=.fields #[vl,vu,.none]}}:=I3.kept (t':=s3.toks) fun b ob q=>dw q;obtain⟨T,id,hT,ht,hg⟩:=hr pins {s3 with heap:=s3.heap.push {cls:=.type "slice",data:=.fields #[vl,vu,.none]}} σ H3 x v vl vu l u s3.heap.objs.size Q I4 r1 (Heap.IsSliceOf.new ..) pl pu q3;show wpAny (model X.prog X.w) X.A (subscriptTail e (.Slice lo hi none p2) v (.ref s3.heap.objs.size)) (EP X pins σ Q) X.xe {s3 with heap:=s3.heap.push {cls:=.type "slice",data:=.fields #[vl,vu,.none]}};exact tail_any (ops:=[.ref s3.heap.objs.size,v]) ht hT hg (by with_unfolding_all rfl)
noncomputable def wR(xs:List V)(lo hi:Option Int):List V:=(xs.drop (HT.cZ xs.length 0 lo)).take (HT.cZ xs.length xs.length hi-HT.cZ xs.length 0 lo)
theorem oM(xs:List V)(lo hi:Option Int):(wR xs lo hi).length<=xs.length:=by unfold wR;rw[length_take,List.length_drop];omega
def abV(K:PySem.W.Frag):V->Option Int->Option Int->Hp->VK->Prop:=fun x lo hi H Q=>∃a xs,x=.ref a/\iT K H a xs/\¬(HT.cZ xs.length 0 lo=0/\HT.cZ xs.length xs.length hi=xs.length)/\∀p,H p=none->Q (.ref p) (upd H p (.tup (wR xs lo hi)))
theorem Rh:SlR X (abV X.K):=by
 intro pins s σ H x v vl vu lo hi sl Q I rx hs pl pu h;obtain⟨a,xs,rfl,hx,hw,q⟩:=h;cases rx;obtain⟨its,r,ht,hz⟩:=I.tuple hx;have hlen:its.toArray.size=xs.length:=by rw[size_toArray];exact r.length.symm
 refine⟨"tuple",_,PyProof.Rows.slot_tuple_getitem.lookup,ht.typeIs,?_⟩;refine HT.lL ht hs pl pu (by rw[hlen];exact hw) ?_ (by rw[hlen];exact hz);rw[hlen];refine⟨.ref s.heap.objs.size,_,I.laid (t':=s.toks) (o:=.tup (wR xs lo hi)) (fun b ob q=>dw q) (cR) ?_,rfl,q _ (I.hok.fresh (cR))⟩;exact⟨le_trans (oM xs lo hi) hz,_,(r.drop (HT.cZ xs.length 0 lo)).take (HT.cZ xs.length xs.length hi-HT.cZ xs.length 0 lo),IsTup.new _ _⟩
def V0(K:PySem.W.Frag):R2:=fun x y H Q=>∃a b xs ys,x=.ref a/\y=.ref b/\iT K H a xs/\iT K H b ys/\xs≠[]/\xs.length+ys.length<=sizeLine/\(ys=[]->Q (.ref a) H)/\(ys≠[]->∀p,H p=none->Q (.ref p) (upd H p (.tup (xs++ys))))
theorem Vals.pC{xs:List V}{us:List Value}(r:Vals xs us):us=[]↔xs=[]:=by cases r with|nil=>simp|cons _ _=>simp
theorem MF:dC X (binaryOp .Add) (V0 X.K):=by intro pins s σ H x y v u Q I rx ry h;obtain⟨a,b,xs,ys,rfl,rfl,ha,hb,hx,hz,q1,q2⟩:=h;cases rx;cases ry;obtain⟨its,r1,p1,_⟩:=I.tuple ha;obtain⟨its2,r2,p2,_⟩:=I.tuple hb;refine HT.Ma p1 p2 (fun z=>hx (r1.pC.mp z)) (fun z=>⟨.ref a,H,I,rfl,q1 (r2.pC.mp z)⟩) (fun z=>?_) (by rw[<-r1.length,<-r2.length];exact hz);refine⟨.ref s.heap.objs.size,_,I.laid (t':=s.toks) (o:=.tup (xs++ys)) (fun b ob q=>dw q) (cR) ?_,rfl,q2 (fun w=>z (r2.pC.mpr w)) _ (I.hok.fresh (cR))⟩;exact⟨by rw[length_append];exact hz,_,r1.append r2,IsTup.new _ _⟩
end
noncomputable def iD(n:Nat)(i:Int):Option Nat:=if 0<=i then(if i<n then some i.toNat else none)else if-(n:Int)<=i then some (i+n).toNat else none
noncomputable def GX{α:Type}(xs:List α)(i:Int):Option α:=(iD xs.length i).bind fun j=>xs[j]?
theorem Cj{i:Int}{j:Nat}(h:iD n i=some j):seqIndex? i n=some j/\j<n/\-(n:Int)<=i/\i<n:=by
 unfold iD at h;by_cases h0:0<=i
 . rw[if_pos h0]at h;by_cases h1:i<n;.rw[if_pos h1]at h;have e:i.toNat=j:=Option.some.inj h;exact⟨by rw[seqIndex_of h0 h1,e],by omega,by omega,h1⟩
   .rw[if_neg h1]at h;cases h
 . rw[if_neg h0]at h;by_cases h1:-(n:Int)<=i;.rw[if_pos h1]at h;have e:(i+n).toNat=j:=Option.some.inj h;exact⟨by rw[seqIndex_neg (by omega) h1,e],by omega,h1,by omega⟩
   .rw[if_neg h1]at h;cases h
theorem uJ{α:Type}{xs:List α}{i:Int}{v:α}(h:GX xs i=some v):∃j,seqIndex? i xs.length=some j/\xs[j]?=some v/\j<xs.length/\-(xs.length:Int)<=i/\i<xs.length:=by unfold GX at h;cases e:iD xs.length i with|none=>rw[e]at h;cases h|some j=>rw[e]at h;obtain⟨h1,h2,h3,h4⟩:=Cj e;exact⟨j,h1,h,h2,h3,h4⟩
def vh(b:Expr):Prop:=∀o i,subscripted b false o i=operate [o,i] (getItem o i)
def Y7(X:Cx)(r:R2):Prop:=∀(value slice:Expr)(pins:List (Addr × Obj))(s:Shared)(σ:St)(H:Hp)(x y:V)(v u:Value)(Q:VK),Inv X pins σ H s->RelV x v->RelV y u->r x y H Q->subscripted slice false v u=operate [v,u] (getItem v u)->wpAny (model X.prog X.w) X.A (subscriptTail value slice v u) (EP X pins σ Q) X.xe s
def MtR(X:Cx)(id:String)(r:V->List V->Hp->VK->Prop):Prop:=∀(pins:List (Addr × Obj))(s:Shared)(σ:St)(H:Hp)(x:V)(xs:List V)(v:Value)(us:List Value)(Q:VK),Inv X pins σ H s->RelV x v->Vals xs us->r x xs H Q->wpAny (model X.prog X.w) X.A (call (.builtin id) (v::us)) (EP X pins σ Q) X.xe s
section
variable{X:Cx}{a b:Expr}{ta tb:TE}{pos:Pos}
theorem Ol{r:R2}(hr:Y7 X r)(ha:PE X a ta)(hb:PE X b tb)(hs:vh b):PE X (.Subscript a b pos) (Qg r ta tb):=by intro pins s σ H Q I h;exact Subscript_ (Q8 ha hb I h fun v u s2 x y H2 I2 rx ry q=>hr a b pins s2 σ H2 x y v u Q I2 rx ry q (hs _ _))
def Yj(K:PySem.W.Frag):R2:=fun x y H Q=>∃p xs i v,x=.ref p/\y=.int i/\dF K H p xs/\GX xs i=some v/\Q v H
def adb(K:PySem.W.Frag):R2:=fun x y H Q=>∃p xs i v,x=.ref p/\y=.int i/\iT K H p xs/\GX xs i=some v/\Q v H
theorem Bt:Y7 X (Yj X.K):=by
 intro value slice pins s σ H x y v u Q I rx ry h hs;obtain⟨p,xs,i,z,rfl,rfl,hq,he,q⟩:=h;cases rx;obtain⟨t,rfl⟩:=ry;obtain⟨its,r,pl,hz⟩:=I.list hq;obtain⟨j,h1,h2,h3,h4,h5⟩:=uJ he;obtain⟨w,ew,xY⟩:=r.get h2;have hl:=r.length;have hn:=qj;have fin:EP X pins σ Q w s:=⟨z,H,I,xY,q⟩;by_cases h0:0<=i
 . have hj:i.toNat=j:=by rw[seqIndex_of h0 h5]at h1;exact Option.some.inj h1
   exact item_listR pl.isList h0 (by omega) (by rw[hj];simpa using ew) fin hs
 . have hj:(i+(its.toArray.size:Int)).toNat=j:=by rw[seqIndex_neg (by omega) h4]at h1;rw[size_toArray,<-hl];exact Option.some.inj h1
   exact subscriptTail_builtinR (x:=w) pl.isList.typeIs slot_list_getitem.lookup (wpAny_getItem_list_neg (Q:=fun r s'=>r=w/\EP X pins σ Q r s') pl.isList (by omega) (by rw[size_toArray]<;>omega) (by omega) (by rw[hj];simpa using ew) ⟨rfl,fin⟩) hs
theorem RG:Y7 X (adb X.K):=by intro value slice pins s σ H x y v u Q I rx ry h hs;obtain⟨p,xs,i,z,rfl,rfl,hq,he,q⟩:=h;cases rx;obtain⟨t,rfl⟩:=ry;obtain⟨its,r,pl,hz⟩:=I.tuple hq;obtain⟨j,h1,h2,h3,h4,h5⟩:=uJ he;obtain⟨w,ew,xY⟩:=r.get h2;have hl:=r.length;have hn:=qj;have fin:EP X pins σ Q w s:=⟨z,H,I,xY,q⟩;exact subscriptTail_builtinR (x:=w) pl.typeIs slot_tuple_getitem.lookup (getItem_tuple (j:=j) (Q:=fun r s'=>r=w/\EP X pins σ Q r s') pl (by omega) (by omega) (by rw[size_toArray,<-hl];exact h1) (by simpa using ew) ⟨rfl,fin⟩) hs
theorem yQ(its:List Value)(n j:Nat)(u:Value):Obj.mapSeq (·.setIfInBounds j u) {cls:=.type "list",data:=.seq its.toArray n}={cls:=.type "list",data:=.seq (its.set j u).toArray n}:=by simp[Obj.mapSeq]
theorem Inv.lst{pins:List (Addr×Obj)}{σ:St}{H:Hp}{s:Shared}{p:Addr}{xs:List V}(I:Inv X pins σ H s)(h:H p=some (.lst xs)):∃(its:List Value)(n:Nat),Vals xs its/\s.heap.get? p=some {cls:=.type "list",data:=.seq its.toArray n}/\xs.length<=sizeLine:=by obtain⟨z,its,n,r,e⟩:=I.hok p _ h;exact⟨its,n,r,e,z⟩
theorem Inv.RV{pins:List (Addr×Obj)}{σ:St}{H:Hp}{s:Shared}{p:Addr}{xs ys:List V}{its its':List Value}{n n':Nat}{f:Obj->Obj}(I:Inv X pins σ H s)(h:H p=some (.lst xs))(ho:s.heap.get? p=some {cls:=.type "list",data:=.seq its.toArray n})(hf:f {cls:=.type "list",data:=.seq its.toArray n}={cls:=.type "list",data:=.seq its'.toArray n'})(r:Vals ys its')(hz:ys.length<=sizeLine)(t:Nat):Inv X pins σ (upd H p (.lst ys)) {s with heap:=s.heap.update p f,toks:=t}:=by
 have e:(s.heap.update p f).get? p=some {cls:=.type "list",data:=.seq its'.toArray n'}:=by rw[get?_update_self f ho (by rw[hf]<;>rfl),hf]
 refine I.write (x:=p) (e:=p) (by rw[h];trivial) (.inl rfl) (fun b u hb q=>(get?_update_other _ _ (Ne.symm hb)).trans q) ⟨_,e⟩ ?_;exact⟨hz,its',n',r,e⟩
def Wd:V->V->V->Hp->(Hp->Prop)->Prop:=fun o i v H Q=>∃p xs k j,o=.ref p/\i=.int k/\H p=some (.lst xs)/\iD xs.length k=some j/\Q (upd H p (.lst (xs.set j v)))
theorem set_list:Sy X Wd:=by
 intro pins s σ H o i v ov iv u Q I ro ri rv h;obtain⟨p,xs,k,j,rfl,rfl,hp,hj,q⟩:=h;cases ro;obtain⟨t,rfl⟩:=ri;obtain⟨its,n,r,ho,hz⟩:=I.lst hp;obtain⟨h1,h2,h3,h4⟩:=Cj hj;have hl:=r.length;have hn:=qj;have I':Inv X pins σ (upd H p (.lst (xs.set j v))) {s with heap:=s.heap.update p (Obj.mapSeq (·.setIfInBounds j u))}:=I.RV hp ho (yQ its n j u) (r.set rv j) (by rw[length_set];exact hz) s.toks;by_cases h0:0<=k
 . have hk:k.toNat=j:=by rw[seqIndex_of h0 h4]at h1;exact Option.some.inj h1
   exact PySem.W.ki_setAt ho h0 (by omega) (by rw[size_toArray,<-hl];exact h4) (by rw[hk];exact⟨_,I',q⟩)
 . have hk:(k+(its.toArray.size:Int)).toNat=j:=by rw[seqIndex_neg (by omega) h3]at h1;rw[size_toArray,<-hl];exact Option.some.inj h1
   exact PySem.W.ki_setBack ho (by omega) (by rw[size_toArray,<-hl];exact h3) (by omega) (by rw[hk];exact⟨_,I',q⟩)
theorem uQ(lo hi:Option Int)(n:Nat):(sliceBounds lo hi none n).1=((HT.cZ n 0 lo:Nat):Int)/\(sliceBounds lo hi none n).2.1=((HT.cZ n n hi:Nat):Int)/\(sliceBounds lo hi none n).2.2=1:=by
 refine⟨?_,?_,rfl⟩;.cases lo with|none=>simp[sliceBounds,HT.cZ]|some i=>
     simp only[sliceBounds,HT.cZ,getD_none,show(1:Int)>0 by decide,if_true];by_cases h:i<0;.simp only[h,if_true]<;>omega
     .simp only[h,if_false]<;>omega
 .cases hi with|none=>simp[sliceBounds,HT.cZ]|some i=>
     simp only[sliceBounds,HT.cZ,getD_none,show(1:Int)>0 by decide,if_true];by_cases h:i<0;.simp only[h,if_true]<;>omega
     .simp only[h,if_false]<;>omega
theorem rZ(its:List Value)(lo hi:Option Int):slicePick its.toArray lo hi none=((its.drop (HT.cZ its.length 0 lo)).take (HT.cZ its.length its.length hi-HT.cZ its.length 0 lo)).toArray:=by obtain⟨h1,h2,h3⟩:=uQ lo hi its.toArray.size;unfold slicePick;rw[h1,h2,h3];simp only[sliceRange_one,pick_run,size_toArray]<;>rfl
def ab6(K:PySem.W.Frag):V->Option Int->Option Int->Hp->VK->Prop:=fun x lo hi H Q=>∃a xs,x=.ref a/\dF K H a xs/\∀p,H p=none->Q (.ref p) (upd H p (.lst (wR xs lo hi)))
theorem Mf:SlR X (ab6 X.K):=by intro pins s σ H x v vl vu lo hi sl Q I rx hs pl pu h;obtain⟨a,xs,rfl,hx,q⟩:=h;cases rx;obtain⟨its,r,ht,hz⟩:=I.list hx;have hlen:=r.length;refine⟨"list",_,slot_list_getitem.lookup,ht.isList.typeIs,?_⟩;refine wpAny_getItem_list_slice ht.isList hs pl pu .none (by simp) ?_ (by rw[size_toArray]<;>omega);rw[rZ,<-hlen];refine⟨.ref s.heap.objs.size,_,I.laid (t':=s.toks) (o:=.lst (wR xs lo hi)) (fun b ob q=>dw q) (cR) ?_,rfl,q _ (I.hok.fresh (cR))⟩;exact⟨le_trans (oM xs lo hi) hz,_,0,(r.drop (HT.cZ xs.length 0 lo)).take (HT.cZ xs.length xs.length hi-HT.cZ xs.length 0 lo),get?_push_size _ rfl⟩
noncomputable def kO:V->Bool|.non=>true|.bl _=>true|.int _=>true|.str _=>true|_=>false
noncomputable def Mz:V->V->Bool|.non,.non=>true|.bl a,.bl b=>a==b|.bl a,.int b=>(if a then 1 else 0)==b|.int a,.bl b=>a==(if b then 1 else 0)|.int a,.int b=>a==b|.str a,.str b=>a==b|_,_=>false
theorem QK{A:Around}{y:V}{u v:Value}(ry:RelV y u)(rx:RelV x v)(fy:kO y=true)(fx:kO x=true):SeqAt.EqAt A s u v (Mz y x):=by cases y with
 |non=>cases ry;cases x with|non=>cases rx;exact SeqAt.EqAt.same _|bl b=>cases rx;exact none_bool b|int b=>obtain⟨t,rfl⟩:=rx;exact none_int b t|str b=>obtain⟨t,rfl⟩:=rx;exact none_str b t|_=>exact absurd (show false=true from fx) Bool.false_ne_true
 |bl a=>cases ry;cases x with|non=>cases rx;exact bool_none a|bl b=>cases rx;exact bool_bool a b|int b=>obtain⟨t,rfl⟩:=rx;exact bool_int a b t|str b=>obtain⟨t,rfl⟩:=rx;exact bool_str a b t|_=>exact absurd (show false=true from fx) Bool.false_ne_true
 |int a=>obtain⟨t',rfl⟩:=ry;cases x with|non=>cases rx;exact int_none a t'|bl b=>cases rx;exact int_bool a t' b|int b=>obtain⟨t,rfl⟩:=rx;exact int_int a t' b t|str b=>obtain⟨t,rfl⟩:=rx;exact int_str a t' b t|_=>exact absurd (show false=true from fx) Bool.false_ne_true
 |str a=>obtain⟨t',rfl⟩:=ry;cases x with|non=>cases rx;exact str_none a t'|bl b=>cases rx;exact str_bool a t' b|int b=>obtain⟨t,rfl⟩:=rx;exact str_int a t' b t|str b=>obtain⟨t,rfl⟩:=rx;exact str_str a t' b t|_=>exact absurd (show false=true from fx) Bool.false_ne_true
 |_=>exact absurd (show false=true from fy) Bool.false_ne_true
noncomputable def yq(x:V)(u:Value):Bool:=match u with|.none=>Mz .non x|.bool b=>Mz (.bl b) x|.int i _=>Mz (.int i) x|.str z _=>Mz (.str z) x|_=>false
theorem HS{y:V}{u:Value}(r:RelV y u)(f:kO y=true):yq x u=Mz y x:=by cases y with|non=>cases r;rfl|bl b=>cases r;rfl|int i=>obtain⟨t,rfl⟩:=r;rfl|str z=>obtain⟨t,rfl⟩:=r;rfl|_=>exact absurd (show false=true from f) Bool.false_ne_true
theorem lV{x:V}:∀{xs:List V}{us:List Value},Vals xs us->xs.all kO=true->us.any (yq x)=xs.any fun y=>Mz y x|_,_,.nil,_=>rfl|y::xs,u::us,.cons r t,f=>by rw[all_cons,and_eq_true]at f;rw[any_cons,any_cons,HS r f.1,lV t f.2]
theorem jF{A:Around}{s:Shared}{x:V}{v:Value}(rx:RelV x v)(fx:kO x=true):∀{xs:List V}{us:List Value},Vals xs us->xs.all kO=true->∀u∈us,SeqAt.EqAt A s u v (yq x u)
 |_,_,.nil,_=>fun u hu=>by cases hu|y::xs,u::us,.cons r t,f=>fun u' hu=>by
   rw[all_cons,and_eq_true]at f;rcases mem_cons.mp hu with rfl|hu;.rw[HS r f.1];exact QK r rx f.1 fx
   .exact jF rx fx t f.2 u' hu
noncomputable def inV(x:V)(xs:List V):Bool:=xs.any fun y=>Mz y x
def rIn(K:PySem.W.Frag)(neg:Bool):R2:=fun x y H Q=>∃p xs,y=.ref p/\(dF K H p xs\/iT K H p xs)/\kO x=true/\xs.all kO=true/\Q (.bl (if neg then !inV x xs else inV x xs)) H
theorem DP:dC X (compareOp .In) (rIn X.K false):=by
 intro pins s σ H x y v u Q I rx ry h;obtain⟨p,xs,rfl,hq,fx,fs,q⟩:=h;cases ry;rcases hq with hq|hq;.obtain⟨its,r,pl,hz⟩:=I.list hq;refine SeqAt.in_listAt (yq x) pl.isList (fun w hw=>jF rx fx r fs w (by simpa using hw)) ⟨.bl _,H,I,rfl,?_⟩;rw[show its.toArray.any (yq x)=its.any (yq x)by simp,lV r fs];exact q
 .obtain⟨its,r,pl,hz⟩:=I.tuple hq;refine SeqAt.in_tupleAt (yq x) pl (fun w hw=>jF rx fx r fs w (by simpa using hw)) ⟨.bl _,H,I,rfl,?_⟩;rw[show its.toArray.any (yq x)=its.any (yq x)by simp,lV r fs];exact q
theorem uW:dC X (compareOp .NotIn) (rIn X.K true):=by
 intro pins s σ H x y v u Q I rx ry h;obtain⟨p,xs,rfl,hq,fx,fs,q⟩:=h;cases ry;rcases hq with hq|hq;.obtain⟨its,r,pl,hz⟩:=I.list hq;refine SeqAt.notIn_listAt (yq x) pl.isList (fun w hw=>jF rx fx r fs w (by simpa using hw)) ⟨.bl _,H,I,rfl,?_⟩;rw[show its.toArray.any (yq x)=its.any (yq x)by simp,lV r fs];exact q
 .obtain⟨its,r,pl,hz⟩:=I.tuple hq;refine SeqAt.notIn_tupleAt (yq x) pl (fun w hw=>jF rx fx r fs w (by simpa using hw)) ⟨.bl _,H,I,rfl,?_⟩;rw[show its.toArray.any (yq x)=its.any (yq x)by simp,lV r fs];exact q
theorem u9:fL X (.builtin "len") (fun xs H Q=>∃p ys,xs=[.ref p]/\(dF X.K H p ys\/iT X.K H p ys)/\Q (.int ys.length) H):=by
 intro pins s σ H xs us Q I r h;obtain⟨p,ys,rfl,hq,q⟩:=h;obtain⟨u,rfl,rx⟩:=vals1 r;cases rx;have hn:=qj;rcases hq with hq|hq;.obtain⟨its,r',pl,hz⟩:=I.list hq;have hlen:=r'.length;exact Calls.call_len_list pl.isList (by simp only[size_toArray]<;>omega) ⟨.int ys.length,H,I.tok _,⟨s.toks+1,by rw[size_toArray,hlen]⟩,q⟩
 .obtain⟨its,r',pl,hz⟩:=I.tuple hq;have hlen:=r'.length;exact len_tuple pl (by simp only[size_toArray]<;>omega) ⟨.int ys.length,H,I.tok _,⟨s.toks+1,by rw[size_toArray,hlen]⟩,q⟩
theorem uK:fL X (.type "list") (fun xs H Q=>∃p ys,xs=[.ref p]/\(dF X.K H p ys\/iT X.K H p ys)/\∀l,H l=none->Q (.ref l) (upd H l (.lst ys))):=by
 intro pins s σ H xs us Q I r h;obtain⟨p,ys,rfl,hq,q⟩:=h;obtain⟨u,rfl,rx⟩:=vals1 r;cases rx;have fin:∀(its:List Value),Vals ys its->ys.length<=sizeLine->∀(h':Heap)(c':Nat),(∀b o',s.heap.get? b=some o'->h'.get? b=some o')->h'.get? s.heap.objs.size=some {cls:=.type "list",dict:=none,data:=.seq its.toArray c',slots:=#[]}->EP X pins σ Q (.ref s.heap.objs.size) {s with heap:=h'}:=fun its r' hz h' c' kp e=>⟨.ref s.heap.objs.size,_,I.laid (t':=s.toks) kp (cR) (show cj X.prog X.w _ h' _ (.lst ys)from⟨hz,its,c',r',e⟩),rfl,q _ (I.hok.fresh (cR))⟩;rcases hq with hq|hq;.obtain⟨its,r',pl,hz⟩:=I.list hq;have hlen:=r'.length;obtain⟨o,ho,hc,n,hd⟩:=pl.isList;exact call_list_seq p (.inl rfl) ho hc hd (fun h' c' kp e=>fin its r' hz h' c' kp e) (by simp only[size_toArray]<;>omega)
 .obtain⟨its,r',pl,hz⟩:=I.tuple hq;have hlen:=r'.length;obtain⟨o,ho,hc,n,hd⟩:=pl;exact call_list_seq p (.inr rfl) ho hc hd (fun h' c' kp e=>fin its r' hz h' c' kp e) (by simp only[size_toArray]<;>omega)
theorem lg:fL X (.type "tuple") (fun xs H Q=>∃p ys,xs=[.ref p]/\((dF X.K H p ys/\∀l,H l=none->Q (.ref l) (upd H l (.tup ys)))\/(iT X.K H p ys/\Q (.ref p) H))):=by
 intro pins s σ H xs us Q I r h;obtain⟨p,ys,rfl,h⟩:=h;obtain⟨u,rfl,rx⟩:=vals1 r;cases rx;rcases h with⟨hq,q⟩|⟨hq,q⟩;.obtain⟨its,r',pl,hz⟩:=I.list hq;have hlen:=r'.length;refine call_tuple_list pl.isList (fun h' kp=>?_) (by simp only[size_toArray]<;>omega);have I1:Inv X pins σ H {s with heap:=h'}:=I.kept (t':=s.toks) kp;have I2:Inv X pins σ (upd H h'.objs.size (.tup ys)) {s with heap:=h'.push {cls:=.type "tuple",data:=.seq its.toArray}}:=I1.laid (t':=s.toks) (fun b o e=>dw e) (cR) (show cj X.prog X.w _ _ _ (.tup ys)from⟨hz,its,r',IsTup.new _ _⟩);exact⟨.ref h'.objs.size,_,I2,rfl,q _ (I1.hok.fresh (cR))⟩
 .obtain⟨its,r',pl,hz⟩:=I.tuple hq;exact call_tuple_same pl ⟨.ref p,H,I,rfl,q⟩
def tyV(K:PySem.W.Frag)(T:String)(x:V)(H:Hp):Prop:=match x with|.str _=>T="str"|.int _=>T="int"|.ref p=>(T="list"/\∃xs,dF K H p xs)\/(T="tuple"/\∃o,K.lookup p=some o/\o.cls=.type "tuple"/\o.dict=none)\/(T="dict"/\((∃kvs,H p=some (.dK kvs))\/∃kvs,H p=some (.dT kvs)))\/(T="set"/\∃S n,H p=some (.set S n))|_=>False
theorem QG{pins:List (Addr×Obj)}{σ:St}{H:Hp}{T:String}{v:Value}(I:Inv X pins σ H s)(r:RelV x v)(ty:tyV X.K T x H):
 s.TypeIs v T/\∀a,v=.ref a->∃ob,s.heap.get? a=some ob/\ob.dict=none:=by cases x with|str z=>obtain⟨t,rfl⟩:=r;cases(show T="str"from ty);exact⟨typeIs_str s z t,fun _ e=>nomatch e⟩|int i=>obtain⟨t,rfl⟩:=r;cases(show T="int"from ty);exact⟨typeIs_int s i t,fun _ e=>nomatch e⟩|ref p=>
   cases r;rcases ty with⟨rfl,xs,hq⟩|⟨rfl,o,hk,hc,hd⟩|⟨rfl,hk⟩|⟨rfl,S,n,hk⟩;.obtain⟨its,_,pl,_⟩:=I.list hq;refine⟨pl.isList.typeIs,fun a e=>?_⟩;cases e;obtain⟨o,n,e,c,hd,_⟩:=pl;exact⟨o,e,hd⟩
   .refine⟨⟨o,I.Ui p o hk,hc⟩,fun a e=>?_⟩;cases e;exact⟨o,I.Ui _ o hk,hd⟩
   . have z:∃o,s.heap.get? p=some o/\o.ExactDict:=by
      rcases hk with⟨kvs,hk⟩|⟨kvs,hk⟩;.obtain⟨_,_,_,_,o,_,_,e,ex,_⟩:=I.hok p _ hk;exact⟨o,e,ex⟩
      .obtain⟨_,_,_,_,o,_,_,e,ex,_⟩:=I.hok p _ hk;exact⟨o,e,ex⟩
     obtain⟨o,e,ex⟩:=z;refine⟨⟨o,e,ex.1⟩,fun a e2=>?_⟩;cases e2;exact⟨o,e,ex.2.1⟩
   .obtain⟨o,_,_,_,e,ex,_⟩:=I.hok p _ hk;refine⟨⟨o,e,ex.1⟩,fun a e2=>?_⟩;cases e2;exact⟨o,e,ex.2.1⟩|_=>exact False.elim ty
def tBM(K:PySem.W.Frag)(T:String)(r:V->List V->Hp->VK->Prop)(to:TE)(t:TA):TE:=fun σ H Q=>to σ H fun x H1=>tyV K T x H1/\t σ H1 fun xs H2=>r x xs H2 Q
variable{o e:Expr}{es:List Expr}{to:TE}{t:TA}{name:Str}{apos cpos:Pos}{T id:String}{r:V->List V->Hp->VK->Prop}
theorem Oa(pa:PlainAttrs T)(slot:Slot T name id)(hty:typeOf (.builtin id)=pure (.type "method_descriptor"))(hm:MtR X id r)(ho:PE X o to)(ha:PA X (e::es) t)(hbase:attributeBase o name X.env (eval o X.env)=eval o X.env:=by rfl)(hfew:((backTo cpos (starEach (e::es) X.env)).all (fun x=>!x.1)&&(backToKw cpos (keywordEach [] X.env)).all (fun x=>x.1.isSome)&&decide ((e::es).length+([]:List Keyword).length+(if([]:List Keyword).isEmpty then 0 else 1)<30))=true:=by rfl)(hline:(apos.endLine==cpos.line)=true:=by rfl)(hs:starEach (e::es) X.env=(false,eval e X.env)::starEach es X.env:=by rfl)(hplain:(backTo cpos (starEach es X.env)).any (·.1)=false:=by rfl):PE X (.Call (.Attribute o name apos) (e::es) [] cpos) (tBM X.K T r to t):=by intro pins s σ H Q I h;refine wpAny_Call_method_late hbase hfew hline rfl (cz (ho pins s σ H _ I h) fun v s1⟨x,H1,I1,r1,ty,q1⟩=>?_);obtain⟨h1,h2⟩:=QG I1 r1 ty;refine⟨T,id,pa,slot,hty,h1,h2,?_⟩;have hA:=ha cpos pins s1 σ H1 _ I1 q1;rw[hs]at hA ⊢;refine Calls.callWith_builtin (by show(false||(backTo cpos (starEach es X.env)).any (·.1))=false;rw[hplain]<;>rfl) (Calls.evalArgs_plain ?_);exact cz hA fun us s2⟨vs,H2,I2,r2,q2⟩=>hm pins s2 σ H2 x vs v us Q I2 r1 r2 q2
end
def MtM(X:Cx)(id:String)(r:V->List V->Hp->VK->Prop):Prop:=∀(pins:List (Addr × Obj))(s:Shared)(σ:St)(H:Hp)(x:V)(xs:List V)(v:Value)(us:List Value)(Q:VK),Inv X pins σ H s->RelV x v->Vals xs us->r x xs H Q->wpAny (model X.prog X.w) X.A (call (.builtin id) (v::us)) (EP X pins σ Q) X.xe s
theorem Vals.one:∀{x:V}{us:List Value},Vals [x] us->∃u,us=[u]/\RelV x u|x,us,h=>by cases h with|cons r t=>cases t;exact⟨_,rfl,r⟩
theorem Vals.two:∀{x y:V}{us:List Value},Vals [x,y] us->∃u v,us=[u,v]/\RelV x u/\RelV y v|x,y,us,h=>by cases h with|cons r t=>cases t with|cons q z=>cases z;exact⟨_,_,rfl,r,q⟩
theorem Vals.zero:∀{us:List Value},Vals [] us->us=[]|_,.nil=>rfl
theorem Vals.reverse{xs:List V}{us:List Value}(h:Vals xs us):Vals xs.reverse us.reverse:=by induction h with|nil=>exact .nil|cons r t ih=>rw[reverse_cons,reverse_cons];exact Vals.append ih (.cons r .nil)
theorem Vals.rep{xs:List V}{us:List Value}(h:Vals xs us):∀k:Nat,Vals (replicate k xs).flatten (replicate k us).flatten|0=>.nil|k+1=>by rw[replicate_succ,replicate_succ,flatten_cons,flatten_cons];exact Vals.append h (Vals.rep h k)
theorem foldl_rep(its:List Value):∀(k:Nat)(acc:List Value),foldl (fun x1 x2=>x1++x2) acc.toArray (replicate k its.toArray)=(acc++(replicate k its).flatten).toArray
 |0,acc=>by simp|k+1,acc=>by
   have e:acc.toArray++its.toArray=(acc++its).toArray:=by simp
   have e2:(acc++its)++(replicate k its).flatten=acc++(replicate (k+1) its).flatten:=by rw[replicate_succ,flatten_cons,append_assoc]
   rw[<-e2,<-foldl_rep its k (acc++its),<-e,replicate_succ,List.foldl_cons]
section
variable{X:Cx}{pins:List (Addr×Obj)}{σ:St}{H:Hp}{s:Shared}{l b:Addr}{xs ys zs:List V}
theorem Inv.abU{its its':List Value}{f:Array Value->Array Value}{t':Nat}(I:Inv X pins σ H s)(hH:H l=some (.lst xs))(e:s.heap.get? l=some {cls:=.type "list",data:=.seq its.toArray n})(hf:f its.toArray=its'.toArray)(hv:Vals ys its')(hz:ys.length<=sizeLine):Inv X pins σ (upd H l (.lst ys)) {s with heap:=s.heap.update l (Obj.mapSeq f),toks:=t'}:=by have q:=PySem.IsL.update e f;rw[hf]at q;refine I.write (x:=l) (e:=l) (by rw[hH];exact trivial) (.inl rfl) (fun b' u hb hu=>(get?_update_other s.heap (Obj.mapSeq f) (Ne.symm hb)).trans hu) ⟨_,q⟩ ?_;exact⟨hz,its',_,hv,q⟩
theorem Inv.Ro{its:List Value}{t':Nat}(I:Inv X pins σ H s)(hv:Vals ys its)(hz:ys.length<=sizeLine):Inv X pins σ (upd H s.heap.objs.size (.lst ys)) {s with heap:=s.heap.push {cls:=.type "list",data:=.seq its.toArray},toks:=t'}:=I.laid (fun _ _ q=>dw q) (cR) ⟨hz,its,0,hv,get?_push_size _ rfl⟩
theorem Inv.fresh(I:Inv X pins σ H s):H s.heap.objs.size=none:=I.hok.fresh (cR)
theorem Inv.abX(I:Inv X pins σ H s)(hH:H l=some (.lst xs)):xs.length<=sizeLine/\∃(its:List Value)(n:Nat),Vals xs its/\xs.length=its.length/\s.heap.get? l=some {cls:=.type "list",data:=.seq its.toArray n}:=by obtain⟨z,its,n,r,e⟩:=I.hok l _ hH;exact⟨z,its,n,r,r.length,e⟩
theorem Ft(h:n<=sizeLine):listTooLong n=false:=by unfold listTooLong;exact decide_eq_false (by omega)
end
section
variable{X:Cx}
def M4:V->List V->Hp->VK->Prop:=fun x vs H Q=>∃l xs y,x=.ref l/\vs=[y]/\H l=some (.lst xs)/\xs.length<sizeLine/\Q .non (upd H l (.lst (xs++[y])))
theorem nQ:MtM X "list.append" M4:=by intro pins s σ H x vs v us Q I rx rv h;obtain⟨l,xs,y,rfl,rfl,hH,hz,q⟩:=h;cases rx;obtain⟨u,rfl,ru⟩:=rv.one;obtain⟨z,its,n,r,hl,e⟩:=I.abX hH;refine call_meets F.slot_list_append ⟨_,e,rfl⟩ F.entry_list_append (F.args_list_append_2 _ _) (PySem.list_append l its.toArray n u (by rw[size_toArray];omega)) ⟨e,?_⟩;refine⟨.non,_,I.abU (its':=its++[u]) hH e (by simp) (r.append (.cons ru .nil)) ?_,rfl,q⟩;rw[length_append,List.length_singleton];omega
theorem len_rep{α:Type}(xs:List α)(k:Nat):(replicate k xs).flatten.length=k*xs.length:=by induction k with|zero=>simp|succ k ih=>rw[replicate_succ,flatten_cons,length_append,ih,Nat.succ_mul,Nat.add_comm]
end
end L2
namespace Att
open PySem PySem.W PySem.Calls PyProof.Rows
theorem oV{P:Params}{h:Heap}:∀(ns:List Int)(vs:List Value),WellAll P h vs (ns.map WData.int)->IntsAre vs ns:=by intro ns;induction ns with|nil=>intro vs w;rw[map_nil]at w;cases w;exact .nil|cons n ns ih=>intro vs w;rw[map_cons]at w;cases w with|cons a b=>cases a;exact .cons _ _ (ih _ b)
theorem CT{l:OpenLaw}{n:Nat}(hn:l.most=some n){P:Params}{h:Heap}{args:List WData}{vals:List Value}(hpre:l.row.toRowW.claim.pre args=true)(hwl:WellAll P h vals args):∃a vs ns,vals=[Value.ref a]/\args=[WData.list (ns.map WData.int)]/\h.get? a=some {cls:=.type "list",data:=.seq vs.toArray}/\IntsAre vs ns/\ns.length<=n:=by
 have hsh:WShape.hasAll [] args [.list .int]=true:=(pre_splitW hpre).1;have hc:l.pre.holds [] {args:=args}=true:=(pre_splitW hpre).2;obtain⟨d,r,rfl,h1,h2⟩:=hasAllW_cons hsh;obtain rfl:=hasAllW_nil h2;obtain⟨xs,rfl,h3⟩:=hasW_list h1;obtain⟨ns,rfl⟩:=items_int h3;have hlen:ns.length<=n:=by
  unfold OpenLaw.pre at hc;have h4:(WTm.not (.lt (.lit (.int (n:Int))) (.len (.arg 0)))).holds [] {args:=[.list (ns.map .int)]}=true:=by have h4:=(holds_andW hc).1;rw[hn]at h4;exact h4
  have h5:=condW_of h4 (w_not (w_lt w_lit (w_len_list (w_arg rfl))));rw[length_map]at h5;refine Nat.le_of_not_lt fun q=>?_;have q':(n:Int)<((ns.length:Nat):Int):=by omega
  first|(rw[decide_eq_true q']at h5;exact absurd h5 (by decide))|(simp at h5;omega)
 cases hwl with|cons w1 w2=>cases w2;cases w1 with|list ho hall=>exact⟨_,_,ns,rfl,rfl,ho,oV ns _ hall,hlen⟩
theorem Ea(l:OpenLaw)(args:List WData):l.row.toRowW.claim.post args (.bool true) args=true:=postW_of (r:=l.row.toRowW) (X:=(true==true)) (show WShape.has [] (.bool true) .bool=true by first|rfl|decide|simp[WShape.has,WShape.arms,WShape.armsAll]) (show(WTm.eq .res (.lit (.bool true))).value [] {args:=args,res:=some (.bool true),after:=args}=some (.bool (true==true))from w_eq_bool (w_res rfl) w_lit) rfl
theorem xR{l:OpenLaw}{n:Nat}{q:Program}{loose:List Str}{XP:(Str->Option Value)->Heap->Prop}{YP:World->Heap->Prop}{d:DefRec}(hn:l.most=some n)(hdf:d.params.defaults=[])(call:∀(w:World)(s₀ s₁:Shared)(mg mb:Str->Option Value)(fa:Addr)(o:Obj)(pm cd doc:Value)(a:Addr)(vs:List Value)(ns:List Int),Ground q loose [] XP w s₀ mg mb s₁.heap->YP w s₁.heap->s₁.heap.get? fa=some o->o.data=.func (docDef d.name d.params d.body d.scope pm cd doc)->s₁.heap.CodeRec cd d.name->mg d.name=some (.ref fa)->s₁.heap.get? a=some {cls:=.type "list",data:=.seq vs.toArray}->IntsAre vs ns->ns.length<=n->s₁.gens=#[]->codeAny (model l.prog w) callerA (.call (.ref fa) ⟨[.ref a],[]⟩) (fun r s'=>r=.ok (.ret (.bool true))/\OldK s₁.heap s'.heap/\s'.os=s₁.os/\AllBare s'.gens) s₁):WalkO q loose XP YP l.row.toRowW d [] (fun f vs=>PySem.call f vs):=by intro w s₀ s₁ mg mb G Y fa o pm cd doc dV kV ho hd hcd hD hmg hg args vals as hpre hlay hrd hwl hlo;obtain rfl:dV=.none:=Dflts.none hD hdf;obtain rfl:kV=.none:=Dflts.noKw hD;obtain⟨a,vs,ns,rfl,rfl,hobj,hints,hlen⟩:=CT hn hpre hwl;refine enter_call (codeAny_mono (call w s₀ s₁ mg mb fa o pm cd doc a vs ns G Y ho (fd_plain hd) hcd hmg hobj hints hlen hg) fun r s' hq=>?_);obtain⟨rfl,h2,h3,h4⟩:=hq;exact⟨.inl ⟨.bool true,.bool true,[],rfl,fun _=>rfl,.bool true,Ea l _,fun _=>⟨List.Pairwise.nil,fun _ hm=>(nomatch hm)⟩⟩,h2,h3,h4⟩
end Att
namespace L2
open PySem PySem.Spec PyProof.Rows
theorem tR:∀{vs:List Value}{ns:List Int},IntsAre vs ns->Vals (ns.map V.int) vs|_,_,.nil=>.nil|_,_,.cons n t h=>.cons ⟨t,rfl⟩ (tR h)
def Only(H:Hp):Prop:=∀b,H b=none\/∃o xs,H b=some (.cX o (.lst xs))
theorem Ge{P:Program}{w:World}{K:PySem.W.Frag}{mg mb:Str->Option Value}{CX:Fx}{k:Nat}{fa a:Addr}{fd:FuncData}{x:Str}{sp:Sp}{s₁:Shared}{vs:List Value}{ns:List Int}(KX:K.In s₁.heap)(hns:s₁.heap.Ns mainGlobals mg)(hb:s₁.heap.Ns builtinsNs mb)(hbb:∀x:Str,x≠"__name__"->mb x=bootBuiltins x)(hlim:s₁.heap.NoLimit)(hg:s₁.gens=#[])(ha:s₁.heap.get? a=some {cls:=.type "list",data:=.seq vs.toArray})(hi:IntsAre vs ns)(hl:ns.length<=sizeLine)(hr:jH k callerA)(F:∀base:Heap,K.In base->base.Ns mainGlobals mg->nM P w K mg base CX k fa fd [x] sp)(hbind:∀(s:Shared)(u:Value),BindsTo s fd ⟨[u],[]⟩ [(x,u)])(hsp:∀H:Hp,Only H->dF K H a (ns.map V.int)->sp [.ref a] H (fun v _=>v=.bl true) fun _ _ _=>False)(Yx:∀H e s',CX [] H s₁ (fun _ _ _=>False) e s'->False):codeAny (model P w) callerA (.call (.ref fa) ⟨[.ref a],[]⟩) (fun r s'=>r=.ok (.ret (.bool true))/\OldK s₁.heap s'.heap/\s'.os=s₁.os/\AllBare s'.gens) s₁:=by
 have rv:=tR hi;have lenV:=hi.length--from an abstract heap in which nothing but the script may be tracked
 have core:∀H:Hp,Only H->dF K H a (ns.map V.int)->m7 P w H s₁.heap->(∀b,H b≠none->b=a)->(H a≠none->K.lookup a=none)->codeAny (model P w) callerA (.call (.ref fa) ⟨[.ref a],[]⟩) (fun r s'=>r=.ok (.ret (.bool true))/\OldK s₁.heap s'.heap/\s'.os=s₁.os/\AllBare s'.gens) s₁:=by
  intro H hO hS hok hA hK;have Cq:∀{b:Addr}{o:Obj},s₁.heap.get? b=some o->H b=none->(uB s₁.heap H).get? b=some o:=fun e n=>Jo e n;have Yw:∀{b:Addr}{o:Obj}{es:Array DictEntry}{ep:Nat},s₁.heap.get? b=some o->o.data=.dict es ep->H b=none:=fun{b o es ep}e d=>by cases q:H b with|none=>rfl|some u=>have e':b=a:=hA b (by rw[q];simp);subst e';rw[ha]at e;cases e;have d':Data.seq vs.toArray _=Data.dict es ep:=d;cases d'
  have nsK:∀{b:Addr}{m:Str->Option Value},s₁.heap.Ns b m->(uB s₁.heap H).Ns b m:=fun{b m}⟨o,es,ep,e,d,r⟩=>⟨o,es,ep,Cq e (Yw e d),d,r⟩;have hKb:K.In (uB s₁.heap H):=fun b o e=>Cq (KX b o e) (by cases q:H b with|none=>rfl|some u=>have e':b=a:=hA b (by rw[q];simp);subst e';rw[hK (by rw[q];simp)]at e;cases e);have hM:Mod K mg (uB s₁.heap H):=⟨hKb,nsK hns,⟨mb,nsK hb,hbb⟩,let⟨mc,h1,h2⟩:=hlim;⟨mc,nsK h1,h2⟩⟩;have e0:Nt P w K mg (uB s₁.heap H) callerA [] s₁ H:=⟨rfl,hM,fun b o e=>Mp e,Nat.le_of_eq (DQ _ _),trivial,fun b hb=>absurd (show b∈([]:List Addr)from hb) (by simp),hok,.of_eq hg⟩;refine codeAny_mono ((F _ hKb (nsK hns)).run callerA [] s₁ H ⟨[.ref a],[]⟩ [.ref a] [.ref a] _ _ hr e0 (hbind s₁ (.ref a)) (.cons rfl .nil) (hsp H hO hS)) fun r s' h=>?_;cases r with|error e=>exact(Yx H e s' h).elim|ok fl=>cases fl with|next=>exact False.elim h|brk=>exact False.elim h|cont=>exact False.elim h|ret u=>obtain⟨v,H',os,bare,un,hok',r',q⟩:=h;have q':v=.bl true:=q;subst q';obtain rfl:u=Value.bool true:=r';refine⟨rfl,OldK.of_keep fun b o e=>?_,os,bare⟩;cases q:H b with|none=>exact un.keep b o e q (by intro z;exact absurd (show b∈([]:List Addr)from z) (by simp)) (by simp)|some u=>
        rcases hO b with z|⟨ob,xs,z⟩;.rw[q]at z;cases z
        .have z2:=un.vG b ob _ z;obtain⟨e1,_⟩:=hok b _ z;obtain⟨e2,_⟩:=hok' b _ z2;rw[e]at e1;cases e1;exact e2
 cases hk:K.lookup a with|some o=>--the script is one of the module's own objects
   have e:=KX a o hk;rw[ha]at e;cases e;refine core (fun _=>none) (fun _=>.inl rfl) (.inr ⟨_,vs.toArray,_,hk,rfl,rfl,rfl,by rw[size_toArray,lenV];exact hl,by simpa using rv⟩) (fun b u z=>by have z':(none:Option HO)=some u:=z;cases z') (fun b z=>absurd rfl z) fun z=>absurd rfl z|none=>
   refine core (fun b=>if b=a then some (.cX {cls:=.type "list",data:=.seq vs.toArray} (.lst (ns.map V.int)))else none) (fun b=>?_) (.inl (.inr ⟨{cls:=.type "list",data:=.seq vs.toArray},if_pos rfl⟩)) (fun b u z=>?_) (fun b z=>?_) fun _=>hk
   . by_cases hb:b=a;.exact .inr ⟨_,_,if_pos hb⟩
     .exact .inl (if_neg hb)
   . by_cases hb:b=a;.have z':=(if_pos hb).symm.trans z;cases z';subst hb;exact⟨ha,by rw[length_map];exact hl,vs,_,rv,ha⟩
     .have z':=(if_neg hb).symm.trans z;cases z'
   . by_cases hb:b=a;.exact hb
     .exact absurd (if_neg hb) z
theorem Mh{l:PySem.W.OpenLaw}{n k:Nat}{q:Program}{loose:List Str}{XP:(Str->Option Value)->Heap->Prop}{YP:World->Heap->Prop}{d:DefRec}{K:Params->PySem.W.Frag}{CX:World->Fx}{sp:World->Sp}{x:Str}(hn:l.most=some n)(hn2:n<=sizeLine)(hdf:d.params.defaults=[])(hr:jH k callerA)(hY:∀(w:World)(h:Heap),YP w h->(K w.params).In h)(F:∀(w:World)(mg:Str->Option Value)(fa:Addr)(h:Heap),(K w.params).In h->h.Ns mainGlobals mg->mg d.name=some (.ref fa)->∃ fd:FuncData,(∀(s:Shared)(u:Value),BindsTo s fd ⟨[u],[]⟩ [(x,u)])/\∀base:Heap,(K w.params).In base->base.Ns mainGlobals mg->nM l.prog w (K w.params) mg base (CX w) k fa fd [x] (sp w))(hsp:∀(w:World)(H:Hp)(a:Addr)(ns:List Int),ns.length<=n->Only H->dF (K w.params) H a (ns.map V.int)->sp w [.ref a] H (fun v _=>v=.bl true) fun _ _ _=>False)(Yx:∀(w:World)(H:Hp)(s:Shared)(e:Value)(s':Shared),CX w [] H s (fun _ _ _=>False) e s'->False):PySem.W.WalkO q loose XP YP l.row.toRowW d [] (fun f vs=>PySem.call f vs):=by refine Att.xR hn hdf fun w s₀ s₁ mg mb fa o pm cd doc a vs ns G Y ho hd hcd hmg hobj hints hlen hg=>?_;have KX:=hY w _ Y;obtain⟨fd,hb,hF⟩:=F w mg fa _ KX G.T.g hmg;exact Ge KX G.T.g G.T.b G.T.builtins G.T.nolimit hg hobj hints (le_trans hlen hn2) hr hF hb (fun H hO hS=>hsp w H a ns hlen hO hS) fun H e s'=>Yx w H s₁ e s'
theorem Gd{l:PySem.W.OpenLaw}{n k:Nat}{q:Program}{loose:List Str}{XP:(Str->Option Value)->Heap->Prop}{YP:World->Heap->Prop}{d:DefRec}{K:Params->PySem.W.Frag}{CX:Fx}{sp:PySem.W.Frag->Sp}{x:Str}(hn:l.most=some n)(hn2:n<=sizeLine)(hdf:d.params.defaults=[])(hr:jH k callerA)(hY:∀(w:World)(h:Heap),YP w h->(K w.params).In h)(F:∀(w:World)(mg:Str->Option Value)(fa:Addr)(h:Heap),(K w.params).In h->h.Ns mainGlobals mg->mg d.name=some (.ref fa)->∃ fd:FuncData,(∀(s:Shared)(u:Value),BindsTo s fd ⟨[u],[]⟩ [(x,u)])/\∀base:Heap,(K w.params).In base->base.Ns mainGlobals mg->nM l.prog w (K w.params) mg base CX k fa fd [x] (sp (K w.params)))(hsp:∀(K:PySem.W.Frag)(H:Hp)(a:Addr)(ns:List Int),ns.length<=n->Only H->dF K H a (ns.map V.int)->sp K [.ref a] H (fun v _=>v=.bl true) fun _ _ _=>False)(Yx:∀(H:Hp)(s:Shared)(e:Value)(s':Shared),CX [] H s (fun _ _ _=>False) e s'->False):PySem.W.WalkO q loose XP YP l.row.toRowW d [] (fun f vs=>PySem.call f vs):=Mh (K:=K) (CX:=fun _=>CX) (sp:=fun w=>sp (K w.params)) hn hn2 hdf hr hY F (fun w H a ns h1 h2 h3=>hsp (K w.params) H a ns h1 h2 h3) fun _ H s e s'=>Yx H s e s'
end L2
namespace L2
open PySem PySem.Spec PyProof.Rows
noncomputable def iY(s:Stmt):Arguments:=match s with|.FunctionDef _ a _ _ _ _ _ _ _ _=>a|_=>{posonlyargs:=[],args:=[],vararg:=none,kwonlyargs:=[],kw_defaults:=[],kwarg:=none,defaults:=[]}
noncomputable def gj(s:Stmt):List Stmt:=match s with|.FunctionDef _ _ b _ _ _ _ _ _ _=>b|_=>[]
noncomputable def au(s:Stmt):Scope:=match s with|.FunctionDef _ _ _ _ _ _ sc _ _ _=>sc|_=>{kind:=.function,names:=[],isGenerator:=false,isCoroutine:=false}
abbrev Jf:Fx:=fun _ _ _ _ _ _=>False
abbrev E0:XK:=fun _ _ _=>False
theorem Xn{X:Cx}:Passes Jf X E0:=fun _ _ _ _ _ _ _ h=>h.elim
structure eG(K:PySem.W.Frag)(x qual:Str)(st:Stmt)(f:Addr)(fd:FuncData):Prop where
 ex:∃(oc:Value)(od:Option Addr)(kV doc pm:Value)(an:Option Addr)(cdv ct:Value)(osl:Array (Option Value)),fd=PySem.W.fnOf x qual (iY st) (gj st) (au st) .none kV doc pm an cdv ct/\K.lookup f=some ⟨oc,od,.func fd,osl⟩/\PySem.W.codeIn K cdv qual=true
 kp:keepIn K (.ref f)=true
section
variable{P:Program}{w:World}{K:PySem.W.Frag}{mg:Str->Option Value}{base:Heap}
theorem eG.ok{x qual:Str}{st:Stmt}{f:Addr}{fd:FuncData}{N ps:List Str}{k:Nat}{sp:Sp}(F:eG K x qual st f fd)(S:aD N ps (au st))(len:∀vs H Q E,sp vs H Q E->vs.length=ps.length)(hbody:∀(cdv:Value)(A:Around)(outer:List Env)(s:Shared)(H:Hp)(vs:List V)(Q:VK)(E:XK),jH k (A.deeper (envOfC qual (au st) s.heap.objs.size f cdv))->sp vs H Q E->∃t,vZ (yE Jf P w K mg base N qual (au st) f cdv A outer s H E).Xg (gj st) t/\t {nx:=fun _ H'=>Q .non H',rt:=Q} (start N vs) H):nM P w K mg base Jf (k+1) f fd ps sp:=by obtain⟨oc,od,kV,doc,pm,an,cdv,ct,osl,rfl,lk,hcd⟩:=F.ex;refine Wf lk hcd S len fun A outer s H vs Q E hr hsp=>?_;obtain⟨t,h,q⟩:=hbody cdv A outer s H vs Q E hr hsp;exact⟨t,h.Xg,q⟩
theorem eG.binds{x qual:Str}{st:Stmt}{f:Addr}{fd:FuncData}{ps:List Str}(F:eG K x qual st f fd)(h:∀(kV doc pm:Value)(an:Option Addr)(cdv ct:Value)(us:List Value),us.length=ps.length->bindArgs (PySem.W.fnOf x qual (iY st) (gj st) (au st) .none kV doc pm an cdv ct) ⟨us,[]⟩=pure (ps.zip us)):Binds K fd ps []:=by obtain⟨oc,od,kV,doc,pm,an,cdv,ct,osl,rfl,lk,hcd⟩:=F.ex;exact .all (h kV doc pm an cdv ct)
theorem QB{x qual:Str}{st:Stmt}{f:Addr}{oc:Value}{od an:Option Addr}{osl:Array (Option Value)}{kV doc pm cdv ct:Value}(l:K.lookup f=some ⟨oc,od,.func (PySem.W.fnOf x qual (iY st) (gj st) (au st) .none kV doc pm an cdv ct),osl⟩)(c:PySem.W.codeIn K cdv qual=true)(k:keepIn K (.ref f)=true):eG K x qual st f (PySem.W.fnOf x qual (iY st) (gj st) (au st) .none kV doc pm an cdv ct):=⟨⟨oc,od,kV,doc,pm,an,cdv,ct,osl,rfl,l,c⟩,k⟩
end
def aM(H H':Hp):Prop:=∀b o,H b=some o->H' b=some o
theorem aM.refl(H:Hp):aM H H:=fun _ _ h=>h
theorem aM.trans{H H1 H2:Hp}(a:aM H H1)(b:aM H1 H2):aM H H2:=fun c o h=>b c o (a c o h)
theorem aM.seq{K:PySem.W.Frag}{H H':Hp}{a:Addr}{xs:List V}(e:aM H H')(h:dF K H a xs):dF K H' a xs:=by
 rcases h with(h|⟨o,h⟩)|h;.exact .inl (.inl (e _ _ h))
 .exact .inl (.inr ⟨o,e _ _ h⟩)
 .exact .inr h
end L2
end
section
namespace HH
open PySem
inductive Dc where|k(kvs:List (Int×Int))|t(kvs:List (List Int×Int))deriving DecidableEq
inductive D where|non|bl(b:Bool)|int(i:Int)|str(s:Str)|tup(ds:List D)|lst(ds:List D)|dN(m:Dc)|dv(ks:List Int)(ds:List D)deriving Inhabited
mutual
noncomputable def j5:D->D->Bool|.non,.non=>true|.bl a,.bl b=>a==b|.bl a,.int i=>(if a then(1:Int)else 0)==i|.int i,.bl a=>i==(if a then(1:Int)else 0)|.int i,.int j=>i==j|.str a,.str b=>a==b|.tup xs,.tup ys=>iz xs ys|.lst xs,.lst ys=>iz xs ys|.dN a,.dN b=>decide (a=b)|.dv a xs,.dv b ys=>decide (a=b)&&iz xs ys|_,_=>false
noncomputable def iz:List D->List D->Bool|[],[]=>true|x::xs,y::ys=>j5 x y&&iz xs ys|_,_=>false
end
theorem pqi{i j}:j5 (.int i) (.int j)=(i==j):=(rfl)
theorem pqt{x y}:j5 (.tup x) (.tup y)=iz x y:=(rfl)
theorem Zb{x y}:j5 (.lst x) (.lst y)=iz x y:=(rfl)
noncomputable def dI:Nat->D->Bool|_,.non=>true|_,.bl _=>true|_,.int _=>true|_,.str _=>true|0,.tup _=>false|0,.lst _=>false|_,.dN _=>false|_,.dv _ _=>false|n+1,.tup ds=>ds.all (dI n)|n+1,.lst ds=>ds.all (dI n)
inductive Sl where|aV|val(b:Bool)(d:D)|own(b:Bool)(ds:List D)|lent(ds:List D)|um(m:Dc)|hold(rows:List (List D))|dq(kvs:List (Int×D))deriving Inhabited
inductive R where|val(d:D)|own(ds:List D)deriving Inhabited
noncomputable def R.d:R->D|.val d=>d|.own ds=>.lst ds
inductive Res(α:Type)where|ok(a:α)(ρ:List Sl)|exc(k:Nat)(ρ:List Sl)|stuck deriving Inhabited
noncomputable def Res.bind{α β:Type}(f:α->List Sl->Res β):Res α->Res β|.ok a ρ=>f a ρ|.exc _ _=>.stuck|.stuck=>.stuck
noncomputable def lift{α:Type}(o:Option α)(ρ:List Sl):Res α:=match o with|some a=>.ok a ρ|none=>.stuck
inductive Op where|add|sub|mul|fdiv|mod|pow|shl|shr|band|Em|din|aew deriving DecidableEq
inductive Cm where|eq|ne|lt|le|gt|ge|Yy|Eo|inn|rJ|Yz|JV|leT deriving DecidableEq
inductive Ty where|int|bool|str|tuple|list|none deriving DecidableEq
inductive Zu where|len|list|tuple|max2|vH|JX|sum|all|int|Nz|keys|Vw|oE|rvT deriving DecidableEq
inductive P where|var(i:Nat)|con(d:D)|glob(x:Str)(d:D)|bin(o:Op)(a b:P)|neg(a:P)|not(a:P)|and(a b:P)|or(a b:P)|cmp(o:Cm)(a b:P)|chain(o o':Cm)(a b c:P)|Ph(c a b:P)|tup(as:List P)|lst(as:List P)|idx(a i:P)|slice(a lo hi:P)|call(f:Nat)(as:List P)|blt(b:Zu)(as:List P)|comp(src:P)(n:Nat)(is:List Nat)(one:Bool)(test:Option P)(elt:P)|rQ(a b:P)|Vx(a:P)|zip(a b:P)|vw(x:Nat)|Pj(x:Nat)(k:P)|Pk(x:Nat)(k:P)(neg:Bool)|xZ(k e:Int)|yc(i:Nat)(a:P)(n:Nat)(is:List Nat)(one:Bool)(test:Option P)(elt:P)deriving Inhabited
noncomputable abbrev lim:Nat:=16777216
noncomputable def qi:D->D->Option R|.int i,.int j=>some (.val (.int (i+j)))|.lst xs,.lst ys=>if xs.length+ys.length<=lim then some (.own (xs++ys))else none|.tup xs,.tup ys=>if xs.length+ys.length<=lim then some (.val (.tup (xs++ys)))else none|.str x,.str y=>if x.length+y.length<=lim then some (.val (.str (x++y)))else none|_,_=>none
noncomputable def qz:D->D->Option R|.int i,.int j=>if((-18446744073709551616<i/\i<18446744073709551616)\/(-18446744073709551616<j/\j<18446744073709551616))then some (.val (.int (i*j)))else none|.lst xs,.int k=>if 0<=k/\0<xs.length/\xs.length*k.toNat<=lim then some (.own (replicate k.toNat xs).flatten)else none|.tup xs,.int k=>if 0<=k/\0<xs.length/\xs.length*k.toNat<=lim then some (.val (.tup (replicate k.toNat xs).flatten))else none|_,_=>none
noncomputable def wI:D->D->Option R|.int i,.int j=>some (.val (.int (i-j)))|_,_=>none
noncomputable def qF:D->D->Option R|.int i,.int j=>if 0<j/\j<1606938044258990275541962092341162602522202993782792835301376 then some (.val (.int (i/j)))else none|_,_=>none
noncomputable def xj:D->D->Option R|.int i,.int j=>if 0<j then some (.val (.int (i%j)))else none|_,_=>none
noncomputable def wU:D->D->Option R|.int i,.int j=>if 0<=j/\j<=1000/\i.natAbs<18446744073709551616 then some (.val (.int (i^j.toNat)))else none|_,_=>none
noncomputable def v7:D->D->Option R|.int i,.int j=>if 0<=j/\j<=1000/\i.natAbs<18446744073709551616 then some (.val (.int (i*2^j.toNat)))else none|_,_=>none
noncomputable def wX:D->D->Option R|.int i,.int j=>if 0<=j then some (.val (.int (i/2^j.toNat)))else none|_,_=>none
noncomputable def pX:D->D->Option R|.int i,.int j=>some (.val (.int (Builtin.bitAnd i j)))|_,_=>none
noncomputable def flat:D->Bool|.tup _=>false|.lst _=>false|.dN _=>false|.dv _ _=>false|_=>true
noncomputable def items:D->Option (List D)|.lst ds=>some ds|.tup ds=>some ds|_=>none
noncomputable def PL:D->Option (List D)|.tup ds=>some ds|_=>none
noncomputable def Hz(x y:D):Option Bool:=if dI 8 x&&dI 8 y then some (j5 x y)else none
noncomputable def zJ(x y:D):Option Bool:=if dI 8 x&&dI 8 y then some (!j5 x y)else none
noncomputable def J6(f:Int->Int->Bool):D->D->Option Bool|.int i,.int j=>some (f i j)|_,_=>none
noncomputable def iH:D->Bool|.non=>true|_=>false
noncomputable def Ua(neg:Bool)(x:D):D->Option Bool|.non=>some (if neg then !iH x else iH x)|_=>none
noncomputable def oZ(neg:Bool)(x y:D):Option Bool:=(items y).bind fun ys=>if(flat x&&ys.all flat)=true then some (if neg then !(ys.any fun y=>j5 y x)else ys.any fun y=>j5 y x)else none
noncomputable def TY(neg:Bool):D->D->Option Bool|.bl b,.bl true=>some (if neg then !b else b)|_,_=>none
noncomputable def cY:List Int->List Int->Bool|[],_::_=>true|i::is,j::js=>decide (i<j)||(decide (i=j)&&cY is js)|_,[]=>false
noncomputable def iK:D->Int|.int i=>i|_=>0
noncomputable def nP:D->List Int|.int i=>[i]|.tup ds=>ds.map iK|_=>[]
noncomputable def gU:D->Bool|.int _=>true|_=>false
noncomputable def Dc.get:Dc->D->Option (Option Int)|.k kvs,.int i=>some ((kvs.find? fun kv=>decide (kv.1=i)).map (·.2))|_,_=>none
noncomputable def putD{κ:Type}[DecidableEq κ](kvs:List (κ×Int))(k:κ)(v:Int):List (κ×Int):=if(kvs.any fun kv=>decide (kv.1=k))=true then kvs.map (fun kv=>if kv.1=k then(kv.1,v)else kv)else kvs++[(k,v)]
noncomputable def Dc.put:Dc->D->Int->Option Dc|.k kvs,.int i,v=>if kvs.length<lim then some (.k (putD kvs i v))else none|_,_,_=>none
noncomputable def nU(kvs:List (Int×D))(k:Int):Option D:=(kvs.find? fun p=>decide (p.1=k)).map (·.2)
noncomputable def jL(kvs:List (Int×D))(k:Int)(d:D):List (Int×D):=if(kvs.any fun p=>decide (p.1=k))=true then kvs.map (fun p=>if p.1=k then(p.1,d)else p)else kvs++[(k,d)]
noncomputable def xu(neg:Bool):D->D->Option R|.int k,.dv ks _=>some (.val (.bl (if neg then !ks.contains k else ks.contains k)))|_,_=>none
noncomputable def Bb:D->D->Option R|.dN m,k=>(m.get k).bind fun o=>o.map fun v=>.val (.int v)|.dv ks ds,.int k=>(nU (ks.zip ds) k).map .val|_,_=>none
noncomputable def pN:Op->D->D->Option R|.add=>qi|.mul=>qz|.sub=>wI|.fdiv=>qF|.mod=>xj|.pow=>wU|.shl=>v7|.shr=>wX|.band=>pX|.Em=>Bb|.din=>xu false|.aew=>xu true
noncomputable def WY:D->D->Option Bool|.int i,.int j=>some (decide (i<j))|.tup xs,.tup ys=>if(xs.all gU&&ys.all gU)=true then some (cY (xs.map iK) (ys.map iK))else none|_,_=>none
noncomputable def aeh:D->D->Option Bool|.int i,.int j=>some (decide (i<=j))|.tup xs,.tup ys=>if(xs.all gU&&ys.all gU)=true then some (!cY (ys.map iK) (xs.map iK))else none|_,_=>none
noncomputable def cm:Cm->D->D->Option Bool|.eq=>Hz|.ne=>zJ|.lt=>WY|.le=>J6 fun i j=>decide (i<=j)|.leT=>aeh|.gt=>J6 fun i j=>decide (j<i)|.ge=>J6 fun i j=>decide (j<=i)|.Yy=>Ua false|.Eo=>Ua true|.inn=>oZ false|.rJ=>oZ true|.Yz=>TY false|.JV=>TY true
noncomputable def kW(o:Cm)(x y:D):Option R:=(cm o x y).map fun k=>.val (.bl k)
noncomputable def stD(ks:List Int)(k:Int):List Int:=if ks.contains k=true then ks else ks++[k]
noncomputable def iD(n:Nat)(i:Int):Option Nat:=if 0<=i then(if i<n then some i.toNat else none)else if-(n:Int)<=i then some (i+n).toNat else none
noncomputable def at'{α:Type}(xs:List α)(i:Int):Option α:=(iD xs.length i).bind fun j=>xs[j]?
noncomputable def cZ(n d:Nat):Option Int->Nat|none=>d|some i=>if 0<=i then min i.toNat n else(i+n).toNat
noncomputable def cut{α:Type}(xs:List α)(lo hi:Option Int):List α:=(xs.drop (cZ xs.length 0 lo)).take (cZ xs.length xs.length hi-cZ xs.length 0 lo)
noncomputable def iV:D->Option Int|.int i=>some i|_=>none
noncomputable def xP:D->Option Bool|.bl b=>some b|_=>none
noncomputable def DK(x y:D):Option R:=(items x).bind fun ds=>(iV y).bind fun i=>(at' ds i).map .val
noncomputable def Gh(x:D):Option R:=(iV x).map fun i=>.val (.int (-i))
noncomputable def xx:P->Bool|.con .non=>true|_=>false
noncomputable def part(p:P)(d:D):Option (Option Int):=if xx p then some none else(iV d).map some
noncomputable def CJ:D->Option (Option Int)->Option (Option Int)->Option R|.lst xs,some lo,some hi=>some (.own (cut xs lo hi))|.tup xs,some lo,some hi=>some (.val (.tup (cut xs lo hi)))|_,_,_=>none
noncomputable def zy:D->Bool|.tup (x::xs)=>(x::xs).all gU|_=>false
noncomputable def sortable(ds:List D):Bool:=decide (ds.length<=16777216)&&(ds.all gU||ds.all zy)
noncomputable def zH(ds:List D):List D:=ds.mergeSort fun a b=>!cY (nP b) (nP a)
noncomputable def zU:D->Option (List D)|.lst ds=>some ds|_=>none
noncomputable def blt:Zu->List D->Option R|.len,[x]=>(items x).map fun ds=>.val (.int ds.length)|.list,[x]=>(items x).map fun ds=>.own ds|.tuple,[x]=>(items x).map fun ds=>.val (.tup ds)|.max2,[.int i,.int j]=>some (.val (.int (if i<j then j else i)))|.vH,[x]=>((items x).bind fun ds=>ds.mapM iV).bind fun ns=>ns.min?.map fun i=>.val (.int i)|.JX,[x]=>((items x).bind fun ds=>ds.mapM iV).bind fun ns=>ns.max?.map fun i=>.val (.int i)|.sum,[x]=>((items x).bind fun ds=>ds.mapM iV).map fun ns=>.val (.int ns.sum)|.all,[x]=>((zU x).bind fun ds=>ds.mapM xP).map fun bs=>.val (.bl (bs.all id))|.int,[.int i]=>some (.val (.int i))|.int,[.bl b]=>some (.val (.int (if b then 1 else 0)))|.Nz,[.lst ds]=>some (.own ds.reverse)|.keys,[.dN (.k kvs)]=>some (.val (.tup (kvs.map fun p=>.int p.1)))|.keys,[.dv ks _]=>some (.val (.tup (ks.map D.int)))|.Vw,[.dv ks _]=>if ks.length<=16777216 then some (.own (ks.map D.int))else none|.rvT,[.lst ds]=>some (.val (.tup ds.reverse))|.oE,[.dv ks _]=>if ks.length<64 then some (.own (zH (ks.map D.int)))else none|_,_=>none
noncomputable def pk(ρ:List Sl)(i:Nat):Option D:=match ρ[i]?with|some (.val _ d)=>some d|some (.own _ ds)=>some (.lst ds)|some (.lent ds)=>some (.lst ds)|_=>none
noncomputable def Fe(ρ:List Sl)(i:Nat):Option (List D):=match pk ρ i with|some (.lst ds)=>some ds|_=>none
noncomputable abbrev Ev:=List Sl->Res R
noncomputable def isVar:P->Option Nat|.var i=>some i|_=>none
noncomputable def dj(i:Option Nat)(e:Ev)(ρ:List Sl):Res D:=match i with|some i=>lift (pk ρ i) ρ|none=>(e ρ).bind fun r ρ=>.ok r.d ρ
noncomputable def iw(i:Option Nat)(e:Ev)(j:Option Nat)(f:Ev)(ρ:List Sl):Res (D×D):=match i with|some i=>(lift (pk ρ i) ρ).bind fun _ ρ=>(dj j f ρ).bind fun y ρ=>(lift (pk ρ i) ρ).bind fun x ρ=>.ok (x,y) ρ|none=>(dj none e ρ).bind fun x ρ=>(dj j f ρ).bind fun y ρ=>.ok (x,y) ρ
noncomputable def ji(e:Ev)(ρ:List Sl):Res Bool:=(e ρ).bind fun r ρ=>lift (xP r.d) ρ
inductive Arg where|dat(d:D)|tmp(ds:List D)|fM(i:Nat)
noncomputable def xF:R->Arg|.val d=>.dat d|.own ds=>.tmp ds
noncomputable def cC(ρ:List Sl):List Arg->List Nat->Option (List Sl)|[],_=>some []|.dat d::r,used=>(cC ρ r used).map fun s=>.val false d::s|.tmp ds::r,used=>(cC ρ r used).map fun s=>.own false ds::s|.fM i::r,used=>match ρ[i]?with|some (.val _ d)=>(cC ρ r used).map fun s=>.val false d::s|some (.own _ ds)=>if used.contains i then none else(cC ρ r (i::used)).map fun s=>.own true ds::s|some (.lent ds)=>if used.contains i then none else(cC ρ r (i::used)).map fun s=>.lent ds::s|_=>none
noncomputable def bD(i:Nat):List Arg->List Sl->Option Sl|.fM k::as,s::ss=>if k=i then some s else bD i as ss|.dat _::as,_::ss=>bD i as ss|.tmp _::as,_::ss=>bD i as ss|_,_=>none
noncomputable def dZ:Sl->Option Sl->Sl|.own b _,some (.own _ ds)=>.own b ds|.own b _,some (.val _ d)=>.val b d|s,_=>s
noncomputable def dh(as:List Arg)(ss:List Sl):Nat->List Sl->List Sl|_,[]=>[]|i,s::ρ=>dZ s (bD i as ss)::dh as ss (i+1) ρ
noncomputable abbrev Call:=Nat->List Sl->Res R
noncomputable def qu(c:Call)(f:Nat)(as:List Arg)(ρ:List Sl):Res R:=match cC ρ as []with|none=>.stuck|some args=>match c f args with|.ok r args'=>.ok r (dh as args' 0 ρ)|.exc _ _=>.stuck|.stuck=>.stuck
noncomputable def put(ρ:List Sl)(i:Nat)(s:Sl):Option (List Sl):=match ρ[i]?with|some .aV=>some (ρ.set i s)|some (.val false _)=>some (ρ.set i s)|some (.own false _)=>some (ρ.set i s)|_=>none
noncomputable def putAll(ρ:List Sl):List Nat->List D->Option (List Sl)|[],[]=>some ρ|i::is,d::ds=>(put ρ i (.val false d)).bind fun ρ=>putAll ρ is ds|_,_=>none
noncomputable def cH(ρ:List Sl)(is:List Nat)(one:Bool)(d:D):Option (List Sl):=match one,is,d with|true,[i],d=>put ρ i (.val false d)|false,is,.tup ds=>putAll ρ is ds|_,_,_=>none
noncomputable def srcOf(i:Option Nat)(e:Ev)(ρ:List Sl):Res (List D):=match i with
 |some i=>match ρ[i]?with|some (.val _ d)=>lift (items d) ρ|some (.own _ ds)=>.ok ds (ρ.set i (.lent ds))|some (.lent ds)=>.ok ds ρ|_=>.stuck
 |none=>(e ρ).bind fun r ρ=>lift (items r.d) ρ
noncomputable def bz(ρ₀:List Sl)(i:Option Nat)(ρ:List Sl):List Sl:=match i with
 |some i=>match ρ₀[i]?with|some (.own b ds)=>ρ.set i (.own b ds)|_=>ρ
 |none=>ρ
noncomputable def Ik(i:Nat)(f:Ev)(ρ:List Sl):Res (List D×List Sl):=(f ρ).bind fun r ρb=>(lift (items r.d) ρb).bind fun es ρb=>match ρb[i]?with|some (.val _ d)=>(lift (items d) ρb).bind fun ds ρb=>.ok ((es.zip ds).map fun p=>D.tup [p.1,p.2],ρb) ρb|some (.own _ ds)=>.ok ((es.zip ds).map fun p=>D.tup [p.1,p.2],ρb) (ρb.set i (.lent ds))|some (.lent ds)=>.ok ((es.zip ds).map fun p=>D.tup [p.1,p.2],ρb) ρb|_=>.stuck
noncomputable def turns(is:List Nat)(one:Bool)(test:List Sl->Res Bool)(elt:Ev):List D->List D->List Sl->Res (List D)|[],acc,ρ=>.ok acc ρ|d::r,acc,ρ=>match cH ρ is one d with|none=>.stuck|some ρ=>(test ρ).bind fun b ρ=>if b then(elt ρ).bind fun x ρ=>turns is one test elt r (acc++[x.d]) ρ else turns is one test elt r acc ρ
mutual
noncomputable def ev(c:Call):P->List Sl->Res R
 |.var i,ρ=>match ρ[i]?with|some (.val _ d)=>.ok (.val d) ρ|some (.own b ds)=>.ok (.val (.lst ds)) (ρ.set i (.val b (.lst ds)))|some (.um (.k kvs))=>.ok (.val (.dN (.k kvs))) (ρ.set i (.val false (.dN (.k kvs))))|some (.dq kvs)=>.ok (.val (.dv (kvs.map (·.1)) (kvs.map (·.2)))) (ρ.set i (.val false (.dv (kvs.map (·.1)) (kvs.map (·.2)))))|_=>.stuck
 |.con d,ρ=>.ok (.val d) ρ|.glob _ d,ρ=>.ok (.val d) ρ|.bin o a b,ρ=>(iw (isVar a) (ev c a) (isVar b) (ev c b) ρ).bind fun xy ρ=>lift (pN o xy.1 xy.2) ρ|.neg a,ρ=>(dj (isVar a) (ev c a) ρ).bind fun x ρ=>lift (Gh x) ρ|.not a,ρ=>(ji (ev c a) ρ).bind fun b ρ=>.ok (.val (.bl (!b))) ρ|.and a b,ρ=>(ji (ev c a) ρ).bind fun x ρ=>if x then(ji (ev c b) ρ).bind fun y ρ=>.ok (.val (.bl y)) ρ else .ok (.val (.bl false)) ρ|.or a b,ρ=>(ji (ev c a) ρ).bind fun x ρ=>if x then .ok (.val (.bl true)) ρ else(ji (ev c b) ρ).bind fun y ρ=>.ok (.val (.bl y)) ρ|.cmp o a b,ρ=>(iw (isVar a) (ev c a) (isVar b) (ev c b) ρ).bind fun xy ρ=>lift (kW o xy.1 xy.2) ρ|.chain o o' a b d,ρ=>(iw (isVar a) (ev c a) (isVar b) (ev c b) ρ).bind fun xy ρ=>(lift (if flat xy.2=true then cm o xy.1 xy.2 else none) ρ).bind fun k ρ=>if k then(dj (isVar d) (ev c d) ρ).bind fun z ρ=>lift (kW o' xy.2 z) ρ else .ok (.val (.bl false)) ρ|.Ph t a b,ρ=>(ji (ev c t) ρ).bind fun k ρ=>if k then(ev c a ρ).bind fun r ρ=>.ok (.val r.d) ρ else(ev c b ρ).bind fun r ρ=>.ok (.val r.d) ρ|.tup as,ρ=>(evs c as ρ).bind fun ds ρ=>.ok (.val (.tup ds)) ρ|.lst as,ρ=>(evs c as ρ).bind fun ds ρ=>.ok (.own ds) ρ|.idx a i,ρ=>(iw (isVar a) (ev c a) (isVar i) (ev c i) ρ).bind fun xy ρ=>lift (DK xy.1 xy.2) ρ|.slice a l h,ρ=>match isVar a with|some i=>(lift (pk ρ i) ρ).bind fun _ ρ=>(dj (isVar l) (ev c l) ρ).bind fun y ρ=>(dj (isVar h) (ev c h) ρ).bind fun z ρ=>(lift (pk ρ i) ρ).bind fun x ρ=>lift (CJ x (part l y) (part h z)) ρ|none=>(dj none (ev c a) ρ).bind fun x ρ=>(dj (isVar l) (ev c l) ρ).bind fun y ρ=>(dj (isVar h) (ev c h) ρ).bind fun z ρ=>lift (CJ x (part l y) (part h z)) ρ
 |.call f as,ρ=>(yo c as ρ).bind fun xs ρ=>qu c f xs ρ|.blt b [a],ρ=>(dj (isVar a) (ev c a) ρ).bind fun x ρ=>lift (blt b [x]) ρ|.blt b as,ρ=>(evs c as ρ).bind fun ds ρ=>lift (blt b ds) ρ|.comp src n is one test elt,ρ=>(srcOf (isVar src) (ev c src) ρ).bind fun ds ρ₁=>if ds.length<=lim then(turns is one (kI c test) (ev c elt) ds [] (ρ₁++replicate n .aV)).bind fun xs ρ₂=>.ok (.own xs) (bz ρ (isVar src) (ρ₂.take ρ₁.length))else .stuck|.rQ a b,ρ=>(iw (isVar a) (ev c a) (isVar b) (ev c b) ρ).bind fun xy ρ=>lift ((iV xy.1).bind fun i=>(iV xy.2).bind fun j=>if-1000000<=i/\i<=1000000000/\j<=1000000000/\-1000000000<=j then some (.val (.lst ((List.range (j-i).toNat).map fun(k:Nat)=>D.int (i+(k:Int)))))else none) ρ|.Vx a,ρ=>(ev c a ρ).bind fun r ρ=>lift ((items r.d).map fun ds=>.val (.lst (ds.mapIdx fun i d=>D.tup [.int (i:Int),d]))) ρ|.zip a b,ρ=>(ev c a ρ).bind fun x ρ=>(ev c b ρ).bind fun y ρ=>lift ((items x.d).bind fun ds=>(items y.d).map fun es=>.val (.lst ((ds.zip es).map fun p=>D.tup [p.1,p.2]))) ρ|.vw x,ρ=>match ρ[x]?with|some (.um m)=>.ok (.val (.dN m)) (ρ.set x (.val false (.dN m)))|some (.dq kvs)=>.ok (.val (.dv (kvs.map (·.1)) (kvs.map (·.2)))) (ρ.set x (.val false (.dv (kvs.map (·.1)) (kvs.map (·.2)))))|_=>.stuck
 |.Pj x k,ρ=>match ρ[x]?with
   |some (.dq _)=>(dj (isVar k) (ev c k) ρ).bind fun kd ρ=>match ρ[x]?with|some (.dq kvs)=>lift ((iV kd).bind fun k=>(nU kvs k).map .val) ρ|_=>.stuck
   |_=>.stuck
 |.Pk x k neg,ρ=>(dj (isVar k) (ev c k) ρ).bind fun kd ρ=>match ρ[x]?with|some (.dq kvs)=>lift ((iV kd).map fun k=>.val (.bl (if neg then !(kvs.map (·.1)).contains k else(kvs.map (·.1)).contains k))) ρ|_=>.stuck
 |.xZ k e,ρ=>.ok (.val (.dv [k] [.int e])) ρ|.yc i a n is one test elt,ρ=>(Ik i (ev c a) ρ).bind fun du ρ₁=>if du.1.length<=lim then(turns is one (kI c test) (ev c elt) du.1 [] (ρ₁++replicate n .aV)).bind fun xs ρ₂=>.ok (.own xs) (bz du.2 (some i) (ρ₂.take ρ₁.length))else .stuck
noncomputable def evs(c:Call):List P->List Sl->Res (List D)|[],ρ=>.ok [] ρ|a::r,ρ=>(ev c a ρ).bind fun x ρ=>(evs c r ρ).bind fun xs ρ=>.ok (x.d::xs) ρ
noncomputable def yo(c:Call):List P->List Sl->Res (List Arg)|[],ρ=>.ok [] ρ|a::r,ρ=>match isVar a with|some i=>(lift (pk ρ i) ρ).bind fun _ ρ=>(yo c r ρ).bind fun xs ρ=>.ok (.fM i::xs) ρ|none=>(ev c a ρ).bind fun x ρ=>(yo c r ρ).bind fun xs ρ=>.ok (xF x::xs) ρ
noncomputable def kI(c:Call):Option P->List Sl->Res Bool|none,ρ=>.ok true ρ|some t,ρ=>ji (ev c t) ρ
end
theorem E1{c i ρ}:ev c (.var i) ρ=match ρ[i]?with|some (.val _ d)=>.ok (.val d) ρ|some (.own b ds)=>.ok (.val (.lst ds)) (ρ.set i (.val b (.lst ds)))|some (.um (.k kvs))=>.ok (.val (.dN (.k kvs))) (ρ.set i (.val false (.dN (.k kvs))))|some (.dq kvs)=>.ok (.val (.dv (kvs.map (·.1)) (kvs.map (·.2)))) (ρ.set i (.val false (.dv (kvs.map (·.1)) (kvs.map (·.2)))))|_=>.stuck:=(rfl)
theorem E2{c d ρ}:ev c (.con d) ρ=.ok (.val d) ρ:=(rfl)
theorem E3{c w1 d ρ}:ev c (.glob w1 d) ρ=.ok (.val d) ρ:=(rfl)
theorem E4{c o a b ρ}:ev c (.bin o a b) ρ=(iw (isVar a) (ev c a) (isVar b) (ev c b) ρ).bind fun xy ρ=>lift (pN o xy.1 xy.2) ρ:=(rfl)
theorem E5{c a ρ}:ev c (.neg a) ρ=(dj (isVar a) (ev c a) ρ).bind fun x ρ=>lift (Gh x) ρ:=(rfl)
theorem E6{c a ρ}:ev c (.not a) ρ=(ji (ev c a) ρ).bind fun b ρ=>.ok (.val (.bl (!b))) ρ:=(rfl)
theorem E7{c a b ρ}:ev c (.and a b) ρ=(ji (ev c a) ρ).bind fun x ρ=>if x then(ji (ev c b) ρ).bind fun y ρ=>.ok (.val (.bl y)) ρ else .ok (.val (.bl false)) ρ:=(rfl)
theorem E8{c a b ρ}:ev c (.or a b) ρ=(ji (ev c a) ρ).bind fun x ρ=>if x then .ok (.val (.bl true)) ρ else(ji (ev c b) ρ).bind fun y ρ=>.ok (.val (.bl y)) ρ:=(rfl)
theorem E9{c o a b ρ}:ev c (.cmp o a b) ρ=(iw (isVar a) (ev c a) (isVar b) (ev c b) ρ).bind fun xy ρ=>lift (kW o xy.1 xy.2) ρ:=(rfl)
theorem E10{c o o' a b d ρ}:ev c (.chain o o' a b d) ρ=(iw (isVar a) (ev c a) (isVar b) (ev c b) ρ).bind fun xy ρ=>(lift (if flat xy.2=true then cm o xy.1 xy.2 else none) ρ).bind fun k ρ=>if k then(dj (isVar d) (ev c d) ρ).bind fun z ρ=>lift (kW o' xy.2 z) ρ else .ok (.val (.bl false)) ρ:=(rfl)
theorem E11{c t a b ρ}:ev c (.Ph t a b) ρ=(ji (ev c t) ρ).bind fun k ρ=>if k then(ev c a ρ).bind fun r ρ=>.ok (.val r.d) ρ else(ev c b ρ).bind fun r ρ=>.ok (.val r.d) ρ:=(rfl)
theorem E12{c as ρ}:ev c (.tup as) ρ=(evs c as ρ).bind fun ds ρ=>.ok (.val (.tup ds)) ρ:=(rfl)
theorem E13{c as ρ}:ev c (.lst as) ρ=(evs c as ρ).bind fun ds ρ=>.ok (.own ds) ρ:=(rfl)
theorem E14{c a i ρ}:ev c (.idx a i) ρ=(iw (isVar a) (ev c a) (isVar i) (ev c i) ρ).bind fun xy ρ=>lift (DK xy.1 xy.2) ρ:=(rfl)
theorem E15{c a l h ρ}:ev c (.slice a l h) ρ=match isVar a with|some i=>(lift (pk ρ i) ρ).bind fun _ ρ=>(dj (isVar l) (ev c l) ρ).bind fun y ρ=>(dj (isVar h) (ev c h) ρ).bind fun z ρ=>(lift (pk ρ i) ρ).bind fun x ρ=>lift (CJ x (part l y) (part h z)) ρ|none=>(dj none (ev c a) ρ).bind fun x ρ=>(dj (isVar l) (ev c l) ρ).bind fun y ρ=>(dj (isVar h) (ev c h) ρ).bind fun z ρ=>lift (CJ x (part l y) (part h z)) ρ:=(rfl)
theorem E16{c f as ρ}:ev c (.call f as) ρ=(yo c as ρ).bind fun xs ρ=>qu c f xs ρ:=(rfl)
theorem E17{c b a ρ}:ev c (.blt b [a]) ρ=(dj (isVar a) (ev c a) ρ).bind fun x ρ=>lift (blt b [x]) ρ:=(rfl)
theorem E18{c b x y r ρ}:ev c (.blt b (x::y::r)) ρ=(evs c (x::y::r) ρ).bind fun ds ρ=>lift (blt b ds) ρ:=(rfl)
theorem V6{c b ρ}:ev c (.blt b []) ρ=(evs c [] ρ).bind fun ds ρ=>lift (blt b ds) ρ:=(rfl)
theorem E19{c src n is one test elt ρ}:ev c (.comp src n is one test elt) ρ=(srcOf (isVar src) (ev c src) ρ).bind fun ds ρ₁=>if ds.length<=lim then(turns is one (kI c test) (ev c elt) ds [] (ρ₁++replicate n .aV)).bind fun xs ρ₂=>.ok (.own xs) (bz ρ (isVar src) (ρ₂.take ρ₁.length))else .stuck:=(rfl)
theorem E20{c a b ρ}:ev c (.rQ a b) ρ=(iw (isVar a) (ev c a) (isVar b) (ev c b) ρ).bind fun xy ρ=>lift ((iV xy.1).bind fun i=>(iV xy.2).bind fun j=>if-1000000<=i/\i<=1000000000/\j<=1000000000/\-1000000000<=j then some (.val (.lst ((List.range (j-i).toNat).map fun(k:Nat)=>D.int (i+(k:Int)))))else none) ρ:=(rfl)
theorem E21{c a ρ}:ev c (.Vx a) ρ=(ev c a ρ).bind fun r ρ=>lift ((items r.d).map fun ds=>.val (.lst (ds.mapIdx fun i d=>D.tup [.int (i:Int),d]))) ρ:=(rfl)
theorem E22{c a b ρ}:ev c (.zip a b) ρ=(ev c a ρ).bind fun x ρ=>(ev c b ρ).bind fun y ρ=>lift ((items x.d).bind fun ds=>(items y.d).map fun es=>.val (.lst ((ds.zip es).map fun p=>D.tup [p.1,p.2]))) ρ:=(rfl)
theorem E23{c x ρ}:ev c (.vw x) ρ=match ρ[x]?with|some (.um m)=>.ok (.val (.dN m)) (ρ.set x (.val false (.dN m)))|some (.dq kvs)=>.ok (.val (.dv (kvs.map (·.1)) (kvs.map (·.2)))) (ρ.set x (.val false (.dv (kvs.map (·.1)) (kvs.map (·.2)))))|_=>.stuck:=(rfl)
theorem E24{c x k ρ}:ev c (.Pj x k) ρ=match ρ[x]?with
 |some (.dq _)=>(dj (isVar k) (ev c k) ρ).bind fun kd ρ=>match ρ[x]?with|some (.dq kvs)=>lift ((iV kd).bind fun k=>(nU kvs k).map .val) ρ|_=>.stuck
 |_=>.stuck:=(rfl)
theorem E25{c x k neg ρ}:ev c (.Pk x k neg) ρ=(dj (isVar k) (ev c k) ρ).bind fun kd ρ=>match ρ[x]?with|some (.dq kvs)=>lift ((iV kd).map fun k=>.val (.bl (if neg then !(kvs.map (·.1)).contains k else(kvs.map (·.1)).contains k))) ρ|_=>.stuck:=(rfl)
theorem E26{c k e ρ}:ev c (.xZ k e) ρ=.ok (.val (.dv [k] [.int e])) ρ:=(rfl)
theorem E27{c i a n is one test elt ρ}:ev c (.yc i a n is one test elt) ρ=(Ik i (ev c a) ρ).bind fun du ρ₁=>if du.1.length<=lim then(turns is one (kI c test) (ev c elt) du.1 [] (ρ₁++replicate n .aV)).bind fun xs ρ₂=>.ok (.own xs) (bz du.2 (some i) (ρ₂.take ρ₁.length))else .stuck:=(rfl)
inductive S where|pass|brk|cont|bad|expr(e:P)|asg(i:Nat)(e:P)|par(i j:Nat)(a b:P)|unp(i:List Nat)(e:P)|sy(x:Nat)(i e:P)|app(x:Nat)(e:P)|ret(e:P)|YB|ifs(c:P)(a b:List S)|gV(src:P)(i:List Nat)(one:Bool)(body:List S)|whl(c:P)(body:List S)|aug(x:Nat)(sub:Bool)(e:P)|Ep(x:Nat)(i:P)(sub:Bool)(e:P)|JZ(x:Nat)(src:P)(k:Nat)(is:List Nat)(one:Bool)(elt:P)|J0(x:Nat)(i e:P)|Er(src:P)(is:List Nat)(one:Bool)(body:List S)|cX(x:Nat)|Es(x:Nat)|jL(x:Nat)(k e:P)deriving Inhabited
inductive Fl where|next|brk|cont|ret(r:R)deriving Inhabited
noncomputable def zj:R->Sl|.val d=>.val false d|.own ds=>.own false ds
noncomputable def iG(is:List Nat)(one:Bool)(body:List Sl->Res Fl):List D->List Sl->Res Fl|[],ρ=>.ok .next ρ|d::r,ρ=>match cH ρ is one d with|none=>.stuck|some ρ=>(body ρ).bind fun fl ρ=>match fl with|.next=>iG is one body r ρ|.cont=>iG is one body r ρ|.brk=>.ok .next ρ|.ret r=>.ok (.ret r) ρ
noncomputable def rT(test:List Sl->Res Bool)(body:List Sl->Res Fl):Nat->List Sl->Res Fl|0,_=>.stuck|n+1,ρ=>(test ρ).bind fun b ρ=>if b then(body ρ).bind fun fl ρ=>match fl with|.next=>rT test body n ρ|.cont=>rT test body n ρ|.brk=>.ok .next ρ|.ret r=>.ok (.ret r) ρ else .ok .next ρ
noncomputable def fV(is:List Nat)(one:Bool)(elt:Ev):List D->List (List D)->List Sl->Res (List (List D))|[],acc,ρ=>.ok acc ρ|d::r,acc,ρ=>match cH ρ is one d with|none=>.stuck|some ρ=>(elt ρ).bind fun x ρ=>match x with|.own ds=>fV is one elt r (acc++[ds]) ρ|.val _=>.stuck
noncomputable def rowAt(rows:List (List D))(k:Int):Option (List D):=(iD rows.length k).bind fun r=>rows[r]?
noncomputable def jD(rows:List (List D))(k:Int)(f:List D->Option (List D)):Option (List (List D)):=(iD rows.length k).bind fun r=>(rows[r]?).bind fun row=>(f row).map fun km=>rows.set r km
noncomputable def setAt(l:Int)(d:D)(row:List D):Option (List D):=(iD row.length l).map fun m=>row.set m d
noncomputable def jr(ρ:List Sl)(x:Nat):Option (List (List D)):=match ρ[x]?with|some (.hold rows)=>some rows|_=>none
noncomputable def uR(ρ:List Sl)(x:Nat)(k:D):Option (List D):=(jr ρ x).bind fun rows=>(iV k).bind fun k=>rowAt rows k
noncomputable def uP(ρ:List Sl)(x:Nat)(o:Option (List (List D))):Res Fl:=match o with|some rows=>.ok .next (ρ.set x (.hold rows))|none=>.stuck
noncomputable def rowOne(x r:Nat)(ej ek el:List Sl->Res D)(ρ:List Sl):Res Fl:=(ek ρ).bind fun k ρ=>(lift ((jr ρ x).bind fun rows=>(rows[r]?).bind fun row=>(iV k).bind fun k=>(at' row k).bind iV) ρ).bind fun u ρ=>(el ρ).bind fun l ρ=>(lift ((jr ρ x).bind fun rows=>(rows[r]?).bind fun row=>(iV l).bind fun l=>(at' row l).bind iV) ρ).bind fun v ρ=>(ej ρ).bind fun j ρ=>uP ρ x ((jr ρ x).bind fun rows=>(rows[r]?).bind fun row=>(iV j).bind fun j=>(setAt j (.int (u+v)) row).map fun km=>rows.set r km)
noncomputable def QL(x y:Nat)(ej ek el:List Sl->Res D):Nat->Nat->List Sl->Res Fl|0,_,ρ=>.ok .next ρ|m+1,r,ρ=>(lift (put ρ y .aV) ρ).bind fun ρ _=>(rowOne x r ej ek el ρ).bind fun _ ρ=>QL x y ej ek el m (r+1) ρ
noncomputable def Rj(is:List Nat)(one:Bool)(body:List Sl->Res Fl)(bx:List Sl->Option (Nat×List Sl)):List D->List Sl->Option (Nat×List Sl)|[],_=>none|d::r,ρ=>match cH ρ is one d with|none=>none|some ρ=>match bx ρ with|some x=>some x|none=>match body ρ with|.ok .next ρ1=>Rj is one body bx r ρ1|.ok .cont ρ1=>Rj is one body bx r ρ1|_=>none
noncomputable def QW:P->P|.idx a _=>a|e=>e
noncomputable def O1(c:Call)(e:P)(ρ:List Sl):Option (Nat×List Sl):=match QW e with
 |.call f as=>match yo c as ρ with
   |.ok xs ρ1=>match cC ρ1 xs []with
     |some args=>match c f args with|.exc k args'=>some (k,dh xs args' 0 ρ1)|_=>none
     |none=>none
   |_=>none
 |_=>none
mutual
noncomputable def ex(c:Call)(n:Nat):S->List Sl->Res Fl
 |.pass,ρ=>.ok .next ρ|.brk,ρ=>.ok .brk ρ|.cont,ρ=>.ok .cont ρ|.bad,_=>.stuck|.expr e,ρ=>(ev c e ρ).bind fun _ ρ=>.ok .next ρ|.asg i e,ρ=>(ev c e ρ).bind fun r ρ=>(lift (put ρ i (zj r)) ρ).bind fun ρ' _=>.ok .next ρ'|.par i j a b,ρ=>(ev c a ρ).bind fun x ρ=>(ev c b ρ).bind fun y ρ=>(lift ((put ρ i (.val false x.d)).bind fun ρ=>put ρ j (.val false y.d)) ρ).bind fun ρ' _=>.ok .next ρ'|.unp is e,ρ=>(ev c e ρ).bind fun r ρ=>match r.d with|.tup ds=>(lift (putAll ρ is ds) ρ).bind fun ρ' _=>.ok .next ρ'|_=>.stuck
 |.sy x i e,ρ=>(ev c e ρ).bind fun r ρ=>(lift (pk ρ x) ρ).bind fun _ ρ=>(dj (isVar i) (ev c i) ρ).bind fun k ρ=>match ρ[x]?,k with
   |some (.own b ds),.int k=>match iD ds.length k with|some j=>.ok .next (ρ.set x (.own b (ds.set j r.d)))|none=>.stuck
   |_,_=>.stuck
 |.app x e,ρ=>(lift (Fe ρ x) ρ).bind fun _ ρ=>(ev c e ρ).bind fun r ρ=>match ρ[x]?with|some (.own b ds)=>if ds.length<lim then .ok .next (ρ.set x (.own b (ds++[r.d])))else .stuck|_=>.stuck
 |.ret e,ρ=>match isVar e with
   |some i=>match ρ[i]?with|some (.own false ds)=>.ok (.ret (.own ds)) (ρ.set i .aV)|_=>(ev c e ρ).bind fun r ρ=>.ok (.ret r) ρ
   |none=>(ev c e ρ).bind fun r ρ=>.ok (.ret r) ρ
 |.YB,ρ=>.ok (.ret (.val .non)) ρ|.ifs t a b,ρ=>(ji (ev c t) ρ).bind fun k ρ=>if k then gB c n a ρ else gB c n b ρ|.gV src is one body,ρ=>(srcOf (isVar src) (ev c src) ρ).bind fun ds ρ₁=>(iG is one (gB c n body) ds ρ₁).bind fun fl ρ₂=>.ok fl (bz ρ (isVar src) ρ₂)|.whl t body,ρ=>rT (ji (ev c t)) (gB c n body) n ρ|.aug x sub e,ρ=>(lift (pk ρ x) ρ).bind fun a ρ=>(dj (isVar e) (ev c e) ρ).bind fun b ρ=>match a,b with|.int i,.int j=>(lift (put ρ x (.val false (.int (if sub then i-j else i+j)))) ρ).bind fun ρ' _=>.ok .next ρ'|_,_=>.stuck
 |.Ep x i sub e,ρ=>(lift (Fe ρ x) ρ).bind fun _ ρ=>(dj (isVar i) (ev c i) ρ).bind fun k ρ=>(lift (Fe ρ x) ρ).bind fun l ρ=>(lift ((iV k).bind fun i=>at' l i) ρ).bind fun a ρ=>(dj (isVar e) (ev c e) ρ).bind fun b ρ=>match a,b,ρ[x]?,k with
   |.int u,.int v,some (.own bb ds),.int k=>match iD ds.length k with|some j=>.ok .next (ρ.set x (.own bb (ds.set j (.int (if sub then u-v else u+v)))))|none=>.stuck
   |_,_,_,_=>.stuck
 |.JZ x src k is one elt,ρ=>(srcOf (isVar src) (ev c src) ρ).bind fun ds ρ₁=>if ds.length<=lim then(fV is one (ev c elt) ds [] (ρ₁++replicate k .aV)).bind fun rows ρ₂=>(lift (put (bz ρ (isVar src) (ρ₂.take ρ₁.length)) x (.hold rows)) ρ).bind fun ρ' _=>.ok .next ρ' else .stuck|.J0 x i e,ρ=>(dj (isVar i) (ev c i) ρ).bind fun k ρ=>(lift (uR ρ x k) ρ).bind fun _ ρ=>(ev c e ρ).bind fun r ρ=>uP ρ x ((jr ρ x).bind fun rows=>(iV k).bind fun k=>jD rows k fun row=>if row.length<lim then some (row++[r.d])else none)|.Er src is one body,ρ=>(ev c src ρ).bind fun r ρ₁=>(lift (items r.d) ρ₁).bind fun ds ρ₁=>iG is one (gB c n body) ds ρ₁|.cX x,ρ=>match ρ[x]?with|some (.hold rows)=>.ok .next (ρ.set x (.val false (.lst (rows.map D.lst))))|_=>.stuck
 |.Es x,ρ=>match ρ[x]?with|some .aV=>.ok .next (ρ.set x (.dq []))|some (.dq _)=>.ok .next (ρ.set x (.dq []))|some (.val false _)=>.ok .next (ρ.set x (.dq []))|_=>.stuck
 |.jL x k e,ρ=>(ev c e ρ).bind fun r ρ=>match ρ[x]?with
   |some (.dq _)=>(dj (isVar k) (ev c k) ρ).bind fun kd ρ=>match ρ[x]?,kd with|some (.dq kvs),.int k=>if kvs.length<lim then .ok .next (ρ.set x (.dq (jL kvs k r.d)))else .stuck|_,_=>.stuck
   |_=>.stuck
noncomputable def gB(c:Call)(n:Nat):List S->List Sl->Res Fl|[],ρ=>.ok .next ρ|s::r,ρ=>(ex c n s ρ).bind fun fl ρ=>match fl with|.next=>gB c n r ρ|fl=>.ok fl ρ
noncomputable def exX(c:Call)(n:Nat):S->List Sl->Option (Nat×List Sl)
 |.ifs t a b,ρ=>match ji (ev c t) ρ with|.ok x ρ1=>if x then Fg c n a ρ1 else Fg c n b ρ1|_=>none
 |.gV src is one body,ρ=>match srcOf (isVar src) (ev c src) ρ with|.ok ds ρ1=>(Rj is one (gB c n body) (Fg c n body) ds ρ1).map fun x=>(x.1,bz ρ (isVar src) x.2)|_=>none
 |.asg _ e,ρ=>O1 c e ρ|.expr e,ρ=>O1 c e ρ|_,_=>none
noncomputable def Fg(c:Call)(n:Nat):List S->List Sl->Option (Nat×List Sl)|[],_=>none|s::r,ρ=>match exX c n s ρ with|some x=>some x|none=>match ex c n s ρ with|.ok .next ρ1=>Fg c n r ρ1|_=>none
end
theorem X1{c n ρ}:ex c n (.pass) ρ=.ok .next ρ:=(rfl)
theorem X2{c n ρ}:ex c n (.brk) ρ=.ok .brk ρ:=(rfl)
theorem X3{c n ρ}:ex c n (.cont) ρ=.ok .cont ρ:=(rfl)
theorem X4{c n ρ}:ex c n (.bad) ρ=.stuck:=(rfl)
theorem X5{c n e ρ}:ex c n (.expr e) ρ=(ev c e ρ).bind fun _ ρ=>.ok .next ρ:=(rfl)
theorem X6{c n i e ρ}:ex c n (.asg i e) ρ=(ev c e ρ).bind fun r ρ=>(lift (put ρ i (zj r)) ρ).bind fun ρ' _=>.ok .next ρ':=(rfl)
theorem X7{c n i j a b ρ}:ex c n (.par i j a b) ρ=(ev c a ρ).bind fun x ρ=>(ev c b ρ).bind fun y ρ=>(lift ((put ρ i (.val false x.d)).bind fun ρ=>put ρ j (.val false y.d)) ρ).bind fun ρ' _=>.ok .next ρ':=(rfl)
theorem X8{c n is e ρ}:ex c n (.unp is e) ρ=(ev c e ρ).bind fun r ρ=>match r.d with|.tup ds=>(lift (putAll ρ is ds) ρ).bind fun ρ' _=>.ok .next ρ'|_=>.stuck:=(rfl)
theorem X9{c n x i e ρ}:ex c n (.sy x i e) ρ=(ev c e ρ).bind fun r ρ=>(lift (pk ρ x) ρ).bind fun _ ρ=>(dj (isVar i) (ev c i) ρ).bind fun k ρ=>match ρ[x]?,k with
 |some (.own b ds),.int k=>match iD ds.length k with|some j=>.ok .next (ρ.set x (.own b (ds.set j r.d)))|none=>.stuck
 |_,_=>.stuck:=(rfl)
theorem X10{c n x e ρ}:ex c n (.app x e) ρ=(lift (Fe ρ x) ρ).bind fun _ ρ=>(ev c e ρ).bind fun r ρ=>match ρ[x]?with|some (.own b ds)=>if ds.length<lim then .ok .next (ρ.set x (.own b (ds++[r.d])))else .stuck|_=>.stuck:=(rfl)
theorem Y8{c n e ρ}:ex c n (.ret e) ρ=match isVar e with
 |some i=>match ρ[i]?with|some (.own false ds)=>.ok (.ret (.own ds)) (ρ.set i .aV)|_=>(ev c e ρ).bind fun r ρ=>.ok (.ret r) ρ
 |none=>(ev c e ρ).bind fun r ρ=>.ok (.ret r) ρ:=(rfl)
theorem X12{c n ρ}:ex c n (.YB) ρ=.ok (.ret (.val .non)) ρ:=(rfl)
theorem Xp{c n t a b ρ}:ex c n (.ifs t a b) ρ=(ji (ev c t) ρ).bind fun k ρ=>if k then gB c n a ρ else gB c n b ρ:=(rfl)
theorem X14{c n src is one body ρ}:ex c n (.gV src is one body) ρ=(srcOf (isVar src) (ev c src) ρ).bind fun ds ρ₁=>(iG is one (gB c n body) ds ρ₁).bind fun fl ρ₂=>.ok fl (bz ρ (isVar src) ρ₂):=(rfl)
theorem X15{c n t body ρ}:ex c n (.whl t body) ρ=rT (ji (ev c t)) (gB c n body) n ρ:=(rfl)
theorem X16{c n x sub e ρ}:ex c n (.aug x sub e) ρ=(lift (pk ρ x) ρ).bind fun a ρ=>(dj (isVar e) (ev c e) ρ).bind fun b ρ=>match a,b with|.int i,.int j=>(lift (put ρ x (.val false (.int (if sub then i-j else i+j)))) ρ).bind fun ρ' _=>.ok .next ρ'|_,_=>.stuck:=(rfl)
theorem X17{c n x i sub e ρ}:ex c n (.Ep x i sub e) ρ=(lift (Fe ρ x) ρ).bind fun _ ρ=>(dj (isVar i) (ev c i) ρ).bind fun k ρ=>(lift (Fe ρ x) ρ).bind fun l ρ=>(lift ((iV k).bind fun i=>at' l i) ρ).bind fun a ρ=>(dj (isVar e) (ev c e) ρ).bind fun b ρ=>match a,b,ρ[x]?,k with
 |.int u,.int v,some (.own bb ds),.int k=>match iD ds.length k with|some j=>.ok .next (ρ.set x (.own bb (ds.set j (.int (if sub then u-v else u+v)))))|none=>.stuck
 |_,_,_,_=>.stuck:=(rfl)
theorem X18{c n x src k is one elt ρ}:ex c n (.JZ x src k is one elt) ρ=(srcOf (isVar src) (ev c src) ρ).bind fun ds ρ₁=>if ds.length<=lim then(fV is one (ev c elt) ds [] (ρ₁++replicate k .aV)).bind fun rows ρ₂=>(lift (put (bz ρ (isVar src) (ρ₂.take ρ₁.length)) x (.hold rows)) ρ).bind fun ρ' _=>.ok .next ρ' else .stuck:=(rfl)
theorem X19{c n x i e ρ}:ex c n (.J0 x i e) ρ=(dj (isVar i) (ev c i) ρ).bind fun k ρ=>(lift (uR ρ x k) ρ).bind fun _ ρ=>(ev c e ρ).bind fun r ρ=>uP ρ x ((jr ρ x).bind fun rows=>(iV k).bind fun k=>jD rows k fun row=>if row.length<lim then some (row++[r.d])else none):=(rfl)
theorem X20{c n src is one body ρ}:ex c n (.Er src is one body) ρ=(ev c src ρ).bind fun r ρ₁=>(lift (items r.d) ρ₁).bind fun ds ρ₁=>iG is one (gB c n body) ds ρ₁:=(rfl)
theorem X21{c n x ρ}:ex c n (.cX x) ρ=match ρ[x]?with|some (.hold rows)=>.ok .next (ρ.set x (.val false (.lst (rows.map D.lst))))|_=>.stuck:=(rfl)
theorem X22{c n x ρ}:ex c n (.Es x) ρ=match ρ[x]?with|some .aV=>.ok .next (ρ.set x (.dq []))|some (.dq _)=>.ok .next (ρ.set x (.dq []))|some (.val false _)=>.ok .next (ρ.set x (.dq []))|_=>.stuck:=(rfl)
theorem X23{c n x k e ρ}:ex c n (.jL x k e) ρ=(ev c e ρ).bind fun r ρ=>match ρ[x]?with
 |some (.dq _)=>(dj (isVar k) (ev c k) ρ).bind fun kd ρ=>match ρ[x]?,kd with|some (.dq kvs),.int k=>if kvs.length<lim then .ok .next (ρ.set x (.dq (jL kvs k r.d)))else .stuck|_,_=>.stuck
 |_=>.stuck:=(rfl)
structure Fd where
 np:Nat
 nn:Nat
 body:List S deriving Inhabited
noncomputable abbrev Tab:=Nat->Option Fd
noncomputable def enter(c:Call)(n:Nat)(d:Fd)(args:List Sl):Res R:=if args.length=d.np/\d.np<=d.nn then match gB c n d.body (args++replicate (d.nn-d.np) .aV)with|.ok .next ρ=>.ok (.val .non) (ρ.take d.np)|.ok (.ret r) ρ=>.ok r (ρ.take d.np)|_=>match Fg c n d.body (args++replicate (d.nn-d.np) .aV)with|some (k,ρ)=>.exc k (ρ.take d.np)|none=>.stuck else .stuck
noncomputable def run(Γ:Tab)(w:Nat):Nat->Call|0,_,_=>.stuck|n+1,f,args=>match Γ f with|some d=>enter (run Γ w n) w d args|none=>.stuck
end HH
end
section
namespace HH
open PySem L2
variable{ρ:List Sl}{σ:St}{v:V}
noncomputable def Dc.ho:Dc->HO|.k kvs=>.dK (kvs.map fun p=>(Sum.inl p.1,V.int p.2))|.t kvs=>.dT (kvs.map fun p=>(p.1.map Sum.inl,V.int p.2))
noncomputable def Ca(ks:List Int)(vs:List V):HO:=.dK ((ks.zip vs).map fun p=>(Sum.inl p.1,p.2))
section
variable(K:PySem.W.Frag)
mutual
def Rep(F:Hp):V->D->Prop|v,.non=>v=.non|v,.bl b=>v=.bl b|v,.int i=>v=.int i|v,.str x=>v=.str x|v,.tup ds=>∃a xs,v=.ref a/\iT K F a xs/\aL F xs ds|v,.lst ds=>∃a xs,v=.ref a/\dF K F a xs/\aL F xs ds|v,.dN m=>∃a o,v=.ref a/\F a=some (.cX o m.ho)|v,.dv ks ds=>∃a o vs,v=.ref a/\F a=some (.cX o (Ca ks vs))/\aL F vs ds/\ks.length=ds.length
def aL(F:Hp):List V->List D->Prop|vs,[]=>vs=[]|vs,d::ds=>∃v r,vs=v::r/\Rep F v d/\aL F r ds
end
end
section
variable{K:PySem.W.Frag}{F F' H H':Hp}
theorem aM.gC{a:Addr}{xs:List V}(e:aM H H')(h:iT K H a xs):iT K H' a xs:=by
 rcases h with(h|⟨o,h⟩)|h;.exact .inl (.inl (e _ _ h))
 .exact .inl (.inr ⟨o,e _ _ h⟩)
 .exact .inr h
mutual
theorem Rep.mono(e:aM F F'):∀{d:D}{v:V},Rep K F v d->Rep K F' v d|.non,_,h=>by rw[Rep]at h ⊢;exact h|.bl _,_,h=>by rw[Rep]at h ⊢;exact h|.int _,_,h=>by rw[Rep]at h ⊢;exact h|.str _,_,h=>by rw[Rep]at h ⊢;exact h|.tup ds,_,h=>by rw[Rep]at h ⊢;obtain⟨a,xs,rfl,hs,r⟩:=h;exact⟨a,xs,rfl,aM.gC e hs,aL.mono e r⟩|.lst ds,_,h=>by rw[Rep]at h ⊢;obtain⟨a,xs,rfl,hs,r⟩:=h;exact⟨a,xs,rfl,e.seq hs,aL.mono e r⟩|.dN m,_,h=>by rw[Rep]at h ⊢;obtain⟨a,o,rfl,hs⟩:=h;exact⟨a,o,rfl,e _ _ hs⟩|.dv ks ds,_,h=>by rw[Rep]at h ⊢;obtain⟨a,o,vs,rfl,hs,r,hl⟩:=h;exact⟨a,o,vs,rfl,e _ _ hs,aL.mono e r,hl⟩theorem aL.mono(e:aM F F'):∀{ds:List D}{vs:List V},aL K F vs ds->aL K F' vs ds|[],_,h=>by rw[aL]at h ⊢;exact h|d::ds,_,h=>by rw[aL]at h ⊢;obtain⟨v,r,rfl,h1,h2⟩:=h;exact⟨v,r,rfl,Rep.mono e h1,aL.mono e h2⟩end
theorem aL.nil:aL K F [] []:=by rw[aL]
theorem aL.cons{v:V}{d:D}{vs:List V}{ds:List D}(h:Rep K F v d)(t:aL K F vs ds):aL K F (v::vs) (d::ds):=by rw[aL];exact⟨v,vs,rfl,h,t⟩
theorem aL.cL{vs:List V}{d:D}{ds:List D}(h:aL K F vs (d::ds)):∃v r,vs=v::r/\Rep K F v d/\aL K F r ds:=by rw[aL]at h;exact h
theorem aL.fB{vs:List V}(h:aL K F vs []):vs=[]:=by rw[aL]at h;exact h
theorem aL.length:∀{ds:List D}{vs:List V},aL K F vs ds->vs.length=ds.length|[],_,h=>by rw[h.fB];rfl|d::ds,_,h=>by obtain⟨v,r,rfl,_,t⟩:=h.cL;simp[aL.length t]
theorem aL.get:∀{ds:List D}{vs:List V}{i:Nat}{d:D},aL K F vs ds->ds[i]?=some d->∃v,vs[i]?=some v/\Rep K F v d|[],_,_,_,h,e=>by simp at e|d::ds,_,0,_,h,e=>by obtain⟨v,r,rfl,h1,t⟩:=h.cL;simp at e;subst e;exact⟨v,rfl,h1⟩|d::ds,_,i+1,_,h,e=>by obtain⟨v,r,rfl,_,t⟩:=h.cL;simp at e;obtain⟨w,e1,e2⟩:=t.get e;exact⟨w,by simpa using e1,e2⟩
theorem aL.append:∀{ds es:List D}{vs us:List V},aL K F vs ds->aL K F us es->aL K F (vs++us) (ds++es)|[],_,_,_,h,h'=>by rw[h.fB];exact h'|d::ds,_,_,_,h,h'=>by obtain⟨v,r,rfl,h1,t⟩:=h.cL;exact .cons h1 (t.append h')
theorem aL.set{v:V}{d:D}(hr:Rep K F v d):∀{ds:List D}{vs:List V}(i:Nat),aL K F vs ds->aL K F (vs.set i v) (ds.set i d)|[],_,_,h=>by rw[h.fB];exact .nil|_::_,_,0,h=>by obtain⟨w,r,rfl,h1,t⟩:=h.cL;exact .cons hr t|_::_,_,i+1,h=>by obtain⟨w,r,rfl,h1,t⟩:=h.cL;exact .cons h1 (aL.set hr i t)
theorem aL.take:∀{ds:List D}{vs:List V}(n:Nat),aL K F vs ds->aL K F (vs.take n) (ds.take n)|[],_,n,h=>by rw[h.fB];simpa using aL.nil|_::_,_,0,h=>.nil|_::_,_,n+1,h=>by obtain⟨w,r,rfl,h1,t⟩:=h.cL;exact .cons h1 (t.take n)
theorem aL.drop:∀{ds:List D}{vs:List V}(n:Nat),aL K F vs ds->aL K F (vs.drop n) (ds.drop n)|[],_,n,h=>by rw[h.fB];simpa using aL.nil|_::_,_,0,h=>h|_::_,_,n+1,h=>by obtain⟨w,r,rfl,h1,t⟩:=h.cL;exact t.drop n
theorem aL.rep{ds:List D}{vs:List V}(h:aL K F vs ds):∀n,aL K F (replicate n vs).flatten (replicate n ds).flatten|0=>by simpa using aL.nil|n+1=>by simpa[replicate_succ]using h.append (aL.rep h n)
inductive Oc where|l(ds:List D)|d(m:Dc)|v(kvs:List (Int×D))
noncomputable def lst?:Sl->Option Oc|.own _ ds=>some (.l ds)|.lent ds=>some (.l ds)|.um m=>some (.d m)|.dq kvs=>some (.v kvs)|_=>none
def kY(K:PySem.W.Frag)(F:Hp)(o:HO):Oc->Prop|.l ds=>∃xs,o=.lst xs/\aL K F xs ds|.d m=>o=m.ho|.v kvs=>∃vs,o=Ca (kvs.map (·.1)) vs/\aL K F vs (kvs.map (·.2))
theorem kY.mono{o:HO}{x:Oc}(e:aM F F')(h:kY K F o x):kY K F' o x:=by cases x with|l ds=>obtain⟨xs,e1,h⟩:=h;exact⟨xs,e1,h.mono e⟩|d m=>exact h|v kvs=>obtain⟨xs,e1,h⟩:=h;exact⟨xs,e1,h.mono e⟩
def bJ(ρ:List Sl)(σ:St)(i:Nat)(a:Addr):Prop:=(∃s ds,ρ[i]?=some s/\lst? s=some ds)/\σ[i]?=some (some (V.ref a))
def Own(ρ:List Sl)(σ:St)(a:Addr):Prop:=∃i,bJ ρ σ i a
structure GS(K:PySem.W.Frag)(F:Hp)(ρ:List Sl)(σ:St)(H:Hp):Prop where
 sub:aM F H
 len:ρ.length=σ.length
 val:∀(i:Nat)(b:Bool)(d:D),ρ[i]?=some (Sl.val b d)->∃v:V,σ[i]?=some (some v)/\Rep K F v d
 own:∀(i:Nat)(s:Sl)(ds:Oc),ρ[i]?=some s->lst? s=some ds->∃(a:Addr)(xs:HO),σ[i]?=some (some (V.ref a))/\H a=some xs/\F a=none/\kY K F xs ds
 dis:∀(i j:Nat)(a:Addr),bJ ρ σ i a->bJ ρ σ j a->i=j
theorem GS.mO(g:GS K F ρ σ H)(i:Nat)(s:Sl)(ds:List D)(e:ρ[i]?=some s)(e':lst? s=some (.l ds)):∃(a:Addr)(xs:List V),σ[i]?=some (some (V.ref a))/\H a=some (.lst xs)/\F a=none/\aL K F xs ds:=by obtain⟨a,o,h1,h2,h3,xs,rfl,h4⟩:=g.own i s (.l ds) e e';exact⟨a,xs,h1,h2,h3,h4⟩
noncomputable def vz:Sl->Bool|.val b _=>b|.own b _=>b|.lent _=>true|.aV=>false|.um _=>false|.dq _=>false|.hold _=>true
def lW:Sl->Sl->Prop|.val true d,s=>s=.val true d|.own true _,s=>(∃ds,s=.own true ds)\/∃d,s=.val true d|.lent ds,s=>s=.lent ds|.hold ds,s=>s=.hold ds|_,_=>True
theorem lW.refl(s:Sl):lW s s:=by unfold lW;split<;>first|rfl|exact .inl ⟨_,rfl⟩|trivial
theorem lW.vz{s s':Sl}(h:lW s s')(l:vz s=true):HH.vz s'=true:=by cases s with
 |aV=>cases l|um _=>cases l|dq _=>cases l|val b d=>cases b with|true=>cases h;rfl|false=>cases l
 |own b d=>cases b with|true=>rcases h with⟨_,rfl⟩|⟨_,rfl⟩<;>rfl|false=>cases l
 |lent d=>cases h;rfl|hold d=>cases h;rfl
theorem lW.trans{s s' s'':Sl}(l:HH.vz s=true)(h:lW s s')(h':lW s' s''):lW s s'':=by cases s with
 |aV=>cases l|um _=>cases l|dq _=>cases l|val b d=>cases b with|true=>cases h;exact h'|false=>cases l
 |own b d=>cases b with
   | true => rcases h with⟨_,rfl⟩|⟨d,rfl⟩;.exact h'
             .exact .inr ⟨d,h'⟩|false=>cases l
 |lent d=>cases h;exact h'|hold d=>cases h;exact h'
noncomputable def nt:Option HO->Option HO|some (.tup _)=>none|o=>o
theorem jY{o:Option HO}(h:o=none):nt o=none:=by rw[h];rfl
theorem JB{H:Hp}{b:Addr}{xs:List V}(h:H b=some (.lst xs))(z:nt (H b)=none):False:=by rw[h]at z;cases z
theorem Jh{o:HO}{x:Oc}(h:kY K F o x)(z:nt (some o)=none):False:=by cases x with|l ds=>obtain⟨xs,rfl,_⟩:=h;cases z|d m=>cases m<;>(cases(show o=_ from h);cases z)|v kvs=>obtain⟨xs,rfl,_⟩:=h;cases z
structure aU(K:PySem.W.Frag)(F:Hp)(ρ:List Sl)(σ:St)(H:Hp)(F':Hp)(ρ':List Sl)(σ':St)(H':Hp):Prop where
 gs:GS K F' ρ' σ' H'
 bV:aM F F'
 yd:∀b,F b=none->F' b≠none->Own ρ σ b\/nt (H b)=none
 keep:∀b o,H b=some o->¬ Own ρ σ b->H' b=some o
 vV:∀b,Own ρ' σ' b->Own ρ σ b\/H b=none
 len:ρ'.length=ρ.length
 lk:∀(i:Nat)(s:Sl),ρ[i]?=some s->vz s=true->σ'[i]?=σ[i]?/\∃s',ρ'[i]?=some s'/\lW s s'
theorem aU.refl{ρ:List Sl}{σ:St}(g:GS K F ρ σ H):aU K F ρ σ H F ρ σ H:=⟨g,aM.refl _,fun b h h'=>absurd h h',fun _ _ h _=>h,fun _ h=>.inl h,rfl,fun i s h _=>⟨rfl,s,h,.refl s⟩⟩
theorem aU.trans{F1 F2 H1 H2:Hp}{ρ ρ1 ρ2:List Sl}{σ σ1 σ2:St}(a:aU K F ρ σ H F1 ρ1 σ1 H1)(b:aU K F1 ρ1 σ1 H1 F2 ρ2 σ2 H2):aU K F ρ σ H F2 ρ2 σ2 H2:=by
 have back:∀c,Own ρ1 σ1 c\/H1 c=none->Own ρ σ c\/H c=none:=fun c h=>by
  rcases h with h|h;.exact a.vV c h
  . by_cases ho:Own ρ σ c;.exact .inl ho
    .right;cases e:H c with|none=>rfl|some o=>rw[a.keep c o e ho]at h;cases h
 refine⟨b.gs,a.bV.trans b.bV,fun c h h'=>?_,fun c o h n=>?_,fun c h=>back c (b.vV c h),b.len.trans a.len,fun i s h l=>?_⟩
 . by_cases e:F1 c=none
   . by_cases ho:Own ρ σ c;.exact .inl ho
     . rcases b.yd c e h' with z|z;.exact(back c (.inl z)).imp id jY
       .right;cases q:H c with|none=>rfl|some o=>rw[a.keep c o q ho]at z;exact z
   .exact a.yd c h e
 . refine b.keep c o (a.keep c o h n) fun h'=>?_;rcases a.vV c h' with h'|h';.exact n h'
   .rw[h]at h';cases h'
 .obtain⟨e1,s1,h1,k1⟩:=a.lk i s h l;obtain⟨e2,s2,h2,k2⟩:=b.lk i s1 h1 (k1.vz l);exact⟨e2.trans e1,s2,h2,.trans l k1 k2⟩
def dz(K:PySem.W.Frag)(F H:Hp)(v:V)(d:D):Prop:=Rep K F v d\/∃a xs ds,v=.ref a/\H a=some (.lst xs)/\aL K F xs ds/\d=.lst ds
def cT(K:PySem.W.Frag)(F':Hp)(ρ':List Sl)(σ':St)(H':Hp)(ρ:List Sl)(σ:St)(H:Hp)(v:V):R->Prop|.val d=>Rep K F' v d|.own ds=>∃a xs,v=.ref a/\H' a=some (.lst xs)/\F' a=none/\aL K F' xs ds/\¬ Own ρ' σ' a/\(Own ρ σ a\/H a=none)
theorem aM.dD{F:Hp}{a:Addr}{o:HO}(h:F a=none):aM F (upd F a o):=fun b u e=>by
 have:b≠a:=by rintro rfl;rw[h]at e;cases e
 rw[aG this];exact e
theorem aU.cX{ρ':List Sl}{σ':St}{r:R}(s:aU K F ρ σ H F' ρ' σ' H')(h:cT K F' ρ' σ' H' ρ σ H v r):∃F'',aU K F ρ σ H F'' ρ' σ' H'/\aM F' F''/\Rep K F'' v r.d:=by cases r with|val d=>exact⟨F',s,.refl _,h⟩|own ds=>
   obtain⟨a,xs,rfl,h1,h2,h3,h4,h5⟩:=h;have sm:aM F' (upd F' a (.lst xs)):=aM.dD h2;refine⟨upd F' a (.lst xs),⟨⟨fun b o e=>?_,s.gs.len,fun i b d e=>?_,fun i sl ds' e e'=>?_,s.gs.dis⟩,s.bV.trans sm,fun b n n'=>?_,s.keep,s.vV,s.len,s.lk⟩,sm,?_⟩
   . by_cases hb:b=a;.subst hb;rw[bh]at e;cases e;exact h1
     .rw[aG hb]at e;exact s.gs.sub b o e
   .obtain⟨v,e1,e2⟩:=s.gs.val i b d e;exact⟨v,e1,e2.mono sm⟩
   . obtain⟨b,ys,e1,e2,e3,e4⟩:=s.gs.own i sl ds' e e';have hb:b≠a:=by rintro rfl;exact h4 ⟨i,⟨sl,ds',e,e'⟩,e1⟩
     exact⟨b,ys,e1,e2,by rw[aG hb];exact e3,e4.mono sm⟩
   . by_cases hb:b=a;.subst hb;exact h5.imp id jY
     .rw[aG hb]at n';exact s.yd b n n'
   .show Rep K _ _ (.lst ds);rw[Rep];exact⟨a,xs,rfl,dF.of bh,h3.mono sm⟩
theorem GS.pk{ρ:List Sl}{σ:St}{i:Nat}{d:D}(g:GS K F ρ σ H)(e:HH.pk ρ i=some d):∃v:V,σ[i]?=some (some v)/\dz K F H v d:=by
 unfold HH.pk at e;split at e;.rename_i b d' h;cases e;obtain⟨v,h1,h2⟩:=g.val i b d h;exact⟨v,h1,.inl h2⟩
 .rename_i b ds h;cases e;obtain⟨a,xs,h1,h2,h3,h4⟩:=g.mO i _ ds h rfl;exact⟨.ref a,h1,.inr ⟨a,xs,ds,rfl,h2,h4,rfl⟩⟩
 .rename_i ds h;cases e;obtain⟨a,xs,h1,h2,h3,h4⟩:=g.mO i _ ds h rfl;exact⟨.ref a,h1,.inr ⟨a,xs,ds,rfl,h2,h4,rfl⟩⟩
 .cases e
structure Ext(F H F' H':Hp):Prop where
 hs:aM H H'
 fs:aM F F'
 sub:aM F' H'
 gr:∀b,F b=none->F' b≠none->nt (H b)=none
theorem Ext.refl(h:aM F H):Ext F H F H:=⟨.refl _,.refl _,h,fun _ a b=>absurd a b⟩
theorem Ext.stp(g:GS K F ρ σ H)(e:Ext F H F' H'):aU K F ρ σ H F' ρ σ H':=by
 refine⟨⟨e.sub,g.len,fun i b d h=>?_,fun i s ds h h'=>?_,g.dis⟩,e.fs,fun b n n'=>.inr (e.gr b n n'),fun b o h _=>e.hs b o h,fun _ h=>.inl h,rfl,fun i s h _=>⟨rfl,s,h,.refl s⟩⟩;.obtain⟨v,h1,h2⟩:=g.val i b d h;exact⟨v,h1,h2.mono e.fs⟩
 .obtain⟨a,xs,h1,h2,h3,h4⟩:=g.own i s ds h h';refine⟨a,xs,h1,e.hs _ _ h2,?_,h4.mono e.fs⟩;cases q:F' a with|none=>rfl|some o=>have:=e.gr a h3 (by rw[q];simp);rw[h2]at this;exact(Jh h4 this).elim
def cG(K:PySem.W.Frag)(F' H' H:Hp)(v:V):R->Prop|.val d=>Rep K F' v d|.own ds=>∃a xs,v=.ref a/\H' a=some (.lst xs)/\F' a=none/\aL K F' xs ds/\H a=none
theorem cG.nG{r:R}(g:GS K F ρ σ H)(h:cG K F' H' H v r):cT K F' ρ σ H' ρ σ H v r:=by cases r with|val d=>exact h|own ds=>obtain⟨a,xs,rfl,h1,h2,h3,h4⟩:=h;refine⟨a,xs,rfl,h1,h2,h3,?_,.inr h4⟩;rintro⟨i,⟨s,ds',e,e'⟩,e2⟩;obtain⟨b,ys,q1,q2,_⟩:=g.own i s ds' e e';rw[e2]at q1;cases q1;rw[h4]at q2;cases q2
theorem cT.later{F1 H1 F2 H2:Hp}{ρ1 ρ2:List Sl}{σ1 σ2:St}{r:R}(a:aU K F ρ σ H F1 ρ1 σ1 H1)(h:cT K F2 ρ2 σ2 H2 ρ1 σ1 H1 v r):cT K F2 ρ2 σ2 H2 ρ σ H v r:=by cases r with|val d=>exact h|own ds=>
   obtain⟨b,xs,rfl,h1,h2,h3,h4,h5⟩:=h;refine⟨b,xs,rfl,h1,h2,h3,h4,?_⟩;rcases h5 with h5|h5;.exact a.vV b h5
   . by_cases ho:Own ρ σ b;.exact .inl ho
     .right;cases e:H b with|none=>rfl|some o=>rw[a.keep b o e ho]at h5;cases h5
end
end HH
end
section
namespace HH
open PySem L2 PySem.Spec PyProof.Rows
variable{ρ' ρ ρ₀:List Sl}{es:List Expr}{K:PySem.W.Frag}{F H H₀:Hp}{σ:L2.St}{i:Nat}{ds:List D}{x:Str}{v:V}{vs:List V}{op:CmpOp}{p':Pos}{as:List Arg}
theorem ao{α β:Type}{x:Res α}{f:α->List Sl->Res β}{b:β}(h:x.bind f=.ok b ρ'):∃a ρ,x=.ok a ρ/\f a ρ=.ok b ρ':=by cases x with|ok a ρ=>exact⟨a,ρ,rfl,h⟩|exc _ _=>cases h|stuck=>cases h
theorem aB{α:Type}{o:Option α}{a:α}(h:lift o ρ=.ok a ρ'):o=some a/\ρ=ρ':=by cases o with|none=>cases h|some b=>cases h;exact⟨rfl,rfl⟩
theorem map_some{α β:Type}{o:Option α}{f:α->β}{b:β}(h:o.map f=some b):∃a,o=some a/\f a=b:=by cases o with|none=>cases h|some a=>cases h;exact⟨a,rfl,rfl⟩
theorem cF{α β:Type}{o:Option α}{f:α->Option β}{b:β}(h:o.bind f=some b):∃a,o=some a/\f a=some b:=by cases o with|none=>cases h|some a=>exact⟨a,rfl,h⟩
theorem bG{α:Type}{c:Prop}[Decidable c]{a b:α}(h:(if c then some a else none)=some b):c/\a=b:=by
 split at h;.rename_i hc;cases h;exact⟨hc,rfl⟩
 .cases h
section
variable{X:Cx}{c:Call}{e a b:Expr}{p pa pb:P}{pos:Pos}
theorem fH{t t':TE}(h:PE X e t)(i:∀σ H Q,t' σ H Q->t σ H Q):PE X e t':=fun pins s σ H Q I q=>h pins s σ H Q I (i σ H Q q)
theorem tO{t t':TT}(h:PT X e t)(i:∀σ H Q,t' σ H Q->t σ H Q):PT X e t':=fun pins s σ H Q I q=>h pins s σ H Q I (i σ H Q q)
theorem Oe{t t':TT}(h:PW X e t)(i:∀σ H Q,t' σ H Q->t σ H Q):PW X e t':=fun wh pins s σ H Q I q=>h wh pins s σ H Q I (i σ H Q q)
theorem wO{t t':TA}(h:PA X es t)(i:∀σ H Q,t' σ H Q->t σ H Q):PA X es t':=fun pos pins s σ H Q I q=>h pos pins s σ H Q I (i σ H Q q)
inductive vR(K:PySem.W.Frag)(f:Ev)(σ:L2.St)(H:Hp)(Q:VK):Prop where|mk(F:Hp)(ρ:List Sl)(r:R)(ρ':List Sl)(g:GS K F ρ σ H)(e:f ρ=.ok r ρ')(k:∀v F' H',aU K F ρ σ H F' ρ' σ H'->cT K F' ρ' σ H' ρ σ H v r->Q v H')
inductive EY(K:PySem.W.Frag)(f:List Sl->Res Bool)(σ:L2.St)(H:Hp)(Q:Bool->Hp->Prop):Prop where|mk(F:Hp)(ρ:List Sl)(b:Bool)(ρ':List Sl)(g:GS K F ρ σ H)(e:f ρ=.ok b ρ')(k:∀F' H',aU K F ρ σ H F' ρ' σ H'->Q b H')
inductive aci(K:PySem.W.Frag)(f:List Sl->Res (List D))(σ:L2.St)(H:Hp)(Q:List V->Hp->Prop):Prop where|mk(F:Hp)(ρ:List Sl)(ds:List D)(ρ':List Sl)(g:GS K F ρ σ H)(e:f ρ=.ok ds ρ')(k:∀vs F' H',aU K F ρ σ H F' ρ' σ H'->aL K F' vs ds->Q vs H')
structure SX(X:Cx)(c:Call)(e:Expr)(p:P):Prop where ev:PE X e (vR X.K (HH.ev c p))var:∀i,isVar p=some i->PE X e (Rg i)
def SA(X:Cx)(c:Call)(es:List Expr)(ps:List P):Prop:=PA X es (aci X.K (evs c ps))/\ps.length=es.length
theorem SX.dj(h:SX X c e p):∃t,PE X e t/\∀{σ:L2.St}{H F:Hp}{ρ ρ':List Sl}{d:D}{Q:VK},GS X.K F ρ σ H->dj (isVar p) (HH.ev c p) ρ=.ok d ρ'->(∀v F' H',aU X.K F ρ σ H F' ρ' σ H'->dz X.K F' H' v d->Q v H')->t σ H Q:=by cases hv:isVar p with|none=>refine⟨_,h.ev,fun{σ H F ρ ρ' d Q}g e k=>?_⟩;obtain⟨r,ρ1,e1,e2⟩:=ao e;cases e2;refine⟨F,ρ,r,_,g,e1,fun v F' H' s rr=>?_⟩;obtain⟨F'',s',_,rp⟩:=s.cX rr;exact k v F'' H' s' (.inl rp)|some i=>refine⟨_,h.var i hv,fun{σ H F ρ ρ' d Q}g e k=>?_⟩;obtain⟨e1,e2⟩:=aB e;subst e2;obtain⟨v,h1,h2⟩:=g.pk e1;exact⟨v,h1,k v F H (.refl g) h2⟩
theorem SX.iw(ha:SX X c a pa)(hb:SX X c b pb):∃ta tb,PE X a ta/\PE X b tb/\∀{σ:L2.St}{H F:Hp}{ρ ρ':List Sl}{xy:D×D}{R:V->V->Hp->Prop},GS X.K F ρ σ H->iw (isVar pa) (HH.ev c pa) (isVar pb) (HH.ev c pb) ρ=.ok xy ρ'->(∀v u F' H',aU X.K F ρ σ H F' ρ' σ H'->dz X.K F' H' v xy.1->dz X.K F' H' u xy.2->R v u H')->ta σ H fun x H1=>tb σ H1 fun y H2=>R x y H2:=by obtain⟨tb,hb1,hb2⟩:=hb.dj;cases hv:isVar pa with|none=>refine⟨_,tb,ha.ev,hb1,fun{σ H F ρ ρ' xy R}g e k=>?_⟩;obtain⟨x,ρ1,e1,e⟩:=ao e;obtain⟨y,ρ2,e2,e⟩:=ao e;cases e;obtain⟨r,ρ1',e1,e0⟩:=ao e1;cases e0;refine⟨F,ρ,r,_,g,e1,fun v F' H' s rr=>?_⟩;obtain⟨F1,s1,_,rp⟩:=s.cX rr;refine hb2 s1.gs e2 fun u F2 H2 s2 pu=>?_;exact k v u F2 H2 (s1.trans s2) (.inl (rp.mono s2.bV)) pu|some i=>refine⟨_,tb,ha.var i hv,hb1,fun{σ H F ρ ρ' xy R}g e k=>?_⟩;obtain⟨x0,ρ0,e0,e⟩:=ao e;obtain⟨e00,Et⟩:=aB e0;subst Et;obtain⟨y,ρ1,e1,e⟩:=ao e;obtain⟨x,ρ2,e2,e⟩:=ao e;cases e;have zz:=aB e2;clear e2;obtain⟨e2,e3⟩:=zz;subst e3;obtain⟨v,h1,_⟩:=g.pk e00;refine⟨v,h1,hb2 g e1 fun u F1 H1 s1 pu=>?_⟩;obtain⟨v',h1',pv⟩:=s1.gs.pk e2;rw[h1]at h1';cases h1';exact k v u F1 H1 s1 pv pu
inductive rD(K:PySem.W.Frag)(f:D->D->Option R)(x y:V)(H:Hp)(Q:VK):Prop where|mk(F:Hp)(d e:D)(r:R)(sm:aM F H)(px:dz K F H x d)(py:dz K F H y e)(he:f d e=some r)(k:∀v F' H',Ext F H F' H'->cG K F' H' H v r->Q v H')
inductive rD1(K:PySem.W.Frag)(f:D->Option R)(x:V)(H:Hp)(Q:VK):Prop where|mk(F:Hp)(d:D)(r:R)(sm:aM F H)(px:dz K F H x d)(he:f d=some r)(k:∀v F' H',Ext F H F' H'->cG K F' H' H v r->Q v H')
theorem uv{E:Expr}{f:D->D->Option R}{q:P}(hp:∀{ta tb},PE X a ta->PE X b tb->PE X E (Qg (rD X.K f) ta tb))(ha:SX X c a pa)(hb:SX X c b pb)(hq:∀ρ,HH.ev c q ρ=(HH.iw (isVar pa) (HH.ev c pa) (isVar pb) (HH.ev c pb) ρ).bind fun xy ρ=>lift (f xy.1 xy.2) ρ)(hv:isVar q=none):SX X c E q:=by obtain⟨ta,tb,h1,h2,h3⟩:=ha.iw hb;refine⟨fH (hp h1 h2) ?_,fun i h=>by rw[hv]at h;cases h⟩;rintro σ H Q⟨F,ρ,r,ρ',g,e,k⟩;rw[hq]at e;obtain⟨xy,ρ1,e1,e2⟩:=ao e;have zz:=aB e2;clear e2;obtain⟨e2,e3⟩:=zz;subst e3;refine h3 g e1 fun v u F' H' s pv pu=>⟨F',xy.1,xy.2,r,s.gs.sub,pv,pu,e2,fun w F2 H2 x rn=>?_⟩;exact k w F2 H2 (s.trans (x.stp s.gs)) (.later s (rn.nG s.gs))
theorem Qp{E:Expr}{f:D->Option R}{q:P}(hp:∀{ta},PE X a ta->PE X E (tUn (rD1 X.K f) ta))(ha:SX X c a pa)(hq:∀ρ,HH.ev c q ρ=(HH.dj (isVar pa) (HH.ev c pa) ρ).bind fun x ρ=>lift (f x) ρ)(hv:isVar q=none):SX X c E q:=by obtain⟨ta,h1,h3⟩:=ha.dj;refine⟨fH (hp h1) ?_,fun i h=>by rw[hv]at h;cases h⟩;rintro σ H Q⟨F,ρ,r,ρ',g,e,k⟩;rw[hq]at e;obtain⟨x,ρ1,e1,e2⟩:=ao e;have zz:=aB e2;clear e2;obtain⟨e2,e3⟩:=zz;subst e3;refine h3 g e1 fun v F' H' s pv=>⟨F',x,r,s.gs.sub,pv,e2,fun w F2 H2 x rn=>?_⟩;exact k w F2 H2 (s.trans (x.stp s.gs)) (.later s (rn.nG s.gs))
theorem GS.freeze{b:Bool}(g:GS K F ρ σ H)(e:ρ[i]?=some (.own b ds)):∃v F',σ[i]?=some (some v)/\aU K F ρ σ H F' (ρ.set i (.val b (.lst ds))) σ H/\Rep K F' v (.lst ds):=by
 obtain⟨a,xs,h1,h2,h3,h4⟩:=g.mO i _ ds e rfl;have hi:i<ρ.length:=(cV e).1;have sm:aM F (upd F a (.lst xs)):=aM.dD h3;have rp:Rep K (upd F a (.lst xs)) (.ref a) (.lst ds):=by rw[Rep];exact⟨a,xs,rfl,dF.of bh,h4.mono sm⟩
 have oa:Own ρ σ a:=⟨i,⟨_,_,e,rfl⟩,h1⟩;have old:∀j x,bJ (ρ.set i (.val b (.lst ds))) σ j x->bJ ρ σ j x/\j≠i:=fun j x⟨⟨s,ds',q1,q2⟩,q3⟩=>by
  by_cases hj:j=i;.subst hj;rw[getElem?_set_self hi]at q1;cases q1;cases q2
  .rw[fZ hj]at q1;exact⟨⟨⟨s,ds',q1,q2⟩,q3⟩,hj⟩
 refine⟨.ref a,upd F a (.lst xs),h1,⟨⟨fun x o q=>?_,by simpa using g.len,fun j b' d q=>?_,fun j s ds' q q'=>?_,fun j k x q q'=>g.dis j k x (old j x q).1 (old k x q').1⟩,sm,fun x n n'=>?_,fun _ _ q _=>q,fun x⟨j,q⟩=>.inl ⟨j,(old j x q).1⟩,by simp,fun j s q l=>⟨rfl,?_⟩⟩,rp⟩
 . by_cases hx:x=a;.subst hx;rw[bh]at q;cases q;exact h2
   .rw[aG hx]at q;exact g.sub x o q
 . by_cases hj:j=i;.subst hj;rw[getElem?_set_self hi]at q;cases q;exact⟨_,h1,rp⟩
   .rw[fZ hj]at q;obtain⟨v,q1,q2⟩:=g.val j b' d q;exact⟨v,q1,q2.mono sm⟩
 . by_cases hj:j=i;.subst hj;rw[getElem?_set_self hi]at q;cases q;cases q'
   . rw[fZ hj]at q;obtain⟨x,ys,q1,q2,q3,q4⟩:=g.own j s ds' q q';have hx:x≠a:=by rintro rfl;exact hj (g.dis j i x ⟨⟨s,ds',q,q'⟩,q1⟩ ⟨⟨_,_,e,rfl⟩,h1⟩)
     exact⟨x,ys,q1,q2,by rw[aG hx];exact q3,q4.mono sm⟩
 . by_cases hx:x=a;.subst hx;exact .inl oa
   .rw[aG hx]at n';exact absurd n n'
 . by_cases hj:j=i;.subst hj;rw[e]at q;cases q;refine⟨_,getElem?_set_self hi,?_⟩;cases b with|true=>exact .inr ⟨_,rfl⟩|false=>cases l
   .exact⟨s,by rw[fZ hj];exact q,.refl s⟩
theorem GS.Aq{m:Dc}(g:GS K F ρ σ H)(e:ρ[i]?=some (.um m)):∃a,σ[i]?=some (some (.ref a))/\H a=some m.ho/\∀ob,aU K F ρ σ H (upd F a (.cX ob m.ho)) (ρ.set i (.val false (.dN m))) σ (upd H a (.cX ob m.ho))/\Rep K (upd F a (.cX ob m.ho)) (.ref a) (.dN m):=by
 obtain⟨a,o0,h1,h2,h3,h4⟩:=g.own i _ _ e rfl;cases(show o0=m.ho from h4);have hi:i<ρ.length:=(cV e).1;refine⟨a,h1,h2,fun ob=>?_⟩;have sm:aM F (upd F a (.cX ob m.ho)):=aM.dD h3;have rp:Rep K (upd F a (.cX ob m.ho)) (.ref a) (.dN m):=by rw[Rep];exact⟨a,ob,rfl,bh⟩
 have oa:Own ρ σ a:=⟨i,⟨_,_,e,rfl⟩,h1⟩;have old:∀j x,bJ (ρ.set i (.val false (.dN m))) σ j x->bJ ρ σ j x/\j≠i:=fun j x⟨⟨s,ds',q1,q2⟩,q3⟩=>by
  by_cases hj:j=i;.subst hj;rw[getElem?_set_self hi]at q1;cases q1;cases q2
  .rw[fZ hj]at q1;exact⟨⟨⟨s,ds',q1,q2⟩,q3⟩,hj⟩
 refine⟨⟨⟨fun x o q=>?_,by simpa using g.len,fun j b' d q=>?_,fun j s ds' q q'=>?_,fun j k x q q'=>g.dis j k x (old j x q).1 (old k x q').1⟩,sm,fun x n n'=>?_,fun x o q n=>?_,fun x⟨j,q⟩=>.inl ⟨j,(old j x q).1⟩,by simp,fun j s q l=>⟨rfl,?_⟩⟩,rp⟩
 . by_cases hx:x=a;.subst hx;rw[bh]at q ⊢;exact q
   .rw[aG hx]at q ⊢;exact g.sub x o q
 . by_cases hj:j=i;.subst hj;rw[getElem?_set_self hi]at q;cases q;exact⟨_,h1,rp⟩
   .rw[fZ hj]at q;obtain⟨v,q1,q2⟩:=g.val j b' d q;exact⟨v,q1,q2.mono sm⟩
 . by_cases hj:j=i;.subst hj;rw[getElem?_set_self hi]at q;cases q;cases q'
   . rw[fZ hj]at q;obtain⟨x,ys,q1,q2,q3,q4⟩:=g.own j s ds' q q';have hx:x≠a:=by rintro rfl;exact hj (g.dis j i x ⟨⟨s,ds',q,q'⟩,q1⟩ ⟨⟨_,_,e,rfl⟩,h1⟩)
     exact⟨x,ys,q1,by rw[aG hx];exact q2,by rw[aG hx];exact q3,q4.mono sm⟩
 . by_cases hx:x=a;.subst hx;exact .inl oa
   .rw[aG hx]at n';exact absurd n n'
 . have hx:x≠a:=by rintro rfl;exact n oa
   rw[aG hx];exact q
 . by_cases hj:j=i;.subst hj;rw[e]at q;cases q;cases l
   .exact⟨s,by rw[fZ hj];exact q,.refl s⟩
theorem GS.Ba{kvs:List (Int×D)}(g:GS K F ρ σ H)(e:ρ[i]?=some (.dq kvs)):∃a vs,σ[i]?=some (some (.ref a))/\H a=some (Ca (kvs.map (·.1)) vs)/\∀ob,aU K F ρ σ H (upd F a (.cX ob (Ca (kvs.map (·.1)) vs))) (ρ.set i (.val false (.dv (kvs.map (·.1)) (kvs.map (·.2))))) σ (upd H a (.cX ob (Ca (kvs.map (·.1)) vs)))/\Rep K (upd F a (.cX ob (Ca (kvs.map (·.1)) vs))) (.ref a) (.dv (kvs.map (·.1)) (kvs.map (·.2))):=by
 obtain⟨a,o0,h1,h2,h3,h4⟩:=g.own i _ _ e rfl;obtain⟨vs,rfl,h5⟩:=h4;have hi:i<ρ.length:=(cV e).1;refine⟨a,vs,h1,h2,fun ob=>?_⟩;have sm:aM F (upd F a (.cX ob (Ca (kvs.map (·.1)) vs))):=aM.dD h3;have rp:Rep K (upd F a (.cX ob (Ca (kvs.map (·.1)) vs))) (.ref a) (.dv (kvs.map (·.1)) (kvs.map (·.2))):=by rw[Rep];exact⟨a,ob,vs,rfl,bh,h5.mono sm,by simp⟩
 have oa:Own ρ σ a:=⟨i,⟨_,_,e,rfl⟩,h1⟩;have old:∀j x,bJ (ρ.set i (.val false (.dv (kvs.map (·.1)) (kvs.map (·.2))))) σ j x->bJ ρ σ j x/\j≠i:=fun j x⟨⟨s,ds',q1,q2⟩,q3⟩=>by
  by_cases hj:j=i;.subst hj;rw[getElem?_set_self hi]at q1;cases q1;cases q2
  .rw[fZ hj]at q1;exact⟨⟨⟨s,ds',q1,q2⟩,q3⟩,hj⟩
 refine⟨⟨⟨fun x o q=>?_,by simpa using g.len,fun j b' d q=>?_,fun j s ds' q q'=>?_,fun j k x q q'=>g.dis j k x (old j x q).1 (old k x q').1⟩,sm,fun x n n'=>?_,fun x o q n=>?_,fun x⟨j,q⟩=>.inl ⟨j,(old j x q).1⟩,by simp,fun j s q l=>⟨rfl,?_⟩⟩,rp⟩
 . by_cases hx:x=a;.subst hx;rw[bh]at q ⊢;exact q
   .rw[aG hx]at q ⊢;exact g.sub x o q
 . by_cases hj:j=i;.subst hj;rw[getElem?_set_self hi]at q;cases q;exact⟨_,h1,rp⟩
   .rw[fZ hj]at q;obtain⟨v,q1,q2⟩:=g.val j b' d q;exact⟨v,q1,q2.mono sm⟩
 . by_cases hj:j=i;.subst hj;rw[getElem?_set_self hi]at q;cases q;cases q'
   . rw[fZ hj]at q;obtain⟨x,ys,q1,q2,q3,q4⟩:=g.own j s ds' q q';have hx:x≠a:=by rintro rfl;exact hj (g.dis j i x ⟨⟨s,ds',q,q'⟩,q1⟩ ⟨⟨_,_,e,rfl⟩,h1⟩)
     exact⟨x,ys,q1,by rw[aG hx];exact q2,by rw[aG hx];exact q3,q4.mono sm⟩
 . by_cases hx:x=a;.subst hx;exact .inl oa
   .rw[aG hx]at n';exact absurd n n'
 . have hx:x≠a:=by rintro rfl;exact n oa
   rw[aG hx];exact q
 . by_cases hj:j=i;.subst hj;rw[e]at q;cases q;cases l
   .exact⟨s,by rw[fZ hj];exact q,.refl s⟩
theorem Inv.Gj{X:Cx}{pins:List (Addr×Obj)}{s:Shared}{a:Addr}{kvs:List (Key×V)}(I:L2.Inv X pins σ H s)(h:H a=some (.dK kvs)):∃o,L2.Inv X pins σ (upd H a (.cX o (.dK kvs))) s:=by obtain⟨hz,hS,vs,r,dd⟩:=(show cj X.prog X.w H s.heap a (.dK kvs)from I.hok a _ h);obtain⟨o,ho,_⟩:=dd.typeIs;exact⟨o,I.write (h':=s.heap) (t':=s.toks) (by rw[h];exact trivial) (.inl rfl) (fun b u _ e=>e) ⟨o,ho⟩ ⟨ho,hz,hS,vs,r,dd⟩⟩
theorem Qx(hN:X.N[i]?=some x)(hv:yC X.env.scope x)(hd:(x==("__debug__":Str))=false:=by decide)(hcd:(x==("__classdict__":Str))=false:=by decide):SX X c (.Name x pos) (.var i):=by
 have h:=iB (X:=X) (pos:=pos) hN hv hd hcd;refine⟨?_,fun j hj=>by cases hj;exact h⟩;rintro pins s σ H Q I⟨F,ρ,r,ρ',g,e,k⟩;rw[HH.E1]at e;split at e;.rename_i b d q;cases e;obtain⟨v,h1,h2⟩:=g.val i b d q;exact h pins s σ H Q I ⟨v,h1,k v F H (.refl g) h2⟩
 .rename_i b ds q;cases e;obtain⟨v,F',h1,h2,h3⟩:=g.freeze q;exact h pins s σ H Q I ⟨v,h1,k v F' H h2 h3⟩
 .rename_i kvs q;cases e;obtain⟨a,h1,h2,h3⟩:=g.Aq q;refine cz (h pins s σ H (fun v H'=>v=.ref a/\H'=H) I ⟨.ref a,h1,rfl,rfl⟩) fun u s1⟨v,H1,I1,r1,e1,e2⟩=>?_;subst e1 e2;obtain⟨o,I2⟩:=Inv.Gj I1 h2;exact⟨.ref a,_,I2,r1,k _ _ _ (h3 o).1 (h3 o).2⟩
 .rename_i kvs q;cases e;obtain⟨a,vs,h1,h2,h3⟩:=g.Ba q;refine cz (h pins s σ H (fun v H'=>v=.ref a/\H'=H) I ⟨.ref a,h1,rfl,rfl⟩) fun u s1⟨v,H1,I1,r1,e1,e2⟩=>?_;subst e1 e2;obtain⟨o,I2⟩:=Inv.Gj I1 h2;exact⟨.ref a,_,I2,r1,k _ _ _ (h3 o).1 (h3 o).2⟩
 .cases e
theorem yz{d:D}(h:PE X e (tC v))(hr:∀F,Rep X.K F v d):SX X c e (.con d):=⟨fH h fun σ H Q⟨F,ρ,r,ρ',g,e,k⟩=>by rw[HH.E2]at e;cases e;exact k v F H (.refl g) (hr F),fun i h=>by cases h⟩
theorem aa{i j}:SX X c (.Constant (.int i) j pos) (.con (.int i)):=yz yJ fun F=>by rw[Rep]
theorem fJ{i j}:SX X c (.Constant (.bool i) j pos) (.con (.bl i)):=yz Xz fun F=>by rw[Rep]
theorem lE{j}:SX X c (.Constant .none j pos) (.con .non):=yz Qj fun F=>by rw[Rep]
theorem Jr{i:Int}{t:Tok}(hg:Gl X x)(hm:X.mg x=some (.int i t))(hd:(x==("__debug__":Str))=false:=by decide):SX X c (.Name x pos) (.glob x (.int i)):=⟨fH (Kz (v:=.int i) hg hm ⟨t,rfl⟩ hd) fun σ H Q⟨F,ρ,r,ρ',g,e,k⟩=>by rw[HH.E3]at e;cases e;exact k (.int i) F H (.refl g) (show Rep X.K F (.int i) (.int i)by rw[Rep]),fun i h=>by cases h⟩
theorem dz.int{K:PySem.W.Frag}{F H:Hp}{v:V}{i:Int}(h:dz K F H v (.int i)):v=.int i:=by
 rcases h with h|⟨_,_,_,_,_,_,h⟩;.rw[Rep]at h;exact h
 .cases h
theorem dz.bl{K:PySem.W.Frag}{F H:Hp}{v:V}{i:Bool}(h:dz K F H v (.bl i)):v=.bl i:=by
 rcases h with h|⟨_,_,_,_,_,_,h⟩;.rw[Rep]at h;exact h
 .cases h
theorem dz.str{K:PySem.W.Frag}{F H:Hp}{v:V}{i:Str}(h:dz K F H v (.str i)):v=.str i:=by
 rcases h with h|⟨_,_,_,_,_,_,h⟩;.rw[Rep]at h;exact h
 .cases h
theorem dz.non{K:PySem.W.Frag}{F H:Hp}{v:V}(h:dz K F H v .non):v=.non:=by
 rcases h with h|⟨_,_,_,_,_,_,h⟩;.rw[Rep]at h;exact h
 .cases h
theorem dz.tup{K:PySem.W.Frag}{F H:Hp}{v:V}{ds:List D}(s:aM F H)(h:dz K F H v (.tup ds)):∃a xs,v=.ref a/\iT K H a xs/\aL K F xs ds/\Rep K F v (.tup ds):=by
 rcases h with h|⟨_,_,_,_,_,_,h⟩;.have h':=h;rw[Rep]at h;obtain⟨a,xs,rfl,h1,h2⟩:=h;exact⟨a,xs,rfl,aM.gC s h1,h2,h'⟩
 .cases h
theorem dz.lst{K:PySem.W.Frag}{F H:Hp}{v:V}{ds:List D}(s:aM F H)(h:dz K F H v (.lst ds)):∃a xs,v=.ref a/\dF K H a xs/\aL K F xs ds:=by
 rcases h with h|⟨a,xs,es,h1,h2,h3,h⟩;.rw[Rep]at h;obtain⟨a,xs,rfl,h1,h2⟩:=h;exact⟨a,xs,rfl,s.seq h1,h2⟩
 .cases h;exact⟨a,xs,h1,dF.of h2,h3⟩
theorem dz.dN{m:Dc}(s:aM F H)(h:dz K F H v (.dN m)):∃a o,v=.ref a/\H a=some (.cX o m.ho):=by
 rcases h with h|⟨_,_,_,_,_,_,h⟩;.rw[Rep]at h;obtain⟨a,o,rfl,h⟩:=h;exact⟨a,o,rfl,s _ _ h⟩
 .cases h
theorem RX{X:Cx}{pins:List (Addr×Obj)}{s:Shared}{a:Addr}{ob:Obj}{m:Dc}(I:L2.Inv X pins σ H s)(h:H a=some (.cX ob m.ho)):∃o,s.heap.get? a=some o/\o.cls=.type "dict":=by have z:=(show cj X.prog X.w H s.heap a (.cX ob m.ho)from I.hok a _ h).2;cases m with|k kvs=>obtain⟨_,_,vs,_,d2⟩:=(show cj X.prog X.w H s.heap a (.dK _)from z);exact d2.typeIs|t kvs=>obtain⟨_,_,xs,_,o,es,ep,h1,h2,_⟩:=(show cj X.prog X.w H s.heap a (.dT _)from z);exact⟨o,h1,h2.1⟩
theorem dz.dv{ks:List Int}(s:aM F H)(h:dz K F H v (.dv ks ds)):∃a o vs,v=.ref a/\H a=some (.cX o (Ca ks vs))/\aL K F vs ds/\ks.length=ds.length:=by
 rcases h with h|⟨_,_,_,_,_,_,h⟩;.rw[Rep]at h;obtain⟨a,o,vs,rfl,h,h1,h2⟩:=h;exact⟨a,o,vs,rfl,s _ _ h,h1,h2⟩
 .cases h
theorem Ra{X:Cx}{pins:List (Addr×Obj)}{s:Shared}{a:Addr}{ob:Obj}{ks:List Int}(I:L2.Inv X pins σ H s)(h:H a=some (.cX ob (Ca ks vs))):∃o,s.heap.get? a=some o/\o.cls=.type "dict":=by have z:=(show cj X.prog X.w H s.heap a (.cX ob (Ca ks vs))from I.hok a _ h).2;obtain⟨_,_,vs,_,d2⟩:=(show cj X.prog X.w H s.heap a (.dK _)from z);exact d2.typeIs
theorem dz.items{d:D}(s:aM F H)(h:dz K F H v d)(e:items d=some ds):∃a xs,v=.ref a/\(dF K H a xs\/iT K H a xs)/\aL K F xs ds:=by cases d with|tup es=>cases e;obtain⟨a,xs,h1,h2,h3,_⟩:=h.tup s;exact⟨a,xs,h1,.inr h2,h3⟩|lst es=>cases e;obtain⟨a,xs,h1,h2,h3⟩:=h.lst s;exact⟨a,xs,h1,.inl h2,h3⟩|_=>cases e
theorem cG.cU{Q:VK}{d:D}(s:aM F H)(r:Rep K F v d)(k:∀v F' H',Ext F H F' H'->cG K F' H' H v (.val d)->Q v H'):Q v H:=k v F H (.refl s) r
theorem bY(i:Int):Rep K F (.int i) (.int i):=by rw[Rep]
theorem eN(i:Bool):Rep K F (.bl i) (.bl i):=by rw[Rep]
theorem PB(i:Str):Rep K F (.str i) (.str i):=by rw[Rep]
theorem Q7:Rep K F .non .non:=by rw[Rep]
theorem wF{Q:VK}{xs:List V}{p:Addr}(s:aM F H)(r:aL K F xs ds)(hp:H p=none)(k:∀v F' H',Ext F H F' H'->cG K F' H' H v (.own ds)->Q v H'):Q (.ref p) (upd H p (.lst xs)):=by
 have fp:F p=none:=by cases q:F p with|none=>rfl|some o=>rw[s p o q]at hp;cases hp
 exact k _ F _ ⟨aM.dD hp,.refl _,s.trans (aM.dD hp),fun _ a b=>absurd a b⟩ ⟨p,xs,rfl,bh,fp,r,hp⟩
theorem yH{Q:VK}{xs:List V}{p:Addr}(s:aM F H)(r:aL K F xs ds)(hp:H p=none)(k:∀v F' H',Ext F H F' H'->cG K F' H' H v (.val (.tup ds))->Q v H'):Q (.ref p) (upd H p (.tup xs)):=by
 have fp:F p=none:=by cases q:F p with|none=>rfl|some o=>rw[s p o q]at hp;cases hp
 have sm:aM F (upd F p (.tup xs)):=aM.dD fp;refine k _ (upd F p (.tup xs)) _ ⟨aM.dD hp,sm,fun b o e=>?_,fun b n n'=>?_⟩ ?_
 . by_cases hb:b=p;.subst hb;rw[bh]at e ⊢;exact e
   .rw[aG hb]at e ⊢;exact s b o e
 . by_cases hb:b=p;.subst hb;exact jY hp
   .rw[aG hb]at n';exact absurd n n'
 .show Rep K _ _ (.tup ds);rw[Rep];exact⟨p,xs,rfl,iT.of bh,r.mono sm⟩
end
theorem sr(k:Int)(t:Tok)(l:Addr)(its:Array Value)(n:Nat)(dd:Option Addr)(sl:Array (Option Value)):Meets (Builtin.«int.__rmul__» ⟨[.int k t,.ref l],[]⟩) (fun _ R s=>s.heap.get? l=some ⟨.type "list",dd,.seq its n,sl⟩/\R (.ok (.ret Value.notImplemented)) s):=.of_wp fun prog w A R s h=>by obtain⟨hp,g,d,tk,os⟩:=s;obtain⟨hl,h⟩:=h;wp_walk;exact⟨_,rfl,h⟩
theorem Dn(l:Addr)(its:Array Value)(n:Nat)(dd:Option Addr)(sl:Array (Option Value))(k:Int)(t:Tok)(h0:¬(!Builtin.List.listFitsIndex k)=true)(h1:¬its.size*k.toNat>(2^63-1)/8)(h2:¬listTooLong (its.size*k.toNat)=true):Meets (Builtin.«list.__mul__» ⟨[.ref l,.int k t],[]⟩) (fun _ R s=>s.heap.get? l=some ⟨.type "list",dd,.seq its n,sl⟩/\R (.ok (.ret (Value.ref s.heap.objs.size))) {s with heap:=s.heap.push {cls:=.type "list",data:=.seq (foldl (·++·) #[] (replicate (if its.isEmpty=true then 0 else k.toNat) its))}}):=.of_wp fun prog w A R s h=>by obtain⟨hp,g,d,tk,os⟩:=s;obtain⟨hl,h⟩:=h;have hz:=AutoListH.joined_fits h2;wp_walk using wpAny_loadPart' hl;refine wpAny_ite_false (decide_eq_false (Nat.not_lt.mpr hz)) ?_;wp_walk;exact⟨_,rfl,h⟩
section
variable{X:Cx}{c:Call}{e a b d:Expr}{p pa pb pd:P}{pos:Pos}
theorem Lq:dC X (binaryOp .Add) (fun x y H Q=>∃l b xs zs,x=.ref l/\y=.ref b/\dF X.K H l xs/\dF X.K H b zs/\xs.length+zs.length<=sizeLine/\∀p,H p=none->Q (.ref p) (upd H p (.lst (xs++zs)))):=by
 intro pins s σ H x y v u Q I rx ry h;obtain⟨l,b,xs,zs,rfl,rfl,hl,hb,hz,q⟩:=h;cases rx;cases ry;obtain⟨its,r,pl,_⟩:=I.list hl;obtain⟨its2,r2,Pn,_⟩:=I.list hb;obtain⟨⟨cls,dd,data,sl⟩,ho,hc,n,hd⟩:=id pl.isList;obtain⟨⟨cls2,dd2,data2,sl2⟩,ho2,hc2,n2,hd2⟩:=id Pn.isList;simp only at hc hd hc2 hd2;subst hc hd hc2 hd2;have e:its.toArray++its2.toArray=(its++its2).toArray:=by simp
 refine concat_meets ⟨_,ho,rfl⟩ ⟨_,ho2,rfl⟩ noFill_list_add seq_list_add PySem.F.slot_list_add PySem.F.entry_list_add (PySem.F.args_list_add_2 _ _) (list_addW l b its.toArray its2.toArray n n2 dd dd2 sl sl2 (by simp only[size_toArray];rw[<-r.length,<-r2.length];exact hz)) ⟨ho,ho2,?_⟩;rw[e];exact⟨.ref _,_,I.Ro (t':=s.toks) (r.append r2) (by rw[length_append];exact hz),rfl,q _ I.fresh⟩
theorem Hw:dC X (binaryOp .Add) (fun x y H Q=>∃a b ys,x=.ref a/\y=.ref b/\iT X.K H a []/\iT X.K H b ys/\Q (.ref b) H):=by intro pins s σ H x y v u Q I rx ry h;obtain⟨a,b,ys,rfl,rfl,ha,hb,q⟩:=h;cases rx;cases ry;obtain⟨its,r1,p1,_⟩:=I.tuple ha;obtain⟨its2,r2,p2,_⟩:=I.tuple hb;obtain⟨⟨cls,dd,data,sl⟩,ho,hc,n,hd⟩:=id p1;obtain⟨⟨cls2,dd2,data2,sl2⟩,ho2,hc2,n2,hd2⟩:=id p2;simp only at hc hd hc2 hd2;subst hc hd hc2 hd2;have e0:its=[]:=r1.pC.mpr rfl;subst e0;exact concat_meets ⟨_,ho,rfl⟩ ⟨_,ho2,rfl⟩ noFill_tuple_add seq_tuple_add slot_tuple_add entry_tuple_add (args_tuple_add_2 _ _) (tuple_addW0 a b _ its2.toArray n n2 dd dd2 sl sl2 (by simp)) ⟨ho,ho2,⟨.ref b,H,I,rfl,q⟩⟩
theorem bf:dC X (binaryOp .Add) (rD X.K (pN .add)):=by
 rintro pins s σ H x y v u Q I rx ry⟨F,d,e,r,sm,px,py,he,k⟩;replace he:qi d e=some r:=he;unfold qi at he;split at he;.cases he;rw[px.int]at rx;rw[py.int]at ry;exact RK pins s σ H _ _ v u Q I rx ry ⟨_,_,rfl,rfl,cG.cU sm (bY _) k⟩
 .rename_i xs ys;obtain⟨hl,he⟩:=bG he;subst he;obtain⟨a,vs,rfl,ha,ra⟩:=px.lst sm;obtain⟨b,us,rfl,hb,rb⟩:=py.lst sm;exact Lq pins s σ H _ _ v u Q I rx ry ⟨a,b,vs,us,rfl,rfl,ha,hb,by rw[ra.length,rb.length];exact hl,fun p hp=>wF sm (ra.append rb) hp k⟩
 . rename_i xs ys;obtain⟨hl,he⟩:=bG he;subst he;obtain⟨a,vs,rfl,ha,ra,ta⟩:=px.tup sm;obtain⟨b,us,rfl,hb,rb,tb⟩:=py.tup sm;by_cases h0:vs=[]
   . subst h0;have e0:xs=[]:=by have:=ra.length;exact List.eq_nil_of_length_eq_zero this.symm
     subst e0;exact Hw pins s σ H _ _ v u Q I rx ry ⟨a,b,us,rfl,rfl,ha,hb,cG.cU sm tb k⟩
   . refine MF pins s σ H _ _ v u Q I rx ry ⟨a,b,vs,us,rfl,rfl,ha,hb,h0,by rw[ra.length,rb.length];exact hl,fun e=>?_,fun _ p hp=>yH sm (ra.append rb) hp k⟩;subst e;have e0:ys=[]:=by have:=rb.length;exact List.eq_nil_of_length_eq_zero this.symm
     subst e0;rw[append_nil]at k;exact cG.cU sm ta k
 .rename_i x1 y1;obtain⟨hl,he⟩:=bG he;subst he;rw[px.str]at rx;rw[py.str]at ry;exact zf pins s σ H _ _ v u Q I rx ry ⟨_,_,rfl,rfl,hl,cG.cU sm (PB _) k⟩
 .cases he
theorem bK:dC X (binaryOp .Sub) (rD X.K (pN .sub)):=by
 rintro pins s σ H x y v u Q I rx ry⟨F,d,e,r,sm,px,py,he,k⟩;replace he:wI d e=some r:=he;unfold wI at he;split at he;.cases he;rw[px.int]at rx;rw[py.int]at ry;exact Rz pins s σ H _ _ v u Q I rx ry ⟨_,_,rfl,rfl,cG.cU sm (bY _) k⟩
 .cases he
theorem MT:dC X (binaryOp .Mult) (fun x y H Q=>∃l k xs,x=.ref l/\y=.int k/\dF X.K H l xs/\-(2^63)<=k/\k<2^63/\xs.length*k.toNat<=sizeLine/\∀p,H p=none->Q (.ref p) (upd H p (.lst (replicate k.toNat xs).flatten))):=by
 intro pins s σ H x y v u Q I rx ry h;obtain⟨l,k,xs,rfl,rfl,hl,h1,h2,hz,q⟩:=h;cases rx;obtain⟨t,rfl⟩:=ry;obtain⟨its,r,pl,_⟩:=I.list hl;obtain⟨⟨cls,dd,data,sl⟩,ho,hc,n,hd⟩:=id pl.isList;simp only at hc hd;subst hc hd;have hlen:its.toArray.size*k.toNat<=sizeLine:=by rw[size_toArray,<-r.length];exact hz
 have aey:¬ its.toArray.size*k.toNat>(2^63-1)/8:=by
  have:(sizeLine:Nat)<=(2^63-1)/8:=by decide
  omega
 have hnew:foldl (·++·) #[] (replicate (if its.toArray.isEmpty=true then 0 else k.toNat) its.toArray)=(replicate k.toNat its).flatten.toArray:=by
  have f0:∀m:Nat,foldl (·++·) #[] (replicate m its.toArray)=(replicate m its).flatten.toArray:=fun m=>by have:=foldl_rep its m [];rw[nil_append]at this;exact this
  rw[f0];cases its with|nil=>simp|cons a r'=>rw[if_neg (by simp)]
 refine wpAny_binaryOp_repeat_ref (T:="list") (U:="int") (by decide) ⟨_,ho,rfl⟩ (fun s'=>typeIs_int s' k t) noFill_list_mul F.fills_int_mul F.slot_int_rmul repeat_list F.slot_int_index.lookup ?_;refine call_meets F.slot_int_rmul (typeIs_int s k t) F.entry_int_rmul (F.args_int_rmul_2 _ _) (sr k t l its.toArray n dd sl) ⟨ho,rfl,⟨_,ho,rfl⟩,?_⟩;refine call_meets F.slot_list_mul ⟨_,ho,rfl⟩ F.entry_list_mul (F.args_list_mul_2 _ _) (Dn l its.toArray n dd sl k t (by rw[fitsIndex_both h1 h2];exact Bool.false_ne_true) aey (by rw[Ft hlen];exact Bool.false_ne_true)) ⟨ho,?_⟩;rw[hnew];exact⟨.ref _,_,I.Ro (t':=s.toks) (r.rep k.toNat) (by rw[len_rep,Nat.mul_comm];exact hz),rfl,q _ I.fresh⟩
theorem nJ:fillsNumberSlot (.type "tuple") "mul"=pure false:=PySem.fillsNumberSlot_seq (id:="tuple.__mul__") (r:=some (.builtin "tuple.__rmul__")) slot_tuple_mul.lookup (by decide+kernel) PySem.F.slot_tuple_rmul.lookup (by decide+kernel)
theorem uO:seqRepeat? (.type "tuple")=pure (some (.builtin "tuple.__mul__")):=by unfold seqRepeat?;rw[PySem.seqSlot_of (T:="tuple") (name:="__mul__") (id:="tuple.__mul__") slot_tuple_mul.lookup (by decide+kernel),PySem.seqSlot_of (T:="tuple") (name:="__rmul__") (id:="tuple.__rmul__") PySem.F.slot_tuple_rmul.lookup (by decide+kernel)];rfl
theorem qt(k:Int)(t:Tok)(l:Addr)(its:Array Value)(n:Nat)(dd:Option Addr)(sl:Array (Option Value)):Meets (Builtin.«int.__rmul__» ⟨[.int k t,.ref l],[]⟩) (fun _ R s=>s.heap.get? l=some ⟨.type "tuple",dd,.seq its n,sl⟩/\R (.ok (.ret Value.notImplemented)) s):=.of_wp fun prog w A R s h=>by obtain⟨hp,g,d,tk,os⟩:=s;obtain⟨hl,h⟩:=h;wp_walk;exact⟨_,rfl,h⟩
theorem zg(l:Addr)(its:Array Value)(n:Nat)(dd:Option Addr)(sl:Array (Option Value))(k:Int)(t:Tok)(h0:0<=k)(h1:k<2^63)(hz:its.size*k.toNat<=sizeLine)(hne:0<its.size):Meets (Builtin.«tuple.__mul__» ⟨[.ref l,.int k t],[]⟩) (fun _ R s=>s.heap.get? l=some ⟨.type "tuple",dd,.seq its n,sl⟩/\(k=1->R (.ok (.ret (Value.ref l))) s)/\(k≠1->R (.ok (.ret (Value.ref s.heap.objs.size))) {s with heap:=s.heap.push {cls:=.type "tuple",data:=.seq (foldl (·++·) #[] (replicate k.toNat its))}})):=.of_wp fun prog w A R s h=>by
  obtain⟨hp,g,d,tk,os⟩:=s;obtain⟨hl,q1,q2⟩:=h;have hem:its.isEmpty=false:=by cases e:its.isEmpty with|false=>rfl|true=>rw[Array.isEmpty_iff_size_eq_zero]at e;omega
  show wpAny _ _ (asIndex (.int k t)>>=_) _ _ _;wp_walk using wpAny_loadPart' hl;have hI:IsTup hp l its:=⟨_,hl,rfl,n,rfl⟩;rw[if_neg (by simp;omega)];refine wpAny_bind (PyProof.Rows.tupleItemsOf_ hI ?_);try dsimp only
  by_cases e1:k=1;.rw[if_pos (by simp[e1])];wp_walk using wpAny_loadPart' hl;exact⟨_,rfl,q1 e1⟩
  . have q:=q2 e1;rw[if_neg (by simp[hem,e1])];by_cases e0:k=0;.subst e0;rw[if_pos (by simp)];unfold tupleExact;refine wpAny_bind (wpAny_newObj_type ?_);exact wpAny_pure ⟨_,rfl,q⟩
    . have hb:(its.size:Int)*k<=sizeLine:=by
       have:((its.size*k.toNat:Nat):Int)<=(sizeLine:Nat):=by exact_mod_cast hz
       rw[Int.natCast_mul,show((k.toNat:Nat):Int)=k by omega]at this;exact this
      have hs2:(sizeLine:Int)<=(2^63-1)/8:=by decide
      rw[if_neg (by simp[hem];omega),if_neg (by omega),if_neg (by simp[Builtin.Tuple.tupleTooMany];omega)];unfold tupleExact;refine wpAny_bind (wpAny_newObj_type ?_ ?_);.exact wpAny_pure ⟨_,rfl,q⟩
      .have:=foldl_rep its.toList k.toNat [];rw[nil_append,show its.toList.toArray=its by simp]at this;show(foldl (·++·) #[] (replicate k.toNat its)).size<=sizeLine;rw[show(#[]:Array Value)=([]:List Value).toArray from rfl,this,size_toArray,len_rep,length_toList,Nat.mul_comm];exact hz
theorem Lf:dC X (binaryOp .Mult) (fun x y H Q=>∃l k xs,x=.ref l/\y=.int k/\iT X.K H l xs/\0<xs.length/\0<=k/\k<2^63/\xs.length*k.toNat<=sizeLine/\(k=1->Q (.ref l) H)/\(k≠1->∀p,H p=none->Q (.ref p) (upd H p (.tup (replicate k.toNat xs).flatten)))):=by
 intro pins s σ H x y v u Q I rx ry h;obtain⟨l,k,xs,rfl,rfl,hl,hne,h1,h2,hz,qa,qb⟩:=h;cases rx;obtain⟨t,rfl⟩:=ry;obtain⟨its,r,pl,_⟩:=I.tuple hl;obtain⟨⟨cls,dd,data,sl⟩,ho,hc,n,hd⟩:=id pl;simp only at hc hd;subst hc hd;have hlen:its.toArray.size*k.toNat<=sizeLine:=by rw[size_toArray,<-r.length];exact hz
 have hnew:foldl (·++·) #[] (replicate k.toNat its.toArray)=(replicate k.toNat its).flatten.toArray:=by have:=foldl_rep its k.toNat [];rw[nil_append]at this;exact this
 refine wpAny_binaryOp_repeat_ref (T:="tuple") (U:="int") (by decide) ⟨_,ho,rfl⟩ (fun s'=>typeIs_int s' k t) nJ F.fills_int_mul F.slot_int_rmul uO F.slot_int_index.lookup ?_;refine call_meets F.slot_int_rmul (typeIs_int s k t) F.entry_int_rmul (F.args_int_rmul_2 _ _) (qt k t l its.toArray n dd sl) ⟨ho,rfl,⟨_,ho,rfl⟩,?_⟩;refine call_meets slot_tuple_mul ⟨_,ho,rfl⟩ PySem.F.entry_tuple_mul (PySem.F.args_tuple_mul_2 _ _) (zg l its.toArray n dd sl k t h1 h2 hlen (by rw[size_toArray,<-r.length];exact hne)) ⟨ho,fun e=>⟨.ref l,H,I,rfl,qa e⟩,fun e=>?_⟩;rw[hnew];refine⟨.ref s.heap.objs.size,_,I.laid (t':=s.toks) (o:=.tup (replicate k.toNat xs).flatten) (fun b ob q=>dw q) (cR) ?_,rfl,qb e _ (I.hok.fresh (cR))⟩;exact⟨by rw[len_rep,Nat.mul_comm];exact hz,_,r.rep k.toNat,IsTup.new _ _⟩
theorem il:dC X (binaryOp .Mult) (rD X.K (pN .mul)):=by
 rintro pins s σ H x y v u Q I rx ry⟨F,d,e,r,sm,px,py,he,k⟩;replace he:qz d e=some r:=he;unfold qz at he;split at he;.obtain⟨hc,he⟩:=bG he;subst he;rw[px.int]at rx;rw[py.int]at ry;exact PK pins s σ H _ _ v u Q I rx ry ⟨_,_,rfl,rfl,hc,cG.cU sm (bY _) k⟩
 . rename_i xs i;obtain⟨⟨h1,h2,h3⟩,he⟩:=bG he;subst he;obtain⟨a,vs,rfl,ha,ra⟩:=px.lst sm;rw[py.int]at ry;have hk:i<2^63:=by have h4:=Nat.le_mul_of_pos_left i.toNat h2;have h5:i.toNat<=16777216:=le_trans h4 h3;omega
   exact MT pins s σ H _ _ v u Q I rx ry ⟨a,i,vs,rfl,rfl,ha,by omega,hk,by rw[ra.length];exact h3,fun p hp=>wF sm (ra.rep i.toNat) hp k⟩
 . rename_i xs i;obtain⟨⟨h1,h2,h3⟩,he⟩:=bG he;subst he;obtain⟨a,vs,rfl,ha,ra,rr⟩:=px.tup sm;rw[py.int]at ry;have hk:i<2^63:=by have h4:=Nat.le_mul_of_pos_left i.toNat h2;have h5:i.toNat<=16777216:=le_trans h4 h3;omega
   refine Lf pins s σ H _ _ v u Q I rx ry ⟨a,i,vs,rfl,rfl,ha,by rw[ra.length];exact h2,h1,hk,by rw[ra.length];exact h3,fun e=>?_,fun e p hp=>yH sm (ra.rep i.toNat) hp k⟩;subst e;refine cG.cU sm ?_ k;have e1:(replicate (1:Int).toNat xs).flatten=xs:=by simp
   rw[e1];exact rr
 .cases he
theorem wz:dC X (binaryOp .FloorDiv) (rD X.K (pN .fdiv)):=by
 rintro pins s σ H x y v u Q I rx ry⟨F,d,e,r,sm,px,py,he,k⟩;replace he:qF d e=some r:=he;unfold qF at he;split at he
 . rename_i i j;obtain⟨⟨h1,h2⟩,he⟩:=bG he;subst he;rw[px.int]at rx;rw[py.int]at ry;obtain⟨t,rfl⟩:=rx;obtain⟨t',rfl⟩:=ry;have hl:j.natAbs.log2<9000:=by
    have:j.natAbs<2^200:=by
     have:(2:Nat)^200=1606938044258990275541962092341162602522202993782792835301376:=by decide
     omega
    have h3:=(Nat.log2_lt (by omega)).mpr this;omega
   exact floordiv_int (by omega) (by rw[Int.fdiv_eq_ediv_of_nonneg i (by omega)];exact⟨.int _,H,I.tok _,⟨_,rfl⟩,cG.cU sm (bY _) k⟩) (.inl (PyProof.noPylong_of_log2 hl))
 .cases he
theorem gW:dC X (binaryOp .Mod) (rD X.K (pN .mod)):=by
 rintro pins s σ H x y v u Q I rx ry⟨F,d,e,r,sm,px,py,he,k⟩;replace he:xj d e=some r:=he;unfold xj at he;split at he;.obtain⟨h1,he⟩:=bG he;subst he;rw[px.int]at rx;rw[py.int]at ry;exact Rq pins s σ H _ _ v u Q I rx ry ⟨_,_,rfl,rfl,h1,cG.cU sm (bY _) k⟩
 .cases he
theorem jh:dC X (binaryOp .Pow) (rD X.K (pN .pow)):=by
 rintro pins s σ H x y v u Q I rx ry⟨F,d,e,r,sm,px,py,he,k⟩;replace he:wU d e=some r:=he;unfold wU at he;split at he;.obtain⟨⟨h1,h2,h3⟩,he⟩:=bG he;subst he;rw[px.int]at rx;rw[py.int]at ry;exact SM pins s σ H _ _ v u Q I rx ry ⟨_,_,rfl,rfl,⟨h1,by omega,h3⟩,cG.cU sm (bY _) k⟩
 .cases he
theorem Ln:dC X (binaryOp .LShift) (rD X.K (pN .shl)):=by
 rintro pins s σ H x y v u Q I rx ry⟨F,d,e,r,sm,px,py,he,k⟩;replace he:v7 d e=some r:=he;unfold v7 at he;split at he;.obtain⟨⟨h1,h2,h3⟩,he⟩:=bG he;subst he;rw[px.int]at rx;rw[py.int]at ry;exact RB pins s σ H _ _ v u Q I rx ry ⟨_,_,rfl,rfl,⟨h1,by omega,h3⟩,cG.cU sm (bY _) k⟩
 .cases he
theorem LR:dC X (binaryOp .RShift) (rD X.K (pN .shr)):=by
 rintro pins s σ H x y v u Q I rx ry⟨F,d,e,r,sm,px,py,he,k⟩;replace he:wX d e=some r:=he;unfold wX at he;split at he;.obtain⟨h1,he⟩:=bG he;subst he;rw[px.int]at rx;rw[py.int]at ry;exact Rr pins s σ H _ _ v u Q I rx ry ⟨_,_,rfl,rfl,h1,cG.cU sm (bY _) k⟩
 .cases he
theorem HB:dC X (binaryOp .BitAnd) (rD X.K (pN .band)):=by
 rintro pins s σ H x y v u Q I rx ry⟨F,d,e,r,sm,px,py,he,k⟩;replace he:pX d e=some r:=he;unfold pX at he;split at he;.cases he;rw[px.int]at rx;rw[py.int]at ry;exact Qt pins s σ H _ _ v u Q I rx ry ⟨_,_,rfl,rfl,cG.cU sm (bY _) k⟩
 .cases he
theorem aA{o:Op}{op:Operator}(ho:dC X (binaryOp op) (rD X.K (pN o)))(ha:SX X c a pa)(hb:SX X c b pb):SX X c (.BinOp a op b pos) (.bin o pa pb):=uv (fun h1 h2=>VM ho h1 h2) ha hb (fun ρ=>rfl) rfl
theorem lA(ha:SX X c a pa):SX X c (.UnaryOp .USub a pos) (.neg pa):=by refine Qp (f:=Gh) (fun h1=>Wl ?_ h1) ha (fun ρ=>rfl) rfl;rintro pins s σ H x v Q I rx⟨F,d,r,sm,px,he,k⟩;unfold Gh at he;obtain⟨i,e1,e2⟩:=map_some he;subst e2;cases d<;>cases e1;rw[px.int]at rx;exact RW pins s σ H _ v Q I rx ⟨_,rfl,cG.cU sm (bY _) k⟩
theorem Bg{f:Int->Int->Bool}(ho:dC X (compareOp op) (Gs fun i j=>.bl (f i j))):dC X (compareOp op) (rD X.K fun x y=>(J6 f x y).map fun k=>.val (.bl k)):=by
 rintro pins s σ H x y v u Q I rx ry⟨F,d,e,r,sm,px,py,he,k⟩;obtain⟨t,e1,e2⟩:=map_some (show(J6 f d e).map _=some r from he);subst e2;unfold J6 at e1;split at e1;.cases e1;rw[px.int]at rx;rw[py.int]at ry;exact ho pins s σ H _ _ v u Q I rx ry ⟨_,_,rfl,rfl,cG.cU sm (eN _) k⟩
 .cases e1
theorem yN{f:Int->Int->Bool}(ho:dC X (compareOp op) (Gs fun i j=>.bl (f i j))){o:Cm}(hc:cm o=J6 f):dC X (compareOp op) (rD X.K (kW o)):=by
 have e:kW o=fun x y=>(J6 f x y).map fun k=>.val (.bl k):=by funext x y;unfold kW;rw[hc]
 rw[e];exact Bg ho
theorem Qs:dC X (compareOp .Lt) (rD X.K fun x y=>(J6 (fun i j=>decide (i<j)) x y).map fun k=>.val (.bl k)):=Bg WW
theorem lz:dC X (compareOp .LtE) (rD X.K (kW .le)):=yN Ye rfl
theorem iW:dC X (compareOp .Gt) (rD X.K (kW .gt)):=yN Yt rfl
theorem Ip:dC X (compareOp .GtE) (rD X.K (kW .ge)):=yN VN rfl
theorem tV{d:D}(h:dz K F H v d):decide (v=.non)=iH d:=by cases d with
 |non=>rw[h.non];rfl|bl _=>rw[h.bl];rfl|int _=>rw[h.int];rfl|str _=>rw[h.str];rfl|tup _=>
   rcases h with h|⟨a,_,_,rfl,_⟩;.rw[Rep]at h;obtain⟨a,_,rfl,_⟩:=h;rfl
   .rfl|lst _=>
   rcases h with h|⟨a,_,_,rfl,_⟩;.rw[Rep]at h;obtain⟨a,_,rfl,_⟩:=h;rfl
   .rfl|dN _=>
   rcases h with h|⟨a,_,_,rfl,_⟩;.rw[Rep]at h;obtain⟨a,_,rfl,_⟩:=h;rfl
   .rfl|dv _ _=>
   rcases h with h|⟨a,_,_,rfl,_⟩;.rw[Rep]at h;obtain⟨a,_,_,rfl,_⟩:=h;rfl
   .rfl
theorem Fy:dC X (compareOp .Is) (rD X.K (kW .Yy)):=by
 rintro pins s σ H x y v u Q I rx ry⟨F,d,e,r,sm,px,py,he,k⟩;obtain⟨t,e1,e2⟩:=map_some (show(Ua false d e).map _=some r from he);subst e2;unfold Ua at e1;split at e1;.cases e1;exact Rv pins s σ H x y v u Q I rx ry ⟨py.non,by rw[tV px];exact cG.cU sm (eN _) k⟩
 .cases e1
theorem vq:dC X (compareOp .IsNot) (rD X.K (kW .Eo)):=by
 rintro pins s σ H x y v u Q I rx ry⟨F,d,e,r,sm,px,py,he,k⟩;obtain⟨t,e1,e2⟩:=map_some (show(Ua true d e).map _=some r from he);subst e2;unfold Ua at e1;split at e1;.cases e1;exact Nj pins s σ H x y v u Q I rx ry ⟨py.non,by rw[tV px];exact cG.cU sm (eN _) k⟩
 .cases e1
theorem dU{o:Cm}(ho:dC X (compareOp op) (rD X.K (kW o)))(ha:SX X c a pa)(hb:SX X c b pb)(hm:behindInMarks op b=false):SX X c (.Compare a [op] [b] pos) (.cmp o pa pb):=uv (fun h1 h2=>Mg ho h1 h2 hm) ha hb (fun ρ=>rfl) rfl
theorem JG{o o':Cm}{op':CmpOp}(ho:dC X (compareOp op) (rD X.K (kW o)))(ho':dC X (compareOp op') (rD X.K (kW o')))(ha:SX X c a pa)(hb:SX X c b pb)(hd:SX X c d pd)(hm:lastMarks [op,op'] [b,d]=false:=by with_unfolding_all rfl):SX X c (.Compare a [op,op'] [b,d] pos) (.chain o o' pa pb pd):=by
 obtain⟨ta,tb,h1,h2,h3⟩:=ha.iw hb;obtain⟨td,h4,h5⟩:=hd.dj;refine⟨fH (Im ho ho' h1 h2 h4 hm) ?_,fun i h=>by cases h⟩;rintro σ H Q⟨F,ρ,r,ρ',g,e,k⟩;rw[HH.E10]at e;obtain⟨xy,ρ1,e1,e⟩:=ao e;obtain⟨t,ρ2,e2,e⟩:=ao e;have zz:=aB e2;clear e2;obtain⟨e2,e3⟩:=zz;subst e3;have hfl:flat xy.2=true/\cm o xy.1 xy.2=some t:=by
  split at e2;.rename_i hf;exact⟨hf,e2⟩
  .cases e2
 obtain⟨hfl,e2⟩:=hfl;refine h3 g e1 fun v u F' H' s pv pu=>⟨F',xy.1,xy.2,.val (.bl t),s.gs.sub,pv,pu,by unfold kW;rw[e2];rfl,fun w F2 H2 x rn=>?_⟩;have s2:=s.trans (x.stp s.gs);have rn:Rep X.K F2 w (.bl t):=rn;rw[Rep]at rn;subst rn;refine⟨t,rfl,?_⟩;cases t with|false=>rw[if_neg Bool.false_ne_true]at e ⊢;cases e;exact k _ F2 H2 s2 (show Rep X.K F2 _ _ from eN _)|true=>
   rw[if_pos rfl]at e ⊢;obtain⟨z,ρ3,e3,e⟩:=ao e;obtain⟨e4,e5⟩:=aB e;subst e5;refine h5 s2.gs e3 fun w F3 H3 s3 pw=>⟨F3,xy.2,z,r,s3.gs.sub,?_,pw,e4,fun w' F4 H4 x4 rn=>?_⟩
   . have x1:=x.fs;have x2:=s3.bV;rcases pu with pu|⟨_,_,_,_,_,_,h⟩;.exact .inl ((pu.mono x1).mono x2)
     .rw[h]at hfl;cases hfl
   .have s4:=s2.trans s3;exact k w' F4 H4 (s4.trans (x4.stp s4.gs)) (.later s4 (rn.nG s4.gs))
end
section
variable{X:Cx}{c:Call}{e a b d:Expr}{p pa pb pd:P}{pos:Pos}{rest:List Expr}
theorem p7{x:D}{k:Bool}(h:xP x=some k):x=.bl k:=by cases x<;>cases h;rfl
theorem di{x:D}{k:Int}(h:iV x=some k):x=.int k:=by cases x<;>cases h;rfl
theorem cT.bool{F' H':Hp}{σ':L2.St}{r:R}{k:Bool}(h:cT K F' ρ' σ' H' ρ σ H v r)(e:r.d=.bl k):v=.bl k:=by cases r with|val d=>cases(show d=.bl k from e);have h:Rep K F' v (.bl k):=h;rw[Rep]at h;exact h|own ds=>cases e
def ST(X:Cx)(c:Call)(e:Expr)(p:P):Prop:=PT X e (EY X.K (ji (HH.ev c p)))
def SW(X:Cx)(c:Call)(e:Expr)(p:P):Prop:=PW X e (EY X.K (ji (HH.ev c p)))
theorem SW.st(h:SW X c e p):ST X c e p:=PW.pt h
theorem nY{t:TE}{Q:Bool->Hp->Prop}(hi:∀Q,vR X.K (HH.ev c p) σ H Q->t σ H Q)(h:EY X.K (ji (HH.ev c p)) σ H Q):t σ H fun x H1=>∃k,x=.bl k/\Q k H1:=by obtain⟨F,ρ,k,ρ',g,e,q⟩:=h;obtain⟨r,ρ1,e1,e2⟩:=ao e;have zz:=aB e2;clear e2;obtain⟨e2,e3⟩:=zz;subst e3;exact hi _ ⟨F,ρ,r,ρ1,g,e1,fun v F' H' s rr=>⟨k,rr.bool (p7 e2),q F' H' s⟩⟩
theorem gD(h:SX X c e p)(he:∀whole,isTrue e X.env whole=(do let v<-whole;standAt e.pos;holding [v] (truthy v)):=by intro _;rfl):ST X c e p:=tO (Qw h.ev he) fun σ H Q q=>nY (fun _ z=>z) q
theorem aX{o:Cm}(ho:dC X (compareOp op) (rD X.K (kW o)))(ha:SX X c a pa)(hb:SX X c b pb)(hm:behindInMarks op b=false):ST X c (.Compare a [op] [b] pos) (.cmp o pa pb):=by obtain⟨ta,tb,h1,h2,h3⟩:=ha.iw hb;refine tO (Bw ho h1 h2 hm) fun σ H Q q=>nY (t:=Qg (rD X.K (kW o)) ta tb) (fun Q z=>?_) q;obtain⟨F,ρ,r,ρ',g,e,k⟩:=z;rw[HH.E9]at e;obtain⟨xy,ρ1,e1,e2⟩:=ao e;have zz:=aB e2;clear e2;obtain⟨e2,e3⟩:=zz;subst e3;refine h3 g e1 fun v u F' H' s pv pu=>⟨F',xy.1,xy.2,r,s.gs.sub,pv,pu,e2,fun w F2 H2 x rn=>?_⟩;exact k w F2 H2 (s.trans (x.stp s.gs)) (.later s (rn.nG s.gs))
theorem jd(ha:ST X c a pa):ST X c (.UnaryOp .Not a pos) (.not pa):=by
 refine tO (R4 ha) ?_;rintro σ H Q⟨F,ρ,k,ρ',g,e,q⟩;unfold ji at e;rw[HH.E6]at e;obtain⟨r,ρ1,e1,e2⟩:=ao e;obtain⟨k',ρ2,e3,e4⟩:=ao e1;cases e4;have zz:=aB e2;clear e2;obtain⟨e2,e5⟩:=zz;subst e5;have e2:(!k')=k:=by cases e2;rfl
 exact⟨F,ρ,k',_,g,e3,fun F' H' s=>by show Q (!k') H';rw[e2];exact q F' H' s⟩
theorem Mm(ρ:List Sl):ji (HH.ev c (.and pa pb)) ρ=(ji (HH.ev c pa) ρ).bind fun x ρ=>if x then ji (HH.ev c pb) ρ else .ok false ρ:=by unfold ji;rw[HH.E7];unfold ji;cases HH.ev c pa ρ with|exc _ _=>rfl|stuck=>rfl|ok r ρ1=>simp only[Res.bind];cases h:xP r.d with|none=>rfl|some k=>cases k with|false=>rfl|true=>simp only[lift,if_true];cases HH.ev c pb ρ1 with|exc _ _=>rfl|stuck=>rfl|ok r2 ρ2=>simp only[Res.bind];cases h2:xP r2.d with|none=>rfl|some k2=>rfl
theorem RL(ρ:List Sl):ji (HH.ev c (.or pa pb)) ρ=(ji (HH.ev c pa) ρ).bind fun x ρ=>if x then .ok true ρ else ji (HH.ev c pb) ρ:=by unfold ji;rw[HH.E8];unfold ji;cases HH.ev c pa ρ with|exc _ _=>rfl|stuck=>rfl|ok r ρ1=>simp only[Res.bind];cases h:xP r.d with|none=>rfl|some k=>cases k with|true=>rfl|false=>simp only[lift,false_eq_true,if_false];cases HH.ev c pb ρ1 with|exc _ _=>rfl|stuck=>rfl|ok r2 ρ2=>simp only[Res.bind];cases h2:xP r2.d with|none=>rfl|some k2=>rfl
theorem pA(ha:ST X c a pa):SW X c (.BoolOp .And [a] pos) pa:=Mx ha
theorem je(ha:ST X c a pa):SW X c (.BoolOp .Or [a] pos) pa:=RZ ha
theorem u6(ha:ST X c a pa)(hb:SW X c (.BoolOp .And (b::rest) pos) pb):SW X c (.BoolOp .And (a::b::rest) pos) (.and pa pb):=by refine Oe (Tf ha hb) ?_;rintro σ H Q⟨F,ρ,k,ρ',g,e,q⟩;rw[Mm]at e;obtain⟨x,ρ1,e1,e⟩:=ao e;refine⟨F,ρ,x,ρ1,g,e1,fun F1 H1 s1=>?_⟩;cases x with|true=>rw[if_pos rfl]at e ⊢;exact⟨F1,ρ1,k,ρ',s1.gs,e,fun F2 H2 s2=>q F2 H2 (s1.trans s2)⟩|false=>rw[if_neg Bool.false_ne_true]at e ⊢;cases e;exact q F1 H1 s1
theorem kJ(ha:ST X c a pa)(hb:SW X c (.BoolOp .Or (b::rest) pos) pb):SW X c (.BoolOp .Or (a::b::rest) pos) (.or pa pb):=by refine Oe (Wg ha hb) ?_;rintro σ H Q⟨F,ρ,k,ρ',g,e,q⟩;rw[RL]at e;obtain⟨x,ρ1,e1,e⟩:=ao e;refine⟨F,ρ,x,ρ1,g,e1,fun F1 H1 s1=>?_⟩;cases x with|true=>rw[if_pos rfl]at e ⊢;cases e;exact q F1 H1 s1|false=>rw[if_neg Bool.false_ne_true]at e ⊢;exact⟨F1,ρ1,k,ρ',s1.gs,e,fun F2 H2 s2=>q F2 H2 (s1.trans s2)⟩
theorem mU{op}(ha:SX X c a pa):PE X (.BoolOp op [a] pos) (vR X.K (HH.ev c pa)):=S8 ha.ev
theorem jQ(ha:SX X c a pa)(hb:PE X (.BoolOp .And (b::rest) pos) (vR X.K (HH.ev c pb))):SX X c (.BoolOp .And (a::b::rest) pos) (.and pa pb):=by refine⟨fH (Rn ha.ev hb) ?_,fun i h=>by cases h⟩;rintro σ H Q⟨F,ρ,r,ρ',g,e,k⟩;rw[HH.E7]at e;obtain⟨x,ρ1,e1,e⟩:=ao e;refine nY (c:=c) (fun _ z=>z) (Q:=fun x H1=>if x=true then vR X.K (HH.ev c pb) σ H1 Q else Q (.bl false) H1) ⟨F,ρ,x,ρ1,g,e1,fun F1 H1 s1=>?_⟩;cases x with|true=>rw[if_pos rfl]at e ⊢;obtain⟨y,ρ2,e2,e3⟩:=ao e;cases e3;obtain⟨r2,ρ3,e4,e5⟩:=ao e2;have zz:=aB e5;clear e5;obtain⟨e5,e6⟩:=zz;subst e6;refine⟨F1,ρ1,r2,_,s1.gs,e4,fun v F2 H2 s2 rr=>?_⟩;rw[rr.bool (p7 e5)];exact k _ F2 H2 (s1.trans s2) (show Rep X.K F2 _ _ from eN _)|false=>rw[if_neg Bool.false_ne_true]at e ⊢;cases e;exact k _ F1 H1 s1 (show Rep X.K F1 _ _ from eN _)
theorem vg(hc:ST X c e p)(ha:SX X c a pa)(hb:SX X c b pb):SX X c (.IfExp e a b pos) (.Ph p pa pb):=by refine⟨fH (Jx hc ha.ev hb.ev) ?_,fun i h=>by cases h⟩;rintro σ H Q⟨F,ρ,r,ρ',g,e,k⟩;rw[HH.E11]at e;obtain⟨x,ρ1,e1,e⟩:=ao e;refine⟨F,ρ,x,ρ1,g,e1,fun F1 H1 s1=>?_⟩;cases x with|true=>rw[if_pos rfl]at e ⊢;obtain⟨r2,ρ2,e2,e3⟩:=ao e;cases e3;refine⟨F1,ρ1,r2,_,s1.gs,e2,fun v F2 H2 s2 rr=>?_⟩;obtain⟨F3,s3,_,rp⟩:=s2.cX rr;exact k v F3 H2 (s1.trans s3) rp|false=>rw[if_neg Bool.false_ne_true]at e ⊢;obtain⟨r2,ρ2,e2,e3⟩:=ao e;cases e3;refine⟨F1,ρ1,r2,_,s1.gs,e2,fun v F2 H2 s2 rr=>?_⟩;obtain⟨F3,s3,_,rp⟩:=s2.cX rr;exact k v F3 H2 (s1.trans s3) rp
theorem uz:∀{ps:List P}{ρ ρ':List Sl}{ds:List D},evs c ps ρ=.ok ds ρ'->ds.length=ps.length|[],_,_,_,h=>by rw[evs]at h;cases h;rfl|p::ps,_,_,_,h=>by rw[evs]at h;obtain⟨r,ρ1,_,h⟩:=ao h;obtain⟨xs,ρ2,h2,h⟩:=ao h;cases h;simp[uz h2]
theorem aK:SA X c [] []:=⟨wO eU fun σ H Q⟨F,ρ,ds,ρ',g,e,k⟩=>by rw[evs]at e;cases e;exact k [] F H (.refl g) .nil,rfl⟩
theorem pG{ps:List P}(ha:SX X c a pa)(hr:SA X c es ps)(hs:starEach (a::es) X.env=(false,eval a X.env)::starEach es X.env:=by rfl):SA X c (a::es) (pa::ps):=by refine⟨wO (cO ha.ev hr.1 hs) ?_,by simp[hr.2]⟩;rintro σ H Q⟨F,ρ,ds,ρ',g,e,k⟩;rw[evs]at e;obtain⟨r,ρ1,e1,e⟩:=ao e;obtain⟨xs,ρ2,e2,e⟩:=ao e;cases e;refine⟨F,ρ,r,ρ1,g,e1,fun v F' H' s rr=>?_⟩;obtain⟨F1,s1,_,rp⟩:=s.cX rr;refine⟨F1,ρ1,xs,_,s1.gs,e2,fun vs F2 H2 s2 rs=>?_⟩;exact k _ F2 H2 (s1.trans s2) (.cons (rp.mono s2.bV) rs)
theorem Ext.LC{H0 F0:Hp}{Q:VK}{xs:List V}(s:aU K F0 ρ σ H0 F ρ' σ H)(r:aL K F xs ds)(k:∀v F' H',aU K F0 ρ σ H0 F' ρ' σ H'->cT K F' ρ' σ H' ρ σ H0 v (.val (.tup ds))->Q v H')(p:Addr)(hp:H p=none):Q (.ref p) (upd H p (.tup xs)):=yH s.gs.sub r hp fun v F' H' x rn=>k v F' H' (s.trans (x.stp s.gs)) rn
theorem bF{ps:List P}{x1}(h:SA X c es ps)(hz:ps.length<=sizeLine:=by decide):SX X c (.Tuple es x1 pos) (.tup ps):=by refine⟨fH (S5 h.1) ?_,fun i h=>by cases h⟩;rintro σ H Q⟨F,ρ,r,ρ',g,e,k⟩;rw[HH.E12]at e;obtain⟨ds,ρ1,e1,e⟩:=ao e;cases e;exact⟨F,ρ,ds,_,g,e1,fun vs F' H' s rs=>⟨by rw[rs.length,uz e1];exact hz,fun p hp=>Ext.LC s rs k p hp⟩⟩
theorem cA{ps:List P}(h:SA X c es ps)(hz:ps.length<=sizeLine:=by decide):SX X c (.List es pos) (.lst ps):=by refine⟨fH (R7 h.1) ?_,fun i h=>by cases h⟩;rintro σ H Q⟨F,ρ,r,ρ',g,e,k⟩;rw[HH.E13]at e;obtain⟨ds,ρ1,e1,e⟩:=ao e;cases e;exact⟨F,ρ,ds,_,g,e1,fun vs F' H' s rs=>⟨by rw[rs.length,uz e1];exact hz,fun p hp=>wF s.gs.sub rs hp fun v F2 H2 x rn=>k v F2 H2 (s.trans (x.stp s.gs)) (.later s (rn.nG s.gs))⟩⟩
theorem Gq{i:Int}{d:D}(h:at' ds i=some d):∃j,L2.iD ds.length i=some j/\ds[j]?=some d:=cF h
theorem abn:Y7 X (rD X.K DK):=by
 rintro value slice pins s σ H x y v u Q I rx ry⟨F,d,e,r,sm,px,py,he,k⟩hs;unfold DK at he;obtain⟨ds,e1,he⟩:=cF he;obtain⟨i,e2,he⟩:=cF he;obtain⟨z,e3,he⟩:=map_some he;subst he;cases di e2;rw[py.int]at ry;obtain⟨p,xs,rfl,hq,rs⟩:=px.items sm e1;obtain⟨j,h1,h2⟩:=Gq e3;obtain⟨w,h3,h4⟩:=rs.get h2;have hat:GX xs i=some w:=by unfold GX;rw[rs.length,h1];exact h3
 rcases hq with hq|hq;.exact Bt value slice pins s σ H _ _ v u Q I rx ry ⟨p,xs,i,w,rfl,rfl,hq,hat,cG.cU sm h4 k⟩ hs
 .exact RG value slice pins s σ H _ _ v u Q I rx ry ⟨p,xs,i,w,rfl,rfl,hq,hat,cG.cU sm h4 k⟩ hs
theorem ak(ha:SX X c a pa)(hb:SX X c b pb)(hs:vh b:=by intro _ _;rfl):SX X c (.Subscript a b pos) (.idx pa pb):=uv (f:=DK) (fun h1 h2=>Ol abn h1 h2 hs) ha hb (fun ρ=>rfl) rfl
def J7(K:PySem.W.Frag)(f:D->Option R):List V->Hp->VK->Prop:=fun xs H Q=>∃x,xs=[x]/\rD1 K f x H Q
theorem lM{E:Expr}{f:D->Option R}{q:P}(hp:∀{t},PA X [a] t->PE X E (tCB (J7 X.K f) t))(ha:SX X c a pa)(hq:∀ρ,HH.ev c q ρ=(HH.dj (isVar pa) (HH.ev c pa) ρ).bind fun x ρ=>lift (f x) ρ)(hv:isVar q=none)(hs:starEach [a] X.env=(false,eval a X.env)::starEach [] X.env:=by rfl):SX X c E q:=by obtain⟨ta,h1,h3⟩:=ha.dj;refine⟨fH (hp (cO h1 eU hs)) ?_,fun i h=>by rw[hv]at h;cases h⟩;rintro σ H Q⟨F,ρ,r,ρ',g,e,k⟩;rw[hq]at e;obtain⟨x,ρ1,e1,e2⟩:=ao e;have zz:=aB e2;clear e2;obtain⟨e2,e3⟩:=zz;subst e3;refine h3 g e1 fun v F' H' s pv=>⟨v,rfl,F',x,r,s.gs.sub,pv,e2,fun w F2 H2 x rn=>?_⟩;exact k w F2 H2 (s.trans (x.stp s.gs)) (.later s (rn.nG s.gs))
theorem Yk:fL X (.builtin "len") (J7 X.K fun x=>blt .len [x]):=by rintro pins s σ H xs us Q I r⟨x,hx,F,d,r',sm,px,he,k⟩;obtain⟨ds,e1,he⟩:=map_some (show(items d).map _=some r' from he);subst he;obtain⟨p,ys,rfl,hq,rs⟩:=px.items sm e1;exact u9 pins s σ H xs us Q I r ⟨p,ys,hx,hq,by rw[rs.length];exact cG.cU sm (bY _) k⟩
theorem Rw:fL X (.type "list") (J7 X.K fun x=>blt .list [x]):=by rintro pins s σ H xs us Q I r⟨x,hx,F,d,r',sm,px,he,k⟩;obtain⟨ds,e1,he⟩:=map_some (show(items d).map _=some r' from he);subst he;obtain⟨p,ys,rfl,hq,rs⟩:=px.items sm e1;exact uK pins s σ H xs us Q I r ⟨p,ys,hx,hq,fun l hl=>wF sm rs hl k⟩
theorem Nf:fL X (.type "tuple") (J7 X.K fun x=>blt .tuple [x]):=by rintro pins s σ H xs us Q I r⟨x,hx,F,d,r',sm,px,he,k⟩;obtain⟨ds,e1,he⟩:=map_some (show(items d).map _=some r' from he);subst he;cases d with|tup es=>cases e1;obtain⟨a,ys,rfl,hq,rs,rt⟩:=px.tup sm;exact lg pins s σ H xs us Q I r ⟨a,ys,hx,.inr ⟨hq,cG.cU sm rt k⟩⟩|lst es=>cases e1;obtain⟨a,ys,rfl,hq,rs⟩:=px.lst sm;exact lg pins s σ H xs us Q I r ⟨a,ys,hx,.inl ⟨hq,fun l hl=>yH sm rs hl k⟩⟩|_=>cases e1
theorem dB(hx:x="len")(hg:Gl X x)(hm:X.mg x=none)(ha:SX X c a pa)(hs:starEach [a] X.env=(false,eval a X.env)::starEach [] X.env:=by rfl):SX X c (.Call (.Name x p') [a] [] pos) (.blt .len [pa]):=by subst hx;exact lM (fun h=>gG Yk hg hm PySem.boot_len h (he:=hs)) ha (fun ρ=>rfl) rfl hs
theorem Bc(hx:x="list")(hg:Gl X x)(hm:X.mg x=none)(ha:SX X c a pa)(hs:starEach [a] X.env=(false,eval a X.env)::starEach [] X.env:=by rfl):SX X c (.Call (.Name x p') [a] [] pos) (.blt .list [pa]):=by subst hx;exact lM (fun h=>nT Rw hg hm (by decide+kernel) h (he:=hs)) ha (fun ρ=>rfl) rfl hs
theorem dW(hx:x="tuple")(hg:Gl X x)(hm:X.mg x=none)(ha:SX X c a pa)(hs:starEach [a] X.env=(false,eval a X.env)::starEach [] X.env:=by rfl):SX X c (.Call (.Name x p') [a] [] pos) (.blt .tuple [pa]):=by subst hx;exact lM (fun h=>nT Nf hg hm (by decide+kernel) h (he:=hs)) ha (fun ρ=>rfl) rfl hs
end
def Lb(K:PySem.W.Frag)(np:Nat)(f:List Sl->Res R):Sp:=fun vs H Q _=>vs.length=np/\∃F args r args',GS K F args (vs.map some) H/\f args=.ok r args'/\∀v F' σ' H',aU K F args (vs.map some) H F' args' σ' H'->cT K F' args' σ' H' args (vs.map some) H v r->Q v H'
section
variable{K:PySem.W.Frag}
def zp(K:PySem.W.Frag)(F:Hp)(ρ:List Sl)(σ:L2.St)(H:Hp)(ρ₀:List Sl)(H₀:Hp)(v:V):Arg->Prop|.dat d=>Rep K F v d|.tmp ds=>∃x xs,v=.ref x/\H x=some (.lst xs)/\F x=none/\aL K F xs ds/\¬ Own ρ σ x/\(Own ρ₀ σ x\/H₀ x=none)|.fM i=>σ[i]?=some (some v)
structure vY(K:PySem.W.Frag)(F:Hp)(ρ:List Sl)(σ:L2.St)(H:Hp)(ρ₀:List Sl)(H₀:Hp)(as:List Arg)(vs:List V):Prop where
 len:as.length=vs.length
 one:∀(j:Nat)(a:Arg)(v:V),as[j]?=some a->vs[j]?=some v->zp K F ρ σ H ρ₀ H₀ v a
 dis:∀(j k:Nat)(ds es:List D)(x:Addr),as[j]?=some (.tmp ds)->as[k]?=some (.tmp es)->vs[j]?=some (.ref x)->vs[k]?=some (.ref x)->j=k
theorem zp.later{F' H':Hp}{a:Arg}(s:aU K F ρ σ H F' ρ' σ H')(h:zp K F ρ σ H ρ₀ H₀ v a):zp K F' ρ' σ H' ρ₀ H₀ v a:=by cases a with|dat d=>exact Rep.mono s.bV h|fM i=>exact h|tmp ds=>
   obtain⟨x,xs,h1,h2,h3,h4,h5,h6⟩:=h;refine⟨x,xs,h1,s.keep x _ h2 h5,?_,h4.mono s.bV,fun o=>?_,h6⟩;.cases q:F' x with|none=>rfl|some o=>
       rcases s.yd x h3 (by rw[q];simp)with z|z;.exact absurd z h5
       .exact(JB h2 z).elim
   . rcases s.vV x o with z|z;.exact h5 z
     .rw[h2]at z;cases z
theorem vY.nil:vY K F ρ σ H ρ₀ H₀ [] []:=⟨rfl,fun j a v h=>by simp at h,fun j k ds es x h=>by simp at h⟩
theorem vY.cons{F H H₀:Hp}{ρ ρ₀:List Sl}{σ:L2.St}{a:Arg}{v:V}{as:List Arg}{vs:List V}(h:zp K F ρ σ H ρ₀ H₀ v a)(t:vY K F ρ σ H ρ₀ H₀ as vs)(hd:∀ds x,a=.tmp ds->v=.ref x->∀(k:Nat)es,as[k]?=some (.tmp es)->vs[k]?≠some (.ref x)):vY K F ρ σ H ρ₀ H₀ (a::as) (v::vs):=by
 refine⟨by simp[t.len],fun j b u h1 h2=>?_,fun j k ds es x h1 h2 h3 h4=>?_⟩;.cases j with|zero=>simp at h1 h2;subst h1;subst h2;exact h|succ j=>exact t.one j b u (by simpa using h1) (by simpa using h2)
 .cases j with
   |zero=>cases k with|zero=>rfl|succ k=>simp at h1 h3;exact absurd (by simpa using h4) (hd ds x h1 h3 k es (by simpa using h2))
   |succ j=>cases k with|zero=>simp at h2 h4;exact absurd (by simpa using h3) (hd es x h2 h4 j ds (by simpa using h1))|succ k=>rw[t.dis j k ds es x (by simpa using h1) (by simpa using h2) (by simpa using h3) (by simpa using h4)]
def HQ(ρ:List Sl):Arg->Sl->Prop|.dat d,s=>s=.val false d|.tmp ds,s=>s=.own false ds|.fM i,s=>(∃b d,ρ[i]?=some (.val b d)/\s=.val false d)\/(∃b ds,ρ[i]?=some (.own b ds)/\s=.own true ds)\/∃ds,ρ[i]?=some (.lent ds)/\s=.lent ds
theorem qT{ρ:List Sl}:∀{as:List Arg}{used:List Nat}{args:List Sl},cC ρ as used=some args->args.length=as.length/\(∀(j:Nat)(a:Arg)(s:Sl),as[j]?=some a->args[j]?=some s->HQ ρ a s)/\(∀(j:Nat)(i:Nat)(s:Sl)ds,as[j]?=some (.fM i)->args[j]?=some s->lst? s=some ds->i∉used)/\(∀(j k:Nat)(i:Nat)(s t:Sl)ds es,as[j]?=some (.fM i)->as[k]?=some (.fM i)->args[j]?=some s->args[k]?=some t->lst? s=some ds->lst? t=some es->j=k)
 |[],used,args,h=>by rw[cC]at h;cases h;exact⟨rfl,fun j a s h=>by simp at h,fun j i s ds h=>by simp at h,fun j k i s t ds es h=>by simp at h⟩|a::as,used,args,h=>by--the aez slot,the aeA
   have key:∃s0 r ye,args=s0::r/\cC ρ as ye=some r/\HQ ρ a s0/\((∃i ds,a=.fM i/\lst? s0=some ds/\ye=i::used/\i∉used)\/((∀i ds,a=.fM i->lst? s0≠some ds)/\ye=used)):=by cases a with|dat d=>rw[cC]at h;obtain⟨r,e1,e2⟩:=map_some h;exact⟨_,r,used,e2.symm,e1,rfl,.inr ⟨fun i ds z=>(by cases z),rfl⟩⟩|tmp d=>rw[cC]at h;obtain⟨r,e1,e2⟩:=map_some h;exact⟨_,r,used,e2.symm,e1,rfl,.inr ⟨fun i ds z=>(by cases z),rfl⟩⟩|fM i=>
      rw[cC]at h;split at h;.rename_i b d q;obtain⟨r,e1,e2⟩:=map_some h;exact⟨_,r,used,e2.symm,e1,.inl ⟨b,d,q,rfl⟩,.inr ⟨fun _ _ _ z=>(by cases z),rfl⟩⟩
      . rename_i b ds q;split at h;.cases h
        .rename_i hu;obtain⟨r,e1,e2⟩:=map_some h;exact⟨_,r,_,e2.symm,e1,.inr (.inl ⟨b,ds,q,rfl⟩),.inl ⟨i,_,rfl,rfl,rfl,by simpa using hu⟩⟩
      . rename_i ds q;split at h;.cases h
        .rename_i hu;obtain⟨r,e1,e2⟩:=map_some h;exact⟨_,r,_,e2.symm,e1,.inr (.inr ⟨ds,q,rfl⟩),.inl ⟨i,_,rfl,rfl,rfl,by simpa using hu⟩⟩
      .cases h
   obtain⟨s0,r,ye,rfl,hr,hs0,hu⟩:=key;obtain⟨l1,l2,l3,l4⟩:=qT hr;have sub:∀i,i∉ye->i∉used:=fun i hi hm=>by
    rcases hu with⟨_,_,_,_,rfl,_⟩|⟨_,rfl⟩;.exact hi (mem_cons_of_mem _ hm)
    .exact hi hm
   refine⟨by simp[l1],fun j b s h1 h2=>?_,fun j i s ds h1 h2 h3=>?_,fun j k i s t ds es h1 h2 h3 h4 h5 h6=>?_⟩;.cases j with|zero=>simp at h1 h2;subst h1;subst h2;exact hs0|succ j=>exact l2 j b s (by simpa using h1) (by simpa using h2)
   .cases j with|zero=>
       simp at h1 h2;subst h1;subst h2;rcases hu with⟨i',_,e,_,_,hn⟩|⟨hn,_⟩;.cases e;exact hn
       .exact absurd h3 (hn i ds rfl)|succ j=>exact sub i (l3 j i s ds (by simpa using h1) (by simpa using h2) h3)
   . have z0:∀(k:Nat)(t:Sl)es,a=.fM i->lst? s0=some ds->(as[k]?=some (.fM i))->r[k]?=some t->lst? t=some es->False:=fun k t es ea e0 hk ht he=>by
      rcases hu with⟨i',_,e,_,rfl,hn⟩|⟨hn,_⟩;.rw[ea]at e;cases e;exact l3 k i t es hk ht he mem_cons_self
      .exact hn i ds ea e0
     have z1:∀(k:Nat)(t:Sl)es,a=.fM i->lst? s0=some es->(as[k]?=some (.fM i))->r[k]?=some t->lst? t=some ds->False:=fun k t es ea e0 hk ht he=>by
      rcases hu with⟨i',_,e,_,rfl,hn⟩|⟨hn,_⟩;.rw[ea]at e;cases e;exact l3 k i t ds hk ht he mem_cons_self
      .exact hn i es ea e0
     cases j with
     |zero=>cases k with|zero=>rfl|succ k=>simp at h1 h3;subst h3;exact(z0 k t es h1 h5 (by simpa using h2) (by simpa using h4) h6).elim
     |succ j=>cases k with|zero=>simp at h2 h4;subst h4;exact(z1 j s es h2 h6 (by simpa using h1) (by simpa using h3) h5).elim|succ k=>rw[l4 j k i s t ds es (by simpa using h1) (by simpa using h2) (by simpa using h3) (by simpa using h4) h5 h6]
theorem vY.get(A:vY K F ρ σ H ρ₀ H₀ as vs){args:List Sl}{j:Nat}{s:Sl}(hl:args.length=as.length)(h:args[j]?=some s):∃a v,as[j]?=some a/\vs[j]?=some v/\zp K F ρ σ H ρ₀ H₀ v a:=by
 have hj:j<args.length:=(cV h).1;have h1:j<as.length:=by omega
 have h2:j<vs.length:=by rw[<-A.len];exact h1
 exact⟨as[j],vs[j],by simp[h1],by simp[h2],A.one j _ _ (by simp[h1]) (by simp[h2])⟩
theorem args_gs{args:List Sl}(g:GS K F ρ σ H)(A:vY K F ρ σ H ρ₀ H₀ as vs)(h:cC ρ as []=some args):GS K F args (vs.map some) H:=by
 obtain⟨l1,l2,l3,l4⟩:=qT h;have up:∀{j:Nat}{v:V},vs[j]?=some v->(vs.map some)[j]?=some (some v):=fun e=>by rw[getElem?_map,e];rfl
 have dn:∀{j:Nat}{v:V},(vs.map some)[j]?=some (some v)->vs[j]?=some v:=fun{j v}e=>by rw[getElem?_map]at e;cases q:vs[j]?with|none=>rw[q]at e;cases e|some w=>rw[q]at e;cases e;rfl
 refine⟨g.sub,by rw[l1,A.len,length_map],fun j b d e=>?_,fun j s ds e e'=>?_,fun j k x⟨⟨s,ds,e1,e2⟩,e3⟩⟨⟨t,es,f1,f2⟩,f3⟩=>?_⟩;.obtain⟨a,v,h1,h2,h3⟩:=A.get l1 e;have h4:=l2 j a _ h1 e;refine⟨v,up h2,?_⟩;cases a with|dat d'=>cases h4;exact h3|tmp ds=>cases h4|fM i=>
     rcases h4 with⟨b',d',q1,q2⟩|⟨_,_,_,q2⟩|⟨_,_,q2⟩;.cases q2;obtain⟨w,q3,q4⟩:=g.val i b' d q1;have h3:σ[i]?=some (some v):=h3;rw[h3]at q3;cases q3;exact q4
     .cases q2
     .cases q2
 .obtain⟨a,v,h1,h2,h3⟩:=A.get l1 e;have h4:=l2 j a _ h1 e;cases a with|dat d'=>cases h4;cases e'|tmp es=>cases h4;cases e';obtain⟨x,xs,rfl,q2,q3,q4,_⟩:=h3;exact⟨x,_,up h2,q2,q3,xs,rfl,q4⟩|fM i=>
     have h3:σ[i]?=some (some v):=h3;rcases h4 with⟨b',d',q1,q2⟩|⟨b',es,q1,q2⟩|⟨es,q1,q2⟩;.cases q2;cases e'
     .cases q2;cases e';obtain⟨x,xs,q3,q4⟩:=g.own i _ _ q1 rfl;rw[h3]at q3;cases q3;exact⟨x,xs,up h2,q4⟩
     .cases q2;cases e';obtain⟨x,xs,q3,q4⟩:=g.own i _ _ q1 rfl;rw[h3]at q3;cases q3;exact⟨x,xs,up h2,q4⟩
 . obtain⟨a,v,h1,h2,h3⟩:=A.get l1 e1;obtain⟨a',v',h1',h2',h3'⟩:=A.get l1 f1;have e3:=dn e3;have f3:=dn f3;rw[h2]at e3;cases e3;rw[h2']at f3;cases f3;have s1:=l2 j a _ h1 e1;have s2:=l2 k a' _ h1' f1;have nm:∀{i:Nat}{s:Sl}{ds:Oc},lst? s=some ds->HQ ρ (.fM i) s->∃s' ds',ρ[i]?=some s'/\lst? s'=some ds':=fun{i s ds}l z=>by
    rcases z with⟨_,_,_,z⟩|⟨b,es,q,_⟩|⟨es,q,_⟩;.subst z;cases l
    .exact⟨_,_,q,rfl⟩
    .exact⟨_,_,q,rfl⟩
   cases a with
   |dat d=>cases s1;cases e2|tmp Tr=>cases a' with|dat d=>cases s2;cases f2|tmp NK=>exact A.dis j k Tr NK x h1 h1' h2 h2'|fM i=>obtain⟨y,_,q1,_,_,_,q2,_⟩:=h3;cases q1;obtain⟨s',ds',q3,q4⟩:=nm f2 s2;exact absurd ⟨i,⟨s',ds',q3,q4⟩,h3'⟩ q2
   |fM i=>obtain⟨s',ds',q3,q4⟩:=nm e2 s1;cases a' with|dat d=>cases s2;cases f2|tmp NK=>obtain⟨y,_,q1,_,_,_,q2,_⟩:=h3';cases q1;exact absurd ⟨i,⟨s',ds',q3,q4⟩,h3⟩ q2|fM i'=>obtain⟨s'',aeB,q5,q6⟩:=nm f2 s2;have:=g.dis i i' x ⟨⟨s',ds',q3,q4⟩,h3⟩ ⟨⟨s'',aeB,q5,q6⟩,h3'⟩;subst this;exact l4 j k i s t ds es h1 h1' e1 f1 e2 f2
theorem nZ{as:List Arg}{ss:List Sl}:∀(ρ:List Sl)(n i:Nat),(dh as ss n ρ)[i]?=(ρ[i]?).map fun s=>dZ s (bD (n+i) as ss)
 |[],n,i=>by simp[dh]|s::ρ,n,0=>by simp[dh]|s::ρ,n,i+1=>by
   rw[dh];simp only[getElem?_cons_succ];rw[nZ ρ (n+1) i];have:n+1+i=n+(i+1):=by omega
   rw[this]
theorem nH{as:List Arg}{ss:List Sl}:∀(ρ:List Sl)(n:Nat),(dh as ss n ρ).length=ρ.length|[],n=>rfl|s::ρ,n=>by rw[dh];simp[nH ρ]
theorem jf{i:Nat}:∀{as:List Arg}{ss:List Sl}{t:Sl},bD i as ss=some t->∃j:Nat,as[j]?=some (.fM i)/\ss[j]?=some t
 |[],_,_,h=>by simp[bD]at h|a::as,[],_,h=>by cases a<;>simp[bD]at h|a::as,s::ss,t,h=>by
   have tl:bD i as ss=some t->∃j:Nat,(a::as)[j]?=some (.fM i)/\(s::ss)[j]?=some t:=fun h=>by obtain⟨j,h1,h2⟩:=jf h;exact⟨j+1,by simpa using h1,by simpa using h2⟩
   cases a with|dat d=>exact tl (by simpa[bD]using h)|tmp d=>exact tl (by simpa[bD]using h)|fM k=>
     rw[bD]at h;split at h;.rename_i hk;cases h;subst hk;exact⟨0,rfl,rfl⟩
     .exact tl h
theorem lB{i:Nat}:∀{as:List Arg}{ss:List Sl},as.length=ss.length->bD i as ss=none->∀j:Nat,as[j]?≠some (.fM i)
 |[],_,_,_=>fun j h=>by simp at h|a::as,[],hl,_=>by simp at hl|a::as,s::ss,hl,h=>fun j hj=>by
   have hl':as.length=ss.length:=by simpa using hl
   have tl:bD i as ss=none/\a≠.fM i:=by cases a with|dat d=>exact⟨by simpa[bD]using h,by simp⟩|tmp d=>exact⟨by simpa[bD]using h,by simp⟩|fM k=>
      rw[bD]at h;split at h;.cases h
      .rename_i hk;exact⟨h,fun e=>hk (by cases e;rfl)⟩
   cases j with|zero=>simp at hj;exact tl.2 hj|succ j=>exact lB hl' tl.1 j (by simpa using hj)
theorem Gw{F₀ F' H':Hp}{args args':List Sl}{σ':L2.St}(s0:aU K F₀ ρ₀ σ H₀ F ρ σ H)(A:vY K F ρ σ H ρ₀ H₀ as vs)(hb:cC ρ as []=some args)(s:aU K F args (vs.map some) H F' args' σ' H'):aU K F₀ ρ₀ σ H₀ F' (dh as args' 0 ρ) σ H'/\∀v r,cT K F' args' σ' H' args (vs.map some) H v r->cT K F' (dh as args' 0 ρ) σ H' ρ₀ σ H₀ v r:=by
 have g:=s0.gs;obtain⟨l1,l2,l3,l4⟩:=qT hb;have up:∀{j:Nat}{v:V},vs[j]?=some v->(vs.map some)[j]?=some (some v):=fun e=>by rw[getElem?_map,e];rfl
 have dn:∀{j:Nat}{v:V},(vs.map some)[j]?=some (some v)->vs[j]?=some v:=fun{j v}e=>by rw[getElem?_map]at e;cases q:vs[j]?with|none=>rw[q]at e;cases e|some w=>rw[q]at e;cases e;rfl
 have la:as.length=args'.length:=by rw[s.len,l1]--whose are the lists that the callee holds
 have own:∀b,Own args (vs.map some) b->(∃(j:Nat)(ds:List D),as[j]?=some (Arg.tmp ds)/\vs[j]?=some (V.ref b)/\¬ Own ρ σ b/\(Own ρ₀ σ b\/H₀ b=none))\/Own ρ σ b:=fun b⟨j,⟨sl,ds,e1,e2⟩,e3⟩=>by obtain⟨a,v,h1,h2,h3⟩:=A.get l1 e1;have s1:=l2 j a _ h1 e1;have e3:=dn e3;rw[h2]at e3;cases e3;cases a with|dat d=>cases s1;cases e2|tmp es=>obtain⟨x,_,q1,_,_,_,q2,q3⟩:=h3;cases q1;exact .inl ⟨j,es,h1,h2,q2,q3⟩|fM i=>
    right;rcases s1 with⟨_,_,_,z⟩|⟨b',es,q,_⟩|⟨es,q,_⟩;.subst z;cases e2
    .exact⟨i,⟨_,_,q,rfl⟩,h3⟩
    .exact⟨i,⟨_,_,q,rfl⟩,h3⟩
 have back:∀b,Own ρ σ b\/H b=none->Own ρ₀ σ b\/H₀ b=none:=fun b h=>by
  rcases h with h|h;.exact s0.vV b h
  . by_cases ho:Own ρ₀ σ b;.exact .inl ho
    .right;cases e:H₀ b with|none=>rfl|some o=>rw[s0.keep b o e ho]at h;cases h
 have own':∀b,Own args (vs.map some) b->Own ρ₀ σ b\/H₀ b=none:=fun b h=>by
  rcases own b h with⟨_,_,_,_,_,z⟩|z;.exact z
  .exact back b (.inl z)--a name's slot behind the call
 have slot:∀{i:Nat}{t:Sl},(dh as args' 0 ρ)[i]?=some t->∃s1,ρ[i]?=some s1/\t=dZ s1 (bD i as args'):=fun{i t}h=>by rw[nZ]at h;obtain⟨s1,e1,e2⟩:=map_some h;exact⟨s1,e1,by rw[<-e2,Nat.zero_add]⟩
 have YC:∀{i:Nat}{s1:Sl},ρ[i]?=some s1->(dh as args' 0 ρ)[i]?=some (dZ s1 (bD i as args')):=fun{i s1}h=>by rw[nZ,h,Nat.zero_add];rfl--what the callee left of a list that was lent to it
 have lent:∀{i j:Nat}{s1 t:Sl}{ds:List D},ρ[i]?=some s1->lst? s1=some (.l ds)->as[j]?=some (.fM i)->args'[j]?=some t->∃v s2,σ[i]?=some (some v)/\σ'[j]?=some (some v)/\args[j]?=some s2/\lW s2 t/\((∃b,s1=.own b ds/\s2=.own true ds)\/(s1=.lent ds/\s2=.lent ds)):=fun{i j s1 t ds}h1 h2 h3 h4=>by
  have hj:j<args.length:=by rw[l1];exact(cV h3).1
  have e1:args[j]?=some args[j]:=by simp[hj]
  obtain⟨a,v,q1,q2,q3⟩:=A.get l1 e1;rw[h3]at q1;cases q1;have q4:=l2 j _ _ h3 e1;have kind:(∃b,s1=.own b ds/\args[j]=.own true ds)\/(s1=.lent ds/\args[j]=.lent ds):=by
   rcases q4 with⟨_,_,z,_⟩|⟨b,es,z,z'⟩|⟨es,z,z'⟩;.rw[h1]at z;cases z;cases h2
   .rw[h1]at z;cases z;cases h2;exact .inl ⟨b,rfl,z'⟩
   .rw[h1]at z;cases z;cases h2;exact .inr ⟨rfl,z'⟩
  have lk:vz args[j]=true:=by rcases kind with⟨_,_,z⟩|⟨_,z⟩<;>rw[z]<;>rfl
  obtain⟨z1,s',z2,z3⟩:=s.lk j _ e1 lk;rw[h4]at z2;cases z2;exact⟨v,_,q3,by rw[z1];exact up q2,e1,z3,kind⟩
 have NP:∀{i:Nat}{x:Addr},bJ (dh as args' 0 ρ) σ i x->bJ ρ σ i x:=fun{i x}⟨⟨t,ds,e1,e2⟩,e3⟩=>by obtain⟨s1,q1,q2⟩:=slot e1;refine⟨?_,e3⟩;cases s1 with|aV=>subst q2;cases e2|val b d=>subst q2;cases e2|own b es=>exact⟨_,_,q1,rfl⟩|lent es=>exact⟨_,_,q1,rfl⟩|um m=>exact⟨_,_,q1,rfl⟩|dq m=>exact⟨_,_,q1,rfl⟩|hold _=>subst q2;cases e2
 refine⟨?_,fun v r h=>?_⟩;rotate_left;.cases r with|val d=>exact h|own ds=>
     obtain⟨x,xs,h1,h2,h3,h4,h5,h6⟩:=h;refine⟨x,xs,h1,h2,h3,h4,fun⟨i,h⟩=>?_,?_⟩
     . have hO:=NP h;obtain⟨⟨s1,Tr,q1,q2⟩,q3⟩:=hO;obtain⟨x',xs',w1,w2,_⟩:=g.own i s1 Tr q1 q2;rw[q3]at w1;cases w1;rcases h6 with h6|h6
       . rcases own x h6 with⟨_,_,_,_,z,_⟩|_;.exact z ⟨i,⟨s1,Tr,q1,q2⟩,q3⟩
         .--a name was lent
           obtain⟨j,⟨sl,es,w3,w4⟩,w5⟩:=h6;obtain⟨a',v',y1,y2,y3⟩:=A.get l1 w3;have sa:=l2 j a' _ y1 w3;have w5:=dn w5;rw[y2]at w5;cases w5;cases a' with|dat d=>cases sa;cases w4|tmp es'=>obtain⟨_,_,u1,_,_,_,u2,_⟩:=y3;cases u1;exact u2 ⟨i,⟨s1,Tr,q1,q2⟩,q3⟩|fM i'=>
             have ex:∃s' ds',ρ[i']?=some s'/\lst? s'=some ds':=by
              rcases sa with⟨_,_,_,z⟩|⟨b,es,q,_⟩|⟨es,q,_⟩;.subst z;cases w4
              .exact⟨_,_,q,rfl⟩
              .exact⟨_,_,q,rfl⟩
             have:=g.dis i i' x ⟨⟨s1,Tr,q1,q2⟩,q3⟩ ⟨ex,y3⟩;subst this;have hk:∃NK,Tr=.l NK:=by
              rcases sa with⟨_,_,_,z⟩|⟨b,es,q,_⟩|⟨es,q,_⟩;.subst z;cases w4
              .rw[q1]at q;cases q;cases q2;exact⟨_,rfl⟩
              .rw[q1]at q;cases q;cases q2;exact⟨_,rfl⟩
             obtain⟨NK,rfl⟩:=hk;have hj:j<args'.length:=by rw[<-la];exact(cV y1).1
             have e':args'[j]?=some args'[j]:=by simp[hj]
             obtain⟨v2,s2,u1,u2,u3,u4,u5⟩:=lent q1 q2 y1 e';rw[q3]at u1;cases u1--the slot behind the call is a list's
             obtain⟨⟨t,dt,t1,t2⟩,_⟩:=h;obtain⟨s3,t3,t4⟩:=slot t1;rw[q1]at t3;cases t3;have lo:∃t5,bD i as args'=some t5:=by cases hl:bD i as args' with|none=>exact absurd y1 (lB la hl j)|some t5=>exact⟨t5,rfl⟩
             obtain⟨t5,hl⟩:=lo;obtain⟨j2,t6,t7⟩:=jf hl;have hj2:j2<args.length:=by rw[l1];exact(cV t6).1
             obtain⟨_,s6,_,v2',v3',v4',v5'⟩:=lent q1 q2 t6 t7;have l4':j2=j:=by
              have a1:lst? s6=some (.l NK):=by rcases v5' with⟨_,_,z⟩|⟨_,z⟩<;>rw[z]<;>rfl
              have a2:lst? s2=some (.l NK):=by rcases u5 with⟨_,_,z⟩|⟨_,z⟩<;>rw[z]<;>rfl
              exact l4 j2 j i s6 s2 _ _ t6 y1 v3' u3 a1 a2
             subst l4';rw[e']at t7;cases t7;rw[hl]at t4;refine h5 ⟨j2,?_,u2⟩;rcases u5 with⟨b,z1,z2⟩|⟨z1,z2⟩
             . subst z1;subst z2;rcases u4 with⟨d2,z⟩|⟨d2,z⟩;.exact⟨_,.l d2,e',by rw[z];rfl⟩
               .rw[z]at t4;subst t4;cases t2
             .subst z1;subst z2;exact⟨_,.l NK,e',by rw[show args'[j2]=.lent NK from u4];rfl⟩
       .rw[w2]at h6;cases h6
     . rcases h6 with h6|h6;.exact own' x h6
       .exact back x (.inr h6)
 refine⟨⟨s.gs.sub,by rw[nH];exact g.len,fun i b d e=>?_,fun i t ds e e'=>?_,fun i j x h1 h2=>g.dis i j x (NP h1) (NP h2)⟩,s0.bV.trans s.bV,fun b n n'=>?_,fun b o h n=>?_,fun b⟨i,h⟩=>back b (.inl ⟨i,NP h⟩),by rw[nH];exact s0.len,fun i s1 h l=>?_⟩;.--data
   obtain⟨s1,q1,q2⟩:=slot e;cases s1 with|aV=>cases q2|lent es=>cases q2|um _=>cases q2|dq _=>cases q2|hold _=>cases q2|val b' d'=>cases q2;obtain⟨v,z1,z2⟩:=g.val i b d q1;exact⟨v,z1,z2.mono s.bV⟩|own b' es=>cases hl:bD i as args' with|none=>rw[hl]at q2;cases q2|some t=>rw[hl]at q2;obtain⟨j,z1,z2⟩:=jf hl;obtain⟨v,s2,y1,y2,y3,y4,y5⟩:=lent q1 rfl z1 z2;cases t with|aV=>cases q2|own _ _=>cases q2|lent _=>cases q2|um _=>cases q2|dq _=>cases q2|hold _=>cases q2|val b2 d2=>cases q2;obtain⟨w,x1,x2⟩:=s.gs.val j b2 d z2;rw[y2]at x1;cases x1;exact⟨v,y1,x2⟩
 .--lists
   obtain⟨s1,q1,q2⟩:=slot e--a list that was not lent
   have stay:∀es,lst? s1=some es->(∀j:Nat,as[j]?≠some (.fM i))->t=s1->∃(a:Addr)(xs:HO),σ[i]?=some (some (V.ref a))/\H' a=some xs/\F' a=none/\kY K F' xs ds:=fun es he hn ht=>by
    subst ht;rw[he]at e';cases e';obtain⟨a,xs,z1,z2,z3,z4⟩:=g.own i _ ds q1 he;have no:¬ Own args (vs.map some) a:=fun h=>by obtain⟨j,⟨sl,es,w1,w2⟩,w3⟩:=h;obtain⟨a',v,h1,h2,h3⟩:=A.get l1 w1;have sa:=l2 j a' _ h1 w1;have w3:=dn w3;rw[h2]at w3;cases w3;cases a' with|dat d=>cases sa;cases w2|tmp es=>obtain⟨x,_,y1,_,_,_,y2,_⟩:=h3;cases y1;exact y2 ⟨i,⟨_,ds,q1,he⟩,z1⟩|fM i'=>
       have:∃s' ds',ρ[i']?=some s'/\lst? s'=some ds':=by
        rcases sa with⟨_,_,_,z⟩|⟨b,es,q,_⟩|⟨es,q,_⟩;.subst z;cases w2
        .exact⟨_,_,q,rfl⟩
        .exact⟨_,_,q,rfl⟩
       have:=g.dis i i' a ⟨⟨_,ds,q1,he⟩,z1⟩ ⟨this,h3⟩;subst this;exact hn j h1
    refine⟨a,xs,z1,s.keep a _ z2 no,?_,z4.mono s.bV⟩;cases q:F' a with|none=>rfl|some o=>
      rcases s.yd a z3 (by rw[q];simp)with z|z;.exact absurd z no
      .rw[z2]at z;exact(Jh z4 z).elim
   cases hl:bD i as args' with
   |none=>have hn:=lB la hl;rw[hl]at q2;cases s1 with|aV=>subst q2;cases e'|val b' d'=>subst q2;cases e'|own b' es=>exact stay _ rfl hn q2|lent es=>exact stay _ rfl hn q2|um m=>exact stay _ rfl hn q2|dq m=>exact stay _ rfl hn q2|hold _=>subst q2;cases e'
   |some t2=>rw[hl]at q2;obtain⟨j,z1,z2⟩:=jf hl;cases s1 with
     |aV=>subst q2;cases e'|val b' d'=>subst q2;cases e'|hold _=>subst q2;cases e'|um m=>
       have hj:j<args.length:=by rw[l1];exact(cV z1).1
       rcases l2 j _ _ z1 (show args[j]?=some args[j]by simp[hj])with⟨_,_,z,_⟩|⟨_,_,z,_⟩|⟨_,z,_⟩<;>(rw[q1]at z;cases z)|dq m=>
       have hj:j<args.length:=by rw[l1];exact(cV z1).1
       rcases l2 j _ _ z1 (show args[j]?=some args[j]by simp[hj])with⟨_,_,z,_⟩|⟨_,_,z,_⟩|⟨_,z,_⟩<;>(rw[q1]at z;cases z)|own b' es=>
       obtain⟨v,s2,y1,y2,y3,y4,y5⟩:=lent q1 rfl z1 z2;have:t2≠.aV/\∀x,t2≠.lent x:=by
        rcases y5 with⟨_,_,y5⟩|⟨y5,_⟩;.subst y5;rcases y4 with⟨_,rfl⟩|⟨_,rfl⟩<;>simp
        .cases y5
       cases t2 with
       |aV=>exact absurd rfl this.1|hold x=>
         rcases y5 with⟨_,_,y5⟩|⟨y5,_⟩;.subst y5;rcases y4 with⟨_,h⟩|⟨_,h⟩<;>cases h
         .cases y5|um x=>
         rcases y5 with⟨_,_,y5⟩|⟨y5,_⟩;.subst y5;rcases y4 with⟨_,h⟩|⟨_,h⟩<;>cases h
         .cases y5|dq x=>
         rcases y5 with⟨_,_,y5⟩|⟨y5,_⟩;.subst y5;rcases y4 with⟨_,h⟩|⟨_,h⟩<;>cases h
         .cases y5|lent x=>exact absurd rfl (this.2 x)|val b2 d2=>subst q2;cases e'|own b2 es2=>subst q2;cases e';obtain⟨a,xs,x1,x2⟩:=s.gs.own j _ _ z2 rfl;rw[y2]at x1;cases x1;exact⟨a,xs,y1,x2⟩
     |lent es=>
       obtain⟨v,s2,y1,y2,y3,y4,y5⟩:=lent q1 rfl z1 z2;have ht:t=.lent es:=by rw[q2];cases t2<;>rfl
       subst ht;cases e';rcases y5 with⟨_,y5,_⟩|⟨_,y5⟩;.cases y5
       .subst y5;cases(show t2=.lent es from y4);obtain⟨a,xs,x1,x2⟩:=s.gs.own j _ _ z2 rfl;rw[y2]at x1;cases x1;exact⟨a,xs,y1,x2⟩
 . by_cases q:F b=none
   . rcases s.yd b q n' with z|z;.exact(own' b z).imp id jY
     . by_cases ho:Own ρ₀ σ b;.exact .inl ho
       .right;cases q2:H₀ b with|none=>rfl|some o=>rw[s0.keep b o q2 ho]at z;exact z
   .exact s0.yd b n q
 . refine s.keep b o (s0.keep b o h n) fun z=>?_;rcases own' b z with z|z;.exact n z
   .rw[h]at z;cases z
 .obtain⟨e1,s2,h2,k2⟩:=s0.lk i s1 h l;refine⟨e1,_,YC h2,?_⟩;have Vy:=k2.vz l;refine lW.trans l k2 ?_;cases s2 with
   |aV=>cases Vy|um _=>cases Vy|dq _=>cases Vy|hold _=>exact lW.refl _|val b d=>exact lW.refl _|lent es=>cases bD i as args' with|none=>rfl|some t=>cases t<;>rfl
   |own b es=>cases b with|false=>cases Vy|true=>cases bD i as args' with|none=>exact .inl ⟨_,rfl⟩|some t=>cases t with|aV=>exact .inl ⟨_,rfl⟩|lent _=>exact .inl ⟨_,rfl⟩|um _=>exact .inl ⟨_,rfl⟩|dq _=>exact .inl ⟨_,rfl⟩|hold _=>exact .inl ⟨_,rfl⟩|own _ ds=>exact .inl ⟨_,rfl⟩|val _ d=>exact .inr ⟨_,rfl⟩
theorem vY.rebase{F1 H1 F2 H2:Hp}{ρ1 ρ2:List Sl}(a:aU K F ρ σ H F1 ρ1 σ H1)(A:vY K F2 ρ2 σ H2 ρ1 H1 as vs):vY K F2 ρ2 σ H2 ρ H as vs:=by refine⟨A.len,fun j b v h1 h2=>?_,A.dis⟩;have h:=A.one j b v h1 h2;cases b with|dat d=>exact h|fM i=>exact h|tmp ds=>
   obtain⟨x,xs,q1,q2,q3,q4,q5,q6⟩:=h;refine⟨x,xs,q1,q2,q3,q4,q5,?_⟩;rcases q6 with q6|q6;.exact a.vV x q6
   . by_cases ho:Own ρ σ x;.exact .inl ho
     .right;cases e:H x with|none=>rfl|some o=>rw[a.keep x o e ho]at q6;cases q6
theorem vY.XN{F1 H1 F2 H2:Hp}{ρ1 ρ2:List Sl}{r:R}(s1:aU K F ρ σ H F1 ρ1 σ H1)(rr:cT K F1 ρ1 σ H1 ρ σ H v r)(s2:aU K F1 ρ1 σ H1 F2 ρ2 σ H2)(A:vY K F2 ρ2 σ H2 ρ1 H1 as vs):vY K F2 ρ2 σ H2 ρ H (xF r::as) (v::vs):=by
 have h1:zp K F1 ρ1 σ H1 ρ H v (xF r):=by cases r with|val d=>exact rr|own ds=>exact rr
 refine .cons (h1.later s2) (A.rebase s1) fun ds x ea ev k es ek evk=>?_;cases r with|val d=>cases ea|own ds'=>
   obtain⟨y,xs,q1,q2,q3,q4,q5,q6⟩:=rr;rw[ev]at q1;cases q1;have h:=A.one k _ _ ek evk;obtain⟨z,zs,w1,_,_,_,_,w6⟩:=h;cases w1;rcases w6 with w6|w6;.exact q5 w6
   .rw[q2]at w6;cases w6
end
section
variable{K:PySem.W.Frag}{F F1 H H1:Hp}{ρ ρ1 ρ2:List Sl}{σ σ1:L2.St}
theorem Hl{s:Sl}(h:put ρ i s=some ρ1):∃s0,ρ[i]?=some s0/\vz s0=false/\ρ1=ρ.set i s:=by
 unfold put at h;split at h;.rename_i q;cases h;exact⟨_,q,rfl,rfl⟩
 .rename_i q;cases h;exact⟨_,q,rfl,rfl⟩
 .rename_i q;cases h;exact⟨_,q,rfl,rfl⟩
 .cases h
theorem aU.put{r:R}(s:aU K F ρ σ H F1 ρ1 σ1 H1)(rr:cT K F1 ρ1 σ1 H1 ρ σ H v r)(h:HH.put ρ1 i (zj r)=some ρ2):aU K F ρ σ H F1 ρ2 (σ1.set i (some v)) H1:=by
 obtain⟨s0,h0,hl,rfl⟩:=Hl h;have hi:i<ρ1.length:=(cV h0).1;have hi':i<σ1.length:=by rw[<-s.gs.len];exact hi
 have old:∀{j:Nat}{a:Addr},j≠i->bJ (ρ1.set i (zj r)) (σ1.set i (some v)) j a->bJ ρ1 σ1 j a:=fun{j a}hj⟨⟨t,ds,e1,e2⟩,e3⟩=>by rw[fZ hj]at e1 e3;exact⟨⟨t,ds,e1,e2⟩,e3⟩
 have new:∀{a:Addr},bJ (ρ1.set i (zj r)) (σ1.set i (some v)) i a->¬ Own ρ1 σ1 a/\(Own ρ σ a\/H a=none):=fun{a}⟨⟨t,ds,e1,e2⟩,e3⟩=>by rw[getElem?_set_self hi]at e1;rw[getElem?_set_self hi']at e3;cases e1;cases e3;cases r with|val d=>cases e2|own es=>obtain⟨x,xs,q1,q2,q3,q4,q5,q6⟩:=rr;cases q1;exact⟨q5,q6⟩
 refine⟨⟨s.gs.sub,by simp[s.gs.len],fun j b d e=>?_,fun j t ds e e'=>?_,fun j k a h1 h2=>?_⟩,s.bV,s.yd,s.keep,fun a⟨j,hj⟩=>?_,by simp[s.len],fun j t e l=>?_⟩
 . by_cases hj:j=i;.subst hj;rw[getElem?_set_self hi]at e;cases r with|own es=>cases e|val d'=>cases e;exact⟨v,getElem?_set_self hi',rr⟩
   .rw[fZ hj]at e ⊢;exact s.gs.val j b d e
 . by_cases hj:j=i;.subst hj;rw[getElem?_set_self hi]at e;cases r with|val d'=>cases e;cases e'|own es=>cases e;cases e';obtain⟨x,xs,rfl,q2,q3,q4,_⟩:=rr;exact⟨x,_,getElem?_set_self hi',q2,q3,xs,rfl,q4⟩
   .rw[fZ hj]at e ⊢;exact s.gs.own j t ds e e'
 . by_cases hj:j=i
   . by_cases hk:k=i;.rw[hj,hk]
     .subst hj;exact absurd ⟨k,old hk h2⟩ (new h1).1
   . by_cases hk:k=i;.subst hk;exact absurd ⟨j,old hj h1⟩ (new h2).1
     .exact s.gs.dis j k a (old hj h1) (old hk h2)
 . by_cases hji:j=i;.subst hji;exact(new hj).2
   .exact s.vV a ⟨j,old hji hj⟩
 . obtain⟨e1,t1,e2,e3⟩:=s.lk j t e l;have hj:j≠i:=by rintro rfl;rw[h0]at e2;cases e2;rw[e3.vz l]at hl;cases hl
   exact⟨by rw[fZ hj];exact e1,t1,by rw[fZ hj];exact e2,e3⟩
theorem GS.mut{x:Nat}{b:Bool}{es:List D}{a:Addr}{ys:List V}(g:GS K F ρ σ H)(e:ρ[x]?=some (.own b ds))(hx:σ[x]?=some (some (.ref a)))(r:aL K F ys es):aU K F ρ σ H F (ρ.set x (.own b es)) σ (upd H a (.lst ys)):=by
 have hi:x<ρ.length:=(cV e).1;have oa:bJ ρ σ x a:=⟨⟨_,_,e,rfl⟩,hx⟩;obtain⟨a',xs,h1,h2,h3,h4⟩:=g.mO x _ ds e rfl;rw[hx]at h1;cases h1;have old:∀{j:Nat}{c:Addr},bJ (ρ.set x (.own b es)) σ j c->bJ ρ σ j c:=fun{j c}⟨⟨t,dt,q1,q2⟩,q3⟩=>by
  by_cases hj:j=x;.subst hj;exact⟨⟨_,_,e,rfl⟩,q3⟩
  .rw[fZ hj]at q1;exact⟨⟨t,dt,q1,q2⟩,q3⟩
 refine⟨⟨fun c o q=>?_,by simp[g.len],fun j b' d q=>?_,fun j t dt q q'=>?_,fun j k c q1 q2=>g.dis j k c (old q1) (old q2)⟩,.refl _,fun c n n'=>absurd n n',fun c o q n=>?_,fun c⟨j,q⟩=>.inl ⟨j,old q⟩,by simp,fun j t q l=>⟨rfl,?_⟩⟩
 . have:c≠a:=by rintro rfl;rw[h3]at q;cases q
   rw[aG this];exact g.sub c o q
 . by_cases hj:j=x;.subst hj;rw[getElem?_set_self hi]at q;cases q
   .rw[fZ hj]at q;exact g.val j b' d q
 . by_cases hj:j=x;.subst hj;rw[getElem?_set_self hi]at q;cases q;cases q';exact⟨a,_,hx,bh,h3,ys,rfl,r⟩
   . rw[fZ hj]at q;obtain⟨c,zs,w1,w2,w3,w4⟩:=g.own j t dt q q';have:c≠a:=by rintro rfl;exact hj (g.dis j x c ⟨⟨t,dt,q,q'⟩,w1⟩ oa)
     exact⟨c,zs,w1,by rw[aG this];exact w2,w3,w4⟩
 . have:c≠a:=by rintro rfl;exact n ⟨x,oa⟩
   rw[aG this];exact q
 . by_cases hj:j=x;.subst hj;rw[e]at q;cases q;refine⟨_,getElem?_set_self hi,?_⟩;cases b with|true=>exact .inl ⟨_,rfl⟩|false=>cases l
   .exact⟨t,by rw[fZ hj];exact q,.refl t⟩
theorem GS.lend{b:Bool}(g:GS K F ρ σ H)(e:ρ[i]?=some (.own b ds)):GS K F (ρ.set i (.lent ds)) σ H:=by
 have hi:i<ρ.length:=(cV e).1;have old:∀{j:Nat}{c:Addr},bJ (ρ.set i (.lent ds)) σ j c->bJ ρ σ j c:=fun{j c}⟨⟨t,dt,q1,q2⟩,q3⟩=>by
  by_cases hj:j=i;.subst hj;exact⟨⟨_,_,e,rfl⟩,q3⟩
  .rw[fZ hj]at q1;exact⟨⟨t,dt,q1,q2⟩,q3⟩
 refine⟨g.sub,by simp[g.len],fun j b' d q=>?_,fun j t dt q q'=>?_,fun j k c q1 q2=>g.dis j k c (old q1) (old q2)⟩
 . by_cases hj:j=i;.subst hj;rw[getElem?_set_self hi]at q;cases q
   .rw[fZ hj]at q;exact g.val j b' d q
 . by_cases hj:j=i;.subst hj;rw[getElem?_set_self hi]at q;cases q;cases q';exact g.own j _ _ e rfl
   .rw[fZ hj]at q;exact g.own j t dt q q'
theorem aU.bz{b:Bool}(g:GS K F ρ σ H)(e:ρ[i]?=some (.own b ds))(s:aU K F (ρ.set i (.lent ds)) σ H F1 ρ1 σ1 H1):aU K F ρ σ H F1 (ρ1.set i (.own b ds)) σ1 H1/\∀v r,cT K F1 ρ1 σ1 H1 (ρ.set i (.lent ds)) σ H v r->cT K F1 (ρ1.set i (.own b ds)) σ1 H1 ρ σ H v r:=by
 have hi:i<ρ.length:=(cV e).1;have h1:(ρ.set i (.lent ds))[i]?=some (.lent ds):=getElem?_set_self hi;obtain⟨z1,s',z2,z3⟩:=s.lk i _ h1 rfl;cases(show s'=.lent ds from z3);have hi1:i<ρ1.length:=(cV z2).1;have o1:∀{j:Nat}{c:Addr},bJ (ρ.set i (.lent ds)) σ j c->bJ ρ σ j c:=fun{j c}⟨⟨t,dt,q1,q2⟩,q3⟩=>by
  by_cases hj:j=i;.subst hj;exact⟨⟨_,_,e,rfl⟩,q3⟩
  .rw[fZ hj]at q1;exact⟨⟨t,dt,q1,q2⟩,q3⟩
 have o1':∀{c:Addr},Own ρ σ c->Own (ρ.set i (.lent ds)) σ c:=fun{c}⟨j,⟨t,dt,q1,q2⟩,q3⟩=>by
  by_cases hj:j=i;.subst hj;exact⟨j,⟨_,_,h1,rfl⟩,q3⟩
  .exact⟨j,⟨t,dt,by rw[fZ hj];exact q1,q2⟩,q3⟩
 have o2:∀{j:Nat}{c:Addr},bJ (ρ1.set i (.own b ds)) σ1 j c->bJ ρ1 σ1 j c:=fun{j c}⟨⟨t,dt,q1,q2⟩,q3⟩=>by
  by_cases hj:j=i;.subst hj;exact⟨⟨_,_,z2,rfl⟩,q3⟩
  .rw[fZ hj]at q1;exact⟨⟨t,dt,q1,q2⟩,q3⟩
 have w:∀{c:Addr}{h:Hp},Own (ρ.set i (.lent ds)) σ c\/h c=none->Own ρ σ c\/h c=none:=fun{c h}q=>q.imp (fun⟨j,q⟩=>⟨j,o1 q⟩) id;have w':∀{c:Addr}{h:Hp},Own (ρ.set i (.lent ds)) σ c\/nt (h c)=none->Own ρ σ c\/nt (h c)=none:=fun{c h}q=>q.imp (fun⟨j,q⟩=>⟨j,o1 q⟩) id;refine⟨⟨⟨s.gs.sub,by simp[s.gs.len],fun j b' d q=>?_,fun j t dt q q'=>?_,fun j k c q1 q2=>s.gs.dis j k c (o2 q1) (o2 q2)⟩,s.bV,fun c n n'=>w' (s.yd c n n'),fun c o q n=>s.keep c o q fun⟨j,x⟩=>n ⟨j,o1 x⟩,fun c⟨j,q⟩=>w (s.vV c ⟨j,o2 q⟩),by simpa using s.len,fun j t q l=>?_⟩,fun v r h=>?_⟩
 . by_cases hj:j=i;.subst hj;rw[getElem?_set_self hi1]at q;cases q
   .rw[fZ hj]at q;exact s.gs.val j b' d q
 . by_cases hj:j=i;.subst hj;rw[getElem?_set_self hi1]at q;cases q;cases q';exact s.gs.own j _ _ z2 rfl
   .rw[fZ hj]at q;exact s.gs.own j t dt q q'
 . by_cases hj:j=i;.subst hj;rw[e]at q;cases q;refine⟨z1,_,getElem?_set_self hi1,?_⟩;cases b with|true=>exact .inl ⟨_,rfl⟩|false=>cases l
   .obtain⟨y1,t',y2,y3⟩:=s.lk j t (by rw[fZ hj];exact q) l;exact⟨y1,t',by rw[fZ hj];exact y2,y3⟩
 .cases r with|val d=>exact h|own es=>obtain⟨x,xs,q1,q2,q3,q4,q5,q6⟩:=h;exact⟨x,xs,q1,q2,q3,q4,fun⟨j,q⟩=>q5 ⟨j,o2 q⟩,w q6⟩
theorem GS.give(g:GS K F ρ σ H)(e:ρ[i]?=some (.own false ds)):∃v,σ[i]?=some (some v)/\aU K F ρ σ H F (ρ.set i .aV) σ H/\cT K F (ρ.set i .aV) σ H ρ σ H v (.own ds):=by
 have hi:i<ρ.length:=(cV e).1;obtain⟨a,xs,h1,h2,h3,h4⟩:=g.mO i _ ds e rfl;have old:∀{j:Nat}{c:Addr},bJ (ρ.set i .aV) σ j c->bJ ρ σ j c/\j≠i:=fun{j c}⟨⟨t,dt,q1,q2⟩,q3⟩=>by
  by_cases hj:j=i;.subst hj;rw[getElem?_set_self hi]at q1;cases q1;cases q2
  .rw[fZ hj]at q1;exact⟨⟨⟨t,dt,q1,q2⟩,q3⟩,hj⟩
 have oa:bJ ρ σ i a:=⟨⟨_,_,e,rfl⟩,h1⟩;refine⟨.ref a,h1,⟨⟨g.sub,by simp[g.len],fun j b' d q=>?_,fun j t dt q q'=>?_,fun j k c q1 q2=>g.dis j k c (old q1).1 (old q2).1⟩,.refl _,fun c n n'=>absurd n n',fun _ _ q _=>q,fun c⟨j,q⟩=>.inl ⟨j,(old q).1⟩,by simp,fun j t q l=>⟨rfl,?_⟩⟩,a,xs,rfl,h2,h3,h4,fun⟨j,q⟩=>?_,.inl ⟨i,oa⟩⟩
 . by_cases hj:j=i;.subst hj;rw[getElem?_set_self hi]at q;cases q
   .rw[fZ hj]at q;exact g.val j b' d q
 . by_cases hj:j=i;.subst hj;rw[getElem?_set_self hi]at q;cases q;cases q'
   .rw[fZ hj]at q;exact g.own j t dt q q'
 . by_cases hj:j=i;.subst hj;rw[e]at q;cases q;cases l
   .exact⟨t,by rw[fZ hj];exact q,.refl t⟩
 .exact(old q).2 (g.dis j i a (old q).1 oa)
theorem GS.more{n:Nat}{τ:List (Option V)}(g:GS K F ρ σ H)(hn:τ.length=n):GS K F (ρ++replicate n .aV) (σ++τ) H:=by
 have get:∀{j:Nat}{t:Sl},(ρ++replicate n Sl.aV)[j]?=some t->t≠.aV->ρ[j]?=some t/\j<ρ.length:=fun{j t}q ne=>by
  by_cases hj:j<ρ.length;.rw[getElem?_append_left hj]at q;exact⟨q,hj⟩
  . rw[getElem?_append_right (by omega),getElem?_replicate]at q;split at q;.cases q;exact absurd rfl ne
    .cases q
 have up:∀{j:Nat}{v:Option V},j<ρ.length->(σ[j]?=some v↔(σ++τ)[j]?=some v):=fun{j v}hj=>by rw[getElem?_append_left (by rw[<-g.len];exact hj)]
 have old:∀{j:Nat}{c:Addr},bJ (ρ++replicate n .aV) (σ++τ) j c->bJ ρ σ j c:=fun{j c}⟨⟨t,dt,q1,q2⟩,q3⟩=>by obtain⟨h1,h2⟩:=get q1 (by rintro rfl;cases q2);exact⟨⟨t,dt,h1,q2⟩,(up h2).mpr q3⟩
 refine⟨g.sub,by simp[g.len,hn],fun j b d q=>?_,fun j t dt q q'=>?_,fun j k c q1 q2=>g.dis j k c (old q1) (old q2)⟩;.obtain⟨h1,h2⟩:=get q (by simp);obtain⟨v,e1,e2⟩:=g.val j b d h1;exact⟨v,(up h2).mp e1,e2⟩
 .obtain⟨h1,h2⟩:=get q (by rintro rfl;cases q');obtain⟨a,xs,e1,e2⟩:=g.own j t dt h1 q';exact⟨a,xs,(up h2).mp e1,e2⟩
theorem aU.less{n:Nat}{τ:List (Option V)}{m:Nat}(hm:m=ρ.length)(g:GS K F ρ σ H)(hn:τ.length=n)(s:aU K F (ρ++replicate n .aV) (σ++τ) H F1 ρ1 σ1 H1):aU K F ρ σ H F1 (ρ1.take m) (σ1.take m) H1/\∀v r,cT K F1 ρ1 σ1 H1 (ρ++replicate n .aV) (σ++τ) H v r->cT K F1 (ρ1.take m) (σ1.take m) H1 ρ σ H v r:=by
 subst hm;have l1:ρ.length<=ρ1.length:=by rw[s.len];simp
 have l2:ρ.length<=σ1.length:=by rw[<-s.gs.len];exact l1
 have tk:∀{α:Type}{l:List α}{j:Nat}{x:α},(l.take ρ.length)[j]?=some x->l[j]?=some x/\j<ρ.length:=fun{α l j x}q=>by
  rw[List.getElem?_take]at q;split at q;.exact⟨q,by assumption⟩
  .cases q
 have kt:∀{α:Type}{l:List α}{j:Nat}{x:α},j<ρ.length->l[j]?=some x->(l.take ρ.length)[j]?=some x:=fun{α l j x}hj q=>by rw[List.getElem?_take,if_pos hj];exact q
 have oN:∀{c:Addr},Own (ρ++replicate n .aV) (σ++τ) c->Own ρ σ c:=fun{c}⟨j,⟨t,dt,q1,q2⟩,q3⟩=>by
  by_cases hj:j<ρ.length;.rw[getElem?_append_left hj]at q1;rw[getElem?_append_left (by rw[<-g.len];exact hj)]at q3;exact⟨j,⟨t,dt,q1,q2⟩,q3⟩
  . rw[getElem?_append_right (by omega),getElem?_replicate]at q1;split at q1;.cases q1;cases q2
    .cases q1
 have oN':∀{c:Addr},Own ρ σ c->Own (ρ++replicate n .aV) (σ++τ) c:=fun{c}⟨j,⟨t,dt,q1,q2⟩,q3⟩=>by have hj:j<ρ.length:=(cV q1).1;exact⟨j,⟨t,dt,by rw[getElem?_append_left hj];exact q1,q2⟩,by rw[getElem?_append_left (by rw[<-g.len];exact hj)];exact q3⟩
 have o1:∀{j:Nat}{c:Addr},bJ (ρ1.take ρ.length) (σ1.take ρ.length) j c->bJ ρ1 σ1 j c:=fun{j c}⟨⟨t,dt,q1,q2⟩,q3⟩=>⟨⟨t,dt,(tk q1).1,q2⟩,(tk q3).1⟩;have w:∀{c:Addr}{h:Hp},Own (ρ++replicate n .aV) (σ++τ) c\/h c=none->Own ρ σ c\/h c=none:=fun{c h}q=>q.imp oN id;have w':∀{c:Addr}{h:Hp},Own (ρ++replicate n .aV) (σ++τ) c\/nt (h c)=none->Own ρ σ c\/nt (h c)=none:=fun{c h}q=>q.imp oN id;refine⟨⟨⟨s.gs.sub,by simp only[length_take];omega,fun j b d q=>?_,fun j t dt q q'=>?_,fun j k c q1 q2=>s.gs.dis j k c (o1 q1) (o1 q2)⟩,s.bV,fun c a b=>w' (s.yd c a b),fun c o q n=>s.keep c o q fun x=>n (oN x),fun c⟨j,q⟩=>w (s.vV c ⟨j,o1 q⟩),by simp only[length_take];omega,fun j t q l=>?_⟩,fun v r h=>?_⟩;.obtain⟨h1,h2⟩:=tk q;obtain⟨v,e1,e2⟩:=s.gs.val j b d h1;exact⟨v,kt h2 e1,e2⟩
 .obtain⟨h1,h2⟩:=tk q;obtain⟨a,xs,e1,e2⟩:=s.gs.own j t dt h1 q';exact⟨a,xs,kt h2 e1,e2⟩
 .have hj:j<ρ.length:=(cV q).1;obtain⟨y1,t',y2,y3⟩:=s.lk j t (by rw[getElem?_append_left hj];exact q) l;rw[getElem?_append_left (by rw[<-g.len];exact hj)]at y1;refine⟨?_,t',kt hj y2,y3⟩;rw[List.getElem?_take,if_pos hj];exact y1
 .cases r with|val d=>exact h|own es=>obtain⟨x,xs,q1,q2,q3,q4,q5,q6⟩:=h;exact⟨x,xs,q1,q2,q3,q4,fun⟨j,q⟩=>q5 ⟨j,o1 q⟩,w q6⟩
end
section
variable{X:Cx}{c:Call}{n:Nat}{e a b d:Expr}{p pa pb pd:P}{pos:Pos}{es:List Expr}{ps:List P}
inductive ab5(K:PySem.W.Frag)(f:List Sl->Res (List Arg))(σ:L2.St)(H:Hp)(Q:List V->Hp->Prop):Prop where|mk(F:Hp)(ρ:List Sl)(as:List Arg)(ρ':List Sl)(g:GS K F ρ σ H)(e:f ρ=.ok as ρ')(k:∀vs F' H',aU K F ρ σ H F' ρ' σ H'->vY K F' ρ' σ H' ρ H as vs->Q vs H')
def SG(X:Cx)(c:Call)(es:List Expr)(ps:List P):Prop:=PA X es (ab5 X.K (yo c ps))
theorem az:SG X c [] []:=wO eU fun σ H Q⟨F,ρ,as,ρ',g,e,k⟩=>by rw[yo]at e;cases e;exact k [] F H (.refl g) .nil
theorem Lh(ha:SX X c a pa)(hr:SG X c es ps)(hs:starEach (a::es) X.env=(false,eval a X.env)::starEach es X.env:=by rfl):SG X c (a::es) (pa::ps):=by cases hv:isVar pa with|none=>refine wO (cO ha.ev hr hs) ?_;rintro σ H Q⟨F,ρ,as,ρ',g,e,k⟩;rw[yo,hv]at e;obtain⟨r,ρ1,e1,e⟩:=ao e;obtain⟨xs,ρ2,e2,e⟩:=ao e;cases e;refine⟨F,ρ,r,ρ1,g,e1,fun v F1 H1 s1 rr=>⟨F1,ρ1,xs,_,s1.gs,e2,fun vs F2 H2 s2 A=>k _ F2 H2 (s1.trans s2) (vY.XN s1 rr s2 A)⟩⟩|some i=>refine wO (cO (ha.var i hv) hr hs) ?_;rintro σ H Q⟨F,ρ,as,ρ',g,e,k⟩;rw[yo,hv]at e;obtain⟨x0,ρ0,e0,e⟩:=ao e;obtain⟨e00,Et⟩:=aB e0;subst Et;obtain⟨xs,ρ2,e2,e⟩:=ao e;cases e;obtain⟨v,h1,_⟩:=g.pk e00;exact⟨v,h1,F,ρ,xs,_,g,e2,fun vs F2 H2 s2 A=>k _ F2 H2 s2 (.cons h1 A fun ds x z=>by cases z)⟩
theorem Nk{k f:Nat}{fa:Addr}{fd:FuncData}{qs:List Str}(Fn:nM X.prog X.w X.K X.mg X.base Jf k fa fd qs (Lb X.K qs.length (c f)))(hr:jH k X.A)(hg:Gl X x)(hm:X.mg x=some (.ref fa))(hk:keepIn X.K (.ref fa)=true)(hb:Binds X.K fd qs [])(ha:SG X c (e::es) ps)(hl:(e::es).length=qs.length)(hdb:(x==("__debug__":Str))=false:=by decide)(he:starEach (e::es) X.env=(false,eval e X.env)::starEach es X.env:=by rfl)(hpl:(backTo pos (starEach es X.env)).any (·.1)=false:=by rfl)(hl2:ps.length=(e::es).length:=by rfl):SX X c (.Call (.Name x p') (e::es) [] pos) (.call f ps):=by
 refine⟨fH (Le (E:=E0) Fn hr hg hm hk hb .nil Xn ha hdb he hpl) ?_,fun i h=>by cases h⟩;rintro σ H Q⟨F,ρ,r,ρ',g,e,k⟩;rw[HH.E16]at e;obtain⟨as,ρ1,e1,e⟩:=ao e;unfold qu at e;split at e;.cases e
 . rename_i args hb';split at e
   . rename_i r' args' hc;cases e;refine⟨F,ρ,as,ρ1,g,e1,fun vs F1 H1 s1 A=>?_⟩;have hlen:vs.length=qs.length:=by
      have:∀{ps:List P}{ρ ρ':List Sl}{as:List Arg},yo c ps ρ=.ok as ρ'->as.length=ps.length:=by intro ps;induction ps with|nil=>intro ρ ρ' as h;rw[yo]at h;cases h;rfl|cons q qs ih=>
         intro ρ ρ' as h;rw[yo]at h;split at h;.obtain⟨_,_,_,h⟩:=ao h;obtain⟨xs,ρ2,h2,h⟩:=ao h;cases h;simp[ih h2]
         .obtain⟨_,_,_,h⟩:=ao h;obtain⟨xs,ρ2,h2,h⟩:=ao h;cases h;simp[ih h2]
      rw[<-A.len,this e1,hl2,hl]
     show Lb X.K qs.length (c f) (vs++[]) H1 Q E0;rw[append_nil];refine⟨hlen,F1,args,r,args',args_gs s1.gs A hb',hc,fun v F' σ' H' s rr=>?_⟩;obtain⟨z1,z2⟩:=Gw s1 A hb' s;exact k v F' H' z1 (z2 v r rr)
   .cases e
   .cases e
def HW(K:PySem.W.Frag)(D:Ends)(F':Hp)(ρ':List Sl)(σ':L2.St)(H':Hp)(ρ:List Sl)(σ:L2.St)(H:Hp)(fl:Fl):Prop:=match fl with|.next=>D.nx σ' H'|.brk=>D.bk σ' H'|.cont=>D.ct σ' H'|.ret r=>∀v,cT K F' ρ' σ' H' ρ σ H v r->D.rt v H'
inductive ZD(K:PySem.W.Frag)(f:List Sl->Res Fl)(D:Ends)(σ:L2.St)(H:Hp):Prop where|mk(F:Hp)(ρ:List Sl)(fl:Fl)(ρ':List Sl)(g:GS K F ρ σ H)(e:f ρ=.ok fl ρ')(k:∀F' σ' H',aU K F ρ σ H F' ρ' σ' H'->HW K D F' ρ' σ' H' ρ σ H fl)
def SS(X:Cx)(c:Call)(n:Nat)(st:Stmt)(s:S):Prop:=PS X st (ZD X.K (ex c n s))
def SB(X:Cx)(c:Call)(n:Nat)(st:List Stmt)(s:List S):Prop:=vZ X st (ZD X.K (gB c n s))
theorem dX{st:Stmt}{t t':TS}(h:PS X st t)(i:∀D σ H,t' D σ H->t D σ H):PS X st t':=fun pins s σ H D I q=>h pins s σ H D I (i D σ H q)
theorem nu{st:List Stmt}{t t':TS}(h:vZ X st t)(i:∀D σ H,t' D σ H->t D σ H):vZ X st t':=fun pins s σ H D I q=>h pins s σ H D I (i D σ H q)
theorem aq:SB X c n [] []:=nu Af fun D σ H⟨F,ρ,fl,ρ',g,e,k⟩=>by rw[gB]at e;cases e;exact k F σ H (.refl g)
theorem aJ{st:Stmt}{s:S}{sts:List Stmt}{ss:List S}(h1:SS X c n st s)(h2:SB X c n sts ss):SB X c n (st::sts) (s::ss):=by refine nu (mF h1 h2) ?_;rintro D σ H⟨F,ρ,fl,ρ',g,e,k⟩;rw[gB]at e;obtain⟨f1,ρ1,e1,e⟩:=ao e;cases f1 with
 |next=>refine⟨F,ρ,.next,ρ1,g,e1,fun F1 σ1 H1 s1=>⟨F1,ρ1,fl,ρ',s1.gs,e,fun F2 σ2 H2 s2=>?_⟩⟩;have q:=k F2 σ2 H2 (s1.trans s2);cases fl with|next=>exact q|brk=>exact q|cont=>exact q|ret r=>exact fun v rr=>q v (rr.later s1)
 |brk=>cases e;exact⟨F,ρ,.brk,_,g,e1,k⟩|cont=>cases e;exact⟨F,ρ,.cont,_,g,e1,k⟩|ret r=>cases e;exact⟨F,ρ,.ret r,_,g,e1,k⟩
theorem ou{st:Stmt}:SS X c n st .bad:=dX Hb fun D σ H⟨F,ρ,fl,ρ',g,e,k⟩=>by rw[HH.X4]at e;cases e
theorem KJ(he:SX X c e p)(hs:swapsWith e none pos.line X.env=pure false:=by rfl):SS X c n (.Expr e pos) (.expr p):=by refine dX (vy he.ev hs) ?_;rintro D σ H⟨F,ρ,fl,ρ',g,e,k⟩;rw[HH.X5]at e;obtain⟨r,ρ1,e1,e⟩:=ao e;cases e;exact⟨F,ρ,r,_,g,e1,fun v F1 H1 s1 rr=>k F1 σ H1 s1⟩
theorem We{t1 t2:TE}(h1:PE X e t1)(h2:PE X e t2):PE X e (fun σ H Q=>t1 σ H Q\/t2 σ H Q):=fun pins s σ H Q I h=>h.elim (h1 pins s σ H Q I) (h2 pins s σ H Q I)
theorem S9(he:SX X c e p):SS X c n (.Return (some e) pos) (.ret p):=by
 have plain:∀(D:Ends)(σ:L2.St)(H:Hp),(∃F ρ fl ρ',GS X.K F ρ σ H/\((HH.ev c p ρ).bind fun r ρ=>.ok (Fl.ret r) ρ)=.ok fl ρ'/\∀F' σ' H',aU X.K F ρ σ H F' ρ' σ' H'->(match fl with|.next=>D.nx σ' H'|.brk=>D.bk σ' H'|.cont=>D.ct σ' H'|.ret r=>∀v,cT X.K F' ρ' σ' H' ρ σ H v r->D.rt v H'))->vR X.K (HH.ev c p) σ H D.rt:=fun D σ H⟨F,ρ,fl,ρ',g,e,k⟩=>by obtain⟨r,ρ1,e1,e⟩:=ao e;cases e;exact⟨F,ρ,r,_,g,e1,fun v F1 H1 s1 rr=>k F1 σ H1 s1 v rr⟩
 cases hv:isVar p with|none=>refine dX (Hk he.ev) fun D σ H⟨F,ρ,fl,ρ',g,e,k⟩=>plain D σ H ⟨F,ρ,fl,ρ',g,?_,k⟩;rw[HH.Y8,hv]at e;exact e|some i=>--by the name itself:its own list is handed back,else its data
   have hp:p=.var i:=by cases p<;>cases hv;rfl
   subst hp;refine dX (Hk (We (he.var i hv) he.ev)) ?_;rintro D σ H⟨F,ρ,fl,ρ',g,e,k⟩;rw[HH.Y8,hv]at e;dsimp only at e;split at e;.rename_i ds q;cases e;obtain⟨v,h1,h2,h3⟩:=g.give q;exact .inl ⟨v,h1,k F σ H h2 v h3⟩
   .exact .inr (plain D σ H ⟨F,ρ,fl,ρ',g,e,k⟩)
theorem cJ{sa sb:List Stmt}{ta tb:List S}(hc:ST X c e p)(ha:SB X c n sa ta)(hb:SB X c n sb tb):SS X c n (.If e sa sb pos) (.ifs p ta tb):=by refine dX (O5 hc ha hb) ?_;rintro D σ H⟨F,ρ,fl,ρ',g,e,k⟩;rw[HH.Xp]at e;obtain⟨x,ρ1,e1,e⟩:=ao e;refine⟨F,ρ,x,ρ1,g,e1,fun F1 H1 s1=>?_⟩;have go:∀{f:List Sl->Res Fl},f ρ1=.ok fl ρ'->ZD X.K f D σ H1:=fun{f}h=>⟨F1,ρ1,fl,ρ',s1.gs,h,fun F2 σ2 H2 s2=>by have q:=k F2 σ2 H2 (s1.trans s2);cases fl with|next=>exact q|brk=>exact q|cont=>exact q|ret r=>exact fun v rr=>q v (rr.later s1)⟩;cases x with|true=>rw[if_pos rfl]at e;exact go e|false=>rw[if_neg Bool.false_ne_true]at e;exact go e
theorem fU{pos':Pos}(hN:X.N.Nodup)(hi:X.N[i]?=some x)(hx:Loc X.env.scope x)(he:SX X c e p)(hs:swapsWith e (some (.Name x pos')) pos.line X.env=pure false:=by rfl)(hf:X.fn x=true\/X.env.scope.names.lookup x=some .local:=by first|exact .inl rfl|exact .inr rfl|assumption):SS X c n (.Assign [.Name x pos'] e pos) (.asg i p):=by refine dX (GQ hN hi hx he.ev hs hf) ?_;rintro D σ H⟨F,ρ,fl,ρ',g,e,k⟩;rw[HH.X6]at e;obtain⟨r,ρ1,e1,e⟩:=ao e;obtain⟨ρ2,ρ3,e2,e⟩:=ao e;cases e;have zz:=aB e2;clear e2;obtain⟨e2,e3⟩:=zz;exact⟨F,ρ,r,ρ1,g,e1,fun v F1 H1 s1 rr=>k F1 _ H1 (s1.put rr e2)⟩
end
end HH
end
section
namespace L2
open PySem PySem.Spec PyProof.Rows
variable{env:Env}{scope:Scope}{X:Cx}
noncomputable def qK(X:Cx)(scope:Scope)(N':List Str)(cl:List (Str×Addr))(C:Addr)(s₀:Shared)(H₀:Hp)(ex:List Addr):Cx:={X with N:=N',s₀:=s₀,H₀:=H₀,env:=compEnvC scope cl C X.env,outer:=X.stack,stack:=X.stack,ex:=ex,fn:=fun x=>scope.names.lookup x==some .cell,pn:=[],xe:=fun _ _=>False}
theorem zb(l:List (Str×NameKind)):∀(cs:List (Str×Addr)),(∀n,(n,NameKind.free)∈l->∃c,env.cells.lookup n=some c)->(∀n c,cs.lookup n=some c->env.cells.lookup n=some c)->∃ cl,(forIn l cs (fun(x:Str × NameKind)(r:List (Str × Addr))=>(if(x.2==NameKind.free)=true then(do let a<-cellOf env x.1;pure (ForInStep.yield ((x.1,a)::r)))else pure (ForInStep.yield r):Sem (ForInStep (List (Str × Addr))))):Sem (List (Str × Addr)))=pure cl/\(∀n c,cl.lookup n=some c->env.cells.lookup n=some c)/\(∀n,((n,NameKind.free)∈l\/(cs.lookup n).isSome)->(cl.lookup n).isSome):=by induction l with|nil=>intro cs _ h;exact⟨cs,rfl,h,fun n hn=>by rcases hn with hn|hn;cases hn;exact hn⟩|cons y l ih=>
   obtain⟨n,k⟩:=y;intro cs hl hc;rw[forIn_cons];by_cases hk:k=.free
   . subst hk;obtain⟨a,ha⟩:=hl n mem_cons_self;obtain⟨cl,e,h1,h2⟩:=ih ((n,a)::cs) (fun m hm=>hl m (mem_cons_of_mem _ hm)) fun m c hm=>by
      rw[lookup_cons]at hm;split at hm;.rename_i q;have q:=eq_of_beq q;subst q;cases hm;exact ha
      .exact hc m c hm
     refine⟨cl,?_,h1,fun m hm=>h2 m ?_⟩
     . rw[<-e];have:cellOf env n=pure a:=by unfold cellOf;rw[ha]
       simp only[beq_self_eq_true,if_true,this];rfl
     . rcases hm with hm|hm
       . rcases mem_cons.mp hm with hm|hm;.cases hm;right;simp[lookup_cons]
         .exact .inl hm
       . right;rw[lookup_cons];split;.rfl
         .exact hm
   . obtain⟨cl,e,h1,h2⟩:=ih cs (fun m hm=>hl m (mem_cons_of_mem _ hm)) hc;refine⟨cl,?_,h1,fun m hm=>h2 m ?_⟩
     . rw[<-e];have:(k==NameKind.free)=false:=by simpa using hk
       simp only[this,false_eq_true,if_false];rfl
     . rcases hm with hm|hm
       . rcases mem_cons.mp hm with hm|hm;.cases hm;exact absurd rfl hk
         .exact .inl hm
       .exact .inr hm
theorem yL(hl:∀n,(n,NameKind.free)∈scope.names->∃c,env.cells.lookup n=some c):∃cl,closureFor scope env=pure cl/\(∀n c,cl.lookup n=some c->env.cells.lookup n=some c)/\∀n,(n,NameKind.free)∈scope.names->(cl.lookup n).isSome:=by obtain⟨cl,e,h1,h2⟩:=zb (env:=env) scope.names [] hl (by simp);refine⟨cl,?_,h1,fun n hn=>h2 n (.inl hn)⟩;unfold closureFor;exact(congrArg (fun t=>t>>=fun r=>pure r) e).trans rfl
theorem dR{env:Env}:∀(names:List (Str×NameKind))(x:Str),(names.map fun(n,k)=>if(k==NameKind.free&&env.scope.kind==.function&&env.kindOf n==some .cell)then(n,NameKind.cell)else(n,k)).lookup x=(names.lookup x).map fun k=>if(k==NameKind.free&&env.scope.kind==.function&&env.kindOf x==some .cell)=true then NameKind.cell else k
 |[],x=>rfl|(n,k)::r,x=>by
   have ih:=dR (env:=env) r x;show List.lookup x ((if(k==NameKind.free&&env.scope.kind==.function&&env.kindOf n==some .cell)=true then(n,NameKind.cell)else(n,k))::_)=_;by_cases hc:(k==NameKind.free&&env.scope.kind==.function&&env.kindOf n==some .cell)=true;.rw[if_pos hc,lookup_cons,lookup_cons];cases hx:x==n with|true=>have:=eq_of_beq hx;subst this;show some NameKind.cell=some (if _ then _ else _);rw[if_pos hc]|false=>exact ih
   .rw[if_neg hc,lookup_cons,lookup_cons];cases hx:x==n with|true=>have:=eq_of_beq hx;subst this;show some k=some (if _ then _ else _);rw[if_neg hc]|false=>exact ih
noncomputable def Wv(N N':List Str)(sc:Scope):Bool:=(N.zip N').all fun p=>(p.1==p.2&&sc.names.lookup p.2==some .free)||(sc.names.lookup p.2!=some .local&&sc.names.lookup p.2!=some .cell&&sc.names.lookup p.2!=some .free)
structure eV(X:Cx)(scope:Scope)(N':List Str)(n:Nat):Prop where
 kind:scope.kind=.function
 cons:∀y∈scope.names,scope.names.lookup y.1=some y.2
 names:∀y∈scope.names,y.2=.local->scope.names.lookup y.1=some .local
 cap:∀y∈scope.names,y.2=.free->X.env.scope.names.lookup y.1=some .cell\/X.env.scope.names.lookup y.1=some .free
 len:N'.length=X.N.length+n
 same:Wv X.N N' scope=true
theorem eV.get{N':List Str}{n:Nat}(c:eV X scope N' n){i:Nat}{x:Str}(hi:i<X.N.length)(h:N'[i]?=some x)(hv:yC (relabel scope X.env) x):X.N[i]?=some x/\scope.names.lookup x=some .free:=by
 have hz:(X.N.zip N')[i]?=some (X.N[i],x):=by rw[List.getElem?_zip_eq_some];exact⟨by simp[hi],h⟩
 have:=(all_eq_true.mp c.same) _ (mem_of_getElem? hz);simp only[or_eq_true,and_eq_true]at this;rcases this with⟨h1,h2⟩|⟨⟨h1,h2⟩,h3⟩;.have h1:=eq_of_beq h1;have h2:=eq_of_beq h2;exact⟨by simp[hi,h1],h2⟩
 . exfalso;have h1:scope.names.lookup x≠some .local:=by simpa using h1
   have h2:scope.names.lookup x≠some .cell:=by simpa using h2
   have h3:scope.names.lookup x≠some .free:=by simpa using h3
   have e:=dR (env:=X.env) scope.names x;have hv:(relabel scope X.env).names.lookup x=some .local\/(relabel scope X.env).names.lookup x=some .cell\/(relabel scope X.env).names.lookup x=some .free:=hv;rw[show(relabel scope X.env).names.lookup x=_ from e]at hv;cases q:scope.names.lookup x with|none=>rw[q]at hv;simp at hv|some k=>
     rw[q]at hv h1 h2 h3;have hk:(k==NameKind.free)=false:=by cases k<;>first|rfl|exact absurd rfl h3
     simp only[Option.map_some,hk,Bool.false_and,false_eq_true,if_false,Option.some.injEq]at hv;rcases hv with rfl|rfl|rfl;.exact h1 rfl
     .exact h2 rfl
     .exact h3 rfl
structure CI(cl:List (Str×Addr))(z:Nat)(h:Heap)(acc:List (Str×Addr)):Prop where from':∀n c,acc.lookup n=some c->cl.lookup n=some c\/(z<=c/\h.IsCell c none)inj:∀n n' c,acc.lookup n=some c->acc.lookup n'=some c->n=n'
theorem Js{cl:List (Str×Addr)}{z:Nat}(hcl:∀n c,cl.lookup n=some c->c<z):∀(names:List (Str×NameKind))(h:Heap)(acc:List (Str×Addr)),z<=h.objs.size->CI cl z h acc->CI cl z (pushCells h names) (cellsFrom h.objs.size names acc)/\(∀n,(acc.lookup n).isSome->((cellsFrom h.objs.size names acc).lookup n).isSome)/\(∀n,((∃c,acc.lookup n=some c/\z<=c)\/(n,NameKind.cell)∈names)->∃c,(cellsFrom h.objs.size names acc).lookup n=some c/\z<=c)/\(∀n c,(n,NameKind.cell)∉names->(cellsFrom h.objs.size names acc).lookup n=some c->acc.lookup n=some c)
 |[],h,acc,hz,x=>by
   refine⟨x,fun _ q=>q,fun n q=>?_,fun _ _ _ q=>q⟩;rcases q with q|q;.exact q
   .cases q|(name,kind)::r,h,acc,hz,x=>by
   unfold pushCells cellsFrom;by_cases hk:kind=.cell
   . subst hk;rw[if_pos (by rfl),if_pos (by rfl)];have hx:CI cl z (h.push {cls:=.type "cell",data:=.cell none}) ((name,h.objs.size)::acc):=by
      have lt:∀n c,acc.lookup n=some c->c<h.objs.size:=fun n c e=>by
       rcases x.from' n c e with q|q;.exact lt_of_lt_of_le (hcl n c q) hz
       .exact q.2.lt
      refine⟨fun n c e=>?_,fun n n' c e e'=>?_⟩
      . rw[lookup_cons]at e;split at e;.cases e;exact .inr ⟨hz,_,get?_push_size _ rfl,rfl⟩
        . rcases x.from' n c e with q|q;.exact .inl q
          .exact .inr ⟨q.1,q.2.keeps fun b o e=>dw e⟩
      . rw[lookup_cons]at e e';split at e<;>split at e';.rename_i _ a _ b;rw[eq_of_beq a,eq_of_beq b]
        .cases e;exact absurd (lt n' _ e') (lt_irrefl _)
        .cases e';exact absurd (lt n _ e) (lt_irrefl _)
        .exact x.inj n n' c e e'
     have ih:=Js hcl r (h.push {cls:=.type "cell",data:=.cell none}) ((name,h.objs.size)::acc) (by rw[size_push];omega) hx;rw[size_push]at ih;refine⟨ih.1,fun n q=>ih.2.1 n ?_,fun n q=>ih.2.2.1 n ?_,fun n c q e=>?_⟩
     . rw[lookup_cons];split;.rfl
       .exact q
     . rcases q with⟨c,e,hc⟩|q
       . left;rw[lookup_cons];split;.exact⟨_,rfl,hz⟩
         .exact⟨c,e,hc⟩
       . rcases mem_cons.mp q with q|q;.cases q;left;exact⟨_,by simp[lookup_cons],hz⟩
         .exact .inr q
     . have:=ih.2.2.2 n c (fun z=>q (mem_cons_of_mem _ z)) e;rw[lookup_cons]at this;split at this;.rename_i a;exact absurd (by rw[eq_of_beq a];exact mem_cons_self) q
       .exact this
   . have hk':(kind==NameKind.cell)=false:=by simpa using hk
     rw[if_neg (by rw[hk'];decide),if_neg (by rw[hk'];decide)];have ih:=Js hcl r h acc hz x;refine⟨ih.1,ih.2.1,fun n q=>ih.2.2.1 n ?_,fun n c q e=>ih.2.2.2 n c (fun z=>q (mem_cons_of_mem _ z)) e⟩;rcases q with q|q;.exact .inl q
     . rcases mem_cons.mp q with q|q;.cases q;exact absurd rfl hk
       .exact .inr q
structure Ga(X:Cx)(scope:Scope)(z:Nat)(h:Heap)(cs:List (Str×Addr)):Prop where
 from':∀n c,cs.lookup n=some c->X.env.cells.lookup n=some c\/(z<c/\h.IsCell c none)inj:∀n n' c,cs.lookup n=some c->cs.lookup n'=some c->n=n'
 has:∀n,(scope.names.lookup n=some .free\/scope.names.lookup n=some .cell)->∃c,cs.lookup n=some c
 fre:∀n c,scope.names.lookup n=some .free->cs.lookup n=some c->X.env.cells.lookup n=some c
 own:∀n c,scope.names.lookup n=some .cell->cs.lookup n=some c->z<c
theorem Dh{M:Model}{A:Around}{E:Value->Shared->Prop}{s:Shared}{N':List Str}{n:Nat}{cl:List (Str×Addr)}{Q:Env->Shared->Prop}(ok:eV X scope N' n)(hlt:∀n c,X.env.cells.lookup n=some c->c<s.heap.objs.size)(hinj:∀x y c,X.env.cells.lookup x=some c->X.env.cells.lookup y=some c->x=y)(hcl:∀n c,cl.lookup n=some c->X.env.cells.lookup n=some c)(zW:∀n,(n,NameKind.free)∈scope.names->(cl.lookup n).isSome)(hQ:∀ cs h',h'.Ns s.heap.objs.size (fun _=>none)->(∀ b o,s.heap.get? b=some o->h'.get? b=some o)->Ga X scope s.heap.objs.size h' cs->Q {scope:=scope,locals:=s.heap.objs.size,globals:=X.env.globals,cells:=cs,qual:=X.env.qual,func:=none,code:=X.env.code,frame:=X.env.frame,builtins:=X.env.builtins} {s with heap:=h'}):wpAny M A (newFunctionEnv scope X.env.globals cl [] X.env.qual none .none (some X.env)) Q E s:=by
 simp only[newFunctionEnv,Option.isSome_some,if_true];refine wpAny_bind (wpAny_alloc ?_);refine wpAny_bind (wpAny_layCells _ (fun name kind cells=>by cases hkc:kind==NameKind.cell<;>simp[hkc]) _ _ _ _ ?_);have ck:=Js (cl:=cl) (z:=s.heap.objs.size+1) (fun n c e=>Nat.lt_succ_of_lt (hlt n c (hcl n c e))) scope.names (s.heap.push {cls:=.type "dict",data:=.dict #[]}) cl (by rw[size_push];exact cR) ⟨fun n c e=>.inl e,fun n n' c e e'=>hinj n n' c (hcl n c e) (hcl n' c e')⟩;obtain⟨c1,c2,c3,c4⟩:=ck;rw[show({s with heap:=s.heap.push {cls:=.type "dict",data:=.dict #[]}}:Shared).heap.objs.size=(s.heap.push {cls:=.type "dict",data:=.dict #[]}).objs.size from rfl];refine wpAny_bind ?_;rw[forIn_nil];refine wpAny_pure (wpAny_pure (hQ _ _ ((Heap.Ns.new s.heap (.type "dict")).keeps (pushCells_keeps _ _)) (fun b o e=>pushCells_keeps _ _ b o (dw e)) ⟨fun n c e=>?_,c1.inj,fun n q=>?_,fun n c q e=>?_,fun n c q e=>?_⟩))
 . rcases c1.from' n c e with z|z;.exact .inl (hcl n c z)
   .exact .inr ⟨z.1,z.2⟩
 . rcases q with q|q;.exact Option.isSome_iff_exists.mp (c2 n (zW n (PySem.mem_of_lookup q)))
   .obtain⟨c,e,_⟩:=c3 n (.inr (PySem.mem_of_lookup q));exact⟨c,e⟩
 .refine hcl n c (c4 n c (fun z=>?_) e);have:=ok.cons _ z;rw[q]at this;cases this
 .obtain⟨c',e',hc'⟩:=c3 n (.inr (PySem.mem_of_lookup q));rw[e]at e';cases e';exact hc'
section
variable{X:Cx}{pins:List (Addr×Obj)}{σ:L2.St}{H:Hp}{s:Shared}{scope:Scope}{N':List Str}{n:Nat}{fp:List Addr}{cl:List (Str×Addr)}
theorem Ha{h1:Heap}{m:Str->Option Value}{t:Nat}{cs:List (Str×Addr)}(ok:eV X scope N' n)(I:Inv X pins σ H s)(hf:∀b∈fp,n6 X pins H b/\b<s.heap.objs.size)(bc:Ga X scope s.heap.objs.size h1 cs)(hn:h1.Ns s.heap.objs.size m)(old:∀b u,s.heap.get? b=some u->h1.get? b=some u):Inv (qK X scope N' cs s.heap.objs.size s H fp) [] (σ++replicate n none) H {s with heap:=h1,toks:=t}:=by
 have YD:∀x,scope.names.lookup x=some .free->(relabel scope X.env).names.lookup x=some .cell\/(relabel scope X.env).names.lookup x=some .free:=fun x h=>by
  have e:=dR (env:=X.env) scope.names x;rw[h]at e;have e':(relabel scope X.env).names.lookup x=_:=e;rw[e'];simp only[Option.map_some];split;.exact .inl rfl
  .exact .inr rfl
 refine⟨⟨I.ok.mod,ok.kind,I.ok.glob,I.ok.blt,cR,fun x y c h1 h2=>bc.inj x y c h1 h2,fun x hx=>?_,fun x c h e=>le_of_lt (bc.own x c (eq_of_beq (show(scope.names.lookup x==some NameKind.cell)=true from h)) e),I.ok.hd,I.ok.frames,.inl rfl,fun b hb=>?_,I.bs,le_trans I.ok.Kh I.sz,fun b u e hb=>?_,fun b hb hfs=>?_,I.stack,I.Ao⟩,rfl,I.bare,Un.kept old,⟨m,hn,fun i x v e1 e2 hv=>?_⟩,fun x c e=>?_,I.hok.fresh (cR),fun x c e=>?_,fun p hp=>(by cases hp),I.hok.kept old,?_⟩;.--a YF name has its cell
   have hx:(relabel scope X.env).names.lookup x=some .cell\/(relabel scope X.env).names.lookup x=some .free:=hx;have e:=dR (env:=X.env) scope.names x;have e':(relabel scope X.env).names.lookup x=_:=e;rw[e']at hx;refine bc.has x ?_;cases q:scope.names.lookup x with|none=>rw[q]at hx;simp at hx|some k=>
     rw[q]at hx;by_cases hk:k=.free;.rw[hk];exact .inl rfl
     . have hk':(k==NameKind.free)=false:=by simpa using hk
       simp only[Option.map_some,hk',Bool.false_and,false_eq_true,if_false,Option.some.injEq]at hx;rcases hx with rfl|rfl;.exact .inr rfl
       .exact absurd rfl hk
 . obtain⟨f,lt⟩:=hf b hb;refine⟨ne_of_lt lt,fun x c e=>?_⟩;rcases bc.from' x c e with e|e;.exact f.2.2.2.2.1 x c e
   .rintro rfl;exact absurd (Nat.lt_trans e.1 lt) (lt_irrefl _)
 . obtain⟨f,lt⟩:=hf b hb;rcases f.2.2.2.1 with h|h;.exact I.ok.zV b u e h
   .have this:b<X.base.objs.size:=lt_size e;exact absurd (lt_of_lt_of_le this (le_trans I.ok.Kh h)) (lt_irrefl _)
 . obtain⟨f,lt⟩:=hf b hb;rcases mem_cons.mp (I.uY b hfs)with h|h;.exact f.2.1 h
   .exact f.2.2.1 h
 .--the names
   have hi:i<σ.length:=by
    by_cases hi:i<σ.length;.exact hi
    .rw[getElem?_append_right (by omega),getElem?_replicate]at e2;split at e2<;>cases e2
   rw[getElem?_append_left hi]at e2;obtain⟨h1',h2'⟩:=ok.get (by rw[<-I.len];exact hi) e1 hv;have hk:=ok.cap (x,.free) (PySem.mem_of_lookup h2') rfl;obtain⟨m0,hn0,hl⟩:=I.loc;obtain⟨u,r,l⟩:=hl i x v h1' e2 (.inr hk);refine⟨u,r,.inr ⟨YD x h2',?_⟩⟩;rcases l with⟨hk',_⟩|⟨_,c,hc,hcell⟩;.have hk':X.env.scope.names.lookup x=some .local:=hk';rcases hk with hk|hk<;>(rw[hk']at hk;cases hk)
   .obtain⟨c',hc'⟩:=bc.has x (.inl h2');have:=bc.fre x c' h2' hc';rw[hc]at this;cases this;refine⟨c,hc',?_⟩;obtain⟨oc,e3,e4⟩:=hcell;exact⟨oc,old c oc e3,e4⟩
 . rcases bc.from' x c e with e|e;.obtain⟨v,oc,e3,e4⟩:=I.cell x c e;exact⟨v,oc,old c oc e3,e4⟩
   .exact⟨_,e.2⟩
 . rcases bc.from' x c e with e|e;.exact I.jt x c e
   .exact I.hok.fresh (le_of_lt e.1)
 .show(σ++replicate n none).length=N'.length;rw[length_append,length_replicate,I.len,ok.len]
theorem uI{prog:Program}{w:World}{A:Around}{R:Result->Shared->Prop}{elt target iter:Expr}{ifs:List Expr}{pos:Pos}{it acc:Value}(I:Nat->Shared->Prop)(turn:∀ n s,I n s->wpAny (model prog w) A (pyNext it) (fun r s₁=>match r with|none=>R (.ok .next) s₁|some v=>wpAny (model prog w) A (letOwnedTupleGo target it v) (fun _ s₁=>wpAny (model prog w) A (assign target env v) (fun _ s₂=>wpAny (model prog w) A (forIn ifs true fun c r=>if r=true then do let ok<-isTrue c env (eval c env);pure (ForInStep.yield ok)else pure (ForInStep.yield r)) (fun ok s₃=>if ok=true then wpAny (model prog w) A (eval elt env) (fun x s₄=>wpAny (model prog w) A (call (.builtin "list.append") [acc,x]) (fun _ s₅=>∃m,m<n/\I m s₅) (notedBy (model prog w) A env fun e s'=>R (.error e) s') s₄) (notedBy (model prog w) A env fun e s'=>R (.error e) s') s₃ else ∃m,m<n/\I m s₃) (notedBy (model prog w) A env fun e s'=>R (.error e) s') s₂) (notedBy (model prog w) A env fun e s'=>R (.error e) s') s₁) (notedBy (model prog w) A env fun e s'=>R (.error e) s') s₁) (notedBy (model prog w) A env fun e s'=>R (.error e) s') s)(n:Nat){s:Shared}(h:I n s):codeAny (model prog w) A (.compLoop (.ListComp elt [⟨target,iter,ifs,0⟩] scope pos) 0 it acc env) R s:=by refine codeAny_loop rfl I (fun n s hI=>?_) n h;show wpAny _ A ((compTurn (.ListComp elt [⟨target,iter,ifs,0⟩] scope pos) 0 it acc env).onRaise (fun x=>do noteFrame x env;theTreesLotGoes x)) _ _ s;refine wpAny_noted ?_;rw[compTurn_list];refine wpAny_bind (wpAny_standAt (wpAny_bind (wpAny_mono (turn n s hI) (fun r s₁ h₁=>?_) fun _ _ h'=>h')));cases r with|none=>exact wpAny_pure h₁|some v=>refine wpAny_bind (wpAny_mono h₁ (fun _ s₁ h₁=>?_) fun _ _ h'=>h');refine wpAny_bind (wpAny_mono h₁ (fun _ s₂ h₂=>wpAny_bind (wpAny_mono h₂ (fun ok s₃ h₃=>?_) fun _ _ h'=>h')) fun _ _ h'=>h');cases ok with|false=>exact wpAny_pure ⟨rfl,h₃⟩|true=>exact wpAny_bind (wpAny_bind (wpAny_mono h₃ (fun x s₄ h₄=>wpAny_bind (wpAny_mono h₄ (fun _ s₅ h₅=>wpAny_pure (wpAny_pure ⟨rfl,h₅⟩)) fun _ _ h'=>h')) fun _ _ h'=>h'))
def RM(X:Cx)(ifs:List Expr)(t:TT):Prop:=∀(pins:List (Addr × Obj))(s:Shared)(σ:L2.St)(H:Hp)(Q:Bool->Hp->Prop),Inv X pins σ H s->t σ H Q->wpAny (model X.prog X.w) X.A (forIn ifs true fun c r=>if r=true then do let ok<-isTrue c X.env (eval c X.env);pure (ForInStep.yield ok)else pure (ForInStep.yield r)) (TP X pins σ Q) X.xe s
theorem Lx:RM X [] (fun _ H Q=>Q true H):=fun pins s σ H Q I h=>wpAny_tests_nil ⟨H,I,h⟩
theorem M7{c:Expr}{t:TT}(h:PT X c t):RM X [c] t:=fun pins s σ H Q I q=>wpAny_tests_one (h pins s σ H Q I q)
def Ov(J:It)(g:TG)(tt:TT)(te:TE)(D:Addr)(Q:Hp->Prop)(W:Nat->Nat->List V->L2.St->Hp->Prop):Prop:=∀ i m ys σ H,W i m ys σ H->H D=some (.lst ys)/\((J.stop i H/\Q H)\/(J.go i H/\∀ x H2,J.JQ i H x H2->g x σ H2 fun σ3 H3=>tt σ3 H3 fun b H4=>if b=true then te σ3 H4 fun y H5=>H5 D=some (.lst ys)/\ys.length<sizeLine/\∃m',m'<m/\W (i+1) m' (ys++[y]) σ3 (upd H5 D (.lst (ys++[y])))else ∃m',m'<m/\W (i+1) m' ys σ3 H4))
theorem uf{E:Value->Shared->Prop}{elt target iter:Expr}{ifs:List Expr}{pos:Pos}{it:Addr}{tn:Nat->Heap->Prop}{J:It}{g:TG}{tt:TT}{te:TE}{Q:Addr->Hp->Prop}{RR:Value->Addr->Result->Shared->Prop}(hc:X.calm=true)(ok:eV X scope N' n)(I:Inv X pins σ H s)(hcl:∀n c,cl.lookup n=some c->X.env.cells.lookup n=some c)(zW:∀n,(n,NameKind.free)∈scope.names->(cl.lookup n).isSome)(T:Turn X.prog X.w X.K target J fp it tn)(h0:tn 0 s.heap)(hf:∀b∈fp,n6 X pins H b)(hg:∀cl C s₀ H₀ ex,PG (qK X scope N' cl C s₀ H₀ ex) target g)(ht:∀cl C s₀ H₀ ex,RM (qK X scope N' cl C s₀ H₀ ex) ifs tt)(he:∀cl C s₀ H₀ ex,PE (qK X scope N' cl C s₀ H₀ ex) elt te)(hw:∀D,H D=none->∃W,(∃m,W 0 m [] (σ++replicate n none) (upd H D (.lst [])))/\Ov J g tt te D (Q D) W)(hRR:∀D C s' H',Q D H'->(∃m,s'.heap.Ns C m)->n6 X pins H' C->Inv X pins σ H' s'->RR (.ref D) C (.ok .next) s'):wpAny (model X.prog X.w) X.A (newList []) (fun acc s₃=>wpAny (model X.prog X.w) X.A (newFunctionEnv scope X.env.globals cl [] X.env.qual none .none (some X.env)) (fun cenv s₄=>codeAny (model X.prog X.w) X.A (.compStart (.ListComp elt [⟨target,iter,ifs,0⟩] scope pos) 0 (.ref it) acc {cenv with scope:=relabel scope X.env}) (RR acc cenv.locals) s₄) E s₃) E s:=by
 refine wpAny_newObj_type (Dh ok (fun x c e=>?lt) I.ok.inj hcl zW (fun cs h₁ hns hold bc=>?_));case lt=>obtain⟨v,z⟩:=I.cell x c e;exact lt_of_lt_of_le z.lt (by show _<=(s.heap.push _).objs.size;rw[size_push];exact le_succ _)
 dsimp only at hns hold bc ⊢--the new list,tracked
 have I3:Inv X pins σ (upd H s.heap.objs.size (.lst [])) {s with heap:=s.heap.push {cls:=.type "list",data:=.seq ([]:List Value).toArray}}:=I.Ro (t':=s.toks) .nil (Bm);generalize hs3:({s with heap:=s.heap.push {cls:=.type "list",data:=.seq ([]:List Value).toArray}}:Shared)=s3 at I3;have hsz:s3.heap.objs.size=s.heap.objs.size+1:=by rw[<-hs3];exact size_push _ _
 have Pq:s3.heap=s.heap.push {cls:=.type "list",data:=.seq ([]:List Value).toArray}:=by rw[<-hs3]
 obtain⟨W,⟨m0,w0⟩,turn⟩:=hw s.heap.objs.size I.fresh;have tnK:∀{h':Heap},(∀b o,s.heap.get? b=some o->h'.get? b=some o)->tn 0 h':=fun k=>T.keep _ _ _ h0 fun b hb o e=>k b o e;have fp3:∀b∈fp,n6 X pins (upd H s.heap.objs.size (.lst [])) b/\b<s3.heap.objs.size:=fun b hb=>by obtain⟨o,e,_⟩:=T.obj 0 _ h0 b hb;have lt:=lt_size e;obtain⟨f1,f2⟩:=hf b hb;exact⟨⟨by rw[aG (ne_of_lt lt)];exact f1,f2⟩,by rw[hsz];exact Nat.lt_succ_of_lt lt⟩
 rw[<-Pq]at hns hold bc ⊢;have I4:=Ha (t:=s3.toks) ok I3 fp3 bc hns hold;have YG:∀b o,s.heap.get? b=some o->h₁.get? b=some o:=fun b o e=>hold b o (by rw[Pq];exact dw e);generalize hX:qK X scope N' cs s3.heap.objs.size s3 (upd H s.heap.objs.size (.lst [])) fp=X' at I4;have hA:X'.A=X.A:=by rw[<-hX];rfl
 have hpr:X'.prog=X.prog:=by rw[<-hX];rfl
 have hwr:X'.w=X.w:=by rw[<-hX];rfl
 have hKK:X'.K=X.K:=by rw[<-hX];rfl
 have hcalm:X'.calm=true:=by rw[<-hX];exact hc
 have hxe:X'.xe=fun _ _=>False:=by rw[<-hX];rfl
 have henv:X'.env=compEnvC scope cs s3.heap.objs.size X.env:=by rw[<-hX];rfl
 have hg':PG X' target g:=by rw[<-hX];exact hg _ _ _ _ _
 have ht':RM X' ifs tt:=by rw[<-hX];exact ht _ _ _ _ _
 have he':PE X' elt te:=by rw[<-hX];exact he _ _ _ _ _
 have ff:∀{H':Hp}{b:Addr},b∈fp->H' b=none->n6 X' [] H' b:=fun{H' b}hb hn=>by
  obtain⟨f,lt⟩:=fp3 b hb;rw[<-hX];refine⟨hn,ne_of_lt lt,fun hfs=>?_,.inl hb,fun x c e=>?_,fun p hp=>by cases hp⟩
  . rcases mem_cons.mp (I3.uY b hfs)with h|h;.exact f.2.1 h
    .exact f.2.2.1 h
  . rcases bc.from' x c e with e|e;.exact f.2.2.2.2.1 x c e
    .rintro rfl;exact absurd (Nat.lt_trans e.1 lt) (lt_irrefl _)--behind the block
 have fin:∀{σ':L2.St}{H':Hp}{s':Shared},Inv X' [] σ' H' s'->Q s.heap.objs.size H'->RR (.ref s.heap.objs.size) s3.heap.objs.size (.ok .next) s':=fun{σ' H' s'}J' q=>by
  rw[<-hX]at J';have hC:H' s3.heap.objs.size=none:=J'.free;obtain⟨hh,gg,dd,tt',os'⟩:=s';have eos:os'=s3.os:=J'.os;subst eos;refine hRR _ _ _ H' q (let⟨m,hm,_⟩:=J'.loc;⟨m,hm⟩) ?_ (I3.call (h':=hh) (g':=gg) (d':=dd) (t':=tt') (ch:=fp) J'.base J'.hok J'.bare fun b hb=>?_);.exact I3.yu (cR) hC
  .obtain⟨f,lt⟩:=fp3 b hb;exact⟨f.2.2.2.1,f.2.1,f.2.2.2.2.1,f.2.2.2.2.2⟩
 have main:codeAny (model X.prog X.w) X.A (.compLoop (.ListComp elt [⟨target,iter,ifs,0⟩] scope pos) 0 (.ref it) (.ref s.heap.objs.size) X'.env) (RR (.ref s.heap.objs.size) s3.heap.objs.size) {s3 with heap:=h₁,toks:=s3.toks}:=by
  refine uI (fun k s'=>∃i ys σ' H',Inv X' [] σ' H' s'/\tn i s'.heap/\(∀b∈fp,H' b=none)/\W i k ys σ' H') (fun k s5 hI=>?_) m0 ⟨0,[],_,_,I4,tnK YG,fun b hb=>(fp3 b hb).1.1,w0⟩;obtain⟨i,ys,σ5,H5,I5,t5,f5,w5⟩:=hI;obtain⟨hD,hturn⟩:=turn i k ys σ5 H5 w5;have noE:∀{Z:Value->Shared->Prop},∀(e:Value)(s':Shared),X'.xe e s'->Z e s':=fun e s' z=>by rw[hxe]at z;exact False.elim z
  rcases hturn with⟨stop,q⟩|⟨go,step⟩;.have z:=T.done X' hpr hwr hKK hcalm i [] s5 σ5 H5 (fun _ _=>False) I5 (fun b hb=>ff hb (f5 b hb)) t5 stop;rw[hA]at z;refine wpAny_mono z (?_) fun _ _ z=>False.elim z;rintro r s6⟨hr,I6⟩;subst hr;exact fin I6 q
  . have z:=T.item X' hpr hwr hKK hcalm i [] s5 σ5 H5 (fun _ _=>False) I5 (fun b hb=>ff hb (f5 b hb)) t5 go;rw[hA]at z;refine wpAny_mono z (?_) fun _ _ z=>False.elim z;rintro r s6⟨u,hr,z6⟩;subst hr;refine wpAny_mono z6 (?_) fun _ _ z=>False.elim z;rintro _ s7⟨x,H7,I7,r7,y7,t7,f7⟩;have I7':=I7.pinned (fun b hb=>ff hb (f7 b hb)) (T.obj _ _ t7)--what the pins keep
    have back:∀{σ':L2.St}{H':Hp}{s':Shared},Inv X' ([]++rz fp s7.heap) σ' H' s'->Inv X' [] σ' H' s'/\tn (i+1) s'.heap/\∀b∈fp,H' b=none:=fun{σ' H' s'}J'=>by refine⟨J'.lK,T.keep _ _ _ t7 fun b hb o e=>(J'.pin (b,o) (mem_append_right _ (mem_append_right _ (jc hb e)))).1,fun b hb=>?_⟩;obtain⟨o,e,_⟩:=T.obj _ _ t7 b hb;exact(J'.pin (b,o) (mem_append_right _ (mem_append_right _ (jc hb e)))).2.1
    have z7:=hg' _ s7 σ5 H7 x u _ I7' r7 (step x H7 y7);rw[hA,hpr,hwr]at z7;refine wpAny_mono z7 (?_) noE;rintro _ s8⟨σ8,H8,I8,q8⟩;have z8:=ht' _ s8 σ8 H8 _ I8 q8;rw[hA,hpr,hwr]at z8;refine wpAny_mono z8 (?_) noE;rintro b s9⟨H9,I9,q9⟩;cases b with|false=>rw[if_neg Bool.false_ne_true]at q9 ⊢;obtain⟨m',hm,w'⟩:=q9;obtain⟨b1,b2,b3⟩:=back I9;exact⟨m',hm,i+1,ys,σ8,H9,b1,b2,b3,w'⟩|true=>rw[if_pos rfl]at q9 ⊢;have z9:=he' _ s9 σ8 H9 _ I9 q9;rw[hA,hpr,hwr]at z9;refine wpAny_mono z9 (?_) noE;rintro y j4⟨yv,H10,I10,r10,aeD,hlen,m',hm,w'⟩;have z10:=nQ _ j4 σ8 H10 (.ref s.heap.objs.size) [yv] (.ref s.heap.objs.size) [y] (fun v H11=>H11=upd H10 s.heap.objs.size (.lst (ys++[yv]))) I10 rfl (.cons r10 .nil) ⟨_,ys,yv,rfl,rfl,aeD,hlen,rfl⟩;rw[hA,hpr,hwr]at z10;refine wpAny_mono z10 (?_) noE;rintro _ ZW⟨_,H11,I11,_,e11⟩;subst e11;obtain⟨b1,b2,b3⟩:=back I11;exact⟨m',hm,i+1,ys++[yv],σ8,_,b1,b2,b3,w'⟩
 have e3:({s3 with heap:=h₁,toks:=s3.toks}:Shared)={s with heap:=h₁}:=by rw[<-hs3]
 rw[henv,e3]at main;exact codeAny_compStart_list main (T.self _ 0 _ _ _ (tnK YG) main)
end
section
variable{X:Cx}{elt target iter:Expr}{ifs:List Expr}{scope:Scope}{pos:Pos}{N':List Str}{n:Nat}{wi:TI}{g:TG}{tt:TT}{te:TE}
def ud(n:Nat)(wi:TI)(g:TG)(tt:TT)(te:TE):TE:=fun σ H Q=>wi σ H fun J H1=>∀D,H1 D=none->∃W,(∃m,W 0 m [] (σ++replicate n none) (upd H1 D (.lst [])))/\Ov J g tt te D (fun H'=>Q (.ref D) H') W
theorem mz{pins:List (Addr×Obj)}{σ:L2.St}{H:Hp}{s:Shared}(I:Inv X pins σ H s)(ok:eV X scope N' n):∃cl,closureFor scope X.env=pure cl/\(∀n c,cl.lookup n=some c->X.env.cells.lookup n=some c)/\∀n,(n,NameKind.free)∈scope.names->(cl.lookup n).isSome:=yL fun m hm=>I.ok.has m (ok.cap (m,.free) hm rfl)
theorem Ks(hc:X.calm=true)(ok:eV X scope N' n)(hi:PI X target iter wi)(hg:∀cl C s₀ H₀ ex,PG (qK X scope N' cl C s₀ H₀ ex) target g)(ht:∀cl C s₀ H₀ ex,RM (qK X scope N' cl C s₀ H₀ ex) ifs tt)(he:∀cl C s₀ H₀ ex,PE (qK X scope N' cl C s₀ H₀ ex) elt te)(hs:∀x,foldedSetIterable iter X.env x=pure x:=by intro _;rfl):PE X (.ListComp elt [⟨target,iter,ifs,0⟩] scope pos) (ud n wi g tt te):=by intro pins s σ H Q I h;obtain⟨cl,hclos,hcl,zW⟩:=mz I ok;rw[eval_ListComp];refine wpAny_comprehension_free (use:=none) rfl hs hclos ok.kind ok.names (cz (hi pins s σ H _ I h) fun v s1 h1=>cz h1 fun itv s2 h2=>?_);obtain⟨it,fp,tn,J,H2,rfl,I2,T,t0,f2,hw⟩:=h2;refine uf (Q:=fun D H'=>Q (.ref D) H') (RR:=fun acc C=>compPost (model X.prog X.w) X.A X.xe none (EP X pins σ Q) acc C) hc ok I2 hcl zW T t0 f2 hg ht he hw fun D C s' H' q hm Eu I'=>?_;obtain⟨m,hm⟩:=hm;refine⟨m,hm,fun h' hs'=>⟨.ref D,H',?_,rfl,q⟩⟩;exact I'.turned (t':=s'.toks) (fun b o hb e=>hs'.extBut b o hb e) Eu.1 Eu.2.1 Eu.2.2.2.1 Eu.2.2.2.2.1 Eu.2.2.2.2.2
theorem vd{i:Nat}{x:Str}{pos' spos:Pos}(hc:X.calm=true)(hN:X.N.Nodup)(hx0:X.N[i]?=some x)(hx:Loc X.env.scope x)(ok:eV X scope N' n)(hi:PI X target iter wi)(hg:∀cl C s₀ H₀ ex,PG (qK X scope N' cl C s₀ H₀ ex) target g)(ht:∀cl C s₀ H₀ ex,RM (qK X scope N' cl C s₀ H₀ ex) ifs tt)(he:∀cl C s₀ H₀ ex,PE (qK X scope N' cl C s₀ H₀ ex) elt te)(hsw:swapsWith (.ListComp elt [⟨target,iter,ifs,0⟩] scope pos) (some (.Name x pos')) spos.line X.env=pure true)(hs:∀x,foldedSetIterable iter X.env x=pure x:=by intro _;rfl)(hf:X.fn x=true\/X.env.scope.names.lookup x=some .local:=by first|exact .inl rfl|exact .inr rfl|assumption):PS X (.Assign [.Name x pos'] (.ListComp elt [⟨target,iter,ifs,0⟩] scope pos) spos) (Qk (ud n wi g tt te) (jP i)):=by
 intro pins s σ H D I h;obtain⟨cl,hclos,hcl,zW⟩:=mz I ok;rw[exec_Assign_Name_used _ _ _ _ hsw];refine wpAny_bind (wpAny_standAt (wpAny_bind ?_));show wpAny _ X.A (do let _<-comprehension (.ListComp elt [⟨target,iter,ifs,0⟩] scope pos) scope X.env _ (newList []) false (eval iter X.env) (some (assign (.Name x pos') X.env))) _ _ s;refine wpAny_bind (wpAny_mono (wpAny_comprehension_free (use:=some (assign (.Name x pos') X.env)) (Q:=fun _ s'=>SP X pins D .next s') rfl hs hclos ok.kind ok.names (cz (hi pins s σ H _ I h) fun v s1 h1=>cz h1 fun itv s2 h2=>?_)) (fun _ s' hq=>wpAny_pure (wpAny_pure hq)) fun _ _ e=>e);obtain⟨it,fp,tn,J,H2,rfl,I2,T,t0,f2,hw⟩:=h2;refine uf (Q:=fun Da H'=>D.nx (σ.set i (some (.ref Da))) H') (RR:=fun acc C=>compPost (model X.prog X.w) X.A X.xe (some (assign (.Name x pos') X.env)) (fun _ s'=>SP X pins D .next s') acc C) hc ok I2 hcl zW T t0 f2 hg ht he hw fun Da C s' H' q hm Eu I'=>?_;obtain⟨m,hm⟩:=hm;show wpAny _ X.A (assign (.Name x pos') X.env (.ref Da)) _ _ _;refine wpAny_assign_Name (ug I' hN hx0 hx (show RelV (.ref Da) (.ref Da)from rfl) (?_) hf);rintro s'' I''⟨a,sb,ha⟩;have hCa:C≠a:=by
  rcases ha with rfl|ha;.exact Eu.2.1
  .exact fun z=>Eu.2.2.2.2.1 x a ha z.symm
 refine⟨m,hm.sameBut sb hCa,fun h' hs'=>⟨_,H',?_,q⟩⟩;exact I''.turned (t':=s''.toks) (fun b o hb e=>hs'.extBut b o hb e) Eu.1 Eu.2.1 Eu.2.2.2.1 Eu.2.2.2.2.1 Eu.2.2.2.2.2
def abM(K:PySem.W.Frag)(tl:TE):TI:=fun σ H R=>tl σ H fun x H1=>∃a,x=.ref a/\(((∃xs,dF K H1 a xs)/\R (Sw K a) H1)\/((∃xs,iT K H1 a xs)/\R (Vk K a) H1))
theorem yw{tg l:Expr}{tl:TE}(hl:PE X l tl):PI X tg l (abM X.K tl):=by
 intro pins s σ H R I h;refine cz (hl pins s σ H _ I h) ?_;rintro v s1⟨x,H1,I1,r1,q1⟩;obtain⟨a,e,q1⟩:=q1;subst e;cases r1;rcases q1 with⟨⟨xs,hq⟩,q⟩|⟨⟨xs,hq⟩,q⟩
 . obtain⟨its,rv,p,hz⟩:=I1.list hq;refine wpAny_pyIter_list p.isList ?_;refine⟨s1.heap.objs.size,[s1.heap.objs.size],_,_,H1,rfl,I1.kept (t':=s1.toks) fun b o e=>dw e,Eg a _,⟨_,get?_push_size _ rfl,rfl,rfl⟩,fun b hb=>?_,q⟩;have e:b=s1.heap.objs.size:=by simpa using hb
   subst e;exact I1.yu (cR) (I1.hok.fresh (cR))
 . obtain⟨its,rv,p,hz⟩:=I1.tuple hq;refine wpAny_pyIter_tuple (show s1.heap.IsTuple a its.toArray from p) ?_;refine⟨s1.heap.objs.size,[s1.heap.objs.size],_,_,H1,rfl,I1.kept (t':=s1.toks) fun b o e=>dw e,zT a _,⟨_,get?_push_size _ rfl,rfl,rfl⟩,fun b hb=>?_,q⟩;have e:b=s1.heap.objs.size:=by simpa using hb
   subst e;exact I1.yu (cR) (I1.hok.fresh (cR))
end
end L2
end
section
namespace HH
open PySem L2 PySem.Spec PyProof.Rows
variable{v:V}{i m:Nat}{K:PySem.W.Frag}{F H:Hp}{ρ:List Sl}{σ:L2.St}{x:Str}{p':Pos}{is:List Nat}{ds:List D}{s:Shared}{A:Around}{u':Value}
structure Walk(K:PySem.W.Frag)(F:Hp)(ρ:List Sl)(σ:L2.St)(H:Hp)(ul:List Sl->List Sl)(J:It)(ds:List D)(F1:Hp)(ρ1:List Sl)(H1:Hp):Prop where
 gs:GS K F1 ρ1 σ H1
 src:∀(n k:Nat)(F':Hp)(ρ':List Sl)(σ':L2.St)(H':Hp),aU K F1 (ρ1++replicate n .aV) (σ++replicate n none) H1 F' ρ' σ' H'->(∀d,ds[k]?=some d->J.go k H'/\∀x kh,J.JQ k H' x kh->∃F'',Ext F' H' F'' kh/\Rep K F'' x d)/\(ds.length<=k->J.stop k H')fin:∀F2 ρ2 σ2 H2,aU K F1 ρ1 σ H1 F2 ρ2 σ2 H2->aU K F ρ σ H F2 (ul ρ2) σ2 H2/\∀v r,cT K F2 ρ2 σ2 H2 ρ1 σ H1 v r->cT K F2 (ul ρ2) σ2 H2 ρ σ H v r
inductive tIt(K:PySem.W.Frag)(iv:Option Nat)(f:Ev)(σ:L2.St)(H:Hp)(R:It->Hp->Prop):Prop where|mk(F:Hp)(ρ:List Sl)(ds:List D)(ρ1:List Sl)(g:GS K F ρ σ H)(e:srcOf iv f ρ=.ok ds ρ1)(k:∀J F1 H1,Walk K F ρ σ H (bz ρ iv) J ds F1 ρ1 H1->R J H1)
section
variable{K:PySem.W.Frag}{F F1 H H1:Hp}{ρ ρ1:List Sl}{σ:L2.St}{ds:List D}{a:Addr}
theorem Ar{xs:List V}{F' H':Hp}(hq:iT K H' a xs)(r:aL K F' xs ds)(s:aM F' H')(k:Nat):(∀d,ds[k]?=some d->(Vk K a).go k H'/\∀x kh,(Vk K a).JQ k H' x kh->∃F'',Ext F' H' F'' kh/\Rep K F'' x d)/\(ds.length<=k->(Vk K a).stop k H'):=by refine⟨fun d hd=>?_,fun h=>⟨xs,hq,by rw[r.length];exact h⟩⟩;obtain⟨w,h1,h2⟩:=r.get hd;refine⟨⟨xs,w,hq,h1⟩,?_⟩;rintro x kh⟨e,y⟩;subst e;have:=y xs hq;rw[h1]at this;cases this;exact⟨F',.refl s,h2⟩
theorem rB{xs:List V}{F' H':Hp}(hq:dF K H' a xs)(r:aL K F' xs ds)(s:aM F' H')(k:Nat):(∀d,ds[k]?=some d->(Sw K a).go k H'/\∀x kh,(Sw K a).JQ k H' x kh->∃F'',Ext F' H' F'' kh/\Rep K F'' x d)/\(ds.length<=k->(Sw K a).stop k H'):=by refine⟨fun d hd=>?_,fun h=>⟨xs,hq,by rw[r.length];exact h⟩⟩;obtain⟨w,h1,h2⟩:=r.get hd;refine⟨⟨xs,w,hq,h1⟩,?_⟩;rintro x kh⟨e,y⟩;subst e;have:=y xs hq;rw[h1]at this;cases this;exact⟨F',.refl s,h2⟩
theorem xm{ul:List Sl->List Sl}{d:D}(s:aU K F ρ σ H F1 ρ1 σ H1)(r:Rep K F1 v d)(hi:items d=some ds)(fin:∀F2 ρ2 σ2 H2,aU K F1 ρ1 σ H1 F2 ρ2 σ2 H2->aU K F ρ σ H F2 (ul ρ2) σ2 H2/\∀v r,cT K F2 ρ2 σ2 H2 ρ1 σ H1 v r->cT K F2 (ul ρ2) σ2 H2 ρ σ H v r):∃a,v=.ref a/\(((∃xs,dF K H1 a xs)/\Walk K F ρ σ H ul (Sw K a) ds F1 ρ1 H1)\/((∃xs,iT K H1 a xs)/\Walk K F ρ σ H ul (Vk K a) ds F1 ρ1 H1)):=by cases d with|tup es=>cases hi;rw[Rep]at r;obtain⟨a,xs,rfl,h1,h2⟩:=r;exact⟨a,rfl,.inr ⟨⟨xs,aM.gC s.gs.sub h1⟩,s.gs,fun n k F' ρ' σ' H' s'=>Ar (aM.gC s'.gs.sub (aM.gC s'.bV h1)) (h2.mono s'.bV) s'.gs.sub k,fin⟩⟩|lst es=>cases hi;rw[Rep]at r;obtain⟨a,xs,rfl,h1,h2⟩:=r;exact⟨a,rfl,.inl ⟨⟨xs,s.gs.sub.seq h1⟩,s.gs,fun n k F' ρ' σ' H' s'=>rB (s'.gs.sub.seq (s'.bV.seq h1)) (h2.mono s'.bV) s'.gs.sub k,fin⟩⟩|_=>cases hi
theorem tU{ul:List Sl->List Sl}(g:GS K F ρ1 σ H)(e:ρ1[i]?=some (.lent ds))(fin:∀F2 ρ2 σ2 H2,aU K F ρ1 σ H F2 ρ2 σ2 H2->aU K F ρ σ H F2 (ul ρ2) σ2 H2/\∀v r,cT K F2 ρ2 σ2 H2 ρ1 σ H v r->cT K F2 (ul ρ2) σ2 H2 ρ σ H v r):∃a,σ[i]?=some (some (.ref a))/\(∃xs,dF K H a xs)/\Walk K F ρ σ H ul (Sw K a) ds F ρ1 H:=by obtain⟨a,xs,h1,h2,h3,h4⟩:=g.mO i _ ds e rfl;have hi:i<ρ1.length:=(cV e).1;refine⟨a,h1,⟨xs,dF.of h2⟩,g,fun n k F' ρ' σ' H' s'=>?_,fin⟩;obtain⟨z1,t,z2,z3⟩:=s'.lk i _ (by rw[getElem?_append_left hi];exact e) rfl;cases(show t=.lent ds from z3);rw[getElem?_append_left (by rw[<-g.len];exact hi),h1]at z1;obtain⟨a',ys,w1,w2,w3,w4⟩:=s'.gs.mO i _ ds z2 rfl;rw[z1]at w1;cases w1;exact rB (dF.of w2) w4 s'.gs.sub k
end
section
variable{X:Cx}{c:Call}{n:Nat}{e a b d tg:Expr}{p pa pb pd:P}{pos:Pos}
theorem kZ{t t':TI}(h:PI X tg e t)(i:∀σ H R,t' σ H R->t σ H R):PI X tg e t':=fun pins s σ H R I q=>h pins s σ H R I (i σ H R q)
def SI(X:Cx)(c:Call)(tg e:Expr)(p:P):Prop:=PI X tg e (tIt X.K (isVar p) (HH.ev c p))
theorem bW(h:SX X c e p):SI X c tg e p:=by unfold SI;cases hv:isVar p with|none=>refine kZ (yw h.ev) ?_;rintro σ H R⟨F,ρ,ds,ρ1,g,e,k⟩;obtain⟨r,ρ2,e1,e2⟩:=ao e;have zz:=aB e2;clear e2;obtain⟨e2,e3⟩:=zz;subst e3;refine⟨F,ρ,r,_,g,e1,fun v F' H' s rr=>?_⟩;obtain⟨F2,s2,_,rp⟩:=s.cX rr;obtain⟨a,ha,hw⟩:=xm (ul:=bz ρ none) s2 rp e2 fun F3 ρ3 σ3 H3 s3=>⟨s2.trans s3,fun v r rr=>rr.later s2⟩;exact⟨a,ha,hw.imp (fun⟨z,w⟩=>⟨z,k _ _ _ w⟩) (fun⟨z,w⟩=>⟨z,k _ _ _ w⟩)⟩|some i=>
   refine kZ (yw (h.var i hv)) ?_;rintro σ H R⟨F,ρ,ds,ρ1,g,e,k⟩;unfold srcOf at e;dsimp only at e;split at e
   . rename_i b d q;have zz:=aB e;clear e;obtain⟨e2,e3⟩:=zz;subst e3;obtain⟨v,h1,h2⟩:=g.val i b d q;have fin:∀F2 ρ2 σ2 H2,aU X.K F ρ σ H F2 ρ2 σ2 H2->aU X.K F ρ σ H F2 (bz ρ (some i) ρ2) σ2 H2/\∀v r,cT X.K F2 ρ2 σ2 H2 ρ σ H v r->cT X.K F2 (bz ρ (some i) ρ2) σ2 H2 ρ σ H v r:=fun F2 ρ2 σ2 H2 s=>by unfold bz;dsimp only;rw[q];exact⟨s,fun _ _ z=>z⟩
     obtain⟨a,ha,hw⟩:=xm (ul:=bz ρ (some i)) (.refl g) h2 e2 fin;exact⟨v,h1,a,ha,hw.imp (fun⟨z,w⟩=>⟨z,k _ _ _ w⟩) (fun⟨z,w⟩=>⟨z,k _ _ _ w⟩)⟩
   . rename_i b ds' q;cases e;have hi:i<ρ.length:=(cV q).1;have fin:∀F2 ρ2 σ2 H2,aU X.K F (ρ.set i (.lent ds)) σ H F2 ρ2 σ2 H2->aU X.K F ρ σ H F2 (bz ρ (some i) ρ2) σ2 H2/\∀v r,cT X.K F2 ρ2 σ2 H2 (ρ.set i (.lent ds)) σ H v r->cT X.K F2 (bz ρ (some i) ρ2) σ2 H2 ρ σ H v r:=fun F2 ρ2 σ2 H2 s=>by unfold bz;dsimp only;rw[q];exact aU.bz g q s
     obtain⟨a,h1,hx,w⟩:=tU (ul:=bz ρ (some i)) (g.lend q) (getElem?_set_self hi) fin;exact⟨_,h1,a,rfl,.inl ⟨hx,k _ _ _ w⟩⟩
   . rename_i ds' q;cases e;have fin:∀F2 ρ2 σ2 H2,aU X.K F ρ σ H F2 ρ2 σ2 H2->aU X.K F ρ σ H F2 (bz ρ (some i) ρ2) σ2 H2/\∀v r,cT X.K F2 ρ2 σ2 H2 ρ σ H v r->cT X.K F2 (bz ρ (some i) ρ2) σ2 H2 ρ σ H v r:=fun F2 ρ2 σ2 H2 s=>by unfold bz;dsimp only;rw[q];exact⟨s,fun _ _ z=>z⟩
     obtain⟨a,h1,hx,w⟩:=tU (ul:=bz ρ (some i)) g q fin;exact⟨_,h1,a,rfl,.inl ⟨hx,k _ _ _ w⟩⟩
   .cases e
theorem xg{F1 H1:Hp}{ρ1:List Sl}(s:aU K F ρ σ H F1 ρ1 σ H1)(i j:Int):Walk K F ρ σ H (bz ρ none) (Uv i (j-i).toNat) ((List.range (j-i).toNat).map fun(k:Nat)=>D.int (i+(k:Int))) F1 ρ1 H1:=by
 refine⟨s.gs,fun n k F' ρ' σ' H' s'=>⟨fun d hd=>?_,fun h=>?_⟩,fun F3 ρ3 σ3 H3 s3=>⟨s.trans s3,fun v r rr=>rr.later s⟩⟩;.rw[getElem?_map]at hd;obtain⟨m,e1,e2⟩:=map_some hd;obtain⟨h1,h2⟩:=cV e1;rw[List.getElem_range]at h2;subst h2;subst e2;rw[length_range]at h1;refine⟨h1,?_⟩;rintro x kh⟨q1,q2⟩;subst q1;subst q2;exact⟨F',.refl s'.gs.sub,bY _⟩
 .rw[length_map,length_range]at h;exact h
theorem gh(hx:x="range")(hg:Gl X x)(hm:X.mg x=none)(ha:SX X c a pa)(hs:starEach [a] X.env=[(false,eval a X.env)]:=by rfl):SI X c tg (.Call (.Name x p') [a] [] pos) (.rQ (.con (.int 0)) pa):=by
 subst hx;obtain⟨ta,h1,h2⟩:=ha.dj;refine kZ (tZ hg hm (cO h1 eU hs) hs) ?_;rintro σ H R⟨F,ρ,ds,ρ1,g,e,k⟩;obtain⟨r,ρ2,e1,e2⟩:=ao e;have zz:=aB e2;clear e2;obtain⟨e2,e3⟩:=zz;subst e3;rw[HH.E20]at e1;obtain⟨xy,ρ3,e4,e5⟩:=ao e1;have zz:=aB e5;clear e5;obtain⟨e5,e6⟩:=zz;subst e6;obtain⟨y0,ρ5,e9,e10⟩:=ao e4;cases e10;obtain⟨i,f1,e5⟩:=cF e5;obtain⟨j,f2,e5⟩:=cF e5;obtain⟨⟨b1,b2,b3,b4⟩,e5⟩:=bG e5;have f1:i=0:=by cases f1;rfl
 subst f1;subst e5;cases e2;cases di f2;refine h2 g e9 fun v F' H' s pv=>⟨j,by rw[pv.int],by omega,by omega,?_⟩;have:=xg s 0 j;rw[sub_zero]at this;refine k _ F' H' ?_;rw[sub_zero];exact this
theorem Am(hx:x="range")(hg:Gl X x)(hm:X.mg x=none)(ha:SX X c a pa)(hb:SX X c b pb)(hs:starEach [a,b] X.env=[(false,eval a X.env),(false,eval b X.env)]:=by rfl)(hs2:starEach [b] X.env=[(false,eval b X.env)]:=by rfl):SI X c tg (.Call (.Name x p') [a,b] [] pos) (.rQ pa pb):=by subst hx;obtain⟨ta,tb,h1,h2,h3⟩:=ha.iw hb;refine kZ (DR hg hm (cO h1 (cO h2 eU hs2) (by rw[hs,hs2])) hs hs2) ?_;rintro σ H R⟨F,ρ,ds,ρ1,g,e,k⟩;obtain⟨r,ρ2,e1,e2⟩:=ao e;have zz:=aB e2;clear e2;obtain⟨e2,e3⟩:=zz;subst e3;rw[HH.E20]at e1;obtain⟨xy,ρ3,e4,e5⟩:=ao e1;have zz:=aB e5;clear e5;obtain⟨e5,e6⟩:=zz;subst e6;obtain⟨i,f1,e5⟩:=cF e5;obtain⟨j,f2,e5⟩:=cF e5;obtain⟨⟨b1,b2,b3,b4⟩,e5⟩:=bG e5;subst e5;cases e2;refine h3 g e4 fun v u F' H' s pv pu=>⟨i,j,?_,by omega,k _ F' H' (xg s i j)⟩;have e1:=di f1;have e2:=di f2;rw[e1]at pv;rw[e2]at pu;rw[pv.int,pu.int]
end
section
variable{X:Cx}{c:Call}{n:Nat}{e a b d tg iter:Expr}{p pa pb pd:P}{pos:Pos}{body:List Stmt}{ss:List S}
def Jk(K:PySem.W.Frag)(bd:List Sl->D->Option (List Sl))(g:TG):Prop:=∀(x:V)(d:D)(F:Hp)(ρ ρ':List Sl)(σ:L2.St)(H:Hp)(Q:L2.St->Hp->Prop),GS K F ρ σ H->Rep K F x d->bd ρ d=some ρ'->(∀σ',aU K F ρ σ H F ρ' σ' H->Q σ' H)->g x σ H Q
theorem uL(i:Nat):Jk K (fun ρ d=>put ρ i (.val false d)) (jP i):=fun x d F ρ ρ' σ H Q g r h k=>k _ (aU.put (r:=.val d) (.refl g) r h)
theorem dg:∀(is:List Nat)(gs:Fb),(∀(xs:List V)(ds:List D)(F:Hp)(ρ ρ':List Sl)(σ:L2.St)(H:Hp)(Q:L2.St->Hp->Prop),GS K F ρ σ H->aL K F xs ds->putAll ρ is ds=some ρ'->(∀σ',aU K F ρ σ H F ρ' σ' H->Q σ' H)->gs xs σ H Q)->∀i,∀(xs:List V)(ds:List D)(F:Hp)(ρ ρ':List Sl)(σ:L2.St)(H:Hp)(Q:L2.St->Hp->Prop),GS K F ρ σ H->aL K F xs ds->putAll ρ (i::is) ds=some ρ'->(∀σ',aU K F ρ σ H F ρ' σ' H->Q σ' H)->Jy (jP i) gs xs σ H Q:=by intro is gs ih i xs ds F ρ ρ' σ H Q g r h k;cases ds with|nil=>simp[putAll]at h|cons d ds=>obtain⟨v,vs,rfl,h1,h2⟩:=r.cL;rw[putAll]at h;obtain⟨ρ1,e1,e2⟩:=cF h;have s1:=aU.put (r:=.val d) (.refl g) h1 e1;refine⟨v,vs,rfl,ih vs ds F ρ1 ρ' _ H _ s1.gs h2 e2 fun σ' s2=>k σ' (s1.trans s2)⟩
theorem mD:∀(xs:List V)(ds:List D)(F:Hp)(ρ ρ':List Sl)(σ:L2.St)(H:Hp)(Q:L2.St->Hp->Prop),GS K F ρ σ H->aL K F xs ds->putAll ρ [] ds=some ρ'->(∀σ',aU K F ρ σ H F ρ' σ' H->Q σ' H)->Qo xs σ H Q:=by intro xs ds F ρ ρ' σ H Q g r h k;cases ds with|nil=>rw[putAll]at h;cases h;exact⟨r.fB,k σ (.refl g)⟩|cons d ds=>simp[putAll]at h
theorem lr:∀{is:List Nat}{ds:List D}{ρ ρ':List Sl},putAll ρ is ds=some ρ'->ds.length=is.length|[],[],_,_,_=>rfl|[],_::_,_,_,h=>by simp[putAll]at h|_::_,[],_,_,h=>by simp[putAll]at h|i::is,d::ds,ρ,ρ',h=>by rw[putAll]at h;obtain⟨ρ1,e1,e2⟩:=cF h;simp[lr e2]
theorem qR{gs:Fb}(hm:m=is.length)(h:∀(xs:List V)(ds:List D)(F:Hp)(ρ ρ':List Sl)(σ:L2.St)(H:Hp)(Q:L2.St->Hp->Prop),GS K F ρ σ H->aL K F xs ds->putAll ρ is ds=some ρ'->(∀σ',aU K F ρ σ H F ρ' σ' H->Q σ' H)->gs xs σ H Q):Jk K (fun ρ d=>cH ρ is false d) (R9 K m gs):=by intro x d F ρ ρ' σ H Q g r hb k;replace hb:cH ρ is false d=some ρ':=hb;cases d with|tup ds=>replace hb:putAll ρ is ds=some ρ':=hb;rw[Rep]at r;obtain⟨a,xs,rfl,h1,h2⟩:=r;exact⟨a,xs,rfl,aM.gC g.sub h1,by rw[h2.length,lr hb,hm],h xs _ F ρ ρ' σ H Q g h2 hb k⟩|_=>cases hb
theorem rE{g:TG}{one:Bool}(hp:PassesOwn (model X.prog X.w) X.A X.env X.xe)(hc:X.calm=true)(hi:SI X c tg iter p)(hg:PG X tg g)(hgo:Jk X.K (fun ρ d=>cH ρ is one d) g)(hb:SB X c n body ss)(hs:∀x,foldedSetIterable iter X.env x=pure x:=by intro _;rfl):SS X c n (.For tg iter body [] pos) (.gV p is one ss):=by
 refine dX (Hj hp hc hi hg hb hs) ?_;rintro D σ H⟨F,ρ,fl,ρ',g0,e,k⟩;rw[HH.X14]at e;obtain⟨ds,ρ1,e1,e⟩:=ao e;obtain⟨fl',ρ2,e2,e⟩:=ao e;cases e;refine⟨F,ρ,ds,ρ1,g0,e1,fun J F1 H1 w=>?_⟩;have src:∀(i:Nat)(F':Hp)(ρ':List Sl)(σ':L2.St)(H':Hp),aU X.K F1 ρ1 σ H1 F' ρ' σ' H'->(∀d,ds[i]?=some d->J.go i H'/\∀x kh,J.JQ i H' x kh->∃F'',Ext F' H' F'' kh/\Rep X.K F'' x d)/\(ds.length<=i->J.stop i H'):=fun i F' ρ' σ' H' s=>w.src 0 i F' ρ' σ' H' (by simpa using s);refine⟨fun i m σi Hi=>∃Fi ρi,aU X.K F1 ρ1 σ H1 Fi ρi σi Hi/\m=ds.length-i/\i<=ds.length/\iG is one (gB c n ss) (ds.drop i) ρi=.ok fl ρ2,⟨_,F1,ρ1,.refl w.gs,rfl,Bm,e2⟩,?_⟩;rintro i m σi Hi⟨Fi,ρi,si,rfl,hle,ei⟩;obtain⟨s1,s2⟩:=src i Fi ρi σi Hi si;by_cases hlt:i<ds.length
 . right;have hd:ds[i]?=some ds[i]:=by simp[hlt]
   obtain⟨go,step⟩:=s1 _ hd;refine⟨go,fun σ' H'=>∃m',m'<ds.length-i/\∃Fi ρi,aU X.K F1 ρ1 σ H1 Fi ρi σ' H'/\m'=ds.length-(i+1)/\i+1<=ds.length/\iG is one (gB c n ss) (ds.drop (i+1)) ρi=.ok fl ρ2,fun σ' H' z=>z,fun x H' y=>?_⟩;obtain⟨F2,ext,rx⟩:=step x H' y;have si2:=si.trans (ext.stp si.gs);rw[drop_eq_getElem_cons hlt,iG]at ei;cases hbd:cH ρi is one ds[i]with|none=>rw[hbd]at ei;cases ei|some ρb=>rw[hbd]at ei;obtain⟨flb,ρc,eb,ei⟩:=ao ei;refine hgo x _ F2 ρi ρb σi H' _ si2.gs rx hbd fun σ2 sb=>?_;have si3:=si2.trans sb;refine⟨F2,ρb,flb,ρc,si3.gs,eb,fun F4 σ4 H4 s4=>?_⟩;have si4:=si3.trans s4;cases flb with|next=>exact⟨_,by omega,F4,ρc,si4,rfl,hlt,ei⟩|cont=>exact⟨_,by omega,F4,ρc,si4,rfl,hlt,ei⟩|brk=>cases ei;exact k F4 σ4 H4 (w.fin _ _ _ _ si4).1|ret r=>cases ei;intro v rr;obtain⟨z1,z2⟩:=w.fin _ _ _ _ si4;exact k F4 σ4 H4 z1 v (z2 v r (rr.later si3))
 . left;have hdr:ds.drop i=[]:=by rw[drop_eq_nil_iff];omega
   rw[hdr,iG]at ei;cases ei;exact⟨s2 (by omega),k Fi σi Hi (w.fin _ _ _ _ si).1⟩
theorem oh(i:Nat):(fun(ρ:List Sl)(d:D)=>cH ρ [i] true d)=fun ρ d=>put ρ i (.val false d):=by funext ρ d;rfl
theorem Bh{pos':Pos}(hp:PassesOwn (model X.prog X.w) X.A X.env X.xe)(hc:X.calm=true)(hN:X.N.Nodup)(hx0:X.N[i]?=some x)(hx:Loc X.env.scope x)(hi:SI X c (.Name x pos') iter p)(hb:SB X c n body ss)(hs:∀x,foldedSetIterable iter X.env x=pure x:=by intro _;rfl)(hf:X.fn x=true\/X.env.scope.names.lookup x=some .local:=by first|exact .inl rfl|exact .inr rfl|assumption):SS X c n (.For (.Name x pos') iter body [] pos) (.gV p [i] true ss):=rE hp hc hi (aF hN hx0 hx hf) (by rw[oh];exact uL i) hb hs
theorem ni(hp:PassesOwn (model X.prog X.w) X.A X.env X.xe)(ht:ST X c e p)(hb:SB X c n body ss):SS X c n (.While e body [] pos) (.whl p ss):=by refine dX (Hc hp ht hb) ?_;rintro D σ H⟨F,ρ,fl,ρ',g,e,k⟩;rw[HH.X15]at e;refine⟨fun m σi Hi=>∃Fi ρi,aU X.K F ρ σ H Fi ρi σi Hi/\rT (ji (HH.ev c p)) (gB c n ss) m ρi=.ok fl ρ',⟨n,F,ρ,.refl g,e⟩,?_⟩;rintro m σi Hi⟨Fi,ρi,si,ei⟩;cases m with|zero=>rw[rT]at ei;cases ei|succ m=>rw[rT]at ei;obtain⟨b,ρ1,e1,ei⟩:=ao ei;refine⟨Fi,ρi,b,ρ1,si.gs,e1,fun F1 H1 s1=>?_⟩;have s2:=si.trans s1;cases b with|false=>rw[if_neg Bool.false_ne_true]at ei;cases ei;exact k F1 σi H1 s2|true=>rw[if_pos rfl]at ei;obtain⟨flb,ρc,eb,ei⟩:=ao ei;refine(show ∃N:L2.St->Hp->Prop,_/\_ from⟨fun σ' H'=>∃m',m'<m+1/\∃Fi ρi,aU X.K F ρ σ H Fi ρi σ' H'/\rT (ji (HH.ev c p)) (gB c n ss) m' ρi=.ok fl ρ',fun σ' H' z=>z,F1,ρ1,flb,ρc,s2.gs,eb,fun F4 σ4 H4 s4=>?_⟩);have s5:=s2.trans s4;cases flb with|next=>exact⟨m,by omega,F4,ρc,s5,ei⟩|cont=>exact⟨m,by omega,F4,ρc,s5,ei⟩|brk=>cases ei;exact k F4 σ4 H4 s5|ret r=>cases ei;exact fun v rr=>k F4 σ4 H4 s5 v (rr.later s2)
end
section
variable{X:Cx}{c:Call}{n:Nat}{e elt tg iter:Expr}{p ps pe:P}{pos:Pos}{scope:Scope}{N':List Str}{ifs:List Expr}
theorem Q3{t t':TE}(h:PE X e t)(i:∀σ H Q,σ.length=X.N.length->t' σ H Q->t σ H Q):PE X e t':=fun pins s σ H Q I q=>h pins s σ H Q I (i σ H Q I.len q)
theorem Iu{st:Stmt}{t t':TS}(h:PS X st t)(i:∀D σ H,σ.length=X.N.length->t' D σ H->t D σ H):PS X st t':=fun pins s σ H D I q=>h pins s σ H D I (i D σ H I.len q)
def mC(K:PySem.W.Frag)(m:Nat)(is:List Nat)(one:Bool)(g:TG):Prop:=∀(x:V)(d:D)(F:Hp)(ρ ρ':List Sl)(σ:L2.St)(H:Hp)(Q:L2.St->Hp->Prop),GS K F ρ σ H->Rep K F x d->cH ρ is one d=some ρ'->(∀σ',aU K F ρ σ H F ρ' σ' H->σ'.take m=σ.take m->Q σ' H)->g x σ H Q
theorem take_set{α:Type}{l:List α}{a:α}(h:m<=i):(l.set i a).take m=l.take m:=by rw[List.take_set_of_le h]
theorem bR(h:m<=i):mC K m [i] true (jP i):=fun x d F ρ ρ' σ H Q g r hb k=>k _ (aU.put (r:=.val d) (.refl g) r hb) (take_set h)
def Nu(K:PySem.W.Frag)(m:Nat)(is:List Nat)(gs:Fb):Prop:=∀(xs:List V)(ds:List D)(F:Hp)(ρ ρ':List Sl)(σ:L2.St)(H:Hp)(Q:L2.St->Hp->Prop),GS K F ρ σ H->aL K F xs ds->putAll ρ is ds=some ρ'->(∀σ',aU K F ρ σ H F ρ' σ' H->σ'.take m=σ.take m->Q σ' H)->gs xs σ H Q
theorem cg{gs:Fb}(hi:m<=i)(ih:Nu K m is gs):Nu K m (i::is) (Jy (jP i) gs):=by intro xs ds F ρ ρ' σ H Q g r h k;cases ds with|nil=>simp[putAll]at h|cons d ds=>obtain⟨v,vs,rfl,h1,h2⟩:=r.cL;rw[putAll]at h;obtain⟨ρ1,e1,e2⟩:=cF h;have s1:=aU.put (r:=.val d) (.refl g) h1 e1;exact⟨v,vs,rfl,ih vs ds F ρ1 ρ' _ H _ s1.gs h2 e2 fun σ' s2 z=>k σ' (s1.trans s2) (z.trans (take_set hi))⟩
theorem ig:Nu K m [] Qo:=by intro xs ds F ρ ρ' σ H Q g r h k;cases ds with|nil=>rw[putAll]at h;cases h;exact⟨r.fB,k σ (.refl g) rfl⟩|cons d ds=>simp[putAll]at h
theorem ik{gs:Fb}{l:Nat}(hm:l=is.length)(h:Nu K m is gs):mC K m is false (R9 K l gs):=by intro x d F ρ ρ' σ H Q g r hb k;cases d with|tup ds=>replace hb:putAll ρ is ds=some ρ':=hb;rw[Rep]at r;obtain⟨a,xs,rfl,h1,h2⟩:=r;exact⟨a,xs,rfl,aM.gC g.sub h1,by rw[h2.length,lr hb,hm],h xs _ F ρ ρ' σ H Q g h2 hb k⟩|_=>cases hb
def SQ(X:Cx)(c:Call)(ifs:List Expr)(t:Option P):Prop:=RM X ifs (EY X.K (kI c t))
theorem cI:SQ X c [] none:=fun pins s σ H Q I⟨F,ρ,k,ρ',g,e,q⟩=>by rw[kI]at e;cases e;exact Lx pins s σ H Q I (q F H (.refl g))
theorem ie(h:ST X c e p):SQ X c [e] (some p):=fun pins s σ H Q I⟨F,ρ,k,ρ',g,e,q⟩=>by rw[kI]at e;exact M7 h pins s σ H Q I ⟨F,ρ,k,ρ',g,e,q⟩
theorem aU.Iv{F1 H1:Hp}{ρ1:List Sl}{σ1:L2.St}{Da:Addr}{o:HO}(s:aU K F ρ σ H F1 ρ1 σ1 H1)(h:H Da=none)(hf:F1 Da=none)(ho:¬ Own ρ1 σ1 Da):aU K F ρ σ H F1 ρ1 σ1 (upd H1 Da o):=by
 refine⟨⟨fun b u e=>?_,s.gs.len,s.gs.val,fun i t ds e e'=>?_,s.gs.dis⟩,s.bV,s.yd,fun b u e n=>?_,s.vV,s.len,s.lk⟩
 . have:b≠Da:=by rintro rfl;rw[hf]at e;cases e
   rw[aG this];exact s.gs.sub b u e
 . obtain⟨a,xs,q1,q2,q3,q4⟩:=s.gs.own i t ds e e';have:a≠Da:=by rintro rfl;exact ho ⟨i,⟨t,ds,e,e'⟩,q1⟩
   exact⟨a,xs,q1,by rw[aG this];exact q2,q3,q4⟩
 . have:b≠Da:=by rintro rfl;rw[h]at e;cases e
   rw[aG this];exact s.keep b u e n
theorem wZ{ρ1 ρ2:List Sl}{ul:List Sl->List Sl}{ti:TI}{one:Bool}{test:List Sl->Res Bool}{el:Ev}{g:TG}{Q:VK}{xs:List D}(hm:σ.length=m)(hgo:mC K m is one g)(hti:∀R:It->Hp->Prop,(∀J F1 H1,Walk K F ρ σ H ul J ds F1 ρ1 H1->R J H1)->ti σ H R)(hlim:ds.length<=lim)(e2:turns is one test el ds [] (ρ1++replicate n .aV)=.ok xs ρ2)(k:∀v F' H',aU K F ρ σ H F' (ul (ρ2.take ρ1.length)) σ H'->cT K F' (ul (ρ2.take ρ1.length)) σ H' ρ σ H v (.own xs)->Q v H'):ud n ti g (EY K test) (vR K el) σ H Q:=by
 refine hti _ fun J F1 H1 w Da Cr=>?_;have hl1:ρ1.length=σ.length:=w.gs.len;have gm:=w.gs.more (n:=n) (τ:=replicate n none) (by simp);have fD:F1 Da=none:=by cases q:F1 Da with|none=>rfl|some o=>rw[w.gs.sub Da o q]at Cr;cases Cr
 have nO:¬ Own (ρ1++replicate n .aV) (σ++replicate n none) Da:=fun⟨i,⟨t,dt,q1,q2⟩,q3⟩=>by obtain⟨a,ys,z1,z2,_⟩:=gm.own i t dt q1 q2;rw[q3]at z1;cases z1;rw[Cr]at z2;cases z2
 refine⟨fun i mm ys σi Hi=>∃Fi ρi acc,aU K F1 (ρ1++replicate n .aV) (σ++replicate n none) H1 Fi ρi σi Hi/\σi.take m=σ/\Hi Da=some (.lst ys)/\Fi Da=none/\¬ Own ρi σi Da/\aL K Fi ys acc/\acc.length<=i/\mm=ds.length-i/\i<=ds.length/\turns is one test el (ds.drop i) acc ρi=.ok xs ρ2,⟨_,F1,_,[],(aU.refl gm).Iv Cr fD nO,by rw[List.take_append_of_le_length (by omega),List.take_of_length_le (by omega)],bh,fD,nO,.nil,Bm,rfl,Bm,e2⟩,?_⟩;rintro i mm ys σi Hi⟨Fi,ρi,acc,si,hσ,hD,hF,hO,rs,hacc,rfl,hle,ei⟩;refine⟨hD,?_⟩--what stays of the new list through a step
 have stay:∀{F2 H2:Hp}{ρ3:List Sl}{σ2:L2.St},aU K Fi ρi σi Hi F2 ρ3 σ2 H2->H2 Da=some (.lst ys)/\F2 Da=none/\¬ Own ρ3 σ2 Da:=fun{F2 H2 ρ3 σ2}s=>by
  refine⟨s.keep Da _ hD hO,?_,fun o=>?_⟩;.cases q:F2 Da with|none=>rfl|some o=>
      rcases s.yd Da hF (by rw[q];simp)with z|z;.exact absurd z hO
      .exact(JB hD z).elim
  . rcases s.vV Da o with z|z;.exact hO z
    .rw[hD]at z;cases z
 obtain⟨s1,s2⟩:=w.src n i Fi ρi σi Hi si;by_cases hlt:i<ds.length
 . right;have hd:ds[i]?=some ds[i]:=by simp[hlt]
   obtain⟨go,step⟩:=s1 _ hd;refine⟨go,fun x H2 y=>?_⟩;obtain⟨F2,ext,rx⟩:=step x H2 y;have t2:=ext.stp si.gs;rw[drop_eq_getElem_cons hlt,turns]at ei;cases hbd:cH ρi is one ds[i]with|none=>rw[hbd]at ei;cases ei|some ρb=>rw[hbd]at ei;obtain⟨bb,ρc,eb,ei⟩:=ao ei;refine hgo x _ F2 ρi ρb σi H2 _ t2.gs rx hbd fun σ2 sb htk=>?_;have t3:=t2.trans sb;refine⟨F2,ρb,bb,ρc,t3.gs,eb,fun F4 H4 s4=>?_⟩;have t4:=t3.trans s4;cases bb with|false=>rw[if_neg Bool.false_ne_true]at ei;obtain⟨y1,y2,y3⟩:=stay t4;exact⟨_,by omega,F4,ρc,acc,si.trans t4,htk.trans hσ,y1,y2,y3,rs.mono t4.bV,by omega,rfl,hlt,ei⟩|true=>
       rw[if_pos rfl]at ei;obtain⟨re,ρe,ee,ei⟩:=ao ei;refine(show vR K el σ2 H4 _ from⟨F4,ρc,re,ρe,t4.gs,ee,fun v F5 H5 s5 rr=>?_⟩);obtain⟨F6,s6,_,rp⟩:=s5.cX rr;have t6:=t4.trans s6;obtain⟨y1,y2,y3⟩:=stay t6;have hlen:ys.length<sizeLine:=by have h1:=rs.length;have h2:lim=sizeLine:=rfl;omega
       exact⟨y1,hlen,_,by omega,F6,ρe,acc++[re.d],(si.trans t6).Iv Cr y2 y3,htk.trans hσ,bh,y2,y3,(rs.mono t6.bV).append (.cons rp .nil),by simp;omega,rfl,hlt,ei⟩
 . left;have hdr:ds.drop i=[]:=by rw[drop_eq_nil_iff];omega
   rw[hdr,turns]at ei;cases ei;refine⟨s2 (by omega),?_⟩;obtain⟨l1,l2⟩:=aU.less (m:=ρ1.length) rfl w.gs (by simp) si;have hst:σi.take ρ1.length=σ:=by rw[hl1,hm];exact hσ
   rw[hst]at l1;have rr:cT K Fi ρ2 σi Hi (ρ1++replicate n .aV) (σ++replicate n none) H1 (.ref Da) (.own xs):=⟨Da,ys,rfl,hD,hF,rs,hO,.inr Cr⟩;have Pr:=l2 _ _ rr;rw[hst]at Pr;obtain⟨z1,z2⟩:=w.fin _ _ _ _ l1;exact k _ Fi Hi z1 (z2 _ _ Pr)
theorem Aj{iv:Option Nat}{f:Ev}{one:Bool}{test:List Sl->Res Bool}{el:Ev}{g:TG}{Q:VK}{r:R}{ρ':List Sl}(hm:σ.length=m)(hgo:mC K m is one g)(g0:GS K F ρ σ H)(e:((srcOf iv f ρ).bind fun ds ρ₁=>if ds.length<=lim then(turns is one test el ds [] (ρ₁++replicate n .aV)).bind fun xs ρ₂=>Res.ok (R.own xs) (bz ρ iv (ρ₂.take ρ₁.length))else .stuck)=.ok r ρ')(k:∀v F' H',aU K F ρ σ H F' ρ' σ H'->cT K F' ρ' σ H' ρ σ H v r->Q v H'):ud n (tIt K iv f) g (EY K test) (vR K el) σ H Q:=by
 obtain⟨ds,ρ1,e1,e⟩:=ao e;split at e;.rename_i hlim;obtain⟨xs,ρ2,e2,e⟩:=ao e;cases e;exact wZ hm hgo (fun R h=>⟨F,ρ,ds,ρ1,g0,e1,h⟩) hlim e2 k
 .cases e
theorem bT{g:TG}{one:Bool}{t:Option P}(hc:X.calm=true)(ok:eV X scope N' n)(hi:SI X c tg iter ps)(hg:∀cl C s₀ H₀ ex,PG (qK X scope N' cl C s₀ H₀ ex) tg g)(hgo:mC X.K X.N.length is one g)(ht:∀cl C s₀ H₀ ex,SQ (qK X scope N' cl C s₀ H₀ ex) c ifs t)(he:∀cl C s₀ H₀ ex,SX (qK X scope N' cl C s₀ H₀ ex) c elt pe)(hs:∀x,foldedSetIterable iter X.env x=pure x:=by intro _;rfl):SX X c (.ListComp elt [⟨tg,iter,ifs,0⟩] scope pos) (.comp ps n is one t pe):=by refine⟨Q3 (Ks (tt:=EY X.K (kI c t)) (te:=vR X.K (HH.ev c pe)) hc ok hi hg ht (fun cl C s₀ H₀ ex=>(he cl C s₀ H₀ ex).ev) hs) ?_,fun i h=>by cases h⟩;rintro σ H Q hl⟨F,ρ,r,ρ',g0,e,k⟩;rw[HH.E19]at e;exact Aj hl hgo g0 e k
theorem uZ{pos' spos:Pos}{nn:Nat}{g:TG}{one:Bool}{t:Option P}(hc:X.calm=true)(hN:X.N.Nodup)(hx0:X.N[i]?=some x)(hx:Loc X.env.scope x)(ok:eV X scope N' n)(hi:SI X c tg iter ps)(hg:∀cl C s₀ H₀ ex,PG (qK X scope N' cl C s₀ H₀ ex) tg g)(hgo:mC X.K X.N.length is one g)(ht:∀cl C s₀ H₀ ex,SQ (qK X scope N' cl C s₀ H₀ ex) c ifs t)(he:∀cl C s₀ H₀ ex,SX (qK X scope N' cl C s₀ H₀ ex) c elt pe)(hsw:swapsWith (.ListComp elt [⟨tg,iter,ifs,0⟩] scope pos) (some (.Name x pos')) spos.line X.env=pure true:=by rfl)(hs:∀x,foldedSetIterable iter X.env x=pure x:=by intro _;rfl)(hf:X.fn x=true\/X.env.scope.names.lookup x=some .local:=by first|exact .inl rfl|exact .inr rfl|assumption):SS X c nn (.Assign [.Name x pos'] (.ListComp elt [⟨tg,iter,ifs,0⟩] scope pos) spos) (.asg i (.comp ps n is one t pe)):=by refine Iu (vd (tt:=EY X.K (kI c t)) (te:=vR X.K (HH.ev c pe)) hc hN hx0 hx ok hi hg ht (fun cl C s₀ H₀ ex=>(he cl C s₀ H₀ ex).ev) hsw hs hf) ?_;rintro D σ H hl⟨F,ρ,fl,ρ',g0,e,k⟩;rw[HH.X6]at e;obtain⟨r,ρ1,e1,e⟩:=ao e;obtain⟨ρ2,ρ3,e2,e⟩:=ao e;cases e;have zz:=aB e2;clear e2;obtain⟨e2,e3⟩:=zz;rw[HH.E19]at e1;exact Aj hl hgo g0 e1 fun v F1 H1 s1 rr=>k F1 _ H1 (s1.put rr e2)
end
section
variable{X:Cx}{c:Call}{n:Nat}{e a b d:Expr}{p pa pb pd:P}{pos:Pos}{es:List Expr}{ps:List P}
inductive rBn(K:PySem.W.Frag)(f:List D->Option R)(xs:List V)(H:Hp)(Q:VK):Prop where|mk(F:Hp)(ds:List D)(r:R)(sm:aM F H)(rs:aL K F xs ds)(he:f ds=some r)(k:∀v F' H',Ext F H F' H'->cG K F' H' H v r->Q v H')
theorem Wc{E:Expr}{f:List D->Option R}{q:P}(hp:∀{t},PA X es t->PE X E (tCB (rBn X.K f) t))(ha:SA X c es ps)(hq:∀ρ,HH.ev c q ρ=(evs c ps ρ).bind fun ds ρ=>lift (f ds) ρ)(hv:isVar q=none):SX X c E q:=by refine⟨fH (hp ha.1) ?_,fun i h=>by rw[hv]at h;cases h⟩;rintro σ H Q⟨F,ρ,r,ρ',g,e,k⟩;rw[hq]at e;obtain⟨ds,ρ1,e1,e2⟩:=ao e;have zz:=aB e2;clear e2;obtain⟨e2,e3⟩:=zz;subst e3;exact⟨F,ρ,ds,ρ1,g,e1,fun vs F' H' s rs=>⟨F',ds,r,s.gs.sub,rs,e2,fun w F2 H2 x rn=>k w F2 H2 (s.trans (x.stp s.gs)) (.later s (rn.nG s.gs))⟩⟩
theorem Xl{xs:List V}{i j:Int}(h:aL K F xs [.int i,.int j]):xs=[.int i,.int j]:=by obtain⟨v,r,rfl,h1,h2⟩:=h.cL;obtain⟨u,r2,rfl,h3,h4⟩:=h2.cL;rw[Rep]at h1 h3;rw[h1,h3,h4.fB]
theorem inv2{f:Zu}{g:Int->Int->Int}{r:R}(h0:blt f []=none)(h1:∀a,blt f [a]=none)(h3:∀a b c l,blt f (a::b::c::l)=none)(hn:∀a b,gU a=false->blt f [a,b]=none)(hm:∀i b,gU b=false->blt f [.int i,b]=none)(hi:∀i j,blt f [.int i,.int j]=some (.val (.int (g i j))))(he:blt f ds=some r):∃i j,ds=[.int i,.int j]/\r=.val (.int (g i j)):=by
 rcases ds with _|⟨a,_|⟨b,_|⟨c,l⟩⟩⟩;.rw[h0]at he;cases he
 .rw[h1]at he;cases he
 . by_cases ha:gU a=true
   . obtain⟨i,rfl⟩:∃i,a=.int i:=by cases a<;>first|exact⟨_,rfl⟩|cases ha
     by_cases hb:gU b=true
     . obtain⟨j,rfl⟩:∃j,b=.int j:=by cases b<;>first|exact⟨_,rfl⟩|cases hb
       rw[hi]at he;cases he;exact⟨i,j,rfl,rfl⟩
     .rw[hm i b (by simpa using hb)]at he;cases he
   .rw[hn a b (by simpa using ha)]at he;cases he
 .rw[h3]at he;cases he
theorem QM(hc:X.calm=true):fL X (.builtin "max") (rBn X.K (blt .max2)):=by rintro pins s σ H xs us Q I r⟨F,ds,r',sm,rs,he,k⟩;obtain⟨i,j,rfl,rfl⟩:=inv2 (g:=fun i j=>if i<j then j else i) rfl (fun a=>by cases a<;>rfl) (fun a b c l=>by cases a<;>first|rfl|(cases b<;>rfl)) (fun a b h=>by cases a<;>first|rfl|cases h) (fun i b h=>by cases b<;>first|rfl|cases h) (fun _ _=>rfl) he;rw[Xl rs]at r;exact CW hc pins s σ H _ us Q I r ⟨_,_,rfl,cG.cU sm (bY _) k⟩
theorem boot_min:bootBuiltins "min"=some (.builtin "min"):=by decide+kernel
theorem boot_max:bootBuiltins "max"=some (.builtin "max"):=by decide+kernel
theorem Ku(hx:x="max")(hc:X.calm=true)(hg:Gl X x)(hm:X.mg x=none)(ha:SA X c [a,b] [pa,pb])(hs:starEach [a,b] X.env=(false,eval a X.env)::starEach [b] X.env:=by rfl)(hpl:(backTo pos (starEach [b] X.env)).any (·.1)=false:=by rfl):SX X c (.Call (.Name x p') [a,b] [] pos) (.blt .max2 [pa,pb]):=by subst hx;exact Wc (fun h=>gG (QM hc) hg hm boot_max h (he:=hs) (hpl:=hpl)) ha (fun ρ=>rfl) rfl
end
section
variable{X:Cx}{c:Call}{n:Nat}{e a b d:Expr}{p pa pb pd:P}{pos:Pos}{es:List Expr}{ps:List P}
theorem Bd(g:GS K F ρ σ H)(h:Fe ρ i=some ds):∃a xs,σ[i]?=some (some (V.ref a))/\dF K H a xs:=by
 unfold Fe at h;split at h;.rename_i q;cases h;obtain⟨v,h1,h2⟩:=g.pk q;obtain⟨a,xs,rfl,h3,_⟩:=h2.lst g.sub;exact⟨a,xs,h1,h3⟩
 .cases h
theorem iZ{k:Nat}{px tpos:Pos}(hN:X.N[k]?=some x)(hv:yC X.env.scope x)(hi:SX X c b pb)(he:SX X c e p)(ha:∀ v,assign (.Subscript (.Name x px) b tpos) X.env v=(do
  let ov<-holding [v] (eval (.Name x px) X.env)let iv<-holding [v,ov] (eval b X.env)standAt tpos
  holding [v,ov,iv] (setItem ov iv v)release [v,ov,iv] []):=by intro _;rfl)(hs:swapsWithSole [.Subscript (.Name x px) b tpos] e pos.line X.env=pure false:=by rfl)(hw:swappedStores [.Subscript (.Name x px) b tpos] e X.env=pure none:=by rfl)(h1:(assignEach [.Subscript (.Name x px) b tpos] X.env).map (·.2)=[assign (.Subscript (.Name x px) b tpos) X.env]:=by rfl)(hd:(x==("__debug__":Str))=false:=by decide)(hcd:(x==("__classdict__":Str))=false:=by decide):SS X c n (.Assign [.Subscript (.Name x px) b tpos] e pos) (.sy k pb p):=by
 obtain⟨ti,hi1,hi2⟩:=hi.dj;refine dX (G9 he.ev (QC (iB hN hv hd hcd) hi1 set_list ha) hs hw h1) ?_;rintro D σ H⟨F,ρ,fl,ρ',g,e,kk⟩;rw[HH.X9]at e;obtain⟨r,ρ1,e1,e⟩:=ao e;obtain⟨x0,ρ1',e0,e⟩:=ao e;have zz:=aB e0;clear e0;obtain⟨e0,Et⟩:=zz;subst Et;obtain⟨dk,ρ2,e2,e⟩:=ao e;refine⟨F,ρ,r,ρ1,g,e1,fun v F1 H1 s1 rr=>?_⟩;obtain⟨F2,s2,_,rp⟩:=s1.cX rr;obtain⟨o,ho,_⟩:=s2.gs.pk e0;refine⟨o,ho,hi2 s2.gs e2 fun vi F3 H3 s3 pi=>?_⟩;split at e
 . rename_i bb ds kk' q;split at e;.rename_i j hj;cases e;obtain⟨ad,xs,q1,q2,q3,q4⟩:=s3.gs.mO k _ ds q rfl;rw[ho]at q1;cases q1;refine⟨ad,xs,kk',j,rfl,pi.int,q2,by rw[q4.length];exact hj,?_⟩;exact kk F3 σ _ ((s2.trans s3).trans (s3.gs.mut q ho (q4.set (rp.mono s3.bV) j)))
   .cases e
 .cases e
theorem bQ{k:Nat}{px apos cpos:Pos}(hN:X.N[k]?=some x)(hv:yC X.env.scope x)(he:SX X c e p)(hline:(apos.endLine==cpos.line)=true:=by rfl)(hs:starEach [e] X.env=(false,eval e X.env)::starEach [] X.env:=by rfl)(hbase:attributeBase (.Name x px) "append" X.env (eval (.Name x px) X.env)=eval (.Name x px) X.env:=by rfl)(hfew:((backTo cpos (starEach [e] X.env)).all (fun x=>!x.1)&&(backToKw cpos (keywordEach [] X.env)).all (fun x=>x.1.isSome)&&decide ([e].length+([]:List Keyword).length+(if([]:List Keyword).isEmpty then 0 else 1)<30))=true:=by rfl)(hsw:swapsWith (.Call (.Attribute (.Name x px) "append" apos) [e] [] cpos) none pos.line X.env=pure false:=by rfl)(hd:(x==("__debug__":Str))=false:=by decide)(hcd:(x==("__classdict__":Str))=false:=by decide):SS X c n (.Expr (.Call (.Attribute (.Name x px) "append" apos) [e] [] cpos) pos) (.app k p):=by
 refine dX (vy (Oa PySem.F.plainAttrs_list PySem.F.slot_list_append PySem.F.type_list_append nQ (iB hN hv hd hcd) (cO he.ev eU hs) hbase hfew hline hs) hsw) ?_;rintro D σ H⟨F,ρ,fl,ρ',g,e,kk⟩;rw[HH.X10]at e;obtain⟨d0,ρ0,e0,e⟩:=ao e;have zz:=aB e0;clear e0;obtain⟨e0,Et⟩:=zz;subst Et;obtain⟨r,ρ1,e1,e⟩:=ao e;obtain⟨a,xs,h1,h2⟩:=Bd g e0;refine⟨.ref a,h1,.inl ⟨rfl,xs,h2⟩,F,ρ,r,ρ1,g,e1,fun v F1 H1 s1 rr=>?_⟩;obtain⟨F2,s2,_,rp⟩:=s1.cX rr;split at e
 . rename_i bb ds q;split at e;.rename_i hlt;cases e;obtain⟨ad,ys,q1,q2,q3,q4⟩:=s2.gs.mO k _ ds q rfl;rw[h1]at q1;cases q1;exact⟨_,ys,v,rfl,rfl,q2,by rw[q4.length];exact hlt,kk F2 σ _ (s2.trans (s2.gs.mut q h1 (q4.append (.cons rp .nil))))⟩
   .cases e
 .cases e
theorem Q4{j:Nat}{y:Str}{px py pt:Pos}{kt k2 Tp}(hc:X.calm=true)(hN:X.N.Nodup)(hi:X.N[i]?=some x)(hj:X.N[j]?=some y)(hij:i≠j)(hx:X.env.scope.names.lookup x=some .local)(hy:X.env.scope.names.lookup y=some .local)(ha:SX X c a pa)(hb:SX X c b pb)(hw:swappedStores [.Tuple [.Name x px,.Name y py] kt pt] (.Tuple [a,b] k2 Tp) X.env=pure (some [x,y]):=by rfl)(hs:swapsWithSole [.Tuple [.Name x px,.Name y py] kt pt] (.Tuple [a,b] k2 Tp) pos.line X.env=pure false:=by rfl)(h1:starEach [a,b] X.env=(false,eval a X.env)::starEach [b] X.env:=by rfl)(h2:starEach [b] X.env=(false,eval b X.env)::starEach [] X.env:=by rfl):SS X c n (.Assign [.Tuple [.Name x px,.Name y py] kt pt] (.Tuple [a,b] k2 Tp) pos) (.par i j pa pb):=by refine dX (L2.R3 hc hN hi hj hij hx hy (cO ha.ev (cO hb.ev eU h2) h1) hw hs) ?_;rintro D σ H⟨F,ρ,fl,ρ',g,e,k⟩;rw[HH.X7]at e;obtain⟨r,ρ1,e1,e⟩:=ao e;obtain⟨r2,ρ2,e2,e⟩:=ao e;obtain⟨ρ3,ρ4,e3,e⟩:=ao e;cases e;have zz:=aB e3;clear e3;obtain⟨e3,e4⟩:=zz;obtain⟨ρ5,e5,e6⟩:=cF e3;refine⟨F,ρ,r,ρ1,g,e1,fun v F1 H1 s1 rr=>?_⟩;obtain⟨F2,s2,_,rp⟩:=s1.cX rr;refine⟨F2,ρ1,r2,ρ2,s2.gs,e2,fun u F3 H3 s3 rr3=>?_⟩;obtain⟨F4,s4,_,rp4⟩:=s3.cX rr3;refine⟨v,u,rfl,?_⟩;have t4:=s2.trans s4;have t5:=t4.put (r:=.val r.d) (v:=v) (rp.mono s4.bV) e5;exact k F4 _ H3 (t5.put (r:=.val r2.d) (v:=u) rp4 e6)
theorem Hg{bs:List Bool}(h:ds.mapM xP=some bs):ds=bs.map D.bl:=by induction ds generalizing bs with|nil=>simp at h;subst h;rfl|cons d ds ih=>rw[mapM_cons]at h;cases hd:xP d with|none=>rw[hd]at h;cases h|some k=>rw[hd]at h;cases hr:ds.mapM xP with|none=>rw[hr]at h;cases h|some r=>rw[hr]at h;cases h;rw[map_cons,<-ih hr,p7 hd]
theorem Ai{K:PySem.W.Frag}{F:Hp}:∀{bs:List Bool}{xs:List V},aL K F xs (bs.map D.bl)->xs=bs.map V.bl|[],_,h=>h.fB|k::bs,_,h=>by obtain⟨v,r,rfl,h1,h2⟩:=h.cL;rw[Rep]at h1;rw[h1,Ai h2];rfl
theorem By:∀{bs:List Bool}{us:List Value},Vals (bs.map V.bl) us->us=bs.map Value.bool|[],_,h=>h.zero|k::bs,_,.cons r t=>by rw[map_cons,<-By t,show _=_ from r]
theorem Lw{id:String}{f:List Bool->Bool}(hc:X.calm=true)(rule:∀{x:Value}{Q:Value->Shared->Prop}{s:Shared},wpAny (model X.prog X.w) X.A.in1 (pyIter x) (fun it s₂=>∃ I fp wr n P St tr,it=.ref I/\Walks X.prog X.w X.A.in1 I fp wr n P St/\St 0 s₂.heap/\TruthOf X.prog X.w X.A.in1 P tr/\∀h' tk,(∀b o,b∉wr->s₂.heap.get? b=some o->h'.get? b=some o)->Q (.bool (f ((List.range n).map tr))) {s₂ with heap:=h',toks:=tk}) X.xe s->wpAny (model X.prog X.w) X.A (call (.builtin id) [x]) Q X.xe s):fL X (.builtin id) (fun xs H Q=>∃p ys bs,xs=[.ref p]/\dF X.K H p ys/\ys=bs.map V.bl/\Q (.bl (f bs)) H):=by
 rintro pins s σ H xs us Q I r⟨p,ys,bs,hx,hq,hy,k⟩;subst hx;subst hy;obtain⟨u,rfl,rx⟩:=r.one;cases rx;obtain⟨its,rv,pl,hz⟩:=I.list hq;have hits:=By rv;subst hits;refine rule (wpAny_pyIter_list pl.isList ?_);have hne:p≠s.heap.objs.size:=by obtain⟨o,h1,_⟩:=pl.isList;exact ne_of_lt (lt_size h1)
 refine⟨s.heap.objs.size,_,_,_,_,_,fun i=>bs.getD i false,rfl,Walks.list (prog:=X.prog) (w:=X.w) (A:=X.A.in1) (show X.A.in1.handled=none from I.ok.hd hc) s.heap.objs.size p hne (bs.map Value.bool).toArray,⟨⟨_,get?_push_size _ rfl,rfl,rfl⟩,?_⟩,?_,fun h' tk kp=>?_⟩;.obtain⟨o,h1,h2⟩:=pl.isList;exact⟨o,dw h1,h2⟩
 . intro i v s' Q' E' hP hQ;have hv:v=.bool (bs.getD i false):=by
    have hP:(bs.map Value.bool)[i]?=some v:=by simpa using hP
    rw[getElem?_map]at hP;obtain⟨k',e1,e2⟩:=map_some hP;rw[<-e2,List.getD_eq_getElem?_getD,e1];rfl
   subst hv;exact wpAny_truthy_bool hQ
 . have e:f ((List.range (bs.map Value.bool).toArray.size).map fun i=>bs.getD i false)=f bs:=by
    congr 1;apply List.ext_getElem;.simp
    .intro i h1 h2;simp at h1;simp[h1]
   rw[e];exact⟨.bl _,H,I.kept (fun b o z=>kp b o (by simp;exact ne_of_lt (lt_size z)) (dw z)),rfl,k⟩
theorem VL(hc:X.calm=true):fL X (.builtin "all") (J7 X.K fun x=>blt .all [x]):=by rintro pins s σ H xs us Q I r⟨x,hx,F,d,r',sm,px,he,k⟩;obtain⟨bs,e1,he⟩:=map_some (show((zU d).bind fun ds=>ds.mapM xP).map _=some r' from he);subst he;obtain⟨ds,e2,e3⟩:=cF e1;have e4:=Hg e3;cases d with|lst es=>cases e2;obtain⟨p,ys,rfl,hq,rs⟩:=px.lst sm;rw[e4]at rs;refine Lw (f:=fun bs=>bs.all id) hc (fun h=>call_all_walk (wpAny_mono h (fun it s₂⟨I,fp,wr,n,P,Sx,tr,h1,h2,h3,h4,h5⟩=>⟨I,fp,wr,n,P,Sx,tr,h1,h2,h3,h4,fun h' tk kp=>?_⟩) fun _ _ z=>z)) pins s σ H xs us Q I r ⟨p,ys,bs,hx,hq,Ai rs,cG.cU sm (eN _) k⟩;have z:=h5 h' tk kp;rw[all_map]at z;exact z|_=>cases e2
theorem boot_all:bootBuiltins "all"=some (.builtin "all"):=by decide+kernel
theorem vB(hx:x="all")(hc:X.calm=true)(hg:Gl X x)(hm:X.mg x=none)(ha:SX X c a pa)(hs:starEach [a] X.env=(false,eval a X.env)::starEach [] X.env:=by rfl):SX X c (.Call (.Name x p') [a] [] pos) (.blt .all [pa]):=by subst hx;exact lM (fun h=>gG (VL hc) hg hm boot_all h (he:=hs)) ha (fun ρ=>rfl) rfl hs
end
section
variable{K:PySem.W.Frag}
theorem jO:∀{xs ys:List D},xs.length≠ys.length->iz xs ys=false|[],[],h=>absurd rfl h|[],_::_,_=>by simp[iz]|_::_,[],_=>by simp[iz]|x::xs,y::ys,h=>by rw[iz,jO (xs:=xs) (ys:=ys) (by simpa using h),Bool.and_false]
theorem gH:∀{xs ys:List D},xs.length=ys.length->iz xs ys=(List.range xs.length).all fun j=>j5 (xs.getD j .non) (ys.getD j .non)|[],[],_=>by rw[iz];rfl|[],_::_,h=>by simp at h|_::_,[],h=>by simp at h|x::xs,y::ys,h=>by rw[iz,gH (xs:=xs) (ys:=ys) (by simpa using h),length_cons,List.range_succ_eq_map,all_cons,all_map];rfl
mutual
theorem xO:∀d:D,j5 d d=true|.non=>rfl|.bl _=>by exact beq_self_eq_true _|.int _=>by exact beq_self_eq_true _|.str _=>by exact beq_self_eq_true _|.tup ds=>by exact j8 ds|.lst ds=>by exact j8 ds|.dN _=>by exact decide_eq_true rfl|.dv ks ds=>by rw[j5,j8 ds];simp
theorem j8:∀ds:List D,iz ds ds=true|[]=>by rw[iz]|d::ds=>by rw[iz,xO d,j8 ds];rfl
end
theorem fC{d e:D}(hf:flat d=true)(h1:Rep K F v d)(h2:Rep K F v e):d=e:=by cases d with
 |tup _=>cases hf|lst _=>cases hf|dN _=>cases hf|dv _ _=>cases hf|non=>rw[Rep]at h1;subst h1;cases e with|non=>rfl|tup _=>rw[Rep]at h2;obtain⟨_,_,q,_⟩:=h2;cases q|lst _=>rw[Rep]at h2;obtain⟨_,_,q,_⟩:=h2;cases q|dN _=>rw[Rep]at h2;obtain⟨_,_,q,_⟩:=h2;cases q|dv _ _=>rw[Rep]at h2;obtain⟨_,_,_,q,_⟩:=h2;cases q|_=>rw[Rep]at h2;cases h2
 |bl k=>rw[Rep]at h1;subst h1;cases e with|bl _=>rw[Rep]at h2;cases h2;rfl|tup _=>rw[Rep]at h2;obtain⟨_,_,q,_⟩:=h2;cases q|lst _=>rw[Rep]at h2;obtain⟨_,_,q,_⟩:=h2;cases q|dN _=>rw[Rep]at h2;obtain⟨_,_,q,_⟩:=h2;cases q|dv _ _=>rw[Rep]at h2;obtain⟨_,_,_,q,_⟩:=h2;cases q|_=>rw[Rep]at h2;cases h2
 |int k=>rw[Rep]at h1;subst h1;cases e with|int _=>rw[Rep]at h2;cases h2;rfl|tup _=>rw[Rep]at h2;obtain⟨_,_,q,_⟩:=h2;cases q|lst _=>rw[Rep]at h2;obtain⟨_,_,q,_⟩:=h2;cases q|dN _=>rw[Rep]at h2;obtain⟨_,_,q,_⟩:=h2;cases q|dv _ _=>rw[Rep]at h2;obtain⟨_,_,_,q,_⟩:=h2;cases q|_=>rw[Rep]at h2;cases h2
 |str k=>rw[Rep]at h1;subst h1;cases e with|str _=>rw[Rep]at h2;cases h2;rfl|tup _=>rw[Rep]at h2;obtain⟨_,_,q,_⟩:=h2;cases q|lst _=>rw[Rep]at h2;obtain⟨_,_,q,_⟩:=h2;cases q|dN _=>rw[Rep]at h2;obtain⟨_,_,q,_⟩:=h2;cases q|dv _ _=>rw[Rep]at h2;obtain⟨_,_,_,q,_⟩:=h2;cases q|_=>rw[Rep]at h2;cases h2
theorem KN{X:Cx}{pins:List (Addr×Obj)}(I:L2.Inv X pins σ H s)(sm:aM F H):∀n:Nat,(∀d:D,dI n d=true->∀(v:V)(e:D),Rep X.K F v d->Rep X.K F v e->d=e):=by
 have tl:∀{a:Addr}{xs ys:List V},iT X.K F a xs->dF X.K F a ys->False:=fun{a xs ys}h1 h2=>by obtain⟨_,_,⟨o,q1,q2,_⟩,_⟩:=I.tuple (aM.gC sm h1);obtain⟨_,_,pl,_⟩:=I.list (sm.seq h2);obtain⟨o',q3,q4,_⟩:=pl.isList;rw[q1]at q3;cases q3;rw[q2]at q4;exact absurd q4 (by decide)
 have dd:∀{a:Addr}{kvs:Dc},Rep X.K F (.ref a) (.dN kvs)->∃o,s.heap.get? a=some o/\o.cls=.type "dict":=fun{a kvs}h=>by rw[Rep]at h;obtain⟨a',_,q,hq⟩:=h;cases q;exact RX I (sm _ _ hq)
 have td:∀{a:Addr}{xs:List V}{kvs:Dc},iT X.K F a xs->Rep X.K F (.ref a) (.dN kvs)->False:=fun{a xs kvs}h1 h2=>by obtain⟨_,_,⟨o,q1,q2,_⟩,_⟩:=I.tuple (aM.gC sm h1);obtain⟨o',q3,q4⟩:=dd h2;rw[q1]at q3;cases q3;rw[q2]at q4;exact absurd q4 (by decide)
 have ld:∀{a:Addr}{xs:List V}{kvs:Dc},dF X.K F a xs->Rep X.K F (.ref a) (.dN kvs)->False:=fun{a xs kvs}h1 h2=>by obtain⟨_,_,pl,_⟩:=I.list (sm.seq h1);obtain⟨o,q1,q2,_⟩:=pl.isList;obtain⟨o',q3,q4⟩:=dd h2;rw[q1]at q3;cases q3;rw[q2]at q4;exact absurd q4 (by decide)
 have dd2:∀{a:Addr}{ks:List Int}{es:List D},Rep X.K F (.ref a) (.dv ks es)->∃o,s.heap.get? a=some o/\o.cls=.type "dict":=fun{a ks es}h=>by rw[Rep]at h;obtain⟨a',_,_,q,hq,_⟩:=h;cases q;exact Ra I (sm _ _ hq)
 have td2:∀{a:Addr}{xs:List V}{ks:List Int}{es:List D},iT X.K F a xs->Rep X.K F (.ref a) (.dv ks es)->False:=fun{a xs ks es}h1 h2=>by obtain⟨_,_,⟨o,q1,q2,_⟩,_⟩:=I.tuple (aM.gC sm h1);obtain⟨o',q3,q4⟩:=dd2 h2;rw[q1]at q3;cases q3;rw[q2]at q4;exact absurd q4 (by decide)
 have ld2:∀{a:Addr}{xs:List V}{ks:List Int}{es:List D},dF X.K F a xs->Rep X.K F (.ref a) (.dv ks es)->False:=fun{a xs ks es}h1 h2=>by obtain⟨_,_,pl,_⟩:=I.list (sm.seq h1);obtain⟨o,q1,q2,_⟩:=pl.isList;obtain⟨o',q3,q4⟩:=dd2 h2;rw[q1]at q3;cases q3;rw[q2]at q4;exact absurd q4 (by decide)
 intro n;induction n with
 |zero=>intro d hd v e h1 h2;cases d with|tup _=>simp[dI]at hd|lst _=>simp[dI]at hd|dN _=>simp[dI]at hd|dv _ _=>simp[dI]at hd|non=>exact fC rfl h1 h2|bl k=>exact fC rfl h1 h2|int k=>exact fC rfl h1 h2|str k=>exact fC rfl h1 h2
 |succ n ih=>
   have all:∀{xs:List V}{ds es:List D},ds.all (dI n)=true->aL X.K F xs ds->aL X.K F xs es->ds=es:=fun{xs ds}=>by induction ds generalizing xs with|nil=>intro es _ h1 h2;rw[h1.fB]at h2;have:=h2.length;exact(List.eq_nil_of_length_eq_zero this.symm).symm|cons d ds ih2=>intro es ha h1 h2;rw[all_cons,and_eq_true]at ha;obtain⟨v,r,rfl,q1,q2⟩:=h1.cL;cases es with|nil=>cases h2.fB|cons e es=>obtain⟨v',r',q0,q3,q4⟩:=h2.cL;cases q0;rw[ih d ha.1 v e q1 q3,ih2 ha.2 q2 q4]
   intro d hd v e h1 h2;cases d with
   |dN _=>simp[dI]at hd|dv _ _=>simp[dI]at hd|tup ds=>
     have ha:ds.all (dI n)=true:=by simpa[dI]using hd
     rw[Rep]at h1;obtain⟨a,xs,rfl,z1,z2⟩:=h1;cases e with|tup es=>rw[Rep]at h2;obtain⟨a',ys,q,w1,w2⟩:=h2;cases q;have:=I.jZ (aM.gC sm z1) (aM.gC sm w1);subst this;rw[all ha z2 w2]|lst es=>rw[Rep]at h2;obtain⟨a',ys,q,w1,w2⟩:=h2;cases q;exact(tl z1 w1).elim|dN _=>exact(td z1 h2).elim|dv _ _=>exact(td2 z1 h2).elim|_=>rw[Rep]at h2;cases h2
   |lst ds=>
     have ha:ds.all (dI n)=true:=by simpa[dI]using hd
     rw[Rep]at h1;obtain⟨a,xs,rfl,z1,z2⟩:=h1;cases e with|lst es=>rw[Rep]at h2;obtain⟨a',ys,q,w1,w2⟩:=h2;cases q;have:=I.lN (sm.seq z1) (sm.seq w1);subst this;rw[all ha z2 w2]|tup es=>rw[Rep]at h2;obtain⟨a',ys,q,w1,w2⟩:=h2;cases q;exact(tl w1 z1).elim|dN _=>exact(ld z1 h2).elim|dv _ _=>exact(ld2 z1 h2).elim|_=>rw[Rep]at h2;cases h2
   |non=>exact fC rfl h1 h2|bl k=>exact fC rfl h1 h2|int k=>exact fC rfl h1 h2|str k=>exact fC rfl h1 h2
theorem BV{d e:D}{u:V}{v':Value}(hd:flat d=true)(he:flat e=true)(h1:Rep K F v d)(h2:Rep K F u e)(r1:RelV v v')(r2:RelV u u'):SeqAt.EqAt A s v' u' (j5 d e):=by cases d with
 |tup _=>cases hd|lst _=>cases hd|dN _=>cases hd|dv _ _=>cases hd|non=>rw[Rep]at h1;subst h1;cases(show v'=.none from r1);cases e with|tup _=>cases he|lst _=>cases he|dN _=>cases he|dv _ _=>cases he|non=>rw[Rep]at h2;subst h2;cases(show u'=.none from r2);exact SeqAt.EqAt.same _|bl _=>rw[Rep]at h2;subst h2;cases(show u'=.bool _ from r2);exact none_bool _|int _=>rw[Rep]at h2;subst h2;obtain⟨t,rfl⟩:=r2;exact none_int _ _|str _=>rw[Rep]at h2;subst h2;obtain⟨t,rfl⟩:=r2;exact none_str _ _
 |bl _=>rw[Rep]at h1;subst h1;cases(show v'=.bool _ from r1);cases e with|tup _=>cases he|lst _=>cases he|dN _=>cases he|dv _ _=>cases he|non=>rw[Rep]at h2;subst h2;cases(show u'=.none from r2);exact bool_none _|bl _=>rw[Rep]at h2;subst h2;cases(show u'=.bool _ from r2);exact bool_bool _ _|int _=>rw[Rep]at h2;subst h2;obtain⟨t,rfl⟩:=r2;exact bool_int _ _ _|str _=>rw[Rep]at h2;subst h2;obtain⟨t,rfl⟩:=r2;exact bool_str _ _ _
 |int _=>rw[Rep]at h1;subst h1;obtain⟨t0,rfl⟩:=r1;cases e with|tup _=>cases he|lst _=>cases he|dN _=>cases he|dv _ _=>cases he|non=>rw[Rep]at h2;subst h2;cases(show u'=.none from r2);exact int_none _ _|bl _=>rw[Rep]at h2;subst h2;cases(show u'=.bool _ from r2);exact int_bool _ _ _|int _=>rw[Rep]at h2;subst h2;obtain⟨t,rfl⟩:=r2;exact int_int _ _ _ _|str _=>rw[Rep]at h2;subst h2;obtain⟨t,rfl⟩:=r2;exact int_str _ _ _ _
 |str _=>rw[Rep]at h1;subst h1;obtain⟨t0,rfl⟩:=r1;cases e with|tup _=>cases he|lst _=>cases he|dN _=>cases he|dv _ _=>cases he|non=>rw[Rep]at h2;subst h2;cases(show u'=.none from r2);exact str_none _ _|bl _=>rw[Rep]at h2;subst h2;cases(show u'=.bool _ from r2);exact str_bool _ _ _|int _=>rw[Rep]at h2;subst h2;obtain⟨t,rfl⟩:=r2;exact str_int _ _ _ _|str _=>rw[Rep]at h2;subst h2;obtain⟨t,rfl⟩:=r2;exact str_str _ _ _ _
theorem mG{e:D}{u:V}{a:Addr}{its:Array Value}(ht:s.heap.IsTuple a its)(hu:A.units<cLine)(he:flat e=true)(h2:Rep K F u e)(r2:RelV u u'):SeqAt.EqAt A s (.ref a) u' (j5 (.tup ds) e)/\SeqAt.EqAt A s u' (.ref a) (j5 e (.tup ds)):=by cases e with|tup _=>cases he|lst _=>cases he|dN _=>cases he|dv _ _=>cases he|non=>rw[Rep]at h2;subst h2;cases(show u'=.none from r2);exact⟨SeqAt.EqAt.tuple_none ht hu,SeqAt.EqAt.none_tuple ht hu⟩|bl _=>rw[Rep]at h2;subst h2;cases(show u'=.bool _ from r2);exact⟨SeqAt.EqAt.tuple_bool _ ht hu,SeqAt.EqAt.bool_tuple _ ht hu⟩|int _=>rw[Rep]at h2;subst h2;obtain⟨t,rfl⟩:=r2;exact⟨SeqAt.EqAt.tuple_int _ _ ht hu,SeqAt.EqAt.int_tuple _ _ ht hu⟩|str _=>rw[Rep]at h2;subst h2;obtain⟨t,rfl⟩:=r2;exact⟨SeqAt.EqAt.tuple_str _ _ ht hu,SeqAt.EqAt.str_tuple _ _ ht hu⟩
theorem lU{e:D}{u:V}{a:Addr}{its:Array Value}(ht:s.heap.IsList a its)(hu:A.units<cLine)(he:flat e=true)(h2:Rep K F u e)(r2:RelV u u'):SeqAt.EqAt A s (.ref a) u' (j5 (.lst ds) e)/\SeqAt.EqAt A s u' (.ref a) (j5 e (.lst ds)):=by cases e with|tup _=>cases he|lst _=>cases he|dN _=>cases he|dv _ _=>cases he|non=>rw[Rep]at h2;subst h2;cases(show u'=.none from r2);exact⟨SeqAt.EqAt.list_none ht hu,SeqAt.EqAt.none_list ht hu⟩|bl _=>rw[Rep]at h2;subst h2;cases(show u'=.bool _ from r2);exact⟨SeqAt.EqAt.list_bool _ ht hu,SeqAt.EqAt.bool_list _ ht hu⟩|int _=>rw[Rep]at h2;subst h2;obtain⟨t,rfl⟩:=r2;exact⟨SeqAt.EqAt.list_int _ _ ht hu,SeqAt.EqAt.int_list _ _ ht hu⟩|str _=>rw[Rep]at h2;subst h2;obtain⟨t,rfl⟩:=r2;exact⟨SeqAt.EqAt.list_str _ _ ht hu,SeqAt.EqAt.str_list _ _ ht hu⟩
theorem v9{n:Nat}{d:D}(h:dI n d=true)(h0:n=0):flat d=true:=by subst h0;cases d<;>first|rfl|simp[dI]at h
theorem abW{X:Cx}{pins:List (Addr×Obj)}(I:L2.Inv X pins σ H s)(sm:aM F H):∀(n:Nat)(A:Around),A.units+n<cLine->∀(d e:D),dI n d=true->dI n e=true->∀(v u:V)(v' u':Value),Rep X.K F v d->Rep X.K F u e->RelV v v'->RelV u u'->SeqAt.EqAt A s v' u' (j5 d e):=by intro n;induction n with|zero=>intro A hu d e hd he v u v' u' h1 h2 r1 r2;exact BV (v9 hd rfl) (v9 he rfl) h1 h2 r1 r2|succ n ih=>
   intro A hu d e hd he v u v' u' h1 h2 r1 r2;have hu0:A.units<cLine:=by omega
   have hu1:A.in1.units+n<cLine:=by show A.units+1+n<cLine;omega--items by place
   have at_:∀{xs ys:List V}{us ws:List Value}{ds es:List D}{j:Nat}(k1:j<us.toArray.size)(k2:j<ws.toArray.size),ds.all (dI n)=true->es.all (dI n)=true->Vals xs us->Vals ys ws->aL X.K F xs ds->aL X.K F ys es->SeqAt.EqAt A.in1 s us.toArray[j] ws.toArray[j] (j5 (ds.getD j .non) (es.getD j .non)):=fun{xs ys us ws ds es j}k1 k2 a1 a2 v1 v2 p1 p2=>by
    have k1:j<us.length:=by simpa using k1
    have k2:j<ws.length:=by simpa using k2
    have l1:j<ds.length:=by rw[<-p1.length,v1.length];exact k1
    have l2:j<es.length:=by rw[<-p2.length,v2.length];exact k2
    obtain⟨x,g1,g2⟩:=p1.get (show ds[j]?=some ds[j]by simp[l1]);obtain⟨y,g3,g4⟩:=p2.get (show es[j]?=some es[j]by simp[l2]);obtain⟨x',g5,g6⟩:=v1.get g1;obtain⟨y',g7,g8⟩:=v2.get g3;have e1:us.toArray[j]=x':=by have:=(cV g5).2;simpa using this
    have e2:ws.toArray[j]=y':=by have:=(cV g7).2;simpa using this
    have e3:ds.getD j .non=ds[j]:=by simp[getD,l1]
    have e4:es.getD j .non=es[j]:=by simp[getD,l2]
    rw[e1,e2,e3,e4];exact ih A.in1 hu1 _ _ (all_eq_true.mp a1 _ (getElem_mem l1)) (all_eq_true.mp a2 _ (getElem_mem l2)) x y x' y' g2 g4 g6 g8--the same object
   have same:∀{a:Addr},v=.ref a->u=.ref a->SeqAt.EqAt A s v' u' (j5 d e):=fun{a}q1 q2=>by subst q1;subst q2;have:=KN I sm (n+1) d hd _ e h1 h2;subst this;rw[xO];cases r1;cases r2;exact SeqAt.EqAt.same _
   cases d with
   |dN _=>simp[dI]at hd|dv _ _=>simp[dI]at hd|tup ds=>
     have ha:ds.all (dI n)=true:=by simpa[dI]using hd
     have h1':=h1;rw[Rep]at h1';obtain⟨a,xs,rfl,z1,z2⟩:=h1';cases r1;obtain⟨us,v1,p1,_⟩:=I.tuple (aM.gC sm z1)
     cases e with|dN _=>simp[dI]at he|dv _ _=>simp[dI]at he|tup es=>
       have hb:es.all (dI n)=true:=by simpa[dI]using he
       have h2':=h2;rw[Rep]at h2';obtain⟨b,ys,rfl,w1,w2⟩:=h2';by_cases hab:a=b;.subst hab;exact same rfl rfl
       . cases r2;obtain⟨ws,v2,p2,_⟩:=I.tuple (aM.gC sm w1);refine .of_refs hab ?_;have z:=SeqAt.RcAt.tuples (A:=A) (e:=fun j=>j5 (ds.getD j .non) (es.getD j .non)) p1 p2 hu0 fun j k1 k2=>at_ k1 k2 ha hb v1 v2 z2 w2;have l1:us.toArray.size=ds.length:=by rw[size_toArray,<-v1.length,z2.length]
         have l2:ws.toArray.size=es.length:=by rw[size_toArray,<-v2.length,w2.length]
         rw[l1,l2]at z;have e0:j5 (.tup ds) (.tup es)=((List.range (min ds.length es.length)).all (fun j=>j5 (ds.getD j .non) (es.getD j .non))&&ds.length==es.length):=by
          rw[pqt];by_cases hl:ds.length=es.length;.rw[gH hl,hl];simp
          . rw[jO hl];have:(ds.length==es.length)=false:=by simpa using hl
            rw[this,Bool.and_false]
         rw[e0];exact z|lst es=>rw[Rep]at h2;obtain⟨b,ys,rfl,w1,w2⟩:=h2;cases r2;obtain⟨ws,v2,p2,_⟩:=I.list (sm.seq w1);exact SeqAt.EqAt.tuple_list p1 p2.isList hu0|non=>exact(mG p1 hu0 rfl h2 r2).1|bl _=>exact(mG p1 hu0 rfl h2 r2).1|int _=>exact(mG p1 hu0 rfl h2 r2).1|str _=>exact(mG p1 hu0 rfl h2 r2).1
   |lst ds=>
     have ha:ds.all (dI n)=true:=by simpa[dI]using hd
     have h1':=h1;rw[Rep]at h1'
     obtain⟨a,xs,rfl,z1,z2⟩:=h1';cases r1;obtain⟨us,v1,p1,_⟩:=I.list (sm.seq z1);cases e with|dN _=>simp[dI]at he|dv _ _=>simp[dI]at he|lst es=>
       have hb:es.all (dI n)=true:=by simpa[dI]using he
       have h2':=h2;rw[Rep]at h2';obtain⟨b,ys,rfl,w1,w2⟩:=h2';by_cases hab:a=b;.subst hab;exact same rfl rfl
       . cases r2;obtain⟨ws,v2,p2,_⟩:=I.list (sm.seq w1);refine .of_refs hab ?_;have l1:us.toArray.size=ds.length:=by rw[size_toArray,<-v1.length,z2.length]
         have l2:ws.toArray.size=es.length:=by rw[size_toArray,<-v2.length,w2.length]
         rw[Zb];by_cases hl:ds.length=es.length;.have z:=SeqAt.RcAt.lists (A:=A) (e:=fun j=>j5 (ds.getD j .non) (es.getD j .non)) p1.isList p2.isList (by rw[l1,l2,hl]) hu0 fun j k1 k2=>at_ k1 k2 ha hb v1 v2 z2 w2;rw[l1]at z;rw[gH hl];exact z
         .rw[jO hl];exact lists_lengths p1.isList p2.isList (by rw[l1,l2];simpa using hl) hu0|tup es=>rw[Rep]at h2;obtain⟨b,ys,rfl,w1,w2⟩:=h2;cases r2;obtain⟨ws,v2,p2,_⟩:=I.tuple (aM.gC sm w1);exact SeqAt.EqAt.list_tuple p1.isList p2 hu0|non=>exact(lU p1.isList hu0 rfl h2 r2).1|bl _=>exact(lU p1.isList hu0 rfl h2 r2).1|int _=>exact(lU p1.isList hu0 rfl h2 r2).1|str _=>exact(lU p1.isList hu0 rfl h2 r2).1
   |non|bl _|int _|str _=>cases e with|dN _=>simp[dI]at he|dv _ _=>simp[dI]at he|tup es=>rw[Rep]at h2;obtain⟨b,ys,rfl,w1,w2⟩:=h2;cases r2;obtain⟨ws,v2,p2,_⟩:=I.tuple (aM.gC sm w1);exact(mG p2 hu0 rfl h1 r1).2|lst es=>rw[Rep]at h2;obtain⟨b,ys,rfl,w1,w2⟩:=h2;cases r2;obtain⟨ws,v2,p2,_⟩:=I.list (sm.seq w1);exact(lU p2.isList hu0 rfl h1 r1).2|_=>exact BV rfl rfl h1 h2 r1 r2
end
section
variable{X:Cx}{pins:List (Addr×Obj)}{σ:L2.St}{H F:Hp}{s:Shared}{A:Around}
abbrev RC(A:Around)(s:Shared)(v u:Value)(k:Bool):Prop:=SeqAt.RcAt A s v u k/\SeqAt.RcNeAt A s v u (!k)
inductive Top(X:Cx)(F H:Hp)(s:Shared):Value->D->Prop where|non:Top X F H s .none .non|bl(b:Bool):Top X F H s (.bool b) (.bl b)|int(i:Int)(t:Tok):Top X F H s (.int i t) (.int i)|str(x:Str)(t:Tok):Top X F H s (.str x t) (.str x)|tup{a:Addr}{us:List Value}{xs:List V}{ds:List D}(ht:s.heap.IsTuple a us.toArray)(hv:Vals xs us)(hr:aL X.K F xs ds):Top X F H s (.ref a) (.tup ds)|lst{a:Addr}{us:List Value}{xs:List V}{ds:List D}(ht:s.heap.IsList a us.toArray)(hv:Vals xs us)(hr:aL X.K F xs ds):Top X F H s (.ref a) (.lst ds)
theorem uD(I:L2.Inv X pins σ H s)(sm:aM F H){v':Value}{d:D}(hd:dI 8 d=true)(h:dz X.K F H v d)(r:RelV v v'):Top X F H s v' d:=by cases d with|dN _=>simp[dI]at hd|dv _ _=>simp[dI]at hd|non=>rw[h.non]at r;cases r;exact .non|bl b=>rw[h.bl]at r;cases r;exact .bl b|int i=>rw[h.int]at r;obtain⟨t,rfl⟩:=r;exact .int i t|str x=>rw[h.str]at r;obtain⟨t,rfl⟩:=r;exact .str x t|tup ds=>obtain⟨a,xs,rfl,h1,h2,_⟩:=h.tup sm;cases r;obtain⟨us,v1,p1,_⟩:=I.tuple h1;exact .tup p1 v1 h2|lst ds=>obtain⟨a,xs,rfl,h1,h2⟩:=h.lst sm;cases r;obtain⟨us,v1,p1,_⟩:=I.list h1;exact .lst p1.isList v1 h2
theorem Xb(I:L2.Inv X pins σ H s)(sm:aM F H){n:Nat}(hu:A.units+(n+1)<cLine){d e:D}(hd:dI (n+1) d=true)(he:dI (n+1) e=true){v':Value}(h1:Top X F H s v' d)(h2:Top X F H s u' e):RC A s v' u' (j5 d e):=by
 have hu0:A.units<cLine:=by omega
 have hu1:A.in1.units+n<cLine:=by show A.units+1+n<cLine;omega
 have at_:∀{xs ys:List V}{us ws:List Value}{ds es:List D}{j:Nat}(k1:j<us.toArray.size)(k2:j<ws.toArray.size),ds.all (dI n)=true->es.all (dI n)=true->Vals xs us->Vals ys ws->aL X.K F xs ds->aL X.K F ys es->SeqAt.EqAt A.in1 s us.toArray[j] ws.toArray[j] (j5 (ds.getD j .non) (es.getD j .non)):=fun{xs ys us ws ds es j}k1 k2 a1 a2 v1 v2 p1 p2=>by
  have k1:j<us.length:=by simpa using k1
  have k2:j<ws.length:=by simpa using k2
  have l1:j<ds.length:=by rw[<-p1.length,v1.length];exact k1
  have l2:j<es.length:=by rw[<-p2.length,v2.length];exact k2
  obtain⟨x,g1,g2⟩:=p1.get (show ds[j]?=some ds[j]by simp[l1]);obtain⟨y,g3,g4⟩:=p2.get (show es[j]?=some es[j]by simp[l2]);obtain⟨x',g5,g6⟩:=v1.get g1;obtain⟨y',g7,g8⟩:=v2.get g3;have e1:us.toArray[j]=x':=by have:=(cV g5).2;simpa using this
  have e2:ws.toArray[j]=y':=by have:=(cV g7).2;simpa using this
  have e3:ds.getD j .non=ds[j]:=by simp[getD,l1]
  have e4:es.getD j .non=es[j]:=by simp[getD,l2]
  rw[e1,e2,e3,e4];exact abW I sm n A.in1 hu1 _ _ (all_eq_true.mp a1 _ (getElem_mem l1)) (all_eq_true.mp a2 _ (getElem_mem l2)) x y x' y' g2 g4 g6 g8
 cases h1 with
 |non=>cases h2 with|non=>exact⟨SeqAt.RcAt.none_none,SeqAt.RcNeAt.none_none⟩|bl b=>exact⟨SeqAt.RcAt.none_bool _,SeqAt.RcNeAt.none_bool _⟩|int i t=>exact⟨SeqAt.RcAt.none_int _ _,SeqAt.RcNeAt.none_int _ _⟩|str i t=>exact⟨SeqAt.RcAt.none_str _ _,SeqAt.RcNeAt.none_str _ _⟩|tup ht _ _=>exact⟨SeqAt.RcAt.none_tuple ht hu0,SeqAt.RcNeAt.none_tuple ht hu0⟩|lst ht _ _=>exact⟨SeqAt.RcAt.none_list ht hu0,SeqAt.RcNeAt.none_list ht hu0⟩
 |bl b0=>cases h2 with|non=>exact⟨SeqAt.RcAt.bool_none _,SeqAt.RcNeAt.bool_none _⟩|bl b=>exact⟨SeqAt.RcAt.bool_bool _ _,SeqAt.RcNeAt.bool_bool _ _⟩|int i t=>exact⟨SeqAt.RcAt.bool_int _ _ _,SeqAt.RcNeAt.bool_int _ _ _⟩|str i t=>exact⟨SeqAt.RcAt.bool_str _ _ _,SeqAt.RcNeAt.bool_str _ _ _⟩|tup ht _ _=>exact⟨SeqAt.RcAt.bool_tuple _ ht hu0,SeqAt.RcNeAt.bool_tuple _ ht hu0⟩|lst ht _ _=>exact⟨SeqAt.RcAt.bool_list _ ht hu0,SeqAt.RcNeAt.bool_list _ ht hu0⟩
 |int i0 t0=>cases h2 with|non=>exact⟨SeqAt.RcAt.int_none _ _,SeqAt.RcNeAt.int_none _ _⟩|bl b=>exact⟨SeqAt.RcAt.int_bool _ _ _,SeqAt.RcNeAt.int_bool _ _ _⟩|int i t=>exact⟨SeqAt.RcAt.int_int _ _ _ _,SeqAt.RcNeAt.int_int _ _ _ _⟩|str i t=>exact⟨SeqAt.RcAt.int_str _ _ _ _,SeqAt.RcNeAt.int_str _ _ _ _⟩|tup ht _ _=>exact⟨SeqAt.RcAt.int_tuple _ _ ht hu0,SeqAt.RcNeAt.int_tuple _ _ ht hu0⟩|lst ht _ _=>exact⟨SeqAt.RcAt.int_list _ _ ht hu0,int_list _ _ ht hu0⟩
 |str i0 t0=>cases h2 with|non=>exact⟨SeqAt.RcAt.str_none _ _,SeqAt.RcNeAt.str_none _ _⟩|bl b=>exact⟨SeqAt.RcAt.str_bool _ _ _,SeqAt.RcNeAt.str_bool _ _ _⟩|int i t=>exact⟨SeqAt.RcAt.str_int _ _ _ _,SeqAt.RcNeAt.str_int _ _ _ _⟩|str i t=>exact⟨SeqAt.RcAt.str_str _ _ _ _,SeqAt.RcNeAt.str_str _ _ _ _⟩|tup ht _ _=>exact⟨SeqAt.RcAt.str_tuple _ _ ht hu0,SeqAt.RcNeAt.str_tuple _ _ ht hu0⟩|lst ht _ _=>exact⟨SeqAt.RcAt.str_list _ _ ht hu0,str_list _ _ ht hu0⟩
 |@tup a us xs ds ht hv hr=>
   have ha:ds.all (dI n)=true:=by simpa[dI]using hd
   cases h2 with|non=>exact⟨SeqAt.RcAt.tuple_none ht hu0,SeqAt.RcNeAt.tuple_none ht hu0⟩|bl b=>exact⟨SeqAt.RcAt.tuple_bool _ ht hu0,SeqAt.RcNeAt.tuple_bool _ ht hu0⟩|int i t=>exact⟨SeqAt.RcAt.tuple_int _ _ ht hu0,SeqAt.RcNeAt.tuple_int _ _ ht hu0⟩|str i t=>exact⟨SeqAt.RcAt.tuple_str _ _ ht hu0,SeqAt.RcNeAt.tuple_str _ _ ht hu0⟩|lst yf _ _=>exact⟨SeqAt.RcAt.tuple_list ht yf hu0,SeqAt.RcNeAt.tuple_list ht yf hu0⟩|@tup b ws ys es yf hv2 hr2=>
     have hb:es.all (dI n)=true:=by simpa[dI]using he
     have l1:us.toArray.size=ds.length:=by rw[size_toArray,<-hv.length,hr.length]
     have l2:ws.toArray.size=es.length:=by rw[size_toArray,<-hv2.length,hr2.length]
     have z1:=SeqAt.RcAt.tuples (A:=A) (e:=fun j=>j5 (ds.getD j .non) (es.getD j .non)) ht yf hu0 fun j k1 k2=>at_ k1 k2 ha hb hv hv2 hr hr2;have z2:=SeqAt.RcNeAt.tuples (A:=A) (e:=fun j=>j5 (ds.getD j .non) (es.getD j .non)) ht yf hu0 fun j k1 k2=>at_ k1 k2 ha hb hv hv2 hr hr2;rw[l1,l2]at z1 z2;have e0:j5 (.tup ds) (.tup es)=((List.range (min ds.length es.length)).all (fun j=>j5 (ds.getD j .non) (es.getD j .non))&&ds.length==es.length):=by
      rw[pqt];by_cases hl:ds.length=es.length;.rw[gH hl,hl];simp
      . rw[jO hl];have:(ds.length==es.length)=false:=by simpa using hl
        rw[this,Bool.and_false]
     rw[e0];exact⟨z1,z2⟩
 |@lst a us xs ds ht hv hr=>
   have ha:ds.all (dI n)=true:=by simpa[dI]using hd
   cases h2 with|non=>exact⟨SeqAt.RcAt.list_none ht hu0,SeqAt.RcNeAt.list_none ht hu0⟩|bl b=>exact⟨SeqAt.RcAt.list_bool _ ht hu0,SeqAt.RcNeAt.list_bool _ ht hu0⟩|int i t=>exact⟨SeqAt.RcAt.list_int _ _ ht hu0,list_int _ _ ht hu0⟩|str i t=>exact⟨SeqAt.RcAt.list_str _ _ ht hu0,list_str _ _ ht hu0⟩|tup yf _ _=>exact⟨SeqAt.RcAt.list_tuple ht yf hu0,SeqAt.RcNeAt.list_tuple ht yf hu0⟩|@lst b ws ys es yf hv2 hr2=>
     have hb:es.all (dI n)=true:=by simpa[dI]using he
     have l1:us.toArray.size=ds.length:=by rw[size_toArray,<-hv.length,hr.length]
     have l2:ws.toArray.size=es.length:=by rw[size_toArray,<-hv2.length,hr2.length]
     rw[Zb];by_cases hl:ds.length=es.length;.have z1:=SeqAt.RcAt.lists (A:=A) (e:=fun j=>j5 (ds.getD j .non) (es.getD j .non)) ht yf (by rw[l1,l2,hl]) hu0 fun j k1 k2=>at_ k1 k2 ha hb hv hv2 hr hr2;have z2:=SeqAt.RcNeAt.lists (A:=A) (e:=fun j=>j5 (ds.getD j .non) (es.getD j .non)) ht yf (by rw[l1,l2,hl]) hu0 fun j k1 k2=>at_ k1 k2 ha hb hv hv2 hr hr2;rw[l1]at z1 z2;rw[gH hl];exact⟨z1,z2⟩
     .rw[jO hl];exact⟨lists_lengths ht yf (by rw[l1,l2];simpa using hl) hu0,SeqAt.RcNeAt.lists_lengths ht yf (by rw[l1,l2];simpa using hl) hu0⟩
theorem cW(hu:X.A.units+8<cLine):dC X (compareOp .Eq) (rD X.K (kW .eq)):=by rintro pins s σ H x y v u Q I rx ry⟨F,d,e,r,sm,px,py,he,k⟩;obtain⟨t,e1,e2⟩:=map_some (show(Hz d e).map _=some r from he);subst e2;unfold Hz at e1;obtain⟨hd,e1⟩:=bG e1;rw[and_eq_true]at hd;subst e1;exact(Xb I sm (n:=7) hu hd.1 hd.2 (uD I sm hd.1 px rx) (uD I sm hd.2 py ry)).1 _ _ _ _ ⟨.bl _,H,I,rfl,cG.cU sm (eN _) k⟩
theorem jj(hu:X.A.units+8<cLine):dC X (compareOp .NotEq) (rD X.K (kW .ne)):=by rintro pins s σ H x y v u Q I rx ry⟨F,d,e,r,sm,px,py,he,k⟩;obtain⟨t,e1,e2⟩:=map_some (show(zJ d e).map _=some r from he);subst e2;unfold zJ at e1;obtain⟨hd,e1⟩:=bG e1;rw[and_eq_true]at hd;subst e1;exact(Xb I sm (n:=7) hu hd.1 hd.2 (uD I sm hd.1 px rx) (uD I sm hd.2 py ry)).2 _ _ _ _ ⟨.bl _,H,I,rfl,cG.cU sm (eN _) k⟩
end
section
variable{Pg:Program}{w:World}{K:PySem.W.Frag}{mg:Str->Option Value}{base:Heap}
theorem Yl{qual:Str}{st:Stmt}{f:Addr}{fd:FuncData}{N ps:List Str}{k n:Nat}{c:Call}{d:Fd}(Fu:eG K x qual st f fd)(S:aD N ps (au st))(h1:d.np=ps.length)(h2:d.nn=N.length)(hb:∀(cdv:Value)(A:Around)(outer:List Env)(s:Shared)(H:Hp)(E:XK),jH k (A.deeper (envOfC qual (au st) s.heap.objs.size f cdv))->SB (yE Jf Pg w K mg base N qual (au st) f cdv A outer s H E).Xg c n (gj st) d.body):nM Pg w K mg base Jf (k+1) f fd ps (Lb K ps.length (fun args=>enter c n d args)):=by
 refine Fu.ok S (fun vs H Q E h=>h.1) fun cdv A outer s H vs Q E hr h=>?_;obtain⟨hl,F,args,r,args',g,e,q⟩:=h;refine⟨_,hb cdv A outer s H E hr,?_⟩;replace e:enter c n d args=.ok r args':=e;unfold enter at e;split at e
 . rename_i hc;obtain⟨c1,c2⟩:=hc;have hg:=g.more (n:=d.nn-d.np) (τ:=replicate (N.length-vs.length) none) (by simp[h1,h2,hl]);have hla:args.length=d.np:=c1;have go:∀{fl:Fl}{ρ':List Sl},gB c n d.body (args++replicate (d.nn-d.np) .aV)=.ok fl ρ'->(∀F' σ' H',aU K F (args++replicate (d.nn-d.np) .aV) (start N vs) H F' ρ' σ' H'->(match fl with|.next=>Q .non H'|.brk=>False|.cont=>False|.ret r=>∀v,cT K F' ρ' σ' H' (args++replicate (d.nn-d.np) .aV) (start N vs) H v r->Q v H'))->ZD K (gB c n d.body) {nx:=fun _ H'=>Q .non H',rt:=Q} (start N vs) H:=fun{fl ρ'}z k=>⟨F,_,fl,ρ',hg,z,fun F' σ' H' s=>by have:=k F' σ' H' s;cases fl<;>exact this⟩;split at e;.rename_i ρ' z;cases e;refine go z fun F' σ' H' s=>?_;obtain⟨z1,z2⟩:=aU.less (m:=d.np) hla.symm g (by simp[h1,h2,hl]) s;exact q .non F' _ H' z1 (show Rep K F' _ _ from Q7)
   .rename_i r' ρ' z;cases e;refine go z fun F' σ' H' s v rr=>?_;obtain⟨z1,z2⟩:=aU.less (m:=d.np) hla.symm g (by simp[h1,h2,hl]) s;exact q v F' _ H' z1 (z2 v r rr)
   .split at e<;>cases e
 .cases e
structure aQ(Pg:Program)(w:World)(K:PySem.W.Frag)(mg:Str->Option Value)(base:Heap)(k:Nat)(c:Call)(i:Nat)(x:Str)(np:Nat):Prop where ex:∃fa fd qs,nM Pg w K mg base Jf k fa fd qs (Lb K qs.length (c i))/\mg x=some (.ref fa)/\keepIn K (.ref fa)=true/\Binds K fd qs []/\qs.length=np
end
section
variable{X:Cx}{c:Call}{n k:Nat}{e a b:Expr}{es:List Expr}{p pa pb:P}{ps:List P}{pos:Pos}
theorem sv(i:Nat)(hN:X.N[i]?=some x:=by rfl)(hv:yC X.env.scope x:=by first|exact Or.inl rfl|exact Or.inr (Or.inl rfl)|exact Or.inr (Or.inr rfl))(hd:(x==("__debug__":Str))=false:=by rfl)(hcd:(x==("__classdict__":Str))=false:=by rfl):SX X c (.Name x pos) (.var i):=Qx hN hv hd hcd
theorem cN{np:Nat}(C:aQ X.prog X.w X.K X.mg X.base k c i x np)(hr:jH k X.A)(ha:SG X c (e::es) ps)(hg:Gl X x:=by rfl)(hl:(e::es).length=np:=by rfl)(hdb:(x==("__debug__":Str))=false:=by rfl)(he:starEach (e::es) X.env=(false,eval e X.env)::starEach es X.env:=by rfl)(hpl:(backTo pos (starEach es X.env)).any (·.1)=false:=by rfl)(hl2:ps.length=(e::es).length:=by rfl):SX X c (.Call (.Name x p') (e::es) [] pos) (.call i ps):=by obtain⟨fa,fd,qs,h1,h2,h3,h4,h5⟩:=C.ex;exact Nk h1 hr hg h2 h3 h4 ha (hl.trans h5.symm) hdb he hpl hl2
noncomputable def OJ(names outer:List (Str×NameKind))(N N':List Str)(n:Nat):Bool:=(names.all fun y=>names.lookup y.1==some y.2)&&(names.all fun y=>y.2!=.local||names.lookup y.1==some .local)&&(names.all fun y=>y.2!=.free||outer.lookup y.1==some .cell||outer.lookup y.1==some .free)&&N'.length==N.length+n&&((N.zip N').all fun p=>(p.1==p.2&&names.lookup p.2==some .free)||(names.lookup p.2!=some .local&&names.lookup p.2!=some .cell&&names.lookup p.2!=some .free))
theorem oK{scope:Scope}{N':List Str}(hk:scope.kind=.function)(h:OJ scope.names X.env.scope.names X.N N' n=true):eV X scope N' n:=by
 unfold OJ at h;simp only[and_eq_true]at h;obtain⟨⟨⟨⟨h1,h2⟩,h3⟩,h4⟩,h5⟩:=h;refine⟨hk,fun y hy=>eq_of_beq (all_eq_true.mp h1 y hy),fun y hy e=>?_,fun y hy e=>?_,by simpa using h4,h5⟩;.have:=all_eq_true.mp h2 y hy;rw[e]at this;simpa using this
 . have:=all_eq_true.mp h3 y hy;rw[e]at this;simp only[or_eq_true]at this;rcases this with(z|z)|z;.cases z
   .exact .inl (eq_of_beq z)
   .exact .inr (eq_of_beq z)
theorem aR(h:jH k A):A.units+8<cLine:=by have:=h.un;omega
end
end HH
end
section
namespace PySem
open AutoSeq1(wpAny_loadPart')
section
variable{prog:Program}{w:World}{A:Around}{E:Value->Shared->Prop}{s:Shared}
theorem gY{it l:Addr}{i:Nat}{items:Array Value}{x:Value}{Q:Value->Shared->Prop}(hit:s.heap.IsTupleIter it l i)(hl:s.heap.IsTuple l items)(hx:items[i]?=some x)(hQ:∀h',h'.IsTupleIter it l (i+1)->SameBut it s.heap h'->Q x {s with heap:=h'}):wpAny (model prog w) A (nextOf (.ref it)) Q E s:=by obtain⟨o,ho,hc,hd⟩:=id hit;obtain⟨ol,hol,_,nl,hdl⟩:=hl;unfold nextOf;refine wpAny_bind (wpAny_callSpecial?_slot (name:=Str.ofString "__next__") hit.typeIs F.slot_tuple_iterator_next (wpAny_call_entry F.slot_tuple_iterator_next hit.typeIs F.entry_tuple_iterator_next ?_ (F.args_tuple_iterator_next_1 _)));show wpAny _ _ (field (.ref it) 0>>=_) _ _ s;refine wpAny_bind (wpAny_field ho hd (x:=.ref l) rfl ?_);show wpAny _ _ (if(Value.ref l==Value.none)=true then _ else _) _ _ s;rw[if_neg (show ¬((Value.ref l==Value.none)=true)from Bool.false_ne_true)];show wpAny _ _ (field (.ref it) 1>>=_) _ _ s;refine wpAny_bind (wpAny_field ho hd (x:=.int i 0) rfl ?_);show wpAny _ _ (seqItems? (.ref l)>>=_) _ _ s;refine wpAny_bind (wpAny_seqItems hol hdl ?_);simp only[Int.toNat_natCast,hx];refine wpAny_bind (wpAny_setField ho hd (by simp) (wpAny_pure ⟨x,rfl,wpAny_pure (hQ _ ?_ (Heap.SameBut.update ..))⟩));exact⟨_,get?_update_self _ ho (Obj.isFreed_of_fields (Obj.data_mapFields hd _)),(Obj.cls_mapFields ..).trans hc,by rw[Obj.data_mapFields hd];simp[rawInt]⟩
theorem eY{it l:Addr}{i:Nat}{items:Array Value}{Q:Value->Shared->Prop}(hh:A.handled=none)(hit:s.heap.IsTupleIter it l i)(hl:s.heap.IsTuple l items)(hx:items[i]?=none)(hE:∀h' e,Heap.ExtBut it s.heap h'->(∃o,h'.get? e=some o/\o.cls=.type "StopIteration")->E (.ref e) {s with heap:=h'}):wpAny (model prog w) A (nextOf (.ref it)) Q E s:=by
 obtain⟨o,ho,hc,hd⟩:=id hit;obtain⟨ol,hol,_,nl,hdl⟩:=hl;unfold nextOf;refine wpAny_bind (wpAny_callSpecial?_slot (name:=Str.ofString "__next__") hit.typeIs F.slot_tuple_iterator_next (wpAny_call_entry F.slot_tuple_iterator_next hit.typeIs F.entry_tuple_iterator_next ?_ (F.args_tuple_iterator_next_1 _)));show wpAny _ _ (field (.ref it) 0>>=_) _ _ s;refine wpAny_bind (wpAny_field ho hd (x:=.ref l) rfl ?_);show wpAny _ _ (if(Value.ref l==Value.none)=true then _ else _) _ _ s;rw[if_neg (show ¬((Value.ref l==Value.none)=true)from Bool.false_ne_true)];show wpAny _ _ (field (.ref it) 1>>=_) _ _ s;refine wpAny_bind (wpAny_field ho hd (x:=.int i 0) rfl ?_);show wpAny _ _ (seqItems? (.ref l)>>=_) _ _ s;refine wpAny_bind (wpAny_seqItems hol hdl ?_);simp only[Int.toNat_natCast,hx];refine wpAny_bind (wpAny_rule (wpAny_bind (wpAny_setField ho hd (by simp) ?_)));show wpAny _ _ (newExc (.type "StopIteration") []>>=_) _ _ _;refine wpAny_bind ?_;simp only[newExc,newTuple];refine wpAny_bind (wpAny_newObj_type ?_ (by size_fits));refine wpAny_bind (m:=firstArgMember _ _) (wpAny_of_eq (a:=Value.none) (by first|rfl|(simp only[firstArgMember];rfl)) ?_);refine wpAny_newObj_type ?_ (by size_fits);simp only[raiseNew];refine wpAny_bind (wpAny_handled ?_);first|rw[show A.in1.handled=none from hh]|rw[hh]
 refine wpAny_bind (wpAny_pure (wpAny_throw ?_));exact hE _ _ (((Heap.SameBut.update ..).extBut.push _).push _) ⟨_,get?_push_size _ rfl,rfl⟩
end
theorem jU(l:Addr)(items:Array Value)(n:Nat)(dct:Option Addr)(sl:Array (Option Value)):Meets (Builtin.«enumerate.__new__» ⟨[.type "enumerate",.ref l],[]⟩) (fun _ R s=>s.heap.get? l=some {cls:=.type "tuple",dict:=dct,data:=.seq items n,slots:=sl}/\R (.ok (.ret (.ref (s.heap.push {cls:=.type "tuple_iterator",data:=.fields #[.ref l,.int 0 0]}).objs.size))) {s with heap:=(s.heap.push {cls:=.type "tuple_iterator",data:=.fields #[.ref l,.int 0 0]}).push {cls:=.type "enumerate",data:=.fields #[.none,.bool false,.ref s.heap.objs.size,rawInt 0,.none,.none]}}):=.of_wp fun prog w A R s h=>by
  obtain⟨hp,g,d,tk,os⟩:=s;obtain⟨hl,h⟩:=h;have hsub:=sub_enumerate;have hL:IsTuple (Shared.heap ⟨hp,g,d,tk,os⟩) l items:=⟨_,hl,rfl,n,rfl⟩;wp_walk using wpAny_loadPart' hl;refine wpAny_stack_any fun st=>wpAny_pure ?_;split
  . rename_i c _ _ _ _ _;cases(c==Value.type "enumerate");.wp_walk using wpAny_loadPart' hl,wpAny_pyIter_tuple hL;exact⟨_,rfl,h⟩
    .wp_walk using wpAny_loadPart' hl,wpAny_pyIter_tuple hL;exact⟨_,rfl,h⟩
  .wp_walk using wpAny_loadPart' hl,wpAny_pyIter_tuple hL;exact⟨_,rfl,h⟩
section
variable{prog:Program}{w:World}{A:Around}{E:Value->Shared->Prop}{s:Shared}
theorem jK{l:Addr}{items:Array Value}{Q:Value->Shared->Prop}(hL:s.heap.IsTuple l items)(h:∀ h',IsEnum h' (s.heap.objs.size+1) s.heap.objs.size 0 .none->h'.IsTupleIter s.heap.objs.size l 0->h'.objs.size=s.heap.objs.size+2->(∀b o,s.heap.get? b=some o->h'.get? b=some o)->Q (.ref (s.heap.objs.size+1)) {s with heap:=h'}):wpAny (model prog w) A (call (.type "enumerate") [.ref l]) Q E s:=by
 obtain⟨⟨c,dct,dt,sl⟩,hl,hc,n,hd⟩:=hL;replace hc:c=.type "tuple":=hc;replace hd:dt=.seq items n:=hd;subst hc hd;refine callType_new F.called_enumerate (by decide) (F.typeCall_enumerate_1 _) (F.newCall_enumerate_1 _) (fun obj=>F.args_object_init_2 obj _) F.entry_enumerate_new (jU l items n dct sl) ⟨hl,?_⟩;have hz:(s.heap.push {cls:=.type "tuple_iterator",data:=.fields #[.ref l,.int 0 0]}).objs.size=s.heap.objs.size+1:=size_push ..;show _/\_;rw[hz];have he:IsEnum ((s.heap.push {cls:=.type "tuple_iterator",data:=.fields #[.ref l,.int 0 0]}).push {cls:=.type "enumerate",data:=.fields #[.none,.bool false,.ref s.heap.objs.size,rawInt 0,.none,.none]}) (s.heap.objs.size+1) s.heap.objs.size 0 .none:=by have:=get?_push_size (s.heap.push {cls:=.type "tuple_iterator",data:=.fields #[.ref l,.int 0 0]}) (o:={cls:=.type "enumerate",data:=.fields #[.none,.bool false,.ref s.heap.objs.size,rawInt 0,.none,.none]}) rfl;rw[hz]at this;exact this
 refine⟨⟨_,he,rfl⟩,h _ he ⟨_,dw (get?_push_size _ rfl),rfl,rfl⟩ (by rw[size_push,hz]) fun b o x=>dw (dw x)⟩
end
end PySem
end
section
namespace L2
open PySem PySem.Spec PyProof.Rows
variable{prog:Program}{w:World}{A:Around}
section
variable{X:Cx}{pins:List (Addr×Obj)}{σ:L2.St}{H:Hp}{s:Shared}
theorem Inv.zE{ch:List Addr}{h':Heap}{o:HO}{t':Nat}(I:Inv X pins σ H s)(k:∀b u,b∉ch->s.heap.get? b=some u->h'.get? b=some u)(hl:∀b∈ch,∃u,h'.get? b=some u)(hf:∀b∈ch,n6 X pins H b)(new:cj X.prog X.w (upd H s.heap.objs.size o) h' s.heap.objs.size o):Inv X pins σ (upd H s.heap.objs.size o) {s with heap:=h',toks:=t'}:=by
 have fr:H s.heap.objs.size=none:=I.hok.fresh (cR);have JP:∀b u,H b=some u->b∉ch:=fun b u e hb=>by rw[(hf b hb).1]at e;cases e
 have up:∀b u,H b=some u->upd H s.heap.objs.size o b=some u:=fun b u e=>by
  have:b≠s.heap.objs.size:=by rintro rfl;rw[fr]at e;cases e
  rw[aG this];exact e
 refine I.call (g':=s.gens) (d':=s.drawn) (ch:=ch) ⟨fun b u e n _ hx=>k b u hx e,fun b u e n _ hx=>⟨u.slots,k b u hx e⟩,fun b u e n hx=>?_,fun b u e hx=>⟨u,k b u hx e⟩,fun b xs e=>up b _ e,fun b ob u e=>up b _ e,fun b ps e=>⟨#[],by rw[up b _ e];simp⟩⟩ ?_ I.bare fun b hb=>⟨(hf b hb).2.2.2.1,(hf b hb).2.1,(hf b hb).2.2.2.2.1,(hf b hb).2.2.2.2.2⟩;.have:b≠s.heap.objs.size:=ne_of_lt (lt_size e);rw[aG this];exact n
 . intro b u e;by_cases hb:b=s.heap.objs.size;.subst hb;rw[bh]at e;cases e;exact new
   . rw[aG hb]at e;refine(I.hok b u e).stay (fun c v hc q=>k c v ?_ q) (fun c q=>up c _ q) fun c xs q=>up c _ q;rcases hc with rfl|hc;.exact JP _ _ e
     .exact JP _ _ hc
end
noncomputable def yK(K:PySem.W.Frag)(a:Addr):It:=⟨fun i H=>∃xs x,dF K H a xs/\xs[i]?=some x,fun i H x H'=>∃T v,H T=none/\x=.ref T/\H'=upd H T (.tup [.int (i:Int),v])/\∀xs,dF K H a xs->xs[i]?=some v,fun i H=>∃xs,dF K H a xs/\xs.length<=i⟩
theorem QZ(hh:A.handled=none)(it l:Addr)(hne:l≠it)(items:Array Value):Draws prog w A it [it,l] items.size (fun i v=>items[i]?=some v) (fun i h=>h.IsListIter it l i/\h.IsList l items)where
 live:=fun _ _ st=>let⟨o,ho,_⟩:=st.1;⟨o,ho⟩;frame:=fun _ _ _ st hk=>⟨(let⟨o,ho,r⟩:=st.1;⟨o,hk it (by simp) o ho,r⟩),(let⟨o,ho,r⟩:=st.2;⟨o,hk l (by simp) o ho,r⟩)⟩;item:=fun i s Q E hi st hQ=>by refine wpAny_nextOf_list_item st.1 st.2 (x:=items[i]) (by simp[hi]) fun h' hit' hs'=>?_;exact hQ _ h' s.toks (by simp[hi]) ⟨hit',(let⟨o,ho,r⟩:=st.2;⟨o,hs'.extBut l o hne ho,r⟩)⟩ hs'
 done:=fun s Q E st hE=>wpAny_nextOf_list_end hh st.1 st.2 (by simp) hE
theorem Dr(hh:A.handled=none)(it l:Addr)(items:Array Value)(n:Nat)(hn:items.size<=n):Draws prog w A it [it,l] n (fun _ _=>True) (fun i h=>i=n/\h.IsListIter it l i/\h.IsList l items)where live:=fun _ _ st=>let⟨o,ho,_⟩:=st.2.1;⟨o,ho⟩;frame:=fun _ _ _ st hk=>⟨st.1,(let⟨o,ho,r⟩:=st.2.1;⟨o,hk it (by simp) o ho,r⟩),(let⟨o,ho,r⟩:=st.2.2;⟨o,hk l (by simp) o ho,r⟩)⟩;item:=fun i s Q E hi st hQ=>absurd st.1 (ne_of_lt hi);done:=fun s Q E st hE=>wpAny_nextOf_list_end hh st.2.1 st.2.2 (by simp;exact hn) hE
theorem Eb{P:Program}{K:PySem.W.Frag}{elts:List Expr}{x1}{tp:Pos}(a it e:Addr)(hei:e≠it):Turn P w K (.Tuple elts x1 tp) (yK K a) [e,it] e (fun i h=>(∃old,IsEnum h e it (i:Int) old)/\h.IsListIter it a i)where
 mem:=by simp
 obj:=fun i h st b hb=>by
  obtain⟨⟨old,h1⟩,o,h2,h3,h4⟩:=st;rcases mem_cons.mp hb with rfl|hb;.exact⟨_,h1,fun v z=>by cases z⟩
  . have:b=it:=by simpa using hb
    subst this;exact⟨o,h2,fun v z=>by rw[h4]at z;cases z⟩
 keep:=fun i h h' st k=>by obtain⟨⟨old,h1⟩,o,h2,h3⟩:=st;exact⟨⟨old,k e (by simp) _ h1⟩,o,k it (by simp) _ h2,h3⟩
 item:=fun X hP hw hK hc i pins s σ H E I hf st go=>by
  subst hP hw hK;obtain⟨⟨old,he⟩,hit⟩:=st;obtain⟨xs,x,hq,hx⟩:=go;obtain⟨its,rv,pl,hz⟩:=I.list hq;have hL:s.heap.IsList a its.toArray:=pl.isList;obtain⟨oa,ha,hca,_⟩:=id hL;have hea:e≠a:=by rintro rfl;rw[he]at ha;cases ha;exact absurd (show Value.type "enumerate"=Value.type _ from hca) (by decide)
  have hia:a≠it:=by rintro rfl;obtain⟨o,h2,h3,_⟩:=id hit;rw[h2]at ha;cases ha;rw[h3]at hca;exact absurd hca (by decide)
  have hlt:i<its.toArray.size:=by rw[size_toArray,<-rv.length];exact(cV hx).1
  refine wpAny_pyNext_enum_itemD (QZ (show X.A.in1.handled=none from I.ok.hd hc) it a hia its.toArray) he ⟨hit,hL⟩ hlt hei (by simp[hei,hea]) fun y h' tk hy heo hst ht hsz kp=>?_;refine⟨_,rfl,wpAny_letOwnedTupleGo_enum heo fun h'' J1 sb=>?_⟩;obtain⟨u,hu1,hu2⟩:=rv.get hx;have hyu:y=u:=by
   have hy:its[i]?=some y:=by simpa using hy
   rw[hu1]at hy;cases hy;rfl
  subst hyu;have hT:∀b∈[e,it],b≠s.heap.objs.size:=fun b hb=>by
   rcases mem_cons.mp hb with rfl|hb;.exact ne_of_lt (lt_size he)
   . have:b=it:=by simpa using hb
     subst this;obtain⟨o,h2,_⟩:=id hit;exact ne_of_lt (lt_size h2)
  have hTe:s.heap.objs.size≠e:=(hT e (by simp)).symm;have Vz:∀b o,b∉[e,it]->s.heap.get? b=some o->h''.get? b=some o:=fun b o hb q=>by have h1:b≠e:=fun z=>hb (by simp[z]);have h2:b≠it:=fun z=>hb (by simp[z]);exact sb.extBut b o h1 (kp b o h1 h2 q)
  have yf:h''.get? s.heap.objs.size=some {cls:=.type "tuple",data:=.seq #[.int i tk,y]}:=sb.extBut _ _ hTe ht;refine⟨.ref s.heap.objs.size,upd H s.heap.objs.size (.tup [.int (i:Int),x]),?_,rfl,⟨_,x,I.fresh,rfl,rfl,fun ys hys=>?_⟩,⟨⟨_,J1⟩,?_⟩,fun b hb=>?_⟩
  . refine I.zE (ch:=[e,it]) (t':=tk+1) Vz (fun b hb=>?_) (fun b hb=>(hf b hb)) ⟨(by show 2<=sizeLine;decide),[.int i tk,y],.cons ⟨_,rfl⟩ (.cons hu2 .nil),⟨_,yf,rfl,_,rfl⟩⟩;rcases mem_cons.mp hb with rfl|hb;.exact⟨_,J1⟩
    . have:b=it:=by simpa using hb
      subst this;obtain⟨o,h2,_⟩:=id hst.1;exact⟨o,sb.extBut _ _ (Ne.symm hei) h2⟩
  .rw[I.lN hys hq];exact hx
  .obtain⟨o,h2,r⟩:=hst.1;exact⟨o,sb.extBut _ _ (Ne.symm hei) h2,r⟩
  .rw[aG (hT b hb)];exact(hf b hb).1
 done:=fun X hP hw hK hc i pins s σ H E I hf st stop=>by subst hP hw hK;obtain⟨⟨old,he⟩,hit⟩:=st;obtain⟨xs,hq,hx⟩:=stop;obtain⟨its,rv,pl,hz⟩:=I.list hq;have hL:s.heap.IsList a its.toArray:=pl.isList;refine wpAny_pyNext_enum_endD (Dr (show X.A.in1.handled=none from I.ok.hd hc) it a its.toArray i (by rw[size_toArray,<-rv.length];exact hx)) he ⟨rfl,hit,hL⟩ fun h' hs=>⟨rfl,?_⟩;have f:=hf it (by simp);exact I.turned (t':=s.toks) (fun b o hb q=>hs b o hb q) f.1 f.2.1 f.2.2.2.1 f.2.2.2.2.1 f.2.2.2.2.2
 self:=fun A i s Q E st q=>wpAny_pyIter_enum st.1.choose_spec q
noncomputable def zP(K:PySem.W.Frag)(a:Addr):It:=⟨fun i H=>∃xs x,iT K H a xs/\xs[i]?=some x,fun i H x H'=>∃T v,H T=none/\x=.ref T/\H'=upd H T (.tup [.int (i:Int),v])/\∀xs,iT K H a xs->xs[i]?=some v,fun i H=>∃xs,iT K H a xs/\xs.length<=i⟩
theorem Q0(hh:A.handled=none)(it l:Addr)(hne:l≠it)(items:Array Value):Draws prog w A it [it,l] items.size (fun i v=>items[i]?=some v) (fun i h=>h.IsTupleIter it l i/\h.IsTuple l items)where
 live:=fun _ _ st=>let⟨o,ho,_⟩:=st.1;⟨o,ho⟩;frame:=fun _ _ _ st hk=>⟨(let⟨o,ho,r⟩:=st.1;⟨o,hk it (by simp) o ho,r⟩),(let⟨o,ho,r⟩:=st.2;⟨o,hk l (by simp) o ho,r⟩)⟩;item:=fun i s Q E hi st hQ=>by refine gY st.1 st.2 (x:=items[i]) (by simp[hi]) fun h' hit' hs'=>?_;exact hQ _ h' s.toks (by simp[hi]) ⟨hit',(let⟨o,ho,r⟩:=st.2;⟨o,hs'.extBut l o hne ho,r⟩)⟩ hs'
 done:=fun s Q E st hE=>eY hh st.1 st.2 (by simp) hE
theorem Ef(hh:A.handled=none)(it l:Addr)(items:Array Value)(n:Nat)(hn:items.size<=n):Draws prog w A it [it,l] n (fun _ _=>True) (fun i h=>i=n/\h.IsTupleIter it l i/\h.IsTuple l items)where live:=fun _ _ st=>let⟨o,ho,_⟩:=st.2.1;⟨o,ho⟩;frame:=fun _ _ _ st hk=>⟨st.1,(let⟨o,ho,r⟩:=st.2.1;⟨o,hk it (by simp) o ho,r⟩),(let⟨o,ho,r⟩:=st.2.2;⟨o,hk l (by simp) o ho,r⟩)⟩;item:=fun i s Q E hi st hQ=>absurd st.1 (ne_of_lt hi);done:=fun s Q E st hE=>eY hh st.2.1 st.2.2 (by simp;exact hn) hE
theorem DG{P:Program}{K:PySem.W.Frag}{elts:List Expr}{x1}{tp:Pos}(a it e:Addr)(hei:e≠it):Turn P w K (.Tuple elts x1 tp) (zP K a) [e,it] e (fun i h=>(∃old,IsEnum h e it (i:Int) old)/\h.IsTupleIter it a i)where
 mem:=by simp
 obj:=fun i h st b hb=>by
  obtain⟨⟨old,h1⟩,o,h2,h3,h4⟩:=st;rcases mem_cons.mp hb with rfl|hb;.exact⟨_,h1,fun v z=>by cases z⟩
  . have:b=it:=by simpa using hb
    subst this;exact⟨o,h2,fun v z=>by rw[h4]at z;cases z⟩
 keep:=fun i h h' st k=>by obtain⟨⟨old,h1⟩,o,h2,h3⟩:=st;exact⟨⟨old,k e (by simp) _ h1⟩,o,k it (by simp) _ h2,h3⟩
 item:=fun X hP hw hK hc i pins s σ H E I hf st go=>by
  subst hP hw hK;obtain⟨⟨old,he⟩,hit⟩:=st;obtain⟨xs,x,hq,hx⟩:=go;obtain⟨its,rv,pl,hz⟩:=I.tuple hq;have hL:s.heap.IsTuple a its.toArray:=pl;obtain⟨oa,ha,hca,_⟩:=id hL;have hea:e≠a:=by rintro rfl;rw[he]at ha;cases ha;exact absurd (show Value.type "enumerate"=Value.type _ from hca) (by decide)
  have hia:a≠it:=by rintro rfl;obtain⟨o,h2,h3,_⟩:=id hit;rw[h2]at ha;cases ha;rw[h3]at hca;exact absurd hca (by decide)
  have hlt:i<its.toArray.size:=by rw[size_toArray,<-rv.length];exact(cV hx).1
  refine wpAny_pyNext_enum_itemD (Q0 (show X.A.in1.handled=none from I.ok.hd hc) it a hia its.toArray) he ⟨hit,hL⟩ hlt hei (by simp[hei,hea]) fun y h' tk hy heo hst ht hsz kp=>?_;refine⟨_,rfl,wpAny_letOwnedTupleGo_enum heo fun h'' J1 sb=>?_⟩;obtain⟨u,hu1,hu2⟩:=rv.get hx;have hyu:y=u:=by
   have hy:its[i]?=some y:=by simpa using hy
   rw[hu1]at hy;cases hy;rfl
  subst hyu;have hT:∀b∈[e,it],b≠s.heap.objs.size:=fun b hb=>by
   rcases mem_cons.mp hb with rfl|hb;.exact ne_of_lt (lt_size he)
   . have:b=it:=by simpa using hb
     subst this;obtain⟨o,h2,_⟩:=id hit;exact ne_of_lt (lt_size h2)
  have hTe:s.heap.objs.size≠e:=(hT e (by simp)).symm;have Vz:∀b o,b∉[e,it]->s.heap.get? b=some o->h''.get? b=some o:=fun b o hb q=>by have h1:b≠e:=fun z=>hb (by simp[z]);have h2:b≠it:=fun z=>hb (by simp[z]);exact sb.extBut b o h1 (kp b o h1 h2 q)
  have yf:h''.get? s.heap.objs.size=some {cls:=.type "tuple",data:=.seq #[.int i tk,y]}:=sb.extBut _ _ hTe ht;refine⟨.ref s.heap.objs.size,upd H s.heap.objs.size (.tup [.int (i:Int),x]),?_,rfl,⟨_,x,I.fresh,rfl,rfl,fun ys hys=>?_⟩,⟨⟨_,J1⟩,?_⟩,fun b hb=>?_⟩
  . refine I.zE (ch:=[e,it]) (t':=tk+1) Vz (fun b hb=>?_) (fun b hb=>(hf b hb)) ⟨(by show 2<=sizeLine;decide),[.int i tk,y],.cons ⟨_,rfl⟩ (.cons hu2 .nil),⟨_,yf,rfl,_,rfl⟩⟩;rcases mem_cons.mp hb with rfl|hb;.exact⟨_,J1⟩
    . have:b=it:=by simpa using hb
      subst this;obtain⟨o,h2,_⟩:=id hst.1;exact⟨o,sb.extBut _ _ (Ne.symm hei) h2⟩
  .rw[I.jZ hys hq];exact hx
  .obtain⟨o,h2,r⟩:=hst.1;exact⟨o,sb.extBut _ _ (Ne.symm hei) h2,r⟩
  .rw[aG (hT b hb)];exact(hf b hb).1
 done:=fun X hP hw hK hc i pins s σ H E I hf st stop=>by subst hP hw hK;obtain⟨⟨old,he⟩,hit⟩:=st;obtain⟨xs,hq,hx⟩:=stop;obtain⟨its,rv,pl,hz⟩:=I.tuple hq;have hL:s.heap.IsTuple a its.toArray:=pl;refine wpAny_pyNext_enum_endD (Ef (show X.A.in1.handled=none from I.ok.hd hc) it a its.toArray i (by rw[size_toArray,<-rv.length];exact hx)) he ⟨rfl,hit,hL⟩ fun h' hs=>⟨rfl,?_⟩;have f:=hf it (by simp);exact I.turned (t':=s.toks) (fun b o hb q=>hs b o hb q) f.1 f.2.1 f.2.2.2.1 f.2.2.2.2.1 f.2.2.2.2.2
 self:=fun A i s Q E st q=>wpAny_pyIter_enum st.1.choose_spec q
section
variable{X:Cx}{elts:List Expr}{x1:Nat}{tp:Pos}
def ac5(K:PySem.W.Frag)(tl:TE):TI:=fun σ H R=>tl σ H fun x H1=>∃a,x=.ref a/\(((∃xs,dF K H1 a xs)/\R (yK K a) H1)\/((∃xs,iT K H1 a xs)/\R (zP K a) H1))
theorem boot_enumerate:bootBuiltins "enumerate"=some (.type "enumerate"):=by decide+kernel
theorem P0{a:Expr}{ta:TE}{p pos:Pos}(hg:Gl X "enumerate")(hm:X.mg "enumerate"=none)(ha:PE X a ta)(hs:starEach [a] X.env=[(false,eval a X.env)]:=by rfl):PI X (.Tuple elts x1 tp) (.Call (.Name "enumerate" p) [a] [] pos) (ac5 X.K ta):=by
 intro pins s σ H R I h;refine Call_ (iu I hg hm boot_enumerate (PyProof.Rows.callWith_type1 (cz ((cO ha eU hs) pos pins s σ H (fun vs H1=>match vs with|[x]=>∃a,x=.ref a/\(((∃xs,dF X.K H1 a xs)/\R (yK X.K a) H1)\/((∃xs,iT X.K H1 a xs)/\R (zP X.K a) H1))|_=>False) I h) ?_) hs rfl));rintro us s1⟨vs,H1,I1,r1,q1⟩
 . obtain⟨ad,q,vs1⟩:∃ad,(((∃xs,dF X.K H1 ad xs)/\R (yK X.K ad) H1)\/((∃xs,iT X.K H1 ad xs)/\R (zP X.K ad) H1))/\vs=[.ref ad]:=by cases vs with|nil=>cases q1|cons x r=>cases r with|nil=>obtain⟨ad,rfl,q⟩:=q1;exact⟨ad,q,rfl⟩|cons _ _=>cases q1
   subst vs1;obtain⟨u,rfl,ru⟩:=r1.one;cases ru;have fin:∀(h':Heap)(tn:Nat->Heap->Prop)(J:It),Turn X.prog X.w X.K (.Tuple elts x1 tp) J [s1.heap.objs.size+1,s1.heap.objs.size] (s1.heap.objs.size+1) tn->tn 0 h'->IsEnum h' (s1.heap.objs.size+1) s1.heap.objs.size 0 .none->(∀b o,s1.heap.get? b=some o->h'.get? b=some o)->R J H1->wpAny (model X.prog X.w) X.A (pyIter (.ref (s1.heap.objs.size+1))) (PIE X pins σ (.Tuple elts x1 tp) R) X.xe {s1 with heap:=h'}:=fun h' tn J T t0 he kp q=>by
    refine wpAny_pyIter_enum he ⟨_,_,tn,J,H1,rfl,I1.kept (t':=s1.toks) kp,T,t0,fun b hb=>?_,q⟩;have hb':s1.heap.objs.size<=b:=by
     rcases mem_cons.mp hb with rfl|hb;.exact le_succ _
     . have:b=s1.heap.objs.size:=by simpa using hb
       rw[this];exact cR
    exact I1.yu hb' (I1.hok.fresh hb')
   rcases q with⟨⟨xs,hq⟩,q⟩|⟨⟨xs,hq⟩,q⟩;.obtain⟨its,rv,pl,hz⟩:=I1.list hq;exact call_enumerate_list pl.isList fun h' he hi hsz kp=>fin h' _ _ (Eb ad s1.heap.objs.size (s1.heap.objs.size+1) (Nat.succ_ne_self _)) ⟨⟨_,he⟩,hi⟩ he kp q
   .obtain⟨its,rv,pl,hz⟩:=I1.tuple hq;exact jK pl fun h' he hi hsz kp=>fin h' _ _ (DG ad s1.heap.objs.size (s1.heap.objs.size+1) (Nat.succ_ne_self _)) ⟨⟨_,he⟩,hi⟩ he kp q
end
end L2
namespace HH
open PySem L2 PySem.Spec PyProof.Rows
section
variable{K:PySem.W.Frag}{F F1 H H1:Hp}{ρ ρ1:List Sl}{σ:L2.St}{ds:List D}{a:Addr}
theorem qZ{F' H':Hp}{T:Addr}{v w:V}{d1 d2:D}(sm:aM F' H')(hT:H' T=none)(r1:Rep K F' v d1)(r2:Rep K F' w d2):∃F'',Ext F' H' F'' (upd H' T (.tup [v,w]))/\Rep K F'' (.ref T) (.tup [d1,d2]):=yH (Q:=fun v kh=>∃F'',Ext F' H' F'' kh/\Rep K F'' v (.tup [d1,d2])) sm (.cons r1 (.cons r2 .nil)) hT fun v F'' kh x rn=>⟨F'',x,rn⟩
theorem Ir{xs:List V}{F' H':Hp}(hq:dF K H' a xs)(r:aL K F' xs ds)(s:aM F' H')(k:Nat):(∀d,(ds.mapIdx fun i d=>D.tup [.int (i:Int),d])[k]?=some d->(yK K a).go k H'/\∀x kh,(yK K a).JQ k H' x kh->∃F'',Ext F' H' F'' kh/\Rep K F'' x d)/\((ds.mapIdx fun i d=>D.tup [.int (i:Int),d]).length<=k->(yK K a).stop k H'):=by refine⟨fun d hd=>?_,fun h=>⟨xs,hq,by rw[r.length];simpa using h⟩⟩;rw[List.getElem?_mapIdx]at hd;obtain⟨d0,e1,e2⟩:=map_some hd;subst e2;obtain⟨w,h1,h2⟩:=r.get e1;refine⟨⟨xs,w,hq,h1⟩,?_⟩;rintro x kh⟨T,v,hT,hx,hH,y⟩;subst hx;subst hH;have:=y xs hq;rw[h1]at this;cases this;exact qZ s hT (bY _) h2
theorem Hm{xs:List V}{F' H':Hp}(hq:iT K H' a xs)(r:aL K F' xs ds)(s:aM F' H')(k:Nat):(∀d,(ds.mapIdx fun i d=>D.tup [.int (i:Int),d])[k]?=some d->(zP K a).go k H'/\∀x kh,(zP K a).JQ k H' x kh->∃F'',Ext F' H' F'' kh/\Rep K F'' x d)/\((ds.mapIdx fun i d=>D.tup [.int (i:Int),d]).length<=k->(zP K a).stop k H'):=by refine⟨fun d hd=>?_,fun h=>⟨xs,hq,by rw[r.length];simpa using h⟩⟩;rw[List.getElem?_mapIdx]at hd;obtain⟨d0,e1,e2⟩:=map_some hd;subst e2;obtain⟨w,h1,h2⟩:=r.get e1;refine⟨⟨xs,w,hq,h1⟩,?_⟩;rintro x kh⟨T,v,hT,hx,hH,y⟩;subst hx;subst hH;have:=y xs hq;rw[h1]at this;cases this;exact qZ s hT (bY _) h2
end
section
variable{X:Cx}{c:Call}{e a:Expr}{pa:P}{pos:Pos}{elts:List Expr}{x1:Nat}{tp:Pos}
theorem Ij{x:Str}{p':Pos}(hx:x="enumerate")(hg:Gl X x)(hm:X.mg x=none)(ha:SX X c a pa)(hs:starEach [a] X.env=[(false,eval a X.env)]:=by rfl):SI X c (.Tuple elts x1 tp) (.Call (.Name x p') [a] [] pos) (.Vx pa):=by subst hx;refine kZ (P0 hg hm ha.ev hs) ?_;rintro σ H R⟨F,ρ,ds,ρ1,g,e,k⟩;obtain⟨r,ρ2,e1,e2⟩:=ao e;have zz:=aB e2;clear e2;obtain⟨e2,e3⟩:=zz;subst e3;rw[HH.E21]at e1;obtain⟨r0,ρ3,e4,e5⟩:=ao e1;have zz:=aB e5;clear e5;obtain⟨e5,e6⟩:=zz;subst e6;obtain⟨es,f1,f2⟩:=map_some e5;subst f2;cases e2;refine⟨F,ρ,r0,_,g,e4,fun v F' H' s rr=>?_⟩;obtain⟨F2,s2,_,rp⟩:=s.cX rr;cases hd:r0.d with|tup es'=>rw[hd]at f1 rp;cases f1;rw[Rep]at rp;obtain⟨ad,xs,rfl,h1,h2⟩:=rp;exact⟨ad,rfl,.inr ⟨⟨xs,aM.gC s2.gs.sub h1⟩,k _ _ _ ⟨s2.gs,fun n k F' ρ' σ' H' s'=>Hm (aM.gC s'.gs.sub (aM.gC s'.bV h1)) (h2.mono s'.bV) s'.gs.sub k,fun F3 ρ3 σ3 H3 s3=>⟨s2.trans s3,fun v r rr=>rr.later s2⟩⟩⟩⟩|lst es'=>rw[hd]at f1 rp;cases f1;rw[Rep]at rp;obtain⟨ad,xs,rfl,h1,h2⟩:=rp;exact⟨ad,rfl,.inl ⟨⟨xs,s2.gs.sub.seq h1⟩,k _ _ _ ⟨s2.gs,fun n k F' ρ' σ' H' s'=>Ir (s'.gs.sub.seq (s'.bV.seq h1)) (h2.mono s'.bV) s'.gs.sub k,fun F3 ρ3 σ3 H3 s3=>⟨s2.trans s3,fun v r rr=>rr.later s2⟩⟩⟩⟩|_=>rw[hd]at f1;cases f1
end
end HH
end
section
namespace PySem
structure Nx(prog:Program)(w:World)(A:Around)(it src:Addr)(Sx:Nat->Heap->Prop)(get:Nat->Option Value):Prop where
 obj:∀k h,Sx k h->∃o,h.get? it=some o/\∀v,o.data≠.cell v
 keep:∀k h h',Sx k h->(∀o,h.get? it=some o->h'.get? it=some o)->(∀o,h.get? src=some o->h'.get? src=some o)->Sx k h'
 item:∀k(s:Shared)(Q:Value->Shared->Prop)(E:Value->Shared->Prop)x,Sx k s.heap->get k=some x->(∀h',Sx (k+1) h'->SameBut it s.heap h'->Q x {s with heap:=h'})->wpAny (model prog w) A (nextOf (.ref it)) Q E s
 fin:∀k(s:Shared)(Q:Value->Shared->Prop)(E:Value->Shared->Prop),Sx k s.heap->get k=none->(∀h' e,Heap.ExtBut it s.heap h'->(∃o,h'.get? e=some o/\o.cls=.type "StopIteration")->E (.ref e) {s with heap:=h'})->wpAny (model prog w) A (nextOf (.ref it)) Q E s
variable{Q:Value->Shared->Prop}{l1 l2:Addr}{xs ys:Array Value}
section
variable{prog:Program}{w:World}{A:Around}{E:Value->Shared->Prop}{s:Shared}
theorem Nx.list(hh:A.handled=none)(it l:Addr)(hne:l≠it)(items:Array Value):Nx prog w A it l (fun k h=>h.IsListIter it l k/\h.IsList l items) (fun k=>items[k]?)where obj:=fun k h st=>let⟨o,h1,_,h3⟩:=st.1;⟨o,h1,fun v z=>by rw[h3]at z;cases z⟩;keep:=fun k h h' st a b=>⟨(let⟨o,ho,r⟩:=st.1;⟨o,a o ho,r⟩),(let⟨o,ho,r⟩:=st.2;⟨o,b o ho,r⟩)⟩;item:=fun k s Q E x st hx hQ=>wpAny_nextOf_list_item st.1 st.2 hx fun h' hit hs=>hQ h' ⟨hit,(let⟨o,ho,r⟩:=st.2;⟨o,hs.extBut l o hne ho,r⟩)⟩ hs;fin:=fun k s Q E st hx hE=>wpAny_nextOf_list_end hh st.1 st.2 hx hE
theorem Nx.tuple(hh:A.handled=none)(it l:Addr)(hne:l≠it)(items:Array Value):Nx prog w A it l (fun k h=>h.IsTupleIter it l k/\h.IsTuple l items) (fun k=>items[k]?)where obj:=fun k h st=>let⟨o,h1,_,h3⟩:=st.1;⟨o,h1,fun v z=>by rw[h3]at z;cases z⟩;keep:=fun k h h' st a b=>⟨(let⟨o,ho,r⟩:=st.1;⟨o,a o ho,r⟩),(let⟨o,ho,r⟩:=st.2;⟨o,b o ho,r⟩)⟩;item:=fun k s Q E x st hx hQ=>gY st.1 st.2 hx fun h' hit hs=>hQ h' ⟨hit,(let⟨o,ho,r⟩:=st.2;⟨o,hs.extBut l o hne ho,r⟩)⟩ hs;fin:=fun k s Q E st hx hE=>eY hh st.1 st.2 hx hE
variable{z TI TO i1 i2 l1 l2:Addr}{k:Nat}{S1 S2:Nat->Heap->Prop}{g1 g2:Nat->Option Value}{a b:Value}
theorem Dg{x y:Value}(D:ZipApart z TI TO i1 i2 l1 l2)(N1:Nx prog w A i1 l1 S1 g1)(N2:Nx prog w A i2 l2 S2 g2)(hz:IsZip s.heap z TI TO .none)(hTI:IsPair s.heap TI (.ref i1) (.ref i2))(hTO:IsPair s.heap TO a b)(h1:S1 k s.heap)(h2:S2 k s.heap)(hx:g1 k=some x)(hy:g2 k=some y)(hQ:∀ h',IsZip h' z TI TO (rawInt s.heap.objs.size)->IsPair h' TO x y->S1 (k+1) h'->S2 (k+1) h'->IsPair h' s.heap.objs.size x y->h'.objs.size=s.heap.objs.size+1->(∀c o,c≠z->c≠TO->c≠i1->c≠i2->s.heap.get? c=some o->h'.get? c=some o)->Q (.ref s.heap.objs.size) {s with heap:=h'}):wpAny (model prog w) A (Builtin.«zip.__next__» ⟨[.ref z],[]⟩) (fun fin s'=>∃v,fin=.done (.ret v)/\Q v s') E s:=by
 show wpAny _ _ (field (.ref z) 2>>=_) _ _ _;refine wpAny_bind (wpAny_field hz rfl (x:=.bool false) rfl ?_);show wpAny _ _ (field (.ref z) 3>>=_) _ _ _;refine wpAny_bind (wpAny_field hz rfl (x:=.ref TI) rfl (wpAny_bind (wpAny_seqItems hTI rfl ?_)));show wpAny _ _ (ownedTupleIsFree (.ref z)>>=_) _ _ _;refine wpAny_bind ?_;unfold ownedTupleIsFree;refine wpAny_bind (wpAny_field hz rfl (x:=.none) rfl (wpAny_pure ?_));simp only[if_true];refine wpAny_bind (wpAny_rule (wpAny_bind (wpAny_field hz rfl (x:=.ref TO) rfl (wpAny_bind (wpAny_setField_rec hz (by simp) fun t1 z1 zX=>?_)))));have z1:IsZip t1 z TI TO .ellipsis:=z1;refine wpAny_bind ?_;simp only[List.zipIdx_cons,List.zipIdx_nil,forIn_cons,forIn_nil];refine wpAny_bind (wpAny_bind (wpAny_onRaise ?_));show wpAny _ _ (nextOf (.ref i1)>>=_) _ _ _;have q1:S1 k t1:=N1.keep _ _ _ h1 (fun o e=>zX.extBut _ _ D.i1z e) fun o e=>zX.extBut _ _ D.l1z e;refine wpAny_bind (N1.item k _ _ _ x q1 hx fun t2 q2 zY=>wpAny_pure ?_);have p2:IsPair t2 TO a b:=zY.extBut _ _ D.TOi1 (zX.extBut _ _ D.TOz hTO);refine wpAny_bind (wpAny_seqItems p2 rfl (wpAny_bind (wpAny_updateSeq_pair p2 fun t3 p3 zZ=>?_)));have p3:IsPair t3 TO x b:=p3;refine wpAny_bind (wpAny_letGo (wpAny_pure (wpAny_bind (wpAny_bind (wpAny_onRaise ?_)))));show wpAny _ _ (nextOf (.ref i2)>>=_) _ _ _;have w3:S2 k t3:=N2.keep _ _ _ h2 (fun o e=>zZ.extBut _ _ D.TOi2.symm (zY.extBut _ _ D.i12.symm (zX.extBut _ _ D.i2z e))) fun o e=>zZ.extBut _ _ D.l2TO (zY.extBut _ _ D.l2i1 (zX.extBut _ _ D.l2z e));refine wpAny_bind (N2.item k _ _ _ y w3 hy fun t4 w4 NQ=>wpAny_pure ?_);have p4:IsPair t4 TO x b:=NQ.extBut _ _ D.TOi2 p3;refine wpAny_bind (wpAny_seqItems p4 rfl (wpAny_bind (wpAny_updateSeq_pair p4 fun t5 p5 Kl=>?_)));have p5:IsPair t5 TO x y:=p5;refine wpAny_bind (wpAny_letGo (wpAny_pure (wpAny_pure (wpAny_bind (wpAny_seqItems p5 rfl (wpAny_bind (wpAny_newTuple ?_)))))));have hsz:t5.objs.size=s.heap.objs.size:=by rw[Kl.1,NQ.1,zZ.1,zY.1,zX.1]
 have z5:IsZip t5 z TI TO .ellipsis:=Kl.extBut _ _ D.TOz.symm (NQ.extBut _ _ D.i2z.symm (zZ.extBut _ _ D.TOz.symm (zY.extBut _ _ D.i1z.symm z1)));have kp:∀c o,c≠z->c≠TO->c≠i1->c≠i2->s.heap.get? c=some o->t5.get? c=some o:=fun c o c1 c2 c3 c4 e=>Kl.extBut _ _ c2 (NQ.extBut _ _ c4 (zZ.extBut _ _ c2 (zY.extBut _ _ c3 (zX.extBut _ _ c1 e))));have q5:S1 (k+1) t5:=N1.keep _ _ _ q2 (fun o e=>Kl.extBut _ _ D.TOi1.symm (NQ.extBut _ _ D.i12 (zZ.extBut _ _ D.TOi1.symm e))) fun o e=>Kl.extBut _ _ D.l1TO (NQ.extBut _ _ D.l1i2 (zZ.extBut _ _ D.l1TO e));have w5:S2 (k+1) t5:=N2.keep _ _ _ w4 (fun o e=>Kl.extBut _ _ D.TOi2.symm e) fun o e=>Kl.extBut _ _ D.l2TO e;have zlt:z<t5.objs.size:=lt_size z5;show wpAny _ _ (ownedTupleHandOut (.ref z) (.ref t5.objs.size)>>=_) _ _ _;refine wpAny_bind ?_;unfold ownedTupleHandOut;have z6:IsZip (t5.push {cls:=.type "tuple",data:=.seq #[x,y]}) z TI TO .ellipsis:=dw z5;refine wpAny_bind (wpAny_setField_rec z6 (by simp) fun t7 z7 sb7=>?_);have z7:IsZip t7 z TI TO (rawInt t5.objs.size):=z7;refine wpAny_setField_rec z7 (by simp) fun t8 z8 sb8=>?_;have z8:IsZip t8 z TI TO (rawInt t5.objs.size):=z8;have up:∀c o,c≠z->t5.get? c=some o->t8.get? c=some o:=fun c o c1 e=>sb8.extBut _ _ c1 (sb7.extBut _ _ c1 (dw e));have T8:IsPair t8 t5.objs.size x y:=sb8.extBut _ _ (ne_of_gt zlt) (sb7.extBut _ _ (ne_of_gt zlt) (get?_push_size _ rfl));have n8:t8.objs.size=t5.objs.size+1:=by rw[sb8.1,sb7.1,size_push]
 rw[hsz]at z8 T8 n8;refine wpAny_pure ⟨_,rfl,?_⟩;show Q (.ref t5.objs.size) _;rw[hsz];exact hQ t8 z8 (up _ _ D.TOz p5) (N1.keep _ _ _ q5 (fun o e=>up _ o D.i1z e) fun o e=>up _ o D.l1z e) (N2.keep _ _ _ w5 (fun o e=>up _ o D.i2z e) fun o e=>up _ o D.l2z e) T8 n8 fun c o c1 c2 c3 c4 e=>up c o c1 (kp c o c1 c2 c3 c4 e)
theorem Hn{Q:Fin->Shared->Prop}(D:ZipApart z TI TO i1 i2 l1 l2)(N1:Nx prog w A i1 l1 S1 g1)(N2:Nx prog w A i2 l2 S2 g2)(hz:IsZip s.heap z TI TO .none)(hTI:IsPair s.heap TI (.ref i1) (.ref i2))(hTO:IsPair s.heap TO a b)(h1:S1 k s.heap)(h2:S2 k s.heap)(hend:g1 k=none\/g2 k=none)(hE:∀h' e,(∀c o,c≠z->c≠TO->c≠i1->c≠i2->s.heap.get? c=some o->h'.get? c=some o)->(∃o,h'.get? e=some o/\o.cls=.type "StopIteration")->E (.ref e) {s with heap:=h'}):wpAny (model prog w) A (Builtin.«zip.__next__» ⟨[.ref z],[]⟩) Q E s:=by
 show wpAny _ _ (field (.ref z) 2>>=_) _ _ _;refine wpAny_bind (wpAny_field hz rfl (x:=.bool false) rfl ?_);show wpAny _ _ (field (.ref z) 3>>=_) _ _ _;refine wpAny_bind (wpAny_field hz rfl (x:=.ref TI) rfl (wpAny_bind (wpAny_seqItems hTI rfl ?_)));show wpAny _ _ (ownedTupleIsFree (.ref z)>>=_) _ _ _;refine wpAny_bind ?_;unfold ownedTupleIsFree;refine wpAny_bind (wpAny_field hz rfl (x:=.none) rfl (wpAny_pure ?_));simp only[if_true];refine wpAny_bind (wpAny_rule (wpAny_bind (wpAny_field hz rfl (x:=.ref TO) rfl (wpAny_bind (wpAny_setField_rec hz (by simp) fun t1 z1 zX=>?_)))));have z1:IsZip t1 z TI TO .ellipsis:=z1;refine wpAny_bind ?_;simp only[List.zipIdx_cons,List.zipIdx_nil,forIn_cons,forIn_nil];refine wpAny_bind (wpAny_bind (wpAny_onRaise ?_))
 show wpAny _ _ (nextOf (.ref i1)>>=_) _ _ _;have q1:S1 k t1:=N1.keep _ _ _ h1 (fun o e=>zX.extBut _ _ D.i1z e) fun o e=>zX.extBut _ _ D.l1z e;cases hx:g1 k with|none=>
   refine wpAny_bind (N1.fin k _ _ _ q1 hx fun t2 e zY he=>?_);obtain⟨oe,hoe,hce⟩:=he;have z2:IsZip t2 z TI TO .ellipsis:=zY _ _ D.i1z.symm z1;have hez:e≠z:=fun x=>by subst x;rw[z2]at hoe;cases hoe;simp at hce
   exact wpAny_setField_rec z2 (by simp) fun t3 _ zZ=>hE t3 e (fun c o c1 _ c3 _ x=>zZ.extBut _ _ c1 (zY _ _ c3 (zX.extBut _ _ c1 x))) ⟨oe,zZ.extBut _ _ hez hoe,hce⟩|some x=>
   have hy:g2 k=none:=by rcases hend with h|h;rw[hx]at h;cases h;exact h
   refine wpAny_bind (N1.item k _ _ _ x q1 hx fun t2 q2 zY=>wpAny_pure ?_);have p2:IsPair t2 TO a b:=zY.extBut _ _ D.TOi1 (zX.extBut _ _ D.TOz hTO);refine wpAny_bind (wpAny_seqItems p2 rfl (wpAny_bind (wpAny_updateSeq_pair p2 fun t3 p3 zZ=>?_)));refine wpAny_bind (wpAny_letGo (wpAny_pure (wpAny_bind (wpAny_bind (wpAny_onRaise ?_)))));show wpAny _ _ (nextOf (.ref i2)>>=_) _ _ _;have w3:S2 k t3:=N2.keep _ _ _ h2 (fun o e=>zZ.extBut _ _ D.TOi2.symm (zY.extBut _ _ D.i12.symm (zX.extBut _ _ D.i2z e))) fun o e=>zZ.extBut _ _ D.l2TO (zY.extBut _ _ D.l2i1 (zX.extBut _ _ D.l2z e));refine wpAny_bind (N2.fin k _ _ _ w3 hy fun t4 e NQ he=>?_);obtain⟨oe,hoe,hce⟩:=he;have z4:IsZip t4 z TI TO .ellipsis:=NQ _ _ D.i2z.symm (zZ.extBut _ _ D.TOz.symm (zY.extBut _ _ D.i1z.symm z1));have hez:e≠z:=fun x=>by subst x;rw[z4]at hoe;cases hoe;simp at hce
   exact wpAny_setField_rec z4 (by simp) fun t5 _ Kl=>hE t5 e (fun c o c1 c2 c3 c4 x=>Kl.extBut _ _ c1 (NQ _ _ c4 (zZ.extBut _ _ c2 (zY.extBut _ _ c3 (zX.extBut _ _ c1 x))))) ⟨oe,Kl.extBut _ _ hez hoe,hce⟩
theorem oA{x y:Value}{Q:Option Value->Shared->Prop}(D:ZipApart z TI TO i1 i2 l1 l2)(N1:Nx prog w A.in1 i1 l1 S1 g1)(N2:Nx prog w A.in1 i2 l2 S2 g2)(hz:IsZip s.heap z TI TO .none)(hTI:IsPair s.heap TI (.ref i1) (.ref i2))(hTO:IsPair s.heap TO a b)(h1:S1 k s.heap)(h2:S2 k s.heap)(hx:g1 k=some x)(hy:g2 k=some y)(hQ:∀ h',IsZip h' z TI TO (rawInt s.heap.objs.size)->IsPair h' TO x y->S1 (k+1) h'->S2 (k+1) h'->IsPair h' s.heap.objs.size x y->h'.objs.size=s.heap.objs.size+1->(∀c o,c≠z->c≠TO->c≠i1->c≠i2->s.heap.get? c=some o->h'.get? c=some o)->Q (some (.ref s.heap.objs.size)) {s with heap:=h'}):wpAny (model prog w) A (pyNext (.ref z)) Q E s:=by have hT:s.TypeIs (.ref z) "zip":=⟨_,hz,rfl⟩;unfold pyNext;exact wpAny_bind (wpAny_attempt (wpAny_callSpecial?_slot (name:=Str.ofString "__next__") hT F.slot_zip_next (wpAny_call_entry F.slot_zip_next hT F.entry_zip_next (Dg D N1 N2 hz hTI hTO h1 h2 hx hy fun h' a1 a2 a3 a4 a5 a6 a7=>wpAny_pure (hQ h' a1 a2 a3 a4 a5 a6 a7)) (F.args_zip_next_1 _))))
theorem oY{Q:Option Value->Shared->Prop}(D:ZipApart z TI TO i1 i2 l1 l2)(N1:Nx prog w A.in1 i1 l1 S1 g1)(N2:Nx prog w A.in1 i2 l2 S2 g2)(hz:IsZip s.heap z TI TO .none)(hTI:IsPair s.heap TI (.ref i1) (.ref i2))(hTO:IsPair s.heap TO a b)(h1:S1 k s.heap)(h2:S2 k s.heap)(hend:g1 k=none\/g2 k=none)(hQ:∀h',(∀c o,c≠z->c≠TO->c≠i1->c≠i2->s.heap.get? c=some o->h'.get? c=some o)->Q none {s with heap:=h'}):wpAny (model prog w) A (pyNext (.ref z)) Q E s:=by have hT:s.TypeIs (.ref z) "zip":=⟨_,hz,rfl⟩;unfold pyNext;refine wpAny_bind (wpAny_attempt (wpAny_callSpecial?_slot (name:=Str.ofString "__next__") hT F.slot_zip_next (wpAny_call_entry F.slot_zip_next hT F.entry_zip_next (Hn D N1 N2 hz hTI hTO h1 h2 hend fun h' e hk he=>?_) (F.args_zip_next_1 _))));obtain⟨o,ho,hc⟩:=he;exact wpAny_bind (wpAny_isInstance (T:="StopIteration") (b:=true) ⟨o,ho,hc⟩ isSubtype_stop (wpAny_pure (hQ _ hk)))
end
theorem o4(l1 l2:Addr)(xs ys:Array Value):Meets (Builtin.«zip.__new__» ⟨[.type "zip",.ref l1,.ref l2],[]⟩) (fun _ R s=>s.heap.IsList l1 xs/\s.heap.IsList l2 ys/\R (.ok (.ret (.ref (s.heap.objs.size+4)))) {s with heap:=((((s.heap.push {cls:=.type "list_iterator",data:=.fields #[.ref l1,.int 0 0]}).push {cls:=.type "list_iterator",data:=.fields #[.ref l2,.int 0 0]}).push {cls:=.type "tuple",data:=.seq #[.ref s.heap.objs.size,.ref (s.heap.objs.size+1)]}).push {cls:=.type "tuple",data:=.seq #[.none,.none]}).push {cls:=.type "zip",data:=.fields #[.none,.bool false,.bool false,.ref (s.heap.objs.size+2),.ref (s.heap.objs.size+3)]}}):=.of_wp fun prog w A R s h=>by obtain⟨hp,g,d,tk,os⟩:=s;obtain⟨hl1,hl2,h⟩:=h;have hsub:=sub_zip;have hL1:IsList (Shared.heap ⟨hp,g,d,tk,os⟩) l1 xs:=hl1;have hL2:IsList (Shared.heap ⟨hp.push {cls:=.type "list_iterator",data:=.fields #[.ref l1,.int 0 0]},g,d,tk,os⟩) l2 ys:=Heap.IsList.push hl2 _;wp_walk using wpAny_pyIter_list hL1,wpAny_pyIter_list hL2;simp only[size_push]at*;exact⟨_,rfl,h⟩
section
variable{prog:Program}{w:World}{A:Around}{E:Value->Shared->Prop}{s:Shared}
theorem zF(hl1:s.heap.IsList l1 xs)(hl2:s.heap.IsList l2 ys)(h:∀ h',IsZip h' (s.heap.objs.size+4) (s.heap.objs.size+2) (s.heap.objs.size+3) .none->IsPair h' (s.heap.objs.size+2) (.ref s.heap.objs.size) (.ref (s.heap.objs.size+1))->IsPair h' (s.heap.objs.size+3) .none .none->h'.IsListIter s.heap.objs.size l1 0->h'.IsListIter (s.heap.objs.size+1) l2 0->(∀c o,s.heap.get? c=some o->h'.get? c=some o)->Q (.ref (s.heap.objs.size+4)) {s with heap:=h'}):wpAny (model prog w) A (call (.type "zip") [.ref l1,.ref l2]) Q E s:=by
 refine callType_new F.called_zip (by decide) (F.typeCall_zip_2 _ _) (F.newCall_zip_2 _ _) (fun obj=>F.args_object_init_3 obj _ _) F.entry_zip_new (o4 l1 l2 xs ys) ⟨hl1,hl2,?_⟩;generalize e1:s.heap.push {cls:=.type "list_iterator",data:=.fields #[.ref l1,.int 0 0]}=t1;have n1:t1.objs.size=s.heap.objs.size+1:=by rw[<-e1,size_push]
 have a1:t1.get? s.heap.objs.size=some {cls:=.type "list_iterator",data:=.fields #[.ref l1,.int 0 0]}:=by rw[<-e1];exact get?_push_size _ rfl
 have k1:∀c o,s.heap.get? c=some o->t1.get? c=some o:=fun c o e=>by rw[<-e1];exact dw e
 generalize e2:t1.push {cls:=.type "list_iterator",data:=.fields #[.ref l2,.int 0 0]}=t2;have n2:t2.objs.size=s.heap.objs.size+2:=by rw[<-e2,size_push,n1]
 have a2:t2.get? (s.heap.objs.size+1)=some {cls:=.type "list_iterator",data:=.fields #[.ref l2,.int 0 0]}:=by rw[<-n1,<-e2];exact get?_push_size _ rfl
 have k2:∀c o,t1.get? c=some o->t2.get? c=some o:=fun c o e=>by rw[<-e2];exact dw e
 generalize e3:t2.push {cls:=.type "tuple",data:=.seq #[.ref s.heap.objs.size,.ref (s.heap.objs.size+1)]}=t3;have n3:t3.objs.size=s.heap.objs.size+3:=by rw[<-e3,size_push,n2]
 have a3:t3.get? (s.heap.objs.size+2)=some {cls:=.type "tuple",data:=.seq #[.ref s.heap.objs.size,.ref (s.heap.objs.size+1)]}:=by rw[<-n2,<-e3];exact get?_push_size _ rfl
 have k3:∀c o,t2.get? c=some o->t3.get? c=some o:=fun c o e=>by rw[<-e3];exact dw e
 generalize e4:t3.push {cls:=.type "tuple",data:=.seq #[.none,.none]}=t4;have n4:t4.objs.size=s.heap.objs.size+4:=by rw[<-e4,size_push,n3]
 have a4:t4.get? (s.heap.objs.size+3)=some {cls:=.type "tuple",data:=.seq #[.none,.none]}:=by rw[<-n3,<-e4];exact get?_push_size _ rfl
 have k4:∀c o,t3.get? c=some o->t4.get? c=some o:=fun c o e=>by rw[<-e4];exact dw e
 generalize e5:t4.push {cls:=.type "zip",data:=.fields #[.none,.bool false,.bool false,.ref (s.heap.objs.size+2),.ref (s.heap.objs.size+3)]}=t5;have a5:t5.get? (s.heap.objs.size+4)=some {cls:=.type "zip",data:=.fields #[.none,.bool false,.bool false,.ref (s.heap.objs.size+2),.ref (s.heap.objs.size+3)]}:=by rw[<-n4,<-e5];exact get?_push_size _ rfl
 have k5:∀c o,t4.get? c=some o->t5.get? c=some o:=fun c o e=>by rw[<-e5];exact dw e
 exact⟨⟨_,a5,rfl⟩,h t5 a5 (k5 _ _ (k4 _ _ a3)) (k5 _ _ a4) ⟨_,k5 _ _ (k4 _ _ (k3 _ _ (k2 _ _ a1))),rfl,rfl⟩ ⟨_,k5 _ _ (k4 _ _ (k3 _ _ a2)),rfl,rfl⟩ fun c o e=>k5 _ _ (k4 _ _ (k3 _ _ (k2 _ _ (k1 _ _ e))))⟩
end
theorem oU(l1 l2:Addr)(xs ys:Array Value):Meets (Builtin.«zip.__new__» ⟨[.type "zip",.ref l1,.ref l2],[]⟩) (fun _ R s=>s.heap.IsList l1 xs/\s.heap.IsTuple l2 ys/\R (.ok (.ret (.ref (s.heap.objs.size+4)))) {s with heap:=((((s.heap.push {cls:=.type "list_iterator",data:=.fields #[.ref l1,.int 0 0]}).push {cls:=.type "tuple_iterator",data:=.fields #[.ref l2,.int 0 0]}).push {cls:=.type "tuple",data:=.seq #[.ref s.heap.objs.size,.ref (s.heap.objs.size+1)]}).push {cls:=.type "tuple",data:=.seq #[.none,.none]}).push {cls:=.type "zip",data:=.fields #[.none,.bool false,.bool false,.ref (s.heap.objs.size+2),.ref (s.heap.objs.size+3)]}}):=.of_wp fun prog w A R s h=>by obtain⟨hp,g,d,tk,os⟩:=s;obtain⟨hl1,hl2,h⟩:=h;have hsub:=sub_zip;have hL1:IsList (Shared.heap ⟨hp,g,d,tk,os⟩) l1 xs:=hl1;have hL2:IsTuple (Shared.heap ⟨hp.push {cls:=.type "list_iterator",data:=.fields #[.ref l1,.int 0 0]},g,d,tk,os⟩) l2 ys:=Heap.IsTuple.push hl2 _;wp_walk using wpAny_pyIter_list hL1,wpAny_pyIter_tuple hL2;simp only[size_push]at*;exact⟨_,rfl,h⟩
section
variable{prog:Program}{w:World}{A:Around}{E:Value->Shared->Prop}{s:Shared}
theorem yr(hl1:s.heap.IsList l1 xs)(hl2:s.heap.IsTuple l2 ys)(h:∀ h',IsZip h' (s.heap.objs.size+4) (s.heap.objs.size+2) (s.heap.objs.size+3) .none->IsPair h' (s.heap.objs.size+2) (.ref s.heap.objs.size) (.ref (s.heap.objs.size+1))->IsPair h' (s.heap.objs.size+3) .none .none->h'.IsListIter s.heap.objs.size l1 0->h'.IsTupleIter (s.heap.objs.size+1) l2 0->(∀c o,s.heap.get? c=some o->h'.get? c=some o)->Q (.ref (s.heap.objs.size+4)) {s with heap:=h'}):wpAny (model prog w) A (call (.type "zip") [.ref l1,.ref l2]) Q E s:=by
 refine callType_new F.called_zip (by decide) (F.typeCall_zip_2 _ _) (F.newCall_zip_2 _ _) (fun obj=>F.args_object_init_3 obj _ _) F.entry_zip_new (oU l1 l2 xs ys) ⟨hl1,hl2,?_⟩;generalize e1:s.heap.push {cls:=.type "list_iterator",data:=.fields #[.ref l1,.int 0 0]}=t1;have n1:t1.objs.size=s.heap.objs.size+1:=by rw[<-e1,size_push]
 have a1:t1.get? s.heap.objs.size=some {cls:=.type "list_iterator",data:=.fields #[.ref l1,.int 0 0]}:=by rw[<-e1];exact get?_push_size _ rfl
 have k1:∀c o,s.heap.get? c=some o->t1.get? c=some o:=fun c o e=>by rw[<-e1];exact dw e
 generalize e2:t1.push {cls:=.type "tuple_iterator",data:=.fields #[.ref l2,.int 0 0]}=t2;have n2:t2.objs.size=s.heap.objs.size+2:=by rw[<-e2,size_push,n1]
 have a2:t2.get? (s.heap.objs.size+1)=some {cls:=.type "tuple_iterator",data:=.fields #[.ref l2,.int 0 0]}:=by rw[<-n1,<-e2];exact get?_push_size _ rfl
 have k2:∀c o,t1.get? c=some o->t2.get? c=some o:=fun c o e=>by rw[<-e2];exact dw e
 generalize e3:t2.push {cls:=.type "tuple",data:=.seq #[.ref s.heap.objs.size,.ref (s.heap.objs.size+1)]}=t3;have n3:t3.objs.size=s.heap.objs.size+3:=by rw[<-e3,size_push,n2]
 have a3:t3.get? (s.heap.objs.size+2)=some {cls:=.type "tuple",data:=.seq #[.ref s.heap.objs.size,.ref (s.heap.objs.size+1)]}:=by rw[<-n2,<-e3];exact get?_push_size _ rfl
 have k3:∀c o,t2.get? c=some o->t3.get? c=some o:=fun c o e=>by rw[<-e3];exact dw e
 generalize e4:t3.push {cls:=.type "tuple",data:=.seq #[.none,.none]}=t4;have n4:t4.objs.size=s.heap.objs.size+4:=by rw[<-e4,size_push,n3]
 have a4:t4.get? (s.heap.objs.size+3)=some {cls:=.type "tuple",data:=.seq #[.none,.none]}:=by rw[<-n3,<-e4];exact get?_push_size _ rfl
 have k4:∀c o,t3.get? c=some o->t4.get? c=some o:=fun c o e=>by rw[<-e4];exact dw e
 generalize e5:t4.push {cls:=.type "zip",data:=.fields #[.none,.bool false,.bool false,.ref (s.heap.objs.size+2),.ref (s.heap.objs.size+3)]}=t5;have a5:t5.get? (s.heap.objs.size+4)=some {cls:=.type "zip",data:=.fields #[.none,.bool false,.bool false,.ref (s.heap.objs.size+2),.ref (s.heap.objs.size+3)]}:=by rw[<-n4,<-e5];exact get?_push_size _ rfl
 have k5:∀c o,t4.get? c=some o->t5.get? c=some o:=fun c o e=>by rw[<-e5];exact dw e
 exact⟨⟨_,a5,rfl⟩,h t5 a5 (k5 _ _ (k4 _ _ a3)) (k5 _ _ a4) ⟨_,k5 _ _ (k4 _ _ (k3 _ _ (k2 _ _ a1))),rfl,rfl⟩ ⟨_,k5 _ _ (k4 _ _ (k3 _ _ a2)),rfl,rfl⟩ fun c o e=>k5 _ _ (k4 _ _ (k3 _ _ (k2 _ _ (k1 _ _ e))))⟩
end
theorem o7(l1 l2:Addr)(xs ys:Array Value):Meets (Builtin.«zip.__new__» ⟨[.type "zip",.ref l1,.ref l2],[]⟩) (fun _ R s=>s.heap.IsTuple l1 xs/\s.heap.IsList l2 ys/\R (.ok (.ret (.ref (s.heap.objs.size+4)))) {s with heap:=((((s.heap.push {cls:=.type "tuple_iterator",data:=.fields #[.ref l1,.int 0 0]}).push {cls:=.type "list_iterator",data:=.fields #[.ref l2,.int 0 0]}).push {cls:=.type "tuple",data:=.seq #[.ref s.heap.objs.size,.ref (s.heap.objs.size+1)]}).push {cls:=.type "tuple",data:=.seq #[.none,.none]}).push {cls:=.type "zip",data:=.fields #[.none,.bool false,.bool false,.ref (s.heap.objs.size+2),.ref (s.heap.objs.size+3)]}}):=.of_wp fun prog w A R s h=>by obtain⟨hp,g,d,tk,os⟩:=s;obtain⟨hl1,hl2,h⟩:=h;have hsub:=sub_zip;have hL1:IsTuple (Shared.heap ⟨hp,g,d,tk,os⟩) l1 xs:=hl1;have hL2:IsList (Shared.heap ⟨hp.push {cls:=.type "tuple_iterator",data:=.fields #[.ref l1,.int 0 0]},g,d,tk,os⟩) l2 ys:=Heap.IsList.push hl2 _;wp_walk using wpAny_pyIter_tuple hL1,wpAny_pyIter_list hL2;simp only[size_push]at*;exact⟨_,rfl,h⟩
section
variable{prog:Program}{w:World}{A:Around}{E:Value->Shared->Prop}{s:Shared}
theorem zA(hl1:s.heap.IsTuple l1 xs)(hl2:s.heap.IsList l2 ys)(h:∀ h',IsZip h' (s.heap.objs.size+4) (s.heap.objs.size+2) (s.heap.objs.size+3) .none->IsPair h' (s.heap.objs.size+2) (.ref s.heap.objs.size) (.ref (s.heap.objs.size+1))->IsPair h' (s.heap.objs.size+3) .none .none->h'.IsTupleIter s.heap.objs.size l1 0->h'.IsListIter (s.heap.objs.size+1) l2 0->(∀c o,s.heap.get? c=some o->h'.get? c=some o)->Q (.ref (s.heap.objs.size+4)) {s with heap:=h'}):wpAny (model prog w) A (call (.type "zip") [.ref l1,.ref l2]) Q E s:=by
 refine callType_new F.called_zip (by decide) (F.typeCall_zip_2 _ _) (F.newCall_zip_2 _ _) (fun obj=>F.args_object_init_3 obj _ _) F.entry_zip_new (o7 l1 l2 xs ys) ⟨hl1,hl2,?_⟩;generalize e1:s.heap.push {cls:=.type "tuple_iterator",data:=.fields #[.ref l1,.int 0 0]}=t1;have n1:t1.objs.size=s.heap.objs.size+1:=by rw[<-e1,size_push]
 have a1:t1.get? s.heap.objs.size=some {cls:=.type "tuple_iterator",data:=.fields #[.ref l1,.int 0 0]}:=by rw[<-e1];exact get?_push_size _ rfl
 have k1:∀c o,s.heap.get? c=some o->t1.get? c=some o:=fun c o e=>by rw[<-e1];exact dw e
 generalize e2:t1.push {cls:=.type "list_iterator",data:=.fields #[.ref l2,.int 0 0]}=t2;have n2:t2.objs.size=s.heap.objs.size+2:=by rw[<-e2,size_push,n1]
 have a2:t2.get? (s.heap.objs.size+1)=some {cls:=.type "list_iterator",data:=.fields #[.ref l2,.int 0 0]}:=by rw[<-n1,<-e2];exact get?_push_size _ rfl
 have k2:∀c o,t1.get? c=some o->t2.get? c=some o:=fun c o e=>by rw[<-e2];exact dw e
 generalize e3:t2.push {cls:=.type "tuple",data:=.seq #[.ref s.heap.objs.size,.ref (s.heap.objs.size+1)]}=t3;have n3:t3.objs.size=s.heap.objs.size+3:=by rw[<-e3,size_push,n2]
 have a3:t3.get? (s.heap.objs.size+2)=some {cls:=.type "tuple",data:=.seq #[.ref s.heap.objs.size,.ref (s.heap.objs.size+1)]}:=by rw[<-n2,<-e3];exact get?_push_size _ rfl
 have k3:∀c o,t2.get? c=some o->t3.get? c=some o:=fun c o e=>by rw[<-e3];exact dw e
 generalize e4:t3.push {cls:=.type "tuple",data:=.seq #[.none,.none]}=t4;have n4:t4.objs.size=s.heap.objs.size+4:=by rw[<-e4,size_push,n3]
 have a4:t4.get? (s.heap.objs.size+3)=some {cls:=.type "tuple",data:=.seq #[.none,.none]}:=by rw[<-n3,<-e4];exact get?_push_size _ rfl
 have k4:∀c o,t3.get? c=some o->t4.get? c=some o:=fun c o e=>by rw[<-e4];exact dw e
 generalize e5:t4.push {cls:=.type "zip",data:=.fields #[.none,.bool false,.bool false,.ref (s.heap.objs.size+2),.ref (s.heap.objs.size+3)]}=t5;have a5:t5.get? (s.heap.objs.size+4)=some {cls:=.type "zip",data:=.fields #[.none,.bool false,.bool false,.ref (s.heap.objs.size+2),.ref (s.heap.objs.size+3)]}:=by rw[<-n4,<-e5];exact get?_push_size _ rfl
 have k5:∀c o,t4.get? c=some o->t5.get? c=some o:=fun c o e=>by rw[<-e5];exact dw e
 exact⟨⟨_,a5,rfl⟩,h t5 a5 (k5 _ _ (k4 _ _ a3)) (k5 _ _ a4) ⟨_,k5 _ _ (k4 _ _ (k3 _ _ (k2 _ _ a1))),rfl,rfl⟩ ⟨_,k5 _ _ (k4 _ _ (k3 _ _ a2)),rfl,rfl⟩ fun c o e=>k5 _ _ (k4 _ _ (k3 _ _ (k2 _ _ (k1 _ _ e))))⟩
end
theorem oW(l1 l2:Addr)(xs ys:Array Value):Meets (Builtin.«zip.__new__» ⟨[.type "zip",.ref l1,.ref l2],[]⟩) (fun _ R s=>s.heap.IsTuple l1 xs/\s.heap.IsTuple l2 ys/\R (.ok (.ret (.ref (s.heap.objs.size+4)))) {s with heap:=((((s.heap.push {cls:=.type "tuple_iterator",data:=.fields #[.ref l1,.int 0 0]}).push {cls:=.type "tuple_iterator",data:=.fields #[.ref l2,.int 0 0]}).push {cls:=.type "tuple",data:=.seq #[.ref s.heap.objs.size,.ref (s.heap.objs.size+1)]}).push {cls:=.type "tuple",data:=.seq #[.none,.none]}).push {cls:=.type "zip",data:=.fields #[.none,.bool false,.bool false,.ref (s.heap.objs.size+2),.ref (s.heap.objs.size+3)]}}):=.of_wp fun prog w A R s h=>by obtain⟨hp,g,d,tk,os⟩:=s;obtain⟨hl1,hl2,h⟩:=h;have hsub:=sub_zip;have hL1:IsTuple (Shared.heap ⟨hp,g,d,tk,os⟩) l1 xs:=hl1;have hL2:IsTuple (Shared.heap ⟨hp.push {cls:=.type "tuple_iterator",data:=.fields #[.ref l1,.int 0 0]},g,d,tk,os⟩) l2 ys:=Heap.IsTuple.push hl2 _;wp_walk using wpAny_pyIter_tuple hL1,wpAny_pyIter_tuple hL2;simp only[size_push]at*;exact⟨_,rfl,h⟩
section
variable{prog:Program}{w:World}{A:Around}{E:Value->Shared->Prop}{s:Shared}
theorem yS(hl1:s.heap.IsTuple l1 xs)(hl2:s.heap.IsTuple l2 ys)(h:∀ h',IsZip h' (s.heap.objs.size+4) (s.heap.objs.size+2) (s.heap.objs.size+3) .none->IsPair h' (s.heap.objs.size+2) (.ref s.heap.objs.size) (.ref (s.heap.objs.size+1))->IsPair h' (s.heap.objs.size+3) .none .none->h'.IsTupleIter s.heap.objs.size l1 0->h'.IsTupleIter (s.heap.objs.size+1) l2 0->(∀c o,s.heap.get? c=some o->h'.get? c=some o)->Q (.ref (s.heap.objs.size+4)) {s with heap:=h'}):wpAny (model prog w) A (call (.type "zip") [.ref l1,.ref l2]) Q E s:=by
 refine callType_new F.called_zip (by decide) (F.typeCall_zip_2 _ _) (F.newCall_zip_2 _ _) (fun obj=>F.args_object_init_3 obj _ _) F.entry_zip_new (oW l1 l2 xs ys) ⟨hl1,hl2,?_⟩;generalize e1:s.heap.push {cls:=.type "tuple_iterator",data:=.fields #[.ref l1,.int 0 0]}=t1;have n1:t1.objs.size=s.heap.objs.size+1:=by rw[<-e1,size_push]
 have a1:t1.get? s.heap.objs.size=some {cls:=.type "tuple_iterator",data:=.fields #[.ref l1,.int 0 0]}:=by rw[<-e1];exact get?_push_size _ rfl
 have k1:∀c o,s.heap.get? c=some o->t1.get? c=some o:=fun c o e=>by rw[<-e1];exact dw e
 generalize e2:t1.push {cls:=.type "tuple_iterator",data:=.fields #[.ref l2,.int 0 0]}=t2;have n2:t2.objs.size=s.heap.objs.size+2:=by rw[<-e2,size_push,n1]
 have a2:t2.get? (s.heap.objs.size+1)=some {cls:=.type "tuple_iterator",data:=.fields #[.ref l2,.int 0 0]}:=by rw[<-n1,<-e2];exact get?_push_size _ rfl
 have k2:∀c o,t1.get? c=some o->t2.get? c=some o:=fun c o e=>by rw[<-e2];exact dw e
 generalize e3:t2.push {cls:=.type "tuple",data:=.seq #[.ref s.heap.objs.size,.ref (s.heap.objs.size+1)]}=t3;have n3:t3.objs.size=s.heap.objs.size+3:=by rw[<-e3,size_push,n2]
 have a3:t3.get? (s.heap.objs.size+2)=some {cls:=.type "tuple",data:=.seq #[.ref s.heap.objs.size,.ref (s.heap.objs.size+1)]}:=by rw[<-n2,<-e3];exact get?_push_size _ rfl
 have k3:∀c o,t2.get? c=some o->t3.get? c=some o:=fun c o e=>by rw[<-e3];exact dw e
 generalize e4:t3.push {cls:=.type "tuple",data:=.seq #[.none,.none]}=t4;have n4:t4.objs.size=s.heap.objs.size+4:=by rw[<-e4,size_push,n3]
 have a4:t4.get? (s.heap.objs.size+3)=some {cls:=.type "tuple",data:=.seq #[.none,.none]}:=by rw[<-n3,<-e4];exact get?_push_size _ rfl
 have k4:∀c o,t3.get? c=some o->t4.get? c=some o:=fun c o e=>by rw[<-e4];exact dw e
 generalize e5:t4.push {cls:=.type "zip",data:=.fields #[.none,.bool false,.bool false,.ref (s.heap.objs.size+2),.ref (s.heap.objs.size+3)]}=t5;have a5:t5.get? (s.heap.objs.size+4)=some {cls:=.type "zip",data:=.fields #[.none,.bool false,.bool false,.ref (s.heap.objs.size+2),.ref (s.heap.objs.size+3)]}:=by rw[<-n4,<-e5];exact get?_push_size _ rfl
 have k5:∀c o,t4.get? c=some o->t5.get? c=some o:=fun c o e=>by rw[<-e5];exact dw e
 exact⟨⟨_,a5,rfl⟩,h t5 a5 (k5 _ _ (k4 _ _ a3)) (k5 _ _ a4) ⟨_,k5 _ _ (k4 _ _ (k3 _ _ (k2 _ _ a1))),rfl,rfl⟩ ⟨_,k5 _ _ (k4 _ _ (k3 _ _ a2)),rfl,rfl⟩ fun c o e=>k5 _ _ (k4 _ _ (k3 _ _ (k2 _ _ (k1 _ _ e))))⟩
end
end PySem
end
section
namespace L2
open PySem PySem.Spec PyProof.Rows
variable{t:Bool}{a:Addr}
def Sq(t:Bool)(K:PySem.W.Frag)(H:Hp)(a:Addr)(xs:List V):Prop:=if t then iT K H a xs else dF K H a xs
def T6(t:Bool)(h:Heap)(a:Addr)(xs:Array Value):Prop:=if t then h.IsTuple a xs else h.IsList a xs
def Ff(t:Bool)(h:Heap)(i a:Addr)(k:Nat):Prop:=if t then h.IsTupleIter i a k else h.IsListIter i a k
section
variable{X:Cx}{pins:List (Addr×Obj)}{σ:L2.St}{H:Hp}{s:Shared}
theorem Inv.sq{xs:List V}(I:Inv X pins σ H s)(h:Sq t X.K H a xs):∃its:List Value,Vals xs its/\T6 t s.heap a its.toArray:=by cases t with|true=>obtain⟨its,rv,pl,_⟩:=I.tuple h;exact⟨its,rv,pl⟩|false=>obtain⟨its,rv,pl,_⟩:=I.list h;exact⟨its,rv,pl.isList⟩
theorem Inv.G3{xs ys:List V}(I:Inv X pins σ H s)(h:Sq t X.K H a xs)(h':Sq t X.K H a ys):xs=ys:=by cases t with|true=>exact I.jZ h h'|false=>exact I.lN h h'
theorem T6.lt{h:Heap}{xs:Array Value}(q:T6 t h a xs):a<h.objs.size:=by cases t with|true=>obtain⟨o,e,_⟩:=id q;exact lt_size e|false=>obtain⟨o,e,_⟩:=id q;exact lt_size e
theorem Ff.obj{h:Heap}{i:Addr}{k:Nat}(q:Ff t h i a k):∃o,h.get? i=some o/\∀v,o.data≠.cell v:=by cases t with|true=>obtain⟨o,h2,h3,h4⟩:=id q;exact⟨o,h2,fun v z=>by rw[h4]at z;cases z⟩|false=>obtain⟨o,h2,h3,h4⟩:=id q;exact⟨o,h2,fun v z=>by rw[h4]at z;cases z⟩
theorem Ff.keep{h h':Heap}{i:Addr}{k:Nat}(q:Ff t h i a k)(e:∀o,h.get? i=some o->h'.get? i=some o):Ff t h' i a k:=by cases t with|true=>obtain⟨o,h2,r⟩:=id q;exact⟨o,e o h2,r⟩|false=>obtain⟨o,h2,r⟩:=id q;exact⟨o,e o h2,r⟩
theorem Kw(t:Bool){prog:Program}{w:World}{A:Around}(hh:A.handled=none)(it l:Addr)(hne:l≠it)(items:Array Value):Nx prog w A it l (fun k h=>Ff t h it l k/\T6 t h l items) (fun k=>items[k]?):=by cases t with|true=>exact Nx.tuple hh it l hne items|false=>exact Nx.list hh it l hne items
theorem Inv.Hr{ch:List Addr}{h':Heap}(I:Inv X pins σ H s)(k:∀b u,b∉ch->s.heap.get? b=some u->h'.get? b=some u)(hf:∀b∈ch,n6 X pins H b):Inv X pins σ H {s with heap:=h'}:=by
 have JP:∀b u,H b=some u->b∉ch:=fun b u e hb=>by rw[(hf b hb).1]at e;cases e
 refine I.call (g':=s.gens) (d':=s.drawn) (t':=s.toks) (ch:=ch) ⟨fun b u e n _ hx=>k b u hx e,fun b u e n _ hx=>⟨u.slots,k b u hx e⟩,fun b u e n hx=>n,fun b u e hx=>⟨u,k b u hx e⟩,fun b xs e=>e,fun b ob u e=>e,fun b ps e=>⟨#[],by rw[e];simp⟩⟩ ?_ I.bare fun b hb=>⟨(hf b hb).2.2.2.1,(hf b hb).2.1,(hf b hb).2.2.2.2.1,(hf b hb).2.2.2.2.2⟩;intro b u e;refine(I.hok b u e).stay (fun c v hc q=>k c v ?_ q) (fun c q=>q) fun c xs q=>q;rcases hc with rfl|hc;.exact JP _ _ e
 .exact JP _ _ hc
end
noncomputable def Xw(t1 t2:Bool)(K:PySem.W.Frag)(a b:Addr):It:=⟨fun i H=>∃ xs ys x y,Sq t1 K H a xs/\Sq t2 K H b ys/\xs[i]?=some x/\ys[i]?=some y,fun i H x H'=>∃T v w,H T=none/\x=.ref T/\H'=upd H T (.tup [v,w])/\(∀xs,Sq t1 K H a xs->xs[i]?=some v)/\∀ys,Sq t2 K H b ys->ys[i]?=some w,fun i H=>∃xs ys,Sq t1 K H a xs/\Sq t2 K H b ys/\(xs.length<=i\/ys.length<=i)⟩
theorem GF{P:Program}{w:World}{K:PySem.W.Frag}{elts:List Expr}{x1}{tp:Pos}(t1 t2:Bool){z TI TO i1 i2 l1 l2:Addr}(D:ZipApart z TI TO i1 i2 l1 l2):Turn P w K (.Tuple elts x1 tp) (Xw t1 t2 K l1 l2) [z,TI,TO,i1,i2] z (fun i h=>IsZip h z TI TO .none/\IsPair h TI (.ref i1) (.ref i2)/\(∃a b,IsPair h TO a b)/\Ff t1 h i1 l1 i/\Ff t2 h i2 l2 i)where
 mem:=by simp
 obj:=fun i h st b hb=>by
  obtain⟨h1,h2,⟨u,v,h3⟩,h4,h5⟩:=st;simp only[mem_cons,not_mem_nil,or_false]at hb;rcases hb with rfl|rfl|rfl|rfl|rfl;.exact⟨_,h1,fun v z=>by cases z⟩
  .exact⟨_,h2,fun v z=>by cases z⟩
  .exact⟨_,h3,fun v z=>by cases z⟩
  .exact h4.obj
  .exact h5.obj
 keep:=fun i h h' st k=>by obtain⟨h1,h2,⟨u,v,h3⟩,h4,h5⟩:=st;exact⟨k z (by simp) _ h1,k TI (by simp) _ h2,⟨u,v,k TO (by simp) _ h3⟩,h4.keep (k i1 (by simp)),h5.keep (k i2 (by simp))⟩
 item:=fun X hP hw hK hc i pins s σ H E I hf st go=>by
  subst hP hw hK;obtain⟨h1,h2,⟨u,v,h3⟩,h4,h5⟩:=st;obtain⟨xs,ys,x,y,hq1,hq2,hx,hy⟩:=go;obtain⟨NT,rv1,VB⟩:=I.sq hq1;obtain⟨its2,Tt,Pn⟩:=I.sq hq2;obtain⟨ux,hu1,hu2⟩:=rv1.get hx;obtain⟨uy,hw1,hw2⟩:=Tt.get hy;have hh:X.A.in1.handled=none:=I.ok.hd hc;refine oA D (Kw t1 hh i1 l1 D.l1i1 NT.toArray) (Kw t2 hh i2 l2 D.l2i2 its2.toArray) h1 h2 h3 (k:=i) ⟨h4,VB⟩ ⟨h5,Pn⟩ (x:=ux) (y:=uy) (by simpa using hu1) (by simpa using hw1) fun h' z1 p1 s1 s2 pT hsz kp=>?_;refine⟨_,rfl,wpAny_letOwnedTupleGo_zip z1 fun h'' z2 sb=>?_⟩;have hlt:∀b∈[z,TI,TO,i1,i2],b≠s.heap.objs.size:=fun b hb=>by
   simp only[mem_cons,not_mem_nil,or_false]at hb;rcases hb with rfl|rfl|rfl|rfl|rfl;.exact ne_of_lt (lt_size h1)
   .exact ne_of_lt (lt_size h2)
   .exact ne_of_lt (lt_size h3)
   .exact ne_of_lt (lt_size h4.obj.choose_spec.1)
   .exact ne_of_lt (lt_size h5.obj.choose_spec.1)
  have Vz:∀b o,b∉[z,TO,i1,i2]->s.heap.get? b=some o->h''.get? b=some o:=fun b o hb q=>by simp only[mem_cons,not_mem_nil,or_false,not_or]at hb;exact sb.extBut b o hb.1 (kp b o hb.1 hb.2.1 hb.2.2.1 hb.2.2.2 q)
  have pT2:IsPair h'' s.heap.objs.size ux uy:=sb.extBut _ _ (hlt z (by simp)).symm pT;have p2:IsPair h'' TO ux uy:=sb.extBut _ _ D.TOz p1;have j1:Ff t1 h'' i1 l1 (i+1):=s1.1.keep fun o e=>sb.extBut _ _ D.i1z e;have j2:Ff t2 h'' i2 l2 (i+1):=s2.1.keep fun o e=>sb.extBut _ _ D.i2z e;refine⟨.ref s.heap.objs.size,upd H s.heap.objs.size (.tup [x,y]),?_,rfl,⟨_,x,y,I.fresh,rfl,rfl,fun zs hz=>?_,fun zs hz=>?_⟩,⟨z2,Vz TI _ ?_ h2,⟨_,_,p2⟩,j1,j2⟩,fun b hb=>?_⟩
  . refine I.zE (ch:=[z,TO,i1,i2]) (t':=s.toks) Vz (fun b hb=>?_) (fun b hb=>hf b ?_) ⟨(by show 2<=sizeLine;decide),[ux,uy],.cons hu2 (.cons hw2 .nil),⟨_,pT2,rfl,_,rfl⟩⟩
    . simp only[mem_cons,not_mem_nil,or_false]at hb;rcases hb with rfl|rfl|rfl|rfl;.exact⟨_,z2⟩
      .exact⟨_,p2⟩
      .exact⟨_,j1.obj.choose_spec.1⟩
      .exact⟨_,j2.obj.choose_spec.1⟩
    .simp only[mem_cons,not_mem_nil,or_false]at hb ⊢;rcases hb with h|h|h|h<;>simp[h]
  .rw[I.G3 hz hq1];exact hx
  .rw[I.G3 hz hq2];exact hy
  .simp[D.TIz,D.TITO,D.TIi1,D.TIi2]
  .rw[aG (hlt b hb)];exact(hf b hb).1
 done:=fun X hP hw hK hc i pins s σ H E I hf st stop=>by
  subst hP hw hK;obtain⟨h1,h2,⟨u,v,h3⟩,h4,h5⟩:=st;obtain⟨xs,ys,hq1,hq2,hx⟩:=stop;obtain⟨NT,rv1,VB⟩:=I.sq hq1;obtain⟨its2,Tt,Pn⟩:=I.sq hq2;have hh:X.A.in1.handled=none:=I.ok.hd hc;refine oY D (Kw t1 hh i1 l1 D.l1i1 NT.toArray) (Kw t2 hh i2 l2 D.l2i2 its2.toArray) h1 h2 h3 (k:=i) ⟨h4,VB⟩ ⟨h5,Pn⟩ ?_ fun h' kp=>⟨rfl,?_⟩
  . rcases hx with hx|hx;.left;rw[rv1.length]at hx;simpa using hx
    .right;rw[Tt.length]at hx;simpa using hx
  .exact I.Hr (ch:=[z,TO,i1,i2]) (fun b u hb q=>by simp only[mem_cons,not_mem_nil,or_false,not_or]at hb;exact kp b u hb.1 hb.2.1 hb.2.2.1 hb.2.2.2 q) fun b hb=>hf b (by simp only[mem_cons,not_mem_nil,or_false]at hb ⊢;rcases hb with h|h|h|h<;>simp[h])
 self:=fun A i s Q E st q=>wpAny_pyIter_zip st.1 q
section
variable{X:Cx}{elts:List Expr}{x1:Nat}{tp:Pos}
theorem Ed{prog:Program}{w:World}{A:Around}{E:Value->Shared->Prop}{s:Shared}(t1 t2:Bool){l1 l2:Addr}{xs ys:Array Value}{Q:Value->Shared->Prop}(hl1:T6 t1 s.heap l1 xs)(hl2:T6 t2 s.heap l2 ys)(h:∀ h',IsZip h' (s.heap.objs.size+4) (s.heap.objs.size+2) (s.heap.objs.size+3) .none->IsPair h' (s.heap.objs.size+2) (.ref s.heap.objs.size) (.ref (s.heap.objs.size+1))->IsPair h' (s.heap.objs.size+3) .none .none->Ff t1 h' s.heap.objs.size l1 0->Ff t2 h' (s.heap.objs.size+1) l2 0->(∀c o,s.heap.get? c=some o->h'.get? c=some o)->Q (.ref (s.heap.objs.size+4)) {s with heap:=h'}):wpAny (model prog w) A (call (.type "zip") [.ref l1,.ref l2]) Q E s:=by
 cases t1<;>cases t2;.exact zF hl1 hl2 h
 .exact yr hl1 hl2 h
 .exact zA hl1 hl2 h
 .exact yS hl1 hl2 h
theorem Q6{n l m:Nat}(h1:l<n)(h2:m<n):ZipApart (n+4) (n+2) (n+3) n (n+1) l m:=by constructor<;>exact fun h=>absurd (show(_:Nat)=_ from h) (by omega)
def aej(K:PySem.W.Frag)(R:It->Hp->Prop)(vs:List V)(H1:Hp):Prop:=∃t1 t2 a b,vs=[.ref a,.ref b]/\(∃xs,Sq t1 K H1 a xs)/\(∃ys,Sq t2 K H1 b ys)/\R (Xw t1 t2 K a b) H1
def acA(K:PySem.W.Frag)(ta:TA):TI:=fun σ H R=>ta σ H (aej K R)
theorem boot_zip:bootBuiltins "zip"=some (.type "zip"):=by decide+kernel
theorem Jv{a b:Expr}{ta:TA}{p pos:Pos}(hg:Gl X "zip")(hm:X.mg "zip"=none)(ha:PA X [a,b] ta)(hs:starEach [a,b] X.env=[(false,eval a X.env),(false,eval b X.env)]:=by rfl)(hs2:starEach [b] X.env=[(false,eval b X.env)]:=by rfl):PI X (.Tuple elts x1 tp) (.Call (.Name "zip" p) [a,b] [] pos) (acA X.K ta):=by
 intro pins s σ H R I h;refine Call_ (iu I hg hm boot_zip (PyProof.Rows.callWith_type1 (cz (ha pos pins s σ H _ I h) ?_) (by rw[hs,hs2]) (by rw[hs2];rfl)));rintro us s1⟨vs,H1,I1,r1,q1⟩;obtain⟨t1,t2,l1,l2,rfl,⟨xs,hq1⟩,⟨ys,hq2⟩,q⟩:=q1;obtain⟨u,v,rfl,ru,rv⟩:=r1.two;cases ru;cases rv;obtain⟨NT,rv1,VB⟩:=I1.sq hq1;obtain⟨its2,Tt,Pn⟩:=I1.sq hq2;have b1:=VB.lt;have b2:=Pn.lt;refine Ed t1 t2 VB Pn fun h' z0 p0 o0 j1 j2 kp=>?_;have D:ZipApart (s1.heap.objs.size+4) (s1.heap.objs.size+2) (s1.heap.objs.size+3) s1.heap.objs.size (s1.heap.objs.size+1) l1 l2:=Q6 b1 b2;refine wpAny_pyIter_zip z0 ⟨_,_,_,_,H1,rfl,I1.kept (t':=s1.toks) kp,GF t1 t2 D,⟨z0,p0,⟨_,_,o0⟩,j1,j2⟩,fun b hb=>?_,q⟩;have hb':s1.heap.objs.size<=b:=by simp only[mem_cons,not_mem_nil,or_false]at hb;rcases hb with rfl|rfl|rfl|rfl|rfl<;>first|exact Nat.le_add_right _ _|exact cR
 exact I1.yu hb' (I1.hok.fresh hb')
end
end L2
namespace HH
open PySem L2 PySem.Spec PyProof.Rows
variable{x:Str}
section
variable{K:PySem.W.Frag}{F F1 H H1:Hp}{ρ ρ1:List Sl}{σ:L2.St}{ds es:List D}{a b:Addr}
theorem aM.sq{t:Bool}{xs:List V}(e:aM F H)(h:Sq t K F a xs):Sq t K H a xs:=by cases t with|true=>exact aM.gC e h|false=>exact e.seq h
theorem pF{t1 t2:Bool}{xs ys:List V}{F' H':Hp}(hq1:Sq t1 K H' a xs)(hq2:Sq t2 K H' b ys)(r1:aL K F' xs ds)(r2:aL K F' ys es)(s:aM F' H')(k:Nat):(∀d,((ds.zip es).map fun p=>D.tup [p.1,p.2])[k]?=some d->(Xw t1 t2 K a b).go k H'/\∀x kh,(Xw t1 t2 K a b).JQ k H' x kh->∃F'',Ext F' H' F'' kh/\Rep K F'' x d)/\(((ds.zip es).map fun p=>D.tup [p.1,p.2]).length<=k->(Xw t1 t2 K a b).stop k H'):=by refine⟨fun d hd=>?_,fun h=>⟨xs,ys,hq1,hq2,by rw[r1.length,r2.length];rw[length_map,List.length_zip]at h;omega⟩⟩;rw[getElem?_map]at hd;obtain⟨⟨d0,d1⟩,e1,e2⟩:=map_some hd;subst e2;obtain⟨f1,f2⟩:=List.getElem?_zip_eq_some.mp e1;obtain⟨w,h1,h2⟩:=r1.get f1;obtain⟨w',h1',h2'⟩:=r2.get f2;refine⟨⟨xs,ys,w,w',hq1,hq2,h1,h1'⟩,?_⟩;rintro x kh⟨T,v,v',hT,hx,hH,y,y'⟩;subst hx;subst hH;have:=y xs hq1;rw[h1]at this;cases this;have:=y' ys hq2;rw[h1']at this;cases this;exact qZ s hT h2 h2'
theorem uE{v:V}{d:D}{ds:List D}(h:Rep K F v d)(e:items d=some ds):∃t a xs,v=.ref a/\Sq t K F a xs/\aL K F xs ds:=by cases d with|tup es=>cases e;rw[Rep]at h;obtain⟨a,xs,rfl,h1,h2⟩:=h;exact⟨true,a,xs,rfl,h1,h2⟩|lst es=>cases e;rw[Rep]at h;obtain⟨a,xs,rfl,h1,h2⟩:=h;exact⟨false,a,xs,rfl,h1,h2⟩|_=>cases e
end
section
variable{X:Cx}{c:Call}{e a b:Expr}{pa pb:P}{pos:Pos}{elts:List Expr}{x1:Nat}{tp:Pos}
theorem Hy{p':Pos}(hx:x="zip")(hg:Gl X x)(hm:X.mg x=none)(ha:SX X c a pa)(hb:SX X c b pb)(hs:starEach [a,b] X.env=[(false,eval a X.env),(false,eval b X.env)]:=by rfl)(hs2:starEach [b] X.env=[(false,eval b X.env)]:=by rfl):SI X c (.Tuple elts x1 tp) (.Call (.Name x p') [a,b] [] pos) (.zip pa pb):=by subst hx;refine kZ (Jv hg hm (pG ha (pG hb aK hs2) (by rw[hs,hs2])).1 hs hs2) ?_;rintro σ H R⟨F,ρ,ds,ρ1,g,e,k⟩;obtain⟨r,ρ2,e1,e2⟩:=ao e;have zz:=aB e2;clear e2;obtain⟨e2,e3⟩:=zz;subst e3;rw[HH.E22]at e1;obtain⟨x0,ρ3,e4,e7⟩:=ao e1;obtain⟨y0,ρ4,e5,e8⟩:=ao e7;have zz:=aB e8;clear e8;obtain⟨e8,e6⟩:=zz;subst e6;obtain⟨us,f1,e9⟩:=cF e8;obtain⟨ws,f2,f3⟩:=map_some e9;subst f3;cases e2;refine⟨F,ρ,[x0.d,y0.d],_,g,by rw[evs,e4];show(evs c [pb] ρ3).bind _=_;rw[evs,e5];rfl,fun vs F' H' s rr=>?_⟩;obtain⟨v,r',rfl,rv,rr⟩:=rr.cL;obtain⟨u,r'',rfl,ru,rr⟩:=rr.cL;rw[rr.fB];obtain⟨t1,a1,xs,rfl,q1,r1⟩:=uE rv f1;obtain⟨t2,a2,ys,rfl,q2,r2⟩:=uE ru f2;exact⟨t1,t2,a1,a2,rfl,⟨xs,aM.sq s.gs.sub q1⟩,⟨ys,aM.sq s.gs.sub q2⟩,k _ _ _ ⟨s.gs,fun n k F' ρ' σ' H' s'=>pF (aM.sq s'.gs.sub (aM.sq s'.bV q1)) (aM.sq s'.gs.sub (aM.sq s'.bV q2)) (r1.mono s'.bV) (r2.mono s'.bV) s'.gs.sub k,fun F3 ρ3 σ3 H3 s3=>⟨s.trans s3,fun v r rr=>rr.later s⟩⟩⟩
end
structure bu(K:PySem.W.Frag)(x:Str)(st:Stmt):Prop where ex:∃f fd,PySem.W.nsIn K mainGlobals x=some (some (.ref f))/\eG K x x st f fd
section
variable{Pg:Program}{w:World}{K:PySem.W.Frag}{mg:Str->Option Value}{base h:Heap}
theorem Qe{st:Stmt}{f:Addr}{oc:Value}{od an:Option Addr}{osl:Array (Option Value)}{kV doc pm cdv ct:Value}(a:PySem.W.nsIn K mainGlobals x=some (some (.ref f)))(l:K.lookup f=some ⟨oc,od,.func (PySem.W.fnOf x x (iY st) (gj st) (au st) .none kV doc pm an cdv ct),osl⟩)(c:PySem.W.codeIn K cdv x=true)(k:keepIn K (.ref f)=true):bu K x st:=⟨_,_,a,QB l c k⟩
theorem bC{Γ:Tab}{wl i np:Nat}{st:Stmt}{ps:List Str}(X:K.In h)(G:h.Ns mainGlobals mg)(D:bu K x st)(hp:ps.length=np)(hb:∀(kV doc pm:Value)(an:Option Addr)(cdv ct:Value)(us:List Value),us.length=ps.length->bindArgs (PySem.W.fnOf x x (iY st) (gj st) (au st) .none kV doc pm an cdv ct) ⟨us,[]⟩=pure (ps.zip us)):aQ Pg w K mg base 0 (run Γ wl 0) i x np:=by obtain⟨f,fd,a,F⟩:=D.ex;exact⟨f,fd,ps,⟨fun vs H Q E s=>s.1,fun A outer s H args us vs Q E hr e b v sp=>by obtain⟨_,F,as,r,as',_,z,_⟩:=sp;cases z⟩,mg_of X G a,F.kp,F.binds hb,hp⟩
theorem bB{Γ:Tab}{wl n i np:Nat}{st:Stmt}{ps:List Str}{d:Fd}(X:K.In h)(G:h.Ns mainGlobals mg)(D:bu K x st)(hp:ps.length=np)(hΓ:Γ i=some d)(hb:∀(kV doc pm:Value)(an:Option Addr)(cdv ct:Value)(us:List Value),us.length=ps.length->bindArgs (PySem.W.fnOf x x (iY st) (gj st) (au st) .none kV doc pm an cdv ct) ⟨us,[]⟩=pure (ps.zip us))(ok:∀f fd,eG K x x st f fd->nM Pg w K mg base Jf (n+1) f fd ps (Lb K np (fun args=>enter (run Γ wl n) wl d args))):aQ Pg w K mg base (n+1) (run Γ wl (n+1)) i x np:=by
 obtain⟨f,fd,a,F⟩:=D.ex;refine⟨f,fd,ps,?_,mg_of X G a,F.kp,F.binds hb,hp⟩;have e:run Γ wl (n+1) i=fun args=>enter (run Γ wl n) wl d args:=by funext args;show(match Γ i with|some d=>enter (run Γ wl n) wl d args|none=>.stuck)=_;rw[hΓ]
 rw[e,hp];exact ok f fd F
theorem sV{F:Hp}:∀ns:List Int,aL K F (ns.map V.int) (ns.map D.int)|[]=>.nil|n::ns=>.cons (bY n) (sV ns)
theorem De{H:Hp}{a:Addr}{ns:List Int}{g:List Sl->Res R}{as:List Sl}(hS:dF K H a (ns.map V.int))(hr:g [.val false (.lst (ns.map D.int))]=.ok (.val (.bl true)) as):Lb K 1 g [.ref a] H (fun v _=>v=.bl true) fun _ _ _=>False:=by
 refine⟨rfl,H,_,_,as,⟨.refl _,rfl,fun i b d e=>?_,fun i s ds e e'=>?_,fun i j c h=>?_⟩,hr,fun v F' σ' H' s rr=>?_⟩;.match i,e with|0,e=>cases e;refine⟨.ref a,rfl,?_⟩;rw[Rep];exact⟨a,_,rfl,hS,sV ns⟩|i+1,e=>simp at e
 .match i,e with|0,e=>cases e;cases e'|i+1,e=>simp at e
 .obtain⟨⟨s,ds,e,e'⟩,_⟩:=h;match i,e with|0,e=>cases e;cases e'|i+1,e=>simp at e
 .have rr:Rep K F' v (.bl true):=rr;rw[Rep]at rr;exact rr
end
end HH
end
section
namespace HH
open PySem
variable{n:Nat}{c:Call}{ρ:List Sl}{is:List Nat}{ds:List D}
def Res.sat{α:Type}(Q:α->List Sl->Prop)(x:Res α):Prop:=match x with|.ok a ρ=>Q a ρ|.exc _ _=>False|.stuck=>False
section
variable{α β:Type}{Q Q':α->List Sl->Prop}
@[simp]theorem FN{a:α}{ρ:List Sl}:(Res.ok a ρ).sat Q=Q a ρ:=rfl
@[simp]theorem aaj{k:Nat}{ρ:List Sl}:(Res.exc k ρ:Res α).sat Q=False:=rfl
@[simp]theorem Uh:(Res.stuck:Res α).sat Q=False:=rfl
theorem bO{x:Res β}{f:β->List Sl->Res α}:(x.bind f).sat Q=x.sat fun a ρ=>(f a ρ).sat Q:=by cases x<;>rfl
@[simp]theorem aah{p:Prop}[Decidable p]{x y:Res α}:(if p then x else y).sat Q=((p->x.sat Q)/\(¬ p->y.sat Q)):=by by_cases h:p<;>simp[h]
@[simp]theorem rY{a:α}{ρ:List Sl}:(lift (some a) ρ).sat Q=Q a ρ:=rfl
@[simp]theorem Ke{ρ:List Sl}:(lift (none:Option α) ρ).sat Q=False:=rfl
@[simp]theorem La{p:Prop}[Decidable p]{a:α}{ρ:List Sl}:(lift (if p then some a else none) ρ).sat Q=(p/\Q a ρ):=by by_cases h:p<;>simp[h]
theorem Res.sat.imp{x:Res α}(h:x.sat Q)(k:∀a ρ,Q a ρ->Q' a ρ):x.sat Q':=by cases x with|ok a ρ=>exact k a ρ h|exc _ _=>exact h|stuck=>exact h
theorem sat_iff{x:Res α}:x.sat Q↔∃a ρ,x=.ok a ρ/\Q a ρ:=by cases x with|ok a ρ=>exact⟨fun h=>⟨a,ρ,rfl,h⟩,fun⟨_,_,e,h⟩=>by cases e;exact h⟩|exc _ _=>exact⟨fun h=>h.elim,fun⟨_,_,e,_⟩=>by cases e⟩|stuck=>exact⟨fun h=>h.elim,fun⟨_,_,e,_⟩=>by cases e⟩
end
noncomputable def fr:Sl->Bool|.aV=>true|.val b _=>!b|.own b _=>!b|.lent _=>false|.um _=>false|.dq _=>false|.hold _=>false
@[simp]theorem abZ:fr .aV=true:=rfl
@[simp]theorem abA{b:Bool}{d:D}:fr (.val b d)=!b:=rfl
@[simp]theorem adY{b:Bool}{d:List D}:fr (.own b d)=!b:=rfl
@[simp]theorem Zn{d:List D}:fr (.lent d)=false:=rfl
theorem Ti(ρ:List Sl)(i:Nat)(s:Sl):put ρ i s=match ρ[i]?with|some t=>if fr t=true then some (ρ.set i s)else none|none=>none:=by unfold put;cases h:ρ[i]?with|none=>rfl|some t=>cases t with|aV=>rfl|val b d=>cases b<;>rfl|own b d=>cases b<;>rfl|lent d=>rfl|um m=>rfl|dq m=>rfl|hold m=>rfl
theorem HR{Γ:Tab}{w i:Nat}{d:Fd}{args:List Sl}(h:Γ i=some d):run Γ w (n+1) i args=enter (run Γ w n) w d args:=by rw[run,h]
noncomputable def fin(np:Nat):Fl->List Sl->Option (R×List Sl)|.next,ρ=>some (.val .non,ρ.take np)|.ret r,ρ=>some (r,ρ.take np)|_,_=>none
def eQ(np:Nat)(Q:R->List Sl->Prop)(fl:Fl)(ρ:List Sl):Prop:=match fl with|.next=>Q (.val .non) (ρ.take np)|.ret r=>Q r (ρ.take np)|_=>False
def sQ(c:Call)(n:Nat)(r:List S)(Q:Fl->List Sl->Prop)(fl:Fl)(ρ:List Sl):Prop:=match fl with|.next=>(gB c n r ρ).sat Q|fl=>Q fl ρ
def fQ(J:List Sl->Prop)(Q:Fl->List Sl->Prop)(fl:Fl)(ρ:List Sl):Prop:=match fl with|.next=>J ρ|.cont=>J ρ|.brk=>Q .next ρ|.ret v=>Q (.ret v) ρ
section
variable{np:Nat}{Q:R->List Sl->Prop}{ρ:List Sl}{v:R}{c:Call}{n:Nat}{r:List S}{Q':Fl->List Sl->Prop}{J:List Sl->Prop}
@[simp]theorem aad:eQ np Q .next ρ=Q (.val .non) (ρ.take np):=rfl
@[simp]theorem adt:eQ np Q (.ret v) ρ=Q v (ρ.take np):=rfl
@[simp]theorem adC:eQ np Q .brk ρ=False:=rfl
@[simp]theorem ZZ:eQ np Q .cont ρ=False:=rfl
@[simp]theorem ZR:sQ c n r Q' .next ρ=(gB c n r ρ).sat Q':=rfl
@[simp]theorem abx:sQ c n r Q' (.ret v) ρ=Q' (.ret v) ρ:=rfl
@[simp]theorem abN:sQ c n r Q' .brk ρ=Q' .brk ρ:=rfl
@[simp]theorem aau:sQ c n r Q' .cont ρ=Q' .cont ρ:=rfl
@[simp]theorem ZQ:fQ J Q' .next ρ=J ρ:=rfl
@[simp]theorem ZM:fQ J Q' .cont ρ=J ρ:=rfl
@[simp]theorem adX:fQ J Q' .brk ρ=Q' .next ρ:=rfl
@[simp]theorem acZ:fQ J Q' (.ret v) ρ=Q' (.ret v) ρ:=rfl
end
theorem Cv{d:Fd}{args:List Sl}{Q:R->List Sl->Prop}(hl:args.length=d.np)(hd:d.np<=d.nn)(h:(gB c n d.body (args++replicate (d.nn-d.np) .aV)).sat (eQ d.np Q)):(enter c n d args).sat Q:=by unfold enter;rw[if_pos ⟨hl,hd⟩];revert h;cases gB c n d.body (args++replicate (d.nn-d.np) .aV)with|stuck=>exact fun h=>False.elim h|exc _ _=>exact fun h=>False.elim h|ok fl ρ=>cases fl<;>first|exact id|exact fun h=>False.elim h
theorem aH{Γ:Tab}{w i:Nat}{d:Fd}{args:List Sl}{Q:R->List Sl->Prop}(hΓ:Γ i=some d)(hl:args.length=d.np)(hd:d.np<=d.nn)(h:(gB (run Γ w n) w d.body (args++replicate (d.nn-d.np) .aV)).sat (eQ d.np Q)):(run Γ w (n+1) i args).sat Q:=by rw[HR hΓ];exact Cv hl hd h
theorem aj{s:S}{r:List S}{Q:Fl->List Sl->Prop}(h:(ex c n s ρ).sat (sQ c n r Q)):(gB c n (s::r) ρ).sat Q:=by rw[gB,bO];refine h.imp fun fl ρ' q=>?_;cases fl<;>exact q
theorem Dq{s:S}{r:List S}{Q:Fl->List Sl->Prop}(h:(ex c n s ρ).sat (sQ c n r Q)):sQ c n (s::r) Q .next ρ:=aj h
@[simp]theorem Zf{c:Call}{n:Nat}{ρ:List Sl}{Q:Fl->List Sl->Prop}:(gB c n [] ρ).sat Q=Q .next ρ:=by rw[gB];rfl
theorem cP{s:S}{r:List S}{Q:Fl->List Sl->Prop}(M:List Sl->Prop)(h:(ex c n s ρ).sat fun fl ρ'=>fl=.next/\M ρ')(k:∀ρ',M ρ'->(gB c n r ρ').sat Q):(gB c n (s::r) ρ).sat Q:=aj (h.imp fun fl ρ'⟨e,q⟩=>by subst e;exact k ρ' q)
theorem cu{is:List Nat}{one:Bool}{body:List Sl->Res Fl}(J:List D->List Sl->Prop){Q:Fl->List Sl->Prop}(hb:∀d r ρ,J (d::r) ρ->∃ρ1,cH ρ is one d=some ρ1/\(body ρ1).sat (fQ (J r) Q))(hq:∀ρ,J [] ρ->Q .next ρ):∀{ds:List D}{ρ:List Sl},J ds ρ->(iG is one body ds ρ).sat Q|[],ρ,j=>hq ρ j|d::r,ρ,j=>by obtain⟨ρ1,e,h⟩:=hb d r ρ j;rw[iG,e];show((body ρ1).bind _).sat Q;rw[bO];refine h.imp fun fl ρ2 q=>?_;cases fl with|next=>exact cu J hb hq q|cont=>exact cu J hb hq q|brk=>exact q|ret v=>exact q
theorem j6{is:List Nat}{one:Bool}{test:List Sl->Res Bool}{elt:Ev}(J:List Sl->Prop)(g:D->Option D){Q:List D->List Sl->Prop}:∀{ds acc:List D}{ρ:List Sl},J ρ->(∀ d,d ∈ ds->∀ ρ,J ρ->∃ ρ1,cH ρ is one d=some ρ1/\(test ρ1).sat fun b ρ2=>if b=true then(elt ρ2).sat fun r ρ3=>g d=some r.d/\J ρ3 else g d=none/\J ρ2)->(∀ ρ,J ρ->Q (acc++ds.filterMap g) ρ)->(turns is one test elt ds acc ρ).sat Q|[],acc,ρ,j,h,k=>by rw[turns];simpa using k ρ j|d::r,acc,ρ,j,h,k=>by obtain⟨ρ1,e,h1⟩:=h d (by simp) ρ j;rw[turns,e];show((test ρ1).bind _).sat Q;rw[bO];refine h1.imp fun b ρ2 q=>?_;cases b with|true=>rw[if_pos rfl]at q;rw[if_pos rfl,bO];refine q.imp fun x ρ3⟨e1,j3⟩=>?_;refine j6 J g j3 (fun d' hd'=>h d' (by simp[hd'])) fun ρ' j'=>?_;have:=k ρ' j';rw[filterMap_cons,e1]at this;rw[append_assoc];exact this|false=>rw[if_neg (by simp)]at q;rw[if_neg (by simp)];refine j6 J g q.2 (fun d' hd'=>h d' (by simp[hd'])) fun ρ' j'=>?_;have:=k ρ' j';rw[filterMap_cons,q.1]at this;exact this
theorem yx{one:Bool}{elt:Ev}(J:List Sl->Prop)(g:D->D){Q:List D->List Sl->Prop}(j:J ρ)(h:∀d,d∈ds->∀ρ,J ρ->∃ρ1,cH ρ is one d=some ρ1/\(elt ρ1).sat fun r ρ3=>g d=r.d/\J ρ3)(k:∀ρ,J ρ->Q (ds.map g) ρ):(turns is one (kI c none) elt ds [] ρ).sat Q:=j6 J (fun d=>some (g d)) j (fun d hd ρ j=>by obtain⟨ρ1,e,h1⟩:=h d hd ρ j;refine⟨ρ1,e,?_⟩;rw[kI,FN,if_pos rfl];exact h1.imp fun r ρ3 q=>⟨by rw[q.1],q.2⟩) fun ρ j=>by simpa using k ρ j
section
variable{ρ l:List Sl}{a:Sl}{i j:Int}{k m:Nat}{b b':Bool}{s:Str}{d:D}{ds es:List D}{e f:Ev}{x:Option Sl}{c:Call}
@[simp]theorem Vm:iH .non=true:=rfl
@[simp]theorem W5:iH (.bl b)=false:=rfl
@[simp]theorem Ur:iH (.int i)=false:=rfl
@[simp]theorem Uq:iH (.str s)=false:=rfl
@[simp]theorem Ux:iH (.tup ds)=false:=rfl
@[simp]theorem Ug:iH (.lst ds)=false:=rfl
@[simp]theorem WR:flat .non=true:=rfl
@[simp]theorem aal:flat (.bl b)=true:=rfl
@[simp]theorem mW:flat (.int i)=true:=rfl
@[simp]theorem XH:flat (.str s)=true:=rfl
@[simp]theorem Xm:flat (.tup ds)=false:=rfl
@[simp]theorem Wu:flat (.lst ds)=false:=rfl
@[simp]theorem ab1:(R.val d).d=d:=rfl
@[simp]theorem Qq:(R.own ds).d=.lst ds:=rfl
@[simp]theorem Yi:zj (.val d)=.val false d:=rfl
@[simp]theorem W9:zj (.own ds)=.own false ds:=rfl
@[simp]theorem Vt:xF (.val d)=.dat d:=rfl
@[simp]theorem Va:xF (.own ds)=.tmp ds:=rfl
@[simp]theorem aaC:iV (.int i)=some i:=rfl
@[simp]theorem ab2:xP (.bl b)=some b:=rfl
@[simp]theorem tD:items (.lst ds)=some ds:=rfl
@[simp]theorem uh:items (.tup ds)=some ds:=rfl
@[simp]theorem PN:PL (.tup ds)=some ds:=rfl
@[simp]theorem QJ:zU (.lst ds)=some ds:=rfl
@[simp]theorem Zd:pN .add=qi:=rfl
@[simp]theorem ZL:pN .sub=wI:=rfl
@[simp]theorem aai:pN .mul=qz:=rfl
@[simp]theorem W7:pN .fdiv=qF:=rfl
@[simp]theorem Zz:pN .mod=xj:=rfl
@[simp]theorem aap:pN .pow=wU:=rfl
@[simp]theorem U6:qi (.int i) (.int j)=some (.val (.int (i+j))):=rfl
@[simp]theorem T4:qi (.lst ds) (.lst es)=if ds.length+es.length<=lim then some (.own (ds++es))else none:=rfl
@[simp]theorem UG:qi (.tup ds) (.tup es)=if ds.length+es.length<=lim then some (.val (.tup (ds++es)))else none:=rfl
@[simp]theorem Vd:wI (.int i) (.int j)=some (.val (.int (i-j))):=rfl
@[simp]theorem Vr:qz (.int i) (.int j)=if((-18446744073709551616<i/\i<18446744073709551616)\/(-18446744073709551616<j/\j<18446744073709551616))then some (.val (.int (i*j)))else none:=rfl
@[simp]theorem QR:qF (.int i) (.int j)=if 0<j/\j<1606938044258990275541962092341162602522202993782792835301376 then some (.val (.int (i/j)))else none:=rfl
@[simp]theorem Ut:xj (.int i) (.int j)=if 0<j then some (.val (.int (i%j)))else none:=rfl
@[simp]theorem Vq:wU (.int i) (.int j)=if 0<=j/\j<=1000/\i.natAbs<18446744073709551616 then some (.val (.int (i^j.toNat)))else none:=rfl
@[simp]theorem aaO:DK (.lst ds) (.int i)=(at' ds i).map .val:=rfl
@[simp]theorem aac:DK (.tup ds) (.int i)=(at' ds i).map .val:=rfl
@[simp]theorem Yb:Gh (.int i)=some (.val (.int (-i))):=rfl
@[simp]theorem Uj:cm .eq (.int i) (.int j)=some (i==j):=rfl
@[simp]theorem UJ:cm .ne (.int i) (.int j)=some (!(i==j)):=rfl
@[simp]theorem WL:cm .eq (.bl b) (.bl b')=some (b==b'):=rfl
@[simp]theorem Wz:cm .ne (.bl b) (.bl b')=some (!(b==b')):=rfl
@[simp]theorem U0:cm .lt (.int i) (.int j)=some (decide (i<j)):=rfl
@[simp]theorem U8:cm .le (.int i) (.int j)=some (decide (i<=j)):=rfl
@[simp]theorem Vb:cm .gt (.int i) (.int j)=some (decide (j<i)):=rfl
@[simp]theorem Uu:cm .ge (.int i) (.int j)=some (decide (j<=i)):=rfl
@[simp]theorem abC:cm .Yy d .non=some (iH d):=rfl
@[simp]theorem aar:cm .Eo d .non=some (!iH d):=rfl
@[simp]theorem Oz:blt .len [.lst ds]=some (.val (.int ds.length)):=rfl
@[simp]theorem Ob:blt .len [.tup ds]=some (.val (.int ds.length)):=rfl
@[simp]theorem M9:blt .list [.lst ds]=some (.own ds):=rfl
@[simp]theorem K9:blt .list [.tup ds]=some (.own ds):=rfl
@[simp]theorem J9:blt .tuple [.lst ds]=some (.val (.tup ds)):=rfl
@[simp]theorem J8:blt .tuple [.tup ds]=some (.val (.tup ds)):=rfl
@[simp]theorem Wa:blt .max2 [.int i,.int j]=some (.val (.int (if i<j then j else i))):=rfl
@[simp]theorem Lg:blt .all [.lst ds]=(ds.mapM xP).map fun bs=>.val (.bl (bs.all id)):=rfl
@[simp]theorem Vn:isVar (.var k)=some k:=rfl
@[simp]theorem aax:pk (a::l) k=match(a::l)[k]?with|some (.val _ d)=>some d|some (.own _ ds)=>some (.lst ds)|some (.lent ds)=>some (.lst ds)|_=>none:=rfl
@[simp]theorem XX:Fe (a::l) k=match pk (a::l) k with|some (.lst ds)=>some ds|_=>none:=rfl
@[simp]theorem Yd:dj (some k) e ρ=lift (pk ρ k) ρ:=rfl
@[simp]theorem Xc:dj none e ρ=(e ρ).bind fun r ρ=>.ok r.d ρ:=rfl
@[simp]theorem Vi{y:Option Nat}:iw (some k) e y f ρ=(lift (pk ρ k) ρ).bind fun _ ρ=>(dj y f ρ).bind fun y ρ=>(lift (pk ρ k) ρ).bind fun x ρ=>.ok (x,y) ρ:=rfl
@[simp]theorem UL{y:Option Nat}:iw none e y f ρ=(dj none e ρ).bind fun x ρ=>(dj y f ρ).bind fun y ρ=>.ok (x,y) ρ:=rfl
@[simp]theorem Ve{es:List D}:dZ (.own b ds) (some (.own b' es))=.own b es:=rfl
@[simp]theorem Vs:dZ (.own b ds) (some (.val b' d))=.val b d:=rfl
@[simp]theorem IK:dZ a none=a:=by cases a<;>rfl
@[simp]theorem Dj:dZ (.val b d) x=.val b d:=by cases x<;>rfl
@[simp]theorem Ud:dZ .aV x=.aV:=by cases x<;>rfl
@[simp]theorem yP:dZ (.lent ds) x=.lent ds:=by cases x<;>rfl
@[simp]theorem Xf:cH ρ [k] true d=put ρ k (.val false d):=rfl
@[simp]theorem UT{is:List Nat}:cH ρ is false (.tup ds)=putAll ρ is ds:=by cases is<;>rfl
@[simp]theorem RT:srcOf none e ρ=(e ρ).bind fun r ρ=>lift (items r.d) ρ:=rfl
@[simp]theorem Qm:srcOf (some k) e (a::l)=match(a::l)[k]?with|some (.val _ d)=>lift (items d) (a::l)|some (.own _ ds)=>.ok ds ((a::l).set k (.lent ds))|some (.lent ds)=>.ok ds (a::l)|_=>.stuck:=rfl
@[simp]theorem Om{ρ':List Sl}:bz ρ' none ρ=ρ:=rfl
@[simp]theorem Oh:bz (a::l) (some k) ρ=match(a::l)[k]?with|some (.own b ds)=>ρ.set k (.own b ds)|_=>ρ:=rfl
@[simp]theorem XR{s:Sl}:put (a::l) k s=match(a::l)[k]?with|some t=>if fr t=true then some ((a::l).set k s)else none|none=>none:=Ti ..
@[simp]theorem Th:putAll ρ [] []=some ρ:=rfl
@[simp]theorem Ox{is:List Nat}:putAll ρ (k::is) (d::ds)=(put ρ k (.val false d)).bind fun ρ=>putAll ρ is ds:=rfl
end
@[simp]theorem Xd{α:Type}{a0:α}{l:List α}:at' (a0::l) 0=some a0:=by unfold at' iD;rw[if_pos (by decide),if_pos (by simp only[length_cons];omega)];rfl
@[simp]theorem V7{α:Type}{a0 a1:α}{l:List α}:at' (a0::a1::l) 1=some a1:=by unfold at' iD;rw[if_pos (by decide),if_pos (by simp only[length_cons];omega)];rfl
@[simp]theorem abJ{α:Type}{a0 a1 a2:α}{l:List α}:at' (a0::a1::a2::l) 2=some a2:=by unfold at' iD;rw[if_pos (by decide),if_pos (by simp only[length_cons];omega)];rfl
@[simp]theorem ad0{α:Type}{a0 a1 a2 a3:α}{l:List α}:at' (a0::a1::a2::a3::l) 3=some a3:=by unfold at' iD;rw[if_pos (by decide),if_pos (by simp only[length_cons];omega)];rfl
@[simp]theorem at_4{α:Type}{a0 a1 a2 a3 a4:α}{l:List α}:at' (a0::a1::a2::a3::a4::l) 4=some a4:=by unfold at' iD;rw[if_pos (by decide),if_pos (by simp only[length_cons];omega)];rfl
@[simp]theorem at_5{α:Type}{a0 a1 a2 a3 a4 a5:α}{l:List α}:at' (a0::a1::a2::a3::a4::a5::l) 5=some a5:=by unfold at' iD;rw[if_pos (by decide),if_pos (by simp only[length_cons];omega)];rfl
@[simp]theorem at_6{α:Type}{a0 a1 a2 a3 a4 a5 a6:α}{l:List α}:at' (a0::a1::a2::a3::a4::a5::a6::l) 6=some a6:=by unfold at' iD;rw[if_pos (by decide),if_pos (by simp only[length_cons];omega)];rfl
@[simp]theorem at_7{α:Type}{a0 a1 a2 a3 a4 a5 a6 a7:α}{l:List α}:at' (a0::a1::a2::a3::a4::a5::a6::a7::l) 7=some a7:=by unfold at' iD;rw[if_pos (by decide),if_pos (by simp only[length_cons];omega)];rfl
theorem jk{α:Type}{l:List α}{i:Int}(h:0<=i)(h':i<l.length):at' l i=l[i.toNat]?:=by unfold at' iD;rw[if_pos h,if_pos h'];rfl
theorem Jp{α:Type}{l:List α}{k:Nat}(h':k<l.length):at' l (k:Int)=l[k]?:=by rw[jk (by omega) (by omega)];simp
@[simp]theorem Um{d:D}:isVar (.con d)=none:=rfl
@[simp]theorem SN{x:Str}{d:D}:isVar (.glob x d)=none:=rfl
@[simp]theorem T9{o:Op}{p q:P}:isVar (.bin o p q)=none:=rfl
@[simp]theorem U5{p:P}:isVar (.neg p)=none:=rfl
@[simp]theorem Vu{p:P}:isVar (.not p)=none:=rfl
@[simp]theorem T7{p q:P}:isVar (.and p q)=none:=rfl
@[simp]theorem V8{p q:P}:isVar (.or p q)=none:=rfl
@[simp]theorem TX{o:Cm}{p q:P}:isVar (.cmp o p q)=none:=rfl
@[simp]theorem N8{o o':Cm}{p q r:P}:isVar (.chain o o' p q r)=none:=rfl
@[simp]theorem Vp{p q r:P}:isVar (.Ph p q r)=none:=rfl
@[simp]theorem Uc{as:List P}:isVar (.tup as)=none:=rfl
@[simp]theorem U3{as:List P}:isVar (.lst as)=none:=rfl
@[simp]theorem U9{p q:P}:isVar (.idx p q)=none:=rfl
@[simp]theorem O9{p q r:P}:isVar (.slice p q r)=none:=rfl
@[simp]theorem RN{f:Nat}{as:List P}:isVar (.call f as)=none:=rfl
@[simp]theorem UW{b:Zu}{as:List P}:isVar (.blt b as)=none:=rfl
@[simp]theorem Ri{p e:P}{n:Nat}{is:List Nat}{one:Bool}{t:Option P}:isVar (.comp p n is one t e)=none:=rfl
@[simp]theorem U4{p q:P}:isVar (.rQ p q)=none:=rfl
@[simp]theorem T5{p:P}:isVar (.Vx p)=none:=rfl
@[simp]theorem Uw{p q:P}:isVar (.zip p q)=none:=rfl
noncomputable def jA(c:Call)(is:List Nat)(one:Bool)(test:Option P)(elt:P)(ds:List D)(ρ:List Sl):Res (List D):=turns is one (kI c test) (ev c elt) ds [] ρ
@[simp]theorem aaQ{c:Call}{src elt:P}{n:Nat}{is:List Nat}{one:Bool}{test:Option P}{ρ:List Sl}:ev c (.comp src n is one test elt) ρ=(srcOf (isVar src) (ev c src) ρ).bind fun ds ρ₁=>if ds.length<=lim then(jA c is one test elt ds (ρ₁++replicate n .aV)).bind fun xs ρ₂=>.ok (.own xs) (bz ρ (isVar src) (ρ₂.take ρ₁.length))else .stuck:=(rfl)
noncomputable def Ia(c:Call)(n:Nat)(t:P)(body:List S)(k:Nat)(ρ:List Sl):Res Fl:=rT (ji (ev c t)) (gB c n body) k ρ
@[simp]theorem ab9{c:Call}{n:Nat}{t:P}{body:List S}{ρ:List Sl}:ex c n (.whl t body) ρ=Ia c n t body n ρ:=(rfl)
theorem uC{α β γ:Type}{x:Res β}{f:β->List Sl->Res α}{g:α->List Sl->Res γ}:(x.bind f).bind g=x.bind fun a ρ=>(f a ρ).bind g:=by cases x<;>rfl
@[simp]theorem acn{Γ:Tab}{w n i:Nat}{args:List Sl}{α:Type}{f:R->List Sl->Res α}{Q:α->List Sl->Prop}:((run Γ w n i args).bind f).sat Q=(run Γ w n i args).sat fun a ρ=>(f a ρ).sat Q:=bO
@[simp]theorem ack{Γ:Tab}{w n i:Nat}{args:List Sl}{α β:Type}{f:R->List Sl->Res α}{g:α->List Sl->Res β}:((run Γ w n i args).bind f).bind g=(run Γ w n i args).bind fun a ρ=>(f a ρ).bind g:=uC
@[simp]theorem ZX{c:Call}{is:List Nat}{one:Bool}{test:Option P}{elt:P}{ds:List D}{ρ:List Sl}{α:Type}{f:List D->List Sl->Res α}{Q:α->List Sl->Prop}:((jA c is one test elt ds ρ).bind f).sat Q=(jA c is one test elt ds ρ).sat fun a ρ=>(f a ρ).sat Q:=bO
@[simp]theorem Za{c:Call}{is:List Nat}{one:Bool}{test:Option P}{elt:P}{ds:List D}{ρ:List Sl}{α β:Type}{f:List D->List Sl->Res α}{g:α->List Sl->Res β}:((jA c is one test elt ds ρ).bind f).bind g=(jA c is one test elt ds ρ).bind fun a ρ=>(f a ρ).bind g:=uC
@[simp]theorem ac7{is:List Nat}{one:Bool}{b:List Sl->Res Fl}{ds:List D}{ρ:List Sl}{α:Type}{f:Fl->List Sl->Res α}{Q:α->List Sl->Prop}:((iG is one b ds ρ).bind f).sat Q=(iG is one b ds ρ).sat fun a ρ=>(f a ρ).sat Q:=bO
@[simp]theorem aaq{α β:Type}{p:Prop}[Decidable p]{a:β}{ρ:List Sl}{f:β->List Sl->Res α}{Q:α->List Sl->Prop}:((lift (if p then some a else none) ρ).bind f).sat Q=(p/\(f a ρ).sat Q):=by by_cases h:p<;>simp[h,lift,Res.bind]
@[simp]theorem Zq{α β γ:Type}{p:Prop}[Decidable p]{a:β}{ρ:List Sl}{f:β->List Sl->Res α}{g:α->List Sl->Res γ}:((lift (if p then some a else none) ρ).bind f).bind g=(lift (if p then some a else none) ρ).bind fun a ρ=>(f a ρ).bind g:=uC
@[simp]theorem bb_ite{α β:Type}{p:Prop}[Decidable p]{x y:Res β}{f:β->List Sl->Res α}:(if p then x else y).bind f=if p then x.bind f else y.bind f:=by by_cases h:p<;>simp[h]
@[simp]theorem abT{c:Call}{n k:Nat}{t:P}{b:List S}{ρ:List Sl}{α:Type}{f:Fl->List Sl->Res α}{Q:α->List Sl->Prop}:((Ia c n t b k ρ).bind f).sat Q=(Ia c n t b k ρ).sat fun a ρ=>(f a ρ).sat Q:=bO
@[simp]theorem abP{α β:Type}{a:α}{ρ:List Sl}{f:α->List Sl->Res β}:(Res.ok a ρ).bind f=f a ρ:=rfl
@[simp]theorem Uo{α β:Type}{f:α->List Sl->Res β}:(Res.stuck:Res α).bind f=.stuck:=rfl
@[simp]theorem V1{α:Type}{a:α}{ρ:List Sl}:lift (some a) ρ=.ok a ρ:=rfl
@[simp]theorem WM{α:Type}{ρ:List Sl}:lift (none:Option α) ρ=.stuck:=rfl
noncomputable def Cu:List Sl->Nat->Sl->List Sl|[],_,_=>[]|t::ρ,0,s=>dZ t (some s)::ρ|t::ρ,k+1,s=>t::Cu ρ k s
noncomputable def bk:List Arg->List Sl->List Sl->List Sl|.fM k::as,s::ss,ρ=>bk as ss (Cu ρ k s)|.dat _::as,_::ss,ρ=>bk as ss ρ|.tmp _::as,_::ss,ρ=>bk as ss ρ|_,_,ρ=>ρ
section
variable{t s:Sl}{ρ ss:List Sl}{k:Nat}{as:List Arg}{d:D}{ds:List D}
@[simp]theorem afC:Cu (t::ρ) 0 s=dZ t (some s)::ρ:=rfl
@[simp]theorem af0:Cu (t::ρ) (k+1) s=t::Cu ρ k s:=rfl
@[simp]theorem RJ:bk (.fM k::as) (s::ss) ρ=bk as ss (Cu ρ k s):=rfl
@[simp]theorem Sh:bk (.dat d::as) (s::ss) ρ=bk as ss ρ:=rfl
@[simp]theorem Qd:bk (.tmp ds::as) (s::ss) ρ=bk as ss ρ:=rfl
@[simp]theorem abp:bk [] ss ρ=ρ:=rfl
end
theorem zO{s:Sl}:∀{ρ:List Sl}{k j:Nat},(Cu ρ k s)[j]?=(ρ[j]?).map fun t=>if j=k then dZ t (some s)else t|[],_,_=>by simp[Cu]|t::ρ,0,0=>by simp[Cu]|t::ρ,0,j+1=>by simp[Cu]|t::ρ,k+1,0=>by simp[Cu]|t::ρ,k+1,j+1=>by have:=zO (s:=s) (ρ:=ρ) (k:=k) (j:=j);simp only[Cu,getElem?_cons_succ,this];congr 1;funext t;simp
theorem xG{as:List Arg}{ss:List Sl}:∀{ρ:List Sl}{i j:Nat},(dh as ss i ρ)[j]?=(ρ[j]?).map fun t=>dZ t (bD (i+j) as ss)|[],_,_=>by simp[dh]|t::ρ,i,0=>by simp[dh]|t::ρ,i,j+1=>by have:=xG (as:=as) (ss:=ss) (ρ:=ρ) (i:=i+1) (j:=j);simp only[dh,getElem?_cons_succ,this];rw[show i+1+j=i+(j+1)by omega]
def stb(t:Sl):Prop:=∀x,dZ t x=t
def Qy(ρ:List Sl):List Arg->Prop|[]=>True|.fM k::as=>(Arg.fM k∈as->∀t,ρ[k]?=some t->stb t)/\Qy ρ as|_::as=>Qy ρ as
theorem pq{ρ:List Sl}:∀{as:List Arg}{ρ':List Sl},Qy ρ as->(∀k,Arg.fM k∈as->∀t,ρ'[k]?=some t->ρ[k]?=some t\/stb t)->Qy ρ' as
 |[],_,_,_=>trivial|.fM k::as,ρ',h,g=>⟨fun hm t ht=>by
  rcases g k (by simp) t ht with e|e;.exact h.1 hm t e
  .exact e,pq h.2 fun j hj=>g j (by simp[hj])⟩|.dat _::as,ρ',h,g=>pq (as:=as) h fun j hj=>g j (by simp[hj])|.tmp _::as,ρ',h,g=>pq (as:=as) h fun j hj=>g j (by simp[hj])
theorem lY{k:Nat}:∀{as:List Arg}{ss:List Sl},Arg.fM k∉as->bD k as ss=none|[],_,_=>by unfold bD;rfl|.fM j::as,[],_=>rfl|.dat _::as,[],_=>rfl|.tmp _::as,[],_=>rfl|.fM j::as,s::ss,h=>by simp only[mem_cons,Arg.fM.injEq,not_or]at h;rw[bD,if_neg (fun e=>h.1 e.symm),lY h.2]|.dat _::as,s::ss,h=>by simp only[mem_cons,not_or]at h;rw[bD,lY h.2]|.tmp _::as,s::ss,h=>by simp only[mem_cons,not_or]at h;rw[bD,lY h.2]
theorem Bj:∀{as:List Arg}{ss ρ:List Sl},Qy ρ as->∀j,(bk as ss ρ)[j]?=(ρ[j]?).map fun t=>dZ t (bD j as ss)
 |[],ss,ρ,_,j=>by cases ss<;>simp[bD]|.fM k::as,[],ρ,_,j=>by rw[show bk (.fM k::as) [] ρ=ρ from rfl];simp[bD]|.dat d::as,[],ρ,_,j=>by rw[show bk (.dat d::as) [] ρ=ρ from rfl];simp[bD]|.tmp d::as,[],ρ,_,j=>by rw[show bk (.tmp d::as) [] ρ=ρ from rfl];simp[bD]|.dat _::as,s::ss,ρ,h,j=>by rw[Sh,bD];exact Bj (as:=as) h j|.tmp _::as,s::ss,ρ,h,j=>by rw[Qd,bD];exact Bj (as:=as) h j|.fM k::as,s::ss,ρ,h,j=>by
   have h2:Qy (Cu ρ k s) as:=pq h.2 fun i hi t ht=>by rw[zO]at ht;cases e:ρ[i]?with|none=>rw[e]at ht;cases ht|some t0=>
      rw[e]at ht;by_cases c:i=k;.subst c;have hs:=h.1 hi t0 e;simp[hs (some s)]at ht;exact .inl (by rw[ht])
      .simp[c]at ht;exact .inl (by rw[ht])
   rw[RJ,Bj h2 j,zO,bD];cases e:ρ[j]?with|none=>rfl|some t0=>
     simp only[Option.map_some];by_cases c:j=k
     . subst c;rw[if_pos rfl,if_pos rfl];by_cases hm:Arg.fM j∈as;.have hs:=h.1 hm t0 e;rw[hs (some s),hs]
       .rw[lY hm,IK]
     .rw[if_neg c,if_neg (fun z=>c z.symm)]
theorem gn{ρ:List Sl}{k:Nat}{b:Bool}{ds:List D}(e:ρ[k]?=some (.own b ds)):∀{as:List Arg}{u:List Nat}{r:List Sl},k∈u->cC ρ as u=some r->Arg.fM k∉as
 |[],_,_,_,_=>by simp|.dat _::as,u,r,hu,h=>by simp only[cC,map_eq_some_iff]at h;obtain⟨r',h,_⟩:=h;simp[gn e hu h]|.tmp _::as,u,r,hu,h=>by simp only[cC,map_eq_some_iff]at h;obtain⟨r',h,_⟩:=h;simp[gn e hu h]|.fM i::as,u,r,hu,h=>by
   rw[cC]at h;have hi:i≠k:=by rintro rfl;rw[e]at h;simp[hu]at h
   have:Arg.fM k∉as:=by
    split at h;.obtain⟨r',h,_⟩:=map_eq_some_iff.mp h;exact gn e hu h
    . split at h;.cases h
      .obtain⟨r',h,_⟩:=map_eq_some_iff.mp h;exact gn e (by simp[hu]) h
    . split at h;.cases h
      .obtain⟨r',h,_⟩:=map_eq_some_iff.mp h;exact gn e (by simp[hu]) h
    .cases h
   simp[this];exact fun z=>hi z.symm
theorem gw{ρ:List Sl}:∀{as:List Arg}{u:List Nat}{r:List Sl},cC ρ as u=some r->Qy ρ as
 |[],_,_,_=>trivial|.dat _::as,u,r,h=>by obtain⟨r',h,_⟩:=map_eq_some_iff.mp h;exact gw (as:=as) h|.tmp _::as,u,r,h=>by obtain⟨r',h,_⟩:=map_eq_some_iff.mp h;exact gw (as:=as) h|.fM i::as,u,r,h=>by
   rw[cC]at h;split at h;.rename_i b d q;obtain⟨r',h,_⟩:=map_eq_some_iff.mp h;exact⟨fun _ t ht=>by rw[q]at ht;cases ht;exact fun x=>Dj,gw h⟩
   . rename_i b ds q;split at h;.cases h
     .obtain⟨r',h,_⟩:=map_eq_some_iff.mp h;exact⟨fun hm=>absurd hm (gn q (by simp) h),gw h⟩
   . rename_i ds q;split at h;.cases h
     .obtain⟨r',h,_⟩:=map_eq_some_iff.mp h;exact⟨fun _ t ht=>by rw[q]at ht;cases ht;exact fun x=>yP,gw h⟩
   .cases h
theorem Yg{as:List Arg}{ss r:List Sl}{u:List Nat}(h:cC ρ as u=some r):dh as ss 0 ρ=bk as ss ρ:=by apply List.ext_getElem?;intro j;rw[xG,Bj (gw h),Nat.zero_add]
@[simp]theorem Vc{c:Call}{k:Nat}{as:List Arg}{ρ:List Sl}:qu c k as ρ=match cC ρ as []with|none=>.stuck|some args=>(c k args).bind fun r args'=>.ok r (bk as args' ρ):=by unfold qu;cases e:cC ρ as []with|none=>rfl|some args=>simp only[<-Yg (r:=args) e];cases c k args<;>rfl
theorem bH{one:Bool}{elt:P}(J:List Sl->Prop)(g:D->D){Q:List D->List Sl->Prop}(j:J ρ)(h:∀d,d∈ds->∀ρ,J ρ->∃ρ1,cH ρ is one d=some ρ1/\(ev c elt ρ1).sat fun r ρ3=>g d=r.d/\J ρ3)(k:∀ρ,J ρ->Q (ds.map g) ρ):(jA c is one none elt ds ρ).sat Q:=yx J g j h k
theorem gk{one:Bool}{elt t:P}(J:List Sl->Prop)(g:D->Option D){Q:List D->List Sl->Prop}(j:J ρ)(h:∀d,d∈ds->∀ρ,J ρ->∃ρ1,cH ρ is one d=some ρ1/\(ev c t ρ1).sat fun r ρ2=>∃b,r.d=.bl b/\if b=true then(ev c elt ρ2).sat fun r ρ3=>g d=some r.d/\J ρ3 else g d=none/\J ρ2)(k:∀ρ,J ρ->Q (ds.filterMap g) ρ):(jA c is one (some t) elt ds ρ).sat Q:=j6 J g j (fun d hd ρ j=>by obtain⟨ρ1,e,h1⟩:=h d hd ρ j;refine⟨ρ1,e,?_⟩;rw[kI,ji,bO];refine h1.imp fun r ρ2⟨b,e,q⟩=>?_;rw[e];exact q) fun ρ j=>by simpa using k ρ j
theorem fu{c:Call}{n:Nat}{t:P}{body:List S}(J:Nat->List Sl->Prop){Q:Fl->List Sl->Prop}(h:∀m ρ,J m ρ->(ev c t ρ).sat fun r ρ1=>∃b,r.d=.bl b/\if b=true then(gB c n body ρ1).sat (fQ (fun ρ2=>∃m',m'<m/\J m' ρ2) Q)else Q .next ρ1):∀{k m:Nat}{ρ:List Sl},m<k->J m ρ->(Ia c n t body k ρ).sat Q|0,m,ρ,hk,_=>absurd hk (Nat.not_lt_zero _)|k+1,m,ρ,hk,j=>by unfold Ia;rw[rT,bO,ji,bO];refine(h m ρ j).imp fun r ρ1⟨b,e,q⟩=>?_;rw[e];show(if b=true then _ else _:Res Fl).sat Q;cases b with|false=>rw[if_neg (by simp)]at q;rw[if_neg (by simp)];exact q|true=>rw[if_pos rfl]at q;rw[if_pos rfl,bO];refine q.imp fun fl ρ2 q=>?_;cases fl with|next=>obtain⟨m',hm,j'⟩:=q;exact fu J h (lt_of_lt_of_le hm (Nat.lt_succ_iff.mp hk)) j'|cont=>obtain⟨m',hm,j'⟩:=q;exact fu J h (lt_of_lt_of_le hm (Nat.lt_succ_iff.mp hk)) j'|brk=>exact q|ret v=>exact q
@[simp]theorem afY:type_of%@HH.E1:=@HH.E1
@[simp]theorem afZ:type_of%@HH.E2:=@HH.E2
@[simp]theorem afG:type_of%@HH.E3:=@HH.E3
@[simp]theorem afs:type_of%@HH.E4:=@HH.E4
@[simp]theorem afA:type_of%@HH.E5:=@HH.E5
@[simp]theorem afR:type_of%@HH.E6:=@HH.E6
@[simp]theorem afB:type_of%@HH.E7:=@HH.E7
@[simp]theorem afS:type_of%@HH.E8:=@HH.E8
@[simp]theorem afq:type_of%@HH.E9:=@HH.E9
@[simp]theorem abk:type_of%@HH.E10:=@HH.E10
@[simp]theorem aco:type_of%@HH.E11:=@HH.E11
@[simp]theorem abu:type_of%@HH.E12:=@HH.E12
@[simp]theorem acv:type_of%@HH.E13:=@HH.E13
@[simp]theorem acq:type_of%@HH.E14:=@HH.E14
@[simp]theorem acH:type_of%@HH.E15:=@HH.E15
@[simp]theorem ab7:type_of%@HH.E16:=@HH.E16
@[simp]theorem acM:type_of%@HH.E17:=@HH.E17
@[simp]theorem abE:type_of%@HH.E18:=@HH.E18
@[simp]theorem Zk:type_of%@HH.V6:=@HH.V6
@[simp]theorem acE:type_of%@HH.E20:=@HH.E20
@[simp]theorem ab4:type_of%@HH.E21:=@HH.E21
@[simp]theorem aca:type_of%@HH.E22:=@HH.E22
@[simp]theorem afv:type_of%@HH.X1:=@HH.X1
@[simp]theorem afD:type_of%@HH.X2:=@HH.X2
@[simp]theorem afx:type_of%@HH.X3:=@HH.X3
@[simp]theorem afl:type_of%@HH.X4:=@HH.X4
@[simp]theorem afw:type_of%@HH.X5:=@HH.X5
@[simp]theorem afQ:type_of%@HH.X6:=@HH.X6
@[simp]theorem afh:type_of%@HH.X7:=@HH.X7
@[simp]theorem afK:type_of%@HH.X8:=@HH.X8
@[simp]theorem afT:type_of%@HH.X9:=@HH.X9
@[simp]theorem abI:type_of%@HH.X10:=@HH.X10
@[simp]theorem abH:type_of%@HH.Y8:=@HH.Y8
@[simp]theorem abt:type_of%@HH.X12:=@HH.X12
@[simp]theorem acj:type_of%@HH.Xp:=@HH.Xp
@[simp]theorem aep:type_of%@HH.X14:=@HH.X14
@[simp]theorem abl:type_of%@HH.ji.eq_1:=@HH.ji.eq_1
@[simp]theorem aby:type_of%@HH.evs.eq_1:=@HH.evs.eq_1
@[simp]theorem aeb:type_of%@HH.evs.eq_2:=@HH.evs.eq_2
@[simp]theorem ade:type_of%@HH.yo.eq_1:=@HH.yo.eq_1
@[simp]theorem acK:type_of%@HH.yo.eq_2:=@HH.yo.eq_2
@[simp]theorem abO:type_of%@HH.kI.eq_1:=@HH.kI.eq_1
@[simp]theorem ad4:type_of%@HH.kI.eq_2:=@HH.kI.eq_2
@[simp]theorem adh:type_of%@HH.kW.eq_1:=@HH.kW.eq_1
@[simp]theorem Yn:type_of%@HH.cC.eq_1:=@HH.cC.eq_1
@[simp]theorem WK:type_of%@HH.cC.eq_2:=@HH.cC.eq_2
@[simp]theorem Ww:type_of%@HH.cC.eq_3:=@HH.cC.eq_3
@[simp]theorem Xo:type_of%@HH.cC.eq_4:=@HH.cC.eq_4
@[simp]theorem WX:type_of%@HH.dh.eq_1:=@HH.dh.eq_1
@[simp]theorem W3:type_of%@HH.dh.eq_2:=@HH.dh.eq_2
@[simp]theorem Yp:type_of%@HH.bD.eq_1:=@HH.bD.eq_1
@[simp]theorem Wq:type_of%@HH.bD.eq_2:=@HH.bD.eq_2
@[simp]theorem Wx:type_of%@HH.bD.eq_3:=@HH.bD.eq_3
@[simp]theorem WT:type_of%@HH.bD.eq_4:=@HH.bD.eq_4
end HH
end
section
namespace HH
open PySem L2 PySem.Spec PyProof.Rows
variable{H:Hp}
section
variable{X:Cx}{c:Call}{a b:Expr}{pa pb:P}{pos:Pos}
theorem mK:∀{ds:List D}{ns:List Int},ds.mapM iV=some ns->ds=ns.map D.int|[],ns,h=>by simp at h;subst h;rfl|d::ds,ns,h=>by simp[mapM_cons,Option.bind_eq_some_iff]at h;obtain⟨i,e1,ms,e2,rfl⟩:=h;rw[di e1,mK e2];rfl
theorem iM{K:PySem.W.Frag}{F:Hp}:∀{ns:List Int}{ys:List V},aL K F ys (ns.map D.int)->ys=ns.map V.int|[],ys,h=>by rw[h.fB];rfl|n::ns,ys,h=>by obtain⟨v,r,rfl,h1,t⟩:=h.cL;rw[Rep]at h1;rw[h1,iM t];rfl
theorem mQ{ns:List Int}{us:List Value}(h:Vals (ns.map V.int) us){i:Nat}{v:Value}(e:us.toArray[i]?=some v):∃t,v=.int (ns.getD i 0) t:=by
 have e:us[i]?=some v:=by simpa using e
 have hi:i<us.length:=(cV e).1;have hl:=h.length;rw[length_map]at hl;have g:(ns.map V.int)[i]?=some (.int (ns.getD i 0)):=by rw[getElem?_map,getElem?_eq_getElem (by omega)];simp[getD,show i<ns.length by omega]
 obtain⟨w,g1,g2⟩:=h.get g;rw[e]at g1;cases g1;exact g2
theorem walked{pins:List (Addr×Obj)}{σ:L2.St}{s:Shared}{p:Addr}{ys:List V}(I:L2.Inv X pins σ H s)(hc:X.calm=true)(hq:dF X.K H p ys\/iT X.K H p ys){Q:Value->Shared->Prop}{E:Value->Shared->Prop}(k:∀(it:Addr)(us:List Value)(s₂:Shared)(St:Nat->Heap->Prop),Vals ys us->Walks X.prog X.w X.A.in1 it [it,p] [it] us.toArray.size (fun i v=>us.toArray[i]?=some v) St->St 0 s₂.heap->(∀ b ∈[it,p],b<s₂.heap.objs.size)->(∀h' tk,(∀b o,b∉[it]->s₂.heap.get? b=some o->h'.get? b=some o)->L2.Inv X pins σ H {s₂ with heap:=h',toks:=tk})->Q (.ref it) s₂):wpAny (model X.prog X.w) X.A.in1 (pyIter (.ref p)) Q E s:=by
 have hh:X.A.in1.handled=none:=I.ok.hd hc;rcases hq with hq|hq
 . obtain⟨us,rv,pl,hz⟩:=I.list hq;have pl:=pl.isList;have hlt:p<s.heap.objs.size:=by obtain⟨o,h1,_⟩:=pl;exact lt_size h1
   refine wpAny_pyIter_list pl (k s.heap.objs.size us _ _ rv (Walks.list hh s.heap.objs.size p (ne_of_lt hlt) us.toArray) ⟨⟨_,get?_push_size _ rfl,rfl,rfl⟩,?_⟩ ?_ fun h' tk kp=>?_);.obtain⟨o,h1,h2⟩:=pl;exact⟨o,dw h1,h2⟩
   . intro b hb;obtain⟨o,h1,_⟩:=pl;simp at hb;rcases hb with rfl|rfl;.exact lt_size (get?_push_size _ rfl)
     .exact lt_size (dw h1)
   .exact I.kept (fun b o z=>kp b o (by simp;exact ne_of_lt (lt_size z)) (dw z))
 . obtain⟨us,rv,pl,hz⟩:=I.tuple hq;have hlt:p<s.heap.objs.size:=by obtain⟨o,h1,_⟩:=pl;exact lt_size h1
   refine wpAny_pyIter_tuple pl (k s.heap.objs.size us _ _ rv (Walks.tuple hh s.heap.objs.size p (ne_of_lt hlt) us.toArray) ⟨⟨_,get?_push_size _ rfl,rfl,rfl⟩,?_⟩ ?_ fun h' tk kp=>?_);.obtain⟨o,h1,h2⟩:=pl;exact⟨o,dw h1,h2⟩
   . intro b hb;obtain⟨o,h1,_⟩:=pl;simp at hb;rcases hb with rfl|rfl;.exact lt_size (get?_push_size _ rfl)
     .exact lt_size (dw h1)
   .exact I.kept (fun b o z=>kp b o (by simp;exact ne_of_lt (lt_size z)) (dw z))
theorem oG(ns:List Int):∀k,k<=ns.length->preSum (fun i=>ns.getD i 0) k=(ns.take k).sum|0,_=>by simp[preSum]|k+1,h=>by rw[preSum,oG ns k (by omega),List.take_succ,sum_append];simp[getD,show k<ns.length by omega]
theorem Xr(hc:X.calm=true):fL X (.builtin "sum") (J7 X.K fun x=>blt .sum [x]):=by
 rintro pins s σ H xs us Q I r⟨x,hx,F,d,r',sm,px,he,k⟩;obtain⟨ns,e1,he⟩:=map_some (show((items d).bind fun ds=>ds.mapM iV).map _=some r' from he);subst he;obtain⟨ds,e2,e3⟩:=cF e1;obtain⟨p,ys,rfl,hq,rs⟩:=px.items sm e2;rw[mK e3]at rs;have ey:=iM rs;subst hx;obtain⟨u,rfl,rx⟩:=r.one;cases rx;refine call_sum_walkG (walked I hc hq fun it us s₂ St rv W h0 hl kp=>?_);subst ey;have hlen:us.toArray.size=ns.length:=by rw[size_toArray,<-rv.length,length_map]
 refine⟨it,_,_,_,_,St,fun i=>ns.getD i 0,rfl,W,h0,hl,fun i v e=>mQ rv e,fun h' tk t' kk=>?_⟩;rw[hlen,oG ns _ (cR),List.take_length];exact⟨.int _,H,kp h' tk kk,⟨t',rfl⟩,cG.cU sm (bY _) k⟩
theorem HD{ns:List Int}{m:Int}(hm:ns.min?=some m):ns.getD (argBest (fun i j=>decide (ns.getD i 0<ns.getD j 0)) (ns.length-1)) 0=m:=by
 have hne:ns≠[]:=by rintro rfl;simp at hm
 have hl:0<ns.length:=List.length_pos_iff.mpr hne;obtain⟨h1,h2⟩:=argBest_lt (fun i=>ns.getD i 0) (ns.length-1);have hb:=List.min?_eq_some_iff.mp hm;generalize argBest (fun i j=>decide (ns.getD i 0<ns.getD j 0)) (ns.length-1)=j at*;have hj:j<ns.length:=by omega
 have hmem:ns.getD j 0∈ns:=by simp[getD,hj]
 obtain⟨q,hq,e⟩:=getElem_of_mem hb.1;have h3:=h2 q (by omega);simp only[getD,getElem?_eq_getElem hq,getD_some]at h3;rw[e]at h3;have h4:=hb.2 _ hmem;have h3:ns.getD j 0<=m:=h3;omega
theorem GR{ns:List Int}{m:Int}(hm:ns.max?=some m):ns.getD (argBest (fun i j=>decide (ns.getD i 0>ns.getD j 0)) (ns.length-1)) 0=m:=by
 have hne:ns≠[]:=by rintro rfl;simp at hm
 have hl:0<ns.length:=List.length_pos_iff.mpr hne;obtain⟨h1,h2⟩:=argBest_gt (fun i=>ns.getD i 0) (ns.length-1);have hb:=List.max?_eq_some_iff.mp hm;generalize argBest (fun i j=>decide (ns.getD i 0>ns.getD j 0)) (ns.length-1)=j at*;have hj:j<ns.length:=by omega
 have hmem:ns.getD j 0∈ns:=by simp[getD,hj]
 obtain⟨q,hq,e⟩:=getElem_of_mem hb.1;have h3:=h2 q (by omega);simp only[getD,getElem?_eq_getElem hq,getD_some]at h3;rw[e]at h3;have h4:=hb.2 _ hmem;have h3:m<=ns.getD j 0:=h3;omega
theorem QQ(hc:X.calm=true):fL X (.builtin "min") (J7 X.K fun x=>blt .vH [x]):=by
 rintro pins s σ H xs us Q I r⟨x,hx,F,d,r',sm,px,he,k⟩;obtain⟨ns,e1,he⟩:=cF (show((items d).bind fun ds=>ds.mapM iV).bind _=some r' from he);obtain⟨m,hm,he⟩:=map_some he;subst he;obtain⟨ds,e2,e3⟩:=cF e1;obtain⟨p,ys,rfl,hq,rs⟩:=px.items sm e2;rw[mK e3]at rs;have ey:=iM rs;subst hx;obtain⟨u,rfl,rx⟩:=r.one;cases rx;refine call_min_walk (walked I hc hq fun it us s₂ St rv W h0 hl kp=>?_);subst ey;have hlen:us.toArray.size=ns.length:=by rw[size_toArray,<-rv.length,length_map]
 have hpos:0<ns.length:=by cases ns with|nil=>simp at hm|cons _ _=>simp
 refine⟨it,_,_,_,_,St,_,rfl,W,h0,hl,by rw[hlen];exact hpos,CmpOf.ints_lt (fun i=>ns.getD i 0) (fun i v e=>mQ rv e),fun v h' tk hv kk=>?_⟩;rw[hlen]at hv;obtain⟨t,rfl⟩:=mQ rv hv;rw[HD hm];exact⟨.int _,H,kp h' tk kk,⟨t,rfl⟩,cG.cU sm (bY _) k⟩
theorem Qv(hc:X.calm=true):fL X (.builtin "max") (J7 X.K fun x=>blt .JX [x]):=by
 rintro pins s σ H xs us Q I r⟨x,hx,F,d,r',sm,px,he,k⟩;obtain⟨ns,e1,he⟩:=cF (show((items d).bind fun ds=>ds.mapM iV).bind _=some r' from he);obtain⟨m,hm,he⟩:=map_some he;subst he;obtain⟨ds,e2,e3⟩:=cF e1;obtain⟨p,ys,rfl,hq,rs⟩:=px.items sm e2;rw[mK e3]at rs;have ey:=iM rs;subst hx;obtain⟨u,rfl,rx⟩:=r.one;cases rx;refine call_max_walk (walked I hc hq fun it us s₂ St rv W h0 hl kp=>?_);subst ey;have hlen:us.toArray.size=ns.length:=by rw[size_toArray,<-rv.length,length_map]
 have hpos:0<ns.length:=by cases ns with|nil=>simp at hm|cons _ _=>simp
 refine⟨it,_,_,_,_,St,_,rfl,W,h0,hl,by rw[hlen];exact hpos,CmpOf.ints_gt (fun i=>ns.getD i 0) (fun i v e=>mQ rv e),fun v h' tk hv kk=>?_⟩;rw[hlen]at hv;obtain⟨t,rfl⟩:=mQ rv hv;rw[GR hm];exact⟨.int _,H,kp h' tk kk,⟨t,rfl⟩,cG.cU sm (bY _) k⟩
theorem boot_sum:bootBuiltins "sum"=some (.builtin "sum"):=by decide+kernel
theorem p6{x:Str}{p':Pos}(hx:x="sum")(hc:X.calm=true)(hg:Gl X x)(hm:X.mg x=none)(ha:SX X c a pa)(hs:starEach [a] X.env=(false,eval a X.env)::starEach [] X.env:=by rfl):SX X c (.Call (.Name x p') [a] [] pos) (.blt .sum [pa]):=by subst hx;exact lM (fun h=>gG (Xr hc) hg hm boot_sum h (he:=hs)) ha (fun ρ=>rfl) rfl hs
theorem mV{x:Str}{p':Pos}(hx:x="min")(hc:X.calm=true)(hg:Gl X x)(hm:X.mg x=none)(ha:SX X c a pa)(hs:starEach [a] X.env=(false,eval a X.env)::starEach [] X.env:=by rfl):SX X c (.Call (.Name x p') [a] [] pos) (.blt .vH [pa]):=by subst hx;exact lM (fun h=>gG (QQ hc) hg hm boot_min h (he:=hs)) ha (fun ρ=>rfl) rfl hs
theorem Nm{x:Str}{p':Pos}(hx:x="max")(hc:X.calm=true)(hg:Gl X x)(hm:X.mg x=none)(ha:SX X c a pa)(hs:starEach [a] X.env=(false,eval a X.env)::starEach [] X.env:=by rfl):SX X c (.Call (.Name x p') [a] [] pos) (.blt .JX [pa]):=by subst hx;exact lM (fun h=>gG (Qv hc) hg hm boot_max h (he:=hs)) ha (fun ρ=>rfl) rfl hs
theorem yI{K:PySem.W.Frag}{F H:Hp}{v:V}{d:D}(h:dz K F H v d)(f:flat d=true):kO v=true:=by cases d with|non=>rw[h.non];rfl|bl _=>rw[h.bl];rfl|int _=>rw[h.int];rfl|str _=>rw[h.str];rfl|tup _=>cases f|lst _=>cases f|dN _=>cases f|dv _ _=>cases f
theorem abr{K:PySem.W.Frag}{F H:Hp}{v u:V}{d e:D}(h:dz K F H v d)(h':dz K F H u e)(f:flat d=true)(g:flat e=true):Mz v u=j5 d e:=by cases d with
 |tup _=>cases f|lst _=>cases f|dN _=>cases f|dv _ _=>cases f|non=>rw[h.non];cases e with|tup _=>cases g|lst _=>cases g|dN _=>cases g|dv _ _=>cases g|non=>rw[h'.non];rfl|bl _=>rw[h'.bl];rfl|int _=>rw[h'.int];rfl|str _=>rw[h'.str];rfl
 |bl _=>rw[h.bl];cases e with|tup _=>cases g|lst _=>cases g|dN _=>cases g|dv _ _=>cases g|non=>rw[h'.non];rfl|bl _=>rw[h'.bl];rfl|int _=>rw[h'.int];rfl|str _=>rw[h'.str];rfl
 |int _=>rw[h.int];cases e with|tup _=>cases g|lst _=>cases g|dN _=>cases g|dv _ _=>cases g|non=>rw[h'.non];rfl|bl _=>rw[h'.bl];rfl|int _=>rw[h'.int];rfl|str _=>rw[h'.str];rfl
 |str _=>rw[h.str];cases e with|tup _=>cases g|lst _=>cases g|dN _=>cases g|dv _ _=>cases g|non=>rw[h'.non];rfl|bl _=>rw[h'.bl];rfl|int _=>rw[h'.int];rfl|str _=>rw[h'.str];rfl
theorem R5{K:PySem.W.Frag}{F H:Hp}{v:V}{d:D}(h:dz K F H v d)(f:flat d=true):∀{ds:List D}{vs:List V},aL K F vs ds->ds.all flat=true->vs.all kO=true/\inV v vs=ds.any fun y=>j5 y d|[],vs,r,_=>by rw[r.fB];exact⟨rfl,rfl⟩|e::ds,vs,r,g=>by obtain⟨w,ws,rfl,h1,t⟩:=r.cL;rw[all_cons,and_eq_true]at g;obtain⟨i1,i2⟩:=R5 h f t g.2;have q:dz K F H w e:=.inl h1;refine⟨by rw[all_cons,yI q g.1,i1];rfl,?_⟩;unfold inV at i2 ⊢;rw[any_cons,any_cons,i2,abr q h g.1 f]
theorem pQ:dC X (compareOp .In) (rD X.K (kW .inn)):=by rintro pins s σ H x y v u Q I rx ry⟨F,d,e,r,sm,px,py,he,k⟩;obtain⟨t,e1,e2⟩:=map_some (show(oZ false d e).map _=some r from he);subst e2;obtain⟨ds,e3,e4⟩:=cF e1;obtain⟨hf,e5⟩:=bG e4;rw[and_eq_true]at hf;obtain⟨p,xs,rfl,hq,rs⟩:=py.items sm e3;obtain⟨i1,i2⟩:=R5 px hf.1 rs hf.2;subst e5;refine DP pins s σ H x _ v u Q I rx ry ⟨p,xs,rfl,hq,yI px hf.1,i1,?_⟩;rw[i2];exact cG.cU sm (eN _) k
theorem nD:dC X (compareOp .NotIn) (rD X.K (kW .rJ)):=by rintro pins s σ H x y v u Q I rx ry⟨F,d,e,r,sm,px,py,he,k⟩;obtain⟨t,e1,e2⟩:=map_some (show(oZ true d e).map _=some r from he);subst e2;obtain⟨ds,e3,e4⟩:=cF e1;obtain⟨hf,e5⟩:=bG e4;rw[and_eq_true]at hf;obtain⟨p,xs,rfl,hq,rs⟩:=py.items sm e3;obtain⟨i1,i2⟩:=R5 px hf.1 rs hf.2;subst e5;refine uW pins s σ H x _ v u Q I rx ry ⟨p,xs,rfl,hq,yI px hf.1,i1,?_⟩;rw[i2];exact cG.cU sm (eN _) k
end
end HH
end
section
namespace HH
open PySem
variable{i:Int}
section
variable{i j:Int}{ds es:List D}{d:D}{b b':Bool}
@[simp]theorem ZF:pN .shl=v7:=rfl
@[simp]theorem Zo:pN .shr=wX:=rfl
@[simp]theorem Yr:pN .band=pX:=rfl
@[simp]theorem Uk:v7 (.int i) (.int j)=if 0<=j/\j<=1000/\i.natAbs<18446744073709551616 then some (.val (.int (i*2^j.toNat)))else none:=rfl
@[simp]theorem Ul:wX (.int i) (.int j)=if 0<=j then some (.val (.int (i/2^j.toNat)))else none:=rfl
@[simp]theorem QX:pX (.int i) (.int j)=some (.val (.int (Builtin.bitAnd i j))):=rfl
@[simp]theorem Ub:qz (.lst ds) (.int i)=if 0<=i/\0<ds.length/\ds.length*i.toNat<=lim then some (.own (replicate i.toNat ds).flatten)else none:=rfl
@[simp]theorem Us:qz (.tup ds) (.int i)=if 0<=i/\0<ds.length/\ds.length*i.toNat<=lim then some (.val (.tup (replicate i.toNat ds).flatten))else none:=rfl
@[simp]theorem acI:cm .Yz (.bl b) (.bl true)=some b:=rfl
@[simp]theorem Zj:cm .JV (.bl b) (.bl true)=some (!b):=rfl
@[simp]theorem Z9:blt .sum [.lst ds]=(ds.mapM iV).map fun ns=>.val (.int ns.sum):=rfl
@[simp]theorem Yo:blt .vH [.lst ds]=(ds.mapM iV).bind fun ns=>ns.min?.map fun i=>.val (.int i):=rfl
@[simp]theorem V3:blt .JX [.lst ds]=(ds.mapM iV).bind fun ns=>ns.max?.map fun i=>.val (.int i):=rfl
end
@[simp]theorem aeo:type_of%@HH.X16:=@HH.X16
@[simp]theorem acU:type_of%@HH.X17:=@HH.X17
theorem fK{ns:List Int}:(ns.map D.int).mapM iV=some ns:=by induction ns with|nil=>rfl|cons n ns ih=>simp[ih]
@[simp]theorem Vf{ns:List Int}:ns.mapM (iV ∘ D.int)=some ns:=by rw[<-fK (ns:=ns),List.mapM_map]
@[simp]theorem Xe{bs:List Bool}:bs.mapM (xP ∘ D.bl)=some bs:=by induction bs with|nil=>rfl|cons b bs ih=>simp[ih]
theorem pI{S:List Int}:((S.map D.int).any fun y=>j5 y (.int i))=S.contains i:=by induction S with|nil=>rfl|cons s S ih=>rw[map_cons,any_cons,List.contains_cons,ih,pqi];rw[show(s==i)=(i==s)from Bool.eq_iff_iff.mpr ⟨fun h=>by simp at h ⊢;exact h.symm,fun h=>by simp at h ⊢;exact h.symm⟩]
theorem mY{S:List Int}:(S.map D.int).all flat=true:=by rw[all_eq_true];intro d hd;obtain⟨i,_,rfl⟩:=mem_map.mp hd;rfl
theorem Qz{S:List Int}:cm .inn (.int i) (.lst (S.map D.int))=some (S.contains i):=by show oZ false _ _=_;unfold oZ;simp only[tD,bind_some,mW,mY,Bool.and_true,pI];rfl
theorem lD{S:List Int}:cm .inn (.int i) (.tup (S.map D.int))=some (S.contains i):=by show oZ false _ _=_;unfold oZ;simp only[uh,bind_some,mW,mY,Bool.and_true,pI];rfl
theorem Dv{S:List Int}:cm .rJ (.int i) (.lst (S.map D.int))=some (!S.contains i):=by show oZ true _ _=_;unfold oZ;simp only[tD,bind_some,mW,mY,Bool.and_true,pI];rfl
theorem gq{S:List Int}:cm .rJ (.int i) (.tup (S.map D.int))=some (!S.contains i):=by show oZ true _ _=_;unfold oZ;simp only[uh,bind_some,mW,mY,Bool.and_true,pI];rfl
theorem pB{n:Nat}{S:List Int}:dI (n+1) (.lst (S.map D.int))=true:=by rw[dI,all_eq_true];intro d hd;obtain⟨i,_,rfl⟩:=mem_map.mp hd;cases n<;>rfl
theorem pY:∀{S T:List Int},iz (S.map D.int) (T.map D.int)=(S==T)|[],[]=>by simp[iz]|[],_::_=>by simp[iz]|_::_,[]=>by simp[iz]|s::S,t::T=>by rw[map_cons,map_cons,iz,pY,pqi];rfl
theorem Ni{S T:List Int}:cm .eq (.lst (S.map D.int)) (.lst (T.map D.int))=some (S==T):=by show Hz _ _=_;unfold Hz;rw[pB,pB,Zb,pY];rfl
theorem K7{S T:List Int}:cm .ne (.lst (S.map D.int)) (.lst (T.map D.int))=some (!(S==T)):=by show zJ _ _=_;unfold zJ;rw[pB,pB,Zb,pY];rfl
theorem K5{S:List Int}:cm .eq (.lst (S.map D.int)) (.lst [])=some S.isEmpty:=by rw[show(.lst []:D)=.lst (([]:List Int).map D.int)from rfl,Ni];cases S<;>rfl
theorem Nr{S:List Int}:cm .ne (.lst (S.map D.int)) (.lst [])=some (!S.isEmpty):=by rw[show(.lst []:D)=.lst (([]:List Int).map D.int)from rfl,K7];cases S<;>rfl
theorem Ag{α:Type}{l:List α}{x:α}:at' (l++[x]) (-1)=some x:=by
 unfold at' iD;rw[if_neg (by decide),if_pos (by simp only[length_append,List.length_singleton];omega)];have:(-1+((l++[x]).length:Int)).toNat=l.length:=by simp only[length_append,List.length_singleton];omega
 rw[this];simp
theorem cB{α:Type}{l:List α}{f:α->D}{k:Nat}{x:α}(h:l[k]?=some x):at' (l.map f) (k:Int)=some (f x):=by have hk:=(cV h).1;rw[Jp (by simpa using hk),getElem?_map,h];rfl
theorem uN{n k:Nat}(h:k<n):iD n (k:Int)=some k:=by unfold iD;rw[if_pos (by omega),if_pos (by omega)];simp
theorem Lk{α:Type}{l:List α}(h:0<=i)(h':i<l.length):∃x,at' l i=some x/\x∈l:=by
 rw[jk h h'];have hk:i.toNat<l.length:=by omega
 exact⟨l[i.toNat],by simp[hk],getElem_mem hk⟩
theorem iQ{is:List Nat}{one:Bool}{body:List Sl->Res Fl}{g:Nat->D}{N:Nat}(J:Nat->List Sl->Prop){Q:Fl->List Sl->Prop}(hb:∀i ρ,i<N->J i ρ->∃ρ1,cH ρ is one (g i)=some ρ1/\(body ρ1).sat (fQ (J (i+1)) Q))(hq:∀ρ,J N ρ->Q .next ρ){ρ:List Sl}(h0:J 0 ρ):(iG is one body ((List.range N).map g) ρ).sat Q:=by
 refine cu (fun r ρ=>∃i,i<=N/\r=((List.range N).map g).drop i/\J i ρ) ?_ ?_ ⟨0,Bm,rfl,h0⟩
 . rintro d r ρ⟨i,hi,e,j⟩;have hlt:i<N:=by
    rcases Nat.lt_or_ge i N with h|h;.exact h
    .rw[List.drop_eq_nil_of_le (by simpa using h)]at e;cases e
   rw[drop_eq_getElem_cons (by simpa using hlt)]at e;injection e with e1 e2;simp at e1;subst e1;obtain⟨ρ1,h1,h2⟩:=hb i ρ hlt j;refine⟨ρ1,h1,h2.imp fun fl ρ2 q=>?_⟩;cases fl with|next=>exact⟨i+1,hlt,e2,q⟩|cont=>exact⟨i+1,hlt,e2,q⟩|brk=>exact q|ret v=>exact q
 . rintro ρ⟨i,hi,e,j⟩;have:i=N:=by have hl:=congrArg List.length e;simp at hl;omega
   subst this;exact hq ρ j
theorem tu{c:Call}{is:List Nat}{one:Bool}{elt:P}{t:Option P}(J:List Sl->Prop)(P:D->Prop){Q:List D->List Sl->Prop}{ds:List D}{ρ:List Sl}(j:J ρ)(h:∀d,d∈ds->∀ρ,J ρ->∃ρ1,cH ρ is one d=some ρ1/\(kI c t ρ1).sat fun b ρ2=>if b=true then(ev c elt ρ2).sat fun r ρ3=>P r.d/\J ρ3 else J ρ2)(k:∀xs ρ,J ρ->xs.length<=ds.length->(∀x∈xs,P x)->Q xs ρ):(jA c is one t elt ds ρ).sat Q:=by suffices hh:∀(ds:List D)(acc:List D)(ρ:List Sl),J ρ->(∀x∈acc,P x)->(∀d,d∈ds->∀ρ,J ρ->∃ρ1,cH ρ is one d=some ρ1/\(kI c t ρ1).sat fun b ρ2=>if b=true then(ev c elt ρ2).sat fun r ρ3=>P r.d/\J ρ3 else J ρ2)->(turns is one (kI c t) (ev c elt) ds acc ρ).sat fun xs ρ=>J ρ/\(∀x∈xs,P x)/\xs.length<=acc.length+ds.length from(hh ds [] ρ j (by simp) h).imp fun xs ρ⟨q1,q2,q3⟩=>k xs ρ q1 (by simpa using q3) q2;intro ds;induction ds with|nil=>intro acc ρ j ha _;rw[turns];exact⟨j,ha,by simp⟩|cons d r ih=>
   intro acc ρ j ha h;obtain⟨ρ1,e,h1⟩:=h d (by simp) ρ j;rw[turns,e];show((kI c t ρ1).bind _).sat _;rw[bO];refine h1.imp fun b ρ2 q=>?_
   cases b with|true=>
     rw[if_pos rfl]at q;rw[if_pos rfl,bO];refine q.imp fun x ρ3⟨p,j3⟩=>?_;refine(ih (acc++[x.d]) ρ3 j3 (fun y hy=>?_) fun d' hd'=>h d' (by simp[hd'])).imp fun xs ρ⟨q1,q2,q3⟩=>⟨q1,q2,by simp at q3 ⊢;omega⟩;rcases mem_append.mp hy with hy|hy;.exact ha y hy
     .rw[mem_singleton.mp hy];exact p|false=>rw[if_neg (by simp)]at q;rw[if_neg (by simp)];exact(ih acc ρ2 q ha fun d' hd'=>h d' (by simp[hd'])).imp fun xs ρ⟨q1,q2,q3⟩=>⟨q1,q2,by simp at q3 ⊢;omega⟩
theorem uc{c:Call}{is:List Nat}{one:Bool}{elt:P}(J:List Sl->Prop)(P:D->Prop){Q:List D->List Sl->Prop}{ds:List D}{ρ:List Sl}(j:J ρ)(h:∀d,d∈ds->∀ρ,J ρ->∃ρ1,cH ρ is one d=some ρ1/\(ev c elt ρ1).sat fun r ρ3=>P r.d/\J ρ3)(k:∀xs ρ,J ρ->xs.length=ds.length->(∀x∈xs,P x)->Q xs ρ):(jA c is one none elt ds ρ).sat Q:=by suffices hh:∀(ds:List D)(acc:List D)(ρ:List Sl),J ρ->(∀x∈acc,P x)->(∀d,d∈ds->∀ρ,J ρ->∃ρ1,cH ρ is one d=some ρ1/\(ev c elt ρ1).sat fun r ρ3=>P r.d/\J ρ3)->(turns is one (kI c none) (ev c elt) ds acc ρ).sat fun xs ρ=>J ρ/\(∀x∈xs,P x)/\xs.length=acc.length+ds.length from(hh ds [] ρ j (by simp) h).imp fun xs ρ⟨q1,q2,q3⟩=>k xs ρ q1 (by simpa using q3) q2;intro ds;induction ds with|nil=>intro acc ρ j ha _;rw[turns];exact⟨j,ha,by simp⟩|cons d r ih=>
   intro acc ρ j ha h;obtain⟨ρ1,e,h1⟩:=h d (by simp) ρ j;rw[turns,e];show((kI c none ρ1).bind _).sat _;rw[kI];show((ev c elt ρ1).bind _).sat _;rw[bO];refine h1.imp fun x ρ3⟨p,j3⟩=>?_;refine(ih (acc++[x.d]) ρ3 j3 (fun y hy=>?_) fun d' hd'=>h d' (by simp[hd'])).imp fun xs ρ⟨q1,q2,q3⟩=>⟨q1,q2,by simp at q3 ⊢;omega⟩;rcases mem_append.mp hy with hy|hy;.exact ha y hy
   .rw[mem_singleton.mp hy];exact p
inductive A3(a b c:Prop):Prop where|mk(ha:a)(hb:b)(hc:c)
inductive A4(a b c d:Prop):Prop where|mk(ha:a)(hb:b)(hc:c)(hd:d)
inductive A5(a b c d e:Prop):Prop where|mk(ha:a)(hb:b)(hc:c)(hd:d)(he:e)
inductive A6(a b c d e f:Prop):Prop where|mk(ha:a)(hb:b)(hc:c)(hd:d)(he:e)(hf:f)
inductive A7(a b c d e f g:Prop):Prop where|mk(ha:a)(hb:b)(hc:c)(hd:d)(he:e)(hf:f)(hg:g)
inductive A8(a b c d e f g h:Prop):Prop where|mk(ha:a)(hb:b)(hc:c)(hd:d)(he:e)(hf:f)(hg:g)(hh:h)
inductive A9(a b c d e f g h i:Prop):Prop where|mk(ha:a)(hb:b)(hc:c)(hd:d)(he:e)(hf:f)(hg:g)(hh:h)(hi:i)
end HH
end
section
namespace HH
open PySem L2 PySem.Spec PyProof.Rows
section
variable{X:Cx}{c:Call}{n:Nat}{e a b d tg:Expr}{p pa pb pd:P}{pos:Pos}
theorem Sv{g:TG}{is:List Nat}(he:SX X c e p)(hg:PG X tg g)(hgo:Jk X.K (fun ρ d=>cH ρ is false d) g)(hs:swapsWithSole [tg] e pos.line X.env=pure false:=by rfl)(hw:swappedStores [tg] e X.env=pure none:=by rfl)(h1:(assignEach [tg] X.env).map (·.2)=[assign tg X.env]:=by rfl):SS X c n (.Assign [tg] e pos) (.unp is p):=by
 refine dX (G9 he.ev hg hs hw h1) ?_;rintro D σ H⟨F,ρ,fl,ρ',g0,e,k⟩;rw[HH.X8]at e;obtain⟨r,ρ1,e1,e⟩:=ao e;refine⟨F,ρ,r,ρ1,g0,e1,fun v F1 H1 s1 rr=>?_⟩;obtain⟨F2,s2,_,rp⟩:=s1.cX rr;split at e;.rename_i ds hd;obtain⟨ρ2,ρ3,e2,e⟩:=ao e;cases e;have zz:=aB e2;clear e2;obtain⟨e2,e3⟩:=zz;rw[hd]at rp;exact hgo v (.tup ds) F2 ρ1 _ σ H1 _ s2.gs rp (by show cH ρ1 is false (.tup ds)=_;cases is<;>exact e2) fun σ' s3=>k F2 σ' H1 (s2.trans s3)
 .cases e
theorem Mu:dC X (compareOp .Is) (rD X.K (kW .Yz)):=by
 rintro pins s σ H x y v u Q I rx ry⟨F,d,e,r,sm,px,py,he,k⟩;obtain⟨t,e1,e2⟩:=map_some (show(TY false d e).map _=some r from he);subst e2;unfold TY at e1;split at e1;.rename_i b;cases e1;rw[px.bl]at rx;rw[py.bl]at ry;cases rx;cases ry;have q:=cG.cU sm (eN b) k;cases b<;>exact wpAny_pure ⟨.bl _,H,I,rfl,q⟩
 .cases e1
theorem Hu:dC X (compareOp .IsNot) (rD X.K (kW .JV)):=by
 rintro pins s σ H x y v u Q I rx ry⟨F,d,e,r,sm,px,py,he,k⟩;obtain⟨t,e1,e2⟩:=map_some (show(TY true d e).map _=some r from he);subst e2;unfold TY at e1;split at e1;.rename_i b;cases e1;rw[px.bl]at rx;rw[py.bl]at ry;cases rx;cases ry;have q:=cG.cU sm (eN (!b)) k;cases b<;>exact wpAny_pure ⟨.bl _,H,I,rfl,q⟩
 .cases e1
end
end HH
end
section
namespace HT
open PySem PySem.Spec PyProof.Rows
section
variable{prog:Program}{w:World}{A:Around}{E:Value->Shared->Prop}{s:Shared}
theorem xq{t sl:Addr}{its:Array Value}{vl vu:Value}{lo hi:Option Int}{Q:Value->Shared->Prop}(ht:IsTup s.heap t its)(hs:s.heap.IsSliceOf sl vl vu .none)(pl:IsPart vl lo)(pu:IsPart vu hi)(h1:cZ its.size 0 lo=0)(h2:cZ its.size its.size hi=its.size)(h:Q (.ref t) s):wpAny (model prog w) A (getItem (.ref t) (.ref sl)) Q E s:=by
 obtain⟨os,hos,hcs,hds⟩:=id hs;have hT:s.TypeIs (.ref sl) "slice":=⟨os,hos,hcs⟩;unfold getItem;try with_reducible refine wpAny_holding ?_
 first|refine wpAny_bind (wpAny_pure ?_)|skip
 refine wpAny_bind (wpAny_sequenceKey ht.typeIs (by decide) (wpAny_bind (wpAny_callSpecial?_slot (name:=Str.ofString "__getitem__") ht.typeIs slot_tuple_getitem (wpAny_call_entry slot_tuple_getitem ht.typeIs entry_tuple_getitem ?_ (args_tuple_getitem _ _)))));show wpAny _ _ (tupleItemsOf (.ref t)>>=_) _ _ s;refine wpAny_bind (tupleItemsOf_ ht (wpAny_bind (wpAny_typeOf hT ?_)));rw[if_pos (by decide)];refine wpAny_bind (iR hs pl pu ?_);have aeJ:((((cZ its.size 0 lo:Nat):Int)==0&&(1:Int)==1&&(cZ its.size its.size hi-cZ its.size 0 lo)==its.size)=true):=by rw[h1,h2];simp
 show wpAny _ _ (if(((cZ its.size 0 lo:Nat):Int)==0&&(1:Int)==1&&(cZ its.size its.size hi-cZ its.size 0 lo)==its.size)=true then _ else _) _ _ s;rw[if_pos aeJ];unfold Builtin.Tuple.tupleIsExact;refine wpAny_bind (wpAny_bind (wpAny_typeOf ht.typeIs (wpAny_pure ?_)));rw[if_pos (by decide)];exact wpAny_bind (wpAny_rule (wpAny_pure ⟨_,rfl,wpAny_pure h⟩))
end
end HT
namespace HH
open PySem L2 PySem.Spec PyProof.Rows
noncomputable def nst:Expr->Bool|.Starred _ _=>false|_=>true
theorem jb{e:Expr}{es:List Expr}{env:Env}(h:nst e=true):starEach (e::es) env=(false,eval e env)::starEach es env:=by cases e with|Starred a b=>cases h|_=>rw[starEach];(intro e p z;cases z)
noncomputable def qp:List Int->List Expr->Option (List Expr)|[],es=>some es|i::is,.Constant (.int j) _ _::es=>if i=j then qp is es else none|_,_=>none
theorem ur{X:L2.Cx}{c:Call}:∀(is:List Int){es es':List Expr}{ps':List P},qp is es=some es'->SA X c es' ps'->SA X c es (is.map (fun i=>P.con (.int i))++ps')|[],es,es',ps',h,r=>by cases h;exact r|i::is,[],es',ps',h,r=>by cases h|i::is,e::es,es',ps',h,r=>by cases e with
   |Constant v k p=>cases v with
     |int j=>
       replace h:(if i=j then qp is es else none)=some es':=h;split at h;.rename_i hij;subst hij;exact pG aa (ur is h r) (jb rfl)
       .cases h|_=>cases h
   |_=>cases h
theorem vD{n d:Nat}{o:Option Int}:HT.cZ n d o=HH.cZ n d o:=by cases o with|none=>rfl|some v=>
   show(if v<0 then(v+(n:Int)).toNat else min v.toNat n)=(if 0<=v then min v.toNat n else(v+n).toNat);by_cases h:0<=v;.rw[if_pos h,if_neg (by omega)]
   .rw[if_neg h,if_pos (by omega)]
theorem GK{xs:List V}{lo hi:Option Int}:wR xs lo hi=HH.cut xs lo hi:=by unfold wR HH.cut;rw[vD,vD]
theorem aL.cut{K:PySem.W.Frag}{F:Hp}{ds:List D}{vs:List V}{lo hi:Option Int}(h:aL K F vs ds):aL K F (HH.cut vs lo hi) (HH.cut ds lo hi):=by unfold HH.cut;rw[h.length];exact(h.drop _).take _
section
variable{X:Cx}{c:Call}{n:Nat}{e a b:Expr}{p pa pb pl ph:P}{pos p2:Pos}{lo hi:Option Expr}
def abY(K:PySem.W.Frag):V->Option Int->Option Int->Hp->VK->Prop:=fun x lo hi H Q=>∃F d r,aM F H/\dz K F H x d/\CJ d (some lo) (some hi)=some r/\∀v F' H',Ext F H F' H'->cG K F' H' H v r->Q v H'
theorem XJ:SlR X (abY X.K):=by rintro pins s σ H x v vl vu lo hi sl Q I rx hs pl pu⟨F,d,r,sm,px,he,k⟩;cases d with|lst ds=>cases he;obtain⟨a,xs,rfl,hq,rs⟩:=px.lst sm;refine Mf pins s σ H _ v vl vu lo hi sl Q I rx hs pl pu ⟨a,xs,rfl,hq,fun p hp=>?_⟩;rw[GK];exact wF sm rs.cut hp k|tup ds=>
   cases he;obtain⟨a,xs,rfl,hq,rs,rt⟩:=px.tup sm;by_cases hw:HT.cZ xs.length 0 lo=0/\HT.cZ xs.length xs.length hi=xs.length
   . cases rx;obtain⟨its,rv,ht,hz⟩:=I.tuple hq;have hlen:its.toArray.size=xs.length:=by rw[size_toArray];exact rv.length.symm
     refine⟨"tuple",_,slot_tuple_getitem.lookup,ht.typeIs,HT.xq ht hs pl pu (by rw[hlen];exact hw.1) (by rw[hlen];exact hw.2) ⟨.ref a,H,I,rfl,?_⟩⟩;have hc:HH.cut ds lo hi=ds:=by unfold HH.cut;rw[<-rs.length,<-vD,<-vD,hw.1,hw.2];simp[rs.length]
     rw[hc]at k;exact cG.cU sm rt k
   .refine Rh pins s σ H _ v vl vu lo hi sl Q I rx hs pl pu ⟨a,xs,rfl,hq,hw,fun p hp=>?_⟩;rw[GK];exact yH sm rs.cut hp k|_=>cases he
def SO(X:Cx)(c:Call)(o:Option Expr)(p:P):Prop:=∃t,PO X o t/\∀{σ:L2.St}{H F:Hp}{ρ ρ':List Sl}{d:D}{i:Option Int}{Q:Option Int->Hp->Prop},GS X.K F ρ σ H->dj (isVar p) (HH.ev c p) ρ=.ok d ρ'->part p d=some i->(∀F' H',aU X.K F ρ σ H F' ρ' σ H'->Q i H')->t σ H Q
theorem gf:SO X c none (.con .non):=by refine⟨_,M5,fun{σ H F ρ ρ' d i Q}g e h k=>?_⟩;cases(show some none=some i from h);have e':(HH.ev c (.con .non) ρ).bind (fun r ρ=>.ok r.d ρ)=.ok d ρ':=e;clear e;rw[HH.E2]at e';cases e';exact k F H (.refl g)
theorem fY(h:SX X c e p)(hn:xx p=false:=by rfl):SO X c (some e) p:=by obtain⟨t,h1,h2⟩:=h.dj;refine⟨_,Mw h1,fun{σ H F ρ ρ' d i Q}g e hp k=>?_⟩;unfold part at hp;rw[hn,if_neg (by decide)]at hp;obtain⟨j,e1,e2⟩:=map_some hp;cases di e1;subst e2;exact h2 g e fun v F' H' s pv=>⟨j,pv.int,k F' H' s⟩
theorem wM{d:D}{x y:Option (Option Int)}{r:R}(h:CJ d x y=some r):∃lo hi,x=some lo/\y=some hi:=by cases x with|none=>cases d<;>cases h|some lo=>cases y with|none=>cases d<;>cases h|some hi=>exact⟨lo,hi,rfl,rfl⟩
theorem dO(ha:SX X c a pa)(hl:SO X c lo pl)(hh:SO X c hi ph):SX X c (.Subscript a (.Slice lo hi none p2) pos) (.slice pa pl ph):=by obtain⟨tl,l1,l2⟩:=hl;obtain⟨th,h1,h2⟩:=hh;cases hv:isVar pa with|none=>refine⟨fH (xW XJ ha.ev l1 h1) ?_,fun i h=>by cases h⟩;rintro σ H Q⟨F,ρ,r,ρ',g,e,k⟩;rw[HH.E15,hv]at e;obtain⟨x,ρ1,e1',ea⟩:=ao e;clear e;have YH:(HH.ev c pa ρ).bind (fun r ρ=>.ok r.d ρ)=.ok x ρ1:=e1';clear e1';obtain⟨rx,ρ1',e1,e0⟩:=ao YH;clear YH;cases e0;obtain⟨y,ρ2,e2,eb⟩:=ao ea;clear ea;obtain⟨z,ρ3,e3,ec⟩:=ao eb;clear eb;obtain⟨e,e4⟩:=aB ec;clear ec;subst e4;obtain⟨lo',hi',q1,q2⟩:=wM e;rw[q1,q2]at e;refine⟨F,ρ,rx,_,g,e1,fun v F1 H1 s1 rr=>?_⟩;obtain⟨F2,s2,_,rp⟩:=s1.cX rr;refine l2 s2.gs e2 q1 fun F3 H3 s3=>h2 s3.gs e3 q2 fun F4 H4 s4=>?_;have s5:=s2.trans (s3.trans s4);refine⟨F4,_,r,s4.gs.sub,.inl ((rp.mono s3.bV).mono s4.bV),e,fun v F5 H5 x rn=>?_⟩;exact k v F5 H5 (s5.trans (x.stp s5.gs)) (.later s5 (rn.nG s5.gs))|some i=>refine⟨fH (xW XJ (ha.var i hv) l1 h1) ?_,fun i h=>by cases h⟩;rintro σ H Q⟨F,ρ,r,ρ',g,e,k⟩;rw[HH.E15,hv]at e;obtain⟨x0,ρ0,e0',ea⟩:=ao e;clear e;obtain⟨e0,Et⟩:=aB e0';clear e0';subst Et;obtain⟨y,ρ2,e2,eb⟩:=ao ea;clear ea;obtain⟨z,ρ3,e3,ec⟩:=ao eb;clear eb;obtain⟨x,ρ4,e5',ed⟩:=ao ec;clear ec;obtain⟨e5,e6⟩:=aB e5';clear e5';subst e6;obtain⟨e,e4⟩:=aB ed;clear ed;subst e4;obtain⟨lo',hi',q1,q2⟩:=wM e;rw[q1,q2]at e;obtain⟨v,hv1,_⟩:=g.pk e0;refine⟨v,hv1,l2 g e2 q1 fun F3 H3 s3=>h2 s3.gs e3 q2 fun F4 H4 s4=>?_⟩;have s5:=s3.trans s4;obtain⟨v',hv2,pv⟩:=s5.gs.pk e5;rw[hv1]at hv2;cases hv2;refine⟨F4,_,r,s4.gs.sub,pv,e,fun v F5 H5 x rn=>?_⟩;exact k v F5 H5 (s5.trans (x.stp s5.gs)) (.later s5 (rn.nG s5.gs))
theorem Qi{i:Nat}{x:Str}{p':Pos}{op:Operator}{sub:Bool}(ho:O7 X op (Uy fun i j=>if sub then i-j else i+j))(hN:X.N.Nodup)(hi:X.N[i]?=some x)(hx:Loc X.env.scope x)(he:SX X c e p)(hf:X.fn x=true\/X.env.scope.names.lookup x=some .local:=by first|exact .inl rfl|exact .inr rfl|assumption):SS X c n (.AugAssign (.Name x p') op e pos) (.aug i sub p):=by
 obtain⟨te,h1,h2⟩:=he.dj;refine dX (Te hN hi hx h1 ho hf) ?_;rintro D σ H⟨F,ρ,fl,ρ',g,e,k⟩;rw[HH.X16]at e;obtain⟨a0,ρ0,e0',ea⟩:=ao e;clear e;obtain⟨e0,Et⟩:=aB e0';clear e0';subst Et;obtain⟨b0,ρ1,e1,eb⟩:=ao ea;clear ea;obtain⟨v,hv1,pv⟩:=g.pk e0;refine⟨v,hv1,h2 g e1 fun u F1 H1 s1 pu=>?_⟩;split at eb;.rename_i i1 j1;obtain⟨ρ2,ρ3,e2',ec⟩:=ao eb;clear eb;cases ec;obtain⟨e2,e3⟩:=aB e2';clear e2';have rr:Rep X.K F1 (.int (if sub then i1-j1 else i1+j1)) (.int (if sub then i1-j1 else i1+j1)):=bY _;exact⟨i1,j1,pv.int,pu.int,k F1 _ H1 (aU.put (r:=.val (.int _)) s1 rr e2)⟩
 .cases eb
theorem Ms:O7 X .Add (Uy fun i j=>if false then i-j else i+j):=QF
theorem BK:O7 X .Sub (Uy fun i j=>if true then i-j else i+j):=Ry
end
end HH
end
section
namespace L2
open PySem PySem.Spec PyProof.Rows
section
variable{X:Cx}{tg:Expr}
theorem wj:bootBuiltins "tuple"=some (.type "tuple"):=by decide+kernel
theorem jM:bootBuiltins "reversed"=some (.type "reversed"):=by decide+kernel
end
end L2
namespace HH
open PySem L2 PySem.Spec PyProof.Rows
section
variable{K:PySem.W.Frag}{F F1 H H1:Hp}{ρ ρ1:List Sl}{σ:L2.St}{ds:List D}{a:Addr}
theorem aL.rev:∀{ds:List D}{xs:List V},aL K F xs ds->aL K F xs.reverse ds.reverse|[],_,h=>by rw[h.fB];exact .nil|d::ds,_,h=>by obtain⟨v,r,rfl,h1,h2⟩:=h.cL;rw[reverse_cons,reverse_cons];exact(aL.rev h2).append (.cons h1 .nil)
end
section
variable{X:Cx}{c:Call}{a b d:Expr}{pa pb pd:P}{pos:Pos}
theorem mJ{o o':Cm}{op op':CmpOp}(ho:dC X (compareOp op) (rD X.K (kW o)))(ho':dC X (compareOp op') (rD X.K (kW o')))(ha:SX X c a pa)(hb:SX X c b pb)(hd:SX X c d pd)(hm:lastMarks [op,op'] [b,d]=false:=by with_unfolding_all rfl):ST X c (.Compare a [op,op'] [b,d] pos) (.chain o o' pa pb pd):=by
 obtain⟨ta,tb,h1,h2,h3⟩:=ha.iw hb;obtain⟨td,h4,h5⟩:=hd.dj;refine tO (G8 ho ho' h1 h2 h4 hm) fun σ H Q q=>nY (t:=yR (rD X.K (kW o)) (rD X.K (kW o')) ta tb td) (fun Q z=>?_) q;obtain⟨F,ρ,r,ρ',g,e,k⟩:=z;rw[HH.E10]at e;obtain⟨xy,ρ1,e1,e⟩:=ao e;obtain⟨t,ρ2,e2,e⟩:=ao e;have zz:=aB e2;clear e2;obtain⟨e2,e3⟩:=zz;subst e3;have hfl:flat xy.2=true/\cm o xy.1 xy.2=some t:=by
  split at e2;.rename_i hf;exact⟨hf,e2⟩
  .cases e2
 obtain⟨hfl,e2⟩:=hfl;refine h3 g e1 fun v u F' H' s pv pu=>⟨F',xy.1,xy.2,.val (.bl t),s.gs.sub,pv,pu,by unfold kW;rw[e2];rfl,fun w F2 H2 x rn=>?_⟩;have s2:=s.trans (x.stp s.gs);have rn:Rep X.K F2 w (.bl t):=rn;rw[Rep]at rn;subst rn;refine⟨t,rfl,?_⟩;cases t with|false=>rw[if_neg Bool.false_ne_true]at e ⊢;cases e;exact k _ F2 H2 s2 (show Rep X.K F2 _ _ from eN _)|true=>
   rw[if_pos rfl]at e ⊢;obtain⟨z,ρ3,e3,e⟩:=ao e;obtain⟨e4,e5⟩:=aB e;subst e5;refine h5 s2.gs e3 fun w F3 H3 s3 pw=>⟨F3,xy.2,z,r,s3.gs.sub,?_,pw,e4,fun w' F4 H4 x4 rn=>?_⟩
   . have x1:=x.fs;have x2:=s3.bV;rcases pu with pu|⟨_,_,_,_,_,_,h⟩;.exact .inl ((pu.mono x1).mono x2)
     .rw[h]at hfl;cases hfl
   .have s4:=s2.trans s3;exact k w' F4 H4 (s4.trans (x4.stp s4.gs)) (.later s4 (rn.nG s4.gs))
end
end HH
end
section
namespace L2
open PySem PySem.Spec PyProof.Rows
noncomputable def Gg(X:Cx)(pins:List (Addr×Obj))(J2:Value->Shared->Prop):Cx:={X with pn:=X.pn++pins,xe:=J2}
section
variable{X:Cx}{pins Ck:List (Addr×Obj)}{σ:St}{H:Hp}{s:Shared}{J2:Value->Shared->Prop}{e:Addr}
theorem FJ:X.Ok↔(Gg X pins J2).Ok:=⟨fun o=>⟨o.mod,o.kind,o.glob,o.blt,o.above,o.inj,o.has,o.cab,o.hd,o.frames,o.Vv,o.exf,o.bs,o.Kh,o.zV,o.El,o.m9,o.Pa⟩,fun o=>⟨o.mod,o.kind,o.glob,o.blt,o.above,o.inj,o.has,o.cab,o.hd,o.frames,o.Vv,o.exf,o.bs,o.Kh,o.zV,o.El,o.m9,o.Pa⟩⟩
theorem Kv(I:Inv X pins σ H s):Inv (Gg X pins J2) [] σ H s:=⟨FJ.mp I.ok,I.os,I.bare,I.base,I.loc,I.cell,I.free,I.jt,fun p hp=>I.pin p (by simpa[Gg]using hp),I.hok,I.len⟩
theorem pL(I:Inv (Gg X pins J2) Ck σ H s):Inv X pins σ H s:=⟨FJ.mpr I.ok,I.os,I.bare,I.base,I.loc,I.cell,I.free,I.jt,fun p hp=>I.pin p (mem_append_left _ hp),I.hok,I.len⟩
end
end L2
end
section
namespace L2
open PySem PySem.Spec PyProof.Rows
theorem wD:bootBuiltins "list"=some (.type "list"):=by decide+kernel
end L2
namespace HH
open PySem L2 PySem.Spec PyProof.Rows
end HH
end
section
namespace PySem
namespace F
theorem Ja:typeLookup (.type "list_reverseiterator") "__len__"=pure none:=by rw[typeLookup_type,builtinLookup_eq_fast];kernel_rfl
theorem My:typeLookup (.type "list_reverseiterator") "__length_hint__"=pure (some (.builtin "list_reverseiterator.__length_hint__")):=by rw[typeLookup_type,builtinLookup_eq_fast];kernel_rfl
end F
section
variable{prog:Program}{w:World}{A:Around}{E:Value->Shared->Prop}{s:Shared}
theorem o6{it l:Addr}{items:Array Value}{Q:Bool->Shared->Prop}(hit:s.heap.IsRevIter it l ((items.size:Int)-1))(hl:s.heap.IsList l items)(hlen:items.size<=2^24)(h:∀b tk,s.toks<=tk->Q b {s with toks:=tk}):wpAny (model prog w) A (listLengthHint (.ref it)) Q E s:=by
 have hT:=hit.typeIs;unfold listLengthHint;refine wpAny_bind (wpAny_specialOf hT F.Ja ?_);show wpAny _ _ (specialOf (Value.ref it) (Str.ofString "__length_hint__")>>=_) _ _ _;refine wpAny_bind (wpAny_specialOf hT F.My ?_);generalize hid:("list_reverseiterator.__length_hint__":String)=id0;(fail_if_success(clear hid id0));wp_delta;rw[show splitId id0=some ("list_reverseiterator","__length_hint__")from by subst hid;decide+kernel];subst hid;refine wpAny_bind (wpAny_isInstance (b:=true) hT (by rw[isSubtype_type];kernel_rfl) ?_);rw[if_neg (by decide)];dsimp only;split;.refine wpAny_ite_split (fun hab=>absurd hab (by decide+kernel)) (fun _=>?_);exact wpAny_pure (h _ s.toks (cR))
 .rename_i hq;exact absurd (by decide+kernel) hq
theorem gZ{R:Result->Shared->Prop}{I l:Addr}{items:Array Value}(hh:A.handled=none)(hit:s.heap.IsRevIter I l ((items.size:Int)-1))(hl:s.heap.IsList l items)(hne:l≠I)(hlen:items.size<=2^24)(S:Addr)(hSI:S≠I)(hSl:S≠l)(res:Value)(c₀:Nat)(hS:s.heap.get? S=some {cls:=.type "list",data:=.seq #[] c₀})(hR:∀ h' tk acc' c',(∀ b o,b ≠ S->b ≠ I->s.heap.get? b=some o->h'.get? b=some o)->h'.get? S=some {cls:=.type "list",dict:=none,data:=.seq acc' c',slots:=#[]}->ItemsOf (fun i v=>items[items.size-1-i]?=some v) acc' items.size->R (.ok (.ret res)) {s with heap:=h',toks:=tk}):wpAny (model prog w) A.in1 (listExtendWith (.ref S) (.ref I) res) (fun fin s'=>match fin with|.done f=>R (.ok f) s'|.again c'=>c'.quiet=true/\codeAny (model prog w) A c' R s') (fun e s'=>R (.error e) s') s:=by
 have hSf:S∉[I,l]:=fun hm=>by
  rcases mem_cons.mp hm with e|hm;.exact hSI e
  .exact hSl (mem_singleton.mp hm)
 have W:=(Walks.listRev (prog:=prog) (w:=w) (A:=A.in1) hh I l hne items).toS;have hT:s.TypeIs (.ref I) "list_reverseiterator":=hit.typeIs;have key:∀(h:Heap)(c₁ tk:Nat),h.IsRevIter I l ((items.size:Int)-1-((0:Nat):Int))->h.IsList l items->(∀b o,b≠S->s.heap.get? b=some o->h.get? b=some o)->h.get? S=some {cls:=.type "list",data:=.seq #[] c₁}->codeAny (model prog w) A (.builtin "list.extend.loop" ⟨[.ref S,.ref I,res],[]⟩) R {s with heap:=h,toks:=tk}:=by
  intro h c₁ tk hi hl' hk hS₁;refine codeAny_extend_loopS W (by rw[sizeLine_eq];omega) S hSf res items.size 0 _ #[] c₁ rfl (Bm) ⟨Bm,hi,hl'⟩ hS₁ (ItemsOf.nil _) fun s' acc' c' hm hS' hacc=>?_;rw[Moved.eq_with hm];refine hR s'.heap s'.toks acc' c' (fun b o hb hbI e=>hm.heap b o (fun hmem=>?_) (hk b o hb e)) hS' hacc;rcases mem_cons.mp hmem with e'|hmem;.exact hb e'
  .exact hbI (mem_singleton.mp hmem)
 unfold listExtendWith;refine wpAny_bind (wpAny_typeOf hT ?_);have h1:listSameRef (.ref S) (.ref I)=false:=by simp[listSameRef,hSI]
 have h2:(Value.type "list_reverseiterator"==Value.type "list")=false:=by decide
 have h3:(Value.type "list_reverseiterator"==Value.type "tuple")=false:=by decide
 simp only[h1,h2,h3,Bool.or_false,false_eq_true,if_false];refine wpAny_bind (wpAny_pyIter_revIter hit ?_);refine wpAny_bind (wpAny_holding (o6 hit hl hlen fun bb tk htk=>?_));have hi0:s.heap.IsRevIter I l ((items.size:Int)-1-((0:Nat):Int)):=by simpa using hit
 refine wpAny_ite_split (fun _=>?_) (fun _=>wpAny_pure ⟨plainId_quiet F.plain_extend_loop _,key _ c₀ _ hi0 hl (fun b o _ e=>e) hS⟩);refine wpAny_bind (wpAny_rule ?_);refine wpAny_bind ?_;show wpAny _ _ (updateSeq S (·.push .none)>>=fun _=>updateSeq S (·.pop)) _ _ _;refine wpAny_bind (wpAny_updateSeq hS rfl ?_);have hS₂:=get?_update_self (Obj.mapSeq (·.push Value.none)) hS rfl;refine wpAny_updateSeq (hz:=by seq_fits) hS₂ rfl ?_;have hS₃:=get?_update_self (Obj.mapSeq (·.pop)) hS₂ rfl;have oth:∀b o,b≠S->s.heap.get? b=some o->((s.heap.update S (Obj.mapSeq (·.push Value.none))).update S (Obj.mapSeq (·.pop))).get? b=some o:=fun b o hb e=>(get?_update_other _ _ (Ne.symm hb)).trans ((get?_update_other _ _ (Ne.symm hb)).trans e);exact wpAny_pure ⟨plainId_quiet F.plain_extend_loop _,key _ _ _ (hi0.at fun o e=>oth I o (Ne.symm hSI) e) (hl.at fun o e=>oth l o (Ne.symm hSl) e) oth hS₃⟩
theorem qO{Q:Value->Shared->Prop}{I l:Addr}{items:Array Value}(hh:A.handled=none)(hit:s.heap.IsRevIter I l ((items.size:Int)-1))(hl:s.heap.IsList l items)(hne:l≠I)(hlen:items.size<=2^24)(hQ:∀ h' tk acc' c',(∀ b o,b ≠ I->s.heap.get? b=some o->h'.get? b=some o)->h'.get? s.heap.objs.size=some {cls:=.type "list",dict:=none,data:=.seq acc' c',slots:=#[]}->ItemsOf (fun i v=>items[items.size-1-i]?=some v) acc' items.size->Q (.ref s.heap.objs.size) {s with heap:=h',toks:=tk}):wpAny (model prog w) A (call (.type "list") [.ref I]) Q E s:=by
 refine callType_codes (Q₁:=fun obj s₁=>obj=.ref s.heap.objs.size/\s₁={s with heap:=s.heap.push {cls:=.type "list",data:=.seq #[]}}) F.called_list (F.typeCall_list_1 _) F.entry_list_init (code_list_new _ ⟨rfl,rfl⟩) fun obj s₁ h₁=>?_;obtain⟨rfl,rfl⟩:=h₁;have hIlt:I<s.heap.objs.size:=let⟨_,ho,_⟩:=hit;lt_size ho;have Tu:l<s.heap.objs.size:=let⟨_,ho,_⟩:=hl;lt_size ho;have hSI:s.heap.objs.size≠I:=Ne.symm (ne_of_lt hIlt);have hSl:s.heap.objs.size≠l:=Ne.symm (ne_of_lt Tu);generalize hZ:s.heap.objs.size=S at*;have hS:(s.heap.push {cls:=.type "list",data:=.seq #[]}).get? S=some {cls:=.type "list",data:=.seq #[]}:=by rw[<-hZ];exact get?_push_size _ rfl
 refine⟨⟨_,hS,rfl⟩,F.args_list_init_2 _ _,?_⟩;show wpAny _ _ (do let old<-listItems (.ref S);Builtin.List.listUpdate (.ref S) (fun _=>#[]);letGo old.toList.reverse;listExtendWith (.ref S) (.ref I) .none) _ _ _;refine wpAny_bind ?_;unfold listItems;refine wpAny_bind (wpAny_seqItems hS rfl (wpAny_pure ?_));show wpAny _ _ (updateSeq S (fun _=>#[])>>=fun _=>letGo (#[]:Array Value).toList.reverse>>=fun _=>listExtendWith (.ref S) (.ref I) .none) _ _ _;refine wpAny_bind (wpAny_updateSeq hS rfl ?_);have hS₂:=get?_update_self (Obj.mapSeq (fun _=>(#[]:Array Value))) hS rfl;have oth:∀b o,b≠S->s.heap.get? b=some o->((s.heap.push {cls:=.type "list",data:=.seq #[]}).update S (Obj.mapSeq (fun _=>(#[]:Array Value)))).get? b=some o:=fun b o hb e=>(get?_update_other _ _ (Ne.symm hb)).trans (dw e);refine wpAny_bind (wpAny_letGo ?_);refine gZ (A:=A.in1) (items:=items) hh (hit.at fun o e=>oth I o (Ne.symm hSI) e) (hl.at fun o e=>oth l o (Ne.symm hSl) e) hne hlen S hSI hSl .none _ hS₂ fun h' tk acc' c' hk hS' hacc=>?_;exact⟨rfl,hQ h' tk acc' c' (fun b o hb e=>hk b o (by rw[<-hZ];exact ne_of_lt (lt_size e)) hb (oth b o (by rw[<-hZ];exact ne_of_lt (lt_size e)) e)) hS' hacc⟩
end
end PySem
namespace L2
open PySem PySem.Spec PyProof.Rows
theorem Bo:∀{xs:List V}{us:List Value},Vals xs us->Vals xs.reverse us.reverse|_,_,.nil=>.nil|_,_,.cons r rs=>by rw[reverse_cons,reverse_cons];exact(Bo rs).append (.cons r .nil)
section
variable{X:Cx}{pins:List (Addr×Obj)}{σ:St}{H:Hp}{s:Shared}{E:Value->Shared->Prop}
theorem zN{a:Expr}{ta:TE}{p pos p2 pos2:Pos}(hc:X.calm=true)(Tv:Gl X "list")(Tw:X.mg "list"=none)(hg:Gl X "reversed")(hm:X.mg "reversed"=none)(ha:PE X a ta)(hs:starEach [a] X.env=[(false,eval a X.env)]:=by rfl)(hs2:starEach [.Call (.Name "reversed" p) [a] [] pos] X.env=[(false,eval (.Call (.Name "reversed" p) [a] [] pos) X.env)]:=by rfl):PE X (.Call (.Name "list" p2) [.Call (.Name "reversed" p) [a] [] pos] [] pos2) (fun σ H Q=>ta σ H fun x H1=>∃ad xs,x=.ref ad/\dF X.K H1 ad xs/\∀l,H1 l=none->Q (.ref l) (upd H1 l (.lst xs.reverse))):=by
 intro pins s σ H Q I h;refine Call_ (iu I Tv Tw wD (PyProof.Rows.callWith_type1 ?_ hs2 rfl));rw[hs2];show wpAny _ _ (spliced ((false,eval (.Call (.Name "reversed" p) [a] [] pos) X.env)::[])) _ _ _;refine Calls.spliced_cons (Call_ (iu I hg hm jM (PyProof.Rows.callWith_type1 (cz ((cO ha eU hs) pos pins s σ H (fun vs H1=>match vs with|[x]=>∃ad xs,x=.ref ad/\dF X.K H1 ad xs/\∀l,H1 l=none->Q (.ref l) (upd H1 l (.lst xs.reverse))|_=>False) I h) ?_) hs rfl)));rintro us s1⟨vs,H1,I1,r1,q1⟩;obtain⟨ad,xs,hq,q,vs1⟩:∃ad xs,dF X.K H1 ad xs/\(∀l,H1 l=none->Q (.ref l) (upd H1 l (.lst xs.reverse)))/\vs=[.ref ad]:=by cases vs with|nil=>cases q1|cons x r=>cases r with|nil=>obtain⟨ad,xs,rfl,q,q'⟩:=q1;exact⟨ad,xs,q,q',rfl⟩|cons _ _=>cases q1
 subst vs1;obtain⟨u,rfl,ru⟩:=r1.one;cases ru;obtain⟨its,rv,pl,hz⟩:=I1.list hq;have hsz:its.toArray.size=xs.length:=by rw[size_toArray,<-rv.length]
 refine call_reversed_list pl.isList (Calls.spliced_nil ?_);have hne:ad≠s1.heap.objs.size:=ne_of_lt (let⟨_,ho,_⟩:=pl.isList;lt_size ho);have hl2:(s1.heap.push (revObj ad ((its.toArray.size:Int)-1))).IsList ad its.toArray:=pl.isList.at fun o e=>dw e;refine qO (I1.ok.hd hc) (I:=s1.heap.objs.size) (l:=ad) (items:=its.toArray) ⟨_,get?_push_size _ rfl,rfl,rfl⟩ hl2 hne (by rw[hsz];exact le_trans hz (by decide)) fun h' tk acc' c' hk hS hacc=>?_;have hsz2:(s1.heap.push (revObj ad ((its.toArray.size:Int)-1))).objs.size=s1.heap.objs.size+1:=size_push ..;have ea:acc'.toList=its.reverse:=by
  obtain⟨h1,h2⟩:=hacc;apply List.ext_getElem;.simpa using h1
  . intro j j1 j2;have hj:j<its.length:=by simpa using j2
    have:=h2 j acc'[j] (Array.getElem?_eq_getElem (by simpa using j1));simp only[size_toArray]at this;have h3:=Array.getElem?_eq_some_iff.mp this;rw[List.getElem_reverse];simpa using h3.2.symm
 dsimp only at hS hk ⊢;rw[hsz2]at hS ⊢;refine⟨.ref (s1.heap.objs.size+1),_,I1.laid (t':=tk) (o:=.lst xs.reverse) (h':=h') (fun b o e=>hk b o (ne_of_lt (lt_size e)) (dw e)) (le_succ _) ?_,rfl,q _ (I1.hok.fresh (le_succ _))⟩;exact⟨by simpa using hz,acc'.toList,c',by rw[ea];exact Bo rv,by simpa using hS⟩
end
end L2
namespace HH
open PySem L2 PySem.Spec PyProof.Rows
section
variable{X:Cx}{c:Call}{a:Expr}{pa:P}{pos:Pos}
theorem yp{x y:Str}{p' q' pos':Pos}(hy:y="list")(hx:x="reversed")(hc:X.calm=true)(Tv:Gl X y)(Tw:X.mg y=none)(hg:Gl X x)(hm:X.mg x=none)(ha:SX X c a pa)(hs:starEach [a] X.env=[(false,eval a X.env)]:=by rfl)(hs2:starEach [.Call (.Name x p') [a] [] pos] X.env=[(false,eval (.Call (.Name x p') [a] [] pos) X.env)]:=by rfl):SX X c (.Call (.Name y q') [.Call (.Name x p') [a] [] pos] [] pos') (.blt .Nz [pa]):=by subst hx hy;obtain⟨ta,h1,h2⟩:=ha.dj;refine⟨fH (zN hc Tv Tw hg hm h1 hs hs2) ?_,fun i h=>by cases h⟩;rintro σ H Q⟨F,ρ,r,ρ',g,e,k⟩;rw[HH.E17]at e;obtain⟨d,ρ2,e1,e2⟩:=ao e;have zz:=aB e2;clear e2;obtain⟨e2,e3⟩:=zz;subst e3;cases d with|lst ds=>cases e2;refine h2 g e1 ?_;rintro v F' H' s pv;obtain⟨ad,xs,rfl,hq,rs⟩:=pv.lst s.gs.sub;exact⟨ad,xs,rfl,hq,fun l hl=>wF s.gs.sub (aL.rev rs) hl fun v F2 H2 xt rn=>k v F2 H2 (s.trans (xt.stp s.gs)) (.later s (rn.nG s.gs))⟩|_=>cases e2
end
end HH
end
section
namespace HH
open PySem
theorem wK:∀a b:List Int,cY a b=true->cY b a=false
 |[],[],h=>by simp[cY]at h|[],_::_,_=>by simp[cY]|_::_,[],h=>by simp[cY]at h|x::a,y::b,h=>by
   simp only[cY,or_eq_true,decide_eq_true_eq,and_eq_true]at h;simp only[cY,Bool.or_eq_false_iff,decide_eq_false_iff_not,Bool.and_eq_false_iff];rcases h with h|⟨h,h'⟩;.exact⟨by omega,.inl (by omega)⟩
   .exact⟨by omega,.inr (wK a b h')⟩
theorem Jb:∀a b c:List Int,cY b a=false->cY c b=false->cY c a=false
 |[],_,c,_,_=>by cases c<;>simp[cY]|_::_,[],_,h,_=>by simp[cY]at h|_::_,_::_,[],_,h=>by simp[cY]at h|x::a,y::b,z::c,h1,h2=>by
   simp only[cY,Bool.or_eq_false_iff,decide_eq_false_iff_not,Bool.and_eq_false_iff]at h1 h2 ⊢;refine⟨by omega,?_⟩;by_cases e:z=x;.right;exact Jb a b c (h1.2.resolve_left (by omega)) (h2.2.resolve_left (by omega))
   .exact .inl e
theorem vX:∀a b:List Int,cY a b=false->cY b a=false->a=b
 |[],[],_,_=>rfl|[],_::_,h,_=>by simp[cY]at h|_::_,[],_,h=>by simp[cY]at h|x::a,y::b,h1,h2=>by
   simp only[cY,Bool.or_eq_false_iff,decide_eq_false_iff_not,Bool.and_eq_false_iff]at h1 h2;have e:x=y:=by omega
   subst e;rw[vX a b (h1.2.resolve_left (by simp)) (h2.2.resolve_left (by simp))]
theorem xK:∀{xs ys:List D},xs.all gU=true->ys.all gU=true->xs.map iK=ys.map iK->xs=ys
 |[],[],_,_,_=>rfl|[],_::_,_,_,h=>by simp at h|_::_,[],_,_,h=>by simp at h|x::xs,y::ys,h1,h2,h=>by
   simp only[all_cons,and_eq_true]at h1 h2;simp only[map_cons,List.cons.injEq]at h;obtain⟨i,rfl⟩:∃i,x=.int i:=by cases x<;>first|exact⟨_,rfl⟩|(have q:=h1.1;simp[gU]at q;done)
   obtain⟨j,rfl⟩:∃j,y=.int j:=by cases y<;>first|exact⟨_,rfl⟩|(have q:=h2.1;simp[gU]at q;done)
   rw[xK h1.2 h2.2 h.2,show i=j from h.1]
theorem Bf{x y:D}(h:(gU x=true/\gU y=true)\/(zy x=true/\zy y=true))(e:nP x=nP y):x=y:=by
 rcases h with⟨h1,h2⟩|⟨h1,h2⟩
 . cases x<;>first|(simp[gU]at h1;done)|skip
   cases y<;>first|(simp[gU]at h2;done)|skip
   simpa[nP]using e
 . cases x<;>first|(simp[zy]at h1;done)|skip
   cases y<;>first|(simp[zy]at h2;done)|skip
   rename_i xs ys;cases xs<;>first|(simp[zy]at h1;done)|skip
   cases ys<;>first|(simp[zy]at h2;done)|skip
   rw[xK h1 h2 e]
noncomputable def nC(a b:D):Bool:=!cY (nP b) (nP a)
theorem rF(ds:List D):(zH ds).Perm ds:=List.mergeSort_perm ..
theorem Ls(a b c:D)(h1:nC a b=true)(h2:nC b c=true):nC a c=true:=by simp only[nC,not_eq_true']at*;exact Jb _ _ _ h1 h2
theorem Ht(a b:D):(nC a b||nC b a)=true:=by simp only[nC,or_eq_true,not_eq_true'];cases h:cY (nP b) (nP a)with|false=>exact .inl rfl|true=>exact .inr (wK _ _ h)
theorem qw(ds:List D):(zH ds).Pairwise fun a b=>nC a b=true:=List.pairwise_mergeSort Ls Ht ds
theorem uA{ds:List D}(h:sortable ds=true):∀x∈ds,∀y∈ds,nP x=nP y->x=y:=by
 simp only[sortable,and_eq_true,or_eq_true,all_eq_true]at h;intro x hx y hy e;rcases h.2 with h|h;.exact Bf (.inl ⟨h x hx,h y hy⟩) e
 .exact Bf (.inr ⟨h x hx,h y hy⟩) e
theorem Iz{ds l:List D}(h:sortable ds=true)(p:l.Perm ds)(s:l.Pairwise fun a b=>nC a b=true):l=zH ds:=by refine List.Perm.eq_of_pairwise (le:=fun a b=>nC a b=true) (fun a b ha hb h1 h2=>?_) s (qw ds) (p.trans (rF ds).symm);simp only[nC,not_eq_true']at h1 h2;exact uA h a (p.mem_iff.mp ha) b ((rF ds).mem_iff.mp hb) (vX _ _ h2 h1)
end HH
end
section
namespace HH
open PySem L2 PySem.Spec PyProof.Rows PySem.Calls PySem.W
theorem all_ints:∀{ds:List D},ds.all gU=true->ds=(ds.map iK).map D.int
 |[],_=>rfl|d::ds,h=>by
   simp only[all_cons,and_eq_true]at h;cases d<;>first|(have q:=h.1;simp[gU]at q;done)|skip
   rw[map_cons,map_cons,<-all_ints h.2];rfl
theorem intsAre_of:∀{ns:List Int}{us:List Value},Vals (ns.map V.int) us->IntsAre us ns|[],_,.nil=>.nil|n::ns,_,.cons r t=>by obtain⟨tk,rfl⟩:=r;exact .cons n tk (intsAre_of t)
section
variable{X:Cx}{c:Call}{a:Expr}{pa:P}{pos:Pos}
theorem boot_sorted:bootBuiltins "sorted"=some (.builtin "sorted"):=by decide+kernel
end
end HH
end
section
namespace HH
open PySem L2 PySem.Spec PyProof.Rows PySem.Calls
theorem yU(l b:Addr)(items items2:List Value)(n n2:Nat)(dd dd2:Option Addr)(sl sl2:Array (Option Value))(is js:List Int)(hi:IntsAre items is)(hj:IntsAre items2 js):Meets (Builtin.«tuple.__lt__» ⟨[.ref l,.ref b],[]⟩) (fun A R s=>s.heap.get? l=some {cls:=.type "tuple",dict:=dd,data:=.seq items.toArray n,slots:=sl}/\s.heap.get? b=some {cls:=.type "tuple",dict:=dd2,data:=.seq items2.toArray n2,slots:=sl2}/\R (.ok (.ret (.bool (cY is js)))) s):=.of_wp fun prog w A R s h=>by
  obtain⟨hp,g,d,tk,os⟩:=s;obtain⟨hl,hb,h⟩:=h;have f2:=AutoSeq1.sub_tuple_tuple;wp_walk using wpAny_loadPart' hl,wpAny_loadPart' hb,wpAny_forIn_list _ (fun rest b s'=>b.1=none/\s'=⟨hp,g,d,tk,os⟩/\∃xs ys is' VD,rest=xs.zip ys/\IntsAre xs is'/\IntsAre ys VD/\decide (items.length<items2.length)=decide (is'.length<VD.length)/\R (.ok (.ret (.bool (cY is' VD)))) ⟨hp,g,d,tk,os⟩) _;case turn=>rintro⟨y,x⟩rest b s'⟨hb',rfl,xs,ys,is',VD,hz,h1,h2,h3,hR⟩;cases h1 with|nil=>cases hz|cons p t h1=>cases h2 with|nil=>cases hz|cons q u h2=>
       injection hz with hyx hrest;cases hyx;refine wpAny_bind (wpAny_eqBool_int ?_);by_cases e:p=q;.subst e;rw[beq_self_eq_true];wp_walk;exact⟨rfl,rfl,_,_,_,_,hrest,h1,h2,by rw[h3];simp,by simpa[cY]using hR⟩
       . rw[beq_eq_false_iff_ne.mpr e];have hR':R (.ok (.ret (.bool (decide (p<q))))) ⟨hp,g,d,tk,os⟩:=by simpa[cY,e]using hR
         simp only[Bool.not_false,if_true];refine wpAny_bind (wpAny_rule ?_);refine wpAny_bind (show wpAny (model prog w) A.in1 (compareOp .Lt (Value.int p t) (Value.int q u)) _ _ _ from wpAny_lt_int ?_);refine wpAny_bind (wpAny_pure ?_);exact wpAny_pure (wpAny_pure ⟨_,rfl,hR'⟩)
  case fin=>
   rintro⟨b1,b2⟩s'⟨hb',rfl,xs,ys,is',VD,hz,h1,h2,h3,hR⟩;simp only at hb';subst hb';have e:cY is' VD=decide (items.length<items2.length):=by rw[h3];cases h1 with|nil=>cases h2<;>simp[cY]|cons _ _ _=>cases h2 with|nil=>simp[cY]|cons _ _ _=>cases hz
   rw[e]at hR;wp_walk;exact⟨_,rfl,by simpa[Builtin.Tuple.tupleCompareSizes]using hR⟩
  case h=>exact⟨rfl,rfl,items,items2,is,js,by simp,hi,hj,by rw[IntsAre.length hi,IntsAre.length hj],h⟩
section
variable{X:Cx}
theorem gJ(hu:X.A.units+8<cLine):dC X (compareOp .Lt) (rD X.K (kW .lt)):=by rintro pins s σ H x y v u Q I rx ry⟨F,d,e,r,sm,px,py,he,k⟩;obtain⟨t,e1,e2⟩:=map_some (show(WY d e).map _=some r from he);subst e2;cases d with
 |int i=>cases e with|int j=>exact Qs pins s σ H x y v u Q I rx ry ⟨F,.int i,.int j,_,sm,px,py,by have e2:J6 (fun i j=>decide (i<j)) (.int i) (.int j)=some t:=e1;simp only[e2];rfl,k⟩|_=>cases e1
 |tup xs=>cases e with|tup ys=>obtain⟨hc,e1⟩:=bG (show(if(xs.all gU&&ys.all gU)=true then some (cY (xs.map iK) (ys.map iK))else none)=some t from e1);rw[and_eq_true]at hc;obtain⟨a,vs,rfl,h1,h2,_⟩:=px.tup sm;obtain⟨b,ws,rfl,h3,h4,_⟩:=py.tup sm;cases rx;cases ry;obtain⟨its,rv,it,_⟩:=I.tuple h1;obtain⟨its2,Tt,it2,_⟩:=I.tuple h3;rw[all_ints hc.1]at h2;rw[all_ints hc.2]at h4;rw[iM h2]at rv;rw[iM h4]at Tt;have i1:=intsAre_of rv;have i2:=intsAre_of Tt;obtain⟨⟨cls,dd,data,sl⟩,ho,hc1,n,hd⟩:=it;obtain⟨⟨cls2,dd2,data2,sl2⟩,ho2,hc2,n2,hd2⟩:=it2;simp only at hc1 hd hc2 hd2;subst hc1 hd hc2 hd2;refine(show wpAny (model X.prog X.w) X.A (richCompare .Lt (.ref a) (.ref b)) _ _ s from richCompare_meets_room (op:=.Lt) ⟨_,ho,rfl⟩ ⟨_,ho2,rfl⟩ PySem.F.slot_tuple_lt PySem.F.entry_tuple_lt (PySem.F.args_tuple_lt_2 _ _) (yU a b its its2 n n2 dd dd2 sl sl2 _ _ i1 i2) ⟨ho,ho2,show Value.bool _≠Value.notImplemented/\_ from⟨(fun x=>nomatch x),⟨.bl t,H,I,by rw[<-e1];rfl,cG.cU sm (eN _) k⟩⟩⟩ (by omega))|_=>cases e1
 |_=>cases e1
end
end HH
end
section
namespace L2
open PySem PySem.Spec PyProof.Rows
variable{y:V}{w:World}{H:Hp}{Q:Value->Shared->Prop}{X:Cx}
section
variable{κ:Type}[DecidableEq κ]
noncomputable def jx(kvs:List (κ×V))(k:κ):Option V:=(kvs.find? fun kv=>decide (kv.1=k)).map (·.2)
noncomputable def putK(kvs:List (κ×V))(k:κ)(v:V):List (κ×V):=if(kvs.any fun kv=>decide (kv.1=k))=true then kvs.map (fun kv=>if kv.1=k then(kv.1,v)else kv)else kvs++[(k,v)]
theorem lZ{p:κ×V}{r:List (κ×V)}{k:κ}(e:p.1=k):jx (p::r) k=some p.2:=by simp[jx,find?_cons,e]
theorem mR{p:κ×V}{r:List (κ×V)}{k:κ}(e:¬ p.1=k):jx (p::r) k=jx r k:=by simp[jx,find?_cons,e]
theorem qd(k:κ):∀kvs:List (κ×V),(kvs.any fun kv=>decide (kv.1=k))=(jx kvs k).isSome
 |[]=>rfl|p::r=>by
   rw[any_cons];by_cases e:p.1=k;.simp only[lZ e,decide_eq_true e,Bool.true_or,Option.isSome_some]
   .rw[mR e,decide_eq_false e,Bool.false_or];exact qd k r
theorem jy(kvs:List (κ×V))(k:κ)(v:V):(putK kvs k v).length<=kvs.length+1:=by
 unfold putK;split;.rw[length_map];omega
 .rw[length_append,length_cons,length_nil];omega
theorem rW.iI{o:Option V}{u:Option Value}(r:rW o u):o.isSome=u.isSome:=by cases o with
 |none=>cases u with|none=>rfl|some _=>exact(show False from r).elim
 |some _=>cases u with|none=>exact(show False from r).elim|some _=>rfl
theorem KV.val{kvs:List (κ×V)}{vs:List (κ×Value)}(r:KV kvs vs)(k:κ):rW (jx kvs k) (valueAt vs k):=by unfold KV at r;induction r with|nil=>exact True.intro|@cons p q ps qs h t ih=>
   obtain⟨h1,h2⟩:=h;by_cases e:p.1=k
   . have e':q.1=k:=h1.symm.trans e;have b:valueAt (q::qs) k=some q.2:=by simp[valueAt,find?_cons,e']
     rw[lZ e,b];exact h2
   . have e':¬ q.1=k:=fun z=>e (h1.trans z);have b:valueAt (q::qs) k=valueAt qs k:=by simp[valueAt,find?_cons,e']
     rw[mR e,b];exact ih
theorem KV.any{kvs:List (κ×V)}{vs:List (κ×Value)}(r:KV kvs vs)(k:κ):(kvs.any fun kv=>decide (kv.1=k))=vs.any fun kv=>decide (kv.1=k):=by unfold KV at r;induction r with|nil=>rfl|cons h t ih=>rw[any_cons,any_cons,ih,h.1]
theorem KV.repl{kvs:List (κ×V)}{vs:List (κ×Value)}(r:KV kvs vs)(k:κ){u:Value}(ry:RelV y u):KV (kvs.map fun kv=>if kv.1=k then(kv.1,y)else kv) (vs.map fun kv=>if kv.1=k then(kv.1,u)else kv):=by unfold KV at r ⊢;induction r with|nil=>exact .nil|@cons p q ps qs h t ih=>
   rw[map_cons,map_cons];refine .cons ?_ ih;obtain⟨h1,h2⟩:=h;by_cases e:p.1=k;.rw[if_pos e,if_pos (h1.symm.trans e)];exact⟨h1,ry⟩
   .rw[if_neg e,if_neg (fun z=>e (h1.trans z))];exact⟨h1,h2⟩
theorem KV.put{kvs:List (κ×V)}{vs:List (κ×Value)}(r:KV kvs vs)(k:κ){u:Value}(ry:RelV y u):KV (putK kvs k y) (stored vs k u):=by
 unfold putK stored;rw[r.any k];by_cases e:(vs.any fun kv=>decide (kv.1=k))=true;.rw[if_pos e,if_pos e];exact r.repl k ry
 .rw[if_neg e,if_neg e];exact Paired.snoc r ⟨rfl,ry⟩
theorem KV.length{kvs:List (κ×V)}{vs:List (κ×Value)}(r:KV kvs vs):kvs.length=vs.length:=Paired.length r
end
theorem tE{P:Program}{k:Key}{u:Value}(r:RelV (kV k) u):(bU P w).is k u=true:=by cases k with|inl i=>obtain⟨t,e⟩:=(show ∃t,u=Value.int i t from r);subst e;exact wg P w i t|inr x=>obtain⟨t,e⟩:=(show ∃t,u=Value.str x t from r);subst e;exact v8 P w x t
theorem sS{P:Program}{w:World}:∀{ks:List Key}{us:List Value},Vals (ks.map kV) us->ItemsAre (bU P w) ks us|[],_,r=>by rw[map_nil]at r;cases r;exact .nil|k::ks,_,r=>by rw[map_cons]at r;cases r with|cons h t=>exact .cons (tE h) (sS t)
abbrev KT(H:Hp):List (List Key×V)->List (List Key×Addr×Value)->Prop:=Paired fun p q=>p.1=q.1/\H q.2.1=some (.tup (p.1.map kV))/\RelV p.2 q.2.2
theorem KT.val{kvs:List (List Key×V)}{xs:List (List Key×Addr×Value)}(r:KT H kvs xs)(k:List Key):rW (jx kvs k) ((atKey xs k).map (·.2)):=by induction r with|nil=>exact True.intro|@cons p q ps qs h t ih=>
   obtain⟨h1,_,h2⟩:=h;by_cases e:p.1=k
   . have e':q.1=k:=h1.symm.trans e;have b:atKey (q::qs) k=some q.2:=by simp[atKey,find?_cons,e']
     rw[lZ e,b];exact h2
   . have e':¬ q.1=k:=fun z=>e (h1.trans z);have b:atKey (q::qs) k=atKey qs k:=by simp[atKey,find?_cons,e']
     rw[mR e,b];exact ih
theorem KT.repl{kvs:List (List Key×V)}{xs:List (List Key×Addr×Value)}(r:KT H kvs xs)(k:List Key){u:Value}(ry:RelV y u):KT H (kvs.map fun kv=>if kv.1=k then(kv.1,y)else kv) (xs.map (putAt k u)):=by induction r with|nil=>exact .nil|@cons p q ps qs h t ih=>
   rw[map_cons,map_cons];refine .cons ?_ ih;obtain⟨h1,h2,h3⟩:=h;unfold putAt;by_cases e:p.1=k;.rw[if_pos e,if_pos (h1.symm.trans e)];exact⟨h1,h2,ry⟩
   .rw[if_neg e,if_neg (fun z=>e (h1.trans z))];exact⟨h1,h2,h3⟩
theorem KT.put{kvs:List (List Key×V)}{xs:List (List Key×Addr×Value)}(r:KT H kvs xs)(k:List Key){b:Addr}{u:Value}(hb:H b=some (.tup (k.map kV)))(ry:RelV y u):KT H (putK kvs k y) (storedH xs k b u):=by
 have e:(kvs.any fun kv=>decide (kv.1=k))=(atKey xs k).isSome:=by rw[qd,(r.val k).iI,isSome_map]
 unfold putK storedH;rw[e];by_cases q:(atKey xs k).isSome=true;.rw[if_pos q,if_pos q];exact r.repl k ry
 .rw[if_neg q,if_neg q];exact Paired.snoc r ⟨rfl,hb,ry⟩
theorem KT.keeps{H':Hp}{kvs:List (List Key×V)}{xs:List (List Key×Addr×Value)}(r:KT H kvs xs)(ht:∀b ys,H b=some (.tup ys)->H' b=some (.tup ys)):KT H' kvs xs:=Paired.QH r fun _ _ z=>⟨z.1,ht _ _ z.2.1,z.2.2⟩
section
variable{P:Program}{w:World}{H:Hp}{h:Heap}{a:Addr}
theorem O6{u:HO}(ok:m7 P w H h)(e:Rd H a u):cj P w H h a u:=e.ok ok
theorem wQ{kvs:List (Key×V)}(ok:m7 P w H h)(e:Rd H a (.dK kvs)):kvs.length<=sizeLine/\(a==sysModules)=false/\∃vs,KV kvs vs/\h.DictOf (bU P w) a vs:=show cj P w H h a (.dK kvs)from O6 ok e
theorem Ot{kvs:List (Key×V)}(ok:m7 P w H h)(e:H a=some (.dK kvs)):kvs.length<=sizeLine/\(a==sysModules)=false/\∃vs,KV kvs vs/\h.DictOf (bU P w) a vs:=wQ ok (.inl e)
theorem pZ{ks:List Key}(ok:m7 P w H h)(e:H a=some (.tup (ks.map kV))):(tupleKind (bU P w)).is h ks a:=by obtain⟨_,its,r,o,h1,h2,n,h3⟩:=(show cj P w H h a (.tup (ks.map kV))from ok a _ e);exact⟨o,its.toArray,n,h1,h2,h3,by simpa using sS r⟩
theorem wW{kvs:List (List Key×V)}(ok:m7 P w H h)(e:Rd H a (.dT kvs)):kvs.length<=sizeLine/\(a==sysModules)=false/\∃xs,KT H kvs xs/\h.DictOfH (tupleKind (bU P w)) a xs:=by
 obtain⟨z,y,xs,r,o,es,ep,h1,h2,h3,h4,h5⟩:=(show cj P w H h a (.dT kvs)from O6 ok e);refine⟨z,y,xs,r,o,es,ep,h1,h2,h3,h4,fun x hx=>?_,h5⟩;have all:∀{l:List (List Key×V)}{m:List (List Key×Addr×Value)},KT H l m->∀x∈m,(tupleKind (bU P w)).is h x.1 x.2.1:=by intro l m q;induction q with|nil=>intro x hx;exact nomatch hx|@cons p q ps qs hq t ih=>
    intro x hx;rcases mem_cons.mp hx with e|hx;.subst e;exact pZ ok (by rw[<-hq.1];exact hq.2.1)
    .exact ih x hx
 exact all r x hx
theorem Ym{kvs:List (List Key×V)}(ok:m7 P w H h)(e:H a=some (.dT kvs)):kvs.length<=sizeLine/\(a==sysModules)=false/\∃xs,KT H kvs xs/\h.DictOfH (tupleKind (bU P w)) a xs:=wW ok (.inl e)
end
def qY(H:Hp)(a:Addr)(y:V)(r:Option V):Prop:=(∃kvs k,Rd H a (.dK kvs)/\y=kV k/\r=jx kvs k)\/∃kvs k b,Rd H a (.dT kvs)/\y=.ref b/\H b=some (.tup (k.map kV))/\r=jx kvs k
def V5(H:Hp)(a:Addr)(y v:V)(H':Hp):Prop:=(∃kvs k,H a=some (.dK kvs)/\y=kV k/\kvs.length<sizeLine/\H'=upd H a (.dK (putK kvs k v)))\/∃kvs k b,H a=some (.dT kvs)/\y=.ref b/\H b=some (.tup (k.map kV))/\kvs.length<sizeLine/\H'=upd H a (.dT (putK kvs k v))
section
variable{X:Cx}{pins:List (Addr×Obj)}{σ:St}{H:Hp}{s:Shared}{a:Addr}{y v:V}{u r:Value}{o:Option V}{A:Around}{E:Value->Shared->Prop}
theorem Inv.big(I:Inv X pins σ H s):sysModules<s.heap.objs.size:=by have h:mainGlobals<s.heap.objs.size:=(I.mod.glob.keeps I.bk).lt;exact Nat.lt_trans (by decide) h
theorem nF(hu:A.units+1<cLine)(I:Inv X pins σ H s)(g:qY H a y (some v))(ry:RelV y u)(h:∀w' s',Inv X pins σ H s'->RelV v w'->Q w' s'):wpAny (model X.prog X.w) A (getItem (.ref a) u) Q E s:=by
 rcases g with⟨kvs,k,e,ey,l⟩|⟨kvs,k,b,e,ey,eb,l⟩;.subst ey;obtain⟨z,hd,vs,rel,dd⟩:=wQ I.hok e;obtain⟨w',hw,xY⟩:=rW.some_of (v:=v) (o:=valueAt vs k) (by rw[l];exact rel.val k);exact wpAny_getItem_of (tE ry) dd.mapOf hw (h w' _ (I.tok _) xY)
 .subst ey;cases(show u=Value.ref b from ry);obtain⟨z,hd,xs,rel,dd⟩:=wW I.hok e;obtain⟨w',hw,xY⟩:=rW.some_of (v:=v) (o:=(atKey xs k).map (·.2)) (by rw[l];exact rel.val k);obtain⟨p,hp,hp2⟩:=map_eq_some_iff.mp hw;refine wpAny_getItem_heap (tupleKind_room_in1 hu) (pZ I.hok eb) dd hp ?_;rw[hp2];exact h w' _ (I.tok _) xY
theorem XF(hu:A.units+1<cLine)(I:Inv X pins σ H s)(g:qY H a y o)(ry:RelV y u)(h:∀s',Inv X pins σ H s'->Q (.bool o.isSome) s'):wpAny (model X.prog X.w) A (compareOp .In u (.ref a)) Q E s:=by
 rcases g with⟨kvs,k,e,ey,l⟩|⟨kvs,k,b,e,ey,eb,l⟩;.subst ey;obtain⟨z,hd,vs,rel,dd⟩:=wQ I.hok e;refine wpAny_in_of (tE ry) hd dd.mapOf ?_;rw[<-(rel.val k).iI,<-l];exact h _ (I.tok _)
 .subst ey;cases(show u=Value.ref b from ry);obtain⟨z,hd,xs,rel,dd⟩:=wW I.hok e;refine wpAny_in_heap (tupleKind_room_in1 hu) (pZ I.hok eb) hd dd ?_;have q:=(rel.val k).iI;rw[isSome_map]at q;rw[<-q,<-l];exact h _ (I.tok _)
theorem Bl(hu:A.units+1<cLine)(I:Inv X pins σ H s)(g:qY H a y o)(ry:RelV y u)(h:∀s',Inv X pins σ H s'->Q (.bool (!o.isSome)) s'):wpAny (model X.prog X.w) A (compareOp .NotIn u (.ref a)) Q E s:=by
 rcases g with⟨kvs,k,e,ey,l⟩|⟨kvs,k,b,e,ey,eb,l⟩;.subst ey;obtain⟨z,hd,vs,rel,dd⟩:=wQ I.hok e;refine wpAny_notIn_of (tE ry) hd dd.mapOf ?_;rw[<-(rel.val k).iI,<-l];exact h _ (I.tok _)
 .subst ey;cases(show u=Value.ref b from ry);obtain⟨z,hd,xs,rel,dd⟩:=wW I.hok e;refine wpAny_notIn_heap (tupleKind_room_in1 hu) (pZ I.hok eb) hd dd ?_;have q:=(rel.val k).iI;rw[isSome_map]at q;rw[<-q,<-l];exact h _ (I.tok _)
theorem uq{h':Heap}{t':Nat}{ob:HO}(I:Inv X pins σ H s)(mu:XM (H a))(hs:SameBut a s.heap h')(he:∃q,h'.get? a=some q)(new:cj X.prog X.w (upd H a ob) h' a ob):Inv X pins σ (upd H a ob) {s with heap:=h',toks:=t'}:=I.write (x:=a) (e:=a) mu (.inl rfl) (fun b q hb z=>(hs.2 b hb).trans z) he new
theorem Jd{P:Program}{H':Hp}{h':Heap}{kvs:List (Key×V)}{vs:List (Key×Value)}(z:kvs.length<=sizeLine)(hd:(a==sysModules)=false)(rel:KV kvs vs)(dd:h'.DictOf (bU P w) a vs):cj P w H' h' a (.dK kvs):=⟨z,hd,vs,rel,dd⟩
theorem Du{H':Hp}{Q:Unit->Shared->Prop}(hu:A.units+1<cLine)(I:Inv X pins σ H s)(g:V5 H a y v H')(ry:RelV y u)(rv:RelV v r)(h:∀s',Inv X pins σ H' s'->Q () s'):wpAny (model X.prog X.w) A (setItem (.ref a) u r) Q E s:=by
 rcases g with⟨kvs,k,e,ey,l,eH⟩|⟨kvs,k,b,e,ey,eb,l,eH⟩
 . subst ey eH;obtain⟨z,hd,vs,rel,dd⟩:=Ot I.hok e;have hz:vs.length<=sizeLine:=by rw[<-rel.length];exact z
   have hl:(putK kvs k v).length<=sizeLine:=by have:=jy kvs k v;omega
   refine wpAny_setItem_pairs (hsz:=hz) (tE ry) dd fun h' Tz hs=>h _ ?_;have he:∃q,h'.get? a=some q:=let⟨q,_,_,hq,_⟩:=Tz;⟨q,hq⟩;exact uq I (by rw[e];exact True.intro) hs he (Jd hl hd (rel.put k rv) Tz)
 . subst ey eH;cases(show u=Value.ref b from ry);obtain⟨z,hd,xs,rel,dd⟩:=Ym I.hok e;have hz:xs.length<=sizeLine:=by rw[<-Paired.length rel];exact z
   have hl:(putK kvs k v).length<=sizeLine:=by have:=jy kvs k v;omega
   refine wpAny_setItem_heap (hsz:=hz) (tupleKind_room_in1 hu) (pZ I.hok eb) dd fun h' Tz hs=>h _ ?_;obtain⟨q,es,ep,hq,h2,h3,h4,_,h5⟩:=Tz;refine uq I (by rw[e];exact True.intro) hs ⟨q,hq⟩ ⟨hl,hd,_,(rel.put k eb rv).keeps fun c ys ec=>?_,q,es,ep,hq,h2,h3,h4,h5⟩;rw[aG (Xh ec e (fun z=>nomatch z))];exact ec
end
def Lj(i:Expr):Prop:=∀ov iv,subscripted i false ov iv=operate [ov,iv] (getItem ov iv)
theorem BP{prog:Program}{A:Around}{E:Value->Shared->Prop}{s:Shared}{env:Env}{value slice:Expr}{pos:Pos}{T id:String}(hl:typeLookup (.type T) "__getitem__"=pure (some (.builtin id)))(hs:Lj slice)(h:wpAny (model prog w) A (eval value env) (fun o s₁=>wpAny (model prog w) A (eval slice env) (fun i s₂=>s₂.TypeIs o T/\wpAny (model prog w) A (getItem o i) Q E s₂) E s₁) E s):wpAny (model prog w) A (eval (.Subscript value slice pos) env) Q E s:=by
 refine Subscript_ (wpAny_mono h (fun o s₁ h₁=>wpAny_mono h₁ (fun i s₂ h₂=>?_) fun _ _ x=>x) fun _ _ x=>x);obtain⟨hT,h₂⟩:=h₂;unfold subscriptTail;refine wpAny_bind ?_;rw[getitemInPython_of_ne hT.not_modules];refine wpAny_bind (wpAny_specialOf hT hl ?_);have fin:wpAny (model prog w) A (subscripted slice false o i) (fun r s₃=>wpAny (model prog w) A (letTemporaryGo value o r>>=fun _=>pure r) Q E s₃) E s₂:=by rw[hs o i];exact wpAny_operating (wpAny_mono h₂ (fun r s₃ h₃=>wpAny_bind (wpAny_letTemporaryGo (wpAny_pure h₃))) fun _ _ x=>x)
 first|exact wpAny_pure (wpAny_bind fin)|exact wpAny_bind (wpAny_pure (wpAny_bind fin))|exact wpAny_bind fin
theorem jz{pins:List (Addr×Obj)}{σ:St}{s:Shared}{a:Addr}{o:Option V}(I:Inv X pins σ H s)(g:qY H a y o):s.TypeIs (.ref a) "dict":=by
 rcases g with⟨kvs,k,e,_,_⟩|⟨kvs,k,b,e,_,_,_⟩;.obtain⟨_,_,vs,_,dd⟩:=wQ I.hok e;exact dd.typeIs
 .obtain⟨_,_,xs,_,dd⟩:=wW I.hok e;exact dd.typeIs
def Wj(td ty:TE):TE:=fun σ H Q=>td σ H fun x H1=>ty σ H1 fun y H2=>∃a v,x=.ref a/\qY H2 a y (some v)/\Q v H2
def adJ(ty td:TE):TE:=fun σ H Q=>ty σ H fun y H1=>td σ H1 fun x H2=>∃a o,x=.ref a/\qY H2 a y o/\Q (.bl o.isSome) H2
def Kr(ty td:TE):TE:=fun σ H Q=>ty σ H fun y H1=>td σ H1 fun x H2=>∃a o,x=.ref a/\qY H2 a y o/\Q (.bl (!o.isSome)) H2
def XC(td ty tv:TE):TS:=fun D σ H=>tv σ H fun v H1=>td σ H1 fun x H2=>ty σ H2 fun y H3=>∃a H4,x=.ref a/\V5 H3 a y v H4/\D.nx σ H4
section
variable{X:Cx}{o i e value:Expr}{pos pos' tpos:Pos}{td ty tv:TE}
theorem M3(hu:X.A.units+1<cLine)(ho:PE X o td)(hi:PE X i ty)(hs:Lj i):PE X (.Subscript o i pos) (Wj td ty):=by intro pins s σ H Q I h;refine BP PySem.F.slot_dict_getitem.lookup hs (cz (ho pins s σ H _ I h) fun u s1⟨x,H1,I1,rx,q1⟩=>cz (hi pins s1 σ H1 _ I1 q1) fun iv s2⟨y,H2,I2,ry,a,v,ex,g,q2⟩=>?_);subst ex;obtain rfl:u=Value.ref a:=rx;exact⟨jz I2 g,nF hu I2 g ry fun w' s3 I3 xY=>⟨v,H2,I3,xY,q2⟩⟩
theorem Tg(hu:X.A.units+1<cLine)(hi:PE X i ty)(ho:PE X o td):PC X .In i o (adJ ty td):=by intro pins s σ H Q I h;refine cz (hi pins s σ H _ I h) fun iv s1⟨y,H1,I1,ry,q1⟩=>cz (ho pins s1 σ H1 _ I1 q1) fun u s2⟨x,H2,I2,rx,a,ov,ex,g,q2⟩=>?_;subst ex;obtain rfl:u=Value.ref a:=rx;exact XF hu I2 g ry fun s3 I3=>⟨.bl ov.isSome,H2,I3,rfl,q2⟩
theorem Ej(hu:X.A.units+1<cLine)(hi:PE X i ty)(ho:PE X o td):PC X .NotIn i o (Kr ty td):=by intro pins s σ H Q I h;refine cz (hi pins s σ H _ I h) fun iv s1⟨y,H1,I1,ry,q1⟩=>cz (ho pins s1 σ H1 _ I1 q1) fun u s2⟨x,H2,I2,rx,a,ov,ex,g,q2⟩=>?_;subst ex;obtain rfl:u=Value.ref a:=rx;exact Bl hu I2 g ry fun s3 I3=>⟨.bl (!ov.isSome),H2,I3,rfl,q2⟩
theorem KC(hu:X.A.units+1<cLine)(ho:PE X o td)(hi:PE X i ty)(hv:PE X value tv)(hs:swapsWith value (some (.Subscript o i pos')) pos.line X.env=pure false):PS X (.Assign [.Subscript o i pos'] value pos) (XC td ty tv):=by intro pins s σ H D I h;refine wpAny_Assign_Subscript (cz (hv pins s σ H _ I h) fun r s1⟨v,H1,I1,rv,q1⟩=>cz (ho pins s1 σ H1 _ I1 q1) fun u s2⟨x,H2,I2,rx,q2⟩=>cz (hi pins s2 σ H2 _ I2 q2) fun iv s3⟨y,H3,I3,ry,a,H4,ex,g,q3⟩=>?_) hs;subst ex;obtain rfl:u=Value.ref a:=rx;exact Du hu I3 g ry rv fun s4 I4=>⟨σ,H4,I4,q3⟩
end
theorem xf{P:Program}(h:Heap)(hb:sysModules<h.objs.size):cj P w H (h.push {cls:=.type "dict",data:=.dict #[]}) h.objs.size (.dK []):=⟨Bm,beq_eq_false_iff_ne.mpr (Ne.symm (ne_of_lt hb)),[],.nil,Heap.DictOf.new h⟩
def Tc:TE:=fun _ H Q=>∀p,H p=none->Q (.ref p) (upd H p (.dK []))
section
variable{X:Cx}{pos:Pos}
theorem G6:PE X (.Dict [] [] pos) Tc:=fun pins s σ H Q I h=>wpAny_Dict_empty ⟨.ref s.heap.objs.size,_,I.laid (a:=s.heap.objs.size) (o:=.dK []) (t':=s.toks) (fun _ _ q=>dw q) (cR) (xf s.heap I.big),rfl,h _ (I.hok.fresh (cR))⟩
end
def yt:List (TE×TE)->St->Hp->(List (V×V)->Hp->Prop)->Prop|[],_,H,Q=>Q [] H|(tk,tv)::r,σ,H,Q=>tk σ H fun x H1=>tv σ H1 fun y H2=>yt r σ H2 fun ps H3=>Q ((x,y)::ps) H3
abbrev VV:List (V×V)->List (Value×Value)->Prop:=Paired fun p q=>RelV p.1 q.1/\RelV p.2 q.2
def Z0(X:Cx)(pos:Pos)(keys:List (Option Expr))(values:List Expr)(NZ:List (TE×TE)):Prop:=∀(pins:List (Addr × Obj))(s:Shared)(σ:St)(H:Hp)(Q:List (V × V)->Hp->Prop),Inv X pins σ H s->yt NZ σ H Q->wpAny (model X.prog X.w) X.A (evalPairs (pairTrees keys values X.env pos)) (fun vs s'=>∃ps H',Inv X pins σ H' s'/\VV ps vs/\Q ps H') X.xe s
theorem KD{pos:Pos}:Z0 X pos [] [] []:=fun pins s σ H Q I h=>pairTrees_nil_walk ⟨[],H,I,.nil,h⟩
theorem Jl{pos:Pos}{k v:Expr}{ks:List (Option Expr)}{vs:List Expr}{tk tv:TE}{NZ:List (TE×TE)}(hk:PE X k tk)(hv:PE X v tv)(hr:Z0 X pos ks vs NZ):Z0 X pos (some k::ks) (v::vs) ((tk,tv)::NZ):=fun pins s σ H Q I h=>pairTrees_cons_walk (cz (hk pins s σ H _ I h) fun u s1⟨x,H1,I1,rx,q1⟩=>cz (hv pins s1 σ H1 _ I1 q1) fun w2 s2⟨y,H2,I2,ry,q2⟩=>cz (hr pins s2 σ H2 _ I2 q2) fun ws s3⟨ps,H3,I3,rel,q3⟩=>⟨(x,y)::ps,H3,I3,.cons ⟨rx,ry⟩ rel,q3⟩)
noncomputable def m8(kvs more:List (Key×V)):List (Key×V):=more.foldl (fun acc kv=>putK acc kv.1 kv.2) kvs
theorem KV.merge:∀{more:List (Key×V)}{rs:List (Key×Value)}{kvs:List (Key×V)}{vs:List (Key×Value)},KV more rs->KV kvs vs->KV (m8 kvs more) (merged vs rs):=by intro more rs kvs vs r;unfold KV at r;induction r generalizing kvs vs with|nil=>intro q;exact q|@cons p q ps qs h t ih=>
   intro r0;have e:KV (putK kvs p.1 p.2) (stored vs q.1 q.2):=by have:=r0.put p.1 h.2;rw[<-h.1];exact this
   exact ih e
theorem lq:∀(more kvs:List (Key×V)),(m8 kvs more).length<=kvs.length+more.length|[],kvs=>by show kvs.length<=kvs.length+0;omega|p::r,kvs=>by have h1:=lq r (putK kvs p.1 p.2);have h2:=jy kvs p.1 p.2;show(m8 (putK kvs p.1 p.2) r).length<=_;rw[length_cons];omega
theorem qW{P:Program}{w:World}:∀{kvs:List (Key×V)}{ws:List (Value×Value)},VV (kvs.map fun kv=>(kV kv.1,kv.2)) ws->∃rs,Carries (bU P w) ws rs/\KV kvs rs|[],_,r=>by rw[map_nil]at r;cases r;exact⟨[],True.intro,.nil⟩|p::kvs,_,r=>by rw[map_cons]at r;cases r with|@cons a b as bs h t=>obtain⟨rs,c,q⟩:=qW (P:=P) (w:=w) t;obtain⟨b1,b2⟩:=b;exact⟨(p.1,b2)::rs,⟨tE h.1,rfl,c⟩,.cons ⟨rfl,h.2⟩ q⟩
def Wr(NZ:List (TE×TE)):TE:=fun σ H Q=>∀p,H p=none->yt NZ σ (upd H p (.dK [])) fun ps H2=>H2 p=some (.dK [])/\∃kvs:List (Key×V),ps=kvs.map (fun kv=>(kV kv.1,kv.2))/\kvs.length<=15/\Q (.ref p) (upd H2 p (.dK (m8 [] kvs)))
theorem LQ{pos:Pos}{keys:List (Option Expr)}{values:List Expr}{NZ:List (TE×TE)}(h:Z0 X pos keys values NZ)(hall:keys.all (·.isSome)=true)(hl:keys.length=values.length)(h0:keys≠[])(h15:keys.length<=15):PE X (.Dict keys values pos) (Wr NZ):=by
 intro pins s σ H Q I q;have hn:=I.hok.fresh (le_refl s.heap.objs.size);have I1:=I.laid (a:=s.heap.objs.size) (o:=.dK []) (h':=s.heap.push {cls:=.type "dict",data:=.dict #[]}) (t':=s.toks) (fun _ _ q=>dw q) (cR) (xf s.heap I.big);refine wpAny_Dict_walk (knd:=bU X.prog X.w) hall hl h0 h15 (cz (h pins _ σ _ _ I1 (q _ hn)) fun ws s2⟨ps,H2,I2,rel,e,kvs,ep,lk,q2⟩=>?_);subst ep;obtain⟨rs,c,rk⟩:=qW (P:=X.prog) (w:=X.w) rel;obtain⟨z,hd,VF,r0,dd⟩:=Ot I2.hok e;cases r0;refine⟨rs,c,dd,fun h' Tz hs=>⟨.ref s.heap.objs.size,_,?_,rfl,q2⟩⟩;have hz:(m8 [] kvs).length<=sizeLine:=by have h1:=lq kvs [];rw[length_nil]at h1;rw[sizeLine_eq];omega
 have he:∃q,h'.get? s.heap.objs.size=some q:=let⟨q,_,_,hq,_⟩:=Tz;⟨q,hq⟩;exact uq I2 (by rw[e];exact True.intro) hs he (Jd hz hd (rk.merge .nil) Tz)
end L2
namespace Att
open PySem PySem.W PySem.Calls PyProof.Rows
end Att
namespace L2
open PySem PySem.Spec PyProof.Rows
end L2
end
section
namespace HH
open PySem L2 PySem.Spec PyProof.Rows
variable{kvs:List (Int×D)}{es:List (Key×V)}{k:Int}
inductive KR(K:PySem.W.Frag)(F:Hp):List (Int×D)->List (Key×V)->Prop where|nil:KR K F [] []|cons{k:Int}{d:D}{v:V}{kvs:List (Int×D)}{es:List (Key×V)}(h:Rep K F v d)(t:KR K F kvs es):KR K F ((k,d)::kvs) ((Sum.inl k,v)::es)
section
variable{K:PySem.W.Frag}{F F':Hp}
noncomputable def ent(ks:List Int)(vs:List V):List (Key×V):=(ks.zip vs).map fun p=>(Sum.inl p.1,p.2)
theorem KR.of:∀{kvs:List (Int×D)}{vs:List V},aL K F vs (kvs.map (·.2))->KR K F kvs (ent (kvs.map (·.1)) vs)|[],vs,h=>by rw[map_nil]at h;rw[h.fB];exact .nil|(k,d)::kvs,vs,h=>by obtain⟨v,r,rfl,h1,h2⟩:=h.cL;exact .cons h1 (KR.of h2)
theorem KR.to(h:KR K F kvs es):∃vs,es=ent (kvs.map (·.1)) vs/\aL K F vs (kvs.map (·.2)):=by induction h with|nil=>exact⟨[],rfl,.nil⟩|@cons k d v kvs es h t ih=>obtain⟨vs,rfl,r⟩:=ih;exact⟨v::vs,rfl,.cons h r⟩
theorem KR.oc(h:KR K F kvs es):kY K F (.dK es) (.v kvs):=by obtain⟨vs,rfl,r⟩:=h.to;exact⟨vs,rfl,r⟩
theorem KR.RQ{o:HO}(h:kY K F o (.v kvs)):∃es,o=.dK es/\KR K F kvs es:=by obtain⟨vs,rfl,r⟩:=h;exact⟨_,rfl,.of r⟩
theorem KR.len(h:KR K F kvs es):es.length=kvs.length:=by induction h with|nil=>rfl|cons h t ih=>simp[ih]
theorem KR.get{d:D}(h:KR K F kvs es)(e:nU kvs k=some d):∃v,jx es (Sum.inl k:Key)=some v/\Rep K F v d:=by induction h with|nil=>cases e|@cons j d' v kvs es h t ih=>
   unfold nU at e ih;rw[find?_cons]at e;by_cases c:j=k;.simp[c]at e;subst e;exact⟨v,lZ (by rw[c]),h⟩
   .simp[c]at e;obtain⟨v',h1,h2⟩:=ih (by simpa using e);exact⟨v',by rw[mR (by simpa using c)];exact h1,h2⟩
theorem KR.any{kvs:List (Int×D)}{es:List (Key×V)}(k:Int)(h:KR K F kvs es):(es.any fun kv=>decide (kv.1=(Sum.inl k:Key)))=kvs.any fun p=>decide (p.1=k):=by induction h with|nil=>rfl|cons h t ih=>simp[ih]
theorem KR.has(k:Int)(h:KR K F kvs es):(jx es (Sum.inl k:Key)).isSome=(kvs.map (·.1)).contains k:=by rw[<-qd,h.any k];induction h with|nil=>rfl|@cons j d v kvs es h t ih=>rw[any_cons,ih,map_cons,List.contains_cons];congr 1;exact Bool.eq_iff_iff.mpr ⟨fun z=>by simp at z ⊢;exact z.symm,fun z=>by simp at z ⊢;exact z.symm⟩
theorem KR.repl{d:D}{v:V}(r:Rep K F v d)(h:KR K F kvs es):KR K F (kvs.map fun p=>if p.1=k then(p.1,d)else p) (es.map fun kv=>if kv.1=(Sum.inl k:Key)then(kv.1,v)else kv):=by induction h with|nil=>exact .nil|@cons j d' v' kvs es h t ih=>
   by_cases c:j=k;.subst c;simp;exact .cons r ih
   . have:¬(Sum.inl j:Key)=Sum.inl k:=by simpa using c
     simp[c,this];exact .cons h ih
theorem KR.snoc{d:D}{v:V}(r:Rep K F v d)(h:KR K F kvs es):KR K F (kvs++[(k,d)]) (es++[(Sum.inl k,v)]):=by induction h with|nil=>exact .cons r .nil|cons h t ih=>exact .cons h ih
theorem KR.put{d:D}{v:V}(r:Rep K F v d)(h:KR K F kvs es):KR K F (jL kvs k d) (putK es (Sum.inl k:Key) v):=by
 unfold jL putK;rw[h.any k];split;.exact h.repl r
 .exact h.snoc r
theorem KR.zip{ks:List Int}{ds:List D}{vs:List V}(h:aL K F vs ds)(hl:ks.length=ds.length):KR K F (ks.zip ds) (ent ks vs):=by induction ds generalizing ks vs with
 |nil=>rw[h.fB];cases ks with|nil=>exact .nil|cons _ _=>simp at hl
 |cons d ds ih=>obtain⟨v,r,rfl,h1,h2⟩:=h.cL;cases ks with|nil=>simp at hl|cons k ks=>exact .cons h1 (ih h2 (by simpa using hl))
end
noncomputable def Od(p:Int×Int):Key×V:=(Sum.inl p.1,V.int p.2)
theorem JM(i:Int):∀kvs:List (Int×Int),jx (kvs.map Od) (Sum.inl i:Key)=((kvs.find? fun kv=>decide (kv.1=i)).map (·.2)).map V.int
 |[]=>rfl|p::kvs=>by
   have ih:=JM i kvs;unfold jx at ih ⊢;rw[map_cons,find?_cons,find?_cons];by_cases h:p.1=i
   . have e:decide ((Od p).1=(Sum.inl i:Key))=true:=by simp[Od,h]
     rw[e];simp[h,Od]
   . have e:decide ((Od p).1=(Sum.inl i:Key))=false:=by simp[Od,h]
     rw[e];simp only[h,decide_false];exact ih
section
variable{X:Cx}{c:Call}{n:Nat}{a b e:Expr}{pa pb p:P}{pos:Pos}
theorem Tj{H:Hp}{q:Addr}{m:Dc}{i:Int}{o:Option Int}(h:Rd H q m.ho)(e:m.get (.int i)=some o):qY H q (.int i) (o.map V.int):=by cases m with|k kvs=>cases e;exact .inl ⟨kvs.map Od,Sum.inl i,h,rfl,(JM i kvs).symm⟩|t kvs=>cases e
theorem vC(hu:X.A.units+8<cLine)(ha:SX X c a pa)(hb:SX X c b pb)(hs:Lj b):SX X c (.Subscript a b pos) (.bin .Em pa pb):=by refine uv (f:=Bb) (fun h1 h2=>?_) ha hb (fun ρ=>rfl) rfl;intro pins s σ H Q I h;refine BP PySem.F.slot_dict_getitem.lookup hs (cz (h1 pins s σ H _ I h) fun u s1⟨x,H1,I1,rx,q1⟩=>cz (h2 pins s1 σ H1 _ I1 q1) fun iv s2⟨y,H2,I2,ry,q2⟩=>?_);obtain⟨F,d,e,r,sm,px,py,he,k⟩:=q2;cases d with
 |dN m=>have zz:=cF (show(m.get e).bind (fun o=>o.map fun v=>R.val (.int v))=some r from he);clear he;obtain⟨o,e1,he⟩:=zz;cases o with|none=>cases he|some v=>
     cases he;obtain⟨i,rfl⟩:∃i,e=.int i:=by cases m with|t kvs=>cases e<;>cases e1|k kvs=>cases e<;>first|exact⟨_,rfl⟩|cases e1
     obtain⟨q,ob,rfl,hq⟩:=px.dN sm;rw[py.int]at ry;obtain rfl:u=Value.ref q:=rx;have g:=Tj (.inr ⟨ob,hq⟩) e1;exact⟨jz I2 g,nF (by omega) I2 g ry fun w' s3 I3 xY=>⟨.int v,H2,I3,xY,cG.cU sm (bY _) k⟩⟩
 |dv ks ds=>cases e with|int j=>obtain⟨d',e5,he⟩:=map_some (show(nU (ks.zip ds) j).map R.val=some r from he);subst he;obtain⟨q,ob,vs,rfl,hq,rs,hl⟩:=px.dv sm;obtain⟨v',g1,g2⟩:=(KR.zip rs hl).get e5;rw[py.int]at ry;obtain rfl:u=Value.ref q:=rx;have g:qY H2 q (.int j) (some v'):=.inl ⟨_,Sum.inl j,.inr ⟨ob,hq⟩,rfl,g1.symm⟩;exact⟨jz I2 g,nF (by omega) I2 g ry fun w' s3 I3 xY=>⟨v',H2,I3,xY,cG.cU sm g2 k⟩⟩|_=>cases he
 |_=>cases he
end
end HH
end
section
namespace L2
open PySem PySem.Spec PyProof.Rows
noncomputable def Itk(a:Addr)(ob:Obj)(kvs:List (Key×V)):It:=⟨fun i H=>H a=some (.cX ob (.dK kvs))/\i<kvs.length,fun i H x H'=>H'=H/\∃p,kvs[i]?=some p/\x=kV p.1,fun i H=>H a=some (.cX ob (.dK kvs))/\kvs.length<=i⟩
theorem KV.get:∀{κ:Type}{kvs:List (κ×V)}{vs:List (κ×Value)}{i:Nat}{p:κ×V},KV kvs vs->kvs[i]?=some p->∃v,vs[i]?=some (p.1,v)|_,_,_,_,_,.nil,e=>by simp at e|_,_,_,0,_,.cons r _,e=>by simp at e;subst e;exact⟨_,by rw[List.getElem?_cons_zero,r.1]⟩|_,_,_,i+1,p,.cons _ t,e=>by obtain⟨v,h⟩:=KV.get (i:=i) (p:=p) t (by simpa using e);exact⟨v,by simpa using h⟩
theorem tM{X:Cx}{pins:List (Addr×Obj)}{σ:St}{H:Hp}{s:Shared}{a:Addr}{ob:Obj}{kvs:List (Key×V)}{es:Array DictEntry}{ep:Nat}(I:Inv X pins σ H s)(h:H a=some (.cX ob (.dK kvs)))(hd:ob.data=.dict es ep):(a==sysModules)=false/\∃vs,KV kvs vs/\s.heap.DictAt (bU X.prog X.w) a vs ep:=by obtain⟨ho,hz,hS,vs,r,dd⟩:=(show cj X.prog X.w H s.heap a (.cX ob (.dK kvs))from I.hok a _ h);obtain⟨o,es',ep',h1,h2,h3,h4⟩:=dd;rw[ho]at h1;cases h1;rw[hd]at h3;cases h3;exact⟨hS,vs,r,⟨ob,es,ho,h2,hd,h4⟩⟩
theorem Q5{P:Program}{w:World}{k:Key}{u:Value}(h:(bU P w).is k u=true):RelV (kV k) u:=by
 rcases bZ h with⟨i,t,rfl,rfl⟩|⟨x,t,rfl,rfl⟩;.exact⟨t,rfl⟩
 .exact⟨t,rfl⟩
theorem Eh{P:Program}{w:World}{K:PySem.W.Frag}{tg:Expr}(a it:Addr)(ob:Obj)(kvs:List (Key×V))(es:Array DictEntry)(ep:Nat)(hd:ob.data=.dict es ep):Turn P w K tg (Itk a ob kvs) [it] it (fun i h=>h.IsKeyIter it a i kvs.length ep)where
 mem:=by simp
 obj:=fun i h st b hb=>by
  have e:b=it:=by simpa using hb
  subst e;obtain⟨o,e,c,d⟩:=st;exact⟨o,e,fun v z=>by rw[d]at z;cases z⟩
 keep:=fun i h h' st k=>st.at fun o e=>k it (by simp) o e;item:=by intro X hP hw hK hc i pins s σ H E I hf st hg;subst hP hw hK;obtain⟨hq,hi⟩:=hg;obtain⟨hS,vs,r,dd⟩:=tM I hq hd;have hl:vs.length=kvs.length:=(Paired.length r).symm;obtain⟨v,hx⟩:=KV.get r (show kvs[i]?=some kvs[i]by simp[hi]);obtain⟨f0,f1,f2,f3,f4,f5⟩:=hf it (by simp);refine wpAny_pyNext_dict_item (by rw[hl];exact st) dd hx fun u h' hu st' sb=>?_;have I1:Inv X pins σ H {s with heap:=h'}:=I.turned (t':=s.toks) (fun b o hb e=>(sb.2 b hb).trans e) f0 f1 f3 f4 f5;rw[hl]at st';obtain⟨o,e,c,d⟩:=id st';exact⟨u,rfl,Bk (s:={s with heap:=h'}) e c d (by decide) ⟨_,H,I1,Q5 hu,⟨rfl,_,by simp[hi],rfl⟩,st',fun b hb=>(hf b hb).1⟩⟩
 done:=by intro X hP hw hK hc i pins s σ H E I hf st hg;subst hP hw hK;obtain⟨hq,hi⟩:=hg;obtain⟨hS,vs,r,dd⟩:=tM I hq hd;have hl:vs.length=kvs.length:=(Paired.length r).symm;obtain⟨f0,f1,f2,f3,f4,f5⟩:=hf it (by simp);refine wpAny_pyNext_dict_end (I.ok.hd hc) (by rw[hl];exact st) dd (by simp[hl,hi]) fun h' he=>⟨rfl,?_⟩;exact I.turned (t':=s.toks) (fun b o hb e=>he b o hb e) f0 f1 f3 f4 f5
 self:=fun A i s Q E st hQ=>wpAny_pyIter_keyiter st hQ
section
variable{X:Cx}{tg:Expr}
theorem M6{l:Expr}{tl:TE}(hl:PE X l tl):PI X tg l (fun σ H R=>tl σ H fun x H1=>∃a ob kvs,x=.ref a/\H1 a=some (.cX ob (.dK kvs))/\R (Itk a ob kvs) H1):=by
 intro pins s σ H R I h;refine cz (hl pins s σ H _ I h) ?_;rintro v s1⟨x,H1,I1,r1,a,ob,kvs,e,hq,q⟩;subst e;cases r1;obtain⟨ho,hz,hS,vs,r,dd⟩:=(show cj X.prog X.w H1 s1.heap a (.cX ob (.dK kvs))from I1.hok a _ hq);obtain⟨o,es,ep,h1,h2,h3,h4⟩:=id dd;rw[ho]at h1;cases h1;have hlen:vs.length=kvs.length:=(Paired.length r).symm;refine wpAny_pyIter_dict (knd:=bU X.prog X.w) (kvs:=vs) (ep:=ep) hS ⟨ob,es,ho,h2,h3,h4⟩ ?_;refine⟨s1.heap.objs.size,[s1.heap.objs.size],_,_,H1,rfl,I1.kept (t':=s1.toks) fun b o e=>dw e,Eh a _ ob kvs es ep h3,⟨_,get?_push_size _ rfl,rfl,by rw[hlen];rfl⟩,fun b hb=>?_,q⟩;have e:b=s1.heap.objs.size:=by simpa using hb
 subst e;exact I1.yu (cR) (I1.hok.fresh (cR))
end
end L2
namespace HH
open PySem L2 PySem.Spec PyProof.Rows
section
variable{X:Cx}{c:Call}{tg e:Expr}{p:P}
theorem Lp{ks:List Int}{es:List (Key×V)}{j:Nat}{p:Key×V}{i:Int}(h:es.map (·.1)=ks.map (Sum.inl:Int->Key))(e1:es[j]?=some p)(e2:ks[j]?=some i):p.1=Sum.inl i:=by
 have:(es.map (·.1))[j]?=(ks.map (Sum.inl:Int->Key))[j]?:=by rw[h]
 rw[getElem?_map,getElem?_map,e1,e2]at this;exact Option.some.inj this
theorem lQ:∀{ks:List Int}{vs:List V},ks.length=vs.length->(ent ks vs).map (·.1)=ks.map (Sum.inl:Int->Key)|[],[],_=>rfl|k::ks,v::vs,h=>by have:=lQ (ks:=ks) (vs:=vs) (by simpa using h);unfold ent at this ⊢;simpa using this|[],_::_,h=>by simp at h|_::_,[],h=>by simp at h
theorem MK(h:SX X c e p):SI X c tg e (.blt .keys [p]):=by
 unfold SI;obtain⟨ta,h1,h2⟩:=h.dj;refine kZ (M6 h1) ?_;rintro σ H R⟨F,ρ,ds,ρ1,g,eA,k⟩;obtain⟨r,ρ2,eB,eC⟩:=ao (show((HH.ev c (.blt .keys [p]) ρ).bind fun r ρ=>lift (items r.d) ρ)=.ok ds ρ1 from eA);obtain⟨eD,e3⟩:=aB eC;subst e3;rw[HH.E17]at eB;obtain⟨d,ρ3,e1,eE⟩:=ao eB;obtain⟨eF,e4⟩:=aB eE;subst e4;refine h2 g e1 fun v F' H' s pv=>?_;have hd:∃(ks:List Int)(es:List (Key×V))(a:Addr)(ob:Obj),ds=ks.map D.int/\v=.ref a/\H' a=some (.cX ob (.dK es))/\es.map (·.1)=ks.map (Sum.inl:Int->Key):=by cases d with
  |dN m=>cases m with|k kvs=>cases eF;cases eD;obtain⟨a,ob,rfl,hq⟩:=pv.dN s.gs.sub;exact⟨kvs.map (·.1),kvs.map Od,a,ob,by rw[map_map];rfl,rfl,hq,by rw[map_map,map_map];rfl⟩|t kvs=>cases eF
  |dv ks ds'=>cases eF;cases eD;obtain⟨a,ob,vs,rfl,hq,rs,hl⟩:=pv.dv s.gs.sub;exact⟨ks,ent ks vs,a,ob,rfl,rfl,hq,lQ (by rw[rs.length];exact hl)⟩|_=>cases eF
 obtain⟨ks,es,a,ob,rfl,rfl,hq,hes⟩:=hd;have hle:es.length=ks.length:=by have:=congrArg List.length hes;simpa using this
 refine⟨a,ob,es,rfl,hq,k _ F' H' ⟨s.gs,fun n j F2 ρ2 σ2 H2 s2=>?_,fun F2 ρ2 σ2 H2 s2=>⟨s.trans s2,fun v r rr=>rr.later s⟩⟩⟩;have gm:=s.gs.more (n:=n) (τ:=replicate n none) (by simp);have hq2:=s2.keep a _ hq fun⟨j,⟨t,dt,q1,q2⟩,q3⟩=>by obtain⟨a',o',z1,z2,z3,z4⟩:=gm.own j t dt q1 q2;rw[q3]at z1;cases z1;rw[hq]at z2;cases z2;cases dt with|l ds=>obtain⟨xs,z,_⟩:=z4;cases z|d m=>cases m<;>cases z4|v kvs=>obtain⟨xs,z,_⟩:=z4;cases z
 refine⟨fun d hd=>?_,fun hj=>⟨hq2,by rw[hle];simpa using hj⟩⟩;have hj:j<ks.length:=by have:=(cV hd).1;simpa using this
 refine⟨⟨hq2,by omega⟩,fun x kh⟨e5,q,e6,e7⟩=>?_⟩;subst e5;refine⟨F2,.refl s2.gs.sub,?_⟩;rw[getElem?_map]at hd;obtain⟨i,e8,e9⟩:=map_some hd;rw[e7,Lp hes e6 e8,<-e9];exact bY _
end
end HH
end
section
namespace HH
open PySem L2 PySem.Spec PyProof.Rows PySem.Calls PySem.W
section
variable{prog:Program}{w:World}{A:Around}{E:Value->Shared->Prop}{s:Shared}
theorem uH{κ:Type}[DecidableEq κ]{knd:PySem.KeyKind prog w κ}{d:Addr}{kvs:List (κ×Value)}{ep:Nat}{Q:List Value->Shared->Prop}(hh:A.handled=none)(lo:(d==sysModules)=false)(dd:s.heap.DictAt knd d kvs ep)(hn:kvs.length<=sizeLine)(hQ:∀h' tk acc,(∀b o,s.heap.get? b=some o->h'.get? b=some o)->s.heap.objs.size<h'.objs.size->ItemsOf (fun i v=>∃k x,kvs[i]?=some (k,x)/\knd.is k v=true) acc kvs.length->Q acc.toList {s with heap:=h',toks:=tk}):
 wpAny (model prog w) A (collect (.ref d)) Q E s:=by have hlt:=dd.lt_size;unfold collect;refine wpAny_bind (wpAny_runValue (codeAny_builtin F.entry_proto_collect ?_));rw[Around.under_plainId F.plain_proto_collect _];show wpAny _ A.in1 (newList []>>=fun l=>again (.builtin "list.__iadd__" ⟨[l,.ref d],[]⟩)) _ _ s;refine wpAny_bind (wpAny_newObj_type ?_);refine wpAny_pure ⟨plainId_quiet F.plain_list_iadd _,codeAny_builtin F.entry_list_iadd ?_⟩;rw[Around.under_plainId F.plain_list_iadd _];show wpAny _ A.in1 (listExtendWith (.ref s.heap.objs.size) (.ref d) (.ref s.heap.objs.size)) _ _ _;refine kdl_extend (A:=A) (R:=fun r s'=>match r with
  |.ok (.ret v)=>wpAny (model prog w) A (match v with
   |.ref a=>do let o<-load a match o.data with|.seq xs _=>pure xs.toList|_=>unsupported "internal:collect"
   |_=>unsupported "internal:collect") Q E s'|.ok _=>False|.error e=>E e s') (s:={s with heap:=s.heap.push {cls:=.type "list",data:=.seq #[]}}) (kdl_dict (knd:=knd) (kvs:=kvs) (ep:=ep) lo) hh (dd.push _) s.heap.objs.size (ne_of_gt hlt) (ne_of_gt hlt) _ 0 (get?_push_size _ rfl) (fun h' tk acc c' hk hS hacc=>?_) hn;refine wpAny_bind (wpAny_load hS ?_);exact wpAny_pure (hQ h' tk acc (fun b o e=>hk b o (ne_of_lt (lt_size e)) (dw e)) (lt_size hS) hacc)
end
section
variable{X:Cx}{c:Call}{a:Expr}{pa:P}{pos:Pos}
theorem jg:∀{ns:List Int}{us:List Value},IntsAre us ns->Vals (ns.map V.int) us|_,_,.nil=>.nil|_,_,.cons n t r=>.cons ⟨t,rfl⟩ (jg r)
theorem nR{K:PySem.W.Frag}{F:Hp}:∀ns:List Int,aL K F (ns.map V.int) (ns.map D.int)|[]=>.nil|n::ns=>.cons (bY n) (nR ns)
end
end HH
end
section
namespace HH
open PySem L2 PySem.Spec PyProof.Rows
theorem Inv.aec{X:Cx}{pins:List (Addr×Obj)}{σ:L2.St}{H:Hp}{s:Shared}{a:Addr}{kvs:List (List Key×V)}(I:L2.Inv X pins σ H s)(h:H a=some (.dT kvs)):∃o,L2.Inv X pins σ (upd H a (.cX o (.dT kvs))) s:=by obtain⟨z,y,xs,r,o,es,ep,h1,h2,h3,h4,h5⟩:=(show cj X.prog X.w H s.heap a (.dT kvs)from I.hok a _ h);refine⟨o,I.write (h':=s.heap) (t':=s.toks) (by rw[h];exact trivial) (.inl rfl) (fun b u _ e=>e) ⟨o,h1⟩ ⟨h1,z,y,xs,KT.keeps r fun b ys q=>?_,o,es,ep,h1,h2,h3,h4,h5⟩⟩;rw[aG (by rintro rfl;rw[h]at q;cases q)];exact q
section
variable{X:Cx}{c:Call}{n:Nat}{a b e:Expr}{p pa pb:P}{pos:Pos}{es:List Expr}{ps:List P}{x1:Nat}{tpos:Pos}
theorem W6{i:Nat}{x:Str}{px:Pos}(hN:X.N[i]?=some x)(hv:yC X.env.scope x)(hd:(x==("__debug__":Str))=false:=by decide)(hcd:(x==("__classdict__":Str))=false:=by decide):SX X c (.Name x px) (.vw i):=by
 have h:=iB (X:=X) (pos:=px) hN hv hd hcd;refine⟨?_,fun i h=>by cases h⟩;rintro pins s σ H Q I⟨F,ρ,r,ρ',g,e,k⟩;rw[HH.E23]at e;split at e
 . rename_i m q;cases e;obtain⟨a,h1,h2,h3⟩:=g.Aq q;refine cz (h pins s σ H (fun v H'=>v=.ref a/\H'=H) I ⟨.ref a,h1,rfl,rfl⟩) fun u s1⟨v,H1,I1,r1,e1,e2⟩=>?_;subst e1 e2;have zz:∃o,L2.Inv X pins σ (upd H1 a (.cX o m.ho)) s1:=by cases m with|k kvs=>exact Inv.Gj I1 h2|t kvs=>exact Inv.aec I1 h2
   obtain⟨o,I2⟩:=zz;exact⟨.ref a,_,I2,r1,k _ _ _ (h3 o).1 (h3 o).2⟩
 .rename_i kvs q;cases e;obtain⟨a,vs,h1,h2,h3⟩:=g.Ba q;refine cz (h pins s σ H (fun v H'=>v=.ref a/\H'=H) I ⟨.ref a,h1,rfl,rfl⟩) fun u s1⟨v,H1,I1,r1,e1,e2⟩=>?_;subst e1 e2;obtain⟨o,I2⟩:=Inv.Gj I1 h2;exact⟨.ref a,_,I2,r1,k _ _ _ (h3 o).1 (h3 o).2⟩
 .cases e
end
end HH
end
section
namespace HH
open PySem L2 PySem.Spec PyProof.Rows
section
variable{K:PySem.W.Frag}{F H F' H':Hp}{ρ ρ':List Sl}{σ σ':L2.St}
def Kp(ρ:List Sl)(σ:L2.St)(H:Hp)(a:Addr)(o:HO):Prop:=H a=some o/\¬ Own ρ σ a
theorem Kp.stp{a:Addr}{o:HO}(h:Kp ρ σ H a o)(s:aU K F ρ σ H F' ρ' σ' H'):Kp ρ' σ' H' a o:=⟨s.keep a o h.1 h.2,fun z=>(s.vV a z).elim h.2 fun e=>by rw[h.1]at e;cases e⟩
structure Wt(K:PySem.W.Frag)(F:Hp)(ρ:List Sl)(σ:L2.St)(H:Hp)(a:Addr)(ds:List D):Prop where
 ex:∃xs,Kp ρ σ H a (.lst xs)/\aL K F xs ds
 fr:F a=none
theorem Wt.stp{a:Addr}{ds:List D}(h:Wt K F ρ σ H a ds)(s:aU K F ρ σ H F' ρ' σ' H'):Wt K F' ρ' σ' H' a ds:=by obtain⟨⟨xs,h1,h2⟩,h3⟩:=h;refine⟨⟨xs,h1.stp s,h2.mono s.bV⟩,?_⟩;cases q:F' a with|none=>rfl|some o=>
   rcases s.yd a h3 (by rw[q];simp)with z|z;.exact absurd z h1.2
   .rw[h1.1]at z;cases z
end
end HH
end
section
namespace HH
open PySem L2 PySem.Spec PyProof.Rows
section
variable{X:Cx}{c:Call}{n:Nat}{e a b d elt tg:Expr}{p pa pb pe:P}{pos:Pos}{elts:List Expr}{x1:Nat}{tp:Pos}
def XS(K:PySem.W.Frag)(i:Nat)(f:Ev):TI:=fun σ H R=>∃F ρ ds ρb ρ1,GS K F ρ σ H/\Ik i f ρ=.ok (ds,ρb) ρ1/\∀J F1 H1,Walk K F ρ σ H (bz ρb (some i)) J ds F1 ρ1 H1->R J H1
theorem Nb{x:Str}{p':Pos}{i:Nat}(hx:x="zip")(hg:Gl X x)(hm:X.mg x=none)(hv:isVar pb=some i)(ha:SX X c a pa)(hb:SX X c b pb)(hs:starEach [a,b] X.env=[(false,eval a X.env),(false,eval b X.env)]:=by rfl)(hs2:starEach [b] X.env=[(false,eval b X.env)]:=by rfl):PI X (.Tuple elts x1 tp) (.Call (.Name x p') [a,b] [] pos) (XS X.K i (HH.ev c pa)):=by
 subst hx;refine kZ (Jv hg hm (cO ha.ev (cO (hb.var i hv) eU hs2) (by rw[hs,hs2])) hs hs2) ?_;rintro σ H R⟨F,ρ,ds,ρb,ρ1,g,e,k⟩;obtain⟨r,ρ2,e1,e⟩:=ao e;obtain⟨es,ρ3,e2,e⟩:=ao e;have zz:=aB e2;clear e2;obtain⟨e2,e3⟩:=zz;subst e3;refine⟨F,ρ,r,ρ2,g,e1,fun u F' H' s rr=>?_⟩;obtain⟨F2,s2,_,ru⟩:=s.cX rr;obtain⟨t2,a2,ys,rfl,q2,r2⟩:=uE ru e2;split at e;.rename_i bb d' q;obtain⟨ds',ρ4,e4,e⟩:=ao e;have zz:=aB e4;clear e4;obtain⟨e4,e5⟩:=zz;subst e5;cases e;obtain⟨v',h1,rv⟩:=s2.gs.val i bb d' q;obtain⟨t1,a1,xs,rfl,q1,r1⟩:=uE rv e4;refine⟨_,h1,t2,t1,a2,a1,rfl,⟨ys,aM.sq s2.gs.sub q2⟩,⟨xs,aM.sq s2.gs.sub q1⟩,k _ _ _ ⟨s2.gs,fun n k F' ρ' σ' H' s'=>pF (aM.sq s'.gs.sub (aM.sq s'.bV q2)) (aM.sq s'.gs.sub (aM.sq s'.bV q1)) (r2.mono s'.bV) (r1.mono s'.bV) s'.gs.sub k,fun F3 ρ3 σ3 H3 s3=>?_⟩⟩;unfold bz;dsimp only;rw[q];exact⟨s2.trans s3,fun v r rr=>rr.later s2⟩
 . rename_i bb ds' q;cases e;have hi:i<ρb.length:=(cV q).1;have gl:=s2.gs.lend q;have ql:(ρb.set i (.lent ds'))[i]?=some (.lent ds'):=getElem?_set_self hi;obtain⟨a1,xs,h1,w2,w3,w4⟩:=gl.mO i _ ds' ql rfl;refine⟨_,h1,t2,false,a2,a1,rfl,⟨ys,aM.sq s2.gs.sub q2⟩,⟨xs,dF.of w2⟩,k _ _ _ ⟨gl,fun n k F' ρ' σ' H' s'=>?_,fun F3 ρ3 σ3 H3 s3=>?_⟩⟩;.obtain⟨z1,t,z2,z3⟩:=s'.lk i _ (by rw[getElem?_append_left (by simpa using hi)];exact ql) rfl;cases(show t=.lent ds' from z3);rw[getElem?_append_left (by rw[<-gl.len];simpa using hi),h1]at z1;obtain⟨a',ys',u1,u2,u3,u4⟩:=s'.gs.mO i _ ds' z2 rfl;rw[z1]at u1;cases u1;exact pF (aM.sq s'.gs.sub (aM.sq s'.bV q2)) (show Sq false X.K H' a1 ys' from dF.of u2) (r2.mono s'.bV) u4 s'.gs.sub k
   .unfold bz;dsimp only;rw[q];obtain⟨y1,y2⟩:=aU.bz s2.gs q s3;exact⟨s2.trans y1,fun v r rr=>(y2 v r rr).later s2⟩
 . rename_i ds' q;cases e;have hi:i<ρb.length:=(cV q).1;obtain⟨a1,xs,h1,w2,w3,w4⟩:=s2.gs.mO i _ ds' q rfl;refine⟨_,h1,t2,false,a2,a1,rfl,⟨ys,aM.sq s2.gs.sub q2⟩,⟨xs,dF.of w2⟩,k _ _ _ ⟨s2.gs,fun n k F' ρ' σ' H' s'=>?_,fun F3 ρ3 σ3 H3 s3=>?_⟩⟩;.obtain⟨z1,t,z2,z3⟩:=s'.lk i _ (by rw[getElem?_append_left hi];exact q) rfl;cases(show t=.lent ds' from z3);rw[getElem?_append_left (by rw[<-s2.gs.len];exact hi),h1]at z1;obtain⟨a',ys',u1,u2,u3,u4⟩:=s'.gs.mO i _ ds' z2 rfl;rw[z1]at u1;cases u1;exact pF (aM.sq s'.gs.sub (aM.sq s'.bV q2)) (show Sq false X.K H' a1 ys' from dF.of u2) (r2.mono s'.bV) u4 s'.gs.sub k
   .unfold bz;dsimp only;rw[q];exact⟨s2.trans s3,fun v r rr=>rr.later s2⟩
 .cases e
variable{scope:Scope}{N':List Str}{ifs:List Expr}{iter:Expr}
theorem MJ{i j:Nat}{x:Str}{pos' spos:Pos}{nn:Nat}{g:TG}{is:List Nat}{one:Bool}{t:Option P}(hc:X.calm=true)(hN:X.N.Nodup)(hx0:X.N[i]?=some x)(hx:Loc X.env.scope x)(ok:eV X scope N' n)(hi:PI X tg iter (XS X.K j (HH.ev c pb)))(hg:∀cl C s₀ H₀ ex,PG (qK X scope N' cl C s₀ H₀ ex) tg g)(hgo:mC X.K X.N.length is one g)(ht:∀cl C s₀ H₀ ex,SQ (qK X scope N' cl C s₀ H₀ ex) c ifs t)(he:∀cl C s₀ H₀ ex,SX (qK X scope N' cl C s₀ H₀ ex) c elt pe)(hsw:swapsWith (.ListComp elt [⟨tg,iter,ifs,0⟩] scope pos) (some (.Name x pos')) spos.line X.env=pure true:=by rfl)(hs:∀x,foldedSetIterable iter X.env x=pure x:=by intro _;rfl)(hf:X.fn x=true\/X.env.scope.names.lookup x=some .local:=by first|exact .inl rfl|exact .inr rfl|assumption):SS X c nn (.Assign [.Name x pos'] (.ListComp elt [⟨tg,iter,ifs,0⟩] scope pos) spos) (.asg i (.yc j pb n is one t pe)):=by
 refine Iu (vd (tt:=EY X.K (kI c t)) (te:=vR X.K (HH.ev c pe)) hc hN hx0 hx ok hi hg ht (fun cl C s₀ H₀ ex=>(he cl C s₀ H₀ ex).ev) hsw hs hf) ?_;rintro D σ H hl⟨F,ρ,fl,ρ',g0,e,k⟩;rw[HH.X6]at e;obtain⟨r,ρ1,e1,e⟩:=ao e;obtain⟨ρ2,ρ3,e2,e⟩:=ao e;cases e;have zz:=aB e2;clear e2;obtain⟨e2,e3⟩:=zz;rw[HH.E27]at e1;obtain⟨⟨ds,ρb⟩,ρ5,e5,e⟩:=ao e1;dsimp only at e;split at e;.rename_i hlim;obtain⟨xs,ρ4,e4,e⟩:=ao e;cases e;exact wZ hl hgo (fun R h=>⟨F,ρ,ds,ρb,ρ5,g0,e5,h⟩) hlim e4 fun v F1 H1 s1 rr=>k F1 _ H1 (s1.put rr e2)
 .cases e
end
end HH
end
section
namespace HH
open PySem L2 PySem.Spec PyProof.Rows PySem.Calls PySem.W
theorem Mt{ns js:List Int}(p:js.Perm ns)(s:js.Pairwise (·<=·))(hl:ns.length<64):zH (ns.map D.int)=js.map D.int:=by
 refine(Iz ?_ (p.map D.int) ?_).symm;.simp only[sortable,length_map,and_eq_true,or_eq_true,decide_eq_true_eq];refine⟨by omega,.inl ?_⟩;rw[all_eq_true];intro x hx;obtain⟨i,_,rfl⟩:=mem_map.mp hx;rfl
 .rw[List.pairwise_map];refine s.imp fun{a b}h=>?_;simp only[nC,nP,cY,not_eq_true'];simp;omega
theorem Dw{prog:Program}{w:World}{A:Around}{E:Value->Shared->Prop}{s:Shared}{vs:List Value}{ns:List Int}{a:Addr}{n:Nat}{O:PySem.Fin->Shared->Prop}(ho:s.heap.get? a=some (seqObj "list" vs.toArray n))(ia:IntsAre vs ns)(h64:vs.length<64)(h:∀h' c(out:List Value)(js:List Int),(∀b o,b≠a->s.heap.get? b=some o->h'.get? b=some o)->IntsAre out js->zH (ns.map D.int)=js.map D.int->js.length=ns.length->h'.get? a=some (seqObj "list" out.toArray c)->O (.done (.ret .none)) {s with heap:=h'}):wpAny (model prog w) A (Builtin.«list.sort» ⟨[.ref a],[]⟩) O E s:=by refine list_sort_tree ho ia h64 fun out js i1 p1 s1=>?_;have ha:a<s.heap.objs.size:=lt_size ho;obtain⟨e1,ho1⟩:∃e1,(s.heap.update a (Obj.mapSeq fun _=>(#[]:Array Value))).get? a=some (seqObj "list" #[] e1):=⟨_,get?_update_seq ho fun _=>#[]⟩;have ho6:(((s.heap.update a (Obj.mapSeq fun _=>(#[]:Array Value))).push (seqObj "tuple" vs.toArray 0)).push (seqObj "list" #[] 0)).get? a=some (seqObj "list" #[] e1):=dw (dw ho1);obtain⟨c,hc⟩:∃c,(sortedHeap s.heap a vs out).get? a=some (seqObj "list" out c):=⟨_,get?_update_seq ho6 fun _=>out⟩;refine h (sortedHeap s.heap a vs out) c out.toList js (fun b o hb e=>?_) i1 (Mt p1 s1 (by rw[<-IntsAre.length ia];exact h64)) p1.length_eq (by rw[hc]);exact(get?_update_other _ _ (Ne.symm hb)).trans (dw (dw ((get?_update_other _ _ (Ne.symm hb)).trans e)))
end HH
end
section
namespace HH
open PySem L2 PySem.Spec PyProof.Rows
variable{o:Option V}{rows:List (List D)}
section
variable{X:Cx}{c:Call}{n:Nat}{pos:Pos}{body:List Stmt}{ss:List S}
theorem Lr{x:Str}{np hpos:Pos}{hs:List Stmt}(hb:∀pins J2,PassesOwn (model X.prog X.w) X.A X.env J2->SB (Gg X pins J2) c n body ss):SS X c n (.Try body [.ExceptHandler (some (.Name x np)) none hs hpos] [] [] pos) (.ifs (.con (.bl true)) ss []):=by
 rintro pins s σ H D I⟨F,ρ,fl,ρ',g,e,q⟩;refine wpAny_Try_except ?_;generalize hxe:(fun(e:Value)(s₁:Shared)=>wpAny (model X.prog X.w) X.A (noteFrame e X.env) (fun _ s₂=>wpAny (model X.prog X.w) X.A (setFlight e none) (fun _ s₃=>wpAny (model X.prog X.w) X.A (handleBy e X.env [.ExceptHandler (some (.Name x np)) none hs hpos]) (SP X pins D) X.xe s₃) X.xe s₂) X.xe s₁)=J2;have hp:PassesOwn (model X.prog X.w) X.A X.env J2:=by rw[<-hxe];exact PassesOwn.looking
 have z1:=hb pins J2 hp;unfold SB at z1;have e':gB c n ss ρ=.ok fl ρ':=by rw[HH.Xp]at e;exact e
 have w:=z1 [] s σ H D (Kv I) ⟨F,ρ,fl,ρ',g,e',q⟩;refine wpAny_mono w (fun f s5 y=>?_) fun e s5 y=>y;cases f with|next=>obtain⟨a,b,c,d⟩:=y;show wpAny (model X.prog X.w) X.A (execs [] X.env) _ _ s5;exact wpAny_execs_nil ⟨a,b,pL c,d⟩|brk=>obtain⟨a,b,c,d⟩:=y;exact⟨a,b,pL c,d⟩|cont=>obtain⟨a,b,c,d⟩:=y;exact⟨a,b,pL c,d⟩|ret u=>obtain⟨a,b,c,d,y⟩:=y;exact⟨a,b,c,pL d,y⟩
end
section
variable{K:PySem.W.Frag}{F F' F1 H H' H1 F0 H0:Hp}{ρ ρ' ρ1 ρ0:List Sl}{σ σ' σ1 σ0:L2.St}{x:Nat}{q:Addr}{as:List Addr}{rows oR:List (List D)}
noncomputable def Fv:Sl->Bool|.aV=>true|.hold _=>true|_=>false
theorem gF{s:Sl}{i:Nat}{b:Addr}(hm:Fv s=true)(h:bJ (ρ.set x s) (σ.set x o) i b):bJ ρ σ i b/\i≠x:=by
 obtain⟨⟨t,ds,e,e'⟩,e1⟩:=h;by_cases c:x=i
 . subst c;rw[List.getElem?_set]at e;rw[if_pos rfl]at e;split at e;.cases e;cases s<;>first|(cases e';done)|(cases hm;done)
   .cases e
 .rw[getElem?_set_ne c]at e e1;exact⟨⟨⟨t,ds,e,e'⟩,e1⟩,fun z=>c z.symm⟩
theorem GS.Ah{s:Sl}(hm:Fv s=true)(g:GS K F ρ σ H):GS K F (ρ.set x s) (σ.set x o) H:=by
 refine⟨g.sub,by simp[g.len],fun i b d e=>?_,fun i t ds e e'=>?_,fun i j a h1 h2=>g.dis i j a (gF hm h1).1 (gF hm h2).1⟩
 . by_cases c:x=i
   . subst c;rw[List.getElem?_set,if_pos rfl]at e;split at e;.cases e;cases hm
     .cases e
   .rw[getElem?_set_ne c]at e ⊢;exact g.val i b d e
 . by_cases c:x=i
   . subst c;rw[List.getElem?_set,if_pos rfl]at e;split at e;.cases e;cases s<;>first|(cases e';done)|(cases hm;done)
     .cases e
   .rw[getElem?_set_ne c]at e ⊢;exact g.own i t ds e e'
theorem aU.Ah{s:Sl}{o:Option V}(hm:Fv s=true)(t:aU K F ρ σ H F1 ρ1 σ1 H1)(hf:∀s0,ρ[x]?=some s0->vz s0=false):aU K F ρ σ H F1 (ρ1.set x s) (σ1.set x o) H1:=by
 refine⟨t.gs.Ah hm,t.bV,t.yd,t.keep,fun b⟨i,h⟩=>t.vV b ⟨i,(gF hm h).1⟩,by simp[t.len],fun i s' e l=>?_⟩;have c:x≠i:=by rintro rfl;rw[hf _ e]at l;cases l
 obtain⟨z1,s2,z2,z3⟩:=t.lk i s' e l;exact⟨by rw[getElem?_set_ne c];exact z1,s2,by rw[getElem?_set_ne c];exact z2,z3⟩
theorem aU.free{i:Nat}{s1:Sl}(t:aU K F ρ σ H F1 ρ1 σ1 H1)(h:ρ1[i]?=some s1)(hl:vz s1=false):∀s0,ρ[i]?=some s0->vz s0=false:=fun s0 e=>by cases z:vz s0 with|false=>rfl|true=>obtain⟨_,s2,z2,z3⟩:=t.lk i s0 e z;rw[h]at z2;cases z2;rw[z3.vz z]at hl;cases hl
structure Su(F:Hp)(ρ:List Sl)(σ:L2.St)(H:Hp)(a:Addr)(xs:List V):Prop where kp:Kp ρ σ H a (.lst xs)fr:F a=none
theorem Su.stp{a:Addr}{xs:List V}(h:Su F ρ σ H a xs)(s:aU K F ρ σ H F' ρ' σ' H'):Su F' ρ' σ' H' a xs:=by refine⟨h.kp.stp s,?_⟩;cases z:F' a with|none=>rfl|some o=>
   rcases s.yd a h.fr (by rw[z];simp)with y|y;.exact absurd y h.kp.2
   .rw[h.kp.1]at y;cases y
structure Nw(K:PySem.W.Frag)(x:Nat)(q:Addr)(as:List Addr)(F:Hp)(ρ:List Sl)(σ:L2.St)(H:Hp)(rows:List (List D)):Prop where
 slot:ρ[x]?=some (.hold rows)val:σ[x]?=some (some (.ref q))out:Su F ρ σ H q (as.map V.ref)nd:(q::as).Nodup
 len:as.length=rows.length
 row:∀(k:Nat)(a:Addr)(ds:List D),as[k]?=some a->rows[k]?=some ds->Wt K F ρ σ H a ds
theorem Nw.stp(w:Nw K x q as F ρ σ H rows)(s:aU K F ρ σ H F' ρ' σ' H'):Nw K x q as F' ρ' σ' H' rows:=by obtain⟨z1,s2,z2,z3⟩:=s.lk x _ w.slot rfl;cases(show s2=.hold rows from z3);exact⟨z2,z1.trans w.val,w.out.stp s,w.nd,w.len,fun k a ds h1 h2=>(w.row k a ds h1 h2).stp s⟩
structure NB(K:PySem.W.Frag)(x:Nat)(q:Addr)(as:List Addr)(F0:Hp)(ρ0:List Sl)(σ0:L2.St)(H0:Hp)(F:Hp)(ρ:List Sl)(σ:L2.St)(H:Hp)(rows:List (List D)):Prop where
 stp:aU K F0 ρ0 σ0 H0 F ρ σ H
 fresh:∀b,b∈q::as->Own ρ0 σ0 b\/H0 b=none
 free:∀s0,ρ0[x]?=some s0->vz s0=false
 nw:Nw K x q as F ρ σ H rows
theorem NB.step(b:NB K x q as F0 ρ0 σ0 H0 F ρ σ H rows)(s:aU K F ρ σ H F' ρ' σ' H'):NB K x q as F0 ρ0 σ0 H0 F' ρ' σ' H' rows:=⟨b.stp.trans s,b.fresh,b.free,b.nw.stp s⟩
theorem Cd{s:Sl}{a:Addr}{ob:HO}(hm:Fv s=true)(h:Kp ρ σ H a ob):Kp (ρ.set x s) (σ.set x o) H a ob:=⟨h.1,fun⟨i,z⟩=>h.2 ⟨i,(gF hm z).1⟩⟩
theorem Mq{s:Sl}{a:Addr}{ds:List D}(hm:Fv s=true)(h:Wt K F ρ σ H a ds):Wt K F (ρ.set x s) (σ.set x o) H a ds:=by obtain⟨⟨xs,h1,h2⟩,h3⟩:=h;exact⟨⟨xs,Cd hm h1,h2⟩,h3⟩
theorem aU.abL{Da:Addr}{o:HO}(s:aU K F ρ σ H F1 ρ1 σ1 H1)(h:Own ρ σ Da\/H Da=none)(hf:F1 Da=none)(ho:¬ Own ρ1 σ1 Da):aU K F ρ σ H F1 ρ1 σ1 (upd H1 Da o):=by
 refine⟨⟨fun b u e=>?_,s.gs.len,s.gs.val,fun i t ds e e'=>?_,s.gs.dis⟩,s.bV,s.yd,fun b u e n=>?_,s.vV,s.len,s.lk⟩
 . have:b≠Da:=by rintro rfl;rw[hf]at e;cases e
   rw[aG this];exact s.gs.sub b u e
 . obtain⟨a,xs,q1,q2,q3,q4⟩:=s.gs.own i t ds e e';have:a≠Da:=by rintro rfl;exact ho ⟨i,⟨t,ds,e,e'⟩,q1⟩
   exact⟨a,xs,q1,by rw[aG this];exact q2,q3,q4⟩
 . have:b≠Da:=by
    rintro rfl;rcases h with h|h;.exact n h
    .rw[h]at e;cases e
   rw[aG this];exact s.keep b u e n
theorem NB.mut{r:Nat}{a:Addr}{row km:List D}{ys:List V}(b:NB K x q as F0 ρ0 σ0 H0 F ρ σ H rows)(ha:as[r]?=some a)(hr:rows[r]?=some row)(rp:aL K F ys km):NB K x q as F0 ρ0 σ0 H0 F (ρ.set x (.hold (rows.set r km))) σ (upd H a (.lst ys)) (rows.set r km):=by
 have w:=b.nw.row r a row ha hr;obtain⟨⟨xs,k1,r1⟩,f1⟩:=w;have hx:x<ρ.length:=(cV b.nw.slot).1;have sx:σ.set x (some (.ref q))=σ:=by have:=b.nw.val;obtain⟨h1,h2⟩:=cV this;rw[<-h2];simp
 have mem:a∈q::as:=mem_cons_of_mem _ (mem_of_getElem? ha);have s1:=(b.stp.abL (o:=.lst ys) (b.fresh a mem) f1 k1.2).Ah (x:=x) (s:=.hold (rows.set r km)) (o:=some (.ref q)) rfl b.free;rw[sx]at s1;have nq:q≠a:=by have:=(nodup_cons.mp b.nw.nd).1;rintro rfl;exact this (mem_of_getElem? ha)
 have own:∀{c:Addr},¬ Own ρ σ c->¬ Own (ρ.set x (.hold (rows.set r km))) σ c:=fun{c}h⟨i,z⟩=>h ⟨i,by have:=gF (x:=x) (s:=.hold (rows.set r km)) (o:=some (.ref q)) (σ:=σ) (ρ:=ρ) rfl (b:=c) (i:=i) (by rw[sx];exact z);exact this.1⟩;refine⟨s1,b.fresh,b.free,⟨getElem?_set_self hx,b.nw.val,⟨⟨by rw[aG nq];exact b.nw.out.kp.1,own b.nw.out.kp.2⟩,b.nw.out.fr⟩,b.nw.nd,by simp[b.nw.len],fun k c ds h1 h2=>?_⟩⟩;by_cases hk:k=r;.subst hk;rw[ha]at h1;cases h1;have hl:k<rows.length:=(cV hr).1;rw[getElem?_set_self hl]at h2;cases h2;exact⟨⟨ys,⟨bh,own k1.2⟩,rp⟩,f1⟩
 . rw[getElem?_set_ne (fun z=>hk z.symm)]at h2;obtain⟨⟨zs,k2,r2⟩,f2⟩:=b.nw.row k c ds h1 h2;have nc:c≠a:=by rintro rfl;have nd:=(nodup_cons.mp b.nw.nd).2;obtain⟨l1,e1⟩:=cV h1;obtain⟨l2,e2⟩:=cV ha;exact hk ((List.getElem_inj nd).mp (e1.trans e2.symm))
   exact⟨⟨zs,⟨by rw[aG nc];exact k2.1,own k2.2⟩,r2⟩,f2⟩
noncomputable def Fz(F H:Hp)(bs:List Addr):Hp:=fun b=>if b∈bs then H b else F b
theorem tH{G:Hp}:∀{as:List Addr}{rows:List (List D)},as.length=rows.length->(∀(k:Nat)(a:Addr)(ds:List D),as[k]?=some a->rows[k]?=some ds->Rep K G (.ref a) (.lst ds))->aL K G (as.map V.ref) (rows.map D.lst)|[],[],_,_=>.nil|a::as,ds::rows,h,k=>.cons (k 0 a ds rfl rfl) (tH (by simpa using h) fun j b es h1 h2=>k (j+1) b es (by simpa using h1) (by simpa using h2))|[],_::_,h,_=>by simp at h|_::_,[],h,_=>by simp at h
theorem Nw.Oo(w:Nw K x q as F ρ σ H rows){b:Addr}(hb:b∈q::as):F b=none/\¬ Own ρ σ b:=by
 rcases mem_cons.mp hb with rfl|hb;.exact⟨w.out.fr,w.out.kp.2⟩
 . obtain⟨k,hk⟩:=List.getElem?_of_mem hb;have hl:k<rows.length:=by rw[<-w.len];exact(cV hk).1
   obtain⟨⟨xs,k1,_⟩,f1⟩:=w.row k b rows[k] hk (by simp[hl]);exact⟨f1,k1.2⟩
theorem Nw.fz(w:Nw K x q as F ρ σ H rows)(sm:aM F H):aM F (Fz F H (q::as))/\aM (Fz F H (q::as)) H/\Rep K (Fz F H (q::as)) (.ref q) (.lst (rows.map D.lst)):=by
 have s1:aM F (Fz F H (q::as)):=fun b o e=>by unfold Fz;rw[if_neg fun hb=>by rw[(w.Oo hb).1]at e;cases e];exact e
 refine⟨s1,fun b o e=>?_,?_⟩
 . unfold Fz at e;split at e;.exact e
   .exact sm b o e
 .rw[Rep];refine⟨q,as.map V.ref,rfl,dF.of (by unfold Fz;rw[if_pos mem_cons_self];exact w.out.kp.1),tH w.len fun k a ds h1 h2=>?_⟩;obtain⟨⟨xs,k1,r1⟩,f1⟩:=w.row k a ds h1 h2;rw[Rep];exact⟨a,xs,rfl,dF.of (by unfold Fz;rw[if_pos (mem_cons_of_mem _ (mem_of_getElem? h1))];exact k1.1),r1.mono s1⟩
theorem NB.cX(b:NB K x q as F0 ρ0 σ0 H0 F ρ σ H rows):aU K F0 ρ0 σ0 H0 (Fz F H (q::as)) (ρ.set x (.val false (.lst (rows.map D.lst)))) σ H:=by
 obtain⟨s1,s2,rp⟩:=b.nw.fz b.stp.gs.sub;have g:=b.stp.gs;have hx:x<ρ.length:=(cV b.nw.slot).1;have old:∀{j:Nat}{c:Addr},bJ (ρ.set x (.val false (.lst (rows.map D.lst)))) σ j c->bJ ρ σ j c/\x≠j:=fun{j c}⟨⟨t,ds,e,e'⟩,e1⟩=>by
  by_cases hj:x=j;.subst hj;rw[getElem?_set_self hx]at e;cases e;cases e'
  .rw[getElem?_set_ne hj]at e;exact⟨⟨⟨t,ds,e,e'⟩,e1⟩,hj⟩
 refine⟨⟨s2,by simp[g.len],fun i bb d e=>?_,fun i t ds e e'=>?_,fun i j c h1 h2=>g.dis i j c (old h1).1 (old h2).1⟩,b.stp.bV.trans s1,fun c n n'=>?_,b.stp.keep,fun c⟨j,h⟩=>b.stp.vV c ⟨j,(old h).1⟩,by simp[b.stp.len],fun i t e l=>?_⟩
 . by_cases hj:x=i;.subst hj;rw[getElem?_set_self hx]at e;cases e;exact⟨_,b.nw.val,rp⟩
   .rw[getElem?_set_ne hj]at e;obtain⟨v,h1,h2⟩:=g.val i bb d e;exact⟨v,h1,h2.mono s1⟩
 . by_cases hj:x=i;.subst hj;rw[getElem?_set_self hx]at e;cases e;cases e'
   .rw[getElem?_set_ne hj]at e;obtain⟨a,o,h1,h2,h3,h4⟩:=g.own i t ds e e';refine⟨a,o,h1,h2,?_,h4.mono s1⟩;unfold Fz;rw[if_neg fun hb=>(b.nw.Oo hb).2 ⟨i,⟨t,ds,e,e'⟩,h1⟩];exact h3
 . by_cases hc:c∈q::as;.exact(b.fresh c hc).imp id jY
   . have:Fz F H (q::as) c=F c:=by unfold Fz;rw[if_neg hc]
     rw[this]at n';exact b.stp.yd c n n'
 . have c:x≠i:=by rintro rfl;rw[b.free _ e]at l;cases l
   obtain⟨z1,s3,z2,z3⟩:=b.stp.lk i t e l;exact⟨z1,s3,by rw[getElem?_set_ne c];exact z2,z3⟩
end
inductive QV(K:PySem.W.Frag)(x:Nat)(f:List Sl->Res Fl)(E:Ends)(σ:L2.St)(H:Hp):Prop where|mk(F0:Hp)(ρ0:List Sl)(σ0:L2.St)(H0 F:Hp)(ρ:List Sl)(q:Addr)(as:List Addr)(rows:List (List D))(fl:Fl)(ρ':List Sl)(b:NB K x q as F0 ρ0 σ0 H0 F ρ σ H rows)(e:f ρ=.ok fl ρ')(k:∀F' σ' H',aU K F0 ρ0 σ0 H0 F' ρ' σ' H'->aM F F'->((∀r,fl≠.ret r)->∃oR,NB K x q as F0 ρ0 σ0 H0 F' ρ' σ' H' oR)->HW K E F' ρ' σ' H' ρ0 σ0 H0 fl)
inductive Ws(K:PySem.W.Frag)(x:Nat)(f:List Sl->Res Fl)(E:Ends)(σ:L2.St)(H:Hp):Prop where|mk(F0:Hp)(ρ0:List Sl)(σ0:L2.St)(H0 F:Hp)(ρ:List Sl)(q:Addr)(as:List Addr)(rows:List (List D))(fl:Fl)(ρ':List Sl)(b:NB K x q as F0 ρ0 σ0 H0 F ρ σ H rows)(e:f ρ=.ok fl ρ')(k:∀F' σ' H',aU K F0 ρ0 σ0 H0 F' ρ' σ' H'->HW K E F' ρ' σ' H' ρ0 σ0 H0 fl)
structure Yc(X:Cx)(c:Call)(n x:Nat)(st:Stmt)(s:S):Prop where p:PS X st (QV X.K x (ex c n s))
structure T3(X:Cx)(c:Call)(n x:Nat)(st:List Stmt)(s:List S):Prop where p:vZ X st (QV X.K x (gB c n s))
structure ZJ(X:Cx)(c:Call)(n x:Nat)(st:List Stmt)(s:List S):Prop where p:vZ X st (Ws X.K x (gB c n s))
section
variable{X:Cx}{c:Call}{n x:Nat}{e a b d tg iter:Expr}{p pa pb pd:P}{pos:Pos}{body:List Stmt}{ss:List S}{st:Stmt}{s:S}{sts:List Stmt}
theorem pD:T3 X c n x [] []:=⟨nu Af fun D σ H⟨F0,ρ0,σ0,H0,F,ρ,q,as,rows,fl,ρ',nb,e,k⟩=>by rw[gB]at e;cases e;exact k F σ H nb.stp (.refl _) fun _=>⟨rows,nb⟩⟩
theorem qG(h1:Yc X c n x st s)(h2:T3 X c n x sts ss):T3 X c n x (st::sts) (s::ss):=by refine⟨nu (mF h1.p h2.p) ?_⟩;rintro D σ H⟨F0,ρ0,σ0,H0,F,ρ,q,as,rows,fl,ρ',nb,e,k⟩;rw[gB]at e;obtain⟨f1,ρ1,e1,e⟩:=ao e;cases f1 with|next=>refine⟨F0,ρ0,σ0,H0,F,ρ,q,as,rows,.next,ρ1,nb,e1,fun F1 σ1 H1 s1 sm nn=>?_⟩;obtain⟨J3,Pu⟩:=nn (fun r z=>by cases z);exact⟨F0,ρ0,σ0,H0,F1,ρ1,q,as,J3,fl,ρ',Pu,e,fun F2 σ2 H2 s2 TF nn2=>k F2 σ2 H2 s2 (sm.trans TF) nn2⟩|brk=>cases e;exact⟨F0,ρ0,σ0,H0,F,ρ,q,as,rows,.brk,_,nb,e1,k⟩|cont=>cases e;exact⟨F0,ρ0,σ0,H0,F,ρ,q,as,rows,.cont,_,nb,e1,k⟩|ret r=>cases e;exact⟨F0,ρ0,σ0,H0,F,ρ,q,as,rows,.ret r,_,nb,e1,k⟩
theorem IV(h1:Yc X c n x st s)(h2:ZJ X c n x sts ss):ZJ X c n x (st::sts) (s::ss):=by refine⟨nu (mF h1.p h2.p) ?_⟩;rintro D σ H⟨F0,ρ0,σ0,H0,F,ρ,q,as,rows,fl,ρ',nb,e,k⟩;rw[gB]at e;obtain⟨f1,ρ1,e1,e⟩:=ao e;cases f1 with|next=>refine⟨F0,ρ0,σ0,H0,F,ρ,q,as,rows,.next,ρ1,nb,e1,fun F1 σ1 H1 s1 sm nn=>?_⟩;obtain⟨J3,Pu⟩:=nn (fun r z=>by cases z);exact⟨F0,ρ0,σ0,H0,F1,ρ1,q,as,J3,fl,ρ',Pu,e,k⟩|brk=>cases e;exact⟨F0,ρ0,σ0,H0,F,ρ,q,as,rows,.brk,_,nb,e1,fun F1 σ1 H1 s1 _ _=>k F1 σ1 H1 s1⟩|cont=>cases e;exact⟨F0,ρ0,σ0,H0,F,ρ,q,as,rows,.cont,_,nb,e1,fun F1 σ1 H1 s1 _ _=>k F1 σ1 H1 s1⟩|ret r=>cases e;exact⟨F0,ρ0,σ0,H0,F,ρ,q,as,rows,.ret r,_,nb,e1,fun F1 σ1 H1 s1 _ _=>k F1 σ1 H1 s1⟩
theorem K1(h:SB X c n sts ss):ZJ X c n x sts (.cX x::ss):=by refine⟨nu h ?_⟩;rintro D σ H⟨F0,ρ0,σ0,H0,F,ρ,q,as,rows,fl,ρ',nb,e,k⟩;rw[gB]at e;obtain⟨f1,ρ1,e1,e⟩:=ao e;rw[HH.X21,nb.nw.slot]at e1;cases e1;have t:=nb.cX;refine⟨_,_,fl,ρ',t.gs,e,fun F' σ' H' s=>?_⟩;have z:=k F' σ' H' (t.trans s);cases fl with|next=>exact z|brk=>exact z|cont=>exact z|ret r=>exact fun v rr=>z v (rr.later t)
theorem Rx{sa sb:List Stmt}{ta tb:List S}(hc:ST X c e p)(ha:T3 X c n x sa ta)(hb:T3 X c n x sb tb):Yc X c n x (.If e sa sb pos) (.ifs p ta tb):=by refine⟨dX (O5 hc ha.p hb.p) ?_⟩;rintro D σ H⟨F0,ρ0,σ0,H0,F,ρ,q,as,rows,fl,ρ',nb,e,k⟩;rw[HH.Xp]at e;obtain⟨t,ρ1,e1,e⟩:=ao e;refine⟨F,ρ,t,ρ1,nb.stp.gs,e1,fun F1 H1 s1=>?_⟩;have go:∀{f:List Sl->Res Fl},f ρ1=.ok fl ρ'->QV X.K x f D σ H1:=fun{f}h=>⟨F0,ρ0,σ0,H0,F1,ρ1,q,as,rows,fl,ρ',nb.step s1,h,fun F2 σ2 H2 s2 sm nn=>k F2 σ2 H2 s2 (s1.bV.trans sm) nn⟩;cases t with|true=>rw[if_pos rfl]at e;exact go e|false=>rw[if_neg Bool.false_ne_true]at e;exact go e
theorem Gr{ρ:List Sl}(h:jr ρ x=some rows):ρ[x]?=some (.hold rows):=by
 unfold jr at h;split at h;.rename_i z;cases h;exact z
 .cases h
def WalkN(K:PySem.W.Frag)(J:It)(ds:List D)(F1:Hp):Prop:=∀(k:Nat)(F' H':Hp),aM F1 F'->aM F' H'->(∀d,ds[k]?=some d->J.go k H'/\∀x kh,J.JQ k H' x kh->∃F'',Ext F' H' F'' kh/\Rep K F'' x d)/\(ds.length<=k->J.stop k H')
inductive aem(K:PySem.W.Frag)(f:Ev)(σ:L2.St)(H:Hp)(R:It->Hp->Prop):Prop where|mk(F:Hp)(ρ:List Sl)(r:HH.R)(ρ1:List Sl)(ds:List D)(g:GS K F ρ σ H)(e:f ρ=.ok r ρ1)(e2:items r.d=some ds)(k:∀J F1 H1,aU K F ρ σ H F1 ρ1 σ H1->WalkN K J ds F1->R J H1)
structure SIN(X:Cx)(c:Call)(tg e:Expr)(p:P):Prop where p:PI X tg e (aem X.K (HH.ev c p))
theorem KY(h:SX X c e p):SIN X c tg e p:=by refine⟨kZ (yw h.ev) ?_⟩;rintro σ H R⟨F,ρ,r,ρ1,ds,g,e,e2,k⟩;refine⟨F,ρ,r,ρ1,g,e,fun v F' H' s rr=>?_⟩;obtain⟨F2,s2,_,rp⟩:=s.cX rr;cases hd:r.d with|tup es=>rw[hd]at rp e2;cases e2;rw[Rep]at rp;obtain⟨a,xs,rfl,h1,h2⟩:=rp;exact⟨a,rfl,.inr ⟨⟨xs,aM.gC s2.gs.sub h1⟩,k _ _ _ s2 fun k F3 H3 YJ TF=>Ar (aM.gC TF (aM.gC YJ h1)) (h2.mono YJ) TF k⟩⟩|lst es=>rw[hd]at rp e2;cases e2;rw[Rep]at rp;obtain⟨a,xs,rfl,h1,h2⟩:=rp;exact⟨a,rfl,.inl ⟨⟨xs,s2.gs.sub.seq h1⟩,k _ _ _ s2 fun k F3 H3 YJ TF=>rB (TF.seq (YJ.seq h1)) (h2.mono YJ) TF k⟩⟩|_=>rw[hd]at e2;cases e2
theorem Di{K:PySem.W.Frag}{F1:Hp}(i j:Int):WalkN K (Uv i (j-i).toNat) ((List.range (j-i).toNat).map fun(k:Nat)=>D.int (i+(k:Int))) F1:=by
 refine fun k F' H' _ sm=>⟨fun d hd=>?_,fun h=>?_⟩;.rw[getElem?_map]at hd;obtain⟨m,e1,e2⟩:=map_some hd;obtain⟨h1,h2⟩:=cV e1;rw[List.getElem_range]at h2;subst h2;subst e2;rw[length_range]at h1;refine⟨h1,?_⟩;rintro x kh⟨q1,q2⟩;subst q1;subst q2;exact⟨F',.refl sm,bY _⟩
 .rw[length_map,length_range]at h;exact h
theorem Fw{x:Str}{p':Pos}(hx:x="range")(hg:Gl X x)(hm:X.mg x=none)(ha:SX X c a pa)(hs:starEach [a] X.env=[(false,eval a X.env)]:=by rfl):SIN X c tg (.Call (.Name x p') [a] [] pos) (.rQ (.con (.int 0)) pa):=by
 subst hx;obtain⟨ta,h1,h2⟩:=ha.dj;refine⟨kZ (tZ hg hm (cO h1 eU hs) hs) ?_⟩;rintro σ H R⟨F,ρ,r,ρ1,ds,g,e1,e2,k⟩;rw[HH.E20]at e1;obtain⟨xy,ρ3,e4,e5⟩:=ao e1;have zz:=aB e5;clear e5;obtain⟨e5,e6⟩:=zz;subst e6;obtain⟨y0,ρ5,e9,e10⟩:=ao e4;cases e10;obtain⟨i,f1,e5⟩:=cF e5;obtain⟨j,f2,e5⟩:=cF e5;obtain⟨⟨b1,b2,b3,b4⟩,e5⟩:=bG e5;have f1:i=0:=by cases f1;rfl
 subst f1;subst e5;cases e2;cases di f2;refine h2 g e9 fun v F' H' s pv=>⟨j,by rw[pv.int],by omega,by omega,?_⟩;have:=Di (K:=X.K) (F1:=F') 0 j;rw[sub_zero]at this;refine k _ F' H' s ?_;rw[sub_zero];exact this
theorem Cg{g:TG}{is:List Nat}{one:Bool}(hp:PassesOwn (model X.prog X.w) X.A X.env X.xe)(hc:X.calm=true)(hi:SIN X c tg iter p)(hg:PG X tg g)(hgo:Jk X.K (fun ρ d=>cH ρ is one d) g)(hb:T3 X c n x body ss)(hs:∀x,foldedSetIterable iter X.env x=pure x:=by intro _;rfl):Yc X c n x (.For tg iter body [] pos) (.Er p is one ss):=by
 refine⟨dX (Hj hp hc hi.p hg hb.p hs) ?_⟩;rintro D σ H⟨F0,ρ0,σ0,H0,F,ρ,q,as,rows,fl,ρ',nb,e,k⟩;rw[HH.X20]at e;obtain⟨r,ρ1,e1,e⟩:=ao e;obtain⟨ds,ρ9,e9,e2⟩:=ao e;have zz:=aB e9;clear e9;obtain⟨e9,e91⟩:=zz;subst e91;refine⟨F,ρ,r,ρ1,ds,nb.stp.gs,e1,e9,fun J F1 H1 s1 w=>?_⟩;refine⟨fun i m σi Hi=>∃Fi ρi uo,NB X.K x q as F0 ρ0 σ0 H0 Fi ρi σi Hi uo/\aM F1 Fi/\m=ds.length-i/\i<=ds.length/\iG is one (gB c n ss) (ds.drop i) ρi=.ok fl ρ',⟨_,F1,ρ1,rows,nb.step s1,.refl _,rfl,Bm,e2⟩,?_⟩;rintro i m σi Hi⟨Fi,ρi,uo,YK,smi,rfl,hle,ei⟩;obtain⟨w1,w2⟩:=w i Fi Hi smi YK.stp.gs.sub;by_cases hlt:i<ds.length
 . right;have hd:ds[i]?=some ds[i]:=by simp[hlt]
   obtain⟨go,step⟩:=w1 _ hd;refine⟨go,fun σ' H'=>∃m',m'<ds.length-i/\∃Fi ρi uo,NB X.K x q as F0 ρ0 σ0 H0 Fi ρi σ' H' uo/\aM F1 Fi/\m'=ds.length-(i+1)/\i+1<=ds.length/\iG is one (gB c n ss) (ds.drop (i+1)) ρi=.ok fl ρ',fun σ' H' z=>z,fun y H' yy=>?_⟩;obtain⟨F2,ext,rx⟩:=step y H' yy;have t2:=ext.stp YK.stp.gs;rw[drop_eq_getElem_cons hlt,iG]at ei;cases hbd:cH ρi is one ds[i]with|none=>rw[hbd]at ei;cases ei|some ρb=>rw[hbd]at ei;obtain⟨flb,ρc,eb,ei⟩:=ao ei;refine hgo y _ F2 ρi ρb σi H' _ t2.gs rx hbd fun σ2 sb=>?_;have t3:=t2.trans sb;refine⟨F0,ρ0,σ0,H0,F2,ρb,q,as,uo,flb,ρc,YK.step t3,eb,fun F4 σ4 H4 s4 sm4 nn4=>?_⟩;have sm5:aM F1 F4:=smi.trans (ext.fs.trans sm4);cases flb with|next=>obtain⟨J4,nb4⟩:=nn4 (fun r z=>by cases z);exact⟨_,by omega,F4,ρc,J4,nb4,sm5,rfl,hlt,ei⟩|cont=>obtain⟨J4,nb4⟩:=nn4 (fun r z=>by cases z);exact⟨_,by omega,F4,ρc,J4,nb4,sm5,rfl,hlt,ei⟩|brk=>cases ei;exact k F4 σ4 H4 s4 (s1.bV.trans sm5) fun _=>nn4 (fun r z=>by cases z)|ret r=>cases ei;exact fun v rr=>k F4 σ4 H4 s4 (s1.bV.trans sm5) (fun h=>(h r rfl).elim) v rr
 . left;have hdr:ds.drop i=[]:=by rw[drop_eq_nil_iff];omega
   rw[hdr,iG]at ei;cases ei;exact⟨w2 (by omega),k Fi σi Hi YK.stp (s1.bV.trans smi) fun _=>⟨uo,YK⟩⟩
end
section
variable{X:Cx}{c:Call}{n:Nat}{e a b d i j:Expr}{p pa pb pd pi pj:P}{pos:Pos}
theorem Ng{ρ ρ':List Sl}{x:Nat}{o:Option (List (List D))}{fl:Fl}(h:uP ρ x o=.ok fl ρ'):∃rows,o=some rows/\fl=.next/\ρ'=ρ.set x (.hold rows):=by cases o with|none=>cases h|some rows=>cases h;exact⟨rows,rfl,rfl,rfl⟩
section
variable{K:PySem.W.Frag}{F H F0 H0:Hp}{ρ ρ0:List Sl}{σ σ0:L2.St}{x:Nat}{q:Addr}{as:List Addr}{rows oR:List (List D)}
theorem NB.hold(nb:NB K x q as F0 ρ0 σ0 H0 F ρ σ H rows)(h:jr ρ x=some oR):oR=rows:=by have:=Gr h;rw[nb.nw.slot]at this;cases this;rfl
theorem NB.at{k:Int}{r:Nat}{row:List D}(nb:NB K x q as F0 ρ0 σ0 H0 F ρ σ H rows)(h1:HH.iD rows.length k=some r)(h2:rows[r]?=some row):∃a ys,as[r]?=some a/\GX (as.map V.ref) k=some (.ref a)/\H a=some (.lst ys)/\aL K F ys row:=by
 have hl:r<as.length:=by rw[nb.nw.len];exact(cV h2).1
 obtain⟨⟨ys,k1,r1⟩,_⟩:=nb.nw.row r as[r] row (by simp[hl]) h2;refine⟨as[r],ys,by simp[hl],?_,k1.1,r1⟩;unfold GX;rw[length_map,nb.nw.len];rw[show L2.iD rows.length k=some r from h1];simp[hl]
theorem NB.uR{dk:D}{row:List D}(nb:NB K x q as F0 ρ0 σ0 H0 F ρ σ H rows)(h:HH.uR ρ x dk=some row):∃k a,(∃r:Nat,as[r]?=some a)/\GX (as.map V.ref) k=some (.ref a)/\dk=.int k/\∃ys,H a=some (.lst ys)/\aL K F ys row:=by unfold HH.uR at h;obtain⟨rows0,h1,h⟩:=cF h;cases nb.hold h1;obtain⟨k,h2,h⟩:=cF h;obtain⟨r,h3,h4⟩:=cF h;obtain⟨a,ys,g1,g2,g3,g4⟩:=nb.at h3 h4;exact⟨k,a,⟨r,g1⟩,g2,di h2,ys,g3,g4⟩
end
theorem Ec{oR:List (List D)}{k:Int}{f:List D->Option (List D)}(h:jD rows k f=some oR):∃r row km,HH.iD rows.length k=some r/\rows[r]?=some row/\f row=some km/\oR=rows.set r km:=by unfold jD at h;obtain⟨r,h1,h⟩:=cF h;obtain⟨row,h2,h⟩:=cF h;obtain⟨km,h3,h⟩:=map_some h;exact⟨r,row,km,h1,h2,h3,h.symm⟩
theorem Jt{x:Str}{k:Nat}{px ipos apos cpos:Pos}(hN:X.N[k]?=some x)(hv:yC X.env.scope x)(hi:SX X c i pi)(he:SX X c e p)(hpx:vh i:=by intro _ _;rfl)(hline:(apos.endLine==cpos.line)=true:=by rfl)(hs:starEach [e] X.env=(false,eval e X.env)::starEach [] X.env:=by rfl)(hbase:attributeBase (.Subscript (.Name x px) i ipos) "append" X.env (eval (.Subscript (.Name x px) i ipos) X.env)=eval (.Subscript (.Name x px) i ipos) X.env:=by rfl)(hfew:((backTo cpos (starEach [e] X.env)).all (fun x=>!x.1)&&(backToKw cpos (keywordEach [] X.env)).all (fun x=>x.1.isSome)&&decide ([e].length+([]:List Keyword).length+(if([]:List Keyword).isEmpty then 0 else 1)<30))=true:=by rfl)(hsw:swapsWith (.Call (.Attribute (.Subscript (.Name x px) i ipos) "append" apos) [e] [] cpos) none pos.line X.env=pure false:=by rfl)(hd:(x==("__debug__":Str))=false:=by decide)(hcd:(x==("__classdict__":Str))=false:=by decide):Yc X c n k (.Expr (.Call (.Attribute (.Subscript (.Name x px) i ipos) "append" apos) [e] [] cpos) pos) (.J0 k pi p):=by obtain⟨ti,hi1,hi2⟩:=hi.dj;refine⟨dX (vy (Oa PySem.F.plainAttrs_list PySem.F.slot_list_append PySem.F.type_list_append nQ (Ol Bt (iB hN hv hd hcd) hi1 hpx) (cO he.ev eU hs) hbase hfew hline hs) hsw) ?_⟩;rintro E σ H⟨F0,ρ0,σ0,H0,F,ρ,q,as,rows,fl,ρ',nb,e,kk⟩;rw[HH.X19]at e;obtain⟨dk,ρ2,e2,e⟩:=ao e;obtain⟨row0,ρ2',e8,e⟩:=ao e;have zz:=aB e8;clear e8;obtain⟨e8,e81⟩:=zz;subst e81;obtain⟨r,ρ3,e3,e⟩:=ao e;obtain⟨rs,e4,rfl,rfl⟩:=Ng e;refine⟨.ref q,nb.nw.val,hi2 nb.stp.gs e2 fun vi F1 H1 s1 pi=>?_⟩;have Pu:=nb.step s1;obtain⟨k0,a,g1,g2,g0,ys,g3,g4⟩:=Pu.uR e8;rw[g0]at pi;refine⟨q,_,k0,_,rfl,pi.int,dF.of Pu.nw.out.kp.1,g2,.inl ⟨rfl,ys,dF.of g3⟩,F1,ρ2,r,ρ3,Pu.stp.gs,e3,fun v F2 H2 s2 rr=>?_⟩;obtain⟨F3,s3,_,rp⟩:=s2.cX rr;have nb3:=Pu.step s3;obtain⟨rows0,e5,e4⟩:=cF e4;cases nb3.hold e5;obtain⟨k1,e6,e4⟩:=cF e4;obtain⟨m,row,km,f1,f2,f3,rfl⟩:=Ec e4;obtain⟨hlt,rfl⟩:=bG f3;have:=di e6;rw[g0]at this;cases this;obtain⟨a',ys',g1',g2',g3',g4'⟩:=nb3.at f1 f2;rw[g2]at g2';cases g2';have nb5:=nb3.mut g1' f2 (g4'.append (.cons rp .nil));exact⟨a,ys',v,rfl,rfl,g3',by rw[g4'.length];exact hlt,kk F3 σ _ nb5.stp (s1.bV.trans s3.bV) fun _=>⟨_,nb5⟩⟩
end
section
variable{K:PySem.W.Frag}{F H F1 H1:Hp}{ρ ρ1:List Sl}{σ σ1:L2.St}
theorem aU.since{b:Addr}(s:aU K F ρ σ H F1 ρ1 σ1 H1)(h:H1 b=none):Own ρ σ b\/H b=none:=by
 by_cases ho:Own ρ σ b;.exact .inl ho
 .right;cases e:H b with|none=>rfl|some o=>rw[s.keep b o e ho]at h;cases h
theorem NB.mk'{x:Nat}{q:Addr}{as:List Addr}{s1:Sl}(s:aU K F ρ σ H F1 ρ1 σ1 H1)(hx:ρ1[x]?=some s1)(hl:vz s1=false)(hq:Su F1 ρ1 σ1 H1 q (as.map V.ref))(nd:(q::as).Nodup)(len:as.length=rows.length)(row:∀(k:Nat)(a:Addr)(ds:List D),as[k]?=some a->rows[k]?=some ds->Wt K F1 ρ1 σ1 H1 a ds)(fr:∀b,b∈q::as->Own ρ σ b\/H b=none):NB K x q as F ρ σ H F1 (ρ1.set x (.hold rows)) (σ1.set x (some (.ref q))) H1 rows:=by
 have hi:x<ρ1.length:=(cV hx).1;have hi':x<σ1.length:=by rw[<-s.gs.len];exact hi
 exact⟨s.Ah rfl (s.free hx hl),fr,s.free hx hl,⟨getElem?_set_self hi,getElem?_set_self hi',⟨Cd rfl hq.kp,hq.fr⟩,nd,len,fun k a ds h1 h2=>Mq rfl (row k a ds h1 h2)⟩⟩
end
theorem Jc{K:PySem.W.Frag}{F H:Hp}{ρ ρ1 ρ2:List Sl}{σ:L2.St}{ul:List Sl->List Sl}{ti:TI}{is:List Nat}{one:Bool}{c:Call}{el:Ev}{g:TG}{Q:VK}{ds:List D}{m n:Nat}(hm:σ.length=m)(hgo:mC K m is one g)(hti:∀R:It->Hp->Prop,(∀J F1 H1,Walk K F ρ σ H ul J ds F1 ρ1 H1->R J H1)->ti σ H R)(hlim:ds.length<=lim)(e2:fV is one el ds [] (ρ1++replicate n .aV)=.ok rows ρ2)(k:∀ q as F' H',aU K F ρ σ H F' (ul (ρ2.take ρ1.length)) σ H'->Su F' (ul (ρ2.take ρ1.length)) σ H' q (as.map V.ref)->(q::as).Nodup->as.length=rows.length->(∀(k:Nat)(a:Addr)(ds:List D),as[k]?=some a->rows[k]?=some ds->Wt K F' (ul (ρ2.take ρ1.length)) σ H' a ds)->(∀b,b∈q::as->Own ρ σ b\/H b=none)->Q (.ref q) H'):ud n ti g (EY K (kI c none)) (vR K el) σ H Q:=by
 refine hti _ fun J F1 H1 w Da Cr=>?_;have hl1:ρ1.length=σ.length:=w.gs.len;have gm:=w.gs.more (n:=n) (τ:=replicate n none) (by simp);have fD:F1 Da=none:=by cases q:F1 Da with|none=>rfl|some o=>rw[w.gs.sub Da o q]at Cr;cases Cr
 have nO:¬ Own (ρ1++replicate n .aV) (σ++replicate n none) Da:=fun⟨i,⟨t,dt,q1,q2⟩,q3⟩=>by obtain⟨a,ys,z1,z2,_⟩:=gm.own i t dt q1 q2;rw[q3]at z1;cases z1;rw[Cr]at z2;cases z2
 refine⟨fun i mm ys σi Hi=>∃Fi ρi acc as,aU K F1 (ρ1++replicate n .aV) (σ++replicate n none) H1 Fi ρi σi Hi/\σi.take m=σ/\ys=as.map V.ref/\Hi Da=some (.lst ys)/\Fi Da=none/\¬ Own ρi σi Da/\(Da::as).Nodup/\as.length=acc.length/\(∀(k:Nat)(a:Addr)(ds:List D),as[k]?=some a->acc[k]?=some ds->Wt K Fi ρi σi Hi a ds/\(Own (ρ1++replicate n .aV) (σ++replicate n none) a\/H1 a=none))/\acc.length<=i/\mm=ds.length-i/\i<=ds.length/\fV is one el (ds.drop i) acc ρi=.ok rows ρ2,⟨_,F1,_,[],[],(aU.refl gm).Iv Cr fD nO,by rw[List.take_append_of_le_length (by omega),List.take_of_length_le (by omega)],rfl,bh,fD,nO,by simp,rfl,fun k a ds h=>by simp at h,Bm,rfl,Bm,e2⟩,?_⟩;rintro i mm ys σi Hi⟨Fi,ρi,acc,as,si,hσ,hys,hD,hF,hO,hnd,hlen,hrow,hacc,rfl,hle,ei⟩;refine⟨hD,?_⟩;have stay:∀{F2 H2:Hp}{ρ3:List Sl}{σ2:L2.St},aU K Fi ρi σi Hi F2 ρ3 σ2 H2->H2 Da=some (.lst ys)/\F2 Da=none/\¬ Own ρ3 σ2 Da:=fun{F2 H2 ρ3 σ2}s=>by have:=(Su.stp (xs:=ys) ⟨⟨hD,hO⟩,hF⟩ s);exact⟨this.kp.1,this.fr,this.kp.2⟩
 obtain⟨s1,s2⟩:=w.src n i Fi ρi σi Hi si;by_cases hlt:i<ds.length
 . right;have hd:ds[i]?=some ds[i]:=by simp[hlt]
   obtain⟨go,step⟩:=s1 _ hd;refine⟨go,fun x H2 y=>?_⟩;obtain⟨F2,ext,rx⟩:=step x H2 y;have t2:=ext.stp si.gs;rw[drop_eq_getElem_cons hlt,fV]at ei;cases hbd:cH ρi is one ds[i]with|none=>rw[hbd]at ei;cases ei|some ρb=>rw[hbd]at ei;obtain⟨re,ρe,ee,ei⟩:=ao ei;cases re with|val _=>cases ei|own rw0=>
     replace ei:fV is one el (ds.drop (i+1)) (acc++[rw0]) ρe=.ok rows ρ2:=ei;refine hgo x _ F2 ρi ρb σi H2 _ t2.gs rx hbd fun σ2 sb htk=>?_;have t3:=t2.trans sb;refine⟨F2,ρb,true,ρb,t3.gs,by rw[kI],fun F4 H4 s4=>?_⟩;have t4:=t3.trans s4;refine(show vR K el σ2 H4 _ from⟨F4,ρb,.own rw0,ρe,t4.gs,ee,fun v F5 H5 s5 rr=>?_⟩);have t6:=t4.trans s5;obtain⟨y1,y2,y3⟩:=stay t6;obtain⟨z1,z2,z3⟩:=stay t4;have hlen2:ys.length<sizeLine:=by have h2:lim=sizeLine:=rfl;rw[hys,length_map];omega
     obtain⟨A,xs,rfl,a1,a2,a3,a4,a5⟩:=rr;have nDA:A≠Da:=by
      rintro rfl;rcases a5 with z|z;.exact z3 z
      .rw[z1]at z;cases z
     have nA:A∉as:=fun hA=>by
      obtain⟨k0,hk0⟩:=List.getElem?_of_mem hA;have hl0:k0<acc.length:=by rw[<-hlen];exact(cV hk0).1
      obtain⟨⟨zs,k1,_⟩,_⟩:=(hrow k0 A acc[k0] hk0 (by simp[hl0])).1.stp t4;rcases a5 with z|z;.exact k1.2 z
      .rw[k1.1]at z;cases z
     have fA:Own (ρ1++replicate n .aV) (σ++replicate n none) A\/H1 A=none:=by
      have t:=si.trans t4;rcases a5 with z|z;.exact t.vV A z
      .exact t.since z
     refine⟨y1,hlen2,_,by omega,F5,ρe,acc++[rw0],as++[A],(si.trans t6).Iv Cr y2 y3,htk.trans hσ,by rw[hys];simp,bh,y2,y3,?_,by simp[hlen],fun k0 a0 ds0 h1 h2=>?_,by simp;omega,rfl,hlt,ei⟩
     . rw[<-List.cons_append,nodup_append];refine⟨hnd,by simp,fun p hp r hr=>?_⟩;simp at hr;subst hr;rcases mem_cons.mp hp with rfl|hp;.exact fun z=>nDA z.symm
       .rintro rfl;exact nA hp
     . by_cases hk0:k0<as.length
       . rw[getElem?_append_left hk0]at h1;rw[getElem?_append_left (by omega)]at h2;obtain⟨w0,f0⟩:=hrow k0 a0 ds0 h1 h2;obtain⟨⟨zs,k1,r1⟩,g1⟩:=w0.stp t6;have na:a0≠Da:=by rintro rfl;exact(nodup_cons.mp hnd).1 (mem_of_getElem? h1)
         exact⟨⟨⟨zs,⟨by rw[aG na];exact k1.1,k1.2⟩,r1⟩,g1⟩,f0⟩
       . rw[getElem?_append_right (by omega)]at h1;rw[getElem?_append_right (by omega)]at h2;have:k0-as.length=0:=by have:=(cV h1).1;simp at this;exact this
         rw[this]at h1;rw[<-hlen,this]at h2;cases h1;cases h2;exact⟨⟨⟨xs,⟨by rw[aG nDA];exact a1,a4⟩,a3⟩,a2⟩,fA⟩
 . left;have hdr:ds.drop i=[]:=by rw[drop_eq_nil_iff];omega
   rw[hdr,fV]at ei;cases ei;refine⟨s2 (by omega),?_⟩;have hst:σi.take ρ1.length=σ:=by rw[hl1,hm];exact hσ
   obtain⟨l1,l2⟩:=aU.less (m:=ρ1.length) rfl w.gs (by simp) si;rw[hst]at l1;obtain⟨z1,z2⟩:=w.fin _ _ _ _ l1--the outer list:with nothing in it,it is like any new one
   have si':=si.Iv (o:=.lst []) Cr hF hO;obtain⟨l1',Vy⟩:=aU.less (m:=ρ1.length) rfl w.gs (by simp) si';rw[hst]at l1';obtain⟨z1',z2'⟩:=w.fin _ _ _ _ l1';have rr:cT K Fi ρ2 σi (upd Hi Da (.lst [])) (ρ1++replicate n .aV) (σ++replicate n none) H1 (.ref Da) (.own []):=⟨Da,[],rfl,bh,hF,.nil,hO,.inr Cr⟩;have Pr:=Vy _ _ rr;rw[hst]at Pr;obtain⟨_,_,q0,_,q3,_,q5,q6⟩:=z2' _ _ Pr;cases q0;have rws:∀(k:Nat)(a:Addr)(ds:List D),as[k]?=some a->rows[k]?=some ds->Wt K Fi (ul (ρ2.take ρ1.length)) σ Hi a ds/\(Own ρ σ a\/H a=none):=fun k a ds h1 h2=>by obtain⟨⟨⟨xs,k1,r1⟩,f1⟩,f2⟩:=hrow k a ds h1 h2;have rr:cT K Fi ρ2 σi Hi (ρ1++replicate n .aV) (σ++replicate n none) H1 (.ref a) (.own ds):=⟨a,xs,rfl,k1.1,f1,r1,k1.2,f2⟩;have Pr:=l2 _ _ rr;rw[hst]at Pr;obtain⟨a',xs',q0,q2,q3,q4,q5,q6⟩:=z2 _ _ Pr;cases q0;exact⟨⟨⟨xs',⟨q2,q5⟩,q4⟩,q3⟩,q6⟩
   refine k Da as Fi Hi z1 ⟨⟨by rw[hD,hys],q5⟩,q3⟩ hnd hlen (fun k a ds h1 h2=>(rws k a ds h1 h2).1) fun b hb=>?_;rcases mem_cons.mp hb with rfl|hb;.exact q6
   . obtain⟨k0,hk0⟩:=List.getElem?_of_mem hb;have hl0:k0<rows.length:=by rw[<-hlen];exact(cV hk0).1
     exact(rws k0 b rows[k0] hk0 (by simp[hl0])).2
section
variable{X:Cx}{c:Call}{nn n:Nat}{tg iter elt:Expr}{ps pe:P}{pos:Pos}{sts:List Stmt}{ss:List S}{scope:Scope}{N':List Str}
theorem Ko{i:Nat}{x:Str}{pos' spos:Pos}{g:TG}{is:List Nat}{one:Bool}(hc:X.calm=true)(hN:X.N.Nodup)(hx0:X.N[i]?=some x)(hx:Loc X.env.scope x)(ok:eV X scope N' n)(hi:SI X c tg iter ps)(hg:∀cl C s₀ H₀ ex,PG (qK X scope N' cl C s₀ H₀ ex) tg g)(hgo:mC X.K X.N.length is one g)(ht:∀cl C s₀ H₀ ex,SQ (qK X scope N' cl C s₀ H₀ ex) c [] none)(he:∀cl C s₀ H₀ ex,SX (qK X scope N' cl C s₀ H₀ ex) c elt pe)(hT:ZJ X c nn i sts ss)(hsw:swapsWith (.ListComp elt [⟨tg,iter,[],0⟩] scope pos) (some (.Name x pos')) spos.line X.env=pure true:=by rfl)(hs:∀x,foldedSetIterable iter X.env x=pure x:=by intro _;rfl)(hf:X.fn x=true\/X.env.scope.names.lookup x=some .local:=by first|exact .inl rfl|exact .inr rfl|assumption):SB X c nn (.Assign [.Name x pos'] (.ListComp elt [⟨tg,iter,[],0⟩] scope pos) spos::sts) (.JZ i ps n is one pe::ss):=by
 have h0:=vd (tt:=EY X.K (kI c none)) (te:=vR X.K (HH.ev c pe)) hc hN hx0 hx ok hi hg ht (fun cl C s₀ H₀ ex=>(he cl C s₀ H₀ ex).ev) hsw hs hf;refine fun pins s σ H D I q=>mF h0 hT.p pins s σ H D I ?_;have hl:σ.length=X.N.length:=I.len;obtain⟨F,ρ,fl,ρ',g0,e,kk⟩:=q;rw[gB]at e;obtain⟨f1,ρ9,e1,e⟩:=ao e;rw[HH.X18]at e1;obtain⟨ds,ρ1,e2,e1⟩:=ao e1;split at e1;.rename_i hlim;obtain⟨rows,ρ2,e3,e1⟩:=ao e1;obtain⟨ρ3,ρ3',e4,e1⟩:=ao e1;cases e1;have zz:=aB e4;clear e4;obtain⟨e4,_⟩:=zz;obtain⟨s1,h1,h2,rfl⟩:=Hl e4;refine(show ud n (tIt X.K (isVar ps) (HH.ev c ps)) g (EY X.K (kI c none)) (vR X.K (HH.ev c pe)) σ H (fun v H1=>jP i v σ H1 (Ws X.K i (gB c nn ss) D))from Jc (c:=c) (ul:=bz ρ (isVar ps)) hl hgo (fun R h=>⟨F,ρ,ds,ρ1,g0,e2,h⟩) hlim e3 fun q as F' H' s wq nd len row fr=>?_);exact⟨F,ρ,σ,H,F',_,q,as,rows,fl,ρ',NB.mk' s h1 h2 wq nd len row fr,e,fun F2 σ2 H2 s2=>kk F2 σ2 H2 s2⟩
 .cases e1
end
end HH
end
section
namespace HH
open PySem L2 PySem.Spec PyProof.Rows PySem.Calls PySem.W
variable{i:Nat}{x:Str}
section
variable{K:PySem.W.Frag}{F F1 H H1:Hp}{ρ ρ1 ρ2:List Sl}{σ σ1:L2.St}
theorem GS.adD{x:Nat}{kvs kvs':List (Int×D)}{a:Addr}{o':HO}(g:GS K F ρ σ H)(e:ρ[x]?=some (.dq kvs))(hx:σ[x]?=some (some (.ref a)))(r:kY K F o' (.v kvs')):aU K F ρ σ H F (ρ.set x (.dq kvs')) σ (upd H a o'):=by
 have hi:x<ρ.length:=(cV e).1;have oa:bJ ρ σ x a:=⟨⟨_,_,e,rfl⟩,hx⟩;obtain⟨a',o0,h1,h2,h3,h4⟩:=g.own x _ _ e rfl;rw[hx]at h1;cases h1;have old:∀{j:Nat}{c:Addr},bJ (ρ.set x (.dq kvs')) σ j c->bJ ρ σ j c:=fun{j c}⟨⟨t,dt,q1,q2⟩,q3⟩=>by
  by_cases hj:j=x;.subst hj;exact⟨⟨_,_,e,rfl⟩,q3⟩
  .rw[fZ hj]at q1;exact⟨⟨t,dt,q1,q2⟩,q3⟩
 refine⟨⟨fun c o q=>?_,by simp[g.len],fun j b' d q=>?_,fun j t dt q q'=>?_,fun j k c q1 q2=>g.dis j k c (old q1) (old q2)⟩,.refl _,fun c n n'=>absurd n n',fun c o q n=>?_,fun c⟨j,q⟩=>.inl ⟨j,old q⟩,by simp,fun j t q l=>⟨rfl,?_⟩⟩
 . have:c≠a:=by rintro rfl;rw[h3]at q;cases q
   rw[aG this];exact g.sub c o q
 . by_cases hj:j=x;.subst hj;rw[getElem?_set_self hi]at q;cases q
   .rw[fZ hj]at q;exact g.val j b' d q
 . by_cases hj:j=x;.subst hj;rw[getElem?_set_self hi]at q;cases q;cases q';exact⟨a,_,hx,bh,h3,r⟩
   . rw[fZ hj]at q;obtain⟨c,zs,w1,w2,w3,w4⟩:=g.own j t dt q q';have:c≠a:=by rintro rfl;exact hj (g.dis j x c ⟨⟨t,dt,q,q'⟩,w1⟩ oa)
     exact⟨c,zs,w1,by rw[aG this];exact w2,w3,w4⟩
 . have:c≠a:=by rintro rfl;exact n ⟨x,oa⟩
   rw[aG this];exact q
 . by_cases hj:j=x;.subst hj;rw[e]at q;cases q;cases l
   .exact⟨t,by rw[fZ hj];exact q,.refl t⟩
theorem GS.newV{kvs:List (Int×D)}{a:Addr}{o':HO}{s0:Sl}(g:GS K F ρ σ H)(e:ρ[i]?=some s0)(hl0:vz s0=false)(r:kY K F o' (.v kvs))(ha:H a=none):aU K F ρ σ H F (ρ.set i (.dq kvs)) (σ.set i (some (.ref a))) (upd H a o'):=by
 have hi:i<ρ.length:=(cV e).1;have hi':i<σ.length:=by rw[<-g.len];exact hi
 have fa:F a=none:=by cases q:F a with|none=>rfl|some o=>rw[g.sub a o q]at ha;cases ha
 have old:∀{j:Nat}{c:Addr},j≠i->bJ (ρ.set i (.dq kvs)) (σ.set i (some (.ref a))) j c->bJ ρ σ j c:=fun{j c}hj⟨⟨t,ds,e1,e2⟩,e3⟩=>by rw[fZ hj]at e1 e3;exact⟨⟨t,ds,e1,e2⟩,e3⟩
 have new:∀{c:Addr},bJ (ρ.set i (.dq kvs)) (σ.set i (some (.ref a))) i c->c=a:=fun{c}⟨_,e3⟩=>by rw[getElem?_set_self hi']at e3;cases e3;rfl
 have no:∀{j:Nat},¬ bJ ρ σ j a:=fun{j}⟨⟨t,ds,e1,e2⟩,e3⟩=>by obtain⟨c,o,q1,q2,_⟩:=g.own j t ds e1 e2;rw[e3]at q1;cases q1;rw[ha]at q2;cases q2
 refine⟨⟨fun c o q=>?_,by simp[g.len],fun j b' d q=>?_,fun j t dt q q'=>?_,fun j k c q1 q2=>?_⟩,.refl _,fun c n n'=>absurd n n',fun c o q n=>?_,fun c⟨j,q⟩=>?_,by simp,fun j t q l=>?_⟩
 . have:c≠a:=by rintro rfl;rw[fa]at q;cases q
   rw[aG this];exact g.sub c o q
 . by_cases hj:j=i;.subst hj;rw[getElem?_set_self hi]at q;cases q
   .rw[fZ hj]at q ⊢;exact g.val j b' d q
 . by_cases hj:j=i;.subst hj;rw[getElem?_set_self hi]at q;cases q;cases q';exact⟨a,_,getElem?_set_self hi',bh,fa,r⟩
   . rw[fZ hj]at q ⊢;obtain⟨c,o,w1,w2,w3,w4⟩:=g.own j t dt q q';have:c≠a:=by rintro rfl;rw[ha]at w2;cases w2
     exact⟨c,o,w1,by rw[aG this];exact w2,w3,w4⟩
 . by_cases hj:j=i
   . by_cases hk:k=i;.rw[hj,hk]
     .subst hj;rw[new q1]at q2;exact absurd (old hk q2) no
   . by_cases hk:k=i;.subst hk;rw[new q2]at q1;exact absurd (old hj q1) no
     .exact g.dis j k c (old hj q1) (old hk q2)
 . have:c≠a:=by rintro rfl;rw[ha]at q;cases q
   rw[aG this];exact q
 . by_cases hj:j=i;.subst hj;rw[new q];exact .inr ha
   .exact .inl ⟨j,old hj q⟩
 . have hj:j≠i:=by rintro rfl;rw[e]at q;cases q;rw[hl0]at l;cases l
   exact⟨by rw[fZ hj],t,by rw[fZ hj];exact q,.refl t⟩
end
section
variable{X:Cx}{c:Call}{n:Nat}{a b e:Expr}{pa pb p:P}{pos:Pos}
theorem Az{pos' p2:Pos}(hN:X.N.Nodup)(hi:X.N[i]?=some x)(hx:Loc X.env.scope x)(hs:swapsWith (.Dict [] [] p2) (some (.Name x pos')) pos.line X.env=pure false:=by rfl)(hf:X.fn x=true\/X.env.scope.names.lookup x=some .local:=by first|exact .inl rfl|exact .inr rfl|assumption):SS X c n (.Assign [.Name x pos'] (.Dict [] [] p2) pos) (.Es i):=by
 refine dX (GQ hN hi hx G6 hs hf) ?_;rintro D σ H⟨F,ρ,fl,ρ',g,e,k⟩;rw[HH.X22]at e;have go:∀s0,ρ[i]?=some s0->vz s0=false->fl=.next->ρ'=ρ.set i (.dq [])->∀a,H a=none->D.nx (σ.set i (some (.ref a))) (upd H a (.dK [])):=fun s0 q hl hfl hρ a ha=>by subst hfl hρ;exact k F _ _ (g.newV (kvs:=[]) q hl (KR.oc .nil) ha)
 split at e;.rename_i q;cases e;exact go _ q rfl rfl rfl
 .rename_i q;cases e;exact go _ q rfl rfl rfl
 .rename_i q;cases e;exact go _ q rfl rfl rfl
 .cases e
theorem uU{px pos':Pos}{pk:P}(hu:X.A.units+8<cLine)(hN:X.N[i]?=some x)(hv:yC X.env.scope x)(ha:SX X c a pk)(he:SX X c e p)(hs:swapsWith e (some (.Subscript (.Name x px) a pos')) pos.line X.env=pure false:=by rfl)(hd:(x==("__debug__":Str))=false:=by decide)(hcd:(x==("__classdict__":Str))=false:=by decide):SS X c n (.Assign [.Subscript (.Name x px) a pos'] e pos) (.jL i pk p):=by
 obtain⟨ta,h1,h2⟩:=ha.dj;refine dX (KC (by omega) (iB hN hv hd hcd) h1 he.ev hs) ?_;rintro D σ H⟨F,ρ,fl,ρ',g,e,k⟩;rw[HH.X23]at e;obtain⟨r,ρ1,e1,eA⟩:=ao e;clear e;refine⟨F,ρ,r,ρ1,g,e1,fun v F1 H1 s1 rr=>?_⟩;obtain⟨F2,s2,_,rp⟩:=s1.cX rr;split at eA
 . rename_i aeP q0;obtain⟨kd,ρ2,e2,eB⟩:=ao eA;clear eA;obtain⟨a0,o0,w1,w2,w3,w4⟩:=s2.gs.own i _ _ q0 rfl;refine⟨.ref a0,w1,h2 s2.gs e2 fun y F3 H3 s3 py=>?_⟩;split at eB
   . rename_i kvs j q;split at eB;.rename_i hl;cases eB;obtain⟨a1,o1,y1,y2,y3,y4⟩:=s3.gs.own i _ _ q rfl;rw[w1]at y1;cases y1;obtain⟨es,rfl,kr⟩:=KR.RQ y4;have kr2:=kr.put (k:=j) (rp.mono s3.bV);refine⟨a0,upd H3 a0 (.dK (putK es (Sum.inl j:Key) v)),rfl,?_,k F3 σ _ ((s2.trans s3).trans (s3.gs.adD q w1 kr2.oc))⟩;rw[py.int];exact .inl ⟨es,Sum.inl j,y2,rfl,by rw[kr.len,sizeLine_eq];exact hl,rfl⟩
     .cases eB
   .cases eB
 .cases eA
theorem zr{px:Pos}{pk:P}(hu:X.A.units+8<cLine)(hN:X.N[i]?=some x)(hv:yC X.env.scope x)(ha:SX X c a pk)(hs:Lj a)(hd:(x==("__debug__":Str))=false:=by decide)(hcd:(x==("__classdict__":Str))=false:=by decide):SX X c (.Subscript (.Name x px) a pos) (.Pj i pk):=by
 obtain⟨ta,h1,h2⟩:=ha.dj;refine⟨fH (M3 (by omega) (iB hN hv hd hcd) h1 hs) ?_,fun i h=>by cases h⟩;rintro σ H Q⟨F,ρ,r,ρ',g,e,k⟩;rw[HH.E24]at e;split at e
 . rename_i aeP q;obtain⟨kd,ρ1,e1,eA⟩:=ao e;clear e;obtain⟨a0,o0,w1,w2,w3,w4⟩:=g.own i _ _ q rfl;refine⟨.ref a0,w1,h2 g e1 fun v F1 H1 s1 pv=>?_⟩;split at eA;.rename_i kvs q1;obtain⟨eC,e3⟩:=aB eA;clear eA;subst e3;obtain⟨j,e4,eD⟩:=cF eC;clear eC;obtain⟨d,e5,e6⟩:=map_some eD;subst e6;rw[di e4]at pv;obtain⟨a1,o1,y1,y2,y3,y4⟩:=s1.gs.own i _ _ q1 rfl;rw[w1]at y1;cases y1;obtain⟨es,rfl,kr⟩:=KR.RQ y4;obtain⟨v',g1,g2⟩:=kr.get e5;rw[pv.int];exact⟨a0,v',rfl,.inl ⟨es,Sum.inl j,.inl y2,rfl,g1.symm⟩,k v' F1 H1 s1 (show Rep X.K F1 _ _ from g2)⟩
   .cases eA
 .cases e
theorem RP{px:Pos}{pk:P}{neg:Bool}{op:CmpOp}(hop:(op=.In/\neg=false)\/(op=.NotIn/\neg=true))(hu:X.A.units+8<cLine)(hN:X.N[i]?=some x)(hv:yC X.env.scope x)(ha:SX X c a pk)(hd:(x==("__debug__":Str))=false:=by decide)(hcd:(x==("__classdict__":Str))=false:=by decide):PC X op a (.Name x px) (vR X.K (HH.ev c (.Pk i pk neg))):=by
 obtain⟨ta,h1,h2⟩:=ha.dj;have main:∀{σ:L2.St}{H:Hp}{Q:VK},vR X.K (HH.ev c (.Pk i pk neg)) σ H Q->ta σ H fun y H1=>Rg i σ H1 fun x H2=>∃a o,x=.ref a/\qY H2 a y o/\Q (.bl (if neg then !o.isSome else o.isSome)) H2:=fun{σ H Q}⟨F,ρ,r,ρ',g,e,k⟩=>by
  rw[HH.E25]at e;obtain⟨kd,ρ1,e1,eA⟩:=ao e;clear e;refine h2 g e1 fun v F1 H1 s1 pv=>?_;split at eA;.rename_i kvs q1;obtain⟨eC,e3⟩:=aB eA;clear eA;subst e3;obtain⟨j,e4,e5⟩:=map_some eC;subst e5;rw[di e4]at pv;obtain⟨a1,o1,y1,y2,y3,y4⟩:=s1.gs.own i _ _ q1 rfl;obtain⟨es,rfl,kr⟩:=KR.RQ y4;rw[pv.int];refine⟨.ref a1,y1,a1,_,rfl,.inl ⟨es,Sum.inl j,.inl y2,rfl,rfl⟩,?_⟩;rw[kr.has j];exact k _ F1 H1 s1 (show Rep X.K F1 _ _ from eN _)
  .cases eA
 rcases hop with⟨rfl,rfl⟩|⟨rfl,rfl⟩;.exact fun pins s σ H Q I h=>Tg (by omega) h1 (iB hN hv hd hcd) pins s σ H Q I (main h)
 .exact fun pins s σ H Q I h=>Ej (by omega) h1 (iB hN hv hd hcd) pins s σ H Q I (main h)
end
theorem jJ{P:Program}{w:World}:∀{ks:List Int}{es:List (Key×V)}{vs:List (Key×Value)}{acc:List Value},es.map (·.1)=ks.map (Sum.inl:Int->Key)->KV es vs->acc.length=vs.length->(∀(j:Nat)(v:Value),acc[j]?=some v->∃(k:Key)(x:Value),vs[j]?=some (k,x)/\(bU P w).is k v=true)->IntsAre acc ks
 |[],es,_,acc,he,r,h,_=>by cases es with
   |nil=>cases r;cases acc with|nil=>exact .nil|cons _ _=>simp at h
   |cons _ _=>simp at he
 |i::ks,es,_,acc,he,r,h,k=>by cases es with|nil=>simp at he|cons p es=>cases r with|@cons _ q _ _ r t=>rw[map_cons,map_cons]at he;cases acc with|nil=>simp at h|cons v acc=>
         obtain⟨k',x,e1,e2⟩:=k 0 v rfl;simp at e1;have e3:k'=Sum.inl i:=by have z:=r.1;rw[e1]at z;rw[<-(List.cons.inj he).1];exact z.symm
         subst e3;obtain⟨i',tk,e4,rfl⟩|⟨_,_,e4,_⟩:=bZ (show qD (Sum.inl i) v=true from e2);.cases e4;exact .cons _ tk (jJ (List.cons.inj he).2 t (by simpa using h) fun j v e=>k (j+1) v (by simpa using e))
         .cases e4
section
variable{X:Cx}{c:Call}{n:Nat}{a b e:Expr}{pa pb p:P}{pos:Pos}
theorem VP(hc:X.calm=true):fL X (.type "list") (J7 X.K fun x=>blt .Vw [x]):=by rintro pins s σ H xs us Q I r⟨x,hx,F,d,r',sm,px,he,k⟩;cases d with|dv ks ds=>
   obtain⟨hle,he⟩:=bG (show(if ks.length<=16777216 then some (R.own (ks.map D.int))else none)=some r' from he);subst he;obtain⟨q,ob,VF,rfl,hq,rs,hl⟩:=px.dv sm;subst hx;obtain⟨u,rfl,rx⟩:=r.one;cases rx;obtain⟨ho,hz,hS,vs,rv,dd⟩:=(show cj X.prog X.w H s.heap q (.cX ob (.dK (ent ks VF)))from I.hok q _ hq);obtain⟨ep,dd⟩:=dd.dictAt;have hk:=lQ (ks:=ks) (vs:=VF) (by rw[rs.length];exact hl);have hlv:vs.length=ks.length:=by rw[<-Paired.length rv];have:=congrArg List.length hk;simpa using this
   refine kdl_call (kdl_dict (knd:=bU X.prog X.w) (kvs:=vs) (ep:=ep) hS) (I.ok.hd hc) dd (by rw[hlv,sizeLine_eq];omega) fun h' tk acc c' kp hD hacc=>?_;have ia:IntsAre acc.toList ks:=jJ (P:=X.prog) (w:=X.w) hk rv (by rw[length_toList];exact hacc.1) fun j v e=>hacc.2 j v (by rw[<-Array.getElem?_toList];exact e);refine⟨.ref s.heap.objs.size,_,I.laid (t':=tk) (o:=.lst (ks.map V.int)) (h':=h') kp (cR) ⟨by rw[length_map,sizeLine_eq];omega,acc.toList,c',jg ia,by rw[Array.toArray_toList];exact hD⟩,rfl,?_⟩;exact wF sm (nR ks) (I.hok.fresh (cR)) k|_=>cases he
theorem Ig{p':Pos}(hx:x="list")(hc:X.calm=true)(hg:Gl X x)(hm:X.mg x=none)(ha:SX X c a pa)(hs:starEach [a] X.env=(false,eval a X.env)::starEach [] X.env:=by rfl):SX X c (.Call (.Name x p') [a] [] pos) (.blt .Vw [pa]):=by subst hx;exact lM (fun h=>nT (VP hc) hg hm (by decide+kernel) h (he:=hs)) ha (fun ρ=>rfl) rfl hs
theorem JK(hc:X.calm=true):fL X (.builtin "sorted") (J7 X.K fun x=>blt .oE [x]):=by
 rintro pins s σ H xs us Q I r⟨x,hx,F,d,r',sm,px,he,k⟩
 cases d with|dv ks ds=>
   obtain⟨so,he⟩:=bG (show(if ks.length<64 then some (R.own (zH (ks.map D.int)))else none)=some r' from he);subst he;obtain⟨q,ob,VF,rfl,hq,rs,hl⟩:=px.dv sm;subst hx;obtain⟨u,rfl,rx⟩:=r.one;cases rx;obtain⟨ho,hz,hS,vs,rv,dd⟩:=(show cj X.prog X.w H s.heap q (.cX ob (.dK (ent ks VF)))from I.hok q _ hq);obtain⟨ep,dd⟩:=dd.dictAt;have hk:=lQ (ks:=ks) (vs:=VF) (by rw[rs.length];exact hl);have hlv:vs.length=ks.length:=by rw[<-Paired.length rv];have:=congrArg List.length hk;simpa using this
   refine Calls.call_function_entry kind_sorted plain_sorted entry_sorted (args_sorted1 _) ?_;unfold Builtin.«sorted»;refine wpAny_bind (m:=checkCount "sorted" 1 1 _) (wpAny_pure ?_);refine wpAny_bind (uH (A:=X.A.in1) (knd:=bU X.prog X.w) (I.ok.hd hc) hS dd (by rw[hlv,sizeLine_eq];omega) fun h1 tk acc kp hsz hacc=>?_);have ia:IntsAre acc.toList ks:=jJ (P:=X.prog) (w:=X.w) hk rv (by rw[length_toList];exact hacc.1) fun j v e=>hacc.2 j v (by rw[<-Array.getElem?_toList];exact e);have hla:acc.toList.length=ks.length:=by rw[IntsAre.length ia]
   generalize acc.toList=its at ia hla;refine wpAny_bind (wpAny_newList ?_ (by rw[sizeLine_eq];omega));have hsz:=le_of_lt hsz;generalize hG:(h1.push {cls:=.type "list",data:=.seq its.toArray}:Heap)=H2;have ho2:H2.get? h1.objs.size=some (seqObj "list" its.toArray 0):=by rw[<-hG];exact get?_push_size _ rfl
   have YL:∀b o,s.heap.get? b=some o->H2.get? b=some o:=fun b o e=>by rw[<-hG];exact dw (kp b o e)
   have hne:∀b o,s.heap.get? b=some o->b≠h1.objs.size:=fun b o e=>ne_of_lt (lt_size (kp b o e));show wpAny _ _ _ _ _ {s with heap:=H2,toks:=tk};refine wpAny_bind (wpAny_holding (wpAny_call_entry slot_list_sort ⟨_,ho2,rfl⟩ entry_list_sort ?body (args_list_sort _)));case body=>
    refine Dw (s:={s with heap:=H2,toks:=tk}) ho2 ia (by omega) fun h' cc out is k' i1 p2 l2 e=>⟨_,rfl,wpAny_pure ⟨_,rfl,?_⟩⟩;have kk:∀b o,s.heap.get? b=some o->h'.get? b=some o:=fun b o z=>k' b o (hne b o z) (YL b o z);refine⟨.ref h1.objs.size,_,I.laid (t':=tk) (o:=.lst (is.map V.int)) (h':=h') kk hsz ⟨by rw[length_map,l2,sizeLine_eq];omega,out,cc,jg i1,e⟩,rfl,?_⟩;have rs2:aL X.K F (is.map V.int) (zH (ks.map D.int)):=by rw[p2];exact nR is
    exact wF sm rs2 (I.hok.fresh hsz) k|_=>cases he
theorem Dm{p':Pos}(hx:x="sorted")(hc:X.calm=true)(hg:Gl X x)(hm:X.mg x=none)(ha:SX X c a pa)(hs:starEach [a] X.env=(false,eval a X.env)::starEach [] X.env:=by rfl):SX X c (.Call (.Name x p') [a] [] pos) (.blt .oE [pa]):=by subst hx;exact lM (fun h=>gG (JK hc) hg hm boot_sorted h (he:=hs)) ha (fun ρ=>rfl) rfl hs
theorem Mr{neg:Bool}{op:CmpOp}(hop:(op=.In/\neg=false)\/(op=.NotIn/\neg=true))(hu:X.A.units+8<cLine):dC X (compareOp op) (rD X.K (xu neg)):=by rintro pins s σ H x y v u Q I rx ry⟨F,d,e,r,sm,px,py,he,k⟩;cases d with
 |int j=>cases e with|dv ks ds=>
     cases he;obtain⟨q,ob,vs,rfl,hq,rs,hl⟩:=py.dv sm;have kr:=KR.zip rs hl;rw[px.int]at rx;obtain rfl:u=Value.ref q:=ry;have g:qY H q (.int j) (jx (ent ks vs) (Sum.inl j:Key)):=.inl ⟨_,Sum.inl j,.inr ⟨ob,hq⟩,rfl,rfl⟩;have hh:(jx (ent ks vs) (Sum.inl j:Key)).isSome=ks.contains j:=by rw[kr.has j];congr 1;rw[List.map_fst_zip (by omega)]
     rcases hop with⟨rfl,rfl⟩|⟨rfl,rfl⟩;.refine XF (by omega) I g rx fun s3 I3=>⟨.bl (jx (ent ks vs) (Sum.inl j:Key)).isSome,H,I3,rfl,?_⟩;rw[hh];exact cG.cU sm (eN _) k
     .refine Bl (by omega) I g rx fun s3 I3=>⟨.bl (!(jx (ent ks vs) (Sum.inl j:Key)).isSome),H,I3,rfl,?_⟩;rw[hh];exact cG.cU sm (eN _) k|_=>cases he
 |_=>cases he
end
end HH
end
section
namespace PySem
section
variable{prog:Program}{w:World}{A:Around}{E:Value->Shared->Prop}{s:Shared}
theorem vp{Q:List Value->Shared->Prop}{I l:Addr}{items:Array Value}(hh:A.handled=none)(hit:s.heap.IsRevIter I l ((items.size:Int)-1))(hl:s.heap.IsList l items)(hne:l≠I)(hlen:items.size<=2^24)(hQ:∀h' tk acc,(∀b o,b≠I->s.heap.get? b=some o->h'.get? b=some o)->s.heap.objs.size<h'.objs.size->ItemsOf (fun i v=>items[items.size-1-i]?=some v) acc items.size->Q acc.toList {s with heap:=h',toks:=tk}):
 wpAny (model prog w) A (collect (.ref I)) Q E s:=by have hIlt:I<s.heap.objs.size:=let⟨_,ho,_⟩:=hit;lt_size ho;have Tu:l<s.heap.objs.size:=let⟨_,ho,_⟩:=hl;lt_size ho;unfold collect;refine wpAny_bind (wpAny_runValue (codeAny_builtin F.entry_proto_collect ?_));rw[Around.under_plainId F.plain_proto_collect _];show wpAny _ A.in1 (newList []>>=fun l=>again (.builtin "list.__iadd__" ⟨[l,.ref I],[]⟩)) _ _ s;refine wpAny_bind (wpAny_newObj_type ?_);refine wpAny_pure ⟨plainId_quiet F.plain_list_iadd _,codeAny_builtin F.entry_list_iadd ?_⟩;rw[Around.under_plainId F.plain_list_iadd _];show wpAny _ A.in1 (listExtendWith (.ref s.heap.objs.size) (.ref I) (.ref s.heap.objs.size)) _ _ _;refine gZ (A:=A) (R:=fun r s'=>match r with
  |.ok (.ret v)=>wpAny (model prog w) A (match v with
   |.ref a=>do let o<-load a match o.data with|.seq xs _=>pure xs.toList|_=>unsupported "internal:collect"
   |_=>unsupported "internal:collect") Q E s'|.ok _=>False|.error e=>E e s') (s:={s with heap:=s.heap.push {cls:=.type "list",data:=.seq #[]}}) hh (hit.at fun o e=>dw e) (hl.at fun o e=>dw e) hne hlen s.heap.objs.size (Ne.symm (ne_of_lt hIlt)) (Ne.symm (ne_of_lt Tu)) _ 0 (get?_push_size _ rfl) fun h' tk acc c' hk hS hacc=>?_;refine wpAny_bind (wpAny_load hS ?_);exact wpAny_pure (hQ h' tk acc (fun b o hb e=>hk b o (ne_of_lt (lt_size e)) hb (dw e)) (lt_size hS) hacc)
end
theorem jB(I l:Addr)(items:Array Value)(hne:l≠I)(hsz:items.size<=2^24):Meets (Builtin.«tuple.__new__» ⟨[.type "tuple",.ref I],[]⟩) (fun A R s=>A.handled=none/\s.heap.IsRevIter I l ((items.size:Int)-1)/\s.heap.IsList l items/\∀(h':Heap)(tk:Nat),(∀b o,b≠I->s.heap.get? b=some o->h'.get? b=some o)->s.heap.objs.size<h'.objs.size->∀acc:Array Value,acc=items.reverse->R (.ok (.ret (.ref h'.objs.size))) {s with heap:=h'.push {cls:=.type "tuple",data:=.seq acc},toks:=tk}):=.of_wp fun prog w A R s h=>by
  obtain⟨hh,hit,hl,h⟩:=h;have hsub:=sub_tuple_self;have hinit:=init_tuple_lookup;have hmh:=madeHere_tuple;have hT:Shared.TypeIs s (.ref I) "list_reverseiterator":=hit.typeIs;obtain⟨o,ho,hc,hd⟩:=id hit;obtain⟨hp,g,d,tk,os⟩:=s;wp_walk using AutoSeq1.wpAny_loadPart' ho,wpAny_typeOf hT,vp (A:=A.in1) hh hit hl hne hsz;intro h' tk' acc hk hlt hacc;show wpAny _ _ (tupleExact acc.toList.toArray>>=fun v=>ret v) _ _ _;have e:acc.toList.toArray=acc:=by simp
  have er:acc=items.reverse:=by refine Array.ext (by rw[hacc.1,Array.size_reverse]) fun j h1 h2=>?_;have:=hacc.2 j _ (Array.getElem?_eq_getElem h1);rw[Array.getElem_reverse];have h3:=Array.getElem?_eq_some_iff.mp this;exact h3.2.symm
  rw[e];unfold tupleExact;refine wpAny_bind (wpAny_newObj_type ?_ (by show acc.size<=sizeLine;rw[hacc.1,sizeLine_eq];omega));exact wpAny_pure ⟨_,rfl,h h' tk' hk hlt acc er⟩
section
variable{prog:Program}{w:World}{A:Around}{E:Value->Shared->Prop}{s:Shared}
theorem o5{I l:Addr}{items:Array Value}{Q:Value->Shared->Prop}(hh:A.handled=none)(hit:s.heap.IsRevIter I l ((items.size:Int)-1))(hl:s.heap.IsList l items)(hne:l≠I)(hsz:items.size<=2^24)(h:∀(h':Heap)(tk:Nat),(∀b o,b≠I->s.heap.get? b=some o->h'.get? b=some o)->s.heap.objs.size<h'.objs.size->Q (.ref h'.objs.size) {s with heap:=h'.push {cls:=.type "tuple",data:=.seq items.reverse},toks:=tk}):wpAny (model prog w) A (call (.type "tuple") [.ref I]) Q E s:=callType_new F.called_tuple (by decide) (F.typeCall_tuple_1 _) (F.newCall_tuple_1 _) (fun obj=>F.args_object_init_2 obj _) F.entry_tuple_new (jB I l items hne hsz) ⟨hh,hit,hl,fun h' tk hk hlt acc e=>by subst e;exact⟨⟨_,get?_push_size _ rfl,rfl⟩,h h' tk hk hlt⟩⟩
end
end PySem
namespace L2
open PySem PySem.Spec PyProof.Rows
section
variable{X:Cx}{pins:List (Addr×Obj)}{σ:St}{H:Hp}{s:Shared}{E:Value->Shared->Prop}
theorem zR{a:Expr}{ta:TE}{p pos p2 pos2:Pos}(hc:X.calm=true)(Tv:Gl X "tuple")(Tw:X.mg "tuple"=none)(hg:Gl X "reversed")(hm:X.mg "reversed"=none)(ha:PE X a ta)(hs:starEach [a] X.env=[(false,eval a X.env)]:=by rfl)(hs2:starEach [.Call (.Name "reversed" p) [a] [] pos] X.env=[(false,eval (.Call (.Name "reversed" p) [a] [] pos) X.env)]:=by rfl):PE X (.Call (.Name "tuple" p2) [.Call (.Name "reversed" p) [a] [] pos] [] pos2) (fun σ H Q=>ta σ H fun x H1=>∃ad xs,x=.ref ad/\dF X.K H1 ad xs/\∀l,H1 l=none->Q (.ref l) (upd H1 l (.tup xs.reverse))):=by
 intro pins s σ H Q I h;refine Call_ (iu I Tv Tw wj (PyProof.Rows.callWith_type1 ?_ hs2 rfl));rw[hs2];show wpAny _ _ (spliced ((false,eval (.Call (.Name "reversed" p) [a] [] pos) X.env)::[])) _ _ _;refine Calls.spliced_cons (Call_ (iu I hg hm jM (PyProof.Rows.callWith_type1 (cz ((cO ha eU hs) pos pins s σ H (fun vs H1=>match vs with|[x]=>∃ad xs,x=.ref ad/\dF X.K H1 ad xs/\∀l,H1 l=none->Q (.ref l) (upd H1 l (.tup xs.reverse))|_=>False) I h) ?_) hs rfl)));rintro us s1⟨vs,H1,I1,r1,q1⟩;obtain⟨ad,xs,hq,q,vs1⟩:∃ad xs,dF X.K H1 ad xs/\(∀l,H1 l=none->Q (.ref l) (upd H1 l (.tup xs.reverse)))/\vs=[.ref ad]:=by cases vs with|nil=>cases q1|cons x r=>cases r with|nil=>obtain⟨ad,xs,rfl,q,q'⟩:=q1;exact⟨ad,xs,q,q',rfl⟩|cons _ _=>cases q1
 subst vs1;obtain⟨u,rfl,ru⟩:=r1.one;cases ru;obtain⟨its,rv,pl,hz⟩:=I1.list hq;have hsz:its.toArray.size=xs.length:=by rw[size_toArray,<-rv.length]
 refine call_reversed_list pl.isList (Calls.spliced_nil ?_);have hne:ad≠s1.heap.objs.size:=ne_of_lt (let⟨_,ho,_⟩:=pl.isList;lt_size ho);have hl2:(s1.heap.push (revObj ad ((its.toArray.size:Int)-1))).IsList ad its.toArray:=pl.isList.at fun o e=>dw e;refine o5 (I1.ok.hd hc) (I:=s1.heap.objs.size) (l:=ad) (items:=its.toArray) ⟨_,get?_push_size _ rfl,rfl,rfl⟩ hl2 hne (by rw[hsz];exact le_trans hz (by decide)) fun h' tk hk hlt=>?_;have hsz2:(s1.heap.push (revObj ad ((its.toArray.size:Int)-1))).objs.size=s1.heap.objs.size+1:=size_push ..;dsimp only at hk hlt ⊢;rw[hsz2]at hlt;have er:its.toArray.reverse=its.reverse.toArray:=by simp
 rw[er];refine⟨.ref h'.objs.size,_,I1.laid (t':=tk) (o:=.tup xs.reverse) (h':=h'.push {cls:=.type "tuple",data:=.seq its.reverse.toArray}) (fun b o e=>dw (hk b o (ne_of_lt (lt_size e)) (dw e))) (by omega) ?_,rfl,q _ (I1.hok.fresh (by omega))⟩;exact⟨by rw[List.length_reverse];exact hz,_,rv.reverse,IsTup.new _ _⟩
end
end L2
namespace HH
open PySem L2 PySem.Spec PyProof.Rows
section
variable{X:Cx}{c:Call}{a:Expr}{pa:P}{pos:Pos}
theorem zM{x y:Str}{p' q' pos':Pos}(hy:y="tuple")(hx:x="reversed")(hc:X.calm=true)(Tv:Gl X y)(Tw:X.mg y=none)(hg:Gl X x)(hm:X.mg x=none)(ha:SX X c a pa)(hs:starEach [a] X.env=[(false,eval a X.env)]:=by rfl)(hs2:starEach [.Call (.Name x p') [a] [] pos] X.env=[(false,eval (.Call (.Name x p') [a] [] pos) X.env)]:=by rfl):SX X c (.Call (.Name y q') [.Call (.Name x p') [a] [] pos] [] pos') (.blt .rvT [pa]):=by subst hx hy;obtain⟨ta,h1,h2⟩:=ha.dj;refine⟨fH (zR hc Tv Tw hg hm h1 hs hs2) ?_,fun i h=>by cases h⟩;rintro σ H Q⟨F,ρ,r,ρ',g,e,k⟩;rw[HH.E17]at e;obtain⟨d,ρ2,e1,e2⟩:=ao e;have zz:=aB e2;clear e2;obtain⟨e2,e3⟩:=zz;subst e3;cases d with|lst ds=>cases e2;refine h2 g e1 ?_;rintro v F' H' s pv;obtain⟨ad,xs,rfl,hq,rs⟩:=pv.lst s.gs.sub;exact⟨ad,xs,rfl,hq,fun l hl=>yH s.gs.sub (aL.rev rs) hl fun v F2 H2 xt rn=>k v F2 H2 (s.trans (xt.stp s.gs)) (.later s (rn.nG s.gs))⟩|_=>cases e2
end
end HH
end
section
namespace L2
open PySem PySem.Spec PyProof.Rows PySem.Calls
section
variable{X:Cx}
theorem G4:Wo X (Yj X.K):=by
 intro pins s σ H x y v u Q I rx ry h;obtain⟨p,xs,i,z,rfl,rfl,hq,he,q⟩:=h;cases rx;obtain⟨t,rfl⟩:=ry;obtain⟨its,r,pl,hz⟩:=I.list hq;obtain⟨j,h1,h2,h3,h4,h5⟩:=uJ he;obtain⟨w,ew,xY⟩:=r.get h2;have hl:=r.length;have hn:=qj;have fin:EP X pins σ Q w s:=⟨z,H,I,xY,q⟩;by_cases h0:0<=i
 . have hj:i.toNat=j:=by rw[seqIndex_of h0 h5]at h1;exact Option.some.inj h1
   exact wpAny_getItem_list pl.isList h0 (by omega) (by rw[hj];simpa using ew) fin
 . have hj:(i+(its.toArray.size:Int)).toNat=j:=by rw[seqIndex_neg (by omega) h4]at h1;rw[size_toArray,<-hl];exact Option.some.inj h1
   exact wpAny_getItem_list_neg pl.isList (by omega) (by rw[size_toArray]<;>omega) (by omega) (by rw[hj];simpa using ew) fin
end
end L2
namespace HH
open PySem L2 PySem.Spec PyProof.Rows PySem.Calls PySem.W
section
variable{X:Cx}{c:Call}{n:Nat}{a b e:Expr}{pa pb p:P}{pos:Pos}
set_option maxHeartbeats 800000 in
theorem vA{k e:Int}{t1 t2 p1 p2 p3}:SX X c (.Dict [some (.Constant (.int k) t1 p1)] [.Constant (.int e) t2 p2] p3) (.xZ k e):=by
 refine⟨?_,fun i h=>by cases h⟩;intro pins s σ H Q I h;obtain⟨F,ρ,r,ρ',g,e',kk⟩:=h;rw[HH.E26]at e';cases e';have em:m8 [] [((Sum.inl k:Key),V.int e)]=ent [k] [.int e]:=rfl;have pe:=LQ (X:=X) (pos:=p3) (Jl (yJ (i:=k) (j:=t1) (pos:=p1)) (yJ (i:=e) (j:=t2) (pos:=p2)) KD) rfl rfl (by simp) (by simp);refine cz (pe pins s σ H (fun v H'=>∃q,v=.ref q/\H q=none/\H'=upd H q (Ca [k] [.int e])) I ?_) fun u s1⟨v,H1,I1,r1,q,e1,hn,e2⟩=>?_;.intro q hq;refine⟨bh,[(Sum.inl k,.int e)],rfl,by simp,q,rfl,hq,?_⟩;rw[Bq,em];rfl
 subst e1 e2;obtain⟨o,I2⟩:=Inv.Gj I1 (a:=q) (kvs:=ent [k] [.int e]) bh;rw[Bq]at I2;have fp:F q=none:=by cases z:F q with|none=>rfl|some o=>rw[g.sub q o z]at hn;cases hn
 have sm:aM F (upd F q (.cX o (Ca [k] [.int e]))):=aM.dD fp;refine⟨.ref q,_,I2,r1,kk _ (upd F q (.cX o (Ca [k] [.int e]))) _ (Ext.stp g ⟨aM.dD hn,sm,fun b o e=>?_,fun b n n'=>?_⟩) ?_⟩
 . by_cases hb:b=q;.subst hb;rw[bh]at e ⊢;exact e
   .rw[aG hb]at e ⊢;exact g.sub b o e
 . by_cases hb:b=q;.subst hb;exact jY hn
   .rw[aG hb]at n';exact absurd n n'
 .show Rep X.K _ _ (.dv [k] [.int e]);rw[Rep];exact⟨q,o,[.int e],rfl,bh,.cons (bY _) .nil,rfl⟩
theorem Bp{x:Str}{k:Nat}{px tpos:Pos}{op:Operator}{sub:Bool}(ho:O7 X op (Uy fun i j=>if sub then i-j else i+j))(hN:X.N[k]?=some x)(hv:yC X.env.scope x)(hi:SX X c b pb)(he:SX X c e p)(ha:∀ov iv new,augStore b ov iv new=(do holding [new,ov,iv] (setItem ov iv new);release [new,ov,iv] [];pure .next):=by intros;rfl)(hd:(x==("__debug__":Str))=false:=by decide)(hcd:(x==("__classdict__":Str))=false:=by decide):SS X c n (.AugAssign (.Subscript (.Name x px) b tpos) op e pos) (.Ep k pb sub p):=by
 obtain⟨ti,hi1,hi2⟩:=hi.dj;obtain⟨te,he1,he2⟩:=he.dj;refine dX (KH (iB hN hv hd hcd) hi1 G4 he1 ho set_list ha) ?_;rintro D σ H⟨F,ρ,fl,ρ',g,e,kk⟩;rw[HH.X17]at e;obtain⟨x0,ρ0,e0',eA⟩:=ao e;clear e;obtain⟨e0,Et⟩:=aB e0';clear e0';subst Et;obtain⟨dk,ρ1,e1,eB⟩:=ao eA;clear eA;obtain⟨l,ρ2,e2',eC⟩:=ao eB;clear eB;obtain⟨e2,e21⟩:=aB e2';clear e2';subst e21;obtain⟨ra,ρ3,e3',eD⟩:=ao eC;clear eC;obtain⟨e3,e31⟩:=aB e3';clear e3';subst e31;obtain⟨db,ρ4,e4,eE⟩:=ao eD;clear eD;obtain⟨o1,xs1,ho1,_⟩:=Bd g e0;refine⟨.ref o1,ho1,hi2 g e1 fun vi F1 H1 s1 pi=>?_⟩;split at eE
 . rename_i u v bb ds kz q;split at eE
   . rename_i j hj;cases eE;obtain⟨i0,f3,f5⟩:=cF e3;have hi0:i0=kz:=by cases f3;rfl
     subst hi0;have e2':pk ρ1 k=some (.lst l):=by
      unfold Fe at e2;split at e2;.rename_i z;cases e2;exact z
      .cases e2
     obtain⟨o',ho2,po⟩:=s1.gs.pk e2';rw[ho1]at ho2;cases ho2;obtain⟨ad,xs,hr,hL,rs⟩:=po.lst s1.gs.sub;cases hr;obtain⟨j0,h1,h2⟩:=Gq f5;obtain⟨w,h3,h4⟩:=rs.get h2;have hat:GX xs i0=some w:=by unfold GX;rw[rs.length,h1];exact h3
     have hw:w=.int u:=by rw[Rep]at h4;exact h4
     subst hw;refine⟨o1,xs,i0,.int u,rfl,pi.int,hL,hat,he2 s1.gs e4 fun vb F2 H2 s2 pb=>⟨u,v,rfl,pb.int,?_⟩⟩;obtain⟨ad2,zs,z1,z2,z3,z4⟩:=s2.gs.mO k _ ds q rfl;rw[ho1]at z1;cases z1;refine⟨o1,zs,i0,j,rfl,pi.int,z2,by rw[z4.length];exact hj,?_⟩;exact kk F2 σ _ ((s1.trans s2).trans (s2.gs.mut q ho1 (z4.set (bY _) j)))
   .cases eE
 .cases eE
end
section
variable{X:Cx}{c:Call}{n:Nat}{a b e:Expr}{pa pb p:P}{pos:Pos}
theorem Ly{neg:Bool}{o:Op}{op:CmpOp}(hop:(op=.In/\neg=false)\/(op=.NotIn/\neg=true))(hq:pN o=xu neg)(hu:X.A.units+8<cLine)(ha:SX X c a pa)(hb:SX X c b pb)(hm:behindInMarks op b=false):ST X c (.Compare a [op] [b] pos) (.bin o pa pb):=by obtain⟨ta,tb,h1,h2,h3⟩:=ha.iw hb;refine tO (Bw (Mr hop hu) h1 h2 hm) fun σ H Q q=>nY (t:=Qg (rD X.K (xu neg)) ta tb) (fun Q z=>?_) q;obtain⟨F,ρ,r,ρ',g,e,k⟩:=z;rw[HH.E4]at e;obtain⟨xy,ρ1,e1,e2⟩:=ao e;have zz:=aB e2;clear e2;obtain⟨e2,e3⟩:=zz;subst e3;rw[hq]at e2;refine h3 g e1 fun v u F' H' s pv pu=>⟨F',xy.1,xy.2,r,s.gs.sub,pv,pu,e2,fun w F2 H2 x rn=>?_⟩;exact k w F2 H2 (s.trans (x.stp s.gs)) (.later s (rn.nG s.gs))
theorem Rm(hu:X.A.units+8<cLine)(ha:SX X c a pa)(hb:SX X c b pb)(hm:behindInMarks .In b=false):ST X c (.Compare a [.In] [b] pos) (.bin .din pa pb):=Ly (.inl ⟨rfl,rfl⟩) rfl hu ha hb hm
theorem Sg{i:Nat}{x:Str}{px:Pos}{pk:P}{neg:Bool}{op:CmpOp}(hop:(op=.In/\neg=false)\/(op=.NotIn/\neg=true))(hu:X.A.units+8<cLine)(hN:X.N[i]?=some x)(hv:yC X.env.scope x)(ha:SX X c a pk)(hb:behindInMarks op (.Name x px)=false)(hd:(x==("__debug__":Str))=false:=by decide)(hcd:(x==("__classdict__":Str))=false:=by decide):ST X c (.Compare a [op] [.Name x px] pos) (.Pk i pk neg):=tO (Qn (RP hop hu hN hv ha hd hcd) hb) fun σ H Q q=>nY (fun _ z=>z) q
end
end HH
end
noncomputable section
set_option maxHeartbeats 4000000
namespace T
open PySem L2 PySem.Spec PyProof.Rows HH
local macro_rules|`(term|⇑$n)=>`(P.con (.int $n))
local macro_rules|`(term|↑$n)=>`(P.var $n)
local macro_rules|`(tactic|ac_rfl)=>`(tactic|first|exact Or.inl rfl|exact Or.inr (Or.inl rfl))
set_option hygiene false
local macro_rules|`(term|↥($a,$b,$d))=>`(nM Pg w K mg base Jf (k+1) f fd $a (Lb K $b (fun args=>enter c n $d args)))
local macro_rules|`(term|↥($a,$b,$d,0))=>`(aQ Pg w K mg base k c $a $b $d)
set_option hygiene true
local macro_rules|`(term|⇑($x))=>`(fun _ _ _ _ _=>$x)
local macro_rules|`(term|nofun)=>`(⟨rfl,rfl,rfl,by decide+kernel,rfl,by decide+kernel,by decide+kernel⟩)
local macro_rules|`(tactic|exists$e)=>`(tactic|with_reducible refine$e)
local macro_rules|`(tactic|lia)=>`(tactic|with_reducible refine aJ ?_ ?_)
set_option hygiene false
local macro_rules|`(tactic|exists$i,$e)=>`(tactic|((with_reducible refine fU (i:=$i) ?_ ?_ ?_ ?_ ?_ ?_);exact nd;exact rfl;exact oi;rotate_left;rfl;exact oi;exact$e))
local macro_rules|`(tactic|exists$i,$e,0)=>`(tactic|((with_reducible refine Bh (i:=$i) ?_ ?_ ?_ ?_ ?_ ?_ ?_ ?_ ?_);exact PassesOwn.never;exact hc;exact nd;exact rfl;exact oi;exact$e;rotate_left;(· intro _;rfl);exact oi))
local macro_rules|`(tactic|exists$a,$b,0,0)=>`(tactic|(refine Yl $a $b rfl rfl fun cdv A outer s H E hr=>?_;have nd:=($b).nd))
local macro_rules|`(tactic|exists(),$e)=>`(tactic|((with_reducible refine S9 ?_);exact$e))
set_option hygiene true
local macro_rules|`(term|‹$l›)=>`((show(($l):List Str).Nodup by decide+kernel))
theorem hc:true=true:=rfl
theorem oi{α:Type}{a:α}{p:Prop}:a=a\/p:=.inl rfl
theorem aZ{X:Cx}{c:Call}{a:Expr}{es:List Expr}{pa:P}{ps:List P}(ha:SX X c a pa)(hr:SG X c es ps)(h:nst a=true):SG X c (a::es) (pa::ps):=Lh ha hr (jb h)
theorem cM{X:Cx}{c:Call}{a:Expr}{es:List Expr}{pa:P}{ps:List P}(ha:SX X c a pa)(hr:SA X c es ps)(h:nst a=true):SA X c (a::es) (pa::ps):=pG ha hr (jb h)
variable{Pg:Program}{w:World}{K:PySem.W.Frag}{mg:Str->Option Value}{base:Heap}{f:Addr}{fd:FuncData}{k n:Nat}{c:Call}{cl:Nat->Addr}
noncomputable def top(i:Nat):Stmt:=PySem.Challenge.pw_hourhaul_k27_whole_greatest_rate_is_the.main.body.getD i (.Pass ⟨0,0,0,0⟩)
abbrev s0:Stmt:=top 6
noncomputable def b0:List S:=[.asg 2 (.idx (.idx ↑0 ⇑1) (.idx ↑1 ⇑0)),.ret (.Ph (.idx ↑1 ⇑1) (.tup [.idx ↑2 ⇑0,.idx ↑2 ⇑1]) (.tup [.idx ↑2 ⇑1,.idx ↑2 ⇑0]))]
def f0:Fd:=⟨2,3,b0⟩
theorem sc0:aD ["net","step","way"] ["net","step"] (au s0):=nofun
include cl in
theorem d0(Fu:eG K "step_places" "step_places" s0 f fd):↥(["net","step"],2,f0):=by
 exists Fu,sc0,0,0;refine aJ ?_ ?_;.exists 2,ak (ak (sv 0) aa) (ak (sv 1) aa)
 lia;.exists(),vg (gD (ak (sv 1) aa)) (bF (cM (ak (sv 2) aa) (cM (ak (sv 2) aa) aK rfl) rfl)) (bF (cM (ak (sv 2) aa) (cM (ak (sv 2) aa) aK rfl) rfl))
 exact aq
abbrev s1:Stmt:=top 7
noncomputable def b1:List S:=[.asg 2 (.idx (.idx (.idx ↑0 ⇑1) (.idx ↑1 ⇑0)) ⇑3),.ret (.Ph (.idx ↑1 ⇑1) ↑2 (.neg ↑2))]
def f1:Fd:=⟨2,3,b1⟩
theorem sc1:aD ["net","step","hours"] ["net","step"] (au s1):=nofun
include cl in
theorem d1(Fu:eG K "step_hours" "step_hours" s1 f fd):↥(["net","step"],2,f1):=by
 exists Fu,sc1,0,0;refine aJ ?_ ?_;.exists 2,ak (ak (ak (sv 0) aa) (ak (sv 1) aa)) aa
 lia;.exists(),vg (gD (ak (sv 1) aa)) (sv 2) (lA (sv 2))
 exact aq
abbrev s2:Stmt:=top 8
noncomputable def b2:List S:=[.asg 3 (.idx ↑1 (.idx ↑2 ⇑0)),.ret (.Ph (.idx ↑2 ⇑1) (.bin .sub (.idx (.idx (.idx ↑0 ⇑1) (.idx ↑2 ⇑0)) ⇑2) ↑3) ↑3)]
def f2:Fd:=⟨3,4,b2⟩
theorem sc2:aD ["net","stream","step","loads"] ["net","stream","step"] (au s2):=nofun
include cl in
theorem d2(Fu:eG K "step_room" "step_room" s2 f fd):↥(["net","stream","step"],3,f2):=by
 exists Fu,sc2,0,0;refine aJ ?_ ?_;.exists 3,ak (sv 1) (ak (sv 2) aa)
 lia;.exists(),vg (gD (ak (sv 2) aa)) (aA bK (ak (ak (ak (sv 0) aa) (ak (sv 2) aa)) aa) (sv 3)) (sv 3)
 exact aq
abbrev s3:Stmt:=top 9
noncomputable def b3:List S:=[.JZ 2 (.rQ ⇑0 (.idx ↑0 ⇑0)) 1 [5] true (.lst []),.Er (.rQ ⇑0 (.blt .len [.idx ↑0 ⇑1])) [3] true [.Er (.tup [.tup [↑3,.con (.bl true)],.tup [↑3,.con (.bl false)]]) [4] true [.ifs (.cmp .gt (.call 2 [↑0,↑1,↑4]) ⇑0) [.J0 2 (.idx (.call 0 [↑0,↑4]) ⇑0) ↑4] []]],.cX 2,.ret ↑2]
def f3:Fd:=⟨2,5,b3⟩
theorem sc3:aD ["net","stream","steps","number","step"] ["net","stream"] (au s3):=nofun
include cl in
theorem d3(Fu:eG K "open_steps" "open_steps" s3 f fd)(bL:mg "len"=none)(bj:mg "range"=none)(dG:↥(0,"step_places",2,0))(jV:↥(2,"step_room",3,0)):↥(["net","stream"],2,f3):=by exists Fu,sc3,0,0;exact(by(refine Ko (i:=2) (N':=["net","stream","steps","number","step","place"]) (g:=jP 5) ?_ ?_ ?_ ?_ ?_ ?_ ?_ ?_ ?_ ?_ ?_ ?_ ?_ ?_);exact hc;exact nd;exact rfl;exact oi;exact oK rfl (by rfl);exact gh rfl (by rfl) bj (ak (sv 0) aa);exact ⇑(aF (i:=5) ‹["net","stream","steps","number","step","place"]› rfl (Or.inl rfl) (Or.inr rfl));exact bR (cR);exact ⇑(cI);exact ⇑((cA aK));(· exists IV ?_ ?_;(· exists Cg (g:=jP 3) ?_ ?_ ?_ ?_ ?_ ?_ ?_;exact PassesOwn.never;exact hc;(· exists Fw ?_ ?_ ?_ ?_ ?_;exact rfl;rfl;exact bj;exact dB rfl (by rfl) bL (ak (sv 0) aa);rfl);exact aF (i:=3) nd rfl oi oi;(· rw[oh];exact uL 3);(· exists qG ?_ ?_;(· exists Cg (g:=jP 4) ?_ ?_ ?_ ?_ ?_ ?_ ?_;exact PassesOwn.never;exact hc;exact KY (bF (cM (bF (cM (sv 3) (cM fJ aK rfl) rfl)) (cM (bF (cM (sv 3) (cM fJ aK rfl) rfl)) aK rfl) rfl));exact aF (i:=4) nd rfl oi oi;(· rw[oh];exact uL 4);(· exists qG ?_ ?_;(· exists Rx ?_ ?_ ?_;exact aX iW (cN jV hr (aZ (sv 0) (aZ (sv 1) (aZ (sv 4) az rfl) rfl) rfl)) aa (aP _);(· exists qG ?_ ?_;(· exists Jt (k:=2) ?_ ?_ ?_ ?_ ?_ ?_ ?_ ?_ ?_ ?_ ?_ ?_;exact rfl;(· first|exact Or.inl rfl|exact Or.inr (Or.inl rfl));exact ak (cN dG hr (aZ (sv 0) (aZ (sv 4) az rfl) rfl)) aa;exact sv 4;(· intro _ _;rfl);rfl;rfl;rfl;rfl;rfl;rfl;rfl);exact pD);exact pD);exact pD);(· intro _;rfl));exact pD);(· intro _;rfl));(· exists K1 ?_;(· lia;(· exists(),sv 2);exact aq)));rfl;(· intro _;rfl);exact oi)
abbrev s4:Stmt:=top 10
noncomputable def b4:List S:=[.asg 3 (.call 3 [↑0,↑1]),.Es 4,.gV (.blt .keys [↑2]) [5] true [.jL 4 ↑5 (.tup [.bin .Em ↑2 ↑5,⇑0,.con .non])],.asg 6 (.blt .Vw [↑2]),.whl (.cmp .gt (.blt .len [↑6]) ⇑0) [.Es 7,.gV ↑6 [5] true [.gV (.idx ↑3 ↑5) [8] true [.asg 9 (.idx (.call 0 [↑0,↑8]) ⇑1),.asg 10 (.tup [.bin .add (.idx (.Pj 4 ↑5) ⇑0) (.call 1 [↑0,↑8]),.bin .add (.idx (.Pj 4 ↑5) ⇑1) ⇑1]),.ifs (.or (.Pk 4 ↑9 true) (.cmp .lt ↑10 (.slice (.Pj 4 ↑9) (.con .non) ⇑2))) [.jL 4 ↑9 (.bin .add ↑10 (.tup [↑8])),.jL 7 ↑9 (.con (.bl true))] []]],.asg 6 (.blt .Vw [.vw 7])],.ret ↑4]
def f4:Fd:=⟨3,11,b4⟩
theorem sc4:aD ["net","stream","begun","steps","come","place","row","changed","step","to","found"] ["net","stream","begun"] (au s4):=nofun
include cl in
theorem d4(Fu:eG K "shortest_come" "shortest_come" s4 f fd)(bL:mg "len"=none)(eZ:mg "list"=none)(vI:↥(3,"open_steps",2,0))(vJ:↥(1,"step_hours",2,0))(dG:↥(0,"step_places",2,0)):↥(["net","stream","begun"],3,f4):=by
 exists Fu,sc4,0,0;refine aJ ?_ ?_;.exists 3,cN vI hr (aZ (sv 0) (aZ (sv 1) az rfl) rfl)
 lia;.exact(Az (i:=4) nd rfl oi (by rfl) (Or.inl rfl))
 lia;.exists 5,MK (sv 2),0;(· lia;exact uU (i:=4) (aR hr) rfl (by ac_rfl) (sv 5) (bF (cM (vC (aR hr) (sv 2) (sv 5) (fun _ _=>rfl)) (cM aa (cM lE aK rfl) rfl) rfl)) (by rfl);exact aq)
 lia;.exists 6,Ig rfl hc (by rfl) eZ (sv 2)
 lia;.exact(ni PassesOwn.never (aX iW (dB rfl (by rfl) bL (sv 6)) aa (aP _)) (by lia;exact Az (i:=7) nd rfl oi (by rfl) (Or.inl rfl);(· lia;(· exists 5,bW (sv 6),0;(· lia;(· exists 8,bW (ak (sv 3) (sv 5)),0;(· lia;(· exists 9,ak (cN dG hr (aZ (sv 0) (aZ (sv 8) az rfl) rfl)) aa);(· lia;(· exists 10,bF (cM (aA bf (ak (zr (i:=4) (aR hr) rfl (by ac_rfl) (sv 5) (fun _ _=>rfl)) aa) (cN vJ hr (aZ (sv 0) (aZ (sv 8) az rfl) rfl))) (cM (aA bf (ak (zr (i:=4) (aR hr) rfl (by ac_rfl) (sv 5) (fun _ _=>rfl)) aa) aa) aK rfl) rfl));(· lia;(· exists cJ ?_ ?_ ?_;exact SW.st (kJ (Sg (i:=4) (Or.inr ⟨rfl,rfl⟩) (aR hr) rfl (by ac_rfl) (sv 9) (by with_unfolding_all rfl)) (je (aX (gJ (aR hr)) (sv 10) (dO (zr (i:=4) (aR hr) rfl (by ac_rfl) (sv 9) (fun _ _=>rfl)) gf (fY aa)) (aP _))));(· lia;exact uU (i:=4) (aR hr) rfl (by ac_rfl) (sv 9) (aA bf (sv 10) (bF (cM (sv 8) aK rfl))) (by rfl);(· lia;exact uU (i:=7) (aR hr) rfl (by ac_rfl) (sv 9) fJ (by rfl);exact aq));exact aq);exact aq))));exact aq));(· lia;(· exists 6,Ig rfl hc (by rfl) eZ (W6 (i:=7) rfl (by ac_rfl)));exact aq))))
 lia;.exists(),sv 4
 exact aq
abbrev s5:Stmt:=top 11
noncomputable def b5:List S:=[.asg 3 (.lst []),.asg 4 ↑2,.whl (.cmp .Eo (.idx (.bin .Em ↑1 ↑4) ⇑2) (.con .non)) [.asg 5 (.idx (.bin .Em ↑1 ↑4) ⇑2),.app 3 ↑5,.asg 4 (.idx (.call 0 [↑0,↑5]) ⇑0)],.ret (.blt .rvT [↑3])]
def f5:Fd:=⟨3,6,b5⟩
theorem sc5:aD ["net","come","place","steps","here","step"] ["net","come","place"] (au s5):=nofun
include cl in
theorem d5(Fu:eG K "steps_to" "steps_to" s5 f fd)(fc:mg "reversed"=none)(bA:mg "tuple"=none)(dG:↥(0,"step_places",2,0)):↥(["net","come","place"],3,f5):=by
 exists Fu,sc5,0,0;refine aJ ?_ ?_;.exists 3,cA aK
 lia;.exists 4,sv 2
 lia;.exact(ni PassesOwn.never (aX vq (ak (vC (aR hr) (sv 1) (sv 4) (fun _ _=>rfl)) aa) lE (aP _)) (by lia;(· exists 5,ak (vC (aR hr) (sv 1) (sv 4) (fun _ _=>rfl)) aa);(· lia;exact bQ (k:=3) rfl (by ac_rfl) (sv 5);(· lia;(· exists 4,ak (cN dG hr (aZ (sv 0) (aZ (sv 5) az rfl) rfl)) aa);exact aq))))
 lia;.exists(),zM rfl rfl hc (by rfl) bA (by rfl) fc (sv 3)
 exact aq
abbrev s6:Stmt:=top 12
noncomputable def b6:List S:=[.asg 3 (.blt .list [↑0]),.gV ↑1 [4,5] false [.Ep 3 ↑4 false (.Ph ↑5 ↑2 (.neg ↑2))],.ret ↑3]
def f6:Fd:=⟨3,6,b6⟩
theorem sc6:aD ["stream","steps","loads","changed","number","forth"] ["stream","steps","loads"] (au s6):=nofun
include cl in
theorem d6(Fu:eG K "stream_with" "stream_with" s6 f fd)(eZ:mg "list"=none):↥(["stream","steps","loads"],3,f6):=by
 exists Fu,sc6,0,0;refine aJ ?_ ?_;.exists 3,Bc rfl (by rfl) eZ (sv 0)
 lia;.exact(rE PassesOwn.never hc (bW (sv 1)) (eX hc (aY (aF (i:=4) nd rfl oi oi) (aY (aF (i:=5) nd rfl oi oi) dm))) (qR rfl (dg _ _ (dg _ _ mD 5) 4)) (by lia;exact Bp (k:=3) (sub:=false) Ms rfl (by ac_rfl) (sv 4) (vg (gD (sv 5)) (sv 2) (lA (sv 2)));exact aq))
 lia;.exists(),sv 3
 exact aq
abbrev s7:Stmt:=top 13
noncomputable def b7:List S:=[.asg 1 (.bin .sub (.idx ↑0 ⇑0) ⇑1),.asg 2 (.bin .mul (.lst [⇑0]) (.blt .len [.idx ↑0 ⇑1])),.asg 3 (.lst []),.asg 4 (.call 4 [↑0,↑2,.xZ 0 0]),.whl (.bin .din ↑1 ↑4) [.asg 5 (.call 5 [↑0,↑4,↑1]),.asg 6 (.blt .vH [.comp ↑5 1 [7] true none (.call 2 [↑0,↑2,↑7])]),.app 3 (.tup [↑5,↑6]),.asg 2 (.call 6 [↑2,↑5,↑6]),.asg 4 (.call 4 [↑0,↑2,.xZ 0 0])],.ret ↑3]
def f7:Fd:=⟨1,7,b7⟩
theorem sc7:aD ["net","end","stream","chains","come","steps","loads"] ["net"] (au s7):=nofun
include cl in
theorem d7(Fu:eG K "chains_to_end" "chains_to_end" s7 f fd)(bL:mg "len"=none)(gO:mg "min"=none)(dH:↥(4,"shortest_come",3,0))(jV:↥(2,"step_room",3,0))(Aa:↥(5,"steps_to",3,0))(iC:↥(6,"stream_with",3,0)):↥(["net"],1,f7):=by
 exists Fu,sc7,0,0;refine aJ ?_ ?_;.exists 1,aA bK (ak (sv 0) aa) aa
 lia;.exists fU (i:=2) ?_ ?_ ?_ ?_ ?_ ?_;exact nd;exact rfl;exact Or.inr rfl;rotate_left;rfl;exact oi;exact aA il (cA (cM aa aK rfl)) (dB rfl (by rfl) bL (ak (sv 0) aa))
 lia;.exists 3,cA aK
 lia;.exists 4,cN dH hr (aZ (sv 0) (aZ (sv 2) (aZ vA az rfl) rfl) rfl)
 lia;.exact(ni PassesOwn.never (Rm (aR hr) (sv 1) (sv 4) (by with_unfolding_all rfl)) (by lia;(· exists 5,cN Aa hr (aZ (sv 0) (aZ (sv 4) (aZ (sv 1) az rfl) rfl) rfl));(· lia;(· exists 6,mV rfl hc (by rfl) gO (bT (N':=["net","end","stream","chains","come","steps","loads","step"]) hc (oK rfl (by rfl)) (bW (sv 5)) ⇑(aF (i:=7) ‹["net","end","stream","chains","come","steps","loads","step"]› rfl (Or.inl rfl) (Or.inr rfl)) (bR (cR)) ⇑(cI) ⇑((cN jV hr (aZ (sv 0) (aZ (sv 2) (aZ (sv 7) az rfl) rfl) rfl)))));(· lia;exact bQ (k:=3) rfl (by ac_rfl) (bF (cM (sv 5) (cM (sv 6) aK rfl) rfl));(· lia;(· exists fU (i:=2) ?_ ?_ ?_ ?_ ?_ ?_;exact nd;exact rfl;exact Or.inr rfl;rotate_left;rfl;exact oi;exact cN iC hr (aZ (sv 2) (aZ (sv 5) (aZ (sv 6) az rfl) rfl) rfl));(· lia;(· exists 4,cN dH hr (aZ (sv 0) (aZ (sv 2) (aZ vA az rfl) rfl) rfl));exact aq))))))
 lia;.exists(),sv 3
 exact aq
abbrev s8:Stmt:=top 15
noncomputable def b8:List S:=[.ret (.blt .all [.comp (.zip ↑0 (.slice ↑0 ⇑1 (.con .non))) 2 [1,2] false none (.cmp .lt ↑1 ↑2)])]
def f8:Fd:=⟨1,1,b8⟩
theorem sc8:aD ["things"] ["things"] (au s8):=nofun
include cl in
theorem d8(Fu:eG K "is_rising" "is_rising" s8 f fd)(ju:mg "all"=none)(mZ:mg "zip"=none):↥(["things"],1,f8):=by
 exists Fu,sc8,0,0;refine aJ ?_ ?_;.exists(),vB rfl hc (by rfl) ju (bT (N':=["things","one","other"]) hc (oK rfl (by rfl)) (Hy rfl (by rfl) mZ (sv 0) (dO (sv 0) (fY aa) gf)) ⇑(eX hc (aY (aF (i:=1) ‹["things","one","other"]› rfl (Or.inl rfl) (Or.inr rfl)) (aY (aF (i:=2) ‹["things","one","other"]› rfl (Or.inl rfl) (Or.inr rfl)) dm))) (ik rfl (cg (show 1<=1 by decide) (cg (show 1<=2 by decide) ig))) ⇑(cI) ⇑((dU (gJ (aR hr)) (sv 1) (sv 2) (aP _))))
 exact aq
abbrev s9:Stmt:=top 18
noncomputable def b9:List S:=[.ret (.comp (.Vx (.idx ↑0 ⇑1)) 2 [2,3] false (some (.cmp .eq (.idx ↑3 ⇑0) ↑1)) ↑2)]
def f9:Fd:=⟨2,2,b9⟩
theorem sc9:aD ["net","place"] ["net","place"] (au s9):=nofun
include cl in
theorem d9(Fu:eG K "ways_out" "ways_out" s9 f fd)(dM:mg "enumerate"=none):↥(["net","place"],2,f9):=by
 exists Fu,sc9,0,0;refine aJ ?_ ?_;.exists(),bT (N':=["net","place","number","way"]) hc (oK rfl (by rfl)) (Ij rfl (by rfl) dM (ak (sv 0) aa)) ⇑(eX hc (aY (aF (i:=2) ‹["net","place","number","way"]› rfl (Or.inl rfl) (Or.inr rfl)) (aY (aF (i:=3) ‹["net","place","number","way"]› rfl (Or.inl rfl) (Or.inr rfl)) dm))) (ik rfl (cg (show 2<=2 by decide) (cg (show 2<=3 by decide) ig))) ⇑(ie (aX (cW (aR hr)) (ak (sv 3) aa) (sv 1) (aP _))) ⇑((sv 2))
 exact aq
abbrev j4:Stmt:=top 19
noncomputable def b10:List S:=[.ret (.comp (.Vx (.idx ↑0 ⇑1)) 2 [2,3] false (some (.cmp .eq (.idx ↑3 ⇑1) ↑1)) ↑2)]
def Zt:Fd:=⟨2,2,b10⟩
theorem adx:aD ["net","place"] ["net","place"] (au j4):=nofun
include cl in
theorem d10(Fu:eG K "ways_in" "ways_in" j4 f fd)(dM:mg "enumerate"=none):↥(["net","place"],2,Zt):=by
 exists Fu,adx,0,0;refine aJ ?_ ?_;.exists(),bT (N':=["net","place","number","way"]) hc (oK rfl (by rfl)) (Ij rfl (by rfl) dM (ak (sv 0) aa)) ⇑(eX hc (aY (aF (i:=2) ‹["net","place","number","way"]› rfl (Or.inl rfl) (Or.inr rfl)) (aY (aF (i:=3) ‹["net","place","number","way"]› rfl (Or.inl rfl) (Or.inr rfl)) dm))) (ik rfl (cg (show 2<=2 by decide) (cg (show 2<=3 by decide) ig))) ⇑(ie (aX (cW (aR hr)) (ak (sv 3) aa) (sv 1) (aP _))) ⇑((sv 2))
 exact aq
abbrev ZW:Stmt:=top 20
noncomputable def b11:List S:=[.ifs (.not (.chain .le .lt ⇑0 ↑1 (.blt .len [.idx ↑0 ⇑1]))) [.bad] [],.ret (.idx (.idx ↑0 ⇑1) ↑1)]
def f11:Fd:=⟨2,2,b11⟩
theorem aer:aD ["net","number"] ["net","number"] (au ZW):=nofun
include cl in
theorem d11(Fu:eG K "known_way" "known_way" ZW f fd)(bL:mg "len"=none):↥(["net","number"],2,f11):=by
 exists Fu,aer,0,0;refine aJ ?_ ?_;.exists cJ ?_ ?_ ?_;exact jd (mJ lz (gJ (aR hr)) aa (sv 1) (dB rfl (by rfl) bL (ak (sv 0) aa)));(· lia;exact ou;exact aq);exact aq
 lia;.exists(),ak (ak (sv 0) aa) (sv 1)
 exact aq
abbrev s12:Stmt:=top 21
noncomputable def b12:List S:=[.ifs (.cmp .ge (.blt .len [.idx ↑0 ⇑1]) (.glob "MOST_WAYS" (.int 12))) [.bad] [],.ret (.tup [.idx ↑0 ⇑0,.bin .add (.idx ↑0 ⇑1) (.tup [.blt .tuple [↑1]])])]
def Zy:Fd:=⟨2,2,b12⟩
theorem adL:aD ["net","way"] ["net","way"] (au s12):=nofun
include cl in
theorem d12(Fu:eG K "put_way" "put_way" s12 f fd)(bL:mg "len"=none)(bA:mg "tuple"=none)(jW:∃t,mg "MOST_WAYS"=some (Value.int 12 t)):↥(["net","way"],2,Zy):=by
 exists Fu,adL,0,0;refine aJ ?_ ?_;.exists cJ ?_ ?_ ?_;exact aX Ip (dB rfl (by rfl) bL (ak (sv 0) aa)) (Jr (by rfl) jW.choose_spec (by rfl)) (aP _);(· lia;exact ou;exact aq);exact aq
 lia;.exists(),bF (cM (ak (sv 0) aa) (cM (aA bf (ak (sv 0) aa) (bF (cM (dW rfl (by rfl) bA (sv 1)) aK rfl))) aK rfl) rfl)
 exact aq
abbrev s13:Stmt:=top 22
noncomputable def b13:List S:=[.expr (.call 11 [↑0,↑1]),.ret (.tup [.idx ↑0 ⇑0,.bin .add (.slice (.idx ↑0 ⇑1) (.con .non) ↑1) (.slice (.idx ↑0 ⇑1) (.bin .add ↑1 ⇑1) (.con .non))])]
def Zw:Fd:=⟨2,2,b13⟩
theorem adp:aD ["net","number"] ["net","number"] (au s13):=nofun
include cl in
theorem d13(Fu:eG K "less_way" "less_way" s13 f fd)(jX:↥(11,"known_way",2,0)):↥(["net","number"],2,Zw):=by
 exists Fu,adp,0,0;refine aJ ?_ ?_;.exact(KJ (cN jX hr (aZ (sv 0) (aZ (sv 1) az rfl) rfl)))
 lia;.exists(),bF (cM (ak (sv 0) aa) (cM (aA bf (dO (ak (sv 0) aa) gf (fY (sv 1))) (dO (ak (sv 0) aa) (fY (aA bf (sv 1) aa)) gf)) aK rfl) rfl)
 exact aq
abbrev s14:Stmt:=top 23
noncomputable def b14:List S:=[.asg 3 (.call 11 [↑0,↑1]),.asg 4 (.tup [.idx ↑3 ⇑0,.idx ↑3 ⇑1,↑2,.idx ↑3 ⇑3]),.ret (.tup [.idx ↑0 ⇑0,.bin .add (.bin .add (.slice (.idx ↑0 ⇑1) (.con .non) ↑1) (.tup [↑4])) (.slice (.idx ↑0 ⇑1) (.bin .add ↑1 ⇑1) (.con .non))])]
def Zm:Fd:=⟨3,5,b14⟩
theorem acg:aD ["net","number","room","way","changed"] ["net","number","room"] (au s14):=nofun
include cl in
theorem d14(Fu:eG K "with_room" "with_room" s14 f fd)(jX:↥(11,"known_way",2,0)):↥(["net","number","room"],3,Zm):=by
 exists Fu,acg,0,0;refine aJ ?_ ?_;.exists 3,cN jX hr (aZ (sv 0) (aZ (sv 1) az rfl) rfl)
 lia;.exists 4,bF (cM (ak (sv 3) aa) (cM (ak (sv 3) aa) (cM (sv 2) (cM (ak (sv 3) aa) aK rfl) rfl) rfl) rfl)
 lia;.exists(),bF (cM (ak (sv 0) aa) (cM (aA bf (aA bf (dO (ak (sv 0) aa) gf (fY (sv 1))) (bF (cM (sv 4) aK rfl))) (dO (ak (sv 0) aa) (fY (aA bf (sv 1) aa)) gf)) aK rfl) rfl)
 exact aq
abbrev s15:Stmt:=top 24
noncomputable def b15:List S:=[.asg 1 (.bin .sub (.idx ↑0 ⇑0) ⇑1),.asg 2 (.comp (.idx ↑0 ⇑1) 1 [3] true none (.tup [.bin .sub ↑1 (.idx ↑3 ⇑1),.bin .sub ↑1 (.idx ↑3 ⇑0),.idx ↑3 ⇑2,.idx ↑3 ⇑3])),.ret (.tup [.idx ↑0 ⇑0,.blt .tuple [↑2]])]
def f15:Fd:=⟨1,3,b15⟩
theorem ada:aD ["net","end","ways"] ["net"] (au s15):=nofun
include cl in
theorem d15(Fu:eG K "turned_net" "turned_net" s15 f fd)(bA:mg "tuple"=none):↥(["net"],1,f15):=by
 exists Fu,ada,0,0;refine aJ ?_ ?_;.exists fU (i:=1) ?_ ?_ ?_ ?_ ?_ ?_;exact nd;exact rfl;exact Or.inr rfl;rotate_left;rfl;exact oi;exact aA bK (ak (sv 0) aa) aa
 lia;.exact(uZ (i:=2) (N':=["net","end","ways","way"]) hc nd rfl oi (oK rfl (by rfl)) (bW (ak (sv 0) aa)) ⇑(aF (i:=3) ‹["net","end","ways","way"]› rfl (Or.inl rfl) (Or.inr rfl)) (bR (cR)) ⇑(cI) ⇑((bF (cM (aA bK (sv 1) (ak (sv 3) aa)) (cM (aA bK (sv 1) (ak (sv 3) aa)) (cM (ak (sv 3) aa) (cM (ak (sv 3) aa) aK rfl) rfl) rfl) rfl))) (by rfl) (by intro _;rfl) (Or.inl rfl))
 lia;.exists(),bF (cM (ak (sv 0) aa) (cM (dW rfl (by rfl) bA (sv 2)) aK rfl) rfl)
 exact aq
abbrev s16:Stmt:=top 26
noncomputable def b16:List S:=[.asg 2 (.bin .mul (.lst [.con .non]) (.idx ↑0 ⇑0)),.sy 2 ↑1 ⇑0,.asg 3 (.con (.bl true)),.whl ↑3 [.asg 3 (.con (.bl false)),.gV (.idx ↑0 ⇑1) [4] true [.ifs (.and (.cmp .gt (.idx ↑4 ⇑2) ⇑0) (.cmp .Eo (.idx ↑2 (.idx ↑4 ⇑0)) (.con .non))) [.asg 5 (.bin .add (.idx ↑2 (.idx ↑4 ⇑0)) (.idx ↑4 ⇑3)),.ifs (.or (.cmp .Yy (.idx ↑2 (.idx ↑4 ⇑1)) (.con .non)) (.cmp .lt ↑5 (.idx ↑2 (.idx ↑4 ⇑1)))) [.sy 2 (.idx ↑4 ⇑1) ↑5,.asg 3 (.con (.bl true))] []] []]],.ret ↑2]
def f16:Fd:=⟨2,6,b16⟩
theorem ace:aD ["net","start","hours","changed","way","come"] ["net","start"] (au s16):=nofun
include cl in
theorem d16(Fu:eG K "hours_from" "hours_from" s16 f fd):↥(["net","start"],2,f16):=by
 exists Fu,ace,0,0;refine aJ ?_ ?_;.exists 2,aA il (cA (cM lE aK rfl)) (ak (sv 0) aa)
 lia;.exact(iZ (k:=2) rfl (by ac_rfl) (sv 1) aa)
 lia;.exists 3,fJ
 lia;.exact(ni PassesOwn.never (gD (sv 3)) (by lia;(· exists 3,fJ);(· lia;(· exists 4,bW (ak (sv 0) aa),0;(· lia;(· exists cJ ?_ ?_ ?_;exact SW.st (u6 (aX iW (ak (sv 4) aa) aa (aP _)) (pA (aX vq (ak (sv 2) (ak (sv 4) aa)) lE (aP _))));(· lia;(· exists 5,aA bf (ak (sv 2) (ak (sv 4) aa)) (ak (sv 4) aa));(· lia;(· exists cJ ?_ ?_ ?_;exact SW.st (kJ (aX Fy (ak (sv 2) (ak (sv 4) aa)) lE (aP _)) (je (aX (gJ (aR hr)) (sv 5) (ak (sv 2) (ak (sv 4) aa)) (aP _))));(· lia;exact iZ (k:=2) rfl (by ac_rfl) (ak (sv 4) aa) (sv 5);(· lia;(· exists 3,fJ);exact aq));exact aq);exact aq));exact aq);exact aq));exact aq)))
 lia;.exists(),sv 2
 exact aq
abbrev s17:Stmt:=top 27
noncomputable def b17:List S:=[.ret (.blt .Nz [.call 16 [.call 15 [↑0],.bin .sub (.bin .sub (.idx ↑0 ⇑0) ⇑1) ↑1]])]
def f17:Fd:=⟨2,2,b17⟩
theorem acr:aD ["net","place"] ["net","place"] (au s17):=nofun
include cl in
theorem d17(Fu:eG K "hours_to" "hours_to" s17 f fd)(eZ:mg "list"=none)(fc:mg "reversed"=none)(vK:↥(16,"hours_from",2,0))(jo:↥(15,"turned_net",1,0)):↥(["net","place"],2,f17):=by
 exists Fu,acr,0,0;refine aJ ?_ ?_;.exists(),yp rfl rfl hc (by rfl) eZ (by rfl) fc (cN vK hr (aZ (cN jo hr (aZ (sv 0) az rfl)) (aZ (aA bK (aA bK (ak (sv 0) aa) aa) (sv 1)) az rfl) rfl))
 exact aq
abbrev s18:Stmt:=top 28
noncomputable def b18:List S:=[.ret (.and (.cmp .gt (.idx ↑0 ⇑2) ⇑0) (.and (.cmp .Eo (.idx ↑1 (.idx ↑0 ⇑1)) (.con .non)) (.cmp .eq (.bin .add (.idx ↑0 ⇑3) (.idx ↑1 (.idx ↑0 ⇑1))) (.idx ↑1 (.idx ↑0 ⇑0)))))]
def Ss:Fd:=⟨2,2,b18⟩
theorem adv:aD ["way","left"] ["way","left"] (au s18):=nofun
include cl in
theorem d18(Fu:eG K "is_soonest_step" "is_soonest_step" s18 f fd):↥(["way","left"],2,Ss):=by
 exists Fu,adv,0,0;refine aJ ?_ ?_;.exists(),jQ (dU iW (ak (sv 0) aa) aa (aP _)) (jQ (dU vq (ak (sv 1) (ak (sv 0) aa)) lE (aP _)) (mU (dU (cW (aR hr)) (aA bf (ak (sv 0) aa) (ak (sv 1) (ak (sv 0) aa))) (ak (sv 1) (ak (sv 0) aa)) (aP _)))).ev
 exact aq
abbrev s19:Stmt:=top 29
noncomputable def b19:List S:=[.ifs (.not (.chain .le .lt ⇑0 ↑1 (.idx ↑0 ⇑0))) [.bad] [],.asg 2 (.call 17 [↑0,↑1]),.ifs (.cmp .Yy (.idx ↑2 ⇑0) (.con .non)) [.bad] [],.asg 3 (.lst []),.asg 4 ⇑0,.whl (.cmp .ne ↑4 ↑1) [.asg 5 (.blt .vH [.comp (.call 9 [↑0,↑4]) 1 [6] true (some (.call 18 [.idx (.idx ↑0 ⇑1) ↑6,↑2])) ↑6]),.app 3 ↑5,.asg 4 (.idx (.idx (.idx ↑0 ⇑1) ↑5) ⇑1)],.ret (.blt .tuple [↑3])]
def Z3:Fd:=⟨2,6,b19⟩
theorem acB:aD ["net","place","left","walk","here","step"] ["net","place"] (au s19):=nofun
include cl in
theorem d19(Fu:eG K "soonest_walk" "soonest_walk" s19 f fd)(gO:mg "min"=none)(bA:mg "tuple"=none)(Ab:↥(17,"hours_to",2,0))(m5:↥(18,"is_soonest_step",2,0))(lG:↥(9,"ways_out",2,0)):↥(["net","place"],2,Z3):=by
 exists Fu,acB,0,0;refine aJ ?_ ?_;.exists cJ ?_ ?_ ?_;exact jd (mJ lz (gJ (aR hr)) aa (sv 1) (ak (sv 0) aa));(· lia;exact ou;exact aq);exact aq
 lia;.exists fU (i:=2) ?_ ?_ ?_ ?_ ?_ ?_;exact nd;exact rfl;exact Or.inr rfl;rotate_left;rfl;exact oi;exact cN Ab hr (aZ (sv 0) (aZ (sv 1) az rfl) rfl)
 lia;.exists cJ ?_ ?_ ?_;exact aX Fy (ak (sv 2) aa) lE (aP _);(· lia;exact ou;exact aq);exact aq
 lia;.exists 3,cA aK
 lia;.exists 4,aa
 lia;.exact(ni PassesOwn.never (aX (jj (aR hr)) (sv 4) (sv 1) (aP _)) (by lia;(· exists 5,mV rfl hc (by rfl) gO (bT (N':=["net","place","left","walk","here","step","number"]) hc (oK rfl (by rfl)) (bW (cN lG hr (aZ (sv 0) (aZ (sv 4) az rfl) rfl))) ⇑(aF (i:=6) ‹["net","place","left","walk","here","step","number"]› rfl (Or.inl rfl) (Or.inr rfl)) (bR (cR)) ⇑(ie (gD (cN m5 hr (aZ (ak (ak (sv 0) aa) (sv 6)) (aZ (sv 2) az rfl) rfl)))) ⇑((sv 6))));(· lia;exact bQ (k:=3) rfl (by ac_rfl) (sv 5);(· lia;(· exists 4,ak (ak (ak (sv 0) aa) (sv 5)) aa);exact aq))))
 lia;.exists(),dW rfl (by rfl) bA (sv 3)
 exact aq
abbrev s20:Stmt:=top 30
noncomputable def b20:List S:=[.asg 2 (.lst []),.gV ↑1 [3] true [.ifs (.or (.not (.chain .le .lt ⇑0 ↑3 (.blt .len [.idx ↑0 ⇑1]))) (.cmp .lt (.idx (.idx (.idx ↑0 ⇑1) ↑3) ⇑2) ⇑1)) [.bad] [],.asg 4 (.idx (.idx ↑0 ⇑1) ↑3),.ifs (.cmp .eq (.blt .len [↑2]) ⇑0) [.app 2 (.idx ↑4 ⇑0)] [],.ifs (.or (.cmp .ne (.idx ↑4 ⇑0) (.idx ↑2 (.neg ⇑1))) (.cmp .inn (.idx ↑4 ⇑1) ↑2)) [.bad] [],.app 2 (.idx ↑4 ⇑1)],.ret (.blt .tuple [↑2])]
def Z4:Fd:=⟨2,5,b20⟩
theorem ad7:aD ["net","walk","places","number","way"] ["net","walk"] (au s20):=nofun
include cl in
theorem d20(Fu:eG K "walk_places" "walk_places" s20 f fd)(bL:mg "len"=none)(bA:mg "tuple"=none):↥(["net","walk"],2,Z4):=by
 exists Fu,ad7,0,0;refine aJ ?_ ?_;.exists 2,cA aK
 lia;.exists 3,bW (sv 1),0;(· lia;(· exists cJ ?_ ?_ ?_;exact SW.st (kJ (jd (mJ lz (gJ (aR hr)) aa (sv 3) (dB rfl (by rfl) bL (ak (sv 0) aa)))) (je (aX (gJ (aR hr)) (ak (ak (ak (sv 0) aa) (sv 3)) aa) aa (aP _))));(· lia;exact ou;exact aq);exact aq);(· lia;(· exists 4,ak (ak (sv 0) aa) (sv 3));(· lia;(· exists cJ ?_ ?_ ?_;exact aX (cW (aR hr)) (dB rfl (by rfl) bL (sv 2)) aa (aP _);(· lia;exact bQ (k:=2) rfl (by ac_rfl) (ak (sv 4) aa);exact aq);exact aq);(· lia;(· exists cJ ?_ ?_ ?_;exact SW.st (kJ (aX (jj (aR hr)) (ak (sv 4) aa) (ak (sv 2) (lA aa)) (aP _)) (je (aX pQ (ak (sv 4) aa) (sv 2) (by with_unfolding_all rfl))));(· lia;exact ou;exact aq);exact aq);(· lia;exact bQ (k:=2) rfl (by ac_rfl) (ak (sv 4) aa);exact aq)))))
 lia;.exists(),dW rfl (by rfl) bA (sv 2)
 exact aq
abbrev s21:Stmt:=top 32
noncomputable def b21:List S:=[.asg 3 (.blt .sum [.comp (.call 10 [↑0,↑2]) 1 [4] true none (.idx ↑1 ↑4)]),.ret (.bin .sub ↑3 (.blt .sum [.comp (.call 9 [↑0,↑2]) 1 [4] true none (.idx ↑1 ↑4)]))]
def Vo:Fd:=⟨3,4,b21⟩
theorem adO:aD ["net","stream","place","come"] ["net","stream","place"] (au s21):=nofun
include cl in
theorem d21(Fu:eG K "stays_at" "stays_at" s21 f fd)(iU:mg "sum"=none)(Ew:↥(10,"ways_in",2,0))(lG:↥(9,"ways_out",2,0)):↥(["net","stream","place"],3,Vo):=by
 exists Fu,adO,0,0;refine aJ ?_ ?_;.exists 3,p6 rfl hc (by rfl) iU (bT (N':=["net","stream","place","come","number"]) hc (oK rfl (by rfl)) (bW (cN Ew hr (aZ (sv 0) (aZ (sv 2) az rfl) rfl))) ⇑(aF (i:=4) ‹["net","stream","place","come","number"]› rfl (Or.inl rfl) (Or.inr rfl)) (bR (cR)) ⇑(cI) ⇑((ak (sv 1) (sv 4))))
 lia;.exists(),aA bK (sv 3) (p6 rfl hc (by rfl) iU (bT (N':=["net","stream","place","come","number"]) hc (oK rfl (by rfl)) (bW (cN lG hr (aZ (sv 0) (aZ (sv 2) az rfl) rfl))) ⇑(aF (i:=4) ‹["net","stream","place","come","number"]› rfl (Or.inl rfl) (Or.inr rfl)) (bR (cR)) ⇑(cI) ⇑((ak (sv 1) (sv 4)))))
 exact aq
abbrev s22:Stmt:=top 33
noncomputable def b22:List S:=[.ret (.neg (.call 21 [↑0,↑1,⇑0]))]
def Up:Fd:=⟨2,2,b22⟩
theorem adQ:aD ["net","stream"] ["net","stream"] (au s22):=nofun
include cl in
theorem d22(Fu:eG K "stream_rate" "stream_rate" s22 f fd)(lH:↥(21,"stays_at",3,0)):↥(["net","stream"],2,Up):=by
 exists Fu,adQ,0,0;refine aJ ?_ ?_;.exists(),lA (cN lH hr (aZ (sv 0) (aZ (sv 1) (aZ aa az rfl) rfl) rfl))
 exact aq
abbrev s23:Stmt:=top 34
noncomputable def b23:List S:=[.ret (.blt .all [.comp (.zip ↑1 (.idx ↑0 ⇑1)) 2 [2,3] false none (.chain .le .le ⇑0 ↑2 (.idx ↑3 ⇑2))])]
def f23:Fd:=⟨2,2,b23⟩
theorem acw:aD ["net","stream"] ["net","stream"] (au s23):=nofun
include cl in
theorem d23(Fu:eG K "within_rooms" "within_rooms" s23 f fd)(ju:mg "all"=none)(mZ:mg "zip"=none):↥(["net","stream"],2,f23):=by
 exists Fu,acw,0,0;refine aJ ?_ ?_;.exists(),vB rfl hc (by rfl) ju (bT (N':=["net","stream","loads","way"]) hc (oK rfl (by rfl)) (Hy rfl (by rfl) mZ (sv 1) (ak (sv 0) aa)) ⇑(eX hc (aY (aF (i:=2) ‹["net","stream","loads","way"]› rfl (Or.inl rfl) (Or.inr rfl)) (aY (aF (i:=3) ‹["net","stream","loads","way"]› rfl (Or.inl rfl) (Or.inr rfl)) dm))) (ik rfl (cg (show 2<=2 by decide) (cg (show 2<=3 by decide) ig))) ⇑(cI) ⇑((JG lz lz aa (sv 2) (ak (sv 3) aa))))
 exact aq
abbrev s24:Stmt:=top 35
noncomputable def b24:List S:=[.ifs (.or (.cmp .ne (.blt .len [↑1]) (.blt .len [.idx ↑0 ⇑1])) (.not (.call 23 [↑0,↑1]))) [.ret (.con (.bl false))] [],.ifs (.cmp .lt (.call 22 [↑0,↑1]) ⇑0) [.ret (.con (.bl false))] [],.ret (.blt .all [.comp (.rQ ⇑1 (.bin .sub (.idx ↑0 ⇑0) ⇑1)) 1 [2] true none (.cmp .eq (.call 21 [↑0,↑1,↑2]) ⇑0)])]
def Wn:Fd:=⟨2,2,b24⟩
theorem acu:aD ["net","stream"] ["net","stream"] (au s24):=nofun
include cl in
theorem d24(Fu:eG K "stream_right" "stream_right" s24 f fd)(ju:mg "all"=none)(bL:mg "len"=none)(bj:mg "range"=none)(lH:↥(21,"stays_at",3,0))(bI:↥(22,"stream_rate",2,0))(gP:↥(23,"within_rooms",2,0)):↥(["net","stream"],2,Wn):=by
 exists Fu,acu,0,0;refine aJ ?_ ?_;.exists cJ ?_ ?_ ?_;exact SW.st (kJ (aX (jj (aR hr)) (dB rfl (by rfl) bL (sv 1)) (dB rfl (by rfl) bL (ak (sv 0) aa)) (aP _)) (je (jd (gD (cN gP hr (aZ (sv 0) (aZ (sv 1) az rfl) rfl))))));(· lia;(· exists(),fJ);exact aq);exact aq
 lia;.exists cJ ?_ ?_ ?_;exact aX (gJ (aR hr)) (cN bI hr (aZ (sv 0) (aZ (sv 1) az rfl) rfl)) aa (aP _);(· lia;(· exists(),fJ);exact aq);exact aq
 lia;.exists(),vB rfl hc (by rfl) ju (bT (N':=["net","stream","place"]) hc (oK rfl (by rfl)) (Am rfl (by rfl) bj aa (aA bK (ak (sv 0) aa) aa)) ⇑(aF (i:=2) ‹["net","stream","place"]› rfl (Or.inl rfl) (Or.inr rfl)) (bR (cR)) ⇑(cI) ⇑((dU (cW (aR hr)) (cN lH hr (aZ (sv 0) (aZ (sv 1) (aZ (sv 2) az rfl) rfl) rfl)) aa (aP _))))
 exact aq
abbrev s25:Stmt:=top 36
noncomputable def b25:List S:=[.ret (.and (.call 8 [↑1]) (.and (.cmp .eq (.slice ↑1 (.con .non) ⇑1) (.tup [⇑0])) (.cmp .lt (.idx ↑1 (.neg ⇑1)) (.bin .sub (.idx ↑0 ⇑0) ⇑1))))]
def f25:Fd:=⟨2,2,b25⟩
theorem acs:aD ["net","side"] ["net","side"] (au s25):=nofun
include cl in
theorem d25(Fu:eG K "side_right" "side_right" s25 f fd)(yg:↥(8,"is_rising",1,0)):↥(["net","side"],2,f25):=by
 exists Fu,acs,0,0;refine aJ ?_ ?_;.exists(),jQ (cN yg hr (aZ (sv 1) az rfl)) (jQ (dU (cW (aR hr)) (dO (sv 1) gf (fY aa)) (bF (cM aa aK rfl)) (aP _)) (mU (dU (gJ (aR hr)) (ak (sv 1) (lA aa)) (aA bK (ak (sv 0) aa) aa) (aP _)))).ev
 exact aq
abbrev s26:Stmt:=top 37
noncomputable def b26:List S:=[.ret (.blt .sum [.comp (.idx ↑0 ⇑1) 1 [2] true (some (.and (.cmp .inn (.idx ↑2 ⇑0) ↑1) (.cmp .rJ (.idx ↑2 ⇑1) ↑1))) (.idx ↑2 ⇑2)])]
def Zg:Fd:=⟨2,2,b26⟩
theorem adM:aD ["net","side"] ["net","side"] (au s26):=nofun
include cl in
theorem d26(Fu:eG K "side_room" "side_room" s26 f fd)(iU:mg "sum"=none):↥(["net","side"],2,Zg):=by
 exists Fu,adM,0,0;refine aJ ?_ ?_;.exists(),p6 rfl hc (by rfl) iU (bT (N':=["net","side","way"]) hc (oK rfl (by rfl)) (bW (ak (sv 0) aa)) ⇑(aF (i:=2) ‹["net","side","way"]› rfl (Or.inl rfl) (Or.inr rfl)) (bR (cR)) ⇑(ie (SW.st (u6 (aX pQ (ak (sv 2) aa) (sv 1) (by with_unfolding_all rfl)) (pA (aX nD (ak (sv 2) aa) (sv 1) (by with_unfolding_all rfl)))))) ⇑((ak (sv 2) aa)))
 exact aq
abbrev s27:Stmt:=top 38
noncomputable def b27:List S:=[.ifs (.con (.bl true)) [.asg 3 (.call 20 [↑0,↑1])] [],.ret (.and (.cmp .ge ↑2 ⇑1) (.and (.cmp .eq (.slice ↑3 (.con .non) ⇑1) (.tup [⇑0])) (.cmp .eq (.slice ↑3 (.neg ⇑1) (.con .non)) (.tup [.bin .sub (.idx ↑0 ⇑0) ⇑1]))))]
def f27:Fd:=⟨3,4,b27⟩
theorem ady:aD ["net","walk","loads","places"] ["net","walk","loads"] (au s27):=nofun
include cl in
theorem d27(Fu:eG K "is_round" "is_round" s27 f fd)(sE:↥(20,"walk_places",2,0)):↥(["net","walk","loads"],3,f27):=by
 exists Fu,ady,0,0;refine aJ ?_ ?_;.exact(Lr (fun _ _ hp=>(by lia;(· exists 3,cN sE hr (aZ (sv 0) (aZ (sv 1) az rfl) rfl));exact aq)))
 lia;.exists(),jQ (dU Ip (sv 2) aa (aP _)) (jQ (dU (cW (aR hr)) (dO (sv 3) gf (fY aa)) (bF (cM aa aK rfl)) (aP _)) (mU (dU (cW (aR hr)) (dO (sv 3) (fY (lA aa)) gf) (bF (cM (aA bK (ak (sv 0) aa) aa) aK rfl)) (aP _)))).ev
 exact aq
abbrev s28:Stmt:=top 39
noncomputable def b28:List S:=[.ret (.comp (.rQ ⇑0 (.blt .len [.idx ↑0 ⇑1])) 1 [2] true none (.blt .sum [.comp ↑1 2 [3,4] false (some (.cmp .inn ↑2 ↑3)) ↑4]))]
def f28:Fd:=⟨2,2,b28⟩
theorem adV:aD ["net","rounds"] ["net","rounds"] (au s28):=nofun
include cl in
theorem d28(Fu:eG K "rounds_stream" "rounds_stream" s28 f fd)(bL:mg "len"=none)(bj:mg "range"=none)(iU:mg "sum"=none):↥(["net","rounds"],2,f28):=by
 exists Fu,adV,0,0;refine aJ ?_ ?_;.exists(),bT (N':=["net","rounds","number"]) hc (oK rfl (by rfl)) (gh rfl (by rfl) bj (dB rfl (by rfl) bL (ak (sv 0) aa))) ⇑(aF (i:=2) ‹["net","rounds","number"]› rfl (Or.inr rfl) (Or.inl rfl)) (bR (cR)) ⇑(cI) ⇑((p6 rfl hc (by rfl) iU (bT (N':=["net","rounds","number","walk","loads"]) hc (oK rfl (by rfl)) (bW (sv 1)) ⇑(eX hc (aY (aF (i:=3) ‹["net","rounds","number","walk","loads"]› rfl (Or.inl rfl) (Or.inr rfl)) (aY (aF (i:=4) ‹["net","rounds","number","walk","loads"]› rfl (Or.inl rfl) (Or.inr rfl)) dm))) (ik rfl (cg (show 3<=3 by decide) (cg (show 3<=4 by decide) ig))) ⇑(ie (aX pQ (sv 2) (sv 3) (by with_unfolding_all rfl))) ⇑((sv 4)))))
 exact aq
abbrev s29:Stmt:=top 40
noncomputable def b29:List S:=[.ifs (.not (.blt .all [.comp ↑1 2 [2,3] false none (.call 27 [↑0,↑2,↑3])])) [.ret (.con (.bl false))] [],.ret (.call 23 [↑0,.call 28 [↑0,↑1]])]
def Zc:Fd:=⟨2,2,b29⟩
theorem aea:aD ["net","rounds"] ["net","rounds"] (au s29):=nofun
include cl in
theorem d29(Fu:eG K "rounds_fit" "rounds_fit" s29 f fd)(ju:mg "all"=none)(Ac:↥(27,"is_round",3,0))(fW:↥(28,"rounds_stream",2,0))(gP:↥(23,"within_rooms",2,0)):↥(["net","rounds"],2,Zc):=by
 exists Fu,aea,0,0;refine aJ ?_ ?_;.exists cJ ?_ ?_ ?_;exact jd (gD (vB rfl hc (by rfl) ju (bT (N':=["net","rounds","walk","loads"]) hc (oK rfl (by rfl)) (bW (sv 1)) ⇑(eX hc (aY (aF (i:=2) ‹["net","rounds","walk","loads"]› rfl (Or.inl rfl) (Or.inr rfl)) (aY (aF (i:=3) ‹["net","rounds","walk","loads"]› rfl (Or.inl rfl) (Or.inr rfl)) dm))) (ik rfl (cg (show 2<=2 by decide) (cg (show 2<=3 by decide) ig))) ⇑(cI) ⇑((cN Ac hr (aZ (sv 0) (aZ (sv 2) (aZ (sv 3) az rfl) rfl) rfl))))));(· lia;(· exists(),fJ);exact aq);exact aq
 lia;.exists(),cN gP hr (aZ (sv 0) (aZ (cN fW hr (aZ (sv 0) (aZ (sv 1) az rfl) rfl)) az rfl) rfl)
 exact aq
abbrev s30:Stmt:=top 41
noncomputable def b30:List S:=[.asg 2 (.yc 1 (.idx ↑0 ⇑1) 2 [3,4] false none (.tup [.idx ↑3 ⇑0,.idx ↑3 ⇑1,↑4,.idx ↑3 ⇑3])),.ret (.tup [.idx ↑0 ⇑0,.blt .tuple [↑2]])]
def f30:Fd:=⟨2,3,b30⟩
theorem acS:aD ["net","rooms","ways"] ["net","rooms"] (au s30):=nofun
include cl in
theorem d30(Fu:eG K "with_rooms" "with_rooms" s30 f fd)(bA:mg "tuple"=none)(mZ:mg "zip"=none):↥(["net","rooms"],2,f30):=by
 exists Fu,acS,0,0;refine aJ ?_ ?_;.exact(MJ (i:=2) (N':=["net","rooms","ways","way","room"]) hc nd rfl oi (oK rfl (by rfl)) (Nb (i:=1) rfl (by rfl) mZ rfl (ak (sv 0) aa) (sv 1)) ⇑(eX hc (aY (aF (i:=3) ‹["net","rooms","ways","way","room"]› rfl (Or.inl rfl) (Or.inr rfl)) (aY (aF (i:=4) ‹["net","rooms","ways","way","room"]› rfl (Or.inl rfl) (Or.inr rfl)) dm))) (ik rfl (cg (show 3<=3 by decide) (cg (show 3<=4 by decide) ig))) ⇑(cI) ⇑((bF (cM (ak (sv 3) aa) (cM (ak (sv 3) aa) (cM (sv 4) (cM (ak (sv 3) aa) aK rfl) rfl) rfl) rfl))) (by rfl) (by intro _;rfl) (Or.inl rfl))
 lia;.exists(),bF (cM (ak (sv 0) aa) (cM (dW rfl (by rfl) bA (sv 2)) aK rfl) rfl)
 exact aq
abbrev s31:Stmt:=top 42
noncomputable def b31:List S:=[.asg 2 (.blt .list [↑1]),.asg 3 (.call 22 [↑0,↑1]),.asg 4 (.lst []),.whl (.cmp .gt ↑3 ⇑0) [.asg 5 (.call 19 [.call 30 [↑0,↑2],.bin .sub (.idx ↑0 ⇑0) ⇑1]),.asg 6 (.blt .vH [.bin .add (.lst [↑3]) (.comp ↑5 1 [8] true none (.idx ↑2 ↑8))]),.gV ↑5 [7] true [.Ep 2 ↑7 true ↑6],.aug 3 true ↑6,.app 4 (.tup [↑5,↑6])],.ret ↑4]
def f31:Fd:=⟨2,8,b31⟩
theorem abm:aD ["net","stream","left","rate","rounds","walk","loads","number"] ["net","stream"] (au s31):=nofun
include cl in
theorem d31(Fu:eG K "stream_rounds" "stream_rounds" s31 f fd)(eZ:mg "list"=none)(gO:mg "min"=none)(rK:↥(19,"soonest_walk",2,0))(bI:↥(22,"stream_rate",2,0))(vL:↥(30,"with_rooms",2,0)):↥(["net","stream"],2,f31):=by
 exists Fu,abm,0,0;refine aJ ?_ ?_;.exists fU (i:=2) ?_ ?_ ?_ ?_ ?_ ?_;exact nd;exact rfl;exact Or.inr rfl;rotate_left;rfl;exact oi;exact Bc rfl (by rfl) eZ (sv 1)
 lia;.exists 3,cN bI hr (aZ (sv 0) (aZ (sv 1) az rfl) rfl)
 lia;.exists 4,cA aK
 lia;.exact(ni PassesOwn.never (aX iW (sv 3) aa (aP _)) (by lia;(· exists 5,cN rK hr (aZ (cN vL hr (aZ (sv 0) (aZ (sv 2) az rfl) rfl)) (aZ (aA bK (ak (sv 0) aa) aa) az rfl) rfl));(· lia;(· exists 6,mV rfl hc (by rfl) gO (aA bf (cA (cM (sv 3) aK rfl)) (bT (N':=["net","stream","left","rate","rounds","walk","loads","number#7","number"]) hc (oK rfl (by rfl)) (bW (sv 5)) ⇑(aF (i:=8) ‹["net","stream","left","rate","rounds","walk","loads","number#7","number"]› rfl (Or.inl rfl) (Or.inr rfl)) (bR (cR)) ⇑(cI) ⇑((ak (sv 2) (sv 8))))));(· lia;(· exists 7,bW (sv 5),0;(· lia;exact Bp (k:=2) (sub:=true) BK rfl (by ac_rfl) (sv 7) (sv 6);exact aq));(· lia;exact Qi (i:=3) (sub:=true) BK nd rfl oi (sv 6) (Or.inl rfl);(· lia;exact bQ (k:=4) rfl (by ac_rfl) (bF (cM (sv 5) (cM (sv 6) aK rfl) rfl));exact aq))))))
 lia;.exists(),sv 4
 exact aq
abbrev s32:Stmt:=top 44
noncomputable def b32:List S:=[.ret (.tup [.idx ↑0 ⇑0,.blt .tuple [.comp (.idx ↑0 ⇑1) 1 [1] true none (.tup [.idx ↑1 ⇑0,.idx ↑1 ⇑1,.idx ↑1 ⇑2,⇑0])]])]
def ZK:Fd:=⟨1,1,b32⟩
theorem ad1:aD ["net"] ["net"] (au s32):=nofun
include cl in
theorem d32(Fu:eG K "hourless_net" "hourless_net" s32 f fd)(bA:mg "tuple"=none):↥(["net"],1,ZK):=by
 exists Fu,ad1,0,0;refine aJ ?_ ?_;.exists(),bF (cM (ak (sv 0) aa) (cM (dW rfl (by rfl) bA (bT (N':=["net","way"]) hc (oK rfl (by rfl)) (bW (ak (sv 0) aa)) ⇑(aF (i:=1) ‹["net","way"]› rfl (Or.inl rfl) (Or.inr rfl)) (bR (cR)) ⇑(cI) ⇑((bF (cM (ak (sv 1) aa) (cM (ak (sv 1) aa) (cM (ak (sv 1) aa) (cM aa aK rfl) rfl) rfl) rfl))))) aK rfl) rfl)
 exact aq
abbrev s33:Stmt:=top 45
noncomputable def b33:List S:=[.asg 1 (.call 32 [↑0]),.asg 2 (.bin .mul (.lst [⇑0]) (.blt .len [.idx ↑0 ⇑1])),.gV (.call 7 [↑1]) [3,4] false [.asg 2 (.call 6 [↑2,↑3,↑4])],.asg 5 (.blt .tuple [.blt .oE [.call 4 [↑1,↑2,.xZ 0 0]]]),.ret (.tup [.call 22 [↑0,↑2],↑2,↑5])]
def f33:Fd:=⟨1,6,b33⟩
theorem aef:aD ["net","hourless","stream","steps","loads","side"] ["net"] (au s33):=nofun
include cl in
theorem d33(Fu:eG K "fullest_stream" "fullest_stream" s33 f fd)(bL:mg "len"=none)(rM:mg "sorted"=none)(bA:mg "tuple"=none)(o8:↥(7,"chains_to_end",1,0))(rN:↥(32,"hourless_net",1,0))(dH:↥(4,"shortest_come",3,0))(bI:↥(22,"stream_rate",2,0))(iC:↥(6,"stream_with",3,0)):↥(["net"],1,f33):=by
 exists Fu,aef,0,0;refine aJ ?_ ?_;.exists 1,cN rN hr (aZ (sv 0) az rfl)
 lia;.exists 2,aA il (cA (cM aa aK rfl)) (dB rfl (by rfl) bL (ak (sv 0) aa))
 lia;.exact(rE PassesOwn.never hc (bW (cN o8 hr (aZ (sv 1) az rfl))) (eX hc (aY (aF (i:=3) nd rfl oi oi) (aY (aF (i:=4) nd rfl oi oi) dm))) (qR rfl (dg _ _ (dg _ _ mD 4) 3)) (by lia;(· exists 2,cN iC hr (aZ (sv 2) (aZ (sv 3) (aZ (sv 4) az rfl) rfl) rfl));exact aq))
 lia;.exists 5,dW rfl (by rfl) bA (Dm rfl hc (by rfl) rM (cN dH hr (aZ (sv 1) (aZ (sv 2) (aZ vA az rfl) rfl) rfl)))
 lia;.exists(),bF (cM (cN bI hr (aZ (sv 0) (aZ (sv 2) az rfl) rfl)) (cM (sv 2) (cM (sv 5) aK rfl) rfl) rfl)
 exact aq
abbrev s34:Stmt:=top 46
noncomputable def b34:List S:=[.ifs (.or (.not (.call 24 [↑0,.idx ↑1 ⇑1])) (.not (.call 25 [↑0,.idx ↑1 ⇑2]))) [.ret (.con (.bl false))] [],.ret (.and (.cmp .eq (.call 22 [↑0,.idx ↑1 ⇑1]) (.idx ↑1 ⇑0)) (.cmp .eq (.call 26 [↑0,.idx ↑1 ⇑2]) (.idx ↑1 ⇑0)))]
def Zr:Fd:=⟨2,2,b34⟩
theorem acb:aD ["net","told"] ["net","told"] (au s34):=nofun
include cl in
theorem d34(Fu:eG K "fullest_right" "fullest_right" s34 f fd)(vM:↥(25,"side_right",2,0))(yh:↥(26,"side_room",2,0))(bI:↥(22,"stream_rate",2,0))(rO:↥(24,"stream_right",2,0)):↥(["net","told"],2,Zr):=by
 exists Fu,acb,0,0;refine aJ ?_ ?_;.exists cJ ?_ ?_ ?_;exact SW.st (kJ (jd (gD (cN rO hr (aZ (sv 0) (aZ (ak (sv 1) aa) az rfl) rfl)))) (je (jd (gD (cN vM hr (aZ (sv 0) (aZ (ak (sv 1) aa) az rfl) rfl))))));(· lia;(· exists(),fJ);exact aq);exact aq
 lia;.exists(),jQ (dU (cW (aR hr)) (cN bI hr (aZ (sv 0) (aZ (ak (sv 1) aa) az rfl) rfl)) (ak (sv 1) aa) (aP _)) (mU (dU (cW (aR hr)) (cN yh hr (aZ (sv 0) (aZ (ak (sv 1) aa) az rfl) rfl)) (ak (sv 1) aa) (aP _)))
 exact aq
abbrev s35:Stmt:=top 48
noncomputable def b35:List S:=[.ret (.lst [.blt .max2 [⇑0,.bin .sub ↑0 (.bin .pow ⇑10 ⇑18)],.bin .mod ↑0 (.bin .pow ⇑10 ⇑18),⇑0])]
def ZV:Fd:=⟨1,1,b35⟩
theorem acf:aD ["cell"] ["cell"] (au s35):=nofun
include cl in
theorem d35(Fu:eG K "_law_pool" "_law_pool" s35 f fd)(rP:mg "max"=none):↥(["cell"],1,ZV):=by
 exists Fu,acf,0,0;refine aJ ?_ ?_;.exists(),cA (cM (Ku rfl hc (by rfl) rP (cM aa (cM (aA bK (sv 0) (aA jh aa aa)) aK rfl) rfl)) (cM (aA gW (sv 0) (aA jh aa aa)) (cM aa aK rfl) rfl) rfl)
 exact aq
abbrev s36:Stmt:=top 49
noncomputable def b36:List S:=[.ifs (.cmp .gt (.idx ↑0 ⇑0) ⇑0) [.asg 2 (.bin .mod (.idx ↑0 ⇑0) ↑1),.sy 0 ⇑0 (.bin .fdiv (.idx ↑0 ⇑0) ↑1),.ret ↑2] [],.sy 0 ⇑2 (.bin .add (.idx ↑0 ⇑2) ⇑1),.asg 3 (.bin .mod (.bin .add (.idx ↑0 ⇑1) (.bin .mul ⇑7919 (.idx ↑0 ⇑2))) ⇑1000000007),.asg 4 (.bin .mod (.bin .mul (.bin .add ↑3 ⇑11) (.bin .add ↑3 ⇑48271)) ⇑998244353),.ret (.bin .mod (.bin .fdiv (.bin .mod (.bin .mul ↑4 ↑4) ⇑2147483647) ⇑8) ↑1)]
def Ze:Fd:=⟨2,5,b36⟩
theorem acO:aD ["pool","base","digit","near","stir"] ["pool","base"] (au s36):=nofun
include cl in
theorem d36(Fu:eG K "_law_next" "_law_next" s36 f fd):↥(["pool","base"],2,Ze):=by
 exists Fu,acO,0,0;refine aJ ?_ ?_;.exists cJ ?_ ?_ ?_;exact aX iW (ak (sv 0) aa) aa (aP _);(· lia;(· exists 2,aA gW (ak (sv 0) aa) (sv 1));(· lia;exact iZ (k:=0) rfl (by ac_rfl) aa (aA wz (ak (sv 0) aa) (sv 1));(· lia;(· exists(),sv 2);exact aq)));exact aq
 lia;.exact(iZ (k:=0) rfl (by ac_rfl) aa (aA bf (ak (sv 0) aa) aa))
 lia;.exists 3,aA gW (aA bf (ak (sv 0) aa) (aA il aa (ak (sv 0) aa))) aa
 lia;.exists 4,aA gW (aA il (aA bf (sv 3) aa) (aA bf (sv 3) aa)) aa
 lia;.exists(),aA gW (aA wz (aA gW (aA il (sv 4) (sv 4)) aa) aa) (sv 1)
 exact aq
abbrev s37:Stmt:=top 50
noncomputable def b37:List S:=[.ifs (.cmp .gt (.idx ↑0 ⇑0) ⇑0) [.ret (.call 36 [↑0,↑1])] [],.asg 2 ⇑0,.gV (.rQ ⇑0 ⇑4) [3] true [.asg 2 (.bin .add (.bin .mul ↑2 (.bin .pow ⇑10 ⇑7)) (.call 36 [↑0,.bin .pow ⇑10 ⇑7]))],.ret (.bin .mod ↑2 ↑1)]
def f37:Fd:=⟨2,4,b37⟩
theorem acT:aD ["pool","base","found","k"] ["pool","base"] (au s37):=nofun
include cl in
theorem d37(Fu:eG K "_law_wide" "_law_wide" s37 f fd)(bj:mg "range"=none)(aN:↥(36,"_law_next",2,0)):↥(["pool","base"],2,f37):=by
 exists Fu,acT,0,0;refine aJ ?_ ?_;.exists cJ ?_ ?_ ?_;exact aX iW (ak (sv 0) aa) aa (aP _);(· lia;(· exists(),cN aN hr (aZ (sv 0) (aZ (sv 1) az rfl) rfl));exact aq);exact aq
 lia;.exists 2,aa
 lia;.exists 3,gh rfl (by rfl) bj aa,0;(· lia;(· exists 2,aA bf (aA il (sv 2) (aA jh aa aa)) (cN aN hr (aZ (sv 0) (aZ (aA jh aa aa) az rfl) rfl)));exact aq)
 lia;.exists(),aA gW (sv 2) (sv 1)
 exact aq
abbrev s38:Stmt:=top 51
noncomputable def b38:List S:=[.ifs (.cmp .eq (.call 36 [↑0,⇑3]) ⇑0) [.asg 4 (.call 36 [↑0,↑1]),.asg 5 (.bin .mod (.bin .add (.bin .add ↑4 ⇑1) (.call 36 [↑0,.bin .sub ↑1 ⇑1])) ↑1)] [.asg 4 (.call 36 [↑0,.bin .sub ↑1 ⇑1]),.asg 5 (.bin .add (.bin .add ↑4 ⇑1) (.call 36 [↑0,.bin .sub (.bin .sub ↑1 ⇑1) ↑4]))],.ret (.tup [↑4,↑5,.call 37 [↑0,.bin .add ↑2 ⇑1],.bin .add ⇑1 (.call 37 [↑0,↑3])])]
def f38:Fd:=⟨4,6,b38⟩
theorem ac8:aD ["pool","many","most","longest","start","to"] ["pool","many","most","longest"] (au s38):=nofun
include cl in
theorem d38(Fu:eG K "_law_way" "_law_way" s38 f fd)(aN:↥(36,"_law_next",2,0))(ir:↥(37,"_law_wide",2,0)):↥(["pool","many","most","longest"],4,f38):=by
 exists Fu,ac8,0,0;refine aJ ?_ ?_;.exists cJ ?_ ?_ ?_;exact aX (cW (aR hr)) (cN aN hr (aZ (sv 0) (aZ aa az rfl) rfl)) aa (aP _);(· lia;(· exists 4,cN aN hr (aZ (sv 0) (aZ (sv 1) az rfl) rfl));(· lia;(· exists 5,aA gW (aA bf (aA bf (sv 4) aa) (cN aN hr (aZ (sv 0) (aZ (aA bK (sv 1) aa) az rfl) rfl))) (sv 1));exact aq));(· lia;(· exists 4,cN aN hr (aZ (sv 0) (aZ (aA bK (sv 1) aa) az rfl) rfl));(· lia;(· exists 5,aA bf (aA bf (sv 4) aa) (cN aN hr (aZ (sv 0) (aZ (aA bK (aA bK (sv 1) aa) (sv 4)) az rfl) rfl)));exact aq))
 lia;.exists(),bF (cM (sv 4) (cM (sv 5) (cM (cN ir hr (aZ (sv 0) (aZ (aA bf (sv 2) aa) az rfl) rfl)) (cM (aA bf aa (cN ir hr (aZ (sv 0) (aZ (sv 3) az rfl) rfl))) aK rfl) rfl) rfl) rfl)
 exact aq
abbrev s39:Stmt:=top 52
noncomputable def b39:List S:=[.asg 3 (.bin .add ⇑2 (.call 36 [↑0,.bin .sub ↑1 ⇑1])),.asg 4 (.idx (.lst [⇑1,⇑3,⇑9,.bin .pow ⇑10 ⇑9]) (.call 36 [↑0,⇑4])),.asg 5 (.idx (.lst [⇑1,⇑2,⇑4,.bin .pow ⇑10 ⇑6]) (.call 36 [↑0,⇑4])),.asg 6 (.lst []),.gV (.rQ ⇑0 (.call 36 [↑0,.bin .add ↑2 ⇑1])) [7] true [.app 6 (.call 38 [↑0,↑3,↑4,↑5]),.ifs (.cmp .eq (.call 36 [↑0,⇑6]) ⇑0) [.sy 6 ↑7 (.idx ↑6 (.call 36 [↑0,.bin .add ↑7 ⇑1]))] []],.ret (.tup [↑3,.blt .tuple [↑6]])]
def ZP:Fd:=⟨3,8,b39⟩
theorem adg:aD ["pool","places","count","many","most","longest","ways","k"] ["pool","places","count"] (au s39):=nofun
include cl in
theorem d39(Fu:eG K "_law_net" "_law_net" s39 f fd)(bj:mg "range"=none)(bA:mg "tuple"=none)(aN:↥(36,"_law_next",2,0))(lJ:↥(38,"_law_way",4,0)):↥(["pool","places","count"],3,ZP):=by
 exists Fu,adg,0,0;refine aJ ?_ ?_;.exists 3,aA bf aa (cN aN hr (aZ (sv 0) (aZ (aA bK (sv 1) aa) az rfl) rfl))
 lia;.exists 4,ak (cA (ur [1,3,9] rfl (cM (aA jh aa aa) aK rfl))) (cN aN hr (aZ (sv 0) (aZ aa az rfl) rfl))
 lia;.exists 5,ak (cA (ur [1,2,4] rfl (cM (aA jh aa aa) aK rfl))) (cN aN hr (aZ (sv 0) (aZ aa az rfl) rfl))
 lia;.exists 6,cA aK
 lia;.exists 7,gh rfl (by rfl) bj (cN aN hr (aZ (sv 0) (aZ (aA bf (sv 2) aa) az rfl) rfl)),0;(· lia;exact bQ (k:=6) rfl (by ac_rfl) (cN lJ hr (aZ (sv 0) (aZ (sv 3) (aZ (sv 4) (aZ (sv 5) az rfl) rfl) rfl) rfl));(· lia;(· exists cJ ?_ ?_ ?_;exact aX (cW (aR hr)) (cN aN hr (aZ (sv 0) (aZ aa az rfl) rfl)) aa (aP _);(· lia;exact iZ (k:=6) rfl (by ac_rfl) (sv 7) (ak (sv 6) (cN aN hr (aZ (sv 0) (aZ (aA bf (sv 7) aa) az rfl) rfl)));exact aq);exact aq);exact aq))
 lia;.exists(),bF (cM (sv 3) (cM (dW rfl (by rfl) bA (sv 6)) aK rfl) rfl)
 exact aq
abbrev s40:Stmt:=top 53
noncomputable def b40:List S:=[.asg 5 (.lst []),.asg 6 ↑3,.gV (.rQ ⇑0 (.bin .add (.idx ↑1 ⇑0) ⇑2)) [7] true [.asg 8 (.comp (.rQ ⇑0 (.blt .len [↑2])) 1 [9] true (some (.and (.cmp .eq (.idx (.idx (.idx ↑1 ⇑1) ↑9) ⇑0) ↑6) (.cmp .gt (.idx ↑2 ↑9) ⇑0))) ↑9),.asg 8 (.comp ↑8 1 [9] true (some (.cmp .rJ ↑9 ↑5)) ↑9),.ifs (.cmp .eq ↑8 (.lst [])) [.ret (.lst [])] [],.app 5 (.idx ↑8 (.call 36 [↑0,.blt .len [↑8]])),.asg 6 (.idx (.idx (.idx ↑1 ⇑1) (.idx ↑5 (.neg ⇑1))) ⇑1),.ifs (.cmp .eq ↑6 ↑4) [.ret ↑5] []],.ret (.lst [])]
def ZG:Fd:=⟨5,9,b40⟩
theorem abQ:aD ["pool","net","left","start","goal","trail","place","turn","outs"] ["pool","net","left","start","goal"] (au s40):=nofun
include cl in
theorem d40(Fu:eG K "_law_trail" "_law_trail" s40 f fd)(bL:mg "len"=none)(bj:mg "range"=none)(aN:↥(36,"_law_next",2,0)):↥(["pool","net","left","start","goal"],5,ZG):=by
 exists Fu,abQ,0,0;refine aJ ?_ ?_;.exists fU (i:=5) ?_ ?_ ?_ ?_ ?_ ?_;exact nd;exact rfl;exact Or.inr rfl;rotate_left;rfl;exact oi;exact cA aK
 lia;.exists fU (i:=6) ?_ ?_ ?_ ?_ ?_ ?_;exact nd;exact rfl;exact Or.inr rfl;rotate_left;rfl;exact oi;exact sv 3
 lia;.exists 7,gh rfl (by rfl) bj (aA bf (ak (sv 1) aa) aa),0;(· lia;exact uZ (i:=8) (N':=["pool","net","left","start","goal","trail","place","turn","outs","k"]) hc nd rfl oi (oK rfl (by rfl)) (gh rfl (by rfl) bj (dB rfl (by rfl) bL (sv 2))) ⇑(aF (i:=9) ‹["pool","net","left","start","goal","trail","place","turn","outs","k"]› rfl (Or.inl rfl) (Or.inr rfl)) (bR (cR)) ⇑(ie (SW.st (u6 (aX (cW (aR hr)) (ak (ak (ak (sv 1) aa) (sv 9)) aa) (sv 6) (aP _)) (pA (aX iW (ak (sv 2) (sv 9)) aa (aP _)))))) ⇑((sv 9)) (by rfl) (by intro _;rfl) (Or.inl rfl);(· lia;exact uZ (i:=8) (N':=["pool","net","left","start","goal","trail","place","turn","outs","k"]) hc nd rfl oi (oK rfl (by rfl)) (bW (sv 8)) ⇑(aF (i:=9) ‹["pool","net","left","start","goal","trail","place","turn","outs","k"]› rfl (Or.inl rfl) (Or.inr rfl)) (bR (cR)) ⇑(ie (aX nD (sv 9) (sv 5) (by with_unfolding_all rfl))) ⇑((sv 9)) (by rfl) (by intro _;rfl) (Or.inl rfl);(· lia;(· exists cJ ?_ ?_ ?_;exact aX (cW (aR hr)) (sv 8) (cA aK) (aP _);(· lia;(· exists(),cA aK);exact aq);exact aq);(· lia;exact bQ (k:=5) rfl (by ac_rfl) (ak (sv 8) (cN aN hr (aZ (sv 0) (aZ (dB rfl (by rfl) bL (sv 8)) az rfl) rfl)));(· lia;(· exists fU (i:=6) ?_ ?_ ?_ ?_ ?_ ?_;exact nd;exact rfl;exact Or.inr rfl;rotate_left;rfl;exact oi;exact ak (ak (ak (sv 1) aa) (ak (sv 5) (lA aa))) aa);(· lia;(· exists cJ ?_ ?_ ?_;exact aX (cW (aR hr)) (sv 6) (sv 4) (aP _);(· lia;(· exists(),sv 5);exact aq);exact aq);exact aq))))))
 lia;.exists(),cA aK
 exact aq
abbrev s41:Stmt:=top 54
noncomputable def b41:List S:=[.asg 2 (.comp (.idx ↑1 ⇑1) 1 [11] true none (.idx ↑11 ⇑2)),.asg 3 (.bin .mul (.lst [⇑0]) (.blt .len [↑2])),.gV (.rQ ⇑0 (.bin .add ⇑1 (.call 36 [↑0,⇑6]))) [4] true [.par 5 6 ⇑0 (.bin .sub (.idx ↑1 ⇑0) ⇑1),.ifs (.cmp .eq (.call 36 [↑0,⇑4]) ⇑0) [.asg 5 (.call 36 [↑0,.idx ↑1 ⇑0]),.asg 6 ↑5] [],.asg 7 (.call 40 [↑0,↑1,↑2,↑5,↑6]),.ifs (.cmp .ne ↑7 (.lst [])) [.asg 8 (.blt .vH [.comp ↑7 1 [11] true none (.idx ↑2 ↑11)]),.asg 9 (.idx (.lst [↑8,.bin .add ⇑1 (.call 37 [↑0,↑8])]) (.call 36 [↑0,⇑2])),.gV ↑7 [10] true [.sy 2 ↑10 (.bin .sub (.idx ↑2 ↑10) ↑9),.sy 3 ↑10 (.bin .add (.idx ↑3 ↑10) ↑9)]] []],.ret ↑3]
def f41:Fd:=⟨2,11,b41⟩
theorem acQ:aD ["pool","net","left","stream","turn","start","goal","trail","most","loads","k"] ["pool","net"] (au s41):=nofun
include cl in
theorem d41(Fu:eG K "_law_stream" "_law_stream" s41 f fd)(bL:mg "len"=none)(gO:mg "min"=none)(bj:mg "range"=none)(aN:↥(36,"_law_next",2,0))(vN:↥(40,"_law_trail",5,0))(ir:↥(37,"_law_wide",2,0)):↥(["pool","net"],2,f41):=by
 exists Fu,acQ,0,0;refine aJ ?_ ?_;.exists fU (i:=2) ?_ ?_ ?_ ?_ ?_ ?_;exact nd;exact rfl;exact Or.inr rfl;rotate_left;rfl;exact oi;exact bT (N':=["pool","net","left","stream","turn","start","goal","trail","most","loads","k","way"]) hc (oK rfl (by rfl)) (bW (ak (sv 1) aa)) ⇑(aF (i:=11) ‹["pool","net","left","stream","turn","start","goal","trail","most","loads","k","way"]› rfl (Or.inl rfl) (Or.inr rfl)) (bR (cR)) ⇑(cI) ⇑((ak (sv 11) aa))
 lia;.exists 3,aA il (cA (cM aa aK rfl)) (dB rfl (by rfl) bL (sv 2))
 lia;.exists 4,gh rfl (by rfl) bj (aA bf aa (cN aN hr (aZ (sv 0) (aZ aa az rfl) rfl))),0;(· lia;exact Q4 (i:=5) (j:=6) hc nd rfl rfl (by decide) rfl rfl aa (aA bK (ak (sv 1) aa) aa);(· lia;(· exists cJ ?_ ?_ ?_;exact aX (cW (aR hr)) (cN aN hr (aZ (sv 0) (aZ aa az rfl) rfl)) aa (aP _);(· lia;(· exists 5,cN aN hr (aZ (sv 0) (aZ (ak (sv 1) aa) az rfl) rfl));(· lia;(· exists 6,sv 5);exact aq));exact aq);(· lia;(· exists 7,cN vN hr (aZ (sv 0) (aZ (sv 1) (aZ (sv 2) (aZ (sv 5) (aZ (sv 6) az rfl) rfl) rfl) rfl) rfl));(· lia;(· exists cJ ?_ ?_ ?_;exact aX (jj (aR hr)) (sv 7) (cA aK) (aP _);(· lia;(· exists 8,mV rfl hc (by rfl) gO (bT (N':=["pool","net","left","stream","turn","start","goal","trail","most","loads","k#10","k"]) hc (oK rfl (by rfl)) (bW (sv 7)) ⇑(aF (i:=11) ‹["pool","net","left","stream","turn","start","goal","trail","most","loads","k#10","k"]› rfl (Or.inl rfl) (Or.inr rfl)) (bR (cR)) ⇑(cI) ⇑((ak (sv 2) (sv 11)))));(· lia;(· exists 9,ak (cA (cM (sv 8) (cM (aA bf aa (cN ir hr (aZ (sv 0) (aZ (sv 8) az rfl) rfl))) aK rfl) rfl)) (cN aN hr (aZ (sv 0) (aZ aa az rfl) rfl)));(· lia;(· exists 10,bW (sv 7),0;(· lia;exact iZ (k:=2) rfl (by ac_rfl) (sv 10) (aA bK (ak (sv 2) (sv 10)) (sv 9));(· lia;exact iZ (k:=3) rfl (by ac_rfl) (sv 10) (aA bf (ak (sv 3) (sv 10)) (sv 9));exact aq)));exact aq)));exact aq);exact aq))))
 lia;.exists(),sv 3
 exact aq
abbrev s42:Stmt:=top 55
noncomputable def b42:List S:=[.asg 1 (.lst []),.gV (.rQ ⇑0 (.bin .shl ⇑1 (.bin .sub (.idx ↑0 ⇑0) ⇑2))) [2] true [.app 1 (.bin .add (.tup [⇑0]) (.blt .tuple [.comp (.rQ ⇑1 (.bin .sub (.idx ↑0 ⇑0) ⇑1)) 1 [3] true (some (.cmp .eq (.bin .band (.bin .shr ↑2 (.bin .sub ↑3 ⇑1)) ⇑1) ⇑1)) ↑3]))],.ret ↑1]
def Z5:Fd:=⟨1,3,b42⟩
theorem acp:aD ["net","found","bits"] ["net"] (au s42):=nofun
include cl in
theorem d42(Fu:eG K "_law_sides" "_law_sides" s42 f fd)(bj:mg "range"=none)(bA:mg "tuple"=none):↥(["net"],1,Z5):=by
 exists Fu,acp,0,0;refine aJ ?_ ?_;.exists 1,cA aK
 lia;.exists Bh (i:=2) ?_ ?_ ?_ ?_ ?_ ?_ ?_ ?_ ?_;exact PassesOwn.never;exact hc;exact nd;exact rfl;exact Or.inr rfl;exact gh rfl (by rfl) bj (aA Ln aa (aA bK (ak (sv 0) aa) aa));(· lia;exact bQ (k:=1) rfl (by ac_rfl) (aA bf (bF (cM aa aK rfl)) (dW rfl (by rfl) bA (bT (N':=["net","found","bits","place"]) hc (oK rfl (by rfl)) (Am rfl (by rfl) bj aa (aA bK (ak (sv 0) aa) aa)) ⇑(aF (i:=3) ‹["net","found","bits","place"]› rfl (Or.inl rfl) (Or.inr rfl)) (bR (cR)) ⇑(ie (aX (cW (aR hr)) (aA HB (aA LR (sv 2) (aA bK (sv 3) aa)) aa) aa (aP _))) ⇑((sv 3)))));exact aq);(· intro _;rfl);exact oi
 lia;.exists(),sv 1
 exact aq
abbrev s43:Stmt:=top 56
noncomputable def b43:List S:=[.asg 2 ⇑0,.gV (.idx ↑0 ⇑1) [3,4,5,6] false [.ifs (.and (.cmp .inn ↑3 ↑1) (.cmp .rJ ↑4 ↑1)) [.asg 2 (.bin .add ↑2 ↑5)] []],.ret ↑2]
def Zh:Fd:=⟨2,7,b43⟩
theorem acL:aD ["net","side","found","start","to","room","hours"] ["net","side"] (au s43):=nofun
include cl in
theorem d43(Fu:eG K "_law_side_room" "_law_side_room" s43 f fd):↥(["net","side"],2,Zh):=by
 exists Fu,acL,0,0;refine aJ ?_ ?_;.exists 2,aa
 lia;.exact(rE PassesOwn.never hc (bW (ak (sv 0) aa)) (eX hc (aY (aF (i:=3) nd rfl oi oi) (aY (aF (i:=4) nd rfl oi oi) (aY (aF (i:=5) nd rfl oi oi) (aY (aF (i:=6) nd rfl oi oi) dm))))) (qR rfl (dg _ _ (dg _ _ (dg _ _ (dg _ _ mD 6) 5) 4) 3)) (by lia;(· exists cJ ?_ ?_ ?_;exact SW.st (u6 (aX pQ (sv 3) (sv 1) (by with_unfolding_all rfl)) (pA (aX nD (sv 4) (sv 1) (by with_unfolding_all rfl))));(· lia;(· exists 2,aA bf (sv 2) (sv 5));exact aq);exact aq);exact aq))
 lia;.exists(),sv 2
 exact aq
abbrev s44:Stmt:=top 57
noncomputable def b44:List S:=[.ret (.blt .vH [.comp (.call 42 [↑0]) 1 [1] true none (.call 43 [↑0,↑1])])]
def Z7:Fd:=⟨1,1,b44⟩
theorem abw:aD ["net"] ["net"] (au s44):=nofun
include cl in
theorem d44(Fu:eG K "_law_least" "_law_least" s44 f fd)(gO:mg "min"=none)(oF:↥(43,"_law_side_room",2,0))(vO:↥(42,"_law_sides",1,0)):↥(["net"],1,Z7):=by
 exists Fu,abw,0,0;refine aJ ?_ ?_;.exists(),mV rfl hc (by rfl) gO (bT (N':=["net","side"]) hc (oK rfl (by rfl)) (bW (cN vO hr (aZ (sv 0) az rfl))) ⇑(aF (i:=1) ‹["net","side"]› rfl (Or.inl rfl) (Or.inr rfl)) (bR (cR)) ⇑(cI) ⇑((cN oF hr (aZ (sv 0) (aZ (sv 1) az rfl) rfl))))
 exact aq
abbrev s45:Stmt:=top 58
noncomputable def b45:List S:=[.unp [1,2,3] (.call 33 [↑0]),.asg 4 (.call 31 [↑0,↑2]),.ifs (.or (.cmp .JV (.call 29 [↑0,↑4]) (.con (.bl true))) (.cmp .ne (.blt .sum [.comp ↑4 2 [6,7] false none ↑7]) ↑1)) [.ret (.con (.bl false))] [],.asg 5 (.call 28 [↑0,↑4]),.ret (.and (.cmp .eq (.call 22 [↑0,↑5]) ↑1) (.cmp .Yz (.call 34 [↑0,.tup [↑1,↑5,↑3]]) (.con (.bl true))))]
def f45:Fd:=⟨1,6,b45⟩
theorem ab8:aD ["net","rate","stream","side","rounds","made"] ["net"] (au s45):=nofun
include cl in
theorem d45(Fu:eG K "_law_rounds_right" "_law_rounds_right" s45 f fd)(iU:mg "sum"=none)(o9:↥(34,"fullest_right",2,0))(cQ:↥(33,"fullest_stream",1,0))(vP:↥(29,"rounds_fit",2,0))(fW:↥(28,"rounds_stream",2,0))(bI:↥(22,"stream_rate",2,0))(pg:↥(31,"stream_rounds",2,0)):↥(["net"],1,f45):=by
 exists Fu,ab8,0,0;refine aJ ?_ ?_;.exact(Sv (cN cQ hr (aZ (sv 0) az rfl)) (eX hc (aY (aF (i:=1) nd rfl oi oi) (aY (aF (i:=2) nd rfl oi oi) (aY (aF (i:=3) nd rfl oi oi) dm)))) (qR rfl (dg _ _ (dg _ _ (dg _ _ mD 3) 2) 1)))
 lia;.exists 4,cN pg hr (aZ (sv 0) (aZ (sv 2) az rfl) rfl)
 lia;.exists cJ ?_ ?_ ?_;exact SW.st (kJ (aX Hu (cN vP hr (aZ (sv 0) (aZ (sv 4) az rfl) rfl)) fJ (aP _)) (je (aX (jj (aR hr)) (p6 rfl hc (by rfl) iU (bT (N':=["net","rate","stream","side","rounds","made","walk","loads"]) hc (oK rfl (by rfl)) (bW (sv 4)) ⇑(eX hc (aY (aF (i:=6) ‹["net","rate","stream","side","rounds","made","walk","loads"]› rfl (Or.inl rfl) (Or.inr rfl)) (aY (aF (i:=7) ‹["net","rate","stream","side","rounds","made","walk","loads"]› rfl (Or.inl rfl) (Or.inr rfl)) dm))) (ik rfl (cg (show 6<=6 by decide) (cg (show 6<=7 by decide) ig))) ⇑(cI) ⇑((sv 7)))) (sv 1) (aP _))));(· lia;(· exists(),fJ);exact aq);exact aq
 lia;.exists 5,cN fW hr (aZ (sv 0) (aZ (sv 4) az rfl) rfl)
 lia;.exists(),jQ (dU (cW (aR hr)) (cN bI hr (aZ (sv 0) (aZ (sv 5) az rfl) rfl)) (sv 1) (aP _)) (mU (dU Mu (cN o9 hr (aZ (sv 0) (aZ (bF (cM (sv 1) (cM (sv 5) (cM (sv 3) aK rfl) rfl) rfl)) az rfl) rfl)) fJ (aP _)))
 exact aq
abbrev s46:Stmt:=top 59
noncomputable def b46:List S:=[.asg 2 (.lst []),.ifs (.cmp .ne (.idx ↑1 ⇑1) (.tup [])) [.asg 3 (.call 36 [↑0,.blt .len [.idx ↑1 ⇑1]]),.app 2 (.tup [.call 13 [↑1,↑3],.idx (.idx (.idx ↑1 ⇑1) ↑3) ⇑2,⇑0]),.ifs (.cmp .lt (.idx (.idx (.idx ↑1 ⇑1) ↑3) ⇑2) (.bin .pow ⇑10 ⇑9)) [.app 2 (.tup [.call 14 [↑1,↑3,.bin .add (.idx (.idx (.idx ↑1 ⇑1) ↑3) ⇑2) ⇑1],⇑0,⇑1])] []] [],.asg 4 (.call 38 [↑0,.idx ↑1 ⇑0,⇑9,⇑4]),.ifs (.cmp .lt (.blt .len [.idx ↑1 ⇑1]) ⇑12) [.app 2 (.tup [.call 12 [↑1,↑4],⇑0,.idx ↑4 ⇑2])] [],.ret ↑2]
def Zi:Fd:=⟨2,5,b46⟩
theorem adm:aD ["pool","net","found","k","way"] ["pool","net"] (au s46):=nofun
include cl in
theorem d46(Fu:eG K "_law_others" "_law_others" s46 f fd)(bL:mg "len"=none)(aN:↥(36,"_law_next",2,0))(lJ:↥(38,"_law_way",4,0))(Ad:↥(13,"less_way",2,0))(Ex:↥(12,"put_way",2,0))(yj:↥(14,"with_room",3,0)):↥(["pool","net"],2,Zi):=by
 exists Fu,adm,0,0;refine aJ ?_ ?_;.exists 2,cA aK
 lia;.exists cJ ?_ ?_ ?_;exact aX (jj (aR hr)) (ak (sv 1) aa) (bF aK) (aP _);(· lia;(· exists 3,cN aN hr (aZ (sv 0) (aZ (dB rfl (by rfl) bL (ak (sv 1) aa)) az rfl) rfl));(· lia;exact bQ (k:=2) rfl (by ac_rfl) (bF (cM (cN Ad hr (aZ (sv 1) (aZ (sv 3) az rfl) rfl)) (cM (ak (ak (ak (sv 1) aa) (sv 3)) aa) (cM aa aK rfl) rfl) rfl));(· lia;(· exists cJ ?_ ?_ ?_;exact aX (gJ (aR hr)) (ak (ak (ak (sv 1) aa) (sv 3)) aa) (aA jh aa aa) (aP _);(· lia;exact bQ (k:=2) rfl (by ac_rfl) (bF (cM (cN yj hr (aZ (sv 1) (aZ (sv 3) (aZ (aA bf (ak (ak (ak (sv 1) aa) (sv 3)) aa) aa) az rfl) rfl) rfl)) (cM aa (cM aa aK rfl) rfl) rfl));exact aq);exact aq);exact aq)));exact aq
 lia;.exists 4,cN lJ hr (aZ (sv 0) (aZ (ak (sv 1) aa) (aZ aa (aZ aa az rfl) rfl) rfl) rfl)
 lia;.exists cJ ?_ ?_ ?_;exact aX (gJ (aR hr)) (dB rfl (by rfl) bL (ak (sv 1) aa)) aa (aP _);(· lia;exact bQ (k:=2) rfl (by ac_rfl) (bF (cM (cN Ex hr (aZ (sv 1) (aZ (sv 4) az rfl) rfl)) (cM aa (cM (ak (sv 4) aa) aK rfl) rfl) rfl));exact aq);exact aq
 lia;.exists(),sv 2
 exact aq
abbrev s47:Stmt:=top 60
noncomputable def b47:List S:=[.gV (.bin .add (.lst [⇑0]) ↑0) [1] true [.asg 2 (.call 35 [↑1]),.asg 3 (.call 39 [↑2,⇑6,⇑12]),.asg 4 (.idx (.call 33 [↑3]) ⇑0),.ifs (.or (.cmp .ne ↑4 (.call 44 [↑3])) (.or (.cmp .ne (.idx (.call 33 [.call 15 [↑3]]) ⇑0) ↑4) (.not (.call 45 [↑3])))) [.ret (.con (.bl false))] [],.ifs (.cmp .gt (.blt .JX [.comp (.rQ ⇑0 ⇑2) 1 [9] true none (.call 22 [↑3,.call 41 [↑2,↑3]])]) ↑4) [.ret (.con (.bl false))] [],.gV (.call 46 [↑2,↑3]) [5,6,7] false [.asg 8 (.idx (.call 33 [↑5]) ⇑0),.ifs (.or (.cmp .ne ↑8 (.call 44 [↑5])) (.not (.chain .le .le (.bin .sub ↑4 ↑6) ↑8 (.bin .add ↑4 ↑7)))) [.ret (.con (.bl false))] []]],.ret (.con (.bl true))]
def f47:Fd:=⟨1,9,b47⟩
theorem abK:aD ["script","cell","pool","net","rate","other","fewer","more","told"] ["script"] (au s47):=nofun
include cl in
theorem d47(Fu:eG K "law" "law" s47 f fd)(rP:mg "max"=none)(bj:mg "range"=none)(m6:↥(44,"_law_least",1,0))(Ae:↥(39,"_law_net",3,0))(sG:↥(46,"_law_others",2,0))(yl:↥(35,"_law_pool",1,0))(kE:↥(45,"_law_rounds_right",1,0))(sH:↥(41,"_law_stream",2,0))(cQ:↥(33,"fullest_stream",1,0))(bI:↥(22,"stream_rate",2,0))(jo:↥(15,"turned_net",1,0)):↥(["script"],1,f47):=by
 exists Fu,abK,0,0;refine aJ ?_ ?_;.exists 1,bW (aA bf (cA (cM aa aK rfl)) (sv 0)),0;(· lia;(· exists fU (i:=2) ?_ ?_ ?_ ?_ ?_ ?_;exact nd;exact rfl;exact Or.inr rfl;rotate_left;rfl;exact oi;exact cN yl hr (aZ (sv 1) az rfl));(· lia;(· exists fU (i:=3) ?_ ?_ ?_ ?_ ?_ ?_;exact nd;exact rfl;exact Or.inr rfl;rotate_left;rfl;exact oi;exact cN Ae hr (aZ (sv 2) (aZ aa (aZ aa az rfl) rfl) rfl));(· lia;(· exists 4,ak (cN cQ hr (aZ (sv 3) az rfl)) aa);(· lia;(· exists cJ ?_ ?_ ?_;exact SW.st (kJ (aX (jj (aR hr)) (sv 4) (cN m6 hr (aZ (sv 3) az rfl)) (aP _)) (kJ (aX (jj (aR hr)) (ak (cN cQ hr (aZ (cN jo hr (aZ (sv 3) az rfl)) az rfl)) aa) (sv 4) (aP _)) (je (jd (gD (cN kE hr (aZ (sv 3) az rfl)))))));(· lia;(· exists(),fJ);exact aq);exact aq);(· lia;(· exists cJ ?_ ?_ ?_;exact aX iW (Nm rfl hc (by rfl) rP (bT (N':=["script","cell","pool","net","rate","other","fewer","more","told","turn"]) hc (oK rfl (by rfl)) (gh rfl (by rfl) bj aa) ⇑(aF (i:=9) ‹["script","cell","pool","net","rate","other","fewer","more","told","turn"]› rfl (Or.inl rfl) (Or.inr rfl)) (bR (cR)) ⇑(cI) ⇑((cN bI hr (aZ (sv 3) (aZ (cN sH hr (aZ (sv 2) (aZ (sv 3) az rfl) rfl)) az rfl) rfl))))) (sv 4) (aP _);(· lia;(· exists(),fJ);exact aq);exact aq);(· lia;exact rE PassesOwn.never hc (bW (cN sG hr (aZ (sv 2) (aZ (sv 3) az rfl) rfl))) (eX hc (aY (aF (i:=5) nd rfl oi oi) (aY (aF (i:=6) nd rfl oi oi) (aY (aF (i:=7) nd rfl oi oi) dm)))) (qR rfl (dg _ _ (dg _ _ (dg _ _ mD 7) 6) 5)) (by lia;(· exists 8,ak (cN cQ hr (aZ (sv 5) az rfl)) aa);(· lia;(· exists cJ ?_ ?_ ?_;exact SW.st (kJ (aX (jj (aR hr)) (sv 8) (cN m6 hr (aZ (sv 5) az rfl)) (aP _)) (je (jd (mJ lz lz (aA bK (sv 4) (sv 6)) (sv 8) (aA bf (sv 4) (sv 7))))));(· lia;(· exists(),fJ);exact aq);exact aq);exact aq));exact aq))))))
 lia;.exists(),fJ
 exact aq
end T
end
noncomputable section
namespace T
open PySem L2 PySem.Spec PyProof.Rows HH
def Γ:Tab:=fun i=>[f0,f1,f2,f3,f4,f5,f6,f7,f8,f9,Zt,f11,Zy,Zw,Zm,f15,f16,f17,Ss,Z3,Z4,Vo,Up,f23,Wn,f25,Zg,f27,f28,Zc,f30,f31,ZK,f33,Zr,ZV,Ze,f37,f38,ZP,ZG,f41,Z5,Zh,Z7,f45,Zi,f47][i]?
end T
end
noncomputable section
namespace T
open HH
variable{w n k N j:Nat}{x y m a b p i r g h a0 R0:Int}{Q:R->List Sl->Prop}{ds:List D}{ls ps l ch:List Int}{ks:List Nat}{f:Bool}
local macro_rules|`(tactic|symm)=>`(tactic|first|apply aj|apply Dq)
abbrev big:Int:=1606938044258990275541962092341162602522202993782792835301376
theorem bN{z:Int}(h0:0<m)(h2:m<big)(k:∀d x z:Int,0<=d->d<m->Q (.val (.int d)) [.own true [.int x,.int y,.int z],.val false (.int m)]):(run Γ w (n+1) 36 [.own true [.int x,.int y,.int z],.val false (.int m)]).sat Q:=by
 have h3:m<1606938044258990275541962092341162602522202993782792835301376:=h2;refine aH (d:=Ze) rfl rfl (by decide) ?_;symm;simp[Ze];constructor;.intro _;symm;simp[h0];apply aj;simp[h0,h3,iD];apply aj;simp;exact k _ _ _ (Int.emod_nonneg _ (by omega)) (Int.emod_lt_of_pos _ h0)
 . intro _;symm;simp[iD];apply aj;simp;generalize hq:(y+7919*(z+1))%1000000007=q;have q0:0<=q/\q<1000000007:=by omega
   have q1:-18446744073709551616<q+11/\q+11<18446744073709551616:=by omega
   symm;simp[q1];generalize hs:(q+11)*(q+48271)%998244353=st;have q2:-18446744073709551616<st/\st<18446744073709551616:=by omega
   symm;simp[q2,h0];exact k _ _ _ (Int.emod_nonneg _ (by omega)) (Int.emod_lt_of_pos _ h0)
theorem Hx(k:∀a b c:Int,Q (.own [.int a,.int b,.int c]) [.val false (.int x)]):(run Γ w (n+1) 35 [.val false (.int x)]).sat Q:=by refine aH (d:=ZV) rfl rfl (by decide) ?_;symm;simp[ZV];exact k _ _ _
inductive JW(y m:Int)(_:Nat)(ρ:List Sl):Prop where|mk(x z f:Int)(s:Sl)(q0:ρ=[.own true [.int x,.int y,.int z],.val false (.int m),.val false (.int f),s])(q1:fr s=true)
theorem qg{z:Int}(h0:0<m)(h2:m<big)(k:∀d x z:Int,0<=d->d<m->Q (.val (.int d)) [.own true [.int x,.int y,.int z],.val false (.int m)]):(run Γ w (n+2) 37 [.own true [.int x,.int y,.int z],.val false (.int m)]).sat Q:=by
 refine aH (d:=f37) rfl rfl (by decide) ?_;symm;simp[f37];constructor;.intro _;symm;simp;refine bN h0 h2 fun d x z h3 h4=>?_;simp;exact k _ _ _ h3 h4
 . intro _;symm;simp;apply aj;simp;refine iQ (JW y m) ?_ ?_ ⟨x,z,0,.aV,rfl,rfl⟩;.rintro i _ hi⟨x,z,f,s,rfl,hs⟩;simp[hs];apply aj;simp;refine bN (by decide) (by decide) fun d x z h3 h4=>?_;simp;exact⟨_,_,_,_,rfl,rfl⟩
   .rintro _⟨x,z,f,s,rfl,hs⟩;symm;simp[h0];exact k _ _ _ (Int.emod_nonneg _ (by omega)) (Int.emod_lt_of_pos _ h0)
structure Wy where(s t r h:Int)
variable{ws:List Wy}{v:Wy}
def Wy.d(w:Wy):D:=.tup [.int w.s,.int w.t,.int w.r,.int w.h]
structure Wy.Ok(m:Int)(w:Wy):Prop where
 s0:0<=w.s
 s1:w.s<m
 t0:0<=w.t
 t1:w.t<m
 ne:w.s≠w.t
 r0:0<=w.r
 r1:w.r<=1000000000
 h0:1<=w.h
 h1:w.h<=1000000
theorem other(h1:0<=a)(h2:a<m)(h3:0<=b)(h4:b<m-1):0<=(a+1+b)%m/\(a+1+b)%m<m/\(a+1+b)%m≠a:=by
 by_cases h:a+1+b<m;.rw[Int.emod_eq_of_lt (by omega) h];omega
 . have e:(a+1+b)%m=a+1+b-m:=by rw[<-Int.sub_emod_right,Int.emod_eq_of_lt (by omega) (by omega)]
   rw[e];omega
theorem aaF(h:∀d∈ds,dI k d=true):dI (k+1) (.lst ds)=true:=by rw[dI];exact all_eq_true.mpr h
theorem Io(h:∀d∈ds,dI k d=true):dI (k+1) (.tup ds)=true:=by rw[dI];exact all_eq_true.mpr h
def aC(m:Int)(ws:List Wy):D:=.tup [.int m,.tup (ws.map Wy.d)]
structure aW(m:Int)(ws:List Wy):Prop where
 m0:2<=m
 m1:m<=6
 len:ws.length<=12
 ok:∀w∈ws,w.Ok m
@[simp]theorem afo{m:Int}{ws:List Wy}:DK (aC m ws) (.int 0)=some (.val (.int m)):=rfl
@[simp]theorem afj{m:Int}{ws:List Wy}:DK (aC m ws) (.int 1)=some (.val (.tup (ws.map Wy.d))):=rfl
theorem Ay{z l:Int}(h0:2<=m)(h2:m<=6)(p0:1<=p)(p1:p<=1000000000)(l0:1<=l)(l1:l<=1000000)(k:∀(v:Wy)(x z:Int),v.Ok m->Q (.val v.d) [.own true [.int x,.int y,.int z],.val false (.int m),.val false (.int p),.val false (.int l)]):(run Γ w (n+3) 38 [.own true [.int x,.int y,.int z],.val false (.int m),.val false (.int p),.val false (.int l)]).sat Q:=by
 refine aH (d:=f38) rfl rfl (by decide) ?_;refine cP (fun ρ=>∃x z s t,ρ=[.own true [.int x,.int y,.int z],.val false (.int m),.val false (.int p),.val false (.int l),.val false (.int s),.val false (.int t)]/\0<=s/\s<m/\0<=t/\t<m/\s≠t) ?_ ?_
 . simp[f38];refine bN (by decide) (by decide) fun d x z _ _=>?_;simp;constructor;.intro _;symm;simp;refine bN (by omega) (by show _<(1606938044258990275541962092341162602522202993782792835301376:Int);omega) fun a x z ha1 ha2=>?_;simp;apply aj;simp;refine bN (by omega) (by show _<(1606938044258990275541962092341162602522202993782792835301376:Int);omega) fun b x z hb1 hb2=>?_;obtain⟨t0,t1,tn⟩:=other ha1 ha2 hb1 hb2;simp[show 0<m by omega];refine⟨_,_,_,_,⟨⟨rfl,rfl⟩,rfl,rfl⟩,?_⟩;omega
   .intro _;symm;simp;refine bN (by omega) (by show _<(1606938044258990275541962092341162602522202993782792835301376:Int);omega) fun a x z ha1 ha2=>?_;simp;apply aj;simp;refine bN (by omega) (by show _<(1606938044258990275541962092341162602522202993782792835301376:Int);omega) fun b x z hb1 hb2=>?_;simp;refine⟨_,_,_,_,⟨⟨rfl,rfl⟩,rfl,rfl⟩,?_⟩;omega
 rintro _⟨x,z,s,t,rfl,s0,s1,t0,t1,ne⟩;symm;simp;refine qg (by omega) (by show _<(1606938044258990275541962092341162602522202993782792835301376:Int);omega) fun r x z hr1 hr2=>?_;simp;refine qg (by omega) (by show _<(1606938044258990275541962092341162602522202993782792835301376:Int);omega) fun h x z hh1 hh2=>?_;simp;exact k ⟨s,t,r,1+h⟩ x z ⟨s0,s1,t0,t1,ne,hr1,by show r<=_;omega,by show 1<=1+h;omega,by show 1+h<=_;omega⟩
inductive JN(y m p l:Int)(i:Nat)(ρ:List Sl):Prop where|mk(x z:Int)(ws:List Wy)(s:Sl)(q0:ρ=[.own true [.int x,.int y,.int z],.val false (.int 6),.val false (.int 12),.val false (.int m),.val false (.int p),.val false (.int l),.own false (ws.map Wy.d),s])(q1:fr s=true)(q2:(∀w∈ws,w.Ok m))(q3:ws.length=i)
theorem OD{c d lo hi:Int}(h0:0<=i)(h1:i<4)(k1:lo<=a/\a<=hi/\lo<=b/\b<=hi)(k2:lo<=c/\c<=hi/\lo<=d/\d<=hi):∃r,at' [D.int a,D.int b,D.int c,D.int d] i=some (.int r)/\lo<=r/\r<=hi:=by
 have:i=0\/i=1\/i=2\/i=3:=by omega
 rcases this with rfl|rfl|rfl|rfl;.exact⟨a,Xd,by omega⟩
 .exact⟨b,V7,by omega⟩
 .exact⟨c,abJ,by omega⟩
 .exact⟨d,ad0,by omega⟩
theorem Mj{z:Int}(k:∀(m:Int)(ws:List Wy)(x z:Int),aW m ws->Q (.val (aC m ws)) [.own true [.int x,.int y,.int z],.val false (.int 6),.val false (.int 12)]):(run Γ w (n+4) 39 [.own true [.int x,.int y,.int z],.val false (.int 6),.val false (.int 12)]).sat Q:=by
 refine aH (d:=ZP) rfl rfl (by decide) ?_;symm;simp[ZP];refine bN (by decide) (by decide) fun d x z hd1 hd2=>?_;simp;obtain⟨m,hm,m0,m1⟩:∃m,m=2+d/\2<=m/\m<=6:=⟨_,rfl,by omega,by omega⟩;rw[<-hm];symm;simp;refine bN (by decide) (by decide) fun d x z hd1 hd2=>?_;simp;obtain⟨p,e,p0,p1⟩:∃r,at' [D.int 1,D.int 3,D.int 9,D.int 1000000000] d=some (.int r)/\1<=r/\r<=1000000000:=OD hd1 hd2 (by omega) (by omega);rw[e];simp;apply aj;simp;refine bN (by decide) (by decide) fun d x z hd1 hd2=>?_;simp;obtain⟨l,e,l0,l1⟩:∃r,at' [D.int 1,D.int 2,D.int 4,D.int 1000000] d=some (.int r)/\1<=r/\r<=1000000:=OD hd1 hd2 (by omega) (by omega);rw[e];simp;apply aj;simp;apply aj;simp;refine bN (by decide) (by decide) fun c x z hc1 hc2=>?_;simp;refine⟨by omega,?_⟩;refine iQ (JN y m p l) ?_ ?_ ⟨x,z,[],.aV,rfl,rfl,by simp,rfl⟩
 . rintro i _ hi⟨x,z,ws,s,rfl,hs,hw,hl⟩;simp[hs];apply aj;simp;refine Ay m0 m1 p0 p1 l0 l1 fun v x z hv=>?_;have hlim:ws.length<lim:=by show _<16777216;omega
   simp[hlim];have hw2:∀u∈ws++[v],u.Ok m:=fun u hu=>by
    rw[mem_append,mem_singleton]at hu;rcases hu with hu|rfl;.exact hw u hu
    .exact hv
   rw[show ws.map Wy.d++[v.d]=(ws++[v]).map Wy.d by simp];have hl2:(ws++[v]).length=i+1:=by simp[hl]
   generalize ws++[v]=us at*;symm;simp;refine bN (by decide) (by decide) fun c x z hc1 hc2=>?_;simp;constructor
   . intro _;symm;simp;refine bN (by omega) (by show _<(1606938044258990275541962092341162602522202993782792835301376:Int);omega) fun c x z hc1 hc2=>?_;simp;have hlt:c.toNat<us.length:=by omega
     rw[jk hc1 (by rw[length_map];omega),getElem?_map,getElem?_eq_getElem hlt];simp[uN (show i<us.length by omega)];refine⟨x,z,us.set i us[c.toNat],.val false (.int i),by simp,rfl,fun u hu=>?_,by simpa using hl2⟩;rcases List.mem_or_eq_of_mem_set hu with hu|rfl;.exact hw2 u hu
     .exact hw2 _ (getElem_mem hlt)
   .intro _;exact⟨x,z,us,_,rfl,rfl,hw2,hl2⟩
 .rintro _⟨x,z,ws,s,rfl,hs,hw,hl⟩;symm;simp;exact k m ws x z ⟨m0,m1,by omega,hw⟩
def path(ws:List Wy):Int->List Nat->Int->Prop|p,[],q=>p=q|p,k::ks,q=>∃w,ws[k]?=some w/\w.s=p/\path ws w.t ks q
theorem sZ{ws:List Wy}{k:Nat}{w:Wy}(hk:ws[k]?=some w):∀{ks:List Nat}{p q:Int},path ws p ks q->w.s=q->path ws p (ks++[k]) w.t|[],p,q,h,e=>⟨w,hk,by rw[e];exact h.symm,rfl⟩|j::ks,p,q,⟨v,h1,h2,h3⟩,e=>⟨v,h1,h2,sZ hk h3 e⟩
def dot(c:Int->Int):List Wy->List Int->Int|w::ws,f::fs=>f*(c w.s-c w.t)+dot c ws fs|_,_=>0
theorem pP{c:Int->Int}{l:Int}{w:Wy}{f:Int}:∀{k:Nat}{ws:List Wy}{fs:List Int},ws[k]?=some w->fs[k]?=some f->dot c ws (fs.set k (f+l))=dot c ws fs+l*(c w.s-c w.t)|_,[],_,h,_=>by simp at h|_,_,[],_,h=>by simp at h|0,v::ws,g::fs,h,h'=>by simp at h h';subst h h';simp only[List.set_cons_zero,dot,add_mul];omega|k+1,v::ws,g::fs,h,h'=>by simp at h h';simp only[set_cons_succ,dot,pP h h'];omega
theorem qy{c:Int->Int}:∀(ws:List Wy)(n:Nat),dot c ws (replicate n 0)=0|[],_=>rfl|_::_,0=>rfl|w::ws,n+1=>by simp only[replicate_succ,dot,qy ws n];omega
def Og(ws:List Wy)(ls fs:List Int):Prop:=ls.length=ws.length/\fs.length=ws.length/\∀(k:Nat)(w:Wy)(l f:Int),ws[k]?=some w->ls[k]?=some l->fs[k]?=some f->0<=l/\0<=f/\l+f=w.r
theorem Og.move{fs:List Int}{l f:Int}(h:Og ws ls fs)(hl:ls[k]?=some l)(hf:fs[k]?=some f)(h0:0<=a)(h1:a<=l):Og ws (ls.set k (l-a)) (fs.set k (f+a)):=by
 refine⟨by simpa using h.1,by simpa using h.2.1,fun j w l' f' e1 e2 e3=>?_⟩;by_cases hj:j=k;.subst hj;have k1:=(cV hl).1;have k2:=(cV hf).1;rw[getElem?_set_self k1]at e2;rw[getElem?_set_self k2]at e3;cases e2;cases e3;have:=h.2.2 j w l f e1 hl hf;omega
 .rw[fZ hj]at e2 e3;exact h.2.2 j w l' f' e1 e2 e3
def Goes(m:Int)(ws:List Wy)(fs:List Int)(r:Int):Prop:=0<=r/\∀c:Int->Int,dot c ws fs=r*(c 0-c (m-1))
def Flow(m:Int)(ws:List Wy)(fs:List Int):Prop:=fs.length=ws.length/\(∀(k:Nat)(w:Wy)(f:Int),ws[k]?=some w->fs[k]?=some f->0<=f/\f<=w.r)/\(∀c:Int->Int,c 0=0->c (m-1)=0->dot c ws fs=0)/\∃r,Goes m ws fs r
theorem Og.flow{fs:List Int}(h:Og ws ls fs)(hd:Goes m ws fs r):Flow m ws fs:=by refine⟨h.2.1,fun k w f e1 e2=>?_,fun c c0 c1=>by rw[hd.2,c0,c1];simp,r,hd⟩;have hk:=(cV e1).1;obtain⟨l,hl⟩:∃l,ls[k]?=some l:=⟨ls[k]'(by rw[h.1];exact hk),by simp[h.1,hk]⟩;have:=h.2.2 k w l f e1 hl e2;omega
def Good(ws:List Wy)(ls:List Int)(ks:List Nat):Prop:=ks.Nodup/\∀k∈ks,∃l,ls[k]?=some l/\0<l
def aO(ks:List Nat):List Int:=ks.map fun(k:Nat)=>(k:Int)
theorem rm:(aO ks).map D.int++[D.int (k:Int)]=(aO (ks++[k])).map D.int:=by simp[aO]
theorem nj:(aO ks).contains (k:Int)=ks.contains k:=by induction ks with|nil=>rfl|cons a ks ih=>
   have:((k:Int)==(a:Int))=(k==a):=by rw[Bool.eq_iff_iff];simp;omega
   simp only[aO,map_cons,List.contains_cons,this]at ih ⊢;rw[ih]
inductive JT(y:Int)(m:Int)(ws:List Wy)(ls:List Int)(s g:Int)(i:Nat)(ρ:List Sl):Prop where|mk(x z:Int)(ks:List Nat)(p:Int)(s1 s2:Sl)(q0:ρ=[.own true [.int x,.int y,.int z],.val false (aC m ws),.own true (ls.map D.int),.val false (.int s),.val false (.int g),.own false ((aO ks).map D.int),.val false (.int p),s1,s2])(q1:fr s1=true)(q2:fr s2=true)(q3:path ws s ks p)(q4:Good ws ls ks)(q5:ks.length<=i)
inductive FT(a0 a1 a2 a3 a4 a5 a6 a7 a8:Sl)(ρ:List Sl):Prop where|mk(s:Sl)(q0:ρ=[a0,a1,a2,a3,a4,a5,a6,a7,a8,s])(q1:fr s=true)
def PT1(ws:List Wy)(ls:List Int)(p:Int)(d:D):Prop:=∃(k:Nat)(w:Wy)(l:Int),d=.int (k:Int)/\ws[k]?=some w/\w.s=p/\ls[k]?=some l/\0<l
def PT2(ws:List Wy)(ls:List Int)(p:Int)(ks:List Nat)(d:D):Prop:=∃(k:Nat)(w:Wy)(l:Int),d=.int (k:Int)/\ws[k]?=some w/\w.s=p/\ls[k]?=some l/\0<l/\k∉ks
theorem BX{ws:List Wy}{ls:List Int}{p:Int}{ks:List Nat}:∀{xs:List D},(∀x∈xs,PT2 ws ls p ks x)->∃ns:List Int,xs=ns.map D.int|[],_=>⟨[],rfl⟩|x::xs,h=>by obtain⟨k,_,_,rfl,_⟩:=h x (by simp);obtain⟨ns,rfl⟩:=BX (xs:=xs) fun y hy=>h y (by simp[hy]);exact⟨(k:Int)::ns,rfl⟩
theorem Dy{z s:Int}(h:aW m ws)(hl:ls.length=ws.length)(k:∀(ks:List Nat)(x z:Int),(ks=[]\/(path ws s ks g/\Good ws ls ks/\ks.length<1000))->Q (.own ((aO ks).map D.int)) [.own true [.int x,.int y,.int z],.val false (aC m ws),.own true (ls.map D.int),.val false (.int s),.val false (.int g)]):(run Γ w (n+2) 40 [.own true [.int x,.int y,.int z],.val false (aC m ws),.own true (ls.map D.int),.val false (.int s),.val false (.int g)]).sat Q:=by
 have m0:=h.m0;have m1:=h.m1;have hn:=h.len;refine aH (d:=ZG) rfl rfl (by decide) ?_;symm;simp[ZG];apply aj;simp;apply aj;simp;refine⟨by omega,?_⟩;refine iQ (JT y m ws ls s g) ?_ ?_ ⟨x,z,[],s,.aV,.aV,rfl,rfl,rfl,rfl,⟨by simp,by simp⟩,by decide⟩
 . rintro i _ hi⟨x,z,ks,p,s1,s2,rfl,h1,h2,hp,hg,hk⟩;simp[h1];have hlm:ls.length<=lim:=by show _<=16777216;omega
   symm;simp[show ls.length<=lim from hlm,show(ls.length:Int)<=1000000000 by omega,show-1000000000<=(ls.length:Int)by omega];refine tu (FT _ _ _ _ _ _ _ _ _) (PT1 ws ls p) ⟨.aV,rfl,rfl⟩ ?_ ?_
   . rintro d hd _⟨s',rfl,hs'⟩;rw[mem_map]at hd;obtain⟨j,hj,rfl⟩:=hd;rw[mem_range]at hj;have hj2:j<ws.length:=by omega
     have e1:ws[j]?=some ws[j]:=by simp[hj2]
     have e2:ls[j]?=some ls[j]:=by simp[hj]
     simp[hs',cB e1,cB e2,Wy.d];refine⟨fun hp1=>?_,fun _=>⟨_,rfl,rfl⟩⟩;split;.rename_i hp2;exact⟨⟨j,_,_,rfl,e1,hp1,e2,hp2⟩,_,rfl,rfl⟩
     .exact⟨_,rfl,rfl⟩
   . rintro xs _⟨s',rfl,hs'⟩YM hxs;simp at YM;simp[h2];apply aj;simp[show xs.length<=lim by show _<=16777216;omega];refine tu (FT _ _ _ _ _ _ _ _ _) (PT2 ws ls p ks) ⟨.aV,rfl,rfl⟩ ?_ ?_
     . rintro d hd _⟨s',rfl,hs'⟩;obtain⟨j,v,l,rfl,e1,e2,e3,e4⟩:=hxs d hd;simp[hs',Dv,nj];split;.exact⟨_,rfl,rfl⟩
       .rename_i hj;exact⟨⟨j,v,l,rfl,e1,e2,e3,e4,fun hm=>hj (mem_map.mpr ⟨j,hm,rfl⟩)⟩,_,rfl,rfl⟩
     . rintro os _⟨s',rfl,hs'⟩hol hos;obtain⟨ns,rfl⟩:=BX hos;simp;apply aj;simp[K5];constructor;.intro _;symm;simp;exact k [] x z (.inl rfl)
       . intro hne;have hl0:0<ns.length:=List.length_pos_iff.mpr hne;simp at hol;apply aj;simp;refine bN (by omega) (by show _<(1606938044258990275541962092341162602522202993782792835301376:Int);omega) fun d x z hd1 hd2=>?_;simp;obtain⟨o,ho1,ho2⟩:=Lk (l:=ns.map D.int) hd1 (by simpa using hd2);obtain⟨j,v,l,rfl,e1,e2,e3,e4,e5⟩:=hos o ho2;rw[ho1];have hkl:(aO ks).length<lim:=by simp only[aO,length_map];show _<16777216;omega
         simp[hkl];rw[rm];have hg2:Good ws ls (ks++[j]):=by
          refine⟨nodup_append.mpr ⟨hg.1,by simp,fun a ha b hb e=>?_⟩,fun a ha=>?_⟩;.rw[mem_singleton]at hb;subst hb;subst e;exact e5 ha
          . rcases mem_append.mp ha with ha|ha;.exact hg.2 a ha
            .rw[mem_singleton.mp ha];exact⟨l,e3,e4⟩
         have hp2:=sZ e1 hp e2;have hk2:(ks++[j]).length<=i+1:=by simp;omega
         have hat:at' ((aO (ks++[j])).map D.int) (-1)=some (.int j):=by rw[<-rm];exact Ag
         generalize ks++[j]=ks' at*;symm;simp[hat,cB e1,Wy.d];apply aj;simp;constructor;.intro he;symm;simp;exact k ks' x z (.inr ⟨by rw[<-he];exact hp2,hg2,by omega⟩)
         .intro _;exact⟨x,z,ks',_,_,_,rfl,rfl,rfl,hp2,hg2,hk2⟩
 .rintro _⟨x,z,ks,p,s1,s2,rfl,h1,h2,hp,hg,hk⟩;symm;simp;exact k [] x z (.inl rfl)
inductive JS(y:Int)(m:Int)(ws:List Wy)(_:Nat)(ρ:List Sl):Prop where|mk(x z:Int)(ls fs:List Int)(s4 s5 s6 s7 s8 s9 j4:Sl)(q0:ρ=[.own true [.int x,.int y,.int z],.val false (aC m ws),.own false (ls.map D.int),.own false (fs.map D.int),s4,s5,s6,s7,s8,s9,j4])(q1:A7 (fr s4=true) (fr s5=true) (fr s6=true) (fr s7=true) (fr s8=true) (fr s9=true) (fr j4=true))(q2:Og ws ls fs)(q3:∃r,Goes m ws fs r)
inductive JI(m:Int)(ws:List Wy)(a0 a1 a4 a5 a6 a7 a8 a9:Sl)(s g lo q:Int)(r:List D)(ρ:List Sl):Prop where|mk(ls fs:List Int)(ks:List Nat)(p:Int)(j4:Sl)(q0:ρ=[a0,a1,.own false (ls.map D.int),.own false (fs.map D.int),a4,a5,a6,a7,a8,a9,j4])(q1:fr j4=true)(q2:r=(aO ks).map D.int)(q3:Og ws ls fs)(q4:path ws p ks g)(q5:ks.Nodup)(q6:(∀k∈ks,∃l,ls[k]?=some l/\lo<=l))(q7:∀c:Int->Int,dot c ws fs=q*(c 0-c (m-1))+lo*(c s-c p))
inductive FS(a0 a1 a2 a3 a4 a5 a6 a7 a8 a9 a10:Sl)(ρ:List Sl):Prop where|mk(s:Sl)(q0:ρ=[a0,a1,a2,a3,a4,a5,a6,a7,a8,a9,a10,s])(q1:fr s=true)
def Gn:D->D|.tup (_::_::r::_)=>r|d=>d
theorem Dp:(ws.map Wy.d).map Gn=(ws.map Wy.r).map D.int:=by rw[map_map,map_map];rfl
def jq(ls:List Int):D->D|.int i=>.int (ls.getD i.toNat 0)|d=>d
theorem jE:((aO ks).map D.int).map (jq ls)=(ks.map fun k=>ls.getD k 0).map D.int:=by simp only[aO,map_map];apply map_congr_left;intro k _;simp[jq]
theorem vm{ns:List Int}(h:ns≠[]):∃i,ns.min?=some i/\i∈ns/\∀j∈ns,i<=j:=by cases e:ns.min? with|none=>rw[List.min?_eq_none_iff]at e;exact absurd e h|some i=>have:=List.min?_eq_some_iff.mp e;exact⟨i,rfl,this.1,this.2⟩
theorem ado(h:aW m ws):Og ws (ws.map Wy.r) (replicate ws.length 0):=by refine⟨by simp,by simp,fun k w l f e1 e2 e3=>?_⟩;have hw:=h.ok w (mem_of_getElem? e1);rw[getElem?_map,e1]at e2;cases e2;have hk:=(cV e1).1;rw[getElem?_replicate,if_pos hk]at e3;cases e3;have:=hw.r0;omega
theorem zG{z:Int}(h:aW m ws)(k:∀(fs:List Int)(x z:Int),Flow m ws fs->Q (.own (fs.map D.int)) [.own true [.int x,.int y,.int z],.val false (aC m ws)]):(run Γ w (n+3) 41 [.own true [.int x,.int y,.int z],.val false (aC m ws)]).sat Q:=by
 have m0:=h.m0;have m1:=h.m1;have hn:=h.len;refine aH (d:=f41) rfl rfl (by decide) ?_;refine cP (fun ρ=>ρ=[.own true [.int x,.int y,.int z],.val false (aC m ws),.own false ((ws.map Wy.r).map D.int),.aV,.aV,.aV,.aV,.aV,.aV,.aV,.aV]) ?_ ?_
 . simp[f41,show ws.length<=lim by show _<=16777216;omega];refine bH (FS _ _ _ _ _ _ _ _ _ _ _) Gn ⟨.aV,rfl,rfl⟩ ?_ ?_;.rintro d hd _⟨s',rfl,hs'⟩;obtain⟨v,_,rfl⟩:=mem_map.mp hd;simp[hs',Wy.d,Gn];exact⟨_,rfl,rfl⟩
   rintro _⟨s',rfl,hs'⟩;rw[Dp];simp
 rintro _ rfl;symm;simp[show ws.length<=lim by show _<=16777216;omega];apply aj;simp;refine bN (by decide) (by decide) fun d x z hd1 hd2=>?_;simp;refine⟨by omega,?_⟩;refine iQ (JS y m ws) ?_ ?_ ⟨x,z,ws.map Wy.r,replicate ws.length 0,.aV,.aV,.aV,.aV,.aV,.aV,.aV,?_,⟨rfl,rfl,rfl,rfl,rfl,rfl,rfl⟩,ado h,0,Int.le_refl _,fun c=>by rw[qy];simp⟩
 . rintro i _ hi⟨x,z,ls,fs,s4,s5,s6,s7,s8,s9,j4,rfl,⟨h4,h5,h6,h7,h8,h9,h10⟩,hb,q,q0,hd⟩;simp[h4];apply aj;simp[h5,h6];refine cP (fun ρ=>∃(x z s g:Int),ρ=[.own true [.int x,.int y,.int z],.val false (aC m ws),.own false (ls.map D.int),.own false (fs.map D.int),.val false (.int i),.val false (.int s),.val false (.int g),s7,s8,s9,j4]/\((s=0/\g=m-1)\/s=g)) ?_ ?_
   . simp;refine bN (by decide) (by decide) fun d x z hd1 hd2=>?_;simp;constructor;.intro _;symm;simp;refine bN (by omega) (by show _<(1606938044258990275541962092341162602522202993782792835301376:Int);omega) fun d x z hd1 hd2=>?_;simp;apply aj;simp;exact⟨_,_,_,_,⟨⟨rfl,rfl⟩,rfl,rfl⟩,.inr rfl⟩
     .intro _;exact⟨_,_,_,_,⟨⟨rfl,rfl⟩,rfl,rfl⟩,.inl ⟨rfl,rfl⟩⟩
   rintro _⟨x,z,s,g,rfl,hsg⟩;symm;simp;refine Dy h hb.1 fun ks x z hks=>?_;simp[h7];apply aj;simp[Nr];constructor;rotate_left
   . intro hne;have hne:ks≠[]:=by rintro rfl;exact hne rfl
     obtain⟨hp,hg,hkl⟩:=hks.resolve_left hne;symm;simp[show(aO ks).length<=lim by simp only[aO,length_map];show _<=16777216;omega];refine bH (FS _ _ _ _ _ _ _ _ _ _ _) (jq ls) ⟨.aV,rfl,rfl⟩ ?_ ?_;.rintro d hd _⟨s',rfl,hs'⟩;simp only[aO,map_map,mem_map]at hd;obtain⟨k,hk,rfl⟩:=hd;obtain⟨l,hl,_⟩:=hg.2 k hk;simp[hs',cB hl,jq,hl];exact⟨_,rfl,rfl⟩
     rintro _⟨s',rfl,hs'⟩;rw[jE];obtain⟨ns,hns⟩:∃ns,ns=ks.map fun k=>ls.getD k 0:=⟨_,rfl⟩;rw[<-hns];obtain⟨mo,hm1,hm2,hm3⟩:=vm (ns:=ns) (by rw[hns];simpa using hne);simp[fK,hm1,h8];have hmo:0<mo/\mo<=1000000000:=by
      rw[hns]at hm2;obtain⟨k,hk,e⟩:=mem_map.mp hm2;obtain⟨l,hl,hl0⟩:=hg.2 k hk;have e:l=mo:=by simpa[hl]using e
      subst e;refine⟨hl0,?_⟩;have hk1:=(cV hl).1;have hkw:k<ws.length:=by rw[<-hb.1];exact hk1
      have hkf:k<fs.length:=by rw[hb.2.1];exact hkw
      have e1:ws[k]?=some ws[k]:=by simp[hkw]
      have e3:fs[k]?=some fs[k]:=by simp[hkf]
      have:=hb.2.2 k _ _ _ e1 hl e3;have:=(h.ok _ (getElem_mem hkw)).r1;omega
     have hle:∀k∈ks,∃l,ls[k]?=some l/\mo<=l:=fun k hk=>by obtain⟨l,hl,hl0⟩:=hg.2 k hk;refine⟨l,hl,hm3 l (by rw[hns];exact mem_map.mpr ⟨k,hk,by simp[hl]⟩)⟩
     symm;simp;refine qg hmo.1 (by show _<(1606938044258990275541962092341162602522202993782792835301376:Int);omega) fun dd x z hd1 hd2=>?_;simp;refine bN (by decide) (by decide) fun d x z hd3 hd4=>?_;simp;obtain⟨lo,elo,lo0,lo1⟩:∃r,at' [D.int mo,D.int (1+dd)] d=some (.int r)/\0<=r/\r<=mo:=by
      have:d=0\/d=1:=by omega
      rcases this with rfl|rfl;.exact⟨_,Xd,by omega,by omega⟩
      .exact⟨_,V7,by omega,by omega⟩
     rw[elo];simp[h9];apply aj;simp;refine cu (JI m ws _ _ _ _ _ _ _ _ s g lo q) ?_ ?_ ⟨ls,fs,ks,s,j4,rfl,h10,rfl,hb,hp,hg.1,fun k hk=>?_,fun c=>?_⟩;.rintro d r _⟨ls,fs,ks,p,j4,rfl,h10,hr,hb,hp,hnd,hle,N5⟩;cases ks with|nil=>cases hr|cons k ks=>
         obtain⟨rfl,rfl⟩:d=.int (k:Int)/\r=(aO ks).map D.int:=by simp[aO]at hr;exact⟨hr.1,by simp[aO,hr.2]⟩
         obtain⟨v,e1,e2,e3⟩:=hp;obtain⟨l,hl,hl1⟩:=hle k (by simp);have hkw:=(cV e1).1;have hkf:k<fs.length:=by rw[hb.2.1];exact hkw
         have hkl:k<ls.length:=by rw[hb.1];exact hkw
         obtain⟨f,hf⟩:∃f,fs[k]?=some f:=⟨fs[k],by simp[hkf]⟩;have hb2:=hb.move hl hf lo0 hl1;have hnk:=nodup_cons.mp hnd;simp[h10];apply aj;simp[cB hl,uN (show k<ls.length from hkl)];apply aj;simp[cB hf,uN (show k<fs.length from hkf)];refine⟨ls.set k (l-lo),fs.set k (f+lo),ks,v.t,.val false (.int k),by simp,rfl,rfl,hb2,e3,hnk.2,fun j hj=>?_,fun c=>?_⟩
         . obtain⟨l',h1,h2⟩:=hle j (by simp[hj]);have hjk:k≠j:=by rintro rfl;exact hnk.1 hj
           exact⟨l',by rw[getElem?_set_ne hjk];exact h1,h2⟩
         .rw[pP e1 hf,N5 c,<-e2,Int.add_assoc,<-mul_add];congr 2;omega
     . rintro _⟨ls,fs,ks,p,j4,rfl,h10,hr,hb,hp,hnd,hle,N5⟩;have hk0:ks=[]:=by cases ks with|nil=>rfl|cons _ _=>cases hr
       subst hk0;simp;have hpg:p=g:=hp;rcases hsg with⟨rfl,rfl⟩|rfl;.refine⟨x,z,ls,fs,_,_,_,_,_,_,_,rfl,⟨rfl,rfl,rfl,rfl,rfl,rfl,h10⟩,hb,q+lo,by omega,fun c=>?_⟩;rw[N5 c,hpg,<-add_mul]
       .refine⟨x,z,ls,fs,_,_,_,_,_,_,_,rfl,⟨rfl,rfl,rfl,rfl,rfl,rfl,h10⟩,hb,q,q0,fun c=>?_⟩;rw[N5 c,hpg];simp
     .obtain⟨l,h1,h2⟩:=hle k hk;exact⟨l,h1,by omega⟩
     .rw[hd c];simp
   .intro _;exact⟨x,z,ls,fs,_,_,_,_,_,_,_,rfl,⟨rfl,rfl,rfl,rfl,h8,h9,h10⟩,hb,q,q0,hd⟩
 .rintro _⟨x,z,ls,fs,s4,s5,s6,s7,s8,s9,j4,rfl,_,hb,q,hd⟩;symm;simp;exact k fs x z (hb.flow hd)
 .simp
def lF(p:Int):Nat->List Wy->List Nat|_,[]=>[]|i,w::ws=>if w.t=p then i::lF p (i+1) ws else lF p (i+1) ws
def gR(p:Int):Nat->List Wy->List Nat|_,[]=>[]|i,w::ws=>if w.s=p then i::gR p (i+1) ws else gR p (i+1) ws
def inD(p:Int):D->Option D|.tup [i,.tup (_::.int t::_)]=>if t==p then some i else none|_=>none
def outD(p:Int):D->Option D|.tup [i,.tup (.int s::_)]=>if s==p then some i else none|_=>none
def yD(ws:List Wy):List D:=(ws.map Wy.d).mapIdx fun i d=>D.tup [.int (i:Int),d]
theorem Mi{d:D}(h:d∈ds.mapIdx fun i d=>D.tup [.int (i:Int),d]):∃(i:Nat)(e:D),d=.tup [.int i,e]/\e∈ds:=by rw[List.mem_mapIdx]at h;obtain⟨i,hi,rfl⟩:=h;exact⟨i,_,rfl,getElem_mem hi⟩
theorem xH{d:D}(h:d∈yD ws):∃(i:Nat)(w:Wy),d=.tup [.int i,w.d]/\w∈ws:=by obtain⟨i,e,rfl,he⟩:=Mi h;obtain⟨w,hw,rfl⟩:=mem_map.mp he;exact⟨i,w,rfl,hw⟩
theorem rC(f:D->Option D)(sel:Nat->List Wy->List Nat)(h0:∀i,sel i []=[])(h1:∀(i:Nat)(w:Wy)(ws:List Wy),(match f (.tup [.int (i:Int),w.d])with|some x=>x=.int (i:Int)/\sel i (w::ws)=i::sel (i+1) ws|none=>sel i (w::ws)=sel (i+1) ws)):∀(ws:List Wy)(i:Nat),(((ws.map Wy.d).mapIdx fun j d=>D.tup [.int ((i+j:Nat):Int),d]).filterMap f)=(aO (sel i ws)).map D.int
 |[],i=>by rw[h0];rfl|w::ws,i=>by
   rw[map_cons,List.mapIdx_cons,filterMap_cons];have ih:=rC f sel h0 h1 ws (i+1);have e:(fun(j:Nat)(d:D)=>D.tup [.int ((i+(j+1):Nat):Int),d])=fun j d=>D.tup [.int ((i+1+j:Nat):Int),d]:=by funext j d;rw[show i+(j+1)=i+1+j by omega]
   rw[e,ih];have:=h1 i w ws;rw[Nat.add_zero];cases hf:f (.tup [.int (i:Int),w.d])with|none=>rw[hf]at this;simp only at this;rw[this]|some x=>rw[hf]at this;simp only at this;rw[this.2,this.1];rfl
theorem Rt:(yD ws).filterMap (inD p)=(aO (lF p 0 ws)).map D.int:=by have:=rC (inD p) (lF p) (fun _=>rfl) (fun i w ws=>by by_cases h:w.t=p<;>simp[inD,Wy.d,lF,h]) ws 0;simpa[yD]using this
theorem Ky:(yD ws).filterMap (outD p)=(aO (gR p 0 ws)).map D.int:=by have:=rC (outD p) (gR p) (fun _=>rfl) (fun i w ws=>by by_cases h:w.s=p<;>simp[outD,Wy.d,gR,h]) ws 0;simpa[yD]using this
inductive F2(a b:Sl)(ρ:List Sl):Prop where|mk(s:Sl)(t:Sl)(q0:ρ=[a,b,s,t])(q1:fr s=true)(q2:fr t=true)
theorem uw(h:aW m ws)(k:Q (.own ((aO (gR p 0 ws)).map D.int)) [.val false (aC m ws),.val false (.int p)]):(run Γ w (n+1) 9 [.val false (aC m ws),.val false (.int p)]).sat Q:=by
 refine aH (d:=f9) rfl rfl (by decide) ?_;symm;have hl:=h.len;have h1:ws.length<=lim:=by show _<=16777216;omega
 simp[f9,h1];refine gk (F2 _ _) (outD p) ⟨.aV,.aV,rfl,rfl,rfl⟩ ?_ ?_
 . rintro d hd _⟨s,t,rfl,hs,ht⟩;obtain⟨i,w,rfl,hw⟩:=xH hd;by_cases e:w.s=p;.simp[hs,ht,Wy.d,outD,e];exact⟨_,_,rfl,rfl,rfl⟩
   .simp[hs,ht,Wy.d,outD,e];exact⟨_,_,rfl,rfl,rfl⟩
 .rintro _⟨s,t,rfl,hs,ht⟩;rw[show((map Wy.d ws).mapIdx fun i d=>D.tup [.int (i:Int),d])=yD ws from rfl,Ky];generalize(aO (gR p 0 ws)).map D.int=L at*;simp;exact k
theorem Ib(h:aW m ws)(k:Q (.own ((aO (lF p 0 ws)).map D.int)) [.val false (aC m ws),.val false (.int p)]):(run Γ w (n+1) 10 [.val false (aC m ws),.val false (.int p)]).sat Q:=by
 refine aH (d:=Zt) rfl rfl (by decide) ?_;symm;have hl:=h.len;have h1:ws.length<=lim:=by show _<=16777216;omega
 simp[Zt,h1];refine gk (F2 _ _) (inD p) ⟨.aV,.aV,rfl,rfl,rfl⟩ ?_ ?_
 . rintro d hd _⟨s,t,rfl,hs,ht⟩;obtain⟨i,w,rfl,hw⟩:=xH hd;by_cases e:w.t=p;.simp[hs,ht,Wy.d,inD,e];exact⟨_,_,rfl,rfl,rfl⟩
   .simp[hs,ht,Wy.d,inD,e];exact⟨_,_,rfl,rfl,rfl⟩
 .rintro _⟨s,t,rfl,hs,ht⟩;rw[show((map Wy.d ws).mapIdx fun i d=>D.tup [.int (i:Int),d])=yD ws from rfl,Rt];generalize(aO (lF p 0 ws)).map D.int=L at*;simp;exact k
def jl(p:Int):List Wy->List Int->Int|w::ws,f::fs=>(if w.t=p then f else 0)+jl p ws fs|_,_=>0
def jm(p:Int):List Wy->List Int->Int|w::ws,f::fs=>(if w.s=p then f else 0)+jm p ws fs|_,_=>0
theorem rH{p:Int}{F:List Int}:∀(ws:List Wy)(i:Nat),F.length=i+ws.length->((lF p i ws).map fun k=>F.getD k 0).sum=jl p ws (F.drop i)/\∀k∈lF p i ws,k<F.length
 |[],i,_=>by simp[lF,jl]|w::ws,i,h=>by
   simp only[length_cons]at h;have hi:i<F.length:=by omega
   obtain⟨ih1,ih2⟩:=rH (F:=F) ws (i+1) (by omega);rw[drop_eq_getElem_cons hi,lF,jl];by_cases e:w.t=p
   . rw[if_pos e,if_pos e];refine⟨?_,fun k hk=>?_⟩;.rw[map_cons,sum_cons,ih1];simp[hi]
     . rcases mem_cons.mp hk with rfl|hk;.exact hi
       .exact ih2 k hk
   .rw[if_neg e,if_neg e];exact⟨by rw[ih1];omega,ih2⟩
theorem qX{p:Int}{F:List Int}:∀(ws:List Wy)(i:Nat),F.length=i+ws.length->((gR p i ws).map fun k=>F.getD k 0).sum=jm p ws (F.drop i)/\∀k∈gR p i ws,k<F.length
 |[],i,_=>by simp[gR,jm]|w::ws,i,h=>by
   simp only[length_cons]at h;have hi:i<F.length:=by omega
   obtain⟨ih1,ih2⟩:=qX (F:=F) ws (i+1) (by omega);rw[drop_eq_getElem_cons hi,gR,jm];by_cases e:w.s=p
   . rw[if_pos e,if_pos e];refine⟨?_,fun k hk=>?_⟩;.rw[map_cons,sum_cons,ih1];simp[hi]
     . rcases mem_cons.mp hk with rfl|hk;.exact hi
       .exact ih2 k hk
   .rw[if_neg e,if_neg e];exact⟨by rw[ih1];omega,ih2⟩
theorem qP{p:Int}:∀(ws:List Wy)(i:Nat),(lF p i ws).length<=ws.length|[],_=>cR|w::ws,i=>by have:=qP (p:=p) ws (i+1);rw[lF];split<;>simp<;>omega
theorem qU{p:Int}:∀(ws:List Wy)(i:Nat),(gR p i ws).length<=ws.length|[],_=>cR|w::ws,i=>by have:=qU (p:=p) ws (i+1);rw[gR];split<;>simp<;>omega
inductive F4(a b c d:Sl)(ρ:List Sl):Prop where|mk(s:Sl)(q0:ρ=[a,b,c,d,s])(q1:fr s=true)
theorem qQ{b:Bool}{fs:List Int}(h:aW m ws)(hf:fs.length=ws.length)(k:Q (.val (.int (jl p ws fs-jm p ws fs))) [.val false (aC m ws),.own b (fs.map D.int),.val false (.int p)]):(run Γ w (n+2) 21 [.val false (aC m ws),.own b (fs.map D.int),.val false (.int p)]).sat Q:=by
 have hn:=h.len;refine aH (d:=Vo) rfl rfl (by decide) ?_;symm;simp[Vo];refine Ib h ?_;obtain⟨t1,t2⟩:=rH (p:=p) (F:=fs) ws 0 (by omega);have hl1:=qP (p:=p) ws 0;generalize lF p 0 ws=ks at*;simp[show(aO ks).length<=lim by simp only[aO,length_map];show _<=16777216;omega];refine bH (F4 _ _ _ _) (jq fs) ⟨.aV,rfl,rfl⟩ ?_ ?_;.rintro d hd _⟨s',rfl,hs'⟩;simp only[aO,map_map,mem_map]at hd;obtain⟨k,hk,rfl⟩:=hd;obtain⟨f,hl⟩:∃f,fs[k]?=some f:=⟨_,getElem?_eq_getElem (t2 k hk)⟩;simp[hs',cB hl,jq,hl];exact⟨_,rfl,rfl⟩
 rintro _⟨s',rfl,hs'⟩;rw[jE];generalize(ks.map fun k=>fs.getD k 0)=ns at*;simp[t1];apply aj;simp;refine uw h ?_;obtain⟨u1,u2⟩:=qX (p:=p) (F:=fs) ws 0 (by omega);have hl2:=qU (p:=p) ws 0;generalize gR p 0 ws=ks at*;simp[show(aO ks).length<=lim by simp only[aO,length_map];show _<=16777216;omega];refine bH (F4 _ _ _ _) (jq fs) ⟨.aV,rfl,rfl⟩ ?_ ?_;.rintro d hd _⟨s',rfl,hs'⟩;simp only[aO,map_map,mem_map]at hd;obtain⟨k,hk,rfl⟩:=hd;obtain⟨f,hl⟩:∃f,fs[k]?=some f:=⟨_,getElem?_eq_getElem (u2 k hk)⟩;simp[hs',cB hl,jq,hl];exact⟨_,rfl,rfl⟩
 rintro _⟨s',rfl,hs'⟩;rw[jE];generalize(ks.map fun k=>fs.getD k 0)=ns at*;simp[u1];exact k
theorem rA{fs:List Int}(h:aW m ws)(hf:fs.length=ws.length)(k:Q (.val (.int (jl p ws fs-jm p ws fs))) [.val false (aC m ws),.val false (.lst (fs.map D.int)),.val false (.int p)]):(run Γ w (n+2) 21 [.val false (aC m ws),.val false (.lst (fs.map D.int)),.val false (.int p)]).sat Q:=by
 have hn:=h.len;refine aH (d:=Vo) rfl rfl (by decide) ?_;symm;simp[Vo];refine Ib h ?_;obtain⟨t1,t2⟩:=rH (p:=p) (F:=fs) ws 0 (by omega);have hl1:=qP (p:=p) ws 0;generalize lF p 0 ws=ks at*;simp[show(aO ks).length<=lim by simp only[aO,length_map];show _<=16777216;omega];refine bH (F4 _ _ _ _) (jq fs) ⟨.aV,rfl,rfl⟩ ?_ ?_;.rintro d hd _⟨s',rfl,hs'⟩;simp only[aO,map_map,mem_map]at hd;obtain⟨k,hk,rfl⟩:=hd;obtain⟨f,hl⟩:∃f,fs[k]?=some f:=⟨_,getElem?_eq_getElem (t2 k hk)⟩;simp[hs',cB hl,jq,hl];exact⟨_,rfl,rfl⟩
 rintro _⟨s',rfl,hs'⟩;rw[jE];generalize(ks.map fun k=>fs.getD k 0)=ns at*;simp[t1];apply aj;simp;refine uw h ?_;obtain⟨u1,u2⟩:=qX (p:=p) (F:=fs) ws 0 (by omega);have hl2:=qU (p:=p) ws 0;generalize gR p 0 ws=ks at*;simp[show(aO ks).length<=lim by simp only[aO,length_map];show _<=16777216;omega];refine bH (F4 _ _ _ _) (jq fs) ⟨.aV,rfl,rfl⟩ ?_ ?_;.rintro d hd _⟨s',rfl,hs'⟩;simp only[aO,map_map,mem_map]at hd;obtain⟨k,hk,rfl⟩:=hd;obtain⟨f,hl⟩:∃f,fs[k]?=some f:=⟨_,getElem?_eq_getElem (u2 k hk)⟩;simp[hs',cB hl,jq,hl];exact⟨_,rfl,rfl⟩
 rintro _⟨s',rfl,hs'⟩;rw[jE];generalize(ks.map fun k=>fs.getD k 0)=ns at*;simp[u1];exact k
def Kf(s:Sl)(fs:List Int):Prop:=s=.val false (.lst (fs.map D.int))\/∃b,s=.own b (fs.map D.int)
theorem Df{s:Sl}{fs:List Int}(hs:Kf s fs)(h:aW m ws)(hf:fs.length=ws.length)(k:Q (.val (.int (jl p ws fs-jm p ws fs))) [.val false (aC m ws),s,.val false (.int p)]):(run Γ w (n+2) 21 [.val false (aC m ws),s,.val false (.int p)]).sat Q:=by
 rcases hs with rfl|⟨b,rfl⟩;.exact rA h hf k
 .exact qQ h hf k
theorem eO(p:Int):∀(ws:List Wy)(fs:List Int),dot (fun x=>if x=p then 1 else 0) ws fs=jm p ws fs-jl p ws fs|[],_=>rfl|_::_,[]=>rfl|w::ws,f::fs=>by simp only[dot,jm,jl,eO p ws fs];by_cases e1:w.s=p<;>by_cases e2:w.t=p<;>simp[e1,e2]<;>omega
theorem DX{b:Bool}{fs:List Int}(h:aW m ws)(hf:fs.length=ws.length)(k:Q (.val (.int (dot (fun x=>if x=0 then 1 else 0) ws fs))) [.val false (aC m ws),.own b (fs.map D.int)]):(run Γ w (n+3) 22 [.val false (aC m ws),.own b (fs.map D.int)]).sat Q:=by refine aH (d:=Up) rfl rfl (by decide) ?_;symm;simp[Up];refine qQ h hf ?_;rw[eO]at k;simp;rw[show-(jl 0 ws fs-jm 0 ws fs)=jm 0 ws fs-jl 0 ws fs by omega];exact k
theorem Dk{fs:List Int}(h:aW m ws)(hf:fs.length=ws.length)(k:Q (.val (.int (dot (fun x=>if x=0 then 1 else 0) ws fs))) [.val false (aC m ws),.val false (.lst (fs.map D.int))]):(run Γ w (n+3) 22 [.val false (aC m ws),.val false (.lst (fs.map D.int))]).sat Q:=by refine aH (d:=Up) rfl rfl (by decide) ?_;symm;simp[Up];refine rA h hf ?_;rw[eO]at k;simp;rw[show-(jl 0 ws fs-jm 0 ws fs)=jm 0 ws fs-jl 0 ws fs by omega];exact k
theorem iJ{s:Sl}{fs:List Int}(hs:Kf s fs)(h:aW m ws)(hf:fs.length=ws.length)(k:Q (.val (.int (dot (fun x=>if x=0 then 1 else 0) ws fs))) [.val false (aC m ws),s]):(run Γ w (n+3) 22 [.val false (aC m ws),s]).sat Q:=by
 rcases hs with rfl|⟨b,rfl⟩;.exact Dk h hf k
 .exact DX h hf k
def Within(ws:List Wy)(fs:List Int):Prop:=∀(k:Nat)(w:Wy)(f:Int),ws[k]?=some w->fs[k]?=some f->0<=f/\f<=w.r
def over(p:Int)(ws:List Wy)(fs:List Int):Int:=jm p ws fs-jl p ws fs
def yX(m:Int)(ws:List Wy)(fs:List Int):Prop:=fs.length=ws.length/\Within ws fs/\0<=over 0 ws fs/\∀p,1<=p->p<m-1->over p ws fs=0
def cX:Sl->Sl|.own b ds=>.val b (.lst ds)|s=>s
def Z2:D->D|.tup [.int f,.tup (_::_::.int r::_)]=>.bl (decide (0<=f)&&decide (f<=r))|d=>d
theorem O2:∀(fs:List Int)(ws:List Wy),((fs.map D.int).zip (ws.map Wy.d)).map (fun p=>D.tup [p.1,p.2])=(fs.zip ws).map fun p=>D.tup [.int p.1,p.2.d]|[],_=>by simp|_::_,[]=>by simp|f::fs,w::ws=>by simp[O2 fs ws]
theorem S6(zs:List (Int×Wy)):(zs.map fun p=>D.tup [.int p.1,p.2.d]).map Z2=(zs.map fun p=>(decide (0<=p.1)&&decide (p.1<=p.2.r))).map D.bl:=by rw[map_map,map_map];rfl
theorem Gy:∀{ws:List Wy}{fs:List Int},((fs.zip ws).map fun p=>(decide (0<=p.1)&&decide (p.1<=p.2.r))).all id=true↔Within ws fs
 |[],fs=>by simp[Within]|_::_,[]=>by simp[Within]|w::ws,f::fs=>by
   rw[List.zip_cons_cons,map_cons,all_cons,and_eq_true,Gy (ws:=ws) (fs:=fs)];constructor;.rintro⟨h1,h2⟩k v g e1 e2;cases k with|zero=>simp at e1 e2;subst e1 e2;simpa using h1|succ k=>exact h2 k v g (by simpa using e1) (by simpa using e2)
   .intro h;exact⟨by simpa using h 0 w f rfl rfl,fun k v g e1 e2=>h (k+1) v g (by simpa using e1) (by simpa using e2)⟩
inductive FW(b:Sl)(a:Sl)(ρ:List Sl):Prop where|mk(s:Sl)(t:Sl)(q0:ρ=[a,b,s,t])(q1:fr s=true)(q2:fr t=true)
theorem qH{s:Sl}{fs:List Int}(hs:Kf s fs)(h:aW m ws)(hf:fs.length=ws.length)(k:∀b:Bool,(b=true↔Within ws fs)->Q (.val (.bl b)) [.val false (aC m ws),cX s]):(run Γ w (n+1) 23 [.val false (aC m ws),s]).sat Q:=by have hn:=h.len;refine aH (d:=f23) rfl rfl (by decide) ?_;symm;have hk:=k _ Gy;rcases hs with rfl|⟨b,rfl⟩;all_goals
  simp only[cX]at hk;simp[f23,show fs.length<=lim by show _<=16777216;omega];rw[O2];refine⟨fun _=>?_,by show _<=16777216;omega⟩;refine bH (FW _ _) Z2 ⟨.aV,.aV,rfl,rfl,rfl⟩ ?_ ?_
  . rintro d hd _⟨s1,s2,rfl,h1,h2⟩;obtain⟨⟨f,v⟩,_,rfl⟩:=mem_map.mp hd;by_cases e:0<=f;.simp[h1,h2,Wy.d,Z2,e];exact⟨_,_,rfl,rfl,rfl⟩
    .simp[h1,h2,Wy.d,Z2,e];exact⟨_,_,rfl,rfl,rfl⟩
  .rintro _⟨s1,s2,rfl,h1,h2⟩;rw[S6];generalize((fs.zip ws).map fun p=>(decide (0<=p.1)&&decide (p.1<=p.2.r)))=bs at hk ⊢;simp;simpa using hk
def stD(ws:List Wy)(fs:List Int):D->D|.int p=>.bl (decide (jl p ws fs-jm p ws fs=0))|d=>d
inductive FO(a b:Sl)(ρ:List Sl):Prop where|mk(s:Sl)(q0:ρ=[a,b,s])(q1:fr s=true)
theorem GP{fs:List Int}(m0:2<=m):(((List.range (m-1-1).toNat).map fun(k:Nat)=>decide (jl (1+(k:Int)) ws fs-jm (1+(k:Int)) ws fs=0)).all id=true)↔∀p,1<=p->p<m-1->over p ws fs=0:=by
 rw[all_map,all_eq_true];constructor;.intro h p h1 h2;have:=h (p-1).toNat (mem_range.mpr (by omega));simp only[Function.comp,id,decide_eq_true_eq]at this;rw[show 1+((p-1).toNat:Int)=p by omega]at this;unfold over;omega
 .intro h k hk;rw[mem_range]at hk;have:=h (1+k) (by omega) (by omega);simp only[Function.comp,id,decide_eq_true_eq];unfold over at this;omega
theorem IW{fs:List Int}:((List.range N).map fun(k:Nat)=>D.int (1+(k:Int))).map (stD ws fs)=((List.range N).map fun(k:Nat)=>decide (jl (1+(k:Int)) ws fs-jm (1+(k:Int)) ws fs=0)).map D.bl:=by rw[map_map,map_map];rfl
theorem DN{s:Sl}{fs:List Int}(hs:Kf s fs)(h:aW m ws)(k:∀(b:Bool)(s':Sl),(b=true↔yX m ws fs)->(s'=s\/s'=cX s)->Q (.val (.bl b)) [.val false (aC m ws),s']):(run Γ w (n+4) 24 [.val false (aC m ws),s]).sat Q:=by
 have hn:=h.len;have m0:=h.m0;have m1:=h.m1;refine aH (d:=Wn) rfl rfl (by decide) ?_;symm;by_cases hf:fs.length=ws.length;.have e1:∀s',Kf s' fs->s'=.val false (.lst (fs.map D.int))\/∃b,s'=.own b (fs.map D.int):=fun _ z=>z;rcases hs with rfl|⟨b,rfl⟩;all_goals
    simp[Wn,hf];refine qH (by first|exact .inl rfl|exact .inr ⟨_,rfl⟩) h hf fun bw hbw=>?_;simp[cX];refine⟨fun hb=>?_,fun hb=>?_⟩;.subst hb;symm;simp;exact k false _ ⟨fun z=>noConfusion z,fun z=>noConfusion (hbw.mpr z.2.1)⟩ (.inr rfl)
    subst hb;have hwi:=hbw.mp rfl;symm;simp;refine iJ (.inl rfl) h hf ?_;rw[eO];simp;refine⟨fun hlt=>?_,fun hge=>?_⟩;.symm;simp;exact k false _ ⟨fun z=>noConfusion z,fun z=>by have:=z.2.2.1;unfold over at this;omega⟩ (.inr rfl)
    symm;simp[show m-1<=1000000000 by omega,show-1000000000<=m-1 by omega];refine⟨fun _=>?_,by omega⟩;rw[show m.toNat-1-1=(m-1-1).toNat by omega];refine bH (FO _ _) (stD ws fs) ⟨.aV,rfl,rfl⟩ ?_ ?_;.rintro d hd _⟨s1,rfl,h1⟩;obtain⟨j,_,rfl⟩:=mem_map.mp hd;simp[h1];refine Df (.inl rfl) h hf ?_;simp[stD];exact⟨rfl,_,rfl,rfl⟩
    .rintro _⟨s1,rfl,h1⟩;have ha:=GP (m:=m) (ws:=ws) (fs:=fs) m0;rw[IW];generalize((List.range (m-1-1).toNat).map fun(k:Nat)=>decide (jl (1+(k:Int)) ws fs-jm (1+(k:Int)) ws fs=0))=bs at ha ⊢;simp;have hk:=k (bs.all id) _ ⟨fun z=>⟨hf,hwi,by unfold over;omega,ha.mp z⟩,fun z=>ha.mpr z.2.2.2⟩ (.inr rfl);simpa[cX]using hk
 . have hf':¬(fs.length:Int)=(ws.length:Int):=by omega
   rcases hs with rfl|⟨b,rfl⟩;all_goals simp[Wn,hf'];apply aj;simp;exact k false _ ⟨fun z=>noConfusion z,fun z=>absurd z.1 hf⟩ (.inl rfl)
def bM(S:List Int):List Wy->Int|[]=>0|w::ws=>(if w.s∈S/\w.t∉S then w.r else 0)+bM S ws
def cutD(S:List Int):D->Option D|.tup [.int s,.int t,r,_]=>if s∈S/\t∉S then some r else none|_=>none
theorem Bv{S:List Int}:∀ws:List Wy,∃ns:List Int,(ws.map Wy.d).filterMap (cutD S)=ns.map D.int/\ns.sum=bM S ws
 |[]=>⟨[],rfl,rfl⟩|w::ws=>by
   obtain⟨ns,h1,h2⟩:=Bv ws;rw[map_cons,filterMap_cons,h1,bM,<-h2];by_cases e:w.s∈S/\w.t∉S;.rw[if_pos e,show cutD S w.d=some (.int w.r)by simp only[cutD,Wy.d];rw[if_pos e]];exact⟨w.r::ns,rfl,by simp⟩
   .rw[if_neg e,show cutD S w.d=none by simp only[cutD,Wy.d];rw[if_neg e]];exact⟨ns,rfl,by omega⟩
inductive F2o(a b:Sl)(ρ:List Sl):Prop where|mk(s:Sl)(q0:ρ=[a,b,s])(q1:fr s=true)
theorem GC{S:List Int}(h:aW m ws)(k:Q (.val (.int (bM S ws))) [.val false (aC m ws),.val false (.tup (S.map D.int))]):(run Γ w (n+1) 26 [.val false (aC m ws),.val false (.tup (S.map D.int))]).sat Q:=by
 have hn:=h.len;refine aH (d:=Zg) rfl rfl (by decide) ?_;symm;simp[Zg,show ws.length<=lim by show _<=16777216;omega];refine gk (F2o _ _) (cutD S) ⟨.aV,rfl,rfl⟩ ?_ ?_
 . rintro d hd _⟨s',rfl,hs'⟩;obtain⟨v,_,rfl⟩:=mem_map.mp hd;by_cases e1:v.s∈S
   . by_cases e2:v.t∈S;.simp[hs',cutD,Wy.d,lD,gq,e1,e2];exact⟨_,rfl,rfl⟩
     .simp[hs',cutD,Wy.d,lD,gq,e1,e2];exact⟨_,rfl,rfl⟩
   .simp[hs',cutD,Wy.d,lD,gq,e1];exact⟨_,rfl,rfl⟩
 .rintro _⟨s',rfl,hs'⟩;obtain⟨ns,h1,h2⟩:=Bv (S:=S) ws;rw[h1];simp[h2];exact k
inductive JR(m:Int)(ws:List Wy)(S:List Int)(r:List D)(ρ:List Sl):Prop where|mk(us:List Wy)(f:Int)(s3 s4 s5 s6:Sl)(q0:ρ=[.val false (aC m ws),.val false (.tup (S.map D.int)),.val false (.int f),s3,s4,s5,s6])(q1:A4 (fr s3=true) (fr s4=true) (fr s5=true) (fr s6=true))(q2:r=us.map Wy.d)(q3:f+bM S us=bM S ws)
theorem Ek{S:List Int}(h:aW m ws)(k:Q (.val (.int (bM S ws))) [.val false (aC m ws),.val false (.tup (S.map D.int))]):(run Γ w (n+1) 43 [.val false (aC m ws),.val false (.tup (S.map D.int))]).sat Q:=by
 have hn:=h.len;refine aH (d:=Zh) rfl rfl (by decide) ?_;symm;simp[Zh];apply aj;simp;refine cu (JR m ws S) ?_ ?_ ⟨ws,0,.aV,.aV,.aV,.aV,rfl,⟨rfl,rfl,rfl,rfl⟩,rfl,by omega⟩;.rintro d r _⟨us,f,s3,s4,s5,s6,rfl,⟨h3,h4,h5,h6⟩,hr,hf⟩;cases us with|nil=>cases hr|cons v us=>
     obtain⟨rfl,rfl⟩:d=v.d/\r=us.map Wy.d:=by simpa using hr
     simp[h3,h4,h5,h6,Wy.d];rw[bM]at hf;symm;by_cases e1:v.s∈S
     . by_cases e2:v.t∈S;.rw[if_neg (fun h=>h.2 e2)]at hf;simp[lD,gq,e1,e2];exact⟨us,f,_,_,_,_,rfl,⟨rfl,rfl,rfl,rfl⟩,rfl,by omega⟩
       .rw[if_pos ⟨e1,e2⟩]at hf;simp[lD,gq,e1,e2];apply aj;simp;exact⟨us,f+v.r,_,_,_,_,rfl,⟨rfl,rfl,rfl,rfl⟩,rfl,by omega⟩
     .rw[if_neg (fun h=>e1 h.1)]at hf;simp[lD,gq,e1];exact⟨us,f,_,_,_,_,rfl,⟨rfl,rfl,rfl,rfl⟩,rfl,by omega⟩
 . rintro _⟨us,f,s3,s4,s5,s6,rfl,_,hr,hf⟩;have:us=[]:=by cases us with|nil=>rfl|cons _ _=>cases hr
   subst this;symm;simp;rw[show f=bM S ws by rw[<-hf];show f=f+0;omega];exact k
def uX:List Int->Bool|a::b::r=>decide (a<b)&&uX (b::r)|_=>true
theorem wy:∀S:List Int,((S.zip S.tail).map fun p=>decide (p.1<p.2)).all id=uX S|[]=>rfl|[_]=>rfl|a::b::r=>by have ih:=wy (b::r);simp only[List.tail_cons,List.zip_cons_cons,map_cons,all_cons,uX]at ih ⊢;rw[ih];rfl
def ltI:D->D|.tup [.int a,.int b]=>.bl (decide (a<b))|d=>d
@[simp]theorem afr{a b:Int}:ltI (.tup [.int a,.int b])=.bl (decide (a<b)):=rfl
theorem Av:∀(S T:List Int),((S.map D.int).zip (T.map D.int)).map (fun p=>D.tup [p.1,p.2])=(S.zip T).map fun p=>D.tup [.int p.1,.int p.2]|[],_=>by simp|_::_,[]=>by simp|a::S,b::T=>by simp[Av S T]
theorem K8(zs:List (Int×Int)):(zs.map fun p=>D.tup [.int p.1,.int p.2]).map ltI=(zs.map fun p=>decide (p.1<p.2)).map D.bl:=by rw[map_map,map_map];rfl
theorem Jm(S:List Int):cut (S.map D.int) (some 1) none=S.tail.map D.int:=by cases S with|nil=>rfl|cons a r=>simp[cut,cZ];exact List.take_of_length_le (by simp)
inductive FR1(a0:Sl)(ρ:List Sl):Prop where|mk(s:Sl)(t:Sl)(q0:ρ=[a0,s,t])(q1:fr s=true)(q2:fr t=true)
theorem FZ{bs:List Bool}:(bs.map D.bl).mapM xP=some bs:=by induction bs with|nil=>rfl|cons b bs ih=>simp[ih]
theorem zL{S:List Int}(hl:S.length<=1000)(q:Q (.val (.bl (uX S))) [.val false (.tup (S.map D.int))]):(run Γ w (n+1) 8 [.val false (.tup (S.map D.int))]).sat Q:=by
 refine aH (d:=f8) rfl rfl (by decide) ?_;symm;simp[f8,CJ,part,xx,Jm];rw[<-List.map_tail,Av];refine⟨fun _=>?_,by show _<=16777217;omega⟩;refine bH (FR1 _) ltI ⟨.aV,.aV,rfl,rfl,rfl⟩ ?_ ?_;.rintro d hd _⟨s,t,rfl,hs,ht⟩;obtain⟨⟨x,y⟩,hxy,rfl⟩:=mem_map.mp hd;simp[hs,ht];exact⟨_,_,rfl,rfl,rfl⟩
 .rintro _⟨s,t,rfl,hs,ht⟩;rw[K8];simp only[Qq,Lg,FZ,Option.map_some,rY,bO,FN,wy];simp;exact q
def sO(m:Int)(S:List Int):Bool:=match S with|[]=>false|a::r=>uX (a::r)&&(decide (a=0)&&decide ((a::r).getLast (by simp)<m-1))
theorem MP{α:Type}{a:α}{r:List α}:at' (a::r) (-1)=some ((a::r).getLast (by simp)):=by unfold at' iD;rw[if_neg (by omega),if_pos (by simp only[length_cons];omega)];show(a::r)[(-1+((a::r).length:Int)).toNat]?=_;rw[show(-1+((a::r).length:Int)).toNat=(a::r).length-1 by simp only[length_cons];omega,<-List.getLast?_eq_getElem?,List.getLast?_eq_some_getLast (by simp)]
theorem zm:cm .eq (.tup [.int a]) (.tup [.int b])=some (a==b&&true):=rfl
theorem JD{S:List Int}(hl:S.length<=1000)(k:Q (.val (.bl (sO m S))) [.val false (aC m ws),.val false (.tup (S.map D.int))]):(run Γ w (n+2) 25 [.val false (aC m ws),.val false (.tup (S.map D.int))]).sat Q:=by refine aH (d:=f25) rfl rfl (by decide) ?_;symm;simp[f25];refine zL hl ?_;cases S with|nil=>simp[uX,CJ,part,xx,cut,cZ];exact k|cons a r=>simp only[sO]at k;cases e:uX (a::r)with|false=>rw[e]at k;simp;exact k|true=>
     rw[e]at k;have ec:cut (D.int a::r.map D.int) none (some 1)=[.int a]:=by simp[cut,cZ]
     simp[CJ,part,xx,ec];by_cases ha:a=0
     . subst ha;have el:at' (D.int 0::r.map D.int) (-1)=some (.int ((0::r).getLast (by simp))):=by have:=MP (a:=D.int 0) (r:=r.map D.int);rw[this];congr 1;have:=List.getLast_map (f:=D.int) (l:=0::r) (by simp);simpa using this
       simp[zm,el];simpa using k
     .simp[zm,ha];simpa[ha]using k
def lR(r:Int)(fs S:List Int):D:=.tup [.int r,.lst (fs.map D.int),.tup (S.map D.int)]
def Wb(m:Int)(ws:List Wy)(r:Int)(fs S:List Int):Prop:=yX m ws fs/\sO m S=true/\over 0 ws fs=r/\bM S ws=r
theorem HX{fs S:List Int}(h:aW m ws)(hl:S.length<=60)(k:∀b:Bool,(b=true↔Wb m ws r fs S)->Q (.val (.bl b)) [.val false (aC m ws),.val false (lR r fs S)]):(run Γ w (n+5) 34 [.val false (aC m ws),.val false (lR r fs S)]).sat Q:=by
 refine aH (d:=Zr) rfl rfl (by decide) ?_;symm;simp[Zr,lR];refine DN (s:=.val false (.lst (fs.map D.int))) (.inl rfl) h fun b s' hb hs'=>?_;have hs':s'=.val false (.lst (fs.map D.int)):=by rcases hs' with z|z<;>exact z
 subst hs';cases b with|false=>simp;apply aj;simp;exact k false ⟨fun z=>noConfusion z,fun z=>by have:=hb.mpr z.1;cases this⟩|true=>have hr:=hb.mp rfl;simp;refine JD (by omega) ?_;cases e:sO m S with|false=>simp;apply aj;simp;exact k false ⟨fun z=>noConfusion z,fun z=>by have:=z.2.1;rw[e]at this;exact this⟩|true=>
     simp;apply aj;simp;refine iJ (s:=.val false (.lst (fs.map D.int))) (.inl rfl) h hr.1 ?_;rw[eO,show jm 0 ws fs-jl 0 ws fs=over 0 ws fs from rfl];by_cases e1:over 0 ws fs=r;.simp[e1];refine GC h ?_;simp;exact k _ ⟨fun z=>⟨hr,e,e1,by simpa using z⟩,fun z=>by simpa using z.2.2.2⟩
     .simp[e1];exact k false ⟨fun z=>noConfusion z,fun z=>absurd z.2.2.1 e1⟩
theorem Xi{k:Int}(h0:0<=k)(h1:k<(ws.length:Int)):∃v,ws[k.toNat]?=some v/\v∈ws/\at' (ws.map Wy.d) k=some v.d:=by
 have hk:k.toNat<ws.length:=by omega
 refine⟨ws[k.toNat],by simp[hk],getElem_mem hk,?_⟩;rw[jk h0 (by simpa using h1)];simp[hk]
theorem wA:DK v.d (.int 0)=some (.val (.int v.s)):=by simp[Wy.d]
theorem wV:DK v.d (.int 1)=some (.val (.int v.t)):=by simp[Wy.d]
theorem pW:DK v.d (.int 2)=some (.val (.int v.r)):=by simp[Wy.d]
theorem KQ:DK v.d (.int 3)=some (.val (.int v.h)):=by simp[Wy.d]
inductive Wk(ws:List Wy)(a:Int):Int->Int->Prop where|nil:Wk ws a a 0|step{p h:Int}{v:Wy}(k:Wk ws a p h)(hv:v∈ws)(r:0<v.r)(s:v.s=p):Wk ws a v.t (h+v.h)
theorem Wk.nn(hn:aW m ws)(a0:0<=a)(a1:a<m)(k:Wk ws a p h):0<=h/\0<=p/\p<m:=by induction k with|nil=>omega|step k hv r s ih=>have h1:=hn.ok _ hv;have:=h1.h0;have:=h1.t0;have:=h1.t1;omega
theorem Wk.trans{q:Int}(k:Wk ws a p h)(l:Wk ws p q g):Wk ws a q (h+g):=by induction l with|nil=>simpa using k|@step p' g' v l hv r s ih=>rw[<-Int.add_assoc];exact .step ih hv r s
theorem Wk.one(hv:v∈ws)(r:0<v.r):Wk ws v.s v.t v.h:=by have:=Wk.step (.nil:Wk ws v.s v.s 0) hv r rfl;simpa using this
theorem Wk.first(k:Wk ws a b h):(a=b/\h=0)\/∃v∈ws,0<v.r/\v.s=a/\∃g,Wk ws v.t b g/\h=v.h+g:=by induction k with|nil=>exact .inl ⟨rfl,rfl⟩|@step p h v k hv r s ih=>
   right;rcases ih with⟨e,rfl⟩|⟨u,hu,ru,su,g,z,e⟩;.subst e;exact⟨v,hv,r,s,0,.nil,by omega⟩
   .exact⟨u,hu,ru,su,g+v.h,.step z hv r s,by omega⟩
def jT(ws:List Wy)(a p:Int)(o:Option Int):Prop:=match o with|none=>∀h,¬ Wk ws a p h|some v=>Wk ws a p v/\∀h,Wk ws a p h->v<=h
theorem jT.uniq{o o':Option Int}(h:jT ws a p o)(h':jT ws a p o'):o=o':=by cases o with
 |none=>cases o' with|none=>rfl|some v=>exact absurd h'.1 (h v)
 |some u=>cases o' with|none=>exact absurd h.1 (h' u)|some v=>have:=h.2 v h'.1;have:=h'.2 u h.1;congr 1;omega
theorem jT.iff{us:List Wy}{q:Int}{o:Option Int}(e:∀h,Wk us a p h↔Wk ws b q h)(k:jT us a p o):jT ws b q o:=by cases o with|none=>exact fun h z=>k h ((e h).mpr z)|some v=>exact⟨(e v).mp k.1,fun h z=>k.2 h ((e h).mpr z)⟩
def oD:Option Int->D|none=>.non|some i=>.int i
def dJ(ws:List Wy)(ps:List Int)(k:Int):Option (List Int):=if 0<=k/\k<ws.length then match ws[k.toNat]?with|some v=>if v.r<1 then none else if ps=[]then(if v.t=v.s then none else some [v.s,v.t])else if ps.getLast?=some v.s/\v.t∉ps then some (ps++[v.t])else none|none=>none else none
def kj(ws:List Wy):List Int->List Int->Option (List Int)|[],ps=>some ps|k::r,ps=>match dJ ws ps k with|some qs=>kj ws r qs|none=>none
def hh(ws:List Wy)(k:Int):Int:=match ws[k.toNat]?with|some v=>v.h|none=>0
def tot(ws:List Wy)(l:List Int):Int:=(l.map (hh ws)).sum
theorem BW{qs:List Int}{k:Int}(h:dJ ws ps k=some qs):0<=k/\k<(ws.length:Int)/\qs.length<=ps.length+2/\qs≠[]:=by
 unfold dJ at h;by_cases e:0<=k/\k<(ws.length:Int)
 . rw[if_pos e]at h;refine⟨e.1,e.2,?_⟩;split at h
   . split at h;.cases h
     . split at h
       . split at h;.cases h
         .cases h;rename_i z _;rw[z];simp
       . split at h;.cases h;simp
         .cases h
   .cases h
 .rw[if_neg e]at h;cases h
def Il:Option Int->Nat|none=>6000001|some v=>v.toNat
def meas(hs:List (Option Int)):Nat:=(hs.map Il).sum
def cnt(hs:List (Option Int)):Nat:=(hs.filter Option.isSome).length
theorem xN:∀{hs:List (Option Int)}{k:Nat}{o n:Option Int},hs[k]?=some o->Il n<Il o->meas (hs.set k n)<meas hs|[],_,_,_,h,_=>by simp at h|x::hs,0,o,n,h,l=>by simp at h;subst h;simp only[meas,List.set_cons_zero,map_cons,sum_cons];omega|x::hs,k+1,o,n,h,l=>by have:=xN (hs:=hs) (k:=k) (by simpa using h) l;simp only[meas,set_cons_succ,map_cons,sum_cons]at this ⊢;omega
theorem BJ:∀(hs:List (Option Int)),(∀o∈hs,Il o<=6000001)->meas hs<=6000001*hs.length|[],_=>by simp[meas]|x::hs,h=>by have h1:=h x (by simp);have h2:=BJ hs fun o ho=>h o (by simp[ho]);simp only[meas,map_cons,sum_cons,length_cons]at h2 ⊢;omega
theorem jR:∀{hs:List (Option Int)}{k:Nat}{v:Int},hs[k]?=some none->cnt (hs.set k (some v))=cnt hs+1|[],_,_,h=>by simp at h|x::hs,0,v,h=>by simp at h;subst h;simp[cnt]|x::hs,k+1,v,h=>by have:=jR (hs:=hs) (k:=k) (v:=v) (by simpa using h);simp only[cnt,set_cons_succ,filter_cons]at this ⊢;split<;>simp[this]
theorem oO:∀{hs:List (Option Int)}{k:Nat}{u v:Int},hs[k]?=some (some u)->cnt (hs.set k (some v))=cnt hs|[],_,_,_,h=>by simp at h|x::hs,0,u,v,h=>by simp at h;subst h;simp[cnt]|x::hs,k+1,u,v,h=>by have:=oO (hs:=hs) (k:=k) (v:=v) (by simpa using h);simp only[cnt,set_cons_succ,filter_cons]at this ⊢;split<;>simp[this]
theorem za(hs:List (Option Int)):cnt hs<=hs.length:=length_filter_le _ _
structure Ez(m:Int)(ws:List Wy)(a0:Int)(hs:List (Option Int)):Prop where
 len:(hs.length:Int)=m
 zero:hs[a0.toNat]?=some (some 0)wk:∀(p:Nat)(v:Int),hs[p]?=some (some v)->Wk ws a0 p v/\v<=1000000*((cnt hs:Int)-1)
def mH(hs:List (Option Int))(v:Wy):Prop:=0<v.r->∀a:Int,hs[v.s.toNat]?=some (some a)->∃b:Int,hs[v.t.toNat]?=some (some b)/\b<=a+v.h
theorem Ez.pot(hn:aW m ws){hs:List (Option Int)}(h:Ez m ws a0 hs):∀o∈hs,Il o<=6000001:=by intro o ho;obtain⟨p,hp,e⟩:=getElem_of_mem ho;cases o with|none=>exact cR|some v=>have h1:=(h.wk p v (by rw[getElem?_eq_getElem hp,e])).2;have h2:=za hs;have h3:=h.len;have h4:=hn.m1;show v.toNat<=_;omega
theorem Ez.upd(hn:aW m ws)(z0:0<=a0)(z1:a0<m){hs:List (Option Int)}(h:Ez m ws a0 hs)(hv:v∈ws)(r:0<v.r){o:Option Int}(ha:hs[v.s.toNat]?=some (some a))(ho:hs[v.t.toNat]?=some o)(hl:∀b,o=some b->a+v.h<b):Ez m ws a0 (hs.set v.t.toNat (some (a+v.h)))/\meas (hs.set v.t.toNat (some (a+v.h)))<meas hs:=by
 have hk:=hn.ok v hv;have s0:=hk.s0;have t0:=hk.t0;have h0:=hk.h0;have h1:=hk.h1;obtain⟨wa,la⟩:=h.wk _ _ ha;rw[show((v.s.toNat:Nat):Int)=v.s by omega]at wa;have an:=(wa.nn hn z0 z1).1;have wt:Wk ws a0 v.t (a+v.h):=.step wa hv r rfl;have hlt:=(cV ho).1;have hnz:v.t.toNat≠a0.toNat:=by intro e;rw[e,h.zero]at ho;cases ho;have:=hl 0 rfl;omega
 have hc:(cnt hs:Int)<=cnt (hs.set v.t.toNat (some (a+v.h)))/\a+v.h<=1000000*((cnt (hs.set v.t.toNat (some (a+v.h))):Int)-1):=by cases o with|none=>rw[jR ho];omega|some b=>rw[oO ho];have:=(h.wk _ _ ho).2;have:=hl b rfl;omega
 refine⟨⟨by rw[length_set];exact h.len,by rw[getElem?_set_ne hnz];exact h.zero,fun p u e=>?_⟩,xN ho ?_⟩
 . by_cases hp:p=v.t.toNat;.subst hp;rw[getElem?_set_self hlt]at e;cases e;refine⟨by rw[show((v.t.toNat:Nat):Int)=v.t by omega];exact wt,hc.2⟩
   .rw[fZ hp]at e;obtain⟨w1,w2⟩:=h.wk p u e;exact⟨w1,by omega⟩
 .cases o with|none=>show(a+v.h).toNat<6000001;have h2:=za hs;have h3:=h.len;have h4:=hn.m1;omega|some b=>have:=hl b rfl;show(a+v.h).toNat<b.toNat;omega
theorem Ez.least(z0:0<=a0)(hn:aW m ws){hs:List (Option Int)}(h:Ez m ws a0 hs)(hr:∀v∈ws,mH hs v):∀(p:Nat)(o:Option Int),hs[p]?=some o->jT ws a0 p o:=by
 have key:∀(p g:Int),Wk ws a0 p g->∃b:Int,hs[p.toNat]?=some (some b)/\b<=g:=by intro p g k;induction k with|nil=>exact⟨0,h.zero,Int.le_refl _⟩|@step p g v k hv r s ih=>obtain⟨a,ha,la⟩:=ih;obtain⟨b,hb,lb⟩:=hr v hv r a (by rw[s];exact ha);exact⟨b,hb,by omega⟩
 intro p o e;cases o with|none=>intro g k;obtain⟨b,hb,_⟩:=key _ _ k;rw[show((p:Nat):Int).toNat=p by omega,e]at hb;cases hb|some v=>refine⟨(h.wk p v e).1,fun g k=>?_⟩;obtain⟨b,hb,l⟩:=key _ _ k;rw[show((p:Nat):Int).toNat=p by omega,e]at hb;cases hb;exact l
theorem Ez.start(hn:aW m ws)(z0:0<=a0)(z1:a0<m):Ez m ws a0 ((replicate m.toNat none).set a0.toNat (some 0)):=by
 have m0:=hn.m0;refine⟨by rw[length_set,length_replicate];omega,getElem?_set_self (by rw[length_replicate];omega),fun p v e=>?_⟩;by_cases hp:p=a0.toNat;.subst hp;rw[getElem?_set_self (by rw[length_replicate];omega)]at e;cases e;refine⟨by rw[show((a0.toNat:Nat):Int)=a0 by omega];exact .nil,?_⟩;rw[jR (by rw[getElem?_replicate,if_pos (by omega)])];omega
 .rw[fZ hp,getElem?_replicate]at e;split at e<;>cases e
theorem pR{α:Type}{l:List α}{f:α->D}{x:α}(h0:0<=i)(h:l[i.toNat]?=some x):at' (l.map f) i=some (f x):=by have:=cB (f:=f) h;rwa[show((i.toNat:Nat):Int)=i by omega]at this
theorem HJ(h0:0<=i)(h:i<n):iD n i=some i.toNat:=by have:=uN (n:=n) (k:=i.toNat) (by omega);rwa[show((i.toNat:Nat):Int)=i by omega]at this
@[simp]theorem Ka:iH (oD none)=true:=rfl
@[simp]theorem Kg{v:Int}:iH (oD (some v))=false:=rfl
inductive PJ(m:Int)(ws:List Wy)(a0:Int)(M:Nat)(r:List D)(ρ:List Sl):Prop where|mk(hs:List (Option Int))(b:Bool)(us pre:List Wy)(s4 s5:Sl)(q0:ρ=[.val false (aC m ws),.val false (.int a0),.own false (hs.map oD),.val false (.bl b),s4,s5])(q1:fr s4=true)(q2:fr s5=true)(q3:r=us.map Wy.d)(q4:ws=pre++us)(q5:Ez m ws a0 hs)(q6:meas hs<=M)(q7:((b=true/\meas hs<M)\/(b=false/\∀v∈pre,mH hs v)))
inductive WJ(m:Int)(ws:List Wy)(a0:Int)(M:Nat)(ρ:List Sl):Prop where|mk(hs:List (Option Int))(b:Bool)(s4 s5:Sl)(q0:ρ=[.val false (aC m ws),.val false (.int a0),.own false (hs.map oD),.val false (.bl b),s4,s5])(q1:fr s4=true)(q2:fr s5=true)(q3:Ez m ws a0 hs)(q4:((b=true/\meas hs<M)\/(b=false/\∀v∈ws,mH hs v)))
theorem Ie(hw:50000000<=w)(h:aW m ws)(z0:0<=a0)(z1:a0<m)(k:∀hs:List (Option Int),(hs.length:Int)=m->(∀(p:Nat)(o:Option Int),hs[p]?=some o->jT ws a0 p o)->(∀(p:Nat)(v:Int),hs[p]?=some (some v)->0<=v/\v<=6000000)->Q (.own (hs.map oD)) [.val false (aC m ws),.val false (.int a0)]):(run Γ w (n+1) 16 [.val false (aC m ws),.val false (.int a0)]).sat Q:=by
 have m0:=h.m0;have m1:=h.m1;refine aH (d:=f16) rfl rfl (by decide) ?_;refine cP (fun ρ=>ρ=[.val false (aC m ws),.val false (.int a0),.own false ((replicate m.toNat (none:Option Int)).map oD),.aV,.aV,.aV]) ?_ ?_;.simp[f16,oD];refine⟨by omega,by show _<=16777216;omega⟩
 rintro _ rfl;refine cP (fun ρ=>ρ=[.val false (aC m ws),.val false (.int a0),.own false (((replicate m.toNat (none:Option Int)).set a0.toNat (some 0)).map oD),.aV,.aV,.aV]) ?_ ?_;.simp[HJ (n:=m.toNat) (i:=a0) z0 (by omega),oD]
 rintro _ rfl;have hst:=Ez.start h z0 z1;generalize((replicate m.toNat (none:Option Int)).set a0.toNat (some 0))=hs0 at*;symm;simp;apply aj;simp;have hm0:meas hs0<=6000001*hs0.length:=BJ hs0 (hst.pot h);have hl0:=hst.len;refine fu (WJ m ws a0) ?_ (k:=w) (m:=meas hs0+1) (by omega) ⟨hs0,true,.aV,.aV,rfl,rfl,rfl,hst,.inl ⟨rfl,Nat.lt_succ_self _⟩⟩;rintro M _⟨hs,b,s4,s5,rfl,h4,h5,hh,hb⟩;simp;rcases hb with⟨rfl,hM⟩|⟨rfl,aeR⟩
 . simp;symm;simp;apply aj;simp;refine cu (PJ m ws a0 (meas hs)) ?_ ?_ ⟨hs,false,ws,[],s4,s5,rfl,h4,h5,rfl,rfl,hh,cR,.inr ⟨rfl,by simp⟩⟩;.rintro d r _⟨hs',b,us,pre,s4,s5,rfl,h4,h5,hr,hws,hh',hle,hb⟩;cases us with|nil=>cases hr|cons v us=>
       obtain⟨rfl,rfl⟩:d=v.d/\r=us.map Wy.d:=by simpa using hr
       have hv:v∈ws:=by rw[hws];simp
       have hk:=h.ok v hv;have s0:=hk.s0;have s1:=hk.s1;have t0:=hk.t0;have t1:=hk.t1;have hlen:=hh'.len;obtain⟨os,es⟩:∃o,hs'[v.s.toNat]?=some o:=⟨_,getElem?_eq_getElem (by omega)⟩;obtain⟨ot,et⟩:∃o,hs'[v.t.toNat]?=some o:=⟨_,getElem?_eq_getElem (by omega)⟩;have as:=pR (f:=oD) s0 es;have at_:=pR (f:=oD) t0 et;have ixt:iD hs'.length v.t=some v.t.toNat:=HJ t0 (by omega);have J5:ws=(pre++[v])++us:=by rw[hws];simp
       have stay:mH hs' v->((b=true/\meas hs'<meas hs)\/(b=false/\∀u∈pre++[v],mH hs' u)):=fun hx=>by
        rcases hb with hb|⟨hb,hp⟩;.exact .inl hb
        . refine .inr ⟨hb,fun u hu=>?_⟩;rcases mem_append.mp hu with hu|hu;.exact hp u hu
          .rw[mem_singleton.mp hu];exact hx
       simp[h4];apply aj;by_cases r0:0<v.r;.cases os with|none=>simp[Wy.d,r0,as];exact⟨hs',b,us,pre++[v],_,_,rfl,rfl,h5,rfl,J5,hh',hle,stay fun _ a ha=>by rw[es]at ha;cases ha⟩|some a=>
           have up:=fun(hl:∀b,ot=some b->a+v.h<b)=>hh'.upd h z0 z1 hv r0 es et hl;simp[Wy.d,r0,as];apply aj;simp[as,oD,h5];have uP:∀hs2:List (Option Int),hs2=hs'.set v.t.toNat (some (a+v.h))->(hs'.map oD).set v.t.toNat (D.int (a+v.h))=hs2.map oD:=fun hs2 e=>by rw[e,map_set];rfl
           symm;cases ot with|none=>
             obtain⟨u1,u2⟩:=up fun b hb=>by cases hb
             have hse:=uP _ rfl;generalize hs'.set v.t.toNat (some (a+v.h))=hs2 at*;simp[at_];apply aj;simp[ixt,hse];apply aj;simp;exact⟨hs2,true,us,pre++[v],_,_,rfl,rfl,rfl,rfl,J5,u1,by omega,.inl ⟨rfl,by omega⟩⟩|some bb=>
             by_cases hlt:a+v.h<bb
             . obtain⟨u1,u2⟩:=up fun b hb=>by cases hb;exact hlt
               have hse:=uP _ rfl;generalize hs'.set v.t.toNat (some (a+v.h))=hs2 at*;simp[at_,oD,hlt];apply aj;simp[ixt,hse];apply aj;simp;exact⟨hs2,true,us,pre++[v],_,_,rfl,rfl,rfl,rfl,J5,u1,by omega,.inl ⟨rfl,by omega⟩⟩
             .simp[at_,oD,hlt];exact⟨hs',b,us,pre++[v],_,_,rfl,rfl,rfl,rfl,J5,hh',hle,stay fun _ a' ha=>by rw[es]at ha;cases ha;exact⟨bb,et,by omega⟩⟩
       .simp[Wy.d,r0];exact⟨hs',b,us,pre++[v],_,_,rfl,rfl,h5,rfl,J5,hh',hle,stay fun hx=>absurd hx r0⟩
   . rintro _⟨hs',b,us,pre,s4,s5,rfl,h4,h5,hr,hws,hh',hle,hb⟩;have:us=[]:=by cases us with|nil=>rfl|cons _ _=>cases hr
     subst this;rw[append_nil]at hws;subst hws;simp;rcases hb with⟨rfl,hl⟩|⟨rfl,hp⟩;.exact⟨meas hs,hM,hs',true,_,_,rfl,h4,h5,hh',.inl ⟨rfl,hl⟩⟩
     .exact⟨0,by omega,hs',false,_,_,rfl,h4,h5,hh',.inr ⟨rfl,hp⟩⟩
 .simp;symm;simp;exact k hs hh.len (hh.least z0 h aeR) fun p v e=>by have h1:=hh.wk p v e;have h2:=za hs;have h3:=hh.len;exact⟨(h1.1.nn h z0 z1).1,by omega⟩
def Wy.turn(m:Int)(w:Wy):Wy:=⟨m-1-w.t,m-1-w.s,w.r,w.h⟩
theorem tK:(ws.map (Wy.turn m)).map (Wy.turn m)=ws:=by
 rw[map_map];have:(Wy.turn m ∘ Wy.turn m)=id:=by funext w;cases w;simp only[Function.comp,Wy.turn,id];congr 1<;>omega
 rw[this];simp
theorem p8(h:aW m ws):aW m (ws.map (Wy.turn m)):=by refine⟨h.m0,h.m1,by simpa using h.len,fun v hv=>?_⟩;obtain⟨u,hu,rfl⟩:=mem_map.mp hv;have o:=h.ok u hu;have:=o.s0;have:=o.s1;have:=o.t0;have:=o.t1;have:=o.ne;exact⟨by show 0<=m-1-u.t;omega,by show m-1-u.t<m;omega,by show 0<=m-1-u.s;omega,by show m-1-u.s<m;omega,by show m-1-u.t≠m-1-u.s;omega,o.r0,o.r1,o.h0,o.h1⟩
theorem Wk.turned{P:Int}(k:Wk (ws.map (Wy.turn m)) (m-1-b) P h):Wk ws (m-1-P) b h:=by induction k with|nil=>rw[show m-1-(m-1-b)=b by omega];exact .nil|@step p h v k hv r s ih=>
   obtain⟨u,hu,rfl⟩:=mem_map.mp hv;have s':m-1-u.t=p:=s;have e1:m-1-p=u.t:=by omega
   rw[e1]at ih;have e2:m-1-(Wy.turn m u).t=u.s:=by show m-1-(m-1-u.s)=u.s;omega
   rw[e2];have:=(Wk.one hu (show 0<u.r from r)).trans ih;rw[Int.add_comm];exact this
theorem LK:Wk (ws.map (Wy.turn m)) (m-1-b) (m-1-p) h↔Wk ws p b h:=by
 constructor;.intro k;have:=k.turned;rwa[show m-1-(m-1-p)=p by omega]at this
 . intro k;have k':Wk ((ws.map (Wy.turn m)).map (Wy.turn m)) (m-1-(m-1-p)) b h:=by rw[tK,show m-1-(m-1-p)=p by omega];exact k
   exact k'.turned
def trD(m:Int):D->D|.tup [.int s,.int t,.int r,.int h]=>(Wy.turn m ⟨s,t,r,h⟩).d|d=>d
theorem O3{w:Wy}:trD m w.d=(w.turn m).d:=rfl
inductive FT3(a b c:Sl)(ρ:List Sl):Prop where|mk(s:Sl)(q0:ρ=[a,b,c,s])(q1:fr s=true)
theorem qM(hl:ws.length<=13)(q:Q (.val (aC m (ws.map (Wy.turn m)))) [.val false (aC m ws)]):(run Γ w (n+1) 15 [.val false (aC m ws)]).sat Q:=by
 refine aH (d:=f15) rfl rfl (by decide) ?_;symm;simp[f15];apply aj;have hlim:ws.length<=lim:=by show _<=16777216;omega
 simp[hlim];refine bH (FT3 _ _ _) (trD m) ⟨.aV,rfl,rfl⟩ ?_ ?_;.rintro d hd _⟨s,rfl,hs⟩;obtain⟨v,hv,rfl⟩:=mem_map.mp hd;simp[hs,wA,wV,pW,KQ,O3];exact⟨rfl,_,rfl,rfl⟩
 rintro _⟨s,rfl,hs⟩;simp;apply aj;simp;have e:aC m (ws.map (Wy.turn m))=.tup [.int m,.tup ((ws.map Wy.d).map (trD m))]:=by simp[aC,O3]
 rw[e]at q;simpa using q
@[simp]theorem Xk{ds:List D}:blt .Nz [.lst ds]=some (.own ds.reverse):=rfl
structure LOk(m:Int)(ws:List Wy)(b:Int)(L:List (Option Int)):Prop where
 len:(L.length:Int)=m
 least:∀(p:Nat)(o:Option Int),L[p]?=some o->jT ws p b o
 bnd:∀(p:Nat)(v:Int),L[p]?=some (some v)->0<=v/\v<=6000000
theorem Rp(hw:50000000<=w)(h:aW m ws)(b0:0<=b)(b1:b<m)(k:∀L:List (Option Int),LOk m ws b L->Q (.own (L.map oD)) [.val false (aC m ws),.val false (.int b)]):(run Γ w (n+2) 17 [.val false (aC m ws),.val false (.int b)]).sat Q:=by
 have m0:=h.m0;have hl:=h.len;refine aH (d:=f17) rfl rfl (by decide) ?_;symm;simp[f17];refine qM (by omega) ?_;simp;refine Ie hw (p8 h) (by omega) (by omega) fun hs h1 h2 h3=>?_;simp;rw[<-List.map_reverse];have ix:∀(p:Nat)(o:Option Int),hs.reverse[p]?=some o->hs[hs.length-1-p]?=some o/\p<hs.length:=fun p o e=>by
  have hp:p<hs.length:=by have:=(cV e).1;simpa using this
  rw[List.getElem?_reverse hp]at e;exact⟨e,hp⟩
 refine k hs.reverse ⟨by simpa using h1,fun p o e=>?_,fun p v e=>?_⟩;.obtain⟨e1,hp⟩:=ix p o e;have:=h2 _ o e1;rw[show((hs.length-1-p:Nat):Int)=m-1-(p:Int)by omega]at this;exact this.iff fun h=>LK
 .obtain⟨e1,hp⟩:=ix p _ e;exact h3 _ v e1
def wL(L:List (Option Int))(v:Wy):Bool:=decide (0<v.r)&&match L[v.t.toNat]?with|some (some g)=>(match L[v.s.toNat]?with|some (some f)=>v.h+g==f|_=>false)|_=>false
theorem R8:cm .eq (.int i) .non=some false:=rfl
theorem Jj{L:List (Option Int)}(vo:v.Ok m)(hl:(L.length:Int)=m)(q:Q (.val (.bl (wL L v))) [.val false v.d,.own true (L.map oD)]):(run Γ w (n+1) 18 [.val false v.d,.own true (L.map oD)]).sat Q:=by
 have s0:=vo.s0;have s1:=vo.s1;have t0:=vo.t0;have t1:=vo.t1;obtain⟨os,es⟩:∃o,L[v.s.toNat]?=some o:=⟨_,getElem?_eq_getElem (by omega)⟩;obtain⟨ot,et⟩:∃o,L[v.t.toNat]?=some o:=⟨_,getElem?_eq_getElem (by omega)⟩;have as:=pR (f:=oD) s0 es;have at_:=pR (f:=oD) t0 et;refine aH (d:=Ss) rfl rfl (by decide) ?_;symm;unfold wL at q;rw[es,et]at q;by_cases hr:0<v.r;.cases ot with|none=>simp[Ss,wV,pW,hr,at_];simpa[hr]using q|some g=>cases os with|none=>simp[Ss,wA,wV,pW,KQ,hr,at_,as];simp[oD,wA,as,R8];simpa[hr]using q|some f=>simp[Ss,wA,wV,pW,KQ,hr,at_,as];simp[oD,wA,as];simpa[hr]using q
 .simp[Ss,pW,hr];simpa[hr]using q
def outI(ws:List Wy)(p:Int):List Int:=aO (gR p 0 ws)
theorem qm{p:Int}{j:Nat}:∀{ws:List Wy}{i:Nat},j∈gR p i ws↔∃v,i<=j/\ws[j-i]?=some v/\v.s=p
 |[],i=>by simp[gR]|w::ws,i=>by
   have ih:=qm (p:=p) (j:=j) (ws:=ws) (i:=i+1);have key:(∃v,i<=j/\(w::ws)[j-i]?=some v/\v.s=p)↔(j=i/\w.s=p)\/∃v,i+1<=j/\ws[j-(i+1)]?=some v/\v.s=p:=by
    constructor
    . rintro⟨v,h1,h2,h3⟩;by_cases e:j=i;.subst e;simp at h2;subst h2;exact .inl ⟨rfl,h3⟩
      .rw[show j-i=(j-(i+1))+1 by omega,getElem?_cons_succ]at h2;exact .inr ⟨v,by omega,h2,h3⟩
    . rintro(⟨rfl,h⟩|⟨v,h1,h2,h3⟩);.exact⟨w,cR,by simp,h⟩
      .exact⟨v,by omega,by rw[show j-i=(j-(i+1))+1 by omega,getElem?_cons_succ];exact h2,h3⟩
   rw[key,<-ih,gR];by_cases e:w.s=p;.rw[if_pos e,mem_cons];simp[e]
   .rw[if_neg e];simp[e]
theorem uG{k:Int}:k∈outI ws p↔0<=k/\k<(ws.length:Int)/\∃v,ws[k.toNat]?=some v/\v.s=p:=by
 unfold outI aO;rw[mem_map];constructor;.rintro⟨j,hj,rfl⟩;obtain⟨v,_,h2,h3⟩:=qm.mp hj;have:=(cV h2).1;exact⟨by omega,by omega,v,by simpa using h2,h3⟩
 .rintro⟨h0,h1,v,h2,h3⟩;exact⟨k.toNat,qm.mpr ⟨v,Bm,by simpa using h2,h3⟩,by omega⟩
theorem GJ{ws:List Wy}{p:Int}:∀{us:List Wy}{i:Nat},(gR p i us).length<=us.length|[],_=>cR|w::us,i=>by rw[gR];have:=GJ (ws:=ws) (p:=p) (us:=us) (i:=i+1);split<;>simp<;>omega
def isC(ws:List Wy)(L:List (Option Int))(k:Int):Bool:=match ws[k.toNat]?with|some v=>wL L v|none=>false
def gQ(ws:List Wy)(L:List (Option Int)):D->Option D|.int k=>if isC ws L k=true then some (.int k)else none|_=>none
theorem Q9{L:List (Option Int)}(ks:List Int):(ks.map D.int).filterMap (gQ ws L)=(ks.filter (isC ws L)).map D.int:=by induction ks with|nil=>rfl|cons k ks ih=>rw[map_cons,filterMap_cons,filter_cons,ih];rw[show gQ ws L (.int k)=if isC ws L k=true then some (D.int k)else none from rfl];by_cases h:isC ws L k=true<;>simp[h]
theorem Aw{rs:List Int}{k:Int}(hp:ps≠[])(h:dJ ws ps k=some rs):∃v,ws[k.toNat]?=some v/\rs=ps++[v.t]/\v.t∉ps/\ps.getLast?=some v.s/\v∈ws:=by
 have k01:=BW h;obtain⟨v,hv,hm,ha⟩:=Xi k01.1 k01.2.1;unfold dJ at h;rw[if_pos ⟨k01.1,k01.2.1⟩,hv]at h;simp only[if_neg hp]at h;split at h;.cases h
 . split at h;.rename_i hc;cases h;exact⟨v,hv,rfl,hc.2,hc.1,hm⟩
   .cases h
theorem Bx{k:Int}(hk:aW m ws)(hp:ps≠[])(k0:0<=k)(k1:k<(ws.length:Int))(hv:ws[k.toNat]?=some v)(hr:0<v.r)(hl:ps.getLast?=some v.s)(hn:v.t∉ps):dJ ws ps k=some (ps++[v.t]):=by unfold dJ;rw[if_pos ⟨k0,k1⟩,hv];simp only[if_neg hp];rw[if_neg (by omega),if_pos ⟨hl,hn⟩]
theorem wH{ws:List Wy}{k:Int}:∀{l ps:List Int},kj ws (l++[k]) ps=match kj ws l ps with|some qs=>dJ ws qs k|none=>none
 |[],ps=>by rw[nil_append,kj,kj];show(match dJ ws ps k with|some qs=>kj ws [] qs|none=>none)=dJ ws ps k;cases dJ ws ps k with|none=>rfl|some qs=>simp[kj]
 |a::l,ps=>by rw[List.cons_append,kj,kj];cases e:dJ ws ps a with|none=>rfl|some qs=>exact wH
theorem Jg{m:Int}{ws:List Wy}(hk:aW m ws):∀{l ps qs:List Int},ps≠[]->ps.Nodup->(∀x∈ps,0<=x/\x<m)->kj ws l ps=some qs->qs.Nodup/\(∀x∈qs,0<=x/\x<m)/\qs.length=ps.length+l.length|[],ps,qs,_,h1,h2,h=>by rw[kj]at h;cases h;exact⟨h1,h2,by simp⟩|k::l,ps,qs,hp,h1,h2,h=>by rw[kj]at h;cases e:dJ ws ps k with
   |none=>rw[e]at h;cases h|some rs=>rw[e]at h;obtain⟨v,hv,rfl,hn,_,hm⟩:=Aw hp e;have vo:=hk.ok v hm;obtain⟨z1,z2,z3⟩:=Jg hk (l:=l) (ps:=ps++[v.t]) (by simp) (by rw[nodup_append];refine⟨h1,by simp,fun x hx y hy=>?_⟩;rw[mem_singleton.mp hy];intro z;rw[z]at hx;exact hn hx) (fun x hx=>by
      rcases mem_append.mp hx with hx|hx;.exact h2 x hx
      .rw[mem_singleton.mp hx];exact⟨vo.t0,vo.t1⟩) h;refine⟨z1,z2,?_⟩;rw[z3];simp;omega
theorem mj{α:Type}[BEq α][LawfulBEq α]:∀{l l2:List α},l.Nodup->(∀a∈l,a∈l2)->l.length<=l2.length
 |[],_,_,_=>Bm|a::l,l2,hn,hs=>by
   have ha:=hs a (by simp);have hn':=nodup_cons.mp hn;have:=mj (l:=l) (l2:=l2.erase a) hn'.2 fun b hb=>by
    have hba:b≠a:=by rintro rfl;exact hn'.1 hb
    exact(List.mem_erase_of_ne hba).mpr (hs b (by simp[hb]))
   rw[List.length_erase_of_mem ha]at this;have:=List.length_pos_of_mem ha;simp only[length_cons];omega
theorem Ei(hk:aW m ws){qs:List Int}(h:kj ws l [0]=some qs):l.length<=5:=by
 have m0:=hk.m0;have m1:=hk.m1;obtain⟨z1,z2,z3⟩:=Jg hk (by simp) (by simp) (fun x hx=>by rw[mem_singleton.mp hx];omega) h;have:=mj (l2:=[0,1,2,3,4,5]) z1 fun x hx=>by
  have:=z2 x hx;have:x=0\/x=1\/x=2\/x=3\/x=4\/x=5:=by omega
  simpa using this
 simp at this z3;omega
theorem G5{k:Int}:tot ws (l++[k])=tot ws l+hh ws k:=by simp[tot]
theorem DW{L:List (Option Int)}(hk:aW m ws)(hL:LOk m ws b L)(p0:0<=p)(p1:p<m)(hg:L[p.toNat]?=some (some g))(hne:p≠b):∃(k:Int),k∈(outI ws p).filter (isC ws L):=by
 have hle:=hL.least _ _ hg;rw[show((p.toNat:Nat):Int)=p by omega]at hle;rcases hle.1.first with⟨e,_⟩|⟨v,hv,r,s,g',z,e⟩;.exact absurd e hne
 .obtain⟨i,hi,ei⟩:=getElem_of_mem hv;have vo:=hk.ok v hv;have t0:=vo.t0;have t1:=vo.t1;have hlen:=hL.len;obtain⟨ot,et⟩:∃o,L[v.t.toNat]?=some o:=⟨_,getElem?_eq_getElem (by omega)⟩;have hlt:=hL.least _ _ et;rw[show((v.t.toNat:Nat):Int)=v.t by omega]at hlt;cases ot with|none=>exact absurd z (hlt g')|some f=>
     have h1:=hlt.2 g' z;have h2:g<=v.h+f:=by have:=(Wk.one hv r).trans hlt.1;rw[s]at this;exact hle.2 _ this
     refine⟨(i:Int),mem_filter.mpr ⟨uG.mpr ⟨by omega,by omega,v,by rw[Int.toNat_natCast,getElem?_eq_getElem hi,ei],s⟩,?_⟩⟩;unfold isC;rw[Int.toNat_natCast,getElem?_eq_getElem hi,ei];simp only[wL,et,s,hg,r,decide_true,Bool.true_and];simp;omega
inductive JSw(m:Int)(ws:List Wy)(b g0:Int)(L:List (Option Int))(M:Nat)(ρ:List Sl):Prop where|mk(l ps:List Int)(p g:Int)(s5:Sl)(q0:ρ=[.val false (aC m ws),.val false (.int b),.own false (L.map oD),.own false (l.map D.int),.val false (.int p),s5])(q1:fr s5=true)(q2:0<=p)(q3:p<m)(q4:L[p.toNat]?=some (some g))(q5:g.toNat<=M)(q6:kj ws l [0]=some ps)(q7:ps.getLast?=some p)(q8:(∀x∈ps,∃gx,L[x.toNat]?=some (some gx)/\g<=gx))(q9:tot ws l+g=g0)
inductive FWk(a b c d e f:Sl)(ρ:List Sl):Prop where|mk(s:Sl)(q0:ρ=[a,b,c,d,e,f,s])(q1:fr s=true)
theorem Gx{ns:List Int}(h:ns≠[]):∃i,i∈ns/\ns.min?=some i:=by cases e:ns.min? with|none=>rw[List.min?_eq_none_iff]at e;exact absurd e h|some i=>exact⟨i,List.min?_mem e,rfl⟩
theorem Je{g0:Int}(hw:50000000<=w)(hk:aW m ws)(b0:0<=b)(b1:b<m)(hg0:jT ws 0 b (some g0))(q:∀(l ps:List Int),kj ws l [0]=some ps->ps.getLast?=some b->Q (.val (.tup (l.map D.int))) [.val false (aC m ws),.val false (.int b)]):(run Γ w (n+3) 19 [.val false (aC m ws),.val false (.int b)]).sat Q:=by
 have m0:=hk.m0;refine aH (d:=Z3) rfl rfl (by decide) ?_;symm;simp[Z3,b0,b1];apply aj;simp;refine Rp hw hk b0 b1 fun L hL=>?_;have hlen:=hL.len;have hL0:L[0]?=some (some g0):=by obtain⟨o,e⟩:∃o,L[0]?=some o:=⟨_,getElem?_eq_getElem (by omega)⟩;have:=hL.least 0 o e;rw[e,this.uniq hg0]
 have a0:at' (L.map oD) 0=some (.int g0):=by rw[jk (by decide) (by simp;omega)];simp[hL0,oD]
 simp;apply aj;simp[a0];apply aj;simp;apply aj;simp;apply aj;simp;have gb:=hL.bnd 0 g0 hL0;refine fu (JSw m ws b g0 L) ?_ (k:=w) (m:=g0.toNat) (by omega) ⟨[],[0],0,g0,.aV,rfl,rfl,by decide,by omega,hL0,cR,rfl,rfl,fun x hx=>⟨g0,by rw[mem_singleton.mp hx];exact hL0,Int.le_refl _⟩,by simp[tot]⟩;rintro M _⟨l,ps,p,g,s5,rfl,h5,p0,p1,hg,hM,hgo,jw,hps,htot⟩;have hg0':=hL.bnd _ _ hg;have aeS:ps≠[]:=by rintro rfl;cases jw
 have hl5:=Ei hk hgo;by_cases hpb:p=b;.subst hpb;simp;apply aj;simp;have hle:=hL.least _ _ hg;rw[show((p.toNat:Nat):Int)=p by omega]at hle;have:=hle.2 0 .nil;exact q l ps hgo jw
 . have hpb':(p==b)=false:=by simpa using hpb
   simp[hpb];apply aj;simp;refine uw hk ?_;rw[show aO (gR p 0 ws)=outI ws p from rfl];have hol:(outI ws p).length<=12:=by have h1:=hk.len;have h2:=GJ (ws:=ws) (p:=p) (us:=ws) (i:=0);unfold outI aO;rw[length_map];omega
   simp;refine⟨fun _=>?_,by show _<=16777216;omega⟩;refine gk (FWk _ _ _ _ _ _) (gQ ws L) ⟨.aV,rfl,rfl⟩ ?_ ?_
   . rintro d hd _⟨s,rfl,hs⟩;obtain⟨k,hk',rfl⟩:=mem_map.mp hd;obtain⟨k0,k1,v,hv,hsv⟩:=uG.mp hk';have vo:=hk.ok v (mem_of_getElem? hv);have ha:at' (ws.map Wy.d) k=some v.d:=by rw[jk k0 (by simpa using k1)];simp[hv]
     have hc:isC ws L k=wL L v:=by unfold isC;rw[hv]
     simp[hs,ha];refine Jj vo hlen ?_;rw[show gQ ws L (.int k)=if isC ws L k=true then some (.int k)else none from rfl,hc];cases hst:wL L v with|true=>simp;exact⟨_,rfl,rfl⟩|false=>simp;exact⟨_,rfl,rfl⟩
   rintro _⟨s,rfl,hs⟩;rw[Q9];obtain⟨kx,hkx⟩:=DW hk hL p0 p1 hg hpb;obtain⟨k,hkm,hmin⟩:=Gx (ns:=(outI ws p).filter (isC ws L)) (fun z=>by rw[z]at hkx;cases hkx);rw[mem_filter]at hkm;obtain⟨k0,k1,v,hv,hsv⟩:=uG.mp hkm.1;have hvm:v∈ws:=mem_of_getElem? hv;have vo:=hk.ok v hvm;have ha:at' (ws.map Wy.d) k=some v.d:=by rw[jk k0 (by simpa using k1)];simp[hv]
   have hst:wL L v=true:=by have:=hkm.2;unfold isC at this;rwa[hv]at this
   have l1:l.length<lim:=by show _<16777216;omega
   obtain⟨f,hf,hr,hgf⟩:∃f,L[v.t.toNat]?=some (some f)/\0<v.r/\v.h+f=g:=by unfold wL at hst;rw[hsv,hg]at hst;cases e:L[v.t.toNat]?with|none=>rw[e]at hst;simp at hst|some o=>cases o with|none=>rw[e]at hst;simp at hst|some f=>rw[e]at hst;simp at hst;exact⟨f,rfl,hst.1,hst.2⟩
   have hf0:=hL.bnd _ _ hf;have hh0:=vo.h0;have htn:v.t∉ps:=fun z=>by obtain⟨gx,e1,e2⟩:=hps _ z;rw[hf]at e1;cases e1;omega
   simp[hmin,h5];apply aj;simp[l1];apply aj;simp[ha,wV];have hstep:dJ ws ps k=some (ps++[v.t]):=Bx hk aeS k0 k1 hv hr (by rw[jw,hsv]) htn;refine⟨f.toNat,by omega,l++[k],ps++[v.t],v.t,f,.val false (.int k),by simp,rfl,vo.t0,vo.t1,hf,cR,by rw[wH,hgo];exact hstep,by simp,fun x hx=>?_,?_⟩
   . rcases mem_append.mp hx with hx|hx;.obtain⟨gx,e1,e2⟩:=hps x hx;exact⟨gx,e1,by omega⟩
     .rw[mem_singleton.mp hx];exact⟨f,hf,Int.le_refl _⟩
   . have:hh ws k=v.h:=by unfold hh;rw[hv]
     rw[G5,this];omega
@[simp]theorem Ys{c:Call}{i n:Nat}{a elt:P}{is:List Nat}{one:Bool}{test:Option P}{ρ:List Sl}:ev c (.yc i a n is one test elt) ρ=(Ik i (ev c a) ρ).bind fun du ρ₁=>if du.1.length<=lim then(jA c is one test elt du.1 (ρ₁++replicate n .aV)).bind fun xs ρ₂=>.ok (.own xs) (bz du.2 (some i) (ρ₂.take ρ₁.length))else .stuck:=(rfl)
@[simp]theorem Zv{i:Nat}{f:Ev}{ρ:List Sl}:Ik i f ρ=(f ρ).bind fun r ρb=>(lift (items r.d) ρb).bind fun es ρb=>match ρb[i]?with|some (.val _ d)=>(lift (items d) ρb).bind fun ds ρb=>.ok ((es.zip ds).map fun p=>D.tup [p.1,p.2],ρb) ρb|some (.own _ ds)=>.ok ((es.zip ds).map fun p=>D.tup [p.1,p.2],ρb) (ρb.set i (.lent ds))|some (.lent ds)=>.ok ((es.zip ds).map fun p=>D.tup [p.1,p.2],ρb) ρb|_=>.stuck:=rfl
@[simp]theorem adn{c:Call}{n x:Nat}{sub:Bool}{e:P}{ρ:List Sl}:ex c n (.aug x sub e) ρ=(lift (pk ρ x) ρ).bind fun a ρ=>(dj (isVar e) (ev c e) ρ).bind fun b ρ=>match a,b with|.int i,.int j=>(lift (put ρ x (.val false (.int (if sub then i-j else i+j)))) ρ).bind fun ρ' _=>.ok .next ρ'|_,_=>.stuck:=(rfl)
def oX:List Wy->List Int->List Wy|w::ws,l::ls=>{w with r:=l}::oX ws ls|_,_=>[]
theorem vf:∀{ws:List Wy}{ls:List Int},ls.length=ws.length->(oX ws ls).length=ws.length|[],[],_=>rfl|[],_::_,h=>by simp at h|_::_,[],h=>by simp at h|w::ws,l::ls,h=>by simp[oX,vf (ws:=ws) (ls:=ls) (by simpa using h)]
theorem pU:∀{ws:List Wy}{ls:List Int}{k:Nat}{u:Wy},(oX ws ls)[k]?=some u->∃v l,ws[k]?=some v/\ls[k]?=some l/\u={v with r:=l}|[],_,k,u,h=>by simp[oX]at h|_::_,[],k,u,h=>by simp[oX]at h|w::ws,l::ls,0,u,h=>by simp[oX]at h;exact⟨w,l,rfl,rfl,h.symm⟩|w::ws,l::ls,k+1,u,h=>by simp only[oX,getElem?_cons_succ]at h ⊢;exact pU h
theorem Ii:∀{ws:List Wy}{ls:List Int}{k:Nat}{v:Wy}{l:Int},ws[k]?=some v->ls[k]?=some l->(oX ws ls)[k]?=some {v with r:=l}|[],_,k,v,l,h,_=>by simp at h|_::_,[],k,v,l,_,h=>by simp at h|w::ws,x::ls,0,v,l,h,h'=>by simp at h h';subst h h';simp[oX]|w::ws,x::ls,k+1,v,l,h,h'=>by simp only[oX,getElem?_cons_succ]at h h' ⊢;exact Ii h h'
def Z1:D->D|.tup [.tup [a,b,_,e],l]=>.tup [a,b,l,e]|d=>d
@[simp]theorem afm{a b c e l:D}:Z1 (.tup [.tup [a,b,c,e],l])=.tup [a,b,l,e]:=rfl
theorem Fq:∀{ws:List Wy}{ls:List Int},((((ws.map Wy.d).zip (ls.map D.int)).map fun p=>D.tup [p.1,p.2]).map Z1)=(oX ws ls).map Wy.d|[],_=>by simp[oX]|_::_,[]=>by simp[oX]|w::ws,l::ls=>by have:=Fq (ws:=ws) (ls:=ls);simp only[map_cons,List.zip_cons_cons,oX,this];rfl
inductive FY(a b c:Sl)(ρ:List Sl):Prop where|mk(s:Sl)(t:Sl)(q0:ρ=[a,b,c,s,t])(q1:fr s=true)(q2:fr t=true)
theorem Dz{b:Bool}(h:aW m ws)(k:Q (.val (aC m (oX ws ls))) [.val false (aC m ws),.own b (ls.map D.int)]):(run Γ w (n+1) 30 [.val false (aC m ws),.own b (ls.map D.int)]).sat Q:=by
 have hn:=h.len;refine aH (d:=f30) rfl rfl (by decide) ?_;symm;simp[f30];refine⟨fun _=>?_,by show _<=16777216;omega⟩;refine bH (FY _ _ _) Z1 ⟨.aV,.aV,rfl,rfl,rfl⟩ ?_ ?_;.rintro d hd _⟨s,t,rfl,hs,ht⟩;obtain⟨⟨x,y⟩,hx,rfl⟩:=mem_map.mp hd;obtain⟨v,_,rfl⟩:=mem_map.mp (of_mem_zip hx).1;simp[hs,ht,Wy.d];exact⟨_,_,rfl,rfl,rfl⟩
 rintro _⟨s,t,rfl,hs,ht⟩;have e:=Fq (ws:=ws) (ls:=ls);generalize(((ws.map Wy.d).zip (ls.map D.int)).map fun p=>D.tup [p.1,p.2]).map Z1=X at*;subst e;simp;apply aj;simp;exact k
theorem Ru(h:aW m ws)(hl:ls.length=ws.length)(hb:∀(k:Nat)(v:Wy)(l:Int),ws[k]?=some v->ls[k]?=some l->0<=l/\l<=v.r):aW m (oX ws ls):=by refine⟨h.m0,h.m1,by rw[vf hl];exact h.len,fun u hu=>?_⟩;obtain⟨k,hk,e⟩:=getElem_of_mem hu;obtain⟨v,l,e1,e2,rfl⟩:=pU (ws:=ws) (ls:=ls) (k:=k) (u:=u) (by rw[getElem?_eq_getElem hk,e]);have vo:=h.ok v (mem_of_getElem? e1);have:=hb k v l e1 e2;exact⟨vo.s0,vo.s1,vo.t0,vo.t1,vo.ne,this.1,Int.le_trans this.2 vo.r1,vo.h0,vo.h1⟩
theorem Gf{c:Int->Int}:∀{ws:List Wy}{ls:List Int},(∀(k:Nat)(v:Wy)(l:Int),ws[k]?=some v->ls[k]?=some l->l*(c v.s-c v.t)<=0)->dot c ws ls<=0|[],_,_=>Int.le_refl _|_::_,[],_=>Int.le_refl _|w::ws,l::ls,h=>by have h1:=h 0 w l rfl rfl;have h2:=Gf (c:=c) (ws:=ws) (ls:=ls) fun k v x e1 e2=>h (k+1) v x (by simpa using e1) (by simpa using e2);simp only[dot];omega
open Classical in
theorem K4(hg:Goes m ws ls r)(hr:0<r)(hb:∀(k:Nat)(v:Wy)(l:Int),ws[k]?=some v->ls[k]?=some l->0<=l):∃h,Wk (oX ws ls) 0 (m-1) h:=by
 refine Classical.byContradiction fun hno=>?_;have hd:=hg.2 fun p=>if ∃h,Wk (oX ws ls) 0 p h then 1 else 0;rw[if_pos ⟨0,.nil⟩,if_neg hno]at hd;have:=Gf (c:=fun p=>if ∃h,Wk (oX ws ls) 0 p h then(1:Int)else 0) (ws:=ws) (ls:=ls) fun k v l e1 e2=>by
  have l0:=hb k v l e1 e2;by_cases hs:∃h,Wk (oX ws ls) 0 v.s h
  . by_cases hz:l=0;.subst hz;simp
    .obtain⟨x,wx⟩:=hs;have ht:∃h,Wk (oX ws ls) 0 v.t h:=⟨_,.step (v:={v with r:=l}) wx (mem_of_getElem? (Ii e1 e2)) (by show 0<l;omega) rfl⟩;rw[if_pos ⟨x,wx⟩,if_pos ht];simp
  . rw[if_neg hs];by_cases ht:∃h,Wk (oX ws ls) 0 v.t h;.rw[if_pos ht];omega
    .rw[if_neg ht];simp
 omega
theorem wJ{m:Int}{ws:List Wy}(hn:aW m ws){p:Int}:∀(N:Nat)(h:Int),h.toNat<=N->Wk ws 0 p h->∃g,jT ws 0 p (some g)
 |0,h,hN,k=>⟨h,k,fun h' k'=>by have m0:=hn.m0;have:=(k'.nn hn (by omega) (by omega)).1;have:=(k.nn hn (by omega) (by omega)).1;omega⟩|N+1,h,hN,k=>by
   by_cases c:∃h',h'<h/\Wk ws 0 p h';.obtain⟨h',c1,c2⟩:=c;have m0:=hn.m0;have:=(c2.nn hn (by omega) (by omega)).1;exact wJ hn N h' (by omega) c2
   .exact⟨h,k,fun h' k'=>by
      by_cases z:h<=h';.exact z
      .exact absurd ⟨h',by omega,k'⟩ c⟩
def Wy.z(w:Wy):Wy:={w with h:=0}
def hlD:D->D|.tup [a,b,c,_]=>.tup [a,b,c,.int 0]|d=>d
@[simp]theorem afM{a b c e:D}:hlD (.tup [a,b,c,e])=.tup [a,b,c,.int 0]:=rfl
inductive F1z(a:Sl)(ρ:List Sl):Prop where|mk(s:Sl)(q0:ρ=[a,s])(q1:fr s=true)
theorem uM(h:aW m ws)(k:Q (.val (aC m (ws.map Wy.z))) [.val false (aC m ws)]):(run Γ w (n+1) 32 [.val false (aC m ws)]).sat Q:=by
 have hn:=h.len;refine aH (d:=ZK) rfl rfl (by decide) ?_;symm;simp[ZK,show ws.length<=lim by show _<=16777216;omega];refine bH (F1z _) hlD ⟨.aV,rfl,rfl⟩ ?_ ?_;.rintro d hd _⟨s',rfl,hs'⟩;obtain⟨v,_,rfl⟩:=mem_map.mp hd;simp[hs',Wy.d];exact⟨_,rfl,rfl⟩
 . rintro _⟨s',rfl,hs'⟩;have e:(ws.map Wy.d).map hlD=(ws.map Wy.z).map Wy.d:=by rw[map_map,map_map];rfl
   rw[e];simp;simpa[aC]using k
def fG(j:Nat)(f:Bool):D:=.tup [.int j,.bl f]
def frm(v:Wy)(f:Bool):Int:=if f then v.s else v.t
def too(v:Wy)(f:Bool):Int:=if f then v.t else v.s
theorem lu(e:ws[j]?=some v)(k:Q (.val (.tup [.int (frm v f),.int (too v f)])) [.val false (aC m ws),.val false (fG j f)]):(run Γ w (n+1) 0 [.val false (aC m ws),.val false (fG j f)]).sat Q:=by refine aH (d:=f0) rfl rfl (by decide) ?_;symm;simp[f0,fG,cB e];apply aj;cases f with|true=>simp[Wy.d];exact k|false=>simp[Wy.d];exact k
theorem Ds(e:ws[j]?=some v)(hz:v.h=0)(k:Q (.val (.int 0)) [.val false (aC m ws),.val false (fG j f)]):(run Γ w (n+1) 1 [.val false (aC m ws),.val false (fG j f)]).sat Q:=by refine aH (d:=f1) rfl rfl (by decide) ?_;symm;simp[f1,fG,cB e,Wy.d,hz];apply aj;cases f with|true=>simp;exact k|false=>simp;exact k
def tL(v:Wy)(g:Int)(f:Bool):Int:=if f then v.r-g else g
theorem sY{s:Sl}{fs:List Int}(hs:Kf s fs)(e:ws[j]?=some v)(eg:fs[j]?=some g)(k:Q (.val (.int (tL v g f))) [.val false (aC m ws),s,.val false (fG j f)]):(run Γ w (n+1) 2 [.val false (aC m ws),s,.val false (fG j f)]).sat Q:=by refine aH (d:=f2) rfl rfl (by decide) ?_;symm;rcases hs with rfl|⟨b,rfl⟩;all_goals simp[f2,fG,cB eg];apply aj;cases f with|true=>simp[cB e,Wy.d];exact k|false=>simp;exact k
@[simp]theorem Y9{c:Call}{n x k:Nat}{src elt:P}{is:List Nat}{one:Bool}{ρ:List Sl}:ex c n (.JZ x src k is one elt) ρ=(srcOf (isVar src) (ev c src) ρ).bind fun ds ρ₁=>if ds.length<=lim then(fV is one (ev c elt) ds [] (ρ₁++replicate k .aV)).bind fun rows ρ₂=>(lift (put (bz ρ (isVar src) (ρ₂.take ρ₁.length)) x (.hold rows)) ρ).bind fun ρ' _=>.ok .next ρ' else .stuck:=(rfl)
@[simp]theorem aaB{c:Call}{n:Nat}{src:P}{is:List Nat}{one:Bool}{body:List S}{ρ:List Sl}:ex c n (.Er src is one body) ρ=(ev c src ρ).bind fun r ρ₁=>(lift (items r.d) ρ₁).bind fun ds ρ₁=>iG is one (gB c n body) ds ρ₁:=(rfl)
@[simp]theorem adq{c:Call}{n x:Nat}{ρ:List Sl}:ex c n (.cX x) ρ=match ρ[x]?with|some (.hold rows)=>.ok .next (ρ.set x (.val false (.lst (rows.map D.lst))))|_=>.stuck:=(rfl)
@[simp]theorem aaP{c:Call}{n x:Nat}{i e:P}{ρ:List Sl}:ex c n (.J0 x i e) ρ=(dj (isVar i) (ev c i) ρ).bind fun k ρ=>(lift (uR ρ x k) ρ).bind fun _ ρ=>(ev c e ρ).bind fun r ρ=>uP ρ x ((jr ρ x).bind fun rows=>(iV k).bind fun k=>jD rows k fun row=>if row.length<lim then some (row++[r.d])else none):=(rfl)
@[simp]theorem Zx{a:Sl}{l:List Sl}{x:Nat}:jr (a::l) x=match(a::l)[x]?with|some (.hold rows)=>some rows|_=>none:=rfl
@[simp]theorem Vl{ρ:List Sl}{x:Nat}{rows:List (List D)}:uP ρ x (some rows)=.ok .next (ρ.set x (.hold rows)):=rfl
@[simp]theorem aeg{a:Sl}{l:List Sl}{x:Nat}{k:Int}:uR (a::l) x (.int k)=match(a::l)[x]?with|some (.hold rows)=>rowAt rows k|_=>none:=by unfold uR jr;cases h:(a::l)[x]?with|none=>rfl|some s=>cases s<;>rfl
theorem qI{is:List Nat}{one:Bool}{elt:Ev}(J:List Sl->Prop)(g:D->List D){Q:List (List D)->List Sl->Prop}:∀{ds:List D}{acc:List (List D)}{ρ:List Sl},J ρ->(∀d,d∈ds->∀ρ,J ρ->∃ρ1,cH ρ is one d=some ρ1/\(elt ρ1).sat fun r ρ3=>r=.own (g d)/\J ρ3)->(∀ρ,J ρ->Q (acc++ds.map g) ρ)->(fV is one elt ds acc ρ).sat Q|[],acc,ρ,j,h,k=>by rw[fV];simpa using k ρ j|d::r,acc,ρ,j,h,k=>by obtain⟨ρ1,e,h1⟩:=h d (by simp) ρ j;rw[fV,e];show((elt ρ1).bind _).sat Q;rw[bO];refine h1.imp fun x ρ3⟨e1,j3⟩=>?_;subst e1;exact qI J g j3 (fun d' hd'=>h d' (by simp[hd'])) fun ρ' j'=>by simpa using k ρ' j'
@[simp]theorem ac0{c:Call}{x:Nat}{k:P}{ρ:List Sl}:ev c (.Pj x k) ρ=match ρ[x]?with
 |some (.dq _)=>(dj (isVar k) (ev c k) ρ).bind fun kd ρ=>match ρ[x]?with|some (.dq kvs)=>lift ((iV kd).bind fun k=>(nU kvs k).map .val) ρ|_=>.stuck
 |_=>.stuck:=(rfl)
def vQ(kvs:List (Int×D))(k:Int):Bool:=(kvs.map (·.1)).contains k
def Ld(kvs:List (Int×D)):List Int:=kvs.map (·.1)
def dsV(kvs:List (Int×D)):List D:=kvs.map (·.2)
@[simp]theorem ac3{c:Call}{x:Nat}{k:P}{neg:Bool}{ρ:List Sl}:ev c (.Pk x k neg) ρ=(dj (isVar k) (ev c k) ρ).bind fun kd ρ=>match ρ[x]?with|some (.dq kvs)=>lift ((iV kd).map fun k=>.val (.bl (if neg then !vQ kvs k else vQ kvs k))) ρ|_=>.stuck:=(rfl)
@[simp]theorem Z8{c:Call}{k e:Int}{ρ:List Sl}:ev c (.xZ k e) ρ=.ok (.val (.dv [k] [.int e])) ρ:=(rfl)
@[simp]theorem afV{c:Call}{x:Nat}{ρ:List Sl}:ev c (.vw x) ρ=match ρ[x]?with|some (.um m)=>.ok (.val (.dN m)) (ρ.set x (.val false (.dN m)))|some (.dq kvs)=>.ok (.val (.dv (Ld kvs) (dsV kvs))) (ρ.set x (.val false (.dv (Ld kvs) (dsV kvs))))|_=>.stuck:=(rfl)
@[simp]theorem Z6{c:Call}{n x:Nat}{ρ:List Sl}:ex c n (.Es x) ρ=match ρ[x]?with|some .aV=>.ok .next (ρ.set x (.dq []))|some (.dq _)=>.ok .next (ρ.set x (.dq []))|some (.val false _)=>.ok .next (ρ.set x (.dq []))|_=>.stuck:=(rfl)
@[simp]theorem aaE{c:Call}{n x:Nat}{k e:P}{ρ:List Sl}:ex c n (.jL x k e) ρ=(ev c e ρ).bind fun r ρ=>match ρ[x]?with
 |some (.dq _)=>(dj (isVar k) (ev c k) ρ).bind fun kd ρ=>match ρ[x]?,kd with|some (.dq kvs),.int k=>if kvs.length<lim then .ok .next (ρ.set x (.dq (jL kvs k r.d)))else .stuck|_,_=>.stuck
 |_=>.stuck:=(rfl)
@[simp]theorem ZS{c:Call}{n x:Nat}{i e:P}{sub:Bool}{ρ:List Sl}:ex c n (.Ep x i sub e) ρ=(lift (Fe ρ x) ρ).bind fun _ ρ=>(dj (isVar i) (ev c i) ρ).bind fun k ρ=>(lift (Fe ρ x) ρ).bind fun l ρ=>(lift ((iV k).bind fun i=>at' l i) ρ).bind fun a ρ=>(dj (isVar e) (ev c e) ρ).bind fun b ρ=>match a,b,ρ[x]?,k with
 |.int u,.int v,some (.own bb ds),.int k=>match iD ds.length k with|some j=>.ok .next (ρ.set x (.own bb (ds.set j (.int (if sub then u-v else u+v)))))|none=>.stuck
 |_,_,_,_=>.stuck:=(rfl)
@[simp]theorem Vj{x:Nat}{k:P}:isVar (.Pj x k)=none:=rfl
@[simp]theorem Ue{x:Nat}{k:P}{b:Bool}:isVar (.Pk x k b)=none:=rfl
@[simp]theorem XQ{x:Nat}:isVar (.vw x)=none:=rfl
@[simp]theorem PQ{k e:Int}:isVar (.xZ k e)=none:=rfl
@[simp]theorem adK{kvs:List (Int×D)}:fr (.dq kvs)=false:=rfl
@[simp]theorem aaH{r:List (List D)}:fr (.hold r)=false:=rfl
@[simp]theorem Xj:pN .Em=Bb:=rfl
@[simp]theorem aaw:pN .din=xu false:=rfl
@[simp]theorem W2{ks:List Int}{ds:List D}{k:Int}:Bb (.dv ks ds) (.int k)=(nU (ks.zip ds) k).map .val:=rfl
@[simp]theorem ZC{ks:List Int}{ds:List D}{k:Int}:xu false (.int k) (.dv ks ds)=some (.val (.bl (ks.contains k))):=rfl
@[simp]theorem Vg{ks:List Int}{ds:List D}:blt .keys [.dv ks ds]=some (.val (.tup (ks.map D.int))):=rfl
@[simp]theorem aak{ks:List Int}{ds:List D}:blt .Vw [.dv ks ds]=if ks.length<=16777216 then some (.own (ks.map D.int))else none:=rfl
@[simp]theorem aay{ds:List D}:blt .rvT [.lst ds]=some (.val (.tup ds.reverse)):=rfl
@[simp]theorem R6{ks:List Int}{ds:List D}:blt .oE [.dv ks ds]=if ks.length<64 then some (.own (zH (ks.map D.int)))else none:=rfl
@[simp]theorem Vh{kvs:List (Int×D)}{x:Option Sl}:dZ (.dq kvs) x=.dq kvs:=by cases x<;>rfl
@[simp]theorem Td{r:List (List D)}{x:Option Sl}:dZ (.hold r) x=.hold r:=by cases x<;>rfl
structure HN(m:Int)(ws:List Wy):Prop where
 m0:2<=m
 m1:m<=6
 len:ws.length<=12
 ok:∀w∈ws,(0<=w.s/\w.s<m)/\(0<=w.t/\w.t<m)/\w.h=0
theorem HN.of(h:aW m ws):HN m (ws.map Wy.z):=⟨h.m0,h.m1,by rw[length_map];exact h.len,fun w hw=>by obtain⟨v,hv,rfl⟩:=mem_map.mp hw;have:=h.ok v hv;exact⟨⟨this.s0,this.s1⟩,⟨this.t0,this.t1⟩,rfl⟩⟩
abbrev aU:=Nat×Bool
variable{s:aU}{o:Option aU}
def sD(s:aU):D:=fG s.1 s.2
def jG(ws:List Wy)(fs:List Int)(p:Int)(s:aU):Bool:=match ws[s.1]?,fs[s.1]?with|some v,some g=>decide (frm v s.2=p)&&decide (0<tL v g s.2)|_,_=>false
theorem qN{fs:List Int}(e:ws[s.1]?=some v)(e2:fs[s.1]?=some g):jG ws fs p s=(decide (frm v s.2=p)&&decide (0<tL v g s.2)):=by unfold jG;rw[e,e2]
def lC(ws:List Wy)(fs:List Int)(M:Nat)(l:List aU):List (List aU):=(List.range M).map fun(p:Nat)=>l.filter (jG ws fs (p:Int))
def rD(l:List (List aU)):List (List D):=l.map fun r=>r.map sD
def iy(N:Nat):List aU:=(List.range N).flatMap fun j=>[(j,true),(j,false)]
theorem sJ:iy (N+1)=(iy N++[(N,true)])++[(N,false)]:=by simp[iy,List.range_succ]
theorem xM:(iy N).length=2*N:=by induction N with|zero=>rfl|succ N ih=>rw[sJ];simp[ih];omega
theorem RD(h:HN m ws)(e:ws[j]?=some v)(f:Bool):0<=frm v f/\frm v f<m:=by have:=h.ok v (mem_of_getElem? e);cases f<;>simp only[frm]<;>simp<;>omega
theorem Rb(h:HN m ws)(e:ws[j]?=some v)(f:Bool):0<=too v f/\too v f<m:=by have:=h.ok v (mem_of_getElem? e);cases f<;>simp only[too]<;>simp<;>omega
theorem FP{fs:List Int}{M:Nat}{l:List aU}(e:ws[s.1]?=some v)(e2:fs[s.1]?=some g)(h:¬ 0<tL v g s.2):lC ws fs M (l++[s])=lC ws fs M l:=by unfold lC;refine map_congr_left fun p _=>?_;rw[List.filter_append];simp[qN e e2,h]
theorem Nq{fs:List Int}{l:List aU}(e:ws[s.1]?=some v)(e2:fs[s.1]?=some g)(h:0<tL v g s.2)(hp:0<=frm v s.2/\frm v s.2<m)(hl:l.length<1000):(∃row,rowAt (rD (lC ws fs m.toNat l)) (frm v s.2)=some row)/\jD (rD (lC ws fs m.toNat l)) (frm v s.2) (fun row=>if row.length<lim then some (row++[sD s])else none)=some (rD (lC ws fs m.toNat (l++[s]))):=by
 have hlen:(rD (lC ws fs m.toNat l)).length=m.toNat:=by simp[rD,lC]
 have hx:iD (rD (lC ws fs m.toNat l)).length (frm v s.2)=some (frm v s.2).toNat:=by unfold iD;rw[hlen,if_pos hp.1,if_pos (by omega)]
 have hg:(rD (lC ws fs m.toNat l))[(frm v s.2).toNat]?=some ((l.filter (jG ws fs (frm v s.2))).map sD):=by simp[rD,lC,show(frm v s.2).toNat<m.toNat by omega,Int.toNat_of_nonneg hp.1]
 refine⟨⟨_,by unfold rowAt;rw[hx];exact hg⟩,?_⟩;unfold jD;rw[hx];show((rD (lC ws fs m.toNat l))[(frm v s.2).toNat]?).bind _=_;rw[hg];have hq:((l.filter (jG ws fs (frm v s.2))).map sD).length<lim:=by have:=length_filter_le (jG ws fs (frm v s.2)) l;rw[length_map];show _<16777216;omega
 show Option.map _ (if _ then _ else _)=_;rw[if_pos hq];show some _=some _;congr 1;refine List.ext_getElem (by simp[rD,lC]) fun i h2 h3=>?_;rw[List.getElem_set];by_cases c:(frm v s.2).toNat=i
 . rw[if_pos c];have:(i:Int)=frm v s.2:=by omega
   simp[rD,lC,this,List.filter_append,qN e e2,h]
 . rw[if_neg c];have:¬ frm v s.2=(i:Int):=by omega
   simp[rD,lC,List.filter_append,qN e e2,this]
inductive JOp(m:Int)(ws:List Wy)(fs:List Int)(s:Sl)(i:Nat)(ρ:List Sl):Prop where|mk(s3 s4:Sl)(q0:ρ=[.val false (aC m ws),s,.hold (rD (lC ws fs m.toNat (iy i))),s3,s4])(q1:fr s3=true)(q2:fr s4=true)
inductive JOq(m:Int)(ws:List Wy)(fs:List Int)(s:Sl)(i:Nat)(r:List D)(ρ:List Sl):Prop where|mk(l us:List aU)(s4:Sl)(q0:ρ=[.val false (aC m ws),s,.hold (rD (lC ws fs m.toNat l)),.val false (.int i),s4])(q1:fr s4=true)(q2:r=us.map sD)(q3:l++us=iy (i+1))(q4:∀u∈us,u.1=i)
inductive F1n(a b c d e:Sl)(ρ:List Sl):Prop where|mk(s:Sl)(q0:ρ=[a,b,c,d,e,s])(q1:fr s=true)
theorem Hs{s:Sl}{fs:List Int}(hs:Kf s fs)(h:HN m ws)(hf:fs.length=ws.length)(k:Q (.val (.lst ((rD (lC ws fs m.toNat (iy ws.length))).map D.lst))) [.val false (aC m ws),s]):(run Γ w (n+2) 3 [.val false (aC m ws),s]).sat Q:=by
 have hn:=h.len;have m0:=h.m0;have m1:=h.m1;refine aH (d:=f3) rfl rfl (by decide) ?_;refine cP (fun ρ=>ρ=[.val false (aC m ws),s,.hold (rD (lC ws fs m.toNat (iy 0))),.aV,.aV]) ?_ ?_
 . simp[f3,show m<=1000000000 by omega,show-1000000000<=m by omega];refine⟨fun _=>?_,by omega⟩;rw[bO];refine qI (F1n _ _ _ _ _) (fun _=>[]) ⟨.aV,rfl,rfl⟩ ?_ ?_;.rintro d hd _⟨s',rfl,hs'⟩;simp[hs'];exact⟨_,rfl,rfl⟩
   .rintro _⟨s',rfl,hs'⟩;simp[rD,lC,iy]
 rintro _ rfl;refine cP (JOp m ws fs s ws.length) ?_ ?_
 . simp[show(ws.length:Int)<=1000000000 by omega];refine iQ (JOp m ws fs s) ?_ ?_ ⟨.aV,.aV,rfl,rfl,rfl⟩
   . rintro i _ hi⟨s3,s4,rfl,h3,h4⟩;have hi2:i<fs.length:=by omega
     have e1:ws[i]?=some ws[i]:=by simp[hi]
     have e2:fs[i]?=some fs[i]:=by simp[hi2]
     generalize ws[i]=v at*;generalize fs[i]=g at*;simp[h3];apply aj;simp;refine cu (JOq m ws fs s i) ?_ ?_ ⟨iy i,[(i,true),(i,false)],s4,rfl,h4,rfl,by rw[sJ];simp,by simp⟩;.rintro d r _⟨l,us,s4,rfl,h4,hr,hl,hu⟩;cases us with|nil=>cases hr|cons u us=>
         obtain⟨rfl,rfl⟩:d=sD u/\r=us.map sD:=by simpa using hr
         obtain rfl:=hu u (by simp);have hl2:(l++[u])++us=iy (u.1+1):=by rw[append_assoc];exact hl
         have hll:l.length<1000:=by have:=congrArg List.length hl;rw[xM]at this;simp at this;omega
         simp[h4];apply aj;rcases hs with rfl|⟨b,rfl⟩;all_goals
          simp[sD];refine sY (by first|exact .inl rfl|exact .inr ⟨_,rfl⟩) e1 e2 ?_;simp;refine⟨fun ho=>?_,fun ho=>?_⟩;.obtain⟨⟨row,q1⟩,q2⟩:=Nq (ws:=ws) (fs:=fs) (l:=l) e1 e2 ho (RD h e1 u.2) hll;symm;simp;refine lu e1 ?_;simp[q1];have q3:jD (rD (lC ws fs m.toNat l)) (frm v u.2) (fun row=>if row.length<lim then some (row++[fG u.1 u.2])else none)=_:=q2;rw[q3];simp;exact⟨l++[u],us,_,rfl,rfl,rfl,hl2,fun x hx=>hu x (by simp[hx])⟩
          .exact⟨l++[u],us,_,by rw[FP e1 e2 (by omega)],rfl,rfl,hl2,fun x hx=>hu x (by simp[hx])⟩
     . rintro _⟨l,us,s4,rfl,h4,hr,hl,hu⟩;have:us=[]:=by cases us with|nil=>rfl|cons _ _=>cases hr
       subst this;rw[append_nil]at hl;subst hl;simp;exact⟨_,_,rfl,rfl,h4⟩
   .rintro _⟨s3,s4,rfl,h3,h4⟩;exact⟨rfl,_,_,rfl,h3,h4⟩
 rintro _⟨s3,s4,rfl,h3,h4⟩;symm;simp;apply aj;simp;exact k
abbrev En:=Int×Nat×Option aU
variable{es:List En}
def oS:Option aU->D|none=>.non|some s=>sD s
def ym(e:En):D:=.tup [.int 0,.int (e.2.1:Int),oS e.2.2]
def en(e:En):Int×D:=(e.1,ym e)
def lO(es:List En):D:=.dv (es.map (·.1)) (es.map ym)
def Kd(p:Int):Int×D:=(p,.bl true)
@[simp]theorem Qc{l:List Int}:Ld (l.map Kd)=l:=by simp[Ld,Kd,Function.comp_def]
theorem Gv{l:List En}:Ld (l.map en)=l.map (·.1):=by simp[Ld,en,Function.comp_def]
theorem zK{l:List En}:vQ (l.map en) p=true↔∃n o,(p,n,o)∈l:=by show(Ld (l.map en)).contains p=true↔_;rw[Gv];simp
theorem kin_no{l:List En}(h:¬ ∃n o,(p,n,o)∈l):vQ (l.map en) p=false:=by cases e:vQ (l.map en) p with|false=>rfl|true=>exact absurd (zK.mp e) h
theorem j9{p:Int}{n:Nat}{o:Option aU}:∀{l:List En},(l.map (·.1)).Nodup->(p,n,o)∈l->nU (l.map en) p=some (ym (p,n,o))
 |[],_,h=>by cases h|e::l,hn,h=>by
   rw[map_cons,nodup_cons]at hn;unfold nU;rw[map_cons,find?_cons];by_cases c:e.1=p
   . have:(p,n,o)=e:=by
      rcases mem_cons.mp h with h|h;.exact h
      .exact absurd (c▸mem_map.mpr ⟨_,h,rfl⟩) hn.1
     subst this;simp[en]
   . have h':(p,n,o)∈l:=by
      rcases mem_cons.mp h with h|h;.exact absurd (by rw[<-h]) c
      .exact h
     simp[en,c];have:=j9 hn.2 h';unfold nU at this;simpa[en]using this
theorem xr{kvs:List (Int×D)}{d:D}(h:vQ kvs p=false):jL kvs p d=kvs++[(p,d)]:=by
 unfold jL;rw[if_neg];intro h2;obtain⟨x,hx,e⟩:=List.any_eq_true.mp h2;have:vQ kvs p=true:=by show(kvs.map (·.1)).contains p=true;rw[List.contains_iff_mem];exact mem_map.mpr ⟨x,hx,by simpa using e⟩
 rw[this]at h;cases h
theorem JH{l:List En}{a b:Nat}{u:Option aU}(hn:(l.map (·.1)).Nodup)(h1:(p,a,o)∈l)(h2:(p,b,u)∈l):a=b/\o=u:=by
 have e1:=j9 hn h1;rw[j9 hn h2]at e1;have:ym (p,b,u)=ym (p,a,o):=by simpa using e1
 unfold ym at this;simp at this;refine⟨by omega,?_⟩;cases o with
 |none=>cases u with|none=>rfl|some u=>cases this.2
 |some o=>cases u with|none=>cases this.2|some u=>have:=this.2;simp[oS,sD,fG]at this;rw[Prod.ext_iff.mpr ⟨(by omega:o.1=u.1),this.2.symm⟩]
structure O8(m:Int)(ws:List Wy)(fs:List Int)(es:List En):Prop where
 nd:(es.map (·.1)).Nodup
 inm:∀p l o,(p,l,o)∈es->0<=p/\p<m
 z:(0,0,none)∈es
 lv:∀p l o,(p,l,o)∈es->l<es.length
 stp:∀p l o,(p,l,o)∈es->(o=none/\p=0/\l=0)\/∃(s:aU)(v:Wy)(l':Nat)(o':Option aU),o=some s/\l=l'+1/\ws[s.1]?=some v/\too v s.2=p/\jG ws fs (frm v s.2) s=true/\(frm v s.2,l',o')∈es
theorem O8.len{fs:List Int}(h:O8 m ws fs es)(m1:m<=6):es.length<=6:=by
 have:=mj (l2:=[0,1,2,3,4,5]) h.nd fun q hq=>by
  obtain⟨⟨p,l,o⟩,he,rfl⟩:=mem_map.mp hq;have:=h.inm p l o he;have:p=0\/p=1\/p=2\/p=3\/p=4\/p=5:=by omega
  simpa using this
 simpa using this
def PX(ws:List Wy)(es:List En)(n:Nat)(s:aU):Prop:=∀v,ws[s.1]?=some v->∃l o,(too v s.2,l,o)∈es/\l<=n+1
theorem PX.app{es':List En}(h:PX ws es n s):PX ws (es++es') n s:=fun v e=>by obtain⟨l,o,h1,h2⟩:=h v e;exact⟨l,o,mem_append_left _ h1,h2⟩
structure In(m:Int)(ws:List Wy)(fs:List Int)(n:Nat)(R:List Int)(L:Nat)(K:aU->Prop)(es:List En)(ch:List Int):Prop where
 cm:O8 m ws fs es
 row:∀p∈R,∃o,(p,n,o)∈es
 Km:∀p l o,(p,l,o)∈es->l<=n+1
 new:∀p o,(p,n+1,o)∈es->p∈ch
 old:∀p o,(p,n,o)∈es->p∈R
 chg:∀p∈ch,∃o,(p,n+1,o)∈es
 cl:∀p l o s,(p,l,o)∈es->l<n->jG ws fs p s=true->PX ws es l s
 dn:∀s,K s->PX ws es n s
 len:es.length=L+ch.length
theorem In.put{fs:List Int}{R:List Int}{L:Nat}{K:aU->Prop}(h:In m ws fs n R L K es ch)(hm:HN m ws)(hp:p∈R)(e:ws[s.1]?=some v)(ho:jG ws fs p s=true)(hf:frm v s.2=p)(hn:¬ ∃l o,(too v s.2,l,o)∈es):In m ws fs n R L (fun u=>K u\/u=s) (es++[(too v s.2,n+1,some s)]) (ch++[too v s.2]):=by
 obtain⟨op,hop⟩:=h.row p hp;have mono:∀{p l o},(p,l,o)∈es->(p,l,o)∈es++[(too v s.2,n+1,some s)]:=fun z=>mem_append_left _ z;have last:(too v s.2,n+1,some s)∈es++[(too v s.2,n+1,some s)]:=mem_append_right _ (by simp);have TJ:∀{p l o},(p,l,o)∈es++[(too v s.2,n+1,some s)]->(p,l,o)∈es\/(p=too v s.2/\l=n+1/\o=some s):=fun z=>by simpa using z
 refine⟨⟨?_,fun p l o z=>?_,mono h.cm.z,fun p l o z=>?_,fun p l o z=>?_⟩,fun q hq=>?_,fun p l o z=>?_,fun q o z=>?_,fun q o z=>?_,fun q hq=>?_,fun q l o u z hl hu=>?_,fun u hu=>?_,?_⟩
 . rw[map_append,nodup_append];refine⟨h.cm.nd,by simp,fun a ha b hb e=>?_⟩;obtain rfl:b=too v s.2:=by simpa using hb
   obtain⟨⟨q,l,o⟩,hq,rfl⟩:=mem_map.mp ha;exact hn ⟨l,o,e▸hq⟩
 . rcases TJ z with z|⟨rfl,_,_⟩;.exact h.cm.inm p l o z
   .exact Rb hm e s.2
 . have hl:=h.cm.lv _ _ _ hop;simp only[length_append,length_cons,length_nil];rcases TJ z with z|⟨_,rfl,_⟩;.have:=h.cm.lv p l o z;omega
   .omega
 . rcases TJ z with z|⟨rfl,rfl,rfl⟩
   . rcases h.cm.stp p l o z with z|⟨s',v',l',o',z1,z2,z3,z4,z5,z6⟩;.exact .inl z
     .exact .inr ⟨s',v',l',o',z1,z2,z3,z4,z5,mono z6⟩
   .exact .inr ⟨s,v,n,op,rfl,rfl,e,rfl,by rw[hf];exact ho,by rw[hf];exact mono hop⟩
 .obtain⟨o,z⟩:=h.row q hq;exact⟨o,mono z⟩
 . rcases TJ z with z|⟨_,rfl,_⟩;.exact h.Km p l o z
   .exact cR
 . rcases TJ z with z|⟨rfl,_,_⟩;.exact mem_append_left _ (h.new q o z)
   .exact mem_append_right _ (by simp)
 . rcases TJ z with z|⟨_,z,_⟩;.exact h.old q o z
   .omega
 . rcases mem_append.mp hq with hq|hq;.obtain⟨o,z⟩:=h.chg q hq;exact⟨o,mono z⟩
   . obtain rfl:q=too v s.2:=by simpa using hq
     exact⟨_,last⟩
 . rcases TJ z with z|⟨_,rfl,_⟩;.exact(h.cl q l o u z hl hu).app
   .omega
 . rcases hu with hu|rfl;.exact(h.dn u hu).app
   .exact fun v' e'=>by rw[e]at e';cases e';exact⟨_,_,last,cR⟩
 .have:=h.len;simp only[length_append,length_cons,length_nil];omega
theorem In.keep{fs:List Int}{R:List Int}{L:Nat}{K:aU->Prop}(h:In m ws fs n R L K es ch){l:Nat}(e:ws[s.1]?=some v)(hn:(too v s.2,l,o)∈es):In m ws fs n R L (fun u=>K u\/u=s) es ch:=by
 refine⟨h.cm,h.row,h.Km,h.new,h.old,h.chg,h.cl,fun u hu=>?_,h.len⟩;rcases hu with hu|rfl;.exact h.dn u hu
 .exact fun v' e'=>by rw[e]at e';cases e';exact⟨_,_,hn,h.Km _ _ _ hn⟩
structure Wh(m:Int)(ws:List Wy)(fs:List Int)(n:Nat)(R:List Int)(es:List En):Prop where
 cm:O8 m ws fs es
 row:∀p∈R,∃o,(p,n,o)∈es
 Km:∀p l o,(p,l,o)∈es->l<=n
 old:∀p o,(p,n,o)∈es->p∈R
 cl:∀p l o s,(p,l,o)∈es->l<n->jG ws fs p s=true->PX ws es l s
theorem Wh.start{fs:List Int}(m0:2<=m):Wh m ws fs 0 [0] [(0,0,none)]:=by
 refine⟨⟨by simp,fun p l o z=>?_,by simp,fun p l o z=>?_,fun p l o z=>.inl ?_⟩,fun p hp=>?_,fun p l o z=>?_,fun p o z=>?_,fun p l o s z hl=>by omega⟩;.simp at z;omega
 .simp at z;simp[z]
 .simp at z;exact⟨z.2.2,z.1,z.2.1⟩
 .simp at hp;subst hp;exact⟨none,by simp⟩
 .simp at z;omega
 .simp at z;simp[z.1]
theorem Wh.to{fs:List Int}{R:List Int}(h:Wh m ws fs n R es):In m ws fs n R es.length (fun _=>False) es []:=⟨h.cm,h.row,fun p l o z=>Nat.le_succ_of_le (h.Km p l o z),fun p o z=>absurd (h.Km _ _ _ z) (by omega),h.old,fun p hp=>(by cases hp),h.cl,fun s hs=>hs.elim,by simp⟩
theorem In.out{fs:List Int}{R:List Int}{L:Nat}(h:In m ws fs n R L (fun s=>∃p∈R,jG ws fs p s=true) es ch):Wh m ws fs (n+1) ch es:=⟨h.cm,h.chg,h.Km,h.new,fun p l o s z hl hs=>by
  by_cases c:l<n;.exact h.cl p l o s z c hs
  . obtain rfl:l=n:=by omega
    exact h.dn s ⟨p,h.old p o z,hs⟩⟩
structure qJ(m:Int)(ws:List Wy)(fs:List Int)(es:List En):Prop where
 cm:O8 m ws fs es
 cl:∀p l o s,(p,l,o)∈es->jG ws fs p s=true->PX ws es l s
theorem Wh.fin{fs:List Int}(h:Wh m ws fs n [] es):qJ m ws fs es:=⟨h.cm,fun p l o s z hs=>h.cl p l o s z (by
  have:=h.Km p l o z;by_cases c:l=n;.subst c;cases h.old p o z
  .omega) hs⟩
theorem wu(h:s.1<N):s∈iy N:=by unfold iy;rw[List.mem_flatMap];refine⟨s.1,by simp[h],?_⟩;obtain⟨j,f⟩:=s;cases f<;>simp
theorem yF{fs:List Int}(h:jG ws fs p s=true):∃v g,ws[s.1]?=some v/\fs[s.1]?=some g/\frm v s.2=p/\0<tL v g s.2:=by
 unfold jG at h;split at h;.rename_i v g e1 e2;simp at h;exact⟨v,g,e1,e2,h.1,h.2⟩
 .cases h
theorem In.imp{fs:List Int}{R:List Int}{L:Nat}{K K':aU->Prop}(h:In m ws fs n R L K es ch)(z:∀s,K' s->K s):In m ws fs n R L K' es ch:=⟨h.cm,h.row,h.Km,h.new,h.old,h.chg,h.cl,fun s hs=>h.dn s (z s hs),h.len⟩
theorem Qf{fs:List Int}{l:List aU}(hp:0<=p/\p<m):at' ((rD (lC ws fs m.toNat l)).map D.lst) p=some (.lst ((l.filter (jG ws fs p)).map sD)):=by rw[jk hp.1 (by simp[rD,lC];omega)];simp[rD,lC,show p.toNat<m.toNat by omega,Int.toNat_of_nonneg hp.1]
@[simp]theorem cut3{a b c:D}:CJ (.tup [a,b,c]) (part (.con .non) .non) (part (.con (.int 2)) (.int 2))=some (.val (.tup [a,b])):=rfl
@[simp]theorem acJ{i j:Int}:cm .lt (.tup [.int 0,.int i]) (.tup [.int 0,.int j])=some (decide (i<j)):=by show some (cY [0,i] [0,j])=_;simp[cY]
def bg:Sl:=.val false (.dv [0] [.int 0])
inductive JC2(m:Int)(ws:List Wy)(fs:List Int)(a0 a1 a2 a3 a6:Sl)(n:Nat)(R:List Int)(L:Nat)(pre:List Int)(p:Int)(r:List D)(ρ:List Sl):Prop where|mk(es:List En)(ch:List Int)(fO us:List aU)(s8 s9 j4:Sl)(q0:ρ=[a0,a1,a2,a3,.dq (es.map en),.val false (.int p),a6,.dq (ch.map Kd),s8,s9,j4])(q1:A3 (fr s8=true) (fr s9=true) (fr j4=true))(q2:r=us.map sD)(q3:fO++us=(iy ws.length).filter (jG ws fs p))(q4:In m ws fs n R L (fun s=>(∃q∈pre,jG ws fs q s=true)\/s∈fO) es ch)
inductive JC1(m:Int)(ws:List Wy)(fs:List Int)(a0 a1 a2 a3 a6:Sl)(n:Nat)(R:List Int)(L:Nat)(r:List D)(ρ:List Sl):Prop where|mk(es:List En)(ch pre qs:List Int)(s5 s8 s9 j4:Sl)(q0:ρ=[a0,a1,a2,a3,.dq (es.map en),s5,a6,.dq (ch.map Kd),s8,s9,j4])(q1:A4 (fr s5=true) (fr s8=true) (fr s9=true) (fr j4=true))(q2:r=qs.map D.int)(q3:pre++qs=R)(q4:In m ws fs n R L (fun s=>∃q∈pre,jG ws fs q s=true) es ch)
inductive JCw(m:Int)(ws:List Wy)(fs:List Int)(a0 a1 a2 a3:Sl)(M:Nat)(ρ:List Sl):Prop where|mk(n:Nat)(R:List Int)(es:List En)(s5 s7 s8 s9 j4:Sl)(q0:ρ=[a0,a1,a2,a3,.dq (es.map en),s5,.own false (R.map D.int),s7,s8,s9,j4])(q1:A4 (fr s5=true) (fr s8=true) (fr s9=true) (fr j4=true))(q2:(s7=.aV\/∃d,s7=.val false d))(q3:Wh m ws fs n R es)(q4:(R≠[]->2*(6-es.length)+1<=M))
def JC0(a0 a1 a2 a3:Sl)(r:List D)(ρ:List Sl):Prop:=(r=[.int 0]/\ρ=[a0,a1,a2,a3,.dq [],.aV,.aV,.aV,.aV,.aV,.aV])\/(r=[]/\ρ=[a0,a1,a2,a3,.dq [en (0,0,none)],.val false (.int 0),.aV,.aV,.aV,.aV,.aV])
theorem qe{s:Sl}{fs:List Int}(hw:100<=w)(hs:Kf s fs)(h:HN m ws)(hf:fs.length=ws.length)(k:∀es,qJ m ws fs es->Q (.val (lO es)) [.val false (aC m ws),s,bg]):(run Γ w (n+3) 4 [.val false (aC m ws),s,bg]).sat Q:=by
 have hn:=h.len;have m0:=h.m0;have m1:=h.m1;refine aH (d:=f4) rfl rfl (by decide) ?_;refine cP (fun ρ=>ρ=[.val false (aC m ws),s,bg,.val false (.lst ((rD (lC ws fs m.toNat (iy ws.length))).map D.lst)),.aV,.aV,.aV,.aV,.aV,.aV,.aV]) ?_ ?_;.have hss:=hs;rcases hs with rfl|⟨b,rfl⟩;all_goals simp[f4,bg];refine Hs (by first|exact .inl rfl|exact .inr ⟨_,rfl⟩) h hf ?_;simp
 rintro _ rfl;generalize hA:((rD (lC ws fs m.toNat (iy ws.length))).map D.lst)=A;symm;simp;apply aj;simp[bg];refine cu (JC0 (.val false (aC m ws)) s bg (.val false (.lst A))) ?_ ?_ (.inl ⟨rfl,rfl⟩)
 . rintro d r _(⟨hr,rfl⟩|⟨hr,rfl⟩)
   . obtain⟨rfl,rfl⟩:d=.int 0/\r=[]:=by simpa using hr
     simp;apply aj;simp[bg,nU];exact .inr ⟨rfl,rfl⟩
   .cases hr
 rintro _(⟨hr,rfl⟩|⟨hr,rfl⟩);.cases hr
 simp;apply aj;simp[bg];apply aj;simp;refine fu (JCw m ws fs _ _ _ _) ?_ (k:=w) (m:=50) (by omega) ⟨0,[0],[(0,0,none)],_,_,_,_,_,rfl,⟨rfl,rfl,rfl,rfl⟩,.inl rfl,Wh.start m0,fun _=>by simp⟩;rintro M _⟨n',R,es,s5,s7,s8,s9,j4,rfl,⟨h5,h8,h9,h10⟩,h7,hW,hM⟩;by_cases hR:R=[];.subst hR;simp;apply aj;simp;have:=k es hW.fin;simp[Function.comp_def,en];exact this
 . have hR2:0<R.length:=by cases R with|nil=>exact absurd rfl hR|cons _ _=>simp
   simp[hR2];refine cP (fun ρ=>ρ=[.val false (aC m ws),s,bg,.val false (.lst A),.dq (es.map en),s5,.own false (R.map D.int),.dq [],s8,s9,j4]) ?_ ?_
   . rcases h7 with rfl|⟨d,rfl⟩;.simp[bg]
     .simp[bg]
   rintro _ rfl;symm;simp;refine cu (JC1 m ws fs _ _ _ _ _ n' R es.length) ?_ ?_ ⟨es,[],[],R,s5,s8,s9,j4,rfl,⟨h5,h8,h9,h10⟩,rfl,rfl,hW.to.imp fun s hs=>by obtain⟨q,hq,_⟩:=hs;cases hq⟩;.rintro d r _⟨es',ch,pre,qs,s5,s8,s9,j4,rfl,⟨h5,h8,h9,h10⟩,hr,hpq,hI⟩;cases qs with|nil=>cases hr|cons p qs=>
       obtain⟨rfl,rfl⟩:d=.int p/\r=qs.map D.int:=by simpa using hr
       have hpR:p∈R:=by rw[<-hpq];simp
       have hpm:0<=p/\p<m:=by obtain⟨o,ho⟩:=hI.row p hpR;exact hI.cm.inm _ _ _ ho
       have hrow:=Qf (ws:=ws) (fs:=fs) (l:=iy ws.length) hpm;rw[hA]at hrow;simp[h5];apply aj;simp[hrow];refine cu (JC2 m ws fs _ _ _ _ _ n' R es.length pre p) ?_ ?_ ⟨es',ch,[],_,s8,s9,j4,rfl,⟨h8,h9,h10⟩,rfl,rfl,hI.imp fun s hs=>by rcases hs with hs|hs;exact hs;cases hs⟩;.rintro d r _⟨es',ch,fO,us,s8,s9,j4,rfl,⟨h8,h9,h10⟩,hr,hdu,hI⟩;cases us with|nil=>cases hr|cons u us=>
           obtain⟨rfl,rfl⟩:d=sD u/\r=us.map sD:=by simpa using hr
           have hu:jG ws fs p u=true:=by
            have:u∈(iy ws.length).filter (jG ws fs p):=by rw[<-hdu];simp
            exact(mem_filter.mp this).2
           obtain⟨v,g,e1,e2,e3,e4⟩:=yF hu;have YQ:(fO++[u])++us=(iy ws.length).filter (jG ws fs p):=by rw[append_assoc];exact hdu
           have hz:v.h=0:=(h.ok v (mem_of_getElem? e1)).2.2;obtain⟨op,hop⟩:=hI.row p hpR;have gp:=j9 hI.cm.nd hop;have hlen:=hI.cm.len m1;have hcl:ch.length<=6:=by have:=hI.len;omega
           simp[h8];apply aj;simp[sD];refine lu e1 ?_;simp[h9];apply aj;simp[gp,ym];refine Ds e1 hz ?_;simp[gp,ym,h10];apply aj;by_cases hq:∃l o,(too v u.2,l,o)∈es';.obtain⟨l,o,hlo⟩:=hq;have gt:=j9 hI.cm.nd hlo;have kt:vQ (es'.map en) (too v u.2)=true:=zK.mpr ⟨l,o,hlo⟩;have hle:=hI.Km _ _ _ hlo;simp[kt,gt,ym];refine⟨fun z=>by omega,?_⟩;exact fun _=>⟨es',ch,fO++[u],us,_,_,_,rfl,⟨rfl,rfl,rfl⟩,rfl,YQ,(hI.keep e1 hlo).imp fun s hs=>by
              rcases hs with hs|hs;.exact .inl (.inl hs)
              . rcases mem_append.mp hs with hs|hs;.exact .inl (.inr hs)
                .exact .inr (by simpa using hs)⟩
           . have kt:vQ (es'.map en) (too v u.2)=false:=kin_no hq;have kc:vQ (ch.map Kd) (too v u.2)=false:=by cases e:vQ (ch.map Kd) (too v u.2)with|false=>rfl|true=>have:(Ld (ch.map Kd)).contains (too v u.2)=true:=e;rw[Qc,List.contains_iff_mem]at this;obtain⟨o,ho⟩:=hI.chg _ this;exact absurd ⟨_,_,ho⟩ hq
             have p1:jL (es'.map en) (too v u.2) (.tup [.int 0,.int ((n':Int)+1),fG u.1 u.2])=(es'++[(too v u.2,n'+1,some u)]).map en:=by rw[xr kt];simp[en,ym,oS,sD]
             have p2:jL (ch.map Kd) (too v u.2) (.bl true)=(ch++[too v u.2]).map Kd:=by rw[xr kc];simp[Kd]
             simp[kt];apply aj;simp[p1];refine⟨by decide,fun _=>?_,by show _<16777216;omega⟩;symm;simp[p2];refine⟨fun _=>?_,by show _<16777216;omega⟩;refine⟨es'++[(too v u.2,n'+1,some u)],ch++[too v u.2],fO++[u],us,.val false (fG u.1 u.2),.val false (.int (too v u.2)),.val false (.tup [.int 0,.int ((n':Int)+1)]),by simp,⟨rfl,rfl,rfl⟩,rfl,YQ,(hI.put h hpR e1 hu e3 hq).imp fun s hs=>?_⟩;rcases hs with hs|hs;.exact .inl (.inl hs)
             . rcases mem_append.mp hs with hs|hs;.exact .inl (.inr hs)
               .exact .inr (by simpa using hs)
       . rintro _⟨es',ch,fO,us,s8,s9,j4,rfl,⟨h8,h9,h10⟩,hr,hdu,hI⟩;have:us=[]:=by cases us with|nil=>rfl|cons _ _=>cases hr
         subst this;rw[append_nil]at hdu;simp;refine⟨es',ch,pre++[p],qs,_,_,_,_,rfl,⟨rfl,h8,h9,h10⟩,rfl,by rw[append_assoc];exact hpq,hI.imp fun s hs=>?_⟩;obtain⟨q,hq,hs⟩:=hs;rcases mem_append.mp hq with hq|hq;.exact .inl ⟨q,hq,hs⟩
         . obtain rfl:q=p:=by simpa using hq
           refine .inr ?_;rw[hdu];obtain⟨v,g,e1,_⟩:=yF hs;exact mem_filter.mpr ⟨wu (cV e1).1,hs⟩
   . rintro _⟨es',ch,pre,qs,s5,s8,s9,j4,rfl,⟨h5,h8,h9,h10⟩,hr,hpq,hI⟩;have:qs=[]:=by cases qs with|nil=>rfl|cons _ _=>cases hr
     subst this;rw[append_nil]at hpq;subst hpq;have hlen:=hI.cm.len m1;have hel:=hI.len;have hM2:=hM hR;have hO:=hI.out;simp;apply aj;simp[show ch.length<=16777216 by omega];by_cases hc:ch=[];.exact⟨0,by omega,n'+1,ch,es',_,_,_,_,_,rfl,⟨h5,h8,h9,h10⟩,.inr ⟨_,rfl⟩,hO,fun z=>absurd hc z⟩
     . have:0<ch.length:=by cases ch with|nil=>exact absurd rfl hc|cons _ _=>simp
       exact⟨2*(6-es'.length)+1,by omega,n'+1,ch,es',_,_,_,_,_,rfl,⟨h5,h8,h9,h10⟩,.inr ⟨_,rfl⟩,hO,fun _=>cR⟩
def Nh(ws:List Wy)(b:Int):List aU->Int->Prop|[],a=>a=b|s::c,a=>∃v,ws[s.1]?=some v/\frm v s.2=a/\Nh ws b c (too v s.2)
structure VR(ws:List Wy)(fs:List Int)(es:List En)(p:Int)(L:Nat)(a:Int)(l:Nat)(c:List aU):Prop where
 YS:Nh ws p c a
 lC:∀s∈c,∃v,ws[s.1]?=some v/\jG ws fs (frm v s.2) s=true
 nd:(c.map (·.1)).Nodup
 lv:∀s∈c,∀v,ws[s.1]?=some v->∃l1 o1 o2,(frm v s.2,l1,o1)∈es/\(too v s.2,l1+1,o2)∈es/\l<=l1
 len:c.length+l=L
theorem uT{g:Bool}(h:g≠f):frm v g=too v f/\too v g=frm v f:=by cases f<;>cases g<;>first|exact absurd rfl h|exact⟨rfl,rfl⟩
theorem VR.cons{m:Int}{ws:List Wy}{fs:List Int}{es:List En}{p:Int}{L l:Nat}{c:List aU}{s:aU}{v:Wy}{o o':Option aU}(hc:O8 m ws fs es)(h:VR ws fs es p L (too v s.2) (l+1) c)(e:ws[s.1]?=some v)(h1:(too v s.2,l+1,o)∈es)(h2:(frm v s.2,l,o')∈es)(ho:jG ws fs (frm v s.2) s=true):VR ws fs es p L (frm v s.2) l (s::c):=by
 refine⟨⟨v,e,rfl,h.YS⟩,fun u hu=>?_,?_,fun u hu x ex=>?_,by have:=h.len;simp only[length_cons];omega⟩
 . rcases mem_cons.mp hu with rfl|hu;.exact⟨v,e,ho⟩
   .exact h.lC u hu
 . rw[map_cons,nodup_cons];refine⟨fun hm=>?_,h.nd⟩;obtain⟨t,ht,et⟩:=mem_map.mp hm;obtain⟨l1,o1,o2,q1,q2,q3⟩:=h.lv t ht v (by rw[et];exact e);by_cases z:t.2=s.2;.rw[z]at q1;have:=(JH hc.nd q1 h2).1;omega
   .rw[(uT z).2]at q2;have:=(JH hc.nd q2 h2).1;omega
 . rcases mem_cons.mp hu with rfl|hu;.rw[e]at ex;cases ex;exact⟨l,_,_,h2,h1,cR⟩
   .obtain⟨l1,o1,o2,q1,q2,q3⟩:=h.lv u hu x ex;exact⟨l1,o1,o2,q1,q2,by omega⟩
theorem Hq{l:Nat}(hn:(es.map (·.1)).Nodup)(h:(p,l,o)∈es):nU ((es.map (·.1)).zip (es.map ym)) p=some (ym (p,l,o)):=by
 have:(es.map (·.1)).zip (es.map ym)=es.map en:=by rw[List.zip_map'];rfl
 rw[this];exact j9 hn h
inductive JSt(m:Int)(ws:List Wy)(fs:List Int)(es:List En)(p:Int)(L:Nat)(a0 a1 a2:Sl)(M:Nat)(ρ:List Sl):Prop where|mk(a:Int)(l:Nat)(o:Option aU)(c:List aU)(s5:Sl)(q0:ρ=[a0,a1,a2,.own false (c.reverse.map sD),.val false (.int a),s5])(q1:fr s5=true)(q2:(a,l,o)∈es)(q3:VR ws fs es p L a l c)(q4:l<=M)
theorem CV{L:Nat}{fs:List Int}(hw:100<=w)(h:O8 m ws fs es)(m1:m<=6)(hp:(p,L,o)∈es)(k:∀c,VR ws fs es p L 0 0 c->Q (.val (.tup (c.map sD))) [.val false (aC m ws),.val false (lO es),.val false (.int p)]):(run Γ w (n+2) 5 [.val false (aC m ws),.val false (lO es),.val false (.int p)]).sat Q:=by
 refine aH (d:=f5) rfl rfl (by decide) ?_;symm;simp[f5];apply aj;simp;apply aj;simp;have hL:=h.lv _ _ _ hp;have hes:=h.len m1;refine fu (JSt m ws fs es p L _ _ _) ?_ (k:=w) (m:=L) (by omega) ⟨p,L,o,[],.aV,rfl,rfl,hp,⟨rfl,by simp,by simp,by simp,by simp⟩,cR⟩;rintro M _⟨a,l,o,c,s5,rfl,h5,ha,hc,hM⟩;have gz:=Hq h.nd ha;rcases h.stp a l o ha with⟨rfl,rfl,rfl⟩|⟨s,v,l',o',rfl,rfl,e,rfl,ho,h2⟩;.simp[lO,gz,ym,oS];symm;simp;exact k c hc
 . simp[lO,gz,ym,oS,sD,fG];symm;simp[gz,ym,oS,h5];apply aj;have hcl:c.length<16777216:=by have:=hc.len;omega
   simp[hcl];apply aj;simp[sD];refine lu e ?_;simp;exact⟨l',by omega,frm v s.2,l',o',s::c,.val false (fG s.1 s.2),by simp[lO,sD],rfl,h2,hc.cons h e ha h2 ho,cR⟩
def sg(x:Int)(f:Bool):Int:=if f then x else-x
def jn(x:Int)(fs:List Int)(s:aU):List Int:=fs.set s.1 ((fs[s.1]?.getD 0)+sg x s.2)
def aug(x:Int)(fs:List Int)(c:List aU):List Int:=c.foldl (jn x) fs
@[simp]theorem Hv{x:Int}{fs:List Int}{s:aU}:(jn x fs s).length=fs.length:=by simp[jn]
theorem pO{x:Int}:∀{c:List aU}{fs:List Int},(aug x fs c).length=fs.length|[],_=>rfl|s::c,fs=>by show(aug x (jn x fs s) c).length=_;rw[pO,Hv]
theorem j7{x:Int}{j:Nat}:∀{c:List aU}{fs:List Int},j∉c.map (·.1)->(aug x fs c)[j]?=fs[j]?|[],_,_=>rfl|s::c,fs,h=>by rw[map_cons,mem_cons,not_or]at h;show(aug x (jn x fs s) c)[j]?=_;rw[j7 h.2];unfold jn;rw[getElem?_set_ne (fun z=>h.1 z.symm)]
theorem uV{x:Int}:∀{c:List aU}{fs:List Int}{s:aU}{g:Int},(c.map (·.1)).Nodup->s∈c->fs[s.1]?=some g->(aug x fs c)[s.1]?=some (g+sg x s.2)
 |[],_,_,_,_,h,_=>by cases h|t::c,fs,s,g,hn,h,e=>by
   rw[map_cons,nodup_cons]at hn;show(aug x (jn x fs t) c)[s.1]?=_;have hlt:=(cV e).1;rcases mem_cons.mp h with rfl|h;.rw[j7 hn.1];unfold jn;rw[getElem?_set_self hlt,e];rfl
   .refine uV hn.2 h ?_;unfold jn;rw[getElem?_set_ne (fun z=>hn.1 (by rw[z];exact mem_map.mpr ⟨s,h,rfl⟩))];exact e
inductive JWt(x:Int)(fs:List Int)(c:List aU)(a0 a1 a2:Sl)(r:List D)(ρ:List Sl):Prop where|mk(fO us:List aU)(s4 s5:Sl)(q0:ρ=[a0,a1,a2,.own false ((aug x fs fO).map D.int),s4,s5])(q1:fr s4=true)(q2:fr s5=true)(q3:r=us.map sD)(q4:fO++us=c)
theorem v5{s:Sl}{fs:List Int}{c:List aU}(hs:Kf s fs)(hc:∀s∈c,s.1<fs.length)(k:Q (.own ((aug x fs c).map D.int)) [s,.val false (.tup (c.map sD)),.val false (.int x)]):(run Γ w (n+1) 6 [s,.val false (.tup (c.map sD)),.val false (.int x)]).sat Q:=by
 refine aH (d:=f6) rfl rfl (by decide) ?_;refine cP (fun ρ=>ρ=[s,.val false (.tup (c.map sD)),.val false (.int x),.own false (fs.map D.int),.aV,.aV]) ?_ ?_;.rcases hs with rfl|⟨b,rfl⟩;all_goals simp[f6]
 rintro _ rfl;symm;simp;refine cu (JWt x fs c _ _ _) ?_ ?_ ⟨[],c,.aV,.aV,rfl,rfl,rfl,rfl,rfl⟩;.rintro d r _⟨fO,us,s4,s5,rfl,h4,h5,hr,hd⟩;cases us with|nil=>cases hr|cons u us=>
     obtain⟨rfl,rfl⟩:d=sD u/\r=us.map sD:=by simpa using hr
     have hu:u.1<(aug x fs fO).length:=by rw[pO];exact hc u (by rw[<-hd];simp)
     have ea:(aug x fs fO)[u.1]?=some (aug x fs fO)[u.1]:=by simp[hu]
     have hx:iD (aug x fs fO).length (u.1:Int)=some u.1:=by unfold iD;rw[if_pos (by omega),if_pos (by omega)];simp
     have he:aug x fs (fO++[u])=(aug x fs fO).set u.1 ((aug x fs fO)[u.1]+sg x u.2):=by unfold aug;rw[List.foldl_append];show jn x (aug x fs fO) u=_;unfold jn;rw[ea];rfl
     have hd2:(fO++[u])++us=c:=by rw[append_assoc];exact hd
     generalize(aug x fs fO)[u.1]=g at*;simp[sD,fG,h4,h5];apply aj;obtain⟨j,f⟩:=u;cases f with|true=>simp[cB ea,hx];exact⟨fO++[(j,true)],us,_,_,by rw[he,map_set];rfl,rfl,rfl,rfl,hd2⟩|false=>simp[cB ea,hx];exact⟨fO++[(j,false)],us,_,_,by rw[he,map_set];rfl,rfl,rfl,rfl,hd2⟩
 . rintro _⟨fO,us,s4,s5,rfl,h4,h5,hr,hd⟩;have:us=[]:=by cases us with|nil=>rfl|cons _ _=>cases hr
   subst this;rw[append_nil]at hd;subst hd;simp;apply aj;simp;exact k
def Np:List En->Int->Nat|[],_=>6|e::es,p=>if e.1=p then e.2.1 else Np es p
theorem nW{p:Int}{l:Nat}{o:Option aU}:∀{es:List En},(es.map (·.1)).Nodup->(p,l,o)∈es->Np es p=l
 |[],_,h=>by cases h|e::es,hn,h=>by
   rw[map_cons,nodup_cons]at hn;rw[Np];rcases mem_cons.mp h with rfl|h;.rw[if_pos rfl]
   .rw[if_neg (fun z=>hn.1 (by rw[z];exact mem_map.mpr ⟨_,h,rfl⟩))];exact nW hn.2 h
theorem uF{p:Int}:∀{es:List En},(¬ ∃l o,(p,l,o)∈es)->Np es p=6|[],_=>rfl|e::es,h=>by rw[Np,if_neg (fun z=>h ⟨e.2.1,e.2.2,by rw[<-z];simp⟩)];exact uF fun⟨l,o,z⟩=>h ⟨l,o,mem_cons_of_mem _ z⟩
structure Oi(m:Int)(ws:List Wy)(fs:List Int)(F:Int->Nat)(d:Nat):Prop where
 z:F 0=0
 e:F (m-1)=d
 st:∀s v,ws[s.1]?=some v->jG ws fs (frm v s.2) s=true->F (too v s.2)<=F (frm v s.2)+1
theorem qJ.pot{fs:List Int}(h:qJ m ws fs es)(m1:m<=6){l:Nat}(hl:(m-1,l,o)∈es):Oi m ws fs (Np es) l:=by
 refine⟨nW h.cm.nd h.cm.z,nW h.cm.nd hl,fun s v e ho=>?_⟩;have h6:=h.cm.len m1;have le6:Np es (too v s.2)<=6:=by
  by_cases c:∃l o,(too v s.2,l,o)∈es;.obtain⟨l,o,c⟩:=c;rw[nW h.cm.nd c];have:=h.cm.lv _ _ _ c;omega
  .rw[uF c];exact cR
 by_cases c:∃l o,(frm v s.2,l,o)∈es;.obtain⟨l1,o1,c⟩:=c;obtain⟨l2,o2,c2,c3⟩:=h.cl _ _ _ s c ho v e;rw[nW h.cm.nd c,nW h.cm.nd c2];exact c3
 .rw[uF c];omega
theorem yO{m:Int}{ws:List Wy}{fs:List Int}{F:Int->Nat}{d:Nat}(h:Oi m ws fs F d){b:Int}:∀{c:List aU}{a:Int},Nh ws b c a->(∀s∈c,∃v,ws[s.1]?=some v/\jG ws fs (frm v s.2) s=true)->F b<=F a+c.length|[],a,hp,_=>by have:a=b:=hp;rw[this];simp|s::c,a,⟨v,e,hf,hp⟩,ho=>by have h1:=yO h hp fun u hu=>ho u (mem_cons_of_mem _ hu);obtain⟨v',e',o⟩:=ho s (by simp);rw[e]at e';cases e';have h2:=h.st s v e o;rw[hf]at h2;simp only[length_cons];omega
theorem ue{m:Int}{ws:List Wy}{fs:List Int}{F:Int->Nat}{d:Nat}(h:Oi m ws fs F d){b:Int}:∀{c:List aU}{a:Int},Nh ws b c a->(∀s∈c,∃v,ws[s.1]?=some v/\jG ws fs (frm v s.2) s=true)->F b=F a+c.length->∀s∈c,∀v,ws[s.1]?=some v->F (too v s.2)=F (frm v s.2)+1
 |[],_,_,_,_,s,hs,_,_=>by cases hs|s::c,a,⟨v,e,hf,hp⟩,ho,he,u,hu,x,ex=>by
   have ho':∀s∈c,∃v,ws[s.1]?=some v/\jG ws fs (frm v s.2) s=true:=fun u hu=>ho u (mem_cons_of_mem _ hu);have h1:=yO h hp ho';obtain⟨v',e',o⟩:=ho s (by simp);rw[e]at e';cases e';have h2:=h.st s v e o;rw[hf]at h2;simp only[length_cons]at he;rcases mem_cons.mp hu with rfl|hu;.rw[e]at ex;cases ex;rw[hf];omega
   .exact ue h hp ho' (by omega) u hu x ex
def tgt(ws:List Wy)(fs:List Int)(F:Int->Nat)(s:aU):Bool:=match ws[s.1]?with|some v=>jG ws fs (frm v s.2) s&&decide (F (too v s.2)=F (frm v s.2)+1)|none=>false
theorem HF{ws:List Wy}{fs:List Int}{F:Int->Nat}{s:aU}{v:Wy}(e:ws[s.1]?=some v):tgt ws fs F s=(jG ws fs (frm v s.2) s&&decide (F (too v s.2)=F (frm v s.2)+1)):=by unfold tgt;rw[e]
def CG(ws:List Wy)(fs:List Int)(F:Int->Nat):Nat:=((iy ws.length).filter (tgt ws fs F)).length
theorem Bu{ws:List Wy}{fs:List Int}{F:Int->Nat}(h:ws.length<=12):CG ws fs F<=24:=by have:=length_filter_le (tgt ws fs F) (iy ws.length);rw[xM]at this;unfold CG;omega
theorem Gb{p q:aU->Bool}(h:∀t,q t=true->p t=true):∀(l:List aU),(l.filter q).length<=(l.filter p).length|[]=>cR|t::l=>by have ih:=Gb h l;cases hq:q t with|true=>simp[hq,h t hq,ih]|false=>cases hp:p t with|true=>simp[hq,hp];omega|false=>simp[hq,hp,ih]
theorem Hf{p q:aU->Bool}{s:aU}(h:∀t,q t=true->p t=true)(hp:p s=true)(hq:q s=false):∀{l:List aU},s∈l->(l.filter q).length<(l.filter p).length
 |[],hs=>by cases hs|t::l,hs=>by
   have le:=Gb h l;rcases mem_cons.mp hs with rfl|hs;.simp[hp,hq];omega
   .have ih:=Hf h hp hq hs;cases hq2:q t with|true=>simp[hq2,h t hq2,ih]|false=>cases hp2:p t with|true=>simp[hq2,hp2];omega|false=>simp[hq2,hp2,ih]
theorem xn{fs:List Int}{c:List aU}{t:aU}(hc:∀s∈c,∃v,ws[s.1]?=some v/\jG ws fs (frm v s.2) s=true)(e:ws[t.1]?=some v)(h:jG ws (aug x fs c) (frm v t.2) t=true):jG ws fs (frm v t.2) t=true\/∃s∈c,s.1=t.1/\t.2≠s.2:=by
 by_cases z:t.1∈c.map (·.1)
 . obtain⟨s,hs,es⟩:=mem_map.mp z;by_cases q:t.2=s.2;.have:t=s:=Prod.ext_iff.mpr ⟨es.symm,q⟩;subst this;obtain⟨v',e',o⟩:=hc t hs;rw[e]at e';cases e';exact .inl o
   .exact .inr ⟨s,hs,es,q⟩
 .refine .inl ?_;unfold jG at h ⊢;rwa[j7 z]at h
theorem Ih{fs:List Int}{c:List aU}(hn:(c.map (·.1)).Nodup)(hs:s∈c)(e:ws[s.1]?=some v)(e2:fs[s.1]?=some g):jG ws (aug (tL v g s.2) fs c) p s=false:=by
 rw[qN e (uV hn hs e2)];have:tL v (g+sg (tL v g s.2) s.2) s.2=0:=by cases s.2<;>simp[tL,sg]<;>omega
 rw[this];simp
theorem Oi.aug{m:Int}{ws:List Wy}{fs:List Int}{F:Int->Nat}{d:Nat}(h:Oi m ws fs F d){c:List aU}{s:aU}{v:Wy}{g:Int}(hp:Nh ws (m-1) c 0)(ho:∀s∈c,∃v,ws[s.1]?=some v/\jG ws fs (frm v s.2) s=true)(hn:(c.map (·.1)).Nodup)(hl:c.length=d)(hs:s∈c)(e:ws[s.1]?=some v)(e2:fs[s.1]?=some g):Oi m ws (aug (tL v g s.2) fs c) F d/\CG ws (aug (tL v g s.2) fs c) F<CG ws fs F:=by
 have Px:=ue h hp ho (by rw[h.e,h.z];omega);have back:∀(t u:aU)(x:Wy),u∈c->u.1=t.1->t.2≠u.2->ws[t.1]?=some x->F (too x t.2)+1=F (frm x t.2):=fun t u x hu eu ne ex=>by have:=Px u hu x (by rw[eu];exact ex);rw[(uT ne).1,(uT ne).2];omega
 refine⟨⟨h.z,h.e,fun t x ex o=>?_⟩,?_⟩
 . rcases xn ho ex o with o|⟨u,hu,eu,ne⟩;.exact h.st t x ex o
   .have:=back t u x hu eu ne ex;omega
 . obtain⟨v',e',o⟩:=ho s hs;rw[e]at e';cases e';refine Hf (s:=s) (fun t ht=>?_) (by rw[HF e,o,Px s hs v e];simp) (by rw[HF e,Ih hn hs e e2];rfl) (wu (cV e).1);unfold tgt at ht ⊢;split at ht
   . rename_i x ex;simp only[and_eq_true,decide_eq_true_eq]at ht ⊢;refine⟨?_,ht.2⟩;rcases xn ho ex ht.1 with o|⟨u,hu,eu,ne⟩;.exact o
     .have:=back t u x hu eu ne ex;omega
   .cases ht
def cD(x:List aU×Int):D:=.tup [.tup (x.1.map sD),.int x.2]
def O4(fs:List Int)(x:List aU×Int):List Int:=aug x.2 fs x.1
def flow(N:Nat)(cs:List (List aU×Int)):List Int:=cs.foldl O4 (replicate N 0)
theorem wN{cs:List (List aU×Int)}{x:List aU×Int}:flow N (cs++[x])=aug x.2 (flow N cs) x.1:=by unfold flow;rw[List.foldl_append];rfl
theorem gM{cs:List (List aU×Int)}:(flow N cs).length=N:=by
 have:∀(cs:List (List aU×Int))(fs:List Int),(cs.foldl O4 fs).length=fs.length:=fun cs=>by induction cs with|nil=>intro fs;rfl|cons x cs ih=>intro fs;rw[List.foldl_cons,ih];exact pO
 unfold flow;rw[this];simp
def unS:D->aU|.tup [.int j,.bl f]=>(j.toNat,f)|_=>(0,true)
@[simp]theorem QS{s:aU}:unS (sD s)=s:=rfl
def Oq(ws:List Wy)(fs:List Int)(s:aU):Int:=match ws[s.1]?,fs[s.1]?with|some v,some g=>tL v g s.2|_,_=>0
def rmD(ws:List Wy)(fs:List Int)(d:D):D:=.int (Oq ws fs (unS d))
@[simp]theorem W0{es:List En}{p:Int}:xu false (.int p) (lO es)=some (.val (.bl (vQ (es.map en) p))):=by show some (R.val (.bl ((es.map (·.1)).contains p)))=some (R.val (.bl ((Ld (es.map en)).contains p)));rw[Gv]
theorem Ji{fs:List Int}{es':List En}(h:qJ m ws fs es)(h':O8 m ws fs es'):∀(l:Nat)(p:Int)(o:Option aU),(p,l,o)∈es'->∃l o,(p,l,o)∈es:=by intro l;induction l with
 |zero=>
   intro p o z;rcases h'.stp p 0 o z with⟨_,rfl,_⟩|⟨_,_,_,_,_,z,_⟩;.exact⟨_,_,h.cm.z⟩
   .cases z|succ l ih=>
   intro p o z;rcases h'.stp p (l+1) o z with⟨_,_,z⟩|⟨s,v,l',o',_,e,e1,rfl,ho,z⟩;.cases z
   .cases e;obtain⟨l2,o2,z2⟩:=ih _ _ z;obtain⟨l3,o3,z3,_⟩:=h.cl _ _ _ s z2 ho v e1;exact⟨l3,o3,z3⟩
inductive FcE(a0 a1 a2 a3 a4 a5 a6:Sl)(ρ:List Sl):Prop where|mk(s:Sl)(q0:ρ=[a0,a1,a2,a3,a4,a5,a6,s])(q1:fr s=true)
inductive JE(I:List Int->Prop)(m:Int)(ws:List Wy)(M:Nat)(ρ:List Sl):Prop where|mk(cs:List (List aU×Int))(fs:List Int)(es:List En)(F:Int->Nat)(d:Nat)(s5 s6:Sl)(q0:ρ=[.val false (aC m ws),.val false (.int (m-1)),.own false (fs.map D.int),.own false (cs.map cD),.val false (lO es),s5,s6])(q1:(fr s5=true/\fr s6=true))(q2:fs=flow ws.length cs)(q3:I fs)(q4:qJ m ws fs es)(q5:Oi m ws fs F d)(q6:(6-d)*25+CG ws fs F<=M)(q7:cs.length+M<=500)(q8:(∀x∈cs,∀s∈x.1,s.1<ws.length))
theorem Fo(I:List Int->Prop)(hw:1000<=w)(h:HN m ws)(I0:I (replicate ws.length 0))(I1:∀(fs:List Int)(c:List aU)(x:Int),I fs->fs.length=ws.length->Nh ws (m-1) c 0->(c.map (·.1)).Nodup->0<x->(∀s∈c,∃v g,ws[s.1]?=some v/\fs[s.1]?=some g/\x<=tL v g s.2)->I (aug x fs c))(k:∀cs,cs.length<=500->(∀x∈cs,∀s∈x.1,s.1<ws.length)->I (flow ws.length cs)->(∀es,qJ m ws (flow ws.length cs) es->¬ ∃l o,(m-1,l,o)∈es)->Q (.own (cs.map cD)) [.val false (aC m ws)]):(run Γ w (n+4) 7 [.val false (aC m ws)]).sat Q:=by
 have hn:=h.len;have m0:=h.m0;have m1:=h.m1;refine aH (d:=f7) rfl rfl (by decide) ?_;symm;simp[f7];refine cP (fun ρ=>ρ=[.val false (aC m ws),.val false (.int (m-1)),.own false ((flow ws.length []).map D.int),.aV,.aV,.aV,.aV]) ?_ ?_;.simp[flow];show _<=16777216;omega
 rintro _ rfl;symm;simp;apply aj;simp;refine qe (by omega) (.inr ⟨true,rfl⟩) h gM fun es hes=>?_;simp;apply aj;simp;have hc0:=Bu (fs:=flow ws.length []) (F:=fun _=>0) hn;refine fu (JE I m ws) ?_ (k:=w) (m:=200) (by omega) ⟨[],flow ws.length [],es,fun _=>0,0,.aV,.aV,rfl,⟨rfl,rfl⟩,rfl,I0,hes,⟨rfl,rfl,fun _ _ _ _=>Bm⟩,by omega,by simp,by simp⟩;rintro M _⟨cs,fs,es,F,d,s5,s6,rfl,⟨h5,h6⟩,hfs,hI,hes,hP,hM,hcs,hin⟩;have hfl:fs.length=ws.length:=by rw[hfs];exact gM
 by_cases hq:∃l o,(m-1,l,o)∈es
 . obtain⟨l,o,hlo⟩:=hq;have kt:vQ (es.map en) (m-1)=true:=zK.mpr ⟨l,o,hlo⟩;simp[kt];apply aj;simp;refine CV (by omega) hes.cm m1 hlo fun c hc=>?_;simp[h5];apply aj;have hcl:c.length<=6:=by have:=hc.len;have:=hes.cm.lv _ _ _ hlo;have:=hes.cm.len m1;omega
   have N6:∀s∈c,∃v g,ws[s.1]?=some v/\fs[s.1]?=some g/\0<tL v g s.2:=fun s hs=>by obtain⟨v,e,o⟩:=hc.lC s hs;obtain⟨v',g,e1,e2,_,e4⟩:=yF o;exact⟨v',g,e1,e2,e4⟩
   simp[show c.length<=16777216 by omega];refine bH (FcE _ _ _ _ _ _ _) (rmD ws fs) ⟨.aV,rfl,rfl⟩ ?_ ?_;.rintro d hd _⟨s',rfl,hs'⟩;obtain⟨s,hs,rfl⟩:=mem_map.mp hd;obtain⟨v,g,e1,e2,_⟩:=N6 s hs;simp[hs',sD];refine sY (.inr ⟨true,rfl⟩) e1 e2 ?_;simp;refine⟨?_,_,rfl,rfl⟩;show D.int (Oq ws fs (unS (sD s)))=_;rw[QS];unfold Oq;rw[e1,e2]
   rintro _⟨s',rfl,hs'⟩;have hmap:(c.map sD).map (rmD ws fs)=(c.map (Oq ws fs)).map D.int:=by rw[map_map,map_map];rfl
   rw[hmap];have aeU:c≠[]:=by rintro rfl;have:(0:Int)=m-1:=hc.YS;omega
   obtain⟨x,hx1,hx2,VG⟩:=vm (ns:=c.map (Oq ws fs)) (by simpa using aeU);obtain⟨s,hs,hsx⟩:=mem_map.mp hx2;obtain⟨v,g,e1,e2,e3⟩:=N6 s hs;have hxr:tL v g s.2=x:=by rw[<-hsx];unfold Oq;rw[e1,e2]
   have hx0:0<x:=by omega
   have hle:∀s∈c,∃v g,ws[s.1]?=some v/\fs[s.1]?=some g/\x<=tL v g s.2:=fun u hu=>by obtain⟨v,g,e1,e2,_⟩:=N6 u hu;refine⟨v,g,e1,e2,?_⟩;have:=VG _ (mem_map.mpr ⟨u,hu,rfl⟩);unfold Oq at this;rw[e1,e2]at this;exact this
   have hlt:∀s∈c,s.1<ws.length:=fun u hu=>by obtain⟨v,g,e1,_⟩:=N6 u hu;exact(cV e1).1
   generalize c.map (Oq ws fs)=ns at*;simp[fK,hx1,h6];apply aj;simp[show cs.length<16777216 by omega];apply aj;simp;refine v5 (.inr ⟨true,rfl⟩) (fun u hu=>by rw[hfl];exact hlt u hu) ?_;simp;apply aj;have YT:aug x fs c=flow ws.length (cs++[(c,x)]):=by rw[wN,<-hfs]
   simp;refine qe (by omega) (.inr ⟨true,rfl⟩) h (by rw[YT];exact gM) fun es' TQ=>?_;simp;have hlen:c.length=l:=by have:=hc.len;omega
   have hdl:d<=l:=by have:=yO hP hc.YS hc.lC;rw[hP.e,hP.z]at this;omega
   have hl6:l<6:=by have:=hes.cm.lv _ _ _ hlo;have:=hes.cm.len m1;omega
   obtain⟨F',hP',hM'⟩:∃F',Oi m ws fs F' l/\(6-l)*25+CG ws fs F'<=M:=by
    by_cases c:d=l;.subst c;exact⟨F,hP,hM⟩
    .have:=Bu (fs:=fs) (F:=Np es) hn;exact⟨Np es,hes.pot m1 hlo,by omega⟩
   have hA:=hP'.aug hc.YS hc.lC hc.nd hlen hs e1 e2;rw[hxr]at hA;refine⟨M-1,by omega,cs++[(c,x)],aug x fs c,es',F',l,.val false (.tup (c.map sD)),.val false (.int x),by simp[cD],⟨rfl,rfl⟩,YT,I1 fs c x hI hfl hc.YS hc.nd hx0 hle,TQ,hA.1,by omega,by simp;omega,fun y hy=>?_⟩;rcases mem_append.mp hy with hy|hy;.exact hin y hy
   . obtain rfl:y=(c,x):=by simpa using hy
     exact hlt
 .have kt:vQ (es.map en) (m-1)=false:=kin_no hq;simp[kt];apply aj;simp;exact k cs (by omega) hin (by rw[<-hfs];exact hI) fun es' TQ⟨l,o,z⟩=>hq (Ji hes (by rw[hfs];exact TQ.cm) l (m-1) o z)
inductive JF(m:Int)(ws zs:List Wy)(cs:List (List aU×Int))(r:List D)(ρ:List Sl):Prop where|mk(fO us:List (List aU×Int))(s3 s4:Sl)(q0:ρ=[.val false (aC m ws),.val false (aC m zs),.own false ((flow ws.length fO).map D.int),s3,s4,.aV])(q1:fr s3=true)(q2:fr s4=true)(q3:r=us.map cD)(q4:fO++us=cs)
theorem GZ(ks:List Int):∃S:List Int,zH (ks.map D.int)=S.map D.int/\S.Perm ks:=by
 have hp:=rF (ks.map D.int);have e:zH (ks.map D.int)=((zH (ks.map D.int)).map iK).map D.int:=by rw[map_map];refine(List.map_id'' (fun _=>rfl) _).symm.trans (map_congr_left fun d hd=>?_);obtain⟨i,_,rfl⟩:=mem_map.mp (hp.mem_iff.mp hd);rfl
 refine⟨_,e,?_⟩;have:=hp.map iK;rwa[map_map,show iK ∘ D.int=id from rfl,map_id]at this
theorem oH(I:List Int->Prop)(hw:1000<=w)(h:aW m ws)(I0:I (replicate ws.length 0))(I1:∀(fs:List Int)(c:List aU)(x:Int),I fs->fs.length=ws.length->Nh (ws.map Wy.z) (m-1) c 0->(c.map (·.1)).Nodup->0<x->(∀s∈c,∃v g,(ws.map Wy.z)[s.1]?=some v/\fs[s.1]?=some g/\x<=tL v g s.2)->I (aug x fs c))(k:∀fs es S,fs.length=ws.length->I fs->qJ m (ws.map Wy.z) fs es->(¬ ∃l o,(m-1,l,o)∈es)->zH ((es.map (·.1)).map D.int)=S.map D.int->S.Perm (es.map (·.1))->Q (.val (lR (dot (fun x=>if x=0 then 1 else 0) ws fs) fs S)) [.val false (aC m ws)]):(run Γ w (n+5) 33 [.val false (aC m ws)]).sat Q:=by
 have hn:=h.len;have m0:=h.m0;have m1:=h.m1;have hz:=HN.of h;have VH:(ws.map Wy.z).length=ws.length:=length_map _;refine aH (d:=f33) rfl rfl (by decide) ?_;symm;simp[f33];refine uM h ?_;generalize ws.map Wy.z=zs at*;simp;refine cP (fun ρ=>ρ=[.val false (aC m ws),.val false (aC m zs),.own false ((flow ws.length []).map D.int),.aV,.aV,.aV]) ?_ ?_;.simp[flow];show _<=16777216;omega
 rintro _ rfl;symm;simp;refine Fo I hw hz (by rw[VH];exact I0) (fun fs c x q1 q2=>I1 fs c x q1 (by rw[q2,VH])) fun cs hcs hin hI hend=>?_;rw[VH]at hin hI hend;simp;refine cu (JF m ws zs cs) ?_ ?_ ⟨[],cs,.aV,.aV,rfl,rfl,rfl,rfl,rfl⟩;.rintro d r _⟨fO,us,s3,s4,rfl,h3,h4,hr,hd⟩;cases us with|nil=>cases hr|cons u us=>
     obtain⟨rfl,rfl⟩:d=cD u/\r=us.map cD:=by simpa using hr
     have hd2:(fO++[u])++us=cs:=by rw[append_assoc];exact hd
     simp[cD,h3,h4];apply aj;simp;refine v5 (.inr ⟨true,rfl⟩) (fun s hs=>by rw[gM];exact hin u (by rw[<-hd];simp) s hs) ?_;simp;exact⟨fO++[u],us,_,_,by rw[wN],rfl,rfl,rfl,hd2⟩
 . rintro _⟨fO,us,s3,s4,rfl,h3,h4,hr,hd⟩;have:us=[]:=by cases us with|nil=>rfl|cons _ _=>cases hr
   subst this;rw[append_nil]at hd;subst hd;simp;apply aj;simp;refine qe (by omega) (.inr ⟨true,rfl⟩) hz (by rw[gM,VH]) fun es hes=>?_;obtain⟨S,hS1,hS2⟩:=GZ (es.map (·.1));have hso:blt .oE [lO es]=some (.own (S.map D.int)):=by show(if(es.map (·.1)).length<64 then some (R.own (zH ((es.map (·.1)).map D.int)))else none)=_;have hl:=hes.cm.len m1;rw[hS1,if_pos (by rw[length_map];omega)]
   simp[hso];apply aj;simp;refine iJ (.inr ⟨true,rfl⟩) h gM ?_;simp;exact k _ es S gM hI hes (hend es hes) hS1 hS2
theorem my{rs:List Int}{k:Int}(hp:ps.getLast?=some p)(h:dJ ws ps k=some rs):0<=k/\k<(ws.length:Int)/\∃v,ws[k.toNat]?=some v/\0<v.r/\v.s=p/\v.t∉ps/\rs=ps++[v.t]:=by
 have hne:ps≠[]:=by rintro rfl;cases hp
 obtain⟨k0,k1,_⟩:=BW h;refine⟨k0,k1,?_⟩;obtain⟨v,e1,e2,e3,e4,_⟩:=Aw hne h;refine⟨v,e1,?_,?_,e3,e2⟩
 . unfold dJ at h;rw[if_pos ⟨k0,k1⟩,e1]at h;dsimp only at h;split at h;.cases h
   .omega
 .rw[hp]at e4;cases e4;rfl
theorem zu{ws:List Wy}:∀{l ps qs:List Int}{p:Int},ps.getLast?=some p->kj ws l ps=some qs->∃ks:List Nat,l=aO ks/\ks.Nodup/\(∃q,qs.getLast?=some q/\path ws p ks q)/\∀k∈ks,∃v,ws[k]?=some v/\0<v.r/\v.t∉ps|[],ps,qs,p,hp,h=>by rw[kj]at h;cases h;exact⟨[],rfl,by simp,⟨p,hp,rfl⟩,by simp⟩|k::l,ps,qs,p,hp,h=>by rw[kj]at h;cases e:dJ ws ps k with|none=>rw[e]at h;cases h|some rs=>
     rw[e]at h;obtain⟨k0,k1,v,e1,e2,e3,e4,rfl⟩:=my hp e;obtain⟨ks,h1,h2,⟨q,h3,h4⟩,h5⟩:=zu (p:=v.t) (by simp) h;refine⟨k.toNat::ks,?_,?_,⟨q,h3,v,e1,e3,h4⟩,fun j hj=>?_⟩;.rw[h1];show k::aO ks=((k.toNat:Nat):Int)::aO ks;rw[show((k.toNat:Nat):Int)=k by omega]
     .rw[nodup_cons];refine⟨fun hm=>?_,h2⟩;obtain⟨u,u1,_,u3⟩:=h5 _ hm;rw[e1]at u1;cases u1;exact u3 (by simp)
     . rcases mem_cons.mp hj with rfl|hj;.exact⟨v,e1,e2,e4⟩
       .obtain⟨u,u1,u2,u3⟩:=h5 j hj;exact⟨u,u1,u2,fun z=>u3 (by simp[z])⟩
theorem wB{m:Int}{us ws:List Wy}(hk:aW m ws)(hl:us.length=ws.length)(hh:∀(k:Nat)(u:Wy),us[k]?=some u->∃v,ws[k]?=some v/\v.s=u.s/\v.t=u.t/\u.r<=v.r):∀{l ps qs:List Int}{p:Int},ps.getLast?=some p->kj us l ps=some qs->kj ws l ps=some qs|[],ps,qs,p,hp,h=>h|k::l,ps,qs,p,hp,h=>by rw[kj]at h ⊢;cases e:dJ us ps k with|none=>rw[e]at h;cases h|some rs=>rw[e]at h;obtain⟨k0,k1,u,e1,e2,e3,e4,rfl⟩:=my hp e;obtain⟨v,f1,f2,f3,f4⟩:=hh _ _ e1;rw[Bx hk (by rintro rfl;cases hp) k0 (by omega) f1 (by omega) (by rw[hp,f2,e3]) (by rw[f3];exact e4),f3];exact wB hk hl hh (p:=u.t) (by simp) h
def pM(ks:List Nat):List aU:=ks.map fun k=>(k,false)
theorem rG:(pM ks).map (·.1)=ks:=by unfold pM;rw[map_map];exact map_id _
theorem Hh{c:Int->Int}{x:Int}{ws:List Wy}:∀{ks:List Nat}{ls:List Int}{p q:Int},ls.length=ws.length->path ws p ks q->dot c ws (aug x ls (pM ks))=dot c ws ls-x*(c p-c q)
 |[],ls,p,q,_,h=>by have:p=q:=h;subst this;show dot c ws ls=_;simp|k::ks,ls,p,q,hl,⟨v,h1,h2,h3⟩=>by
   have hk:=(cV h1).1;have e:ls[k]?=some ls[k]:=by simp[hl,hk]
   show dot c ws (aug x (jn x ls (k,false)) (pM ks))=_;rw[Hh (by simp[hl]) h3];have:jn x ls (k,false)=ls.set k (ls[k]+-x):=by unfold jn;rw[e];rfl
   rw[this,pP h1 e,h2];have:-x*(c p-c v.t)=-(x*(c p-c v.t)):=Int.neg_mul _ _;have h4:x*(c p-c q)=x*(c p-c v.t)+x*(c v.t-c q):=by rw[<-mul_add];congr 1;omega
   omega
def pos(ls:List Int):Nat:=(ls.filter fun l=>decide (0<l)).length
theorem Gk:∀{ls us:List Int},us.length=ls.length->(∀(i:Nat)(l u:Int),ls[i]?=some l->us[i]?=some u->0<u->0<l)->pos us<=pos ls
 |[],[],_,_=>cR|[],_::_,h,_=>by simp at h|_::_,[],h,_=>by simp at h|l::ls,u::us,h,hh=>by
   have ih:=Gk (ls:=ls) (us:=us) (by simpa using h) fun i a b e1 e2=>hh (i+1) a b (by simpa using e1) (by simpa using e2);have h0:=hh 0 l u rfl rfl;unfold pos at ih ⊢;by_cases c:0<u;.simp[c,h0 c];exact ih
   . by_cases d:0<l;.simp[c,d];omega
     .simp[c,d];exact ih
theorem Jw:∀{ls us:List Int}{j:Nat}{a b:Int},us.length=ls.length->(∀(i:Nat)(l u:Int),ls[i]?=some l->us[i]?=some u->0<u->0<l)->ls[j]?=some a->us[j]?=some b->0<a->¬ 0<b->pos us<pos ls
 |[],[],_,_,_,_,_,e,_,_,_=>by simp at e|[],_::_,_,_,_,h,_,_,_,_,_=>by simp at h|_::_,[],_,_,_,h,_,_,_,_,_=>by simp at h|l::ls,u::us,0,a,b,h,hh,e1,e2,h1,h2=>by simp at e1 e2;subst e1 e2;have ih:=Gk (ls:=ls) (us:=us) (by simpa using h) fun i a b e1 e2=>hh (i+1) a b (by simpa using e1) (by simpa using e2);unfold pos at ih ⊢;simp[h1,h2];omega|l::ls,u::us,j+1,a,b,h,hh,e1,e2,h1,h2=>by
   have ih:=Jw (ls:=ls) (us:=us) (j:=j) (by simpa using h) (fun i a b e1 e2=>hh (i+1) a b (by simpa using e1) (by simpa using e2)) (by simpa using e1) (by simpa using e2) h1 h2;have h0:=hh 0 l u rfl rfl;unfold pos at ih ⊢;by_cases c:0<u;.simp[c,h0 c];exact ih
   . by_cases d:0<l;.simp[c,d];omega
     .simp[c,d];exact ih
theorem MN(e:ls[j]?=some a)(h:0<a):0<pos ls:=by unfold pos;exact List.length_pos_of_mem (mem_filter.mpr ⟨mem_of_getElem? e,by simpa using h⟩)
abbrev Ey:=List Nat×Int
variable{cs:List Ey}
def vU(c:Ey):D:=.tup [.tup ((aO c.1).map D.int),.int c.2]
def zq(cs:List Ey)(k:Nat):Int:=(cs.map fun c=>if k∈c.1 then c.2 else 0).sum
def Gu(m:Int)(ws:List Wy)(ks:List Nat):Prop:=∃ps,kj ws (aO ks) [0]=some ps/\ps.getLast?=some (m-1)
structure RI(m:Int)(ws:List Wy)(fs:List Int)(R0:Int)(ls:List Int)(r:Int)(cs:List Ey):Prop where
 len:ls.length=ws.length
 nn:∀(k:Nat)(v:Wy)(l:Int),ws[k]?=some v->ls[k]?=some l->0<=l/\l<=v.r
 go:Goes m ws ls r
 VJ:∀c∈cs,1<=c.2/\c.1.length<=12/\Gu m ws c.1
 mka:∀(k:Nat)(f l:Int),fs[k]?=some f->ls[k]?=some l->zq cs k+l=f
 sum:(cs.map (·.2)).sum+r=R0
 cnt:0<r->cs.length+pos ls<=ws.length
 YW:cs.length<=ws.length
theorem Dd(h:aW m ws)(hn:ks.Nodup)(hk:∀k∈ks,∃v,ws[k]?=some v/\0<v.r/\v.t∉[(0:Int)]):ks.length<=12:=by
 have:=mj (l2:=List.range ws.length) hn fun k z=>by obtain⟨v,e,_⟩:=hk k z;exact mem_range.mpr (cV e).1
 rw[length_range]at this;have:=h.len;omega
theorem RI.turn{fs:List Int}(h:RI m ws fs R0 ls r cs)(hk:aW m ws)(hr:0<r)(hg:kj (oX ws ls) (aO ks) [0]=some ps)(hl:ps.getLast?=some (m-1))(hn:ks.Nodup)(hp:path ws 0 ks (m-1))(hkl:∀k∈ks,∃l,ls[k]?=some l/\0<l)(hx1:x=r\/∃k∈ks,ls[k]?=some x)(hx2:x<=r)(VG:∀k∈ks,∀l,ls[k]?=some l->x<=l)(hks:ks.length<=12)(hne:ks≠[]):RI m ws fs R0 (aug x ls (pM ks)) (r-x) (cs++[(ks,x)])/\1<=x/\(0<r-x->pos (aug x ls (pM ks))<pos ls):=by
 have hbn:((pM ks).map (·.1)).Nodup:=by rw[rG];exact hn
 have x1:1<=x:=by
  rcases hx1 with rfl|⟨k,hkk,e⟩;.omega
  .obtain⟨l,e2,l0⟩:=hkl k hkk;rw[e]at e2;cases e2;omega
 have inn:∀(k:Nat)(l:Int),k∈ks->ls[k]?=some l->(aug x ls (pM ks))[k]?=some (l-x):=fun k l z e=>by have:=uV (x:=x) (s:=(k,false)) hbn (mem_map.mpr ⟨k,z,rfl⟩) e;rw[this];rfl
 have out:∀(k:Nat),k∉ks->(aug x ls (pM ks))[k]?=ls[k]?:=fun k z=>j7 (by rw[rG];exact z);have TV:(aug x ls (pM ks)).length=ls.length:=pO;have back:∀(k:Nat)(u:Int),(aug x ls (pM ks))[k]?=some u->∃l,ls[k]?=some l/\u=if k∈ks then l-x else l:=fun k u e=>by
  have hlt:=(cV e).1;rw[TV]at hlt;have e2:ls[k]?=some ls[k]:=by simp[hlt]
  by_cases z:k∈ks;.rw[inn k _ z e2]at e;cases e;exact⟨_,e2,by rw[if_pos z]⟩
  .rw[out k z,e2]at e;cases e;exact⟨_,e2,by rw[if_neg z]⟩
 have pp:∀(i:Nat)(l u:Int),ls[i]?=some l->(aug x ls (pM ks))[i]?=some u->0<u->0<l:=fun i l u e1 e2 u0=>by obtain⟨l',e3,rfl⟩:=back i u e2;rw[e1]at e3;cases e3;split at u0<;>omega
 have YX:0<r-x->pos (aug x ls (pM ks))<pos ls:=fun z=>by
  rcases hx1 with rfl|⟨k,hkk,e⟩;.omega
  .exact Jw TV pp e (inn k x hkk e) (by omega) (by omega)
 refine⟨⟨by rw[TV];exact h.len,fun k v u e1 e2=>?_,⟨by omega,fun c=>?_⟩,fun c hc=>?_,fun k f u e1 e2=>?_,?_,fun z=>?_,?_⟩,x1,YX⟩
 . obtain⟨l,e3,rfl⟩:=back k u e2;have:=h.nn k v l e1 e3;split;.rename_i z;have:=VG k z l e3;omega
   .exact this
 .rw[Hh h.len hp,h.go.2 c];rw[Int.sub_mul]
 . rcases mem_append.mp hc with hc|hc;.exact h.VJ c hc
   . obtain rfl:c=(ks,x):=by simpa using hc
     refine⟨x1,hks,ps,?_,hl⟩;refine wB hk (vf h.len) (fun k u e=>?_) (p:=0) rfl hg;obtain⟨v,l,e1,e2,rfl⟩:=pU e;exact⟨v,e1,rfl,rfl,(h.nn k v l e1 e2).2⟩
 . obtain⟨l,e3,rfl⟩:=back k u e2;have:=h.mka k f l e1 e3;unfold zq at this ⊢;rw[map_append,sum_append];by_cases z:k∈ks;.simp[z];omega
   .simp[z];omega
 .have:=h.sum;rw[map_append,sum_append];simp;omega
 .have:=YX z;have:=h.cnt hr;simp only[length_append,length_cons,length_nil];omega
 . have:=h.cnt hr;obtain⟨k,ks',e⟩:∃k ks',ks=k::ks':=by cases ks with|nil=>exact absurd rfl hne|cons k ks'=>exact⟨k,ks',rfl⟩
   obtain⟨l,e2,l0⟩:=hkl k (by rw[e];simp);have:=MN e2 l0;simp only[length_append,length_cons,length_nil];omega
def K3(m:Int)(S:List Int):Prop:=0∈S/\m-1∉S
def Oj(S:List Int)(x:Int):Int:=if x∈S then 1 else 0
theorem BL{S:List Int}:∀{ws:List Wy}{fs:List Int},(∀(k:Nat)(v:Wy)(l:Int),ws[k]?=some v->fs[k]?=some l->0<=l/\l<=v.r)->fs.length=ws.length->dot (Oj S) ws fs<=bM S ws|[],_,_,_=>Int.le_refl _|_::_,[],_,h=>by simp at h|w::ws,f::fs,h,hl=>by have h1:=h 0 w f rfl rfl;have h2:=BL (S:=S) (ws:=ws) (fs:=fs) (fun k v x e1 e2=>h (k+1) v x (by simpa using e1) (by simpa using e2)) (by simpa using hl);simp only[dot,bM,Oj];by_cases a:w.s∈S<;>by_cases b:w.t∈S<;>simp[a,b]<;>omega
theorem wY{S:List Int}:∀{ws:List Wy}{fs:List Int},(∀(k:Nat)(v:Wy)(l:Int),ws[k]?=some v->fs[k]?=some l->(v.s∈S->v.t∉S->l=v.r)/\(v.s∉S->v.t∈S->l=0))->fs.length=ws.length->dot (Oj S) ws fs=bM S ws
 |[],_,_,_=>rfl|_::_,[],_,h=>by simp at h|w::ws,f::fs,h,hl=>by
   have h1:=h 0 w f rfl rfl;have h2:=wY (S:=S) (ws:=ws) (fs:=fs) (fun k v x e1 e2=>h (k+1) v x (by simpa using e1) (by simpa using e2)) (by simpa using hl);simp only[dot,bM,Oj]at h2 ⊢;rw[h2];by_cases a:w.s∈S<;>by_cases b:w.t∈S;.simp[a,b]
   .have:=h1.1 a b;simp[a,b];omega
   .have:=h1.2 a b;simp[a,b];omega
   .simp[a,b]
structure Lst(m:Int)(ws:List Wy)(q:Int):Prop where
 ex:∃S,K3 m S/\bM S ws=q
 le:∀S,K3 m S->q<=bM S ws
theorem Lst.uniq{q:Int}(h:Lst m ws p)(g:Lst m ws q):p=q:=by obtain⟨S,h1,h2⟩:=h.ex;obtain⟨T,g1,g2⟩:=g.ex;have:=h.le T g1;have:=g.le S h1;omega
theorem Ci{fs S:List Int}(hb:∀(k:Nat)(v:Wy)(l:Int),ws[k]?=some v->fs[k]?=some l->0<=l/\l<=v.r)(hl:fs.length=ws.length)(hg:Goes m ws fs r)(hS:K3 m S):r<=bM S ws:=by have h1:=hg.2 (Oj S);have h2:=BL (S:=S) hb hl;unfold Oj at h1 h2;rw[if_pos hS.1,if_neg hS.2]at h1;omega
theorem xJ{fs S:List Int}(hb:∀(k:Nat)(v:Wy)(l:Int),ws[k]?=some v->fs[k]?=some l->0<=l/\l<=v.r)(hl:fs.length=ws.length)(hg:Goes m ws fs r)(hc:qJ m (ws.map Wy.z) fs es)(hne:¬ ∃l o,(m-1,l,o)∈es)(hp:S.Perm (es.map (·.1))):K3 m S/\bM S ws=r:=by
 have mem:∀p,p∈S↔∃l o,(p,l,o)∈es:=fun p=>by
  rw[hp.mem_iff,mem_map];constructor;.rintro⟨⟨q,l,o⟩,h,rfl⟩;exact⟨l,o,h⟩
  .rintro⟨l,o,h⟩;exact⟨_,h,rfl⟩
 have hS:K3 m S:=⟨(mem 0).mpr ⟨_,_,hc.cm.z⟩,fun z=>hne ((mem _).mp z)⟩;refine⟨hS,?_⟩;have h1:=hg.2 (Oj S);rw[wY (S:=S) (fun k v l e1 e2=>?_) hl]at h1;.unfold Oj at h1;rw[if_pos hS.1,if_neg hS.2]at h1;omega
 have e3:(ws.map Wy.z)[k]?=some v.z:=by rw[getElem?_map,e1];rfl
 have hb1:=hb k v l e1 e2;have step:∀f:Bool,frm v.z f∈S->too v.z f∉S->¬ 0<tL v.z l f:=fun f h1 h2 h3=>by obtain⟨a,o,h⟩:=(mem _).mp h1;obtain⟨b,o',h',_⟩:=hc.cl _ _ _ (k,f) h (by rw[qN e3 e2];simp[h3]) v.z e3;exact h2 ((mem _).mpr ⟨b,o',h'⟩)
 refine⟨fun h1 h2=>?_,fun h1 h2=>?_⟩;.have:¬ 0<v.r-l:=step true h1 h2;omega
 .have:¬ 0<l:=step false h2 h1;omega
theorem Gi{fs S:List Int}(hb:∀(k:Nat)(v:Wy)(l:Int),ws[k]?=some v->fs[k]?=some l->0<=l/\l<=v.r)(hl:fs.length=ws.length)(hg:Goes m ws fs r)(hc:qJ m (ws.map Wy.z) fs es)(hne:¬ ∃l o,(m-1,l,o)∈es)(hp:S.Perm (es.map (·.1))):Lst m ws r:=⟨⟨S,xJ hb hl hg hc hne hp⟩,fun _ hT=>Ci hb hl hg hT⟩
theorem tG{m:Int}{S T:List Int}:∀{ws:List Wy},(∀w∈ws,(0<=w.s/\w.s<m)/\(0<=w.t/\w.t<m))->(∀x,0<=x->x<m->(x∈S↔x∈T))->bM S ws=bM T ws|[],_,_=>rfl|w::ws,h,e=>by have hw:=h w (by simp);rw[bM,bM,tG (ws:=ws) (fun v hv=>h v (by simp[hv])) e];simp only[e w.s hw.1.1 hw.1.2,e w.t hw.2.1 hw.2.2]
def flip(m:Int)(S:List Int):List Int:=((List.range m.toNat).map fun(x:Nat)=>(x:Int)).filter fun x=>!decide (m-1-x∈S)
theorem mq{S:List Int}(h0:0<=x)(h1:x<m):x∈flip m S↔m-1-x∉S:=by
 unfold flip;rw[mem_filter,mem_map];constructor;.rintro⟨_,h⟩;simpa using h
 .intro h;exact⟨⟨x.toNat,mem_range.mpr (by omega),by omega⟩,by simpa using h⟩
theorem qL{m:Int}{S:List Int}:∀{ws:List Wy},(∀w∈ws,(0<=w.s/\w.s<m)/\(0<=w.t/\w.t<m))->bM (flip m S) (ws.map (Wy.turn m))=bM S ws
 |[],_=>rfl|w::ws,h=>by
   have hw:=h w (by simp);rw[map_cons,bM,bM,qL (ws:=ws) fun v hv=>h v (by simp[hv])];have e1:(Wy.turn m w).s∈flip m S↔w.t∉S:=by show m-1-w.t∈_↔_;rw[mq (by omega) (by omega),show m-1-(m-1-w.t)=w.t by omega]
   have e2:(Wy.turn m w).t∈flip m S↔w.s∉S:=by show m-1-w.s∈_↔_;rw[mq (by omega) (by omega),show m-1-(m-1-w.s)=w.s by omega]
   have:((Wy.turn m w).s∈flip m S/\(Wy.turn m w).t∉flip m S)↔(w.s∈S/\w.t∉S):=by
    rw[e1,e2];constructor;.rintro⟨a,b⟩;exact⟨Classical.byContradiction b,a⟩
    .rintro⟨a,b⟩;exact⟨b,fun z=>z a⟩
   simp only[this];rfl
theorem zx(h:aW m ws):∀w∈ws,(0<=w.s/\w.s<m)/\(0<=w.t/\w.t<m):=fun w hw=>by have:=h.ok w hw;exact⟨⟨this.s0,this.s1⟩,⟨this.t0,this.t1⟩⟩
theorem tW{S:List Int}(m0:2<=m)(h:K3 m S):K3 m (flip m S):=by refine⟨(mq (by omega) (by omega)).mpr (by simpa using h.2),fun z=>?_⟩;have:=(mq (by omega) (by omega)).mp z;rw[show m-1-(m-1)=0 by omega]at this;exact this h.1
theorem Lst.turn{m q:Int}{ws:List Wy}(hk:aW m ws)(h:Lst m ws q):Lst m (ws.map (Wy.turn m)) q:=by have m0:=hk.m0;obtain⟨S,h1,h2⟩:=h.ex;refine⟨⟨flip m S,tW m0 h1,by rw[qL (zx hk)];exact h2⟩,fun T hT=>?_⟩;have:=h.le (flip m T) (tW m0 hT);have e:=qL (m:=m) (S:=T) (ws:=ws.map (Wy.turn m)) (zx (p8 hk));rw[tK]at e;omega
theorem Lst.near{q:Int}{us:List Wy}(h:Lst m ws q)(g:Lst m us p)(h1:∀S,bM S us<=bM S ws+a)(h2:∀S,bM S ws<=bM S us+b):q-b<=p/\p<=q+a:=by obtain⟨S,s1,s2⟩:=h.ex;obtain⟨T,t1,t2⟩:=g.ex;have:=h.le T t1;have:=g.le S s1;have:=h1 S;have:=h2 T;omega
theorem fj{S:List Int}:∀{us ws:List Wy},bM S (us++ws)=bM S us+bM S ws|[],ws=>by simp[bM]|u::us,ws=>by simp only[List.cons_append,bM,fj (us:=us)];omega
theorem pH{S:List Int}{w:Wy}(h:0<=w.r):0<=bM S [w]/\bM S [w]<=w.r:=by simp only[bM];split<;>omega
def lX(b p:Int):Bool:=decide (PySem.Builtin.bitAnd (b/2^(p-1).toNat) 1=1)
def mids(m:Int):List Int:=(List.range (m-1-1).toNat).map fun(j:Nat)=>1+(j:Int)
def Kc(m b:Int):List Int:=0::(mids m).filter (lX b)
def fP(b:Int):D->Option D|.int p=>if lX b p=true then some (.int p)else none|_=>none
theorem Ho{b:Int}:∀{l:List Int},(l.map D.int).filterMap (fP b)=(l.filter (lX b)).map D.int|[]=>rfl|p::l=>by rw[map_cons,filterMap_cons,filter_cons,Ho (l:=l)];cases h:lX b p<;>simp[fP,h]
theorem Wm(m0:2<=m)(m1:m<=6):∃N:Nat,0<N/\N<=16/\(2:Int)^(m-2).toNat=N:=by
 have:m=2\/m=3\/m=4\/m=5\/m=6:=by omega
 rcases this with rfl|rfl|rfl|rfl|rfl;.exact⟨1,by decide,by decide,rfl⟩
 .exact⟨2,by decide,by decide,rfl⟩
 .exact⟨4,by decide,by decide,rfl⟩
 .exact⟨8,by decide,by decide,rfl⟩
 .exact⟨16,by decide,by decide,rfl⟩
theorem mL:x∈mids m↔1<=x/\x<m-1:=by
 unfold mids;rw[mem_map];constructor;.rintro⟨j,hj,rfl⟩;have:=mem_range.mp hj;omega
 .intro h;exact⟨(x-1).toNat,mem_range.mpr (by omega),by omega⟩
def nb(a b c d:Bool):Nat:=(if a then 1 else 0)+(if b then 2 else 0)+(if c then 4 else 0)+(if d then 8 else 0)
theorem acz:∀a b c d:Bool,lX (nb a b c d) 1=a/\lX (nb a b c d) 2=b/\lX (nb a b c d) 3=c/\lX (nb a b c d) 4=d:=by decide
theorem WN:∀a b c d:Bool,nb a b c d<16/\(d=false->nb a b c d<8)/\(c=false->d=false->nb a b c d<4)/\(b=false->c=false->d=false->nb a b c d<2)/\(a=false->b=false->c=false->d=false->nb a b c d<1):=by decide
theorem KZ(m0:2<=m)(m1:m<=6)(P:Int->Bool):∃b:Nat,(b:Int)<2^(m-2).toNat/\∀x∈mids m,lX b x=P x:=by
 obtain⟨q1,q2,q3,q4⟩:=acz (P 1&&decide (1<m-1)) (P 2&&decide (2<m-1)) (P 3&&decide (3<m-1)) (P 4&&decide (4<m-1));obtain⟨l1,l2,l3,l4,l5⟩:=WN (P 1&&decide (1<m-1)) (P 2&&decide (2<m-1)) (P 3&&decide (3<m-1)) (P 4&&decide (4<m-1));refine⟨nb (P 1&&decide (1<m-1)) (P 2&&decide (2<m-1)) (P 3&&decide (3<m-1)) (P 4&&decide (4<m-1)),?_,fun x hx=>?_⟩
 . generalize nb (P 1&&decide (1<m-1)) (P 2&&decide (2<m-1)) (P 3&&decide (3<m-1)) (P 4&&decide (4<m-1))=b at*;have:m=2\/m=3\/m=4\/m=5\/m=6:=by omega
   rcases this with rfl|rfl|rfl|rfl|rfl;.have:=l5 (by simp) (by simp) (by simp) (by simp);show(b:Int)<1;omega
   .have:=l4 (by simp) (by simp) (by simp);show(b:Int)<2;omega
   .have:=l3 (by simp) (by simp);show(b:Int)<4;omega
   .have:=l2 (by simp);show(b:Int)<8;omega
   .show(b:Int)<16;omega
 . have hm:=mL.mp hx;have:x=1\/x=2\/x=3\/x=4:=by omega
   rcases this with rfl|rfl|rfl|rfl;.rw[q1];simp;omega
   .rw[q2];simp;omega
   .rw[q3];simp;omega
   .rw[q4];simp;omega
theorem G7(m0:2<=m):K3 m (Kc m b):=by
 refine⟨by simp[Kc],fun z=>?_⟩;unfold Kc at z;rcases mem_cons.mp z with z|z;.omega
 .have:=mL.mp (mem_filter.mp z).1;omega
theorem Mv{S:List Int}(h:aW m ws)(hS:K3 m S):∃b:Nat,(b:Int)<2^(m-2).toNat/\bM (Kc m b) ws=bM S ws:=by
 have m0:=h.m0;obtain⟨b,h1,h2⟩:=KZ m0 h.m1 fun x=>decide (x∈S);refine⟨b,h1,tG (zx h) fun x x0 x1=>?_⟩;unfold Kc;rw[mem_cons,mem_filter];by_cases e0:x=0;.subst e0;simp[hS.1]
 . by_cases e1:x=m-1
   . subst e1;constructor
     . rintro(z|⟨z,_⟩);.omega
       .have:=mL.mp z;omega
     .intro z;exact absurd z hS.2
   .have hx:x∈mids m:=mL.mpr (by omega);rw[h2 x hx];simp[e0,hx]
def sdD(m:Int)(b:Nat):D:=.tup ((Kc m b).map D.int)
inductive JSd(m:Int)(a0:Sl)(i:Nat)(ρ:List Sl):Prop where|mk(s2:Sl)(q0:ρ=[a0,.own false ((List.range i).map (sdD m)),s2])(q1:fr s2=true)
inductive FSd(a0 a1 a2:Sl)(ρ:List Sl):Prop where|mk(s:Sl)(q0:ρ=[a0,a1,a2,s])(q1:fr s=true)
theorem Cy(h:aW m ws)(hN:(2:Int)^(m-2).toNat=N)(hN2:N<=16)(k:Q (.own ((List.range N).map (sdD m))) [.val false (aC m ws)]):(run Γ w (n+1) 42 [.val false (aC m ws)]).sat Q:=by
 have m0:=h.m0;have m1:=h.m1;refine aH (d:=Z5) rfl rfl (by decide) ?_;symm;simp[Z5];apply aj;simp[show 0<=m-2 by omega,show m-2<=1000 by omega,hN,show(N:Int)<=1000000000 by omega];refine⟨by omega,?_⟩;refine iQ (JSd m _) ?_ ?_ ⟨.aV,rfl,rfl⟩
 . rintro i _ hi⟨s2,rfl,h2⟩;simp[h2];apply aj;simp[show m-1<=1000000000 by omega,show-1000000000<=m-1 by omega,show i<16777216 by omega];refine⟨fun _=>?_,by omega⟩;refine gk (FSd _ _ _) (fP i) ⟨.aV,rfl,rfl⟩ ?_ ?_
   . rintro d hd _⟨s,rfl,hs⟩;obtain⟨j,hj,rfl⟩:=mem_map.mp hd;have hj:=mem_range.mp hj;simp[hs,show(0:Int)<=1+(j:Int)-1 by omega];have e:lX (i:Int) (1+(j:Int))=decide (PySem.Builtin.bitAnd ((i:Int)/2^((1+(j:Int)).toNat-1)) 1=1):=by unfold lX;rw[show(1+(j:Int)-1).toNat=(1+(j:Int)).toNat-1 by omega]
     refine⟨by omega,?_⟩;generalize PySem.Builtin.bitAnd ((i:Int)/2^((1+(j:Int)).toNat-1)) 1=q at*;by_cases hq:q=1;.exact .inr ⟨hq,by simp[fP,e,hq],_,rfl,rfl⟩
     .exact .inl ⟨hq,by simp[fP,e,hq],_,rfl,rfl⟩
   rintro _⟨s,rfl,hs⟩;have hX:((List.range (m.toNat-1-1)).map fun(k:Nat)=>D.int (1+(k:Int))).filterMap (fP i)=((mids m).filter (lX i)).map D.int:=by rw[<-Ho];unfold mids;rw[map_map,show(m-1-1).toNat=m.toNat-1-1 by omega];rfl
   have hl:((mids m).filter (lX i)).length<=4:=by
    have h1:=length_filter_le (lX i) (mids m);have h2:(mids m).length=(m-1-1).toNat:=by unfold mids;simp only[length_map,length_range]
    omega
   rw[hX,length_map];refine⟨by show _<=16777216;omega,?_⟩;simp[show i<16777216 by omega];exact⟨_,by rw[List.range_succ,map_append];rfl,rfl⟩
 .rintro _⟨s2,rfl,h2⟩;simp;apply aj;simp;exact k
inductive FLs(a0:Sl)(ρ:List Sl):Prop where|mk(s:Sl)(q0:ρ=[a0,s])(q1:fr s=true)
def U7:D->List Int|.tup ds=>ds.map iK|_=>[]
theorem BR:U7 (.tup (l.map D.int))=l:=by show(l.map D.int).map iK=l;rw[map_map];exact map_id _
theorem tQ(h:aW m ws)(k:∀q,Lst m ws q->Q (.val (.int q)) [.val false (aC m ws)]):(run Γ w (n+2) 44 [.val false (aC m ws)]).sat Q:=by
 have m0:=h.m0;have m1:=h.m1;obtain⟨N,hN0,hN,hp⟩:=Wm m0 m1;refine aH (d:=Z7) rfl rfl (by decide) ?_;symm;simp[Z7];refine Cy h hp hN ?_;simp;refine⟨fun _=>?_,by show _<=16777216;omega⟩;refine bH (FLs _) (fun d=>.int (bM (U7 d) ws)) ⟨.aV,rfl,rfl⟩ ?_ ?_;.rintro d hd _⟨s,rfl,hs⟩;obtain⟨b,_,rfl⟩:=mem_map.mp hd;simp[hs,sdD];refine Ek h ?_;simp[BR];exact⟨_,rfl,rfl⟩
 rintro _⟨s,rfl,hs⟩;have hm:((List.range N).map (sdD m)).map (fun d=>D.int (bM (U7 d) ws))=((List.range N).map fun(b:Nat)=>bM (Kc m b) ws).map D.int:=by rw[map_map,map_map];exact map_congr_left fun b _=>by show D.int (bM (U7 (.tup ((Kc m b).map D.int))) ws)=_;rw[BR];rfl
 rw[hm];obtain⟨q,h1,h2,h3⟩:=vm (ns:=(List.range N).map fun(b:Nat)=>bM (Kc m b) ws) (by simp;omega);have hL:Lst m ws q:=by obtain⟨b,_,e⟩:=mem_map.mp h2;refine⟨⟨_,G7 m0,e⟩,fun S hS=>?_⟩;obtain⟨c,c1,c2⟩:=Mv h hS;rw[<-c2];exact h3 _ (mem_map.mpr ⟨c,mem_range.mpr (by omega),rfl⟩)
 generalize((List.range N).map fun(b:Nat)=>bM (Kc m b) ws)=ns at*;simp[fK,h1];exact k q hL
theorem BZ{α:Type}{xs:List α}{k:Int}(h0:0<=k)(h1:k<(xs.length:Int)):cut xs none (some k)=xs.take k.toNat:=by unfold cut cZ;simp[h0];try rw[Nat.min_eq_left (by omega)]
theorem Ak{α:Type}{xs:List α}{k:Int}(h0:0<=k)(h1:k<(xs.length:Int)):cut xs (some (k+1)) none=xs.drop (k.toNat+1):=by
 unfold cut cZ;have e:(k+1).toNat=k.toNat+1:=by omega
 simp[show 0<=k+1 by omega,e];try rw[Nat.min_eq_left (by omega)]
 try rw[List.take_of_length_le (by simp)]
def less(ws:List Wy)(k:Nat):List Wy:=ws.take k++ws.drop (k+1)
def mX(ws:List Wy)(k:Nat)(v:Wy)(r:Int):List Wy:=(ws.take k++[{v with r:=r}])++ws.drop (k+1)
theorem xU(h:ws[k]?=some v):ws=(ws.take k++[v])++ws.drop (k+1):=by obtain⟨h1,h2⟩:=cV h;rw[append_assoc];show ws=ws.take k++v::ws.drop (k+1);rw[<-h2,<-drop_eq_getElem_cons h1,List.take_append_drop]
theorem sU(e:ws[j]?=some v)(k:Q (.val v.d) [.val false (aC m ws),.val false (.int j)]):(run Γ w (n+1) 11 [.val false (aC m ws),.val false (.int j)]).sat Q:=by have hj:=(cV e).1;refine aH (d:=f11) rfl rfl (by decide) ?_;symm;simp[f11,hj];apply aj;simp[cB e];exact k
theorem FQ(h:aW m ws)(e:ws[j]?=some v)(k:Q (.val (aC m (less ws j))) [.val false (aC m ws),.val false (.int j)]):(run Γ w (n+2) 13 [.val false (aC m ws),.val false (.int j)]).sat Q:=by have hj:=(cV e).1;have hn:=h.len;have c1:=BZ (xs:=ws.map Wy.d) (k:=(j:Int)) (by omega) (by simp;omega);have c2:=Ak (xs:=ws.map Wy.d) (k:=(j:Int)) (by omega) (by simp;omega);refine aH (d:=Zw) rfl rfl (by decide) ?_;symm;simp[Zw];refine sU e ?_;simp;apply aj;simp[CJ,part,xx,c1,c2];refine⟨by show _<=16777216;omega,?_⟩;simpa[aC,less]using k
theorem DY(h:aW m ws)(e:ws[j]?=some v)(k:Q (.val (aC m (mX ws j v r))) [.val false (aC m ws),.val false (.int j),.val false (.int r)]):(run Γ w (n+2) 14 [.val false (aC m ws),.val false (.int j),.val false (.int r)]).sat Q:=by have hj:=(cV e).1;have hn:=h.len;have c1:=BZ (xs:=ws.map Wy.d) (k:=(j:Int)) (by omega) (by simp;omega);have c2:=Ak (xs:=ws.map Wy.d) (k:=(j:Int)) (by omega) (by simp;omega);refine aH (d:=Zm) rfl rfl (by decide) ?_;symm;simp[Zm];refine sU e ?_;simp;apply aj;simp[wA,wV,KQ];apply aj;simp[CJ,part,xx,c1,c2];refine⟨by show _<=16777216;omega,by show _<=16777216;omega,?_⟩;simpa[aC,mX,Wy.d]using k
theorem Iw(h:ws.length<12)(k:Q (.val (aC m (ws++[v]))) [.val false (aC m ws),.val false v.d]):(run Γ w (n+1) 12 [.val false (aC m ws),.val false v.d]).sat Q:=by refine aH (d:=Zy) rfl rfl (by decide) ?_;symm;simp[Zy,show ¬(12:Int)<=(ws.length:Int)by omega];apply aj;simp[Wy.d];refine⟨by show _<=16777216;omega,?_⟩;simpa[aC,Wy.d]using k
theorem Ax:cm .ne (.tup (ws.map Wy.d)) (.tup [])=some (!decide (ws=[])):=by show zJ _ _=_;unfold zJ;rw[Io (k:=7) fun d hd=>by obtain⟨v,_,rfl⟩:=mem_map.mp hd;rfl];cases ws with|nil=>rfl|cons a l=>rfl
def Cz(m:Int)(ws:List Wy)(d:D):Prop:=∃us a b,d=.tup [aC m us,.int a,.int b]/\aW m us/\(∀S,bM S us<=bM S ws+b)/\∀S,bM S ws<=bM S us+a
theorem Fj(h:aW m ws)(e:ws[j]?=some v):Cz m ws (.tup [aC m (less ws j),.int v.r,.int 0]):=by
 have hs:=xU e;have hv:=h.ok v (mem_of_getElem? e);have key:∀S,bM S ws=bM S (less ws j)+bM S [v]:=fun S=>by have:=congrArg (bM S) hs;rw[fj,fj]at this;unfold less;rw[fj];omega
 refine⟨less ws j,v.r,0,rfl,⟨h.m0,h.m1,?_,fun u hu=>h.ok u ?_⟩,fun S=>?_,fun S=>?_⟩;.have:=h.len;unfold less;simp;omega
 . rcases mem_append.mp hu with hu|hu;.exact List.mem_of_mem_take hu
   .exact List.mem_of_mem_drop hu
 .have:=key S;have:=(pH (S:=S) hv.r0).1;omega
 .have:=key S;have:=(pH (S:=S) hv.r0).2;omega
theorem Gm(h:aW m ws)(e:ws[j]?=some v)(hr:v.r<1000000000):Cz m ws (.tup [aC m (mX ws j v (v.r+1)),.int 0,.int 1]):=by
 have hs:=xU e;have hv:=h.ok v (mem_of_getElem? e);have key:∀S,bM S ws<=bM S (mX ws j v (v.r+1))/\bM S (mX ws j v (v.r+1))<=bM S ws+1:=fun S=>by
  have:=congrArg (bM S) hs;rw[fj,fj]at this;unfold mX;rw[fj,fj,this];simp only[bM];by_cases z:v.s∈S/\v.t∉S;.rw[if_pos z,if_pos z];omega
  .rw[if_neg z,if_neg z];omega
 refine⟨mX ws j v (v.r+1),0,1,rfl,⟨h.m0,h.m1,?_,fun u hu=>?_⟩,fun S=>(key S).2,fun S=>by have:=(key S).1;omega⟩;.have:=h.len;have:=(cV e).1;unfold mX;simp;omega
 . unfold mX at hu;rcases mem_append.mp hu with hu|hu
   . rcases mem_append.mp hu with hu|hu;.exact h.ok u (List.mem_of_mem_take hu)
     .rw[mem_singleton.mp hu];exact⟨hv.s0,hv.s1,hv.t0,hv.t1,hv.ne,by have:=hv.r0;show 0<=v.r+1;omega,by show v.r+1<=_;omega,hv.h0,hv.h1⟩
   .exact h.ok u (List.mem_of_mem_drop hu)
theorem M8(h:aW m ws)(hv:v.Ok m)(hl:ws.length<12):Cz m ws (.tup [aC m (ws++[v]),.int 0,.int v.r]):=by
 refine⟨ws++[v],0,v.r,rfl,⟨h.m0,h.m1,by simp;omega,fun u hu=>?_⟩,fun S=>?_,fun S=>?_⟩
 . rcases mem_append.mp hu with hu|hu;.exact h.ok u hu
   .rw[mem_singleton.mp hu];exact hv
 .rw[fj];have:=(pH (S:=S) hv.r0).2;omega
 .rw[fj];have:=(pH (S:=S) hv.r0).1;omega
inductive MOt(y m:Int)(ws:List Wy)(ρ:List Sl):Prop where|mk(ds:List D)(x z:Int)(s3:Sl)(q0:ρ=[.own true [.int x,.int y,.int z],.val false (aC m ws),.own false ds,s3,.aV])(q1:fr s3=true)(q2:(∀d∈ds,Cz m ws d))(q3:ds.length<=2)
theorem yG{z:Int}(h:aW m ws)(k:∀(ds:List D)(x z:Int),(∀d∈ds,Cz m ws d)->Q (.own ds) [.own true [.int x,.int y,.int z],.val false (aC m ws)]):(run Γ w (n+4) 46 [.own true [.int x,.int y,.int z],.val false (aC m ws)]).sat Q:=by
 have hn:=h.len;have m0:=h.m0;have m1:=h.m1;refine aH (d:=Zi) rfl rfl (by decide) ?_;symm;simp[Zi];refine cP (MOt y m ws) ?_ ?_
 . by_cases hne:ws=[];.subst hne;simp[Ax];refine⟨rfl,[],_,_,_,rfl,rfl,by simp,by simp⟩
   . have hpos:0<ws.length:=by cases ws with|nil=>exact absurd rfl hne|cons _ _=>simp
     simp[Ax,hne];apply aj;simp;refine bN (by omega) (by show _<(1606938044258990275541962092341162602522202993782792835301376:Int);omega) fun d x z hd1 hd2=>?_;obtain⟨j,rfl⟩:∃j:Nat,d=(j:Int):=⟨d.toNat,by omega⟩;have hj:j<ws.length:=by omega
     have e:ws[j]?=some ws[j]:=by simp[hj]
     have o1:=Fj h e;have o2:=Gm (v:=ws[j]) h e;generalize ws[j]=v at*;simp;apply aj;simp;refine FQ h e ?_;simp[cB e,pW];apply aj;by_cases hr:v.r<1000000000
     . simp[cB e,pW,hr];symm;simp[cB e,pW];refine DY h e ?_;simp;refine⟨fun _=>?_,by decide⟩;refine⟨_,_,_,_,rfl,rfl,fun d hd=>?_,by simp⟩;rcases mem_cons.mp hd with rfl|hd;.exact o1
       .rw[mem_singleton.mp hd];exact o2 hr
     .simp[cB e,pW,hr];refine⟨_,_,_,_,rfl,rfl,fun d hd=>?_,by simp⟩;rw[mem_singleton.mp hd];exact o1
 rintro _⟨ds,x,z,s3,rfl,h3,hds,hl⟩;symm;simp;refine Ay m0 m1 (by decide) (by decide) (by decide) (by decide) fun v x z hv=>?_;simp;apply aj;by_cases hw:ws.length<12
 . have o3:=M8 h hv hw;simp[show(ws.length:Int)<12 by omega];apply aj;simp[show ds.length<16777216 by omega];refine Iw hw ?_;simp[pW];refine⟨fun _=>?_,by show _<16777216;omega⟩;symm;simp;refine k _ _ _ fun d hd=>?_;rcases mem_append.mp hd with hd|hd;.exact hds d hd
   .rw[mem_singleton.mp hd];exact o3
 .simp[show ¬(ws.length:Int)<12 by omega];symm;simp;exact k _ _ _ hds
inductive FcR(a0 a1 a2 a3 a4 a5 a6 a7:Sl)(ρ:List Sl):Prop where|mk(s:Sl)(q0:ρ=[a0,a1,a2,a3,a4,a5,a6,a7,s])(q1:fr s=true)
def lfD(ls:List Int):D->D|.int k=>.int ((ls[k.toNat]?).getD 0)|d=>d
@[simp]theorem afX{ls:List Int}{k:Int}:lfD ls (.int k)=.int ((ls[k.toNat]?).getD 0):=rfl
inductive JRd(m:Int)(ws:List Wy)(fs:List Int)(R0:Int)(s:Sl)(M:Nat)(ρ:List Sl):Prop where|mk(ls:List Int)(r:Int)(cs:List Ey)(s5 s6 s7:Sl)(q0:ρ=[.val false (aC m ws),s,.own false (ls.map D.int),.val false (.int r),.own false (cs.map vU),s5,s6,s7])(q1:A3 (fr s5=true) (fr s6=true) (fr s7=true))(q2:RI m ws fs R0 ls r cs)(q3:(0<r->pos ls+1<=M))
inductive JRw(x:Int)(ls:List Int)(ks:List Nat)(a0 a1 a3 a4 a5 a6:Sl)(q:List D)(ρ:List Sl):Prop where|mk(fO us:List Nat)(s7:Sl)(q0:ρ=[a0,a1,.own false ((aug x ls (pM fO)).map D.int),a3,a4,a5,a6,s7])(q1:fr s7=true)(q2:q=(aO us).map D.int)(q3:fO++us=ks)
theorem zB{s:Sl}{fs:List Int}(hs:Kf s fs)(hw:50000000<=w)(h:aW m ws)(hf:fs.length=ws.length)(hb:∀(k:Nat)(v:Wy)(l:Int),ws[k]?=some v->fs[k]?=some l->0<=l/\l<=v.r)(hG:Goes m ws fs R0)(k:∀ls r cs,RI m ws fs R0 ls r cs->r=0->Q (.own (cs.map vU)) [.val false (aC m ws),s]):(run Γ w (n+4) 31 [.val false (aC m ws),s]).sat Q:=by
 have hn:=h.len;have m0:=h.m0;have m1:=h.m1;refine aH (d:=f31) rfl rfl (by decide) ?_;have hr0:dot (fun x=>if x=0 then 1 else 0) ws fs=R0:=by rw[hG.2];simp[show ¬ m-1=0 by omega]
 refine cP (fun ρ=>ρ=[.val false (aC m ws),s,.own false (fs.map D.int),.aV,.aV,.aV,.aV,.aV]) ?_ ?_;.rcases hs with rfl|⟨b,rfl⟩;all_goals simp[f31]
 rintro _ rfl;refine cP (fun ρ=>ρ=[.val false (aC m ws),s,.own false (fs.map D.int),.val false (.int R0),.aV,.aV,.aV,.aV]) ?_ ?_;.rcases hs with rfl|⟨b,rfl⟩;all_goals simp;refine iJ (by first|exact .inl rfl|exact .inr ⟨_,rfl⟩) h hf ?_;rw[hr0];simp
 rintro _ rfl;symm;simp;apply aj;simp;have hp0:pos fs<=ws.length:=by rw[<-hf];exact length_filter_le _ _
 refine fu (JRd m ws fs R0 s) ?_ (k:=w) (m:=100) (by omega) ⟨fs,R0,[],.aV,.aV,.aV,rfl,⟨rfl,rfl,rfl⟩,⟨hf,hb,hG,by simp,fun k f l e1 e2=>by rw[e1]at e2;cases e2;simp[zq],by simp,fun _=>by simpa using hp0,by simp⟩,fun _=>by omega⟩;rintro M _⟨ls,r,cs,s5,s6,s7,rfl,⟨h5,h6,h7⟩,hI,hM⟩;by_cases hr:0<r
 . simp[hr];symm;simp;refine Dz h ?_;simp;have hz:=Ru h hI.len hI.nn;obtain⟨g,hg⟩:=K4 hI.go hr fun k v l e1 e2=>(hI.nn k v l e1 e2).1;obtain⟨g0,hg0⟩:=wJ hz g.toNat g (cR) hg;refine Je hw hz (by omega) (by omega) hg0 fun l ps hgo jw=>?_;obtain⟨ks,rfl,hnd,⟨q,hq,YZ⟩,hks⟩:=zu (p:=0) rfl hgo;rw[jw]at hq;cases hq;have hp2:path ws 0 ks (m-1):=by clear hnd hgo hks hg0;suffices hh:∀(ks:List Nat)(p q:Int),path (oX ws ls) p ks q->path ws p ks q from hh ks 0 (m-1) YZ;intro ks;induction ks with|nil=>intro p q z;exact z|cons a ks ih=>rintro p q⟨u,u1,u2,u3⟩;obtain⟨v,l,v1,_,rfl⟩:=pU u1;exact⟨v,v1,u2,ih _ _ u3⟩
   have hkl:∀k∈ks,∃l,ls[k]?=some l/\0<l:=fun k hk=>by obtain⟨u,u1,u2,_⟩:=hks k hk;obtain⟨v,l,_,e2,rfl⟩:=pU u1;exact⟨l,e2,u2⟩
   have Y0:=Dd hz hnd hks;have hne:ks≠[]:=by rintro rfl;have:(0:Int)=m-1:=hp2;omega
   simp[h5];apply aj;simp[show(aO ks).length<=16777216 by simp[aO];omega];refine bH (FcR _ _ _ _ _ _ _ _) (lfD ls) ⟨.aV,rfl,rfl⟩ ?_ ?_;.rintro d hd _⟨s,rfl,hs⟩;simp only[aO,map_map,mem_map]at hd;obtain⟨k,hk,rfl⟩:=hd;obtain⟨l,e,_⟩:=hkl k hk;simp[hs,cB e,e];exact⟨_,rfl,rfl⟩
   rintro _⟨s,rfl,hs⟩;have hmap:((aO ks).map D.int).map (lfD ls)=(ks.map fun k=>(ls[k]?).getD 0).map D.int:=by unfold aO;rw[map_map,map_map,map_map];refine map_congr_left fun k _=>by simp
   rw[hmap];obtain⟨x,hx1,hx2,VG⟩:=vm (ns:=r::ks.map fun k=>(ls[k]?).getD 0) (by simp);have YM:x<=r:=VG r (by simp);have hxk:∀k∈ks,∀l,ls[k]?=some l->x<=l:=fun k hk l e=>by have:=VG ((ls[k]?).getD 0) (mem_cons_of_mem _ (mem_map.mpr ⟨k,hk,rfl⟩));rwa[e]at this
   have hxm:x=r\/∃k∈ks,ls[k]?=some x:=by
    rcases mem_cons.mp hx2 with rfl|hx2;.exact .inl rfl
    .obtain⟨k,hk,e⟩:=mem_map.mp hx2;obtain⟨l,e2,_⟩:=hkl k hk;rw[e2]at e;exact .inr ⟨k,hk,by rw[e2,<-e];rfl⟩
   have hlen:(ks.map fun k=>(ls[k]?).getD 0).length<=12:=by simpa using Y0
   generalize(ks.map fun k=>(ls[k]?).getD 0)=ns at*;have hmi:(D.int r::ns.map D.int).mapM iV=some (r::ns):=fK (ns:=r::ns);simp[hmi,hx1,h6];refine⟨by show _<=16777216;omega,?_⟩;obtain⟨hI2,x1,hpd⟩:=hI.turn h hr hgo jw hnd hp2 hkl hxm YM hxk Y0 hne;symm;simp;refine cu (JRw x ls ks _ _ _ _ _ _) ?_ ?_ ⟨[],ks,s7,rfl,h7,rfl,rfl⟩;.rintro d q _⟨fO,us,s7,rfl,h7,hq,hd⟩;cases us with|nil=>cases hq|cons u us=>
       obtain⟨rfl,rfl⟩:d=.int (u:Int)/\q=(aO us).map D.int:=by simpa[aO]using hq
       have hu:u∈ks:=by rw[<-hd];simp
       have hun:u∉fO:=by rw[<-hd]at hnd;have:=nodup_append.mp hnd;exact fun z=>this.2.2 u z u (by simp) rfl
       obtain⟨l,e,_⟩:=hkl u hu;have ea:(aug x ls (pM fO))[u]?=some l:=by rw[j7 (by rw[rG];exact hun)];exact e
       have hul:u<(aug x ls (pM fO)).length:=(cV ea).1;have hx:iD (aug x ls (pM fO)).length (u:Int)=some u:=by unfold iD;rw[if_pos (by omega),if_pos (by omega)];simp
       have he:aug x ls (pM (fO++[u]))=(aug x ls (pM fO)).set u (l-x):=by unfold pM aug;rw[map_append,List.foldl_append];show jn x (aug x ls (pM fO)) (u,false)=_;unfold jn;rw[ea];rfl
       have hd2:(fO++[u])++us=ks:=by rw[append_assoc];exact hd
       simp[h7];apply aj;simp[cB ea,hx];exact⟨fO++[u],us,_,by rw[he,map_set],rfl,rfl,hd2⟩
   . rintro _⟨fO,us,s7,rfl,h7,hq,hd⟩;have:us=[]:=by cases us with|nil=>rfl|cons _ _=>cases hq
     subst this;rw[append_nil]at hd;subst hd;have hcl:=hI.YW;simp;apply aj;simp;apply aj;simp[show cs.length<16777216 by omega];have hM2:=hM hr;by_cases hz2:0<r-x;.have:=hpd hz2;exact⟨pos (aug x ls (pM fO))+1,by omega,aug x ls (pM fO),r-x,cs++[(fO,x)],.val false (.tup ((aO fO).map D.int)),.val false (.int x),s7,by simp[vU],⟨rfl,rfl,h7⟩,hI2,fun _=>cR⟩
     .exact⟨0,by omega,aug x ls (pM fO),r-x,cs++[(fO,x)],.val false (.tup ((aO fO).map D.int)),.val false (.int x),s7,by simp[vU],⟨rfl,rfl,h7⟩,hI2,fun z=>absurd z hz2⟩
 .simp[hr];symm;simp;exact k ls r cs hI (by have:=hI.go.1;omega)
structure Rds(m:Int)(ws:List Wy)(fs:List Int)(R0:Int)(cs:List Ey):Prop where
 VJ:∀c∈cs,1<=c.2/\c.1.length<=12/\Gu m ws c.1
 nd:∀c∈cs,c.1.Nodup
 inn:∀c∈cs,∀k∈c.1,k<ws.length
 md:∀(k:Nat)(f:Int),fs[k]?=some f->zq cs k<=f
 sum:(cs.map (·.2)).sum=R0
 len:cs.length<=ws.length
theorem CZ{a b:List Nat}(h:aO a=aO b):a=b:=by unfold aO at h;exact(List.map_inj_right fun x y e=>by omega).mp h
theorem RI.adU{fs:List Int}(hf:fs.length=ws.length)(h:RI m ws fs R0 ls 0 cs):Rds m ws fs R0 cs:=by
 have key:∀c∈cs,c.1.Nodup/\∀k∈c.1,k<ws.length:=fun c hc=>by obtain⟨_,_,ps,hg,hl⟩:=h.VJ c hc;obtain⟨ks,e,h1,_,h3⟩:=zu (p:=0) rfl hg;rw[CZ e];refine⟨h1,fun k hk=>?_⟩;obtain⟨v,e1,_⟩:=h3 k hk;exact(cV e1).1
 refine⟨h.VJ,fun c hc=>(key c hc).1,fun c hc=>(key c hc).2,fun k f e=>?_,by have:=h.sum;omega,h.YW⟩;have hk:=(cV e).1;have hk2:k<ls.length:=by rw[h.len,<-hf];exact hk
 have e2:ls[k]?=some ls[k]:=by simp[hk2]
 have h1:=h.mka k f _ e e2;have hk3:k<ws.length:=by rw[<-hf];exact hk
 have h2:=h.nn k ws[k] _ (by simp[hk3]) e2;omega
theorem wC{ws:List Wy}:∀{l ps qs:List Int}{a p:Int},ps.head?=some a->ps.getLast?=some p->kj ws l ps=some qs->qs.head?=some a|[],ps,qs,a,p,h0,_,h=>by rw[kj]at h;cases h;exact h0|k::l,ps,qs,a,p,h0,h1,h=>by rw[kj]at h;cases e:dJ ws ps k with|none=>rw[e]at h;cases h|some rs=>rw[e]at h;obtain⟨_,_,v,_,_,_,_,rfl⟩:=my h1 e;exact wC (p:=v.t) (by cases ps with|nil=>cases h0|cons b r=>simpa using h0) (by simp) h
theorem K6{qs:List Int}(h:qs.getLast?=some p):at' (qs.map D.int) (-1)=some (.int p):=by
 obtain⟨l,x,rfl⟩:∃l x,qs=l++[x]:=by
  have hne:qs≠[]:=by rintro rfl;cases h
  exact⟨qs.dropLast,qs.getLast hne,(List.dropLast_concat_getLast hne).symm⟩
 rw[map_append,List.map_singleton,Ag];simpa using h
theorem tY:(aO ks).length=ks.length:=by simp[aO]
inductive JWp(m:Int)(ws:List Wy)(a1:Sl)(ps:List Int)(r:List D)(ρ:List Sl):Prop where|mk(us qs:List Int)(s3 s4:Sl)(q0:ρ=[.val false (aC m ws),a1,.own false (qs.map D.int),s3,s4])(q1:(fr s3=true/\fr s4=true))(q2:r=us.map D.int)(q3:((qs=[]/\kj ws us [0]=some ps/\us.length<=12)\/∃p,qs.getLast?=some p/\kj ws us qs=some ps))(q4:qs.length+us.length<=20)
theorem vW(h:aW m ws)(hgo:kj ws (aO ks) [0]=some ps)(jw:ps.getLast?=some (m-1))(hl:ks.length<=12)(k:Q (.val (.tup (ps.map D.int))) [.val false (aC m ws),.val false (.tup ((aO ks).map D.int))]):(run Γ w (n+1) 20 [.val false (aC m ws),.val false (.tup ((aO ks).map D.int))]).sat Q:=by
 have m0:=h.m0;refine aH (d:=Z4) rfl rfl (by decide) ?_;symm;simp[Z4];apply aj;simp;refine cu (JWp m ws _ ps) ?_ ?_ ⟨aO ks,[],.aV,.aV,rfl,⟨rfl,rfl⟩,rfl,.inl ⟨rfl,hgo,by rw[tY];exact hl⟩,by rw[tY];simp;omega⟩;.rintro d r _⟨us,qs,s3,s4,rfl,⟨h3,h4⟩,hr,hg,hlen⟩;cases us with|nil=>cases hr|cons u us=>
     obtain⟨rfl,rfl⟩:d=.int u/\r=us.map D.int:=by simpa using hr
     obtain⟨zs,p,hz,Y4,hqz⟩:∃zs p,zs.getLast?=some p/\kj ws (u::us) zs=some ps/\((qs=[]/\zs=[0]/\us.length<=11)\/qs=zs):=by
      rcases hg with⟨rfl,hg,hu⟩|⟨p,hp,hg⟩;.exact⟨[0],0,rfl,hg,.inl ⟨rfl,rfl,by simp at hu;omega⟩⟩
      .exact⟨qs,p,hp,hg,.inr rfl⟩
     rw[kj]at Y4;cases e:dJ ws zs u with|none=>rw[e]at Y4;cases Y4|some rs=>
       rw[e]at Y4;obtain⟨k0,k1,v,e1,e2,e3,e4,rfl⟩:=my hz e;have ha:at' (ws.map Wy.d) u=some v.d:=by rw[jk k0 (by simpa using k1)];simp[e1]
       have hin:cm .inn (.int v.t) (.lst (zs.map D.int))=some false:=by rw[Qz];simp[e4]
       have hla:=K6 hz;simp[h3];apply aj;simp[k0,k1,ha,pW,show ¬ v.r<1 by omega];apply aj;simp[ha,h4];refine cP (fun ρ=>ρ=[.val false (aC m ws),.val false (.tup ((aO ks).map D.int)),.own false (zs.map D.int),.val false (.int u),.val false v.d]) ?_ ?_
       . rcases hqz with⟨rfl,rfl,hu⟩|rfl
         . simp;symm;have:v.s=0:=by rw[e3];simpa using hz.symm
           simp[wA,this]
         . have hq0:¬ qs=[]:=by rintro rfl;cases hz
           simp[hq0]
       rintro _ rfl;symm;simp[wA,wV,hla,e3,hin];apply aj;have VH:zs.length<16777216:=by
        rcases hqz with⟨rfl,rfl,hu⟩|rfl;.simp
        .simp at hlen;omega
       simp[VH,wV];refine⟨us,zs++[v.t],.val false (.int u),.val false v.d,by simp,⟨rfl,rfl⟩,rfl,.inr ⟨v.t,by simp,Y4⟩,?_⟩;rcases hqz with⟨rfl,rfl,hu⟩|rfl;.simp at hlen ⊢;omega
       .simp at hlen ⊢;omega
 . rintro _⟨us,qs,s3,s4,rfl,⟨h3,h4⟩,hr,hg,hlen⟩;have:us=[]:=by cases us with|nil=>rfl|cons _ _=>cases hr
   subst this;have hq:qs=ps:=by
    rcases hg with⟨rfl,hg,_⟩|⟨p,hp,hg⟩
    . rw[kj]at hg;cases hg;have:(0:Int)=m-1:=by simpa using jw
      omega
    .rw[kj]at hg;cases hg;rfl
   subst hq;simp;apply aj;simp;exact k
theorem CQ(h:aW m ws)(hk:Gu m ws ks)(hl:ks.length<=12)(hx:1<=x)(k:Q (.val (.bl true)) [.val false (aC m ws),.val false (.tup ((aO ks).map D.int)),.val false (.int x)]):(run Γ w (n+2) 27 [.val false (aC m ws),.val false (.tup ((aO ks).map D.int)),.val false (.int x)]).sat Q:=by
 obtain⟨ps,hgo,jw⟩:=hk;have Py:=wC (a:=0) (p:=0) rfl rfl hgo;have c1:cut (ps.map D.int) none (some 1)=[.int 0]:=by cases ps with|nil=>cases Py|cons a r=>
    have:a=0:=by simpa using Py
    subst this;simp[cut,cZ]
 have c2:cut (ps.map D.int) (some (-1)) none=[.int (m-1)]:=by
  obtain⟨l,y,rfl⟩:∃l y,ps=l++[y]:=by
   have hne:ps≠[]:=by rintro rfl;cases jw
   exact⟨ps.dropLast,ps.getLast hne,(List.dropLast_concat_getLast hne).symm⟩
  have:y=m-1:=by simpa using jw
  subst this;unfold cut cZ;simp;rw[show(-1+((l.length:Int)+1)).toNat=l.length by omega];simp
 refine aH (d:=f27) rfl rfl (by decide) ?_;symm;simp[f27];apply aj;simp;refine vW h hgo jw hl ?_;simp;apply aj;simp[hx,CJ,part,xx,c1,c2,zm];exact k
def Fp(N:Nat)(cs:List Ey):List Int:=(List.range N).map fun k=>zq cs k
theorem pK:(Fp N cs).length=N:=by simp[Fp]
theorem Gz(h:(Fp N cs)[k]?=some a):a=zq cs k:=by unfold Fp at h;rw[getElem?_map]at h;obtain⟨j,e,rfl⟩:=map_eq_some_iff.mp h;obtain⟨h1,h2⟩:=cV e;rw[List.getElem_range]at h2;rw[h2]
def gK(k:Nat):D->Option D|.tup [.tup ds,x]=>if(ds.map iK).contains (k:Int)=true then some x else none|_=>none
theorem JL:(l.map D.int).map iK=l:=by rw[map_map];exact map_id _
theorem Ow{c:Ey}:gK k (vU c)=if k∈c.1 then some (.int c.2)else none:=by show(if(((aO c.1).map D.int).map iK).contains (k:Int)=true then some (D.int c.2)else none)=_;rw[JL,nj];by_cases z:k∈c.1<;>simp[z]
theorem Ju{k:Nat}:∀cs:List Ey,∃ns:List Int,(cs.map vU).filterMap (gK k)=ns.map D.int/\ns.sum=zq cs k
 |[]=>⟨[],rfl,rfl⟩|c::cs=>by
   obtain⟨ns,h1,h2⟩:=Ju (k:=k) cs;have e:zq (c::cs) k=(if k∈c.1 then c.2 else 0)+zq cs k:=by simp[zq]
   rw[map_cons,filterMap_cons,h1,Ow,e,<-h2];by_cases z:k∈c.1;.rw[if_pos z,if_pos z];exact⟨c.2::ns,rfl,by simp⟩
   .rw[if_neg z,if_neg z];exact⟨ns,rfl,by omega⟩
inductive FRs(a0 a1:Sl)(ρ:List Sl):Prop where|mk(s:Sl)(q0:ρ=[a0,a1,s])(q1:fr s=true)
inductive FRi(a0 a1 a2:Sl)(ρ:List Sl):Prop where|mk(s:Sl)(t:Sl)(q0:ρ=[a0,a1,a2,s,t])(q1:fr s=true)(q2:fr t=true)
def mdD(cs:List Ey)(d:D):D:=.int (zq cs (iK d).toNat)
theorem oJ(h:aW m ws)(hl:cs.length<=12)(k:Q (.own ((Fp ws.length cs).map D.int)) [.val false (aC m ws),.own true (cs.map vU)]):(run Γ w (n+1) 28 [.val false (aC m ws),.own true (cs.map vU)]).sat Q:=by
 have hn:=h.len;refine aH (d:=f28) rfl rfl (by decide) ?_;symm;simp[f28,show(ws.length:Int)<=1000000000 by omega];refine⟨fun _=>?_,by show _<=16777216;omega⟩;refine bH (FRs _ _) (mdD cs) ⟨.aV,rfl,rfl⟩ ?_ ?_
 . rintro d hd _⟨s,rfl,hs⟩;obtain⟨j,hj,rfl⟩:=mem_map.mp hd;simp[hs,show cs.length<=16777216 by omega];refine gk (FRi _ _ _) (gK j) ⟨.aV,.aV,rfl,rfl,rfl⟩ ?_ ?_
   . rintro d hd _⟨s,t,rfl,hs,ht⟩;obtain⟨c,_,rfl⟩:=mem_map.mp hd;have hin:cm .inn (.int (j:Int)) (.tup ((aO c.1).map D.int))=some (decide (j∈c.1)):=by rw[lD,nj];simp
     rw[Ow];by_cases z:j∈c.1;.simp[vU,hs,ht,hin,z];exact⟨_,_,rfl,rfl,rfl⟩
     .simp[vU,hs,ht,hin,z];exact⟨_,_,rfl,rfl,rfl⟩
   rintro _⟨s,t,rfl,hs,ht⟩;obtain⟨ns,h1,h2⟩:=Ju (k:=j) cs;rw[h1];simp[fK,h2,mdD,iK];exact⟨_,rfl,rfl⟩
 rintro _⟨s,rfl,hs⟩;have e:((List.range ws.length).map fun(k:Nat)=>D.int (k:Int)).map (mdD cs)=(Fp ws.length cs).map D.int:=by unfold Fp;rw[map_map,map_map];rfl
 rw[e];simp;exact k
inductive FRf(a0 a1:Sl)(ρ:List Sl):Prop where|mk(s:Sl)(t:Sl)(q0:ρ=[a0,a1,s,t])(q1:fr s=true)(q2:fr t=true)
theorem Gp{fs:List Int}(h:aW m ws)(hf:fs.length=ws.length)(hc:Rds m ws fs R0 cs)(hw:Within ws (Fp ws.length cs))(k:Q (.val (.bl true)) [.val false (aC m ws),.own true (cs.map vU)]):(run Γ w (n+3) 29 [.val false (aC m ws),.own true (cs.map vU)]).sat Q:=by
 have hn:=h.len;have hl:=hc.len;refine aH (d:=Zc) rfl rfl (by decide) ?_;symm;simp[Zc,show cs.length<=16777216 by omega];refine bH (FRf _ _) (fun _=>.bl true) ⟨.aV,.aV,rfl,rfl,rfl⟩ ?_ ?_;.rintro d hd _⟨s,t,rfl,hs,ht⟩;obtain⟨c,hcc,rfl⟩:=mem_map.mp hd;obtain⟨q1,q2,q3⟩:=hc.VJ c hcc;simp[vU,hs,ht];refine CQ h q3 q2 q1 ?_;simp;exact⟨_,_,rfl,rfl,rfl⟩
 rintro _⟨s,t,rfl,hs,ht⟩;have hm:∀l:List Ey,((l.map vU).map fun _=>D.bl true).mapM xP=some (l.map fun _=>true):=fun l=>by induction l with|nil=>rfl|cons a l ih=>rw[map_cons,map_cons,mapM_cons,ih];rfl
 obtain⟨bs,hb1,hb2⟩:∃bs,((cs.map vU).map fun _=>D.bl true).mapM xP=some bs/\bs.all id=true:=⟨_,hm cs,by simp⟩;generalize(cs.map vU).map (fun _=>D.bl true)=X at*;simp[hb1,hb2];apply aj;simp;refine oJ h (by omega) ?_;simp;refine qH (.inr ⟨false,rfl⟩) h pK fun b hb=>?_;have:b=true:=hb.mpr hw;subst this;simp;exact k
theorem Be{c:Int->Int}:∀{ws:List Wy}{as fs ls:List Int},as.length=ws.length->fs.length=ws.length->ls.length=ws.length->(∀(k:Nat)(a f l:Int),as[k]?=some a->fs[k]?=some f->ls[k]?=some l->a=f-l)->dot c ws as=dot c ws fs-dot c ws ls|[],_,_,_,_,_,_,_=>by simp[dot]|w::ws,[],_,_,h,_,_,_=>by simp at h|w::ws,_::_,[],_,_,h,_,_=>by simp at h|w::ws,_::_,_::_,[],_,_,h,_=>by simp at h|w::ws,a::as,f::fs,l::ls,h1,h2,h3,h=>by have e:=h 0 a f l rfl rfl rfl;have ih:=Be (c:=c) (ws:=ws) (as:=as) (fs:=fs) (ls:=ls) (by simpa using h1) (by simpa using h2) (by simpa using h3) fun k a f l e1 e2 e3=>h (k+1) a f l (by simpa using e1) (by simpa using e2) (by simpa using e3);simp only[dot,ih,e,Int.sub_mul];omega
theorem JC{k:Nat}:∀{cs:List Ey},(∀c∈cs,1<=c.2)->0<=zq cs k
 |[],_=>Int.le_refl _|c::cs,h=>by
   have h1:=h c (by simp);have h2:=JC (k:=k) (cs:=cs) fun d hd=>h d (by simp[hd]);have e:zq (c::cs) k=(if k∈c.1 then c.2 else 0)+zq cs k:=by simp[zq]
   rw[e];split<;>omega
theorem Cw{fs:List Int}(hf:fs.length=ws.length)(hb:∀(k:Nat)(v:Wy)(l:Int),ws[k]?=some v->fs[k]?=some l->0<=l/\l<=v.r)(hG:Goes m ws fs R0)(h:RI m ws fs R0 ls 0 cs):Goes m ws (Fp ws.length cs) R0/\Within ws (Fp ws.length cs):=by
 refine⟨⟨hG.1,fun c=>?_⟩,fun k v a e1 e2=>?_⟩;.rw[Be pK hf h.len fun k a f l e1 e2 e3=>by rw[Gz e1];have:=h.mka k f l e2 e3;omega,hG.2,h.go.2];simp
 . have hk:=(cV e1).1;have hk2:k<fs.length:=by rw[hf];exact hk
   have hk3:k<ls.length:=by rw[h.len];exact hk
   have e3:fs[k]?=some fs[k]:=by simp[hk2]
   have e4:ls[k]?=some ls[k]:=by simp[hk3]
   have q1:=h.mka k _ _ e3 e4;have q2:=h.nn k v _ e1 e4;have q3:=hb k v _ e1 e3;have q4:=JC (k:=k) fun c hc=>(h.VJ c hc).1;rw[Gz e2];omega
theorem GD:∀{S:List Int},S.Pairwise (·<·)->uX S=true|[],_=>rfl|[_],_=>rfl|a::b::r,h=>by obtain⟨h1,h2⟩:=List.pairwise_cons.mp h;rw[uX,GD h2,Bool.and_true,decide_eq_true_eq];exact h1 b (by simp)
theorem Dl{S ks:List Int}(hs:zH (ks.map D.int)=S.map D.int)(hp:S.Perm ks)(hn:ks.Nodup)(h0:0∈ks)(hk:∀p∈ks,0<=p/\p<m-1):sO m S=true:=by
 have hle:S.Pairwise (·<=·):=by have:=qw (ks.map D.int);rw[hs,List.pairwise_map]at this;refine this.imp fun{a b}z=>?_;simp only[nC,nP,cY,not_eq_true']at z;simp at z;omega
 have hlt:S.Pairwise (·<·):=by refine(hle.and (hp.nodup_iff.mpr hn)).imp fun{a b}⟨h1,h2⟩=>?_;omega
 have hr:=GD hlt;have hin:∀p∈S,0<=p/\p<m-1:=fun p z=>hk p (hp.mem_iff.mp z);cases S with|nil=>exact absurd (hp.mem_iff.mpr h0) (by simp)|cons a r=>
   have ha:a=0:=by
    have h1:=hin a (by simp);rcases mem_cons.mp (hp.mem_iff.mpr h0)with z|z;.exact z.symm
    .have:=(List.pairwise_cons.mp hle).1 0 z;omega
   have hl:=hin _ (List.getLast_mem (l:=a::r) (by simp));subst ha;simp only[sO,hr,Bool.true_and,decide_true];simpa using hl.2
theorem zc{fs:List Int}(h:aW m ws)(hl:fs.length=ws.length)(hw:Within ws fs)(hg:Goes m ws fs r):yX m ws fs/\over 0 ws fs=r:=by
 have m0:=h.m0;have d0:over 0 ws fs=r:=by have:=hg.2 fun x=>if x=0 then 1 else 0;rw[eO]at this;unfold over;rw[this];simp[show ¬ m-1=0 by omega]
 refine⟨⟨hl,hw,by rw[d0];exact hg.1,fun p p1 p2=>?_⟩,d0⟩;have:=hg.2 fun x=>if x=p then 1 else 0;rw[eO]at this;unfold over;rw[this];simp[show ¬(0:Int)=p by omega,show ¬ m-1=p by omega]
theorem Xu{u:Wy}(h:(ws.map Wy.z)[k]?=some u):∃v,ws[k]?=some v/\u=v.z:=by rw[getElem?_map]at h;obtain⟨v,e,rfl⟩:=map_eq_some_iff.mp h;exact⟨v,e,rfl⟩
theorem Al{c:Int->Int}{x b:Int}{ws:List Wy}:∀{ch:List aU}{fs:List Int}{a:Int},fs.length=ws.length->Nh (ws.map Wy.z) b ch a->dot c ws (aug x fs ch)=dot c ws fs+x*(c a-c b)
 |[],fs,a,_,h=>by have:a=b:=h;subst this;show dot c ws fs=_;simp|s::ch,fs,a,hl,⟨u,h1,h2,h3⟩=>by
   obtain⟨v,hv,rfl⟩:=Xu h1;have hk:=(cV hv).1;have e:fs[s.1]?=some fs[s.1]:=by simp[hl,hk]
   show dot c ws (aug x (jn x fs s) ch)=_;rw[Al (by simp[hl]) h3];have:jn x fs s=fs.set s.1 (fs[s.1]+sg x s.2):=by unfold jn;rw[e];rfl
   rw[this,pP hv e];have h4:x*(c a-c b)=x*(c a-c (too v.z s.2))+x*(c (too v.z s.2)-c b):=by rw[<-mul_add];congr 1;omega
   have h5:sg x s.2*(c v.s-c v.t)=x*(c a-c (too v.z s.2)):=by rw[<-h2];cases s.2 with|true=>rfl|false=>show-x*(c v.s-c v.t)=x*(c v.t-c v.s);rw[Int.neg_mul,<-Int.mul_neg];congr 1;omega
   omega
def Yh(m:Int)(ws:List Wy)(fs:List Int):Prop:=(∀(k:Nat)(v:Wy)(l:Int),ws[k]?=some v->fs[k]?=some l->0<=l/\l<=v.r)/\∃r,Goes m ws fs r
theorem WD(h:aW m ws):Yh m ws (replicate ws.length 0):=by
 refine⟨fun k v l e1 e2=>?_,0,Int.le_refl _,fun c=>by rw[qy];simp⟩;have:=(h.ok v (mem_of_getElem? e1)).r0;rw[getElem?_replicate]at e2;split at e2;.cases e2;omega
 .cases e2
theorem Wi{fs:List Int}{c:List aU}(h:Yh m ws fs)(hl:fs.length=ws.length)(hp:Nh (ws.map Wy.z) (m-1) c 0)(hn:(c.map (·.1)).Nodup)(x0:0<x)(hc:∀s∈c,∃v g,(ws.map Wy.z)[s.1]?=some v/\fs[s.1]?=some g/\x<=tL v g s.2):Yh m ws (aug x fs c):=by
 obtain⟨r,r0,hr⟩:=h.2;refine⟨fun k v l e1 e2=>?_,r+x,by omega,fun d=>by rw[Al hl hp,hr,add_mul]⟩;by_cases z:k∈c.map (·.1);.obtain⟨s,hs,rfl⟩:=mem_map.mp z;obtain⟨u,g,u1,u2,u3⟩:=hc s hs;obtain⟨v',v1,rfl⟩:=Xu u1;rw[e1]at v1;cases v1;rw[uV hn hs u2]at e2;cases e2;have:=h.1 _ _ _ e1 u2;revert u3;cases s.2 with|true=>intro u3;have u4:x<=v.r-g:=u3;show 0<=g+x/\g+x<=v.r;omega|false=>intro u3;have u4:x<=g:=u3;show 0<=g+-x/\g+-x<=v.r;omega
 .rw[j7 z]at e2;exact h.1 k v l e1 e2
inductive F2q(a0 a1 a2 a3 a4 a5:Sl)(ρ:List Sl):Prop where|mk(s:Sl)(t:Sl)(q0:ρ=[a0,a1,a2,a3,a4,a5,s,t])(q1:fr s=true)(q2:fr t=true)
def ldD:D->D|.tup [_,x]=>x|d=>d
@[simp]theorem afu{a b:D}:ldD (.tup [a,b])=b:=rfl
theorem Sd:(cs.map vU).map ldD=(cs.map (·.2)).map D.int:=by rw[map_map,map_map];rfl
theorem Kq{fs:List Int}(hc:qJ m ws fs es)(hne:¬ ∃l o,(m-1,l,o)∈es):∀p∈es.map (·.1),0<=p/\p<m-1:=fun p hp=>by
 obtain⟨⟨q,l,o⟩,h,rfl⟩:=mem_map.mp hp;have:=hc.cm.inm q l o h;refine⟨this.1,?_⟩;by_cases z:q=m-1;.subst z;exact absurd ⟨l,o,h⟩ hne
 .show q<m-1;omega
theorem pJ{fs:List Int}(m0:2<=m)(hg:Goes m ws fs r):dot (fun x=>if x=0 then 1 else 0) ws fs=r:=by rw[hg.2];simp[show ¬ m-1=0 by omega]
theorem yV(hw:50000000<=w)(h:aW m ws)(k:Q (.val (.bl true)) [.val false (aC m ws)]):(run Γ w (n+6) 45 [.val false (aC m ws)]).sat Q:=by
 have hn:=h.len;have m0:=h.m0;refine aH (d:=f45) rfl rfl (by decide) ?_;symm;simp[f45];refine oH (Yh m ws) (by omega) h (WD h) (fun fs c x q1 q2 q3 q4 q5 q6=>Wi q1 q2 q3 q4 q5 q6) fun fs es S hf hI hc hne hs hp=>?_;obtain⟨r,hG⟩:=hI.2;rw[pJ m0 hG];simp[lR];apply aj;simp;refine zB (.inl rfl) hw h hf hI.1 hG fun ls r' cs hR hr'=>?_;subst hr';have hRd:=hR.adU hf;have hcl:=hRd.len;obtain⟨g1,g2⟩:=Cw hf hI.1 hG hR;obtain⟨g3,g4⟩:=zc h pK g2 g1;obtain⟨c1,c2⟩:=xJ hI.1 hf hG hc hne hp;have hsd:=Dl hs hp hc.cm.nd (mem_map.mpr ⟨_,hc.cm.z,rfl⟩) (Kq hc hne);have hSl:S.length<=60:=by have:=hc.cm.len h.m1;rw[hp.length_eq,length_map];omega
 simp;apply aj;simp;refine Gp h hf hRd g2 ?_;simp[show cm .JV (.bl true) (.bl true)=some false from rfl,show cs.length<=16777216 by omega];refine bH (F2q _ _ _ _ _ _) ldD ⟨.aV,.aV,rfl,rfl,rfl⟩ ?_ ?_;.rintro d hd _⟨s,t,rfl,hs,ht⟩;obtain⟨c,_,rfl⟩:=mem_map.mp hd;simp[hs,ht,vU];exact⟨_,_,rfl,rfl,rfl⟩
 rintro _⟨s,t,rfl,hs,ht⟩;rw[Sd];have hsum:=hRd.sum;generalize cs.map (·.2)=ns at*;simp[fK,hsum];apply aj;simp;refine oJ h (by omega) ?_;simp;apply aj;simp;refine iJ (.inr ⟨true,rfl⟩) h pK ?_;rw[pJ m0 g1];simp;refine HX (r:=r) (fs:=Fp ws.length cs) (S:=S) h hSl fun b hb=>?_;have:b=true:=hb.mpr ⟨g3,hsd,g4,c2⟩;subst this;simp[show cm .Yz (.bl true) (.bl true)=some true from rfl];exact k
theorem qx(hw:1000<=w)(h:aW m ws)(k:∀q fs S,Lst m ws q->Q (.val (lR q fs S)) [.val false (aC m ws)]):(run Γ w (n+5) 33 [.val false (aC m ws)]).sat Q:=by refine oH (Yh m ws) hw h (WD h) (fun fs c x q1 q2 q3 q4 q5 q6=>Wi q1 q2 q3 q4 q5 q6) fun fs es S hf hI hc hne hs hp=>?_;obtain⟨r,hG⟩:=hI.2;rw[pJ h.m0 hG];exact k r fs S (Gi hI.1 hf hG hc hne hp)
inductive J27(v:Sl)(r:List D)(ρ:List Sl):Prop where|mk(s1:Sl)(s2:Sl)(s3:Sl)(s4:Sl)(s5:Sl)(s6:Sl)(s7:Sl)(s8:Sl)(q0:ρ=[v,s1,s2,s3,s4,s5,s6,s7,s8])(q1:A8 (fr s1=true) (fr s2=true) (fr s3=true) (fr s4=true) (fr s5=true) (fr s6=true) (fr s7=true) (fr s8=true))(q2:∀d∈r,∃i,d=D.int i)
inductive F27(y:Int)(a0 a1 a3 a4 a5 a6 a7 a8:Sl)(ρ:List Sl):Prop where|mk(x z:Int)(s:Sl)(q0:ρ=[a0,a1,.own false [.int x,.int y,.int z],a3,a4,a5,a6,a7,a8,s])(q1:fr s=true)
inductive K27(m:Int)(ws:List Wy)(a0 a1 a2 a3 a4:Sl)(r:List D)(ρ:List Sl):Prop where|mk(s5:Sl)(s6:Sl)(s7:Sl)(s8:Sl)(q0:ρ=[a0,a1,a2,a3,a4,s5,s6,s7,s8])(q1:A4 (fr s5=true) (fr s6=true) (fr s7=true) (fr s8=true))(q2:∀d∈r,Cz m ws d)
def WQ(q:Int)(d:D):Prop:=∃i,d=.int i/\i<=q
theorem Ce{q:Int}:∀{xs:List D},(∀x∈xs,WQ q x)->∃ns:List Int,xs=ns.map D.int/\∀i∈ns,i<=q|[],_=>⟨[],rfl,by simp⟩|x::xs,h=>by obtain⟨i,rfl,h1⟩:=h x (by simp);obtain⟨ns,rfl,h2⟩:=Ce (q:=q) (xs:=xs) fun y hy=>h y (by simp[hy]);exact⟨i::ns,rfl,by simpa using⟨h1,h2⟩⟩
theorem uc{c:Call}{is:List Nat}{one:Bool}{elt:P}(J:List Sl->Prop)(P:D->Prop){Q:List D->List Sl->Prop}{ρ:List Sl}(j:J ρ)(h:∀d,d∈ds->∀ρ,J ρ->∃ρ1,cH ρ is one d=some ρ1/\(ev c elt ρ1).sat fun r ρ3=>P r.d/\J ρ3)(k:∀xs ρ,J ρ->xs.length=ds.length->(∀x∈xs,P x)->Q xs ρ):(jA c is one none elt ds ρ).sat Q:=by suffices hh:∀(ds:List D)(acc:List D)(ρ:List Sl),J ρ->(∀x∈acc,P x)->(∀d,d∈ds->∀ρ,J ρ->∃ρ1,cH ρ is one d=some ρ1/\(ev c elt ρ1).sat fun r ρ3=>P r.d/\J ρ3)->(turns is one (kI c none) (ev c elt) ds acc ρ).sat fun xs ρ=>J ρ/\(∀x∈xs,P x)/\xs.length=acc.length+ds.length from(hh ds [] ρ j (by simp) h).imp fun xs ρ⟨q1,q2,q3⟩=>k xs ρ q1 (by simpa using q3) q2;intro ds;induction ds with|nil=>intro acc ρ j ha _;exact⟨j,ha,by simp⟩|cons d ds ih=>
   intro acc ρ j ha h;obtain⟨ρ1,e1,h1⟩:=h d (by simp) ρ j;rw[turns,e1];show((kI c none ρ1).bind _).sat _;rw[kI];show((ev c elt ρ1).bind _).sat _;rw[bO];refine h1.imp fun r ρ3⟨e2,j3⟩=>?_;refine(ih (acc++[r.d]) ρ3 j3 (fun x hx=>?_) fun d' hd'=>h d' (by simp[hd'])).imp fun xs ρ4⟨q1,q2,q3⟩=>⟨q1,q2,by simp at q3 ⊢;omega⟩;rcases mem_append.mp hx with hx|hx;.exact ha x hx
   .rw[mem_singleton.mp hx];exact e2
theorem max_le{ns:List Int}{q:Int}(hne:ns≠[])(h:∀i∈ns,i<=q):∃i,ns.max?=some i/\i<=q:=by cases e:ns.max? with|none=>rw[List.max?_eq_none_iff]at e;exact absurd e hne|some i=>have:=List.max?_eq_some_iff.mp e;exact⟨i,rfl,h i this.1⟩
theorem Ml(ns:List Int)(hn:ns.length<=63):∃as,run Γ 100000000 40 47 [.val false (.lst (ns.map D.int))]=.ok (.val (.bl true)) as:=by
 suffices h:(run Γ 100000000 40 47 [.val false (.lst (ns.map D.int))]).sat fun r _=>r=.val (.bl true)by obtain⟨a,ρ,e,rfl⟩:=sat_iff.mp h;exact⟨ρ,e⟩
 obtain⟨w,hw⟩:∃w,w=100000000:=⟨_,rfl⟩;rw[<-hw];refine aH (d:=f47) rfl rfl (by decide) ?_;symm;have hl:1+ns.length<=lim:=by show _<=16777216;omega
 simp[f47,hl];refine cu (J27 (.val false (.lst (ns.map D.int)))) ?_ ?_ ?_
 . rintro d r _⟨s1,s2,s3,s4,s5,s6,s7,s8,rfl,⟨h1,h2,h3,h4,h5,h6,h7,h8⟩,hd⟩;obtain⟨x,rfl⟩:=hd d (by simp);simp[h1];apply aj;simp;refine Hx fun a b c=>?_;simp[h2];apply aj;simp;refine Mj fun m ws a c hk=>?_;have hwl:=hk.len;simp[h3];apply aj;simp;refine qx (by omega) hk fun q fs S hq=>?_;simp[lR,h4];apply aj;simp;refine tQ hk fun q2 hq2=>?_;have:=hq.uniq hq2;subst this;simp;refine qM (by omega) ?_;simp;refine qx (by omega) (p8 hk) fun q3 fs3 S3 hq3=>?_;have:=(hq.turn hk).uniq hq3;subst this;simp[lR];refine yV (by omega) hk ?_;simp;apply aj;simp;refine⟨fun _=>?_,by decide⟩;refine uc (F27 b _ _ _ _ _ _ _ _) (WQ q) ⟨a,c,.aV,rfl,rfl⟩ ?_ ?_;.rintro d hd _⟨x,z,s,rfl,hs⟩;simp[hs];refine zG hk fun gs x z hg=>?_;obtain⟨r1,hG⟩:=hg.2.2.2;simp;refine iJ (.inr ⟨false,rfl⟩) hk hg.1 ?_;rw[pJ hk.m0 hG];simp;obtain⟨T,t1,t2⟩:=hq.ex;exact⟨⟨r1,rfl,by rw[<-t2];exact Ci hg.2.1 hg.1 hG t1⟩,_,_,_,rfl,rfl⟩
   rintro xs _⟨a,c,s,rfl,hs⟩YM hx;obtain⟨is,rfl,hi⟩:=Ce hx;obtain⟨i,hi1,hi2⟩:=max_le (ns:=is) (by rintro rfl;simp at YM) hi;simp[fK,hi1,show ¬ q<i by omega];apply aj;simp;refine yG hk fun ds x z hds=>?_;simp;refine cu (K27 m ws _ _ _ _ _) ?_ ?_ ⟨s5,s6,s7,s8,rfl,⟨h5,h6,h7,h8⟩,hds⟩;.rintro d r _⟨s5,s6,s7,s8,rfl,⟨h5,h6,h7,h8⟩,hds⟩;obtain⟨us,α,β,rfl,ho,o1,o2⟩:=hds d (by simp);simp[h5,h6,h7];apply aj;simp;refine qx (by omega) ho fun p gs T hp=>?_;have hnr:=hq.near hp o1 o2;simp[lR,h8];apply aj;simp;refine tQ ho fun p2 hp2=>?_;have:=hp.uniq hp2;subst this;simp[hnr.1,hnr.2];exact⟨_,_,_,_,rfl,⟨rfl,rfl,rfl,rfl⟩,fun d h=>hds d (mem_cons_of_mem _ h)⟩
   .rintro _⟨s5,s6,s7,s8,rfl,⟨h5,h6,h7,h8⟩,_⟩;simp;exact⟨_,_,_,_,_,_,_,_,rfl,⟨rfl,rfl,rfl,rfl,h5,h6,h7,h8⟩,fun d h=>hd d (mem_cons_of_mem _ h)⟩
 .rintro _⟨s1,s2,s3,s4,s5,s6,s7,s8,rfl,_,hd⟩;symm;simp
 . refine⟨_,_,_,_,_,_,_,_,rfl,⟨rfl,rfl,rfl,rfl,rfl,rfl,rfl,rfl⟩,fun d hd=>?_⟩;simp at hd;rcases hd with rfl|⟨i,_,rfl⟩;.exact⟨_,rfl⟩
   .exact⟨_,rfl⟩
end T
end
structure PySem.W.Fast:Prop where(tw14006595085598544656 tw8940962476573640508 tw6122738499829009618 tw5603085499561802133 tw15826898390569517034 tw9752039459303856143 tw6185317456229240566 tw5227609704731261760 tw2507731930227342120 tw10358677256910353799 tw14396549352670053929 tw2020692897967505220 tw16971255108240166869 tw9818238217578574684 tw8674231397937474808 tw18236248817430982265 tw14772633557291911804 tw6022324750009032117 tw15681669535424137808 tw7154556091030750520 tw2260133188465846185 tw2746382767554259940 tw11837249075504008566 tw11793028673128251091 tw1884117438979514956 tw10974600922208263620 tw9255044365290074641 tw15049543558327140440 tw428843115061588477 tw6259594618544678224 tw9671363528469379843 tw4668348148396609163 tw11510432689607098705 tw10365033801474695375 tw6048508269183955118 tw15443075010679536364 tw1678620759814491946 tw4135240559698313432 tw2171401893282530415 tw4655285849785403951 tw17208697182687731139 tw10525956752542722499 tw10205473795252577787 tw8269099300026490259 tw7821725416851611407 tw10318618478407617365 tw17915279873611298889 tw1727805696406012411 tw14237975324715156603 tw2384990402443916437 tw7352383696835435783 tw17864047618994895785 tw9870624113623157480 tw6793572664308369687 tw17550108730764116983 tw2091184601137769159 tw10786252350836737748 tw6380046141042733456 tw11840498011195336210 tw10990960006391691389 tw14819891234841476809 tw16108732665730913987 tw6171335605665691262 tw16228993894151441323 tw14794223699955758788 tw10300448760055636996 tw5936226791808297060 tw4295573212821018761 tw2896023649916599188 tw108871747575204535 tw2991146864485991352 tw11841769695390202986 tw14820692115408406210 tw8360114729337887979 tw9488857373609638693 tw3302428435114223158 tw16443326314390862860 tw5824375155203090967 tw14360433196429569312 tw15619268420119716386 tw7032294266607193809 tw3604961101436287298 tw11689229277833658505 tw1861464577179804697 tw9528595485660378969 tw14717730641007462067 tw5496341728181938955 tw15033010137290485813 tw5194575129856629553 tw8155431252033889258 tw11309402797615709837 tw15344111143799967057 tw4889530412849413036 tw6410080032956859281 tw18081677644719987690 tw13845275038250764904 tw6866301852865218529 tw8410055116107126492 tw1996370060019587274 tw564276997184651381 tw10578414972614562320 tw15050592625614545962 tw17146982611755841313 tw1178450151889218902 tw579738015637980676 tw7172706322282704527 tw3082369640735693933 tw5440915407521258004 tw1350843033704949206 tw16149661308492941747 tw196115295805877649 tw10111225794571184842 tw7665108361354044059 tw15831164036345210551 tw16181995268498475678 tw15271429419116766040 tw15817004168541772575 tw1882787409774884967 tw2317987132255986121 tw10446242253055622742 tw7336172321356049088 tw12344114814798133919 tw10536321290454014064 tw3136721732807518730 tw11431393144035125446 tw9261404994573129077 tw6991897388223246229 tw3343050656189183971 tw8553539302721618449 tw16661413312259686038 tw9837491656170927023 tw6188139646052396832 tw3181322309984994994 tw7603598676632339808 tw8848234324927573666 tw4304442895570083330 tw15021738279781498740 tw7987869529265503631 tw8544079953566721450 tw494551525915891555 tw5523423052921566327 tw2534505453909528625 tw5831426434842185229 tw16855241657467305401 tw7556761158612058279 tw9605005713993175155 tw5238865155309384679 tw6763963768783246499 tw12644537832523694015 tw16695463954641050893 tw7741292105301049247 tw1902278266349509226 tw1855736712854914049 tw5245314981717959467 tw6088663854412545322 tw3009260616042968069 tw651048101118941480:True)
namespace T
open PySem L2 PySem.Spec PyProof.Rows HH
theorem Xa{P:List Value → Prop}{n:Nat}(h:∀(a:Value)(us:List Value),us.length=n → P (a::us))(us:List Value)(hl:us.length=n+1):P us:=by cases us with|nil=>cases hl|cons a us=>exact h a us (Nat.succ.inj hl)
theorem lk0{P:List Value → Prop}(h:P [])(us:List Value)(hl:us.length=0):P us:=by cases us with|nil=>exact h|cons a us=>cases hl
theorem rR{P:List Value → Prop}(h:∀a,P [a]):∀us:List Value,us.length=1 → P us:=Xa fun a=>lk0 (h a)
theorem dY{P:List Value → Prop}(h:∀a b,P [a,b]):∀us:List Value,us.length=2 → P us:=Xa fun a=>rR (h a)
theorem wG{P:List Value → Prop}(h:∀a b c,P [a,b,c]):∀us:List Value,us.length=3 → P us:=Xa fun a=>dY (h a)
theorem lk4{P:List Value → Prop}(h:∀a b c d,P [a,b,c,d]):∀us:List Value,us.length=4 → P us:=Xa fun a=>wG (h a)
theorem lk5{P:List Value → Prop}(h:∀a b c d e,P [a,b,c,d,e]):∀us:List Value,us.length=5 → P us:=Xa fun a=>lk4 (h a)
local macro_rules|`(term|‹$p›)=>`(fun _ _ _ _ _ _=>$p)
structure Txt(K:PySem.W.Frag):Prop where
 D0:bu K "step_places" s0
 D1:bu K "step_hours" s1
 D2:bu K "step_room" s2
 D3:bu K "open_steps" s3
 D4:bu K "shortest_come" s4
 D5:bu K "steps_to" s5
 D6:bu K "stream_with" s6
 D7:bu K "chains_to_end" s7
 D8:bu K "is_rising" s8
 D9:bu K "ways_out" s9
 D10:bu K "ways_in" j4
 D11:bu K "known_way" ZW
 D12:bu K "put_way" s12
 D13:bu K "less_way" s13
 D14:bu K "with_room" s14
 D15:bu K "turned_net" s15
 D16:bu K "hours_from" s16
 D17:bu K "hours_to" s17
 D18:bu K "is_soonest_step" s18
 D19:bu K "soonest_walk" s19
 D20:bu K "walk_places" s20
 D21:bu K "stays_at" s21
 D22:bu K "stream_rate" s22
 D23:bu K "within_rooms" s23
 D24:bu K "stream_right" s24
 D25:bu K "side_right" s25
 D26:bu K "side_room" s26
 D27:bu K "is_round" s27
 D28:bu K "rounds_stream" s28
 D29:bu K "rounds_fit" s29
 D30:bu K "with_rooms" s30
 D31:bu K "stream_rounds" s31
 D32:bu K "hourless_net" s32
 D33:bu K "fullest_stream" s33
 D34:bu K "fullest_right" s34
 D35:bu K "_law_pool" s35
 D36:bu K "_law_next" s36
 D37:bu K "_law_wide" s37
 D38:bu K "_law_way" s38
 D39:bu K "_law_net" s39
 D40:bu K "_law_trail" s40
 D41:bu K "_law_stream" s41
 D42:bu K "_law_sides" s42
 D43:bu K "_law_side_room" s43
 D44:bu K "_law_least" s44
 D45:bu K "_law_rounds_right" s45
 D46:bu K "_law_others" s46
 D47:bu K "law" s47
 ju:PySem.W.nsIn K mainGlobals "all"=some none
 dM:PySem.W.nsIn K mainGlobals "enumerate"=some none
 bL:PySem.W.nsIn K mainGlobals "len"=some none
 eZ:PySem.W.nsIn K mainGlobals "list"=some none
 rP:PySem.W.nsIn K mainGlobals "max"=some none
 gO:PySem.W.nsIn K mainGlobals "min"=some none
 bj:PySem.W.nsIn K mainGlobals "range"=some none
 fc:PySem.W.nsIn K mainGlobals "reversed"=some none
 rM:PySem.W.nsIn K mainGlobals "sorted"=some none
 iU:PySem.W.nsIn K mainGlobals "sum"=some none
 bA:PySem.W.nsIn K mainGlobals "tuple"=some none
 mZ:PySem.W.nsIn K mainGlobals "zip"=some none
 jW:∃t,PySem.W.nsIn K mainGlobals "MOST_WAYS"=some (some (Value.int 12 t))
noncomputable def fX{K:PySem.W.Frag}(T:Txt K):Nat->Addr:=fun k=>0
structure Oks(Pg:Program)(w:World)(K:PySem.W.Frag)(mg:Str->Option Value)(base:Heap)(cl:Nat->Addr)(n:Nat):Prop where
 c0:aQ Pg w K mg base n (run Γ 100000000 n) 0 "step_places" 2
 c1:aQ Pg w K mg base n (run Γ 100000000 n) 1 "step_hours" 2
 c2:aQ Pg w K mg base n (run Γ 100000000 n) 2 "step_room" 3
 c3:aQ Pg w K mg base n (run Γ 100000000 n) 3 "open_steps" 2
 c4:aQ Pg w K mg base n (run Γ 100000000 n) 4 "shortest_come" 3
 c5:aQ Pg w K mg base n (run Γ 100000000 n) 5 "steps_to" 3
 c6:aQ Pg w K mg base n (run Γ 100000000 n) 6 "stream_with" 3
 c7:aQ Pg w K mg base n (run Γ 100000000 n) 7 "chains_to_end" 1
 c8:aQ Pg w K mg base n (run Γ 100000000 n) 8 "is_rising" 1
 c9:aQ Pg w K mg base n (run Γ 100000000 n) 9 "ways_out" 2
 c10:aQ Pg w K mg base n (run Γ 100000000 n) 10 "ways_in" 2
 c11:aQ Pg w K mg base n (run Γ 100000000 n) 11 "known_way" 2
 c12:aQ Pg w K mg base n (run Γ 100000000 n) 12 "put_way" 2
 c13:aQ Pg w K mg base n (run Γ 100000000 n) 13 "less_way" 2
 c14:aQ Pg w K mg base n (run Γ 100000000 n) 14 "with_room" 3
 Y5:aQ Pg w K mg base n (run Γ 100000000 n) 15 "turned_net" 1
 c16:aQ Pg w K mg base n (run Γ 100000000 n) 16 "hours_from" 2
 c17:aQ Pg w K mg base n (run Γ 100000000 n) 17 "hours_to" 2
 c18:aQ Pg w K mg base n (run Γ 100000000 n) 18 "is_soonest_step" 2
 c19:aQ Pg w K mg base n (run Γ 100000000 n) 19 "soonest_walk" 2
 c20:aQ Pg w K mg base n (run Γ 100000000 n) 20 "walk_places" 2
 c21:aQ Pg w K mg base n (run Γ 100000000 n) 21 "stays_at" 3
 N7:aQ Pg w K mg base n (run Γ 100000000 n) 22 "stream_rate" 2
 c23:aQ Pg w K mg base n (run Γ 100000000 n) 23 "within_rooms" 2
 c24:aQ Pg w K mg base n (run Γ 100000000 n) 24 "stream_right" 2
 c25:aQ Pg w K mg base n (run Γ 100000000 n) 25 "side_right" 2
 c26:aQ Pg w K mg base n (run Γ 100000000 n) 26 "side_room" 2
 c27:aQ Pg w K mg base n (run Γ 100000000 n) 27 "is_round" 3
 c28:aQ Pg w K mg base n (run Γ 100000000 n) 28 "rounds_stream" 2
 c29:aQ Pg w K mg base n (run Γ 100000000 n) 29 "rounds_fit" 2
 c30:aQ Pg w K mg base n (run Γ 100000000 n) 30 "with_rooms" 2
 c31:aQ Pg w K mg base n (run Γ 100000000 n) 31 "stream_rounds" 2
 c32:aQ Pg w K mg base n (run Γ 100000000 n) 32 "hourless_net" 1
 Y6:aQ Pg w K mg base n (run Γ 100000000 n) 33 "fullest_stream" 1
 c34:aQ Pg w K mg base n (run Γ 100000000 n) 34 "fullest_right" 2
 c35:aQ Pg w K mg base n (run Γ 100000000 n) 35 "_law_pool" 1
 Pz:aQ Pg w K mg base n (run Γ 100000000 n) 36 "_law_next" 2
 c37:aQ Pg w K mg base n (run Γ 100000000 n) 37 "_law_wide" 2
 c38:aQ Pg w K mg base n (run Γ 100000000 n) 38 "_law_way" 4
 c39:aQ Pg w K mg base n (run Γ 100000000 n) 39 "_law_net" 3
 c40:aQ Pg w K mg base n (run Γ 100000000 n) 40 "_law_trail" 5
 c41:aQ Pg w K mg base n (run Γ 100000000 n) 41 "_law_stream" 2
 c42:aQ Pg w K mg base n (run Γ 100000000 n) 42 "_law_sides" 1
 c43:aQ Pg w K mg base n (run Γ 100000000 n) 43 "_law_side_room" 2
 c44:aQ Pg w K mg base n (run Γ 100000000 n) 44 "_law_least" 1
 c45:aQ Pg w K mg base n (run Γ 100000000 n) 45 "_law_rounds_right" 1
 c46:aQ Pg w K mg base n (run Γ 100000000 n) 46 "_law_others" 2
 c47:aQ Pg w K mg base n (run Γ 100000000 n) 47 "law" 1
set_option maxHeartbeats 0 in
theorem Hd{Pg:Program}{w:World}{K:PySem.W.Frag}{mg:Str->Option Value}{base:Heap}(T:Txt K)(X:K.In base)(G:base.Ns mainGlobals mg):∀n,Oks Pg w K mg base (fX T) n
 |0=>{
   c0:=bC (ps:=["net","step"]) X G T.D0 rfl ‹dY fun _ _=>rfl›
   c1:=bC (ps:=["net","step"]) X G T.D1 rfl ‹dY fun _ _=>rfl›
   c2:=bC (ps:=["net","stream","step"]) X G T.D2 rfl ‹wG fun _ _ _=>rfl›
   c3:=bC (ps:=["net","stream"]) X G T.D3 rfl ‹dY fun _ _=>rfl›
   c4:=bC (ps:=["net","stream","begun"]) X G T.D4 rfl ‹wG fun _ _ _=>rfl›
   c5:=bC (ps:=["net","come","place"]) X G T.D5 rfl ‹wG fun _ _ _=>rfl›
   c6:=bC (ps:=["stream","steps","loads"]) X G T.D6 rfl ‹wG fun _ _ _=>rfl›
   c7:=bC (ps:=["net"]) X G T.D7 rfl ‹rR fun _=>rfl›
   c8:=bC (ps:=["things"]) X G T.D8 rfl ‹rR fun _=>rfl›
   c9:=bC (ps:=["net","place"]) X G T.D9 rfl ‹dY fun _ _=>rfl›
   c10:=bC (ps:=["net","place"]) X G T.D10 rfl ‹dY fun _ _=>rfl›
   c11:=bC (ps:=["net","number"]) X G T.D11 rfl ‹dY fun _ _=>rfl›
   c12:=bC (ps:=["net","way"]) X G T.D12 rfl ‹dY fun _ _=>rfl›
   c13:=bC (ps:=["net","number"]) X G T.D13 rfl ‹dY fun _ _=>rfl›
   c14:=bC (ps:=["net","number","room"]) X G T.D14 rfl ‹wG fun _ _ _=>rfl›
   Y5:=bC (ps:=["net"]) X G T.D15 rfl ‹rR fun _=>rfl›
   c16:=bC (ps:=["net","start"]) X G T.D16 rfl ‹dY fun _ _=>rfl›
   c17:=bC (ps:=["net","place"]) X G T.D17 rfl ‹dY fun _ _=>rfl›
   c18:=bC (ps:=["way","left"]) X G T.D18 rfl ‹dY fun _ _=>rfl›
   c19:=bC (ps:=["net","place"]) X G T.D19 rfl ‹dY fun _ _=>rfl›
   c20:=bC (ps:=["net","walk"]) X G T.D20 rfl ‹dY fun _ _=>rfl›
   c21:=bC (ps:=["net","stream","place"]) X G T.D21 rfl ‹wG fun _ _ _=>rfl›
   N7:=bC (ps:=["net","stream"]) X G T.D22 rfl ‹dY fun _ _=>rfl›
   c23:=bC (ps:=["net","stream"]) X G T.D23 rfl ‹dY fun _ _=>rfl›
   c24:=bC (ps:=["net","stream"]) X G T.D24 rfl ‹dY fun _ _=>rfl›
   c25:=bC (ps:=["net","side"]) X G T.D25 rfl ‹dY fun _ _=>rfl›
   c26:=bC (ps:=["net","side"]) X G T.D26 rfl ‹dY fun _ _=>rfl›
   c27:=bC (ps:=["net","walk","loads"]) X G T.D27 rfl ‹wG fun _ _ _=>rfl›
   c28:=bC (ps:=["net","rounds"]) X G T.D28 rfl ‹dY fun _ _=>rfl›
   c29:=bC (ps:=["net","rounds"]) X G T.D29 rfl ‹dY fun _ _=>rfl›
   c30:=bC (ps:=["net","rooms"]) X G T.D30 rfl ‹dY fun _ _=>rfl›
   c31:=bC (ps:=["net","stream"]) X G T.D31 rfl ‹dY fun _ _=>rfl›
   c32:=bC (ps:=["net"]) X G T.D32 rfl ‹rR fun _=>rfl›
   Y6:=bC (ps:=["net"]) X G T.D33 rfl ‹rR fun _=>rfl›
   c34:=bC (ps:=["net","told"]) X G T.D34 rfl ‹dY fun _ _=>rfl›
   c35:=bC (ps:=["cell"]) X G T.D35 rfl ‹rR fun _=>rfl›
   Pz:=bC (ps:=["pool","base"]) X G T.D36 rfl ‹dY fun _ _=>rfl›
   c37:=bC (ps:=["pool","base"]) X G T.D37 rfl ‹dY fun _ _=>rfl›
   c38:=bC (ps:=["pool","many","most","longest"]) X G T.D38 rfl ‹lk4 fun _ _ _ _=>rfl›
   c39:=bC (ps:=["pool","places","count"]) X G T.D39 rfl ‹wG fun _ _ _=>rfl›
   c40:=bC (ps:=["pool","net","left","start","goal"]) X G T.D40 rfl ‹lk5 fun _ _ _ _ _=>rfl›
   c41:=bC (ps:=["pool","net"]) X G T.D41 rfl ‹dY fun _ _=>rfl›
   c42:=bC (ps:=["net"]) X G T.D42 rfl ‹rR fun _=>rfl›
   c43:=bC (ps:=["net","side"]) X G T.D43 rfl ‹dY fun _ _=>rfl›
   c44:=bC (ps:=["net"]) X G T.D44 rfl ‹rR fun _=>rfl›
   c45:=bC (ps:=["net"]) X G T.D45 rfl ‹rR fun _=>rfl›
   c46:=bC (ps:=["pool","net"]) X G T.D46 rfl ‹dY fun _ _=>rfl›
   c47:=bC (ps:=["script"]) X G T.D47 rfl ‹rR fun _=>rfl›}|n+1=>have ih:=Hd (Pg:=Pg) (w:=w) (base:=base) T X G n
   {c0:=bB (ps:=["net","step"]) X G T.D0 rfl rfl ‹dY fun _ _=>rfl› fun _ _ F=>d0 (cl:=fX T) F
    c1:=bB (ps:=["net","step"]) X G T.D1 rfl rfl ‹dY fun _ _=>rfl› fun _ _ F=>d1 (cl:=fX T) F
    c2:=bB (ps:=["net","stream","step"]) X G T.D2 rfl rfl ‹wG fun _ _ _=>rfl› fun _ _ F=>d2 (cl:=fX T) F
    c3:=bB (ps:=["net","stream"]) X G T.D3 rfl rfl ‹dY fun _ _=>rfl› fun _ _ F=>d3 (cl:=fX T) F (mg_none_of X G T.bL) (mg_none_of X G T.bj) ih.c0 ih.c2
    c4:=bB (ps:=["net","stream","begun"]) X G T.D4 rfl rfl ‹wG fun _ _ _=>rfl› fun _ _ F=>d4 (cl:=fX T) F (mg_none_of X G T.bL) (mg_none_of X G T.eZ) ih.c3 ih.c1 ih.c0
    c5:=bB (ps:=["net","come","place"]) X G T.D5 rfl rfl ‹wG fun _ _ _=>rfl› fun _ _ F=>d5 (cl:=fX T) F (mg_none_of X G T.fc) (mg_none_of X G T.bA) ih.c0
    c6:=bB (ps:=["stream","steps","loads"]) X G T.D6 rfl rfl ‹wG fun _ _ _=>rfl› fun _ _ F=>d6 (cl:=fX T) F (mg_none_of X G T.eZ)
    c7:=bB (ps:=["net"]) X G T.D7 rfl rfl ‹rR fun _=>rfl› fun _ _ F=>d7 (cl:=fX T) F (mg_none_of X G T.bL) (mg_none_of X G T.gO) ih.c4 ih.c2 ih.c5 ih.c6
    c8:=bB (ps:=["things"]) X G T.D8 rfl rfl ‹rR fun _=>rfl› fun _ _ F=>d8 (cl:=fX T) F (mg_none_of X G T.ju) (mg_none_of X G T.mZ)
    c9:=bB (ps:=["net","place"]) X G T.D9 rfl rfl ‹dY fun _ _=>rfl› fun _ _ F=>d9 (cl:=fX T) F (mg_none_of X G T.dM)
    c10:=bB (ps:=["net","place"]) X G T.D10 rfl rfl ‹dY fun _ _=>rfl› fun _ _ F=>d10 (cl:=fX T) F (mg_none_of X G T.dM)
    c11:=bB (ps:=["net","number"]) X G T.D11 rfl rfl ‹dY fun _ _=>rfl› fun _ _ F=>d11 (cl:=fX T) F (mg_none_of X G T.bL)
    c12:=bB (ps:=["net","way"]) X G T.D12 rfl rfl ‹dY fun _ _=>rfl› fun _ _ F=>d12 (cl:=fX T) F (mg_none_of X G T.bL) (mg_none_of X G T.bA) (T.jW.elim fun t e=>⟨t,mg_of X G e⟩)
    c13:=bB (ps:=["net","number"]) X G T.D13 rfl rfl ‹dY fun _ _=>rfl› fun _ _ F=>d13 (cl:=fX T) F ih.c11
    c14:=bB (ps:=["net","number","room"]) X G T.D14 rfl rfl ‹wG fun _ _ _=>rfl› fun _ _ F=>d14 (cl:=fX T) F ih.c11
    Y5:=bB (ps:=["net"]) X G T.D15 rfl rfl ‹rR fun _=>rfl› fun _ _ F=>d15 (cl:=fX T) F (mg_none_of X G T.bA)
    c16:=bB (ps:=["net","start"]) X G T.D16 rfl rfl ‹dY fun _ _=>rfl› fun _ _ F=>d16 (cl:=fX T) F
    c17:=bB (ps:=["net","place"]) X G T.D17 rfl rfl ‹dY fun _ _=>rfl› fun _ _ F=>d17 (cl:=fX T) F (mg_none_of X G T.eZ) (mg_none_of X G T.fc) ih.c16 ih.Y5
    c18:=bB (ps:=["way","left"]) X G T.D18 rfl rfl ‹dY fun _ _=>rfl› fun _ _ F=>d18 (cl:=fX T) F
    c19:=bB (ps:=["net","place"]) X G T.D19 rfl rfl ‹dY fun _ _=>rfl› fun _ _ F=>d19 (cl:=fX T) F (mg_none_of X G T.gO) (mg_none_of X G T.bA) ih.c17 ih.c18 ih.c9
    c20:=bB (ps:=["net","walk"]) X G T.D20 rfl rfl ‹dY fun _ _=>rfl› fun _ _ F=>d20 (cl:=fX T) F (mg_none_of X G T.bL) (mg_none_of X G T.bA)
    c21:=bB (ps:=["net","stream","place"]) X G T.D21 rfl rfl ‹wG fun _ _ _=>rfl› fun _ _ F=>d21 (cl:=fX T) F (mg_none_of X G T.iU) ih.c10 ih.c9
    N7:=bB (ps:=["net","stream"]) X G T.D22 rfl rfl ‹dY fun _ _=>rfl› fun _ _ F=>d22 (cl:=fX T) F ih.c21
    c23:=bB (ps:=["net","stream"]) X G T.D23 rfl rfl ‹dY fun _ _=>rfl› fun _ _ F=>d23 (cl:=fX T) F (mg_none_of X G T.ju) (mg_none_of X G T.mZ)
    c24:=bB (ps:=["net","stream"]) X G T.D24 rfl rfl ‹dY fun _ _=>rfl› fun _ _ F=>d24 (cl:=fX T) F (mg_none_of X G T.ju) (mg_none_of X G T.bL) (mg_none_of X G T.bj) ih.c21 ih.N7 ih.c23
    c25:=bB (ps:=["net","side"]) X G T.D25 rfl rfl ‹dY fun _ _=>rfl› fun _ _ F=>d25 (cl:=fX T) F ih.c8
    c26:=bB (ps:=["net","side"]) X G T.D26 rfl rfl ‹dY fun _ _=>rfl› fun _ _ F=>d26 (cl:=fX T) F (mg_none_of X G T.iU)
    c27:=bB (ps:=["net","walk","loads"]) X G T.D27 rfl rfl ‹wG fun _ _ _=>rfl› fun _ _ F=>d27 (cl:=fX T) F ih.c20
    c28:=bB (ps:=["net","rounds"]) X G T.D28 rfl rfl ‹dY fun _ _=>rfl› fun _ _ F=>d28 (cl:=fX T) F (mg_none_of X G T.bL) (mg_none_of X G T.bj) (mg_none_of X G T.iU)
    c29:=bB (ps:=["net","rounds"]) X G T.D29 rfl rfl ‹dY fun _ _=>rfl› fun _ _ F=>d29 (cl:=fX T) F (mg_none_of X G T.ju) ih.c27 ih.c28 ih.c23
    c30:=bB (ps:=["net","rooms"]) X G T.D30 rfl rfl ‹dY fun _ _=>rfl› fun _ _ F=>d30 (cl:=fX T) F (mg_none_of X G T.bA) (mg_none_of X G T.mZ)
    c31:=bB (ps:=["net","stream"]) X G T.D31 rfl rfl ‹dY fun _ _=>rfl› fun _ _ F=>d31 (cl:=fX T) F (mg_none_of X G T.eZ) (mg_none_of X G T.gO) ih.c19 ih.N7 ih.c30
    c32:=bB (ps:=["net"]) X G T.D32 rfl rfl ‹rR fun _=>rfl› fun _ _ F=>d32 (cl:=fX T) F (mg_none_of X G T.bA)
    Y6:=bB (ps:=["net"]) X G T.D33 rfl rfl ‹rR fun _=>rfl› fun _ _ F=>d33 (cl:=fX T) F (mg_none_of X G T.bL) (mg_none_of X G T.rM) (mg_none_of X G T.bA) ih.c7 ih.c32 ih.c4 ih.N7 ih.c6
    c34:=bB (ps:=["net","told"]) X G T.D34 rfl rfl ‹dY fun _ _=>rfl› fun _ _ F=>d34 (cl:=fX T) F ih.c25 ih.c26 ih.N7 ih.c24
    c35:=bB (ps:=["cell"]) X G T.D35 rfl rfl ‹rR fun _=>rfl› fun _ _ F=>d35 (cl:=fX T) F (mg_none_of X G T.rP)
    Pz:=bB (ps:=["pool","base"]) X G T.D36 rfl rfl ‹dY fun _ _=>rfl› fun _ _ F=>d36 (cl:=fX T) F
    c37:=bB (ps:=["pool","base"]) X G T.D37 rfl rfl ‹dY fun _ _=>rfl› fun _ _ F=>d37 (cl:=fX T) F (mg_none_of X G T.bj) ih.Pz
    c38:=bB (ps:=["pool","many","most","longest"]) X G T.D38 rfl rfl ‹lk4 fun _ _ _ _=>rfl› fun _ _ F=>d38 (cl:=fX T) F ih.Pz ih.c37
    c39:=bB (ps:=["pool","places","count"]) X G T.D39 rfl rfl ‹wG fun _ _ _=>rfl› fun _ _ F=>d39 (cl:=fX T) F (mg_none_of X G T.bj) (mg_none_of X G T.bA) ih.Pz ih.c38
    c40:=bB (ps:=["pool","net","left","start","goal"]) X G T.D40 rfl rfl ‹lk5 fun _ _ _ _ _=>rfl› fun _ _ F=>d40 (cl:=fX T) F (mg_none_of X G T.bL) (mg_none_of X G T.bj) ih.Pz
    c41:=bB (ps:=["pool","net"]) X G T.D41 rfl rfl ‹dY fun _ _=>rfl› fun _ _ F=>d41 (cl:=fX T) F (mg_none_of X G T.bL) (mg_none_of X G T.gO) (mg_none_of X G T.bj) ih.Pz ih.c40 ih.c37
    c42:=bB (ps:=["net"]) X G T.D42 rfl rfl ‹rR fun _=>rfl› fun _ _ F=>d42 (cl:=fX T) F (mg_none_of X G T.bj) (mg_none_of X G T.bA)
    c43:=bB (ps:=["net","side"]) X G T.D43 rfl rfl ‹dY fun _ _=>rfl› fun _ _ F=>d43 (cl:=fX T) F
    c44:=bB (ps:=["net"]) X G T.D44 rfl rfl ‹rR fun _=>rfl› fun _ _ F=>d44 (cl:=fX T) F (mg_none_of X G T.gO) ih.c43 ih.c42
    c45:=bB (ps:=["net"]) X G T.D45 rfl rfl ‹rR fun _=>rfl› fun _ _ F=>d45 (cl:=fX T) F (mg_none_of X G T.iU) ih.c34 ih.Y6 ih.c29 ih.c28 ih.N7 ih.c31
    c46:=bB (ps:=["pool","net"]) X G T.D46 rfl rfl ‹dY fun _ _=>rfl› fun _ _ F=>d46 (cl:=fX T) F (mg_none_of X G T.bL) ih.Pz ih.c38 ih.c13 ih.c12 ih.c14
    c47:=bB (ps:=["script"]) X G T.D47 rfl rfl ‹rR fun _=>rfl› fun _ _ F=>d47 (cl:=fX T) F (mg_none_of X G T.rP) (mg_none_of X G T.bj) ih.c44 ih.c39 ih.c46 ih.c35 ih.c45 ih.c41 ih.Y6 ih.N7 ih.Y5}
theorem gin{K:PySem.W.Frag}{x:Str}{i:Int}{t:Tok}(a:PySem.W.nsIn K mainGlobals x=some (some (Value.int i t))):∃t,PySem.W.nsIn K mainGlobals x=some (some (Value.int i t)):=⟨t,a⟩
set_option maxHeartbeats 0 in
theorem Rk{Pg:Program}{w:World}{K:PySem.W.Frag}{mg:Str->Option Value}{h:Heap}{fa:Addr}(T:Txt K)(X:K.In h)(G:h.Ns mainGlobals mg)(hmg:mg "law"=some (.ref fa)):∃fd:FuncData,(∀(s:Shared)(u:Value),BindsTo s fd ⟨[u],[]⟩ [("script",u)])/\∀base:Heap,K.In base->base.Ns mainGlobals mg->nM Pg w K mg base Jf 40 fa fd ["script"] (Lb K 1 (run Γ 100000000 40 47)):=by
 obtain⟨f,fd,a,F⟩:=T.D47.ex;have e:=hmg.symm.trans (mg_of X G a);cases e;refine⟨fd,fun s u=>?_,fun base kb nb=>?_⟩;.obtain⟨oc,od,kV,doc,pm,an,cdv,ct,osl,rfl,lk,hcd⟩:=F.ex;exact .of_eq rfl
 .have ih:=Hd (Pg:=Pg) (w:=w) (base:=base) T kb nb 39;exact d47 (cl:=fX T) (k:=39) (n:=100000000) (c:=run Γ 100000000 39) F (mg_none_of X G T.rP) (mg_none_of X G T.bj) ih.c44 ih.c39 ih.c46 ih.c35 ih.c45 ih.c41 ih.Y6 ih.N7 ih.Y5
end T
open PySem PySem.W PyProof.Rows
set_option maxRecDepth 100000 in
set_option maxHeartbeats 0 in
theorem PySem.Challenge.cw_hourhaul_k27_whole_greatest_rate_is_the_holds : PySem.Challenge.rw_hourhaul_k27_whole_greatest_rate_is_the.Holds := by
 w_on;o_law;k_head;(case hw=>w_witness2);k_fill;refine L2.Gd (l:=PySem.Challenge.rw_hourhaul_k27_whole_greatest_rate_is_the) (n:=63) (k:=40) (x:="script") (CX:=L2.Jf) (sp:=fun K=>HH.Lb K 1 (HH.run T.Γ 100000000 40 47)) rfl (by decide) rfl ⟨rfl,by decide,by decide⟩ (fun w h Y=>PySem.W.kIn_of Y) ?F ?S ?C;case F=>
  intro w mg fa h KX G hmg;refine T.Rk ?T KX G hmg;constructor;iterate 48(· refine' HH.Qe ?a ?l ?c ?k;case a|l|c|k=>k_is)
  iterate 12(· k_is)
  . (refine' T.gin ?a);(case a=>k_is)
 case S=>intro K H a ns hl hO hS;obtain⟨as,e⟩:=T.Ml ns hl;exact HH.De hS e
 case C=>exact fun H s e s' z=>z
