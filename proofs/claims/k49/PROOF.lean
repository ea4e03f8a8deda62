import PyProof.Rows.All
import Wide.All
import OpenK.AllK
import Wide.FinOn
import Lean
import PyProof.EqAt
import PyProof.EqKinds
import PyProof.TupleCall
import PySem.Str
import PySem.Builtin.Int.W1All
import PyProof.NeKinds
import PyProof.ZipIter
import PyProof.SumWalkG
import PyProof.MinMaxWalk
import PyProof.WalksMore
import PyProof.SeqI3
import PyProof.WalkInts
import PyProof.Rows.CallKwBuiltin
import PyProof.Rows.Tup
import PyProof.CollectIter
import PyProof.EnumMake
import PyProof.TupleOfSeq
import PyProof.ListNew
import PyProof.ReprLoop
import PyProof.StationsW
import PyProof.ExcClass3
import PyProof.Rows.CatchBare
import OpenK.KOwn
import KE.KIsAll
import PyProof.NsDelKeeps
import PyProof.RulesAs
import PyProof.ExcArgsOwn
import PyProof.ListRange
import KE.RegKIsAll
import KE.KRevIter
import PyProof.Rows.SortRuns
import KE.KSortTup
import PyProof.DictWalks
import KE.KDictList
import KE.KItemsList
import PyProof.ExcBaseAll.ValueError
import PySem.Challenge.RW_hourhaul_k49_chains_told
set_option Elab.async false
set_option linter.all false
set_option maxRecDepth 100000
set_option genSizeOf false
set_option compiler.extract_closed false
set_option bootstrap.genMatcherCode false
open List(replicate getElem?_set_ne getElem?_set_self mem_map mem_cons size_toArray map_cons length_map mem_of_getElem? mem_append length_cons mem_singleton mem_cons_of_mem nodup_cons length_append all_eq_true map_map getElem?_map getElem?_append_left lookup_cons find?_cons append_nil append_assoc filterMap_cons mem_append_right any_cons map_congr_left filter_cons mem_cons_self all_cons replicate_succ foldl length_take getElem?_append_right getElem_mem cons_append map_append any_eq_true mem_flatMap length_range drop_eq_getElem_cons toArray nodup_append pairwise_append reverse_cons flatten_cons map_nil drop_eq_nil_iff ext_getElem map_set of_mem_zip nil_append mapM_cons length_nil map)
open PySem.W(mg_none_of keepIn methodObj mg_of kitx_dict)
open Nat(le_refl ne_of_lt lt_of_lt_of_le zero_le le_trans lt_irrefl le_of_lt le_succ)
open PySem.Heap(lt_size get?_push_of_some get?_push_size get?_update_other size_push SameBut)
open PySem.Builtin.Tuple(tupleExact tupleItemsOf)
open Bool(and_eq_true false_eq_true or_eq_true not_eq_true')
open Option(map_eq_some_iff bind_some isSome_map getD_none)
open PySem.Builtin.Slice(slicePlaces sliceAdjust sliceApplied)
open PySem.Builtin.List(listExtendWith listTooLong listLengthHint listSameRef)
open Array(length_toList toList)
open PySem.SeqAt.EqAt(int_str str_int none_bool none_int none_str bool_none bool_bool bool_int bool_str int_none int_bool int_int str_none str_bool str_str)
open PySem.F(slot_tuple_add entry_tuple_add args_tuple_add_2 slot_tuple_mul plainAttrs_list slot_dict_get)
open PySem.SeqAt.RcAt(lists_lengths)
open Int(mul_one sub_zero mul_comm mul_add mul_neg)
open PySem.SeqAt.RcNeAt(int_list str_list list_int list_str)
theorem gW{h:PySem.Heap}{o b:PySem.Obj}{a:PySem.Addr}(e:h.get? a=some o):(h.push b).get? a=some o:=PySem.Heap.get?_push_of_some _ e
theorem eN{b:Type}{l:List b}{i:Nat}{a:b}(h:l[i]?=some a):∃h:i<l.length,l[i]=a:=List.getElem?_eq_some_iff.mp h
theorem dB{b:Type}{l:List b}{i j:Nat}{a:b}(h:j≠i):(l.set i a)[j]?=l[j]?:=List.getElem?_set_ne (Ne.symm h)
theorem uR{n:Nat}:0<=n:=Nat.zero_le n
theorem dC{n:Nat}:n<=n:=Nat.le_refl n
section
namespace L2
open PySem PySem.Spec PyProof.Rows
variable{w:World}{h:Heap}{t' i:Nat}{M:Model}{A:Around}{s:Shared}{pos:Pos}{pins:List (Addr×Obj)}{op:CmpOp}{K:PySem.W.Frag}{tg:Expr}{us:List Value}
noncomputable abbrev Key:=Sum Int Str
noncomputable def mV:Key->Value->Bool|.inl k,v=>Value.isInt k v|.inr x,v=>Value.isStrOf x v
noncomputable def ack(w:World):Key->Int|.inl k=>hashInt k|.inr x=>hashStr w x
theorem bu:∀{k:Key}{v:Value},mV k v=true->(∃i t,k=Sum.inl i/\v=Value.int i t)\/(∃x t,k=Sum.inr x/\v=Value.str x t)|.inl i,v,h=>by obtain⟨t,e⟩:=Value.isInt_shape (k:=i) (v:=v) h;exact .inl ⟨i,t,rfl,e⟩|.inr x,v,h=>by obtain⟨t,e⟩:=Value.isStrOf_shape (x:=x) (v:=v) h;exact .inr ⟨x,t,rfl,e⟩
theorem Bp(i:Int)(t:Tok):mV (.inl i) (.int i t)=true:=by simp[mV,Value.isInt]
theorem BL(x:Str)(t:Tok):mV (.inr x) (.str x t)=true:=by simp[mV,Value.isStrOf]
theorem Qh(a b:Int):decide ((Sum.inl a:Key)=Sum.inl b)=(a==b):=by
 by_cases e:a=b;.subst e;simp
 .have h:¬(Sum.inl a:Key)=Sum.inl b:=λq=>e (Sum.inl.inj q);rw[decide_eq_false h];exact(beq_eq_false_iff_ne.mpr e).symm
theorem PN(a b:Str):decide ((Sum.inr a:Key)=Sum.inr b)=decide (a=b):=by
 by_cases e:a=b;.subst e;simp
 .have h:¬(Sum.inr a:Key)=Sum.inr b:=λq=>e (Sum.inr.inj q);rw[decide_eq_false h,decide_eq_false e]
theorem Ru(a:Int)(b:Str):decide ((Sum.inl a:Key)=Sum.inr b)=false:=decide_eq_false (λq=>nomatch q)
theorem RN(a:Str)(b:Int):decide ((Sum.inr a:Key)=Sum.inl b)=false:=decide_eq_false (λq=>nomatch q)
noncomputable def aR(prog:Program)(w:World):PySem.KeyKind prog w Key where
 is:=mV;hash:=ack w;inj:=λv a b g f=>by
  rcases bu g with⟨i,t,rfl,rfl⟩|⟨x,t,rfl,rfl⟩
  . rcases bu f with⟨j,u,rfl,e⟩|⟨y,u,rfl,e⟩;.injection e with e1 _;rw[e1]
    .exact nomatch e
  . rcases bu f with⟨j,u,rfl,e⟩|⟨y,u,rfl,e⟩;.exact nomatch e
    .injection e with e1 _;rw[e1]
 byValue:=λk v h=>by rcases bu h with⟨i,t,rfl,rfl⟩|⟨x,t,rfl,rfl⟩<;>rfl
 pyHash:=λc h=>by
  rcases bu c with⟨i,t,rfl,rfl⟩|⟨x,t,rfl,rfl⟩;.exact wpAny_pyHash_int h
  .exact wpAny_pyHash_str h
 eqBool:=λl c h=>by
  rcases bu l with⟨i,t,rfl,rfl⟩|⟨x,t,rfl,rfl⟩
  . rcases bu c with⟨j,u,rfl,rfl⟩|⟨y,u,rfl,rfl⟩;.rw[Qh]at h;exact wpAny_eqBool_int h
    .rw[Ru]at h;exact int_str i t y u _ _ _ _ h
  . rcases bu c with⟨j,u,rfl,rfl⟩|⟨y,u,rfl,rfl⟩;.rw[RN]at h;exact str_int x t j u _ _ _ _ h
    .rw[PN]at h;exact wpAny_eqBool_str h
 «strs»:=λk x t v h=>by
  rcases bu h with⟨i,u,rfl,e⟩|⟨y,u,rfl,e⟩;.exact nomatch e
  .injection e with e1 _;subst e1;cases v<;>rfl
theorem wI(prog:Program)(w:World)(i:Int)(t:Tok):(aR prog w).is (.inl i) (.int i t)=true:=Bp i t
theorem v9(prog:Program)(w:World)(x:Str)(t:Tok):(aR prog w).is (.inr x) (.str x t)=true:=BL x t
inductive V where|non|bl(b:Bool)|int(i:Int)|str(x:Str)|Ma(b:Array UInt8)|flt(b:UInt64)|ref(a:Addr)|ty(n:String)deriving DecidableEq
def RelV:V->Value->Prop|.non,u=>u=Value.none|.bl b,u=>u=Value.bool b|.int i,u=>∃t,u=Value.int i t|.str x,u=>∃t,u=Value.str x t|.Ma b,u=>∃t,u=Value.bytes b t|.flt b,u=>∃t,u=Value.float b t|.ref a,u=>u=Value.ref a|.ty n,u=>u=Value.type n
abbrev Vals:List V->List Value->Prop:=Paired RelV
theorem Vals.length{xs:List V}{us:List Value}(r:Vals xs us):xs.length=us.length:=Paired.length r
theorem Vals.get:∀{xs:List V}{us:List Value}{i:Nat}{x:V},Vals xs us->xs[i]?=some x->∃u,us[i]?=some u/\RelV x u|_,_,_,_,.nil,e=>by simp at e|_,_,0,_,.cons r _,e=>by simp at e;subst e;exact⟨_,rfl,r⟩|_,_,i+1,x,.cons _ t,e=>by obtain⟨u,h1,a⟩:=Vals.get (i:=i) (x:=x) t (by simpa using e);exact⟨u,by simpa using h1,a⟩
theorem Vals.set{x:V}{u:Value}(r:RelV x u):∀{xs:List V}{us:List Value}(i:Nat),Vals xs us->Vals (xs.set i x) (us.set i u)|_,_,_,.nil=>.nil|_,_,0,.cons _ t=>.cons r t|_,_,i+1,.cons q t=>.cons q (Vals.set r i t)
theorem Vals.append:∀{xs ys:List V}{us ws:List Value},Vals xs us->Vals ys ws->Vals (xs++ys) (us++ws)|_,_,_,_,.nil,s=>s|_,_,_,_,.cons r t,s=>.cons r (Vals.append t s)
theorem Vals.take:∀{xs:List V}{us:List Value}(n:Nat),Vals xs us->Vals (xs.take n) (us.take n)|_,_,0,_=>.nil|_,_,_+1,.nil=>.nil|_,_,n+1,.cons r t=>.cons r (Vals.take n t)
theorem Vals.drop:∀{xs:List V}{us:List Value}(n:Nat),Vals xs us->Vals (xs.drop n) (us.drop n)|_,_,0,r=>r|_,_,_+1,.nil=>.nil|_,_,n+1,.cons _ t=>Vals.drop n t
def ni:Option V->Option Value->Prop|some v,some u=>RelV v u|none,none=>True|_,_=>False
def KV{κ:Type}:List (κ×V)->List (κ×Value)->Prop:=Paired λ(p:κ×V)(q:κ×Value)=>p.1=q.1/\RelV p.2 q.2
noncomputable def kV:Key->V|.inl i=>.int i|.inr x=>.str x
inductive HO where|lst(xs:List V)|tup(xs:List V)|dK(kvs:List (Key×V))|dT(kvs:List (List Key×V))|set(S:Int->Bool)(n:Nat)|ins(C dx:Addr)(fs:List (Str×V))|own(x:Addr)|xd(fs:List (Str×V))|met(f x:Addr)|wW(lo hi:Int)|cO(o:Obj)(u:HO)|Mf(ps:Array Value)|ext(φ:Heap->Prop)|pot(q:Addr)(xs ys:List V)
noncomputable abbrev Hp:=Addr->Option HO
variable{H:Hp}
noncomputable def upd(H:Hp)(a:Addr)(o:HO):Hp:=λb=>if b=a then some o else H b
theorem aA{a:Addr}{o:HO}:upd H a o a=some o:=by unfold upd;rw[if_pos rfl]
theorem ao{a b:Addr}{o:HO}(h:b≠a):upd H a o b=H b:=by unfold upd;rw[if_neg h]
theorem zg{a:Addr}{o u:HO}:upd (upd H a o) a u=upd H a u:=by funext b;unfold upd;split<;>rfl
theorem WY{a b:Addr}{o u:HO}(h:H a=some o)(h':H b=some u)(d:o≠u):a≠b:=by intro e;subst e;rw[h]at h';exact d (Option.some.inj h')
theorem gA{a b:Addr}{o:HO}(h:H a=some o)(h':H b=none):a≠b:=by intro e;subst e;rw[h]at h';cases h'
section
variable(P:Program)(w:World)
def aY(H:Hp)(h:Heap)(a:Addr):HO->Prop|.lst xs=>xs.length<=sizeLine/\∃(b:List Value)(n:Nat),Vals xs b/\h.get? a=some {cls:=.type "list",data:=.seq b.toArray n}|.tup xs=>xs.length<=sizeLine/\∃b:List Value,Vals xs b/\IsTup h a b.toArray|.dK kvs=>kvs.length<=sizeLine/\(a==sysModules)=false/\∃vs,KV kvs vs/\h.DictOf (aR P w) a vs|.dT kvs=>kvs.length<=sizeLine/\(a==sysModules)=false/\∃xs:List (List Key×Addr×Value),Paired (λ(p:List Key×V)(q:List Key×Addr×Value)=>p.1=q.1/\H q.2.1=some (.tup (p.1.map kV))/\RelV p.2 q.2.2) kvs xs/\∃o es ep,h.get? a=some o/\o.ExactDict/\o.data=.dict es ep/\es.toList=xs.map (entryOfKey (tupleKind (aR P w)))/\(xs.map (·.1)).Nodup|.set S n=>h.SetOf (intKind P w) a S n|.ins C e fs=>H e=some (.own a)/\fs.length<=1000/\e≠a/\h.get? a=some (PySem.W.instObj C e)/\∃c,h.Ns1 e c/\(∀f,ni (fs.lookup f) (c f))/\PySem.Within c (fs.map (·.1))|.own _=>∃o,h.get? a=some o|.pot q xs ys=>H q=some (.own a)/\q≠a/\(xs.length<=sizeLine/\∃(b:List Value)(n:Nat),Vals xs b/\h.get? q=some {cls:=.type "list",data:=.seq b.toArray n})/\((V.ref q::ys).length<=sizeLine/\∃(b:List Value)(n:Nat),Vals (V.ref q::ys) b/\h.get? a=some {cls:=.type "list",data:=.seq b.toArray n})|.xd fs=>∃c,h.Ns1 a c/\∀f,ni (fs.lookup f) (c f)|.wW lo k=>∃t u v,h.get? a=some {cls:=.type "range",data:=.fields #[.int lo t,.int k u,.int 1 v]}|.cO o u=>h.get? a=some o/\aY H h a u|.Mf ps=>h.get? a=some {cls:=.none,data:=.fields ps}|.met f x=>h.get? a=some (methodObj (.ref f) (.ref x))|.ext g=>g h/\(∃o,h.get? a=some o)/\∀h1 j:Heap,g h1->(∀o,h1.get? a=some o->j.get? a=some o)->g j
def jF(H:Hp)(h:Heap):Prop:=∀a o,H a=some o->aY P w H h a o
end
section
variable{P:Program}{w:World}{H H':Hp}{h h':Heap}{a:Addr}{o:HO}
theorem aY.lt(x:aY P w H h a o):a<h.objs.size:=by cases o with|lst xs=>obtain⟨_,_,_,_,e⟩:=x;exact lt_size e|tup xs=>obtain⟨_,_,_,p⟩:=x;exact p.lt|dK kvs=>obtain⟨_,_,_,_,o,_,_,e,_⟩:=x;exact lt_size e|dT kvs=>obtain⟨_,_,_,_,o,_,_,e,_⟩:=x;exact lt_size e|set S n=>obtain⟨o,_,_,_,e,_⟩:=x;exact lt_size e|ins C b fs=>obtain⟨_,_,_,e,_⟩:=x;exact lt_size e|own y=>obtain⟨_,e⟩:=x;exact lt_size e|pot q xs ys=>obtain⟨_,_,_,_,_,_,_,e⟩:=x;exact lt_size e|xd fs=>obtain⟨_,⟨_,_,_,e,_⟩,_⟩:=x;exact lt_size e|wW lo c=>obtain⟨_,_,_,e⟩:=x;exact lt_size e|cO g u=>obtain⟨e,_⟩:=x;exact lt_size e|Mf ps=>exact lt_size (show h.get? a=some _ from x)|met f y=>exact lt_size (show h.get? a=some _ from x)|ext j=>obtain⟨_,⟨_,e⟩,_⟩:=x;exact lt_size e
theorem Paired.R3{g j:Type}{F G:g->j->Prop}:∀{c:List g}{e:List j},Paired F c e->(∀a b,F a b->G a b)->Paired G c e|_,_,.nil,_=>.nil|_,_,.cons r t,f=>.cons (f _ _ r) (Paired.R3 t f)
theorem aY.stay(x:aY P w H h a o)(k:∀b u,(b=a\/H b=some (.own a))->h.get? b=some u->h'.get? b=some u)(ho:∀b,H b=some (.own a)->H' b=some (.own a))(ht:∀b xs,H b=some (.tup xs)->H' b=some (.tup xs)):aY P w H' h' a o:=by induction o with|lst xs=>obtain⟨z,g,n,r,e⟩:=x;exact⟨z,g,n,r,k _ _ (.inl rfl) e⟩|tup xs=>obtain⟨z,g,r,j,e,c⟩:=x;exact⟨z,g,r,j,k _ _ (.inl rfl) e,c⟩|dK kvs=>obtain⟨z,y,vs,r,j,es,ep,e,c⟩:=x;exact⟨z,y,vs,r,j,es,ep,k _ _ (.inl rfl) e,c⟩|dT kvs=>obtain⟨z,y,xs,r,j,es,ep,e,c⟩:=x;exact⟨z,y,xs,Paired.R3 r λp q z=>⟨z.1,ht _ _ z.2.1,z.2.2⟩,j,es,ep,k _ _ (.inl rfl) e,c⟩|set S n=>obtain⟨j,es,ep,t,e,c⟩:=x;exact⟨j,es,ep,t,k _ _ (.inl rfl) e,c⟩|ins C N fs=>obtain⟨d,z,ne,e,l,⟨m,es,ep,B,c⟩,r⟩:=x;exact⟨ho _ d,z,ne,k _ _ (.inl rfl) e,l,⟨m,es,ep,k _ _ (.inr d) B,c⟩,r⟩|own y=>obtain⟨j,e⟩:=x;exact⟨j,k _ _ (.inl rfl) e⟩|pot q xs ys=>obtain⟨d,ne,⟨z,g,n,r,e⟩,E,its',G,I,J⟩:=x;exact⟨ho _ d,ne,⟨z,g,n,r,k _ _ (.inr d) e⟩,E,its',G,I,k _ _ (.inl rfl) J⟩|xd fs=>obtain⟨l,⟨m,es,ep,e,c⟩,r⟩:=x;exact⟨l,⟨m,es,ep,k _ _ (.inl rfl) e,c⟩,r⟩|wW lo O=>obtain⟨t,u,v,e⟩:=x;exact⟨t,u,v,k _ _ (.inl rfl) e⟩|cO j u L=>obtain⟨e,q⟩:=x;exact⟨k _ _ (.inl rfl) e,L q⟩|Mf ps=>have e:h.get? a=some {cls:=.none,data:=.fields ps}:=x;show h'.get? a=some {cls:=.none,data:=.fields ps};exact k a _ (.inl rfl) e|met f y=>have e:h.get? a=some (methodObj (.ref f) (.ref y)):=x;show h'.get? a=some (methodObj (.ref f) (.ref y));exact k a _ (.inl rfl) e|ext Q=>obtain⟨p,⟨o,e⟩,st⟩:=x;exact⟨st _ _ p λo q=>k _ _ (.inl rfl) q,⟨o,k _ _ (.inl rfl) e⟩,st⟩
theorem jF.lt(x:jF P w H h)(e:H a=some o):a<h.objs.size:=(x a o e).lt
theorem jF.fresh(x:jF P w H h)(e:h.objs.size<=a):H a=none:=by cases q:H a with|none=>rfl|some u=>exact absurd (lt_of_lt_of_le (x.lt q) e) (lt_irrefl _)
theorem jF.kept(x:jF P w H h)(k:∀b u,h.get? b=some u->h'.get? b=some u):jF P w H h':=λa o e=>(x a o e).stay (λb u _ q=>k b u q) (λ_ q=>q) λ_ _ q=>q
theorem jF.laid(x:jF P w H h)(k:∀b u,h.get? b=some u->h'.get? b=some u)(j:h.objs.size<=a)(new:aY P w (upd H a o) h' a o):jF P w (upd H a o) h':=λb u e=>by
 have f:=x.fresh j;by_cases g:b=a;.subst g;rw[aA]at e;cases e;exact new
 .rw[ao g]at e;exact(x b u e).stay (λc v _ q=>k c v q) (λc q=>by rw[ao (gA q f)];exact q) λc xs q=>by rw[ao (gA q f)];exact q
end
def Rd(H:Hp)(a:Addr)(u:HO):Prop:=H a=some u\/∃o,H a=some (.cO o u)
theorem Rd.ok{P:Program}{a:Addr}{u:HO}(r:Rd H a u)(x:jF P w H h):aY P w H h a u:=by
 rcases r with r|⟨o,r⟩;.exact x a u r
 .obtain⟨_,q⟩:=x a _ r;exact q
def XR:Option HO->Prop|some (.lst _)=>True|some (.dK _)=>True|some (.dT _)=>True|some (.set _ _)=>True|some (.ins _ _ _)=>True|some (.pot _ _ _)=>True|some (.ext _)=>True|_=>False
section
variable{P:Program}{w:World}{H:Hp}{h h':Heap}{x e:Addr}{o':HO}
theorem jF.write(ok:jF P w H h)(f:XR (H x))(he:e=x\/H e=some (.own x))(k:∀b u,b≠e->h.get? b=some u->h'.get? b=some u)(j:∃u,h'.get? e=some u)(new:aY P w (upd H x o') h' x o'):jF P w (upd H x o') h':=λb u q=>by
 have m:∀c y,H c=some (.own y)->c≠x:=λc y r z=>by subst z;rw[r]at f;exact f
 have l:∀c xs,H c=some (.tup xs)->c≠x:=λc xs r z=>by subst z;rw[r]at f;exact f
 by_cases g:b=x;.subst g;rw[aA]at q;cases q;exact new
 . rw[ao g]at q;by_cases a:b=e
   . have n:H b=some (.own x):=by
      rcases he with z|z;.exact absurd (a.trans z) g
      .rw[a];exact z
     rw[q]at n;cases n;obtain⟨v,o⟩:=j;exact⟨v,by rw[a];exact o⟩
   . refine(ok b u q).stay (λc v hc r=>k c v ?_ r) (λc r=>by rw[ao (m c b r)];exact r) λc xs r=>by rw[ao (l c xs r)];exact r
     rcases hc with rfl|hc;.exact a
     . rintro rfl;rcases he with z|z;.exact m c b hc z
       .rw[hc]at z;cases z;exact g rfl
end
structure Un(fs ex:List Addr)(H H':Hp)(h h':Heap):Prop where
 keep:∀b o,h.get? b=some o->H b=none->b∉fs->b∉ex->h'.get? b=some o
 slot:∀b o,h.get? b=some o->H b=none->b∈fs->b∉ex->∃sl,h'.get? b=some {o with slots:=sl}free:∀b o,h.get? b=some o->H b=none->b∉ex->H' b=none
 there:∀b o,h.get? b=some o->b∉ex->∃o',h'.get? b=some o'
 tups:∀b xs,H b=some (.tup xs)->H' b=some (.tup xs)nH:∀b o u,H b=some (.cO o u)->H' b=some (.cO o u)qN:∀b ps,H b=some (.Mf ps)->∃more,H' b=some (.Mf (ps++more))
section
variable{fs fs' ex ex':List Addr}{H H1 H2:Hp}{h h1 h2 h':Heap}{a x e:Addr}{o:HO}
theorem Un.any(u:Un fs ex H H1 h h1){b:Addr}{c:Obj}(q:h.get? b=some c)(n:H b=none)(f:b∉ex):∃sl,h1.get? b=some {c with slots:=sl}:=by
 by_cases g:b∈fs;.exact u.slot b c q n g f
 .exact⟨c.slots,u.keep b c q n g f⟩
theorem Un.kept(k:∀b u,h.get? b=some u->h'.get? b=some u):Un fs ex H H h h':=⟨λb c q _ _ _=>k b c q,λb c q _ _ _=>⟨c.slots,k b c q⟩,λ_ _ _ n _=>n,λb c q _=>⟨c,k b c q⟩,λ_ _ q=>q,λ_ _ _ q=>q,λ_ ps q=>⟨#[],by rw[q];simp⟩⟩
theorem Un.refl:Un fs ex H H h h:=Un.kept λ_ _ q=>q
theorem Un.laid(k:∀b u,h.get? b=some u->h'.get? b=some u)(f:h.objs.size<=a)(c:H a=none):Un fs ex H (upd H a o) h h' where
 keep:=λb u q _ _ _=>k b u q;slot:=λb u q _ _ _=>⟨u.slots,k b u q⟩;free:=λb u q n _=>by rw[ao (ne_of_lt (lt_of_lt_of_le (lt_size q) f))];exact n
 there:=λb u q _=>⟨u,k b u q⟩;tups:=λb xs q=>by rw[ao (gA q c)];exact q
 nH:=λb u xs q=>by rw[ao (gA q c)];exact q
 qN:=λb ps q=>⟨#[],by rw[ao (gA q c),q];simp⟩
theorem Un.write(f:XR (H x))(he:e=x\/H e=some (.own x))(k:∀b u,b≠e->h.get? b=some u->h'.get? b=some u)(g:∃u,h'.get? e=some u):Un fs ex H (upd H x o) h h':=by
 have l:∀b,H b=none->b≠x:=λb n z=>by subst z;rw[n]at f;exact f
 have m:∀b,H b=none->b≠e:=λb n z=>by
  subst z;rcases he with r|r;.exact l b n r
  .rw[n]at r;cases r
 have j:∀b u,H b=some u->¬ XR (some u)->b≠x:=λb u q p z=>by subst z;rw[q]at f;exact p f
 refine⟨λb u q n _ _=>k b u (m b n) q,λb u q n _ _=>⟨u.slots,k b u (m b n) q⟩,λb u q n _=>by rw[ao (l b n)];exact n,λb u q _=>?_,λb xs q=>by rw[ao (j b _ q λz=>z)];exact q,λb u xs q=>by rw[ao (j b _ q λz=>z)];exact q,λb ps q=>⟨#[],by rw[ao (j b _ q λz=>z),q];simp⟩⟩;by_cases c:b=e;.subst c;exact g
 .exact⟨u,k b u c q⟩
end
noncomputable def Y7(h:Heap)(H:Hp):List Addr:=(List.range h.objs.size).filter λa=>(H a).isSome
noncomputable def sZ(h:Heap)(H:Hp):Heap:=PySem.W.hideAll h (Y7 h H)
theorem Bs(h:Heap)(H:Hp):(sZ h H).objs.size=h.objs.size:=PySem.W.hideAll_size _ _
theorem Eo{b:Addr}{o:Obj}(e:h.get? b=some o)(n:H b=none):(sZ h H).get? b=some o:=PySem.W.hideAll_get _ e λa=>by have q:(H b).isSome=true:=(List.mem_filter.mp a).2;rw[n]at q;simp at q
theorem Lq{b:Addr}{o:Obj}(e:(sZ h H).get? b=some o):h.get? b=some o/\H b=none:=by have a:h.get? b=some o:=PySem.W.of_hideAll (Y7 h H) e;refine⟨a,?_⟩;cases q:H b with|none=>rfl|some x=>have c:b∈Y7 h H:=List.mem_filter.mpr ⟨List.mem_range.mpr (lt_size a),by simp[q]⟩;have z:(sZ h H).get? b=none:=PySem.W.hideAll_none (Y7 h H) c;rw[z]at e;cases e
structure Mod(K:PySem.W.Frag)(mg:Str->Option Value)(base:Heap):Prop where
 qI:K.In base
 glob:base.Ns mainGlobals mg
 blt:∃mb,base.Ns builtinsNs mb/\∀x:Str,x≠"__name__"->mb x=bootBuiltins x
 nolimit:base.NoLimit
structure Cx where
 prog:Program
 w:World
 K:PySem.W.Frag
 mg:Str->Option Value
 base:Heap
 A:Around
 N:List Str
 s₀:Shared
 H₀:Hp
 env:Env
 outer:List Env
 stack:List Env
 ex:List Addr
 fn:Str->Bool
 calm:Bool
 pn:List (Addr×Obj)xe:Value->Shared->Prop
variable{X:Cx}
noncomputable def frs(l:List Env):List Addr:=l.filterMap (·.frame)
noncomputable abbrev Cx.fs(X:Cx):List Addr:=frs X.outer
def vC(a:Scope)(x:Str):Prop:=a.names.lookup x=some .local\/a.names.lookup x=some .cell\/a.names.lookup x=some .free
def Loc(a:Scope)(x:Str):Prop:=a.names.lookup x=some .local\/a.names.lookup x=some .cell
def Look(env:Env)(h:Heap)(m:Str->Option Value)(x:Str)(u:Value):Prop:=(env.kindOf x=some .local/\m x=some u)\/((env.kindOf x=some .cell\/env.kindOf x=some .free)/\∃c,env.cells.lookup x=some c/\h.IsCell c (some u))
structure Cx.Ok(X:Cx):Prop where
 mod:Mod X.K X.mg X.base
 kind:X.env.scope.kind=.function
 glob:X.env.globals=mainGlobals
 blt:X.env.builtins=builtinsNs
 above:X.s₀.heap.objs.size<=X.env.locals
 inj:∀x y c,X.env.cells.lookup x=some c->X.env.cells.lookup y=some c->x=y
 has:∀x,(X.env.kindOf x=some .cell\/X.env.kindOf x=some .free)->∃c,X.env.cells.lookup x=some c
 cab:∀x c,X.fn x=true->X.env.cells.lookup x=some c->X.s₀.heap.objs.size<=c
 hd:X.calm=true->X.A.handled=none
 frames:X.A.frames=some X.stack
 stk:X.stack=X.outer\/(X.stack=X.env::X.outer/\X.env.frame=some X.env.locals)exf:∀b∈X.ex,b≠X.env.locals/\∀x c,X.env.cells.lookup x=some c->c≠b
 bs:∀b o,X.base.get? b=some o->X.s₀.heap.get? b=some o/\X.H₀ b=none
 NZ:X.base.objs.size<=X.s₀.heap.objs.size
 Hv:∀b o,X.base.get? b=some o->b∉X.ex
 Mg:∀b∈X.ex,b∉X.fs
 qw:X.s₀.heap.FunFrames X.base X.outer
 U8:∀b∈X.fs,X.H₀ b=none
structure Inv(X:Cx)(pins:List (Addr×Obj))(σ:List (Option V))(H:Hp)(s:Shared):Prop where
 ok:X.Ok
 os:s.os=X.s₀.os
 bare:AllBare s.gens
 base:Un X.fs X.ex X.H₀ H X.s₀.heap s.heap
 loc:∃m,s.heap.Ns X.env.locals m/\∀(i:Nat)(x:Str)(v:V),X.N[i]?=some x->σ[i]?=some (some v)->vC X.env.scope x->∃u,RelV v u/\Look X.env s.heap m x u
 cell:∀x c,X.env.cells.lookup x=some c->∃v,s.heap.IsCell c v
 free:H X.env.locals=none
 iy:∀x c,X.env.cells.lookup x=some c->H c=none
 pin:∀p∈X.pn++pins,s.heap.get? p.1=some p.2/\H p.1=none/\p.1≠X.env.locals/\p.1∉X.fs/\∀v,p.2.data≠.cell v
 hok:jF X.prog X.w H s.heap
 len:σ.length=X.N.length
section
variable{X:Cx}{pins:List (Addr×Obj)}{σ:List (Option V)}{H H':Hp}{s:Shared}{h':Heap}
theorem Cx.Ok.acu(ok:X.Ok){b:Addr}{o:Obj}(e:X.base.get? b=some o):b∉X.fs:=λa=>by have:=(ok.qw.mem a).1;rw[e]at this;cases this
theorem Inv.bs(I:Inv X pins σ H s):∀b o,X.base.get? b=some o->s.heap.get? b=some o/\H b=none:=λb o e=>⟨I.base.keep b o (I.ok.bs b o e).1 (I.ok.bs b o e).2 (I.ok.acu e) (I.ok.Hv b o e),I.base.free b o (I.ok.bs b o e).1 (I.ok.bs b o e).2 (I.ok.Hv b o e)⟩
theorem Inv.bk(I:Inv X pins σ H s):∀b o,X.base.get? b=some o->s.heap.get? b=some o:=λb o e=>(I.bs b o e).1
theorem Inv.mod(I:Inv X pins σ H s):Mod X.K X.mg X.base:=I.ok.mod
theorem Inv.Ph(I:Inv X pins σ H s):X.K.In s.heap:=I.ok.mod.qI.keeps I.bk
theorem Inv.lt(I:Inv X pins σ H s):X.env.locals<s.heap.objs.size:=let⟨_,hn,_⟩:=I.loc;hn.lt
theorem Inv.sz(I:Inv X pins σ H s):X.s₀.heap.objs.size<=s.heap.objs.size:=le_trans I.ok.above (le_of_lt I.lt)
theorem Inv.abL(I:Inv X pins σ H s){a:Addr}(h:s.heap.objs.size<=a):a∉X.fs:=λb=>by obtain⟨_,o,ho,_⟩:=I.ok.qw.mem b;exact absurd (lt_of_lt_of_le (lt_size ho) (le_trans I.sz h)) (lt_irrefl _)
theorem Inv.Sd(I:Inv X pins σ H s):∀x c,X.env.cells.lookup x=some c->c≠X.env.locals:=λx c e z=>by obtain⟨v,o,ho,hd⟩:=I.cell x c e;obtain⟨m,⟨f,es,ep,a,b,_⟩,_⟩:=I.loc;rw[z,a]at ho;cases ho;rw[b]at hd;cases hd
theorem Inv.qw(I:Inv X pins σ H s):s.heap.FunFrames X.base X.outer:=by
 have all:∀(l:List Env),(∀b∈frs l,b∈X.fs)->X.s₀.heap.FunFrames X.base l->s.heap.FunFrames X.base l:=by intro l;induction l with|nil=>intro _ _;trivial|cons env r g=>intro hs j;obtain⟨k,⟨L,o,a,m,ho,hd⟩,hr⟩:=j;have c:L∈X.fs:=hs L (by unfold frs;rw[filterMap_cons,a];exact mem_cons_self);obtain⟨sl,e⟩:=I.base.slot L o ho (I.ok.U8 L c) c λz=>I.ok.Mg L z c;exact⟨k,⟨L,_,a,m,e,hd⟩,g (λb f=>hs b (by unfold frs;rw[filterMap_cons,a];exact mem_cons_of_mem _ f)) hr⟩
 exact all X.outer (λ_ f=>f) I.ok.qw
theorem Inv.stack(I:Inv X pins σ H s):s.heap.FunFrames X.base X.stack:=by
 rcases I.ok.stk with e|⟨e,a⟩;.rw[e];exact I.qw
 .rw[e];obtain⟨m,b,_⟩:=I.loc;refine .cons (by rw[I.ok.kind];decide) a b ?_ I.qw;exact Heap.get?_none_of_le (le_trans I.ok.NZ I.ok.above)
theorem Inv.uv(I:Inv X pins σ H s):∀b∈frs X.stack,b∈X.env.locals::X.fs:=λb a=>by
 rcases I.ok.stk with e|⟨e,c⟩;.rw[e]at a;exact mem_cons_of_mem _ a
 .rw[e]at a;unfold frs at a;rw[filterMap_cons,c]at a;exact a
theorem Inv.zj(I:Inv X pins σ H s):∀b∈frs X.stack,H b=none:=λb hb=>by
 rcases mem_cons.mp (I.uv b hb)with e|hb;.rw[e];exact I.free
 .obtain⟨_,o,ho,_⟩:=I.ok.qw.mem hb;exact I.base.free b o ho (I.ok.U8 b hb) λz=>I.ok.Mg b z hb
theorem Inv.step{g':Array GenState}{d':Drawn}{ch:List Addr}(I:Inv X pins σ H s)(f:∀b∈ch,(b∈X.ex\/X.s₀.heap.objs.size<=b)/\b≠X.env.locals/\(∀x c,X.env.cells.lookup x=some c->c≠b)/\∀p∈X.pn++pins,p.1≠b)(keep:∀b o,b≠X.env.locals->b∉X.fs->b∉ch->s.heap.get? b=some o->H b=none->h'.get? b=some o)(slot:∀b o,b≠X.env.locals->b∈X.fs->b∉ch->s.heap.get? b=some o->H b=none->∃sl,h'.get? b=some {o with slots:=sl})(free:∀b o,b∉ch->s.heap.get? b=some o->H b=none->H' b=none)(there:∀b o,b∉ch->s.heap.get? b=some o->∃B,h'.get? b=some B)(tups:∀b xs,H b=some (.tup xs)->H' b=some (.tup xs))(nH:∀b o u,H b=some (.cO o u)->H' b=some (.cO o u))(qN:∀b ps,H b=some (.Mf ps)->∃more,H' b=some (.Mf (ps++more)))(ns:∀m,s.heap.Ns X.env.locals m->h'.Ns X.env.locals m)(hok:jF X.prog X.w H' h')(O:AllBare g'):Inv X pins σ H' {s with heap:=h',gens:=g',drawn:=d',toks:=t'}:=by
 have C:∀b o,X.s₀.heap.get? b=some o->b≠X.env.locals:=λb o e=>ne_of_lt (lt_of_lt_of_le (lt_size e) I.ok.above);have j:∀b o,X.s₀.heap.get? b=some o->b∉X.ex->b∉ch:=λb o e a y=>by
  rcases(f b y).1 with z|z;.exact a z
  .exact absurd (lt_of_lt_of_le (lt_size e) z) (lt_irrefl _)
 have g:∀x c,X.env.cells.lookup x=some c->∀v,s.heap.IsCell c v->h'.IsCell c v:=λx c e v⟨o,ho,hd⟩=>by
  have E:c∉ch:=λz=>(f c z).2.2.1 x c e rfl;by_cases hc:c∈X.fs;.obtain⟨sl,q⟩:=slot c o (I.Sd x c e) hc E ho (I.iy x c e);exact⟨_,q,hd⟩
  .exact⟨o,keep c o (I.Sd x c e) hc E ho (I.iy x c e),hd⟩
 refine⟨I.ok,I.os,O,⟨λb o e n y a=>?_,λb o e n y a=>?_,λb o e n a=>?_,λb o e a=>?_,λb xs e=>tups b xs (I.base.tups b xs e),λb o xs e=>nH b o xs (I.base.nH b o xs e),λb ps e=>?_⟩,?_,λx c e=>?_,?_,λx c e=>?_,λp L=>?_,hok,I.len⟩;.exact keep b o (C b o e) y (j b o e a) (I.base.keep b o e n y a) (I.base.free b o e n a)
 .obtain⟨sl,t⟩:=I.base.slot b o e n y a;obtain⟨J,G⟩:=slot b _ (C b o e) y (j b o e a) t (I.base.free b o e n a);exact⟨J,G⟩
 .obtain⟨B,t⟩:=I.base.there b o e a;exact free b B (j b o e a) t (I.base.free b o e n a)
 .obtain⟨B,t⟩:=I.base.there b o e a;exact there b B (j b o e a) t
 .obtain⟨m1,t⟩:=I.base.qN b ps e;obtain⟨Q,G⟩:=qN b _ t;exact⟨m1++Q,by rw[G,Array.append_assoc]⟩
 . obtain⟨m,U,W⟩:=I.loc;refine⟨m,ns m U,λi x v t G Y=>?_⟩;obtain⟨u,r,l⟩:=W i x v t G Y;refine⟨u,r,?_⟩;rcases l with l|⟨k,c,e,z⟩;.exact .inl l
   .exact .inr ⟨k,c,e,g x c e _ z⟩
 .obtain⟨v,z⟩:=I.cell x c e;exact⟨v,g x c e v z⟩
 .obtain⟨m,⟨o,_,_,ho,_⟩,_⟩:=I.loc;exact free _ o (λz=>(f _ z).2.1 rfl) ho I.free
 .obtain⟨v,o,ho,hd⟩:=I.cell x c e;exact free c o (λz=>(f c z).2.2.1 x c e rfl) ho (I.iy x c e)
 .obtain⟨e,n,ne,N,d⟩:=I.pin p L;have E:p.1∉ch:=λz=>(f p.1 z).2.2.2 p L rfl;exact⟨keep p.1 p.2 ne N E e n,free p.1 p.2 E e n,ne,N,d⟩
theorem Inv.un(I:Inv X pins σ H s)(u:Un X.fs [] H H' s.heap h')(hok:jF X.prog X.w H' h'):Inv X pins σ H' {s with heap:=h',toks:=t'}:=by obtain⟨m,⟨o,es,ep,ho,r⟩,_⟩:=id I.loc;obtain⟨sl,j⟩:=u.any ho I.free (by simp);exact I.step (g':=s.gens) (d':=s.drawn) (ch:=[]) (λ_ z=>nomatch z) (λb o _ c _ e n=>u.keep b o e n c (by simp)) (λb o _ c _ e n=>u.slot b o e n c (by simp)) (λb o _ e n=>u.free b o e n (by simp)) (λb o _ e=>u.there b o e (by simp)) u.tups u.nH u.qN (λp k=>by obtain⟨q,f,g,a,l⟩:=k;rw[ho]at a;cases a;exact⟨_,f,g,j,l⟩) hok I.bare
theorem Inv.call{g':Array GenState}{d':Drawn}{ch:List Addr}(I:Inv X pins σ H s)(u:Un (frs X.stack) ch H H' s.heap h')(hok:jF X.prog X.w H' h')(l:AllBare g')(a:∀b∈ch,(b∈X.ex\/X.s₀.heap.objs.size<=b)/\b≠X.env.locals/\(∀x c,X.env.cells.lookup x=some c->c≠b)/\∀p∈X.pn++pins,p.1≠b):Inv X pins σ H' {s with heap:=h',gens:=g',drawn:=d',toks:=t'}:=by obtain⟨m,⟨o,es,ep,ho,r⟩,_⟩:=id I.loc;obtain⟨sl,g⟩:=u.any ho I.free λz=>(a _ z).2.1 rfl;exact I.step (ch:=ch) a (λb o g q hc e n=>u.keep b o e n (λz=>(mem_cons.mp (I.uv b z)).elim g q) hc) (λb o _ _ hc e n=>u.any e n hc) (λb o hc e n=>u.free b o e n hc) (λb o hc e=>u.there b o e hc) u.tups u.nH u.qN (λy t=>by obtain⟨B,j,k,f,v⟩:=t;rw[ho]at f;cases f;exact⟨_,j,k,g,v⟩) hok l
theorem Inv.turned{it:Addr}(I:Inv X pins σ H s)(k:∀b o,b≠it->s.heap.get? b=some o->h'.get? b=some o)(g:H it=none)(f:it≠X.env.locals)(h1:it∈X.ex\/X.s₀.heap.objs.size<=it)(j:∀x c,X.env.cells.lookup x=some c->c≠it)(l:∀p∈X.pn++pins,p.1≠it):Inv X pins σ H {s with heap:=h',toks:=t'}:=by
 have a:∀b u,H b=some u->b≠it:=λb u e z=>by rw[z,g]at e;cases e
 refine I.step (g':=s.gens) (d':=s.drawn) (ch:=[it]) (λb t=>?_) (λb o _ _ hc e _=>k b o (λz=>hc (by simp[z])) e) (λb o _ _ hc e _=>⟨o.slots,k b o (λz=>hc (by simp[z])) e⟩) (λ_ _ _ _ n=>n) (λb o hc e=>⟨o,k b o (λz=>hc (by simp[z])) e⟩) (λ_ _ e=>e) (λ_ _ _ e=>e) (λb ps e=>⟨#[],by rw[e];simp⟩) (λm y=>?_) (λb u e=>?_) I.bare
 . have e:b=it:=by simpa using t
   subst e;exact⟨h1,f,j,l⟩
 .obtain⟨o,es,ep,ho,r⟩:=y;exact⟨o,es,ep,k _ o (Ne.symm f) ho,r⟩
 . refine(I.hok b u e).stay (λc v hc q=>k c v ?_ q) (λ_ q=>q) λ_ _ q=>q;rcases hc with z|z;.rw[z];exact a b u e
   .exact a c _ z
theorem Inv.tok(I:Inv X pins σ H s)(t:Nat):Inv X pins σ H {s with toks:=t}:=I.un (h':=s.heap) (t':=t) Un.refl I.hok
theorem Inv.kept{t':Nat}(I:Inv X pins σ H s)(k:∀b u,s.heap.get? b=some u->h'.get? b=some u):Inv X pins σ H {s with heap:=h',toks:=t'}:=I.un (Un.kept k) (I.hok.kept k)
theorem Inv.laid{a:Addr}{o:HO}{t':Nat}(I:Inv X pins σ H s)(k:∀b u,s.heap.get? b=some u->h'.get? b=some u)(c:s.heap.objs.size<=a)(new:aY X.prog X.w (upd H a o) h' a o):Inv X pins σ (upd H a o) {s with heap:=h',toks:=t'}:=I.un (Un.laid k c (I.hok.fresh c)) (I.hok.laid k c new)
theorem Inv.write{x e:Addr}{o:HO}{t':Nat}(I:Inv X pins σ H s)(c:XR (H x))(he:e=x\/H e=some (.own x))(k:∀b u,b≠e->s.heap.get? b=some u->h'.get? b=some u)(a:∃u,h'.get? e=some u)(new:aY X.prog X.w (upd H x o) h' x o):Inv X pins σ (upd H x o) {s with heap:=h',toks:=t'}:=I.un (Un.write c he k a) (I.hok.write c he k a new)
theorem Inv.zN{a:List (Addr×Obj)}(I:Inv X pins σ H s)(h:∀p∈a,s.heap.get? p.1=some p.2/\H p.1=none/\p.1≠X.env.locals/\p.1∉X.fs/\∀v,p.2.data≠.cell v):Inv X a σ H s:=⟨I.ok,I.os,I.bare,I.base,I.loc,I.cell,I.free,I.iy,λp b=>(mem_append.mp b).elim (λz=>I.pin p (List.mem_append_left _ z)) (h p),I.hok,I.len⟩
theorem vI{N:List Str}(c:N.Nodup){j:Nat}{x:Str}(a:N[i]?=some x)(b:N[j]?=some x):i=j:=by obtain⟨h1,e⟩:=eN a;obtain⟨g,f⟩:=eN b;exact(List.getElem_inj c).mp (e.trans f.symm)
theorem rP{E:Value->Shared->Prop}{x:Str}{v:V}{u:Value}{Q:Unit->Shared->Prop}(I:Inv X pins σ H s)(hN:X.N.Nodup)(O:X.N[i]?=some x)(l:Loc X.env.scope x)(r:RelV v u)(h:∀s',Inv X pins (σ.set i (some v)) H s'->(∃a,SameBut a s.heap s'.heap/\(a=X.env.locals\/X.env.cells.lookup x=some a))->Q () s')(hf:X.fn x=true\/X.env.scope.names.lookup x=some .local:=by first|exact .inl rfl|exact .inr rfl|assumption):wpAny M A (storeName X.env x u) Q E s:=by
 obtain⟨m,hn,hl⟩:=id I.loc;have U:(X.env.scope.kind==.class||(X.env.scope.kind==.module&&X.env.locals !=X.env.globals))=false:=by rw[I.ok.kind];rfl
 have C:i<σ.length:=by rw[I.len];exact(eN O).1
 have Sd:=I.Sd;have f:∀{a:Addr}{h':Heap},(∃o,s.heap.get? a=some o/\H a=none)->SameBut a s.heap h'->jF X.prog X.w H h':=λ{a h'}ha hs b ob e=>by
  obtain⟨_,_,t⟩:=ha;refine(I.hok b ob e).stay (λc w' hc q=>(hs.2 c ?_).trans q) (λ_ q=>q) λ_ _ q=>q;rintro rfl;rcases hc with rfl|hc;.rw[t]at e;cases e
  .rw[t]at hc;cases hc
 rcases l with hk|hk
 . refine wpAny_storeName_local hk hn (λh' ac hs=>?_) U;obtain⟨oL,_,_,ae,_⟩:=id hn;refine h _ ⟨I.ok,I.os,I.bare,⟨λb o e n G l=>?_,λb o e n G l=>?_,I.base.free,λb o e l=>?_,I.base.tups,I.base.nH,I.base.qN⟩,⟨_,ac,λj y v' g B e3=>?_⟩,λy c e=>?_,I.free,I.iy,λp hp=>?_,f ⟨oL,ae,I.free⟩ hs,by simpa using I.len⟩ ⟨_,hs,.inl rfl⟩;.exact(hs.2 b (ne_of_lt (lt_of_lt_of_le (lt_size e) I.ok.above))).trans (I.base.keep b o e n G l)
   .obtain⟨sl,g⟩:=I.base.slot b o e n G l;exact⟨sl,(hs.2 b (ne_of_lt (lt_of_lt_of_le (lt_size e) I.ok.above))).trans g⟩
   .obtain⟨o',g⟩:=I.base.there b o e l;exact⟨o',(hs.2 b (ne_of_lt (lt_of_lt_of_le (lt_size e) I.ok.above))).trans g⟩
   . by_cases J:j=i;.subst J;rw[O]at g;cases g;rw[getElem?_set_self C]at B;cases B;exact⟨u,r,.inl ⟨hk,by simp⟩⟩
     . rw[dB J]at B;obtain⟨u',r',q⟩:=hl j y v' g B e3;refine⟨u',r',?_⟩;rcases q with⟨k,e⟩|⟨k,c,e,z⟩;.refine .inl ⟨k,?_⟩;have:y≠x:=λe=>J (vI hN g (e▸O));simp[this,e]
       .exact .inr ⟨k,c,e,z.sameBut hs (Sd y c e)⟩
   .obtain⟨w',z⟩:=I.cell y c e;exact⟨w',z.sameBut hs (Sd y c e)⟩
   .obtain⟨e,n,ne,nf,d⟩:=I.pin p hp;exact⟨(hs.2 p.1 ne).trans e,n,ne,nf,d⟩
 . have L:X.fn x=true:=by
    rcases hf with z|z;.exact z
    .rw[z]at hk;cases hk
   obtain⟨c,hc⟩:=I.ok.has x (.inl hk);obtain⟨w',z⟩:=I.cell x c hc;refine wpAny_storeName_cell I.ok.kind hk hc z (λh' W hs=>?_);obtain⟨oc,Y,af⟩:=id z;refine h {s with heap:=h'} ⟨I.ok,I.os,I.bare,⟨λb o e n G l=>?_,λb o e n G l=>?_,I.base.free,λb o e l=>?_,I.base.tups,I.base.nH,I.base.qN⟩,⟨m,hn.sameBut hs (Ne.symm (Sd x c hc)),λj y v' g B e3=>?_⟩,λy c' e=>?_,I.free,I.iy,λp hp=>?_,f ⟨oc,Y,I.iy x c hc⟩ hs,by simpa using I.len⟩ ⟨c,hs,.inr hc⟩;.exact(hs.2 b (ne_of_lt (lt_of_lt_of_le (lt_size e) (I.ok.cab x c L hc)))).trans (I.base.keep b o e n G l)
   .obtain⟨sl,g⟩:=I.base.slot b o e n G l;exact⟨sl,(hs.2 b (ne_of_lt (lt_of_lt_of_le (lt_size e) (I.ok.cab x c L hc)))).trans g⟩
   .obtain⟨o',g⟩:=I.base.there b o e l;exact⟨o',(hs.2 b (ne_of_lt (lt_of_lt_of_le (lt_size e) (I.ok.cab x c L hc)))).trans g⟩
   . by_cases J:j=i;.subst J;rw[O]at g;cases g;rw[getElem?_set_self C]at B;cases B;exact⟨u,r,.inr ⟨.inl hk,c,hc,W⟩⟩
     . rw[dB J]at B;obtain⟨u',r',q⟩:=hl j y v' g B e3;refine⟨u',r',?_⟩;rcases q with q|⟨k,c',e,z'⟩;.exact .inl q
       .refine .inr ⟨k,c',e,z'.sameBut hs ?_⟩;rintro rfl;exact J (vI hN g (I.ok.inj _ _ _ e hc▸O))
   . by_cases Z:c'=c;.subst Z;exact⟨_,W⟩
     .obtain⟨w2,z2⟩:=I.cell y c' e;exact⟨w2,z2.sameBut hs Z⟩
   .obtain⟨e,n,ne,nf,d⟩:=I.pin p hp;refine⟨(hs.2 p.1 ?_).trans e,n,ne,nf,d⟩;intro q;rw[q,Y]at e;have q':oc=p.2:=Option.some.inj e;exact d w' (by rw[<-q'];exact af)
theorem wB{E:Value->Shared->Prop}{x:Str}{v:V}{u:Value}{Q:Unit->Shared->Prop}(I:Inv X pins σ H s)(b:X.N.Nodup)(c:X.N[i]?=some x)(e:Loc X.env.scope x)(r:RelV v u)(h:∀a,Inv X pins (σ.set i (some v)) H a->Q () a)(f:X.fn x=true\/X.env.scope.names.lookup x=some .local:=by first|exact .inl rfl|exact .inr rfl|assumption):wpAny M A (storeName X.env x u) Q E s:=rP I b c e r (λa g _=>h a g) f
end
abbrev XK:=Value->Option Addr->Hp->Prop
noncomputable abbrev St:=List (Option V)
abbrev VK:=V->Hp->Prop
abbrev TE:=St->Hp->VK->Prop
abbrev TT:=St->Hp->(Bool->Hp->Prop)->Prop
abbrev TA:=St->Hp->(List V->Hp->Prop)->Prop
structure Ends where
 nx:St->Hp->Prop
 rt:VK
 bk:St->Hp->Prop:=λ_ _=>False
 ct:St->Hp->Prop:=λ_ _=>False
abbrev TS:=Ends->St->Hp->Prop
inductive EP(X:Cx)(pins:List (Addr×Obj))(σ:St)(Q:VK)(u:Value)(s':Shared):Prop where|mk(v:V)(H':Hp)(q0:Inv X pins σ H' s')(q1:RelV v u)(q2:Q v H')
def TP(X:Cx)(pins:List (Addr×Obj))(σ:St)(Q:Bool->Hp->Prop)(b:Bool)(a:Shared):Prop:=∃H',Inv X pins σ H' a/\Q b H'
inductive AP(X:Cx)(pins:List (Addr×Obj))(σ:St)(Q:List V->Hp->Prop)(us:List Value)(s':Shared):Prop where|mk(vs:List V)(H':Hp)(q0:Inv X pins σ H' s')(q1:Vals vs us)(q2:Q vs H')
def SP(X:Cx)(pins:List (Addr×Obj))(D:Ends)(f:Flow)(b:Shared):Prop:=match f with|.next=>∃a H',Inv X pins a H' b/\D.nx a H'|.brk=>∃a H',Inv X pins a H' b/\D.bk a H'|.cont=>∃a H',Inv X pins a H' b/\D.ct a H'|.ret u=>∃v a H',Inv X pins a H' b/\RelV v u/\D.rt v H'
def PE(X:Cx)(e:Expr)(t:TE):Prop:=∀(pins:List (Addr×Obj))(s:Shared)(σ:St)(H:Hp)(Q:VK),Inv X pins σ H s->t σ H Q->wpAny (model X.prog X.w) X.A (eval e X.env) (EP X pins σ Q) X.xe s
def PT(X:Cx)(e:Expr)(t:TT):Prop:=∀(pins:List (Addr×Obj))(s:Shared)(σ:St)(H:Hp)(Q:Bool->Hp->Prop),Inv X pins σ H s->t σ H Q->wpAny (model X.prog X.w) X.A (isTrue e X.env (eval e X.env)) (TP X pins σ Q) X.xe s
def PW(X:Cx)(e:Expr)(t:TT):Prop:=∀(a:Sem Value)(pins:List (Addr×Obj))(s:Shared)(σ:St)(H:Hp)(Q:Bool->Hp->Prop),Inv X pins σ H s->t σ H Q->wpAny (model X.prog X.w) X.A (isTrue e X.env a) (TP X pins σ Q) X.xe s
theorem PW.pt{e:Expr}{t:TT}(h:PW X e t):PT X e t:=h _
def PA(X:Cx)(es:List Expr)(t:TA):Prop:=∀(pos:Pos)(pins:List (Addr×Obj))(s:Shared)(σ:St)(H:Hp)(Q:List V->Hp->Prop),Inv X pins σ H s->t σ H Q->wpAny (model X.prog X.w) X.A (spliced (backTo pos (starEach es X.env))) (AP X pins σ Q) X.xe s
def PS(X:Cx)(st:Stmt)(t:TS):Prop:=∀(pins:List (Addr×Obj))(s:Shared)(σ:St)(H:Hp)(D:Ends),Inv X pins σ H s->t D σ H->wpAny (model X.prog X.w) X.A (exec st X.env) (SP X pins D) X.xe s
def qC(X:Cx)(st:List Stmt)(t:TS):Prop:=∀(pins:List (Addr×Obj))(s:Shared)(σ:St)(H:Hp)(D:Ends),Inv X pins σ H s->t D σ H->wpAny (model X.prog X.w) X.A (execs st X.env) (SP X pins D) X.xe s
theorem bU{b:Type}{t:Sem b}{Q c:b->Shared->Prop}{E:Value->Shared->Prop}(h:wpAny M A t Q E s)(e:∀a s,Q a s->c a s):wpAny M A t c E s:=wpAny_mono h e λ_ _ x=>x
section
variable{X:Cx}
def jW(i:Nat):TE:=λσ H Q=>∃v,σ[i]?=some (some v)/\Q v H
def tC(v:V):TE:=λ_ H Q=>Q v H
theorem aP{x:Str}(f:X.N[i]?=some x)(g:vC X.env.scope x)(hd:(x==("__debug__":Str))=false:=by decide)(b:(x==("__classdict__":Str))=false:=by decide):PE X (.Name x pos) (jW i):=by
 intro pins s σ H Q I h;obtain⟨v,e,h⟩:=h;obtain⟨m,j,k⟩:=I.loc;obtain⟨u,r,l⟩:=k i x v f e g;have fin:EP X pins σ Q u s:=⟨v,H,I,r,h⟩;rcases l with⟨hk,n⟩|⟨hk,c,hc,a⟩;.exact wpAny_Name (wpAny_loadName_local I.ok.kind hk j n fin) hd
 . rcases hk with hk|hk;.exact wpAny_Name (wpAny_loadName_cell I.ok.kind hk hc a fin) hd
   .exact wpAny_Name (wpAny_loadName_free I.ok.kind hk hc a fin b) hd
theorem aW{i j pos}:PE X (.Constant (.int i) j pos) (tC (.int i)):=λ_ _ _ H _ I h=>wpAny_Constant_int ⟨.int i,H,I.tok _,⟨_,rfl⟩,h⟩
theorem W6{b j pos}:PE X (.Constant (.bool b) j pos) (tC (.bl b)):=λ_ _ _ H _ I h=>Constant_bool ⟨.bl b,H,I,rfl,h⟩
theorem Q3{j pos}:PE X (.Constant .none j pos) (tC .non):=λ_ _ _ H _ I h=>Constant_none ⟨.non,H,I,rfl,h⟩
def Gl(X:Cx)(x:Str):Prop:=X.env.kindOf x=some .globalImplicit
theorem J0{E:Value->Shared->Prop}{σ:St}{x:Str}{u:Value}{Q:Value->Shared->Prop}(I:Inv X pins σ H s)(a:Gl X x)(b:X.mg x=some u)(h:Q u s)(hd:(x==("__debug__":Str))=false:=by decide):wpAny (model X.prog X.w) X.A (eval (.Name x pos) X.env) Q E s:=Calls.Name_function_global I.ok.kind a (Calls.loadGlobal_global (by rw[I.ok.glob];exact I.mod.glob.keeps I.bk) b h) hd
theorem lO{E:Value->Shared->Prop}{σ:St}{x:Str}{u:Value}{Q:Value->Shared->Prop}(I:Inv X pins σ H s)(a:Gl X x)(b:X.mg x=none)(c:bootBuiltins x=some u)(h:Q u s)(e:x≠"__name__":=by decide)(hd:(x==("__debug__":Str))=false:=by decide):wpAny (model X.prog X.w) X.A (eval (.Name x pos) X.env) Q E s:=by obtain⟨g,h1,f⟩:=I.mod.blt;exact Calls.Name_function_global I.ok.kind a (Calls.loadGlobal_builtin (by rw[I.ok.glob];exact I.mod.glob.keeps I.bk) b (by rw[I.ok.blt];exact h1.keeps I.bk) ((f x e).trans c) h) hd
theorem J7{x:Str}{v:V}{u:Value}(a:Gl X x)(b:X.mg x=none)(c:bootBuiltins x=some u)(r:RelV v u)(e:x≠"__name__":=by decide)(hd:(x==("__debug__":Str))=false:=by decide):PE X (.Name x pos) (tC v):=λ_ _ _ H _ I h=>lO I a b c ⟨v,H,I,r,h⟩ e hd
variable{a b:Expr}{ta tb:TE}{pos:Pos}
def PC(X:Cx)(op:CmpOp)(a b:Expr)(t:TE):Prop:=∀(pins:List (Addr × Obj))(s:Shared)(σ:St)(H:Hp)(Q:VK),Inv X pins σ H s->t σ H Q->wpAny (model X.prog X.w) X.A (eval a X.env) (λv c=>wpAny (model X.prog X.w) X.A (eval b X.env) (λu e=>wpAny (model X.prog X.w) X.A (compareOp op v u) (EP X pins σ Q) X.xe e) X.xe c) X.xe s
def tB(t:TE):TT:=λσ H Q=>t σ H λx e=>∃c,x=.bl c/\Q c e
theorem OJ{t:TE}(h:PC X op a b t)(h1:behindInMarks op b=false:=by first|exact Yg _ (by decide) (by decide)|rfl):PT X (.Compare a [op] [b] pos) (tB t):=by intro pins s σ H Q I e;refine wpAny_isTrue_Compare1 (bU (h pins s σ H _ I e) λv s1 h1=>bU h1 λu s2 f=>bU f λc s3⟨x,H1,I1,r1,q1⟩=>?_) h1;obtain⟨d,rfl,q⟩:=q1;cases r1;exact wpAny_truthy_bool ⟨H1,I1,q⟩
theorem Q4{e:Expr}{t:TE}(h:PE X e t)(he:∀c,isTrue e X.env c=(do let v<-c;standAt e.pos;holding [v] (truthy v)):=by intro _;rfl):PT X e (tB t):=by intro pins s σ H Q I f;refine isTrue_plain (bU (h pins s σ H _ I f) λv s1⟨x,H1,I1,r1,q1⟩=>?_) (he _);obtain⟨d,rfl,q⟩:=q1;cases r1;exact wpAny_truthy_bool ⟨H1,I1,q⟩
variable{tA tB':TT}{rest:List Expr}
def Vi(t u:TT):TT:=λσ H Q=>t σ H λc e=>if c=true then u σ e Q else Q false e
def tOr(t u:TT):TT:=λσ H Q=>t σ H λc e=>if c=true then Q true e else u σ e Q
def acw(t:TT):TT:=λσ H Q=>t σ H λc e=>Q (!c) e
theorem Aq(f:PT X a tA):PW X (.BoolOp .And [a] pos) tA:=by intro wh pins s σ H Q I h;refine isTrue_and (bU (f pins s σ H Q I h) λc s1 e=>?_);cases c with|true=>exact isTrue_and_nil e|false=>exact e
theorem RW(f:PT X a tA):PW X (.BoolOp .Or [a] pos) tA:=by intro wh pins s σ H Q I h;refine isTrue_or (bU (f pins s σ H Q I h) λc s1 e=>?_);cases c with|false=>exact isTrue_or_nil e|true=>exact e
theorem Es(f:PT X a tA)(g:PW X (.BoolOp .And (b::rest) pos) tB'):PW X (.BoolOp .And (a::b::rest) pos) (Vi tA tB'):=by intro wh pins s σ H Q I h;refine isTrue_and (bU (f pins s σ H _ I h) λc s1⟨e,I1,q1⟩=>?_);cases c with|true=>exact g wh pins s1 σ e Q I1 q1|false=>exact⟨e,I1,q1⟩
theorem Vw(f:PT X a tA)(g:PW X (.BoolOp .Or (b::rest) pos) tB'):PW X (.BoolOp .Or (a::b::rest) pos) (tOr tA tB'):=by intro wh pins s σ H Q I h;refine isTrue_or (bU (f pins s σ H _ I h) λc s1⟨e,I1,q1⟩=>?_);cases c with|true=>exact⟨e,I1,q1⟩|false=>exact g wh pins s1 σ e Q I1 q1
theorem Q0(e:PT X a tA):PT X (.UnaryOp .Not a pos) (acw tA):=by intro pins s σ H Q I h;exact isTrue_not (e pins s σ H (λc f=>Q (!c) f) I h)
def VM(ta tb:TE):TE:=λσ H Q=>ta σ H λx e=>∃c,x=.bl c/\if c=true then tb σ e Q else Q (.bl false) e
def W5(ta:TE):TE:=λσ H Q=>ta σ H λx e=>∃c,x=.bl c/\Q (.bl (!c)) e
theorem RX{op}{t:TE}(h:PE X a t):PE X (.BoolOp op [a] pos) t:=λpins s σ H Q I c=>BoolOp_one (h pins s σ H Q I c)
theorem Oo(f:PE X a ta)(g:PE X (.BoolOp .And (b::rest) pos) tb):PE X (.BoolOp .And (a::b::rest) pos) (VM ta tb):=by intro pins s σ H Q I h;refine BoolOp_and (bU (f pins s σ H _ I h) λv s1⟨x,H1,I1,r1,e⟩=>?_);obtain⟨c,rfl,e⟩:=e;cases r1;refine wpAny_truthy_bool ?_;cases c with|true=>exact g pins s1 σ H1 Q I1 e|false=>exact⟨.bl false,H1,I1,rfl,e⟩
theorem QZ(f:PE X a ta):PE X (.UnaryOp .Not a pos) (W5 ta):=by intro pins s σ H Q I h;refine UnaryOp_ (bU (f pins s σ H _ I h) λv s1⟨x,H1,I1,r1,e⟩=>?_);obtain⟨c,rfl,e⟩:=e;cases r1;exact not_of (wpAny_truthy_bool ⟨.bl (!c),H1,I1,rfl,e⟩)
def tIf(t:TT)(ta tb:TE):TE:=λσ H Q=>t σ H λc e=>if c=true then ta σ e Q else tb σ e Q
theorem Hu{c:Expr}(hc:PT X c tA)(f:PE X a ta)(g:PE X b tb):PE X (.IfExp c a b pos) (tIf tA ta tb):=by intro pins s σ H Q I h;refine wpAny_IfExp (bU (hc pins s σ H _ I h) λd s1⟨e,I1,q1⟩=>?_);cases d with|true=>exact f pins s1 σ e Q I1 q1|false=>exact g pins s1 σ e Q I1 q1
end
def eG(K:PySem.W.Frag)(H:Hp)(a:Addr)(xs:List V):Prop:=Rd H a (.lst xs)\/∃(o:Obj)(b:Array Value)(n:Nat),K.lookup a=some o/\o.cls=.type "list"/\o.dict=none/\o.data=.seq b n/\b.size<=sizeLine/\Vals xs b.toList
def jG(K:PySem.W.Frag)(H:Hp)(a:Addr)(xs:List V):Prop:=Rd H a (.tup xs)\/∃(o:Obj)(b:Array Value)(n:Nat),K.lookup a=some o/\o.cls=.type "tuple"/\o.data=.seq b n/\b.size<=sizeLine/\Vals xs b.toList
noncomputable def aaQ:Value->Option V|.none=>some .non|.bool b=>some (.bl b)|.int i _=>some (.int i)|.str x _=>some (.str x)|.bytes b _=>some (.Ma b)|.float b _=>some (.flt b)|.ref a=>some (.ref a)|.type n=>some (.ty n)|_=>none
theorem RelV.abs{x:V}{u:Value}(r:RelV x u):aaQ u=some x:=by cases x with|non=>cases r;rfl|bl _=>cases r;rfl|int _=>obtain⟨t,rfl⟩:=r;rfl|str _=>obtain⟨t,rfl⟩:=r;rfl|Ma _=>obtain⟨t,rfl⟩:=r;rfl|flt _=>obtain⟨t,rfl⟩:=r;rfl|ref _=>cases r;rfl|ty _=>cases r;rfl
theorem RelV.inj{x y:V}{u:Value}(r:RelV x u)(q:RelV y u):x=y:=Option.some.inj (r.abs.symm.trans q.abs)
theorem Vals.inj:∀{xs ys:List V}{us:List Value},Vals xs us->Vals ys us->xs=ys|_,_,_,.nil,.nil=>rfl|_,_,_,.cons r t,.cons a t'=>by rw[r.inj a,Vals.inj t t']
section
variable{X:Cx}{pins:List (Addr×Obj)}{σ:St}{H:Hp}{s:Shared}{a:Addr}{xs ys:List V}
theorem eG.of(h:H a=some (.lst xs)):eG K H a xs:=.inl (.inl h)
theorem jG.of(h:H a=some (.tup xs)):jG K H a xs:=.inl (.inl h)
theorem Inv.list(I:Inv X pins σ H s)(h:eG X.K H a xs):∃b:List Value,Vals xs b/\PlainL s.heap a b.toArray/\xs.length<=sizeLine:=by
 rcases h with h|⟨o,b,n,c,hc,hd,hs,hz,r⟩;.obtain⟨z,b,n,r,e⟩:=h.ok I.hok;exact⟨b,r,⟨_,n,e,rfl,rfl,rfl⟩,z⟩
 .refine⟨b.toList,r,⟨o,n,I.Ph a o c,hc,hd,by simpa using hs⟩,?_⟩;have e:=r.length;simp only[length_toList]at e;omega
theorem Inv.tuple(I:Inv X pins σ H s)(h:jG X.K H a xs):∃b:List Value,Vals xs b/\IsTup s.heap a b.toArray/\xs.length<=sizeLine:=by
 rcases h with h|⟨o,b,n,c,hc,hs,hz,r⟩;.obtain⟨z,b,r,p⟩:=h.ok I.hok;exact⟨b,r,p,z⟩
 .refine⟨b.toList,r,⟨o,I.Ph a o c,hc,n,by simpa using hs⟩,?_⟩;have e:=r.length;simp only[length_toList]at e;omega
theorem Inv.wg(I:Inv X pins σ H s)(h:eG X.K H a xs)(h':eG X.K H a ys):xs=ys:=by
 obtain⟨b,r,⟨o,n,e,_,_,d⟩,_⟩:=I.list h;obtain⟨its',f,⟨g,j,c,_,_,d'⟩,_⟩:=I.list h';rw[e]at c;cases c;rw[d]at d';injection d' with d1 _;have:b=its':=by simpa using congrArg toList d1
 subst this;exact r.inj f
theorem Inv.qR(I:Inv X pins σ H s)(h:jG X.K H a xs)(h':jG X.K H a ys):xs=ys:=by
 obtain⟨b,r,⟨o,e,_,n,d⟩,_⟩:=I.tuple h;obtain⟨its',f,⟨g,c,_,j,d'⟩,_⟩:=I.tuple h';rw[e]at c;cases c;rw[d]at d';injection d' with d1 _;have:b=its':=by simpa using congrArg toList d1
 subst this;exact r.inj f
end
noncomputable abbrev Cx.wish(X:Cx)(E:Value->Shared->Prop):Cx:={X with xe:=E}
noncomputable abbrev Cx.Vu(X:Cx):Cx:=X.wish λ_ _=>False
theorem Cx.Ok.wish{X:Cx}(ok:X.Ok)(E:Value->Shared->Prop):(X.wish E).Ok:=⟨ok.mod,ok.kind,ok.glob,ok.blt,ok.above,ok.inj,ok.has,ok.cab,ok.hd,ok.frames,ok.stk,ok.exf,ok.bs,ok.NZ,ok.Hv,ok.Mg,ok.qw,ok.U8⟩
theorem Cx.Ok.jf{E:Value->Shared->Prop}(ok:(X.wish E).Ok):X.Ok:=⟨ok.mod,ok.kind,ok.glob,ok.blt,ok.above,ok.inj,ok.has,ok.cab,ok.hd,ok.frames,ok.stk,ok.exf,ok.bs,ok.NZ,ok.Hv,ok.Mg,ok.qw,ok.U8⟩
section
variable{X:Cx}{pins:List (Addr×Obj)}{σ:St}{H:Hp}{s:Shared}{E:Value->Shared->Prop}
theorem Inv.wish(I:Inv X pins σ H s)(E:Value->Shared->Prop):Inv (X.wish E) pins σ H s:=⟨I.ok.wish E,I.os,I.bare,I.base,I.loc,I.cell,I.free,I.iy,I.pin,I.hok,I.len⟩
theorem Inv.jf(I:Inv (X.wish E) pins σ H s):Inv X pins σ H s:=⟨I.ok.jf,I.os,I.bare,I.base,I.loc,I.cell,I.free,I.iy,I.pin,I.hok,I.len⟩
theorem SP.jf{D:Ends}{f:Flow}{b:Shared}(h:SP (X.wish E) pins D f b):SP X pins D f b:=by cases f with|next=>obtain⟨a,H',I,q⟩:=h;exact⟨a,H',I.jf,q⟩|brk=>obtain⟨a,H',I,q⟩:=h;exact⟨a,H',I.jf,q⟩|cont=>obtain⟨a,H',I,q⟩:=h;exact⟨a,H',I.jf,q⟩|ret u=>obtain⟨v,a,H',I,r,q⟩:=h;exact⟨v,a,H',I.jf,r,q⟩
theorem qC.Vu{st:List Stmt}{t:TS}(h:qC X.Vu st t):qC X st t:=λpins s σ H D I a=>wpAny_mono (h pins s σ H D (I.wish _) a) (λ_ _ q=>q.jf) λ_ _ z=>False.elim z
end
section
variable{X:Cx}{st:Stmt}{rest:List Stmt}{t u:TS}{e:Expr}{te:TE}{pos:Pos}
def pZ:TS:=λD σ H=>D.nx σ H
def iu(t u:TS):TS:=λD σ H=>t {D with nx:=u D} σ H
theorem jB:qC X [] pZ:=λ_ _ σ H _ I h=>wpAny_execs_nil ⟨σ,H,I,h⟩
theorem bR(h1:PS X st t)(b:qC X rest u):qC X (st::rest) (iu t u):=by intro pins s σ H D I h;refine wpAny_execs_cons (bU (h1 pins s σ H {D with nx:=u D} I h) λf s1 q=>?_);cases f with|next=>obtain⟨a,H',c,q⟩:=q;exact b pins s1 a H' D c q|ret v=>exact q|brk=>exact q|cont=>exact q
theorem Inv.quiet{σ:St}(I:Inv X pins σ H s):interactive X.env=false:=by simp[interactive,I.ok.kind]
def Mw(te:TE):TS:=λD σ H=>te σ H λ_ a=>D.nx σ a
theorem tE(he:PE X e te)(hs:swapsWith e none pos.line X.env=pure false:=by rfl):PS X (.Expr e pos) (Mw te):=by intro pins s σ H D I h;exact wpAny_Expr_any (bU (he pins s σ H _ I h) λv s1⟨x,H1,I1,r1,q1⟩=>⟨σ,H1,I1,q1⟩) I.quiet hs
def RL(te:TE):TS:=λD σ H=>te σ H D.rt
theorem tL(he:PE X e te):PS X (.Return (some e) pos) (RL te):=by intro pins s σ H D I h;exact wpAny_Return_some (bU (he pins s σ H _ I h) λv s1⟨x,H1,I1,r1,q1⟩=>⟨x,σ,H1,I1,r1,q1⟩)
def V4(c:TT)(t u:TS):TS:=λD σ H=>c σ H λb a=>if b=true then t D σ a else u D σ a
theorem Hg{c:Expr}{a b:List Stmt}{f:TT}(hc:PT X c f)(j:qC X a t)(k:qC X b u):PS X (.If c a b pos) (V4 f t u):=by intro pins s σ H D I h;refine wpAny_If (bU (hc pins s σ H _ I h) λd s1⟨g,I1,q1⟩=>?_);cases d with|true=>exact j pins s1 σ g D I1 q1|false=>exact k pins s1 σ g D I1 q1
end
abbrev TG:=V->St->Hp->(St->Hp->Prop)->Prop
abbrev Lp:=List V->St->Hp->(St->Hp->Prop)->Prop
def PG(X:Cx)(a:Expr)(t:TG):Prop:=∀(pins:List (Addr × Obj))(s:Shared)(σ:St)(H:Hp)(v:V)(u:Value)(Q:St->Hp->Prop),Inv X pins σ H s->RelV v u->t v σ H Q->wpAny (model X.prog X.w) X.A (assign a X.env u) (λ_ c=>∃b H',Inv X pins b H' c/\Q b H') X.xe s
def Y6(X:Cx)(b:List Expr)(t:Lp):Prop:=∀(pins:List (Addr × Obj))(s:Shared)(σ:St)(H:Hp)(vs:List V)(us:List Value)(Q:St->Hp->Prop),Inv X pins σ H s->Vals vs us->t vs σ H Q->wpAny (model X.prog X.w) X.A (assignInOrder ((assignEach b X.env).map (·.2)) us) (λ_ c=>∃a H',Inv X pins a H' c/\Q a H') X.xe s
abbrev Hn:=V->V->V->Hp->(Hp->Prop)->Prop
def Ol(X:Cx)(t:Hn):Prop:=∀(pins:List (Addr × Obj))(s:Shared)(σ:St)(H:Hp)(o i v:V)(a iv u:Value)(Q:Hp->Prop),Inv X pins σ H s->RelV o a->RelV i iv->RelV v u->t o i v H Q->wpAny (model X.prog X.w) X.A (setItem a iv u) (λ_ b=>∃H',Inv X pins σ H' b/\Q H') X.xe s
abbrev ZD:=V->V->Hp->VK->Prop
def PIp(X:Cx)(op:Operator)(t:ZD):Prop:=∀(pins:List (Addr × Obj))(s:Shared)(σ:St)(H:Hp)(x y:V)(v u:Value)(Q:VK),Inv X pins σ H s->RelV x v->RelV y u->t x y H Q->wpAny (model X.prog X.w) X.A (inplaceOp op v u) (EP X pins σ Q) X.xe s
section
variable{X:Cx}{pos:Pos}
def gC(i:Nat):TG:=λv σ H Q=>Q (σ.set i (some v)) H
theorem aO{x:Str}(a:X.N.Nodup)(b:X.N[i]?=some x)(c:Loc X.env.scope x)(e:X.fn x=true\/X.env.scope.names.lookup x=some .local:=by first|exact .inl rfl|exact .inr rfl|assumption):PG X (.Name x pos) (gC i):=by intro pins s σ H v u Q I r h;exact wpAny_assign_Name (wB I a b c r (λg f=>⟨_,H,f,h⟩) e)
def VH:Lp:=λvs σ H Q=>vs=[]/\Q σ H
def MN(t:TG)(u:Lp):Lp:=λvs σ H Q=>∃v r,vs=v::r/\t v σ H λa H'=>u r a H' Q
theorem iD:Y6 X [] VH:=by intro pins s σ H vs us Q I r h;obtain⟨e,h⟩:=h;subst e;cases r;exact assignInOrder_nil ⟨σ,H,I,h⟩
theorem bL{e:Expr}{es:List Expr}{t:TG}{u:Lp}(h1:PG X e t)(b:Y6 X es u)(hs:(assignEach (e::es) X.env).map (·.2)=assign e X.env::(assignEach es X.env).map (·.2):=by rfl):Y6 X (e::es) (MN t u):=by intro pins s σ H vs us Q I r h;obtain⟨v,g,c,h⟩:=h;subst c;cases r with|cons r f=>rw[hs];refine assignInOrder_cons (bU (h1 pins s σ H _ _ _ I r h) λ_ s1⟨a,H1,I1,q1⟩=>?_);exact b pins s1 a H1 _ _ Q I1 f q1
def Wm(K:PySem.W.Frag)(n:Nat)(t:Lp):TG:=λv σ H Q=>∃a xs,v=.ref a/\jG K H a xs/\xs.length=n/\t xs σ H Q
theorem jR{es:List Expr}{k:Nat}{t:Lp}{n:Nat}(hc:X.calm=true)(h:Y6 X es t)(g:(assignEach es X.env).length=n:=by rfl)(hst:(assignEach es X.env).findIdx? (·.1)=none:=by rfl):PG X (.Tuple es k pos) (Wm X.K n t):=by intro pins s σ H v u Q I r c;obtain⟨a,xs,j,l,m,c⟩:=c;subst j;cases r;obtain⟨p,f,ht,hz⟩:=I.tuple l;refine assign_Tuple_tuple (I.ok.hd hc) ht (by simp[g,<-m,f.length]) hst λh' q=>?_;have x:Inv X pins σ H {s with heap:=h'}:=I.kept (t':=s.toks) λb o e=>q b o (ne_of_lt (lt_size e)) e;exact h pins _ σ H xs _ Q x (by simpa using f) c
def J3(to a:TE)(t:Hn):TG:=λv σ H Q=>to σ H λo b=>a σ b λi c=>t o i v c λe=>Q σ e
theorem ue{o i:Expr}{to b:TE}{t:Hn}(ho:PE X o to)(c:PE X i b)(hs:Ol X t)(e:∀ v,assign (.Subscript o i pos) X.env v=(do
  let a<-holding [v] (eval o X.env)let iv<-holding [v,a] (eval i X.env)standAt pos
  holding [v,a,iv] (setItem a iv v)release [v,a,iv] []):=by intro _;rfl):PG X (.Subscript o i pos) (J3 to b t):=by intro pins s σ H v u Q I r h;rw[e];refine wpAny_bind (wpAny_holding (bU (ho pins s σ H _ I h) λa s1⟨x,H1,I1,r1,q1⟩=>?_));refine wpAny_bind (wpAny_holding (bU (c pins s1 σ H1 _ I1 q1) λiv s2⟨y,H2,I2,r2,q2⟩=>?_));refine wpAny_bind (wpAny_standAt (wpAny_bind (wpAny_holding (bU (hs pins s2 σ H2 x y v a iv u _ I2 r1 r2 r q2) λ_ s3⟨f,I3,q3⟩=>?_))));exact wpAny_release ⟨σ,f,I3,q3⟩
def qM(te:TE)(g:TG):TS:=λD σ H=>te σ H λx a=>g x σ a D.nx
theorem oG{e:Expr}{te:TE}{g:TG}(he:PE X e te)(a:PG X tg g)(hs:swapsWithSole [tg] e pos.line X.env=pure false:=by rfl)(b:swappedStores [tg] e X.env=pure none:=by rfl)(h1:(assignEach [tg] X.env).map (·.2)=[assign tg X.env]:=by rfl):PS X (.Assign [tg] e pos) (qM te g):=by intro pins s σ H D I h;refine wpAny_Assign_stores (bU (he pins s σ H _ I h) λv s1⟨x,H1,I1,r1,q1⟩=>?_) hs b;rw[h1];exact bU (a pins s1 σ H1 x v _ I1 r1 q1) λ_ s2 q=>q
theorem jQ{x:Str}{e:Expr}{te:TE}{a:Pos}(b:X.N.Nodup)(c:X.N[i]?=some x)(f:Loc X.env.scope x)(he:PE X e te)(hs:swapsWith e (some (.Name x a)) pos.line X.env=pure false:=by rfl)(g:X.fn x=true\/X.env.scope.names.lookup x=some .local:=by first|exact .inl rfl|exact .inr rfl|assumption):PS X (.Assign [.Name x a] e pos) (qM te (gC i)):=by intro pins s σ H D I h;refine wpAny_Assign_Name (bU (he pins s σ H _ I h) λv s1⟨y,H1,I1,r1,q1⟩=>?_) hs;exact wB I1 b c f r1 (λs2 j=>⟨_,H1,j,q1⟩) g
def Wi(to b te:TE)(c:V->V->Hp->VK->Prop)(a:ZD)(e:Hn):TS:=λD σ H=>to σ H λo f=>b σ f λi g=>c o i g λx j=>te σ j λy k=>a x y k λz l=>e o i z l λm=>D.nx σ m
def Wv(X:Cx)(t:V->V->Hp->VK->Prop):Prop:=∀(pins:List (Addr × Obj))(s:Shared)(σ:St)(H:Hp)(o i:V)(a iv:Value)(Q:VK),Inv X pins σ H s->RelV o a->RelV i iv->t o i H Q->wpAny (model X.prog X.w) X.A (getItem a iv) (EP X pins σ Q) X.xe s
theorem Kc{o i e:Expr}{to g te:TE}{j:V->V->Hp->VK->Prop}{b:ZD}{k:Hn}{op:Operator}{c:Pos}(ho:PE X o to)(n:PE X i g)(p:Wv X j)(he:PE X e te)(q:PIp X op b)(hs:Ol X k)(r:∀a iv new,augStore i a iv new=(do holding [new,a,iv] (setItem a iv new);release [new,a,iv] [];pure .next):=by intros;rfl):PS X (.AugAssign (.Subscript o i c) op e pos) (Wi to g te j b k):=by intro pins s σ H D I h;refine wpAny_AugAssign_SubscriptAny (bU (ho pins s σ H _ I h) λa s1⟨l,H1,I1,r1,q1⟩=>?_) r;refine bU (n pins s1 σ H1 _ I1 q1) λiv s2⟨m,H2,I2,r2,q2⟩=>?_;refine bU (p pins s2 σ H2 l m a iv _ I2 r1 r2 q2) λf s3⟨t,H3,I3,r3,q3⟩=>?_;refine bU (he pins s3 σ H3 _ I3 q3) λv s4⟨u,H4,I4,r4,q4⟩=>?_;refine bU (q pins s4 σ H4 t u f v _ I4 r3 r4 q4) λnew s5⟨x,H5,I5,r5,q5⟩=>?_;exact bU (hs pins s5 σ H5 l m x a iv new _ I5 r1 r2 r5 q5) λ_ s6⟨y,I6,q6⟩=>⟨σ,y,I6,q6⟩
def ipI(f:Int->Int->Int):ZD:=λx y H Q=>∃i j,x=.int i/\y=.int j/\Q (.int (f i j)) H
theorem RB:PIp X .Add (ipI λi j=>i+j):=by intro pins s σ H x y v u Q I r1 a h;obtain⟨i,j,b,c,q⟩:=h;subst b;subst c;obtain⟨t,rfl⟩:=r1;obtain⟨t',rfl⟩:=a;exact iadd_int ⟨.int _,H,I.tok _,⟨_,rfl⟩,q⟩
end
section
variable{X:Cx}{pos:Pos}
def GF(c:TT)(g:TS):TS:=λD σ H=>∃W:Nat->St->Hp->Prop,(∃m,W m σ H)/\∀m σ H,W m σ H->c σ H λb e=>if b=true then ∃N:St->Hp->Prop,(∀a H',N a H'->∃f,f<m/\W f a H')/\g {D with nx:=N,ct:=N,bk:=D.nx} σ e else D.nx σ e
theorem wN{c:Expr}{body:List Stmt}{u:TT}{x:TS}(y:PassesOwn (model X.prog X.w) X.A X.env X.xe)(hc:PT X c u)(E:qC X body x):PS X (.While c body [] pos) (GF u x):=by intro pins s σ H D I h;obtain⟨W,⟨m0,G⟩,g⟩:=h;refine wpAny_While (codeAny_whileLoop (λn J=>∃j H',Inv X pins j H' J/\W n j H') ?_ m0 ⟨σ,H,I,G⟩);rintro n s1⟨e,z,L,O⟩;refine wpAny_passesOwn y (bU (hc pins s1 e z _ L (g n e z O)) λb s2⟨B,I2,l⟩=>?_);cases b with
 |true=>obtain⟨N,C,l⟩:=l;rw[if_pos rfl];refine wpAny_passesOwn y (bU (E pins s2 e B _ I2 l) λf s3 m=>?_);cases f with|next=>obtain⟨a,k,o,p⟩:=m;obtain⟨q,r,t⟩:=C a k p;exact⟨q,r,a,k,o,t⟩|cont=>obtain⟨a,k,o,p⟩:=m;obtain⟨q,r,t⟩:=C a k p;exact⟨q,r,a,k,o,t⟩|brk=>exact m|ret v=>exact m
 |false=>rw[if_neg Bool.false_ne_true];exact wpAny_execs_nil ⟨e,B,I2,l⟩
end
structure It where
 go:Nat->Hp->Prop
 N6:Nat->Hp->V->Hp->Prop
 stop:Nat->Hp->Prop
def oX(X:Cx)(pins:List (Addr×Obj))(H:Hp)(b:Addr):Prop:=H b=none/\b≠X.env.locals/\b∉X.fs/\(b∈X.ex\/X.s₀.heap.objs.size<=b)/\(∀x c,X.env.cells.lookup x=some c->c≠b)/\∀p∈X.pn++pins,p.1≠b
theorem Inv.G9{σ:St}{H':Hp}{b:Addr}(I:Inv X pins σ H s)(a:s.heap.objs.size<=b)(f:H' b=none):oX X pins H' b:=by
 refine⟨f,Nat.ne_of_gt (lt_of_lt_of_le I.lt a),I.abL a,.inr (le_trans I.sz a),λx c e z=>?_,λp g z=>?_⟩;.obtain⟨v,q⟩:=I.cell x c e;exact absurd (lt_of_lt_of_le q.lt (by rw[z];exact a)) (lt_irrefl _)
 .exact absurd (lt_of_lt_of_le (lt_size (I.pin p g).1) (by rw[z];exact a)) (lt_irrefl _)
structure Turn(P:Program)(w:World)(K:PySem.W.Frag)(tg:Expr)(J:It)(fp:List Addr)(it:Addr)(tn:Nat->Heap->Prop):Prop where
 mem:it∈fp
 obj:∀i h,tn i h->∀b∈fp,∃o,h.get? b=some o/\∀v,o.data≠.cell v
 keep:∀i h h',tn i h->(∀b∈fp,∀o,h.get? b=some o->h'.get? b=some o)->tn i h'
 item:∀(X:Cx),X.prog=P->X.w=w->X.K=K->X.calm=true->∀(i:Nat)(pins:List (Addr×Obj))(s:Shared)(σ:St)(H:Hp)(E:Value->Shared->Prop),Inv X pins σ H s->(∀b∈fp,oX X pins H b)->tn i s.heap->J.go i H->wpAny (model P w) X.A (pyNext (.ref it)) (λr s1=>∃u,r=some u/\wpAny (model P w) X.A (letOwnedTupleGo tg (.ref it) u) (λ_ s2=>∃x H',Inv X pins σ H' s2/\RelV x u/\J.N6 i H x H'/\tn (i+1) s2.heap/\∀b∈fp,H' b=none) E s1) E s
 done:∀(X:Cx),X.prog=P->X.w=w->X.K=K->X.calm=true->∀(i:Nat)(pins:List (Addr×Obj))(s:Shared)(σ:St)(H:Hp)(E:Value->Shared->Prop),Inv X pins σ H s->(∀b∈fp,oX X pins H b)->tn i s.heap->J.stop i H->wpAny (model P w) X.A (pyNext (.ref it)) (λr s1=>r=none/\Inv X pins σ H s1) E s
 self:∀(A:Around)(i:Nat)(s:Shared)(Q:Value->Shared->Prop)(E:Value->Shared->Prop),tn i s.heap->Q (.ref it) s->wpAny (model P w) A (pyIter (.ref it)) Q E s
abbrev TI:=St->Hp->(It->Hp->Prop)->Prop
def PIE(X:Cx)(pins:List (Addr×Obj))(σ:St)(tg:Expr)(R:It->Hp->Prop)(a:Value)(s2:Shared):Prop:=∃(it:Addr)(c:List Addr)(e:Nat->Heap->Prop)(J:It)(H':Hp),a=.ref it/\Inv X pins σ H' s2/\Turn X.prog X.w X.K tg J c it e/\e 0 s2.heap/\(∀b∈c,oX X pins H' b)/\R J H'
def PI(X:Cx)(tg iter:Expr)(a:TI):Prop:=∀(pins:List (Addr × Obj))(s:Shared)(σ:St)(H:Hp)(R:It->Hp->Prop),Inv X pins σ H s->a σ H R->wpAny (model X.prog X.w) X.A (eval iter X.env) (λv s1=>wpAny (model X.prog X.w) X.A (pyIter v) (PIE X pins σ tg R) X.xe s1) X.xe s
theorem Ad{E:Value->Shared->Prop}{it:Addr}{u:Value}{o:Obj}{n:String}{vs:Array Value}{Q:Unit->Shared->Prop}(ho:s.heap.get? it=some o)(hc:o.cls=.type n)(hd:o.data=.fields vs)(b:["enumerate","zip","dict_itemiterator","dict_reverseitemiterator","odict_iterator","itertools.zip_longest","itertools.pairwise"].contains n=false)(a:Q () s):wpAny M A (letOwnedTupleGo tg (.ref it) u) Q E s:=by unfold letOwnedTupleGo;cases tg<;>first|exact wpAny_pure a|(cases u<;>first|exact wpAny_pure a|(refine wpAny_bind (wpAny_load ho ?_);rw[hc,hd];show wpAny M A (if(["enumerate","zip","dict_itemiterator","dict_reverseitemiterator","odict_iterator","itertools.zip_longest","itertools.pairwise"].contains n&&vs[0]?==some (rawInt _))=true then _ else _) Q E s;rw[if_neg (by intro h;rw[b,Bool.false_and]at h;cases h)];exact wpAny_pure a))
noncomputable def Qm(K:PySem.W.Frag)(a:Addr):It:=⟨λi H=>∃xs x,eG K H a xs/\xs[i]?=some x,λi H x H'=>H'=H/\∀xs,eG K H a xs->xs[i]?=some x,λi H=>∃xs,eG K H a xs/\xs.length<=i⟩
noncomputable def UJ(K:PySem.W.Frag)(a:Addr):It:=⟨λi H=>∃xs x,jG K H a xs/\xs[i]?=some x,λi H x H'=>H'=H/\∀xs,jG K H a xs->xs[i]?=some x,λi H=>∃xs,jG K H a xs/\xs.length<=i⟩
noncomputable def VJ(lo:Int)(n:Nat):It:=⟨λi _=>i<n,λi H x H'=>H'=H/\x=.int (lo+i),λi _=>n<=i⟩
theorem Cu{P:Program}(a it:Addr):Turn P w K tg (Qm K a) [it] it (λi h=>h.IsListIter it a i)where
 mem:=by simp
 obj:=λi h st b f=>by
  have e:b=it:=by simpa using f
  subst e;obtain⟨o,e,c,d⟩:=st;exact⟨o,e,λv z=>by rw[d]at z;cases z⟩
 keep:=λi h h' st k=>st.at λo e=>k it (by simp) o e;item:=by intro X m n q hc i pins s σ H E I j st r;subst m n q;obtain⟨xs,x,l,t⟩:=r;obtain⟨y,B,p,hz⟩:=I.list l;obtain⟨u,C,G⟩:=B.get t;obtain⟨f0,f1,f2,f3,f4,f5⟩:=j it (by simp);refine wpAny_pyNext_list_item st p.isList (x:=u) (by simpa using C) λh' g J=>?_;have L:Inv X pins σ H {s with heap:=h'}:=I.turned (t':=s.toks) (λb o f e=>(J.2 b f).trans e) f0 f1 f3 f4 f5;obtain⟨o,e,c,d⟩:=id g;exact⟨u,rfl,Ad (s:={s with heap:=h'}) e c d (by decide) ⟨x,H,L,G,⟨rfl,λys N=>by rw[I.wg N l];exact t⟩,g,λb f=>(j b f).1⟩⟩
 done:=by intro X m n q hc i pins s σ H E I j st r;subst m n q;obtain⟨xs,l,t⟩:=r;obtain⟨y,B,p,hz⟩:=I.list l;obtain⟨f0,f1,f2,f3,f4,f5⟩:=j it (by simp);have Q:=B.length;exact wpAny_pyNext_list_end (I.ok.hd hc) st p.isList (by simp;omega) λh' O=>⟨rfl,I.turned (t':=s.toks) (λb o f e=>O b o f e) f0 f1 f3 f4 f5⟩
 self:=λ_ _ _ _ _ st h=>wpAny_pyIter_listiter st h
theorem yx{P:Program}(a it:Addr):Turn P w K tg (UJ K a) [it] it (λi h=>h.IsTupleIter it a i)where
 mem:=by simp
 obj:=λi h st b f=>by
  have e:b=it:=by simpa using f
  subst e;obtain⟨o,e,c,d⟩:=st;exact⟨o,e,λv z=>by rw[d]at z;cases z⟩
 keep:=λi h h' st k=>st.at λo e=>k it (by simp) o e;item:=by intro X n q r hc i pins s σ H E I l st t;subst n q r;obtain⟨xs,x,m,y⟩:=t;obtain⟨g,B,p,hz⟩:=I.tuple m;obtain⟨u,C,G⟩:=B.get y;obtain⟨f0,f1,f2,f3,f4,f5⟩:=l it (by simp);refine wpAny_pyNext_tuple_item st (show s.heap.IsTuple a g.toArray from p) (x:=u) (by simpa using C) λh' j J=>?_;have L:Inv X pins σ H {s with heap:=h'}:=I.turned (t':=s.toks) (λb o f e=>(J.2 b f).trans e) f0 f1 f3 f4 f5;obtain⟨o,e,c,d⟩:=id j;exact⟨u,rfl,Ad (s:={s with heap:=h'}) e c d (by decide) ⟨x,H,L,G,⟨rfl,λys N=>by rw[I.qR N m];exact y⟩,j,λb f=>(l b f).1⟩⟩
 done:=by intro X n q r hc i pins s σ H E I l st t;subst n q r;obtain⟨xs,m,y⟩:=t;obtain⟨g,B,p,hz⟩:=I.tuple m;obtain⟨f0,f1,f2,f3,f4,f5⟩:=l it (by simp);have Q:=B.length;exact wpAny_pyNext_tuple_end (I.ok.hd hc) st (show s.heap.IsTuple a g.toArray from p) (by simp;omega) λh' O=>⟨rfl,I.turned (t':=s.toks) (λb o f e=>O b o f e) f0 f1 f3 f4 f5⟩
 self:=λ_ _ _ _ _ st h=>wpAny_pyIter_tupleiter st h
theorem xY{P:Program}(it:Addr)(lo:Int)(n:Nat):Turn P w K tg (VJ lo n) [it] it (λi h=>IsRangeIter h it (lo+(i:Nat)*1) ((n:Int)-(i:Nat)) 1)where
 mem:=by simp
 obj:=λi h st b a=>by
  have e:b=it:=by simpa using a
  subst e;exact⟨_,st,λv z=>by have q:Data.fields _=Data.cell v:=z;cases q⟩
 keep:=λi h h' st k=>k it (by simp) _ st;item:=by intro X g j l hc i pins s σ H E I f st m;subst g j l;obtain⟨f0,f1,f2,f3,f4,f5⟩:=f it (by simp);have W:=Walks.range (prog:=X.prog) (w:=X.w) (I.ok.hd hc) it lo 1 n;refine W.item i s _ _ m st λv h' p r c u=>?_;obtain⟨t,rfl⟩:=r;have x:Inv X pins σ H {s with heap:=h',toks:=p}:=I.turned (λb o a e=>u b o (by simpa using a) e) f0 f1 f3 f4 f5;refine⟨_,rfl,Ad (s:={s with heap:=h',toks:=p}) (n:="range_iterator") c rfl rfl (by decide) ⟨.int (lo+i),H,x,⟨t,?_⟩,⟨rfl,rfl⟩,c,λb a=>(f b a).1⟩⟩;rw[mul_one]
 done:=by intro X g j l hc i pins s σ H E I f st m;subst g j l;obtain⟨f0,f1,f2,f3,f4,f5⟩:=f it (by simp);exact wpAny_pyNext_range_end (I.ok.hd hc) st (by have:n<=i:=m;omega) λh' y=>⟨rfl,I.turned (t':=s.toks) (λb o a e=>y b o a e) f0 f1 f3 f4 f5⟩
 self:=λ_ _ _ _ _ st h=>wpAny_pyIter_rangeiter st h
section
variable{X:Cx}{tg:Expr}
theorem Ek{σ:St}{R:It->Hp->Prop}{E:Value->Shared->Prop}{lo a:Int}{t u v:Tok}{c:Nat}(I:Inv X pins σ H s)(h1:-(2^62)<=lo)(g:lo<2^62)(j:-(2^62)<=a)(k:a<2^62)(q:R (VJ lo (a-lo).toNat) H):wpAny (model X.prog X.w) X.A (pyIter (.ref s.heap.objs.size)) (PIE X pins σ tg R) E {s with heap:=s.heap.push {cls:=.type "range",data:=.fields #[.int lo t,.int a u,.int 1 v]},toks:=c}:=by
 refine wpAny_pyIter_range (IsRange.new ..) (small_one h1 g j k) ?_;have f:Inv X pins σ H {s with heap:=s.heap.push {cls:=.type "range",data:=.fields #[.int lo t,.int a u,.int 1 v]},toks:=c}:=I.kept λb o e=>gW e;refine⟨(s.heap.push {cls:=.type "range",data:=.fields #[.int lo t,.int a u,.int 1 v]}).objs.size,[(s.heap.push {cls:=.type "range",data:=.fields #[.int lo t,.int a u,.int 1 v]}).objs.size],_,_,H,rfl,f.kept (t':=c) λb o e=>gW e,xY _ lo (a-lo).toNat,?_,λb l=>?_,q⟩
 . have m:lo+((0:Nat):Int)*1=lo:=by simp
   have n:(((a-lo).toNat:Nat):Int)-((0:Nat):Int)=Builtin.Range.rangeSize lo a 1:=by rw[rangeSize_one];split<;>omega
   show IsRangeIter _ _ (lo+((0:Nat):Int)*1) ((((a-lo).toNat:Nat):Int)-((0:Nat):Int)) 1;rw[m,n];exact get?_push_size _ rfl
 . have e:b=(s.heap.push {cls:=.type "range",data:=.fields #[.int lo t,.int a u,.int 1 v]}).objs.size:=by simpa using l
   subst e;exact f.G9 (dC) (f.hok.fresh (dC))
def Wq(a:TA):TI:=λσ H R=>a σ H λvs b=>∃j:Int,vs=[.int j]/\-(2^62)<=j/\j<2^62/\R (VJ 0 j.toNat) b
theorem sH{a:Expr}{c:TA}{p:Pos}(f:Gl X "range")(g:X.mg "range"=none)(k:PA X [a] c)(hs:starEach [a] X.env=[(false,eval a X.env)]:=by rfl):PI X tg (.Call (.Name "range" p) [a] [] pos) (Wq c):=by intro pins s σ H R I h;refine Call_ (lO I f g boot_range (PyProof.Rows.callWith_type1 (bU (k pos pins s σ H _ I h) λus s1⟨vs,H1,I1,r1,b⟩=>?_) hs rfl));obtain⟨j,e,b,l,q⟩:=b;subst e;cases r1 with|cons r m=>cases m;obtain⟨t,rfl⟩:=r;exact call_range_1 (Ek I1 (by omega) (by omega) b l (by simpa using q))
def aa6(e:TI)(g:TG)(f:TS):TS:=λD σ H=>e σ H λJ j=>∃W:Nat->Nat->St->Hp->Prop,(∃m,W 0 m σ j)/\∀i m σ H,W i m σ H->(J.stop i H/\D.nx σ H)\/(J.go i H/\∃N:St->Hp->Prop,(∀a H',N a H'->∃c,c<m/\W (i+1) c a H')/\∀x H',J.N6 i H x H'->g x σ H' λb k=>f {D with nx:=N,ct:=N,bk:=D.nx} b k)
noncomputable def pO(a:List Addr)(h:Heap):List (Addr×Obj):=a.filterMap λb=>(h.get? b).map λo=>(b,o)
theorem iH{a:List Addr}{b:Addr}{o:Obj}(c:b∈a)(e:h.get? b=some o):(b,o)∈pO a h:=List.mem_filterMap.mpr ⟨b,c,by rw[e];rfl⟩
theorem BK{a:List Addr}{p:Addr×Obj}(c:p∈pO a h):p.1∈a/\h.get? p.1=some p.2:=by obtain⟨b,f,e⟩:=List.mem_filterMap.mp c;cases q:h.get? b with|none=>rw[q]at e;cases e|some o=>rw[q]at e;have g:(b,o)=p:=Option.some.inj e;subst g;exact⟨f,q⟩
theorem Inv.pinned{σ:St}{a:List Addr}(I:Inv X pins σ H s)(g:∀b∈a,oX X pins H b)(ho:∀b∈a,∃o,s.heap.get? b=some o/\∀v,o.data≠.cell v):Inv X (pins++pO a s.heap) σ H s:=I.zN λp j=>(mem_append.mp j).elim (λz=>I.pin p (mem_append_right _ z)) λz=>by obtain⟨c,e⟩:=BK z;obtain⟨f0,f1,f2,_⟩:=g p.1 c;obtain⟨o,f,d⟩:=ho p.1 c;rw[e]at f;cases f;exact⟨e,f0,f1,f2,d⟩
theorem Inv.lu{pl:List (Addr×Obj)}{σ:St}(I:Inv X (pins++pl) σ H s):Inv X pins σ H s:=I.zN λp a=>I.pin p (mem_append_right _ (List.mem_append_left _ a))
theorem GJ{iter:Expr}{body:List Stmt}{Y:TI}{g:TG}{Z:TS}(y:PassesOwn (model X.prog X.w) X.A X.env X.xe)(hc:X.calm=true)(hi:PI X tg iter Y)(hg:PG X tg g)(c:qC X body Z)(hs:∀x,foldedSetIterable iter X.env x=pure x:=by intro _;rfl):PS X (.For tg iter body [] pos) (aa6 Y g Z):=by
 intro pins s σ H D I h;refine wpAny_For (bU (hi pins s σ H _ I h) λv s1 h1=>bU h1 λac s2 h2=>?_) hs;obtain⟨it,z,tn,J,H2,e,I2,T,O,f2,W,⟨m0,w0⟩,B⟩:=h2;subst e--what stays true of the iterator's objects through the loop
 have j:∀{H':Hp},(∀b∈z,H' b=none)->∀b∈z,oX X pins H' b:=λhn b c=>⟨hn b c,(f2 b c).2⟩;refine codeAny_forLoop_any (λn s'=>∃i k H',Inv X pins k H' s'/\tn i s'.heap/\(∀b∈z,H' b=none)/\W i n k H') ?_ m0 ⟨0,σ,H2,I2,O,λb c=>(f2 b c).1,w0⟩;rintro n s3⟨i,l,L,I3,C,E,w3⟩;rcases B i n l L w3 with⟨stop,qn⟩|⟨go,N,hN,step⟩;.refine wpAny_passesOwn y (bU (T.done X rfl rfl rfl hc i pins s3 l L X.xe I3 (j E) C stop) λr s4⟨hr,I4⟩=>?_);subst hr;exact wpAny_execs_nil ⟨l,L,I4,qn⟩
 . refine wpAny_passesOwn y (bU (T.item X rfl rfl rfl hc i pins s3 l L X.xe I3 (j E) C go) λr s4⟨u,hr,h4⟩=>?_);subst hr;refine wpAny_passesOwn y (bU h4 λ_ s5⟨x,H5,I5,r5,y5,Mj,fr5⟩=>?_);have Q:=I5.pinned (j fr5) (T.obj _ _ Mj);refine wpAny_passesOwn y (bU (hg _ s5 l H5 x u _ Q r5 (step x H5 y5)) λ_ s6⟨U,H6,I6,q6⟩=>?_);refine wpAny_passesOwn y (bU (c _ s6 U H6 _ I6 q6) λf s7 t=>?_);have again:∀{a:St}{p:Hp},Inv X (pins++pO z s5.heap) a p s7->N a p->∃m,m<n/\∃i k H',Inv X pins k H' s7/\tn i s7.heap/\(∀b∈z,H' b=none)/\W i m k H':=λ{a p}q G=>by obtain⟨m',hm,w7⟩:=hN a p G;refine⟨m',hm,i+1,a,p,q.lu,T.keep _ _ _ Mj λb c o e=>(q.pin (b,o) (mem_append_right _ (mem_append_right _ (iH c e)))).1,λb c=>?_,w7⟩;obtain⟨o,e,d⟩:=T.obj _ _ Mj b c;exact(q.pin (b,o) (mem_append_right _ (mem_append_right _ (iH c e)))).2.1
   cases f with|next=>obtain⟨a,p,q,G⟩:=t;exact again q G|cont=>obtain⟨a,p,q,G⟩:=t;exact again q G|brk=>obtain⟨a,p,q,t⟩:=t;exact⟨a,p,q.lu,t⟩|ret v=>obtain⟨x7,a,p,q,r7,t⟩:=t;exact⟨x7,a,p,q.lu,r7,t⟩
end
abbrev R2:=V->V->Hp->VK->Prop
def eU(X:Cx)(f:Value->Value->Sem Value)(r:R2):Prop:=∀(pins:List (Addr × Obj))(s:Shared)(σ:St)(H:Hp)(x y:V)(v u:Value)(Q:VK),Inv X pins σ H s->RelV x v->RelV y u->r x y H Q->wpAny (model X.prog X.w) X.A (f v u) (EP X pins σ Q) X.xe s
def UnR(X:Cx)(f:Value->Sem Value)(r:V->Hp->VK->Prop):Prop:=∀(pins:List (Addr × Obj))(s:Shared)(σ:St)(H:Hp)(x:V)(v:Value)(Q:VK),Inv X pins σ H s->RelV x v->r x H Q->wpAny (model X.prog X.w) X.A (f v) (EP X pins σ Q) X.xe s
def dH(X:Cx)(f:Value)(r:List V->Hp->VK->Prop):Prop:=∀(pins:List (Addr × Obj))(s:Shared)(σ:St)(H:Hp)(xs:List V)(us:List Value)(Q:VK),Inv X pins σ H s->Vals xs us->r xs H Q->wpAny (model X.prog X.w) X.A (call f us) (EP X pins σ Q) X.xe s
def yl(r:R2)(a b:TE):TE:=λσ H Q=>a σ H λx c=>b σ c λy e=>r x y e Q
def tUn(r:V->Hp->VK->Prop)(a:TE):TE:=λσ H Q=>a σ H λx b=>r x b Q
def rI(C:Int->Int->Prop)(g:Int->Int->V):R2:=λx y H Q=>∃i j,x=.int i/\y=.int j/\C i j/\Q (g i j) H
def Df(g:Int->Int->V):R2:=λx y H Q=>∃i j,x=.int i/\y=.int j/\Q (g i j) H
def rU(g:Int->V):V->Hp->VK->Prop:=λx H Q=>∃i,x=.int i/\Q (g i) H
section
variable{X:Cx}{a b c:Expr}{ta tb tc:TE}{pos:Pos}
theorem O8(l:PE X a ta)(m:PE X b tb){σ:St}{R:V->V->Hp->Prop}(I:Inv X pins σ H s)(h:ta σ H λx k=>tb σ k λy e=>R x y e){Q:Value->Shared->Prop}{f:Value->Value->Sem Value}(n:∀v u s2 x y e,Inv X pins σ e s2->RelV x v->RelV y u->R x y e->wpAny (model X.prog X.w) X.A (f v u) Q X.xe s2):wpAny (model X.prog X.w) X.A (eval a X.env) (λv g=>wpAny (model X.prog X.w) X.A (eval b X.env) (λu j=>wpAny (model X.prog X.w) X.A (f v u) Q X.xe j) X.xe g) X.xe s:=by refine bU (l pins s σ H _ I h) λv s1⟨x,k,I1,r1,q1⟩=>?_;refine bU (m pins s1 σ k _ I1 q1) λu s2⟨y,e,I2,r2,q2⟩=>?_;exact n v u s2 x y e I2 r1 r2 q2
theorem fc{op:Operator}{r:R2}(ho:eU X (binaryOp op) r)(e:PE X a ta)(f:PE X b tb):PE X (.BinOp a op b pos) (yl r ta tb):=by intro pins s σ H Q I h;exact wpAny_BinOp (O8 e f I h λv u s2 x y g j k l q=>ho pins s2 σ g x y v u Q j k l q)
theorem WL{op:UnaryOp}{r:V->Hp->VK->Prop}(ho:UnR X (unaryOp op) r)(e:PE X a ta):PE X (.UnaryOp op a pos) (tUn r ta):=by intro pins s σ H Q I h;exact UnaryOp_ (bU (e pins s σ H _ I h) λv s1⟨x,H1,I1,r1,q1⟩=>ho pins s1 σ H1 x v Q I1 r1 q1)
theorem Z6{f:Value->Value->Sem Value}{C:Int->Int->Prop}{g:Int->Int->Int}(rule:∀(i j:Int)(t u:Tok)(s:Shared)(Q:Value->Shared->Prop)(E:Value->Shared->Prop),C i j->Q (.int (g i j) s.toks) {s with toks:=s.toks+1}->wpAny (model X.prog X.w) X.A (f (.int i t) (.int j u)) Q E s):eU X f (rI C λi j=>.int (g i j)):=by intro pins s σ H x y v u Q I e k h;obtain⟨i,j,rfl,rfl,hc,q⟩:=h;obtain⟨t,rfl⟩:=e;obtain⟨t',rfl⟩:=k;exact rule i j t t' s _ _ hc ⟨.int (g i j),H,I.tok _,⟨_,rfl⟩,q⟩
theorem Vn{f:Value->Value->Sem Value}{g:Int->Int->Int}(rule:∀(i j:Int)(t u:Tok)(s:Shared)(Q:Value->Shared->Prop)(E:Value->Shared->Prop),Q (.int (g i j) s.toks) {s with toks:=s.toks+1}->wpAny (model X.prog X.w) X.A (f (.int i t) (.int j u)) Q E s):eU X f (Df λi j=>.int (g i j)):=by intro pins s σ H x y v u Q I e k h;obtain⟨i,j,rfl,rfl,q⟩:=h;obtain⟨t,rfl⟩:=e;obtain⟨t',rfl⟩:=k;exact rule i j t t' s _ _ ⟨.int (g i j),H,I.tok _,⟨_,rfl⟩,q⟩
theorem Lj{f:Value->Value->Sem Value}{g:Int->Int->Bool}(rule:∀(i j:Int)(t u:Tok)(s:Shared)(Q:Value->Shared->Prop)(E:Value->Shared->Prop),Q (.bool (g i j)) s->wpAny (model X.prog X.w) X.A (f (.int i t) (.int j u)) Q E s):eU X f (Df λi j=>.bl (g i j)):=by intro pins s σ H x y v u Q I e k h;obtain⟨i,j,rfl,rfl,q⟩:=h;obtain⟨t,rfl⟩:=e;obtain⟨t',rfl⟩:=k;exact rule i j t t' s _ _ ⟨.bl (g i j),H,I,rfl,q⟩
def abR(i j:Int):Prop:=0<=j/\j<=1000000/\i.natAbs<2^64
def Ku(i j:Int):Prop:=(-(2^64)<i/\i<2^64)\/(-(2^64)<j/\j<2^64)
theorem Ku.ok{i j:Int}(h:Ku i j):IntMulOk i j:=by
 rcases h with⟨h1,e⟩|⟨h1,e⟩;.exact .of_left (intBits_le_64 h1 e)
 .exact .of_right (intBits_le_64 h1 e)
theorem oW:eU X (binaryOp .Add) (Df λi j=>.int (i+j)):=Vn λ_ _ _ _ _ _ _ q=>add_int q
theorem Ot:eU X (binaryOp .Sub) (Df λi j=>.int (i-j)):=Vn λ_ _ _ _ _ _ _ q=>sub_int q
theorem qd:eU X (binaryOp .Mult) (rI Ku λi j=>.int (i*j)):=Z6 λ_ _ _ _ _ _ _ hc q=>mul_int q hc.ok
theorem jV:eU X (binaryOp .Mod) (rI (λ_ j=>0<j) λi j=>.int (i%j)):=Z6 λi j _ _ _ _ _ hc q=>by have h1:(0:Int)<j:=hc;exact mod_int' (by omega) (by rw[Int.fmod_eq_emod_of_nonneg i (by omega)];exact q)
theorem Rb:eU X (binaryOp .Pow) (rI abR λi j=>.int (i^j.toNat)):=Z6 λ_ _ _ _ _ _ _ hc q=>pow_int_small hc.1 hc.2.1 hc.2.2 q
theorem unI{f:Value->Sem Value}{g:Int->Int}(rule:∀(i:Int)(t:Tok)(s:Shared)(Q:Value->Shared->Prop)(E:Value->Shared->Prop),Q (.int (g i) s.toks) {s with toks:=s.toks+1}->wpAny (model X.prog X.w) X.A (f (.int i t)) Q E s):UnR X f (rU λi=>.int (g i)):=by intro pins s σ H x v Q I e h;obtain⟨i,rfl,q⟩:=h;obtain⟨t,rfl⟩:=e;exact rule i t s _ _ ⟨.int (g i),H,I.tok _,⟨_,rfl⟩,q⟩
theorem Ra:UnR X (unaryOp .USub) (rU λi=>.int (-i)):=unI λ_ _ _ _ _ q=>neg_int q
end
noncomputable def aaX:V->V->Bool|.non,.non=>true|.non,.int _=>true|.int _,.non=>true|.non,.bl _=>true|.bl _,.non=>true|.non,.str _=>true|.str _,.non=>true|.int _,.int _=>true|.bl _,.bl _=>true|.str _,.str _=>true|.Ma _,.Ma _=>true|.int _,.str _=>true|.str _,.int _=>true|.bl _,.str _=>true|.str _,.bl _=>true|_,_=>false
def rEq:R2:=λx y H Q=>aaX x y=true/\Q (.bl (decide (x=y))) H
theorem Jt{i j:Int}:decide (V.int i=V.int j)=(i==j):=by rw[Bool.eq_iff_iff];simp
theorem Su{i j:Bool}:decide (V.bl i=V.bl j)=(i==j):=by rw[Bool.eq_iff_iff];simp
theorem Ka{i j:Str}:decide (V.str i=V.str j)=(i==j):=by rw[Bool.eq_iff_iff];simp
theorem Jq{i j:Array UInt8}:decide (V.Ma i=V.Ma j)=(i.toList==j.toList):=by rw[Bool.eq_iff_iff];cases i;cases j;simp
section
variable{X:Cx}{a b c:Expr}{ta tb tc:TE}{pos:Pos}
theorem di{σ:St}{Q:VK}{k k':Bool}(I:Inv X pins σ H s)(q:Q (.bl k) H)(e:k=k'):EP X pins σ Q (.bool k') s:=by subst e;exact⟨.bl k,H,I,rfl,q⟩
theorem V0:eU X (compareOp .Eq) rEq:=by intro pins s σ H x y v u Q I f e h;obtain⟨hs,q⟩:=h;cases x with
 |non=>cases f;cases y with|non=>cases e;exact PySem.EqNone.eq_none_none (di I q (by simp))|bl j=>cases e;exact PySem.EqNone.eq_none_bool (di I q (by simp))|int j=>obtain⟨t',rfl⟩:=e;exact PySem.EqNone.eq_none_int (di I q (by simp))|str j=>obtain⟨t',rfl⟩:=e;exact PySem.EqNone.eq_none_str (di I q (by simp))|_=>exact absurd (show false=true from hs) Bool.false_ne_true
 |bl i=>cases f;cases y with|non=>cases e;exact PySem.EqNone.eq_bool_none (di I q (by simp))|bl j=>cases e;exact eq_bool (di I q Su)|str j=>obtain⟨t',rfl⟩:=e;exact PySem.EqMixed.eq_bool_str (di I q (by simp))|_=>exact absurd (show false=true from hs) Bool.false_ne_true
 |int i=>obtain⟨t,rfl⟩:=f;cases y with|non=>cases e;exact PySem.EqNone.eq_int_none (di I q (by simp))|int j=>obtain⟨t',rfl⟩:=e;exact eq_int (di I q Jt)|str j=>obtain⟨t',rfl⟩:=e;exact PySem.EqMixed.eq_int_str (di I q (by simp))|_=>exact absurd (show false=true from hs) Bool.false_ne_true
 |str i=>obtain⟨t,rfl⟩:=f;cases y with|non=>cases e;exact PySem.EqNone.eq_str_none (di I q (by simp))|bl j=>cases e;exact PySem.EqMixed.eq_str_bool (di I q (by simp))|int j=>obtain⟨t',rfl⟩:=e;exact PySem.EqMixed.eq_str_int (di I q (by simp))|str j=>obtain⟨t',rfl⟩:=e;exact eq_str (di I q Ka)|_=>exact absurd (show false=true from hs) Bool.false_ne_true
 |Ma i=>obtain⟨t,rfl⟩:=f;cases y with|Ma j=>obtain⟨t',rfl⟩:=e;exact PySem.W.eq_bytes (di I q Jq)|_=>exact absurd (show false=true from hs) Bool.false_ne_true
 |_=>cases y<;>exact absurd (show false=true from hs) Bool.false_ne_true
theorem Vv:eU X (compareOp .Lt) (Df λi j=>.bl (decide (i<j))):=Lj λ_ _ _ _ _ _ _ q=>lt_int q
theorem Xl:eU X (compareOp .LtE) (Df λi j=>.bl (decide (i<=j))):=Lj λ_ _ _ _ _ _ _ q=>le_int q
theorem W0:eU X (compareOp .Gt) (Df λi j=>.bl (decide (j<i))):=Lj λ_ _ _ _ _ _ _ q=>gt_int q
theorem Ww:eU X (compareOp .GtE) (Df λi j=>.bl (decide (j<=i))):=Lj λ_ _ _ _ _ _ _ q=>ge_int q
theorem Qc:eU X (compareOp .Is) (λx y H Q=>y=.non/\Q (.bl (decide (x=.non))) H):=by intro pins s σ H x y v u Q I e f h;obtain⟨rfl,q⟩:=h;cases f;refine is_none_gen (di I q ?_);cases x<;>first|(cases e;rfl)|(obtain⟨t,rfl⟩:=e;rfl)
theorem Jy:eU X (compareOp .IsNot) (λx y H Q=>y=.non/\Q (.bl (!decide (x=.non))) H):=by intro pins s σ H x y v u Q I e f h;obtain⟨rfl,q⟩:=h;cases f;refine isnot_none_gen (di I q ?_);cases x<;>first|(cases e;rfl)|(obtain⟨t,rfl⟩:=e;rfl)
theorem acb{op:CmpOp}{es:List Expr}{k:Nat}{p:Pos}(e:(op==CmpOp.In)=false)(f:(op==CmpOp.NotIn)=false):behindInMarks op (.Set es k p)=false:=by show(k==0&&(op==CmpOp.In||op==CmpOp.NotIn)&&_)=false;rw[e,f];cases(k==0)<;>rfl
theorem bC(b:Expr)(h:op≠.In:=by decide)(e:op≠.NotIn:=by decide):behindInMarks op b=false:=by
 have f:(op==CmpOp.In)=false:=by cases op<;>first|rfl|exact absurd rfl h
 have g:(op==CmpOp.NotIn)=false:=by cases op<;>first|rfl|exact absurd rfl e
 cases b<;>first|rfl|exact acb f g
theorem Ls{r:R2}(ho:eU X (compareOp op) r)(e:PE X a ta)(f:PE X b tb)(g:behindInMarks op b=false):PE X (.Compare a [op] [b] pos) (yl r ta tb):=by intro pins s σ H Q I h;exact wpAny_Compare1 (O8 e f I h λv u s2 x y j k l m q=>ho pins s2 σ j x y v u Q k l m q) g
def Gv(t:TE):TT:=λσ H Q=>t σ H λx H'=>∃k,x=.bl k/\Q k H'
theorem kO{r:R2}(ho:eU X (compareOp op) r)(f:PE X a ta)(g:PE X b tb)(j:behindInMarks op b=false):PT X (.Compare a [op] [b] pos) (Gv (yl r ta tb)):=by intro pins s σ H Q I h;refine wpAny_isTrue_Compare1 (bU (f pins s σ H _ I h) λv s1⟨x,H1,I1,r1,q1⟩=>bU (g pins s1 σ H1 _ I1 q1) λu s2⟨y,H2,I2,r2,q2⟩=>bU (ho pins s2 σ H2 x y v u _ I2 r1 r2 q2) λc s3⟨z,H3,I3,r3,k,e,q3⟩=>?_) j;subst e;cases r3;exact wpAny_truthy_bool ⟨H3,I3,q3⟩
def O5(r f:R2)(ta tb tc:TE):TE:=λσ H Q=>ta σ H λx g=>tb σ g λy j=>r x y j λz e=>∃k,z=.bl k/\(if k=true then tc σ e λl m=>f y l m Q else Q (.bl false) e)
theorem Ea{f:CmpOp}{r j:R2}(ho:eU X (compareOp op) r)(g:eU X (compareOp f) j)(l:PE X a ta)(m:PE X b tb)(hc:PE X c tc)(n:lastMarks [op,f] [b,c]=false:=by with_unfolding_all rfl):PE X (.Compare a [op,f] [b,c] pos) (O5 r j ta tb tc):=by intro pins s σ H Q I h;refine Compare_chain (bU (l pins s σ H _ I h) λv s1⟨x,H1,I1,r1,q1⟩=>chain_link (bU (m pins s1 σ H1 _ I1 q1) λu s2⟨y,H2,I2,r2,q2⟩=>bU (ho pins s2 σ H2 x y v u _ I2 r1 r2 q2) λd s3⟨z,H3,I3,r3,k,e,q3⟩=>?_)) n;subst e;cases r3;refine wpAny_truthy_bool ?_;cases k with|false=>exact ite_ff ⟨.bl false,H3,I3,rfl,q3⟩|true=>exact ite_tt (chain_last (bU (hc pins s3 σ H3 _ I3 q3) λo s4⟨p,H4,I4,r4,q4⟩=>g pins s4 σ H4 y p u o Q I4 r2 r4 q4))
theorem pR:(sizeLine:Nat)<2^63:=by rw[sizeLine_eq];decide
theorem yG:eU X (binaryOp .Add) (λx y H Q=>∃i j,x=.str i/\y=.str j/\i.length+j.length<=sizeLine/\Q (.str (i++j)) H):=by intro pins s σ H x y v u Q I e f h;obtain⟨i,j,rfl,rfl,hz,q⟩:=h;obtain⟨t,rfl⟩:=e;obtain⟨t',rfl⟩:=f;exact add_str (λt' g=>⟨.str (i++j),H,I.tok _,⟨_,rfl⟩,q⟩) hz
theorem vals1{x:V}(r:Vals [x] us):∃u,us=[u]/\RelV x u:=by cases r with|cons r1 e=>cases e;exact⟨_,rfl,r1⟩
theorem vals2{x y:V}(r:Vals [x,y] us):∃u e,us=[u,e]/\RelV x u/\RelV y e:=by cases r with|cons r1 f=>cases f with|cons g j=>cases j;exact⟨_,_,rfl,r1,g⟩
theorem Bk(hc:X.calm=true):dH X (.builtin "max") (λxs H Q=>∃i j,xs=[.int i,.int j]/\Q (.int (if j>i then j else i)) H):=by
 intro pins s σ H xs us Q I r h;obtain⟨i,j,rfl,q⟩:=h;obtain⟨u,f,rfl,⟨t,rfl⟩,⟨t',rfl⟩⟩:=vals2 r;refine max_two_ints (I.ok.hd hc) λh' g k=>⟨_,H,I.kept k,?_,q⟩;by_cases e:j>i;.rw[if_pos e,if_pos e];exact⟨_,rfl⟩
 .rw[if_neg e,if_neg e];exact⟨_,rfl⟩
theorem BW(hc:X.calm=true):dH X (.builtin "min") (λxs H Q=>∃i j,xs=[.int i,.int j]/\Q (.int (if j<i then j else i)) H):=by
 intro pins s σ H xs us Q I r h;obtain⟨i,j,rfl,q⟩:=h;obtain⟨u,f,rfl,⟨t,rfl⟩,⟨t',rfl⟩⟩:=vals2 r;refine min_two_ints (I.ok.hd hc) λh' g k=>⟨_,H,I.kept k,?_,q⟩;by_cases e:j<i;.rw[if_pos e,if_pos e];exact⟨_,rfl⟩
 .rw[if_neg e,if_neg e];exact⟨_,rfl⟩
theorem sI:dH X (.type "int") (λxs H Q=>(∃i,xs=[.int i]/\Q (.int i) H)\/∃k,xs=[.bl k]/\Q (.int (if k then 1 else 0)) H):=by
 intro pins s σ H xs us Q I r h;rcases h with⟨i,rfl,q⟩|⟨k,rfl,q⟩;.obtain⟨u,rfl,t,rfl⟩:=vals1 r;exact call_int_int ⟨.int i,H,I,⟨_,rfl⟩,q⟩
 .obtain⟨u,rfl,r1⟩:=vals1 r;cases r1;exact call_int_bool ⟨.int (if k then 1 else 0),H,I.tok _,⟨_,rfl⟩,q⟩
end
theorem ni.some_of{v:V}{o:Option Value}(r:ni (some v) o):∃u,o=some u/\RelV v u:=by cases o with|none=>exact(show False from r).elim|some u=>exact⟨u,rfl,r⟩
structure iK(k:Nat)(A:Around):Prop where
 hd:A.handled=none
 dp:A.depth+3*k+5<recursionLimit
 un:A.units+16*k+200<cLine
theorem iK.deeper{k:Nat}{A:Around}(r:iK (k+1) A)(env:Env):iK k (A.deeper env):=⟨r.hd,by have:=r.dp;show A.depth+1+3*k+5<_;omega,by have:=r.un;show A.units+3+16*k+200<_;omega⟩
theorem iK.depth{k:Nat}{A:Around}(r:iK k A):A.depth<recursionLimit:=by have:=r.dp;omega
def LR:TA:=λ_ H Q=>Q [] H
def Dv(a:TE)(b:TA):TA:=λσ H Q=>a σ H λx c=>b σ c λxs e=>Q (x::xs) e
section
variable{X:Cx}{e:Expr}{es:List Expr}{te:TE}{t:TA}{pos:Pos}
theorem dR:PA X [] LR:=λ_ _ _ _ H Q I h=>Calls.spliced_nil ⟨[],H,I,.nil,h⟩
theorem cW(a:PE X e te)(hr:PA X es t)(hs:starEach (e::es) X.env=(false,eval e X.env)::starEach es X.env:=by rfl):PA X (e::es) (Dv te t):=by intro pos pins s σ H Q I h;rw[hs];show wpAny _ _ (spliced ((false,eval e X.env)::backTo pos (starEach es X.env))) _ _ s;refine Calls.spliced_cons (bU (a pins s σ H _ I h) λu s1⟨x,H1,I1,r1,q1⟩=>?_);exact bU (hr pos pins s1 σ H1 _ I1 q1) λus s2⟨xs,H2,I2,r2,q2⟩=>⟨x::xs,H2,I2,.cons r1 r2,q2⟩
def aaS(t:TA):TE:=λσ H Q=>t σ H λxs a=>xs.length<=sizeLine/\∀p,a p=none->Q (.ref p) (upd a p (.tup xs))
def W8(t:TA):TE:=λσ H Q=>t σ H λxs a=>xs.length<=sizeLine/\∀p,a p=none->Q (.ref p) (upd a p (.lst xs))
theorem Rq{x1}(h:PA X es t):PE X (.Tuple es x1 pos) (aaS t):=by intro pins s σ H Q I a;refine wpAny_Tuple_spliced (bU (h pos pins s σ H _ I a) λus s1⟨xs,H1,I1,r,z,q⟩=>⟨by rw[<-r.length];exact z,?_⟩);have c:H1 s1.heap.objs.size=none:=I1.hok.fresh (dC);refine⟨.ref s1.heap.objs.size,upd H1 s1.heap.objs.size (.tup xs),I1.laid (t':=s1.toks) (λb u e=>gW e) (dC) ?_,rfl,q _ c⟩;exact⟨z,us,r,⟨_,get?_push_size _ rfl,rfl,_,rfl⟩⟩
theorem xP(h:PA X es t):PE X (.List es pos) (W8 t):=by intro pins s σ H Q I a;refine wpAny_List_spliced (bU (h pos pins s σ H _ I a) λus s1⟨xs,H1,I1,r,z,q⟩=>⟨by rw[<-r.length];exact z,?_⟩);have c:H1 s1.heap.objs.size=none:=I1.hok.fresh (dC);refine⟨.ref s1.heap.objs.size,upd H1 s1.heap.objs.size (.lst xs),I1.laid (t':=s1.toks) (λb u e=>gW e) (dC) ?_,rfl,q _ c⟩;exact⟨z,us,0,r,get?_push_size _ rfl⟩
end
abbrev Sp:=List V->Hp->VK->XK->Prop
abbrev De:=List Env->Hp->Shared->XK->Value->Shared->Prop
structure KC(P:Program)(w:World)(K:PySem.W.Frag)(mg:Str->Option Value)(base:Heap)(A:Around)(outer:List Env)(s:Shared)(H:Hp):Prop where
 frames:A.frames=some outer
 mod:Mod K mg base
 bs:∀b o,base.get? b=some o->s.heap.get? b=some o/\H b=none
 NZ:base.objs.size<=s.heap.objs.size
 qw:s.heap.FunFrames base outer
 U8:∀b∈frs outer,H b=none
 hok:jF P w H s.heap
 bare:AllBare s.gens
def CE(outer:List Env)(P:Program)(w:World)(H:Hp)(s:Shared)(Q:VK)(u:Value)(a:Shared):Prop:=∃v H',a.os=s.os/\AllBare a.gens/\Un (frs outer) [] H H' s.heap a.heap/\jF P w H' a.heap/\RelV v u/\Q v H'
def CR(CX:De)(outer:List Env)(P:Program)(w:World)(H:Hp)(s:Shared)(Q:VK)(E:XK)(r:Result)(a:Shared):Prop:=match r with|.ok (.ret u)=>CE outer P w H s Q u a|.ok _=>False|.error e=>CX outer H s E e a
structure lF(P:Program)(w:World)(K:PySem.W.Frag)(mg:Str->Option Value)(base:Heap)(CX:De)(k:Nat)(f:Addr)(fd:FuncData)(ps:List Str)(sp:Sp):Prop where
 len:∀vs H Q E,sp vs H Q E->vs.length=ps.length
 run:∀(A:Around)(outer:List Env)(s:Shared)(H:Hp)(args:Args)(us:List Value)(vs:List V)(Q:VK)(E:XK),iK k A->KC P w K mg base A outer s H->BindsTo s fd args (ps.zip us)->Vals vs us->sp vs H Q E->codeAny (model P w) A (.call (.ref f) args) (CR CX outer P w H s Q E) s
section
variable{X:Cx}{pins:List (Addr×Obj)}{σ:St}{H:Hp}{s s':Shared}
theorem Inv.env0(I:Inv X pins σ H s):KC X.prog X.w X.K X.mg X.base X.A X.stack s H:=⟨I.ok.frames,I.ok.mod,I.bs,le_trans I.ok.NZ I.sz,I.stack,I.zj,I.hok,I.bare⟩
theorem Inv.after{Q:VK}{u:Value}(I:Inv X pins σ H s)(h:CE X.stack X.prog X.w H s Q u s'):EP X pins σ Q u s':=by obtain⟨v,H',os,bare,un,hok,r,q⟩:=h;obtain⟨c,g,d,t,a⟩:=s';obtain rfl:a=s.os:=os;exact⟨v,H',I.call (h':=c) (g':=g) (d':=d) (t':=t) (ch:=[]) un hok bare (λb z=>absurd z (by simp)),r,q⟩
end
def Nk(sp:Sp)(a:List V)(E:XK)(t:TA):TE:=λσ H Q=>t σ H λvs b=>sp (vs++a) b Q E
def Binds(K:PySem.W.Frag)(fd:FuncData)(ps:List Str)(ds:List Value):Prop:=∀(s:Shared)(us:List Value),K.In s.heap->(us++ds).length=ps.length->BindsTo s fd ⟨us,[]⟩ (ps.zip (us++ds))
theorem Binds.all{fd:FuncData}{ps:List Str}(h:∀us:List Value,us.length=ps.length->bindArgs fd ⟨us,[]⟩=pure (ps.zip us)):Binds K fd ps []:=λs us _ a=>by rw[append_nil]at a ⊢;exact .of_eq (h us a)
def Passes(CX:De)(X:Cx)(E:XK):Prop:=∀(pins:List (Addr×Obj))(σ:St)(H:Hp)(s:Shared)(e:Value)(a:Shared),Inv X pins σ H s->CX X.stack H s E e a->X.xe e a
section
variable{X:Cx}{CX:De}{k:Nat}{f C:Addr}{fd:FuncData}{ps:List Str}{sp:Sp}{N7:List V}{ds:List Value}{E:XK}{x m:Str}{p pos apos:Pos}{e o:Expr}{es:List Expr}{ta:TE}{t:TA}
theorem Qq{σ:St}{Q:VK}{vs:List V}(F:lF X.prog X.w X.K X.mg X.base CX k f fd ps sp)(hr:iK k X.A)(c:Binds X.K fd ps ds)(hd:Vals N7 ds)(g:Passes CX X E)(I:Inv X pins σ H s)(r:Vals vs us)(h:sp (vs++N7) H Q E):wpAny (model X.prog X.w) X.A (call (.ref f) us) (EP X pins σ Q) X.xe s:=by
 have b:Vals (vs++N7) (us++ds):=r.append hd;have j:(us++ds).length=ps.length:=by rw[<-b.length];exact F.len _ _ _ _ h
 refine wpAny_call (codeAny_mono (F.run X.A X.stack s H ⟨us,[]⟩ (us++ds) (vs++N7) Q E hr I.env0 (c s us I.Ph j) b h) λr l a=>?_);cases r with|error e=>exact g pins σ H s e l I a|ok fl=>cases fl with|ret u=>exact I.after a|next=>exact False.elim a|brk=>exact False.elim a|cont=>exact False.elim a
theorem yU(F:lF X.prog X.w X.K X.mg X.base CX k f fd ps sp)(hr:iK k X.A)(b:Gl X x)(c:X.mg x=some (.ref f))(g:keepIn X.K (.ref f)=true)(j:Binds X.K fd ps ds)(hd:Vals N7 ds)(l:Passes CX X E)(n:PA X (e::es) t)(a:(x==("__debug__":Str))=false:=by decide)(he:starEach (e::es) X.env=(false,eval e X.env)::starEach es X.env:=by rfl)(hpl:(backTo pos (starEach es X.env)).any (·.1)=false:=by rfl):PE X (.Call (.Name x p) (e::es) [] pos) (Nk sp N7 E t):=by intro pins s σ H Q I h;refine wpAny_Call_Name_kw (J0 I b c ?_ a);refine PySem.W.callWith_K (h₀:=X.base) I.ok.mod.qI g (bU (n pos pins s σ H _ I h) λus s1⟨vs,H1,I1,r,q⟩=>⟨I1.Ph,?_⟩) he hpl;exact Qq F hr j hd l I1 r q
end
structure aQ(N P:List Str)(sc:Scope):Prop where
 kind:sc.kind=.function
 co:sc.isCoroutine=false
 gen:sc.isGenerator=false
 nd:N.Nodup
 pre:N.take P.length=P
 par:∀x∈P,sc.names.lookup x=some .local\/sc.names.lookup x=some .cell
 SM:∀y∈sc.names,y.2≠.free
theorem qT{kindOf:Str->Option NameKind}{x:Str}:∀{binds:List (Str×Value)}{m:Str->Option Value},(∀v,(x,v)∉binds)->bindL kindOf binds m x=m x
 |[],_,_=>rfl|(n,v)::r,m,h=>by
   unfold bindL;rw[qT λw a=>h w (mem_cons_of_mem _ a)];split
   . have:x≠n:=by rintro rfl;exact h v mem_cons_self
     simp[this]
   .rfl
theorem rM{kindOf:Str->Option NameKind}{x:Str}:∀{binds:List (Str×Value)}{m:Str->Option Value},(∀v,(x,v)∉binds)->bindC kindOf binds m x=m x
 |[],_,_=>rfl|(n,v)::r,m,h=>by
   unfold bindC;rw[rM λw a=>h w (mem_cons_of_mem _ a)];split;.rfl
   . have:x≠n:=by rintro rfl;exact h v mem_cons_self
     simp[this]
theorem sO{kindOf:Str->Option NameKind}{x:Str}{v:Value}:∀{P:List Str}{vs:List Value}{i:Nat}{m:Str->Option Value},P.Nodup->P[i]?=some x->vs[i]?=some v->kindOf x=some .local->bindL kindOf (P.zip vs) m x=some v|[],_,_,_,_,h,_,_=>by simp at h|_::_,[],_,_,_,_,h,_=>by simp at h|p::P,w::vs,0,m,nd,h1,a,b=>by simp at h1 a;subst h1;subst a;show bindL kindOf ((p,w)::P.zip vs) m p=_;unfold bindL;rw[qT λv c=>(nodup_cons.mp nd).1 (of_mem_zip c).1,if_pos b];simp|p::P,w::vs,i+1,m,nd,h1,a,b=>by show bindL kindOf ((p,w)::P.zip vs) m x=_;unfold bindL;exact sO (i:=i) (nodup_cons.mp nd).2 (by simpa using h1) (by simpa using a) b
theorem rG{kindOf:Str->Option NameKind}{x:Str}{v:Value}:∀{P:List Str}{vs:List Value}{i:Nat}{m:Str->Option Value},P.Nodup->P[i]?=some x->vs[i]?=some v->kindOf x≠some .local->bindC kindOf (P.zip vs) m x=some v|[],_,_,_,_,h,_,_=>by simp at h|_::_,[],_,_,_,_,h,_=>by simp at h|p::P,w::vs,0,m,nd,h1,a,b=>by simp at h1 a;subst h1;subst a;show bindC kindOf ((p,w)::P.zip vs) m p=_;unfold bindC;rw[rM λv c=>(nodup_cons.mp nd).1 (of_mem_zip c).1,if_neg b];simp|p::P,w::vs,i+1,m,nd,h1,a,b=>by show bindC kindOf ((p,w)::P.zip vs) m x=_;unfold bindC;exact rG (i:=i) (nodup_cons.mp nd).2 (by simpa using h1) (by simpa using a) b
noncomputable def start(N:List Str)(vs:List V):St:=vs.map some++replicate (N.length-vs.length) none
noncomputable def yu(CX:De)(P:Program)(w:World)(K:PySem.W.Frag)(mg:Str->Option Value)(base:Heap)(N:List Str)(qual:Str)(scope:Scope)(f:Addr)(b:Value)(A:Around)(outer:List Env)(s:Shared)(H:Hp)(E:XK):Cx where prog:=P;w:=w;K:=K;mg:=mg;base:=base;A:=A.deeper (envOfC qual scope s.heap.objs.size f b);N:=N;s₀:=s;H₀:=H;env:=envOfC qual scope s.heap.objs.size f b;outer:=outer;stack:=envOfC qual scope s.heap.objs.size f b::outer;ex:=[];calm:=true;fn:=λ_=>true;pn:=[];xe:=λe c=>wpAny (model P w) (A.deeper (envOfC qual scope s.heap.objs.size f b)) (leaving (envOfC qual scope s.heap.objs.size f b) e) (λ_ a=>CX outer H s E e a) (λg a=>CX outer H s E g a) c
theorem wK{a:Scope}{n:Nat}{x:Str}(h:a.names.lookup x=some .cell):∃c,(cellsFrom n a.names []).lookup x=some c:=by have q:=PySem.W.cellsFrom_some a.names n [] (.inl h);exact Option.isSome_iff_exists.mp q
theorem Bq{CX:De}{P:Program}{mg:Str->Option Value}{base:Heap}{N ps:List Str}{qual:Str}{scope:Scope}{f:Addr}{o:Value}{outer:List Env}{s1:Shared}{E:XK}{vs:List V}(S:aQ N ps scope)(hd:A.handled=none)(j:KC P w K mg base A outer s H)(L:vs.length=ps.length)(r:Vals vs us)(x:InCallC s s.heap.objs.size (bindL (envOfC qual scope s.heap.objs.size f o).kindOf (ps.zip us) λ_=>none) (cellsFrom (s.heap.objs.size+1) scope.names []) (bindC (envOfC qual scope s.heap.objs.size f o).kindOf (ps.zip us) λ_=>none) s1):Inv (yu CX P w K mg base N qual scope f o A outer s H E) [] (start N vs) H s1:=by
 have hpl:ps.length<=N.length:=by have:=congrArg List.length S.pre;rw[length_take]at this;omega
 obtain⟨h1,O,rfl,C⟩:=x.done;have B:∀b:Addr,b∉(yu CX P w K mg base N qual scope f o A outer s H E).ex:=λb z=>absurd (show b∈([]:List Addr)from z) (by simp);refine⟨⟨j.mod,S.kind,rfl,rfl,dC,λy z c h1 g=>?_,λy hy=>?_,λy c _ h=>?_,λ_=>hd,Around.frames_deeper j.frames,.inr ⟨rfl,rfl⟩,λb z=>absurd z (B b),j.bs,j.NZ,λb _ _=>B b,λb z=>absurd z (B b),j.qw,j.U8⟩,rfl,j.bare,Un.kept C,⟨_,x.toInCall.ns,λi y v h1 g Q=>?_⟩,λy c h=>⟨_,x.cell y c h⟩,j.hok.fresh (dC),λy c h=>?_,λp l=>absurd (show p∈([]:List (Addr×Obj))from l) (by simp),j.hok.kept C,?_⟩;.exact name_of_addr x.apart (PySem.mem_of_lookup h1) (PySem.mem_of_lookup g)
 . have hy:scope.names.lookup y=some .cell\/scope.names.lookup y=some .free:=hy;rcases hy with hy|hy;.exact wK hy
   .exact absurd rfl (S.SM _ (PySem.mem_of_lookup hy))
 .exact le_of_lt (x.above y c (PySem.mem_of_lookup h))
 . have t:i<vs.length:=by
    unfold start at g;by_cases t:i<vs.length;.exact t
    .rw[getElem?_append_right (by simpa using t)]at g;rw[List.getElem?_replicate]at g;split at g<;>cases g
   have I:vs[i]?=some v:=by unfold start at g;rw[getElem?_append_left (by simpa using t),getElem?_map]at g;cases e:vs[i]?with|none=>rw[e]at g;cases g|some a=>rw[e]at g;cases g;rfl
   obtain⟨u,G,J⟩:=r.get I;have l:ps[i]?=some y:=by rw[<-S.pre,List.getElem?_take_of_lt (by omega)];exact h1
   have m:ps.Nodup:=by rw[<-S.pre];exact S.nd.sublist (List.take_sublist _ _)
   refine⟨u,J,?_⟩;rcases S.par y (mem_of_getElem? l)with k|k;.exact .inl ⟨k,sO m l G k⟩
   .obtain⟨c,e⟩:=wK (n:=s.heap.objs.size+1) k;refine .inr ⟨.inl k,c,e,?_⟩;have q:=x.cell y c e;rw[rG m l G (by show scope.names.lookup y≠_;rw[k];decide)]at q;exact q
 .exact j.hok.fresh (le_of_lt (x.above y c (PySem.mem_of_lookup h)))
 .unfold start;show _=N.length;rw[length_append,length_map,List.length_replicate];omega
theorem VF{CX:De}{P:Program}{w:World}{K:PySem.W.Frag}{mg:Str->Option Value}{base:Heap}{k:Nat}{f:Addr}{name qual:Str}{a:Arguments}{body:List Stmt}{scope:Scope}{G kV l L cdv ct oc:Value}{O Y:Option Addr}{p:Array (Option Value)}{N ps:List Str}{sp:Sp}(lk:K.lookup f=some ⟨oc,Y,.func (PySem.W.fnOf name qual a body scope G kV l L O cdv ct),p⟩)(z:PySem.W.codeIn K cdv qual=true)(S:aQ N ps scope)(len:∀vs H Q E,sp vs H Q E->vs.length=ps.length)(g:∀(A:Around)(outer:List Env)(s:Shared)(H:Hp)(vs:List V)(Q:VK)(E:XK),iK k (A.deeper (envOfC qual scope s.heap.objs.size f cdv))->sp vs H Q E->∃t,qC (yu CX P w K mg base N qual scope f cdv A outer s H E) body t/\t {nx:=λ_ H'=>Q .non H',rt:=Q} (start N vs) H):lF P w K mg base CX (k+1) f (PySem.W.fnOf name qual a body scope G kV l L O cdv ct) ps sp:=by
 refine⟨len,λA outer s H args us vs Q E hr m Z r hsp=>?_⟩;have hl:=len _ _ _ _ hsp;have U:K.In s.heap:=m.mod.qI.keeps λb o e=>(m.bs b o e).1;have lim:s.heap.NoLimit:=m.mod.nolimit.keeps λb o e=>(m.bs b o e).1;have j:∀y∈ps.zip us,scope.names.lookup y.1=some .local\/(scope.names.lookup y.1=some .cell/\((cellsFrom (s.heap.objs.size+1) scope.names []).lookup y.1).isSome=true):=λ⟨n,v⟩hy=>by
  rcases S.par n (of_mem_zip hy).1 with q|q;.exact .inl q
  .exact .inr ⟨q,PySem.W.cellsFrom_some _ _ _ (.inl q)⟩
 refine codeAny_call_function hr.depth (U _ _ lk) rfl S.co S.gen rfl (PySem.W.codeRec_of U z) (Z _ _ _ _ ?_);refine wpAny_newFunctionEnv_cells S.kind j λenv he s1 x=>?_;subst he;refine⟨lim.keeps x.toInCall.keep,codeAny_func ?_⟩;obtain⟨t,ht,hq⟩:=g A outer s H vs Q E (hr.deeper _) hsp;have I:Inv (yu CX P w K mg base N qual scope f cdv A outer s H E) [] (start N vs) H s1:=Bq S hr.hd m hl r x;refine wpAny_mono (ht [] s1 (start N vs) H _ I hq) (λfl B hs=>?_) λe B hs=>hs;have fin:∀{c:St}{H':Hp}{v:V}{u:Value},Inv (yu CX P w K mg base N qual scope f cdv A outer s H E) [] c H' B->RelV v u->Q v H'->CE outer P w H s Q u B:=λ{c H' v u}J C q=>⟨v,H',J.os,J.bare,J.base,J.hok,C,q⟩;cases fl with|ret u=>obtain⟨v,c,H',J,C,q⟩:=hs;exact fin J C q|next=>obtain⟨c,H',J,q⟩:=hs;exact fin (v:=V.non) (u:=Value.none) J rfl q|brk=>obtain⟨_,_,_,q⟩:=hs;exact False.elim q|cont=>obtain⟨_,_,_,q⟩:=hs;exact False.elim q
section
variable{X:Cx}{x:Str}{p pos:Pos}{e:Expr}{es:List Expr}{t:TA}{id T:String}{r:List V->Hp->VK->Prop}
def tCB(r:List V->Hp->VK->Prop)(t:TA):TE:=λσ H Q=>t σ H λvs a=>r vs a Q
theorem fj(hc:dH X (.builtin id) r)(b:Gl X x)(c:X.mg x=none)(f:bootBuiltins x=some (.builtin id))(g:PA X (e::es) t)(j:x≠"__name__":=by decide)(a:(x==("__debug__":Str))=false:=by decide)(he:starEach (e::es) X.env=(false,eval e X.env)::starEach es X.env:=by rfl)(hpl:(backTo pos (starEach es X.env)).any (·.1)=false:=by rfl):PE X (.Call (.Name x p) (e::es) [] pos) (tCB r t):=by intro pins s σ H Q I h;refine wpAny_Call_Name_kw (lO I b c f ?_ j a);exact PyProof.Rows.callWith_builtin1 (bU (g pos pins s σ H _ I h) λus s1⟨vs,H1,I1,r1,q1⟩=>hc pins s1 σ H1 vs us Q I1 r1 q1) he hpl
theorem jt(hc:dH X (.type T) r)(b:Gl X x)(c:X.mg x=none)(f:bootBuiltins x=some (.type T))(g:PA X (e::es) t)(j:x≠"__name__":=by decide)(a:(x==("__debug__":Str))=false:=by decide)(he:starEach (e::es) X.env=(false,eval e X.env)::starEach es X.env:=by rfl)(hpl:(backTo pos (starEach es X.env)).any (·.1)=false:=by rfl):PE X (.Call (.Name x p) (e::es) [] pos) (tCB r t):=by intro pins s σ H Q I h;refine wpAny_Call_Name_kw (lO I b c f ?_ j a);exact PyProof.Rows.callWith_type1 (bU (g pos pins s σ H _ I h) λus s1⟨vs,H1,I1,r1,q1⟩=>hc pins s1 σ H1 vs us Q I1 r1 q1) he hpl
end
end L2
namespace HT
open PySem PyProof.Rows
section
variable{prog:Program}{w:World}{A:Around}{E:Value->Shared->Prop}{s:Shared}
theorem LQ{t b:Addr}{vs ws:List Value}{Q:Value->Shared->Prop}(ht:IsTup s.heap t vs.toArray)(o:IsTup s.heap b ws.toArray)(j:vs≠[])(h1:ws=[]->Q (.ref t) s)(p:ws≠[]->Q (.ref s.heap.objs.size) {s with heap:=s.heap.push {cls:=.type "tuple",data:=.seq (vs++ws).toArray}})(hsz:vs.length+ws.length<=sizeLine):wpAny (model prog w) A (binaryOp .Add (.ref t) (.ref b)) Q E s:=by
 obtain⟨⟨cls,k,data,sl⟩,ho,hc,n,hd⟩:=id ht;obtain⟨⟨l,c,data2,f⟩,a,g,m,h⟩:=id o;simp only at hc hd g h;subst hc hd g h;have e:vs.toArray++ws.toArray=(vs++ws).toArray:=by simp
 by_cases i:ws=[];.exact concat_meets ⟨_,ho,rfl⟩ ⟨_,a,rfl⟩ noFill_tuple_add seq_tuple_add slot_tuple_add entry_tuple_add (args_tuple_add_2 _ _) (tuple_addW1 t b vs.toArray ws.toArray n m k c sl f (by simpa using j) (by simp[i])) ⟨ho,a,h1 i⟩
 .refine concat_meets ⟨_,ho,rfl⟩ ⟨_,a,rfl⟩ noFill_tuple_add seq_tuple_add slot_tuple_add entry_tuple_add (args_tuple_add_2 _ _) (tuple_addW2 t b vs.toArray ws.toArray n m k c sl f (by simpa using j) (by simpa using i) (by rw[size_toArray,size_toArray];exact hsz)) ⟨ho,a,?_⟩;rw[e];exact p i
noncomputable def du(n d:Nat):Option Int->Nat|none=>d|some v=>if v<0 then(v+(n:Int)).toNat else min v.toNat n
theorem Pu(n d:Nat)(hd:d<=n)(o:Option Int):du n d o<=n:=by cases o with|none=>exact hd|some v=>
   show(if v<0 then(v+(n:Int)).toNat else min v.toNat n)<=n;by_cases a:v<0;.rw[if_pos a];omega
   .rw[if_neg a];exact Nat.min_le_right _ _
theorem zA(v:Int)(n d:Nat):(if v<0 then max (v+(n:Int)) 0 else min v (n:Int))=((du n d (some v):Nat):Int):=by
 show(if v<0 then max (v+(n:Int)) 0 else min v (n:Int))=(((if v<0 then(v+(n:Int)).toNat else min v.toNat n):Nat):Int);by_cases a:v<0;.simp only[if_pos a];omega
 .simp only[if_neg a];omega
theorem xm(lo a:Option Int)(n:Nat):sliceAdjust lo a 1 (n:Int)=(((du n 0 lo:Nat):Int),((du n n a:Nat):Int)):=by
 have h1:¬((1:Int)<0):=by omega
 unfold sliceAdjust;simp only[h1,if_false];refine Prod.ext ?_ ?_;.cases lo with|none=>rfl|some v=>exact zA v n 0
 .cases a with|none=>rfl|some v=>exact zA v n n
theorem yo(i j:Nat):slicePlaces (i:Int) (j:Int) 1=j-i:=by
 unfold slicePlaces;have h1:(1:Int)>0:=by omega
 simp only[h1,if_true,Int.ediv_one];split<;>omega
theorem o7{v:Value}{o:Option Int}{Q:Option Int->Shared->Prop}(p:IsPart v o)(h:Q o s):wpAny (model prog w) A (Builtin.Slice.slicePartIndex v) Q E s:=by cases p with|none=>exact slicePart_none h|int i t=>exact slicePart_int h
theorem ir{sl:Addr}{e f:Value}{lo a:Option Int}{n:Nat}{Q:Int×Int×Nat->Shared->Prop}(hs:s.heap.IsSliceOf sl e f .none)(pl:IsPart e lo)(g:IsPart f a)(h:Q (((du n 0 lo:Nat):Int),1,du n n a-du n 0 lo) s):wpAny (model prog w) A (sliceApplied (.ref sl) (pure (n:Int))) Q E s:=by obtain⟨os,b,i,c⟩:=id hs;unfold sliceApplied Builtin.Slice.sliceFields;refine wpAny_bind (wpAny_bind (wpAny_field b c (x:=e) rfl (wpAny_bind (wpAny_field b c (x:=f) rfl (wpAny_bind (wpAny_field b c (x:=.none) rfl (wpAny_pure ?_)))))));refine wpAny_bind (slicePart_none ?_);show wpAny _ _ (if((1:Int)==0)=true then _ else _) _ _ s;rw[if_neg (by decide)];refine wpAny_bind (o7 pl (wpAny_bind (o7 g (wpAny_bind (wpAny_pure ?_)))));show wpAny _ _ (match sliceAdjust lo a 1 (n:Int)with|(lo,a)=>pure (lo,(1:Int),slicePlaces lo a 1)) _ _ s;rw[xm lo a n];show wpAny _ _ (pure (((du n 0 lo:Nat):Int),(1:Int),slicePlaces ((du n 0 lo:Nat):Int) ((du n n a:Nat):Int) 1)) _ _ s;rw[yo];exact wpAny_pure h
theorem Di(xs:Array Value)(i k:Nat):((List.range k).filterMap λ(m:Nat)=>xs[((i:Int)+(m:Int)*1).toNat]?).toArray=((xs.toList.drop i).take k).toArray:=by
 have e:(λ(m:Nat)=>xs[((i:Int)+(m:Int)*1).toNat]?)=λm=>xs[i+m]?:=by
  funext m;have:((i:Int)+(m:Int)*1).toNat=i+m:=by omega
  rw[this]
 rw[e];have:=pick_run xs i k;rw[List.filterMap_map]at this;have a:((λx=>xs[x]?)∘ λx=>i+x)=λm=>xs[i+m]?:=rfl;rw[a]at this;rw[this]
theorem j5{t sl:Addr}{items:Array Value}{i j:Value}{lo a:Option Int}{Q:Value->Shared->Prop}(ht:IsTup s.heap t items)(hs:s.heap.IsSliceOf sl i j .none)(pl:IsPart i lo)(k:IsPart j a)(l:¬(du items.size 0 lo=0/\du items.size items.size a=items.size))(h:Q (.ref s.heap.objs.size) {s with heap:=s.heap.push {cls:=.type "tuple",data:=.seq ((items.toList.drop (du items.size 0 lo)).take (du items.size items.size a-du items.size 0 lo)).toArray}})(hsz:items.size<=sizeLine):wpAny (model prog w) A (getItem (.ref t) (.ref sl)) Q E s:=by
 have b:sizeOk (.seq ((items.toList.drop (du items.size 0 lo)).take (du items.size items.size a-du items.size 0 lo)).toArray):=by show((items.toList.drop (du items.size 0 lo)).take (du items.size items.size a-du items.size 0 lo)).toArray.size<=sizeLine;rw[size_toArray,length_take,List.length_drop,length_toList];omega
 have o:du items.size items.size a<=items.size:=Pu _ _ (dC) a;obtain⟨os,c,e,n⟩:=id hs;have f:s.TypeIs (.ref sl) "slice":=⟨os,c,e⟩;unfold getItem;try with_reducible refine wpAny_holding ?_
 first|refine wpAny_bind (wpAny_pure ?_)|skip
 refine wpAny_bind (wpAny_sequenceKey ht.typeIs (by decide) ?_);refine wpAny_bind (wpAny_callSpecial?_slot (name:=Str.ofString "__getitem__") ht.typeIs PyProof.Rows.slot_tuple_getitem (wpAny_call_entry PyProof.Rows.slot_tuple_getitem ht.typeIs entry_tuple_getitem ?_ (args_tuple_getitem _ _)));show wpAny _ _ (tupleItemsOf (.ref t)>>=_) _ _ s;refine wpAny_bind (tupleItemsOf_ ht ?_);refine wpAny_bind (wpAny_typeOf f ?_);rw[if_pos (by decide)];refine wpAny_bind (ir hs pl k ?_);have g:¬((((du items.size 0 lo:Nat):Int)==0&&(1:Int)==1&&(du items.size items.size a-du items.size 0 lo)==items.size)=true):=by intro q;rw[and_eq_true,and_eq_true]at q;have p:((du items.size 0 lo:Nat):Int)=0:=eq_of_beq q.1.1;have r:du items.size items.size a-du items.size 0 lo=items.size:=eq_of_beq q.2;exact l ⟨by omega,by omega⟩
 show wpAny _ _ (if(((du items.size 0 lo:Nat):Int)==0&&(1:Int)==1&&(du items.size items.size a-du items.size 0 lo)==items.size)=true then _ else _) _ _ s;rw[if_neg g,Di];first|exact wpAny_bind (m:=tupleExact _) (wpAny_newObj_type (wpAny_pure ⟨_,rfl,wpAny_pure h⟩) b)|exact wpAny_bind (m:=tupleExact _) (wpAny_newObj_type (wpAny_bind (wpAny_pure (wpAny_pure ⟨_,rfl,wpAny_pure h⟩))) b)|exact wpAny_bind (wpAny_bind (m:=tupleExact _) (wpAny_newObj_type (wpAny_pure (wpAny_pure ⟨_,rfl,wpAny_pure h⟩)) b))|exact wpAny_bind (wpAny_bind (m:=tupleExact _) (wpAny_newObj_type (wpAny_pure ⟨_,rfl,wpAny_pure h⟩) b))
end
end HT
namespace L2
open PySem PySem.Spec PyProof.Rows
variable{n:Nat}{s:Shared}{x:V}
abbrev TO:=St->Hp->(Option Int->Hp->Prop)->Prop
def PO(X:Cx)(e:Option Expr)(t:TO):Prop:=∀(a:List (Addr × Obj))(s:Shared)(σ:St)(H:Hp)(Q:Option Int->Hp->Prop),Inv X a σ H s->t σ H Q->wpAny (model X.prog X.w) X.A (evalPart e X.env) (λu b=>∃o H',Inv X a σ H' b/\IsPart u o/\Q o H') X.xe s
def Ld:TO:=λ_ H Q=>Q none H
def VB(t:TE):TO:=λσ H Q=>t σ H λx a=>∃i,x=.int i/\Q (some i) a
section
variable{X:Cx}{e:Expr}{te:TE}{lo hi:Option Expr}{tl th:TO}{pos p2:Pos}
theorem KY:PO X none Ld:=by intro a s σ H Q I h;rw[evalPart_none];exact wpAny_pure ⟨none,H,I,.none,h⟩
theorem JL(h:PE X e te):PO X (some e) (VB te):=by intro a s σ H Q I b;rw[evalPart_some];refine bU (h a s σ H _ I b) λu s1⟨x,H1,I1,r1,q1⟩=>?_;obtain⟨i,rfl,q⟩:=q1;obtain⟨t,rfl⟩:=r1;exact⟨some i,H1,I1,.int i t,q⟩
def YT(X:Cx)(r:V->Option Int->Option Int->Hp->VK->Prop):Prop:=∀(a:List (Addr × Obj))(s:Shared)(σ:St)(H:Hp)(x:V)(v b c:Value)(lo hi:Option Int)(sl:Addr)(Q:VK),Inv X a σ H s->RelV x v->s.heap.IsSliceOf sl b c .none->IsPart b lo->IsPart c hi->r x lo hi H Q->∃T id,typeLookup (.type T) "__getitem__"=pure (some (.builtin id))/\s.TypeIs v T/\wpAny (model X.prog X.w) X.A (getItem v (.ref sl)) (EP X a σ Q) X.xe s
def tSl(r:V->Option Int->Option Int->Hp->VK->Prop)(te:TE)(tl th:TO):TE:=λσ H Q=>te σ H λx a=>tl σ a λl b=>th σ b λu c=>r x l u c Q
theorem wG{r:V->Option Int->Option Int->Hp->VK->Prop}(hr:YT X r)(he:PE X e te)(g:PO X lo tl)(i:PO X hi th):PE X (.Subscript e (.Slice lo hi none p2) pos) (tSl r te tl th):=by intro a s σ H Q I h;refine Subscript_ (bU (he a s σ H _ I h) λv s1⟨x,H1,I1,r1,q1⟩=>?_);refine wpAny_Slice (bU (g a s1 σ H1 _ I1 q1) λc s2⟨l,H2,I2,pl,q2⟩=>bU (i a s2 σ H2 _ I2 q2) λf s3⟨u,H3,I3,pu,q3⟩=>?_);rw[evalPart_none];refine wpAny_pure ?_;have j:Inv X a σ H3 {s3 with heap:=s3.heap.push {cls:=.type "slice",data:=.fields #[c,f,.none]}}:=I3.kept (t':=s3.toks) λb o q=>gW q;obtain⟨T,id,k,ht,m⟩:=hr a {s3 with heap:=s3.heap.push {cls:=.type "slice",data:=.fields #[c,f,.none]}} σ H3 x v c f l u s3.heap.objs.size Q j r1 (Heap.IsSliceOf.new ..) pl pu q3;show wpAny (model X.prog X.w) X.A (subscriptTail e (.Slice lo hi none p2) v (.ref s3.heap.objs.size)) (EP X a σ Q) X.xe {s3 with heap:=s3.heap.push {cls:=.type "slice",data:=.fields #[c,f,.none]}};exact tail_any (ops:=[.ref s3.heap.objs.size,v]) ht k m (by with_unfolding_all rfl)
noncomputable def wJ(xs:List V)(lo hi:Option Int):List V:=(xs.drop (HT.du xs.length 0 lo)).take (HT.du xs.length xs.length hi-HT.du xs.length 0 lo)
theorem mR(xs:List V)(lo hi:Option Int):(wJ xs lo hi).length<=xs.length:=by unfold wJ;rw[length_take,List.length_drop];omega
def abT(K:PySem.W.Frag):V->Option Int->Option Int->Hp->VK->Prop:=λx lo hi H Q=>∃a xs,x=.ref a/\jG K H a xs/\¬(HT.du xs.length 0 lo=0/\HT.du xs.length xs.length hi=xs.length)/\∀p,H p=none->Q (.ref p) (upd H p (.tup (wJ xs lo hi)))
theorem Oq:YT X (abT X.K):=by
 intro g s σ H x v m p lo hi sl Q I i hs pl j h;obtain⟨a,xs,rfl,k,l,q⟩:=h;cases i;obtain⟨f,r,ht,hz⟩:=I.tuple k;have c:f.toArray.size=xs.length:=by rw[size_toArray];exact r.length.symm
 refine⟨"tuple",_,PyProof.Rows.slot_tuple_getitem.lookup,ht.typeIs,?_⟩;refine HT.j5 ht hs pl j (by rw[c];exact l) ?_ (by rw[c];exact hz);rw[c];refine⟨.ref s.heap.objs.size,_,I.laid (t':=s.toks) (o:=.tup (wJ xs lo hi)) (λb t q=>gW q) (dC) ?_,rfl,q _ (I.hok.fresh (dC))⟩;exact⟨le_trans (mR xs lo hi) hz,_,(r.drop (HT.du xs.length 0 lo)).take (HT.du xs.length xs.length hi-HT.du xs.length 0 lo),IsTup.new _ _⟩
def W9(K:PySem.W.Frag):R2:=λx y H Q=>∃a b xs ys,x=.ref a/\y=.ref b/\jG K H a xs/\jG K H b ys/\xs≠[]/\xs.length+ys.length<=sizeLine/\(ys=[]->Q (.ref a) H)/\(ys≠[]->∀p,H p=none->Q (.ref p) (upd H p (.tup (xs++ys))))
theorem Vals.nY{xs:List V}{a:List Value}(r:Vals xs a):a=[]↔xs=[]:=by cases r with|nil=>simp|cons _ _=>simp
theorem Jw:eU X (binaryOp .Add) (W9 X.K):=by intro f s σ H x y v u Q I i j h;obtain⟨a,b,xs,ys,rfl,rfl,k,l,m,hz,p,r⟩:=h;cases i;cases j;obtain⟨t,r1,A,_⟩:=I.tuple k;obtain⟨g,c,p2,_⟩:=I.tuple l;refine HT.LQ A p2 (λz=>m (r1.nY.mp z)) (λz=>⟨.ref a,H,I,rfl,p (c.nY.mp z)⟩) (λz=>?_) (by rw[<-r1.length,<-c.length];exact hz);refine⟨.ref s.heap.objs.size,_,I.laid (t':=s.toks) (o:=.tup (xs++ys)) (λb B q=>gW q) (dC) ?_,rfl,r (λw=>z (c.nY.mpr w)) _ (I.hok.fresh (dC))⟩;exact⟨by rw[length_append];exact hz,_,r1.append c,IsTup.new _ _⟩
end
noncomputable def gK(n:Nat)(i:Int):Option Nat:=if 0<=i then(if i<n then some i.toNat else none)else if-(n:Int)<=i then some (i+n).toNat else none
noncomputable def BZ{a:Type}(xs:List a)(i:Int):Option a:=(gK xs.length i).bind λj=>xs[j]?
theorem nW{i:Int}{j:Nat}(h:gK n i=some j):seqIndex? i n=some j/\j<n/\-(n:Int)<=i/\i<n:=by
 unfold gK at h;by_cases h0:0<=i
 . rw[if_pos h0]at h;by_cases h1:i<n;.rw[if_pos h1]at h;have e:i.toNat=j:=Option.some.inj h;exact⟨by rw[seqIndex_of h0 h1,e],by omega,by omega,h1⟩
   .rw[if_neg h1]at h;cases h
 . rw[if_neg h0]at h;by_cases h1:-(n:Int)<=i;.rw[if_pos h1]at h;have e:(i+n).toNat=j:=Option.some.inj h;exact⟨by rw[seqIndex_neg (by omega) h1,e],by omega,h1,by omega⟩
   .rw[if_neg h1]at h;cases h
theorem uI{a:Type}{xs:List a}{i:Int}{v:a}(h:BZ xs i=some v):∃j,seqIndex? i xs.length=some j/\xs[j]?=some v/\j<xs.length/\-(xs.length:Int)<=i/\i<xs.length:=by unfold BZ at h;cases e:gK xs.length i with|none=>rw[e]at h;cases h|some j=>rw[e]at h;obtain⟨h1,b,c,f⟩:=nW e;exact⟨j,h1,h,b,c,f⟩
def ur(b:Expr):Prop:=∀o i,subscripted b false o i=operate [o,i] (getItem o i)
def Z0(X:Cx)(r:R2):Prop:=∀(b slice:Expr)(a:List (Addr × Obj))(s:Shared)(σ:St)(H:Hp)(x y:V)(v u:Value)(Q:VK),Inv X a σ H s->RelV x v->RelV y u->r x y H Q->subscripted slice false v u=operate [v,u] (getItem v u)->wpAny (model X.prog X.w) X.A (subscriptTail b slice v u) (EP X a σ Q) X.xe s
def MtR(X:Cx)(id:String)(r:V->List V->Hp->VK->Prop):Prop:=∀(a:List (Addr × Obj))(s:Shared)(σ:St)(H:Hp)(x:V)(xs:List V)(v:Value)(b:List Value)(Q:VK),Inv X a σ H s->RelV x v->Vals xs b->r x xs H Q->wpAny (model X.prog X.w) X.A (call (.builtin id) (v::b)) (EP X a σ Q) X.xe s
section
variable{X:Cx}{a b:Expr}{ta tb:TE}{pos:Pos}
theorem fu{r:R2}(hr:Z0 X r)(e:PE X a ta)(f:PE X b tb)(hs:ur b):PE X (.Subscript a b pos) (yl r ta tb):=by intro c s σ H Q I h;exact Subscript_ (O8 e f I h λv u s2 x y g i j k q=>hr a b c s2 σ g x y v u Q i j k q (hs _ _))
def Lg(K:PySem.W.Frag):R2:=λx y H Q=>∃p xs i v,x=.ref p/\y=.int i/\eG K H p xs/\BZ xs i=some v/\Q v H
def acx(K:PySem.W.Frag):R2:=λx y H Q=>∃p xs i v,x=.ref p/\y=.int i/\jG K H p xs/\BZ xs i=some v/\Q v H
theorem cu:Z0 X (Lg X.K):=by
 intro e slice c s σ H x y v u Q I l m h hs;obtain⟨p,xs,i,z,rfl,rfl,o,he,q⟩:=h;cases l;obtain⟨t,rfl⟩:=m;obtain⟨f,r,pl,hz⟩:=I.list o;obtain⟨j,h1,A,L,B,C⟩:=uI he;obtain⟨w,k,E⟩:=r.get A;have G:=r.length;have M:=pR;have fin:EP X c σ Q w s:=⟨z,H,I,E,q⟩;by_cases h0:0<=i
 . have g:i.toNat=j:=by rw[seqIndex_of h0 C]at h1;exact Option.some.inj h1
   exact item_listR pl.isList h0 (by omega) (by rw[g];simpa using k) fin hs
 . have g:(i+(f.toArray.size:Int)).toNat=j:=by rw[seqIndex_neg (by omega) B]at h1;rw[size_toArray,<-G];exact Option.some.inj h1
   exact subscriptTail_builtinR (x:=w) pl.isList.typeIs slot_list_getitem.lookup (wpAny_getItem_list_neg (Q:=λr J=>r=w/\EP X c σ Q r J) pl.isList (by omega) (by rw[size_toArray]<;>omega) (by omega) (by rw[g];simpa using k) ⟨rfl,fin⟩) hs
theorem Qu:Z0 X (acx X.K):=by intro e slice c s σ H x y v u Q I f g h hs;obtain⟨p,xs,i,z,rfl,rfl,k,he,q⟩:=h;cases f;obtain⟨t,rfl⟩:=g;obtain⟨l,r,pl,hz⟩:=I.tuple k;obtain⟨j,h1,m,E,G,J⟩:=uI he;obtain⟨w,o,A⟩:=r.get m;have B:=r.length;have L:=pR;have fin:EP X c σ Q w s:=⟨z,H,I,A,q⟩;exact subscriptTail_builtinR (x:=w) pl.typeIs slot_tuple_getitem.lookup (getItem_tuple (j:=j) (Q:=λr C=>r=w/\EP X c σ Q r C) pl (by omega) (by omega) (by rw[size_toArray,<-B];exact h1) (by simpa using o) ⟨rfl,fin⟩) hs
theorem yh(c:List Value)(n j:Nat)(u:Value):Obj.mapSeq (·.setIfInBounds j u) {cls:=.type "list",data:=.seq c.toArray n}={cls:=.type "list",data:=.seq (c.set j u).toArray n}:=by simp[Obj.mapSeq]
theorem Inv.lst{f:List (Addr×Obj)}{σ:St}{H:Hp}{s:Shared}{p:Addr}{xs:List V}(I:Inv X f σ H s)(h:H p=some (.lst xs)):∃(c:List Value)(n:Nat),Vals xs c/\s.heap.get? p=some {cls:=.type "list",data:=.seq c.toArray n}/\xs.length<=sizeLine:=by obtain⟨z,c,n,r,e⟩:=I.hok p _ h;exact⟨c,n,r,e,z⟩
theorem Inv.Qy{c:List (Addr×Obj)}{σ:St}{H:Hp}{s:Shared}{p:Addr}{xs ys:List V}{g its':List Value}{n i:Nat}{f:Obj->Obj}(I:Inv X c σ H s)(h:H p=some (.lst xs))(ho:s.heap.get? p=some {cls:=.type "list",data:=.seq g.toArray n})(j:f {cls:=.type "list",data:=.seq g.toArray n}={cls:=.type "list",data:=.seq its'.toArray i})(r:Vals ys its')(hz:ys.length<=sizeLine)(t:Nat):Inv X c σ (upd H p (.lst ys)) {s with heap:=s.heap.update p f,toks:=t}:=by
 have e:(s.heap.update p f).get? p=some {cls:=.type "list",data:=.seq its'.toArray i}:=by rw[Heap.get?_update_self f ho (by rw[j]<;>rfl),j]
 refine I.write (x:=p) (e:=p) (by rw[h];trivial) (.inl rfl) (λb u k q=>(get?_update_other _ _ (Ne.symm k)).trans q) ⟨_,e⟩ ?_;exact⟨hz,its',i,r,e⟩
def yV:V->V->V->Hp->(Hp->Prop)->Prop:=λo i v H Q=>∃p xs k j,o=.ref p/\i=.int k/\H p=some (.lst xs)/\gK xs.length k=some j/\Q (upd H p (.lst (xs.set j v)))
theorem set_list:Ol X yV:=by
 intro c s σ H o i v E iv u Q I z A B h;obtain⟨p,xs,k,j,rfl,rfl,l,C,q⟩:=h;cases z;obtain⟨t,rfl⟩:=A;obtain⟨e,n,r,ho,hz⟩:=I.lst l;obtain⟨h1,G,m,w⟩:=nW C;have f:=r.length;have J:=pR;have y:Inv X c σ (upd H p (.lst (xs.set j v))) {s with heap:=s.heap.update p (Obj.mapSeq (·.setIfInBounds j u))}:=I.Qy l ho (yh e n j u) (r.set B j) (by rw[List.length_set];exact hz) s.toks;by_cases h0:0<=k
 . have g:k.toNat=j:=by rw[seqIndex_of h0 w]at h1;exact Option.some.inj h1
   exact PySem.W.ki_setAt ho h0 (by omega) (by rw[size_toArray,<-f];exact w) (by rw[g];exact⟨_,y,q⟩)
 . have g:(k+(e.toArray.size:Int)).toNat=j:=by rw[seqIndex_neg (by omega) m]at h1;rw[size_toArray,<-f];exact Option.some.inj h1
   exact PySem.W.ki_setBack ho (by omega) (by rw[size_toArray,<-f];exact m) (by omega) (by rw[g];exact⟨_,y,q⟩)
theorem uM(lo c:Option Int)(n:Nat):(sliceBounds lo c none n).1=((HT.du n 0 lo:Nat):Int)/\(sliceBounds lo c none n).2.1=((HT.du n n c:Nat):Int)/\(sliceBounds lo c none n).2.2=1:=by
 refine⟨?_,?_,rfl⟩;.cases lo with|none=>simp[sliceBounds,HT.du]|some i=>
     simp only[sliceBounds,HT.du,getD_none,show(1:Int)>0 by decide,if_true];by_cases h:i<0;.simp only[h,if_true]<;>omega
     .simp only[h,if_false]<;>omega
 .cases c with|none=>simp[sliceBounds,HT.du]|some i=>
     simp only[sliceBounds,HT.du,getD_none,show(1:Int)>0 by decide,if_true];by_cases h:i<0;.simp only[h,if_true]<;>omega
     .simp only[h,if_false]<;>omega
theorem qK(c:List Value)(lo e:Option Int):slicePick c.toArray lo e none=((c.drop (HT.du c.length 0 lo)).take (HT.du c.length c.length e-HT.du c.length 0 lo)).toArray:=by obtain⟨h1,f,g⟩:=uM lo e c.toArray.size;unfold slicePick;rw[h1,f,g];simp only[sliceRange_one,pick_run,size_toArray]<;>rfl
def ab4(K:PySem.W.Frag):V->Option Int->Option Int->Hp->VK->Prop:=λx lo c H Q=>∃a xs,x=.ref a/\eG K H a xs/\∀p,H p=none->Q (.ref p) (upd H p (.lst (wJ xs lo c)))
theorem Km:YT X (ab4 X.K):=by intro f s σ H x v l m lo e sl Q I g hs pl i h;obtain⟨a,xs,rfl,j,q⟩:=h;cases g;obtain⟨k,r,ht,hz⟩:=I.list j;have c:=r.length;refine⟨"list",_,slot_list_getitem.lookup,ht.isList.typeIs,?_⟩;refine wpAny_getItem_list_slice ht.isList hs pl i .none (by simp) ?_ (by rw[size_toArray]<;>omega);rw[qK,<-c];refine⟨.ref s.heap.objs.size,_,I.laid (t':=s.toks) (o:=.lst (wJ xs lo e)) (λb p q=>gW q) (dC) ?_,rfl,q _ (I.hok.fresh (dC))⟩;exact⟨le_trans (mR xs lo e) hz,_,0,(r.drop (HT.du xs.length 0 lo)).take (HT.du xs.length xs.length e-HT.du xs.length 0 lo),get?_push_size _ rfl⟩
noncomputable def jL:V->Bool|.non=>true|.bl _=>true|.int _=>true|.str _=>true|_=>false
noncomputable def KN:V->V->Bool|.non,.non=>true|.bl a,.bl b=>a==b|.bl a,.int b=>(if a then 1 else 0)==b|.int a,.bl b=>a==(if b then 1 else 0)|.int a,.int b=>a==b|.str a,.str b=>a==b|_,_=>false
theorem RJ{A:Around}{y:V}{u v:Value}(e:RelV y u)(c:RelV x v)(g:jL y=true)(f:jL x=true):SeqAt.EqAt A s u v (KN y x):=by cases y with
 |non=>cases e;cases x with|non=>cases c;exact SeqAt.EqAt.same _|bl b=>cases c;exact none_bool b|int b=>obtain⟨t,rfl⟩:=c;exact none_int b t|str b=>obtain⟨t,rfl⟩:=c;exact none_str b t|_=>exact absurd (show false=true from f) Bool.false_ne_true
 |bl a=>cases e;cases x with|non=>cases c;exact bool_none a|bl b=>cases c;exact bool_bool a b|int b=>obtain⟨t,rfl⟩:=c;exact bool_int a b t|str b=>obtain⟨t,rfl⟩:=c;exact bool_str a b t|_=>exact absurd (show false=true from f) Bool.false_ne_true
 |int a=>obtain⟨t',rfl⟩:=e;cases x with|non=>cases c;exact int_none a t'|bl b=>cases c;exact int_bool a t' b|int b=>obtain⟨t,rfl⟩:=c;exact int_int a t' b t|str b=>obtain⟨t,rfl⟩:=c;exact int_str a t' b t|_=>exact absurd (show false=true from f) Bool.false_ne_true
 |str a=>obtain⟨t',rfl⟩:=e;cases x with|non=>cases c;exact str_none a t'|bl b=>cases c;exact str_bool a t' b|int b=>obtain⟨t,rfl⟩:=c;exact str_int a t' b t|str b=>obtain⟨t,rfl⟩:=c;exact str_str a t' b t|_=>exact absurd (show false=true from f) Bool.false_ne_true
 |_=>exact absurd (show false=true from g) Bool.false_ne_true
noncomputable def J6(x:V)(u:Value):Bool:=match u with|.none=>KN .non x|.bool b=>KN (.bl b) x|.int i _=>KN (.int i) x|.str z _=>KN (.str z) x|_=>false
theorem Hs{y:V}{u:Value}(r:RelV y u)(f:jL y=true):J6 x u=KN y x:=by cases y with|non=>cases r;rfl|bl b=>cases r;rfl|int i=>obtain⟨t,rfl⟩:=r;rfl|str z=>obtain⟨t,rfl⟩:=r;rfl|_=>exact absurd (show false=true from f) Bool.false_ne_true
theorem uG{x:V}:∀{xs:List V}{c:List Value},Vals xs c->xs.all jL=true->c.any (J6 x)=xs.any λy=>KN y x|_,_,.nil,_=>rfl|y::xs,u::c,.cons r t,f=>by rw[all_cons,and_eq_true]at f;rw[any_cons,any_cons,Hs r f.1,uG t f.2]
theorem oJ{A:Around}{s:Shared}{x:V}{v:Value}(e:RelV x v)(g:jL x=true):∀{xs:List V}{c:List Value},Vals xs c->xs.all jL=true->∀u∈c,SeqAt.EqAt A s u v (J6 x u)
 |_,_,.nil,_=>λu hu=>by cases hu|y::xs,u::c,.cons r t,f=>λu' hu=>by
   rw[all_cons,and_eq_true]at f;rcases mem_cons.mp hu with rfl|hu;.rw[Hs r f.1];exact RJ r e f.1 g
   .exact oJ e g t f.2 u' hu
noncomputable def inV(x:V)(xs:List V):Bool:=xs.any λy=>KN y x
def rIn(K:PySem.W.Frag)(neg:Bool):R2:=λx y H Q=>∃p xs,y=.ref p/\(eG K H p xs\/jG K H p xs)/\jL x=true/\xs.all jL=true/\Q (.bl (if neg then !inV x xs else inV x xs)) H
theorem Bu:eU X (compareOp .In) (rIn X.K false):=by
 intro f s σ H x y v u Q I g j h;obtain⟨p,xs,rfl,hq,i,fs,q⟩:=h;cases j;rcases hq with hq|hq;.obtain⟨c,r,pl,hz⟩:=I.list hq;refine SeqAt.in_listAt (J6 x) pl.isList (λw e=>oJ g i r fs w (by simpa using e)) ⟨.bl _,H,I,rfl,?_⟩;rw[show c.toArray.any (J6 x)=c.any (J6 x)by simp,uG r fs];exact q
 .obtain⟨c,r,pl,hz⟩:=I.tuple hq;refine SeqAt.in_tupleAt (J6 x) pl (λw e=>oJ g i r fs w (by simpa using e)) ⟨.bl _,H,I,rfl,?_⟩;rw[show c.toArray.any (J6 x)=c.any (J6 x)by simp,uG r fs];exact q
theorem t8:dH X (.builtin "len") (λxs H Q=>∃p ys,xs=[.ref p]/\(eG X.K H p ys\/jG X.K H p ys)/\Q (.int ys.length) H):=by
 intro g s σ H xs j Q I r h;obtain⟨p,ys,rfl,hq,q⟩:=h;obtain⟨u,rfl,i⟩:=vals1 r;cases i;have k:=pR;rcases hq with hq|hq;.obtain⟨e,f,pl,hz⟩:=I.list hq;have c:=f.length;exact Calls.call_len_list pl.isList (by simp only[size_toArray]<;>omega) ⟨.int ys.length,H,I.tok _,⟨s.toks+1,by rw[size_toArray,c]⟩,q⟩
 .obtain⟨e,f,pl,hz⟩:=I.tuple hq;have c:=f.length;exact len_tuple pl (by simp only[size_toArray]<;>omega) ⟨.int ys.length,H,I.tok _,⟨s.toks+1,by rw[size_toArray,c]⟩,q⟩
theorem uF:dH X (.type "list") (λxs H Q=>∃p ys,xs=[.ref p]/\(eG X.K H p ys\/jG X.K H p ys)/\∀l,H l=none->Q (.ref l) (upd H l (.lst ys))):=by
 intro i s σ H xs t Q I r h;obtain⟨p,ys,rfl,hq,q⟩:=h;obtain⟨u,rfl,m⟩:=vals1 r;cases m;have fin:∀(c:List Value),Vals ys c->ys.length<=sizeLine->∀(h':Heap)(f:Nat),(∀b k,s.heap.get? b=some k->h'.get? b=some k)->h'.get? s.heap.objs.size=some {cls:=.type "list",dict:=none,data:=.seq c.toArray f,slots:=#[]}->EP X i σ Q (.ref s.heap.objs.size) {s with heap:=h'}:=λc g hz h' f kp e=>⟨.ref s.heap.objs.size,_,I.laid (t':=s.toks) kp (dC) (show aY X.prog X.w _ h' _ (.lst ys)from⟨hz,c,f,g,e⟩),rfl,q _ (I.hok.fresh (dC))⟩;rcases hq with hq|hq;.obtain⟨c,g,pl,hz⟩:=I.list hq;have j:=g.length;obtain⟨o,ho,hc,n,hd⟩:=pl.isList;exact call_list_seq p (.inl rfl) ho hc hd (λh' f kp e=>fin c g hz h' f kp e) (by simp only[size_toArray]<;>omega)
 .obtain⟨c,g,pl,hz⟩:=I.tuple hq;have j:=g.length;obtain⟨o,ho,hc,n,hd⟩:=pl;exact call_list_seq p (.inr rfl) ho hc hd (λh' f kp e=>fin c g hz h' f kp e) (by simp only[size_toArray]<;>omega)
theorem jN:dH X (.type "tuple") (λxs H Q=>∃p ys,xs=[.ref p]/\((eG X.K H p ys/\∀l,H l=none->Q (.ref l) (upd H l (.tup ys)))\/(jG X.K H p ys/\Q (.ref p) H))):=by
 intro c s σ H xs v Q I r h;obtain⟨p,ys,rfl,h⟩:=h;obtain⟨u,rfl,m⟩:=vals1 r;cases m;rcases h with⟨g,q⟩|⟨g,q⟩;.obtain⟨f,i,pl,hz⟩:=I.list g;have j:=i.length;refine call_tuple_list pl.isList (λh' kp=>?_) (by simp only[size_toArray]<;>omega);have k:Inv X c σ H {s with heap:=h'}:=I.kept (t':=s.toks) kp;have t:Inv X c σ (upd H h'.objs.size (.tup ys)) {s with heap:=h'.push {cls:=.type "tuple",data:=.seq f.toArray}}:=k.laid (t':=s.toks) (λb o e=>gW e) (dC) (show aY X.prog X.w _ _ _ (.tup ys)from⟨hz,f,i,IsTup.new _ _⟩);exact⟨.ref h'.objs.size,_,t,rfl,q _ (k.hok.fresh (dC))⟩
 .obtain⟨f,i,pl,hz⟩:=I.tuple g;exact call_tuple_same pl ⟨.ref p,H,I,rfl,q⟩
def tyV(K:PySem.W.Frag)(T:String)(x:V)(H:Hp):Prop:=match x with|.str _=>T="str"|.int _=>T="int"|.ref p=>(T="list"/\∃xs,eG K H p xs)\/(T="tuple"/\∃o,K.lookup p=some o/\o.cls=.type "tuple"/\o.dict=none)\/(T="dict"/\((∃kvs,H p=some (.dK kvs))\/∃kvs,H p=some (.dT kvs)))\/(T="set"/\∃S n,H p=some (.set S n))|_=>False
theorem R6{g:List (Addr×Obj)}{σ:St}{H:Hp}{T:String}{v:Value}(I:Inv X g σ H s)(r:RelV x v)(ty:tyV X.K T x H):
 s.TypeIs v T/\∀a,v=.ref a->∃j,s.heap.get? a=some j/\j.dict=none:=by cases x with|str z=>obtain⟨t,rfl⟩:=r;cases(show T="str"from ty);exact⟨typeIs_str s z t,λ_ e=>nomatch e⟩|int i=>obtain⟨t,rfl⟩:=r;cases(show T="int"from ty);exact⟨typeIs_int s i t,λ_ e=>nomatch e⟩|ref p=>
   cases r;rcases ty with⟨rfl,xs,k⟩|⟨rfl,o,f,hc,hd⟩|⟨rfl,f⟩|⟨rfl,S,n,f⟩;.obtain⟨l,_,pl,_⟩:=I.list k;refine⟨pl.isList.typeIs,λa e=>?_⟩;cases e;obtain⟨o,n,e,c,hd,_⟩:=pl;exact⟨o,e,hd⟩
   .refine⟨⟨o,I.Ph p o f,hc⟩,λa e=>?_⟩;cases e;exact⟨o,I.Ph _ o f,hd⟩
   . have z:∃o,s.heap.get? p=some o/\o.ExactDict:=by
      rcases f with⟨kvs,f⟩|⟨kvs,f⟩;.obtain⟨_,_,_,_,o,_,_,e,ex,_⟩:=I.hok p _ f;exact⟨o,e,ex⟩
      .obtain⟨_,_,_,_,o,_,_,e,ex,_⟩:=I.hok p _ f;exact⟨o,e,ex⟩
     obtain⟨o,e,ex⟩:=z;refine⟨⟨o,e,ex.1⟩,λa h=>?_⟩;cases h;exact⟨o,e,ex.2.1⟩
   .obtain⟨o,_,_,_,e,ex,_⟩:=I.hok p _ f;refine⟨⟨o,e,ex.1⟩,λa h=>?_⟩;cases h;exact⟨o,e,ex.2.1⟩|_=>exact False.elim ty
def tBM(K:PySem.W.Frag)(T:String)(r:V->List V->Hp->VK->Prop)(to:TE)(t:TA):TE:=λσ H Q=>to σ H λx c=>tyV K T x c/\t σ c λxs e=>r x xs e Q
variable{o e:Expr}{es:List Expr}{to:TE}{t:TA}{name:Str}{apos cpos:Pos}{T id:String}{r:V->List V->Hp->VK->Prop}
theorem Gs(pa:PlainAttrs T)(slot:Slot T name id)(k:typeOf (.builtin id)=pure (.type "method_descriptor"))(m:MtR X id r)(ho:PE X o to)(p:PA X (e::es) t)(g:attributeBase o name X.env (eval o X.env)=eval o X.env:=by rfl)(j:((backTo cpos (starEach (e::es) X.env)).all (λx=>!x.1)&&(backToKw cpos (keywordEach [] X.env)).all (λx=>x.1.isSome)&&decide ((e::es).length+([]:List Keyword).length+(if([]:List Keyword).isEmpty then 0 else 1)<30))=true:=by rfl)(i:(apos.endLine==cpos.line)=true:=by rfl)(hs:starEach (e::es) X.env=(false,eval e X.env)::starEach es X.env:=by rfl)(f:(backTo cpos (starEach es X.env)).any (·.1)=false:=by rfl):PE X (.Call (.Attribute o name apos) (e::es) [] cpos) (tBM X.K T r to t):=by intro c s σ H Q I h;refine wpAny_Call_method_late g j i rfl (bU (ho c s σ H _ I h) λv s1⟨x,H1,I1,r1,ty,q1⟩=>?_);obtain⟨h1,q⟩:=R6 I1 r1 ty;refine⟨T,id,pa,slot,k,h1,q,?_⟩;have l:=p cpos c s1 σ H1 _ I1 q1;rw[hs]at l ⊢;refine Calls.callWith_builtin (by show(false||(backTo cpos (starEach es X.env)).any (·.1))=false;rw[f]<;>rfl) (Calls.evalArgs_plain ?_);exact bU l λu s2⟨vs,H2,I2,r2,q2⟩=>m c s2 σ H2 x vs v u Q I2 r1 r2 q2
end
def MtM(X:Cx)(id:String)(r:V->List V->Hp->VK->Prop):Prop:=∀(a:List (Addr × Obj))(s:Shared)(σ:St)(H:Hp)(x:V)(xs:List V)(v:Value)(b:List Value)(Q:VK),Inv X a σ H s->RelV x v->Vals xs b->r x xs H Q->wpAny (model X.prog X.w) X.A (call (.builtin id) (v::b)) (EP X a σ Q) X.xe s
theorem Vals.one:∀{x:V}{a:List Value},Vals [x] a->∃u,a=[u]/\RelV x u|x,a,h=>by cases h with|cons r t=>cases t;exact⟨_,rfl,r⟩
theorem Vals.two:∀{x y:V}{a:List Value},Vals [x,y] a->∃u v,a=[u,v]/\RelV x u/\RelV y v|x,y,a,h=>by cases h with|cons r t=>cases t with|cons q z=>cases z;exact⟨_,_,rfl,r,q⟩
theorem Vals.zero:∀{a:List Value},Vals [] a->a=[]|_,.nil=>rfl
theorem Vals.eraseIdx:∀{xs:List V}{a:List Value}(i:Nat),Vals xs a->Vals (xs.eraseIdx i) (a.eraseIdx i)|_,_,_,.nil=>.nil|_,_,0,.cons _ t=>t|_,_,i+1,.cons r t=>.cons r (Vals.eraseIdx i t)
theorem Vals.reverse{xs:List V}{a:List Value}(h:Vals xs a):Vals xs.reverse a.reverse:=by induction h with|nil=>exact .nil|cons r t b=>rw[reverse_cons,reverse_cons];exact Vals.append b (.cons r .nil)
theorem Vals.rep{xs:List V}{a:List Value}(h:Vals xs a):∀k:Nat,Vals (replicate k xs).flatten (replicate k a).flatten|0=>.nil|k+1=>by rw[replicate_succ,replicate_succ,flatten_cons,flatten_cons];exact Vals.append h (Vals.rep h k)
theorem rK{a:Type}:∀(l:List a)(i:Nat),(l.eraseIdx i).length<=l.length|[],_=>dC|_::_,0=>le_succ _|_::r,i+1=>Nat.succ_le_succ (rK r i)
theorem foldl_rep(a:List Value):∀(k:Nat)(b:List Value),foldl (λc f=>c++f) b.toArray (replicate k a.toArray)=(b++(replicate k a).flatten).toArray
 |0,b=>by simp|k+1,b=>by
   have e:b.toArray++a.toArray=(b++a).toArray:=by simp
   have g:(b++a)++(replicate k a).flatten=b++(replicate (k+1) a).flatten:=by rw[replicate_succ,flatten_cons,append_assoc]
   rw[<-g,<-foldl_rep a k (b++a),<-e,replicate_succ,List.foldl_cons]
section
variable{X:Cx}{pins:List (Addr×Obj)}{σ:St}{H:Hp}{s:Shared}{l b:Addr}{xs ys zs:List V}
theorem Inv.Vh{a its':List Value}{f:Array Value->Array Value}{t':Nat}(I:Inv X pins σ H s)(c:H l=some (.lst xs))(e:s.heap.get? l=some {cls:=.type "list",data:=.seq a.toArray n})(g:f a.toArray=its'.toArray)(h:Vals ys its')(hz:ys.length<=sizeLine):Inv X pins σ (upd H l (.lst ys)) {s with heap:=s.heap.update l (Obj.mapSeq f),toks:=t'}:=by have q:=PySem.IsL.update e f;rw[g]at q;refine I.write (x:=l) (e:=l) (by rw[c];exact trivial) (.inl rfl) (λk u i j=>(get?_update_other s.heap (Obj.mapSeq f) (Ne.symm i)).trans j) ⟨_,q⟩ ?_;exact⟨hz,its',_,h,q⟩
theorem Inv.QJ{a:List Value}{t':Nat}(I:Inv X pins σ H s)(c:Vals ys a)(hz:ys.length<=sizeLine):Inv X pins σ (upd H s.heap.objs.size (.lst ys)) {s with heap:=s.heap.push {cls:=.type "list",data:=.seq a.toArray},toks:=t'}:=I.laid (λ_ _ q=>gW q) (dC) ⟨hz,a,0,c,get?_push_size _ rfl⟩
theorem Inv.fresh(I:Inv X pins σ H s):H s.heap.objs.size=none:=I.hok.fresh (dC)
theorem Inv.Xz(I:Inv X pins σ H s)(c:H l=some (.lst xs)):xs.length<=sizeLine/\∃(a:List Value)(n:Nat),Vals xs a/\xs.length=a.length/\s.heap.get? l=some {cls:=.type "list",data:=.seq a.toArray n}:=by obtain⟨z,a,n,r,e⟩:=I.hok l _ c;exact⟨z,a,n,r,r.length,e⟩
theorem Ge(h:n<=sizeLine):listTooLong n=false:=by unfold listTooLong;exact decide_eq_false (by omega)
end
section
variable{X:Cx}
def KZ:V->List V->Hp->VK->Prop:=λx vs H Q=>∃l xs y,x=.ref l/\vs=[y]/\H l=some (.lst xs)/\xs.length<sizeLine/\Q .non (upd H l (.lst (xs++[y])))
theorem lW:MtM X "list.append" KZ:=by intro b s σ H x vs v j Q I f g h;obtain⟨l,xs,y,rfl,rfl,c,hz,q⟩:=h;cases f;obtain⟨u,rfl,i⟩:=g.one;obtain⟨z,a,n,r,k,e⟩:=I.Xz c;refine call_meets F.slot_list_append ⟨_,e,rfl⟩ F.entry_list_append (F.args_list_append_2 _ _) (PySem.list_append l a.toArray n u (by rw[size_toArray];omega)) ⟨e,?_⟩;refine⟨.non,_,I.Vh (its':=a++[u]) c e (by simp) (r.append (.cons i .nil)) ?_,rfl,q⟩;rw[length_append,List.length_singleton];omega
def Dw:V->List V->Hp->VK->Prop:=λx vs H Q=>∃l xs i k y,x=.ref l/\vs=[.int i]/\H l=some (.lst xs)/\-(2^63)<=i/\i<2^63/\seqIndex? i xs.length=some k/\xs[k]?=some y/\Q y (upd H l (.lst (xs.eraseIdx k)))
theorem Hm:MtM X "list.pop" Dw:=by
 intro b s σ H x vs v E Q I f g h;obtain⟨l,xs,i,k,y,rfl,rfl,c,h1,j,m,o,q⟩:=h;cases f;obtain⟨u,rfl,p⟩:=g.one;obtain⟨t,rfl⟩:=p;obtain⟨z,a,n,r,A,e⟩:=I.Xz c;obtain⟨w,B,C⟩:=r.get o;refine call_meets F.slot_list_pop ⟨_,e,rfl⟩ F.entry_list_pop (F.args_list_pop_2 _ _) (MeetsSeq.list_pop_at l a.toArray n i t k w (fitsIndex_both h1 j) (by rw[size_toArray,<-A];exact m) (by rw[<-Array.getElem?_toList];exact B) (by rw[size_toArray];omega)) ⟨e,?_⟩;refine⟨y,_,I.Vh (its':=a.eraseIdx k) c e ?_ (r.eraseIdx k) ?_,C,q⟩;.show a.toArray.eraseIdxIfInBounds k=(a.eraseIdx k).toArray;rw[List.eraseIdxIfInBounds_toArray]
 .have:=rK xs k;omega
theorem len_rep{a:Type}(xs:List a)(k:Nat):(replicate k xs).flatten.length=k*xs.length:=by induction k with|zero=>simp|succ k b=>rw[replicate_succ,flatten_cons,length_append,b,Nat.succ_mul,Nat.add_comm]
end
end L2
namespace Att
open PySem PySem.W PySem.Calls PyProof.Rows
theorem nC{P:Params}{h:Heap}:∀(ns:List Int)(vs:List Value),WellAll P h vs (ns.map WData.int)->IntsAre vs ns:=by intro ns;induction ns with|nil=>intro vs w;rw[map_nil]at w;cases w;exact .nil|cons n ns c=>intro vs w;rw[map_cons]at w;cases w with|cons a b=>cases a;exact .cons _ _ (c _ b)
theorem Ck{l:OpenLaw}{n:Nat}(m:l.most=some n){P:Params}{h:Heap}{args:List WData}{b:List Value}(c:l.row.toRowW.claim.pre args=true)(j:WellAll P h b args):∃a vs ns,b=[Value.ref a]/\args=[WData.list (ns.map WData.int)]/\h.get? a=some {cls:=.type "list",data:=.seq vs.toArray}/\IntsAre vs ns/\ns.length<=n:=by
 have k:WShape.hasAll [] args [.list .int]=true:=(pre_splitW c).1;have hc:l.pre.holds [] {args:=args}=true:=(pre_splitW c).2;obtain⟨d,r,rfl,h1,o⟩:=hasAllW_cons k;obtain rfl:=hasAllW_nil o;obtain⟨xs,rfl,p⟩:=hasW_list h1;obtain⟨ns,rfl⟩:=items_int p;have e:ns.length<=n:=by
  unfold OpenLaw.pre at hc;have g:(WTm.not (.lt (.lit (.int (n:Int))) (.len (.arg 0)))).holds [] {args:=[.list (ns.map .int)]}=true:=by have g:=(holds_andW hc).1;rw[m]at g;exact g
  have i:=condW_of g (w_not (w_lt w_lit (w_len_list (w_arg rfl))));rw[length_map]at i;refine Nat.le_of_not_lt λq=>?_;have s:(n:Int)<((ns.length:Nat):Int):=by omega
  first|(rw[decide_eq_true s]at i;exact absurd i (by decide))|(simp at i;omega)
 cases j with|cons t u=>cases u;cases t with|list ho f=>exact⟨_,_,ns,rfl,rfl,ho,nC ns _ f,e⟩
theorem Cg(l:OpenLaw)(args:List WData):l.row.toRowW.claim.post args (.bool true) args=true:=postW_of (r:=l.row.toRowW) (X:=(true==true)) (show WShape.has [] (.bool true) .bool=true by first|rfl|decide|simp[WShape.has,WShape.arms,WShape.armsAll]) (show(WTm.eq .res (.lit (.bool true))).value [] {args:=args,res:=some (.bool true),after:=args}=some (.bool (true==true))from w_eq_bool (w_res rfl) w_lit) rfl
theorem vB{l:OpenLaw}{n:Nat}{q:Program}{c:List Str}{z:(Str->Option Value)->Heap->Prop}{A:World->Heap->Prop}{d:DefRec}(H:l.most=some n)(s:d.params.defaults=[])(call:∀(w:World)(s₀ b:Shared)(mg t:Str->Option Value)(h:Addr)(o:Obj)(u m e:Value)(a:Addr)(vs:List Value)(ns:List Int),Ground q c [] z w s₀ mg t b.heap->A w b.heap->b.heap.get? h=some o->o.data=.func (docDef d.name d.params d.body d.scope u m e)->b.heap.CodeRec m d.name->mg d.name=some (.ref h)->b.heap.get? a=some {cls:=.type "list",data:=.seq vs.toArray}->IntsAre vs ns->ns.length<=n->b.gens=#[]->codeAny (model l.prog w) callerA (.call (.ref h) ⟨[.ref a],[]⟩) (λr p=>r=.ok (.ret (.bool true))/\OldK b.heap p.heap/\p.os=b.os/\AllBare p.gens) b):WalkO q c z A l.row.toRowW d [] (λf vs=>PySem.call f vs):=by intro w s₀ b mg t G Y h o u m e I kV ho hd v B x J args C as i E L y M;obtain rfl:I=.none:=Dflts.none B s;obtain rfl:kV=.none:=Dflts.noKw B;obtain⟨a,vs,ns,rfl,rfl,j,g,k⟩:=Ck H i y;refine enter_call (codeAny_mono (call w s₀ b mg t h o u m e a vs ns G Y ho (fd_plain hd) v x j g k J) λr p N=>?_);obtain⟨rfl,O,Q,U⟩:=N;exact⟨.inl ⟨.bool true,.bool true,[],rfl,λ_=>rfl,.bool true,Cg l _,λ_=>⟨List.Pairwise.nil,λ_ W=>(nomatch W)⟩⟩,O,Q,U⟩
end Att
namespace L2
open PySem PySem.Spec PyProof.Rows
theorem sJ:∀{vs:List Value}{ns:List Int},IntsAre vs ns->Vals (ns.map V.int) vs|_,_,.nil=>.nil|_,_,.cons n t h=>.cons ⟨t,rfl⟩ (sJ h)
def Only(H:Hp):Prop:=∀b,H b=none\/∃o xs,H b=some (.cO o (.lst xs))
theorem DQ{P:Program}{w:World}{K:PySem.W.Frag}{mg G:Str->Option Value}{CX:De}{k:Nat}{I a:Addr}{fd:FuncData}{x:Str}{sp:Sp}{c:Shared}{vs:List Value}{ns:List Int}(M:K.In c.heap)(p:c.heap.Ns mainGlobals mg)(f:c.heap.Ns builtinsNs G)(J:∀x:Str,x≠"__name__"->G x=bootBuiltins x)(t:c.heap.NoLimit)(hg:c.gens=#[])(E:c.heap.get? a=some {cls:=.type "list",data:=.seq vs.toArray})(N:IntsAre vs ns)(O:ns.length<=sizeLine)(hr:iK k callerA)(F:∀base:Heap,K.In base->base.Ns mainGlobals mg->lF P w K mg base CX k I fd [x] sp)(l:∀(s:Shared)(u:Value),BindsTo s fd ⟨[u],[]⟩ [(x,u)])(hsp:∀H:Hp,Only H->eG K H a (ns.map V.int)->sp [.ref a] H (λv _=>v=.bl true) λ_ _ _=>False)(Yi:∀H e g,CX [] H c (λ_ _ _=>False) e g->False):codeAny (model P w) callerA (.call (.ref I) ⟨[.ref a],[]⟩) (λr g=>r=.ok (.ret (.bool true))/\OldK c.heap g.heap/\g.os=c.os/\AllBare g.gens) c:=by
 have Q:=sJ N;have y:=N.length--from an abstract heap in which nothing but the script may be tracked
 have j:∀H:Hp,Only H->eG K H a (ns.map V.int)->jF P w H c.heap->(∀b,H b≠none->b=a)->(H a≠none->K.lookup a=none)->codeAny (model P w) callerA (.call (.ref I) ⟨[.ref a],[]⟩) (λr g=>r=.ok (.ret (.bool true))/\OldK c.heap g.heap/\g.os=c.os/\AllBare g.gens) c:=by
  intro H U hS hok X hK;have Y:∀{b:Addr}{o:Obj},c.heap.get? b=some o->H b=none->(sZ c.heap H).get? b=some o:=λe n=>Eo e n;have Yh:∀{b:Addr}{o:Obj}{es:Array DictEntry}{ep:Nat},c.heap.get? b=some o->o.data=.dict es ep->H b=none:=λ{b o es ep}e d=>by cases q:H b with|none=>rfl|some u=>have L:b=a:=X b (by rw[q];simp);subst L;rw[E]at e;cases e;have d':Data.seq vs.toArray _=Data.dict es ep:=d;cases d'
  have i:∀{b:Addr}{m:Str->Option Value},c.heap.Ns b m->(sZ c.heap H).Ns b m:=λ{b m}⟨o,es,ep,e,d,r⟩=>⟨o,es,ep,Y e (Yh e d),d,r⟩;have A:K.In (sZ c.heap H):=λb o e=>Y (M b o e) (by cases q:H b with|none=>rfl|some u=>have L:b=a:=X b (by rw[q];simp);subst L;rw[hK (by rw[q];simp)]at e;cases e);have hM:Mod K mg (sZ c.heap H):=⟨A,i p,⟨G,i f,J⟩,let⟨mc,h1,h2⟩:=t;⟨mc,i h1,h2⟩⟩;have e0:KC P w K mg (sZ c.heap H) callerA [] c H:=⟨rfl,hM,λb o e=>Lq e,Nat.le_of_eq (Bs _ _),trivial,λb f=>absurd (show b∈([]:List Addr)from f) (by simp),hok,.of_eq hg⟩;refine codeAny_mono ((F _ A (i p)).run callerA [] c H ⟨[.ref a],[]⟩ [.ref a] [.ref a] _ _ hr e0 (l c (.ref a)) (.cons rfl .nil) (hsp H U hS)) λr g h=>?_;cases r with|error e=>exact(Yi H e g h).elim|ok fl=>cases fl with|next=>exact False.elim h|brk=>exact False.elim h|cont=>exact False.elim h|ret u=>obtain⟨v,H',os,bare,un,B,r',q⟩:=h;have q':v=.bl true:=q;subst q';obtain rfl:u=Value.bool true:=r';refine⟨rfl,OldK.of_keep λb o e=>?_,os,bare⟩;cases q:H b with|none=>exact un.keep b o e q (by intro z;exact absurd (show b∈([]:List Addr)from z) (by simp)) (by simp)|some u=>
        rcases U b with z|⟨ob,xs,z⟩;.rw[q]at z;cases z
        .have z2:=un.nH b ob _ z;obtain⟨Z,_⟩:=hok b _ z;obtain⟨e2,_⟩:=B b _ z2;rw[e]at Z;cases Z;exact e2
 cases hk:K.lookup a with|some o=>--the script is one of the module's own objects
   have e:=M a o hk;rw[E]at e;cases e;refine j (λ_=>none) (λ_=>.inl rfl) (.inr ⟨_,vs.toArray,_,hk,rfl,rfl,rfl,by rw[size_toArray,y];exact O,by simpa using Q⟩) (λb u z=>by have C:(none:Option HO)=some u:=z;cases C) (λb z=>absurd rfl z) λz=>absurd rfl z|none=>
   refine j (λb=>if b=a then some (.cO {cls:=.type "list",data:=.seq vs.toArray} (.lst (ns.map V.int)))else none) (λb=>?_) (.inl (.inr ⟨{cls:=.type "list",data:=.seq vs.toArray},if_pos rfl⟩)) (λb u z=>?_) (λb z=>?_) λ_=>hk
   . by_cases f:b=a;.exact .inr ⟨_,_,if_pos f⟩
     .exact .inl (if_neg f)
   . by_cases f:b=a;.have C:=(if_pos f).symm.trans z;cases C;subst f;exact⟨E,by rw[length_map];exact O,vs,_,Q,E⟩
     .have C:=(if_neg f).symm.trans z;cases C
   . by_cases f:b=a;.exact f
     .exact absurd (if_neg f) z
theorem IW{l:PySem.W.OpenLaw}{n k:Nat}{q:Program}{i:List Str}{E:(Str->Option Value)->Heap->Prop}{B:World->Heap->Prop}{d:DefRec}{K:Params->PySem.W.Frag}{CX:World->De}{sp:World->Sp}{x:Str}(I:l.most=some n)(t:n<=sizeLine)(y:d.params.defaults=[])(hr:iK k callerA)(J:∀(w:World)(h:Heap),B w h->(K w.params).In h)(F:∀(w:World)(mg:Str->Option Value)(r:Addr)(h:Heap),(K w.params).In h->h.Ns mainGlobals mg->mg d.name=some (.ref r)->∃ fd:FuncData,(∀(s:Shared)(u:Value),BindsTo s fd ⟨[u],[]⟩ [(x,u)])/\∀base:Heap,(K w.params).In base->base.Ns mainGlobals mg->lF l.prog w (K w.params) mg base (CX w) k r fd [x] (sp w))(hsp:∀(w:World)(H:Hp)(a:Addr)(ns:List Int),ns.length<=n->Only H->eG (K w.params) H a (ns.map V.int)->sp w [.ref a] H (λv _=>v=.bl true) λ_ _ _=>False)(L:∀(w:World)(H:Hp)(s:Shared)(e:Value)(z:Shared),CX w [] H s (λ_ _ _=>False) e z->False):PySem.W.WalkO q i E B l.row.toRowW d [] (λf vs=>PySem.call f vs):=by refine Att.vB I y λw s₀ m mg mb r o pm cd M a vs ns G Y ho hd N A p j c O=>?_;have C:=J w _ Y;obtain⟨fd,Q,U⟩:=F w mg r _ C G.T.g A;exact DQ C G.T.g G.T.b G.T.builtins G.T.nolimit O p j (le_trans c t) hr U Q (λH X Z=>hsp w H a ns c X Z) λH e z=>L w H m e z
theorem Ez{l:PySem.W.OpenLaw}{n k:Nat}{q:Program}{b:List Str}{o:(Str->Option Value)->Heap->Prop}{j:World->Heap->Prop}{d:DefRec}{K:Params->PySem.W.Frag}{CX:De}{sp:PySem.W.Frag->Sp}{x:Str}(p:l.most=some n)(c:n<=sizeLine)(g:d.params.defaults=[])(hr:iK k callerA)(r:∀(w:World)(h:Heap),j w h->(K w.params).In h)(F:∀(w:World)(mg:Str->Option Value)(m:Addr)(h:Heap),(K w.params).In h->h.Ns mainGlobals mg->mg d.name=some (.ref m)->∃ fd:FuncData,(∀(s:Shared)(u:Value),BindsTo s fd ⟨[u],[]⟩ [(x,u)])/\∀base:Heap,(K w.params).In base->base.Ns mainGlobals mg->lF l.prog w (K w.params) mg base CX k m fd [x] (sp (K w.params)))(hsp:∀(K:PySem.W.Frag)(H:Hp)(a:Addr)(ns:List Int),ns.length<=n->Only H->eG K H a (ns.map V.int)->sp K [.ref a] H (λv _=>v=.bl true) λ_ _ _=>False)(t:∀(H:Hp)(s:Shared)(e:Value)(i:Shared),CX [] H s (λ_ _ _=>False) e i->False):PySem.W.WalkO q b o j l.row.toRowW d [] (λf vs=>PySem.call f vs):=IW (K:=K) (CX:=λ_=>CX) (sp:=λw=>sp (K w.params)) p c g hr r F (λw H a ns h1 y z=>hsp (K w.params) H a ns h1 y z) λ_ H s e i=>t H s e i
end L2
namespace L2
open PySem PySem.Spec PyProof.Rows
noncomputable def iI(s:Stmt):Arguments:=match s with|.FunctionDef _ a _ _ _ _ _ _ _ _=>a|_=>{posonlyargs:=[],args:=[],vararg:=none,kwonlyargs:=[],kw_defaults:=[],kwarg:=none,defaults:=[]}
noncomputable def fU(s:Stmt):List Stmt:=match s with|.FunctionDef _ _ b _ _ _ _ _ _ _=>b|_=>[]
noncomputable def aC(s:Stmt):Scope:=match s with|.FunctionDef _ _ _ _ _ _ a _ _ _=>a|_=>{kind:=.function,names:=[],isGenerator:=false,isCoroutine:=false}
abbrev Hh:De:=λ_ _ _ _ _ _=>False
abbrev E0:XK:=λ_ _ _=>False
theorem Nt{X:Cx}:Passes Hh X E0:=λ_ _ _ _ _ _ _ h=>h.elim
structure jP(K:PySem.W.Frag)(x qual:Str)(st:Stmt)(f:Addr)(fd:FuncData):Prop where
 ex:∃(oc:Value)(od:Option Addr)(kV doc pm:Value)(an:Option Addr)(cdv ct:Value)(osl:Array (Option Value)),fd=PySem.W.fnOf x qual (iI st) (fU st) (aC st) .none kV doc pm an cdv ct/\K.lookup f=some ⟨oc,od,.func fd,osl⟩/\PySem.W.codeIn K cdv qual=true
 kp:keepIn K (.ref f)=true
section
variable{P:Program}{w:World}{K:PySem.W.Frag}{mg:Str->Option Value}{base:Heap}
theorem jP.ok{x qual:Str}{st:Stmt}{f:Addr}{fd:FuncData}{N ps:List Str}{k:Nat}{sp:Sp}(F:jP K x qual st f fd)(S:aQ N ps (aC st))(len:∀vs H Q E,sp vs H Q E->vs.length=ps.length)(a:∀(cdv:Value)(A:Around)(outer:List Env)(s:Shared)(H:Hp)(vs:List V)(Q:VK)(E:XK),iK k (A.deeper (envOfC qual (aC st) s.heap.objs.size f cdv))->sp vs H Q E->∃t,qC (yu Hh P w K mg base N qual (aC st) f cdv A outer s H E).Vu (fU st) t/\t {nx:=λ_ H'=>Q .non H',rt:=Q} (start N vs) H):lF P w K mg base Hh (k+1) f fd ps sp:=by obtain⟨oc,g,kV,c,i,j,cdv,ct,e,rfl,lk,b⟩:=F.ex;refine VF lk b S len λA outer s H vs Q E hr hsp=>?_;obtain⟨t,h,q⟩:=a cdv A outer s H vs Q E hr hsp;exact⟨t,h.Vu,q⟩
theorem jP.binds{x qual:Str}{st:Stmt}{f:Addr}{fd:FuncData}{ps:List Str}(F:jP K x qual st f fd)(h:∀(kV a b:Value)(c:Option Addr)(cdv ct:Value)(e:List Value),e.length=ps.length->bindArgs (PySem.W.fnOf x qual (iI st) (fU st) (aC st) .none kV a b c cdv ct) ⟨e,[]⟩=pure (ps.zip e)):Binds K fd ps []:=by obtain⟨oc,j,kV,a,b,c,cdv,ct,g,rfl,lk,i⟩:=F.ex;exact .all (h kV a b c cdv ct)
theorem O4{x qual:Str}{st:Stmt}{f:Addr}{oc:Value}{h e:Option Addr}{b:Array (Option Value)}{kV a g cdv ct:Value}(l:K.lookup f=some ⟨oc,h,.func (PySem.W.fnOf x qual (iI st) (fU st) (aC st) .none kV a g e cdv ct),b⟩)(c:PySem.W.codeIn K cdv qual=true)(k:keepIn K (.ref f)=true):jP K x qual st f (PySem.W.fnOf x qual (iI st) (fU st) (aC st) .none kV a g e cdv ct):=⟨⟨oc,h,kV,a,g,e,cdv,ct,b,rfl,l,c⟩,k⟩
end
def aF(H H':Hp):Prop:=∀b o,H b=some o->H' b=some o
theorem aF.refl(H:Hp):aF H H:=λ_ _ h=>h
theorem aF.trans{H e f:Hp}(a:aF H e)(b:aF e f):aF H f:=λc o h=>b c o (a c o h)
theorem aF.seq{K:PySem.W.Frag}{H H':Hp}{a:Addr}{xs:List V}(e:aF H H')(h:eG K H a xs):eG K H' a xs:=by
 rcases h with(h|⟨o,h⟩)|h;.exact .inl (.inl (e _ _ h))
 .exact .inl (.inr ⟨o,e _ _ h⟩)
 .exact .inr h
end L2
end
section
namespace HH
open PySem
inductive Dc where|k(kvs:List (Int×Int))|t(kvs:List (List Int×Int))deriving DecidableEq
inductive D where|non|bl(b:Bool)|int(i:Int)|str(s:Str)|tup(ds:List D)|lst(ds:List D)|dq(m:Dc)|dv(ks:List Int)(ds:List D)deriving Inhabited
mutual
noncomputable def fO:D->D->Bool|.non,.non=>true|.bl a,.bl b=>a==b|.bl a,.int i=>(if a then(1:Int)else 0)==i|.int i,.bl a=>i==(if a then(1:Int)else 0)|.int i,.int j=>i==j|.str a,.str b=>a==b|.tup xs,.tup ys=>gj xs ys|.lst xs,.lst ys=>gj xs ys|.dq a,.dq b=>decide (a=b)|.dv a xs,.dv b ys=>decide (a=b)&&gj xs ys|_,_=>false
noncomputable def gj:List D->List D->Bool|[],[]=>true|x::xs,y::ys=>fO x y&&gj xs ys|_,_=>false
end
theorem gO:gj [] []=true:=rfl
theorem dJ{x y:D}{xs ys:List D}:gj (x::xs) (y::ys)=(fO x y&&gj xs ys):=rfl
theorem je{y:D}{ys:List D}:gj [] (y::ys)=false:=rfl
theorem jh{x:D}{xs:List D}:gj (x::xs) []=false:=rfl
theorem pqi{i j}:fO (.int i) (.int j)=(i==j):=(rfl)
theorem pqt{x y}:fO (.tup x) (.tup y)=gj x y:=(rfl)
theorem pql{x y}:fO (.lst x) (.lst y)=gj x y:=(rfl)
noncomputable def fC:Nat->D->Bool|_,.non=>true|_,.bl _=>true|_,.int _=>true|_,.str _=>true|0,.tup _=>false|0,.lst _=>false|_,.dq _=>false|_,.dv _ _=>false|n+1,.tup ds=>ds.all (fC n)|n+1,.lst ds=>ds.all (fC n)
theorem bD{n:Nat}{ds:List D}:fC (n+1) (.tup ds)=ds.all (fC n):=rfl
theorem bz{n:Nat}{ds:List D}:fC (n+1) (.lst ds)=ds.all (fC n):=rfl
theorem bB{n:Nat}{m:Dc}:fC n (.dq m)=false:=by cases n<;>rfl
theorem bH{n:Nat}{k:List Int}{ds:List D}:fC n (.dv k ds)=false:=by cases n<;>rfl
theorem bG{ds:List D}:fC 0 (.tup ds)=false:=rfl
theorem bI{ds:List D}:fC 0 (.lst ds)=false:=rfl
inductive Sl where|aL|val(b:Bool)(d:D)|own(b:Bool)(ds:List D)|lent(ds:List D)|gF(m:Dc)|hold(rows:List (List D))|cY(kvs:List (Int×D))|pot(b:Bool)(ns:List Int)(m k:Int)deriving Inhabited
inductive R where|val(d:D)|own(ds:List D)deriving Inhabited
noncomputable def R.d:R->D|.val d=>d|.own ds=>.lst ds
inductive Res(α:Type)where|ok(a:α)(ρ:List Sl)|exc(k:Nat)(ρ:List Sl)|stuck deriving Inhabited
noncomputable def Res.bind{b c:Type}(f:b->List Sl->Res c):Res b->Res c|.ok a ρ=>f a ρ|.exc _ _=>.stuck|.stuck=>.stuck
noncomputable def lift{b:Type}(o:Option b)(ρ:List Sl):Res b:=match o with|some a=>.ok a ρ|none=>.stuck
inductive Op where|add|sub|mul|fdiv|mod|pow|shl|shr|band|Cw|din|acU|inR|acV deriving DecidableEq
inductive Cm where|eq|ne|lt|le|gt|ge|isN|Ml|inn|Yj|isT|Yk|leT|geT deriving DecidableEq
inductive Ty where|int|bool|str|tuple|list|none deriving DecidableEq
inductive YS where|len|list|tuple|min2|max2|Hw|sum|all|int|keys|U9|rvT|Hx deriving DecidableEq
inductive P where|var(i:Nat)|con(d:D)|bin(o:Op)(a b:P)|neg(a:P)|not(a:P)|and(a b:P)|or(a b:P)|cmp(o:Cm)(a b:P)|chain(o o':Cm)(a b c:P)|N8(c a b:P)|tup(as:List P)|lst(as:List P)|idx(a i:P)|slice(a lo hi:P)|call(f:Nat)(as:List P)|blt(b:YS)(as:List P)|inst(ts:List Ty)(a:P)|comp(src:P)(n:Nat)(is:List Nat)(one:Bool)(test:Option P)(elt:P)|wW(a b:P)|zip(a b:P)|Va(x:Nat)(k d:P)|vw(x:Nat)|Oa(x:Nat)(k:P)|Ob(x:Nat)(k:P)(neg:Bool)|yJ(k e:Int)deriving Inhabited
noncomputable abbrev lim:Nat:=16777216
noncomputable def oR:D->D->Option R|.int i,.int j=>some (.val (.int (i+j)))|.lst xs,.lst ys=>if xs.length+ys.length<=lim then some (.own (xs++ys))else none|.tup xs,.tup ys=>if xs.length+ys.length<=lim then some (.val (.tup (xs++ys)))else none|.str x,.str y=>if x.length+y.length<=lim then some (.val (.str (x++y)))else none|_,_=>none
noncomputable def pB:D->D->Option R|.int i,.int j=>if((-18446744073709551616<i/\i<18446744073709551616)\/(-18446744073709551616<j/\j<18446744073709551616))then some (.val (.int (i*j)))else none|.lst xs,.int k=>if 0<=k/\0<xs.length/\xs.length*k.toNat<=lim then some (.own (replicate k.toNat xs).flatten)else none|.tup xs,.int k=>if 0<=k/\0<xs.length/\xs.length*k.toNat<=lim then some (.val (.tup (replicate k.toNat xs).flatten))else none|_,_=>none
noncomputable def vg:D->D->Option R|.int i,.int j=>some (.val (.int (i-j)))|_,_=>none
noncomputable def qt:D->D->Option R|.int i,.int j=>if 0<j/\j<1606938044258990275541962092341162602522202993782792835301376 then some (.val (.int (i/j)))else none|_,_=>none
noncomputable def vz:D->D->Option R|.int i,.int j=>if 0<j then some (.val (.int (i%j)))else none|_,_=>none
noncomputable def wC:D->D->Option R|.int i,.int j=>if 0<=j/\j<=1000/\i.natAbs<18446744073709551616 then some (.val (.int (i^j.toNat)))else none|_,_=>none
noncomputable def Gq:D->D->Option R|.int i,.int j=>if 0<=j/\j<=1000/\i.natAbs<18446744073709551616 then some (.val (.int (i*2^j.toNat)))else none|_,_=>none
noncomputable def GC:D->D->Option R|.int i,.int j=>if 0<=j then some (.val (.int (i/2^j.toNat)))else none|_,_=>none
noncomputable def yp:D->D->Option R|.int i,.int j=>some (.val (.int (Builtin.bitAnd i j)))|_,_=>none
noncomputable def flat:D->Bool|.tup _=>false|.lst _=>false|.dq _=>false|.dv _ _=>false|_=>true
noncomputable def items:D->Option (List D)|.lst ds=>some ds|.tup ds=>some ds|_=>none
noncomputable def Rj:D->Option (List D)|.tup ds=>some ds|_=>none
noncomputable def G4(x y:D):Option Bool:=if fC 8 x&&fC 8 y then some (fO x y)else none
noncomputable def Ec(x y:D):Option Bool:=if fC 8 x&&fC 8 y then some (!fO x y)else none
noncomputable def Ih(f:Int->Int->Bool):D->D->Option Bool|.int i,.int j=>some (f i j)|_,_=>none
noncomputable def jg:D->Bool|.non=>true|_=>false
noncomputable def T8(neg:Bool)(x:D):D->Option Bool|.non=>some (if neg then !jg x else jg x)|_=>none
noncomputable def Dl(neg:Bool)(x y:D):Option Bool:=(items y).bind λys=>if(flat x&&ys.all flat)=true then some (if neg then !(ys.any λy=>fO y x)else ys.any λy=>fO y x)else none
noncomputable def cmT(neg:Bool):D->D->Option Bool|.bl b,.bl true=>some (if neg then !b else b)|.bl b,.bl false=>some (if neg then b else !b)|_,_=>none
noncomputable def bf:List Int->List Int->Bool|[],_::_=>true|i::is,j::js=>decide (i<j)||(decide (i=j)&&bf is js)|_,[]=>false
noncomputable def mF:D->Int|.int i=>i|_=>0
noncomputable def cP:D->List Int|.int i=>[i]|.tup ds=>ds.map mF|_=>[]
noncomputable def dM:D->Bool|.int _=>true|_=>false
noncomputable def Dc.get:Dc->D->Option (Option Int)|.k kvs,.int i=>some ((kvs.find? λa=>decide (a.1=i)).map (·.2))|_,_=>none
noncomputable def putD{κ:Type}[DecidableEq κ](kvs:List (κ×Int))(k:κ)(v:Int):List (κ×Int):=if(kvs.any λa=>decide (a.1=k))=true then kvs.map (λa=>if a.1=k then(a.1,v)else a)else kvs++[(k,v)]
noncomputable def Dc.put:Dc->D->Int->Option Dc|.k kvs,.int i,v=>if kvs.length<lim then some (.k (putD kvs i v))else none|_,_,_=>none
noncomputable def mq(kvs:List (Int×D))(k:Int):Option D:=(kvs.find? λp=>decide (p.1=k)).map (·.2)
noncomputable def gP(kvs:List (Int×D))(k:Int)(d:D):List (Int×D):=if(kvs.any λp=>decide (p.1=k))=true then kvs.map (λp=>if p.1=k then(p.1,d)else p)else kvs++[(k,d)]
noncomputable def Wg(a:Bool):D->D->Option R|.int i,.int j=>some (.val (.bl (a !=decide (0<=i/\i<j))))|_,_=>none
noncomputable def vO(neg:Bool):D->D->Option R|.int k,.dv ks _=>some (.val (.bl (if neg then !ks.contains k else ks.contains k)))|_,_=>none
noncomputable def zY:D->D->Option R|.dq m,k=>(m.get k).bind λo=>o.map λv=>.val (.int v)|.dv ks ds,.int k=>(mq (ks.zip ds) k).map .val|_,_=>none
noncomputable def qL:Op->D->D->Option R|.add=>oR|.mul=>pB|.sub=>vg|.fdiv=>qt|.mod=>vz|.pow=>wC|.shl=>Gq|.shr=>GC|.band=>yp|.Cw=>zY|.din=>vO false|.acU=>vO true|.inR=>Wg false|.acV=>Wg true
noncomputable def Xa:D->D->Option Bool|.int i,.int j=>some (decide (i<j))|.tup xs,.tup ys=>if(xs.all dM&&ys.all dM)=true then some (bf (xs.map mF) (ys.map mF))else none|_,_=>none
noncomputable def acF:D->D->Option Bool|.int i,.int j=>some (decide (i<=j))|.tup xs,.tup ys=>if(xs.all dM&&ys.all dM)=true then some (!bf (ys.map mF) (xs.map mF))else none|_,_=>none
noncomputable def aca:D->D->Option Bool|.tup xs,.tup ys=>if(xs.all dM&&ys.all dM)=true then some (!bf (xs.map mF) (ys.map mF))else none|_,_=>none
noncomputable def cm:Cm->D->D->Option Bool|.eq=>G4|.ne=>Ec|.lt=>Xa|.le=>Ih λi j=>decide (i<=j)|.leT=>acF|.geT=>aca|.gt=>Ih λi j=>decide (j<i)|.ge=>Ih λi j=>decide (j<=i)|.isN=>T8 false|.Ml=>T8 true|.inn=>Dl false|.Yj=>Dl true|.isT=>cmT false|.Yk=>cmT true
noncomputable def nT(o:Cm)(x y:D):Option R:=(cm o x y).map λk=>.val (.bl k)
noncomputable def gK(n:Nat)(i:Int):Option Nat:=if 0<=i then(if i<n then some i.toNat else none)else if-(n:Int)<=i then some (i+n).toNat else none
noncomputable def at'{a:Type}(xs:List a)(i:Int):Option a:=(gK xs.length i).bind λj=>xs[j]?
noncomputable def du(n d:Nat):Option Int->Nat|none=>d|some i=>if 0<=i then min i.toNat n else(i+n).toNat
noncomputable def cut{a:Type}(xs:List a)(lo b:Option Int):List a:=(xs.drop (du xs.length 0 lo)).take (du xs.length xs.length b-du xs.length 0 lo)
noncomputable def gU:D->Option Int|.int i=>some i|_=>none
noncomputable def xT:D->Option Bool|.bl b=>some b|_=>none
noncomputable def dl2(k e:Int)(x y:D):Option R:=(gU x).bind λi=>(gU y).bind λj=>if i=k then none else some (.val (.dv [k,i] [.int e,.int j]))
noncomputable def lixR:D->D->Option R|.lst ds,.int i=>(ds.mapM gU).bind λns=>if i∈ns/\ns.length<=1000 then some (.val (.int (ns.idxOf i)))else none|_,_=>none
noncomputable def xF(x y:D):Option R:=(items x).bind λds=>(gU y).bind λi=>(at' ds i).map .val
noncomputable def GK(x:D):Option R:=(gU x).map λi=>.val (.int (-i))
noncomputable def Wl:P->Bool|.con .non=>true|_=>false
noncomputable def part(p:P)(d:D):Option (Option Int):=if Wl p then some none else(gU d).map some
noncomputable def JF:D->Option (Option Int)->Option (Option Int)->Option R|.lst xs,some lo,some a=>some (.own (cut xs lo a))|.tup xs,some lo,some a=>some (.val (.tup (cut xs lo a)))|_,_,_=>none
noncomputable def cz:Ty->D->Bool|.int,.int _=>true|.int,.bl _=>true|.bool,.bl _=>true|.str,.str _=>true|.tuple,.tup _=>true|.list,.lst _=>true|.none,.non=>true|_,_=>false
noncomputable def vW:D->Bool|.tup (x::xs)=>(x::xs).all dM|_=>false
noncomputable def sortable(ds:List D):Bool:=decide (ds.length<=16777216)&&(ds.all dM||ds.all vW)
noncomputable def NK(ds:List D):List D:=ds.mergeSort λa b=>!bf (cP b) (cP a)
noncomputable def ordP:D->Bool|.tup [.int _,.tup ws]=>ws.all dM|_=>false
noncomputable def flP:D->D|.tup [.int h,.tup ws]=>.tup (.int h::ws)|d=>d
noncomputable def ufP:D->D|.tup (.int h::ws)=>.tup [.int h,.tup ws]|d=>d
noncomputable def xu:D->Option (List D)|.lst ds=>some ds|_=>none
noncomputable def cX(p:Int×Int):D:=.tup [.int p.1,.int p.2]
noncomputable def blt:YS->List D->Option R|.len,[x]=>(items x).map λds=>.val (.int ds.length)|.list,[x]=>(items x).map λds=>.own ds|.tuple,[x]=>(items x).map λds=>.val (.tup ds)|.min2,[.int i,.int j]=>some (.val (.int (if j<i then j else i)))|.max2,[.int i,.int j]=>some (.val (.int (if i<j then j else i)))|.Hw,[x]=>((items x).bind λds=>ds.mapM gU).bind λns=>ns.min?.map λi=>.val (.int i)|.sum,[x]=>((items x).bind λds=>ds.mapM gU).map λns=>.val (.int ns.sum)|.all,[x]=>((xu x).bind λds=>ds.mapM xT).map λbs=>.val (.bl (bs.all id))|.int,[.int i]=>some (.val (.int i))|.int,[.bl b]=>some (.val (.int (if b then 1 else 0)))|.keys,[.dq (.k kvs)]=>some (.val (.tup (kvs.map λp=>.int p.1)))|.keys,[.dv ks _]=>some (.val (.tup (ks.map D.int)))|.U9,[.dv ks _]=>if ks.length<=16777216 then some (.own (ks.map D.int))else none|.rvT,[.lst ds]=>some (.val (.tup ds.reverse))|.Hx,[.dq (.k kvs)]=>if kvs.length<=16777216/\kvs.Pairwise (λa b=>a.1<b.1)then some (.own (kvs.map cX))else none|_,_=>none
noncomputable def pk(ρ:List Sl)(i:Nat):Option D:=match ρ[i]?with|some (.val _ d)=>some d|some (.own _ ds)=>some (.lst ds)|some (.lent ds)=>some (.lst ds)|_=>none
noncomputable def O7(ρ:List Sl)(i:Nat):Option D:=match ρ[i]?with|some (.pot _ _ _ _)=>some .non|_=>pk ρ i
noncomputable def CN(ρ:List Sl)(i:Nat):Option (List D):=match pk ρ i with|some (.lst ds)=>some ds|_=>none
noncomputable abbrev Ev:=List Sl->Res R
noncomputable def isVar:P->Option Nat|.var i=>some i|_=>none
noncomputable def cG(i:Option Nat)(e:Ev)(ρ:List Sl):Res D:=match i with|some i=>lift (pk ρ i) ρ|none=>(e ρ).bind λr ρ=>.ok r.d ρ
noncomputable def iC(i:Option Nat)(e:Ev)(j:Option Nat)(f:Ev)(ρ:List Sl):Res (D×D):=match i with|some i=>(lift (pk ρ i) ρ).bind λ_ ρ=>(cG j f ρ).bind λy ρ=>(lift (pk ρ i) ρ).bind λx ρ=>.ok (x,y) ρ|none=>(cG none e ρ).bind λx ρ=>(cG j f ρ).bind λy ρ=>.ok (x,y) ρ
noncomputable def iB(e:Ev)(ρ:List Sl):Res Bool:=(e ρ).bind λr ρ=>lift (xT r.d) ρ
inductive Arg where|dat(d:D)|tmp(ds:List D)|eX(i:Nat)
noncomputable def rT:R->Arg|.val d=>.dat d|.own ds=>.tmp ds
noncomputable def bJ(ρ:List Sl):List Arg->List Nat->Option (List Sl)|[],_=>some []|.dat d::r,a=>(bJ ρ r a).map λs=>.val false d::s|.tmp ds::r,a=>(bJ ρ r a).map λs=>.own false ds::s|.eX i::r,a=>match ρ[i]?with|some (.val _ d)=>(bJ ρ r a).map λs=>.val false d::s|some (.own _ ds)=>if a.contains i then none else(bJ ρ r (i::a)).map λs=>.own true ds::s|some (.lent ds)=>if a.contains i then none else(bJ ρ r (i::a)).map λs=>.lent ds::s|some (.pot _ ns m k)=>if a.contains i then none else(bJ ρ r (i::a)).map λs=>.pot true ns m k::s|_=>none
theorem xK{ρ:List Sl}{u:List Nat}:bJ ρ [] u=some []:=rfl
theorem xO{ρ:List Sl}{d:D}{r:List Arg}{u:List Nat}:bJ ρ (.dat d::r) u=(bJ ρ r u).map λs=>.val false d::s:=rfl
theorem yD{ρ:List Sl}{d:List D}{r:List Arg}{u:List Nat}:bJ ρ (.tmp d::r) u=(bJ ρ r u).map λs=>.own false d::s:=rfl
theorem oK{ρ:List Sl}{i:Nat}{r:List Arg}{u:List Nat}:bJ ρ (.eX i::r) u=match ρ[i]?with|some (.val _ d)=>(bJ ρ r u).map λs=>.val false d::s|some (.own _ ds)=>if u.contains i then none else(bJ ρ r (i::u)).map λs=>.own true ds::s|some (.lent ds)=>if u.contains i then none else(bJ ρ r (i::u)).map λs=>.lent ds::s|some (.pot _ ns m k)=>if u.contains i then none else(bJ ρ r (i::u)).map λs=>.pot true ns m k::s|_=>none:=rfl
noncomputable def aN(i:Nat):List Arg->List Sl->Option Sl|.eX k::as,s::ss=>if k=i then some s else aN i as ss|.dat _::as,_::ss=>aN i as ss|.tmp _::as,_::ss=>aN i as ss|_,_=>none
noncomputable def dD:Sl->Option Sl->Sl|.own b _,some (.own _ ds)=>.own b ds|.own b _,some (.val _ d)=>.val b d|.pot b _ _ _,some (.pot _ ns m k)=>.pot b ns m k|s,_=>s
noncomputable def dO(as:List Arg)(ss:List Sl):Nat->List Sl->List Sl|_,[]=>[]|i,s::ρ=>dD s (aN i as ss)::dO as ss (i+1) ρ
theorem o5{as:List Arg}{ss:List Sl}{i:Nat}:dO as ss i []=[]:=rfl
theorem jX{as:List Arg}{ss:List Sl}{i:Nat}{s:Sl}{ρ:List Sl}:dO as ss i (s::ρ)=dD s (aN i as ss)::dO as ss (i+1) ρ:=rfl
noncomputable abbrev Call:=Nat->List Sl->Res R
noncomputable def pF(c:Call)(f:Nat)(as:List Arg)(ρ:List Sl):Res R:=match bJ ρ as []with|none=>.stuck|some args=>match c f args with|.ok r a=>.ok r (dO as a 0 ρ)|.exc _ _=>.stuck|.stuck=>.stuck
noncomputable def put(ρ:List Sl)(i:Nat)(s:Sl):Option (List Sl):=match ρ[i]?with|some .aL=>some (ρ.set i s)|some (.val false _)=>some (ρ.set i s)|some (.own false _)=>some (ρ.set i s)|_=>none
noncomputable def putAll(ρ:List Sl):List Nat->List D->Option (List Sl)|[],[]=>some ρ|i::is,d::ds=>(put ρ i (.val false d)).bind λρ=>putAll ρ is ds|_,_=>none
theorem oZ{ρ:List Sl}:putAll ρ [] []=some ρ:=rfl
theorem lL{ρ:List Sl}{i:Nat}{is:List Nat}{d:D}{ds:List D}:putAll ρ (i::is) (d::ds)=(put ρ i (.val false d)).bind λρ=>putAll ρ is ds:=rfl
theorem sW{ρ:List Sl}{i:Nat}{is:List Nat}:putAll ρ (i::is) []=none:=rfl
theorem uJ{ρ:List Sl}{d:D}{ds:List D}:putAll ρ [] (d::ds)=none:=rfl
noncomputable def cA(ρ:List Sl)(is:List Nat)(one:Bool)(d:D):Option (List Sl):=match one,is,d with|true,[i],d=>put ρ i (.val false d)|false,is,.tup ds=>putAll ρ is ds|_,_,_=>none
noncomputable def srcOf(i:Option Nat)(e:Ev)(ρ:List Sl):Res (List D):=match i with
 |some i=>match ρ[i]?with|some (.val _ d)=>lift (items d) ρ|some (.own _ ds)=>.ok ds (ρ.set i (.lent ds))|some (.lent ds)=>.ok ds ρ|_=>.stuck
 |none=>(e ρ).bind λr ρ=>lift (items r.d) ρ
noncomputable def aZ(a:List Sl)(i:Option Nat)(ρ:List Sl):List Sl:=match i with
 |some i=>match a[i]?with|some (.own b ds)=>ρ.set i (.own b ds)|_=>ρ
 |none=>ρ
noncomputable def srcY(i:Nat)(f:Ev)(ρ:List Sl):Res (List D×List Sl):=(f ρ).bind λr a=>(lift (items r.d) a).bind λes a=>match a[i]?with|some (.val _ d)=>(lift (items d) a).bind λds a=>.ok ((es.zip ds).map λp=>D.tup [p.1,p.2],a) a|some (.own _ ds)=>.ok ((es.zip ds).map λp=>D.tup [p.1,p.2],a) (a.set i (.lent ds))|some (.lent ds)=>.ok ((es.zip ds).map λp=>D.tup [p.1,p.2],a) a|_=>.stuck
noncomputable def turns(is:List Nat)(one:Bool)(a:List Sl->Res Bool)(e:Ev):List D->List D->List Sl->Res (List D)|[],c,ρ=>.ok c ρ|d::r,c,ρ=>match cA ρ is one d with|none=>.stuck|some ρ=>(a ρ).bind λb ρ=>if b then(e ρ).bind λx ρ=>turns is one a e r (c++[x.d]) ρ else turns is one a e r c ρ
theorem Ga{is:List Nat}{o:Bool}{f:List Sl->Res Bool}{e:Ev}{a:List D}{ρ:List Sl}:turns is o f e [] a ρ=.ok a ρ:=rfl
theorem G3{is:List Nat}{o:Bool}{f:List Sl->Res Bool}{e:Ev}{d:D}{r a:List D}{ρ:List Sl}:turns is o f e (d::r) a ρ=match cA ρ is o d with|none=>.stuck|some ρ=>(f ρ).bind λb ρ=>if b then(e ρ).bind λx ρ=>turns is o f e r (a++[x.d]) ρ else turns is o f e r a ρ:=rfl
mutual
noncomputable def ev(c:Call):P->List Sl->Res R
 |.var i,ρ=>match ρ[i]?with|some (.val _ d)=>.ok (.val d) ρ|some (.own b ds)=>.ok (.val (.lst ds)) (ρ.set i (.val b (.lst ds)))|some (.gF (.k kvs))=>.ok (.val (.dq (.k kvs))) (ρ.set i (.val false (.dq (.k kvs))))|some (.cY kvs)=>.ok (.val (.dv (kvs.map (·.1)) (kvs.map (·.2)))) (ρ.set i (.val false (.dv (kvs.map (·.1)) (kvs.map (·.2)))))|_=>.stuck
 |.con d,ρ=>.ok (.val d) ρ|.bin o a b,ρ=>(iC (isVar a) (ev c a) (isVar b) (ev c b) ρ).bind λg ρ=>lift (qL o g.1 g.2) ρ|.neg a,ρ=>(cG (isVar a) (ev c a) ρ).bind λx ρ=>lift (GK x) ρ|.not a,ρ=>(iB (ev c a) ρ).bind λb ρ=>.ok (.val (.bl (!b))) ρ|.and a b,ρ=>(iB (ev c a) ρ).bind λx ρ=>if x then(iB (ev c b) ρ).bind λy ρ=>.ok (.val (.bl y)) ρ else .ok (.val (.bl false)) ρ|.or a b,ρ=>(iB (ev c a) ρ).bind λx ρ=>if x then .ok (.val (.bl true)) ρ else(iB (ev c b) ρ).bind λy ρ=>.ok (.val (.bl y)) ρ|.cmp o a b,ρ=>(iC (isVar a) (ev c a) (isVar b) (ev c b) ρ).bind λg ρ=>lift (nT o g.1 g.2) ρ|.chain o B a b d,ρ=>(iC (isVar a) (ev c a) (isVar b) (ev c b) ρ).bind λg ρ=>(lift (if flat g.2=true then cm o g.1 g.2 else none) ρ).bind λk ρ=>if k then(cG (isVar d) (ev c d) ρ).bind λz ρ=>lift (nT B g.2 z) ρ else .ok (.val (.bl false)) ρ|.N8 t a b,ρ=>(iB (ev c t) ρ).bind λk ρ=>if k then(ev c a ρ).bind λr ρ=>.ok (.val r.d) ρ else(ev c b ρ).bind λr ρ=>.ok (.val r.d) ρ|.tup as,ρ=>(evs c as ρ).bind λds ρ=>.ok (.val (.tup ds)) ρ|.lst as,ρ=>(evs c as ρ).bind λds ρ=>.ok (.own ds) ρ|.idx a i,ρ=>(iC (isVar a) (ev c a) (isVar i) (ev c i) ρ).bind λg ρ=>lift (xF g.1 g.2) ρ|.slice a l h,ρ=>match isVar a with|some i=>(lift (pk ρ i) ρ).bind λ_ ρ=>(cG (isVar l) (ev c l) ρ).bind λy ρ=>(cG (isVar h) (ev c h) ρ).bind λz ρ=>(lift (pk ρ i) ρ).bind λx ρ=>lift (JF x (part l y) (part h z)) ρ|none=>(cG none (ev c a) ρ).bind λx ρ=>(cG (isVar l) (ev c l) ρ).bind λy ρ=>(cG (isVar h) (ev c h) ρ).bind λz ρ=>lift (JF x (part l y) (part h z)) ρ
 |.call f as,ρ=>(yH c as ρ).bind λxs ρ=>pF c f xs ρ|.blt b [a],ρ=>(cG (isVar a) (ev c a) ρ).bind λx ρ=>lift (blt b [x]) ρ|.blt b as,ρ=>(evs c as ρ).bind λds ρ=>lift (blt b ds) ρ|.inst C a,ρ=>(cG (isVar a) (ev c a) ρ).bind λx ρ=>.ok (.val (.bl (C.any λt=>cz t x))) ρ|.comp src n is one u A,ρ=>(srcOf (isVar src) (ev c src) ρ).bind λds q=>if ds.length<=lim then(turns is one (tH c u) (ev c A) ds [] (q++replicate n .aL)).bind λxs s=>.ok (.own xs) (aZ ρ (isVar src) (s.take q.length))else .stuck|.wW a b,ρ=>(iC (isVar a) (ev c a) (isVar b) (ev c b) ρ).bind λg ρ=>lift ((gU g.1).bind λi=>(gU g.2).bind λj=>if-1000000<=i/\i<=1000000000/\j<=1000000000/\-1000000000<=j then some (.val (.lst ((List.range (j-i).toNat).map λ(k:Nat)=>D.int (i+(k:Int)))))else none) ρ|.zip a b,ρ=>(ev c a ρ).bind λx ρ=>(ev c b ρ).bind λy ρ=>lift ((items x.d).bind λds=>(items y.d).map λes=>.val (.lst ((ds.zip es).map λp=>D.tup [p.1,p.2]))) ρ|.Va x k d,ρ=>match ρ[x]?with
   |some (.gF _)=>(cG (isVar k) (ev c k) ρ).bind λw ρ=>(cG (isVar d) (ev c d) ρ).bind λE ρ=>match ρ[x]?with|some (.gF m)=>lift ((m.get w).bind λo=>(gU E).map λv=>.val (.int (o.getD v))) ρ|_=>.stuck
   |_=>.stuck
 |.vw x,ρ=>match ρ[x]?with|some (.gF m)=>.ok (.val (.dq m)) (ρ.set x (.val false (.dq m)))|some (.cY kvs)=>.ok (.val (.dv (kvs.map (·.1)) (kvs.map (·.2)))) (ρ.set x (.val false (.dv (kvs.map (·.1)) (kvs.map (·.2)))))|some (.own b ds)=>.ok (.val (.lst ds)) (ρ.set x (.val b (.lst ds)))|some (.val _ d)=>.ok (.val d) ρ|_=>.stuck
 |.Oa x k,ρ=>match ρ[x]?with
   |some (.cY _)=>(cG (isVar k) (ev c k) ρ).bind λw ρ=>match ρ[x]?with|some (.cY kvs)=>lift ((gU w).bind λk=>(mq kvs k).map .val) ρ|_=>.stuck
   |_=>.stuck
 |.Ob x k neg,ρ=>(cG (isVar k) (ev c k) ρ).bind λw ρ=>match ρ[x]?with|some (.cY kvs)=>lift ((gU w).map λk=>.val (.bl (if neg then !(kvs.map (·.1)).contains k else(kvs.map (·.1)).contains k))) ρ|_=>.stuck
 |.yJ k e,ρ=>.ok (.val (.dv [k] [.int e])) ρ
noncomputable def evs(c:Call):List P->List Sl->Res (List D)|[],ρ=>.ok [] ρ|a::r,ρ=>(ev c a ρ).bind λx ρ=>(evs c r ρ).bind λxs ρ=>.ok (x.d::xs) ρ
noncomputable def yH(c:Call):List P->List Sl->Res (List Arg)|[],ρ=>.ok [] ρ|a::r,ρ=>match isVar a with|some i=>(lift (O7 ρ i) ρ).bind λ_ ρ=>(yH c r ρ).bind λxs ρ=>.ok (.eX i::xs) ρ|none=>(ev c a ρ).bind λx ρ=>(yH c r ρ).bind λxs ρ=>.ok (rT x::xs) ρ
noncomputable def tH(c:Call):Option P->List Sl->Res Bool|none,ρ=>.ok true ρ|some t,ρ=>iB (ev c t) ρ
end
theorem Gi{c:Call}{ρ:List Sl}:evs c [] ρ=.ok [] ρ:=rfl
theorem Gx{c:Call}{a:P}{r:List P}{ρ:List Sl}:evs c (a::r) ρ=(HH.ev c a ρ).bind λx ρ=>(evs c r ρ).bind λxs ρ=>.ok (x.d::xs) ρ:=rfl
theorem Fx{c:Call}{ρ:List Sl}:yH c [] ρ=.ok [] ρ:=rfl
theorem xZ{c:Call}{a:P}{r:List P}{ρ:List Sl}:yH c (a::r) ρ=match isVar a with|some i=>(lift (O7 ρ i) ρ).bind λ_ ρ=>(yH c r ρ).bind λxs ρ=>.ok (.eX i::xs) ρ|none=>(HH.ev c a ρ).bind λx ρ=>(yH c r ρ).bind λxs ρ=>.ok (rT x::xs) ρ:=rfl
theorem E1{c i ρ}:ev c (.var i) ρ=match ρ[i]?with|some (.val _ d)=>.ok (.val d) ρ|some (.own b ds)=>.ok (.val (.lst ds)) (ρ.set i (.val b (.lst ds)))|some (.gF (.k kvs))=>.ok (.val (.dq (.k kvs))) (ρ.set i (.val false (.dq (.k kvs))))|some (.cY kvs)=>.ok (.val (.dv (kvs.map (·.1)) (kvs.map (·.2)))) (ρ.set i (.val false (.dv (kvs.map (·.1)) (kvs.map (·.2)))))|_=>.stuck:=(rfl)
theorem E2{c d ρ}:ev c (.con d) ρ=.ok (.val d) ρ:=(rfl)
theorem E3{c o a b ρ}:ev c (.bin o a b) ρ=(iC (isVar a) (ev c a) (isVar b) (ev c b) ρ).bind λe ρ=>lift (qL o e.1 e.2) ρ:=(rfl)
theorem E4{c a ρ}:ev c (.neg a) ρ=(cG (isVar a) (ev c a) ρ).bind λx ρ=>lift (GK x) ρ:=(rfl)
theorem E5{c a ρ}:ev c (.not a) ρ=(iB (ev c a) ρ).bind λb ρ=>.ok (.val (.bl (!b))) ρ:=(rfl)
theorem E6{c a b ρ}:ev c (.and a b) ρ=(iB (ev c a) ρ).bind λx ρ=>if x then(iB (ev c b) ρ).bind λy ρ=>.ok (.val (.bl y)) ρ else .ok (.val (.bl false)) ρ:=(rfl)
theorem E7{c a b ρ}:ev c (.or a b) ρ=(iB (ev c a) ρ).bind λx ρ=>if x then .ok (.val (.bl true)) ρ else(iB (ev c b) ρ).bind λy ρ=>.ok (.val (.bl y)) ρ:=(rfl)
theorem E8{c o a b ρ}:ev c (.cmp o a b) ρ=(iC (isVar a) (ev c a) (isVar b) (ev c b) ρ).bind λe ρ=>lift (nT o e.1 e.2) ρ:=(rfl)
theorem E9{c o o' a b d ρ}:ev c (.chain o o' a b d) ρ=(iC (isVar a) (ev c a) (isVar b) (ev c b) ρ).bind λe ρ=>(lift (if flat e.2=true then cm o e.1 e.2 else none) ρ).bind λk ρ=>if k then(cG (isVar d) (ev c d) ρ).bind λz ρ=>lift (nT o' e.2 z) ρ else .ok (.val (.bl false)) ρ:=(rfl)
theorem E10{c t a b ρ}:ev c (.N8 t a b) ρ=(iB (ev c t) ρ).bind λk ρ=>if k then(ev c a ρ).bind λr ρ=>.ok (.val r.d) ρ else(ev c b ρ).bind λr ρ=>.ok (.val r.d) ρ:=(rfl)
theorem E11{c as ρ}:ev c (.tup as) ρ=(evs c as ρ).bind λds ρ=>.ok (.val (.tup ds)) ρ:=(rfl)
theorem E12{c as ρ}:ev c (.lst as) ρ=(evs c as ρ).bind λds ρ=>.ok (.own ds) ρ:=(rfl)
theorem E13{c a i ρ}:ev c (.idx a i) ρ=(iC (isVar a) (ev c a) (isVar i) (ev c i) ρ).bind λb ρ=>lift (xF b.1 b.2) ρ:=(rfl)
theorem E14{c a l h ρ}:ev c (.slice a l h) ρ=match isVar a with|some i=>(lift (pk ρ i) ρ).bind λ_ ρ=>(cG (isVar l) (ev c l) ρ).bind λy ρ=>(cG (isVar h) (ev c h) ρ).bind λz ρ=>(lift (pk ρ i) ρ).bind λx ρ=>lift (JF x (part l y) (part h z)) ρ|none=>(cG none (ev c a) ρ).bind λx ρ=>(cG (isVar l) (ev c l) ρ).bind λy ρ=>(cG (isVar h) (ev c h) ρ).bind λz ρ=>lift (JF x (part l y) (part h z)) ρ:=(rfl)
theorem E15{c f as ρ}:ev c (.call f as) ρ=(yH c as ρ).bind λxs ρ=>pF c f xs ρ:=(rfl)
theorem E16{c b a ρ}:ev c (.blt b [a]) ρ=(cG (isVar a) (ev c a) ρ).bind λx ρ=>lift (blt b [x]) ρ:=(rfl)
theorem E17{c b x y r ρ}:ev c (.blt b (x::y::r)) ρ=(evs c (x::y::r) ρ).bind λds ρ=>lift (blt b ds) ρ:=(rfl)
theorem VN{c b ρ}:ev c (.blt b []) ρ=(evs c [] ρ).bind λds ρ=>lift (blt b ds) ρ:=(rfl)
theorem E18{c ts a ρ}:ev c (.inst ts a) ρ=(cG (isVar a) (ev c a) ρ).bind λx ρ=>.ok (.val (.bl (ts.any λt=>cz t x))) ρ:=(rfl)
theorem E19{c src n is one test elt ρ}:ev c (.comp src n is one test elt) ρ=(srcOf (isVar src) (ev c src) ρ).bind λds a=>if ds.length<=lim then(turns is one (tH c test) (ev c elt) ds [] (a++replicate n .aL)).bind λxs b=>.ok (.own xs) (aZ ρ (isVar src) (b.take a.length))else .stuck:=(rfl)
theorem E20{c a b ρ}:ev c (.wW a b) ρ=(iC (isVar a) (ev c a) (isVar b) (ev c b) ρ).bind λe ρ=>lift ((gU e.1).bind λi=>(gU e.2).bind λj=>if-1000000<=i/\i<=1000000000/\j<=1000000000/\-1000000000<=j then some (.val (.lst ((List.range (j-i).toNat).map λ(k:Nat)=>D.int (i+(k:Int)))))else none) ρ:=(rfl)
theorem E21{c a b ρ}:ev c (.zip a b) ρ=(ev c a ρ).bind λx ρ=>(ev c b ρ).bind λy ρ=>lift ((items x.d).bind λds=>(items y.d).map λes=>.val (.lst ((ds.zip es).map λp=>D.tup [p.1,p.2]))) ρ:=(rfl)
theorem E22{c x k d ρ}:ev c (.Va x k d) ρ=match ρ[x]?with
 |some (.gF _)=>(cG (isVar k) (ev c k) ρ).bind λa ρ=>(cG (isVar d) (ev c d) ρ).bind λb ρ=>match ρ[x]?with|some (.gF m)=>lift ((m.get a).bind λo=>(gU b).map λv=>.val (.int (o.getD v))) ρ|_=>.stuck
 |_=>.stuck:=(rfl)
theorem E23{c x ρ}:ev c (.vw x) ρ=match ρ[x]?with|some (.gF m)=>.ok (.val (.dq m)) (ρ.set x (.val false (.dq m)))|some (.cY kvs)=>.ok (.val (.dv (kvs.map (·.1)) (kvs.map (·.2)))) (ρ.set x (.val false (.dv (kvs.map (·.1)) (kvs.map (·.2)))))|some (.own b ds)=>.ok (.val (.lst ds)) (ρ.set x (.val b (.lst ds)))|some (.val _ d)=>.ok (.val d) ρ|_=>.stuck:=(rfl)
theorem E24{c x k ρ}:ev c (.Oa x k) ρ=match ρ[x]?with
 |some (.cY _)=>(cG (isVar k) (ev c k) ρ).bind λa ρ=>match ρ[x]?with|some (.cY kvs)=>lift ((gU a).bind λk=>(mq kvs k).map .val) ρ|_=>.stuck
 |_=>.stuck:=(rfl)
theorem E25{c x k neg ρ}:ev c (.Ob x k neg) ρ=(cG (isVar k) (ev c k) ρ).bind λa ρ=>match ρ[x]?with|some (.cY kvs)=>lift ((gU a).map λk=>.val (.bl (if neg then !(kvs.map (·.1)).contains k else(kvs.map (·.1)).contains k))) ρ|_=>.stuck:=(rfl)
theorem E26{c k e ρ}:ev c (.yJ k e) ρ=.ok (.val (.dv [k] [.int e])) ρ:=(rfl)
noncomputable def pckA(c:Call)(f p x t:Nat)(ρ:List Sl):Res R:=match pk ρ x with|some (.lst (_::_))=>ev c (.call f [.var p,.var x,.var t]) ρ|some (.lst [])=>ev c (.call f [.var p,.lst [.con (.int 0)],.var t]) ρ|_=>.stuck
inductive S where|pass|brk|cont|bad|expr(e:P)|asg(i:Nat)(e:P)|Yl(i:List Nat)(e:P)|Hy(x:Nat)(i e:P)|app(x:Nat)(e:P)|ret(e:P)|Ym|ifs(c:P)(a b:List S)|iz(src:P)(i:List Nat)(one:Bool)(body:List S)|whl(c:P)(body:List S)|Hz(x:Nat)(i:P)(sub:Bool)(e:P)|HB(x:Nat)(t:Bool)|dput(x:Nat)(k e:P)|HD(x:Nat)(src:P)(k:Nat)(is:List Nat)(one:Bool)(elt:P)|HF(x:Nat)(i e:P)|Cy(src:P)(is:List Nat)(one:Bool)(body:List S)|cO(x:Nat)|Cz(x:Nat)|gP(x:Nat)(k e:P)|Vb(x m g o:Nat)|SN(x f y:Nat)deriving Inhabited
inductive Fl where|next|brk|cont|ret(r:R)deriving Inhabited
noncomputable def Ur:Nat->D->Bool|_,.non=>true|_,.bl _=>true|_,.int _=>true|_,.str _=>true|k+1,.tup ds=>ds.all (Ur k)|_,_=>false
noncomputable def tldF(c:Call)(x y f g a:Nat)(ρ:List Sl):Res Fl:=match ρ[a]?with|some (.val _ d)=>if Ur 3 d=true/\a≠x then(lift (put ρ x .aL) ρ).bind λb _=>match c f [.val false d]with|.ok (.val (.tup [.int z,.lst ds,.tup es])) _=>if ds.all dM=true/\es.all dM=true/\ds.length<1000 then match c g [.val false d,.val false (.tup [.int z,.lst ds,.tup es])]with|.ok (.val (.bl true)) _=>(lift (put b y (.val false (.tup [.int z,.lst ds,.tup es]))) b).bind λe _=>.ok .next e|.ok (.val (.bl false)) _=>.ok (.ret (.val (.bl false))) b|_=>.stuck else .stuck|_=>.stuck else .stuck|_=>.stuck
noncomputable def kY(u k:Int):Int:=(u+69621*(k+1))%2147483629*((u+69621*(k+1))%2147483629)%2147483629
noncomputable def lK(ns:List Int)(u k q:Int):Int×List Int×Int×Int:=match ns.dropWhile λn=>decide (n=0)with|n::r=>(n%q,n/q::r,u,k)|[]=>(kY u k*39373%2147483647/8%q,[],(u*16807+kY u k+(k+1))%2147483629,k+1)
noncomputable def Bv(x m g o:Nat)(ρ:List Sl):Res Fl:=match ρ[x]?,ρ[m]?,ρ[g]?,ρ[o]?with|some (.pot b ns u k),some (.val _ (.int q)),some .aL,some .aL=>if 0<q/\q<1606938044258990275541962092341162602522202993782792835301376 then .ok (.ret (.val (.int (lK ns u k q).1))) (ρ.set x (.pot b (lK ns u k q).2.1 (lK ns u k q).2.2.1 (lK ns u k q).2.2.2))else .stuck|_,_,_,_=>.stuck
noncomputable def O2:List D->Option (List Int)|[]=>some []|.int i::r=>(O2 r).map (i::·)|_=>none
noncomputable def Ju(c:Call)(x f y:Nat)(ρ:List Sl):Res Fl:=match ρ[y]?with
 |some (.val _ (.lst ds))=>match c f [.val false (.lst ds)]with
   |.ok (.own [.lst es,.int u,.int k]) _=>match O2 ds,O2 es with|some is,some ns=>if ns=[]\/is≠ns then(lift (put ρ x (.pot false ns u k)) ρ).bind λa _=>.ok .next a else .stuck|_,_=>.stuck
   |_=>.stuck
 |_=>.stuck
noncomputable def lfs:Sl->Bool|.aL=>true|.val _ d=>Ur 9 d|_=>false
noncomputable def scl:D->Bool|.bl _=>true|.int _=>true|.non=>true|_=>false
noncomputable def Am:Sl->Sl|.val b d=>if Ur 9 d=true then .val b d else .aL|_=>.aL
noncomputable def vlS:Sl->Bool|.aL=>true|.val _ _=>true|_=>false
noncomputable def lckS:Sl->Sl|.val b d=>if Ur 9 d=true then .val b d else .val true d|s=>s
noncomputable def Vy:Sl->Sl->Sl|.val b d,t=>if Ur 9 d=true then Am t else .val b d|_,t=>Am t
noncomputable def W7(a b:List Sl):List Sl:=List.zipWith Vy a b
noncomputable def WQ:D->Bool
 |.lst a=>decide (a.length<1000)&&a.all λr=>match r with|.lst is=>is.all dM&&decide (3<=is.length)|_=>false
 |_=>false
noncomputable def wrkT(b:List Sl)(x o v:Nat)(fl:Fl)(a:List Sl):Res Fl:=match fl with
 |.ret (.val d)=>if scl d=true then .ok (.ret (.val d)) (W7 b a)else .stuck|.next=>match a[v]?,a[x]?with|some (.val _ (.int i)),some (.val true d)=>if(i≠0\/WQ d=true)/\o≠x/\o≠v then .ok .next (((W7 b a).set o .aL).set x .aL)else .stuck|_,_=>.stuck
 |_=>.stuck
noncomputable def fshT(y a b:Nat)(fl:Fl)(ρ:List Sl):Res Fl:=match fl with
 |.ret (.val d)=>if scl d=true then .ok (.ret (.val d)) (ρ.map Am)else .stuck|.next=>match ρ[a]?,ρ[b]?with|some (.val false (.lst ds)),some (.val false (.lst es))=>if ds.all dM=true/\es.all dM=true/\ds.length<1000/\0<es.length/\a≠y/\b≠y then(lift (put (ρ.map Am) y (.val false (.tup [.lst ds,.lst es]))) ρ).bind λc _=>.ok .next c else .stuck|_,_=>.stuck
 |_=>.stuck
noncomputable def xM:R->Sl|.val d=>.val false d|.own ds=>.own false ds
noncomputable def iT(is:List Nat)(one:Bool)(body:List Sl->Res Fl):List D->List Sl->Res Fl|[],ρ=>.ok .next ρ|d::r,ρ=>match cA ρ is one d with|none=>.stuck|some ρ=>(body ρ).bind λfl ρ=>match fl with|.next=>iT is one body r ρ|.cont=>iT is one body r ρ|.brk=>.ok .next ρ|.ret r=>.ok (.ret r) ρ
theorem Hl{is:List Nat}{o:Bool}{b:List Sl->Res Fl}{ρ:List Sl}:iT is o b [] ρ=.ok .next ρ:=rfl
theorem xU{is:List Nat}{o:Bool}{b:List Sl->Res Fl}{d:D}{r:List D}{ρ:List Sl}:iT is o b (d::r) ρ=match cA ρ is o d with|none=>.stuck|some ρ=>(b ρ).bind λfl ρ=>match fl with|.next=>iT is o b r ρ|.cont=>iT is o b r ρ|.brk=>.ok .next ρ|.ret r=>.ok (.ret r) ρ:=rfl
noncomputable def oO(a:List Sl->Res Bool)(body:List Sl->Res Fl):Nat->List Sl->Res Fl|0,_=>.stuck|n+1,ρ=>(a ρ).bind λb ρ=>if b then(body ρ).bind λfl ρ=>match fl with|.next=>oO a body n ρ|.cont=>oO a body n ρ|.brk=>.ok .next ρ|.ret r=>.ok (.ret r) ρ else .ok .next ρ
theorem Ql{f:List Sl->Res Bool}{b:List Sl->Res Fl}{ρ:List Sl}:oO f b 0 ρ=.stuck:=rfl
theorem Dp{f:List Sl->Res Bool}{b:List Sl->Res Fl}{n:Nat}{ρ:List Sl}:oO f b (n+1) ρ=(f ρ).bind λx ρ=>if x then(b ρ).bind λfl ρ=>match fl with|.next=>oO f b n ρ|.cont=>oO f b n ρ|.brk=>.ok .next ρ|.ret r=>.ok (.ret r) ρ else .ok .next ρ:=rfl
noncomputable def gk(is:List Nat)(one:Bool)(b:Ev):List D->List (List D)->List Sl->Res (List (List D))|[],a,ρ=>.ok a ρ|d::r,a,ρ=>match cA ρ is one d with|none=>.stuck|some ρ=>(b ρ).bind λx ρ=>match x with|.own ds=>gk is one b r (a++[ds]) ρ|.val _=>.stuck
theorem GQ{is:List Nat}{o:Bool}{e:Ev}{a:List (List D)}{ρ:List Sl}:gk is o e [] a ρ=.ok a ρ:=rfl
theorem Fe{is:List Nat}{o:Bool}{e:Ev}{d:D}{r:List D}{a:List (List D)}{ρ:List Sl}:gk is o e (d::r) a ρ=match cA ρ is o d with|none=>.stuck|some ρ=>(e ρ).bind λx ρ=>match x with|.own ds=>gk is o e r (a++[ds]) ρ|.val _=>.stuck:=rfl
noncomputable def rowAt(a:List (List D))(k:Int):Option (List D):=(gK a.length k).bind λr=>a[r]?
noncomputable def jj(a:List (List D))(k:Int)(f:List D->Option (List D)):Option (List (List D)):=(gK a.length k).bind λr=>(a[r]?).bind λrow=>(f row).map λb=>a.set r b
noncomputable def setAt(l:Int)(d:D)(row:List D):Option (List D):=(gK row.length l).map λm=>row.set m d
noncomputable def iW(ρ:List Sl)(x:Nat):Option (List (List D)):=match ρ[x]?with|some (.hold a)=>some a|_=>none
noncomputable def uH(ρ:List Sl)(x:Nat)(k:D):Option (List D):=(iW ρ x).bind λa=>(gU k).bind λk=>rowAt a k
noncomputable def Cr(ρ:List Sl)(x:Nat)(o:Option (List (List D))):Res Fl:=match o with|some a=>.ok .next (ρ.set x (.hold a))|none=>.stuck
noncomputable def rowOne(x r:Nat)(b c e:List Sl->Res D)(ρ:List Sl):Res Fl:=(c ρ).bind λk ρ=>(lift ((iW ρ x).bind λa=>(a[r]?).bind λrow=>(gU k).bind λk=>(at' row k).bind gU) ρ).bind λu ρ=>(e ρ).bind λl ρ=>(lift ((iW ρ x).bind λa=>(a[r]?).bind λrow=>(gU l).bind λl=>(at' row l).bind gU) ρ).bind λv ρ=>(b ρ).bind λj ρ=>Cr ρ x ((iW ρ x).bind λa=>(a[r]?).bind λrow=>(gU j).bind λj=>(setAt j (.int (u+v)) row).map λf=>a.set r f)
noncomputable def Px(x y:Nat)(a b c:List Sl->Res D):Nat->Nat->List Sl->Res Fl|0,_,ρ=>.ok .next ρ|m+1,r,ρ=>(lift (put ρ y .aL) ρ).bind λρ _=>(rowOne x r a b c ρ).bind λ_ ρ=>Px x y a b c m (r+1) ρ
noncomputable def Rz(is:List Nat)(one:Bool)(body:List Sl->Res Fl)(b:List Sl->Option (Nat×List Sl)):List D->List Sl->Option (Nat×List Sl)|[],_=>none|d::r,ρ=>match cA ρ is one d with|none=>none|some ρ=>match b ρ with|some x=>some x|none=>match body ρ with|.ok .next a=>Rz is one body b r a|.ok .cont a=>Rz is one body b r a|_=>none
noncomputable def QT(a:List Sl->Res Bool)(body:List Sl->Res Fl)(e:List Sl->Option (Nat×List Sl)):Nat->List Sl->Option (Nat×List Sl)|0,_=>none|n+1,ρ=>match a ρ with
   |.ok true c=>match e c with|some x=>some x|none=>match body c with|.ok .next b=>QT a body e n b|.ok .cont b=>QT a body e n b|_=>none
   |_=>none
noncomputable def RM:P->P|.idx a _=>a|.blt .sum [.comp s _ _ _ _ _]=>s|e=>e
noncomputable def arg0:P->P|.call _ (a::_)=>a|e=>e
noncomputable def Av(c:Call)(e:P)(ρ:List Sl):Option (Nat×List Sl):=match RM e with
 |.call f as=>match yH c as ρ with
   |.ok xs b=>match bJ b xs []with
     |some args=>match c f args with|.exc k a=>some (k,dO xs a 0 b)|_=>none
     |none=>none
   |_=>none
 |_=>none
mutual
noncomputable def ex(c:Call)(n:Nat):S->List Sl->Res Fl
 |.pass,ρ=>.ok .next ρ|.brk,ρ=>.ok .brk ρ|.cont,ρ=>.ok .cont ρ|.bad,_=>.stuck|.expr e,ρ=>(ev c e ρ).bind λ_ ρ=>.ok .next ρ|.asg i e,ρ=>(ev c e ρ).bind λr ρ=>(lift (put ρ i (xM r)) ρ).bind λs _=>.ok .next s|.Yl is e,ρ=>(ev c e ρ).bind λr ρ=>match r.d with|.tup ds=>(lift (putAll ρ is ds) ρ).bind λs _=>.ok .next s|_=>.stuck
 |.Hy x i e,ρ=>(ev c e ρ).bind λr ρ=>(lift (pk ρ x) ρ).bind λ_ ρ=>(cG (isVar i) (ev c i) ρ).bind λk ρ=>match ρ[x]?,k with
   |some (.own b ds),.int k=>match gK ds.length k with|some j=>.ok .next (ρ.set x (.own b (ds.set j r.d)))|none=>.stuck
   |_,_=>.stuck
 |.app x e,ρ=>(lift (CN ρ x) ρ).bind λ_ ρ=>(ev c e ρ).bind λr ρ=>match ρ[x]?with|some (.own b ds)=>if ds.length<lim then .ok .next (ρ.set x (.own b (ds++[r.d])))else .stuck|_=>.stuck
 |.ret e,ρ=>match isVar e with
   |some i=>match ρ[i]?with|some (.own false ds)=>.ok (.ret (.own ds)) (ρ.set i .aL)|_=>(ev c e ρ).bind λr ρ=>.ok (.ret r) ρ
   |none=>(ev c e ρ).bind λr ρ=>.ok (.ret r) ρ
 |.Ym,ρ=>.ok (.ret (.val .non)) ρ|.ifs t a b,ρ=>(iB (ev c t) ρ).bind λk ρ=>if k then gY c n a ρ else gY c n b ρ|.iz src is one body,ρ=>(srcOf (isVar src) (ev c src) ρ).bind λds h=>(iT is one (gY c n body) ds h).bind λfl q=>.ok fl (aZ ρ (isVar src) q)|.whl t body,ρ=>oO (iB (ev c t)) (gY c n body) n ρ|.Hz x i sub e,ρ=>(lift (CN ρ x) ρ).bind λ_ ρ=>(cG (isVar i) (ev c i) ρ).bind λk ρ=>(lift (CN ρ x) ρ).bind λl ρ=>(lift ((gU k).bind λi=>at' l i) ρ).bind λa ρ=>(cG (isVar e) (ev c e) ρ).bind λb ρ=>match a,b,ρ[x]?,k with
   |.int u,.int v,some (.own A ds),.int k=>match gK ds.length k with|some j=>.ok .next (ρ.set x (.own A (ds.set j (.int (if sub then u-v else u+v)))))|none=>.stuck
   |_,_,_,_=>.stuck
 |.HB x t,ρ=>match ρ[x]?with|some .aL=>.ok .next (ρ.set x (.gF (if t then .t []else .k [])))|_=>.stuck
 |.dput x k e,ρ=>(ev c e ρ).bind λr ρ=>match ρ[x]?with
   |some (.gF _)=>(cG (isVar k) (ev c k) ρ).bind λw ρ=>match ρ[x]?,r with
     |some (.gF m),.val (.int v)=>match m.put w v with|some B=>.ok .next (ρ.set x (.gF B))|none=>.stuck
     |_,_=>.stuck
   |_=>.stuck
 |.HD x src k is one z,ρ=>(srcOf (isVar src) (ev c src) ρ).bind λds h=>if ds.length<=lim then(gk is one (ev c z) ds [] (h++replicate k .aL)).bind λp q=>(lift (put (aZ ρ (isVar src) (q.take h.length)) x (.hold p)) ρ).bind λs _=>.ok .next s else .stuck|.HF x i e,ρ=>(cG (isVar i) (ev c i) ρ).bind λk ρ=>(lift (uH ρ x k) ρ).bind λ_ ρ=>(ev c e ρ).bind λr ρ=>Cr ρ x ((iW ρ x).bind λp=>(gU k).bind λk=>jj p k λrow=>if row.length<lim then some (row++[r.d])else none)|.Cy src is one body,ρ=>(ev c src ρ).bind λr h=>(lift (items r.d) h).bind λds h=>iT is one (gY c n body) ds h|.cO x,ρ=>match ρ[x]?with|some (.hold p)=>.ok .next (ρ.set x (.val false (.lst (p.map D.lst))))|_=>.stuck
 |.Cz x,ρ=>match ρ[x]?with|some .aL=>.ok .next (ρ.set x (.cY []))|some (.cY _)=>.ok .next (ρ.set x (.cY []))|some (.val false _)=>.ok .next (ρ.set x (.cY []))|_=>.stuck
 |.gP x k e,ρ=>(ev c e ρ).bind λr ρ=>match ρ[x]?with
   |some (.cY _)=>(cG (isVar k) (ev c k) ρ).bind λw ρ=>match ρ[x]?,w with|some (.cY kvs),.int k=>if kvs.length<lim then .ok .next (ρ.set x (.cY (gP kvs k r.d)))else .stuck|_,_=>.stuck
   |_=>.stuck
 |.Vb x m g o,ρ=>Bv x m g o ρ|.SN x f y,ρ=>Ju c x f y ρ
noncomputable def gY(c:Call)(n:Nat):List S->List Sl->Res Fl|[],ρ=>.ok .next ρ|s::r,ρ=>(ex c n s ρ).bind λfl ρ=>match fl with|.next=>gY c n r ρ|fl=>.ok fl ρ
noncomputable def exX(c:Call)(n:Nat):S->List Sl->Option (Nat×List Sl)
 |.ifs t a b,ρ=>match iB (ev c t) ρ with|.ok x f=>if x then Ce c n a f else Ce c n b f|_=>none
 |.iz src is one body,ρ=>match Av c src ρ with|some x=>some x|none=>match srcOf (isVar src) (ev c src) ρ with|.ok ds f=>(Rz is one (gY c n body) (Ce c n body) ds f).map λx=>(x.1,aZ ρ (isVar src) x.2)|_=>none
 |.ret e,ρ=>Av c e ρ|.asg _ e,ρ=>Av c e ρ|.expr e,ρ=>Av c e ρ|.whl t body,ρ=>QT (iB (ev c t)) (gY c n body) (Ce c n body) n ρ|_,_=>none
noncomputable def Ce(c:Call)(n:Nat):List S->List Sl->Option (Nat×List Sl)|[],_=>none|s::r,ρ=>match exX c n s ρ with|some x=>some x|none=>match ex c n s ρ with|.ok .next a=>Ce c n r a|_=>none
end
theorem X1{c n ρ}:ex c n (.pass) ρ=.ok .next ρ:=(rfl)
theorem X2{c n ρ}:ex c n (.brk) ρ=.ok .brk ρ:=(rfl)
theorem X3{c n ρ}:ex c n (.cont) ρ=.ok .cont ρ:=(rfl)
theorem X4{c n ρ}:ex c n (.bad) ρ=.stuck:=(rfl)
theorem X5{c n e ρ}:ex c n (.expr e) ρ=(ev c e ρ).bind λ_ ρ=>.ok .next ρ:=(rfl)
theorem X6{c n i e ρ}:ex c n (.asg i e) ρ=(ev c e ρ).bind λr ρ=>(lift (put ρ i (xM r)) ρ).bind λa _=>.ok .next a:=(rfl)
theorem X7{c n is e ρ}:ex c n (.Yl is e) ρ=(ev c e ρ).bind λr ρ=>match r.d with|.tup ds=>(lift (putAll ρ is ds) ρ).bind λa _=>.ok .next a|_=>.stuck:=(rfl)
theorem X8{c n x i e ρ}:ex c n (.Hy x i e) ρ=(ev c e ρ).bind λr ρ=>(lift (pk ρ x) ρ).bind λ_ ρ=>(cG (isVar i) (ev c i) ρ).bind λk ρ=>match ρ[x]?,k with
 |some (.own b ds),.int k=>match gK ds.length k with|some j=>.ok .next (ρ.set x (.own b (ds.set j r.d)))|none=>.stuck
 |_,_=>.stuck:=(rfl)
theorem X9{c n x e ρ}:ex c n (.app x e) ρ=(lift (CN ρ x) ρ).bind λ_ ρ=>(ev c e ρ).bind λr ρ=>match ρ[x]?with|some (.own b ds)=>if ds.length<lim then .ok .next (ρ.set x (.own b (ds++[r.d])))else .stuck|_=>.stuck:=(rfl)
theorem X10{c n e ρ}:ex c n (.ret e) ρ=match isVar e with
 |some i=>match ρ[i]?with|some (.own false ds)=>.ok (.ret (.own ds)) (ρ.set i .aL)|_=>(ev c e ρ).bind λr ρ=>.ok (.ret r) ρ
 |none=>(ev c e ρ).bind λr ρ=>.ok (.ret r) ρ:=(rfl)
theorem X11{c n ρ}:ex c n (.Ym) ρ=.ok (.ret (.val .non)) ρ:=(rfl)
theorem YW{c n t a b ρ}:ex c n (.ifs t a b) ρ=(iB (ev c t) ρ).bind λk ρ=>if k then gY c n a ρ else gY c n b ρ:=(rfl)
theorem X13{c n src is one body ρ}:ex c n (.iz src is one body) ρ=(srcOf (isVar src) (ev c src) ρ).bind λds a=>(iT is one (gY c n body) ds a).bind λfl b=>.ok fl (aZ ρ (isVar src) b):=(rfl)
theorem X14{c n t body ρ}:ex c n (.whl t body) ρ=oO (iB (ev c t)) (gY c n body) n ρ:=(rfl)
theorem X15{c n x i sub e ρ}:ex c n (.Hz x i sub e) ρ=(lift (CN ρ x) ρ).bind λ_ ρ=>(cG (isVar i) (ev c i) ρ).bind λk ρ=>(lift (CN ρ x) ρ).bind λl ρ=>(lift ((gU k).bind λi=>at' l i) ρ).bind λa ρ=>(cG (isVar e) (ev c e) ρ).bind λb ρ=>match a,b,ρ[x]?,k with
 |.int u,.int v,some (.own f ds),.int k=>match gK ds.length k with|some j=>.ok .next (ρ.set x (.own f (ds.set j (.int (if sub then u-v else u+v)))))|none=>.stuck
 |_,_,_,_=>.stuck:=(rfl)
theorem X16{c n x t ρ}:ex c n (.HB x t) ρ=match ρ[x]?with|some .aL=>.ok .next (ρ.set x (.gF (if t then .t []else .k [])))|_=>.stuck:=(rfl)
theorem X17{c n x k e ρ}:ex c n (.dput x k e) ρ=(ev c e ρ).bind λr ρ=>match ρ[x]?with
 |some (.gF _)=>(cG (isVar k) (ev c k) ρ).bind λa ρ=>match ρ[x]?,r with
   |some (.gF m),.val (.int v)=>match m.put a v with|some b=>.ok .next (ρ.set x (.gF b))|none=>.stuck
   |_,_=>.stuck
 |_=>.stuck:=(rfl)
theorem X18{c n x src k is one elt ρ}:ex c n (.HD x src k is one elt) ρ=(srcOf (isVar src) (ev c src) ρ).bind λds a=>if ds.length<=lim then(gk is one (ev c elt) ds [] (a++replicate k .aL)).bind λe b=>(lift (put (aZ ρ (isVar src) (b.take a.length)) x (.hold e)) ρ).bind λf _=>.ok .next f else .stuck:=(rfl)
theorem X19{c n x i e ρ}:ex c n (.HF x i e) ρ=(cG (isVar i) (ev c i) ρ).bind λk ρ=>(lift (uH ρ x k) ρ).bind λ_ ρ=>(ev c e ρ).bind λr ρ=>Cr ρ x ((iW ρ x).bind λa=>(gU k).bind λk=>jj a k λrow=>if row.length<lim then some (row++[r.d])else none):=(rfl)
theorem X20{c n src is one body ρ}:ex c n (.Cy src is one body) ρ=(ev c src ρ).bind λr a=>(lift (items r.d) a).bind λds a=>iT is one (gY c n body) ds a:=(rfl)
theorem X21{c n x ρ}:ex c n (.cO x) ρ=match ρ[x]?with|some (.hold a)=>.ok .next (ρ.set x (.val false (.lst (a.map D.lst))))|_=>.stuck:=(rfl)
theorem X22{c n x ρ}:ex c n (.Cz x) ρ=match ρ[x]?with|some .aL=>.ok .next (ρ.set x (.cY []))|some (.cY _)=>.ok .next (ρ.set x (.cY []))|some (.val false _)=>.ok .next (ρ.set x (.cY []))|_=>.stuck:=(rfl)
theorem X23{c n x k e ρ}:ex c n (.gP x k e) ρ=(ev c e ρ).bind λr ρ=>match ρ[x]?with
 |some (.cY _)=>(cG (isVar k) (ev c k) ρ).bind λa ρ=>match ρ[x]?,a with|some (.cY kvs),.int k=>if kvs.length<lim then .ok .next (ρ.set x (.cY (gP kvs k r.d)))else .stuck|_,_=>.stuck
 |_=>.stuck:=(rfl)
theorem X24{c n x m g o ρ}:ex c n (.Vb x m g o) ρ=Bv x m g o ρ:=(rfl)
theorem X25{c n x f y ρ}:ex c n (.SN x f y) ρ=Ju c x f y ρ:=(rfl)
structure Fd where
 np:Nat
 nn:Nat
 body:List S deriving Inhabited
noncomputable abbrev Tab:=Nat->Option Fd
noncomputable def enter(c:Call)(n:Nat)(d:Fd)(args:List Sl):Res R:=if args.length=d.np/\d.np<=d.nn then match gY c n d.body (args++replicate (d.nn-d.np) .aL)with|.ok .next ρ=>.ok (.val .non) (ρ.take d.np)|.ok (.ret r) ρ=>.ok r (ρ.take d.np)|_=>match Ce c n d.body (args++replicate (d.nn-d.np) .aL)with|some (k,ρ)=>.exc k (ρ.take d.np)|none=>.stuck else .stuck
noncomputable def run(Γ:Tab)(w:Nat):Nat->Call|0,_,_=>.stuck|n+1,f,args=>match Γ f with|some d=>enter (run Γ w n) w d args|none=>.stuck
end HH
end
section
namespace HH
open PySem L2
variable{ρ:List Sl}{σ:St}{v:V}
noncomputable def Dc.ho:Dc->HO|.k kvs=>.dK (kvs.map λp=>(Sum.inl p.1,V.int p.2))|.t kvs=>.dT (kvs.map λp=>(p.1.map Sum.inl,V.int p.2))
noncomputable def Ag(ks:List Int)(vs:List V):HO:=.dK ((ks.zip vs).map λp=>(Sum.inl p.1,p.2))
section
variable(K:PySem.W.Frag)
mutual
def Rep(F:Hp):V->D->Prop|v,.non=>v=.non|v,.bl b=>v=.bl b|v,.int i=>v=.int i|v,.str x=>v=.str x|v,.tup ds=>∃a xs,v=.ref a/\jG K F a xs/\aB F xs ds|v,.lst ds=>∃a xs,v=.ref a/\eG K F a xs/\aB F xs ds|v,.dq m=>∃a o,v=.ref a/\F a=some (.cO o m.ho)|v,.dv ks ds=>∃a o vs,v=.ref a/\F a=some (.cO o (Ag ks vs))/\aB F vs ds/\ks.length=ds.length
def aB(F:Hp):List V->List D->Prop|vs,[]=>vs=[]|vs,d::ds=>∃v r,vs=v::r/\Rep F v d/\aB F r ds
end
end
section
variable{K:PySem.W.Frag}{F F' H H':Hp}
theorem aF.jc{a:Addr}{xs:List V}(e:aF H H')(h:jG K H a xs):jG K H' a xs:=by
 rcases h with(h|⟨o,h⟩)|h;.exact .inl (.inl (e _ _ h))
 .exact .inl (.inr ⟨o,e _ _ h⟩)
 .exact .inr h
mutual
theorem Rep.mono(e:aF F F'):∀{d:D}{v:V},Rep K F v d->Rep K F' v d|.non,_,h=>by rw[Rep]at h ⊢;exact h|.bl _,_,h=>by rw[Rep]at h ⊢;exact h|.int _,_,h=>by rw[Rep]at h ⊢;exact h|.str _,_,h=>by rw[Rep]at h ⊢;exact h|.tup ds,_,h=>by rw[Rep]at h ⊢;obtain⟨a,xs,rfl,hs,r⟩:=h;exact⟨a,xs,rfl,aF.jc e hs,aB.mono e r⟩|.lst ds,_,h=>by rw[Rep]at h ⊢;obtain⟨a,xs,rfl,hs,r⟩:=h;exact⟨a,xs,rfl,e.seq hs,aB.mono e r⟩|.dq m,_,h=>by rw[Rep]at h ⊢;obtain⟨a,o,rfl,hs⟩:=h;exact⟨a,o,rfl,e _ _ hs⟩|.dv ks ds,_,h=>by rw[Rep]at h ⊢;obtain⟨a,o,vs,rfl,hs,r,b⟩:=h;exact⟨a,o,vs,rfl,e _ _ hs,aB.mono e r,b⟩theorem aB.mono(e:aF F F'):∀{ds:List D}{vs:List V},aB K F vs ds->aB K F' vs ds|[],_,h=>by rw[aB]at h ⊢;exact h|d::ds,_,h=>by rw[aB]at h ⊢;obtain⟨v,r,rfl,h1,a⟩:=h;exact⟨v,r,rfl,Rep.mono e h1,aB.mono e a⟩end
theorem aB.nil:aB K F [] []:=by rw[aB]
theorem aB.cons{v:V}{d:D}{vs:List V}{ds:List D}(h:Rep K F v d)(t:aB K F vs ds):aB K F (v::vs) (d::ds):=by rw[aB];exact⟨v,vs,rfl,h,t⟩
theorem aB.bY{vs:List V}{d:D}{ds:List D}(h:aB K F vs (d::ds)):∃v r,vs=v::r/\Rep K F v d/\aB K F r ds:=by rw[aB]at h;exact h
theorem aB.eZ{vs:List V}(h:aB K F vs []):vs=[]:=by rw[aB]at h;exact h
theorem aB.length:∀{ds:List D}{vs:List V},aB K F vs ds->vs.length=ds.length|[],_,h=>by rw[h.eZ];rfl|d::ds,_,h=>by obtain⟨v,r,rfl,_,t⟩:=h.bY;simp[aB.length t]
theorem aB.get:∀{ds:List D}{vs:List V}{i:Nat}{d:D},aB K F vs ds->ds[i]?=some d->∃v,vs[i]?=some v/\Rep K F v d|[],_,_,_,h,e=>by simp at e|d::ds,_,0,_,h,e=>by obtain⟨v,r,rfl,h1,t⟩:=h.bY;simp at e;subst e;exact⟨v,rfl,h1⟩|d::ds,_,i+1,_,h,e=>by obtain⟨v,r,rfl,_,t⟩:=h.bY;simp at e;obtain⟨w,a,b⟩:=t.get e;exact⟨w,by simpa using a,b⟩
theorem aB.append:∀{ds es:List D}{vs a:List V},aB K F vs ds->aB K F a es->aB K F (vs++a) (ds++es)|[],_,_,_,h,h'=>by rw[h.eZ];exact h'|d::ds,_,_,_,h,h'=>by obtain⟨v,r,rfl,h1,t⟩:=h.bY;exact .cons h1 (t.append h')
theorem aB.set{v:V}{d:D}(hr:Rep K F v d):∀{ds:List D}{vs:List V}(i:Nat),aB K F vs ds->aB K F (vs.set i v) (ds.set i d)|[],_,_,h=>by rw[h.eZ];exact .nil|_::_,_,0,h=>by obtain⟨w,r,rfl,h1,t⟩:=h.bY;exact .cons hr t|_::_,_,i+1,h=>by obtain⟨w,r,rfl,h1,t⟩:=h.bY;exact .cons h1 (aB.set hr i t)
theorem aB.take:∀{ds:List D}{vs:List V}(n:Nat),aB K F vs ds->aB K F (vs.take n) (ds.take n)|[],_,n,h=>by rw[h.eZ];simpa using aB.nil|_::_,_,0,h=>.nil|_::_,_,n+1,h=>by obtain⟨w,r,rfl,h1,t⟩:=h.bY;exact .cons h1 (t.take n)
theorem aB.drop:∀{ds:List D}{vs:List V}(n:Nat),aB K F vs ds->aB K F (vs.drop n) (ds.drop n)|[],_,n,h=>by rw[h.eZ];simpa using aB.nil|_::_,_,0,h=>h|_::_,_,n+1,h=>by obtain⟨w,r,rfl,h1,t⟩:=h.bY;exact t.drop n
theorem aB.rep{ds:List D}{vs:List V}(h:aB K F vs ds):∀n,aB K F (replicate n vs).flatten (replicate n ds).flatten|0=>by simpa using aB.nil|n+1=>by simpa[replicate_succ]using h.append (aB.rep h n)
inductive Oc where|l(ds:List D)|d(m:Dc)|v(kvs:List (Int×D))|p(ns:List Int)(m k:Int)
noncomputable def lst?:Sl->Option Oc|.own _ ds=>some (.l ds)|.lent ds=>some (.l ds)|.gF m=>some (.d m)|.cY kvs=>some (.v kvs)|.pot _ ns m k=>some (.p ns m k)|_=>none
def iY(K:PySem.W.Frag)(F:Hp)(o:HO):Oc->Prop|.l ds=>∃xs,o=.lst xs/\aB K F xs ds|.d m=>o=m.ho|.v kvs=>∃vs,o=Ag (kvs.map (·.1)) vs/\aB K F vs (kvs.map (·.2))|.p ns m k=>(∃q,o=.pot q (ns.map V.int) [.int m,.int k])\/ns=[]/\∃v,o=.lst [v,.int m,.int k]/\Rep K F v (.lst [])
theorem iY.mono{o:HO}{x:Oc}(e:aF F F')(h:iY K F o x):iY K F' o x:=by cases x with|l ds=>obtain⟨xs,a,h⟩:=h;exact⟨xs,a,h.mono e⟩|d m=>exact h|v kvs=>obtain⟨xs,a,h⟩:=h;exact⟨xs,a,h.mono e⟩|p ns m k=>exact h.imp id λ⟨a,v,b,h⟩=>⟨a,v,b,h.mono e⟩
def aM(ρ:List Sl)(σ:St)(i:Nat)(a:Addr):Prop:=(∃s ds,ρ[i]?=some s/\lst? s=some ds)/\σ[i]?=some (some (V.ref a))
def Own(ρ:List Sl)(σ:St)(a:Addr):Prop:=∃i,aM ρ σ i a
structure GS(K:PySem.W.Frag)(F:Hp)(ρ:List Sl)(σ:St)(H:Hp):Prop where
 sub:aF F H
 len:ρ.length=σ.length
 val:∀(i:Nat)(b:Bool)(d:D),ρ[i]?=some (Sl.val b d)->∃v:V,σ[i]?=some (some v)/\Rep K F v d
 own:∀(i:Nat)(s:Sl)(ds:Oc),ρ[i]?=some s->lst? s=some ds->∃(a:Addr)(xs:HO),σ[i]?=some (some (V.ref a))/\H a=some xs/\F a=none/\iY K F xs ds
 dis:∀(i j:Nat)(a:Addr),aM ρ σ i a->aM ρ σ j a->i=j
theorem GS.qJ(g:GS K F ρ σ H)(i:Nat)(s:Sl)(ds:List D)(e:ρ[i]?=some s)(b:lst? s=some (.l ds)):∃(a:Addr)(xs:List V),σ[i]?=some (some (V.ref a))/\H a=some (.lst xs)/\F a=none/\aB K F xs ds:=by obtain⟨a,o,h1,c,f,xs,rfl,h⟩:=g.own i s (.l ds) e b;exact⟨a,xs,h1,c,f,h⟩
noncomputable def rO:Sl->Bool|.val b _=>b|.own b _=>b|.lent _=>true|.aL=>false|.gF _=>false|.cY _=>false|.hold _=>true|.pot b _ _ _=>b
def lz:Sl->Sl->Prop|.val true d,s=>s=.val true d|.own true _,s=>(∃ds,s=.own true ds)\/∃d,s=.val true d|.lent ds,s=>s=.lent ds|.hold ds,s=>s=.hold ds|.pot true _ _ _,s=>∃ns m k,s=.pot true ns m k|_,_=>True
theorem lz.refl(s:Sl):lz s s:=by unfold lz;split<;>first|rfl|exact .inl ⟨_,rfl⟩|exact⟨_,_,_,rfl⟩|trivial
theorem lz.rO{s a:Sl}(h:lz s a)(l:rO s=true):HH.rO a=true:=by cases s with
 |aL=>cases l|gF _=>cases l|cY _=>cases l|val b d=>cases b with|true=>cases h;rfl|false=>cases l
 |own b d=>cases b with|true=>rcases h with⟨_,rfl⟩|⟨_,rfl⟩<;>rfl|false=>cases l
 |lent d=>cases h;rfl|hold d=>cases h;rfl|pot b ns m k=>cases b with|true=>obtain⟨_,_,_,rfl⟩:=h;rfl|false=>cases l
theorem lz.trans{s c a:Sl}(l:HH.rO s=true)(h:lz s c)(h':lz c a):lz s a:=by cases s with
 |aL=>cases l|gF _=>cases l|cY _=>cases l|val b d=>cases b with|true=>cases h;exact h'|false=>cases l
 |own b d=>cases b with
   | true => rcases h with⟨_,rfl⟩|⟨d,rfl⟩;.exact h'
             .exact .inr ⟨d,h'⟩|false=>cases l
 |lent d=>cases h;exact h'|hold d=>cases h;exact h'|pot b ns m k=>cases b with|true=>obtain⟨_,_,_,rfl⟩:=h;exact h'|false=>cases l
noncomputable def nt:Option HO->Option HO|some (.tup _)=>none|o=>o
theorem jC{o:Option HO}(h:o=none):nt o=none:=by rw[h];rfl
theorem Hd{H:Hp}{b:Addr}{xs:List V}(h:H b=some (.lst xs))(z:nt (H b)=none):False:=by rw[h]at z;cases z
theorem xN{o:HO}{x:Oc}(h:iY K F o x)(z:nt (some o)=none):False:=by cases x with|l ds=>obtain⟨xs,rfl,_⟩:=h;cases z|d m=>cases m<;>(cases(show o=_ from h);cases z)|v kvs=>obtain⟨xs,rfl,_⟩:=h;cases z|p ns m k=>rcases h with⟨q,rfl⟩|⟨_,v,rfl,_⟩<;>cases z
structure au(K:PySem.W.Frag)(F:Hp)(ρ:List Sl)(σ:St)(H:Hp)(F':Hp)(ρ':List Sl)(σ':St)(H':Hp):Prop where
 gs:GS K F' ρ' σ' H'
 cV:aF F F'
 uU:∀b,F b=none->F' b≠none->Own ρ σ b\/nt (H b)=none
 keep:∀b o,H b=some o->¬ Own ρ σ b->H' b=some o
 uV:∀b,Own ρ' σ' b->Own ρ σ b\/H b=none
 len:ρ'.length=ρ.length
 lk:∀(i:Nat)(s:Sl),ρ[i]?=some s->rO s=true->σ'[i]?=σ[i]?/\∃s',ρ'[i]?=some s'/\lz s s'
theorem au.refl{ρ:List Sl}{σ:St}(g:GS K F ρ σ H):au K F ρ σ H F ρ σ H:=⟨g,aF.refl _,λb h h'=>absurd h h',λ_ _ h _=>h,λ_ h=>.inl h,rfl,λi s h _=>⟨rfl,s,h,.refl s⟩⟩
theorem au.trans{F1 p m r:Hp}{ρ f j:List Sl}{σ g k:St}(a:au K F ρ σ H F1 f g m)(b:au K F1 f g m p j k r):au K F ρ σ H p j k r:=by
 have back:∀c,Own f g c\/m c=none->Own ρ σ c\/H c=none:=λc h=>by
  rcases h with h|h;.exact a.uV c h
  . by_cases ho:Own ρ σ c;.exact .inl ho
    .right;cases e:H c with|none=>rfl|some o=>rw[a.keep c o e ho]at h;cases h
 refine⟨b.gs,a.cV.trans b.cV,λc h h'=>?_,λc o h n=>?_,λc h=>back c (b.uV c h),b.len.trans a.len,λi s h l=>?_⟩
 . by_cases e:F1 c=none
   . by_cases ho:Own ρ σ c;.exact .inl ho
     . rcases b.uU c e h' with z|z;.exact(back c (.inl z)).imp id jC
       .right;cases q:H c with|none=>rfl|some o=>rw[a.keep c o q ho]at z;exact z
   .exact a.uU c h e
 . refine b.keep c o (a.keep c o h n) λh'=>?_;rcases a.uV c h' with h'|h';.exact n h'
   .rw[h]at h';cases h'
 .obtain⟨u,s1,h1,t⟩:=a.lk i s h l;obtain⟨w,s2,x,y⟩:=b.lk i s1 h1 (t.rO l);exact⟨w.trans u,s2,x,.trans l t y⟩
def cU(K:PySem.W.Frag)(F H:Hp)(v:V)(d:D):Prop:=Rep K F v d\/∃a xs ds,v=.ref a/\H a=some (.lst xs)/\aB K F xs ds/\d=.lst ds
def cH(K:PySem.W.Frag)(F':Hp)(b:List Sl)(c:St)(H':Hp)(ρ:List Sl)(σ:St)(H:Hp)(v:V):R->Prop|.val d=>Rep K F' v d|.own ds=>∃a xs,v=.ref a/\H' a=some (.lst xs)/\F' a=none/\aB K F' xs ds/\¬ Own b c a/\(Own ρ σ a\/H a=none)
theorem aF.cg{F:Hp}{a:Addr}{o:HO}(h:F a=none):aF F (upd F a o):=λb u e=>by
 have:b≠a:=by rintro rfl;rw[h]at e;cases e
 rw[ao this];exact e
theorem au.cO{c:List Sl}{f:St}{r:R}(s:au K F ρ σ H F' c f H')(h:cH K F' c f H' ρ σ H v r):∃g,au K F ρ σ H g c f H'/\aF F' g/\Rep K g v r.d:=by cases r with|val d=>exact⟨F',s,.refl _,h⟩|own ds=>
   obtain⟨a,xs,rfl,h1,t,u,w,x⟩:=h;have sm:aF F' (upd F' a (.lst xs)):=aF.cg t;refine⟨upd F' a (.lst xs),⟨⟨λb o e=>?_,s.gs.len,λi b d e=>?_,λi sl k e p=>?_,s.gs.dis⟩,s.cV.trans sm,λb n q=>?_,s.keep,s.uV,s.len,s.lk⟩,sm,?_⟩
   . by_cases j:b=a;.subst j;rw[aA]at e;cases e;exact h1
     .rw[ao j]at e;exact s.gs.sub b o e
   .obtain⟨v,l,m⟩:=s.gs.val i b d e;exact⟨v,l,m.mono sm⟩
   . obtain⟨b,ys,l,m,y,z⟩:=s.gs.own i sl k e p;have j:b≠a:=by rintro rfl;exact w ⟨i,⟨sl,k,e,p⟩,l⟩
     exact⟨b,ys,l,m,by rw[ao j];exact y,z.mono sm⟩
   . by_cases j:b=a;.subst j;exact x.imp id jC
     .rw[ao j]at q;exact s.uU b n q
   .show Rep K _ _ (.lst ds);rw[Rep];exact⟨a,xs,rfl,eG.of aA,u.mono sm⟩
theorem GS.pk{ρ:List Sl}{σ:St}{i:Nat}{d:D}(g:GS K F ρ σ H)(e:HH.pk ρ i=some d):∃v:V,σ[i]?=some (some v)/\cU K F H v d:=by
 unfold HH.pk at e;split at e;.rename_i b d' h;cases e;obtain⟨v,h1,c⟩:=g.val i b d h;exact⟨v,h1,.inl c⟩
 .rename_i b ds h;cases e;obtain⟨a,xs,h1,c,j,f⟩:=g.qJ i _ ds h rfl;exact⟨.ref a,h1,.inr ⟨a,xs,ds,rfl,c,f,rfl⟩⟩
 .rename_i ds h;cases e;obtain⟨a,xs,h1,c,j,f⟩:=g.qJ i _ ds h rfl;exact⟨.ref a,h1,.inr ⟨a,xs,ds,rfl,c,f,rfl⟩⟩
 .cases e
structure Ext(F H F' H':Hp):Prop where
 hs:aF H H'
 fs:aF F F'
 sub:aF F' H'
 gr:∀b,F b=none->F' b≠none->nt (H b)=none
theorem Ext.refl(h:aF F H):Ext F H F H:=⟨.refl _,.refl _,h,λ_ a b=>absurd a b⟩
theorem Ext.stp(g:GS K F ρ σ H)(e:Ext F H F' H'):au K F ρ σ H F' ρ σ H':=by
 refine⟨⟨e.sub,g.len,λi b d h=>?_,λi s ds h h'=>?_,g.dis⟩,e.fs,λb n j=>.inr (e.gr b n j),λb o h _=>e.hs b o h,λ_ h=>.inl h,rfl,λi s h _=>⟨rfl,s,h,.refl s⟩⟩;.obtain⟨v,h1,c⟩:=g.val i b d h;exact⟨v,h1,c.mono e.fs⟩
 .obtain⟨a,xs,h1,c,k,f⟩:=g.own i s ds h h';refine⟨a,xs,h1,e.hs _ _ c,?_,f.mono e.fs⟩;cases q:F' a with|none=>rfl|some o=>have:=e.gr a k (by rw[q];simp);rw[c]at this;exact(xN f this).elim
def bW(K:PySem.W.Frag)(F' H' H:Hp)(v:V):R->Prop|.val d=>Rep K F' v d|.own ds=>∃a xs,v=.ref a/\H' a=some (.lst xs)/\F' a=none/\aB K F' xs ds/\H a=none
theorem bW.nu{r:R}(g:GS K F ρ σ H)(h:bW K F' H' H v r):cH K F' ρ σ H' ρ σ H v r:=by cases r with|val d=>exact h|own ds=>obtain⟨a,xs,rfl,h1,l,m,f⟩:=h;refine⟨a,xs,rfl,h1,l,m,?_,.inr f⟩;rintro⟨i,⟨s,c,e,n⟩,o⟩;obtain⟨b,ys,j,k,_⟩:=g.own i s c e n;rw[o]at j;cases j;rw[f]at k;cases k
theorem cH.later{F1 j k l:Hp}{c f:List Sl}{g i:St}{r:R}(a:au K F ρ σ H F1 c g j)(h:cH K k f i l c g j v r):cH K k f i l ρ σ H v r:=by cases r with|val d=>exact h|own ds=>
   obtain⟨b,xs,rfl,h1,m,n,p,h5⟩:=h;refine⟨b,xs,rfl,h1,m,n,p,?_⟩;rcases h5 with h5|h5;.exact a.uV b h5
   . by_cases ho:Own ρ σ b;.exact .inl ho
     .right;cases e:H b with|none=>rfl|some o=>rw[a.keep b o e ho]at h5;cases h5
end
end HH
end
section
namespace HH
open PySem L2 PySem.Spec PyProof.Rows
variable{ρ' ρ ρ₀:List Sl}{es:List Expr}{K:PySem.W.Frag}{F H H₀:Hp}{σ:L2.St}{i n:Nat}{ds:List D}{x:Str}{v:V}{vs:List V}{op:CmpOp}{p':Pos}{as:List Arg}
theorem aa{c e:Type}{x:Res c}{f:c->List Sl->Res e}{b:e}(h:x.bind f=.ok b ρ'):∃a ρ,x=.ok a ρ/\f a ρ=.ok b ρ':=by cases x with|ok a ρ=>exact⟨a,ρ,rfl,h⟩|exc _ _=>cases h|stuck=>cases h
theorem aD{c:Type}{o:Option c}{a:c}(h:lift o ρ=.ok a ρ'):o=some a/\ρ=ρ':=by cases o with|none=>cases h|some b=>cases h;exact⟨rfl,rfl⟩
theorem map_some{c e:Type}{o:Option c}{f:c->e}{b:e}(h:o.map f=some b):∃a,o=some a/\f a=b:=by cases o with|none=>cases h|some a=>cases h;exact⟨a,rfl,rfl⟩
theorem cQ{c e:Type}{o:Option c}{f:c->Option e}{b:e}(h:o.bind f=some b):∃a,o=some a/\f a=some b:=by cases o with|none=>cases h|some a=>exact⟨a,rfl,h⟩
theorem aV{e:Type}{c:Prop}[Decidable c]{a b:e}(h:(if c then some a else none)=some b):c/\a=b:=by
 split at h;.rename_i hc;cases h;exact⟨hc,rfl⟩
 .cases h
section
variable{X:Cx}{c:Call}{e a b:Expr}{p pa pb:P}{pos:Pos}
theorem dX{t t':TE}(h:PE X e t)(i:∀σ H Q,t' σ H Q->t σ H Q):PE X e t':=λf s σ H Q I q=>h f s σ H Q I (i σ H Q q)
theorem v8{t t':TT}(h:PT X e t)(i:∀σ H Q,t' σ H Q->t σ H Q):PT X e t':=λf s σ H Q I q=>h f s σ H Q I (i σ H Q q)
theorem My{t t':TT}(h:PW X e t)(i:∀σ H Q,t' σ H Q->t σ H Q):PW X e t':=λwh f s σ H Q I q=>h wh f s σ H Q I (i σ H Q q)
theorem wA{t t':TA}(h:PA X es t)(i:∀σ H Q,t' σ H Q->t σ H Q):PA X es t':=λpos f s σ H Q I q=>h pos f s σ H Q I (i σ H Q q)
inductive wL(K:PySem.W.Frag)(f:Ev)(σ:L2.St)(H:Hp)(Q:VK):Prop where|mk(F:Hp)(ρ:List Sl)(r:R)(ρ':List Sl)(g:GS K F ρ σ H)(e:f ρ=.ok r ρ')(k:∀v F' H',au K F ρ σ H F' ρ' σ H'->cH K F' ρ' σ H' ρ σ H v r->Q v H')
inductive Fp(K:PySem.W.Frag)(f:List Sl->Res Bool)(σ:L2.St)(H:Hp)(Q:Bool->Hp->Prop):Prop where|mk(F:Hp)(ρ:List Sl)(b:Bool)(ρ':List Sl)(g:GS K F ρ σ H)(e:f ρ=.ok b ρ')(k:∀F' H',au K F ρ σ H F' ρ' σ H'->Q b H')
inductive acd(K:PySem.W.Frag)(f:List Sl->Res (List D))(σ:L2.St)(H:Hp)(Q:List V->Hp->Prop):Prop where|mk(F:Hp)(ρ:List Sl)(ds:List D)(ρ':List Sl)(g:GS K F ρ σ H)(e:f ρ=.ok ds ρ')(k:∀vs F' H',au K F ρ σ H F' ρ' σ H'->aB K F' vs ds->Q vs H')
structure SX(X:Cx)(c:Call)(e:Expr)(p:P):Prop where ev:PE X e (wL X.K (HH.ev c p))var:∀i,isVar p=some i->PE X e (jW i)
def SA(X:Cx)(c:Call)(es:List Expr)(ps:List P):Prop:=PA X es (acd X.K (evs c ps))/\ps.length=es.length
theorem SX.cG(h:SX X c e p):∃t,PE X e t/\∀{σ:L2.St}{H F:Hp}{ρ ρ':List Sl}{d:D}{Q:VK},GS X.K F ρ σ H->cG (isVar p) (HH.ev c p) ρ=.ok d ρ'->(∀v f H',au X.K F ρ σ H f ρ' σ H'->cU X.K f H' v d->Q v H')->t σ H Q:=by cases hv:isVar p with|none=>refine⟨_,h.ev,λ{σ H F ρ ρ' d Q}g e k=>?_⟩;obtain⟨r,o,j,l⟩:=aa e;cases l;refine⟨F,ρ,r,_,g,j,λv f H' s q=>?_⟩;obtain⟨m,u,_,w⟩:=s.cO q;exact k v m H' u (.inl w)|some i=>refine⟨_,h.var i hv,λ{σ H F ρ ρ' d Q}g e k=>?_⟩;obtain⟨j,l⟩:=aD e;subst l;obtain⟨v,h1,y⟩:=g.pk j;exact⟨v,h1,k v F H (.refl g) y⟩
theorem SX.iC(I:SX X c a pa)(M:SX X c b pb):∃J h,PE X a J/\PE X b h/\∀{σ:L2.St}{H F:Hp}{ρ ρ':List Sl}{j:D×D}{R:V->V->Hp->Prop},GS X.K F ρ σ H->iC (isVar pa) (HH.ev c pa) (isVar pb) (HH.ev c pb) ρ=.ok j ρ'->(∀v u t H',au X.K F ρ σ H t ρ' σ H'->cU X.K t H' v j.1->cU X.K t H' u j.2->R v u H')->J σ H λx w=>h σ w λy z=>R x y z:=by obtain⟨h,l,m⟩:=M.cG;cases hv:isVar pa with|none=>refine⟨_,h,I.ev,l,λ{σ H F ρ ρ' j R}g e k=>?_⟩;obtain⟨x,A,o,e⟩:=aa e;obtain⟨y,B,f,e⟩:=aa e;cases e;obtain⟨r,L,o,C⟩:=aa o;cases C;refine⟨F,ρ,r,_,g,o,λv t H' s N=>?_⟩;obtain⟨F1,s1,_,O⟩:=s.cO N;refine m s1.gs f λu Q z s2 E=>?_;exact k v u Q z (s1.trans s2) (.inl (O.mono s2.cV)) E|some i=>refine⟨_,h,I.var i hv,l,λ{σ H F ρ ρ' j R}g e k=>?_⟩;obtain⟨x0,U,C,e⟩:=aa e;obtain⟨G,W⟩:=aD C;subst W;obtain⟨y,A,o,e⟩:=aa e;obtain⟨x,B,f,e⟩:=aa e;cases e;have Y:=aD f;clear f;obtain⟨f,Z⟩:=Y;subst Z;obtain⟨v,h1,_⟩:=g.pk G;refine⟨v,h1,m g o λu F1 w s1 E=>?_⟩;obtain⟨v',q,pv⟩:=s1.gs.pk f;rw[h1]at q;cases q;exact k v u F1 w s1 pv E
inductive rD(K:PySem.W.Frag)(f:D->D->Option R)(x y:V)(H:Hp)(Q:VK):Prop where|mk(F:Hp)(d e:D)(r:R)(sm:aF F H)(px:cU K F H x d)(py:cU K F H y e)(he:f d e=some r)(k:∀v F' H',Ext F H F' H'->bW K F' H' H v r->Q v H')
inductive rD1(K:PySem.W.Frag)(f:D->Option R)(x:V)(H:Hp)(Q:VK):Prop where|mk(F:Hp)(d:D)(r:R)(sm:aF F H)(px:cU K F H x d)(he:f d=some r)(k:∀v F' H',Ext F H F' H'->bW K F' H' H v r->Q v H')
theorem uz{E:Expr}{f:D->D->Option R}{q:P}(t:∀{m o},PE X a m->PE X b o->PE X E (yl (rD X.K f) m o))(y:SX X c a pa)(z:SX X c b pb)(A:∀ρ,HH.ev c q ρ=(HH.iC (isVar pa) (HH.ev c pa) (isVar pb) (HH.ev c pb) ρ).bind λj ρ=>lift (f j.1 j.2) ρ)(B:isVar q=none):SX X c E q:=by obtain⟨m,o,h1,C,G⟩:=y.iC z;refine⟨dX (t h1 C) ?_,λi h=>by rw[B]at h;cases h⟩;rintro σ H Q⟨F,ρ,r,ρ',g,e,k⟩;rw[A]at e;obtain⟨j,I,J,l⟩:=aa e;have L:=aD l;clear l;obtain⟨l,M⟩:=L;subst M;refine G g J λv u N H' s O U=>⟨N,j.1,j.2,r,s.gs.sub,O,U,l,λw W Y x Z=>?_⟩;exact k w W Y (s.trans (x.stp s.gs)) (.later s (Z.nu s.gs))
theorem Rg{E:Expr}{f:D->Option R}{q:P}(m:∀{l},PE X a l->PE X E (tUn (rD1 X.K f) l))(o:SX X c a pa)(t:∀ρ,HH.ev c q ρ=(HH.cG (isVar pa) (HH.ev c pa) ρ).bind λx ρ=>lift (f x) ρ)(u:isVar q=none):SX X c E q:=by obtain⟨l,h1,y⟩:=o.cG;refine⟨dX (m h1) ?_,λi h=>by rw[u]at h;cases h⟩;rintro σ H Q⟨F,ρ,r,ρ',g,e,k⟩;rw[t]at e;obtain⟨x,z,A,j⟩:=aa e;have B:=aD j;clear j;obtain⟨j,C⟩:=B;subst C;refine y g A λv G H' s I=>⟨G,x,r,s.gs.sub,I,j,λw J L x M=>?_⟩;exact k w J L (s.trans (x.stp s.gs)) (.later s (M.nu s.gs))
theorem GS.freeze{b:Bool}(g:GS K F ρ σ H)(e:ρ[i]?=some (.own b ds)):∃v A,σ[i]?=some (some v)/\au K F ρ σ H A (ρ.set i (.val b (.lst ds))) σ H/\Rep K A v (.lst ds):=by
 obtain⟨a,xs,h1,E,G,I⟩:=g.qJ i _ ds e rfl;have y:i<ρ.length:=(eN e).1;have sm:aF F (upd F a (.lst xs)):=aF.cg G;have B:Rep K (upd F a (.lst xs)) (.ref a) (.lst ds):=by rw[Rep];exact⟨a,xs,rfl,eG.of aA,I.mono sm⟩
 have J:Own ρ σ a:=⟨i,⟨_,_,e,rfl⟩,h1⟩;have r:∀j x,aM (ρ.set i (.val b (.lst ds))) σ j x->aM ρ σ j x/\j≠i:=λj x⟨⟨s,h,m,u⟩,z⟩=>by
  by_cases f:j=i;.subst f;rw[getElem?_set_self y]at m;cases m;cases u
  .rw[dB f]at m;exact⟨⟨⟨s,h,m,u⟩,z⟩,f⟩
 refine⟨.ref a,upd F a (.lst xs),h1,⟨⟨λx o q=>?_,by simpa using g.len,λj L d q=>?_,λj s h q w=>?_,λj k x q w=>g.dis j k x (r j x q).1 (r k x w).1⟩,sm,λx n C=>?_,λ_ _ q _=>q,λx⟨j,q⟩=>.inl ⟨j,(r j x q).1⟩,by simp,λj s q l=>⟨rfl,?_⟩⟩,B⟩
 . by_cases t:x=a;.subst t;rw[aA]at q;cases q;exact E
   .rw[ao t]at q;exact g.sub x o q
 . by_cases f:j=i;.subst f;rw[getElem?_set_self y]at q;cases q;exact⟨_,h1,B⟩
   .rw[dB f]at q;obtain⟨v,m,u⟩:=g.val j L d q;exact⟨v,m,u.mono sm⟩
 . by_cases f:j=i;.subst f;rw[getElem?_set_self y]at q;cases q;cases w
   . rw[dB f]at q;obtain⟨x,ys,m,u,z,M⟩:=g.own j s h q w;have t:x≠a:=by rintro rfl;exact f (g.dis j i x ⟨⟨s,h,q,w⟩,m⟩ ⟨⟨_,_,e,rfl⟩,h1⟩)
     exact⟨x,ys,m,u,by rw[ao t];exact z,M.mono sm⟩
 . by_cases t:x=a;.subst t;exact .inl J
   .rw[ao t]at C;exact absurd n C
 . by_cases f:j=i;.subst f;rw[e]at q;cases q;refine⟨_,getElem?_set_self y,?_⟩;cases b with|true=>exact .inr ⟨_,rfl⟩|false=>cases l
   .exact⟨s,by rw[dB f];exact q,.refl s⟩
theorem GS.Af{m:Dc}(g:GS K F ρ σ H)(e:ρ[i]?=some (.gF m)):∃a,σ[i]?=some (some (.ref a))/\H a=some m.ho/\∀u,au K F ρ σ H (upd F a (.cO u m.ho)) (ρ.set i (.val false (.dq m))) σ (upd H a (.cO u m.ho))/\Rep K (upd F a (.cO u m.ho)) (.ref a) (.dq m):=by
 obtain⟨a,I,h1,J,L,M⟩:=g.own i _ _ e rfl;cases(show I=m.ho from M);have A:i<ρ.length:=(eN e).1;refine⟨a,h1,J,λu=>?_⟩;have sm:aF F (upd F a (.cO u m.ho)):=aF.cg L;have C:Rep K (upd F a (.cO u m.ho)) (.ref a) (.dq m):=by rw[Rep];exact⟨a,u,rfl,aA⟩
 have E:Own ρ σ a:=⟨i,⟨_,_,e,rfl⟩,h1⟩;have w:∀j x,aM (ρ.set i (.val false (.dq m))) σ j x->aM ρ σ j x/\j≠i:=λj x⟨⟨s,r,t,y⟩,B⟩=>by
  by_cases f:j=i;.subst f;rw[getElem?_set_self A]at t;cases t;cases y
  .rw[dB f]at t;exact⟨⟨⟨s,r,t,y⟩,B⟩,f⟩
 refine⟨⟨⟨λx o q=>?_,by simpa using g.len,λj N d q=>?_,λj s r q z=>?_,λj k x q z=>g.dis j k x (w j x q).1 (w k x z).1⟩,sm,λx n G=>?_,λx o q n=>?_,λx⟨j,q⟩=>.inl ⟨j,(w j x q).1⟩,by simp,λj s q l=>⟨rfl,?_⟩⟩,C⟩
 . by_cases h:x=a;.subst h;rw[aA]at q ⊢;exact q
   .rw[ao h]at q ⊢;exact g.sub x o q
 . by_cases f:j=i;.subst f;rw[getElem?_set_self A]at q;cases q;exact⟨_,h1,C⟩
   .rw[dB f]at q;obtain⟨v,t,y⟩:=g.val j N d q;exact⟨v,t,y.mono sm⟩
 . by_cases f:j=i;.subst f;rw[getElem?_set_self A]at q;cases q;cases z
   . rw[dB f]at q;obtain⟨x,ys,t,y,B,O⟩:=g.own j s r q z;have h:x≠a:=by rintro rfl;exact f (g.dis j i x ⟨⟨s,r,q,z⟩,t⟩ ⟨⟨_,_,e,rfl⟩,h1⟩)
     exact⟨x,ys,t,by rw[ao h];exact y,by rw[ao h];exact B,O.mono sm⟩
 . by_cases h:x=a;.subst h;exact .inl E
   .rw[ao h]at G;exact absurd n G
 . have h:x≠a:=by rintro rfl;exact n E
   rw[ao h];exact q
 . by_cases f:j=i;.subst f;rw[e]at q;cases q;cases l
   .exact⟨s,by rw[dB f];exact q,.refl s⟩
theorem GS.Ar{kvs:List (Int×D)}(g:GS K F ρ σ H)(e:ρ[i]?=some (.cY kvs)):∃a vs,σ[i]?=some (some (.ref a))/\H a=some (Ag (kvs.map (·.1)) vs)/\∀t,au K F ρ σ H (upd F a (.cO t (Ag (kvs.map (·.1)) vs))) (ρ.set i (.val false (.dv (kvs.map (·.1)) (kvs.map (·.2))))) σ (upd H a (.cO t (Ag (kvs.map (·.1)) vs)))/\Rep K (upd F a (.cO t (Ag (kvs.map (·.1)) vs))) (.ref a) (.dv (kvs.map (·.1)) (kvs.map (·.2))):=by
 obtain⟨a,O,h1,G,I,J⟩:=g.own i _ _ e rfl;obtain⟨vs,rfl,L⟩:=J;have z:i<ρ.length:=(eN e).1;refine⟨a,vs,h1,G,λt=>?_⟩;have sm:aF F (upd F a (.cO t (Ag (kvs.map (·.1)) vs))):=aF.cg I;have B:Rep K (upd F a (.cO t (Ag (kvs.map (·.1)) vs))) (.ref a) (.dv (kvs.map (·.1)) (kvs.map (·.2))):=by rw[Rep];exact⟨a,t,vs,rfl,aA,L.mono sm,by simp⟩
 have C:Own ρ σ a:=⟨i,⟨_,_,e,rfl⟩,h1⟩;have u:∀j x,aM (ρ.set i (.val false (.dv (kvs.map (·.1)) (kvs.map (·.2))))) σ j x->aM ρ σ j x/\j≠i:=λj x⟨⟨s,m,r,w⟩,A⟩=>by
  by_cases f:j=i;.subst f;rw[getElem?_set_self z]at r;cases r;cases w
  .rw[dB f]at r;exact⟨⟨⟨s,m,r,w⟩,A⟩,f⟩
 refine⟨⟨⟨λx o q=>?_,by simpa using g.len,λj M d q=>?_,λj s m q y=>?_,λj k x q y=>g.dis j k x (u j x q).1 (u k x y).1⟩,sm,λx n E=>?_,λx o q n=>?_,λx⟨j,q⟩=>.inl ⟨j,(u j x q).1⟩,by simp,λj s q l=>⟨rfl,?_⟩⟩,B⟩
 . by_cases h:x=a;.subst h;rw[aA]at q ⊢;exact q
   .rw[ao h]at q ⊢;exact g.sub x o q
 . by_cases f:j=i;.subst f;rw[getElem?_set_self z]at q;cases q;exact⟨_,h1,B⟩
   .rw[dB f]at q;obtain⟨v,r,w⟩:=g.val j M d q;exact⟨v,r,w.mono sm⟩
 . by_cases f:j=i;.subst f;rw[getElem?_set_self z]at q;cases q;cases y
   . rw[dB f]at q;obtain⟨x,ys,r,w,A,N⟩:=g.own j s m q y;have h:x≠a:=by rintro rfl;exact f (g.dis j i x ⟨⟨s,m,q,y⟩,r⟩ ⟨⟨_,_,e,rfl⟩,h1⟩)
     exact⟨x,ys,r,by rw[ao h];exact w,by rw[ao h];exact A,N.mono sm⟩
 . by_cases h:x=a;.subst h;exact .inl C
   .rw[ao h]at E;exact absurd n E
 . have h:x≠a:=by rintro rfl;exact n C
   rw[ao h];exact q
 . by_cases f:j=i;.subst f;rw[e]at q;cases q;cases l
   .exact⟨s,by rw[dB f];exact q,.refl s⟩
theorem Inv.Eh{X:Cx}{f:List (Addr×Obj)}{s:Shared}{a:Addr}{kvs:List (Key×V)}(I:L2.Inv X f σ H s)(h:H a=some (.dK kvs)):∃o,L2.Inv X f σ (upd H a (.cO o (.dK kvs))) s:=by obtain⟨hz,j,vs,r,g⟩:=(show aY X.prog X.w H s.heap a (.dK kvs)from I.hok a _ h);obtain⟨o,ho,_⟩:=g.typeIs;exact⟨o,I.write (h':=s.heap) (t':=s.toks) (by rw[h];exact trivial) (.inl rfl) (λb u _ e=>e) ⟨o,ho⟩ ⟨ho,hz,j,vs,r,g⟩⟩
theorem Q7(y:X.N[i]?=some x)(z:vC X.env.scope x)(hd:(x==("__debug__":Str))=false:=by decide)(t:(x==("__classdict__":Str))=false:=by decide):SX X c (.Name x pos) (.var i):=by
 have h:=aP (X:=X) (pos:=pos) y z hd t;refine⟨?_,λj A=>by cases A;exact h⟩;rintro f s σ H Q I⟨F,ρ,r,ρ',g,e,k⟩;rw[HH.E1]at e;split at e;.rename_i b d q;cases e;obtain⟨v,h1,l⟩:=g.val i b d q;exact h f s σ H Q I ⟨v,h1,k v F H (.refl g) l⟩
 .rename_i b ds q;cases e;obtain⟨v,B,h1,l,m⟩:=g.freeze q;exact h f s σ H Q I ⟨v,h1,k v B H l m⟩
 .rename_i kvs q;cases e;obtain⟨a,h1,l,m⟩:=g.Af q;refine bU (h f s σ H (λv H'=>v=.ref a/\H'=H) I ⟨.ref a,h1,rfl,rfl⟩) λu s1⟨v,H1,I1,r1,e1,e2⟩=>?_;subst e1 e2;obtain⟨o,w⟩:=Inv.Eh I1 l;exact⟨.ref a,_,w,r1,k _ _ _ (m o).1 (m o).2⟩
 .rename_i kvs q;cases e;obtain⟨a,vs,h1,l,m⟩:=g.Ar q;refine bU (h f s σ H (λv H'=>v=.ref a/\H'=H) I ⟨.ref a,h1,rfl,rfl⟩) λu s1⟨v,H1,I1,r1,e1,e2⟩=>?_;subst e1 e2;obtain⟨o,w⟩:=Inv.Eh I1 l;exact⟨.ref a,_,w,r1,k _ _ _ (m o).1 (m o).2⟩
 .cases e
theorem xn{d:D}(h:PE X e (tC v))(hr:∀F,Rep X.K F v d):SX X c e (.con d):=⟨dX h λσ H Q⟨F,ρ,r,ρ',g,e,k⟩=>by rw[HH.E2]at e;cases e;exact k v F H (.refl g) (hr F),λi h=>by cases h⟩
theorem ak{i j}:SX X c (.Constant (.int i) j pos) (.con (.int i)):=xn aW λF=>by rw[Rep]
theorem fM{i j}:SX X c (.Constant (.bool i) j pos) (.con (.bl i)):=xn W6 λF=>by rw[Rep]
theorem mz{j}:SX X c (.Constant .none j pos) (.con .non):=xn Q3 λF=>by rw[Rep]
theorem cU.int{K:PySem.W.Frag}{F H:Hp}{v:V}{i:Int}(h:cU K F H v (.int i)):v=.int i:=by
 rcases h with h|⟨_,_,_,_,_,_,h⟩;.rw[Rep]at h;exact h
 .cases h
theorem cU.bl{K:PySem.W.Frag}{F H:Hp}{v:V}{i:Bool}(h:cU K F H v (.bl i)):v=.bl i:=by
 rcases h with h|⟨_,_,_,_,_,_,h⟩;.rw[Rep]at h;exact h
 .cases h
theorem cU.str{K:PySem.W.Frag}{F H:Hp}{v:V}{i:Str}(h:cU K F H v (.str i)):v=.str i:=by
 rcases h with h|⟨_,_,_,_,_,_,h⟩;.rw[Rep]at h;exact h
 .cases h
theorem cU.non{K:PySem.W.Frag}{F H:Hp}{v:V}(h:cU K F H v .non):v=.non:=by
 rcases h with h|⟨_,_,_,_,_,_,h⟩;.rw[Rep]at h;exact h
 .cases h
theorem cU.tup{K:PySem.W.Frag}{F H:Hp}{v:V}{ds:List D}(s:aF F H)(h:cU K F H v (.tup ds)):∃a xs,v=.ref a/\jG K H a xs/\aB K F xs ds/\Rep K F v (.tup ds):=by
 rcases h with h|⟨_,_,_,_,_,_,h⟩;.have h':=h;rw[Rep]at h;obtain⟨a,xs,rfl,h1,f⟩:=h;exact⟨a,xs,rfl,aF.jc s h1,f,h'⟩
 .cases h
theorem cU.lst{K:PySem.W.Frag}{F H:Hp}{v:V}{ds:List D}(s:aF F H)(h:cU K F H v (.lst ds)):∃a xs,v=.ref a/\eG K H a xs/\aB K F xs ds:=by
 rcases h with h|⟨a,xs,es,h1,f,g,h⟩;.rw[Rep]at h;obtain⟨a,xs,rfl,h1,f⟩:=h;exact⟨a,xs,rfl,s.seq h1,f⟩
 .cases h;exact⟨a,xs,h1,eG.of f,g⟩
theorem cU.dq{m:Dc}(s:aF F H)(h:cU K F H v (.dq m)):∃a o,v=.ref a/\H a=some (.cO o m.ho):=by
 rcases h with h|⟨_,_,_,_,_,_,h⟩;.rw[Rep]at h;obtain⟨a,o,rfl,h⟩:=h;exact⟨a,o,rfl,s _ _ h⟩
 .cases h
theorem GX{X:Cx}{f:List (Addr×Obj)}{s:Shared}{a:Addr}{g:Obj}{m:Dc}(I:L2.Inv X f σ H s)(h:H a=some (.cO g m.ho)):∃o,s.heap.get? a=some o/\o.cls=.type "dict":=by have z:=(show aY X.prog X.w H s.heap a (.cO g m.ho)from I.hok a _ h).2;cases m with|k kvs=>obtain⟨_,_,vs,_,d2⟩:=(show aY X.prog X.w H s.heap a (.dK _)from z);exact d2.typeIs|t kvs=>obtain⟨_,_,xs,_,o,es,ep,h1,j,_⟩:=(show aY X.prog X.w H s.heap a (.dT _)from z);exact⟨o,h1,j.1⟩
theorem cU.dv{ks:List Int}(s:aF F H)(h:cU K F H v (.dv ks ds)):∃a o vs,v=.ref a/\H a=some (.cO o (Ag ks vs))/\aB K F vs ds/\ks.length=ds.length:=by
 rcases h with h|⟨_,_,_,_,_,_,h⟩;.rw[Rep]at h;obtain⟨a,o,vs,rfl,h,h1,f⟩:=h;exact⟨a,o,vs,rfl,s _ _ h,h1,f⟩
 .cases h
theorem Em{X:Cx}{f:List (Addr×Obj)}{s:Shared}{a:Addr}{g:Obj}{ks:List Int}(I:L2.Inv X f σ H s)(h:H a=some (.cO g (Ag ks vs))):∃o,s.heap.get? a=some o/\o.cls=.type "dict":=by have z:=(show aY X.prog X.w H s.heap a (.cO g (Ag ks vs))from I.hok a _ h).2;obtain⟨_,_,vs,_,d2⟩:=(show aY X.prog X.w H s.heap a (.dK _)from z);exact d2.typeIs
theorem cU.items{d:D}(s:aF F H)(h:cU K F H v d)(e:items d=some ds):∃a xs,v=.ref a/\(eG K H a xs\/jG K H a xs)/\aB K F xs ds:=by cases d with|tup es=>cases e;obtain⟨a,xs,h1,f,g,_⟩:=h.tup s;exact⟨a,xs,h1,.inr f,g⟩|lst es=>cases e;obtain⟨a,xs,h1,f,g⟩:=h.lst s;exact⟨a,xs,h1,.inl f,g⟩|_=>cases e
theorem bW.cM{Q:VK}{d:D}(s:aF F H)(r:Rep K F v d)(k:∀v f H',Ext F H f H'->bW K f H' H v (.val d)->Q v H'):Q v H:=k v F H (.refl s) r
theorem bT(i:Int):Rep K F (.int i) (.int i):=by rw[Rep]
theorem fP(i:Bool):Rep K F (.bl i) (.bl i):=by rw[Rep]
theorem Qi(i:Str):Rep K F (.str i) (.str i):=by rw[Rep]
theorem Sw:Rep K F .non .non:=by rw[Rep]
theorem yc{Q:VK}{xs:List V}{p:Addr}(s:aF F H)(r:aB K F xs ds)(f:H p=none)(k:∀v g H',Ext F H g H'->bW K g H' H v (.own ds)->Q v H'):Q (.ref p) (upd H p (.lst xs)):=by
 have h:F p=none:=by cases q:F p with|none=>rfl|some o=>rw[s p o q]at f;cases f
 exact k _ F _ ⟨aF.cg f,.refl _,s.trans (aF.cg f),λ_ a b=>absurd a b⟩ ⟨p,xs,rfl,aA,h,r,f⟩
theorem By{Q:VK}{xs:List V}{p:Addr}(s:aF F H)(r:aB K F xs ds)(g:H p=none)(k:∀v h H',Ext F H h H'->bW K h H' H v (.val (.tup ds))->Q v H'):Q (.ref p) (upd H p (.tup xs)):=by
 have l:F p=none:=by cases q:F p with|none=>rfl|some o=>rw[s p o q]at g;cases g
 have sm:aF F (upd F p (.tup xs)):=aF.cg l;refine k _ (upd F p (.tup xs)) _ ⟨aF.cg g,sm,λb o e=>?_,λb n j=>?_⟩ ?_
 . by_cases f:b=p;.subst f;rw[aA]at e ⊢;exact e
   .rw[ao f]at e ⊢;exact s b o e
 . by_cases f:b=p;.subst f;exact jC g
   .rw[ao f]at j;exact absurd n j
 .show Rep K _ _ (.tup ds);rw[Rep];exact⟨p,xs,rfl,jG.of aA,r.mono sm⟩
end
theorem qG(k:Int)(t:Tok)(l:Addr)(a:Array Value)(n:Nat)(b:Option Addr)(sl:Array (Option Value)):Meets (Builtin.«int.__rmul__» ⟨[.int k t,.ref l],[]⟩) (λ_ R s=>s.heap.get? l=some ⟨.type "list",b,.seq a n,sl⟩/\R (.ok (.ret Value.notImplemented)) s):=.of_wp λprog w A R s h=>by obtain⟨c,g,d,e,os⟩:=s;obtain⟨f,h⟩:=h;wp_walk;exact⟨_,rfl,h⟩
theorem Cj(l:Addr)(a:Array Value)(n:Nat)(b:Option Addr)(sl:Array (Option Value))(k:Int)(t:Tok)(h0:¬(!Builtin.List.listFitsIndex k)=true)(h1:¬a.size*k.toNat>(2^63-1)/8)(c:¬listTooLong (a.size*k.toNat)=true):Meets (Builtin.«list.__mul__» ⟨[.ref l,.int k t],[]⟩) (λ_ R s=>s.heap.get? l=some ⟨.type "list",b,.seq a n,sl⟩/\R (.ok (.ret (Value.ref s.heap.objs.size))) {s with heap:=s.heap.push {cls:=.type "list",data:=.seq (foldl (·++·) #[] (replicate (if a.isEmpty=true then 0 else k.toNat) a))}}):=.of_wp λprog w A R s h=>by obtain⟨f,g,d,j,os⟩:=s;obtain⟨e,h⟩:=h;have hz:=AutoListH.joined_fits c;wp_walk using wpAny_loadPart' e;refine wpAny_ite_false (decide_eq_false (Nat.not_lt.mpr hz)) ?_;wp_walk;exact⟨_,rfl,h⟩
section
variable{X:Cx}{c:Call}{e a b d:Expr}{p pa pb pd:P}{pos:Pos}
theorem Iw:eU X (binaryOp .Add) (λx y H Q=>∃l b xs o,x=.ref l/\y=.ref b/\eG X.K H l xs/\eG X.K H b o/\xs.length+o.length<=sizeLine/\∀p,H p=none->Q (.ref p) (upd H p (.lst (xs++o)))):=by
 intro A s σ H x y v u Q I E G h;obtain⟨l,b,xs,o,rfl,rfl,J,L,hz,q⟩:=h;cases E;cases G;obtain⟨g,r,pl,_⟩:=I.list J;obtain⟨f,B,t,_⟩:=I.list L;obtain⟨⟨cls,M,data,sl⟩,ho,hc,n,hd⟩:=id pl.isList;obtain⟨⟨C,w,data2,z⟩,j,k,N,m⟩:=id t.isList;simp only at hc hd k m;subst hc hd k m;have e:g.toArray++f.toArray=(g++f).toArray:=by simp
 refine concat_meets ⟨_,ho,rfl⟩ ⟨_,j,rfl⟩ noFill_list_add seq_list_add PySem.F.slot_list_add PySem.F.entry_list_add (PySem.F.args_list_add_2 _ _) (list_addW l b g.toArray f.toArray n N M w sl z (by simp only[size_toArray];rw[<-r.length,<-B.length];exact hz)) ⟨ho,j,?_⟩;rw[e];exact⟨.ref _,_,I.QJ (t':=s.toks) (r.append B) (by rw[length_append];exact hz),rfl,q _ I.fresh⟩
theorem Du:eU X (binaryOp .Add) (λx y H Q=>∃a b ys,x=.ref a/\y=.ref b/\jG X.K H a []/\jG X.K H b ys/\Q (.ref b) H):=by intro r s σ H x y v u Q I w z h;obtain⟨a,b,ys,rfl,rfl,A,B,q⟩:=h;cases w;cases z;obtain⟨l,r1,C,_⟩:=I.tuple A;obtain⟨f,M,E,_⟩:=I.tuple B;obtain⟨⟨cls,G,data,sl⟩,ho,hc,n,hd⟩:=id C;obtain⟨⟨t,m,data2,o⟩,g,j,J,k⟩:=id E;simp only at hc hd j k;subst hc hd j k;have L:l=[]:=r1.nY.mpr rfl;subst L;exact concat_meets ⟨_,ho,rfl⟩ ⟨_,g,rfl⟩ noFill_tuple_add seq_tuple_add slot_tuple_add entry_tuple_add (args_tuple_add_2 _ _) (tuple_addW0 a b _ f.toArray n J G m sl o (by simp)) ⟨ho,g,⟨.ref b,H,I,rfl,q⟩⟩
theorem bV:eU X (binaryOp .Add) (rD X.K (qL .add)):=by
 rintro f s σ H x y v u Q I g h⟨F,d,e,r,sm,o,q,he,k⟩;replace he:oR d e=some r:=he;unfold oR at he;split at he;.cases he;rw[o.int]at g;rw[q.int]at h;exact oW f s σ H _ _ v u Q I g h ⟨_,_,rfl,rfl,bW.cM sm (bT _) k⟩
 .rename_i xs ys;obtain⟨m,he⟩:=aV he;subst he;obtain⟨a,vs,rfl,t,j⟩:=o.lst sm;obtain⟨b,w,rfl,z,l⟩:=q.lst sm;exact Iw f s σ H _ _ v u Q I g h ⟨a,b,vs,w,rfl,rfl,t,z,by rw[j.length,l.length];exact m,λp A=>yc sm (j.append l) A k⟩
 . rename_i xs ys;obtain⟨m,he⟩:=aV he;subst he;obtain⟨a,vs,rfl,t,j,C⟩:=o.tup sm;obtain⟨b,w,rfl,z,l,E⟩:=q.tup sm;by_cases h0:vs=[]
   . subst h0;have B:xs=[]:=by have:=j.length;exact List.eq_nil_of_length_eq_zero this.symm
     subst B;exact Du f s σ H _ _ v u Q I g h ⟨a,b,w,rfl,rfl,t,z,bW.cM sm E k⟩
   . refine Jw f s σ H _ _ v u Q I g h ⟨a,b,vs,w,rfl,rfl,t,z,h0,by rw[j.length,l.length];exact m,λe=>?_,λ_ p A=>By sm (j.append l) A k⟩;subst e;have B:ys=[]:=by have:=l.length;exact List.eq_nil_of_length_eq_zero this.symm
     subst B;rw[append_nil]at k;exact bW.cM sm C k
 .rename_i G J;obtain⟨m,he⟩:=aV he;subst he;rw[o.str]at g;rw[q.str]at h;exact yG f s σ H _ _ v u Q I g h ⟨_,_,rfl,rfl,m,bW.cM sm (Qi _) k⟩
 .cases he
theorem dw:eU X (binaryOp .Sub) (rD X.K (qL .sub)):=by
 rintro f s σ H x y v u Q I g h⟨F,d,e,r,sm,j,l,he,k⟩;replace he:vg d e=some r:=he;unfold vg at he;split at he;.cases he;rw[j.int]at g;rw[l.int]at h;exact Ot f s σ H _ _ v u Q I g h ⟨_,_,rfl,rfl,bW.cM sm (bT _) k⟩
 .cases he
theorem KH:eU X (binaryOp .Mult) (λx y H Q=>∃l k xs,x=.ref l/\y=.int k/\eG X.K H l xs/\-(2^63)<=k/\k<2^63/\xs.length*k.toNat<=sizeLine/\∀p,H p=none->Q (.ref p) (upd H p (.lst (replicate k.toNat xs).flatten))):=by
 intro w s σ H x y v u Q I A B h;obtain⟨l,k,xs,rfl,rfl,C,h1,E,hz,q⟩:=h;cases A;obtain⟨t,rfl⟩:=B;obtain⟨f,r,pl,_⟩:=I.list C;obtain⟨⟨cls,z,data,sl⟩,ho,hc,n,hd⟩:=id pl.isList;simp only at hc hd;subst hc hd;have g:f.toArray.size*k.toNat<=sizeLine:=by rw[size_toArray,<-r.length];exact hz
 have o:¬ f.toArray.size*k.toNat>(2^63-1)/8:=by
  have:(sizeLine:Nat)<=(2^63-1)/8:=by decide
  omega
 have j:foldl (·++·) #[] (replicate (if f.toArray.isEmpty=true then 0 else k.toNat) f.toArray)=(replicate k.toNat f).flatten.toArray:=by
  have f0:∀m:Nat,foldl (·++·) #[] (replicate m f.toArray)=(replicate m f).flatten.toArray:=λm=>by have:=foldl_rep f m [];rw[nil_append]at this;exact this
  rw[f0];cases f with|nil=>simp|cons a J=>rw[if_neg (by simp)]
 refine wpAny_binaryOp_repeat_ref (T:="list") (U:="int") (by decide) ⟨_,ho,rfl⟩ (λG=>typeIs_int G k t) noFill_list_mul F.fills_int_mul F.slot_int_rmul repeat_list F.slot_int_index.lookup ?_;refine call_meets F.slot_int_rmul (typeIs_int s k t) F.entry_int_rmul (F.args_int_rmul_2 _ _) (qG k t l f.toArray n z sl) ⟨ho,rfl,⟨_,ho,rfl⟩,?_⟩;refine call_meets F.slot_list_mul ⟨_,ho,rfl⟩ F.entry_list_mul (F.args_list_mul_2 _ _) (Cj l f.toArray n z sl k t (by rw[fitsIndex_both h1 E];exact Bool.false_ne_true) o (by rw[Ge g];exact Bool.false_ne_true)) ⟨ho,?_⟩;rw[j];exact⟨.ref _,_,I.QJ (t':=s.toks) (r.rep k.toNat) (by rw[len_rep,Nat.mul_comm];exact hz),rfl,q _ I.fresh⟩
theorem lJ:fillsNumberSlot (.type "tuple") "mul"=pure false:=PySem.fillsNumberSlot_seq (id:="tuple.__mul__") (r:=some (.builtin "tuple.__rmul__")) slot_tuple_mul.lookup (by decide+kernel) PySem.F.slot_tuple_rmul.lookup (by decide+kernel)
theorem uh:seqRepeat? (.type "tuple")=pure (some (.builtin "tuple.__mul__")):=by unfold seqRepeat?;rw[PySem.seqSlot_of (T:="tuple") (name:="__mul__") (id:="tuple.__mul__") slot_tuple_mul.lookup (by decide+kernel),PySem.seqSlot_of (T:="tuple") (name:="__rmul__") (id:="tuple.__rmul__") PySem.F.slot_tuple_rmul.lookup (by decide+kernel)];rfl
theorem oV(k:Int)(t:Tok)(l:Addr)(f:Array Value)(n:Nat)(j:Option Addr)(sl:Array (Option Value)):Meets (Builtin.«int.__rmul__» ⟨[.int k t,.ref l],[]⟩) (λ_ R s=>s.heap.get? l=some ⟨.type "tuple",j,.seq f n,sl⟩/\R (.ok (.ret Value.notImplemented)) s):=.of_wp λprog w A R s h=>by obtain⟨m,g,d,o,os⟩:=s;obtain⟨q,h⟩:=h;wp_walk;exact⟨_,rfl,h⟩
theorem xq(l:Addr)(f:Array Value)(n:Nat)(r:Option Addr)(sl:Array (Option Value))(k:Int)(t:Tok)(h0:0<=k)(h1:k<2^63)(hz:f.size*k.toNat<=sizeLine)(u:0<f.size):Meets (Builtin.«tuple.__mul__» ⟨[.ref l,.int k t],[]⟩) (λ_ R s=>s.heap.get? l=some ⟨.type "tuple",r,.seq f n,sl⟩/\(k=1->R (.ok (.ret (Value.ref l))) s)/\(k≠1->R (.ok (.ret (Value.ref s.heap.objs.size))) {s with heap:=s.heap.push {cls:=.type "tuple",data:=.seq (foldl (·++·) #[] (replicate k.toNat f))}})):=.of_wp λprog w A R s h=>by
  obtain⟨y,g,d,I,os⟩:=s;obtain⟨o,z,B⟩:=h;have j:f.isEmpty=false:=by cases e:f.isEmpty with|false=>rfl|true=>rw[Array.isEmpty_iff_size_eq_zero]at e;omega
  show wpAny _ _ (asIndex (.int k t)>>=_) _ _ _;wp_walk using wpAny_loadPart' o;have C:IsTup y l f:=⟨_,o,rfl,n,rfl⟩;rw[if_neg (by simp;omega)];refine wpAny_bind (PyProof.Rows.tupleItemsOf_ C ?_);try dsimp only
  by_cases m:k=1;.rw[if_pos (by simp[m])];wp_walk using wpAny_loadPart' o;exact⟨_,rfl,z m⟩
  . have q:=B m;rw[if_neg (by simp[j,m])];by_cases E:k=0;.subst E;rw[if_pos (by simp)];unfold tupleExact;refine wpAny_bind (wpAny_newObj_type ?_);exact wpAny_pure ⟨_,rfl,q⟩
    . have J:(f.size:Int)*k<=sizeLine:=by
       have:((f.size*k.toNat:Nat):Int)<=(sizeLine:Nat):=by exact_mod_cast hz
       rw[Int.natCast_mul,show((k.toNat:Nat):Int)=k by omega]at this;exact this
      have G:(sizeLine:Int)<=(2^63-1)/8:=by decide
      rw[if_neg (by simp[j];omega),if_neg (by omega),if_neg (by simp[Builtin.Tuple.tupleTooMany];omega)];unfold tupleExact;refine wpAny_bind (wpAny_newObj_type ?_ ?_);.exact wpAny_pure ⟨_,rfl,q⟩
      .have:=foldl_rep f.toList k.toNat [];rw[nil_append,show f.toList.toArray=f by simp]at this;show(foldl (·++·) #[] (replicate k.toNat f)).size<=sizeLine;rw[show(#[]:Array Value)=([]:List Value).toArray from rfl,this,size_toArray,len_rep,length_toList,Nat.mul_comm];exact hz
theorem Iz:eU X (binaryOp .Mult) (λx y H Q=>∃l k xs,x=.ref l/\y=.int k/\jG X.K H l xs/\0<xs.length/\0<=k/\k<2^63/\xs.length*k.toNat<=sizeLine/\(k=1->Q (.ref l) H)/\(k≠1->∀p,H p=none->Q (.ref p) (upd H p (.tup (replicate k.toNat xs).flatten)))):=by
 intro w s σ H x y v u Q I A B h;obtain⟨l,k,xs,rfl,rfl,C,m,h1,E,hz,G,J⟩:=h;cases A;obtain⟨t,rfl⟩:=B;obtain⟨f,r,pl,_⟩:=I.tuple C;obtain⟨⟨cls,z,data,sl⟩,ho,hc,n,hd⟩:=id pl;simp only at hc hd;subst hc hd;have g:f.toArray.size*k.toNat<=sizeLine:=by rw[size_toArray,<-r.length];exact hz
 have j:foldl (·++·) #[] (replicate k.toNat f.toArray)=(replicate k.toNat f).flatten.toArray:=by have:=foldl_rep f k.toNat [];rw[nil_append]at this;exact this
 refine wpAny_binaryOp_repeat_ref (T:="tuple") (U:="int") (by decide) ⟨_,ho,rfl⟩ (λL=>typeIs_int L k t) lJ F.fills_int_mul F.slot_int_rmul uh F.slot_int_index.lookup ?_;refine call_meets F.slot_int_rmul (typeIs_int s k t) F.entry_int_rmul (F.args_int_rmul_2 _ _) (oV k t l f.toArray n z sl) ⟨ho,rfl,⟨_,ho,rfl⟩,?_⟩;refine call_meets slot_tuple_mul ⟨_,ho,rfl⟩ PySem.F.entry_tuple_mul (PySem.F.args_tuple_mul_2 _ _) (xq l f.toArray n z sl k t h1 E g (by rw[size_toArray,<-r.length];exact m)) ⟨ho,λe=>⟨.ref l,H,I,rfl,G e⟩,λe=>?_⟩;rw[j];refine⟨.ref s.heap.objs.size,_,I.laid (t':=s.toks) (o:=.tup (replicate k.toNat xs).flatten) (λb M q=>gW q) (dC) ?_,rfl,J e _ (I.hok.fresh (dC))⟩;exact⟨by rw[len_rep,Nat.mul_comm];exact hz,_,r.rep k.toNat,IsTup.new _ _⟩
theorem nZ:eU X (binaryOp .Mult) (rD X.K (qL .mul)):=by
 rintro f s σ H x y v u Q I l g⟨F,d,e,r,sm,o,q,he,k⟩;replace he:pB d e=some r:=he;unfold pB at he;split at he;.obtain⟨hc,he⟩:=aV he;subst he;rw[o.int]at l;rw[q.int]at g;exact qd f s σ H _ _ v u Q I l g ⟨_,_,rfl,rfl,hc,bW.cM sm (bT _) k⟩
 . rename_i xs i;obtain⟨⟨h1,m,j⟩,he⟩:=aV he;subst he;obtain⟨a,vs,rfl,t,h⟩:=o.lst sm;rw[q.int]at g;have w:i<2^63:=by have z:=Nat.le_mul_of_pos_left i.toNat m;have B:i.toNat<=16777216:=le_trans z j;omega
   exact KH f s σ H _ _ v u Q I l g ⟨a,i,vs,rfl,rfl,t,by omega,w,by rw[h.length];exact j,λp A=>yc sm (h.rep i.toNat) A k⟩
 . rename_i xs i;obtain⟨⟨h1,m,j⟩,he⟩:=aV he;subst he;obtain⟨a,vs,rfl,t,h,C⟩:=o.tup sm;rw[q.int]at g;have w:i<2^63:=by have z:=Nat.le_mul_of_pos_left i.toNat m;have B:i.toNat<=16777216:=le_trans z j;omega
   refine Iz f s σ H _ _ v u Q I l g ⟨a,i,vs,rfl,rfl,t,by rw[h.length];exact m,h1,w,by rw[h.length];exact j,λe=>?_,λe p A=>By sm (h.rep i.toNat) A k⟩;subst e;refine bW.cM sm ?_ k;have E:(replicate (1:Int).toNat xs).flatten=xs:=by simp
   rw[E];exact C
 .cases he
theorem Hj:eU X (binaryOp .FloorDiv) (rD X.K (qL .fdiv)):=by
 rintro f s σ H x y v u Q I g h⟨F,d,e,r,sm,l,m,he,k⟩;replace he:qt d e=some r:=he;unfold qt at he;split at he
 . rename_i i j;obtain⟨⟨h1,q⟩,he⟩:=aV he;subst he;rw[l.int]at g;rw[m.int]at h;obtain⟨t,rfl⟩:=g;obtain⟨t',rfl⟩:=h;have o:j.natAbs.log2<9000:=by
    have:j.natAbs<2^200:=by
     have:(2:Nat)^200=1606938044258990275541962092341162602522202993782792835301376:=by decide
     omega
    have w:=(Nat.log2_lt (by omega)).mpr this;omega
   exact floordiv_int (by omega) (by rw[Int.fdiv_eq_ediv_of_nonneg i (by omega)];exact⟨.int _,H,I.tok _,⟨_,rfl⟩,bW.cM sm (bT _) k⟩) (.inl (PyProof.noPylong_of_log2 o))
 .cases he
theorem tK:eU X (binaryOp .Mod) (rD X.K (qL .mod)):=by
 rintro f s σ H x y v u Q I g h⟨F,d,e,r,sm,j,l,he,k⟩;replace he:vz d e=some r:=he;unfold vz at he;split at he;.obtain⟨h1,he⟩:=aV he;subst he;rw[j.int]at g;rw[l.int]at h;exact jV f s σ H _ _ v u Q I g h ⟨_,_,rfl,rfl,h1,bW.cM sm (bT _) k⟩
 .cases he
theorem km:eU X (binaryOp .Pow) (rD X.K (qL .pow)):=by
 rintro f s σ H x y v u Q I g h⟨F,d,e,r,sm,j,l,he,k⟩;replace he:wC d e=some r:=he;unfold wC at he;split at he;.obtain⟨⟨h1,o,m⟩,he⟩:=aV he;subst he;rw[j.int]at g;rw[l.int]at h;exact Rb f s σ H _ _ v u Q I g h ⟨_,_,rfl,rfl,⟨h1,by omega,m⟩,bW.cM sm (bT _) k⟩
 .cases he
theorem aK{o:Op}{op:Operator}(ho:eU X (binaryOp op) (rD X.K (qL o)))(f:SX X c a pa)(g:SX X c b pb):SX X c (.BinOp a op b pos) (.bin o pa pb):=uz (λh1 h=>fc ho h1 h) f g (λρ=>rfl) rfl
theorem iQ(j:SX X c a pa):SX X c (.UnaryOp .USub a pos) (.neg pa):=by refine Rg (f:=GK) (λh1=>WL ?_ h1) j (λρ=>rfl) rfl;rintro g s σ H x v Q I h⟨F,d,r,sm,l,he,k⟩;unfold GK at he;obtain⟨i,m,o⟩:=map_some he;subst o;cases d<;>cases m;rw[l.int]at h;exact Ra g s σ H _ v Q I h ⟨_,rfl,bW.cM sm (bT _) k⟩
theorem yP{f:Int->Int->Bool}(ho:eU X (compareOp op) (Df λi j=>.bl (f i j))):eU X (compareOp op) (rD X.K λx y=>(Ih f x y).map λk=>.val (.bl k)):=by
 rintro g s σ H x y v u Q I l m⟨F,d,e,r,sm,o,q,he,k⟩;obtain⟨t,h,w⟩:=map_some (show(Ih f d e).map _=some r from he);subst w;unfold Ih at h;split at h;.cases h;rw[o.int]at l;rw[q.int]at m;exact ho g s σ H _ _ v u Q I l m ⟨_,_,rfl,rfl,bW.cM sm (fP _) k⟩
 .cases h
theorem yF{f:Int->Int->Bool}(ho:eU X (compareOp op) (Df λi j=>.bl (f i j))){o:Cm}(hc:cm o=Ih f):eU X (compareOp op) (rD X.K (nT o)):=by
 have e:nT o=λx y=>(Ih f x y).map λk=>.val (.bl k):=by funext x y;unfold nT;rw[hc]
 rw[e];exact yP ho
theorem Py:eU X (compareOp .Lt) (rD X.K λx y=>(Ih (λi j=>decide (i<j)) x y).map λk=>.val (.bl k)):=yP Vv
theorem tZ:eU X (compareOp .LtE) (rD X.K (nT .le)):=yF Xl rfl
theorem tM:eU X (compareOp .Gt) (rD X.K (nT .gt)):=yF W0 rfl
theorem PQ:eU X (compareOp .GtE) (rD X.K (nT .ge)):=yF Ww rfl
theorem qW{d:D}(h:cU K F H v d):decide (v=.non)=jg d:=by cases d with
 |non=>rw[h.non];rfl|bl _=>rw[h.bl];rfl|int _=>rw[h.int];rfl|str _=>rw[h.str];rfl|tup _=>
   rcases h with h|⟨a,_,_,rfl,_⟩;.rw[Rep]at h;obtain⟨a,_,rfl,_⟩:=h;rfl
   .rfl|lst _=>
   rcases h with h|⟨a,_,_,rfl,_⟩;.rw[Rep]at h;obtain⟨a,_,rfl,_⟩:=h;rfl
   .rfl|dq _=>
   rcases h with h|⟨a,_,_,rfl,_⟩;.rw[Rep]at h;obtain⟨a,_,rfl,_⟩:=h;rfl
   .rfl|dv _ _=>
   rcases h with h|⟨a,_,_,rfl,_⟩;.rw[Rep]at h;obtain⟨a,_,_,rfl,_⟩:=h;rfl
   .rfl
theorem RG:eU X (compareOp .Is) (rD X.K (nT .isN)):=by
 rintro f s σ H x y v u Q I h j⟨F,d,e,r,sm,l,m,he,k⟩;obtain⟨t,g,o⟩:=map_some (show(T8 false d e).map _=some r from he);subst o;unfold T8 at g;split at g;.cases g;exact Qc f s σ H x y v u Q I h j ⟨m.non,by rw[qW l];exact bW.cM sm (fP _) k⟩
 .cases g
theorem Lz:eU X (compareOp .IsNot) (rD X.K (nT .Ml)):=by
 rintro f s σ H x y v u Q I h j⟨F,d,e,r,sm,l,m,he,k⟩;obtain⟨t,g,o⟩:=map_some (show(T8 true d e).map _=some r from he);subst o;unfold T8 at g;split at g;.cases g;exact Jy f s σ H x y v u Q I h j ⟨m.non,by rw[qW l];exact bW.cM sm (fP _) k⟩
 .cases g
theorem R8{o:Cm}(ho:eU X (compareOp op) (rD X.K (nT o)))(f:SX X c a pa)(g:SX X c b pb)(h:behindInMarks op b=false):SX X c (.Compare a [op] [b] pos) (.cmp o pa pb):=uz (λh1 j=>Ls ho h1 j h) f g (λρ=>rfl) rfl
theorem CZ{o E:Cm}{l:CmpOp}(ho:eU X (compareOp op) (rD X.K (nT o)))(A:eU X (compareOp l) (rD X.K (nT E)))(G:SX X c a pa)(I:SX X c b pb)(hd:SX X c d pd)(J:lastMarks [op,l] [b,d]=false:=by with_unfolding_all rfl):SX X c (.Compare a [op,l] [b,d] pos) (.chain o E pa pb pd):=by
 obtain⟨ta,tb,h1,L,M⟩:=G.iC I;obtain⟨td,N,O⟩:=hd.cG;refine⟨dX (Ea ho A h1 L N J) ?_,λi h=>by cases h⟩;rintro σ H Q⟨F,ρ,r,ρ',g,e,k⟩;rw[HH.E9]at e;obtain⟨m,U,W,e⟩:=aa e;obtain⟨t,Y,j,e⟩:=aa e;have Z:=aD j;clear j;obtain⟨j,B⟩:=Z;subst B;have f:flat m.2=true/\cm o m.1 m.2=some t:=by
  split at j;.rename_i hf;exact⟨hf,j⟩
  .cases j
 obtain⟨f,j⟩:=f;refine M g W λv u F' H' s pv y=>⟨F',m.1,m.2,.val (.bl t),s.gs.sub,pv,y,by unfold nT;rw[j];rfl,λw C H2 x q=>?_⟩;have s2:=s.trans (x.stp s.gs);have q:Rep X.K C w (.bl t):=q;rw[Rep]at q;subst q;refine⟨t,rfl,?_⟩;cases t with|false=>rw[if_neg Bool.false_ne_true]at e ⊢;cases e;exact k _ C H2 s2 (show Rep X.K C _ _ from fP _)|true=>
   rw[if_pos rfl]at e ⊢;obtain⟨z,ac,B,e⟩:=aa e;obtain⟨e4,e5⟩:=aD e;subst e5;refine O s2.gs B λw F3 H3 s3 pw=>⟨F3,m.2,z,r,s3.gs.sub,?_,pw,e4,λw' F4 H4 x4 q=>?_⟩
   . have x1:=x.fs;have x2:=s3.cV;rcases y with y|⟨_,_,_,_,_,_,h⟩;.exact .inl ((y.mono x1).mono x2)
     .rw[h]at f;cases f
   .have s4:=s2.trans s3;exact k w' F4 H4 (s4.trans (x4.stp s4.gs)) (.later s4 (q.nu s4.gs))
end
section
variable{X:Cx}{c:Call}{e a b d:Expr}{p pa pb pd:P}{pos:Pos}{rest:List Expr}
theorem pW{x:D}{k:Bool}(h:xT x=some k):x=.bl k:=by cases x<;>cases h;rfl
theorem dG{x:D}{k:Int}(h:gU x=some k):x=.int k:=by cases x<;>cases h;rfl
theorem cH.bool{g H':Hp}{f:L2.St}{r:R}{k:Bool}(h:cH K g ρ' f H' ρ σ H v r)(e:r.d=.bl k):v=.bl k:=by cases r with|val d=>cases(show d=.bl k from e);have h:Rep K g v (.bl k):=h;rw[Rep]at h;exact h|own ds=>cases e
def ST(X:Cx)(c:Call)(e:Expr)(p:P):Prop:=PT X e (Fp X.K (iB (HH.ev c p)))
def SW(X:Cx)(c:Call)(e:Expr)(p:P):Prop:=PW X e (Fp X.K (iB (HH.ev c p)))
theorem SW.st(h:SW X c e p):ST X c e p:=PW.pt h
theorem mD{t:TE}{Q:Bool->Hp->Prop}(l:∀Q,wL X.K (HH.ev c p) σ H Q->t σ H Q)(h:Fp X.K (iB (HH.ev c p)) σ H Q):t σ H λx m=>∃k,x=.bl k/\Q k m:=by obtain⟨F,ρ,k,ρ',g,e,q⟩:=h;obtain⟨r,j,o,f⟩:=aa e;have u:=aD f;clear f;obtain⟨f,w⟩:=u;subst w;exact l _ ⟨F,ρ,r,j,g,o,λv y H' s z=>⟨k,z.bool (pW f),q y H' s⟩⟩
theorem dz(h:SX X c e p)(he:∀f,isTrue e X.env f=(do let v<-f;standAt e.pos;holding [v] (truthy v)):=by intro _;rfl):ST X c e p:=v8 (Q4 h.ev he) λσ H Q q=>mD (λ_ z=>z) q
theorem bF{o:Cm}(ho:eU X (compareOp op) (rD X.K (nT o)))(j:SX X c a pa)(l:SX X c b pb)(m:behindInMarks op b=false):ST X c (.Compare a [op] [b] pos) (.cmp o pa pb):=by obtain⟨y,A,h1,B,C⟩:=j.iC l;refine v8 (kO ho h1 B m) λσ H Q q=>mD (t:=yl (rD X.K (nT o)) y A) (λQ z=>?_) q;obtain⟨F,ρ,r,ρ',g,e,k⟩:=z;rw[HH.E8]at e;obtain⟨h,E,G,f⟩:=aa e;have I:=aD f;clear f;obtain⟨f,J⟩:=I;subst J;refine C g G λv u L H' s M N=>⟨L,h.1,h.2,r,s.gs.sub,M,N,f,λw O U x W=>?_⟩;exact k w O U (s.trans (x.stp s.gs)) (.later s (W.nu s.gs))
theorem fZ(h:ST X c a pa):ST X c (.UnaryOp .Not a pos) (.not pa):=by
 refine v8 (Q0 h) ?_;rintro σ H Q⟨F,ρ,k,ρ',g,e,q⟩;unfold iB at e;rw[HH.E5]at e;obtain⟨r,j,l,f⟩:=aa e;obtain⟨k',m,o,t⟩:=aa l;cases t;have u:=aD f;clear f;obtain⟨f,w⟩:=u;subst w;have f:(!k')=k:=by cases f;rfl
 exact⟨F,ρ,k',_,g,o,λy H' s=>by show Q (!k') H';rw[f];exact q y H' s⟩
theorem Kr(ρ:List Sl):iB (HH.ev c (.and pa pb)) ρ=(iB (HH.ev c pa) ρ).bind λx ρ=>if x then iB (HH.ev c pb) ρ else .ok false ρ:=by unfold iB;rw[HH.E6];unfold iB;cases HH.ev c pa ρ with|exc _ _=>rfl|stuck=>rfl|ok r f=>simp only[Res.bind];cases h:xT r.d with|none=>rfl|some k=>cases k with|false=>rfl|true=>simp only[lift,if_true];cases HH.ev c pb f with|exc _ _=>rfl|stuck=>rfl|ok g j=>simp only[Res.bind];cases h2:xT g.d with|none=>rfl|some l=>rfl
theorem Rp(ρ:List Sl):iB (HH.ev c (.or pa pb)) ρ=(iB (HH.ev c pa) ρ).bind λx ρ=>if x then .ok true ρ else iB (HH.ev c pb) ρ:=by unfold iB;rw[HH.E7];unfold iB;cases HH.ev c pa ρ with|exc _ _=>rfl|stuck=>rfl|ok r f=>simp only[Res.bind];cases h:xT r.d with|none=>rfl|some k=>cases k with|true=>rfl|false=>simp only[lift,false_eq_true,if_false];cases HH.ev c pb f with|exc _ _=>rfl|stuck=>rfl|ok g j=>simp only[Res.bind];cases h2:xT g.d with|none=>rfl|some l=>rfl
theorem tU(f:ST X c a pa):SW X c (.BoolOp .And [a] pos) pa:=Aq f
theorem fY(f:ST X c a pa):SW X c (.BoolOp .Or [a] pos) pa:=RW f
theorem xX(h:ST X c a pa)(j:SW X c (.BoolOp .And (b::rest) pos) pb):SW X c (.BoolOp .And (a::b::rest) pos) (.and pa pb):=by refine My (Es h j) ?_;rintro σ H Q⟨F,ρ,k,ρ',g,e,q⟩;rw[Kr]at e;obtain⟨x,f,l,e⟩:=aa e;refine⟨F,ρ,x,f,g,l,λF1 m s1=>?_⟩;cases x with|true=>rw[if_pos rfl]at e ⊢;exact⟨F1,f,k,ρ',s1.gs,e,λo r s2=>q o r (s1.trans s2)⟩|false=>rw[if_neg Bool.false_ne_true]at e ⊢;cases e;exact q F1 m s1
theorem ik(h:ST X c a pa)(j:SW X c (.BoolOp .Or (b::rest) pos) pb):SW X c (.BoolOp .Or (a::b::rest) pos) (.or pa pb):=by refine My (Vw h j) ?_;rintro σ H Q⟨F,ρ,k,ρ',g,e,q⟩;rw[Rp]at e;obtain⟨x,f,l,e⟩:=aa e;refine⟨F,ρ,x,f,g,l,λF1 m s1=>?_⟩;cases x with|true=>rw[if_pos rfl]at e ⊢;cases e;exact q F1 m s1|false=>rw[if_neg Bool.false_ne_true]at e ⊢;exact⟨F1,f,k,ρ',s1.gs,e,λo r s2=>q o r (s1.trans s2)⟩
theorem QW(j:SX X c a pa):SX X c (.UnaryOp .Not a pos) (.not pa):=by refine⟨dX (QZ j.ev) ?_,λi h=>by cases h⟩;rintro σ H Q⟨F,ρ,r,ρ',g,e,k⟩;rw[HH.E5]at e;obtain⟨x,l,m,o⟩:=aa e;cases o;exact mD (c:=c) (λ_ z=>z) ⟨F,ρ,x,_,g,m,λf H' s=>k _ f H' s (show Rep X.K f _ _ from fP _)⟩
theorem J8{op}(f:SX X c a pa):PE X (.BoolOp op [a] pos) (wL X.K (HH.ev c pa)):=RX f.ev
theorem O9(o:SX X c a pa)(q:PE X (.BoolOp .And (b::rest) pos) (wL X.K (HH.ev c pb))):SX X c (.BoolOp .And (a::b::rest) pos) (.and pa pb):=by refine⟨dX (Oo o.ev q) ?_,λi h=>by cases h⟩;rintro σ H Q⟨F,ρ,r,ρ',g,e,k⟩;rw[HH.E6]at e;obtain⟨x,f,s,e⟩:=aa e;refine mD (c:=c) (λ_ z=>z) (Q:=λx j=>if x=true then wL X.K (HH.ev c pb) σ j Q else Q (.bl false) j) ⟨F,ρ,x,f,g,s,λF1 j s1=>?_⟩;cases x with|true=>rw[if_pos rfl]at e ⊢;obtain⟨y,t,u,w⟩:=aa e;cases w;obtain⟨A,B,C,l⟩:=aa u;have E:=aD l;clear l;obtain⟨l,G⟩:=E;subst G;refine⟨F1,f,A,_,s1.gs,C,λv m I s2 J=>?_⟩;rw[J.bool (pW l)];exact k _ m I (s1.trans s2) (show Rep X.K m _ _ from fP _)|false=>rw[if_neg Bool.false_ne_true]at e ⊢;cases e;exact k _ F1 j s1 (show Rep X.K F1 _ _ from fP _)
theorem uD(hc:ST X c e p)(w:SX X c a pa)(y:SX X c b pb):SX X c (.IfExp e a b pos) (.N8 p pa pb):=by refine⟨dX (Hu hc w.ev y.ev) ?_,λi h=>by cases h⟩;rintro σ H Q⟨F,ρ,r,ρ',g,e,k⟩;rw[HH.E10]at e;obtain⟨x,f,z,e⟩:=aa e;refine⟨F,ρ,x,f,g,z,λF1 B s1=>?_⟩;cases x with|true=>rw[if_pos rfl]at e ⊢;obtain⟨j,l,m,o⟩:=aa e;cases o;refine⟨F1,f,j,_,s1.gs,m,λv A q s2 s=>?_⟩;obtain⟨t,s3,_,u⟩:=s2.cO s;exact k v t q (s1.trans s3) u|false=>rw[if_neg Bool.false_ne_true]at e ⊢;obtain⟨j,l,m,o⟩:=aa e;cases o;refine⟨F1,f,j,_,s1.gs,m,λv A q s2 s=>?_⟩;obtain⟨t,s3,_,u⟩:=s2.cO s;exact k v t q (s1.trans s3) u
theorem uE:∀{ps:List P}{ρ ρ':List Sl}{ds:List D},evs c ps ρ=.ok ds ρ'->ds.length=ps.length|[],_,_,_,h=>by rw[Gi]at h;cases h;rfl|p::ps,_,_,_,h=>by rw[Gx]at h;obtain⟨r,f,_,h⟩:=aa h;obtain⟨xs,g,j,h⟩:=aa h;cases h;simp[uE j]
theorem aH:SA X c [] []:=⟨wA dR λσ H Q⟨F,ρ,ds,ρ',g,e,k⟩=>by rw[Gi]at e;cases e;exact k [] F H (.refl g) .nil,rfl⟩
theorem An{ps:List P}(h:SX X c a pa)(hr:SA X c es ps)(hs:starEach (a::es) X.env=(false,eval a X.env)::starEach es X.env:=by rfl):SA X c (a::es) (pa::ps):=by refine⟨wA (cW h.ev hr.1 hs) ?_,by simp[hr.2]⟩;rintro σ H Q⟨F,ρ,ds,ρ',g,e,k⟩;rw[Gx]at e;obtain⟨r,f,j,e⟩:=aa e;obtain⟨xs,l,m,e⟩:=aa e;cases e;refine⟨F,ρ,r,f,g,j,λv y H' s o=>?_⟩;obtain⟨F1,s1,_,q⟩:=s.cO o;refine⟨F1,f,xs,_,s1.gs,m,λvs t u s2 w=>?_⟩;exact k _ t u (s1.trans s2) (.cons (q.mono s2.cV) w)
theorem Ext.Jo{g h:Hp}{Q:VK}{xs:List V}(s:au K h ρ σ g F ρ' σ H)(r:aB K F xs ds)(k:∀v f H',au K h ρ σ g f ρ' σ H'->cH K f ρ' σ H' ρ σ g v (.val (.tup ds))->Q v H')(p:Addr)(j:H p=none):Q (.ref p) (upd H p (.tup xs)):=By s.gs.sub r j λv f H' x l=>k v f H' (s.trans (x.stp s.gs)) l
theorem bO{ps:List P}{x1}(h:SA X c es ps)(hz:ps.length<=sizeLine:=by decide):SX X c (.Tuple es x1 pos) (.tup ps):=by refine⟨dX (Rq h.1) ?_,λi h=>by cases h⟩;rintro σ H Q⟨F,ρ,r,ρ',g,e,k⟩;rw[HH.E11]at e;obtain⟨ds,l,f,e⟩:=aa e;cases e;exact⟨F,ρ,ds,_,g,f,λvs o H' s j=>⟨by rw[j.length,uE f];exact hz,λp m=>Ext.Jo s j k p m⟩⟩
theorem cC{ps:List P}(h:SA X c es ps)(hz:ps.length<=sizeLine:=by decide):SX X c (.List es pos) (.lst ps):=by refine⟨dX (xP h.1) ?_,λi h=>by cases h⟩;rintro σ H Q⟨F,ρ,r,ρ',g,e,k⟩;rw[HH.E12]at e;obtain⟨ds,l,f,e⟩:=aa e;cases e;exact⟨F,ρ,ds,_,g,f,λvs u H' s j=>⟨by rw[j.length,uE f];exact hz,λp m=>yc s.gs.sub j m λv o q x t=>k v o q (s.trans (x.stp s.gs)) (.later s (t.nu s.gs))⟩⟩
theorem Ff{i:Int}{d:D}(h:at' ds i=some d):∃j,L2.gK ds.length i=some j/\ds[j]?=some d:=cQ h
theorem aci:Z0 X (rD X.K xF):=by
 rintro f slice g s σ H x y v u Q I m l⟨F,d,e,r,sm,t,A,he,k⟩hs;unfold xF at he;obtain⟨ds,B,he⟩:=cQ he;obtain⟨i,C,he⟩:=cQ he;obtain⟨z,E,he⟩:=map_some he;subst he;cases dG C;rw[A.int]at l;obtain⟨p,xs,rfl,hq,o⟩:=t.items sm B;obtain⟨j,h1,G⟩:=Ff E;obtain⟨w,J,q⟩:=o.get G;have h:BZ xs i=some w:=by unfold BZ;rw[o.length,h1];exact J
 rcases hq with hq|hq;.exact cu f slice g s σ H _ _ v u Q I m l ⟨p,xs,i,w,rfl,rfl,hq,h,bW.cM sm q k⟩ hs
 .exact Qu f slice g s σ H _ _ v u Q I m l ⟨p,xs,i,w,rfl,rfl,hq,h,bW.cM sm q k⟩ hs
theorem az(g:SX X c a pa)(h:SX X c b pb)(hs:ur b:=by intro _ _;rfl):SX X c (.Subscript a b pos) (.idx pa pb):=uz (f:=xF) (λh1 j=>fu aci h1 j hs) g h (λρ=>rfl) rfl
def IK(K:PySem.W.Frag)(f:D->Option R):List V->Hp->VK->Prop:=λxs H Q=>∃x,xs=[x]/\rD1 K f x H Q
theorem mU{E:Expr}{f:D->Option R}{q:P}(l:∀{t},PA X [a] t->PE X E (tCB (IK X.K f) t))(m:SX X c a pa)(o:∀ρ,HH.ev c q ρ=(HH.cG (isVar pa) (HH.ev c pa) ρ).bind λx ρ=>lift (f x) ρ)(u:isVar q=none)(hs:starEach [a] X.env=(false,eval a X.env)::starEach [] X.env:=by rfl):SX X c E q:=by obtain⟨N,h1,y⟩:=m.cG;refine⟨dX (l (cW h1 dR hs)) ?_,λi h=>by rw[u]at h;cases h⟩;rintro σ H Q⟨F,ρ,r,ρ',g,e,k⟩;rw[o]at e;obtain⟨x,z,A,j⟩:=aa e;have B:=aD j;clear j;obtain⟨j,C⟩:=B;subst C;refine y g A λv G H' s I=>⟨v,rfl,G,x,r,s.gs.sub,I,j,λw J L x M=>?_⟩;exact k w J L (s.trans (x.stp s.gs)) (.later s (M.nu s.gs))
theorem VD:dH X (.builtin "len") (IK X.K λx=>blt .len [x]):=by rintro f s σ H xs g Q I r⟨x,h,F,d,j,sm,l,he,k⟩;obtain⟨ds,m,he⟩:=map_some (show(items d).map _=some j from he);subst he;obtain⟨p,ys,rfl,o,q⟩:=l.items sm m;exact t8 f s σ H xs g Q I r ⟨p,ys,h,o,by rw[q.length];exact bW.cM sm (bT _) k⟩
theorem QX:dH X (.type "list") (IK X.K λx=>blt .list [x]):=by rintro f s σ H xs g Q I r⟨x,h,F,d,j,sm,m,he,k⟩;obtain⟨ds,o,he⟩:=map_some (show(items d).map _=some j from he);subst he;obtain⟨p,ys,rfl,q,t⟩:=m.items sm o;exact uF f s σ H xs g Q I r ⟨p,ys,h,q,λl u=>yc sm t u k⟩
theorem Ks:dH X (.type "tuple") (IK X.K λx=>blt .tuple [x]):=by rintro f s σ H xs j Q I r⟨x,m,F,d,t,sm,o,he,k⟩;obtain⟨ds,g,he⟩:=map_some (show(items d).map _=some t from he);subst he;cases d with|tup es=>cases g;obtain⟨a,ys,rfl,h,q,rt⟩:=o.tup sm;exact jN f s σ H xs j Q I r ⟨a,ys,m,.inr ⟨h,bW.cM sm rt k⟩⟩|lst es=>cases g;obtain⟨a,ys,rfl,h,q⟩:=o.lst sm;exact jN f s σ H xs j Q I r ⟨a,ys,m,.inl ⟨h,λl u=>By sm q u k⟩⟩|_=>cases g
theorem gM(f:x="len")(g:Gl X x)(j:X.mg x=none)(k:SX X c a pa)(hs:starEach [a] X.env=(false,eval a X.env)::starEach [] X.env:=by rfl):SX X c (.Call (.Name x p') [a] [] pos) (.blt .len [pa]):=by subst f;exact mU (λh=>fj VD g j PySem.boot_len h (he:=hs)) k (λρ=>rfl) rfl hs
theorem zF(f:x="list")(g:Gl X x)(j:X.mg x=none)(k:SX X c a pa)(hs:starEach [a] X.env=(false,eval a X.env)::starEach [] X.env:=by rfl):SX X c (.Call (.Name x p') [a] [] pos) (.blt .list [pa]):=by subst f;exact mU (λh=>jt QX g j (by decide+kernel) h (he:=hs)) k (λρ=>rfl) rfl hs
theorem Gz(f:x="tuple")(g:Gl X x)(j:X.mg x=none)(k:SX X c a pa)(hs:starEach [a] X.env=(false,eval a X.env)::starEach [] X.env:=by rfl):SX X c (.Call (.Name x p') [a] [] pos) (.blt .tuple [pa]):=by subst f;exact mU (λh=>jt Ks g j (by decide+kernel) h (he:=hs)) k (λρ=>rfl) rfl hs
end
def Ig(K:PySem.W.Frag)(np:Nat)(f:List Sl->Res R):Sp:=λvs H Q _=>vs.length=np/\∃F args r a,GS K F args (vs.map some) H/\f args=.ok r a/\∀v c b H',au K F args (vs.map some) H c a b H'->cH K c a b H' args (vs.map some) H v r->Q v H'
section
variable{K:PySem.W.Frag}
def yq(K:PySem.W.Frag)(F:Hp)(ρ:List Sl)(σ:L2.St)(H:Hp)(ρ₀:List Sl)(H₀:Hp)(v:V):Arg->Prop|.dat d=>Rep K F v d|.tmp ds=>∃x xs,v=.ref x/\H x=some (.lst xs)/\F x=none/\aB K F xs ds/\¬ Own ρ σ x/\(Own ρ₀ σ x\/H₀ x=none)|.eX i=>σ[i]?=some (some v)
structure wD(K:PySem.W.Frag)(F:Hp)(ρ:List Sl)(σ:L2.St)(H:Hp)(ρ₀:List Sl)(H₀:Hp)(as:List Arg)(vs:List V):Prop where
 len:as.length=vs.length
 one:∀(j:Nat)(a:Arg)(v:V),as[j]?=some a->vs[j]?=some v->yq K F ρ σ H ρ₀ H₀ v a
 dis:∀(j k:Nat)(ds es:List D)(x:Addr),as[j]?=some (.tmp ds)->as[k]?=some (.tmp es)->vs[j]?=some (.ref x)->vs[k]?=some (.ref x)->j=k
theorem yq.later{b H':Hp}{a:Arg}(s:au K F ρ σ H b ρ' σ H')(h:yq K F ρ σ H ρ₀ H₀ v a):yq K b ρ' σ H' ρ₀ H₀ v a:=by cases a with|dat d=>exact Rep.mono s.cV h|eX i=>exact h|tmp ds=>
   obtain⟨x,xs,h1,c,f,g,e,j⟩:=h;refine⟨x,xs,h1,s.keep x _ c e,?_,g.mono s.cV,λo=>?_,j⟩;.cases q:b x with|none=>rfl|some o=>
       rcases s.uU x f (by rw[q];simp)with z|z;.exact absurd z e
       .exact(Hd c z).elim
   . rcases s.uV x o with z|z;.exact e z
     .rw[c]at z;cases z
theorem wD.nil:wD K F ρ σ H ρ₀ H₀ [] []:=⟨rfl,λj a v h=>by simp at h,λj k ds es x h=>by simp at h⟩
theorem wD.cons{F H H₀:Hp}{ρ ρ₀:List Sl}{σ:L2.St}{a:Arg}{v:V}{as:List Arg}{vs:List V}(h:yq K F ρ σ H ρ₀ H₀ v a)(t:wD K F ρ σ H ρ₀ H₀ as vs)(hd:∀ds x,a=.tmp ds->v=.ref x->∀(k:Nat)es,as[k]?=some (.tmp es)->vs[k]?≠some (.ref x)):wD K F ρ σ H ρ₀ H₀ (a::as) (v::vs):=by
 refine⟨by simp[t.len],λj b u h1 c=>?_,λj k ds es x h1 c e f=>?_⟩;.cases j with|zero=>simp at h1 c;subst h1;subst c;exact h|succ j=>exact t.one j b u (by simpa using h1) (by simpa using c)
 .cases j with
   |zero=>cases k with|zero=>rfl|succ k=>simp at h1 e;exact absurd (by simpa using f) (hd ds x h1 e k es (by simpa using c))
   |succ j=>cases k with|zero=>simp at c f;exact absurd (by simpa using e) (hd es x c f j ds (by simpa using h1))|succ k=>rw[t.dis j k ds es x (by simpa using h1) (by simpa using c) (by simpa using e) (by simpa using f)]
noncomputable def zV:Sl->Option Sl|.own _ ds=>some (.own true ds)|.lent ds=>some (.lent ds)|.pot _ ns m k=>some (.pot true ns m k)|_=>none
theorem dN{s1 s:Sl}(h:zV s1=some s):(∃o,lst? s1=some o/\lst? s=some o)/\rO s=true:=by cases s1<;>cases h<;>exact⟨⟨_,rfl,rfl⟩,rfl⟩
def Fj(ρ:List Sl):Arg->Sl->Prop|.dat d,s=>s=.val false d|.tmp ds,s=>s=.own false ds|.eX i,s=>(∃b d,ρ[i]?=some (.val b d)/\s=.val false d)\/∃s1,ρ[i]?=some s1/\zV s1=some s
theorem oU{ρ:List Sl}:∀{as:List Arg}{c:List Nat}{args:List Sl},bJ ρ as c=some args->args.length=as.length/\(∀(j:Nat)(a:Arg)(s:Sl),as[j]?=some a->args[j]?=some s->Fj ρ a s)/\(∀(j:Nat)(i:Nat)(s:Sl)ds,as[j]?=some (.eX i)->args[j]?=some s->lst? s=some ds->i∉c)/\(∀(j k:Nat)(i:Nat)(s t:Sl)ds es,as[j]?=some (.eX i)->as[k]?=some (.eX i)->args[j]?=some s->args[k]?=some t->lst? s=some ds->lst? t=some es->j=k)
 |[],c,args,h=>by rw[xK]at h;cases h;exact⟨rfl,λj a s h=>by simp at h,λj i s ds h=>by simp at h,λj k i s t ds es h=>by simp at h⟩|a::as,c,args,h=>by--the acY slot,the acZ
   have key:∃s0 r u,args=s0::r/\bJ ρ as u=some r/\Fj ρ a s0/\((∃i ds,a=.eX i/\lst? s0=some ds/\u=i::c/\i∉c)\/((∀i ds,a=.eX i->lst? s0≠some ds)/\u=c)):=by cases a with|dat d=>rw[xO]at h;obtain⟨r,l,m⟩:=map_some h;exact⟨_,r,c,m.symm,l,rfl,.inr ⟨λi ds z=>(by cases z),rfl⟩⟩|tmp d=>rw[yD]at h;obtain⟨r,l,m⟩:=map_some h;exact⟨_,r,c,m.symm,l,rfl,.inr ⟨λi ds z=>(by cases z),rfl⟩⟩|eX i=>
      rw[oK]at h;split at h;.rename_i b d q;obtain⟨r,l,m⟩:=map_some h;exact⟨_,r,c,m.symm,l,.inl ⟨b,d,q,rfl⟩,.inr ⟨λ_ _ _ z=>(by cases z),rfl⟩⟩
      iterate 3
       . rename_i q;split at h;.cases h
         .rename_i p;obtain⟨r,l,m⟩:=map_some h;exact⟨_,r,_,m.symm,l,.inr ⟨_,q,rfl⟩,.inl ⟨i,_,rfl,rfl,rfl,by simpa using p⟩⟩
      .cases h
   obtain⟨s0,r,u,rfl,hr,A,p⟩:=key;obtain⟨N,l2,B,O⟩:=oU hr;have sub:∀i,i∉u->i∉c:=λi J L=>by
    rcases p with⟨_,_,_,_,rfl,_⟩|⟨_,rfl⟩;.exact J (mem_cons_of_mem _ L)
    .exact J L
   refine⟨by simp[N],λj b s h1 f=>?_,λj i s ds h1 f o=>?_,λj k i s t ds es h1 f o y C E=>?_⟩;.cases j with|zero=>simp at h1 f;subst h1;subst f;exact A|succ j=>exact l2 j b s (by simpa using h1) (by simpa using f)
   .cases j with|zero=>
       simp at h1 f;subst h1;subst f;rcases p with⟨M,_,e,_,_,g⟩|⟨g,_⟩;.cases e;exact g
       .exact absurd o (g i ds rfl)|succ j=>exact sub i (B j i s ds (by simpa using h1) (by simpa using f) o)
   . have Q:∀(k:Nat)(t:Sl)es,a=.eX i->lst? s0=some ds->(as[k]?=some (.eX i))->r[k]?=some t->lst? t=some es->False:=λk t es w G I ht he=>by
      rcases p with⟨M,_,e,_,rfl,g⟩|⟨g,_⟩;.rw[w]at e;cases e;exact B k i t es I ht he mem_cons_self
      .exact g i ds w G
     have U:∀(k:Nat)(t:Sl)es,a=.eX i->lst? s0=some es->(as[k]?=some (.eX i))->r[k]?=some t->lst? t=some ds->False:=λk t es w G I ht he=>by
      rcases p with⟨M,_,e,_,rfl,g⟩|⟨g,_⟩;.rw[w]at e;cases e;exact B k i t ds I ht he mem_cons_self
      .exact g i es w G
     cases j with
     |zero=>cases k with|zero=>rfl|succ k=>simp at h1 o;subst o;exact(Q k t es h1 C (by simpa using f) (by simpa using y) E).elim
     |succ j=>cases k with|zero=>simp at f y;subst y;exact(U j s es f E (by simpa using h1) (by simpa using o) C).elim|succ k=>rw[O j k i s t ds es (by simpa using h1) (by simpa using f) (by simpa using o) (by simpa using y) C E]
theorem wD.get(A:wD K F ρ σ H ρ₀ H₀ as vs){args:List Sl}{j:Nat}{s:Sl}(c:args.length=as.length)(h:args[j]?=some s):∃a v,as[j]?=some a/\vs[j]?=some v/\yq K F ρ σ H ρ₀ H₀ v a:=by
 have e:j<args.length:=(eN h).1;have h1:j<as.length:=by omega
 have b:j<vs.length:=by rw[<-A.len];exact h1
 exact⟨as[j],vs[j],by simp[h1],by simp[b],A.one j _ _ (by simp[h1]) (by simp[b])⟩
theorem args_gs{args:List Sl}(g:GS K F ρ σ H)(A:wD K F ρ σ H ρ₀ H₀ as vs)(h:bJ ρ as []=some args):GS K F args (vs.map some) H:=by
 obtain⟨J,l2,l3,l4⟩:=oU h;have Q:∀{j:Nat}{v:V},vs[j]?=some v->(vs.map some)[j]?=some (some v):=λe=>by rw[getElem?_map,e];rfl
 have dn:∀{j:Nat}{v:V},(vs.map some)[j]?=some (some v)->vs[j]?=some v:=λ{j v}e=>by rw[getElem?_map]at e;cases q:vs[j]?with|none=>rw[q]at e;cases e|some w=>rw[q]at e;cases e;rfl
 refine⟨g.sub,by rw[J,A.len,length_map],λj b d e=>?_,λj s ds e N=>?_,λj k x⟨⟨s,ds,e1,e2⟩,O⟩⟨⟨t,es,f1,f2⟩,f3⟩=>?_⟩;.obtain⟨a,v,h1,B,c⟩:=A.get J e;have C:=l2 j a _ h1 e;refine⟨v,Q B,?_⟩;cases a with|dat d'=>cases C;exact c|tmp ds=>cases C|eX i=>
     rcases C with⟨b',d',u,f⟩|⟨_,_,f⟩;.cases f;obtain⟨w,p,r⟩:=g.val i b' d u;have c:σ[i]?=some (some v):=c;rw[c]at p;cases p;exact r
     .obtain⟨⟨_,_,z⟩,_⟩:=dN f;cases z
 .obtain⟨a,v,h1,B,c⟩:=A.get J e;have C:=l2 j a _ h1 e;cases a with|dat d'=>cases C;cases N|tmp es=>cases C;cases N;obtain⟨x,xs,rfl,f,p,r,_⟩:=c;exact⟨x,_,Q B,f,p,xs,rfl,r⟩|eX i=>
     have c:σ[i]?=some (some v):=c;rcases C with⟨b',d',u,f⟩|⟨s1,u,f⟩;.cases f;cases N
     .obtain⟨⟨o,U,z2⟩,_⟩:=dN f;rw[N]at z2;cases z2;obtain⟨x,xs,p,r⟩:=g.own i _ _ u U;rw[c]at p;cases p;exact⟨x,xs,Q B,r⟩
 . obtain⟨a,v,h1,B,c⟩:=A.get J e1;obtain⟨W,v',E,L,G⟩:=A.get J f1;have O:=dn O;have f3:=dn f3;rw[B]at O;cases O;rw[L]at f3;cases f3;have s1:=l2 j a _ h1 e1;have s2:=l2 k W _ E f1;have X:∀{i:Nat}{s:Sl}{ds:Oc},lst? s=some ds->Fj ρ (.eX i) s->∃I m,ρ[i]?=some I/\lst? I=some m:=λ{i s ds}l z=>by
    rcases z with⟨_,_,_,z⟩|⟨s1,q,z⟩;.subst z;cases l
    .obtain⟨⟨o,U,_⟩,_⟩:=dN z;exact⟨_,_,q,U⟩
   cases a with
   |dat d=>cases s1;cases e2|tmp Vc=>cases W with|dat d=>cases s2;cases f2|tmp M=>exact A.dis j k Vc M x h1 E B L|eX i=>obtain⟨y,_,u,_,_,_,f,_⟩:=c;cases u;obtain⟨I,m,p,r⟩:=X f2 s2;exact absurd ⟨i,⟨I,m,p,r⟩,G⟩ f
   |eX i=>obtain⟨I,m,p,r⟩:=X e2 s1;cases W with|dat d=>cases s2;cases f2|tmp M=>obtain⟨y,_,u,_,_,_,f,_⟩:=G;cases u;exact absurd ⟨i,⟨I,m,p,r⟩,c⟩ f|eX i'=>obtain⟨Y,Z,q5,q6⟩:=X f2 s2;have:=g.dis i i' x ⟨⟨I,m,p,r⟩,c⟩ ⟨⟨Y,Z,q5,q6⟩,G⟩;subst this;exact l4 j k i s t ds es h1 E e1 f1 e2 f2
theorem mH{as:List Arg}{ss:List Sl}:∀(ρ:List Sl)(n i:Nat),(dO as ss n ρ)[i]?=(ρ[i]?).map λs=>dD s (aN (n+i) as ss)
 |[],n,i=>by simp[o5,jX]|s::ρ,n,0=>by simp[o5,jX]|s::ρ,n,i+1=>by
   rw[jX];simp only[List.getElem?_cons_succ];rw[mH ρ (n+1) i];have:n+1+i=n+(i+1):=by omega
   rw[this]
theorem lH{as:List Arg}{ss:List Sl}:∀(ρ:List Sl)(n:Nat),(dO as ss n ρ).length=ρ.length|[],n=>rfl|s::ρ,n=>by rw[jX];simp[lH ρ]
theorem iM{i:Nat}:∀{as:List Arg}{ss:List Sl}{t:Sl},aN i as ss=some t->∃j:Nat,as[j]?=some (.eX i)/\ss[j]?=some t
 |[],_,_,h=>by simp[aN]at h|a::as,[],_,h=>by cases a<;>simp[aN]at h|a::as,s::ss,t,h=>by
   have b:aN i as ss=some t->∃j:Nat,(a::as)[j]?=some (.eX i)/\(s::ss)[j]?=some t:=λh=>by obtain⟨j,h1,c⟩:=iM h;exact⟨j+1,by simpa using h1,by simpa using c⟩
   cases a with|dat d=>exact b (by simpa[aN]using h)|tmp d=>exact b (by simpa[aN]using h)|eX k=>
     rw[aN]at h;split at h;.rename_i e;cases h;subst e;exact⟨0,rfl,rfl⟩
     .exact b h
theorem jO{i:Nat}:∀{as:List Arg}{ss:List Sl},as.length=ss.length->aN i as ss=none->∀j:Nat,as[j]?≠some (.eX i)
 |[],_,_,_=>λj h=>by simp at h|a::as,[],b,_=>by simp at b|a::as,s::ss,b,h=>λj c=>by
   have f:as.length=ss.length:=by simpa using b
   have g:aN i as ss=none/\a≠.eX i:=by cases a with|dat d=>exact⟨by simpa[aN]using h,by simp⟩|tmp d=>exact⟨by simpa[aN]using h,by simp⟩|eX k=>
      rw[aN]at h;split at h;.cases h
      .rename_i l;exact⟨h,λe=>l (by cases e;rfl)⟩
   cases j with|zero=>simp at c;exact g.2 c|succ j=>exact jO f g.1 j (by simpa using c)
theorem Fw{W Y H':Hp}{args c:List Sl}{Z:L2.St}(s0:au K W ρ₀ σ H₀ F ρ σ H)(A:wD K F ρ σ H ρ₀ H₀ as vs)(hb:bJ ρ as []=some args)(s:au K F args (vs.map some) H Y c Z H'):au K W ρ₀ σ H₀ Y (dO as c 0 ρ) σ H'/\∀v r,cH K Y c Z H' args (vs.map some) H v r->cH K Y (dO as c 0 ρ) σ H' ρ₀ σ H₀ v r:=by
 have g:=s0.gs;obtain⟨l1,l2,l3,l4⟩:=oU hb;have up:∀{j:Nat}{v:V},vs[j]?=some v->(vs.map some)[j]?=some (some v):=λe=>by rw[getElem?_map,e];rfl
 have dn:∀{j:Nat}{v:V},(vs.map some)[j]?=some (some v)->vs[j]?=some v:=λ{j v}e=>by rw[getElem?_map]at e;cases q:vs[j]?with|none=>rw[q]at e;cases e|some w=>rw[q]at e;cases e;rfl
 have la:as.length=c.length:=by rw[s.len,l1]--whose are the lists that the callee holds
 have own:∀b,Own args (vs.map some) b->(∃(j:Nat)(ds:List D),as[j]?=some (Arg.tmp ds)/\vs[j]?=some (V.ref b)/\¬ Own ρ σ b/\(Own ρ₀ σ b\/H₀ b=none))\/Own ρ σ b:=λb⟨j,⟨sl,ds,I,X⟩,e3⟩=>by obtain⟨a,v,h1,J,L⟩:=A.get l1 I;have s1:=l2 j a _ h1 I;have e3:=dn e3;rw[J]at e3;cases e3;cases a with|dat d=>cases s1;cases X|tmp es=>obtain⟨x,_,u,_,_,_,f,U⟩:=L;cases u;exact .inl ⟨j,es,h1,J,f,U⟩|eX i=>
    right;rcases s1 with⟨_,_,_,z⟩|⟨_,q,z⟩;.subst z;cases X
    .obtain⟨⟨o,y,_⟩,_⟩:=dN z;exact⟨i,⟨_,_,q,y⟩,L⟩
 have back:∀b,Own ρ σ b\/H b=none->Own ρ₀ σ b\/H₀ b=none:=λb h=>by
  rcases h with h|h;.exact s0.uV b h
  . by_cases ho:Own ρ₀ σ b;.exact .inl ho
    .right;cases e:H₀ b with|none=>rfl|some o=>rw[s0.keep b o e ho]at h;cases h
 have M:∀b,Own args (vs.map some) b->Own ρ₀ σ b\/H₀ b=none:=λb h=>by
  rcases own b h with⟨_,_,_,_,_,z⟩|z;.exact z
  .exact back b (.inl z)--a name's slot behind the call
 have slot:∀{i:Nat}{t:Sl},(dO as c 0 ρ)[i]?=some t->∃s1,ρ[i]?=some s1/\t=dD s1 (aN i as c):=λ{i t}h=>by rw[mH]at h;obtain⟨s1,I,X⟩:=map_some h;exact⟨s1,I,by rw[<-X,Nat.zero_add]⟩
 have Yn:∀{i:Nat}{s1:Sl},ρ[i]?=some s1->(dO as c 0 ρ)[i]?=some (dD s1 (aN i as c)):=λ{i s1}h=>by rw[mH,h,Nat.zero_add];rfl--what the callee left of a list that was lent to it
 have lent:∀{i j:Nat}{s1 t:Sl}{o:Oc},ρ[i]?=some s1->lst? s1=some o->as[j]?=some (.eX i)->c[j]?=some t->∃v s2,σ[i]?=some (some v)/\Z[j]?=some (some v)/\args[j]?=some s2/\lz s2 t/\zV s1=some s2:=λ{i j s1 t o}h1 J L h4=>by
  have hj:j<args.length:=by rw[l1];exact(eN L).1
  have I:args[j]?=some args[j]:=by simp[hj]
  obtain⟨a,v,u,f,U⟩:=A.get l1 I;rw[L]at u;cases u;have kind:zV s1=some args[j]:=by
   rcases l2 j _ _ L I with⟨_,_,z,_⟩|⟨_,z,z'⟩;.rw[h1]at z;cases z;cases J
   .rw[h1]at z;cases z;exact z'
  obtain⟨y,s',B,z3⟩:=s.lk j _ I (dN kind).2;rw[h4]at B;cases B;exact⟨v,_,U,by rw[y];exact up f,I,z3,kind⟩
 have Mm:∀{i:Nat}{x:Addr},aM (dO as c 0 ρ) σ i x->aM ρ σ i x:=λ{i x}⟨⟨t,ds,I,X⟩,e3⟩=>by obtain⟨s1,u,f⟩:=slot I;refine⟨?_,e3⟩;cases s1 with|aL=>subst f;cases X|val b d=>subst f;cases X|own b es=>exact⟨_,_,u,rfl⟩|lent es=>exact⟨_,_,u,rfl⟩|gF m=>exact⟨_,_,u,rfl⟩|cY m=>exact⟨_,_,u,rfl⟩|pot _ _ _ _=>exact⟨_,_,u,rfl⟩|hold _=>subst f;cases X
 refine⟨?_,λv r h=>?_⟩;rotate_left;.cases r with|val d=>exact h|own ds=>
     obtain⟨x,xs,h1,J,L,h4,h5,h6⟩:=h;refine⟨x,xs,h1,J,L,h4,λ⟨i,h⟩=>?_,?_⟩
     . have hO:=Mm h;obtain⟨⟨s1,Vc,u,f⟩,U⟩:=hO;obtain⟨x',ah,w1,w2,_⟩:=g.own i s1 Vc u f;rw[U]at w1;cases w1;rcases h6 with h6|h6
       . rcases own x h6 with⟨_,_,_,_,z,_⟩|_;.exact z ⟨i,⟨s1,Vc,u,f⟩,U⟩
         .--a name was lent
           obtain⟨j,⟨sl,es,w3,w4⟩,w5⟩:=h6;obtain⟨a',v',G,N,y3⟩:=A.get l1 w3;have sa:=l2 j a' _ G w3;have w5:=dn w5;rw[N]at w5;cases w5;cases a' with|dat d=>cases sa;cases w4|tmp ai=>obtain⟨_,_,u1,_,_,_,u2,_⟩:=y3;cases u1;exact u2 ⟨i,⟨s1,Vc,u,f⟩,U⟩|eX i'=>
             have ex:∃s' ac,ρ[i']?=some s'/\lst? s'=some ac:=by
              rcases sa with⟨_,_,_,z⟩|⟨_,q,z⟩;.subst z;cases w4
              .obtain⟨⟨o,y,_⟩,_⟩:=dN z;exact⟨_,_,q,y⟩
             have:=g.dis i i' x ⟨⟨s1,Vc,u,f⟩,U⟩ ⟨ex,y3⟩;subst this;have hj:j<c.length:=by rw[<-la];exact(eN G).1
             have C:c[j]?=some c[j]:=by simp[hj]
             obtain⟨v2,s2,u1,u2,u3,u4,u5⟩:=lent u f G C;rw[U]at u1;cases u1--the slot behind the call is a list's
             obtain⟨⟨t,dt,t1,t2⟩,_⟩:=h;obtain⟨s3,t3,t4⟩:=slot t1;rw[u]at t3;cases t3;have lo:∃t5,aN i as c=some t5:=by cases E:aN i as c with|none=>exact absurd G (jO la E j)|some t5=>exact⟨t5,rfl⟩
             obtain⟨t5,E⟩:=lo;obtain⟨j2,t6,t7⟩:=iM E;have al:j2<args.length:=by rw[l1];exact(eN t6).1
             obtain⟨_,s6,_,am,ae,ap,af⟩:=lent u f t6 t7;have ag:j2=j:=by obtain⟨⟨_,_,a1⟩,_⟩:=dN af;obtain⟨⟨_,_,a2⟩,_⟩:=dN u5;exact l4 j2 j i s6 s2 _ _ t6 G ae u3 a1 a2
             subst ag;rw[C]at t7;cases t7;rw[E]at t4;refine h5 ⟨j2,?_,u2⟩
             cases s1 with|own b d=>
               cases u5;rcases u4 with⟨d2,z⟩|⟨d2,z⟩;.exact⟨_,.l d2,C,by rw[z];rfl⟩
               .rw[z]at t4;subst t4;cases t2|lent d=>cases u5;exact⟨_,.l d,C,by rw[show c[j2]=.lent d from u4];rfl⟩|pot b ns m k=>cases u5;obtain⟨ns',m',k',z⟩:=u4;exact⟨_,.p ns' m' k',C,by rw[z];rfl⟩|_=>cases u5
       .rw[w2]at h6;cases h6
     . rcases h6 with h6|h6;.exact M x h6
       .exact back x (.inr h6)
 refine⟨⟨s.gs.sub,by rw[lH];exact g.len,λi b d e=>?_,λi t ds e C=>?_,λi j x h1 J=>g.dis i j x (Mm h1) (Mm J)⟩,s0.cV.trans s.cV,λb n n'=>?_,λb o h n=>?_,λb⟨i,h⟩=>back b (.inl ⟨i,Mm h⟩),by rw[lH];exact s0.len,λi s1 h l=>?_⟩;.--data
   obtain⟨s1,u,f⟩:=slot e;cases s1 with
   |aL=>cases f|lent es=>cases f|gF _=>cases f|cY _=>cases f|hold _=>cases f|pot _ _ _ _=>cases E:aN i as c with|none=>rw[E]at f;cases f|some t=>rw[E]at f;cases t<;>cases f
   |val b' d'=>cases f;obtain⟨v,y,B⟩:=g.val i b d u;exact⟨v,y,B.mono s.cV⟩|own b' es=>cases E:aN i as c with|none=>rw[E]at f;cases f|some t=>rw[E]at f;obtain⟨j,y,B⟩:=iM E;obtain⟨v,s2,G,N,y3,y4,Q⟩:=lent u rfl y B;cases t with|aL=>cases f|own _ _=>cases f|lent _=>cases f|gF _=>cases f|cY _=>cases f|hold _=>cases f|pot _ _ _ _=>cases f|val b2 d2=>cases f;obtain⟨w,O,x2⟩:=s.gs.val j b2 d B;rw[N]at O;cases O;exact⟨v,G,x2⟩
 .--lists
   obtain⟨s1,u,f⟩:=slot e--a list that was not lent
   have stay:∀es,lst? s1=some es->(∀j:Nat,as[j]?≠some (.eX i))->t=s1->∃(a:Addr)(xs:HO),σ[i]?=some (some (V.ref a))/\H' a=some xs/\Y a=none/\iY K Y xs ds:=λes he hn ht=>by
    subst ht;rw[he]at C;cases C;obtain⟨a,xs,y,B,z3,z4⟩:=g.own i _ ds u he;have no:¬ Own args (vs.map some) a:=λh=>by obtain⟨j,⟨sl,es,w1,w2⟩,w3⟩:=h;obtain⟨a',v,h1,J,L⟩:=A.get l1 w1;have sa:=l2 j a' _ h1 w1;have w3:=dn w3;rw[J]at w3;cases w3;cases a' with|dat d=>cases sa;cases w2|tmp es=>obtain⟨x,_,G,_,_,_,N,_⟩:=L;cases G;exact N ⟨i,⟨_,ds,u,he⟩,y⟩|eX i'=>
       have:∃s' ac,ρ[i']?=some s'/\lst? s'=some ac:=by
        rcases sa with⟨_,_,_,z⟩|⟨_,q,z⟩;.subst z;cases w2
        .obtain⟨⟨o,y,_⟩,_⟩:=dN z;exact⟨_,_,q,y⟩
       have:=g.dis i i' a ⟨⟨_,ds,u,he⟩,y⟩ ⟨this,L⟩;subst this;exact hn j h1
    refine⟨a,xs,y,s.keep a _ B no,?_,z4.mono s.cV⟩;cases q:Y a with|none=>rfl|some o=>
      rcases s.uU a z3 (by rw[q];simp)with z|z;.exact absurd z no
      .rw[B]at z;exact(xN z4 z).elim
   cases E:aN i as c with
   |none=>have hn:=jO la E;rw[E]at f;cases s1 with|aL=>subst f;cases C|val b' d'=>subst f;cases C|own b' es=>exact stay _ rfl hn f|lent es=>exact stay _ rfl hn f|gF m=>exact stay _ rfl hn f|cY m=>exact stay _ rfl hn f|pot _ _ _ _=>exact stay _ rfl hn f|hold _=>subst f;cases C
   |some t2=>rw[E]at f;obtain⟨j,y,B⟩:=iM E;cases s1 with|aL=>subst f;cases C|val b' d'=>subst f;cases C|hold _=>subst f;cases C|gF m=>obtain⟨_,_,_,_,_,_,Q⟩:=lent u rfl y B;cases Q|cY m=>obtain⟨_,_,_,_,_,_,Q⟩:=lent u rfl y B;cases Q|own b' es=>obtain⟨v,s2,G,N,y3,y4,Q⟩:=lent u rfl y B;cases Q;rcases y4 with⟨_,rfl⟩|⟨_,rfl⟩<;>(subst f;cases C);obtain⟨a,xs,O,x2⟩:=s.gs.own j _ _ B rfl;rw[N]at O;cases O;exact⟨a,xs,G,x2⟩|lent es=>obtain⟨v,s2,G,N,y3,y4,Q⟩:=lent u rfl y B;cases Q;cases(show t2=.lent es from y4);subst f;cases C;obtain⟨a,xs,O,x2⟩:=s.gs.own j _ _ B rfl;rw[N]at O;cases O;exact⟨a,xs,G,x2⟩|pot b' ns m k=>obtain⟨v,s2,G,N,y3,y4,Q⟩:=lent u rfl y B;cases Q;obtain⟨_,_,_,rfl⟩:=y4;subst f;cases C;obtain⟨a,xs,O,x2⟩:=s.gs.own j _ _ B rfl;rw[N]at O;cases O;exact⟨a,xs,G,x2⟩
 . by_cases q:F b=none
   . rcases s.uU b q n' with z|z;.exact(M b z).imp id jC
     . by_cases ho:Own ρ₀ σ b;.exact .inl ho
       .right;cases f:H₀ b with|none=>rfl|some o=>rw[s0.keep b o f ho]at z;exact z
   .exact s0.uU b n q
 . refine s.keep b o (s0.keep b o h n) λz=>?_;rcases M b z with z|z;.exact n z
   .rw[h]at z;cases z
 .obtain⟨I,s2,J,k2⟩:=s0.lk i s1 h l;refine⟨I,_,Yn J,?_⟩;have S5:=k2.rO l;refine lz.trans l k2 ?_;cases s2 with
   |aL=>cases S5|gF _=>cases S5|cY _=>cases S5|hold _=>exact lz.refl _|val b d=>exact lz.refl _|pot b _ _ _=>cases b with|false=>cases S5|true=>cases aN i as c with|none=>exact⟨_,_,_,rfl⟩|some t=>cases t<;>exact⟨_,_,_,rfl⟩
   |lent es=>cases aN i as c with|none=>rfl|some t=>cases t<;>rfl
   |own b es=>cases b with|false=>cases S5|true=>cases aN i as c with|none=>exact .inl ⟨_,rfl⟩|some t=>cases t with|aL=>exact .inl ⟨_,rfl⟩|lent _=>exact .inl ⟨_,rfl⟩|gF _=>exact .inl ⟨_,rfl⟩|cY _=>exact .inl ⟨_,rfl⟩|hold _=>exact .inl ⟨_,rfl⟩|pot _ _ _ _=>exact .inl ⟨_,rfl⟩|own _ ds=>exact .inl ⟨_,rfl⟩|val _ d=>exact .inr ⟨_,rfl⟩
theorem wD.rebase{F1 g k l:Hp}{c f:List Sl}(a:au K F ρ σ H F1 c σ g)(A:wD K k f σ l c g as vs):wD K k f σ l ρ H as vs:=by refine⟨A.len,λj b v h1 m=>?_,A.dis⟩;have h:=A.one j b v h1 m;cases b with|dat d=>exact h|eX i=>exact h|tmp ds=>
   obtain⟨x,xs,p,q,r,s,t,q6⟩:=h;refine⟨x,xs,p,q,r,s,t,?_⟩;rcases q6 with q6|q6;.exact a.uV x q6
   . by_cases ho:Own ρ σ x;.exact .inl ho
     .right;cases e:H x with|none=>rfl|some o=>rw[a.keep x o e ho]at q6;cases q6
theorem wD.V1{F1 c e f:Hp}{a b:List Sl}{r:R}(s1:au K F ρ σ H F1 a σ c)(g:cH K F1 a σ c ρ σ H v r)(s2:au K F1 a σ c e b σ f)(A:wD K e b σ f a c as vs):wD K e b σ f ρ H (rT r::as) (v::vs):=by
 have h1:yq K F1 a σ c ρ H v (rT r):=by cases r with|val d=>exact g|own ds=>exact g
 refine .cons (h1.later s2) (A.rebase s1) λds x m ev k es o j=>?_;cases r with|val d=>cases m|own p=>
   obtain⟨y,xs,l,q,u,w,s,B⟩:=g;rw[ev]at l;cases l;have h:=A.one k _ _ o j;obtain⟨z,C,t,_,_,_,_,w6⟩:=h;cases t;rcases w6 with w6|w6;.exact s w6
   .rw[q]at w6;cases w6
end
section
variable{K:PySem.W.Frag}{F F1 H H1:Hp}{ρ ρ1 ρ2:List Sl}{σ σ1:L2.St}
theorem ql{s:Sl}(h:put ρ i s=some ρ1):∃s0,ρ[i]?=some s0/\rO s0=false/\ρ1=ρ.set i s:=by
 unfold put at h;split at h;.rename_i q;cases h;exact⟨_,q,rfl,rfl⟩
 .rename_i q;cases h;exact⟨_,q,rfl,rfl⟩
 .rename_i q;cases h;exact⟨_,q,rfl,rfl⟩
 .cases h
theorem au.put{r:R}(s:au K F ρ σ H F1 ρ1 σ1 H1)(y:cH K F1 ρ1 σ1 H1 ρ σ H v r)(h:HH.put ρ1 i (xM r)=some ρ2):au K F ρ σ H F1 ρ2 (σ1.set i (some v)) H1:=by
 obtain⟨s0,h0,B,rfl⟩:=ql h;have w:i<ρ1.length:=(eN h0).1;have m:i<σ1.length:=by rw[<-s.gs.len];exact w
 have f:∀{j:Nat}{a:Addr},j≠i->aM (ρ1.set i (xM r)) (σ1.set i (some v)) j a->aM ρ1 σ1 j a:=λ{j a}c⟨⟨t,ds,o,p⟩,g⟩=>by rw[dB c]at o g;exact⟨⟨t,ds,o,p⟩,g⟩
 have new:∀{a:Addr},aM (ρ1.set i (xM r)) (σ1.set i (some v)) i a->¬ Own ρ1 σ1 a/\(Own ρ σ a\/H a=none):=λ{a}⟨⟨t,ds,o,p⟩,g⟩=>by rw[getElem?_set_self w]at o;rw[getElem?_set_self m]at g;cases o;cases g;cases r with|val d=>cases p|own es=>obtain⟨x,xs,I,C,E,G,J,L⟩:=y;cases I;exact⟨J,L⟩
 refine⟨⟨s.gs.sub,by simp[s.gs.len],λj b d e=>?_,λj t ds e z=>?_,λj k a h1 A=>?_⟩,s.cV,s.uU,s.keep,λa⟨j,c⟩=>?_,by simp[s.len],λj t e l=>?_⟩
 . by_cases c:j=i;.subst c;rw[getElem?_set_self w]at e;cases r with|own es=>cases e|val d'=>cases e;exact⟨v,getElem?_set_self m,y⟩
   .rw[dB c]at e ⊢;exact s.gs.val j b d e
 . by_cases c:j=i;.subst c;rw[getElem?_set_self w]at e;cases r with|val d'=>cases e;cases z|own es=>cases e;cases z;obtain⟨x,xs,rfl,C,E,G,_⟩:=y;exact⟨x,_,getElem?_set_self m,C,E,xs,rfl,G⟩
   .rw[dB c]at e ⊢;exact s.gs.own j t ds e z
 . by_cases c:j=i
   . by_cases q:k=i;.rw[c,q]
     .subst c;exact absurd ⟨k,f q A⟩ (new h1).1
   . by_cases q:k=i;.subst q;exact absurd ⟨j,f c h1⟩ (new A).1
     .exact s.gs.dis j k a (f c h1) (f q A)
 . by_cases u:j=i;.subst u;exact(new c).2
   .exact s.uV a ⟨j,f u c⟩
 . obtain⟨o,t1,p,g⟩:=s.lk j t e l;have c:j≠i:=by rintro rfl;rw[h0]at p;cases p;rw[g.rO l]at B;cases B
   exact⟨by rw[dB c];exact o,t1,by rw[dB c];exact p,g⟩
theorem GS.mut{x:Nat}{b:Bool}{es:List D}{a:Addr}{ys:List V}(g:GS K F ρ σ H)(e:ρ[x]?=some (.own b ds))(p:σ[x]?=some (some (.ref a)))(r:aB K F ys es):au K F ρ σ H F (ρ.set x (.own b es)) σ (upd H a (.lst ys)):=by
 have s:x<ρ.length:=(eN e).1;have y:aM ρ σ x a:=⟨⟨_,_,e,rfl⟩,p⟩;obtain⟨L,xs,h1,M,z,N⟩:=g.qJ x _ ds e rfl;rw[p]at h1;cases h1;have h:∀{j:Nat}{c:Addr},aM (ρ.set x (.own b es)) σ j c->aM ρ σ j c:=λ{j c}⟨⟨t,dt,m,u⟩,q3⟩=>by
  by_cases f:j=x;.subst f;exact⟨⟨_,_,e,rfl⟩,q3⟩
  .rw[dB f]at m;exact⟨⟨t,dt,m,u⟩,q3⟩
 refine⟨⟨λc o q=>?_,by simp[g.len],λj B d q=>?_,λj t dt q w=>?_,λj k c m u=>g.dis j k c (h m) (h u)⟩,.refl _,λc n C=>absurd n C,λc o q n=>?_,λc⟨j,q⟩=>.inl ⟨j,h q⟩,by simp,λj t q l=>⟨rfl,?_⟩⟩
 . have:c≠a:=by rintro rfl;rw[z]at q;cases q
   rw[ao this];exact g.sub c o q
 . by_cases f:j=x;.subst f;rw[getElem?_set_self s]at q;cases q
   .rw[dB f]at q;exact g.val j B d q
 . by_cases f:j=x;.subst f;rw[getElem?_set_self s]at q;cases q;cases w;exact⟨a,_,p,aA,z,ys,rfl,r⟩
   . rw[dB f]at q;obtain⟨c,E,A,G,I,J⟩:=g.own j t dt q w;have:c≠a:=by rintro rfl;exact f (g.dis j x c ⟨⟨t,dt,q,w⟩,A⟩ y)
     exact⟨c,E,A,by rw[ao this];exact G,I,J⟩
 . have:c≠a:=by rintro rfl;exact n ⟨x,y⟩
   rw[ao this];exact q
 . by_cases f:j=x;.subst f;rw[e]at q;cases q;refine⟨_,getElem?_set_self s,?_⟩;cases b with|true=>exact .inl ⟨_,rfl⟩|false=>cases l
   .exact⟨t,by rw[dB f];exact q,.refl t⟩
theorem GS.lend{b:Bool}(g:GS K F ρ σ H)(e:ρ[i]?=some (.own b ds)):GS K F (ρ.set i (.lent ds)) σ H:=by
 have m:i<ρ.length:=(eN e).1;have f:∀{j:Nat}{c:Addr},aM (ρ.set i (.lent ds)) σ j c->aM ρ σ j c:=λ{j c}⟨⟨t,dt,h,l⟩,q3⟩=>by
  by_cases a:j=i;.subst a;exact⟨⟨_,_,e,rfl⟩,q3⟩
  .rw[dB a]at h;exact⟨⟨t,dt,h,l⟩,q3⟩
 refine⟨g.sub,by simp[g.len],λj p d q=>?_,λj t dt q o=>?_,λj k c h l=>g.dis j k c (f h) (f l)⟩
 . by_cases a:j=i;.subst a;rw[getElem?_set_self m]at q;cases q
   .rw[dB a]at q;exact g.val j p d q
 . by_cases a:j=i;.subst a;rw[getElem?_set_self m]at q;cases q;cases o;exact g.own j _ _ e rfl
   .rw[dB a]at q;exact g.own j t dt q o
theorem au.aZ{b:Bool}(g:GS K F ρ σ H)(e:ρ[i]?=some (.own b ds))(s:au K F (ρ.set i (.lent ds)) σ H F1 ρ1 σ1 H1):au K F ρ σ H F1 (ρ1.set i (.own b ds)) σ1 H1/\∀v r,cH K F1 ρ1 σ1 H1 (ρ.set i (.lent ds)) σ H v r->cH K F1 (ρ1.set i (.own b ds)) σ1 H1 ρ σ H v r:=by
 have C:i<ρ.length:=(eN e).1;have h1:(ρ.set i (.lent ds))[i]?=some (.lent ds):=getElem?_set_self C;obtain⟨E,G,z,I⟩:=s.lk i _ h1 rfl;cases(show G=.lent ds from I);have u:i<ρ1.length:=(eN z).1;have A:∀{j:Nat}{c:Addr},aM (ρ.set i (.lent ds)) σ j c->aM ρ σ j c:=λ{j c}⟨⟨t,dt,f,p⟩,m⟩=>by
  by_cases a:j=i;.subst a;exact⟨⟨_,_,e,rfl⟩,m⟩
  .rw[dB a]at f;exact⟨⟨t,dt,f,p⟩,m⟩
 have J:∀{c:Addr},Own ρ σ c->Own (ρ.set i (.lent ds)) σ c:=λ{c}⟨j,⟨t,dt,f,p⟩,m⟩=>by
  by_cases a:j=i;.subst a;exact⟨j,⟨_,_,h1,rfl⟩,m⟩
  .exact⟨j,⟨t,dt,by rw[dB a];exact f,p⟩,m⟩
 have y:∀{j:Nat}{c:Addr},aM (ρ1.set i (.own b ds)) σ1 j c->aM ρ1 σ1 j c:=λ{j c}⟨⟨t,dt,f,p⟩,m⟩=>by
  by_cases a:j=i;.subst a;exact⟨⟨_,_,z,rfl⟩,m⟩
  .rw[dB a]at f;exact⟨⟨t,dt,f,p⟩,m⟩
 have w:∀{c:Addr}{h:Hp},Own (ρ.set i (.lent ds)) σ c\/h c=none->Own ρ σ c\/h c=none:=λ{c h}q=>q.imp (λ⟨j,q⟩=>⟨j,A q⟩) id;have L:∀{c:Addr}{h:Hp},Own (ρ.set i (.lent ds)) σ c\/nt (h c)=none->Own ρ σ c\/nt (h c)=none:=λ{c h}q=>q.imp (λ⟨j,q⟩=>⟨j,A q⟩) id;refine⟨⟨⟨s.gs.sub,by simp[s.gs.len],λj M d q=>?_,λj t dt q B=>?_,λj k c f p=>s.gs.dis j k c (y f) (y p)⟩,s.cV,λc n N=>L (s.uU c n N),λc o q n=>s.keep c o q λ⟨j,x⟩=>n ⟨j,A x⟩,λc⟨j,q⟩=>w (s.uV c ⟨j,y q⟩),by simpa using s.len,λj t q l=>?_⟩,λv r h=>?_⟩
 . by_cases a:j=i;.subst a;rw[getElem?_set_self u]at q;cases q
   .rw[dB a]at q;exact s.gs.val j M d q
 . by_cases a:j=i;.subst a;rw[getElem?_set_self u]at q;cases q;cases B;exact s.gs.own j _ _ z rfl
   .rw[dB a]at q;exact s.gs.own j t dt q B
 . by_cases a:j=i;.subst a;rw[e]at q;cases q;refine⟨E,_,getElem?_set_self u,?_⟩;cases b with|true=>exact .inl ⟨_,rfl⟩|false=>cases l
   .obtain⟨O,t',Q,U⟩:=s.lk j t (by rw[dB a];exact q) l;exact⟨O,t',by rw[dB a];exact Q,U⟩
 .cases r with|val d=>exact h|own es=>obtain⟨x,xs,f,p,m,W,X,Y⟩:=h;exact⟨x,xs,f,p,m,W,λ⟨j,q⟩=>X ⟨j,y q⟩,w Y⟩
theorem GS.give(g:GS K F ρ σ H)(e:ρ[i]?=some (.own false ds)):∃v,σ[i]?=some (some v)/\au K F ρ σ H F (ρ.set i .aL) σ H/\cH K F (ρ.set i .aL) σ H ρ σ H v (.own ds):=by
 have o:i<ρ.length:=(eN e).1;obtain⟨a,xs,h1,s,u,w⟩:=g.qJ i _ ds e rfl;have f:∀{j:Nat}{c:Addr},aM (ρ.set i .aL) σ j c->aM ρ σ j c/\j≠i:=λ{j c}⟨⟨t,dt,h,m⟩,q3⟩=>by
  by_cases b:j=i;.subst b;rw[getElem?_set_self o]at h;cases h;cases m
  .rw[dB b]at h;exact⟨⟨⟨t,dt,h,m⟩,q3⟩,b⟩
 have p:aM ρ σ i a:=⟨⟨_,_,e,rfl⟩,h1⟩;refine⟨.ref a,h1,⟨⟨g.sub,by simp[g.len],λj y d q=>?_,λj t dt q r=>?_,λj k c h m=>g.dis j k c (f h).1 (f m).1⟩,.refl _,λc n z=>absurd n z,λ_ _ q _=>q,λc⟨j,q⟩=>.inl ⟨j,(f q).1⟩,by simp,λj t q l=>⟨rfl,?_⟩⟩,a,xs,rfl,s,u,w,λ⟨j,q⟩=>?_,.inl ⟨i,p⟩⟩
 . by_cases b:j=i;.subst b;rw[getElem?_set_self o]at q;cases q
   .rw[dB b]at q;exact g.val j y d q
 . by_cases b:j=i;.subst b;rw[getElem?_set_self o]at q;cases q;cases r
   .rw[dB b]at q;exact g.own j t dt q r
 . by_cases b:j=i;.subst b;rw[e]at q;cases q;cases l
   .exact⟨t,by rw[dB b];exact q,.refl t⟩
 .exact(f q).2 (g.dis j i a (f q).1 p)
theorem GS.more{τ:List (Option V)}(g:GS K F ρ σ H)(u:τ.length=n):GS K F (ρ++replicate n .aL) (σ++τ) H:=by
 have get:∀{j:Nat}{t:Sl},(ρ++replicate n Sl.aL)[j]?=some t->t≠.aL->ρ[j]?=some t/\j<ρ.length:=λ{j t}q ne=>by
  by_cases h:j<ρ.length;.rw[getElem?_append_left h]at q;exact⟨q,h⟩
  . rw[getElem?_append_right (by omega),List.getElem?_replicate]at q;split at q;.cases q;exact absurd rfl ne
    .cases q
 have m:∀{j:Nat}{v:Option V},j<ρ.length->(σ[j]?=some v↔(σ++τ)[j]?=some v):=λ{j v}h=>by rw[getElem?_append_left (by rw[<-g.len];exact h)]
 have e:∀{j:Nat}{c:Addr},aM (ρ++replicate n .aL) (σ++τ) j c->aM ρ σ j c:=λ{j c}⟨⟨t,dt,o,l⟩,q3⟩=>by obtain⟨h1,f⟩:=get o (by rintro rfl;cases l);exact⟨⟨t,dt,h1,l⟩,(m f).mpr q3⟩
 refine⟨g.sub,by simp[g.len,u],λj b d q=>?_,λj t dt q s=>?_,λj k c o l=>g.dis j k c (e o) (e l)⟩;.obtain⟨h1,f⟩:=get q (by simp);obtain⟨v,p,r⟩:=g.val j b d h1;exact⟨v,(m f).mp p,r⟩
 .obtain⟨h1,f⟩:=get q (by rintro rfl;cases s);obtain⟨a,xs,p,r⟩:=g.own j t dt h1 s;exact⟨a,xs,(m f).mp p,r⟩
theorem au.less{τ:List (Option V)}{m:Nat}(L:m=ρ.length)(g:GS K F ρ σ H)(hn:τ.length=n)(s:au K F (ρ++replicate n .aL) (σ++τ) H F1 ρ1 σ1 H1):au K F ρ σ H F1 (ρ1.take m) (σ1.take m) H1/\∀v r,cH K F1 ρ1 σ1 H1 (ρ++replicate n .aL) (σ++τ) H v r->cH K F1 (ρ1.take m) (σ1.take m) H1 ρ σ H v r:=by
 subst L;have M:ρ.length<=ρ1.length:=by rw[s.len];simp
 have l2:ρ.length<=σ1.length:=by rw[<-s.gs.len];exact M
 have z:∀{y:Type}{l:List y}{j:Nat}{x:y},(l.take ρ.length)[j]?=some x->l[j]?=some x/\j<ρ.length:=λ{y l j x}q=>by
  rw[List.getElem?_take]at q;split at q;.exact⟨q,by assumption⟩
  .cases q
 have B:∀{y:Type}{l:List y}{j:Nat}{x:y},j<ρ.length->l[j]?=some x->(l.take ρ.length)[j]?=some x:=λ{y l j x}f q=>by rw[List.getElem?_take,if_pos f];exact q
 have C:∀{c:Addr},Own (ρ++replicate n .aL) (σ++τ) c->Own ρ σ c:=λ{c}⟨j,⟨t,dt,e,p⟩,u⟩=>by
  by_cases f:j<ρ.length;.rw[getElem?_append_left f]at e;rw[getElem?_append_left (by rw[<-g.len];exact f)]at u;exact⟨j,⟨t,dt,e,p⟩,u⟩
  . rw[getElem?_append_right (by omega),List.getElem?_replicate]at e;split at e;.cases e;cases p
    .cases e
 have N:∀{c:Addr},Own ρ σ c->Own (ρ++replicate n .aL) (σ++τ) c:=λ{c}⟨j,⟨t,dt,e,p⟩,u⟩=>by have f:j<ρ.length:=(eN e).1;exact⟨j,⟨t,dt,by rw[getElem?_append_left f];exact e,p⟩,by rw[getElem?_append_left (by rw[<-g.len];exact f)];exact u⟩
 have A:∀{j:Nat}{c:Addr},aM (ρ1.take ρ.length) (σ1.take ρ.length) j c->aM ρ1 σ1 j c:=λ{j c}⟨⟨t,dt,e,p⟩,u⟩=>⟨⟨t,dt,(z e).1,p⟩,(z u).1⟩;have w:∀{c:Addr}{h:Hp},Own (ρ++replicate n .aL) (σ++τ) c\/h c=none->Own ρ σ c\/h c=none:=λ{c h}q=>q.imp C id;have O:∀{c:Addr}{h:Hp},Own (ρ++replicate n .aL) (σ++τ) c\/nt (h c)=none->Own ρ σ c\/nt (h c)=none:=λ{c h}q=>q.imp C id;refine⟨⟨⟨s.gs.sub,by simp only[length_take];omega,λj b d q=>?_,λj t dt q Q=>?_,λj k c e p=>s.gs.dis j k c (A e) (A p)⟩,s.cV,λc a b=>O (s.uU c a b),λc o q n=>s.keep c o q λx=>n (C x),λc⟨j,q⟩=>w (s.uV c ⟨j,A q⟩),by simp only[length_take];omega,λj t q l=>?_⟩,λv r h=>?_⟩;.obtain⟨h1,E⟩:=z q;obtain⟨v,G,I⟩:=s.gs.val j b d h1;exact⟨v,B E G,I⟩
 .obtain⟨h1,E⟩:=z q;obtain⟨a,xs,G,I⟩:=s.gs.own j t dt h1 Q;exact⟨a,xs,B E G,I⟩
 .have f:j<ρ.length:=(eN q).1;obtain⟨J,t',U,W⟩:=s.lk j t (by rw[getElem?_append_left f];exact q) l;rw[getElem?_append_left (by rw[<-g.len];exact f)]at J;refine⟨?_,t',B f U,W⟩;rw[List.getElem?_take,if_pos f];exact J
 .cases r with|val d=>exact h|own es=>obtain⟨x,xs,e,p,u,X,Y,Z⟩:=h;exact⟨x,xs,e,p,u,X,λ⟨j,q⟩=>Y ⟨j,A q⟩,w Z⟩
end
section
variable{X:Cx}{c:Call}{n:Nat}{e a b d:Expr}{p pa pb pd:P}{pos:Pos}{es:List Expr}{ps:List P}
inductive aa7(K:PySem.W.Frag)(f:List Sl->Res (List Arg))(σ:L2.St)(H:Hp)(Q:List V->Hp->Prop):Prop where|mk(F:Hp)(ρ:List Sl)(as:List Arg)(ρ':List Sl)(g:GS K F ρ σ H)(e:f ρ=.ok as ρ')(k:∀vs F' H',au K F ρ σ H F' ρ' σ H'->wD K F' ρ' σ H' ρ H as vs->Q vs H')
def SG(X:Cx)(c:Call)(es:List Expr)(ps:List P):Prop:=PA X es (aa7 X.K (yH c ps))
theorem aG:SG X c [] []:=wA dR λσ H Q⟨F,ρ,as,ρ',g,e,k⟩=>by rw[Fx]at e;cases e;exact k [] F H (.refl g) .nil
theorem GS.O7{K:PySem.W.Frag}{F H:Hp}{ρ:List Sl}{σ:L2.St}{i:Nat}{d:D}(g:GS K F ρ σ H)(e:HH.O7 ρ i=some d):∃v:V,σ[i]?=some (some v):=by
 unfold HH.O7 at e;split at e;.rename_i h;obtain⟨a,o,h1,_⟩:=g.own i _ _ h rfl;exact⟨_,h1⟩
 .obtain⟨v,h1,_⟩:=g.pk e;exact⟨v,h1⟩
theorem JM(q:SX X c a pa)(hr:SG X c es ps)(hs:starEach (a::es) X.env=(false,eval a X.env)::starEach es X.env:=by rfl):SG X c (a::es) (pa::ps):=by cases hv:isVar pa with|none=>refine wA (cW q.ev hr hs) ?_;rintro σ H Q⟨F,ρ,as,ρ',g,e,k⟩;rw[xZ,hv]at e;obtain⟨r,f,s,e⟩:=aa e;obtain⟨xs,h,j,e⟩:=aa e;cases e;refine⟨F,ρ,r,f,g,s,λv F1 B s1 t=>⟨F1,f,xs,_,s1.gs,j,λvs l m s2 A=>k _ l m (s1.trans s2) (wD.V1 s1 t s2 A)⟩⟩|some i=>refine wA (cW (q.var i hv) hr hs) ?_;rintro σ H Q⟨F,ρ,as,ρ',g,e,k⟩;rw[xZ,hv]at e;obtain⟨x0,u,w,e⟩:=aa e;obtain⟨o,y⟩:=aD w;subst y;obtain⟨xs,h,j,e⟩:=aa e;cases e;obtain⟨v,h1⟩:=g.O7 o;exact⟨v,h1,F,ρ,xs,_,g,j,λvs l m s2 A=>k _ l m s2 (.cons h1 A λds x z=>by cases z)⟩
theorem JZ{k f:Nat}{t:Addr}{fd:FuncData}{j:List Str}(J:lF X.prog X.w X.K X.mg X.base Hh k t fd j (Ig X.K j.length (c f)))(hr:iK k X.A)(L:Gl X x)(M:X.mg x=some (.ref t))(N:keepIn X.K (.ref t)=true)(O:Binds X.K fd j [])(U:SG X c (e::es) ps)(W:(e::es).length=j.length)(u:(x==("__debug__":Str))=false:=by decide)(he:starEach (e::es) X.env=(false,eval e X.env)::starEach es X.env:=by rfl)(hpl:(backTo pos (starEach es X.env)).any (·.1)=false:=by rfl)(y:ps.length=(e::es).length:=by rfl):SX X c (.Call (.Name x p') (e::es) [] pos) (.call f ps):=by
 refine⟨dX (yU (E:=E0) J hr L M N O .nil Nt U u he hpl) ?_,λi h=>by cases h⟩;rintro σ H Q⟨F,ρ,r,ρ',g,e,k⟩;rw[HH.E15]at e;obtain⟨as,z,G,e⟩:=aa e;unfold pF at e;split at e;.cases e
 . rename_i args m;split at e
   . rename_i r' l hc;cases e;refine⟨F,ρ,as,z,g,G,λvs F1 Y s1 A=>?_⟩;have o:vs.length=j.length:=by
      have:∀{ps:List P}{ρ ρ':List Sl}{as:List Arg},yH c ps ρ=.ok as ρ'->as.length=ps.length:=by intro ps;induction ps with|nil=>intro ρ ρ' as h;rw[Fx]at h;cases h;rfl|cons q j I=>
         intro ρ ρ' as h;rw[xZ]at h;split at h;.obtain⟨_,_,_,h⟩:=aa h;obtain⟨xs,B,C,h⟩:=aa h;cases h;simp[I C]
         .obtain⟨_,_,_,h⟩:=aa h;obtain⟨xs,B,C,h⟩:=aa h;cases h;simp[I C]
      rw[<-A.len,this G,y,W]
     show Ig X.K j.length (c f) (vs++[]) Y Q E0;rw[append_nil];refine⟨o,F1,args,r,l,args_gs s1.gs A m,hc,λv Z ac H' s rr=>?_⟩;obtain⟨z1,z2⟩:=Fw s1 A m s;exact k v Z H' z1 (z2 v r rr)
   .cases e
   .cases e
def DY(K:PySem.W.Frag)(D:Ends)(g:Hp)(ρ':List Sl)(f:L2.St)(H':Hp)(ρ:List Sl)(σ:L2.St)(H:Hp)(fl:Fl):Prop:=match fl with|.next=>D.nx f H'|.brk=>D.bk f H'|.cont=>D.ct f H'|.ret r=>∀v,cH K g ρ' f H' ρ σ H v r->D.rt v H'
inductive YZ(K:PySem.W.Frag)(f:List Sl->Res Fl)(D:Ends)(σ:L2.St)(H:Hp):Prop where|mk(F:Hp)(ρ:List Sl)(fl:Fl)(ρ':List Sl)(g:GS K F ρ σ H)(e:f ρ=.ok fl ρ')(k:∀F' σ' H',au K F ρ σ H F' ρ' σ' H'->DY K D F' ρ' σ' H' ρ σ H fl)
def SS(X:Cx)(c:Call)(n:Nat)(st:Stmt)(s:S):Prop:=PS X st (YZ X.K (ex c n s))
def SB(X:Cx)(c:Call)(n:Nat)(st:List Stmt)(s:List S):Prop:=qC X st (YZ X.K (gY c n s))
theorem fB{st:Stmt}{t t':TS}(h:PS X st t)(i:∀D σ H,t' D σ H->t D σ H):PS X st t':=λf s σ H D I q=>h f s σ H D I (i D σ H q)
theorem jm{st:List Stmt}{t t':TS}(h:qC X st t)(i:∀D σ H,t' D σ H->t D σ H):qC X st t':=λf s σ H D I q=>h f s σ H D I (i D σ H q)
theorem xs0{c:Call}:gY c n [] ρ=.ok .next ρ:=rfl
theorem NT{c:Call}{s:S}{r:List S}:gY c n (s::r) ρ=(ex c n s ρ).bind λfl ρ=>match fl with|.next=>gY c n r ρ|fl=>.ok fl ρ:=rfl
theorem aq:SB X c n [] []:=jm jB λD σ H⟨F,ρ,fl,ρ',g,e,k⟩=>by rw[xs0]at e;cases e;exact k F σ H (.refl g)
theorem bA{st:Stmt}{s:S}{f:List Stmt}{ss:List S}(h1:SS X c n st s)(m:SB X c n f ss):SB X c n (st::f) (s::ss):=by refine jm (bR h1 m) ?_;rintro D σ H⟨F,ρ,fl,ρ',g,e,k⟩;rw[NT]at e;obtain⟨f1,h,j,e⟩:=aa e;cases f1 with
 |next=>refine⟨F,ρ,.next,h,g,j,λF1 o y s1=>⟨F1,h,fl,ρ',s1.gs,e,λt l u s2=>?_⟩⟩;have q:=k t l u (s1.trans s2);cases fl with|next=>exact q|brk=>exact q|cont=>exact q|ret r=>exact λv w=>q v (w.later s1)
 |brk=>cases e;exact⟨F,ρ,.brk,_,g,j,k⟩|cont=>cases e;exact⟨F,ρ,.cont,_,g,j,k⟩|ret r=>cases e;exact⟨F,ρ,.ret r,_,g,j,k⟩
theorem Wc{t1 g:TE}(h1:PE X e t1)(j:PE X e g):PE X e (λσ H Q=>t1 σ H Q\/g σ H Q):=λf s σ H Q I h=>h.elim (h1 f s σ H Q I) (j f s σ H Q I)
theorem Sg(he:SX X c e p):SS X c n (.Return (some e) pos) (.ret p):=by
 have plain:∀(D:Ends)(σ:L2.St)(H:Hp),(∃F ρ fl ρ',GS X.K F ρ σ H/\((HH.ev c p ρ).bind λr ρ=>.ok (Fl.ret r) ρ)=.ok fl ρ'/\∀h f H',au X.K F ρ σ H h ρ' f H'->(match fl with|.next=>D.nx f H'|.brk=>D.bk f H'|.cont=>D.ct f H'|.ret r=>∀v,cH X.K h ρ' f H' ρ σ H v r->D.rt v H'))->wL X.K (HH.ev c p) σ H D.rt:=λD σ H⟨F,ρ,fl,ρ',g,e,k⟩=>by obtain⟨r,j,l,e⟩:=aa e;cases e;exact⟨F,ρ,r,_,g,l,λv F1 m s1 o=>k F1 σ m s1 v o⟩
 cases hv:isVar p with|none=>refine fB (tL he.ev) λD σ H⟨F,ρ,fl,ρ',g,e,k⟩=>plain D σ H ⟨F,ρ,fl,ρ',g,?_,k⟩;rw[HH.X10,hv]at e;exact e|some i=>--by the name itself:its own list is handed back,else its data
   have s:p=.var i:=by cases p<;>cases hv;rfl
   subst s;refine fB (tL (Wc (he.var i hv) he.ev)) ?_;rintro D σ H⟨F,ρ,fl,ρ',g,e,k⟩;rw[HH.X10,hv]at e;dsimp only at e;split at e;.rename_i ds q;cases e;obtain⟨v,h1,t,u⟩:=g.give q;exact .inl ⟨v,h1,k F σ H t v u⟩
   .exact .inr (plain D σ H ⟨F,ρ,fl,ρ',g,e,k⟩)
theorem eO{m o:List Stmt}{s t:List S}(hc:ST X c e p)(u:SB X c n m s)(w:SB X c n o t):SS X c n (.If e m o pos) (.ifs p s t):=by refine fB (Hg hc u w) ?_;rintro D σ H⟨F,ρ,fl,ρ',g,e,k⟩;rw[HH.YW]at e;obtain⟨x,j,y,e⟩:=aa e;refine⟨F,ρ,x,j,g,y,λF1 z s1=>?_⟩;have go:∀{f:List Sl->Res Fl},f j=.ok fl ρ'->YZ X.K f D σ z:=λ{f}h=>⟨F1,j,fl,ρ',s1.gs,h,λA l B s2=>by have q:=k A l B (s1.trans s2);cases fl with|next=>exact q|brk=>exact q|cont=>exact q|ret r=>exact λv C=>q v (C.later s1)⟩;cases x with|true=>rw[if_pos rfl]at e;exact go e|false=>rw[if_neg Bool.false_ne_true]at e;exact go e
theorem uf{f:Pos}(l:X.N.Nodup)(m:X.N[i]?=some x)(o:Loc X.env.scope x)(he:SX X c e p)(hs:swapsWith e (some (.Name x f)) pos.line X.env=pure false:=by rfl)(q:X.fn x=true\/X.env.scope.names.lookup x=some .local:=by first|exact .inl rfl|exact .inr rfl|assumption):SS X c n (.Assign [.Name x f] e pos) (.asg i p):=by refine fB (jQ l m o he.ev hs q) ?_;rintro D σ H⟨F,ρ,fl,ρ',g,e,k⟩;rw[HH.X6]at e;obtain⟨r,j,s,e⟩:=aa e;obtain⟨t,u,h,e⟩:=aa e;cases e;have w:=aD h;clear h;obtain⟨h,A⟩:=w;exact⟨F,ρ,r,j,g,s,λv F1 y s1 z=>k F1 _ y (s1.put z h)⟩
end
end HH
end
section
namespace L2
open PySem PySem.Spec PyProof.Rows
variable{env:Env}{scope:Scope}{X:Cx}
noncomputable def qU(X:Cx)(scope:Scope)(N':List Str)(cl:List (Str×Addr))(C:Addr)(s₀:Shared)(H₀:Hp)(ex:List Addr):Cx:={X with N:=N',s₀:=s₀,H₀:=H₀,env:=compEnvC scope cl C X.env,outer:=X.stack,stack:=X.stack,ex:=ex,fn:=λx=>scope.names.lookup x==some .cell,pn:=[],xe:=λ_ _=>False}
theorem xV(l:List (Str×NameKind)):∀(cs:List (Str×Addr)),(∀n,(n,NameKind.free)∈l->∃c,env.cells.lookup n=some c)->(∀n c,cs.lookup n=some c->env.cells.lookup n=some c)->∃ cl,(forIn l cs (λ(x:Str × NameKind)(r:List (Str × Addr))=>(if(x.2==NameKind.free)=true then(do let a<-cellOf env x.1;pure (ForInStep.yield ((x.1,a)::r)))else pure (ForInStep.yield r):Sem (ForInStep (List (Str × Addr))))):Sem (List (Str × Addr)))=pure cl/\(∀n c,cl.lookup n=some c->env.cells.lookup n=some c)/\(∀n,((n,NameKind.free)∈l\/(cs.lookup n).isSome)->(cl.lookup n).isSome):=by induction l with|nil=>intro cs _ h;exact⟨cs,rfl,h,λn hn=>by rcases hn with hn|hn;cases hn;exact hn⟩|cons y l i=>
   obtain⟨n,k⟩:=y;intro cs b hc;rw[List.forIn_cons];by_cases f:k=.free
   . subst f;obtain⟨a,j⟩:=b n mem_cons_self;obtain⟨cl,e,h1,g⟩:=i ((n,a)::cs) (λm hm=>b m (mem_cons_of_mem _ hm)) λm c hm=>by
      rw[lookup_cons]at hm;split at hm;.rename_i q;have q:=eq_of_beq q;subst q;cases hm;exact j
      .exact hc m c hm
     refine⟨cl,?_,h1,λm hm=>g m ?_⟩
     . rw[<-e];have:cellOf env n=pure a:=by unfold cellOf;rw[j]
       simp only[beq_self_eq_true,if_true,this];rfl
     . rcases hm with hm|hm
       . rcases mem_cons.mp hm with hm|hm;.cases hm;right;simp[lookup_cons]
         .exact .inl hm
       . right;rw[lookup_cons];split;.rfl
         .exact hm
   . obtain⟨cl,e,h1,g⟩:=i cs (λm hm=>b m (mem_cons_of_mem _ hm)) hc;refine⟨cl,?_,h1,λm hm=>g m ?_⟩
     . rw[<-e];have:(k==NameKind.free)=false:=by simpa using f
       simp only[this,false_eq_true,if_false];rfl
     . rcases hm with hm|hm
       . rcases mem_cons.mp hm with hm|hm;.cases hm;exact absurd rfl f
         .exact .inl hm
       .exact .inr hm
theorem yf(a:∀n,(n,NameKind.free)∈scope.names->∃c,env.cells.lookup n=some c):∃cl,closureFor scope env=pure cl/\(∀n c,cl.lookup n=some c->env.cells.lookup n=some c)/\∀n,(n,NameKind.free)∈scope.names->(cl.lookup n).isSome:=by obtain⟨cl,e,h1,b⟩:=xV (env:=env) scope.names [] a (by simp);refine⟨cl,?_,h1,λn f=>b n (.inl f)⟩;unfold closureFor;exact(congrArg (λt=>t>>=λr=>pure r) e).trans rfl
theorem dU{env:Env}:∀(names:List (Str×NameKind))(x:Str),(names.map λ(n,k)=>if(k==NameKind.free&&env.scope.kind==.function&&env.kindOf n==some .cell)then(n,NameKind.cell)else(n,k)).lookup x=(names.lookup x).map λk=>if(k==NameKind.free&&env.scope.kind==.function&&env.kindOf x==some .cell)=true then NameKind.cell else k
 |[],x=>rfl|(n,k)::r,x=>by
   have a:=dU (env:=env) r x;show List.lookup x ((if(k==NameKind.free&&env.scope.kind==.function&&env.kindOf n==some .cell)=true then(n,NameKind.cell)else(n,k))::_)=_;by_cases hc:(k==NameKind.free&&env.scope.kind==.function&&env.kindOf n==some .cell)=true;.rw[if_pos hc,lookup_cons,lookup_cons];cases hx:x==n with|true=>have:=eq_of_beq hx;subst this;show some NameKind.cell=some (if _ then _ else _);rw[if_pos hc]|false=>exact a
   .rw[if_neg hc,lookup_cons,lookup_cons];cases hx:x==n with|true=>have:=eq_of_beq hx;subst this;show some k=some (if _ then _ else _);rw[if_neg hc]|false=>exact a
noncomputable def Xg(N N':List Str)(a:Scope):Bool:=(N.zip N').all λp=>(p.1==p.2&&a.names.lookup p.2==some .free)||(a.names.lookup p.2!=some .local&&a.names.lookup p.2!=some .cell&&a.names.lookup p.2!=some .free)
structure fG(X:Cx)(scope:Scope)(N':List Str)(n:Nat):Prop where
 kind:scope.kind=.function
 cons:∀y∈scope.names,scope.names.lookup y.1=some y.2
 names:∀y∈scope.names,y.2=.local->scope.names.lookup y.1=some .local
 cap:∀y∈scope.names,y.2=.free->X.env.scope.names.lookup y.1=some .cell\/X.env.scope.names.lookup y.1=some .free
 len:N'.length=X.N.length+n
 same:Xg X.N N' scope=true
theorem fG.get{N':List Str}{n:Nat}(c:fG X scope N' n){i:Nat}{x:Str}(g:i<X.N.length)(h:N'[i]?=some x)(a:vC (relabel scope X.env) x):X.N[i]?=some x/\scope.names.lookup x=some .free:=by
 have hz:(X.N.zip N')[i]?=some (X.N[i],x):=by rw[List.getElem?_zip_eq_some];exact⟨by simp[g],h⟩
 have:=(all_eq_true.mp c.same) _ (mem_of_getElem? hz);simp only[or_eq_true,and_eq_true]at this;rcases this with⟨h1,b⟩|⟨⟨h1,b⟩,f⟩;.have h1:=eq_of_beq h1;have b:=eq_of_beq b;exact⟨by simp[g,h1],b⟩
 . exfalso;have h1:scope.names.lookup x≠some .local:=by simpa using h1
   have b:scope.names.lookup x≠some .cell:=by simpa using b
   have f:scope.names.lookup x≠some .free:=by simpa using f
   have e:=dU (env:=X.env) scope.names x;have a:(relabel scope X.env).names.lookup x=some .local\/(relabel scope X.env).names.lookup x=some .cell\/(relabel scope X.env).names.lookup x=some .free:=a;rw[show(relabel scope X.env).names.lookup x=_ from e]at a;cases q:scope.names.lookup x with|none=>rw[q]at a;simp at a|some k=>
     rw[q]at a h1 b f;have j:(k==NameKind.free)=false:=by cases k<;>first|rfl|exact absurd rfl f
     simp only[Option.map_some,j,Bool.false_and,false_eq_true,if_false,Option.some.injEq]at a;rcases a with rfl|rfl|rfl;.exact h1 rfl
     .exact b rfl
     .exact f rfl
structure CI(cl:List (Str×Addr))(z:Nat)(h:Heap)(acc:List (Str×Addr)):Prop where from':∀n c,acc.lookup n=some c->cl.lookup n=some c\/(z<=c/\h.IsCell c none)inj:∀n n' c,acc.lookup n=some c->acc.lookup n'=some c->n=n'
theorem GZ{cl:List (Str×Addr)}{z:Nat}(i:∀n c,cl.lookup n=some c->c<z):∀(names:List (Str×NameKind))(h:Heap)(f:List (Str×Addr)),z<=h.objs.size->CI cl z h f->CI cl z (pushCells h names) (cellsFrom h.objs.size names f)/\(∀n,(f.lookup n).isSome->((cellsFrom h.objs.size names f).lookup n).isSome)/\(∀n,((∃c,f.lookup n=some c/\z<=c)\/(n,NameKind.cell)∈names)->∃c,(cellsFrom h.objs.size names f).lookup n=some c/\z<=c)/\(∀n c,(n,NameKind.cell)∉names->(cellsFrom h.objs.size names f).lookup n=some c->f.lookup n=some c)
 |[],h,f,hz,x=>by
   refine⟨x,λ_ q=>q,λn q=>?_,λ_ _ _ q=>q⟩;rcases q with q|q;.exact q
   .cases q|(name,kind)::r,h,f,hz,x=>by
   unfold pushCells cellsFrom;by_cases l:kind=.cell
   . subst l;rw[if_pos (by rfl),if_pos (by rfl)];have p:CI cl z (h.push {cls:=.type "cell",data:=.cell none}) ((name,h.objs.size)::f):=by
      have lt:∀n c,f.lookup n=some c->c<h.objs.size:=λn c e=>by
       rcases x.from' n c e with q|q;.exact lt_of_lt_of_le (i n c q) hz
       .exact q.2.lt
      refine⟨λn c e=>?_,λn m c e j=>?_⟩
      . rw[lookup_cons]at e;split at e;.cases e;exact .inr ⟨hz,_,get?_push_size _ rfl,rfl⟩
        . rcases x.from' n c e with q|q;.exact .inl q
          .exact .inr ⟨q.1,q.2.keeps λb o e=>gW e⟩
      . rw[lookup_cons]at e j;split at e<;>split at j;.rename_i _ a _ b;rw[eq_of_beq a,eq_of_beq b]
        .cases e;exact absurd (lt m _ j) (lt_irrefl _)
        .cases j;exact absurd (lt n _ e) (lt_irrefl _)
        .exact x.inj n m c e j
     have g:=GZ i r (h.push {cls:=.type "cell",data:=.cell none}) ((name,h.objs.size)::f) (by rw[size_push];omega) p;rw[size_push]at g;refine⟨g.1,λn q=>g.2.1 n ?_,λn q=>g.2.2.1 n ?_,λn c q e=>?_⟩
     . rw[lookup_cons];split;.rfl
       .exact q
     . rcases q with⟨c,e,hc⟩|q
       . left;rw[lookup_cons];split;.exact⟨_,rfl,hz⟩
         .exact⟨c,e,hc⟩
       . rcases mem_cons.mp q with q|q;.cases q;left;exact⟨_,by simp[lookup_cons],hz⟩
         .exact .inr q
     . have:=g.2.2.2 n c (λz=>q (mem_cons_of_mem _ z)) e;rw[lookup_cons]at this;split at this;.rename_i a;exact absurd (by rw[eq_of_beq a];exact mem_cons_self) q
       .exact this
   . have k:(kind==NameKind.cell)=false:=by simpa using l
     rw[if_neg (by rw[k];decide),if_neg (by rw[k];decide)];have g:=GZ i r h f hz x;refine⟨g.1,g.2.1,λn q=>g.2.2.1 n ?_,λn c q e=>g.2.2.2 n c (λz=>q (mem_cons_of_mem _ z)) e⟩;rcases q with q|q;.exact .inl q
     . rcases mem_cons.mp q with q|q;.cases q;exact absurd rfl l
       .exact .inr q
structure GR(X:Cx)(scope:Scope)(z:Nat)(h:Heap)(cs:List (Str×Addr)):Prop where
 from':∀n c,cs.lookup n=some c->X.env.cells.lookup n=some c\/(z<c/\h.IsCell c none)inj:∀n n' c,cs.lookup n=some c->cs.lookup n'=some c->n=n'
 has:∀n,(scope.names.lookup n=some .free\/scope.names.lookup n=some .cell)->∃c,cs.lookup n=some c
 fre:∀n c,scope.names.lookup n=some .free->cs.lookup n=some c->X.env.cells.lookup n=some c
 own:∀n c,scope.names.lookup n=some .cell->cs.lookup n=some c->z<c
theorem Be{M:Model}{A:Around}{E:Value->Shared->Prop}{s:Shared}{N':List Str}{n:Nat}{cl:List (Str×Addr)}{Q:Env->Shared->Prop}(ok:fG X scope N' n)(h:∀n c,X.env.cells.lookup n=some c->c<s.heap.objs.size)(f:∀x y c,X.env.cells.lookup x=some c->X.env.cells.lookup y=some c->x=y)(a:∀n c,cl.lookup n=some c->X.env.cells.lookup n=some c)(l:∀n,(n,NameKind.free)∈scope.names->(cl.lookup n).isSome)(m:∀ cs h',h'.Ns s.heap.objs.size (λ_=>none)->(∀ b o,s.heap.get? b=some o->h'.get? b=some o)->GR X scope s.heap.objs.size h' cs->Q {scope:=scope,locals:=s.heap.objs.size,globals:=X.env.globals,cells:=cs,qual:=X.env.qual,func:=none,code:=X.env.code,frame:=X.env.frame,builtins:=X.env.builtins} {s with heap:=h'}):wpAny M A (newFunctionEnv scope X.env.globals cl [] X.env.qual none .none (some X.env)) Q E s:=by
 simp only[newFunctionEnv,Option.isSome_some,if_true];refine wpAny_bind (wpAny_alloc ?_);refine wpAny_bind (wpAny_layCells _ (λname kind cells=>by cases i:kind==NameKind.cell<;>simp[i]) _ _ _ _ ?_);have ck:=GZ (cl:=cl) (z:=s.heap.objs.size+1) (λn c e=>Nat.lt_succ_of_lt (h n c (a n c e))) scope.names (s.heap.push {cls:=.type "dict",data:=.dict #[]}) cl (by rw[size_push];exact dC) ⟨λn c e=>.inl e,λn k c e g=>f n k c (a n c e) (a k c g)⟩;obtain⟨c1,c2,c3,c4⟩:=ck;rw[show({s with heap:=s.heap.push {cls:=.type "dict",data:=.dict #[]}}:Shared).heap.objs.size=(s.heap.push {cls:=.type "dict",data:=.dict #[]}).objs.size from rfl];refine wpAny_bind ?_;rw[List.forIn_nil];refine wpAny_pure (wpAny_pure (m _ _ ((Heap.Ns.new s.heap (.type "dict")).keeps (pushCells_keeps _ _)) (λb o e=>pushCells_keeps _ _ b o (gW e)) ⟨λn c e=>?_,c1.inj,λn q=>?_,λn c q e=>?_,λn c q e=>?_⟩))
 . rcases c1.from' n c e with z|z;.exact .inl (a n c z)
   .exact .inr ⟨z.1,z.2⟩
 . rcases q with q|q;.exact Option.isSome_iff_exists.mp (c2 n (l n (PySem.mem_of_lookup q)))
   .obtain⟨c,e,_⟩:=c3 n (.inr (PySem.mem_of_lookup q));exact⟨c,e⟩
 .refine a n c (c4 n c (λz=>?_) e);have:=ok.cons _ z;rw[q]at this;cases this
 .obtain⟨p,g,j⟩:=c3 n (.inr (PySem.mem_of_lookup q));rw[e]at g;cases g;exact j
section
variable{X:Cx}{pins:List (Addr×Obj)}{σ:L2.St}{H:Hp}{s:Shared}{scope:Scope}{N':List Str}{n:Nat}{fp:List Addr}{cl:List (Str×Addr)}
theorem FT{h1:Heap}{m:Str->Option Value}{t:Nat}{cs:List (Str×Addr)}(ok:fG X scope N' n)(I:Inv X pins σ H s)(J:∀b∈fp,oX X pins H b/\b<s.heap.objs.size)(w:GR X scope s.heap.objs.size h1 cs)(U:h1.Ns s.heap.objs.size m)(j:∀b u,s.heap.get? b=some u->h1.get? b=some u):Inv (qU X scope N' cs s.heap.objs.size s H fp) [] (σ++replicate n none) H {s with heap:=h1,toks:=t}:=by
 have W:∀x,scope.names.lookup x=some .free->(relabel scope X.env).names.lookup x=some .cell\/(relabel scope X.env).names.lookup x=some .free:=λx h=>by
  have e:=dU (env:=X.env) scope.names x;rw[h]at e;have L:(relabel scope X.env).names.lookup x=_:=e;rw[L];simp only[Option.map_some];split;.exact .inl rfl
  .exact .inr rfl
 refine⟨⟨I.ok.mod,ok.kind,I.ok.glob,I.ok.blt,dC,λx y c h1 Y=>w.inj x y c h1 Y,λx z=>?_,λx c h e=>le_of_lt (w.own x c (eq_of_beq (show(scope.names.lookup x==some NameKind.cell)=true from h)) e),I.ok.hd,I.ok.frames,.inl rfl,λb B=>?_,I.bs,le_trans I.ok.NZ I.sz,λb u e B=>?_,λb B M=>?_,I.stack,I.zj⟩,rfl,I.bare,Un.kept j,⟨m,U,λi x v Z C hv=>?_⟩,λx c e=>?_,I.hok.fresh (dC),λx c e=>?_,λp hp=>(by cases hp),I.hok.kept j,?_⟩;.--a Yp name has its cell
   have z:(relabel scope X.env).names.lookup x=some .cell\/(relabel scope X.env).names.lookup x=some .free:=z;have e:=dU (env:=X.env) scope.names x;have L:(relabel scope X.env).names.lookup x=_:=e;rw[L]at z;refine w.has x ?_;cases q:scope.names.lookup x with|none=>rw[q]at z;simp at z|some k=>
     rw[q]at z;by_cases hk:k=.free;.rw[hk];exact .inl rfl
     . have g:(k==NameKind.free)=false:=by simpa using hk
       simp only[Option.map_some,g,Bool.false_and,false_eq_true,if_false,Option.some.injEq]at z;rcases z with rfl|rfl;.exact .inr rfl
       .exact absurd rfl hk
 . obtain⟨f,lt⟩:=J b B;refine⟨ne_of_lt lt,λx c e=>?_⟩;rcases w.from' x c e with e|e;.exact f.2.2.2.2.1 x c e
   .rintro rfl;exact absurd (Nat.lt_trans e.1 lt) (lt_irrefl _)
 . obtain⟨f,lt⟩:=J b B;rcases f.2.2.2.1 with h|h;.exact I.ok.Hv b u e h
   .have this:b<X.base.objs.size:=lt_size e;exact absurd (lt_of_lt_of_le this (le_trans I.ok.NZ h)) (lt_irrefl _)
 . obtain⟨f,lt⟩:=J b B;rcases mem_cons.mp (I.uv b M)with h|h;.exact f.2.1 h
   .exact f.2.2.1 h
 .--the names
   have G:i<σ.length:=by
    by_cases G:i<σ.length;.exact G
    .rw[getElem?_append_right (by omega),List.getElem?_replicate]at C;split at C<;>cases C
   rw[getElem?_append_left G]at C;obtain⟨N,o⟩:=ok.get (by rw[<-I.len];exact G) Z hv;have hk:=ok.cap (x,.free) (PySem.mem_of_lookup o) rfl;obtain⟨m0,ac,hl⟩:=I.loc;obtain⟨u,r,l⟩:=hl i x v N C (.inr hk);refine⟨u,r,.inr ⟨W x o,?_⟩⟩;rcases l with⟨g,_⟩|⟨_,c,hc,A⟩;.have g:X.env.scope.names.lookup x=some .local:=g;rcases hk with hk|hk<;>(rw[g]at hk;cases hk)
   .obtain⟨c',E⟩:=w.has x (.inl o);have:=w.fre x c' o E;rw[hc]at this;cases this;refine⟨c,E,?_⟩;obtain⟨oc,O,Q⟩:=A;exact⟨oc,j c oc O,Q⟩
 . rcases w.from' x c e with e|e;.obtain⟨v,oc,O,Q⟩:=I.cell x c e;exact⟨v,oc,j c oc O,Q⟩
   .exact⟨_,e.2⟩
 . rcases w.from' x c e with e|e;.exact I.iy x c e
   .exact I.hok.fresh (le_of_lt e.1)
 .show(σ++replicate n none).length=N'.length;rw[length_append,List.length_replicate,I.len,ok.len]
theorem ug{prog:Program}{w:World}{A:Around}{R:Result->Shared->Prop}{p a iter:Expr}{ifs:List Expr}{pos:Pos}{it q:Value}(I:Nat->Shared->Prop)(t:∀ n s,I n s->wpAny (model prog w) A (pyNext it) (λr b=>match r with|none=>R (.ok .next) b|some v=>wpAny (model prog w) A (letOwnedTupleGo a it v) (λ_ b=>wpAny (model prog w) A (assign a env v) (λ_ j=>wpAny (model prog w) A (forIn ifs true λc r=>if r=true then do let ok<-isTrue c env (eval c env);pure (ForInStep.yield ok)else pure (ForInStep.yield r)) (λok g=>if ok=true then wpAny (model prog w) A (eval p env) (λx k=>wpAny (model prog w) A (call (.builtin "list.append") [q,x]) (λ_ l=>∃m,m<n/\I m l) (notedBy (model prog w) A env λe i=>R (.error e) i) k) (notedBy (model prog w) A env λe i=>R (.error e) i) g else ∃m,m<n/\I m g) (notedBy (model prog w) A env λe i=>R (.error e) i) j) (notedBy (model prog w) A env λe i=>R (.error e) i) b) (notedBy (model prog w) A env λe i=>R (.error e) i) b) (notedBy (model prog w) A env λe i=>R (.error e) i) s)(n:Nat){s:Shared}(h:I n s):codeAny (model prog w) A (.compLoop (.ListComp p [⟨a,iter,ifs,0⟩] scope pos) 0 it q env) R s:=by refine codeAny_loop rfl I (λn s B=>?_) n h;show wpAny _ A ((compTurn (.ListComp p [⟨a,iter,ifs,0⟩] scope pos) 0 it q env).onRaise (λx=>do noteFrame x env;theTreesLotGoes x)) _ _ s;refine wpAny_noted ?_;rw[compTurn_list];refine wpAny_bind (wpAny_standAt (wpAny_bind (wpAny_mono (t n s B) (λr b f=>?_) λ_ _ h'=>h')));cases r with|none=>exact wpAny_pure f|some v=>refine wpAny_bind (wpAny_mono f (λ_ b f=>?_) λ_ _ h'=>h');refine wpAny_bind (wpAny_mono f (λ_ j u=>wpAny_bind (wpAny_mono u (λok g o=>?_) λ_ _ h'=>h')) λ_ _ h'=>h');cases ok with|false=>exact wpAny_pure ⟨rfl,o⟩|true=>exact wpAny_bind (wpAny_bind (wpAny_mono o (λx k y=>wpAny_bind (wpAny_mono y (λ_ l z=>wpAny_pure (wpAny_pure ⟨rfl,z⟩)) λ_ _ h'=>h')) λ_ _ h'=>h'))
def Pz(X:Cx)(ifs:List Expr)(t:TT):Prop:=∀(pins:List (Addr × Obj))(s:Shared)(σ:L2.St)(H:Hp)(Q:Bool->Hp->Prop),Inv X pins σ H s->t σ H Q->wpAny (model X.prog X.w) X.A (forIn ifs true λc r=>if r=true then do let ok<-isTrue c X.env (eval c X.env);pure (ForInStep.yield ok)else pure (ForInStep.yield r)) (TP X pins σ Q) X.xe s
theorem KJ:Pz X [] (λ_ H Q=>Q true H):=λpins s σ H Q I h=>wpAny_tests_nil ⟨H,I,h⟩
theorem Jl{c:Expr}{t:TT}(h:PT X c t):Pz X [c] t:=λpins s σ H Q I q=>wpAny_tests_one (h pins s σ H Q I q)
def Nb(J:It)(g:TG)(tt:TT)(te:TE)(D:Addr)(Q:Hp->Prop)(W:Nat->Nat->List V->L2.St->Hp->Prop):Prop:=∀ i m ys σ H,W i m ys σ H->H D=some (.lst ys)/\((J.stop i H/\Q H)\/(J.go i H/\∀ x e,J.N6 i H x e->g x σ e λa j=>tt a j λb f=>if b=true then te a f λy h=>h D=some (.lst ys)/\ys.length<sizeLine/\∃c,c<m/\W (i+1) c (ys++[y]) a (upd h D (.lst (ys++[y])))else ∃c,c<m/\W (i+1) c ys a f))
theorem sE{E:Value->Shared->Prop}{af a iter:Expr}{ifs:List Expr}{pos:Pos}{it:Addr}{tn:Nat->Heap->Prop}{J:It}{g:TG}{tt:TT}{te:TE}{Q:Addr->Hp->Prop}{RR:Value->Addr->Result->Shared->Prop}(hc:X.calm=true)(ok:fG X scope N' n)(I:Inv X pins σ H s)(bo:∀n c,cl.lookup n=some c->X.env.cells.lookup n=some c)(yK:∀n,(n,NameKind.free)∈scope.names->(cl.lookup n).isSome)(T:Turn X.prog X.w X.K a J fp it tn)(h0:tn 0 s.heap)(hf:∀b∈fp,oX X pins H b)(hg:∀cl C s₀ H₀ ex,PG (qU X scope N' cl C s₀ H₀ ex) a g)(ht:∀cl C s₀ H₀ ex,Pz (qU X scope N' cl C s₀ H₀ ex) ifs tt)(he:∀cl C s₀ H₀ ex,PE (qU X scope N' cl C s₀ H₀ ex) af te)(hw:∀D,H D=none->∃W,(∃m,W 0 m [] (σ++replicate n none) (upd H D (.lst [])))/\Nb J g tt te D (Q D) W)(bp:∀D C l H',Q D H'->(∃m,l.heap.Ns C m)->oX X pins H' C->Inv X pins σ H' l->RR (.ref D) C (.ok .next) l):wpAny (model X.prog X.w) X.A (newList []) (λav aw=>wpAny (model X.prog X.w) X.A (newFunctionEnv scope X.env.globals cl [] X.env.qual none .none (some X.env)) (λal ax=>codeAny (model X.prog X.w) X.A (.compStart (.ListComp af [⟨a,iter,ifs,0⟩] scope pos) 0 (.ref it) av {al with scope:=relabel scope X.env}) (RR av al.locals) ax) E aw) E s:=by
 refine wpAny_newObj_type (Be ok (λx c e=>?lt) I.ok.inj bo yK (λcs L am hold bc=>?_));case lt=>obtain⟨v,z⟩:=I.cell x c e;exact lt_of_lt_of_le z.lt (by show _<=(s.heap.push _).objs.size;rw[size_push];exact le_succ _)
 dsimp only at am hold bc ⊢--the new list,tracked
 have I3:Inv X pins σ (upd H s.heap.objs.size (.lst [])) {s with heap:=s.heap.push {cls:=.type "list",data:=.seq ([]:List Value).toArray}}:=I.QJ (t':=s.toks) .nil (uR);generalize ap:({s with heap:=s.heap.push {cls:=.type "list",data:=.seq ([]:List Value).toArray}}:Shared)=s3 at I3;have hsz:s3.heap.objs.size=s.heap.objs.size+1:=by rw[<-ap];exact size_push _ _
 have Od:s3.heap=s.heap.push {cls:=.type "list",data:=.seq ([]:List Value).toArray}:=by rw[<-ap]
 obtain⟨W,⟨m0,w0⟩,ay⟩:=hw s.heap.objs.size I.fresh;have aE:∀{h':Heap},(∀b o,s.heap.get? b=some o->h'.get? b=some o)->tn 0 h':=λk=>T.keep _ _ _ h0 λb j o e=>k b o e;have ag:∀b∈fp,oX X pins (upd H s.heap.objs.size (.lst [])) b/\b<s3.heap.objs.size:=λb j=>by obtain⟨o,e,_⟩:=T.obj 0 _ h0 b j;have lt:=lt_size e;obtain⟨f1,f2⟩:=hf b j;exact⟨⟨by rw[ao (ne_of_lt lt)];exact f1,f2⟩,by rw[hsz];exact Nat.lt_succ_of_lt lt⟩
 rw[<-Od]at am hold bc ⊢;have I4:=FT (t:=s3.toks) ok I3 ag bc am hold;have Yq:∀b o,s.heap.get? b=some o->L.get? b=some o:=λb o e=>hold b o (by rw[Od];exact gW e);generalize O:qU X scope N' cs s3.heap.objs.size s3 (upd H s.heap.objs.size (.lst [])) fp=B at I4;have hA:B.A=X.A:=by rw[<-O];rfl
 have M:B.prog=X.prog:=by rw[<-O];rfl
 have N:B.w=X.w:=by rw[<-O];rfl
 have aI:B.K=X.K:=by rw[<-O];rfl
 have U:B.calm=true:=by rw[<-O];exact hc
 have bq:B.xe=λ_ _=>False:=by rw[<-O];rfl
 have aS:B.env=compEnvC scope cs s3.heap.objs.size X.env:=by rw[<-O];rfl
 have br:PG B a g:=by rw[<-O];exact hg _ _ _ _ _
 have bt:Pz B ifs tt:=by rw[<-O];exact ht _ _ _ _ _
 have bv:PE B af te:=by rw[<-O];exact he _ _ _ _ _
 have ff:∀{H':Hp}{b:Addr},b∈fp->H' b=none->oX B [] H' b:=λ{H' b}j hn=>by
  obtain⟨f,lt⟩:=ag b j;rw[<-O];refine⟨hn,ne_of_lt lt,λbE=>?_,.inl j,λx c e=>?_,λp hp=>by cases hp⟩
  . rcases mem_cons.mp (I3.uv b bE)with h|h;.exact f.2.1 h
    .exact f.2.2.1 h
  . rcases bc.from' x c e with e|e;.exact f.2.2.2.2.1 x c e
    .rintro rfl;exact absurd (Nat.lt_trans e.1 lt) (lt_irrefl _)--behind the block
 have fin:∀{G:L2.St}{H':Hp}{l:Shared},Inv B [] G H' l->Q s.heap.objs.size H'->RR (.ref s.heap.objs.size) s3.heap.objs.size (.ok .next) l:=λ{G H' l}Y q=>by
  rw[<-O]at Y;have hC:H' s3.heap.objs.size=none:=Y.free;obtain⟨hh,gg,dd,bP,bS⟩:=l;have bX:bS=s3.os:=Y.os;subst bX;refine bp _ _ _ H' q (let⟨m,hm,_⟩:=Y.loc;⟨m,hm⟩) ?_ (I3.call (h':=hh) (g':=gg) (d':=dd) (t':=bP) (ch:=fp) Y.base Y.hok Y.bare λb j=>?_);.exact I3.G9 (dC) hC
  .obtain⟨f,lt⟩:=ag b j;exact⟨f.2.2.2.1,f.2.1,f.2.2.2.2.1,f.2.2.2.2.2⟩
 have ac:codeAny (model X.prog X.w) X.A (.compLoop (.ListComp af [⟨a,iter,ifs,0⟩] scope pos) 0 (.ref it) (.ref s.heap.objs.size) B.env) (RR (.ref s.heap.objs.size) s3.heap.objs.size) {s3 with heap:=L,toks:=s3.toks}:=by
  refine ug (λk l=>∃i ys G H',Inv B [] G H' l/\tn i l.heap/\(∀b∈fp,H' b=none)/\W i k ys G H') (λk s5 hI=>?_) m0 ⟨0,[],_,_,I4,aE Yq,λb j=>(ag b j).1.1,w0⟩;obtain⟨i,ys,ah,H5,I5,t5,f5,w5⟩:=hI;obtain⟨hD,ar⟩:=ay i k ys ah H5 w5;have ai:∀{Z:Value->Shared->Prop},∀(e:Value)(l:Shared),B.xe e l->Z e l:=λe l z=>by rw[bq]at z;exact False.elim z
  rcases ar with⟨stop,q⟩|⟨go,step⟩;.have z:=T.done B M N aI U i [] s5 ah H5 (λ_ _=>False) I5 (λb j=>ff j (f5 b j)) t5 stop;rw[hA]at z;refine wpAny_mono z (?_) λ_ _ z=>False.elim z;rintro r s6⟨hr,I6⟩;subst hr;exact fin I6 q
  . have z:=T.item B M N aI U i [] s5 ah H5 (λ_ _=>False) I5 (λb j=>ff j (f5 b j)) t5 go;rw[hA]at z;refine wpAny_mono z (?_) λ_ _ z=>False.elim z;rintro r s6⟨u,hr,z6⟩;subst hr;refine wpAny_mono z6 (?_) λ_ _ z=>False.elim z;rintro _ s7⟨x,H7,I7,r7,y7,t7,f7⟩;have ca:=I7.pinned (λb j=>ff j (f7 b j)) (T.obj _ _ t7)--what the pins keep
    have back:∀{G:L2.St}{H':Hp}{l:Shared},Inv B ([]++pO fp s7.heap) G H' l->Inv B [] G H' l/\tn (i+1) l.heap/\∀b∈fp,H' b=none:=λ{G H' l}Y=>by refine⟨Y.lu,T.keep _ _ _ t7 λb j o e=>(Y.pin (b,o) (mem_append_right _ (mem_append_right _ (iH j e)))).1,λb j=>?_⟩;obtain⟨o,e,_⟩:=T.obj _ _ t7 b j;exact(Y.pin (b,o) (mem_append_right _ (mem_append_right _ (iH j e)))).2.1
    have z7:=br _ s7 ah H7 x u _ ca r7 (step x H7 y7);rw[hA,M,N]at z7;refine wpAny_mono z7 (?_) ai;rintro _ s8⟨ae,H8,I8,q8⟩;have z8:=bt _ s8 ae H8 _ I8 q8;rw[hA,M,N]at z8;refine wpAny_mono z8 (?_) ai;rintro b s9⟨H9,I9,q9⟩;cases b with|false=>rw[if_neg Bool.false_ne_true]at q9 ⊢;obtain⟨m',hm,w'⟩:=q9;obtain⟨b1,b2,b3⟩:=back I9;exact⟨m',hm,i+1,ys,ae,H9,b1,b2,b3,w'⟩|true=>rw[if_pos rfl]at q9 ⊢;have z9:=bv _ s9 ae H9 _ I9 q9;rw[hA,M,N]at z9;refine wpAny_mono z9 (?_) ai;rintro y qD⟨yv,aT,cb,ce,cf,ba,m',hm,w'⟩;have bi:=lW _ qD ae aT (.ref s.heap.objs.size) [yv] (.ref s.heap.objs.size) [y] (λv bn=>bn=upd aT s.heap.objs.size (.lst (ys++[yv]))) cb rfl (.cons ce .nil) ⟨_,ys,yv,rfl,rfl,cf,ba,rfl⟩;rw[hA,M,N]at bi;refine wpAny_mono bi (?_) ai;rintro _ ZG⟨_,bn,ci,_,cn⟩;subst cn;obtain⟨b1,b2,b3⟩:=back ci;exact⟨m',hm,i+1,ys++[yv],ae,_,b1,b2,b3,w'⟩
 have e3:({s3 with heap:=L,toks:=s3.toks}:Shared)={s with heap:=L}:=by rw[<-ap]
 rw[aS,e3]at ac;exact codeAny_compStart_list ac (T.self _ 0 _ _ _ (aE Yq) ac)
end
section
variable{X:Cx}{elt target iter:Expr}{ifs:List Expr}{scope:Scope}{pos:Pos}{N':List Str}{n:Nat}{wi:TI}{g:TG}{tt:TT}{te:TE}
def rC(n:Nat)(wi:TI)(g:TG)(tt:TT)(te:TE):TE:=λσ H Q=>wi σ H λJ a=>∀D,a D=none->∃W,(∃m,W 0 m [] (σ++replicate n none) (upd a D (.lst [])))/\Nb J g tt te D (λH'=>Q (.ref D) H') W
theorem kh{a:List (Addr×Obj)}{σ:L2.St}{H:Hp}{s:Shared}(I:Inv X a σ H s)(ok:fG X scope N' n):∃cl,closureFor scope X.env=pure cl/\(∀n c,cl.lookup n=some c->X.env.cells.lookup n=some c)/\∀n,(n,NameKind.free)∈scope.names->(cl.lookup n).isSome:=yf λm b=>I.ok.has m (ok.cap (m,.free) b rfl)
theorem Jf(hc:X.calm=true)(ok:fG X scope N' n)(p:PI X target iter wi)(r:∀cl C s₀ H₀ ex,PG (qU X scope N' cl C s₀ H₀ ex) target g)(ht:∀cl C s₀ H₀ ex,Pz (qU X scope N' cl C s₀ H₀ ex) ifs tt)(he:∀cl C s₀ H₀ ex,PE (qU X scope N' cl C s₀ H₀ ex) elt te)(hs:∀x,foldedSetIterable iter X.env x=pure x:=by intro _;rfl):PE X (.ListComp elt [⟨target,iter,ifs,0⟩] scope pos) (rC n wi g tt te):=by intro a s σ H Q I h;obtain⟨cl,c,i,t⟩:=kh I ok;rw[eval_ListComp];refine wpAny_comprehension_free (use:=none) rfl hs c ok.kind ok.names (bU (p a s σ H _ I h) λv s1 h1=>bU h1 λu s2 y=>?_);obtain⟨it,M,N,J,O,rfl,z,T,t0,f2,B⟩:=y;refine sE (Q:=λD H'=>Q (.ref D) H') (RR:=λj C=>compPost (model X.prog X.w) X.A X.xe none (EP X a σ Q) j C) hc ok z i t T t0 f2 r ht he B λD C E H' q k f G=>?_;obtain⟨m,k⟩:=k;refine⟨m,k,λh' l=>⟨.ref D,H',?_,rfl,q⟩⟩;exact G.turned (t':=E.toks) (λb o L e=>l.extBut b o L e) f.1 f.2.1 f.2.2.2.1 f.2.2.2.2.1 f.2.2.2.2.2
theorem yR{i:Nat}{x:Str}{c j:Pos}(hc:X.calm=true)(O:X.N.Nodup)(r:X.N[i]?=some x)(U:Loc X.env.scope x)(ok:fG X scope N' n)(W:PI X target iter wi)(Y:∀cl C s₀ H₀ ex,PG (qU X scope N' cl C s₀ H₀ ex) target g)(ht:∀cl C s₀ H₀ ex,Pz (qU X scope N' cl C s₀ H₀ ex) ifs tt)(he:∀cl C s₀ H₀ ex,PE (qU X scope N' cl C s₀ H₀ ex) elt te)(t:swapsWith (.ListComp elt [⟨target,iter,ifs,0⟩] scope pos) (some (.Name x c)) j.line X.env=pure true)(hs:∀x,foldedSetIterable iter X.env x=pure x:=by intro _;rfl)(Z:X.fn x=true\/X.env.scope.names.lookup x=some .local:=by first|exact .inl rfl|exact .inr rfl|assumption):PS X (.Assign [.Name x c] (.ListComp elt [⟨target,iter,ifs,0⟩] scope pos) j) (qM (rC n wi g tt te) (gC i)):=by
 intro f s σ H D I h;obtain⟨cl,k,u,yK⟩:=kh I ok;rw[exec_Assign_Name_used _ _ _ _ t];refine wpAny_bind (wpAny_standAt (wpAny_bind ?_));show wpAny _ X.A (do let _<-comprehension (.ListComp elt [⟨target,iter,ifs,0⟩] scope pos) scope X.env _ (newList []) false (eval iter X.env) (some (assign (.Name x c) X.env))) _ _ s;refine wpAny_bind (wpAny_mono (wpAny_comprehension_free (use:=some (assign (.Name x c) X.env)) (Q:=λ_ p=>SP X f D .next p) rfl hs k ok.kind ok.names (bU (W f s σ H _ I h) λv s1 h1=>bU h1 λac s2 h2=>?_)) (λ_ p hq=>wpAny_pure (wpAny_pure hq)) λ_ _ e=>e);obtain⟨it,fp,tn,J,H2,rfl,I2,T,t0,f2,hw⟩:=h2;refine sE (Q:=λDa H'=>D.nx (σ.set i (some (.ref Da))) H') (RR:=λy C=>compPost (model X.prog X.w) X.A X.xe (some (assign (.Name x c) X.env)) (λ_ p=>SP X f D .next p) y C) hc ok I2 u yK T t0 f2 Y ht he hw λDa C p H' q B l I'=>?_;obtain⟨m,B⟩:=B;show wpAny _ X.A (assign (.Name x c) X.env (.ref Da)) _ _ _;refine wpAny_assign_Name (rP I' O r U (show RelV (.ref Da) (.ref Da)from rfl) (?_) Z);rintro E G⟨a,sb,ha⟩;have L:C≠a:=by
  rcases ha with rfl|ha;.exact l.2.1
  .exact λz=>l.2.2.2.2.1 x a ha z.symm
 refine⟨m,B.sameBut sb L,λh' M=>⟨_,H',?_,q⟩⟩;exact G.turned (t':=E.toks) (λb o hb e=>M.extBut b o hb e) l.1 l.2.1 l.2.2.2.1 l.2.2.2.2.1 l.2.2.2.2.2
def acG(K:PySem.W.Frag)(c:TE):TI:=λσ H R=>c σ H λx b=>∃a,x=.ref a/\(((∃xs,eG K b a xs)/\R (Qm K a) b)\/((∃xs,jG K b a xs)/\R (UJ K a) b))
theorem xR{u l:Expr}{r:TE}(w:PE X l r):PI X u l (acG X.K r):=by
 intro f s σ H R I h;refine bU (w f s σ H _ I h) ?_;rintro v s1⟨x,t,c,r1,j⟩;obtain⟨a,e,j⟩:=j;subst e;cases r1;rcases j with⟨⟨xs,k⟩,q⟩|⟨⟨xs,k⟩,q⟩
 . obtain⟨i,y,p,hz⟩:=c.list k;refine wpAny_pyIter_list p.isList ?_;refine⟨s1.heap.objs.size,[s1.heap.objs.size],_,_,t,rfl,c.kept (t':=s1.toks) λb o e=>gW e,Cu a _,⟨_,get?_push_size _ rfl,rfl,rfl⟩,λb m=>?_,q⟩;have e:b=s1.heap.objs.size:=by simpa using m
   subst e;exact c.G9 (dC) (c.hok.fresh (dC))
 . obtain⟨i,y,p,hz⟩:=c.tuple k;refine wpAny_pyIter_tuple (show s1.heap.IsTuple a i.toArray from p) ?_;refine⟨s1.heap.objs.size,[s1.heap.objs.size],_,_,t,rfl,c.kept (t':=s1.toks) λb o e=>gW e,yx a _,⟨_,get?_push_size _ rfl,rfl,rfl⟩,λb m=>?_,q⟩;have e:b=s1.heap.objs.size:=by simpa using m
   subst e;exact c.G9 (dC) (c.hok.fresh (dC))
end
end L2
end
section
namespace HH
open PySem L2 PySem.Spec PyProof.Rows
variable{v:V}{i m:Nat}{K:PySem.W.Frag}{F H:Hp}{ρ:List Sl}{σ:L2.St}{x:Str}{p':Pos}{is:List Nat}{ds:List D}{s:Shared}{A:Around}{u':Value}
structure Walk(K:PySem.W.Frag)(F:Hp)(ρ:List Sl)(σ:L2.St)(H:Hp)(ul:List Sl->List Sl)(J:It)(ds:List D)(F1:Hp)(ρ1:List Sl)(H1:Hp):Prop where
 gs:GS K F1 ρ1 σ H1
 src:∀(n k:Nat)(F':Hp)(ρ':List Sl)(σ':L2.St)(H':Hp),au K F1 (ρ1++replicate n .aL) (σ++replicate n none) H1 F' ρ' σ' H'->(∀d,ds[k]?=some d->J.go k H'/\∀x uO,J.N6 k H' x uO->∃F'',Ext F' H' F'' uO/\Rep K F'' x d)/\(ds.length<=k->J.stop k H')fin:∀F2 ρ2 σ2 H2,au K F1 ρ1 σ H1 F2 ρ2 σ2 H2->au K F ρ σ H F2 (ul ρ2) σ2 H2/\∀v r,cH K F2 ρ2 σ2 H2 ρ1 σ H1 v r->cH K F2 (ul ρ2) σ2 H2 ρ σ H v r
inductive tIt(K:PySem.W.Frag)(iv:Option Nat)(f:Ev)(σ:L2.St)(H:Hp)(R:It->Hp->Prop):Prop where|mk(F:Hp)(ρ:List Sl)(ds:List D)(ρ1:List Sl)(g:GS K F ρ σ H)(e:srcOf iv f ρ=.ok ds ρ1)(k:∀J F1 H1,Walk K F ρ σ H (aZ ρ iv) J ds F1 ρ1 H1->R J H1)
section
variable{K:PySem.W.Frag}{F F1 H H1:Hp}{ρ ρ1:List Sl}{σ:L2.St}{ds:List D}{a:Addr}
theorem zy{xs:List V}{c H':Hp}(f:jG K H' a xs)(r:aB K c xs ds)(s:aF c H')(k:Nat):(∀d,ds[k]?=some d->(UJ K a).go k H'/\∀x g,(UJ K a).N6 k H' x g->∃b,Ext c H' b g/\Rep K b x d)/\(ds.length<=k->(UJ K a).stop k H'):=by refine⟨λd hd=>?_,λh=>⟨xs,f,by rw[r.length];exact h⟩⟩;obtain⟨w,h1,j⟩:=r.get hd;refine⟨⟨xs,w,f,h1⟩,?_⟩;rintro x g⟨e,y⟩;subst e;have:=y xs f;rw[h1]at this;cases this;exact⟨c,.refl s,j⟩
theorem pX{xs:List V}{c H':Hp}(f:eG K H' a xs)(r:aB K c xs ds)(s:aF c H')(k:Nat):(∀d,ds[k]?=some d->(Qm K a).go k H'/\∀x g,(Qm K a).N6 k H' x g->∃b,Ext c H' b g/\Rep K b x d)/\(ds.length<=k->(Qm K a).stop k H'):=by refine⟨λd hd=>?_,λh=>⟨xs,f,by rw[r.length];exact h⟩⟩;obtain⟨w,h1,j⟩:=r.get hd;refine⟨⟨xs,w,f,h1⟩,?_⟩;rintro x g⟨e,y⟩;subst e;have:=y xs f;rw[h1]at this;cases this;exact⟨c,.refl s,j⟩
theorem uZ{ul:List Sl->List Sl}{d:D}(s:au K F ρ σ H F1 ρ1 σ H1)(r:Rep K F1 v d)(h:items d=some ds)(fin:∀f b c g,au K F1 ρ1 σ H1 f b c g->au K F ρ σ H f (ul b) c g/\∀v r,cH K f b c g ρ1 σ H1 v r->cH K f (ul b) c g ρ σ H v r):∃a,v=.ref a/\(((∃xs,eG K H1 a xs)/\Walk K F ρ σ H ul (Qm K a) ds F1 ρ1 H1)\/((∃xs,jG K H1 a xs)/\Walk K F ρ σ H ul (UJ K a) ds F1 ρ1 H1)):=by cases d with|tup es=>cases h;rw[Rep]at r;obtain⟨a,xs,rfl,h1,j⟩:=r;exact⟨a,rfl,.inr ⟨⟨xs,aF.jc s.gs.sub h1⟩,s.gs,λn k p l o H' e=>zy (aF.jc e.gs.sub (aF.jc e.cV h1)) (j.mono e.cV) e.gs.sub k,fin⟩⟩|lst es=>cases h;rw[Rep]at r;obtain⟨a,xs,rfl,h1,j⟩:=r;exact⟨a,rfl,.inl ⟨⟨xs,s.gs.sub.seq h1⟩,s.gs,λn k p l o H' e=>pX (e.gs.sub.seq (e.cV.seq h1)) (j.mono e.cV) e.gs.sub k,fin⟩⟩|_=>cases h
theorem qX{ul:List Sl->List Sl}(g:GS K F ρ1 σ H)(e:ρ1[i]?=some (.lent ds))(fin:∀f b c h,au K F ρ1 σ H f b c h->au K F ρ σ H f (ul b) c h/\∀v r,cH K f b c h ρ1 σ H v r->cH K f (ul b) c h ρ σ H v r):∃a,σ[i]?=some (some (.ref a))/\(∃xs,eG K H a xs)/\Walk K F ρ σ H ul (Qm K a) ds F ρ1 H:=by obtain⟨a,xs,h1,q,E,G⟩:=g.qJ i _ ds e rfl;have l:i<ρ1.length:=(eN e).1;refine⟨a,h1,⟨xs,eG.of q⟩,g,λn k I u w H' j=>?_,fin⟩;obtain⟨o,t,y,z⟩:=j.lk i _ (by rw[getElem?_append_left l];exact e) rfl;cases(show t=.lent ds from z);rw[getElem?_append_left (by rw[<-g.len];exact l),h1]at o;obtain⟨J,ys,p,B,L,C⟩:=j.gs.qJ i _ ds y rfl;rw[o]at p;cases p;exact pX (eG.of B) C j.gs.sub k
end
section
variable{X:Cx}{c:Call}{n:Nat}{e a b d tg:Expr}{p pa pb pd:P}{pos:Pos}
theorem rA{t t':TI}(h:PI X tg e t)(i:∀σ H R,t' σ H R->t σ H R):PI X tg e t':=λf s σ H R I q=>h f s σ H R I (i σ H R q)
def SI(X:Cx)(c:Call)(tg e:Expr)(p:P):Prop:=PI X tg e (tIt X.K (isVar p) (HH.ev c p))
theorem cT(h:SX X c e p):SI X c tg e p:=by unfold SI;cases hv:isVar p with|none=>refine rA (xR h.ev) ?_;rintro σ H R⟨F,ρ,ds,u,g,e,k⟩;obtain⟨r,f,L,t⟩:=aa e;have y:=aD t;clear t;obtain⟨t,B⟩:=y;subst B;refine⟨F,ρ,r,_,g,L,λv W H' s C=>?_⟩;obtain⟨l,s2,_,M⟩:=s.cO C;obtain⟨a,E,G⟩:=uZ (ul:=aZ ρ none) s2 M t λY N O Z s3=>⟨s2.trans s3,λv r C=>C.later s2⟩;exact⟨a,E,G.imp (λ⟨z,w⟩=>⟨z,k _ _ _ w⟩) (λ⟨z,w⟩=>⟨z,k _ _ _ w⟩)⟩|some i=>
   refine rA (xR (h.var i hv)) ?_;rintro σ H R⟨F,ρ,ds,u,g,e,k⟩;unfold srcOf at e;dsimp only at e;split at e
   . rename_i b d q;have y:=aD e;clear e;obtain⟨t,B⟩:=y;subst B;obtain⟨v,h1,Q⟩:=g.val i b d q;have fin:∀l f j o,au X.K F ρ σ H l f j o->au X.K F ρ σ H l (aZ ρ (some i) f) j o/\∀v r,cH X.K l f j o ρ σ H v r->cH X.K l (aZ ρ (some i) f) j o ρ σ H v r:=λl f j o s=>by unfold aZ;dsimp only;rw[q];exact⟨s,λ_ _ z=>z⟩
     obtain⟨a,E,G⟩:=uZ (ul:=aZ ρ (some i)) (.refl g) Q t fin;exact⟨v,h1,a,E,G.imp (λ⟨z,w⟩=>⟨z,k _ _ _ w⟩) (λ⟨z,w⟩=>⟨z,k _ _ _ w⟩)⟩
   . rename_i b I q;cases e;have U:i<ρ.length:=(eN q).1;have fin:∀l f j o,au X.K F (ρ.set i (.lent ds)) σ H l f j o->au X.K F ρ σ H l (aZ ρ (some i) f) j o/\∀v r,cH X.K l f j o (ρ.set i (.lent ds)) σ H v r->cH X.K l (aZ ρ (some i) f) j o ρ σ H v r:=λl f j o s=>by unfold aZ;dsimp only;rw[q];exact au.aZ g q s
     obtain⟨a,h1,J,w⟩:=qX (ul:=aZ ρ (some i)) (g.lend q) (getElem?_set_self U) fin;exact⟨_,h1,a,rfl,.inl ⟨J,k _ _ _ w⟩⟩
   . rename_i I q;cases e;have fin:∀l f j o,au X.K F ρ σ H l f j o->au X.K F ρ σ H l (aZ ρ (some i) f) j o/\∀v r,cH X.K l f j o ρ σ H v r->cH X.K l (aZ ρ (some i) f) j o ρ σ H v r:=λl f j o s=>by unfold aZ;dsimp only;rw[q];exact⟨s,λ_ _ z=>z⟩
     obtain⟨a,h1,J,w⟩:=qX (ul:=aZ ρ (some i)) g q fin;exact⟨_,h1,a,rfl,.inl ⟨J,k _ _ _ w⟩⟩
   .cases e
theorem Hr{F1 g:Hp}{f:List Sl}(s:au K F ρ σ H F1 f σ g)(i j:Int):Walk K F ρ σ H (aZ ρ none) (VJ i (j-i).toNat) ((List.range (j-i).toNat).map λ(k:Nat)=>D.int (i+(k:Int))) F1 f g:=by
 refine⟨s.gs,λn k o q t H' u=>⟨λd hd=>?_,λh=>?_⟩,λI w y J s3=>⟨s.trans s3,λv r z=>z.later s⟩⟩;.rw[getElem?_map]at hd;obtain⟨m,B,C⟩:=map_some hd;obtain⟨h1,l⟩:=eN B;rw[List.getElem_range]at l;subst l;subst C;rw[length_range]at h1;refine⟨h1,?_⟩;rintro x L⟨E,G⟩;subst E;subst G;exact⟨o,.refl u.gs.sub,bT _⟩
 .rw[length_map,length_range]at h;exact h
theorem kZ(t:x="range")(u:Gl X x)(w:X.mg x=none)(y:SX X c a pa)(hs:starEach [a] X.env=[(false,eval a X.env)]:=by rfl):SI X c tg (.Call (.Name x p') [a] [] pos) (.wW (.con (.int 0)) pa):=by
 subst t;obtain⟨Q,h1,z⟩:=y.cG;refine rA (sH u w (cW h1 dR hs) hs) ?_;rintro σ H R⟨F,ρ,ds,B,g,e,k⟩;obtain⟨r,C,q,h⟩:=aa e;have l:=aD h;clear h;obtain⟨h,E⟩:=l;subst E;rw[HH.E20]at q;obtain⟨U,G,I,f⟩:=aa q;have l:=aD f;clear f;obtain⟨f,J⟩:=l;subst J;obtain⟨W,L,M,o⟩:=aa I;cases o;obtain⟨i,f1,f⟩:=cQ f;obtain⟨j,f2,f⟩:=cQ f;obtain⟨⟨b1,b2,b3,b4⟩,f⟩:=aV f;have f1:i=0:=by cases f1;rfl
 subst f1;subst f;cases h;cases dG f2;refine z g M λv N H' s O=>⟨j,by rw[O.int],by omega,by omega,?_⟩;have:=Hr s 0 j;rw[sub_zero]at this;refine k _ N H' ?_;rw[sub_zero];exact this
end
section
variable{X:Cx}{c:Call}{n:Nat}{e a b d tg iter:Expr}{p pa pb pd:P}{pos:Pos}{body:List Stmt}{ss:List S}
def Gn(K:PySem.W.Frag)(j:List Sl->D->Option (List Sl))(g:TG):Prop:=∀(x:V)(d:D)(F:Hp)(ρ f:List Sl)(σ:L2.St)(H:Hp)(Q:L2.St->Hp->Prop),GS K F ρ σ H->Rep K F x d->j ρ d=some f->(∀h,au K F ρ σ H F f h H->Q h H)->g x σ H Q
theorem tD(i:Nat):Gn K (λρ d=>put ρ i (.val false d)) (gC i):=λx d F ρ f σ H Q g r h k=>k _ (au.put (r:=.val d) (.refl g) r h)
theorem bZ:∀(is:List Nat)(gs:Lp),(∀(xs:List V)(ds:List D)(F:Hp)(ρ f:List Sl)(σ:L2.St)(H:Hp)(Q:L2.St->Hp->Prop),GS K F ρ σ H->aB K F xs ds->putAll ρ is ds=some f->(∀j,au K F ρ σ H F f j H->Q j H)->gs xs σ H Q)->∀i,∀(xs:List V)(ds:List D)(F:Hp)(ρ f:List Sl)(σ:L2.St)(H:Hp)(Q:L2.St->Hp->Prop),GS K F ρ σ H->aB K F xs ds->putAll ρ (i::is) ds=some f->(∀j,au K F ρ σ H F f j H->Q j H)->MN (gC i) gs xs σ H Q:=by intro is gs o i xs ds F ρ f σ H Q g r h k;cases ds with|nil=>simp[oZ,lL,sW,uJ]at h|cons d ds=>obtain⟨v,vs,rfl,h1,q⟩:=r.bY;rw[lL]at h;obtain⟨l,t,u⟩:=cQ h;have s1:=au.put (r:=.val d) (.refl g) h1 t;refine⟨v,vs,rfl,o vs ds F l f _ H _ s1.gs q u λj s2=>k j (s1.trans s2)⟩
theorem iG:∀(xs:List V)(ds:List D)(F:Hp)(ρ f:List Sl)(σ:L2.St)(H:Hp)(Q:L2.St->Hp->Prop),GS K F ρ σ H->aB K F xs ds->putAll ρ [] ds=some f->(∀j,au K F ρ σ H F f j H->Q j H)->VH xs σ H Q:=by intro xs ds F ρ f σ H Q g r h k;cases ds with|nil=>rw[oZ]at h;cases h;exact⟨r.eZ,k σ (.refl g)⟩|cons d ds=>simp[oZ,lL,sW,uJ]at h
theorem o4:∀{is:List Nat}{ds:List D}{ρ f:List Sl},putAll ρ is ds=some f->ds.length=is.length|[],[],_,_,_=>rfl|[],_::_,_,_,h=>by simp[oZ,lL,sW,uJ]at h|_::_,[],_,_,h=>by simp[oZ,lL,sW,uJ]at h|i::is,d::ds,ρ,f,h=>by rw[lL]at h;obtain⟨g,k,j⟩:=cQ h;simp[o4 j]
theorem jU{gs:Lp}(q:m=is.length)(h:∀(xs:List V)(ds:List D)(F:Hp)(ρ f:List Sl)(σ:L2.St)(H:Hp)(Q:L2.St->Hp->Prop),GS K F ρ σ H->aB K F xs ds->putAll ρ is ds=some f->(∀l,au K F ρ σ H F f l H->Q l H)->gs xs σ H Q):Gn K (λρ d=>cA ρ is false d) (Wm K m gs):=by intro x d F ρ f σ H Q g r j k;replace j:cA ρ is false d=some f:=j;cases d with|tup ds=>replace j:putAll ρ is ds=some f:=j;rw[Rep]at r;obtain⟨a,xs,rfl,h1,o⟩:=r;exact⟨a,xs,rfl,aF.jc g.sub h1,by rw[o.length,o4 j,q],h xs _ F ρ f σ H Q g o j k⟩|_=>cases j
theorem mG{g:TG}{one:Bool}(hp:PassesOwn (model X.prog X.w) X.A X.env X.xe)(hc:X.calm=true)(hi:SI X c tg iter p)(hg:PG X tg g)(Z:Gn X.K (λρ d=>cA ρ is one d) g)(hb:SB X c n body ss)(hs:∀x,foldedSetIterable iter X.env x=pure x:=by intro _;rfl):SS X c n (.For tg iter body [] pos) (.iz p is one ss):=by
 refine fB (GJ hp hc hi hg hb hs) ?_;rintro D σ H⟨F,ρ,fl,q,g0,e,k⟩;rw[HH.X13]at e;obtain⟨ds,l,e1,e⟩:=aa e;obtain⟨ae,G,e2,e⟩:=aa e;cases e;refine⟨F,ρ,ds,l,g0,e1,λJ F1 H1 w=>?_⟩;have src:∀(i:Nat)(Q:Hp)(q:List Sl)(h:L2.St)(H':Hp),au X.K F1 l σ H1 Q q h H'->(∀d,ds[i]?=some d->J.go i H'/\∀x uO,J.N6 i H' x uO->∃I,Ext Q H' I uO/\Rep X.K I x d)/\(ds.length<=i->J.stop i H'):=λi Q q h H' s=>w.src 0 i Q q h H' (by simpa using s);refine⟨λi m o U=>∃E f,au X.K F1 l σ H1 E f o U/\m=ds.length-i/\i<=ds.length/\iT is one (gY c n ss) (ds.drop i) f=.ok fl G,⟨_,F1,l,.refl w.gs,rfl,uR,e2⟩,?_⟩;rintro i m o U⟨E,f,W,rfl,af,j⟩;obtain⟨s1,s2⟩:=src i E f o U W;by_cases t:i<ds.length
 . right;have hd:ds[i]?=some ds[i]:=by simp[t]
   obtain⟨go,step⟩:=s1 _ hd;refine⟨go,λh H'=>∃m',m'<ds.length-i/\∃E f,au X.K F1 l σ H1 E f h H'/\m'=ds.length-(i+1)/\i+1<=ds.length/\iT is one (gY c n ss) (ds.drop (i+1)) f=.ok fl G,λh H' z=>z,λx H' y=>?_⟩;obtain⟨F2,ext,rx⟩:=step x H' y;have L:=W.trans (ext.stp W.gs);rw[drop_eq_getElem_cons t,xU]at j;cases hbd:cA f is one ds[i]with|none=>rw[hbd]at j;cases j|some M=>rw[hbd]at j;obtain⟨N,B,eb,j⟩:=aa j;refine Z x _ F2 f M o H' _ L.gs rx hbd λag sb=>?_;have C:=L.trans sb;refine⟨F2,M,N,B,C.gs,eb,λY O H4 s4=>?_⟩;have u:=C.trans s4;cases N with|next=>exact⟨_,by omega,Y,B,u,rfl,t,j⟩|cont=>exact⟨_,by omega,Y,B,u,rfl,t,j⟩|brk=>cases j;exact k Y O H4 (w.fin _ _ _ _ u).1|ret r=>cases j;intro v rr;obtain⟨z1,z2⟩:=w.fin _ _ _ _ u;exact k Y O H4 z1 v (z2 v r (rr.later C))
 . left;have ac:ds.drop i=[]:=by rw[drop_eq_nil_iff];omega
   rw[ac,Hl]at j;cases j;exact⟨s2 (by omega),k E o U (w.fin _ _ _ _ W).1⟩
theorem lR(i:Nat):(λ(ρ:List Sl)(d:D)=>cA ρ [i] true d)=λρ d=>put ρ i (.val false d):=by funext ρ d;rfl
theorem Ip{f:Pos}(h:PassesOwn (model X.prog X.w) X.A X.env X.xe)(hc:X.calm=true)(j:X.N.Nodup)(g:X.N[i]?=some x)(k:Loc X.env.scope x)(l:SI X c (.Name x f) iter p)(o:SB X c n body ss)(hs:∀x,foldedSetIterable iter X.env x=pure x:=by intro _;rfl)(q:X.fn x=true\/X.env.scope.names.lookup x=some .local:=by first|exact .inl rfl|exact .inr rfl|assumption):SS X c n (.For (.Name x f) iter body [] pos) (.iz p [i] true ss):=mG h hc l (aO j g k q) (by rw[lR];exact tD i) o hs
theorem wY(L:PassesOwn (model X.prog X.w) X.A X.env X.xe)(ht:ST X c e p)(M:SB X c n body ss):SS X c n (.While e body [] pos) (.whl p ss):=by refine fB (wN L ht M) ?_;rintro D σ H⟨F,ρ,fl,o,g,e,k⟩;rw[HH.X14]at e;refine⟨λm j E=>∃q f,au X.K F ρ σ H q f j E/\oO (iB (HH.ev c p)) (gY c n ss) m f=.ok fl o,⟨n,F,ρ,.refl g,e⟩,?_⟩;rintro m j E⟨q,f,G,h⟩;cases m with|zero=>rw[Ql]at h;cases h|succ m=>rw[Dp]at h;obtain⟨b,t,O,h⟩:=aa h;refine⟨q,f,b,t,G.gs,O,λF1 Q s1=>?_⟩;have s2:=G.trans s1;cases b with|false=>rw[if_neg Bool.false_ne_true]at h;cases h;exact k F1 j Q s2|true=>rw[if_pos rfl]at h;obtain⟨u,l,U,h⟩:=aa h;refine(show ∃N:L2.St->Hp->Prop,_/\_ from⟨λy H'=>∃I,I<m+1/\∃q f,au X.K F ρ σ H q f y H'/\oO (iB (HH.ev c p)) (gY c n ss) I f=.ok fl o,λy H' z=>z,F1,t,u,l,s2.gs,U,λC B J s4=>?_⟩);have s5:=s2.trans s4;cases u with|next=>exact⟨m,by omega,C,l,s5,h⟩|cont=>exact⟨m,by omega,C,l,s5,h⟩|brk=>cases h;exact k C B J s5|ret r=>cases h;exact λv W=>k C B J s5 v (W.later s2)
end
section
variable{X:Cx}{c:Call}{n:Nat}{e elt tg iter:Expr}{p ps pe:P}{pos:Pos}{scope:Scope}{N':List Str}{ifs:List Expr}
theorem Ou{t t':TE}(h:PE X e t)(i:∀σ H Q,σ.length=X.N.length->t' σ H Q->t σ H Q):PE X e t':=λa s σ H Q I q=>h a s σ H Q I (i σ H Q I.len q)
theorem Qa{st:Stmt}{t t':TS}(h:PS X st t)(i:∀D σ H,σ.length=X.N.length->t' D σ H->t D σ H):PS X st t':=λa s σ H D I q=>h a s σ H D I (i D σ H I.len q)
def pQ(K:PySem.W.Frag)(m:Nat)(is:List Nat)(one:Bool)(g:TG):Prop:=∀(x:V)(d:D)(F:Hp)(ρ b:List Sl)(σ:L2.St)(H:Hp)(Q:L2.St->Hp->Prop),GS K F ρ σ H->Rep K F x d->cA ρ is one d=some b->(∀a,au K F ρ σ H F b a H->a.take m=σ.take m->Q a H)->g x σ H Q
theorem take_set{b:Type}{l:List b}{a:b}(h:m<=i):(l.set i a).take m=l.take m:=by rw[List.take_set_of_le h]
theorem dW(h:m<=i):pQ K m [i] true (gC i):=λx d F ρ a σ H Q g r b k=>k _ (au.put (r:=.val d) (.refl g) r b) (take_set h)
def SQ(X:Cx)(c:Call)(ifs:List Expr)(t:Option P):Prop:=Pz X ifs (Fp X.K (tH c t))
theorem jA:SQ X c [] none:=λa s σ H Q I⟨F,ρ,k,ρ',g,e,q⟩=>by rw[tH]at e;cases e;exact KJ a s σ H Q I (q F H (.refl g))
theorem tV(h:ST X c e p):SQ X c [e] (some p):=λa s σ H Q I⟨F,ρ,k,ρ',g,e,q⟩=>by rw[tH]at e;exact Jl h a s σ H Q I ⟨F,ρ,k,ρ',g,e,q⟩
theorem au.Ef{F1 j:Hp}{f:List Sl}{g:L2.St}{Da:Addr}{o:HO}(s:au K F ρ σ H F1 f g j)(h:H Da=none)(q:F1 Da=none)(ho:¬ Own f g Da):au K F ρ σ H F1 f g (upd j Da o):=by
 refine⟨⟨λb u e=>?_,s.gs.len,s.gs.val,λi t ds e k=>?_,s.gs.dis⟩,s.cV,s.uU,λb u e n=>?_,s.uV,s.len,s.lk⟩
 . have:b≠Da:=by rintro rfl;rw[q]at e;cases e
   rw[ao this];exact s.gs.sub b u e
 . obtain⟨a,xs,l,r,w,y⟩:=s.gs.own i t ds e k;have:a≠Da:=by rintro rfl;exact ho ⟨i,⟨t,ds,e,k⟩,l⟩
   exact⟨a,xs,l,by rw[ao this];exact r,w,y⟩
 . have:b≠Da:=by rintro rfl;rw[h]at e;cases e
   rw[ao this];exact s.keep b u e n
theorem Dy{b r:List Sl}{ul:List Sl->List Sl}{ti:TI}{one:Bool}{u:List Sl->Res Bool}{el:Ev}{g:TG}{Q:VK}{xs:List D}(hm:σ.length=m)(ah:pQ K m is one g)(ai:∀R:It->Hp->Prop,(∀J F1 W,Walk K F ρ σ H ul J ds F1 b W->R J W)->ti σ H R)(ap:ds.length<=lim)(e2:turns is one u el ds [] (b++replicate n .aL)=.ok xs r)(k:∀v F' H',au K F ρ σ H F' (ul (r.take b.length)) σ H'->cH K F' (ul (r.take b.length)) σ H' ρ σ H v (.own xs)->Q v H'):rC n ti g (Fp K u) (wL K el) σ H Q:=by
 refine ai _ λJ F1 W w Da O=>?_;have al:b.length=σ.length:=w.gs.len;have gm:=w.gs.more (n:=n) (τ:=replicate n none) (by simp);have fD:F1 Da=none:=by cases q:F1 Da with|none=>rfl|some o=>rw[w.gs.sub Da o q]at O;cases O
 have nO:¬ Own (b++replicate n .aL) (σ++replicate n none) Da:=λ⟨i,⟨t,dt,q1,q2⟩,q3⟩=>by obtain⟨a,ys,z1,z2,_⟩:=gm.own i t dt q1 q2;rw[q3]at z1;cases z1;rw[O]at z2;cases z2
 refine⟨λi mm ys f G=>∃E h l,au K F1 (b++replicate n .aL) (σ++replicate n none) W E h f G/\f.take m=σ/\G Da=some (.lst ys)/\E Da=none/\¬ Own h f Da/\aB K E ys l/\l.length<=i/\mm=ds.length-i/\i<=ds.length/\turns is one u el (ds.drop i) l h=.ok xs r,⟨_,F1,_,[],(au.refl gm).Ef O fD nO,by rw[List.take_append_of_le_length (by omega),List.take_of_length_le (by omega)],aA,fD,nO,.nil,uR,rfl,uR,e2⟩,?_⟩;rintro i mm ys f G⟨E,h,l,Y,I,Z,hF,hO,rs,ar,rfl,av,j⟩;refine⟨Z,?_⟩--what stays of the new list through a step
 have stay:∀{L U:Hp}{M:List Sl}{B:L2.St},au K E h f G L M B U->U Da=some (.lst ys)/\L Da=none/\¬ Own M B Da:=λ{L U M B}s=>by
  refine⟨s.keep Da _ Z hO,?_,λo=>?_⟩;.cases q:L Da with|none=>rfl|some o=>
      rcases s.uU Da hF (by rw[q];simp)with z|z;.exact absurd z hO
      .exact(Hd Z z).elim
  . rcases s.uV Da o with z|z;.exact hO z
    .rw[Z]at z;cases z
 obtain⟨s1,s2⟩:=w.src n i E h f G Y;by_cases C:i<ds.length
 . right;have hd:ds[i]?=some ds[i]:=by simp[C]
   obtain⟨go,step⟩:=s1 _ hd;refine⟨go,λx U y=>?_⟩;obtain⟨L,ext,rx⟩:=step x U y;have t2:=ext.stp Y.gs;rw[drop_eq_getElem_cons C,G3]at j;cases hbd:cA h is one ds[i]with|none=>rw[hbd]at j;cases j|some ac=>rw[hbd]at j;obtain⟨bb,N,eb,j⟩:=aa j;refine ah x _ L h ac f U _ t2.gs rx hbd λB sb ae=>?_;have t3:=t2.trans sb;refine⟨L,ac,bb,N,t3.gs,eb,λF4 H4 s4=>?_⟩;have t4:=t3.trans s4;cases bb with|false=>rw[if_neg Bool.false_ne_true]at j;obtain⟨y1,y2,y3⟩:=stay t4;exact⟨_,by omega,F4,N,l,Y.trans t4,ae.trans I,y1,y2,y3,rs.mono t4.cV,by omega,rfl,C,j⟩|true=>
       rw[if_pos rfl]at j;obtain⟨re,af,ee,j⟩:=aa j;refine(show wL K el B H4 _ from⟨F4,N,re,af,t4.gs,ee,λv F5 H5 s5 rr=>?_⟩);obtain⟨F6,s6,_,rp⟩:=s5.cO rr;have t6:=t4.trans s6;obtain⟨y1,y2,y3⟩:=stay t6;have ag:ys.length<sizeLine:=by have h1:=rs.length;have h2:lim=sizeLine:=rfl;omega
       exact⟨y1,ag,_,by omega,F6,af,l++[re.d],(Y.trans t6).Ef O y2 y3,ae.trans I,aA,y2,y3,(rs.mono t6.cV).append (.cons rp .nil),by simp;omega,rfl,C,j⟩
 . left;have am:ds.drop i=[]:=by rw[drop_eq_nil_iff];omega
   rw[am,Ga]at j;cases j;refine⟨s2 (by omega),?_⟩;obtain⟨l1,l2⟩:=au.less (m:=b.length) rfl w.gs (by simp) Y;have hst:f.take b.length=σ:=by rw[al,hm];exact I
   rw[hst]at l1;have rr:cH K E r f G (b++replicate n .aL) (σ++replicate n none) W (.ref Da) (.own xs):=⟨Da,ys,rfl,Z,hF,rs,hO,.inr O⟩;have Oe:=l2 _ _ rr;rw[hst]at Oe;obtain⟨z1,z2⟩:=w.fin _ _ _ _ l1;exact k _ E G z1 (z2 _ _ Oe)
theorem Ae{iv:Option Nat}{f:Ev}{one:Bool}{b:List Sl->Res Bool}{u:Ev}{g:TG}{Q:VK}{r:R}{j:List Sl}(y:σ.length=m)(q:pQ K m is one g)(z:GS K F ρ σ H)(e:((srcOf iv f ρ).bind λds a=>if ds.length<=lim then(turns is one b u ds [] (a++replicate n .aL)).bind λxs l=>Res.ok (R.own xs) (aZ ρ iv (l.take a.length))else .stuck)=.ok r j)(k:∀v w H',au K F ρ σ H w j σ H'->cH K w j σ H' ρ σ H v r->Q v H'):rC n (tIt K iv f) g (Fp K b) (wL K u) σ H Q:=by
 obtain⟨ds,t,B,e⟩:=aa e;split at e;.rename_i o;obtain⟨xs,C,E,e⟩:=aa e;cases e;exact Dy y q (λR h=>⟨F,ρ,ds,t,z,B,h⟩) o E k
 .cases e
theorem iR{g:TG}{one:Bool}{t:Option P}(hc:X.calm=true)(ok:fG X scope N' n)(b:SI X c tg iter ps)(f:∀cl C s₀ H₀ ex,PG (qU X scope N' cl C s₀ H₀ ex) tg g)(a:pQ X.K X.N.length is one g)(ht:∀cl C s₀ H₀ ex,SQ (qU X scope N' cl C s₀ H₀ ex) c ifs t)(he:∀cl C s₀ H₀ ex,SX (qU X scope N' cl C s₀ H₀ ex) c elt pe)(hs:∀x,foldedSetIterable iter X.env x=pure x:=by intro _;rfl):SX X c (.ListComp elt [⟨tg,iter,ifs,0⟩] scope pos) (.comp ps n is one t pe):=by refine⟨Ou (Jf (tt:=Fp X.K (tH c t)) (te:=wL X.K (HH.ev c pe)) hc ok b f ht (λcl C s₀ H₀ ex=>(he cl C s₀ H₀ ex).ev) hs) ?_,λi h=>by cases h⟩;rintro σ H Q j⟨F,ρ,r,l,o,e,k⟩;rw[HH.E19]at e;exact Ae j a o e k
theorem Lr{a b:Pos}{nn:Nat}{g:TG}{one:Bool}{t:Option P}(hc:X.calm=true)(q:X.N.Nodup)(h:X.N[i]?=some x)(u:Loc X.env.scope x)(ok:fG X scope N' n)(w:SI X c tg iter ps)(y:∀cl C s₀ H₀ ex,PG (qU X scope N' cl C s₀ H₀ ex) tg g)(j:pQ X.K X.N.length is one g)(ht:∀cl C s₀ H₀ ex,SQ (qU X scope N' cl C s₀ H₀ ex) c ifs t)(he:∀cl C s₀ H₀ ex,SX (qU X scope N' cl C s₀ H₀ ex) c elt pe)(l:swapsWith (.ListComp elt [⟨tg,iter,ifs,0⟩] scope pos) (some (.Name x a)) b.line X.env=pure true:=by rfl)(hs:∀x,foldedSetIterable iter X.env x=pure x:=by intro _;rfl)(z:X.fn x=true\/X.env.scope.names.lookup x=some .local:=by first|exact .inl rfl|exact .inr rfl|assumption):SS X c nn (.Assign [.Name x a] (.ListComp elt [⟨tg,iter,ifs,0⟩] scope pos) b) (.asg i (.comp ps n is one t pe)):=by refine Qa (yR (tt:=Fp X.K (tH c t)) (te:=wL X.K (HH.ev c pe)) hc q h u ok w y ht (λcl C s₀ H₀ ex=>(he cl C s₀ H₀ ex).ev) l hs z) ?_;rintro D σ H B⟨F,ρ,fl,E,G,e,k⟩;rw[HH.X6]at e;obtain⟨r,I,o,e⟩:=aa e;obtain⟨J,L,f,e⟩:=aa e;cases e;have M:=aD f;clear f;obtain⟨f,U⟩:=M;rw[HH.E19]at o;exact Ae B j G o λv F1 O s1 Q=>k F1 _ O (s1.put Q f)
end
section
variable{X:Cx}{c:Call}{n:Nat}{e a b d:Expr}{p pa pb pd:P}{pos:Pos}{es:List Expr}{ps:List P}
noncomputable def tyN:D->String|.non=>"NoneType"|.bl _=>"bool"|.int _=>"int"|.str _=>"str"|.tup _=>"tuple"|.lst _=>"list"|.dq _=>"dict"|.dv _ _=>"dict"
noncomputable def XF:Ty->String|.none=>"NoneType"|.bool=>"bool"|.int=>"int"|.str=>"str"|.tuple=>"tuple"|.list=>"list"
theorem Vk(K:PySem.W.Frag)(t:Ty)(d:D):PySem.W.kitOne K (.type (tyN d)) (.type (XF t))=some (cz t d):=by cases t<;>cases d<;>rfl
theorem Xu{k:List (Addr×Obj)}{x:V}{u:Value}{dt:D}(I:L2.Inv X k σ H s)(sm:aF F H)(g:cU X.K F H x dt)(f:RelV x u):(∃r,PySem.W.KitX X.K u (.type (tyN dt)) r/\r s.heap)/\u≠.builtin "__main__.__loader__#opaque":=by cases dt with|non=>rw[g.non]at f;cases f;exact⟨⟨_,PySem.W.kitx_none,trivial⟩,nofun⟩|bl y=>rw[g.bl]at f;cases f;exact⟨⟨_,PySem.W.kitx_bool,trivial⟩,nofun⟩|int i=>rw[g.int]at f;obtain⟨t,rfl⟩:=f;exact⟨⟨_,PySem.W.kitx_int,trivial⟩,nofun⟩|str y=>rw[g.str]at f;obtain⟨t,rfl⟩:=f;exact⟨⟨_,PySem.W.kitx_str,trivial⟩,nofun⟩|tup ds=>obtain⟨q,xs,rfl,h,_⟩:=g.tup sm;cases f;obtain⟨l,_,⟨o,h1,j,_⟩,_⟩:=I.tuple h;exact⟨⟨_,PySem.W.kitx_tuple,⟨o,h1,j⟩⟩,nofun⟩|lst ds=>obtain⟨q,xs,rfl,h,_⟩:=g.lst sm;cases f;obtain⟨l,_,pl,_⟩:=I.list h;obtain⟨o,h1,j,_⟩:=pl.isList;exact⟨⟨_,PySem.W.kitx_list,⟨o,h1,j⟩⟩,nofun⟩|dq m=>obtain⟨q,_,rfl,h⟩:=g.dq sm;cases f;obtain⟨o,h1,j⟩:=GX I h;exact⟨⟨_,kitx_dict,⟨o,h1,j⟩⟩,nofun⟩|dv ks ds=>obtain⟨q,_,vs,rfl,h,_⟩:=g.dv sm;cases f;obtain⟨o,h1,j⟩:=Em I h;exact⟨⟨_,kitx_dict,⟨o,h1,j⟩⟩,nofun⟩
theorem SJ(t:Ty):dH X (.builtin "isinstance") (λxs H Q=>∃x F dt,xs=[x,.ty (XF t)]/\aF F H/\cU X.K F H x dt/\Q (.bl (cz t dt)) H):=by rintro g s σ H xs w Q I r⟨x,F,dt,h,sm,j,q⟩;subst h;obtain⟨u,k,rfl,l,rt⟩:=r.two;cases(show k=Value.type (XF t)from rt);obtain⟨⟨y,Z,hz⟩,f⟩:=Xu I sm j l;exact PySem.W.kia_one Z I.Ph hz (Vk _ t dt) f λo=>⟨.bl _,H,I.tok o,rfl,q⟩
theorem Fq:bootBuiltins "isinstance"=some (.builtin "isinstance"):=by decide+kernel
theorem gf{y:Str}{f:Pos}(t:Ty)(w:x="isinstance")(z:Gl X x)(B:X.mg x=none)(C:SX X c a pa)(j:Gl X y)(l:X.mg y=none)(E:bootBuiltins y=some (.type (XF t)))(o:y≠"__name__":=by decide)(q:(y==("__debug__":Str))=false:=by decide)(hs:starEach [a,.Name y f] X.env=(false,eval a X.env)::starEach [.Name y f] X.env:=by rfl):SX X c (.Call (.Name x p') [a,.Name y f] [] pos) (.inst [t] pa):=by subst w;obtain⟨N,h1,G⟩:=C.cG;refine⟨dX (fj (SJ t) z B Fq (cW h1 (cW (J7 (v:=.ty (XF t)) j l E rfl o q) dR) hs) (he:=hs)) ?_,λi h=>by cases h⟩;rintro σ H Q⟨F,ρ,r,I,g,e,k⟩;rw[HH.E18]at e;obtain⟨dt,J,L,e⟩:=aa e;cases e;refine G g L λv u H' s M=>⟨v,u,dt,rfl,s.gs.sub,M,k _ u H' s ?_⟩;show Rep X.K u _ _;rw[any_cons,List.any_nil,Bool.or_false];exact fP _
inductive rBn(K:PySem.W.Frag)(f:List D->Option R)(xs:List V)(H:Hp)(Q:VK):Prop where|mk(F:Hp)(ds:List D)(r:R)(sm:aF F H)(rs:aB K F xs ds)(he:f ds=some r)(k:∀v F' H',Ext F H F' H'->bW K F' H' H v r->Q v H')
theorem Nj{E:Expr}{f:List D->Option R}{q:P}(o:∀{t},PA X es t->PE X E (tCB (rBn X.K f) t))(u:SA X c es ps)(y:∀ρ,HH.ev c q ρ=(evs c ps ρ).bind λds ρ=>lift (f ds) ρ)(z:isVar q=none):SX X c E q:=by refine⟨dX (o u.1) ?_,λi h=>by rw[z]at h;cases h⟩;rintro σ H Q⟨F,ρ,r,B,g,e,k⟩;rw[y]at e;obtain⟨ds,l,C,j⟩:=aa e;have G:=aD j;clear j;obtain⟨j,I⟩:=G;subst I;exact⟨F,ρ,ds,l,g,C,λvs J H' s L=>⟨J,ds,r,s.gs.sub,L,j,λw M N x O=>k w M N (s.trans (x.stp s.gs)) (.later s (O.nu s.gs))⟩⟩
theorem Nv{xs:List V}{i j:Int}(h:aB K F xs [.int i,.int j]):xs=[.int i,.int j]:=by obtain⟨v,r,rfl,h1,g⟩:=h.bY;obtain⟨u,l,rfl,f,k⟩:=g.bY;rw[Rep]at h1 f;rw[h1,f,k.eZ]
theorem inv2{f:YS}{g:Int->Int->Int}{r:R}(h0:blt f []=none)(h1:∀a,blt f [a]=none)(o:∀a b c l,blt f (a::b::c::l)=none)(q:∀a b,dM a=false->blt f [a,b]=none)(t:∀i b,dM b=false->blt f [.int i,b]=none)(u:∀i j,blt f [.int i,.int j]=some (.val (.int (g i j))))(he:blt f ds=some r):∃i j,ds=[.int i,.int j]/\r=.val (.int (g i j)):=by
 rcases ds with _|⟨a,_|⟨b,_|⟨c,l⟩⟩⟩;.rw[h0]at he;cases he
 .rw[h1]at he;cases he
 . by_cases h:dM a=true
   . obtain⟨i,rfl⟩:∃i,a=.int i:=by cases a<;>first|exact⟨_,rfl⟩|cases h
     by_cases k:dM b=true
     . obtain⟨j,rfl⟩:∃j,b=.int j:=by cases b<;>first|exact⟨_,rfl⟩|cases k
       rw[u]at he;cases he;exact⟨i,j,rfl,rfl⟩
     .rw[t i b (by simpa using k)]at he;cases he
   .rw[q a b (by simpa using h)]at he;cases he
 .rw[o]at he;cases he
theorem Qp(hc:X.calm=true):dH X (.builtin "min") (rBn X.K (blt .min2)):=by rintro f s σ H xs o Q I r⟨F,ds,t,sm,q,he,k⟩;obtain⟨i,j,rfl,rfl⟩:=inv2 (g:=λi j=>if j<i then j else i) rfl (λa=>by cases a<;>rfl) (λa b c l=>by cases a<;>first|rfl|(cases b<;>rfl)) (λa b h=>by cases a<;>first|rfl|cases h) (λi b h=>by cases b<;>first|rfl|cases h) (λ_ _=>rfl) he;rw[Nv q]at r;exact BW hc f s σ H _ o Q I r ⟨_,_,rfl,bW.cM sm (bT _) k⟩
theorem O6(hc:X.calm=true):dH X (.builtin "max") (rBn X.K (blt .max2)):=by rintro f s σ H xs o Q I r⟨F,ds,t,sm,q,he,k⟩;obtain⟨i,j,rfl,rfl⟩:=inv2 (g:=λi j=>if i<j then j else i) rfl (λa=>by cases a<;>rfl) (λa b c l=>by cases a<;>first|rfl|(cases b<;>rfl)) (λa b h=>by cases a<;>first|rfl|cases h) (λi b h=>by cases b<;>first|rfl|cases h) (λ_ _=>rfl) he;rw[Nv q]at r;exact Bk hc f s σ H _ o Q I r ⟨_,_,rfl,bW.cM sm (bT _) k⟩
theorem boot_min:bootBuiltins "min"=some (.builtin "min"):=by decide+kernel
theorem boot_max:bootBuiltins "max"=some (.builtin "max"):=by decide+kernel
theorem Ke(f:x="min")(hc:X.calm=true)(g:Gl X x)(j:X.mg x=none)(k:SA X c [a,b] [pa,pb])(hs:starEach [a,b] X.env=(false,eval a X.env)::starEach [b] X.env:=by rfl)(hpl:(backTo pos (starEach [b] X.env)).any (·.1)=false:=by rfl):SX X c (.Call (.Name x p') [a,b] [] pos) (.blt .min2 [pa,pb]):=by subst f;exact Nj (λh=>fj (Qp hc) g j boot_min h (he:=hs) (hpl:=hpl)) k (λρ=>rfl) rfl
theorem Ln(f:x="max")(hc:X.calm=true)(g:Gl X x)(j:X.mg x=none)(k:SA X c [a,b] [pa,pb])(hs:starEach [a,b] X.env=(false,eval a X.env)::starEach [b] X.env:=by rfl)(hpl:(backTo pos (starEach [b] X.env)).any (·.1)=false:=by rfl):SX X c (.Call (.Name x p') [a,b] [] pos) (.blt .max2 [pa,pb]):=by subst f;exact Nj (λh=>fj (O6 hc) g j boot_max h (he:=hs) (hpl:=hpl)) k (λρ=>rfl) rfl
end
section
variable{X:Cx}{c:Call}{n:Nat}{e a b d:Expr}{p pa pb pd:P}{pos:Pos}{es:List Expr}{ps:List P}
theorem za(g:GS K F ρ σ H)(h:CN ρ i=some ds):∃a xs,σ[i]?=some (some (V.ref a))/\eG K H a xs:=by
 unfold CN at h;split at h;.rename_i q;cases h;obtain⟨v,h1,f⟩:=g.pk q;obtain⟨a,xs,rfl,j,_⟩:=f.lst g.sub;exact⟨a,xs,h1,j⟩
 .cases h
theorem Ac{k:Nat}{h f:Pos}(I:X.N[k]?=some x)(J:vC X.env.scope x)(L:SX X c b pb)(he:SX X c e p)(M:∀ v,assign (.Subscript (.Name x h) b f) X.env v=(do
  let l<-holding [v] (eval (.Name x h) X.env)let iv<-holding [v,l] (eval b X.env)standAt f
  holding [v,l,iv] (setItem l iv v)release [v,l,iv] []):=by intro _;rfl)(hs:swapsWithSole [.Subscript (.Name x h) b f] e pos.line X.env=pure false:=by rfl)(O:swappedStores [.Subscript (.Name x h) b f] e X.env=pure none:=by rfl)(h1:(assignEach [.Subscript (.Name x h) b f] X.env).map (·.2)=[assign (.Subscript (.Name x h) b f) X.env]:=by rfl)(hd:(x==("__debug__":Str))=false:=by decide)(u:(x==("__classdict__":Str))=false:=by decide):SS X c n (.Assign [.Subscript (.Name x h) b f] e pos) (.Hy k pb p):=by
 obtain⟨ti,w,y⟩:=L.cG;refine fB (oG he.ev (ue (aP I J hd u) w set_list M) hs O h1) ?_;rintro D σ H⟨F,ρ,fl,Q,g,e,U⟩;rw[HH.X8]at e;obtain⟨r,z,W,e⟩:=aa e;obtain⟨x0,C,t,e⟩:=aa e;have Y:=aD t;clear t;obtain⟨t,Z⟩:=Y;subst Z;obtain⟨dk,ac,e2,e⟩:=aa e;refine⟨F,ρ,r,z,g,W,λv F1 H1 s1 rr=>?_⟩;obtain⟨F2,s2,_,rp⟩:=s1.cO rr;obtain⟨o,ho,_⟩:=s2.gs.pk t;refine⟨o,ho,y s2.gs e2 λvi F3 H3 s3 pi=>?_⟩;split at e
 . rename_i bb ds B q;split at e;.rename_i j hj;cases e;obtain⟨ad,xs,E,q2,q3,G⟩:=s3.gs.qJ k _ ds q rfl;rw[ho]at E;cases E;refine⟨ad,xs,B,j,rfl,pi.int,q2,by rw[G.length];exact hj,?_⟩;exact U F3 σ _ ((s2.trans s3).trans (s3.gs.mut q ho (G.set (rp.mono s3.cV) j)))
   .cases e
 .cases e
theorem cJ{k:Nat}{o h f:Pos}(G:X.N[k]?=some x)(I:vC X.env.scope x)(he:SX X c e p)(j:(h.endLine==f.line)=true:=by rfl)(hs:starEach [e] X.env=(false,eval e X.env)::starEach [] X.env:=by rfl)(l:attributeBase (.Name x o) "append" X.env (eval (.Name x o) X.env)=eval (.Name x o) X.env:=by rfl)(t:((backTo f (starEach [e] X.env)).all (λx=>!x.1)&&(backToKw f (keywordEach [] X.env)).all (λx=>x.1.isSome)&&decide ([e].length+([]:List Keyword).length+(if([]:List Keyword).isEmpty then 0 else 1)<30))=true:=by rfl)(w:swapsWith (.Call (.Attribute (.Name x o) "append" h) [e] [] f) none pos.line X.env=pure false:=by rfl)(hd:(x==("__debug__":Str))=false:=by decide)(y:(x==("__classdict__":Str))=false:=by decide):SS X c n (.Expr (.Call (.Attribute (.Name x o) "append" h) [e] [] f) pos) (.app k p):=by
 refine fB (tE (Gs plainAttrs_list PySem.F.slot_list_append PySem.F.type_list_append lW (aP G I hd y) (cW he.ev dR hs) l t j hs) w) ?_;rintro D σ H⟨F,ρ,fl,J,g,e,L⟩;rw[HH.X9]at e;obtain⟨d0,M,u,e⟩:=aa e;have O:=aD u;clear u;obtain⟨u,Q⟩:=O;subst Q;obtain⟨r,z,U,e⟩:=aa e;obtain⟨a,xs,h1,W⟩:=za g u;refine⟨.ref a,h1,.inl ⟨rfl,xs,W⟩,F,ρ,r,z,g,U,λv F1 H1 s1 Y=>?_⟩;obtain⟨Z,s2,_,rp⟩:=s1.cO Y;split at e
 . rename_i bb ds q;split at e;.rename_i B;cases e;obtain⟨ad,ys,C,q2,q3,E⟩:=s2.gs.qJ k _ ds q rfl;rw[h1]at C;cases C;exact⟨_,ys,v,rfl,rfl,q2,by rw[E.length];exact B,L Z σ _ (s2.trans (s2.gs.mut q h1 (E.append (.cons rp .nil))))⟩
   .cases e
 .cases e
theorem Fg{bs:List Bool}(h:ds.mapM xT=some bs):ds=bs.map D.bl:=by induction ds generalizing bs with|nil=>simp at h;subst h;rfl|cons d ds f=>rw[mapM_cons]at h;cases hd:xT d with|none=>rw[hd]at h;cases h|some k=>rw[hd]at h;cases hr:ds.mapM xT with|none=>rw[hr]at h;cases h|some r=>rw[hr]at h;cases h;rw[map_cons,<-f hr,pW hd]
theorem zW{K:PySem.W.Frag}{F:Hp}:∀{bs:List Bool}{xs:List V},aB K F xs (bs.map D.bl)->xs=bs.map V.bl|[],_,h=>h.eZ|k::bs,_,h=>by obtain⟨v,r,rfl,h1,f⟩:=h.bY;rw[Rep]at h1;rw[h1,zW f];rfl
theorem zG:∀{bs:List Bool}{f:List Value},Vals (bs.map V.bl) f->f=bs.map Value.bool|[],_,h=>h.zero|k::bs,_,.cons r t=>by rw[map_cons,<-zG t,show _=_ from r]
theorem Jc{id:String}{f:List Bool->Bool}(hc:X.calm=true)(rule:∀{x:Value}{Q:Value->Shared->Prop}{s:Shared},wpAny (model X.prog X.w) X.A.in1 (pyIter x) (λit g=>∃ I E q n P St t,it=.ref I/\Walks X.prog X.w X.A.in1 I E q n P St/\St 0 g.heap/\TruthOf X.prog X.w X.A.in1 P t/\∀h' y,(∀b o,b∉q->g.heap.get? b=some o->h'.get? b=some o)->Q (.bool (f ((List.range n).map t))) {g with heap:=h',toks:=y}) X.xe s->wpAny (model X.prog X.w) X.A (call (.builtin id) [x]) Q X.xe s):dH X (.builtin id) (λxs H Q=>∃p ys bs,xs=[.ref p]/\eG X.K H p ys/\ys=bs.map V.bl/\Q (.bl (f bs)) H):=by
 rintro B s σ H xs us Q I r⟨p,ys,bs,G,J,L,k⟩;subst G;subst L;obtain⟨u,rfl,M⟩:=r.one;cases M;obtain⟨N,O,pl,hz⟩:=I.list J;have h:=zG O;subst h;refine rule (wpAny_pyIter_list pl.isList ?_);have l:p≠s.heap.objs.size:=by obtain⟨o,h1,_⟩:=pl.isList;exact ne_of_lt (lt_size h1)
 refine⟨s.heap.objs.size,_,_,_,_,_,λi=>bs.getD i false,rfl,Walks.list (prog:=X.prog) (w:=X.w) (A:=X.A.in1) (show X.A.in1.handled=none from I.ok.hd hc) s.heap.objs.size p l (bs.map Value.bool).toArray,⟨⟨_,get?_push_size _ rfl,rfl,rfl⟩,?_⟩,?_,λh' y kp=>?_⟩;.obtain⟨o,h1,C⟩:=pl.isList;exact⟨o,gW h1,C⟩
 . intro i v s' Q' E' j U;have W:v=.bool (bs.getD i false):=by
    have j:(bs.map Value.bool)[i]?=some v:=by simpa using j
    rw[getElem?_map]at j;obtain⟨k',Y,Z⟩:=map_some j;rw[<-Z,List.getD_eq_getElem?_getD,Y];rfl
   subst W;exact wpAny_truthy_bool U
 . have e:f ((List.range (bs.map Value.bool).toArray.size).map λi=>bs.getD i false)=f bs:=by
    congr 1;apply ext_getElem;.simp
    .intro i h1 C;simp at h1;simp[h1]
   rw[e];exact⟨.bl _,H,I.kept (λb o z=>kp b o (by simp;exact ne_of_lt (lt_size z)) (gW z)),rfl,k⟩
theorem V7(hc:X.calm=true):dH X (.builtin "all") (IK X.K λx=>blt .all [x]):=by rintro g s σ H xs q Q I r⟨x,t,F,d,u,sm,w,he,k⟩;obtain⟨bs,y,he⟩:=map_some (show((xu d).bind λds=>ds.mapM xT).map _=some u from he);subst he;obtain⟨ds,j,B⟩:=cQ y;have C:=Fg B;cases d with|lst es=>cases j;obtain⟨p,ys,rfl,E,l⟩:=w.lst sm;rw[C]at l;refine Jc (f:=λbs=>bs.all id) hc (λh=>call_all_walk (wpAny_mono h (λit o⟨I,fp,wr,n,P,Sx,tr,h1,h2,h3,h4,h5⟩=>⟨I,fp,wr,n,P,Sx,tr,h1,h2,h3,h4,λh' G kp=>?_⟩) λ_ _ z=>z)) g s σ H xs q Q I r ⟨p,ys,bs,t,E,zW l,bW.cM sm (fP _) k⟩;have z:=h5 h' G kp;rw[List.all_map]at z;exact z|_=>cases j
theorem boot_all:bootBuiltins "all"=some (.builtin "all"):=by decide+kernel
theorem Qs(f:x="all")(hc:X.calm=true)(g:Gl X x)(j:X.mg x=none)(k:SX X c a pa)(hs:starEach [a] X.env=(false,eval a X.env)::starEach [] X.env:=by rfl):SX X c (.Call (.Name x p') [a] [] pos) (.blt .all [pa]):=by subst f;exact mU (λh=>fj (V7 hc) g j boot_all h (he:=hs)) k (λρ=>rfl) rfl hs
end
section
variable{K:PySem.W.Frag}
theorem jq:∀{xs ys:List D},xs.length≠ys.length->gj xs ys=false|[],[],h=>absurd rfl h|[],_::_,_=>by simp[gO,dJ,je,jh]|_::_,[],_=>by simp[gO,dJ,je,jh]|x::xs,y::ys,h=>by rw[dJ,jq (xs:=xs) (ys:=ys) (by simpa using h),Bool.and_false]
theorem gh:∀{xs ys:List D},xs.length=ys.length->gj xs ys=(List.range xs.length).all λj=>fO (xs.getD j .non) (ys.getD j .non)|[],[],_=>by rw[gO];rfl|[],_::_,h=>by simp at h|_::_,[],h=>by simp at h|x::xs,y::ys,h=>by rw[dJ,gh (xs:=xs) (ys:=ys) (by simpa using h),length_cons,List.range_succ_eq_map,all_cons,List.all_map];rfl
mutual
theorem wj:∀d:D,fO d d=true|.non=>rfl|.bl _=>by exact beq_self_eq_true _|.int _=>by exact beq_self_eq_true _|.str _=>by exact beq_self_eq_true _|.tup ds=>by exact jy ds|.lst ds=>by exact jy ds|.dq _=>by exact decide_eq_true rfl|.dv ks ds=>by show(decide (ks=ks)&&gj ds ds)=true;rw[jy ds];simp
theorem jy:∀ds:List D,gj ds ds=true|[]=>by rw[gO]|d::ds=>by rw[dJ,wj d,jy ds];rfl
end
theorem eY{d e:D}(b:flat d=true)(h1:Rep K F v d)(a:Rep K F v e):d=e:=by cases d with
 |tup _=>cases b|lst _=>cases b|dq _=>cases b|dv _ _=>cases b|non=>rw[Rep]at h1;subst h1;cases e with|non=>rfl|tup _=>rw[Rep]at a;obtain⟨_,_,q,_⟩:=a;cases q|lst _=>rw[Rep]at a;obtain⟨_,_,q,_⟩:=a;cases q|dq _=>rw[Rep]at a;obtain⟨_,_,q,_⟩:=a;cases q|dv _ _=>rw[Rep]at a;obtain⟨_,_,_,q,_⟩:=a;cases q|_=>rw[Rep]at a;cases a
 |bl k=>rw[Rep]at h1;subst h1;cases e with|bl _=>rw[Rep]at a;cases a;rfl|tup _=>rw[Rep]at a;obtain⟨_,_,q,_⟩:=a;cases q|lst _=>rw[Rep]at a;obtain⟨_,_,q,_⟩:=a;cases q|dq _=>rw[Rep]at a;obtain⟨_,_,q,_⟩:=a;cases q|dv _ _=>rw[Rep]at a;obtain⟨_,_,_,q,_⟩:=a;cases q|_=>rw[Rep]at a;cases a
 |int k=>rw[Rep]at h1;subst h1;cases e with|int _=>rw[Rep]at a;cases a;rfl|tup _=>rw[Rep]at a;obtain⟨_,_,q,_⟩:=a;cases q|lst _=>rw[Rep]at a;obtain⟨_,_,q,_⟩:=a;cases q|dq _=>rw[Rep]at a;obtain⟨_,_,q,_⟩:=a;cases q|dv _ _=>rw[Rep]at a;obtain⟨_,_,_,q,_⟩:=a;cases q|_=>rw[Rep]at a;cases a
 |str k=>rw[Rep]at h1;subst h1;cases e with|str _=>rw[Rep]at a;cases a;rfl|tup _=>rw[Rep]at a;obtain⟨_,_,q,_⟩:=a;cases q|lst _=>rw[Rep]at a;obtain⟨_,_,q,_⟩:=a;cases q|dq _=>rw[Rep]at a;obtain⟨_,_,q,_⟩:=a;cases q|dv _ _=>rw[Rep]at a;obtain⟨_,_,_,q,_⟩:=a;cases q|_=>rw[Rep]at a;cases a
theorem J4{X:Cx}{u:List (Addr×Obj)}(I:L2.Inv X u σ H s)(sm:aF F H):∀n:Nat,(∀d:D,fC n d=true->∀(v:V)(e:D),Rep X.K F v d->Rep X.K F v e->d=e):=by
 have M:∀{a:Addr}{xs ys:List V},jG X.K F a xs->eG X.K F a ys->False:=λ{a xs ys}h1 b=>by obtain⟨_,_,⟨o,g,j,_⟩,_⟩:=I.tuple (aF.jc sm h1);obtain⟨_,_,pl,_⟩:=I.list (sm.seq b);obtain⟨B,c,f,_⟩:=pl.isList;rw[g]at c;cases c;rw[j]at f;exact absurd f (by decide)
 have N:∀{a:Addr}{kvs:Dc},Rep X.K F (.ref a) (.dq kvs)->∃o,s.heap.get? a=some o/\o.cls=.type "dict":=λ{a kvs}h=>by rw[Rep]at h;obtain⟨w,_,q,C⟩:=h;cases q;exact GX I (sm _ _ C)
 have O:∀{a:Addr}{xs:List V}{kvs:Dc},jG X.K F a xs->Rep X.K F (.ref a) (.dq kvs)->False:=λ{a xs kvs}h1 b=>by obtain⟨_,_,⟨o,g,j,_⟩,_⟩:=I.tuple (aF.jc sm h1);obtain⟨B,c,f⟩:=N b;rw[g]at c;cases c;rw[j]at f;exact absurd f (by decide)
 have ld:∀{a:Addr}{xs:List V}{kvs:Dc},eG X.K F a xs->Rep X.K F (.ref a) (.dq kvs)->False:=λ{a xs kvs}h1 b=>by obtain⟨_,_,pl,_⟩:=I.list (sm.seq h1);obtain⟨o,g,j,_⟩:=pl.isList;obtain⟨B,c,f⟩:=N b;rw[g]at c;cases c;rw[j]at f;exact absurd f (by decide)
 have y:∀{a:Addr}{ks:List Int}{es:List D},Rep X.K F (.ref a) (.dv ks es)->∃o,s.heap.get? a=some o/\o.cls=.type "dict":=λ{a ks es}h=>by rw[Rep]at h;obtain⟨w,_,_,q,C,_⟩:=h;cases q;exact Em I (sm _ _ C)
 have E:∀{a:Addr}{xs:List V}{ks:List Int}{es:List D},jG X.K F a xs->Rep X.K F (.ref a) (.dv ks es)->False:=λ{a xs ks es}h1 b=>by obtain⟨_,_,⟨o,g,j,_⟩,_⟩:=I.tuple (aF.jc sm h1);obtain⟨B,c,f⟩:=y b;rw[g]at c;cases c;rw[j]at f;exact absurd f (by decide)
 have G:∀{a:Addr}{xs:List V}{ks:List Int}{es:List D},eG X.K F a xs->Rep X.K F (.ref a) (.dv ks es)->False:=λ{a xs ks es}h1 b=>by obtain⟨_,_,pl,_⟩:=I.list (sm.seq h1);obtain⟨o,g,j,_⟩:=pl.isList;obtain⟨B,c,f⟩:=y b;rw[g]at c;cases c;rw[j]at f;exact absurd f (by decide)
 intro n;induction n with
 |zero=>intro d hd v e h1 b;cases d with|tup _=>simp[bD,bz,bB,bH,bG,bI]at hd|lst _=>simp[bD,bz,bB,bH,bG,bI]at hd|dq _=>simp[bD,bz,bB,bH,bG,bI]at hd|dv _ _=>simp[bD,bz,bB,bH,bG,bI]at hd|non=>exact eY rfl h1 b|bl k=>exact eY rfl h1 b|int k=>exact eY rfl h1 b|str k=>exact eY rfl h1 b
 |succ n Q=>
   have all:∀{xs:List V}{ds es:List D},ds.all (fC n)=true->aB X.K F xs ds->aB X.K F xs es->ds=es:=λ{xs ds}=>by induction ds generalizing xs with|nil=>intro es _ h1 b;rw[h1.eZ]at b;have:=b.length;exact(List.eq_nil_of_length_eq_zero this.symm).symm|cons d ds J=>intro es p h1 b;rw[all_cons,and_eq_true]at p;obtain⟨v,r,rfl,g,j⟩:=h1.bY;cases es with|nil=>cases b.eZ|cons e es=>obtain⟨W,Y,U,c,f⟩:=b.bY;cases U;rw[Q d p.1 v e g c,J p.2 j f]
   intro d hd v e h1 b;cases d with
   |dq _=>simp[bD,bz,bB,bH,bG,bI]at hd|dv _ _=>simp[bD,bz,bB,bH,bG,bI]at hd|tup ds=>
     have p:ds.all (fC n)=true:=by simpa[bD,bz,bB,bH,bG,bI]using hd
     rw[Rep]at h1;obtain⟨a,xs,rfl,l,L⟩:=h1;cases e with|tup es=>rw[Rep]at b;obtain⟨w,ys,q,t,z⟩:=b;cases q;have:=I.qR (aF.jc sm l) (aF.jc sm t);subst this;rw[all p L z]|lst es=>rw[Rep]at b;obtain⟨w,ys,q,t,z⟩:=b;cases q;exact(M l t).elim|dq _=>exact(O l b).elim|dv _ _=>exact(E l b).elim|_=>rw[Rep]at b;cases b
   |lst ds=>
     have p:ds.all (fC n)=true:=by simpa[bD,bz,bB,bH,bG,bI]using hd
     rw[Rep]at h1;obtain⟨a,xs,rfl,l,L⟩:=h1;cases e with|lst es=>rw[Rep]at b;obtain⟨w,ys,q,t,z⟩:=b;cases q;have:=I.wg (sm.seq l) (sm.seq t);subst this;rw[all p L z]|tup es=>rw[Rep]at b;obtain⟨w,ys,q,t,z⟩:=b;cases q;exact(M t l).elim|dq _=>exact(ld l b).elim|dv _ _=>exact(G l b).elim|_=>rw[Rep]at b;cases b
   |non=>exact eY rfl h1 b|bl k=>exact eY rfl h1 b|int k=>exact eY rfl h1 b|str k=>exact eY rfl h1 b
theorem zX{d e:D}{u:V}{c:Value}(hd:flat d=true)(he:flat e=true)(h1:Rep K F v d)(a:Rep K F u e)(r1:RelV v c)(b:RelV u u'):SeqAt.EqAt A s c u' (fO d e):=by cases d with
 |tup _=>cases hd|lst _=>cases hd|dq _=>cases hd|dv _ _=>cases hd|non=>rw[Rep]at h1;subst h1;cases(show c=.none from r1);cases e with|tup _=>cases he|lst _=>cases he|dq _=>cases he|dv _ _=>cases he|non=>rw[Rep]at a;subst a;cases(show u'=.none from b);exact SeqAt.EqAt.same _|bl _=>rw[Rep]at a;subst a;cases(show u'=.bool _ from b);exact none_bool _|int _=>rw[Rep]at a;subst a;obtain⟨t,rfl⟩:=b;exact none_int _ _|str _=>rw[Rep]at a;subst a;obtain⟨t,rfl⟩:=b;exact none_str _ _
 |bl _=>rw[Rep]at h1;subst h1;cases(show c=.bool _ from r1);cases e with|tup _=>cases he|lst _=>cases he|dq _=>cases he|dv _ _=>cases he|non=>rw[Rep]at a;subst a;cases(show u'=.none from b);exact bool_none _|bl _=>rw[Rep]at a;subst a;cases(show u'=.bool _ from b);exact bool_bool _ _|int _=>rw[Rep]at a;subst a;obtain⟨t,rfl⟩:=b;exact bool_int _ _ _|str _=>rw[Rep]at a;subst a;obtain⟨t,rfl⟩:=b;exact bool_str _ _ _
 |int _=>rw[Rep]at h1;subst h1;obtain⟨t0,rfl⟩:=r1;cases e with|tup _=>cases he|lst _=>cases he|dq _=>cases he|dv _ _=>cases he|non=>rw[Rep]at a;subst a;cases(show u'=.none from b);exact int_none _ _|bl _=>rw[Rep]at a;subst a;cases(show u'=.bool _ from b);exact int_bool _ _ _|int _=>rw[Rep]at a;subst a;obtain⟨t,rfl⟩:=b;exact int_int _ _ _ _|str _=>rw[Rep]at a;subst a;obtain⟨t,rfl⟩:=b;exact int_str _ _ _ _
 |str _=>rw[Rep]at h1;subst h1;obtain⟨t0,rfl⟩:=r1;cases e with|tup _=>cases he|lst _=>cases he|dq _=>cases he|dv _ _=>cases he|non=>rw[Rep]at a;subst a;cases(show u'=.none from b);exact str_none _ _|bl _=>rw[Rep]at a;subst a;cases(show u'=.bool _ from b);exact str_bool _ _ _|int _=>rw[Rep]at a;subst a;obtain⟨t,rfl⟩:=b;exact str_int _ _ _ _|str _=>rw[Rep]at a;subst a;obtain⟨t,rfl⟩:=b;exact str_str _ _ _ _
theorem j7{e:D}{u:V}{a:Addr}{g:Array Value}(ht:s.heap.IsTuple a g)(b:A.units<cLine)(he:flat e=true)(c:Rep K F u e)(f:RelV u u'):SeqAt.EqAt A s (.ref a) u' (fO (.tup ds) e)/\SeqAt.EqAt A s u' (.ref a) (fO e (.tup ds)):=by cases e with|tup _=>cases he|lst _=>cases he|dq _=>cases he|dv _ _=>cases he|non=>rw[Rep]at c;subst c;cases(show u'=.none from f);exact⟨SeqAt.EqAt.tuple_none ht b,SeqAt.EqAt.none_tuple ht b⟩|bl _=>rw[Rep]at c;subst c;cases(show u'=.bool _ from f);exact⟨SeqAt.EqAt.tuple_bool _ ht b,SeqAt.EqAt.bool_tuple _ ht b⟩|int _=>rw[Rep]at c;subst c;obtain⟨t,rfl⟩:=f;exact⟨SeqAt.EqAt.tuple_int _ _ ht b,SeqAt.EqAt.int_tuple _ _ ht b⟩|str _=>rw[Rep]at c;subst c;obtain⟨t,rfl⟩:=f;exact⟨SeqAt.EqAt.tuple_str _ _ ht b,SeqAt.EqAt.str_tuple _ _ ht b⟩
theorem lD{e:D}{u:V}{a:Addr}{g:Array Value}(ht:s.heap.IsList a g)(b:A.units<cLine)(he:flat e=true)(c:Rep K F u e)(f:RelV u u'):SeqAt.EqAt A s (.ref a) u' (fO (.lst ds) e)/\SeqAt.EqAt A s u' (.ref a) (fO e (.lst ds)):=by cases e with|tup _=>cases he|lst _=>cases he|dq _=>cases he|dv _ _=>cases he|non=>rw[Rep]at c;subst c;cases(show u'=.none from f);exact⟨SeqAt.EqAt.list_none ht b,SeqAt.EqAt.none_list ht b⟩|bl _=>rw[Rep]at c;subst c;cases(show u'=.bool _ from f);exact⟨SeqAt.EqAt.list_bool _ ht b,SeqAt.EqAt.bool_list _ ht b⟩|int _=>rw[Rep]at c;subst c;obtain⟨t,rfl⟩:=f;exact⟨SeqAt.EqAt.list_int _ _ ht b,SeqAt.EqAt.int_list _ _ ht b⟩|str _=>rw[Rep]at c;subst c;obtain⟨t,rfl⟩:=f;exact⟨SeqAt.EqAt.list_str _ _ ht b,SeqAt.EqAt.str_list _ _ ht b⟩
theorem wM{n:Nat}{d:D}(h:fC n d=true)(h0:n=0):flat d=true:=by subst h0;cases d<;>first|rfl|simp[bD,bz,bB,bH,bG,bI]at h
theorem abe{X:Cx}{L:List (Addr×Obj)}(I:L2.Inv X L σ H s)(sm:aF F H):∀(n:Nat)(A:Around),A.units+n<cLine->∀(d e:D),fC n d=true->fC n e=true->∀(v u:V)(M u':Value),Rep X.K F v d->Rep X.K F u e->RelV v M->RelV u u'->SeqAt.EqAt A s M u' (fO d e):=by intro n;induction n with|zero=>intro A hu d e hd he v u M u' h1 f r1 g;exact zX (wM hd rfl) (wM he rfl) h1 f r1 g|succ n ih=>
   intro A hu d e hd he v u M u' h1 f r1 g;have c:A.units<cLine:=by omega
   have Q:A.in1.units+n<cLine:=by show A.units+1+n<cLine;omega--items by place
   have N:∀{xs ys:List V}{t ws:List Value}{ds es:List D}{j:Nat}(E:j<t.toArray.size)(G:j<ws.toArray.size),ds.all (fC n)=true->es.all (fC n)=true->Vals xs t->Vals ys ws->aB X.K F xs ds->aB X.K F ys es->SeqAt.EqAt A.in1 s t.toArray[j] ws.toArray[j] (fO (ds.getD j .non) (es.getD j .non)):=λ{xs ys t ws ds es j}E G a1 a2 J l h k=>by
    have E:j<t.length:=by simpa using E
    have G:j<ws.length:=by simpa using G
    have w:j<ds.length:=by rw[<-h.length,J.length];exact E
    have l2:j<es.length:=by rw[<-k.length,l.length];exact G
    obtain⟨x,g1,g2⟩:=h.get (show ds[j]?=some ds[j]by simp[w]);obtain⟨y,g3,g4⟩:=k.get (show es[j]?=some es[j]by simp[l2]);obtain⟨Z,g5,g6⟩:=J.get g1;obtain⟨y',g7,g8⟩:=l.get g3;have e1:t.toArray[j]=Z:=by have:=(eN g5).2;simpa using this
    have e2:ws.toArray[j]=y':=by have:=(eN g7).2;simpa using this
    have e3:ds.getD j .non=ds[j]:=by simp[List.getD,w]
    have e4:es.getD j .non=es[j]:=by simp[List.getD,l2]
    rw[e1,e2,e3,e4];exact ih A.in1 Q _ _ (all_eq_true.mp a1 _ (getElem_mem w)) (all_eq_true.mp a2 _ (getElem_mem l2)) x y Z y' g2 g4 g6 g8--the same object
   have same:∀{a:Addr},v=.ref a->u=.ref a->SeqAt.EqAt A s M u' (fO d e):=λ{a}q1 q2=>by subst q1;subst q2;have:=J4 I sm (n+1) d hd _ e h1 f;subst this;rw[wj];cases r1;cases g;exact SeqAt.EqAt.same _
   cases d with
   |dq _=>simp[bD,bz,bB,bH,bG,bI]at hd|dv _ _=>simp[bD,bz,bB,bH,bG,bI]at hd|tup ds=>
     have U:ds.all (fC n)=true:=by simpa[bD,bz,bB,bH,bG,bI]using hd
     have o:=h1;rw[Rep]at o;obtain⟨a,xs,rfl,W,O⟩:=o;cases r1;obtain⟨t,J,h,_⟩:=I.tuple (aF.jc sm W)
     cases e with|dq _=>simp[bD,bz,bB,bH,bG,bI]at he|dv _ _=>simp[bD,bz,bB,bH,bG,bI]at he|tup es=>
       have Y:es.all (fC n)=true:=by simpa[bD,bz,bB,bH,bG,bI]using he
       have p:=f;rw[Rep]at p;obtain⟨b,ys,rfl,q,B⟩:=p;by_cases r:a=b;.subst r;exact same rfl rfl
       . cases g;obtain⟨ws,l,k,_⟩:=I.tuple (aF.jc sm q);refine .of_refs r ?_;have z:=SeqAt.RcAt.tuples (A:=A) (e:=λj=>fO (ds.getD j .non) (es.getD j .non)) h k c λj E G=>N E G U Y J l O B;have w:t.toArray.size=ds.length:=by rw[size_toArray,<-J.length,O.length]
         have l2:ws.toArray.size=es.length:=by rw[size_toArray,<-l.length,B.length]
         rw[w,l2]at z;have e0:fO (.tup ds) (.tup es)=((List.range (min ds.length es.length)).all (λj=>fO (ds.getD j .non) (es.getD j .non))&&ds.length==es.length):=by
          rw[pqt];by_cases C:ds.length=es.length;.rw[gh C,C];simp
          . rw[jq C];have:(ds.length==es.length)=false:=by simpa using C
            rw[this,Bool.and_false]
         rw[e0];exact z|lst es=>rw[Rep]at f;obtain⟨b,ys,rfl,q,B⟩:=f;cases g;obtain⟨ws,l,k,_⟩:=I.list (sm.seq q);exact SeqAt.EqAt.tuple_list h k.isList c|non=>exact(j7 h c rfl f g).1|bl _=>exact(j7 h c rfl f g).1|int _=>exact(j7 h c rfl f g).1|str _=>exact(j7 h c rfl f g).1
   |lst ds=>
     have U:ds.all (fC n)=true:=by simpa[bD,bz,bB,bH,bG,bI]using hd
     have o:=h1;rw[Rep]at o
     obtain⟨a,xs,rfl,W,O⟩:=o;cases r1;obtain⟨t,J,h,_⟩:=I.list (sm.seq W);cases e with|dq _=>simp[bD,bz,bB,bH,bG,bI]at he|dv _ _=>simp[bD,bz,bB,bH,bG,bI]at he|lst es=>
       have Y:es.all (fC n)=true:=by simpa[bD,bz,bB,bH,bG,bI]using he
       have p:=f;rw[Rep]at p;obtain⟨b,ys,rfl,q,B⟩:=p;by_cases r:a=b;.subst r;exact same rfl rfl
       . cases g;obtain⟨ws,l,k,_⟩:=I.list (sm.seq q);refine .of_refs r ?_;have w:t.toArray.size=ds.length:=by rw[size_toArray,<-J.length,O.length]
         have l2:ws.toArray.size=es.length:=by rw[size_toArray,<-l.length,B.length]
         rw[pql];by_cases C:ds.length=es.length;.have z:=SeqAt.RcAt.lists (A:=A) (e:=λj=>fO (ds.getD j .non) (es.getD j .non)) h.isList k.isList (by rw[w,l2,C]) c λj E G=>N E G U Y J l O B;rw[w]at z;rw[gh C];exact z
         .rw[jq C];exact lists_lengths h.isList k.isList (by rw[w,l2];simpa using C) c|tup es=>rw[Rep]at f;obtain⟨b,ys,rfl,q,B⟩:=f;cases g;obtain⟨ws,l,k,_⟩:=I.tuple (aF.jc sm q);exact SeqAt.EqAt.list_tuple h.isList k c|non=>exact(lD h.isList c rfl f g).1|bl _=>exact(lD h.isList c rfl f g).1|int _=>exact(lD h.isList c rfl f g).1|str _=>exact(lD h.isList c rfl f g).1
   |non|bl _|int _|str _=>cases e with|dq _=>simp[bD,bz,bB,bH,bG,bI]at he|dv _ _=>simp[bD,bz,bB,bH,bG,bI]at he|tup es=>rw[Rep]at f;obtain⟨b,ys,rfl,q,B⟩:=f;cases g;obtain⟨ws,l,k,_⟩:=I.tuple (aF.jc sm q);exact(j7 k c rfl h1 r1).2|lst es=>rw[Rep]at f;obtain⟨b,ys,rfl,q,B⟩:=f;cases g;obtain⟨ws,l,k,_⟩:=I.list (sm.seq q);exact(lD k.isList c rfl h1 r1).2|_=>exact zX rfl rfl h1 f r1 g
end
section
variable{X:Cx}{pins:List (Addr×Obj)}{σ:L2.St}{H F:Hp}{s:Shared}{A:Around}
abbrev RC(A:Around)(s:Shared)(v u:Value)(k:Bool):Prop:=SeqAt.RcAt A s v u k/\SeqAt.RcNeAt A s v u (!k)
inductive Top(X:Cx)(F H:Hp)(s:Shared):Value->D->Prop where|non:Top X F H s .none .non|bl(b:Bool):Top X F H s (.bool b) (.bl b)|int(i:Int)(t:Tok):Top X F H s (.int i t) (.int i)|str(x:Str)(t:Tok):Top X F H s (.str x t) (.str x)|tup{a:Addr}{us:List Value}{xs:List V}{ds:List D}(ht:s.heap.IsTuple a us.toArray)(hv:Vals xs us)(hr:aB X.K F xs ds):Top X F H s (.ref a) (.tup ds)|lst{a:Addr}{us:List Value}{xs:List V}{ds:List D}(ht:s.heap.IsList a us.toArray)(hv:Vals xs us)(hr:aB X.K F xs ds):Top X F H s (.ref a) (.lst ds)
theorem my(I:L2.Inv X pins σ H s)(sm:aF F H){g:Value}{d:D}(hd:fC 8 d=true)(h:cU X.K F H v d)(r:RelV v g):Top X F H s g d:=by cases d with|dq _=>simp[bD,bz,bB,bH,bG,bI]at hd|dv _ _=>simp[bD,bz,bB,bH,bG,bI]at hd|non=>rw[h.non]at r;cases r;exact .non|bl b=>rw[h.bl]at r;cases r;exact .bl b|int i=>rw[h.int]at r;obtain⟨t,rfl⟩:=r;exact .int i t|str x=>rw[h.str]at r;obtain⟨t,rfl⟩:=r;exact .str x t|tup ds=>obtain⟨a,xs,rfl,h1,c,_⟩:=h.tup sm;cases r;obtain⟨j,e,f,_⟩:=I.tuple h1;exact .tup f e c|lst ds=>obtain⟨a,xs,rfl,h1,c⟩:=h.lst sm;cases r;obtain⟨j,e,f,_⟩:=I.list h1;exact .lst f.isList e c
theorem Qn(I:L2.Inv X pins σ H s)(sm:aF F H){n:Nat}(hu:A.units+(n+1)<cLine){d e:D}(hd:fC (n+1) d=true)(he:fC (n+1) e=true){J:Value}(h1:Top X F H s J d)(w:Top X F H s u' e):RC A s J u' (fO d e):=by
 have c:A.units<cLine:=by omega
 have G:A.in1.units+n<cLine:=by show A.units+1+n<cLine;omega
 have r:∀{xs ys:List V}{q ws:List Value}{ds es:List D}{j:Nat}(k:j<q.toArray.size)(l:j<ws.toArray.size),ds.all (fC n)=true->es.all (fC n)=true->Vals xs q->Vals ys ws->aB X.K F xs ds->aB X.K F ys es->SeqAt.EqAt A.in1 s q.toArray[j] ws.toArray[j] (fO (ds.getD j .non) (es.getD j .non)):=λ{xs ys q ws ds es j}k l W Y L M N O=>by
  have k:j<q.length:=by simpa using k
  have l:j<ws.length:=by simpa using l
  have o:j<ds.length:=by rw[<-N.length,L.length];exact k
  have l2:j<es.length:=by rw[<-O.length,M.length];exact l
  obtain⟨x,Z,g2⟩:=N.get (show ds[j]?=some ds[j]by simp[o]);obtain⟨y,g3,g4⟩:=O.get (show es[j]?=some es[j]by simp[l2]);obtain⟨Q,g5,g6⟩:=L.get Z;obtain⟨U,g7,g8⟩:=M.get g3;have e1:q.toArray[j]=Q:=by have:=(eN g5).2;simpa using this
  have e2:ws.toArray[j]=U:=by have:=(eN g7).2;simpa using this
  have e3:ds.getD j .non=ds[j]:=by simp[List.getD,o]
  have e4:es.getD j .non=es[j]:=by simp[List.getD,l2]
  rw[e1,e2,e3,e4];exact abe I sm n A.in1 G _ _ (all_eq_true.mp W _ (getElem_mem o)) (all_eq_true.mp Y _ (getElem_mem l2)) x y Q U g2 g4 g6 g8
 cases h1 with
 |non=>cases w with|non=>exact⟨SeqAt.RcAt.none_none,SeqAt.RcNeAt.none_none⟩|bl b=>exact⟨SeqAt.RcAt.none_bool _,SeqAt.RcNeAt.none_bool _⟩|int i t=>exact⟨SeqAt.RcAt.none_int _ _,SeqAt.RcNeAt.none_int _ _⟩|str i t=>exact⟨SeqAt.RcAt.none_str _ _,SeqAt.RcNeAt.none_str _ _⟩|tup ht _ _=>exact⟨SeqAt.RcAt.none_tuple ht c,SeqAt.RcNeAt.none_tuple ht c⟩|lst ht _ _=>exact⟨SeqAt.RcAt.none_list ht c,SeqAt.RcNeAt.none_list ht c⟩
 |bl b0=>cases w with|non=>exact⟨SeqAt.RcAt.bool_none _,SeqAt.RcNeAt.bool_none _⟩|bl b=>exact⟨SeqAt.RcAt.bool_bool _ _,SeqAt.RcNeAt.bool_bool _ _⟩|int i t=>exact⟨SeqAt.RcAt.bool_int _ _ _,SeqAt.RcNeAt.bool_int _ _ _⟩|str i t=>exact⟨SeqAt.RcAt.bool_str _ _ _,SeqAt.RcNeAt.bool_str _ _ _⟩|tup ht _ _=>exact⟨SeqAt.RcAt.bool_tuple _ ht c,SeqAt.RcNeAt.bool_tuple _ ht c⟩|lst ht _ _=>exact⟨SeqAt.RcAt.bool_list _ ht c,SeqAt.RcNeAt.bool_list _ ht c⟩
 |int i0 t0=>cases w with|non=>exact⟨SeqAt.RcAt.int_none _ _,SeqAt.RcNeAt.int_none _ _⟩|bl b=>exact⟨SeqAt.RcAt.int_bool _ _ _,SeqAt.RcNeAt.int_bool _ _ _⟩|int i t=>exact⟨SeqAt.RcAt.int_int _ _ _ _,SeqAt.RcNeAt.int_int _ _ _ _⟩|str i t=>exact⟨SeqAt.RcAt.int_str _ _ _ _,SeqAt.RcNeAt.int_str _ _ _ _⟩|tup ht _ _=>exact⟨SeqAt.RcAt.int_tuple _ _ ht c,SeqAt.RcNeAt.int_tuple _ _ ht c⟩|lst ht _ _=>exact⟨SeqAt.RcAt.int_list _ _ ht c,int_list _ _ ht c⟩
 |str i0 t0=>cases w with|non=>exact⟨SeqAt.RcAt.str_none _ _,SeqAt.RcNeAt.str_none _ _⟩|bl b=>exact⟨SeqAt.RcAt.str_bool _ _ _,SeqAt.RcNeAt.str_bool _ _ _⟩|int i t=>exact⟨SeqAt.RcAt.str_int _ _ _ _,SeqAt.RcNeAt.str_int _ _ _ _⟩|str i t=>exact⟨SeqAt.RcAt.str_str _ _ _ _,SeqAt.RcNeAt.str_str _ _ _ _⟩|tup ht _ _=>exact⟨SeqAt.RcAt.str_tuple _ _ ht c,SeqAt.RcNeAt.str_tuple _ _ ht c⟩|lst ht _ _=>exact⟨SeqAt.RcAt.str_list _ _ ht c,str_list _ _ ht c⟩
 |@tup a q xs ds ht u hr=>
   have z:ds.all (fC n)=true:=by simpa[bD,bz,bB,bH,bG,bI]using hd
   cases w with|non=>exact⟨SeqAt.RcAt.tuple_none ht c,SeqAt.RcNeAt.tuple_none ht c⟩|bl b=>exact⟨SeqAt.RcAt.tuple_bool _ ht c,SeqAt.RcNeAt.tuple_bool _ ht c⟩|int i t=>exact⟨SeqAt.RcAt.tuple_int _ _ ht c,SeqAt.RcNeAt.tuple_int _ _ ht c⟩|str i t=>exact⟨SeqAt.RcAt.tuple_str _ _ ht c,SeqAt.RcNeAt.tuple_str _ _ ht c⟩|lst h _ _=>exact⟨SeqAt.RcAt.tuple_list ht h c,SeqAt.RcNeAt.tuple_list ht h c⟩|@tup b ws ys es h f g=>
     have B:es.all (fC n)=true:=by simpa[bD,bz,bB,bH,bG,bI]using he
     have o:q.toArray.size=ds.length:=by rw[size_toArray,<-u.length,hr.length]
     have l2:ws.toArray.size=es.length:=by rw[size_toArray,<-f.length,g.length]
     have C:=SeqAt.RcAt.tuples (A:=A) (e:=λj=>fO (ds.getD j .non) (es.getD j .non)) ht h c λj k l=>r k l z B u f hr g;have E:=SeqAt.RcNeAt.tuples (A:=A) (e:=λj=>fO (ds.getD j .non) (es.getD j .non)) ht h c λj k l=>r k l z B u f hr g;rw[o,l2]at C E;have e0:fO (.tup ds) (.tup es)=((List.range (min ds.length es.length)).all (λj=>fO (ds.getD j .non) (es.getD j .non))&&ds.length==es.length):=by
      rw[pqt];by_cases p:ds.length=es.length;.rw[gh p,p];simp
      . rw[jq p];have:(ds.length==es.length)=false:=by simpa using p
        rw[this,Bool.and_false]
     rw[e0];exact⟨C,E⟩
 |@lst a q xs ds ht u hr=>
   have z:ds.all (fC n)=true:=by simpa[bD,bz,bB,bH,bG,bI]using hd
   cases w with|non=>exact⟨SeqAt.RcAt.list_none ht c,SeqAt.RcNeAt.list_none ht c⟩|bl b=>exact⟨SeqAt.RcAt.list_bool _ ht c,SeqAt.RcNeAt.list_bool _ ht c⟩|int i t=>exact⟨SeqAt.RcAt.list_int _ _ ht c,list_int _ _ ht c⟩|str i t=>exact⟨SeqAt.RcAt.list_str _ _ ht c,list_str _ _ ht c⟩|tup h _ _=>exact⟨SeqAt.RcAt.list_tuple ht h c,SeqAt.RcNeAt.list_tuple ht h c⟩|@lst b ws ys es h f g=>
     have B:es.all (fC n)=true:=by simpa[bD,bz,bB,bH,bG,bI]using he
     have o:q.toArray.size=ds.length:=by rw[size_toArray,<-u.length,hr.length]
     have l2:ws.toArray.size=es.length:=by rw[size_toArray,<-f.length,g.length]
     rw[pql];by_cases p:ds.length=es.length;.have C:=SeqAt.RcAt.lists (A:=A) (e:=λj=>fO (ds.getD j .non) (es.getD j .non)) ht h (by rw[o,l2,p]) c λj k l=>r k l z B u f hr g;have E:=SeqAt.RcNeAt.lists (A:=A) (e:=λj=>fO (ds.getD j .non) (es.getD j .non)) ht h (by rw[o,l2,p]) c λj k l=>r k l z B u f hr g;rw[o]at C E;rw[gh p];exact⟨C,E⟩
     .rw[jq p];exact⟨lists_lengths ht h (by rw[o,l2];simpa using p) c,SeqAt.RcNeAt.lists_lengths ht h (by rw[o,l2];simpa using p) c⟩
theorem o6(b:X.A.units+8<cLine):eU X (compareOp .Eq) (rD X.K (nT .eq)):=by rintro pins s σ H x y v u Q I c f⟨F,d,e,r,sm,g,h,he,k⟩;obtain⟨t,a,j⟩:=map_some (show(G4 d e).map _=some r from he);subst j;unfold G4 at a;obtain⟨hd,a⟩:=aV a;rw[and_eq_true]at hd;subst a;exact(Qn I sm (n:=7) b hd.1 hd.2 (my I sm hd.1 g c) (my I sm hd.2 h f)).1 _ _ _ _ ⟨.bl _,H,I,rfl,bW.cM sm (fP _) k⟩
theorem iJ(b:X.A.units+8<cLine):eU X (compareOp .NotEq) (rD X.K (nT .ne)):=by rintro pins s σ H x y v u Q I c f⟨F,d,e,r,sm,g,h,he,k⟩;obtain⟨t,a,j⟩:=map_some (show(Ec d e).map _=some r from he);subst j;unfold Ec at a;obtain⟨hd,a⟩:=aV a;rw[and_eq_true]at hd;subst a;exact(Qn I sm (n:=7) b hd.1 hd.2 (my I sm hd.1 g c) (my I sm hd.2 h f)).2 _ _ _ _ ⟨.bl _,H,I,rfl,bW.cM sm (fP _) k⟩
end
section
variable{Pg:Program}{w:World}{K:PySem.W.Frag}{mg:Str->Option Value}{base:Heap}
theorem VG{qual:Str}{st:Stmt}{f:Addr}{fd:FuncData}{N ps:List Str}{k n:Nat}{c:Call}{d:Fd}(B:jP K x qual st f fd)(S:aQ N ps (aC st))(h1:d.np=ps.length)(p:d.nn=N.length)(C:∀(cdv:Value)(A:Around)(outer:List Env)(s:Shared)(H:Hp)(E:XK),iK k (A.deeper (envOfC qual (aC st) s.heap.objs.size f cdv))->SB (yu Hh Pg w K mg base N qual (aC st) f cdv A outer s H E).Vu c n (fU st) d.body):lF Pg w K mg base Hh (k+1) f fd ps (Ig K ps.length (λargs=>enter c n d args)):=by
 refine B.ok S (λvs H Q E h=>h.1) λcdv A outer s H vs Q E hr h=>?_;obtain⟨t,F,args,r,l,g,e,q⟩:=h;refine⟨_,C cdv A outer s H E hr,?_⟩;replace e:enter c n d args=.ok r l:=e;unfold enter at e;split at e
 . rename_i hc;obtain⟨c1,c2⟩:=hc;have G:=g.more (n:=d.nn-d.np) (τ:=replicate (N.length-vs.length) none) (by simp[h1,p,t]);have o:args.length=d.np:=c1;have go:∀{fl:Fl}{a:List Sl},gY c n d.body (args++replicate (d.nn-d.np) .aL)=.ok fl a->(∀j b H',au K F (args++replicate (d.nn-d.np) .aL) (start N vs) H j a b H'->(match fl with|.next=>Q .non H'|.brk=>False|.cont=>False|.ret r=>∀v,cH K j a b H' (args++replicate (d.nn-d.np) .aL) (start N vs) H v r->Q v H'))->YZ K (gY c n d.body) {nx:=λ_ H'=>Q .non H',rt:=Q} (start N vs) H:=λ{fl a}z k=>⟨F,_,fl,a,G,z,λj b H' s=>by have:=k j b H' s;cases fl<;>exact this⟩;split at e;.rename_i a z;cases e;refine go z λj b H' s=>?_;obtain⟨u,y⟩:=au.less (m:=d.np) o.symm g (by simp[h1,p,t]) s;exact q .non j _ H' u (show Rep K j _ _ from Sw)
   .rename_i J a z;cases e;refine go z λj b H' s v I=>?_;obtain⟨u,y⟩:=au.less (m:=d.np) o.symm g (by simp[h1,p,t]) s;exact q v j _ H' u (y v r I)
   .split at e<;>cases e
 .cases e
structure bw(Pg:Program)(w:World)(K:PySem.W.Frag)(mg:Str->Option Value)(base:Heap)(k:Nat)(c:Call)(i:Nat)(x:Str)(np:Nat):Prop where ex:∃fa fd qs,lF Pg w K mg base Hh k fa fd qs (Ig K qs.length (c i))/\mg x=some (.ref fa)/\keepIn K (.ref fa)=true/\Binds K fd qs []/\qs.length=np
end
section
variable{X:Cx}{c:Call}{n k:Nat}{e a b:Expr}{es:List Expr}{p pa pb:P}{ps:List P}{pos:Pos}
theorem sv(i:Nat)(g:X.N[i]?=some x:=by rfl)(h:vC X.env.scope x:=by first|exact Or.inl rfl|exact Or.inr (Or.inl rfl)|exact Or.inr (Or.inr rfl))(hd:(x==("__debug__":Str))=false:=by rfl)(f:(x==("__classdict__":Str))=false:=by rfl):SX X c (.Name x pos) (.var i):=Q7 g h hd f
theorem fL{np:Nat}(C:bw X.prog X.w X.K X.mg X.base k c i x np)(hr:iK k X.A)(h:SG X c (e::es) ps)(j:Gl X x:=by rfl)(l:(e::es).length=np:=by rfl)(f:(x==("__debug__":Str))=false:=by rfl)(he:starEach (e::es) X.env=(false,eval e X.env)::starEach es X.env:=by rfl)(hpl:(backTo pos (starEach es X.env)).any (·.1)=false:=by rfl)(g:ps.length=(e::es).length:=by rfl):SX X c (.Call (.Name x p') (e::es) [] pos) (.call i ps):=by obtain⟨u,fd,y,h1,o,q,r,t⟩:=C.ex;exact JZ h1 hr j o q r h (l.trans t.symm) f he hpl g
noncomputable def M7(names outer:List (Str×NameKind))(N N':List Str)(n:Nat):Bool:=(names.all λy=>names.lookup y.1==some y.2)&&(names.all λy=>y.2!=.local||names.lookup y.1==some .local)&&(names.all λy=>y.2!=.free||outer.lookup y.1==some .cell||outer.lookup y.1==some .free)&&N'.length==N.length+n&&((N.zip N').all λp=>(p.1==p.2&&names.lookup p.2==some .free)||(names.lookup p.2!=some .local&&names.lookup p.2!=some .cell&&names.lookup p.2!=some .free))
theorem JB{scope:Scope}{N':List Str}(g:scope.kind=.function)(h:M7 scope.names X.env.scope.names X.N N' n=true):fG X scope N' n:=by
 unfold M7 at h;simp only[and_eq_true]at h;obtain⟨⟨⟨⟨h1,j⟩,l⟩,o⟩,q⟩:=h;refine⟨g,λy f=>eq_of_beq (all_eq_true.mp h1 y f),λy f e=>?_,λy f e=>?_,by simpa using o,q⟩;.have:=all_eq_true.mp j y f;rw[e]at this;simpa using this
 . have:=all_eq_true.mp l y f;rw[e]at this;simp only[or_eq_true]at this;rcases this with(z|z)|z;.cases z
   .exact .inl (eq_of_beq z)
   .exact .inr (eq_of_beq z)
theorem aX(h:iK k A):A.units+8<cLine:=by have:=h.un;omega
end
end HH
end
section
namespace L2
open PySem PySem.Spec PyProof.Rows
end L2
namespace HH
open PySem L2 PySem.Spec PyProof.Rows
structure cL(K:PySem.W.Frag)(x:Str)(st:Stmt):Prop where ex:∃f fd,PySem.W.nsIn K mainGlobals x=some (some (.ref f))/\jP K x x st f fd
section
variable{Pg:Program}{w:World}{K:PySem.W.Frag}{mg:Str->Option Value}{base h:Heap}
theorem PJ{x:Str}{st:Stmt}{f:Addr}{oc:Value}{g i:Option Addr}{b:Array (Option Value)}{kV e j cdv ct:Value}(a:PySem.W.nsIn K mainGlobals x=some (some (.ref f)))(l:K.lookup f=some ⟨oc,g,.func (PySem.W.fnOf x x (iI st) (fU st) (aC st) .none kV e j i cdv ct),b⟩)(c:PySem.W.codeIn K cdv x=true)(k:keepIn K (.ref f)=true):cL K x st:=⟨_,_,a,O4 l c k⟩
theorem cZ{Γ:Tab}{wl i np:Nat}{x:Str}{st:Stmt}{ps:List Str}(X:K.In h)(G:h.Ns mainGlobals mg)(D:cL K x st)(j:ps.length=np)(k:∀(kV g l:Value)(m:Option Addr)(cdv ct:Value)(c:List Value),c.length=ps.length->bindArgs (PySem.W.fnOf x x (iI st) (fU st) (aC st) .none kV g l m cdv ct) ⟨c,[]⟩=pure (ps.zip c)):bw Pg w K mg base 0 (run Γ wl 0) i x np:=by obtain⟨f,fd,a,F⟩:=D.ex;exact⟨f,fd,ps,⟨λvs H Q E s=>s.1,λA outer s H args c vs Q E hr e b v sp=>by obtain⟨_,F,as,r,n,_,z,_⟩:=sp;cases z⟩,mg_of X G a,F.kp,F.binds k,j⟩
theorem dg{Γ:Tab}{wl n i np:Nat}{x:Str}{st:Stmt}{ps:List Str}{d:Fd}(X:K.In h)(G:h.Ns mainGlobals mg)(D:cL K x st)(j:ps.length=np)(b:Γ i=some d)(k:∀(kV c l:Value)(m:Option Addr)(cdv ct:Value)(g:List Value),g.length=ps.length->bindArgs (PySem.W.fnOf x x (iI st) (fU st) (aC st) .none kV c l m cdv ct) ⟨g,[]⟩=pure (ps.zip g))(ok:∀f fd,jP K x x st f fd->lF Pg w K mg base Hh (n+1) f fd ps (Ig K np (λargs=>enter (run Γ wl n) wl d args))):bw Pg w K mg base (n+1) (run Γ wl (n+1)) i x np:=by
 obtain⟨f,fd,a,F⟩:=D.ex;refine⟨f,fd,ps,?_,mg_of X G a,F.kp,F.binds k,j⟩;have e:run Γ wl (n+1) i=λargs=>enter (run Γ wl n) wl d args:=by funext args;show(match Γ i with|some d=>enter (run Γ wl n) wl d args|none=>.stuck)=_;rw[b]
 rw[e,j];exact ok f fd F
theorem rE{F:Hp}:∀ns:List Int,aB K F (ns.map V.int) (ns.map D.int)|[]=>.nil|n::ns=>.cons (bT n) (rE ns)
theorem Bd{H:Hp}{a:Addr}{ns:List Int}{g:List Sl->Res R}{as:List Sl}(l:eG K H a (ns.map V.int))(hr:g [.val false (.lst (ns.map D.int))]=.ok (.val (.bl true)) as):Ig K 1 g [.ref a] H (λv _=>v=.bl true) λ_ _ _=>False:=by
 refine⟨rfl,H,_,_,as,⟨.refl _,rfl,λi b d e=>?_,λi s ds e k=>?_,λi j c h=>?_⟩,hr,λv m n H' s f=>?_⟩;.match i,e with|0,e=>cases e;refine⟨.ref a,rfl,?_⟩;rw[Rep];exact⟨a,_,rfl,l,rE ns⟩|i+1,e=>simp at e
 .match i,e with|0,e=>cases e;cases k|i+1,e=>simp at e
 .obtain⟨⟨s,ds,e,k⟩,_⟩:=h;match i,e with|0,e=>cases e;cases k|i+1,e=>simp at e
 .have f:Rep K m v (.bl true):=f;rw[Rep]at f;exact f
end
end HH
end
section
namespace HH
open PySem
variable{n:Nat}{c:Call}{ρ:List Sl}{is:List Nat}
def Res.sat{b:Type}(Q:b->List Sl->Prop)(x:Res b):Prop:=match x with|.ok a ρ=>Q a ρ|.exc _ _=>False|.stuck=>False
section
variable{α β:Type}{Q Q':α->List Sl->Prop}
@[simp]theorem O1{a:α}{ρ:List Sl}:(Res.ok a ρ).sat Q=Q a ρ:=rfl
@[simp]theorem Y5{k:Nat}{ρ:List Sl}:(Res.exc k ρ:Res α).sat Q=False:=rfl
@[simp]theorem Ul:(Res.stuck:Res α).sat Q=False:=rfl
theorem cj{x:Res β}{f:β->List Sl->Res α}:(x.bind f).sat Q=x.sat λa ρ=>(f a ρ).sat Q:=by cases x<;>rfl
@[simp]theorem Zg{p:Prop}[Decidable p]{x y:Res α}:(if p then x else y).sat Q=((p->x.sat Q)/\(¬ p->y.sat Q)):=by by_cases h:p<;>simp[h]
@[simp]theorem Ik{a:α}{ρ:List Sl}:(lift (some a) ρ).sat Q=Q a ρ:=rfl
@[simp]theorem Io{ρ:List Sl}:(lift (none:Option α) ρ).sat Q=False:=rfl
@[simp]theorem Jp{p:Prop}[Decidable p]{a:α}{ρ:List Sl}:(lift (if p then some a else none) ρ).sat Q=(p/\Q a ρ):=by by_cases h:p<;>simp[h]
theorem Res.sat.imp{x:Res α}(h:x.sat Q)(k:∀a ρ,Q a ρ->Q' a ρ):x.sat Q':=by cases x with|ok a ρ=>exact k a ρ h|exc _ _=>exact h|stuck=>exact h
theorem sat_iff{x:Res α}:x.sat Q↔∃a ρ,x=.ok a ρ/\Q a ρ:=by cases x with|ok a ρ=>exact⟨λh=>⟨a,ρ,rfl,h⟩,λ⟨_,_,e,h⟩=>by cases e;exact h⟩|exc _ _=>exact⟨λh=>h.elim,λ⟨_,_,e,_⟩=>by cases e⟩|stuck=>exact⟨λh=>h.elim,λ⟨_,_,e,_⟩=>by cases e⟩
end
noncomputable def fr:Sl->Bool|.aL=>true|.val b _=>!b|.own b _=>!b|.lent _=>false|.gF _=>false|.cY _=>false|.hold _=>false|.pot _ _ _ _=>false
@[simp]theorem abn:fr .aL=true:=rfl
@[simp]theorem abQ{b:Bool}{d:D}:fr (.val b d)=!b:=rfl
@[simp]theorem acQ{b:Bool}{d:List D}:fr (.own b d)=!b:=rfl
@[simp]theorem Z7{d:List D}:fr (.lent d)=false:=rfl
theorem Qf(ρ:List Sl)(i:Nat)(s:Sl):put ρ i s=match ρ[i]?with|some t=>if fr t=true then some (ρ.set i s)else none|none=>none:=by unfold put;cases h:ρ[i]?with|none=>rfl|some t=>cases t with|aL=>rfl|val b d=>cases b<;>rfl|own b d=>cases b<;>rfl|lent d=>rfl|gF m=>rfl|cY m=>rfl|hold m=>rfl|pot _ _ _ _=>rfl
theorem Er{Γ:Tab}{w i:Nat}{d:Fd}{args:List Sl}(h:Γ i=some d):run Γ w (n+1) i args=enter (run Γ w n) w d args:=by rw[run,h]
noncomputable def fin(np:Nat):Fl->List Sl->Option (R×List Sl)|.next,ρ=>some (.val .non,ρ.take np)|.ret r,ρ=>some (r,ρ.take np)|_,_=>none
def eQ(np:Nat)(Q:R->List Sl->Prop)(fl:Fl)(ρ:List Sl):Prop:=match fl with|.next=>Q (.val .non) (ρ.take np)|.ret r=>Q r (ρ.take np)|_=>False
def sQ(c:Call)(n:Nat)(r:List S)(Q:Fl->List Sl->Prop)(fl:Fl)(ρ:List Sl):Prop:=match fl with|.next=>(gY c n r ρ).sat Q|fl=>Q fl ρ
def fQ(J:List Sl->Prop)(Q:Fl->List Sl->Prop)(fl:Fl)(ρ:List Sl):Prop:=match fl with|.next=>J ρ|.cont=>J ρ|.brk=>Q .next ρ|.ret v=>Q (.ret v) ρ
section
variable{np:Nat}{Q:R->List Sl->Prop}{ρ:List Sl}{v:R}{c:Call}{n:Nat}{r:List S}{Q':Fl->List Sl->Prop}{J:List Sl->Prop}
@[simp]theorem Zc:eQ np Q .next ρ=Q (.val .non) (ρ.take np):=rfl
@[simp]theorem aaU:eQ np Q (.ret v) ρ=Q v (ρ.take np):=rfl
@[simp]theorem aaW:eQ np Q .brk ρ=False:=rfl
@[simp]theorem Zd:eQ np Q .cont ρ=False:=rfl
@[simp]theorem Zi:sQ c n r Q' .next ρ=(gY c n r ρ).sat Q':=rfl
@[simp]theorem abk:sQ c n r Q' (.ret v) ρ=Q' (.ret v) ρ:=rfl
@[simp]theorem abg:sQ c n r Q' .brk ρ=Q' .brk ρ:=rfl
@[simp]theorem Zr:sQ c n r Q' .cont ρ=Q' .cont ρ:=rfl
@[simp]theorem aah:fQ J Q' .next ρ=J ρ:=rfl
@[simp]theorem Zq:fQ J Q' .cont ρ=J ρ:=rfl
@[simp]theorem acO:fQ J Q' .brk ρ=Q' .next ρ:=rfl
@[simp]theorem acR:fQ J Q' (.ret v) ρ=Q' (.ret v) ρ:=rfl
end
theorem Cp{d:Fd}{args:List Sl}{Q:R->List Sl->Prop}(a:args.length=d.np)(hd:d.np<=d.nn)(h:(gY c n d.body (args++replicate (d.nn-d.np) .aL)).sat (eQ d.np Q)):(enter c n d args).sat Q:=by unfold enter;rw[if_pos ⟨a,hd⟩];revert h;cases gY c n d.body (args++replicate (d.nn-d.np) .aL)with|stuck=>exact λh=>False.elim h|exc _ _=>exact λh=>False.elim h|ok fl ρ=>cases fl<;>first|exact id|exact λh=>False.elim h
theorem bh{Γ:Tab}{w i:Nat}{d:Fd}{args:List Sl}{Q:R->List Sl->Prop}(a:Γ i=some d)(b:args.length=d.np)(hd:d.np<=d.nn)(h:(gY (run Γ w n) w d.body (args++replicate (d.nn-d.np) .aL)).sat (eQ d.np Q)):(run Γ w (n+1) i args).sat Q:=by rw[Er a];exact Cp b hd h
theorem aj{s:S}{r:List S}{Q:Fl->List Sl->Prop}(h:(ex c n s ρ).sat (sQ c n r Q)):(gY c n (s::r) ρ).sat Q:=by rw[NT,cj];refine h.imp λfl a q=>?_;cases fl<;>exact q
theorem Cv{s:S}{r:List S}{Q:Fl->List Sl->Prop}(h:(ex c n s ρ).sat (sQ c n r Q)):sQ c n (s::r) Q .next ρ:=aj h
@[simp]theorem Z4{c:Call}{n:Nat}{ρ:List Sl}{Q:Fl->List Sl->Prop}:(gY c n [] ρ).sat Q=Q .next ρ:=by rw[xs0];rfl
theorem fV{s:S}{r:List S}{Q:Fl->List Sl->Prop}(M:List Sl->Prop)(h:(ex c n s ρ).sat λfl a=>fl=.next/\M a)(k:∀a,M a->(gY c n r a).sat Q):(gY c n (s::r) ρ).sat Q:=aj (h.imp λfl a⟨e,q⟩=>by subst e;exact k a q)
theorem bK{is:List Nat}{one:Bool}{body:List Sl->Res Fl}(J:List D->List Sl->Prop){Q:Fl->List Sl->Prop}(b:∀d r ρ,J (d::r) ρ->∃a,cA ρ is one d=some a/\(body a).sat (fQ (J r) Q))(f:∀ρ,J [] ρ->Q .next ρ):∀{ds:List D}{ρ:List Sl},J ds ρ->(iT is one body ds ρ).sat Q|[],ρ,j=>f ρ j|d::r,ρ,j=>by obtain⟨a,e,h⟩:=b d r ρ j;rw[xU,e];show((body a).bind _).sat Q;rw[cj];refine h.imp λfl g q=>?_;cases fl with|next=>exact bK J b f q|cont=>exact bK J b f q|brk=>exact q|ret v=>exact q
theorem jD{is:List Nat}{one:Bool}{a:List Sl->Res Bool}{p:Ev}(J:List Sl->Prop)(g:D->Option D){Q:List D->List Sl->Prop}:∀{ds f:List D}{ρ:List Sl},J ρ->(∀ d,d ∈ ds->∀ ρ,J ρ->∃ i,cA ρ is one d=some i/\(a i).sat λb l=>if b=true then(p l).sat λr s=>g d=some r.d/\J s else g d=none/\J l)->(∀ ρ,J ρ->Q (f++ds.filterMap g) ρ)->(turns is one a p ds f ρ).sat Q|[],f,ρ,j,h,k=>by rw[Ga];simpa using k ρ j|d::r,f,ρ,j,h,k=>by obtain⟨i,e,h1⟩:=h d (by simp) ρ j;rw[G3,e];show((a i).bind _).sat Q;rw[cj];refine h1.imp λb l q=>?_;cases b with|true=>rw[if_pos rfl]at q;rw[if_pos rfl,cj];refine q.imp λx s⟨u,j3⟩=>?_;refine jD J g j3 (λd' m=>h d' (by simp[m])) λo t=>?_;have:=k o t;rw[filterMap_cons,u]at this;rw[append_assoc];exact this|false=>rw[if_neg (by simp)]at q;rw[if_neg (by simp)];refine jD J g q.2 (λd' m=>h d' (by simp[m])) λo t=>?_;have:=k o t;rw[filterMap_cons,q.1]at this;exact this
theorem yt{one:Bool}{b:Ev}(J:List Sl->Prop)(g:D->D){Q:List D->List Sl->Prop}{ds:List D}(j:J ρ)(h:∀d,d∈ds->∀ρ,J ρ->∃a,cA ρ is one d=some a/\(b a).sat λr f=>g d=r.d/\J f)(k:∀ρ,J ρ->Q (ds.map g) ρ):(turns is one (tH c none) b ds [] ρ).sat Q:=jD J (λd=>some (g d)) j (λd hd ρ j=>by obtain⟨a,e,h1⟩:=h d hd ρ j;refine⟨a,e,?_⟩;rw[tH,O1,if_pos rfl];exact h1.imp λr f q=>⟨by rw[q.1],q.2⟩) λρ j=>by simpa using k ρ j
section
variable{ρ l:List Sl}{a:Sl}{i j:Int}{k m:Nat}{b b':Bool}{s:Str}{d:D}{ds es:List D}{e f:Ev}{x:Option Sl}{c:Call}
@[simp]theorem Qk:cz .int .non=false:=rfl
@[simp]theorem Tz:cz .int (.bl b)=true:=rfl
@[simp]theorem QQ:cz .int (.int i)=true:=rfl
@[simp]theorem Rv:cz .int (.str s)=false:=rfl
@[simp]theorem Ov:cz .int (.tup ds)=false:=rfl
@[simp]theorem QL:cz .int (.lst ds)=false:=rfl
@[simp]theorem NP:cz .bool .non=false:=rfl
@[simp]theorem Pk:cz .bool (.bl b)=true:=rfl
@[simp]theorem M4:cz .bool (.int i)=false:=rfl
@[simp]theorem MT:cz .bool (.str s)=false:=rfl
@[simp]theorem M5:cz .bool (.tup ds)=false:=rfl
@[simp]theorem Mr:cz .bool (.lst ds)=false:=rfl
@[simp]theorem Oz:cz .str .non=false:=rfl
@[simp]theorem Uv:cz .str (.bl b)=false:=rfl
@[simp]theorem Qe:cz .str (.int i)=false:=rfl
@[simp]theorem QD:cz .str (.str s)=true:=rfl
@[simp]theorem Sq:cz .str (.tup ds)=false:=rfl
@[simp]theorem OD:cz .str (.lst ds)=false:=rfl
@[simp]theorem Li:cz .tuple .non=false:=rfl
@[simp]theorem Nx:cz .tuple (.bl b)=false:=rfl
@[simp]theorem Jb:cz .tuple (.int i)=false:=rfl
@[simp]theorem Iu:cz .tuple (.str s)=false:=rfl
@[simp]theorem Jz:cz .tuple (.tup ds)=true:=rfl
@[simp]theorem Ly:cz .tuple (.lst ds)=false:=rfl
@[simp]theorem Mv:cz .list .non=false:=rfl
@[simp]theorem QC:cz .list (.bl b)=false:=rfl
@[simp]theorem Nh:cz .list (.int i)=false:=rfl
@[simp]theorem Ng:cz .list (.str s)=false:=rfl
@[simp]theorem Nr:cz .list (.tup ds)=false:=rfl
@[simp]theorem Nu:cz .list (.lst ds)=true:=rfl
@[simp]theorem Nm:cz .none .non=true:=rfl
@[simp]theorem Qo:cz .none (.bl b)=false:=rfl
@[simp]theorem Ms:cz .none (.int i)=false:=rfl
@[simp]theorem MP:cz .none (.str s)=false:=rfl
@[simp]theorem M3:cz .none (.tup ds)=false:=rfl
@[simp]theorem Nz:cz .none (.lst ds)=false:=rfl
@[simp]theorem TX:jg .non=true:=rfl
@[simp]theorem Wr:jg (.bl b)=false:=rfl
@[simp]theorem Th:jg (.int i)=false:=rfl
@[simp]theorem Tg:jg (.str s)=false:=rfl
@[simp]theorem Ti:jg (.tup ds)=false:=rfl
@[simp]theorem Ua:jg (.lst ds)=false:=rfl
@[simp]theorem Vm:flat .non=true:=rfl
@[simp]theorem Z2:flat (.bl b)=true:=rfl
@[simp]theorem DN:flat (.int i)=true:=rfl
@[simp]theorem Xx:flat (.str s)=true:=rfl
@[simp]theorem WM:flat (.tup ds)=false:=rfl
@[simp]theorem XX:flat (.lst ds)=false:=rfl
@[simp]theorem aco:(R.val d).d=d:=rfl
@[simp]theorem ab6:(R.own ds).d=.lst ds:=rfl
@[simp]theorem Wf:xM (.val d)=.val false d:=rfl
@[simp]theorem Vj:xM (.own ds)=.own false ds:=rfl
@[simp]theorem T7:rT (.val d)=.dat d:=rfl
@[simp]theorem T4:rT (.own ds)=.tmp ds:=rfl
@[simp]theorem Zo:gU (.int i)=some i:=rfl
@[simp]theorem abp:xT (.bl b)=some b:=rfl
@[simp]theorem Cd:items (.lst ds)=some ds:=rfl
@[simp]theorem Tw:items (.tup ds)=some ds:=rfl
@[simp]theorem QB:Rj (.tup ds)=some ds:=rfl
@[simp]theorem Ss:xu (.lst ds)=some ds:=rfl
@[simp]theorem YQ:qL .add=oR:=rfl
@[simp]theorem ZS:qL .sub=vg:=rfl
@[simp]theorem aal:qL .mul=pB:=rfl
@[simp]theorem Vs:qL .fdiv=qt:=rfl
@[simp]theorem ZP:qL .mod=vz:=rfl
@[simp]theorem ZM:qL .pow=wC:=rfl
@[simp]theorem TY:oR (.int i) (.int j)=some (.val (.int (i+j))):=rfl
@[simp]theorem Ud:oR (.lst ds) (.lst es)=if ds.length+es.length<=lim then some (.own (ds++es))else none:=rfl
@[simp]theorem UW:oR (.tup ds) (.tup es)=if ds.length+es.length<=lim then some (.val (.tup (ds++es)))else none:=rfl
@[simp]theorem Tu:vg (.int i) (.int j)=some (.val (.int (i-j))):=rfl
@[simp]theorem U4:pB (.int i) (.int j)=if((-18446744073709551616<i/\i<18446744073709551616)\/(-18446744073709551616<j/\j<18446744073709551616))then some (.val (.int (i*j)))else none:=rfl
@[simp]theorem Qv:qt (.int i) (.int j)=if 0<j/\j<1606938044258990275541962092341162602522202993782792835301376 then some (.val (.int (i/j)))else none:=rfl
@[simp]theorem Tr:vz (.int i) (.int j)=if 0<j then some (.val (.int (i%j)))else none:=rfl
@[simp]theorem Tv:wC (.int i) (.int j)=if 0<=j/\j<=1000/\i.natAbs<18446744073709551616 then some (.val (.int (i^j.toNat)))else none:=rfl
@[simp]theorem Zk:xF (.lst ds) (.int i)=(at' ds i).map .val:=rfl
@[simp]theorem Za:xF (.tup ds) (.int i)=(at' ds i).map .val:=rfl
@[simp]theorem Vg:GK (.int i)=some (.val (.int (-i))):=rfl
@[simp]theorem T5:cm .eq (.int i) (.int j)=some (i==j):=rfl
@[simp]theorem Us:cm .ne (.int i) (.int j)=some (!(i==j)):=rfl
@[simp]theorem W3:cm .eq (.bl b) (.bl b')=some (b==b'):=rfl
@[simp]theorem V5:cm .ne (.bl b) (.bl b')=some (!(b==b')):=rfl
@[simp]theorem TJ:cm .lt (.int i) (.int j)=some (decide (i<j)):=rfl
@[simp]theorem Ug:cm .le (.int i) (.int j)=some (decide (i<=j)):=rfl
@[simp]theorem Uc:cm .gt (.int i) (.int j)=some (decide (j<i)):=rfl
@[simp]theorem T3:cm .ge (.int i) (.int j)=some (decide (j<=i)):=rfl
@[simp]theorem acC:cm .isN d .non=some (jg d):=rfl
@[simp]theorem aan:cm .Ml d .non=some (!jg d):=rfl
@[simp]theorem M6:blt .len [.lst ds]=some (.val (.int ds.length)):=rfl
@[simp]theorem Np:blt .len [.tup ds]=some (.val (.int ds.length)):=rfl
@[simp]theorem KQ:blt .list [.lst ds]=some (.own ds):=rfl
@[simp]theorem Jr:blt .list [.tup ds]=some (.own ds):=rfl
@[simp]theorem Ii:blt .tuple [.lst ds]=some (.val (.tup ds)):=rfl
@[simp]theorem Ij:blt .tuple [.tup ds]=some (.val (.tup ds)):=rfl
@[simp]theorem XC:blt .min2 [.int i,.int j]=some (.val (.int (if j<i then j else i))):=rfl
@[simp]theorem WK:blt .max2 [.int i,.int j]=some (.val (.int (if i<j then j else i))):=rfl
@[simp]theorem ZC:blt .all [.lst ds]=(ds.mapM xT).map λbs=>.val (.bl (bs.all id)):=rfl
@[simp]theorem Ue:isVar (.var k)=some k:=rfl
@[simp]theorem ZV:pk (a::l) k=match(a::l)[k]?with|some (.val _ d)=>some d|some (.own _ ds)=>some (.lst ds)|some (.lent ds)=>some (.lst ds)|_=>none:=rfl
@[simp]theorem WT:O7 (a::l) k=match(a::l)[k]?with|some (.pot _ _ _ _)=>some .non|_=>pk (a::l) k:=rfl
@[simp]theorem WX:CN (a::l) k=match pk (a::l) k with|some (.lst ds)=>some ds|_=>none:=rfl
@[simp]theorem WW:cG (some k) e ρ=lift (pk ρ k) ρ:=rfl
@[simp]theorem XJ:cG none e ρ=(e ρ).bind λr ρ=>.ok r.d ρ:=rfl
@[simp]theorem Uq{y:Option Nat}:iC (some k) e y f ρ=(lift (pk ρ k) ρ).bind λ_ ρ=>(cG y f ρ).bind λy ρ=>(lift (pk ρ k) ρ).bind λx ρ=>.ok (x,y) ρ:=rfl
@[simp]theorem Td{y:Option Nat}:iC none e y f ρ=(cG none e ρ).bind λx ρ=>(cG y f ρ).bind λy ρ=>.ok (x,y) ρ:=rfl
@[simp]theorem U3{es:List D}:dD (.own b ds) (some (.own b' es))=.own b es:=rfl
@[simp]theorem Te:dD (.own b ds) (some (.val b' d))=.val b d:=rfl
@[simp]theorem Tq{b b':Bool}{ns ns':List Int}{m k g k':Int}:dD (.pot b ns m k) (some (.pot b' ns' g k'))=.pot b ns' g k':=rfl
@[simp]theorem Dm:dD a none=a:=by cases a<;>rfl
@[simp]theorem Bg:dD (.val b d) x=.val b d:=by cases x<;>rfl
@[simp]theorem Uj:dD .aL x=.aL:=by cases x<;>rfl
@[simp]theorem xW:dD (.lent ds) x=.lent ds:=by cases x<;>rfl
@[simp]theorem Vf:cA ρ [k] true d=put ρ k (.val false d):=rfl
@[simp]theorem Tj{is:List Nat}:cA ρ is false (.tup ds)=putAll ρ is ds:=by cases is<;>rfl
@[simp]theorem R4:srcOf none e ρ=(e ρ).bind λr ρ=>lift (items r.d) ρ:=rfl
@[simp]theorem RQ:srcOf (some k) e (a::l)=match(a::l)[k]?with|some (.val _ d)=>lift (items d) (a::l)|some (.own _ ds)=>.ok ds ((a::l).set k (.lent ds))|some (.lent ds)=>.ok ds (a::l)|_=>.stuck:=rfl
@[simp]theorem NQ{g:List Sl}:aZ g none ρ=ρ:=rfl
@[simp]theorem Nq:aZ (a::l) (some k) ρ=match(a::l)[k]?with|some (.own b ds)=>ρ.set k (.own b ds)|_=>ρ:=rfl
@[simp]theorem Vl{s:Sl}:put (a::l) k s=match(a::l)[k]?with|some t=>if fr t=true then some ((a::l).set k s)else none|none=>none:=Qf ..
@[simp]theorem Ry:putAll ρ [] []=some ρ:=rfl
@[simp]theorem Ny{is:List Nat}:putAll ρ (k::is) (d::ds)=(put ρ k (.val false d)).bind λρ=>putAll ρ is ds:=rfl
end
@[simp]theorem at_0{a:Type}{b:a}{l:List a}:at' (b::l) 0=some b:=by unfold at' gK;rw[if_pos (by decide),if_pos (by simp only[length_cons];omega)];rfl
@[simp]theorem at_1{a:Type}{e b:a}{l:List a}:at' (e::b::l) 1=some b:=by unfold at' gK;rw[if_pos (by decide),if_pos (by simp only[length_cons];omega)];rfl
@[simp]theorem at_2{a:Type}{e f b:a}{l:List a}:at' (e::f::b::l) 2=some b:=by unfold at' gK;rw[if_pos (by decide),if_pos (by simp only[length_cons];omega)];rfl
@[simp]theorem at_3{a:Type}{e f g b:a}{l:List a}:at' (e::f::g::b::l) 3=some b:=by unfold at' gK;rw[if_pos (by decide),if_pos (by simp only[length_cons];omega)];rfl
@[simp]theorem at_4{a:Type}{e f g h b:a}{l:List a}:at' (e::f::g::h::b::l) 4=some b:=by unfold at' gK;rw[if_pos (by decide),if_pos (by simp only[length_cons];omega)];rfl
@[simp]theorem at_5{a:Type}{e f g h i b:a}{l:List a}:at' (e::f::g::h::i::b::l) 5=some b:=by unfold at' gK;rw[if_pos (by decide),if_pos (by simp only[length_cons];omega)];rfl
@[simp]theorem at_6{a:Type}{e f g h i j b:a}{l:List a}:at' (e::f::g::h::i::j::b::l) 6=some b:=by unfold at' gK;rw[if_pos (by decide),if_pos (by simp only[length_cons];omega)];rfl
@[simp]theorem at_7{a:Type}{e f g h i j k b:a}{l:List a}:at' (e::f::g::h::i::j::k::b::l) 7=some b:=by unfold at' gK;rw[if_pos (by decide),if_pos (by simp only[length_cons];omega)];rfl
theorem G7{a:Type}{l:List a}{i:Int}(h:0<=i)(h':i<l.length):at' l i=l[i.toNat]?:=by unfold at' gK;rw[if_pos h,if_pos h'];rfl
theorem Gr{a:Type}{l:List a}{k:Nat}(h':k<l.length):at' l (k:Int)=l[k]?:=by rw[G7 (by omega) (by omega)];simp
@[simp]theorem Ux{d:D}:isVar (.con d)=none:=rfl
@[simp]theorem Uo{o:Op}{p q:P}:isVar (.bin o p q)=none:=rfl
@[simp]theorem Ub{p:P}:isVar (.neg p)=none:=rfl
@[simp]theorem Uu{p:P}:isVar (.not p)=none:=rfl
@[simp]theorem Up{p q:P}:isVar (.and p q)=none:=rfl
@[simp]theorem Ws{p q:P}:isVar (.or p q)=none:=rfl
@[simp]theorem UL{o:Cm}{p q:P}:isVar (.cmp o p q)=none:=rfl
@[simp]theorem Mz{o a:Cm}{p q r:P}:isVar (.chain o a p q r)=none:=rfl
@[simp]theorem Tt{p q r:P}:isVar (.N8 p q r)=none:=rfl
@[simp]theorem Ut{as:List P}:isVar (.tup as)=none:=rfl
@[simp]theorem Uy{as:List P}:isVar (.lst as)=none:=rfl
@[simp]theorem Tc{p q:P}:isVar (.idx p q)=none:=rfl
@[simp]theorem Ni{p q r:P}:isVar (.slice p q r)=none:=rfl
@[simp]theorem QM{f:Nat}{as:List P}:isVar (.call f as)=none:=rfl
@[simp]theorem T6{b:YS}{as:List P}:isVar (.blt b as)=none:=rfl
@[simp]theorem Qx{a:List Ty}{p:P}:isVar (.inst a p)=none:=rfl
@[simp]theorem Q8{p e:P}{n:Nat}{is:List Nat}{one:Bool}{t:Option P}:isVar (.comp p n is one t e)=none:=rfl
@[simp]theorem TV{p q:P}:isVar (.wW p q)=none:=rfl
@[simp]theorem UG{p q:P}:isVar (.zip p q)=none:=rfl
noncomputable def oF(c:Call)(is:List Nat)(one:Bool)(a:Option P)(b:P)(ds:List D)(ρ:List Sl):Res (List D):=turns is one (tH c a) (ev c b) ds [] ρ
@[simp]theorem aar{c:Call}{src f:P}{n:Nat}{is:List Nat}{one:Bool}{b:Option P}{ρ:List Sl}:ev c (.comp src n is one b f) ρ=(srcOf (isVar src) (ev c src) ρ).bind λds a=>if ds.length<=lim then(oF c is one b f ds (a++replicate n .aL)).bind λxs e=>.ok (.own xs) (aZ ρ (isVar src) (e.take a.length))else .stuck:=(rfl)
noncomputable def Fo(c:Call)(n:Nat)(t:P)(body:List S)(k:Nat)(ρ:List Sl):Res Fl:=oO (iB (ev c t)) (gY c n body) k ρ
@[simp]theorem acH{c:Call}{n:Nat}{t:P}{body:List S}{ρ:List Sl}:ex c n (.whl t body) ρ=Fo c n t body n ρ:=(rfl)
theorem uc{b e h:Type}{x:Res e}{f:e->List Sl->Res b}{g:b->List Sl->Res h}:(x.bind f).bind g=x.bind λa ρ=>(f a ρ).bind g:=by cases x<;>rfl
@[simp]theorem abI{Γ:Tab}{w n i:Nat}{args:List Sl}{b:Type}{f:R->List Sl->Res b}{Q:b->List Sl->Prop}:((run Γ w n i args).bind f).sat Q=(run Γ w n i args).sat λa ρ=>(f a ρ).sat Q:=cj
@[simp]theorem abD{Γ:Tab}{w n i:Nat}{args:List Sl}{b e:Type}{f:R->List Sl->Res b}{g:b->List Sl->Res e}:((run Γ w n i args).bind f).bind g=(run Γ w n i args).bind λa ρ=>(f a ρ).bind g:=uc
@[simp]theorem Y8{c:Call}{is:List Nat}{one:Bool}{b:Option P}{e:P}{ds:List D}{ρ:List Sl}{g:Type}{f:List D->List Sl->Res g}{Q:g->List Sl->Prop}:((oF c is one b e ds ρ).bind f).sat Q=(oF c is one b e ds ρ).sat λa ρ=>(f a ρ).sat Q:=cj
@[simp]theorem Zh{c:Call}{is:List Nat}{one:Bool}{b:Option P}{e:P}{ds:List D}{ρ:List Sl}{h i:Type}{f:List D->List Sl->Res h}{g:h->List Sl->Res i}:((oF c is one b e ds ρ).bind f).bind g=(oF c is one b e ds ρ).bind λa ρ=>(f a ρ).bind g:=uc
@[simp]theorem acs{is:List Nat}{one:Bool}{b:List Sl->Res Fl}{ds:List D}{ρ:List Sl}{e:Type}{f:Fl->List Sl->Res e}{Q:e->List Sl->Prop}:((iT is one b ds ρ).bind f).sat Q=(iT is one b ds ρ).sat λa ρ=>(f a ρ).sat Q:=cj
@[simp]theorem YX{b e:Type}{p:Prop}[Decidable p]{a:e}{ρ:List Sl}{f:e->List Sl->Res b}{Q:b->List Sl->Prop}:((lift (if p then some a else none) ρ).bind f).sat Q=(p/\(f a ρ).sat Q):=by by_cases h:p<;>simp[h,lift,Res.bind]
@[simp]theorem aae{b e h:Type}{p:Prop}[Decidable p]{a:e}{ρ:List Sl}{f:e->List Sl->Res b}{g:b->List Sl->Res h}:((lift (if p then some a else none) ρ).bind f).bind g=(lift (if p then some a else none) ρ).bind λa ρ=>(f a ρ).bind g:=uc
@[simp]theorem bb_ite{b a:Type}{p:Prop}[Decidable p]{x y:Res a}{f:a->List Sl->Res b}:(if p then x else y).bind f=if p then x.bind f else y.bind f:=by by_cases h:p<;>simp[h]
@[simp]theorem abH{c:Call}{n k:Nat}{t:P}{b:List S}{ρ:List Sl}{e:Type}{f:Fl->List Sl->Res e}{Q:e->List Sl->Prop}:((Fo c n t b k ρ).bind f).sat Q=(Fo c n t b k ρ).sat λa ρ=>(f a ρ).sat Q:=cj
@[simp]theorem aaY{b e:Type}{a:b}{ρ:List Sl}{f:b->List Sl->Res e}:(Res.ok a ρ).bind f=f a ρ:=rfl
@[simp]theorem Ui{a b:Type}{f:a->List Sl->Res b}:(Res.stuck:Res a).bind f=.stuck:=rfl
@[simp]theorem Yb{b:Type}{a:b}{ρ:List Sl}:lift (some a) ρ=.ok a ρ:=rfl
@[simp]theorem Xv{a:Type}{ρ:List Sl}:lift (none:Option a) ρ=.stuck:=rfl
noncomputable def CP:List Sl->Nat->Sl->List Sl|[],_,_=>[]|t::ρ,0,s=>dD t (some s)::ρ|t::ρ,k+1,s=>t::CP ρ k s
theorem pK{k:Nat}{s:Sl}:CP [] k s=[]:=rfl
theorem qe{t:Sl}{ρ:List Sl}{s:Sl}:CP (t::ρ) 0 s=dD t (some s)::ρ:=rfl
theorem p8{t:Sl}{ρ:List Sl}{k:Nat}{s:Sl}:CP (t::ρ) (k+1) s=t::CP ρ k s:=rfl
noncomputable def bk:List Arg->List Sl->List Sl->List Sl|.eX k::as,s::ss,ρ=>bk as ss (CP ρ k s)|.dat _::as,_::ss,ρ=>bk as ss ρ|.tmp _::as,_::ss,ρ=>bk as ss ρ|_,_,ρ=>ρ
section
variable{t s:Sl}{ρ ss:List Sl}{k:Nat}{as:List Arg}{d:D}{ds:List D}
@[simp]theorem adC:CP (t::ρ) 0 s=dD t (some s)::ρ:=rfl
@[simp]theorem ad3:CP (t::ρ) (k+1) s=t::CP ρ k s:=rfl
@[simp]theorem Pq:bk (.eX k::as) (s::ss) ρ=bk as ss (CP ρ k s):=rfl
@[simp]theorem Qz:bk (.dat d::as) (s::ss) ρ=bk as ss ρ:=rfl
@[simp]theorem P0:bk (.tmp ds::as) (s::ss) ρ=bk as ss ρ:=rfl
@[simp]theorem ace:bk [] ss ρ=ρ:=rfl
end
theorem xg{s:Sl}:∀{ρ:List Sl}{k j:Nat},(CP ρ k s)[j]?=(ρ[j]?).map λt=>if j=k then dD t (some s)else t|[],_,_=>by simp[pK,qe,p8]|t::ρ,0,0=>by simp[pK,qe,p8]|t::ρ,0,j+1=>by simp[pK,qe,p8]|t::ρ,k+1,0=>by simp[pK,qe,p8]|t::ρ,k+1,j+1=>by have:=xg (s:=s) (ρ:=ρ) (k:=k) (j:=j);simp only[pK,qe,p8,List.getElem?_cons_succ,this];congr 1;funext t;simp
theorem vJ{as:List Arg}{ss:List Sl}:∀{ρ:List Sl}{i j:Nat},(dO as ss i ρ)[j]?=(ρ[j]?).map λt=>dD t (aN (i+j) as ss)|[],_,_=>by simp[o5,jX]|t::ρ,i,0=>by simp[o5,jX]|t::ρ,i,j+1=>by have:=vJ (as:=as) (ss:=ss) (ρ:=ρ) (i:=i+1) (j:=j);simp only[o5,jX,List.getElem?_cons_succ,this];rw[show i+1+j=i+(j+1)by omega]
def stb(t:Sl):Prop:=∀x,dD t x=t
def QR(ρ:List Sl):List Arg->Prop|[]=>True|.eX k::as=>(Arg.eX k∈as->∀t,ρ[k]?=some t->stb t)/\QR ρ as|_::as=>QR ρ as
theorem oh{ρ:List Sl}:∀{as:List Arg}{a:List Sl},QR ρ as->(∀k,Arg.eX k∈as->∀t,a[k]?=some t->ρ[k]?=some t\/stb t)->QR a as
 |[],_,_,_=>trivial|.eX k::as,a,h,g=>⟨λf t ht=>by
  rcases g k (by simp) t ht with e|e;.exact h.1 f t e
  .exact e,oh h.2 λj b=>g j (by simp[b])⟩|.dat _::as,a,h,g=>oh (as:=as) h λj b=>g j (by simp[b])|.tmp _::as,a,h,g=>oh (as:=as) h λj b=>g j (by simp[b])
theorem lg{k:Nat}:∀{as:List Arg}{ss:List Sl},Arg.eX k∉as->aN k as ss=none|[],_,_=>by unfold aN;rfl|.eX j::as,[],_=>rfl|.dat _::as,[],_=>rfl|.tmp _::as,[],_=>rfl|.eX j::as,s::ss,h=>by simp only[mem_cons,Arg.eX.injEq,not_or]at h;rw[aN,if_neg (λe=>h.1 e.symm),lg h.2]|.dat _::as,s::ss,h=>by simp only[mem_cons,not_or]at h;rw[aN,lg h.2]|.tmp _::as,s::ss,h=>by simp only[mem_cons,not_or]at h;rw[aN,lg h.2]
theorem zc:∀{as:List Arg}{ss ρ:List Sl},QR ρ as->∀j,(bk as ss ρ)[j]?=(ρ[j]?).map λt=>dD t (aN j as ss)
 |[],ss,ρ,_,j=>by cases ss<;>simp[aN]|.eX k::as,[],ρ,_,j=>by rw[show bk (.eX k::as) [] ρ=ρ from rfl];simp[aN]|.dat d::as,[],ρ,_,j=>by rw[show bk (.dat d::as) [] ρ=ρ from rfl];simp[aN]|.tmp d::as,[],ρ,_,j=>by rw[show bk (.tmp d::as) [] ρ=ρ from rfl];simp[aN]|.dat _::as,s::ss,ρ,h,j=>by rw[Qz,aN];exact zc (as:=as) h j|.tmp _::as,s::ss,ρ,h,j=>by rw[P0,aN];exact zc (as:=as) h j|.eX k::as,s::ss,ρ,h,j=>by
   have b:QR (CP ρ k s) as:=oh h.2 λi f t ht=>by rw[xg]at ht;cases e:ρ[i]?with|none=>rw[e]at ht;cases ht|some t0=>
      rw[e]at ht;by_cases c:i=k;.subst c;have hs:=h.1 f t0 e;simp[hs (some s)]at ht;exact .inl (by rw[ht])
      .simp[c]at ht;exact .inl (by rw[ht])
   rw[Pq,zc b j,xg,aN];cases e:ρ[j]?with|none=>rfl|some t0=>
     simp only[Option.map_some];by_cases c:j=k
     . subst c;rw[if_pos rfl,if_pos rfl];by_cases a:Arg.eX j∈as;.have hs:=h.1 a t0 e;rw[hs (some s),hs]
       .rw[lg a,Dm]
     .rw[if_neg c,if_neg (λz=>c z.symm)]
noncomputable def lnd:Sl->Bool|.own _ _=>true|.pot _ _ _ _=>true|_=>false
theorem fX{ρ:List Sl}{k:Nat}{s:Sl}(e:ρ[k]?=some s)(l:lnd s=true):∀{as:List Arg}{u:List Nat}{r:List Sl},k∈u->bJ ρ as u=some r->Arg.eX k∉as
 |[],_,_,_,_=>by simp|.dat _::as,u,r,a,h=>by simp only[xK,xO,yD,oK,map_eq_some_iff]at h;obtain⟨b,h,_⟩:=h;simp[fX e l a h]|.tmp _::as,u,r,a,h=>by simp only[xK,xO,yD,oK,map_eq_some_iff]at h;obtain⟨b,h,_⟩:=h;simp[fX e l a h]|.eX i::as,u,r,a,h=>by
   rw[oK]at h;have f:i≠k:=by rintro rfl;rw[e]at h;cases s with|own=>simp[a]at h|pot=>simp[a]at h|_=>cases l
   have:Arg.eX k∉as:=by
    split at h;.obtain⟨b,h,_⟩:=map_eq_some_iff.mp h;exact fX e l a h
    iterate 3
     . split at h;.cases h
       .obtain⟨b,h,_⟩:=map_eq_some_iff.mp h;exact fX e l (by simp[a]) h
    .cases h
   simp[this];exact λz=>f z.symm
theorem eV{ρ:List Sl}:∀{as:List Arg}{u:List Nat}{r:List Sl},bJ ρ as u=some r->QR ρ as
 |[],_,_,_=>trivial|.dat _::as,u,r,h=>by obtain⟨a,h,_⟩:=map_eq_some_iff.mp h;exact eV (as:=as) h|.tmp _::as,u,r,h=>by obtain⟨a,h,_⟩:=map_eq_some_iff.mp h;exact eV (as:=as) h|.eX i::as,u,r,h=>by
   rw[oK]at h;split at h;.rename_i b d q;obtain⟨a,h,_⟩:=map_eq_some_iff.mp h;exact⟨λ_ t ht=>by rw[q]at ht;cases ht;exact λx=>Bg,eV h⟩
   . rename_i b ds q;split at h;.cases h
     .obtain⟨a,h,_⟩:=map_eq_some_iff.mp h;exact⟨λe=>absurd e (fX q rfl (by simp) h),eV h⟩
   . rename_i ds q;split at h;.cases h
     .obtain⟨a,h,_⟩:=map_eq_some_iff.mp h;exact⟨λ_ t ht=>by rw[q]at ht;cases ht;exact λx=>xW,eV h⟩
   . rename_i q;split at h;.cases h
     .obtain⟨a,h,_⟩:=map_eq_some_iff.mp h;exact⟨λe=>absurd e (fX q rfl (by simp) h),eV h⟩
   .cases h
theorem VR{as:List Arg}{ss r:List Sl}{u:List Nat}(h:bJ ρ as u=some r):dO as ss 0 ρ=bk as ss ρ:=by apply List.ext_getElem?;intro j;rw[vJ,zc (eV h),Nat.zero_add]
@[simp]theorem Um{c:Call}{k:Nat}{as:List Arg}{ρ:List Sl}:pF c k as ρ=match bJ ρ as []with|none=>.stuck|some args=>(c k args).bind λr a=>.ok r (bk as a ρ):=by unfold pF;cases e:bJ ρ as []with|none=>rfl|some args=>simp only[<-VR (r:=args) e];cases c k args<;>rfl
theorem ie{one:Bool}{a:P}(J:List Sl->Prop)(g:D->D){Q:List D->List Sl->Prop}{ds:List D}(j:J ρ)(h:∀d,d∈ds->∀ρ,J ρ->∃b,cA ρ is one d=some b/\(ev c a b).sat λr e=>g d=r.d/\J e)(k:∀ρ,J ρ->Q (ds.map g) ρ):(oF c is one none a ds ρ).sat Q:=yt J g j h k
theorem lV{one:Bool}{i t:P}(J:List Sl->Prop)(g:D->Option D){Q:List D->List Sl->Prop}{ds:List D}(j:J ρ)(h:∀d,d∈ds->∀ρ,J ρ->∃a,cA ρ is one d=some a/\(ev c t a).sat λr f=>∃b,r.d=.bl b/\if b=true then(ev c i f).sat λr l=>g d=some r.d/\J l else g d=none/\J f)(k:∀ρ,J ρ->Q (ds.filterMap g) ρ):(oF c is one (some t) i ds ρ).sat Q:=jD J g j (λd hd ρ j=>by obtain⟨a,e,h1⟩:=h d hd ρ j;refine⟨a,e,?_⟩;rw[tH,iB,cj];refine h1.imp λr f⟨b,e,q⟩=>?_;rw[e];exact q) λρ j=>by simpa using k ρ j
theorem ji{c:Call}{n:Nat}{t:P}{body:List S}(J:Nat->List Sl->Prop){Q:Fl->List Sl->Prop}(h:∀m ρ,J m ρ->(ev c t ρ).sat λr a=>∃b,r.d=.bl b/\if b=true then(gY c n body a).sat (fQ (λf=>∃g,g<m/\J g f) Q)else Q .next a):∀{k m:Nat}{ρ:List Sl},m<k->J m ρ->(Fo c n t body k ρ).sat Q|0,m,ρ,i,_=>absurd i (Nat.not_lt_zero _)|k+1,m,ρ,i,j=>by unfold Fo;rw[Dp,cj,iB,cj];refine(h m ρ j).imp λr a⟨b,e,q⟩=>?_;rw[e];show(if b=true then _ else _:Res Fl).sat Q;cases b with|false=>rw[if_neg (by simp)]at q;rw[if_neg (by simp)];exact q|true=>rw[if_pos rfl]at q;rw[if_pos rfl,cj];refine q.imp λfl f q=>?_;cases fl with|next=>obtain⟨g,l,o⟩:=q;exact ji J h (lt_of_lt_of_le l (Nat.lt_succ_iff.mp i)) o|cont=>obtain⟨g,l,o⟩:=q;exact ji J h (lt_of_lt_of_le l (Nat.lt_succ_iff.mp i)) o|brk=>exact q|ret v=>exact q
@[simp]theorem adZ:type_of%@HH.E1:=@HH.E1
@[simp]theorem ad4:type_of%@HH.E2:=@HH.E2
@[simp]theorem aeb:type_of%@HH.E3:=@HH.E3
@[simp]theorem aeh:type_of%@HH.E4:=@HH.E4
@[simp]theorem ael:type_of%@HH.E5:=@HH.E5
@[simp]theorem adO:type_of%@HH.E6:=@HH.E6
@[simp]theorem adA:type_of%@HH.E7:=@HH.E7
@[simp]theorem ad6:type_of%@HH.E8:=@HH.E8
@[simp]theorem acr:type_of%@HH.E9:=@HH.E9
@[simp]theorem abY:type_of%@HH.E10:=@HH.E10
@[simp]theorem acg:type_of%@HH.E11:=@HH.E11
@[simp]theorem acA:type_of%@HH.E12:=@HH.E12
@[simp]theorem ab5:type_of%@HH.E13:=@HH.E13
@[simp]theorem acD:type_of%@HH.E14:=@HH.E14
@[simp]theorem aaO:type_of%@HH.E15:=@HH.E15
@[simp]theorem abq:type_of%@HH.E16:=@HH.E16
@[simp]theorem abw:type_of%@HH.E17:=@HH.E17
@[simp]theorem Z8:type_of%@HH.VN:=@HH.VN
@[simp]theorem abt:type_of%@HH.E18:=@HH.E18
@[simp]theorem acK:type_of%@HH.E19:=@HH.E19
@[simp]theorem acB:type_of%@HH.E20:=@HH.E20
@[simp]theorem aa2:type_of%@HH.E21:=@HH.E21
@[simp]theorem aee:type_of%@HH.X1:=@HH.X1
@[simp]theorem adS:type_of%@HH.X2:=@HH.X2
@[simp]theorem adT:type_of%@HH.X3:=@HH.X3
@[simp]theorem adV:type_of%@HH.X4:=@HH.X4
@[simp]theorem adK:type_of%@HH.X5:=@HH.X5
@[simp]theorem adN:type_of%@HH.X6:=@HH.X6
@[simp]theorem adH:type_of%@HH.X7:=@HH.X7
@[simp]theorem adB:type_of%@HH.X8:=@HH.X8
@[simp]theorem abN:type_of%@HH.X9:=@HH.X9
@[simp]theorem abA:type_of%@HH.X10:=@HH.X10
@[simp]theorem aa8:type_of%@HH.X11:=@HH.X11
@[simp]theorem aba:type_of%@HH.YW:=@HH.YW
@[simp]theorem acL:type_of%@HH.X13:=@HH.X13
@[simp]theorem ab8:type_of%@HH.iB.eq_1:=@HH.iB.eq_1
@[simp]theorem aa0:type_of%@HH.evs.eq_1:=@HH.evs.eq_1
@[simp]theorem abU:type_of%@HH.evs.eq_2:=@HH.evs.eq_2
@[simp]theorem abh:type_of%@HH.yH.eq_1:=@HH.yH.eq_1
@[simp]theorem abZ:type_of%@HH.yH.eq_2:=@HH.yH.eq_2
@[simp]theorem acn:type_of%@HH.tH.eq_1:=@HH.tH.eq_1
@[simp]theorem aa9:type_of%@HH.tH.eq_2:=@HH.tH.eq_2
@[simp]theorem acj:type_of%@HH.nT.eq_1:=@HH.nT.eq_1
@[simp]theorem Xb:type_of%@HH.bJ.eq_1:=@HH.bJ.eq_1
@[simp]theorem Vz:type_of%@HH.bJ.eq_2:=@HH.bJ.eq_2
@[simp]theorem Vx:type_of%@HH.bJ.eq_3:=@HH.bJ.eq_3
@[simp]theorem XQ:type_of%@HH.bJ.eq_4:=@HH.bJ.eq_4
@[simp]theorem Wa:type_of%@HH.dO.eq_1:=@HH.dO.eq_1
@[simp]theorem Wo:type_of%@HH.dO.eq_2:=@HH.dO.eq_2
@[simp]theorem Xp:type_of%@HH.aN.eq_1:=@HH.aN.eq_1
@[simp]theorem Yc:type_of%@HH.aN.eq_2:=@HH.aN.eq_2
@[simp]theorem Wz:type_of%@HH.aN.eq_3:=@HH.aN.eq_3
@[simp]theorem Xc:type_of%@HH.aN.eq_4:=@HH.aN.eq_4
end HH
end
section
namespace HH
open PySem L2 PySem.Spec PyProof.Rows
variable{H:Hp}
section
variable{X:Cx}{c:Call}{a b:Expr}{pa pb:P}{pos:Pos}
theorem pU:∀{ds:List D}{ns:List Int},ds.mapM gU=some ns->ds=ns.map D.int|[],ns,h=>by simp at h;subst h;rfl|d::ds,ns,h=>by simp[mapM_cons,Option.bind_eq_some_iff]at h;obtain⟨i,e,g,f,rfl⟩:=h;rw[dG e,pU f];rfl
theorem gn{K:PySem.W.Frag}{F:Hp}:∀{ns:List Int}{ys:List V},aB K F ys (ns.map D.int)->ys=ns.map V.int|[],ys,h=>by rw[h.eZ];rfl|n::ns,ys,h=>by obtain⟨v,r,rfl,h1,t⟩:=h.bY;rw[Rep]at h1;rw[h1,gn t];rfl
theorem uy{ns:List Int}{f:List Value}(h:Vals (ns.map V.int) f){i:Nat}{v:Value}(e:f.toArray[i]?=some v):∃t,v=.int (ns.getD i 0) t:=by
 have e:f[i]?=some v:=by simpa using e
 have m:i<f.length:=(eN e).1;have k:=h.length;rw[length_map]at k;have g:(ns.map V.int)[i]?=some (.int (ns.getD i 0)):=by rw[getElem?_map,List.getElem?_eq_getElem (by omega)];simp[List.getD,show i<ns.length by omega]
 obtain⟨w,j,l⟩:=h.get g;rw[e]at j;cases j;exact l
theorem walked{g:List (Addr×Obj)}{σ:L2.St}{s:Shared}{p:Addr}{ys:List V}(I:L2.Inv X g σ H s)(hc:X.calm=true)(hq:eG X.K H p ys\/jG X.K H p ys){Q:Value->Shared->Prop}{E:Value->Shared->Prop}(k:∀(it:Addr)(f:List Value)(e:Shared)(St:Nat->Heap->Prop),Vals ys f->Walks X.prog X.w X.A.in1 it [it,p] [it] f.toArray.size (λi v=>f.toArray[i]?=some v) St->St 0 e.heap->(∀ b ∈[it,p],b<e.heap.objs.size)->(∀h' l,(∀b o,b∉[it]->e.heap.get? b=some o->h'.get? b=some o)->L2.Inv X g σ H {e with heap:=h',toks:=l})->Q (.ref it) e):wpAny (model X.prog X.w) X.A.in1 (pyIter (.ref p)) Q E s:=by
 have q:X.A.in1.handled=none:=I.ok.hd hc;rcases hq with hq|hq
 . obtain⟨f,m,pl,hz⟩:=I.list hq;have pl:=pl.isList;have h:p<s.heap.objs.size:=by obtain⟨o,h1,_⟩:=pl;exact lt_size h1
   refine wpAny_pyIter_list pl (k s.heap.objs.size f _ _ m (Walks.list q s.heap.objs.size p (ne_of_lt h) f.toArray) ⟨⟨_,get?_push_size _ rfl,rfl,rfl⟩,?_⟩ ?_ λh' l kp=>?_);.obtain⟨o,h1,n⟩:=pl;exact⟨o,gW h1,n⟩
   . intro b j;obtain⟨o,h1,_⟩:=pl;simp at j;rcases j with rfl|rfl;.exact lt_size (get?_push_size _ rfl)
     .exact lt_size (gW h1)
   .exact I.kept (λb o z=>kp b o (by simp;exact ne_of_lt (lt_size z)) (gW z))
 . obtain⟨f,m,pl,hz⟩:=I.tuple hq;have h:p<s.heap.objs.size:=by obtain⟨o,h1,_⟩:=pl;exact lt_size h1
   refine wpAny_pyIter_tuple pl (k s.heap.objs.size f _ _ m (Walks.tuple q s.heap.objs.size p (ne_of_lt h) f.toArray) ⟨⟨_,get?_push_size _ rfl,rfl,rfl⟩,?_⟩ ?_ λh' l kp=>?_);.obtain⟨o,h1,n⟩:=pl;exact⟨o,gW h1,n⟩
   . intro b j;obtain⟨o,h1,_⟩:=pl;simp at j;rcases j with rfl|rfl;.exact lt_size (get?_push_size _ rfl)
     .exact lt_size (gW h1)
   .exact I.kept (λb o z=>kp b o (by simp;exact ne_of_lt (lt_size z)) (gW z))
theorem mL(ns:List Int):∀k,k<=ns.length->preSum (λi=>ns.getD i 0) k=(ns.take k).sum|0,_=>by simp[preSum]|k+1,h=>by rw[preSum,mL ns k (by omega),List.take_succ,List.sum_append];simp[List.getD,show k<ns.length by omega]
theorem XS(hc:X.calm=true):dH X (.builtin "sum") (IK X.K λx=>blt .sum [x]):=by
 rintro g s σ H xs h Q I r⟨x,n,F,d,o,sm,q,he,k⟩;obtain⟨ns,t,he⟩:=map_some (show((items d).bind λds=>ds.mapM gU).map _=some o from he);subst he;obtain⟨ds,w,y⟩:=cQ t;obtain⟨p,ys,rfl,z,j⟩:=q.items sm w;rw[pU y]at j;have A:=gn j;subst n;obtain⟨u,rfl,B⟩:=r.one;cases B;refine call_sum_walkG (walked I hc z λit h l St m W h0 C kp=>?_);subst A;have f:h.toArray.size=ns.length:=by rw[size_toArray,<-m.length,length_map]
 refine⟨it,_,_,_,_,St,λi=>ns.getD i 0,rfl,W,h0,C,λi v e=>uy m e,λh' E t' G=>?_⟩;rw[f,mL ns _ (dC),List.take_length];exact⟨.int _,H,kp h' E G,⟨t',rfl⟩,bW.cM sm (bT _) k⟩
theorem FJ{ns:List Int}{m:Int}(k:ns.min?=some m):ns.getD (argBest (λi j=>decide (ns.getD i 0<ns.getD j 0)) (ns.length-1)) 0=m:=by
 have h:ns≠[]:=by rintro rfl;simp at k
 have r:0<ns.length:=List.length_pos_iff.mpr h;obtain⟨h1,n⟩:=argBest_lt (λi=>ns.getD i 0) (ns.length-1);have l:=List.min?_eq_some_iff.mp k;generalize argBest (λi j=>decide (ns.getD i 0<ns.getD j 0)) (ns.length-1)=j at*;have o:j<ns.length:=by omega
 have f:ns.getD j 0∈ns:=by simp[List.getD,o]
 obtain⟨q,p,e⟩:=List.getElem_of_mem l.1;have g:=n q (by omega);simp only[List.getD,List.getElem?_eq_getElem p,Option.getD_some]at g;rw[e]at g;have s:=l.2 _ f;have g:ns.getD j 0<=m:=g;omega
theorem PK(hc:X.calm=true):dH X (.builtin "min") (IK X.K λx=>blt .Hw [x]):=by
 rintro j s σ H xs l Q I r⟨x,y,F,d,z,sm,A,he,k⟩;obtain⟨ns,B,he⟩:=cQ (show((items d).bind λds=>ds.mapM gU).bind _=some z from he);obtain⟨m,n,he⟩:=map_some he;subst he;obtain⟨ds,C,E⟩:=cQ B;obtain⟨p,ys,rfl,G,o⟩:=A.items sm C;rw[pU E]at o;have J:=gn o;subst y;obtain⟨u,rfl,L⟩:=r.one;cases L;refine call_min_walk (walked I hc G λit l q St h W h0 M kp=>?_);subst J;have f:l.toArray.size=ns.length:=by rw[size_toArray,<-h.length,length_map]
 have g:0<ns.length:=by cases ns with|nil=>simp at n|cons _ _=>simp
 refine⟨it,_,_,_,_,St,_,rfl,W,h0,M,by rw[f];exact g,CmpOf.ints_lt (λi=>ns.getD i 0) (λi v e=>uy h e),λv h' N w O=>?_⟩;rw[f]at w;obtain⟨t,rfl⟩:=uy h w;rw[FJ n];exact⟨.int _,H,kp h' N O,⟨t,rfl⟩,bW.cM sm (bT _) k⟩
theorem boot_sum:bootBuiltins "sum"=some (.builtin "sum"):=by decide+kernel
theorem QH{x:Str}{e:Pos}(f:x="sum")(hc:X.calm=true)(g:Gl X x)(i:X.mg x=none)(j:SX X c a pa)(hs:starEach [a] X.env=(false,eval a X.env)::starEach [] X.env:=by rfl):SX X c (.Call (.Name x e) [a] [] pos) (.blt .sum [pa]):=by subst f;exact mU (λh=>fj (XS hc) g i boot_sum h (he:=hs)) j (λρ=>rfl) rfl hs
theorem JT{x:Str}{e:Pos}(f:x="min")(hc:X.calm=true)(g:Gl X x)(i:X.mg x=none)(j:SX X c a pa)(hs:starEach [a] X.env=(false,eval a X.env)::starEach [] X.env:=by rfl):SX X c (.Call (.Name x e) [a] [] pos) (.blt .Hw [pa]):=by subst f;exact mU (λh=>fj (PK hc) g i boot_min h (he:=hs)) j (λρ=>rfl) rfl hs
theorem Gf{K:PySem.W.Frag}{F H:Hp}{v:V}{d:D}(h:cU K F H v d)(f:flat d=true):jL v=true:=by cases d with|non=>rw[h.non];rfl|bl _=>rw[h.bl];rfl|int _=>rw[h.int];rfl|str _=>rw[h.str];rfl|tup _=>cases f|lst _=>cases f|dq _=>cases f|dv _ _=>cases f
theorem aaZ{K:PySem.W.Frag}{F H:Hp}{v u:V}{d e:D}(h:cU K F H v d)(h':cU K F H u e)(f:flat d=true)(g:flat e=true):KN v u=fO d e:=by cases d with
 |tup _=>cases f|lst _=>cases f|dq _=>cases f|dv _ _=>cases f|non=>rw[h.non];cases e with|tup _=>cases g|lst _=>cases g|dq _=>cases g|dv _ _=>cases g|non=>rw[h'.non];rfl|bl _=>rw[h'.bl];rfl|int _=>rw[h'.int];rfl|str _=>rw[h'.str];rfl
 |bl _=>rw[h.bl];cases e with|tup _=>cases g|lst _=>cases g|dq _=>cases g|dv _ _=>cases g|non=>rw[h'.non];rfl|bl _=>rw[h'.bl];rfl|int _=>rw[h'.int];rfl|str _=>rw[h'.str];rfl
 |int _=>rw[h.int];cases e with|tup _=>cases g|lst _=>cases g|dq _=>cases g|dv _ _=>cases g|non=>rw[h'.non];rfl|bl _=>rw[h'.bl];rfl|int _=>rw[h'.int];rfl|str _=>rw[h'.str];rfl
 |str _=>rw[h.str];cases e with|tup _=>cases g|lst _=>cases g|dq _=>cases g|dv _ _=>cases g|non=>rw[h'.non];rfl|bl _=>rw[h'.bl];rfl|int _=>rw[h'.int];rfl|str _=>rw[h'.str];rfl
theorem XH{K:PySem.W.Frag}{F H:Hp}{v:V}{d:D}(h:cU K F H v d)(f:flat d=true):∀{ds:List D}{vs:List V},aB K F vs ds->ds.all flat=true->vs.all jL=true/\inV v vs=ds.any λy=>fO y d|[],vs,r,_=>by rw[r.eZ];exact⟨rfl,rfl⟩|e::ds,vs,r,g=>by obtain⟨w,ws,rfl,h1,t⟩:=r.bY;rw[all_cons,and_eq_true]at g;obtain⟨j,i⟩:=XH h f t g.2;have q:cU K F H w e:=.inl h1;refine⟨by rw[all_cons,Gf q g.1,j];rfl,?_⟩;unfold inV at i ⊢;rw[any_cons,any_cons,i,aaZ q h g.1 f]
theorem Jx:eU X (compareOp .In) (rD X.K (nT .inn)):=by rintro f s σ H x y v u Q I i j⟨F,d,e,r,sm,h,l,he,k⟩;obtain⟨t,m,n⟩:=map_some (show(Dl false d e).map _=some r from he);subst n;obtain⟨ds,o,q⟩:=cQ m;obtain⟨g,w⟩:=aV q;rw[and_eq_true]at g;obtain⟨p,xs,rfl,z,A⟩:=l.items sm o;obtain⟨B,C⟩:=XH h g.1 A g.2;subst w;refine Bu f s σ H x _ v u Q I i j ⟨p,xs,rfl,z,Gf h g.1,B,?_⟩;rw[C];exact bW.cM sm (fP _) k
end
end HH
end
section
namespace HH
open PySem
section
variable{i j:Int}{ds es:List D}{d:D}{b b':Bool}
@[simp]theorem Y0:qL .shl=Gq:=rfl
@[simp]theorem ZJ:qL .shr=GC:=rfl
@[simp]theorem VP:qL .band=yp:=rfl
@[simp]theorem Tn:Gq (.int i) (.int j)=if 0<=j/\j<=1000/\i.natAbs<18446744073709551616 then some (.val (.int (i*2^j.toNat)))else none:=rfl
@[simp]theorem Uw:GC (.int i) (.int j)=if 0<=j then some (.val (.int (i/2^j.toNat)))else none:=rfl
@[simp]theorem Pn:yp (.int i) (.int j)=some (.val (.int (Builtin.bitAnd i j))):=rfl
@[simp]theorem Tf:pB (.lst ds) (.int i)=if 0<=i/\0<ds.length/\ds.length*i.toNat<=lim then some (.own (replicate i.toNat ds).flatten)else none:=rfl
@[simp]theorem U5:pB (.tup ds) (.int i)=if 0<=i/\0<ds.length/\ds.length*i.toNat<=lim then some (.val (.tup (replicate i.toNat ds).flatten))else none:=rfl
@[simp]theorem abv:cm .isT (.bl b) (.bl true)=some b:=rfl
@[simp]theorem Zt:cm .Yk (.bl b) (.bl true)=some (!b):=rfl
@[simp]theorem aap:blt .sum [.lst ds]=(ds.mapM gU).map λns=>.val (.int ns.sum):=rfl
@[simp]theorem Wx:blt .Hw [.lst ds]=(ds.mapM gU).bind λns=>ns.min?.map λi=>.val (.int i):=rfl
end
@[simp]theorem abC:type_of%@HH.X15:=@HH.X15
theorem qp{ns:List Int}:(ns.map D.int).mapM gU=some ns:=by induction ns with|nil=>rfl|cons n ns a=>simp[a]
@[simp]theorem TQ{ns:List Int}:ns.mapM (gU ∘ D.int)=some ns:=by rw[<-qp (ns:=ns),List.mapM_map]
@[simp]theorem Wu{bs:List Bool}:bs.mapM (xT ∘ D.bl)=some bs:=by induction bs with|nil=>rfl|cons b bs a=>simp[a]
theorem Je{S:List Int}{i:Int}:((S.map D.int).any λy=>fO y (.int i))=S.contains i:=by induction S with|nil=>rfl|cons s S a=>rw[map_cons,any_cons,List.contains_cons,a,pqi];rw[show(s==i)=(i==s)from Bool.eq_iff_iff.mpr ⟨λh=>by simp at h ⊢;exact h.symm,λh=>by simp at h ⊢;exact h.symm⟩]
theorem Gg{S:List Int}:(S.map D.int).all flat=true:=by rw[all_eq_true];intro d hd;obtain⟨i,_,rfl⟩:=mem_map.mp hd;rfl
theorem Rh{S:List Int}{i:Int}:cm .inn (.int i) (.lst (S.map D.int))=some (S.contains i):=by show Dl false _ _=_;unfold Dl;simp only[Cd,bind_some,DN,Gg,Bool.and_true,Je];rfl
theorem oA{n:Nat}{S:List Int}:fC (n+1) (.lst (S.map D.int))=true:=by rw[bz,all_eq_true];intro d hd;obtain⟨i,_,rfl⟩:=mem_map.mp hd;cases n<;>rfl
theorem pG:∀{S T:List Int},gj (S.map D.int) (T.map D.int)=(S==T)|[],[]=>by simp[gO,dJ,je,jh]|[],_::_=>by simp[gO,dJ,je,jh]|_::_,[]=>by simp[gO,dJ,je,jh]|s::S,t::T=>by rw[map_cons,map_cons,dJ,pG,pqi];rfl
theorem aao{S T:List Int}:cm .eq (.lst (S.map D.int)) (.lst (T.map D.int))=some (S==T):=by show G4 _ _=_;unfold G4;rw[oA,oA,pql,pG];rfl
theorem aab{S T:List Int}:cm .ne (.lst (S.map D.int)) (.lst (T.map D.int))=some (!(S==T)):=by show Ec _ _=_;unfold Ec;rw[oA,oA,pql,pG];rfl
theorem jw{a:Type}{l:List a}{x:a}:at' (l++[x]) (-1)=some x:=by
 unfold at' gK;rw[if_neg (by decide),if_pos (by simp only[length_append,List.length_singleton];omega)];have:(-1+((l++[x]).length:Int)).toNat=l.length:=by simp only[length_append,List.length_singleton];omega
 rw[this];simp
theorem fH{a:Type}{l:List a}{f:a->D}{k:Nat}{x:a}(h:l[k]?=some x):at' (l.map f) (k:Int)=some (f x):=by have b:=(eN h).1;rw[Gr (by simpa using b),getElem?_map,h];rfl
theorem acP{n k:Nat}(h:k<n):gK n (k:Int)=some k:=by unfold gK;rw[if_pos (by omega),if_pos (by omega)];simp
theorem pM{is:List Nat}{one:Bool}{body:List Sl->Res Fl}{g:Nat->D}{N:Nat}(J:Nat->List Sl->Prop){Q:Fl->List Sl->Prop}(c:∀i ρ,i<N->J i ρ->∃a,cA ρ is one (g i)=some a/\(body a).sat (fQ (J (i+1)) Q))(f:∀ρ,J N ρ->Q .next ρ){ρ:List Sl}(h0:J 0 ρ):(iT is one body ((List.range N).map g) ρ).sat Q:=by
 refine bK (λr ρ=>∃i,i<=N/\r=((List.range N).map g).drop i/\J i ρ) ?_ ?_ ⟨0,uR,rfl,h0⟩
 . rintro d r ρ⟨i,k,e,j⟩;have b:i<N:=by
    rcases Nat.lt_or_ge i N with h|h;.exact h
    .rw[List.drop_eq_nil_of_le (by simpa using h)]at e;cases e
   rw[drop_eq_getElem_cons (by simpa using b)]at e;injection e with e1 e2;simp at e1;subst e1;obtain⟨a,h1,l⟩:=c i ρ b j;refine⟨a,h1,l.imp λfl m q=>?_⟩;cases fl with|next=>exact⟨i+1,b,e2,q⟩|cont=>exact⟨i+1,b,e2,q⟩|brk=>exact q|ret v=>exact q
 . rintro ρ⟨i,k,e,j⟩;have:i=N:=by have n:=congrArg List.length e;simp at n;omega
   subst this;exact f ρ j
inductive A3(a b c:Prop):Prop where|mk(ha:a)(hb:b)(hc:c)
inductive A4(a b c d:Prop):Prop where|mk(ha:a)(hb:b)(hc:c)(hd:d)
inductive A5(a b c d e:Prop):Prop where|mk(ha:a)(hb:b)(hc:c)(hd:d)(he:e)
inductive A6(a b c d e f:Prop):Prop where|mk(ha:a)(hb:b)(hc:c)(hd:d)(he:e)(hf:f)
inductive A7(a b c d e f g:Prop):Prop where|mk(ha:a)(hb:b)(hc:c)(hd:d)(he:e)(hf:f)(hg:g)
inductive A8(a b c d e f g h:Prop):Prop where|mk(ha:a)(hb:b)(hc:c)(hd:d)(he:e)(hf:f)(hg:g)(hh:h)
inductive A9(a b c d e f g h i:Prop):Prop where|mk(ha:a)(hb:b)(hc:c)(hd:d)(he:e)(hf:f)(hg:g)(hh:h)(hi:i)
end HH
end
section
namespace HH
open PySem L2 PySem.Spec PyProof.Rows
section
variable{X:Cx}{c:Call}{n:Nat}{e a b d tg:Expr}{p pa pb pd:P}{pos:Pos}
theorem Eb{g:TG}{is:List Nat}(he:SX X c e p)(q:PG X tg g)(i:Gn X.K (λρ d=>cA ρ is false d) g)(hs:swapsWithSole [tg] e pos.line X.env=pure false:=by rfl)(s:swappedStores [tg] e X.env=pure none:=by rfl)(h1:(assignEach [tg] X.env).map (·.2)=[assign tg X.env]:=by rfl):SS X c n (.Assign [tg] e pos) (.Yl is p):=by
 refine fB (oG he.ev q hs s h1) ?_;rintro D σ H⟨F,ρ,fl,t,u,e,k⟩;rw[HH.X7]at e;obtain⟨r,f,w,e⟩:=aa e;refine⟨F,ρ,r,f,u,w,λv F1 l s1 x=>?_⟩;obtain⟨m,s2,_,o⟩:=s1.cO x;split at e;.rename_i ds hd;obtain⟨y,z,h,e⟩:=aa e;cases e;have A:=aD h;clear h;obtain⟨h,B⟩:=A;rw[hd]at o;exact i v (.tup ds) m f _ σ l _ s2.gs o (by show cA f is false (.tup ds)=_;cases is<;>exact h) λj s3=>k m j l (s2.trans s3)
 .cases e
theorem nW{n:Nat}{k:Int}{j:Nat}(h:HH.gK n k=some j):seqIndex? k n=some j/\j<n/\-(n:Int)<=k/\k<n:=by
 unfold HH.gK at h;unfold seqIndex?;by_cases h0:0<=k;.rw[if_pos h0]at h;obtain⟨h1,f⟩:=aV h;subst f;refine⟨?_,by omega,by omega,h1⟩;simp only[show ¬ k<0 by omega,if_false];rw[if_pos (by simp;omega)]
 .rw[if_neg h0]at h;obtain⟨h1,f⟩:=aV h;subst f;refine⟨?_,by omega,h1,by omega⟩;simp only[show k<0 by omega,if_true];rw[if_pos (by simp;omega)]
end
end HH
end
section
namespace HT
open PySem PySem.Spec PyProof.Rows
section
variable{prog:Program}{w:World}{A:Around}{E:Value->Shared->Prop}{s:Shared}
theorem vd{t sl:Addr}{a:Array Value}{g i:Value}{lo b:Option Int}{Q:Value->Shared->Prop}(ht:IsTup s.heap t a)(hs:s.heap.IsSliceOf sl g i .none)(pl:IsPart g lo)(j:IsPart i b)(h1:du a.size 0 lo=0)(k:du a.size a.size b=a.size)(h:Q (.ref t) s):wpAny (model prog w) A (getItem (.ref t) (.ref sl)) Q E s:=by
 obtain⟨os,c,e,l⟩:=id hs;have m:s.TypeIs (.ref sl) "slice":=⟨os,c,e⟩;unfold getItem;try with_reducible refine wpAny_holding ?_
 first|refine wpAny_bind (wpAny_pure ?_)|skip
 refine wpAny_bind (wpAny_sequenceKey ht.typeIs (by decide) (wpAny_bind (wpAny_callSpecial?_slot (name:=Str.ofString "__getitem__") ht.typeIs slot_tuple_getitem (wpAny_call_entry slot_tuple_getitem ht.typeIs entry_tuple_getitem ?_ (args_tuple_getitem _ _)))));show wpAny _ _ (tupleItemsOf (.ref t)>>=_) _ _ s;refine wpAny_bind (tupleItemsOf_ ht (wpAny_bind (wpAny_typeOf m ?_)));rw[if_pos (by decide)];refine wpAny_bind (ir hs pl j ?_);have f:((((du a.size 0 lo:Nat):Int)==0&&(1:Int)==1&&(du a.size a.size b-du a.size 0 lo)==a.size)=true):=by rw[h1,k];simp
 show wpAny _ _ (if(((du a.size 0 lo:Nat):Int)==0&&(1:Int)==1&&(du a.size a.size b-du a.size 0 lo)==a.size)=true then _ else _) _ _ s;rw[if_pos f];unfold Builtin.Tuple.tupleIsExact;refine wpAny_bind (wpAny_bind (wpAny_typeOf ht.typeIs (wpAny_pure ?_)));rw[if_pos (by decide)];exact wpAny_bind (wpAny_rule (wpAny_pure ⟨_,rfl,wpAny_pure h⟩))
end
end HT
namespace HH
open PySem L2 PySem.Spec PyProof.Rows
noncomputable def nst:Expr->Bool|.Starred _ _=>false|_=>true
theorem dm{e:Expr}{es:List Expr}{env:Env}(h:nst e=true):starEach (e::es) env=(false,eval e env)::starEach es env:=by cases e with|Starred a b=>cases h|_=>rw[starEach];(intro e p z;cases z)
noncomputable def pD:List Int->List Expr->Option (List Expr)|[],es=>some es|i::is,.Constant (.int j) _ _::es=>if i=j then pD is es else none|_,_=>none
theorem uK{X:L2.Cx}{c:Call}:∀(is:List Int){es a:List Expr}{b:List P},pD is es=some a->SA X c a b->SA X c es (is.map (λi=>P.con (.int i))++b)|[],es,a,b,h,r=>by cases h;exact r|i::is,[],a,b,h,r=>by cases h|i::is,e::es,a,b,h,r=>by cases e with
   |Constant v k p=>cases v with
     |int j=>
       replace h:(if i=j then pD is es else none)=some a:=h;split at h;.rename_i f;subst f;exact An ak (uK is h r) (dm rfl)
       .cases h|_=>cases h
   |_=>cases h
theorem uC{n d:Nat}{o:Option Int}:HT.du n d o=HH.du n d o:=by cases o with|none=>rfl|some v=>
   show(if v<0 then(v+(n:Int)).toNat else min v.toNat n)=(if 0<=v then min v.toNat n else(v+n).toNat);by_cases h:0<=v;.rw[if_pos h,if_neg (by omega)]
   .rw[if_neg h,if_pos (by omega)]
theorem Ey{xs:List V}{lo a:Option Int}:wJ xs lo a=HH.cut xs lo a:=by unfold wJ HH.cut;rw[uC,uC]
theorem aB.cut{K:PySem.W.Frag}{F:Hp}{ds:List D}{vs:List V}{lo a:Option Int}(h:aB K F vs ds):aB K F (HH.cut vs lo a) (HH.cut ds lo a):=by unfold HH.cut;rw[h.length];exact(h.drop _).take _
section
variable{X:Cx}{c:Call}{n:Nat}{e a b:Expr}{p pa pb pl ph:P}{pos p2:Pos}{lo hi:Option Expr}
def aaT(K:PySem.W.Frag):V->Option Int->Option Int->Hp->VK->Prop:=λx lo hi H Q=>∃F d r,aF F H/\cU K F H x d/\JF d (some lo) (some hi)=some r/\∀v f H',Ext F H f H'->bW K f H' H v r->Q v H'
theorem Xq:YT X (aaT X.K):=by rintro f s σ H x v t u lo hi sl Q I l hs pl m⟨F,d,r,sm,w,he,k⟩;cases d with|lst ds=>cases he;obtain⟨a,xs,rfl,j,h⟩:=w.lst sm;refine Km f s σ H _ v t u lo hi sl Q I l hs pl m ⟨a,xs,rfl,j,λp o=>?_⟩;rw[Ey];exact yc sm h.cut o k|tup ds=>
   cases he;obtain⟨a,xs,rfl,j,h,rt⟩:=w.tup sm;by_cases i:HT.du xs.length 0 lo=0/\HT.du xs.length xs.length hi=xs.length
   . cases l;obtain⟨q,y,ht,hz⟩:=I.tuple j;have g:q.toArray.size=xs.length:=by rw[size_toArray];exact y.length.symm
     refine⟨"tuple",_,slot_tuple_getitem.lookup,ht.typeIs,HT.vd ht hs pl m (by rw[g];exact i.1) (by rw[g];exact i.2) ⟨.ref a,H,I,rfl,?_⟩⟩;have hc:HH.cut ds lo hi=ds:=by unfold HH.cut;rw[<-h.length,<-uC,<-uC,i.1,i.2];simp[h.length]
     rw[hc]at k;exact bW.cM sm rt k
   .refine Oq f s σ H _ v t u lo hi sl Q I l hs pl m ⟨a,xs,rfl,j,i,λp o=>?_⟩;rw[Ey];exact By sm h.cut o k|_=>cases he
def SO(X:Cx)(c:Call)(o:Option Expr)(p:P):Prop:=∃t,PO X o t/\∀{σ:L2.St}{H F:Hp}{ρ f:List Sl}{d:D}{i:Option Int}{Q:Option Int->Hp->Prop},GS X.K F ρ σ H->cG (isVar p) (HH.ev c p) ρ=.ok d f->part p d=some i->(∀g H',au X.K F ρ σ H g f σ H'->Q i H')->t σ H Q
theorem ud:SO X c none (.con .non):=by refine⟨_,KY,λ{σ H F ρ f d i Q}g e h k=>?_⟩;cases(show some none=some i from h);have j:(HH.ev c (.con .non) ρ).bind (λr ρ=>.ok r.d ρ)=.ok d f:=e;clear e;rw[HH.E2]at j;cases j;exact k F H (.refl g)
theorem uA(h:SX X c e p)(l:Wl p=false:=by rfl):SO X c (some e) p:=by obtain⟨t,h1,m⟩:=h.cG;refine⟨_,JL h1,λ{σ H F ρ o d i Q}g e f k=>?_⟩;unfold part at f;rw[l,if_neg (by decide)]at f;obtain⟨j,q,r⟩:=map_some f;cases dG q;subst r;exact m g e λv u H' s w=>⟨j,w.int,k u H' s⟩
theorem vN{d:D}{x y:Option (Option Int)}{r:R}(h:JF d x y=some r):∃lo hi,x=some lo/\y=some hi:=by cases x with|none=>cases d<;>cases h|some lo=>cases y with|none=>cases d<;>cases h|some hi=>exact⟨lo,hi,rfl,rfl⟩
theorem qg(Z:SX X c a pa)(hl:SO X c lo pl)(hh:SO X c hi ph):SX X c (.Subscript a (.Slice lo hi none p2) pos) (.slice pa pl ph):=by obtain⟨tl,l1,l2⟩:=hl;obtain⟨th,h1,h2⟩:=hh;cases hv:isVar pa with|none=>refine⟨dX (wG Xq Z.ev l1 h1) ?_,λi h=>by cases h⟩;rintro σ H Q⟨F,ρ,r,A,g,e,k⟩;rw[HH.E14,hv]at e;obtain⟨x,B,f,j⟩:=aa e;clear e;have Yr:(HH.ev c pa ρ).bind (λr ρ=>.ok r.d ρ)=.ok x B:=f;clear f;obtain⟨rx,ac,e1,C⟩:=aa Yr;clear Yr;cases C;obtain⟨y,E,G,l⟩:=aa j;clear j;obtain⟨z,I,J,m⟩:=aa l;clear l;obtain⟨e,L⟩:=aD m;clear m;subst L;obtain⟨M,N,o,q⟩:=vN e;rw[o,q]at e;refine⟨F,ρ,rx,_,g,e1,λv F1 H1 s1 rr=>?_⟩;obtain⟨F2,s2,_,rp⟩:=s1.cO rr;refine l2 s2.gs G o λF3 H3 s3=>h2 s3.gs J q λO H4 s4=>?_;have s5:=s2.trans (s3.trans s4);refine⟨O,_,r,s4.gs.sub,.inl ((rp.mono s3.cV).mono s4.cV),e,λv U W x Y=>?_⟩;exact k v U W (s5.trans (x.stp s5.gs)) (.later s5 (Y.nu s5.gs))|some i=>refine⟨dX (wG Xq (Z.var i hv) l1 h1) ?_,λi h=>by cases h⟩;rintro σ H Q⟨F,ρ,r,A,g,e,k⟩;rw[HH.E14,hv]at e;obtain⟨x0,ae,s,j⟩:=aa e;clear e;obtain⟨C,HJ⟩:=aD s;clear s;subst HJ;obtain⟨y,E,G,l⟩:=aa j;clear j;obtain⟨z,I,J,m⟩:=aa l;clear l;obtain⟨x,af,t,ed⟩:=aa m;clear m;obtain⟨e5,e6⟩:=aD t;clear t;subst e6;obtain⟨e,L⟩:=aD ed;clear ed;subst L;obtain⟨M,N,o,q⟩:=vN e;rw[o,q]at e;obtain⟨v,u,_⟩:=g.pk C;refine⟨v,u,l2 g G o λF3 H3 s3=>h2 s3.gs J q λO H4 s4=>?_⟩;have s5:=s3.trans s4;obtain⟨v',w,pv⟩:=s5.gs.pk e5;rw[u]at w;cases w;refine⟨O,_,r,s4.gs.sub,pv,e,λv U W x Y=>?_⟩;exact k v U W (s5.trans (x.stp s5.gs)) (.later s5 (Y.nu s5.gs))
theorem Wj:dH X (.type "int") (IK X.K λx=>blt .int [x]):=by rintro f s σ H xs g Q I r⟨x,h,F,d,j,sm,l,he,k⟩;cases d with|int i=>cases(show some _=some j from he);exact sI f s σ H xs g Q I r (.inl ⟨i,by rw[h,l.int],bW.cM sm (bT _) k⟩)|bl b=>cases(show some _=some j from he);exact sI f s σ H xs g Q I r (.inr ⟨b,by rw[h,l.bl],bW.cM sm (bT _) k⟩)|_=>cases he
theorem LC{x:Str}{f:Pos}(g:x="int")(i:Gl X x)(j:X.mg x=none)(k:SX X c a pa)(hs:starEach [a] X.env=(false,eval a X.env)::starEach [] X.env:=by rfl):SX X c (.Call (.Name x f) [a] [] pos) (.blt .int [pa]):=by subst g;exact mU (λh=>jt Wj i j (by decide+kernel) h (he:=hs)) k (λρ=>rfl) rfl hs
theorem K8:PIp X .Add (ipI λi j=>if false then i-j else i+j):=RB
end
end HH
end
section
namespace L2
open PySem PySem.Spec PyProof.Rows
section
variable{X:Cx}{tg:Expr}
theorem vR:bootBuiltins "tuple"=some (.type "tuple"):=by decide+kernel
theorem pq:bootBuiltins "reversed"=some (.type "reversed"):=by decide+kernel
end
end L2
namespace HH
open PySem L2 PySem.Spec PyProof.Rows
section
variable{K:PySem.W.Frag}{F F1 H H1:Hp}{ρ ρ1:List Sl}{σ:L2.St}{ds:List D}{a:Addr}
theorem aB.rev:∀{ds:List D}{xs:List V},aB K F xs ds->aB K F xs.reverse ds.reverse|[],_,h=>by rw[h.eZ];exact .nil|d::ds,_,h=>by obtain⟨v,r,rfl,h1,b⟩:=h.bY;rw[reverse_cons,reverse_cons];exact(aB.rev b).append (.cons h1 .nil)
end
end HH
end
section
namespace PySem
namespace F
theorem DW:typeLookup (.type "list_reverseiterator") "__len__"=pure none:=by rw[typeLookup_type,builtinLookup_eq_fast];kernel_rfl
theorem KD:typeLookup (.type "list_reverseiterator") "__length_hint__"=pure (some (.builtin "list_reverseiterator.__length_hint__")):=by rw[typeLookup_type,builtinLookup_eq_fast];kernel_rfl
end F
section
variable{prog:Program}{w:World}{A:Around}{E:Value->Shared->Prop}{s:Shared}
theorem m8{it l:Addr}{items:Array Value}{Q:Bool->Shared->Prop}(e:s.heap.IsRevIter it l ((items.size:Int)-1))(m:s.heap.IsList l items)(i:items.size<=2^24)(h:∀b j,s.toks<=j->Q b {s with toks:=j}):wpAny (model prog w) A (listLengthHint (.ref it)) Q E s:=by
 have f:=e.typeIs;unfold listLengthHint;refine wpAny_bind (wpAny_specialOf f F.DW ?_);show wpAny _ _ (specialOf (Value.ref it) (Str.ofString "__length_hint__")>>=_) _ _ _;refine wpAny_bind (wpAny_specialOf f F.KD ?_);generalize a:("list_reverseiterator.__length_hint__":String)=c;(fail_if_success(clear a c));wp_delta;rw[show splitId c=some ("list_reverseiterator","__length_hint__")from by subst a;decide+kernel];subst a;refine wpAny_bind (wpAny_isInstance (b:=true) f (by rw[isSubtype_type];kernel_rfl) ?_);rw[if_neg (by decide)];dsimp only;split;.refine wpAny_ite_split (λg=>absurd g (by decide+kernel)) (λ_=>?_);exact wpAny_pure (h _ s.toks (dC))
 .rename_i k;exact absurd (by decide+kernel) k
theorem j6{R:Result->Shared->Prop}{I l:Addr}{items:Array Value}(Q:A.handled=none)(j:s.heap.IsRevIter I l ((items.size:Int)-1))(G:s.heap.IsList l items)(H:l≠I)(u:items.size<=2^24)(S:Addr)(m:S≠I)(x:S≠l)(res:Value)(k:Nat)(J:s.heap.get? S=some {cls:=.type "list",data:=.seq #[] k})(U:∀ h' y a t,(∀ b o,b ≠ S->b ≠ I->s.heap.get? b=some o->h'.get? b=some o)->h'.get? S=some {cls:=.type "list",dict:=none,data:=.seq a t,slots:=#[]}->ItemsOf (λi v=>items[items.size-1-i]?=some v) a items.size->R (.ok (.ret res)) {s with heap:=h',toks:=y}):wpAny (model prog w) A.in1 (listExtendWith (.ref S) (.ref I) res) (λfin n=>match fin with|.done f=>R (.ok f) n|.again t=>t.quiet=true/\codeAny (model prog w) A t R n) (λe n=>R (.error e) n) s:=by
 have L:S∉[I,l]:=λhm=>by
  rcases mem_cons.mp hm with e|hm;.exact m e
  .exact x (mem_singleton.mp hm)
 have W:=(Walks.listRev (prog:=prog) (w:=w) (A:=A.in1) Q I l H items).toS;have X:s.TypeIs (.ref I) "list_reverseiterator":=j.typeIs;have key:∀(h:Heap)(c y:Nat),h.IsRevIter I l ((items.size:Int)-1-((0:Nat):Int))->h.IsList l items->(∀b o,b≠S->s.heap.get? b=some o->h.get? b=some o)->h.get? S=some {cls:=.type "list",data:=.seq #[] c}->codeAny (model prog w) A (.builtin "list.extend.loop" ⟨[.ref S,.ref I,res],[]⟩) R {s with heap:=h,toks:=y}:=by
  intro h c y Y M Z p;refine codeAny_extend_loopS W (by rw[sizeLine_eq];omega) S L res items.size 0 _ #[] c rfl (uR) ⟨uR,Y,M⟩ p (ItemsOf.nil _) λn a t hm N z=>?_;rw[Moved.eq_with hm];refine U n.heap n.toks a t (λb o B O e=>hm.heap b o (λhmem=>?_) (Z b o B e)) N z;rcases mem_cons.mp hmem with e'|hmem;.exact B e'
  .exact O (mem_singleton.mp hmem)
 unfold listExtendWith;refine wpAny_bind (wpAny_typeOf X ?_);have h1:listSameRef (.ref S) (.ref I)=false:=by simp[listSameRef,m]
 have h2:(Value.type "list_reverseiterator"==Value.type "list")=false:=by decide
 have h3:(Value.type "list_reverseiterator"==Value.type "tuple")=false:=by decide
 simp only[h1,h2,h3,Bool.or_false,false_eq_true,if_false];refine wpAny_bind (wpAny_pyIter_revIter j ?_);refine wpAny_bind (wpAny_holding (m8 j G u λbb y ac=>?_));have C:s.heap.IsRevIter I l ((items.size:Int)-1-((0:Nat):Int)):=by simpa using j
 refine wpAny_ite_split (λ_=>?_) (λ_=>wpAny_pure ⟨plainId_quiet F.plain_extend_loop _,key _ k _ C G (λb o _ e=>e) J⟩);refine wpAny_bind (wpAny_rule ?_);refine wpAny_bind ?_;show wpAny _ _ (updateSeq S (·.push .none)>>=λ_=>updateSeq S (·.pop)) _ _ _;refine wpAny_bind (wpAny_updateSeq J rfl ?_);have g:=Heap.get?_update_self (Obj.mapSeq (·.push Value.none)) J rfl;refine wpAny_updateSeq (hz:=by seq_fits) g rfl ?_;have q:=Heap.get?_update_self (Obj.mapSeq (·.pop)) g rfl;have r:∀b o,b≠S->s.heap.get? b=some o->((s.heap.update S (Obj.mapSeq (·.push Value.none))).update S (Obj.mapSeq (·.pop))).get? b=some o:=λb o B e=>(get?_update_other _ _ (Ne.symm B)).trans ((get?_update_other _ _ (Ne.symm B)).trans e);exact wpAny_pure ⟨plainId_quiet F.plain_extend_loop _,key _ _ _ (C.at λo e=>r I o (Ne.symm m) e) (G.at λo e=>r l o (Ne.symm x) e) r q⟩
end
end PySem
namespace L2
open PySem PySem.Spec PyProof.Rows
end L2
namespace HH
open PySem L2 PySem.Spec PyProof.Rows
end HH
end
section
namespace HH
open PySem
theorem j9:∀a b:List Int,bf a b=true->bf b a=false
 |[],[],h=>by simp[bf]at h|[],_::_,_=>by simp[bf]|_::_,[],h=>by simp[bf]at h|x::a,y::b,h=>by
   simp only[bf,or_eq_true,decide_eq_true_eq,and_eq_true]at h;simp only[bf,Bool.or_eq_false_iff,decide_eq_false_iff_not,Bool.and_eq_false_iff];rcases h with h|⟨h,h'⟩;.exact⟨by omega,.inl (by omega)⟩
   .exact⟨by omega,.inr (j9 a b h')⟩
theorem yE:∀a b c:List Int,bf b a=false->bf c b=false->bf c a=false
 |[],_,c,_,_=>by cases c<;>simp[bf]|_::_,[],_,h,_=>by simp[bf]at h|_::_,_::_,[],_,h=>by simp[bf]at h|x::a,y::b,z::c,h1,f=>by
   simp only[bf,Bool.or_eq_false_iff,decide_eq_false_iff_not,Bool.and_eq_false_iff]at h1 f ⊢;refine⟨by omega,?_⟩;by_cases e:z=x;.right;exact yE a b c (h1.2.resolve_left (by omega)) (f.2.resolve_left (by omega))
   .exact .inl e
theorem vU:∀a b:List Int,bf a b=false->bf b a=false->a=b
 |[],[],_,_=>rfl|[],_::_,h,_=>by simp[bf]at h|_::_,[],_,h=>by simp[bf]at h|x::a,y::b,h1,c=>by
   simp only[bf,Bool.or_eq_false_iff,decide_eq_false_iff_not,Bool.and_eq_false_iff]at h1 c;have e:x=y:=by omega
   subst e;rw[vU a b (h1.2.resolve_left (by simp)) (c.2.resolve_left (by simp))]
theorem vZ:∀{xs ys:List D},xs.all dM=true->ys.all dM=true->xs.map mF=ys.map mF->xs=ys
 |[],[],_,_,_=>rfl|[],_::_,_,_,h=>by simp at h|_::_,[],_,_,h=>by simp at h|x::xs,y::ys,h1,a,h=>by
   simp only[all_cons,and_eq_true]at h1 a;simp only[map_cons,List.cons.injEq]at h;obtain⟨i,rfl⟩:∃i,x=.int i:=by cases x<;>first|exact⟨_,rfl⟩|(have q:=h1.1;simp[dM]at q;done)
   obtain⟨j,rfl⟩:∃j,y=.int j:=by cases y<;>first|exact⟨_,rfl⟩|(have q:=a.1;simp[dM]at q;done)
   rw[vZ h1.2 a.2 h.2,show i=j from h.1]
theorem yW{x y:D}(h:(dM x=true/\dM y=true)\/(vW x=true/\vW y=true))(e:cP x=cP y):x=y:=by
 rcases h with⟨h1,a⟩|⟨h1,a⟩
 . cases x<;>first|(simp[dM]at h1;done)|skip
   cases y<;>first|(simp[dM]at a;done)|skip
   simpa[cP]using e
 . cases x<;>first|(simp[vW]at h1;done)|skip
   cases y<;>first|(simp[vW]at a;done)|skip
   rename_i xs ys;cases xs<;>first|(simp[vW]at h1;done)|skip
   cases ys<;>first|(simp[vW]at a;done)|skip
   rw[vZ h1 a e]
noncomputable def lq(a b:D):Bool:=!bf (cP b) (cP a)
theorem vP(ds:List D):(NK ds).Perm ds:=List.mergeSort_perm ..
theorem Jj(a b c:D)(h1:lq a b=true)(e:lq b c=true):lq a c=true:=by simp only[lq,not_eq_true']at*;exact yE _ _ _ h1 e
theorem Ht(a b:D):(lq a b||lq b a)=true:=by simp only[lq,or_eq_true,not_eq_true'];cases h:bf (cP b) (cP a)with|false=>exact .inl rfl|true=>exact .inr (j9 _ _ h)
theorem xH(ds:List D):(NK ds).Pairwise λa b=>lq a b=true:=List.pairwise_mergeSort Jj Ht ds
theorem tX{ds:List D}(h:sortable ds=true):∀x∈ds,∀y∈ds,cP x=cP y->x=y:=by
 simp only[sortable,and_eq_true,or_eq_true,all_eq_true]at h;intro x a y b e;rcases h.2 with h|h;.exact yW (.inl ⟨h x a,h y b⟩) e
 .exact yW (.inr ⟨h x a,h y b⟩) e
theorem pL{ds l:List D}(h:sortable ds=true)(p:l.Perm ds)(s:l.Pairwise λa b=>lq a b=true):l=NK ds:=by refine List.Perm.eq_of_pairwise (le:=λa b=>lq a b=true) (λa b e f h1 c=>?_) s (xH ds) (p.trans (vP ds).symm);simp only[lq,not_eq_true']at h1 c;exact tX h a (p.mem_iff.mp e) b ((vP ds).mem_iff.mp f) (vU _ _ c h1)
end HH
end
section
namespace HH
open PySem PyProof.Rows
variable{xs:Array Keyed}{i:Nat}
structure Rk(M:Model)(A:Around)(E:Value->Shared->Prop)(s:Shared)(κ:SortKind)(ok:Keyed->Prop)(K:Keyed->Int):Prop where lt:∀{x y:Keyed}{Q:Option Bool->SortSt->Prop}{st:SortSt},ok x->ok y->kindOf st=κ->Q (some (decide (K x<K y))) st->wpS M A E s (lt' x y) Q st
section
variable{M:Model}{A:Around}{E:Value->Shared->Prop}{s:Shared}{κ:SortKind}{ok:Keyed->Prop}{K:Keyed->Int}
noncomputable def it(xs:Array Keyed)(i:Nat):Keyed:=xs.getD i (Value.none,Value.none)
theorem Ky(h:i<xs.size):xs[i]?=some (it xs i):=by unfold it;simp[Array.getD,h]
theorem Gw(h:i<xs.size):it xs i∈xs.toList:=by
 have:it xs i=xs[i]:=by unfold it;simp[Array.getD,h]
 rw[this];simp
theorem zJ{Q:Keyed->SortSt->Prop}{st:SortSt}(h:i<xs.size)(q:Q (it xs i) st):wpS M A E s (elem' xs i) Q st:=by rw[elem'_eq,Ky h];exact wpS_pure q
end
section
variable{K:Keyed->Int}
def Seg(K:Keyed->Int)(xs:Array Keyed)(lo a:Nat):Prop:=∀i j,lo<=i->i<=j->j<a->K (it xs i)<=K (it xs j)
theorem Jg:it xs i=xs.toList.getD i (Value.none,Value.none):=by
 unfold it;by_cases h:i<xs.size;.simp[Array.getD,h]
 .simp[Array.getD,h]
end
section
variable{M:Model}{A:Around}{E:Value->Shared->Prop}{s:Shared}{κ:SortKind}{ok:Keyed->Prop}{K:Keyed->Int}
structure Sx(κ:SortKind)(ok:Keyed->Prop)(st:SortSt)(xs:Array Keyed)(st':SortSt):Prop where
 kind:kindOf st'=κ
 arr:arrOf st'=xs
 pend:pendingOf st'=pendingOf st
 fail:failedOf st'=none
 ok:∀x∈xs.toList,ok x
theorem Jv(R:Rk M A E s κ ok K){st a:SortSt}{j:Nat}{Q:Option Bool->SortSt->Prop}(h:Sx κ ok st xs a)(b:i<xs.size)(c:j<xs.size)(q:Q (some (decide (K (it xs i)<K (it xs j)))) a):wpS M A E s (ltAt' i j) Q a:=by rw[ltAt'_eq];refine wpS_bind (wpS_get ?_);show wpS M A E s (elem' (arrOf a) i>>=λx=>elem' (arrOf a) j>>=λy=>lt' x y) Q a;rw[h.arr];exact wpS_bind (zJ b (wpS_bind (zJ c (R.lt (h.ok _ (Gw b)) (h.ok _ (Gw c)) h.kind q))))
theorem Q9(R:Rk M A E s κ ok K){st g:SortSt}{lo a n:Nat}{Q:Option (Option Nat)×Nat->SortSt->Prop}(h:Sx κ ok st xs g)(u:lo+n<=xs.size)(v:1<=a)(l:a<=n)(hs:Seg K xs lo (lo+a))(q:∀m,a<=m->m<=n->Seg K xs lo (lo+m)->(m=n\/K (it xs (lo+m))<K (it xs (lo+m-1)))->Q (none,m) g):wpS M A E s (forIn [a:n] ((none,a):Option (Option Nat)×Nat) λ_ c=>ltAt' (lo+c.2) (lo+c.2-1)>>=λo=>match o with|some b=>if b=true then pure (.done (none,c.2))else pure (.yield (none,c.2+1))|_=>pure (.done (some none,c.2))) Q g:=by
 refine wpS_forRange (I:=λx c k=>k=g/\c=(none,x)/\Seg K xs lo (lo+x)) ?_ ?_ ⟨rfl,rfl,hs⟩
 . rintro x c k h1 w⟨rfl,rfl,f⟩;try dsimp only
   refine wpS_bind (Jv R h (by omega) (by omega) ?_);by_cases c:K (it xs (lo+x))<K (it xs (lo+x-1))
   . rw[decide_eq_true c];try dsimp only
     rw[if_pos rfl];exact wpS_pure (q x h1 (by omega) f (.inr c))
   . rw[decide_eq_false c];try dsimp only
     rw[if_neg (by simp)];refine wpS_pure ⟨rfl,rfl,λi j p r y=>?_⟩;by_cases t:j<lo+x;.exact f i j p r t
     . have:j=lo+x:=by omega
       subst this;by_cases e:i=lo+x;.rw[e];exact Int.le_refl _
       .have:=f i (lo+x-1) p (by omega) (by omega);omega
 .rintro c k⟨rfl,rfl,f⟩;rw[show max a n=n by omega]at f ⊢;exact q n l (dC) f (.inl rfl)
end
noncomputable abbrev Rn:=Nat×Nat×Nat
section
variable{K:Keyed->Int}{xs ys:Array Keyed}
def Xe(K:Keyed->Int)(xs:Array Keyed):Nat->List Rn->Nat->Prop|a,[],b=>a=b|a,r::l,b=>r.1=a/\1<=r.2.1/\Seg K xs a (a+r.2.1)/\Xe K xs (a+r.2.1) l b
theorem ux:∀{l k:List Rn}{a b:Nat},Xe K xs a (l++k) b↔∃m,Xe K xs a l m/\Xe K xs m k b
 |[],k,a,b=>⟨λh=>⟨a,rfl,h⟩,λ⟨m,h1,c⟩=>by cases(show a=m from h1);exact c⟩|r::l,k,a,b=>by
   rw[cons_append];constructor;.rintro⟨h1,c,e,f⟩;obtain⟨m,g,j⟩:=ux.mp f;exact⟨m,⟨h1,c,e,g⟩,j⟩
   .rintro⟨m,⟨h1,c,e,f⟩,g⟩;exact⟨h1,c,e,ux.mpr ⟨m,f,g⟩⟩
end
section
variable{M:Model}{A:Around}{E:Value->Shared->Prop}{s:Shared}{κ:SortKind}{ok:Keyed->Prop}{K:Keyed->Int}
structure SR(κ:SortKind)(ok:Keyed->Prop)(K:Keyed->Int)(x0 ys:Array Keyed)(l:List Rn)(lo:Nat)(st:SortSt):Prop where
 kind:kindOf st=κ
 arr:arrOf st=ys
 fail:failedOf st=none
 pend:(pendingOf st).toList=l
 perm:ys.toList.Perm x0.toList
 ok:∀x∈ys.toList,ok x
 rns:Xe K ys 0 l lo
 le:lo<=ys.size
theorem SR.sx{x0 ys:Array Keyed}{l:List Rn}{lo:Nat}{st:SortSt}(h:SR κ ok K x0 ys l lo st):Sx κ ok st ys st:=⟨h.kind,h.arr,rfl,h.fail,h.ok⟩
end
end HH
end
section
namespace HH
open PySem PySem.W PyProof.Rows PySem.Calls L2 PySem.Spec
theorem J9(a:List Int):bf a a=false:=by cases h:bf a a with|false=>rfl|true=>rw[j9 _ _ h]at h;cases h
theorem FW{a b x:List Int}(h:bf b a=false)(c:bf x a=true):bf x b=true:=by cases e:bf x b with|true=>rfl|false=>rw[yE _ _ _ h e]at c;cases c
theorem qQ{a:Type}{p q:a->Bool}(h:∀x,p x=true->q x=true):∀{l:List a},(∃x,x∈l/\q x=true/\p x=false)->l.countP p<l.countP q
 |[],⟨x,hx,_⟩=>by cases hx|y::l,⟨x,hx,h1,b⟩=>by
   rw[List.countP_cons,List.countP_cons];have m:=List.countP_mono_left (l:=l) (p:=p) (q:=q) λx _=>h x;rcases mem_cons.mp hx with rfl|hx;.rw[h1,b,if_pos rfl,if_neg (by simp)];omega
   .have:=qQ h ⟨x,hx,h1,b⟩;cases hp:p y with|true=>rw[h y hp];omega|false=>rw[if_neg (by simp)];omega
noncomputable def Ow(ds:List D)(d:D):Nat:=ds.countP λe=>bf (cP e) (cP d)
theorem Ep{ds:List D}{d e:D}(hd:d∈ds):decide ((Ow ds d:Int)<Ow ds e)=bf (cP d) (cP e):=by cases h:bf (cP d) (cP e)with|true=>have:=qQ (l:=ds) (p:=λx=>bf (cP x) (cP d)) (q:=λx=>bf (cP x) (cP e)) (λx a=>FW (j9 _ _ h) a) ⟨d,hd,h,J9 _⟩;rw[decide_eq_true_iff];unfold Ow;omega|false=>have:=List.countP_mono_left (l:=ds) (p:=λx=>bf (cP x) (cP e)) (q:=λx=>bf (cP x) (cP d)) λx _ a=>FW h a;rw[decide_eq_false_iff_not];unfold Ow;omega
open Classical in
noncomputable def ZF(P:Value->D->Prop)(ds:List D)(x:Keyed):Int:=if h:∃d,d∈ds/\P x.1 d then(Ow ds h.choose:Int)else 0
theorem zQ{P:Value->D->Prop}{ds:List D}{x:Keyed}{d:D}(fn:∀u d e,P u d->P u e->cP d=cP e)(hd:d∈ds)(a:P x.1 d):ZF P ds x=Ow ds d:=by have h:∃d,d∈ds/\P x.1 d:=⟨d,hd,a⟩;unfold ZF;rw[dif_pos h];unfold Ow;rw[fn _ _ _ h.choose_spec.2 a]
noncomputable def pick{a:Type}(d:a)(p:List Nat)(l:List a):List a:=p.map λi=>l.getD i d
theorem kW{a:Type}(d:a)(l:List a):pick d (List.range l.length) l=l:=by refine ext_getElem (by simp[pick]) λi h1 b=>?_;simp[pick,b]
theorem oH{a:Type}{d:a}{p:List Nat}{l:List a}{n:Nat}(h:p.Perm (List.range n)):(pick d p l).length=n:=by rw[pick,length_map,h.length_eq,length_range]
theorem jz{P:Value->D->Prop}:∀{a:List Value}{ds:List D},Paired P a ds->∀i,i<a.length->P (a.getD i .none) (ds.getD i .non)/\ds.getD i .non∈ds|_,_,.cons r _,0,_=>⟨by simpa using r,by simp⟩|_,_,.cons _ t,i+1,b=>by have:=jz t i (by simpa using b);exact⟨by simpa using this.1,by simpa using Or.inr this.2⟩
end HH
end
section
namespace HH
open PySem L2 PySem.Spec PyProof.Rows PySem.Calls PySem.W
section
variable{prog:Program}{w:World}{A:Around}{E:Value->Shared->Prop}{s:Shared}{vs:List Value}{κ:SortKind}{P:Value->D->Prop}{ds:List D}
theorem mX{b fin:Bool}{Q:Bool->Shared->Prop}:∀{xs ys:List Value}{is js:List Int}{i:Nat},IntsAre xs is->IntsAre ys js->fin=decide (is.length<js.length)->Q (bf is js) s->KatLex prog w A b fin Q (xs.zip ys) i s
 |_,_,_,_,_,.nil,.nil,e,h=>by subst e;exact kat_nil (by simpa[bf]using h)|_,_,_,_,_,.nil,.cons _ _ _,e,h=>by subst e;exact kat_nil (by simpa[bf]using h)|_,_,_,_,_,.cons _ _ _,.nil,e,h=>by subst e;exact kat_nil (by simpa[bf]using h)|_,_,_,_,i,.cons (ns:=is) x t r,.cons (ns:=js) y u r',e,h=>by
   refine kat_cons (wpAny_eqBool_int ?_);by_cases q:x=y;.subst q;rw[beq_self_eq_true];refine kat_yes (mX r r' (by rw[e];simp) ?_);simpa[bf]using h
   . rw[beq_eq_false_iff_ne.mpr q];refine kat_no ?_;have a:Q (decide (x<y)) s:=by simpa[bf,q]using h
     cases(b&&i==0)with|true=>exact oneLt_int a|false=>exact kat_one _ _ (wpAny_lt_int a)
def m7(h:Heap)(u:Value)(d:D):Prop:=∃a b is,u=.ref a/\IsTup h a (toArray b)/\IntsAre b is/\is≠[]/\cP d=is
theorem lU{h h':Heap}(k:∀b o,h.get? b=some o->h'.get? b=some o){u:Value}{d:D}(t:m7 h u d):m7 h' u d:=by obtain⟨a,c,is,e,⟨o,h1,f⟩,g⟩:=t;exact⟨a,c,is,e,⟨o,k _ _ h1,f⟩,g⟩
theorem rF{h h':Heap}(k:∀b o,h.get? b=some o->h'.get? b=some o):∀{a:List Value}{ds:List D},Paired (m7 h) a ds->Paired (m7 h') a ds|_,_,.nil=>.nil|_,_,.cons r t=>.cons (lU k r) (rF k t)
theorem mO{h:Heap}:∀{b:List Value}{ds:List D},Paired (m7 h) b ds->∃fs,KatTups h b fs/\fs.length=b.length/\∀f∈fs,∃n t,f=Value.int n t|_,_,.nil=>⟨[],trivial,rfl,by simp⟩|_,_,.cons r t=>by obtain⟨fs,h1,e,g⟩:=mO t;obtain⟨a,i,is,rfl,⟨o,j,k,n,l⟩,m,c,_⟩:=r;cases m with|nil=>exact absurd rfl c|cons x p q=>
     refine⟨.int x p::fs,KatTups.cons j k l (by simp) h1,by simp[e],λf hf=>?_⟩;rcases mem_cons.mp hf with rfl|hf;.exact⟨_,_,rfl⟩
     .exact g f hf
theorem Bj{ds:List D}(t:Paired (m7 s.heap) vs ds)(e:2<=vs.length){C:SortKind->Shared->Prop}(a:C (tuples' (Value.type "int"!=Value.type "tuple")) s):wpAny (model prog w) A (keyKind' vs.toArray) C E s:=by obtain⟨fs,h1,f,b⟩:=mO t;refine kat_kind (T:=.type "int") h1 (by omega) (λv c=>?_) rfl a;obtain⟨n,t,rfl⟩:=b v c;exact Looks.now
theorem Jd{x y:Value}{d e:D}(i:m7 s.heap x d)(j:m7 s.heap y e){b:Bool}{C:Bool->Shared->Prop}(c:C (bf (cP d) (cP e)) s):wpAny (model prog w) A (keyLt' (tuples' b) x y) C E s:=by obtain⟨a,k,is,rfl,⟨o,l,v,n,m⟩,f,p,q⟩:=i;obtain⟨z,its',js,rfl,⟨B,r,G,H,t⟩,g,h,u⟩:=j;refine kat_lt l m r t ?_;rw[q,u]at c;refine mX (is:=is) (js:=js) (by simpa using f) (by simpa using g) ?_ c;rw[size_toArray,size_toArray,IntsAre.length f,IntsAre.length g]
end
theorem Bo{xs:List V}{a:List Value}(h:Vals xs a)(i:Nat):RelV (xs.getD i .non) (a.getD i .none):=by
 have g:=h.length;by_cases b:i<xs.length
 . obtain⟨u,e,r⟩:=h.get (i:=i) (x:=xs[i]) (List.getElem?_eq_getElem b);have c:xs.getD i .non=xs[i]:=by simp[b]
   have f:a.getD i .none=u:=by simp[e]
   rw[c,f];exact r
 . have c:xs.getD i .non=.non:=by simp[Nat.le_of_not_lt b]
   have f:a.getD i .none=.none:=by simp[show a.length<=i by omega]
   rw[c,f];rfl
theorem vo{f:Nat->V}{g:Nat->Value}(h:∀i,RelV (f i) (g i)):∀l:List Nat,Vals (l.map f) (l.map g)|[]=>.nil|i::l=>.cons (h i) (vo h l)
theorem Ex{p:List Nat}{xs:List V}{a:List Value}(h:Vals xs a):Vals (pick .non p xs) (pick .none p a):=vo (Bo h) _
theorem vV{K:PySem.W.Frag}{F:Hp}{f:Nat->V}{g:Nat->D}(h:∀i,Rep K F (f i) (g i)):∀l:List Nat,aB K F (l.map f) (l.map g)|[]=>.nil|i::l=>.cons (h i) (vV h l)
theorem Dt{K:PySem.W.Frag}{F:Hp}{p:List Nat}{xs:List V}{ds:List D}(h:aB K F xs ds):aB K F (pick .non p xs) (pick .non p ds):=vV (λi=>by
 have f:=h.length;by_cases a:i<ds.length
 . obtain⟨u,e,r⟩:=h.get (i:=i) (d:=ds[i]) (List.getElem?_eq_getElem a);have b:ds.getD i .non=ds[i]:=by simp[a]
   have c:xs.getD i .non=u:=by simp[e]
   rw[b,c];exact r
 . have b:ds.getD i .non=.non:=by simp[Nat.le_of_not_lt a]
   have c:xs.getD i .non=.non:=by simp[show xs.length<=i by omega]
   rw[b,c,Rep]) _
theorem CW{a:List Value}:∀{ns b:List Int},IntsAre a ns->IntsAre a b->ns=b:=by induction a with|nil=>intro ns b h1 c;cases h1;cases c;rfl|cons u a e=>intro ns b h1 c;cases h1 with|cons n t r=>cases c with|cons m t' f=>rw[e r f]
theorem Kv{h:Heap}(u:Value)(d e:D):m7 h u d->m7 h u e->cP d=cP e:=λ⟨a,i,is,h1,⟨o,j,t,n,k⟩,l,_,p⟩⟨b,q,js,c,⟨v,f,w,m,g⟩,r,_,s⟩=>by rw[h1]at c;cases c;rw[j]at f;cases f;rw[k]at g;cases g;rw[p,s,CW l r]
theorem all_ints:∀{ds:List D},ds.all dM=true->ds=(ds.map mF).map D.int
 |[],_=>rfl|d::ds,h=>by
   simp only[all_cons,and_eq_true]at h;cases d<;>first|(have q:=h.1;simp[dM]at q;done)|skip
   rw[map_cons,map_cons,<-all_ints h.2];rfl
theorem intsAre_of:∀{ns:List Int}{a:List Value},Vals (ns.map V.int) a->IntsAre a ns|[],_,.nil=>.nil|n::ns,_,.cons r t=>by obtain⟨b,rfl⟩:=r;exact .cons n b (intsAre_of t)
section
variable{X:Cx}{c:Call}{a:Expr}{pa:P}{pos:Pos}
theorem boot_sorted:bootBuiltins "sorted"=some (.builtin "sorted"):=by decide+kernel
end
end HH
end
section
namespace HH
open PySem L2 PySem.Spec PyProof.Rows PySem.Calls
theorem yr(l b:Addr)(items a:List Value)(n I:Nat)(J o:Option Addr)(sl r:Array (Option Value))(is js:List Int)(G:IntsAre items is)(H:IntsAre a js):Meets (Builtin.«tuple.__lt__» ⟨[.ref l,.ref b],[]⟩) (λA R s=>s.heap.get? l=some {cls:=.type "tuple",dict:=J,data:=.seq items.toArray n,slots:=sl}/\s.heap.get? b=some {cls:=.type "tuple",dict:=o,data:=.seq a.toArray I,slots:=r}/\R (.ok (.ret (.bool (bf is js)))) s):=.of_wp λprog w A R s h=>by
  obtain⟨v,g,d,z,os⟩:=s;obtain⟨L,M,h⟩:=h;have f2:=AutoSeq1.sub_tuple_tuple;wp_walk using wpAny_loadPart' L,wpAny_loadPart' M,wpAny_forIn_list _ (λf b B=>b.1=none/\B=⟨v,g,d,z,os⟩/\∃xs ys c j,f=xs.zip ys/\IntsAre xs c/\IntsAre ys j/\decide (items.length<a.length)=decide (c.length<j.length)/\R (.ok (.ret (.bool (bf c j)))) ⟨v,g,d,z,os⟩) _;case turn=>rintro⟨y,x⟩f b B⟨i,rfl,xs,ys,c,j,hz,h1,k,C,m⟩;cases h1 with|nil=>cases hz|cons p t h1=>cases k with|nil=>cases hz|cons q u k=>
       injection hz with hyx hrest;cases hyx;refine wpAny_bind (wpAny_eqBool_int ?_);by_cases e:p=q;.subst e;rw[beq_self_eq_true];wp_walk;exact⟨rfl,rfl,_,_,_,_,hrest,h1,k,by rw[C];simp,by simpa[bf]using m⟩
       . rw[beq_eq_false_iff_ne.mpr e];have E:R (.ok (.ret (.bool (decide (p<q))))) ⟨v,g,d,z,os⟩:=by simpa[bf,e]using m
         simp only[Bool.not_false,if_true];refine wpAny_bind (wpAny_rule ?_);refine wpAny_bind (show wpAny (model prog w) A.in1 (compareOp .Lt (Value.int p t) (Value.int q u)) _ _ _ from wpAny_lt_int ?_);refine wpAny_bind (wpAny_pure ?_);exact wpAny_pure (wpAny_pure ⟨_,rfl,E⟩)
  case fin=>
   rintro⟨b1,b2⟩B⟨i,rfl,xs,ys,c,j,hz,h1,k,C,m⟩;simp only at i;subst i;have e:bf c j=decide (items.length<a.length):=by rw[C];cases h1 with|nil=>cases k<;>simp[bf]|cons _ _ _=>cases k with|nil=>simp[bf]|cons _ _ _=>cases hz
   rw[e]at m;wp_walk;exact⟨_,rfl,by simpa[Builtin.Tuple.tupleCompareSizes]using m⟩
  case h=>exact⟨rfl,rfl,items,a,is,js,by simp,G,H,by rw[IntsAre.length G,IntsAre.length H],h⟩
section
variable{X:Cx}
theorem uB(hu:X.A.units+8<cLine):eU X (compareOp .Lt) (rD X.K (nT .lt)):=by rintro f s σ H x y v u Q I G J⟨F,d,e,r,sm,L,M,he,k⟩;obtain⟨t,c,q⟩:=map_some (show(Xa d e).map _=some r from he);subst q;cases d with
 |int i=>cases e with|int j=>exact Py f s σ H x y v u Q I G J ⟨F,.int i,.int j,_,sm,L,M,by have q:Ih (λi j=>decide (i<j)) (.int i) (.int j)=some t:=c;simp only[q];rfl,k⟩|_=>cases c
 |tup xs=>cases e with|tup ys=>obtain⟨hc,c⟩:=aV (show(if(xs.all dM&&ys.all dM)=true then some (bf (xs.map mF) (ys.map mF))else none)=some t from c);rw[and_eq_true]at hc;obtain⟨a,vs,rfl,h1,N,_⟩:=L.tup sm;obtain⟨b,ws,rfl,Y,O,_⟩:=M.tup sm;cases G;cases J;obtain⟨z,U,it,_⟩:=I.tuple h1;obtain⟨g,h,B,_⟩:=I.tuple Y;rw[all_ints hc.1]at N;rw[all_ints hc.2]at O;rw[gn N]at U;rw[gn O]at h;have Z:=intsAre_of U;have i2:=intsAre_of h;obtain⟨⟨cls,dd,data,sl⟩,ho,l,n,hd⟩:=it;obtain⟨⟨W,C,data2,E⟩,m,o,n2,p⟩:=B;simp only at l hd o p;subst l hd o p;refine(show wpAny (model X.prog X.w) X.A (richCompare .Lt (.ref a) (.ref b)) _ _ s from richCompare_meets_room (op:=.Lt) ⟨_,ho,rfl⟩ ⟨_,m,rfl⟩ PySem.F.slot_tuple_lt PySem.F.entry_tuple_lt (PySem.F.args_tuple_lt_2 _ _) (yr a b z g n n2 dd C sl E _ _ Z i2) ⟨ho,m,show Value.bool _≠Value.notImplemented/\_ from⟨(λx=>nomatch x),⟨.bl t,H,I,by rw[<-c];rfl,bW.cM sm (fP _) k⟩⟩⟩ (by omega))|_=>cases c
 |_=>cases c
end
end HH
end
section
namespace L2
open PySem PySem.Spec PyProof.Rows
variable{y:V}{w:World}{H:Hp}{Q:Value->Shared->Prop}{pos:Pos}{X:Cx}
section
variable{κ:Type}[DecidableEq κ]
noncomputable def jb(kvs:List (κ×V))(k:κ):Option V:=(kvs.find? λa=>decide (a.1=k)).map (·.2)
noncomputable def putK(kvs:List (κ×V))(k:κ)(v:V):List (κ×V):=if(kvs.any λa=>decide (a.1=k))=true then kvs.map (λa=>if a.1=k then(a.1,v)else a)else kvs++[(k,v)]
theorem kJ{p:κ×V}{r:List (κ×V)}{k:κ}(e:p.1=k):jb (p::r) k=some p.2:=by simp[jb,find?_cons,e]
theorem lr{p:κ×V}{r:List (κ×V)}{k:κ}(e:¬ p.1=k):jb (p::r) k=jb r k:=by simp[jb,find?_cons,e]
theorem pN(k:κ):∀kvs:List (κ×V),(kvs.any λa=>decide (a.1=k))=(jb kvs k).isSome
 |[]=>rfl|p::r=>by
   rw[any_cons];by_cases e:p.1=k;.simp only[kJ e,decide_eq_true e,Bool.true_or,Option.isSome_some]
   .rw[lr e,decide_eq_false e,Bool.false_or];exact pN k r
theorem jk(kvs:List (κ×V))(k:κ)(v:V):(putK kvs k v).length<=kvs.length+1:=by
 unfold putK;split;.rw[length_map];omega
 .rw[length_append,length_cons,length_nil];omega
theorem ni.ig{o:Option V}{u:Option Value}(r:ni o u):o.isSome=u.isSome:=by cases o with
 |none=>cases u with|none=>rfl|some _=>exact(show False from r).elim
 |some _=>cases u with|none=>exact(show False from r).elim|some _=>rfl
theorem ni.getD{o:Option V}{u:Option Value}{d:V}{d':Value}(r:ni o u)(rd:RelV d d'):RelV (o.getD d) (u.getD d'):=by cases o with
 |none=>cases u with|none=>exact rd|some _=>exact(show False from r).elim
 |some _=>cases u with|none=>exact(show False from r).elim|some _=>exact r
theorem KV.val{kvs:List (κ×V)}{vs:List (κ×Value)}(r:KV kvs vs)(k:κ):ni (jb kvs k) (valueAt vs k):=by unfold KV at r;induction r with|nil=>exact True.intro|@cons p q ps a h t f=>
   obtain⟨h1,g⟩:=h;by_cases e:p.1=k
   . have c:q.1=k:=h1.symm.trans e;have b:valueAt (q::a) k=some q.2:=by simp[valueAt,find?_cons,c]
     rw[kJ e,b];exact g
   . have c:¬ q.1=k:=λz=>e (h1.trans z);have b:valueAt (q::a) k=valueAt a k:=by simp[valueAt,find?_cons,c]
     rw[lr e,b];exact f
theorem KV.any{kvs:List (κ×V)}{vs:List (κ×Value)}(r:KV kvs vs)(k:κ):(kvs.any λa=>decide (a.1=k))=vs.any λa=>decide (a.1=k):=by unfold KV at r;induction r with|nil=>rfl|cons h t b=>rw[any_cons,any_cons,b,h.1]
theorem KV.repl{kvs:List (κ×V)}{vs:List (κ×Value)}(r:KV kvs vs)(k:κ){u:Value}(b:RelV y u):KV (kvs.map λa=>if a.1=k then(a.1,y)else a) (vs.map λa=>if a.1=k then(a.1,u)else a):=by unfold KV at r ⊢;induction r with|nil=>exact .nil|@cons p q ps g h t c=>
   rw[map_cons,map_cons];refine .cons ?_ c;obtain⟨h1,f⟩:=h;by_cases e:p.1=k;.rw[if_pos e,if_pos (h1.symm.trans e)];exact⟨h1,b⟩
   .rw[if_neg e,if_neg (λz=>e (h1.trans z))];exact⟨h1,f⟩
theorem KV.put{kvs:List (κ×V)}{vs:List (κ×Value)}(r:KV kvs vs)(k:κ){u:Value}(a:RelV y u):KV (putK kvs k y) (stored vs k u):=by
 unfold putK stored;rw[r.any k];by_cases e:(vs.any λb=>decide (b.1=k))=true;.rw[if_pos e,if_pos e];exact r.repl k a
 .rw[if_neg e,if_neg e];exact Paired.snoc r ⟨rfl,a⟩
theorem KV.length{kvs:List (κ×V)}{vs:List (κ×Value)}(r:KV kvs vs):kvs.length=vs.length:=Paired.length r
end
theorem oM{P:Program}{k:Key}{u:Value}(r:RelV (kV k) u):(aR P w).is k u=true:=by cases k with|inl i=>obtain⟨t,e⟩:=(show ∃t,u=Value.int i t from r);subst e;exact wI P w i t|inr x=>obtain⟨t,e⟩:=(show ∃t,u=Value.str x t from r);subst e;exact v9 P w x t
theorem rY{P:Program}{w:World}:∀{ks:List Key}{a:List Value},Vals (ks.map kV) a->ItemsAre (aR P w) ks a|[],_,r=>by rw[map_nil]at r;cases r;exact .nil|k::ks,_,r=>by rw[map_cons]at r;cases r with|cons h t=>exact .cons (oM h) (rY t)
abbrev KT(H:Hp):List (List Key×V)->List (List Key×Addr×Value)->Prop:=Paired λp q=>p.1=q.1/\H q.2.1=some (.tup (p.1.map kV))/\RelV p.2 q.2.2
theorem KT.val{kvs:List (List Key×V)}{xs:List (List Key×Addr×Value)}(r:KT H kvs xs)(k:List Key):ni (jb kvs k) ((atKey xs k).map (·.2)):=by induction r with|nil=>exact True.intro|@cons p q ps a h t f=>
   obtain⟨h1,_,g⟩:=h;by_cases e:p.1=k
   . have c:q.1=k:=h1.symm.trans e;have b:atKey (q::a) k=some q.2:=by simp[atKey,find?_cons,c]
     rw[kJ e,b];exact g
   . have c:¬ q.1=k:=λz=>e (h1.trans z);have b:atKey (q::a) k=atKey a k:=by simp[atKey,find?_cons,c]
     rw[lr e,b];exact f
theorem KT.repl{kvs:List (List Key×V)}{xs:List (List Key×Addr×Value)}(r:KT H kvs xs)(k:List Key){u:Value}(c:RelV y u):KT H (kvs.map λa=>if a.1=k then(a.1,y)else a) (xs.map (putAt k u)):=by induction r with|nil=>exact .nil|@cons p q ps i h t f=>
   rw[map_cons,map_cons];refine .cons ?_ f;obtain⟨h1,b,g⟩:=h;unfold putAt;by_cases e:p.1=k;.rw[if_pos e,if_pos (h1.symm.trans e)];exact⟨h1,b,c⟩
   .rw[if_neg e,if_neg (λz=>e (h1.trans z))];exact⟨h1,b,g⟩
theorem KT.put{kvs:List (List Key×V)}{xs:List (List Key×Addr×Value)}(r:KT H kvs xs)(k:List Key){b:Addr}{u:Value}(c:H b=some (.tup (k.map kV)))(a:RelV y u):KT H (putK kvs k y) (storedH xs k b u):=by
 have e:(kvs.any λf=>decide (f.1=k))=(atKey xs k).isSome:=by rw[pN,(r.val k).ig,isSome_map]
 unfold putK storedH;rw[e];by_cases q:(atKey xs k).isSome=true;.rw[if_pos q,if_pos q];exact r.repl k a
 .rw[if_neg q,if_neg q];exact Paired.snoc r ⟨rfl,c,a⟩
theorem KT.keeps{H':Hp}{kvs:List (List Key×V)}{xs:List (List Key×Addr×Value)}(r:KT H kvs xs)(ht:∀b ys,H b=some (.tup ys)->H' b=some (.tup ys)):KT H' kvs xs:=Paired.R3 r λ_ _ z=>⟨z.1,ht _ _ z.2.1,z.2.2⟩
section
variable{P:Program}{w:World}{H:Hp}{h:Heap}{a:Addr}
theorem Nf{u:HO}(ok:jF P w H h)(e:Rd H a u):aY P w H h a u:=e.ok ok
theorem o8{kvs:List (Key×V)}(ok:jF P w H h)(e:Rd H a (.dK kvs)):kvs.length<=sizeLine/\(a==sysModules)=false/\∃vs,KV kvs vs/\h.DictOf (aR P w) a vs:=show aY P w H h a (.dK kvs)from Nf ok e
theorem MK{kvs:List (Key×V)}(ok:jF P w H h)(e:H a=some (.dK kvs)):kvs.length<=sizeLine/\(a==sysModules)=false/\∃vs,KV kvs vs/\h.DictOf (aR P w) a vs:=o8 ok (.inl e)
theorem lZ{ks:List Key}(ok:jF P w H h)(e:H a=some (.tup (ks.map kV))):(tupleKind (aR P w)).is h ks a:=by obtain⟨_,b,r,o,h1,c,n,f⟩:=(show aY P w H h a (.tup (ks.map kV))from ok a _ e);exact⟨o,b.toArray,n,h1,c,f,by simpa using rY r⟩
theorem o9{kvs:List (List Key×V)}(ok:jF P w H h)(e:Rd H a (.dT kvs)):kvs.length<=sizeLine/\(a==sysModules)=false/\∃xs,KT H kvs xs/\h.DictOfH (tupleKind (aR P w)) a xs:=by
 obtain⟨z,y,xs,r,o,es,ep,h1,c,f,g,i⟩:=(show aY P w H h a (.dT kvs)from Nf ok e);refine⟨z,y,xs,r,o,es,ep,h1,c,f,g,λx hx=>?_,i⟩;have all:∀{l:List (List Key×V)}{m:List (List Key×Addr×Value)},KT H l m->∀x∈m,(tupleKind (aR P w)).is h x.1 x.2.1:=by intro l m q;induction q with|nil=>intro x hx;exact nomatch hx|@cons p q ps k b t j=>
    intro x hx;rcases mem_cons.mp hx with e|hx;.subst e;exact lZ ok (by rw[<-b.1];exact b.2.1)
    .exact j x hx
 exact all r x hx
theorem Xw{kvs:List (List Key×V)}(ok:jF P w H h)(e:H a=some (.dT kvs)):kvs.length<=sizeLine/\(a==sysModules)=false/\∃xs,KT H kvs xs/\h.DictOfH (tupleKind (aR P w)) a xs:=o9 ok (.inl e)
end
def mj(H:Hp)(a:Addr)(y:V)(r:Option V):Prop:=(∃kvs k,Rd H a (.dK kvs)/\y=kV k/\r=jb kvs k)\/∃kvs k b,Rd H a (.dT kvs)/\y=.ref b/\H b=some (.tup (k.map kV))/\r=jb kvs k
def WN(H:Hp)(a:Addr)(y v:V)(H':Hp):Prop:=(∃kvs k,H a=some (.dK kvs)/\y=kV k/\kvs.length<sizeLine/\H'=upd H a (.dK (putK kvs k v)))\/∃kvs k b,H a=some (.dT kvs)/\y=.ref b/\H b=some (.tup (k.map kV))/\kvs.length<sizeLine/\H'=upd H a (.dT (putK kvs k v))
section
variable{X:Cx}{pins:List (Addr×Obj)}{σ:St}{H:Hp}{s:Shared}{a:Addr}{y v:V}{u r:Value}{o:Option V}{A:Around}{E:Value->Shared->Prop}
theorem Inv.big(I:Inv X pins σ H s):sysModules<s.heap.objs.size:=by have h:mainGlobals<s.heap.objs.size:=(I.mod.glob.keeps I.bk).lt;exact Nat.lt_trans (by decide) h
theorem mC(B:A.units+1<cLine)(I:Inv X pins σ H s)(g:mj H a y (some v))(t:RelV y u)(h:∀f x,Inv X pins σ H x->RelV v f->Q f x):wpAny (model X.prog X.w) A (getItem (.ref a) u) Q E s:=by
 rcases g with⟨kvs,k,e,i,l⟩|⟨kvs,k,b,e,i,C,l⟩;.subst i;obtain⟨z,hd,vs,c,j⟩:=o8 I.hok e;obtain⟨f,m,n⟩:=ni.some_of (v:=v) (o:=valueAt vs k) (by rw[l];exact c.val k);exact wpAny_getItem_of (oM t) j.mapOf m (h f _ (I.tok _) n)
 .subst i;cases(show u=Value.ref b from t);obtain⟨z,hd,xs,c,j⟩:=o9 I.hok e;obtain⟨f,m,n⟩:=ni.some_of (v:=v) (o:=(atKey xs k).map (·.2)) (by rw[l];exact c.val k);obtain⟨p,G,q⟩:=map_eq_some_iff.mp m;refine wpAny_getItem_heap (tupleKind_room_in1 B) (lZ I.hok C) j G ?_;rw[q];exact h f _ (I.tok _) n
theorem We(n:A.units+1<cLine)(I:Inv X pins σ H s)(g:mj H a y o)(j:RelV y u)(h:∀m,Inv X pins σ H m->Q (.bool o.isSome) m):wpAny (model X.prog X.w) A (compareOp .In u (.ref a)) Q E s:=by
 rcases g with⟨kvs,k,e,f,l⟩|⟨kvs,k,b,e,f,p,l⟩;.subst f;obtain⟨z,hd,vs,c,i⟩:=o8 I.hok e;refine wpAny_in_of (oM j) hd i.mapOf ?_;rw[<-(c.val k).ig,<-l];exact h _ (I.tok _)
 .subst f;cases(show u=Value.ref b from j);obtain⟨z,hd,xs,c,i⟩:=o9 I.hok e;refine wpAny_in_heap (tupleKind_room_in1 n) (lZ I.hok p) hd i ?_;have q:=(c.val k).ig;rw[isSome_map]at q;rw[<-q,<-l];exact h _ (I.tok _)
theorem yS(n:A.units+1<cLine)(I:Inv X pins σ H s)(g:mj H a y o)(j:RelV y u)(h:∀m,Inv X pins σ H m->Q (.bool (!o.isSome)) m):wpAny (model X.prog X.w) A (compareOp .NotIn u (.ref a)) Q E s:=by
 rcases g with⟨kvs,k,e,f,l⟩|⟨kvs,k,b,e,f,p,l⟩;.subst f;obtain⟨z,hd,vs,c,i⟩:=o8 I.hok e;refine wpAny_notIn_of (oM j) hd i.mapOf ?_;rw[<-(c.val k).ig,<-l];exact h _ (I.tok _)
 .subst f;cases(show u=Value.ref b from j);obtain⟨z,hd,xs,c,i⟩:=o9 I.hok e;refine wpAny_notIn_heap (tupleKind_room_in1 n) (lZ I.hok p) hd i ?_;have q:=(c.val k).ig;rw[isSome_map]at q;rw[<-q,<-l];exact h _ (I.tok _)
theorem uL{h':Heap}{t':Nat}{c:HO}(I:Inv X pins σ H s)(f:XR (H a))(hs:SameBut a s.heap h')(he:∃q,h'.get? a=some q)(new:aY X.prog X.w (upd H a c) h' a c):Inv X pins σ (upd H a c) {s with heap:=h',toks:=t'}:=I.write (x:=a) (e:=a) f (.inl rfl) (λb q g z=>(hs.2 b g).trans z) he new
theorem Dr{P:Program}{H':Hp}{h':Heap}{kvs:List (Key×V)}{vs:List (Key×Value)}(z:kvs.length<=sizeLine)(hd:(a==sysModules)=false)(b:KV kvs vs)(c:h'.DictOf (aR P w) a vs):aY P w H' h' a (.dK kvs):=⟨z,hd,vs,b,c⟩
theorem Bl{H':Hp}{Q:Unit->Shared->Prop}(L:A.units+1<cLine)(I:Inv X pins σ H s)(g:WN H a y v H')(x:RelV y u)(B:RelV v r)(h:∀C,Inv X pins σ H' C->Q () C):wpAny (model X.prog X.w) A (setItem (.ref a) u r) Q E s:=by
 rcases g with⟨kvs,k,e,m,l,n⟩|⟨kvs,k,b,e,m,G,l,n⟩
 . subst m n;obtain⟨z,hd,vs,f,p⟩:=MK I.hok e;have hz:vs.length<=sizeLine:=by rw[<-f.length];exact z
   have t:(putK kvs k v).length<=sizeLine:=by have:=jk kvs k v;omega
   refine wpAny_setItem_pairs (hsz:=hz) (oM x) p λh' i hs=>h _ ?_;have he:∃q,h'.get? a=some q:=let⟨q,_,_,j,_⟩:=i;⟨q,j⟩;exact uL I (by rw[e];exact True.intro) hs he (Dr t hd (f.put k B) i)
 . subst m n;cases(show u=Value.ref b from x);obtain⟨z,hd,xs,f,p⟩:=Xw I.hok e;have hz:xs.length<=sizeLine:=by rw[<-Paired.length f];exact z
   have t:(putK kvs k v).length<=sizeLine:=by have:=jk kvs k v;omega
   refine wpAny_setItem_heap (hsz:=hz) (tupleKind_room_in1 L) (lZ I.hok G) p λh' i hs=>h _ ?_;obtain⟨q,es,ep,j,M,N,O,_,U⟩:=i;refine uL I (by rw[e];exact True.intro) hs ⟨q,j⟩ ⟨t,hd,_,(f.put k G B).keeps λc ys J=>?_,q,es,ep,j,M,N,O,U⟩;rw[ao (WY J e (λz=>nomatch z))];exact J
end
def Kw(i:Expr):Prop:=∀a iv,subscripted i false a iv=operate [a,iv] (getItem a iv)
theorem zb{prog:Program}{A:Around}{E:Value->Shared->Prop}{s:Shared}{env:Env}{a slice:Expr}{T id:String}(l:typeLookup (.type T) "__getitem__"=pure (some (.builtin id)))(hs:Kw slice)(h:wpAny (model prog w) A (eval a env) (λo e=>wpAny (model prog w) A (eval slice env) (λi b=>b.TypeIs o T/\wpAny (model prog w) A (getItem o i) Q E b) E e) E s):wpAny (model prog w) A (eval (.Subscript a slice pos) env) Q E s:=by
 refine Subscript_ (wpAny_mono h (λo e g=>wpAny_mono g (λi b c=>?_) λ_ _ x=>x) λ_ _ x=>x);obtain⟨k,c⟩:=c;unfold subscriptTail;refine wpAny_bind ?_;rw[getitemInPython_of_ne k.not_modules];refine wpAny_bind (wpAny_specialOf k l ?_);have fin:wpAny (model prog w) A (subscripted slice false o i) (λr f=>wpAny (model prog w) A (letTemporaryGo a o r>>=λ_=>pure r) Q E f) E b:=by rw[hs o i];exact wpAny_operating (wpAny_mono c (λr f j=>wpAny_bind (wpAny_letTemporaryGo (wpAny_pure j))) λ_ _ x=>x)
 first|exact wpAny_pure (wpAny_bind fin)|exact wpAny_bind (wpAny_pure (wpAny_bind fin))|exact wpAny_bind fin
theorem jo{c:List (Addr×Obj)}{σ:St}{s:Shared}{a:Addr}{o:Option V}(I:Inv X c σ H s)(g:mj H a y o):s.TypeIs (.ref a) "dict":=by
 rcases g with⟨kvs,k,e,_,_⟩|⟨kvs,k,b,e,_,_,_⟩;.obtain⟨_,_,vs,_,f⟩:=o8 I.hok e;exact f.typeIs
 .obtain⟨_,_,xs,_,f⟩:=o9 I.hok e;exact f.typeIs
def Xf(c ty:TE):TE:=λσ H Q=>c σ H λx e=>ty σ e λy b=>∃a v,x=.ref a/\mj b a y (some v)/\Q v b
def ab7(ty c:TE):TE:=λσ H Q=>ty σ H λy e=>c σ e λx b=>∃a o,x=.ref a/\mj b a y o/\Q (.bl o.isSome) b
def JX(ty c:TE):TE:=λσ H Q=>ty σ H λy e=>c σ e λx b=>∃a o,x=.ref a/\mj b a y o/\Q (.bl (!o.isSome)) b
def Vt(c ty e:TE):TS:=λD σ H=>e σ H λv f=>c σ f λx g=>ty σ g λy h=>∃a b,x=.ref a/\WN h a y v b/\D.nx σ b
section
variable{X:Cx}{o i e value:Expr}{pos pos' tpos:Pos}{td ty tv:TE}
theorem Kq(c:X.A.units+1<cLine)(ho:PE X o td)(f:PE X i ty)(hs:Kw i):PE X (.Subscript o i pos) (Xf td ty):=by intro b s σ H Q I h;refine zb PySem.F.slot_dict_getitem.lookup hs (bU (ho b s σ H _ I h) λu s1⟨x,H1,I1,rx,q1⟩=>bU (f b s1 σ H1 _ I1 q1) λiv s2⟨y,H2,I2,ry,a,v,ex,g,q2⟩=>?_);subst ex;obtain rfl:u=Value.ref a:=rx;exact⟨jo I2 g,mC c I2 g ry λl s3 j k=>⟨v,H2,j,k,q2⟩⟩
theorem RZ(c:X.A.units+1<cLine)(f:PE X i ty)(ho:PE X o td):PC X .In i o (ab7 ty td):=by intro b s σ H Q I h;refine bU (f b s σ H _ I h) λiv s1⟨y,H1,I1,ry,q1⟩=>bU (ho b s1 σ H1 _ I1 q1) λu s2⟨x,H2,I2,rx,a,ov,ex,g,q2⟩=>?_;subst ex;obtain rfl:u=Value.ref a:=rx;exact We c I2 g ry λs3 j=>⟨.bl ov.isSome,H2,j,rfl,q2⟩
theorem BR(c:X.A.units+1<cLine)(f:PE X i ty)(ho:PE X o td):PC X .NotIn i o (JX ty td):=by intro b s σ H Q I h;refine bU (f b s σ H _ I h) λiv s1⟨y,H1,I1,ry,q1⟩=>bU (ho b s1 σ H1 _ I1 q1) λu s2⟨x,H2,I2,rx,a,ov,ex,g,q2⟩=>?_;subst ex;obtain rfl:u=Value.ref a:=rx;exact yS c I2 g ry λs3 j=>⟨.bl (!ov.isSome),H2,j,rfl,q2⟩
theorem zr(c:X.A.units+1<cLine)(ho:PE X o td)(f:PE X i ty)(j:PE X value tv)(hs:swapsWith value (some (.Subscript o i pos')) pos.line X.env=pure false):PS X (.Assign [.Subscript o i pos'] value pos) (Vt td ty tv):=by intro b s σ H D I h;refine wpAny_Assign_Subscript (bU (j b s σ H _ I h) λr s1⟨v,H1,I1,rv,q1⟩=>bU (ho b s1 σ H1 _ I1 q1) λu s2⟨x,H2,I2,rx,q2⟩=>bU (f b s2 σ H2 _ I2 q2) λiv s3⟨y,H3,I3,ry,a,H4,ex,g,q3⟩=>?_) hs;subst ex;obtain rfl:u=Value.ref a:=rx;exact Bl c I3 g ry rv λs4 k=>⟨σ,H4,k,q3⟩
end
theorem u6{P:Program}(h:Heap)(a:sysModules<h.objs.size):aY P w H (h.push {cls:=.type "dict",data:=.dict #[]}) h.objs.size (.dK []):=⟨uR,beq_eq_false_iff_ne.mpr (Ne.symm (ne_of_lt a)),[],.nil,Heap.DictOf.new h⟩
def Rm:TE:=λ_ H Q=>∀p,H p=none->Q (.ref p) (upd H p (.dK []))
section
variable{X:Cx}{pos:Pos}
theorem vD:PE X (.Dict [] [] pos) Rm:=λb s σ H Q I h=>wpAny_Dict_empty ⟨.ref s.heap.objs.size,_,I.laid (a:=s.heap.objs.size) (o:=.dK []) (t':=s.toks) (λ_ _ q=>gW q) (dC) (u6 s.heap I.big),rfl,h _ (I.hok.fresh (dC))⟩
end
def xx:List (TE×TE)->St->Hp->(List (V×V)->Hp->Prop)->Prop|[],_,H,Q=>Q [] H|(a,b)::r,σ,H,Q=>a σ H λx c=>b σ c λy e=>xx r σ e λps f=>Q ((x,y)::ps) f
abbrev VV:List (V×V)->List (Value×Value)->Prop:=Paired λp q=>RelV p.1 q.1/\RelV p.2 q.2
def PPs(X:Cx)(pos:Pos)(keys:List (Option Expr))(a:List Expr)(c:List (TE×TE)):Prop:=∀(b:List (Addr × Obj))(s:Shared)(σ:St)(H:Hp)(Q:List (V × V)->Hp->Prop),Inv X b σ H s->xx c σ H Q->wpAny (model X.prog X.w) X.A (evalPairs (pairTrees keys a X.env pos)) (λvs e=>∃ps H',Inv X b σ H' e/\VV ps vs/\Q ps H') X.xe s
theorem K4:PPs X pos [] [] []:=λa s σ H Q I h=>pairTrees_nil_walk ⟨[],H,I,.nil,h⟩
theorem Dk{k v:Expr}{ks:List (Option Expr)}{vs:List Expr}{b c:TE}{e:List (TE×TE)}(f:PE X k b)(g:PE X v c)(hr:PPs X pos ks vs e):PPs X pos (some k::ks) (v::vs) ((b,c)::e):=λa s σ H Q I h=>pairTrees_cons_walk (bU (f a s σ H _ I h) λu s1⟨x,H1,I1,rx,q1⟩=>bU (g a s1 σ H1 _ I1 q1) λi s2⟨y,H2,I2,ry,q2⟩=>bU (hr a s2 σ H2 _ I2 q2) λws s3⟨ps,H3,I3,rel,q3⟩=>⟨(x,y)::ps,H3,I3,.cons ⟨rx,ry⟩ rel,q3⟩)
noncomputable def lG(kvs more:List (Key×V)):List (Key×V):=more.foldl (λa b=>putK a b.1 b.2) kvs
theorem KV.merge:∀{more:List (Key×V)}{a:List (Key×Value)}{kvs:List (Key×V)}{vs:List (Key×Value)},KV more a->KV kvs vs->KV (lG kvs more) (merged vs a):=by intro more a kvs vs r;unfold KV at r;induction r generalizing kvs vs with|nil=>intro q;exact q|@cons p q ps c h t b=>
   intro r0;have e:KV (putK kvs p.1 p.2) (stored vs q.1 q.2):=by have:=r0.put p.1 h.2;rw[<-h.1];exact this
   exact b e
theorem jM:∀(more kvs:List (Key×V)),(lG kvs more).length<=kvs.length+more.length|[],kvs=>by show kvs.length<=kvs.length+0;omega|p::r,kvs=>by have h1:=jM r (putK kvs p.1 p.2);have a:=jk kvs p.1 p.2;show(lG (putK kvs p.1 p.2) r).length<=_;rw[length_cons];omega
theorem pP{P:Program}{w:World}:∀{kvs:List (Key×V)}{ws:List (Value×Value)},VV (kvs.map λf=>(kV f.1,f.2)) ws->∃e,Carries (aR P w) ws e/\KV kvs e|[],_,r=>by rw[map_nil]at r;cases r;exact⟨[],True.intro,.nil⟩|p::kvs,_,r=>by rw[map_cons]at r;cases r with|@cons a b as bs h t=>obtain⟨e,c,q⟩:=pP (P:=P) (w:=w) t;obtain⟨b1,b2⟩:=b;exact⟨(p.1,b2)::e,⟨oM h.1,rfl,c⟩,.cons ⟨rfl,h.2⟩ q⟩
def Xo(c:List (TE×TE)):TE:=λσ H Q=>∀p,H p=none->xx c σ (upd H p (.dK [])) λps a=>a p=some (.dK [])/\∃kvs:List (Key×V),ps=kvs.map (λb=>(kV b.1,b.2))/\kvs.length<=15/\Q (.ref p) (upd a p (.dK (lG [] kvs)))
theorem K1{keys:List (Option Expr)}{b:List Expr}{j:List (TE×TE)}(h:PPs X pos keys b j)(f:keys.all (·.isSome)=true)(l:keys.length=b.length)(h0:keys≠[])(i:keys.length<=15):PE X (.Dict keys b pos) (Xo j):=by
 intro g s σ H Q I q;have m:=I.hok.fresh (le_refl s.heap.objs.size);have n:=I.laid (a:=s.heap.objs.size) (o:=.dK []) (h':=s.heap.push {cls:=.type "dict",data:=.dict #[]}) (t':=s.toks) (λ_ _ q=>gW q) (dC) (u6 s.heap I.big);refine wpAny_Dict_walk (knd:=aR X.prog X.w) f l h0 i (bU (h g _ σ _ _ n (q _ m)) λws s2⟨ps,H2,I2,rel,e,kvs,ep,lk,q2⟩=>?_);subst ep;obtain⟨p,c,r⟩:=pP (P:=X.prog) (w:=X.w) rel;obtain⟨z,hd,t,r0,u⟩:=MK I2.hok e;cases r0;refine⟨p,c,u,λh' k hs=>⟨.ref s.heap.objs.size,_,?_,rfl,q2⟩⟩;have hz:(lG [] kvs).length<=sizeLine:=by have h1:=jM kvs [];rw[length_nil]at h1;rw[sizeLine_eq];omega
 have he:∃q,h'.get? s.heap.objs.size=some q:=let⟨q,_,_,hq,_⟩:=k;⟨q,hq⟩;exact uL I2 (by rw[e];exact True.intro) hs he (Dr hz hd (r.merge .nil) k)
structure M2(X:Cx)(o:Expr)(m:Str)(apos:Pos)(e f:Expr)(cpos:Pos):Prop where
 base:attributeBase o m X.env (eval o X.env)=eval o X.env
 few:((backTo cpos (starEach [e,f] X.env)).all (λx=>!x.1)&&(backToKw cpos (keywordEach [] X.env)).all (λx=>x.1.isSome)&&decide (([e,f]:List Expr).length+([]:List Keyword).length+(if([]:List Keyword).isEmpty then 0 else 1)<30))=true
 line:(apos.endLine==cpos.line)=true
 trees:backTo cpos (starEach [e,f] X.env)=[(false,eval e X.env),(false,eval f X.env)]
def IsD(H:Hp)(a:Addr):Prop:=(∃kvs,Rd H a (.dK kvs))\/∃kvs,Rd H a (.dT kvs)
theorem Rx{f:List (Addr×Obj)}{σ:St}{s:Shared}{a:Addr}(I:Inv X f σ H s)(d:IsD H a):s.TypeIs (.ref a) "dict"/\(∀b,Value.ref a=.ref b->∃c,s.heap.get? b=some c/\c.dict=none)/\(a==sysModules)=false:=by
 rcases d with⟨kvs,e⟩|⟨kvs,e⟩;.obtain⟨_,hd,vs,_,g⟩:=o8 I.hok e;refine⟨g.typeIs,λb q=>?_,hd⟩;cases q;obtain⟨c,_,_,h1,h,_⟩:=g;exact⟨c,h1,h.2.1⟩
 .obtain⟨_,hd,xs,_,g⟩:=o9 I.hok e;refine⟨g.typeIs,λb q=>?_,hd⟩;cases q;obtain⟨c,_,_,h1,h,_⟩:=g;exact⟨c,h1,h.2.1⟩
section
variable{X:Cx}{pins:List (Addr×Obj)}{σ:St}{H:Hp}{s:Shared}{a:Addr}{y d:V}{u r:Value}{o:Option V}{A:Around}{E:Value->Shared->Prop}
theorem QK(p:A.units+1<cLine)(I:Inv X pins σ H s)(g:mj H a y o)(j:RelV y u)(rd:RelV d r)(h:∀m n,Inv X pins σ H n->RelV (o.getD d) m->Q m n):wpAny (model X.prog X.w) A (call (.builtin "dict.get") [.ref a,u,r]) Q E s:=by
 rcases g with⟨kvs,k,e,i,l⟩|⟨kvs,k,b,e,i,q,l⟩;.subst i;obtain⟨z,hd,vs,c,f⟩:=o8 I.hok e;refine call_meetsIn slot_dict_get f.typeIs PySem.F.entry_dict_get (PySem.F.args_dict_get_3 _ _ _) (meets_dict_get_default (aR X.prog X.w) a (oM j) hd r) ⟨_,f.mapOf,h _ _ (I.tok _) ?_⟩;rw[l];exact(c.val k).getD rd
 .subst i;cases(show u=Value.ref b from j);obtain⟨z,hd,xs,c,f⟩:=o9 I.hok e;refine call_meetsIn slot_dict_get f.typeIs PySem.F.entry_dict_get (PySem.F.args_dict_get_3 _ _ _) (meetsH_dict_get_default (tupleKind (aR X.prog X.w)) a b hd r) ⟨tupleKind_room_in1 p,k,xs,lZ I.hok q,f,h _ _ (I.tok _) ?_⟩;rw[l];exact(c.val k).getD rd
end
def Qg(e ty f:TE):TE:=λσ H Q=>e σ H λx b=>∃a,x=.ref a/\IsD b a/\ty σ b λy g=>f σ g λz c=>∃o,mj c a y o/\Q (o.getD z) c
section
variable{X:Cx}{o e f:Expr}{apos cpos:Pos}{td ty tx:TE}
theorem Gh(c:X.A.units+1<cLine)(ho:PE X o td)(he:PE X e ty)(i:PE X f tx)(m:M2 X o "get" apos e f cpos):PE X (.Call (.Attribute o "get" apos) [e,f] [] cpos) (Qg td ty tx):=by intro b s σ H Q I h;refine wpAny_Call_method m.base m.few m.line PySem.F.plainAttrs_dict slot_dict_get PySem.F.type_dict_get (bU (ho b s σ H _ I h) λu s1⟨x,H1,I1,rx,a,ex,d,q1⟩=>?_);subst ex;obtain rfl:u=Value.ref a:=rx;obtain⟨t1,j,_⟩:=Rx I1 d;refine⟨t1,j,?_⟩;rw[m.trees];refine Calls.callWith_builtin rfl (Calls.evalArgs_plain (Calls.spliced_cons (bU (he b s1 σ H1 _ I1 q1) λiv s2⟨y,H2,I2,ry,q2⟩=>Calls.spliced_cons (bU (i b s2 σ H2 _ I2 q2) λn s3⟨z,H3,I3,rz,ov,g,q3⟩=>Calls.spliced_nil ?_))));exact QK c I3 g ry rz λp s4 k l=>⟨_,H3,k,l,q3⟩
end
end L2
namespace Att
open PySem PySem.W PySem.Calls PyProof.Rows
end Att
namespace L2
open PySem PySem.Spec PyProof.Rows
end L2
end
section
namespace HH
open PySem L2 PySem.Spec PyProof.Rows
variable{kvs:List (Int×D)}{es:List (Key×V)}{k:Int}{i:Nat}
inductive KR(K:PySem.W.Frag)(F:Hp):List (Int×D)->List (Key×V)->Prop where|nil:KR K F [] []|cons{k:Int}{d:D}{v:V}{kvs:List (Int×D)}{es:List (Key×V)}(h:Rep K F v d)(t:KR K F kvs es):KR K F ((k,d)::kvs) ((Sum.inl k,v)::es)
section
variable{K:PySem.W.Frag}{F F':Hp}
noncomputable def ent(ks:List Int)(vs:List V):List (Key×V):=(ks.zip vs).map λp=>(Sum.inl p.1,p.2)
theorem KR.of:∀{kvs:List (Int×D)}{vs:List V},aB K F vs (kvs.map (·.2))->KR K F kvs (ent (kvs.map (·.1)) vs)|[],vs,h=>by rw[map_nil]at h;rw[h.eZ];exact .nil|(k,d)::kvs,vs,h=>by obtain⟨v,r,rfl,h1,a⟩:=h.bY;exact .cons h1 (KR.of a)
theorem KR.to(h:KR K F kvs es):∃vs,es=ent (kvs.map (·.1)) vs/\aB K F vs (kvs.map (·.2)):=by induction h with|nil=>exact⟨[],rfl,.nil⟩|@cons k d v kvs es h t a=>obtain⟨vs,rfl,r⟩:=a;exact⟨v::vs,rfl,.cons h r⟩
theorem KR.oc(h:KR K F kvs es):iY K F (.dK es) (.v kvs):=by obtain⟨vs,rfl,r⟩:=h.to;exact⟨vs,rfl,r⟩
theorem KR.R7{o:HO}(h:iY K F o (.v kvs)):∃es,o=.dK es/\KR K F kvs es:=by obtain⟨vs,rfl,r⟩:=h;exact⟨_,rfl,.of r⟩
theorem KR.len(h:KR K F kvs es):es.length=kvs.length:=by induction h with|nil=>rfl|cons h t a=>simp[a]
theorem KR.get{d:D}(h:KR K F kvs es)(e:mq kvs k=some d):∃v,jb es (Sum.inl k:Key)=some v/\Rep K F v d:=by induction h with|nil=>cases e|@cons j d' v kvs es h t a=>
   unfold mq at e a;rw[find?_cons]at e;by_cases c:j=k;.simp[c]at e;subst e;exact⟨v,kJ (by rw[c]),h⟩
   .simp[c]at e;obtain⟨b,h1,f⟩:=a (by simpa using e);exact⟨b,by rw[lr (by simpa using c)];exact h1,f⟩
theorem KR.any{kvs:List (Int×D)}{es:List (Key×V)}(k:Int)(h:KR K F kvs es):(es.any λa=>decide (a.1=(Sum.inl k:Key)))=kvs.any λp=>decide (p.1=k):=by induction h with|nil=>rfl|cons h t b=>simp[b]
theorem KR.has(k:Int)(h:KR K F kvs es):(jb es (Sum.inl k:Key)).isSome=(kvs.map (·.1)).contains k:=by rw[<-pN,h.any k];induction h with|nil=>rfl|@cons j d v kvs es h t a=>rw[any_cons,a,map_cons,List.contains_cons];congr 1;exact Bool.eq_iff_iff.mpr ⟨λz=>by simp at z ⊢;exact z.symm,λz=>by simp at z ⊢;exact z.symm⟩
theorem KR.repl{d:D}{v:V}(r:Rep K F v d)(h:KR K F kvs es):KR K F (kvs.map λp=>if p.1=k then(p.1,d)else p) (es.map λa=>if a.1=(Sum.inl k:Key)then(a.1,v)else a):=by induction h with|nil=>exact .nil|@cons j d' e kvs es h t b=>
   by_cases c:j=k;.subst c;simp;exact .cons r b
   . have:¬(Sum.inl j:Key)=Sum.inl k:=by simpa using c
     simp[c,this];exact .cons h b
theorem KR.snoc{d:D}{v:V}(r:Rep K F v d)(h:KR K F kvs es):KR K F (kvs++[(k,d)]) (es++[(Sum.inl k,v)]):=by induction h with|nil=>exact .cons r .nil|cons h t a=>exact .cons h a
theorem KR.put{d:D}{v:V}(r:Rep K F v d)(h:KR K F kvs es):KR K F (gP kvs k d) (putK es (Sum.inl k:Key) v):=by
 unfold gP putK;rw[h.any k];split;.exact h.repl r
 .exact h.snoc r
theorem KR.zip{ks:List Int}{ds:List D}{vs:List V}(h:aB K F vs ds)(a:ks.length=ds.length):KR K F (ks.zip ds) (ent ks vs):=by induction ds generalizing ks vs with
 |nil=>rw[h.eZ];cases ks with|nil=>exact .nil|cons _ _=>simp at a
 |cons d ds b=>obtain⟨v,r,rfl,h1,c⟩:=h.bY;cases ks with|nil=>simp at a|cons k ks=>exact .cons h1 (b c (by simpa using a))
end
section
variable{K:PySem.W.Frag}{F F1 H H1:Hp}{ρ ρ1 ρ2:List Sl}{σ σ1:L2.St}
theorem GS.acq{x:Nat}{m p:Dc}{a:Addr}(g:GS K F ρ σ H)(e:ρ[x]?=some (.gF m))(r:σ[x]?=some (some (.ref a))):au K F ρ σ H F (ρ.set x (.gF p)) σ (upd H a p.ho):=by
 have v:x<ρ.length:=(eN e).1;have w:aM ρ σ x a:=⟨⟨_,_,e,rfl⟩,r⟩;obtain⟨J,L,h1,M,y,N⟩:=g.own x _ _ e rfl;rw[r]at h1;cases h1;have f:∀{j:Nat}{c:Addr},aM (ρ.set x (.gF p)) σ j c->aM ρ σ j c:=λ{j c}⟨⟨t,dt,h,s⟩,q3⟩=>by
  by_cases b:j=x;.subst b;exact⟨⟨_,_,e,rfl⟩,q3⟩
  .rw[dB b]at h;exact⟨⟨t,dt,h,s⟩,q3⟩
 refine⟨⟨λc o q=>?_,by simp[g.len],λj A d q=>?_,λj t dt q u=>?_,λj k c h s=>g.dis j k c (f h) (f s)⟩,.refl _,λc n B=>absurd n B,λc o q n=>?_,λc⟨j,q⟩=>.inl ⟨j,f q⟩,by simp,λj t q l=>⟨rfl,?_⟩⟩
 . have:c≠a:=by rintro rfl;rw[y]at q;cases q
   rw[ao this];exact g.sub c o q
 . by_cases b:j=x;.subst b;rw[getElem?_set_self v]at q;cases q
   .rw[dB b]at q;exact g.val j A d q
 . by_cases b:j=x;.subst b;rw[getElem?_set_self v]at q;cases q;cases u;exact⟨a,_,r,aA,y,rfl⟩
   . rw[dB b]at q;obtain⟨c,C,z,E,G,I⟩:=g.own j t dt q u;have:c≠a:=by rintro rfl;exact b (g.dis j x c ⟨⟨t,dt,q,u⟩,z⟩ w)
     exact⟨c,C,z,by rw[ao this];exact E,G,I⟩
 . have:c≠a:=by rintro rfl;exact n ⟨x,w⟩
   rw[ao this];exact q
 . by_cases b:j=x;.subst b;rw[e]at q;cases q;cases l
   .exact⟨t,by rw[dB b];exact q,.refl t⟩
theorem GS.newD{m:Dc}{a:Addr}(g:GS K F ρ σ H)(e:ρ[i]?=some .aL)(r:H a=none):au K F ρ σ H F (ρ.set i (.gF m)) (σ.set i (some (.ref a))) (upd H a m.ho):=by
 have v:i<ρ.length:=(eN e).1;have s:i<σ.length:=by rw[<-g.len];exact v
 have x:F a=none:=by cases q:F a with|none=>rfl|some o=>rw[g.sub a o q]at r;cases r
 have f:∀{j:Nat}{c:Addr},j≠i->aM (ρ.set i (.gF m)) (σ.set i (some (.ref a))) j c->aM ρ σ j c:=λ{j c}b⟨⟨t,ds,e1,e2⟩,e3⟩=>by rw[dB b]at e1 e3;exact⟨⟨t,ds,e1,e2⟩,e3⟩
 have new:∀{c:Addr},aM (ρ.set i (.gF m)) (σ.set i (some (.ref a))) i c->c=a:=λ{c}⟨_,e3⟩=>by rw[getElem?_set_self s]at e3;cases e3;rfl
 have no:∀{j:Nat},¬ aM ρ σ j a:=λ{j}⟨⟨t,ds,e1,e2⟩,e3⟩=>by obtain⟨c,o,h,p,_⟩:=g.own j t ds e1 e2;rw[e3]at h;cases h;rw[r]at p;cases p
 refine⟨⟨λc o q=>?_,by simp[g.len],λj z d q=>?_,λj t dt q y=>?_,λj k c h p=>?_⟩,.refl _,λc n A=>absurd n A,λc o q n=>?_,λc⟨j,q⟩=>?_,by simp,λj t q l=>?_⟩
 . have:c≠a:=by rintro rfl;rw[x]at q;cases q
   rw[ao this];exact g.sub c o q
 . by_cases b:j=i;.subst b;rw[getElem?_set_self v]at q;cases q
   .rw[dB b]at q ⊢;exact g.val j z d q
 . by_cases b:j=i;.subst b;rw[getElem?_set_self v]at q;cases q;cases y;exact⟨a,_,getElem?_set_self s,aA,x,rfl⟩
   . rw[dB b]at q ⊢;obtain⟨c,o,B,w,C,E⟩:=g.own j t dt q y;have:c≠a:=by rintro rfl;rw[r]at w;cases w
     exact⟨c,o,B,by rw[ao this];exact w,C,E⟩
 . by_cases b:j=i
   . by_cases u:k=i;.rw[b,u]
     .subst b;rw[new h]at p;exact absurd (f u p) no
   . by_cases u:k=i;.subst u;rw[new p]at h;exact absurd (f b h) no
     .exact g.dis j k c (f b h) (f u p)
 . have:c≠a:=by rintro rfl;rw[r]at q;cases q
   rw[ao this];exact q
 . by_cases b:j=i;.subst b;rw[new q];exact .inr r
   .exact .inl ⟨j,f b q⟩
 . have b:j≠i:=by rintro rfl;rw[e]at q;cases q;cases l
   exact⟨by rw[dB b],t,by rw[dB b];exact q,.refl t⟩
end
noncomputable def qH(p:Int×Int):Key×V:=(Sum.inl p.1,V.int p.2)
theorem Gb(i:Int):∀kvs:List (Int×Int),jb (kvs.map qH) (Sum.inl i:Key)=((kvs.find? λb=>decide (b.1=i)).map (·.2)).map V.int
 |[]=>rfl|p::kvs=>by
   have a:=Gb i kvs;unfold jb at a ⊢;rw[map_cons,find?_cons,find?_cons];by_cases h:p.1=i
   . have e:decide ((qH p).1=(Sum.inl i:Key))=true:=by simp[qH,h]
     rw[e];simp[h,qH]
   . have e:decide ((qH p).1=(Sum.inl i:Key))=false:=by simp[qH,h]
     rw[e];simp only[h,decide_false];exact a
theorem Ri(i v:Int)(kvs:List (Int×Int)):putK (kvs.map qH) (Sum.inl i:Key) (V.int v)=(putD kvs i v).map qH:=by
 have e:((kvs.map qH).any λa=>decide (a.1=(Sum.inl i:Key)))=kvs.any λa=>decide (a.1=i):=by rw[List.any_map];congr 1;funext p;simp[qH]
 unfold putK putD;rw[e];split
 . rw[map_map,map_map];refine map_congr_left λp _=>?_;by_cases h:p.1=i;.simp[qH,h]
   .simp[qH,h]
 .rw[map_append];rfl
section
variable{X:Cx}{c:Call}{n:Nat}{a b e:Expr}{pa pb p:P}{pos:Pos}
theorem Gm{H:Hp}{q:Addr}{m:Dc}{i:Int}{o:Option Int}(h:Rd H q m.ho)(e:m.get (.int i)=some o):mj H q (.int i) (o.map V.int):=by cases m with|k kvs=>cases e;exact .inl ⟨kvs.map qH,Sum.inl i,h,rfl,(Gb i kvs).symm⟩|t kvs=>cases e
theorem sY(hu:X.A.units+8<cLine)(M:SX X c a pa)(N:SX X c b pb)(hs:Kw b):SX X c (.Subscript a b pos) (.bin .Cw pa pb):=by refine uz (f:=zY) (λh1 O=>?_) M N (λρ=>rfl) rfl;intro l s σ H Q I h;refine zb PySem.F.slot_dict_getitem.lookup hs (bU (h1 l s σ H _ I h) λu s1⟨x,H1,I1,rx,q1⟩=>bU (O l s1 σ H1 _ I1 q1) λiv s2⟨y,H2,I2,ry,q2⟩=>?_);obtain⟨F,d,e,r,sm,G,J,he,k⟩:=q2;cases d with
 |dq m=>have U:=cQ (show(m.get e).bind (λo=>o.map λv=>R.val (.int v))=some r from he);clear he;obtain⟨o,w,he⟩:=U;cases o with|none=>cases he|some v=>
     cases he;obtain⟨i,rfl⟩:∃i,e=.int i:=by cases m with|t kvs=>cases e<;>cases w|k kvs=>cases e<;>first|exact⟨_,rfl⟩|cases w
     obtain⟨q,z,rfl,B⟩:=G.dq sm;rw[J.int]at ry;obtain rfl:u=Value.ref q:=rx;have g:=Gm (.inr ⟨z,B⟩) w;exact⟨jo I2 g,mC (by omega) I2 g ry λW s3 C E=>⟨.int v,H2,C,E,bW.cM sm (bT _) k⟩⟩
 |dv ks ds=>cases e with|int j=>obtain⟨d',Y,he⟩:=map_some (show(mq (ks.zip ds) j).map R.val=some r from he);subst he;obtain⟨q,z,vs,rfl,B,Z,hl⟩:=G.dv sm;obtain⟨L,g1,g2⟩:=(KR.zip Z hl).get Y;rw[J.int]at ry;obtain rfl:u=Value.ref q:=rx;have g:mj H2 q (.int j) (some L):=.inl ⟨_,Sum.inl j,.inr ⟨z,B⟩,rfl,g1.symm⟩;exact⟨jo I2 g,mC (by omega) I2 g ry λW s3 C E=>⟨L,H2,C,E,bW.cM sm g2 k⟩⟩|_=>cases he
 |_=>cases he
theorem Kz{x:Str}{f h:Pos}(j:X.N.Nodup)(l:X.N[i]?=some x)(o:Loc X.env.scope x)(hs:swapsWith (.Dict [] [] h) (some (.Name x f)) pos.line X.env=pure false:=by rfl)(r:X.fn x=true\/X.env.scope.names.lookup x=some .local:=by first|exact .inl rfl|exact .inr rfl|assumption):SS X c n (.Assign [.Name x f] (.Dict [] [] h) pos) (.HB i false):=by
 refine fB (jQ j l o vD hs r) ?_;rintro D σ H⟨F,ρ,fl,s,g,e,k⟩;rw[HH.X16]at e;split at e;.rename_i q;cases e;exact λa t=>k F _ _ (g.newD (m:=.k []) q t)
 .cases e
theorem Qt{x:Str}{C f l:Pos}{pk E:P}(hu:X.A.units+8<cLine)(Y:X.N[i]?=some x)(Z:vC X.env.scope x)(ha:SX X c a pk)(hb:SX X c b E)(m:M2 X (.Name x C) "get" f a b l)(hd:(x==("__debug__":Str))=false:=by decide)(u:(x==("__classdict__":Str))=false:=by decide):SX X c (.Call (.Attribute (.Name x C) "get" f) [a,b] [] l) (.Va i pk E):=by
 obtain⟨ta,h1,h2⟩:=ha.cG;obtain⟨tb,h3,h4⟩:=hb.cG;refine⟨dX (Gh (by omega) (aP Y Z hd u) h1 h3 m) ?_,λi h=>by cases h⟩;rintro σ H Q⟨F,ρ,r,ac,g,e,k⟩;rw[HH.E22]at e;split at e
 . rename_i m0 q;obtain⟨y,ae,e1,G⟩:=aa e;clear e;obtain⟨dd,af,e2,s⟩:=aa G;clear G;obtain⟨I,o0,J,L,w3,w4⟩:=g.own i _ _ q rfl;refine⟨.ref I,J,I,rfl,?_,?_⟩;.cases(show o0=m0.ho from w4);cases m0 with|k kvs=>exact .inl ⟨_,.inl L⟩|t kvs=>exact .inr ⟨_,.inl L⟩
   . refine h2 g e1 λv F1 H1 s1 pv=>h4 s1.gs e2 λz M H2 s2 O=>?_;split at s
     . rename_i m1 q1;obtain⟨U,e3⟩:=aD s;clear s;subst e3;obtain⟨o,B,eD⟩:=cQ U;clear U;obtain⟨w,e5,e6⟩:=map_some eD;subst e6;obtain⟨a1,o1,W,y2,y3,y4⟩:=s2.gs.own i _ _ q1 rfl;rw[J]at W;cases W;cases(show o1=m1.ho from y4);obtain⟨j,rfl⟩:∃j,y=.int j:=by cases m1 with|t kvs=>cases y<;>cases B|k kvs=>cases y<;>first|exact⟨_,rfl⟩|cases B
       rw[dG e5]at O;rw[pv.int,O.int];refine⟨o.map V.int,Gm (.inl y2) B,?_⟩;have:(o.map V.int).getD (V.int w)=V.int (o.getD w):=by cases o<;>rfl
       rw[this];exact k _ M H2 (s1.trans s2) (show Rep X.K M _ _ from bT _)
     .cases s
 .cases e
theorem Lh{x:Str}{C f:Pos}{pk:P}(hu:X.A.units+8<cLine)(J:X.N[i]?=some x)(L:vC X.env.scope x)(M:SX X c a pk)(he:SX X c e p)(hs:swapsWith e (some (.Subscript (.Name x C) a f)) pos.line X.env=pure false:=by rfl)(hd:(x==("__debug__":Str))=false:=by decide)(s:(x==("__classdict__":Str))=false:=by decide):SS X c n (.Assign [.Subscript (.Name x C) a f] e pos) (.dput i pk p):=by
 obtain⟨ta,h1,O⟩:=M.cG;refine fB (zr (by omega) (aP J L hd s) h1 he.ev hs) ?_;rintro D σ H⟨F,ρ,fl,Q,g,e,k⟩;rw[HH.X17]at e;obtain⟨r,u,U,o⟩:=aa e;clear e;refine⟨F,ρ,r,u,g,U,λv F1 H1 s1 W=>?_⟩;split at o
 . rename_i m0 Y;obtain⟨E,Z,e2,h⟩:=aa o;clear o;obtain⟨z,o0,B,w2,w3,w4⟩:=s1.gs.own i _ _ Y rfl;refine⟨.ref z,B,O s1.gs e2 λy F2 H2 s2 py=>?_⟩;split at h
   . rename_i m w q;split at h;.rename_i G l;cases h;obtain⟨a1,o1,I,y2,y3,y4⟩:=s2.gs.own i _ _ q rfl;rw[B]at I;cases I;cases(show o1=m.ho from y4);cases(show v=.int w by have:Rep X.K F1 v (.int w):=W;rwa[Rep]at this);refine⟨z,upd H2 z G.ho,rfl,?_,k F2 σ _ ((s1.trans s2).trans (s2.gs.acq q B))⟩;cases m with|t kvs=>cases E<;>cases l|k kvs=>cases E with|int j=>obtain⟨hl,l⟩:=aV (show(if kvs.length<lim then some (Dc.k (putD kvs j w))else none)=some G from l);subst l;rw[py.int];refine .inl ⟨kvs.map qH,Sum.inl j,y2,rfl,by rw[length_map,sizeLine_eq];exact hl,?_⟩;rw[Ri];rfl|_=>cases l
     .cases h
   .cases h
 .cases o
end
end HH
end
section
namespace L2
open PySem PySem.Spec PyProof.Rows
noncomputable def Itk(a:Addr)(b:Obj)(kvs:List (Key×V)):It:=⟨λi H=>H a=some (.cO b (.dK kvs))/\i<kvs.length,λi H x H'=>H'=H/\∃p,kvs[i]?=some p/\x=kV p.1,λi H=>H a=some (.cO b (.dK kvs))/\kvs.length<=i⟩
theorem KV.get:∀{κ:Type}{kvs:List (κ×V)}{vs:List (κ×Value)}{i:Nat}{p:κ×V},KV kvs vs->kvs[i]?=some p->∃v,vs[i]?=some (p.1,v)|_,_,_,_,_,.nil,e=>by simp at e|_,_,_,0,_,.cons r _,e=>by simp at e;subst e;exact⟨_,by rw[List.getElem?_cons_zero,r.1]⟩|_,_,_,i+1,p,.cons _ t,e=>by obtain⟨v,h⟩:=KV.get (i:=i) (p:=p) t (by simpa using e);exact⟨v,by simpa using h⟩
theorem rH{X:Cx}{b:List (Addr×Obj)}{σ:St}{H:Hp}{s:Shared}{a:Addr}{c:Obj}{kvs:List (Key×V)}{es:Array DictEntry}{ep:Nat}(I:Inv X b σ H s)(h:H a=some (.cO c (.dK kvs)))(hd:c.data=.dict es ep):(a==sysModules)=false/\∃vs,KV kvs vs/\s.heap.DictAt (aR X.prog X.w) a vs ep:=by obtain⟨ho,hz,f,vs,r,g⟩:=(show aY X.prog X.w H s.heap a (.cO c (.dK kvs))from I.hok a _ h);obtain⟨o,i,j,h1,k,e,l⟩:=g;rw[ho]at h1;cases h1;rw[hd]at e;cases e;exact⟨f,vs,r,⟨c,es,ho,k,hd,l⟩⟩
theorem Rw{P:Program}{w:World}{k:Key}{u:Value}(h:(aR P w).is k u=true):RelV (kV k) u:=by
 rcases bu h with⟨i,t,rfl,rfl⟩|⟨x,t,rfl,rfl⟩;.exact⟨t,rfl⟩
 .exact⟨t,rfl⟩
theorem Bt{P:Program}{w:World}{K:PySem.W.Frag}{G:Expr}(a it:Addr)(C:Obj)(kvs:List (Key×V))(es:Array DictEntry)(ep:Nat)(hd:C.data=.dict es ep):Turn P w K G (Itk a C kvs) [it] it (λi h=>h.IsKeyIter it a i kvs.length ep)where
 mem:=by simp
 obj:=λi h st b g=>by
  have e:b=it:=by simpa using g
  subst e;obtain⟨o,e,c,d⟩:=st;exact⟨o,e,λv z=>by rw[d]at z;cases z⟩
 keep:=λi h h' st k=>st.at λo e=>k it (by simp) o e;item:=by intro X p q t hc i f s σ H E I m st x;subst p q t;obtain⟨y,n⟩:=x;obtain⟨J,vs,r,B⟩:=rH I y hd;have l:vs.length=kvs.length:=(Paired.length r).symm;obtain⟨v,L⟩:=KV.get r (show kvs[i]?=some kvs[i]by simp[n]);obtain⟨f0,f1,f2,f3,f4,f5⟩:=m it (by simp);refine wpAny_pyNext_dict_item (by rw[l];exact st) B L λu h' M j N=>?_;have O:Inv X f σ H {s with heap:=h'}:=I.turned (t':=s.toks) (λb o g e=>(N.2 b g).trans e) f0 f1 f3 f4 f5;rw[l]at j;obtain⟨o,e,c,d⟩:=id j;exact⟨u,rfl,Ad (s:={s with heap:=h'}) e c d (by decide) ⟨_,H,O,Rw M,⟨rfl,_,by simp[n],rfl⟩,j,λb g=>(m b g).1⟩⟩
 done:=by intro X p q t hc i f s σ H E I m st x;subst p q t;obtain⟨y,n⟩:=x;obtain⟨J,vs,r,B⟩:=rH I y hd;have l:vs.length=kvs.length:=(Paired.length r).symm;obtain⟨f0,f1,f2,f3,f4,f5⟩:=m it (by simp);refine wpAny_pyNext_dict_end (I.ok.hd hc) (by rw[l];exact st) B (by simp[l,n]) λh' he=>⟨rfl,?_⟩;exact I.turned (t':=s.toks) (λb o g e=>he b o g e) f0 f1 f3 f4 f5
 self:=λA i s Q E st U=>wpAny_pyIter_keyiter st U
section
variable{X:Cx}{tg:Expr}
theorem Js{l:Expr}{k:TE}(n:PE X l k):PI X tg l (λσ H R=>k σ H λx f=>∃a c kvs,x=.ref a/\f a=some (.cO c (.dK kvs))/\R (Itk a c kvs) f):=by
 intro g s σ H R I h;refine bU (n g s σ H _ I h) ?_;rintro v s1⟨x,f,j,r1,a,c,kvs,e,p,q⟩;subst e;cases r1;obtain⟨ho,hz,t,vs,r,u⟩:=(show aY X.prog X.w f s1.heap a (.cO c (.dK kvs))from j.hok a _ p);obtain⟨o,es,ep,h1,y,m,z⟩:=id u;rw[ho]at h1;cases h1;have i:vs.length=kvs.length:=(Paired.length r).symm;refine wpAny_pyIter_dict (knd:=aR X.prog X.w) (kvs:=vs) (ep:=ep) t ⟨c,es,ho,y,m,z⟩ ?_;refine⟨s1.heap.objs.size,[s1.heap.objs.size],_,_,f,rfl,j.kept (t':=s1.toks) λb o e=>gW e,Bt a _ c kvs es ep m,⟨_,get?_push_size _ rfl,rfl,by rw[i];rfl⟩,λb A=>?_,q⟩;have e:b=s1.heap.objs.size:=by simpa using A
 subst e;exact j.G9 (dC) (j.hok.fresh (dC))
end
end L2
namespace HH
open PySem L2 PySem.Spec PyProof.Rows
section
variable{X:Cx}{c:Call}{tg e:Expr}{p:P}
theorem JR{ks:List Int}{es:List (Key×V)}{j:Nat}{p:Key×V}{i:Int}(h:es.map (·.1)=ks.map (Sum.inl:Int->Key))(a:es[j]?=some p)(b:ks[j]?=some i):p.1=Sum.inl i:=by
 have:(es.map (·.1))[j]?=(ks.map (Sum.inl:Int->Key))[j]?:=by rw[h]
 rw[getElem?_map,getElem?_map,a,b]at this;exact Option.some.inj this
theorem pY:∀{ks:List Int}{vs:List V},ks.length=vs.length->(ent ks vs).map (·.1)=ks.map (Sum.inl:Int->Key)|[],[],_=>rfl|k::ks,v::vs,h=>by have:=pY (ks:=ks) (vs:=vs) (by simpa using h);unfold ent at this ⊢;simpa using this|[],_::_,h=>by simp at h|_::_,[],h=>by simp at h
theorem Jh(h:SX X c e p):SI X c tg e (.blt .keys [p]):=by
 unfold SI;obtain⟨ta,h1,Q⟩:=h.cG;refine rA (Js h1) ?_;rintro σ H R⟨F,ρ,ds,B,g,U,k⟩;obtain⟨r,o,G,W⟩:=aa (show((HH.ev c (.blt .keys [p]) ρ).bind λr ρ=>lift (items r.d) ρ)=.ok ds B from U);obtain⟨I,Y⟩:=aD W;subst Y;rw[HH.E16]at G;obtain⟨d,Z,e1,eE⟩:=aa G;obtain⟨y,e4⟩:=aD eE;subst e4;refine Q g e1 λv F' H' s J=>?_;have hd:∃(ks:List Int)(es:List (Key×V))(a:Addr)(b:Obj),ds=ks.map D.int/\v=.ref a/\H' a=some (.cO b (.dK es))/\es.map (·.1)=ks.map (Sum.inl:Int->Key):=by cases d with
  |dq m=>cases m with|k kvs=>cases y;cases I;obtain⟨a,b,rfl,f⟩:=J.dq s.gs.sub;exact⟨kvs.map (·.1),kvs.map qH,a,b,by rw[map_map];rfl,rfl,f,by rw[map_map,map_map];rfl⟩|t kvs=>cases y
  |dv ks ac=>cases y;cases I;obtain⟨a,b,vs,rfl,f,rs,hl⟩:=J.dv s.gs.sub;exact⟨ks,ent ks vs,a,b,rfl,rfl,f,pY (by rw[rs.length];exact hl)⟩|_=>cases y
 obtain⟨ks,es,a,b,rfl,rfl,f,u⟩:=hd;have C:es.length=ks.length:=by have:=congrArg List.length u;simpa using this
 refine⟨a,b,es,rfl,f,k _ F' H' ⟨s.gs,λn j L o E H2 s2=>?_,λL o E H2 s2=>⟨s.trans s2,λv r rr=>rr.later s⟩⟩⟩;have gm:=s.gs.more (n:=n) (τ:=replicate n none) (by simp);have w:=s2.keep a _ f λ⟨j,⟨t,dt,q1,q2⟩,q3⟩=>by obtain⟨a',o',M,N,z3,A⟩:=gm.own j t dt q1 q2;rw[q3]at M;cases M;rw[f]at N;cases N;cases dt with|l ds=>obtain⟨xs,z,_⟩:=A;cases z|d m=>cases m<;>cases A|v kvs=>obtain⟨xs,z,_⟩:=A;cases z|p ns m k=>rcases A with⟨q,z⟩|⟨_,v,z,_⟩<;>cases z
 refine⟨λd hd=>?_,λO=>⟨w,by rw[C];simpa using O⟩⟩;have O:j<ks.length:=by have:=(eN hd).1;simpa using this
 refine⟨⟨w,by omega⟩,λx uO⟨e5,q,e6,e7⟩=>?_⟩;subst e5;refine⟨L,.refl s2.gs.sub,?_⟩;rw[getElem?_map]at hd;obtain⟨i,e8,e9⟩:=map_some hd;rw[e7,JR u e6 e8,<-e9];exact bT _
end
end HH
end
section
namespace HH
open PySem L2 PySem.Spec PyProof.Rows PySem.Calls PySem.W
section
variable{X:Cx}{c:Call}{a:Expr}{pa:P}{pos:Pos}
theorem kj:∀{ns:List Int}{b:List Value},IntsAre b ns->Vals (ns.map V.int) b|_,_,.nil=>.nil|_,_,.cons n t r=>.cons ⟨t,rfl⟩ (kj r)
theorem rZ{K:PySem.W.Frag}{F:Hp}:∀ns:List Int,aB K F (ns.map V.int) (ns.map D.int)|[]=>.nil|n::ns=>.cons (bT n) (rZ ns)
end
end HH
end
section
namespace HH
open PySem L2 PySem.Spec PyProof.Rows
theorem Inv.abo{X:Cx}{c:List (Addr×Obj)}{σ:L2.St}{H:Hp}{s:Shared}{a:Addr}{kvs:List (List Key×V)}(I:L2.Inv X c σ H s)(h:H a=some (.dT kvs)):∃o,L2.Inv X c σ (upd H a (.cO o (.dT kvs))) s:=by obtain⟨z,y,xs,r,o,es,ep,h1,f,g,i,j⟩:=(show aY X.prog X.w H s.heap a (.dT kvs)from I.hok a _ h);refine⟨o,I.write (h':=s.heap) (t':=s.toks) (by rw[h];exact trivial) (.inl rfl) (λb u _ e=>e) ⟨o,h1⟩ ⟨h1,z,y,xs,KT.keeps r λb ys q=>?_,o,es,ep,h1,f,g,i,j⟩⟩;rw[ao (by rintro rfl;rw[h]at q;cases q)];exact q
section
variable{X:Cx}{c:Call}{n:Nat}{a b e:Expr}{p pa pb:P}{pos:Pos}{es:List Expr}{ps:List P}{x1:Nat}{tpos:Pos}
theorem Mu{i:Nat}{x:Str}{z:Pos}(A:X.N[i]?=some x)(B:vC X.env.scope x)(hd:(x==("__debug__":Str))=false:=by decide)(w:(x==("__classdict__":Str))=false:=by decide):SX X c (.Name x z) (.vw i):=by
 have h:=aP (X:=X) (pos:=z) A B hd w;refine⟨?_,λi h=>by cases h⟩;rintro f s σ H Q I⟨F,ρ,r,C,g,e,k⟩;rw[HH.E23]at e;split at e
 . rename_i m q;cases e;obtain⟨a,h1,j,l⟩:=g.Af q;refine bU (h f s σ H (λv H'=>v=.ref a/\H'=H) I ⟨.ref a,h1,rfl,rfl⟩) λu s1⟨v,H1,I1,r1,e1,e2⟩=>?_;subst e1 e2;have E:∃o,L2.Inv X f σ (upd H1 a (.cO o m.ho)) s1:=by cases m with|k kvs=>exact Inv.Eh I1 j|t kvs=>exact Inv.abo I1 j
   obtain⟨o,y⟩:=E;exact⟨.ref a,_,y,r1,k _ _ _ (l o).1 (l o).2⟩
 .rename_i kvs q;cases e;obtain⟨a,vs,h1,j,l⟩:=g.Ar q;refine bU (h f s σ H (λv H'=>v=.ref a/\H'=H) I ⟨.ref a,h1,rfl,rfl⟩) λu s1⟨v,H1,I1,r1,e1,e2⟩=>?_;subst e1 e2;obtain⟨o,y⟩:=Inv.Eh I1 j;exact⟨.ref a,_,y,r1,k _ _ _ (l o).1 (l o).2⟩
 .rename_i b ds q;cases e;obtain⟨v,G,h1,j,l⟩:=g.freeze q;exact h f s σ H Q I ⟨v,h1,k v G H j l⟩
 .rename_i b d q;cases e;obtain⟨v,h1,j⟩:=g.val i b d q;exact h f s σ H Q I ⟨v,h1,k v F H (.refl g) j⟩
 .cases e
end
end HH
end
section
namespace HH
open PySem L2 PySem.Spec PyProof.Rows
section
variable{K:PySem.W.Frag}{F H F' H':Hp}{ρ ρ':List Sl}{σ σ':L2.St}
def Kp(ρ:List Sl)(σ:L2.St)(H:Hp)(a:Addr)(o:HO):Prop:=H a=some o/\¬ Own ρ σ a
theorem Kp.stp{a:Addr}{o:HO}(h:Kp ρ σ H a o)(s:au K F ρ σ H F' ρ' σ' H'):Kp ρ' σ' H' a o:=⟨s.keep a o h.1 h.2,λz=>(s.uV a z).elim h.2 λe=>by rw[h.1]at e;cases e⟩
structure Wt(K:PySem.W.Frag)(F:Hp)(ρ:List Sl)(σ:L2.St)(H:Hp)(a:Addr)(ds:List D):Prop where
 ex:∃xs,Kp ρ σ H a (.lst xs)/\aB K F xs ds
 fr:F a=none
theorem Wt.stp{a:Addr}{ds:List D}(h:Wt K F ρ σ H a ds)(s:au K F ρ σ H F' ρ' σ' H'):Wt K F' ρ' σ' H' a ds:=by obtain⟨⟨xs,h1,b⟩,c⟩:=h;refine⟨⟨xs,h1.stp s,b.mono s.cV⟩,?_⟩;cases q:F' a with|none=>rfl|some o=>
   rcases s.uU a c (by rw[q];simp)with z|z;.exact absurd z h1.2
   .rw[h1.1]at z;cases z
end
end HH
end
section
namespace HH
open PySem PyProof.Rows
section
variable{M:Model}{A:Around}{E:Value->Shared->Prop}{s:Shared}{κ:SortKind}{ok:Keyed->Prop}{K:Keyed->Int}
theorem BV(R:Rk M A E s κ ok K){st b:SortSt}{xs:Array Keyed}{lo n:Nat}{Q:Option Nat->SortSt->Prop}(h:Sx κ ok st xs b)(f:lo+n<=xs.size)(h1:1<=n)(sg:Seg K xs lo (lo+n))(q:Q (some n) b):wpS M A E s (countRun' lo n) Q b:=by
 have one:∀ys:Array Keyed,Seg K ys lo (lo+1):=λys i j k l o=>by rw[show i=j by omega];exact Int.le_refl _
 show wpS M A E s (_>>=_) Q b;refine wpS_bind (Q9 (a:=1) (n:=n) R h f (le_refl 1) h1 (one xs) λm m1 p sm e=>?_);dsimp only;have c1:m=n:=by
  by_cases c:m=n;.exact c
  .have g:=e.resolve_left c;have:=sg (lo+m-1) (lo+m) (by omega) (by omega) (by omega);omega
 subst c1;rw[if_pos (by simp)];exact wpS_pure q
theorem SR.XN{x0 ys:Array Keyed}{l:List Rn}{lo n:Nat}{st:SortSt}(h:SR κ ok K x0 ys l lo st)(h1:1<=n)(a:lo+n<=ys.size)(hs:Seg K ys lo (lo+n)):SR κ ok K x0 ys (l++[(lo,n,0)]) (lo+n) (setPending st ((pendingOf st).push (lo,n,0))):=⟨h.kind,h.arr,h.fail,by show((pendingOf st).push (lo,n,0)).toList=_;rw[Array.toList_push,h.pend],h.perm,h.ok,ux.mpr ⟨lo,h.rns,rfl,h1,hs,rfl⟩,a⟩
theorem sy:∀(f n r:Nat),r<=1->n<64\/n<=f->minRun' f n r<=n+r/\(64<=n->minRun' f n r<=n)
 |0,n,r,hr,h=>by have e:minRun' 0 n r=n+r:=rfl;rw[e];exact⟨dC,λz=>by omega⟩|f+1,n,r,hr,h=>by
   rw[minRun'_succ];by_cases c:n<64;.rw[if_pos c];exact⟨dC,λz=>by omega⟩
   .rw[if_neg c];have a:=sy f (n/2) (max r (n%2)) (by omega) (by omega);exact⟨by omega,λ_=>by omega⟩
theorem Hk(R:Rk M A E s κ ok K){x0:Array Keyed}{Q:Unit->SortSt->Prop}{st:SortSt}(h:SR κ ok K x0 x0 [] 0 st)(sg:Seg K x0 0 x0.size)(h1:1<=x0.size)(q:∀a,arrOf a=x0->failedOf a=none->Q () a):wpS M A E s sortRuns' Q st:=by
 rw[sortRuns'_eq];refine wpS_bind (wpS_get ?_);dsimp only;simp only[h.arr];have j:minRun' x0.size x0.size 0<=x0.size:=(sy x0.size x0.size 0 (by omega) (.inr (dC))).1;generalize minRun' x0.size x0.size 0=o at j;refine wpS_bind (wpS_mono (wpS_forRange (I:=λx c a=>(c=(none,0)/\SR κ ok K x0 x0 [] 0 a/\x=0)\/(c=(none,x0.size)/\SR κ ok K x0 x0 [(0,x0.size,0)] x0.size a)) (Q:=λc a=>c=(none,x0.size)/\SR κ ok K x0 x0 [(0,x0.size,0)] x0.size a) ?_ ?_ (.inl ⟨rfl,h,rfl⟩)) ?_)
 . rintro x c f _ k(⟨rfl,b,rfl⟩|⟨rfl,b⟩)
   . dsimp only;rw[if_neg (by omega)];refine wpS_bind (BV R b.sx (lo:=0) (n:=x0.size-0) (by omega) (by omega) (by simpa using sg) ?_);dsimp only;rw[if_neg (by omega)];refine wpS_bind (wpS_get ?_);have l:(pendingOf f).back?=none:=by have:pendingOf f=#[]:=Array.toList_inj.mp b.pend;rw[this];rfl
     rw[l];dsimp only;refine wpS_bind (wpS_modify (wpS_pure (.inr ⟨by simp,?_⟩)));have:=b.XN (n:=x0.size-0) (by omega) (by omega) (by simpa using sg);simpa using this
   .dsimp only;rw[if_pos (dC)];exact wpS_pure ⟨rfl,b⟩
 . rintro c f(⟨rfl,b,e⟩|⟨rfl,b⟩);.omega
   .exact⟨rfl,b⟩
 . rintro c f⟨rfl,b⟩;dsimp only;refine wpS_bind (wpS_mono (wpS_forRange (I:=λx c a=>c=(none,())/\SR κ ok K x0 x0 [(0,x0.size,0)] x0.size a) (Q:=λc a=>c=(none,())/\SR κ ok K x0 x0 [(0,x0.size,0)] x0.size a) ?_ (λ_ _ h=>h) ⟨rfl,b⟩) ?_)
   . rintro x c g _ k⟨rfl,i⟩;refine wpS_bind (wpS_get ?_);try dsimp only
     have m:(pendingOf g).size<=1:=by rw[<-length_toList,i.pend];simp
     rw[if_pos m];exact wpS_pure ⟨rfl,i⟩
   .rintro c g⟨rfl,i⟩;dsimp only;exact wpS_pure (q g i.arr i.fail)
end
end HH
end
section
namespace HH
open PySem PySem.W PyProof.Rows PySem.Calls L2 PySem.Spec
section
variable{prog:Program}{w:World}{A:Around}{E:Value->Shared->Prop}{s:Shared}{vs:List Value}{κ:SortKind}{P:Value->D->Prop}{ds:List D}
theorem FN{a:Addr}{n:Nat}{O:PySem.Fin->Shared->Prop}(ho:s.heap.get? a=some (seqObj "list" vs.toArray n))(so:sortable ds=true)(hz:vs.length<=16777216)(L:Paired P vs ds)(fn:∀u d e,P u d->P u e->cP d=cP e)(t:ds.Pairwise λa b=>lq a b=true)(N:∀h',(∀b o,b≠a->s.heap.get? b=some o->h'.get? b=some o)->∀C:SortKind->Shared->Prop,C κ {s with heap:=h'}->2<=vs.length->wpAny (model prog w) A (keyKind' vs.toArray) C (λ_ _=>False) {s with heap:=h'})(hl:∀h',(∀b o,b≠a->s.heap.get? b=some o->h'.get? b=some o)->∀u v d e,P u d->P v e->∀C:Bool->Shared->Prop,C (bf (cP d) (cP e)) {s with heap:=h'}->wpAny (model prog w) A (keyLt' κ u v) C (λ_ _=>False) {s with heap:=h'})(h:∀h' c p,(∀b o,b≠a->s.heap.get? b=some o->h'.get? b=some o)->p.Perm (List.range vs.length)->pick .non p ds=NK ds->h'.get? a=some (seqObj "list" (pick .none p vs).toArray c)->O (.done (.ret .none)) {s with heap:=h'}):wpAny (model prog w) A (Builtin.«list.sort» ⟨[.ref a],[]⟩) O E s:=by
 have ha:a<s.heap.objs.size:=lt_size ho;have z:vs.length=ds.length:=Paired.length L;obtain⟨g,B⟩:∃g,(s.heap.update a (Obj.mapSeq λ_=>(#[]:Array Value))).get? a=some (seqObj "list" #[] g):=⟨_,get?_update_seq ho λ_=>#[]⟩;rw[list_sort_plain];refine wpAny_bind (listItems_at ho rfl ?_);refine wpAny_bind (listUpdate_at ho rfl ?_ (by rw[size_toArray,sizeLine_eq];omega) (uR));refine wpAny_bind (seqEpoch_at B rfl ?_);refine wpAny_bind (wpAny_newTuple ?_ (by show vs.length<=_;rw[sizeLine_eq];omega));refine wpAny_bind (wpAny_newList ?_ (uR));refine wpAny_holding ?_;generalize hH:(((s.heap.update a (Obj.mapSeq λ_=>(#[]:Array Value))).push {cls:=.type "tuple",data:=.seq vs.toArray}).push {cls:=.type "list",data:=.seq #[]}:Heap)=l;have G:l.get? a=some (seqObj "list" #[] g):=by rw[<-hH];exact gW (gW B)
 have keep:∀b o,b≠a->s.heap.get? b=some o->l.get? b=some o:=λb o M e=>by rw[<-hH];exact gW (gW ((get?_update_other _ _ (Ne.symm M)).trans e))
 have fin:∀p:List Nat,p.Perm (List.range vs.length)->pick .non p ds=NK ds->O (.done (.ret .none)) {s with heap:=l.update a (Obj.mapSeq λ_=>toArray (pick .none p vs))}:=by intro p h1 f;obtain⟨c2,U⟩:∃c2,(l.update a (Obj.mapSeq λ_=>toArray (pick Value.none p vs))).get? a=some (seqObj "list" (pick Value.none p vs).toArray c2):=⟨_,get?_update_seq G λ_=>toArray (pick Value.none p vs)⟩;exact h _ c2 p (λb o M e=>(get?_update_other _ _ (Ne.symm M)).trans (keep b o M e)) h1 f U
 show wpAny (model prog w) A _ O E {s with heap:=l};dsimp only;by_cases f:vs.toArray.size<2
 . rw[if_pos f,if_pos f];refine wpAny_bind (wpAny_pure ?_);rw[StateT.run_pure];refine wpAny_bind (wpAny_pure ?_);dsimp only;have eo:(arrOf (SortSt.mk' general' (vs.toArray.zip vs.toArray) #[] 7 none)).map (·.2)=toArray (pick Value.none (List.range vs.length) vs):=by rw[kW];apply Array.toList_inj.mp;show((vs.toArray.zip vs.toArray).map (·.2)).toList=vs;simp[List.map_snd_zip]
   rw[eo];refine wpAny_bind (seqEpoch_at G rfl ?_);refine wpAny_bind (listUpdate_at G rfl ?_ (uR) (by rw[size_toArray,oH (.refl _),sizeLine_eq];omega));simp only[bne_self_eq_false,false_eq_true,if_false];refine wpAny_pure (fin _ (.refl _) ?_);rw[z,kW];refine pL so (.refl _) ?_;match ds,(show ds.length<2 by simp at f;omega)with|[],_=>exact .nil|[_],_=>exact List.pairwise_singleton ..|_::_::_,f=>simp at f;omega
 . rw[if_neg f,if_neg f];have W:2<=vs.length:=by simpa using f
   refine wpAny_bind (N l keep _ ?_ W|>λq=>wpAny_mono q (λ_ _ x=>x) λ_ _ x=>x.elim);have H:(vs.toArray.zip vs.toArray).toList=(List.range vs.length).map λi=>(vs.getD i Value.none,vs.getD i Value.none):=by
    refine ext_getElem (by simp) λi h1 f=>?_;have:i<vs.length:=by simpa using f
    simp[this]
   have X:∀x∈(vs.toArray.zip vs.toArray).toList,∃d,d∈ds/\P x.1 d:=λx hx=>by rw[H]at hx;obtain⟨i,hi,rfl⟩:=mem_map.mp hx;have:=jz L i (List.mem_range.mp hi);exact⟨_,this.2,this.1⟩
   have R:Rk (model prog w) A E {s with heap:=l} κ (λx=>∃d,d∈ds/\P x.1 d) (ZF P ds):=⟨by rintro x y Q st⟨d,d1,d2⟩⟨e,g,r⟩Y hq;rw[zQ fn d1 d2,zQ fn g r,Ep d1]at hq;rw[lt'_eq];refine wpS_bind (wpS_get ?_);rw[Y];refine wpS_bind (wpS_lift (wpAny_attempt (wpAny_mono (hl l keep x.1 y.1 d e d2 r (λb Z=>Z={s with heap:=l}/\b=bf (cP d) (cP e)) ⟨rfl,rfl⟩) ?_ λ_ _ h=>h.elim)));rintro b Z⟨rfl,rfl⟩;exact⟨rfl,wpS_pure hq⟩⟩;have at':∀k,k<vs.length->it (vs.toArray.zip vs.toArray) k=(vs.getD k .none,vs.getD k .none):=λk N=>by rw[Jg,H];simp[N]
   have hsz:(vs.toArray.zip vs.toArray).size=vs.length:=by simp
   have sg:Seg (ZF P ds) (vs.toArray.zip vs.toArray) 0 (vs.toArray.zip vs.toArray).size:=λi j _ ij jn=>by
    rw[hsz]at jn;rw[at' i (by omega),at' j jn];have a1:=jz L i (by omega);have a2:=jz L j jn;rw[zQ fn a1.2 a1.1,zQ fn a2.2 a2.1];by_cases e:i=j;.rw[e];exact Int.le_refl _
    . have I:=List.pairwise_iff_getElem.mp t i j (by omega) (by omega) (by omega);simp only[lq,not_eq_true']at I;have g:ds.getD i .non=ds[i]'(by omega):=by simp[show i<ds.length by omega]
      have r:ds.getD j .non=ds[j]'(by omega):=by simp[show j<ds.length by omega]
      rw[<-g,<-r,<-Ep a2.2,decide_eq_false_iff_not]at I;omega
   have run:=Hk R (x0:=vs.toArray.zip vs.toArray) (st:=SortSt.mk' κ (vs.toArray.zip vs.toArray) #[] 7 none) (Q:=λ_ m=>∃p:List Nat,p.Perm (List.range vs.length)/\pick .non p ds=NK ds/\(arrOf m).map (·.2)=(pick Value.none p vs).toArray/\failedOf m=none) ⟨rfl,rfl,rfl,rfl,.refl _,X,rfl,uR⟩ sg (by rw[hsz];omega) λm g r=>by
     refine⟨List.range vs.length,.refl _,?_,?_,r⟩;.rw[z,kW];exact pL so (.refl _) t
     .rw[g,kW];apply Array.toList_inj.mp;simp[List.map_snd_zip]
   refine wpAny_bind (wpAny_mono run ?_ λ_ _ e=>e);rintro⟨⟨⟩,m⟩Z⟨rfl,p,p1,p2,J,hf⟩;dsimp only;rw[J];refine wpAny_bind (seqEpoch_at G rfl ?_);refine wpAny_bind (listUpdate_at G rfl ?_ (uR) (by rw[size_toArray,oH p1,sizeLine_eq];omega));rw[hf];simp only[bne_self_eq_false,false_eq_true,if_false];exact wpAny_pure (fin _ p1 p2)
end
end HH
end
section
namespace HH
open PySem L2 PySem.Spec PyProof.Rows PySem.Calls PySem.W
noncomputable def wR(nw:Addr->Option HO)(H:Hp):Hp:=λa=>match nw a with|some o=>some o|none=>H a
theorem tY{nw:Addr->Option HO}{H:Hp}{a:Addr}{o:HO}(h:nw a=some o):wR nw H a=some o:=by unfold wR;rw[h]
theorem gD{nw:Addr->Option HO}{H:Hp}{a:Addr}(h:nw a=none):wR nw H a=H a:=by unfold wR;rw[h]
theorem VL{X:Cx}{g:List (Addr×Obj)}{σ:L2.St}{H:Hp}{s:Shared}{h':Heap}{t':Nat}{nw:Addr->Option HO}(I:L2.Inv X g σ H s)(k:∀b u,s.heap.get? b=some u->h'.get? b=some u)(h:∀a o,nw a=some o->s.heap.objs.size<=a)(new:∀a o,nw a=some o->aY X.prog X.w (wR nw H) h' a o):L2.Inv X g σ (wR nw H) {s with heap:=h',toks:=t'}:=by
 have no:∀a,a<s.heap.objs.size->nw a=none:=λa i=>by cases q:nw a with|none=>rfl|some o=>exact absurd (h a o q) (Nat.not_le_of_lt i)
 have f:∀a o,H a=some o->wR nw H a=some o:=λa o e=>by rw[gD (no a (I.hok.lt e))];exact e
 refine I.un ⟨λb u q _ _ _=>k b u q,λb u q _ _ _=>⟨u.slots,k b u q⟩,λb u q n _=>?_,λb u q _=>⟨u,k b u q⟩,λb xs q=>f b _ q,λb u xs q=>f b _ q,λb ps q=>⟨#[],by rw[f b _ q];simp⟩⟩ λb u e=>?_;.rw[gD (no b (lt_size q))];exact n
 .cases q:nw b with|some o=>rw[tY q]at e;cases e;exact new b _ q|none=>rw[gD q]at e;exact(I.hok b u e).stay (λc v _ z=>k c v z) (λc z=>f c _ z) λc xs z=>f c _ z
def iv(l d:Addr):Heap->Prop:=λh=>h.IsItemsView l d
def Dn:V->List V->Hp->VK->Prop:=λx xs H Q=>∃q a kvs,x=.ref q/\xs=[]/\H q=some (.cO a (.dK (map qH kvs)))/\∀l,H l=none->Q (.ref l) (upd H l (.ext (iv l q)))
def rIt(X:Cx):List V->Hp->VK->Prop:=λxs H Q=>∃l q e kvs,xs=[.ref l]/\H l=some (.ext (iv l q))/\H q=some (.cO e (.dK (map qH kvs)))/\(kvs.length<=16777216/\kvs.Pairwise (λa b=>a.1<b.1))/\∃F,aF F H/\∀v c H',Ext F H c H'->bW X.K c H' H v (.own (kvs.map cX))->Q v H'
theorem vG{P:Program}{w:World}{h:Heap}:∀{kvs:List (Int×Int)}{vs:List (Key×Value)}{as:List Addr},KV (kvs.map qH) vs->as.length=vs.length->(∀(j:Nat)(a:Addr),as[j]?=some a->∃key k x,vs[j]?=some (k,x)/\(aR P w).is k key=true/\h.get? a=some {cls:=.type "tuple",data:=.seq #[key,x]})->∀(j:Nat)(a:Addr),as[j]?=some a->∃p,kvs[j]?=some p/\∃t u,h.get? a=some {cls:=.type "tuple",data:=.seq #[Value.int p.1 t,Value.int p.2 u]}
 |[],_,as,.nil,f,_,j,a,e=>by cases as with|nil=>cases e|cons _ _=>simp at f
 |p::kvs,_,as,.cons (b:=q) r t,f,hk,j,a,e=>by cases as with|nil=>cases e|cons b as=>cases j with
     |zero=>
       obtain⟨key,k,x,g,m,n⟩:=hk 0 a e;simp at g;have o:k=Sum.inl p.1:=by have z:=r.1;rw[g]at z;exact z.symm
       have s:∃u,x=Value.int p.2 u:=by have z:=r.2;rw[g]at z;exact z
       subst o;obtain⟨u,rfl⟩:=s;obtain⟨i,v,l,rfl⟩|⟨_,_,l,_⟩:=bu (show mV (Sum.inl p.1) key=true from m);.cases l;exact⟨p,rfl,v,u,n⟩
       .cases l|succ j=>exact vG t (by simpa using f) (λi c z=>by simpa using hk (i+1) c (by simpa using z)) j a (by simpa using e)
noncomputable def ZL(p:Int×Int):HO:=.tup [.int p.1,.int p.2]
noncomputable def nR:List Addr->List (Int×Int)->Addr->Option HO|a::as,p::ps,b=>if b=a then some (ZL p)else nR as ps b|_,_,_=>none
theorem nJ:∀{as:List Addr}{ps:List (Int×Int)}{b:Addr}{o:HO},nR as ps b=some o->∃(j:Nat)(p:Int×Int),as[j]?=some b/\ps[j]?=some p/\o=ZL p
 |a::as,p::ps,b,o,h=>by
   unfold nR at h;split at h;.rename_i e;cases h;subst e;exact⟨0,p,rfl,rfl,rfl⟩
   .obtain⟨j,q,h1,c,f⟩:=nJ h;exact⟨j+1,q,by simpa using h1,by simpa using c,f⟩|[],_,_,_,h=>by simp[nR]at h|_::_,[],_,_,h=>by simp[nR]at h
theorem zE:∀{as:List Addr}{ps:List (Int×Int)},as.Pairwise (·<·)->∀{j:Nat}{b:Addr}{p:Int×Int},as[j]?=some b->ps[j]?=some p->nR as ps b=some (ZL p)|[],_,_,_,_,_,h,_=>by simp at h|_::_,[],_,_,_,_,_,h=>by simp at h|a::as,q::ps,c,j,b,p,h1,f=>by unfold nR;cases j with|zero=>cases h1;cases f;rw[if_pos rfl]|succ j=>
     have h1:as[j]?=some b:=by simpa using h1
     have:=(List.pairwise_cons.mp c).1 b (mem_of_getElem? h1);rw[if_neg (λe=>by rw[e]at this;exact lt_irrefl _ this)];exact zE (List.pairwise_cons.mp c).2 h1 (by simpa using f)
theorem pg:∀as:List Addr,Vals (as.map V.ref) (as.map Value.ref)|[]=>.nil|_::as=>.cons rfl (pg as)
theorem zK{K:PySem.W.Frag}{F:Hp}:∀{as:List Addr}{ps:List (Int×Int)},as.length=ps.length->(∀(j:Nat)(b:Addr)(p:Int×Int),as[j]?=some b->ps[j]?=some p->F b=some (ZL p))->aB K F (as.map V.ref) (ps.map cX)|[],[],_,_=>.nil|a::as,p::ps,c,h=>.cons (by have:=h 0 a p rfl rfl;rw[show cX p=.tup [.int p.1,.int p.2]from rfl,Rep];refine⟨a,_,rfl,.inl (.inl this),.cons (by rw[Rep]) (.cons (by rw[Rep]) .nil)⟩) (zK (by simpa using c) λj b q h1 e=>h (j+1) b q (by simpa using h1) (by simpa using e))|[],_::_,c,_=>by simp at c|_::_,[],c,_=>by simp at c
theorem zH{h:Heap}:∀{as:List Addr}{ps:List (Int×Int)},as.length=ps.length->(∀(j:Nat)(b:Addr),as[j]?=some b->∃p,ps[j]?=some p/\∃t u,h.get? b=some {cls:=.type "tuple",data:=.seq #[Value.int p.1 t,Value.int p.2 u]})->Paired (m7 h) (as.map Value.ref) (ps.map cX)|[],[],_,_=>.nil|a::as,p::ps,c,h=>.cons (by obtain⟨q,e,t,u,g⟩:=h 0 a rfl;cases e;exact⟨a,[Value.int p.1 t,Value.int p.2 u],[p.1,p.2],rfl,⟨_,g,rfl,0,rfl⟩,.cons _ _ (.cons _ _ .nil),by simp,rfl⟩) (zH (by simpa using c) λj b h1=>by simpa using h (j+1) b (by simpa using h1))|[],_::_,c,_=>by simp at c|_::_,[],c,_=>by simp at c
theorem u9{prog:Program}{w:World}{A:Around}{E:Value->Shared->Prop}{s:Shared}{v d:Addr}{kvs:List (Key×Value)}{ep:Nat}{Q:List Value->Shared->Prop}(n:A.handled=none)(i:s.heap.IsItemsView v d)(j:s.heap.DictAt (aR prog w) d kvs ep)(p:kvs.length<=sizeLine)(t:∀(h':Heap)(f:Nat)(as:List Addr),(∀b o,s.heap.get? b=some o->h'.get? b=some o)->s.heap.objs.size<h'.objs.size->as.length=kvs.length->KdxG (aR prog w) kvs s.heap.objs.size h' as->Q (as.map Value.ref) {s with heap:=h',toks:=f}):wpAny (model prog w) A (collect (.ref v)) Q E s:=by
 have g:v<s.heap.objs.size:=let⟨_,h1,_⟩:=i;lt_size h1;have h:d<s.heap.objs.size:=j.lt_size;unfold collect;refine wpAny_bind (wpAny_runValue (codeAny_builtin F.entry_proto_collect ?_));rw[Around.under_plainId F.plain_proto_collect _];show wpAny _ A.in1 (newList []>>=λl=>again (.builtin "list.__iadd__" ⟨[l,.ref v],[]⟩)) _ _ s;refine wpAny_bind (wpAny_newObj_type (wpAny_pure ⟨plainId_quiet F.plain_list_iadd _,codeAny_builtin F.entry_list_iadd ?_⟩));rw[Around.under_plainId F.plain_list_iadd _];show wpAny _ A.in1 (listExtendWith (.ref s.heap.objs.size) (.ref v) (.ref s.heap.objs.size)) _ _ _;refine kdx_extend (A:=A) (R:=λr k=>match r with
  |.ok (.ret v)=>wpAny (model prog w) A (match v with
   |.ref a=>do let o<-load a match o.data with|.seq xs _=>pure xs.toList|_=>unsupported "internal:collect"
   |_=>unsupported "internal:collect") Q E k|.ok _=>False|.error e=>E e k) (s:={s with heap:=s.heap.push {cls:=.type "list",data:=.seq #[]}}) n (let⟨o,h1,q⟩:=i;⟨o,gW h1,q⟩) (j.at' λo e=>gW e) s.heap.objs.size (Nat.ne_of_gt g) (ne_of_lt h) _ 0 (get?_push_size _ rfl) (λh' f u B as x m y z c=>?_) p;refine wpAny_bind (wpAny_load m (wpAny_pure ?_));rw[c];exact t h' f as (λb o e=>x b o (ne_of_lt (lt_size e)) (gW e)) (lt_size m) y (z.low (by rw[size_push'];exact le_succ _))
section
variable{X:Cx}{c:Call}{a:Expr}{pa:P}{pos:Pos}
theorem Dd:MtR X "dict.items" Dn:=by rintro f s σ H x xs v u Q I h i⟨q,j,kvs,rfl,rfl,l,k⟩;cases h;cases i;obtain⟨ho,hz,m,vs,r,g⟩:=(show aY X.prog X.w H s.heap q (.cO j (.dK (kvs.map qH)))from I.hok q _ l);refine call_meetsIn PySem.F.slot_dict_items g.typeIs PySem.F.entry_dict_items (PySem.F.args_dict_items_1 _) (meets_dict_items _ q m) ⟨⟨vs,g⟩,?_⟩;have n:(s.heap.push {cls:=.type "dict_items",data:=.fields #[.ref q]}).IsItemsView s.heap.objs.size q:=⟨_,get?_push_size _ rfl,rfl,rfl⟩;refine⟨.ref s.heap.objs.size,_,I.laid (t':=s.toks) (o:=.ext (iv s.heap.objs.size q)) (λb o e=>gW e) (dC) ⟨n,⟨_,get?_push_size _ rfl⟩,λh1 y z k=>?_⟩,rfl,k _ (I.hok.fresh (dC))⟩;obtain⟨o,p,t⟩:=z;exact⟨o,k o p,t⟩
theorem PX(hc:X.calm=true):dH X (.builtin "sorted") (rIt X):=by
 rintro ai s σ H xs us Q I r⟨l,q,ob,kvs,hx,hl,hq,⟨al,ac⟩,F,sm,k⟩;subst hx;have so:sortable (kvs.map cX)=true:=by
  have:(kvs.map cX).all vW=true:=by rw[all_eq_true];intro x hx;obtain⟨p,_,rfl⟩:=mem_map.mp hx;rfl
  simp only[sortable,length_map,this,Bool.or_true,Bool.and_true,decide_eq_true_eq];omega
 have J:(kvs.map cX).Pairwise λa b=>lq a b=true:=by rw[List.pairwise_map];refine ac.imp λ{a b}h=>?_;show(!bf [b.1,b.2] [a.1,a.2])=true;simp[bf];omega
 have ae:NK (kvs.map cX)=kvs.map cX:=(pL so (.refl _) J).symm;rw[<-ae]at k;obtain⟨u,rfl,rx⟩:=r.one;cases rx;obtain⟨Yt,_,_⟩:=(show aY X.prog X.w H s.heap l (.ext (iv l q))from I.hok l _ hl);obtain⟨ho,hz,hS,vs,rv,dd⟩:=(show aY X.prog X.w H s.heap q (.cO ob (.dK (kvs.map qH)))from I.hok q _ hq);have L:vs.length=kvs.length:=by rw[<-Paired.length rv,length_map]
 obtain⟨f,es,ep,d1,d2,d3,d4⟩:=dd;have dat:s.heap.DictAt (aR X.prog X.w) q vs ep:=⟨f,es,d1,d2,d3,d4⟩;refine Calls.call_function_entry kind_sorted plain_sorted entry_sorted (args_sorted1 _) ?_;unfold Builtin.«sorted»;refine wpAny_bind (m:=checkCount "sorted" 1 1 _) (wpAny_pure ?_);refine wpAny_bind (u9 (A:=X.A.in1) (I.ok.hd hc) Yt dat (by rw[L,sizeLine_eq];omega) λh1 M as kp hsz N hG=>?_);have hsz:=le_of_lt hsz;have g:as.length=kvs.length:=N.trans L;have pr:=vG rv N hG.pairs;have tt:Paired (m7 h1) (as.map Value.ref) (kvs.map cX):=zH g pr;have O:∀a o,nR as kvs a=some o->s.heap.objs.size<=a:=λa o e=>by obtain⟨j,p,U,_,_⟩:=nJ e;exact le_of_lt (hG.above a (mem_of_getElem? U))
 have i:∀a o,nR as kvs a=some o->H a=none:=λa o e=>I.hok.fresh (O a o e);have B:aF H (wR (nR as kvs) H):=λb o e=>by cases z:nR as kvs b with|none=>rw[gD z];exact e|some f=>rw[i b f z]at e;cases e
 have e0:Ext F H (wR (nR as kvs) F) (wR (nR as kvs) H):=by
  refine⟨B,λb o e=>?_,λb o e=>?_,λb n n'=>?_⟩;.cases z:nR as kvs b with|none=>rw[gD z];exact e|some f=>have n0:=i b f z;rw[sm b o e]at n0;cases n0
  .cases z:nR as kvs b with|none=>rw[gD z]at e ⊢;exact sm b o e|some f=>rw[tY z]at e ⊢;exact e
  .cases z:nR as kvs b with|none=>rw[gD z]at n';exact absurd n n'|some f=>rw[i b f z];rfl
 have rs:aB X.K (wR (nR as kvs) F) (as.map V.ref) (kvs.map cX):=zK g λj b p h1 h2=>tY (zE hG.rise h1 h2);have vv:=pg as;have af:∀b∈as,b<h1.objs.size:=λb hb=>hG.there hb;have Yu:(as.map Value.ref).length=kvs.length:=by rw[length_map];exact g
 refine wpAny_bind (wpAny_newList ?_ (by rw[Yu,sizeLine_eq];omega));generalize W:(h1.push {cls:=.type "list",data:=.seq (as.map Value.ref).toArray}:Heap)=G;have Y:G.get? h1.objs.size=some (seqObj "list" (as.map Value.ref).toArray 0):=by rw[<-W];exact get?_push_size _ rfl
 have HQ:∀b o,h1.get? b=some o->G.get? b=some o:=λb o e=>by rw[<-W];exact gW e
 have E:∀b o,h1.get? b=some o->b≠h1.objs.size:=λb o e=>ne_of_lt (lt_size e);show wpAny _ _ _ _ _ {s with heap:=G,toks:=M};refine wpAny_bind (wpAny_holding (wpAny_call_entry slot_list_sort ⟨_,Y,rfl⟩ entry_list_sort ?body (args_list_sort _)));case body=>
  refine FN (s:={s with heap:=G,toks:=M}) (κ:=tuples' (Value.type "int"!=Value.type "tuple")) Y so (by omega) tt Kv J (λh' k' C hC h2=>?_) (λh' k' u v d e hd he C hC=>?_) λh' cc p k' p1 p2 e=>?_;.exact Bj (s:={s with heap:=h',toks:=M}) (rF (λb o z=>k' b o (E b o z) (HQ b o z)) tt) h2 hC
  .have Z:∀b o,h1.get? b=some o->h'.get? b=some o:=λb o z=>k' b o (E b o z) (HQ b o z);exact Jd (s:={s with heap:=h',toks:=M}) (lU Z hd) (lU Z he) hC
  . refine⟨_,rfl,wpAny_pure ⟨_,rfl,?_⟩⟩;have Z:∀b o,h1.get? b=some o->h'.get? b=some o:=λb o z=>k' b o (E b o z) (HQ b o z);have hL:nR as kvs h1.objs.size=none:=by cases z:nR as kvs h1.objs.size with|none=>rfl|some o=>obtain⟨j,p,U,_,_⟩:=nJ z;exact absurd (af _ (mem_of_getElem? U)) (lt_irrefl _)
    have ag:upd (wR (nR as kvs) H) h1.objs.size (.lst (pick .non p (as.map V.ref)))=wR (λb=>if b=h1.objs.size then some (.lst (pick .non p (as.map V.ref)))else nR as kvs b) H:=by
     funext b;unfold upd wR;by_cases z:b=h1.objs.size;.rw[if_pos z];simp only[if_pos z]
     .rw[if_neg z];simp only[if_neg z]
    have I':=VL (t':=M) (h':=h') (nw:=λb=>if b=h1.objs.size then some (.lst (pick .non p (as.map V.ref)))else nR as kvs b) I (λb o z=>Z b o (kp b o z)) (λa o z=>by
     by_cases y:a=h1.objs.size;.rw[y];exact hsz
     .simp only[if_neg y]at z;exact O a o z) (λa o z=>by
     by_cases y:a=h1.objs.size;.simp only[if_pos y]at z;cases z;subst y;exact⟨by rw[oH p1,Yu,sizeLine_eq];omega,pick .none p (as.map Value.ref),cc,Ex vv,e⟩
     .simp only[if_neg y]at z;obtain⟨j,p',U,e2,rfl⟩:=nJ z;obtain⟨am,e3,t,u,e4⟩:=pr j a U;rw[e2]at e3;cases e3;exact⟨by rw[sizeLine_eq];simp,[Value.int p'.1 t,Value.int p'.2 u],.cons ⟨t,rfl⟩ (.cons ⟨u,rfl⟩ .nil),⟨_,Z _ _ e4,rfl,0,rfl⟩⟩);rw[<-ag]at I';refine⟨.ref h1.objs.size,_,I',rfl,?_⟩;have ah:aB X.K (wR (nR as kvs) F) (pick .non p (as.map V.ref)) (NK (kvs.map cX)):=by rw[<-p2];exact Dt rs
    refine yc e0.sub ah (by rw[gD hL];exact I.hok.fresh hsz) λv F2 G x rn=>k v F2 G ⟨e0.hs.trans x.hs,e0.fs.trans x.fs,x.sub,λc n n'=>?_⟩ ?_
    . by_cases e:wR (nR as kvs) F c=none;.have:=x.gr c e n';cases z:H c with|none=>rfl|some o=>rw[B c o z]at this;exact this
      .exact e0.gr c n e
    obtain⟨b,xs,q1,q2,q3,q4,q5⟩:=rn;refine⟨b,xs,q1,q2,q3,q4,?_⟩;cases z:H b with|none=>rfl|some o=>rw[B b o z]at q5;cases q5
theorem Ha{o:Expr}{to:TE}{f g:Pos}(ho:PE X o to)(j:attributeBase o "items" X.env (eval o X.env)=eval o X.env:=by rfl)(l:(f.endLine==g.line)=true:=by rfl):PE X (.Call (.Attribute o "items" f) [] [] g) (λσ H Q=>to σ H λx m=>Dn x [] m Q):=by intro i s σ H Q I h;refine wpAny_Call_method0_late j l (bU (ho i s σ H _ I h) λv s1⟨x,m,I1,r1,q1⟩=>?_);obtain⟨q,u,kvs,rfl,_,y,k⟩:=id q1;cases r1;obtain⟨ho,hz,z,vs,r,n,es,ep,p,t,A⟩:=(show aY X.prog X.w m s1.heap q (.cO u (.dK (kvs.map qH)))from I1.hok q _ y);refine⟨"dict","dict.items",PySem.F.plainAttrs_dict,PySem.F.slot_dict_items,PySem.F.type_dict_items,⟨n,p,t.1⟩,λb e=>?_,Calls.callWith_builtin rfl (PySem.evalArgs_none (Dd i s1 σ m (.ref q) [] _ [] Q I1 rfl .nil q1))⟩;cases e;exact⟨n,p,t.2.1⟩
theorem J5{x:Str}{O f j:Pos}{o:Expr}(U:x="sorted")(hc:X.calm=true)(W:Gl X x)(Y:X.mg x=none)(p:(f.endLine==j.line)=true)(Z:SX X c o pa)(s:attributeBase o "items" X.env (eval o X.env)=eval o X.env:=by rfl):SX X c (.Call (.Name x O) [.Call (.Attribute o "items" f) [] [] j] [] pos) (.blt .Hx [pa]):=by
 subst U;obtain⟨ta,h1,h3⟩:=Z.cG;refine⟨dX (fj (PX hc) W Y boot_sorted (cW (Ha h1 s p) dR)) ?_,λi h=>by cases h⟩;rintro σ H Q⟨F,ρ,r,B,g,e,k⟩;have e:((cG (isVar pa) (HH.ev c pa) ρ).bind λx ρ=>lift (blt .Hx [x]) ρ)=.ok r B:=e;obtain⟨d,ac,e1,u⟩:=aa e;have zz:=aD u;clear u;obtain⟨u,e3⟩:=zz;subst e3;refine h3 g e1 λv I H' st pv=>?_;obtain⟨kvs,rfl⟩:∃kvs,d=.dq (.k kvs):=by cases d with
  |dq m=>cases m with|k kvs=>exact⟨kvs,rfl⟩|t kvs=>cases u
  |_=>cases u
 obtain⟨so,he⟩:=aV (show(if kvs.length<=16777216/\kvs.Pairwise (λa b=>a.1<b.1)then some (R.own (kvs.map cX))else none)=some r from u);subst he;obtain⟨q,J,rfl,L⟩:=pv.dq st.gs.sub;refine⟨q,J,kvs,rfl,rfl,L,λl y=>⟨l,q,J,kvs,rfl,aA,aF.cg y q _ L,so,I,λb o e=>aF.cg y b o (st.gs.sub b o e),λw C E A rn=>?_⟩⟩;have sm:aF H' (upd H' l (.ext (iv l q))):=aF.cg y;have x3:Ext I H' C E:=⟨sm.trans A.hs,A.fs,A.sub,λb n n'=>by
  have:=A.gr b n n';by_cases M:b=l;.subst M;rw[y];rfl
  .rw[ao M]at this;exact this⟩;have G:bW X.K C E H' w (.own (kvs.map cX)):=by obtain⟨b,xs,q1,q2,q3,q4,N⟩:=rn;refine⟨b,xs,q1,q2,q3,q4,?_⟩;cases z:H' b with|none=>rfl|some o=>rw[sm b o z]at N;cases N
 exact k w C E (st.trans (x3.stp st.gs)) (.later st (G.nu st.gs))
end
end HH
end
section
namespace HH
open PySem L2 PySem.Spec PyProof.Rows
variable{o:Option V}{rows:List (List D)}
section
variable{K:PySem.W.Frag}{F F' F1 H H' H1 F0 H0:Hp}{ρ ρ' ρ1 ρ0:List Sl}{σ σ' σ1 σ0:L2.St}{x:Nat}{q:Addr}{as:List Addr}{rows m5:List (List D)}
noncomputable def G5:Sl->Bool|.aL=>true|.hold _=>true|_=>false
theorem gw{s:Sl}{i:Nat}{b:Addr}(g:G5 s=true)(h:aM (ρ.set x s) (σ.set x o) i b):aM ρ σ i b/\i≠x:=by
 obtain⟨⟨t,ds,e,a⟩,f⟩:=h;by_cases c:x=i
 . subst c;rw[List.getElem?_set]at e;rw[if_pos rfl]at e;split at e;.cases e;cases s<;>first|(cases a;done)|(cases g;done)
   .cases e
 .rw[getElem?_set_ne c]at e f;exact⟨⟨⟨t,ds,e,a⟩,f⟩,λz=>c z.symm⟩
theorem GS.Ah{s:Sl}(f:G5 s=true)(g:GS K F ρ σ H):GS K F (ρ.set x s) (σ.set x o) H:=by
 refine⟨g.sub,by simp[g.len],λi b d e=>?_,λi t ds e h=>?_,λi j a h1 k=>g.dis i j a (gw f h1).1 (gw f k).1⟩
 . by_cases c:x=i
   . subst c;rw[List.getElem?_set,if_pos rfl]at e;split at e;.cases e;cases f
     .cases e
   .rw[getElem?_set_ne c]at e ⊢;exact g.val i b d e
 . by_cases c:x=i
   . subst c;rw[List.getElem?_set,if_pos rfl]at e;split at e;.cases e;cases s<;>first|(cases h;done)|(cases f;done)
     .cases e
   .rw[getElem?_set_ne c]at e ⊢;exact g.own i t ds e h
theorem au.Ah{s:Sl}{o:Option V}(a:G5 s=true)(t:au K F ρ σ H F1 ρ1 σ1 H1)(f:∀s0,ρ[x]?=some s0->rO s0=false):au K F ρ σ H F1 (ρ1.set x s) (σ1.set x o) H1:=by
 refine⟨t.gs.Ah a,t.cV,t.uU,t.keep,λb⟨i,h⟩=>t.uV b ⟨i,(gw a h).1⟩,by simp[t.len],λi g e l=>?_⟩;have c:x≠i:=by rintro rfl;rw[f _ e]at l;cases l
 obtain⟨j,s2,k,m⟩:=t.lk i g e l;exact⟨by rw[getElem?_set_ne c];exact j,s2,by rw[getElem?_set_ne c];exact k,m⟩
theorem au.free{i:Nat}{s1:Sl}(t:au K F ρ σ H F1 ρ1 σ1 H1)(h:ρ1[i]?=some s1)(a:rO s1=false):∀s0,ρ[i]?=some s0->rO s0=false:=λs0 e=>by cases z:rO s0 with|false=>rfl|true=>obtain⟨_,s2,b,c⟩:=t.lk i s0 e z;rw[h]at b;cases b;rw[c.rO z]at a;cases a
structure Sh(F:Hp)(ρ:List Sl)(σ:L2.St)(H:Hp)(a:Addr)(xs:List V):Prop where kp:Kp ρ σ H a (.lst xs)fr:F a=none
theorem Sh.stp{a:Addr}{xs:List V}(h:Sh F ρ σ H a xs)(s:au K F ρ σ H F' ρ' σ' H'):Sh F' ρ' σ' H' a xs:=by refine⟨h.kp.stp s,?_⟩;cases z:F' a with|none=>rfl|some o=>
   rcases s.uU a h.fr (by rw[z];simp)with y|y;.exact absurd y h.kp.2
   .rw[h.kp.1]at y;cases y
structure Nw(K:PySem.W.Frag)(x:Nat)(q:Addr)(as:List Addr)(F:Hp)(ρ:List Sl)(σ:L2.St)(H:Hp)(rows:List (List D)):Prop where
 slot:ρ[x]?=some (.hold rows)val:σ[x]?=some (some (.ref q))out:Sh F ρ σ H q (as.map V.ref)nd:(q::as).Nodup
 len:as.length=rows.length
 row:∀(k:Nat)(a:Addr)(ds:List D),as[k]?=some a->rows[k]?=some ds->Wt K F ρ σ H a ds
theorem Nw.stp(w:Nw K x q as F ρ σ H rows)(s:au K F ρ σ H F' ρ' σ' H'):Nw K x q as F' ρ' σ' H' rows:=by obtain⟨b,s2,c,e⟩:=s.lk x _ w.slot rfl;cases(show s2=.hold rows from e);exact⟨c,b.trans w.val,w.out.stp s,w.nd,w.len,λk a ds h1 f=>(w.row k a ds h1 f).stp s⟩
structure NB(K:PySem.W.Frag)(x:Nat)(q:Addr)(as:List Addr)(F0:Hp)(ρ0:List Sl)(σ0:L2.St)(H0:Hp)(F:Hp)(ρ:List Sl)(σ:L2.St)(H:Hp)(rows:List (List D)):Prop where
 stp:au K F0 ρ0 σ0 H0 F ρ σ H
 fresh:∀b,b∈q::as->Own ρ0 σ0 b\/H0 b=none
 free:∀s0,ρ0[x]?=some s0->rO s0=false
 nw:Nw K x q as F ρ σ H rows
theorem NB.step(b:NB K x q as F0 ρ0 σ0 H0 F ρ σ H rows)(s:au K F ρ σ H F' ρ' σ' H'):NB K x q as F0 ρ0 σ0 H0 F' ρ' σ' H' rows:=⟨b.stp.trans s,b.fresh,b.free,b.nw.stp s⟩
theorem zx{s:Sl}{a:Addr}{b:HO}(c:G5 s=true)(h:Kp ρ σ H a b):Kp (ρ.set x s) (σ.set x o) H a b:=⟨h.1,λ⟨i,z⟩=>h.2 ⟨i,(gw c z).1⟩⟩
theorem Lw{s:Sl}{a:Addr}{ds:List D}(b:G5 s=true)(h:Wt K F ρ σ H a ds):Wt K F (ρ.set x s) (σ.set x o) H a ds:=by obtain⟨⟨xs,h1,c⟩,e⟩:=h;exact⟨⟨xs,zx b h1,c⟩,e⟩
theorem au.abz{Da:Addr}{o:HO}(s:au K F ρ σ H F1 ρ1 σ1 H1)(h:Own ρ σ Da\/H Da=none)(g:F1 Da=none)(ho:¬ Own ρ1 σ1 Da):au K F ρ σ H F1 ρ1 σ1 (upd H1 Da o):=by
 refine⟨⟨λb u e=>?_,s.gs.len,s.gs.val,λi t ds e c=>?_,s.gs.dis⟩,s.cV,s.uU,λb u e n=>?_,s.uV,s.len,s.lk⟩
 . have:b≠Da:=by rintro rfl;rw[g]at e;cases e
   rw[ao this];exact s.gs.sub b u e
 . obtain⟨a,xs,f,j,k,l⟩:=s.gs.own i t ds e c;have:a≠Da:=by rintro rfl;exact ho ⟨i,⟨t,ds,e,c⟩,f⟩
   exact⟨a,xs,f,by rw[ao this];exact j,k,l⟩
 . have:b≠Da:=by
    rintro rfl;rcases h with h|h;.exact n h
    .rw[h]at e;cases e
   rw[ao this];exact s.keep b u e n
theorem NB.mut{r:Nat}{a:Addr}{row e:List D}{ys:List V}(b:NB K x q as F0 ρ0 σ0 H0 F ρ σ H rows)(g:as[r]?=some a)(hr:rows[r]?=some row)(n:aB K F ys e):NB K x q as F0 ρ0 σ0 H0 F (ρ.set x (.hold (rows.set r e))) σ (upd H a (.lst ys)) (rows.set r e):=by
 have w:=b.nw.row r a row g hr;obtain⟨⟨xs,l,r1⟩,f1⟩:=w;have p:x<ρ.length:=(eN b.nw.slot).1;have sx:σ.set x (some (.ref q))=σ:=by have:=b.nw.val;obtain⟨h1,f⟩:=eN this;rw[<-f];simp
 have mem:a∈q::as:=mem_cons_of_mem _ (mem_of_getElem? g);have s1:=(b.stp.abz (o:=.lst ys) (b.fresh a mem) f1 l.2).Ah (x:=x) (s:=.hold (rows.set r e)) (o:=some (.ref q)) rfl b.free;rw[sx]at s1;have t:q≠a:=by have:=(nodup_cons.mp b.nw.nd).1;rintro rfl;exact this (mem_of_getElem? g)
 have own:∀{c:Addr},¬ Own ρ σ c->¬ Own (ρ.set x (.hold (rows.set r e))) σ c:=λ{c}h⟨i,z⟩=>h ⟨i,by have:=gw (x:=x) (s:=.hold (rows.set r e)) (o:=some (.ref q)) (σ:=σ) (ρ:=ρ) rfl (b:=c) (i:=i) (by rw[sx];exact z);exact this.1⟩;refine⟨s1,b.fresh,b.free,⟨getElem?_set_self p,b.nw.val,⟨⟨by rw[ao t];exact b.nw.out.kp.1,own b.nw.out.kp.2⟩,b.nw.out.fr⟩,b.nw.nd,by simp[b.nw.len],λk c ds h1 f=>?_⟩⟩;by_cases j:k=r;.subst j;rw[g]at h1;cases h1;have u:k<rows.length:=(eN hr).1;rw[getElem?_set_self u]at f;cases f;exact⟨⟨ys,⟨aA,own l.2⟩,n⟩,f1⟩
 . rw[getElem?_set_ne (λz=>j z.symm)]at f;obtain⟨⟨v,m,y⟩,f2⟩:=b.nw.row k c ds h1 f;have nc:c≠a:=by rintro rfl;have nd:=(nodup_cons.mp b.nw.nd).2;obtain⟨C,A⟩:=eN h1;obtain⟨l2,B⟩:=eN g;exact j ((List.getElem_inj nd).mp (A.trans B.symm))
   exact⟨⟨v,⟨by rw[ao nc];exact m.1,own m.2⟩,y⟩,f2⟩
noncomputable def Fz(F H:Hp)(bs:List Addr):Hp:=λb=>if b∈bs then H b else F b
theorem rN{G:Hp}:∀{as:List Addr}{rows:List (List D)},as.length=rows.length->(∀(k:Nat)(a:Addr)(ds:List D),as[k]?=some a->rows[k]?=some ds->Rep K G (.ref a) (.lst ds))->aB K G (as.map V.ref) (rows.map D.lst)|[],[],_,_=>.nil|a::as,ds::rows,h,k=>.cons (k 0 a ds rfl rfl) (rN (by simpa using h) λj b es h1 c=>k (j+1) b es (by simpa using h1) (by simpa using c))|[],_::_,h,_=>by simp at h|_::_,[],h,_=>by simp at h
theorem Nw.Mx(w:Nw K x q as F ρ σ H rows){b:Addr}(hb:b∈q::as):F b=none/\¬ Own ρ σ b:=by
 rcases mem_cons.mp hb with rfl|hb;.exact⟨w.out.fr,w.out.kp.2⟩
 . obtain⟨k,a⟩:=List.getElem?_of_mem hb;have c:k<rows.length:=by rw[<-w.len];exact(eN a).1
   obtain⟨⟨xs,e,_⟩,f1⟩:=w.row k b rows[k] a (by simp[c]);exact⟨f1,e.2⟩
theorem Nw.fz(w:Nw K x q as F ρ σ H rows)(sm:aF F H):aF F (Fz F H (q::as))/\aF (Fz F H (q::as)) H/\Rep K (Fz F H (q::as)) (.ref q) (.lst (rows.map D.lst)):=by
 have s1:aF F (Fz F H (q::as)):=λb o e=>by unfold Fz;rw[if_neg λc=>by rw[(w.Mx c).1]at e;cases e];exact e
 refine⟨s1,λb o e=>?_,?_⟩
 . unfold Fz at e;split at e;.exact e
   .exact sm b o e
 .rw[Rep];refine⟨q,as.map V.ref,rfl,eG.of (by unfold Fz;rw[if_pos mem_cons_self];exact w.out.kp.1),rN w.len λk a ds h1 f=>?_⟩;obtain⟨⟨xs,g,r1⟩,f1⟩:=w.row k a ds h1 f;rw[Rep];exact⟨a,xs,rfl,eG.of (by unfold Fz;rw[if_pos (mem_cons_of_mem _ (mem_of_getElem? h1))];exact g.1),r1.mono s1⟩
theorem NB.cO(b:NB K x q as F0 ρ0 σ0 H0 F ρ σ H rows):au K F0 ρ0 σ0 H0 (Fz F H (q::as)) (ρ.set x (.val false (.lst (rows.map D.lst)))) σ H:=by
 obtain⟨s1,s2,u⟩:=b.nw.fz b.stp.gs.sub;have g:=b.stp.gs;have r:x<ρ.length:=(eN b.nw.slot).1;have k:∀{j:Nat}{c:Addr},aM (ρ.set x (.val false (.lst (rows.map D.lst)))) σ j c->aM ρ σ j c/\x≠j:=λ{j c}⟨⟨t,ds,e,m⟩,e1⟩=>by
  by_cases f:x=j;.subst f;rw[getElem?_set_self r]at e;cases e;cases m
  .rw[getElem?_set_ne f]at e;exact⟨⟨⟨t,ds,e,m⟩,e1⟩,f⟩
 refine⟨⟨s2,by simp[g.len],λi w d e=>?_,λi t ds e m=>?_,λi j c h1 p=>g.dis i j c (k h1).1 (k p).1⟩,b.stp.cV.trans s1,λc n s=>?_,b.stp.keep,λc⟨j,h⟩=>b.stp.uV c ⟨j,(k h).1⟩,by simp[b.stp.len],λi t e l=>?_⟩
 . by_cases f:x=i;.subst f;rw[getElem?_set_self r]at e;cases e;exact⟨_,b.nw.val,u⟩
   .rw[getElem?_set_ne f]at e;obtain⟨v,h1,p⟩:=g.val i w d e;exact⟨v,h1,p.mono s1⟩
 . by_cases f:x=i;.subst f;rw[getElem?_set_self r]at e;cases e;cases m
   .rw[getElem?_set_ne f]at e;obtain⟨a,o,h1,p,y,z⟩:=g.own i t ds e m;refine⟨a,o,h1,p,?_,z.mono s1⟩;unfold Fz;rw[if_neg λA=>(b.nw.Mx A).2 ⟨i,⟨t,ds,e,m⟩,h1⟩];exact y
 . by_cases hc:c∈q::as;.exact(b.fresh c hc).imp id jC
   . have:Fz F H (q::as) c=F c:=by unfold Fz;rw[if_neg hc]
     rw[this]at s;exact b.stp.uU c n s
 . have c:x≠i:=by rintro rfl;rw[b.free _ e]at l;cases l
   obtain⟨B,s3,C,E⟩:=b.stp.lk i t e l;exact⟨B,s3,by rw[getElem?_set_ne c];exact C,E⟩
end
inductive Rf(K:PySem.W.Frag)(x:Nat)(f:List Sl->Res Fl)(E:Ends)(σ:L2.St)(H:Hp):Prop where|mk(F0:Hp)(ρ0:List Sl)(σ0:L2.St)(H0 F:Hp)(ρ:List Sl)(q:Addr)(as:List Addr)(rows:List (List D))(fl:Fl)(ρ':List Sl)(b:NB K x q as F0 ρ0 σ0 H0 F ρ σ H rows)(e:f ρ=.ok fl ρ')(k:∀F' σ' H',au K F0 ρ0 σ0 H0 F' ρ' σ' H'->aF F F'->((∀r,fl≠.ret r)->∃m5,NB K x q as F0 ρ0 σ0 H0 F' ρ' σ' H' m5)->DY K E F' ρ' σ' H' ρ0 σ0 H0 fl)
inductive V8(K:PySem.W.Frag)(x:Nat)(f:List Sl->Res Fl)(E:Ends)(σ:L2.St)(H:Hp):Prop where|mk(F0:Hp)(ρ0:List Sl)(σ0:L2.St)(H0 F:Hp)(ρ:List Sl)(q:Addr)(as:List Addr)(rows:List (List D))(fl:Fl)(ρ':List Sl)(b:NB K x q as F0 ρ0 σ0 H0 F ρ σ H rows)(e:f ρ=.ok fl ρ')(k:∀F' σ' H',au K F0 ρ0 σ0 H0 F' ρ' σ' H'->DY K E F' ρ' σ' H' ρ0 σ0 H0 fl)
structure Vp(X:Cx)(c:Call)(n x:Nat)(st:Stmt)(s:S):Prop where p:PS X st (Rf X.K x (ex c n s))
structure Uk(X:Cx)(c:Call)(n x:Nat)(st:List Stmt)(s:List S):Prop where p:qC X st (Rf X.K x (gY c n s))
structure ZW(X:Cx)(c:Call)(n x:Nat)(st:List Stmt)(s:List S):Prop where p:qC X st (V8 X.K x (gY c n s))
section
variable{X:Cx}{c:Call}{n x:Nat}{e a b d tg iter:Expr}{p pa pb pd:P}{pos:Pos}{body:List Stmt}{ss:List S}{st:Stmt}{s:S}{sts:List Stmt}
theorem n6:Uk X c n x [] []:=⟨jm jB λD σ H⟨f,ρ0,σ0,H0,F,ρ,q,as,rows,fl,ρ',nb,e,k⟩=>by rw[xs0]at e;cases e;exact k F σ H nb.stp (.refl _) λ_=>⟨rows,nb⟩⟩
theorem pC(h1:Vp X c n x st s)(v:Uk X c n x sts ss):Uk X c n x (st::sts) (s::ss):=by refine⟨jm (bR h1.p v.p) ?_⟩;rintro D σ H⟨h,f,g,i,F,ρ,q,as,rows,fl,m,nb,e,k⟩;rw[NT]at e;obtain⟨f1,j,l,e⟩:=aa e;cases f1 with|next=>refine⟨h,f,g,i,F,ρ,q,as,rows,.next,j,nb,l,λF1 w G s1 sm nn=>?_⟩;obtain⟨y,A⟩:=nn (λr z=>by cases z);exact⟨h,f,g,i,F1,j,q,as,y,fl,m,A,e,λB t C s2 E u=>k B t C s2 (sm.trans E) u⟩|brk=>cases e;exact⟨h,f,g,i,F,ρ,q,as,rows,.brk,_,nb,l,k⟩|cont=>cases e;exact⟨h,f,g,i,F,ρ,q,as,rows,.cont,_,nb,l,k⟩|ret r=>cases e;exact⟨h,f,g,i,F,ρ,q,as,rows,.ret r,_,nb,l,k⟩
theorem Ho(h1:Vp X c n x st s)(v:ZW X c n x sts ss):ZW X c n x (st::sts) (s::ss):=by refine⟨jm (bR h1.p v.p) ?_⟩;rintro D σ H⟨j,g,h,l,F,ρ,q,as,rows,fl,u,nb,e,k⟩;rw[NT]at e;obtain⟨f1,m,t,e⟩:=aa e;cases f1 with|next=>refine⟨j,g,h,l,F,ρ,q,as,rows,.next,m,nb,t,λF1 f i s1 sm nn=>?_⟩;obtain⟨w,y⟩:=nn (λr z=>by cases z);exact⟨j,g,h,l,F1,m,q,as,w,fl,u,y,e,k⟩|brk=>cases e;exact⟨j,g,h,l,F,ρ,q,as,rows,.brk,_,nb,t,λF1 f i s1 _ _=>k F1 f i s1⟩|cont=>cases e;exact⟨j,g,h,l,F,ρ,q,as,rows,.cont,_,nb,t,λF1 f i s1 _ _=>k F1 f i s1⟩|ret r=>cases e;exact⟨j,g,h,l,F,ρ,q,as,rows,.ret r,_,nb,t,λF1 f i s1 _ _=>k F1 f i s1⟩
theorem Kh(h:SB X c n sts ss):ZW X c n x sts (.cO x::ss):=by refine⟨jm h ?_⟩;rintro D σ H⟨y,j,l,A,F,ρ,q,as,rows,fl,f,nb,e,k⟩;rw[NT]at e;obtain⟨f1,m,i,e⟩:=aa e;rw[HH.X21,nb.nw.slot]at i;cases i;have t:=nb.cO;refine⟨_,_,fl,f,t.gs,e,λu g H' s=>?_⟩;have z:=k u g H' (t.trans s);cases fl with|next=>exact z|brk=>exact z|cont=>exact z|ret r=>exact λv w=>z v (w.later t)
theorem Pb{r u:List Stmt}{v w:List S}(hc:ST X c e p)(y:Uk X c n x r v)(z:Uk X c n x u w):Vp X c n x (.If e r u pos) (.ifs p v w):=by refine⟨fB (Hg hc y.p z.p) ?_⟩;rintro D σ H⟨A,j,l,B,F,ρ,q,as,rows,fl,i,nb,e,k⟩;rw[HH.YW]at e;obtain⟨t,g,C,e⟩:=aa e;refine⟨F,ρ,t,g,nb.stp.gs,C,λF1 E s1=>?_⟩;have go:∀{f:List Sl->Res Fl},f g=.ok fl i->Rf X.K x f D σ E:=λ{f}h=>⟨A,j,l,B,F1,g,q,as,rows,fl,i,nb.step s1,h,λG m I s2 sm nn=>k G m I s2 (s1.cV.trans sm) nn⟩;cases t with|true=>rw[if_pos rfl]at e;exact go e|false=>rw[if_neg Bool.false_ne_true]at e;exact go e
theorem Dh{ρ:List Sl}(h:iW ρ x=some rows):ρ[x]?=some (.hold rows):=by
 unfold iW at h;split at h;.rename_i z;cases h;exact z
 .cases h
def WalkN(K:PySem.W.Frag)(J:It)(ds:List D)(F1:Hp):Prop:=∀(k:Nat)(g H':Hp),aF F1 g->aF g H'->(∀d,ds[k]?=some d->J.go k H'/\∀x h,J.N6 k H' x h->∃f,Ext g H' f h/\Rep K f x d)/\(ds.length<=k->J.stop k H')
inductive abK(K:PySem.W.Frag)(f:Ev)(σ:L2.St)(H:Hp)(R:It->Hp->Prop):Prop where|mk(F:Hp)(ρ:List Sl)(r:HH.R)(ρ1:List Sl)(ds:List D)(g:GS K F ρ σ H)(e:f ρ=.ok r ρ1)(e2:items r.d=some ds)(k:∀J F1 H1,au K F ρ σ H F1 ρ1 σ H1->WalkN K J ds F1->R J H1)
structure SIN(X:Cx)(c:Call)(tg e:Expr)(p:P):Prop where p:PI X tg e (abK X.K (HH.ev c p))
theorem J1(h:SX X c e p):SIN X c tg e p:=by refine⟨rA (xR h.ev) ?_⟩;rintro σ H R⟨F,ρ,r,m,ds,g,e,f,k⟩;refine⟨F,ρ,r,m,g,e,λv y H' s t=>?_⟩;obtain⟨z,s2,_,i⟩:=s.cO t;cases hd:r.d with|tup es=>rw[hd]at i f;cases f;rw[Rep]at i;obtain⟨a,xs,rfl,h1,q⟩:=i;exact⟨a,rfl,.inr ⟨⟨xs,aF.jc s2.gs.sub h1⟩,k _ _ _ s2 λk u w j l=>zy (aF.jc l (aF.jc j h1)) (q.mono j) l k⟩⟩|lst es=>rw[hd]at i f;cases f;rw[Rep]at i;obtain⟨a,xs,rfl,h1,q⟩:=i;exact⟨a,rfl,.inl ⟨⟨xs,s2.gs.sub.seq h1⟩,k _ _ _ s2 λk u w j l=>pX (l.seq (j.seq h1)) (q.mono j) l k⟩⟩|_=>rw[hd]at f;cases f
theorem Cq{K:PySem.W.Frag}{F1:Hp}(i j:Int):WalkN K (VJ i (j-i).toNat) ((List.range (j-i).toNat).map λ(k:Nat)=>D.int (i+(k:Int))) F1:=by
 refine λk g H' _ sm=>⟨λd hd=>?_,λh=>?_⟩;.rw[getElem?_map]at hd;obtain⟨m,l,q⟩:=map_some hd;obtain⟨h1,f⟩:=eN l;rw[List.getElem_range]at f;subst f;subst q;rw[length_range]at h1;refine⟨h1,?_⟩;rintro x u⟨r,t⟩;subst r;subst t;exact⟨g,.refl sm,bT _⟩
 .rw[length_map,length_range]at h;exact h
theorem Gk{x:Str}{q:Pos}(t:x="range")(u:Gl X x)(w:X.mg x=none)(y:SX X c a pa)(hs:starEach [a] X.env=[(false,eval a X.env)]:=by rfl):SIN X c tg (.Call (.Name x q) [a] [] pos) (.wW (.con (.int 0)) pa):=by
 subst t;obtain⟨N,h1,z⟩:=y.cG;refine⟨rA (sH u w (cW h1 dR hs) hs) ?_⟩;rintro σ H R⟨F,ρ,r,A,ds,g,l,B,k⟩;rw[HH.E20]at l;obtain⟨O,C,E,f⟩:=aa l;have G:=aD f;clear f;obtain⟨f,I⟩:=G;subst I;obtain⟨Q,J,L,h⟩:=aa E;cases h;obtain⟨i,f1,f⟩:=cQ f;obtain⟨j,f2,f⟩:=cQ f;obtain⟨⟨b1,b2,b3,b4⟩,f⟩:=aV f;have f1:i=0:=by cases f1;rfl
 subst f1;subst f;cases B;cases dG f2;refine z g L λv m H' s M=>⟨j,by rw[M.int],by omega,by omega,?_⟩;have:=Cq (K:=X.K) (F1:=m) 0 j;rw[sub_zero]at this;refine k _ m H' s ?_;rw[sub_zero];exact this
theorem Ab{g:TG}{is:List Nat}{one:Bool}(hp:PassesOwn (model X.prog X.w) X.A X.env X.xe)(hc:X.calm=true)(hi:SIN X c tg iter p)(hg:PG X tg g)(ae:Gn X.K (λρ d=>cA ρ is one d) g)(hb:Uk X c n x body ss)(hs:∀x,foldedSetIterable iter X.env x=pure x:=by intro _;rfl):Vp X c n x (.For tg iter body [] pos) (.Cy p is one ss):=by
 refine⟨fB (GJ hp hc hi.p hg hb.p hs) ?_⟩;rintro D σ H⟨F0,C,E,H0,F,ρ,q,as,rows,fl,O,nb,e,k⟩;rw[HH.X20]at e;obtain⟨r,Q,e1,e⟩:=aa e;obtain⟨ds,ai,e9,e2⟩:=aa e;have zz:=aD e9;clear e9;obtain⟨e9,af⟩:=zz;subst af;refine⟨F,ρ,r,Q,ds,nb.stp.gs,e1,e9,λJ F1 H1 s1 w=>?_⟩;refine⟨λi m l Hi=>∃B f N,NB X.K x q as F0 C E H0 B f l Hi N/\aF F1 B/\m=ds.length-i/\i<=ds.length/\iT is one (gY c n ss) (ds.drop i) f=.ok fl O,⟨_,F1,Q,rows,nb.step s1,.refl _,rfl,uR,e2⟩,?_⟩;rintro i m l Hi⟨B,f,N,U,G,rfl,al,j⟩;obtain⟨w1,w2⟩:=w i B Hi G U.stp.gs.sub;by_cases t:i<ds.length
 . right;have hd:ds[i]?=some ds[i]:=by simp[t]
   obtain⟨go,step⟩:=w1 _ hd;refine⟨go,λW H'=>∃m',m'<ds.length-i/\∃B f N,NB X.K x q as F0 C E H0 B f W H' N/\aF F1 B/\m'=ds.length-(i+1)/\i+1<=ds.length/\iT is one (gY c n ss) (ds.drop (i+1)) f=.ok fl O,λW H' z=>z,λy H' yy=>?_⟩;obtain⟨F2,ext,rx⟩:=step y H' yy;have t2:=ext.stp U.stp.gs;rw[drop_eq_getElem_cons t,xU]at j;cases hbd:cA f is one ds[i]with|none=>rw[hbd]at j;cases j|some Y=>rw[hbd]at j;obtain⟨Z,I,eb,j⟩:=aa j;refine ae y _ F2 f Y l H' _ t2.gs rx hbd λam sb=>?_;have t3:=t2.trans sb;refine⟨F0,C,E,H0,F2,Y,q,as,N,Z,I,U.step t3,eb,λF4 ac H4 s4 ag L=>?_⟩;have u:aF F1 F4:=G.trans (ext.fs.trans ag);cases Z with|next=>obtain⟨HS,M⟩:=L (λr z=>by cases z);exact⟨_,by omega,F4,I,HS,M,u,rfl,t,j⟩|cont=>obtain⟨HS,M⟩:=L (λr z=>by cases z);exact⟨_,by omega,F4,I,HS,M,u,rfl,t,j⟩|brk=>cases j;exact k F4 ac H4 s4 (s1.cV.trans u) λ_=>L (λr z=>by cases z)|ret r=>cases j;exact λv rr=>k F4 ac H4 s4 (s1.cV.trans u) (λh=>(h r rfl).elim) v rr
 . left;have ah:ds.drop i=[]:=by rw[drop_eq_nil_iff];omega
   rw[ah,Hl]at j;cases j;exact⟨w2 (by omega),k B l Hi U.stp (s1.cV.trans G) λ_=>⟨N,U⟩⟩
end
section
variable{X:Cx}{c:Call}{n:Nat}{e a b d i j:Expr}{p pa pb pd pi pj:P}{pos:Pos}
theorem Kd{ρ f:List Sl}{x:Nat}{o:Option (List (List D))}{fl:Fl}(h:Cr ρ x o=.ok fl f):∃rows,o=some rows/\fl=.next/\f=ρ.set x (.hold rows):=by cases o with|none=>cases h|some rows=>cases h;exact⟨rows,rfl,rfl,rfl⟩
section
variable{K:PySem.W.Frag}{F H F0 H0:Hp}{ρ ρ0:List Sl}{σ σ0:L2.St}{x:Nat}{q:Addr}{as:List Addr}{rows m5:List (List D)}
theorem NB.hold(nb:NB K x q as F0 ρ0 σ0 H0 F ρ σ H rows)(h:iW ρ x=some m5):m5=rows:=by have:=Dh h;rw[nb.nw.slot]at this;cases this;rfl
theorem NB.at{k:Int}{r:Nat}{row:List D}(nb:NB K x q as F0 ρ0 σ0 H0 F ρ σ H rows)(h1:HH.gK rows.length k=some r)(g:rows[r]?=some row):∃a ys,as[r]?=some a/\BZ (as.map V.ref) k=some (.ref a)/\H a=some (.lst ys)/\aB K F ys row:=by
 have f:r<as.length:=by rw[nb.nw.len];exact(eN g).1
 obtain⟨⟨ys,h,r1⟩,_⟩:=nb.nw.row r as[r] row (by simp[f]) g;refine⟨as[r],ys,by simp[f],?_,h.1,r1⟩;unfold BZ;rw[length_map,nb.nw.len];rw[show L2.gK rows.length k=some r from h1];simp[f]
theorem NB.uH{g:D}{row:List D}(nb:NB K x q as F0 ρ0 σ0 H0 F ρ σ H rows)(h:HH.uH ρ x g=some row):∃k a,(∃r:Nat,as[r]?=some a)/\BZ (as.map V.ref) k=some (.ref a)/\g=.int k/\∃ys,H a=some (.lst ys)/\aB K F ys row:=by unfold HH.uH at h;obtain⟨f,h1,h⟩:=cQ h;cases nb.hold h1;obtain⟨k,l,h⟩:=cQ h;obtain⟨r,m,s⟩:=cQ h;obtain⟨a,ys,t,u,v,w⟩:=nb.at m s;exact⟨k,a,⟨r,t⟩,u,dG l,ys,v,w⟩
end
theorem Ci{l:List (List D)}{k:Int}{f:List D->Option (List D)}(h:jj rows k f=some l):∃r row g,HH.gK rows.length k=some r/\rows[r]?=some row/\f row=some g/\l=rows.set r g:=by unfold jj at h;obtain⟨r,h1,h⟩:=cQ h;obtain⟨row,m,h⟩:=cQ h;obtain⟨g,q,h⟩:=map_some h;exact⟨r,row,g,h1,m,q,h.symm⟩
theorem Gd{x:Str}{k:Nat}{u f h g:Pos}(hN:X.N[k]?=some x)(hv:vC X.env.scope x)(hi:SX X c i pi)(he:SX X c e p)(I:ur i:=by intro _ _;rfl)(l:(h.endLine==g.line)=true:=by rfl)(hs:starEach [e] X.env=(false,eval e X.env)::starEach [] X.env:=by rfl)(s:attributeBase (.Subscript (.Name x u) i f) "append" X.env (eval (.Subscript (.Name x u) i f) X.env)=eval (.Subscript (.Name x u) i f) X.env:=by rfl)(w:((backTo g (starEach [e] X.env)).all (λx=>!x.1)&&(backToKw g (keywordEach [] X.env)).all (λx=>x.1.isSome)&&decide ([e].length+([]:List Keyword).length+(if([]:List Keyword).isEmpty then 0 else 1)<30))=true:=by rfl)(J:swapsWith (.Call (.Attribute (.Subscript (.Name x u) i f) "append" h) [e] [] g) none pos.line X.env=pure false:=by rfl)(hd:(x==("__debug__":Str))=false:=by decide)(L:(x==("__classdict__":Str))=false:=by decide):Vp X c n k (.Expr (.Call (.Attribute (.Subscript (.Name x u) i f) "append" h) [e] [] g) pos) (.HF k pi p):=by obtain⟨ti,M,O⟩:=hi.cG;refine⟨fB (tE (Gs plainAttrs_list PySem.F.slot_list_append PySem.F.type_list_append lW (fu cu (aP hN hv hd L) M I) (cW he.ev dR hs) s w l hs) J) ?_⟩;rintro E σ H⟨F0,ai,al,H0,F,ρ,q,as,rows,fl,am,nb,e,kk⟩;rw[HH.X19]at e;obtain⟨dk,Q,e2,e⟩:=aa e;obtain⟨ag,ah,C,e⟩:=aa e;have zz:=aD C;clear C;obtain⟨C,U⟩:=zz;subst U;obtain⟨r,W,e3,e⟩:=aa e;obtain⟨rs,y,rfl,rfl⟩:=Kd e;refine⟨.ref q,nb.nw.val,O nb.stp.gs e2 λvi F1 H1 s1 pi=>?_⟩;have G:=nb.step s1;obtain⟨k0,a,g1,g2,g0,ys,g3,g4⟩:=G.uH C;rw[g0]at pi;refine⟨q,_,k0,_,rfl,pi.int,eG.of G.nw.out.kp.1,g2,.inl ⟨rfl,ys,eG.of g3⟩,F1,Q,r,W,G.stp.gs,e3,λv F2 H2 s2 rr=>?_⟩;obtain⟨F3,s3,_,rp⟩:=s2.cO rr;have t:=G.step s3;obtain⟨Y,e5,y⟩:=cQ y;cases t.hold e5;obtain⟨k1,e6,y⟩:=cQ y;obtain⟨m,row,jK,f1,f2,f3,rfl⟩:=Ci y;obtain⟨Z,rfl⟩:=aV f3;have:=dG e6;rw[g0]at this;cases this;obtain⟨a',ac,ae,z,af,A⟩:=t.at f1 f2;rw[g2]at z;cases z;have B:=t.mut ae f2 (A.append (.cons rp .nil));exact⟨a,ac,v,rfl,rfl,af,by rw[A.length];exact Z,kk F3 σ _ B.stp (s1.cV.trans s3.cV) λ_=>⟨_,B⟩⟩
end
section
variable{K:PySem.W.Frag}{F H F1 H1:Hp}{ρ ρ1:List Sl}{σ σ1:L2.St}
theorem au.since{b:Addr}(s:au K F ρ σ H F1 ρ1 σ1 H1)(h:H1 b=none):Own ρ σ b\/H b=none:=by
 by_cases ho:Own ρ σ b;.exact .inl ho
 .right;cases e:H b with|none=>rfl|some o=>rw[s.keep b o e ho]at h;cases h
theorem NB.mk'{x:Nat}{q:Addr}{as:List Addr}{s1:Sl}(s:au K F ρ σ H F1 ρ1 σ1 H1)(c:ρ1[x]?=some s1)(f:rO s1=false)(g:Sh F1 ρ1 σ1 H1 q (as.map V.ref))(nd:(q::as).Nodup)(len:as.length=rows.length)(row:∀(k:Nat)(a:Addr)(ds:List D),as[k]?=some a->rows[k]?=some ds->Wt K F1 ρ1 σ1 H1 a ds)(fr:∀b,b∈q::as->Own ρ σ b\/H b=none):NB K x q as F ρ σ H F1 (ρ1.set x (.hold rows)) (σ1.set x (some (.ref q))) H1 rows:=by
 have h:x<ρ1.length:=(eN c).1;have e:x<σ1.length:=by rw[<-s.gs.len];exact h
 exact⟨s.Ah rfl (s.free c f),fr,s.free c f,⟨getElem?_set_self h,getElem?_set_self e,⟨zx rfl g.kp,g.fr⟩,nd,len,λk a ds h1 i=>Lw rfl (row k a ds h1 i)⟩⟩
end
theorem G6{K:PySem.W.Frag}{F H:Hp}{ρ e j:List Sl}{σ:L2.St}{ul:List Sl->List Sl}{ti:TI}{is:List Nat}{one:Bool}{c:Call}{el:Ev}{g:TG}{Q:VK}{ds:List D}{m n:Nat}(hm:σ.length=m)(ax:pQ K m is one g)(ay:∀R:It->Hp->Prop,(∀J F1 X,Walk K F ρ σ H ul J ds F1 e X->R J X)->ti σ H R)(bo:ds.length<=lim)(e2:gk is one el ds [] (e++replicate n .aL)=.ok rows j)(k:∀ q as F' H',au K F ρ σ H F' (ul (j.take e.length)) σ H'->Sh F' (ul (j.take e.length)) σ H' q (as.map V.ref)->(q::as).Nodup->as.length=rows.length->(∀(k:Nat)(a:Addr)(ds:List D),as[k]?=some a->rows[k]?=some ds->Wt K F' (ul (j.take e.length)) σ H' a ds)->(∀b,b∈q::as->Own ρ σ b\/H b=none)->Q (.ref q) H'):rC n ti g (Fp K (tH c none)) (wL K el) σ H Q:=by
 refine ay _ λJ F1 X w Da Z=>?_;have aE:e.length=σ.length:=w.gs.len;have gm:=w.gs.more (n:=n) (τ:=replicate n none) (by simp);have fD:F1 Da=none:=by cases q:F1 Da with|none=>rfl|some o=>rw[w.gs.sub Da o q]at Z;cases Z
 have nO:¬ Own (e++replicate n .aL) (σ++replicate n none) Da:=λ⟨i,⟨t,dt,q1,q2⟩,q3⟩=>by obtain⟨a,ys,z1,z2,_⟩:=gm.own i t dt q1 q2;rw[q3]at z1;cases z1;rw[Z]at z2;cases z2
 refine⟨λi mm ys f M=>∃N l u as,au K F1 (e++replicate n .aL) (σ++replicate n none) X N l f M/\f.take m=σ/\ys=as.map V.ref/\M Da=some (.lst ys)/\N Da=none/\¬ Own l f Da/\(Da::as).Nodup/\as.length=u.length/\(∀(k:Nat)(a:Addr)(ds:List D),as[k]?=some a->u[k]?=some ds->Wt K N l f M a ds/\(Own (e++replicate n .aL) (σ++replicate n none) a\/X a=none))/\u.length<=i/\mm=ds.length-i/\i<=ds.length/\gk is one el (ds.drop i) u l=.ok rows j,⟨_,F1,_,[],[],(au.refl gm).Ef Z fD nO,by rw[List.take_append_of_le_length (by omega),List.take_of_length_le (by omega)],rfl,aA,fD,nO,by simp,rfl,λk a ds h=>by simp at h,uR,rfl,uR,e2⟩,?_⟩;rintro i mm ys f M⟨N,l,u,as,si,ap,ac,hD,hF,hO,ae,B,G,bp,rfl,bq,E⟩;refine⟨hD,?_⟩;have stay:∀{F2 H2:Hp}{af:List Sl}{I:L2.St},au K N l f M F2 af I H2->H2 Da=some (.lst ys)/\F2 Da=none/\¬ Own af I Da:=λ{F2 H2 af I}s=>by have:=(Sh.stp (xs:=ys) ⟨⟨hD,hO⟩,hF⟩ s);exact⟨this.kp.1,this.fr,this.kp.2⟩
 obtain⟨s1,s2⟩:=w.src n i N l f M si;by_cases ag:i<ds.length
 . right;have hd:ds[i]?=some ds[i]:=by simp[ag]
   obtain⟨go,step⟩:=s1 _ hd;refine⟨go,λx H2 y=>?_⟩;obtain⟨F2,ext,rx⟩:=step x H2 y;have t2:=ext.stp si.gs;rw[drop_eq_getElem_cons ag,Fe]at E;cases hbd:cA l is one ds[i]with|none=>rw[hbd]at E;cases E|some U=>rw[hbd]at E;obtain⟨re,ah,ee,E⟩:=aa E;cases re with|val _=>cases E|own ai=>
     replace E:gk is one el (ds.drop (i+1)) (u++[ai]) ah=.ok rows j:=E;refine ax x _ F2 l U f H2 _ t2.gs rx hbd λI sb aI=>?_;have t3:=t2.trans sb;refine⟨F2,U,true,U,t3.gs,by rw[tH],λF4 H4 s4=>?_⟩;have t4:=t3.trans s4;refine(show wL K el I H4 _ from⟨F4,U,.own ai,ah,t4.gs,ee,λv F5 H5 s5 rr=>?_⟩);have t6:=t4.trans s5;obtain⟨y1,y2,y3⟩:=stay t6;obtain⟨z1,z2,z3⟩:=stay t4;have al:ys.length<sizeLine:=by have O:lim=sizeLine:=rfl;rw[ac,length_map];omega
     obtain⟨A,xs,rfl,a1,a2,a3,a4,a5⟩:=rr;have ar:A≠Da:=by
      rintro rfl;rcases a5 with z|z;.exact z3 z
      .rw[z1]at z;cases z
     have nA:A∉as:=λhA=>by
      obtain⟨L,C⟩:=List.getElem?_of_mem hA;have am:L<u.length:=by rw[<-B];exact(eN C).1
      obtain⟨⟨zs,Y,_⟩,_⟩:=(G L A u[L] C (by simp[am])).1.stp t4;rcases a5 with z|z;.exact Y.2 z
      .rw[Y.1]at z;cases z
     have fA:Own (e++replicate n .aL) (σ++replicate n none) A\/X A=none:=by
      have t:=si.trans t4;rcases a5 with z|z;.exact t.uV A z
      .exact t.since z
     refine⟨y1,al,_,by omega,F5,ah,u++[ai],as++[A],(si.trans t6).Ef Z y2 y3,aI.trans ap,by rw[ac];simp,aA,y2,y3,?_,by simp[B],λL a0 aS h1 O=>?_,by simp;omega,rfl,ag,E⟩
     . rw[<-cons_append,nodup_append];refine⟨ae,by simp,λp hp r hr=>?_⟩;simp at hr;subst hr;rcases mem_cons.mp hp with rfl|hp;.exact λz=>ar z.symm
       .rintro rfl;exact nA hp
     . by_cases C:L<as.length
       . rw[getElem?_append_left C]at h1;rw[getElem?_append_left (by omega)]at O;obtain⟨w0,f0⟩:=G L a0 aS h1 O;obtain⟨⟨zs,Y,r1⟩,g1⟩:=w0.stp t6;have na:a0≠Da:=by rintro rfl;exact(nodup_cons.mp ae).1 (mem_of_getElem? h1)
         exact⟨⟨⟨zs,⟨by rw[ao na];exact Y.1,Y.2⟩,r1⟩,g1⟩,f0⟩
       . rw[getElem?_append_right (by omega)]at h1;rw[getElem?_append_right (by omega)]at O;have:L-as.length=0:=by have:=(eN h1).1;simp at this;exact this
         rw[this]at h1;rw[<-B,this]at O;cases h1;cases O;exact⟨⟨⟨xs,⟨by rw[ao ar];exact a1,a4⟩,a3⟩,a2⟩,fA⟩
 . left;have aT:ds.drop i=[]:=by rw[drop_eq_nil_iff];omega
   rw[aT,GQ]at E;cases E;refine⟨s2 (by omega),?_⟩;have hst:f.take e.length=σ:=by rw[aE,hm];exact ap
   obtain⟨l1,l2⟩:=au.less (m:=e.length) rfl w.gs (by simp) si;rw[hst]at l1;obtain⟨z1,z2⟩:=w.fin _ _ _ _ l1--the outer list:with nothing in it,it is like any new one
   have ba:=si.Ef (o:=.lst []) Z hF hO;obtain⟨av,S5⟩:=au.less (m:=e.length) rfl w.gs (by simp) ba;rw[hst]at av;obtain⟨br,bi⟩:=w.fin _ _ _ _ av;have rr:cH K N j f (upd M Da (.lst [])) (e++replicate n .aL) (σ++replicate n none) X (.ref Da) (.own []):=⟨Da,[],rfl,aA,hF,.nil,hO,.inr Z⟩;have Oe:=S5 _ _ rr;rw[hst]at Oe;obtain⟨_,_,q0,_,q3,_,q5,q6⟩:=bi _ _ Oe;cases q0;have aw:∀(k:Nat)(a:Addr)(ds:List D),as[k]?=some a->rows[k]?=some ds->Wt K N (ul (j.take e.length)) σ M a ds/\(Own ρ σ a\/H a=none):=λk a ds h1 O=>by obtain⟨⟨⟨xs,Y,r1⟩,f1⟩,f2⟩:=G k a ds h1 O;have rr:cH K N j f M (e++replicate n .aL) (σ++replicate n none) X (.ref a) (.own ds):=⟨a,xs,rfl,Y.1,f1,r1,Y.2,f2⟩;have Oe:=l2 _ _ rr;rw[hst]at Oe;obtain⟨a',bn,q0,q2,q3,q4,q5,q6⟩:=z2 _ _ Oe;cases q0;exact⟨⟨⟨bn,⟨q2,q5⟩,q4⟩,q3⟩,q6⟩
   refine k Da as N M z1 ⟨⟨by rw[hD,ac],q5⟩,q3⟩ ae B (λk a ds h1 O=>(aw k a ds h1 O).1) λb hb=>?_;rcases mem_cons.mp hb with rfl|hb;.exact q6
   . obtain⟨L,C⟩:=List.getElem?_of_mem hb;have am:L<rows.length:=by rw[<-B];exact(eN C).1
     exact(aw L b rows[L] C (by simp[am])).2
section
variable{X:Cx}{c:Call}{nn n:Nat}{tg iter elt:Expr}{ps pe:P}{pos:Pos}{sts:List Stmt}{ss:List S}{scope:Scope}{N':List Str}
theorem JQ{i:Nat}{x:Str}{b f:Pos}{g:TG}{is:List Nat}{one:Bool}(hc:X.calm=true)(A:X.N.Nodup)(m:X.N[i]?=some x)(B:Loc X.env.scope x)(ok:fG X scope N' n)(E:SI X c tg iter ps)(G:∀cl C s₀ H₀ ex,PG (qU X scope N' cl C s₀ H₀ ex) tg g)(r:pQ X.K X.N.length is one g)(ht:∀cl C s₀ H₀ ex,SQ (qU X scope N' cl C s₀ H₀ ex) c [] none)(he:∀cl C s₀ H₀ ex,SX (qU X scope N' cl C s₀ H₀ ex) c elt pe)(J:ZW X c nn i sts ss)(t:swapsWith (.ListComp elt [⟨tg,iter,[],0⟩] scope pos) (some (.Name x b)) f.line X.env=pure true:=by rfl)(hs:∀x,foldedSetIterable iter X.env x=pure x:=by intro _;rfl)(L:X.fn x=true\/X.env.scope.names.lookup x=some .local:=by first|exact .inl rfl|exact .inr rfl|assumption):SB X c nn (.Assign [.Name x b] (.ListComp elt [⟨tg,iter,[],0⟩] scope pos) f::sts) (.HD i ps n is one pe::ss):=by
 have h0:=yR (tt:=Fp X.K (tH c none)) (te:=wL X.K (HH.ev c pe)) hc A m B ok E G ht (λcl C s₀ H₀ ex=>(he cl C s₀ H₀ ex).ev) t hs L;refine λj s σ H D I q=>bR h0 J.p j s σ H D I ?_;have M:σ.length=X.N.length:=I.len;obtain⟨F,ρ,fl,u,O,e,Q⟩:=q;rw[NT]at e;obtain⟨f1,U,a,e⟩:=aa e;rw[HH.X18]at a;obtain⟨ds,w,W,a⟩:=aa a;split at a;.rename_i k;obtain⟨rows,Y,Z,a⟩:=aa a;obtain⟨ac,z,l,a⟩:=aa a;cases a;have zz:=aD l;clear l;obtain⟨l,_⟩:=zz;obtain⟨s1,h1,h2,rfl⟩:=ql l;refine(show rC n (tIt X.K (isVar ps) (HH.ev c ps)) g (Fp X.K (tH c none)) (wL X.K (HH.ev c pe)) σ H (λv H1=>gC i v σ H1 (V8 X.K i (gY c nn ss) D))from G6 (c:=c) (ul:=aZ ρ (isVar ps)) M r (λR h=>⟨F,ρ,ds,w,O,W,h⟩) k Z λq as F' H' s wq nd len row fr=>?_);exact⟨F,ρ,σ,H,F',_,q,as,rows,fl,u,NB.mk' s h1 h2 wq nd len row fr,e,λF2 y H2 s2=>Q F2 y H2 s2⟩
 .cases a
end
end HH
end
section
namespace HH
open PySem L2 PySem.Spec PyProof.Rows PySem.Calls PySem.W
variable{i:Nat}{x:Str}
section
variable{K:PySem.W.Frag}{F F1 H H1:Hp}{ρ ρ1 ρ2:List Sl}{σ σ1:L2.St}
theorem GS.abF{x:Nat}{kvs f:List (Int×D)}{a:Addr}{w:HO}(g:GS K F ρ σ H)(e:ρ[x]?=some (.cY kvs))(p:σ[x]?=some (some (.ref a)))(r:iY K F w (.v f)):au K F ρ σ H F (ρ.set x (.cY f)) σ (upd H a w):=by
 have y:x<ρ.length:=(eN e).1;have z:aM ρ σ x a:=⟨⟨_,_,e,rfl⟩,p⟩;obtain⟨M,N,h1,O,A,Q⟩:=g.own x _ _ e rfl;rw[p]at h1;cases h1;have h:∀{j:Nat}{c:Addr},aM (ρ.set x (.cY f)) σ j c->aM ρ σ j c:=λ{j c}⟨⟨t,dt,m,s⟩,q3⟩=>by
  by_cases b:j=x;.subst b;exact⟨⟨_,_,e,rfl⟩,q3⟩
  .rw[dB b]at m;exact⟨⟨t,dt,m,s⟩,q3⟩
 refine⟨⟨λc o q=>?_,by simp[g.len],λj C d q=>?_,λj t dt q u=>?_,λj k c m s=>g.dis j k c (h m) (h s)⟩,.refl _,λc n E=>absurd n E,λc o q n=>?_,λc⟨j,q⟩=>.inl ⟨j,h q⟩,by simp,λj t q l=>⟨rfl,?_⟩⟩
 . have:c≠a:=by rintro rfl;rw[A]at q;cases q
   rw[ao this];exact g.sub c o q
 . by_cases b:j=x;.subst b;rw[getElem?_set_self y]at q;cases q
   .rw[dB b]at q;exact g.val j C d q
 . by_cases b:j=x;.subst b;rw[getElem?_set_self y]at q;cases q;cases u;exact⟨a,_,p,aA,A,r⟩
   . rw[dB b]at q;obtain⟨c,G,B,I,J,L⟩:=g.own j t dt q u;have:c≠a:=by rintro rfl;exact b (g.dis j x c ⟨⟨t,dt,q,u⟩,B⟩ z)
     exact⟨c,G,B,by rw[ao this];exact I,J,L⟩
 . have:c≠a:=by rintro rfl;exact n ⟨x,z⟩
   rw[ao this];exact q
 . by_cases b:j=x;.subst b;rw[e]at q;cases q;cases l
   .exact⟨t,by rw[dB b];exact q,.refl t⟩
theorem GS.newV{kvs:List (Int×D)}{a:Addr}{A:HO}{s0:Sl}(g:GS K F ρ σ H)(e:ρ[i]?=some s0)(w:rO s0=false)(r:iY K F A (.v kvs))(p:H a=none):au K F ρ σ H F (ρ.set i (.cY kvs)) (σ.set i (some (.ref a))) (upd H a A):=by
 have y:i<ρ.length:=(eN e).1;have s:i<σ.length:=by rw[<-g.len];exact y
 have B:F a=none:=by cases q:F a with|none=>rfl|some o=>rw[g.sub a o q]at p;cases p
 have f:∀{j:Nat}{c:Addr},j≠i->aM (ρ.set i (.cY kvs)) (σ.set i (some (.ref a))) j c->aM ρ σ j c:=λ{j c}b⟨⟨t,ds,e1,e2⟩,e3⟩=>by rw[dB b]at e1 e3;exact⟨⟨t,ds,e1,e2⟩,e3⟩
 have new:∀{c:Addr},aM (ρ.set i (.cY kvs)) (σ.set i (some (.ref a))) i c->c=a:=λ{c}⟨_,e3⟩=>by rw[getElem?_set_self s]at e3;cases e3;rfl
 have no:∀{j:Nat},¬ aM ρ σ j a:=λ{j}⟨⟨t,ds,e1,e2⟩,e3⟩=>by obtain⟨c,o,h,m,_⟩:=g.own j t ds e1 e2;rw[e3]at h;cases h;rw[p]at m;cases m
 refine⟨⟨λc o q=>?_,by simp[g.len],λj E d q=>?_,λj t dt q C=>?_,λj k c h m=>?_⟩,.refl _,λc n G=>absurd n G,λc o q n=>?_,λc⟨j,q⟩=>?_,by simp,λj t q l=>?_⟩
 . have:c≠a:=by rintro rfl;rw[B]at q;cases q
   rw[ao this];exact g.sub c o q
 . by_cases b:j=i;.subst b;rw[getElem?_set_self y]at q;cases q
   .rw[dB b]at q ⊢;exact g.val j E d q
 . by_cases b:j=i;.subst b;rw[getElem?_set_self y]at q;cases q;cases C;exact⟨a,_,getElem?_set_self s,aA,B,r⟩
   . rw[dB b]at q ⊢;obtain⟨c,o,I,z,J,L⟩:=g.own j t dt q C;have:c≠a:=by rintro rfl;rw[p]at z;cases z
     exact⟨c,o,I,by rw[ao this];exact z,J,L⟩
 . by_cases b:j=i
   . by_cases u:k=i;.rw[b,u]
     .subst b;rw[new h]at m;exact absurd (f u m) no
   . by_cases u:k=i;.subst u;rw[new m]at h;exact absurd (f b h) no
     .exact g.dis j k c (f b h) (f u m)
 . have:c≠a:=by rintro rfl;rw[p]at q;cases q
   rw[ao this];exact q
 . by_cases b:j=i;.subst b;rw[new q];exact .inr p
   .exact .inl ⟨j,f b q⟩
 . have b:j≠i:=by rintro rfl;rw[e]at q;cases q;rw[w]at l;cases l
   exact⟨by rw[dB b],t,by rw[dB b];exact q,.refl t⟩
end
section
variable{X:Cx}{c:Call}{n:Nat}{a b e:Expr}{pa pb p:P}{pos:Pos}
theorem yZ{f m:Pos}(o:X.N.Nodup)(r:X.N[i]?=some x)(s:Loc X.env.scope x)(hs:swapsWith (.Dict [] [] m) (some (.Name x f)) pos.line X.env=pure false:=by rfl)(t:X.fn x=true\/X.env.scope.names.lookup x=some .local:=by first|exact .inl rfl|exact .inr rfl|assumption):SS X c n (.Assign [.Name x f] (.Dict [] [] m) pos) (.Cz i):=by
 refine fB (jQ o r s vD hs t) ?_;rintro D σ H⟨F,ρ,fl,h,g,e,k⟩;rw[HH.X22]at e;have go:∀s0,ρ[i]?=some s0->rO s0=false->fl=.next->h=ρ.set i (.cY [])->∀a,H a=none->D.nx (σ.set i (some (.ref a))) (upd H a (.dK [])):=λs0 q u j l a v=>by subst j l;exact k F _ _ (g.newV (kvs:=[]) q u (KR.oc .nil) v)
 split at e;.rename_i q;cases e;exact go _ q rfl rfl rfl
 .rename_i q;cases e;exact go _ q rfl rfl rfl
 .rename_i q;cases e;exact go _ q rfl rfl rfl
 .cases e
theorem tW{w f:Pos}{pk:P}(hu:X.A.units+8<cLine)(C:X.N[i]?=some x)(E:vC X.env.scope x)(G:SX X c a pk)(he:SX X c e p)(hs:swapsWith e (some (.Subscript (.Name x w) a f)) pos.line X.env=pure false:=by rfl)(hd:(x==("__debug__":Str))=false:=by decide)(m:(x==("__classdict__":Str))=false:=by decide):SS X c n (.Assign [.Subscript (.Name x w) a f] e pos) (.gP i pk p):=by
 obtain⟨ta,h1,I⟩:=G.cG;refine fB (zr (by omega) (aP C E hd m) h1 he.ev hs) ?_;rintro D σ H⟨F,ρ,fl,J,g,e,k⟩;rw[HH.X23]at e;obtain⟨r,o,L,l⟩:=aa e;clear e;refine⟨F,ρ,r,o,g,L,λv F1 H1 s1 M=>?_⟩;obtain⟨F2,s2,_,O⟩:=s1.cO M;split at l
 . rename_i Q U;obtain⟨kd,W,Y,h⟩:=aa l;clear l;obtain⟨s,o0,t,w2,w3,w4⟩:=s2.gs.own i _ _ U rfl;refine⟨.ref s,t,I s2.gs Y λy Z H3 s3 py=>?_⟩;split at h
   . rename_i kvs j q;split at h;.rename_i hl;cases h;obtain⟨a1,o1,z,y2,y3,y4⟩:=s3.gs.own i _ _ q rfl;rw[t]at z;cases z;obtain⟨es,rfl,B⟩:=KR.R7 y4;have u:=B.put (k:=j) (O.mono s3.cV);refine⟨s,upd H3 s (.dK (putK es (Sum.inl j:Key) v)),rfl,?_,k Z σ _ ((s2.trans s3).trans (s3.gs.abF q t u.oc))⟩;rw[py.int];exact .inl ⟨es,Sum.inl j,y2,rfl,by rw[B.len,sizeLine_eq];exact hl,rfl⟩
     .cases h
   .cases h
 .cases l
theorem yg{y:Pos}{pk:P}(hu:X.A.units+8<cLine)(z:X.N[i]?=some x)(B:vC X.env.scope x)(C:SX X c a pk)(hs:Kw a)(hd:(x==("__debug__":Str))=false:=by decide)(l:(x==("__classdict__":Str))=false:=by decide):SX X c (.Subscript (.Name x y) a pos) (.Oa i pk):=by
 obtain⟨ta,h1,E⟩:=C.cG;refine⟨dX (Kq (by omega) (aP z B hd l) h1 hs) ?_,λi h=>by cases h⟩;rintro σ H Q⟨F,ρ,r,G,g,e,k⟩;rw[HH.E24]at e;split at e
 . rename_i I q;obtain⟨kd,J,L,f⟩:=aa e;clear e;obtain⟨m,o0,o,w2,w3,w4⟩:=g.own i _ _ q rfl;refine⟨.ref m,o,E g L λv F1 M s1 s=>?_⟩;split at f;.rename_i kvs O;obtain⟨t,U⟩:=aD f;clear f;subst U;obtain⟨j,W,Y⟩:=cQ t;clear t;obtain⟨d,Z,e6⟩:=map_some Y;subst e6;rw[dG W]at s;obtain⟨a1,o1,u,y2,y3,y4⟩:=s1.gs.own i _ _ O rfl;rw[o]at u;cases u;obtain⟨es,rfl,kr⟩:=KR.R7 y4;obtain⟨w,g1,g2⟩:=kr.get Z;rw[s.int];exact⟨m,w,rfl,.inl ⟨es,Sum.inl j,.inl y2,rfl,g1.symm⟩,k w F1 M s1 (show Rep X.K F1 _ _ from g2)⟩
   .cases f
 .cases e
theorem R9{G:Pos}{pk:P}{neg:Bool}{op:CmpOp}(t:(op=.In/\neg=false)\/(op=.NotIn/\neg=true))(hu:X.A.units+8<cLine)(w:X.N[i]?=some x)(z:vC X.env.scope x)(J:SX X c a pk)(hd:(x==("__debug__":Str))=false:=by decide)(m:(x==("__classdict__":Str))=false:=by decide):PC X op a (.Name x G) (wL X.K (HH.ev c (.Ob i pk neg))):=by
 obtain⟨L,h1,M⟩:=J.cG;have l:∀{σ:L2.St}{H:Hp}{Q:VK},wL X.K (HH.ev c (.Ob i pk neg)) σ H Q->L σ H λy u=>jW i σ u λx B=>∃a o,x=.ref a/\mj B a y o/\Q (.bl (if neg then !o.isSome else o.isSome)) B:=λ{σ H Q}⟨F,ρ,r,ρ',g,e,k⟩=>by
  rw[HH.E25]at e;obtain⟨kd,O,U,q⟩:=aa e;clear e;refine M g U λv F1 u s1 C=>?_;split at q;.rename_i kvs W;obtain⟨Y,Z⟩:=aD q;clear q;subst Z;obtain⟨j,e4,e5⟩:=map_some Y;subst e5;rw[dG e4]at C;obtain⟨E,o1,y1,y2,y3,y4⟩:=s1.gs.own i _ _ W rfl;obtain⟨es,rfl,kr⟩:=KR.R7 y4;rw[C.int];refine⟨.ref E,y1,E,_,rfl,.inl ⟨es,Sum.inl j,.inl y2,rfl,rfl⟩,?_⟩;rw[kr.has j];exact k _ F1 u s1 (show Rep X.K F1 _ _ from fP _)
  .cases q
 rcases t with⟨rfl,rfl⟩|⟨rfl,rfl⟩;.exact λf s σ H Q I h=>RZ (by omega) h1 (aP w z hd m) f s σ H Q I (l h)
 .exact λf s σ H Q I h=>BR (by omega) h1 (aP w z hd m) f s σ H Q I (l h)
end
theorem mW{P:Program}{w:World}:∀{ks:List Int}{es:List (Key×V)}{vs:List (Key×Value)}{a:List Value},es.map (·.1)=ks.map (Sum.inl:Int->Key)->KV es vs->a.length=vs.length->(∀(j:Nat)(v:Value),a[j]?=some v->∃(k:Key)(x:Value),vs[j]?=some (k,x)/\(aR P w).is k v=true)->IntsAre a ks
 |[],es,_,a,he,r,h,_=>by cases es with
   |nil=>cases r;cases a with|nil=>exact .nil|cons _ _=>simp at h
   |cons _ _=>simp at he
 |i::ks,es,_,a,he,r,h,k=>by cases es with|nil=>simp at he|cons p es=>cases r with|@cons _ q _ _ r t=>rw[map_cons,map_cons]at he;cases a with|nil=>simp at h|cons v a=>
         obtain⟨k',x,c,f⟩:=k 0 v rfl;simp at c;have g:k'=Sum.inl i:=by have z:=r.1;rw[c]at z;rw[<-(List.cons.inj he).1];exact z.symm
         subst g;obtain⟨m,l,b,rfl⟩|⟨_,_,b,_⟩:=bu (show mV (Sum.inl i) v=true from f);.cases b;exact .cons _ l (mW (List.cons.inj he).2 t (by simpa using h) λj v e=>k (j+1) v (by simpa using e))
         .cases b
section
variable{X:Cx}{c:Call}{n:Nat}{a b e:Expr}{pa pb p:P}{pos:Pos}
theorem XD(hc:X.calm=true):dH X (.type "list") (IK X.K λx=>blt .U9 [x]):=by rintro t s σ H xs us Q I r⟨x,A,F,d,B,sm,C,he,k⟩;cases d with|dv ks ds=>
   obtain⟨E,he⟩:=aV (show(if ks.length<=16777216 then some (R.own (ks.map D.int))else none)=some B from he);subst he;obtain⟨q,G,g,rfl,J,L,M⟩:=C.dv sm;subst A;obtain⟨u,rfl,N⟩:=r.one;cases N;obtain⟨ho,hz,O,vs,y,l⟩:=(show aY X.prog X.w H s.heap q (.cO G (.dK (ent ks g)))from I.hok q _ J);obtain⟨ep,l⟩:=l.dictAt;have z:=pY (ks:=ks) (vs:=g) (by rw[L.length];exact M);have m:vs.length=ks.length:=by rw[<-Paired.length y];have:=congrArg List.length z;simpa using this
   refine kdl_call (kdl_dict (knd:=aR X.prog X.w) (kvs:=vs) (ep:=ep) O) (I.ok.hd hc) l (by rw[m,sizeLine_eq];omega) λh' U h W kp Y f=>?_;have Z:IntsAre h.toList ks:=mW (P:=X.prog) (w:=X.w) z y (by rw[length_toList];exact f.1) λj v e=>f.2 j v (by rw[<-Array.getElem?_toList];exact e);refine⟨.ref s.heap.objs.size,_,I.laid (t':=U) (o:=.lst (ks.map V.int)) (h':=h') kp (dC) ⟨by rw[length_map,sizeLine_eq];omega,h.toList,W,kj Z,by rw[Array.toArray_toList];exact Y⟩,rfl,?_⟩;exact yc sm (rZ ks) (I.hok.fresh (dC)) k|_=>cases he
theorem El{f:Pos}(g:x="list")(hc:X.calm=true)(j:Gl X x)(k:X.mg x=none)(l:SX X c a pa)(hs:starEach [a] X.env=(false,eval a X.env)::starEach [] X.env:=by rfl):SX X c (.Call (.Name x f) [a] [] pos) (.blt .U9 [pa]):=by subst g;exact mU (λh=>jt (XD hc) j k (by decide+kernel) h (he:=hs)) l (λρ=>rfl) rfl hs
theorem Iv{neg:Bool}{op:CmpOp}(f:(op=.In/\neg=false)\/(op=.NotIn/\neg=true))(L:X.A.units+8<cLine):eU X (compareOp op) (rD X.K (vO neg)):=by rintro m s σ H x y v u Q I h t⟨F,d,e,r,sm,w,z,he,k⟩;cases d with
 |int j=>cases e with|dv ks ds=>
     cases he;obtain⟨q,B,vs,rfl,C,E,G⟩:=z.dv sm;have J:=KR.zip E G;rw[w.int]at h;obtain rfl:u=Value.ref q:=t;have g:mj H q (.int j) (jb (ent ks vs) (Sum.inl j:Key)):=.inl ⟨_,Sum.inl j,.inr ⟨B,C⟩,rfl,rfl⟩;have o:(jb (ent ks vs) (Sum.inl j:Key)).isSome=ks.contains j:=by rw[J.has j];congr 1;rw[List.map_fst_zip (by omega)]
     rcases f with⟨rfl,rfl⟩|⟨rfl,rfl⟩;.refine We (by omega) I g h λs3 l=>⟨.bl (jb (ent ks vs) (Sum.inl j:Key)).isSome,H,l,rfl,?_⟩;rw[o];exact bW.cM sm (fP _) k
     .refine yS (by omega) I g h λs3 l=>⟨.bl (!(jb (ent ks vs) (Sum.inl j:Key)).isSome),H,l,rfl,?_⟩;rw[o];exact bW.cM sm (fP _) k|_=>cases he
 |_=>cases he
end
end HH
end
section
namespace PySem
section
variable{prog:Program}{w:World}{A:Around}{E:Value->Shared->Prop}{s:Shared}
theorem uq{Q:List Value->Shared->Prop}{I l:Addr}{items:Array Value}(u:A.handled=none)(f:s.heap.IsRevIter I l ((items.size:Int)-1))(p:s.heap.IsList l items)(k:l≠I)(g:items.size<=2^24)(x:∀h' m c,(∀b o,b≠I->s.heap.get? b=some o->h'.get? b=some o)->s.heap.objs.size<h'.objs.size->ItemsOf (λi v=>items[items.size-1-i]?=some v) c items.size->Q c.toList {s with heap:=h',toks:=m}):
 wpAny (model prog w) A (collect (.ref I)) Q E s:=by have h:I<s.heap.objs.size:=let⟨_,ho,_⟩:=f;lt_size ho;have n:l<s.heap.objs.size:=let⟨_,ho,_⟩:=p;lt_size ho;unfold collect;refine wpAny_bind (wpAny_runValue (codeAny_builtin F.entry_proto_collect ?_));rw[Around.under_plainId F.plain_proto_collect _];show wpAny _ A.in1 (newList []>>=λl=>again (.builtin "list.__iadd__" ⟨[l,.ref I],[]⟩)) _ _ s;refine wpAny_bind (wpAny_newObj_type ?_);refine wpAny_pure ⟨plainId_quiet F.plain_list_iadd _,codeAny_builtin F.entry_list_iadd ?_⟩;rw[Around.under_plainId F.plain_list_iadd _];show wpAny _ A.in1 (listExtendWith (.ref s.heap.objs.size) (.ref I) (.ref s.heap.objs.size)) _ _ _;refine j6 (A:=A) (R:=λr q=>match r with
  |.ok (.ret v)=>wpAny (model prog w) A (match v with
   |.ref a=>do let o<-load a match o.data with|.seq xs _=>pure xs.toList|_=>unsupported "internal:collect"
   |_=>unsupported "internal:collect") Q E q|.ok _=>False|.error e=>E e q) (s:={s with heap:=s.heap.push {cls:=.type "list",data:=.seq #[]}}) u (f.at λo e=>gW e) (p.at λo e=>gW e) k g s.heap.objs.size (Ne.symm (ne_of_lt h)) (Ne.symm (ne_of_lt n)) _ 0 (get?_push_size _ rfl) λh' m c B y t j=>?_;refine wpAny_bind (wpAny_load t ?_);exact wpAny_pure (x h' m c (λb o z e=>y b o (ne_of_lt (lt_size e)) z (gW e)) (lt_size t) j)
end
theorem jl(I l:Addr)(items:Array Value)(i:l≠I)(hsz:items.size<=2^24):Meets (Builtin.«tuple.__new__» ⟨[.type "tuple",.ref I],[]⟩) (λA R s=>A.handled=none/\s.heap.IsRevIter I l ((items.size:Int)-1)/\s.heap.IsList l items/\∀(h':Heap)(p:Nat),(∀b o,b≠I->s.heap.get? b=some o->h'.get? b=some o)->s.heap.objs.size<h'.objs.size->∀a:Array Value,a=items.reverse->R (.ok (.ret (.ref h'.objs.size))) {s with heap:=h'.push {cls:=.type "tuple",data:=.seq a},toks:=p}):=.of_wp λprog w A R s h=>by
  obtain⟨r,f,t,h⟩:=h;have q:=sub_tuple_self;have k:=init_tuple_lookup;have u:=madeHere_tuple;have x:Shared.TypeIs s (.ref I) "list_reverseiterator":=f.typeIs;obtain⟨o,ho,hc,hd⟩:=id f;obtain⟨C,g,d,p,os⟩:=s;wp_walk using AutoSeq1.wpAny_loadPart' ho,wpAny_typeOf x,uq (A:=A.in1) r f t i hsz;intro h' m a y n c;show wpAny _ _ (tupleExact a.toList.toArray>>=λv=>ret v) _ _ _;have e:a.toList.toArray=a:=by simp
  have z:a=items.reverse:=by refine Array.ext (by rw[c.1,Array.size_reverse]) λj h1 E=>?_;have:=c.2 j _ (Array.getElem?_eq_getElem h1);rw[Array.getElem_reverse];have B:=Array.getElem?_eq_some_iff.mp this;exact B.2.symm
  rw[e];unfold tupleExact;refine wpAny_bind (wpAny_newObj_type ?_ (by show a.size<=sizeLine;rw[c.1,sizeLine_eq];omega));exact wpAny_pure ⟨_,rfl,h h' m y n a z⟩
section
variable{prog:Program}{w:World}{A:Around}{E:Value->Shared->Prop}{s:Shared}
theorem nG{I l:Addr}{items:Array Value}{Q:Value->Shared->Prop}(i:A.handled=none)(a:s.heap.IsRevIter I l ((items.size:Int)-1))(j:s.heap.IsList l items)(c:l≠I)(hsz:items.size<=2^24)(h:∀(h':Heap)(f:Nat),(∀b o,b≠I->s.heap.get? b=some o->h'.get? b=some o)->s.heap.objs.size<h'.objs.size->Q (.ref h'.objs.size) {s with heap:=h'.push {cls:=.type "tuple",data:=.seq items.reverse},toks:=f}):wpAny (model prog w) A (call (.type "tuple") [.ref I]) Q E s:=callType_new F.called_tuple (by decide) (F.typeCall_tuple_1 _) (F.newCall_tuple_1 _) (λobj=>F.args_object_init_2 obj _) F.entry_tuple_new (jl I l items c hsz) ⟨i,a,j,λh' f k g m e=>by subst e;exact⟨⟨_,get?_push_size _ rfl,rfl⟩,h h' f k g⟩⟩
end
end PySem
namespace L2
open PySem PySem.Spec PyProof.Rows
section
variable{X:Cx}{pins:List (Addr×Obj)}{σ:St}{H:Hp}{s:Shared}{E:Value->Shared->Prop}
theorem wZ{a:Expr}{A:TE}{p pos G g:Pos}(hc:X.calm=true)(n:Gl X "tuple")(t:X.mg "tuple"=none)(J:Gl X "reversed")(L:X.mg "reversed"=none)(M:PE X a A)(hs:starEach [a] X.env=[(false,eval a X.env)]:=by rfl)(i:starEach [.Call (.Name "reversed" p) [a] [] pos] X.env=[(false,eval (.Call (.Name "reversed" p) [a] [] pos) X.env)]:=by rfl):PE X (.Call (.Name "tuple" G) [.Call (.Name "reversed" p) [a] [] pos] [] g) (λσ H Q=>A σ H λx f=>∃ad xs,x=.ref ad/\eG X.K f ad xs/\∀l,f l=none->Q (.ref l) (upd f l (.tup xs.reverse))):=by
 intro pins s σ H Q I h;refine Call_ (lO I n t vR (PyProof.Rows.callWith_type1 ?_ i rfl));rw[i];show wpAny _ _ (spliced ((false,eval (.Call (.Name "reversed" p) [a] [] pos) X.env)::[])) _ _ _;refine Calls.spliced_cons (Call_ (lO I J L pq (PyProof.Rows.callWith_type1 (bU ((cW M dR hs) pos pins s σ H (λvs f=>match vs with|[x]=>∃ad xs,x=.ref ad/\eG X.K f ad xs/\∀l,f l=none->Q (.ref l) (upd f l (.tup xs.reverse))|_=>False) I h) ?_) hs rfl)));rintro Z s1⟨vs,f,m,r1,v⟩;obtain⟨ad,xs,N,q,w⟩:∃ad xs,eG X.K f ad xs/\(∀l,f l=none->Q (.ref l) (upd f l (.tup xs.reverse)))/\vs=[.ref ad]:=by cases vs with|nil=>cases v|cons x r=>cases r with|nil=>obtain⟨ad,xs,rfl,q,O⟩:=v;exact⟨ad,xs,q,O,rfl⟩|cons _ _=>cases v
 subst w;obtain⟨u,rfl,U⟩:=r1.one;cases U;obtain⟨c,B,pl,hz⟩:=m.list N;have hsz:c.toArray.size=xs.length:=by rw[size_toArray,<-B.length]
 refine call_reversed_list pl.isList (Calls.spliced_nil ?_);have y:ad≠s1.heap.objs.size:=ne_of_lt (let⟨_,ho,_⟩:=pl.isList;lt_size ho);have z:(s1.heap.push (revObj ad ((c.toArray.size:Int)-1))).IsList ad c.toArray:=pl.isList.at λo e=>gW e;refine nG (m.ok.hd hc) (I:=s1.heap.objs.size) (l:=ad) (items:=c.toArray) ⟨_,get?_push_size _ rfl,rfl,rfl⟩ z y (by rw[hsz];exact le_trans hz (by decide)) λh' W C j=>?_;have k:(s1.heap.push (revObj ad ((c.toArray.size:Int)-1))).objs.size=s1.heap.objs.size+1:=size_push ..;dsimp only at C j ⊢;rw[k]at j;have Y:c.toArray.reverse=c.reverse.toArray:=by simp
 rw[Y];refine⟨.ref h'.objs.size,_,m.laid (t':=W) (o:=.tup xs.reverse) (h':=h'.push {cls:=.type "tuple",data:=.seq c.reverse.toArray}) (λb o e=>gW (C b o (ne_of_lt (lt_size e)) (gW e))) (by omega) ?_,rfl,q _ (m.hok.fresh (by omega))⟩;exact⟨by rw[List.length_reverse];exact hz,_,B.reverse,IsTup.new _ _⟩
end
end L2
namespace HH
open PySem L2 PySem.Spec PyProof.Rows
section
variable{X:Cx}{c:Call}{a:Expr}{pa:P}{pos:Pos}
theorem yj{x y:Str}{j p b:Pos}(q:y="tuple")(t:x="reversed")(hc:X.calm=true)(m:Gl X y)(n:X.mg y=none)(u:Gl X x)(w:X.mg x=none)(z:SX X c a pa)(hs:starEach [a] X.env=[(false,eval a X.env)]:=by rfl)(o:starEach [.Call (.Name x j) [a] [] pos] X.env=[(false,eval (.Call (.Name x j) [a] [] pos) X.env)]:=by rfl):SX X c (.Call (.Name y p) [.Call (.Name x j) [a] [] pos] [] b) (.blt .rvT [pa]):=by subst t q;obtain⟨Z,h1,A⟩:=z.cG;refine⟨dX (wZ hc m n u w h1 hs o) ?_,λi h=>by cases h⟩;rintro σ H Q⟨F,ρ,r,B,g,e,k⟩;rw[HH.E16]at e;obtain⟨d,C,E,f⟩:=aa e;have G:=aD f;clear f;obtain⟨f,I⟩:=G;subst I;cases d with|lst ds=>cases f;refine A g E ?_;rintro v F' H' s J;obtain⟨ad,xs,rfl,L,M⟩:=J.lst s.gs.sub;exact⟨ad,xs,rfl,L,λl N=>By s.gs.sub (aB.rev M) N λv O U W Y=>k v O U (s.trans (W.stp s.gs)) (.later s (Y.nu s.gs))⟩|_=>cases f
end
end HH
end
section
namespace L2
open PySem PySem.Spec PyProof.Rows PySem.Calls
section
variable{X:Cx}
theorem Eg:Wv X (Lg X.K):=by
 intro a s σ H x y v u Q I f g h;obtain⟨p,xs,i,z,rfl,rfl,k,he,q⟩:=h;cases f;obtain⟨t,rfl⟩:=g;obtain⟨b,r,pl,hz⟩:=I.list k;obtain⟨j,h1,l,B,m,n⟩:=uI he;obtain⟨w,e,o⟩:=r.get l;have A:=r.length;have C:=pR;have fin:EP X a σ Q w s:=⟨z,H,I,o,q⟩;by_cases h0:0<=i
 . have c:i.toNat=j:=by rw[seqIndex_of h0 n]at h1;exact Option.some.inj h1
   exact wpAny_getItem_list pl.isList h0 (by omega) (by rw[c];simpa using e) fin
 . have c:(i+(b.toArray.size:Int)).toNat=j:=by rw[seqIndex_neg (by omega) m]at h1;rw[size_toArray,<-A];exact Option.some.inj h1
   exact wpAny_getItem_list_neg pl.isList (by omega) (by rw[size_toArray]<;>omega) (by omega) (by rw[c];simpa using e) fin
end
end L2
namespace HH
open PySem L2 PySem.Spec PyProof.Rows PySem.Calls PySem.W
section
variable{X:Cx}{c:Call}{n:Nat}{a b e:Expr}{pa pb p:P}{pos:Pos}
set_option maxHeartbeats 800000 in
theorem yQ{k e:Int}{t1 t2 p1 p2 p3}:SX X c (.Dict [some (.Constant (.int k) t1 p1)] [.Constant (.int e) t2 p2] p3) (.yJ k e):=by
 refine⟨?_,λi h=>by cases h⟩;intro f s σ H Q I h;obtain⟨F,ρ,r,x,g,m,y⟩:=h;rw[HH.E26]at m;cases m;have A:lG [] [((Sum.inl k:Key),V.int e)]=ent [k] [.int e]:=rfl;have B:=K1 (X:=X) (pos:=p3) (Dk (aW (i:=k) (j:=t1) (pos:=p1)) (aW (i:=e) (j:=t2) (pos:=p2)) K4) rfl rfl (by simp) (by simp);refine bU (B f s σ H (λv H'=>∃q,v=.ref q/\H q=none/\H'=upd H q (Ag [k] [.int e])) I ?_) λu s1⟨v,H1,I1,r1,q,e1,hn,e2⟩=>?_;.intro q C;refine⟨aA,[(Sum.inl k,.int e)],rfl,by simp,q,rfl,C,?_⟩;rw[zg,A];rfl
 subst e1 e2;obtain⟨o,t⟩:=Inv.Eh I1 (a:=q) (kvs:=ent [k] [.int e]) aA;rw[zg]at t;have E:F q=none:=by cases z:F q with|none=>rfl|some o=>rw[g.sub q o z]at hn;cases hn
 have sm:aF F (upd F q (.cO o (Ag [k] [.int e]))):=aF.cg E;refine⟨.ref q,_,t,r1,y _ (upd F q (.cO o (Ag [k] [.int e]))) _ (Ext.stp g ⟨aF.cg hn,sm,λb o e=>?_,λb n w=>?_⟩) ?_⟩
 . by_cases l:b=q;.subst l;rw[aA]at e ⊢;exact e
   .rw[ao l]at e ⊢;exact g.sub b o e
 . by_cases l:b=q;.subst l;exact jC hn
   .rw[ao l]at w;exact absurd n w
 .show Rep X.K _ _ (.dv [k] [.int e]);rw[Rep];exact⟨q,o,[.int e],rfl,aA,.cons (bT _) .nil,rfl⟩
theorem Ko{x:Str}{k:Nat}{px m:Pos}{op:Operator}{sub:Bool}(ho:PIp X op (ipI λi j=>if sub then i-j else i+j))(hN:X.N[k]?=some x)(hv:vC X.env.scope x)(hi:SX X c b pb)(he:SX X c e p)(ha:∀y iv new,augStore b y iv new=(do holding [new,y,iv] (setItem y iv new);release [new,y,iv] [];pure .next):=by intros;rfl)(hd:(x==("__debug__":Str))=false:=by decide)(C:(x==("__classdict__":Str))=false:=by decide):SS X c n (.AugAssign (.Subscript (.Name x px) b m) op e pos) (.Hz k pb sub p):=by
 obtain⟨ti,E,G⟩:=hi.cG;obtain⟨te,I,J⟩:=he.cG;refine fB (Kc (aP hN hv hd C) E Eg I ho set_list ha) ?_;rintro D σ H⟨F,ρ,fl,ac,g,e,kk⟩;rw[HH.X15]at e;obtain⟨x0,ae,o,Y⟩:=aa e;clear e;obtain⟨e0,HJ⟩:=aD o;clear o;subst HJ;obtain⟨dk,L,e1,Z⟩:=aa Y;clear Y;obtain⟨l,af,f,eC⟩:=aa Z;clear Z;obtain⟨A,M⟩:=aD f;clear f;subst M;obtain⟨ra,ag,r,eD⟩:=aa eC;clear eC;obtain⟨e3,O⟩:=aD r;clear r;subst O;obtain⟨db,ah,e4,s⟩:=aa eD;clear eD;obtain⟨Q,NT,h,_⟩:=za g e0;refine⟨.ref Q,h,G g e1 λvi F1 H1 s1 pi=>?_⟩;split at s
 . rename_i u v bb ds kz q;split at s
   . rename_i j hj;cases s;obtain⟨B,f3,f5⟩:=cQ e3;have U:B=kz:=by cases f3;rfl
     subst U;have f:pk L k=some (.lst l):=by
      unfold CN at A;split at A;.rename_i z;cases A;exact z
      .cases A
     obtain⟨o',t,po⟩:=s1.gs.pk f;rw[h]at t;cases t;obtain⟨ad,xs,hr,hL,rs⟩:=po.lst s1.gs.sub;cases hr;obtain⟨j0,h1,h2⟩:=Ff f5;obtain⟨w,h3,h4⟩:=rs.get h2;have W:BZ xs B=some w:=by unfold BZ;rw[rs.length,h1];exact h3
     have hw:w=.int u:=by rw[Rep]at h4;exact h4
     subst hw;refine⟨Q,xs,B,.int u,rfl,pi.int,hL,W,J s1.gs e4 λvb F2 H2 s2 pb=>⟨u,v,rfl,pb.int,?_⟩⟩;obtain⟨ai,zs,z1,z2,z3,z4⟩:=s2.gs.qJ k _ ds q rfl;rw[h]at z1;cases z1;refine⟨Q,zs,B,j,rfl,pi.int,z2,by rw[z4.length];exact hj,?_⟩;exact kk F2 σ _ ((s1.trans s2).trans (s2.gs.mut q h (z4.set (bT _) j)))
   .cases s
 .cases s
end
section
variable{X:Cx}{c:Call}{n:Nat}{a b e:Expr}{pa pb p:P}{pos:Pos}
theorem J2{neg:Bool}{o:Op}{op:CmpOp}(h:(op=.In/\neg=false)\/(op=.NotIn/\neg=true))(j:qL o=vO neg)(l:X.A.units+8<cLine)(m:SX X c a pa)(y:SX X c b pb)(B:behindInMarks op b=false):ST X c (.Compare a [op] [b] pos) (.bin o pa pb):=by obtain⟨C,E,h1,G,I⟩:=m.iC y;refine v8 (kO (Iv h l) h1 G B) λσ H Q q=>mD (t:=yl (rD X.K (vO neg)) C E) (λQ z=>?_) q;obtain⟨F,ρ,r,J,g,e,k⟩:=z;rw[HH.E3]at e;obtain⟨i,L,M,f⟩:=aa e;have N:=aD f;clear f;obtain⟨f,O⟩:=N;subst O;rw[j]at f;refine I g M λv u U H' s W Y=>⟨U,i.1,i.2,r,s.gs.sub,W,Y,f,λw Z H2 x rn=>?_⟩;exact k w Z H2 (s.trans (x.stp s.gs)) (.later s (rn.nu s.gs))
theorem Ro(f:X.A.units+8<cLine)(g:SX X c a pa)(h:SX X c b pb)(i:behindInMarks .In b=false):ST X c (.Compare a [.In] [b] pos) (.bin .din pa pb):=J2 (.inl ⟨rfl,rfl⟩) rfl f g h i
theorem Rr{i:Nat}{x:Str}{h:Pos}{pk:P}{neg:Bool}{op:CmpOp}(f:(op=.In/\neg=false)\/(op=.NotIn/\neg=true))(j:X.A.units+8<cLine)(k:X.N[i]?=some x)(l:vC X.env.scope x)(m:SX X c a pk)(o:behindInMarks op (.Name x h)=false)(hd:(x==("__debug__":Str))=false:=by decide)(g:(x==("__classdict__":Str))=false:=by decide):ST X c (.Compare a [op] [.Name x h] pos) (.Ob i pk neg):=v8 (OJ (R9 f j k l m hd g) o) λσ H Q q=>mD (λ_ z=>z) q
end
end HH
end
section
namespace L2
open PySem PySem.Spec PyProof.Rows
end L2
namespace HH
open PySem L2 PySem.Spec PyProof.Rows
noncomputable def Z9(o:Obj):Bool:=match o.cls with|.type n=>n=="list"|_=>false
def U0(K:PySem.W.Frag):Prop:=(K.filter λp=>Z9 p.2).map (·.1)=[]
theorem mem_lookup{f g:Type}[BEq f][LawfulBEq f]{a:f}{b:g}:∀{l:List (f×g)},l.lookup a=some b->(a,b)∈l
 |[],h=>by cases h|(c,d)::l,h=>by
   rw[lookup_cons]at h;split at h;.rename_i e;have:=eq_of_beq e;cases h;subst this;simp
   .exact mem_cons_of_mem _ (mem_lookup h)
theorem U0.no{K:PySem.W.Frag}(h:U0 K){a:Addr}{o:Obj}(e:K.lookup a=some o)(c:o.cls=.type "list"):False:=by have b:a∈(K.filter λp=>Z9 p.2).map (·.1):=mem_map.mpr ⟨(a,o),List.mem_filter.mpr ⟨mem_lookup e,by unfold Z9;rw[c];rfl⟩,rfl⟩;rw[show(K.filter λp=>Z9 p.2).map (·.1)=[]from h]at b;cases b
noncomputable def lfO:Option HO->Option HO|some (.lst _)=>none|some (.cO _ (.lst _))=>none|o=>o
noncomputable def lf(F:Hp):Hp:=λb=>lfO (F b)
section
variable{K:PySem.W.Frag}{F F1 H H1:Hp}
theorem v5{o:Option HO}{u:HO}(h:lfO o=some u):o=some u/\(∀xs,u≠.lst xs)/\∀a xs,u≠.cO a (.lst xs):=by
 unfold lfO at h;split at h;.cases h
 .cases h
 .rename_i h1 b;subst h;exact⟨rfl,λxs z=>h1 xs (by rw[z]),λa xs z=>b a xs (by rw[z])⟩
theorem RT:aF (lf F) F:=λb o e=>(v5 e).1
theorem um{ds:List D}{σ:L2.St}{b:Addr}:¬ Own (ds.map (Sl.val false)) σ b:=λ⟨i,⟨s,o,e,a⟩,_⟩=>by obtain⟨d,_,rfl⟩:=mem_map.mp (mem_of_getElem? e);cases a
end
end HH
namespace L2
open PySem PySem.Spec PyProof.Rows
theorem Inv.abu{X:Cx}{f:List (Addr×Obj)}{σ:St}{H:Hp}{s:Shared}{a:Addr}{o:Obj}{ys:List V}(I:Inv X f σ H s)(e:H a=some (.cO o (.lst ys)))(h0:∀o u,X.H₀ a≠some (.cO o u)):Inv X f σ (upd H a (.lst ys)) s:=by
 have ne:∀{b:Addr}{u:HO},H b=some u->(∀m u',u≠.cO m u')->b≠a:=λ{b u}h k z=>by rw[z,e]at h;cases h;exact k _ _ rfl
 have nn:∀{b:Addr},H b=none->b≠a:=λ{b}h z=>by rw[z,e]at h;cases h
 refine⟨I.ok,I.os,I.bare,⟨I.base.keep,I.base.slot,λb i h n r=>?_,I.base.there,λb xs h=>?_,λb i u h=>?_,λb ps h=>?_⟩,I.loc,I.cell,?_,λx c hc=>?_,λp t=>?_,λb u h=>?_,I.len⟩;.have:=I.base.free b i h n r;rw[ao (nn this)];exact this
 .have:=I.base.tups b xs h;rw[ao (ne this (by intro _ _ z;cases z))];exact this
 . have:=I.base.nH b i u h;have g:b≠a:=by rintro rfl;exact h0 _ _ h
   rw[ao g];exact this
 .obtain⟨more,j⟩:=I.base.qN b ps h;exact⟨more,by rw[ao (ne j (by intro _ _ z;cases z))];exact j⟩
 .rw[ao (nn I.free)];exact I.free
 .rw[ao (nn (I.iy x c hc))];exact I.iy x c hc
 .obtain⟨w,l,y⟩:=I.pin p t;exact⟨w,by rw[ao (nn l)];exact l,y⟩
 . by_cases g:b=a;.subst g;rw[aA]at h;cases h;obtain⟨_,q⟩:=I.hok b _ e;exact q
   .rw[ao g]at h;exact(I.hok b u h).stay (λc v _ q=>q) (λc q=>by rw[ao (ne q (by intro _ _ z;cases z))];exact q) λc xs q=>by rw[ao (ne q (by intro _ _ z;cases z))];exact q
end L2
end
section
namespace HH
open PySem L2 PySem.Spec PyProof.Rows
theorem JG{K:PySem.W.Frag}{F H:Hp}{ds:List D}{vs:List V}(sub:aF F H)(r:aB K F vs ds):GS K F (ds.map (Sl.val false)) (vs.map some) H:=by
 refine⟨sub,by simp[r.length],λi b d e=>?_,λi s o e f=>?_,λi j b h _=>(um ⟨i,h⟩).elim⟩;.rw[getElem?_map]at e;obtain⟨d',c,a⟩:=map_some e;cases a;obtain⟨v,h1,g⟩:=r.get c;exact⟨v,by rw[getElem?_map,h1];rfl,g⟩
 .rw[getElem?_map]at e;obtain⟨d',c,a⟩:=map_some e;subst a;cases f
end HH
end
section
namespace L2
open PySem PySem.Spec PyProof.Rows
section
variable{X:Cx}{pins:List (Addr×Obj)}{σ:St}{H H':Hp}{s:Shared}
theorem Inv.re(I:Inv X pins σ H s)(n:∀b,H b=none->H' b=none)(e:∀b xs,H b=some (.tup xs)->H' b=some (.tup xs))(fr:∀b o u,H b=some (.cO o u)->H' b=some (.cO o u))(f:∀b ps,H b=some (.Mf ps)->H' b=some (.Mf ps))(ok:jF X.prog X.w H' s.heap):Inv X pins σ H' s:=⟨I.ok,I.os,I.bare,⟨I.base.keep,I.base.slot,λb a h q g=>n _ (I.base.free b a h q g),I.base.there,λb xs h=>e _ _ (I.base.tups b xs h),λb a u h=>fr _ _ _ (I.base.nH b a u h),λb ps h=>(I.base.qN b ps h).imp λ_ z=>f _ _ z⟩,I.loc,I.cell,n _ I.free,λx c hc=>n _ (I.iy x c hc),λp i=>let⟨j,p2,p3⟩:=I.pin p i;⟨j,n _ p2,p3⟩,ok,I.len⟩
noncomputable def gV(H:Hp)(a q:Addr)(xs ys:List V):Hp:=upd (upd H a (.lst (.ref q::ys))) q (.lst xs)
noncomputable def cls(H:Hp)(a q:Addr)(xs ys:List V):Hp:=upd (upd H a (.pot q xs ys)) q (.own a)
noncomputable def pl:HO->Bool|.pot _ _ _=>true|.lst _=>true|.own _=>true|_=>false
theorem re2(I:Inv X pins σ H s){a q:Addr}{o u f u':HO}(h:H a=some o)(eq:H q=some u)(i:pl o=true)(j:pl u=true)(ok:jF X.prog X.w (upd (upd H a f) q u') s.heap):Inv X pins σ (upd (upd H a f) q u') s:=by
 have kp:∀b w,H b=some w->pl w=false->upd (upd H a f) q u' b=some w:=λb w e c=>by
  have h1:b≠q:=by rintro rfl;rw[eq]at e;cases e;rw[j]at c;cases c
  have g:b≠a:=by rintro rfl;rw[h]at e;cases e;rw[i]at c;cases c
  rw[ao h1,ao g];exact e
 refine I.re (λb e=>?_) (λb xs e=>kp b _ e rfl) (λb o u e=>kp b _ e rfl) (λb ps e=>kp b _ e rfl) ok;have h1:b≠q:=by rintro rfl;rw[eq]at e;cases e
 have g:b≠a:=by rintro rfl;rw[h]at e;cases e
 rw[ao h1,ao g];exact e
theorem jF.two{P:Program}{w:World}{h:Heap}(ok:jF P w H h){a q:Addr}{o u g u':HO}(l:H a=some o)(eq:H q=some u)(m:pl o=true)(n:pl u=true)(p:∀b,o=.own b->b=a\/b=q)(r:∀b,u=.own b->b=a\/b=q)(h1:aY P w (upd (upd H a g) q u') h a g)(t:aY P w (upd (upd H a g) q u') h q u')(ne:q≠a):jF P w (upd (upd H a g) q u') h:=λb x e=>by
 by_cases f:b=q;.subst f;rw[aA]at e;cases e;exact t
 . by_cases i:b=a;.subst i;rw[ao f,aA]at e;cases e;exact h1
   . rw[ao f,ao i]at e;refine(ok b x e).stay (λc v _ z=>z) (λc z=>?_) λc xs z=>?_
     . have j:c≠q:=by rintro rfl;rw[eq]at z;cases z;rcases r b rfl with z|z;exact i z;exact f z
       have k:c≠a:=by rintro rfl;rw[l]at z;cases z;rcases p b rfl with z|z;exact i z;exact f z
       rw[ao j,ao k];exact z
     . have j:c≠q:=by rintro rfl;rw[eq]at z;cases z;cases n
       have k:c≠a:=by rintro rfl;rw[l]at z;cases z;cases m
       rw[ao j,ao k];exact z
theorem Inv.gV(I:Inv X pins σ H s){a q:Addr}{xs ys:List V}(e:H a=some (.pot q xs ys)):H q=some (.own a)/\q≠a/\Inv X pins σ (L2.gV H a q xs ys) s:=by obtain⟨d,ne,h1,b⟩:=show aY X.prog X.w H s.heap a (.pot q xs ys)from I.hok a _ e;exact⟨d,ne,re2 I e d rfl rfl (I.hok.two e d rfl rfl (λ_ z=>by cases z) (λ_ z=>by cases z;exact .inl rfl) b h1 ne)⟩
theorem Inv.cls(I:Inv X pins σ H s){a q:Addr}{xs ys:List V}(e:H a=some (.lst (.ref q::ys)))(b:H q=some (.lst xs))(ne:q≠a):Inv X pins σ (L2.cls H a q xs ys) s:=by have h1:aY X.prog X.w H s.heap a (.lst (.ref q::ys)):=I.hok a _ e;have c:aY X.prog X.w H s.heap q (.lst xs):=I.hok q _ b;obtain⟨_,f,n,_,g⟩:=id c;exact re2 I e b rfl rfl (I.hok.two e b rfl rfl (λ_ z=>by cases z) (λ_ z=>by cases z) ⟨aA,ne,c,h1⟩ ⟨_,g⟩ ne)
end
end L2
end
section
namespace HH
open PySem L2 PySem.Spec PyProof.Rows
section
variable{K:PySem.W.Frag}{F H H':Hp}{ρ:List Sl}{σ:L2.St}{X:Cx}
theorem GS.V2{x:Nat}{b:Bool}{ns ns':List Int}{u k u' k':Int}{a:Addr}{y:HO}(g:GS K F ρ σ H)(e:ρ[x]?=some (.pot b ns u k))(m:σ[x]?=some (some (.ref a)))(r:iY K F y (.p ns' u' k'))(C:H' a=some y)(kp:∀c o,H c=some o->c≠a->H' c=some o):au K F ρ σ H F (ρ.set x (.pot b ns' u' k')) σ H':=by
 have s:x<ρ.length:=(eN e).1;have z:aM ρ σ x a:=⟨⟨_,_,e,rfl⟩,m⟩;obtain⟨O,Q,h1,U,A,W⟩:=g.own x _ _ e rfl;rw[m]at h1;cases h1;have h:∀{j:Nat}{c:Addr},aM (ρ.set x (.pot b ns' u' k')) σ j c->aM ρ σ j c:=λ{j c}⟨⟨t,dt,i,v⟩,q3⟩=>by
  by_cases f:j=x;.subst f;exact⟨⟨_,_,e,rfl⟩,q3⟩
  .rw[dB f]at i;exact⟨⟨t,dt,i,v⟩,q3⟩
 refine⟨⟨λc o q=>?_,by simp[g.len],λj E d q=>?_,λj t dt q w=>?_,λj k c i v=>g.dis j k c (h i) (h v)⟩,.refl _,λc n G=>absurd n G,λc o q n=>?_,λc⟨j,q⟩=>.inl ⟨j,h q⟩,by simp,λj t q l=>⟨rfl,?_⟩⟩
 . have:c≠a:=by rintro rfl;rw[A]at q;cases q
   exact kp c o (g.sub c o q) this
 . by_cases f:j=x;.subst f;rw[getElem?_set_self s]at q;cases q
   .rw[dB f]at q;exact g.val j E d q
 . by_cases f:j=x;.subst f;rw[getElem?_set_self s]at q;cases q;cases w;exact⟨a,_,m,C,A,r⟩
   . rw[dB f]at q;obtain⟨c,I,B,J,L,M⟩:=g.own j t dt q w;have:c≠a:=by rintro rfl;exact f (g.dis j x c ⟨⟨t,dt,q,w⟩,B⟩ z)
     exact⟨c,I,B,kp c _ J this,L,M⟩
 . have:c≠a:=by rintro rfl;exact n ⟨x,z⟩
   exact kp c o q this
 . by_cases f:j=x;.subst f;rw[e]at q;cases q;have N:b=true:=l;subst N;exact⟨_,getElem?_set_self s,_,_,_,rfl⟩
   .exact⟨t,by rw[dB f];exact q,.refl t⟩
def XM(K:PySem.W.Frag):R2:=λx y H Q=>∃(p:Addr)(ns:List Int)(l:Addr),x=.ref p/\y=.ref l/\eG K H p (ns.map V.int)/\H l=some (.lst [])/\Q (.bl (!ns.isEmpty)) H
theorem rQ{ns:List Int}:aB K F (ns.map V.int) (ns.map D.int):=by induction ns with|nil=>exact .nil|cons n r a=>exact .cons (by rw[Rep]) a
theorem Ds(b:X.A.units+8<cLine):eU X (compareOp .NotEq) (XM X.K):=by
 rintro a s σ H x y v u Q I c f⟨p,ns,l,rfl,rfl,h1,g,k⟩;have hd:fC 8 (.lst (ns.map .int))=true:=by show(ns.map D.int).all (fC 7)=true;exact all_eq_true.mpr λd hd=>by obtain⟨n,_,rfl⟩:=mem_map.mp hd;rfl
 have h:cU X.K H H (.ref p) (.lst (ns.map .int)):=.inl (by rw[Rep];exact⟨p,_,rfl,h1,rQ⟩);have i:cU X.K H H (.ref l) (.lst []):=.inr ⟨l,[],[],rfl,g,.nil,rfl⟩;have e:fO (.lst (ns.map .int)) (.lst [])=ns.isEmpty:=by rw[show fO (.lst (ns.map .int)) (.lst [])=gj (ns.map .int) []by rw[fO]];cases ns<;>rfl
 have z:=(Qn I (.refl H) (n:=7) b hd rfl (my I (.refl H) hd h c) (my I (.refl H) (d:=.lst []) rfl i f)).2;rw[e]at z;exact z _ _ _ _ ⟨.bl _,H,I,rfl,k⟩
theorem vL:eU X (binaryOp .FloorDiv) (rI (λ_ j=>0<j/\j<1606938044258990275541962092341162602522202993782792835301376) λi j=>.int (i/j)):=Z6 λi j _ _ _ _ _ hc q=>by
 obtain⟨h1,b⟩:=hc;have a:j.natAbs.log2<9000:=by
  have:j.natAbs<2^200:=by
   have:(2:Nat)^200=1606938044258990275541962092341162602522202993782792835301376:=by decide
   omega
  have c:=(Nat.log2_lt (by omega)).mpr this;omega
 exact floordiv_int (by omega) (by rw[Int.fdiv_eq_ediv_of_nonneg i (by omega)];exact q) (.inl (PyProof.noPylong_of_log2 a))
structure OP(K:PySem.W.Frag)(H:Hp)(a q:Addr)(b:Bool)(ns:List Int)(u k:Int)(H1:Hp):Prop where
 pa:H1 a=some (.lst [.ref q,.int u,.int k])sq:eG K H1 q (ns.map .int)ow:b=true->H1 q=some (.lst (ns.map .int))/\q≠a
 nb:b=false->ns=[]kp:∀c o,H c=some o->c≠a->(b=true->c≠q)->H1 c=some o
variable{a q:Addr}{b:Bool}{ns ns':List Int}{u k u' k':Int}{H1:Hp}
theorem eG.acf{xs ys:List V}{o:HO}(h:eG K H1 q xs)(e:H1 a=some (.lst ys))(ne:ys≠xs):eG K (upd H1 a o) q xs:=by
 rcases h with(h|⟨c,h⟩)|h
 . have:q≠a:=by rintro rfl;rw[e]at h;cases h;exact ne rfl
   exact .inl (.inl (by rw[ao this];exact h))
 . have:q≠a:=by rintro rfl;rw[e]at h;cases h
   exact .inl (.inr ⟨c,by rw[ao this];exact h⟩)
 .exact .inr h
theorem OP.new{l:Addr}{o:HO}(h:OP K H a q b ns u k H1)(n:H1 l=none):OP K H a q b ns u k (upd H1 l o):=by have sm:aF H1 (upd H1 l o):=aF.cg n;exact⟨sm _ _ h.pa,sm.seq h.sq,λe=>⟨sm _ _ (h.ow e).1,(h.ow e).2⟩,h.nb,λc o q f g=>sm _ _ (h.kp c o q f g)⟩
theorem OP.Wd(h:OP K H a q b ns u k H1):OP K H a q b ns u' k' (upd H1 a (.lst [.ref q,.int u',.int k'])):=⟨aA,eG.acf h.sq h.pa (by cases ns<;>(intro z;cases z)),λe=>⟨by rw[ao (h.ow e).2];exact(h.ow e).1,(h.ow e).2⟩,h.nb,λc o z f g=>by rw[ao f];exact h.kp c o z f g⟩
theorem OP.W2(h:OP K H a q true ns u k H1):OP K H a q true ns' u k (upd H1 q (.lst (ns'.map .int))):=⟨by rw[ao (Ne.symm (h.ow rfl).2)];exact h.pa,.of aA,λ_=>⟨aA,(h.ow rfl).2⟩,λz=>(by cases z),λc o z f e=>by rw[ao (e rfl)];exact h.kp c o z f e⟩
end
end HH
namespace L2
open PySem PySem.Spec PyProof.Rows
theorem Jk{X:Cx}{b:List Stmt}{t:TS}(h:qC X b t):qC X b (λD σ H=>t {D with rt:=λv H=>D.rt v H\/∃a q xs ys,H a=some (.lst (.ref q::ys))/\H q=some (.lst xs)/\q≠a/\D.rt v (cls H a q xs ys)} σ H):=by
 intro c s σ H D I q;refine bU (h c s σ H _ I q) λf k z=>?_
 cases f with|ret u=>
   obtain⟨v,e,H',g,r,z⟩:=z;rcases z with z|⟨a,q,xs,ys,i,j,ne,z⟩;.exact⟨v,e,H',g,r,z⟩
   .exact⟨v,e,_,g.cls i j ne,r,z⟩|next=>exact z|brk=>exact z|cont=>exact z
theorem K6{X:Cx}{c:List Stmt}{t:TS}(h:qC X c t):qC X c (λD σ H=>t D σ H\/∃a q xs ys,H a=some (.pot q xs ys)/\(H q=some (.own a)->q≠a->t D σ (gV H a q xs ys))):=λb s σ H D I z=>z.elim (h b s σ H D I) λ⟨a,q,xs,ys,e,z⟩=>by obtain⟨d,ne,f⟩:=I.gV e;exact h b s σ _ D f (z d ne)
end L2
end
section
namespace HH
open PySem L2 PySem.Spec PyProof.Rows
section
variable{X:Cx}
abbrev Im(K:PySem.W.Frag)(x:Nat)(i:Int):TE:=yl (Lg K) (jW x) (tC (.int i))
abbrev Lf(K:PySem.W.Frag)(x:Nat):TE:=yl (Lg K) (Im K x 0) (tC (.int 0))
abbrev Pa(K:PySem.W.Frag)(x:Nat):TT:=Gv (yl (XM K) (Im K x 0) (W8 LR))
abbrev oMod(a b:TE):TE:=yl (rI (λ_ j=>0<j) λi j=>.int (i%j)) a b
abbrev oDiv(a b:TE):TE:=yl (rI (λ_ j=>0<j/\j<1606938044258990275541962092341162602522202993782792835301376) λi j=>.int (i/j)) a b
abbrev Kg(a b:TE):TE:=yl (Df λi j=>.int (i+j)) a b
abbrev Ji(a b:TE):TE:=yl (rI Ku λi j=>.int (i*j)) a b
abbrev tk1(K:PySem.W.Frag)(x:Nat):TS:=GF (Vi (Pa K x) (Gv (yl rEq (Lf K x) (tC (.int 0))))) (iu (Mw (tBM K "list" Dw (Im K x 0) (Dv (tC (.int 0)) LR))) pZ)
abbrev tk2(K:PySem.W.Frag)(x m g:Nat):TS:=V4 (Pa K x) (iu (qM (oMod (Lf K x) (jW m)) (gC g)) (iu (qM (oDiv (Lf K x) (jW m)) (J3 (Im K x 0) (tC (.int 0)) yV)) (iu (RL (jW g)) pZ))) pZ
abbrev tk3(K:PySem.W.Frag)(x:Nat):TS:=qM (Kg (Im K x 2) (tC (.int 1))) (J3 (jW x) (tC (.int 2)) yV)
abbrev ZQ(K:PySem.W.Frag)(x o:Nat):TS:=qM (oMod (Kg (Im K x 1) (Ji (tC (.int 69621)) (Im K x 2))) (tC (.int 2147483629))) (gC o)
abbrev Y9(o:Nat):TS:=qM (oMod (Ji (jW o) (jW o)) (tC (.int 2147483629))) (gC o)
abbrev W4(K:PySem.W.Frag)(x o:Nat):TS:=qM (oMod (Kg (Kg (Ji (Im K x 1) (tC (.int 16807))) (jW o)) (Im K x 2)) (tC (.int 2147483629))) (J3 (jW x) (tC (.int 1)) yV)
abbrev Xn(m o:Nat):TS:=RL (oMod (oDiv (oMod (Ji (jW o) (tC (.int 39373))) (tC (.int 2147483647))) (tC (.int 8))) (jW m))
noncomputable abbrev Zz(D:Ends):Ends:={D with rt:=λv H=>D.rt v H\/∃a q xs ys,H a=some (.lst (.ref q::ys))/\H q=some (.lst xs)/\q≠a/\D.rt v (cls H a q xs ys)}
variable{K:PySem.W.Frag}{H H1:Hp}{a q:Addr}{b:Bool}{ns:List Int}{u k:Int}{σ:L2.St}{x:Nat}{Q:VK}
theorem RD{n:Int}{r:List Int}:L2.gK ((n::r).map V.int).length 0=some 0:=by unfold L2.gK;rw[if_pos (by decide),if_pos (by simp only[length_map,length_cons];omega)];rfl
theorem OP.rd(h:OP K H a q b ns u k H1)(c:σ[x]?=some (some (.ref a)))(i:Int){v:V}(e:BZ [V.ref q,.int u,.int k] i=some v)(f:Q v H1):Im K x i σ H1 Q:=⟨.ref a,c,a,_,i,_,rfl,rfl,.of h.pa,e,f⟩
theorem OP.rd0{n:Int}{r:List Int}(h:OP K H a q b (n::r) u k H1)(c:σ[x]?=some (some (.ref a)))(e:Q (.int n) H1):Lf K x σ H1 Q:=h.rd c 0 rfl ⟨q,_,0,_,rfl,rfl,h.sq,by unfold BZ;rw[RD];rfl,e⟩
theorem OP.ne{R:Bool->Hp->Prop}(h:OP K H a q b ns u k H1)(f:σ[x]?=some (some (.ref a)))(g:∀c,OP K H a q b ns u k c->R (!ns.isEmpty) c):Pa K x σ H1 R:=h.rd f 0 rfl ⟨by decide,λp e=>⟨q,ns,p,rfl,rfl,(h.new e).sq,aA,_,rfl,g _ (h.new e)⟩⟩
variable{st1 st2 st3 Yx Mj Yy Yz:Stmt}{m g o:Nat}
theorem BJ{i:Int}:-(2^64)<i%2147483629/\i%2147483629<2^64:=by omega
theorem Kl(p1:PS X st1 (tk1 X.K x))(p2:PS X st2 (tk2 X.K x m g))(p3:PS X st3 (tk3 X.K x))(p4:PS X Yx (ZQ X.K x o))(p5:PS X Mj (Y9 o))(p6:PS X Yy (W4 X.K x o))(p7:PS X Yz (Xn m o)):qC X [st1,st2,st3,Yx,Mj,Yy,Yz] (λD σ H=>∃F ρ fl C,GS X.K F ρ σ H/\Bv x m g o ρ=.ok fl C/\∀F' y H',au X.K F ρ σ H F' C y H'->match fl with|.ret r=>∀v,cH X.K F' C y H' ρ σ H v r->D.rt v H'|_=>False):=by
 refine jm (K6 (Jk (bR p1 (bR p2 (bR p3 (bR p4 (bR p5 (bR p6 (bR p7 jB))))))))) ?_;rintro D σ H⟨F,ρ,fl,C,G,e,kk⟩;unfold Bv at e;split at e;case h_2=>cases e
 rename_i b0 ns u k bm E ex em eg eo;split at e;case isFalse=>cases e
 rename_i hc;obtain⟨q1,q2⟩:=hc;cases e;obtain⟨a,oa,p,ha,fa,hr⟩:=G.own x _ _ ex rfl;obtain⟨vm,hm,rm⟩:=G.val m _ _ em;rw[Rep]at rm;subst rm;have I:∀{i j:Nat}{s t:Sl},ρ[i]?=some s->ρ[j]?=some t->s≠t->i≠j:=λ{i j s t}e1 e2 n z=>by subst z;rw[e1]at e2;cases e2;exact n rfl
 have gx:g≠x:=I eg ex (by simp);have gm:g≠m:=I eg em (by simp);have ox:o≠x:=I eo ex (by simp);have om:o≠m:=I eo em (by simp);have L:o<σ.length:=by rw[<-G.len];exact(eN eo).1
 have ac:g<σ.length:=by rw[<-G.len];exact(eN eg).1
 have run:∀(w:Bool)(f:Addr),(w=true->oa=.pot f (ns.map .int) [.int u,.int k]/\H f=some (.own a))->(w=false->Rep X.K F (.ref f) (.lst []))->∀H1,OP X.K H a f w ns u k H1->iu (tk1 X.K x) (iu (tk2 X.K x m g) (iu (tk3 X.K x) (iu (ZQ X.K x o) (iu (Y9 o) (iu (W4 X.K x o) (iu (Xn m o) pZ)))))) (Zz D) σ H1:=λw f ae af H1 h=>by--the end
  have fin:∀(H1:Hp)(l:List Int)(u' k' d:Int),OP X.K H a f w l u' k' H1->lK ns u k E=(d,l,u',k')->(Zz D).rt (.int d) H1:=λH1 l u' k' d h en=>by rw[en]at kk;cases w with|false=>exact .inl (kk _ _ _ (G.V2 ex p (.inr ⟨h.nb rfl,.ref f,rfl,af rfl⟩) h.pa λc o z n=>h.kp c o z n λz=>by cases z) _ (show Rep X.K _ _ _ by rw[Rep]))|true=>
     obtain⟨rfl,hq⟩:=ae rfl;obtain⟨o1,o2⟩:=h.ow rfl;refine .inr ⟨a,f,_,_,h.pa,o1,o2,kk _ _ _ (G.V2 ex p (.inl ⟨f,rfl⟩) (H':=cls H1 a f (l.map .int) [.int u',.int k']) (by unfold cls;rw[ao (Ne.symm o2),aA]) λc o z n=>?_) _ (show Rep X.K _ _ _ by rw[Rep])⟩;unfold cls;by_cases hc:c=f;.subst hc;rw[aA];rw[hq]at z;exact z
     .rw[ao hc,ao n];exact h.kp c o z n λ_=>hc--what comes behind the loop
  have next:∀O,OP X.K H a f w (ns.dropWhile λn=>decide (n=0)) u k O->iu (tk2 X.K x m g) (iu (tk3 X.K x) (iu (ZQ X.K x o) (iu (Y9 o) (iu (W4 X.K x o) (iu (Xn m o) pZ))))) (Zz D) σ O:=λO A=>by refine A.ne p λH4 B=>?_;unfold lK at fin;generalize(ns.dropWhile λn=>decide (n=0))=ms at B fin;cases ms with|nil=>
     rw[if_neg (by simp)];have U:=B.Wd (u':=u) (k':=k+1);refine B.rd p 2 rfl ⟨k,1,rfl,rfl,.ref a,p,a,_,2,2,rfl,rfl,B.pa,rfl,?_⟩;refine U.rd p 1 rfl (U.rd p 2 rfl ⟨69621,k+1,rfl,rfl,.inl ⟨by decide,by decide⟩,u,_,rfl,rfl,_,2147483629,rfl,rfl,(by decide:(0:Int)<2147483629),?_⟩);refine⟨_,getElem?_set_self L,_,getElem?_set_self L,_,_,rfl,rfl,.inl BJ,_,2147483629,rfl,rfl,(by decide:(0:Int)<2147483629),?_⟩;have J:((σ.set o (some (.int ((u+69621*(k+1))%2147483629)))).set o (some (.int (kY u k))))[x]?=some (some (.ref a)):=by rw[getElem?_set_ne ox,getElem?_set_ne ox];exact p
     have W:((σ.set o (some (.int ((u+69621*(k+1))%2147483629)))).set o (some (.int (kY u k))))[m]?=some (some (.int E)):=by rw[getElem?_set_ne om,getElem?_set_ne om];exact hm
     have M:((σ.set o (some (.int ((u+69621*(k+1))%2147483629)))).set o (some (.int (kY u k))))[o]?=some (some (.int (kY u k))):=getElem?_set_self (by simpa using L);refine(show iu (W4 X.K x o) (iu (Xn m o) pZ) (Zz D) ((σ.set o (some (.int ((u+69621*(k+1))%2147483629)))).set o (some (.int (kY u k)))) (upd H4 a (.lst [.ref f,.int u,.int (k+1)]))from ?_);generalize((σ.set o (some (.int ((u+69621*(k+1))%2147483629)))).set o (some (.int (kY u k))))=ah at J W M;have h6:=U.Wd (u':=(u*16807+kY u k+(k+1))%2147483629) (k':=k+1);refine U.rd J 1 rfl ⟨u,16807,rfl,rfl,.inr ⟨by decide,by decide⟩,_,M,_,_,rfl,rfl,U.rd J 2 rfl ⟨_,_,rfl,rfl,_,2147483629,rfl,rfl,(by decide:(0:Int)<2147483629),.ref a,J,a,_,1,1,rfl,rfl,U.pa,rfl,?_⟩⟩;exact⟨_,M,_,39373,rfl,rfl,.inr ⟨by decide,by decide⟩,_,2147483647,rfl,rfl,(by decide:(0:Int)<2147483647),_,8,rfl,rfl,(by decide:(0:Int)<8/\(8:Int)<1606938044258990275541962092341162602522202993782792835301376),_,W,_,_,rfl,rfl,q1,fin _ [] _ _ _ h6 rfl⟩|cons n r=>
     rw[if_pos (by simp)];have hb:w=true:=by cases w with|true=>rfl|false=>cases B.nb rfl
     subst hb;have Y:(σ.set g (some (.int (n%E))))[x]?=some (some (.ref a)):=by rw[getElem?_set_ne gx];exact p
     have ag:(σ.set g (some (.int (n%E))))[m]?=some (some (.int E)):=by rw[getElem?_set_ne gm];exact hm
     refine B.rd0 p ⟨_,hm,n,E,rfl,rfl,q1,?_⟩;refine B.rd0 Y ⟨_,ag,n,E,rfl,rfl,⟨q1,q2⟩,B.rd Y 0 rfl ⟨f,_,0,0,rfl,rfl,(B.ow rfl).1,RD,?_⟩⟩;exact⟨_,getElem?_set_self ac,fin _ (n/E::r) _ _ _ (B.W2 (ns':=n/E::r)) rfl⟩
  refine⟨λn N H2=>N=σ/\∃l,OP X.K H a f w l u k H2/\l.length=n/\(l.dropWhile λn=>decide (n=0))=ns.dropWhile λn=>decide (n=0),⟨_,rfl,ns,h,rfl,rfl⟩,?_⟩;rintro n N H2⟨rfl,l,h2,rfl,hd⟩;refine h2.ne p λO A=>?_;cases l with|nil=>rw[if_neg (by simp)];show if false=true then _ else _;rw[if_neg (by simp)];exact next O (by rw[<-hd];exact A)|cons n r=>
    rw[if_pos (by simp)];refine A.rd0 p ⟨rfl,_,rfl,?_⟩;show if decide (V.int n=V.int 0)=true then _ else _;by_cases hn:n=0
    . subst hn;have hb:w=true:=by cases w with|true=>rfl|false=>cases A.nb rfl
      subst hb;rw[if_pos (by simp)];refine⟨λy H'=>y=N/\∃l,OP X.K H a f true l u k H'/\l.length=r.length/\(l.dropWhile λn=>decide (n=0))=ns.dropWhile λn=>decide (n=0),λy H' z=>⟨_,Nat.lt_succ_self _,z⟩,?_⟩;exact A.rd p 0 rfl ⟨.inl ⟨rfl,_,A.sq⟩,f,_,0,0,.int 0,rfl,rfl,(A.ow rfl).1,by decide,by decide,(nW RD).1,rfl,rfl,r,A.W2 (ns':=r),rfl,by rw[<-hd];simp[List.dropWhile]⟩
    .rw[if_neg (by simp[hn])];exact next O (by rw[<-hd];simpa[List.dropWhile,hn]using A)
 rcases hr with⟨f,rfl⟩|⟨rfl,v,rfl,rv⟩;.refine .inr ⟨a,f,_,_,ha,λhq ne=>run true f (λ_=>⟨rfl,hq⟩) (λz=>by cases z) _ ?_⟩;unfold gV;exact⟨by rw[ao (Ne.symm ne),aA],.of aA,λ_=>⟨aA,ne⟩,λz=>(by cases z),λc o z n1 n2=>by rw[ao (n2 rfl),ao n1];exact z⟩
 .have Z:=rv;rw[Rep]at Z;obtain⟨f,xs,rfl,h1,h2⟩:=Z;cases h2.eZ;exact .inl (run false f (λz=>by cases z) (λ_=>rv) H ⟨ha,G.sub.seq h1,λz=>(by cases z),λ_=>rfl,λc o z _ _=>z⟩)
end
theorem M8{k:Nat}{A:Around}(r:iK k A):A.units+8<cLine:=by have:=r.un;omega
theorem K7{x m g o:Nat}{ρ a:List Sl}{fl:Fl}(e:Bv x m g o ρ=.ok fl a):∃r,fl=.ret r:=by
 unfold Bv at e;split at e
 . split at e;.cases e;exact⟨_,rfl⟩
   .cases e
 .cases e
theorem Sy{X:Cx}{c:Call}{n x m g o:Nat}{a b f i j l p:Stmt}(q:PS X a (tk1 X.K x))(s:PS X b (tk2 X.K x m g))(t:PS X f (tk3 X.K x))(u:PS X i (ZQ X.K x o))(v:PS X j (Y9 o))(w:PS X l (W4 X.K x o))(y:PS X p (Xn m o)):SB X c n [a,b,f,i,j,l,p] [.Vb x m g o]:=by refine jm (Kl q s t u v w y) ?_;rintro D σ H⟨F,ρ,fl,z,A,e,k⟩;rw[NT]at e;obtain⟨f1,B,h,e⟩:=aa e;rw[HH.X24]at h;obtain⟨r,rfl⟩:=K7 h;cases e;exact⟨F,ρ,.ret r,_,A,h,k⟩
end HH
end
section
namespace L2
open PySem PySem.Spec PyProof.Rows
theorem Xd{X:Cx}{st:Stmt}{t:TS}(h:PS X st t):PS X st (λD σ H=>t {D with nx:=λσ H=>∃H',(∀a s,Inv X a σ H s->Inv X a σ H' s)/\D.nx σ H'} σ H):=by intro a s σ H D I q;refine bU (h a s σ H _ I q) λf g z=>?_;cases f with|next=>obtain⟨b,H',c,e,k,z⟩:=z;exact⟨b,e,k _ _ c,z⟩|ret u=>exact z|brk=>exact z|cont=>exact z
end L2
namespace HH
open PySem L2 PySem.Spec PyProof.Rows
theorem xQ:∀{ds:List D}{ns:List Int},O2 ds=some ns->ds=ns.map .int
 |[],ns,h=>by cases h;rfl|d::r,ns,h=>by
   cases d<;>first|(cases h;done)|skip
   obtain⟨m,a,b⟩:=map_some (show(O2 r).map _=some ns from h);subst b;rw[xQ a];rfl
theorem wu:∀{xs ys:List Int},xs.map V.int=ys.map V.int->xs=ys|[],[],_=>rfl|[],_::_,h=>by cases h|_::_,[],h=>by cases h|x::xs,y::ys,h=>by injection h with h1 h2;injection h1 with h1;rw[h1,wu h2]
noncomputable def lfp(F:Hp)(p:Addr):Hp:=λb=>if b=p then F b else lf F b
section
variable{K:PySem.W.Frag}{F F' F1 H H' H1:Hp}{ρ:List Sl}{σ:L2.St}
theorem zT{p:Addr}:aF (lfp F p) F:=λb o e=>by
 unfold lfp at e;split at e;.exact e
 .exact RT b o e
theorem GS.V3{i:Nat}{ns:List Int}{u k:Int}{a:Addr}{E:HO}{s0:Sl}(g:GS K F ρ σ H)(e:ρ[i]?=some s0)(A:rO s0=false)(G:H a=none)(sm:aF F F')(M:F' a=none)(sub:aF F' H')(I:∀b,F b=none->F' b≠none->nt (H b)=none)(kp:aF H H')(h':H' a=some E)(r:iY K F' E (.p ns u k)):au K F ρ σ H F' (ρ.set i (.pot false ns u k)) (σ.set i (some (.ref a))) H':=by
 have B:i<ρ.length:=(eN e).1;have w:i<σ.length:=by rw[<-g.len];exact B
 have h:∀{j:Nat}{c:Addr},j≠i->aM (ρ.set i (.pot false ns u k)) (σ.set i (some (.ref a))) j c->aM ρ σ j c:=λ{j c}f⟨⟨t,ds,e1,e2⟩,e3⟩=>by rw[dB f]at e1 e3;exact⟨⟨t,ds,e1,e2⟩,e3⟩
 have new:∀{c:Addr},aM (ρ.set i (.pot false ns u k)) (σ.set i (some (.ref a))) i c->c=a:=λ{c}⟨_,e3⟩=>by rw[getElem?_set_self w]at e3;cases e3;rfl
 have no:∀{j:Nat},¬ aM ρ σ j a:=λ{j}⟨⟨t,ds,e1,e2⟩,e3⟩=>by obtain⟨c,o,m,s,_⟩:=g.own j t ds e1 e2;rw[e3]at m;cases m;rw[G]at s;cases s
 refine⟨⟨sub,by simp[g.len],λj N d q=>?_,λj t dt q J=>?_,λj k c m s=>?_⟩,sm,λc n O=>.inr (I c n O),λc o q n=>kp c o q,λc⟨j,q⟩=>?_,by simp,λj t q l=>?_⟩
 . by_cases f:j=i;.subst f;rw[getElem?_set_self B]at q;cases q
   .rw[dB f]at q;obtain⟨v,C,y⟩:=g.val j N d q;exact⟨v,by rw[dB f];exact C,y.mono sm⟩
 . by_cases f:j=i;.subst f;rw[getElem?_set_self B]at q;cases q;cases J;exact⟨a,_,getElem?_set_self w,h',M,r⟩
   .rw[dB f]at q;obtain⟨c,Q,C,y,U,L⟩:=g.own j t dt q J;refine⟨c,Q,by rw[dB f];exact C,kp _ _ y,?_,L.mono sm⟩;cases z:F' c with|none=>rfl|some o=>have:=I c U (by rw[z];simp);rw[y]at this;exact(xN L this).elim
 . by_cases f:j=i
   . by_cases x:k=i;.rw[f,x]
     .subst f;have:=new m;subst this;exact absurd (h x s) no
   . by_cases x:k=i;.subst x;have:=new s;subst this;exact absurd (h f m) no
     .exact g.dis j k c (h f m) (h x s)
 . by_cases f:j=i;.subst f;rw[new q];exact .inr G
   .exact .inl ⟨j,h f q⟩
 . have f:j≠i:=by rintro rfl;rw[e]at q;cases q;rw[A]at l;cases l
   exact⟨by rw[dB f],t,by rw[dB f];exact q,.refl t⟩
end
theorem QG{X:Cx}{c:Call}{n x f y W:Nat}{st:Stmt}(nl:U0 X.K)(ac:W=1)(p1:PS X st (qM (Nk (Ig X.K W (c f)) [] E0 (Dv (jW y) LR)) (gC x))):SS X c n st (.SN x f y):=by
 subst ac;rintro B s σ H D I⟨F,ρ,fl,av,G,e,kk⟩;refine Xd p1 B s σ H D I ?_;rw[HH.X25]at e;unfold Ju at e;split at e;case h_2=>cases e
 rename_i b ds ey;split at e;case h_2=>cases e
 rename_i es u k aw ae;split at e;case h_2=>cases e
 rename_i is ns af ag;split at e;case isFalse=>cases e
 rename_i hc;obtain⟨ax,ay,Y,e⟩:=aa e;have zz:=aD Y;clear Y;obtain⟨Y,aE⟩:=zz;cases e;obtain⟨s0,C,E,rfl⟩:=ql Y;have:=xQ af;subst this;have:=xQ ag;subst this;obtain⟨v0,ah,ai⟩:=G.val y b _ ey;have J:=ai;rw[Rep]at J;obtain⟨p,xs,rfl,Z,j⟩:=J;have j:=gn j;subst j;have L:∀{F:Hp}{a:Addr}{xs:List V},eG X.K F a xs->Rd F a (.lst xs):=λ{F a xs}h=>by
  rcases h with h|⟨o,_,_,k1,k2,_⟩;.exact h
  .exact(nl.no k1 k2).elim
 have Z:Rd F p (.lst (is.map .int)):=L Z;have rp:Rep X.K (lfp F p) (.ref p) (.lst (is.map .int)):=by
  rw[Rep];refine⟨p,_,rfl,.inl ?_,rQ⟩;have:lfp F p p=F p:=if_pos rfl;rcases Z with h|⟨o,h⟩;.exact .inl (this.trans h)
  .exact .inr ⟨o,this.trans h⟩
 have al:GS X.K (lfp F p) ([.lst (is.map .int)].map (Sl.val false)) ([V.ref p].map some) H:=JG (zT.trans G.sub) (.cons rp .nil);refine⟨.ref p,ah,rfl,lfp F p,[.val false (.lst (is.map .int))],_,_,al,ae,λv F1 aI M s1 rr=>?_⟩;obtain⟨a,ws,rfl,h1,h2,l,h4,h5⟩:=rr;have N:H a=none:=h5.resolve_left (um (ds:=[.lst (is.map .int)]));obtain⟨w,r1,rfl,g1,l⟩:=l.bY;obtain⟨w2,r2,rfl,g2,l⟩:=l.bY;obtain⟨w3,r3,rfl,g3,l⟩:=l.bY;cases l.eZ;rw[Rep]at g2 g3;subst g2;subst g3;have O:=g1;rw[Rep]at O;obtain⟨q,ys,rfl,m,r⟩:=O;have r:=gn r;subst r;have m:Rd F1 q (.lst (ns.map .int)):=L m;have kp:aF H M:=λb o z=>s1.keep b o z (um (ds:=[.lst (is.map .int)]));have fN:∀b,H b=none->F b=none:=λb z=>by cases w:F b with|none=>rfl|some o=>rw[G.sub b o w]at z;cases z
 have Q:F1 q≠none:=by rcases m with z|⟨o,z⟩<;>rw[z]<;>simp
 have qa:q≠a:=by rintro rfl;exact Q h2
 have fg:∀b,lfp F p b=none->F1 b≠none->nt (H b)=none:=λb z g=>(s1.uU b z g).resolve_left (um (ds:=[.lst (is.map .int)]));by_cases hn:ns=[]
 . subst hn;refine⟨M,λ_ _ z=>z,kk (λb=>match F b with|some o=>some o|none=>F1 b) _ _ (G.V3 C E N (λb o z=>?_) ?_ (λb o z=>?_) (λb z g=>?_) kp h1 (.inr ⟨rfl,.ref q,rfl,?_⟩))⟩;.show(match F b with|some o=>some o|none=>F1 b)=some o;rw[z]
   .show(match F a with|some o=>some o|none=>F1 a)=none;rw[fN a N];exact h2
   .have z:(match F b with|some o=>some o|none=>F1 b)=some o:=z;cases w:F b with|some o'=>rw[w]at z;cases z;exact kp _ _ (G.sub b _ w)|none=>rw[w]at z;exact s1.gs.sub b o z
   .have g:(match F b with|some o=>some o|none=>F1 b)≠none:=g;rw[z]at g;refine fg b ?_ g;cases w:lfp F p b with|none=>rfl|some o=>rw[zT b o w]at z;cases z
   .refine g1.mono λb o z=>?_;show(match F b with|some o=>some o|none=>F1 b)=some o;cases w:F b with|none=>exact z|some o'=>have:=kp _ _ (G.sub b _ w);rw[s1.gs.sub b o z]at this;exact this.symm
 . have am:is≠ns:=hc.resolve_left hn;have ap:lfp F p q=none:=by cases w:lfp F p q with|none=>rfl|some o=>
      have i:=s1.cV q o w;unfold lfp at w;split at w;.rename_i ar;subst ar;refine absurd (wu ?_) am;rcases Z with z|⟨_,z⟩<;>rw[z]at w<;>cases w<;>(rcases m with g|⟨_,g⟩<;>rw[g]at i)<;>first|exact(HO.lst.inj (Option.some.inj i)).symm|exact(HO.lst.inj (HO.cO.inj (Option.some.inj i)).2).symm|cases i
      . obtain⟨_,W,n2⟩:=v5 w;rcases m with g|⟨_,g⟩;.rw[g]at i;cases i;exact absurd rfl (W _)
        .rw[g]at i;cases i;exact absurd rfl (n2 _ _)
   have t:H q=none:=by have y:=fg q ap Q;cases w:H q with|none=>rfl|some o=>rw[w]at y;have z:=kp q o w;cases o with|tup xs=>rcases m with g|⟨_,g⟩<;>(rw[s1.gs.sub q _ g]at z;cases z)|_=>cases y
   have A:∀{c:Addr}{o:HO},H c=some o->c≠a/\c≠q:=λ{c o}z=>⟨(by rintro rfl;rw[N]at z;cases z),(by rintro rfl;rw[t]at z;cases z)⟩;have fin:∀H2:Hp,(∀c o,M c=some o->c≠q->H2 c=some o)->D.nx (σ.set x (some (.ref a))) (cls H2 a q (ns.map .int) [.int u,.int k]):=λH2 z2=>by
    have U:aF H (cls H2 a q (ns.map .int) [.int u,.int k]):=λc o z=>by unfold cls;rw[ao (A z).2,ao (A z).1];exact z2 c o (kp c o z) (A z).2
    exact kk F _ _ (G.V3 C E N (.refl F) (fN a N) (λc o z=>U c o (G.sub c o z)) (λb z g=>absurd z g) U (by unfold cls;rw[ao (Ne.symm qa),aA]) (.inl ⟨q,rfl⟩))
   rcases m with z|⟨ob,z⟩;.exact⟨_,λ_ _ I1=>I1.cls h1 (s1.gs.sub q _ z) qa,fin M λc o z _=>z⟩
   .refine⟨_,λ_ _ I1=>(I1.abu (s1.gs.sub q _ z) λo u g=>?_).cls (by rw[ao (Ne.symm qa)];exact h1) aA qa,fin (upd M q (.lst (ns.map .int))) λc o z n=>by rw[ao n];exact z⟩;rw[I.base.nH q o u g]at t;cases t
variable{X:Cx}{c:Call}{n x f y k:Nat}{nx ny fn:Str}{q1 q2 q3 q4 q5:Pos}
theorem Lb(h:U0 X.K)(i:bw X.prog X.w X.K X.mg X.base k c f fn 1)(hr:iK k X.A)(j:X.N.Nodup)(l:X.N[x]?=some nx)(m:Loc X.env.scope nx)(o:X.N[y]?=some ny)(p:vC X.env.scope ny)(a:Gl X fn:=by rfl)(b:(fn==("__debug__":Str))=false:=by rfl)(e:(ny==("__debug__":Str))=false:=by rfl)(g:(ny==("__classdict__":Str))=false:=by rfl)(s1:swapsWith (.Call (.Name fn q2) [.Name ny q3] [] q4) (some (.Name nx q1)) q5.line X.env=pure false:=by rfl)(f1:X.fn nx=true\/X.env.scope.names.lookup nx=some .local:=by first|exact .inl rfl|exact .inr rfl|assumption):SS X c n (.Assign [.Name nx q1] (.Call (.Name fn q2) [.Name ny q3] [] q4) q5) (.SN x f y):=by obtain⟨q,fd,r,c1,c2,c3,c4,c5⟩:=i.ex;exact QG h c5 (jQ j l m (yU (E:=E0) c1 hr a c2 c3 c4 .nil Nt (cW (aP o p e g) dR (dm rfl)) b (dm rfl) rfl) s1 f1)
end HH
end
noncomputable section
set_option maxHeartbeats 4000000
namespace T
open PySem L2 PySem.Spec PyProof.Rows HH
local macro_rules|`(term|⇑$n)=>`(P.con (.int $n))
local macro_rules|`(term|↑$n)=>`(P.var $n)
local macro_rules|`(tactic|ac_rfl)=>`(tactic|first|exact Or.inl rfl|exact Or.inr (Or.inl rfl))
set_option hygiene false
local macro_rules|`(term|↥($a,$b,$d))=>`(lF Pg w K mg base Hh (k+1) f fd $a (Ig K $b (λargs=>enter c n $d args)))
local macro_rules|`(term|↥($a,$b,$d,0))=>`(bw Pg w K mg base k c $a $b $d)
set_option hygiene true
local macro_rules|`(term|⇑($x))=>`(λ_ _ _ _ _=>$x)
local macro_rules|`(term|nofun)=>`(⟨rfl,rfl,rfl,by decide+kernel,rfl,by decide+kernel,by decide+kernel⟩)
local macro_rules|`(tactic|exists$e)=>`(tactic|with_reducible refine$e)
local macro_rules|`(tactic|lia)=>`(tactic|with_reducible refine bA ?_ ?_)
set_option hygiene false
local macro_rules|`(tactic|exists$i,$e)=>`(tactic|((with_reducible refine uf (i:=$i) ?_ ?_ ?_ ?_ ?_ ?_);exact nd;exact rfl;exact oi;rotate_left;rfl;exact oi;exact$e))
local macro_rules|`(tactic|exists$i,$e,0)=>`(tactic|((with_reducible refine Ip (i:=$i) ?_ ?_ ?_ ?_ ?_ ?_ ?_ ?_ ?_);exact PassesOwn.never;exact hc;exact nd;exact rfl;exact oi;exact$e;rotate_left;(· intro _;rfl);exact oi))
local macro_rules|`(tactic|exists$a,$b,0,0)=>`(tactic|(refine VG $a $b rfl rfl λcdv A outer s H E hr=>?_;have nd:=($b).nd))
local macro_rules|`(tactic|exists(),$e)=>`(tactic|((with_reducible refine Sg ?_);exact$e))
set_option hygiene true
local macro_rules|`(term|‹$l›)=>`((show(($l):List Str).Nodup by decide+kernel))
theorem hc:true=true:=rfl
theorem oi{b:Type}{a:b}{p:Prop}:a=a\/p:=.inl rfl
theorem bQ{X:Cx}{c:Call}{a:Expr}{es:List Expr}{pa:P}{ps:List P}(b:SX X c a pa)(hr:SG X c es ps)(h:nst a=true):SG X c (a::es) (pa::ps):=JM b hr (dm h)
theorem cI{X:Cx}{c:Call}{a:Expr}{es:List Expr}{pa:P}{ps:List P}(b:SX X c a pa)(hr:SA X c es ps)(h:nst a=true):SA X c (a::es) (pa::ps):=An b hr (dm h)
variable{Pg:Program}{w:World}{K:PySem.W.Frag}{mg:Str->Option Value}{base:Heap}{f:Addr}{fd:FuncData}{k n:Nat}{c:Call}{cl:Nat->Addr}
noncomputable def top(i:Nat):Stmt:=PySem.Challenge.pw_hourhaul_k49_chains_told.main.body.getD i (.Pass ⟨0,0,0,0⟩)
abbrev s0:Stmt:=top 1
noncomputable def b0:List S:=[.asg 2 (.idx (.idx ↑0 ⇑1) (.idx ↑1 ⇑0)),.ret (.N8 (.idx ↑1 ⇑1) (.tup [.idx ↑2 ⇑0,.idx ↑2 ⇑1]) (.tup [.idx ↑2 ⇑1,.idx ↑2 ⇑0]))]
def f0:Fd:=⟨2,3,b0⟩
theorem sc0:aQ ["net","step","way"] ["net","step"] (aC s0):=nofun
include cl in
theorem d0(a:jP K "step_places" "step_places" s0 f fd):↥(["net","step"],2,f0):=by
 exists a,sc0,0,0;refine bA ?_ ?_;.exists 2,az (az (sv 0) ak) (az (sv 1) ak)
 lia;.exists(),uD (dz (az (sv 1) ak)) (bO (cI (az (sv 2) ak) (cI (az (sv 2) ak) aH rfl) rfl)) (bO (cI (az (sv 2) ak) (cI (az (sv 2) ak) aH rfl) rfl))
 exact aq
abbrev s1:Stmt:=top 2
noncomputable def b1:List S:=[.asg 2 (.idx (.idx (.idx ↑0 ⇑1) (.idx ↑1 ⇑0)) ⇑3),.ret (.N8 (.idx ↑1 ⇑1) ↑2 (.neg ↑2))]
def f1:Fd:=⟨2,3,b1⟩
theorem sc1:aQ ["net","step","hours"] ["net","step"] (aC s1):=nofun
include cl in
theorem d1(a:jP K "step_hours" "step_hours" s1 f fd):↥(["net","step"],2,f1):=by
 exists a,sc1,0,0;refine bA ?_ ?_;.exists 2,az (az (az (sv 0) ak) (az (sv 1) ak)) ak
 lia;.exists(),uD (dz (az (sv 1) ak)) (sv 2) (iQ (sv 2))
 exact aq
abbrev s2:Stmt:=top 3
noncomputable def b2:List S:=[.asg 3 (.idx ↑1 (.idx ↑2 ⇑0)),.ret (.N8 (.idx ↑2 ⇑1) (.bin .sub (.idx (.idx (.idx ↑0 ⇑1) (.idx ↑2 ⇑0)) ⇑2) ↑3) ↑3)]
def f2:Fd:=⟨3,4,b2⟩
theorem sc2:aQ ["net","stream","step","loads"] ["net","stream","step"] (aC s2):=nofun
include cl in
theorem d2(a:jP K "step_room" "step_room" s2 f fd):↥(["net","stream","step"],3,f2):=by
 exists a,sc2,0,0;refine bA ?_ ?_;.exists 3,az (sv 1) (az (sv 2) ak)
 lia;.exists(),uD (dz (az (sv 2) ak)) (aK dw (az (az (az (sv 0) ak) (az (sv 2) ak)) ak) (sv 3)) (sv 3)
 exact aq
abbrev s3:Stmt:=top 4
noncomputable def b3:List S:=[.ret (.blt .sum [.comp ↑1 1 [2] true none (.call 1 [↑0,↑2])])]
def f3:Fd:=⟨2,2,b3⟩
theorem sc3:aQ ["net","steps"] ["net","steps"] (aC s3):=nofun
include cl in
theorem d3(a:jP K "steps_hours" "steps_hours" s3 f fd)(HW:mg "sum"=none)(b:↥(1,"step_hours",2,0)):↥(["net","steps"],2,f3):=by
 exists a,sc3,0,0;refine bA ?_ ?_;.exists(),QH rfl hc (by rfl) HW (iR (N':=["net","steps","step"]) hc (JB rfl (by rfl)) (cT (sv 1)) ⇑(aO (i:=2) ‹["net","steps","step"]› rfl (Or.inl rfl) (Or.inr rfl)) (dW (dC)) ⇑(jA) ⇑((fL b hr (bQ (sv 0) (bQ (sv 2) aG rfl) rfl))))
 exact aq
abbrev s4:Stmt:=top 5
noncomputable def b4:List S:=[.HD 2 (.wW ⇑0 (.idx ↑0 ⇑0)) 1 [5] true (.lst []),.Cy (.wW ⇑0 (.blt .len [.idx ↑0 ⇑1])) [3] true [.Cy (.tup [.tup [↑3,.con (.bl true)],.tup [↑3,.con (.bl false)]]) [4] true [.ifs (.cmp .gt (.call 2 [↑0,↑1,↑4]) ⇑0) [.HF 2 (.idx (.call 0 [↑0,↑4]) ⇑0) ↑4] []]],.cO 2,.ret ↑2]
def f4:Fd:=⟨2,5,b4⟩
theorem sc4:aQ ["net","stream","steps","number","step"] ["net","stream"] (aC s4):=nofun
include cl in
theorem d4(a:jP K "open_steps" "open_steps" s4 f fd)(cF:mg "len"=none)(cN:mg "range"=none)(b:↥(0,"step_places",2,0))(e:↥(2,"step_room",3,0)):↥(["net","stream"],2,f4):=by exists a,sc4,0,0;exact(by(refine JQ (i:=2) (N':=["net","stream","steps","number","step","place"]) (g:=gC 5) ?_ ?_ ?_ ?_ ?_ ?_ ?_ ?_ ?_ ?_ ?_ ?_ ?_ ?_);exact hc;exact nd;exact rfl;exact oi;exact JB rfl (by rfl);exact kZ rfl (by rfl) cN (az (sv 0) ak);exact ⇑(aO (i:=5) ‹["net","stream","steps","number","step","place"]› rfl (Or.inl rfl) (Or.inr rfl));exact dW (dC);exact ⇑(jA);exact ⇑((cC aH));(· exists Ho ?_ ?_;(· exists Ab (g:=gC 3) ?_ ?_ ?_ ?_ ?_ ?_ ?_;exact PassesOwn.never;exact hc;(· exists Gk ?_ ?_ ?_ ?_ ?_;exact rfl;rfl;exact cN;exact gM rfl (by rfl) cF (az (sv 0) ak);rfl);exact aO (i:=3) nd rfl oi oi;(· rw[lR];exact tD 3);(· exists pC ?_ ?_;(· exists Ab (g:=gC 4) ?_ ?_ ?_ ?_ ?_ ?_ ?_;exact PassesOwn.never;exact hc;exact J1 (bO (cI (bO (cI (sv 3) (cI fM aH rfl) rfl)) (cI (bO (cI (sv 3) (cI fM aH rfl) rfl)) aH rfl) rfl));exact aO (i:=4) nd rfl oi oi;(· rw[lR];exact tD 4);(· exists pC ?_ ?_;(· exists Pb ?_ ?_ ?_;exact bF tM (fL e hr (bQ (sv 0) (bQ (sv 1) (bQ (sv 4) aG rfl) rfl) rfl)) ak (bC _);(· exists pC ?_ ?_;(· exists Gd (k:=2) ?_ ?_ ?_ ?_ ?_ ?_ ?_ ?_ ?_ ?_ ?_ ?_;exact rfl;(· first|exact Or.inl rfl|exact Or.inr (Or.inl rfl));exact az (fL b hr (bQ (sv 0) (bQ (sv 4) aG rfl) rfl)) ak;exact sv 4;(· intro _ _;rfl);rfl;rfl;rfl;rfl;rfl;rfl;rfl);exact n6);exact n6);exact n6);(· intro _;rfl));exact n6);(· intro _;rfl));(· exists Kh ?_;(· lia;(· exists(),sv 2);exact aq)));rfl;(· intro _;rfl);exact oi)
abbrev s5:Stmt:=top 6
noncomputable def b5:List S:=[.asg 3 (.call 4 [↑0,↑1]),.Cz 4,.iz (.blt .keys [↑2]) [5] true [.gP 4 ↑5 (.tup [.bin .Cw ↑2 ↑5,⇑0,.con .non])],.asg 6 (.blt .U9 [↑2]),.whl (.cmp .gt (.blt .len [↑6]) ⇑0) [.Cz 7,.iz ↑6 [5] true [.iz (.idx ↑3 ↑5) [8] true [.asg 9 (.idx (.call 0 [↑0,↑8]) ⇑1),.asg 10 (.tup [.bin .add (.idx (.Oa 4 ↑5) ⇑0) (.call 1 [↑0,↑8]),.bin .add (.idx (.Oa 4 ↑5) ⇑1) ⇑1]),.ifs (.or (.Ob 4 ↑9 true) (.cmp .lt ↑10 (.slice (.Oa 4 ↑9) (.con .non) ⇑2))) [.gP 4 ↑9 (.bin .add ↑10 (.tup [↑8])),.gP 7 ↑9 (.con (.bl true))] []]],.asg 6 (.blt .U9 [.vw 7])],.ret ↑4]
def f5:Fd:=⟨3,11,b5⟩
theorem sc5:aQ ["net","stream","begun","steps","come","place","row","changed","step","to","found"] ["net","stream","begun"] (aC s5):=nofun
include cl in
theorem d5(a:jP K "shortest_come" "shortest_come" s5 f fd)(cF:mg "len"=none)(dY:mg "list"=none)(b:↥(4,"open_steps",2,0))(e:↥(1,"step_hours",2,0))(g:↥(0,"step_places",2,0)):↥(["net","stream","begun"],3,f5):=by
 exists a,sc5,0,0;refine bA ?_ ?_;.exists 3,fL b hr (bQ (sv 0) (bQ (sv 1) aG rfl) rfl)
 lia;.exact(yZ (i:=4) nd rfl oi (by rfl) (Or.inl rfl))
 lia;.exists 5,Jh (sv 2),0;(· lia;exact tW (i:=4) (aX hr) rfl (by ac_rfl) (sv 5) (bO (cI (sY (aX hr) (sv 2) (sv 5) (λ_ _=>rfl)) (cI ak (cI mz aH rfl) rfl) rfl)) (by rfl);exact aq)
 lia;.exists 6,El rfl hc (by rfl) dY (sv 2)
 lia;.exact(wY PassesOwn.never (bF tM (gM rfl (by rfl) cF (sv 6)) ak (bC _)) (by lia;exact yZ (i:=7) nd rfl oi (by rfl) (Or.inl rfl);(· lia;(· exists 5,cT (sv 6),0;(· lia;(· exists 8,cT (az (sv 3) (sv 5)),0;(· lia;(· exists 9,az (fL g hr (bQ (sv 0) (bQ (sv 8) aG rfl) rfl)) ak);(· lia;(· exists 10,bO (cI (aK bV (az (yg (i:=4) (aX hr) rfl (by ac_rfl) (sv 5) (λ_ _=>rfl)) ak) (fL e hr (bQ (sv 0) (bQ (sv 8) aG rfl) rfl))) (cI (aK bV (az (yg (i:=4) (aX hr) rfl (by ac_rfl) (sv 5) (λ_ _=>rfl)) ak) ak) aH rfl) rfl));(· lia;(· exists eO ?_ ?_ ?_;exact SW.st (ik (Rr (i:=4) (Or.inr ⟨rfl,rfl⟩) (aX hr) rfl (by ac_rfl) (sv 9) (by with_unfolding_all rfl)) (fY (bF (uB (aX hr)) (sv 10) (qg (yg (i:=4) (aX hr) rfl (by ac_rfl) (sv 9) (λ_ _=>rfl)) ud (uA ak)) (bC _))));(· lia;exact tW (i:=4) (aX hr) rfl (by ac_rfl) (sv 9) (aK bV (sv 10) (bO (cI (sv 8) aH rfl))) (by rfl);(· lia;exact tW (i:=7) (aX hr) rfl (by ac_rfl) (sv 9) fM (by rfl);exact aq));exact aq);exact aq))));exact aq));(· lia;(· exists 6,El rfl hc (by rfl) dY (Mu (i:=7) rfl (by ac_rfl)));exact aq))))
 lia;.exists(),sv 4
 exact aq
abbrev s6:Stmt:=top 7
noncomputable def b6:List S:=[.asg 3 (.lst []),.asg 4 ↑2,.whl (.cmp .Ml (.idx (.bin .Cw ↑1 ↑4) ⇑2) (.con .non)) [.asg 5 (.idx (.bin .Cw ↑1 ↑4) ⇑2),.app 3 ↑5,.asg 4 (.idx (.call 0 [↑0,↑5]) ⇑0)],.ret (.blt .rvT [↑3])]
def f6:Fd:=⟨3,6,b6⟩
theorem sc6:aQ ["net","come","place","steps","here","step"] ["net","come","place"] (aC s6):=nofun
include cl in
theorem d6(a:jP K "steps_to" "steps_to" s6 f fd)(jY:mg "reversed"=none)(dZ:mg "tuple"=none)(b:↥(0,"step_places",2,0)):↥(["net","come","place"],3,f6):=by
 exists a,sc6,0,0;refine bA ?_ ?_;.exists 3,cC aH
 lia;.exists 4,sv 2
 lia;.exact(wY PassesOwn.never (bF Lz (az (sY (aX hr) (sv 1) (sv 4) (λ_ _=>rfl)) ak) mz (bC _)) (by lia;(· exists 5,az (sY (aX hr) (sv 1) (sv 4) (λ_ _=>rfl)) ak);(· lia;exact cJ (k:=3) rfl (by ac_rfl) (sv 5);(· lia;(· exists 4,az (fL b hr (bQ (sv 0) (bQ (sv 5) aG rfl) rfl)) ak);exact aq))))
 lia;.exists(),yj rfl rfl hc (by rfl) dZ (by rfl) jY (sv 3)
 exact aq
abbrev s7:Stmt:=top 8
noncomputable def b7:List S:=[.asg 3 (.blt .list [↑0]),.iz ↑1 [4,5] false [.Hz 3 ↑4 false (.N8 ↑5 ↑2 (.neg ↑2))],.ret ↑3]
def f7:Fd:=⟨3,6,b7⟩
theorem sc7:aQ ["stream","steps","loads","changed","number","forth"] ["stream","steps","loads"] (aC s7):=nofun
include cl in
theorem d7(a:jP K "stream_with" "stream_with" s7 f fd)(dY:mg "list"=none):↥(["stream","steps","loads"],3,f7):=by
 exists a,sc7,0,0;refine bA ?_ ?_;.exists 3,zF rfl (by rfl) dY (sv 0)
 lia;.exact(mG PassesOwn.never hc (cT (sv 1)) (jR hc (bL (aO (i:=4) nd rfl oi oi) (bL (aO (i:=5) nd rfl oi oi) iD))) (jU rfl (bZ _ _ (bZ _ _ iG 5) 4)) (by lia;exact Ko (k:=3) (sub:=false) K8 rfl (by ac_rfl) (sv 4) (uD (dz (sv 5)) (sv 2) (iQ (sv 2)));exact aq))
 lia;.exists(),sv 3
 exact aq
abbrev s8:Stmt:=top 9
noncomputable def b8:List S:=[.asg 1 (.bin .sub (.idx ↑0 ⇑0) ⇑1),.asg 2 (.bin .mul (.lst [⇑0]) (.blt .len [.idx ↑0 ⇑1])),.asg 3 (.lst []),.asg 4 (.call 5 [↑0,↑2,.yJ 0 0]),.whl (.bin .din ↑1 ↑4) [.asg 5 (.call 6 [↑0,↑4,↑1]),.asg 6 (.blt .Hw [.comp ↑5 1 [7] true none (.call 2 [↑0,↑2,↑7])]),.app 3 (.tup [↑5,↑6]),.asg 2 (.call 7 [↑2,↑5,↑6]),.asg 4 (.call 5 [↑0,↑2,.yJ 0 0])],.ret ↑3]
def f8:Fd:=⟨1,7,b8⟩
theorem sc8:aQ ["net","end","stream","chains","come","steps","loads"] ["net"] (aC s8):=nofun
include cl in
theorem d8(b:jP K "chains_to_end" "chains_to_end" s8 f fd)(cF:mg "len"=none)(qy:mg "min"=none)(a:↥(5,"shortest_come",3,0))(e:↥(2,"step_room",3,0))(g:↥(6,"steps_to",3,0))(h:↥(7,"stream_with",3,0)):↥(["net"],1,f8):=by
 exists b,sc8,0,0;refine bA ?_ ?_;.exists 1,aK dw (az (sv 0) ak) ak
 lia;.exists uf (i:=2) ?_ ?_ ?_ ?_ ?_ ?_;exact nd;exact rfl;exact Or.inr rfl;rotate_left;rfl;exact oi;exact aK nZ (cC (cI ak aH rfl)) (gM rfl (by rfl) cF (az (sv 0) ak))
 lia;.exists 3,cC aH
 lia;.exists 4,fL a hr (bQ (sv 0) (bQ (sv 2) (bQ yQ aG rfl) rfl) rfl)
 lia;.exact(wY PassesOwn.never (Ro (aX hr) (sv 1) (sv 4) (by with_unfolding_all rfl)) (by lia;(· exists 5,fL g hr (bQ (sv 0) (bQ (sv 4) (bQ (sv 1) aG rfl) rfl) rfl));(· lia;(· exists 6,JT rfl hc (by rfl) qy (iR (N':=["net","end","stream","chains","come","steps","loads","step"]) hc (JB rfl (by rfl)) (cT (sv 5)) ⇑(aO (i:=7) ‹["net","end","stream","chains","come","steps","loads","step"]› rfl (Or.inl rfl) (Or.inr rfl)) (dW (dC)) ⇑(jA) ⇑((fL e hr (bQ (sv 0) (bQ (sv 2) (bQ (sv 7) aG rfl) rfl) rfl)))));(· lia;exact cJ (k:=3) rfl (by ac_rfl) (bO (cI (sv 5) (cI (sv 6) aH rfl) rfl));(· lia;(· exists uf (i:=2) ?_ ?_ ?_ ?_ ?_ ?_;exact nd;exact rfl;exact Or.inr rfl;rotate_left;rfl;exact oi;exact fL h hr (bQ (sv 2) (bQ (sv 5) (bQ (sv 6) aG rfl) rfl) rfl));(· lia;(· exists 4,fL a hr (bQ (sv 0) (bQ (sv 2) (bQ yQ aG rfl) rfl) rfl));exact aq))))))
 lia;.exists(),sv 3
 exact aq
abbrev s9:Stmt:=top 11
noncomputable def b9:List S:=[.HB 1 false,.iz (.call 8 [↑0]) [2,3] false [.asg 4 (.call 3 [↑0,↑2]),.dput 1 ↑4 (.bin .add (.Va 1 ↑4 ⇑0) ↑3)],.ret (.blt .Hx [.vw 1])]
def f9:Fd:=⟨1,5,b9⟩
theorem sc9:aQ ["net","bends","steps","loads","length"] ["net"] (aC s9):=nofun
include cl in
theorem d9(a:jP K "bends_of" "bends_of" s9 f fd)(qz:mg "sorted"=none)(b:↥(8,"chains_to_end",1,0))(e:↥(3,"steps_hours",2,0)):↥(["net"],1,f9):=by
 exists a,sc9,0,0;refine bA ?_ ?_;.exact(Kz (i:=1) nd rfl oi (by rfl) (Or.inl rfl))
 lia;.exact(mG PassesOwn.never hc (cT (fL b hr (bQ (sv 0) aG rfl))) (jR hc (bL (aO (i:=2) nd rfl oi oi) (bL (aO (i:=3) nd rfl oi oi) iD))) (jU rfl (bZ _ _ (bZ _ _ iG 3) 2)) (by lia;(· exists 4,fL e hr (bQ (sv 0) (bQ (sv 2) aG rfl) rfl));(· lia;exact Lh (i:=1) (aX hr) rfl (by ac_rfl) (sv 4) (aK bV (Qt (i:=1) (aX hr) rfl (by ac_rfl) (sv 4) ak ⟨rfl,rfl,rfl,rfl⟩) (sv 3)) (by rfl);exact aq)))
 lia;.exists(),J5 rfl hc (by rfl) qz rfl (Mu (i:=1) rfl (by ac_rfl))
 exact aq
abbrev qD:Stmt:=top 13
noncomputable def b10:List S:=[.ret (.call 3 [↑0,.idx ↑1 ⇑0])]
def f10:Fd:=⟨2,2,b10⟩
theorem acN:aQ ["net","chain"] ["net","chain"] (aC qD):=nofun
include cl in
theorem d10(a:jP K "chain_length" "chain_length" qD f fd)(b:↥(3,"steps_hours",2,0)):↥(["net","chain"],2,f10):=by
 exists a,acN,0,0;refine bA ?_ ?_;.exists(),fL b hr (bQ (sv 0) (bQ (az (sv 1) ak) aG rfl) rfl)
 exact aq
abbrev ZG:Stmt:=top 14
noncomputable def b11:List S:=[.ret (.comp (.call 8 [↑0]) 1 [2] true (some (.cmp .le (.call 10 [↑0,↑2]) ↑1)) ↑2)]
def f11:Fd:=⟨2,2,b11⟩
theorem acM:aQ ["net","last"] ["net","last"] (aC ZG):=nofun
include cl in
theorem d11(a:jP K "shortest_chains" "shortest_chains" ZG f fd)(b:↥(10,"chain_length",2,0))(e:↥(8,"chains_to_end",1,0)):↥(["net","last"],2,f11):=by
 exists a,acM,0,0;refine bA ?_ ?_;.exists(),iR (N':=["net","last","chain"]) hc (JB rfl (by rfl)) (cT (fL e hr (bQ (sv 0) aG rfl))) ⇑(aO (i:=2) ‹["net","last","chain"]› rfl (Or.inl rfl) (Or.inr rfl)) (dW (dC)) ⇑(tV (bF tZ (fL b hr (bQ (sv 0) (bQ (sv 2) aG rfl) rfl)) (sv 1) (bC _))) ⇑((sv 2))
 exact aq
abbrev s12:Stmt:=top 16
noncomputable def b12:List S:=[.asg 1 ⇑7919,.iz ↑0 [2] true [.asg 1 (.bin .mod (.bin .add (.bin .add (.bin .mul ↑1 ↑1) (.bin .mod ↑2 ⇑1000000007)) ⇑40692) ⇑2147483629)],.ret (.lst [.comp ↑0 1 [3] true (some (.cmp .gt ↑3 (.bin .pow ⇑10 ⇑18))) (.bin .sub ↑3 (.bin .pow ⇑10 ⇑18)),↑1,⇑0])]
def ZR:Fd:=⟨1,3,b12⟩
theorem ab3:aQ ["script","mixed","cell"] ["script"] (aC s12):=nofun
include cl in
theorem d12(a:jP K "_law_pot" "_law_pot" s12 f fd):↥(["script"],1,ZR):=by
 exists a,ab3,0,0;refine bA ?_ ?_;.exists 1,ak
 lia;.exists 2,cT (sv 0),0;(· lia;(· exists 1,aK tK (aK bV (aK bV (aK nZ (sv 1) (sv 1)) (aK tK (sv 2) ak)) ak) ak);exact aq)
 lia;.exists(),cC (cI (iR (N':=["script","mixed","cell#2","cell"]) hc (JB rfl (by rfl)) (cT (sv 0)) ⇑(aO (i:=3) ‹["script","mixed","cell#2","cell"]› rfl (Or.inl rfl) (Or.inr rfl)) (dW (dC)) ⇑(tV (bF tM (sv 3) (aK km ak ak) (bC _))) ⇑((aK dw (sv 3) (aK km ak ak)))) (cI (sv 1) (cI ak aH rfl) rfl) rfl)
 exact aq
abbrev s13:Stmt:=top 17
noncomputable def b13:List S:=[.Vb 0 1 2 3]
def f13:Fd:=⟨2,4,b13⟩
theorem abG:aQ ["pot","many","digit","one"] ["pot","many"] (aC s13):=nofun
include cl in
theorem d13(a:jP K "_law_take" "_law_take" s13 f fd):↥(["pot","many"],2,f13):=by exists a,abG,0,0;exact(Sy (x:=0) (m:=1) (g:=2) (o:=3) (wN PassesOwn.never (Es (kO (Ds (M8 hr)) (fu cu (aP (i:=0) rfl (by ac_rfl)) aW (by intro _ _;rfl)) (xP dR) rfl) (Aq (kO V0 (fu cu (fu cu (aP (i:=0) rfl (by ac_rfl)) aW (by intro _ _;rfl)) aW (by intro _ _;rfl)) aW rfl))).pt (bR (tE (Gs plainAttrs_list PySem.F.slot_list_pop PySem.F.type_list_pop Hm (fu cu (aP (i:=0) rfl (by ac_rfl)) aW (by intro _ _;rfl)) (cW aW dR (dm rfl)))) jB)) (Hg (kO (Ds (M8 hr)) (fu cu (aP (i:=0) rfl (by ac_rfl)) aW (by intro _ _;rfl)) (xP dR) rfl) (bR (jQ nd (i:=2) rfl (.inl rfl) (fc jV (fu cu (fu cu (aP (i:=0) rfl (by ac_rfl)) aW (by intro _ _;rfl)) aW (by intro _ _;rfl)) (aP (i:=1) rfl (by ac_rfl)))) (bR (oG (fc vL (fu cu (fu cu (aP (i:=0) rfl (by ac_rfl)) aW (by intro _ _;rfl)) aW (by intro _ _;rfl)) (aP (i:=1) rfl (by ac_rfl))) (ue (fu cu (aP (i:=0) rfl (by ac_rfl)) aW (by intro _ _;rfl)) aW set_list)) (bR (tL (aP (i:=2) rfl (by ac_rfl))) jB))) jB) (oG (fc oW (fu cu (aP (i:=0) rfl (by ac_rfl)) aW (by intro _ _;rfl)) aW) (ue (aP (i:=0) rfl (by ac_rfl)) aW set_list)) (jQ nd (i:=3) rfl (.inl rfl) (fc jV (fc oW (fu cu (aP (i:=0) rfl (by ac_rfl)) aW (by intro _ _;rfl)) (fc qd aW (fu cu (aP (i:=0) rfl (by ac_rfl)) aW (by intro _ _;rfl)))) aW)) (jQ nd (i:=3) rfl (.inl rfl) (fc jV (fc qd (aP (i:=3) rfl (by ac_rfl)) (aP (i:=3) rfl (by ac_rfl))) aW)) (oG (fc jV (fc oW (fc oW (fc qd (fu cu (aP (i:=0) rfl (by ac_rfl)) aW (by intro _ _;rfl)) aW) (aP (i:=3) rfl (by ac_rfl))) (fu cu (aP (i:=0) rfl (by ac_rfl)) aW (by intro _ _;rfl))) aW) (ue (aP (i:=0) rfl (by ac_rfl)) aW set_list)) (tL (fc jV (fc vL (fc jV (fc qd (aP (i:=3) rfl (by ac_rfl)) aW) aW) aW) (aP (i:=1) rfl (by ac_rfl)))))
abbrev s14:Stmt:=top 18
noncomputable def b14:List S:=[.asg 2 (.call 13 [↑0,⇑4]),.asg 3 (.lst []),.ifs (.or (.cmp .eq ↑2 ⇑1) (.cmp .eq ↑2 ⇑3)) [.asg 3 (.comp (.wW ⇑0 (.bin .sub ↑1 ⇑1)) 1 [6] true none (.tup [↑6,.bin .add ↑6 ⇑1]))] [],.ifs (.and (.cmp .eq ↑2 ⇑2) (.cmp .gt ↑1 ⇑3)) [.asg 3 (.lst [.tup [⇑0,⇑1],.tup [⇑0,⇑2],.tup [⇑1,⇑2],.tup [⇑1,.bin .sub ↑1 ⇑1],.tup [⇑2,.bin .sub ↑1 ⇑1]])] [],.iz (.wW ⇑0 (.idx (.lst [⇑1,⇑3,⇑6,⇑12]) (.call 13 [↑0,⇑4]))) [4] true [.asg 5 (.call 13 [↑0,↑1]),.app 3 (.tup [↑5,.bin .mod (.bin .add (.bin .add ↑5 ⇑1) (.call 13 [↑0,.bin .sub ↑1 ⇑1])) ↑1])],.ret (.slice ↑3 (.con .non) ⇑12)]
def Zb:Fd:=⟨2,6,b14⟩
theorem aaR:aQ ["pot","many","shape","pairs","k","begin"] ["pot","many"] (aC s14):=nofun
include cl in
theorem d14(b:jP K "_law_pairs" "_law_pairs" s14 f fd)(cN:mg "range"=none)(a:↥(13,"_law_take",2,0)):↥(["pot","many"],2,Zb):=by
 exists b,aaR,0,0;refine bA ?_ ?_;.exists 2,fL a hr (bQ (sv 0) (bQ ak aG rfl) rfl)
 lia;.exists 3,cC aH
 lia;.exists eO ?_ ?_ ?_;exact SW.st (ik (bF (o6 (aX hr)) (sv 2) ak (bC _)) (fY (bF (o6 (aX hr)) (sv 2) ak (bC _))));(· lia;exact Lr (i:=3) (N':=["pot","many","shape","pairs","k","begin","place"]) hc nd rfl oi (JB rfl (by rfl)) (kZ rfl (by rfl) cN (aK dw (sv 1) ak)) ⇑(aO (i:=6) ‹["pot","many","shape","pairs","k","begin","place"]› rfl (Or.inl rfl) (Or.inr rfl)) (dW (dC)) ⇑(jA) ⇑((bO (cI (sv 6) (cI (aK bV (sv 6) ak) aH rfl) rfl))) (by rfl) (by intro _;rfl) (Or.inl rfl);exact aq);exact aq
 lia;.exists eO ?_ ?_ ?_;exact SW.st (xX (bF (o6 (aX hr)) (sv 2) ak (bC _)) (tU (bF tM (sv 1) ak (bC _))));(· lia;(· exists 3,cC (cI (bO (cI ak (cI ak aH rfl) rfl)) (cI (bO (cI ak (cI ak aH rfl) rfl)) (cI (bO (cI ak (cI ak aH rfl) rfl)) (cI (bO (cI ak (cI (aK dw (sv 1) ak) aH rfl) rfl)) (cI (bO (cI ak (cI (aK dw (sv 1) ak) aH rfl) rfl)) aH rfl) rfl) rfl) rfl) rfl));exact aq);exact aq
 lia;.exists 4,kZ rfl (by rfl) cN (az (cC (uK [1,3,6,12] rfl aH)) (fL a hr (bQ (sv 0) (bQ ak aG rfl) rfl))),0;(· lia;(· exists 5,fL a hr (bQ (sv 0) (bQ (sv 1) aG rfl) rfl));(· lia;exact cJ (k:=3) rfl (by ac_rfl) (bO (cI (sv 5) (cI (aK tK (aK bV (aK bV (sv 5) ak) (fL a hr (bQ (sv 0) (bQ (aK dw (sv 1) ak) aG rfl) rfl))) (sv 1)) aH rfl) rfl));exact aq))
 lia;.exists(),qg (sv 3) ud (uA ak)
 exact aq
abbrev s15:Stmt:=top 19
noncomputable def b15:List S:=[.asg 2 (.idx (.lst [⇑2,⇑3,⇑4,⇑4,⇑5,⇑6]) (.call 13 [↑0,⇑6])),.asg 3 (.lst []),.iz (.call 14 [↑0,↑2]) [4,5] false [.asg 6 (.lst [.bin .add ⇑1 (.call 13 [↑0,⇑3]),.bin .add ⇑1 (.call 13 [↑0,⇑9]),.call 13 [↑0,⇑3],.bin .sub (.bin .pow ⇑10 ⇑9) (.call 13 [↑0,⇑5])]),.app 3 (.tup [↑4,↑5,.idx ↑6 (.call 13 [↑0,⇑4]),.bin .add ⇑1 (.call 13 [↑0,↑1])])],.ret (.tup [↑2,.blt .tuple [↑3]])]
def f15:Fd:=⟨2,7,b15⟩
theorem abf:aQ ["pot","most","many","ways","begin","end","rooms"] ["pot","most"] (aC s15):=nofun
include cl in
theorem d15(b:jP K "_law_net" "_law_net" s15 f fd)(dZ:mg "tuple"=none)(e:↥(14,"_law_pairs",2,0))(a:↥(13,"_law_take",2,0)):↥(["pot","most"],2,f15):=by
 exists b,abf,0,0;refine bA ?_ ?_;.exists 2,az (cC (uK [2,3,4,4,5,6] rfl aH)) (fL a hr (bQ (sv 0) (bQ ak aG rfl) rfl))
 lia;.exists 3,cC aH
 lia;.exact(mG PassesOwn.never hc (cT (fL e hr (bQ (sv 0) (bQ (sv 2) aG rfl) rfl))) (jR hc (bL (aO (i:=4) nd rfl oi oi) (bL (aO (i:=5) nd rfl oi oi) iD))) (jU rfl (bZ _ _ (bZ _ _ iG 5) 4)) (by lia;(· exists 6,cC (cI (aK bV ak (fL a hr (bQ (sv 0) (bQ ak aG rfl) rfl))) (cI (aK bV ak (fL a hr (bQ (sv 0) (bQ ak aG rfl) rfl))) (cI (fL a hr (bQ (sv 0) (bQ ak aG rfl) rfl)) (cI (aK dw (aK km ak ak) (fL a hr (bQ (sv 0) (bQ ak aG rfl) rfl))) aH rfl) rfl) rfl) rfl));(· lia;exact cJ (k:=3) rfl (by ac_rfl) (bO (cI (sv 4) (cI (sv 5) (cI (az (sv 6) (fL a hr (bQ (sv 0) (bQ ak aG rfl) rfl))) (cI (aK bV ak (fL a hr (bQ (sv 0) (bQ (sv 1) aG rfl) rfl))) aH rfl) rfl) rfl) rfl));exact aq)))
 lia;.exists(),bO (cI (sv 2) (cI (Gz rfl (by rfl) dZ (sv 3)) aH rfl) rfl)
 exact aq
abbrev s16:Stmt:=top 20
noncomputable def b16:List S:=[.asg 2 (.bin .add (.comp (.call 9 [↑1]) 1 [5] true none (.idx ↑5 ⇑0)) (.lst [⇑12])),.asg 3 (.idx ↑2 (.call 13 [↑0,.blt .len [↑2]])),.asg 4 (.lst [↑3,.blt .max2 [⇑0,.bin .sub ↑3 ⇑1],.bin .add ↑3 (.call 13 [↑0,⇑9]),.call 13 [↑0,⇑14]]),.app 4 (.bin .sub (.bin .mul ⇑2 (.bin .pow ⇑10 ⇑18)) (.call 13 [↑0,⇑3])),.ret (.idx ↑4 (.call 13 [↑0,⇑5]))]
def Zj:Fd:=⟨2,5,b16⟩
theorem abW:aQ ["pot","net","lengths","length","hours"] ["pot","net"] (aC s16):=nofun
include cl in
theorem d16(b:jP K "_law_last" "_law_last" s16 f fd)(cF:mg "len"=none)(HX:mg "max"=none)(a:↥(13,"_law_take",2,0))(e:↥(9,"bends_of",1,0)):↥(["pot","net"],2,Zj):=by
 exists b,abW,0,0;refine bA ?_ ?_;.exists 2,aK bV (iR (N':=["pot","net","lengths","length","hours","pair"]) hc (JB rfl (by rfl)) (cT (fL e hr (bQ (sv 1) aG rfl))) ⇑(aO (i:=5) ‹["pot","net","lengths","length","hours","pair"]› rfl (Or.inl rfl) (Or.inr rfl)) (dW (dC)) ⇑(jA) ⇑((az (sv 5) ak))) (cC (cI ak aH rfl))
 lia;.exists 3,az (sv 2) (fL a hr (bQ (sv 0) (bQ (gM rfl (by rfl) cF (sv 2)) aG rfl) rfl))
 lia;.exists 4,cC (cI (sv 3) (cI (Ln rfl hc (by rfl) HX (cI ak (cI (aK dw (sv 3) ak) aH rfl) rfl)) (cI (aK bV (sv 3) (fL a hr (bQ (sv 0) (bQ ak aG rfl) rfl))) (cI (fL a hr (bQ (sv 0) (bQ ak aG rfl) rfl)) aH rfl) rfl) rfl) rfl)
 lia;.exact(cJ (k:=4) rfl (by ac_rfl) (aK dw (aK nZ ak (aK km ak ak)) (fL a hr (bQ (sv 0) (bQ ak aG rfl) rfl))))
 lia;.exists(),az (sv 4) (fL a hr (bQ (sv 0) (bQ ak aG rfl) rfl))
 exact aq
abbrev s17:Stmt:=top 21
noncomputable def b17:List S:=[.Yl [2,3,4,5] (.idx (.idx ↑0 ⇑1) (.idx ↑1 ⇑0)),.ifs (.idx ↑1 ⇑1) [.ret (.tup [↑2,↑3,↑5])] [],.ret (.tup [↑3,↑2,.bin .sub ⇑0 ↑5])]
def Zn:Fd:=⟨2,6,b17⟩
theorem acz:aQ ["net","step","begin","end","room","hours"] ["net","step"] (aC s17):=nofun
include cl in
theorem d17(a:jP K "_law_step_ends" "_law_step_ends" s17 f fd):↥(["net","step"],2,Zn):=by
 exists a,acz,0,0;refine bA ?_ ?_;.exact(Eb (az (az (sv 0) ak) (az (sv 1) ak)) (jR hc (bL (aO (i:=2) nd rfl oi oi) (bL (aO (i:=3) nd rfl oi oi) (bL (aO (i:=4) nd rfl oi oi) (bL (aO (i:=5) nd rfl oi oi) iD))))) (jU rfl (bZ _ _ (bZ _ _ (bZ _ _ (bZ _ _ iG 5) 4) 3) 2)))
 lia;.exists eO ?_ ?_ ?_;exact dz (az (sv 1) ak);(· lia;(· exists(),bO (cI (sv 2) (cI (sv 3) (cI (sv 5) aH rfl) rfl) rfl));exact aq);exact aq
 lia;.exists(),bO (cI (sv 3) (cI (sv 2) (cI (aK dw ak (sv 5)) aH rfl) rfl) rfl)
 exact aq
abbrev s18:Stmt:=top 22
noncomputable def b18:List S:=[.asg 2 (.lst [⇑0]),.asg 3 ⇑0,.iz ↑1 [4] true [.ifs (.or (.cmp .lt (.idx ↑4 ⇑0) ⇑0) (.cmp .ge (.idx ↑4 ⇑0) (.blt .len [.idx ↑0 ⇑1]))) [.ret (.con .non)] [],.Yl [5,6,7] (.call 17 [↑0,↑4]),.ifs (.or (.cmp .ne ↑5 (.idx ↑2 (.neg ⇑1))) (.cmp .inn ↑6 ↑2)) [.ret (.con .non)] [],.app 2 ↑6,.asg 3 (.bin .add ↑3 ↑7)],.ifs (.cmp .ne (.idx ↑2 (.neg ⇑1)) (.bin .sub (.idx ↑0 ⇑0) ⇑1)) [.ret (.con .non)] [],.ret ↑3]
def Ze:Fd:=⟨2,8,b18⟩
theorem acE:aQ ["net","steps","passed","length","step","begin","end","hours"] ["net","steps"] (aC s18):=nofun
include cl in
theorem d18(a:jP K "_law_walked" "_law_walked" s18 f fd)(cF:mg "len"=none)(b:↥(17,"_law_step_ends",2,0)):↥(["net","steps"],2,Ze):=by
 exists a,acE,0,0;refine bA ?_ ?_;.exists 2,cC (cI ak aH rfl)
 lia;.exists 3,ak
 lia;.exists 4,cT (sv 1),0;(· lia;(· exists eO ?_ ?_ ?_;exact SW.st (ik (bF (uB (aX hr)) (az (sv 4) ak) ak (bC _)) (fY (bF PQ (az (sv 4) ak) (gM rfl (by rfl) cF (az (sv 0) ak)) (bC _))));(· lia;(· exists(),mz);exact aq);exact aq);(· lia;exact Eb (fL b hr (bQ (sv 0) (bQ (sv 4) aG rfl) rfl)) (jR hc (bL (aO (i:=5) nd rfl oi oi) (bL (aO (i:=6) nd rfl oi oi) (bL (aO (i:=7) nd rfl oi oi) iD)))) (jU rfl (bZ _ _ (bZ _ _ (bZ _ _ iG 7) 6) 5));(· lia;(· exists eO ?_ ?_ ?_;exact SW.st (ik (bF (iJ (aX hr)) (sv 5) (az (sv 2) (iQ ak)) (bC _)) (fY (bF Jx (sv 6) (sv 2) (by with_unfolding_all rfl))));(· lia;(· exists(),mz);exact aq);exact aq);(· lia;exact cJ (k:=2) rfl (by ac_rfl) (sv 6);(· lia;(· exists 3,aK bV (sv 3) (sv 7));exact aq)))))
 lia;.exists eO ?_ ?_ ?_;exact bF (iJ (aX hr)) (az (sv 2) (iQ ak)) (aK dw (az (sv 0) ak) ak) (bC _);(· lia;(· exists(),mz);exact aq);exact aq
 lia;.exists(),sv 3
 exact aq
abbrev s19:Stmt:=top 23
noncomputable def b19:List S:=[.asg 3 (.bin .mul (.lst [⇑0]) (.blt .len [.idx ↑0 ⇑1])),.asg 4 (.lst []),.iz ↑2 [5,6] false [.asg 7 (.call 18 [↑0,↑5]),.ifs (.or (.cmp .isN ↑7 (.con .non)) (.or (.cmp .lt ↑6 ⇑1) (.and (.cmp .ne ↑4 (.lst [])) (.cmp .lt ↑7 (.idx (.idx ↑4 (.neg ⇑1)) ⇑0))))) [.ret (.con (.bl false))] [],.iz ↑5 [8,9] false [.Hy 3 ↑8 (.bin .add (.idx ↑3 ↑8) (.idx (.lst [.bin .sub ⇑0 ↑6,↑6]) (.blt .int [↑9])))],.ifs (.not (.blt .all [.comp (.wW ⇑0 (.blt .len [↑3])) 1 [10] true none (.chain .le .le ⇑0 (.idx ↑3 ↑10) (.idx (.idx (.idx ↑0 ⇑1) ↑10) ⇑2))])) [.ret (.con (.bl false))] [],.ifs (.and (.cmp .ne ↑4 (.lst [])) (.cmp .eq (.idx (.idx ↑4 (.neg ⇑1)) ⇑0) ↑7)) [.Hy 4 (.neg ⇑1) (.tup [↑7,.bin .add (.idx (.idx ↑4 (.neg ⇑1)) ⇑1) ↑6])] [.app 4 (.tup [↑7,↑6])]],.ret (.cmp .eq ↑4 (.comp (.call 9 [↑0]) 1 [10] true (some (.cmp .le (.idx ↑10 ⇑0) ↑1)) ↑10))]
def f19:Fd:=⟨3,10,b19⟩
theorem ab1:aQ ["net","last","chains","stream","pairs","steps","loads","length","way","forth"] ["net","last","chains"] (aC s19):=nofun
include cl in
theorem d19(a:jP K "_law_due" "_law_due" s19 f fd)(HY:mg "all"=none)(sU:mg "int"=none)(cF:mg "len"=none)(cN:mg "range"=none)(b:↥(18,"_law_walked",2,0))(e:↥(9,"bends_of",1,0)):↥(["net","last","chains"],3,f19):=by
 exists a,ab1,0,0;refine bA ?_ ?_;.exists uf (i:=3) ?_ ?_ ?_ ?_ ?_ ?_;exact nd;exact rfl;exact Or.inr rfl;rotate_left;rfl;exact oi;exact aK nZ (cC (cI ak aH rfl)) (gM rfl (by rfl) cF (az (sv 0) ak))
 lia;.exists 4,cC aH
 lia;.exact(mG PassesOwn.never hc (cT (sv 2)) (jR hc (bL (aO (i:=5) nd rfl oi oi) (bL (aO (i:=6) nd rfl oi oi) iD))) (jU rfl (bZ _ _ (bZ _ _ iG 6) 5)) (by lia;(· exists 7,fL b hr (bQ (sv 0) (bQ (sv 5) aG rfl) rfl));(· lia;(· exists eO ?_ ?_ ?_;exact SW.st (ik (bF RG (sv 7) mz (bC _)) (ik (bF (uB (aX hr)) (sv 6) ak (bC _)) (fY (SW.st (xX (bF (iJ (aX hr)) (sv 4) (cC aH) (bC _)) (tU (bF (uB (aX hr)) (sv 7) (az (az (sv 4) (iQ ak)) ak) (bC _))))))));(· lia;(· exists(),fM);exact aq);exact aq);(· lia;exact mG PassesOwn.never hc (cT (sv 5)) (jR hc (bL (aO (i:=8) nd rfl oi oi) (bL (aO (i:=9) nd rfl oi oi) iD))) (jU rfl (bZ _ _ (bZ _ _ iG 9) 8)) (by lia;exact Ac (k:=3) rfl (by ac_rfl) (sv 8) (aK bV (az (sv 3) (sv 8)) (az (cC (cI (aK dw ak (sv 6)) (cI (sv 6) aH rfl) rfl)) (LC rfl (by rfl) sU (sv 9))));exact aq);(· lia;(· exists eO ?_ ?_ ?_;exact fZ (dz (Qs rfl hc (by rfl) HY (iR (N':=["net","last","chains","stream","pairs","steps","loads","length","way","forth","k"]) hc (JB rfl (by rfl)) (kZ rfl (by rfl) cN (gM rfl (by rfl) cF (sv 3))) ⇑(aO (i:=10) ‹["net","last","chains","stream","pairs","steps","loads","length","way","forth","k"]› rfl (Or.inl rfl) (Or.inr rfl)) (dW (dC)) ⇑(jA) ⇑((CZ tZ tZ ak (az (sv 3) (sv 10)) (az (az (az (sv 0) ak) (sv 10)) ak))))));(· lia;(· exists(),fM);exact aq);exact aq);(· lia;(· exists eO ?_ ?_ ?_;exact SW.st (xX (bF (iJ (aX hr)) (sv 4) (cC aH) (bC _)) (tU (bF (o6 (aX hr)) (az (az (sv 4) (iQ ak)) ak) (sv 7) (bC _))));(· lia;exact Ac (k:=4) rfl (by ac_rfl) (iQ ak) (bO (cI (sv 7) (cI (aK bV (az (az (sv 4) (iQ ak)) ak) (sv 6)) aH rfl) rfl));exact aq);(· lia;exact cJ (k:=4) rfl (by ac_rfl) (bO (cI (sv 7) (cI (sv 6) aH rfl) rfl));exact aq));exact aq))))))
 lia;.exists(),R8 (o6 (aX hr)) (sv 4) (iR (N':=["net","last","chains","stream","pairs","steps","loads","length","way","forth","bend"]) hc (JB rfl (by rfl)) (cT (fL e hr (bQ (sv 0) aG rfl))) ⇑(aO (i:=10) ‹["net","last","chains","stream","pairs","steps","loads","length","way","forth","bend"]› rfl (Or.inl rfl) (Or.inr rfl)) (dW (dC)) ⇑(tV (bF tZ (az (sv 10) ak) (sv 1) (bC _))) ⇑((sv 10))) (bC _)
 exact aq
abbrev s20:Stmt:=top 24
noncomputable def b20:List S:=[.ret (.and (.inst [.int] ↑0) (.not (.inst [.bool] ↑0)))]
def f20:Fd:=⟨1,1,b20⟩
theorem abB:aQ ["thing"] ["thing"] (aC s20):=nofun
include cl in
theorem d20(a:jP K "_law_whole" "_law_whole" s20 f fd)(mK:mg "bool"=none)(sU:mg "int"=none)(bj:mg "isinstance"=none):↥(["thing"],1,f20):=by
 exists a,abB,0,0;refine bA ?_ ?_;.exists(),O9 (gf .int rfl (by rfl) bj (sv 0) (by rfl) sU (by kernel_rfl) (by decide) (by rfl)) (J8 (QW (gf .bool rfl (by rfl) bj (sv 0) (by rfl) mK (by kernel_rfl) (by decide) (by rfl))))
 exact aq
abbrev s21:Stmt:=top 25
noncomputable def b21:List S:=[.ifs (.not (.inst [.list] ↑0)) [.ret (.con (.bl false))] [],.iz ↑0 [1] true [.ifs (.or (.not (.inst [.tuple] ↑1)) (.or (.cmp .ne (.blt .len [↑1]) ⇑2) (.not (.inst [.tuple] (.idx ↑1 ⇑0))))) [.ret (.con (.bl false))] [],.ifs (.not (.call 20 [.idx ↑1 ⇑1])) [.ret (.con (.bl false))] [],.iz (.idx ↑1 ⇑0) [2] true [.ifs (.or (.not (.inst [.tuple] ↑2)) (.cmp .ne (.blt .len [↑2]) ⇑2)) [.ret (.con (.bl false))] [],.ifs (.or (.not (.call 20 [.idx ↑2 ⇑0])) (.not (.inst [.bool] (.idx ↑2 ⇑1)))) [.ret (.con (.bl false))] []]],.ret (.con (.bl true))]
def Z1:Fd:=⟨1,3,b21⟩
theorem aaV:aQ ["found","chain","step"] ["found"] (aC s21):=nofun
include cl in
theorem d21(b:jP K "_law_chains" "_law_chains" s21 f fd)(mK:mg "bool"=none)(bj:mg "isinstance"=none)(cF:mg "len"=none)(dY:mg "list"=none)(dZ:mg "tuple"=none)(a:↥(20,"_law_whole",1,0)):↥(["found"],1,Z1):=by
 exists b,aaV,0,0;refine bA ?_ ?_;.exists eO ?_ ?_ ?_;exact fZ (dz (gf .list rfl (by rfl) bj (sv 0) (by rfl) dY (by kernel_rfl) (by decide) (by rfl)));(· lia;(· exists(),fM);exact aq);exact aq
 lia;.exists 1,cT (sv 0),0;(· lia;(· exists eO ?_ ?_ ?_;exact SW.st (ik (fZ (dz (gf .tuple rfl (by rfl) bj (sv 1) (by rfl) dZ (by kernel_rfl) (by decide) (by rfl)))) (ik (bF (iJ (aX hr)) (gM rfl (by rfl) cF (sv 1)) ak (bC _)) (fY (fZ (dz (gf .tuple rfl (by rfl) bj (az (sv 1) ak) (by rfl) dZ (by kernel_rfl) (by decide) (by rfl)))))));(· lia;(· exists(),fM);exact aq);exact aq);(· lia;(· exists eO ?_ ?_ ?_;exact fZ (dz (fL a hr (bQ (az (sv 1) ak) aG rfl)));(· lia;(· exists(),fM);exact aq);exact aq);(· lia;(· exists 2,cT (az (sv 1) ak),0;(· lia;(· exists eO ?_ ?_ ?_;exact SW.st (ik (fZ (dz (gf .tuple rfl (by rfl) bj (sv 2) (by rfl) dZ (by kernel_rfl) (by decide) (by rfl)))) (fY (bF (iJ (aX hr)) (gM rfl (by rfl) cF (sv 2)) ak (bC _))));(· lia;(· exists(),fM);exact aq);exact aq);(· lia;(· exists eO ?_ ?_ ?_;exact SW.st (ik (fZ (dz (fL a hr (bQ (az (sv 2) ak) aG rfl)))) (fY (fZ (dz (gf .bool rfl (by rfl) bj (az (sv 2) ak) (by rfl) mK (by kernel_rfl) (by decide) (by rfl))))));(· lia;(· exists(),fM);exact aq);exact aq);exact aq)));exact aq)))
 lia;.exists(),fM
 exact aq
abbrev s22:Stmt:=top 26
noncomputable def b22:List S:=[.SN 1 12 0,.iz (.wW ⇑0 (.bin .add ⇑1 (.blt .min2 [⇑3,.bin .fdiv (.blt .len [↑0]) ⇑12]))) [2] true [.asg 3 (.call 15 [↑1,.idx (.lst [⇑3,.bin .pow ⇑10 ⇑6]) (.call 13 [↑1,⇑2])]),.asg 4 (.call 16 [↑1,↑3]),.asg 5 (.call 11 [↑3,↑4]),.ifs (.or (.not (.call 21 [↑5])) (.not (.call 19 [↑3,↑4,↑5]))) [.ret (.con (.bl false))] [],.iz ↑5 [6] true [.asg 7 (.call 10 [↑3,↑6]),.ifs (.or (.not (.call 20 [↑7])) (.cmp .ne ↑7 (.call 18 [↑3,.idx ↑6 ⇑0]))) [.ret (.con (.bl false))] []],.asg 8 (.blt .list [↑5]),.app 5 (.tup [.tup [.tup [⇑0,.con (.bl true)]],⇑1]),.ifs (.or (.cmp .ne (.slice ↑5 (.con .non) (.neg ⇑1)) ↑8) (.cmp .ne (.call 11 [↑3,↑4]) ↑8)) [.ret (.con (.bl false))] []],.ret (.con (.bl true))]
def f22:Fd:=⟨1,9,b22⟩
theorem acI:aQ ["script","pot","turn","net","last","found","chain","length","kept"] ["script"] (aC s22):=nofun
include cl in
theorem d22(b:jP K "law" "law" s22 f fd)(cF:mg "len"=none)(dY:mg "list"=none)(qy:mg "min"=none)(cN:mg "range"=none)(e:↥(21,"_law_chains",1,0))(g:↥(19,"_law_due",3,0))(h:↥(16,"_law_last",2,0))(i:↥(15,"_law_net",2,0))(j:↥(12,"_law_pot",1,0))(l:↥(13,"_law_take",2,0))(m:↥(18,"_law_walked",2,0))(o:↥(20,"_law_whole",1,0))(p:↥(10,"chain_length",2,0))(a:↥(11,"shortest_chains",2,0))(NL:U0 K):↥(["script"],1,f22):=by
 exists b,acI,0,0;refine bA ?_ ?_;.exact(Lb (x:=1) (y:=0) NL j hr nd rfl (.inl rfl) rfl (by ac_rfl))
 lia;.exists 2,kZ rfl (by rfl) cN (aK bV ak (Ke rfl hc (by rfl) qy (cI ak (cI (aK Hj (gM rfl (by rfl) cF (sv 0)) ak) aH rfl) rfl))),0;(· lia;(· exists 3,fL i hr (bQ (sv 1) (bQ (az (cC (cI ak (cI (aK km ak ak) aH rfl) rfl)) (fL l hr (bQ (sv 1) (bQ ak aG rfl) rfl))) aG rfl) rfl));(· lia;(· exists 4,fL h hr (bQ (sv 1) (bQ (sv 3) aG rfl) rfl));(· lia;(· exists 5,fL a hr (bQ (sv 3) (bQ (sv 4) aG rfl) rfl));(· lia;(· exists eO ?_ ?_ ?_;exact SW.st (ik (fZ (dz (fL e hr (bQ (sv 5) aG rfl)))) (fY (fZ (dz (fL g hr (bQ (sv 3) (bQ (sv 4) (bQ (sv 5) aG rfl) rfl) rfl))))));(· lia;(· exists(),fM);exact aq);exact aq);(· lia;(· exists 6,cT (sv 5),0;(· lia;(· exists 7,fL p hr (bQ (sv 3) (bQ (sv 6) aG rfl) rfl));(· lia;(· exists eO ?_ ?_ ?_;exact SW.st (ik (fZ (dz (fL o hr (bQ (sv 7) aG rfl)))) (fY (bF (iJ (aX hr)) (sv 7) (fL m hr (bQ (sv 3) (bQ (az (sv 6) ak) aG rfl) rfl)) (bC _))));(· lia;(· exists(),fM);exact aq);exact aq);exact aq)));(· lia;(· exists 8,zF rfl (by rfl) dY (sv 5));(· lia;exact cJ (k:=5) rfl (by ac_rfl) (bO (cI (bO (cI (bO (cI ak (cI fM aH rfl) rfl)) aH rfl)) (cI ak aH rfl) rfl));(· lia;(· exists eO ?_ ?_ ?_;exact SW.st (ik (bF (iJ (aX hr)) (qg (sv 5) ud (uA (iQ ak))) (sv 8) (bC _)) (fY (bF (iJ (aX hr)) (fL a hr (bQ (sv 3) (bQ (sv 4) aG rfl) rfl)) (sv 8) (bC _))));(· lia;(· exists(),fM);exact aq);exact aq);exact aq))))))))
 lia;.exists(),fM
 exact aq
end T
end
noncomputable section
namespace T
open PySem L2 PySem.Spec PyProof.Rows HH
def Γ:Tab:=λi=>[f0,f1,f2,f3,f4,f5,f6,f7,f8,f9,f10,f11,ZR,f13,Zb,f15,Zj,Zn,Ze,f19,f20,Z1,f22][i]?
end T
end
noncomputable section
namespace T
open HH
variable{ns ch:List Int}{k m a b i g p:Int}{w n j N l:Nat}{Q:R->List Sl->Prop}{f:Bool}{F q:Int->Int}{kvs r:List (Int×Int)}
local macro_rules|`(tactic|symm)=>`(tactic|first|apply aj|apply Cv)
abbrev big:Int:=1606938044258990275541962092341162602522202993782792835301376
theorem Ft{u:Int}(h:0<m):0<=(lK ns u k m).1/\(lK ns u k m).1<m:=by unfold lK;split<;>exact⟨Int.emod_nonneg _ (by omega),Int.emod_lt_of_pos _ h⟩
theorem bM{u:Int}(h0:0<m)(c:m<big)(h:∀d ns u k,0<=d->d<m->Q (.val (.int d)) [.pot true ns u k,.val false (.int m)]):(run Γ w (n+1) 13 [.pot true ns u k,.val false (.int m)]).sat Q:=by
 refine bh (d:=f13) rfl rfl (by decide) ?_;symm;have e:ex (run Γ w n) w (.Vb 0 1 2 3) [.pot true ns u k,.val false (.int m),.aL,.aL]=.ok (.ret (.val (.int (lK ns u k m).1))) [.pot true (lK ns u k m).2.1 (lK ns u k m).2.2.1 (lK ns u k m).2.2.2,.val false (.int m),.aL,.aL]:=by rw[ex];show(if 0<m/\m<1606938044258990275541962092341162602522202993782792835301376 then _ else _)=_;rw[if_pos ⟨h0,c⟩];rfl
 show(ex (run Γ w n) w (.Vb 0 1 2 3) [.pot true ns u k,.val false (.int m),.aL,.aL]).sat _;rw[e];exact h _ _ _ _ (Ft h0).1 (Ft h0).2
def m6(cs:List Int):List Int:=cs.filterMap λc=>if 1000000000000000000<c then some (c-1000000000000000000)else none
theorem JH:∀{cs:List Int},m6 cs=cs->cs=[]
 |[],_=>rfl|c::cs,h=>by
   have o:∀xs:List Int,(m6 xs).length<=xs.length:=λxs=>List.length_filterMap_le _ _;unfold m6 at h;rw[filterMap_cons]at h;split at h;.have:=o cs;have h':=congrArg List.length h;simp at h';unfold m6 at this;omega
   . rename_i d e;split at e;.cases e;injection h with h1 h2;omega
     .cases e
def Br(d:D):Option D:=match d with|.int c=>if 1000000000000000000<c then some (.int (c-1000000000000000000))else none|_=>none
theorem vX:∀cs:List Int,(cs.map D.int).filterMap Br=(m6 cs).map D.int
 |[]=>rfl|c::cs=>by
   have h:=vX cs;unfold m6 at h ⊢;rw[map_cons,filterMap_cons,filterMap_cons,h];by_cases e:1000000000000000000<c;.rw[show Br (.int c)=some (.int (c-1000000000000000000))from if_pos e,if_pos e];rfl
   .rw[show Br (.int c)=none from if_neg e,if_neg e]
inductive JP(b:Bool)(cs:List Int)(r:List D)(ρ:List Sl):Prop where|mk(us:List Int)(mx:Int)(s2:Sl)(q0:ρ=[.val b (.lst (cs.map .int)),.val false (.int mx),s2])(q1:fr s2=true)(q2:r=us.map D.int)(q3:0<=mx)(q4:mx<2147483629)
inductive F3p(a b c:Sl)(ρ:List Sl):Prop where|mk(s:Sl)(q0:ρ=[a,b,c,s])(q1:fr s=true)
theorem DX{cs:List Int}(v:cs.length<=lim)(x:∀u,Q (.own [.lst ((m6 cs).map .int),.int u,.int 0]) [.val false (.lst (cs.map .int))]):(run Γ w (n+1) 12 [.val false (.lst (cs.map .int))]).sat Q:=by
 refine bh (d:=ZR) rfl rfl (by decide) ?_;symm;simp[ZR];apply aj;simp;refine bK (JP false cs) ?_ ?_ ⟨cs,7919,.aL,rfl,rfl,rfl,by omega,by omega⟩;.rintro d r _⟨h,o,s2,rfl,t,hr,m0,m1⟩;cases h with|nil=>cases hr|cons c h=>
     obtain⟨rfl,rfl⟩:d=.int c/\r=h.map D.int:=by simpa using hr
     have q:-18446744073709551616<o/\o<18446744073709551616:=by omega
     simp[t];apply aj;simp[q];exact⟨h,_,_,rfl,rfl,rfl,Int.emod_nonneg _ (by omega),Int.emod_lt_of_pos _ (by omega)⟩
 . rintro _⟨h,o,s2,rfl,t,hr,m0,m1⟩;simp;apply aj;simp[v];refine lV (F3p _ _ _) Br ⟨.aL,rfl,rfl⟩ ?_ ?_
   . rintro d hd _⟨s,rfl,hs⟩;obtain⟨c,_,rfl⟩:=mem_map.mp hd;simp[hs];by_cases e:1000000000000000000<c;.simp[e,Br];exact⟨_,rfl,rfl⟩
     .simp[e,Br];exact⟨by omega,_,rfl,rfl⟩
   .rintro _⟨s,rfl,hs⟩;rw[vX];simp;exact x _
structure Wy where(s t r h:Int)
variable{ws:List Wy}{v:Wy}
def Wy.d(w:Wy):D:=.tup [.int w.s,.int w.t,.int w.r,.int w.h]
structure Wy.Ok(m:Int)(w:Wy):Prop where
 s0:0<=w.s
 s1:w.s<m
 t0:0<=w.t
 t1:w.t<m
 ne:w.s≠w.t
 r0:0<=w.r
 r1:w.r<=1000000000
 h0:1<=w.h
 h1:w.h<=1000000
theorem other(h1:0<=a)(c:a<m)(o:0<=b)(s:b<m-1):0<=(a+1+b)%m/\(a+1+b)%m<m/\(a+1+b)%m≠a:=by
 by_cases h:a+1+b<m;.rw[Int.emod_eq_of_lt (by omega) h];omega
 . have e:(a+1+b)%m=a+1+b-m:=by rw[<-Int.sub_emod_right,Int.emod_eq_of_lt (by omega) (by omega)]
   rw[e];omega
def bN(m:Int)(ws:List Wy):D:=.tup [.int m,.tup (ws.map Wy.d)]
structure mQ(m:Int)(ws:List Wy):Prop where
 m0:2<=m
 m1:m<=6
 len:ws.length<=12
 ok:∀w∈ws,w.Ok m
@[simp]theorem aec{m:Int}{ws:List Wy}:xF (bN m ws) (.int 0)=some (.val (.int m)):=rfl
@[simp]theorem adE{m:Int}{ws:List Wy}:xF (bN m ws) (.int 1)=some (.val (.tup (ws.map Wy.d))):=rfl
def Pr(m:Int)(p:Int×Int):Prop:=0<=p.1/\p.1<m/\0<=p.2/\p.2<m/\p.1≠p.2
inductive P6(m d:Int)(N:Nat)(ρ:List Sl):Prop where|mk(ns:List Int)(u k:Int)(ps:List (Int×Int))(s4 s5:Sl)(q0:ρ=[.pot true ns u k,.val false (.int m),.val false (.int d),.own false (ps.map cX),s4,s5])(q1:(fr s4=true/\fr s5=true))(q2:ps.length<=N)(q3:∀p∈ps,Pr m p)
inductive F6p(a b c d e f:Sl)(ρ:List Sl):Prop where|mk(s:Sl)(q0:ρ=[a,b,c,d,e,f,s])(q1:fr s=true)
def Vo(d:D):D:=.tup [d,.int (mF d+1)]
theorem aby{ds:List D}:JF (.lst ds) (part (.con .non) .non) (part (.con (.int i)) (.int i))=some (.own (cut ds none (some i))):=rfl
theorem Ca{u:Int}(W:2<=m)(X:m<=6)(Y:12<=w)(L:∀(ps:List (Int×Int))ns u k,ps.length<=12->(∀p∈ps,Pr m p)->Q (.own (ps.map cX)) [.pot true ns u k,.val false (.int m)]):(run Γ w (n+1+1) 14 [.pot true ns u k,.val false (.int m)]).sat Q:=by
 refine bh (d:=Zb) rfl rfl (by decide) ?_;symm;simp[Zb];refine bM (by decide) (by decide) λd ns u k d0 d1=>?_;simp;apply aj;simp;have B:∀x:Int,(gY (run Γ w (n+1)) w [.asg 3 (.comp (.wW (.con (.int 0)) (.bin .sub (.var 1) (.con (.int 1)))) 1 [6] true none (.tup [.var 6,.bin .add (.var 6) (.con (.int 1))]))] [.pot true ns u k,.val false (.int m),.val false (.int x),.own false [],.aL,.aL]).sat (λfl G=>fl=.next/\P6 m x 5 G):=λx=>by
  symm;simp[show-1000000000<=m-1 by omega,show m-1<=1000000000 by omega];refine⟨λ_=>?_,by omega⟩;have e:((List.range (m.toNat-1)).map λ(k:Nat)=>D.int (k:Int)).map Vo=((List.range (m.toNat-1)).map λ(k:Nat)=>((k:Int),(k:Int)+1)).map cX:=by rw[map_map,map_map];rfl
  refine ie (F6p _ _ _ _ _ _) Vo ⟨.aL,rfl,rfl⟩ ?_ ?_;.rintro d hd _⟨s,rfl,hs⟩;obtain⟨j,H,rfl⟩:=mem_map.mp hd;simp[hs];exact⟨rfl,_,rfl,rfl⟩
  rintro _⟨s,rfl,hs⟩;rw[e];simp;refine⟨ns,u,k,(List.range (m.toNat-1)).map λ(k:Nat)=>((k:Int),(k:Int)+1),.aL,.aL,by simp,⟨rfl,rfl⟩,by simp;omega,?_⟩;intro p h;obtain⟨j,H,rfl⟩:=mem_map.mp h;have:=List.mem_range.mp H;unfold Pr;dsimp only;omega
 refine fV (P6 m d 5) ?_ ?_
 . by_cases C:d=1;.simp[C];exact B 1
   . by_cases I:d=3;.simp[I];exact B 3
     .simp[C,I];exact⟨ns,u,k,[],.aL,.aL,rfl,⟨rfl,rfl⟩,by decide,λ_ z=>by cases z⟩
 rintro _⟨ns,u,k,ps,s4,s5,rfl,⟨A,t⟩,E,h⟩;refine fV (P6 m d 5) ?_ ?_
 . by_cases C:d=2
   . by_cases J:3<m;.simp[C,J];symm;simp[A,t];refine⟨ns,u,k,[(0,1),(0,2),(1,2),(1,m-1),(2,m-1)],s4,s5,rfl,⟨A,t⟩,by simp,?_⟩;intro p h;simp only[mem_cons,List.not_mem_nil,or_false]at h;rcases h with rfl|rfl|rfl|rfl|rfl<;>(unfold Pr;dsimp only;omega)
     .simp[C,J];exact⟨ns,u,k,ps,s4,s5,rfl,⟨A,t⟩,E,h⟩
   .simp[C];exact⟨ns,u,k,ps,s4,s5,rfl,⟨A,t⟩,E,h⟩
 rintro _⟨ns,u,k,ps,s4,s5,rfl,⟨A,t⟩,E,h⟩;symm;simp;refine bM (by decide) (by decide) λx ns u k x0 Z=>?_;have M:∃y:Int,at' [D.int 1,D.int 3,D.int 6,D.int 12] x=some (.int y)/\0<=y/\y<=12:=by
  have:x=0\/x=1\/x=2\/x=3:=by omega
  rcases this with rfl|rfl|rfl|rfl;.exact⟨1,rfl,by decide,by decide⟩
  .exact⟨3,rfl,by decide,by decide⟩
  .exact⟨6,rfl,by decide,by decide⟩
  .exact⟨12,rfl,by decide,by decide⟩
 obtain⟨y,O,y0,y1⟩:=M;simp[O,show-1000000000<=y by omega,show y<=1000000000 by omega];refine pM (λi ρ=>P6 m d (5+i) ρ) ?_ ?_ ⟨ns,u,k,ps,s4,s5,rfl,⟨A,t⟩,E,h⟩
 . rintro i _ hi⟨ns,u,k,ps,s4,s5,rfl,⟨A,t⟩,E,h⟩;simp[A,t];apply aj;simp;refine bM (m:=m) (by omega) (by show m<1606938044258990275541962092341162602522202993782792835301376;omega) λb ns u k b0 b1=>?_;simp[t];apply aj;simp;refine bM (m:=m-1) (by omega) (by show m-1<1606938044258990275541962092341162602522202993782792835301376;omega) λc ns u k c0 c1=>?_;have o:=other b0 b1 c0 c1;simp[show 0<m by omega,show ps.length<lim by show _<16777216;omega];refine⟨ns,u,k,ps++[(b,(b+1+c)%m)],.val false (.int i),.val false (.int b),by simp[cX],⟨rfl,rfl⟩,by simp;omega,λp hp'=>?_⟩;rcases mem_append.mp hp' with hp'|hp';.exact h p hp'
   .rw[mem_singleton]at hp';subst hp';exact⟨b0,b1,o.1,o.2.1,λz=>o.2.2 z.symm⟩
 . rintro _⟨ns,u,k,ps,s4,s5,rfl,⟨A,t⟩,E,h⟩;simp;apply aj;simp;have e:cut (ps.map cX) none (some 12)=(cut ps none (some 12)).map cX:=by unfold cut;simp
   have U:∀p∈cut ps none (some 12),p∈ps:=λp h=>List.drop_subset _ _ (List.take_subset _ _ h);have hc:(cut ps none (some 12)).length<=12:=by unfold cut;rw[length_take];refine le_trans (Nat.min_le_left ..) ?_;simp[du];omega
   rw[aby,e];simp;exact L _ _ _ _ hc λp hp'=>h p (U p hp')
inductive JN(mo m:Int)(r:List D)(ρ:List Sl):Prop where|mk(ns:List Int)(u k:Int)(ws:List Wy)(us:List (Int×Int))(s4 s5 s6:Sl)(q0:ρ=[.pot true ns u k,.val false (.int mo),.val false (.int m),.own false (ws.map Wy.d),s4,s5,s6])(q1:A3 (fr s4=true) (fr s5=true) (fr s6=true))(q2:r=us.map cX)(q3:ws.length+us.length<=12)(q4:(∀p∈us,Pr m p))(q5:∀w∈ws,w.Ok m)
theorem at4{c e x:Int}(x0:0<=x)(h:x<4):∃y:Int,at' [D.int a,D.int b,D.int c,D.int e] x=some (.int y)/\(y=a\/y=b\/y=c\/y=e):=by
 have:x=0\/x=1\/x=2\/x=3:=by omega
 rcases this with rfl|rfl|rfl|rfl;.exact⟨_,rfl,.inl rfl⟩
 .exact⟨_,rfl,.inr (.inl rfl)⟩
 .exact⟨_,rfl,.inr (.inr (.inl rfl))⟩
 .exact⟨_,rfl,.inr (.inr (.inr rfl))⟩
theorem K3{u h:Int}(h1:1<=h)(h6:h<=1000000)(H:12<=w)(I:∀(m:Int)(ws:List Wy)ns u k,mQ m ws->Q (.val (bN m ws)) [.pot true ns u k,.val false (.int h)]):(run Γ w (n+1+1+1) 15 [.pot true ns u k,.val false (.int h)]).sat Q:=by
 refine bh (d:=f15) rfl rfl (by decide) ?_;symm;simp[f15];refine bM (by decide) (by decide) λx ns u k x0 G=>?_;have C:∃m:Int,at' [D.int 2,D.int 3,D.int 4,D.int 4,D.int 5,D.int 6] x=some (.int m)/\2<=m/\m<=6:=by
  have:x=0\/x=1\/x=2\/x=3\/x=4\/x=5:=by omega
  rcases this with rfl|rfl|rfl|rfl|rfl|rfl;.exact⟨2,rfl,by decide,by decide⟩
  .exact⟨3,rfl,by decide,by decide⟩
  .exact⟨4,rfl,by decide,by decide⟩
  .exact⟨4,rfl,by decide,by decide⟩
  .exact⟨5,rfl,by decide,by decide⟩
  .exact⟨6,rfl,by decide,by decide⟩
 obtain⟨m,C,m0,m1⟩:=C;simp[C];apply aj;simp;apply aj;simp;refine Ca m0 m1 H λps ns u k A B=>?_;simp;refine bK (JN h m) ?_ ?_ ⟨ns,u,k,[],ps,.aL,.aL,.aL,rfl,⟨rfl,rfl,rfl⟩,rfl,by simpa using A,B,λ_ z=>by cases z⟩;.rintro d r _⟨ns,u,k,ws,s,s4,s5,s6,rfl,⟨J,L,t⟩,hr,A,B,o⟩;cases s with|nil=>cases hr|cons p s=>
     obtain⟨rfl,rfl⟩:d=cX p/\r=s.map cX:=by simpa using hr
     simp[J,L,t,cX];apply aj;simp;refine bM (by decide) (by decide) λa ns u k a0 a1=>?_;simp;refine bM (by decide) (by decide) λb ns u k b0 b1=>?_;simp;refine bM (by decide) (by decide) λc ns u k c0 c1=>?_;simp;refine bM (by decide) (by decide) λe ns u k e0 e1=>?_;simp[t];apply aj;simp;refine bM (by decide) (by decide) λx ns u k x0 G=>?_;obtain⟨y,M,y'⟩:=at4 (a:=1+a) (b:=1+b) (c:=c) (e:=1000000000-e) x0 G;simp[M];refine bM (m:=h) (by omega) (by show h<1606938044258990275541962092341162602522202993782792835301376;omega) λz ns u k z0 z1=>?_;have O:ws.length+(s.length+1)<=12:=by simpa using A
     simp[show ws.length<lim by show _<16777216;omega];have E:=B p (by simp);refine⟨ns,u,k,ws++[⟨p.1,p.2,y,1+z⟩],s,.val false (.int p.1),.val false (.int p.2),.own false [.int (1+a),.int (1+b),.int c,.int (1000000000-e)],by simp[Wy.d],⟨rfl,rfl,rfl⟩,rfl,by simp;omega,λq U=>B q (by simp[U]),λv hv=>?_⟩;rcases mem_append.mp hv with hv|hv;.exact o v hv
     .rw[mem_singleton]at hv;subst hv;obtain⟨W,X,Y,Z,p4⟩:=E;exact⟨W,X,Y,Z,p4,by show 0<=y;omega,by show y<=1000000000;omega,by show 1<=1+z;omega,by show 1+z<=1000000;omega⟩
 .rintro _⟨ns,u,k,ws,s,s4,s5,s6,rfl,_,hr,A,_,o⟩;simp;apply aj;simp[show ws.length<=lim by show _<=16777216;omega];exact I m ws _ _ _ ⟨m0,m1,by omega,o⟩
def dF(j:Nat)(f:Bool):D:=.tup [.int j,.bl f]
def frm(v:Wy)(f:Bool):Int:=if f then v.s else v.t
def too(v:Wy)(f:Bool):Int:=if f then v.t else v.s
theorem jT(e:ws[j]?=some v)(k:Q (.val (.tup [.int (frm v f),.int (too v f)])) [.val false (bN m ws),.val false (dF j f)]):(run Γ w (n+1) 0 [.val false (bN m ws),.val false (dF j f)]).sat Q:=by refine bh (d:=f0) rfl rfl (by decide) ?_;symm;simp[f0,dF,fH e];apply aj;cases f with|true=>simp[Wy.d];exact k|false=>simp[Wy.d];exact k
def hsp(v:Wy)(f:Bool):Int:=if f then v.h else-v.h
theorem su(e:ws[j]?=some v)(k:Q (.val (.int (hsp v f))) [.val false (bN m ws),.val false (dF j f)]):(run Γ w (n+1) 1 [.val false (bN m ws),.val false (dF j f)]).sat Q:=by refine bh (d:=f1) rfl rfl (by decide) ?_;symm;simp[f1,dF,fH e,Wy.d];apply aj;cases f with|true=>simp;exact k|false=>simp;exact k
def Zy(s:Sl)(fs:List Int):Prop:=s=.val false (.lst (fs.map D.int))\/∃b,s=.own b (fs.map D.int)
def nF(v:Wy)(g:Int)(f:Bool):Int:=if f then v.r-g else g
theorem qZ{s:Sl}{fs:List Int}(hs:Zy s fs)(e:ws[j]?=some v)(c:fs[j]?=some g)(k:Q (.val (.int (nF v g f))) [.val false (bN m ws),s,.val false (dF j f)]):(run Γ w (n+1) 2 [.val false (bN m ws),s,.val false (dF j f)]).sat Q:=by refine bh (d:=f2) rfl rfl (by decide) ?_;symm;rcases hs with rfl|⟨b,rfl⟩;all_goals simp[f2,dF,fH c];apply aj;cases f with|true=>simp[fH e,Wy.d];exact k|false=>simp;exact k
@[simp]theorem aai{c:Call}{n x k:Nat}{src o:P}{is:List Nat}{one:Bool}{ρ:List Sl}:ex c n (.HD x src k is one o) ρ=(srcOf (isVar src) (ev c src) ρ).bind λds e=>if ds.length<=lim then(gk is one (ev c o) ds [] (e++replicate k .aL)).bind λs h=>(lift (put (aZ ρ (isVar src) (h.take e.length)) x (.hold s)) ρ).bind λt _=>.ok .next t else .stuck:=(rfl)
@[simp]theorem ZZ{c:Call}{n:Nat}{src:P}{is:List Nat}{one:Bool}{body:List S}{ρ:List Sl}:ex c n (.Cy src is one body) ρ=(ev c src ρ).bind λr e=>(lift (items r.d) e).bind λds e=>iT is one (gY c n body) ds e:=(rfl)
@[simp]theorem aaP{c:Call}{n x:Nat}{ρ:List Sl}:ex c n (.cO x) ρ=match ρ[x]?with|some (.hold e)=>.ok .next (ρ.set x (.val false (.lst (e.map D.lst))))|_=>.stuck:=(rfl)
@[simp]theorem Zm{c:Call}{n x:Nat}{i e:P}{ρ:List Sl}:ex c n (.HF x i e) ρ=(cG (isVar i) (ev c i) ρ).bind λk ρ=>(lift (uH ρ x k) ρ).bind λ_ ρ=>(ev c e ρ).bind λr ρ=>Cr ρ x ((iW ρ x).bind λh=>(gU k).bind λk=>jj h k λrow=>if row.length<lim then some (row++[r.d])else none):=(rfl)
@[simp]theorem Y4{a:Sl}{l:List Sl}{x:Nat}:iW (a::l) x=match(a::l)[x]?with|some (.hold c)=>some c|_=>none:=rfl
@[simp]theorem Uh{ρ:List Sl}{x:Nat}{c:List (List D)}:Cr ρ x (some c)=.ok .next (ρ.set x (.hold c)):=rfl
@[simp]theorem abi{a:Sl}{l:List Sl}{x:Nat}{k:Int}:uH (a::l) x (.int k)=match(a::l)[x]?with|some (.hold c)=>rowAt c k|_=>none:=by unfold uH iW;cases h:(a::l)[x]?with|none=>rfl|some s=>cases s<;>rfl
theorem oY{is:List Nat}{one:Bool}{s:Ev}(J:List Sl->Prop)(g:D->List D){Q:List (List D)->List Sl->Prop}:∀{ds:List D}{c:List (List D)}{ρ:List Sl},J ρ->(∀d,d∈ds->∀ρ,J ρ->∃o,cA ρ is one d=some o/\(s o).sat λr t=>r=.own (g d)/\J t)->(∀ρ,J ρ->Q (c++ds.map g) ρ)->(gk is one s ds c ρ).sat Q|[],c,ρ,j,h,k=>by rw[GQ];simpa using k ρ j|d::r,c,ρ,j,h,k=>by obtain⟨o,e,h1⟩:=h d (by simp) ρ j;rw[Fe,e];show((s o).bind _).sat Q;rw[cj];refine h1.imp λx t⟨z,j3⟩=>?_;subst z;exact oY J g j3 (λd' u=>h d' (by simp[u])) λy A=>by simpa using k y A
@[simp]theorem acJ{c:Call}{x:Nat}{k:P}{ρ:List Sl}:ev c (.Oa x k) ρ=match ρ[x]?with
 |some (.cY _)=>(cG (isVar k) (ev c k) ρ).bind λe ρ=>match ρ[x]?with|some (.cY kvs)=>lift ((gU e).bind λk=>(mq kvs k).map .val) ρ|_=>.stuck
 |_=>.stuck:=(rfl)
def qI(kvs:List (Int×D))(k:Int):Bool:=(kvs.map (·.1)).contains k
def Il(kvs:List (Int×D)):List Int:=kvs.map (·.1)
def dsV(kvs:List (Int×D)):List D:=kvs.map (·.2)
@[simp]theorem abV{c:Call}{x:Nat}{k:P}{neg:Bool}{ρ:List Sl}:ev c (.Ob x k neg) ρ=(cG (isVar k) (ev c k) ρ).bind λe ρ=>match ρ[x]?with|some (.cY kvs)=>lift ((gU e).map λk=>.val (.bl (if neg then !qI kvs k else qI kvs k))) ρ|_=>.stuck:=(rfl)
@[simp]theorem ZX{c:Call}{k e:Int}{ρ:List Sl}:ev c (.yJ k e) ρ=.ok (.val (.dv [k] [.int e])) ρ:=(rfl)
@[simp]theorem aed{c:Call}{x:Nat}{ρ:List Sl}:ev c (.vw x) ρ=match ρ[x]?with|some (.gF m)=>.ok (.val (.dq m)) (ρ.set x (.val false (.dq m)))|some (.cY kvs)=>.ok (.val (.dv (Il kvs) (dsV kvs))) (ρ.set x (.val false (.dv (Il kvs) (dsV kvs))))|some (.own b ds)=>.ok (.val (.lst ds)) (ρ.set x (.val b (.lst ds)))|some (.val _ d)=>.ok (.val d) ρ|_=>.stuck:=(rfl)
@[simp]theorem ZK{c:Call}{n x:Nat}{ρ:List Sl}:ex c n (.Cz x) ρ=match ρ[x]?with|some .aL=>.ok .next (ρ.set x (.cY []))|some (.cY _)=>.ok .next (ρ.set x (.cY []))|some (.val false _)=>.ok .next (ρ.set x (.cY []))|_=>.stuck:=(rfl)
@[simp]theorem Zx{c:Call}{n x:Nat}{k e:P}{ρ:List Sl}:ex c n (.gP x k e) ρ=(ev c e ρ).bind λr ρ=>match ρ[x]?with
 |some (.cY _)=>(cG (isVar k) (ev c k) ρ).bind λh ρ=>match ρ[x]?,h with|some (.cY kvs),.int k=>if kvs.length<lim then .ok .next (ρ.set x (.cY (gP kvs k r.d)))else .stuck|_,_=>.stuck
 |_=>.stuck:=(rfl)
@[simp]theorem Z5{c:Call}{n x:Nat}{i e:P}{sub:Bool}{ρ:List Sl}:ex c n (.Hz x i sub e) ρ=(lift (CN ρ x) ρ).bind λ_ ρ=>(cG (isVar i) (ev c i) ρ).bind λk ρ=>(lift (CN ρ x) ρ).bind λl ρ=>(lift ((gU k).bind λi=>at' l i) ρ).bind λa ρ=>(cG (isVar e) (ev c e) ρ).bind λb ρ=>match a,b,ρ[x]?,k with
 |.int u,.int v,some (.own h ds),.int k=>match gK ds.length k with|some j=>.ok .next (ρ.set x (.own h (ds.set j (.int (if sub then u-v else u+v)))))|none=>.stuck
 |_,_,_,_=>.stuck:=(rfl)
@[simp]theorem Uz{x:Nat}{k:P}:isVar (.Oa x k)=none:=rfl
@[simp]theorem Tp{x:Nat}{k:P}{b:Bool}:isVar (.Ob x k b)=none:=rfl
@[simp]theorem Xm{x:Nat}:isVar (.vw x)=none:=rfl
@[simp]theorem O3{k e:Int}:isVar (.yJ k e)=none:=rfl
@[simp]theorem ach{kvs:List (Int×D)}:fr (.cY kvs)=false:=rfl
@[simp]theorem Zu{r:List (List D)}:fr (.hold r)=false:=rfl
@[simp]theorem V9:qL .Cw=zY:=rfl
@[simp]theorem Zf:qL .din=vO false:=rfl
@[simp]theorem Xy{ks:List Int}{ds:List D}{k:Int}:zY (.dv ks ds) (.int k)=(mq (ks.zip ds) k).map .val:=rfl
@[simp]theorem aac{ks:List Int}{ds:List D}{k:Int}:vO false (.int k) (.dv ks ds)=some (.val (.bl (ks.contains k))):=rfl
@[simp]theorem U6{ks:List Int}{ds:List D}:blt .keys [.dv ks ds]=some (.val (.tup (ks.map D.int))):=rfl
@[simp]theorem Zv{ks:List Int}{ds:List D}:blt .U9 [.dv ks ds]=if ks.length<=16777216 then some (.own (ks.map D.int))else none:=rfl
@[simp]theorem Zw{ds:List D}:blt .rvT [.lst ds]=some (.val (.tup ds.reverse)):=rfl
@[simp]theorem T9{kvs:List (Int×D)}{x:Option Sl}:dD (.cY kvs) x=.cY kvs:=by cases x<;>rfl
@[simp]theorem Qw{r:List (List D)}{x:Option Sl}:dD (.hold r) x=.hold r:=by cases x<;>rfl
structure HN(m:Int)(ws:List Wy):Prop where
 m0:2<=m
 m1:m<=6
 len:ws.length<=12
 ok:∀w∈ws,(0<=w.s/\w.s<m)/\(0<=w.t/\w.t<m)/\0<=w.h
theorem HN.of(h:mQ m ws):HN m ws:=⟨h.m0,h.m1,h.len,λw c=>by have:=h.ok w c;exact⟨⟨this.s0,this.s1⟩,⟨this.t0,this.t1⟩,by have:=this.h0;omega⟩⟩
abbrev au:=Nat×Bool
variable{s:au}{x:Nat×(Option au×Int)}{o:Option au×Int}{c:List au}{cs:List (List au×Int)}
def sD(s:au):D:=dF s.1 s.2
def jE(ws:List Wy)(fs:List Int)(p:Int)(s:au):Bool:=match ws[s.1]?,fs[s.1]?with|some v,some g=>decide (frm v s.2=p)&&decide (0<nF v g s.2)|_,_=>false
theorem lY{fs:List Int}(e:ws[s.1]?=some v)(h:fs[s.1]?=some g):jE ws fs p s=(decide (frm v s.2=p)&&decide (0<nF v g s.2)):=by unfold jE;rw[e,h]
def gV(ws:List Wy)(fs:List Int)(M:Nat)(l:List au):List (List au):=(List.range M).map λ(p:Nat)=>l.filter (jE ws fs (p:Int))
def rD(l:List (List au)):List (List D):=l.map λr=>r.map sD
def gJ(N:Nat):List au:=(List.range N).flatMap λj=>[(j,true),(j,false)]
theorem rB:gJ (N+1)=(gJ N++[(N,true)])++[(N,false)]:=by simp[gJ,List.range_succ]
theorem wF:(gJ N).length=2*N:=by induction N with|zero=>rfl|succ N e=>rw[rB];simp[e];omega
theorem RV(h:HN m ws)(e:ws[j]?=some v)(f:Bool):0<=frm v f/\frm v f<m:=by have:=h.ok v (mem_of_getElem? e);cases f<;>simp only[frm]<;>simp<;>omega
theorem Gy(h:HN m ws)(e:ws[j]?=some v)(f:Bool):0<=too v f/\too v f<m:=by have:=h.ok v (mem_of_getElem? e);cases f<;>simp only[too]<;>simp<;>omega
theorem Ei{fs:List Int}{M:Nat}{l:List au}(e:ws[s.1]?=some v)(t:fs[s.1]?=some g)(h:¬ 0<nF v g s.2):gV ws fs M (l++[s])=gV ws fs M l:=by unfold gV;refine map_congr_left λp _=>?_;rw[List.filter_append];simp[lY e t,h]
theorem IV{fs:List Int}{l:List au}(e:ws[s.1]?=some v)(u:fs[s.1]?=some g)(h:0<nF v g s.2)(y:0<=frm v s.2/\frm v s.2<m)(C:l.length<1000):(∃row,rowAt (rD (gV ws fs m.toNat l)) (frm v s.2)=some row)/\jj (rD (gV ws fs m.toNat l)) (frm v s.2) (λrow=>if row.length<lim then some (row++[sD s])else none)=some (rD (gV ws fs m.toNat (l++[s]))):=by
 have t:(rD (gV ws fs m.toNat l)).length=m.toNat:=by simp[rD,gV]
 have z:gK (rD (gV ws fs m.toNat l)).length (frm v s.2)=some (frm v s.2).toNat:=by unfold gK;rw[t,if_pos y.1,if_pos (by omega)]
 have A:(rD (gV ws fs m.toNat l))[(frm v s.2).toNat]?=some ((l.filter (jE ws fs (frm v s.2))).map sD):=by simp[rD,gV,show(frm v s.2).toNat<m.toNat by omega,Int.toNat_of_nonneg y.1]
 refine⟨⟨_,by unfold rowAt;rw[z];exact A⟩,?_⟩;unfold jj;rw[z];show((rD (gV ws fs m.toNat l))[(frm v s.2).toNat]?).bind _=_;rw[A];have B:((l.filter (jE ws fs (frm v s.2))).map sD).length<lim:=by have:=List.length_filter_le (jE ws fs (frm v s.2)) l;rw[length_map];show _<16777216;omega
 show Option.map _ (if _ then _ else _)=_;rw[if_pos B];show some _=some _;congr 1;refine ext_getElem (by simp[rD,gV]) λi E G=>?_;rw[List.getElem_set];by_cases c:(frm v s.2).toNat=i
 . rw[if_pos c];have:(i:Int)=frm v s.2:=by omega
   simp[rD,gV,this,List.filter_append,lY e u,h]
 . rw[if_neg c];have:¬ frm v s.2=(i:Int):=by omega
   simp[rD,gV,List.filter_append,lY e u,this]
inductive JOp(m:Int)(ws:List Wy)(fs:List Int)(s:Sl)(i:Nat)(ρ:List Sl):Prop where|mk(s3 s4:Sl)(q0:ρ=[.val false (bN m ws),s,.hold (rD (gV ws fs m.toNat (gJ i))),s3,s4])(q1:fr s3=true)(q2:fr s4=true)
inductive JOq(m:Int)(ws:List Wy)(fs:List Int)(s:Sl)(i:Nat)(r:List D)(ρ:List Sl):Prop where|mk(l us:List au)(s4:Sl)(q0:ρ=[.val false (bN m ws),s,.hold (rD (gV ws fs m.toNat l)),.val false (.int i),s4])(q1:fr s4=true)(q2:r=us.map sD)(q3:l++us=gJ (i+1))(q4:∀u∈us,u.1=i)
inductive F1n(a b c d e:Sl)(ρ:List Sl):Prop where|mk(s:Sl)(q0:ρ=[a,b,c,d,e,s])(q1:fr s=true)
theorem Dz{s:Sl}{fs:List Int}(hs:Zy s fs)(h:HN m ws)(X:fs.length=ws.length)(k:Q (.val (.lst ((rD (gV ws fs m.toNat (gJ ws.length))).map D.lst))) [.val false (bN m ws),s]):(run Γ w (n+2) 4 [.val false (bN m ws),s]).sat Q:=by
 have Y:=h.len;have m0:=h.m0;have m1:=h.m1;refine bh (d:=f4) rfl rfl (by decide) ?_;refine fV (λρ=>ρ=[.val false (bN m ws),s,.hold (rD (gV ws fs m.toNat (gJ 0))),.aL,.aL]) ?_ ?_
 . simp[f4,show m<=1000000000 by omega,show-1000000000<=m by omega];refine⟨λ_=>?_,by omega⟩;rw[cj];refine oY (F1n _ _ _ _ _) (λ_=>[]) ⟨.aL,rfl,rfl⟩ ?_ ?_;.rintro d hd _⟨L,rfl,y⟩;simp[y];exact⟨_,rfl,rfl⟩
   .rintro _⟨L,rfl,y⟩;simp[rD,gV,gJ]
 rintro _ rfl;refine fV (JOp m ws fs s ws.length) ?_ ?_
 . simp[show(ws.length:Int)<=1000000000 by omega];refine pM (JOp m ws fs s) ?_ ?_ ⟨.aL,.aL,rfl,rfl,rfl⟩
   . rintro i _ M⟨s3,s4,rfl,C,t⟩;have G:i<fs.length:=by omega
     have z:ws[i]?=some ws[i]:=by simp[M]
     have H:fs[i]?=some fs[i]:=by simp[G]
     generalize ws[i]=v at*;generalize fs[i]=g at*;simp[C];apply aj;simp;refine bK (JOq m ws fs s i) ?_ ?_ ⟨gJ i,[(i,true),(i,false)],s4,rfl,t,rfl,by rw[rB];simp,by simp⟩;.rintro d r _⟨l,e,s4,rfl,t,hr,A,E⟩;cases e with|nil=>cases hr|cons u e=>
         obtain⟨rfl,rfl⟩:d=sD u/\r=e.map sD:=by simpa using hr
         obtain rfl:=E u (by simp);have B:(l++[u])++e=gJ (u.1+1):=by rw[append_assoc];exact A
         have I:l.length<1000:=by have:=congrArg List.length A;rw[wF]at this;simp at this;omega
         simp[t];apply aj;rcases hs with rfl|⟨b,rfl⟩;all_goals
          simp[sD];refine qZ (by first|exact .inl rfl|exact .inr ⟨_,rfl⟩) z H ?_;simp;refine⟨λho=>?_,λho=>?_⟩;.obtain⟨⟨row,O⟩,U⟩:=IV (ws:=ws) (fs:=fs) (l:=l) z H ho (RV h z u.2) I;symm;simp;refine jT z ?_;simp[O];have W:jj (rD (gV ws fs m.toNat l)) (frm v u.2) (λrow=>if row.length<lim then some (row++[dF u.1 u.2])else none)=_:=U;rw[W];simp;exact⟨l++[u],e,_,rfl,rfl,rfl,B,λx J=>E x (by simp[J])⟩
          .exact⟨l++[u],e,_,by rw[Ei z H (by omega)],rfl,rfl,B,λx J=>E x (by simp[J])⟩
     . rintro _⟨l,e,s4,rfl,t,hr,A,E⟩;have:e=[]:=by cases e with|nil=>rfl|cons _ _=>cases hr
       subst this;rw[append_nil]at A;subst A;simp;exact⟨_,_,rfl,rfl,t⟩
   .rintro _⟨s3,s4,rfl,C,t⟩;exact⟨rfl,_,_,rfl,C,t⟩
 rintro _⟨s3,s4,rfl,C,t⟩;symm;simp;apply aj;simp;exact k
abbrev En:=Int×Nat×(Option au×Int)
variable{es sV:List En}
def oS:Option au->D|none=>.non|some s=>sD s
def zp(e:En):D:=.tup [.int e.2.2.2,.int (e.2.1:Int),oS e.2.2.1]
def en(e:En):Int×D:=(e.1,zp e)
def mY(es:List En):D:=.dv (es.map (·.1)) (es.map zp)
def yd(p:Int):Int×D:=(p,.bl true)
@[simp]theorem Rc{l:List Int}:Il (l.map yd)=l:=by simp[Il,yd,Function.comp_def]
theorem yz{l:List En}:Il (l.map en)=l.map (·.1):=by simp[Il,en,Function.comp_def]
theorem ye{l:List En}:qI (l.map en) p=true↔∃n o,(p,n,o)∈l:=by show(Il (l.map en)).contains p=true↔_;rw[yz];simp
theorem kin_no{l:List En}(h:¬ ∃n o,(p,n,o)∈l):qI (l.map en) p=false:=by cases e:qI (l.map en) p with|false=>rfl|true=>exact absurd (ye.mp e) h
theorem tG{u:Type}{p:Int}{x y:u}:∀{l:List (Int×u)},(l.map (·.1)).Nodup->(p,x)∈l->(p,y)∈l->x=y
 |[],_,h,_=>by cases h|e::l,t,h1,h2=>by
   rw[map_cons,nodup_cons]at t;rcases mem_cons.mp h1 with h1|h1<;>rcases mem_cons.mp h2 with h2|h2;.rw[<-h2]at h1;cases h1;rfl
   .exact absurd (mem_map.mpr ⟨_,h2,by rw[<-h1]⟩) t.1
   .exact absurd (mem_map.mpr ⟨_,h1,by rw[<-h2]⟩) t.1
   .exact tG t.2 h1 h2
theorem n8{p:Int}{x:Nat×(Option au×Int)}:∀{l:List En},(l.map (·.1)).Nodup->(p,x)∈l->mq (l.map en) p=some (zp (p,x))
 |[],_,h=>by cases h|e::l,t,h=>by
   have u:=t;rw[map_cons,nodup_cons]at t;unfold mq;rw[map_cons,find?_cons];by_cases c:e.1=p;.obtain⟨q,y⟩:=e;cases c;have:=tG u h (by simp:(q,y)∈(q,y)::l);subst this;simp[en]
   . have h':(p,x)∈l:=by
      rcases mem_cons.mp h with h|h;.exact absurd (by rw[<-h]) c
      .exact h
     simp[en,c];have:=n8 t.2 h';unfold mq at this;simpa[en]using this
theorem vY{kvs:List (Int×D)}{d:D}(h:qI kvs p=false):gP kvs p d=kvs++[(p,d)]:=by
 unfold gP;rw[if_neg];intro t;obtain⟨x,u,e⟩:=any_eq_true.mp t;have:qI kvs p=true:=by show(kvs.map (·.1)).contains p=true;rw[List.contains_iff_mem];exact mem_map.mpr ⟨x,u,by simpa using e⟩
 rw[this]at h;cases h
theorem vq{kvs:List (Int×D)}{d:D}(h:qI kvs p=true):gP kvs p d=kvs.map λe=>if e.1=p then(p,d)else e:=by
 unfold gP;rw[if_pos]
 . refine map_congr_left λe _=>?_;by_cases c:e.1=p;.simp[c]
   .simp[c]
 .have h':(kvs.map (·.1)).contains p=true:=h;rw[List.contains_iff_mem]at h';obtain⟨x,t,e⟩:=mem_map.mp h';exact any_eq_true.mpr ⟨x,t,by simpa using e⟩
def wH(p:Int)(x:Nat×(Option au×Int))(e:En):En:=if e.1=p then(p,x)else e
def nj(es:List En)(p:Int)(x:Nat×(Option au×Int)):List En:=if p∈es.map (·.1)then es.map (wH p x)else es++[(p,x)]
def pH(ch:List Int)(p:Int):List Int:=if p∈ch then ch else ch++[p]
theorem JK:gP (es.map en) p (zp (p,x))=(nj es p x).map en:=by
 have h:qI (es.map en) p=true↔p∈es.map (·.1):=by show(Il (es.map en)).contains p=true↔_;rw[yz,List.contains_iff_mem]
 unfold nj;by_cases c:p∈es.map (·.1)
 . rw[if_pos c,vq (h.mpr c),map_map,map_map];refine map_congr_left λe _=>?_;show(if e.1=p then _ else _)=en (wH p x e);unfold wH;by_cases z:e.1=p;.rw[if_pos z,if_pos z];rfl
   .rw[if_neg z,if_neg z]
 .rw[if_neg c,vY (by cases e:qI (es.map en) p with|false=>rfl|true=>exact absurd (h.mp e) c)];simp[en]
theorem La:gP (ch.map yd) p (.bl true)=(pH ch p).map yd:=by
 have h:qI (ch.map yd) p=true↔p∈ch:=by show(Il (ch.map yd)).contains p=true↔_;rw[Rc,List.contains_iff_mem]
 unfold pH;by_cases c:p∈ch
 . rw[if_pos c,vq (h.mpr c),map_map];refine map_congr_left λe _=>?_;show(if e=p then _ else _)=yd e;by_cases z:e=p;.rw[if_pos z,z];rfl
   .rw[if_neg z]
 .rw[if_neg c,vY (by cases e:qI (ch.map yd) p with|false=>rfl|true=>exact absurd (h.mp e) c)];simp[yd]
theorem vH{q:Int}:q∈pH ch p↔q∈ch\/q=p:=by
 unfold pH;split;.exact⟨.inl,λh=>h.elim id λe=>by rw[e];assumption⟩
 .simp
theorem zM(h:ch.Nodup):(pH ch p).Nodup:=by
 unfold pH;split;.exact h
 .rename_i t;rw[nodup_append];exact⟨h,by simp,λa u b y e=>t (by rw[<-mem_singleton.mp y,<-e];exact u)⟩
theorem Bf:(nj es p x).map (·.1)=pH (es.map (·.1)) p:=by
 unfold nj pH;split
 . rw[map_map];refine map_congr_left λe _=>?_;show(wH p x e).1=e.1;unfold wH;split;.rename_i h;exact h.symm
   .rfl
 .simp
theorem gq{q:Int}{y:Nat×(Option au×Int)}:(q,y)∈nj es p x↔(q=p/\y=x)\/(q≠p/\(q,y)∈es):=by
 unfold nj;split
 . rename_i t;obtain⟨C,u,z⟩:=mem_map.mp t;rw[mem_map];constructor
   . rintro⟨e,he,h⟩;unfold wH at h;split at h;.cases h;exact .inl ⟨rfl,rfl⟩
     .rename_i A;subst h;exact .inr ⟨A,he⟩
   . rintro(⟨rfl,rfl⟩|⟨h1,B⟩);.exact⟨C,u,by unfold wH;rw[if_pos z]⟩
     .exact⟨_,B,by unfold wH;rw[if_neg h1]⟩
 . rename_i t;rw[mem_append,mem_singleton];constructor
   . rintro(h|h);.refine .inr ⟨λe=>t ?_,h⟩;rw[<-e];exact mem_map.mpr ⟨_,h,rfl⟩
     .cases h;exact .inl ⟨rfl,rfl⟩
   . rintro(⟨rfl,rfl⟩|⟨_,B⟩);.exact .inr rfl
     .exact .inl B
theorem gZ{h:Type}[BEq h][LawfulBEq h]:∀{l l2:List h},l.Nodup->(∀a∈l,a∈l2)->l.length<=l2.length
 |[],_,_,_=>uR|a::l,l2,z,hs=>by
   have u:=hs a (by simp);have e:=nodup_cons.mp z;have:=gZ (l:=l) (l2:=l2.erase a) e.2 λb y=>by
    have t:b≠a:=by rintro rfl;exact e.1 y
    exact(List.mem_erase_of_ne t).mpr (hs b (by simp[y]))
   rw[List.length_erase_of_mem u]at this;have:=List.length_pos_of_mem u;simp only[length_cons];omega
theorem six{l:List Int}(m1:m<=6)(e:l.Nodup)(h:∀p∈l,0<=p/\p<m):l.length<=6:=by
 have:=gZ (l2:=[0,1,2,3,4,5]) e λq t=>by
  have:=h q t;have:q=0\/q=1\/q=2\/q=3\/q=4\/q=5:=by omega
  simpa using this
 simpa using this
theorem pI{fs:List Int}(h:jE ws fs p s=true):∃v g,ws[s.1]?=some v/\fs[s.1]?=some g/\frm v s.2=p/\0<nF v g s.2:=by
 unfold jE at h;split at h;.rename_i v g e t;simp at h;exact⟨v,g,e,t,h.1,h.2⟩
 .cases h
theorem vQ(h:s.1<N):s∈gJ N:=by unfold gJ;rw[mem_flatMap];refine⟨s.1,by simp[h],?_⟩;obtain⟨j,f⟩:=s;cases f<;>simp
def il(ws:List Wy)(b:Int):List au->Int->Prop|[],a=>a=b|s::c,a=>∃v,ws[s.1]?=some v/\frm v s.2=a/\il ws b c (too v s.2)
def hst(ws:List Wy)(s:au):Int:=match ws[s.1]?with|some v=>hsp v s.2|none=>0
theorem dh(e:ws[s.1]?=some v):hst ws s=hsp v s.2:=by unfold hst;rw[e]
def aU(ws:List Wy):List au->Int|[]=>0|s::c=>hst ws s+aU ws c
theorem ju{ws:List Wy}{c2:List au}:∀{c1:List au},aU ws (c1++c2)=aU ws c1+aU ws c2|[]=>by simp[aU]|s::c=>by rw[cons_append,aU,ju,aU];omega
def uT(ws:List Wy)(fs:List Int)(c:List au):Prop:=∀s∈c,∃v,ws[s.1]?=some v/\jE ws fs (frm v s.2) s=true
theorem il.app{ws:List Wy}{b q:Int}{c2:List au}(t:il ws b c2 q):∀{c1:List au}{a:Int},il ws q c1 a->il ws b (c1++c2) a|[],a,h=>by have:a=q:=h;rw[this];exact t|s::c,a,⟨v,e,u,h⟩=>⟨v,e,u,il.app t h⟩
theorem Ao{ws:List Wy}{b:Int}{c2:List au}:∀{c1:List au}{a:Int},il ws b (c1++c2) a->∃q,il ws q c1 a/\il ws b c2 q|[],a,h=>⟨a,rfl,h⟩|s::c,a,⟨v,e,t,h⟩=>by obtain⟨q,h1,u⟩:=Ao (c1:=c) h;exact⟨q,⟨v,e,t,h1⟩,u⟩
def Pt(ws:List Wy)(fs:List Int)(F:Int->Int):Prop:=∀(s:au)(v:Wy),ws[s.1]?=some v->jE ws fs (frm v s.2) s=true->F (too v s.2)<=F (frm v s.2)+hsp v s.2
theorem lQ{ws:List Wy}{fs:List Int}{F:Int->Int}(h:Pt ws fs F){b:Int}:∀{c:List au}{a:Int},il ws b c a->uT ws fs c->F b<=F a+aU ws c|[],a,t,_=>by have:a=b:=t;rw[this,aU];omega|s::c,a,⟨v,e,z,t⟩,ho=>by have h1:=lQ h t λu A=>ho u (mem_cons_of_mem _ A);obtain⟨C,y,o⟩:=ho s (by simp);rw[e]at y;cases y;have B:=h s v e o;rw[z]at B;rw[aU,dh e];omega
def gH(ws:List Wy)(s:au):Int:=match ws[s.1]?with|some v=>too v s.2|none=>0
def j4(ws:List Wy):List au->Int->List Int|[],a=>[a]|s::c,a=>a::j4 ws c (gH ws s)
theorem tQ{ws:List Wy}:∀{c:List au}{a:Int},(j4 ws c a).length=c.length+1|[],_=>rfl|s::c,a=>by rw[j4,length_cons,tQ];rfl
theorem xr{m:Int}{ws:List Wy}{b:Int}(t:HN m ws):∀{c:List au}{a:Int},il ws b c a->0<=a/\a<m->∀q∈j4 ws c a,0<=q/\q<m
 |[],a,_,h,q,hq=>by rw[j4,mem_singleton]at hq;rw[hq];exact h|s::c,a,⟨v,e,y,u⟩,h,q,hq=>by
   rw[j4,mem_cons]at hq;rcases hq with rfl|hq;.exact h
   . have:gH ws s=too v s.2:=by unfold gH;rw[e]
     rw[this]at hq;exact xr t u (Gy t e s.2) q hq
theorem Ak{ws:List Wy}{b q:Int}:∀{c:List au}{a:Int},il ws b c a->q∈j4 ws c a->∃c1 c2,c=c1++c2/\il ws q c1 a/\il ws b c2 q
 |[],a,h,hq=>by rw[j4,mem_singleton]at hq;exact⟨[],[],rfl,hq.symm,by rw[hq];exact h⟩|s::c,a,h,hq=>by
   rw[j4,mem_cons]at hq;rcases hq with rfl|hq;.exact⟨[],s::c,rfl,rfl,h⟩
   . obtain⟨v,e,t,u⟩:=h;have:gH ws s=too v s.2:=by unfold gH;rw[e]
     rw[this]at hq;obtain⟨c1,c2,rfl,h1,y⟩:=Ak u hq;exact⟨s::c1,c2,rfl,⟨v,e,t,h1⟩,y⟩
theorem Aa{ws:List Wy}{b:Int}:∀{c:List au}{a:Int},il ws b c a->¬(j4 ws c a).Nodup->∃c1 c2 c3 q,c=c1++(c2++c3)/\0<c2.length/\il ws q c1 a/\il ws q c2 q/\il ws b c3 q
 |[],a,_,h=>absurd (by simp[j4]) h|s::c,a,⟨v,e,u,y⟩,h=>by
   have B:gH ws s=too v s.2:=by unfold gH;rw[e]
   rw[j4,B,nodup_cons]at h;by_cases A:a∈j4 ws c (too v s.2);.obtain⟨c1,c2,rfl,h1,t⟩:=Ak y A;exact⟨[],s::c1,c2,a,rfl,by simp,rfl,⟨v,e,u,h1⟩,t⟩
   .obtain⟨c1,c2,c3,q,rfl,h0,h1,t,C⟩:=Aa y λz=>h ⟨A,z⟩;exact⟨s::c1,c2,c3,q,rfl,h0,⟨v,e,u,h1⟩,t,C⟩
def Le(h:Int)(n:Nat)(h':Int)(e:Nat):Prop:=h<h'\/(h=h'/\n<=e)
theorem Le.refl{h:Int}:Le h n h n:=.inr ⟨rfl,dC⟩
theorem Le.trans{c:Int}{k:Nat}(h1:Le a k b l)(e:Le b l c n):Le a k c n:=by unfold Le at*;omega
theorem Le.add{k:Nat}(x:Int)(h1:Le a k b l):Le (a+x) (k+1) (b+x) (l+1):=by unfold Le at*;omega
theorem short{fs:List Int}(y:HN m ws)(h:Pt ws fs F)(A:0<=a/\a<m):∀(n:Nat){c:List au},c.length<=n->il ws b c a->uT ws fs c->∃e,il ws b e a/\uT ws fs e/\e.length<=5/\Le (aU ws e) e.length (aU ws c) c.length:=by intro n;induction n with|zero=>intro c hc t ho;exact⟨c,t,ho,by omega,.refl⟩|succ n B=>
   intro c hc t ho;by_cases C:c.length<=5;.exact⟨c,t,ho,C,.refl⟩
   . have E:¬(j4 ws c a).Nodup:=λz=>by have:=six y.m1 z (xr y t A);rw[tQ]at this;omega
     obtain⟨c1,c2,c3,q,rfl,h0,h1,G,H⟩:=Aa t E;have u:uT ws fs c2:=λs hs=>ho s (by simp[hs]);have hr:=lQ h G u;simp only[length_append]at hc;obtain⟨e,I,J,L,M⟩:=B (c:=c1++c3) (by simp only[length_append];omega) (il.app H h1) λs hs=>ho s (by rcases mem_append.mp hs with hs|hs<;>simp[hs]);refine⟨e,I,J,L,M.trans ?_⟩;rw[ju,ju,ju];simp only[length_append];unfold Le;omega
structure TF(m:Int)(ws:List Wy)(fs:List Int)(es:List En):Prop where
 nd:(es.map (·.1)).Nodup
 YB:∀p l o,(p,l,o)∈es->0<=p/\p<m
 z:(0,0,(none,0))∈es
 wk:∀p l o,(p,l,o)∈es->∃c,il ws p c 0/\uT ws fs c/\c.length=l/\aU ws c=o.2
 stp:∀p l o,(p,l,o)∈es->(o.1=none/\p=0/\l=0)\/∃(s:au)(v:Wy)(l':Nat)(o':Option au×Int),o.1=some s/\ws[s.1]?=some v/\too v s.2=p/\jE ws fs (frm v s.2) s=true/\(frm v s.2,l',o')∈es/\Le (o'.2+hsp v s.2) (l'+1) o.2 l
theorem TF.len{fs:List Int}(h:TF m ws fs es)(m1:m<=6):es.length<=6:=by
 have:=six m1 h.nd λp e=>by obtain⟨⟨p,l,o⟩,he,rfl⟩:=mem_map.mp e;exact h.YB p l o he
 simpa using this
theorem jd{l:List En}{a b:Nat}{u:Option au×Int}(e:(l.map (·.1)).Nodup)(h1:(p,a,o)∈l)(h:(p,b,u)∈l):a=b/\o=u:=by have:=tG e h1 h;cases this;exact⟨rfl,rfl⟩
def At(es:List En)(p h:Int)(n:Nat):Prop:=∃l o,(p,l,o)∈es/\Le o.2 l h n
theorem At.le{h h':Int}{e:Nat}(a:At es p h n)(z:Le h n h' e):At es p h' e:=by obtain⟨l,o,h1,t⟩:=a;exact⟨l,o,h1,t.trans z⟩
structure Wh(m:Int)(ws:List Wy)(fs:List Int)(n:Nat)(R:List Int)(es:List En):Prop where
 cm:TF m ws fs es
 row:∀p∈R,∃l o,(p,l,o)∈es
 nr:R.Nodup
 wl:∀c p,il ws p c 0->uT ws fs c->c.length<=n->At es p (aU ws c) c.length
 cl:∀l o(s:au)v,ws[s.1]?=some v->frm v s.2∉R->(frm v s.2,l,o)∈es->jE ws fs (frm v s.2) s=true->At es (too v s.2) (o.2+hsp v s.2) (l+1)few:6<=n->R=[]
structure In(m:Int)(ws:List Wy)(fs:List Int)(n:Nat)(R:List Int)(sV:List En)(K:au->Prop)(es:List En)(ch:List Int):Prop where
 wh:Wh m ws fs n R sV
 cm:TF m ws fs es
 le:∀p l o,(p,l,o)∈sV->At es p o.2 l
 out:∀p l o,p∉ch->(p,l,o)∈es->(p,l,o)∈sV
 chg:∀p∈ch,∃l o,(p,l,o)∈es
 nc:ch.Nodup
 dn:∀s,K s->∀v,ws[s.1]?=some v->∀l o,(frm v s.2,l,o)∈sV->At es (too v s.2) (o.2+hsp v s.2) (l+1)few:5<=n->ch=[]
theorem In.row{m:Int}{ws:List Wy}{fs:List Int}{n:Nat}{R:List Int}{sV:List En}{K:au->Prop}{es:List En}{ch:List Int}(h:In m ws fs n R sV K es ch){p:Int}(e:p∈R):∃l o,(p,l,o)∈es:=by obtain⟨l,o,z⟩:=h.wh.row p e;obtain⟨l,o,z,_⟩:=h.le _ _ _ z;exact⟨l,o,z⟩
theorem In.keep{fs:List Int}{R:List Int}{K:au->Prop}(h:In m ws fs n R sV K es ch)(e:ws[s.1]?=some v)(z:(frm v s.2,l,o)∈es)(A:At es (too v s.2) (o.2+hsp v s.2) (l+1)):In m ws fs n R sV (λu=>K u\/u=s) es ch:=by
 refine⟨h.wh,h.cm,h.le,h.out,h.chg,h.nc,λu t=>?_,h.few⟩;rcases t with t|rfl;.exact h.dn u t
 .intro E y G H h0;rw[e]at y;cases y;obtain⟨I,J,B,C⟩:=h.le _ _ _ h0;obtain⟨rfl,rfl⟩:=jd h.cm.nd z B;exact A.le (C.add _)
theorem In.put{fs:List Int}{R:List Int}{K:au->Prop}(h:In m ws fs n R sV K es ch)(H:HN m ws)(Y:Pt ws fs F)(e:ws[s.1]?=some v)(I:(frm v s.2,l,o)∈es)(ho:jE ws fs (frm v s.2) s=true)(J:¬ At es (too v s.2) (o.2+hsp v s.2) (l+1)):In m ws fs n R sV (λu=>K u\/u=s) (nj es (too v s.2) (l+1,(some s,o.2+hsp v s.2))) (pH ch (too v s.2)):=by
 have m0:=H.m0;obtain⟨c,c1,c2,c3,c4⟩:=h.cm.wk _ _ _ I;have L:il ws (too v s.2) (c++[s]) 0:=il.app (c2:=[s]) ⟨v,e,rfl,rfl⟩ c1;have M:uT ws fs (c++[s]):=λu hu=>by
  rcases mem_append.mp hu with hu|hu;.exact c2 u hu
  .rw[mem_singleton.mp hu];exact⟨v,e,ho⟩
 have Z:(c++[s]).length=l+1:=by simp[c3]
 have O:aU ws (c++[s])=o.2+hsp v s.2:=by rw[ju,c4,aU,aU,dh e];omega
 have new:(too v s.2,l+1,(some s,o.2+hsp v s.2))∈nj es (too v s.2) (l+1,(some s,o.2+hsp v s.2)):=gq.mpr (.inl ⟨rfl,rfl⟩);have mono:∀{q l2 t},(q,l2,t)∈es->At (nj es (too v s.2) (l+1,(some s,o.2+hsp v s.2))) q t.2 l2:=λ{q l2 t}z=>by
  by_cases c:q=too v s.2;.subst c;refine⟨_,_,new,?_⟩;have:¬ Le t.2 l2 (o.2+hsp v s.2) (l+1):=λy=>J ⟨_,_,z,y⟩;unfold Le at this ⊢;simp only;omega
  .exact⟨l2,t,gq.mpr (.inr ⟨c,z⟩),.refl⟩
 have Oh:∀{q h n},At es q h n->At (nj es (too v s.2) (l+1,(some s,o.2+hsp v s.2))) q h n:=λ⟨l2,t,C,U⟩=>(mono C).le U;refine⟨h.wh,⟨by rw[Bf];exact zM h.cm.nd,λp l o z=>?_,?_,λp l2 t z=>?_,λp l2 t z=>?_⟩,λp l o z=>Oh (h.le p l o z),λp l o hc z=>?_,λp hc=>?_,zM h.nc,λu hu=>?_,λh5=>?_⟩
 . rcases gq.mp z with⟨rfl,_⟩|⟨_,z⟩;.exact Gy H e s.2
   .exact h.cm.YB p l o z
 .refine gq.mpr (.inr ⟨λz=>J ?_,h.cm.z⟩);have:=lQ Y L M;rw[<-z,O]at this;rw[<-z];exact⟨_,_,h.cm.z,by unfold Le;simp only;omega⟩
 . rcases gq.mp z with⟨rfl,y⟩|⟨_,z⟩;.cases y;exact⟨_,L,M,Z,O⟩
   .exact h.cm.wk p l2 t z
 . rcases gq.mp z with⟨rfl,y⟩|⟨_,z⟩;.cases y;obtain⟨l',o',A,B⟩:=mono I;exact .inr ⟨s,v,l',o',rfl,e,rfl,ho,A,B.add _⟩
   . rcases h.cm.stp p l2 t z with z|⟨s',E,l',o',C,z3,z4,z5,z6,z7⟩;.exact .inl z
     .obtain⟨W,X,A,B⟩:=mono z6;exact .inr ⟨s',E,W,X,C,z3,z4,z5,A,(B.add _).trans z7⟩
 . rw[vH,not_or]at hc;rcases gq.mp z with⟨rfl,_⟩|⟨_,z⟩;.exact absurd rfl hc.2
   .exact h.out p l o hc.1 z
 . rcases vH.mp hc with hc|rfl;.obtain⟨l2,t,z⟩:=h.chg p hc;obtain⟨W,X,z,_⟩:=mono z;exact⟨W,X,z⟩
   .exact⟨_,_,new⟩
 . rcases hu with hu|rfl;.exact λE G l0 o0 h0=>Oh (h.dn u hu E G l0 o0 h0)
   .intro E G l0 o0 h0;rw[e]at G;cases G;obtain⟨l1,o1,A,B⟩:=h.le _ _ _ h0;obtain⟨rfl,rfl⟩:=jd h.cm.nd I A;exact⟨_,_,new,B.add _⟩
 .obtain⟨c',A,B,q3,q4⟩:=short H Y ⟨by omega,by omega⟩ _ (dC) L M;obtain⟨l1,o1,C,U⟩:=h.wh.wl c' _ A B (by omega);rw[Z,O]at q4;exact absurd ((h.le _ _ _ C).le (U.trans q4)) J
theorem Wh.start{fs:List Int}(m0:2<=m):Wh m ws fs 0 [0] [(0,0,(none,0))]:=by
 refine⟨⟨by simp,λp l o z=>?_,by simp,λp l o z=>?_,λp l o z=>.inl ?_⟩,λp e=>?_,by simp,λc p e _ hc=>?_,λl o s v _ t z=>?_,λh=>by omega⟩;.simp at z;omega
 .simp at z;obtain⟨rfl,rfl,rfl⟩:=z;exact⟨[],rfl,λs hs=>(by cases hs),rfl,rfl⟩
 .simp at z;obtain⟨rfl,rfl,rfl⟩:=z;exact⟨rfl,rfl,rfl⟩
 .simp at e;subst e;exact⟨0,(none,0),by simp⟩
 .cases c with|nil=>have:(0:Int)=p:=e;subst this;exact⟨0,(none,0),by simp,.refl⟩|cons _ _=>simp at hc
 .simp at z t;exact absurd z.1 t
theorem Wh.to{fs:List Int}{R:List Int}(h:Wh m ws fs n R es):In m ws fs n R es (λ_=>False) es []:=⟨h,h.cm,λp l o z=>⟨l,o,z,.refl⟩,λp l o _ z=>z,λp e=>(by cases e),.nil,λs hs=>hs.elim,λ_=>rfl⟩
theorem In.out'{fs:List Int}{R:List Int}(h:In m ws fs n R sV (λs=>∃p∈R,jE ws fs p s=true) es ch):Wh m ws fs (n+1) ch es:=by
 have t:∀{p h' k},At sV p h' k->At es p h' k:=λ⟨l,o,y,A⟩=>(h.le _ _ _ y).le A;have E:∀(s:au)v l o,ws[s.1]?=some v->(frm v s.2,l,o)∈sV->jE ws fs (frm v s.2) s=true->At es (too v s.2) (o.2+hsp v s.2) (l+1):=λs v l o e z ho=>by
  by_cases c:frm v s.2∈R;.exact h.dn s ⟨_,c,ho⟩ v e l o z
  .exact t (h.wh.cl l o s v e c z ho)
 refine⟨h.cm,h.chg,h.nc,λc p G ho hc=>?_,λl o s v e hc z hs=>E s v l o e (h.out _ _ _ hc z) hs,λM=>h.few (by omega)⟩;rcases List.eq_nil_or_concat c with rfl|⟨B,s,rfl⟩;.exact t (h.wh.wl [] p G ho (uR))
 . rw[List.concat_eq_append]at*;obtain⟨q,h1,v,e,rfl,C⟩:=Ao G;have C:too v s.2=p:=C;subst C;obtain⟨O,H,I⟩:=ho s (by simp);rw[e]at H;cases H;simp only[length_append,length_cons,length_nil]at hc;obtain⟨l,o,y,A⟩:=h.wh.wl B _ h1 (λu J=>ho u (by simp[J])) (by omega);refine(E s v l o e y I).le ?_;have:=A.add (hsp v s.2);have L:aU ws (B++[s])=aU ws B+hsp v s.2:=by rw[ju,aU,aU,dh e];omega
   rw[L];simpa using this
structure iw(m:Int)(ws:List Wy)(fs:List Int)(es:List En):Prop where
 cm:TF m ws fs es
 cl:∀l o(s:au)v,ws[s.1]?=some v->(frm v s.2,l,o)∈es->jE ws fs (frm v s.2) s=true->At es (too v s.2) (o.2+hsp v s.2) (l+1)
theorem Wh.fin{fs:List Int}(h:Wh m ws fs n [] es):iw m ws fs es:=⟨h.cm,λl o s v e z ho=>h.cl l o s v e (by simp) z ho⟩
theorem In.imp{fs:List Int}{R:List Int}{K e:au->Prop}(h:In m ws fs n R sV K es ch)(z:∀s,e s->K s):In m ws fs n R sV e es ch:=⟨h.wh,h.cm,h.le,h.out,h.chg,h.nc,λs hs=>h.dn s (z s hs),h.few⟩
theorem Q6{fs:List Int}{l:List au}(e:0<=p/\p<m):at' ((rD (gV ws fs m.toNat l)).map D.lst) p=some (.lst ((l.filter (jE ws fs p)).map sD)):=by rw[G7 e.1 (by simp[rD,gV];omega)];simp[rD,gV,show p.toNat<m.toNat by omega,Int.toNat_of_nonneg e.1]
@[simp]theorem cut3{a b c:D}:JF (.tup [a,b,c]) (part (.con .non) .non) (part (.con (.int 2)) (.int 2))=some (.val (.tup [a,b])):=rfl
theorem QF{j:Int}:cm .lt (.tup [.int a,.int i]) (.tup [.int b,.int j])=some (bf [a,i] [b,j]):=rfl
theorem lex_lt{i:Nat}:bf [a,(i:Int)] [b,(j:Int)]=true↔¬ Le b j a i:=by unfold Le;simp[bf];omega
def bg:Sl:=.val false (.dv [0] [.int 0])
inductive JC2(m:Int)(ws:List Wy)(fs:List Int)(a0 a1 a2 a3 a6:Sl)(n:Nat)(R:List Int)(sV:List En)(pre:List Int)(p:Int)(r:List D)(ρ:List Sl):Prop where|mk(es:List En)(ch:List Int)(cR us:List au)(s8 s9 qD:Sl)(q0:ρ=[a0,a1,a2,a3,.cY (es.map en),.val false (.int p),a6,.cY (ch.map yd),s8,s9,qD])(q1:A3 (fr s8=true) (fr s9=true) (fr qD=true))(q2:r=us.map sD)(q3:cR++us=(gJ ws.length).filter (jE ws fs p))(q4:In m ws fs n R sV (λs=>(∃q∈pre,jE ws fs q s=true)\/s∈cR) es ch)
inductive JC1(m:Int)(ws:List Wy)(fs:List Int)(a0 a1 a2 a3 a6:Sl)(n:Nat)(R:List Int)(sV:List En)(r:List D)(ρ:List Sl):Prop where|mk(es:List En)(ch pre qs:List Int)(s5 s8 s9 qD:Sl)(q0:ρ=[a0,a1,a2,a3,.cY (es.map en),s5,a6,.cY (ch.map yd),s8,s9,qD])(q1:A4 (fr s5=true) (fr s8=true) (fr s9=true) (fr qD=true))(q2:r=qs.map D.int)(q3:pre++qs=R)(q4:In m ws fs n R sV (λs=>∃q∈pre,jE ws fs q s=true) es ch)
inductive JCw(m:Int)(ws:List Wy)(fs:List Int)(a0 a1 a2 a3:Sl)(M:Nat)(ρ:List Sl):Prop where|mk(n:Nat)(R:List Int)(es:List En)(s5 s7 s8 s9 qD:Sl)(q0:ρ=[a0,a1,a2,a3,.cY (es.map en),s5,.own false (R.map D.int),s7,s8,s9,qD])(q1:A4 (fr s5=true) (fr s8=true) (fr s9=true) (fr qD=true))(q2:(s7=.aL\/∃d,s7=.val false d))(q3:Wh m ws fs n R es)(q4:7<=n+M)
def JC0(e h t u:Sl)(r:List D)(ρ:List Sl):Prop:=(r=[.int 0]/\ρ=[e,h,t,u,.cY [],.aL,.aL,.aL,.aL,.aL,.aL])\/(r=[]/\ρ=[e,h,t,u,.cY [en (0,0,(none,0))],.val false (.int 0),.aL,.aL,.aL,.aL,.aL])
theorem vA{s:Sl}{fs:List Int}(hw:100<=w)(hF:Pt ws fs F)(hs:Zy s fs)(h:HN m ws)(hf:fs.length=ws.length)(k:∀es,iw m ws fs es->Q (.val (mY es)) [.val false (bN m ws),s,bg]):(run Γ w (n+3) 5 [.val false (bN m ws),s,bg]).sat Q:=by
 have hn:=h.len;have m0:=h.m0;have m1:=h.m1;refine bh (d:=f5) rfl rfl (by decide) ?_;refine fV (λρ=>ρ=[.val false (bN m ws),s,bg,.val false (.lst ((rD (gV ws fs m.toNat (gJ ws.length))).map D.lst)),.aL,.aL,.aL,.aL,.aL,.aL,.aL]) ?_ ?_;.have ai:=hs;rcases hs with rfl|⟨b,rfl⟩;all_goals simp[f5,bg];refine Dz (by first|exact .inl rfl|exact .inr ⟨_,rfl⟩) h hf ?_;simp
 rintro _ rfl;generalize hA:((rD (gV ws fs m.toNat (gJ ws.length))).map D.lst)=A;symm;simp;apply aj;simp[bg];refine bK (JC0 (.val false (bN m ws)) s bg (.val false (.lst A))) ?_ ?_ (.inl ⟨rfl,rfl⟩)
 . rintro d r _(⟨hr,rfl⟩|⟨hr,rfl⟩)
   . obtain⟨rfl,rfl⟩:d=.int 0/\r=[]:=by simpa using hr
     simp;apply aj;simp[bg,mq];exact .inr ⟨rfl,rfl⟩
   .cases hr
 rintro _(⟨hr,rfl⟩|⟨hr,rfl⟩);.cases hr
 simp;apply aj;simp[bg];apply aj;simp;refine ji (JCw m ws fs _ _ _ _) ?_ (k:=w) (m:=50) (by omega) ⟨0,[0],[(0,0,(none,0))],_,_,_,_,_,rfl,⟨rfl,rfl,rfl,rfl⟩,.inl rfl,Wh.start m0,by omega⟩;rintro M _⟨W,R,es,s5,s7,s8,s9,qD,rfl,⟨h5,J,L,B⟩,h7,hW,hM⟩;by_cases hR:R=[];.subst hR;simp;apply aj;simp;have:=k es hW.fin;simp[Function.comp_def,en];exact this
 . have ae:0<R.length:=by cases R with|nil=>exact absurd rfl hR|cons _ _=>simp
   simp[ae];refine fV (λρ=>ρ=[.val false (bN m ws),s,bg,.val false (.lst A),.cY (es.map en),s5,.own false (R.map D.int),.cY [],s8,s9,qD]) ?_ ?_
   . rcases h7 with rfl|⟨d,rfl⟩;.simp[bg]
     .simp[bg]
   rintro _ rfl;symm;simp;refine bK (JC1 m ws fs _ _ _ _ _ W R es) ?_ ?_ ⟨es,[],[],R,s5,s8,s9,qD,rfl,⟨h5,J,L,B⟩,rfl,rfl,hW.to.imp λs hs=>by obtain⟨q,hq,_⟩:=hs;cases hq⟩;.rintro d r _⟨e,ch,pre,X,s5,s8,s9,qD,rfl,⟨h5,J,L,B⟩,hr,G,t⟩;cases X with|nil=>cases hr|cons p X=>
       obtain⟨rfl,rfl⟩:d=.int p/\r=X.map D.int:=by simpa using hr
       have ac:p∈R:=by rw[<-G];simp
       have af:0<=p/\p<m:=by obtain⟨l,o,ho⟩:=t.row ac;exact t.cm.YB _ _ _ ho
       have U:=Q6 (ws:=ws) (fs:=fs) (l:=gJ ws.length) af;rw[hA]at U;simp[h5];apply aj;simp[U];refine bK (JC2 m ws fs _ _ _ _ _ W R es pre p) ?_ ?_ ⟨e,ch,[],_,s8,s9,qD,rfl,⟨J,L,B⟩,rfl,rfl,t.imp λs hs=>by rcases hs with hs|hs;exact hs;cases hs⟩;.rintro d r _⟨e,ch,cR,H,s8,s9,qD,rfl,⟨J,L,B⟩,hr,I,t⟩;cases H with|nil=>cases hr|cons u H=>
           obtain⟨rfl,rfl⟩:d=sD u/\r=H.map sD:=by simpa using hr
           have hu:jE ws fs p u=true:=by
            have:u∈(gJ ws.length).filter (jE ws fs p):=by rw[<-I];simp
            exact(List.mem_filter.mp this).2
           obtain⟨v,g,e1,e2,e3,e4⟩:=pI hu;have YC:(cR++[u])++H=(gJ ws.length).filter (jE ws fs p):=by rw[append_assoc];exact I
           obtain⟨E,op,Y⟩:=t.row ac;subst e3;have gp:=n8 t.cm.nd Y;have ah:=t.cm.len m1;have ag:ch.length<=6:=six m1 t.nc λq hq=>by obtain⟨l,o,z⟩:=t.chg q hq;exact t.cm.YB _ _ _ z
           have YD:∀s,((∃q∈pre,jE ws fs q s=true)\/s∈cR++[u])->((∃q∈pre,jE ws fs q s=true)\/s∈cR)\/s=u:=λs hs=>by
            rcases hs with hs|hs;.exact .inl (.inl hs)
            . rcases mem_append.mp hs with hs|hs;.exact .inl (.inr hs)
              .exact .inr (by simpa using hs)
           simp[J];apply aj;simp[sD];refine jT e1 ?_;simp[L];apply aj;simp[gp,zp];refine su e1 ?_;simp[gp,zp,B];apply aj;have keep:At e (too v u.2) (op.2+hsp v u.2) (E+1)->JC2 m ws fs (.val false (bN m ws)) s bg (.val false (.lst A)) (.lent (R.map D.int)) W R es pre (frm v u.2) (H.map sD) [.val false (bN m ws),s,bg,.val false (.lst A),.cY (e.map en),.val false (.int (frm v u.2)),.lent (R.map D.int),.cY (ch.map yd),.val false (dF u.1 u.2),.val false (.int (too v u.2)),.val false (.tup [.int (op.2+hsp v u.2),.int ((E:Int)+1)])]:=λC=>⟨e,ch,cR++[u],H,_,_,_,rfl,⟨rfl,rfl,rfl⟩,rfl,YC,(t.keep e1 Y C).imp YD⟩;have YF:¬ At e (too v u.2) (op.2+hsp v u.2) (E+1)->JC2 m ws fs (.val false (bN m ws)) s bg (.val false (.lst A)) (.lent (R.map D.int)) W R es pre (frm v u.2) (H.map sD) [.val false (bN m ws),s,bg,.val false (.lst A),.cY ((nj e (too v u.2) (E+1,(some u,op.2+hsp v u.2))).map en),.val false (.int (frm v u.2)),.lent (R.map D.int),.cY ((pH ch (too v u.2)).map yd),.val false (dF u.1 u.2),.val false (.int (too v u.2)),.val false (.tup [.int (op.2+hsp v u.2),.int ((E:Int)+1)])]:=λC=>⟨_,_,cR++[u],H,_,_,_,rfl,⟨rfl,rfl,rfl⟩,rfl,YC,(t.put h hF e1 Y hu C).imp YD⟩;have p1:gP (e.map en) (too v u.2) (.tup [.int (op.2+hsp v u.2),.int ((E:Int)+1),dF u.1 u.2])=(nj e (too v u.2) (E+1,(some u,op.2+hsp v u.2))).map en:=by rw[<-JK];simp[zp,oS,sD]
           have p2:gP (ch.map yd) (too v u.2) (.bl true)=(pH ch (too v u.2)).map yd:=La;by_cases hq:∃l o,(too v u.2,l,o)∈e
           . obtain⟨l,o,O⟩:=hq;have gt:=n8 t.cm.nd O;have kt:qI (e.map en) (too v u.2)=true:=ye.mpr ⟨l,o,O⟩;have Z:=lex_lt (a:=op.2+hsp v u.2) (i:=E+1) (b:=o.2) (j:=l);rw[show((E+1:Nat):Int)=(E:Int)+1 by omega]at Z;simp[kt,gt,zp,QF];refine⟨λz=>?_,λz=>?_⟩
             . have C:¬ At e (too v u.2) (op.2+hsp v u.2) (E+1):=λ⟨l2,o2,y1,y2⟩=>by obtain⟨rfl,rfl⟩:=jd t.cm.nd O y1;exact Z.mp z y2
               symm;simp[p1];refine⟨by decide,λ_=>?_,by show _<16777216;omega⟩;symm;simp[p2];refine⟨λ_=>YF C,by show _<16777216;omega⟩
             . have C:At e (too v u.2) (op.2+hsp v u.2) (E+1):=by
                refine⟨l,o,O,?_⟩;by_cases y:Le o.2 l (op.2+hsp v u.2) (E+1);.exact y
                .rw[Z.mpr y]at z;cases z
               exact keep C
           .have kt:qI (e.map en) (too v u.2)=false:=kin_no hq;simp[kt];apply aj;simp[p1];refine⟨by decide,λ_=>?_,by show _<16777216;omega⟩;symm;simp[p2];exact⟨λ_=>YF λ⟨l2,o2,y1,_⟩=>hq ⟨l2,o2,y1⟩,by show _<16777216;omega⟩
       . rintro _⟨e,ch,cR,H,s8,s9,qD,rfl,⟨J,L,B⟩,hr,I,t⟩;have:H=[]:=by cases H with|nil=>rfl|cons _ _=>cases hr
         subst this;rw[append_nil]at I;simp;refine⟨e,ch,pre++[p],X,_,_,_,_,rfl,⟨rfl,J,L,B⟩,rfl,by rw[append_assoc];exact G,t.imp λs hs=>?_⟩;obtain⟨q,hq,hs⟩:=hs;rcases mem_append.mp hq with hq|hq;.exact .inl ⟨q,hq,hs⟩
         . obtain rfl:q=p:=by simpa using hq
           refine .inr ?_;rw[I];obtain⟨v,g,e1,_⟩:=pI hs;exact List.mem_filter.mpr ⟨vQ (eN e1).1,hs⟩
   . rintro _⟨e,ch,pre,X,s5,s8,s9,qD,rfl,⟨h5,J,L,B⟩,hr,G,t⟩;have:X=[]:=by cases X with|nil=>rfl|cons _ _=>cases hr
     subst this;rw[append_nil]at G;subst G;have ag:ch.length<=6:=six m1 t.nc λq hq=>by obtain⟨l,o,z⟩:=t.chg q hq;exact t.cm.YB _ _ _ z
     have hO:=t.out';have al:W<6:=by
      by_cases c:6<=W;.exact absurd (hW.few c) hR
      .omega
     simp;apply aj;simp[show ch.length<=16777216 by omega];exact⟨M-1,by omega,W+1,ch,e,_,_,_,_,_,rfl,⟨h5,J,L,B⟩,.inr ⟨_,rfl⟩,hO,by omega⟩
theorem iw.all{m:Int}{ws:List Wy}{fs:List Int}{es:List En}(h:iw m ws fs es){b:Int}:∀{c:List au}{a:Int}{l:Nat}{o:Option au×Int},il ws b c a->uT ws fs c->(a,l,o)∈es->At es b (o.2+aU ws c) (l+c.length)|[],a,l,o,t,_,z=>by have:a=b:=t;subst this;exact⟨l,o,z,by unfold Le aU;simp⟩|s::c,a,l,o,⟨v,e,A,t⟩,ho,z=>by subst A;obtain⟨J,y,B⟩:=ho s (by simp);rw[e]at y;cases y;obtain⟨L,M,C,O⟩:=h.cl l o s v e z B;obtain⟨l2,E,G,H⟩:=iw.all h t (λu I=>ho u (mem_cons_of_mem _ I)) C;refine⟨l2,E,G,H.trans ?_⟩;rw[aU,dh e,length_cons];unfold Le at*;omega
theorem iw.l5{fs:List Int}(h:iw m ws fs es)(e:HN m ws)(t:Pt ws fs F)(z:(p,l,o)∈es):l<=5:=by have m0:=e.m0;obtain⟨c,c1,c2,c3,c4⟩:=h.cm.wk p l o z;obtain⟨E,u,y,G,A⟩:=short e t ⟨by omega,by omega⟩ _ (dC) c1 c2;obtain⟨l2,H,B,C⟩:=h.all u y h.cm.z;obtain⟨rfl,rfl⟩:=jd h.cm.nd z B;rw[c3,c4]at A;unfold Le at*;simp only at C;omega
theorem iw.on{fs:List Int}(h:iw m ws fs es)(z:(p,l,o)∈es):(o=(none,0)/\p=0/\l=0)\/∃(s:au)(v:Wy)(t:Nat)(e:Option au×Int),o=(some s,e.2+hsp v s.2)/\l=t+1/\ws[s.1]?=some v/\too v s.2=p/\jE ws fs (frm v s.2) s=true/\(frm v s.2,t,e)∈es:=by
 rcases h.cm.stp p l o z with⟨h1,rfl,rfl⟩|⟨s,v,t,e,h1,u,rfl,y,A,C⟩;.exact .inl ⟨(jd h.cm.nd z h.cm.z).2,rfl,rfl⟩
 . obtain⟨l2,E,B,G⟩:=h.cl t e s v u A y;obtain⟨rfl,rfl⟩:=jd h.cm.nd z B;refine .inr ⟨s,v,t,e,?_,?_,u,rfl,y,A⟩;.exact Prod.ext_iff.mpr ⟨h1,by show _=e.2+hsp v s.2;unfold Le at*;omega⟩
   .unfold Le at*;omega
structure Mt(ws:List Wy)(fs:List Int)(es:List En)(p:Int)(L:Nat)(H:Int)(a:Int)(l:Nat)(h:Int)(c:List au):Prop where
 CV:il ws p c a
 gV:uT ws fs c
 nd:(c.map (·.1)).Nodup
 lv:∀s∈c,∀v,ws[s.1]?=some v->∃l1 o1 o2,(frm v s.2,l1,o1)∈es/\(too v s.2,l1+1,o2)∈es/\l<=l1
 len:c.length+l=L
 hrs:aU ws c+h=H
theorem kE{g:Bool}(h:g≠f):frm v g=too v f/\too v g=frm v f:=by cases f<;>cases g<;>first|exact absurd rfl h|exact⟨rfl,rfl⟩
theorem Mt.cons{m:Int}{ws:List Wy}{fs:List Int}{es:List En}{p:Int}{L l:Nat}{H x:Int}{c:List au}{s:au}{v:Wy}{o I:Option au×Int}(hc:TF m ws fs es)(h:Mt ws fs es p L H (too v s.2) (l+1) (x+hsp v s.2) c)(e:ws[s.1]?=some v)(h1:(too v s.2,l+1,o)∈es)(B:(frm v s.2,l,I)∈es)(ho:jE ws fs (frm v s.2) s=true):Mt ws fs es p L H (frm v s.2) l x (s::c):=by
 refine⟨⟨v,e,rfl,h.CV⟩,λu hu=>?_,?_,λu hu x ex=>?_,by have:=h.len;simp only[length_cons];omega,by have:=h.hrs;rw[aU,dh e];omega⟩
 . rcases mem_cons.mp hu with rfl|hu;.exact⟨v,e,ho⟩
   .exact h.gV u hu
 . rw[map_cons,nodup_cons];refine⟨λJ=>?_,h.nd⟩;obtain⟨t,ht,M⟩:=mem_map.mp J;obtain⟨C,E,G,y,A,O⟩:=h.lv t ht v (by rw[M];exact e);by_cases z:t.2=s.2;.rw[z]at y;have:=(jd hc.nd y B).1;omega
   .rw[(kE z).2]at A;have:=(jd hc.nd A B).1;omega
 . rcases mem_cons.mp hu with rfl|hu;.rw[e]at ex;cases ex;exact⟨l,_,_,B,h1,dC⟩
   .obtain⟨C,E,G,y,A,O⟩:=h.lv u hu x ex;exact⟨C,E,G,y,A,by omega⟩
theorem DR(e:(es.map (·.1)).Nodup)(h:(p,x)∈es):mq ((es.map (·.1)).zip (es.map zp)) p=some (zp (p,x)):=by
 have:(es.map (·.1)).zip (es.map zp)=es.map en:=by rw[List.zip_map'];rfl
 rw[this];exact n8 e h
inductive JSt(m:Int)(ws:List Wy)(fs:List Int)(es:List En)(p:Int)(L:Nat)(H:Int)(a0 a1 a2:Sl)(M:Nat)(ρ:List Sl):Prop where|mk(a:Int)(l:Nat)(o:Option au×Int)(c:List au)(s5:Sl)(q0:ρ=[a0,a1,a2,.own false (c.reverse.map sD),.val false (.int a),s5])(q1:fr s5=true)(q2:(a,l,o)∈es)(q3:Mt ws fs es p L H a l o.2 c)(q4:l<=M)
theorem BP{L:Nat}{fs:List Int}(G:100<=w)(h:iw m ws fs es)(H:L<=5)(B:(p,L,o)∈es)(k:∀c,Mt ws fs es p L o.2 0 0 0 c->Q (.val (.tup (c.map sD))) [.val false (bN m ws),.val false (mY es),.val false (.int p)]):(run Γ w (n+2) 6 [.val false (bN m ws),.val false (mY es),.val false (.int p)]).sat Q:=by
 refine bh (d:=f6) rfl rfl (by decide) ?_;symm;simp[f6];apply aj;simp;apply aj;simp;refine ji (JSt m ws fs es p L o.2 _ _ _) ?_ (k:=w) (m:=L) (by omega) ⟨p,L,o,[],.aL,rfl,rfl,B,⟨rfl,λs hs=>(by cases hs),by simp,by simp,by simp,by rw[aU];omega⟩,dC⟩;rintro M _⟨a,l,I,c,s5,rfl,C,t,hc,J⟩;have u:=DR h.cm.nd t;rcases h.on t with⟨rfl,rfl,rfl⟩|⟨s,v,z,E,rfl,rfl,e,rfl,ho,A⟩;.simp[mY,u,zp,oS];symm;simp;exact k c hc
 . simp[mY,u,zp,oS,sD,dF];symm;simp[u,zp,oS,C];apply aj;have y:c.length<16777216:=by have:=hc.len;omega
   simp[y];apply aj;simp[sD];refine jT e ?_;simp;exact⟨z,by omega,frm v s.2,z,E,s::c,.val false (dF s.1 s.2),by simp[mY,sD],rfl,A,hc.cons h.cm e t A ho,dC⟩
def sg(x:Int)(f:Bool):Int:=if f then x else-x
def jJ(x:Int)(fs:List Int)(s:au):List Int:=fs.set s.1 ((fs[s.1]?.getD 0)+sg x s.2)
def aug(x:Int)(fs:List Int)(c:List au):List Int:=c.foldl (jJ x) fs
@[simp]theorem vp{x:Int}{fs:List Int}{s:au}:(jJ x fs s).length=fs.length:=by simp[jJ]
theorem nU{x:Int}:∀{c:List au}{fs:List Int},(aug x fs c).length=fs.length|[],_=>rfl|s::c,fs=>by show(aug x (jJ x fs s) c).length=_;rw[nU,vp]
theorem nP{x:Int}{j:Nat}:∀{c:List au}{fs:List Int},j∉c.map (·.1)->(aug x fs c)[j]?=fs[j]?|[],_,_=>rfl|s::c,fs,h=>by rw[map_cons,mem_cons,not_or]at h;show(aug x (jJ x fs s) c)[j]?=_;rw[nP h.2];unfold jJ;rw[getElem?_set_ne (λz=>h.1 z.symm)]
theorem yI{x:Int}:∀{c:List au}{fs:List Int}{s:au}{g:Int},(c.map (·.1)).Nodup->s∈c->fs[s.1]?=some g->(aug x fs c)[s.1]?=some (g+sg x s.2)
 |[],_,_,_,_,h,_=>by cases h|t::c,fs,s,g,u,h,e=>by
   rw[map_cons,nodup_cons]at u;show(aug x (jJ x fs t) c)[s.1]?=_;have y:=(eN e).1;rcases mem_cons.mp h with rfl|h;.rw[nP u.1];unfold jJ;rw[getElem?_set_self y,e];rfl
   .refine yI u.2 h ?_;unfold jJ;rw[getElem?_set_ne (λz=>u.1 (by rw[z];exact mem_map.mpr ⟨s,h,rfl⟩))];exact e
inductive JWt(x:Int)(fs:List Int)(c:List au)(a0 a1 a2:Sl)(r:List D)(ρ:List Sl):Prop where|mk(cR us:List au)(s4 s5:Sl)(q0:ρ=[a0,a1,a2,.own false ((aug x fs cR).map D.int),s4,s5])(q1:fr s4=true)(q2:fr s5=true)(q3:r=us.map sD)(q4:cR++us=c)
theorem Hf{s:Sl}{x:Int}{fs:List Int}(hs:Zy s fs)(hc:∀s∈c,s.1<fs.length)(k:Q (.own ((aug x fs c).map D.int)) [s,.val false (.tup (c.map sD)),.val false (.int x)]):(run Γ w (n+1) 7 [s,.val false (.tup (c.map sD)),.val false (.int x)]).sat Q:=by
 refine bh (d:=f7) rfl rfl (by decide) ?_;refine fV (λρ=>ρ=[s,.val false (.tup (c.map sD)),.val false (.int x),.own false (fs.map D.int),.aL,.aL]) ?_ ?_;.rcases hs with rfl|⟨b,rfl⟩;all_goals simp[f7]
 rintro _ rfl;symm;simp;refine bK (JWt x fs c _ _ _) ?_ ?_ ⟨[],c,.aL,.aL,rfl,rfl,rfl,rfl,rfl⟩;.rintro d r _⟨e,h,s4,s5,rfl,z,A,hr,hd⟩;cases h with|nil=>cases hr|cons u h=>
     obtain⟨rfl,rfl⟩:d=sD u/\r=h.map sD:=by simpa using hr
     have C:u.1<(aug x fs e).length:=by rw[nU];exact hc u (by rw[<-hd];simp)
     have y:(aug x fs e)[u.1]?=some (aug x fs e)[u.1]:=by simp[C]
     have B:gK (aug x fs e).length (u.1:Int)=some u.1:=by unfold gK;rw[if_pos (by omega),if_pos (by omega)];simp
     have he:aug x fs (e++[u])=(aug x fs e).set u.1 ((aug x fs e)[u.1]+sg x u.2):=by unfold aug;rw[List.foldl_append];show jJ x (aug x fs e) u=_;unfold jJ;rw[y];rfl
     have t:(e++[u])++h=c:=by rw[append_assoc];exact hd
     generalize(aug x fs e)[u.1]=g at*;simp[sD,dF,z,A];apply aj;obtain⟨j,f⟩:=u;cases f with|true=>simp[fH y,B];exact⟨e++[(j,true)],h,_,_,by rw[he,map_set];rfl,rfl,rfl,rfl,t⟩|false=>simp[fH y,B];exact⟨e++[(j,false)],h,_,_,by rw[he,map_set];rfl,rfl,rfl,rfl,t⟩
 . rintro _⟨e,h,s4,s5,rfl,z,A,hr,hd⟩;have:h=[]:=by cases h with|nil=>rfl|cons _ _=>cases hr
   subst this;rw[append_nil]at hd;subst hd;simp;apply aj;simp;exact k
def CQ(F:Int->Int)(D:Int):List En->Int->Int|[],p=>F p+D|e::es,p=>if e.1=p then e.2.2.2 else CQ F D es p
theorem iU{F:Int->Int}{D p:Int}{l:Nat}{o:Option au×Int}:∀{es:List En},(es.map (·.1)).Nodup->(p,l,o)∈es->CQ F D es p=o.2
 |[],_,h=>by cases h|e::es,t,h=>by
   rw[map_cons,nodup_cons]at t;rw[CQ];rcases mem_cons.mp h with rfl|h;.rw[if_pos rfl]
   .rw[if_neg (λz=>t.1 (by rw[z];exact mem_map.mpr ⟨_,h,rfl⟩))];exact iU t.2 h
theorem ou{F:Int->Int}{D p:Int}:∀{es:List En},(¬ ∃l o,(p,l,o)∈es)->CQ F D es p=F p+D|[],_=>rfl|e::es,h=>by rw[CQ,if_neg (λz=>h ⟨e.2.1,e.2.2,by rw[<-z];simp⟩)];exact ou λ⟨l,o,z⟩=>h ⟨l,o,mem_cons_of_mem _ z⟩
theorem zR(F:Int->Int):∀(es:List En),∃D,∀p l o,(p,l,o)∈es->o.2<=F p+D
 |[]=>⟨0,λ_ _ _ h=>by cases h⟩|e::es=>by
   obtain⟨D,h⟩:=zR F es;refine⟨max D (e.2.2.2-F e.1),λp l o z=>?_⟩;rcases mem_cons.mp z with rfl|z;.simp only;omega
   .have:=h p l o z;omega
theorem iw.pt{fs:List Int}{D:Int}(h:iw m ws fs es)(t:Pt ws fs F)(u:∀p l o,(p,l,o)∈es->o.2<=F p+D):Pt ws fs (CQ F D es):=λs v e ho=>by
 by_cases c:∃l o,(frm v s.2,l,o)∈es;.obtain⟨l,o,c⟩:=c;obtain⟨l2,y,c2,c3⟩:=h.cl l o s v e c ho;rw[iU h.cm.nd c,iU h.cm.nd c2];unfold Le at c3;omega
 . rw[ou c];have h1:=t s v e ho;by_cases c2:∃l o,(too v s.2,l,o)∈es;.obtain⟨l2,y,c2⟩:=c2;rw[iU h.cm.nd c2];have:=u _ _ _ c2;omega
   .rw[ou c2];omega
theorem DG{fs:List Int}{G:Int->Int}(d:Int)(h:Pt ws fs F)(t:Pt ws fs G):Pt ws fs (λp=>min (F p) (G p+d)):=λs v e ho=>by have h1:=h s v e ho;have u:=t s v e ho;simp only;omega
theorem rJ{ws:List Wy}{fs:List Int}{F:Int->Int}(h:Pt ws fs F){b:Int}:∀{c:List au}{a:Int},il ws b c a->uT ws fs c->F b=F a+aU ws c->∀s∈c,∀v,ws[s.1]?=some v->F (too v s.2)=F (frm v s.2)+hsp v s.2
 |[],_,_,_,_,s,hs,_,_=>by cases hs|s::c,a,⟨v,e,y,z⟩,ho,he,u,hu,x,ex=>by
   have t:uT ws fs c:=λu hu=>ho u (mem_cons_of_mem _ hu);have h1:=lQ h z t;obtain⟨C,A,o⟩:=ho s (by simp);rw[e]at A;cases A;have B:=h s v e o;rw[y]at B;rw[aU,dh e]at he;rcases mem_cons.mp hu with rfl|hu;.rw[e]at ex;cases ex;rw[y];omega
   .exact rJ h z t (by omega) u hu x ex
theorem qi{fs:List Int}{x:Int}{t:au}(hc:uT ws fs c)(e:ws[t.1]?=some v)(h:jE ws (aug x fs c) (frm v t.2) t=true):jE ws fs (frm v t.2) t=true\/∃s∈c,s.1=t.1/\t.2≠s.2:=by
 by_cases z:t.1∈c.map (·.1)
 . obtain⟨s,hs,es⟩:=mem_map.mp z;by_cases q:t.2=s.2;.have:t=s:=Prod.ext_iff.mpr ⟨es.symm,q⟩;subst this;obtain⟨y,u,o⟩:=hc t hs;rw[e]at u;cases u;exact .inl o
   .exact .inr ⟨s,hs,es,q⟩
 .refine .inl ?_;unfold jE at h ⊢;rwa[nP z]at h
theorem Pt.aug{ws:List Wy}{fs:List Int}{F:Int->Int}(h:Pt ws fs F){a b x:Int}{c:List au}(y:il ws b c a)(ho:uT ws fs c)(he:F b=F a+aU ws c):Pt ws (aug x fs c) F:=λt v e o=>by
 rcases qi ho e o with o|⟨u,z,A,ne⟩;.exact h t v e o
 . have:=rJ h y ho he u z v (by rw[A];exact e);rw[(kE ne).1,(kE ne).2];have:hsp v t.2=-hsp v u.2:=by cases h1:t.2<;>cases h2:u.2<;>simp[hsp]<;>(rw[h1,h2]at ne;exact absurd rfl ne)
   omega
def gb(G:Wy->Int):List Wy->List Int->Int|v::ws,g::fs=>G v*g+gb G ws fs|_,_=>0
def Bh(H:Wy->Int):List Wy->Int|[]=>0|v::ws=>H v+Bh H ws
theorem Dj{G H:Wy->Int}:∀{ws:List Wy}{fs:List Int},fs.length=ws.length->(∀(j:Nat)v g,ws[j]?=some v->fs[j]?=some g->G v*g<=H v)->gb G ws fs<=Bh H ws|[],[],_,_=>Int.le_refl _|[],_::_,h,_=>by simp at h|_::_,[],h,_=>by simp at h|v::ws,g::fs,h,k=>by have h1:=k 0 v g rfl rfl;have u:=Dj (G:=G) (H:=H) (ws:=ws) (fs:=fs) (by simpa using h) λj v g e t=>k (j+1) v g (by simpa using e) (by simpa using t);rw[gb,Bh];omega
theorem DP{G H:Wy->Int}:∀{ws:List Wy}{fs:List Int},fs.length=ws.length->(∀(j:Nat)v g,ws[j]?=some v->fs[j]?=some g->H v<=G v*g)->Bh H ws<=gb G ws fs|[],[],_,_=>Int.le_refl _|[],_::_,h,_=>by simp at h|_::_,[],h,_=>by simp at h|v::ws,g::fs,h,k=>by have h1:=k 0 v g rfl rfl;have u:=DP (G:=G) (H:=H) (ws:=ws) (fs:=fs) (by simpa using h) λj v g e t=>k (j+1) v g (by simpa using e) (by simpa using t);rw[gb,Bh];omega
theorem zP{G:Wy->Int}{v:Wy}{g y:Int}:∀{j:Nat}{ws:List Wy}{fs:List Int},ws[j]?=some v->fs[j]?=some g->gb G ws (fs.set j (g+y))=gb G ws fs+G v*y|_,[],_,e,_=>by simp at e|_,_::_,[],_,e=>by simp at e|0,u::ws,f::fs,h,t=>by simp at h t;subst h t;rw[List.set_cons_zero,gb,gb,mul_add];omega|j+1,u::ws,f::fs,h,t=>by rw[List.set_cons_succ,gb,gb,zP (j:=j) (by simpa using h) (by simpa using t)];omega
def gap(k:Int)(q:Int->Int)(v:Wy):Int:=q v.t-q v.s-k*v.h
theorem Fy{x:Int}:gap k q v*sg x f=x*(q (too v f)-q (frm v f)-k*hsp v f):=by cases f with|true=>show(q v.t-q v.s-k*v.h)*x=x*(q v.t-q v.s-k*v.h);exact mul_comm _ _|false=>show(q v.t-q v.s-k*v.h)*(-x)=x*(q v.s-q v.t-k*(-v.h));rw[mul_neg,mul_neg k,show q v.s-q v.t- -(k*v.h)=-(q v.t-q v.s-k*v.h)by omega,mul_neg,mul_comm]
theorem zu{k x:Int}{q:Int->Int}{ws:List Wy}{b:Int}:∀{c:List au}{fs:List Int}{a:Int},fs.length=ws.length->il ws b c a->gb (gap k q) ws (aug x fs c)=gb (gap k q) ws fs+x*(q b-q a-k*aU ws c)
 |[],fs,a,_,h=>by have:a=b:=h;subst this;show _=_+x*(q a-q a-k*0);simp;rfl|s::c,fs,a,u,⟨v,e,z,A⟩=>by
   show gb (gap k q) ws (aug x (jJ x fs s) c)=_;have t:s.1<fs.length:=by rw[u];exact(eN e).1
   have y:fs[s.1]?=some fs[s.1]:=by simp[t]
   rw[zu (by rw[vp];exact u) A];have:jJ x fs s=fs.set s.1 (fs[s.1]+sg x s.2):=by unfold jJ;rw[y];rfl
   rw[this,zP e y,Fy,z,Int.add_assoc,<-mul_add,aU,dh e,mul_add k];congr 2;omega
structure JD(ws:List Wy)(fs:List Int):Prop where
 len:fs.length=ws.length
 ok:∀(j:Nat)v g,ws[j]?=some v->fs[j]?=some g->0<=g/\g<=v.r
theorem JD.aug{ws:List Wy}{fs:List Int}{c:List au}{x:Int}(h:JD ws fs)(B:(c.map (·.1)).Nodup)(C:0<x)(hc:∀s∈c,∃v g,ws[s.1]?=some v/\fs[s.1]?=some g/\x<=nF v g s.2):JD ws (aug x fs c):=by
 refine⟨by rw[nU];exact h.len,λj v g t e=>?_⟩;by_cases z:j∈c.map (·.1);.obtain⟨s,hs,rfl⟩:=mem_map.mp z;obtain⟨E,g',u,y,A⟩:=hc s hs;rw[t]at u;cases u;rw[yI B hs y]at e;cases e;have:=h.ok _ _ _ t y;cases hf:s.2<;>rw[hf]at A<;>simp[nF,sg]at A ⊢<;>omega
 .rw[nP z]at e;exact h.ok _ _ _ t e
def G8(q:Int->Int)(v:Wy):Int:=v.r*max 0 (q v.t-q v.s-v.h)
def K5(q:Int->Int)(ws:List Wy):Int:=Bh (G8 q) ws
theorem Wn:gap 1 q v=q v.t-q v.s-v.h:=by unfold gap;omega
theorem zB{fs:List Int}(h:JD ws fs):gb (gap 1 q) ws fs<=K5 q ws:=Dj h.len λj v g e u=>by
 have:=h.ok _ _ _ e u;rw[Wn];unfold G8;generalize q v.t-q v.s-v.h=y;by_cases c:0<=y;.rw[Int.max_eq_right c,mul_comm];exact Int.mul_le_mul_of_nonneg_right this.2 c
 .rw[Int.max_eq_left (by omega),Int.mul_zero];exact Int.mul_nonpos_of_nonpos_of_nonneg (by omega) this.1
theorem Jm{fs:List Int}(h:JD ws fs)(A:Pt ws fs q):K5 q ws=gb (gap 1 q) ws fs:=by
 refine Int.le_antisymm (DP h.len λj v g e u=>?_) (zB h);have E:=h.ok _ _ _ e u;have C:0<v.r-g->q v.t<=q v.s+v.h:=λz=>A (j,true) v e (by rw[lY (s:=(j,true)) e u];simp[frm,nF];omega);have B:0<g->q v.s<=q v.t+-v.h:=λz=>A (j,false) v e (by rw[lY (s:=(j,false)) e u];simp[frm,nF];omega);rw[Wn];unfold G8;generalize G:q v.t-q v.s-v.h=y;by_cases c:g=v.r
 . subst c;by_cases c0:0<v.r;.have:=B c0;rw[Int.max_eq_right (by omega),mul_comm];exact Int.le_refl _
   . have:v.r=0:=by omega
     rw[this];simp
 . have:=C (by omega);rw[Int.max_eq_left (by omega),Int.mul_zero];by_cases c0:0<g;.have:=B c0;rw[show y=0 by omega];simp
   .rw[show g=0 by omega];simp
def V6(fs:List Int)(x:List au×Int):List Int:=aug x.2 fs x.1
def flow(N:Nat)(cs:List (List au×Int)):List Int:=cs.foldl V6 (replicate N 0)
theorem uX{x:List au×Int}:flow N (cs++[x])=aug x.2 (flow N cs) x.1:=by unfold flow;rw[List.foldl_append];rfl
def cB(H:List au×Int->Int):List (List au×Int)->Int|[]=>0|x::cs=>H x+cB H cs
theorem kI{H:List au×Int->Int}{x:List au×Int}:∀{cs:List (List au×Int)},cB H (cs++[x])=cB H cs+H x|[]=>by simp[cB]|y::cs=>by rw[cons_append,cB,cB,kI];omega
theorem nQ{H K:List au×Int->Int}:∀{cs:List (List au×Int)},(∀x∈cs,H x=K x)->cB H cs=cB K cs|[],_=>rfl|x::cs,h=>by rw[cB,cB,h x (by simp),nQ λy e=>h y (by simp[e])]
theorem Hc{H:List au×Int->Int}:∀{cs:List (List au×Int)},(∀x∈cs,1<=H x)->(cs.length:Int)<=cB H cs|[],_=>by simp[cB]|x::cs,h=>by have h1:=h x (by simp);have t:=Hc (H:=H) (cs:=cs) λy e=>h y (by simp[e]);rw[cB,length_cons];omega
def Vr(ws:List Wy)(T:Int)(x:List au×Int):Int:=if aU ws x.1<=T then x.2*(T-aU ws x.1+1)else 0
def val(ws:List Wy)(T:Int)(cs:List (List au×Int)):Int:=cB (Vr ws T) cs
structure mZ(m:Int)(ws:List Wy)(T v:Int):Prop where
 ex:∃q:Int->Int,q 0=0/\q (m-1)=T+1/\K5 q ws=v
 le:∀q:Int->Int,q 0=0->q (m-1)=T+1->v<=K5 q ws
theorem wy{T:Int}{fs:List Int}{G:Int->Int}(fit:JD ws fs)(dt:∀k q,gb (gap k q) ws fs=cB (λx=>x.2*(q (m-1)-q 0-k*aU ws x.1)) cs)(z:∀x∈cs,aU ws x.1<=T+1)(A:Pt ws fs G)(t:G 0=0)(u:G (m-1)=T+1):mZ m ws T (val ws T cs):=by
 have y:∀q:Int->Int,q 0=0->q (m-1)=T+1->gb (gap 1 q) ws fs=val ws T cs:=λq e h=>by
  rw[dt,e,h];refine nQ λx B=>?_;have:=z x B;unfold Vr;split;.congr 1;omega
  .rw[show T+1-0-1*aU ws x.1=0 by omega,Int.mul_zero]
 exact⟨⟨G,t,u,by rw[Jm fit A,y G t u]⟩,λq e h=>by rw[<-y q e h];exact zB fit⟩
structure wU(m:Int)(ws:List Wy)(cs:List (List au×Int))(fs:List Int)(F:Int->Int)(d:Int):Prop where
 fit:JD ws fs
 pt:Pt ws fs F
 z:F 0=0
 e:F (m-1)=d
 d0:0<=d
 nn:(∀v∈ws,1<=v.h)->1<=d/\∀x∈cs,1<=aU ws x.1
 ch:∀x∈cs,aU ws x.1<=d/\0<x.2/\∀s∈x.1,s.1<ws.length
 dt:∀k q,gb (gap k q) ws fs=cB (λx=>x.2*(q (m-1)-q 0-k*aU ws x.1)) cs
 lst:∀T,0<=T->T+1<=d->mZ m ws T (val ws T cs)
theorem vf{G:Wy->Int}:∀{ws:List Wy}{n:Nat},gb G ws (replicate n 0)=0|[],n=>by unfold gb;rfl|v::ws,0=>rfl|v::ws,n+1=>by rw[replicate_succ,gb,vf];simp
theorem yC(h:(replicate n (0:Int))[j]?=some g):g=0:=(List.mem_replicate.mp (mem_of_getElem? h)).2
def F01(b p:Int):Int:=if p=0 then 0 else b
theorem wU.zero(m0:2<=m)(A:∀v∈ws,0<=v.h)(hr:∀v∈ws,0<=v.r):∃b,wU m ws [] (replicate ws.length 0) (F01 b) b:=by
 have fit:JD ws (replicate ws.length 0):=⟨by simp,λj v g t u=>by rw[yC u];exact⟨Int.le_refl _,hr v (mem_of_getElem? t)⟩⟩;have pt:∀b:Int,0<=b->(∀v∈ws,b<=v.h)->Pt ws (replicate ws.length 0) (F01 b):=λb b0 B s v e ho=>by obtain⟨E,g,t,u,_,y⟩:=pI ho;rw[e]at t;cases t;have:=yC u;subst this;have:=B v (mem_of_getElem? e);cases hf:s.2<;>rw[hf]at y<;>simp[nF,hsp,F01]at y ⊢;split<;>split<;>omega
 have dt:∀k q,gb (gap k q) ws (replicate ws.length 0)=cB (λx=>x.2*(q (m-1)-q 0-k*aU ws x.1)) []:=λk q=>by rw[vf];rfl
 have t:∀b,F01 b (m-1)=b:=λb=>by unfold F01;rw[if_neg (by omega)]
 by_cases c:∀v∈ws,1<=v.h;.exact⟨1,fit,pt 1 (by omega) c,rfl,t 1,by omega,λ_=>⟨Int.le_refl _,by simp⟩,by simp,dt,λT h1 C=>wy fit dt (by simp) (pt 1 (by omega) c) rfl (by rw[t];omega)⟩
 .exact⟨0,fit,pt 0 (by omega) A,rfl,t 0,by omega,λz=>absurd z c,by simp,dt,λT h1 C=>by omega⟩
theorem wU.at{d T:Int}{fs:List Int}{G:Int->Int}(h:wU m ws cs fs F d)(e:d<=T+1)(t:Pt ws fs G)(u:G 0=0)(y:G (m-1)=T+1):mZ m ws T (val ws T cs):=wy h.fit h.dt (λx z=>Int.le_trans (h.ch x z).1 e) t u y
theorem wU.more{d:Int}{fs:List Int}{x:Int}(h:wU m ws cs fs F d)(t:iw m ws fs es)(u:(m-1,l,o)∈es)(hc:Mt ws fs es (m-1) l o.2 0 0 0 c)(A:0<x)(hr:∀s∈c,∃v g,ws[s.1]?=some v/\fs[s.1]?=some g/\x<=nF v g s.2):∃G,wU m ws (cs++[(c,x)]) (aug x fs c) G o.2:=by
 obtain⟨D,H⟩:=zR F es;have B:=t.pt h.pt H;have J:aU ws c=o.2:=by have:=hc.hrs;omega
 have C:CQ F D es 0=0:=iU t.cm.nd t.cm.z;have E:CQ F D es (m-1)=o.2:=iU t.cm.nd u;have hd:d<=o.2:=by have:=lQ h.pt hc.CV hc.gV;rw[h.e,h.z]at this;omega
 refine⟨CQ F D es,h.fit.aug hc.nd A hr,B.aug hc.CV hc.gV (by rw[C,E];omega),C,E,by have:=h.d0;omega,λz=>⟨by have:=(h.nn z).1;omega,λy hy=>?_⟩,λy hy=>?_,λk q=>?_,λT h0 h1=>?_⟩
 . rcases mem_append.mp hy with hy|hy;.exact(h.nn z).2 y hy
   .rw[mem_singleton.mp hy];show 1<=aU ws c;have:=(h.nn z).1;omega
 . rcases mem_append.mp hy with hy|hy;.have:=h.ch y hy;exact⟨by omega,this.2⟩
   .rw[mem_singleton.mp hy];refine⟨by show aU ws c<=_;omega,A,λs hs=>?_⟩;obtain⟨v,g,e,_⟩:=hr s hs;exact(eN e).1
 .rw[zu h.fit.len hc.CV,kI,h.dt]
 . have I:val ws T (cs++[(c,x)])=val ws T cs:=by unfold val;rw[kI];show _+(if aU ws c<=T then _ else 0)=_;rw[if_neg (by omega)];omega
   rw[I];by_cases q:T+1<=d;.exact h.lst T h0 q
   . refine h.at (by omega) (DG (T+1-d) B h.pt) ?_ ?_;.have:=h.z;omega
     .have:=h.e;omega
theorem wU.least{d T:Int}{fs:List Int}(h:wU m ws cs fs F d)(t:iw m ws fs es)(u:¬ ∃l o,(m-1,l,o)∈es)(h0:0<=T):mZ m ws T (val ws T cs):=by
 by_cases q:T+1<=d;.exact h.lst T h0 q
 . obtain⟨D,y⟩:=zR F es;have A:=t.pt (D:=max D (T+1-d)) h.pt λp l o z=>by have:=y p l o z;omega
   have B:CQ F (max D (T+1-d)) es 0=0:=iU t.cm.nd t.cm.z;have C:CQ F (max D (T+1-d)) es (m-1)=F (m-1)+max D (T+1-d):=ou u;refine h.at (by omega) (DG (T+1-d) A h.pt) ?_ ?_;.have:=h.z;omega
   .have:=h.e;omega
def CT(v:Wy)(f:Bool):Int:=7*hsp v f+1
def MF(ws:List Wy)(fs:List Int)(P:Int->Int):Prop:=∀(s:au)(v:Wy),ws[s.1]?=some v->jE ws fs (frm v s.2) s=true->P (too v s.2)<=P (frm v s.2)+CT v s.2
def wV(ws:List Wy)(c:List au):Int:=7*aU ws c+c.length
theorem qx(e:ws[s.1]?=some v):wV ws (s::c)=CT v s.2+wV ws c:=by unfold wV CT;rw[aU,dh e,length_cons];omega
theorem yw{ws:List Wy}{fs:List Int}{P:Int->Int}(h:MF ws fs P){b:Int}:∀{c:List au}{a:Int},il ws b c a->uT ws fs c->P b<=P a+wV ws c|[],a,t,_=>by have:a=b:=t;rw[this];simp[wV,aU]|s::c,a,⟨v,e,z,t⟩,ho=>by have h1:=yw h t λu A=>ho u (mem_cons_of_mem _ A);obtain⟨C,y,o⟩:=ho s (by simp);rw[e]at y;cases y;have B:=h s v e o;rw[z]at B;rw[qx e];omega
theorem rR{ws:List Wy}{fs:List Int}{P:Int->Int}(h:MF ws fs P){b:Int}:∀{c:List au}{a:Int},il ws b c a->uT ws fs c->P b=P a+wV ws c->∀s∈c,∀v,ws[s.1]?=some v->P (too v s.2)=P (frm v s.2)+CT v s.2
 |[],_,_,_,_,s,hs,_,_=>by cases hs|s::c,a,⟨v,e,y,z⟩,ho,he,u,hu,x,ex=>by
   have t:uT ws fs c:=λu hu=>ho u (mem_cons_of_mem _ hu);have h1:=yw h z t;obtain⟨C,A,o⟩:=ho s (by simp);rw[e]at A;cases A;have B:=h s v e o;rw[y]at B;rw[qx e]at he;rcases mem_cons.mp hu with rfl|hu;.rw[e]at ex;cases ex;rw[y];omega
   .exact rR h z t (by omega) u hu x ex
def tgt(ws:List Wy)(fs:List Int)(P:Int->Int)(s:au):Bool:=match ws[s.1]?with|some v=>jE ws fs (frm v s.2) s&&decide (P (too v s.2)=P (frm v s.2)+CT v s.2)|none=>false
theorem Dg{fs:List Int}{P:Int->Int}(e:ws[s.1]?=some v):tgt ws fs P s=(jE ws fs (frm v s.2) s&&decide (P (too v s.2)=P (frm v s.2)+CT v s.2)):=by unfold tgt;rw[e]
def Gu(ws:List Wy)(fs:List Int)(P:Int->Int):Nat:=((gJ ws.length).filter (tgt ws fs P)).length
theorem zZ{fs:List Int}{P:Int->Int}(h:ws.length<=12):Gu ws fs P<=24:=by have:=List.length_filter_le (tgt ws fs P) (gJ ws.length);rw[wF]at this;unfold Gu;omega
theorem Fb{p q:au->Bool}(h:∀t,q t=true->p t=true):∀(l:List au),(l.filter q).length<=(l.filter p).length|[]=>dC|t::l=>by have e:=Fb h l;cases hq:q t with|true=>simp[hq,h t hq,e]|false=>cases hp:p t with|true=>simp[hq,hp];omega|false=>simp[hq,hp,e]
theorem GD{p q:au->Bool}{s:au}(h:∀t,q t=true->p t=true)(e:p s=true)(u:q s=false):∀{l:List au},s∈l->(l.filter q).length<(l.filter p).length
 |[],hs=>by cases hs|t::l,hs=>by
   have le:=Fb h l;rcases mem_cons.mp hs with rfl|hs;.simp[e,u];omega
   .have y:=GD h e u hs;cases hq2:q t with|true=>simp[hq2,h t hq2,y]|false=>cases hp2:p t with|true=>simp[hq2,hp2];omega|false=>simp[hq2,hp2,y]
theorem Gp{fs:List Int}(h:(c.map (·.1)).Nodup)(hs:s∈c)(e:ws[s.1]?=some v)(t:fs[s.1]?=some g):jE ws (aug (nF v g s.2) fs c) p s=false:=by
 rw[lY e (yI h hs t)];have:nF v (g+sg (nF v g s.2) s.2) s.2=0:=by cases s.2<;>simp[nF,sg]<;>omega
 rw[this];simp
theorem MF.aug{ws:List Wy}{fs:List Int}{P:Int->Int}(h:MF ws fs P){a b:Int}{c:List au}{s:au}{v:Wy}{g:Int}(E:il ws b c a)(ho:uT ws fs c)(G:(c.map (·.1)).Nodup)(he:P b=P a+wV ws c)(hs:s∈c)(e:ws[s.1]?=some v)(H:fs[s.1]?=some g):MF ws (aug (nF v g s.2) fs c) P/\Gu ws (aug (nF v g s.2) fs c) P<Gu ws fs P:=by
 have A:=rR h E ho he;have back:∀(t u:au)(x:Wy),u∈c->u.1=t.1->t.2≠u.2->ws[t.1]?=some x->P (too x t.2)<P (frm x t.2)+CT x t.2:=λt u x y z ne ex=>by
  have h1:=A u y x (by rw[z];exact ex);rw[(kE ne).1,(kE ne).2];have B:hsp x t.2=-hsp x u.2:=by cases h1:t.2<;>cases B:u.2<;>simp[hsp]<;>(rw[h1,B]at ne;exact absurd rfl ne)
  unfold CT at*;omega
 refine⟨λt x ex o=>?_,?_⟩
 . rcases qi ho ex o with o|⟨u,y,z,ne⟩;.exact h t x ex o
   .have:=back t u x y z ne ex;omega
 . obtain⟨I,C,o⟩:=ho s hs;rw[e]at C;cases C;refine GD (s:=s) (λt ht=>?_) (by rw[Dg e,o,A s hs v e];simp) (by rw[Dg e,Gp G hs e H];rfl) (vQ (eN e).1);unfold tgt at ht ⊢;split at ht
   . rename_i x ex;simp only[and_eq_true,decide_eq_true_eq]at ht ⊢;refine⟨?_,ht.2⟩;rcases qi ho ex ht.1 with o|⟨u,y,z,ne⟩;.exact o
     .have:=back t u x y z ne ex;omega
   .cases ht
abbrev M9:=List (Option Bool)
def jH:List Wy->M9->Int|v::ws,some f::es=>CT v f+jH ws es|_::ws,none::es=>jH ws es|_,_=>0
def Bm(N:Nat):List au->M9|[]=>replicate N none|s::c=>(Bm N c).set s.1 (some s.2)
theorem sX{N:Nat}:∀{c:List au},(Bm N c).length=N|[]=>by simp[Bm]|s::c=>by rw[Bm,List.length_set,sX]
theorem zU{N j:Nat}:∀{c:List au},j<N->j∉c.map (·.1)->(Bm N c)[j]?=some none|[],h,_=>by simp[Bm,h]|s::c,h,e=>by rw[map_cons,mem_cons,not_or]at e;rw[Bm,getElem?_set_ne (λz=>e.1 z.symm)];exact zU h e.2
theorem uY{v:Wy}{f:Bool}:∀{j:Nat}{ws:List Wy}{es:M9},ws[j]?=some v->es[j]?=some none->jH ws (es.set j (some f))=jH ws es+CT v f|_,[],_,e,_=>by simp at e|_,_::_,[],_,e=>by simp at e|0,u::ws,x::es,h,t=>by simp at h t;subst h t;rw[List.set_cons_zero,jH,jH];omega|j+1,u::ws,x::es,h,t=>by have y:=uY (f:=f) (j:=j) (ws:=ws) (es:=es) (by simpa using h) (by simpa using t);rw[List.set_cons_succ];cases x with|none=>rw[jH,jH,y]|some g=>rw[jH,jH,y];omega
theorem sr:∀{ws:List Wy}{n:Nat},jH ws (replicate n none)=0|[],n=>by unfold jH;rfl|v::ws,0=>rfl|v::ws,n+1=>by rw[replicate_succ,jH,sr]
theorem tO{ws:List Wy}{b:Int}:∀{c:List au}{a:Int},il ws b c a->(c.map (·.1)).Nodup->jH ws (Bm ws.length c)=wV ws c|[],_,_,_=>by rw[Bm,sr];simp[wV,aU]|s::c,a,⟨v,e,_,t⟩,h=>by rw[map_cons,nodup_cons]at h;rw[Bm,uY e (zU (eN e).1 h.1),tO t h.2,qx e];omega
def qF:Nat->List M9|0=>[[]]|n+1=>(qF n).map (none::·)++((qF n).map (some true::·)++(qF n).map (some false::·))
theorem qu:∀{n:Nat},(qF n).length=3^n|0=>rfl|n+1=>by rw[qF,length_append,length_append,length_map,length_map,length_map,qu,Nat.pow_succ];omega
theorem pA:∀{e:M9},e∈qF e.length|[]=>by simp[qF]|x::e=>by have h:=pA (e:=e);rw[length_cons,qF,mem_append,mem_append];cases x with|none=>exact .inl (mem_map.mpr ⟨e,h,rfl⟩)|some f=>cases f with|true=>exact .inr (.inl (mem_map.mpr ⟨e,h,rfl⟩))|false=>exact .inr (.inr (mem_map.mpr ⟨e,h,rfl⟩))
structure LK(m:Int)(ws:List Wy)(k:Nat)(fs:List Int)(P:Int->Int)(lam:Int)(seen:List M9):Prop where
 pt:MF ws fs P
 z:P 0=0
 e:P (m-1)=lam
 nd:seen.Nodup
 sl:∀e∈seen,e.length=ws.length/\jH ws e<=lam
 cnt:k+Gu ws fs P<=25*(seen.length+1)
theorem LK.few{t:Int}{k:Nat}{fs:List Int}{P:Int->Int}{seen:List M9}(h:LK m ws k fs P t seen)(u:ws.length<=12):k<=13286050:=by
 have h1:=gZ (l2:=qF ws.length) h.nd λe he=>by rw[<-(h.sl e he).1];exact pA
 rw[qu]at h1;have y:3^ws.length<=3^12:=Nat.pow_le_pow_right (by decide) u;have z:(3:Nat)^12=531441:=by decide
 have:=h.cnt;omega
theorem LK.zero(y:ws.length<=12)(z:∀v∈ws,0<=v.h):LK m ws 0 (replicate ws.length 0) (λ_=>0) 0 []:=by refine⟨λs v e ho=>?_,rfl,rfl,.nil,by simp,by have:=zZ (fs:=replicate ws.length 0) (P:=λ_=>0) y;simp;omega⟩;obtain⟨B,g,t,A,_,u⟩:=pI ho;rw[e]at t;cases t;have:=yC A;subst this;have:=z v (mem_of_getElem? e);cases hf:s.2<;>rw[hf]at u<;>simp[nF,CT,hsp]at u ⊢;omega
def Ie(F:Int->Int)(D:Int):List En->Int->Int|[],p=>F p+D|e::es,p=>if e.1=p then 7*e.2.2.2+(e.2.1:Int)else Ie F D es p
theorem lX{F:Int->Int}{D p:Int}{l:Nat}{o:Option au×Int}:∀{es:List En},(es.map (·.1)).Nodup->(p,l,o)∈es->Ie F D es p=7*o.2+l
 |[],_,h=>by cases h|e::es,t,h=>by
   rw[map_cons,nodup_cons]at t;rw[Ie];rcases mem_cons.mp h with rfl|h;.rw[if_pos rfl]
   .rw[if_neg (λz=>t.1 (by rw[z];exact mem_map.mpr ⟨_,h,rfl⟩))];exact lX t.2 h
theorem uo{F:Int->Int}{D p:Int}:∀{es:List En},(¬ ∃l o,(p,l,o)∈es)->Ie F D es p=F p+D|[],_=>rfl|e::es,h=>by rw[Ie,if_neg (λz=>h ⟨e.2.1,e.2.2,by rw[<-z];simp⟩)];exact uo λ⟨l,o,z⟩=>h ⟨l,o,mem_cons_of_mem _ z⟩
theorem Ed(F:Int->Int):∀(es:List En),∃D,∀p l o,(p,l,o)∈es->7*o.2+(l:Int)<=F p+D
 |[]=>⟨0,λ_ _ _ h=>by cases h⟩|e::es=>by
   obtain⟨D,h⟩:=Ed F es;refine⟨max D (7*e.2.2.2+(e.2.1:Int)-F e.1),λp l o z=>?_⟩;rcases mem_cons.mp z with rfl|z;.simp only;omega
   .have:=h p l o z;omega
theorem iw.pts{fs:List Int}{P:Int->Int}{D:Int}(h:iw m ws fs es)(t:HN m ws)(u:Pt ws fs F)(y:MF ws fs P)(z:∀p l o,(p,l,o)∈es->7*o.2+(l:Int)<=P p+D):MF ws fs (Ie P D es):=λs v e ho=>by
 by_cases c:∃l o,(frm v s.2,l,o)∈es;.obtain⟨l,o,c⟩:=c;obtain⟨l2,A,c2,c3⟩:=h.cl l o s v e c ho;rw[lX h.cm.nd c,lX h.cm.nd c2];have:=h.l5 t u c2;unfold Le at c3;unfold CT;omega
 . rw[uo c];have h1:=y s v e ho;by_cases c2:∃l o,(too v s.2,l,o)∈es;.obtain⟨l2,A,c2⟩:=c2;rw[lX h.cm.nd c2];have:=z _ _ _ c2;omega
   .rw[uo c2];omega
theorem LK.more{t:Int}{k:Nat}{fs:List Int}{P:Int->Int}{seen:List M9}(h:LK m ws k fs P t seen)(B:HN m ws)(I:Pt ws fs F)(u:iw m ws fs es)(y:(m-1,l,o)∈es)(hc:Mt ws fs es (m-1) l o.2 0 0 0 c)(hs:s∈c)(e:ws[s.1]?=some v)(C:fs[s.1]?=some g):∃J L M,LK m ws (k+1) (aug (nF v g s.2) fs c) J L M:=by
 have O:aU ws c=o.2:=by have:=hc.hrs;omega
 have U:c.length=l:=by have:=hc.len;omega
 have W:wV ws c=7*o.2+l:=by unfold wV;rw[O,U]
 have X:t<=wV ws c:=by have:=yw h.pt hc.CV hc.gV;rw[h.e,h.z]at this;omega
 by_cases q:t=wV ws c;.have A:=h.pt.aug hc.CV hc.gV hc.nd (by rw[h.e,h.z];omega) hs e C;exact⟨P,t,seen,A.1,h.z,h.e,h.nd,h.sl,by have:=h.cnt;omega⟩
 . obtain⟨D,Y⟩:=Ed P es;have Z:=u.pts B I h.pt Y;have E:Ie P D es 0=0:=by rw[lX u.cm.nd u.cm.z];rfl
   have G:Ie P D es (m-1)=wV ws c:=by rw[lX u.cm.nd y,W]
   have A:=Z.aug hc.CV hc.gV hc.nd (by rw[E,G];omega) hs e C;have H:=tO hc.CV hc.nd;refine⟨Ie P D es,wV ws c,seen++[Bm ws.length c],A.1,E,G,?_,λx hx=>?_,?_⟩;.rw[nodup_append];refine⟨h.nd,by simp,λa ha b hb ab=>?_⟩;have:=(h.sl a ha).2;rw[ab,mem_singleton.mp hb,H]at this;omega
   . rcases mem_append.mp hx with hx|hx;.have:=h.sl x hx;exact⟨this.1,by omega⟩
     .rw[mem_singleton.mp hx];exact⟨sX,by rw[H];exact Int.le_refl _⟩
   .have h1:=zZ (fs:=fs) (P:=Ie P D es) B.len;have h2:=h.cnt;rw[length_append,List.length_singleton];omega
theorem xJ{p:Int}{l y:Nat}{o A:Option au×Int}:∀{es:List En},(es.map (·.1)).Nodup->(p,l,o)∈es->(p,y,A)∈es->l=y
 |[],_,h,_=>by cases h|e::es,t,h1,B=>by
   rw[map_cons,nodup_cons]at t;rcases mem_cons.mp h1 with z|g1<;>rcases mem_cons.mp B with u|g2;.rw[<-z]at u;cases u;rfl
   .subst z;exact absurd (mem_map.mpr ⟨_,g2,rfl⟩) t.1
   .subst u;exact absurd (mem_map.mpr ⟨_,g1,rfl⟩) t.1
   .exact xJ t.2 g1 g2
theorem Fv{ws:List Wy}{es:List En}{b:Int}(nd:(es.map (·.1)).Nodup):∀{c:List au}{a:Int}{l:Nat}{o:Option au×Int},(a,l,o)∈es->il ws b c a->(∀s∈c,∀v,ws[s.1]?=some v->∃C H I,(frm v s.2,C,H)∈es/\(too v s.2,C+1,I)∈es)->(j4 ws c a).Nodup/\∀q∈j4 ws c a,∃h B,(q,h,B)∈es/\l<=h
 |[],a,l,o,t,_,_=>⟨by simp[j4],λq hq=>by rw[j4,mem_singleton]at hq;rw[hq];exact⟨l,o,t,dC⟩⟩|s::c,a,l,o,t,⟨v,e,J,L⟩,y=>by
   obtain⟨C,H,I,h1,M⟩:=y s (by simp) v e;rw[J]at h1;have:=xJ nd t h1;subst this;obtain⟨E,A⟩:=Fv nd M L λu O=>y u (by simp[O]);have U:gH ws s=too v s.2:=by unfold gH;rw[e]
   rw[j4,U];refine⟨nodup_cons.mpr ⟨λz=>?_,E⟩,λq hq=>?_⟩;.obtain⟨h,B,G,W⟩:=A a z;have:=xJ nd t G;omega
   . rcases mem_cons.mp hq with rfl|hq;.exact⟨l,o,t,dC⟩
     .obtain⟨h,B,G,W⟩:=A q hq;exact⟨h,B,G,by omega⟩
def cD(x:List au×Int):D:=.tup [.tup (x.1.map sD),.int x.2]
theorem R0(h:ns≠[]):∃i,ns.min?=some i/\i∈ns/\∀j∈ns,i<=j:=by cases e:ns.min? with|none=>rw[List.min?_eq_none_iff]at e;exact absurd e h|some i=>have:=List.min?_eq_some_iff.mp e;exact⟨i,rfl,this.1,this.2⟩
def QV:D->au|.tup [.int j,.bl f]=>(j.toNat,f)|_=>(0,true)
@[simp]theorem xj{s:au}:QV (sD s)=s:=rfl
def MJ(ws:List Wy)(fs:List Int)(s:au):Int:=match ws[s.1]?,fs[s.1]?with|some v,some g=>nF v g s.2|_,_=>0
def rmD(ws:List Wy)(fs:List Int)(d:D):D:=.int (MJ ws fs (QV d))
@[simp]theorem Xr{es:List En}{p:Int}:vO false (.int p) (mY es)=some (.val (.bl (qI (es.map en) p))):=by show some (R.val (.bl ((es.map (·.1)).contains p)))=some (R.val (.bl ((Il (es.map en)).contains p)));rw[yz]
def Z3(m:Int)(ws:List Wy)(x:List au×Int):Prop:=x.1.length<=5/\(∀s∈x.1,s.1<ws.length)/\il ws (m-1) x.1 0/\(x.1.map (·.1)).Nodup/\(j4 ws x.1 0).Nodup
structure Stg(m:Int)(ws:List Wy)(cR:List (List au×Int))(x:List au×Int):Prop where
 iv:∃F d,wU m ws cR (flow ws.length cR) F d
 ht:∃F,Pt ws (flow ws.length cR) F/\F 0=0/\F (m-1)=aU ws x.1
 op:uT ws (flow ws.length cR) x.1
 rm:∀s∈x.1,∃v g,ws[s.1]?=some v/\(flow ws.length cR)[s.1]?=some g/\x.2<=nF v g s.2
theorem wU.ht{d:Int}{fs:List Int}(h:wU m ws cs fs F d)(t:iw m ws fs es)(u:(m-1,l,o)∈es)(hc:Mt ws fs es (m-1) l o.2 0 0 0 c):(∃F,Pt ws fs F/\F 0=0/\F (m-1)=aU ws c)/\d<=aU ws c:=by
 obtain⟨D,y⟩:=zR F es;have A:aU ws c=o.2:=by have:=hc.hrs;omega
 refine⟨⟨CQ F D es,t.pt h.pt y,iU t.cm.nd t.cm.z,by rw[iU t.cm.nd u,A]⟩,?_⟩;have:=lQ h.pt hc.CV hc.gV;rw[h.e,h.z]at this;omega
def Bw(m:Int)(ws:List Wy)(cs:List (List au×Int)):Prop:=cs.Pairwise (λa b=>aU ws a.1<=aU ws b.1)/\∀h x e,cs=h++x::e->Stg m ws h x
theorem Bw.snoc{y:List au×Int}(h:Bw m ws cs)(h1:∀x∈cs,aU ws x.1<=aU ws y.1)(A:Stg m ws cs y):Bw m ws (cs++[y]):=by
 refine⟨?_,λu x t e=>?_⟩;.rw[pairwise_append];exact⟨h.1,by simp,λa B b C=>by rw[mem_singleton.mp C];exact h1 a B⟩
 . rcases List.eq_nil_or_concat t with rfl|⟨r,z,rfl⟩;.obtain⟨E,G⟩:=List.append_inj' e rfl;cases G;subst E;exact A
   . rw[List.concat_eq_append]at e;have H:cs++[y]=(u++x::r)++[z]:=by rw[e];simp
     exact h.2 u x r (List.append_inj' H rfl).1
structure Ends(m:Int)(ws:List Wy)(cs:List (List au×Int))(fs:List Int)(F:Int->Int)(d:Int)(es:List En):Prop where
 fl:fs=flow ws.length cs
 iv:wU m ws cs fs F d
 cm:iw m ws fs es
 no:¬ ∃l o,(m-1,l,o)∈es
 ck:∀x∈cs,Z3 m ws x
 st:Bw m ws cs
inductive FcE(a0 a1 a2 a3 a4 a5 a6:Sl)(ρ:List Sl):Prop where|mk(s:Sl)(q0:ρ=[a0,a1,a2,a3,a4,a5,a6,s])(q1:fr s=true)
inductive JE(m:Int)(ws:List Wy)(M:Nat)(ρ:List Sl):Prop where|mk(cs:List (List au×Int))(fs:List Int)(es:List En)(F:Int->Int)(d:Int)(s5 s6:Sl)(q0:ρ=[.val false (bN m ws),.val false (.int (m-1)),.own false (fs.map D.int),.own false (cs.map cD),.val false (mY es),s5,s6])(q1:(fr s5=true/\fr s6=true))(q2:fs=flow ws.length cs)(q3:wU m ws cs fs F d)(q4:iw m ws fs es)(q5:(∃P lam seen,LK m ws cs.length fs P lam seen))(q6:cs.length+M=13286050)(q7:(∀x∈cs,Z3 m ws x))(q8:Bw m ws cs)
theorem wz(hw:13286250<=w)(h:HN m ws)(hr:∀v∈ws,0<=v.r)(k:∀cs fs F d es,cs.length<=13286050->Ends m ws cs fs F d es->Q (.own (cs.map cD)) [.val false (bN m ws)]):(run Γ w (n+4) 8 [.val false (bN m ws)]).sat Q:=by
 have hn:=h.len;have m0:=h.m0;have m1:=h.m1;refine bh (d:=f8) rfl rfl (by decide) ?_;symm;simp[f8];refine fV (λρ=>ρ=[.val false (bN m ws),.val false (.int (m-1)),.own false ((flow ws.length []).map D.int),.aL,.aL,.aL,.aL]) ?_ ?_;.simp[flow];show _<=16777216;omega
 rintro _ rfl;have hh:∀v∈ws,0<=v.h:=λv hv=>(h.ok v hv).2.2;obtain⟨b0,I0⟩:∃b,wU m ws [] (flow ws.length []) (F01 b) b:=wU.zero m0 hh hr;symm;simp;apply aj;simp;refine vA (by omega) I0.pt (.inr ⟨true,rfl⟩) h I0.fit.len λes t=>?_;simp;apply aj;simp;refine ji (JE m ws) ?_ (k:=w) (m:=13286050) (by omega) ⟨[],flow ws.length [],es,F01 b0,b0,.aL,.aL,rfl,⟨rfl,rfl⟩,rfl,I0,t,⟨_,_,_,LK.zero hn hh⟩,by simp,by simp,by simp,λcR x ay e=>by cases cR<;>cases e⟩;rintro M _⟨cs,fs,es,F,d,s5,s6,rfl,⟨h5,h6⟩,G,H,t,⟨P,aE,seen,hS⟩,hM,O,hst⟩;have ac:=H.fit.len;by_cases hq:∃l o,(m-1,l,o)∈es
 . obtain⟨l,o,A⟩:=hq;have kt:qI (es.map en) (m-1)=true:=ye.mpr ⟨l,o,A⟩;have ae:=t.l5 h H.pt A;simp[kt];apply aj;simp;refine BP (by omega) t ae A λc hc=>?_;simp[h5];apply aj;have af:c.length<=5:=by have:=hc.len;omega
   have Mq:∀s∈c,∃v g,ws[s.1]?=some v/\fs[s.1]?=some g/\0<nF v g s.2:=λs hs=>by obtain⟨v,e,o⟩:=hc.gV s hs;obtain⟨v',g,B,E,_,e4⟩:=pI o;exact⟨v',g,B,E,e4⟩
   simp[show c.length<=16777216 by omega];refine ie (FcE _ _ _ _ _ _ _) (rmD ws fs) ⟨.aL,rfl,rfl⟩ ?_ ?_;.rintro d hd _⟨s',rfl,U⟩;obtain⟨s,hs,rfl⟩:=mem_map.mp hd;obtain⟨v,g,B,E,_⟩:=Mq s hs;simp[U,sD];refine qZ (.inr ⟨true,rfl⟩) B E ?_;simp;refine⟨?_,_,rfl,rfl⟩;show D.int (MJ ws fs (QV (sD s)))=_;rw[xj];unfold MJ;rw[B,E]
   rintro _⟨s',rfl,U⟩;have W:(c.map sD).map (rmD ws fs)=(c.map (MJ ws fs)).map D.int:=by rw[map_map,map_map];rfl
   rw[W];have ag:c≠[]:=by rintro rfl;have:(0:Int)=m-1:=hc.CV;omega
   obtain⟨x,ah,ai,al⟩:=R0 (ns:=c.map (MJ ws fs)) (by simpa using ag);obtain⟨s,hs,am⟩:=mem_map.mp ai;obtain⟨v,g,B,E,e3⟩:=Mq s hs;have ap:nF v g s.2=x:=by rw[<-am];unfold MJ;rw[B,E]
   have ar:0<x:=by omega
   have J:∀s∈c,∃v g,ws[s.1]?=some v/\fs[s.1]?=some g/\x<=nF v g s.2:=λu I=>by obtain⟨v,g,B,E,_⟩:=Mq u I;refine⟨v,g,B,E,?_⟩;have:=al _ (mem_map.mpr ⟨u,I,rfl⟩);unfold MJ at this;rw[B,E]at this;exact this
   have X:∀s∈c,s.1<ws.length:=λu I=>by obtain⟨v,g,B,_⟩:=Mq u I;exact(eN B).1
   obtain⟨F',L⟩:=H.more t A hc ar J;have Y:Bw m ws (cs++[(c,x)]):=by obtain⟨g1,g2⟩:=H.ht t A hc;refine hst.snoc (λy hy=>Int.le_trans (H.ch y hy).1 g2) ?_;have Z:=H;rw[G]at Z g1 J;exact⟨⟨_,_,Z⟩,g1,by rw[<-G];exact hc.gV,J⟩
   have C:=hS.more h H.pt t A hc hs B E;rw[ap]at C;obtain⟨P',S8,Ia,C⟩:=C;have aI:=C.few hn;generalize c.map (MJ ws fs)=ns at*;simp[qp,ah,h6];apply aj;simp[show cs.length<16777216 by omega];apply aj;simp;refine Hf (.inr ⟨true,rfl⟩) (λu I=>by rw[ac];exact X u I) ?_;simp;apply aj;have av:aug x fs c=flow ws.length (cs++[(c,x)]):=by rw[uX,<-G]
   simp;refine vA (by omega) L.pt (.inr ⟨true,rfl⟩) h L.fit.len λaw ax=>?_;simp;refine⟨M-1,by omega,cs++[(c,x)],aug x fs c,aw,F',o.2,.val false (.tup (c.map sD)),.val false (.int x),by simp[cD],⟨rfl,rfl⟩,av,L,ax,⟨P',S8,Ia,by rw[length_append];exact C⟩,by simp;omega,λy hy=>?_,Y⟩;rcases mem_append.mp hy with hy|hy;.exact O y hy
   . obtain rfl:y=(c,x):=by simpa using hy
     exact⟨af,X,hc.CV,hc.nd,(Fv t.cm.nd t.cm.z hc.CV λu I v e=>by obtain⟨l1,o1,o2,h1,h2,_⟩:=hc.lv u I v e;exact⟨l1,o1,o2,h1,h2⟩).1⟩
 .have kt:qI (es.map en) (m-1)=false:=kin_no hq;simp[kt];apply aj;simp;exact k cs fs F d es (by omega) ⟨G,H,t,hq,O,hst⟩
theorem R1{c:Call}{x:Nat}{k d:P}{ρ:List Sl}:ev c (.Va x k d) ρ=match ρ[x]?with
 |some (.gF _)=>(cG (isVar k) (ev c k) ρ).bind λe ρ=>(cG (isVar d) (ev c d) ρ).bind λh ρ=>match ρ[x]?with|some (.gF m)=>lift ((m.get e).bind λo=>(gU h).map λv=>.val (.int (o.getD v))) ρ|_=>.stuck
 |_=>.stuck:=(rfl)
theorem Lk{c:Call}{x:Nat}{ρ:List Sl}:ex c n (.HB x false) ρ=match ρ[x]?with|some .aL=>.ok .next (ρ.set x (.gF (.k [])))|_=>.stuck:=(rfl)
theorem Lx{c:Call}{x:Nat}{k e:P}{ρ:List Sl}:ex c n (.dput x k e) ρ=(ev c e ρ).bind λr ρ=>match ρ[x]?with
 |some (.gF _)=>(cG (isVar k) (ev c k) ρ).bind λh ρ=>match ρ[x]?,r with
   |some (.gF m),.val (.int v)=>match m.put h v with|some t=>.ok .next (ρ.set x (.gF t))|none=>.stuck
   |_,_=>.stuck
 |_=>.stuck:=(rfl)
@[simp]theorem U7{x:Nat}{k d:P}:isVar (.Va x k d)=none:=rfl
theorem QS:(Dc.get (.k kvs) (.int i))=some ((kvs.find? λe=>decide (e.1=i)).map (·.2)):=rfl
theorem Xk{v:Int}(h:kvs.length<lim):Dc.put (.k kvs) (.int i) v=some (.k (putD kvs i v)):=by show(if _ then _ else _)=_;rw[if_pos h]
def hsD(ws:List Wy)(d:D):D:=.int (hst ws (QV d))
theorem zL{ws:List Wy}:∀{c:List au},(c.map (hst ws)).sum=aU ws c|[]=>rfl|s::c=>by rw[map_cons,List.sum_cons,zL,aU]
inductive F2s(a b:Sl)(ρ:List Sl):Prop where|mk(s:Sl)(q0:ρ=[a,b,s])(q1:fr s=true)
theorem pJ(hc:∀s∈c,s.1<ws.length)(A:c.length<=1000)(k:Q (.val (.int (aU ws c))) [.val false (bN m ws),.val false (.tup (c.map sD))]):(run Γ w (n+2) 3 [.val false (bN m ws),.val false (.tup (c.map sD))]).sat Q:=by
 refine bh (d:=f3) rfl rfl (by decide) ?_;symm;simp[f3,show c.length<=16777216 by omega];refine ie (F2s _ _) (hsD ws) ⟨.aL,rfl,rfl⟩ ?_ ?_
 . rintro d hd _⟨z,rfl,h⟩;obtain⟨s,hs,rfl⟩:=mem_map.mp hd;have y:=hc s hs;have e:ws[s.1]?=some ws[s.1]:=by simp[y]
   simp[h,sD];refine su e ?_;simp;refine⟨?_,_,rfl,rfl⟩;show D.int (hst ws (QV (sD s)))=_;rw[xj,dh e]
 rintro _⟨z,rfl,h⟩;have t:(c.map sD).map (hsD ws)=(c.map (hst ws)).map D.int:=by rw[map_map,map_map];rfl
 rw[t];have u:=zL (ws:=ws) (c:=c);generalize c.map (hst ws)=ns at*;simp[qp,u];exact k
def gv(kvs:List (Int×Int))(k:Int):Int:=((kvs.find? λe=>decide (e.1=k)).map (·.2)).getD 0
def Xi(W:Int->Int->Int):Prop:=∀k a b,W k (a+b)=W k a+W k b
def fJ(W:Int->Int->Int):List (Int×Int)->Int|[]=>0|kv::r=>W kv.1 kv.2+fJ W r
theorem zm{W:Int->Int->Int}{b:List (Int×Int)}:∀{a:List (Int×Int)},fJ W (a++b)=fJ W a+fJ W b|[]=>by simp[fJ]|x::a=>by rw[cons_append,fJ,fJ,zm];omega
theorem Aj{k v:Int}:∀{r:List (Int×Int)},k∉r.map (·.1)->(r.map λe=>if e.1=k then(e.1,v)else e)=r|[],_=>rfl|x::r,h=>by rw[map_cons,mem_cons,not_or]at h;rw[map_cons,Aj h.2,if_neg (λz=>h.1 z.symm)]
theorem zq{W:Int->Int->Int}(z:Xi W){k x:Int}:∀{r:List (Int×Int)},(r.map (·.1)).Nodup->k∈r.map (·.1)->fJ W (r.map λe=>if e.1=k then(e.1,gv r k+x)else e)=fJ W r+W k x
 |[],_,h=>by cases h|y::r,t,h=>by
   rw[map_cons,nodup_cons]at t;by_cases c:y.1=k
   . have u:gv (y::r) k=y.2:=by unfold gv;rw[find?_cons];simp[c]
     rw[u,map_cons,if_pos c,Aj (by rw[<-c];exact t.1),fJ,fJ];show W y.1 (y.2+x)+_=_;rw[z,c];omega
   . have u:gv (y::r) k=gv r k:=by unfold gv;rw[find?_cons];simp[c]
     have A:k∈r.map (·.1):=by
      rcases mem_cons.mp h with h|h;.exact absurd h.symm c
      .exact h
     rw[u,map_cons,if_neg c,fJ,fJ,zq z t.2 A];omega
theorem Q5(h:k∉r.map (·.1)):gv r k=0:=by
 unfold gv;rw[List.find?_eq_none.mpr];.rfl
 .intro x t;simp;intro e;exact h (mem_map.mpr ⟨x,t,e⟩)
theorem Xj(h:∀t∈r,0<t.2):0<=gv r k:=by unfold gv;cases e:r.find? λt=>decide (t.1=k)with|none=>simp|some x=>have:=h x (List.mem_of_find?_eq_some e);simp;omega
theorem ql{x:Int}(u:(r.map (·.1)).Nodup):((putD r k (gv r k+x)).map (·.1)).Nodup/\(putD r k (gv r k+x)).length<=r.length+1/\(∀h∈putD r k (gv r k+x),h=(k,gv r k+x)\/h∈r)/\∀W,Xi W->fJ W (putD r k (gv r k+x))=fJ W r+W k x:=by
 have B:(r.any λh=>decide (h.1=k))=true↔k∈r.map (·.1):=by rw[any_eq_true,mem_map];exact⟨λ⟨y,h1,A⟩=>⟨y,h1,by simpa using A⟩,λ⟨y,h1,A⟩=>⟨y,h1,by simpa using A⟩⟩
 unfold putD;by_cases c:k∈r.map (·.1)
 . rw[if_pos (B.mpr c)];have e:(r.map λh=>if h.1=k then(h.1,gv r k+x)else h).map (·.1)=r.map (·.1):=by rw[map_map];refine map_congr_left λy _=>?_;show(if y.1=k then _ else _:Int×Int).1=y.1;split<;>rfl
   refine⟨by rw[e];exact u,by simp,λh t=>?_,λW C=>zq C u c⟩;obtain⟨y,E,rfl⟩:=mem_map.mp t;by_cases z:y.1=k;.rw[if_pos z,z];exact .inl rfl
   .rw[if_neg z];exact .inr E
 . rw[if_neg λz=>c (B.mp z),Q5 c,Int.zero_add];refine⟨?_,by simp,λh t=>?_,λW _=>?_⟩;.rw[map_append,nodup_append];exact⟨u,by simp,λa G b H e=>c (by
      have:b=k:=by simpa using H
      rw[<-this,<-e];exact G)⟩
   . rcases mem_append.mp t with hj|hj;.exact .inr hj
     .exact .inl (mem_singleton.mp hj)
   .rw[zm];simp[fJ]
theorem Sv{v:Int}(h:r.Pairwise (λa b=>a.1<b.1))(u:∀y∈r,y.1<=k):(putD r k v).Pairwise (λa b=>a.1<b.1):=by
 unfold putD;split;.rw[List.pairwise_map];refine h.imp λ{a b}e=>?_;split<;>split<;>exact e
 .rename_i A;rw[pairwise_append];refine⟨h,by simp,λa t b B=>?_⟩;have h1:=u a t;have C:a.1≠k:=λz=>A (any_eq_true.mpr ⟨a,t,by simpa using z⟩);rw[mem_singleton.mp B];show a.1<k;omega
def UT:D->Int×Int|.tup [.int a,.int b]=>(a,b)|_=>(0,0)
@[simp]theorem adM{a b:Int}:UT (.tup [.int a,.int b])=(a,b):=rfl
structure Aw(ws:List Wy)(cs:List (List au×Int))(kvs:List (Int×Int)):Prop where
 nd:(kvs.map (·.1)).Nodup
 len:kvs.length<=cs.length
 nn:∀kv∈kvs,1<=kv.1/\0<kv.2
 key:∀kv∈kvs,∃x∈cs,kv.1=aU ws x.1
 so:kvs.Pairwise (λa b=>a.1<b.1)sm:∀W,Xi W->fJ W kvs=cB (λx=>W (aU ws x.1) x.2) cs
theorem Aw.put(h:Aw ws cs kvs){x:List au×Int}(h0:1<=aU ws x.1)(h1:0<x.2)(C:∀y∈cs,aU ws y.1<=aU ws x.1):Aw ws (cs++[x]) (putD kvs (aU ws x.1) (gv kvs (aU ws x.1)+x.2)):=by
 obtain⟨E,H,A,G⟩:=ql (k:=aU ws x.1) (x:=x.2) h.nd;have I:=h.len;refine⟨E,by simp;omega,λu t=>?_,λu t=>?_,Sv h.so λu t=>?_,λW B=>?_⟩
 . rcases A u t with e|e;.have:=Xj (k:=aU ws x.1) λu t=>(h.nn u t).2;rw[e];exact⟨h0,by show 0<_+_;omega⟩
   .exact h.nn u e
 . rcases A u t with e|e;.exact⟨x,by simp,by rw[e]⟩
   .obtain⟨y,z,e⟩:=h.key u e;exact⟨y,by simp[z],e⟩
 .obtain⟨y,z,e⟩:=h.key u t;rw[e];exact C y z
 .rw[G W B,h.sm W B,kI]
theorem DK{ws:List Wy}{b:Int}(h0:∀v∈ws,0<=v.h)(t:∀v∈ws,v.h<=1000000):∀{c:List au}{a:Int},il ws b c a->aU ws c<=1000000*(c.length:Int)
 |[],_,_=>by simp[aU]|s::c,a,⟨v,e,_,u⟩=>by
   have h1:=DK h0 t u;have y:=t v (mem_of_getElem? e);have z:=h0 v (mem_of_getElem? e);have A:hst ws s<=1000000:=by rw[dh e];unfold hsp;split<;>omega
   rw[aU,length_cons];omega
theorem Aw.few(h:Aw ws cs kvs)(y:∀x∈cs,Z3 m ws x)(z:ws.length<=12):kvs.length<=531441:=by
 have h1:=gZ (l2:=(qF ws.length).map λe=>jH ws e/7) h.nd λk t=>by obtain⟨A,u,rfl⟩:=mem_map.mp t;obtain⟨x,B,e⟩:=h.key A u;obtain⟨c1,c2,c3,c4,_⟩:=y x B;refine mem_map.mpr ⟨Bm ws.length x.1,by have:=pA (e:=Bm ws.length x.1);rwa[sX]at this,?_⟩;rw[tO c3 c4,e];unfold wV;omega
 rw[length_map,length_map,qu]at h1;have C:3^ws.length<=3^12:=Nat.pow_le_pow_right (by decide) z;have E:(3:Nat)^12=531441:=by decide
 omega
@[simp]theorem Wk{kvs:List (Int×Int)}:blt .Hx [.dq (.k kvs)]=if kvs.length<=16777216/\kvs.Pairwise (λa b=>a.1<b.1)then some (.own (kvs.map cX))else none:=rfl
def t0(v:Wy):Bool:=decide (v.s=0\/v.t=0)
def t1(m:Int)(v:Wy):Bool:=decide (v.s=m-1\/v.t=m-1)
def sA(v:Wy):Int:=if v.s=0 then v.h else-v.h
def sB(m:Int)(v:Wy):Int:=if v.t=m-1 then v.h else-v.h
def lE(m:Int)(ws:List Wy):List Wy:=ws.filter λv=>t0 v&&t1 m v
def lA(m:Int)(ws:List Wy):List Wy:=ws.filter λv=>t0 v&&!t1 m v
def lB(m:Int)(ws:List Wy):List Wy:=ws.filter λv=>!t0 v&&t1 m v
def lC(m:Int)(ws:List Wy):List Wy:=ws.filter λv=>!t0 v&&!t1 m v
def ym(m:Int)(ws:List Wy):List Int:=(lE m ws).map sA++(lA m ws).flatMap λa=>(lB m ws).flatMap λb=>(sA a+sB m b)::(lC m ws).flatMap λc=>[sA a+(c.h+sB m b),sA a+(-c.h+sB m b)]
theorem j8{e t:Type}{f:e->List t}{k:Nat}:∀{l:List e},(∀x∈l,(f x).length=k)->(l.flatMap f).length=l.length*k|[],_=>by simp|x::l,h=>by rw[List.flatMap_cons,length_append,j8 λy u=>h y (by simp[u]),h x (by simp),length_cons,Nat.succ_mul];omega
theorem FP:(ym m ws).length=(lE m ws).length+(lA m ws).length*((lB m ws).length*((lC m ws).length*2+1)):=by unfold ym;rw[length_append,length_map,j8 (k:=(lB m ws).length*((lC m ws).length*2+1)) λa _=>j8 λb _=>by rw[length_cons,j8 (k:=2) λc _=>rfl]]
theorem vK{m:Int}:∀{ws:List Wy},(lE m ws).length+(lA m ws).length+(lB m ws).length+(lC m ws).length=ws.length|[]=>rfl|v::ws=>by have e:=vK (m:=m) (ws:=ws);unfold lE lA lB lC at*;rw[filter_cons,filter_cons,filter_cons,filter_cons];cases t0 v<;>cases t1 m v<;>simp<;>omega
theorem K9:∀a,a<7->∀b,b<7->∀c,c<7->∀e,e<7->e+a+b+c<=6->e+a*(b*(c*2+1))<=31:=by decide+kernel
theorem Om(h:v.Ok m)(e:frm v f=0):hsp v f=sA v/\t0 v=true:=by have:=h.ne;unfold sA t0;cases f with|true=>have e:v.s=0:=e;exact⟨by rw[if_pos e];rfl,by simp[e]⟩|false=>have e:v.t=0:=e;exact⟨by rw[if_neg (by omega)];rfl,by simp[e]⟩
theorem RP(h:v.Ok m)(e:too v f=m-1):hsp v f=sB m v/\t1 m v=true:=by have:=h.ne;unfold sB t1;cases f with|true=>have e:v.t=m-1:=e;exact⟨by rw[if_pos e];rfl,by simp[e]⟩|false=>have e:v.s=m-1:=e;exact⟨by rw[if_neg (by omega)];rfl,by simp[e]⟩
theorem Pj(h1:frm v f≠0)(e:too v f≠0):t0 v=false:=by unfold t0;cases f with|true=>have h1:v.s≠0:=h1;have e:v.t≠0:=e;simp[h1,e]|false=>have h1:v.t≠0:=h1;have e:v.s≠0:=e;simp[h1,e]
theorem Ox(h1:frm v f≠m-1)(e:too v f≠m-1):t1 m v=false:=by unfold t1;cases f with|true=>have h1:v.s≠m-1:=h1;have e:v.t≠m-1:=e;simp[h1,e]|false=>have h1:v.t≠m-1:=h1;have e:v.s≠m-1:=e;simp[h1,e]
theorem R5(y:mQ m ws)(m4:m<=4):∀{c:List au},il ws (m-1) c 0->(j4 ws c 0).Nodup->aU ws c∈ym m ws
 |[],H,_=>by have:=y.m0;have H:(0:Int)=m-1:=H;omega|[s],⟨v,e,B,t⟩,_=>by have t:too v s.2=m-1:=t;have A:=mem_of_getElem? e;have o:=y.ok v A;have a:=Om o B;have b:=RP o t;rw[aU,dh e,a.1];unfold ym;refine mem_append.mpr (.inl (mem_map.mpr ⟨v,List.mem_filter.mpr ⟨A,by rw[a.2,b.2];rfl⟩,?_⟩));show _=sA v+0;omega|[s,s2],⟨v,e,B,u,C,z,t⟩,nd=>by
   have t:too u s2.2=m-1:=t;have A:=mem_of_getElem? e;have G:=mem_of_getElem? C;have o:=y.ok v A;have U:=y.ok u G;have a:=Om o B;have b:=RP U t;have I:gH ws s=too v s.2:=by unfold gH;rw[e]
   have E:gH ws s2=too u s2.2:=by unfold gH;rw[C]
   simp[j4,I,E,t]at nd;have m0:=y.m0;have J:t1 m v=false:=Ox (f:=s.2) (by rw[B];omega) (by omega);have b2:t0 u=false:=Pj (f:=s2.2) (by rw[z];omega) (by rw[t];omega);rw[aU,aU,dh e,dh C,a.1,b.1];unfold ym;refine mem_append.mpr (.inr (mem_flatMap.mpr ⟨v,List.mem_filter.mpr ⟨A,by rw[a.2,J];rfl⟩,mem_flatMap.mpr ⟨u,List.mem_filter.mpr ⟨G,by rw[b.2,b2];rfl⟩,mem_cons.mpr (.inl ?_)⟩⟩));show sA v+(sB m u+0)=_;omega|[s,s2,s3],⟨v,e,B,u,C,z,x,L,M,t⟩,nd=>by
   have t:too x s3.2=m-1:=t;have A:=mem_of_getElem? e;have G:=mem_of_getElem? C;have W:=mem_of_getElem? L;have o:=y.ok v A;have U:=y.ok u G;have Y:=y.ok x W;have a:=Om o B;have b:=RP Y t;have I:gH ws s=too v s.2:=by unfold gH;rw[e]
   have E:gH ws s2=too u s2.2:=by unfold gH;rw[C]
   have O:gH ws s3=too x s3.2:=by unfold gH;rw[L]
   simp[j4,I,E,O,t]at nd;have m0:=y.m0;have J:t1 m v=false:=Ox (f:=s.2) (by rw[B];omega) (by omega);have b2:t0 x=false:=Pj (f:=s3.2) (by rw[M];omega) (by rw[t];omega);have c1:t0 u=false:=Pj (f:=s2.2) (by rw[z];omega) (by omega);have c2:t1 m u=false:=Ox (f:=s2.2) (by rw[z];omega) (by omega);have hc:hsp u s2.2=u.h\/hsp u s2.2=-u.h:=by unfold hsp;split<;>simp
   rw[aU,aU,aU,dh e,dh C,dh L,a.1,b.1];unfold ym;refine mem_append.mpr (.inr (mem_flatMap.mpr ⟨v,List.mem_filter.mpr ⟨A,by rw[a.2,J];rfl⟩,mem_flatMap.mpr ⟨x,List.mem_filter.mpr ⟨W,by rw[b.2,b2];rfl⟩,mem_cons.mpr (.inr (mem_flatMap.mpr ⟨u,List.mem_filter.mpr ⟨G,by rw[c1,c2];rfl⟩,?_⟩))⟩⟩));show sA v+(hsp u s2.2+(sB m x+0))∈_;rw[Int.add_zero];rcases hc with hc|hc<;>rw[hc]<;>simp|s::s2::s3::s4::c,H,nd=>by
   have h1:=xr (HN.of y) H ⟨by omega,by have:=y.m0;omega⟩;have X:=gZ (l2:=(List.range m.toNat).map λ(i:Nat)=>(i:Int)) nd λq Z=>by have:=h1 q Z;exact mem_map.mpr ⟨q.toNat,List.mem_range.mpr (by omega),by omega⟩
   rw[tQ]at X;simp at X;omega
theorem Aw.ab2(h:Aw ws cs kvs)(y:∀x∈cs,Z3 m ws x)(z:mQ m ws)(A:m<=4)(E:ws.length<=6):kvs.length<=31:=by
 have h1:=gZ (l2:=ym m ws) h.nd λk t=>by obtain⟨B,u,rfl⟩:=mem_map.mp t;obtain⟨x,C,e⟩:=h.key B u;obtain⟨_,_,c3,_,c5⟩:=y x C;rw[e];exact R5 z A c3 c5
 rw[length_map,FP]at h1;have G:=vK (m:=m) (ws:=ws);have H:=K9 (lA m ws).length (by omega) (lB m ws).length (by omega) (lC m ws).length (by omega) (lE m ws).length (by omega) (by omega);omega
inductive JBn(m:Int)(ws:List Wy)(cs:List (List au×Int))(r:List D)(ρ:List Sl):Prop where|mk(cR us:List (List au×Int))(kvs:List (Int×Int))(s2 s3 s4:Sl)(q0:ρ=[.val false (bN m ws),.gF (.k kvs),s2,s3,s4])(q1:A3 (fr s2=true) (fr s3=true) (fr s4=true))(q2:r=us.map cD)(q3:cR++us=cs)(q4:Aw ws cR kvs)
theorem sG(Y:13286250<=w)(h:mQ m ws)(k:∀cs fs F d es kvs,(kvs.length<=531441/\(m<=4->ws.length<=6->kvs.length<=31))->Ends m ws cs fs F d es->Aw ws cs kvs->kvs.Pairwise (λa b=>a.1<b.1)->(∀G∈kvs,G.1<=5000000)->Q (.own (kvs.map cX)) [.val false (bN m ws)]):(run Γ w (n+5) 9 [.val false (bN m ws)]).sat Q:=by
 refine bh (d:=f9) rfl rfl (by decide) ?_;symm;simp[f9,Lk];apply aj;simp;refine wz Y (HN.of h) (λv B=>(h.ok v B).r0) λcs fs F d es hl z=>?_;simp;refine bK (JBn m ws cs) ?_ ?_ ⟨[],cs,[],.aL,.aL,.aL,rfl,⟨rfl,rfl,rfl⟩,rfl,rfl,⟨by simp,by simp,by simp,by simp,by simp,λW _=>rfl⟩⟩;.rintro d r _⟨C,A,kvs,s2,s3,s4,rfl,⟨H,O,U⟩,hr,hd,t⟩;cases A with|nil=>cases hr|cons u A=>
     obtain⟨rfl,rfl⟩:d=cD u/\r=A.map cD:=by simpa using hr
     have I:u∈cs:=by rw[<-hd];simp
     have E:=z.ck u I;have Z:C.length<=cs.length:=by rw[<-hd];simp
     have J:=t.len;have L:(C++[u])++A=cs:=by rw[append_assoc];exact hd
     simp[cD,H,O];apply aj;simp;refine pJ E.2.1 (by have:=E.1;omega) ?_;simp[U];apply aj;simp[Lx,R1,QS];rw[Xk (by show _<16777216;omega)];simp;refine⟨C++[u],A,_,_,_,_,rfl,⟨rfl,rfl,rfl⟩,rfl,L,t.put ((z.iv.nn λv B=>(h.ok v B).h0).2 u I) (z.iv.ch u I).2.1 λy hy=>?_⟩;have hst:=z.st.1;rw[<-hd,pairwise_append]at hst;exact hst.2.2 y hy u (by simp)
 . rintro _⟨C,A,kvs,s2,s3,s4,rfl,⟨H,O,U⟩,hr,hd,t⟩;have:A=[]:=by cases A with|nil=>rfl|cons _ _=>cases hr
   subst this;rw[append_nil]at hd;subst hd;have J:=t.len;simp;apply aj;simp[show kvs.length<=16777216 by omega,t.so];refine k C fs F d es kvs ⟨t.few z.ck (HN.of h).len,λm4 l6=>t.ab2 z.ck h m4 l6⟩ z t t.so λG M=>?_;obtain⟨x,X,e⟩:=t.key G M;have h1:=DK (λv B=>((HN.of h).ok v B).2.2) (λv B=>(h.ok v B).h1) (z.ck x X).2.2.1;have H:=(z.ck x X).1;rw[e];omega
def vt(T k v:Int):Int:=if k<=T then v*(T-k+1)else 0
def gt(T k v:Int):Int:=if k<=T then v else 0
theorem Hb{T:Int}:Xi (vt T):=λk a b=>by
 unfold vt;split;.exact Int.add_mul ..
 .rfl
theorem GP{T:Int}:Xi (gt T):=λk a b=>by unfold gt;split<;>rfl
def dj(m:Int)(ws:List Wy)(cs:List (List au×Int)):Prop:=(∀v∈ws,1<=v.h)/\∃fs F d es,Ends m ws cs fs F d es
def Rt(ws:List Wy)(cs:List (List au×Int))(T:Int):Int:=cB (λx=>gt T (aU ws x.1) x.2) cs
def Tot(cs:List (List au×Int)):Int:=cB (λx=>x.2) cs
theorem mZ.uniq{T v e:Int}(h:mZ m ws T v)(h':mZ m ws T e):v=e:=by obtain⟨q,t,u,y⟩:=h.ex;obtain⟨r,r0,r1,z⟩:=h'.ex;have:=h.le r r0 r1;have:=h'.le q t u;omega
theorem dj.least{m:Int}{ws:List Wy}{cs:List (List au×Int)}(h:dj m ws cs){T:Int}(h0:0<=T):mZ m ws T (val ws T cs):=by obtain⟨t,fs,F,d,es,e⟩:=h;exact e.iv.least e.cm e.no h0
theorem uW{H K:List au×Int->Int}:∀{cs:List (List au×Int)},cB (λx=>H x-K x) cs=cB H cs-cB K cs|[]=>rfl|x::cs=>by rw[cB,cB,cB,uW];omega
theorem tR{H K:List au×Int->Int}:∀{cs:List (List au×Int)},(∀x∈cs,H x<=K x)->cB H cs<=cB K cs|[],_=>Int.le_refl _|x::cs,h=>by have h1:=h x (by simp);have t:=tR (H:=H) (K:=K) (cs:=cs) λy e=>h y (by simp[e]);rw[cB,cB];omega
theorem qj{T:Int}:Rt ws cs T=val ws T cs-val ws (T-1) cs:=by
 unfold Rt val;rw[<-uW];refine nQ λx _=>?_;show gt T (aU ws x.1) x.2=vt T (aU ws x.1) x.2-vt (T-1) (aU ws x.1) x.2;unfold gt vt;by_cases c:aU ws x.1<=T-1;.rw[if_pos (by omega),if_pos (by omega),if_pos c,<-Int.mul_sub,show T-aU ws x.1+1-(T-1-aU ws x.1+1)=1 by omega,mul_one]
 . by_cases c2:aU ws x.1<=T;.rw[if_pos c2,if_pos c2,if_neg c,show T-aU ws x.1+1=1 by omega,mul_one];omega
   .rw[if_neg c2,if_neg c2,if_neg c];rfl
theorem dj.nn{m:Int}{ws:List Wy}{cs:List (List au×Int)}(h:dj m ws cs):∀x∈cs,1<=aU ws x.1/\0<x.2:=by obtain⟨e,fs,F,d,es,t⟩:=h;exact λx u=>⟨(t.iv.nn e).2 x u,(t.iv.ch x u).2.1⟩
theorem dj.cM(h:dj m ws cs){T:Int}(h0:T<=0):val ws T cs=0:=by
 have:val ws T cs=cB (λ_=>0) cs:=nQ λx e=>by have:=(h.nn x e).1;show vt T (aU ws x.1) x.2=0;unfold vt;rw[if_neg (by omega)]
 rw[this];clear this h;induction cs with|nil=>rfl|cons x cs t=>rw[cB,t];rfl
theorem dj.val_eq{e:List (List au×Int)}(h:dj m ws cs)(h':dj m ws e)(T:Int):val ws T cs=val ws T e:=by
 by_cases c:0<=T;.exact(h.least c).uniq (h'.least c)
 .rw[h.cM (by omega),h'.cM (by omega)]
theorem dj.adG{e:List (List au×Int)}(h:dj m ws cs)(h':dj m ws e)(T:Int):Rt ws cs T=Rt ws e T:=by rw[qj,qj,h.val_eq h',h.val_eq h']
theorem dj.mono(h:dj m ws cs){T U:Int}(t:T<=U):Rt ws cs T<=Rt ws cs U:=tR λx e=>by have:=(h.nn x e).2;unfold gt;split<;>split<;>omega
theorem dj.ad9(h:dj m ws cs){T:Int}:Rt ws cs T<=Tot cs:=tR λx e=>by have:=(h.nn x e).2;unfold gt;split<;>omega
theorem dj.adX(h:dj m ws cs){T:Int}:0<=Rt ws cs T:=by
 have h1:=h.mono (T:=min T 0) (U:=T) (by omega);have:Rt ws cs (min T 0)=0:=by rw[qj,h.cM (by omega),h.cM (by omega)];rfl
 omega
theorem qY{x:List au×Int}(hc:∀s∈x.1,s.1<ws.length)(e:x.1.length<=1000)(k:Q (.val (.int (aU ws x.1))) [.val false (bN m ws),.val false (cD x)]):(run Γ w (n+1+1+1) 10 [.val false (bN m ws),.val false (cD x)]).sat Q:=by refine bh (d:=f10) rfl rfl (by decide) ?_;symm;simp[f10,cD];refine pJ hc e ?_;simp;exact k
def xG(ws:List Wy)(T:Int)(x:List au×Int):Bool:=decide (aU ws x.1<=T)
def unC(d:D):List au:=match d with|.tup [.tup ss,.int _]=>ss.map QV|_=>[]
theorem wX(x:List au×Int):unC (cD x)=x.1:=by show(x.1.map sD).map QV=x.1;rw[map_map];exact(map_congr_left λs _=>xj).trans (List.map_id _)
def gT(ws:List Wy)(T:Int)(d:D):Option D:=if aU ws (unC d)<=T then some d else none
theorem Ew{ws:List Wy}{T:Int}:∀cs:List (List au×Int),(cs.map cD).filterMap (gT ws T)=(cs.filter (xG ws T)).map cD|[]=>rfl|x::cs=>by rw[map_cons,filterMap_cons,filter_cons,Ew cs];unfold gT xG;rw[wX];by_cases e:aU ws x.1<=T<;>simp[e]
inductive F2c(a b:Sl)(ρ:List Sl):Prop where|mk(s:Sl)(q0:ρ=[a,b,s])(q1:fr s=true)
theorem vh{T:Int}(u:13286250<=w)(h:mQ m ws)(k:∀cs fs F d es,cs.length<=13286050->Ends m ws cs fs F d es->Q (.own ((cs.filter (xG ws T)).map cD)) [.val false (bN m ws),.val false (.int T)]):(run Γ w (n+5) 11 [.val false (bN m ws),.val false (.int T)]).sat Q:=by
 refine bh (d:=f11) rfl rfl (by decide) ?_;symm;simp[f11];refine wz u (HN.of h) (λv y=>(h.ok v y).r0) λcs fs F d es z t=>?_;simp[show cs.length<=lim by show _<=16777216;omega];refine lV (F2c _ _) (gT ws T) ⟨.aL,rfl,rfl⟩ ?_ ?_
 . rintro d hd _⟨s,rfl,hs⟩;obtain⟨x,A,rfl⟩:=mem_map.mp hd;obtain⟨c1,c2,_⟩:=t.ck x A;simp[hs];refine qY c2 (by omega) ?_;by_cases e:aU ws x.1<=T;.simp[e,gT,wX];exact⟨_,rfl,rfl⟩
   .simp[e,gT,wX];exact⟨_,rfl,rfl⟩
 rintro _⟨s,rfl,hs⟩;rw[Ew];simp;exact k cs fs F d es z t
theorem Bx(e:ws[s.1]?=some v)(k:Q (.val (.tup [.int (frm v s.2),.int (too v s.2),.int (hsp v s.2)])) [.val false (bN m ws),.val false (sD s)]):(run Γ w (n+1) 17 [.val false (bN m ws),.val false (sD s)]).sat Q:=by obtain⟨j,f⟩:=s;have h:at' (ws.map Wy.d) (j:Int)=some v.d:=fH (by simpa using e);refine bh (d:=Zn) rfl rfl (by decide) ?_;symm;simp[Zn,sD,dF,h,Wy.d];apply aj;cases f with|true=>simp;apply aj;simp;exact k|false=>simp;apply aj;simp;exact k
inductive JW(m:Int)(ws:List Wy)(a1:Sl)(L:Int)(r:List D)(ρ:List Sl):Prop where|mk(us:List au)(ps:List Int)(p l:Int)(s4 s5 s6 s7:Sl)(q0:ρ=[.val false (bN m ws),a1,.own false (ps.map D.int++[D.int p]),.val false (.int l),s4,s5,s6,s7])(q1:A4 (fr s4=true) (fr s5=true) (fr s6=true) (fr s7=true))(q2:r=us.map sD)(q3:l+aU ws us=L)(q4:(∀s∈us,s.1<ws.length))(q5:il ws (m-1) us p)(q6:(ps++j4 ws us p).Nodup)(q7:us.length+ps.length<=5)
theorem oE(hw:ws.length<=12)(U:c.length<=5)(hc:∀s∈c,s.1<ws.length)(W:il ws (m-1) c 0)(X:(j4 ws c 0).Nodup)(k:Q (.val (.int (aU ws c))) [.val false (bN m ws),.val false (.tup (c.map sD))]):(run Γ w (n+1+1) 18 [.val false (bN m ws),.val false (.tup (c.map sD))]).sat Q:=by
 refine bh (d:=Ze) rfl rfl (by decide) ?_;symm;simp[Ze];apply aj;simp;apply aj;simp;refine bK (JW m ws (.val false (.tup (c.map sD))) (aU ws c)) ?_ ?_ ⟨c,[],0,0,.aL,.aL,.aL,.aL,rfl,⟨rfl,rfl,rfl,rfl⟩,rfl,by omega,hc,W,X,by simpa using U⟩;.rintro d r _⟨t,ps,p,l,s4,s5,s6,s7,rfl,⟨O,B,C,E⟩,hr,G,hs,A,h,y⟩;cases t with|nil=>cases hr|cons s t=>
     obtain⟨rfl,rfl⟩:d=sD s/\r=t.map sD:=by simpa using hr
     obtain⟨v,ev,Y,A⟩:=A;have hj:=hs s (by simp);have ht:gH ws s=too v s.2:=by unfold gH;rw[ev]
     have Z:hst ws s=hsp v s.2:=dh ev;rw[j4,ht]at h;have H:too v s.2∉ps++[p]:=λz=>by
      have e:ps++p::j4 ws t (too v s.2)=(ps++[p])++j4 ws t (too v s.2):=by simp
      rw[e,nodup_append]at h;refine h.2.2 _ z (too v s.2) ?_ rfl;cases t<;>simp[j4]
     have I:¬((s.1:Int)<0):=by omega
     have J:¬((ws.length:Int)<=(s.1:Int)):=by omega
     have i0:xF (sD s) (.int 0)=some (.val (.int s.1)):=rfl;simp[O,B,C,E];apply aj;simp[i0,I,J];apply aj;simp;refine Bx ev ?_;simp[B,C,E,Y];apply aj;have L:cm .inn (.int (too v s.2)) (.lst (ps.map D.int++[D.int p]))=some false:=by have:=Rh (S:=ps++[p]) (i:=too v s.2);rw[map_append]at this;refine this.trans ?_;simp[H]
     simp[jw,L];apply aj;simp[show ps.length+1<lim by show _<16777216;simp at y;omega];apply aj;simp;rw[aU,Z]at G;exact⟨t,ps++[p],too v s.2,l+hsp v s.2,.val false (sD s),.val false (.int p),.val false (.int (too v s.2)),.val false (.int (hsp v s.2)),by simp,⟨rfl,rfl,rfl,rfl⟩,rfl,by omega,λu hu=>hs u (by simp[hu]),A,by simpa using h,by simp at y ⊢;omega⟩
 .rintro _⟨t,ps,p,l,s4,s5,s6,s7,rfl,⟨O,B,C,E⟩,hr,G,hs,A,h,y⟩;cases t with|cons s t=>cases hr|nil=>
     have M:p=m-1:=A;have hL:l=aU ws c:=by rw[<-G];simp[aU]
     subst M;subst hL;simp;apply aj;simp[jw];apply aj;simp;exact k
def WR(d:D):D:=.int (UT d).1
inductive F5c(a b c e f:Sl)(ρ:List Sl):Prop where|mk(s:Sl)(q0:ρ=[a,b,c,e,f,s])(q1:fr s=true)
theorem Ej{u:Int}(H:13286250<=w)(h:mQ m ws)(I:∀T ns u k,0<=T->T<=2000000000000000000->Q (.val (.int T)) [.pot true ns u k,.val false (bN m ws)]):(run Γ w (n+6) 16 [.pot true ns u k,.val false (bN m ws)]).sat Q:=by
 refine bh (d:=Zj) rfl rfl (by decide) ?_;symm;simp[Zj];refine sG H h λcs fs F d es kvs hk hE J hs M=>?_;simp[show kvs.length<=lim by show _<=16777216;omega];refine ie (F5c _ _ _ _ _) WR ⟨.aL,rfl,rfl⟩ ?_ ?_;.rintro d hd _⟨s,rfl,hs⟩;obtain⟨x,z,rfl⟩:=mem_map.mp hd;simp[hs,cX];exact⟨rfl,_,rfl,rfl⟩
 rintro _⟨s,rfl,hs⟩;have e:(kvs.map cX).map WR=(kvs.map (·.1)).map D.int:=by rw[map_map,map_map];rfl
 rw[e];have O:∀l∈kvs.map (·.1)++[(12:Int)],0<=l/\l<=5000000:=λl hl=>by
  rcases mem_append.mp hl with hl|hl;.obtain⟨A,t,rfl⟩:=mem_map.mp hl;exact⟨by have:=(J.nn A t).1;omega,M A t⟩
  .rw[mem_singleton.mp hl];decide
 have B:(kvs.map (·.1)++[(12:Int)]).length<=531442:=by simp;omega
 have C:(kvs.map (·.1)).map D.int++[D.int 12]=(kvs.map (·.1)++[(12:Int)]).map D.int:=by simp
 have U:0<(kvs.map (·.1)++[(12:Int)]).length:=by simp
 simp only[C];refine⟨by rw[length_map,length_map];show _<=16777216;omega,?_⟩;clear C;generalize kvs.map (·.1)++[(12:Int)]=L at*;simp;apply aj;simp;refine bM (m:=(L.length:Int)) (by omega) (by show(L.length:Int)<1606938044258990275541962092341162602522202993782792835301376;omega) λx ns u k x0 W=>?_;obtain⟨j,rfl⟩:∃j:Nat,x=j:=⟨x.toNat,by omega⟩;have E:j<L.length:=by omega
 have G:at' (L.map D.int) (j:Int)=some (.int L[j]):=fH (by simp[E]);obtain⟨X,Y⟩:=O L[j] (getElem_mem E);generalize L[j]=l at G X Y;simp[G];apply aj;simp;refine bM (by decide) (by decide) λa ns u k a0 a1=>?_;simp;refine bM (by decide) (by decide) λb ns u k b0 b1=>?_;simp;apply aj;simp;refine bM (by decide) (by decide) λc ns u k c0 c1=>?_;simp;refine⟨λ_=>?_,by decide⟩;symm;simp;refine bM (by decide) (by decide) λx ns u k x0 W=>?_;have z:∃y:Int,at' [D.int l,D.int (if 1<l then l-1 else 0),D.int (l+a),D.int b,D.int (2000000000000000000-c)] x=some (.int y)/\0<=y/\y<=2000000000000000000:=by
  have:x=0\/x=1\/x=2\/x=3\/x=4:=by omega
  rcases this with rfl|rfl|rfl|rfl|rfl;.exact⟨_,rfl,by omega,by omega⟩
  .exact⟨_,rfl,by split<;>omega,by split<;>omega⟩
  .exact⟨_,rfl,by omega,by omega⟩
  .exact⟨_,rfl,by omega,by omega⟩
  .exact⟨_,rfl,by omega,by omega⟩
 obtain⟨y,Z,y0,y1⟩:=z;simp[Z];exact I y _ _ _ y0 y1
theorem lM(k:Q (.val (.bl true)) [.val false (.int i)]):(run Γ w (n+1) 20 [.val false (.int i)]).sat Q:=by refine bh (d:=f20) rfl rfl (by decide) ?_;symm;simp[f20];exact k
inductive JC(a0:Sl)(r:List D)(ρ:List Sl):Prop where|mk(us:List (List au×Int))(s1 s2:Sl)(q0:ρ=[a0,s1,s2])(q1:(fr s1=true/\fr s2=true))(q2:r=us.map cD)
inductive JS(a0 a1:Sl)(r:List D)(ρ:List Sl):Prop where|mk(us:List au)(s2:Sl)(q0:ρ=[a0,a1,s2])(q1:fr s2=true)(q2:r=us.map sD)
theorem v7(t:cs.length<=13286050)(u:∀x∈cs,x.1.length<=5)(k:Q (.val (.bl true)) [.own true (cs.map cD)]):(run Γ w (n+1+1) 21 [.own true (cs.map cD)]).sat Q:=by
 refine bh (d:=Z1) rfl rfl (by decide) ?_;symm;simp[Z1];apply aj;simp;refine bK (JC (.lent (cs.map cD))) ?_ ?_ ⟨cs,.aL,.aL,rfl,⟨rfl,rfl⟩,rfl⟩;.rintro d r _⟨h,s1,s2,rfl,⟨h1,e⟩,hr⟩;cases h with|nil=>cases hr|cons x h=>
     obtain⟨rfl,rfl⟩:d=cD x/\r=h.map cD:=by simpa using hr
     simp[h1,e,cD];apply aj;simp[cz];apply aj;simp;refine lM ?_;simp;apply aj;simp;refine bK (JS (.lent (cs.map cD)) (.val false (.tup [.tup (x.1.map sD),.int x.2]))) ?_ ?_ ⟨x.1,s2,rfl,e,rfl⟩;.rintro d r _⟨vs,s2,rfl,e,hr⟩;cases vs with|nil=>cases hr|cons s vs=>
         obtain⟨rfl,rfl⟩:d=sD s/\r=vs.map sD:=by simpa using hr
         simp[e,sD,dF];apply aj;simp[cz];apply aj;simp;refine lM ?_;simp[cz];exact⟨vs,_,rfl,rfl,rfl⟩
     .rintro _⟨vs,s2,rfl,e,hr⟩;simp;exact⟨h,_,_,rfl,⟨rfl,e⟩,rfl⟩
 .rintro _⟨h,s1,s2,rfl,_,hr⟩;simp;apply aj;simp;exact k
theorem Wb{T:Int}:∀{l:List (Int×Int)},(∀e∈l,0<e.2)->0<=fJ (gt T) l|[],_=>Int.le_refl _|x::l,h=>by have h1:=h x (by simp);have u:=Wb (T:=T) (l:=l) λy t=>h y (by simp[t]);show 0<=gt T x.1 x.2+fJ (gt T) l;unfold gt at*;split<;>omega
theorem uw{T:Int}:∀{l:List (Int×Int)},(∀e∈l,T<e.1)->fJ (gt T) l=0|[],_=>rfl|x::l,h=>by have h1:=h x (by simp);have t:=uw (T:=T) (l:=l) λy u=>h y (by simp[u]);show gt T x.1 x.2+fJ (gt T) l=0;rw[t];unfold gt;rw[if_neg (by omega)];rfl
theorem rW{x:Int×Int}{l:List (Int×Int)}(h:(x::l).Pairwise (λa b=>a.1<b.1)):fJ (gt x.1) (x::l)=x.2:=by have h:=List.pairwise_cons.mp h;show gt x.1 x.1 x.2+fJ (gt x.1) l=_;rw[uw h.1];unfold gt;rw[if_pos (Int.le_refl _)];omega
theorem lN:∀{a b:List (Int×Int)},a.Pairwise (λa b=>a.1<b.1)->b.Pairwise (λa b=>a.1<b.1)->(∀t∈a,0<t.2)->(∀t∈b,0<t.2)->(∀T,fJ (gt T) a=fJ (gt T) b)->a=b
 |[],[],_,_,_,_,_=>rfl|[],y::b,_,u,_,B,h=>by have h1:=h y.1;rw[rW u]at h1;have H:=B y (by simp);have I:fJ (gt y.1) []=0:=rfl;omega|x::a,[],A,_,pa,_,h=>by have h1:=h x.1;rw[rW A]at h1;have H:=pa x (by simp);have I:fJ (gt x.1) []=0:=rfl;omega|x::a,y::b,A,u,pa,B,h=>by
   have M:=pa x (by simp);have O:=B y (by simp);have C:=List.pairwise_cons.mp A;have E:=List.pairwise_cons.mp u;have lt:¬ x.1<y.1:=λz=>by
    have h1:=h x.1;rw[rW A,uw λt hkv=>?_]at h1;.omega
    . rcases mem_cons.mp hkv with rfl|hkv;.exact z
      .have:=E.1 t hkv;omega
   have J:¬ y.1<x.1:=λz=>by
    have h1:=h y.1;rw[rW u,uw λt hkv=>?_]at h1;.omega
    . rcases mem_cons.mp hkv with rfl|hkv;.exact z
      .have:=C.1 t hkv;omega
   have G:x.1=y.1:=by omega
   have L:x.2=y.2:=by have h1:=h x.1;rw[rW A,G,rW u]at h1;exact h1
   have e:x=y:=Prod.ext_iff.mpr ⟨G,L⟩;subst e;rw[lN C.2 E.2 (λt z=>pa t (by simp[z])) (λt z=>B t (by simp[z])) λT=>?_];have h1:gt T x.1 x.2+fJ (gt T) a=gt T x.1 x.2+fJ (gt T) b:=h T;omega
theorem FZ{T:Int}:∀{l:List (Int×Int)},fJ (gt T) l=fJ (vt T) l-fJ (vt (T-1)) l
 |[]=>rfl|x::l=>by
   have e:=FZ (T:=T) (l:=l);have h:fJ (gt T) (x::l)=gt T x.1 x.2+fJ (gt T) l:=rfl;have t:fJ (vt T) (x::l)=vt T x.1 x.2+fJ (vt T) l:=rfl;have u:fJ (vt (T-1)) (x::l)=vt (T-1) x.1 x.2+fJ (vt (T-1)) l:=rfl;have y:gt T x.1 x.2=vt T x.1 x.2-vt (T-1) x.1 x.2:=by
    unfold gt vt;by_cases c:x.1<=T
    . by_cases d:x.1<=T-1;.rw[if_pos c,if_pos c,if_pos d,<-Int.mul_sub,show T-x.1+1-(T-1-x.1+1)=1 by omega,mul_one]
      .rw[if_pos c,if_pos c,if_neg d,show T-x.1+1=1 by omega,mul_one];omega
    .rw[if_neg c,if_neg c,if_neg (by omega)];rfl
   omega
theorem xf{T:Int}:∀{l:List (Int×Int)},(∀e∈l,T<e.1)->fJ (vt T) l=0|[],_=>rfl|x::l,h=>by have h1:=h x (by simp);have t:=xf (T:=T) (l:=l) λy u=>h y (by simp[u]);show vt T x.1 x.2+fJ (vt T) l=0;rw[t];unfold vt;rw[if_neg (by omega)];rfl
theorem Xh{t:List (List au×Int)}{e:List (Int×Int)}(E:dj m ws cs)(B:dj m ws t)(A:Aw ws cs kvs)(h:Aw ws t e):kvs=e:=by
 have C:∀T,fJ (vt T) kvs=fJ (vt T) e:=λT=>by
  by_cases c:0<=T;.have G:fJ (vt T) kvs=val ws T cs:=A.sm _ Hb;have H:fJ (vt T) e=val ws T t:=h.sm _ Hb;rw[G,H];exact(E.least c).uniq (B.least c)
  . rw[xf λu y=>?_,xf λu y=>?_];.have:=(h.nn u y).1;omega
    .have:=(A.nn u y).1;omega
 exact lN A.so h.so (λu z=>(A.nn u z).2) (λu z=>(h.nn u z).2) λT=>by rw[FZ,FZ,C,C]
theorem PB{W:Int}{ws:List Wy}:∀{cs:List (List au×Int)},(∀x∈cs,W<aU ws x.1)->cB (λx=>gt W (aU ws x.1) x.2) cs=0|[],_=>rfl|x::cs,h=>by have h1:=h x (by simp);rw[cB,PB λy e=>h y (by simp[e])];unfold gt;rw[if_neg (by omega)];rfl
theorem sumF{U T:Int}{ws:List Wy}:∀{cs:List (List au×Int)},cB (λx=>gt U (aU ws x.1) x.2) (cs.filter (xG ws T))=cB (λx=>gt (min U T) (aU ws x.1) x.2) cs
 |[]=>rfl|x::cs=>by
   have h:=sumF (U:=U) (T:=T) (ws:=ws) (cs:=cs);rw[filter_cons];unfold xG;by_cases e:aU ws x.1<=T
   . rw[if_pos (by simpa using e),cB,cB];unfold xG at h;rw[h];have:gt U (aU ws x.1) x.2=gt (min U T) (aU ws x.1) x.2:=by unfold gt;split<;>split<;>first|rfl|omega
     rw[this]
   . rw[if_neg (by simpa using e),cB];unfold xG at h;rw[h];have:gt (min U T) (aU ws x.1) x.2=0:=by unfold gt;rw[if_neg (by omega)]
     rw[this];omega
theorem WD{U T:Int}:∀{l:List (Int×Int)},fJ (gt U) (l.filter λt=>decide (t.1<=T))=fJ (gt (min U T)) l
 |[]=>rfl|x::l=>by
   have h:=WD (U:=U) (T:=T) (l:=l);rw[filter_cons];by_cases e:x.1<=T
   . rw[if_pos (by simpa using e)];show gt U x.1 x.2+fJ (gt U) _=gt (min U T) x.1 x.2+fJ (gt (min U T)) l;rw[h];have:gt U x.1 x.2=gt (min U T) x.1 x.2:=by unfold gt;split<;>split<;>first|rfl|omega
     rw[this]
   . rw[if_neg (by simpa using e)];show _=gt (min U T) x.1 x.2+fJ (gt (min U T)) l;rw[h];have:gt (min U T) x.1 x.2=0:=by unfold gt;rw[if_neg (by omega)]
     rw[this];omega
theorem Qd{T:Int}{t:List (List au×Int)}{A:List (Int×Int)}(u:dj m ws cs)(B:dj m ws t)(C:Aw ws (cs.filter (xG ws T)) kvs)(e:Aw ws t A):kvs=A.filter λy=>decide (y.1<=T):=by
 have pos:∀{cs:List (List au×Int)},dj m ws cs->∀x∈cs,1<=aU ws x.1:=λh=>by obtain⟨E,fs,F,d,es,u⟩:=h;exact(u.iv.nn E).2
 have hs:∀W,cB (λx=>gt W (aU ws x.1) x.2) t=cB (λx=>gt W (aU ws x.1) x.2) cs:=λW=>by
  by_cases c:1<=W;.have G:Rt ws t W=_:=qj;have H:Rt ws cs W=_:=qj;show Rt ws t W=Rt ws cs W;rw[G,H,(u.least (show 0<=W by omega)).uniq (B.least (by omega)),(u.least (show 0<=W-1 by omega)).uniq (B.least (by omega))]
  . rw[PB λx I=>?_,PB λx I=>?_];.have:=pos u x I;omega
    .have:=pos B x I;omega
 refine lN C.so (e.so.filter _) (λy z=>(C.nn y z).2) (λy z=>(e.nn y (List.mem_filter.mp z).1).2) λU=>?_;rw[WD];have G:fJ (gt U) kvs=_:=C.sm _ GP;have H:fJ (gt (min U T)) A=_:=e.sm _ GP;rw[G,H,hs,sumF]
theorem zf{x:Int}(h:∀t∈r,t.1<k):putD r k (gv r k+x)=r++[(k,x)]:=by
 have y:∀t∈r,¬ t.1=k:=λt u=>by have:=h t u;omega
 have g:gv r k=0:=by unfold gv;rw[List.find?_eq_none.mpr λt u=>by simpa using y t u];rfl
 have a:¬(r.any λt=>decide (t.1=k))=true:=by rw[any_eq_true];rintro⟨t,u,e⟩;exact y t u (by simpa using e)
 rw[g];unfold putD;rw[if_neg a,Int.zero_add]
theorem Ir{v x:Int}(h:∀e∈r,e.1<k):putD (r++[(k,v)]) k (gv (r++[(k,v)]) k+x)=r++[(k,v+x)]:=by
 have u:∀e∈r,¬ e.1=k:=λe t=>by have:=h e t;omega
 have g:gv (r++[(k,v)]) k=v:=by unfold gv;rw[List.find?_append,List.find?_eq_none.mpr λe t=>by simpa using u e t];simp
 have a:((r++[(k,v)]).any λe=>decide (e.1=k))=true:=any_eq_true.mpr ⟨(k,v),by simp,by simp⟩;rw[g];unfold putD;rw[if_pos a,map_append];congr 1;.exact(map_congr_left λe t=>if_neg (u e t)).trans (List.map_id _)
 .simp
theorem vM{T:Int}{ws:List Wy}:∀{cs:List (List au×Int)},cs.Pairwise (λa b=>aU ws a.1<=aU ws b.1)->∃r,cs=cs.filter (xG ws T)++r
 |[],_=>⟨[],rfl⟩|x::cs,h=>by
   obtain⟨h1,t⟩:=List.pairwise_cons.mp h;rw[filter_cons];by_cases e:aU ws x.1<=T;.obtain⟨r,hr⟩:=vM (T:=T) t;rw[if_pos (by unfold xG;simpa using e)];exact⟨r,by rw[cons_append,<-hr]⟩
   . rw[if_neg (by unfold xG;simpa using e)];have:cs.filter (xG ws T)=[]:=List.filter_eq_nil_iff.mpr λy u=>by have:=h1 y u;unfold xG;simp;omega
     rw[this];exact⟨x::cs,rfl⟩
theorem nM:cm .ne (.lst (kvs.map cX)) (.lst [])=some (!kvs.isEmpty):=by
 have hd:fC 8 (.lst (kvs.map cX))=true:=by show(kvs.map cX).all (fC 7)=true;exact all_eq_true.mpr λd hd=>by obtain⟨p,_,rfl⟩:=mem_map.mp hd;rfl
 have e:fO (.lst (kvs.map cX)) (.lst [])=kvs.isEmpty:=by rw[show fO (.lst (kvs.map cX)) (.lst [])=gj (kvs.map cX) []by rw[fO]];cases kvs<;>rfl
 show(if fC 8 (.lst (kvs.map cX))&&fC 8 (.lst [])then some (!fO (.lst (kvs.map cX)) (.lst []))else none)=_;rw[hd,e];rfl
theorem yX:∀kvs:List (Int×Int),gj (kvs.map cX) (kvs.map cX)=true|[]=>rfl|p::kvs=>by rw[map_cons,dJ,yX kvs];simp[cX,fO,gO,dJ,je,jh]
theorem Qj:cm .eq (.lst (kvs.map cX)) (.lst (kvs.map cX))=some true:=by
 have hd:fC 8 (.lst (kvs.map cX))=true:=by show(kvs.map cX).all (fC 7)=true;exact all_eq_true.mpr λd hd=>by obtain⟨p,_,rfl⟩:=mem_map.mp hd;rfl
 show(if fC 8 (.lst (kvs.map cX))&&fC 8 (.lst (kvs.map cX))then some (fO (.lst (kvs.map cX)) (.lst (kvs.map cX)))else none)=_;rw[hd,show fO (.lst (kvs.map cX)) (.lst (kvs.map cX))=gj (kvs.map cX) (kvs.map cX)by rw[fO],yX];rfl
theorem Ay{T:Int}:∀l:List (Int×Int),(l.map cX).filterMap (λd=>if(UT d).1<=T then some d else none)=(l.filter λh=>decide (h.1<=T)).map cX|[]=>rfl|p::l=>by have t:UT (cX p)=p:=rfl;rw[map_cons,filterMap_cons,filter_cons,Ay l,t];by_cases e:p.1<=T<;>simp[e]
theorem Al{d:Int}{fs:List Int}(t:Ends m ws cs fs F d es){p r:List (List au×Int)}(e:cs=p++r):JD ws (flow ws.length p):=by cases r with|nil=>rw[append_nil]at e;rw[<-e,<-t.fl];exact t.iv.fit|cons y r=>obtain⟨F,d,h⟩:=(t.st.2 p y r e).iv;exact h.fit
inductive JU(m T:Int)(ws:List Wy)(ds:List (List au×Int))(r:List D)(ρ:List Sl):Prop where|mk(cR us:List (List au×Int))(kvs:List (Int×Int))(s5 s6 s7 s8 s9:Sl)(q0:ρ=[.val false (bN m ws),.val false (.int T),.lent (ds.map cD),.own false ((flow ws.length cR).map D.int),.own false (kvs.map cX),s5,s6,s7,s8,s9])(q1:A5 (fr s5=true) (fr s6=true) (fr s7=true) (fr s8=true) (fr s9=true))(q2:r=us.map cD)(q3:cR++us=ds)(q4:Aw ws cR kvs)
inductive JV(a0 a1 a2 a4 a5 a6 a7:Sl)(x:Int)(f0:List Int)(c:List au)(r:List D)(ρ:List Sl):Prop where|mk(dn us:List au)(s8 s9:Sl)(q0:ρ=[a0,a1,a2,.own false ((aug x f0 dn).map D.int),a4,a5,a6,a7,s8,s9])(q1:(fr s8=true/\fr s9=true))(q2:r=us.map sD)(q3:dn++us=c)
inductive FQ(a0 a1 a2 a3 a4 a5 a6 a7 a8 a9:Sl)(ρ:List Sl):Prop where|mk(s:Sl)(q0:ρ=[a0,a1,a2,a3,a4,a5,a6,a7,a8,a9,s])(q1:fr s=true)
theorem Gj:∀l:List D,∃bs,(l.map λ_=>D.bl true).mapM xT=some bs/\bs.all id=true|[]=>⟨[],rfl,rfl⟩|d::l=>by obtain⟨bs,h1,e⟩:=Gj l;refine⟨true::bs,?_,by simpa using e⟩;rw[map_cons,mapM_cons,h1];rfl
theorem EY{T d:Int}{ds:List (List au×Int)}{fs:List Int}(hw:13286250<=w)(h:mQ m ws)(I:Ends m ws cs fs F d es)(ae:cs.filter (xG ws T)=ds)(hl:cs.length<=13286050)(k:Q (.val (.bl true)) [.val false (bN m ws),.val false (.int T),.own true (ds.map cD)]):(run Γ w (n+7) 19 [.val false (bN m ws),.val false (.int T),.own true (ds.map cD)]).sat Q:=by
 have hn:=h.len;obtain⟨M,YJ⟩:=vM (T:=T) (ws:=ws) I.st.1;rw[ae]at YJ;refine bh (d:=f19) rfl rfl (by decide) ?_;symm;simp[f19,show ws.length<=lim by show _<=16777216;omega];apply aj;simp;apply aj;simp;refine bK (JU m T ws ds) ?_ ?_ ⟨[],ds,[],.aL,.aL,.aL,.aL,.aL,by simp[flow],⟨rfl,rfl,rfl,rfl,rfl⟩,rfl,rfl,⟨by simp,by simp,by simp,by simp,by simp,λW _=>rfl⟩⟩;.rintro d r _⟨z,B,kvs,s5,s6,s7,s8,s9,rfl,⟨h5,h6,h7,G,H⟩,hr,hd,O⟩;cases B with|nil=>cases hr|cons x B=>
     obtain⟨rfl,rfl⟩:d=cD x/\r=B.map cD:=by simpa using hr
     have C:cs=z++x::(B++M):=by rw[YJ,<-hd];simp
     have U:x∈cs:=by rw[C];simp
     obtain⟨c1,c2,c3,c4,c5⟩:=I.ck x U;obtain⟨_,x0,_⟩:=I.iv.ch x U;have X:∀y∈z,aU ws y.1<=aU ws x.1:=λy hy=>by have:=I.st.1;rw[C]at this;exact(pairwise_append.mp this).2.2 y hy x (by simp)
     have J:=Al I (p:=z++[x]) (r:=B++M) (by rw[C];simp);have al:=Al I (p:=z) (r:=x::(B++M)) C;have af:=(I.iv.nn λv hv=>(h.ok v hv).h0).2 x U;have CK:=O.put af x0 X;simp[h5,h6,h7,G,H,cD];apply aj;simp;refine oE hn c1 c2 c3 c5 ?_;simp[h7];refine fV (λρ=>ρ=[.val false (bN m ws),.val false (.int T),.lent (ds.map cD),.own false ((flow ws.length z).map D.int),.own false (kvs.map cX),.val false (.tup (x.1.map sD)),.val false (.int x.2),.val false (.int (aU ws x.1)),s8,s9]) ?_ ?_
     . have ag:¬ x.2<1:=by omega
       rcases List.eq_nil_or_concat kvs with rfl|⟨r,t,hk⟩;.have e0:cm .ne (.lst []) (.lst [])=some false:=nM (kvs:=[]);simp[ag,e0]
       . rw[List.concat_eq_append]at hk;subst hk;have Y:cm .ne (.lst (r.map cX++[cX t])) (.lst [])=some true:=by have:=nM (kvs:=r++[t]);rw[map_append]at this;exact this.trans (by simp)
         have am:¬ aU ws x.1<t.1:=by obtain⟨y,hy,e⟩:=O.key t (by simp);have:=X y hy;omega
         have Z:xF (cX t) (.int 0)=some (.val (.int t.1)):=rfl;simp[ag,Y,jw,Z,am]
     rintro _ rfl;symm;simp;refine bK (JV (.val false (bN m ws)) (.val false (.int T)) (.lent (ds.map cD)) (.own false (kvs.map cX)) (.val false (.tup (x.1.map sD))) (.val false (.int x.2)) (.val false (.int (aU ws x.1))) x.2 (flow ws.length z) x.1) ?_ ?_ ⟨[],x.1,s8,s9,rfl,⟨G,H⟩,rfl,rfl⟩;.rintro d r _⟨dn,A,s8,s9,rfl,⟨G,H⟩,hr,E⟩;cases A with|nil=>cases hr|cons u A=>
         obtain⟨rfl,rfl⟩:d=sD u/\r=A.map sD:=by simpa using hr
         have hu:u.1<(aug x.2 (flow ws.length z) dn).length:=by rw[nU,al.len];exact c2 u (by rw[<-E];simp)
         have ea:(aug x.2 (flow ws.length z) dn)[u.1]?=some (aug x.2 (flow ws.length z) dn)[u.1]:=by simp[hu]
         have hx:gK (aug x.2 (flow ws.length z) dn).length (u.1:Int)=some u.1:=by unfold gK;rw[if_pos (by omega),if_pos (by omega)];simp
         have he:aug x.2 (flow ws.length z) (dn++[u])=(aug x.2 (flow ws.length z) dn).set u.1 ((aug x.2 (flow ws.length z) dn)[u.1]+sg x.2 u.2):=by unfold aug;rw[List.foldl_append];show jJ x.2 (aug x.2 (flow ws.length z) dn) u=_;unfold jJ;rw[ea];rfl
         have ah:(dn++[u])++A=x.1:=by rw[append_assoc];exact E
         generalize(aug x.2 (flow ws.length z) dn)[u.1]=g at*;simp[sD,dF,G,H];apply aj;obtain⟨j,f⟩:=u;have b1:blt .int [.bl true]=some (.val (.int 1)):=rfl;have b0:blt .int [.bl false]=some (.val (.int 0)):=rfl;have a1:at' [D.int (-x.2),D.int x.2] 1=some (.int x.2):=rfl;have a0:at' [D.int (-x.2),D.int x.2] 0=some (.int (-x.2)):=rfl;cases f with|true=>simp[fH ea,hx,b1,a1];exact⟨dn++[(j,true)],A,.val false (.int j),.val false (.bl true),by rw[he,map_set];rfl,⟨rfl,rfl⟩,rfl,ah⟩|false=>simp[fH ea,hx,b0,a0];exact⟨dn++[(j,false)],A,.val false (.int j),.val false (.bl false),by rw[he,map_set];rfl,⟨rfl,rfl⟩,rfl,ah⟩
     rintro _⟨dn,A,s8,s9,rfl,⟨G,H⟩,ap,E⟩;have:A=[]:=by cases A with|nil=>rfl|cons _ _=>cases ap
     subst this;rw[append_nil]at E;subst E;rw[<-uX];simp;have aT:=J.len;generalize ac:flow ws.length (z++[x])=f1 at*;symm;simp[show f1.length<=lim by show _<=16777216;omega,show(f1.length:Int)<=1000000000 by omega];refine ie (FQ _ _ _ _ _ _ _ _ _ _) (λ_=>.bl true) ⟨.aL,rfl,rfl⟩ ?_ ?_
     . rintro d hd _⟨s,rfl,hs⟩;obtain⟨j,hj,rfl⟩:=mem_map.mp hd;have hj:=List.mem_range.mp hj;have ar:j<ws.length:=by omega
       have Y:ws[j]?=some ws[j]:=by simp[ar]
       have e2:f1[j]?=some f1[j]:=by simp[hj]
       obtain⟨g0,g1⟩:=J.ok j _ _ Y e2;have av:=fH (f:=Wy.d) Y;have aw:=fH (f:=D.int) e2;generalize ws[j]=v at*;generalize f1[j]=g at*;simp[hs,av,aw,Wy.d,g0,g1];exact⟨_,rfl,rfl⟩
     rintro _⟨s,rfl,hs⟩;obtain⟨bs,hm,ax⟩:=Gj ((List.range f1.length).map λ(k:Nat)=>D.int (k:Int));generalize((List.range f1.length).map λ(k:Nat)=>D.int (k:Int)).map (λ_=>D.bl true)=zs at*;simp[hm,ax];apply aj;have ay:kvs.length<=z.length:=O.len;have ba:z.length<=13286050:=by rw[C]at hl;simp at hl;omega
     rcases List.eq_nil_or_concat kvs with rfl|⟨r,t,hk⟩;.have e0:cm .ne (.lst []) (.lst [])=some false:=nM (kvs:=[]);simp[e0];apply aj;simp;rw[zf λL hkv=>by cases hkv]at CK;exact⟨z++[x],B,[(aU ws x.1,x.2)],.val false (.tup (x.1.map sD)),.val false (.int x.2),.val false (.int (aU ws x.1)),s8,s9,by rw[ac];rfl,⟨rfl,rfl,rfl,G,H⟩,rfl,by rw[append_assoc];exact hd,CK⟩
     . rw[List.concat_eq_append]at hk;subst hk;have Y:cm .ne (.lst (r.map cX++[cX t])) (.lst [])=some true:=by have:=nM (kvs:=r++[t]);rw[map_append]at this;exact this.trans (by simp)
       have Z:xF (cX t) (.int 0)=some (.val (.int t.1)):=rfl;have p1:xF (cX t) (.int 1)=some (.val (.int t.2)):=rfl;have bi:t.1<=aU ws x.1:=by obtain⟨y,hy,e⟩:=O.key t (by simp);rw[e];exact X y hy
       have ai:∀L∈r,L.1<t.1:=λL hkv=>(pairwise_append.mp O.so).2.2 L hkv t (by simp);have aE:gK (r.length+1) (-1)=some r.length:=by unfold gK;rw[if_neg (by decide),if_pos (by omega)];congr 1;omega
       by_cases he:t.1=aU ws x.1
       . simp[Y,jw,Z,p1,he];symm;have hst:(r.map cX++[cX t]).set r.length (D.tup [.int (aU ws x.1),.int (t.2+x.2)])=(r++[(aU ws x.1,t.2+x.2)]).map cX:=by rw[List.set_append_right _ _ (by simp)];simp[cX]
         have aI:t=(aU ws x.1,t.2):=by rw[<-he]
         rw[aI,Ir λL hkv=>by have:=ai L hkv;omega]at CK;simp[jw,p1,aE,hst];exact⟨z++[x],B,r++[(aU ws x.1,t.2+x.2)],.val false (.tup (x.1.map sD)),.val false (.int x.2),.val false (.int (aU ws x.1)),s8,s9,by rw[ac];simp,⟨rfl,rfl,rfl,G,H⟩,rfl,by rw[append_assoc];exact hd,CK⟩
       . simp[Y,jw,Z,p1,he];symm;simp;have bn:r.length+1<=z.length:=by simpa using ay
         refine⟨λ_=>?_,by show _<16777216;omega⟩;rw[zf λL hkv=>by
          rcases mem_append.mp hkv with hkv|hkv;.have:=ai L hkv;omega
          .rw[mem_singleton.mp hkv];omega]at CK;exact⟨z++[x],B,r++[t]++[(aU ws x.1,x.2)],.val false (.tup (x.1.map sD)),.val false (.int x.2),.val false (.int (aU ws x.1)),s8,s9,by rw[ac];simp[cX],⟨rfl,rfl,rfl,G,H⟩,rfl,by rw[append_assoc];exact hd,CK⟩
 . rintro _⟨z,B,kvs,s5,s6,s7,s8,s9,rfl,⟨h5,h6,h7,G,H⟩,hr,hd,O⟩;have:B=[]:=by cases B with|nil=>rfl|cons _ _=>cases hr
   subst this;rw[append_nil]at hd;subst hd;simp;apply aj;simp;refine sG hw h λVe bo F2 d2 bp Ib bq YH aS br bt=>?_;simp[show Ib.length<=lim by show _<=16777216;omega];have hq:=Qd (T:=T) ⟨λv hv=>(h.ok v hv).h0,_,_,_,_,I⟩ ⟨λv hv=>(h.ok v hv).h0,_,_,_,_,YH⟩ (by rw[ae];exact O) aS;refine lV (FQ _ _ _ _ _ _ _ _ _ _) (λd=>if(UT d).1<=T then some d else none) ⟨.aL,rfl,rfl⟩ ?_ ?_
   . rintro d hd _⟨s,rfl,hs⟩;obtain⟨p,_,rfl⟩:=mem_map.mp hd;have u0:UT (cX p)=p:=rfl;have Z:xF (cX p) (.int 0)=some (.val (.int p.1)):=rfl;by_cases e:p.1<=T;.simp[hs,e,u0,Z];exact⟨_,rfl,rfl⟩
     .simp[hs,e,u0,Z];exact⟨_,rfl,rfl⟩
   rintro _⟨s,rfl,hs⟩;rw[Ay,<-hq];simp[Qj];exact k
theorem zO:∀c:List au,gj (c.map sD) (c.map sD)=true|[]=>rfl|s::c=>by rw[map_cons,dJ,zO c];simp[sD,dF,fO,gO,dJ,je,jh]
theorem Ax:∀cs:List (List au×Int),gj (cs.map cD) (cs.map cD)=true|[]=>rfl|x::cs=>by rw[map_cons,dJ,Ax cs];simp[cD,fO,gO,dJ,je,jh,zO]
theorem Dq:cm .ne (.lst (cs.map cD)) (.lst (cs.map cD))=some false:=by
 have hd:fC 8 (.lst (cs.map cD))=true:=by show(cs.map cD).all (fC 7)=true;refine all_eq_true.mpr λd hd=>?_;obtain⟨x,_,rfl⟩:=mem_map.mp hd;show((x.1.map sD).all (fC 5)&&true)=true;rw[Bool.and_true];exact all_eq_true.mpr λd hd=>by obtain⟨s,_,rfl⟩:=mem_map.mp hd;rfl
 show(if fC 8 (.lst (cs.map cD))&&fC 8 (.lst (cs.map cD))then some (!fO (.lst (cs.map cD)) (.lst (cs.map cD)))else none)=_;rw[hd,show fO (.lst (cs.map cD)) (.lst (cs.map cD))=gj (cs.map cD) (cs.map cD)by rw[fO],Ax];rfl
theorem Ai:∀ns:List Int,O2 (ns.map .int)=some ns|[]=>rfl|n::ns=>by show(O2 (ns.map .int)).map _=_;rw[Ai ns];rfl
inductive JLw(b:Bool)(cs:List Int)(i:Nat)(ρ:List Sl):Prop where|mk(ns:List Int)(u k:Int)(s2 s3 s4 s5 s6 s7 s8:Sl)(q0:ρ=[.val b (.lst (cs.map .int)),.pot false ns u k,s2,s3,s4,s5,s6,s7,s8])(q1:A7 (fr s2=true) (fr s3=true) (fr s4=true) (fr s5=true) (fr s6=true) (fr s7=true) (fr s8=true))
inductive JIn(a0 a1 a2 a3 a4 a5 a8:Sl)(P:List au×Int->Prop)(r:List D)(ρ:List Sl):Prop where|mk(us:List (List au×Int))(s6 s7:Sl)(q0:ρ=[a0,a1,a2,a3,a4,a5,s6,s7,a8])(q1:(fr s6=true/\fr s7=true))(q2:r=us.map cD)(q3:∀x∈us,P x)
theorem PL{h:Type}{l:List h}{y:h}:cut (l++[y]) none (some (-1))=l:=by
 unfold cut;have e:(-1+((l.length:Int)+1)).toNat=l.length:=by omega
 simp[du,e]
def CkW(m:Int)(ws:List Wy)(x:List au×Int):Prop:=x.1.length<=5/\(∀s∈x.1,s.1<ws.length)/\il ws (m-1) x.1 0/\(j4 ws x.1 0).Nodup
theorem Kf{cs:List Int}(hn:cs.length<=63)(Z:∀ρ,Q (.val (.bl true)) ρ):(run Γ 100000000 40 22 [.val false (.lst (cs.map .int))]).sat Q:=by
 refine bh (d:=f22) rfl rfl (by decide) ?_;symm;obtain⟨r1,M,G,u,rfl⟩:=sat_iff.mp (DX (w:=100000000) (n:=38) (cs:=cs) (Q:=λr _=>∃u,r=.own [.lst ((m6 cs).map .int),.int u,.int 0]) (by show _<=16777216;omega) λu=>⟨u,rfl⟩);have e2:ex (run Γ 100000000 39) 100000000 (.SN 1 12 0) [.val false (.lst (cs.map .int)),.aL,.aL,.aL,.aL,.aL,.aL,.aL,.aL]=.ok .next [.val false (.lst (cs.map .int)),.pot false (m6 cs) u 0,.aL,.aL,.aL,.aL,.aL,.aL,.aL]:=by
  have hc:m6 cs=[]\/cs≠m6 cs:=by
   by_cases e:cs=m6 cs;.exact .inl (by rw[<-e];exact JH e.symm)
   .exact .inr e
  rw[ex];unfold Ju;simp[G,Ai,hc]
 show(ex (run Γ 100000000 39) 100000000 (.SN 1 12 0) [.val false (.lst (cs.map .int)),.aL,.aL,.aL,.aL,.aL,.aL,.aL,.aL]).sat _;rw[e2];simp;apply aj;simp;refine⟨⟨by split<;>omega,by split<;>omega⟩,?_⟩;generalize(1+if(cs.length:Int)/12<3 then(cs.length:Int)/12 else 3).toNat=N;refine pM (λi ρ=>JLw false cs i ρ) ?_ ?_ ⟨_,_,_,.aL,.aL,.aL,.aL,.aL,.aL,.aL,rfl,⟨rfl,rfl,rfl,rfl,rfl,rfl,rfl⟩⟩
 . rintro i _ hi⟨ns,u,k,s2,s3,s4,s5,s6,s7,s8,rfl,⟨h2,U,W,X,A,t,Y⟩⟩;simp[h2,U,W,X,A,t,Y];apply aj;simp;refine bM (by decide) (by decide) λx ns u k x0 x1=>?_;have h:∃H:Int,at' [D.int 3,D.int 1000000] x=some (.int H)/\1<=H/\H<=1000000:=by
    have:x=0\/x=1:=by omega
    rcases this with rfl|rfl;.exact⟨3,rfl,by decide,by decide⟩
    .exact⟨1000000,rfl,by decide,by decide⟩
   obtain⟨H,h,m0,m1⟩:=h;simp[h];refine K3 m0 m1 (by decide) λm ws ns u k I=>?_;simp[U];apply aj;simp;refine Ej (by decide) I λT ns u k T0 T1=>?_;simp[W];apply aj;simp;obtain⟨r1,M,G,ds,ac,fs,F,d,es,J,L,z,rfl,rfl⟩:=sat_iff.mp (vh (w:=100000000) (n:=34) (T:=T) (Q:=λr ρ=>∃ds cs fs F d es,cs.length<=13286050/\Ends m ws cs fs F d es/\cs.filter (xG ws T)=ds/\r=.own (ds.map cD)/\ρ=[.val false (bN m ws),.val false (.int T)]) (by decide) I λcs fs F d es J L=>⟨_,cs,fs,F,d,es,J,L,rfl,rfl,rfl⟩);have O:ds.length<=13286050:=by rw[<-z];exact le_trans (List.length_filter_le ..) J
   have B:∀x∈ds,CkW m ws x:=λx h=>by rw[<-z]at h;obtain⟨c1,c2,c3,c4,c5⟩:=L.ck x (List.mem_filter.mp h).1;exact⟨c1,c2,c3,c5⟩
   refine sat_iff.mpr ⟨_,_,G,?_⟩;simp[X];apply aj;simp;refine v7 O (λx h=>(B x h).1) ?_;simp;refine EY (by decide) I L z J ?_;simp;apply aj;simp;refine bK (JIn _ _ _ _ _ _ _ (CkW m ws)) ?_ ?_ ⟨ds,s6,s7,rfl,⟨A,t⟩,rfl,B⟩;.rintro d r _⟨C,s6,s7,rfl,⟨A,t⟩,hr,E⟩;cases C with|nil=>cases hr|cons x C=>
       obtain⟨rfl,rfl⟩:d=cD x/\r=C.map cD:=by simpa using hr
       obtain⟨c1,c2,c3,c4⟩:=E x (by simp);have i0:xF (cD x) (.int 0)=some (.val (.tup (x.1.map sD))):=rfl;simp[A,t];apply aj;simp;refine qY c2 (by omega) ?_;simp[t];apply aj;simp;refine lM ?_;simp[i0];refine oE I.len c1 c2 c3 c4 ?_;simp;exact⟨C,_,_,rfl,⟨rfl,rfl⟩,rfl,λy hy=>E y (by simp[hy])⟩
   rintro _⟨C,s6,s7,rfl,⟨A,t⟩,hr,_⟩;simp;apply aj;simp[Y,show ds.length<=lim by show _<=16777216;omega];apply aj;simp[show ds.length<lim by show _<16777216;omega];apply aj;have hs:JF (.lst (ds.map cD++[.tup [.tup [.tup [.int 0,.bl true]],.int 1]])) (part (.con .non) .non) (part (.neg (.con (.int 1))) (.int (-1)))=some (.own (ds.map cD)):=by show some (R.own (cut _ none (some (-1))))=_;rw[PL]
   simp[hs,Dq];refine sat_iff.mpr ⟨_,_,G,?_⟩;simp[Dq];exact⟨_,_,_,_,_,_,_,_,_,_,rfl,⟨rfl,rfl,rfl,rfl,A,t,rfl⟩⟩
 .rintro _⟨ns,u,k,s2,s3,s4,s5,s6,s7,s8,rfl,_⟩;simp;apply aj;simp;exact Z _
theorem Ja(ns:List Int)(h:ns.length<=63):∃as,run Γ 100000000 40 22 [.val false (.lst (ns.map D.int))]=.ok (.val (.bl true)) as:=by obtain⟨a,ρ,e,rfl⟩:=sat_iff.mp (Kf (Q:=λr _=>r=.val (.bl true)) h λ_=>rfl);exact⟨ρ,e⟩
end T
end
structure PySem.W.Fast:Prop where(tw2323416233097803825 tw3690784982400607740 tw1707124475563469966 tw2084646710677007713 tw6697737705109185204 tw13672483614799772755 tw6501053329269630482 tw2458876407238415834 tw11358767768990654277 tw17232610384792761162 tw12511286555931275101 tw17891425690872903073 tw11489259911990635117 tw15305302213291867448 tw6422033891825196322 tw6097618432306891191 tw13524709655629815057 tw11540908044091462097 tw5814099229614954291 tw7273472128873580580 tw12836106914684775099 tw3178342517400040384 tw4417867543950358498 tw15006998624688996268 tw10774360872091290047 tw8533610535048517412 tw980136954069073107 tw8168664118836380599 tw9434919923771076874 tw10231098514624495426 tw8760798175596719696 tw12401835392706046122 tw16329837687125781947 tw17068420366529632335 tw13446650058463547135 tw8254287757024981186 tw14666234931244388466 tw9328934270226394302 tw3897392582570121746 tw17618410010346958685 tw10926752017313376907 tw3677179159142334014 tw8577167267953906250 tw8492556236935089076 tw5858329035791588177 tw5119500075216982631 tw4786941377713249508 tw13664135918811466644 tw1445142275399719573 tw16683791745852337894 tw16970229173121636308 tw10621200607069676790 tw5812477247438791454 tw7801939793966021689 tw17816792393132513678 tw8679041173106769936 tw9488592833266886308 tw7872051663893561134 tw693449196527013064 tw4892695144641208169 tw13026465337535658458 tw11601036195807773000 tw16906362191657231684 tw10433905323436766703 tw5499376258162188743 tw4084260458230960206 tw11355782319630181605 tw2396675173120441188 tw16487938551237130404 tw15338593593448070125 tw12365584585018477161 tw8582063155624864189 tw5855648819288273897 tw11989150822651576118 tw7038621545469969307 tw3473203366403861487 tw6840141206083012855 tw15874205887052787992 tw5505238140428381748 tw3212599209592944571 tw6976152405678806707 tw13132725635903889227 tw4171155611136958686 tw13748761914741147572 tw6709449618169100266 tw4910667329122407881 tw16651833956620689425 tw1209117572679231615 tw11724590224478935588 tw9810396685425656834 tw5592641690301441211 tw13952084782790981247 tw6744776205075429170 tw9123242894705923838 tw2243470019593083075 tw10075155294049163063 tw10916442695948078371 tw13209693323980963559 tw11587167264848645063 tw6845732413321211730 tw15787620435042408171 tw9857474121699692582 tw2860768507663204336 tw2030358059878022859 tw3925048367394836354 tw5208817824464729141 tw914655088711303146 tw17564501690875612006 tw9161686843151247567 tw3820980965673610915 tw3904952868032857583 tw1294341477113965581 tw3057382845000169596 tw1143081309717449623 tw14734779463736767007 tw15585588994190563825 tw8965077972609506186 tw18105550481104452653 tw3106302721560235561 tw13902473834134757936 tw14533919376485510866 tw16426484490019654931 tw2711995236207166279 tw1909987489065643894 tw5317235434860335577 tw17041854465492261935 tw9614324316005775187 tw12608621722857037193 tw13225057383148650833 tw8251254987396976880 tw4342022994285378008 tw5987746507905375795 tw13204321970685533415 tw11410399114011669004 tw14397588587259501595 tw2915088084258130297 tw18009051427543184356 tw13804718304879295960 tw16658264067375837052:True)
namespace T
open PySem L2 PySem.Spec PyProof.Rows HH
theorem Vq{P:List Value → Prop}{n:Nat}(h:∀(a:Value)(b:List Value),b.length=n → P (a::b))(b:List Value)(c:b.length=n+1):P b:=by cases b with|nil=>cases c|cons a b=>exact h a b (Nat.succ.inj c)
theorem lk0{P:List Value → Prop}(h:P [])(b:List Value)(c:b.length=0):P b:=by cases b with|nil=>exact h|cons a b=>cases c
theorem BX{P:List Value → Prop}(h:∀a,P [a]):∀b:List Value,b.length=1 → P b:=Vq λa=>lk0 (h a)
theorem m9{P:List Value → Prop}(h:∀a b,P [a,b]):∀c:List Value,c.length=2 → P c:=Vq λa=>BX (h a)
theorem Et{P:List Value → Prop}(h:∀a b c,P [a,b,c]):∀e:List Value,e.length=3 → P e:=Vq λa=>m9 (h a)
theorem lk4{P:List Value → Prop}(h:∀a b c d,P [a,b,c,d]):∀e:List Value,e.length=4 → P e:=Vq λa=>Et (h a)
theorem lk5{P:List Value → Prop}(h:∀a b c d e,P [a,b,c,d,e]):∀f:List Value,f.length=5 → P f:=Vq λa=>lk4 (h a)
local macro_rules|`(term|‹$p›)=>`(λ_ _ _ _ _ _=>$p)
structure Txt(K:PySem.W.Frag):Prop where
 D0:cL K "step_places" s0
 D1:cL K "step_hours" s1
 D2:cL K "step_room" s2
 D3:cL K "steps_hours" s3
 D4:cL K "open_steps" s4
 D5:cL K "shortest_come" s5
 D6:cL K "steps_to" s6
 D7:cL K "stream_with" s7
 D8:cL K "chains_to_end" s8
 D9:cL K "bends_of" s9
 D10:cL K "chain_length" qD
 D11:cL K "shortest_chains" ZG
 D12:cL K "_law_pot" s12
 D13:cL K "_law_take" s13
 D14:cL K "_law_pairs" s14
 D15:cL K "_law_net" s15
 D16:cL K "_law_last" s16
 D17:cL K "_law_step_ends" s17
 D18:cL K "_law_walked" s18
 D19:cL K "_law_due" s19
 D20:cL K "_law_whole" s20
 D21:cL K "_law_chains" s21
 D22:cL K "law" s22
 HY:PySem.W.nsIn K mainGlobals "all"=some none
 mK:PySem.W.nsIn K mainGlobals "bool"=some none
 sU:PySem.W.nsIn K mainGlobals "int"=some none
 bj:PySem.W.nsIn K mainGlobals "isinstance"=some none
 cF:PySem.W.nsIn K mainGlobals "len"=some none
 dY:PySem.W.nsIn K mainGlobals "list"=some none
 HX:PySem.W.nsIn K mainGlobals "max"=some none
 qy:PySem.W.nsIn K mainGlobals "min"=some none
 cN:PySem.W.nsIn K mainGlobals "range"=some none
 jY:PySem.W.nsIn K mainGlobals "reversed"=some none
 qz:PySem.W.nsIn K mainGlobals "sorted"=some none
 HW:PySem.W.nsIn K mainGlobals "sum"=some none
 dZ:PySem.W.nsIn K mainGlobals "tuple"=some none
 NL:U0 K
noncomputable def nD{K:PySem.W.Frag}(T:Txt K):Nat->Addr:=λk=>0
structure Oks(Pg:Program)(w:World)(K:PySem.W.Frag)(mg:Str->Option Value)(base:Heap)(cl:Nat->Addr)(n:Nat):Prop where
 c0:bw Pg w K mg base n (run Γ 100000000 n) 0 "step_places" 2
 c1:bw Pg w K mg base n (run Γ 100000000 n) 1 "step_hours" 2
 c2:bw Pg w K mg base n (run Γ 100000000 n) 2 "step_room" 3
 c3:bw Pg w K mg base n (run Γ 100000000 n) 3 "steps_hours" 2
 c4:bw Pg w K mg base n (run Γ 100000000 n) 4 "open_steps" 2
 c5:bw Pg w K mg base n (run Γ 100000000 n) 5 "shortest_come" 3
 c6:bw Pg w K mg base n (run Γ 100000000 n) 6 "steps_to" 3
 c7:bw Pg w K mg base n (run Γ 100000000 n) 7 "stream_with" 3
 c8:bw Pg w K mg base n (run Γ 100000000 n) 8 "chains_to_end" 1
 c9:bw Pg w K mg base n (run Γ 100000000 n) 9 "bends_of" 1
 YK:bw Pg w K mg base n (run Γ 100000000 n) 10 "chain_length" 2
 c11:bw Pg w K mg base n (run Γ 100000000 n) 11 "shortest_chains" 2
 c12:bw Pg w K mg base n (run Γ 100000000 n) 12 "_law_pot" 1
 S9:bw Pg w K mg base n (run Γ 100000000 n) 13 "_law_take" 2
 c14:bw Pg w K mg base n (run Γ 100000000 n) 14 "_law_pairs" 2
 c15:bw Pg w K mg base n (run Γ 100000000 n) 15 "_law_net" 2
 c16:bw Pg w K mg base n (run Γ 100000000 n) 16 "_law_last" 2
 c17:bw Pg w K mg base n (run Γ 100000000 n) 17 "_law_step_ends" 2
 YL:bw Pg w K mg base n (run Γ 100000000 n) 18 "_law_walked" 2
 c19:bw Pg w K mg base n (run Γ 100000000 n) 19 "_law_due" 3
 YM:bw Pg w K mg base n (run Γ 100000000 n) 20 "_law_whole" 1
 c21:bw Pg w K mg base n (run Γ 100000000 n) 21 "_law_chains" 1
 c22:bw Pg w K mg base n (run Γ 100000000 n) 22 "law" 1
set_option maxHeartbeats 0 in
theorem Eu{Pg:Program}{w:World}{K:PySem.W.Frag}{mg:Str->Option Value}{base:Heap}(T:Txt K)(X:K.In base)(G:base.Ns mainGlobals mg):∀n,Oks Pg w K mg base (nD T) n
 |0=>{
   c0:=cZ (ps:=["net","step"]) X G T.D0 rfl ‹m9 λ_ _=>rfl›
   c1:=cZ (ps:=["net","step"]) X G T.D1 rfl ‹m9 λ_ _=>rfl›
   c2:=cZ (ps:=["net","stream","step"]) X G T.D2 rfl ‹Et λ_ _ _=>rfl›
   c3:=cZ (ps:=["net","steps"]) X G T.D3 rfl ‹m9 λ_ _=>rfl›
   c4:=cZ (ps:=["net","stream"]) X G T.D4 rfl ‹m9 λ_ _=>rfl›
   c5:=cZ (ps:=["net","stream","begun"]) X G T.D5 rfl ‹Et λ_ _ _=>rfl›
   c6:=cZ (ps:=["net","come","place"]) X G T.D6 rfl ‹Et λ_ _ _=>rfl›
   c7:=cZ (ps:=["stream","steps","loads"]) X G T.D7 rfl ‹Et λ_ _ _=>rfl›
   c8:=cZ (ps:=["net"]) X G T.D8 rfl ‹BX λ_=>rfl›
   c9:=cZ (ps:=["net"]) X G T.D9 rfl ‹BX λ_=>rfl›
   YK:=cZ (ps:=["net","chain"]) X G T.D10 rfl ‹m9 λ_ _=>rfl›
   c11:=cZ (ps:=["net","last"]) X G T.D11 rfl ‹m9 λ_ _=>rfl›
   c12:=cZ (ps:=["script"]) X G T.D12 rfl ‹BX λ_=>rfl›
   S9:=cZ (ps:=["pot","many"]) X G T.D13 rfl ‹m9 λ_ _=>rfl›
   c14:=cZ (ps:=["pot","many"]) X G T.D14 rfl ‹m9 λ_ _=>rfl›
   c15:=cZ (ps:=["pot","most"]) X G T.D15 rfl ‹m9 λ_ _=>rfl›
   c16:=cZ (ps:=["pot","net"]) X G T.D16 rfl ‹m9 λ_ _=>rfl›
   c17:=cZ (ps:=["net","step"]) X G T.D17 rfl ‹m9 λ_ _=>rfl›
   YL:=cZ (ps:=["net","steps"]) X G T.D18 rfl ‹m9 λ_ _=>rfl›
   c19:=cZ (ps:=["net","last","chains"]) X G T.D19 rfl ‹Et λ_ _ _=>rfl›
   YM:=cZ (ps:=["thing"]) X G T.D20 rfl ‹BX λ_=>rfl›
   c21:=cZ (ps:=["found"]) X G T.D21 rfl ‹BX λ_=>rfl›
   c22:=cZ (ps:=["script"]) X G T.D22 rfl ‹BX λ_=>rfl›}|n+1=>have a:=Eu (Pg:=Pg) (w:=w) (base:=base) T X G n
   {c0:=dg (ps:=["net","step"]) X G T.D0 rfl rfl ‹m9 λ_ _=>rfl› λ_ _ F=>d0 (cl:=nD T) F
    c1:=dg (ps:=["net","step"]) X G T.D1 rfl rfl ‹m9 λ_ _=>rfl› λ_ _ F=>d1 (cl:=nD T) F
    c2:=dg (ps:=["net","stream","step"]) X G T.D2 rfl rfl ‹Et λ_ _ _=>rfl› λ_ _ F=>d2 (cl:=nD T) F
    c3:=dg (ps:=["net","steps"]) X G T.D3 rfl rfl ‹m9 λ_ _=>rfl› λ_ _ F=>d3 (cl:=nD T) F (mg_none_of X G T.HW) a.c1
    c4:=dg (ps:=["net","stream"]) X G T.D4 rfl rfl ‹m9 λ_ _=>rfl› λ_ _ F=>d4 (cl:=nD T) F (mg_none_of X G T.cF) (mg_none_of X G T.cN) a.c0 a.c2
    c5:=dg (ps:=["net","stream","begun"]) X G T.D5 rfl rfl ‹Et λ_ _ _=>rfl› λ_ _ F=>d5 (cl:=nD T) F (mg_none_of X G T.cF) (mg_none_of X G T.dY) a.c4 a.c1 a.c0
    c6:=dg (ps:=["net","come","place"]) X G T.D6 rfl rfl ‹Et λ_ _ _=>rfl› λ_ _ F=>d6 (cl:=nD T) F (mg_none_of X G T.jY) (mg_none_of X G T.dZ) a.c0
    c7:=dg (ps:=["stream","steps","loads"]) X G T.D7 rfl rfl ‹Et λ_ _ _=>rfl› λ_ _ F=>d7 (cl:=nD T) F (mg_none_of X G T.dY)
    c8:=dg (ps:=["net"]) X G T.D8 rfl rfl ‹BX λ_=>rfl› λ_ _ F=>d8 (cl:=nD T) F (mg_none_of X G T.cF) (mg_none_of X G T.qy) a.c5 a.c2 a.c6 a.c7
    c9:=dg (ps:=["net"]) X G T.D9 rfl rfl ‹BX λ_=>rfl› λ_ _ F=>d9 (cl:=nD T) F (mg_none_of X G T.qz) a.c8 a.c3
    YK:=dg (ps:=["net","chain"]) X G T.D10 rfl rfl ‹m9 λ_ _=>rfl› λ_ _ F=>d10 (cl:=nD T) F a.c3
    c11:=dg (ps:=["net","last"]) X G T.D11 rfl rfl ‹m9 λ_ _=>rfl› λ_ _ F=>d11 (cl:=nD T) F a.YK a.c8
    c12:=dg (ps:=["script"]) X G T.D12 rfl rfl ‹BX λ_=>rfl› λ_ _ F=>d12 (cl:=nD T) F
    S9:=dg (ps:=["pot","many"]) X G T.D13 rfl rfl ‹m9 λ_ _=>rfl› λ_ _ F=>d13 (cl:=nD T) F
    c14:=dg (ps:=["pot","many"]) X G T.D14 rfl rfl ‹m9 λ_ _=>rfl› λ_ _ F=>d14 (cl:=nD T) F (mg_none_of X G T.cN) a.S9
    c15:=dg (ps:=["pot","most"]) X G T.D15 rfl rfl ‹m9 λ_ _=>rfl› λ_ _ F=>d15 (cl:=nD T) F (mg_none_of X G T.dZ) a.c14 a.S9
    c16:=dg (ps:=["pot","net"]) X G T.D16 rfl rfl ‹m9 λ_ _=>rfl› λ_ _ F=>d16 (cl:=nD T) F (mg_none_of X G T.cF) (mg_none_of X G T.HX) a.S9 a.c9
    c17:=dg (ps:=["net","step"]) X G T.D17 rfl rfl ‹m9 λ_ _=>rfl› λ_ _ F=>d17 (cl:=nD T) F
    YL:=dg (ps:=["net","steps"]) X G T.D18 rfl rfl ‹m9 λ_ _=>rfl› λ_ _ F=>d18 (cl:=nD T) F (mg_none_of X G T.cF) a.c17
    c19:=dg (ps:=["net","last","chains"]) X G T.D19 rfl rfl ‹Et λ_ _ _=>rfl› λ_ _ F=>d19 (cl:=nD T) F (mg_none_of X G T.HY) (mg_none_of X G T.sU) (mg_none_of X G T.cF) (mg_none_of X G T.cN) a.YL a.c9
    YM:=dg (ps:=["thing"]) X G T.D20 rfl rfl ‹BX λ_=>rfl› λ_ _ F=>d20 (cl:=nD T) F (mg_none_of X G T.mK) (mg_none_of X G T.sU) (mg_none_of X G T.bj)
    c21:=dg (ps:=["found"]) X G T.D21 rfl rfl ‹BX λ_=>rfl› λ_ _ F=>d21 (cl:=nD T) F (mg_none_of X G T.mK) (mg_none_of X G T.bj) (mg_none_of X G T.cF) (mg_none_of X G T.dY) (mg_none_of X G T.dZ) a.YM
    c22:=dg (ps:=["script"]) X G T.D22 rfl rfl ‹BX λ_=>rfl› λ_ _ F=>d22 (cl:=nD T) F (mg_none_of X G T.cF) (mg_none_of X G T.dY) (mg_none_of X G T.qy) (mg_none_of X G T.cN) a.c21 a.c19 a.c16 a.c15 a.c12 a.S9 a.YL a.YM a.YK a.c11 T.NL}
set_option maxHeartbeats 0 in
theorem RK{Pg:Program}{w:World}{K:PySem.W.Frag}{mg:Str->Option Value}{h:Heap}{i:Addr}(T:Txt K)(X:K.In h)(G:h.Ns mainGlobals mg)(g:mg "law"=some (.ref i)):∃fd:FuncData,(∀(s:Shared)(u:Value),BindsTo s fd ⟨[u],[]⟩ [("script",u)])/\∀base:Heap,K.In base->base.Ns mainGlobals mg->lF Pg w K mg base Hh 40 i fd ["script"] (Ig K 1 (run Γ 100000000 40 22)):=by
 obtain⟨f,fd,a,F⟩:=T.D22.ex;have e:=g.symm.trans (mg_of X G a);cases e;refine⟨fd,λs u=>?_,λbase j nb=>?_⟩;.obtain⟨oc,p,kV,l,q,r,cdv,ct,m,rfl,lk,o⟩:=F.ex;exact .of_eq rfl
 .have b:=Eu (Pg:=Pg) (w:=w) (base:=base) T j nb 39;exact d22 (cl:=nD T) (k:=39) (n:=100000000) (c:=run Γ 100000000 39) F (mg_none_of X G T.cF) (mg_none_of X G T.dY) (mg_none_of X G T.qy) (mg_none_of X G T.cN) b.c21 b.c19 b.c16 b.c15 b.c12 b.S9 b.YL b.YM b.YK b.c11 T.NL
end T
open PySem PySem.W PyProof.Rows
set_option maxRecDepth 100000 in
set_option maxHeartbeats 0 in
theorem PySem.Challenge.cw_hourhaul_k49_chains_told_holds : PySem.Challenge.rw_hourhaul_k49_chains_told.Holds := by
 w_on;o_law;k_head;(case hw=>w_witness2);k_fill;refine L2.Ez (l:=PySem.Challenge.rw_hourhaul_k49_chains_told) (n:=63) (k:=40) (x:="script") (CX:=L2.Hh) (sp:=λK=>HH.Ig K 1 (HH.run T.Γ 100000000 40 22)) rfl (by decide) rfl ⟨rfl,by decide,by decide⟩ (λw h Y=>PySem.W.kIn_of Y) ?F ?S ?C;case F=>
  intro w mg j h f G b;refine T.RK ?T f G b;constructor;iterate 23(· refine' HH.PJ ?a ?l ?c ?k;case a|l|c|k=>k_is)
  iterate 13(· k_is)
  .show map _ _=[];kernel_rfl
 case S=>intro K H a ns g m i;obtain⟨as,e⟩:=T.Ja ns g;exact HH.Bd i e
 case C=>exact λH s e o z=>z
