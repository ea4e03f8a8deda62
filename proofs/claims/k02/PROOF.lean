import PyProof.Rows.All
import Wide.All
import OpenK.AllK
import Wide.FinOn
import Lean
import PyProof.EqAt
import PyProof.EqKinds
import PyProof.TupleCall
import PySem.Str
import PySem.Builtin.Int.W1All
import PyProof.NeKinds
import PyProof.ZipIter
import PyProof.SumWalkG
import PyProof.MinMaxWalk
import PyProof.WalksMore
import PyProof.SeqI3
import PyProof.WalkInts
import PyProof.Rows.CallKwBuiltin
import PyProof.Rows.Tup
import PyProof.CollectIter
import PyProof.EnumMake
import PyProof.TupleOfSeq
import PyProof.ListNew
import PyProof.ReprLoop
import PyProof.StationsW
import PyProof.ExcClass3
import PyProof.Rows.CatchBare
import OpenK.KOwn
import KE.KIsAll
import PyProof.NsDelKeeps
import PyProof.RulesAs
import PyProof.ExcArgsOwn
import PyProof.ListRange
import KE.RegKIsAll
import KE.KRevIter
import PyProof.Rows.SortRuns
import KE.KSortTup
import PyProof.DictWalks
import KE.KDictList
import KE.KItemsList
import PyProof.ExcBaseAll.ValueError
import PySem.Challenge.RW_hourhaul_k02_nets_made
set_option Elab.async false
set_option linter.all false
set_option maxRecDepth 100000
set_option genSizeOf false
set_option compiler.extract_closed false
set_option bootstrap.genMatcherCode false
open List(replicate getElem?_set_ne getElem?_set_self size_toArray mem_cons all_eq_true mem_cons_of_mem getElem?_map lookup_cons getElem_mem getElem?_append_left map_cons mem_map mem_append_right length_cons length_append length_map not_mem_nil mem_cons_self mem_of_getElem? foldl replicate_succ all_cons filterMap_cons mem_append ext_getElem nodup_cons flatten_cons getD append_nil of_mem_zip nil_append forIn_cons forIn_nil any_cons map)
open PySem.W(mg_none_of mg_of keepIn methodObj kitx_dict)
open PySem.Heap(lt_size get?_push_of_some get?_push_size size_push IsTuple SameBut IsList)
open PySem.Builtin.SmallTypes(nextOf)
open Nat(le_refl ne_of_lt lt_of_lt_of_le lt_irrefl le_trans zero_le le_of_lt)
open Bool(and_eq_true or_eq_true false_eq_true)
open Option(map_eq_some_iff bind_some)
open PySem.Builtin.List(listTooLong)
open PySem.Builtin.Tuple(tupleExact)
open PySem.F(slot_tuple_add entry_tuple_add args_tuple_add_2 slot_tuple_mul)
open PySem.SeqAt.EqAt(int_str str_int)
open PySem.SeqAt.RcAt(lists_lengths)
open Array(length_toList toList)
open PySem.SeqAt.RcNeAt(none_int none_str bool_int bool_str int_none int_bool int_int int_list str_none str_bool str_str str_list list_int list_str)
theorem dH{h:PySem.Heap}{o b:PySem.Obj}{a:PySem.Addr}(e:h.get? a=some o):(h.push b).get? a=some o:=PySem.Heap.get?_push_of_some _ e
theorem fJ{b:Type}{l:List b}{i:Nat}{a:b}(h:l[i]?=some a):∃h:i<l.length,l[i]=a:=List.getElem?_eq_some_iff.mp h
theorem dB{b:Type}{l:List b}{i j:Nat}{a:b}(h:j≠i):(l.set i a)[j]?=l[j]?:=List.getElem?_set_ne (Ne.symm h)
theorem Gi{n:Nat}:0<=n:=Nat.zero_le n
theorem fO{n:Nat}:n<=n:=Nat.le_refl n
section
namespace L2
open PySem PySem.Spec PyProof.Rows
variable{w:World}{h:Heap}{t' i:Nat}{M:Model}{A:Around}{s:Shared}{pos:Pos}{pins:List (Addr×Obj)}{K:PySem.W.Frag}{tg:Expr}{op:CmpOp}{us:List Value}
noncomputable abbrev Key:=Sum Int Str
noncomputable def Aa:Key->Value->Bool|.inl k,v=>Value.isInt k v|.inr x,v=>Value.isStrOf x v
noncomputable def Oi(w:World):Key->Int|.inl k=>hashInt k|.inr x=>hashStr w x
theorem bh:∀{k:Key}{v:Value},Aa k v=true->(∃i t,k=Sum.inl i/\v=Value.int i t)\/(∃x t,k=Sum.inr x/\v=Value.str x t)|.inl i,v,h=>by obtain⟨t,e⟩:=Value.isInt_shape (k:=i) (v:=v) h;exact .inl ⟨i,t,rfl,e⟩|.inr x,v,h=>by obtain⟨t,e⟩:=Value.isStrOf_shape (x:=x) (v:=v) h;exact .inr ⟨x,t,rfl,e⟩
theorem By(a b:Int):decide ((Sum.inl a:Key)=Sum.inl b)=(a==b):=by
 by_cases e:a=b;.subst e;simp
 .have h:¬(Sum.inl a:Key)=Sum.inl b:=λq=>e (Sum.inl.inj q);rw[decide_eq_false h];exact(beq_eq_false_iff_ne.mpr e).symm
theorem Bs(a b:Str):decide ((Sum.inr a:Key)=Sum.inr b)=decide (a=b):=by
 by_cases e:a=b;.subst e;simp
 .have h:¬(Sum.inr a:Key)=Sum.inr b:=λq=>e (Sum.inr.inj q);rw[decide_eq_false h,decide_eq_false e]
theorem Bm(a:Int)(b:Str):decide ((Sum.inl a:Key)=Sum.inr b)=false:=decide_eq_false (λq=>nomatch q)
theorem Bq(a:Str)(b:Int):decide ((Sum.inr a:Key)=Sum.inl b)=false:=decide_eq_false (λq=>nomatch q)
noncomputable def rU(prog:Program)(w:World):PySem.KeyKind prog w Key where
 is:=Aa;hash:=Oi w;inj:=λv a b g f=>by
  rcases bh g with⟨i,t,rfl,rfl⟩|⟨x,t,rfl,rfl⟩
  . rcases bh f with⟨j,u,rfl,e⟩|⟨y,u,rfl,e⟩;.injection e with e1 _;rw[e1]
    .exact nomatch e
  . rcases bh f with⟨j,u,rfl,e⟩|⟨y,u,rfl,e⟩;.exact nomatch e
    .injection e with e1 _;rw[e1]
 byValue:=λk v h=>by rcases bh h with⟨i,t,rfl,rfl⟩|⟨x,t,rfl,rfl⟩<;>rfl
 pyHash:=λc h=>by
  rcases bh c with⟨i,t,rfl,rfl⟩|⟨x,t,rfl,rfl⟩;.exact wpAny_pyHash_int h
  .exact wpAny_pyHash_str h
 eqBool:=λm c h=>by
  rcases bh m with⟨i,t,rfl,rfl⟩|⟨x,t,rfl,rfl⟩
  . rcases bh c with⟨j,u,rfl,rfl⟩|⟨y,u,rfl,rfl⟩;.rw[By]at h;exact wpAny_eqBool_int h
    .rw[Bm]at h;exact int_str i t y u _ _ _ _ h
  . rcases bh c with⟨j,u,rfl,rfl⟩|⟨y,u,rfl,rfl⟩;.rw[Bq]at h;exact str_int x t j u _ _ _ _ h
    .rw[Bs]at h;exact wpAny_eqBool_str h
 «strs»:=λk x t v h=>by
  rcases bh h with⟨i,u,rfl,e⟩|⟨y,u,rfl,e⟩;.exact nomatch e
  .injection e with e1 _;subst e1;cases v<;>rfl
inductive V where|non|bl(b:Bool)|int(i:Int)|str(x:Str)|Qp(b:Array UInt8)|flt(b:UInt64)|ref(a:Addr)|ty(n:String)deriving DecidableEq
def RelV:V->Value->Prop|.non,u=>u=Value.none|.bl b,u=>u=Value.bool b|.int i,u=>∃t,u=Value.int i t|.str x,u=>∃t,u=Value.str x t|.Qp b,u=>∃t,u=Value.bytes b t|.flt b,u=>∃t,u=Value.float b t|.ref a,u=>u=Value.ref a|.ty n,u=>u=Value.type n
abbrev Vals:List V->List Value->Prop:=Paired RelV
theorem Vals.length{xs:List V}{us:List Value}(r:Vals xs us):xs.length=us.length:=Paired.length r
theorem Vals.get:∀{xs:List V}{us:List Value}{i:Nat}{x:V},Vals xs us->xs[i]?=some x->∃u,us[i]?=some u/\RelV x u|_,_,_,_,.nil,e=>by simp at e|_,_,0,_,.cons r _,e=>by simp at e;subst e;exact⟨_,rfl,r⟩|_,_,i+1,x,.cons _ t,e=>by obtain⟨u,h1,a⟩:=Vals.get (i:=i) (x:=x) t (by simpa using e);exact⟨u,by simpa using h1,a⟩
theorem Vals.set{x:V}{u:Value}(r:RelV x u):∀{xs:List V}{us:List Value}(i:Nat),Vals xs us->Vals (xs.set i x) (us.set i u)|_,_,_,.nil=>.nil|_,_,0,.cons _ t=>.cons r t|_,_,i+1,.cons q t=>.cons q (Vals.set r i t)
theorem Vals.append:∀{xs ys:List V}{us ws:List Value},Vals xs us->Vals ys ws->Vals (xs++ys) (us++ws)|_,_,_,_,.nil,s=>s|_,_,_,_,.cons r t,s=>.cons r (Vals.append t s)
def Jy:Option V->Option Value->Prop|some v,some u=>RelV v u|none,none=>True|_,_=>False
def KV{a:Type}:List (a×V)->List (a×Value)->Prop:=Paired λ(p:a×V)(q:a×Value)=>p.1=q.1/\RelV p.2 q.2
noncomputable def kV:Key->V|.inl i=>.int i|.inr x=>.str x
inductive HO where|lst(xs:List V)|tup(xs:List V)|dK(kvs:List (Key×V))|dT(kvs:List (List Key×V))|set(S:Int->Bool)(n:Nat)|ins(C dx:Addr)(fs:List (Str×V))|own(x:Addr)|xd(fs:List (Str×V))|met(f x:Addr)|wH(lo hi:Int)|cQ(o:Obj)(u:HO)|Es(ps:Array Value)|ext(φ:Heap->Prop)
noncomputable abbrev Hp:=Addr->Option HO
variable{H:Hp}
noncomputable def upd(H:Hp)(a:Addr)(o:HO):Hp:=λb=>if b=a then some o else H b
theorem aH{a:Addr}{o:HO}:upd H a o a=some o:=by unfold upd;rw[if_pos rfl]
theorem ao{a b:Addr}{o:HO}(h:b≠a):upd H a o b=H b:=by unfold upd;rw[if_neg h]
theorem cZ{a b:Addr}{o:HO}(h:H a=some o)(h':H b=none):a≠b:=by intro e;subst e;rw[h]at h';cases h'
section
variable(P:Program)(w:World)
def bO(H:Hp)(h:Heap)(a:Addr):HO->Prop|.lst xs=>xs.length<=sizeLine/\∃(b:List Value)(n:Nat),Vals xs b/\h.get? a=some {cls:=.type "list",data:=.seq b.toArray n}|.tup xs=>xs.length<=sizeLine/\∃b:List Value,Vals xs b/\IsTup h a b.toArray|.dK c=>c.length<=sizeLine/\(a==sysModules)=false/\∃k,KV c k/\h.DictOf (rU P w) a k|.dT c=>c.length<=sizeLine/\(a==sysModules)=false/\∃xs:List (List Key×Addr×Value),Paired (λ(p:List Key×V)(q:List Key×Addr×Value)=>p.1=q.1/\H q.2.1=some (.tup (p.1.map kV))/\RelV p.2 q.2.2) c xs/\∃o m y,h.get? a=some o/\o.ExactDict/\o.data=.dict m y/\m.toList=xs.map (entryOfKey (tupleKind (rU P w)))/\(xs.map (·.1)).Nodup|.set S n=>h.SetOf (intKind P w) a S n|.ins C g fs=>H g=some (.own a)/\fs.length<=1000/\g≠a/\h.get? a=some (PySem.W.instObj C g)/\∃e,h.Ns1 g e/\(∀f,Jy (fs.lookup f) (e f))/\PySem.Within e (fs.map (·.1))|.own _=>∃o,h.get? a=some o|.xd fs=>∃e,h.Ns1 a e/\∀f,Jy (fs.lookup f) (e f)|.wH lo z=>∃t u v,h.get? a=some {cls:=.type "range",data:=.fields #[.int lo t,.int z u,.int 1 v]}|.cQ o u=>h.get? a=some o/\bO H h a u|.Es ps=>h.get? a=some {cls:=.none,data:=.fields ps}|.met f x=>h.get? a=some (methodObj (.ref f) (.ref x))|.ext j=>j h/\(∃o,h.get? a=some o)/\∀h1 r:Heap,j h1->(∀o,h1.get? a=some o->r.get? a=some o)->j r
def kY(H:Hp)(h:Heap):Prop:=∀a o,H a=some o->bO P w H h a o
end
section
variable{P:Program}{w:World}{H H':Hp}{h h':Heap}{a:Addr}{o:HO}
theorem bO.lt(x:bO P w H h a o):a<h.objs.size:=by cases o with|lst xs=>obtain⟨_,_,_,_,e⟩:=x;exact lt_size e|tup xs=>obtain⟨_,_,_,p⟩:=x;exact p.lt|dK b=>obtain⟨_,_,_,_,o,_,_,e,_⟩:=x;exact lt_size e|dT b=>obtain⟨_,_,_,_,o,_,_,e,_⟩:=x;exact lt_size e|set S n=>obtain⟨o,_,_,_,e,_⟩:=x;exact lt_size e|ins C c fs=>obtain⟨_,_,_,e,_⟩:=x;exact lt_size e|own y=>obtain⟨_,e⟩:=x;exact lt_size e|xd fs=>obtain⟨_,⟨_,_,_,e,_⟩,_⟩:=x;exact lt_size e|wH lo g=>obtain⟨_,_,_,e⟩:=x;exact lt_size e|cQ j u=>obtain⟨e,_⟩:=x;exact lt_size e|Es ps=>exact lt_size (show h.get? a=some _ from x)|met f y=>exact lt_size (show h.get? a=some _ from x)|ext k=>obtain⟨_,⟨_,e⟩,_⟩:=x;exact lt_size e
theorem Paired.JX{g j:Type}{F G:g->j->Prop}:∀{c:List g}{e:List j},Paired F c e->(∀a b,F a b->G a b)->Paired G c e|_,_,.nil,_=>.nil|_,_,.cons r t,f=>.cons (f _ _ r) (Paired.JX t f)
theorem bO.stay(x:bO P w H h a o)(k:∀b u,(b=a\/H b=some (.own a))->h.get? b=some u->h'.get? b=some u)(ho:∀b,H b=some (.own a)->H' b=some (.own a))(I:∀b xs,H b=some (.tup xs)->H' b=some (.tup xs)):bO P w H' h' a o:=by induction o with|lst xs=>obtain⟨z,B,n,r,e⟩:=x;exact⟨z,B,n,r,k _ _ (.inl rfl) e⟩|tup xs=>obtain⟨z,B,r,g,e,c⟩:=x;exact⟨z,B,r,g,k _ _ (.inl rfl) e,c⟩|dK E=>obtain⟨z,y,J,r,g,j,m,e,c⟩:=x;exact⟨z,y,J,r,g,j,m,k _ _ (.inl rfl) e,c⟩|dT E=>obtain⟨z,y,xs,r,g,j,m,e,c⟩:=x;exact⟨z,y,xs,Paired.JX r λp q z=>⟨z.1,I _ _ z.2.1,z.2.2⟩,g,j,m,k _ _ (.inl rfl) e,c⟩|set S n=>obtain⟨g,j,m,t,e,c⟩:=x;exact⟨g,j,m,t,k _ _ (.inl rfl) e,c⟩|ins C O fs=>obtain⟨d,z,ne,e,F,⟨G,j,m,L,c⟩,r⟩:=x;exact⟨ho _ d,z,ne,k _ _ (.inl rfl) e,F,⟨G,j,m,k _ _ (.inr d) L,c⟩,r⟩|own y=>obtain⟨g,e⟩:=x;exact⟨g,k _ _ (.inl rfl) e⟩|xd fs=>obtain⟨F,⟨G,j,m,e,c⟩,r⟩:=x;exact⟨F,⟨G,j,m,k _ _ (.inl rfl) e,c⟩,r⟩|wH lo Q=>obtain⟨t,u,v,e⟩:=x;exact⟨t,u,v,k _ _ (.inl rfl) e⟩|cQ g u N=>obtain⟨e,q⟩:=x;exact⟨k _ _ (.inl rfl) e,N q⟩|Es ps=>have e:h.get? a=some {cls:=.none,data:=.fields ps}:=x;show h'.get? a=some {cls:=.none,data:=.fields ps};exact k a _ (.inl rfl) e|met f y=>have e:h.get? a=some (methodObj (.ref f) (.ref y)):=x;show h'.get? a=some (methodObj (.ref f) (.ref y));exact k a _ (.inl rfl) e|ext U=>obtain⟨p,⟨o,e⟩,st⟩:=x;exact⟨st _ _ p λo q=>k _ _ (.inl rfl) q,⟨o,k _ _ (.inl rfl) e⟩,st⟩
theorem kY.lt(x:kY P w H h)(e:H a=some o):a<h.objs.size:=(x a o e).lt
theorem kY.fresh(x:kY P w H h)(e:h.objs.size<=a):H a=none:=by cases q:H a with|none=>rfl|some u=>exact absurd (lt_of_lt_of_le (x.lt q) e) (lt_irrefl _)
theorem kY.kept(x:kY P w H h)(k:∀b u,h.get? b=some u->h'.get? b=some u):kY P w H h':=λa o e=>(x a o e).stay (λb u _ q=>k b u q) (λ_ q=>q) λ_ _ q=>q
theorem kY.laid(x:kY P w H h)(k:∀b u,h.get? b=some u->h'.get? b=some u)(m:h.objs.size<=a)(f:bO P w (upd H a o) h' a o):kY P w (upd H a o) h':=λb u e=>by
 have g:=x.fresh m;by_cases j:b=a;.subst j;rw[aH]at e;cases e;exact f
 .rw[ao j]at e;exact(x b u e).stay (λc v _ q=>k c v q) (λc q=>by rw[ao (cZ q g)];exact q) λc xs q=>by rw[ao (cZ q g)];exact q
end
def Rd(H:Hp)(a:Addr)(u:HO):Prop:=H a=some u\/∃o,H a=some (.cQ o u)
theorem Rd.ok{P:Program}{a:Addr}{u:HO}(r:Rd H a u)(x:kY P w H h):bO P w H h a u:=by
 rcases r with r|⟨o,r⟩;.exact x a u r
 .obtain⟨_,q⟩:=x a _ r;exact q
def KZ:Option HO->Prop|some (.lst _)=>True|some (.dK _)=>True|some (.dT _)=>True|some (.set _ _)=>True|some (.ins _ _ _)=>True|some (.ext _)=>True|_=>False
section
variable{P:Program}{w:World}{H:Hp}{h h':Heap}{x e:Addr}{o':HO}
theorem kY.write(ok:kY P w H h)(f:KZ (H x))(he:e=x\/H e=some (.own x))(k:∀b u,b≠e->h.get? b=some u->h'.get? b=some u)(j:∃u,h'.get? e=some u)(m:bO P w (upd H x o') h' x o'):kY P w (upd H x o') h':=λb u q=>by
 have n:∀c y,H c=some (.own y)->c≠x:=λc y r z=>by subst z;rw[r]at f;exact f
 have p:∀c xs,H c=some (.tup xs)->c≠x:=λc xs r z=>by subst z;rw[r]at f;exact f
 by_cases g:b=x;.subst g;rw[aH]at q;cases q;exact m
 . rw[ao g]at q;by_cases a:b=e
   . have o:H b=some (.own x):=by
      rcases he with z|z;.exact absurd (a.trans z) g
      .rw[a];exact z
     rw[q]at o;cases o;obtain⟨v,t⟩:=j;exact⟨v,by rw[a];exact t⟩
   . refine(ok b u q).stay (λc v hc r=>k c v ?_ r) (λc r=>by rw[ao (n c b r)];exact r) λc xs r=>by rw[ao (p c xs r)];exact r
     rcases hc with rfl|hc;.exact a
     . rintro rfl;rcases he with z|z;.exact n c b hc z
       .rw[hc]at z;cases z;exact g rfl
end
structure Un(fs ex:List Addr)(H H':Hp)(h h':Heap):Prop where
 keep:∀b o,h.get? b=some o->H b=none->b∉fs->b∉ex->h'.get? b=some o
 slot:∀b o,h.get? b=some o->H b=none->b∈fs->b∉ex->∃sl,h'.get? b=some {o with slots:=sl}free:∀b o,h.get? b=some o->H b=none->b∉ex->H' b=none
 there:∀b o,h.get? b=some o->b∉ex->∃o',h'.get? b=some o'
 tups:∀b xs,H b=some (.tup xs)->H' b=some (.tup xs)kE:∀b o u,H b=some (.cQ o u)->H' b=some (.cQ o u)m7:∀b ps,H b=some (.Es ps)->∃more,H' b=some (.Es (ps++more))
section
variable{fs fs' ex ex':List Addr}{H H1 H2:Hp}{h h1 h2 h':Heap}{a x e:Addr}{o:HO}
theorem Un.any(u:Un fs ex H H1 h h1){b:Addr}{c:Obj}(q:h.get? b=some c)(n:H b=none)(hx:b∉ex):∃g,h1.get? b=some {c with slots:=g}:=by
 by_cases f:b∈fs;.exact u.slot b c q n f hx
 .exact⟨c.slots,u.keep b c q n f hx⟩
theorem Un.kept(k:∀b u,h.get? b=some u->h'.get? b=some u):Un fs ex H H h h':=⟨λb c q _ _ _=>k b c q,λb c q _ _ _=>⟨c.slots,k b c q⟩,λ_ _ _ n _=>n,λb c q _=>⟨c,k b c q⟩,λ_ _ q=>q,λ_ _ _ q=>q,λ_ ps q=>⟨#[],by rw[q];simp⟩⟩
theorem Un.refl:Un fs ex H H h h:=Un.kept λ_ _ q=>q
theorem Un.laid(k:∀b u,h.get? b=some u->h'.get? b=some u)(f:h.objs.size<=a)(c:H a=none):Un fs ex H (upd H a o) h h' where
 keep:=λb u q _ _ _=>k b u q;slot:=λb u q _ _ _=>⟨u.slots,k b u q⟩;free:=λb u q n _=>by rw[ao (ne_of_lt (lt_of_lt_of_le (lt_size q) f))];exact n
 there:=λb u q _=>⟨u,k b u q⟩;tups:=λb xs q=>by rw[ao (cZ q c)];exact q
 kE:=λb u xs q=>by rw[ao (cZ q c)];exact q
 m7:=λb ps q=>⟨#[],by rw[ao (cZ q c),q];simp⟩
theorem Un.write(f:KZ (H x))(he:e=x\/H e=some (.own x))(k:∀b u,b≠e->h.get? b=some u->h'.get? b=some u)(g:∃u,h'.get? e=some u):Un fs ex H (upd H x o) h h':=by
 have hx:∀b,H b=none->b≠x:=λb n z=>by subst z;rw[n]at f;exact f
 have m:∀b,H b=none->b≠e:=λb n z=>by
  subst z;rcases he with r|r;.exact hx b n r
  .rw[n]at r;cases r
 have j:∀b u,H b=some u->¬ KZ (some u)->b≠x:=λb u q p z=>by subst z;rw[q]at f;exact p f
 refine⟨λb u q n _ _=>k b u (m b n) q,λb u q n _ _=>⟨u.slots,k b u (m b n) q⟩,λb u q n _=>by rw[ao (hx b n)];exact n,λb u q _=>?_,λb xs q=>by rw[ao (j b _ q λz=>z)];exact q,λb u xs q=>by rw[ao (j b _ q λz=>z)];exact q,λb ps q=>⟨#[],by rw[ao (j b _ q λz=>z),q];simp⟩⟩;by_cases c:b=e;.subst c;exact g
 .exact⟨u,k b u c q⟩
end
noncomputable def Lx(h:Heap)(H:Hp):List Addr:=(List.range h.objs.size).filter λa=>(H a).isSome
noncomputable def mO(h:Heap)(H:Hp):Heap:=PySem.W.hideAll h (Lx h H)
theorem tH(h:Heap)(H:Hp):(mO h H).objs.size=h.objs.size:=PySem.W.hideAll_size _ _
theorem uX{b:Addr}{o:Obj}(e:h.get? b=some o)(n:H b=none):(mO h H).get? b=some o:=PySem.W.hideAll_get _ e λa=>by have q:(H b).isSome=true:=(List.mem_filter.mp a).2;rw[n]at q;simp at q
theorem xY{b:Addr}{o:Obj}(e:(mO h H).get? b=some o):h.get? b=some o/\H b=none:=by have a:h.get? b=some o:=PySem.W.of_hideAll (Lx h H) e;refine⟨a,?_⟩;cases q:H b with|none=>rfl|some x=>have c:b∈Lx h H:=List.mem_filter.mpr ⟨List.mem_range.mpr (lt_size a),by simp[q]⟩;have z:(mO h H).get? b=none:=PySem.W.hideAll_none (Lx h H) c;rw[z]at e;cases e
structure Mod(K:PySem.W.Frag)(mg:Str->Option Value)(base:Heap):Prop where
 Qs:K.In base
 glob:base.Ns mainGlobals mg
 blt:∃mb,base.Ns builtinsNs mb/\∀x:Str,x≠"__name__"->mb x=bootBuiltins x
 nolimit:base.NoLimit
structure Cx where
 prog:Program
 w:World
 K:PySem.W.Frag
 mg:Str->Option Value
 base:Heap
 A:Around
 N:List Str
 s₀:Shared
 H₀:Hp
 env:Env
 outer:List Env
 stack:List Env
 ex:List Addr
 fn:Str->Bool
 calm:Bool
 pn:List (Addr×Obj)xe:Value->Shared->Prop
variable{X:Cx}
noncomputable def frs(l:List Env):List Addr:=l.filterMap (·.frame)
noncomputable abbrev Cx.fs(X:Cx):List Addr:=frs X.outer
def vM(a:Scope)(x:Str):Prop:=a.names.lookup x=some .local\/a.names.lookup x=some .cell\/a.names.lookup x=some .free
def Loc(a:Scope)(x:Str):Prop:=a.names.lookup x=some .local\/a.names.lookup x=some .cell
def Look(env:Env)(h:Heap)(m:Str->Option Value)(x:Str)(u:Value):Prop:=(env.kindOf x=some .local/\m x=some u)\/((env.kindOf x=some .cell\/env.kindOf x=some .free)/\∃c,env.cells.lookup x=some c/\h.IsCell c (some u))
structure Cx.Ok(X:Cx):Prop where
 mod:Mod X.K X.mg X.base
 kind:X.env.scope.kind=.function
 glob:X.env.globals=mainGlobals
 blt:X.env.builtins=builtinsNs
 above:X.s₀.heap.objs.size<=X.env.locals
 inj:∀x y c,X.env.cells.lookup x=some c->X.env.cells.lookup y=some c->x=y
 has:∀x,(X.env.kindOf x=some .cell\/X.env.kindOf x=some .free)->∃c,X.env.cells.lookup x=some c
 cab:∀x c,X.fn x=true->X.env.cells.lookup x=some c->X.s₀.heap.objs.size<=c
 hd:X.calm=true->X.A.handled=none
 frames:X.A.frames=some X.stack
 Mm:X.stack=X.outer\/(X.stack=X.env::X.outer/\X.env.frame=some X.env.locals)RG:∀b∈X.ex,b≠X.env.locals/\∀x c,X.env.cells.lookup x=some c->c≠b
 bs:∀b o,X.base.get? b=some o->X.s₀.heap.get? b=some o/\X.H₀ b=none
 Ah:X.base.objs.size<=X.s₀.heap.objs.size
 wI:∀b o,X.base.get? b=some o->b∉X.ex
 yV:∀b∈X.ex,b∉X.fs
 jW:X.s₀.heap.FunFrames X.base X.outer
 Hf:∀b∈X.fs,X.H₀ b=none
structure Inv(X:Cx)(pins:List (Addr×Obj))(σ:List (Option V))(H:Hp)(s:Shared):Prop where
 ok:X.Ok
 os:s.os=X.s₀.os
 bare:AllBare s.gens
 base:Un X.fs X.ex X.H₀ H X.s₀.heap s.heap
 loc:∃m,s.heap.Ns X.env.locals m/\∀(i:Nat)(x:Str)(v:V),X.N[i]?=some x->σ[i]?=some (some v)->vM X.env.scope x->∃u,RelV v u/\Look X.env s.heap m x u
 cell:∀x c,X.env.cells.lookup x=some c->∃v,s.heap.IsCell c v
 free:H X.env.locals=none
 fu:∀x c,X.env.cells.lookup x=some c->H c=none
 pin:∀p∈X.pn++pins,s.heap.get? p.1=some p.2/\H p.1=none/\p.1≠X.env.locals/\p.1∉X.fs/\∀v,p.2.data≠.cell v
 hok:kY X.prog X.w H s.heap
 len:σ.length=X.N.length
section
variable{X:Cx}{pins:List (Addr×Obj)}{σ:List (Option V)}{H H':Hp}{s:Shared}{h':Heap}
theorem Cx.Ok.M9(ok:X.Ok){b:Addr}{o:Obj}(e:X.base.get? b=some o):b∉X.fs:=λa=>by have:=(ok.jW.mem a).1;rw[e]at this;cases this
theorem Inv.bs(I:Inv X pins σ H s):∀b o,X.base.get? b=some o->s.heap.get? b=some o/\H b=none:=λb o e=>⟨I.base.keep b o (I.ok.bs b o e).1 (I.ok.bs b o e).2 (I.ok.M9 e) (I.ok.wI b o e),I.base.free b o (I.ok.bs b o e).1 (I.ok.bs b o e).2 (I.ok.wI b o e)⟩
theorem Inv.bk(I:Inv X pins σ H s):∀b o,X.base.get? b=some o->s.heap.get? b=some o:=λb o e=>(I.bs b o e).1
theorem Inv.mod(I:Inv X pins σ H s):Mod X.K X.mg X.base:=I.ok.mod
theorem Inv.zy(I:Inv X pins σ H s):X.K.In s.heap:=I.ok.mod.Qs.keeps I.bk
theorem Inv.lt(I:Inv X pins σ H s):X.env.locals<s.heap.objs.size:=let⟨_,hn,_⟩:=I.loc;hn.lt
theorem Inv.sz(I:Inv X pins σ H s):X.s₀.heap.objs.size<=s.heap.objs.size:=le_trans I.ok.above (le_of_lt I.lt)
theorem Inv.Ot(I:Inv X pins σ H s){a:Addr}(h:s.heap.objs.size<=a):a∉X.fs:=λb=>by obtain⟨_,o,ho,_⟩:=I.ok.jW.mem b;exact absurd (lt_of_lt_of_le (lt_size ho) (le_trans I.sz h)) (lt_irrefl _)
theorem Inv.Ci(I:Inv X pins σ H s):∀x c,X.env.cells.lookup x=some c->c≠X.env.locals:=λx c e z=>by obtain⟨v,o,ho,hd⟩:=I.cell x c e;obtain⟨m,⟨f,g,j,a,b,_⟩,_⟩:=I.loc;rw[z,a]at ho;cases ho;rw[b]at hd;cases hd
theorem Inv.jW(I:Inv X pins σ H s):s.heap.FunFrames X.base X.outer:=by
 have all:∀(l:List Env),(∀b∈frs l,b∈X.fs)->X.s₀.heap.FunFrames X.base l->s.heap.FunFrames X.base l:=by intro l;induction l with|nil=>intro _ _;trivial|cons env r g=>intro hs j;obtain⟨k,⟨L,o,a,m,ho,hd⟩,hr⟩:=j;have c:L∈X.fs:=hs L (by unfold frs;rw[filterMap_cons,a];exact mem_cons_self);obtain⟨n,e⟩:=I.base.slot L o ho (I.ok.Hf L c) c λz=>I.ok.yV L z c;exact⟨k,⟨L,_,a,m,e,hd⟩,g (λb f=>hs b (by unfold frs;rw[filterMap_cons,a];exact mem_cons_of_mem _ f)) hr⟩
 exact all X.outer (λ_ f=>f) I.ok.jW
theorem Inv.stack(I:Inv X pins σ H s):s.heap.FunFrames X.base X.stack:=by
 rcases I.ok.Mm with e|⟨e,a⟩;.rw[e];exact I.jW
 .rw[e];obtain⟨m,b,_⟩:=I.loc;refine .cons (by rw[I.ok.kind];decide) a b ?_ I.jW;exact Heap.get?_none_of_le (le_trans I.ok.Ah I.ok.above)
theorem Inv.mq(I:Inv X pins σ H s):∀b∈frs X.stack,b∈X.env.locals::X.fs:=λb a=>by
 rcases I.ok.Mm with e|⟨e,c⟩;.rw[e]at a;exact mem_cons_of_mem _ a
 .rw[e]at a;unfold frs at a;rw[filterMap_cons,c]at a;exact a
theorem Inv.rY(I:Inv X pins σ H s):∀b∈frs X.stack,H b=none:=λb hb=>by
 rcases mem_cons.mp (I.mq b hb)with e|hb;.rw[e];exact I.free
 .obtain⟨_,o,ho,_⟩:=I.ok.jW.mem hb;exact I.base.free b o ho (I.ok.Hf b hb) λz=>I.ok.yV b z hb
theorem Inv.step{g':Array GenState}{d':Drawn}{ch:List Addr}(I:Inv X pins σ H s)(a:∀b∈ch,(b∈X.ex\/X.s₀.heap.objs.size<=b)/\b≠X.env.locals/\(∀x c,X.env.cells.lookup x=some c->c≠b)/\∀p∈X.pn++pins,p.1≠b)(keep:∀b o,b≠X.env.locals->b∉X.fs->b∉ch->s.heap.get? b=some o->H b=none->h'.get? b=some o)(slot:∀b o,b≠X.env.locals->b∈X.fs->b∉ch->s.heap.get? b=some o->H b=none->∃E,h'.get? b=some {o with slots:=E})(free:∀b o,b∉ch->s.heap.get? b=some o->H b=none->H' b=none)(there:∀b o,b∉ch->s.heap.get? b=some o->∃t,h'.get? b=some t)(tups:∀b xs,H b=some (.tup xs)->H' b=some (.tup xs))(kE:∀b o u,H b=some (.cQ o u)->H' b=some (.cQ o u))(m7:∀b ps,H b=some (.Es ps)->∃more,H' b=some (.Es (ps++more)))(ns:∀m,s.heap.Ns X.env.locals m->h'.Ns X.env.locals m)(hok:kY X.prog X.w H' h')(N:AllBare g'):Inv X pins σ H' {s with heap:=h',gens:=g',drawn:=d',toks:=t'}:=by
 have G:∀b o,X.s₀.heap.get? b=some o->b≠X.env.locals:=λb o e=>ne_of_lt (lt_of_lt_of_le (lt_size e) I.ok.above);have C:∀b o,X.s₀.heap.get? b=some o->b∉X.ex->b∉ch:=λb o e hx j=>by
  rcases(a b j).1 with z|z;.exact hx z
  .exact absurd (lt_of_lt_of_le (lt_size e) z) (lt_irrefl _)
 have f:∀x c,X.env.cells.lookup x=some c->∀v,s.heap.IsCell c v->h'.IsCell c v:=λx c e v⟨o,ho,hd⟩=>by
  have y:c∉ch:=λz=>(a c z).2.2.1 x c e rfl;by_cases hc:c∈X.fs;.obtain⟨E,q⟩:=slot c o (I.Ci x c e) hc y ho (I.fu x c e);exact⟨_,q,hd⟩
  .exact⟨o,keep c o (I.Ci x c e) hc y ho (I.fu x c e),hd⟩
 refine⟨I.ok,I.os,N,⟨λb o e n j hx=>?_,λb o e n j hx=>?_,λb o e n hx=>?_,λb o e hx=>?_,λb xs e=>tups b xs (I.base.tups b xs e),λb o xs e=>kE b o xs (I.base.kE b o xs e),λb ps e=>?_⟩,?_,λx c e=>?_,?_,λx c e=>?_,λp J=>?_,hok,I.len⟩;.exact keep b o (G b o e) j (C b o e hx) (I.base.keep b o e n j hx) (I.base.free b o e n hx)
 .obtain⟨E,g⟩:=I.base.slot b o e n j hx;obtain⟨F,B⟩:=slot b _ (G b o e) j (C b o e hx) g (I.base.free b o e n hx);exact⟨F,B⟩
 .obtain⟨t,g⟩:=I.base.there b o e hx;exact free b t (C b o e hx) g (I.base.free b o e n hx)
 .obtain⟨t,g⟩:=I.base.there b o e hx;exact there b t (C b o e hx) g
 .obtain⟨m1,g⟩:=I.base.m7 b ps e;obtain⟨O,B⟩:=m7 b _ g;exact⟨m1++O,by rw[B,Array.append_assoc]⟩
 . obtain⟨m,Q,U⟩:=I.loc;refine⟨m,ns m Q,λi x v g B W=>?_⟩;obtain⟨u,r,l⟩:=U i x v g B W;refine⟨u,r,?_⟩;rcases l with l|⟨k,c,e,z⟩;.exact .inl l
   .exact .inr ⟨k,c,e,f x c e _ z⟩
 .obtain⟨v,z⟩:=I.cell x c e;exact⟨v,f x c e v z⟩
 .obtain⟨m,⟨o,_,_,ho,_⟩,_⟩:=I.loc;exact free _ o (λz=>(a _ z).2.1 rfl) ho I.free
 .obtain⟨v,o,ho,hd⟩:=I.cell x c e;exact free c o (λz=>(a c z).2.2.1 x c e rfl) ho (I.fu x c e)
 .obtain⟨e,n,ne,L,d⟩:=I.pin p J;have y:p.1∉ch:=λz=>(a p.1 z).2.2.2 p J rfl;exact⟨keep p.1 p.2 ne L y e n,free p.1 p.2 y e n,ne,L,d⟩
theorem Inv.un(I:Inv X pins σ H s)(u:Un X.fs [] H H' s.heap h')(hok:kY X.prog X.w H' h'):Inv X pins σ H' {s with heap:=h',toks:=t'}:=by obtain⟨m,⟨o,q,t,ho,r⟩,_⟩:=id I.loc;obtain⟨v,j⟩:=u.any ho I.free (by simp);exact I.step (g':=s.gens) (d':=s.drawn) (ch:=[]) (λ_ z=>nomatch z) (λb o _ c _ e n=>u.keep b o e n c (by simp)) (λb o _ c _ e n=>u.slot b o e n c (by simp)) (λb o _ e n=>u.free b o e n (by simp)) (λb o _ e=>u.there b o e (by simp)) u.tups u.kE u.m7 (λx k=>by obtain⟨y,f,g,a,p⟩:=k;rw[ho]at a;cases a;exact⟨_,f,g,j,p⟩) hok I.bare
theorem Inv.call{g':Array GenState}{d':Drawn}{ch:List Addr}(I:Inv X pins σ H s)(u:Un (frs X.stack) ch H H' s.heap h')(hok:kY X.prog X.w H' h')(q:AllBare g')(a:∀b∈ch,(b∈X.ex\/X.s₀.heap.objs.size<=b)/\b≠X.env.locals/\(∀x c,X.env.cells.lookup x=some c->c≠b)/\∀p∈X.pn++pins,p.1≠b):Inv X pins σ H' {s with heap:=h',gens:=g',drawn:=d',toks:=t'}:=by obtain⟨m,⟨o,B,C,ho,r⟩,_⟩:=id I.loc;obtain⟨E,g⟩:=u.any ho I.free λz=>(a _ z).2.1 rfl;exact I.step (ch:=ch) a (λb o g t hc e n=>u.keep b o e n (λz=>(mem_cons.mp (I.mq b z)).elim g t) hc) (λb o _ _ hc e n=>u.any e n hc) (λb o hc e n=>u.free b o e n hc) (λb o hc e=>u.there b o e hc) u.tups u.kE u.m7 (λF v=>by obtain⟨G,j,k,f,y⟩:=v;rw[ho]at f;cases f;exact⟨_,j,k,g,y⟩) hok q
theorem Inv.turned{a:Addr}(I:Inv X pins σ H s)(k:∀b o,b≠a->s.heap.get? b=some o->h'.get? b=some o)(j:H a=none)(f:a≠X.env.locals)(h1:a∈X.ex\/X.s₀.heap.objs.size<=a)(t:∀x c,X.env.cells.lookup x=some c->c≠a)(y:∀p∈X.pn++pins,p.1≠a):Inv X pins σ H {s with heap:=h',toks:=t'}:=by
 have g:∀b u,H b=some u->b≠a:=λb u e z=>by rw[z,j]at e;cases e
 refine I.step (g':=s.gens) (d':=s.drawn) (ch:=[a]) (λb B=>?_) (λb o _ _ hc e _=>k b o (λz=>hc (by simp[z])) e) (λb o _ _ hc e _=>⟨o.slots,k b o (λz=>hc (by simp[z])) e⟩) (λ_ _ _ _ n=>n) (λb o hc e=>⟨o,k b o (λz=>hc (by simp[z])) e⟩) (λ_ _ e=>e) (λ_ _ _ e=>e) (λb ps e=>⟨#[],by rw[e];simp⟩) (λm C=>?_) (λb u e=>?_) I.bare
 . have e:b=a:=by simpa using B
   subst e;exact⟨h1,f,t,y⟩
 .obtain⟨o,E,F,ho,r⟩:=C;exact⟨o,E,F,k _ o (Ne.symm f) ho,r⟩
 . refine(I.hok b u e).stay (λc v hc q=>k c v ?_ q) (λ_ q=>q) λ_ _ q=>q;rcases hc with z|z;.rw[z];exact g b u e
   .exact g c _ z
theorem Inv.tok(I:Inv X pins σ H s)(t:Nat):Inv X pins σ H {s with toks:=t}:=I.un (h':=s.heap) (t':=t) Un.refl I.hok
theorem Inv.kept{t':Nat}(I:Inv X pins σ H s)(k:∀b u,s.heap.get? b=some u->h'.get? b=some u):Inv X pins σ H {s with heap:=h',toks:=t'}:=I.un (Un.kept k) (I.hok.kept k)
theorem Inv.laid{a:Addr}{o:HO}{t':Nat}(I:Inv X pins σ H s)(k:∀b u,s.heap.get? b=some u->h'.get? b=some u)(c:s.heap.objs.size<=a)(e:bO X.prog X.w (upd H a o) h' a o):Inv X pins σ (upd H a o) {s with heap:=h',toks:=t'}:=I.un (Un.laid k c (I.hok.fresh c)) (I.hok.laid k c e)
theorem Inv.write{x e:Addr}{o:HO}{t':Nat}(I:Inv X pins σ H s)(f:KZ (H x))(he:e=x\/H e=some (.own x))(k:∀b u,b≠e->s.heap.get? b=some u->h'.get? b=some u)(a:∃u,h'.get? e=some u)(c:bO X.prog X.w (upd H x o) h' x o):Inv X pins σ (upd H x o) {s with heap:=h',toks:=t'}:=I.un (Un.write f he k a) (I.hok.write f he k a c)
theorem Inv.rC{a:List (Addr×Obj)}(I:Inv X pins σ H s)(h:∀p∈a,s.heap.get? p.1=some p.2/\H p.1=none/\p.1≠X.env.locals/\p.1∉X.fs/\∀v,p.2.data≠.cell v):Inv X a σ H s:=⟨I.ok,I.os,I.bare,I.base,I.loc,I.cell,I.free,I.fu,λp b=>(mem_append.mp b).elim (λz=>I.pin p (List.mem_append_left _ z)) (h p),I.hok,I.len⟩
theorem nj{N:List Str}(c:N.Nodup){j:Nat}{x:Str}(a:N[i]?=some x)(b:N[j]?=some x):i=j:=by obtain⟨h1,e⟩:=fJ a;obtain⟨g,f⟩:=fJ b;exact(List.getElem_inj c).mp (e.trans f.symm)
theorem lV{E:Value->Shared->Prop}{x:Str}{v:V}{u:Value}{Q:Unit->Shared->Prop}(I:Inv X pins σ H s)(hN:X.N.Nodup)(L:X.N[i]?=some x)(hx:Loc X.env.scope x)(r:RelV v u)(h:∀s',Inv X pins (σ.set i (some v)) H s'->(∃a,SameBut a s.heap s'.heap/\(a=X.env.locals\/X.env.cells.lookup x=some a))->Q () s')(hf:X.fn x=true\/X.env.scope.names.lookup x=some .local:=by first|exact .inl rfl|exact .inr rfl|assumption):wpAny M A (storeName X.env x u) Q E s:=by
 obtain⟨m,hn,hl⟩:=id I.loc;have O:(X.env.scope.kind==.class||(X.env.scope.kind==.module&&X.env.locals !=X.env.globals))=false:=by rw[I.ok.kind];rfl
 have C:i<σ.length:=by rw[I.len];exact(fJ L).1
 have Ci:=I.Ci;have f:∀{a:Addr}{h':Heap},(∃o,s.heap.get? a=some o/\H a=none)->SameBut a s.heap h'->kY X.prog X.w H h':=λ{a h'}ha hs b ob e=>by
  obtain⟨_,_,t⟩:=ha;refine(I.hok b ob e).stay (λc Z hc q=>(hs.2 c ?_).trans q) (λ_ q=>q) λ_ _ q=>q;rintro rfl;rcases hc with rfl|hc;.rw[t]at e;cases e
  .rw[t]at hc;cases hc
 rcases hx with hk|hk
 . refine wpAny_storeName_local hk hn (λh' ab hs=>?_) O;obtain⟨oL,_,_,ac,_⟩:=id hn;refine h _ ⟨I.ok,I.os,I.bare,⟨λb o e n F hx=>?_,λb o e n F hx=>?_,I.base.free,λb o e hx=>?_,I.base.tups,I.base.kE,I.base.m7⟩,⟨_,ab,λj y v' g B e3=>?_⟩,λy c e=>?_,I.free,I.fu,λp hp=>?_,f ⟨oL,ac,I.free⟩ hs,by simpa using I.len⟩ ⟨_,hs,.inl rfl⟩;.exact(hs.2 b (ne_of_lt (lt_of_lt_of_le (lt_size e) I.ok.above))).trans (I.base.keep b o e n F hx)
   .obtain⟨sl,g⟩:=I.base.slot b o e n F hx;exact⟨sl,(hs.2 b (ne_of_lt (lt_of_lt_of_le (lt_size e) I.ok.above))).trans g⟩
   .obtain⟨o',g⟩:=I.base.there b o e hx;exact⟨o',(hs.2 b (ne_of_lt (lt_of_lt_of_le (lt_size e) I.ok.above))).trans g⟩
   . by_cases G:j=i;.subst G;rw[L]at g;cases g;rw[getElem?_set_self C]at B;cases B;exact⟨u,r,.inl ⟨hk,by simp⟩⟩
     . rw[dB G]at B;obtain⟨u',r',q⟩:=hl j y v' g B e3;refine⟨u',r',?_⟩;rcases q with⟨k,e⟩|⟨k,c,e,z⟩;.refine .inl ⟨k,?_⟩;have:y≠x:=λe=>G (nj hN g (e▸L));simp[this,e]
       .exact .inr ⟨k,c,e,z.sameBut hs (Ci y c e)⟩
   .obtain⟨Z,z⟩:=I.cell y c e;exact⟨Z,z.sameBut hs (Ci y c e)⟩
   .obtain⟨e,n,ne,nf,d⟩:=I.pin p hp;exact⟨(hs.2 p.1 ne).trans e,n,ne,nf,d⟩
 . have J:X.fn x=true:=by
    rcases hf with z|z;.exact z
    .rw[z]at hk;cases hk
   obtain⟨c,hc⟩:=I.ok.has x (.inl hk);obtain⟨Z,z⟩:=I.cell x c hc;refine wpAny_storeName_cell I.ok.kind hk hc z (λh' U hs=>?_);obtain⟨oc,W,Qt⟩:=id z;refine h {s with heap:=h'} ⟨I.ok,I.os,I.bare,⟨λb o e n F hx=>?_,λb o e n F hx=>?_,I.base.free,λb o e hx=>?_,I.base.tups,I.base.kE,I.base.m7⟩,⟨m,hn.sameBut hs (Ne.symm (Ci x c hc)),λj y v' g B e3=>?_⟩,λy c' e=>?_,I.free,I.fu,λp hp=>?_,f ⟨oc,W,I.fu x c hc⟩ hs,by simpa using I.len⟩ ⟨c,hs,.inr hc⟩;.exact(hs.2 b (ne_of_lt (lt_of_lt_of_le (lt_size e) (I.ok.cab x c J hc)))).trans (I.base.keep b o e n F hx)
   .obtain⟨sl,g⟩:=I.base.slot b o e n F hx;exact⟨sl,(hs.2 b (ne_of_lt (lt_of_lt_of_le (lt_size e) (I.ok.cab x c J hc)))).trans g⟩
   .obtain⟨o',g⟩:=I.base.there b o e hx;exact⟨o',(hs.2 b (ne_of_lt (lt_of_lt_of_le (lt_size e) (I.ok.cab x c J hc)))).trans g⟩
   . by_cases G:j=i;.subst G;rw[L]at g;cases g;rw[getElem?_set_self C]at B;cases B;exact⟨u,r,.inr ⟨.inl hk,c,hc,U⟩⟩
     . rw[dB G]at B;obtain⟨u',r',q⟩:=hl j y v' g B e3;refine⟨u',r',?_⟩;rcases q with q|⟨k,c',e,z'⟩;.exact .inl q
       .refine .inr ⟨k,c',e,z'.sameBut hs ?_⟩;rintro rfl;exact G (nj hN g (I.ok.inj _ _ _ e hc▸L))
   . by_cases Y:c'=c;.subst Y;exact⟨_,U⟩
     .obtain⟨w2,z2⟩:=I.cell y c' e;exact⟨w2,z2.sameBut hs Y⟩
   .obtain⟨e,n,ne,nf,d⟩:=I.pin p hp;refine⟨(hs.2 p.1 ?_).trans e,n,ne,nf,d⟩;intro q;rw[q,W]at e;have q':oc=p.2:=Option.some.inj e;exact d Z (by rw[<-q'];exact Qt)
theorem ir{E:Value->Shared->Prop}{x:Str}{v:V}{u:Value}{Q:Unit->Shared->Prop}(I:Inv X pins σ H s)(b:X.N.Nodup)(c:X.N[i]?=some x)(hx:Loc X.env.scope x)(r:RelV v u)(h:∀a,Inv X pins (σ.set i (some v)) H a->Q () a)(e:X.fn x=true\/X.env.scope.names.lookup x=some .local:=by first|exact .inl rfl|exact .inr rfl|assumption):wpAny M A (storeName X.env x u) Q E s:=lV I b c hx r (λa f _=>h a f) e
end
abbrev XK:=Value->Option Addr->Hp->Prop
noncomputable abbrev St:=List (Option V)
abbrev VK:=V->Hp->Prop
abbrev TE:=St->Hp->VK->Prop
abbrev TT:=St->Hp->(Bool->Hp->Prop)->Prop
abbrev TA:=St->Hp->(List V->Hp->Prop)->Prop
structure Ends where
 nx:St->Hp->Prop
 rt:VK
 bk:St->Hp->Prop:=λ_ _=>False
 ct:St->Hp->Prop:=λ_ _=>False
abbrev TS:=Ends->St->Hp->Prop
inductive EP(X:Cx)(pins:List (Addr×Obj))(σ:St)(Q:VK)(u:Value)(s':Shared):Prop where|mk(v:V)(H':Hp)(q0:Inv X pins σ H' s')(q1:RelV v u)(q2:Q v H')
def TP(X:Cx)(pins:List (Addr×Obj))(σ:St)(Q:Bool->Hp->Prop)(b:Bool)(c:Shared):Prop:=∃a,Inv X pins σ a c/\Q b a
inductive AP(X:Cx)(pins:List (Addr×Obj))(σ:St)(Q:List V->Hp->Prop)(us:List Value)(s':Shared):Prop where|mk(vs:List V)(H':Hp)(q0:Inv X pins σ H' s')(q1:Vals vs us)(q2:Q vs H')
def SP(X:Cx)(pins:List (Addr×Obj))(D:Ends)(f:Flow)(c:Shared):Prop:=match f with|.next=>∃a b,Inv X pins a b c/\D.nx a b|.brk=>∃a b,Inv X pins a b c/\D.bk a b|.cont=>∃a b,Inv X pins a b c/\D.ct a b|.ret u=>∃v a b,Inv X pins a b c/\RelV v u/\D.rt v b
def PE(X:Cx)(e:Expr)(t:TE):Prop:=∀(pins:List (Addr×Obj))(s:Shared)(σ:St)(H:Hp)(Q:VK),Inv X pins σ H s->t σ H Q->wpAny (model X.prog X.w) X.A (eval e X.env) (EP X pins σ Q) X.xe s
def PT(X:Cx)(e:Expr)(t:TT):Prop:=∀(pins:List (Addr×Obj))(s:Shared)(σ:St)(H:Hp)(Q:Bool->Hp->Prop),Inv X pins σ H s->t σ H Q->wpAny (model X.prog X.w) X.A (isTrue e X.env (eval e X.env)) (TP X pins σ Q) X.xe s
def PW(X:Cx)(e:Expr)(t:TT):Prop:=∀(a:Sem Value)(pins:List (Addr×Obj))(s:Shared)(σ:St)(H:Hp)(Q:Bool->Hp->Prop),Inv X pins σ H s->t σ H Q->wpAny (model X.prog X.w) X.A (isTrue e X.env a) (TP X pins σ Q) X.xe s
theorem PW.pt{e:Expr}{t:TT}(h:PW X e t):PT X e t:=h _
def PA(X:Cx)(a:List Expr)(t:TA):Prop:=∀(pos:Pos)(pins:List (Addr×Obj))(s:Shared)(σ:St)(H:Hp)(Q:List V->Hp->Prop),Inv X pins σ H s->t σ H Q->wpAny (model X.prog X.w) X.A (spliced (backTo pos (starEach a X.env))) (AP X pins σ Q) X.xe s
def PS(X:Cx)(st:Stmt)(t:TS):Prop:=∀(pins:List (Addr×Obj))(s:Shared)(σ:St)(H:Hp)(D:Ends),Inv X pins σ H s->t D σ H->wpAny (model X.prog X.w) X.A (exec st X.env) (SP X pins D) X.xe s
def kO(X:Cx)(st:List Stmt)(t:TS):Prop:=∀(pins:List (Addr×Obj))(s:Shared)(σ:St)(H:Hp)(D:Ends),Inv X pins σ H s->t D σ H->wpAny (model X.prog X.w) X.A (execs st X.env) (SP X pins D) X.xe s
theorem cF{b:Type}{t:Sem b}{Q c:b->Shared->Prop}{E:Value->Shared->Prop}(h:wpAny M A t Q E s)(e:∀a s,Q a s->c a s):wpAny M A t c E s:=wpAny_mono h e λ_ _ x=>x
section
variable{X:Cx}
def jN(i:Nat):TE:=λσ H Q=>∃v,σ[i]?=some (some v)/\Q v H
def tC(v:V):TE:=λ_ H Q=>Q v H
theorem gK{x:Str}(f:X.N[i]?=some x)(g:vM X.env.scope x)(hd:(x==("__debug__":Str))=false:=by decide)(b:(x==("__classdict__":Str))=false:=by decide):PE X (.Name x pos) (jN i):=by
 intro pins s σ H Q I h;obtain⟨v,e,h⟩:=h;obtain⟨m,j,k⟩:=I.loc;obtain⟨u,r,l⟩:=k i x v f e g;have fin:EP X pins σ Q u s:=⟨v,H,I,r,h⟩;rcases l with⟨hk,n⟩|⟨hk,c,hc,a⟩;.exact wpAny_Name (wpAny_loadName_local I.ok.kind hk j n fin) hd
 . rcases hk with hk|hk;.exact wpAny_Name (wpAny_loadName_cell I.ok.kind hk hc a fin) hd
   .exact wpAny_Name (wpAny_loadName_free I.ok.kind hk hc a fin b) hd
theorem gP{i j pos}:PE X (.Constant (.int i) j pos) (tC (.int i)):=λ_ _ _ H _ I h=>wpAny_Constant_int ⟨.int i,H,I.tok _,⟨_,rfl⟩,h⟩
theorem Ip{b j pos}:PE X (.Constant (.bool b) j pos) (tC (.bl b)):=λ_ _ _ H _ I h=>Constant_bool ⟨.bl b,H,I,rfl,h⟩
theorem Ce{j pos}:PE X (.Constant .none j pos) (tC .non):=λ_ _ _ H _ I h=>Constant_none ⟨.non,H,I,rfl,h⟩
def Gl(X:Cx)(x:Str):Prop:=X.env.kindOf x=some .globalImplicit
theorem rZ{E:Value->Shared->Prop}{σ:St}{x:Str}{u:Value}{Q:Value->Shared->Prop}(I:Inv X pins σ H s)(a:Gl X x)(b:X.mg x=some u)(h:Q u s)(hd:(x==("__debug__":Str))=false:=by decide):wpAny (model X.prog X.w) X.A (eval (.Name x pos) X.env) Q E s:=Calls.Name_function_global I.ok.kind a (Calls.loadGlobal_global (by rw[I.ok.glob];exact I.mod.glob.keeps I.bk) b h) hd
theorem iW{E:Value->Shared->Prop}{σ:St}{x:Str}{u:Value}{Q:Value->Shared->Prop}(I:Inv X pins σ H s)(a:Gl X x)(b:X.mg x=none)(c:bootBuiltins x=some u)(h:Q u s)(e:x≠"__name__":=by decide)(hd:(x==("__debug__":Str))=false:=by decide):wpAny (model X.prog X.w) X.A (eval (.Name x pos) X.env) Q E s:=by obtain⟨g,h1,f⟩:=I.mod.blt;exact Calls.Name_function_global I.ok.kind a (Calls.loadGlobal_builtin (by rw[I.ok.glob];exact I.mod.glob.keeps I.bk) b (by rw[I.ok.blt];exact h1.keeps I.bk) ((f x e).trans c) h) hd
theorem xT{x:Str}{v:V}{u:Value}(a:Gl X x)(b:X.mg x=some u)(r:RelV v u)(hd:(x==("__debug__":Str))=false:=by decide):PE X (.Name x pos) (tC v):=λ_ _ _ H _ I h=>rZ I a b ⟨v,H,I,r,h⟩ hd
theorem rM{x:Str}{v:V}{u:Value}(a:Gl X x)(b:X.mg x=none)(c:bootBuiltins x=some u)(r:RelV v u)(e:x≠"__name__":=by decide)(hd:(x==("__debug__":Str))=false:=by decide):PE X (.Name x pos) (tC v):=λ_ _ _ H _ I h=>iW I a b c ⟨v,H,I,r,h⟩ e hd
variable{a b:Expr}{ta tb:TE}{pos:Pos}
def tB(t:TE):TT:=λσ H Q=>t σ H λx e=>∃c,x=.bl c/\Q c e
theorem Av{e:Expr}{t:TE}(h:PE X e t)(he:∀c,isTrue e X.env c=(do let v<-c;standAt e.pos;holding [v] (truthy v)):=by intro _;rfl):PT X e (tB t):=by intro pins s σ H Q I f;refine isTrue_plain (cF (h pins s σ H _ I f) λv s1⟨x,H1,I1,r1,q1⟩=>?_) (he _);obtain⟨d,rfl,q⟩:=q1;cases r1;exact wpAny_truthy_bool ⟨H1,I1,q⟩
variable{tA Mq:TT}{rest:List Expr}
def NT(t u:TT):TT:=λσ H Q=>t σ H λc e=>if c=true then u σ e Q else Q false e
def tOr(t u:TT):TT:=λσ H Q=>t σ H λc e=>if c=true then Q true e else u σ e Q
def O9(t:TT):TT:=λσ H Q=>t σ H λc e=>Q (!c) e
theorem xH(f:PT X a tA):PW X (.BoolOp .And [a] pos) tA:=by intro g pins s σ H Q I h;refine isTrue_and (cF (f pins s σ H Q I h) λc s1 e=>?_);cases c with|true=>exact isTrue_and_nil e|false=>exact e
theorem Dq(f:PT X a tA):PW X (.BoolOp .Or [a] pos) tA:=by intro g pins s σ H Q I h;refine isTrue_or (cF (f pins s σ H Q I h) λc s1 e=>?_);cases c with|false=>exact isTrue_or_nil e|true=>exact e
theorem Dz(f:PT X a tA)(g:PW X (.BoolOp .And (b::rest) pos) Mq):PW X (.BoolOp .And (a::b::rest) pos) (NT tA Mq):=by intro j pins s σ H Q I h;refine isTrue_and (cF (f pins s σ H _ I h) λc s1⟨e,I1,q1⟩=>?_);cases c with|true=>exact g j pins s1 σ e Q I1 q1|false=>exact⟨e,I1,q1⟩
theorem IV(f:PT X a tA)(g:PW X (.BoolOp .Or (b::rest) pos) Mq):PW X (.BoolOp .Or (a::b::rest) pos) (tOr tA Mq):=by intro j pins s σ H Q I h;refine isTrue_or (cF (f pins s σ H _ I h) λc s1⟨e,I1,q1⟩=>?_);cases c with|true=>exact⟨e,I1,q1⟩|false=>exact g j pins s1 σ e Q I1 q1
theorem Bf(e:PT X a tA):PT X (.UnaryOp .Not a pos) (O9 tA):=by intro pins s σ H Q I h;exact isTrue_not (e pins s σ H (λc f=>Q (!c) f) I h)
def IK(ta tb:TE):TE:=λσ H Q=>ta σ H λx e=>∃c,x=.bl c/\if c=true then tb σ e Q else Q (.bl false) e
def Ih(ta:TE):TE:=λσ H Q=>ta σ H λx e=>∃c,x=.bl c/\Q (.bl (!c)) e
theorem Cv{op}{t:TE}(h:PE X a t):PE X (.BoolOp op [a] pos) t:=λpins s σ H Q I c=>BoolOp_one (h pins s σ H Q I c)
theorem CJ(f:PE X a ta)(g:PE X (.BoolOp .And (b::rest) pos) tb):PE X (.BoolOp .And (a::b::rest) pos) (IK ta tb):=by intro pins s σ H Q I h;refine BoolOp_and (cF (f pins s σ H _ I h) λv s1⟨x,H1,I1,r1,e⟩=>?_);obtain⟨c,rfl,e⟩:=e;cases r1;refine wpAny_truthy_bool ?_;cases c with|true=>exact g pins s1 σ H1 Q I1 e|false=>exact⟨.bl false,H1,I1,rfl,e⟩
theorem DN(f:PE X a ta):PE X (.UnaryOp .Not a pos) (Ih ta):=by intro pins s σ H Q I h;refine UnaryOp_ (cF (f pins s σ H _ I h) λv s1⟨x,H1,I1,r1,e⟩=>?_);obtain⟨c,rfl,e⟩:=e;cases r1;exact not_of (wpAny_truthy_bool ⟨.bl (!c),H1,I1,rfl,e⟩)
end
def cR(K:PySem.W.Frag)(H:Hp)(a:Addr)(xs:List V):Prop:=Rd H a (.lst xs)\/∃(o:Obj)(b:Array Value)(n:Nat),K.lookup a=some o/\o.cls=.type "list"/\o.dict=none/\o.data=.seq b n/\b.size<=sizeLine/\Vals xs b.toList
def eY(K:PySem.W.Frag)(H:Hp)(a:Addr)(xs:List V):Prop:=Rd H a (.tup xs)\/∃(o:Obj)(b:Array Value)(n:Nat),K.lookup a=some o/\o.cls=.type "tuple"/\o.data=.seq b n/\b.size<=sizeLine/\Vals xs b.toList
noncomputable def Qd:Value->Option V|.none=>some .non|.bool b=>some (.bl b)|.int i _=>some (.int i)|.str x _=>some (.str x)|.bytes b _=>some (.Qp b)|.float b _=>some (.flt b)|.ref a=>some (.ref a)|.type n=>some (.ty n)|_=>none
theorem RelV.abs{x:V}{u:Value}(r:RelV x u):Qd u=some x:=by cases x with|non=>cases r;rfl|bl _=>cases r;rfl|int _=>obtain⟨t,rfl⟩:=r;rfl|str _=>obtain⟨t,rfl⟩:=r;rfl|Qp _=>obtain⟨t,rfl⟩:=r;rfl|flt _=>obtain⟨t,rfl⟩:=r;rfl|ref _=>cases r;rfl|ty _=>cases r;rfl
theorem RelV.inj{x y:V}{u:Value}(r:RelV x u)(q:RelV y u):x=y:=Option.some.inj (r.abs.symm.trans q.abs)
theorem Vals.inj:∀{xs ys:List V}{us:List Value},Vals xs us->Vals ys us->xs=ys|_,_,_,.nil,.nil=>rfl|_,_,_,.cons r t,.cons a t'=>by rw[r.inj a,Vals.inj t t']
section
variable{X:Cx}{pins:List (Addr×Obj)}{σ:St}{H:Hp}{s:Shared}{a:Addr}{xs ys:List V}
theorem cR.of(h:H a=some (.lst xs)):cR K H a xs:=.inl (.inl h)
theorem eY.of(h:H a=some (.tup xs)):eY K H a xs:=.inl (.inl h)
theorem Inv.list(I:Inv X pins σ H s)(h:cR X.K H a xs):∃b:List Value,Vals xs b/\PlainL s.heap a b.toArray/\xs.length<=sizeLine:=by
 rcases h with h|⟨o,b,n,c,hc,hd,hs,f,r⟩;.obtain⟨z,b,n,r,e⟩:=h.ok I.hok;exact⟨b,r,⟨_,n,e,rfl,rfl,rfl⟩,z⟩
 .refine⟨b.toList,r,⟨o,n,I.zy a o c,hc,hd,by simpa using hs⟩,?_⟩;have e:=r.length;simp only[length_toList]at e;omega
theorem Inv.tuple(I:Inv X pins σ H s)(h:eY X.K H a xs):∃b:List Value,Vals xs b/\IsTup s.heap a b.toArray/\xs.length<=sizeLine:=by
 rcases h with h|⟨o,b,n,c,hc,hs,f,r⟩;.obtain⟨z,b,r,p⟩:=h.ok I.hok;exact⟨b,r,p,z⟩
 .refine⟨b.toList,r,⟨o,I.zy a o c,hc,n,by simpa using hs⟩,?_⟩;have e:=r.length;simp only[length_toList]at e;omega
theorem Inv.il(I:Inv X pins σ H s)(h:cR X.K H a xs)(h':cR X.K H a ys):xs=ys:=by
 obtain⟨b,r,⟨o,n,e,_,_,d⟩,_⟩:=I.list h;obtain⟨its',f,⟨g,j,c,_,_,d'⟩,_⟩:=I.list h';rw[e]at c;cases c;rw[d]at d';injection d' with d1 _;have:b=its':=by simpa using congrArg toList d1
 subst this;exact r.inj f
theorem Inv.gD(I:Inv X pins σ H s)(h:eY X.K H a xs)(h':eY X.K H a ys):xs=ys:=by
 obtain⟨b,r,⟨o,e,_,n,d⟩,_⟩:=I.tuple h;obtain⟨its',f,⟨g,c,_,j,d'⟩,_⟩:=I.tuple h';rw[e]at c;cases c;rw[d]at d';injection d' with d1 _;have:b=its':=by simpa using congrArg toList d1
 subst this;exact r.inj f
end
noncomputable abbrev Cx.wish(X:Cx)(E:Value->Shared->Prop):Cx:={X with xe:=E}
noncomputable abbrev Cx.JH(X:Cx):Cx:=X.wish λ_ _=>False
theorem Cx.Ok.wish{X:Cx}(ok:X.Ok)(E:Value->Shared->Prop):(X.wish E).Ok:=⟨ok.mod,ok.kind,ok.glob,ok.blt,ok.above,ok.inj,ok.has,ok.cab,ok.hd,ok.frames,ok.Mm,ok.RG,ok.bs,ok.Ah,ok.wI,ok.yV,ok.jW,ok.Hf⟩
theorem Cx.Ok.gk{E:Value->Shared->Prop}(ok:(X.wish E).Ok):X.Ok:=⟨ok.mod,ok.kind,ok.glob,ok.blt,ok.above,ok.inj,ok.has,ok.cab,ok.hd,ok.frames,ok.Mm,ok.RG,ok.bs,ok.Ah,ok.wI,ok.yV,ok.jW,ok.Hf⟩
section
variable{X:Cx}{pins:List (Addr×Obj)}{σ:St}{H:Hp}{s:Shared}{E:Value->Shared->Prop}
theorem Inv.wish(I:Inv X pins σ H s)(E:Value->Shared->Prop):Inv (X.wish E) pins σ H s:=⟨I.ok.wish E,I.os,I.bare,I.base,I.loc,I.cell,I.free,I.fu,I.pin,I.hok,I.len⟩
theorem Inv.gk(I:Inv (X.wish E) pins σ H s):Inv X pins σ H s:=⟨I.ok.gk,I.os,I.bare,I.base,I.loc,I.cell,I.free,I.fu,I.pin,I.hok,I.len⟩
theorem SP.gk{D:Ends}{f:Flow}{c:Shared}(h:SP (X.wish E) pins D f c):SP X pins D f c:=by cases f with|next=>obtain⟨a,b,I,q⟩:=h;exact⟨a,b,I.gk,q⟩|brk=>obtain⟨a,b,I,q⟩:=h;exact⟨a,b,I.gk,q⟩|cont=>obtain⟨a,b,I,q⟩:=h;exact⟨a,b,I.gk,q⟩|ret u=>obtain⟨v,a,b,I,r,q⟩:=h;exact⟨v,a,b,I.gk,r,q⟩
theorem kO.JH{st:List Stmt}{t:TS}(h:kO X.JH st t):kO X st t:=λpins s σ H D I a=>wpAny_mono (h pins s σ H D (I.wish _) a) (λ_ _ q=>q.gk) λ_ _ z=>False.elim z
end
section
variable{X:Cx}{st:Stmt}{rest:List Stmt}{t u:TS}{e:Expr}{te:TE}{pos:Pos}
def Jl:TS:=λD σ H=>D.nx σ H
def O3(t u:TS):TS:=λD σ H=>t {D with nx:=u D} σ H
theorem lZ:kO X [] Jl:=λ_ _ σ H _ I h=>wpAny_execs_nil ⟨σ,H,I,h⟩
theorem dW(h1:PS X st t)(b:kO X rest u):kO X (st::rest) (O3 t u):=by intro pins s σ H D I h;refine wpAny_execs_cons (cF (h1 pins s σ H {D with nx:=u D} I h) λf s1 q=>?_);cases f with|next=>obtain⟨a,c,g,q⟩:=q;exact b pins s1 a c D g q|ret v=>exact q|brk=>exact q|cont=>exact q
theorem yG(h1:PS X st t):kO X [st] t:=by intro pins s σ H D I h;refine wpAny_execs_cons (cF (h1 pins s σ H D I h) λf s1 q=>?_);cases f with|next=>exact wpAny_execs_nil q|ret v=>exact q|brk=>exact q|cont=>exact q
theorem Inv.quiet{σ:St}(I:Inv X pins σ H s):interactive X.env=false:=by simp[interactive,I.ok.kind]
def uq(te:TE):TS:=λD σ H=>te σ H λ_ a=>D.nx σ a
theorem qM(he:PE X e te)(hs:swapsWith e none pos.line X.env=pure false:=by rfl):PS X (.Expr e pos) (uq te):=by intro pins s σ H D I h;exact wpAny_Expr_any (cF (he pins s σ H _ I h) λv s1⟨x,H1,I1,r1,q1⟩=>⟨σ,H1,I1,q1⟩) I.quiet hs
def O5(te:TE):TS:=λD σ H=>te σ H D.rt
theorem uA(he:PE X e te):PS X (.Return (some e) pos) (O5 te):=by intro pins s σ H D I h;exact wpAny_Return_some (cF (he pins s σ H _ I h) λv s1⟨x,H1,I1,r1,q1⟩=>⟨x,σ,H1,I1,r1,q1⟩)
def Pj(c:TT)(t u:TS):TS:=λD σ H=>c σ H λb a=>if b=true then t D σ a else u D σ a
theorem zJ{c:Expr}{a b:List Stmt}{f:TT}(hc:PT X c f)(j:kO X a t)(k:kO X b u):PS X (.If c a b pos) (Pj f t u):=by intro pins s σ H D I h;refine wpAny_If (cF (hc pins s σ H _ I h) λd s1⟨g,I1,q1⟩=>?_);cases d with|true=>exact j pins s1 σ g D I1 q1|false=>exact k pins s1 σ g D I1 q1
def Dv:TS:=λ_ _ _=>False
theorem vy:PS X st Dv:=λ_ _ _ _ _ _ h=>h.elim
end
abbrev TG:=V->St->Hp->(St->Hp->Prop)->Prop
abbrev uc:=List V->St->Hp->(St->Hp->Prop)->Prop
def PG(X:Cx)(a:Expr)(t:TG):Prop:=∀(pins:List (Addr × Obj))(s:Shared)(σ:St)(H:Hp)(v:V)(u:Value)(Q:St->Hp->Prop),Inv X pins σ H s->RelV v u->t v σ H Q->wpAny (model X.prog X.w) X.A (assign a X.env u) (λ_ e=>∃b c,Inv X pins b c e/\Q b c) X.xe s
def Lp(X:Cx)(e:List Expr)(t:uc):Prop:=∀(pins:List (Addr × Obj))(s:Shared)(σ:St)(H:Hp)(b:List V)(us:List Value)(Q:St->Hp->Prop),Inv X pins σ H s->Vals b us->t b σ H Q->wpAny (model X.prog X.w) X.A (assignInOrder ((assignEach e X.env).map (·.2)) us) (λ_ f=>∃a c,Inv X pins a c f/\Q a c) X.xe s
abbrev Bt:=V->V->V->Hp->(Hp->Prop)->Prop
def Ik(X:Cx)(t:Bt):Prop:=∀(pins:List (Addr × Obj))(s:Shared)(σ:St)(H:Hp)(o i v:V)(a b u:Value)(Q:Hp->Prop),Inv X pins σ H s->RelV o a->RelV i b->RelV v u->t o i v H Q->wpAny (model X.prog X.w) X.A (setItem a b u) (λ_ e=>∃c,Inv X pins σ c e/\Q c) X.xe s
section
variable{X:Cx}{pos:Pos}
def gW(i:Nat):TG:=λv σ H Q=>Q (σ.set i (some v)) H
theorem bV{x:Str}(a:X.N.Nodup)(b:X.N[i]?=some x)(hx:Loc X.env.scope x)(c:X.fn x=true\/X.env.scope.names.lookup x=some .local:=by first|exact .inl rfl|exact .inr rfl|assumption):PG X (.Name x pos) (gW i):=by intro pins s σ H v u Q I r h;exact wpAny_assign_Name (ir I a b hx r (λf e=>⟨_,H,e,h⟩) c)
def Dt:uc:=λa σ H Q=>a=[]/\Q σ H
def vY(t:TG)(u:uc):uc:=λb σ H Q=>∃v r,b=v::r/\t v σ H λa c=>u r a c Q
theorem mD:Lp X [] Dt:=by intro pins s σ H a us Q I r h;obtain⟨e,h⟩:=h;subst e;cases r;exact assignInOrder_nil ⟨σ,H,I,h⟩
theorem dJ{e:Expr}{a:List Expr}{t:TG}{u:uc}(h1:PG X e t)(c:Lp X a u)(hs:(assignEach (e::a) X.env).map (·.2)=assign e X.env::(assignEach a X.env).map (·.2):=by rfl):Lp X (e::a) (vY t u):=by intro pins s σ H j us Q I r h;obtain⟨v,k,f,h⟩:=h;subst f;cases r with|cons r g=>rw[hs];refine assignInOrder_cons (cF (h1 pins s σ H _ _ _ I r h) λ_ s1⟨b,H1,I1,q1⟩=>?_);exact c pins s1 b H1 _ _ Q I1 g q1
def BJ(K:PySem.W.Frag)(n:Nat)(t:uc):TG:=λv σ H Q=>∃a xs,v=.ref a/\eY K H a xs/\xs.length=n/\t xs σ H Q
theorem pB{c:List Expr}{k:Nat}{t:uc}{n:Nat}(hc:X.calm=true)(h:Lp X c t)(m:(assignEach c X.env).length=n:=by rfl)(f:(assignEach c X.env).findIdx? (·.1)=none:=by rfl):PG X (.Tuple c k pos) (BJ X.K n t):=by intro pins s σ H v u Q I r g;obtain⟨a,xs,p,q,x,g⟩:=g;subst p;cases r;obtain⟨y,j,z,C⟩:=I.tuple q;refine assign_Tuple_tuple (I.ok.hd hc) z (by simp[m,<-x,j.length]) f λh' hx=>?_;have B:Inv X pins σ H {s with heap:=h'}:=I.kept (t':=s.toks) λb o e=>hx b o (ne_of_lt (lt_size e)) e;exact h pins _ σ H xs _ Q B (by simpa using j) g
def BK(a b:TE)(t:Bt):TG:=λv σ H Q=>a σ H λo c=>b σ c λi e=>t o i v e λf=>Q σ f
theorem vI{o i:Expr}{c e:TE}{t:Bt}(ho:PE X o c)(f:PE X i e)(hs:Ik X t)(g:∀ v,assign (.Subscript o i pos) X.env v=(do
  let a<-holding [v] (eval o X.env)let b<-holding [v,a] (eval i X.env)standAt pos
  holding [v,a,b] (setItem a b v)release [v,a,b] []):=by intro _;rfl):PG X (.Subscript o i pos) (BK c e t):=by intro pins s σ H v u Q I r h;rw[g];refine wpAny_bind (wpAny_holding (cF (ho pins s σ H _ I h) λa s1⟨x,H1,I1,r1,q1⟩=>?_));refine wpAny_bind (wpAny_holding (cF (f pins s1 σ H1 _ I1 q1) λb s2⟨y,H2,I2,r2,q2⟩=>?_));refine wpAny_bind (wpAny_standAt (wpAny_bind (wpAny_holding (cF (hs pins s2 σ H2 x y v a b u _ I2 r1 r2 r q2) λ_ s3⟨j,I3,q3⟩=>?_))));exact wpAny_release ⟨σ,j,I3,q3⟩
def tL(te:TE)(g:TG):TS:=λD σ H=>te σ H λx a=>g x σ a D.nx
theorem uE{e:Expr}{te:TE}{g:TG}(he:PE X e te)(a:PG X tg g)(hs:swapsWithSole [tg] e pos.line X.env=pure false:=by rfl)(b:swappedStores [tg] e X.env=pure none:=by rfl)(h1:(assignEach [tg] X.env).map (·.2)=[assign tg X.env]:=by rfl):PS X (.Assign [tg] e pos) (tL te g):=by intro pins s σ H D I h;refine wpAny_Assign_stores (cF (he pins s σ H _ I h) λv s1⟨x,H1,I1,r1,q1⟩=>?_) hs b;rw[h1];exact cF (a pins s1 σ H1 x v _ I1 r1 q1) λ_ s2 q=>q
theorem wj{x:Str}{e:Expr}{te:TE}{a:Pos}(b:X.N.Nodup)(c:X.N[i]?=some x)(hx:Loc X.env.scope x)(he:PE X e te)(hs:swapsWith e (some (.Name x a)) pos.line X.env=pure false:=by rfl)(f:X.fn x=true\/X.env.scope.names.lookup x=some .local:=by first|exact .inl rfl|exact .inr rfl|assumption):PS X (.Assign [.Name x a] e pos) (tL te (gW i)):=by intro pins s σ H D I h;refine wpAny_Assign_Name (cF (he pins s σ H _ I h) λv s1⟨y,H1,I1,r1,q1⟩=>?_) hs;exact ir I1 b c hx r1 (λs2 g=>⟨_,H1,g,q1⟩) f
def N7(i j:Nat)(a:TA):TS:=λD σ H=>a σ H λb c=>∃v w,b=[v,w]/\D.nx ((σ.set i (some v)).set j (some w)) c
theorem CT{j:Nat}{x y:Str}{a b:Expr}{t:TA}{g k pt:Pos}{kt k2 Et}(hc:X.calm=true)(u:X.N.Nodup)(C:X.N[i]?=some x)(E:X.N[j]?=some y)(m:i≠j)(hx:X.env.scope.names.lookup x=some .local)(z:X.env.scope.names.lookup y=some .local)(F:PA X [a,b] t)(G:swappedStores [.Tuple [.Name x g,.Name y k] kt pt] (.Tuple [a,b] k2 Et) X.env=pure (some [x,y]))(hs:swapsWithSole [.Tuple [.Name x g,.Name y k] kt pt] (.Tuple [a,b] k2 Et) pos.line X.env=pure false:=by rfl):PS X (.Assign [.Tuple [.Name x g,.Name y k] kt pt] (.Tuple [a,b] k2 Et) pos) (N7 i j t):=by
 intro pins s σ H D I h;rw[exec_Assign_arm];refine wpAny_bind (wpAny_standAt ?_);rw[hs];refine wpAny_bind (wpAny_pure ?_);rw[if_neg (by decide)];refine wpAny_bind (Tuple_ (cF (F _ pins s σ H _ I h) λus s1⟨vs,H1,I1,r1,n⟩=>?_));obtain⟨v,w,J,n⟩:=n;subst J;obtain⟨c,f,rfl,L,O⟩:∃c f,us=[c,f]/\RelV v c/\RelV w f:=by cases r1 with|cons p q=>cases q with|cons Q U=>cases U;exact⟨_,_,rfl,p,Q⟩
 refine wpAny_newObj_type ?_ (by show 2<=sizeLine;decide);have W:Inv X pins σ H1 {s1 with heap:=s1.heap.push {cls:=.type "tuple",data:=.seq [c,f].toArray}}:=I1.kept (t':=s1.toks) λb o e=>dH e;rw[G];refine wpAny_bind (wpAny_pure ?_);show wpAny (model X.prog X.w) X.A (do rule "assign.swapped-stores";let items<-unpackItems (.ref s1.heap.objs.size) 2 none;assignInOrder [λv=>bindName X.env y v,λv=>bindName X.env x v] items.reverse;pure Flow.next) _ _ _;refine wpAny_bind (wpAny_rule (wpAny_bind (unpackItems_tuple (items:=#[c,f]) (I.ok.hd hc) (IsTup.new s1.heap _) λh' r=>?_)));have Y:=W.kept (h':=h') (t':=s1.toks) λb o e=>r b o (ne_of_lt (lt_size e)) e;show wpAny _ _ (assignInOrder [λv=>bindName X.env y v,λv=>bindName X.env x v] [f,c]>>=λ_=>pure Flow.next) _ _ _;refine wpAny_bind (assignInOrder_cons (wpAny_bindName (ir Y u E (.inl z) O (λs2 Z=>?_) (.inr z))));refine assignInOrder_cons (wpAny_bindName (ir Z u C (.inl hx) L (λs3 B=>assignInOrder_nil (wpAny_pure ?_)) (.inr hx)));rw[List.set_comm _ _ (Ne.symm m)]at B;exact⟨_,H1,B,n⟩
end
structure It where
 go:Nat->Hp->Prop
 wZ:Nat->Hp->V->Hp->Prop
 stop:Nat->Hp->Prop
def iH(X:Cx)(pins:List (Addr×Obj))(H:Hp)(b:Addr):Prop:=H b=none/\b≠X.env.locals/\b∉X.fs/\(b∈X.ex\/X.s₀.heap.objs.size<=b)/\(∀x c,X.env.cells.lookup x=some c->c≠b)/\∀p∈X.pn++pins,p.1≠b
theorem Inv.o8{σ:St}{f:Hp}{b:Addr}(I:Inv X pins σ H s)(a:s.heap.objs.size<=b)(g:f b=none):iH X pins f b:=by
 refine⟨g,Nat.ne_of_gt (lt_of_lt_of_le I.lt a),I.Ot a,.inr (le_trans I.sz a),λx c e z=>?_,λp j z=>?_⟩;.obtain⟨v,q⟩:=I.cell x c e;exact absurd (lt_of_lt_of_le q.lt (by rw[z];exact a)) (lt_irrefl _)
 .exact absurd (lt_of_lt_of_le (lt_size (I.pin p j).1) (by rw[z];exact a)) (lt_irrefl _)
structure Turn(P:Program)(w:World)(K:PySem.W.Frag)(tg:Expr)(J:It)(fp:List Addr)(it:Addr)(tn:Nat->Heap->Prop):Prop where
 mem:it∈fp
 obj:∀i h,tn i h->∀b∈fp,∃o,h.get? b=some o/\∀v,o.data≠.cell v
 keep:∀i h h',tn i h->(∀b∈fp,∀o,h.get? b=some o->h'.get? b=some o)->tn i h'
 item:∀(X:Cx),X.prog=P->X.w=w->X.K=K->X.calm=true->∀(i:Nat)(pins:List (Addr×Obj))(s:Shared)(σ:St)(H:Hp)(E:Value->Shared->Prop),Inv X pins σ H s->(∀b∈fp,iH X pins H b)->tn i s.heap->J.go i H->wpAny (model P w) X.A (pyNext (.ref it)) (λr s1=>∃u,r=some u/\wpAny (model P w) X.A (letOwnedTupleGo tg (.ref it) u) (λ_ s2=>∃x H',Inv X pins σ H' s2/\RelV x u/\J.wZ i H x H'/\tn (i+1) s2.heap/\∀b∈fp,H' b=none) E s1) E s
 done:∀(X:Cx),X.prog=P->X.w=w->X.K=K->X.calm=true->∀(i:Nat)(pins:List (Addr×Obj))(s:Shared)(σ:St)(H:Hp)(E:Value->Shared->Prop),Inv X pins σ H s->(∀b∈fp,iH X pins H b)->tn i s.heap->J.stop i H->wpAny (model P w) X.A (pyNext (.ref it)) (λr s1=>r=none/\Inv X pins σ H s1) E s
 self:∀(A:Around)(i:Nat)(s:Shared)(Q:Value->Shared->Prop)(E:Value->Shared->Prop),tn i s.heap->Q (.ref it) s->wpAny (model P w) A (pyIter (.ref it)) Q E s
abbrev TI:=St->Hp->(It->Hp->Prop)->Prop
def PIE(X:Cx)(pins:List (Addr×Obj))(σ:St)(tg:Expr)(R:It->Hp->Prop)(a:Value)(s2:Shared):Prop:=∃(e:Addr)(f:List Addr)(g:Nat->Heap->Prop)(J:It)(c:Hp),a=.ref e/\Inv X pins σ c s2/\Turn X.prog X.w X.K tg J f e g/\g 0 s2.heap/\(∀b∈f,iH X pins c b)/\R J c
def PI(X:Cx)(tg iter:Expr)(a:TI):Prop:=∀(pins:List (Addr × Obj))(s:Shared)(σ:St)(H:Hp)(R:It->Hp->Prop),Inv X pins σ H s->a σ H R->wpAny (model X.prog X.w) X.A (eval iter X.env) (λv s1=>wpAny (model X.prog X.w) X.A (pyIter v) (PIE X pins σ tg R) X.xe s1) X.xe s
theorem wF{E:Value->Shared->Prop}{b:Addr}{u:Value}{o:Obj}{n:String}{c:Array Value}{Q:Unit->Shared->Prop}(ho:s.heap.get? b=some o)(hc:o.cls=.type n)(hd:o.data=.fields c)(e:["enumerate","zip","dict_itemiterator","dict_reverseitemiterator","odict_iterator","itertools.zip_longest","itertools.pairwise"].contains n=false)(a:Q () s):wpAny M A (letOwnedTupleGo tg (.ref b) u) Q E s:=by unfold letOwnedTupleGo;cases tg<;>first|exact wpAny_pure a|(cases u<;>first|exact wpAny_pure a|(refine wpAny_bind (wpAny_load ho ?_);rw[hc,hd];show wpAny M A (if(["enumerate","zip","dict_itemiterator","dict_reverseitemiterator","odict_iterator","itertools.zip_longest","itertools.pairwise"].contains n&&c[0]?==some (rawInt _))=true then _ else _) Q E s;rw[if_neg (by intro h;rw[e,Bool.false_and]at h;cases h)];exact wpAny_pure a))
noncomputable def zR(K:PySem.W.Frag)(a:Addr):It:=⟨λi H=>∃xs x,cR K H a xs/\xs[i]?=some x,λi H x b=>b=H/\∀xs,cR K H a xs->xs[i]?=some x,λi H=>∃xs,cR K H a xs/\xs.length<=i⟩
noncomputable def Ga(K:PySem.W.Frag)(a:Addr):It:=⟨λi H=>∃xs x,eY K H a xs/\xs[i]?=some x,λi H x b=>b=H/\∀xs,eY K H a xs->xs[i]?=some x,λi H=>∃xs,eY K H a xs/\xs.length<=i⟩
noncomputable def Li(lo:Int)(n:Nat):It:=⟨λi _=>i<n,λi H x a=>a=H/\x=.int (lo+i),λi _=>n<=i⟩
theorem lK{P:Program}(a f:Addr):Turn P w K tg (zR K a) [f] f (λi h=>h.IsListIter f a i)where
 mem:=by simp
 obj:=λi h st b g=>by
  have e:b=f:=by simpa using g
  subst e;obtain⟨o,e,c,d⟩:=st;exact⟨o,e,λv z=>by rw[d]at z;cases z⟩
 keep:=λi h h' st k=>st.at λo e=>k f (by simp) o e;item:=by intro X q r t hc i pins s σ H E I m st y;subst q r t;obtain⟨xs,x,n,hx⟩:=y;obtain⟨B,C,p,F⟩:=I.list n;obtain⟨u,G,J⟩:=C.get hx;obtain⟨f0,f1,f2,f3,f4,f5⟩:=m f (by simp);refine wpAny_pyNext_list_item st p.isList (x:=u) (by simpa using G) λh' j L=>?_;have N:Inv X pins σ H {s with heap:=h'}:=I.turned (t':=s.toks) (λb o g e=>(L.2 b g).trans e) f0 f1 f3 f4 f5;obtain⟨o,e,c,d⟩:=id j;exact⟨u,rfl,wF (s:={s with heap:=h'}) e c d (by decide) ⟨x,H,N,J,⟨rfl,λys O=>by rw[I.il O n];exact hx⟩,j,λb g=>(m b g).1⟩⟩
 done:=by intro X q r t hc i pins s σ H E I m st y;subst q r t;obtain⟨xs,n,hx⟩:=y;obtain⟨B,C,p,F⟩:=I.list n;obtain⟨f0,f1,f2,f3,f4,f5⟩:=m f (by simp);have U:=C.length;exact wpAny_pyNext_list_end (I.ok.hd hc) st p.isList (by simp;omega) λh' Q=>⟨rfl,I.turned (t':=s.toks) (λb o g e=>Q b o g e) f0 f1 f3 f4 f5⟩
 self:=λ_ _ _ _ _ st h=>wpAny_pyIter_listiter st h
theorem qp{P:Program}(a f:Addr):Turn P w K tg (Ga K a) [f] f (λi h=>h.IsTupleIter f a i)where
 mem:=by simp
 obj:=λi h st b g=>by
  have e:b=f:=by simpa using g
  subst e;obtain⟨o,e,c,d⟩:=st;exact⟨o,e,λv z=>by rw[d]at z;cases z⟩
 keep:=λi h h' st k=>st.at λo e=>k f (by simp) o e;item:=by intro X r t y hc i pins s σ H E I n st B;subst r t y;obtain⟨xs,x,q,hx⟩:=B;obtain⟨j,C,p,F⟩:=I.tuple q;obtain⟨u,G,J⟩:=C.get hx;obtain⟨f0,f1,f2,f3,f4,f5⟩:=n f (by simp);refine wpAny_pyNext_tuple_item st (show s.heap.IsTuple a j.toArray from p) (x:=u) (by simpa using G) λh' m L=>?_;have N:Inv X pins σ H {s with heap:=h'}:=I.turned (t':=s.toks) (λb o g e=>(L.2 b g).trans e) f0 f1 f3 f4 f5;obtain⟨o,e,c,d⟩:=id m;exact⟨u,rfl,wF (s:={s with heap:=h'}) e c d (by decide) ⟨x,H,N,J,⟨rfl,λys O=>by rw[I.gD O q];exact hx⟩,m,λb g=>(n b g).1⟩⟩
 done:=by intro X r t y hc i pins s σ H E I n st B;subst r t y;obtain⟨xs,q,hx⟩:=B;obtain⟨j,C,p,F⟩:=I.tuple q;obtain⟨f0,f1,f2,f3,f4,f5⟩:=n f (by simp);have U:=C.length;exact wpAny_pyNext_tuple_end (I.ok.hd hc) st (show s.heap.IsTuple a j.toArray from p) (by simp;omega) λh' Q=>⟨rfl,I.turned (t':=s.toks) (λb o g e=>Q b o g e) f0 f1 f3 f4 f5⟩
 self:=λ_ _ _ _ _ st h=>wpAny_pyIter_tupleiter st h
theorem pg{P:Program}(a:Addr)(lo:Int)(n:Nat):Turn P w K tg (Li lo n) [a] a (λi h=>IsRangeIter h a (lo+(i:Nat)*1) ((n:Int)-(i:Nat)) 1)where
 mem:=by simp
 obj:=λi h st b c=>by
  have e:b=a:=by simpa using c
  subst e;exact⟨_,st,λv z=>by have u:Data.fields _=Data.cell v:=z;cases u⟩
 keep:=λi h h' st k=>k a (by simp) _ st;item:=by intro X j m p hc i pins s σ H E I g st q;subst j m p;obtain⟨f0,f1,f2,f3,f4,f5⟩:=g a (by simp);have W:=Walks.range (prog:=X.prog) (w:=X.w) (I.ok.hd hc) a lo 1 n;refine W.item i s _ _ q st λv h' r x f y=>?_;obtain⟨t,rfl⟩:=x;have B:Inv X pins σ H {s with heap:=h',toks:=r}:=I.turned (λb o c e=>y b o (by simpa using c) e) f0 f1 f3 f4 f5;refine⟨_,rfl,wF (s:={s with heap:=h',toks:=r}) (n:="range_iterator") f rfl rfl (by decide) ⟨.int (lo+i),H,B,⟨t,?_⟩,⟨rfl,rfl⟩,f,λb c=>(g b c).1⟩⟩;rw[Int.mul_one]
 done:=by intro X j m p hc i pins s σ H E I g st q;subst j m p;obtain⟨f0,f1,f2,f3,f4,f5⟩:=g a (by simp);exact wpAny_pyNext_range_end (I.ok.hd hc) st (by have:n<=i:=q;omega) λh' C=>⟨rfl,I.turned (t':=s.toks) (λb o c e=>C b o c e) f0 f1 f3 f4 f5⟩
 self:=λ_ _ _ _ _ st h=>wpAny_pyIter_rangeiter st h
section
variable{X:Cx}{tg:Expr}
def zK(K:PySem.W.Frag)(c:TE):TI:=λσ H R=>c σ H λx b=>∃a,x=.ref a/\(∃xs,cR K b a xs)/\R (zR K a) b
theorem yO{l:Expr}{c:TE}(f:PE X l c):PI X tg l (zK X.K c):=by
 intro pins s σ H R I h;refine cF (f pins s σ H _ I h) λv s1⟨x,H1,I1,r1,q1⟩=>?_;obtain⟨a,e,⟨xs,g⟩,q⟩:=q1;subst e;cases r1;obtain⟨j,m,p,n⟩:=I1.list g;refine wpAny_pyIter_list p.isList ?_;refine⟨s1.heap.objs.size,[s1.heap.objs.size],_,_,H1,rfl,I1.kept (t':=s1.toks) λb o e=>dH e,lK a _,⟨_,get?_push_size _ rfl,rfl,rfl⟩,λb k=>?_,q⟩;have e:b=s1.heap.objs.size:=by simpa using k
 subst e;exact I1.o8 (fO) (I1.hok.fresh (fO))
theorem wz{σ:St}{R:It->Hp->Prop}{E:Value->Shared->Prop}{lo a:Int}{t u v:Tok}{c:Nat}(I:Inv X pins σ H s)(h1:-(2^62)<=lo)(g:lo<2^62)(j:-(2^62)<=a)(k:a<2^62)(q:R (Li lo (a-lo).toNat) H):wpAny (model X.prog X.w) X.A (pyIter (.ref s.heap.objs.size)) (PIE X pins σ tg R) E {s with heap:=s.heap.push {cls:=.type "range",data:=.fields #[.int lo t,.int a u,.int 1 v]},toks:=c}:=by
 refine wpAny_pyIter_range (IsRange.new ..) (small_one h1 g j k) ?_;have f:Inv X pins σ H {s with heap:=s.heap.push {cls:=.type "range",data:=.fields #[.int lo t,.int a u,.int 1 v]},toks:=c}:=I.kept λb o e=>dH e;refine⟨(s.heap.push {cls:=.type "range",data:=.fields #[.int lo t,.int a u,.int 1 v]}).objs.size,[(s.heap.push {cls:=.type "range",data:=.fields #[.int lo t,.int a u,.int 1 v]}).objs.size],_,_,H,rfl,f.kept (t':=c) λb o e=>dH e,pg _ lo (a-lo).toNat,?_,λb m=>?_,q⟩
 . have n:lo+((0:Nat):Int)*1=lo:=by simp
   have p:(((a-lo).toNat:Nat):Int)-((0:Nat):Int)=Builtin.Range.rangeSize lo a 1:=by rw[rangeSize_one];split<;>omega
   show IsRangeIter _ _ (lo+((0:Nat):Int)*1) ((((a-lo).toNat:Nat):Int)-((0:Nat):Int)) 1;rw[n,p];exact get?_push_size _ rfl
 . have e:b=(s.heap.push {cls:=.type "range",data:=.fields #[.int lo t,.int a u,.int 1 v]}).objs.size:=by simpa using m
   subst e;exact f.o8 (fO) (f.hok.fresh (fO))
def HX(a:TA):TI:=λσ H R=>a σ H λb c=>∃j:Int,b=[.int j]/\-(2^62)<=j/\j<2^62/\R (Li 0 j.toNat) c
theorem sW{a:Expr}{c:TA}{p:Pos}(f:Gl X "range")(g:X.mg "range"=none)(k:PA X [a] c)(hs:starEach [a] X.env=[(false,eval a X.env)]:=by rfl):PI X tg (.Call (.Name "range" p) [a] [] pos) (HX c):=by intro pins s σ H R I h;refine Call_ (iW I f g boot_range (PyProof.Rows.callWith_type1 (cF (k pos pins s σ H _ I h) λus s1⟨o,H1,I1,r1,b⟩=>?_) hs rfl));obtain⟨j,e,b,m,q⟩:=b;subst e;cases r1 with|cons r n=>cases n;obtain⟨t,rfl⟩:=r;exact call_range_1 (wz I1 (by omega) (by omega) b m (by simpa using q))
def HY(f:TI)(g:TG)(j:TS):TS:=λD σ H=>f σ H λJ k=>∃W:Nat->Nat->St->Hp->Prop,(∃m,W 0 m σ k)/\∀i m σ H,W i m σ H->(J.stop i H/\D.nx σ H)\/(J.go i H/\∃N:St->Hp->Prop,(∀a b,N a b->∃e,e<m/\W (i+1) e a b)/\∀x b,J.wZ i H x b->g x σ b λc n=>j {D with nx:=N,ct:=N,bk:=D.nx} c n)
noncomputable def jz(a:List Addr)(h:Heap):List (Addr×Obj):=a.filterMap λb=>(h.get? b).map λo=>(b,o)
theorem eE{a:List Addr}{b:Addr}{o:Obj}(c:b∈a)(e:h.get? b=some o):(b,o)∈jz a h:=List.mem_filterMap.mpr ⟨b,c,by rw[e];rfl⟩
theorem sU{a:List Addr}{p:Addr×Obj}(c:p∈jz a h):p.1∈a/\h.get? p.1=some p.2:=by obtain⟨b,f,e⟩:=List.mem_filterMap.mp c;cases q:h.get? b with|none=>rw[q]at e;cases e|some o=>rw[q]at e;have g:(b,o)=p:=Option.some.inj e;subst g;exact⟨f,q⟩
theorem Inv.pinned{σ:St}{a:List Addr}(I:Inv X pins σ H s)(g:∀b∈a,iH X pins H b)(ho:∀b∈a,∃o,s.heap.get? b=some o/\∀v,o.data≠.cell v):Inv X (pins++jz a s.heap) σ H s:=I.rC λp j=>(mem_append.mp j).elim (λz=>I.pin p (mem_append_right _ z)) λz=>by obtain⟨c,e⟩:=sU z;obtain⟨f0,f1,f2,_⟩:=g p.1 c;obtain⟨o,f,d⟩:=ho p.1 c;rw[e]at f;cases f;exact⟨e,f0,f1,f2,d⟩
theorem Inv.ik{a:List (Addr×Obj)}{σ:St}(I:Inv X (pins++a) σ H s):Inv X pins σ H s:=I.rC λp b=>I.pin p (mem_append_right _ (List.mem_append_left _ b))
theorem uo{iter:Expr}{body:List Stmt}{Y:TI}{g:TG}{Z:TS}(B:PassesOwn (model X.prog X.w) X.A X.env X.xe)(hc:X.calm=true)(hi:PI X tg iter Y)(hg:PG X tg g)(c:kO X body Z)(hs:∀x,foldedSetIterable iter X.env x=pure x:=by intro _;rfl):PS X (.For tg iter body [] pos) (HY Y g Z):=by
 intro pins s σ H D I h;refine wpAny_For (cF (hi pins s σ H _ I h) λv s1 h1=>cF h1 λab s2 h2=>?_) hs;obtain⟨it,C,tn,J,H2,e,I2,T,O,f2,W,⟨m0,w0⟩,E⟩:=h2;subst e--what stays true of the iterator's objects through the loop
 have j:∀{y:Hp},(∀b∈C,y b=none)->∀b∈C,iH X pins y b:=λhn b c=>⟨hn b c,(f2 b c).2⟩;refine codeAny_forLoop_any (λn s'=>∃i k y,Inv X pins k y s'/\tn i s'.heap/\(∀b∈C,y b=none)/\W i n k y) ?_ m0 ⟨0,σ,H2,I2,O,λb c=>(f2 b c).1,w0⟩;rintro n s3⟨i,p,L,I3,F,RL,w3⟩;rcases E i n p L w3 with⟨stop,qn⟩|⟨go,N,hN,step⟩;.refine wpAny_passesOwn B (cF (T.done X rfl rfl rfl hc i pins s3 p L X.xe I3 (j RL) F stop) λr s4⟨hr,I4⟩=>?_);subst hr;exact wpAny_execs_nil ⟨p,L,I4,qn⟩
 . refine wpAny_passesOwn B (cF (T.item X rfl rfl rfl hc i pins s3 p L X.xe I3 (j RL) F go) λr s4⟨u,hr,h4⟩=>?_);subst hr;refine wpAny_passesOwn B (cF h4 λ_ s5⟨x,H5,I5,r5,y5,Qu,fr5⟩=>?_);have Q:=I5.pinned (j fr5) (T.obj _ _ Qu);refine wpAny_passesOwn B (cF (hg _ s5 p H5 x u _ Q r5 (step x H5 y5)) λ_ s6⟨U,H6,I6,q6⟩=>?_);refine wpAny_passesOwn B (cF (c _ s6 U H6 _ I6 q6) λf s7 z=>?_);have again:∀{a:St}{q:Hp},Inv X (pins++jz C s5.heap) a q s7->N a q->∃m,m<n/\∃i k y,Inv X pins k y s7/\tn i s7.heap/\(∀b∈C,y b=none)/\W i m k y:=λ{a q}t G=>by obtain⟨m',hm,w7⟩:=hN a q G;refine⟨m',hm,i+1,a,q,t.ik,T.keep _ _ _ Qu λb c o e=>(t.pin (b,o) (mem_append_right _ (mem_append_right _ (eE c e)))).1,λb c=>?_,w7⟩;obtain⟨o,e,d⟩:=T.obj _ _ Qu b c;exact(t.pin (b,o) (mem_append_right _ (mem_append_right _ (eE c e)))).2.1
   cases f with|next=>obtain⟨a,q,t,G⟩:=z;exact again t G|cont=>obtain⟨a,q,t,G⟩:=z;exact again t G|brk=>obtain⟨a,q,t,z⟩:=z;exact⟨a,q,t.ik,z⟩|ret v=>obtain⟨x7,a,q,t,r7,z⟩:=z;exact⟨x7,a,q,t.ik,r7,z⟩
end
abbrev R2:=V->V->Hp->VK->Prop
def cX(X:Cx)(f:Value->Value->Sem Value)(r:R2):Prop:=∀(pins:List (Addr × Obj))(s:Shared)(σ:St)(H:Hp)(x y:V)(v u:Value)(Q:VK),Inv X pins σ H s->RelV x v->RelV y u->r x y H Q->wpAny (model X.prog X.w) X.A (f v u) (EP X pins σ Q) X.xe s
def dz(X:Cx)(f:Value)(r:List V->Hp->VK->Prop):Prop:=∀(pins:List (Addr × Obj))(s:Shared)(σ:St)(H:Hp)(xs:List V)(us:List Value)(Q:VK),Inv X pins σ H s->Vals xs us->r xs H Q->wpAny (model X.prog X.w) X.A (call f us) (EP X pins σ Q) X.xe s
def G5(r:R2)(a b:TE):TE:=λσ H Q=>a σ H λx c=>b σ c λy e=>r x y e Q
def rI(C:Int->Int->Prop)(g:Int->Int->V):R2:=λx y H Q=>∃i j,x=.int i/\y=.int j/\C i j/\Q (g i j) H
def wV(g:Int->Int->V):R2:=λx y H Q=>∃i j,x=.int i/\y=.int j/\Q (g i j) H
section
variable{X:Cx}{a b c:Expr}{ta tb tc:TE}{pos:Pos}
theorem Cz(m:PE X a ta)(n:PE X b tb){σ:St}{R:V->V->Hp->Prop}(I:Inv X pins σ H s)(h:ta σ H λx k=>tb σ k λy e=>R x y e){Q:Value->Shared->Prop}{f:Value->Value->Sem Value}(o:∀v u s2 x y e,Inv X pins σ e s2->RelV x v->RelV y u->R x y e->wpAny (model X.prog X.w) X.A (f v u) Q X.xe s2):wpAny (model X.prog X.w) X.A (eval a X.env) (λv g=>wpAny (model X.prog X.w) X.A (eval b X.env) (λu j=>wpAny (model X.prog X.w) X.A (f v u) Q X.xe j) X.xe g) X.xe s:=by refine cF (m pins s σ H _ I h) λv s1⟨x,k,I1,r1,q1⟩=>?_;refine cF (n pins s1 σ k _ I1 q1) λu s2⟨y,e,I2,r2,q2⟩=>?_;exact o v u s2 x y e I2 r1 r2 q2
theorem Js{op:Operator}{r:R2}(ho:cX X (binaryOp op) r)(e:PE X a ta)(f:PE X b tb):PE X (.BinOp a op b pos) (G5 r ta tb):=by intro pins s σ H Q I h;exact wpAny_BinOp (Cz e f I h λv u s2 x y g j k m q=>ho pins s2 σ g x y v u Q j k m q)
theorem Nj{f:Value->Value->Sem Value}{C:Int->Int->Prop}{g:Int->Int->Int}(rule:∀(i j:Int)(t u:Tok)(s:Shared)(Q:Value->Shared->Prop)(E:Value->Shared->Prop),C i j->Q (.int (g i j) s.toks) {s with toks:=s.toks+1}->wpAny (model X.prog X.w) X.A (f (.int i t) (.int j u)) Q E s):cX X f (rI C λi j=>.int (g i j)):=by intro pins s σ H x y v u Q I e k h;obtain⟨i,j,rfl,rfl,hc,q⟩:=h;obtain⟨t,rfl⟩:=e;obtain⟨t',rfl⟩:=k;exact rule i j t t' s _ _ hc ⟨.int (g i j),H,I.tok _,⟨_,rfl⟩,q⟩
theorem Hv{f:Value->Value->Sem Value}{g:Int->Int->Int}(rule:∀(i j:Int)(t u:Tok)(s:Shared)(Q:Value->Shared->Prop)(E:Value->Shared->Prop),Q (.int (g i j) s.toks) {s with toks:=s.toks+1}->wpAny (model X.prog X.w) X.A (f (.int i t) (.int j u)) Q E s):cX X f (wV λi j=>.int (g i j)):=by intro pins s σ H x y v u Q I e k h;obtain⟨i,j,rfl,rfl,q⟩:=h;obtain⟨t,rfl⟩:=e;obtain⟨t',rfl⟩:=k;exact rule i j t t' s _ _ ⟨.int (g i j),H,I.tok _,⟨_,rfl⟩,q⟩
theorem yU{f:Value->Value->Sem Value}{g:Int->Int->Bool}(rule:∀(i j:Int)(t u:Tok)(s:Shared)(Q:Value->Shared->Prop)(E:Value->Shared->Prop),Q (.bool (g i j)) s->wpAny (model X.prog X.w) X.A (f (.int i t) (.int j u)) Q E s):cX X f (wV λi j=>.bl (g i j)):=by intro pins s σ H x y v u Q I e k h;obtain⟨i,j,rfl,rfl,q⟩:=h;obtain⟨t,rfl⟩:=e;obtain⟨t',rfl⟩:=k;exact rule i j t t' s _ _ ⟨.bl (g i j),H,I,rfl,q⟩
def Ql(i j:Int):Prop:=0<=j/\j<=1000000/\i.natAbs<2^64
def Er(i j:Int):Prop:=(-(2^64)<i/\i<2^64)\/(-(2^64)<j/\j<2^64)
theorem Er.ok{i j:Int}(h:Er i j):IntMulOk i j:=by
 rcases h with⟨h1,e⟩|⟨h1,e⟩;.exact .of_left (intBits_le_64 h1 e)
 .exact .of_right (intBits_le_64 h1 e)
theorem Bb:cX X (binaryOp .Add) (wV λi j=>.int (i+j)):=Hv λ_ _ _ _ _ _ _ q=>add_int q
theorem DR:cX X (binaryOp .Sub) (wV λi j=>.int (i-j)):=Hv λ_ _ _ _ _ _ _ q=>sub_int q
theorem Dd:cX X (binaryOp .Mult) (rI Er λi j=>.int (i*j)):=Nj λ_ _ _ _ _ _ _ hc q=>mul_int q hc.ok
theorem Cy:cX X (binaryOp .Mod) (rI (λ_ j=>0<j) λi j=>.int (i%j)):=Nj λi j _ _ _ _ _ hc q=>by have h1:(0:Int)<j:=hc;exact mod_int' (by omega) (by rw[Int.fmod_eq_emod_of_nonneg i (by omega)];exact q)
theorem Bl:cX X (binaryOp .Pow) (rI Ql λi j=>.int (i^j.toNat)):=Nj λ_ _ _ _ _ _ _ hc q=>pow_int_small hc.1 hc.2.1 hc.2.2 q
end
section
variable{X:Cx}{a b c:Expr}{ta tb tc:TE}{pos:Pos}
theorem Dy{σ:St}{Q:VK}{k f:Bool}(I:Inv X pins σ H s)(q:Q (.bl k) H)(e:k=f):EP X pins σ Q (.bool f) s:=by subst e;exact⟨.bl k,H,I,rfl,q⟩
theorem Ht:cX X (compareOp .Lt) (wV λi j=>.bl (decide (i<j))):=yU λ_ _ _ _ _ _ _ q=>lt_int q
theorem Io:cX X (compareOp .LtE) (wV λi j=>.bl (decide (i<=j))):=yU λ_ _ _ _ _ _ _ q=>le_int q
theorem HR:cX X (compareOp .Gt) (wV λi j=>.bl (decide (j<i))):=yU λ_ _ _ _ _ _ _ q=>gt_int q
theorem JS:cX X (compareOp .GtE) (wV λi j=>.bl (decide (j<=i))):=yU λ_ _ _ _ _ _ _ q=>ge_int q
theorem Cj:cX X (compareOp .Is) (λx y H Q=>y=.non/\Q (.bl (decide (x=.non))) H):=by intro pins s σ H x y v u Q I e f h;obtain⟨rfl,q⟩:=h;cases f;refine is_none_gen (Dy I q ?_);cases x<;>first|(cases e;rfl)|(obtain⟨t,rfl⟩:=e;rfl)
theorem Pa{op:CmpOp}{e:List Expr}{k:Nat}{p:Pos}(f:(op==CmpOp.In)=false)(g:(op==CmpOp.NotIn)=false):behindInMarks op (.Set e k p)=false:=by show(k==0&&(op==CmpOp.In||op==CmpOp.NotIn)&&_)=false;rw[f,g];cases(k==0)<;>rfl
theorem bC(b:Expr)(h:op≠.In:=by decide)(e:op≠.NotIn:=by decide):behindInMarks op b=false:=by
 have f:(op==CmpOp.In)=false:=by cases op<;>first|rfl|exact absurd rfl h
 have g:(op==CmpOp.NotIn)=false:=by cases op<;>first|rfl|exact absurd rfl e
 cases b<;>first|rfl|exact Pa f g
theorem yq{r:R2}(ho:cX X (compareOp op) r)(e:PE X a ta)(f:PE X b tb)(g:behindInMarks op b=false):PE X (.Compare a [op] [b] pos) (G5 r ta tb):=by intro pins s σ H Q I h;exact wpAny_Compare1 (Cz e f I h λv u s2 x y j k m n q=>ho pins s2 σ j x y v u Q k m n q) g
def Jc(t:TE):TT:=λσ H Q=>t σ H λx e=>∃k,x=.bl k/\Q k e
theorem yg{r:R2}(ho:cX X (compareOp op) r)(f:PE X a ta)(g:PE X b tb)(j:behindInMarks op b=false):PT X (.Compare a [op] [b] pos) (Jc (G5 r ta tb)):=by intro pins s σ H Q I h;refine wpAny_isTrue_Compare1 (cF (f pins s σ H _ I h) λv s1⟨x,H1,I1,r1,q1⟩=>cF (g pins s1 σ H1 _ I1 q1) λu s2⟨y,H2,I2,r2,q2⟩=>cF (ho pins s2 σ H2 x y v u _ I2 r1 r2 q2) λc s3⟨z,H3,I3,r3,k,e,q3⟩=>?_) j;subst e;cases r3;exact wpAny_truthy_bool ⟨H3,I3,q3⟩
def Ep(r f:R2)(ta tb tc:TE):TE:=λσ H Q=>ta σ H λx g=>tb σ g λy j=>r x y j λz e=>∃k,z=.bl k/\(if k=true then tc σ e λm n=>f y m n Q else Q (.bl false) e)
theorem vU{f:CmpOp}{r j:R2}(ho:cX X (compareOp op) r)(g:cX X (compareOp f) j)(m:PE X a ta)(n:PE X b tb)(hc:PE X c tc)(o:lastMarks [op,f] [b,c]=false:=by with_unfolding_all rfl):PE X (.Compare a [op,f] [b,c] pos) (Ep r j ta tb tc):=by intro pins s σ H Q I h;refine Compare_chain (cF (m pins s σ H _ I h) λv s1⟨x,H1,I1,r1,q1⟩=>chain_link (cF (n pins s1 σ H1 _ I1 q1) λu s2⟨y,H2,I2,r2,q2⟩=>cF (ho pins s2 σ H2 x y v u _ I2 r1 r2 q2) λd s3⟨z,H3,I3,r3,k,e,q3⟩=>?_)) o;subst e;cases r3;refine wpAny_truthy_bool ?_;cases k with|false=>exact ite_ff ⟨.bl false,H3,I3,rfl,q3⟩|true=>exact ite_tt (chain_last (cF (hc pins s3 σ H3 _ I3 q3) λp s4⟨q,H4,I4,r4,q4⟩=>g pins s4 σ H4 y q u p Q I4 r2 r4 q4))
theorem mR:(sizeLine:Nat)<2^63:=by rw[sizeLine_eq];decide
theorem pW:cX X (binaryOp .Add) (λx y H Q=>∃i j,x=.str i/\y=.str j/\i.length+j.length<=sizeLine/\Q (.str (i++j)) H):=by intro pins s σ H x y v u Q I e f h;obtain⟨i,j,rfl,rfl,g,q⟩:=h;obtain⟨t,rfl⟩:=e;obtain⟨t',rfl⟩:=f;exact add_str (λt' k=>⟨.str (i++j),H,I.tok _,⟨_,rfl⟩,q⟩) g
theorem vals1{x:V}(r:Vals [x] us):∃u,us=[u]/\RelV x u:=by cases r with|cons r1 e=>cases e;exact⟨_,rfl,r1⟩
theorem vals2{x y:V}(r:Vals [x,y] us):∃u e,us=[u,e]/\RelV x u/\RelV y e:=by cases r with|cons r1 f=>cases f with|cons g j=>cases j;exact⟨_,_,rfl,r1,g⟩
theorem tM(hc:X.calm=true):dz X (.builtin "min") (λxs H Q=>∃i j,xs=[.int i,.int j]/\Q (.int (if j<i then j else i)) H):=by
 intro pins s σ H xs us Q I r h;obtain⟨i,j,rfl,q⟩:=h;obtain⟨u,f,rfl,⟨t,rfl⟩,⟨t',rfl⟩⟩:=vals2 r;refine min_two_ints (I.ok.hd hc) λh' g k=>⟨_,H,I.kept k,?_,q⟩;by_cases e:j<i;.rw[if_pos e,if_pos e];exact⟨_,rfl⟩
 .rw[if_neg e,if_neg e];exact⟨_,rfl⟩
end
structure fG(k:Nat)(A:Around):Prop where
 hd:A.handled=none
 dp:A.depth+3*k+5<recursionLimit
 un:A.units+16*k+200<cLine
theorem fG.deeper{k:Nat}{A:Around}(r:fG (k+1) A)(env:Env):fG k (A.deeper env):=⟨r.hd,by have:=r.dp;show A.depth+1+3*k+5<_;omega,by have:=r.un;show A.units+3+16*k+200<_;omega⟩
theorem fG.depth{k:Nat}{A:Around}(r:fG k A):A.depth<recursionLimit:=by have:=r.dp;omega
def tU:TA:=λ_ H Q=>Q [] H
def dU(a:TE)(b:TA):TA:=λσ H Q=>a σ H λx c=>b σ c λxs e=>Q (x::xs) e
section
variable{X:Cx}{e:Expr}{es:List Expr}{te:TE}{t:TA}{pos:Pos}
theorem cL:PA X [] tU:=λ_ _ _ _ H Q I h=>Calls.spliced_nil ⟨[],H,I,.nil,h⟩
theorem aV(a:PE X e te)(hr:PA X es t)(hs:starEach (e::es) X.env=(false,eval e X.env)::starEach es X.env:=by rfl):PA X (e::es) (dU te t):=by intro pos pins s σ H Q I h;rw[hs];show wpAny _ _ (spliced ((false,eval e X.env)::backTo pos (starEach es X.env))) _ _ s;refine Calls.spliced_cons (cF (a pins s σ H _ I h) λu s1⟨x,H1,I1,r1,q1⟩=>?_);exact cF (hr pos pins s1 σ H1 _ I1 q1) λus s2⟨xs,H2,I2,r2,q2⟩=>⟨x::xs,H2,I2,.cons r1 r2,q2⟩
def OD(t:TA):TE:=λσ H Q=>t σ H λxs a=>xs.length<=sizeLine/\∀p,a p=none->Q (.ref p) (upd a p (.tup xs))
def DG(t:TA):TE:=λσ H Q=>t σ H λxs a=>xs.length<=sizeLine/\∀p,a p=none->Q (.ref p) (upd a p (.lst xs))
theorem uG{x1}(h:PA X es t):PE X (.Tuple es x1 pos) (OD t):=by intro pins s σ H Q I a;refine wpAny_Tuple_spliced (cF (h pos pins s σ H _ I a) λus s1⟨xs,H1,I1,r,z,q⟩=>⟨by rw[<-r.length];exact z,?_⟩);have c:H1 s1.heap.objs.size=none:=I1.hok.fresh (fO);refine⟨.ref s1.heap.objs.size,upd H1 s1.heap.objs.size (.tup xs),I1.laid (t':=s1.toks) (λb u e=>dH e) (fO) ?_,rfl,q _ c⟩;exact⟨z,us,r,⟨_,get?_push_size _ rfl,rfl,_,rfl⟩⟩
theorem vz(h:PA X es t):PE X (.List es pos) (DG t):=by intro pins s σ H Q I a;refine wpAny_List_spliced (cF (h pos pins s σ H _ I a) λus s1⟨xs,H1,I1,r,z,q⟩=>⟨by rw[<-r.length];exact z,?_⟩);have c:H1 s1.heap.objs.size=none:=I1.hok.fresh (fO);refine⟨.ref s1.heap.objs.size,upd H1 s1.heap.objs.size (.lst xs),I1.laid (t':=s1.toks) (λb u e=>dH e) (fO) ?_,rfl,q _ c⟩;exact⟨z,us,0,r,get?_push_size _ rfl⟩
end
abbrev Sp:=List V->Hp->VK->XK->Prop
abbrev uW:=List Env->Hp->Shared->XK->Value->Shared->Prop
structure yN(P:Program)(w:World)(K:PySem.W.Frag)(mg:Str->Option Value)(base:Heap)(A:Around)(outer:List Env)(s:Shared)(H:Hp):Prop where
 frames:A.frames=some outer
 mod:Mod K mg base
 bs:∀b o,base.get? b=some o->s.heap.get? b=some o/\H b=none
 Ah:base.objs.size<=s.heap.objs.size
 jW:s.heap.FunFrames base outer
 Hf:∀b∈frs outer,H b=none
 hok:kY P w H s.heap
 bare:AllBare s.gens
def CE(outer:List Env)(P:Program)(w:World)(H:Hp)(s:Shared)(Q:VK)(u:Value)(a:Shared):Prop:=∃v b,a.os=s.os/\AllBare a.gens/\Un (frs outer) [] H b s.heap a.heap/\kY P w b a.heap/\RelV v u/\Q v b
def CR(CX:uW)(outer:List Env)(P:Program)(w:World)(H:Hp)(s:Shared)(Q:VK)(E:XK)(r:Result)(a:Shared):Prop:=match r with|.ok (.ret u)=>CE outer P w H s Q u a|.ok _=>False|.error e=>CX outer H s E e a
structure iY(P:Program)(w:World)(K:PySem.W.Frag)(mg:Str->Option Value)(base:Heap)(CX:uW)(k:Nat)(f:Addr)(fd:FuncData)(ps:List Str)(sp:Sp):Prop where
 len:∀vs H Q E,sp vs H Q E->vs.length=ps.length
 run:∀(A:Around)(outer:List Env)(s:Shared)(H:Hp)(args:Args)(us:List Value)(vs:List V)(Q:VK)(E:XK),fG k A->yN P w K mg base A outer s H->BindsTo s fd args (ps.zip us)->Vals vs us->sp vs H Q E->codeAny (model P w) A (.call (.ref f) args) (CR CX outer P w H s Q E) s
section
variable{X:Cx}{pins:List (Addr×Obj)}{σ:St}{H:Hp}{s s':Shared}
theorem Inv.env0(I:Inv X pins σ H s):yN X.prog X.w X.K X.mg X.base X.A X.stack s H:=⟨I.ok.frames,I.ok.mod,I.bs,le_trans I.ok.Ah I.sz,I.stack,I.rY,I.hok,I.bare⟩
theorem Inv.after{Q:VK}{u:Value}(I:Inv X pins σ H s)(h:CE X.stack X.prog X.w H s Q u s'):EP X pins σ Q u s':=by obtain⟨v,c,os,bare,un,hok,r,q⟩:=h;obtain⟨e,g,d,t,a⟩:=s';obtain rfl:a=s.os:=os;exact⟨v,c,I.call (h':=e) (g':=g) (d':=d) (t':=t) (ch:=[]) un hok bare (λb z=>absurd z (by simp)),r,q⟩
end
def zW(sp:Sp)(a:List V)(E:XK)(t:TA):TE:=λσ H Q=>t σ H λb c=>sp (b++a) c Q E
def Binds(K:PySem.W.Frag)(fd:FuncData)(ps:List Str)(ds:List Value):Prop:=∀(s:Shared)(us:List Value),K.In s.heap->(us++ds).length=ps.length->BindsTo s fd ⟨us,[]⟩ (ps.zip (us++ds))
theorem Binds.all{fd:FuncData}{ps:List Str}(h:∀us:List Value,us.length=ps.length->bindArgs fd ⟨us,[]⟩=pure (ps.zip us)):Binds K fd ps []:=λs us _ a=>by rw[append_nil]at a ⊢;exact .of_eq (h us a)
def Passes(CX:uW)(X:Cx)(E:XK):Prop:=∀(pins:List (Addr×Obj))(σ:St)(H:Hp)(s:Shared)(e:Value)(a:Shared),Inv X pins σ H s->CX X.stack H s E e a->X.xe e a
section
variable{X:Cx}{CX:uW}{k:Nat}{f C:Addr}{fd:FuncData}{ps:List Str}{sp:Sp}{Aj:List V}{ds:List Value}{E:XK}{x m:Str}{p pos apos:Pos}{e o:Expr}{es:List Expr}{ta:TE}{t:TA}
theorem Dr{σ:St}{Q:VK}{b:List V}(F:iY X.prog X.w X.K X.mg X.base CX k f fd ps sp)(hr:fG k X.A)(g:Binds X.K fd ps ds)(hd:Vals Aj ds)(hx:Passes CX X E)(I:Inv X pins σ H s)(r:Vals b us)(h:sp (b++Aj) H Q E):wpAny (model X.prog X.w) X.A (call (.ref f) us) (EP X pins σ Q) X.xe s:=by
 have c:Vals (b++Aj) (us++ds):=r.append hd;have j:(us++ds).length=ps.length:=by rw[<-c.length];exact F.len _ _ _ _ h
 refine wpAny_call (codeAny_mono (F.run X.A X.stack s H ⟨us,[]⟩ (us++ds) (b++Aj) Q E hr I.env0 (g s us I.zy j) c h) λr n a=>?_);cases r with|error e=>exact hx pins σ H s e n I a|ok q=>cases q with|ret u=>exact I.after a|next=>exact False.elim a|brk=>exact False.elim a|cont=>exact False.elim a
theorem rR(F:iY X.prog X.w X.K X.mg X.base CX k f fd ps sp)(hr:fG k X.A)(b:Gl X x)(c:X.mg x=some (.ref f))(g:keepIn X.K (.ref f)=true)(j:Binds X.K fd ps ds)(hd:Vals Aj ds)(hx:Passes CX X E)(n:PA X (e::es) t)(a:(x==("__debug__":Str))=false:=by decide)(he:starEach (e::es) X.env=(false,eval e X.env)::starEach es X.env:=by rfl)(hpl:(backTo pos (starEach es X.env)).any (·.1)=false:=by rfl):PE X (.Call (.Name x p) (e::es) [] pos) (zW sp Aj E t):=by intro pins s σ H Q I h;refine wpAny_Call_Name_kw (rZ I b c ?_ a);refine PySem.W.callWith_K (h₀:=X.base) I.ok.mod.Qs g (cF (n pos pins s σ H _ I h) λus s1⟨u,H1,I1,r,q⟩=>⟨I1.zy,?_⟩) he hpl;exact Dr F hr j hd hx I1 r q
end
structure bw(N P:List Str)(sc:Scope):Prop where
 kind:sc.kind=.function
 co:sc.isCoroutine=false
 gen:sc.isGenerator=false
 nd:N.Nodup
 pre:N.take P.length=P
 par:∀x∈P,sc.names.lookup x=some .local\/sc.names.lookup x=some .cell
 Ew:∀y∈sc.names,y.2≠.free
theorem lD{kindOf:Str->Option NameKind}{x:Str}:∀{binds:List (Str×Value)}{m:Str->Option Value},(∀v,(x,v)∉binds)->bindL kindOf binds m x=m x
 |[],_,_=>rfl|(n,v)::r,m,h=>by
   unfold bindL;rw[lD λw a=>h w (mem_cons_of_mem _ a)];split
   . have:x≠n:=by rintro rfl;exact h v mem_cons_self
     simp[this]
   .rfl
theorem lQ{kindOf:Str->Option NameKind}{x:Str}:∀{binds:List (Str×Value)}{m:Str->Option Value},(∀v,(x,v)∉binds)->bindC kindOf binds m x=m x
 |[],_,_=>rfl|(n,v)::r,m,h=>by
   unfold bindC;rw[lQ λw a=>h w (mem_cons_of_mem _ a)];split;.rfl
   . have:x≠n:=by rintro rfl;exact h v mem_cons_self
     simp[this]
theorem lF{kindOf:Str->Option NameKind}{x:Str}{v:Value}:∀{P:List Str}{a:List Value}{i:Nat}{m:Str->Option Value},P.Nodup->P[i]?=some x->a[i]?=some v->kindOf x=some .local->bindL kindOf (P.zip a) m x=some v|[],_,_,_,_,h,_,_=>by simp at h|_::_,[],_,_,_,_,h,_=>by simp at h|p::P,w::a,0,m,nd,h1,b,c=>by simp at h1 b;subst h1;subst b;show bindL kindOf ((p,w)::P.zip a) m p=_;unfold bindL;rw[lD λv e=>(nodup_cons.mp nd).1 (of_mem_zip e).1,if_pos c];simp|p::P,w::a,i+1,m,nd,h1,b,c=>by show bindL kindOf ((p,w)::P.zip a) m x=_;unfold bindL;exact lF (i:=i) (nodup_cons.mp nd).2 (by simpa using h1) (by simpa using b) c
theorem lR{kindOf:Str->Option NameKind}{x:Str}{v:Value}:∀{P:List Str}{a:List Value}{i:Nat}{m:Str->Option Value},P.Nodup->P[i]?=some x->a[i]?=some v->kindOf x≠some .local->bindC kindOf (P.zip a) m x=some v|[],_,_,_,_,h,_,_=>by simp at h|_::_,[],_,_,_,_,h,_=>by simp at h|p::P,w::a,0,m,nd,h1,b,c=>by simp at h1 b;subst h1;subst b;show bindC kindOf ((p,w)::P.zip a) m p=_;unfold bindC;rw[lQ λv e=>(nodup_cons.mp nd).1 (of_mem_zip e).1,if_neg c];simp|p::P,w::a,i+1,m,nd,h1,b,c=>by show bindC kindOf ((p,w)::P.zip a) m x=_;unfold bindC;exact lR (i:=i) (nodup_cons.mp nd).2 (by simpa using h1) (by simpa using b) c
noncomputable def start(N:List Str)(a:List V):St:=a.map some++replicate (N.length-a.length) none
noncomputable def pH(CX:uW)(P:Program)(w:World)(K:PySem.W.Frag)(mg:Str->Option Value)(base:Heap)(N:List Str)(qual:Str)(scope:Scope)(f:Addr)(b:Value)(A:Around)(outer:List Env)(s:Shared)(H:Hp)(E:XK):Cx where prog:=P;w:=w;K:=K;mg:=mg;base:=base;A:=A.deeper (envOfC qual scope s.heap.objs.size f b);N:=N;s₀:=s;H₀:=H;env:=envOfC qual scope s.heap.objs.size f b;outer:=outer;stack:=envOfC qual scope s.heap.objs.size f b::outer;ex:=[];calm:=true;fn:=λ_=>true;pn:=[];xe:=λe c=>wpAny (model P w) (A.deeper (envOfC qual scope s.heap.objs.size f b)) (leaving (envOfC qual scope s.heap.objs.size f b) e) (λ_ a=>CX outer H s E e a) (λg a=>CX outer H s E g a) c
theorem nD{a:Scope}{n:Nat}{x:Str}(h:a.names.lookup x=some .cell):∃c,(cellsFrom n a.names []).lookup x=some c:=by have q:=PySem.W.cellsFrom_some a.names n [] (.inl h);exact Option.isSome_iff_exists.mp q
theorem sX{CX:uW}{P:Program}{mg:Str->Option Value}{base:Heap}{N ps:List Str}{qual:Str}{scope:Scope}{f:Addr}{t:Value}{outer:List Env}{s1:Shared}{E:XK}{m:List V}(S:bw N ps scope)(hd:A.handled=none)(j:yN P w K mg base A outer s H)(O:m.length=ps.length)(r:Vals m us)(x:InCallC s s.heap.objs.size (bindL (envOfC qual scope s.heap.objs.size f t).kindOf (ps.zip us) λ_=>none) (cellsFrom (s.heap.objs.size+1) scope.names []) (bindC (envOfC qual scope s.heap.objs.size f t).kindOf (ps.zip us) λ_=>none) s1):Inv (pH CX P w K mg base N qual scope f t A outer s H E) [] (start N m) H s1:=by
 have hpl:ps.length<=N.length:=by have:=congrArg List.length S.pre;rw[List.length_take]at this;omega
 obtain⟨h1,Q,rfl,F⟩:=x.done;have C:∀b:Addr,b∉(pH CX P w K mg base N qual scope f t A outer s H E).ex:=λb z=>absurd (show b∈([]:List Addr)from z) (by simp);refine⟨⟨j.mod,S.kind,rfl,rfl,fO,λy z c h1 g=>?_,λy hy=>?_,λy c _ h=>?_,λ_=>hd,Around.frames_deeper j.frames,.inr ⟨rfl,rfl⟩,λb z=>absurd z (C b),j.bs,j.Ah,λb _ _=>C b,λb z=>absurd z (C b),j.jW,j.Hf⟩,rfl,j.bare,Un.kept F,⟨_,x.toInCall.ns,λi y v h1 g U=>?_⟩,λy c h=>⟨_,x.cell y c h⟩,j.hok.fresh (fO),λy c h=>?_,λp o=>absurd (show p∈([]:List (Addr×Obj))from o) (by simp),j.hok.kept F,?_⟩;.exact name_of_addr x.apart (PySem.mem_of_lookup h1) (PySem.mem_of_lookup g)
 . have hy:scope.names.lookup y=some .cell\/scope.names.lookup y=some .free:=hy;rcases hy with hy|hy;.exact nD hy
   .exact absurd rfl (S.Ew _ (PySem.mem_of_lookup hy))
 .exact le_of_lt (x.above y c (PySem.mem_of_lookup h))
 . have B:i<m.length:=by
    unfold start at g;by_cases B:i<m.length;.exact B
    .rw[List.getElem?_append_right (by simpa using B)]at g;rw[List.getElem?_replicate]at g;split at g<;>cases g
   have J:m[i]?=some v:=by unfold start at g;rw[getElem?_append_left (by simpa using B),getElem?_map]at g;cases e:m[i]?with|none=>rw[e]at g;cases g|some a=>rw[e]at g;cases g;rfl
   obtain⟨u,G,L⟩:=r.get J;have o:ps[i]?=some y:=by rw[<-S.pre,List.getElem?_take_of_lt (by omega)];exact h1
   have I:ps.Nodup:=by rw[<-S.pre];exact S.nd.sublist (List.take_sublist _ _)
   refine⟨u,L,?_⟩;rcases S.par y (mem_of_getElem? o)with k|k;.exact .inl ⟨k,lF I o G k⟩
   .obtain⟨c,e⟩:=nD (n:=s.heap.objs.size+1) k;refine .inr ⟨.inl k,c,e,?_⟩;have q:=x.cell y c e;rw[lR I o G (by show scope.names.lookup y≠_;rw[k];decide)]at q;exact q
 .exact j.hok.fresh (le_of_lt (x.above y c (PySem.mem_of_lookup h)))
 .unfold start;show _=N.length;rw[length_append,length_map,List.length_replicate];omega
theorem Ig{CX:uW}{P:Program}{w:World}{K:PySem.W.Frag}{mg:Str->Option Value}{base:Heap}{k:Nat}{f:Addr}{name qual:Str}{a:Arguments}{body:List Stmt}{scope:Scope}{U kV z Y cdv ct oc:Value}{Z od:Option Addr}{F:Array (Option Value)}{N ps:List Str}{sp:Sp}(lk:K.lookup f=some ⟨oc,od,.func (PySem.W.fnOf name qual a body scope U kV z Y Z cdv ct),F⟩)(G:PySem.W.codeIn K cdv qual=true)(S:bw N ps scope)(len:∀c H Q E,sp c H Q E->c.length=ps.length)(m:∀(A:Around)(outer:List Env)(s:Shared)(H:Hp)(c:List V)(Q:VK)(E:XK),fG k (A.deeper (envOfC qual scope s.heap.objs.size f cdv))->sp c H Q E->∃t,kO (pH CX P w K mg base N qual scope f cdv A outer s H E) body t/\t {nx:=λ_ j=>Q .non j,rt:=Q} (start N c) H):iY P w K mg base CX (k+1) f (PySem.W.fnOf name qual a body scope U kV z Y Z cdv ct) ps sp:=by
 refine⟨len,λA outer s H args us c Q E hr B hb r C=>?_⟩;have hl:=len _ _ _ _ C;have KX:K.In s.heap:=B.mod.Qs.keeps λb o e=>(B.bs b o e).1;have lim:s.heap.NoLimit:=B.mod.nolimit.keeps λb o e=>(B.bs b o e).1;have p:∀y∈ps.zip us,scope.names.lookup y.1=some .local\/(scope.names.lookup y.1=some .cell/\((cellsFrom (s.heap.objs.size+1) scope.names []).lookup y.1).isSome=true):=λ⟨n,v⟩hy=>by
  rcases S.par n (of_mem_zip hy).1 with q|q;.exact .inl q
  .exact .inr ⟨q,PySem.W.cellsFrom_some _ _ _ (.inl q)⟩
 refine codeAny_call_function hr.depth (KX _ _ lk) rfl S.co S.gen rfl (PySem.W.codeRec_of KX G) (hb _ _ _ _ ?_);refine wpAny_newFunctionEnv_cells S.kind p λenv he s1 x=>?_;subst he;refine⟨lim.keeps x.toInCall.keep,codeAny_func ?_⟩;obtain⟨t,ht,hq⟩:=m A outer s H c Q E (hr.deeper _) C;have I:Inv (pH CX P w K mg base N qual scope f cdv A outer s H E) [] (start N c) H s1:=sX S hr.hd B hl r x;refine wpAny_mono (ht [] s1 (start N c) H _ I hq) (λfl L hs=>?_) λe L hs=>hs;have fin:∀{g:St}{j:Hp}{v:V}{u:Value},Inv (pH CX P w K mg base N qual scope f cdv A outer s H E) [] g j L->RelV v u->Q v j->CE outer P w H s Q u L:=λ{g j v u}J O q=>⟨v,j,J.os,J.bare,J.base,J.hok,O,q⟩;cases fl with|ret u=>obtain⟨v,g,j,J,O,q⟩:=hs;exact fin J O q|next=>obtain⟨g,j,J,q⟩:=hs;exact fin (v:=V.non) (u:=Value.none) J rfl q|brk=>obtain⟨_,_,_,q⟩:=hs;exact False.elim q|cont=>obtain⟨_,_,_,q⟩:=hs;exact False.elim q
section
variable{X:Cx}{x:Str}{p pos:Pos}{e:Expr}{es:List Expr}{t:TA}{id T:String}{r:List V->Hp->VK->Prop}
def K8(r:List V->Hp->VK->Prop)(t:TA):TE:=λσ H Q=>t σ H λa b=>r a b Q
theorem fX(hc:dz X (.builtin id) r)(b:Gl X x)(c:X.mg x=none)(f:bootBuiltins x=some (.builtin id))(g:PA X (e::es) t)(j:x≠"__name__":=by decide)(a:(x==("__debug__":Str))=false:=by decide)(he:starEach (e::es) X.env=(false,eval e X.env)::starEach es X.env:=by rfl)(hpl:(backTo pos (starEach es X.env)).any (·.1)=false:=by rfl):PE X (.Call (.Name x p) (e::es) [] pos) (K8 r t):=by intro pins s σ H Q I h;refine wpAny_Call_Name_kw (iW I b c f ?_ j a);exact PyProof.Rows.callWith_builtin1 (cF (g pos pins s σ H _ I h) λus s1⟨k,H1,I1,r1,q1⟩=>hc pins s1 σ H1 k us Q I1 r1 q1) he hpl
theorem lz(hc:dz X (.type T) r)(b:Gl X x)(c:X.mg x=none)(f:bootBuiltins x=some (.type T))(g:PA X (e::es) t)(j:x≠"__name__":=by decide)(a:(x==("__debug__":Str))=false:=by decide)(he:starEach (e::es) X.env=(false,eval e X.env)::starEach es X.env:=by rfl)(hpl:(backTo pos (starEach es X.env)).any (·.1)=false:=by rfl):PE X (.Call (.Name x p) (e::es) [] pos) (K8 r t):=by intro pins s σ H Q I h;refine wpAny_Call_Name_kw (iW I b c f ?_ j a);exact PyProof.Rows.callWith_type1 (cF (g pos pins s σ H _ I h) λus s1⟨k,H1,I1,r1,q1⟩=>hc pins s1 σ H1 k us Q I1 r1 q1) he hpl
end
end L2
namespace HT
open PySem PyProof.Rows
section
variable{prog:Program}{w:World}{A:Around}{E:Value->Shared->Prop}{s:Shared}
theorem yR{t b:Addr}{c ws:List Value}{Q:Value->Shared->Prop}(u:IsTup s.heap t c.toArray)(v:IsTup s.heap b ws.toArray)(m:c≠[])(h1:ws=[]->Q (.ref t) s)(x:ws≠[]->Q (.ref s.heap.objs.size) {s with heap:=s.heap.push {cls:=.type "tuple",data:=.seq (c++ws).toArray}})(k:c.length+ws.length<=sizeLine):wpAny (model prog w) A (binaryOp .Add (.ref t) (.ref b)) Q E s:=by
 obtain⟨⟨cls,o,data,p⟩,ho,hc,n,hd⟩:=id u;obtain⟨⟨q,f,data2,g⟩,a,h,r,i⟩:=id v;simp only at hc hd h i;subst hc hd h i;have e:c.toArray++ws.toArray=(c++ws).toArray:=by simp
 by_cases j:ws=[];.exact concat_meets ⟨_,ho,rfl⟩ ⟨_,a,rfl⟩ noFill_tuple_add seq_tuple_add slot_tuple_add entry_tuple_add (args_tuple_add_2 _ _) (tuple_addW1 t b c.toArray ws.toArray n r o f p g (by simpa using m) (by simp[j])) ⟨ho,a,h1 j⟩
 .refine concat_meets ⟨_,ho,rfl⟩ ⟨_,a,rfl⟩ noFill_tuple_add seq_tuple_add slot_tuple_add entry_tuple_add (args_tuple_add_2 _ _) (tuple_addW2 t b c.toArray ws.toArray n r o f p g (by simpa using m) (by simpa using j) (by rw[size_toArray,size_toArray];exact k)) ⟨ho,a,?_⟩;rw[e];exact x j
end
end HT
namespace L2
open PySem PySem.Spec PyProof.Rows
variable{n:Nat}
section
variable{X:Cx}{e:Expr}{te:TE}{lo hi:Option Expr}{tl th:TO}{pos p2:Pos}
def Iu(K:PySem.W.Frag):R2:=λx y H Q=>∃a b xs ys,x=.ref a/\y=.ref b/\eY K H a xs/\eY K H b ys/\xs≠[]/\xs.length+ys.length<=sizeLine/\(ys=[]->Q (.ref a) H)/\(ys≠[]->∀p,H p=none->Q (.ref p) (upd H p (.tup (xs++ys))))
theorem Vals.jn{xs:List V}{a:List Value}(r:Vals xs a):a=[]↔xs=[]:=by cases r with|nil=>simp|cons _ _=>simp
theorem yh:cX X (binaryOp .Add) (Iu X.K):=by intro f s σ H x y v u Q I j k h;obtain⟨a,b,xs,ys,rfl,rfl,m,p,hx,g,r,t⟩:=h;cases j;cases k;obtain⟨A,r1,B,_⟩:=I.tuple m;obtain⟨i,c,p2,_⟩:=I.tuple p;refine HT.yR B p2 (λz=>hx (r1.jn.mp z)) (λz=>⟨.ref a,H,I,rfl,r (c.jn.mp z)⟩) (λz=>?_) (by rw[<-r1.length,<-c.length];exact g);refine⟨.ref s.heap.objs.size,_,I.laid (t':=s.toks) (o:=.tup (xs++ys)) (λb C q=>dH q) (fO) ?_,rfl,t (λw=>z (c.jn.mpr w)) _ (I.hok.fresh (fO))⟩;exact⟨by rw[length_append];exact g,_,r1.append c,IsTup.new _ _⟩
end
noncomputable def je(n:Nat)(i:Int):Option Nat:=if 0<=i then(if i<n then some i.toNat else none)else if-(n:Int)<=i then some (i+n).toNat else none
noncomputable def Gp{a:Type}(xs:List a)(i:Int):Option a:=(je xs.length i).bind λj=>xs[j]?
theorem rG{i:Int}{j:Nat}(h:je n i=some j):seqIndex? i n=some j/\j<n/\-(n:Int)<=i/\i<n:=by
 unfold je at h;by_cases h0:0<=i
 . rw[if_pos h0]at h;by_cases h1:i<n;.rw[if_pos h1]at h;have e:i.toNat=j:=Option.some.inj h;exact⟨by rw[seqIndex_of h0 h1,e],by omega,by omega,h1⟩
   .rw[if_neg h1]at h;cases h
 . rw[if_neg h0]at h;by_cases h1:-(n:Int)<=i;.rw[if_pos h1]at h;have e:(i+n).toNat=j:=Option.some.inj h;exact⟨by rw[seqIndex_neg (by omega) h1,e],by omega,h1,by omega⟩
   .rw[if_neg h1]at h;cases h
theorem qI{a:Type}{xs:List a}{i:Int}{v:a}(h:Gp xs i=some v):∃j,seqIndex? i xs.length=some j/\xs[j]?=some v/\j<xs.length/\-(xs.length:Int)<=i/\i<xs.length:=by unfold Gp at h;cases e:je xs.length i with|none=>rw[e]at h;cases h|some j=>rw[e]at h;obtain⟨h1,b,c,f⟩:=rG e;exact⟨j,h1,h,b,c,f⟩
def qR(b:Expr):Prop:=∀o i,subscripted b false o i=operate [o,i] (getItem o i)
def Mg(X:Cx)(r:R2):Prop:=∀(b slice:Expr)(a:List (Addr × Obj))(s:Shared)(σ:St)(H:Hp)(x y:V)(v u:Value)(Q:VK),Inv X a σ H s->RelV x v->RelV y u->r x y H Q->subscripted slice false v u=operate [v,u] (getItem v u)->wpAny (model X.prog X.w) X.A (subscriptTail b slice v u) (EP X a σ Q) X.xe s
def MtR(X:Cx)(id:String)(r:V->List V->Hp->VK->Prop):Prop:=∀(a:List (Addr × Obj))(s:Shared)(σ:St)(H:Hp)(x:V)(xs:List V)(v:Value)(b:List Value)(Q:VK),Inv X a σ H s->RelV x v->Vals xs b->r x xs H Q->wpAny (model X.prog X.w) X.A (call (.builtin id) (v::b)) (EP X a σ Q) X.xe s
section
variable{X:Cx}{a b:Expr}{ta tb:TE}{pos:Pos}
theorem Jt{r:R2}(hr:Mg X r)(e:PE X a ta)(f:PE X b tb)(hs:qR b):PE X (.Subscript a b pos) (G5 r ta tb):=by intro c s σ H Q I h;exact Subscript_ (Cz e f I h λv u s2 x y g i j k q=>hr a b c s2 σ g x y v u Q i j k q (hs _ _))
def PK(K:PySem.W.Frag):R2:=λx y H Q=>∃p xs i v,x=.ref p/\y=.int i/\cR K H p xs/\Gp xs i=some v/\Q v H
def Nm(K:PySem.W.Frag):R2:=λx y H Q=>∃p xs i v,x=.ref p/\y=.int i/\eY K H p xs/\Gp xs i=some v/\Q v H
theorem yw:Mg X (PK X.K):=by
 intro e slice c s σ H x y v u Q I o A h hs;obtain⟨p,xs,i,z,rfl,rfl,B,he,q⟩:=h;cases o;obtain⟨t,rfl⟩:=A;obtain⟨f,r,g,M⟩:=I.list B;obtain⟨j,h1,C,N,E,F⟩:=qI he;obtain⟨w,m,G⟩:=r.get C;have J:=r.length;have O:=mR;have fin:EP X c σ Q w s:=⟨z,H,I,G,q⟩;by_cases h0:0<=i
 . have k:i.toNat=j:=by rw[seqIndex_of h0 F]at h1;exact Option.some.inj h1
   exact item_listR g.isList h0 (by omega) (by rw[k];simpa using m) fin hs
 . have k:(i+(f.toArray.size:Int)).toNat=j:=by rw[seqIndex_neg (by omega) E]at h1;rw[size_toArray,<-J];exact Option.some.inj h1
   exact subscriptTail_builtinR (x:=w) g.isList.typeIs slot_list_getitem.lookup (wpAny_getItem_list_neg (Q:=λr L=>r=w/\EP X c σ Q r L) g.isList (by omega) (by rw[size_toArray]<;>omega) (by omega) (by rw[k];simpa using m) ⟨rfl,fin⟩) hs
theorem Ea:Mg X (Nm X.K):=by intro e slice c s σ H x y v u Q I g k h hs;obtain⟨p,xs,i,z,rfl,rfl,m,he,q⟩:=h;cases g;obtain⟨t,rfl⟩:=k;obtain⟨o,r,f,G⟩:=I.tuple m;obtain⟨j,h1,A,J,L,M⟩:=qI he;obtain⟨w,B,C⟩:=r.get A;have E:=r.length;have N:=mR;have fin:EP X c σ Q w s:=⟨z,H,I,C,q⟩;exact subscriptTail_builtinR (x:=w) f.typeIs slot_tuple_getitem.lookup (getItem_tuple (j:=j) (Q:=λr F=>r=w/\EP X c σ Q r F) f (by omega) (by omega) (by rw[size_toArray,<-E];exact h1) (by simpa using B) ⟨rfl,fin⟩) hs
theorem pD(c:List Value)(n j:Nat)(u:Value):Obj.mapSeq (·.setIfInBounds j u) {cls:=.type "list",data:=.seq c.toArray n}={cls:=.type "list",data:=.seq (c.set j u).toArray n}:=by simp[Obj.mapSeq]
theorem Inv.lst{f:List (Addr×Obj)}{σ:St}{H:Hp}{s:Shared}{p:Addr}{xs:List V}(I:Inv X f σ H s)(h:H p=some (.lst xs)):∃(c:List Value)(n:Nat),Vals xs c/\s.heap.get? p=some {cls:=.type "list",data:=.seq c.toArray n}/\xs.length<=sizeLine:=by obtain⟨z,c,n,r,e⟩:=I.hok p _ h;exact⟨c,n,r,e,z⟩
theorem Inv.En{c:List (Addr×Obj)}{σ:St}{H:Hp}{s:Shared}{p:Addr}{xs ys:List V}{g its':List Value}{n i:Nat}{f:Obj->Obj}(I:Inv X c σ H s)(h:H p=some (.lst xs))(ho:s.heap.get? p=some {cls:=.type "list",data:=.seq g.toArray n})(j:f {cls:=.type "list",data:=.seq g.toArray n}={cls:=.type "list",data:=.seq its'.toArray i})(r:Vals ys its')(k:ys.length<=sizeLine)(t:Nat):Inv X c σ (upd H p (.lst ys)) {s with heap:=s.heap.update p f,toks:=t}:=by
 have e:(s.heap.update p f).get? p=some {cls:=.type "list",data:=.seq its'.toArray i}:=by rw[Heap.get?_update_self f ho (by rw[j]<;>rfl),j]
 refine I.write (x:=p) (e:=p) (by rw[h];trivial) (.inl rfl) (λb u m q=>(Heap.get?_update_other _ _ (Ne.symm m)).trans q) ⟨_,e⟩ ?_;exact⟨k,its',i,r,e⟩
def uO:V->V->V->Hp->(Hp->Prop)->Prop:=λo i v H Q=>∃p xs k j,o=.ref p/\i=.int k/\H p=some (.lst xs)/\je xs.length k=some j/\Q (upd H p (.lst (xs.set j v)))
theorem set_list:Ik X uO:=by
 intro c s σ H o i v F G u Q I z A B h;obtain⟨p,xs,k,j,rfl,rfl,m,C,q⟩:=h;cases z;obtain⟨t,rfl⟩:=A;obtain⟨e,n,r,ho,E⟩:=I.lst m;obtain⟨h1,J,w,x⟩:=rG C;have f:=r.length;have L:=mR;have y:Inv X c σ (upd H p (.lst (xs.set j v))) {s with heap:=s.heap.update p (Obj.mapSeq (·.setIfInBounds j u))}:=I.En m ho (pD e n j u) (r.set B j) (by rw[List.length_set];exact E) s.toks;by_cases h0:0<=k
 . have g:k.toNat=j:=by rw[seqIndex_of h0 x]at h1;exact Option.some.inj h1
   exact PySem.W.ki_setAt ho h0 (by omega) (by rw[size_toArray,<-f];exact x) (by rw[g];exact⟨_,y,q⟩)
 . have g:(k+(e.toArray.size:Int)).toNat=j:=by rw[seqIndex_neg (by omega) w]at h1;rw[size_toArray,<-f];exact Option.some.inj h1
   exact PySem.W.ki_setBack ho (by omega) (by rw[size_toArray,<-f];exact w) (by omega) (by rw[g];exact⟨_,y,q⟩)
theorem m6:dz X (.builtin "len") (λxs H Q=>∃p ys,xs=[.ref p]/\(cR X.K H p ys\/eY X.K H p ys)/\Q (.int ys.length) H):=by
 intro i s σ H xs m Q I r h;obtain⟨p,ys,rfl,hq,q⟩:=h;obtain⟨u,rfl,j⟩:=vals1 r;cases j;have o:=mR;rcases hq with hq|hq;.obtain⟨e,f,g,k⟩:=I.list hq;have c:=f.length;exact Calls.call_len_list g.isList (by simp only[size_toArray]<;>omega) ⟨.int ys.length,H,I.tok _,⟨s.toks+1,by rw[size_toArray,c]⟩,q⟩
 .obtain⟨e,f,g,k⟩:=I.tuple hq;have c:=f.length;exact len_tuple g (by simp only[size_toArray]<;>omega) ⟨.int ys.length,H,I.tok _,⟨s.toks+1,by rw[size_toArray,c]⟩,q⟩
theorem mG:dz X (.type "list") (λxs H Q=>∃p ys,xs=[.ref p]/\(cR X.K H p ys\/eY X.K H p ys)/\∀l,H l=none->Q (.ref l) (upd H l (.lst ys))):=by
 intro i s σ H xs x Q I r h;obtain⟨p,ys,rfl,hq,q⟩:=h;obtain⟨u,rfl,v⟩:=vals1 r;cases v;have fin:∀(c:List Value),Vals ys c->ys.length<=sizeLine->∀(h':Heap)(f:Nat),(∀b t,s.heap.get? b=some t->h'.get? b=some t)->h'.get? s.heap.objs.size=some {cls:=.type "list",dict:=none,data:=.seq c.toArray f,slots:=#[]}->EP X i σ Q (.ref s.heap.objs.size) {s with heap:=h'}:=λc g j h' f kp e=>⟨.ref s.heap.objs.size,_,I.laid (t':=s.toks) kp (fO) (show bO X.prog X.w _ h' _ (.lst ys)from⟨j,c,f,g,e⟩),rfl,q _ (I.hok.fresh (fO))⟩;rcases hq with hq|hq;.obtain⟨c,g,m,j⟩:=I.list hq;have k:=g.length;obtain⟨o,ho,hc,n,hd⟩:=m.isList;exact call_list_seq p (.inl rfl) ho hc hd (λh' f kp e=>fin c g j h' f kp e) (by simp only[size_toArray]<;>omega)
 .obtain⟨c,g,m,j⟩:=I.tuple hq;have k:=g.length;obtain⟨o,ho,hc,n,hd⟩:=m;exact call_list_seq p (.inr rfl) ho hc hd (λh' f kp e=>fin c g j h' f kp e) (by simp only[size_toArray]<;>omega)
theorem gG:dz X (.type "tuple") (λxs H Q=>∃p ys,xs=[.ref p]/\((cR X.K H p ys/\∀l,H l=none->Q (.ref l) (upd H l (.tup ys)))\/(eY X.K H p ys/\Q (.ref p) H))):=by
 intro c s σ H xs y Q I r h;obtain⟨p,ys,rfl,h⟩:=h;obtain⟨u,rfl,v⟩:=vals1 r;cases v;rcases h with⟨g,q⟩|⟨g,q⟩;.obtain⟨f,i,j,k⟩:=I.list g;have m:=i.length;refine call_tuple_list j.isList (λh' kp=>?_) (by simp only[size_toArray]<;>omega);have t:Inv X c σ H {s with heap:=h'}:=I.kept (t':=s.toks) kp;have x:Inv X c σ (upd H h'.objs.size (.tup ys)) {s with heap:=h'.push {cls:=.type "tuple",data:=.seq f.toArray}}:=t.laid (t':=s.toks) (λb o e=>dH e) (fO) (show bO X.prog X.w _ _ _ (.tup ys)from⟨k,f,i,IsTup.new _ _⟩);exact⟨.ref h'.objs.size,_,x,rfl,q _ (t.hok.fresh (fO))⟩
 .obtain⟨f,i,j,k⟩:=I.tuple g;exact call_tuple_same j ⟨.ref p,H,I,rfl,q⟩
def Q9(K:PySem.W.Frag)(T:String)(x:V)(H:Hp):Prop:=match x with|.str _=>T="str"|.int _=>T="int"|.ref p=>(T="list"/\∃xs,cR K H p xs)\/(T="tuple"/\∃o,K.lookup p=some o/\o.cls=.type "tuple"/\o.dict=none)\/(T="dict"/\((∃c,H p=some (.dK c))\/∃c,H p=some (.dT c)))\/(T="set"/\∃S n,H p=some (.set S n))|_=>False
theorem Ay{g:List (Addr×Obj)}{σ:St}{H:Hp}{s:Shared}{T:String}{x:V}{v:Value}(I:Inv X g σ H s)(r:RelV x v)(ty:Q9 X.K T x H):
 s.TypeIs v T/\∀a,v=.ref a->∃k,s.heap.get? a=some k/\k.dict=none:=by cases x with|str z=>obtain⟨t,rfl⟩:=r;cases(show T="str"from ty);exact⟨typeIs_str s z t,λ_ e=>nomatch e⟩|int i=>obtain⟨t,rfl⟩:=r;cases(show T="int"from ty);exact⟨typeIs_int s i t,λ_ e=>nomatch e⟩|ref p=>
   cases r;rcases ty with⟨rfl,xs,q⟩|⟨rfl,o,f,hc,hd⟩|⟨rfl,f⟩|⟨rfl,S,n,f⟩;.obtain⟨u,_,m,_⟩:=I.list q;refine⟨m.isList.typeIs,λa e=>?_⟩;cases e;obtain⟨o,n,e,c,hd,_⟩:=m;exact⟨o,e,hd⟩
   .refine⟨⟨o,I.zy p o f,hc⟩,λa e=>?_⟩;cases e;exact⟨o,I.zy _ o f,hd⟩
   . have z:∃o,s.heap.get? p=some o/\o.ExactDict:=by
      rcases f with⟨h,f⟩|⟨h,f⟩;.obtain⟨_,_,_,_,o,_,_,e,ex,_⟩:=I.hok p _ f;exact⟨o,e,ex⟩
      .obtain⟨_,_,_,_,o,_,_,e,ex,_⟩:=I.hok p _ f;exact⟨o,e,ex⟩
     obtain⟨o,e,ex⟩:=z;refine⟨⟨o,e,ex.1⟩,λa j=>?_⟩;cases j;exact⟨o,e,ex.2.1⟩
   .obtain⟨o,_,_,_,e,ex,_⟩:=I.hok p _ f;refine⟨⟨o,e,ex.1⟩,λa j=>?_⟩;cases j;exact⟨o,e,ex.2.1⟩|_=>exact False.elim ty
def Nb(K:PySem.W.Frag)(T:String)(r:V->List V->Hp->VK->Prop)(e:TE)(t:TA):TE:=λσ H Q=>e σ H λx c=>Q9 K T x c/\t σ c λxs f=>r x xs f Q
variable{o e:Expr}{es:List Expr}{to:TE}{t:TA}{name:Str}{apos cpos:Pos}{T id:String}{r:V->List V->Hp->VK->Prop}
theorem zc(p:PlainAttrs T)(slot:Slot T name id)(k:typeOf (.builtin id)=pure (.type "method_descriptor"))(q:MtR X id r)(ho:PE X o to)(u:PA X (e::es) t)(g:attributeBase o name X.env (eval o X.env)=eval o X.env:=by rfl)(j:((backTo cpos (starEach (e::es) X.env)).all (λx=>!x.1)&&(backToKw cpos (keywordEach [] X.env)).all (λx=>x.1.isSome)&&decide ((e::es).length+([]:List Keyword).length+(if([]:List Keyword).isEmpty then 0 else 1)<30))=true:=by rfl)(i:(apos.endLine==cpos.line)=true:=by rfl)(hs:starEach (e::es) X.env=(false,eval e X.env)::starEach es X.env:=by rfl)(f:(backTo cpos (starEach es X.env)).any (·.1)=false:=by rfl):PE X (.Call (.Attribute o name apos) (e::es) [] cpos) (Nb X.K T r to t):=by intro c s σ H Q I h;refine wpAny_Call_method_late g j i rfl (cF (ho c s σ H _ I h) λv s1⟨x,H1,I1,r1,ty,q1⟩=>?_);obtain⟨h1,w⟩:=Ay I1 r1 ty;refine⟨T,id,p,slot,k,h1,w,?_⟩;have m:=u cpos c s1 σ H1 _ I1 q1;rw[hs]at m ⊢;refine Calls.callWith_builtin (by show(false||(backTo cpos (starEach es X.env)).any (·.1))=false;rw[f]<;>rfl) (Calls.evalArgs_plain ?_);exact cF m λy s2⟨z,H2,I2,r2,q2⟩=>q c s2 σ H2 x z v y Q I2 r1 r2 q2
end
def MtM(X:Cx)(id:String)(r:V->List V->Hp->VK->Prop):Prop:=∀(a:List (Addr × Obj))(s:Shared)(σ:St)(H:Hp)(x:V)(xs:List V)(v:Value)(b:List Value)(Q:VK),Inv X a σ H s->RelV x v->Vals xs b->r x xs H Q->wpAny (model X.prog X.w) X.A (call (.builtin id) (v::b)) (EP X a σ Q) X.xe s
theorem Vals.one:∀{x:V}{a:List Value},Vals [x] a->∃u,a=[u]/\RelV x u|x,a,h=>by cases h with|cons r t=>cases t;exact⟨_,rfl,r⟩
theorem Vals.two:∀{x y:V}{a:List Value},Vals [x,y] a->∃u v,a=[u,v]/\RelV x u/\RelV y v|x,y,a,h=>by cases h with|cons r t=>cases t with|cons q z=>cases z;exact⟨_,_,rfl,r,q⟩
theorem Vals.zero:∀{a:List Value},Vals [] a->a=[]|_,.nil=>rfl
theorem Vals.rep{xs:List V}{a:List Value}(h:Vals xs a):∀k:Nat,Vals (replicate k xs).flatten (replicate k a).flatten|0=>.nil|k+1=>by rw[replicate_succ,replicate_succ,flatten_cons,flatten_cons];exact Vals.append h (Vals.rep h k)
theorem foldl_rep(a:List Value):∀(k:Nat)(b:List Value),foldl (λc f=>c++f) b.toArray (replicate k a.toArray)=(b++(replicate k a).flatten).toArray
 |0,b=>by simp|k+1,b=>by
   have e:b.toArray++a.toArray=(b++a).toArray:=by simp
   have g:(b++a)++(replicate k a).flatten=b++(replicate (k+1) a).flatten:=by rw[replicate_succ,flatten_cons,List.append_assoc]
   rw[<-g,<-foldl_rep a k (b++a),<-e,replicate_succ,List.foldl_cons]
section
variable{X:Cx}{pins:List (Addr×Obj)}{σ:St}{H:Hp}{s:Shared}{l b:Addr}{xs ys zs:List V}
theorem Inv.N5{a its':List Value}{f:Array Value->Array Value}{t':Nat}(I:Inv X pins σ H s)(c:H l=some (.lst xs))(e:s.heap.get? l=some {cls:=.type "list",data:=.seq a.toArray n})(g:f a.toArray=its'.toArray)(h:Vals ys its')(i:ys.length<=sizeLine):Inv X pins σ (upd H l (.lst ys)) {s with heap:=s.heap.update l (Obj.mapSeq f),toks:=t'}:=by have q:=PySem.IsL.update e f;rw[g]at q;refine I.write (x:=l) (e:=l) (by rw[c];exact trivial) (.inl rfl) (λm u j k=>(Heap.get?_update_other s.heap (Obj.mapSeq f) (Ne.symm j)).trans k) ⟨_,q⟩ ?_;exact⟨i,its',_,h,q⟩
theorem Inv.CW{a:List Value}{t':Nat}(I:Inv X pins σ H s)(c:Vals ys a)(e:ys.length<=sizeLine):Inv X pins σ (upd H s.heap.objs.size (.lst ys)) {s with heap:=s.heap.push {cls:=.type "list",data:=.seq a.toArray},toks:=t'}:=I.laid (λ_ _ q=>dH q) (fO) ⟨e,a,0,c,get?_push_size _ rfl⟩
theorem Inv.fresh(I:Inv X pins σ H s):H s.heap.objs.size=none:=I.hok.fresh (fO)
theorem Inv.Oj(I:Inv X pins σ H s)(c:H l=some (.lst xs)):xs.length<=sizeLine/\∃(a:List Value)(n:Nat),Vals xs a/\xs.length=a.length/\s.heap.get? l=some {cls:=.type "list",data:=.seq a.toArray n}:=by obtain⟨z,a,n,r,e⟩:=I.hok l _ c;exact⟨z,a,n,r,r.length,e⟩
theorem vK(h:n<=sizeLine):listTooLong n=false:=by unfold listTooLong;exact decide_eq_false (by omega)
end
section
variable{X:Cx}
def mK:V->List V->Hp->VK->Prop:=λx a H Q=>∃l xs y,x=.ref l/\a=[y]/\H l=some (.lst xs)/\xs.length<sizeLine/\Q .non (upd H l (.lst (xs++[y])))
theorem iR:MtM X "list.append" mK:=by intro b s σ H x j v k Q I f g h;obtain⟨l,xs,y,rfl,rfl,c,m,q⟩:=h;cases f;obtain⟨u,rfl,i⟩:=g.one;obtain⟨z,a,n,r,o,e⟩:=I.Oj c;refine call_meets F.slot_list_append ⟨_,e,rfl⟩ F.entry_list_append (F.args_list_append_2 _ _) (PySem.list_append l a.toArray n u (by rw[size_toArray];omega)) ⟨e,?_⟩;refine⟨.non,_,I.N5 (its':=a++[u]) c e (by simp) (r.append (.cons i .nil)) ?_,rfl,q⟩;rw[length_append,List.length_singleton];omega
theorem len_rep{a:Type}(xs:List a)(k:Nat):(replicate k xs).flatten.length=k*xs.length:=by induction k with|zero=>simp|succ k b=>rw[replicate_succ,flatten_cons,length_append,b,Nat.succ_mul,Nat.add_comm]
end
end L2
namespace RN
open PySem PySem.W PySem.Calls PyProof.Rows
theorem jj{P:Params}{h:Heap}:∀(ns:List Int)(c:List Value),WellAll P h c (ns.map WData.int)->IntsAre c ns:=by intro ns;induction ns with|nil=>intro c w;rw[List.map_nil]at w;cases w;exact .nil|cons n ns e=>intro c w;rw[map_cons]at w;cases w with|cons a b=>cases a;exact .cons _ _ (e _ b)
theorem sI{l:OpenLaw}{n:Nat}(o:l.most=some n){P:Params}{h:Heap}{args:List WData}{b:List Value}(c:l.row.toRowW.claim.pre args=true)(j:WellAll P h b args):∃a m ns,b=[Value.ref a]/\args=[WData.list (ns.map WData.int)]/\h.get? a=some {cls:=.type "list",data:=.seq m.toArray}/\IntsAre m ns/\ns.length<=n:=by
 have k:WShape.hasAll [] args [.list .int]=true:=(pre_splitW c).1;have hc:l.pre.holds [] {args:=args}=true:=(pre_splitW c).2;obtain⟨d,r,rfl,h1,p⟩:=hasAllW_cons k;obtain rfl:=hasAllW_nil p;obtain⟨xs,rfl,s⟩:=hasW_list h1;obtain⟨ns,rfl⟩:=items_int s;have e:ns.length<=n:=by
  unfold OpenLaw.pre at hc;have g:(WTm.not (.lt (.lit (.int (n:Int))) (.len (.arg 0)))).holds [] {args:=[.list (ns.map .int)]}=true:=by have g:=(holds_andW hc).1;rw[o]at g;exact g
  have i:=condW_of g (w_not (w_lt w_lit (w_len_list (w_arg rfl))));rw[length_map]at i;refine Nat.le_of_not_lt λq=>?_;have t:(n:Int)<((ns.length:Nat):Int):=by omega
  first|(rw[decide_eq_true t]at i;exact absurd i (by decide))|(simp at i;omega)
 cases j with|cons u v=>cases v;cases u with|list ho f=>exact⟨_,_,ns,rfl,rfl,ho,jj ns _ f,e⟩
theorem sZ(l:OpenLaw)(args:List WData):l.row.toRowW.claim.post args (.bool true) args=true:=postW_of (r:=l.row.toRowW) (X:=(true==true)) (show WShape.has [] (.bool true) .bool=true by first|rfl|decide|simp[WShape.has,WShape.arms,WShape.armsAll]) (show(WTm.eq .res (.lit (.bool true))).value [] {args:=args,res:=some (.bool true),after:=args}=some (.bool (true==true))from w_eq_bool (w_res rfl) w_lit) rfl
theorem oA{l:OpenLaw}{n:Nat}{q:Program}{c:List Str}{A:(Str->Option Value)->Heap->Prop}{B:World->Heap->Prop}{d:DefRec}(H:l.most=some n)(t:d.params.defaults=[])(call:∀(w:World)(s₀ b:Shared)(mg u:Str->Option Value)(i:Addr)(o:Obj)(v p e:Value)(a:Addr)(h:List Value)(ns:List Int),Ground q c [] A w s₀ mg u b.heap->B w b.heap->b.heap.get? i=some o->o.data=.func (docDef d.name d.params d.body d.scope v p e)->b.heap.CodeRec p d.name->mg d.name=some (.ref i)->b.heap.get? a=some {cls:=.type "list",data:=.seq h.toArray}->IntsAre h ns->ns.length<=n->b.gens=#[]->codeAny (model l.prog w) callerA (.call (.ref i) ⟨[.ref a],[]⟩) (λr s=>r=.ok (.ret (.bool true))/\OldK b.heap s.heap/\s.os=b.os/\AllBare s.gens) b):WalkO q c A B l.row.toRowW d [] (λf h=>PySem.call f h):=by intro w s₀ b mg u G Y i o v p e I kV ho hd x C y J args E as j F L z M;obtain rfl:I=.none:=Dflts.none C t;obtain rfl:kV=.none:=Dflts.noKw C;obtain⟨a,h,ns,rfl,rfl,k,g,m⟩:=sI H j z;refine enter_call (codeAny_mono (call w s₀ b mg u i o v p e a h ns G Y ho (fd_plain hd) x y k g m J) λr s N=>?_);obtain⟨rfl,O,Q,U⟩:=N;exact⟨.inl ⟨.bool true,.bool true,[],rfl,λ_=>rfl,.bool true,sZ l _,λ_=>⟨List.Pairwise.nil,λ_ W=>(nomatch W)⟩⟩,O,Q,U⟩
end RN
namespace L2
open PySem PySem.Spec PyProof.Rows
theorem lW:∀{a:List Value}{ns:List Int},IntsAre a ns->Vals (ns.map V.int) a|_,_,.nil=>.nil|_,_,.cons n t h=>.cons ⟨t,rfl⟩ (lW h)
def Only(H:Hp):Prop:=∀b,H b=none\/∃o xs,H b=some (.cQ o (.lst xs))
theorem vB{P:Program}{w:World}{K:PySem.W.Frag}{mg L:Str->Option Value}{CX:uW}{k:Nat}{M a:Addr}{fd:FuncData}{x:Str}{sp:Sp}{c:Shared}{j:List Value}{ns:List Int}(U:K.In c.heap)(t:c.heap.Ns mainGlobals mg)(f:c.heap.Ns builtinsNs L)(N:∀x:Str,x≠"__name__"->L x=bootBuiltins x)(y:c.heap.NoLimit)(hg:c.gens=#[])(I:c.heap.get? a=some {cls:=.type "list",data:=.seq j.toArray})(X:IntsAre j ns)(Y:ns.length<=sizeLine)(hr:fG k callerA)(F:∀base:Heap,K.In base->base.Ns mainGlobals mg->iY P w K mg base CX k M fd [x] sp)(p:∀(s:Shared)(u:Value),BindsTo s fd ⟨[u],[]⟩ [(x,u)])(O:∀H:Hp,Only H->cR K H a (ns.map V.int)->sp [.ref a] H (λv _=>v=.bl true) λ_ _ _=>False)(J7:∀H e g,CX [] H c (λ_ _ _=>False) e g->False):codeAny (model P w) callerA (.call (.ref M) ⟨[.ref a],[]⟩) (λr g=>r=.ok (.ret (.bool true))/\OldK c.heap g.heap/\g.os=c.os/\AllBare g.gens) c:=by
 have Z:=lW X;have A:=X.length--from an abstract heap in which nothing but the script may be tracked
 have i:∀H:Hp,Only H->cR K H a (ns.map V.int)->kY P w H c.heap->(∀b,H b≠none->b=a)->(H a≠none->K.lookup a=none)->codeAny (model P w) callerA (.call (.ref M) ⟨[.ref a],[]⟩) (λr g=>r=.ok (.ret (.bool true))/\OldK c.heap g.heap/\g.os=c.os/\AllBare g.gens) c:=by
  intro H hO hS hok hA hK;have sy:∀{b:Addr}{o:Obj},c.heap.get? b=some o->H b=none->(mO c.heap H).get? b=some o:=λe n=>uX e n;have J6:∀{b:Addr}{o:Obj}{B:Array DictEntry}{C:Nat},c.heap.get? b=some o->o.data=.dict B C->H b=none:=λ{b o B C}e d=>by cases q:H b with|none=>rfl|some u=>have Q:b=a:=hA b (by rw[q];simp);subst Q;rw[I]at e;cases e;have d':Data.seq j.toArray _=Data.dict B C:=d;cases d'
  have J:∀{b:Addr}{m:Str->Option Value},c.heap.Ns b m->(mO c.heap H).Ns b m:=λ{b m}⟨o,B,C,e,d,r⟩=>⟨o,B,C,sy e (J6 e d),d,r⟩;have RP:K.In (mO c.heap H):=λb o e=>sy (U b o e) (by cases q:H b with|none=>rfl|some u=>have Q:b=a:=hA b (by rw[q];simp);subst Q;rw[hK (by rw[q];simp)]at e;cases e);have hM:Mod K mg (mO c.heap H):=⟨RP,J t,⟨L,J f,N⟩,let⟨mc,h1,h2⟩:=y;⟨mc,J h1,h2⟩⟩;have e0:yN P w K mg (mO c.heap H) callerA [] c H:=⟨rfl,hM,λb o e=>xY e,Nat.le_of_eq (tH _ _),trivial,λb f=>absurd (show b∈([]:List Addr)from f) (by simp),hok,.of_eq hg⟩;refine codeAny_mono ((F _ RP (J t)).run callerA [] c H ⟨[.ref a],[]⟩ [.ref a] [.ref a] _ _ hr e0 (p c (.ref a)) (.cons rfl .nil) (O H hO hS)) λr g h=>?_;cases r with|error e=>exact(J7 H e g h).elim|ok fl=>cases fl with|next=>exact False.elim h|brk=>exact False.elim h|cont=>exact False.elim h|ret u=>obtain⟨v,H',os,bare,un,E,r',q⟩:=h;have q':v=.bl true:=q;subst q';obtain rfl:u=Value.bool true:=r';refine⟨rfl,OldK.of_keep λb o e=>?_,os,bare⟩;cases q:H b with|none=>exact un.keep b o e q (by intro z;exact absurd (show b∈([]:List Addr)from z) (by simp)) (by simp)|some u=>
        rcases hO b with z|⟨ob,xs,z⟩;.rw[q]at z;cases z
        .have z2:=un.kE b ob _ z;obtain⟨e1,_⟩:=hok b _ z;obtain⟨e2,_⟩:=E b _ z2;rw[e]at e1;cases e1;exact e2
 cases hk:K.lookup a with|some o=>--the script is one of the module's own objects
   have e:=U a o hk;rw[I]at e;cases e;refine i (λ_=>none) (λ_=>.inl rfl) (.inr ⟨_,j.toArray,_,hk,rfl,rfl,rfl,by rw[size_toArray,A];exact Y,by simpa using Z⟩) (λb u z=>by have G:(none:Option HO)=some u:=z;cases G) (λb z=>absurd rfl z) λz=>absurd rfl z|none=>
   refine i (λb=>if b=a then some (.cQ {cls:=.type "list",data:=.seq j.toArray} (.lst (ns.map V.int)))else none) (λb=>?_) (.inl (.inr ⟨{cls:=.type "list",data:=.seq j.toArray},if_pos rfl⟩)) (λb u z=>?_) (λb z=>?_) λ_=>hk
   . by_cases f:b=a;.exact .inr ⟨_,_,if_pos f⟩
     .exact .inl (if_neg f)
   . by_cases f:b=a;.have G:=(if_pos f).symm.trans z;cases G;subst f;exact⟨I,by rw[length_map];exact Y,j,_,Z,I⟩
     .have G:=(if_neg f).symm.trans z;cases G
   . by_cases f:b=a;.exact f
     .exact absurd (if_neg f) z
theorem xZ{l:PySem.W.OpenLaw}{n k:Nat}{q:Program}{i:List Str}{J:(Str->Option Value)->Heap->Prop}{C:World->Heap->Prop}{d:DefRec}{K:Params->PySem.W.Frag}{CX:World->uW}{sp:World->Sp}{x:Str}(L:l.most=some n)(t:n<=sizeLine)(y:d.params.defaults=[])(hr:fG k callerA)(M:∀(w:World)(h:Heap),C w h->(K w.params).In h)(F:∀(w:World)(mg:Str->Option Value)(r:Addr)(h:Heap),(K w.params).In h->h.Ns mainGlobals mg->mg d.name=some (.ref r)->∃ fd:FuncData,(∀(s:Shared)(u:Value),BindsTo s fd ⟨[u],[]⟩ [(x,u)])/\∀base:Heap,(K w.params).In base->base.Ns mainGlobals mg->iY l.prog w (K w.params) mg base (CX w) k r fd [x] (sp w))(z:∀(w:World)(H:Hp)(a:Addr)(ns:List Int),ns.length<=n->Only H->cR (K w.params) H a (ns.map V.int)->sp w [.ref a] H (λv _=>v=.bl true) λ_ _ _=>False)(N:∀(w:World)(H:Hp)(s:Shared)(e:Value)(A:Shared),CX w [] H s (λ_ _ _=>False) e A->False):PySem.W.WalkO q i J C l.row.toRowW d [] (λf E=>PySem.call f E):=by refine RN.oA L y λw s₀ m mg mb r o pm cd O a E ns G Y ho hd Q B p j c U=>?_;have I:=M w _ Y;obtain⟨fd,X,Z⟩:=F w mg r _ I G.T.g B;exact vB I G.T.g G.T.b G.T.builtins G.T.nolimit U p j (le_trans c t) hr Z X (λH hO hS=>z w H a ns c hO hS) λH e A=>N w H m e A
theorem uU{l:PySem.W.OpenLaw}{n k:Nat}{q:Program}{b:List Str}{p:(Str->Option Value)->Heap->Prop}{m:World->Heap->Prop}{d:DefRec}{K:Params->PySem.W.Frag}{CX:uW}{sp:PySem.W.Frag->Sp}{x:Str}(r:l.most=some n)(c:n<=sizeLine)(g:d.params.defaults=[])(hr:fG k callerA)(t:∀(w:World)(h:Heap),m w h->(K w.params).In h)(F:∀(w:World)(mg:Str->Option Value)(o:Addr)(h:Heap),(K w.params).In h->h.Ns mainGlobals mg->mg d.name=some (.ref o)->∃ fd:FuncData,(∀(s:Shared)(u:Value),BindsTo s fd ⟨[u],[]⟩ [(x,u)])/\∀base:Heap,(K w.params).In base->base.Ns mainGlobals mg->iY l.prog w (K w.params) mg base CX k o fd [x] (sp (K w.params)))(i:∀(K:PySem.W.Frag)(H:Hp)(a:Addr)(ns:List Int),ns.length<=n->Only H->cR K H a (ns.map V.int)->sp K [.ref a] H (λv _=>v=.bl true) λ_ _ _=>False)(y:∀(H:Hp)(s:Shared)(e:Value)(j:Shared),CX [] H s (λ_ _ _=>False) e j->False):PySem.W.WalkO q b p m l.row.toRowW d [] (λf z=>PySem.call f z):=xZ (K:=K) (CX:=λ_=>CX) (sp:=λw=>sp (K w.params)) r c g hr t F (λw H a ns h1 A B=>i (K w.params) H a ns h1 A B) λ_ H s e j=>y H s e j
end L2
namespace L2
open PySem PySem.Spec PyProof.Rows
noncomputable def eN(s:Stmt):Arguments:=match s with|.FunctionDef _ a _ _ _ _ _ _ _ _=>a|_=>{posonlyargs:=[],args:=[],vararg:=none,kwonlyargs:=[],kw_defaults:=[],kwarg:=none,defaults:=[]}
noncomputable def cU(s:Stmt):List Stmt:=match s with|.FunctionDef _ _ b _ _ _ _ _ _ _=>b|_=>[]
noncomputable def aC(s:Stmt):Scope:=match s with|.FunctionDef _ _ _ _ _ _ a _ _ _=>a|_=>{kind:=.function,names:=[],isGenerator:=false,isCoroutine:=false}
abbrev uL:uW:=λ_ _ _ _ _ _=>False
abbrev E0:XK:=λ_ _ _=>False
theorem zO{X:Cx}:Passes uL X E0:=λ_ _ _ _ _ _ _ h=>h.elim
structure lO(K:PySem.W.Frag)(x qual:Str)(st:Stmt)(f:Addr)(fd:FuncData):Prop where
 ex:∃(oc:Value)(od:Option Addr)(kV doc pm:Value)(an:Option Addr)(cdv ct:Value)(osl:Array (Option Value)),fd=PySem.W.fnOf x qual (eN st) (cU st) (aC st) .none kV doc pm an cdv ct/\K.lookup f=some ⟨oc,od,.func fd,osl⟩/\PySem.W.codeIn K cdv qual=true
 kp:keepIn K (.ref f)=true
section
variable{P:Program}{w:World}{K:PySem.W.Frag}{mg:Str->Option Value}{base:Heap}
theorem lO.ok{x qual:Str}{st:Stmt}{f:Addr}{fd:FuncData}{N ps:List Str}{k:Nat}{sp:Sp}(F:lO K x qual st f fd)(S:bw N ps (aC st))(len:∀a H Q E,sp a H Q E->a.length=ps.length)(b:∀(cdv:Value)(A:Around)(outer:List Env)(s:Shared)(H:Hp)(a:List V)(Q:VK)(E:XK),fG k (A.deeper (envOfC qual (aC st) s.heap.objs.size f cdv))->sp a H Q E->∃t,kO (pH uL P w K mg base N qual (aC st) f cdv A outer s H E).JH (cU st) t/\t {nx:=λ_ g=>Q .non g,rt:=Q} (start N a) H):iY P w K mg base uL (k+1) f fd ps sp:=by obtain⟨m,n,kV,i,o,p,cdv,ct,j,rfl,lk,c⟩:=F.ex;refine Ig lk c S len λA outer s H a Q E hr e=>?_;obtain⟨t,h,q⟩:=b cdv A outer s H a Q E hr e;exact⟨t,h.JH,q⟩
theorem lO.binds{x qual:Str}{st:Stmt}{f:Addr}{fd:FuncData}{ps:List Str}(F:lO K x qual st f fd)(h:∀(kV a b:Value)(c:Option Addr)(cdv ct:Value)(e:List Value),e.length=ps.length->bindArgs (PySem.W.fnOf x qual (eN st) (cU st) (aC st) .none kV a b c cdv ct) ⟨e,[]⟩=pure (ps.zip e)):Binds K fd ps []:=by obtain⟨j,k,kV,a,b,c,cdv,ct,g,rfl,lk,i⟩:=F.ex;exact .all (h kV a b c cdv ct)
theorem Bo{x qual:Str}{st:Stmt}{f:Addr}{h:Value}{i e:Option Addr}{b:Array (Option Value)}{kV a g cdv ct:Value}(l:K.lookup f=some ⟨h,i,.func (PySem.W.fnOf x qual (eN st) (cU st) (aC st) .none kV a g e cdv ct),b⟩)(c:PySem.W.codeIn K cdv qual=true)(k:keepIn K (.ref f)=true):lO K x qual st f (PySem.W.fnOf x qual (eN st) (cU st) (aC st) .none kV a g e cdv ct):=⟨⟨h,i,kV,a,g,e,cdv,ct,b,rfl,l,c⟩,k⟩
end
def au(H a:Hp):Prop:=∀b o,H b=some o->a b=some o
theorem au.refl(H:Hp):au H H:=λ_ _ h=>h
theorem au.trans{H e f:Hp}(a:au H e)(b:au e f):au H f:=λc o h=>b c o (a c o h)
theorem au.seq{K:PySem.W.Frag}{H b:Hp}{a:Addr}{xs:List V}(e:au H b)(h:cR K H a xs):cR K b a xs:=by
 rcases h with(h|⟨o,h⟩)|h;.exact .inl (.inl (e _ _ h))
 .exact .inl (.inr ⟨o,e _ _ h⟩)
 .exact .inr h
end L2
end
section
namespace HH
open PySem
inductive Dc where|k(kvs:List (Int×Int))|t(kvs:List (List Int×Int))deriving DecidableEq
inductive D where|non|bl(b:Bool)|int(i:Int)|str(s:Str)|tup(ds:List D)|lst(ds:List D)|cD(m:Dc)|dv(ks:List Int)(ds:List D)deriving Inhabited
mutual
noncomputable def fL:D->D->Bool|.non,.non=>true|.bl a,.bl b=>a==b|.bl a,.int i=>(if a then(1:Int)else 0)==i|.int i,.bl a=>i==(if a then(1:Int)else 0)|.int i,.int j=>i==j|.str a,.str b=>a==b|.tup xs,.tup ys=>fC xs ys|.lst xs,.lst ys=>fC xs ys|.cD a,.cD b=>decide (a=b)|.dv a xs,.dv b ys=>decide (a=b)&&fC xs ys|_,_=>false
noncomputable def fC:List D->List D->Bool|[],[]=>true|x::xs,y::ys=>fL x y&&fC xs ys|_,_=>false
end
theorem fY:fC [] []=true:=rfl
theorem dC{x y:D}{xs ys:List D}:fC (x::xs) (y::ys)=(fL x y&&fC xs ys):=rfl
theorem iV{y:D}{ys:List D}:fC [] (y::ys)=false:=rfl
theorem iM{x:D}{xs:List D}:fC (x::xs) []=false:=rfl
theorem Rc{i j}:fL (.int i) (.int j)=(i==j):=(rfl)
theorem Q5{x y}:fL (.tup x) (.tup y)=fC x y:=(rfl)
theorem Ku{x y}:fL (.lst x) (.lst y)=fC x y:=(rfl)
noncomputable def dq:Nat->D->Bool|_,.non=>true|_,.bl _=>true|_,.int _=>true|_,.str _=>true|0,.tup _=>false|0,.lst _=>false|_,.cD _=>false|_,.dv _ _=>false|n+1,.tup ds=>ds.all (dq n)|n+1,.lst ds=>ds.all (dq n)
theorem aN{n:Nat}{ds:List D}:dq (n+1) (.tup ds)=ds.all (dq n):=rfl
theorem aL{n:Nat}{ds:List D}:dq (n+1) (.lst ds)=ds.all (dq n):=rfl
theorem aP{n:Nat}{m:Dc}:dq n (.cD m)=false:=by cases n<;>rfl
theorem aO{n:Nat}{k:List Int}{ds:List D}:dq n (.dv k ds)=false:=by cases n<;>rfl
theorem aR{ds:List D}:dq 0 (.tup ds)=false:=rfl
theorem aQ{ds:List D}:dq 0 (.lst ds)=false:=rfl
inductive Sl where|aU|val(b:Bool)(d:D)|own(b:Bool)(ds:List D)|lent(ds:List D)|m8(m:Dc)|hold(rows:List (List D))|m9(kvs:List (Int×D))deriving Inhabited
inductive R where|val(d:D)|own(ds:List D)deriving Inhabited
noncomputable def R.d:R->D|.val d=>d|.own ds=>.lst ds
inductive Res(α:Type)where|ok(a:α)(ρ:List Sl)|exc(k:Nat)(ρ:List Sl)|stuck deriving Inhabited
noncomputable def Res.bind{b c:Type}(f:b->List Sl->Res c):Res b->Res c|.ok a ρ=>f a ρ|.exc _ _=>.stuck|.stuck=>.stuck
noncomputable def lift{b:Type}(o:Option b)(ρ:List Sl):Res b:=match o with|some a=>.ok a ρ|none=>.stuck
inductive Op where|add|sub|mul|fdiv|mod|pow|shl|shr|band|Qv|din|Qw deriving DecidableEq
inductive Cm where|eq|ne|lt|le|gt|ge|J8|J9|inn|Ka|RQ|Kc|leT deriving DecidableEq
inductive Ty where|int|bool|str|tuple|list|none deriving DecidableEq
inductive Lg where|len|list|tuple|min2|sum|all|int deriving DecidableEq
inductive P where|var(i:Nat)|con(d:D)|glob(x:Str)(d:D)|bin(o:Op)(a b:P)|neg(a:P)|not(a:P)|and(a b:P)|or(a b:P)|cmp(o:Cm)(a b:P)|chain(o o':Cm)(a b c:P)|Qx(c a b:P)|tup(as:List P)|lst(as:List P)|idx(a i:P)|slice(a lo hi:P)|call(f:Nat)(as:List P)|blt(b:Lg)(as:List P)|inst(ts:List Ty)(a:P)|comp(src:P)(n:Nat)(is:List Nat)(one:Bool)(test:Option P)(elt:P)|wH(a b:P)|Hg(a:P)|zip(a b:P)|vw(x:Nat)deriving Inhabited
noncomputable abbrev lim:Nat:=16777216
noncomputable def km:D->D->Option R|.int i,.int j=>some (.val (.int (i+j)))|.lst xs,.lst ys=>if xs.length+ys.length<=lim then some (.own (xs++ys))else none|.tup xs,.tup ys=>if xs.length+ys.length<=lim then some (.val (.tup (xs++ys)))else none|.str x,.str y=>if x.length+y.length<=lim then some (.val (.str (x++y)))else none|_,_=>none
noncomputable def jA:D->D->Option R|.int i,.int j=>if((-18446744073709551616<i/\i<18446744073709551616)\/(-18446744073709551616<j/\j<18446744073709551616))then some (.val (.int (i*j)))else none|.lst xs,.int k=>if 0<=k/\0<xs.length/\xs.length*k.toNat<=lim then some (.own (replicate k.toNat xs).flatten)else none|.tup xs,.int k=>if 0<=k/\0<xs.length/\xs.length*k.toNat<=lim then some (.val (.tup (replicate k.toNat xs).flatten))else none|_,_=>none
noncomputable def nJ:D->D->Option R|.int i,.int j=>some (.val (.int (i-j)))|_,_=>none
noncomputable def jE:D->D->Option R|.int i,.int j=>if 0<j/\j<1606938044258990275541962092341162602522202993782792835301376 then some (.val (.int (i/j)))else none|_,_=>none
noncomputable def oG:D->D->Option R|.int i,.int j=>if 0<j then some (.val (.int (i%j)))else none|_,_=>none
noncomputable def nq:D->D->Option R|.int i,.int j=>if 0<=j/\j<=1000/\i.natAbs<18446744073709551616 then some (.val (.int (i^j.toNat)))else none|_,_=>none
noncomputable def vP:D->D->Option R|.int i,.int j=>if 0<=j/\j<=1000/\i.natAbs<18446744073709551616 then some (.val (.int (i*2^j.toNat)))else none|_,_=>none
noncomputable def uv:D->D->Option R|.int i,.int j=>if 0<=j then some (.val (.int (i/2^j.toNat)))else none|_,_=>none
noncomputable def pN:D->D->Option R|.int i,.int j=>some (.val (.int (Builtin.bitAnd i j)))|_,_=>none
noncomputable def flat:D->Bool|.tup _=>false|.lst _=>false|.cD _=>false|.dv _ _=>false|_=>true
noncomputable def items:D->Option (List D)|.lst ds=>some ds|.tup ds=>some ds|_=>none
noncomputable def Ck:D->Option (List D)|.tup ds=>some ds|_=>none
noncomputable def pM(x y:D):Option Bool:=if dq 8 x&&dq 8 y then some (fL x y)else none
noncomputable def m5(x y:D):Option Bool:=if dq 8 x&&dq 8 y then some (!fL x y)else none
noncomputable def wX(f:Int->Int->Bool):D->D->Option Bool|.int i,.int j=>some (f i j)|_,_=>none
noncomputable def fP:D->Bool|.non=>true|_=>false
noncomputable def K3(neg:Bool)(x:D):D->Option Bool|.non=>some (if neg then !fP x else fP x)|_=>none
noncomputable def Hy(neg:Bool)(x y:D):Option Bool:=(items y).bind λys=>if(flat x&&ys.all flat)=true then some (if neg then !(ys.any λy=>fL y x)else ys.any λy=>fL y x)else none
noncomputable def Rr(neg:Bool):D->D->Option Bool|.bl b,.bl true=>some (if neg then !b else b)|_,_=>none
noncomputable def bQ:List Int->List Int->Bool|[],_::_=>true|i::a,j::b=>decide (i<j)||(decide (i=j)&&bQ a b)|_,[]=>false
noncomputable def lg:D->Int|.int i=>i|_=>0
noncomputable def jU:D->List Int|.int i=>[i]|.tup ds=>ds.map lg|_=>[]
noncomputable def cu:D->Bool|.int _=>true|_=>false
noncomputable def Dc.get:Dc->D->Option (Option Int)|.k a,.int i=>some ((a.find? λb=>decide (b.1=i)).map (·.2))|_,_=>none
noncomputable def putD{c:Type}[DecidableEq c](a:List (c×Int))(k:c)(v:Int):List (c×Int):=if(a.any λb=>decide (b.1=k))=true then a.map (λb=>if b.1=k then(b.1,v)else b)else a++[(k,v)]
noncomputable def Dc.put:Dc->D->Int->Option Dc|.k a,.int i,v=>if a.length<lim then some (.k (putD a i v))else none|_,_,_=>none
noncomputable def P0(a:List (Int×D))(k:Int):Option D:=(a.find? λp=>decide (p.1=k)).map (·.2)
noncomputable def vput(a:List (Int×D))(k:Int)(d:D):List (Int×D):=if(a.any λp=>decide (p.1=k))=true then a.map (λp=>if p.1=k then(p.1,d)else p)else a++[(k,d)]
noncomputable def HW(neg:Bool):D->D->Option R|.int k,.dv a _=>some (.val (.bl (if neg then !a.contains k else a.contains k)))|_,_=>none
noncomputable def Ij:D->D->Option R|.cD m,k=>(m.get k).bind λo=>o.map λv=>.val (.int v)|.dv a ds,.int k=>(P0 (a.zip ds) k).map .val|_,_=>none
noncomputable def ni:Op->D->D->Option R|.add=>km|.mul=>jA|.sub=>nJ|.fdiv=>jE|.mod=>oG|.pow=>nq|.shl=>vP|.shr=>uv|.band=>pN|.Qv=>Ij|.din=>HW false|.Qw=>HW true
noncomputable def JM:D->D->Option Bool|.int i,.int j=>some (decide (i<j))|.tup xs,.tup ys=>if(xs.all cu&&ys.all cu)=true then some (bQ (xs.map lg) (ys.map lg))else none|_,_=>none
noncomputable def Oe:D->D->Option Bool|.int i,.int j=>some (decide (i<=j))|.tup xs,.tup ys=>if(xs.all cu&&ys.all cu)=true then some (!bQ (ys.map lg) (xs.map lg))else none|_,_=>none
noncomputable def cm:Cm->D->D->Option Bool|.eq=>pM|.ne=>m5|.lt=>JM|.le=>wX λi j=>decide (i<=j)|.leT=>Oe|.gt=>wX λi j=>decide (j<i)|.ge=>wX λi j=>decide (j<=i)|.J8=>K3 false|.J9=>K3 true|.inn=>Hy false|.Ka=>Hy true|.RQ=>Rr false|.Kc=>Rr true
noncomputable def jm(o:Cm)(x y:D):Option R:=(cm o x y).map λk=>.val (.bl k)
noncomputable def je(n:Nat)(i:Int):Option Nat:=if 0<=i then(if i<n then some i.toNat else none)else if-(n:Int)<=i then some (i+n).toNat else none
noncomputable def at'{a:Type}(xs:List a)(i:Int):Option a:=(je xs.length i).bind λj=>xs[j]?
noncomputable def Oo(n d:Nat):Option Int->Nat|none=>d|some i=>if 0<=i then min i.toNat n else(i+n).toNat
noncomputable def cut{a:Type}(xs:List a)(lo b:Option Int):List a:=(xs.drop (Oo xs.length 0 lo)).take (Oo xs.length xs.length b-Oo xs.length 0 lo)
noncomputable def kW:D->Option Int|.int i=>some i|_=>none
noncomputable def oF:D->Option Bool|.bl b=>some b|_=>none
noncomputable def dl2(k e:Int)(x y:D):Option R:=(kW x).bind λi=>(kW y).bind λj=>if i=k then none else some (.val (.dv [k,i] [.int e,.int j]))
noncomputable def lixR:D->D->Option R|.lst ds,.int i=>(ds.mapM kW).bind λns=>if i∈ns/\ns.length<=1000 then some (.val (.int (ns.idxOf i)))else none|_,_=>none
noncomputable def xm(x y:D):Option R:=(items x).bind λds=>(kW y).bind λi=>(at' ds i).map .val
noncomputable def Ed(x:D):Option R:=(kW x).map λi=>.val (.int (-i))
noncomputable def N6:P->Bool|.con .non=>true|_=>false
noncomputable def part(p:P)(d:D):Option (Option Int):=if N6 p then some none else(kW d).map some
noncomputable def K6:D->Option (Option Int)->Option (Option Int)->Option R|.lst xs,some lo,some a=>some (.own (cut xs lo a))|.tup xs,some lo,some a=>some (.val (.tup (cut xs lo a)))|_,_,_=>none
noncomputable def bj:Ty->D->Bool|.int,.int _=>true|.int,.bl _=>true|.bool,.bl _=>true|.str,.str _=>true|.tuple,.tup _=>true|.list,.lst _=>true|.none,.non=>true|_,_=>false
noncomputable def pK:D->Bool|.tup (x::xs)=>(x::xs).all cu|_=>false
noncomputable def sortable(ds:List D):Bool:=decide (ds.length<=16777216)&&(ds.all cu||ds.all pK)
noncomputable def Qf(ds:List D):List D:=ds.mergeSort λa b=>!bQ (jU b) (jU a)
noncomputable def ordP:D->Bool|.tup [.int _,.tup ws]=>ws.all cu|_=>false
noncomputable def flP:D->D|.tup [.int h,.tup ws]=>.tup (.int h::ws)|d=>d
noncomputable def ufP:D->D|.tup (.int h::ws)=>.tup [.int h,.tup ws]|d=>d
noncomputable def o4:D->Option (List D)|.lst ds=>some ds|_=>none
noncomputable def prD(p:Int×Int):D:=.tup [.int p.1,.int p.2]
noncomputable def blt:Lg->List D->Option R|.len,[x]=>(items x).map λds=>.val (.int ds.length)|.list,[x]=>(items x).map λds=>.own ds|.tuple,[x]=>(items x).map λds=>.val (.tup ds)|.min2,[.int i,.int j]=>some (.val (.int (if j<i then j else i)))|.sum,[x]=>((items x).bind λds=>ds.mapM kW).map λns=>.val (.int ns.sum)|.all,[x]=>((o4 x).bind λds=>ds.mapM oF).map λbs=>.val (.bl (bs.all id))|.int,[.int i]=>some (.val (.int i))|.int,[.bl b]=>some (.val (.int (if b then 1 else 0)))|_,_=>none
noncomputable def pk(ρ:List Sl)(i:Nat):Option D:=match ρ[i]?with|some (.val _ d)=>some d|some (.own _ ds)=>some (.lst ds)|some (.lent ds)=>some (.lst ds)|_=>none
noncomputable def JW(ρ:List Sl)(i:Nat):Option (List D):=match pk ρ i with|some (.lst ds)=>some ds|_=>none
noncomputable abbrev Ev:=List Sl->Res R
noncomputable def isVar:P->Option Nat|.var i=>some i|_=>none
noncomputable def dY(i:Option Nat)(e:Ev)(ρ:List Sl):Res D:=match i with|some i=>lift (pk ρ i) ρ|none=>(e ρ).bind λr ρ=>.ok r.d ρ
noncomputable def fH(i:Option Nat)(e:Ev)(j:Option Nat)(f:Ev)(ρ:List Sl):Res (D×D):=match i with|some i=>(lift (pk ρ i) ρ).bind λ_ ρ=>(dY j f ρ).bind λy ρ=>(lift (pk ρ i) ρ).bind λx ρ=>.ok (x,y) ρ|none=>(dY none e ρ).bind λx ρ=>(dY j f ρ).bind λy ρ=>.ok (x,y) ρ
noncomputable def fK(e:Ev)(ρ:List Sl):Res Bool:=(e ρ).bind λr ρ=>lift (oF r.d) ρ
inductive Arg where|dat(d:D)|tmp(ds:List D)|cM(i:Nat)
noncomputable def lH:R->Arg|.val d=>.dat d|.own ds=>.tmp ds
noncomputable def aY(ρ:List Sl):List Arg->List Nat->Option (List Sl)|[],_=>some []|.dat d::r,a=>(aY ρ r a).map λs=>.val false d::s|.tmp ds::r,a=>(aY ρ r a).map λs=>.own false ds::s|.cM i::r,a=>match ρ[i]?with|some (.val _ d)=>(aY ρ r a).map λs=>.val false d::s|some (.own _ ds)=>if a.contains i then none else(aY ρ r (i::a)).map λs=>.own true ds::s|some (.lent ds)=>if a.contains i then none else(aY ρ r (i::a)).map λs=>.lent ds::s|_=>none
theorem qi{ρ:List Sl}{u:List Nat}:aY ρ [] u=some []:=rfl
theorem oV{ρ:List Sl}{d:D}{r:List Arg}{u:List Nat}:aY ρ (.dat d::r) u=(aY ρ r u).map λs=>.val false d::s:=rfl
theorem p8{ρ:List Sl}{d:List D}{r:List Arg}{u:List Nat}:aY ρ (.tmp d::r) u=(aY ρ r u).map λs=>.own false d::s:=rfl
theorem jJ{ρ:List Sl}{i:Nat}{r:List Arg}{u:List Nat}:aY ρ (.cM i::r) u=match ρ[i]?with|some (.val _ d)=>(aY ρ r u).map λs=>.val false d::s|some (.own _ ds)=>if u.contains i then none else(aY ρ r (i::u)).map λs=>.own true ds::s|some (.lent ds)=>if u.contains i then none else(aY ρ r (i::u)).map λs=>.lent ds::s|_=>none:=rfl
noncomputable def aG(i:Nat):List Arg->List Sl->Option Sl|.cM k::as,s::ss=>if k=i then some s else aG i as ss|.dat _::as,_::ss=>aG i as ss|.tmp _::as,_::ss=>aG i as ss|_,_=>none
noncomputable def cG:Sl->Option Sl->Sl|.own b _,some (.own _ ds)=>.own b ds|.own b _,some (.val _ d)=>.val b d|s,_=>s
noncomputable def cA(as:List Arg)(ss:List Sl):Nat->List Sl->List Sl|_,[]=>[]|i,s::ρ=>cG s (aG i as ss)::cA as ss (i+1) ρ
theorem jK{as:List Arg}{ss:List Sl}{i:Nat}:cA as ss i []=[]:=rfl
theorem gR{as:List Arg}{ss:List Sl}{i:Nat}{s:Sl}{ρ:List Sl}:cA as ss i (s::ρ)=cG s (aG i as ss)::cA as ss (i+1) ρ:=rfl
noncomputable abbrev Call:=Nat->List Sl->Res R
noncomputable def jT(c:Call)(f:Nat)(as:List Arg)(ρ:List Sl):Res R:=match aY ρ as []with|none=>.stuck|some args=>match c f args with|.ok r a=>.ok r (cA as a 0 ρ)|.exc _ _=>.stuck|.stuck=>.stuck
noncomputable def put(ρ:List Sl)(i:Nat)(s:Sl):Option (List Sl):=match ρ[i]?with|some .aU=>some (ρ.set i s)|some (.val false _)=>some (ρ.set i s)|some (.own false _)=>some (ρ.set i s)|_=>none
noncomputable def putAll(ρ:List Sl):List Nat->List D->Option (List Sl)|[],[]=>some ρ|i::a,d::ds=>(put ρ i (.val false d)).bind λρ=>putAll ρ a ds|_,_=>none
theorem fV{ρ:List Sl}:putAll ρ [] []=some ρ:=rfl
theorem eF{ρ:List Sl}{i:Nat}{a:List Nat}{d:D}{ds:List D}:putAll ρ (i::a) (d::ds)=(put ρ i (.val false d)).bind λρ=>putAll ρ a ds:=rfl
theorem iU{ρ:List Sl}{i:Nat}{a:List Nat}:putAll ρ (i::a) []=none:=rfl
theorem iQ{ρ:List Sl}{d:D}{ds:List D}:putAll ρ [] (d::ds)=none:=rfl
noncomputable def bU(ρ:List Sl)(a:List Nat)(one:Bool)(d:D):Option (List Sl):=match one,a,d with|true,[i],d=>put ρ i (.val false d)|false,a,.tup ds=>putAll ρ a ds|_,_,_=>none
noncomputable def srcOf(i:Option Nat)(e:Ev)(ρ:List Sl):Res (List D):=match i with
 |some i=>match ρ[i]?with|some (.val _ d)=>lift (items d) ρ|some (.own _ ds)=>.ok ds (ρ.set i (.lent ds))|some (.lent ds)=>.ok ds ρ|_=>.stuck
 |none=>(e ρ).bind λr ρ=>lift (items r.d) ρ
noncomputable def aW(a:List Sl)(i:Option Nat)(ρ:List Sl):List Sl:=match i with
 |some i=>match a[i]?with|some (.own b ds)=>ρ.set i (.own b ds)|_=>ρ
 |none=>ρ
noncomputable def srcY(i:Nat)(f:Ev)(ρ:List Sl):Res (List D×List Sl):=(f ρ).bind λr a=>(lift (items r.d) a).bind λb a=>match a[i]?with|some (.val _ d)=>(lift (items d) a).bind λds a=>.ok ((b.zip ds).map λp=>D.tup [p.1,p.2],a) a|some (.own _ ds)=>.ok ((b.zip ds).map λp=>D.tup [p.1,p.2],a) (a.set i (.lent ds))|some (.lent ds)=>.ok ((b.zip ds).map λp=>D.tup [p.1,p.2],a) a|_=>.stuck
noncomputable def turns(f:List Nat)(one:Bool)(a:List Sl->Res Bool)(e:Ev):List D->List D->List Sl->Res (List D)|[],c,ρ=>.ok c ρ|d::r,c,ρ=>match bU ρ f one d with|none=>.stuck|some ρ=>(a ρ).bind λb ρ=>if b then(e ρ).bind λx ρ=>turns f one a e r (c++[x.d]) ρ else turns f one a e r c ρ
theorem vH{b:List Nat}{o:Bool}{f:List Sl->Res Bool}{e:Ev}{a:List D}{ρ:List Sl}:turns b o f e [] a ρ=.ok a ρ:=rfl
theorem uB{c:List Nat}{o:Bool}{f:List Sl->Res Bool}{e:Ev}{d:D}{r a:List D}{ρ:List Sl}:turns c o f e (d::r) a ρ=match bU ρ c o d with|none=>.stuck|some ρ=>(f ρ).bind λb ρ=>if b then(e ρ).bind λx ρ=>turns c o f e r (a++[x.d]) ρ else turns c o f e r a ρ:=rfl
mutual
noncomputable def ev(c:Call):P->List Sl->Res R
 |.var i,ρ=>match ρ[i]?with|some (.val _ d)=>.ok (.val d) ρ|some (.own b ds)=>.ok (.val (.lst ds)) (ρ.set i (.val b (.lst ds)))|some (.m8 (.k e))=>.ok (.val (.cD (.k e))) (ρ.set i (.val false (.cD (.k e))))|some (.m9 e)=>.ok (.val (.dv (e.map (·.1)) (e.map (·.2)))) (ρ.set i (.val false (.dv (e.map (·.1)) (e.map (·.2)))))|_=>.stuck
 |.con d,ρ=>.ok (.val d) ρ|.glob _ d,ρ=>.ok (.val d) ρ|.bin o a b,ρ=>(fH (isVar a) (ev c a) (isVar b) (ev c b) ρ).bind λg ρ=>lift (ni o g.1 g.2) ρ|.neg a,ρ=>(dY (isVar a) (ev c a) ρ).bind λx ρ=>lift (Ed x) ρ|.not a,ρ=>(fK (ev c a) ρ).bind λb ρ=>.ok (.val (.bl (!b))) ρ|.and a b,ρ=>(fK (ev c a) ρ).bind λx ρ=>if x then(fK (ev c b) ρ).bind λy ρ=>.ok (.val (.bl y)) ρ else .ok (.val (.bl false)) ρ|.or a b,ρ=>(fK (ev c a) ρ).bind λx ρ=>if x then .ok (.val (.bl true)) ρ else(fK (ev c b) ρ).bind λy ρ=>.ok (.val (.bl y)) ρ|.cmp o a b,ρ=>(fH (isVar a) (ev c a) (isVar b) (ev c b) ρ).bind λg ρ=>lift (jm o g.1 g.2) ρ|.chain o w a b d,ρ=>(fH (isVar a) (ev c a) (isVar b) (ev c b) ρ).bind λg ρ=>(lift (if flat g.2=true then cm o g.1 g.2 else none) ρ).bind λk ρ=>if k then(dY (isVar d) (ev c d) ρ).bind λz ρ=>lift (jm w g.2 z) ρ else .ok (.val (.bl false)) ρ|.Qx t a b,ρ=>(fK (ev c t) ρ).bind λk ρ=>if k then(ev c a ρ).bind λr ρ=>.ok (.val r.d) ρ else(ev c b ρ).bind λr ρ=>.ok (.val r.d) ρ|.tup as,ρ=>(evs c as ρ).bind λds ρ=>.ok (.val (.tup ds)) ρ|.lst as,ρ=>(evs c as ρ).bind λds ρ=>.ok (.own ds) ρ|.idx a i,ρ=>(fH (isVar a) (ev c a) (isVar i) (ev c i) ρ).bind λg ρ=>lift (xm g.1 g.2) ρ|.slice a l h,ρ=>match isVar a with|some i=>(lift (pk ρ i) ρ).bind λ_ ρ=>(dY (isVar l) (ev c l) ρ).bind λy ρ=>(dY (isVar h) (ev c h) ρ).bind λz ρ=>(lift (pk ρ i) ρ).bind λx ρ=>lift (K6 x (part l y) (part h z)) ρ|none=>(dY none (ev c a) ρ).bind λx ρ=>(dY (isVar l) (ev c l) ρ).bind λy ρ=>(dY (isVar h) (ev c h) ρ).bind λz ρ=>lift (K6 x (part l y) (part h z)) ρ
 |.call f as,ρ=>(qg c as ρ).bind λxs ρ=>jT c f xs ρ|.blt b [a],ρ=>(dY (isVar a) (ev c a) ρ).bind λx ρ=>lift (blt b [x]) ρ|.blt b as,ρ=>(evs c as ρ).bind λds ρ=>lift (blt b ds) ρ|.inst A a,ρ=>(dY (isVar a) (ev c a) ρ).bind λx ρ=>.ok (.val (.bl (A.any λt=>bj t x))) ρ|.comp src n B one u v,ρ=>(srcOf (isVar src) (ev c src) ρ).bind λds q=>if ds.length<=lim then(turns B one (qL c u) (ev c v) ds [] (q++replicate n .aU)).bind λxs s=>.ok (.own xs) (aW ρ (isVar src) (s.take q.length))else .stuck|.wH a b,ρ=>(fH (isVar a) (ev c a) (isVar b) (ev c b) ρ).bind λg ρ=>lift ((kW g.1).bind λi=>(kW g.2).bind λj=>if-1000000<=i/\i<=1000000000/\j<=1000000000/\-1000000000<=j then some (.val (.lst ((List.range (j-i).toNat).map λ(k:Nat)=>D.int (i+(k:Int)))))else none) ρ|.Hg a,ρ=>(ev c a ρ).bind λr ρ=>lift ((items r.d).map λds=>.val (.lst (ds.mapIdx λi d=>D.tup [.int (i:Int),d]))) ρ|.zip a b,ρ=>(ev c a ρ).bind λx ρ=>(ev c b ρ).bind λy ρ=>lift ((items x.d).bind λds=>(items y.d).map λC=>.val (.lst ((ds.zip C).map λp=>D.tup [p.1,p.2]))) ρ|.vw x,ρ=>match ρ[x]?with|some (.m8 m)=>.ok (.val (.cD m)) (ρ.set x (.val false (.cD m)))|some (.m9 e)=>.ok (.val (.dv (e.map (·.1)) (e.map (·.2)))) (ρ.set x (.val false (.dv (e.map (·.1)) (e.map (·.2)))))|some (.own b ds)=>.ok (.val (.lst ds)) (ρ.set x (.val b (.lst ds)))|some (.val _ d)=>.ok (.val d) ρ|_=>.stuck
noncomputable def evs(c:Call):List P->List Sl->Res (List D)|[],ρ=>.ok [] ρ|a::r,ρ=>(ev c a ρ).bind λx ρ=>(evs c r ρ).bind λxs ρ=>.ok (x.d::xs) ρ
noncomputable def qg(c:Call):List P->List Sl->Res (List Arg)|[],ρ=>.ok [] ρ|a::r,ρ=>match isVar a with|some i=>(lift (pk ρ i) ρ).bind λ_ ρ=>(qg c r ρ).bind λxs ρ=>.ok (.cM i::xs) ρ|none=>(ev c a ρ).bind λx ρ=>(qg c r ρ).bind λxs ρ=>.ok (lH x::xs) ρ
noncomputable def qL(c:Call):Option P->List Sl->Res Bool|none,ρ=>.ok true ρ|some t,ρ=>fK (ev c t) ρ
end
theorem uh{c:Call}{ρ:List Sl}:evs c [] ρ=.ok [] ρ:=rfl
theorem mZ{c:Call}{a:P}{r:List P}{ρ:List Sl}:evs c (a::r) ρ=(HH.ev c a ρ).bind λx ρ=>(evs c r ρ).bind λxs ρ=>.ok (x.d::xs) ρ:=rfl
theorem vm{c:Call}{ρ:List Sl}:qg c [] ρ=.ok [] ρ:=rfl
theorem pY{c:Call}{a:P}{r:List P}{ρ:List Sl}:qg c (a::r) ρ=match isVar a with|some i=>(lift (pk ρ i) ρ).bind λ_ ρ=>(qg c r ρ).bind λxs ρ=>.ok (.cM i::xs) ρ|none=>(HH.ev c a ρ).bind λx ρ=>(qg c r ρ).bind λxs ρ=>.ok (lH x::xs) ρ:=rfl
theorem E1{c i ρ}:ev c (.var i) ρ=match ρ[i]?with|some (.val _ d)=>.ok (.val d) ρ|some (.own b ds)=>.ok (.val (.lst ds)) (ρ.set i (.val b (.lst ds)))|some (.m8 (.k a))=>.ok (.val (.cD (.k a))) (ρ.set i (.val false (.cD (.k a))))|some (.m9 a)=>.ok (.val (.dv (a.map (·.1)) (a.map (·.2)))) (ρ.set i (.val false (.dv (a.map (·.1)) (a.map (·.2)))))|_=>.stuck:=(rfl)
theorem E2{c d ρ}:ev c (.con d) ρ=.ok (.val d) ρ:=(rfl)
theorem E3{c w1 d ρ}:ev c (.glob w1 d) ρ=.ok (.val d) ρ:=(rfl)
theorem E4{c o a b ρ}:ev c (.bin o a b) ρ=(fH (isVar a) (ev c a) (isVar b) (ev c b) ρ).bind λe ρ=>lift (ni o e.1 e.2) ρ:=(rfl)
theorem E5{c a ρ}:ev c (.neg a) ρ=(dY (isVar a) (ev c a) ρ).bind λx ρ=>lift (Ed x) ρ:=(rfl)
theorem E6{c a ρ}:ev c (.not a) ρ=(fK (ev c a) ρ).bind λb ρ=>.ok (.val (.bl (!b))) ρ:=(rfl)
theorem E7{c a b ρ}:ev c (.and a b) ρ=(fK (ev c a) ρ).bind λx ρ=>if x then(fK (ev c b) ρ).bind λy ρ=>.ok (.val (.bl y)) ρ else .ok (.val (.bl false)) ρ:=(rfl)
theorem E8{c a b ρ}:ev c (.or a b) ρ=(fK (ev c a) ρ).bind λx ρ=>if x then .ok (.val (.bl true)) ρ else(fK (ev c b) ρ).bind λy ρ=>.ok (.val (.bl y)) ρ:=(rfl)
theorem E9{c o a b ρ}:ev c (.cmp o a b) ρ=(fH (isVar a) (ev c a) (isVar b) (ev c b) ρ).bind λe ρ=>lift (jm o e.1 e.2) ρ:=(rfl)
theorem E10{c o o' a b d ρ}:ev c (.chain o o' a b d) ρ=(fH (isVar a) (ev c a) (isVar b) (ev c b) ρ).bind λe ρ=>(lift (if flat e.2=true then cm o e.1 e.2 else none) ρ).bind λk ρ=>if k then(dY (isVar d) (ev c d) ρ).bind λz ρ=>lift (jm o' e.2 z) ρ else .ok (.val (.bl false)) ρ:=(rfl)
theorem E11{c t a b ρ}:ev c (.Qx t a b) ρ=(fK (ev c t) ρ).bind λk ρ=>if k then(ev c a ρ).bind λr ρ=>.ok (.val r.d) ρ else(ev c b ρ).bind λr ρ=>.ok (.val r.d) ρ:=(rfl)
theorem E12{c as ρ}:ev c (.tup as) ρ=(evs c as ρ).bind λds ρ=>.ok (.val (.tup ds)) ρ:=(rfl)
theorem E13{c as ρ}:ev c (.lst as) ρ=(evs c as ρ).bind λds ρ=>.ok (.own ds) ρ:=(rfl)
theorem E14{c a i ρ}:ev c (.idx a i) ρ=(fH (isVar a) (ev c a) (isVar i) (ev c i) ρ).bind λb ρ=>lift (xm b.1 b.2) ρ:=(rfl)
theorem E15{c a l h ρ}:ev c (.slice a l h) ρ=match isVar a with|some i=>(lift (pk ρ i) ρ).bind λ_ ρ=>(dY (isVar l) (ev c l) ρ).bind λy ρ=>(dY (isVar h) (ev c h) ρ).bind λz ρ=>(lift (pk ρ i) ρ).bind λx ρ=>lift (K6 x (part l y) (part h z)) ρ|none=>(dY none (ev c a) ρ).bind λx ρ=>(dY (isVar l) (ev c l) ρ).bind λy ρ=>(dY (isVar h) (ev c h) ρ).bind λz ρ=>lift (K6 x (part l y) (part h z)) ρ:=(rfl)
theorem E16{c f as ρ}:ev c (.call f as) ρ=(qg c as ρ).bind λxs ρ=>jT c f xs ρ:=(rfl)
theorem E17{c b a ρ}:ev c (.blt b [a]) ρ=(dY (isVar a) (ev c a) ρ).bind λx ρ=>lift (blt b [x]) ρ:=(rfl)
theorem E18{c b x y r ρ}:ev c (.blt b (x::y::r)) ρ=(evs c (x::y::r) ρ).bind λds ρ=>lift (blt b ds) ρ:=(rfl)
theorem Jd{c b ρ}:ev c (.blt b []) ρ=(evs c [] ρ).bind λds ρ=>lift (blt b ds) ρ:=(rfl)
theorem E19{c ts a ρ}:ev c (.inst ts a) ρ=(dY (isVar a) (ev c a) ρ).bind λx ρ=>.ok (.val (.bl (ts.any λt=>bj t x))) ρ:=(rfl)
theorem E20{c src n is one test elt ρ}:ev c (.comp src n is one test elt) ρ=(srcOf (isVar src) (ev c src) ρ).bind λds a=>if ds.length<=lim then(turns is one (qL c test) (ev c elt) ds [] (a++replicate n .aU)).bind λxs b=>.ok (.own xs) (aW ρ (isVar src) (b.take a.length))else .stuck:=(rfl)
theorem E21{c a b ρ}:ev c (.wH a b) ρ=(fH (isVar a) (ev c a) (isVar b) (ev c b) ρ).bind λe ρ=>lift ((kW e.1).bind λi=>(kW e.2).bind λj=>if-1000000<=i/\i<=1000000000/\j<=1000000000/\-1000000000<=j then some (.val (.lst ((List.range (j-i).toNat).map λ(k:Nat)=>D.int (i+(k:Int)))))else none) ρ:=(rfl)
theorem E22{c a ρ}:ev c (.Hg a) ρ=(ev c a ρ).bind λr ρ=>lift ((items r.d).map λds=>.val (.lst (ds.mapIdx λi d=>D.tup [.int (i:Int),d]))) ρ:=(rfl)
theorem E23{c a b ρ}:ev c (.zip a b) ρ=(ev c a ρ).bind λx ρ=>(ev c b ρ).bind λy ρ=>lift ((items x.d).bind λds=>(items y.d).map λe=>.val (.lst ((ds.zip e).map λp=>D.tup [p.1,p.2]))) ρ:=(rfl)
theorem E24{c x ρ}:ev c (.vw x) ρ=match ρ[x]?with|some (.m8 m)=>.ok (.val (.cD m)) (ρ.set x (.val false (.cD m)))|some (.m9 a)=>.ok (.val (.dv (a.map (·.1)) (a.map (·.2)))) (ρ.set x (.val false (.dv (a.map (·.1)) (a.map (·.2)))))|some (.own b ds)=>.ok (.val (.lst ds)) (ρ.set x (.val b (.lst ds)))|some (.val _ d)=>.ok (.val d) ρ|_=>.stuck:=(rfl)
noncomputable def pckA(c:Call)(f p x t:Nat)(ρ:List Sl):Res R:=match pk ρ x with|some (.lst (_::_))=>ev c (.call f [.var p,.var x,.var t]) ρ|some (.lst [])=>ev c (.call f [.var p,.lst [.con (.int 0)],.var t]) ρ|_=>.stuck
inductive S where|pass|brk|cont|bad|expr(e:P)|asg(i:Nat)(e:P)|par(i j:Nat)(a b:P)|yW(x:Nat)(i e:P)|app(x:Nat)(e:P)|ret(e:P)|Kd|ifs(c:P)(a b:List S)|lq(src:P)(i:List Nat)(one:Bool)(body:List S)|Hh(x o f a b:Nat)(B:List S)(v:Nat)deriving Inhabited
inductive Fl where|next|brk|cont|ret(r:R)deriving Inhabited
noncomputable def gQ:Nat->D->Bool|_,.non=>true|_,.bl _=>true|_,.int _=>true|_,.str _=>true|k+1,.tup ds=>ds.all (gQ k)|_,_=>false
noncomputable def tldF(c:Call)(x y f g a:Nat)(ρ:List Sl):Res Fl:=match ρ[a]?with|some (.val _ d)=>if gQ 3 d=true/\a≠x then(lift (put ρ x .aU) ρ).bind λb _=>match c f [.val false d]with|.ok (.val (.tup [.int z,.lst ds,.tup e])) _=>if ds.all cu=true/\e.all cu=true/\ds.length<1000 then match c g [.val false d,.val false (.tup [.int z,.lst ds,.tup e])]with|.ok (.val (.bl true)) _=>(lift (put b y (.val false (.tup [.int z,.lst ds,.tup e]))) b).bind λh _=>.ok .next h|.ok (.val (.bl false)) _=>.ok (.ret (.val (.bl false))) b|_=>.stuck else .stuck|_=>.stuck else .stuck|_=>.stuck
noncomputable def lfs:Sl->Bool|.aU=>true|.val _ d=>gQ 9 d|_=>false
noncomputable def JD:D->Bool|.bl _=>true|.int _=>true|.non=>true|_=>false
noncomputable def du:Sl->Sl|.val b d=>if gQ 9 d=true then .val b d else .aU|_=>.aU
noncomputable def wO:Sl->Bool|.aU=>true|.val _ _=>true|_=>false
noncomputable def jP:Sl->Sl|.val b d=>if gQ 9 d=true then .val b d else .val true d|s=>s
noncomputable def jd:Sl->Sl->Sl|.val b d,t=>if gQ 9 d=true then du t else .val b d|_,t=>du t
noncomputable def eG(a b:List Sl):List Sl:=List.zipWith jd a b
noncomputable def nM:D->Bool
 |.lst a=>decide (a.length<1000)&&a.all λr=>match r with|.lst b=>b.all cu&&decide (3<=b.length)|_=>false
 |_=>false
noncomputable def iK(b:List Sl)(x o v:Nat)(c:Fl)(a:List Sl):Res Fl:=match c with
 |.ret (.val d)=>if JD d=true then .ok (.ret (.val d)) (eG b a)else .stuck|.next=>match a[v]?,a[x]?with|some (.val _ (.int i)),some (.val true d)=>if(i≠0\/nM d=true)/\o≠x/\o≠v then .ok .next (((eG b a).set o .aU).set x .aU)else .stuck|_,_=>.stuck
 |_=>.stuck
noncomputable def fshT(y a b:Nat)(e:Fl)(ρ:List Sl):Res Fl:=match e with
 |.ret (.val d)=>if JD d=true then .ok (.ret (.val d)) (ρ.map du)else .stuck|.next=>match ρ[a]?,ρ[b]?with|some (.val false (.lst ds)),some (.val false (.lst c))=>if ds.all cu=true/\c.all cu=true/\ds.length<1000/\0<c.length/\a≠y/\b≠y then(lift (put (ρ.map du) y (.val false (.tup [.lst ds,.lst c]))) ρ).bind λρ2 _=>.ok .next ρ2 else .stuck|_,_=>.stuck
 |_=>.stuck
noncomputable def oZ:R->Sl|.val d=>.val false d|.own ds=>.own false ds
noncomputable def gY(a:List Nat)(one:Bool)(body:List Sl->Res Fl):List D->List Sl->Res Fl|[],ρ=>.ok .next ρ|d::r,ρ=>match bU ρ a one d with|none=>.stuck|some ρ=>(body ρ).bind λb ρ=>match b with|.next=>gY a one body r ρ|.cont=>gY a one body r ρ|.brk=>.ok .next ρ|.ret r=>.ok (.ret r) ρ
theorem Ar{a:List Nat}{o:Bool}{b:List Sl->Res Fl}{ρ:List Sl}:gY a o b [] ρ=.ok .next ρ:=rfl
theorem vq{a:List Nat}{o:Bool}{b:List Sl->Res Fl}{d:D}{r:List D}{ρ:List Sl}:gY a o b (d::r) ρ=match bU ρ a o d with|none=>.stuck|some ρ=>(b ρ).bind λc ρ=>match c with|.next=>gY a o b r ρ|.cont=>gY a o b r ρ|.brk=>.ok .next ρ|.ret r=>.ok (.ret r) ρ:=rfl
noncomputable def pC(a:List Sl->Res Bool)(body:List Sl->Res Fl):Nat->List Sl->Res Fl|0,_=>.stuck|n+1,ρ=>(a ρ).bind λb ρ=>if b then(body ρ).bind λc ρ=>match c with|.next=>pC a body n ρ|.cont=>pC a body n ρ|.brk=>.ok .next ρ|.ret r=>.ok (.ret r) ρ else .ok .next ρ
theorem Ng{f:List Sl->Res Bool}{b:List Sl->Res Fl}{ρ:List Sl}:pC f b 0 ρ=.stuck:=rfl
theorem Dh{f:List Sl->Res Bool}{b:List Sl->Res Fl}{n:Nat}{ρ:List Sl}:pC f b (n+1) ρ=(f ρ).bind λx ρ=>if x then(b ρ).bind λa ρ=>match a with|.next=>pC f b n ρ|.cont=>pC f b n ρ|.brk=>.ok .next ρ|.ret r=>.ok (.ret r) ρ else .ok .next ρ:=rfl
noncomputable def Ei(c:List Nat)(one:Bool)(b:Ev):List D->List (List D)->List Sl->Res (List (List D))|[],a,ρ=>.ok a ρ|d::r,a,ρ=>match bU ρ c one d with|none=>.stuck|some ρ=>(b ρ).bind λx ρ=>match x with|.own ds=>Ei c one b r (a++[ds]) ρ|.val _=>.stuck
noncomputable def rowAt(a:List (List D))(k:Int):Option (List D):=(je a.length k).bind λr=>a[r]?
noncomputable def NK(a:List (List D))(k:Int)(f:List D->Option (List D)):Option (List (List D)):=(je a.length k).bind λr=>(a[r]?).bind λrow=>(f row).map λb=>a.set r b
noncomputable def setAt(l:Int)(d:D)(row:List D):Option (List D):=(je row.length l).map λm=>row.set m d
noncomputable def rK(ρ:List Sl)(x:Nat):Option (List (List D)):=match ρ[x]?with|some (.hold a)=>some a|_=>none
noncomputable def rowK(ρ:List Sl)(x:Nat)(k:D):Option (List D):=(rK ρ x).bind λa=>(kW k).bind λk=>rowAt a k
noncomputable def OJ(ρ:List Sl)(x:Nat)(o:Option (List (List D))):Res Fl:=match o with|some a=>.ok .next (ρ.set x (.hold a))|none=>.stuck
noncomputable def rowOne(x r:Nat)(b c e:List Sl->Res D)(ρ:List Sl):Res Fl:=(c ρ).bind λk ρ=>(lift ((rK ρ x).bind λa=>(a[r]?).bind λrow=>(kW k).bind λk=>(at' row k).bind kW) ρ).bind λu ρ=>(e ρ).bind λl ρ=>(lift ((rK ρ x).bind λa=>(a[r]?).bind λrow=>(kW l).bind λl=>(at' row l).bind kW) ρ).bind λv ρ=>(b ρ).bind λj ρ=>OJ ρ x ((rK ρ x).bind λa=>(a[r]?).bind λrow=>(kW j).bind λj=>(setAt j (.int (u+v)) row).map λf=>a.set r f)
noncomputable def Ax(x y:Nat)(a b c:List Sl->Res D):Nat->Nat->List Sl->Res Fl|0,_,ρ=>.ok .next ρ|m+1,r,ρ=>(lift (put ρ y .aU) ρ).bind λρ _=>(rowOne x r a b c ρ).bind λ_ ρ=>Ax x y a b c m (r+1) ρ
noncomputable def Be(b:List Nat)(one:Bool)(body:List Sl->Res Fl)(c:List Sl->Option (Nat×List Sl)):List D->List Sl->Option (Nat×List Sl)|[],_=>none|d::r,ρ=>match bU ρ b one d with|none=>none|some ρ=>match c ρ with|some x=>some x|none=>match body ρ with|.ok .next a=>Be b one body c r a|.ok .cont a=>Be b one body c r a|_=>none
noncomputable def Ii(a:List Sl->Res Bool)(body:List Sl->Res Fl)(c:List Sl->Option (Nat×List Sl)):Nat->List Sl->Option (Nat×List Sl)|0,_=>none|n+1,ρ=>match a ρ with
   |.ok true b=>match c b with|some x=>some x|none=>match body b with|.ok .next ρ2=>Ii a body c n ρ2|.ok .cont ρ2=>Ii a body c n ρ2|_=>none
   |_=>none
noncomputable def Du:P->P|.idx a _=>a|.blt .sum [.comp s _ _ _ _ _]=>s|e=>e
noncomputable def arg0:P->P|.call _ (a::_)=>a|e=>e
noncomputable def rH(c:Call)(e:P)(ρ:List Sl):Option (Nat×List Sl):=match Du e with
 |.call f as=>match qg c as ρ with
   |.ok xs b=>match aY b xs []with
     |some args=>match c f args with|.exc k a=>some (k,cA xs a 0 b)|_=>none
     |none=>none
   |_=>none
 |_=>none
mutual
noncomputable def ex(c:Call)(n:Nat):S->List Sl->Res Fl
 |.pass,ρ=>.ok .next ρ|.brk,ρ=>.ok .brk ρ|.cont,ρ=>.ok .cont ρ|.bad,_=>.stuck|.expr e,ρ=>(ev c e ρ).bind λ_ ρ=>.ok .next ρ|.asg i e,ρ=>(ev c e ρ).bind λr ρ=>(lift (put ρ i (oZ r)) ρ).bind λg _=>.ok .next g|.par i j a b,ρ=>(ev c a ρ).bind λx ρ=>(ev c b ρ).bind λy ρ=>(lift ((put ρ i (.val false x.d)).bind λρ=>put ρ j (.val false y.d)) ρ).bind λg _=>.ok .next g|.yW x i e,ρ=>(ev c e ρ).bind λr ρ=>(lift (pk ρ x) ρ).bind λ_ ρ=>(dY (isVar i) (ev c i) ρ).bind λk ρ=>match ρ[x]?,k with
   |some (.own b ds),.int k=>match je ds.length k with|some j=>.ok .next (ρ.set x (.own b (ds.set j r.d)))|none=>.stuck
   |_,_=>.stuck
 |.app x e,ρ=>(lift (JW ρ x) ρ).bind λ_ ρ=>(ev c e ρ).bind λr ρ=>match ρ[x]?with|some (.own b ds)=>if ds.length<lim then .ok .next (ρ.set x (.own b (ds++[r.d])))else .stuck|_=>.stuck
 |.ret e,ρ=>match isVar e with
   |some i=>match ρ[i]?with|some (.own false ds)=>.ok (.ret (.own ds)) (ρ.set i .aU)|_=>(ev c e ρ).bind λr ρ=>.ok (.ret r) ρ
   |none=>(ev c e ρ).bind λr ρ=>.ok (.ret r) ρ
 |.Kd,ρ=>.ok (.ret (.val .non)) ρ|.ifs t a b,ρ=>(fK (ev c t) ρ).bind λk ρ=>if k then eZ c n a ρ else eZ c n b ρ|.lq src p one body,ρ=>(srcOf (isVar src) (ev c src) ρ).bind λds h=>(gY p one (eZ c n body) ds h).bind λq m=>.ok q (aW ρ (isVar src) m)|.Hh x o f a b B v,ρ=>match ρ[a]?,ρ[b]?with
   |some (.val _ da),some (.val _ db)=>if ρ.all wO=true/\gQ 9 da=true/\gQ 9 db=true/\(put ρ o .aU).isSome=true then match c f [.val false da,.val false db]with
    |.ok r _=>match ρ[x]?with|some .aU=>(eZ c n B ((ρ.map jP).set x (.val true r.d))).bind (iK ρ x o v)|_=>.stuck
    |_=>.stuck else .stuck|_,_=>.stuck
noncomputable def eZ(c:Call)(n:Nat):List S->List Sl->Res Fl|[],ρ=>.ok .next ρ|s::r,ρ=>(ex c n s ρ).bind λfl ρ=>match fl with|.next=>eZ c n r ρ|fl=>.ok fl ρ
noncomputable def exX(c:Call)(n:Nat):S->List Sl->Option (Nat×List Sl)
 |.ifs t a b,ρ=>match fK (ev c t) ρ with|.ok x f=>if x then vd c n a f else vd c n b f|_=>none
 |.lq src g one body,ρ=>match rH c src ρ with|some x=>some x|none=>match srcOf (isVar src) (ev c src) ρ with|.ok ds f=>(Be g one (eZ c n body) (vd c n body) ds f).map λx=>(x.1,aW ρ (isVar src) x.2)|_=>none
 |.ret e,ρ=>rH c e ρ|.asg _ e,ρ=>rH c e ρ|.expr e,ρ=>rH c e ρ|_,_=>none
noncomputable def vd(c:Call)(n:Nat):List S->List Sl->Option (Nat×List Sl)|[],_=>none|s::r,ρ=>match exX c n s ρ with|some x=>some x|none=>match ex c n s ρ with|.ok .next a=>vd c n r a|_=>none
end
theorem X1{c n ρ}:ex c n (.pass) ρ=.ok .next ρ:=(rfl)
theorem X2{c n ρ}:ex c n (.brk) ρ=.ok .brk ρ:=(rfl)
theorem X3{c n ρ}:ex c n (.cont) ρ=.ok .cont ρ:=(rfl)
theorem X4{c n ρ}:ex c n (.bad) ρ=.stuck:=(rfl)
theorem X5{c n e ρ}:ex c n (.expr e) ρ=(ev c e ρ).bind λ_ ρ=>.ok .next ρ:=(rfl)
theorem X6{c n i e ρ}:ex c n (.asg i e) ρ=(ev c e ρ).bind λr ρ=>(lift (put ρ i (oZ r)) ρ).bind λa _=>.ok .next a:=(rfl)
theorem X7{c n i j a b ρ}:ex c n (.par i j a b) ρ=(ev c a ρ).bind λx ρ=>(ev c b ρ).bind λy ρ=>(lift ((put ρ i (.val false x.d)).bind λρ=>put ρ j (.val false y.d)) ρ).bind λe _=>.ok .next e:=(rfl)
theorem X8{c n x i e ρ}:ex c n (.yW x i e) ρ=(ev c e ρ).bind λr ρ=>(lift (pk ρ x) ρ).bind λ_ ρ=>(dY (isVar i) (ev c i) ρ).bind λk ρ=>match ρ[x]?,k with
 |some (.own b ds),.int k=>match je ds.length k with|some j=>.ok .next (ρ.set x (.own b (ds.set j r.d)))|none=>.stuck
 |_,_=>.stuck:=(rfl)
theorem X9{c n x e ρ}:ex c n (.app x e) ρ=(lift (JW ρ x) ρ).bind λ_ ρ=>(ev c e ρ).bind λr ρ=>match ρ[x]?with|some (.own b ds)=>if ds.length<lim then .ok .next (ρ.set x (.own b (ds++[r.d])))else .stuck|_=>.stuck:=(rfl)
theorem Lh{c n e ρ}:ex c n (.ret e) ρ=match isVar e with
 |some i=>match ρ[i]?with|some (.own false ds)=>.ok (.ret (.own ds)) (ρ.set i .aU)|_=>(ev c e ρ).bind λr ρ=>.ok (.ret r) ρ
 |none=>(ev c e ρ).bind λr ρ=>.ok (.ret r) ρ:=(rfl)
theorem Ra{c n ρ}:ex c n (.Kd) ρ=.ok (.ret (.val .non)) ρ:=(rfl)
theorem Py{c n t a b ρ}:ex c n (.ifs t a b) ρ=(fK (ev c t) ρ).bind λk ρ=>if k then eZ c n a ρ else eZ c n b ρ:=(rfl)
theorem Ph{c n src is one body ρ}:ex c n (.lq src is one body) ρ=(srcOf (isVar src) (ev c src) ρ).bind λds a=>(gY is one (eZ c n body) ds a).bind λe b=>.ok e (aW ρ (isVar src) b):=(rfl)
theorem X14{c n x o f a b v ρ}:ex c n (.Hh x o f a b B v) ρ=match ρ[a]?,ρ[b]?with
 |some (.val _ da),some (.val _ db)=>if ρ.all wO=true/\gQ 9 da=true/\gQ 9 db=true/\(put ρ o .aU).isSome=true then match c f [.val false da,.val false db]with
  |.ok r _=>match ρ[x]?with|some .aU=>(eZ c n B ((ρ.map jP).set x (.val true r.d))).bind (iK ρ x o v)|_=>.stuck
  |_=>.stuck else .stuck|_,_=>.stuck:=(rfl)
structure Fd where
 np:Nat
 nn:Nat
 body:List S deriving Inhabited
noncomputable abbrev Tab:=Nat->Option Fd
noncomputable def enter(c:Call)(n:Nat)(d:Fd)(args:List Sl):Res R:=if args.length=d.np/\d.np<=d.nn then match eZ c n d.body (args++replicate (d.nn-d.np) .aU)with|.ok .next ρ=>.ok (.val .non) (ρ.take d.np)|.ok (.ret r) ρ=>.ok r (ρ.take d.np)|_=>match vd c n d.body (args++replicate (d.nn-d.np) .aU)with|some (k,ρ)=>.exc k (ρ.take d.np)|none=>.stuck else .stuck
noncomputable def run(Γ:Tab)(w:Nat):Nat->Call|0,_,_=>.stuck|n+1,f,args=>match Γ f with|some d=>enter (run Γ w n) w d args|none=>.stuck
end HH
end
section
namespace HH
open PySem L2
variable{v:V}{vs:List V}{ρ:List Sl}{σ:St}
noncomputable def Dc.ho:Dc->HO|.k a=>.dK (a.map λp=>(Sum.inl p.1,V.int p.2))|.t a=>.dT (a.map λp=>(p.1.map Sum.inl,V.int p.2))
noncomputable def uz(a:List Int)(vs:List V):HO:=.dK ((a.zip vs).map λp=>(Sum.inl p.1,p.2))
section
variable(K:PySem.W.Frag)
mutual
def Rep(F:Hp):V->D->Prop|v,.non=>v=.non|v,.bl b=>v=.bl b|v,.int i=>v=.int i|v,.str x=>v=.str x|v,.tup ds=>∃a xs,v=.ref a/\eY K F a xs/\az F xs ds|v,.lst ds=>∃a xs,v=.ref a/\cR K F a xs/\az F xs ds|v,.cD m=>∃a o,v=.ref a/\F a=some (.cQ o m.ho)|v,.dv c ds=>∃a o vs,v=.ref a/\F a=some (.cQ o (uz c vs))/\az F vs ds/\c.length=ds.length
def az(F:Hp):List V->List D->Prop|vs,[]=>vs=[]|vs,d::ds=>∃v r,vs=v::r/\Rep F v d/\az F r ds
end
end
section
variable{K:PySem.W.Frag}{F F' H H':Hp}
theorem au.dR{a:Addr}{xs:List V}(e:au H H')(h:eY K H a xs):eY K H' a xs:=by
 rcases h with(h|⟨o,h⟩)|h;.exact .inl (.inl (e _ _ h))
 .exact .inl (.inr ⟨o,e _ _ h⟩)
 .exact .inr h
mutual
theorem Rep.mono(e:au F F'):∀{d:D}{v:V},Rep K F v d->Rep K F' v d|.non,_,h=>by rw[Rep]at h ⊢;exact h|.bl _,_,h=>by rw[Rep]at h ⊢;exact h|.int _,_,h=>by rw[Rep]at h ⊢;exact h|.str _,_,h=>by rw[Rep]at h ⊢;exact h|.tup ds,_,h=>by rw[Rep]at h ⊢;obtain⟨a,xs,rfl,hs,r⟩:=h;exact⟨a,xs,rfl,au.dR e hs,az.mono e r⟩|.lst ds,_,h=>by rw[Rep]at h ⊢;obtain⟨a,xs,rfl,hs,r⟩:=h;exact⟨a,xs,rfl,e.seq hs,az.mono e r⟩|.cD m,_,h=>by rw[Rep]at h ⊢;obtain⟨a,o,rfl,hs⟩:=h;exact⟨a,o,rfl,e _ _ hs⟩|.dv c ds,_,h=>by rw[Rep]at h ⊢;obtain⟨a,o,vs,rfl,hs,r,b⟩:=h;exact⟨a,o,vs,rfl,e _ _ hs,az.mono e r,b⟩theorem az.mono(e:au F F'):∀{ds:List D}{vs:List V},az K F vs ds->az K F' vs ds|[],_,h=>by rw[az]at h ⊢;exact h|d::ds,_,h=>by rw[az]at h ⊢;obtain⟨v,r,rfl,h1,a⟩:=h;exact⟨v,r,rfl,Rep.mono e h1,az.mono e a⟩end
theorem az.nil:az K F [] []:=by rw[az]
theorem az.cons{d:D}{ds:List D}(h:Rep K F v d)(t:az K F vs ds):az K F (v::vs) (d::ds):=by rw[az];exact⟨v,vs,rfl,h,t⟩
theorem az.bJ{d:D}{ds:List D}(h:az K F vs (d::ds)):∃v r,vs=v::r/\Rep K F v d/\az K F r ds:=by rw[az]at h;exact h
theorem az.fj(h:az K F vs []):vs=[]:=by rw[az]at h;exact h
theorem az.length:∀{ds:List D}{vs:List V},az K F vs ds->vs.length=ds.length|[],_,h=>by rw[h.fj];rfl|d::ds,_,h=>by obtain⟨v,r,rfl,_,t⟩:=h.bJ;simp[az.length t]
theorem az.get:∀{ds:List D}{vs:List V}{i:Nat}{d:D},az K F vs ds->ds[i]?=some d->∃v,vs[i]?=some v/\Rep K F v d|[],_,_,_,h,e=>by simp at e|d::ds,_,0,_,h,e=>by obtain⟨v,r,rfl,h1,t⟩:=h.bJ;simp at e;subst e;exact⟨v,rfl,h1⟩|d::ds,_,i+1,_,h,e=>by obtain⟨v,r,rfl,_,t⟩:=h.bJ;simp at e;obtain⟨w,a,b⟩:=t.get e;exact⟨w,by simpa using a,b⟩
theorem az.append:∀{ds a:List D}{vs b:List V},az K F vs ds->az K F b a->az K F (vs++b) (ds++a)|[],_,_,_,h,h'=>by rw[h.fj];exact h'|d::ds,_,_,_,h,h'=>by obtain⟨v,r,rfl,h1,t⟩:=h.bJ;exact .cons h1 (t.append h')
theorem az.set{v:V}{d:D}(hr:Rep K F v d):∀{ds:List D}{vs:List V}(i:Nat),az K F vs ds->az K F (vs.set i v) (ds.set i d)|[],_,_,h=>by rw[h.fj];exact .nil|_::_,_,0,h=>by obtain⟨w,r,rfl,h1,t⟩:=h.bJ;exact .cons hr t|_::_,_,i+1,h=>by obtain⟨w,r,rfl,h1,t⟩:=h.bJ;exact .cons h1 (az.set hr i t)
theorem az.rep{ds:List D}{vs:List V}(h:az K F vs ds):∀n,az K F (replicate n vs).flatten (replicate n ds).flatten|0=>by simpa using az.nil|n+1=>by simpa[replicate_succ]using h.append (az.rep h n)
inductive Oc where|l(ds:List D)|d(m:Dc)|v(kvs:List (Int×D))
noncomputable def lst?:Sl->Option Oc|.own _ ds=>some (.l ds)|.lent ds=>some (.l ds)|.m8 m=>some (.d m)|.m9 a=>some (.v a)|_=>none
def lE(K:PySem.W.Frag)(F:Hp)(o:HO):Oc->Prop|.l ds=>∃xs,o=.lst xs/\az K F xs ds|.d m=>o=m.ho|.v a=>∃vs,o=uz (a.map (·.1)) vs/\az K F vs (a.map (·.2))
theorem lE.mono{o:HO}{x:Oc}(e:au F F')(h:lE K F o x):lE K F' o x:=by cases x with|l ds=>obtain⟨xs,a,h⟩:=h;exact⟨xs,a,h.mono e⟩|d m=>exact h|v b=>obtain⟨xs,a,h⟩:=h;exact⟨xs,a,h.mono e⟩
def bf(ρ:List Sl)(σ:St)(i:Nat)(a:Addr):Prop:=(∃s ds,ρ[i]?=some s/\lst? s=some ds)/\σ[i]?=some (some (V.ref a))
def Own(ρ:List Sl)(σ:St)(a:Addr):Prop:=∃i,bf ρ σ i a
structure GS(K:PySem.W.Frag)(F:Hp)(ρ:List Sl)(σ:St)(H:Hp):Prop where
 sub:au F H
 len:ρ.length=σ.length
 val:∀(i:Nat)(b:Bool)(d:D),ρ[i]?=some (Sl.val b d)->∃v:V,σ[i]?=some (some v)/\Rep K F v d
 own:∀(i:Nat)(s:Sl)(ds:Oc),ρ[i]?=some s->lst? s=some ds->∃(a:Addr)(xs:HO),σ[i]?=some (some (V.ref a))/\H a=some xs/\F a=none/\lE K F xs ds
 dis:∀(i j:Nat)(a:Addr),bf ρ σ i a->bf ρ σ j a->i=j
theorem GS.mV(g:GS K F ρ σ H)(i:Nat)(s:Sl)(ds:List D)(e:ρ[i]?=some s)(b:lst? s=some (.l ds)):∃(a:Addr)(xs:List V),σ[i]?=some (some (V.ref a))/\H a=some (.lst xs)/\F a=none/\az K F xs ds:=by obtain⟨a,o,h1,c,f,xs,rfl,h⟩:=g.own i s (.l ds) e b;exact⟨a,xs,h1,c,f,h⟩
noncomputable def uP:Sl->Bool|.val b _=>b|.own b _=>b|.lent _=>true|.aU=>false|.m8 _=>false|.m9 _=>false|.hold _=>true
def gZ:Sl->Sl->Prop|.val true d,s=>s=.val true d|.own true _,s=>(∃ds,s=.own true ds)\/∃d,s=.val true d|.lent ds,s=>s=.lent ds|.hold ds,s=>s=.hold ds|_,_=>True
theorem gZ.refl(s:Sl):gZ s s:=by unfold gZ;split<;>first|rfl|exact .inl ⟨_,rfl⟩|trivial
theorem gZ.uP{s a:Sl}(h:gZ s a)(l:uP s=true):HH.uP a=true:=by cases s with
 |aU=>cases l|m8 _=>cases l|m9 _=>cases l|val b d=>cases b with|true=>cases h;rfl|false=>cases l
 |own b d=>cases b with|true=>rcases h with⟨_,rfl⟩|⟨_,rfl⟩<;>rfl|false=>cases l
 |lent d=>cases h;rfl|hold d=>cases h;rfl
theorem gZ.trans{s c a:Sl}(l:HH.uP s=true)(h:gZ s c)(h':gZ c a):gZ s a:=by cases s with
 |aU=>cases l|m8 _=>cases l|m9 _=>cases l|val b d=>cases b with|true=>cases h;exact h'|false=>cases l
 |own b d=>cases b with
   | true => rcases h with⟨_,rfl⟩|⟨d,rfl⟩;.exact h'
             .exact .inr ⟨d,h'⟩|false=>cases l
 |lent d=>cases h;exact h'|hold d=>cases h;exact h'
noncomputable def nt:Option HO->Option HO|some (.tup _)=>none|o=>o
theorem jw{o:Option HO}(h:o=none):nt o=none:=by rw[h];rfl
theorem vC{H:Hp}{b:Addr}{xs:List V}(h:H b=some (.lst xs))(z:nt (H b)=none):False:=by rw[h]at z;cases z
theorem vV{o:HO}{x:Oc}(h:lE K F o x)(z:nt (some o)=none):False:=by cases x with|l ds=>obtain⟨xs,rfl,_⟩:=h;cases z|d m=>cases m<;>(cases(show o=_ from h);cases z)|v a=>obtain⟨xs,rfl,_⟩:=h;cases z
structure aZ(K:PySem.W.Frag)(F:Hp)(ρ:List Sl)(σ:St)(H:Hp)(F':Hp)(ρ':List Sl)(σ':St)(H':Hp):Prop where
 gs:GS K F' ρ' σ' H'
 bI:au F F'
 oU:∀b,F b=none->F' b≠none->Own ρ σ b\/nt (H b)=none
 keep:∀b o,H b=some o->¬ Own ρ σ b->H' b=some o
 sE:∀b,Own ρ' σ' b->Own ρ σ b\/H b=none
 len:ρ'.length=ρ.length
 lk:∀(i:Nat)(s:Sl),ρ[i]?=some s->uP s=true->σ'[i]?=σ[i]?/\∃s',ρ'[i]?=some s'/\gZ s s'
theorem aZ.refl{ρ:List Sl}{σ:St}(g:GS K F ρ σ H):aZ K F ρ σ H F ρ σ H:=⟨g,au.refl _,λb h h'=>absurd h h',λ_ _ h _=>h,λ_ h=>.inl h,rfl,λi s h _=>⟨rfl,s,h,.refl s⟩⟩
theorem aZ.trans{k F2 m p:Hp}{ρ f ρ2:List Sl}{σ g j:St}(a:aZ K F ρ σ H k f g m)(b:aZ K k f g m F2 ρ2 j p):aZ K F ρ σ H F2 ρ2 j p:=by
 have back:∀c,Own f g c\/m c=none->Own ρ σ c\/H c=none:=λc h=>by
  rcases h with h|h;.exact a.sE c h
  . by_cases ho:Own ρ σ c;.exact .inl ho
    .right;cases e:H c with|none=>rfl|some o=>rw[a.keep c o e ho]at h;cases h
 refine⟨b.gs,a.bI.trans b.bI,λc h h'=>?_,λc o h n=>?_,λc h=>back c (b.sE c h),b.len.trans a.len,λi s h l=>?_⟩
 . by_cases e:k c=none
   . by_cases ho:Own ρ σ c;.exact .inl ho
     . rcases b.oU c e h' with z|z;.exact(back c (.inl z)).imp id jw
       .right;cases q:H c with|none=>rfl|some o=>rw[a.keep c o q ho]at z;exact z
   .exact a.oU c h e
 . refine b.keep c o (a.keep c o h n) λh'=>?_;rcases a.sE c h' with h'|h';.exact n h'
   .rw[h]at h';cases h'
 .obtain⟨t,s1,h1,r⟩:=a.lk i s h l;obtain⟨u,s2,w,x⟩:=b.lk i s1 h1 (r.uP l);exact⟨u.trans t,s2,w,.trans l r x⟩
def bR(K:PySem.W.Frag)(F H:Hp)(v:V)(d:D):Prop:=Rep K F v d\/∃a xs ds,v=.ref a/\H a=some (.lst xs)/\az K F xs ds/\d=.lst ds
def bG(K:PySem.W.Frag)(F':Hp)(b:List Sl)(c:St)(H':Hp)(ρ:List Sl)(σ:St)(H:Hp)(v:V):R->Prop|.val d=>Rep K F' v d|.own ds=>∃a xs,v=.ref a/\H' a=some (.lst xs)/\F' a=none/\az K F' xs ds/\¬ Own b c a/\(Own ρ σ a\/H a=none)
theorem au.cz{F:Hp}{a:Addr}{o:HO}(h:F a=none):au F (upd F a o):=λb u e=>by
 have:b≠a:=by rintro rfl;rw[h]at e;cases e
 rw[ao this];exact e
theorem aZ.cQ{c:List Sl}{f:St}{r:R}(s:aZ K F ρ σ H F' c f H')(h:bG K F' c f H' ρ σ H v r):∃g,aZ K F ρ σ H g c f H'/\au F' g/\Rep K g v r.d:=by cases r with|val d=>exact⟨F',s,.refl _,h⟩|own ds=>
   obtain⟨a,xs,rfl,h1,x,y,z,A⟩:=h;have k:au F' (upd F' a (.lst xs)):=au.cz x;refine⟨upd F' a (.lst xs),⟨⟨λb o e=>?_,s.gs.len,λi b d e=>?_,λi t m e u=>?_,s.gs.dis⟩,s.bI.trans k,λb n w=>?_,s.keep,s.sE,s.len,s.lk⟩,k,?_⟩
   . by_cases j:b=a;.subst j;rw[aH]at e;cases e;exact h1
     .rw[ao j]at e;exact s.gs.sub b o e
   .obtain⟨v,p,q⟩:=s.gs.val i b d e;exact⟨v,p,q.mono k⟩
   . obtain⟨b,ys,p,q,B,C⟩:=s.gs.own i t m e u;have j:b≠a:=by rintro rfl;exact z ⟨i,⟨t,m,e,u⟩,p⟩
     exact⟨b,ys,p,q,by rw[ao j];exact B,C.mono k⟩
   . by_cases j:b=a;.subst j;exact A.imp id jw
     .rw[ao j]at w;exact s.oU b n w
   .show Rep K _ _ (.lst ds);rw[Rep];exact⟨a,xs,rfl,cR.of aH,y.mono k⟩
theorem bR.mono{v:V}(e:au F F')(k:∀a xs,v=.ref a->H a=some (.lst xs)->H' a=some (.lst xs)){d:D}(h:bR K F H v d):bR K F' H' v d:=by
 rcases h with h|⟨a,xs,ds,h1,b,c,f⟩;.exact .inl (h.mono e)
 .exact .inr ⟨a,xs,ds,h1,k a xs h1 b,c.mono e,f⟩
theorem GS.pk{ρ:List Sl}{σ:St}{i:Nat}{d:D}(g:GS K F ρ σ H)(e:HH.pk ρ i=some d):∃v:V,σ[i]?=some (some v)/\bR K F H v d:=by
 unfold HH.pk at e;split at e;.rename_i b d' h;cases e;obtain⟨v,h1,c⟩:=g.val i b d h;exact⟨v,h1,.inl c⟩
 .rename_i b ds h;cases e;obtain⟨a,xs,h1,c,j,f⟩:=g.mV i _ ds h rfl;exact⟨.ref a,h1,.inr ⟨a,xs,ds,rfl,c,f,rfl⟩⟩
 .rename_i ds h;cases e;obtain⟨a,xs,h1,c,j,f⟩:=g.mV i _ ds h rfl;exact⟨.ref a,h1,.inr ⟨a,xs,ds,rfl,c,f,rfl⟩⟩
 .cases e
structure Ext(F H F' H':Hp):Prop where
 hs:au H H'
 fs:au F F'
 sub:au F' H'
 gr:∀b,F b=none->F' b≠none->nt (H b)=none
theorem Ext.refl(h:au F H):Ext F H F H:=⟨.refl _,.refl _,h,λ_ a b=>absurd a b⟩
theorem Ext.stp(g:GS K F ρ σ H)(e:Ext F H F' H'):aZ K F ρ σ H F' ρ σ H':=by
 refine⟨⟨e.sub,g.len,λi b d h=>?_,λi s ds h h'=>?_,g.dis⟩,e.fs,λb n j=>.inr (e.gr b n j),λb o h _=>e.hs b o h,λ_ h=>.inl h,rfl,λi s h _=>⟨rfl,s,h,.refl s⟩⟩;.obtain⟨v,h1,c⟩:=g.val i b d h;exact⟨v,h1,c.mono e.fs⟩
 .obtain⟨a,xs,h1,c,k,f⟩:=g.own i s ds h h';refine⟨a,xs,h1,e.hs _ _ c,?_,f.mono e.fs⟩;cases q:F' a with|none=>rfl|some o=>have:=e.gr a k (by rw[q];simp);rw[c]at this;exact(vV f this).elim
def cj(K:PySem.W.Frag)(F' H' H:Hp)(v:V):R->Prop|.val d=>Rep K F' v d|.own ds=>∃a xs,v=.ref a/\H' a=some (.lst xs)/\F' a=none/\az K F' xs ds/\H a=none
theorem cj.sY{r:R}(g:GS K F ρ σ H)(h:cj K F' H' H v r):bG K F' ρ σ H' ρ σ H v r:=by cases r with|val d=>exact h|own ds=>obtain⟨a,xs,rfl,h1,m,n,f⟩:=h;refine⟨a,xs,rfl,h1,m,n,?_,.inr f⟩;rintro⟨i,⟨s,c,e,o⟩,p⟩;obtain⟨b,ys,j,k,_⟩:=g.own i s c e o;rw[p]at j;cases j;rw[f]at k;cases k
theorem bG.later{k i F2 j:Hp}{c ρ2:List Sl}{f g:St}{r:R}(a:aZ K F ρ σ H k c f i)(h:bG K F2 ρ2 g j c f i v r):bG K F2 ρ2 g j ρ σ H v r:=by cases r with|val d=>exact h|own ds=>
   obtain⟨b,xs,rfl,h1,m,n,p,h5⟩:=h;refine⟨b,xs,rfl,h1,m,n,p,?_⟩;rcases h5 with h5|h5;.exact a.sE b h5
   . by_cases ho:Own ρ σ b;.exact .inl ho
     .right;cases e:H b with|none=>rfl|some o=>rw[a.keep b o e ho]at h5;cases h5
end
end HH
end
section
namespace HH
open PySem L2 PySem.Spec PyProof.Rows
variable{ρ' ρ ρ₀:List Sl}{es:List Expr}{K:PySem.W.Frag}{F H H₀:Hp}{σ:L2.St}{i n:Nat}{ds:List D}{x:Str}{v:V}{vs:List V}{op:CmpOp}{p':Pos}{as:List Arg}
theorem aa{c e:Type}{x:Res c}{f:c->List Sl->Res e}{b:e}(h:x.bind f=.ok b ρ'):∃a ρ,x=.ok a ρ/\f a ρ=.ok b ρ':=by cases x with|ok a ρ=>exact⟨a,ρ,rfl,h⟩|exc _ _=>cases h|stuck=>cases h
theorem aJ{c:Type}{o:Option c}{a:c}(h:lift o ρ=.ok a ρ'):o=some a/\ρ=ρ':=by cases o with|none=>cases h|some b=>cases h;exact⟨rfl,rfl⟩
theorem map_some{c e:Type}{o:Option c}{f:c->e}{b:e}(h:o.map f=some b):∃a,o=some a/\f a=b:=by cases o with|none=>cases h|some a=>cases h;exact⟨a,rfl,rfl⟩
theorem fM{c e:Type}{o:Option c}{f:c->Option e}{b:e}(h:o.bind f=some b):∃a,o=some a/\f a=some b:=by cases o with|none=>cases h|some a=>exact⟨a,rfl,h⟩
theorem bB{e:Type}{c:Prop}[Decidable c]{a b:e}(h:(if c then some a else none)=some b):c/\a=b:=by
 split at h;.rename_i hc;cases h;exact⟨hc,rfl⟩
 .cases h
section
variable{X:Cx}{c:Call}{e a b:Expr}{p pa pb:P}{pos:Pos}
theorem dO{t t':TE}(h:PE X e t)(i:∀σ H Q,t' σ H Q->t σ H Q):PE X e t':=λf s σ H Q I q=>h f s σ H Q I (i σ H Q q)
theorem uZ{t t':TT}(h:PT X e t)(i:∀σ H Q,t' σ H Q->t σ H Q):PT X e t':=λf s σ H Q I q=>h f s σ H Q I (i σ H Q q)
theorem zT{t t':TT}(h:PW X e t)(i:∀σ H Q,t' σ H Q->t σ H Q):PW X e t':=λg f s σ H Q I q=>h g f s σ H Q I (i σ H Q q)
theorem jM{t t':TA}(h:PA X es t)(i:∀σ H Q,t' σ H Q->t σ H Q):PA X es t':=λpos f s σ H Q I q=>h pos f s σ H Q I (i σ H Q q)
inductive wG(K:PySem.W.Frag)(f:Ev)(σ:L2.St)(H:Hp)(Q:VK):Prop where|mk(F:Hp)(ρ:List Sl)(r:R)(ρ':List Sl)(g:GS K F ρ σ H)(e:f ρ=.ok r ρ')(k:∀v F' H',aZ K F ρ σ H F' ρ' σ H'->bG K F' ρ' σ H' ρ σ H v r->Q v H')
inductive zA(K:PySem.W.Frag)(f:List Sl->Res Bool)(σ:L2.St)(H:Hp)(Q:Bool->Hp->Prop):Prop where|mk(F:Hp)(ρ:List Sl)(b:Bool)(ρ':List Sl)(g:GS K F ρ σ H)(e:f ρ=.ok b ρ')(k:∀F' H',aZ K F ρ σ H F' ρ' σ H'->Q b H')
inductive Qh(K:PySem.W.Frag)(f:List Sl->Res (List D))(σ:L2.St)(H:Hp)(Q:List V->Hp->Prop):Prop where|mk(F:Hp)(ρ:List Sl)(ds:List D)(ρ':List Sl)(g:GS K F ρ σ H)(e:f ρ=.ok ds ρ')(k:∀vs F' H',aZ K F ρ σ H F' ρ' σ H'->az K F' vs ds->Q vs H')
structure SX(X:Cx)(c:Call)(e:Expr)(p:P):Prop where ev:PE X e (wG X.K (HH.ev c p))var:∀i,isVar p=some i->PE X e (jN i)
def SA(X:Cx)(c:Call)(es:List Expr)(ps:List P):Prop:=PA X es (Qh X.K (evs c ps))/\ps.length=es.length
theorem SX.dY(h:SX X c e p):∃t,PE X e t/\∀{σ:L2.St}{H F:Hp}{ρ ρ':List Sl}{d:D}{Q:VK},GS X.K F ρ σ H->dY (isVar p) (HH.ev c p) ρ=.ok d ρ'->(∀v j f,aZ X.K F ρ σ H j ρ' σ f->bR X.K j f v d->Q v f)->t σ H Q:=by cases hv:isVar p with|none=>refine⟨_,h.ev,λ{σ H F ρ ρ' d Q}g e k=>?_⟩;obtain⟨r,u,m,o⟩:=aa e;cases o;refine⟨F,ρ,r,_,g,m,λv j f s w=>?_⟩;obtain⟨q,y,_,z⟩:=s.cQ w;exact k v q f y (.inl z)|some i=>refine⟨_,h.var i hv,λ{σ H F ρ ρ' d Q}g e k=>?_⟩;obtain⟨m,o⟩:=aJ e;subst o;obtain⟨v,h1,A⟩:=g.pk m;exact⟨v,h1,k v F H (.refl g) A⟩
theorem SX.fH(I:SX X c a pa)(N:SX X c b pb):∃J h,PE X a J/\PE X b h/\∀{σ:L2.St}{H F:Hp}{ρ ρ':List Sl}{j:D×D}{R:V->V->Hp->Prop},GS X.K F ρ σ H->fH (isVar pa) (HH.ev c pa) (isVar pb) (HH.ev c pb) ρ=.ok j ρ'->(∀v u z m,aZ X.K F ρ σ H z ρ' σ m->bR X.K z m v j.1->bR X.K z m u j.2->R v u m)->J σ H λx A=>h σ A λy B=>R x y B:=by obtain⟨h,o,q⟩:=N.dY;cases hv:isVar pa with|none=>refine⟨_,h,I.ev,o,λ{σ H F ρ ρ' j R}g e k=>?_⟩;obtain⟨x,C,t,e⟩:=aa e;obtain⟨y,ρ2,f,e⟩:=aa e;cases e;obtain⟨r,L,t,E⟩:=aa t;cases E;refine⟨F,ρ,r,_,g,t,λv z m s O=>?_⟩;obtain⟨M,s1,_,Q⟩:=s.cQ O;refine q s1.gs f λu F2 B s2 G=>?_;exact k v u F2 B (s1.trans s2) (.inl (Q.mono s2.bI)) G|some i=>refine⟨_,h,I.var i hv,o,λ{σ H F ρ ρ' j R}g e k=>?_⟩;obtain⟨x0,U,E,e⟩:=aa e;obtain⟨W,Y⟩:=aJ E;subst Y;obtain⟨y,C,t,e⟩:=aa e;obtain⟨x,ρ2,f,e⟩:=aa e;cases e;have Z:=aJ f;clear f;obtain⟨f,e3⟩:=Z;subst e3;obtain⟨v,h1,_⟩:=g.pk W;refine⟨v,h1,q g t λu M A s1 G=>?_⟩;obtain⟨v',w,pv⟩:=s1.gs.pk f;rw[h1]at w;cases w;exact k v u M A s1 pv G
inductive rD(K:PySem.W.Frag)(f:D->D->Option R)(x y:V)(H:Hp)(Q:VK):Prop where|mk(F:Hp)(d e:D)(r:R)(sm:au F H)(px:bR K F H x d)(py:bR K F H y e)(he:f d e=some r)(k:∀v F' H',Ext F H F' H'->cj K F' H' H v r->Q v H')
inductive rD1(K:PySem.W.Frag)(f:D->Option R)(x:V)(H:Hp)(Q:VK):Prop where|mk(F:Hp)(d:D)(r:R)(sm:au F H)(px:bR K F H x d)(he:f d=some r)(k:∀v F' H',Ext F H F' H'->cj K F' H' H v r->Q v H')
theorem oX{E:Expr}{f:D->D->Option R}{q:P}(y:∀{o t},PE X a o->PE X b t->PE X E (G5 (rD X.K f) o t))(z:SX X c a pa)(A:SX X c b pb)(B:∀ρ,HH.ev c q ρ=(HH.fH (isVar pa) (HH.ev c pa) (isVar pb) (HH.ev c pb) ρ).bind λj ρ=>lift (f j.1 j.2) ρ)(C:isVar q=none):SX X c E q:=by obtain⟨o,t,h1,G,I⟩:=z.fH A;refine⟨dO (y h1 G) ?_,λi h=>by rw[C]at h;cases h⟩;rintro σ H Q⟨F,ρ,r,ρ',g,e,k⟩;rw[B]at e;obtain⟨j,J,L,m⟩:=aa e;have M:=aJ m;clear m;obtain⟨m,N⟩:=M;subst N;refine I g L λv u O H' s U W=>⟨O,j.1,j.2,r,s.gs.sub,U,W,m,λw F2 Y x Z=>?_⟩;exact k w F2 Y (s.trans (x.stp s.gs)) (.later s (Z.sY s.gs))
theorem GS.freeze{b:Bool}(g:GS K F ρ σ H)(e:ρ[i]?=some (.own b ds)):∃v A,σ[i]?=some (some v)/\aZ K F ρ σ H A (ρ.set i (.val b (.lst ds))) σ H/\Rep K A v (.lst ds):=by
 obtain⟨a,xs,h1,E,G,I⟩:=g.mV i _ ds e rfl;have w:i<ρ.length:=(fJ e).1;have y:au F (upd F a (.lst xs)):=au.cz G;have B:Rep K (upd F a (.lst xs)) (.ref a) (.lst ds):=by rw[Rep];exact⟨a,xs,rfl,cR.of aH,I.mono y⟩
 have J:Own ρ σ a:=⟨i,⟨_,_,e,rfl⟩,h1⟩;have r:∀j x,bf (ρ.set i (.val b (.lst ds))) σ j x->bf ρ σ j x/\j≠i:=λj x⟨⟨s,h,m,t⟩,z⟩=>by
  by_cases f:j=i;.subst f;rw[getElem?_set_self w]at m;cases m;cases t
  .rw[dB f]at m;exact⟨⟨⟨s,h,m,t⟩,z⟩,f⟩
 refine⟨.ref a,upd F a (.lst xs),h1,⟨⟨λx o q=>?_,by simpa using g.len,λj L d q=>?_,λj s h q u=>?_,λj k x q u=>g.dis j k x (r j x q).1 (r k x u).1⟩,y,λx n C=>?_,λ_ _ q _=>q,λx⟨j,q⟩=>.inl ⟨j,(r j x q).1⟩,by simp,λj s q l=>⟨rfl,?_⟩⟩,B⟩
 . by_cases hx:x=a;.subst hx;rw[aH]at q;cases q;exact E
   .rw[ao hx]at q;exact g.sub x o q
 . by_cases f:j=i;.subst f;rw[getElem?_set_self w]at q;cases q;exact⟨_,h1,B⟩
   .rw[dB f]at q;obtain⟨v,m,t⟩:=g.val j L d q;exact⟨v,m,t.mono y⟩
 . by_cases f:j=i;.subst f;rw[getElem?_set_self w]at q;cases q;cases u
   . rw[dB f]at q;obtain⟨x,ys,m,t,z,M⟩:=g.own j s h q u;have hx:x≠a:=by rintro rfl;exact f (g.dis j i x ⟨⟨s,h,q,u⟩,m⟩ ⟨⟨_,_,e,rfl⟩,h1⟩)
     exact⟨x,ys,m,t,by rw[ao hx];exact z,M.mono y⟩
 . by_cases hx:x=a;.subst hx;exact .inl J
   .rw[ao hx]at C;exact absurd n C
 . by_cases f:j=i;.subst f;rw[e]at q;cases q;refine⟨_,getElem?_set_self w,?_⟩;cases b with|true=>exact .inr ⟨_,rfl⟩|false=>cases l
   .exact⟨s,by rw[dB f];exact q,.refl s⟩
theorem GS.yP{m:Dc}(g:GS K F ρ σ H)(e:ρ[i]?=some (.m8 m)):∃a,σ[i]?=some (some (.ref a))/\H a=some m.ho/\∀t,aZ K F ρ σ H (upd F a (.cQ t m.ho)) (ρ.set i (.val false (.cD m))) σ (upd H a (.cQ t m.ho))/\Rep K (upd F a (.cQ t m.ho)) (.ref a) (.cD m):=by
 obtain⟨a,I,h1,J,L,M⟩:=g.own i _ _ e rfl;cases(show I=m.ho from M);have z:i<ρ.length:=(fJ e).1;refine⟨a,h1,J,λt=>?_⟩;have A:au F (upd F a (.cQ t m.ho)):=au.cz L;have C:Rep K (upd F a (.cQ t m.ho)) (.ref a) (.cD m):=by rw[Rep];exact⟨a,t,rfl,aH⟩
 have E:Own ρ σ a:=⟨i,⟨_,_,e,rfl⟩,h1⟩;have u:∀j x,bf (ρ.set i (.val false (.cD m))) σ j x->bf ρ σ j x/\j≠i:=λj x⟨⟨s,h,r,w⟩,B⟩=>by
  by_cases f:j=i;.subst f;rw[getElem?_set_self z]at r;cases r;cases w
  .rw[dB f]at r;exact⟨⟨⟨s,h,r,w⟩,B⟩,f⟩
 refine⟨⟨⟨λx o q=>?_,by simpa using g.len,λj N d q=>?_,λj s h q y=>?_,λj k x q y=>g.dis j k x (u j x q).1 (u k x y).1⟩,A,λx n G=>?_,λx o q n=>?_,λx⟨j,q⟩=>.inl ⟨j,(u j x q).1⟩,by simp,λj s q l=>⟨rfl,?_⟩⟩,C⟩
 . by_cases hx:x=a;.subst hx;rw[aH]at q ⊢;exact q
   .rw[ao hx]at q ⊢;exact g.sub x o q
 . by_cases f:j=i;.subst f;rw[getElem?_set_self z]at q;cases q;exact⟨_,h1,C⟩
   .rw[dB f]at q;obtain⟨v,r,w⟩:=g.val j N d q;exact⟨v,r,w.mono A⟩
 . by_cases f:j=i;.subst f;rw[getElem?_set_self z]at q;cases q;cases y
   . rw[dB f]at q;obtain⟨x,ys,r,w,B,O⟩:=g.own j s h q y;have hx:x≠a:=by rintro rfl;exact f (g.dis j i x ⟨⟨s,h,q,y⟩,r⟩ ⟨⟨_,_,e,rfl⟩,h1⟩)
     exact⟨x,ys,r,by rw[ao hx];exact w,by rw[ao hx];exact B,O.mono A⟩
 . by_cases hx:x=a;.subst hx;exact .inl E
   .rw[ao hx]at G;exact absurd n G
 . have hx:x≠a:=by rintro rfl;exact n E
   rw[ao hx];exact q
 . by_cases f:j=i;.subst f;rw[e]at q;cases q;cases l
   .exact⟨s,by rw[dB f];exact q,.refl s⟩
theorem GS.yJ{f:List (Int×D)}(g:GS K F ρ σ H)(e:ρ[i]?=some (.m9 f)):∃a vs,σ[i]?=some (some (.ref a))/\H a=some (uz (f.map (·.1)) vs)/\∀t,aZ K F ρ σ H (upd F a (.cQ t (uz (f.map (·.1)) vs))) (ρ.set i (.val false (.dv (f.map (·.1)) (f.map (·.2))))) σ (upd H a (.cQ t (uz (f.map (·.1)) vs)))/\Rep K (upd F a (.cQ t (uz (f.map (·.1)) vs))) (.ref a) (.dv (f.map (·.1)) (f.map (·.2))):=by
 obtain⟨a,Q,h1,I,J,L⟩:=g.own i _ _ e rfl;obtain⟨vs,rfl,M⟩:=L;have A:i<ρ.length:=(fJ e).1;refine⟨a,vs,h1,I,λt=>?_⟩;have z:au F (upd F a (.cQ t (uz (f.map (·.1)) vs))):=au.cz J;have C:Rep K (upd F a (.cQ t (uz (f.map (·.1)) vs))) (.ref a) (.dv (f.map (·.1)) (f.map (·.2))):=by rw[Rep];exact⟨a,t,vs,rfl,aH,M.mono z,by simp⟩
 have E:Own ρ σ a:=⟨i,⟨_,_,e,rfl⟩,h1⟩;have u:∀j x,bf (ρ.set i (.val false (.dv (f.map (·.1)) (f.map (·.2))))) σ j x->bf ρ σ j x/\j≠i:=λj x⟨⟨s,m,r,w⟩,B⟩=>by
  by_cases h:j=i;.subst h;rw[getElem?_set_self A]at r;cases r;cases w
  .rw[dB h]at r;exact⟨⟨⟨s,m,r,w⟩,B⟩,h⟩
 refine⟨⟨⟨λx o q=>?_,by simpa using g.len,λj N d q=>?_,λj s m q y=>?_,λj k x q y=>g.dis j k x (u j x q).1 (u k x y).1⟩,z,λx n G=>?_,λx o q n=>?_,λx⟨j,q⟩=>.inl ⟨j,(u j x q).1⟩,by simp,λj s q l=>⟨rfl,?_⟩⟩,C⟩
 . by_cases hx:x=a;.subst hx;rw[aH]at q ⊢;exact q
   .rw[ao hx]at q ⊢;exact g.sub x o q
 . by_cases h:j=i;.subst h;rw[getElem?_set_self A]at q;cases q;exact⟨_,h1,C⟩
   .rw[dB h]at q;obtain⟨v,r,w⟩:=g.val j N d q;exact⟨v,r,w.mono z⟩
 . by_cases h:j=i;.subst h;rw[getElem?_set_self A]at q;cases q;cases y
   . rw[dB h]at q;obtain⟨x,ys,r,w,B,O⟩:=g.own j s m q y;have hx:x≠a:=by rintro rfl;exact h (g.dis j i x ⟨⟨s,m,q,y⟩,r⟩ ⟨⟨_,_,e,rfl⟩,h1⟩)
     exact⟨x,ys,r,by rw[ao hx];exact w,by rw[ao hx];exact B,O.mono z⟩
 . by_cases hx:x=a;.subst hx;exact .inl E
   .rw[ao hx]at G;exact absurd n G
 . have hx:x≠a:=by rintro rfl;exact n E
   rw[ao hx];exact q
 . by_cases h:j=i;.subst h;rw[e]at q;cases q;cases l
   .exact⟨s,by rw[dB h];exact q,.refl s⟩
theorem Inv.Ju{X:Cx}{f:List (Addr×Obj)}{s:Shared}{a:Addr}{g:List (Key×V)}(I:L2.Inv X f σ H s)(h:H a=some (.dK g)):∃o,L2.Inv X f σ (upd H a (.cQ o (.dK g))) s:=by obtain⟨k,m,vs,r,j⟩:=(show bO X.prog X.w H s.heap a (.dK g)from I.hok a _ h);obtain⟨o,ho,_⟩:=j.typeIs;exact⟨o,I.write (h':=s.heap) (t':=s.toks) (by rw[h];exact trivial) (.inl rfl) (λb u _ e=>e) ⟨o,ho⟩ ⟨ho,k,m,vs,r,j⟩⟩
theorem BR(B:X.N[i]?=some x)(C:vM X.env.scope x)(hd:(x==("__debug__":Str))=false:=by decide)(w:(x==("__classdict__":Str))=false:=by decide):SX X c (.Name x pos) (.var i):=by
 have h:=gK (X:=X) (pos:=pos) B C hd w;refine⟨?_,λj E=>by cases E;exact h⟩;rintro f s σ H Q I⟨F,ρ,r,ρ',g,e,k⟩;rw[HH.E1]at e;split at e;.rename_i b d q;cases e;obtain⟨v,h1,m⟩:=g.val i b d q;exact h f s σ H Q I ⟨v,h1,k v F H (.refl g) m⟩
 .rename_i b ds q;cases e;obtain⟨v,G,h1,m,t⟩:=g.freeze q;exact h f s σ H Q I ⟨v,h1,k v G H m t⟩
 .rename_i y q;cases e;obtain⟨a,h1,m,t⟩:=g.yP q;refine cF (h f s σ H (λv z=>v=.ref a/\z=H) I ⟨.ref a,h1,rfl,rfl⟩) λu s1⟨v,H1,I1,r1,e1,e2⟩=>?_;subst e1 e2;obtain⟨o,A⟩:=Inv.Ju I1 m;exact⟨.ref a,_,A,r1,k _ _ _ (t o).1 (t o).2⟩
 .rename_i y q;cases e;obtain⟨a,vs,h1,m,t⟩:=g.yJ q;refine cF (h f s σ H (λv z=>v=.ref a/\z=H) I ⟨.ref a,h1,rfl,rfl⟩) λu s1⟨v,H1,I1,r1,e1,e2⟩=>?_;subst e1 e2;obtain⟨o,A⟩:=Inv.Ju I1 m;exact⟨.ref a,_,A,r1,k _ _ _ (t o).1 (t o).2⟩
 .cases e
theorem qt{d:D}(h:PE X e (tC v))(hr:∀F,Rep X.K F v d):SX X c e (.con d):=⟨dO h λσ H Q⟨F,ρ,r,ρ',g,e,k⟩=>by rw[HH.E2]at e;cases e;exact k v F H (.refl g) (hr F),λi h=>by cases h⟩
theorem aj{i j}:SX X c (.Constant (.int i) j pos) (.con (.int i)):=qt gP λF=>by rw[Rep]
theorem lu{i j}:SX X c (.Constant (.bool i) j pos) (.con (.bl i)):=qt Ip λF=>by rw[Rep]
theorem vA{j}:SX X c (.Constant .none j pos) (.con .non):=qt Ce λF=>by rw[Rep]
theorem fZ{i:Int}{t:Tok}(f:Gl X x)(j:X.mg x=some (.int i t))(hd:(x==("__debug__":Str))=false:=by decide):SX X c (.Name x pos) (.glob x (.int i)):=⟨dO (xT (v:=.int i) f j ⟨t,rfl⟩ hd) λσ H Q⟨F,ρ,r,ρ',g,e,k⟩=>by rw[HH.E3]at e;cases e;exact k (.int i) F H (.refl g) (show Rep X.K F (.int i) (.int i)by rw[Rep]),λi h=>by cases h⟩
theorem bR.int{K:PySem.W.Frag}{F H:Hp}{v:V}{i:Int}(h:bR K F H v (.int i)):v=.int i:=by
 rcases h with h|⟨_,_,_,_,_,_,h⟩;.rw[Rep]at h;exact h
 .cases h
theorem bR.bl{K:PySem.W.Frag}{F H:Hp}{v:V}{i:Bool}(h:bR K F H v (.bl i)):v=.bl i:=by
 rcases h with h|⟨_,_,_,_,_,_,h⟩;.rw[Rep]at h;exact h
 .cases h
theorem bR.str{K:PySem.W.Frag}{F H:Hp}{v:V}{i:Str}(h:bR K F H v (.str i)):v=.str i:=by
 rcases h with h|⟨_,_,_,_,_,_,h⟩;.rw[Rep]at h;exact h
 .cases h
theorem bR.non{K:PySem.W.Frag}{F H:Hp}{v:V}(h:bR K F H v .non):v=.non:=by
 rcases h with h|⟨_,_,_,_,_,_,h⟩;.rw[Rep]at h;exact h
 .cases h
theorem bR.tup{K:PySem.W.Frag}{F H:Hp}{v:V}{ds:List D}(s:au F H)(h:bR K F H v (.tup ds)):∃a xs,v=.ref a/\eY K H a xs/\az K F xs ds/\Rep K F v (.tup ds):=by
 rcases h with h|⟨_,_,_,_,_,_,h⟩;.have h':=h;rw[Rep]at h;obtain⟨a,xs,rfl,h1,f⟩:=h;exact⟨a,xs,rfl,au.dR s h1,f,h'⟩
 .cases h
theorem bR.lst{K:PySem.W.Frag}{F H:Hp}{v:V}{ds:List D}(s:au F H)(h:bR K F H v (.lst ds)):∃a xs,v=.ref a/\cR K H a xs/\az K F xs ds:=by
 rcases h with h|⟨a,xs,es,h1,f,g,h⟩;.rw[Rep]at h;obtain⟨a,xs,rfl,h1,f⟩:=h;exact⟨a,xs,rfl,s.seq h1,f⟩
 .cases h;exact⟨a,xs,h1,cR.of f,g⟩
theorem bR.cD{m:Dc}(s:au F H)(h:bR K F H v (.cD m)):∃a o,v=.ref a/\H a=some (.cQ o m.ho):=by
 rcases h with h|⟨_,_,_,_,_,_,h⟩;.rw[Rep]at h;obtain⟨a,o,rfl,h⟩:=h;exact⟨a,o,rfl,s _ _ h⟩
 .cases h
theorem wg{X:Cx}{f:List (Addr×Obj)}{s:Shared}{a:Addr}{j:Obj}{m:Dc}(I:L2.Inv X f σ H s)(h:H a=some (.cQ j m.ho)):∃o,s.heap.get? a=some o/\o.cls=.type "dict":=by have z:=(show bO X.prog X.w H s.heap a (.cQ j m.ho)from I.hok a _ h).2;cases m with|k g=>obtain⟨_,_,vs,_,d2⟩:=(show bO X.prog X.w H s.heap a (.dK _)from z);exact d2.typeIs|t g=>obtain⟨_,_,xs,_,o,es,r,h1,q,_⟩:=(show bO X.prog X.w H s.heap a (.dT _)from z);exact⟨o,h1,q.1⟩
theorem bR.dv{f:List Int}(s:au F H)(h:bR K F H v (.dv f ds)):∃a o vs,v=.ref a/\H a=some (.cQ o (uz f vs))/\az K F vs ds/\f.length=ds.length:=by
 rcases h with h|⟨_,_,_,_,_,_,h⟩;.rw[Rep]at h;obtain⟨a,o,vs,rfl,h,h1,g⟩:=h;exact⟨a,o,vs,rfl,s _ _ h,h1,g⟩
 .cases h
theorem vW{X:Cx}{f:List (Addr×Obj)}{s:Shared}{a:Addr}{g:Obj}{j:List Int}(I:L2.Inv X f σ H s)(h:H a=some (.cQ g (uz j vs))):∃o,s.heap.get? a=some o/\o.cls=.type "dict":=by have z:=(show bO X.prog X.w H s.heap a (.cQ g (uz j vs))from I.hok a _ h).2;obtain⟨_,_,vs,_,d2⟩:=(show bO X.prog X.w H s.heap a (.dK _)from z);exact d2.typeIs
theorem bR.items{d:D}(s:au F H)(h:bR K F H v d)(e:items d=some ds):∃a xs,v=.ref a/\(cR K H a xs\/eY K H a xs)/\az K F xs ds:=by cases d with|tup es=>cases e;obtain⟨a,xs,h1,f,g,_⟩:=h.tup s;exact⟨a,xs,h1,.inr f,g⟩|lst es=>cases e;obtain⟨a,xs,h1,f,g⟩:=h.lst s;exact⟨a,xs,h1,.inl f,g⟩|_=>cases e
theorem cj.dF{Q:VK}{d:D}(s:au F H)(r:Rep K F v d)(k:∀v g f,Ext F H g f->cj K g f H v (.val d)->Q v f):Q v H:=k v F H (.refl s) r
theorem cT(i:Int):Rep K F (.int i) (.int i):=by rw[Rep]
theorem eX(i:Bool):Rep K F (.bl i) (.bl i):=by rw[Rep]
theorem Bw(i:Str):Rep K F (.str i) (.str i):=by rw[Rep]
theorem CG:Rep K F .non .non:=by rw[Rep]
theorem xF{Q:VK}{xs:List V}{p:Addr}(s:au F H)(r:az K F xs ds)(f:H p=none)(k:∀v h g,Ext F H h g->cj K h g H v (.own ds)->Q v g):Q (.ref p) (upd H p (.lst xs)):=by
 have j:F p=none:=by cases q:F p with|none=>rfl|some o=>rw[s p o q]at f;cases f
 exact k _ F _ ⟨au.cz f,.refl _,s.trans (au.cz f),λ_ a b=>absurd a b⟩ ⟨p,xs,rfl,aH,j,r,f⟩
theorem uK{Q:VK}{xs:List V}{p:Addr}(s:au F H)(r:az K F xs ds)(g:H p=none)(k:∀v j h,Ext F H j h->cj K j h H v (.val (.tup ds))->Q v h):Q (.ref p) (upd H p (.tup xs)):=by
 have u:F p=none:=by cases q:F p with|none=>rfl|some o=>rw[s p o q]at g;cases g
 have m:au F (upd F p (.tup xs)):=au.cz u;refine k _ (upd F p (.tup xs)) _ ⟨au.cz g,m,λb o e=>?_,λb n t=>?_⟩ ?_
 . by_cases f:b=p;.subst f;rw[aH]at e ⊢;exact e
   .rw[ao f]at e ⊢;exact s b o e
 . by_cases f:b=p;.subst f;exact jw g
   .rw[ao f]at t;exact absurd n t
 .show Rep K _ _ (.tup ds);rw[Rep];exact⟨p,xs,rfl,eY.of aH,r.mono m⟩
end
theorem kZ(k:Int)(t:Tok)(l:Addr)(a:Array Value)(n:Nat)(b:Option Addr)(c:Array (Option Value)):Meets (Builtin.«int.__rmul__» ⟨[.int k t,.ref l],[]⟩) (λ_ R s=>s.heap.get? l=some ⟨.type "list",b,.seq a n,c⟩/\R (.ok (.ret Value.notImplemented)) s):=.of_wp λprog w A R s h=>by obtain⟨e,g,d,f,os⟩:=s;obtain⟨j,h⟩:=h;wp_walk;exact⟨_,rfl,h⟩
theorem tK(l:Addr)(a:Array Value)(n:Nat)(b:Option Addr)(c:Array (Option Value))(k:Int)(t:Tok)(h0:¬(!Builtin.List.listFitsIndex k)=true)(h1:¬a.size*k.toNat>(2^63-1)/8)(e:¬listTooLong (a.size*k.toNat)=true):Meets (Builtin.«list.__mul__» ⟨[.ref l,.int k t],[]⟩) (λ_ R s=>s.heap.get? l=some ⟨.type "list",b,.seq a n,c⟩/\R (.ok (.ret (Value.ref s.heap.objs.size))) {s with heap:=s.heap.push {cls:=.type "list",data:=.seq (foldl (·++·) #[] (replicate (if a.isEmpty=true then 0 else k.toNat) a))}}):=.of_wp λprog w A R s h=>by obtain⟨m,g,d,o,os⟩:=s;obtain⟨f,h⟩:=h;have j:=AutoListH.joined_fits e;wp_walk using wpAny_loadPart' f;refine wpAny_ite_false (decide_eq_false (Nat.not_lt.mpr j)) ?_;wp_walk;exact⟨_,rfl,h⟩
section
variable{X:Cx}{c:Call}{e a b d:Expr}{p pa pb pd:P}{pos:Pos}
theorem xq:cX X (binaryOp .Add) (λx y H Q=>∃l b xs o,x=.ref l/\y=.ref b/\cR X.K H l xs/\cR X.K H b o/\xs.length+o.length<=sizeLine/\∀p,H p=none->Q (.ref p) (upd H p (.lst (xs++o)))):=by
 intro z s σ H x y v u Q I E G h;obtain⟨l,b,xs,o,rfl,rfl,J,L,A,q⟩:=h;cases E;cases G;obtain⟨g,r,M,_⟩:=I.list J;obtain⟨f,B,N,_⟩:=I.list L;obtain⟨⟨cls,O,data,U⟩,ho,hc,n,hd⟩:=id M.isList;obtain⟨⟨C,t,data2,w⟩,j,k,W,m⟩:=id N.isList;simp only at hc hd k m;subst hc hd k m;have e:g.toArray++f.toArray=(g++f).toArray:=by simp
 refine concat_meets ⟨_,ho,rfl⟩ ⟨_,j,rfl⟩ noFill_list_add seq_list_add PySem.F.slot_list_add PySem.F.entry_list_add (PySem.F.args_list_add_2 _ _) (list_addW l b g.toArray f.toArray n W O t U w (by simp only[size_toArray];rw[<-r.length,<-B.length];exact A)) ⟨ho,j,?_⟩;rw[e];exact⟨.ref _,_,I.CW (t':=s.toks) (r.append B) (by rw[length_append];exact A),rfl,q _ I.fresh⟩
theorem uT:cX X (binaryOp .Add) (λx y H Q=>∃a b ys,x=.ref a/\y=.ref b/\eY X.K H a []/\eY X.K H b ys/\Q (.ref b) H):=by intro t s σ H x y v u Q I z A h;obtain⟨a,b,ys,rfl,rfl,B,C,q⟩:=h;cases z;cases A;obtain⟨m,r1,E,_⟩:=I.tuple B;obtain⟨f,O,G,_⟩:=I.tuple C;obtain⟨⟨cls,J,data,L⟩,ho,hc,n,hd⟩:=id E;obtain⟨⟨w,o,data2,r⟩,g,j,M,k⟩:=id G;simp only at hc hd j k;subst hc hd j k;have N:m=[]:=r1.jn.mpr rfl;subst N;exact concat_meets ⟨_,ho,rfl⟩ ⟨_,g,rfl⟩ noFill_tuple_add seq_tuple_add slot_tuple_add entry_tuple_add (args_tuple_add_2 _ _) (tuple_addW0 a b _ f.toArray n M J o L r (by simp)) ⟨ho,g,⟨.ref b,H,I,rfl,q⟩⟩
theorem bM:cX X (binaryOp .Add) (rD X.K (ni .add)):=by
 rintro f s σ H x y v u Q I h j⟨F,d,e,r,g,t,w,he,k⟩;replace he:km d e=some r:=he;unfold km at he;split at he;.cases he;rw[t.int]at h;rw[w.int]at j;exact Bb f s σ H _ _ v u Q I h j ⟨_,_,rfl,rfl,cj.dF g (cT _) k⟩
 .rename_i xs ys;obtain⟨q,he⟩:=bB he;subst he;obtain⟨a,vs,rfl,z,m⟩:=t.lst g;obtain⟨b,A,rfl,B,o⟩:=w.lst g;exact xq f s σ H _ _ v u Q I h j ⟨a,b,vs,A,rfl,rfl,z,B,by rw[m.length,o.length];exact q,λp C=>xF g (m.append o) C k⟩
 . rename_i xs ys;obtain⟨q,he⟩:=bB he;subst he;obtain⟨a,vs,rfl,z,m,G⟩:=t.tup g;obtain⟨b,A,rfl,B,o,J⟩:=w.tup g;by_cases h0:vs=[]
   . subst h0;have E:xs=[]:=by have:=m.length;exact List.eq_nil_of_length_eq_zero this.symm
     subst E;exact uT f s σ H _ _ v u Q I h j ⟨a,b,A,rfl,rfl,z,B,cj.dF g J k⟩
   . refine yh f s σ H _ _ v u Q I h j ⟨a,b,vs,A,rfl,rfl,z,B,h0,by rw[m.length,o.length];exact q,λe=>?_,λ_ p C=>uK g (m.append o) C k⟩;subst e;have E:ys=[]:=by have:=o.length;exact List.eq_nil_of_length_eq_zero this.symm
     subst E;rw[append_nil]at k;exact cj.dF g G k
 .rename_i L M;obtain⟨q,he⟩:=bB he;subst he;rw[t.str]at h;rw[w.str]at j;exact pW f s σ H _ _ v u Q I h j ⟨_,_,rfl,rfl,q,cj.dF g (Bw _) k⟩
 .cases he
theorem gw:cX X (binaryOp .Sub) (rD X.K (ni .sub)):=by
 rintro f s σ H x y v u Q I g h⟨F,d,e,r,j,m,o,he,k⟩;replace he:nJ d e=some r:=he;unfold nJ at he;split at he;.cases he;rw[m.int]at g;rw[o.int]at h;exact DR f s σ H _ _ v u Q I g h ⟨_,_,rfl,rfl,cj.dF j (cT _) k⟩
 .cases he
theorem xj:cX X (binaryOp .Mult) (λx y H Q=>∃l k xs,x=.ref l/\y=.int k/\cR X.K H l xs/\-(2^63)<=k/\k<2^63/\xs.length*k.toNat<=sizeLine/\∀p,H p=none->Q (.ref p) (upd H p (.lst (replicate k.toNat xs).flatten))):=by
 intro o s σ H x y v u Q I B C h;obtain⟨l,k,xs,rfl,rfl,E,h1,G,w,q⟩:=h;cases B;obtain⟨t,rfl⟩:=C;obtain⟨f,r,J,_⟩:=I.list E;obtain⟨⟨cls,z,data,A⟩,ho,hc,n,hd⟩:=id J.isList;simp only at hc hd;subst hc hd;have g:f.toArray.size*k.toNat<=sizeLine:=by rw[size_toArray,<-r.length];exact w
 have L:¬ f.toArray.size*k.toNat>(2^63-1)/8:=by
  have:(sizeLine:Nat)<=(2^63-1)/8:=by decide
  omega
 have j:foldl (·++·) #[] (replicate (if f.toArray.isEmpty=true then 0 else k.toNat) f.toArray)=(replicate k.toNat f).flatten.toArray:=by
  have f0:∀m:Nat,foldl (·++·) #[] (replicate m f.toArray)=(replicate m f).flatten.toArray:=λm=>by have:=foldl_rep f m [];rw[nil_append]at this;exact this
  rw[f0];cases f with|nil=>simp|cons a N=>rw[if_neg (by simp)]
 refine wpAny_binaryOp_repeat_ref (T:="list") (U:="int") (by decide) ⟨_,ho,rfl⟩ (λM=>typeIs_int M k t) noFill_list_mul F.fills_int_mul F.slot_int_rmul repeat_list F.slot_int_index.lookup ?_;refine call_meets F.slot_int_rmul (typeIs_int s k t) F.entry_int_rmul (F.args_int_rmul_2 _ _) (kZ k t l f.toArray n z A) ⟨ho,rfl,⟨_,ho,rfl⟩,?_⟩;refine call_meets F.slot_list_mul ⟨_,ho,rfl⟩ F.entry_list_mul (F.args_list_mul_2 _ _) (tK l f.toArray n z A k t (by rw[fitsIndex_both h1 G];exact Bool.false_ne_true) L (by rw[vK g];exact Bool.false_ne_true)) ⟨ho,?_⟩;rw[j];exact⟨.ref _,_,I.CW (t':=s.toks) (r.rep k.toNat) (by rw[len_rep,Nat.mul_comm];exact w),rfl,q _ I.fresh⟩
theorem iT:fillsNumberSlot (.type "tuple") "mul"=pure false:=PySem.fillsNumberSlot_seq (id:="tuple.__mul__") (r:=some (.builtin "tuple.__rmul__")) slot_tuple_mul.lookup (by decide+kernel) PySem.F.slot_tuple_rmul.lookup (by decide+kernel)
theorem mU:seqRepeat? (.type "tuple")=pure (some (.builtin "tuple.__mul__")):=by unfold seqRepeat?;rw[PySem.seqSlot_of (T:="tuple") (name:="__mul__") (id:="tuple.__mul__") slot_tuple_mul.lookup (by decide+kernel),PySem.seqSlot_of (T:="tuple") (name:="__rmul__") (id:="tuple.__rmul__") PySem.F.slot_tuple_rmul.lookup (by decide+kernel)];rfl
theorem kj(k:Int)(t:Tok)(l:Addr)(f:Array Value)(n:Nat)(j:Option Addr)(m:Array (Option Value)):Meets (Builtin.«int.__rmul__» ⟨[.int k t,.ref l],[]⟩) (λ_ R s=>s.heap.get? l=some ⟨.type "tuple",j,.seq f n,m⟩/\R (.ok (.ret Value.notImplemented)) s):=.of_wp λprog w A R s h=>by obtain⟨o,g,d,q,os⟩:=s;obtain⟨r,h⟩:=h;wp_walk;exact⟨_,rfl,h⟩
theorem pq(l:Addr)(f:Array Value)(n:Nat)(u:Option Addr)(y:Array (Option Value))(k:Int)(t:Tok)(h0:0<=k)(h1:k<2^63)(o:f.size*k.toNat<=sizeLine)(z:0<f.size):Meets (Builtin.«tuple.__mul__» ⟨[.ref l,.int k t],[]⟩) (λ_ R s=>s.heap.get? l=some ⟨.type "tuple",u,.seq f n,y⟩/\(k=1->R (.ok (.ret (Value.ref l))) s)/\(k≠1->R (.ok (.ret (Value.ref s.heap.objs.size))) {s with heap:=s.heap.push {cls:=.type "tuple",data:=.seq (foldl (·++·) #[] (replicate k.toNat f))}})):=.of_wp λprog w A R s h=>by
  obtain⟨B,g,d,L,os⟩:=s;obtain⟨m,C,E⟩:=h;have r:f.isEmpty=false:=by cases e:f.isEmpty with|false=>rfl|true=>rw[Array.isEmpty_iff_size_eq_zero]at e;omega
  show wpAny _ _ (asIndex (.int k t)>>=_) _ _ _;wp_walk using wpAny_loadPart' m;have G:IsTup B l f:=⟨_,m,rfl,n,rfl⟩;rw[if_neg (by simp;omega)];refine wpAny_bind (PyProof.Rows.tupleItemsOf_ G ?_);try dsimp only
  by_cases j:k=1;.rw[if_pos (by simp[j])];wp_walk using wpAny_loadPart' m;exact⟨_,rfl,C j⟩
  . have q:=E j;rw[if_neg (by simp[r,j])];by_cases I:k=0;.subst I;rw[if_pos (by simp)];unfold tupleExact;refine wpAny_bind (wpAny_newObj_type ?_);exact wpAny_pure ⟨_,rfl,q⟩
    . have M:(f.size:Int)*k<=sizeLine:=by
       have:((f.size*k.toNat:Nat):Int)<=(sizeLine:Nat):=by exact_mod_cast o
       rw[Int.natCast_mul,show((k.toNat:Nat):Int)=k by omega]at this;exact this
      have J:(sizeLine:Int)<=(2^63-1)/8:=by decide
      rw[if_neg (by simp[r];omega),if_neg (by omega),if_neg (by simp[Builtin.Tuple.tupleTooMany];omega)];unfold tupleExact;refine wpAny_bind (wpAny_newObj_type ?_ ?_);.exact wpAny_pure ⟨_,rfl,q⟩
      .have:=foldl_rep f.toList k.toNat [];rw[nil_append,show f.toList.toArray=f by simp]at this;show(foldl (·++·) #[] (replicate k.toNat f)).size<=sizeLine;rw[show(#[]:Array Value)=([]:List Value).toArray from rfl,this,size_toArray,len_rep,length_toList,Nat.mul_comm];exact o
theorem xx:cX X (binaryOp .Mult) (λx y H Q=>∃l k xs,x=.ref l/\y=.int k/\eY X.K H l xs/\0<xs.length/\0<=k/\k<2^63/\xs.length*k.toNat<=sizeLine/\(k=1->Q (.ref l) H)/\(k≠1->∀p,H p=none->Q (.ref p) (upd H p (.tup (replicate k.toNat xs).flatten)))):=by
 intro w s σ H x y v u Q I C E h;obtain⟨l,k,xs,rfl,rfl,G,m,h1,J,z,L,M⟩:=h;cases C;obtain⟨t,rfl⟩:=E;obtain⟨f,r,N,_⟩:=I.tuple G;obtain⟨⟨cls,A,data,B⟩,ho,hc,n,hd⟩:=id N;simp only at hc hd;subst hc hd;have g:f.toArray.size*k.toNat<=sizeLine:=by rw[size_toArray,<-r.length];exact z
 have j:foldl (·++·) #[] (replicate k.toNat f.toArray)=(replicate k.toNat f).flatten.toArray:=by have:=foldl_rep f k.toNat [];rw[nil_append]at this;exact this
 refine wpAny_binaryOp_repeat_ref (T:="tuple") (U:="int") (by decide) ⟨_,ho,rfl⟩ (λO=>typeIs_int O k t) iT F.fills_int_mul F.slot_int_rmul mU F.slot_int_index.lookup ?_;refine call_meets F.slot_int_rmul (typeIs_int s k t) F.entry_int_rmul (F.args_int_rmul_2 _ _) (kj k t l f.toArray n A B) ⟨ho,rfl,⟨_,ho,rfl⟩,?_⟩;refine call_meets slot_tuple_mul ⟨_,ho,rfl⟩ PySem.F.entry_tuple_mul (PySem.F.args_tuple_mul_2 _ _) (pq l f.toArray n A B k t h1 J g (by rw[size_toArray,<-r.length];exact m)) ⟨ho,λe=>⟨.ref l,H,I,rfl,L e⟩,λe=>?_⟩;rw[j];refine⟨.ref s.heap.objs.size,_,I.laid (t':=s.toks) (o:=.tup (replicate k.toNat xs).flatten) (λb W q=>dH q) (fO) ?_,rfl,M e _ (I.hok.fresh (fO))⟩;exact⟨by rw[len_rep,Nat.mul_comm];exact z,_,r.rep k.toNat,IsTup.new _ _⟩
theorem iD:cX X (binaryOp .Mult) (rD X.K (ni .mul)):=by
 rintro f s σ H x y v u Q I o g⟨F,d,e,r,h,t,w,he,k⟩;replace he:jA d e=some r:=he;unfold jA at he;split at he;.obtain⟨hc,he⟩:=bB he;subst he;rw[t.int]at o;rw[w.int]at g;exact Dd f s σ H _ _ v u Q I o g ⟨_,_,rfl,rfl,hc,cj.dF h (cT _) k⟩
 . rename_i xs i;obtain⟨⟨h1,q,m⟩,he⟩:=bB he;subst he;obtain⟨a,vs,rfl,z,j⟩:=t.lst h;rw[w.int]at g;have A:i<2^63:=by have B:=Nat.le_mul_of_pos_left i.toNat q;have E:i.toNat<=16777216:=le_trans B m;omega
   exact xj f s σ H _ _ v u Q I o g ⟨a,i,vs,rfl,rfl,z,by omega,A,by rw[j.length];exact m,λp C=>xF h (j.rep i.toNat) C k⟩
 . rename_i xs i;obtain⟨⟨h1,q,m⟩,he⟩:=bB he;subst he;obtain⟨a,vs,rfl,z,j,G⟩:=t.tup h;rw[w.int]at g;have A:i<2^63:=by have B:=Nat.le_mul_of_pos_left i.toNat q;have E:i.toNat<=16777216:=le_trans B m;omega
   refine xx f s σ H _ _ v u Q I o g ⟨a,i,vs,rfl,rfl,z,by rw[j.length];exact q,h1,A,by rw[j.length];exact m,λe=>?_,λe p C=>uK h (j.rep i.toNat) C k⟩;subst e;refine cj.dF h ?_ k;have J:(replicate (1:Int).toNat xs).flatten=xs:=by simp
   rw[J];exact G
 .cases he
theorem nF:cX X (binaryOp .FloorDiv) (rD X.K (ni .fdiv)):=by
 rintro f s σ H x y v u Q I g h⟨F,d,e,r,m,o,q,he,k⟩;replace he:jE d e=some r:=he;unfold jE at he;split at he
 . rename_i i j;obtain⟨⟨h1,z⟩,he⟩:=bB he;subst he;rw[o.int]at g;rw[q.int]at h;obtain⟨t,rfl⟩:=g;obtain⟨t',rfl⟩:=h;have w:j.natAbs.log2<9000:=by
    have:j.natAbs<2^200:=by
     have:(2:Nat)^200=1606938044258990275541962092341162602522202993782792835301376:=by decide
     omega
    have A:=(Nat.log2_lt (by omega)).mpr this;omega
   exact floordiv_int (by omega) (by rw[Int.fdiv_eq_ediv_of_nonneg i (by omega)];exact⟨.int _,H,I.tok _,⟨_,rfl⟩,cj.dF m (cT _) k⟩) (.inl (PyProof.noPylong_of_log2 w))
 .cases he
theorem dZ:cX X (binaryOp .Mod) (rD X.K (ni .mod)):=by
 rintro f s σ H x y v u Q I g h⟨F,d,e,r,j,m,o,he,k⟩;replace he:oG d e=some r:=he;unfold oG at he;split at he;.obtain⟨h1,he⟩:=bB he;subst he;rw[m.int]at g;rw[o.int]at h;exact Cy f s σ H _ _ v u Q I g h ⟨_,_,rfl,rfl,h1,cj.dF j (cT _) k⟩
 .cases he
theorem jr:cX X (binaryOp .Pow) (rD X.K (ni .pow)):=by
 rintro f s σ H x y v u Q I g h⟨F,d,e,r,j,m,o,he,k⟩;replace he:nq d e=some r:=he;unfold nq at he;split at he;.obtain⟨⟨h1,t,q⟩,he⟩:=bB he;subst he;rw[m.int]at g;rw[o.int]at h;exact Bl f s σ H _ _ v u Q I g h ⟨_,_,rfl,rfl,⟨h1,by omega,q⟩,cj.dF j (cT _) k⟩
 .cases he
theorem aF{o:Op}{op:Operator}(ho:cX X (binaryOp op) (rD X.K (ni o)))(f:SX X c a pa)(g:SX X c b pb):SX X c (.BinOp a op b pos) (.bin o pa pb):=oX (λh1 h=>Js ho h1 h) f g (λρ=>rfl) rfl
theorem rQ{f:Int->Int->Bool}(ho:cX X (compareOp op) (wV λi j=>.bl (f i j))):cX X (compareOp op) (rD X.K λx y=>(wX f x y).map λk=>.val (.bl k)):=by
 rintro g s σ H x y v u Q I m o⟨F,d,e,r,q,w,z,he,k⟩;obtain⟨t,h,A⟩:=map_some (show(wX f d e).map _=some r from he);subst A;unfold wX at h;split at h;.cases h;rw[w.int]at m;rw[z.int]at o;exact ho g s σ H _ _ v u Q I m o ⟨_,_,rfl,rfl,cj.dF q (eX _) k⟩
 .cases h
theorem qj{f:Int->Int->Bool}(ho:cX X (compareOp op) (wV λi j=>.bl (f i j))){o:Cm}(hc:cm o=wX f):cX X (compareOp op) (rD X.K (jm o)):=by
 have e:jm o=λx y=>(wX f x y).map λk=>.val (.bl k):=by funext x y;unfold jm;rw[hc]
 rw[e];exact rQ ho
theorem Aq:cX X (compareOp .Lt) (rD X.K λx y=>(wX (λi j=>decide (i<j)) x y).map λk=>.val (.bl k)):=rQ Ht
theorem uJ:cX X (compareOp .LtE) (rD X.K (jm .le)):=qj Io rfl
theorem wy:cX X (compareOp .Gt) (rD X.K (jm .gt)):=qj HR rfl
theorem Cu:cX X (compareOp .GtE) (rD X.K (jm .ge)):=qj JS rfl
theorem sH{d:D}(h:bR K F H v d):decide (v=.non)=fP d:=by cases d with
 |non=>rw[h.non];rfl|bl _=>rw[h.bl];rfl|int _=>rw[h.int];rfl|str _=>rw[h.str];rfl|tup _=>
   rcases h with h|⟨a,_,_,rfl,_⟩;.rw[Rep]at h;obtain⟨a,_,rfl,_⟩:=h;rfl
   .rfl|lst _=>
   rcases h with h|⟨a,_,_,rfl,_⟩;.rw[Rep]at h;obtain⟨a,_,rfl,_⟩:=h;rfl
   .rfl|cD _=>
   rcases h with h|⟨a,_,_,rfl,_⟩;.rw[Rep]at h;obtain⟨a,_,rfl,_⟩:=h;rfl
   .rfl|dv _ _=>
   rcases h with h|⟨a,_,_,rfl,_⟩;.rw[Rep]at h;obtain⟨a,_,_,rfl,_⟩:=h;rfl
   .rfl
theorem v8:cX X (compareOp .Is) (rD X.K (jm .J8)):=by
 rintro f s σ H x y v u Q I h j⟨F,d,e,r,m,o,q,he,k⟩;obtain⟨t,g,w⟩:=map_some (show(K3 false d e).map _=some r from he);subst w;unfold K3 at g;split at g;.cases g;exact Cj f s σ H x y v u Q I h j ⟨q.non,by rw[sH o];exact cj.dF m (eX _) k⟩
 .cases g
theorem j9{o:Cm}(ho:cX X (compareOp op) (rD X.K (jm o)))(f:SX X c a pa)(g:SX X c b pb)(h:behindInMarks op b=false):SX X c (.Compare a [op] [b] pos) (.cmp o pa pb):=oX (λh1 j=>yq ho h1 j h) f g (λρ=>rfl) rfl
theorem vG{o E:Cm}{m:CmpOp}(ho:cX X (compareOp op) (rD X.K (jm o)))(B:cX X (compareOp m) (rD X.K (jm E)))(G:SX X c a pa)(I:SX X c b pb)(hd:SX X c d pd)(J:lastMarks [op,m] [b,d]=false:=by with_unfolding_all rfl):SX X c (.Compare a [op,m] [b,d] pos) (.chain o E pa pb pd):=by
 obtain⟨ta,tb,h1,L,M⟩:=G.fH I;obtain⟨td,N,O⟩:=hd.dY;refine⟨dO (vU ho B h1 L N J) ?_,λi h=>by cases h⟩;rintro σ H Q⟨F,ρ,r,ρ',g,e,k⟩;rw[HH.E10]at e;obtain⟨q,U,W,e⟩:=aa e;obtain⟨t,ρ2,j,e⟩:=aa e;have Y:=aJ j;clear j;obtain⟨j,C⟩:=Y;subst C;have f:flat q.2=true/\cm o q.1 q.2=some t:=by
  split at j;.rename_i Z;exact⟨Z,j⟩
  .cases j
 obtain⟨f,j⟩:=f;refine M g W λv u F' H' s pv A=>⟨F',q.1,q.2,.val (.bl t),s.gs.sub,pv,A,by unfold jm;rw[j];rfl,λw F2 H2 x y=>?_⟩;have s2:=s.trans (x.stp s.gs);have y:Rep X.K F2 w (.bl t):=y;rw[Rep]at y;subst y;refine⟨t,rfl,?_⟩;cases t with|false=>rw[if_neg Bool.false_ne_true]at e ⊢;cases e;exact k _ F2 H2 s2 (show Rep X.K F2 _ _ from eX _)|true=>
   rw[if_pos rfl]at e ⊢;obtain⟨z,ab,C,e⟩:=aa e;obtain⟨e4,e5⟩:=aJ e;subst e5;refine O s2.gs C λw F3 H3 s3 pw=>⟨F3,q.2,z,r,s3.gs.sub,?_,pw,e4,λw' F4 H4 x4 y=>?_⟩
   . have x1:=x.fs;have x2:=s3.bI;rcases A with A|⟨_,_,_,_,_,_,h⟩;.exact .inl ((A.mono x1).mono x2)
     .rw[h]at f;cases f
   .have s4:=s2.trans s3;exact k w' F4 H4 (s4.trans (x4.stp s4.gs)) (.later s4 (y.sY s4.gs))
end
section
variable{X:Cx}{c:Call}{e a b d:Expr}{p pa pb pd:P}{pos:Pos}{rest:List Expr}
theorem jF{x:D}{k:Bool}(h:oF x=some k):x=.bl k:=by cases x<;>cases h;rfl
theorem oJ{x:D}{k:Int}(h:kW x=some k):x=.int k:=by cases x<;>cases h;rfl
theorem bG.bool{g j:Hp}{f:L2.St}{r:R}{k:Bool}(h:bG K g ρ' f j ρ σ H v r)(e:r.d=.bl k):v=.bl k:=by cases r with|val d=>cases(show d=.bl k from e);have h:Rep K g v (.bl k):=h;rw[Rep]at h;exact h|own ds=>cases e
def ST(X:Cx)(c:Call)(e:Expr)(p:P):Prop:=PT X e (zA X.K (fK (HH.ev c p)))
def SW(X:Cx)(c:Call)(e:Expr)(p:P):Prop:=PW X e (zA X.K (fK (HH.ev c p)))
theorem SW.st(h:SW X c e p):ST X c e p:=PW.pt h
theorem mW{t:TE}{Q:Bool->Hp->Prop}(m:∀Q,wG X.K (HH.ev c p) σ H Q->t σ H Q)(h:zA X.K (fK (HH.ev c p)) σ H Q):t σ H λx o=>∃k,x=.bl k/\Q k o:=by obtain⟨F,ρ,k,ρ',g,e,q⟩:=h;obtain⟨r,j,u,f⟩:=aa e;have w:=aJ f;clear f;obtain⟨f,y⟩:=w;subst y;exact m _ ⟨F,ρ,r,j,g,u,λv z A s B=>⟨k,B.bool (jF f),q z A s⟩⟩
theorem gf(h:SX X c e p)(he:∀f,isTrue e X.env f=(do let v<-f;standAt e.pos;holding [v] (truthy v)):=by intro _;rfl):ST X c e p:=uZ (Av h.ev he) λσ H Q q=>mW (λ_ z=>z) q
theorem bW{o:Cm}(ho:cX X (compareOp op) (rD X.K (jm o)))(j:SX X c a pa)(m:SX X c b pb)(y:behindInMarks op b=false):ST X c (.Compare a [op] [b] pos) (.cmp o pa pb):=by obtain⟨A,B,h1,C,E⟩:=j.fH m;refine uZ (yg ho h1 C y) λσ H Q q=>mW (t:=G5 (rD X.K (jm o)) A B) (λQ z=>?_) q;obtain⟨F,ρ,r,ρ',g,e,k⟩:=z;rw[HH.E9]at e;obtain⟨h,G,I,f⟩:=aa e;have J:=aJ f;clear f;obtain⟨f,L⟩:=J;subst L;refine E g I λv u M Y s N O=>⟨M,h.1,h.2,r,s.gs.sub,N,O,f,λw F2 U x W=>?_⟩;exact k w F2 U (s.trans (x.stp s.gs)) (.later s (W.sY s.gs))
theorem gO(m:ST X c a pa):ST X c (.UnaryOp .Not a pos) (.not pa):=by
 refine uZ (Bf m) ?_;rintro σ H Q⟨F,ρ,k,ρ',g,e,q⟩;unfold fK at e;rw[HH.E6]at e;obtain⟨r,o,t,f⟩:=aa e;obtain⟨h,ρ2,u,w⟩:=aa t;cases w;have y:=aJ f;clear f;obtain⟨f,z⟩:=y;subst z;have f:(!h)=k:=by cases f;rfl
 exact⟨F,ρ,h,_,g,u,λA j s=>by show Q (!h) j;rw[f];exact q A j s⟩
theorem xn(ρ:List Sl):fK (HH.ev c (.and pa pb)) ρ=(fK (HH.ev c pa) ρ).bind λx ρ=>if x then fK (HH.ev c pb) ρ else .ok false ρ:=by unfold fK;rw[HH.E7];unfold fK;cases HH.ev c pa ρ with|exc _ _=>rfl|stuck=>rfl|ok r f=>simp only[Res.bind];cases h:oF r.d with|none=>rfl|some k=>cases k with|false=>rfl|true=>simp only[lift,if_true];cases HH.ev c pb f with|exc _ _=>rfl|stuck=>rfl|ok g ρ2=>simp only[Res.bind];cases h2:oF g.d with|none=>rfl|some j=>rfl
theorem Dg(ρ:List Sl):fK (HH.ev c (.or pa pb)) ρ=(fK (HH.ev c pa) ρ).bind λx ρ=>if x then .ok true ρ else fK (HH.ev c pb) ρ:=by unfold fK;rw[HH.E8];unfold fK;cases HH.ev c pa ρ with|exc _ _=>rfl|stuck=>rfl|ok r f=>simp only[Res.bind];cases h:oF r.d with|none=>rfl|some k=>cases k with|true=>rfl|false=>simp only[lift,false_eq_true,if_false];cases HH.ev c pb f with|exc _ _=>rfl|stuck=>rfl|ok g ρ2=>simp only[Res.bind];cases h2:oF g.d with|none=>rfl|some j=>rfl
theorem rP(f:ST X c a pa):SW X c (.BoolOp .And [a] pos) pa:=xH f
theorem uY(f:ST X c a pa):SW X c (.BoolOp .Or [a] pos) pa:=Dq f
theorem vJ(j:ST X c a pa)(m:SW X c (.BoolOp .And (b::rest) pos) pb):SW X c (.BoolOp .And (a::b::rest) pos) (.and pa pb):=by refine zT (Dz j m) ?_;rintro σ H Q⟨F,ρ,k,ρ',g,e,q⟩;rw[xn]at e;obtain⟨x,f,o,e⟩:=aa e;refine⟨F,ρ,x,f,g,o,λh r s1=>?_⟩;cases x with|true=>rw[if_pos rfl]at e ⊢;exact⟨h,f,k,ρ',s1.gs,e,λF2 s s2=>q F2 s (s1.trans s2)⟩|false=>rw[if_neg Bool.false_ne_true]at e ⊢;cases e;exact q h r s1
theorem zp(j:ST X c a pa)(m:SW X c (.BoolOp .Or (b::rest) pos) pb):SW X c (.BoolOp .Or (a::b::rest) pos) (.or pa pb):=by refine zT (IV j m) ?_;rintro σ H Q⟨F,ρ,k,ρ',g,e,q⟩;rw[Dg]at e;obtain⟨x,f,o,e⟩:=aa e;refine⟨F,ρ,x,f,g,o,λh r s1=>?_⟩;cases x with|true=>rw[if_pos rfl]at e ⊢;cases e;exact q h r s1|false=>rw[if_neg Bool.false_ne_true]at e ⊢;exact⟨h,f,k,ρ',s1.gs,e,λF2 s s2=>q F2 s (s1.trans s2)⟩
theorem u9(j:SX X c a pa):SX X c (.UnaryOp .Not a pos) (.not pa):=by refine⟨dO (DN j.ev) ?_,λi h=>by cases h⟩;rintro σ H Q⟨F,ρ,r,ρ',g,e,k⟩;rw[HH.E6]at e;obtain⟨x,m,o,q⟩:=aa e;cases q;exact mW (c:=c) (λ_ z=>z) ⟨F,ρ,x,_,g,o,λf t s=>k _ f t s (show Rep X.K f _ _ from eX _)⟩
theorem gV{op}(f:SX X c a pa):PE X (.BoolOp op [a] pos) (wG X.K (HH.ev c pa)):=Cv f.ev
theorem cY(q:SX X c a pa)(s:PE X (.BoolOp .And (b::rest) pos) (wG X.K (HH.ev c pb))):SX X c (.BoolOp .And (a::b::rest) pos) (.and pa pb):=by refine⟨dO (CJ q.ev s) ?_,λi h=>by cases h⟩;rintro σ H Q⟨F,ρ,r,ρ',g,e,k⟩;rw[HH.E7]at e;obtain⟨x,f,t,e⟩:=aa e;refine mW (c:=c) (λ_ z=>z) (Q:=λx j=>if x=true then wG X.K (HH.ev c pb) σ j Q else Q (.bl false) j) ⟨F,ρ,x,f,g,t,λo j s1=>?_⟩;cases x with|true=>rw[if_pos rfl]at e ⊢;obtain⟨y,ρ2,u,w⟩:=aa e;cases w;obtain⟨A,B,C,m⟩:=aa u;have E:=aJ m;clear m;obtain⟨m,G⟩:=E;subst G;refine⟨o,f,A,_,s1.gs,C,λv F2 I s2 J=>?_⟩;rw[J.bool (jF m)];exact k _ F2 I (s1.trans s2) (show Rep X.K F2 _ _ from eX _)|false=>rw[if_neg Bool.false_ne_true]at e ⊢;cases e;exact k _ o j s1 (show Rep X.K o _ _ from eX _)
theorem mX:∀{ps:List P}{ρ ρ':List Sl}{ds:List D},evs c ps ρ=.ok ds ρ'->ds.length=ps.length|[],_,_,_,h=>by rw[uh]at h;cases h;rfl|p::ps,_,_,_,h=>by rw[mZ]at h;obtain⟨r,f,_,h⟩:=aa h;obtain⟨xs,ρ2,g,h⟩:=aa h;cases h;simp[mX g]
theorem bY:SA X c [] []:=⟨jM cL λσ H Q⟨F,ρ,ds,ρ',g,e,k⟩=>by rw[uh]at e;cases e;exact k [] F H (.refl g) .nil,rfl⟩
theorem jq{ps:List P}(h:SX X c a pa)(hr:SA X c es ps)(hs:starEach (a::es) X.env=(false,eval a X.env)::starEach es X.env:=by rfl):SA X c (a::es) (pa::ps):=by refine⟨jM (aV h.ev hr.1 hs) ?_,by simp[hr.2]⟩;rintro σ H Q⟨F,ρ,ds,ρ',g,e,k⟩;rw[mZ]at e;obtain⟨r,f,j,e⟩:=aa e;obtain⟨xs,ρ2,m,e⟩:=aa e;cases e;refine⟨F,ρ,r,f,g,j,λv y z s o=>?_⟩;obtain⟨q,s1,_,t⟩:=s.cQ o;refine⟨q,f,xs,_,s1.gs,m,λvs F2 u s2 w=>?_⟩;exact k _ F2 u (s1.trans s2) (.cons (t.mono s2.bI) w)
theorem Ext.xO{h j:Hp}{Q:VK}{xs:List V}(s:aZ K j ρ σ h F ρ' σ H)(r:az K F xs ds)(k:∀v g f,aZ K j ρ σ h g ρ' σ f->bG K g ρ' σ f ρ σ h v (.val (.tup ds))->Q v f)(p:Addr)(m:H p=none):Q (.ref p) (upd H p (.tup xs)):=uK s.gs.sub r m λv g f x o=>k v g f (s.trans (x.stp s.gs)) o
theorem o6{ps:List P}{x1}(h:SA X c es ps)(m:ps.length<=sizeLine:=by decide):SX X c (.Tuple es x1 pos) (.tup ps):=by refine⟨dO (uG h.1) ?_,λi h=>by cases h⟩;rintro σ H Q⟨F,ρ,r,ρ',g,e,k⟩;rw[HH.E12]at e;obtain⟨ds,o,f,e⟩:=aa e;cases e;exact⟨F,ρ,ds,_,g,f,λvs t u s j=>⟨by rw[j.length,mX f];exact m,λp q=>Ext.xO s j k p q⟩⟩
theorem eO{ps:List P}(h:SA X c es ps)(m:ps.length<=sizeLine:=by decide):SX X c (.List es pos) (.lst ps):=by refine⟨dO (vz h.1) ?_,λi h=>by cases h⟩;rintro σ H Q⟨F,ρ,r,ρ',g,e,k⟩;rw[HH.E13]at e;obtain⟨ds,o,f,e⟩:=aa e;cases e;exact⟨F,ρ,ds,_,g,f,λvs w y s j=>⟨by rw[j.length,mX f];exact m,λp q=>xF s.gs.sub j q λv F2 t x u=>k v F2 t (s.trans (x.stp s.gs)) (.later s (u.sY s.gs))⟩⟩
theorem DQ{i:Int}{d:D}(h:at' ds i=some d):∃j,L2.je ds.length i=some j/\ds[j]?=some d:=fM h
theorem MT:Mg X (rD X.K xm):=by
 rintro f slice g s σ H x y v u Q I q m⟨F,d,e,r,o,B,C,he,k⟩hs;unfold xm at he;obtain⟨ds,E,he⟩:=fM he;obtain⟨i,G,he⟩:=fM he;obtain⟨z,J,he⟩:=map_some he;subst he;cases oJ G;rw[C.int]at m;obtain⟨p,xs,rfl,hq,t⟩:=B.items o E;obtain⟨j,h1,L⟩:=DQ J;obtain⟨w,M,A⟩:=t.get L;have h:Gp xs i=some w:=by unfold Gp;rw[t.length,h1];exact M
 rcases hq with hq|hq;.exact yw f slice g s σ H _ _ v u Q I q m ⟨p,xs,i,w,rfl,rfl,hq,h,cj.dF o A k⟩ hs
 .exact Ea f slice g s σ H _ _ v u Q I q m ⟨p,xs,i,w,rfl,rfl,hq,h,cj.dF o A k⟩ hs
theorem bF(g:SX X c a pa)(h:SX X c b pb)(hs:qR b:=by intro _ _;rfl):SX X c (.Subscript a b pos) (.idx pa pb):=oX (f:=xm) (λh1 j=>Jt MT h1 j hs) g h (λρ=>rfl) rfl
def Jf(K:PySem.W.Frag)(f:D->Option R):List V->Hp->VK->Prop:=λxs H Q=>∃x,xs=[x]/\rD1 K f x H Q
theorem rz{E:Expr}{f:D->Option R}{q:P}(m:∀{t},PA X [a] t->PE X E (K8 (Jf X.K f) t))(o:SX X c a pa)(u:∀ρ,HH.ev c q ρ=(HH.dY (isVar pa) (HH.ev c pa) ρ).bind λx ρ=>lift (f x) ρ)(y:isVar q=none)(hs:starEach [a] X.env=(false,eval a X.env)::starEach [] X.env:=by rfl):SX X c E q:=by obtain⟨N,h1,z⟩:=o.dY;refine⟨dO (m (aV h1 cL hs)) ?_,λi h=>by rw[y]at h;cases h⟩;rintro σ H Q⟨F,ρ,r,ρ',g,e,k⟩;rw[u]at e;obtain⟨x,A,B,j⟩:=aa e;have C:=aJ j;clear j;obtain⟨j,G⟩:=C;subst G;refine z g B λv I O s J=>⟨v,rfl,I,x,r,s.gs.sub,J,j,λw F2 L x M=>?_⟩;exact k w F2 L (s.trans (x.stp s.gs)) (.later s (M.sY s.gs))
theorem JC:dz X (.builtin "len") (Jf X.K λx=>blt .len [x]):=by rintro f s σ H xs h Q I r⟨x,hx,F,d,j,g,m,he,k⟩;obtain⟨ds,o,he⟩:=map_some (show(items d).map _=some j from he);subst he;obtain⟨p,ys,rfl,q,t⟩:=m.items g o;exact m6 f s σ H xs h Q I r ⟨p,ys,hx,q,by rw[t.length];exact cj.dF g (cT _) k⟩
theorem Aw:dz X (.type "list") (Jf X.K λx=>blt .list [x]):=by rintro f s σ H xs h Q I r⟨x,hx,F,d,j,g,m,he,k⟩;obtain⟨ds,o,he⟩:=map_some (show(items d).map _=some j from he);subst he;obtain⟨p,ys,rfl,q,t⟩:=m.items g o;exact mG f s σ H xs h Q I r ⟨p,ys,hx,q,λl u=>xF g t u k⟩
theorem yF:dz X (.type "tuple") (Jf X.K λx=>blt .tuple [x]):=by rintro f s σ H xs m Q I r⟨x,hx,F,d,t,g,o,he,k⟩;obtain⟨ds,h,he⟩:=map_some (show(items d).map _=some t from he);subst he;cases d with|tup es=>cases h;obtain⟨a,ys,rfl,j,q,rt⟩:=o.tup g;exact gG f s σ H xs m Q I r ⟨a,ys,hx,.inr ⟨j,cj.dF g rt k⟩⟩|lst es=>cases h;obtain⟨a,ys,rfl,j,q⟩:=o.lst g;exact gG f s σ H xs m Q I r ⟨a,ys,hx,.inl ⟨j,λl u=>uK g q u k⟩⟩|_=>cases h
theorem jC(hx:x="len")(f:Gl X x)(g:X.mg x=none)(j:SX X c a pa)(hs:starEach [a] X.env=(false,eval a X.env)::starEach [] X.env:=by rfl):SX X c (.Call (.Name x p') [a] [] pos) (.blt .len [pa]):=by subst hx;exact rz (λh=>fX JC f g PySem.boot_len h (he:=hs)) j (λρ=>rfl) rfl hs
theorem jt(hx:x="list")(f:Gl X x)(g:X.mg x=none)(j:SX X c a pa)(hs:starEach [a] X.env=(false,eval a X.env)::starEach [] X.env:=by rfl):SX X c (.Call (.Name x p') [a] [] pos) (.blt .list [pa]):=by subst hx;exact rz (λh=>lz Aw f g (by decide+kernel) h (he:=hs)) j (λρ=>rfl) rfl hs
theorem gb(hx:x="tuple")(f:Gl X x)(g:X.mg x=none)(j:SX X c a pa)(hs:starEach [a] X.env=(false,eval a X.env)::starEach [] X.env:=by rfl):SX X c (.Call (.Name x p') [a] [] pos) (.blt .tuple [pa]):=by subst hx;exact rz (λh=>lz yF f g (by decide+kernel) h (he:=hs)) j (λρ=>rfl) rfl hs
end
def wU(K:PySem.W.Frag)(np:Nat)(f:List Sl->Res R):Sp:=λvs H Q _=>vs.length=np/\∃F args r a,GS K F args (vs.map some) H/\f args=.ok r a/\∀v e b c,aZ K F args (vs.map some) H e a b c->bG K e a b c args (vs.map some) H v r->Q v c
section
variable{K:PySem.W.Frag}
def oW(K:PySem.W.Frag)(F:Hp)(ρ:List Sl)(σ:L2.St)(H:Hp)(ρ₀:List Sl)(H₀:Hp)(v:V):Arg->Prop|.dat d=>Rep K F v d|.tmp ds=>∃x xs,v=.ref x/\H x=some (.lst xs)/\F x=none/\az K F xs ds/\¬ Own ρ σ x/\(Own ρ₀ σ x\/H₀ x=none)|.cM i=>σ[i]?=some (some v)
structure nQ(K:PySem.W.Frag)(F:Hp)(ρ:List Sl)(σ:L2.St)(H:Hp)(ρ₀:List Sl)(H₀:Hp)(as:List Arg)(vs:List V):Prop where
 len:as.length=vs.length
 one:∀(j:Nat)(a:Arg)(v:V),as[j]?=some a->vs[j]?=some v->oW K F ρ σ H ρ₀ H₀ v a
 dis:∀(j k:Nat)(ds es:List D)(x:Addr),as[j]?=some (.tmp ds)->as[k]?=some (.tmp es)->vs[j]?=some (.ref x)->vs[k]?=some (.ref x)->j=k
theorem oW.later{b f:Hp}{a:Arg}(s:aZ K F ρ σ H b ρ' σ f)(h:oW K F ρ σ H ρ₀ H₀ v a):oW K b ρ' σ f ρ₀ H₀ v a:=by cases a with|dat d=>exact Rep.mono s.bI h|cM i=>exact h|tmp ds=>
   obtain⟨x,xs,h1,c,g,j,e,k⟩:=h;refine⟨x,xs,h1,s.keep x _ c e,?_,j.mono s.bI,λo=>?_,k⟩;.cases q:b x with|none=>rfl|some o=>
       rcases s.oU x g (by rw[q];simp)with z|z;.exact absurd z e
       .exact(vC c z).elim
   . rcases s.sE x o with z|z;.exact e z
     .rw[c]at z;cases z
theorem nQ.nil:nQ K F ρ σ H ρ₀ H₀ [] []:=⟨rfl,λj a v h=>by simp at h,λj k ds es x h=>by simp at h⟩
theorem nQ.cons{a:Arg}(h:oW K F ρ σ H ρ₀ H₀ v a)(t:nQ K F ρ σ H ρ₀ H₀ as vs)(hd:∀ds x,a=.tmp ds->v=.ref x->∀(k:Nat)es,as[k]?=some (.tmp es)->vs[k]?≠some (.ref x)):nQ K F ρ σ H ρ₀ H₀ (a::as) (v::vs):=by
 refine⟨by simp[t.len],λj b u h1 c=>?_,λj k ds es x h1 c e f=>?_⟩;.cases j with|zero=>simp at h1 c;subst h1;subst c;exact h|succ j=>exact t.one j b u (by simpa using h1) (by simpa using c)
 .cases j with
   |zero=>cases k with|zero=>rfl|succ k=>simp at h1 e;exact absurd (by simpa using f) (hd ds x h1 e k es (by simpa using c))
   |succ j=>cases k with|zero=>simp at c f;exact absurd (by simpa using e) (hd es x c f j ds (by simpa using h1))|succ k=>rw[t.dis j k ds es x (by simpa using h1) (by simpa using c) (by simpa using e) (by simpa using f)]
def vD(ρ:List Sl):Arg->Sl->Prop|.dat d,s=>s=.val false d|.tmp ds,s=>s=.own false ds|.cM i,s=>(∃b d,ρ[i]?=some (.val b d)/\s=.val false d)\/(∃b ds,ρ[i]?=some (.own b ds)/\s=.own true ds)\/∃ds,ρ[i]?=some (.lent ds)/\s=.lent ds
theorem jY{ρ:List Sl}:∀{as:List Arg}{c:List Nat}{args:List Sl},aY ρ as c=some args->args.length=as.length/\(∀(j:Nat)(a:Arg)(s:Sl),as[j]?=some a->args[j]?=some s->vD ρ a s)/\(∀(j:Nat)(i:Nat)(s:Sl)ds,as[j]?=some (.cM i)->args[j]?=some s->lst? s=some ds->i∉c)/\(∀(j k:Nat)(i:Nat)(s t:Sl)ds es,as[j]?=some (.cM i)->as[k]?=some (.cM i)->args[j]?=some s->args[k]?=some t->lst? s=some ds->lst? t=some es->j=k)
 |[],c,args,h=>by rw[qi]at h;cases h;exact⟨rfl,λj a s h=>by simp at h,λj i s ds h=>by simp at h,λj k i s t ds es h=>by simp at h⟩|a::as,c,args,h=>by--the QB slot,the QC
   have B:∃s0 r w,args=s0::r/\aY ρ as w=some r/\vD ρ a s0/\((∃i ds,a=.cM i/\lst? s0=some ds/\w=i::c/\i∉c)\/((∀i ds,a=.cM i->lst? s0≠some ds)/\w=c)):=by cases a with|dat d=>rw[oV]at h;obtain⟨r,g,m⟩:=map_some h;exact⟨_,r,c,m.symm,g,rfl,.inr ⟨λi ds z=>(by cases z),rfl⟩⟩|tmp d=>rw[p8]at h;obtain⟨r,g,m⟩:=map_some h;exact⟨_,r,c,m.symm,g,rfl,.inr ⟨λi ds z=>(by cases z),rfl⟩⟩|cM i=>
      rw[jJ]at h;split at h;.rename_i b d q;obtain⟨r,g,m⟩:=map_some h;exact⟨_,r,c,m.symm,g,.inl ⟨b,d,q,rfl⟩,.inr ⟨λ_ _ _ z=>(by cases z),rfl⟩⟩
      . rename_i b ds q;split at h;.cases h
        .rename_i p;obtain⟨r,g,m⟩:=map_some h;exact⟨_,r,_,m.symm,g,.inr (.inl ⟨b,ds,q,rfl⟩),.inl ⟨i,_,rfl,rfl,rfl,by simpa using p⟩⟩
      . rename_i ds q;split at h;.cases h
        .rename_i p;obtain⟨r,g,m⟩:=map_some h;exact⟨_,r,_,m.symm,g,.inr (.inr ⟨ds,q,rfl⟩),.inl ⟨i,_,rfl,rfl,rfl,by simpa using p⟩⟩
      .cases h
   obtain⟨s0,r,w,rfl,hr,C,p⟩:=B;obtain⟨U,W,E,X⟩:=jY hr;have sub:∀i,i∉w->i∉c:=λi N O=>by
    rcases p with⟨_,_,_,_,rfl,_⟩|⟨_,rfl⟩;.exact N (mem_cons_of_mem _ O)
    .exact N O
   refine⟨by simp[U],λj b s h1 f=>?_,λj i s ds h1 f u=>?_,λj k i s t ds es h1 f u A G I=>?_⟩;.cases j with|zero=>simp at h1 f;subst h1;subst f;exact C|succ j=>exact W j b s (by simpa using h1) (by simpa using f)
   .cases j with|zero=>
       simp at h1 f;subst h1;subst f;rcases p with⟨Q,_,e,_,_,o⟩|⟨o,_⟩;.cases e;exact o
       .exact absurd u (o i ds rfl)|succ j=>exact sub i (E j i s ds (by simpa using h1) (by simpa using f) u)
   . have Y:∀(k:Nat)(t:Sl)es,a=.cM i->lst? s0=some ds->(as[k]?=some (.cM i))->r[k]?=some t->lst? t=some es->False:=λk t es y J L M he=>by
      rcases p with⟨Q,_,e,_,rfl,o⟩|⟨o,_⟩;.rw[y]at e;cases e;exact E k i t es L M he mem_cons_self
      .exact o i ds y J
     have Z:∀(k:Nat)(t:Sl)es,a=.cM i->lst? s0=some es->(as[k]?=some (.cM i))->r[k]?=some t->lst? t=some ds->False:=λk t es y J L M he=>by
      rcases p with⟨Q,_,e,_,rfl,o⟩|⟨o,_⟩;.rw[y]at e;cases e;exact E k i t ds L M he mem_cons_self
      .exact o i es y J
     cases j with
     |zero=>cases k with|zero=>rfl|succ k=>simp at h1 u;subst u;exact(Y k t es h1 G (by simpa using f) (by simpa using A) I).elim
     |succ j=>cases k with|zero=>simp at f A;subst A;exact(Z j s es f I (by simpa using h1) (by simpa using u) G).elim|succ k=>rw[X j k i s t ds es (by simpa using h1) (by simpa using f) (by simpa using u) (by simpa using A) G I]
theorem nQ.get(A:nQ K F ρ σ H ρ₀ H₀ as vs){args:List Sl}{j:Nat}{s:Sl}(c:args.length=as.length)(h:args[j]?=some s):∃a v,as[j]?=some a/\vs[j]?=some v/\oW K F ρ σ H ρ₀ H₀ v a:=by
 have e:j<args.length:=(fJ h).1;have h1:j<as.length:=by omega
 have b:j<vs.length:=by rw[<-A.len];exact h1
 exact⟨as[j],vs[j],by simp[h1],by simp[b],A.one j _ _ (by simp[h1]) (by simp[b])⟩
theorem args_gs{args:List Sl}(g:GS K F ρ σ H)(A:nQ K F ρ σ H ρ₀ H₀ as vs)(h:aY ρ as []=some args):GS K F args (vs.map some) H:=by
 obtain⟨I,M,l3,l4⟩:=jY h;have N:∀{j:Nat}{v:V},vs[j]?=some v->(vs.map some)[j]?=some (some v):=λe=>by rw[getElem?_map,e];rfl
 have Y:∀{j:Nat}{v:V},(vs.map some)[j]?=some (some v)->vs[j]?=some v:=λ{j v}e=>by rw[getElem?_map]at e;cases q:vs[j]?with|none=>rw[q]at e;cases e|some w=>rw[q]at e;cases e;rfl
 refine⟨g.sub,by rw[I,A.len,length_map],λj b d e=>?_,λj s ds e J=>?_,λj k x⟨⟨s,ds,e1,e2⟩,O⟩⟨⟨t,es,f1,f2⟩,f3⟩=>?_⟩;.obtain⟨a,v,h1,u,m⟩:=A.get I e;have B:=M j a _ h1 e;refine⟨v,N u,?_⟩;cases a with|dat d'=>cases B;exact m|tmp ds=>cases B|cM i=>
     rcases B with⟨Q,d',r,c⟩|⟨_,_,_,c⟩|⟨_,_,c⟩;.cases c;obtain⟨w,f,p⟩:=g.val i Q d r;have m:σ[i]?=some (some v):=m;rw[m]at f;cases f;exact p
     .cases c
     .cases c
 .obtain⟨a,v,h1,u,m⟩:=A.get I e;have B:=M j a _ h1 e;cases a with|dat d'=>cases B;cases J|tmp es=>cases B;cases J;obtain⟨x,xs,rfl,c,f,p,_⟩:=m;exact⟨x,_,N u,c,f,xs,rfl,p⟩|cM i=>
     have m:σ[i]?=some (some v):=m;rcases B with⟨Q,d',r,c⟩|⟨Q,es,r,c⟩|⟨es,r,c⟩;.cases c;cases J
     .cases c;cases J;obtain⟨x,xs,f,p⟩:=g.own i _ _ r rfl;rw[m]at f;cases f;exact⟨x,xs,N u,p⟩
     .cases c;cases J;obtain⟨x,xs,f,p⟩:=g.own i _ _ r rfl;rw[m]at f;cases f;exact⟨x,xs,N u,p⟩
 . obtain⟨a,v,h1,u,m⟩:=A.get I e1;obtain⟨U,v',C,L,E⟩:=A.get I f1;have O:=Y O;have f3:=Y f3;rw[u]at O;cases O;rw[L]at f3;cases f3;have s1:=M j a _ h1 e1;have s2:=M k U _ C f1;have W:∀{i:Nat}{s:Sl}{ds:Oc},lst? s=some ds->vD ρ (.cM i) s->∃G o,ρ[i]?=some G/\lst? G=some o:=λ{i s ds}l z=>by
    rcases z with⟨_,_,_,z⟩|⟨b,es,q,_⟩|⟨es,q,_⟩;.subst z;cases l
    .exact⟨_,_,q,rfl⟩
    .exact⟨_,_,q,rfl⟩
   cases a with
   |dat d=>cases s1;cases e2|tmp Ez=>cases U with|dat d=>cases s2;cases f2|tmp Z=>exact A.dis j k Ez Z x h1 C u L|cM i=>obtain⟨y,_,r,_,_,_,c,_⟩:=m;cases r;obtain⟨G,o,f,p⟩:=W f2 s2;exact absurd ⟨i,⟨G,o,f,p⟩,E⟩ c
   |cM i=>obtain⟨G,o,f,p⟩:=W e2 s1;cases U with|dat d=>cases s2;cases f2|tmp Z=>obtain⟨y,_,r,_,_,_,c,_⟩:=E;cases r;exact absurd ⟨i,⟨G,o,f,p⟩,m⟩ c|cM i'=>obtain⟨X,QD,q5,q6⟩:=W f2 s2;have:=g.dis i i' x ⟨⟨G,o,f,p⟩,m⟩ ⟨⟨X,QD,q5,q6⟩,E⟩;subst this;exact l4 j k i s t ds es h1 C e1 f1 e2 f2
theorem iJ{as:List Arg}{ss:List Sl}:∀(ρ:List Sl)(n i:Nat),(cA as ss n ρ)[i]?=(ρ[i]?).map λs=>cG s (aG (n+i) as ss)
 |[],n,i=>by simp[jK,gR]|s::ρ,n,0=>by simp[jK,gR]|s::ρ,n,i+1=>by
   rw[gR];simp only[List.getElem?_cons_succ];rw[iJ ρ (n+1) i];have:n+1+i=n+(i+1):=by omega
   rw[this]
theorem iI{as:List Arg}{ss:List Sl}:∀(ρ:List Sl)(n:Nat),(cA as ss n ρ).length=ρ.length|[],n=>rfl|s::ρ,n=>by rw[gR];simp[iI ρ]
theorem eH{i:Nat}:∀{as:List Arg}{ss:List Sl}{t:Sl},aG i as ss=some t->∃j:Nat,as[j]?=some (.cM i)/\ss[j]?=some t
 |[],_,_,h=>by simp[aG]at h|a::as,[],_,h=>by cases a<;>simp[aG]at h|a::as,s::ss,t,h=>by
   have b:aG i as ss=some t->∃j:Nat,(a::as)[j]?=some (.cM i)/\(s::ss)[j]?=some t:=λh=>by obtain⟨j,h1,c⟩:=eH h;exact⟨j+1,by simpa using h1,by simpa using c⟩
   cases a with|dat d=>exact b (by simpa[aG]using h)|tmp d=>exact b (by simpa[aG]using h)|cM k=>
     rw[aG]at h;split at h;.rename_i e;cases h;subst e;exact⟨0,rfl,rfl⟩
     .exact b h
theorem gJ{i:Nat}:∀{as:List Arg}{ss:List Sl},as.length=ss.length->aG i as ss=none->∀j:Nat,as[j]?≠some (.cM i)
 |[],_,_,_=>λj h=>by simp at h|a::as,[],b,_=>by simp at b|a::as,s::ss,b,h=>λj c=>by
   have f:as.length=ss.length:=by simpa using b
   have g:aG i as ss=none/\a≠.cM i:=by cases a with|dat d=>exact⟨by simpa[aG]using h,by simp⟩|tmp d=>exact⟨by simpa[aG]using h,by simp⟩|cM k=>
      rw[aG]at h;split at h;.cases h
      .rename_i m;exact⟨h,λe=>m (by cases e;rfl)⟩
   cases j with|zero=>simp at c;exact g.2 c|succ j=>exact gJ f g.1 j (by simpa using c)
theorem vQ{Q X H':Hp}{args c:List Sl}{Y:L2.St}(s0:aZ K Q ρ₀ σ H₀ F ρ σ H)(A:nQ K F ρ σ H ρ₀ H₀ as vs)(hb:aY ρ as []=some args)(s:aZ K F args (vs.map some) H X c Y H'):aZ K Q ρ₀ σ H₀ X (cA as c 0 ρ) σ H'/\∀v r,bG K X c Y H' args (vs.map some) H v r->bG K X (cA as c 0 ρ) σ H' ρ₀ σ H₀ v r:=by
 have g:=s0.gs;obtain⟨M,l2,l3,l4⟩:=jY hb;have up:∀{j:Nat}{v:V},vs[j]?=some v->(vs.map some)[j]?=some (some v):=λe=>by rw[getElem?_map,e];rfl
 have dn:∀{j:Nat}{v:V},(vs.map some)[j]?=some (some v)->vs[j]?=some v:=λ{j v}e=>by rw[getElem?_map]at e;cases q:vs[j]?with|none=>rw[q]at e;cases e|some w=>rw[q]at e;cases e;rfl
 have la:as.length=c.length:=by rw[s.len,M]--whose are the lists that the callee holds
 have own:∀b,Own args (vs.map some) b->(∃(j:Nat)(ds:List D),as[j]?=some (Arg.tmp ds)/\vs[j]?=some (V.ref b)/\¬ Own ρ σ b/\(Own ρ₀ σ b\/H₀ b=none))\/Own ρ σ b:=λb⟨j,⟨sl,ds,E,U⟩,e3⟩=>by obtain⟨a,v,h1,C,J⟩:=A.get M E;have s1:=l2 j a _ h1 E;have e3:=dn e3;rw[C]at e3;cases e3;cases a with|dat d=>cases s1;cases U|tmp es=>obtain⟨x,_,k,_,_,_,f,N⟩:=J;cases k;exact .inl ⟨j,es,h1,C,f,N⟩|cM i=>
    right;rcases s1 with⟨_,_,_,z⟩|⟨b',es,q,_⟩|⟨es,q,_⟩;.subst z;cases U
    .exact⟨i,⟨_,_,q,rfl⟩,J⟩
    .exact⟨i,⟨_,_,q,rfl⟩,J⟩
 have back:∀b,Own ρ σ b\/H b=none->Own ρ₀ σ b\/H₀ b=none:=λb h=>by
  rcases h with h|h;.exact s0.sE b h
  . by_cases ho:Own ρ₀ σ b;.exact .inl ho
    .right;cases e:H₀ b with|none=>rfl|some o=>rw[s0.keep b o e ho]at h;cases h
 have L:∀b,Own args (vs.map some) b->Own ρ₀ σ b\/H₀ b=none:=λb h=>by
  rcases own b h with⟨_,_,_,_,_,z⟩|z;.exact z
  .exact back b (.inl z)--a name's slot behind the call
 have slot:∀{i:Nat}{t:Sl},(cA as c 0 ρ)[i]?=some t->∃s1,ρ[i]?=some s1/\t=cG s1 (aG i as c):=λ{i t}h=>by rw[iJ]at h;obtain⟨s1,E,U⟩:=map_some h;exact⟨s1,E,by rw[<-U,Nat.zero_add]⟩
 have Ke:∀{i:Nat}{s1:Sl},ρ[i]?=some s1->(cA as c 0 ρ)[i]?=some (cG s1 (aG i as c)):=λ{i s1}h=>by rw[iJ,h,Nat.zero_add];rfl--what the callee left of a list that was lent to it
 have lent:∀{i j:Nat}{s1 t:Sl}{ds:List D},ρ[i]?=some s1->lst? s1=some (.l ds)->as[j]?=some (.cM i)->c[j]?=some t->∃v s2,σ[i]?=some (some v)/\Y[j]?=some (some v)/\args[j]?=some s2/\gZ s2 t/\((∃b,s1=.own b ds/\s2=.own true ds)\/(s1=.lent ds/\s2=.lent ds)):=λ{i j s1 t ds}h1 C J h4=>by
  have Z:j<args.length:=by rw[M];exact(fJ J).1
  have E:args[j]?=some args[j]:=by simp[Z]
  obtain⟨a,v,k,f,N⟩:=A.get M E;rw[J]at k;cases k;have q4:=l2 j _ _ J E;have kind:(∃b,s1=.own b ds/\args[j]=.own true ds)\/(s1=.lent ds/\args[j]=.lent ds):=by
   rcases q4 with⟨_,_,z,_⟩|⟨b,es,z,z'⟩|⟨es,z,z'⟩;.rw[h1]at z;cases z;cases C
   .rw[h1]at z;cases z;cases C;exact .inl ⟨b,rfl,z'⟩
   .rw[h1]at z;cases z;cases C;exact .inr ⟨rfl,z'⟩
  have lk:uP args[j]=true:=by rcases kind with⟨_,_,z⟩|⟨_,z⟩<;>rw[z]<;>rfl
  obtain⟨u,s',y,z3⟩:=s.lk j _ E lk;rw[h4]at y;cases y;exact⟨v,_,N,by rw[u];exact up f,E,z3,kind⟩
 have yZ:∀{i:Nat}{x:Addr},bf (cA as c 0 ρ) σ i x->bf ρ σ i x:=λ{i x}⟨⟨t,ds,E,U⟩,e3⟩=>by obtain⟨s1,k,f⟩:=slot E;refine⟨?_,e3⟩;cases s1 with|aU=>subst f;cases U|val b d=>subst f;cases U|own b es=>exact⟨_,_,k,rfl⟩|lent es=>exact⟨_,_,k,rfl⟩|m8 m=>exact⟨_,_,k,rfl⟩|m9 m=>exact⟨_,_,k,rfl⟩|hold _=>subst f;cases U
 refine⟨?_,λv r h=>?_⟩;rotate_left;.cases r with|val d=>exact h|own ds=>
     obtain⟨x,xs,h1,C,J,h4,h5,h6⟩:=h;refine⟨x,xs,h1,C,J,h4,λ⟨i,h⟩=>?_,?_⟩
     . have hO:=yZ h;obtain⟨⟨s1,Ez,k,f⟩,N⟩:=hO;obtain⟨x',ag,w1,w2,_⟩:=g.own i s1 Ez k f;rw[N]at w1;cases w1;rcases h6 with h6|h6
       . rcases own x h6 with⟨_,_,_,_,z,_⟩|_;.exact z ⟨i,⟨s1,Ez,k,f⟩,N⟩
         .--a name was lent
           obtain⟨j,⟨sl,es,w3,w4⟩,w5⟩:=h6;obtain⟨a',v',G,O,y3⟩:=A.get M w3;have sa:=l2 j a' _ G w3;have w5:=dn w5;rw[O]at w5;cases w5;cases a' with|dat d=>cases sa;cases w4|tmp ah=>obtain⟨_,_,u1,_,_,_,u2,_⟩:=y3;cases u1;exact u2 ⟨i,⟨s1,Ez,k,f⟩,N⟩|cM i'=>
             have ex:∃s' ab,ρ[i']?=some s'/\lst? s'=some ab:=by
              rcases sa with⟨_,_,_,z⟩|⟨b,es,q,_⟩|⟨es,q,_⟩;.subst z;cases w4
              .exact⟨_,_,q,rfl⟩
              .exact⟨_,_,q,rfl⟩
             have:=g.dis i i' x ⟨⟨s1,Ez,k,f⟩,N⟩ ⟨ex,y3⟩;subst this;have hk:∃yX,Ez=.l yX:=by
              rcases sa with⟨_,_,_,z⟩|⟨b,es,q,_⟩|⟨es,q,_⟩;.subst z;cases w4
              .rw[k]at q;cases q;cases f;exact⟨_,rfl⟩
              .rw[k]at q;cases q;cases f;exact⟨_,rfl⟩
             obtain⟨yX,rfl⟩:=hk;have Z:j<c.length:=by rw[<-la];exact(fJ G).1
             have B:c[j]?=some c[j]:=by simp[Z]
             obtain⟨v2,s2,u1,u2,u3,u4,u5⟩:=lent k f G B;rw[N]at u1;cases u1--the slot behind the call is a list's
             obtain⟨⟨t,dt,t1,t2⟩,_⟩:=h;obtain⟨s3,t3,t4⟩:=slot t1;rw[k]at t3;cases t3;have lo:∃t5,aG i as c=some t5:=by cases I:aG i as c with|none=>exact absurd G (gJ la I j)|some t5=>exact⟨t5,rfl⟩
             obtain⟨t5,I⟩:=lo;obtain⟨j2,t6,t7⟩:=eH I;have ai:j2<args.length:=by rw[M];exact(fJ t6).1
             obtain⟨_,s6,_,am,ac,ap,ae⟩:=lent k f t6 t7;have af:j2=j:=by
              have a1:lst? s6=some (.l yX):=by rcases ae with⟨_,_,z⟩|⟨_,z⟩<;>rw[z]<;>rfl
              have a2:lst? s2=some (.l yX):=by rcases u5 with⟨_,_,z⟩|⟨_,z⟩<;>rw[z]<;>rfl
              exact l4 j2 j i s6 s2 _ _ t6 G ac u3 a1 a2
             subst af;rw[B]at t7;cases t7;rw[I]at t4;refine h5 ⟨j2,?_,u2⟩;rcases u5 with⟨b,u,y⟩|⟨u,y⟩
             . subst u;subst y;rcases u4 with⟨d2,z⟩|⟨d2,z⟩;.exact⟨_,.l d2,B,by rw[z];rfl⟩
               .rw[z]at t4;subst t4;cases t2
             .subst u;subst y;exact⟨_,.l yX,B,by rw[show c[j2]=.lent yX from u4];rfl⟩
       .rw[w2]at h6;cases h6
     . rcases h6 with h6|h6;.exact L x h6
       .exact back x (.inr h6)
 refine⟨⟨s.gs.sub,by rw[iI];exact g.len,λi b d e=>?_,λi t ds e B=>?_,λi j x h1 C=>g.dis i j x (yZ h1) (yZ C)⟩,s0.bI.trans s.bI,λb n n'=>?_,λb o h n=>?_,λb⟨i,h⟩=>back b (.inl ⟨i,yZ h⟩),by rw[iI];exact s0.len,λi s1 h l=>?_⟩;.--data
   obtain⟨s1,k,f⟩:=slot e;cases s1 with|aU=>cases f|lent es=>cases f|m8 _=>cases f|m9 _=>cases f|hold _=>cases f|val b' d'=>cases f;obtain⟨v,u,y⟩:=g.val i b d k;exact⟨v,u,y.mono s.bI⟩|own b' es=>cases I:aG i as c with|none=>rw[I]at f;cases f|some t=>rw[I]at f;obtain⟨j,u,y⟩:=eH I;obtain⟨v,s2,G,O,y3,y4,p⟩:=lent k rfl u y;cases t with|aU=>cases f|own _ _=>cases f|lent _=>cases f|m8 _=>cases f|m9 _=>cases f|hold _=>cases f|val b2 d2=>cases f;obtain⟨w,W,x2⟩:=s.gs.val j b2 d y;rw[O]at W;cases W;exact⟨v,G,x2⟩
 .--lists
   obtain⟨s1,k,f⟩:=slot e--a list that was not lent
   have stay:∀es,lst? s1=some es->(∀j:Nat,as[j]?≠some (.cM i))->t=s1->∃(a:Addr)(xs:HO),σ[i]?=some (some (V.ref a))/\H' a=some xs/\X a=none/\lE K X xs ds:=λes he hn ht=>by
    subst ht;rw[he]at B;cases B;obtain⟨a,xs,u,y,z3,z4⟩:=g.own i _ ds k he;have no:¬ Own args (vs.map some) a:=λh=>by obtain⟨j,⟨sl,es,w1,w2⟩,w3⟩:=h;obtain⟨a',v,h1,C,J⟩:=A.get M w1;have sa:=l2 j a' _ h1 w1;have w3:=dn w3;rw[C]at w3;cases w3;cases a' with|dat d=>cases sa;cases w2|tmp es=>obtain⟨x,_,G,_,_,_,O,_⟩:=J;cases G;exact O ⟨i,⟨_,ds,k,he⟩,u⟩|cM i'=>
       have:∃s' ab,ρ[i']?=some s'/\lst? s'=some ab:=by
        rcases sa with⟨_,_,_,z⟩|⟨b,es,q,_⟩|⟨es,q,_⟩;.subst z;cases w2
        .exact⟨_,_,q,rfl⟩
        .exact⟨_,_,q,rfl⟩
       have:=g.dis i i' a ⟨⟨_,ds,k,he⟩,u⟩ ⟨this,J⟩;subst this;exact hn j h1
    refine⟨a,xs,u,s.keep a _ y no,?_,z4.mono s.bI⟩;cases q:X a with|none=>rfl|some o=>
      rcases s.oU a z3 (by rw[q];simp)with z|z;.exact absurd z no
      .rw[y]at z;exact(vV z4 z).elim
   cases I:aG i as c with
   |none=>have hn:=gJ la I;rw[I]at f;cases s1 with|aU=>subst f;cases B|val b' d'=>subst f;cases B|own b' es=>exact stay _ rfl hn f|lent es=>exact stay _ rfl hn f|m8 m=>exact stay _ rfl hn f|m9 m=>exact stay _ rfl hn f|hold _=>subst f;cases B
   |some t2=>rw[I]at f;obtain⟨j,u,y⟩:=eH I;cases s1 with
     |aU=>subst f;cases B|val b' d'=>subst f;cases B|hold _=>subst f;cases B|m8 m=>
       have Z:j<args.length:=by rw[M];exact(fJ u).1
       rcases l2 j _ _ u (show args[j]?=some args[j]by simp[Z])with⟨_,_,z,_⟩|⟨_,_,z,_⟩|⟨_,z,_⟩<;>(rw[k]at z;cases z)|m9 m=>
       have Z:j<args.length:=by rw[M];exact(fJ u).1
       rcases l2 j _ _ u (show args[j]?=some args[j]by simp[Z])with⟨_,_,z,_⟩|⟨_,_,z,_⟩|⟨_,z,_⟩<;>(rw[k]at z;cases z)|own b' es=>
       obtain⟨v,s2,G,O,y3,y4,p⟩:=lent k rfl u y;have:t2≠.aU/\∀x,t2≠.lent x:=by
        rcases p with⟨_,_,p⟩|⟨p,_⟩;.subst p;rcases y4 with⟨_,rfl⟩|⟨_,rfl⟩<;>simp
        .cases p
       cases t2 with
       |aU=>exact absurd rfl this.1|hold x=>
         rcases p with⟨_,_,p⟩|⟨p,_⟩;.subst p;rcases y4 with⟨_,h⟩|⟨_,h⟩<;>cases h
         .cases p|m8 x=>
         rcases p with⟨_,_,p⟩|⟨p,_⟩;.subst p;rcases y4 with⟨_,h⟩|⟨_,h⟩<;>cases h
         .cases p|m9 x=>
         rcases p with⟨_,_,p⟩|⟨p,_⟩;.subst p;rcases y4 with⟨_,h⟩|⟨_,h⟩<;>cases h
         .cases p|lent x=>exact absurd rfl (this.2 x)|val b2 d2=>subst f;cases B|own b2 ar=>subst f;cases B;obtain⟨a,xs,W,x2⟩:=s.gs.own j _ _ y rfl;rw[O]at W;cases W;exact⟨a,xs,G,x2⟩
     |lent es=>
       obtain⟨v,s2,G,O,y3,y4,p⟩:=lent k rfl u y;have ht:t=.lent es:=by rw[f];cases t2<;>rfl
       subst ht;cases B;rcases p with⟨_,p,_⟩|⟨_,p⟩;.cases p
       .subst p;cases(show t2=.lent es from y4);obtain⟨a,xs,W,x2⟩:=s.gs.own j _ _ y rfl;rw[O]at W;cases W;exact⟨a,xs,G,x2⟩
 . by_cases q:F b=none
   . rcases s.oU b q n' with z|z;.exact(L b z).imp id jw
     . by_cases ho:Own ρ₀ σ b;.exact .inl ho
       .right;cases f:H₀ b with|none=>rfl|some o=>rw[s0.keep b o f ho]at z;exact z
   .exact s0.oU b n q
 . refine s.keep b o (s0.keep b o h n) λz=>?_;rcases L b z with z|z;.exact n z
   .rw[h]at z;cases z
 .obtain⟨E,s2,C,k2⟩:=s0.lk i s1 h l;refine⟨E,_,Ke C,?_⟩;have Ms:=k2.uP l;refine gZ.trans l k2 ?_;cases s2 with
   |aU=>cases Ms|m8 _=>cases Ms|m9 _=>cases Ms|hold _=>exact gZ.refl _|val b d=>exact gZ.refl _|lent es=>cases aG i as c with|none=>rfl|some t=>cases t<;>rfl
   |own b es=>cases b with|false=>cases Ms|true=>cases aG i as c with|none=>exact .inl ⟨_,rfl⟩|some t=>cases t with|aU=>exact .inl ⟨_,rfl⟩|lent _=>exact .inl ⟨_,rfl⟩|m8 _=>exact .inl ⟨_,rfl⟩|m9 _=>exact .inl ⟨_,rfl⟩|hold _=>exact .inl ⟨_,rfl⟩|own _ ds=>exact .inl ⟨_,rfl⟩|val _ d=>exact .inr ⟨_,rfl⟩
theorem nQ.rebase{k f F2 g:Hp}{c ρ2:List Sl}(a:aZ K F ρ σ H k c σ f)(A:nQ K F2 ρ2 σ g c f as vs):nQ K F2 ρ2 σ g ρ H as vs:=by refine⟨A.len,λj b v h1 m=>?_,A.dis⟩;have h:=A.one j b v h1 m;cases b with|dat d=>exact h|cM i=>exact h|tmp ds=>
   obtain⟨x,xs,p,q,r,s,t,q6⟩:=h;refine⟨x,xs,p,q,r,s,t,?_⟩;rcases q6 with q6|q6;.exact a.sE x q6
   . by_cases ho:Own ρ σ x;.exact .inl ho
     .right;cases e:H x with|none=>rfl|some o=>rw[a.keep x o e ho]at q6;cases q6
theorem nQ.J2{c b F2 e:Hp}{a ρ2:List Sl}{r:R}(s1:aZ K F ρ σ H c a σ b)(f:bG K c a σ b ρ σ H v r)(s2:aZ K c a σ b F2 ρ2 σ e)(A:nQ K F2 ρ2 σ e a b as vs):nQ K F2 ρ2 σ e ρ H (lH r::as) (v::vs):=by
 have h1:oW K c a σ b ρ H v (lH r):=by cases r with|val d=>exact f|own ds=>exact f
 refine .cons (h1.later s2) (A.rebase s1) λds x m ev k es o g=>?_;cases r with|val d=>cases m|own p=>
   obtain⟨y,xs,j,q,u,w,s,B⟩:=f;rw[ev]at j;cases j;have h:=A.one k _ _ o g;obtain⟨z,C,t,_,_,_,_,w6⟩:=h;cases t;rcases w6 with w6|w6;.exact s w6
   .rw[q]at w6;cases w6
end
section
variable{K:PySem.W.Frag}{F F1 H H1:Hp}{ρ ρ1 ρ2:List Sl}{σ σ1:L2.St}
theorem qe{s:Sl}(h:put ρ i s=some ρ1):∃s0,ρ[i]?=some s0/\uP s0=false/\ρ1=ρ.set i s:=by
 unfold put at h;split at h;.rename_i q;cases h;exact⟨_,q,rfl,rfl⟩
 .rename_i q;cases h;exact⟨_,q,rfl,rfl⟩
 .rename_i q;cases h;exact⟨_,q,rfl,rfl⟩
 .cases h
theorem aZ.put{r:R}(s:aZ K F ρ σ H F1 ρ1 σ1 H1)(z:bG K F1 ρ1 σ1 H1 ρ σ H v r)(h:HH.put ρ1 i (oZ r)=some ρ2):aZ K F ρ σ H F1 ρ2 (σ1.set i (some v)) H1:=by
 obtain⟨s0,h0,C,rfl⟩:=qe h;have y:i<ρ1.length:=(fJ h0).1;have m:i<σ1.length:=by rw[<-s.gs.len];exact y
 have f:∀{j:Nat}{a:Addr},j≠i->bf (ρ1.set i (oZ r)) (σ1.set i (some v)) j a->bf ρ1 σ1 j a:=λ{j a}c⟨⟨t,ds,o,p⟩,g⟩=>by rw[dB c]at o g;exact⟨⟨t,ds,o,p⟩,g⟩
 have q:∀{a:Addr},bf (ρ1.set i (oZ r)) (σ1.set i (some v)) i a->¬ Own ρ1 σ1 a/\(Own ρ σ a\/H a=none):=λ{a}⟨⟨t,ds,o,p⟩,g⟩=>by rw[getElem?_set_self y]at o;rw[getElem?_set_self m]at g;cases o;cases g;cases r with|val d=>cases p|own es=>obtain⟨x,xs,J,E,G,I,L,M⟩:=z;cases J;exact⟨L,M⟩
 refine⟨⟨s.gs.sub,by simp[s.gs.len],λj b d e=>?_,λj t ds e A=>?_,λj k a h1 B=>?_⟩,s.bI,s.oU,s.keep,λa⟨j,c⟩=>?_,by simp[s.len],λj t e l=>?_⟩
 . by_cases c:j=i;.subst c;rw[getElem?_set_self y]at e;cases r with|own es=>cases e|val d'=>cases e;exact⟨v,getElem?_set_self m,z⟩
   .rw[dB c]at e ⊢;exact s.gs.val j b d e
 . by_cases c:j=i;.subst c;rw[getElem?_set_self y]at e;cases r with|val d'=>cases e;cases A|own es=>cases e;cases A;obtain⟨x,xs,rfl,E,G,I,_⟩:=z;exact⟨x,_,getElem?_set_self m,E,G,xs,rfl,I⟩
   .rw[dB c]at e ⊢;exact s.gs.own j t ds e A
 . by_cases c:j=i
   . by_cases u:k=i;.rw[c,u]
     .subst c;exact absurd ⟨k,f u B⟩ (q h1).1
   . by_cases u:k=i;.subst u;exact absurd ⟨j,f c h1⟩ (q B).1
     .exact s.gs.dis j k a (f c h1) (f u B)
 . by_cases w:j=i;.subst w;exact(q c).2
   .exact s.sE a ⟨j,f w c⟩
 . obtain⟨o,t1,p,g⟩:=s.lk j t e l;have c:j≠i:=by rintro rfl;rw[h0]at p;cases p;rw[g.uP l]at C;cases C
   exact⟨by rw[dB c];exact o,t1,by rw[dB c];exact p,g⟩
theorem GS.mut{x:Nat}{b:Bool}{es:List D}{a:Addr}{ys:List V}(g:GS K F ρ σ H)(e:ρ[x]?=some (.own b ds))(hx:σ[x]?=some (some (.ref a)))(r:az K F ys es):aZ K F ρ σ H F (ρ.set x (.own b es)) σ (upd H a (.lst ys)):=by
 have s:x<ρ.length:=(fJ e).1;have y:bf ρ σ x a:=⟨⟨_,_,e,rfl⟩,hx⟩;obtain⟨L,xs,h1,M,z,N⟩:=g.mV x _ ds e rfl;rw[hx]at h1;cases h1;have h:∀{j:Nat}{c:Addr},bf (ρ.set x (.own b es)) σ j c->bf ρ σ j c:=λ{j c}⟨⟨t,m,p,u⟩,q3⟩=>by
  by_cases f:j=x;.subst f;exact⟨⟨_,_,e,rfl⟩,q3⟩
  .rw[dB f]at p;exact⟨⟨t,m,p,u⟩,q3⟩
 refine⟨⟨λc o q=>?_,by simp[g.len],λj B d q=>?_,λj t m q w=>?_,λj k c p u=>g.dis j k c (h p) (h u)⟩,.refl _,λc n C=>absurd n C,λc o q n=>?_,λc⟨j,q⟩=>.inl ⟨j,h q⟩,by simp,λj t q l=>⟨rfl,?_⟩⟩
 . have:c≠a:=by rintro rfl;rw[z]at q;cases q
   rw[ao this];exact g.sub c o q
 . by_cases f:j=x;.subst f;rw[getElem?_set_self s]at q;cases q
   .rw[dB f]at q;exact g.val j B d q
 . by_cases f:j=x;.subst f;rw[getElem?_set_self s]at q;cases q;cases w;exact⟨a,_,hx,aH,z,ys,rfl,r⟩
   . rw[dB f]at q;obtain⟨c,E,A,G,I,J⟩:=g.own j t m q w;have:c≠a:=by rintro rfl;exact f (g.dis j x c ⟨⟨t,m,q,w⟩,A⟩ y)
     exact⟨c,E,A,by rw[ao this];exact G,I,J⟩
 . have:c≠a:=by rintro rfl;exact n ⟨x,y⟩
   rw[ao this];exact q
 . by_cases f:j=x;.subst f;rw[e]at q;cases q;refine⟨_,getElem?_set_self s,?_⟩;cases b with|true=>exact .inl ⟨_,rfl⟩|false=>cases l
   .exact⟨t,by rw[dB f];exact q,.refl t⟩
theorem GS.lend{b:Bool}(g:GS K F ρ σ H)(e:ρ[i]?=some (.own b ds)):GS K F (ρ.set i (.lent ds)) σ H:=by
 have p:i<ρ.length:=(fJ e).1;have f:∀{j:Nat}{c:Addr},bf (ρ.set i (.lent ds)) σ j c->bf ρ σ j c:=λ{j c}⟨⟨t,m,h,o⟩,q3⟩=>by
  by_cases a:j=i;.subst a;exact⟨⟨_,_,e,rfl⟩,q3⟩
  .rw[dB a]at h;exact⟨⟨t,m,h,o⟩,q3⟩
 refine⟨g.sub,by simp[g.len],λj s d q=>?_,λj t m q r=>?_,λj k c h o=>g.dis j k c (f h) (f o)⟩
 . by_cases a:j=i;.subst a;rw[getElem?_set_self p]at q;cases q
   .rw[dB a]at q;exact g.val j s d q
 . by_cases a:j=i;.subst a;rw[getElem?_set_self p]at q;cases q;cases r;exact g.own j _ _ e rfl
   .rw[dB a]at q;exact g.own j t m q r
theorem aZ.aW{b:Bool}(g:GS K F ρ σ H)(e:ρ[i]?=some (.own b ds))(s:aZ K F (ρ.set i (.lent ds)) σ H F1 ρ1 σ1 H1):aZ K F ρ σ H F1 (ρ1.set i (.own b ds)) σ1 H1/\∀v r,bG K F1 ρ1 σ1 H1 (ρ.set i (.lent ds)) σ H v r->bG K F1 (ρ1.set i (.own b ds)) σ1 H1 ρ σ H v r:=by
 have E:i<ρ.length:=(fJ e).1;have h1:(ρ.set i (.lent ds))[i]?=some (.lent ds):=getElem?_set_self E;obtain⟨G,I,A,J⟩:=s.lk i _ h1 rfl;cases(show I=.lent ds from J);have u:i<ρ1.length:=(fJ A).1;have B:∀{j:Nat}{c:Addr},bf (ρ.set i (.lent ds)) σ j c->bf ρ σ j c:=λ{j c}⟨⟨t,y,f,p⟩,m⟩=>by
  by_cases a:j=i;.subst a;exact⟨⟨_,_,e,rfl⟩,m⟩
  .rw[dB a]at f;exact⟨⟨t,y,f,p⟩,m⟩
 have L:∀{c:Addr},Own ρ σ c->Own (ρ.set i (.lent ds)) σ c:=λ{c}⟨j,⟨t,y,f,p⟩,m⟩=>by
  by_cases a:j=i;.subst a;exact⟨j,⟨_,_,h1,rfl⟩,m⟩
  .exact⟨j,⟨t,y,by rw[dB a];exact f,p⟩,m⟩
 have z:∀{j:Nat}{c:Addr},bf (ρ1.set i (.own b ds)) σ1 j c->bf ρ1 σ1 j c:=λ{j c}⟨⟨t,y,f,p⟩,m⟩=>by
  by_cases a:j=i;.subst a;exact⟨⟨_,_,A,rfl⟩,m⟩
  .rw[dB a]at f;exact⟨⟨t,y,f,p⟩,m⟩
 have w:∀{c:Addr}{h:Hp},Own (ρ.set i (.lent ds)) σ c\/h c=none->Own ρ σ c\/h c=none:=λ{c h}q=>q.imp (λ⟨j,q⟩=>⟨j,B q⟩) id;have M:∀{c:Addr}{h:Hp},Own (ρ.set i (.lent ds)) σ c\/nt (h c)=none->Own ρ σ c\/nt (h c)=none:=λ{c h}q=>q.imp (λ⟨j,q⟩=>⟨j,B q⟩) id;refine⟨⟨⟨s.gs.sub,by simp[s.gs.len],λj N d q=>?_,λj t y q C=>?_,λj k c f p=>s.gs.dis j k c (z f) (z p)⟩,s.bI,λc n O=>M (s.oU c n O),λc o q n=>s.keep c o q λ⟨j,x⟩=>n ⟨j,B x⟩,λc⟨j,q⟩=>w (s.sE c ⟨j,z q⟩),by simpa using s.len,λj t q l=>?_⟩,λv r h=>?_⟩
 . by_cases a:j=i;.subst a;rw[getElem?_set_self u]at q;cases q
   .rw[dB a]at q;exact s.gs.val j N d q
 . by_cases a:j=i;.subst a;rw[getElem?_set_self u]at q;cases q;cases C;exact s.gs.own j _ _ A rfl
   .rw[dB a]at q;exact s.gs.own j t y q C
 . by_cases a:j=i;.subst a;rw[e]at q;cases q;refine⟨G,_,getElem?_set_self u,?_⟩;cases b with|true=>exact .inl ⟨_,rfl⟩|false=>cases l
   .obtain⟨Q,t',U,W⟩:=s.lk j t (by rw[dB a];exact q) l;exact⟨Q,t',by rw[dB a];exact U,W⟩
 .cases r with|val d=>exact h|own es=>obtain⟨x,xs,f,p,m,X,Y,Z⟩:=h;exact⟨x,xs,f,p,m,X,λ⟨j,q⟩=>Y ⟨j,z q⟩,w Z⟩
theorem GS.give(g:GS K F ρ σ H)(e:ρ[i]?=some (.own false ds)):∃v,σ[i]?=some (some v)/\aZ K F ρ σ H F (ρ.set i .aU) σ H/\bG K F (ρ.set i .aU) σ H ρ σ H v (.own ds):=by
 have o:i<ρ.length:=(fJ e).1;obtain⟨a,xs,h1,u,w,y⟩:=g.mV i _ ds e rfl;have f:∀{j:Nat}{c:Addr},bf (ρ.set i .aU) σ j c->bf ρ σ j c/\j≠i:=λ{j c}⟨⟨t,p,h,m⟩,q3⟩=>by
  by_cases b:j=i;.subst b;rw[getElem?_set_self o]at h;cases h;cases m
  .rw[dB b]at h;exact⟨⟨⟨t,p,h,m⟩,q3⟩,b⟩
 have r:bf ρ σ i a:=⟨⟨_,_,e,rfl⟩,h1⟩;refine⟨.ref a,h1,⟨⟨g.sub,by simp[g.len],λj z d q=>?_,λj t p q s=>?_,λj k c h m=>g.dis j k c (f h).1 (f m).1⟩,.refl _,λc n A=>absurd n A,λ_ _ q _=>q,λc⟨j,q⟩=>.inl ⟨j,(f q).1⟩,by simp,λj t q l=>⟨rfl,?_⟩⟩,a,xs,rfl,u,w,y,λ⟨j,q⟩=>?_,.inl ⟨i,r⟩⟩
 . by_cases b:j=i;.subst b;rw[getElem?_set_self o]at q;cases q
   .rw[dB b]at q;exact g.val j z d q
 . by_cases b:j=i;.subst b;rw[getElem?_set_self o]at q;cases q;cases s
   .rw[dB b]at q;exact g.own j t p q s
 . by_cases b:j=i;.subst b;rw[e]at q;cases q;cases l
   .exact⟨t,by rw[dB b];exact q,.refl t⟩
 .exact(f q).2 (g.dis j i a (f q).1 r)
theorem GS.more{τ:List (Option V)}(g:GS K F ρ σ H)(y:τ.length=n):GS K F (ρ++replicate n .aU) (σ++τ) H:=by
 have get:∀{j:Nat}{t:Sl},(ρ++replicate n Sl.aU)[j]?=some t->t≠.aU->ρ[j]?=some t/\j<ρ.length:=λ{j t}q ne=>by
  by_cases h:j<ρ.length;.rw[getElem?_append_left h]at q;exact⟨q,h⟩
  . rw[List.getElem?_append_right (by omega),List.getElem?_replicate]at q;split at q;.cases q;exact absurd rfl ne
    .cases q
 have o:∀{j:Nat}{v:Option V},j<ρ.length->(σ[j]?=some v↔(σ++τ)[j]?=some v):=λ{j v}h=>by rw[getElem?_append_left (by rw[<-g.len];exact h)]
 have e:∀{j:Nat}{c:Addr},bf (ρ++replicate n .aU) (σ++τ) j c->bf ρ σ j c:=λ{j c}⟨⟨t,p,r,m⟩,q3⟩=>by obtain⟨h1,f⟩:=get r (by rintro rfl;cases m);exact⟨⟨t,p,h1,m⟩,(o f).mpr q3⟩
 refine⟨g.sub,by simp[g.len,y],λj b d q=>?_,λj t p q w=>?_,λj k c r m=>g.dis j k c (e r) (e m)⟩;.obtain⟨h1,f⟩:=get q (by simp);obtain⟨v,s,u⟩:=g.val j b d h1;exact⟨v,(o f).mp s,u⟩
 .obtain⟨h1,f⟩:=get q (by rintro rfl;cases w);obtain⟨a,xs,s,u⟩:=g.own j t p h1 w;exact⟨a,xs,(o f).mp s,u⟩
theorem aZ.less{τ:List (Option V)}{m:Nat}(M:m=ρ.length)(g:GS K F ρ σ H)(hn:τ.length=n)(s:aZ K F (ρ++replicate n .aU) (σ++τ) H F1 ρ1 σ1 H1):aZ K F ρ σ H F1 (ρ1.take m) (σ1.take m) H1/\∀v r,bG K F1 ρ1 σ1 H1 (ρ++replicate n .aU) (σ++τ) H v r->bG K F1 (ρ1.take m) (σ1.take m) H1 ρ σ H v r:=by
 subst M;have N:ρ.length<=ρ1.length:=by rw[s.len];simp
 have l2:ρ.length<=σ1.length:=by rw[<-s.gs.len];exact N
 have A:∀{y:Type}{l:List y}{j:Nat}{x:y},(l.take ρ.length)[j]?=some x->l[j]?=some x/\j<ρ.length:=λ{y l j x}q=>by
  rw[List.getElem?_take]at q;split at q;.exact⟨q,by assumption⟩
  .cases q
 have C:∀{y:Type}{l:List y}{j:Nat}{x:y},j<ρ.length->l[j]?=some x->(l.take ρ.length)[j]?=some x:=λ{y l j x}f q=>by rw[List.getElem?_take,if_pos f];exact q
 have E:∀{c:Addr},Own (ρ++replicate n .aU) (σ++τ) c->Own ρ σ c:=λ{c}⟨j,⟨t,z,e,p⟩,u⟩=>by
  by_cases f:j<ρ.length;.rw[getElem?_append_left f]at e;rw[getElem?_append_left (by rw[<-g.len];exact f)]at u;exact⟨j,⟨t,z,e,p⟩,u⟩
  . rw[List.getElem?_append_right (by omega),List.getElem?_replicate]at e;split at e;.cases e;cases p
    .cases e
 have O:∀{c:Addr},Own ρ σ c->Own (ρ++replicate n .aU) (σ++τ) c:=λ{c}⟨j,⟨t,z,e,p⟩,u⟩=>by have f:j<ρ.length:=(fJ e).1;exact⟨j,⟨t,z,by rw[getElem?_append_left f];exact e,p⟩,by rw[getElem?_append_left (by rw[<-g.len];exact f)];exact u⟩
 have B:∀{j:Nat}{c:Addr},bf (ρ1.take ρ.length) (σ1.take ρ.length) j c->bf ρ1 σ1 j c:=λ{j c}⟨⟨t,z,e,p⟩,u⟩=>⟨⟨t,z,(A e).1,p⟩,(A u).1⟩;have w:∀{c:Addr}{h:Hp},Own (ρ++replicate n .aU) (σ++τ) c\/h c=none->Own ρ σ c\/h c=none:=λ{c h}q=>q.imp E id;have Q:∀{c:Addr}{h:Hp},Own (ρ++replicate n .aU) (σ++τ) c\/nt (h c)=none->Own ρ σ c\/nt (h c)=none:=λ{c h}q=>q.imp E id;refine⟨⟨⟨s.gs.sub,by simp only[List.length_take];omega,λj b d q=>?_,λj t z q U=>?_,λj k c e p=>s.gs.dis j k c (B e) (B p)⟩,s.bI,λc a b=>Q (s.oU c a b),λc o q n=>s.keep c o q λx=>n (E x),λc⟨j,q⟩=>w (s.sE c ⟨j,B q⟩),by simp only[List.length_take];omega,λj t q l=>?_⟩,λv r h=>?_⟩;.obtain⟨h1,G⟩:=A q;obtain⟨v,I,J⟩:=s.gs.val j b d h1;exact⟨v,C G I,J⟩
 .obtain⟨h1,G⟩:=A q;obtain⟨a,xs,I,J⟩:=s.gs.own j t z h1 U;exact⟨a,xs,C G I,J⟩
 .have f:j<ρ.length:=(fJ q).1;obtain⟨L,t',W,X⟩:=s.lk j t (by rw[getElem?_append_left f];exact q) l;rw[getElem?_append_left (by rw[<-g.len];exact f)]at L;refine⟨?_,t',C f W,X⟩;rw[List.getElem?_take,if_pos f];exact L
 .cases r with|val d=>exact h|own es=>obtain⟨x,xs,e,p,u,Y,Z,q6⟩:=h;exact⟨x,xs,e,p,u,Y,λ⟨j,q⟩=>Z ⟨j,B q⟩,w q6⟩
end
section
variable{X:Cx}{c:Call}{n:Nat}{e a b d:Expr}{p pa pb pd:P}{pos:Pos}{es:List Expr}{ps:List P}
inductive NB(K:PySem.W.Frag)(f:List Sl->Res (List Arg))(σ:L2.St)(H:Hp)(Q:List V->Hp->Prop):Prop where|mk(F:Hp)(ρ:List Sl)(as:List Arg)(ρ':List Sl)(g:GS K F ρ σ H)(e:f ρ=.ok as ρ')(k:∀vs F' H',aZ K F ρ σ H F' ρ' σ H'->nQ K F' ρ' σ H' ρ H as vs->Q vs H')
def SG(X:Cx)(c:Call)(es:List Expr)(ps:List P):Prop:=PA X es (NB X.K (qg c ps))
theorem aD:SG X c [] []:=jM cL λσ H Q⟨F,ρ,as,ρ',g,e,k⟩=>by rw[vm]at e;cases e;exact k [] F H (.refl g) .nil
theorem ym(m:SX X c a pa)(hr:SG X c es ps)(hs:starEach (a::es) X.env=(false,eval a X.env)::starEach es X.env:=by rfl):SG X c (a::es) (pa::ps):=by cases hv:isVar pa with|none=>refine jM (aV m.ev hr hs) ?_;rintro σ H Q⟨F,ρ,as,ρ',g,e,k⟩;rw[pY,hv]at e;obtain⟨r,f,o,e⟩:=aa e;obtain⟨xs,ρ2,h,e⟩:=aa e;cases e;refine⟨F,ρ,r,f,g,o,λv q B s1 s=>⟨q,f,xs,_,s1.gs,h,λvs F2 j s2 A=>k _ F2 j (s1.trans s2) (nQ.J2 s1 s s2 A)⟩⟩|some i=>refine jM (aV (m.var i hv) hr hs) ?_;rintro σ H Q⟨F,ρ,as,ρ',g,e,k⟩;rw[pY,hv]at e;obtain⟨C,t,u,e⟩:=aa e;obtain⟨w,y⟩:=aJ u;subst y;obtain⟨xs,ρ2,h,e⟩:=aa e;cases e;obtain⟨v,h1,_⟩:=g.pk w;exact⟨v,h1,F,ρ,xs,_,g,h,λvs F2 j s2 A=>k _ F2 j s2 (.cons h1 A λds x z=>by cases z)⟩
theorem xg{k f:Nat}{u:Addr}{fd:FuncData}{j:List Str}(J:iY X.prog X.w X.K X.mg X.base uL k u fd j (wU X.K j.length (c f)))(hr:fG k X.A)(L:Gl X x)(M:X.mg x=some (.ref u))(N:keepIn X.K (.ref u)=true)(O:Binds X.K fd j [])(U:SG X c (e::es) ps)(W:(e::es).length=j.length)(y:(x==("__debug__":Str))=false:=by decide)(he:starEach (e::es) X.env=(false,eval e X.env)::starEach es X.env:=by rfl)(hpl:(backTo pos (starEach es X.env)).any (·.1)=false:=by rfl)(z:ps.length=(e::es).length:=by rfl):SX X c (.Call (.Name x p') (e::es) [] pos) (.call f ps):=by
 refine⟨dO (rR (E:=E0) J hr L M N O .nil zO U y he hpl) ?_,λi h=>by cases h⟩;rintro σ H Q⟨F,ρ,r,ρ',g,e,k⟩;rw[HH.E16]at e;obtain⟨as,B,G,e⟩:=aa e;unfold jT at e;split at e;.cases e
 . rename_i args o;split at e
   . rename_i r' m hc;cases e;refine⟨F,ρ,as,B,g,G,λvs Y Z s1 A=>?_⟩;have t:vs.length=j.length:=by
      have:∀{ps:List P}{ρ ρ':List Sl}{as:List Arg},qg c ps ρ=.ok as ρ'->as.length=ps.length:=by intro ps;induction ps with|nil=>intro ρ ρ' as h;rw[vm]at h;cases h;rfl|cons q j I=>
         intro ρ ρ' as h;rw[pY]at h;split at h;.obtain⟨_,_,_,h⟩:=aa h;obtain⟨xs,ρ2,C,h⟩:=aa h;cases h;simp[I C]
         .obtain⟨_,_,_,h⟩:=aa h;obtain⟨xs,ρ2,C,h⟩:=aa h;cases h;simp[I C]
      rw[<-A.len,this G,z,W]
     show wU X.K j.length (c f) (vs++[]) Z Q E0;rw[append_nil];refine⟨t,Y,args,r,m,args_gs s1.gs A o,hc,λv F' ab H' s rr=>?_⟩;obtain⟨z1,z2⟩:=vQ s1 A o s;exact k v F' H' z1 (z2 v r rr)
   .cases e
   .cases e
def IW(K:PySem.W.Frag)(D:Ends)(h:Hp)(ρ':List Sl)(f:L2.St)(g:Hp)(ρ:List Sl)(σ:L2.St)(H:Hp)(j:Fl):Prop:=match j with|.next=>D.nx f g|.brk=>D.bk f g|.cont=>D.ct f g|.ret r=>∀v,bG K h ρ' f g ρ σ H v r->D.rt v g
inductive Eo(K:PySem.W.Frag)(f:List Sl->Res Fl)(D:Ends)(σ:L2.St)(H:Hp):Prop where|mk(F:Hp)(ρ:List Sl)(fl:Fl)(ρ':List Sl)(g:GS K F ρ σ H)(e:f ρ=.ok fl ρ')(k:∀F' σ' H',aZ K F ρ σ H F' ρ' σ' H'->IW K D F' ρ' σ' H' ρ σ H fl)
def SS(X:Cx)(c:Call)(n:Nat)(st:Stmt)(s:S):Prop:=PS X st (Eo X.K (ex c n s))
def SB(X:Cx)(c:Call)(n:Nat)(st:List Stmt)(s:List S):Prop:=kO X st (Eo X.K (eZ c n s))
theorem iz{st:Stmt}{t t':TS}(h:PS X st t)(i:∀D σ H,t' D σ H->t D σ H):PS X st t':=λf s σ H D I q=>h f s σ H D I (i D σ H q)
theorem pX{st:List Stmt}{t t':TS}(h:kO X st t)(i:∀D σ H,t' D σ H->t D σ H):kO X st t':=λf s σ H D I q=>h f s σ H D I (i D σ H q)
theorem xs0{c:Call}:eZ c n [] ρ=.ok .next ρ:=rfl
theorem KH{c:Call}{s:S}{r:List S}:eZ c n (s::r) ρ=(ex c n s ρ).bind λfl ρ=>match fl with|.next=>eZ c n r ρ|fl=>.ok fl ρ:=rfl
theorem aq:SB X c n [] []:=pX lZ λD σ H⟨F,ρ,fl,ρ',g,e,k⟩=>by rw[xs0]at e;cases e;exact k F σ H (.refl g)
theorem bN{st:Stmt}{s:S}{f:List Stmt}{ss:List S}(h1:SS X c n st s)(t:SB X c n f ss):SB X c n (st::f) (s::ss):=by refine pX (dW h1 t) ?_;rintro D σ H⟨F,ρ,o,ρ',g,e,k⟩;rw[KH]at e;obtain⟨f1,h,j,e⟩:=aa e;cases f1 with
 |next=>refine⟨F,ρ,.next,h,g,j,λu w A s1=>⟨u,h,o,ρ',s1.gs,e,λF2 m y s2=>?_⟩⟩;have q:=k F2 m y (s1.trans s2);cases o with|next=>exact q|brk=>exact q|cont=>exact q|ret r=>exact λv z=>q v (z.later s1)
 |brk=>cases e;exact⟨F,ρ,.brk,_,g,j,k⟩|cont=>cases e;exact⟨F,ρ,.cont,_,g,j,k⟩|ret r=>cases e;exact⟨F,ρ,.ret r,_,g,j,k⟩
theorem o7{st:Stmt}:SS X c n st .bad:=iz vy λD σ H⟨F,ρ,fl,ρ',g,e,k⟩=>by rw[HH.X4]at e;cases e
theorem Ji{t1 g:TE}(h1:PE X e t1)(j:PE X e g):PE X e (λσ H Q=>t1 σ H Q\/g σ H Q):=λf s σ H Q I h=>h.elim (h1 f s σ H Q I) (j f s σ H Q I)
theorem Eg(he:SX X c e p):SS X c n (.Return (some e) pos) (.ret p):=by
 have plain:∀(D:Ends)(σ:L2.St)(H:Hp),(∃F ρ h ρ',GS X.K F ρ σ H/\((HH.ev c p ρ).bind λr ρ=>.ok (Fl.ret r) ρ)=.ok h ρ'/\∀m f j,aZ X.K F ρ σ H m ρ' f j->(match h with|.next=>D.nx f j|.brk=>D.bk f j|.cont=>D.ct f j|.ret r=>∀v,bG X.K m ρ' f j ρ σ H v r->D.rt v j))->wG X.K (HH.ev c p) σ H D.rt:=λD σ H⟨F,ρ,h,ρ',g,e,k⟩=>by obtain⟨r,o,s,e⟩:=aa e;cases e;exact⟨F,ρ,r,_,g,s,λv t u s1 w=>k t σ u s1 v w⟩
 cases hv:isVar p with|none=>refine iz (uA he.ev) λD σ H⟨F,ρ,h,ρ',g,e,k⟩=>plain D σ H ⟨F,ρ,h,ρ',g,?_,k⟩;rw[HH.Lh,hv]at e;exact e|some i=>--by the name itself:its own list is handed back,else its data
   have y:p=.var i:=by cases p<;>cases hv;rfl
   subst y;refine iz (uA (Ji (he.var i hv) he.ev)) ?_;rintro D σ H⟨F,ρ,h,ρ',g,e,k⟩;rw[HH.Lh,hv]at e;dsimp only at e;split at e;.rename_i ds q;cases e;obtain⟨v,h1,z,A⟩:=g.give q;exact .inl ⟨v,h1,k F σ H z v A⟩
   .exact .inr (plain D σ H ⟨F,ρ,h,ρ',g,e,k⟩)
theorem cH{s t:List Stmt}{u w:List S}(hc:ST X c e p)(y:SB X c n s u)(z:SB X c n t w):SS X c n (.If e s t pos) (.ifs p u w):=by refine iz (zJ hc y z) ?_;rintro D σ H⟨F,ρ,m,ρ',g,e,k⟩;rw[HH.Py]at e;obtain⟨x,j,A,e⟩:=aa e;refine⟨F,ρ,x,j,g,A,λB C s1=>?_⟩;have go:∀{f:List Sl->Res Fl},f j=.ok m ρ'->Eo X.K f D σ C:=λ{f}h=>⟨B,j,m,ρ',s1.gs,h,λF2 o E s2=>by have q:=k F2 o E (s1.trans s2);cases m with|next=>exact q|brk=>exact q|cont=>exact q|ret r=>exact λv G=>q v (G.later s1)⟩;cases x with|true=>rw[if_pos rfl]at e;exact go e|false=>rw[if_neg Bool.false_ne_true]at e;exact go e
theorem CP{f:Pos}(m:X.N.Nodup)(o:X.N[i]?=some x)(hx:Loc X.env.scope x)(he:SX X c e p)(hs:swapsWith e (some (.Name x f)) pos.line X.env=pure false:=by rfl)(q:X.fn x=true\/X.env.scope.names.lookup x=some .local:=by first|exact .inl rfl|exact .inr rfl|assumption):SS X c n (.Assign [.Name x f] e pos) (.asg i p):=by refine iz (wj m o hx he.ev hs q) ?_;rintro D σ H⟨F,ρ,A,ρ',g,e,k⟩;rw[HH.X6]at e;obtain⟨r,j,s,e⟩:=aa e;obtain⟨ρ2,t,h,e⟩:=aa e;cases e;have u:=aJ h;clear h;obtain⟨h,B⟩:=u;exact⟨F,ρ,r,j,g,s,λv w y s1 z=>k w _ y (s1.put z h)⟩
end
end HH
end
section
namespace L2
open PySem PySem.Spec PyProof.Rows
variable{env:Env}{scope:Scope}
noncomputable def nZ(X:Cx)(scope:Scope)(N':List Str)(cl:List (Str×Addr))(C:Addr)(s₀:Shared)(H₀:Hp)(ex:List Addr):Cx:={X with N:=N',s₀:=s₀,H₀:=H₀,env:=compEnvC scope cl C X.env,outer:=X.stack,stack:=X.stack,ex:=ex,fn:=λx=>scope.names.lookup x==some .cell,pn:=[],xe:=λ_ _=>False}
theorem qm(l:List (Str×NameKind)):∀(b:List (Str×Addr)),(∀n,(n,NameKind.free)∈l->∃c,env.cells.lookup n=some c)->(∀n c,b.lookup n=some c->env.cells.lookup n=some c)->∃ cl,(forIn l b (λ(x:Str × NameKind)(r:List (Str × Addr))=>(if(x.2==NameKind.free)=true then(do let a<-cellOf env x.1;pure (ForInStep.yield ((x.1,a)::r)))else pure (ForInStep.yield r):Sem (ForInStep (List (Str × Addr))))):Sem (List (Str × Addr)))=pure cl/\(∀n c,cl.lookup n=some c->env.cells.lookup n=some c)/\(∀n,((n,NameKind.free)∈l\/(b.lookup n).isSome)->(cl.lookup n).isSome):=by induction l with|nil=>intro b _ h;exact⟨b,rfl,h,λn hn=>by rcases hn with hn|hn;cases hn;exact hn⟩|cons y l j=>
   obtain⟨n,k⟩:=y;intro b f hc;rw[forIn_cons];by_cases g:k=.free
   . subst g;obtain⟨a,o⟩:=f n mem_cons_self;obtain⟨cl,e,h1,i⟩:=j ((n,a)::b) (λm hm=>f m (mem_cons_of_mem _ hm)) λm c hm=>by
      rw[lookup_cons]at hm;split at hm;.rename_i q;have q:=eq_of_beq q;subst q;cases hm;exact o
      .exact hc m c hm
     refine⟨cl,?_,h1,λm hm=>i m ?_⟩
     . rw[<-e];have:cellOf env n=pure a:=by unfold cellOf;rw[o]
       simp only[beq_self_eq_true,if_true,this];rfl
     . rcases hm with hm|hm
       . rcases mem_cons.mp hm with hm|hm;.cases hm;right;simp[lookup_cons]
         .exact .inl hm
       . right;rw[lookup_cons];split;.rfl
         .exact hm
   . obtain⟨cl,e,h1,i⟩:=j b (λm hm=>f m (mem_cons_of_mem _ hm)) hc;refine⟨cl,?_,h1,λm hm=>i m ?_⟩
     . rw[<-e];have:(k==NameKind.free)=false:=by simpa using g
       simp only[this,false_eq_true,if_false];rfl
     . rcases hm with hm|hm
       . rcases mem_cons.mp hm with hm|hm;.cases hm;exact absurd rfl g
         .exact .inl hm
       .exact .inr hm
theorem qd(a:∀n,(n,NameKind.free)∈scope.names->∃c,env.cells.lookup n=some c):∃cl,closureFor scope env=pure cl/\(∀n c,cl.lookup n=some c->env.cells.lookup n=some c)/\∀n,(n,NameKind.free)∈scope.names->(cl.lookup n).isSome:=by obtain⟨cl,e,h1,b⟩:=qm (env:=env) scope.names [] a (by simp);refine⟨cl,?_,h1,λn f=>b n (.inl f)⟩;unfold closureFor;exact(congrArg (λt=>t>>=λr=>pure r) e).trans rfl
theorem cC{env:Env}:∀(names:List (Str×NameKind))(x:Str),(names.map λ(n,k)=>if(k==NameKind.free&&env.scope.kind==.function&&env.kindOf n==some .cell)then(n,NameKind.cell)else(n,k)).lookup x=(names.lookup x).map λk=>if(k==NameKind.free&&env.scope.kind==.function&&env.kindOf x==some .cell)=true then NameKind.cell else k
 |[],x=>rfl|(n,k)::r,x=>by
   have a:=cC (env:=env) r x;show List.lookup x ((if(k==NameKind.free&&env.scope.kind==.function&&env.kindOf n==some .cell)=true then(n,NameKind.cell)else(n,k))::_)=_;by_cases hc:(k==NameKind.free&&env.scope.kind==.function&&env.kindOf n==some .cell)=true;.rw[if_pos hc,lookup_cons,lookup_cons];cases hx:x==n with|true=>have:=eq_of_beq hx;subst this;show some NameKind.cell=some (if _ then _ else _);rw[if_pos hc]|false=>exact a
   .rw[if_neg hc,lookup_cons,lookup_cons];cases hx:x==n with|true=>have:=eq_of_beq hx;subst this;show some k=some (if _ then _ else _);rw[if_neg hc]|false=>exact a
noncomputable def HS(N N':List Str)(a:Scope):Bool:=(N.zip N').all λp=>(p.1==p.2&&a.names.lookup p.2==some .free)||(a.names.lookup p.2!=some .local&&a.names.lookup p.2!=some .cell&&a.names.lookup p.2!=some .free)
structure dg(X:Cx)(scope:Scope)(N':List Str)(n:Nat):Prop where
 kind:scope.kind=.function
 cons:∀y∈scope.names,scope.names.lookup y.1=some y.2
 names:∀y∈scope.names,y.2=.local->scope.names.lookup y.1=some .local
 cap:∀y∈scope.names,y.2=.free->X.env.scope.names.lookup y.1=some .cell\/X.env.scope.names.lookup y.1=some .free
 len:N'.length=X.N.length+n
 same:HS X.N N' scope=true
theorem dg.get{X:Cx}{N':List Str}{n:Nat}(c:dg X scope N' n){i:Nat}{x:Str}(g:i<X.N.length)(h:N'[i]?=some x)(a:vM (relabel scope X.env) x):X.N[i]?=some x/\scope.names.lookup x=some .free:=by
 have j:(X.N.zip N')[i]?=some (X.N[i],x):=by rw[List.getElem?_zip_eq_some];exact⟨by simp[g],h⟩
 have:=(all_eq_true.mp c.same) _ (mem_of_getElem? j);simp only[or_eq_true,and_eq_true]at this;rcases this with⟨h1,b⟩|⟨⟨h1,b⟩,f⟩;.have h1:=eq_of_beq h1;have b:=eq_of_beq b;exact⟨by simp[g,h1],b⟩
 . exfalso;have h1:scope.names.lookup x≠some .local:=by simpa using h1
   have b:scope.names.lookup x≠some .cell:=by simpa using b
   have f:scope.names.lookup x≠some .free:=by simpa using f
   have e:=cC (env:=X.env) scope.names x;have a:(relabel scope X.env).names.lookup x=some .local\/(relabel scope X.env).names.lookup x=some .cell\/(relabel scope X.env).names.lookup x=some .free:=a;rw[show(relabel scope X.env).names.lookup x=_ from e]at a;cases q:scope.names.lookup x with|none=>rw[q]at a;simp at a|some k=>
     rw[q]at a h1 b f;have m:(k==NameKind.free)=false:=by cases k<;>first|rfl|exact absurd rfl f
     simp only[Option.map_some,m,Bool.false_and,false_eq_true,if_false,Option.some.injEq]at a;rcases a with rfl|rfl|rfl;.exact h1 rfl
     .exact b rfl
     .exact f rfl
structure CI(cl:List (Str×Addr))(z:Nat)(h:Heap)(acc:List (Str×Addr)):Prop where from':∀n c,acc.lookup n=some c->cl.lookup n=some c\/(z<=c/\h.IsCell c none)inj:∀n n' c,acc.lookup n=some c->acc.lookup n'=some c->n=n'
theorem um{cl:List (Str×Addr)}{z:Nat}(i:∀n c,cl.lookup n=some c->c<z):∀(names:List (Str×NameKind))(h:Heap)(f:List (Str×Addr)),z<=h.objs.size->CI cl z h f->CI cl z (pushCells h names) (cellsFrom h.objs.size names f)/\(∀n,(f.lookup n).isSome->((cellsFrom h.objs.size names f).lookup n).isSome)/\(∀n,((∃c,f.lookup n=some c/\z<=c)\/(n,NameKind.cell)∈names)->∃c,(cellsFrom h.objs.size names f).lookup n=some c/\z<=c)/\(∀n c,(n,NameKind.cell)∉names->(cellsFrom h.objs.size names f).lookup n=some c->f.lookup n=some c)
 |[],h,f,j,x=>by
   refine⟨x,λ_ q=>q,λn q=>?_,λ_ _ _ q=>q⟩;rcases q with q|q;.exact q
   .cases q|(name,kind)::r,h,f,j,x=>by
   unfold pushCells cellsFrom;by_cases p:kind=.cell
   . subst p;rw[if_pos (by rfl),if_pos (by rfl)];have hx:CI cl z (h.push {cls:=.type "cell",data:=.cell none}) ((name,h.objs.size)::f):=by
      have lt:∀n c,f.lookup n=some c->c<h.objs.size:=λn c e=>by
       rcases x.from' n c e with q|q;.exact lt_of_lt_of_le (i n c q) j
       .exact q.2.lt
      refine⟨λn c e=>?_,λn s c e k=>?_⟩
      . rw[lookup_cons]at e;split at e;.cases e;exact .inr ⟨j,_,get?_push_size _ rfl,rfl⟩
        . rcases x.from' n c e with q|q;.exact .inl q
          .exact .inr ⟨q.1,q.2.keeps λb o e=>dH e⟩
      . rw[lookup_cons]at e k;split at e<;>split at k;.rename_i _ a _ b;rw[eq_of_beq a,eq_of_beq b]
        .cases e;exact absurd (lt s _ k) (lt_irrefl _)
        .cases k;exact absurd (lt n _ e) (lt_irrefl _)
        .exact x.inj n s c e k
     have g:=um i r (h.push {cls:=.type "cell",data:=.cell none}) ((name,h.objs.size)::f) (by rw[size_push];omega) hx;rw[size_push]at g;refine⟨g.1,λn q=>g.2.1 n ?_,λn q=>g.2.2.1 n ?_,λn c q e=>?_⟩
     . rw[lookup_cons];split;.rfl
       .exact q
     . rcases q with⟨c,e,hc⟩|q
       . left;rw[lookup_cons];split;.exact⟨_,rfl,j⟩
         .exact⟨c,e,hc⟩
       . rcases mem_cons.mp q with q|q;.cases q;left;exact⟨_,by simp[lookup_cons],j⟩
         .exact .inr q
     . have:=g.2.2.2 n c (λz=>q (mem_cons_of_mem _ z)) e;rw[lookup_cons]at this;split at this;.rename_i a;exact absurd (by rw[eq_of_beq a];exact mem_cons_self) q
       .exact this
   . have m:(kind==NameKind.cell)=false:=by simpa using p
     rw[if_neg (by rw[m];decide),if_neg (by rw[m];decide)];have g:=um i r h f j x;refine⟨g.1,g.2.1,λn q=>g.2.2.1 n ?_,λn c q e=>g.2.2.2 n c (λz=>q (mem_cons_of_mem _ z)) e⟩;rcases q with q|q;.exact .inl q
     . rcases mem_cons.mp q with q|q;.cases q;exact absurd rfl p
       .exact .inr q
structure vg(X:Cx)(scope:Scope)(z:Nat)(h:Heap)(cs:List (Str×Addr)):Prop where
 from':∀n c,cs.lookup n=some c->X.env.cells.lookup n=some c\/(z<c/\h.IsCell c none)inj:∀n n' c,cs.lookup n=some c->cs.lookup n'=some c->n=n'
 has:∀n,(scope.names.lookup n=some .free\/scope.names.lookup n=some .cell)->∃c,cs.lookup n=some c
 fre:∀n c,scope.names.lookup n=some .free->cs.lookup n=some c->X.env.cells.lookup n=some c
 own:∀n c,scope.names.lookup n=some .cell->cs.lookup n=some c->z<c
theorem sS{M:Model}{A:Around}{E:Value->Shared->Prop}{X:Cx}{s:Shared}{N':List Str}{n:Nat}{cl:List (Str×Addr)}{Q:Env->Shared->Prop}(ok:dg X scope N' n)(h:∀n c,X.env.cells.lookup n=some c->c<s.heap.objs.size)(f:∀x y c,X.env.cells.lookup x=some c->X.env.cells.lookup y=some c->x=y)(a:∀n c,cl.lookup n=some c->X.env.cells.lookup n=some c)(p:∀n,(n,NameKind.free)∈scope.names->(cl.lookup n).isSome)(r:∀ k h',h'.Ns s.heap.objs.size (λ_=>none)->(∀ b o,s.heap.get? b=some o->h'.get? b=some o)->vg X scope s.heap.objs.size h' k->Q {scope:=scope,locals:=s.heap.objs.size,globals:=X.env.globals,cells:=k,qual:=X.env.qual,func:=none,code:=X.env.code,frame:=X.env.frame,builtins:=X.env.builtins} {s with heap:=h'}):wpAny M A (newFunctionEnv scope X.env.globals cl [] X.env.qual none .none (some X.env)) Q E s:=by
 simp only[newFunctionEnv,Option.isSome_some,if_true];refine wpAny_bind (wpAny_alloc ?_);refine wpAny_bind (wpAny_layCells _ (λname kind cells=>by cases i:kind==NameKind.cell<;>simp[i]) _ _ _ _ ?_);have t:=um (cl:=cl) (z:=s.heap.objs.size+1) (λn c e=>Nat.lt_succ_of_lt (h n c (a n c e))) scope.names (s.heap.push {cls:=.type "dict",data:=.dict #[]}) cl (by rw[size_push];exact fO) ⟨λn c e=>.inl e,λn m c e g=>f n m c (a n c e) (a m c g)⟩;obtain⟨c1,c2,c3,c4⟩:=t;rw[show({s with heap:=s.heap.push {cls:=.type "dict",data:=.dict #[]}}:Shared).heap.objs.size=(s.heap.push {cls:=.type "dict",data:=.dict #[]}).objs.size from rfl];refine wpAny_bind ?_;rw[forIn_nil];refine wpAny_pure (wpAny_pure (r _ _ ((Heap.Ns.new s.heap (.type "dict")).keeps (pushCells_keeps _ _)) (λb o e=>pushCells_keeps _ _ b o (dH e)) ⟨λn c e=>?_,c1.inj,λn q=>?_,λn c q e=>?_,λn c q e=>?_⟩))
 . rcases c1.from' n c e with z|z;.exact .inl (a n c z)
   .exact .inr ⟨z.1,z.2⟩
 . rcases q with q|q;.exact Option.isSome_iff_exists.mp (c2 n (p n (PySem.mem_of_lookup q)))
   .obtain⟨c,e,_⟩:=c3 n (.inr (PySem.mem_of_lookup q));exact⟨c,e⟩
 .refine a n c (c4 n c (λz=>?_) e);have:=ok.cons _ z;rw[q]at this;cases this
 .obtain⟨u,g,j⟩:=c3 n (.inr (PySem.mem_of_lookup q));rw[e]at g;cases g;exact j
section
variable{X:Cx}{pins:List (Addr×Obj)}{σ:L2.St}{H:Hp}{s:Shared}{scope:Scope}{N':List Str}{n:Nat}{fp:List Addr}{cl:List (Str×Addr)}
theorem wC{h1:Heap}{m:Str->Option Value}{t:Nat}{Q:List (Str×Addr)}(ok:dg X scope N' n)(I:Inv X pins σ H s)(G:∀b∈fp,iH X pins H b/\b<s.heap.objs.size)(w:vg X scope s.heap.objs.size h1 Q)(U:h1.Ns s.heap.objs.size m)(j:∀b u,s.heap.get? b=some u->h1.get? b=some u):Inv (nZ X scope N' Q s.heap.objs.size s H fp) [] (σ++replicate n none) H {s with heap:=h1,toks:=t}:=by
 have W:∀x,scope.names.lookup x=some .free->(relabel scope X.env).names.lookup x=some .cell\/(relabel scope X.env).names.lookup x=some .free:=λx h=>by
  have e:=cC (env:=X.env) scope.names x;rw[h]at e;have J:(relabel scope X.env).names.lookup x=_:=e;rw[J];simp only[Option.map_some];split;.exact .inl rfl
  .exact .inr rfl
 refine⟨⟨I.ok.mod,ok.kind,I.ok.glob,I.ok.blt,fO,λx y c h1 Y=>w.inj x y c h1 Y,λx hx=>?_,λx c h e=>le_of_lt (w.own x c (eq_of_beq (show(scope.names.lookup x==some NameKind.cell)=true from h)) e),I.ok.hd,I.ok.frames,.inl rfl,λb A=>?_,I.bs,le_trans I.ok.Ah I.sz,λb u e A=>?_,λb A L=>?_,I.stack,I.rY⟩,rfl,I.bare,Un.kept j,⟨m,U,λi x v Z B hv=>?_⟩,λx c e=>?_,I.hok.fresh (fO),λx c e=>?_,λp hp=>(by cases hp),I.hok.kept j,?_⟩;.--a Kg name has its cell
   have hx:(relabel scope X.env).names.lookup x=some .cell\/(relabel scope X.env).names.lookup x=some .free:=hx;have e:=cC (env:=X.env) scope.names x;have J:(relabel scope X.env).names.lookup x=_:=e;rw[J]at hx;refine w.has x ?_;cases q:scope.names.lookup x with|none=>rw[q]at hx;simp at hx|some k=>
     rw[q]at hx;by_cases hk:k=.free;.rw[hk];exact .inl rfl
     . have g:(k==NameKind.free)=false:=by simpa using hk
       simp only[Option.map_some,g,Bool.false_and,false_eq_true,if_false,Option.some.injEq]at hx;rcases hx with rfl|rfl;.exact .inr rfl
       .exact absurd rfl hk
 . obtain⟨f,lt⟩:=G b A;refine⟨ne_of_lt lt,λx c e=>?_⟩;rcases w.from' x c e with e|e;.exact f.2.2.2.2.1 x c e
   .rintro rfl;exact absurd (Nat.lt_trans e.1 lt) (lt_irrefl _)
 . obtain⟨f,lt⟩:=G b A;rcases f.2.2.2.1 with h|h;.exact I.ok.wI b u e h
   .have this:b<X.base.objs.size:=lt_size e;exact absurd (lt_of_lt_of_le this (le_trans I.ok.Ah h)) (lt_irrefl _)
 . obtain⟨f,lt⟩:=G b A;rcases mem_cons.mp (I.mq b L)with h|h;.exact f.2.1 h
   .exact f.2.2.1 h
 .--the names
   have F:i<σ.length:=by
    by_cases F:i<σ.length;.exact F
    .rw[List.getElem?_append_right (by omega),List.getElem?_replicate]at B;split at B<;>cases B
   rw[getElem?_append_left F]at B;obtain⟨M,o⟩:=ok.get (by rw[<-I.len];exact F) Z hv;have hk:=ok.cap (x,.free) (PySem.mem_of_lookup o) rfl;obtain⟨m0,ab,hl⟩:=I.loc;obtain⟨u,r,l⟩:=hl i x v M B (.inr hk);refine⟨u,r,.inr ⟨W x o,?_⟩⟩;rcases l with⟨g,_⟩|⟨_,c,hc,z⟩;.have g:X.env.scope.names.lookup x=some .local:=g;rcases hk with hk|hk<;>(rw[g]at hk;cases hk)
   .obtain⟨c',C⟩:=w.has x (.inl o);have:=w.fre x c' o C;rw[hc]at this;cases this;refine⟨c,C,?_⟩;obtain⟨E,N,O⟩:=z;exact⟨E,j c E N,O⟩
 . rcases w.from' x c e with e|e;.obtain⟨v,E,N,O⟩:=I.cell x c e;exact⟨v,E,j c E N,O⟩
   .exact⟨_,e.2⟩
 . rcases w.from' x c e with e|e;.exact I.fu x c e
   .exact I.hok.fresh (le_of_lt e.1)
 .show(σ++replicate n none).length=N'.length;rw[length_append,List.length_replicate,I.len,ok.len]
theorem mC{prog:Program}{w:World}{A:Around}{R:Result->Shared->Prop}{q a iter:Expr}{ifs:List Expr}{pos:Pos}{C t:Value}(I:Nat->Shared->Prop)(u:∀ n s,I n s->wpAny (model prog w) A (pyNext C) (λr b=>match r with|none=>R (.ok .next) b|some v=>wpAny (model prog w) A (letOwnedTupleGo a C v) (λ_ b=>wpAny (model prog w) A (assign a env v) (λ_ j=>wpAny (model prog w) A (forIn ifs true λc r=>if r=true then do let ok<-isTrue c env (eval c env);pure (ForInStep.yield ok)else pure (ForInStep.yield r)) (λok g=>if ok=true then wpAny (model prog w) A (eval q env) (λx k=>wpAny (model prog w) A (call (.builtin "list.append") [t,x]) (λ_ o=>∃m,m<n/\I m o) (notedBy (model prog w) A env λe i=>R (.error e) i) k) (notedBy (model prog w) A env λe i=>R (.error e) i) g else ∃m,m<n/\I m g) (notedBy (model prog w) A env λe i=>R (.error e) i) j) (notedBy (model prog w) A env λe i=>R (.error e) i) b) (notedBy (model prog w) A env λe i=>R (.error e) i) b) (notedBy (model prog w) A env λe i=>R (.error e) i) s)(n:Nat){s:Shared}(h:I n s):codeAny (model prog w) A (.compLoop (.ListComp q [⟨a,iter,ifs,0⟩] scope pos) 0 C t env) R s:=by refine codeAny_loop rfl I (λn s E=>?_) n h;show wpAny _ A ((compTurn (.ListComp q [⟨a,iter,ifs,0⟩] scope pos) 0 C t env).onRaise (λx=>do noteFrame x env;theTreesLotGoes x)) _ _ s;refine wpAny_noted ?_;rw[compTurn_list];refine wpAny_bind (wpAny_standAt (wpAny_bind (wpAny_mono (u n s E) (λr b f=>?_) λ_ _ h'=>h')));cases r with|none=>exact wpAny_pure f|some v=>refine wpAny_bind (wpAny_mono f (λ_ b f=>?_) λ_ _ h'=>h');refine wpAny_bind (wpAny_mono f (λ_ j y=>wpAny_bind (wpAny_mono y (λok g p=>?_) λ_ _ h'=>h')) λ_ _ h'=>h');cases ok with|false=>exact wpAny_pure ⟨rfl,p⟩|true=>exact wpAny_bind (wpAny_bind (wpAny_mono p (λx k z=>wpAny_bind (wpAny_mono z (λ_ o B=>wpAny_pure (wpAny_pure ⟨rfl,B⟩)) λ_ _ h'=>h')) λ_ _ h'=>h'))
def G9(X:Cx)(ifs:List Expr)(t:TT):Prop:=∀(pins:List (Addr × Obj))(s:Shared)(σ:L2.St)(H:Hp)(Q:Bool->Hp->Prop),Inv X pins σ H s->t σ H Q->wpAny (model X.prog X.w) X.A (forIn ifs true λc r=>if r=true then do let ok<-isTrue c X.env (eval c X.env);pure (ForInStep.yield ok)else pure (ForInStep.yield r)) (TP X pins σ Q) X.xe s
theorem yH{X:Cx}:G9 X [] (λ_ H Q=>Q true H):=λpins s σ H Q I h=>wpAny_tests_nil ⟨H,I,h⟩
def zY(J:It)(g:TG)(tt:TT)(te:TE)(D:Addr)(Q:Hp->Prop)(W:Nat->Nat->List V->L2.St->Hp->Prop):Prop:=∀ i m ys σ H,W i m ys σ H->H D=some (.lst ys)/\((J.stop i H/\Q H)\/(J.go i H/\∀ x e,J.wZ i H x e->g x σ e λa j=>tt a j λb f=>if b=true then te a f λy h=>h D=some (.lst ys)/\ys.length<sizeLine/\∃c,c<m/\W (i+1) c (ys++[y]) a (upd h D (.lst (ys++[y])))else ∃c,c<m/\W (i+1) c ys a f))
theorem lJ{E:Value->Shared->Prop}{ae a iter:Expr}{ifs:List Expr}{pos:Pos}{it:Addr}{tn:Nat->Heap->Prop}{J:It}{g:TG}{tt:TT}{te:TE}{Q:Addr->Hp->Prop}{RR:Value->Addr->Result->Shared->Prop}(hc:X.calm=true)(ok:dg X scope N' n)(I:Inv X pins σ H s)(aI:∀n c,cl.lookup n=some c->X.env.cells.lookup n=some c)(qu:∀n,(n,NameKind.free)∈scope.names->(cl.lookup n).isSome)(T:Turn X.prog X.w X.K a J fp it tn)(h0:tn 0 s.heap)(hf:∀b∈fp,iH X pins H b)(hg:∀cl C s₀ H₀ ex,PG (nZ X scope N' cl C s₀ H₀ ex) a g)(ht:∀cl C s₀ H₀ ex,G9 (nZ X scope N' cl C s₀ H₀ ex) ifs tt)(he:∀cl C s₀ H₀ ex,PE (nZ X scope N' cl C s₀ H₀ ex) ae te)(hw:∀D,H D=none->∃W,(∃m,W 0 m [] (σ++replicate n none) (upd H D (.lst [])))/\zY J g tt te D (Q D) W)(aS:∀D C F B,Q D B->(∃m,F.heap.Ns C m)->iH X pins B C->Inv X pins σ B F->RR (.ref D) C (.ok .next) F):wpAny (model X.prog X.w) X.A (newList []) (λap ar=>wpAny (model X.prog X.w) X.A (newFunctionEnv scope X.env.globals cl [] X.env.qual none .none (some X.env)) (λag av=>codeAny (model X.prog X.w) X.A (.compStart (.ListComp ae [⟨a,iter,ifs,0⟩] scope pos) 0 (.ref it) ap {ag with scope:=relabel scope X.env}) (RR ap ag.locals) av) E ar) E s:=by
 refine wpAny_newObj_type (sS ok (λx c e=>?lt) I.ok.inj aI qu (λcs M ah hold bc=>?_));case lt=>obtain⟨v,z⟩:=I.cell x c e;exact lt_of_lt_of_le z.lt (by show _<=(s.heap.push _).objs.size;rw[size_push];exact Nat.le_succ _)
 dsimp only at ah hold bc ⊢--the new list,tracked
 have I3:Inv X pins σ (upd H s.heap.objs.size (.lst [])) {s with heap:=s.heap.push {cls:=.type "list",data:=.seq ([]:List Value).toArray}}:=I.CW (t':=s.toks) .nil (Gi);generalize ai:({s with heap:=s.heap.push {cls:=.type "list",data:=.seq ([]:List Value).toArray}}:Shared)=s3 at I3;have aT:s3.heap.objs.size=s.heap.objs.size+1:=by rw[<-ai];exact size_push _ _
 have Al:s3.heap=s.heap.push {cls:=.type "list",data:=.seq ([]:List Value).toArray}:=by rw[<-ai]
 obtain⟨W,⟨m0,w0⟩,aw⟩:=hw s.heap.objs.size I.fresh;have RV:∀{h':Heap},(∀b o,s.heap.get? b=some o->h'.get? b=some o)->tn 0 h':=λk=>T.keep _ _ _ h0 λb j o e=>k b o e;have Mt:∀b∈fp,iH X pins (upd H s.heap.objs.size (.lst [])) b/\b<s3.heap.objs.size:=λb j=>by obtain⟨o,e,_⟩:=T.obj 0 _ h0 b j;have lt:=lt_size e;obtain⟨f1,f2⟩:=hf b j;exact⟨⟨by rw[ao (ne_of_lt lt)];exact f1,f2⟩,by rw[aT];exact Nat.lt_succ_of_lt lt⟩
 rw[<-Al]at ah hold bc ⊢;have I4:=wC (t:=s3.toks) ok I3 Mt bc ah hold;have Kh:∀b o,s.heap.get? b=some o->M.get? b=some o:=λb o e=>hold b o (by rw[Al];exact dH e);generalize U:nZ X scope N' cs s3.heap.objs.size s3 (upd H s.heap.objs.size (.lst [])) fp=G at I4;have hA:G.A=X.A:=by rw[<-U];rfl
 have N:G.prog=X.prog:=by rw[<-U];rfl
 have O:G.w=X.w:=by rw[<-U];rfl
 have ax:G.K=X.K:=by rw[<-U];rfl
 have Y:G.calm=true:=by rw[<-U];exact hc
 have a8:G.xe=λ_ _=>False:=by rw[<-U];rfl
 have ay:G.env=compEnvC scope cs s3.heap.objs.size X.env:=by rw[<-U];rfl
 have a9:PG G a g:=by rw[<-U];exact hg _ _ _ _ _
 have bg:G9 G ifs tt:=by rw[<-U];exact ht _ _ _ _ _
 have bi:PE G ae te:=by rw[<-U];exact he _ _ _ _ _
 have ff:∀{B:Hp}{b:Addr},b∈fp->B b=none->iH G [] B b:=λ{B b}j hn=>by
  obtain⟨f,lt⟩:=Mt b j;rw[<-U];refine⟨hn,ne_of_lt lt,λbm=>?_,.inl j,λx c e=>?_,λp hp=>by cases hp⟩
  . rcases mem_cons.mp (I3.mq b bm)with h|h;.exact f.2.1 h
    .exact f.2.2.1 h
  . rcases bc.from' x c e with e|e;.exact f.2.2.2.2.1 x c e
    .rintro rfl;exact absurd (Nat.lt_trans e.1 lt) (lt_irrefl _)--behind the block
 have fin:∀{L:L2.St}{B:Hp}{F:Shared},Inv G [] L B F->Q s.heap.objs.size B->RR (.ref s.heap.objs.size) s3.heap.objs.size (.ok .next) F:=λ{L B F}J' q=>by
  rw[<-U]at J';have hC:B s3.heap.objs.size=none:=J'.free;obtain⟨hh,gg,dd,bn,bo⟩:=F;have bp:bo=s3.os:=J'.os;subst bp;refine aS _ _ _ B q (let⟨m,hm,_⟩:=J'.loc;⟨m,hm⟩) ?_ (I3.call (h':=hh) (g':=gg) (d':=dd) (t':=bn) (ch:=fp) J'.base J'.hok J'.bare λb j=>?_);.exact I3.o8 (fO) hC
  .obtain⟨f,lt⟩:=Mt b j;exact⟨f.2.2.2.1,f.2.1,f.2.2.2.2.1,f.2.2.2.2.2⟩
 have ab:codeAny (model X.prog X.w) X.A (.compLoop (.ListComp ae [⟨a,iter,ifs,0⟩] scope pos) 0 (.ref it) (.ref s.heap.objs.size) G.env) (RR (.ref s.heap.objs.size) s3.heap.objs.size) {s3 with heap:=M,toks:=s3.toks}:=by
  refine mC (λk F=>∃i ys L B,Inv G [] L B F/\tn i F.heap/\(∀b∈fp,B b=none)/\W i k ys L B) (λk s5 hI=>?_) m0 ⟨0,[],_,_,I4,RV Kh,λb j=>(Mt b j).1.1,w0⟩;obtain⟨i,ys,af,H5,I5,t5,f5,w5⟩:=hI;obtain⟨hD,am⟩:=aw i k ys af H5 w5;have Mu:∀{Z:Value->Shared->Prop},∀(e:Value)(F:Shared),G.xe e F->Z e F:=λe F z=>by rw[a8]at z;exact False.elim z
  rcases am with⟨stop,q⟩|⟨go,step⟩;.have z:=T.done G N O ax Y i [] s5 af H5 (λ_ _=>False) I5 (λb j=>ff j (f5 b j)) t5 stop;rw[hA]at z;refine wpAny_mono z (?_) λ_ _ z=>False.elim z;rintro r s6⟨hr,I6⟩;subst hr;exact fin I6 q
  . have z:=T.item G N O ax Y i [] s5 af H5 (λ_ _=>False) I5 (λb j=>ff j (f5 b j)) t5 go;rw[hA]at z;refine wpAny_mono z (?_) λ_ _ z=>False.elim z;rintro r s6⟨u,hr,z6⟩;subst hr;refine wpAny_mono z6 (?_) λ_ _ z=>False.elim z;rintro _ s7⟨x,H7,I7,r7,y7,t7,f7⟩;have bq:=I7.pinned (λb j=>ff j (f7 b j)) (T.obj _ _ t7)--what the pins keep
    have back:∀{L:L2.St}{B:Hp}{F:Shared},Inv G ([]++jz fp s7.heap) L B F->Inv G [] L B F/\tn (i+1) F.heap/\∀b∈fp,B b=none:=λ{L B F}J'=>by refine⟨J'.ik,T.keep _ _ _ t7 λb j o e=>(J'.pin (b,o) (mem_append_right _ (mem_append_right _ (eE j e)))).1,λb j=>?_⟩;obtain⟨o,e,_⟩:=T.obj _ _ t7 b j;exact(J'.pin (b,o) (mem_append_right _ (mem_append_right _ (eE j e)))).2.1
    have z7:=a9 _ s7 af H7 x u _ bq r7 (step x H7 y7);rw[hA,N,O]at z7;refine wpAny_mono z7 (?_) Mu;rintro _ s8⟨ac,H8,I8,q8⟩;have z8:=bg _ s8 ac H8 _ I8 q8;rw[hA,N,O]at z8;refine wpAny_mono z8 (?_) Mu;rintro b s9⟨H9,I9,q9⟩;cases b with|false=>rw[if_neg Bool.false_ne_true]at q9 ⊢;obtain⟨m',hm,w'⟩:=q9;obtain⟨b1,b2,b3⟩:=back I9;exact⟨m',hm,i+1,ys,ac,H9,b1,b2,b3,w'⟩|true=>rw[if_pos rfl]at q9 ⊢;have z9:=bi _ s9 ac H9 _ I9 q9;rw[hA,N,O]at z9;refine wpAny_mono z9 (?_) Mu;rintro y JR⟨yv,RW,br,bt,QF,aE,m',hm,w'⟩;have RX:=iR _ JR ac RW (.ref s.heap.objs.size) [yv] (.ref s.heap.objs.size) [y] (λv RZ=>RZ=upd RW s.heap.objs.size (.lst (ys++[yv]))) br rfl (.cons bt .nil) ⟨_,ys,yv,rfl,rfl,QF,aE,rfl⟩;rw[hA,N,O]at RX;refine wpAny_mono RX (?_) Mu;rintro _ LC⟨_,RZ,bE,_,bP⟩;subst bP;obtain⟨b1,b2,b3⟩:=back bE;exact⟨m',hm,i+1,ys++[yv],ac,_,b1,b2,b3,w'⟩
 have e3:({s3 with heap:=M,toks:=s3.toks}:Shared)={s with heap:=M}:=by rw[<-ai]
 rw[ay,e3]at ab;exact codeAny_compStart_list ab (T.self _ 0 _ _ _ (RV Kh) ab)
end
section
variable{X:Cx}{elt target iter:Expr}{ifs:List Expr}{scope:Scope}{pos:Pos}{N':List Str}{n:Nat}{wi:TI}{g:TG}{tt:TT}{te:TE}
def qZ(n:Nat)(wi:TI)(g:TG)(tt:TT)(te:TE):TE:=λσ H Q=>wi σ H λJ a=>∀D,a D=none->∃W,(∃m,W 0 m [] (σ++replicate n none) (upd a D (.lst [])))/\zY J g tt te D (λb=>Q (.ref D) b) W
theorem iu{a:List (Addr×Obj)}{σ:L2.St}{H:Hp}{s:Shared}(I:Inv X a σ H s)(ok:dg X scope N' n):∃cl,closureFor scope X.env=pure cl/\(∀n c,cl.lookup n=some c->X.env.cells.lookup n=some c)/\∀n,(n,NameKind.free)∈scope.names->(cl.lookup n).isSome:=qd λm b=>I.ok.has m (ok.cap (m,.free) b rfl)
theorem yQ(hc:X.calm=true)(ok:dg X scope N' n)(t:PI X target iter wi)(u:∀cl C s₀ H₀ ex,PG (nZ X scope N' cl C s₀ H₀ ex) target g)(y:∀cl C s₀ H₀ ex,G9 (nZ X scope N' cl C s₀ H₀ ex) ifs tt)(he:∀cl C s₀ H₀ ex,PE (nZ X scope N' cl C s₀ H₀ ex) elt te)(hs:∀x,foldedSetIterable iter X.env x=pure x:=by intro _;rfl):PE X (.ListComp elt [⟨target,iter,ifs,0⟩] scope pos) (qZ n wi g tt te):=by intro a s σ H Q I h;obtain⟨cl,c,i,z⟩:=iu I ok;rw[eval_ListComp];refine wpAny_comprehension_free (use:=none) rfl hs c ok.kind ok.names (cF (t a s σ H _ I h) λv s1 h1=>cF h1 λB s2 E=>?_);obtain⟨O,U,W,J,Y,rfl,F,T,t0,f2,G⟩:=E;refine lJ (Q:=λD j=>Q (.ref D) j) (RR:=λk C=>compPost (model X.prog X.w) X.A X.xe none (EP X a σ Q) k C) hc ok F i z T t0 f2 u y he G λD C L j q p f M=>?_;obtain⟨m,p⟩:=p;refine⟨m,p,λh' r=>⟨.ref D,j,?_,rfl,q⟩⟩;exact M.turned (t':=L.toks) (λb o N e=>r.extBut b o N e) f.1 f.2.1 f.2.2.2.1 f.2.2.2.2.1 f.2.2.2.2.2
theorem xJ{i:Nat}{x:Str}{c j:Pos}(hc:X.calm=true)(U:X.N.Nodup)(t:X.N[i]?=some x)(hx:Loc X.env.scope x)(ok:dg X scope N' n)(W:PI X target iter wi)(Y:∀cl C s₀ H₀ ex,PG (nZ X scope N' cl C s₀ H₀ ex) target g)(Z:∀cl C s₀ H₀ ex,G9 (nZ X scope N' cl C s₀ H₀ ex) ifs tt)(he:∀cl C s₀ H₀ ex,PE (nZ X scope N' cl C s₀ H₀ ex) elt te)(u:swapsWith (.ListComp elt [⟨target,iter,ifs,0⟩] scope pos) (some (.Name x c)) j.line X.env=pure true)(hs:∀x,foldedSetIterable iter X.env x=pure x:=by intro _;rfl)(hf:X.fn x=true\/X.env.scope.names.lookup x=some .local:=by first|exact .inl rfl|exact .inr rfl|assumption):PS X (.Assign [.Name x c] (.ListComp elt [⟨target,iter,ifs,0⟩] scope pos) j) (tL (qZ n wi g tt te) (gW i)):=by
 intro f s σ H D I h;obtain⟨cl,k,y,qu⟩:=iu I ok;rw[exec_Assign_Name_used _ _ _ _ u];refine wpAny_bind (wpAny_standAt (wpAny_bind ?_));show wpAny _ X.A (do let _<-comprehension (.ListComp elt [⟨target,iter,ifs,0⟩] scope pos) scope X.env _ (newList []) false (eval iter X.env) (some (assign (.Name x c) X.env))) _ _ s;refine wpAny_bind (wpAny_mono (wpAny_comprehension_free (use:=some (assign (.Name x c) X.env)) (Q:=λ_ r=>SP X f D .next r) rfl hs k ok.kind ok.names (cF (W f s σ H _ I h) λv s1 h1=>cF h1 λab s2 h2=>?_)) (λ_ r hq=>wpAny_pure (wpAny_pure hq)) λ_ _ e=>e);obtain⟨it,fp,tn,J,H2,rfl,I2,T,t0,f2,hw⟩:=h2;refine lJ (Q:=λDa B=>D.nx (σ.set i (some (.ref Da))) B) (RR:=λE C=>compPost (model X.prog X.w) X.A X.xe (some (assign (.Name x c) X.env)) (λ_ r=>SP X f D .next r) E C) hc ok I2 y qu T t0 f2 Y Z he hw λDa C r B q F p I'=>?_;obtain⟨m,F⟩:=F;show wpAny _ X.A (assign (.Name x c) X.env (.ref Da)) _ _ _;refine wpAny_assign_Name (lV I' U t hx (show RelV (.ref Da) (.ref Da)from rfl) (?_) hf);rintro G L⟨a,sb,ha⟩;have M:C≠a:=by
  rcases ha with rfl|ha;.exact p.2.1
  .exact λz=>p.2.2.2.2.1 x a ha z.symm
 refine⟨m,F.sameBut sb M,λh' O=>⟨_,B,?_,q⟩⟩;exact L.turned (t':=G.toks) (λb o hb e=>O.extBut b o hb e) p.1 p.2.1 p.2.2.2.1 p.2.2.2.2.1 p.2.2.2.2.2
def O8(K:PySem.W.Frag)(c:TE):TI:=λσ H R=>c σ H λx b=>∃a,x=.ref a/\(((∃xs,cR K b a xs)/\R (zR K a) b)\/((∃xs,eY K b a xs)/\R (Ga K a) b))
theorem ur{u l:Expr}{r:TE}(w:PE X l r):PI X u l (O8 X.K r):=by
 intro f s σ H R I h;refine cF (w f s σ H _ I h) ?_;rintro v s1⟨x,t,c,r1,j⟩;obtain⟨a,e,j⟩:=j;subst e;cases r1;rcases j with⟨⟨xs,k⟩,q⟩|⟨⟨xs,k⟩,q⟩
 . obtain⟨i,y,p,z⟩:=c.list k;refine wpAny_pyIter_list p.isList ?_;refine⟨s1.heap.objs.size,[s1.heap.objs.size],_,_,t,rfl,c.kept (t':=s1.toks) λb o e=>dH e,lK a _,⟨_,get?_push_size _ rfl,rfl,rfl⟩,λb m=>?_,q⟩;have e:b=s1.heap.objs.size:=by simpa using m
   subst e;exact c.o8 (fO) (c.hok.fresh (fO))
 . obtain⟨i,y,p,z⟩:=c.tuple k;refine wpAny_pyIter_tuple (show s1.heap.IsTuple a i.toArray from p) ?_;refine⟨s1.heap.objs.size,[s1.heap.objs.size],_,_,t,rfl,c.kept (t':=s1.toks) λb o e=>dH e,qp a _,⟨_,get?_push_size _ rfl,rfl,rfl⟩,λb m=>?_,q⟩;have e:b=s1.heap.objs.size:=by simpa using m
   subst e;exact c.o8 (fO) (c.hok.fresh (fO))
end
end L2
end
section
namespace HH
open PySem L2 PySem.Spec PyProof.Rows
variable{v:V}{i m:Nat}{K:PySem.W.Frag}{F H:Hp}{ρ:List Sl}{σ:L2.St}{x:Str}{p':Pos}{is:List Nat}{ds:List D}{s:Shared}{A:Around}{u':Value}
structure Walk(K:PySem.W.Frag)(F:Hp)(ρ:List Sl)(σ:L2.St)(H:Hp)(ul:List Sl->List Sl)(J:It)(ds:List D)(F1:Hp)(ρ1:List Sl)(H1:Hp):Prop where
 gs:GS K F1 ρ1 σ H1
 src:∀(n k:Nat)(F':Hp)(ρ':List Sl)(σ':L2.St)(H':Hp),aZ K F1 (ρ1++replicate n .aU) (σ++replicate n none) H1 F' ρ' σ' H'->(∀d,ds[k]?=some d->J.go k H'/\∀x iG,J.wZ k H' x iG->∃F'',Ext F' H' F'' iG/\Rep K F'' x d)/\(ds.length<=k->J.stop k H')fin:∀F2 ρ2 σ2 H2,aZ K F1 ρ1 σ H1 F2 ρ2 σ2 H2->aZ K F ρ σ H F2 (ul ρ2) σ2 H2/\∀v r,bG K F2 ρ2 σ2 H2 ρ1 σ H1 v r->bG K F2 (ul ρ2) σ2 H2 ρ σ H v r
inductive RD(K:PySem.W.Frag)(iv:Option Nat)(f:Ev)(σ:L2.St)(H:Hp)(R:It->Hp->Prop):Prop where|mk(F:Hp)(ρ:List Sl)(ds:List D)(ρ1:List Sl)(g:GS K F ρ σ H)(e:srcOf iv f ρ=.ok ds ρ1)(k:∀J F1 H1,Walk K F ρ σ H (aW ρ iv) J ds F1 ρ1 H1->R J H1)
section
variable{K:PySem.W.Frag}{F F1 H H1:Hp}{ρ ρ1:List Sl}{σ:L2.St}{ds:List D}{a:Addr}
theorem yt{xs:List V}{f b:Hp}(g:eY K b a xs)(r:az K f xs ds)(s:au f b)(k:Nat):(∀d,ds[k]?=some d->(Ga K a).go k b/\∀x j,(Ga K a).wZ k b x j->∃c,Ext f b c j/\Rep K c x d)/\(ds.length<=k->(Ga K a).stop k b):=by refine⟨λd hd=>?_,λh=>⟨xs,g,by rw[r.length];exact h⟩⟩;obtain⟨w,h1,n⟩:=r.get hd;refine⟨⟨xs,w,g,h1⟩,?_⟩;rintro x j⟨e,y⟩;subst e;have:=y xs g;rw[h1]at this;cases this;exact⟨f,.refl s,n⟩
theorem nG{xs:List V}{f b:Hp}(g:cR K b a xs)(r:az K f xs ds)(s:au f b)(k:Nat):(∀d,ds[k]?=some d->(zR K a).go k b/\∀x j,(zR K a).wZ k b x j->∃c,Ext f b c j/\Rep K c x d)/\(ds.length<=k->(zR K a).stop k b):=by refine⟨λd hd=>?_,λh=>⟨xs,g,by rw[r.length];exact h⟩⟩;obtain⟨w,h1,n⟩:=r.get hd;refine⟨⟨xs,w,g,h1⟩,?_⟩;rintro x j⟨e,y⟩;subst e;have:=y xs g;rw[h1]at this;cases this;exact⟨f,.refl s,n⟩
theorem nu{ul:List Sl->List Sl}{d:D}(s:aZ K F ρ σ H F1 ρ1 σ H1)(r:Rep K F1 v d)(f:items d=some ds)(fin:∀F2 ρ2 b e,aZ K F1 ρ1 σ H1 F2 ρ2 b e->aZ K F ρ σ H F2 (ul ρ2) b e/\∀v r,bG K F2 ρ2 b e ρ1 σ H1 v r->bG K F2 (ul ρ2) b e ρ σ H v r):∃a,v=.ref a/\(((∃xs,cR K H1 a xs)/\Walk K F ρ σ H ul (zR K a) ds F1 ρ1 H1)\/((∃xs,eY K H1 a xs)/\Walk K F ρ σ H ul (Ga K a) ds F1 ρ1 H1)):=by cases d with|tup o=>cases f;rw[Rep]at r;obtain⟨a,xs,rfl,h1,g⟩:=r;exact⟨a,rfl,.inr ⟨⟨xs,au.dR s.gs.sub h1⟩,s.gs,λn k p h j q c=>yt (au.dR c.gs.sub (au.dR c.bI h1)) (g.mono c.bI) c.gs.sub k,fin⟩⟩|lst o=>cases f;rw[Rep]at r;obtain⟨a,xs,rfl,h1,g⟩:=r;exact⟨a,rfl,.inl ⟨⟨xs,s.gs.sub.seq h1⟩,s.gs,λn k p h j q c=>nG (c.gs.sub.seq (c.bI.seq h1)) (g.mono c.bI) c.gs.sub k,fin⟩⟩|_=>cases f
theorem lB{ul:List Sl->List Sl}(g:GS K F ρ1 σ H)(e:ρ1[i]?=some (.lent ds))(fin:∀F2 ρ2 b c,aZ K F ρ1 σ H F2 ρ2 b c->aZ K F ρ σ H F2 (ul ρ2) b c/\∀v r,bG K F2 ρ2 b c ρ1 σ H v r->bG K F2 (ul ρ2) b c ρ σ H v r):∃a,σ[i]?=some (some (.ref a))/\(∃xs,cR K H a xs)/\Walk K F ρ σ H ul (zR K a) ds F ρ1 H:=by obtain⟨a,xs,h1,p,C,E⟩:=g.mV i _ ds e rfl;have h:i<ρ1.length:=(fJ e).1;refine⟨a,h1,⟨xs,cR.of p⟩,g,λn k G q u I f=>?_,fin⟩;obtain⟨j,t,w,y⟩:=f.lk i _ (by rw[getElem?_append_left h];exact e) rfl;cases(show t=.lent ds from y);rw[getElem?_append_left (by rw[<-g.len];exact h),h1]at j;obtain⟨J,ys,o,z,L,B⟩:=f.gs.mV i _ ds w rfl;rw[j]at o;cases o;exact nG (cR.of z) B f.gs.sub k
end
section
variable{X:Cx}{c:Call}{n:Nat}{e a b d tg:Expr}{p pa pb pd:P}{pos:Pos}
theorem nW{t t':TI}(h:PI X tg e t)(i:∀σ H R,t' σ H R->t σ H R):PI X tg e t':=λf s σ H R I q=>h f s σ H R I (i σ H R q)
def SI(X:Cx)(c:Call)(tg e:Expr)(p:P):Prop:=PI X tg e (RD X.K (isVar p) (HH.ev c p))
theorem jD(h:SX X c e p):SI X c tg e p:=by unfold SI;cases hv:isVar p with|none=>refine nW (ur h.ev) ?_;rintro σ H R⟨F,ρ,ds,t,g,e,k⟩;obtain⟨r,ρ2,I,o⟩:=aa e;have u:=aJ o;clear o;obtain⟨o,y⟩:=u;subst y;refine⟨F,ρ,r,_,g,I,λv Q U s B=>?_⟩;obtain⟨F2,s2,_,J⟩:=s.cQ B;obtain⟨a,C,E⟩:=nu (ul:=aW ρ none) s2 J o λW L M Y s3=>⟨s2.trans s3,λv r B=>B.later s2⟩;exact⟨a,C,E.imp (λ⟨z,w⟩=>⟨z,k _ _ _ w⟩) (λ⟨z,w⟩=>⟨z,k _ _ _ w⟩)⟩|some i=>
   refine nW (ur (h.var i hv)) ?_;rintro σ H R⟨F,ρ,ds,t,g,e,k⟩;unfold srcOf at e;dsimp only at e;split at e
   . rename_i b d q;have u:=aJ e;clear e;obtain⟨o,y⟩:=u;subst y;obtain⟨v,h1,N⟩:=g.val i b d q;have fin:∀F2 ρ2 f j,aZ X.K F ρ σ H F2 ρ2 f j->aZ X.K F ρ σ H F2 (aW ρ (some i) ρ2) f j/\∀v r,bG X.K F2 ρ2 f j ρ σ H v r->bG X.K F2 (aW ρ (some i) ρ2) f j ρ σ H v r:=λF2 ρ2 f j s=>by unfold aW;dsimp only;rw[q];exact⟨s,λ_ _ z=>z⟩
     obtain⟨a,C,E⟩:=nu (ul:=aW ρ (some i)) (.refl g) N o fin;exact⟨v,h1,a,C,E.imp (λ⟨z,w⟩=>⟨z,k _ _ _ w⟩) (λ⟨z,w⟩=>⟨z,k _ _ _ w⟩)⟩
   . rename_i b G q;cases e;have O:i<ρ.length:=(fJ q).1;have fin:∀F2 ρ2 f j,aZ X.K F (ρ.set i (.lent ds)) σ H F2 ρ2 f j->aZ X.K F ρ σ H F2 (aW ρ (some i) ρ2) f j/\∀v r,bG X.K F2 ρ2 f j (ρ.set i (.lent ds)) σ H v r->bG X.K F2 (aW ρ (some i) ρ2) f j ρ σ H v r:=λF2 ρ2 f j s=>by unfold aW;dsimp only;rw[q];exact aZ.aW g q s
     obtain⟨a,h1,hx,w⟩:=lB (ul:=aW ρ (some i)) (g.lend q) (getElem?_set_self O) fin;exact⟨_,h1,a,rfl,.inl ⟨hx,k _ _ _ w⟩⟩
   . rename_i G q;cases e;have fin:∀F2 ρ2 f j,aZ X.K F ρ σ H F2 ρ2 f j->aZ X.K F ρ σ H F2 (aW ρ (some i) ρ2) f j/\∀v r,bG X.K F2 ρ2 f j ρ σ H v r->bG X.K F2 (aW ρ (some i) ρ2) f j ρ σ H v r:=λF2 ρ2 f j s=>by unfold aW;dsimp only;rw[q];exact⟨s,λ_ _ z=>z⟩
     obtain⟨a,h1,hx,w⟩:=lB (ul:=aW ρ (some i)) g q fin;exact⟨_,h1,a,rfl,.inl ⟨hx,k _ _ _ w⟩⟩
   .cases e
theorem ug{g o:Hp}{f:List Sl}(s:aZ K F ρ σ H g f σ o)(i j:Int):Walk K F ρ σ H (aW ρ none) (Li i (j-i).toNat) ((List.range (j-i).toNat).map λ(k:Nat)=>D.int (i+(k:Int))) g f o:=by
 refine⟨s.gs,λn k t u w L y=>⟨λd hd=>?_,λh=>?_⟩,λM z B N s3=>⟨s.trans s3,λv r C=>C.later s⟩⟩;.rw[getElem?_map]at hd;obtain⟨m,E,G⟩:=map_some hd;obtain⟨h1,q⟩:=fJ E;rw[List.getElem_range]at q;subst q;subst G;rw[List.length_range]at h1;refine⟨h1,?_⟩;rintro x O⟨I,J⟩;subst I;subst J;exact⟨t,.refl y.gs.sub,cT _⟩
 .rw[length_map,List.length_range]at h;exact h
theorem mY(hx:x="range")(u:Gl X x)(w:X.mg x=none)(y:SX X c a pa)(hs:starEach [a] X.env=[(false,eval a X.env)]:=by rfl):SI X c tg (.Call (.Name x p') [a] [] pos) (.wH (.con (.int 0)) pa):=by
 subst hx;obtain⟨Q,h1,z⟩:=y.dY;refine nW (sW u w (aV h1 cL hs) hs) ?_;rintro σ H R⟨F,ρ,ds,B,g,e,k⟩;obtain⟨r,ρ2,t,h⟩:=aa e;have o:=aJ h;clear h;obtain⟨h,C⟩:=o;subst C;rw[HH.E21]at t;obtain⟨U,E,G,f⟩:=aa t;have o:=aJ f;clear f;obtain⟨f,I⟩:=o;subst I;obtain⟨W,J,L,q⟩:=aa G;cases q;obtain⟨i,f1,f⟩:=fM f;obtain⟨j,f2,f⟩:=fM f;obtain⟨⟨b1,b2,b3,b4⟩,f⟩:=bB f;have f1:i=0:=by cases f1;rfl
 subst f1;subst f;cases h;cases oJ f2;refine z g L λv M N s O=>⟨j,by rw[O.int],by omega,by omega,?_⟩;have:=ug s 0 j;rw[Int.sub_zero]at this;refine k _ M N ?_;rw[Int.sub_zero];exact this
end
section
variable{X:Cx}{c:Call}{n:Nat}{e a b d tg iter:Expr}{p pa pb pd:P}{pos:Pos}{body:List Stmt}{ss:List S}
def DP(K:PySem.W.Frag)(j:List Sl->D->Option (List Sl))(g:TG):Prop:=∀(x:V)(d:D)(F:Hp)(ρ f:List Sl)(σ:L2.St)(H:Hp)(Q:L2.St->Hp->Prop),GS K F ρ σ H->Rep K F x d->j ρ d=some f->(∀h,aZ K F ρ σ H F f h H->Q h H)->g x σ H Q
theorem yp(i:Nat):DP K (λρ d=>put ρ i (.val false d)) (gW i):=λx d F ρ f σ H Q g r h k=>k _ (aZ.put (r:=.val d) (.refl g) r h)
theorem rJ:∀(is:List Nat)(gs:uc),(∀(xs:List V)(ds:List D)(F:Hp)(ρ f:List Sl)(σ:L2.St)(H:Hp)(Q:L2.St->Hp->Prop),GS K F ρ σ H->az K F xs ds->putAll ρ is ds=some f->(∀j,aZ K F ρ σ H F f j H->Q j H)->gs xs σ H Q)->∀i,∀(xs:List V)(ds:List D)(F:Hp)(ρ f:List Sl)(σ:L2.St)(H:Hp)(Q:L2.St->Hp->Prop),GS K F ρ σ H->az K F xs ds->putAll ρ (i::is) ds=some f->(∀j,aZ K F ρ σ H F f j H->Q j H)->vY (gW i) gs xs σ H Q:=by intro is gs t i xs ds F ρ f σ H Q g r h k;cases ds with|nil=>simp[fV,eF,iU,iQ]at h|cons d ds=>obtain⟨v,q,rfl,h1,u⟩:=r.bJ;rw[eF]at h;obtain⟨o,w,y⟩:=fM h;have s1:=aZ.put (r:=.val d) (.refl g) h1 w;refine⟨v,q,rfl,t q ds F o f _ H _ s1.gs u y λj s2=>k j (s1.trans s2)⟩
theorem ye:∀(xs:List V)(ds:List D)(F:Hp)(ρ f:List Sl)(σ:L2.St)(H:Hp)(Q:L2.St->Hp->Prop),GS K F ρ σ H->az K F xs ds->putAll ρ [] ds=some f->(∀j,aZ K F ρ σ H F f j H->Q j H)->Dt xs σ H Q:=by intro xs ds F ρ f σ H Q g r h k;cases ds with|nil=>rw[fV]at h;cases h;exact⟨r.fj,k σ (.refl g)⟩|cons d ds=>simp[fV,eF,iU,iQ]at h
theorem gM:∀{is:List Nat}{ds:List D}{ρ f:List Sl},putAll ρ is ds=some f->ds.length=is.length|[],[],_,_,_=>rfl|[],_::_,_,_,h=>by simp[fV,eF,iU,iQ]at h|_::_,[],_,_,h=>by simp[fV,eF,iU,iQ]at h|i::is,d::ds,ρ,f,h=>by rw[eF]at h;obtain⟨g,k,j⟩:=fM h;simp[gM j]
theorem CQ{gs:uc}(t:m=is.length)(h:∀(xs:List V)(ds:List D)(F:Hp)(ρ f:List Sl)(σ:L2.St)(H:Hp)(Q:L2.St->Hp->Prop),GS K F ρ σ H->az K F xs ds->putAll ρ is ds=some f->(∀o,aZ K F ρ σ H F f o H->Q o H)->gs xs σ H Q):DP K (λρ d=>bU ρ is false d) (BJ K m gs):=by intro x d F ρ f σ H Q g r j k;replace j:bU ρ is false d=some f:=j;cases d with|tup ds=>replace j:putAll ρ is ds=some f:=j;rw[Rep]at r;obtain⟨a,xs,rfl,h1,q⟩:=r;exact⟨a,xs,rfl,au.dR g.sub h1,by rw[q.length,gM j,t],h xs _ F ρ f σ H Q g q j k⟩|_=>cases j
theorem uw{g:TG}{one:Bool}(hp:PassesOwn (model X.prog X.w) X.A X.env X.xe)(hc:X.calm=true)(hi:SI X c tg iter p)(hg:PG X tg g)(Z:DP X.K (λρ d=>bU ρ is one d) g)(hb:SB X c n body ss)(hs:∀x,foldedSetIterable iter X.env x=pure x:=by intro _;rfl):SS X c n (.For tg iter body [] pos) (.lq p is one ss):=by
 refine iz (uo hp hc hi hg hb hs) ?_;rintro D σ H⟨F,ρ,fl,u,g0,e,k⟩;rw[HH.Ph]at e;obtain⟨ds,q,e1,e⟩:=aa e;obtain⟨ac,ρ2,e2,e⟩:=aa e;cases e;refine⟨F,ρ,ds,q,g0,e1,λJ N H1 w=>?_⟩;have src:∀(i:Nat)(O:Hp)(u:List Sl)(h:L2.St)(j:Hp),aZ X.K N q σ H1 O u h j->(∀d,ds[i]?=some d->J.go i j/\∀x iG,J.wZ i j x iG->∃G,Ext O j G iG/\Rep X.K G x d)/\(ds.length<=i->J.stop i j):=λi O u h j s=>w.src 0 i O u h j (by simpa using s);refine⟨λi m t Q=>∃E f,aZ X.K N q σ H1 E f t Q/\m=ds.length-i/\i<=ds.length/\gY is one (eZ c n ss) (ds.drop i) f=.ok fl ρ2,⟨_,N,q,.refl w.gs,rfl,Gi,e2⟩,?_⟩;rintro i m t Q⟨E,f,U,rfl,ae,o⟩;obtain⟨s1,s2⟩:=src i E f t Q U;by_cases B:i<ds.length
 . right;have hd:ds[i]?=some ds[i]:=by simp[B]
   obtain⟨go,step⟩:=s1 _ hd;refine⟨go,λh j=>∃m',m'<ds.length-i/\∃E f,aZ X.K N q σ H1 E f h j/\m'=ds.length-(i+1)/\i+1<=ds.length/\gY is one (eZ c n ss) (ds.drop (i+1)) f=.ok fl ρ2,λh j z=>z,λx j y=>?_⟩;obtain⟨F2,ext,rx⟩:=step x j y;have R0:=U.trans (ext.stp U.gs);rw[List.drop_eq_getElem_cons B,vq]at o;cases hbd:bU f is one ds[i]with|none=>rw[hbd]at o;cases o|some I=>rw[hbd]at o;obtain⟨L,C,eb,o⟩:=aa o;refine Z x _ F2 f I t j _ R0.gs rx hbd λaf sb=>?_;have QG:=R0.trans sb;refine⟨F2,I,L,C,QG.gs,eb,λW M H4 s4=>?_⟩;have Y:=QG.trans s4;cases L with|next=>exact⟨_,by omega,W,C,Y,rfl,B,o⟩|cont=>exact⟨_,by omega,W,C,Y,rfl,B,o⟩|brk=>cases o;exact k W M H4 (w.fin _ _ _ _ Y).1|ret r=>cases o;intro v rr;obtain⟨z1,z2⟩:=w.fin _ _ _ _ Y;exact k W M H4 z1 v (z2 v r (rr.later QG))
 . left;have ab:ds.drop i=[]:=by rw[List.drop_eq_nil_iff];omega
   rw[ab,Ar]at o;cases o;exact⟨s2 (by omega),k E t Q (w.fin _ _ _ _ U).1⟩
theorem tX(i:Nat):(λ(ρ:List Sl)(d:D)=>bU ρ [i] true d)=λρ d=>put ρ i (.val false d):=by funext ρ d;rfl
theorem rF{f:Pos}(h:PassesOwn (model X.prog X.w) X.A X.env X.xe)(hc:X.calm=true)(j:X.N.Nodup)(g:X.N[i]?=some x)(hx:Loc X.env.scope x)(k:SI X c (.Name x f) iter p)(o:SB X c n body ss)(hs:∀x,foldedSetIterable iter X.env x=pure x:=by intro _;rfl)(q:X.fn x=true\/X.env.scope.names.lookup x=some .local:=by first|exact .inl rfl|exact .inr rfl|assumption):SS X c n (.For (.Name x f) iter body [] pos) (.lq p [i] true ss):=uw h hc k (bV j g hx q) (by rw[tX];exact yp i) o hs
end
section
variable{X:Cx}{c:Call}{n:Nat}{e elt tg iter:Expr}{p ps pe:P}{pos:Pos}{scope:Scope}{N':List Str}{ifs:List Expr}
theorem CN{t t':TE}(h:PE X e t)(i:∀σ H Q,σ.length=X.N.length->t' σ H Q->t σ H Q):PE X e t':=λa s σ H Q I q=>h a s σ H Q I (i σ H Q I.len q)
theorem Dn{st:Stmt}{t t':TS}(h:PS X st t)(i:∀D σ H,σ.length=X.N.length->t' D σ H->t D σ H):PS X st t':=λa s σ H D I q=>h a s σ H D I (i D σ H I.len q)
def lA(K:PySem.W.Frag)(m:Nat)(is:List Nat)(one:Bool)(g:TG):Prop:=∀(x:V)(d:D)(F:Hp)(ρ b:List Sl)(σ:L2.St)(H:Hp)(Q:L2.St->Hp->Prop),GS K F ρ σ H->Rep K F x d->bU ρ is one d=some b->(∀a,aZ K F ρ σ H F b a H->a.take m=σ.take m->Q a H)->g x σ H Q
theorem take_set{b:Type}{l:List b}{a:b}(h:m<=i):(l.set i a).take m=l.take m:=by rw[List.take_set_of_le h]
theorem gU(h:m<=i):lA K m [i] true (gW i):=λx d F ρ a σ H Q g r b k=>k _ (aZ.put (r:=.val d) (.refl g) r b) (take_set h)
def yl(K:PySem.W.Frag)(m:Nat)(is:List Nat)(gs:uc):Prop:=∀(xs:List V)(ds:List D)(F:Hp)(ρ b:List Sl)(σ:L2.St)(H:Hp)(Q:L2.St->Hp->Prop),GS K F ρ σ H->az K F xs ds->putAll ρ is ds=some b->(∀a,aZ K F ρ σ H F b a H->a.take m=σ.take m->Q a H)->gs xs σ H Q
theorem ig{gs:uc}(o:m<=i)(q:yl K m is gs):yl K m (i::is) (vY (gW i) gs):=by intro xs ds F ρ a σ H Q g r h k;cases ds with|nil=>simp[fV,eF,iU,iQ]at h|cons d ds=>obtain⟨v,j,rfl,h1,t⟩:=r.bJ;rw[eF]at h;obtain⟨b,u,w⟩:=fM h;have s1:=aZ.put (r:=.val d) (.refl g) h1 u;exact⟨v,j,rfl,q j ds F b a _ H _ s1.gs t w λf s2 z=>k f (s1.trans s2) (z.trans (take_set o))⟩
theorem qN:yl K m [] Dt:=by intro xs ds F ρ a σ H Q g r h k;cases ds with|nil=>rw[fV]at h;cases h;exact⟨r.fj,k σ (.refl g) rfl⟩|cons d ds=>simp[fV,eF,iU,iQ]at h
theorem qP{gs:uc}{l:Nat}(o:l=is.length)(h:yl K m is gs):lA K m is false (BJ K l gs):=by intro x d F ρ b σ H Q g r f k;cases d with|tup ds=>replace f:putAll ρ is ds=some b:=f;rw[Rep]at r;obtain⟨a,xs,rfl,h1,j⟩:=r;exact⟨a,xs,rfl,au.dR g.sub h1,by rw[j.length,gM f,o],h xs _ F ρ b σ H Q g j f k⟩|_=>cases f
def SQ(X:Cx)(c:Call)(ifs:List Expr)(t:Option P):Prop:=G9 X ifs (zA X.K (qL c t))
theorem gC:SQ X c [] none:=λa s σ H Q I⟨F,ρ,k,ρ',g,e,q⟩=>by rw[qL]at e;cases e;exact yH a s σ H Q I (q F H (.refl g))
theorem aZ.o9{j k:Hp}{f:List Sl}{g:L2.St}{Da:Addr}{o:HO}(s:aZ K F ρ σ H j f g k)(h:H Da=none)(w:j Da=none)(ho:¬ Own f g Da):aZ K F ρ σ H j f g (upd k Da o):=by
 refine⟨⟨λb u e=>?_,s.gs.len,s.gs.val,λi t ds e q=>?_,s.gs.dis⟩,s.bI,s.oU,λb u e n=>?_,s.sE,s.len,s.lk⟩
 . have:b≠Da:=by rintro rfl;rw[w]at e;cases e
   rw[ao this];exact s.gs.sub b u e
 . obtain⟨a,xs,r,y,z,B⟩:=s.gs.own i t ds e q;have:a≠Da:=by rintro rfl;exact ho ⟨i,⟨t,ds,e,q⟩,r⟩
   exact⟨a,xs,r,by rw[ao this];exact y,z,B⟩
 . have:b≠Da:=by rintro rfl;rw[h]at e;cases e
   rw[ao this];exact s.keep b u e n
theorem vp{b ρ2:List Sl}{ul:List Sl->List Sl}{ti:TI}{one:Bool}{u:List Sl->Res Bool}{el:Ev}{g:TG}{Q:VK}{xs:List D}(hm:σ.length=m)(ah:lA K m is one g)(ai:∀R:It->Hp->Prop,(∀J N W,Walk K F ρ σ H ul J ds N b W->R J W)->ti σ H R)(ar:ds.length<=lim)(e2:turns is one u el ds [] (b++replicate n .aU)=.ok xs ρ2)(k:∀v F' H',aZ K F ρ σ H F' (ul (ρ2.take b.length)) σ H'->bG K F' (ul (ρ2.take b.length)) σ H' ρ σ H v (.own xs)->Q v H'):qZ n ti g (zA K u) (wG K el) σ H Q:=by
 refine ai _ λJ N W w Da O=>?_;have am:b.length=σ.length:=w.gs.len;have gm:=w.gs.more (n:=n) (τ:=replicate n none) (by simp);have fD:N Da=none:=by cases q:N Da with|none=>rfl|some o=>rw[w.gs.sub Da o q]at O;cases O
 have nO:¬ Own (b++replicate n .aU) (σ++replicate n none) Da:=λ⟨i,⟨t,dt,q1,q2⟩,q3⟩=>by obtain⟨a,ys,z1,z2,_⟩:=gm.own i t dt q1 q2;rw[q3]at z1;cases z1;rw[O]at z2;cases z2
 refine⟨λi mm ys f G=>∃E h r,aZ K N (b++replicate n .aU) (σ++replicate n none) W E h f G/\f.take m=σ/\G Da=some (.lst ys)/\E Da=none/\¬ Own h f Da/\az K E ys r/\r.length<=i/\mm=ds.length-i/\i<=ds.length/\turns is one u el (ds.drop i) r h=.ok xs ρ2,⟨_,N,_,[],(aZ.refl gm).o9 O fD nO,by rw[List.take_append_of_le_length (by omega),List.take_of_length_le (by omega)],aH,fD,nO,.nil,Gi,rfl,Gi,e2⟩,?_⟩;rintro i mm ys f G⟨E,h,r,Y,I,Z,hF,hO,rs,av,rfl,aw,j⟩;refine⟨Z,?_⟩--what stays of the new list through a step
 have stay:∀{F2 U:Hp}{L:List Sl}{B:L2.St},aZ K E h f G F2 L B U->U Da=some (.lst ys)/\F2 Da=none/\¬ Own L B Da:=λ{F2 U L B}s=>by
  refine⟨s.keep Da _ Z hO,?_,λo=>?_⟩;.cases q:F2 Da with|none=>rfl|some o=>
      rcases s.oU Da hF (by rw[q];simp)with z|z;.exact absurd z hO
      .exact(vC Z z).elim
  . rcases s.sE Da o with z|z;.exact hO z
    .rw[Z]at z;cases z
 obtain⟨s1,s2⟩:=w.src n i E h f G Y;by_cases C:i<ds.length
 . right;have hd:ds[i]?=some ds[i]:=by simp[C]
   obtain⟨go,step⟩:=s1 _ hd;refine⟨go,λx U y=>?_⟩;obtain⟨F2,ext,rx⟩:=step x U y;have t2:=ext.stp Y.gs;rw[List.drop_eq_getElem_cons C,uB]at j;cases hbd:bU h is one ds[i]with|none=>rw[hbd]at j;cases j|some ab=>rw[hbd]at j;obtain⟨bb,M,eb,j⟩:=aa j;refine ah x _ F2 h ab f U _ t2.gs rx hbd λB sb ac=>?_;have t3:=t2.trans sb;refine⟨F2,ab,bb,M,t3.gs,eb,λF4 H4 s4=>?_⟩;have t4:=t3.trans s4;cases bb with|false=>rw[if_neg Bool.false_ne_true]at j;obtain⟨y1,y2,y3⟩:=stay t4;exact⟨_,by omega,F4,M,r,Y.trans t4,ac.trans I,y1,y2,y3,rs.mono t4.bI,by omega,rfl,C,j⟩|true=>
       rw[if_pos rfl]at j;obtain⟨re,ae,ee,j⟩:=aa j;refine(show wG K el B H4 _ from⟨F4,M,re,ae,t4.gs,ee,λv F5 H5 s5 rr=>?_⟩);obtain⟨F6,s6,_,rp⟩:=s5.cQ rr;have t6:=t4.trans s6;obtain⟨y1,y2,y3⟩:=stay t6;have af:ys.length<sizeLine:=by have h1:=rs.length;have h2:lim=sizeLine:=rfl;omega
       exact⟨y1,af,_,by omega,F6,ae,r++[re.d],(Y.trans t6).o9 O y2 y3,ac.trans I,aH,y2,y3,(rs.mono t6.bI).append (.cons rp .nil),by simp;omega,rfl,C,j⟩
 . left;have ap:ds.drop i=[]:=by rw[List.drop_eq_nil_iff];omega
   rw[ap,vH]at j;cases j;refine⟨s2 (by omega),?_⟩;obtain⟨l1,l2⟩:=aZ.less (m:=b.length) rfl w.gs (by simp) Y;have ag:f.take b.length=σ:=by rw[am,hm];exact I
   rw[ag]at l1;have rr:bG K E ρ2 f G (b++replicate n .aU) (σ++replicate n none) W (.ref Da) (.own xs):=⟨Da,ys,rfl,Z,hF,rs,hO,.inr O⟩;have R1:=l2 _ _ rr;rw[ag]at R1;obtain⟨z1,z2⟩:=w.fin _ _ _ _ l1;exact k _ E G z1 (z2 _ _ R1)
theorem rm{t:Option Nat}{f:Ev}{one:Bool}{b:List Sl->Res Bool}{z:Ev}{g:TG}{Q:VK}{r:R}{j:List Sl}(C:σ.length=m)(u:lA K m is one g)(g0:GS K F ρ σ H)(e:((srcOf t f ρ).bind λds a=>if ds.length<=lim then(turns is one b z ds [] (a++replicate n .aU)).bind λxs o=>Res.ok (R.own xs) (aW ρ t (o.take a.length))else .stuck)=.ok r j)(k:∀v B w,aZ K F ρ σ H B j σ w->bG K B j σ w ρ σ H v r->Q v w):qZ n (RD K t f) g (zA K b) (wG K z) σ H Q:=by
 obtain⟨ds,y,E,e⟩:=aa e;split at e;.rename_i q;obtain⟨xs,ρ2,G,e⟩:=aa e;cases e;exact vp C u (λR h=>⟨F,ρ,ds,y,g0,E,h⟩) q G k
 .cases e
theorem iw{g:TG}{one:Bool}{t:Option P}(hc:X.calm=true)(ok:dg X scope N' n)(b:SI X c tg iter ps)(f:∀cl C s₀ H₀ ex,PG (nZ X scope N' cl C s₀ H₀ ex) tg g)(a:lA X.K X.N.length is one g)(j:∀cl C s₀ H₀ ex,SQ (nZ X scope N' cl C s₀ H₀ ex) c ifs t)(he:∀cl C s₀ H₀ ex,SX (nZ X scope N' cl C s₀ H₀ ex) c elt pe)(hs:∀x,foldedSetIterable iter X.env x=pure x:=by intro _;rfl):SX X c (.ListComp elt [⟨tg,iter,ifs,0⟩] scope pos) (.comp ps n is one t pe):=by refine⟨CN (yQ (tt:=zA X.K (qL c t)) (te:=wG X.K (HH.ev c pe)) hc ok b f j (λcl C s₀ H₀ ex=>(he cl C s₀ H₀ ex).ev) hs) ?_,λi h=>by cases h⟩;rintro σ H Q o⟨F,ρ,r,q,g0,e,k⟩;rw[HH.E20]at e;exact rm o a g0 e k
theorem xX{a b:Pos}{nn:Nat}{g:TG}{one:Bool}{t:Option P}(hc:X.calm=true)(u:X.N.Nodup)(h:X.N[i]?=some x)(hx:Loc X.env.scope x)(ok:dg X scope N' n)(w:SI X c tg iter ps)(y:∀cl C s₀ H₀ ex,PG (nZ X scope N' cl C s₀ H₀ ex) tg g)(j:lA X.K X.N.length is one g)(z:∀cl C s₀ H₀ ex,SQ (nZ X scope N' cl C s₀ H₀ ex) c ifs t)(he:∀cl C s₀ H₀ ex,SX (nZ X scope N' cl C s₀ H₀ ex) c elt pe)(o:swapsWith (.ListComp elt [⟨tg,iter,ifs,0⟩] scope pos) (some (.Name x a)) b.line X.env=pure true:=by rfl)(hs:∀x,foldedSetIterable iter X.env x=pure x:=by intro _;rfl)(B:X.fn x=true\/X.env.scope.names.lookup x=some .local:=by first|exact .inl rfl|exact .inr rfl|assumption):SS X c nn (.Assign [.Name x a] (.ListComp elt [⟨tg,iter,ifs,0⟩] scope pos) b) (.asg i (.comp ps n is one t pe)):=by refine Dn (xJ (tt:=zA X.K (qL c t)) (te:=wG X.K (HH.ev c pe)) hc u h hx ok w y z (λcl C s₀ H₀ ex=>(he cl C s₀ H₀ ex).ev) o hs B) ?_;rintro D σ H E⟨F,ρ,U,G,g0,e,k⟩;rw[HH.X6]at e;obtain⟨r,I,q,e⟩:=aa e;obtain⟨ρ2,J,f,e⟩:=aa e;cases e;have L:=aJ f;clear f;obtain⟨f,W⟩:=L;rw[HH.E20]at q;exact rm E j g0 q λv M O s1 Q=>k M _ O (s1.put Q f)
end
section
variable{X:Cx}{c:Call}{n:Nat}{e a b d:Expr}{p pa pb pd:P}{pos:Pos}{es:List Expr}{ps:List P}
noncomputable def M6:D->String|.non=>"NoneType"|.bl _=>"bool"|.int _=>"int"|.str _=>"str"|.tup _=>"tuple"|.lst _=>"list"|.cD _=>"dict"|.dv _ _=>"dict"
noncomputable def oY:Ty->String|.none=>"NoneType"|.bool=>"bool"|.int=>"int"|.str=>"str"|.tuple=>"tuple"|.list=>"list"
theorem Ac(K:PySem.W.Frag)(t:Ty)(d:D):PySem.W.kitOne K (.type (M6 d)) (.type (oY t))=some (bj t d):=by cases t<;>cases d<;>rfl
theorem rW(K:PySem.W.Frag)(d:D):∀f:List Ty,PySem.W.kitAny K (.type (M6 d)) (f.map λt=>Value.type (oY t))=some (f.any λt=>bj t d)|[]=>rfl|t::f=>by rw[map_cons,PySem.W.kitAny,Ac,any_cons];cases bj t d with|true=>rfl|false=>rw[Bool.false_or];exact rW K d f
theorem Ae{k:List (Addr×Obj)}{x:V}{u:Value}{w:D}(I:L2.Inv X k σ H s)(r:au F H)(g:bR X.K F H x w)(f:RelV x u):(∃B,PySem.W.KitX X.K u (.type (M6 w)) B/\B s.heap)/\u≠.builtin "__main__.__loader__#opaque":=by cases w with|non=>rw[g.non]at f;cases f;exact⟨⟨_,PySem.W.kitx_none,trivial⟩,nofun⟩|bl y=>rw[g.bl]at f;cases f;exact⟨⟨_,PySem.W.kitx_bool,trivial⟩,nofun⟩|int i=>rw[g.int]at f;obtain⟨t,rfl⟩:=f;exact⟨⟨_,PySem.W.kitx_int,trivial⟩,nofun⟩|str y=>rw[g.str]at f;obtain⟨t,rfl⟩:=f;exact⟨⟨_,PySem.W.kitx_str,trivial⟩,nofun⟩|tup ds=>obtain⟨q,xs,rfl,h,_⟩:=g.tup r;cases f;obtain⟨z,_,⟨o,h1,j,_⟩,_⟩:=I.tuple h;exact⟨⟨_,PySem.W.kitx_tuple,⟨o,h1,j⟩⟩,nofun⟩|lst ds=>obtain⟨q,xs,rfl,h,_⟩:=g.lst r;cases f;obtain⟨z,_,C,_⟩:=I.list h;obtain⟨o,h1,j,_⟩:=C.isList;exact⟨⟨_,PySem.W.kitx_list,⟨o,h1,j⟩⟩,nofun⟩|cD m=>obtain⟨q,_,rfl,h⟩:=g.cD r;cases f;obtain⟨o,h1,j⟩:=wg I h;exact⟨⟨_,kitx_dict,⟨o,h1,j⟩⟩,nofun⟩|dv E ds=>obtain⟨q,_,G,rfl,h,_⟩:=g.dv r;cases f;obtain⟨o,h1,j⟩:=vW I h;exact⟨⟨_,kitx_dict,⟨o,h1,j⟩⟩,nofun⟩
theorem BX(t:Ty):dz X (.builtin "isinstance") (λxs H Q=>∃x F f,xs=[x,.ty (oY t)]/\au F H/\bR X.K F H x f/\Q (.bl (bj t f)) H):=by rintro h s σ H xs B Q I r⟨x,F,f,hx,j,k,q⟩;subst hx;obtain⟨u,o,rfl,w,rt⟩:=r.two;cases(show o=Value.type (oY t)from rt);obtain⟨⟨C,Z,y⟩,g⟩:=Ae I j k w;exact PySem.W.kia_one Z I.zy y (Ac _ t f) g λz=>⟨.bl _,H,I.tok z,rfl,q⟩
theorem qW:∀{g:List Ty}{f:List Value},Vals (g.map λt=>V.ty (oY t)) f->f=g.map λt=>Value.type (oY t)|[],_,h=>h.zero|t::g,_,.cons r1 j=>by rw[map_cons,<-qW j,show _=_ from r1]
theorem yj(g:List Ty):dz X (.builtin "isinstance") (λxs H Q=>∃x F h q,xs=[x,.ref q]/\H q=some (.tup (g.map λt=>V.ty (oY t)))/\au F H/\bR X.K F H x h/\Q (.bl (g.any λt=>bj t h)) H):=by rintro y s σ H xs N Q I r⟨x,F,h,q,hx,z,B,C,k⟩;subst hx;obtain⟨u,E,rfl,G,rt⟩:=r.two;cases(show E=Value.ref q from rt);obtain⟨⟨O,Z,J⟩,j⟩:=Ae I B C G;obtain⟨_,o,L,⟨⟨cls,U,data,Y⟩,ho,hc,n,hd⟩⟩:=(show bO X.prog X.w H s.heap q (.tup _)from I.hok q _ z);simp only at hc hd;subst hc hd;have f:o=g.map λt=>Value.type (oY t):=qW L;subst f;exact PySem.W.kia_tup Z I.zy J ho (rW _ h g) j λM=>⟨.bl _,H,I.tok M,rfl,k⟩
theorem oK:bootBuiltins "isinstance"=some (.builtin "isinstance"):=by decide+kernel
theorem dM{y:Str}{f:Pos}(t:Ty)(hx:x="isinstance")(o:Gl X x)(q:X.mg x=none)(u:SX X c a pa)(w:Gl X y)(z:X.mg y=none)(B:bootBuiltins y=some (.type (oY t)))(C:y≠"__name__":=by decide)(E:(y==("__debug__":Str))=false:=by decide)(hs:starEach [a,.Name y f] X.env=(false,eval a X.env)::starEach [.Name y f] X.env:=by rfl):SX X c (.Call (.Name x p') [a,.Name y f] [] pos) (.inst [t] pa):=by subst hx;obtain⟨U,h1,G⟩:=u.dY;refine⟨dO (fX (BX t) o q oK (aV h1 (aV (rM (v:=.ty (oY t)) w z B rfl C E) cL) hs) (he:=hs)) ?_,λi h=>by cases h⟩;rintro σ H Q⟨F,ρ,r,I,g,e,k⟩;rw[HH.E19]at e;obtain⟨J,L,M,e⟩:=aa e;cases e;refine G g M λv j N s O=>⟨v,j,J,rfl,s.gs.sub,O,k _ j N s ?_⟩;show Rep X.K j _ _;rw[any_cons,List.any_nil,Bool.or_false];exact eX _
def yu(X:Cx)(f:List Ty)(es:List Expr):Prop:=PA X es (λ_ H Q=>Q (f.map λt=>V.ty (oY t)) H)
theorem mJ:yu X [] []:=jM cL λ_ _ _ h=>h
theorem dI{y:Str}{f:Pos}{g:List Ty}(t:Ty)(j:Gl X y)(k:X.mg y=none)(o:bootBuiltins y=some (.type (oY t)))(h:yu X g es)(q:y≠"__name__":=by decide)(r:(y==("__debug__":Str))=false:=by decide)(hs:starEach (.Name y f::es) X.env=(false,eval (.Name y f) X.env)::starEach es X.env:=by rfl):yu X (t::g) (.Name y f::es):=jM (aV (rM (v:=.ty (oY t)) j k o rfl q r) h hs) λ_ _ _ h=>h
theorem jB{B:Pos}{k2}{j:List Ty}(hx:x="isinstance")(E:Gl X x)(G:X.mg x=none)(I:SX X c a pa)(J:yu X j es)(L:j.length<=sizeLine:=by decide)(hs:starEach [a,.Tuple es k2 B] X.env=(false,eval a X.env)::starEach [.Tuple es k2 B] X.env:=by rfl):SX X c (.Call (.Name x p') [a,.Tuple es k2 B] [] pos) (.inst j pa):=by
 subst hx;obtain⟨Z,h1,M⟩:=I.dY;refine⟨dO (fX (yj j) E G oK (aV h1 (aV (uG J) cL) hs) (he:=hs)) ?_,λi h=>by cases h⟩;rintro σ H Q⟨F,ρ,r,N,g,e,k⟩;rw[HH.E19]at e;obtain⟨O,U,W,e⟩:=aa e;cases e;refine M g W λv f u s Y=>⟨by rw[length_map];exact L,λq C=>?_⟩;have fq:f q=none:=by cases z:f q with|none=>rfl|some o=>rw[s.gs.sub q o z]at C;cases C
 have w:au u (upd u q (.tup (j.map λt=>V.ty (oY t)))):=au.cz C;have ext:Ext f u f (upd u q (.tup (j.map λt=>V.ty (oY t)))):=⟨w,.refl _,s.gs.sub.trans w,λ_ x y=>absurd x y⟩;refine⟨v,f,O,q,rfl,aH,s.gs.sub.trans w,Y.mono (.refl _) (λa xs _ z=>w a _ z),k _ f _ (s.trans (ext.stp s.gs)) (show Rep X.K f _ _ from eX _)⟩
inductive Rh(K:PySem.W.Frag)(f:List D->Option R)(xs:List V)(H:Hp)(Q:VK):Prop where|mk(F:Hp)(ds:List D)(r:R)(sm:au F H)(rs:az K F xs ds)(he:f ds=some r)(k:∀v F' H',Ext F H F' H'->cj K F' H' H v r->Q v H')
theorem JF{E:Expr}{f:List D->Option R}{q:P}(u:∀{t},PA X es t->PE X E (K8 (Rh X.K f) t))(y:SA X c es ps)(z:∀ρ,HH.ev c q ρ=(evs c ps ρ).bind λds ρ=>lift (f ds) ρ)(B:isVar q=none):SX X c E q:=by refine⟨dO (u y.1) ?_,λi h=>by rw[B]at h;cases h⟩;rintro σ H Q⟨F,ρ,r,C,g,e,k⟩;rw[z]at e;obtain⟨ds,o,G,j⟩:=aa e;have I:=aJ j;clear j;obtain⟨j,J⟩:=I;subst J;exact⟨F,ρ,ds,o,g,G,λU L W s M=>⟨L,ds,r,s.gs.sub,M,j,λw F2 N x O=>k w F2 N (s.trans (x.stp s.gs)) (.later s (O.sY s.gs))⟩⟩
theorem Jg{xs:List V}{i j:Int}(h:az K F xs [.int i,.int j]):xs=[.int i,.int j]:=by obtain⟨v,r,rfl,h1,g⟩:=h.bJ;obtain⟨u,o,rfl,f,k⟩:=g.bJ;rw[Rep]at h1 f;rw[h1,f,k.fj]
theorem inv2{f:Lg}{g:Int->Int->Int}{r:R}(h0:blt f []=none)(h1:∀a,blt f [a]=none)(o:∀a b c l,blt f (a::b::c::l)=none)(q:∀a b,cu a=false->blt f [a,b]=none)(t:∀i b,cu b=false->blt f [.int i,b]=none)(u:∀i j,blt f [.int i,.int j]=some (.val (.int (g i j))))(he:blt f ds=some r):∃i j,ds=[.int i,.int j]/\r=.val (.int (g i j)):=by
 rcases ds with _|⟨a,_|⟨b,_|⟨c,l⟩⟩⟩;.rw[h0]at he;cases he
 .rw[h1]at he;cases he
 . by_cases h:cu a=true
   . obtain⟨i,rfl⟩:∃i,a=.int i:=by cases a<;>first|exact⟨_,rfl⟩|cases h
     by_cases k:cu b=true
     . obtain⟨j,rfl⟩:∃j,b=.int j:=by cases b<;>first|exact⟨_,rfl⟩|cases k
       rw[u]at he;cases he;exact⟨i,j,rfl,rfl⟩
     .rw[t i b (by simpa using k)]at he;cases he
   .rw[q a b (by simpa using h)]at he;cases he
 .rw[o]at he;cases he
theorem BZ(hc:X.calm=true):dz X (.builtin "min") (Rh X.K (blt .min2)):=by rintro f s σ H xs o Q I r⟨F,ds,u,q,t,he,k⟩;obtain⟨i,j,rfl,rfl⟩:=inv2 (g:=λi j=>if j<i then j else i) rfl (λa=>by cases a<;>rfl) (λa b c l=>by cases a<;>first|rfl|(cases b<;>rfl)) (λa b h=>by cases a<;>first|rfl|cases h) (λi b h=>by cases b<;>first|rfl|cases h) (λ_ _=>rfl) he;rw[Jg t]at r;exact tM hc f s σ H _ o Q I r ⟨_,_,rfl,cj.dF q (cT _) k⟩
theorem boot_min:bootBuiltins "min"=some (.builtin "min"):=by decide+kernel
theorem qX(hx:x="min")(hc:X.calm=true)(f:Gl X x)(g:X.mg x=none)(j:SA X c [a,b] [pa,pb])(hs:starEach [a,b] X.env=(false,eval a X.env)::starEach [b] X.env:=by rfl)(hpl:(backTo pos (starEach [b] X.env)).any (·.1)=false:=by rfl):SX X c (.Call (.Name x p') [a,b] [] pos) (.blt .min2 [pa,pb]):=by subst hx;exact JF (λh=>fX (BZ hc) f g boot_min h (he:=hs) (hpl:=hpl)) j (λρ=>rfl) rfl
end
section
variable{X:Cx}{c:Call}{n:Nat}{e a b d:Expr}{p pa pb pd:P}{pos:Pos}{es:List Expr}{ps:List P}
theorem xG(g:GS K F ρ σ H)(h:JW ρ i=some ds):∃a xs,σ[i]?=some (some (V.ref a))/\cR K H a xs:=by
 unfold JW at h;split at h;.rename_i q;cases h;obtain⟨v,h1,f⟩:=g.pk q;obtain⟨a,xs,rfl,j,_⟩:=f.lst g.sub;exact⟨a,xs,h1,j⟩
 .cases h
theorem yS{k:Nat}{h f:Pos}(L:X.N[k]?=some x)(M:vM X.env.scope x)(O:SX X c b pb)(he:SX X c e p)(Q:∀ v,assign (.Subscript (.Name x h) b f) X.env v=(do
  let t<-holding [v] (eval (.Name x h) X.env)let w<-holding [v,t] (eval b X.env)standAt f
  holding [v,t,w] (setItem t w v)release [v,t,w] []):=by intro _;rfl)(hs:swapsWithSole [.Subscript (.Name x h) b f] e pos.line X.env=pure false:=by rfl)(U:swappedStores [.Subscript (.Name x h) b f] e X.env=pure none:=by rfl)(h1:(assignEach [.Subscript (.Name x h) b f] X.env).map (·.2)=[assign (.Subscript (.Name x h) b f) X.env]:=by rfl)(hd:(x==("__debug__":Str))=false:=by decide)(y:(x==("__classdict__":Str))=false:=by decide):SS X c n (.Assign [.Subscript (.Name x h) b f] e pos) (.yW k pb p):=by
 obtain⟨ti,z,B⟩:=O.dY;refine iz (uE he.ev (vI (gK L M hd y) z set_list Q) hs U h1) ?_;rintro D σ H⟨F,ρ,fl,W,g,e,Y⟩;rw[HH.X8]at e;obtain⟨r,C,Z,e⟩:=aa e;obtain⟨x0,G,u,e⟩:=aa e;have zz:=aJ u;clear u;obtain⟨u,Ey⟩:=zz;subst Ey;obtain⟨dk,ρ2,e2,e⟩:=aa e;refine⟨F,ρ,r,C,g,Z,λv F1 H1 s1 rr=>?_⟩;obtain⟨F2,s2,_,rp⟩:=s1.cQ rr;obtain⟨o,ho,_⟩:=s2.gs.pk u;refine⟨o,ho,B s2.gs e2 λvi F3 H3 s3 pi=>?_⟩;split at e
 . rename_i bb ds E q;split at e;.rename_i j hj;cases e;obtain⟨ad,xs,I,q2,q3,J⟩:=s3.gs.mV k _ ds q rfl;rw[ho]at I;cases I;refine⟨ad,xs,E,j,rfl,pi.int,q2,by rw[J.length];exact hj,?_⟩;exact Y F3 σ _ ((s2.trans s3).trans (s3.gs.mut q ho (J.set (rp.mono s3.bI) j)))
   .cases e
 .cases e
theorem nR{k:Nat}{t h f:Pos}(I:X.N[k]?=some x)(J:vM X.env.scope x)(he:SX X c e p)(j:(h.endLine==f.line)=true:=by rfl)(hs:starEach [e] X.env=(false,eval e X.env)::starEach [] X.env:=by rfl)(o:attributeBase (.Name x t) "append" X.env (eval (.Name x t) X.env)=eval (.Name x t) X.env:=by rfl)(u:((backTo f (starEach [e] X.env)).all (λx=>!x.1)&&(backToKw f (keywordEach [] X.env)).all (λx=>x.1.isSome)&&decide ([e].length+([]:List Keyword).length+(if([]:List Keyword).isEmpty then 0 else 1)<30))=true:=by rfl)(y:swapsWith (.Call (.Attribute (.Name x t) "append" h) [e] [] f) none pos.line X.env=pure false:=by rfl)(hd:(x==("__debug__":Str))=false:=by decide)(z:(x==("__classdict__":Str))=false:=by decide):SS X c n (.Expr (.Call (.Attribute (.Name x t) "append" h) [e] [] f) pos) (.app k p):=by
 refine iz (qM (zc PySem.F.plainAttrs_list PySem.F.slot_list_append PySem.F.type_list_append iR (gK I J hd z) (aV he.ev cL hs) o u j hs) y) ?_;rintro D σ H⟨F,ρ,fl,L,g,e,M⟩;rw[HH.X9]at e;obtain⟨d0,O,w,e⟩:=aa e;have Q:=aJ w;clear w;obtain⟨w,U⟩:=Q;subst U;obtain⟨r,B,W,e⟩:=aa e;obtain⟨a,xs,h1,Y⟩:=xG g w;refine⟨.ref a,h1,.inl ⟨rfl,xs,Y⟩,F,ρ,r,B,g,W,λv F1 H1 s1 Z=>?_⟩;obtain⟨F2,s2,_,rp⟩:=s1.cQ Z;split at e
 . rename_i bb ds q;split at e;.rename_i C;cases e;obtain⟨ad,ys,E,q2,q3,G⟩:=s2.gs.mV k _ ds q rfl;rw[h1]at E;cases E;exact⟨_,ys,v,rfl,rfl,q2,by rw[G.length];exact C,M F2 σ _ (s2.trans (s2.gs.mut q h1 (G.append (.cons rp .nil))))⟩
   .cases e
 .cases e
theorem Dk{j:Nat}{y:Str}{o q pt:Pos}{kt k2 Et}(hc:X.calm=true)(C:X.N.Nodup)(E:X.N[i]?=some x)(G:X.N[j]?=some y)(t:i≠j)(hx:X.env.scope.names.lookup x=some .local)(I:X.env.scope.names.lookup y=some .local)(J:SX X c a pa)(L:SX X c b pb)(M:swappedStores [.Tuple [.Name x o,.Name y q] kt pt] (.Tuple [a,b] k2 Et) X.env=pure (some [x,y]):=by rfl)(hs:swapsWithSole [.Tuple [.Name x o,.Name y q] kt pt] (.Tuple [a,b] k2 Et) pos.line X.env=pure false:=by rfl)(h1:starEach [a,b] X.env=(false,eval a X.env)::starEach [b] X.env:=by rfl)(O:starEach [b] X.env=(false,eval b X.env)::starEach [] X.env:=by rfl):SS X c n (.Assign [.Tuple [.Name x o,.Name y q] kt pt] (.Tuple [a,b] k2 Et) pos) (.par i j pa pb):=by refine iz (L2.CT hc C E G t hx I (aV J.ev (aV L.ev cL O) h1) M hs) ?_;rintro D σ H⟨F,ρ,fl,Q,g,e,k⟩;rw[HH.X7]at e;obtain⟨r,f,U,e⟩:=aa e;obtain⟨B,ρ2,W,e⟩:=aa e;obtain⟨Y,Z,h,e⟩:=aa e;cases e;have zz:=aJ h;clear h;obtain⟨h,e4⟩:=zz;obtain⟨ab,e5,e6⟩:=fM h;refine⟨F,ρ,r,f,g,U,λv F1 H1 s1 rr=>?_⟩;obtain⟨F2,s2,_,rp⟩:=s1.cQ rr;refine⟨F2,f,B,ρ2,s2.gs,W,λu F3 H3 s3 w=>?_⟩;obtain⟨F4,s4,_,z⟩:=s3.cQ w;refine⟨v,u,rfl,?_⟩;have t4:=s2.trans s4;have t5:=t4.put (r:=.val r.d) (v:=v) (rp.mono s4.bI) e5;exact k F4 _ H3 (t5.put (r:=.val B.d) (v:=u) z e6)
theorem vh{bs:List Bool}(h:ds.mapM oF=some bs):ds=bs.map D.bl:=by induction ds generalizing bs with|nil=>simp at h;subst h;rfl|cons d ds f=>rw[List.mapM_cons]at h;cases hd:oF d with|none=>rw[hd]at h;cases h|some k=>rw[hd]at h;cases hr:ds.mapM oF with|none=>rw[hr]at h;cases h|some r=>rw[hr]at h;cases h;rw[map_cons,<-f hr,jF hd]
theorem qJ{K:PySem.W.Frag}{F:Hp}:∀{bs:List Bool}{xs:List V},az K F xs (bs.map D.bl)->xs=bs.map V.bl|[],_,h=>h.fj|k::bs,_,h=>by obtain⟨v,r,rfl,h1,f⟩:=h.bJ;rw[Rep]at h1;rw[h1,qJ f];rfl
theorem rB:∀{bs:List Bool}{f:List Value},Vals (bs.map V.bl) f->f=bs.map Value.bool|[],_,h=>h.zero|k::bs,_,.cons r t=>by rw[map_cons,<-rB t,show _=_ from r]
theorem xr{id:String}{f:List Bool->Bool}(hc:X.calm=true)(rule:∀{x:Value}{Q:Value->Shared->Prop}{s:Shared},wpAny (model X.prog X.w) X.A.in1 (pyIter x) (λJ g=>∃ I L y n P St B,J=.ref I/\Walks X.prog X.w X.A.in1 I L y n P St/\St 0 g.heap/\TruthOf X.prog X.w X.A.in1 P B/\∀h' C,(∀b o,b∉y->g.heap.get? b=some o->h'.get? b=some o)->Q (.bool (f ((List.range n).map B))) {g with heap:=h',toks:=C}) X.xe s->wpAny (model X.prog X.w) X.A (call (.builtin id) [x]) Q X.xe s):dz X (.builtin id) (λxs H Q=>∃p ys bs,xs=[.ref p]/\cR X.K H p ys/\ys=bs.map V.bl/\Q (.bl (f bs)) H):=by
 rintro E s σ H xs us Q I r⟨p,ys,bs,hx,M,N,k⟩;subst hx;subst N;obtain⟨u,rfl,O⟩:=r.one;cases O;obtain⟨U,W,q,hz⟩:=I.list M;have h:=rB W;subst h;refine rule (wpAny_pyIter_list q.isList ?_);have t:p≠s.heap.objs.size:=by obtain⟨o,h1,_⟩:=q.isList;exact ne_of_lt (lt_size h1)
 refine⟨s.heap.objs.size,_,_,_,_,_,λi=>bs.getD i false,rfl,Walks.list (prog:=X.prog) (w:=X.w) (A:=X.A.in1) (show X.A.in1.handled=none from I.ok.hd hc) s.heap.objs.size p t (bs.map Value.bool).toArray,⟨⟨_,get?_push_size _ rfl,rfl,rfl⟩,?_⟩,?_,λh' C kp=>?_⟩;.obtain⟨o,h1,G⟩:=q.isList;exact⟨o,dH h1,G⟩
 . intro i v s' Q' E' j Y;have Z:v=.bool (bs.getD i false):=by
    have j:(bs.map Value.bool)[i]?=some v:=by simpa using j
    rw[getElem?_map]at j;obtain⟨k',e1,e2⟩:=map_some j;rw[<-e2,List.getD_eq_getElem?_getD,e1];rfl
   subst Z;exact wpAny_truthy_bool Y
 . have e:f ((List.range (bs.map Value.bool).toArray.size).map λi=>bs.getD i false)=f bs:=by
    congr 1;apply ext_getElem;.simp
    .intro i h1 G;simp at h1;simp[h1]
   rw[e];exact⟨.bl _,H,I.kept (λb o z=>kp b o (by simp;exact ne_of_lt (lt_size z)) (dH z)),rfl,k⟩
theorem Jk(hc:X.calm=true):dz X (.builtin "all") (Jf X.K λx=>blt .all [x]):=by rintro g s σ H xs u Q I r⟨x,hx,F,d,w,j,y,he,k⟩;obtain⟨bs,B,he⟩:=map_some (show((o4 d).bind λds=>ds.mapM oF).map _=some w from he);subst he;obtain⟨ds,o,C⟩:=fM B;have E:=vh C;cases d with|lst es=>cases o;obtain⟨p,ys,rfl,G,q⟩:=y.lst j;rw[E]at q;refine xr (f:=λbs=>bs.all id) hc (λh=>call_all_walk (wpAny_mono h (λL t⟨I,fp,wr,n,P,Sx,tr,h1,h2,h3,h4,h5⟩=>⟨I,fp,wr,n,P,Sx,tr,h1,h2,h3,h4,λh' J kp=>?_⟩) λ_ _ z=>z)) g s σ H xs u Q I r ⟨p,ys,bs,hx,G,qJ q,cj.dF j (eX _) k⟩;have z:=h5 h' J kp;rw[List.all_map]at z;exact z|_=>cases o
theorem boot_all:bootBuiltins "all"=some (.builtin "all"):=by decide+kernel
theorem Dw(hx:x="all")(hc:X.calm=true)(f:Gl X x)(g:X.mg x=none)(j:SX X c a pa)(hs:starEach [a] X.env=(false,eval a X.env)::starEach [] X.env:=by rfl):SX X c (.Call (.Name x p') [a] [] pos) (.blt .all [pa]):=by subst hx;exact rz (λh=>fX (Jk hc) f g boot_all h (he:=hs)) j (λρ=>rfl) rfl hs
end
section
variable{K:PySem.W.Frag}
theorem fW:∀{xs ys:List D},xs.length≠ys.length->fC xs ys=false|[],[],h=>absurd rfl h|[],_::_,_=>by simp[fY,dC,iV,iM]|_::_,[],_=>by simp[fY,dC,iV,iM]|x::xs,y::ys,h=>by rw[dC,fW (xs:=xs) (ys:=ys) (by simpa using h),Bool.and_false]
theorem dj:∀{xs ys:List D},xs.length=ys.length->fC xs ys=(List.range xs.length).all λj=>fL (xs.getD j .non) (ys.getD j .non)|[],[],_=>by rw[fY];rfl|[],_::_,h=>by simp at h|_::_,[],h=>by simp at h|x::xs,y::ys,h=>by rw[dC,dj (xs:=xs) (ys:=ys) (by simpa using h),length_cons,List.range_succ_eq_map,all_cons,List.all_map];rfl
mutual
theorem fU:∀d:D,fL d d=true|.non=>rfl|.bl _=>by exact beq_self_eq_true _|.int _=>by exact beq_self_eq_true _|.str _=>by exact beq_self_eq_true _|.tup ds=>by exact gB ds|.lst ds=>by exact gB ds|.cD _=>by exact decide_eq_true rfl|.dv a ds=>by show(decide (a=a)&&fC ds ds)=true;rw[gB ds];simp
theorem gB:∀ds:List D,fC ds ds=true|[]=>by rw[fY]|d::ds=>by rw[dC,fU d,gB ds];rfl
end
theorem cO{d e:D}(b:flat d=true)(h1:Rep K F v d)(a:Rep K F v e):d=e:=by cases d with
 |tup _=>cases b|lst _=>cases b|cD _=>cases b|dv _ _=>cases b|non=>rw[Rep]at h1;subst h1;cases e with|non=>rfl|tup _=>rw[Rep]at a;obtain⟨_,_,q,_⟩:=a;cases q|lst _=>rw[Rep]at a;obtain⟨_,_,q,_⟩:=a;cases q|cD _=>rw[Rep]at a;obtain⟨_,_,q,_⟩:=a;cases q|dv _ _=>rw[Rep]at a;obtain⟨_,_,_,q,_⟩:=a;cases q|_=>rw[Rep]at a;cases a
 |bl k=>rw[Rep]at h1;subst h1;cases e with|bl _=>rw[Rep]at a;cases a;rfl|tup _=>rw[Rep]at a;obtain⟨_,_,q,_⟩:=a;cases q|lst _=>rw[Rep]at a;obtain⟨_,_,q,_⟩:=a;cases q|cD _=>rw[Rep]at a;obtain⟨_,_,q,_⟩:=a;cases q|dv _ _=>rw[Rep]at a;obtain⟨_,_,_,q,_⟩:=a;cases q|_=>rw[Rep]at a;cases a
 |int k=>rw[Rep]at h1;subst h1;cases e with|int _=>rw[Rep]at a;cases a;rfl|tup _=>rw[Rep]at a;obtain⟨_,_,q,_⟩:=a;cases q|lst _=>rw[Rep]at a;obtain⟨_,_,q,_⟩:=a;cases q|cD _=>rw[Rep]at a;obtain⟨_,_,q,_⟩:=a;cases q|dv _ _=>rw[Rep]at a;obtain⟨_,_,_,q,_⟩:=a;cases q|_=>rw[Rep]at a;cases a
 |str k=>rw[Rep]at h1;subst h1;cases e with|str _=>rw[Rep]at a;cases a;rfl|tup _=>rw[Rep]at a;obtain⟨_,_,q,_⟩:=a;cases q|lst _=>rw[Rep]at a;obtain⟨_,_,q,_⟩:=a;cases q|cD _=>rw[Rep]at a;obtain⟨_,_,q,_⟩:=a;cases q|dv _ _=>rw[Rep]at a;obtain⟨_,_,_,q,_⟩:=a;cases q|_=>rw[Rep]at a;cases a
theorem yc{X:Cx}{C:List (Addr×Obj)}(I:L2.Inv X C σ H s)(p:au F H):∀n:Nat,(∀d:D,dq n d=true->∀(v:V)(e:D),Rep X.K F v d->Rep X.K F v e->d=e):=by
 have Y:∀{a:Addr}{xs ys:List V},eY X.K F a xs->cR X.K F a ys->False:=λ{a xs ys}h1 b=>by obtain⟨_,_,⟨o,t,u,_⟩,_⟩:=I.tuple (au.dR p h1);obtain⟨_,_,E,_⟩:=I.list (p.seq b);obtain⟨M,g,j,_⟩:=E.isList;rw[t]at g;cases g;rw[u]at j;exact absurd j (by decide)
 have Z:∀{a:Addr}{f:Dc},Rep X.K F (.ref a) (.cD f)->∃o,s.heap.get? a=some o/\o.cls=.type "dict":=λ{a f}h=>by rw[Rep]at h;obtain⟨G,_,q,N⟩:=h;cases q;exact wg I (p _ _ N)
 have td:∀{a:Addr}{xs:List V}{f:Dc},eY X.K F a xs->Rep X.K F (.ref a) (.cD f)->False:=λ{a xs f}h1 b=>by obtain⟨_,_,⟨o,t,u,_⟩,_⟩:=I.tuple (au.dR p h1);obtain⟨M,g,j⟩:=Z b;rw[t]at g;cases g;rw[u]at j;exact absurd j (by decide)
 have ld:∀{a:Addr}{xs:List V}{f:Dc},cR X.K F a xs->Rep X.K F (.ref a) (.cD f)->False:=λ{a xs f}h1 b=>by obtain⟨_,_,E,_⟩:=I.list (p.seq h1);obtain⟨o,t,u,_⟩:=E.isList;obtain⟨M,g,j⟩:=Z b;rw[t]at g;cases g;rw[u]at j;exact absurd j (by decide)
 have J:∀{a:Addr}{y:List Int}{c:List D},Rep X.K F (.ref a) (.dv y c)->∃o,s.heap.get? a=some o/\o.cls=.type "dict":=λ{a y c}h=>by rw[Rep]at h;obtain⟨G,_,_,q,N,_⟩:=h;cases q;exact vW I (p _ _ N)
 have O:∀{a:Addr}{xs:List V}{y:List Int}{c:List D},eY X.K F a xs->Rep X.K F (.ref a) (.dv y c)->False:=λ{a xs y c}h1 b=>by obtain⟨_,_,⟨o,t,u,_⟩,_⟩:=I.tuple (au.dR p h1);obtain⟨M,g,j⟩:=J b;rw[t]at g;cases g;rw[u]at j;exact absurd j (by decide)
 have Q:∀{a:Addr}{xs:List V}{y:List Int}{c:List D},cR X.K F a xs->Rep X.K F (.ref a) (.dv y c)->False:=λ{a xs y c}h1 b=>by obtain⟨_,_,E,_⟩:=I.list (p.seq h1);obtain⟨o,t,u,_⟩:=E.isList;obtain⟨M,g,j⟩:=J b;rw[t]at g;cases g;rw[u]at j;exact absurd j (by decide)
 intro n;induction n with
 |zero=>intro d hd v e h1 b;cases d with|tup _=>simp[aN,aL,aP,aO,aR,aQ]at hd|lst _=>simp[aN,aL,aP,aO,aR,aQ]at hd|cD _=>simp[aN,aL,aP,aO,aR,aQ]at hd|dv _ _=>simp[aN,aL,aP,aO,aR,aQ]at hd|non=>exact cO rfl h1 b|bl k=>exact cO rfl h1 b|int k=>exact cO rfl h1 b|str k=>exact cO rfl h1 b
 |succ n ih=>
   have all:∀{xs:List V}{ds c:List D},ds.all (dq n)=true->az X.K F xs ds->az X.K F xs c->ds=c:=λ{xs ds}=>by induction ds generalizing xs with|nil=>intro c _ h1 b;rw[h1.fj]at b;have:=b.length;exact(List.eq_nil_of_length_eq_zero this.symm).symm|cons d ds U=>intro c z h1 b;rw[all_cons,and_eq_true]at z;obtain⟨v,r,rfl,t,u⟩:=h1.bJ;cases c with|nil=>cases b.fj|cons e c=>obtain⟨v',r',q0,g,j⟩:=b.bJ;cases q0;rw[ih d z.1 v e t g,U z.2 u j]
   intro d hd v e h1 b;cases d with
   |cD _=>simp[aN,aL,aP,aO,aR,aQ]at hd|dv _ _=>simp[aN,aL,aP,aO,aR,aQ]at hd|tup ds=>
     have z:ds.all (dq n)=true:=by simpa[aN,aL,aP,aO,aR,aQ]using hd
     rw[Rep]at h1;obtain⟨a,xs,rfl,w,W⟩:=h1;cases e with|tup c=>rw[Rep]at b;obtain⟨G,ys,q,B,L⟩:=b;cases q;have:=I.gD (au.dR p w) (au.dR p B);subst this;rw[all z W L]|lst c=>rw[Rep]at b;obtain⟨G,ys,q,B,L⟩:=b;cases q;exact(Y w B).elim|cD _=>exact(td w b).elim|dv _ _=>exact(O w b).elim|_=>rw[Rep]at b;cases b
   |lst ds=>
     have z:ds.all (dq n)=true:=by simpa[aN,aL,aP,aO,aR,aQ]using hd
     rw[Rep]at h1;obtain⟨a,xs,rfl,w,W⟩:=h1;cases e with|lst c=>rw[Rep]at b;obtain⟨G,ys,q,B,L⟩:=b;cases q;have:=I.il (p.seq w) (p.seq B);subst this;rw[all z W L]|tup c=>rw[Rep]at b;obtain⟨G,ys,q,B,L⟩:=b;cases q;exact(Y B w).elim|cD _=>exact(ld w b).elim|dv _ _=>exact(Q w b).elim|_=>rw[Rep]at b;cases b
   |non=>exact cO rfl h1 b|bl k=>exact cO rfl h1 b|int k=>exact cO rfl h1 b|str k=>exact cO rfl h1 b
theorem qK{d e:D}{u:V}{c:Value}(hd:flat d=true)(he:flat e=true)(h1:Rep K F v d)(a:Rep K F u e)(r1:RelV v c)(b:RelV u u'):SeqAt.EqAt A s c u' (fL d e):=by cases d with
 |tup _=>cases hd|lst _=>cases hd|cD _=>cases hd|dv _ _=>cases hd|non=>rw[Rep]at h1;subst h1;cases(show c=.none from r1);cases e with|tup _=>cases he|lst _=>cases he|cD _=>cases he|dv _ _=>cases he|non=>rw[Rep]at a;subst a;cases(show u'=.none from b);exact SeqAt.EqAt.same _|bl _=>rw[Rep]at a;subst a;cases(show u'=.bool _ from b);exact SeqAt.EqAt.none_bool _|int _=>rw[Rep]at a;subst a;obtain⟨t,rfl⟩:=b;exact SeqAt.EqAt.none_int _ _|str _=>rw[Rep]at a;subst a;obtain⟨t,rfl⟩:=b;exact SeqAt.EqAt.none_str _ _
 |bl _=>rw[Rep]at h1;subst h1;cases(show c=.bool _ from r1);cases e with|tup _=>cases he|lst _=>cases he|cD _=>cases he|dv _ _=>cases he|non=>rw[Rep]at a;subst a;cases(show u'=.none from b);exact SeqAt.EqAt.bool_none _|bl _=>rw[Rep]at a;subst a;cases(show u'=.bool _ from b);exact SeqAt.EqAt.bool_bool _ _|int _=>rw[Rep]at a;subst a;obtain⟨t,rfl⟩:=b;exact SeqAt.EqAt.bool_int _ _ _|str _=>rw[Rep]at a;subst a;obtain⟨t,rfl⟩:=b;exact SeqAt.EqAt.bool_str _ _ _
 |int _=>rw[Rep]at h1;subst h1;obtain⟨t0,rfl⟩:=r1;cases e with|tup _=>cases he|lst _=>cases he|cD _=>cases he|dv _ _=>cases he|non=>rw[Rep]at a;subst a;cases(show u'=.none from b);exact SeqAt.EqAt.int_none _ _|bl _=>rw[Rep]at a;subst a;cases(show u'=.bool _ from b);exact SeqAt.EqAt.int_bool _ _ _|int _=>rw[Rep]at a;subst a;obtain⟨t,rfl⟩:=b;exact SeqAt.EqAt.int_int _ _ _ _|str _=>rw[Rep]at a;subst a;obtain⟨t,rfl⟩:=b;exact int_str _ _ _ _
 |str _=>rw[Rep]at h1;subst h1;obtain⟨t0,rfl⟩:=r1;cases e with|tup _=>cases he|lst _=>cases he|cD _=>cases he|dv _ _=>cases he|non=>rw[Rep]at a;subst a;cases(show u'=.none from b);exact SeqAt.EqAt.str_none _ _|bl _=>rw[Rep]at a;subst a;cases(show u'=.bool _ from b);exact SeqAt.EqAt.str_bool _ _ _|int _=>rw[Rep]at a;subst a;obtain⟨t,rfl⟩:=b;exact str_int _ _ _ _|str _=>rw[Rep]at a;subst a;obtain⟨t,rfl⟩:=b;exact SeqAt.EqAt.str_str _ _ _ _
theorem iy{e:D}{u:V}{a:Addr}{h:Array Value}(b:s.heap.IsTuple a h)(c:A.units<cLine)(he:flat e=true)(f:Rep K F u e)(g:RelV u u'):SeqAt.EqAt A s (.ref a) u' (fL (.tup ds) e)/\SeqAt.EqAt A s u' (.ref a) (fL e (.tup ds)):=by cases e with|tup _=>cases he|lst _=>cases he|cD _=>cases he|dv _ _=>cases he|non=>rw[Rep]at f;subst f;cases(show u'=.none from g);exact⟨SeqAt.EqAt.tuple_none b c,SeqAt.EqAt.none_tuple b c⟩|bl _=>rw[Rep]at f;subst f;cases(show u'=.bool _ from g);exact⟨SeqAt.EqAt.tuple_bool _ b c,SeqAt.EqAt.bool_tuple _ b c⟩|int _=>rw[Rep]at f;subst f;obtain⟨t,rfl⟩:=g;exact⟨SeqAt.EqAt.tuple_int _ _ b c,SeqAt.EqAt.int_tuple _ _ b c⟩|str _=>rw[Rep]at f;subst f;obtain⟨t,rfl⟩:=g;exact⟨SeqAt.EqAt.tuple_str _ _ b c,SeqAt.EqAt.str_tuple _ _ b c⟩
theorem ie{e:D}{u:V}{a:Addr}{h:Array Value}(b:s.heap.IsList a h)(c:A.units<cLine)(he:flat e=true)(f:Rep K F u e)(g:RelV u u'):SeqAt.EqAt A s (.ref a) u' (fL (.lst ds) e)/\SeqAt.EqAt A s u' (.ref a) (fL e (.lst ds)):=by cases e with|tup _=>cases he|lst _=>cases he|cD _=>cases he|dv _ _=>cases he|non=>rw[Rep]at f;subst f;cases(show u'=.none from g);exact⟨SeqAt.EqAt.list_none b c,SeqAt.EqAt.none_list b c⟩|bl _=>rw[Rep]at f;subst f;cases(show u'=.bool _ from g);exact⟨SeqAt.EqAt.list_bool _ b c,SeqAt.EqAt.bool_list _ b c⟩|int _=>rw[Rep]at f;subst f;obtain⟨t,rfl⟩:=g;exact⟨SeqAt.EqAt.list_int _ _ b c,SeqAt.EqAt.int_list _ _ b c⟩|str _=>rw[Rep]at f;subst f;obtain⟨t,rfl⟩:=g;exact⟨SeqAt.EqAt.list_str _ _ b c,SeqAt.EqAt.str_list _ _ b c⟩
theorem oH{n:Nat}{d:D}(h:dq n d=true)(h0:n=0):flat d=true:=by subst h0;cases d<;>first|rfl|simp[aN,aL,aP,aO,aR,aQ]at h
theorem Qc{X:Cx}{Q:List (Addr×Obj)}(I:L2.Inv X Q σ H s)(C:au F H):∀(n:Nat)(A:Around),A.units+n<cLine->∀(d e:D),dq n d=true->dq n e=true->∀(v u:V)(U u':Value),Rep X.K F v d->Rep X.K F u e->RelV v U->RelV u u'->SeqAt.EqAt A s U u' (fL d e):=by intro n;induction n with|zero=>intro A hu d e hd he v u U u' h1 g r1 h;exact qK (oH hd rfl) (oH he rfl) h1 g r1 h|succ n ih=>
   intro A hu d e hd he v u U u' h1 g r1 h;have c:A.units<cLine:=by omega
   have Z:A.in1.units+n<cLine:=by show A.units+1+n<cLine;omega--items by place
   have W:∀{xs ys:List V}{B ws:List Value}{ds f:List D}{j:Nat}(L:j<B.toArray.size)(M:j<ws.toArray.size),ds.all (dq n)=true->f.all (dq n)=true->Vals xs B->Vals ys ws->az X.K F xs ds->az X.K F ys f->SeqAt.EqAt A.in1 s B.toArray[j] ws.toArray[j] (fL (ds.getD j .non) (f.getD j .non)):=λ{xs ys B ws ds f j}L M a1 a2 N p k o=>by
    have L:j<B.length:=by simpa using L
    have M:j<ws.length:=by simpa using M
    have E:j<ds.length:=by rw[<-k.length,N.length];exact L
    have O:j<f.length:=by rw[<-o.length,p.length];exact M
    obtain⟨x,g1,g2⟩:=k.get (show ds[j]?=some ds[j]by simp[E]);obtain⟨y,g3,g4⟩:=o.get (show f[j]?=some f[j]by simp[O]);obtain⟨x',g5,g6⟩:=N.get g1;obtain⟨y',g7,g8⟩:=p.get g3;have e1:B.toArray[j]=x':=by have:=(fJ g5).2;simpa using this
    have e2:ws.toArray[j]=y':=by have:=(fJ g7).2;simpa using this
    have e3:ds.getD j .non=ds[j]:=by simp[getD,E]
    have e4:f.getD j .non=f[j]:=by simp[getD,O]
    rw[e1,e2,e3,e4];exact ih A.in1 Z _ _ (all_eq_true.mp a1 _ (getElem_mem E)) (all_eq_true.mp a2 _ (getElem_mem O)) x y x' y' g2 g4 g6 g8--the same object
   have same:∀{a:Addr},v=.ref a->u=.ref a->SeqAt.EqAt A s U u' (fL d e):=λ{a}q1 q2=>by subst q1;subst q2;have:=yc I C (n+1) d hd _ e h1 g;subst this;rw[fU];cases r1;cases h;exact SeqAt.EqAt.same _
   cases d with
   |cD _=>simp[aN,aL,aP,aO,aR,aQ]at hd|dv _ _=>simp[aN,aL,aP,aO,aR,aQ]at hd|tup ds=>
     have ha:ds.all (dq n)=true:=by simpa[aN,aL,aP,aO,aR,aQ]using hd
     have q:=h1;rw[Rep]at q;obtain⟨a,xs,rfl,z1,Y⟩:=q;cases r1;obtain⟨B,N,k,_⟩:=I.tuple (au.dR C z1)
     cases e with|cD _=>simp[aN,aL,aP,aO,aR,aQ]at he|dv _ _=>simp[aN,aL,aP,aO,aR,aQ]at he|tup f=>
       have hb:f.all (dq n)=true:=by simpa[aN,aL,aP,aO,aR,aQ]using he
       have r:=g;rw[Rep]at r;obtain⟨b,ys,rfl,t,G⟩:=r;by_cases w:a=b;.subst w;exact same rfl rfl
       . cases h;obtain⟨ws,p,o,_⟩:=I.tuple (au.dR C t);refine .of_refs w ?_;have z:=SeqAt.RcAt.tuples (A:=A) (e:=λj=>fL (ds.getD j .non) (f.getD j .non)) k o c λj L M=>W L M ha hb N p Y G;have E:B.toArray.size=ds.length:=by rw[size_toArray,<-N.length,Y.length]
         have O:ws.toArray.size=f.length:=by rw[size_toArray,<-p.length,G.length]
         rw[E,O]at z;have e0:fL (.tup ds) (.tup f)=((List.range (min ds.length f.length)).all (λj=>fL (ds.getD j .non) (f.getD j .non))&&ds.length==f.length):=by
          rw[Q5];by_cases J:ds.length=f.length;.rw[dj J,J];simp
          . rw[fW J];have:(ds.length==f.length)=false:=by simpa using J
            rw[this,Bool.and_false]
         rw[e0];exact z|lst f=>rw[Rep]at g;obtain⟨b,ys,rfl,t,G⟩:=g;cases h;obtain⟨ws,p,o,_⟩:=I.list (C.seq t);exact SeqAt.EqAt.tuple_list k o.isList c|non=>exact(iy k c rfl g h).1|bl _=>exact(iy k c rfl g h).1|int _=>exact(iy k c rfl g h).1|str _=>exact(iy k c rfl g h).1
   |lst ds=>
     have ha:ds.all (dq n)=true:=by simpa[aN,aL,aP,aO,aR,aQ]using hd
     have q:=h1;rw[Rep]at q;obtain⟨a,xs,rfl,z1,Y⟩:=q
     cases r1;obtain⟨B,N,k,_⟩:=I.list (C.seq z1);cases e with|cD _=>simp[aN,aL,aP,aO,aR,aQ]at he|dv _ _=>simp[aN,aL,aP,aO,aR,aQ]at he|lst f=>
       have hb:f.all (dq n)=true:=by simpa[aN,aL,aP,aO,aR,aQ]using he
       have r:=g;rw[Rep]at r;obtain⟨b,ys,rfl,t,G⟩:=r;by_cases w:a=b;.subst w;exact same rfl rfl
       . cases h;obtain⟨ws,p,o,_⟩:=I.list (C.seq t);refine .of_refs w ?_;have E:B.toArray.size=ds.length:=by rw[size_toArray,<-N.length,Y.length]
         have O:ws.toArray.size=f.length:=by rw[size_toArray,<-p.length,G.length]
         rw[Ku];by_cases J:ds.length=f.length;.have z:=SeqAt.RcAt.lists (A:=A) (e:=λj=>fL (ds.getD j .non) (f.getD j .non)) k.isList o.isList (by rw[E,O,J]) c λj L M=>W L M ha hb N p Y G;rw[E]at z;rw[dj J];exact z
         .rw[fW J];exact lists_lengths k.isList o.isList (by rw[E,O];simpa using J) c|tup f=>rw[Rep]at g;obtain⟨b,ys,rfl,t,G⟩:=g;cases h;obtain⟨ws,p,o,_⟩:=I.tuple (au.dR C t);exact SeqAt.EqAt.list_tuple k.isList o c|non=>exact(ie k.isList c rfl g h).1|bl _=>exact(ie k.isList c rfl g h).1|int _=>exact(ie k.isList c rfl g h).1|str _=>exact(ie k.isList c rfl g h).1
   |non|bl _|int _|str _=>cases e with|cD _=>simp[aN,aL,aP,aO,aR,aQ]at he|dv _ _=>simp[aN,aL,aP,aO,aR,aQ]at he|tup f=>rw[Rep]at g;obtain⟨b,ys,rfl,t,G⟩:=g;cases h;obtain⟨ws,p,o,_⟩:=I.tuple (au.dR C t);exact(iy o c rfl h1 r1).2|lst f=>rw[Rep]at g;obtain⟨b,ys,rfl,t,G⟩:=g;cases h;obtain⟨ws,p,o,_⟩:=I.list (C.seq t);exact(ie o.isList c rfl h1 r1).2|_=>exact qK rfl rfl h1 g r1 h
end
section
variable{X:Cx}{pins:List (Addr×Obj)}{σ:L2.St}{H F:Hp}{s:Shared}{A:Around}
abbrev RC(A:Around)(s:Shared)(v u:Value)(k:Bool):Prop:=SeqAt.RcAt A s v u k/\SeqAt.RcNeAt A s v u (!k)
inductive Top(X:Cx)(F H:Hp)(s:Shared):Value->D->Prop where|non:Top X F H s .none .non|bl(b:Bool):Top X F H s (.bool b) (.bl b)|int(i:Int)(t:Tok):Top X F H s (.int i t) (.int i)|str(x:Str)(t:Tok):Top X F H s (.str x t) (.str x)|tup{a:Addr}{us:List Value}{xs:List V}{ds:List D}(ht:s.heap.IsTuple a us.toArray)(hv:Vals xs us)(hr:az X.K F xs ds):Top X F H s (.ref a) (.tup ds)|lst{a:Addr}{us:List Value}{xs:List V}{ds:List D}(ht:s.heap.IsList a us.toArray)(hv:Vals xs us)(hr:az X.K F xs ds):Top X F H s (.ref a) (.lst ds)
theorem mF(I:L2.Inv X pins σ H s)(g:au F H){j:Value}{d:D}(hd:dq 8 d=true)(h:bR X.K F H v d)(r:RelV v j):Top X F H s j d:=by cases d with|cD _=>simp[aN,aL,aP,aO,aR,aQ]at hd|dv _ _=>simp[aN,aL,aP,aO,aR,aQ]at hd|non=>rw[h.non]at r;cases r;exact .non|bl b=>rw[h.bl]at r;cases r;exact .bl b|int i=>rw[h.int]at r;obtain⟨t,rfl⟩:=r;exact .int i t|str x=>rw[h.str]at r;obtain⟨t,rfl⟩:=r;exact .str x t|tup ds=>obtain⟨a,xs,rfl,h1,c,_⟩:=h.tup g;cases r;obtain⟨k,e,f,_⟩:=I.tuple h1;exact .tup f e c|lst ds=>obtain⟨a,xs,rfl,h1,c⟩:=h.lst g;cases r;obtain⟨k,e,f,_⟩:=I.list h1;exact .lst f.isList e c
theorem Jv(I:L2.Inv X pins σ H s)(sm:au F H){n:Nat}(hu:A.units+(n+1)<cLine){d e:D}(hd:dq (n+1) d=true)(he:dq (n+1) e=true){O:Value}(h1:Top X F H s O d)(E:Top X F H s u' e):RC A s O u' (fL d e):=by
 have c:A.units<cLine:=by omega
 have N:A.in1.units+n<cLine:=by show A.units+1+n<cLine;omega
 have B:∀{xs ys:List V}{w ws:List Value}{ds g:List D}{j:Nat}(p:j<w.toArray.size)(q:j<ws.toArray.size),ds.all (dq n)=true->g.all (dq n)=true->Vals xs w->Vals ys ws->az X.K F xs ds->az X.K F ys g->SeqAt.EqAt A.in1 s w.toArray[j] ws.toArray[j] (fL (ds.getD j .non) (g.getD j .non)):=λ{xs ys w ws ds g j}p q a1 a2 Q U W Y=>by
  have p:j<w.length:=by simpa using p
  have q:j<ws.length:=by simpa using q
  have r:j<ds.length:=by rw[<-W.length,Q.length];exact p
  have z:j<g.length:=by rw[<-Y.length,U.length];exact q
  obtain⟨x,g1,g2⟩:=W.get (show ds[j]?=some ds[j]by simp[r]);obtain⟨y,g3,g4⟩:=Y.get (show g[j]?=some g[j]by simp[z]);obtain⟨Z,g5,g6⟩:=Q.get g1;obtain⟨y',g7,g8⟩:=U.get g3;have e1:w.toArray[j]=Z:=by have:=(fJ g5).2;simpa using this
  have e2:ws.toArray[j]=y':=by have:=(fJ g7).2;simpa using this
  have e3:ds.getD j .non=ds[j]:=by simp[getD,r]
  have e4:g.getD j .non=g[j]:=by simp[getD,z]
  rw[e1,e2,e3,e4];exact Qc I sm n A.in1 N _ _ (all_eq_true.mp a1 _ (getElem_mem r)) (all_eq_true.mp a2 _ (getElem_mem z)) x y Z y' g2 g4 g6 g8
 cases h1 with
 |non=>cases E with|non=>exact⟨SeqAt.RcAt.none_none,SeqAt.RcNeAt.none_none⟩|bl b=>exact⟨SeqAt.RcAt.none_bool _,SeqAt.RcNeAt.none_bool _⟩|int i t=>exact⟨SeqAt.RcAt.none_int _ _,none_int _ _⟩|str i t=>exact⟨SeqAt.RcAt.none_str _ _,none_str _ _⟩|tup f _ _=>exact⟨SeqAt.RcAt.none_tuple f c,SeqAt.RcNeAt.none_tuple f c⟩|lst f _ _=>exact⟨SeqAt.RcAt.none_list f c,SeqAt.RcNeAt.none_list f c⟩
 |bl b0=>cases E with|non=>exact⟨SeqAt.RcAt.bool_none _,SeqAt.RcNeAt.bool_none _⟩|bl b=>exact⟨SeqAt.RcAt.bool_bool _ _,SeqAt.RcNeAt.bool_bool _ _⟩|int i t=>exact⟨SeqAt.RcAt.bool_int _ _ _,bool_int _ _ _⟩|str i t=>exact⟨SeqAt.RcAt.bool_str _ _ _,bool_str _ _ _⟩|tup f _ _=>exact⟨SeqAt.RcAt.bool_tuple _ f c,SeqAt.RcNeAt.bool_tuple _ f c⟩|lst f _ _=>exact⟨SeqAt.RcAt.bool_list _ f c,SeqAt.RcNeAt.bool_list _ f c⟩
 |int i0 t0=>cases E with|non=>exact⟨SeqAt.RcAt.int_none _ _,int_none _ _⟩|bl b=>exact⟨SeqAt.RcAt.int_bool _ _ _,int_bool _ _ _⟩|int i t=>exact⟨SeqAt.RcAt.int_int _ _ _ _,int_int _ _ _ _⟩|str i t=>exact⟨SeqAt.RcAt.int_str _ _ _ _,SeqAt.RcNeAt.int_str _ _ _ _⟩|tup f _ _=>exact⟨SeqAt.RcAt.int_tuple _ _ f c,SeqAt.RcNeAt.int_tuple _ _ f c⟩|lst f _ _=>exact⟨SeqAt.RcAt.int_list _ _ f c,int_list _ _ f c⟩
 |str i0 t0=>cases E with|non=>exact⟨SeqAt.RcAt.str_none _ _,str_none _ _⟩|bl b=>exact⟨SeqAt.RcAt.str_bool _ _ _,str_bool _ _ _⟩|int i t=>exact⟨SeqAt.RcAt.str_int _ _ _ _,SeqAt.RcNeAt.str_int _ _ _ _⟩|str i t=>exact⟨SeqAt.RcAt.str_str _ _ _ _,str_str _ _ _ _⟩|tup f _ _=>exact⟨SeqAt.RcAt.str_tuple _ _ f c,SeqAt.RcNeAt.str_tuple _ _ f c⟩|lst f _ _=>exact⟨SeqAt.RcAt.str_list _ _ f c,str_list _ _ f c⟩
 |@tup a w xs ds f C hr=>
   have G:ds.all (dq n)=true:=by simpa[aN,aL,aP,aO,aR,aQ]using hd
   cases E with|non=>exact⟨SeqAt.RcAt.tuple_none f c,SeqAt.RcNeAt.tuple_none f c⟩|bl b=>exact⟨SeqAt.RcAt.tuple_bool _ f c,SeqAt.RcNeAt.tuple_bool _ f c⟩|int i t=>exact⟨SeqAt.RcAt.tuple_int _ _ f c,SeqAt.RcNeAt.tuple_int _ _ f c⟩|str i t=>exact⟨SeqAt.RcAt.tuple_str _ _ f c,SeqAt.RcNeAt.tuple_str _ _ f c⟩|lst o _ _=>exact⟨SeqAt.RcAt.tuple_list f o c,SeqAt.RcNeAt.tuple_list f o c⟩|@tup b ws ys g o h k=>
     have J:g.all (dq n)=true:=by simpa[aN,aL,aP,aO,aR,aQ]using he
     have r:w.toArray.size=ds.length:=by rw[size_toArray,<-C.length,hr.length]
     have z:ws.toArray.size=g.length:=by rw[size_toArray,<-h.length,k.length]
     have L:=SeqAt.RcAt.tuples (A:=A) (e:=λj=>fL (ds.getD j .non) (g.getD j .non)) f o c λj p q=>B p q G J C h hr k;have M:=SeqAt.RcNeAt.tuples (A:=A) (e:=λj=>fL (ds.getD j .non) (g.getD j .non)) f o c λj p q=>B p q G J C h hr k;rw[r,z]at L M;have e0:fL (.tup ds) (.tup g)=((List.range (min ds.length g.length)).all (λj=>fL (ds.getD j .non) (g.getD j .non))&&ds.length==g.length):=by
      rw[Q5];by_cases u:ds.length=g.length;.rw[dj u,u];simp
      . rw[fW u];have:(ds.length==g.length)=false:=by simpa using u
        rw[this,Bool.and_false]
     rw[e0];exact⟨L,M⟩
 |@lst a w xs ds f C hr=>
   have G:ds.all (dq n)=true:=by simpa[aN,aL,aP,aO,aR,aQ]using hd
   cases E with|non=>exact⟨SeqAt.RcAt.list_none f c,SeqAt.RcNeAt.list_none f c⟩|bl b=>exact⟨SeqAt.RcAt.list_bool _ f c,SeqAt.RcNeAt.list_bool _ f c⟩|int i t=>exact⟨SeqAt.RcAt.list_int _ _ f c,list_int _ _ f c⟩|str i t=>exact⟨SeqAt.RcAt.list_str _ _ f c,list_str _ _ f c⟩|tup o _ _=>exact⟨SeqAt.RcAt.list_tuple f o c,SeqAt.RcNeAt.list_tuple f o c⟩|@lst b ws ys g o h k=>
     have J:g.all (dq n)=true:=by simpa[aN,aL,aP,aO,aR,aQ]using he
     have r:w.toArray.size=ds.length:=by rw[size_toArray,<-C.length,hr.length]
     have z:ws.toArray.size=g.length:=by rw[size_toArray,<-h.length,k.length]
     rw[Ku];by_cases u:ds.length=g.length;.have L:=SeqAt.RcAt.lists (A:=A) (e:=λj=>fL (ds.getD j .non) (g.getD j .non)) f o (by rw[r,z,u]) c λj p q=>B p q G J C h hr k;have M:=SeqAt.RcNeAt.lists (A:=A) (e:=λj=>fL (ds.getD j .non) (g.getD j .non)) f o (by rw[r,z,u]) c λj p q=>B p q G J C h hr k;rw[r]at L M;rw[dj u];exact⟨L,M⟩
     .rw[fW u];exact⟨lists_lengths f o (by rw[r,z];simpa using u) c,SeqAt.RcNeAt.lists_lengths f o (by rw[r,z];simpa using u) c⟩
theorem dD(c:X.A.units+8<cLine):cX X (compareOp .Eq) (rD X.K (jm .eq)):=by rintro pins s σ H x y v u Q I f g⟨F,d,e,r,a,h,j,he,k⟩;obtain⟨t,b,o⟩:=map_some (show(pM d e).map _=some r from he);subst o;unfold pM at b;obtain⟨hd,b⟩:=bB b;rw[and_eq_true]at hd;subst b;exact(Jv I a (n:=7) c hd.1 hd.2 (mF I a hd.1 h f) (mF I a hd.2 j g)).1 _ _ _ _ ⟨.bl _,H,I,rfl,cj.dF a (eX _) k⟩
theorem mL(c:X.A.units+8<cLine):cX X (compareOp .NotEq) (rD X.K (jm .ne)):=by rintro pins s σ H x y v u Q I f g⟨F,d,e,r,a,h,j,he,k⟩;obtain⟨t,b,o⟩:=map_some (show(m5 d e).map _=some r from he);subst o;unfold m5 at b;obtain⟨hd,b⟩:=bB b;rw[and_eq_true]at hd;subst b;exact(Jv I a (n:=7) c hd.1 hd.2 (mF I a hd.1 h f) (mF I a hd.2 j g)).2 _ _ _ _ ⟨.bl _,H,I,rfl,cj.dF a (eX _) k⟩
end
section
variable{Pg:Program}{w:World}{K:PySem.W.Frag}{mg:Str->Option Value}{base:Heap}
theorem JQ{qual:Str}{st:Stmt}{f:Addr}{fd:FuncData}{N ps:List Str}{k n:Nat}{c:Call}{d:Fd}(J:lO K x qual st f fd)(S:bw N ps (aC st))(h1:d.np=ps.length)(B:d.nn=N.length)(L:∀(cdv:Value)(A:Around)(outer:List Env)(s:Shared)(H:Hp)(E:XK),fG k (A.deeper (envOfC qual (aC st) s.heap.objs.size f cdv))->SB (pH uL Pg w K mg base N qual (aC st) f cdv A outer s H E).JH c n (cU st) d.body):iY Pg w K mg base uL (k+1) f fd ps (wU K ps.length (λargs=>enter c n d args)):=by
 refine J.ok S (λt H Q E h=>h.1) λcdv A outer s H t Q E hr h=>?_;obtain⟨C,F,args,r,p,g,e,q⟩:=h;refine⟨_,L cdv A outer s H E hr,?_⟩;replace e:enter c n d args=.ok r p:=e;unfold enter at e;split at e
 . rename_i hc;obtain⟨c1,c2⟩:=hc;have M:=g.more (n:=d.nn-d.np) (τ:=replicate (N.length-t.length) none) (by simp[h1,B,C]);have u:args.length=d.np:=c1;have go:∀{y:Fl}{a:List Sl},eZ c n d.body (args++replicate (d.nn-d.np) .aU)=.ok y a->(∀o b j,aZ K F (args++replicate (d.nn-d.np) .aU) (start N t) H o a b j->(match y with|.next=>Q .non j|.brk=>False|.cont=>False|.ret r=>∀v,bG K o a b j (args++replicate (d.nn-d.np) .aU) (start N t) H v r->Q v j))->Eo K (eZ c n d.body) {nx:=λ_ j=>Q .non j,rt:=Q} (start N t) H:=λ{y a}z k=>⟨F,_,y,a,M,z,λo b j s=>by have:=k o b j s;cases y<;>exact this⟩;split at e;.rename_i a z;cases e;refine go z λo b j s=>?_;obtain⟨G,I⟩:=aZ.less (m:=d.np) u.symm g (by simp[h1,B,C]) s;exact q .non o _ j G (show Rep K o _ _ from CG)
   .rename_i U a z;cases e;refine go z λo b j s v O=>?_;obtain⟨G,I⟩:=aZ.less (m:=d.np) u.symm g (by simp[h1,B,C]) s;exact q v o _ j G (I v r O)
   .split at e<;>cases e
 .cases e
structure bK(Pg:Program)(w:World)(K:PySem.W.Frag)(mg:Str->Option Value)(base:Heap)(k:Nat)(c:Call)(i:Nat)(x:Str)(np:Nat):Prop where ex:∃fa fd qs,iY Pg w K mg base uL k fa fd qs (wU K qs.length (c i))/\mg x=some (.ref fa)/\keepIn K (.ref fa)=true/\Binds K fd qs []/\qs.length=np
end
section
variable{X:Cx}{c:Call}{n k:Nat}{e a b:Expr}{es:List Expr}{p pa pb:P}{ps:List P}{pos:Pos}
theorem sv(i:Nat)(g:X.N[i]?=some x:=by rfl)(h:vM X.env.scope x:=by first|exact Or.inl rfl|exact Or.inr (Or.inl rfl)|exact Or.inr (Or.inr rfl))(hd:(x==("__debug__":Str))=false:=by rfl)(f:(x==("__classdict__":Str))=false:=by rfl):SX X c (.Name x pos) (.var i):=BR g h hd f
theorem fB{np:Nat}(C:bK X.prog X.w X.K X.mg X.base k c i x np)(hr:fG k X.A)(h:SG X c (e::es) ps)(j:Gl X x:=by rfl)(o:(e::es).length=np:=by rfl)(f:(x==("__debug__":Str))=false:=by rfl)(he:starEach (e::es) X.env=(false,eval e X.env)::starEach es X.env:=by rfl)(hpl:(backTo pos (starEach es X.env)).any (·.1)=false:=by rfl)(g:ps.length=(e::es).length:=by rfl):SX X c (.Call (.Name x p') (e::es) [] pos) (.call i ps):=by obtain⟨y,fd,z,h1,q,r,t,u⟩:=C.ex;exact xg h1 hr j q r t h (o.trans u.symm) f he hpl g
noncomputable def zB(names outer:List (Str×NameKind))(N N':List Str)(n:Nat):Bool:=(names.all λy=>names.lookup y.1==some y.2)&&(names.all λy=>y.2!=.local||names.lookup y.1==some .local)&&(names.all λy=>y.2!=.free||outer.lookup y.1==some .cell||outer.lookup y.1==some .free)&&N'.length==N.length+n&&((N.zip N').all λp=>(p.1==p.2&&names.lookup p.2==some .free)||(names.lookup p.2!=some .local&&names.lookup p.2!=some .cell&&names.lookup p.2!=some .free))
theorem Fq{scope:Scope}{N':List Str}(g:scope.kind=.function)(h:zB scope.names X.env.scope.names X.N N' n=true):dg X scope N' n:=by
 unfold zB at h;simp only[and_eq_true]at h;obtain⟨⟨⟨⟨h1,j⟩,o⟩,q⟩,r⟩:=h;refine⟨g,λy f=>eq_of_beq (all_eq_true.mp h1 y f),λy f e=>?_,λy f e=>?_,by simpa using q,r⟩;.have:=all_eq_true.mp j y f;rw[e]at this;simpa using this
 . have:=all_eq_true.mp o y f;rw[e]at this;simp only[or_eq_true]at this;rcases this with(z|z)|z;.cases z
   .exact .inl (eq_of_beq z)
   .exact .inr (eq_of_beq z)
theorem bZ(h:fG k A):A.units+8<cLine:=by have:=h.un;omega
end
end HH
end
section
namespace PySem
open AutoSeq1(wpAny_loadPart')
section
variable{prog:Program}{w:World}{A:Around}{E:Value->Shared->Prop}{s:Shared}
theorem dw{b l:Addr}{i:Nat}{items:Array Value}{x:Value}{Q:Value->Shared->Prop}(a:s.heap.IsTupleIter b l i)(f:s.heap.IsTuple l items)(hx:items[i]?=some x)(g:∀h',h'.IsTupleIter b l (i+1)->SameBut b s.heap h'->Q x {s with heap:=h'}):wpAny (model prog w) A (nextOf (.ref b)) Q E s:=by obtain⟨o,ho,hc,hd⟩:=id a;obtain⟨h,c,_,j,e⟩:=f;unfold nextOf;refine wpAny_bind (wpAny_callSpecial?_slot (name:=Str.ofString "__next__") a.typeIs F.slot_tuple_iterator_next (wpAny_call_entry F.slot_tuple_iterator_next a.typeIs F.entry_tuple_iterator_next ?_ (F.args_tuple_iterator_next_1 _)));show wpAny _ _ (field (.ref b) 0>>=_) _ _ s;refine wpAny_bind (wpAny_field ho hd (x:=.ref l) rfl ?_);show wpAny _ _ (if(Value.ref l==Value.none)=true then _ else _) _ _ s;rw[if_neg (show ¬((Value.ref l==Value.none)=true)from Bool.false_ne_true)];show wpAny _ _ (field (.ref b) 1>>=_) _ _ s;refine wpAny_bind (wpAny_field ho hd (x:=.int i 0) rfl ?_);show wpAny _ _ (seqItems? (.ref l)>>=_) _ _ s;refine wpAny_bind (wpAny_seqItems c e ?_);simp only[Int.toNat_natCast,hx];refine wpAny_bind (wpAny_setField ho hd (by simp) (wpAny_pure ⟨x,rfl,wpAny_pure (g _ ?_ (Heap.SameBut.update ..))⟩));exact⟨_,Heap.get?_update_self _ ho (Obj.isFreed_of_fields (Obj.data_mapFields hd _)),(Obj.cls_mapFields ..).trans hc,by rw[Obj.data_mapFields hd];simp[rawInt]⟩
theorem cI{c l:Addr}{i:Nat}{items:Array Value}{Q:Value->Shared->Prop}(h:A.handled=none)(b:s.heap.IsTupleIter c l i)(j:s.heap.IsTuple l items)(hx:items[i]?=none)(k:∀h' e,Heap.ExtBut c s.heap h'->(∃o,h'.get? e=some o/\o.cls=.type "StopIteration")->E (.ref e) {s with heap:=h'}):wpAny (model prog w) A (nextOf (.ref c)) Q E s:=by
 obtain⟨o,ho,hc,hd⟩:=id b;obtain⟨n,f,_,p,g⟩:=j;unfold nextOf;refine wpAny_bind (wpAny_callSpecial?_slot (name:=Str.ofString "__next__") b.typeIs F.slot_tuple_iterator_next (wpAny_call_entry F.slot_tuple_iterator_next b.typeIs F.entry_tuple_iterator_next ?_ (F.args_tuple_iterator_next_1 _)));show wpAny _ _ (field (.ref c) 0>>=_) _ _ s;refine wpAny_bind (wpAny_field ho hd (x:=.ref l) rfl ?_);show wpAny _ _ (if(Value.ref l==Value.none)=true then _ else _) _ _ s;rw[if_neg (show ¬((Value.ref l==Value.none)=true)from Bool.false_ne_true)];show wpAny _ _ (field (.ref c) 1>>=_) _ _ s;refine wpAny_bind (wpAny_field ho hd (x:=.int i 0) rfl ?_);show wpAny _ _ (seqItems? (.ref l)>>=_) _ _ s;refine wpAny_bind (wpAny_seqItems f g ?_);simp only[Int.toNat_natCast,hx];refine wpAny_bind (wpAny_rule (wpAny_bind (wpAny_setField ho hd (by simp) ?_)));show wpAny _ _ (newExc (.type "StopIteration") []>>=_) _ _ _;refine wpAny_bind ?_;simp only[newExc,newTuple];refine wpAny_bind (wpAny_newObj_type ?_ (by size_fits));refine wpAny_bind (m:=firstArgMember _ _) (wpAny_of_eq (a:=Value.none) (by first|rfl|(simp only[firstArgMember];rfl)) ?_);refine wpAny_newObj_type ?_ (by size_fits);simp only[raiseNew];refine wpAny_bind (wpAny_handled ?_);first|rw[show A.in1.handled=none from h]|rw[h]
 refine wpAny_bind (wpAny_pure (wpAny_throw ?_));exact k _ _ (((Heap.SameBut.update ..).extBut.push _).push _) ⟨_,get?_push_size _ rfl,rfl⟩
end
theorem gj(l:Addr)(items:Array Value)(n:Nat)(b:Option Addr)(i:Array (Option Value)):Meets (Builtin.«enumerate.__new__» ⟨[.type "enumerate",.ref l],[]⟩) (λ_ R s=>s.heap.get? l=some {cls:=.type "tuple",dict:=b,data:=.seq items n,slots:=i}/\R (.ok (.ret (.ref (s.heap.push {cls:=.type "tuple_iterator",data:=.fields #[.ref l,.int 0 0]}).objs.size))) {s with heap:=(s.heap.push {cls:=.type "tuple_iterator",data:=.fields #[.ref l,.int 0 0]}).push {cls:=.type "enumerate",data:=.fields #[.none,.bool false,.ref s.heap.objs.size,rawInt 0,.none,.none]}}):=.of_wp λprog w A R s h=>by
  obtain⟨j,g,d,k,os⟩:=s;obtain⟨a,h⟩:=h;have f:=sub_enumerate;have e:IsTuple (Shared.heap ⟨j,g,d,k,os⟩) l items:=⟨_,a,rfl,n,rfl⟩;wp_walk using wpAny_loadPart' a;refine wpAny_stack_any λst=>wpAny_pure ?_;split
  . rename_i c _ _ _ _ _;cases(c==Value.type "enumerate");.wp_walk using wpAny_loadPart' a,wpAny_pyIter_tuple e;exact⟨_,rfl,h⟩
    .wp_walk using wpAny_loadPart' a,wpAny_pyIter_tuple e;exact⟨_,rfl,h⟩
  .wp_walk using wpAny_loadPart' a,wpAny_pyIter_tuple e;exact⟨_,rfl,h⟩
section
variable{prog:Program}{w:World}{A:Around}{E:Value->Shared->Prop}{s:Shared}
theorem gh{l:Addr}{items:Array Value}{Q:Value->Shared->Prop}(f:s.heap.IsTuple l items)(h:∀ h',IsEnum h' (s.heap.objs.size+1) s.heap.objs.size 0 .none->h'.IsTupleIter s.heap.objs.size l 0->h'.objs.size=s.heap.objs.size+2->(∀b o,s.heap.get? b=some o->h'.get? b=some o)->Q (.ref (s.heap.objs.size+1)) {s with heap:=h'}):wpAny (model prog w) A (call (.type "enumerate") [.ref l]) Q E s:=by
 obtain⟨⟨c,a,g,i⟩,j,hc,n,hd⟩:=f;replace hc:c=.type "tuple":=hc;replace hd:g=.seq items n:=hd;subst hc hd;refine callType_new F.called_enumerate (by decide) (F.typeCall_enumerate_1 _) (F.newCall_enumerate_1 _) (λobj=>F.args_object_init_2 obj _) F.entry_enumerate_new (gj l items n a i) ⟨j,?_⟩;have e:(s.heap.push {cls:=.type "tuple_iterator",data:=.fields #[.ref l,.int 0 0]}).objs.size=s.heap.objs.size+1:=size_push ..;show _/\_;rw[e];have he:IsEnum ((s.heap.push {cls:=.type "tuple_iterator",data:=.fields #[.ref l,.int 0 0]}).push {cls:=.type "enumerate",data:=.fields #[.none,.bool false,.ref s.heap.objs.size,rawInt 0,.none,.none]}) (s.heap.objs.size+1) s.heap.objs.size 0 .none:=by have:=get?_push_size (s.heap.push {cls:=.type "tuple_iterator",data:=.fields #[.ref l,.int 0 0]}) (o:={cls:=.type "enumerate",data:=.fields #[.none,.bool false,.ref s.heap.objs.size,rawInt 0,.none,.none]}) rfl;rw[e]at this;exact this
 refine⟨⟨_,he,rfl⟩,h _ he ⟨_,dH (get?_push_size _ rfl),rfl,rfl⟩ (by rw[size_push,e]) λb o x=>dH (dH x)⟩
end
end PySem
end
section
namespace L2
open PySem PySem.Spec PyProof.Rows
variable{prog:Program}{w:World}{A:Around}
section
variable{X:Cx}{pins:List (Addr×Obj)}{σ:L2.St}{H:Hp}{s:Shared}
theorem Inv.pJ{ch:List Addr}{h':Heap}{o:HO}{t':Nat}(I:Inv X pins σ H s)(k:∀b u,b∉ch->s.heap.get? b=some u->h'.get? b=some u)(j:∀b∈ch,∃u,h'.get? b=some u)(f:∀b∈ch,iH X pins H b)(h:bO X.prog X.w (upd H s.heap.objs.size o) h' s.heap.objs.size o):Inv X pins σ (upd H s.heap.objs.size o) {s with heap:=h',toks:=t'}:=by
 have fr:H s.heap.objs.size=none:=I.hok.fresh (fO);have i:∀b u,H b=some u->b∉ch:=λb u e a=>by rw[(f b a).1]at e;cases e
 have g:∀b u,H b=some u->upd H s.heap.objs.size o b=some u:=λb u e=>by
  have:b≠s.heap.objs.size:=by rintro rfl;rw[fr]at e;cases e
  rw[ao this];exact e
 refine I.call (g':=s.gens) (d':=s.drawn) (ch:=ch) ⟨λb u e n _ hx=>k b u hx e,λb u e n _ hx=>⟨u.slots,k b u hx e⟩,λb u e n hx=>?_,λb u e hx=>⟨u,k b u hx e⟩,λb xs e=>g b _ e,λb m u e=>g b _ e,λb ps e=>⟨#[],by rw[g b _ e];simp⟩⟩ ?_ I.bare λb a=>⟨(f b a).2.2.2.1,(f b a).2.1,(f b a).2.2.2.2.1,(f b a).2.2.2.2.2⟩;.have:b≠s.heap.objs.size:=ne_of_lt (lt_size e);rw[ao this];exact n
 . intro b u e;by_cases a:b=s.heap.objs.size;.subst a;rw[aH]at e;cases e;exact h
   . rw[ao a]at e;refine(I.hok b u e).stay (λc v hc q=>k c v ?_ q) (λc q=>g c _ q) λc xs q=>g c _ q;rcases hc with rfl|hc;.exact i _ _ e
     .exact i _ _ hc
end
noncomputable def ql(K:PySem.W.Frag)(a:Addr):It:=⟨λi H=>∃xs x,cR K H a xs/\xs[i]?=some x,λi H x b=>∃T v,H T=none/\x=.ref T/\b=upd H T (.tup [.int (i:Int),v])/\∀xs,cR K H a xs->xs[i]?=some v,λi H=>∃xs,cR K H a xs/\xs.length<=i⟩
theorem Cq(j:A.handled=none)(a l:Addr)(e:l≠a)(items:Array Value):Draws prog w A a [a,l] items.size (λi v=>items[i]?=some v) (λi h=>h.IsListIter a l i/\h.IsList l items)where
 live:=λ_ _ st=>let⟨o,ho,_⟩:=st.1;⟨o,ho⟩;frame:=λ_ _ _ st f=>⟨(let⟨o,ho,r⟩:=st.1;⟨o,f a (by simp) o ho,r⟩),(let⟨o,ho,r⟩:=st.2;⟨o,f l (by simp) o ho,r⟩)⟩;item:=λi s Q E g st k=>by refine wpAny_nextOf_list_item st.1 st.2 (x:=items[i]) (by simp[g]) λh' b c=>?_;exact k _ h' s.toks (by simp[g]) ⟨b,(let⟨o,ho,r⟩:=st.2;⟨o,c.extBut l o e ho,r⟩)⟩ c
 done:=λs Q E st m=>wpAny_nextOf_list_end j st.1 st.2 (by simp) m
theorem tW(c:A.handled=none)(a l:Addr)(items:Array Value)(n:Nat)(e:items.size<=n):Draws prog w A a [a,l] n (λ_ _=>True) (λi h=>i=n/\h.IsListIter a l i/\h.IsList l items)where live:=λ_ _ st=>let⟨o,ho,_⟩:=st.2.1;⟨o,ho⟩;frame:=λ_ _ _ st b=>⟨st.1,(let⟨o,ho,r⟩:=st.2.1;⟨o,b a (by simp) o ho,r⟩),(let⟨o,ho,r⟩:=st.2.2;⟨o,b l (by simp) o ho,r⟩)⟩;item:=λi s Q E f st j=>absurd st.1 (ne_of_lt f);done:=λs Q E st g=>wpAny_nextOf_list_end c st.2.1 st.2.2 (by simp;exact e) g
theorem sJ{P:Program}{K:PySem.W.Frag}{B:List Expr}{x1}{tp:Pos}(a c e:Addr)(p:e≠c):Turn P w K (.Tuple B x1 tp) (ql K a) [e,c] e (λi h=>(∃j,IsEnum h e c (i:Int) j)/\h.IsListIter c a i)where
 mem:=by simp
 obj:=λi h st b hb=>by
  obtain⟨⟨j,h1⟩,o,m,J,h4⟩:=st;rcases mem_cons.mp hb with rfl|hb;.exact⟨_,h1,λv z=>by cases z⟩
  . have:b=c:=by simpa using hb
    subst this;exact⟨o,m,λv z=>by rw[h4]at z;cases z⟩
 keep:=λi h h' st k=>by obtain⟨⟨j,h1⟩,o,m,J⟩:=st;exact⟨⟨j,k e (by simp) _ h1⟩,o,k c (by simp) _ m,J⟩
 item:=λX hP hw hK hc i C s σ H E I L st go=>by
  subst hP hw hK;obtain⟨⟨j,he⟩,n⟩:=st;obtain⟨xs,x,M,hx⟩:=go;obtain⟨g,N,pl,hz⟩:=I.list M;have O:s.heap.IsList a g.toArray:=pl.isList;obtain⟨oa,U,t,_⟩:=id O;have QM:e≠a:=by rintro rfl;rw[he]at U;cases U;exact absurd (show Value.type "enumerate"=Value.type _ from t) (by decide)
  have ab:a≠c:=by rintro rfl;obtain⟨o,m,J,_⟩:=id n;rw[m]at U;cases U;rw[J]at t;exact absurd t (by decide)
  have ac:i<g.toArray.size:=by rw[size_toArray,<-N.length];exact(fJ hx).1
  refine wpAny_pyNext_enum_itemD (Cq (show X.A.in1.handled=none from I.ok.hd hc) c a ab g.toArray) he ⟨n,O⟩ ac p (by simp[p,QM]) λy h' tk Y ae F ht am kp=>?_;refine⟨_,rfl,wpAny_letOwnedTupleGo_enum ae λG wK Z=>?_⟩;obtain⟨u,af,ag⟩:=N.get hx;have QQ:y=u:=by
   have Y:g[i]?=some y:=by simpa using Y
   rw[af]at Y;cases Y;rfl
  subst QQ;have hT:∀b∈[e,c],b≠s.heap.objs.size:=λb hb=>by
   rcases mem_cons.mp hb with rfl|hb;.exact ne_of_lt (lt_size he)
   . have:b=c:=by simpa using hb
     subst this;obtain⟨o,m,_⟩:=id n;exact ne_of_lt (lt_size m)
  have ah:s.heap.objs.size≠e:=(hT e (by simp)).symm;have Hk:∀b o,b∉[e,c]->s.heap.get? b=some o->G.get? b=some o:=λb o hb q=>by have h1:b≠e:=λz=>hb (by simp[z]);have m:b≠c:=λz=>hb (by simp[z]);exact Z.extBut b o h1 (kp b o h1 m q)
  have oO:G.get? s.heap.objs.size=some {cls:=.type "tuple",data:=.seq #[.int i tk,y]}:=Z.extBut _ _ ah ht;refine⟨.ref s.heap.objs.size,upd H s.heap.objs.size (.tup [.int (i:Int),x]),?_,rfl,⟨_,x,I.fresh,rfl,rfl,λys ai=>?_⟩,⟨⟨_,wK⟩,?_⟩,λb hb=>?_⟩
  . refine I.pJ (ch:=[e,c]) (t':=tk+1) Hk (λb hb=>?_) (λb hb=>(L b hb)) ⟨(by show 2<=sizeLine;decide),[.int i tk,y],.cons ⟨_,rfl⟩ (.cons ag .nil),⟨_,oO,rfl,_,rfl⟩⟩;rcases mem_cons.mp hb with rfl|hb;.exact⟨_,wK⟩
    . have:b=c:=by simpa using hb
      subst this;obtain⟨o,m,_⟩:=id F.1;exact⟨o,Z.extBut _ _ (Ne.symm p) m⟩
  .rw[I.il ai M];exact hx
  .obtain⟨o,m,r⟩:=F.1;exact⟨o,Z.extBut _ _ (Ne.symm p) m,r⟩
  .rw[ao (hT b hb)];exact(L b hb).1
 done:=λX hP hw hK hc i C s σ H E I L st stop=>by subst hP hw hK;obtain⟨⟨j,he⟩,n⟩:=st;obtain⟨xs,M,hx⟩:=stop;obtain⟨g,N,pl,hz⟩:=I.list M;have O:s.heap.IsList a g.toArray:=pl.isList;refine wpAny_pyNext_enum_endD (tW (show X.A.in1.handled=none from I.ok.hd hc) c a g.toArray i (by rw[size_toArray,<-N.length];exact hx)) he ⟨rfl,n,O⟩ λh' hs=>⟨rfl,?_⟩;have f:=L c (by simp);exact I.turned (t':=s.toks) (λb o hb q=>hs b o hb q) f.1 f.2.1 f.2.2.2.1 f.2.2.2.2.1 f.2.2.2.2.2
 self:=λA i s Q E st q=>wpAny_pyIter_enum st.1.choose_spec q
noncomputable def pR(K:PySem.W.Frag)(a:Addr):It:=⟨λi H=>∃xs x,eY K H a xs/\xs[i]?=some x,λi H x b=>∃T v,H T=none/\x=.ref T/\b=upd H T (.tup [.int (i:Int),v])/\∀xs,eY K H a xs->xs[i]?=some v,λi H=>∃xs,eY K H a xs/\xs.length<=i⟩
theorem El(j:A.handled=none)(a l:Addr)(e:l≠a)(items:Array Value):Draws prog w A a [a,l] items.size (λi v=>items[i]?=some v) (λi h=>h.IsTupleIter a l i/\h.IsTuple l items)where
 live:=λ_ _ st=>let⟨o,ho,_⟩:=st.1;⟨o,ho⟩;frame:=λ_ _ _ st f=>⟨(let⟨o,ho,r⟩:=st.1;⟨o,f a (by simp) o ho,r⟩),(let⟨o,ho,r⟩:=st.2;⟨o,f l (by simp) o ho,r⟩)⟩;item:=λi s Q E g st k=>by refine dw st.1 st.2 (x:=items[i]) (by simp[g]) λh' b c=>?_;exact k _ h' s.toks (by simp[g]) ⟨b,(let⟨o,ho,r⟩:=st.2;⟨o,c.extBut l o e ho,r⟩)⟩ c
 done:=λs Q E st m=>cI j st.1 st.2 (by simp) m
theorem tu(c:A.handled=none)(a l:Addr)(items:Array Value)(n:Nat)(e:items.size<=n):Draws prog w A a [a,l] n (λ_ _=>True) (λi h=>i=n/\h.IsTupleIter a l i/\h.IsTuple l items)where live:=λ_ _ st=>let⟨o,ho,_⟩:=st.2.1;⟨o,ho⟩;frame:=λ_ _ _ st b=>⟨st.1,(let⟨o,ho,r⟩:=st.2.1;⟨o,b a (by simp) o ho,r⟩),(let⟨o,ho,r⟩:=st.2.2;⟨o,b l (by simp) o ho,r⟩)⟩;item:=λi s Q E f st j=>absurd st.1 (ne_of_lt f);done:=λs Q E st g=>cI c st.2.1 st.2.2 (by simp;exact e) g
theorem tQ{P:Program}{K:PySem.W.Frag}{B:List Expr}{x1}{tp:Pos}(a c e:Addr)(p:e≠c):Turn P w K (.Tuple B x1 tp) (pR K a) [e,c] e (λi h=>(∃j,IsEnum h e c (i:Int) j)/\h.IsTupleIter c a i)where
 mem:=by simp
 obj:=λi h st b hb=>by
  obtain⟨⟨j,h1⟩,o,m,J,h4⟩:=st;rcases mem_cons.mp hb with rfl|hb;.exact⟨_,h1,λv z=>by cases z⟩
  . have:b=c:=by simpa using hb
    subst this;exact⟨o,m,λv z=>by rw[h4]at z;cases z⟩
 keep:=λi h h' st k=>by obtain⟨⟨j,h1⟩,o,m,J⟩:=st;exact⟨⟨j,k e (by simp) _ h1⟩,o,k c (by simp) _ m,J⟩
 item:=λX hP hw hK hc i C s σ H E I L st go=>by
  subst hP hw hK;obtain⟨⟨j,he⟩,n⟩:=st;obtain⟨xs,x,M,hx⟩:=go;obtain⟨g,N,pl,hz⟩:=I.tuple M;have O:s.heap.IsTuple a g.toArray:=pl;obtain⟨oa,U,t,_⟩:=id O;have QM:e≠a:=by rintro rfl;rw[he]at U;cases U;exact absurd (show Value.type "enumerate"=Value.type _ from t) (by decide)
  have ab:a≠c:=by rintro rfl;obtain⟨o,m,J,_⟩:=id n;rw[m]at U;cases U;rw[J]at t;exact absurd t (by decide)
  have ac:i<g.toArray.size:=by rw[size_toArray,<-N.length];exact(fJ hx).1
  refine wpAny_pyNext_enum_itemD (El (show X.A.in1.handled=none from I.ok.hd hc) c a ab g.toArray) he ⟨n,O⟩ ac p (by simp[p,QM]) λy h' tk Y ae F ht am kp=>?_;refine⟨_,rfl,wpAny_letOwnedTupleGo_enum ae λG wK Z=>?_⟩;obtain⟨u,af,ag⟩:=N.get hx;have QQ:y=u:=by
   have Y:g[i]?=some y:=by simpa using Y
   rw[af]at Y;cases Y;rfl
  subst QQ;have hT:∀b∈[e,c],b≠s.heap.objs.size:=λb hb=>by
   rcases mem_cons.mp hb with rfl|hb;.exact ne_of_lt (lt_size he)
   . have:b=c:=by simpa using hb
     subst this;obtain⟨o,m,_⟩:=id n;exact ne_of_lt (lt_size m)
  have ah:s.heap.objs.size≠e:=(hT e (by simp)).symm;have Hk:∀b o,b∉[e,c]->s.heap.get? b=some o->G.get? b=some o:=λb o hb q=>by have h1:b≠e:=λz=>hb (by simp[z]);have m:b≠c:=λz=>hb (by simp[z]);exact Z.extBut b o h1 (kp b o h1 m q)
  have oO:G.get? s.heap.objs.size=some {cls:=.type "tuple",data:=.seq #[.int i tk,y]}:=Z.extBut _ _ ah ht;refine⟨.ref s.heap.objs.size,upd H s.heap.objs.size (.tup [.int (i:Int),x]),?_,rfl,⟨_,x,I.fresh,rfl,rfl,λys ai=>?_⟩,⟨⟨_,wK⟩,?_⟩,λb hb=>?_⟩
  . refine I.pJ (ch:=[e,c]) (t':=tk+1) Hk (λb hb=>?_) (λb hb=>(L b hb)) ⟨(by show 2<=sizeLine;decide),[.int i tk,y],.cons ⟨_,rfl⟩ (.cons ag .nil),⟨_,oO,rfl,_,rfl⟩⟩;rcases mem_cons.mp hb with rfl|hb;.exact⟨_,wK⟩
    . have:b=c:=by simpa using hb
      subst this;obtain⟨o,m,_⟩:=id F.1;exact⟨o,Z.extBut _ _ (Ne.symm p) m⟩
  .rw[I.gD ai M];exact hx
  .obtain⟨o,m,r⟩:=F.1;exact⟨o,Z.extBut _ _ (Ne.symm p) m,r⟩
  .rw[ao (hT b hb)];exact(L b hb).1
 done:=λX hP hw hK hc i C s σ H E I L st stop=>by subst hP hw hK;obtain⟨⟨j,he⟩,n⟩:=st;obtain⟨xs,M,hx⟩:=stop;obtain⟨g,N,pl,hz⟩:=I.tuple M;have O:s.heap.IsTuple a g.toArray:=pl;refine wpAny_pyNext_enum_endD (tu (show X.A.in1.handled=none from I.ok.hd hc) c a g.toArray i (by rw[size_toArray,<-N.length];exact hx)) he ⟨rfl,n,O⟩ λh' hs=>⟨rfl,?_⟩;have f:=L c (by simp);exact I.turned (t':=s.toks) (λb o hb q=>hs b o hb q) f.1 f.2.1 f.2.2.2.1 f.2.2.2.2.1 f.2.2.2.2.2
 self:=λA i s Q E st q=>wpAny_pyIter_enum st.1.choose_spec q
section
variable{X:Cx}{elts:List Expr}{x1:Nat}{tp:Pos}
def Pr(K:PySem.W.Frag)(c:TE):TI:=λσ H R=>c σ H λx b=>∃a,x=.ref a/\(((∃xs,cR K b a xs)/\R (ql K a) b)\/((∃xs,eY K b a xs)/\R (pR K a) b))
theorem boot_enumerate:bootBuiltins "enumerate"=some (.type "enumerate"):=by decide+kernel
theorem De{a:Expr}{B:TE}{p pos:Pos}(C:Gl X "enumerate")(E:X.mg "enumerate"=none)(F:PE X a B)(hs:starEach [a] X.env=[(false,eval a X.env)]:=by rfl):PI X (.Tuple elts x1 tp) (.Call (.Name "enumerate" p) [a] [] pos) (Pr X.K B):=by
 intro e s σ H R I h;refine Call_ (iW I C E boot_enumerate (PyProof.Rows.callWith_type1 (cF ((aV F cL hs) pos e s σ H (λi c=>match i with|[x]=>∃a,x=.ref a/\(((∃xs,cR X.K c a xs)/\R (ql X.K a) c)\/((∃xs,eY X.K c a xs)/\R (pR X.K a) c))|_=>False) I h) ?_) hs rfl));rintro N s1⟨i,c,f,r1,k⟩
 . obtain⟨ad,q,m⟩:∃ad,(((∃xs,cR X.K c ad xs)/\R (ql X.K ad) c)\/((∃xs,eY X.K c ad xs)/\R (pR X.K ad) c))/\i=[.ref ad]:=by cases i with|nil=>cases k|cons x r=>cases r with|nil=>obtain⟨ad,rfl,q⟩:=k;exact⟨ad,q,rfl⟩|cons _ _=>cases k
   subst m;obtain⟨u,rfl,G⟩:=r1.one;cases G;have fin:∀(h':Heap)(j:Nat->Heap->Prop)(J:It),Turn X.prog X.w X.K (.Tuple elts x1 tp) J [s1.heap.objs.size+1,s1.heap.objs.size] (s1.heap.objs.size+1) j->j 0 h'->IsEnum h' (s1.heap.objs.size+1) s1.heap.objs.size 0 .none->(∀b o,s1.heap.get? b=some o->h'.get? b=some o)->R J c->wpAny (model X.prog X.w) X.A (pyIter (.ref (s1.heap.objs.size+1))) (PIE X e σ (.Tuple elts x1 tp) R) X.xe {s1 with heap:=h'}:=λh' j J T t0 he kp q=>by
    refine wpAny_pyIter_enum he ⟨_,_,j,J,c,rfl,f.kept (t':=s1.toks) kp,T,t0,λb hb=>?_,q⟩;have g:s1.heap.objs.size<=b:=by
     rcases mem_cons.mp hb with rfl|hb;.exact Nat.le_succ _
     . have:b=s1.heap.objs.size:=by simpa using hb
       rw[this];exact fO
    exact f.o8 g (f.hok.fresh g)
   rcases q with⟨⟨xs,n⟩,q⟩|⟨⟨xs,n⟩,q⟩;.obtain⟨t,L,v,M⟩:=f.list n;exact call_enumerate_list v.isList λh' he y z kp=>fin h' _ _ (sJ ad s1.heap.objs.size (s1.heap.objs.size+1) (Nat.succ_ne_self _)) ⟨⟨_,he⟩,y⟩ he kp q
   .obtain⟨t,L,v,M⟩:=f.tuple n;exact gh v λh' he y z kp=>fin h' _ _ (tQ ad s1.heap.objs.size (s1.heap.objs.size+1) (Nat.succ_ne_self _)) ⟨⟨_,he⟩,y⟩ he kp q
end
end L2
namespace HH
open PySem L2 PySem.Spec PyProof.Rows
section
variable{K:PySem.W.Frag}{F F1 H H1:Hp}{ρ ρ1:List Sl}{σ:L2.St}{ds:List D}{a:Addr}
theorem jZ{c e:Hp}{T:Addr}{v w:V}{d1 d2:D}(g:au c e)(h:e T=none)(r1:Rep K c v d1)(i:Rep K c w d2):∃b,Ext c e b (upd e T (.tup [v,w]))/\Rep K b (.ref T) (.tup [d1,d2]):=uK (Q:=λv f=>∃b,Ext c e b f/\Rep K b v (.tup [d1,d2])) g (.cons r1 (.cons i .nil)) h λv b f x j=>⟨b,x,j⟩
theorem uR{xs:List V}{e b:Hp}(f:cR K b a xs)(r:az K e xs ds)(s:au e b)(k:Nat):(∀d,(ds.mapIdx λi d=>D.tup [.int (i:Int),d])[k]?=some d->(ql K a).go k b/\∀x g,(ql K a).wZ k b x g->∃c,Ext e b c g/\Rep K c x d)/\((ds.mapIdx λi d=>D.tup [.int (i:Int),d]).length<=k->(ql K a).stop k b):=by refine⟨λd hd=>?_,λh=>⟨xs,f,by rw[r.length];simpa using h⟩⟩;rw[List.getElem?_mapIdx]at hd;obtain⟨d0,j,m⟩:=map_some hd;subst m;obtain⟨w,h1,n⟩:=r.get j;refine⟨⟨xs,w,f,h1⟩,?_⟩;rintro x g⟨T,v,o,hx,p,y⟩;subst hx;subst p;have:=y xs f;rw[h1]at this;cases this;exact jZ s o (cT _) n
theorem wk{xs:List V}{e b:Hp}(f:eY K b a xs)(r:az K e xs ds)(s:au e b)(k:Nat):(∀d,(ds.mapIdx λi d=>D.tup [.int (i:Int),d])[k]?=some d->(pR K a).go k b/\∀x g,(pR K a).wZ k b x g->∃c,Ext e b c g/\Rep K c x d)/\((ds.mapIdx λi d=>D.tup [.int (i:Int),d]).length<=k->(pR K a).stop k b):=by refine⟨λd hd=>?_,λh=>⟨xs,f,by rw[r.length];simpa using h⟩⟩;rw[List.getElem?_mapIdx]at hd;obtain⟨d0,j,m⟩:=map_some hd;subst m;obtain⟨w,h1,n⟩:=r.get j;refine⟨⟨xs,w,f,h1⟩,?_⟩;rintro x g⟨T,v,o,hx,p,y⟩;subst hx;subst p;have:=y xs f;rw[h1]at this;cases this;exact jZ s o (cT _) n
end
section
variable{X:Cx}{c:Call}{e a:Expr}{pa:P}{pos:Pos}{elts:List Expr}{x1:Nat}{tp:Pos}
theorem vZ{x:Str}{B:Pos}(hx:x="enumerate")(C:Gl X x)(E:X.mg x=none)(G:SX X c a pa)(hs:starEach [a] X.env=[(false,eval a X.env)]:=by rfl):SI X c (.Tuple elts x1 tp) (.Call (.Name x B) [a] [] pos) (.Hg pa):=by subst hx;refine nW (De C E G.ev hs) ?_;rintro σ H R⟨F,ρ,ds,I,g,e,k⟩;obtain⟨r,ρ2,y,j⟩:=aa e;have o:=aJ j;clear j;obtain⟨j,J⟩:=o;subst J;rw[HH.E22]at y;obtain⟨r0,h,L,m⟩:=aa y;have o:=aJ m;clear m;obtain⟨m,M⟩:=o;subst M;obtain⟨Q,f1,f2⟩:=map_some m;subst f2;cases j;refine⟨F,ρ,r0,_,g,L,λv z A s i=>?_⟩;obtain⟨F2,s2,_,f⟩:=s.cQ i;cases hd:r0.d with|tup p=>rw[hd]at f1 f;cases f1;rw[Rep]at f;obtain⟨ad,xs,rfl,h1,q⟩:=f;exact⟨ad,rfl,.inr ⟨⟨xs,au.dR s2.gs.sub h1⟩,k _ _ _ ⟨s2.gs,λn k z t u A b=>wk (au.dR b.gs.sub (au.dR b.bI h1)) (q.mono b.bI) b.gs.sub k,λN h w O s3=>⟨s2.trans s3,λv r i=>i.later s2⟩⟩⟩⟩|lst p=>rw[hd]at f1 f;cases f1;rw[Rep]at f;obtain⟨ad,xs,rfl,h1,q⟩:=f;exact⟨ad,rfl,.inl ⟨⟨xs,s2.gs.sub.seq h1⟩,k _ _ _ ⟨s2.gs,λn k z t u A b=>uR (b.gs.sub.seq (b.bI.seq h1)) (q.mono b.bI) b.gs.sub k,λN h w O s3=>⟨s2.trans s3,λv r i=>i.later s2⟩⟩⟩⟩|_=>rw[hd]at f1;cases f1
end
end HH
end
section
namespace PySem
structure Nx(prog:Program)(w:World)(A:Around)(it src:Addr)(Sx:Nat->Heap->Prop)(get:Nat->Option Value):Prop where
 obj:∀k h,Sx k h->∃o,h.get? it=some o/\∀v,o.data≠.cell v
 keep:∀k h h',Sx k h->(∀o,h.get? it=some o->h'.get? it=some o)->(∀o,h.get? src=some o->h'.get? src=some o)->Sx k h'
 item:∀k(s:Shared)(Q:Value->Shared->Prop)(E:Value->Shared->Prop)x,Sx k s.heap->get k=some x->(∀h',Sx (k+1) h'->SameBut it s.heap h'->Q x {s with heap:=h'})->wpAny (model prog w) A (nextOf (.ref it)) Q E s
 fin:∀k(s:Shared)(Q:Value->Shared->Prop)(E:Value->Shared->Prop),Sx k s.heap->get k=none->(∀h' e,Heap.ExtBut it s.heap h'->(∃o,h'.get? e=some o/\o.cls=.type "StopIteration")->E (.ref e) {s with heap:=h'})->wpAny (model prog w) A (nextOf (.ref it)) Q E s
variable{Q:Value->Shared->Prop}{l1 l2:Addr}{xs ys:Array Value}
section
variable{prog:Program}{w:World}{A:Around}{E:Value->Shared->Prop}{s:Shared}
theorem Nx.list(g:A.handled=none)(c l:Addr)(e:l≠c)(items:Array Value):Nx prog w A c l (λk h=>h.IsListIter c l k/\h.IsList l items) (λk=>items[k]?)where obj:=λk h st=>let⟨o,h1,_,h3⟩:=st.1;⟨o,h1,λv z=>by rw[h3]at z;cases z⟩;keep:=λk h h' st a b=>⟨(let⟨o,ho,r⟩:=st.1;⟨o,a o ho,r⟩),(let⟨o,ho,r⟩:=st.2;⟨o,b o ho,r⟩)⟩;item:=λk s Q E x st hx i=>wpAny_nextOf_list_item st.1 st.2 hx λh' f hs=>i h' ⟨f,(let⟨o,ho,r⟩:=st.2;⟨o,hs.extBut l o e ho,r⟩)⟩ hs;fin:=λk s Q E st hx j=>wpAny_nextOf_list_end g st.1 st.2 hx j
theorem Nx.tuple(g:A.handled=none)(c l:Addr)(e:l≠c)(items:Array Value):Nx prog w A c l (λk h=>h.IsTupleIter c l k/\h.IsTuple l items) (λk=>items[k]?)where obj:=λk h st=>let⟨o,h1,_,h3⟩:=st.1;⟨o,h1,λv z=>by rw[h3]at z;cases z⟩;keep:=λk h h' st a b=>⟨(let⟨o,ho,r⟩:=st.1;⟨o,a o ho,r⟩),(let⟨o,ho,r⟩:=st.2;⟨o,b o ho,r⟩)⟩;item:=λk s Q E x st hx i=>dw st.1 st.2 hx λh' f hs=>i h' ⟨f,(let⟨o,ho,r⟩:=st.2;⟨o,hs.extBut l o e ho,r⟩)⟩ hs;fin:=λk s Q E st hx j=>cI g st.1 st.2 hx j
variable{z TI TO i1 i2 l1 l2:Addr}{k:Nat}{S1 S2:Nat->Heap->Prop}{g1 g2:Nat->Option Value}{a b:Value}
theorem sO{x y:Value}(D:ZipApart z TI TO i1 i2 l1 l2)(t:Nx prog w A i1 l1 S1 g1)(u:Nx prog w A i2 l2 S2 g2)(p:IsZip s.heap z TI TO .none)(F:IsPair s.heap TI (.ref i1) (.ref i2))(G:IsPair s.heap TO a b)(h1:S1 k s.heap)(h2:S2 k s.heap)(hx:g1 k=some x)(hy:g2 k=some y)(hQ:∀ h',IsZip h' z TI TO (rawInt s.heap.objs.size)->IsPair h' TO x y->S1 (k+1) h'->S2 (k+1) h'->IsPair h' s.heap.objs.size x y->h'.objs.size=s.heap.objs.size+1->(∀c o,c≠z->c≠TO->c≠i1->c≠i2->s.heap.get? c=some o->h'.get? c=some o)->Q (.ref s.heap.objs.size) {s with heap:=h'}):wpAny (model prog w) A (Builtin.«zip.__next__» ⟨[.ref z],[]⟩) (λfin s'=>∃v,fin=.done (.ret v)/\Q v s') E s:=by
 show wpAny _ _ (field (.ref z) 2>>=_) _ _ _;refine wpAny_bind (wpAny_field p rfl (x:=.bool false) rfl ?_);show wpAny _ _ (field (.ref z) 3>>=_) _ _ _;refine wpAny_bind (wpAny_field p rfl (x:=.ref TI) rfl (wpAny_bind (wpAny_seqItems F rfl ?_)));show wpAny _ _ (Builtin.SmallTypes.ownedTupleIsFree (.ref z)>>=_) _ _ _;refine wpAny_bind ?_;unfold Builtin.SmallTypes.ownedTupleIsFree;refine wpAny_bind (wpAny_field p rfl (x:=.none) rfl (wpAny_pure ?_));simp only[if_true];refine wpAny_bind (wpAny_rule (wpAny_bind (wpAny_field p rfl (x:=.ref TO) rfl (wpAny_bind (wpAny_setField_rec p (by simp) λt1 H g=>?_)))));have H:IsZip t1 z TI TO .ellipsis:=H;refine wpAny_bind ?_;simp only[List.zipIdx_cons,List.zipIdx_nil,forIn_cons,forIn_nil];refine wpAny_bind (wpAny_bind (wpAny_onRaise ?_));show wpAny _ _ (nextOf (.ref i1)>>=_) _ _ _;have q1:S1 k t1:=t.keep _ _ _ h1 (λo e=>g.extBut _ _ D.i1z e) λo e=>g.extBut _ _ D.l1z e;refine wpAny_bind (t.item k _ _ _ x q1 hx λt2 q2 j=>wpAny_pure ?_);have N:IsPair t2 TO a b:=j.extBut _ _ D.TOi1 (g.extBut _ _ D.TOz G);refine wpAny_bind (wpAny_seqItems N rfl (wpAny_bind (wpAny_updateSeq_pair N λO I h=>?_)));have I:IsPair O TO x b:=I;refine wpAny_bind (wpAny_letGo (wpAny_pure (wpAny_bind (wpAny_bind (wpAny_onRaise ?_)))));show wpAny _ _ (nextOf (.ref i2)>>=_) _ _ _;have w3:S2 k O:=u.keep _ _ _ h2 (λo e=>h.extBut _ _ D.TOi2.symm (j.extBut _ _ D.i12.symm (g.extBut _ _ D.i2z e))) λo e=>h.extBut _ _ D.l2TO (j.extBut _ _ D.l2i1 (g.extBut _ _ D.l2z e));refine wpAny_bind (u.item k _ _ _ y w3 hy λt4 w4 m=>wpAny_pure ?_);have U:IsPair t4 TO x b:=m.extBut _ _ D.TOi2 I;refine wpAny_bind (wpAny_seqItems U rfl (wpAny_bind (wpAny_updateSeq_pair U λf B i=>?_)));have B:IsPair f TO x y:=B;refine wpAny_bind (wpAny_letGo (wpAny_pure (wpAny_pure (wpAny_bind (wpAny_seqItems B rfl (wpAny_bind (wpAny_newTuple ?_)))))));have q:f.objs.size=s.heap.objs.size:=by rw[i.1,m.1,h.1,j.1,g.1]
 have W:IsZip f z TI TO .ellipsis:=i.extBut _ _ D.TOz.symm (m.extBut _ _ D.i2z.symm (h.extBut _ _ D.TOz.symm (j.extBut _ _ D.i1z.symm H)));have kp:∀c o,c≠z->c≠TO->c≠i1->c≠i2->s.heap.get? c=some o->f.get? c=some o:=λc o c1 c2 c3 c4 e=>i.extBut _ _ c2 (m.extBut _ _ c4 (h.extBut _ _ c2 (j.extBut _ _ c3 (g.extBut _ _ c1 e))));have q5:S1 (k+1) f:=t.keep _ _ _ q2 (λo e=>i.extBut _ _ D.TOi1.symm (m.extBut _ _ D.i12 (h.extBut _ _ D.TOi1.symm e))) λo e=>i.extBut _ _ D.l1TO (m.extBut _ _ D.l1i2 (h.extBut _ _ D.l1TO e));have w5:S2 (k+1) f:=u.keep _ _ _ w4 (λo e=>i.extBut _ _ D.TOi2.symm e) λo e=>i.extBut _ _ D.l2TO e;have X:z<f.objs.size:=lt_size W;show wpAny _ _ (Builtin.SmallTypes.ownedTupleHandOut (.ref z) (.ref f.objs.size)>>=_) _ _ _;refine wpAny_bind ?_;unfold Builtin.SmallTypes.ownedTupleHandOut;have z6:IsZip (f.push {cls:=.type "tuple",data:=.seq #[x,y]}) z TI TO .ellipsis:=dH W;refine wpAny_bind (wpAny_setField_rec z6 (by simp) λt7 J L=>?_);have J:IsZip t7 z TI TO (rawInt f.objs.size):=J;refine wpAny_setField_rec J (by simp) λr C M=>?_;have C:IsZip r z TI TO (rawInt f.objs.size):=C;have n:∀c o,c≠z->f.get? c=some o->r.get? c=some o:=λc o c1 e=>M.extBut _ _ c1 (L.extBut _ _ c1 (dH e));have Y:IsPair r f.objs.size x y:=M.extBut _ _ (Nat.ne_of_gt X) (L.extBut _ _ (Nat.ne_of_gt X) (get?_push_size _ rfl));have Z:r.objs.size=f.objs.size+1:=by rw[M.1,L.1,size_push]
 rw[q]at C Y Z;refine wpAny_pure ⟨_,rfl,?_⟩;show Q (.ref f.objs.size) _;rw[q];exact hQ r C (n _ _ D.TOz B) (t.keep _ _ _ q5 (λo e=>n _ o D.i1z e) λo e=>n _ o D.l1z e) (u.keep _ _ _ w5 (λo e=>n _ o D.i2z e) λo e=>n _ o D.l2z e) Y Z λc o c1 c2 c3 c4 e=>n c o c1 (kp c o c1 c2 c3 c4 e)
theorem u6{Q:Fin->Shared->Prop}(D:ZipApart z TI TO i1 i2 l1 l2)(t:Nx prog w A i1 l1 S1 g1)(F:Nx prog w A i2 l2 S2 g2)(p:IsZip s.heap z TI TO .none)(u:IsPair s.heap TI (.ref i1) (.ref i2))(v:IsPair s.heap TO a b)(h1:S1 k s.heap)(O:S2 k s.heap)(q:g1 k=none\/g2 k=none)(G:∀h' e,(∀c o,c≠z->c≠TO->c≠i1->c≠i2->s.heap.get? c=some o->h'.get? c=some o)->(∃o,h'.get? e=some o/\o.cls=.type "StopIteration")->E (.ref e) {s with heap:=h'}):wpAny (model prog w) A (Builtin.«zip.__next__» ⟨[.ref z],[]⟩) Q E s:=by
 show wpAny _ _ (field (.ref z) 2>>=_) _ _ _;refine wpAny_bind (wpAny_field p rfl (x:=.bool false) rfl ?_);show wpAny _ _ (field (.ref z) 3>>=_) _ _ _;refine wpAny_bind (wpAny_field p rfl (x:=.ref TI) rfl (wpAny_bind (wpAny_seqItems u rfl ?_)));show wpAny _ _ (Builtin.SmallTypes.ownedTupleIsFree (.ref z)>>=_) _ _ _;refine wpAny_bind ?_;unfold Builtin.SmallTypes.ownedTupleIsFree;refine wpAny_bind (wpAny_field p rfl (x:=.none) rfl (wpAny_pure ?_));simp only[if_true];refine wpAny_bind (wpAny_rule (wpAny_bind (wpAny_field p rfl (x:=.ref TO) rfl (wpAny_bind (wpAny_setField_rec p (by simp) λt1 r j=>?_)))));have r:IsZip t1 z TI TO .ellipsis:=r;refine wpAny_bind ?_;simp only[List.zipIdx_cons,List.zipIdx_nil,forIn_cons,forIn_nil];refine wpAny_bind (wpAny_bind (wpAny_onRaise ?_));show wpAny _ _ (nextOf (.ref i1)>>=_) _ _ _
 have H:S1 k t1:=t.keep _ _ _ h1 (λo e=>j.extBut _ _ D.i1z e) λo e=>j.extBut _ _ D.l1z e;cases hx:g1 k with|none=>
   refine wpAny_bind (t.fin k _ _ _ H hx λy e i he=>?_);obtain⟨B,f,g⟩:=he;have I:IsZip y z TI TO .ellipsis:=i _ _ D.i1z.symm r;have m:e≠z:=λx=>by subst x;rw[I]at f;cases f;simp at g
   exact wpAny_setField_rec I (by simp) λC _ n=>G C e (λc o c1 _ c3 _ x=>n.extBut _ _ c1 (i _ _ c3 (j.extBut _ _ c1 x))) ⟨B,n.extBut _ _ m f,g⟩|some x=>
   have U:g2 k=none:=by rcases q with h|h;rw[hx]at h;cases h;exact h
   refine wpAny_bind (t.item k _ _ _ x H hx λy Z i=>wpAny_pure ?_);have J:IsPair y TO a b:=i.extBut _ _ D.TOi1 (j.extBut _ _ D.TOz v);refine wpAny_bind (wpAny_seqItems J rfl (wpAny_bind (wpAny_updateSeq_pair J λC p3 n=>?_)));refine wpAny_bind (wpAny_letGo (wpAny_pure (wpAny_bind (wpAny_bind (wpAny_onRaise ?_)))));show wpAny _ _ (nextOf (.ref i2)>>=_) _ _ _;have W:S2 k C:=F.keep _ _ _ O (λo e=>n.extBut _ _ D.TOi2.symm (i.extBut _ _ D.i12.symm (j.extBut _ _ D.i2z e))) λo e=>n.extBut _ _ D.l2TO (i.extBut _ _ D.l2i1 (j.extBut _ _ D.l2z e));refine wpAny_bind (F.fin k _ _ _ W U λX e L he=>?_);obtain⟨B,f,g⟩:=he;have M:IsZip X z TI TO .ellipsis:=L _ _ D.i2z.symm (n.extBut _ _ D.TOz.symm (i.extBut _ _ D.i1z.symm r));have m:e≠z:=λx=>by subst x;rw[M]at f;cases f;simp at g
   exact wpAny_setField_rec M (by simp) λY _ N=>G Y e (λc o c1 c2 c3 c4 x=>N.extBut _ _ c1 (L _ _ c4 (n.extBut _ _ c2 (i.extBut _ _ c3 (j.extBut _ _ c1 x))))) ⟨B,N.extBut _ _ m f,g⟩
theorem iZ{x y:Value}{Q:Option Value->Shared->Prop}(D:ZipApart z TI TO i1 i2 l1 l2)(i:Nx prog w A.in1 i1 l1 S1 g1)(j:Nx prog w A.in1 i2 l2 S2 g2)(g:IsZip s.heap z TI TO .none)(e:IsPair s.heap TI (.ref i1) (.ref i2))(f:IsPair s.heap TO a b)(h1:S1 k s.heap)(m:S2 k s.heap)(hx:g1 k=some x)(n:g2 k=some y)(p:∀ h',IsZip h' z TI TO (rawInt s.heap.objs.size)->IsPair h' TO x y->S1 (k+1) h'->S2 (k+1) h'->IsPair h' s.heap.objs.size x y->h'.objs.size=s.heap.objs.size+1->(∀c o,c≠z->c≠TO->c≠i1->c≠i2->s.heap.get? c=some o->h'.get? c=some o)->Q (some (.ref s.heap.objs.size)) {s with heap:=h'}):wpAny (model prog w) A (pyNext (.ref z)) Q E s:=by have h:s.TypeIs (.ref z) "zip":=⟨_,g,rfl⟩;unfold pyNext;exact wpAny_bind (wpAny_attempt (wpAny_callSpecial?_slot (name:=Str.ofString "__next__") h F.slot_zip_next (wpAny_call_entry F.slot_zip_next h F.entry_zip_next (sO D i j g e f h1 m hx n λh' q r t u v B C=>wpAny_pure (p h' q r t u v B C)) (F.args_zip_next_1 _))))
theorem jg{Q:Option Value->Shared->Prop}(D:ZipApart z TI TO i1 i2 l1 l2)(m:Nx prog w A.in1 i1 l1 S1 g1)(n:Nx prog w A.in1 i2 l2 S2 g2)(i:IsZip s.heap z TI TO .none)(g:IsPair s.heap TI (.ref i1) (.ref i2))(h:IsPair s.heap TO a b)(h1:S1 k s.heap)(p:S2 k s.heap)(f:g1 k=none\/g2 k=none)(q:∀h',(∀c o,c≠z->c≠TO->c≠i1->c≠i2->s.heap.get? c=some o->h'.get? c=some o)->Q none {s with heap:=h'}):wpAny (model prog w) A (pyNext (.ref z)) Q E s:=by have j:s.TypeIs (.ref z) "zip":=⟨_,i,rfl⟩;unfold pyNext;refine wpAny_bind (wpAny_attempt (wpAny_callSpecial?_slot (name:=Str.ofString "__next__") j F.slot_zip_next (wpAny_call_entry F.slot_zip_next j F.entry_zip_next (u6 D m n i g h h1 p f λh' e r he=>?_) (F.args_zip_next_1 _))));obtain⟨o,ho,hc⟩:=he;exact wpAny_bind (wpAny_isInstance (T:="StopIteration") (b:=true) ⟨o,ho,hc⟩ isSubtype_stop (wpAny_pure (q _ r)))
end
theorem ji(l1 l2:Addr)(xs ys:Array Value):Meets (Builtin.«zip.__new__» ⟨[.type "zip",.ref l1,.ref l2],[]⟩) (λ_ R s=>s.heap.IsList l1 xs/\s.heap.IsList l2 ys/\R (.ok (.ret (.ref (s.heap.objs.size+4)))) {s with heap:=((((s.heap.push {cls:=.type "list_iterator",data:=.fields #[.ref l1,.int 0 0]}).push {cls:=.type "list_iterator",data:=.fields #[.ref l2,.int 0 0]}).push {cls:=.type "tuple",data:=.seq #[.ref s.heap.objs.size,.ref (s.heap.objs.size+1)]}).push {cls:=.type "tuple",data:=.seq #[.none,.none]}).push {cls:=.type "zip",data:=.fields #[.none,.bool false,.bool false,.ref (s.heap.objs.size+2),.ref (s.heap.objs.size+3)]}}):=.of_wp λprog w A R s h=>by obtain⟨f,g,d,i,os⟩:=s;obtain⟨a,b,h⟩:=h;have j:=sub_zip;have c:IsList (Shared.heap ⟨f,g,d,i,os⟩) l1 xs:=a;have e:IsList (Shared.heap ⟨f.push {cls:=.type "list_iterator",data:=.fields #[.ref l1,.int 0 0]},g,d,i,os⟩) l2 ys:=Heap.IsList.push b _;wp_walk using wpAny_pyIter_list c,wpAny_pyIter_list e;simp only[size_push]at*;exact⟨_,rfl,h⟩
section
variable{prog:Program}{w:World}{A:Around}{E:Value->Shared->Prop}{s:Shared}
theorem p7(j:s.heap.IsList l1 xs)(k:s.heap.IsList l2 ys)(h:∀ h',IsZip h' (s.heap.objs.size+4) (s.heap.objs.size+2) (s.heap.objs.size+3) .none->IsPair h' (s.heap.objs.size+2) (.ref s.heap.objs.size) (.ref (s.heap.objs.size+1))->IsPair h' (s.heap.objs.size+3) .none .none->h'.IsListIter s.heap.objs.size l1 0->h'.IsListIter (s.heap.objs.size+1) l2 0->(∀c o,s.heap.get? c=some o->h'.get? c=some o)->Q (.ref (s.heap.objs.size+4)) {s with heap:=h'}):wpAny (model prog w) A (call (.type "zip") [.ref l1,.ref l2]) Q E s:=by
 refine callType_new F.called_zip (by decide) (F.typeCall_zip_2 _ _) (F.newCall_zip_2 _ _) (λobj=>F.args_object_init_3 obj _ _) F.entry_zip_new (ji l1 l2 xs ys) ⟨j,k,?_⟩;generalize m:s.heap.push {cls:=.type "list_iterator",data:=.fields #[.ref l1,.int 0 0]}=t1;have u:t1.objs.size=s.heap.objs.size+1:=by rw[<-m,size_push]
 have C:t1.get? s.heap.objs.size=some {cls:=.type "list_iterator",data:=.fields #[.ref l1,.int 0 0]}:=by rw[<-m];exact get?_push_size _ rfl
 have G:∀c o,s.heap.get? c=some o->t1.get? c=some o:=λc o e=>by rw[<-m];exact dH e
 generalize n:t1.push {cls:=.type "list_iterator",data:=.fields #[.ref l2,.int 0 0]}=a;have v:a.objs.size=s.heap.objs.size+2:=by rw[<-n,size_push,u]
 have H:a.get? (s.heap.objs.size+1)=some {cls:=.type "list_iterator",data:=.fields #[.ref l2,.int 0 0]}:=by rw[<-u,<-n];exact get?_push_size _ rfl
 have x:∀c o,t1.get? c=some o->a.get? c=some o:=λc o e=>by rw[<-n];exact dH e
 generalize p:a.push {cls:=.type "tuple",data:=.seq #[.ref s.heap.objs.size,.ref (s.heap.objs.size+1)]}=b;have y:b.objs.size=s.heap.objs.size+3:=by rw[<-p,size_push,v]
 have I:b.get? (s.heap.objs.size+2)=some {cls:=.type "tuple",data:=.seq #[.ref s.heap.objs.size,.ref (s.heap.objs.size+1)]}:=by rw[<-v,<-p];exact get?_push_size _ rfl
 have q:∀c o,a.get? c=some o->b.get? c=some o:=λc o e=>by rw[<-p];exact dH e
 generalize r:b.push {cls:=.type "tuple",data:=.seq #[.none,.none]}=f;have J:f.objs.size=s.heap.objs.size+4:=by rw[<-r,size_push,y]
 have L:f.get? (s.heap.objs.size+3)=some {cls:=.type "tuple",data:=.seq #[.none,.none]}:=by rw[<-y,<-r];exact get?_push_size _ rfl
 have i:∀c o,b.get? c=some o->f.get? c=some o:=λc o e=>by rw[<-r];exact dH e
 generalize z:f.push {cls:=.type "zip",data:=.fields #[.none,.bool false,.bool false,.ref (s.heap.objs.size+2),.ref (s.heap.objs.size+3)]}=t;have B:t.get? (s.heap.objs.size+4)=some {cls:=.type "zip",data:=.fields #[.none,.bool false,.bool false,.ref (s.heap.objs.size+2),.ref (s.heap.objs.size+3)]}:=by rw[<-J,<-z];exact get?_push_size _ rfl
 have g:∀c o,f.get? c=some o->t.get? c=some o:=λc o e=>by rw[<-z];exact dH e
 exact⟨⟨_,B,rfl⟩,h t B (g _ _ (i _ _ I)) (g _ _ L) ⟨_,g _ _ (i _ _ (q _ _ (x _ _ C))),rfl,rfl⟩ ⟨_,g _ _ (i _ _ (q _ _ H)),rfl,rfl⟩ λc o e=>g _ _ (i _ _ (q _ _ (x _ _ (G _ _ e))))⟩
end
theorem jk(l1 l2:Addr)(xs ys:Array Value):Meets (Builtin.«zip.__new__» ⟨[.type "zip",.ref l1,.ref l2],[]⟩) (λ_ R s=>s.heap.IsList l1 xs/\s.heap.IsTuple l2 ys/\R (.ok (.ret (.ref (s.heap.objs.size+4)))) {s with heap:=((((s.heap.push {cls:=.type "list_iterator",data:=.fields #[.ref l1,.int 0 0]}).push {cls:=.type "tuple_iterator",data:=.fields #[.ref l2,.int 0 0]}).push {cls:=.type "tuple",data:=.seq #[.ref s.heap.objs.size,.ref (s.heap.objs.size+1)]}).push {cls:=.type "tuple",data:=.seq #[.none,.none]}).push {cls:=.type "zip",data:=.fields #[.none,.bool false,.bool false,.ref (s.heap.objs.size+2),.ref (s.heap.objs.size+3)]}}):=.of_wp λprog w A R s h=>by obtain⟨f,g,d,i,os⟩:=s;obtain⟨a,b,h⟩:=h;have j:=sub_zip;have c:IsList (Shared.heap ⟨f,g,d,i,os⟩) l1 xs:=a;have e:IsTuple (Shared.heap ⟨f.push {cls:=.type "list_iterator",data:=.fields #[.ref l1,.int 0 0]},g,d,i,os⟩) l2 ys:=Heap.IsTuple.push b _;wp_walk using wpAny_pyIter_list c,wpAny_pyIter_tuple e;simp only[size_push]at*;exact⟨_,rfl,h⟩
section
variable{prog:Program}{w:World}{A:Around}{E:Value->Shared->Prop}{s:Shared}
theorem pI(j:s.heap.IsList l1 xs)(k:s.heap.IsTuple l2 ys)(h:∀ h',IsZip h' (s.heap.objs.size+4) (s.heap.objs.size+2) (s.heap.objs.size+3) .none->IsPair h' (s.heap.objs.size+2) (.ref s.heap.objs.size) (.ref (s.heap.objs.size+1))->IsPair h' (s.heap.objs.size+3) .none .none->h'.IsListIter s.heap.objs.size l1 0->h'.IsTupleIter (s.heap.objs.size+1) l2 0->(∀c o,s.heap.get? c=some o->h'.get? c=some o)->Q (.ref (s.heap.objs.size+4)) {s with heap:=h'}):wpAny (model prog w) A (call (.type "zip") [.ref l1,.ref l2]) Q E s:=by
 refine callType_new F.called_zip (by decide) (F.typeCall_zip_2 _ _) (F.newCall_zip_2 _ _) (λobj=>F.args_object_init_3 obj _ _) F.entry_zip_new (jk l1 l2 xs ys) ⟨j,k,?_⟩;generalize m:s.heap.push {cls:=.type "list_iterator",data:=.fields #[.ref l1,.int 0 0]}=t1;have u:t1.objs.size=s.heap.objs.size+1:=by rw[<-m,size_push]
 have C:t1.get? s.heap.objs.size=some {cls:=.type "list_iterator",data:=.fields #[.ref l1,.int 0 0]}:=by rw[<-m];exact get?_push_size _ rfl
 have G:∀c o,s.heap.get? c=some o->t1.get? c=some o:=λc o e=>by rw[<-m];exact dH e
 generalize n:t1.push {cls:=.type "tuple_iterator",data:=.fields #[.ref l2,.int 0 0]}=a;have v:a.objs.size=s.heap.objs.size+2:=by rw[<-n,size_push,u]
 have H:a.get? (s.heap.objs.size+1)=some {cls:=.type "tuple_iterator",data:=.fields #[.ref l2,.int 0 0]}:=by rw[<-u,<-n];exact get?_push_size _ rfl
 have x:∀c o,t1.get? c=some o->a.get? c=some o:=λc o e=>by rw[<-n];exact dH e
 generalize p:a.push {cls:=.type "tuple",data:=.seq #[.ref s.heap.objs.size,.ref (s.heap.objs.size+1)]}=b;have y:b.objs.size=s.heap.objs.size+3:=by rw[<-p,size_push,v]
 have I:b.get? (s.heap.objs.size+2)=some {cls:=.type "tuple",data:=.seq #[.ref s.heap.objs.size,.ref (s.heap.objs.size+1)]}:=by rw[<-v,<-p];exact get?_push_size _ rfl
 have q:∀c o,a.get? c=some o->b.get? c=some o:=λc o e=>by rw[<-p];exact dH e
 generalize r:b.push {cls:=.type "tuple",data:=.seq #[.none,.none]}=f;have J:f.objs.size=s.heap.objs.size+4:=by rw[<-r,size_push,y]
 have L:f.get? (s.heap.objs.size+3)=some {cls:=.type "tuple",data:=.seq #[.none,.none]}:=by rw[<-y,<-r];exact get?_push_size _ rfl
 have i:∀c o,b.get? c=some o->f.get? c=some o:=λc o e=>by rw[<-r];exact dH e
 generalize z:f.push {cls:=.type "zip",data:=.fields #[.none,.bool false,.bool false,.ref (s.heap.objs.size+2),.ref (s.heap.objs.size+3)]}=t;have B:t.get? (s.heap.objs.size+4)=some {cls:=.type "zip",data:=.fields #[.none,.bool false,.bool false,.ref (s.heap.objs.size+2),.ref (s.heap.objs.size+3)]}:=by rw[<-J,<-z];exact get?_push_size _ rfl
 have g:∀c o,f.get? c=some o->t.get? c=some o:=λc o e=>by rw[<-z];exact dH e
 exact⟨⟨_,B,rfl⟩,h t B (g _ _ (i _ _ I)) (g _ _ L) ⟨_,g _ _ (i _ _ (q _ _ (x _ _ C))),rfl,rfl⟩ ⟨_,g _ _ (i _ _ (q _ _ H)),rfl,rfl⟩ λc o e=>g _ _ (i _ _ (q _ _ (x _ _ (G _ _ e))))⟩
end
theorem jf(l1 l2:Addr)(xs ys:Array Value):Meets (Builtin.«zip.__new__» ⟨[.type "zip",.ref l1,.ref l2],[]⟩) (λ_ R s=>s.heap.IsTuple l1 xs/\s.heap.IsList l2 ys/\R (.ok (.ret (.ref (s.heap.objs.size+4)))) {s with heap:=((((s.heap.push {cls:=.type "tuple_iterator",data:=.fields #[.ref l1,.int 0 0]}).push {cls:=.type "list_iterator",data:=.fields #[.ref l2,.int 0 0]}).push {cls:=.type "tuple",data:=.seq #[.ref s.heap.objs.size,.ref (s.heap.objs.size+1)]}).push {cls:=.type "tuple",data:=.seq #[.none,.none]}).push {cls:=.type "zip",data:=.fields #[.none,.bool false,.bool false,.ref (s.heap.objs.size+2),.ref (s.heap.objs.size+3)]}}):=.of_wp λprog w A R s h=>by obtain⟨f,g,d,i,os⟩:=s;obtain⟨a,b,h⟩:=h;have j:=sub_zip;have c:IsTuple (Shared.heap ⟨f,g,d,i,os⟩) l1 xs:=a;have e:IsList (Shared.heap ⟨f.push {cls:=.type "tuple_iterator",data:=.fields #[.ref l1,.int 0 0]},g,d,i,os⟩) l2 ys:=Heap.IsList.push b _;wp_walk using wpAny_pyIter_tuple c,wpAny_pyIter_list e;simp only[size_push]at*;exact⟨_,rfl,h⟩
section
variable{prog:Program}{w:World}{A:Around}{E:Value->Shared->Prop}{s:Shared}
theorem pQ(j:s.heap.IsTuple l1 xs)(k:s.heap.IsList l2 ys)(h:∀ h',IsZip h' (s.heap.objs.size+4) (s.heap.objs.size+2) (s.heap.objs.size+3) .none->IsPair h' (s.heap.objs.size+2) (.ref s.heap.objs.size) (.ref (s.heap.objs.size+1))->IsPair h' (s.heap.objs.size+3) .none .none->h'.IsTupleIter s.heap.objs.size l1 0->h'.IsListIter (s.heap.objs.size+1) l2 0->(∀c o,s.heap.get? c=some o->h'.get? c=some o)->Q (.ref (s.heap.objs.size+4)) {s with heap:=h'}):wpAny (model prog w) A (call (.type "zip") [.ref l1,.ref l2]) Q E s:=by
 refine callType_new F.called_zip (by decide) (F.typeCall_zip_2 _ _) (F.newCall_zip_2 _ _) (λobj=>F.args_object_init_3 obj _ _) F.entry_zip_new (jf l1 l2 xs ys) ⟨j,k,?_⟩;generalize m:s.heap.push {cls:=.type "tuple_iterator",data:=.fields #[.ref l1,.int 0 0]}=t1;have u:t1.objs.size=s.heap.objs.size+1:=by rw[<-m,size_push]
 have C:t1.get? s.heap.objs.size=some {cls:=.type "tuple_iterator",data:=.fields #[.ref l1,.int 0 0]}:=by rw[<-m];exact get?_push_size _ rfl
 have G:∀c o,s.heap.get? c=some o->t1.get? c=some o:=λc o e=>by rw[<-m];exact dH e
 generalize n:t1.push {cls:=.type "list_iterator",data:=.fields #[.ref l2,.int 0 0]}=a;have v:a.objs.size=s.heap.objs.size+2:=by rw[<-n,size_push,u]
 have H:a.get? (s.heap.objs.size+1)=some {cls:=.type "list_iterator",data:=.fields #[.ref l2,.int 0 0]}:=by rw[<-u,<-n];exact get?_push_size _ rfl
 have x:∀c o,t1.get? c=some o->a.get? c=some o:=λc o e=>by rw[<-n];exact dH e
 generalize p:a.push {cls:=.type "tuple",data:=.seq #[.ref s.heap.objs.size,.ref (s.heap.objs.size+1)]}=b;have y:b.objs.size=s.heap.objs.size+3:=by rw[<-p,size_push,v]
 have I:b.get? (s.heap.objs.size+2)=some {cls:=.type "tuple",data:=.seq #[.ref s.heap.objs.size,.ref (s.heap.objs.size+1)]}:=by rw[<-v,<-p];exact get?_push_size _ rfl
 have q:∀c o,a.get? c=some o->b.get? c=some o:=λc o e=>by rw[<-p];exact dH e
 generalize r:b.push {cls:=.type "tuple",data:=.seq #[.none,.none]}=f;have J:f.objs.size=s.heap.objs.size+4:=by rw[<-r,size_push,y]
 have L:f.get? (s.heap.objs.size+3)=some {cls:=.type "tuple",data:=.seq #[.none,.none]}:=by rw[<-y,<-r];exact get?_push_size _ rfl
 have i:∀c o,b.get? c=some o->f.get? c=some o:=λc o e=>by rw[<-r];exact dH e
 generalize z:f.push {cls:=.type "zip",data:=.fields #[.none,.bool false,.bool false,.ref (s.heap.objs.size+2),.ref (s.heap.objs.size+3)]}=t;have B:t.get? (s.heap.objs.size+4)=some {cls:=.type "zip",data:=.fields #[.none,.bool false,.bool false,.ref (s.heap.objs.size+2),.ref (s.heap.objs.size+3)]}:=by rw[<-J,<-z];exact get?_push_size _ rfl
 have g:∀c o,f.get? c=some o->t.get? c=some o:=λc o e=>by rw[<-z];exact dH e
 exact⟨⟨_,B,rfl⟩,h t B (g _ _ (i _ _ I)) (g _ _ L) ⟨_,g _ _ (i _ _ (q _ _ (x _ _ C))),rfl,rfl⟩ ⟨_,g _ _ (i _ _ (q _ _ H)),rfl,rfl⟩ λc o e=>g _ _ (i _ _ (q _ _ (x _ _ (G _ _ e))))⟩
end
theorem jh(l1 l2:Addr)(xs ys:Array Value):Meets (Builtin.«zip.__new__» ⟨[.type "zip",.ref l1,.ref l2],[]⟩) (λ_ R s=>s.heap.IsTuple l1 xs/\s.heap.IsTuple l2 ys/\R (.ok (.ret (.ref (s.heap.objs.size+4)))) {s with heap:=((((s.heap.push {cls:=.type "tuple_iterator",data:=.fields #[.ref l1,.int 0 0]}).push {cls:=.type "tuple_iterator",data:=.fields #[.ref l2,.int 0 0]}).push {cls:=.type "tuple",data:=.seq #[.ref s.heap.objs.size,.ref (s.heap.objs.size+1)]}).push {cls:=.type "tuple",data:=.seq #[.none,.none]}).push {cls:=.type "zip",data:=.fields #[.none,.bool false,.bool false,.ref (s.heap.objs.size+2),.ref (s.heap.objs.size+3)]}}):=.of_wp λprog w A R s h=>by obtain⟨f,g,d,i,os⟩:=s;obtain⟨a,b,h⟩:=h;have j:=sub_zip;have c:IsTuple (Shared.heap ⟨f,g,d,i,os⟩) l1 xs:=a;have e:IsTuple (Shared.heap ⟨f.push {cls:=.type "tuple_iterator",data:=.fields #[.ref l1,.int 0 0]},g,d,i,os⟩) l2 ys:=Heap.IsTuple.push b _;wp_walk using wpAny_pyIter_tuple c,wpAny_pyIter_tuple e;simp only[size_push]at*;exact⟨_,rfl,h⟩
section
variable{prog:Program}{w:World}{A:Around}{E:Value->Shared->Prop}{s:Shared}
theorem pZ(j:s.heap.IsTuple l1 xs)(k:s.heap.IsTuple l2 ys)(h:∀ h',IsZip h' (s.heap.objs.size+4) (s.heap.objs.size+2) (s.heap.objs.size+3) .none->IsPair h' (s.heap.objs.size+2) (.ref s.heap.objs.size) (.ref (s.heap.objs.size+1))->IsPair h' (s.heap.objs.size+3) .none .none->h'.IsTupleIter s.heap.objs.size l1 0->h'.IsTupleIter (s.heap.objs.size+1) l2 0->(∀c o,s.heap.get? c=some o->h'.get? c=some o)->Q (.ref (s.heap.objs.size+4)) {s with heap:=h'}):wpAny (model prog w) A (call (.type "zip") [.ref l1,.ref l2]) Q E s:=by
 refine callType_new F.called_zip (by decide) (F.typeCall_zip_2 _ _) (F.newCall_zip_2 _ _) (λobj=>F.args_object_init_3 obj _ _) F.entry_zip_new (jh l1 l2 xs ys) ⟨j,k,?_⟩;generalize m:s.heap.push {cls:=.type "tuple_iterator",data:=.fields #[.ref l1,.int 0 0]}=t1;have u:t1.objs.size=s.heap.objs.size+1:=by rw[<-m,size_push]
 have C:t1.get? s.heap.objs.size=some {cls:=.type "tuple_iterator",data:=.fields #[.ref l1,.int 0 0]}:=by rw[<-m];exact get?_push_size _ rfl
 have G:∀c o,s.heap.get? c=some o->t1.get? c=some o:=λc o e=>by rw[<-m];exact dH e
 generalize n:t1.push {cls:=.type "tuple_iterator",data:=.fields #[.ref l2,.int 0 0]}=a;have v:a.objs.size=s.heap.objs.size+2:=by rw[<-n,size_push,u]
 have H:a.get? (s.heap.objs.size+1)=some {cls:=.type "tuple_iterator",data:=.fields #[.ref l2,.int 0 0]}:=by rw[<-u,<-n];exact get?_push_size _ rfl
 have x:∀c o,t1.get? c=some o->a.get? c=some o:=λc o e=>by rw[<-n];exact dH e
 generalize p:a.push {cls:=.type "tuple",data:=.seq #[.ref s.heap.objs.size,.ref (s.heap.objs.size+1)]}=b;have y:b.objs.size=s.heap.objs.size+3:=by rw[<-p,size_push,v]
 have I:b.get? (s.heap.objs.size+2)=some {cls:=.type "tuple",data:=.seq #[.ref s.heap.objs.size,.ref (s.heap.objs.size+1)]}:=by rw[<-v,<-p];exact get?_push_size _ rfl
 have q:∀c o,a.get? c=some o->b.get? c=some o:=λc o e=>by rw[<-p];exact dH e
 generalize r:b.push {cls:=.type "tuple",data:=.seq #[.none,.none]}=f;have J:f.objs.size=s.heap.objs.size+4:=by rw[<-r,size_push,y]
 have L:f.get? (s.heap.objs.size+3)=some {cls:=.type "tuple",data:=.seq #[.none,.none]}:=by rw[<-y,<-r];exact get?_push_size _ rfl
 have i:∀c o,b.get? c=some o->f.get? c=some o:=λc o e=>by rw[<-r];exact dH e
 generalize z:f.push {cls:=.type "zip",data:=.fields #[.none,.bool false,.bool false,.ref (s.heap.objs.size+2),.ref (s.heap.objs.size+3)]}=t;have B:t.get? (s.heap.objs.size+4)=some {cls:=.type "zip",data:=.fields #[.none,.bool false,.bool false,.ref (s.heap.objs.size+2),.ref (s.heap.objs.size+3)]}:=by rw[<-J,<-z];exact get?_push_size _ rfl
 have g:∀c o,f.get? c=some o->t.get? c=some o:=λc o e=>by rw[<-z];exact dH e
 exact⟨⟨_,B,rfl⟩,h t B (g _ _ (i _ _ I)) (g _ _ L) ⟨_,g _ _ (i _ _ (q _ _ (x _ _ C))),rfl,rfl⟩ ⟨_,g _ _ (i _ _ (q _ _ H)),rfl,rfl⟩ λc o e=>g _ _ (i _ _ (q _ _ (x _ _ (G _ _ e))))⟩
end
end PySem
end
section
namespace L2
open PySem PySem.Spec PyProof.Rows
variable{t:Bool}{a:Addr}
def Sq(t:Bool)(K:PySem.W.Frag)(H:Hp)(a:Addr)(xs:List V):Prop:=if t then eY K H a xs else cR K H a xs
def Fo(t:Bool)(h:Heap)(a:Addr)(xs:Array Value):Prop:=if t then h.IsTuple a xs else h.IsList a xs
def ue(t:Bool)(h:Heap)(i a:Addr)(k:Nat):Prop:=if t then h.IsTupleIter i a k else h.IsListIter i a k
section
variable{X:Cx}{pins:List (Addr×Obj)}{σ:L2.St}{H:Hp}{s:Shared}
theorem Inv.sq{xs:List V}(I:Inv X pins σ H s)(h:Sq t X.K H a xs):∃b:List Value,Vals xs b/\Fo t s.heap a b.toArray:=by cases t with|true=>obtain⟨b,c,e,_⟩:=I.tuple h;exact⟨b,c,e⟩|false=>obtain⟨b,c,e,_⟩:=I.list h;exact⟨b,c,e.isList⟩
theorem Inv.uH{xs ys:List V}(I:Inv X pins σ H s)(h:Sq t X.K H a xs)(h':Sq t X.K H a ys):xs=ys:=by cases t with|true=>exact I.gD h h'|false=>exact I.il h h'
theorem Fo.lt{h:Heap}{xs:Array Value}(q:Fo t h a xs):a<h.objs.size:=by cases t with|true=>obtain⟨o,e,_⟩:=id q;exact lt_size e|false=>obtain⟨o,e,_⟩:=id q;exact lt_size e
theorem ue.obj{h:Heap}{i:Addr}{k:Nat}(q:ue t h i a k):∃o,h.get? i=some o/\∀v,o.data≠.cell v:=by cases t with|true=>obtain⟨o,b,e,c⟩:=id q;exact⟨o,b,λv z=>by rw[c]at z;cases z⟩|false=>obtain⟨o,b,e,c⟩:=id q;exact⟨o,b,λv z=>by rw[c]at z;cases z⟩
theorem ue.keep{h h':Heap}{i:Addr}{k:Nat}(q:ue t h i a k)(e:∀o,h.get? i=some o->h'.get? i=some o):ue t h' i a k:=by cases t with|true=>obtain⟨o,b,r⟩:=id q;exact⟨o,e o b,r⟩|false=>obtain⟨o,b,r⟩:=id q;exact⟨o,e o b,r⟩
theorem yE(t:Bool){prog:Program}{w:World}{A:Around}(e:A.handled=none)(b l:Addr)(c:l≠b)(items:Array Value):Nx prog w A b l (λk h=>ue t h b l k/\Fo t h l items) (λk=>items[k]?):=by cases t with|true=>exact Nx.tuple e b l c items|false=>exact Nx.list e b l c items
theorem Inv.v7{ch:List Addr}{h':Heap}(I:Inv X pins σ H s)(k:∀b u,b∉ch->s.heap.get? b=some u->h'.get? b=some u)(g:∀b∈ch,iH X pins H b):Inv X pins σ H {s with heap:=h'}:=by
 have h:∀b u,H b=some u->b∉ch:=λb u e f=>by rw[(g b f).1]at e;cases e
 refine I.call (g':=s.gens) (d':=s.drawn) (t':=s.toks) (ch:=ch) ⟨λb u e n _ hx=>k b u hx e,λb u e n _ hx=>⟨u.slots,k b u hx e⟩,λb u e n hx=>n,λb u e hx=>⟨u,k b u hx e⟩,λb xs e=>e,λb i u e=>e,λb ps e=>⟨#[],by rw[e];simp⟩⟩ ?_ I.bare λb f=>⟨(g b f).2.2.2.1,(g b f).2.1,(g b f).2.2.2.2.1,(g b f).2.2.2.2.2⟩;intro b u e;refine(I.hok b u e).stay (λc v hc q=>k c v ?_ q) (λc q=>q) λc xs q=>q;rcases hc with rfl|hc;.exact h _ _ e
 .exact h _ _ hc
end
noncomputable def HB(t1 c:Bool)(K:PySem.W.Frag)(a b:Addr):It:=⟨λi H=>∃ xs ys x y,Sq t1 K H a xs/\Sq c K H b ys/\xs[i]?=some x/\ys[i]?=some y,λi H x e=>∃T v w,H T=none/\x=.ref T/\e=upd H T (.tup [v,w])/\(∀xs,Sq t1 K H a xs->xs[i]?=some v)/\∀ys,Sq c K H b ys->ys[i]?=some w,λi H=>∃xs ys,Sq t1 K H a xs/\Sq c K H b ys/\(xs.length<=i\/ys.length<=i)⟩
theorem uD{P:Program}{w:World}{K:PySem.W.Frag}{M:List Expr}{x1}{tp:Pos}(t1 N:Bool){z TI n f g J L:Addr}(D:ZipApart z TI n f g J L):Turn P w K (.Tuple M x1 tp) (HB t1 N K J L) [z,TI,n,f,g] z (λi h=>IsZip h z TI n .none/\IsPair h TI (.ref f) (.ref g)/\(∃a b,IsPair h n a b)/\ue t1 h f J i/\ue N h g L i)where
 mem:=by simp
 obj:=λi h st b c=>by
  obtain⟨h1,p,⟨u,v,C⟩,F,G⟩:=st;simp only[mem_cons,not_mem_nil,or_false]at c;rcases c with rfl|rfl|rfl|rfl|rfl;.exact⟨_,h1,λv z=>by cases z⟩
  .exact⟨_,p,λv z=>by cases z⟩
  .exact⟨_,C,λv z=>by cases z⟩
  .exact F.obj
  .exact G.obj
 keep:=λi h h' st k=>by obtain⟨h1,p,⟨u,v,C⟩,F,G⟩:=st;exact⟨k z (by simp) _ h1,k TI (by simp) _ p,⟨u,v,k n (by simp) _ C⟩,F.keep (k f (by simp)),G.keep (k g (by simp))⟩
 item:=λX hP hw hK hc i O s σ H E I hf st go=>by
  subst hP hw hK;obtain⟨h1,p,⟨u,v,C⟩,F,G⟩:=st;obtain⟨xs,ys,x,y,r,B,hx,hy⟩:=go;obtain⟨zb,Mw,Hl⟩:=I.sq r;obtain⟨j,EY,Ak⟩:=I.sq B;obtain⟨ux,ab,ac⟩:=Mw.get hx;obtain⟨uy,ae,af⟩:=EY.get hy;have U:X.A.in1.handled=none:=I.ok.hd hc;refine iZ D (yE t1 U f J D.l1i1 zb.toArray) (yE N U g L D.l2i2 j.toArray) h1 p C (k:=i) ⟨F,Hl⟩ ⟨G,Ak⟩ (x:=ux) (y:=uy) (by simpa using ab) (by simpa using ae) λh' z1 p1 s1 s2 pT ah kp=>?_;refine⟨_,rfl,wpAny_letOwnedTupleGo_zip z1 λm z2 Y=>?_⟩;have Z:∀b∈[z,TI,n,f,g],b≠s.heap.objs.size:=λb c=>by
   simp only[mem_cons,not_mem_nil,or_false]at c;rcases c with rfl|rfl|rfl|rfl|rfl;.exact ne_of_lt (lt_size h1)
   .exact ne_of_lt (lt_size p)
   .exact ne_of_lt (lt_size C)
   .exact ne_of_lt (lt_size F.obj.choose_spec.1)
   .exact ne_of_lt (lt_size G.obj.choose_spec.1)
  have Hk:∀b o,b∉[z,n,f,g]->s.heap.get? b=some o->m.get? b=some o:=λb o c q=>by simp only[mem_cons,not_mem_nil,or_false,not_or]at c;exact Y.extBut b o c.1 (kp b o c.1 c.2.1 c.2.2.1 c.2.2.2 q)
  have ag:IsPair m s.heap.objs.size ux uy:=Y.extBut _ _ (Z z (by simp)).symm pT;have p2:IsPair m n ux uy:=Y.extBut _ _ D.TOz p1;have j1:ue t1 m f J (i+1):=s1.1.keep λo e=>Y.extBut _ _ D.i1z e;have j2:ue N m g L (i+1):=s2.1.keep λo e=>Y.extBut _ _ D.i2z e;refine⟨.ref s.heap.objs.size,upd H s.heap.objs.size (.tup [x,y]),?_,rfl,⟨_,x,y,I.fresh,rfl,rfl,λzs hz=>?_,λzs hz=>?_⟩,⟨z2,Hk TI _ ?_ p,⟨_,_,p2⟩,j1,j2⟩,λb c=>?_⟩
  . refine I.pJ (ch:=[z,n,f,g]) (t':=s.toks) Hk (λb c=>?_) (λb c=>hf b ?_) ⟨(by show 2<=sizeLine;decide),[ux,uy],.cons ac (.cons af .nil),⟨_,ag,rfl,_,rfl⟩⟩
    . simp only[mem_cons,not_mem_nil,or_false]at c;rcases c with rfl|rfl|rfl|rfl;.exact⟨_,z2⟩
      .exact⟨_,p2⟩
      .exact⟨_,j1.obj.choose_spec.1⟩
      .exact⟨_,j2.obj.choose_spec.1⟩
    .simp only[mem_cons,not_mem_nil,or_false]at c ⊢;rcases c with h|h|h|h<;>simp[h]
  .rw[I.uH hz r];exact hx
  .rw[I.uH hz B];exact hy
  .simp[D.TIz,D.TITO,D.TIi1,D.TIi2]
  .rw[ao (Z b c)];exact(hf b c).1
 done:=λX hP hw hK hc i O s σ H E I hf st stop=>by
  subst hP hw hK;obtain⟨h1,p,⟨u,v,C⟩,F,G⟩:=st;obtain⟨xs,ys,r,B,hx⟩:=stop;obtain⟨zb,Mw,Hl⟩:=I.sq r;obtain⟨j,EY,Ak⟩:=I.sq B;have U:X.A.in1.handled=none:=I.ok.hd hc;refine jg D (yE t1 U f J D.l1i1 zb.toArray) (yE N U g L D.l2i2 j.toArray) h1 p C (k:=i) ⟨F,Hl⟩ ⟨G,Ak⟩ ?_ λh' kp=>⟨rfl,?_⟩
  . rcases hx with hx|hx;.left;rw[Mw.length]at hx;simpa using hx
    .right;rw[EY.length]at hx;simpa using hx
  .exact I.v7 (ch:=[z,n,f,g]) (λb u c q=>by simp only[mem_cons,not_mem_nil,or_false,not_or]at c;exact kp b u c.1 c.2.1 c.2.2.1 c.2.2.2 q) λb c=>hf b (by simp only[mem_cons,not_mem_nil,or_false]at c ⊢;rcases c with h|h|h|h<;>simp[h])
 self:=λA i s Q E st q=>wpAny_pyIter_zip st.1 q
section
variable{X:Cx}{elts:List Expr}{x1:Nat}{tp:Pos}
theorem tG{prog:Program}{w:World}{A:Around}{E:Value->Shared->Prop}{s:Shared}(t1 f:Bool){g i:Addr}{xs ys:Array Value}{Q:Value->Shared->Prop}(b:Fo t1 s.heap g xs)(e:Fo f s.heap i ys)(h:∀ h',IsZip h' (s.heap.objs.size+4) (s.heap.objs.size+2) (s.heap.objs.size+3) .none->IsPair h' (s.heap.objs.size+2) (.ref s.heap.objs.size) (.ref (s.heap.objs.size+1))->IsPair h' (s.heap.objs.size+3) .none .none->ue t1 h' s.heap.objs.size g 0->ue f h' (s.heap.objs.size+1) i 0->(∀c o,s.heap.get? c=some o->h'.get? c=some o)->Q (.ref (s.heap.objs.size+4)) {s with heap:=h'}):wpAny (model prog w) A (call (.type "zip") [.ref g,.ref i]) Q E s:=by
 cases t1<;>cases f;.exact p7 b e h
 .exact pI b e h
 .exact pQ b e h
 .exact pZ b e h
theorem BW{n l m:Nat}(h1:l<n)(b:m<n):ZipApart (n+4) (n+2) (n+3) n (n+1) l m:=by constructor<;>exact λh=>absurd (show(_:Nat)=_ from h) (by omega)
def Nu(K:PySem.W.Frag)(R:It->Hp->Prop)(f:List V)(c:Hp):Prop:=∃t1 e a b,f=[.ref a,.ref b]/\(∃xs,Sq t1 K c a xs)/\(∃ys,Sq e K c b ys)/\R (HB t1 e K a b) c
def Qk(K:PySem.W.Frag)(b:TA):TI:=λσ H R=>b σ H (Nu K R)
theorem boot_zip:bootBuiltins "zip"=some (.type "zip"):=by decide+kernel
theorem Dj{a b:Expr}{k:TA}{p pos:Pos}(y:Gl X "zip")(z:X.mg "zip"=none)(A:PA X [a,b] k)(hs:starEach [a,b] X.env=[(false,eval a X.env),(false,eval b X.env)]:=by rfl)(c:starEach [b] X.env=[(false,eval b X.env)]:=by rfl):PI X (.Tuple elts x1 tp) (.Call (.Name "zip" p) [a,b] [] pos) (Qk X.K k):=by
 intro e s σ H R I h;refine Call_ (iW I y z boot_zip (PyProof.Rows.callWith_type1 (cF (A pos e s σ H _ I h) ?_) (by rw[hs,c]) (by rw[c];rfl)));rintro Q s1⟨U,B,f,r1,C⟩;obtain⟨t1,m,E,F,rfl,⟨xs,i⟩,⟨ys,j⟩,q⟩:=C;obtain⟨u,v,rfl,G,J⟩:=r1.two;cases G;cases J;obtain⟨W,Y,n⟩:=f.sq i;obtain⟨o,Z,r⟩:=f.sq j;have b1:=n.lt;have b2:=r.lt;refine tG t1 m n r λh' w L M N O kp=>?_;have D:ZipApart (s1.heap.objs.size+4) (s1.heap.objs.size+2) (s1.heap.objs.size+3) s1.heap.objs.size (s1.heap.objs.size+1) E F:=BW b1 b2;refine wpAny_pyIter_zip w ⟨_,_,_,_,B,rfl,f.kept (t':=s1.toks) kp,uD t1 m D,⟨w,L,⟨_,_,M⟩,N,O⟩,λb x=>?_,q⟩;have g:s1.heap.objs.size<=b:=by simp only[mem_cons,not_mem_nil,or_false]at x;rcases x with rfl|rfl|rfl|rfl|rfl<;>first|exact Nat.le_add_right _ _|exact fO
 exact f.o8 g (f.hok.fresh g)
end
end L2
namespace HH
open PySem L2 PySem.Spec PyProof.Rows
variable{x:Str}
section
variable{K:PySem.W.Frag}{F F1 H H1:Hp}{ρ ρ1:List Sl}{σ:L2.St}{ds es:List D}{a b:Addr}
theorem au.sq{t:Bool}{xs:List V}(e:au F H)(h:Sq t K F a xs):Sq t K H a xs:=by cases t with|true=>exact au.dR e h|false=>exact e.seq h
theorem yL{t1 j:Bool}{xs ys:List V}{m c:Hp}(e:Sq t1 K c a xs)(f:Sq j K c b ys)(r1:az K m xs ds)(q:az K m ys es)(s:au m c)(k:Nat):(∀d,((ds.zip es).map λp=>D.tup [p.1,p.2])[k]?=some d->(HB t1 j K a b).go k c/\∀x n,(HB t1 j K a b).wZ k c x n->∃g,Ext m c g n/\Rep K g x d)/\(((ds.zip es).map λp=>D.tup [p.1,p.2]).length<=k->(HB t1 j K a b).stop k c):=by refine⟨λd hd=>?_,λh=>⟨xs,ys,e,f,by rw[r1.length,q.length];rw[length_map,List.length_zip]at h;omega⟩⟩;rw[getElem?_map]at hd;obtain⟨⟨d0,d1⟩,r,t⟩:=map_some hd;subst t;obtain⟨f1,f2⟩:=List.getElem?_zip_eq_some.mp r;obtain⟨w,h1,u⟩:=r1.get f1;obtain⟨z,i,o⟩:=q.get f2;refine⟨⟨xs,ys,w,z,e,f,h1,i⟩,?_⟩;rintro x n⟨T,v,E,A,hx,B,y,C⟩;subst hx;subst B;have:=y xs e;rw[h1]at this;cases this;have:=C ys f;rw[i]at this;cases this;exact jZ s A u o
theorem vR{v:V}{d:D}{ds:List D}(h:Rep K F v d)(e:items d=some ds):∃t a xs,v=.ref a/\Sq t K F a xs/\az K F xs ds:=by cases d with|tup es=>cases e;rw[Rep]at h;obtain⟨a,xs,rfl,h1,c⟩:=h;exact⟨true,a,xs,rfl,h1,c⟩|lst es=>cases e;rw[Rep]at h;obtain⟨a,xs,rfl,h1,c⟩:=h;exact⟨false,a,xs,rfl,h1,c⟩|_=>cases e
end
section
variable{X:Cx}{c:Call}{e a b:Expr}{pa pb:P}{pos:Pos}{elts:List Expr}{x1:Nat}{tp:Pos}
theorem CK{y:Pos}(hx:x="zip")(z:Gl X x)(A:X.mg x=none)(B:SX X c a pa)(C:SX X c b pb)(hs:starEach [a,b] X.env=[(false,eval a X.env),(false,eval b X.env)]:=by rfl)(f:starEach [b] X.env=[(false,eval b X.env)]:=by rfl):SI X c (.Tuple elts x1 tp) (.Call (.Name x y) [a,b] [] pos) (.zip pa pb):=by subst hx;refine nW (Dj z A (jq B (jq C bY f) (by rw[hs,f])).1 hs f) ?_;rintro σ H R⟨F,ρ,ds,E,g,e,k⟩;obtain⟨r,ρ2,q,m⟩:=aa e;have p:=aJ m;clear m;obtain⟨m,G⟩:=p;subst G;rw[HH.E23]at q;obtain⟨I,j,J,L⟩:=aa q;obtain⟨M,N,O,o⟩:=aa L;have p:=aJ o;clear o;obtain⟨o,Q⟩:=p;subst Q;obtain⟨us,f1,U⟩:=fM o;obtain⟨ws,f2,f3⟩:=map_some U;subst f3;cases m;refine⟨F,ρ,[I.d,M.d],_,g,by rw[mZ,J];show(evs c [pb] j).bind _=_;rw[mZ,O];rfl,λvs W Y s h=>?_⟩;obtain⟨v,r',rfl,Z,h⟩:=h.bJ;obtain⟨u,ab,rfl,ru,h⟩:=h.bJ;rw[h.fj];obtain⟨t1,a1,xs,rfl,t,r1⟩:=vR Z f1;obtain⟨t2,a2,ys,rfl,w,r2⟩:=vR ru f2;exact⟨t1,t2,a1,a2,rfl,⟨xs,au.sq s.gs.sub t⟩,⟨ys,au.sq s.gs.sub w⟩,k _ _ _ ⟨s.gs,λn k W ac ae Y i=>yL (au.sq i.gs.sub (au.sq i.bI t)) (au.sq i.gs.sub (au.sq i.bI w)) (r1.mono i.bI) (r2.mono i.bI) i.gs.sub k,λF3 j af H3 s3=>⟨s.trans s3,λv r h=>h.later s⟩⟩⟩
end
structure di(K:PySem.W.Frag)(x:Str)(st:Stmt):Prop where ex:∃f fd,PySem.W.nsIn K mainGlobals x=some (some (.ref f))/\lO K x x st f fd
section
variable{Pg:Program}{w:World}{K:PySem.W.Frag}{mg:Str->Option Value}{base h:Heap}
theorem Di{st:Stmt}{f:Addr}{g:Value}{i j:Option Addr}{b:Array (Option Value)}{kV e m cdv ct:Value}(a:PySem.W.nsIn K mainGlobals x=some (some (.ref f)))(l:K.lookup f=some ⟨g,i,.func (PySem.W.fnOf x x (eN st) (cU st) (aC st) .none kV e m j cdv ct),b⟩)(c:PySem.W.codeIn K cdv x=true)(k:keepIn K (.ref f)=true):di K x st:=⟨_,_,a,Bo l c k⟩
theorem eV{Γ:Tab}{j i np:Nat}{st:Stmt}{ps:List Str}(X:K.In h)(G:h.Ns mainGlobals mg)(D:di K x st)(k:ps.length=np)(m:∀(kV g n:Value)(o:Option Addr)(cdv ct:Value)(c:List Value),c.length=ps.length->bindArgs (PySem.W.fnOf x x (eN st) (cU st) (aC st) .none kV g n o cdv ct) ⟨c,[]⟩=pure (ps.zip c)):bK Pg w K mg base 0 (run Γ j 0) i x np:=by obtain⟨f,fd,a,F⟩:=D.ex;exact⟨f,fd,ps,⟨λp H Q E s=>s.1,λA outer s H args c p Q E hr e b v sp=>by obtain⟨_,F,as,r,q,_,z,_⟩:=sp;cases z⟩,mg_of X G a,F.kp,F.binds m,k⟩
theorem fc{Γ:Tab}{b n i np:Nat}{st:Stmt}{ps:List Str}{d:Fd}(X:K.In h)(G:h.Ns mainGlobals mg)(D:di K x st)(k:ps.length=np)(c:Γ i=some d)(m:∀(kV g o:Value)(p:Option Addr)(cdv ct:Value)(j:List Value),j.length=ps.length->bindArgs (PySem.W.fnOf x x (eN st) (cU st) (aC st) .none kV g o p cdv ct) ⟨j,[]⟩=pure (ps.zip j))(ok:∀f fd,lO K x x st f fd->iY Pg w K mg base uL (n+1) f fd ps (wU K np (λargs=>enter (run Γ b n) b d args))):bK Pg w K mg base (n+1) (run Γ b (n+1)) i x np:=by
 obtain⟨f,fd,a,F⟩:=D.ex;refine⟨f,fd,ps,?_,mg_of X G a,F.kp,F.binds m,k⟩;have e:run Γ b (n+1) i=λargs=>enter (run Γ b n) b d args:=by funext args;show(match Γ i with|some d=>enter (run Γ b n) b d args|none=>.stuck)=_;rw[c]
 rw[e,k];exact ok f fd F
theorem lU{F:Hp}:∀ns:List Int,az K F (ns.map V.int) (ns.map D.int)|[]=>.nil|n::ns=>.cons (cT n) (lU ns)
theorem tE{H:Hp}{a:Addr}{ns:List Int}{g:List Sl->Res R}{as:List Sl}(m:cR K H a (ns.map V.int))(hr:g [.val false (.lst (ns.map D.int))]=.ok (.val (.bl true)) as):wU K 1 g [.ref a] H (λv _=>v=.bl true) λ_ _ _=>False:=by
 refine⟨rfl,H,_,_,as,⟨.refl _,rfl,λi b d e=>?_,λi s ds e k=>?_,λi j c h=>?_⟩,hr,λv n o p s f=>?_⟩;.match i,e with|0,e=>cases e;refine⟨.ref a,rfl,?_⟩;rw[Rep];exact⟨a,_,rfl,m,lU ns⟩|i+1,e=>simp at e
 .match i,e with|0,e=>cases e;cases k|i+1,e=>simp at e
 .obtain⟨⟨s,ds,e,k⟩,_⟩:=h;match i,e with|0,e=>cases e;cases k|i+1,e=>simp at e
 .have f:Rep K n v (.bl true):=f;rw[Rep]at f;exact f
end
end HH
end
section
namespace HH
open PySem
variable{n:Nat}{c:Call}{ρ:List Sl}{is:List Nat}{ds:List D}
def Res.sat{b:Type}(Q:b->List Sl->Prop)(x:Res b):Prop:=match x with|.ok a ρ=>Q a ρ|.exc _ _=>False|.stuck=>False
section
variable{α β:Type}{Q Q':α->List Sl->Prop}
@[simp]theorem Ef{a:α}{ρ:List Sl}:(Res.ok a ρ).sat Q=Q a ρ:=rfl
@[simp]theorem KJ{k:Nat}{ρ:List Sl}:(Res.exc k ρ:Res α).sat Q=False:=rfl
@[simp]theorem Fg:(Res.stuck:Res α).sat Q=False:=rfl
theorem bz{x:Res β}{f:β->List Sl->Res α}:(x.bind f).sat Q=x.sat λa ρ=>(f a ρ).sat Q:=by cases x<;>rfl
@[simp]theorem Lq{p:Prop}[Decidable p]{x y:Res α}:(if p then x else y).sat Q=((p->x.sat Q)/\(¬ p->y.sat Q)):=by by_cases h:p<;>simp[h]
@[simp]theorem wW{a:α}{ρ:List Sl}:(lift (some a) ρ).sat Q=Q a ρ:=rfl
@[simp]theorem wR{ρ:List Sl}:(lift (none:Option α) ρ).sat Q=False:=rfl
@[simp]theorem xV{p:Prop}[Decidable p]{a:α}{ρ:List Sl}:(lift (if p then some a else none) ρ).sat Q=(p/\Q a ρ):=by by_cases h:p<;>simp[h]
theorem Res.sat.imp{x:Res α}(h:x.sat Q)(k:∀a ρ,Q a ρ->Q' a ρ):x.sat Q':=by cases x with|ok a ρ=>exact k a ρ h|exc _ _=>exact h|stuck=>exact h
theorem sat_iff{x:Res α}:x.sat Q↔∃a ρ,x=.ok a ρ/\Q a ρ:=by cases x with|ok a ρ=>exact⟨λh=>⟨a,ρ,rfl,h⟩,λ⟨_,_,e,h⟩=>by cases e;exact h⟩|exc _ _=>exact⟨λh=>h.elim,λ⟨_,_,e,_⟩=>by cases e⟩|stuck=>exact⟨λh=>h.elim,λ⟨_,_,e,_⟩=>by cases e⟩
end
noncomputable def fr:Sl->Bool|.aU=>true|.val b _=>!b|.own b _=>!b|.lent _=>false|.m8 _=>false|.m9 _=>false|.hold _=>false
@[simp]theorem Ov:fr .aU=true:=rfl
@[simp]theorem O7{b:Bool}{d:D}:fr (.val b d)=!b:=rfl
@[simp]theorem PJ{b:Bool}{d:List D}:fr (.own b d)=!b:=rfl
@[simp]theorem LR{d:List D}:fr (.lent d)=false:=rfl
theorem Bh(ρ:List Sl)(i:Nat)(s:Sl):put ρ i s=match ρ[i]?with|some t=>if fr t=true then some (ρ.set i s)else none|none=>none:=by unfold put;cases h:ρ[i]?with|none=>rfl|some t=>cases t with|aU=>rfl|val b d=>cases b<;>rfl|own b d=>cases b<;>rfl|lent d=>rfl|m8 m=>rfl|m9 m=>rfl|hold m=>rfl
theorem wD{Γ:Tab}{w i:Nat}{d:Fd}{args:List Sl}(h:Γ i=some d):run Γ w (n+1) i args=enter (run Γ w n) w d args:=by rw[run,h]
noncomputable def fin(np:Nat):Fl->List Sl->Option (R×List Sl)|.next,ρ=>some (.val .non,ρ.take np)|.ret r,ρ=>some (r,ρ.take np)|_,_=>none
def eQ(np:Nat)(Q:R->List Sl->Prop)(a:Fl)(ρ:List Sl):Prop:=match a with|.next=>Q (.val .non) (ρ.take np)|.ret r=>Q r (ρ.take np)|_=>False
def sQ(c:Call)(n:Nat)(r:List S)(Q:Fl->List Sl->Prop)(fl:Fl)(ρ:List Sl):Prop:=match fl with|.next=>(eZ c n r ρ).sat Q|fl=>Q fl ρ
def fQ(J:List Sl->Prop)(Q:Fl->List Sl->Prop)(a:Fl)(ρ:List Sl):Prop:=match a with|.next=>J ρ|.cont=>J ρ|.brk=>Q .next ρ|.ret v=>Q (.ret v) ρ
section
variable{np:Nat}{Q:R->List Sl->Prop}{ρ:List Sl}{v:R}{c:Call}{n:Nat}{r:List S}{Q':Fl->List Sl->Prop}{J:List Sl->Prop}
@[simp]theorem Lz:eQ np Q .next ρ=Q (.val .non) (ρ.take np):=rfl
@[simp]theorem Px:eQ np Q (.ret v) ρ=Q v (ρ.take np):=rfl
@[simp]theorem Ol:eQ np Q .brk ρ=False:=rfl
@[simp]theorem Le:eQ np Q .cont ρ=False:=rfl
@[simp]theorem Mh:sQ c n r Q' .next ρ=(eZ c n r ρ).sat Q':=rfl
@[simp]theorem Od:sQ c n r Q' (.ret v) ρ=Q' (.ret v) ρ:=rfl
@[simp]theorem O6:sQ c n r Q' .brk ρ=Q' .brk ρ:=rfl
@[simp]theorem Ls:sQ c n r Q' .cont ρ=Q' .cont ρ:=rfl
@[simp]theorem Kw:fQ J Q' .next ρ=J ρ:=rfl
@[simp]theorem Lb:fQ J Q' .cont ρ=J ρ:=rfl
@[simp]theorem Qi:fQ J Q' .brk ρ=Q' .next ρ:=rfl
@[simp]theorem O4:fQ J Q' (.ret v) ρ=Q' (.ret v) ρ:=rfl
end
theorem tO{d:Fd}{args:List Sl}{Q:R->List Sl->Prop}(a:args.length=d.np)(hd:d.np<=d.nn)(h:(eZ c n d.body (args++replicate (d.nn-d.np) .aU)).sat (eQ d.np Q)):(enter c n d args).sat Q:=by unfold enter;rw[if_pos ⟨a,hd⟩];revert h;cases eZ c n d.body (args++replicate (d.nn-d.np) .aU)with|stuck=>exact λh=>False.elim h|exc _ _=>exact λh=>False.elim h|ok b ρ=>cases b<;>first|exact id|exact λh=>False.elim h
theorem bL{Γ:Tab}{w i:Nat}{d:Fd}{args:List Sl}{Q:R->List Sl->Prop}(a:Γ i=some d)(b:args.length=d.np)(hd:d.np<=d.nn)(h:(eZ (run Γ w n) w d.body (args++replicate (d.nn-d.np) .aU)).sat (eQ d.np Q)):(run Γ w (n+1) i args).sat Q:=by rw[wD a];exact tO b hd h
theorem ak{s:S}{r:List S}{Q:Fl->List Sl->Prop}(h:(ex c n s ρ).sat (sQ c n r Q)):(eZ c n (s::r) ρ).sat Q:=by rw[KH,bz];refine h.imp λa b q=>?_;cases a<;>exact q
theorem sV{s:S}{r:List S}{Q:Fl->List Sl->Prop}(h:(ex c n s ρ).sat (sQ c n r Q)):sQ c n (s::r) Q .next ρ:=ak h
@[simp]theorem Ld{c:Call}{n:Nat}{ρ:List Sl}{Q:Fl->List Sl->Prop}:(eZ c n [] ρ).sat Q=Q .next ρ:=by rw[xs0];rfl
theorem ju{s:S}{r:List S}{Q:Fl->List Sl->Prop}(M:List Sl->Prop)(h:(ex c n s ρ).sat λb a=>b=.next/\M a)(k:∀a,M a->(eZ c n r a).sat Q):(eZ c n (s::r) ρ).sat Q:=ak (h.imp λb a⟨e,q⟩=>by subst e;exact k a q)
theorem cB{is:List Nat}{one:Bool}{body:List Sl->Res Fl}(J:List D->List Sl->Prop){Q:Fl->List Sl->Prop}(b:∀d r ρ,J (d::r) ρ->∃a,bU ρ is one d=some a/\(body a).sat (fQ (J r) Q))(f:∀ρ,J [] ρ->Q .next ρ):∀{ds:List D}{ρ:List Sl},J ds ρ->(gY is one body ds ρ).sat Q|[],ρ,j=>f ρ j|d::r,ρ,j=>by obtain⟨a,e,h⟩:=b d r ρ j;rw[vq,e];show((body a).bind _).sat Q;rw[bz];refine h.imp λg ρ2 q=>?_;cases g with|next=>exact cB J b f q|cont=>exact cB J b f q|brk=>exact q|ret v=>exact q
theorem gA{is:List Nat}{one:Bool}{a:List Sl->Res Bool}{p:Ev}(J:List Sl->Prop)(g:D->Option D){Q:List D->List Sl->Prop}:∀{ds f:List D}{ρ:List Sl},J ρ->(∀ d,d ∈ ds->∀ ρ,J ρ->∃ i,bU ρ is one d=some i/\(a i).sat λb ρ2=>if b=true then(p ρ2).sat λr s=>g d=some r.d/\J s else g d=none/\J ρ2)->(∀ ρ,J ρ->Q (f++ds.filterMap g) ρ)->(turns is one a p ds f ρ).sat Q|[],f,ρ,j,h,k=>by rw[vH];simpa using k ρ j|d::r,f,ρ,j,h,k=>by obtain⟨i,e,h1⟩:=h d (by simp) ρ j;rw[uB,e];show((a i).bind _).sat Q;rw[bz];refine h1.imp λb ρ2 q=>?_;cases b with|true=>rw[if_pos rfl]at q;rw[if_pos rfl,bz];refine q.imp λx s⟨u,j3⟩=>?_;refine gA J g j3 (λd' m=>h d' (by simp[m])) λo t=>?_;have:=k o t;rw[filterMap_cons,u]at this;rw[List.append_assoc];exact this|false=>rw[if_neg (by simp)]at q;rw[if_neg (by simp)];refine gA J g q.2 (λd' m=>h d' (by simp[m])) λo t=>?_;have:=k o t;rw[filterMap_cons,q.1]at this;exact this
theorem p6{one:Bool}{b:Ev}(J:List Sl->Prop)(g:D->D){Q:List D->List Sl->Prop}(j:J ρ)(h:∀d,d∈ds->∀ρ,J ρ->∃a,bU ρ is one d=some a/\(b a).sat λr f=>g d=r.d/\J f)(k:∀ρ,J ρ->Q (ds.map g) ρ):(turns is one (qL c none) b ds [] ρ).sat Q:=gA J (λd=>some (g d)) j (λd hd ρ j=>by obtain⟨a,e,h1⟩:=h d hd ρ j;refine⟨a,e,?_⟩;rw[qL,Ef,if_pos rfl];exact h1.imp λr f q=>⟨by rw[q.1],q.2⟩) λρ j=>by simpa using k ρ j
section
variable{ρ l:List Sl}{a:Sl}{i j:Int}{k m:Nat}{b b':Bool}{s:Str}{d:D}{ds es:List D}{e f:Ev}{x:Option Sl}{c:Call}
@[simp]theorem Df:bj .int .non=false:=rfl
@[simp]theorem Gr:bj .int (.bl b)=true:=rfl
@[simp]theorem Dl:bj .int (.int i)=true:=rfl
@[simp]theorem Bd:bj .int (.str s)=false:=rfl
@[simp]theorem Bu:bj .int (.tup ds)=false:=rfl
@[simp]theorem Ca:bj .int (.lst ds)=false:=rfl
@[simp]theorem Af:bj .bool .non=false:=rfl
@[simp]theorem CV:bj .bool (.bl b)=true:=rfl
@[simp]theorem zm:bj .bool (.int i)=false:=rfl
@[simp]theorem zj:bj .bool (.str s)=false:=rfl
@[simp]theorem zL:bj .bool (.tup ds)=false:=rfl
@[simp]theorem zN:bj .bool (.lst ds)=false:=rfl
@[simp]theorem Bc:bj .str .non=false:=rfl
@[simp]theorem GX:bj .str (.bl b)=false:=rfl
@[simp]theorem Br:bj .str (.int i)=false:=rfl
@[simp]theorem Dm:bj .str (.str s)=true:=rfl
@[simp]theorem Em:bj .str (.tup ds)=false:=rfl
@[simp]theorem Ds:bj .str (.lst ds)=false:=rfl
@[simp]theorem yM:bj .tuple .non=false:=rfl
@[simp]theorem zG:bj .tuple (.bl b)=false:=rfl
@[simp]theorem yK:bj .tuple (.int i)=false:=rfl
@[simp]theorem xQ:bj .tuple (.str s)=false:=rfl
@[simp]theorem xP:bj .tuple (.tup ds)=true:=rfl
@[simp]theorem yD:bj .tuple (.lst ds)=false:=rfl
@[simp]theorem Ab:bj .list .non=false:=rfl
@[simp]theorem DY:bj .list (.bl b)=false:=rfl
@[simp]theorem zV:bj .list (.int i)=false:=rfl
@[simp]theorem zg:bj .list (.str s)=false:=rfl
@[simp]theorem Ad:bj .list (.tup ds)=false:=rfl
@[simp]theorem zZ:bj .list (.lst ds)=true:=rfl
@[simp]theorem zf:bj .none .non=true:=rfl
@[simp]theorem Bv:bj .none (.bl b)=false:=rfl
@[simp]theorem zH:bj .none (.int i)=false:=rfl
@[simp]theorem zu:bj .none (.str s)=false:=rfl
@[simp]theorem zP:bj .none (.tup ds)=false:=rfl
@[simp]theorem zF:bj .none (.lst ds)=false:=rfl
@[simp]theorem Gq:fP .non=true:=rfl
@[simp]theorem Jm:fP (.bl b)=false:=rfl
@[simp]theorem Gz:fP (.int i)=false:=rfl
@[simp]theorem Fw:fP (.str s)=false:=rfl
@[simp]theorem Gv:fP (.tup ds)=false:=rfl
@[simp]theorem Gy:fP (.lst ds)=false:=rfl
@[simp]theorem Iv:flat .non=true:=rfl
@[simp]theorem Ln:flat (.bl b)=true:=rfl
@[simp]theorem Hu:flat (.int i)=true:=rfl
@[simp]theorem Jq:flat (.str s)=true:=rfl
@[simp]theorem JG:flat (.tup ds)=false:=rfl
@[simp]theorem Jw:flat (.lst ds)=false:=rfl
@[simp]theorem Ni:(R.val d).d=d:=rfl
@[simp]theorem NZ:(R.own ds).d=.lst ds:=rfl
@[simp]theorem JT:oZ (.val d)=.val false d:=rfl
@[simp]theorem J4:oZ (.own ds)=.own false ds:=rfl
@[simp]theorem G8:lH (.val d)=.dat d:=rfl
@[simp]theorem Fj:lH (.own ds)=.tmp ds:=rfl
@[simp]theorem Lw:kW (.int i)=some i:=rfl
@[simp]theorem M8:oF (.bl b)=some b:=rfl
@[simp]theorem Gf:items (.lst ds)=some ds:=rfl
@[simp]theorem Gm:items (.tup ds)=some ds:=rfl
@[simp]theorem Ec:Ck (.tup ds)=some ds:=rfl
@[simp]theorem Bx:o4 (.lst ds)=some ds:=rfl
@[simp]theorem KQ:ni .add=km:=rfl
@[simp]theorem Kv:ni .sub=nJ:=rfl
@[simp]theorem Lr:ni .mul=jA:=rfl
@[simp]theorem Hs:ni .fdiv=jE:=rfl
@[simp]theorem K4:ni .mod=oG:=rfl
@[simp]theorem Ml:ni .pow=nq:=rfl
@[simp]theorem GJ:km (.int i) (.int j)=some (.val (.int (i+j))):=rfl
@[simp]theorem Fy:km (.lst ds) (.lst es)=if ds.length+es.length<=lim then some (.own (ds++es))else none:=rfl
@[simp]theorem Hc:km (.tup ds) (.tup es)=if ds.length+es.length<=lim then some (.val (.tup (ds++es)))else none:=rfl
@[simp]theorem FW:nJ (.int i) (.int j)=some (.val (.int (i-j))):=rfl
@[simp]theorem FJ:jA (.int i) (.int j)=if((-18446744073709551616<i/\i<18446744073709551616)\/(-18446744073709551616<j/\j<18446744073709551616))then some (.val (.int (i*j)))else none:=rfl
@[simp]theorem Ej:jE (.int i) (.int j)=if 0<j/\j<1606938044258990275541962092341162602522202993782792835301376 then some (.val (.int (i/j)))else none:=rfl
@[simp]theorem Gk:oG (.int i) (.int j)=if 0<j then some (.val (.int (i%j)))else none:=rfl
@[simp]theorem Gn:nq (.int i) (.int j)=if 0<=j/\j<=1000/\i.natAbs<18446744073709551616 then some (.val (.int (i^j.toNat)))else none:=rfl
@[simp]theorem LQ:xm (.lst ds) (.int i)=(at' ds i).map .val:=rfl
@[simp]theorem KC:xm (.tup ds) (.int i)=(at' ds i).map .val:=rfl
@[simp]theorem Im:Ed (.int i)=some (.val (.int (-i))):=rfl
@[simp]theorem Fx:cm .eq (.int i) (.int j)=some (i==j):=rfl
@[simp]theorem GQ:cm .ne (.int i) (.int j)=some (!(i==j)):=rfl
@[simp]theorem JV:cm .eq (.bl b) (.bl b')=some (b==b'):=rfl
@[simp]theorem Iw:cm .ne (.bl b) (.bl b')=some (!(b==b')):=rfl
@[simp]theorem GF:cm .lt (.int i) (.int j)=some (decide (i<j)):=rfl
@[simp]theorem FP:cm .le (.int i) (.int j)=some (decide (i<=j)):=rfl
@[simp]theorem Gg:cm .gt (.int i) (.int j)=some (decide (j<i)):=rfl
@[simp]theorem FZ:cm .ge (.int i) (.int j)=some (decide (j<=i)):=rfl
@[simp]theorem Ox:cm .J8 d .non=some (fP d):=rfl
@[simp]theorem Ky:cm .J9 d .non=some (!fP d):=rfl
@[simp]theorem zE:blt .len [.lst ds]=some (.val (.int ds.length)):=rfl
@[simp]theorem zM:blt .len [.tup ds]=some (.val (.int ds.length)):=rfl
@[simp]theorem yr:blt .list [.lst ds]=some (.own ds):=rfl
@[simp]theorem xM:blt .list [.tup ds]=some (.own ds):=rfl
@[simp]theorem wY:blt .tuple [.lst ds]=some (.val (.tup ds)):=rfl
@[simp]theorem wQ:blt .tuple [.tup ds]=some (.val (.tup ds)):=rfl
@[simp]theorem Jj:blt .min2 [.int i,.int j]=some (.val (.int (if j<i then j else i))):=rfl
@[simp]theorem La:blt .all [.lst ds]=(ds.mapM oF).map λbs=>.val (.bl (bs.all id)):=rfl
@[simp]theorem Gu:isVar (.var k)=some k:=rfl
@[simp]theorem K9:pk (a::l) k=match(a::l)[k]?with|some (.val _ d)=>some d|some (.own _ ds)=>some (.lst ds)|some (.lent ds)=>some (.lst ds)|_=>none:=rfl
@[simp]theorem Jo:JW (a::l) k=match pk (a::l) k with|some (.lst ds)=>some ds|_=>none:=rfl
@[simp]theorem Jx:dY (some k) e ρ=lift (pk ρ k) ρ:=rfl
@[simp]theorem HJ:dY none e ρ=(e ρ).bind λr ρ=>.ok r.d ρ:=rfl
@[simp]theorem GC{y:Option Nat}:fH (some k) e y f ρ=(lift (pk ρ k) ρ).bind λ_ ρ=>(dY y f ρ).bind λy ρ=>(lift (pk ρ k) ρ).bind λx ρ=>.ok (x,y) ρ:=rfl
@[simp]theorem Fp{y:Option Nat}:fH none e y f ρ=(dY none e ρ).bind λx ρ=>(dY y f ρ).bind λy ρ=>.ok (x,y) ρ:=rfl
@[simp]theorem G6{es:List D}:cG (.own b ds) (some (.own b' es))=.own b es:=rfl
@[simp]theorem Gh:cG (.own b ds) (some (.val b' d))=.val b d:=rfl
@[simp]theorem wu:cG a none=a:=by cases a<;>rfl
@[simp]theorem tR:cG (.val b d) x=.val b d:=by cases x<;>rfl
@[simp]theorem Fv:cG .aU x=.aU:=by cases x<;>rfl
@[simp]theorem pG:cG (.lent ds) x=.lent ds:=by cases x<;>rfl
@[simp]theorem Jh:bU ρ [k] true d=put ρ k (.val false d):=rfl
@[simp]theorem FN{is:List Nat}:bU ρ is false (.tup ds)=putAll ρ is ds:=by cases is<;>rfl
@[simp]theorem CZ:srcOf none e ρ=(e ρ).bind λr ρ=>lift (items r.d) ρ:=rfl
@[simp]theorem Cg:srcOf (some k) e (a::l)=match(a::l)[k]?with|some (.val _ d)=>lift (items d) (a::l)|some (.own _ ds)=>.ok ds ((a::l).set k (.lent ds))|some (.lent ds)=>.ok ds (a::l)|_=>.stuck:=rfl
@[simp]theorem zQ{g:List Sl}:aW g none ρ=ρ:=rfl
@[simp]theorem zq:aW (a::l) (some k) ρ=match(a::l)[k]?with|some (.own b ds)=>ρ.set k (.own b ds)|_=>ρ:=rfl
@[simp]theorem Ja{s:Sl}:put (a::l) k s=match(a::l)[k]?with|some t=>if fr t=true then some ((a::l).set k s)else none|none=>none:=Bh ..
@[simp]theorem BV:putAll ρ [] []=some ρ:=rfl
@[simp]theorem zX{is:List Nat}:putAll ρ (k::is) (d::ds)=(put ρ k (.val false d)).bind λρ=>putAll ρ is ds:=rfl
end
@[simp]theorem Ia{a:Type}{b:a}{l:List a}:at' (b::l) 0=some b:=by unfold at' je;rw[if_pos (by decide),if_pos (by simp only[length_cons];omega)];rfl
@[simp]theorem Jp{a:Type}{e b:a}{l:List a}:at' (e::b::l) 1=some b:=by unfold at' je;rw[if_pos (by decide),if_pos (by simp only[length_cons];omega)];rfl
@[simp]theorem JB{a:Type}{e f b:a}{l:List a}:at' (e::f::b::l) 2=some b:=by unfold at' je;rw[if_pos (by decide),if_pos (by simp only[length_cons];omega)];rfl
@[simp]theorem Om{a:Type}{e f g b:a}{l:List a}:at' (e::f::g::b::l) 3=some b:=by unfold at' je;rw[if_pos (by decide),if_pos (by simp only[length_cons];omega)];rfl
@[simp]theorem Oq{a:Type}{e f g h b:a}{l:List a}:at' (e::f::g::h::b::l) 4=some b:=by unfold at' je;rw[if_pos (by decide),if_pos (by simp only[length_cons];omega)];rfl
@[simp]theorem Nq{a:Type}{e f g h i b:a}{l:List a}:at' (e::f::g::h::i::b::l) 5=some b:=by unfold at' je;rw[if_pos (by decide),if_pos (by simp only[length_cons];omega)];rfl
@[simp]theorem at_6{a:Type}{e f g h i j b:a}{l:List a}:at' (e::f::g::h::i::j::b::l) 6=some b:=by unfold at' je;rw[if_pos (by decide),if_pos (by simp only[length_cons];omega)];rfl
@[simp]theorem at_7{a:Type}{e f g h i j k b:a}{l:List a}:at' (e::f::g::h::i::j::k::b::l) 7=some b:=by unfold at' je;rw[if_pos (by decide),if_pos (by simp only[length_cons];omega)];rfl
theorem uC{a:Type}{l:List a}{i:Int}(h:0<=i)(h':i<l.length):at' l i=l[i.toNat]?:=by unfold at' je;rw[if_pos h,if_pos h'];rfl
theorem v9{a:Type}{l:List a}{k:Nat}(h':k<l.length):at' l (k:Int)=l[k]?:=by rw[uC (by omega) (by omega)];simp
@[simp]theorem Ft{d:D}:isVar (.con d)=none:=rfl
@[simp]theorem DW{x:Str}{d:D}:isVar (.glob x d)=none:=rfl
@[simp]theorem GK{o:Op}{p q:P}:isVar (.bin o p q)=none:=rfl
@[simp]theorem GZ{p:P}:isVar (.neg p)=none:=rfl
@[simp]theorem GD{p:P}:isVar (.not p)=none:=rfl
@[simp]theorem Gj{p q:P}:isVar (.and p q)=none:=rfl
@[simp]theorem Hx{p q:P}:isVar (.or p q)=none:=rfl
@[simp]theorem Gd{o:Cm}{p q:P}:isVar (.cmp o p q)=none:=rfl
@[simp]theorem zx{o a:Cm}{p q r:P}:isVar (.chain o a p q r)=none:=rfl
@[simp]theorem Ge{p q r:P}:isVar (.Qx p q r)=none:=rfl
@[simp]theorem GR{as:List P}:isVar (.tup as)=none:=rfl
@[simp]theorem Fe{as:List P}:isVar (.lst as)=none:=rfl
@[simp]theorem Gs{p q:P}:isVar (.idx p q)=none:=rfl
@[simp]theorem Ag{p q r:P}:isVar (.slice p q r)=none:=rfl
@[simp]theorem Ek{f:Nat}{as:List P}:isVar (.call f as)=none:=rfl
@[simp]theorem Hd{b:Lg}{as:List P}:isVar (.blt b as)=none:=rfl
@[simp]theorem Bk{a:List Ty}{p:P}:isVar (.inst a p)=none:=rfl
@[simp]theorem Bp{p e:P}{n:Nat}{is:List Nat}{one:Bool}{t:Option P}:isVar (.comp p n is one t e)=none:=rfl
@[simp]theorem GP{p q:P}:isVar (.wH p q)=none:=rfl
@[simp]theorem Gx{p:P}:isVar (.Hg p)=none:=rfl
@[simp]theorem G7{p q:P}:isVar (.zip p q)=none:=rfl
noncomputable def jc(c:Call)(is:List Nat)(one:Bool)(a:Option P)(b:P)(ds:List D)(ρ:List Sl):Res (List D):=turns is one (qL c a) (ev c b) ds [] ρ
@[simp]theorem Mj{c:Call}{src f:P}{n:Nat}{is:List Nat}{one:Bool}{b:Option P}{ρ:List Sl}:ev c (.comp src n is one b f) ρ=(srcOf (isVar src) (ev c src) ρ).bind λds a=>if ds.length<=lim then(jc c is one b f ds (a++replicate n .aU)).bind λxs e=>.ok (.own xs) (aW ρ (isVar src) (e.take a.length))else .stuck:=(rfl)
noncomputable def xU(c:Call)(n:Nat)(t:P)(body:List S)(k:Nat)(ρ:List Sl):Res Fl:=pC (fK (ev c t)) (eZ c n body) k ρ
theorem mH{b e h:Type}{x:Res e}{f:e->List Sl->Res b}{g:b->List Sl->Res h}:(x.bind f).bind g=x.bind λa ρ=>(f a ρ).bind g:=by cases x<;>rfl
@[simp]theorem Nt{Γ:Tab}{w n i:Nat}{args:List Sl}{b:Type}{f:R->List Sl->Res b}{Q:b->List Sl->Prop}:((run Γ w n i args).bind f).sat Q=(run Γ w n i args).sat λa ρ=>(f a ρ).sat Q:=bz
@[simp]theorem Pn{Γ:Tab}{w n i:Nat}{args:List Sl}{b e:Type}{f:R->List Sl->Res b}{g:b->List Sl->Res e}:((run Γ w n i args).bind f).bind g=(run Γ w n i args).bind λa ρ=>(f a ρ).bind g:=mH
@[simp]theorem KR{c:Call}{is:List Nat}{one:Bool}{b:Option P}{e:P}{ds:List D}{ρ:List Sl}{g:Type}{f:List D->List Sl->Res g}{Q:g->List Sl->Prop}:((jc c is one b e ds ρ).bind f).sat Q=(jc c is one b e ds ρ).sat λa ρ=>(f a ρ).sat Q:=bz
@[simp]theorem KD{c:Call}{is:List Nat}{one:Bool}{b:Option P}{e:P}{ds:List D}{ρ:List Sl}{h i:Type}{f:List D->List Sl->Res h}{g:h->List Sl->Res i}:((jc c is one b e ds ρ).bind f).bind g=(jc c is one b e ds ρ).bind λa ρ=>(f a ρ).bind g:=mH
@[simp]theorem Qa{is:List Nat}{one:Bool}{b:List Sl->Res Fl}{ds:List D}{ρ:List Sl}{e:Type}{f:Fl->List Sl->Res e}{Q:e->List Sl->Prop}:((gY is one b ds ρ).bind f).sat Q=(gY is one b ds ρ).sat λa ρ=>(f a ρ).sat Q:=bz
@[simp]theorem K7{b e:Type}{p:Prop}[Decidable p]{a:e}{ρ:List Sl}{f:e->List Sl->Res b}{Q:b->List Sl->Prop}:((lift (if p then some a else none) ρ).bind f).sat Q=(p/\(f a ρ).sat Q):=by by_cases h:p<;>simp[h,lift,Res.bind]
@[simp]theorem KN{b e h:Type}{p:Prop}[Decidable p]{a:e}{ρ:List Sl}{f:e->List Sl->Res b}{g:b->List Sl->Res h}:((lift (if p then some a else none) ρ).bind f).bind g=(lift (if p then some a else none) ρ).bind λa ρ=>(f a ρ).bind g:=mH
@[simp]theorem bb_ite{b a:Type}{p:Prop}[Decidable p]{x y:Res a}{f:a->List Sl->Res b}:(if p then x else y).bind f=if p then x.bind f else y.bind f:=by by_cases h:p<;>simp[h]
@[simp]theorem PX{c:Call}{n k:Nat}{t:P}{b:List S}{ρ:List Sl}{e:Type}{f:Fl->List Sl->Res e}{Q:e->List Sl->Prop}:((xU c n t b k ρ).bind f).sat Q=(xU c n t b k ρ).sat λa ρ=>(f a ρ).sat Q:=bz
@[simp]theorem PL{b e:Type}{a:b}{ρ:List Sl}{f:b->List Sl->Res e}:(Res.ok a ρ).bind f=f a ρ:=rfl
@[simp]theorem G3{a b:Type}{f:a->List Sl->Res b}:(Res.stuck:Res a).bind f=.stuck:=rfl
@[simp]theorem JZ{b:Type}{a:b}{ρ:List Sl}:lift (some a) ρ=.ok a ρ:=rfl
@[simp]theorem J1{a:Type}{ρ:List Sl}:lift (none:Option a) ρ=.stuck:=rfl
noncomputable def ud:List Sl->Nat->Sl->List Sl|[],_,_=>[]|t::ρ,0,s=>cG t (some s)::ρ|t::ρ,k+1,s=>t::ud ρ k s
theorem jV{k:Nat}{s:Sl}:ud [] k s=[]:=rfl
theorem jG{t:Sl}{ρ:List Sl}{s:Sl}:ud (t::ρ) 0 s=cG t (some s)::ρ:=rfl
theorem j7{t:Sl}{ρ:List Sl}{k:Nat}{s:Sl}:ud (t::ρ) (k+1) s=t::ud ρ k s:=rfl
noncomputable def bk:List Arg->List Sl->List Sl->List Sl|.cM k::as,s::ss,ρ=>bk as ss (ud ρ k s)|.dat _::as,_::ss,ρ=>bk as ss ρ|.tmp _::as,_::ss,ρ=>bk as ss ρ|_,_,ρ=>ρ
section
variable{t s:Sl}{ρ ss:List Sl}{k:Nat}{as:List Arg}{d:D}{ds:List D}
@[simp]theorem Q6:ud (t::ρ) 0 s=cG t (some s)::ρ:=rfl
@[simp]theorem Q3:ud (t::ρ) (k+1) s=t::ud ρ k s:=rfl
@[simp]theorem Ba:bk (.cM k::as) (s::ss) ρ=bk as ss (ud ρ k s):=rfl
@[simp]theorem Az:bk (.dat d::as) (s::ss) ρ=bk as ss ρ:=rfl
@[simp]theorem Eb:bk (.tmp ds::as) (s::ss) ρ=bk as ss ρ:=rfl
@[simp]theorem Oa:bk [] ss ρ=ρ:=rfl
end
theorem pU{s:Sl}:∀{ρ:List Sl}{k j:Nat},(ud ρ k s)[j]?=(ρ[j]?).map λt=>if j=k then cG t (some s)else t|[],_,_=>by simp[jV,jG,j7]|t::ρ,0,0=>by simp[jV,jG,j7]|t::ρ,0,j+1=>by simp[jV,jG,j7]|t::ρ,k+1,0=>by simp[jV,jG,j7]|t::ρ,k+1,j+1=>by have:=pU (s:=s) (ρ:=ρ) (k:=k) (j:=j);simp only[jV,jG,j7,List.getElem?_cons_succ,this];congr 1;funext t;simp
theorem n6{as:List Arg}{ss:List Sl}:∀{ρ:List Sl}{i j:Nat},(cA as ss i ρ)[j]?=(ρ[j]?).map λt=>cG t (aG (i+j) as ss)|[],_,_=>by simp[jK,gR]|t::ρ,i,0=>by simp[jK,gR]|t::ρ,i,j+1=>by have:=n6 (as:=as) (ss:=ss) (ρ:=ρ) (i:=i+1) (j:=j);simp only[jK,gR,List.getElem?_cons_succ,this];rw[show i+1+j=i+(j+1)by omega]
def Q7(t:Sl):Prop:=∀x,cG t x=t
def Dp(ρ:List Sl):List Arg->Prop|[]=>True|.cM k::as=>(Arg.cM k∈as->∀t,ρ[k]?=some t->Q7 t)/\Dp ρ as|_::as=>Dp ρ as
theorem jl{ρ:List Sl}:∀{as:List Arg}{a:List Sl},Dp ρ as->(∀k,Arg.cM k∈as->∀t,a[k]?=some t->ρ[k]?=some t\/Q7 t)->Dp a as
 |[],_,_,_=>trivial|.cM k::as,a,h,g=>⟨λf t i=>by
  rcases g k (by simp) t i with e|e;.exact h.1 f t e
  .exact e,jl h.2 λj b=>g j (by simp[b])⟩|.dat _::as,a,h,g=>jl (as:=as) h λj b=>g j (by simp[b])|.tmp _::as,a,h,g=>jl (as:=as) h λj b=>g j (by simp[b])
theorem iB{k:Nat}:∀{as:List Arg}{ss:List Sl},Arg.cM k∉as->aG k as ss=none|[],_,_=>by unfold aG;rfl|.cM j::as,[],_=>rfl|.dat _::as,[],_=>rfl|.tmp _::as,[],_=>rfl|.cM j::as,s::ss,h=>by simp only[mem_cons,Arg.cM.injEq,not_or]at h;rw[aG,if_neg (λe=>h.1 e.symm),iB h.2]|.dat _::as,s::ss,h=>by simp only[mem_cons,not_or]at h;rw[aG,iB h.2]|.tmp _::as,s::ss,h=>by simp only[mem_cons,not_or]at h;rw[aG,iB h.2]
theorem rT:∀{as:List Arg}{ss ρ:List Sl},Dp ρ as->∀j,(bk as ss ρ)[j]?=(ρ[j]?).map λt=>cG t (aG j as ss)
 |[],ss,ρ,_,j=>by cases ss<;>simp[aG]|.cM k::as,[],ρ,_,j=>by rw[show bk (.cM k::as) [] ρ=ρ from rfl];simp[aG]|.dat d::as,[],ρ,_,j=>by rw[show bk (.dat d::as) [] ρ=ρ from rfl];simp[aG]|.tmp d::as,[],ρ,_,j=>by rw[show bk (.tmp d::as) [] ρ=ρ from rfl];simp[aG]|.dat _::as,s::ss,ρ,h,j=>by rw[Az,aG];exact rT (as:=as) h j|.tmp _::as,s::ss,ρ,h,j=>by rw[Eb,aG];exact rT (as:=as) h j|.cM k::as,s::ss,ρ,h,j=>by
   have f:Dp (ud ρ k s) as:=jl h.2 λi g t a=>by rw[pU]at a;cases e:ρ[i]?with|none=>rw[e]at a;cases a|some t0=>
      rw[e]at a;by_cases c:i=k;.subst c;have hs:=h.1 g t0 e;simp[hs (some s)]at a;exact .inl (by rw[a])
      .simp[c]at a;exact .inl (by rw[a])
   rw[Ba,rT f j,pU,aG];cases e:ρ[j]?with|none=>rfl|some t0=>
     simp only[Option.map_some];by_cases c:j=k
     . subst c;rw[if_pos rfl,if_pos rfl];by_cases b:Arg.cM j∈as;.have hs:=h.1 b t0 e;rw[hs (some s),hs]
       .rw[iB b,wu]
     .rw[if_neg c,if_neg (λz=>c z.symm)]
theorem cV{ρ:List Sl}{k:Nat}{b:Bool}{ds:List D}(e:ρ[k]?=some (.own b ds)):∀{as:List Arg}{u:List Nat}{r:List Sl},k∈u->aY ρ as u=some r->Arg.cM k∉as
 |[],_,_,_,_=>by simp|.dat _::as,u,r,a,h=>by simp only[qi,oV,p8,jJ,map_eq_some_iff]at h;obtain⟨f,h,_⟩:=h;simp[cV e a h]|.tmp _::as,u,r,a,h=>by simp only[qi,oV,p8,jJ,map_eq_some_iff]at h;obtain⟨f,h,_⟩:=h;simp[cV e a h]|.cM i::as,u,r,a,h=>by
   rw[jJ]at h;have g:i≠k:=by rintro rfl;rw[e]at h;simp[a]at h
   have:Arg.cM k∉as:=by
    split at h;.obtain⟨f,h,_⟩:=map_eq_some_iff.mp h;exact cV e a h
    . split at h;.cases h
      .obtain⟨f,h,_⟩:=map_eq_some_iff.mp h;exact cV e (by simp[a]) h
    . split at h;.cases h
      .obtain⟨f,h,_⟩:=map_eq_some_iff.mp h;exact cV e (by simp[a]) h
    .cases h
   simp[this];exact λz=>g z.symm
theorem cW{ρ:List Sl}:∀{as:List Arg}{u:List Nat}{r:List Sl},aY ρ as u=some r->Dp ρ as
 |[],_,_,_=>trivial|.dat _::as,u,r,h=>by obtain⟨e,h,_⟩:=map_eq_some_iff.mp h;exact cW (as:=as) h|.tmp _::as,u,r,h=>by obtain⟨e,h,_⟩:=map_eq_some_iff.mp h;exact cW (as:=as) h|.cM i::as,u,r,h=>by
   rw[jJ]at h;split at h;.rename_i b d q;obtain⟨e,h,_⟩:=map_eq_some_iff.mp h;exact⟨λ_ t a=>by rw[q]at a;cases a;exact λx=>tR,cW h⟩
   . rename_i b ds q;split at h;.cases h
     .obtain⟨e,h,_⟩:=map_eq_some_iff.mp h;exact⟨λf=>absurd f (cV q (by simp) h),cW h⟩
   . rename_i ds q;split at h;.cases h
     .obtain⟨e,h,_⟩:=map_eq_some_iff.mp h;exact⟨λ_ t a=>by rw[q]at a;cases a;exact λx=>pG,cW h⟩
   .cases h
theorem Hz{as:List Arg}{ss r:List Sl}{u:List Nat}(h:aY ρ as u=some r):cA as ss 0 ρ=bk as ss ρ:=by apply List.ext_getElem?;intro j;rw[n6,rT (cW h),Nat.zero_add]
@[simp]theorem Ff{c:Call}{k:Nat}{as:List Arg}{ρ:List Sl}:jT c k as ρ=match aY ρ as []with|none=>.stuck|some args=>(c k args).bind λr a=>.ok r (bk as a ρ):=by unfold jT;cases e:aY ρ as []with|none=>rfl|some args=>simp only[<-Hz (r:=args) e];cases c k args<;>rfl
theorem cJ{one:Bool}{a:P}(J:List Sl->Prop)(g:D->D){Q:List D->List Sl->Prop}(j:J ρ)(h:∀d,d∈ds->∀ρ,J ρ->∃b,bU ρ is one d=some b/\(ev c a b).sat λr e=>g d=r.d/\J e)(k:∀ρ,J ρ->Q (ds.map g) ρ):(jc c is one none a ds ρ).sat Q:=p6 J g j h k
theorem Gb{one:Bool}{f t:P}(J:List Sl->Prop)(g:D->Option D){Q:List D->List Sl->Prop}(j:J ρ)(h:∀d,d∈ds->∀ρ,J ρ->∃a,bU ρ is one d=some a/\(ev c t a).sat λr ρ2=>∃b,r.d=.bl b/\if b=true then(ev c f ρ2).sat λr i=>g d=some r.d/\J i else g d=none/\J ρ2)(k:∀ρ,J ρ->Q (ds.filterMap g) ρ):(jc c is one (some t) f ds ρ).sat Q:=gA J g j (λd hd ρ j=>by obtain⟨a,e,h1⟩:=h d hd ρ j;refine⟨a,e,?_⟩;rw[qL,fK,bz];refine h1.imp λr ρ2⟨b,e,q⟩=>?_;rw[e];exact q) λρ j=>by simpa using k ρ j
theorem nT{c:Call}{n:Nat}{t:P}{body:List S}(J:Nat->List Sl->Prop){Q:Fl->List Sl->Prop}(h:∀m ρ,J m ρ->(ev c t ρ).sat λr a=>∃b,r.d=.bl b/\if b=true then(eZ c n body a).sat (fQ (λρ2=>∃f,f<m/\J f ρ2) Q)else Q .next a):∀{k m:Nat}{ρ:List Sl},m<k->J m ρ->(xU c n t body k ρ).sat Q|0,m,ρ,g,_=>absurd g (Nat.not_lt_zero _)|k+1,m,ρ,g,j=>by unfold xU;rw[Dh,bz,fK,bz];refine(h m ρ j).imp λr a⟨b,e,q⟩=>?_;rw[e];show(if b=true then _ else _:Res Fl).sat Q;cases b with|false=>rw[if_neg (by simp)]at q;rw[if_neg (by simp)];exact q|true=>rw[if_pos rfl]at q;rw[if_pos rfl,bz];refine q.imp λp ρ2 q=>?_;cases p with|next=>obtain⟨f,i,o⟩:=q;exact nT J h (lt_of_lt_of_le i (Nat.lt_succ_iff.mp g)) o|cont=>obtain⟨f,i,o⟩:=q;exact nT J h (lt_of_lt_of_le i (Nat.lt_succ_iff.mp g)) o|brk=>exact q|ret v=>exact q
@[simp]theorem Rt:type_of%@HH.E1:=@HH.E1
@[simp]theorem Ri:type_of%@HH.E2:=@HH.E2
@[simp]theorem Q4:type_of%@HH.E3:=@HH.E3
@[simp]theorem Ry:type_of%@HH.E4:=@HH.E4
@[simp]theorem RB:type_of%@HH.E5:=@HH.E5
@[simp]theorem Rv:type_of%@HH.E6:=@HH.E6
@[simp]theorem Rb:type_of%@HH.E7:=@HH.E7
@[simp]theorem Rp:type_of%@HH.E8:=@HH.E8
@[simp]theorem Ro:type_of%@HH.E9:=@HH.E9
@[simp]theorem Qn:type_of%@HH.E10:=@HH.E10
@[simp]theorem Qe:type_of%@HH.E11:=@HH.E11
@[simp]theorem Ob:type_of%@HH.E12:=@HH.E12
@[simp]theorem Nh:type_of%@HH.E13:=@HH.E13
@[simp]theorem M3:type_of%@HH.E14:=@HH.E14
@[simp]theorem PB:type_of%@HH.E15:=@HH.E15
@[simp]theorem Ou:type_of%@HH.E16:=@HH.E16
@[simp]theorem NP:type_of%@HH.E17:=@HH.E17
@[simp]theorem Ow:type_of%@HH.E18:=@HH.E18
@[simp]theorem KY:type_of%@HH.Jd:=@HH.Jd
@[simp]theorem Np:type_of%@HH.E19:=@HH.E19
@[simp]theorem Qg:type_of%@HH.E20:=@HH.E20
@[simp]theorem Pb:type_of%@HH.E21:=@HH.E21
@[simp]theorem Nf:type_of%@HH.E22:=@HH.E22
@[simp]theorem Nr:type_of%@HH.E23:=@HH.E23
@[simp]theorem QZ:type_of%@HH.X1:=@HH.X1
@[simp]theorem Rf:type_of%@HH.X2:=@HH.X2
@[simp]theorem Rz:type_of%@HH.X3:=@HH.X3
@[simp]theorem Rw:type_of%@HH.X4:=@HH.X4
@[simp]theorem Rn:type_of%@HH.X5:=@HH.X5
@[simp]theorem Q0:type_of%@HH.X6:=@HH.X6
@[simp]theorem Rx:type_of%@HH.X7:=@HH.X7
@[simp]theorem Q8:type_of%@HH.X8:=@HH.X8
@[simp]theorem Nz:type_of%@HH.X9:=@HH.X9
@[simp]theorem PN:type_of%@HH.Lh:=@HH.Lh
@[simp]theorem M5:type_of%@HH.Ra:=@HH.Ra
@[simp]theorem M4:type_of%@HH.Py:=@HH.Py
@[simp]theorem Qm:type_of%@HH.Ph:=@HH.Ph
@[simp]theorem Oh:type_of%@HH.fK.eq_1:=@HH.fK.eq_1
@[simp]theorem Nv:type_of%@HH.evs.eq_1:=@HH.evs.eq_1
@[simp]theorem PQ:type_of%@HH.evs.eq_2:=@HH.evs.eq_2
@[simp]theorem Qj:type_of%@HH.qg.eq_1:=@HH.qg.eq_1
@[simp]theorem Pq:type_of%@HH.qg.eq_2:=@HH.qg.eq_2
@[simp]theorem O2:type_of%@HH.qL.eq_1:=@HH.qL.eq_1
@[simp]theorem O1:type_of%@HH.qL.eq_2:=@HH.qL.eq_2
@[simp]theorem NQ:type_of%@HH.jm.eq_1:=@HH.jm.eq_1
@[simp]theorem JP:type_of%@HH.aY.eq_1:=@HH.aY.eq_1
@[simp]theorem Iz:type_of%@HH.aY.eq_2:=@HH.aY.eq_2
@[simp]theorem Ib:type_of%@HH.aY.eq_3:=@HH.aY.eq_3
@[simp]theorem Ho:type_of%@HH.aY.eq_4:=@HH.aY.eq_4
@[simp]theorem HF:type_of%@HH.cA.eq_1:=@HH.cA.eq_1
@[simp]theorem HD:type_of%@HH.cA.eq_2:=@HH.cA.eq_2
@[simp]theorem Jz:type_of%@HH.aG.eq_1:=@HH.aG.eq_1
@[simp]theorem J3:type_of%@HH.aG.eq_2:=@HH.aG.eq_2
@[simp]theorem Jr:type_of%@HH.aG.eq_3:=@HH.aG.eq_3
@[simp]theorem HQ:type_of%@HH.aG.eq_4:=@HH.aG.eq_4
end HH
end
section
namespace HH
open PySem L2 PySem.Spec PyProof.Rows
section
variable{X:Cx}{c:Call}{a b:Expr}{pa pb:P}{pos:Pos}
theorem jO{K:PySem.W.Frag}{F:Hp}:∀{ns:List Int}{ys:List V},az K F ys (ns.map D.int)->ys=ns.map V.int|[],ys,h=>by rw[h.fj];rfl|n::ns,ys,h=>by obtain⟨v,r,rfl,h1,t⟩:=h.bJ;rw[Rep]at h1;rw[h1,jO t];rfl
end
end HH
end
section
namespace HH
open PySem
section
variable{i j:Int}{ds es:List D}{d:D}{b b':Bool}
@[simp]theorem Kz:ni .shl=vP:=rfl
@[simp]theorem Lj:ni .shr=uv:=rfl
@[simp]theorem JL:ni .band=pN:=rfl
@[simp]theorem Ha:vP (.int i) (.int j)=if 0<=j/\j<=1000/\i.natAbs<18446744073709551616 then some (.val (.int (i*2^j.toNat)))else none:=rfl
@[simp]theorem G4:uv (.int i) (.int j)=if 0<=j then some (.val (.int (i/2^j.toNat)))else none:=rfl
@[simp]theorem Ao:pN (.int i) (.int j)=some (.val (.int (Builtin.bitAnd i j))):=rfl
@[simp]theorem FT:jA (.lst ds) (.int i)=if 0<=i/\0<ds.length/\ds.length*i.toNat<=lim then some (.own (replicate i.toNat ds).flatten)else none:=rfl
@[simp]theorem Gw:jA (.tup ds) (.int i)=if 0<=i/\0<ds.length/\ds.length*i.toNat<=lim then some (.val (.tup (replicate i.toNat ds).flatten))else none:=rfl
@[simp]theorem Pz:cm .RQ (.bl b) (.bl true)=some b:=rfl
@[simp]theorem Ma:cm .Kc (.bl b) (.bl true)=some (!b):=rfl
@[simp]theorem Lk:blt .sum [.lst ds]=(ds.mapM kW).map λns=>.val (.int ns.sum):=rfl
end
theorem wB{ns:List Int}:(ns.map D.int).mapM kW=some ns:=by induction ns with|nil=>rfl|cons n ns a=>simp[a]
@[simp]theorem FQ{ns:List Int}:ns.mapM (kW ∘ D.int)=some ns:=by rw[<-wB (ns:=ns),List.mapM_map]
@[simp]theorem Il{bs:List Bool}:bs.mapM (oF ∘ D.bl)=some bs:=by induction bs with|nil=>rfl|cons b bs a=>simp[a]
theorem Ly{S:List Int}{i:Int}:((S.map D.int).any λy=>fL y (.int i))=S.contains i:=by induction S with|nil=>rfl|cons s S a=>rw[map_cons,any_cons,List.contains_cons,a,Rc];rw[show(s==i)=(i==s)from Bool.eq_iff_iff.mpr ⟨λh=>by simp at h ⊢;exact h.symm,λh=>by simp at h ⊢;exact h.symm⟩]
theorem JK{S:List Int}:(S.map D.int).all flat=true:=by rw[all_eq_true];intro d hd;obtain⟨i,_,rfl⟩:=mem_map.mp hd;rfl
theorem jx{n:Nat}{S:List Int}:dq (n+1) (.lst (S.map D.int))=true:=by rw[aL,all_eq_true];intro d hd;obtain⟨i,_,rfl⟩:=mem_map.mp hd;cases n<;>rfl
theorem jQ:∀{S T:List Int},fC (S.map D.int) (T.map D.int)=(S==T)|[],[]=>by simp[fY,dC,iV,iM]|[],_::_=>by simp[fY,dC,iV,iM]|_::_,[]=>by simp[fY,dC,iV,iM]|s::S,t::T=>by rw[map_cons,map_cons,dC,jQ,Rc];rfl
theorem Mi{S T:List Int}:cm .eq (.lst (S.map D.int)) (.lst (T.map D.int))=some (S==T):=by show pM _ _=_;unfold pM;rw[jx,jx,Ku,jQ];rfl
theorem K5{S T:List Int}:cm .ne (.lst (S.map D.int)) (.lst (T.map D.int))=some (!(S==T)):=by show m5 _ _=_;unfold m5;rw[jx,jx,Ku,jQ];rfl
theorem Qo{a:Type}{l:List a}{f:a->D}{k:Nat}{x:a}(h:l[k]?=some x):at' (l.map f) (k:Int)=some (f x):=by have b:=(fJ h).1;rw[v9 (by simpa using b),getElem?_map,h];rfl
theorem N8{n k:Nat}(h:k<n):je n (k:Int)=some k:=by unfold je;rw[if_pos (by omega),if_pos (by omega)];simp
theorem Ie{c:List Nat}{one:Bool}{body:List Sl->Res Fl}{g:Nat->D}{N:Nat}(J:Nat->List Sl->Prop){Q:Fl->List Sl->Prop}(f:∀i ρ,i<N->J i ρ->∃a,bU ρ c one (g i)=some a/\(body a).sat (fQ (J (i+1)) Q))(k:∀ρ,J N ρ->Q .next ρ){ρ:List Sl}(h0:J 0 ρ):(gY c one body ((List.range N).map g) ρ).sat Q:=by
 refine cB (λr ρ=>∃i,i<=N/\r=((List.range N).map g).drop i/\J i ρ) ?_ ?_ ⟨0,Gi,rfl,h0⟩
 . rintro d r ρ⟨i,m,e,j⟩;have b:i<N:=by
    rcases Nat.lt_or_ge i N with h|h;.exact h
    .rw[List.drop_eq_nil_of_le (by simpa using h)]at e;cases e
   rw[List.drop_eq_getElem_cons (by simpa using b)]at e;injection e with e1 e2;simp at e1;subst e1;obtain⟨a,h1,n⟩:=f i ρ b j;refine⟨a,h1,n.imp λo ρ2 q=>?_⟩;cases o with|next=>exact⟨i+1,b,e2,q⟩|cont=>exact⟨i+1,b,e2,q⟩|brk=>exact q|ret v=>exact q
 . rintro ρ⟨i,m,e,j⟩;have:i=N:=by have p:=congrArg List.length e;simp at p;omega
   subst this;exact k ρ j
inductive A3(a b c:Prop):Prop where|mk(ha:a)(hb:b)(hc:c)
inductive A4(a b c d:Prop):Prop where|mk(ha:a)(hb:b)(hc:c)(hd:d)
inductive A5(a b c d e:Prop):Prop where|mk(ha:a)(hb:b)(hc:c)(hd:d)(he:e)
inductive A6(a b c d e f:Prop):Prop where|mk(ha:a)(hb:b)(hc:c)(hd:d)(he:e)(hf:f)
inductive A7(a b c d e f g:Prop):Prop where|mk(ha:a)(hb:b)(hc:c)(hd:d)(he:e)(hf:f)(hg:g)
inductive A8(a b c d e f g h:Prop):Prop where|mk(ha:a)(hb:b)(hc:c)(hd:d)(he:e)(hf:f)(hg:g)(hh:h)
inductive A9(a b c d e f g h i:Prop):Prop where|mk(ha:a)(hb:b)(hc:c)(hd:d)(he:e)(hf:f)(hg:g)(hh:h)(hi:i)
end HH
end
section
namespace HT
open PySem PySem.Spec PyProof.Rows
end HT
namespace HH
open PySem L2 PySem.Spec PyProof.Rows
noncomputable def Oz:Expr->Bool|.Starred _ _=>false|_=>true
theorem aK{e:Expr}{c:List Expr}{env:Env}(h:Oz e=true):starEach (e::c) env=(false,eval e env)::starEach c env:=by cases e with|Starred a b=>cases h|_=>rw[starEach];(intro e p z;cases z)
noncomputable def jH:List Int->List Expr->Option (List Expr)|[],a=>some a|i::b,.Constant (.int j) _ _::a=>if i=j then jH b a else none|_,_=>none
theorem mj{X:L2.Cx}{c:Call}:∀(f:List Int){g a:List Expr}{b:List P},jH f g=some a->SA X c a b->SA X c g (f.map (λi=>P.con (.int i))++b)|[],g,a,b,h,r=>by cases h;exact r|i::f,[],a,b,h,r=>by cases h|i::f,e::g,a,b,h,r=>by cases e with
   |Constant v k p=>cases v with
     |int j=>
       replace h:(if i=j then jH f g else none)=some a:=h;split at h;.rename_i m;subst m;exact jq aj (mj f h r) (aK rfl)
       .cases h|_=>cases h
   |_=>cases h
end HH
end
section
namespace HH
open PySem
theorem oh:∀a b:List Int,bQ a b=true->bQ b a=false
 |[],[],h=>by simp[bQ]at h|[],_::_,_=>by simp[bQ]|_::_,[],h=>by simp[bQ]at h|x::a,y::b,h=>by
   simp only[bQ,or_eq_true,decide_eq_true_eq,and_eq_true]at h;simp only[bQ,Bool.or_eq_false_iff,decide_eq_false_iff_not,Bool.and_eq_false_iff];rcases h with h|⟨h,h'⟩;.exact⟨by omega,.inl (by omega)⟩
   .exact⟨by omega,.inr (oh a b h')⟩
theorem uN:∀a b c:List Int,bQ b a=false->bQ c b=false->bQ c a=false
 |[],_,c,_,_=>by cases c<;>simp[bQ]|_::_,[],_,h,_=>by simp[bQ]at h|_::_,_::_,[],_,h=>by simp[bQ]at h|x::a,y::b,z::c,h1,f=>by
   simp only[bQ,Bool.or_eq_false_iff,decide_eq_false_iff_not,Bool.and_eq_false_iff]at h1 f ⊢;refine⟨by omega,?_⟩;by_cases e:z=x;.right;exact uN a b c (h1.2.resolve_left (by omega)) (f.2.resolve_left (by omega))
   .exact .inl e
theorem nA:∀a b:List Int,bQ a b=false->bQ b a=false->a=b
 |[],[],_,_=>rfl|[],_::_,h,_=>by simp[bQ]at h|_::_,[],_,h=>by simp[bQ]at h|x::a,y::b,h1,c=>by
   simp only[bQ,Bool.or_eq_false_iff,decide_eq_false_iff_not,Bool.and_eq_false_iff]at h1 c;have e:x=y:=by omega
   subst e;rw[nA a b (h1.2.resolve_left (by simp)) (c.2.resolve_left (by simp))]
theorem oE:∀{xs ys:List D},xs.all cu=true->ys.all cu=true->xs.map lg=ys.map lg->xs=ys
 |[],[],_,_,_=>rfl|[],_::_,_,_,h=>by simp at h|_::_,[],_,_,h=>by simp at h|x::xs,y::ys,h1,a,h=>by
   simp only[all_cons,and_eq_true]at h1 a;simp only[map_cons,List.cons.injEq]at h;obtain⟨i,rfl⟩:∃i,x=.int i:=by cases x<;>first|exact⟨_,rfl⟩|(have q:=h1.1;simp[cu]at q;done)
   obtain⟨j,rfl⟩:∃j,y=.int j:=by cases y<;>first|exact⟨_,rfl⟩|(have q:=a.1;simp[cu]at q;done)
   rw[oE h1.2 a.2 h.2,show i=j from h.1]
theorem qQ{x y:D}(h:(cu x=true/\cu y=true)\/(pK x=true/\pK y=true))(e:jU x=jU y):x=y:=by
 rcases h with⟨h1,a⟩|⟨h1,a⟩
 . cases x<;>first|(simp[cu]at h1;done)|skip
   cases y<;>first|(simp[cu]at a;done)|skip
   simpa[jU]using e
 . cases x<;>first|(simp[pK]at h1;done)|skip
   cases y<;>first|(simp[pK]at a;done)|skip
   rename_i xs ys;cases xs<;>first|(simp[pK]at h1;done)|skip
   cases ys<;>first|(simp[pK]at a;done)|skip
   rw[oE h1 a e]
noncomputable def jL(a b:D):Bool:=!bQ (jU b) (jU a)
theorem nU(ds:List D):(Qf ds).Perm ds:=List.mergeSort_perm ..
theorem yd(a b c:D)(h1:jL a b=true)(e:jL b c=true):jL a c=true:=by simp only[jL,Bool.not_eq_true']at*;exact uN _ _ _ h1 e
theorem uI(a b:D):(jL a b||jL b a)=true:=by simp only[jL,or_eq_true,Bool.not_eq_true'];cases h:bQ (jU b) (jU a)with|false=>exact .inl rfl|true=>exact .inr (oh _ _ h)
theorem pL(ds:List D):(Qf ds).Pairwise λa b=>jL a b=true:=List.pairwise_mergeSort yd uI ds
theorem mQ{ds:List D}(h:sortable ds=true):∀x∈ds,∀y∈ds,jU x=jU y->x=y:=by
 simp only[sortable,and_eq_true,or_eq_true,all_eq_true]at h;intro x hx y a e;rcases h.2 with h|h;.exact qQ (.inl ⟨h x hx,h y a⟩) e
 .exact qQ (.inr ⟨h x hx,h y a⟩) e
theorem Hr{ds l:List D}(h:sortable ds=true)(p:l.Perm ds)(s:l.Pairwise λa b=>jL a b=true):l=Qf ds:=by refine List.Perm.eq_of_pairwise (le:=λa b=>jL a b=true) (λa b e f h1 c=>?_) s (pL ds) (p.trans (nU ds).symm);simp only[jL,Bool.not_eq_true']at h1 c;exact mQ h a (p.mem_iff.mp e) b ((nU ds).mem_iff.mp f) (nA _ _ c h1)
end HH
end
section
namespace HH
open PySem L2 PySem.Spec PyProof.Rows PySem.Calls PySem.W
theorem all_ints:∀{ds:List D},ds.all cu=true->ds=(ds.map lg).map D.int
 |[],_=>rfl|d::ds,h=>by
   simp only[all_cons,and_eq_true]at h;cases d<;>first|(have q:=h.1;simp[cu]at q;done)|skip
   rw[map_cons,map_cons,<-all_ints h.2];rfl
theorem intsAre_of:∀{ns:List Int}{a:List Value},Vals (ns.map V.int) a->IntsAre a ns|[],_,.nil=>.nil|n::ns,_,.cons r t=>by obtain⟨b,rfl⟩:=r;exact .cons n b (intsAre_of t)
end HH
end
section
namespace HH
open PySem L2 PySem.Spec PyProof.Rows PySem.Calls
theorem o5(l b:Addr)(items a:List Value)(n L:Nat)(M r:Option Addr)(N v:Array (Option Value))(z B:List Int)(I:IntsAre items z)(J:IntsAre a B):Meets (Builtin.«tuple.__lt__» ⟨[.ref l,.ref b],[]⟩) (λA R s=>s.heap.get? l=some {cls:=.type "tuple",dict:=M,data:=.seq items.toArray n,slots:=N}/\s.heap.get? b=some {cls:=.type "tuple",dict:=r,data:=.seq a.toArray L,slots:=v}/\R (.ok (.ret (.bool (bQ z B)))) s):=.of_wp λprog w A R s h=>by
  obtain⟨C,g,d,E,os⟩:=s;obtain⟨O,Q,h⟩:=h;have f2:=AutoSeq1.sub_tuple_tuple;wp_walk using wpAny_loadPart' O,wpAny_loadPart' Q,wpAny_forIn_list _ (λf b F=>b.1=none/\F=⟨C,g,d,E,os⟩/\∃xs ys c j,f=xs.zip ys/\IntsAre xs c/\IntsAre ys j/\decide (items.length<a.length)=decide (c.length<j.length)/\R (.ok (.ret (.bool (bQ c j)))) ⟨C,g,d,E,os⟩) _;case turn=>rintro⟨y,x⟩f b F⟨i,rfl,xs,ys,c,j,m,h1,k,G,o⟩;cases h1 with|nil=>cases m|cons p t h1=>cases k with|nil=>cases m|cons q u k=>
       injection m with hyx hrest;cases hyx;refine wpAny_bind (wpAny_eqBool_int ?_);by_cases e:p=q;.subst e;rw[beq_self_eq_true];wp_walk;exact⟨rfl,rfl,_,_,_,_,hrest,h1,k,by rw[G];simp,by simpa[bQ]using o⟩
       . rw[beq_eq_false_iff_ne.mpr e];have H:R (.ok (.ret (.bool (decide (p<q))))) ⟨C,g,d,E,os⟩:=by simpa[bQ,e]using o
         simp only[Bool.not_false,if_true];refine wpAny_bind (wpAny_rule ?_);refine wpAny_bind (show wpAny (model prog w) A.in1 (compareOp .Lt (Value.int p t) (Value.int q u)) _ _ _ from wpAny_lt_int ?_);refine wpAny_bind (wpAny_pure ?_);exact wpAny_pure (wpAny_pure ⟨_,rfl,H⟩)
  case fin=>
   rintro⟨b1,b2⟩F⟨i,rfl,xs,ys,c,j,m,h1,k,G,o⟩;simp only at i;subst i;have e:bQ c j=decide (items.length<a.length):=by rw[G];cases h1 with|nil=>cases k<;>simp[bQ]|cons _ _ _=>cases k with|nil=>simp[bQ]|cons _ _ _=>cases m
   rw[e]at o;wp_walk;exact⟨_,rfl,by simpa[Builtin.Tuple.tupleCompareSizes]using o⟩
  case h=>exact⟨rfl,rfl,items,a,z,B,by simp,I,J,by rw[IntsAre.length I,IntsAre.length J],h⟩
section
variable{X:Cx}
theorem Cp(hu:X.A.units+8<cLine):cX X (compareOp .Lt) (rD X.K (jm .lt)):=by rintro f s σ H x y v u Q I J L⟨F,d,e,r,q,M,N,he,k⟩;obtain⟨t,c,z⟩:=map_some (show(JM d e).map _=some r from he);subst z;cases d with
 |int i=>cases e with|int j=>exact Aq f s σ H x y v u Q I J L ⟨F,.int i,.int j,_,q,M,N,by have z:wX (λi j=>decide (i<j)) (.int i) (.int j)=some t:=c;simp only[z];rfl,k⟩|_=>cases c
 |tup xs=>cases e with|tup ys=>obtain⟨hc,c⟩:=bB (show(if(xs.all cu&&ys.all cu)=true then some (bQ (xs.map lg) (ys.map lg))else none)=some t from c);rw[and_eq_true]at hc;obtain⟨a,vs,rfl,h1,O,_⟩:=M.tup q;obtain⟨b,ws,rfl,h3,U,_⟩:=N.tup q;cases J;cases L;obtain⟨B,W,it,_⟩:=I.tuple h1;obtain⟨g,Y,C,_⟩:=I.tuple h3;rw[all_ints hc.1]at O;rw[all_ints hc.2]at U;rw[jO O]at W;rw[jO U]at Y;have i1:=intsAre_of W;have i2:=intsAre_of Y;obtain⟨⟨cls,dd,data,sl⟩,ho,h,n,hd⟩:=it;obtain⟨⟨Z,E,data2,G⟩,m,o,n2,p⟩:=C;simp only at h hd o p;subst h hd o p;refine(show wpAny (model X.prog X.w) X.A (richCompare .Lt (.ref a) (.ref b)) _ _ s from richCompare_meets_room (op:=.Lt) ⟨_,ho,rfl⟩ ⟨_,m,rfl⟩ PySem.F.slot_tuple_lt PySem.F.entry_tuple_lt (PySem.F.args_tuple_lt_2 _ _) (o5 a b B g n n2 dd E sl G _ _ i1 i2) ⟨ho,m,show Value.bool _≠Value.notImplemented/\_ from⟨(λx=>nomatch x),⟨.bl t,H,I,by rw[<-c];rfl,cj.dF q (eX _) k⟩⟩⟩ (by omega))|_=>cases c
 |_=>cases c
end
end HH
end
section
namespace HH
open PySem L2 PySem.Spec PyProof.Rows
section
variable{K:PySem.W.Frag}{F F' F1 H H' H1 F0 H0:Hp}{ρ ρ' ρ1 ρ0:List Sl}{σ σ' σ1 σ0:L2.St}{x:Nat}{q:Addr}{as:List Addr}{rows R4:List (List D)}
noncomputable def Cr:Sl->Bool|.aU=>true|.hold _=>true|_=>false
theorem gH{s:Sl}{i:Nat}{b:Addr}(g:Cr s=true){o:Option V}(h:bf (ρ.set x s) (σ.set x o) i b):bf ρ σ i b/\i≠x:=by
 obtain⟨⟨t,ds,e,a⟩,f⟩:=h;by_cases c:x=i
 . subst c;rw[List.getElem?_set]at e;rw[if_pos rfl]at e;split at e;.cases e;cases s<;>first|(cases a;done)|(cases g;done)
   .cases e
 .rw[getElem?_set_ne c]at e f;exact⟨⟨⟨t,ds,e,a⟩,f⟩,λz=>c z.symm⟩
theorem GS.rO{s:Sl}{o:Option V}(f:Cr s=true)(g:GS K F ρ σ H):GS K F (ρ.set x s) (σ.set x o) H:=by
 refine⟨g.sub,by simp[g.len],λi b d e=>?_,λi t ds e h=>?_,λi j a h1 k=>g.dis i j a (gH f h1).1 (gH f k).1⟩
 . by_cases c:x=i
   . subst c;rw[List.getElem?_set,if_pos rfl]at e;split at e;.cases e;cases f
     .cases e
   .rw[getElem?_set_ne c]at e ⊢;exact g.val i b d e
 . by_cases c:x=i
   . subst c;rw[List.getElem?_set,if_pos rfl]at e;split at e;.cases e;cases s<;>first|(cases h;done)|(cases f;done)
     .cases e
   .rw[getElem?_set_ne c]at e ⊢;exact g.own i t ds e h
theorem aZ.rO{s:Sl}{o:Option V}(a:Cr s=true)(t:aZ K F ρ σ H F1 ρ1 σ1 H1)(f:∀s0,ρ[x]?=some s0->uP s0=false):aZ K F ρ σ H F1 (ρ1.set x s) (σ1.set x o) H1:=by
 refine⟨t.gs.rO a,t.bI,t.oU,t.keep,λb⟨i,h⟩=>t.sE b ⟨i,(gH a h).1⟩,by simp[t.len],λi g e l=>?_⟩;have c:x≠i:=by rintro rfl;rw[f _ e]at l;cases l
 obtain⟨j,s2,k,m⟩:=t.lk i g e l;exact⟨by rw[getElem?_set_ne c];exact j,s2,by rw[getElem?_set_ne c];exact k,m⟩
end
end HH
end
section
namespace L2
open PySem PySem.Spec PyProof.Rows
end L2
namespace HH
open PySem L2 PySem.Spec PyProof.Rows
noncomputable def K1(o:Obj):Bool:=match o.cls with|.type n=>n=="list"|_=>false
def Hb(K:PySem.W.Frag):Prop:=(K.filter λp=>K1 p.2).map (·.1)=[]
theorem mem_lookup{f g:Type}[BEq f][LawfulBEq f]{a:f}{b:g}:∀{l:List (f×g)},l.lookup a=some b->(a,b)∈l
 |[],h=>by cases h|(c,d)::l,h=>by
   rw[lookup_cons]at h;split at h;.rename_i e;have:=eq_of_beq e;cases h;subst this;simp
   .exact mem_cons_of_mem _ (mem_lookup h)
theorem Hb.no{K:PySem.W.Frag}(h:Hb K){a:Addr}{o:Obj}(e:K.lookup a=some o)(c:o.cls=.type "list"):False:=by have b:a∈(K.filter λp=>K1 p.2).map (·.1):=mem_map.mpr ⟨(a,o),List.mem_filter.mpr ⟨mem_lookup e,by unfold K1;rw[c];rfl⟩,rfl⟩;rw[show(K.filter λp=>K1 p.2).map (·.1)=[]from h]at b;cases b
noncomputable def LK:Option HO->Option HO|some (.lst _)=>none|some (.cQ _ (.lst _))=>none|o=>o
noncomputable def lf(F:Hp):Hp:=λb=>LK (F b)
section
variable{K:PySem.W.Frag}{F F1 H H1:Hp}
theorem ou{o:Option HO}{u:HO}(h:LK o=some u):o=some u/\(∀xs,u≠.lst xs)/\∀a xs,u≠.cQ a (.lst xs):=by
 unfold LK at h;split at h;.cases h
 .cases h
 .rename_i h1 b;subst h;exact⟨rfl,λxs z=>h1 xs (by rw[z]),λa xs z=>b a xs (by rw[z])⟩
theorem pO:au (lf F) F:=λb o e=>(ou e).1
theorem qU{b:Addr}(h:F b=none):lf F b=none:=by unfold lf;rw[h];rfl
theorem BL{b:Addr}{xs:List V}(h:Rd F b (.tup xs)):Rd (lf F) b (.tup xs):=by
 rcases h with h|⟨o,h⟩;.exact .inl (by unfold lf;rw[h];rfl)
 .exact .inr ⟨o,by unfold lf;rw[h];rfl⟩
theorem az.of{a:Hp}:∀{ds:List D}{b:List V},(∀d∈ds,∀v,Rep K F v d->Rep K a v d)->az K F b ds->az K a b ds|[],_,_,h=>by rw[h.fj];exact .nil|d::ds,_,k,h=>by obtain⟨v,r,rfl,h1,c⟩:=h.bJ;exact .cons (k d (by simp) v h1) (az.of (λd' hd=>k d' (by simp[hd])) c)
theorem Rep.lf:∀(k:Nat){d:D}{v:V},gQ k d=true->Rep K F v d->Rep K (lf F) v d:=by intro k;induction k with
 |zero=>intro d v h r;cases d<;>first|(rw[Rep]at r ⊢;exact r)|(cases h;done)
 |succ k b=>
   intro d v h r
   cases d with|tup ds=>
     rw[Rep]at r ⊢;obtain⟨a,xs,rfl,h1,c⟩:=r;have h':ds.all (gQ k)=true:=h;refine⟨a,xs,rfl,?_,az.of (λd hd v=>b (all_eq_true.mp h' d hd)) c⟩;rcases h1 with h1|h1;.exact .inl (BL h1)
     .exact .inr h1|non=>rw[Rep]at r ⊢;exact r|bl _=>rw[Rep]at r ⊢;exact r|int _=>rw[Rep]at r ⊢;exact r|str _=>rw[Rep]at r ⊢;exact r|lst _=>cases h|cD _=>cases h|dv _ _=>cases h
theorem uQ{ds:List D}{σ:L2.St}{b:Addr}:¬ Own (ds.map (Sl.val false)) σ b:=λ⟨i,⟨s,o,e,a⟩,_⟩=>by obtain⟨d,_,rfl⟩:=mem_map.mp (mem_of_getElem? e);cases a
noncomputable def uni(F F1:Hp):Hp:=λb=>match F b with|some o=>some o|none=>lf F1 b
theorem rA:au F (uni F F1):=λb o e=>by unfold uni;rw[e]
theorem Bj(h:au F H1)(h1:au F1 H1):au (lf F1) (uni F F1):=λb o e=>by unfold uni;cases q:F b with|none=>exact e|some u=>have:=h b u q;rw[h1 b o (pO b o e)]at this;cases this;rfl
end
end HH
namespace L2
open PySem PySem.Spec PyProof.Rows
theorem Inv.yC{X:Cx}{f:List (Addr×Obj)}{σ:St}{H:Hp}{s:Shared}{a:Addr}{o:Obj}{ys:List V}(I:Inv X f σ H s)(e:H a=some (.cQ o (.lst ys)))(h0:∀o u,X.H₀ a≠some (.cQ o u)):Inv X f σ (upd H a (.lst ys)) s:=by
 have ne:∀{b:Addr}{u:HO},H b=some u->(∀r t,u≠.cQ r t)->b≠a:=λ{b u}h k z=>by rw[z,e]at h;cases h;exact k _ _ rfl
 have nn:∀{b:Addr},H b=none->b≠a:=λ{b}h z=>by rw[z,e]at h;cases h
 refine⟨I.ok,I.os,I.bare,⟨I.base.keep,I.base.slot,λb i h n hx=>?_,I.base.there,λb xs h=>?_,λb i u h=>?_,λb ps h=>?_⟩,I.loc,I.cell,?_,λx c hc=>?_,λp w=>?_,λb u h=>?_,I.len⟩;.have:=I.base.free b i h n hx;rw[ao (nn this)];exact this
 .have:=I.base.tups b xs h;rw[ao (ne this (by intro _ _ z;cases z))];exact this
 . have:=I.base.kE b i u h;have g:b≠a:=by rintro rfl;exact h0 _ _ h
   rw[ao g];exact this
 .obtain⟨more,j⟩:=I.base.m7 b ps h;exact⟨more,by rw[ao (ne j (by intro _ _ z;cases z))];exact j⟩
 .rw[ao (nn I.free)];exact I.free
 .rw[ao (nn (I.fu x c hc))];exact I.fu x c hc
 .obtain⟨y,m,A⟩:=I.pin p w;exact⟨y,by rw[ao (nn m)];exact m,A⟩
 . by_cases g:b=a;.subst g;rw[aH]at h;cases h;obtain⟨_,q⟩:=I.hok b _ e;exact q
   .rw[ao g]at h;exact(I.hok b u h).stay (λc v _ q=>q) (λc q=>by rw[ao (ne q (by intro _ _ z;cases z))];exact q) λc xs q=>by rw[ao (ne q (by intro _ _ z;cases z))];exact q
theorem qH{X:Cx}{st:Stmt}{t:TS}(h:PS X st t):PS X st (λD σ H=>t D σ H\/∃a o ys,H a=some (.cQ o (.lst ys))/\(∀o u,X.H₀ a≠some (.cQ o u))/\t D σ (upd H a (.lst ys))):=λb s σ H D I q=>q.elim (h b s σ H D I) λ⟨a,o,ys,e,h0,q⟩=>h b s σ _ D (I.yC e h0) q
end L2
end
section
namespace HH
open PySem L2 PySem.Spec PyProof.Rows
variable{F:Hp}
theorem xW{K:PySem.W.Frag}{H:Hp}{ds:List D}{c:List V}(sub:au F H)(r:az K F c ds):GS K F (ds.map (Sl.val false)) (c.map some) H:=by
 refine⟨sub,by simp[r.length],λi b d e=>?_,λi s o e g=>?_,λi j b h _=>(uQ ⟨i,h⟩).elim⟩;.rw[getElem?_map]at e;obtain⟨d',f,a⟩:=map_some e;cases a;obtain⟨v,h1,k⟩:=r.get f;exact⟨v,by rw[getElem?_map,h1];rfl,k⟩
 .rw[getElem?_map]at e;obtain⟨d',f,a⟩:=map_some e;subst a;cases g
theorem Rd.same{H:Hp}{a:Addr}{u:HO}(s:au F H)(h:Rd F a u):Rd H a u:=by
 rcases h with h|⟨o,h⟩;.exact .inl (s _ _ h)
 .exact .inr ⟨o,s _ _ h⟩
section
variable{K:PySem.W.Frag}{F0 F1 H0 H1:Hp}{ρ0 ρ1:List Sl}{σ0 σ1:L2.St}
theorem lN(s:Sl):lst? (du s)=none:=by
 unfold du;split;.split<;>rfl
 .rfl
theorem tY{s:Sl}{b:Bool}{d:D}(h:du s=.val b d):s=.val b d/\gQ 9 d=true:=by
 unfold du at h;split at h
 . split at h;.cases h;exact⟨rfl,by assumption⟩
   .cases h
 .cases h
end
section
variable{X:Cx}{c:Call}{n:Nat}{st st1 st2 st3:Stmt}{rest:List Stmt}{u:TS}{s:S}{B:List S}{y a b:Nat}
theorem yo{K:PySem.W.Frag}{e:Hp}{v:V}{d:D}(h:JD d=true)(r:Rep K F v d):Rep K e v d:=by cases d<;>first|(cases h;done)|(rw[Rep]at r ⊢;exact r)
variable{k:Nat}{ny na nb ln:Str}{q1 q2 q3 q4 q5 q6 q7 q8 q9 Mx Kl Km Ko Kp Kq Hn QT q18:Pos}{j1 j2 j3 j4}{i j:Int}
end
section
variable{K:PySem.W.Frag}{F0 F1 F2 F3 H0 H1 H3:Hp}{ρ0 ρ3:List Sl}{σ0 σ3:L2.St}{x:Nat}{v:V}{d:D}
theorem Cw(a:ρ0.all wO=true){b:Addr}:¬ Own ρ0 σ0 b:=λ⟨i,⟨s,o,e,c⟩,_⟩=>by have:=all_eq_true.mp a s (mem_of_getElem? e);cases s<;>first|(cases c;done)|(cases this;done)
theorem uV{s:Sl}{b:Bool}{d:D}(h:jP s=.val b d):∃a,s=.val a d:=by cases s with|val a d'=>have h:(if gQ 9 d'=true then Sl.val a d' else .val true d')=.val b d:=h;split at h<;>(cases h;exact⟨_,rfl⟩)|_=>cases h
noncomputable def iC(ρ0:List Sl)(x:Nat)(d:D):List Sl:=(ρ0.map jP).set x (.val true d)
theorem vf(f:ρ0.all wO=true){b:Addr}{σ:L2.St}:¬ Own (iC ρ0 x d) σ b:=λ⟨i,⟨s,o,e,a⟩,_⟩=>by
 unfold iC at e;rcases List.mem_or_eq_of_mem_set (mem_of_getElem? e)with h|h;.obtain⟨c,h1,rfl⟩:=mem_map.mp h;have:=all_eq_true.mp f c h1;cases c with|val g d'=>have a:lst? (if gQ 9 d'=true then Sl.val g d' else .val true d')=some o:=a;split at a<;>cases a|aU=>cases a|_=>cases this
 .subst h;cases a
theorem lC(s t:Sl):lst? (jd s t)=none:=by
 unfold jd;split
 . split;.exact lN _
   .rfl
 .exact lN _
theorem j8{i:Nat}{u:Sl}(h:(eG ρ0 ρ3)[i]?=some u):∃s t,ρ0[i]?=some s/\ρ3[i]?=some t/\u=jd s t:=by unfold eG at h;rw[List.getElem?_zipWith]at h;cases e1:ρ0[i]?with|none=>rw[e1]at h;simp at h|some s=>cases e2:ρ3[i]?with|none=>rw[e1,e2]at h;simp at h|some t=>rw[e1,e2]at h;cases h;exact⟨s,t,rfl,rfl,rfl⟩
theorem dh{σ:L2.St}{b:Addr}:¬ Own (eG ρ0 ρ3) σ b:=λ⟨i,⟨s,o,e,a⟩,_⟩=>by obtain⟨c,t,_,_,rfl⟩:=j8 e;rw[lC]at a;cases a
structure Lf(K:PySem.W.Frag)(F0:Hp)(ρ0:List Sl)(σ0:L2.St)(H0:Hp)(x:Nat)(F1 F2 H1:Hp)(v:V)(d:D):Prop where
 g0:GS K F0 ρ0 σ0 H0
 vl:ρ0.all wO=true
 hx:ρ0[x]?=some .aU
 Fb:au F0 F2
 QV:∀b,F0 b=none->F2 b≠none->nt (H0 b)=none
 kp:au H0 H1
 rep1:Rep K F1 v d
 oR:au F1 F2
 fresh:∀a ys,Rd F1 a (.lst ys)->H0 a=none
theorem Lf.back(w:Lf K F0 ρ0 σ0 H0 x F1 F2 H1 v d)(t:aZ K F2 (iC ρ0 x d) (σ0.set x (some v)) H1 F3 ρ3 σ3 H3):aZ K F0 ρ0 σ0 H0 (uni F0 F3) (eG ρ0 ρ3) σ3 H3:=by
 have no:=λb=>vf (x:=x) (d:=d) (b:=b) (σ:=σ0.set x (some v)) w.vl;have kp:∀b o,H0 b=some o->H3 b=some o:=λb o e=>t.keep b o (w.kp b o e) (no b);have E:au F0 H3:=λb o e=>kp b o (w.g0.sub b o e);have G:ρ3.length=ρ0.length:=by rw[t.len];unfold iC;simp
 have k:(eG ρ0 ρ3).length=ρ0.length:=by unfold eG;rw[List.length_zipWith,G];omega
 have c:∀(i:Nat)(b:Bool)(d':D),ρ0[i]?=some (.val b d')->(b=true\/gQ 9 d'=false)->σ3[i]?=σ0[i]?/\ρ3[i]?=some (.val true d'):=λi b d' e h=>by
  have H:i≠x:=by rintro rfl;rw[w.hx]at e;cases e
  have m:(iC ρ0 x d)[i]?=some (.val true d'):=by
   unfold iC;rw[dB H,getElem?_map,e];show some (if gQ 9 d'=true then Sl.val b d' else .val true d')=_;rcases h with rfl|h;.split<;>rfl
   .rw[h];rfl
  obtain⟨f,L,p,M⟩:=t.lk i _ m rfl;rw[dB H]at f;exact⟨f,by rw[p,show L=.val true d' from M]⟩
 refine⟨⟨λb o e=>?_,by rw[k,<-G];exact t.gs.len,λi b d' e=>?_,λi u o e I=>?_,λi j a h _=>absurd ⟨i,h⟩ dh⟩,rA,λb n r=>.inr ?_,λb o e _=>kp b o e,λb h=>absurd h dh,k,λi u h l=>?_⟩
 . unfold uni at e;split at e;.rename_i u q;cases e;exact E b _ q
   .exact t.gs.sub b o (pO b o e)
 . obtain⟨s,u,m,N,g⟩:=j8 e;have yC:du u=.val b d'->∃v:V,σ3[i]?=some (some v)/\Rep K (uni F0 F3) v d':=λz=>by obtain⟨rfl,hd⟩:=tY z;obtain⟨A,B,C⟩:=t.gs.val i b d' N;exact⟨A,B,(Rep.lf 9 hd C).mono (Bj E t.gs.sub)⟩
   cases s with|val b0 d0=>
     have g:Sl.val b d'=if gQ 9 d0=true then du u else .val b0 d0:=g;split at g;.exact yC g.symm
     .rename_i O;cases g;obtain⟨f,_⟩:=c i b d' m (.inr (by simpa using O));obtain⟨A,B,C⟩:=w.g0.val i b d' m;exact⟨A,by rw[f];exact B,C.mono rA⟩|_=>exact yC g.symm
 .obtain⟨s,U,_,_,rfl⟩:=j8 e;rw[lC]at I;cases I
 . have h1:lf F3 b≠none:=by unfold uni at r;rw[n]at r;exact r
   by_cases J:F2 b=none
   . rcases t.oU b J (λz=>h1 (qU z))with y|y;.exact absurd y (no b)
     .cases q:H0 b with|none=>rfl|some u=>rw[w.kp b u q]at y;exact y
   .exact w.QV b n J
 .have Q:=all_eq_true.mp w.vl u (mem_of_getElem? h);cases u with
   |val b0 d0=>cases b0 with
     |true=>
       obtain⟨f,p⟩:=c i true d0 h (.inl rfl);refine⟨f,.val true d0,?_,rfl⟩;unfold eG;rw[List.getElem?_zipWith,h,p];show some (if gQ 9 d0=true then du (.val true d0)else .val true d0)=_;split;.rename_i hd;show some (if gQ 9 d0=true then Sl.val true d0 else .aU)=_;rw[if_pos hd]
       .rfl|false=>cases l
   |aU=>cases l|_=>cases Q
end
section
variable{X:Cx}{c:Call}{n:Nat}{st st1 stM:Stmt}{rest:List Stmt}{u:TS}{s:S}{B:List S}{x o f a b v n2:Nat}
def Fz(X:Cx)(c:Call)(n:Nat)(B:List S)(x o v:Nat)(u:TS):TS:=λD σ H=>∃m e g j y F2 p w d z i q ρ2,(∀b,j b=none->∀o u,X.H₀ b≠some (.cQ o u))/\Lf X.K m e g j x y F2 p w d/\(put e o .aU).isSome=true/\aZ X.K F2 (iC e x d) (g.set x (some w)) p z i σ H/\(eZ c n B i).bind (iK e x o v)=.ok q ρ2/\∀ t h k,aZ X.K m e g j t ρ2 h k->match q with|.next=>u D h k|.ret r=>∀v,bG X.K t ρ2 h k e g j v r->D.rt v k|_=>False
theorem kh(h1:SS X c n st s)(y:kO X rest (Fz X c n B x o v u)):kO X (st::rest) (Fz X c n (s::B) x o v u):=by refine pX (dW h1 y) ?_;rintro D σ H⟨z,i,m,A,C,F2,E,w,d,G,p,q,ρ2,I,W,ho,sp,e,k⟩;rw[KH]at e;obtain⟨f1,j,h,e⟩:=aa e;obtain⟨f0,g,J,h⟩:=aa h;refine⟨G,p,f0,g,sp.gs,J,λL M O s4=>?_⟩;cases f0 with|next=>exact⟨z,i,m,A,C,F2,E,w,d,L,g,q,ρ2,I,W,ho,sp.trans s4,by rw[show eZ c n B g=.ok f1 j from h];exact e,k⟩|brk=>cases h;cases e|cont=>cases h;cases e|ret r=>cases h;intro t N;cases r with|own ds=>cases e|val d'=>
     have e:(if JD d'=true then Res.ok (Fl.ret (R.val d')) (eG i j)else .stuck)=.ok q ρ2:=e;split at e;.rename_i hd;cases e;exact k _ _ _ (W.back (sp.trans s4)) t (show Rep X.K _ t d' from yo hd N)
     .cases e
theorem aZ.mz{K:PySem.W.Frag}{H k m:Hp}{ρ E:List Sl}{σ h g:L2.St}(t:aZ K F ρ σ H k E h m)(hx:ρ[x]?=some .aU)(ho:(HH.put ρ o .aU).isSome=true)(p:g.length=h.length)(hs:∀q,q≠o->q≠x->g[q]?=h[q]?):aZ K F ρ σ H k ((E.set o .aU).set x .aU) g m:=by
 obtain⟨w,y⟩:=Option.isSome_iff_exists.mp ho;obtain⟨s0,h0,i,_⟩:=qe y;have j:x<g.length:=by rw[p,<-t.gs.len,t.len];exact(fJ hx).1
 have lo:o<g.length:=by rw[p,<-t.gs.len,t.len];exact(fJ h0).1
 have e:g=(h.set o (g[o]'lo)).set x (g[x]'j):=by
  refine List.ext_getElem? λq=>?_;by_cases c1:q=x;.subst c1;rw[getElem?_set_self (by simp;omega)];simp[j]
  . rw[dB c1];by_cases c2:q=o;.subst c2;rw[getElem?_set_self (by omega)];simp[lo]
    .rw[dB c2];exact hs q c2 c1
 have t1:=t.rO (x:=o) (s:=.aU) (o:=g[o]'lo) rfl (λs1 q=>by rw[h0]at q;cases q;exact i);have r:=t1.rO (x:=x) (s:=.aU) (o:=g[x]'j) rfl (λs1 q=>by rw[hx]at q;cases q;rfl);rw[<-e]at r;exact r
structure nC(F0:Hp)(H0 FE:Hp)(al:Addr)(ys:List V)(H':Hp):Prop where top:Rd H' al (.lst ys)row:∀y∈ys,∃b zs,y=V.ref b/\b≠al/\FE b=none/\H0 b=none/\Rd H' b (.lst zs)/\3<=zs.length
theorem nC.set{m p r:Hp}{g b:Addr}{ys i:List V}{t:Hp}(h:nC m p r g ys t)(w:b≠g)(C:3<=i.length):nC m p r g ys (upd t b (.lst i)):=by
 refine⟨?_,λy E=>?_⟩
 . rcases h.top with q|⟨o,q⟩;.exact .inl (by rw[ao (Ne.symm w)];exact q)
   .exact .inr ⟨o,by rw[ao (Ne.symm w)];exact q⟩
 . obtain⟨j,k,e,z,n2,A,q,l⟩:=h.row y E;by_cases c:j=b;.subst c;exact⟨j,i,e,z,n2,A,.inl aH,C⟩
   . refine⟨j,k,e,z,n2,A,?_,l⟩;rcases q with q|⟨o,q⟩;.exact .inl (by rw[ao c];exact q)
     .exact .inr ⟨o,by rw[ao c];exact q⟩
def Jb(X:Cx)(t:TS):TS:=λD σ H=>t D σ H\/∃a o ys,H a=some (.cQ o (.lst ys))/\(∀o u,X.H₀ a≠some (.cQ o u))/\t D σ (upd H a (.lst ys))
theorem yx{R5 R6:Stmt}{cond:Expr}{pos:Pos}{k0 k1 k2 k3 j:Int}(nl:Hb X.K)(hc:ST X c cond (.cmp .eq (.var v) (.con (.int 0))))(pF:PS X R5 (HY (zK X.K (jN x)) (gW o) (Jb X (tL (tC (.int j)) (BK (jN o) (tC (.int 2)) uO)))))(pA:PS X R6 (Jb X (uq (Nb X.K "list" mK (jN x) (dU (DG (dU (tC (.int k0)) (dU (tC (.int k1)) (dU (tC (.int k2)) (dU (tC (.int k3)) tU))))) tU)))))(ac:kO X rest u):kO X (.If cond [R5,R6] [] pos::rest) (Fz X c n [] x o v u):=by
 rintro ag s σ H D I⟨C,E,N,O,F1,F2,H1,w,d,F3,t,fl,ρ2,nf,W,ho,sp,e,k⟩;refine dW (zJ hc (dW pF (dW pA lZ)) lZ) ac ag s σ H D I ?_;have e:iK E x o v .next t=.ok fl ρ2:=e;unfold iK at e;simp only at e;split at e
 . rename_i bv i d' hv ap;split at e
   . rename_i ar;obtain⟨A,av,a9⟩:=ar;cases e;have Ks:x<N.length:=by rw[<-W.g0.len];exact(fJ W.hx).1
     obtain⟨l1,l2,l3,l4⟩:=sp.lk x (.val true d) (by unfold iC;rw[getElem?_set_self (by simp;rw[W.g0.len];exact Ks)]) rfl;have l4:l2=.val true d:=l4;subst l4;rw[ap]at l3;cases l3;have sx:σ[x]?=some (some w):=by rw[l1,getElem?_set_self Ks]
     have B0:=W.back sp;obtain⟨bg,hp⟩:=Option.isSome_iff_exists.mp ho;obtain⟨s0,h0,bi,_⟩:=qe hp;have bm:o<σ.length:=by rw[<-B0.gs.len,B0.len];exact(fJ h0).1
     have fin:∀G H',G.length=σ.length->(∀q,q≠o->G[q]?=σ[q]?)->aZ X.K C E N O (uni C F3) (eG E t) σ H'->u D G H':=λG H' q1 q2 q3=>k _ _ _ (q3.mz W.hx ho q1 λq z1 _=>q2 q z1);obtain⟨bx,bn⟩:∃b,t[v]?=some (.val b (.int i)):=⟨bv,hv⟩;have aw:fK (HH.ev c (.cmp .eq (.var v) (.con (.int 0)))) t=.ok (decide (i=0)) t:=by
      have hp:pk t v=some (.int i):=by unfold pk;rw[hv]
      show Res.bind (λr ρ=>lift (oF r.d) ρ) (Res.bind (λxy ρ=>lift (jm .eq xy.1 xy.2) ρ) ((lift (pk t v) t).bind λ_ ρ=>(dY none (HH.ev c (.con (.int 0))) ρ).bind λy ρ=>(lift (pk ρ v) ρ).bind λx ρ=>.ok (x,y) ρ))=_;rw[hp];show Res.bind (λr ρ=>lift (oF r.d) ρ) (Res.bind (λxy ρ=>lift (jm .eq xy.1 xy.2) ρ) ((lift (pk t v) t).bind λx ρ=>.ok (x,HH.D.int 0) ρ))=_;rw[hp];rfl
     refine⟨F3,t,_,_,sp.gs,aw,λQ H4 s4=>?_⟩--the Am evaluation may let F and H a8
     have My:=sp.trans s4;have B4:=W.back My;by_cases hi:i=0
     . rw[if_pos (by simp[hi])];have A:=A.resolve_left (λz=>z hi);obtain⟨g,rfl⟩:∃g,d=.lst g:=by
        unfold nM at A;split at A;.exact⟨_,rfl⟩
        .cases A
       have A:(decide (g.length<1000)&&g.all λr=>match r with|.lst is=>is.all cu&&decide (3<=is.length)|_=>false)=true:=A;rw[and_eq_true]at A;obtain⟨ae,ah⟩:=A;have ae:g.length<1000:=of_decide_eq_true ae;have top:∀{v':V}{ds:List HH.D},Rep X.K F1 v' (.lst ds)->∃a ys,v'=.ref a/\Rd F1 a (.lst ys)/\O a=none/\az X.K F1 ys ds:=λ{v' ds}h=>by
        obtain⟨a,ys,rfl,h3,h4⟩:∃a ys,v'=.ref a/\cR X.K F1 a ys/\az X.K F1 ys ds:=by rw[Rep]at h;exact h
        rcases h3 with h3|⟨_,ax,n,k1,k2,_⟩;.exact⟨a,ys,rfl,h3,W.fresh a ys h3,h4⟩
        .exact(nl.no k1 k2).elim
       obtain⟨U,ys,rfl,af,na,L⟩:=top W.rep1;have up:∀{a:Addr}{Z:List V},Rd F1 a (.lst Z)->Rd H4 a (.lst Z):=λ{a Z}h=>Rd.same (W.oR.trans (My.bI.trans My.gs.sub)) h;have R7:∀{a:Addr}{Z:List V},Rd F1 a (.lst Z)->O a=none->uni C Q a=none:=λ{a Z}h n=>by
        have f0:C a=none:=by cases q:C a with|none=>rfl|some o=>rw[W.g0.sub a o q]at n;cases n
        unfold uni;rw[f0];show LK (Q a)=none;rcases Rd.same (W.oR.trans My.bI) h with h|⟨o,h⟩<;>rw[h]<;>rfl
       have J0:nC C O (uni C Q) U ys H4:=by refine⟨up af,λy hy=>?_⟩;obtain⟨q,hq⟩:=List.getElem?_of_mem hy;have Y:=(fJ hq).1;obtain⟨y',g1,g2⟩:=L.get (i:=q) (d:=g[q]'(by rw[<-L.length];exact Y)) (by simp);rw[hq]at g1;cases g1;have hm:=all_eq_true.mp ah _ (getElem_mem (l:=g) (n:=q) (by rw[<-L.length];exact Y));generalize g[q]'(by rw[<-L.length];exact Y)=Eu at*;cases Eu with
        |lst is=>
          rw[and_eq_true]at hm;have h3:3<=is.length:=of_decide_eq_true hm.2;obtain⟨b,Z,rfl,hb,nb,ai⟩:=top g2;have ay:3<=Z.length:=by rw[ai.length];exact h3
          refine⟨b,Z,rfl,?_,R7 hb nb,nb,up hb,ay⟩;rintro rfl--the list would be one of ax own g
          have aE:ys=Z:=by rcases af with a1|⟨o1,a1⟩<;>rcases hb with b1|⟨o2,b1⟩<;>(rw[a1]at b1;first|(cases b1;done)|(cases b1;rfl))
          subst aE;obtain⟨y0,e0,r0⟩:=ai.get (i:=0) (d:=is[0]'(by omega)) (by simp);have i0:=all_eq_true.mp hm.1 _ (getElem_mem (l:=is) (n:=0) (by omega));obtain⟨bo,am,R8⟩:=L.get (i:=0) (d:=g[0]'(by have:=L.length;omega)) (by simp);rw[e0]at am;cases am;have m0:=all_eq_true.mp ah _ (getElem_mem (l:=g) (n:=0) (by have:=L.length;omega));generalize is[0]'(by omega)=d0 at*;generalize g[0]'(by have:=L.length;omega)=dr at*;cases d0 with
          |int z=>rw[Rep]at r0;subst r0;cases dr with|lst _=>rw[Rep]at R8;obtain⟨_,_,q,_⟩:=R8;cases q|_=>cases m0
          |_=>cases i0
        |_=>cases hm
       have bp:ys.length<1000:=by rw[L.length];exact ae--the loop
       refine⟨.ref U,sx,U,rfl,⟨ys,.inl J0.top⟩,λi m G H'=>m=ys.length-i/\i<=ys.length/\G.length=σ.length/\(∀q,q≠o->G[q]?=σ[q]?)/\nC C O (uni C Q) U ys H'/\aZ X.K C E N O (uni C Q) (eG E t) σ H',⟨_,rfl,Gi,rfl,λ_ _=>rfl,J0,B4⟩,?_⟩;rintro q m G H'⟨rfl,bq,hl,hs,J,B⟩;by_cases Y:q<ys.length
       . right;have hy:ys[q]?=some ys[q]:=by simp[Y]
         refine⟨⟨ys,_,.inl J.top,hy⟩,λab M=>∃m',m'<ys.length-q/\m'=ys.length-(q+1)/\q+1<=ys.length/\ab.length=σ.length/\(∀q,q≠o->ab[q]?=σ[q]?)/\nC C O (uni C Q) U ys M/\aZ X.K C E N O (uni C Q) (eG E t) σ M,λab M z=>z,?_⟩;rintro y _⟨rfl,aI⟩;have:=aI ys (.inl J.top);rw[hy]at this;cases this;obtain⟨b,Z,eb,n1,n2,n3,hb,h3⟩:=J.row _ (getElem_mem Y);rw[eb];have so:(G.set o (some (.ref b)))[o]?=some (some (.ref b)):=getElem?_set_self (by omega);have go:∀M,M b=some (.lst Z)->nC C O (uni C Q) U ys M->aZ X.K C E N O (uni C Q) (eG E t) σ M->tL (tC (.int j)) (BK (jN o) (tC (.int 2)) uO) {D with nx:=λab M=>∃m',m'<ys.length-q/\m'=ys.length-(q+1)/\q+1<=ys.length/\ab.length=σ.length/\(∀q,q≠o->ab[q]?=σ[q]?)/\nC C O (uni C Q) U ys M/\aZ X.K C E N O (uni C Q) (eG E t) σ M} (G.set o (some (.ref b))) M:=λM z1 z2 z3=>⟨.ref b,so,b,Z,2,2,rfl,rfl,z1,(by simp[L2.je];omega),_,by omega,rfl,Y,by simpa using hl,λq' z=>by rw[dB z];exact hs q' z,z2.set n1 (by simpa using h3),z3.o9 n3 n2 dh⟩;rcases hb with hb|⟨ob,hb⟩;.exact .inl (go _ hb J B)
         .exact .inr ⟨b,ob,Z,hb,nf b n3,go _ aH (J.set n1 h3) (B.o9 n3 n2 dh)⟩
       . left;refine⟨⟨ys,.inl J.top,by omega⟩,?_⟩;have aS:G[x]?=some (some (.ref U)):=by rw[hs x (λz=>av z.symm)];exact sx
         have R9:uni C Q U=none:=R7 af na;have go:∀M,M U=some (.lst ys)->aZ X.K C E N O (uni C Q) (eG E t) σ M->uq (Nb X.K "list" mK (jN x) (dU (DG (dU (tC (.int k0)) (dU (tC (.int k1)) (dU (tC (.int k2)) (dU (tC (.int k3)) tU))))) tU)) {D with nx:=u D} G M:=λM z1 z2=>by
          refine⟨.ref U,aS,.inl ⟨rfl,ys,cR.of z1⟩,(by decide:4<=sizeLine),λp hp=>?_⟩;have QW:U≠p:=by rintro rfl;rw[z1]at hp;cases hp
          have np:O p=none:=by cases q:O p with|none=>rfl|some w=>rw[z2.keep p w q (Cw W.vl)]at hp;cases hp
          have aT:uni C Q p=none:=by cases q:uni C Q p with|none=>rfl|some w=>rw[z2.gs.sub p w q]at hp;cases hp
          refine⟨U,ys,.ref p,rfl,rfl,(by rw[ao QW];exact z1),(by have:sizeLine=16777216:=rfl;omega),?_⟩;exact k _ _ _ (((z2.o9 np aT dh).o9 na R9 dh).mz W.hx ho hl λq' z _=>hs q' z)
         rcases J.top with z|⟨ob,z⟩;.exact .inl (go _ z B)
         .exact .inr ⟨U,ob,ys,z,nf U na,go _ aH (B.o9 na R9 dh)⟩
     .rw[if_neg (by simp[hi])];refine k _ _ _ (B4.mz W.hx ho rfl λq _ _=>rfl)
   .cases e
 .cases e
theorem nP{g:List Sl}{d:HH.D}(k:g.all wO=true){i:Nat}{s:Sl}(e:(iC g x d)[i]?=some s):lst? s=none:=by
 unfold iC at e;rcases List.mem_or_eq_of_mem_set (mem_of_getElem? e)with h|h;.obtain⟨j,h1,rfl⟩:=mem_map.mp h;have:=all_eq_true.mp k j h1;cases j with|val m d'=>show lst? (if gQ 9 d'=true then Sl.val m d' else .val true d')=none;split<;>rfl|aU=>rfl|_=>cases this
 .subst h;rfl
theorem nH{h:List Sl}{x o v:Nat}{f g:Fl}{ρ i:List Sl}(e:iK h x o v f ρ=.ok g i):g≠.brk/\g≠.cont:=by cases f with
 |brk=>cases e|cont=>cases e|ret r=>cases r with|own ds=>cases e|val d=>
     have e:(if JD d=true then Res.ok (Fl.ret (R.val d)) (eG h ρ)else .stuck)=.ok g i:=e;split at e;.cases e;exact⟨nofun,nofun⟩
     .cases e
 |next=>
   unfold iK at e;simp only at e;split at e
   . split at e;.cases e;exact⟨nofun,nofun⟩
     .cases e
   .cases e
theorem BP{E:List Stmt}{ss:List S}(O:n2=2)(p1:PS X st1 (tL (zW (wU X.K n2 (c f)) [] E0 (dU (jN a) (dU (jN b) tU))) (gW x)))(h:kO X E (Fz X c n B x o v (Eo X.K (eZ c n ss)))):SB X c n (st1::E) (.Hh x o f a b B v::ss):=by
 subst O;rintro G s σ H D I⟨F,ρ,fl,Q,g0,e,k⟩;rw[KH]at e;obtain⟨f1,A,g,e⟩:=aa e;have g:(match ρ[a]?,ρ[b]?with
  |some (.val _ da),some (.val _ db)=>if ρ.all wO=true/\gQ 9 da=true/\gQ 9 db=true/\(put ρ o .aU).isSome=true then match c f [.val false da,.val false db]with
   |.ok r _=>match ρ[x]?with|some .aU=>(eZ c n B ((ρ.map jP).set x (.val true r.d))).bind (iK ρ x o v)|_=>.stuck
   |_=>.stuck else .stuck|_,_=>.stuck)=.ok f1 A:=g;split at g
 . rename_i ba da bb db ha hb;split at g
   . rename_i U;obtain⟨C,Y,Z,ho⟩:=U;split at g
     . rename_i r am ab;split at g
       . rename_i hx;obtain⟨va,sa,ra⟩:=g0.val a ba da ha;obtain⟨vb,sb,rb⟩:=g0.val b bb db hb;have ac:GS X.K (lf F) ([da,db].map (Sl.val false)) ([va,vb].map some) H:=xW (pO.trans g0.sub) (.cons (Rep.lf 9 Y ra) (.cons (Rep.lf 9 Z rb) .nil));refine dW p1 h G s σ H D I ?_;refine⟨va,sa,vb,sb,rfl,lf F,[.val false da,.val false db],_,_,ac,ab,λw F1 ap J s1 rr=>?_⟩;obtain⟨p,t,_,rp⟩:=s1.cQ rr;have QX:∀q,¬ Own ([da,db].map (Sl.val false)) ([va,vb].map some) q:=λq=>uQ (ds:=[da,db]);have kp:au H J:=λq u z=>t.keep q u z (QX q);have Ks:x<σ.length:=by rw[<-g0.len];exact(fJ hx).1
         have sF:∀q u,F q=some u->J q=some u:=λq u z=>kp q u (g0.sub q u z);have Fb:au F (λq=>match F q with|some u=>some u|none=>p q):=λq u z=>by simp only[z]
         have oR:au p (λq=>match F q with|some u=>some u|none=>p q):=λq u z=>by show(match F q with|some u=>some u|none=>p q)=some u;cases y:F q with|none=>exact z|some u'=>have:=sF q u' y;rw[t.gs.sub q u z]at this;cases this;rfl
         have fresh:∀q ys,Rd p q (.lst ys)->H q=none:=λq ys m=>by
          have hf:p q≠none:=by rcases m with m|⟨o,m⟩<;>rw[m]<;>simp
          have ae:lf F q=none:=by cases y:lf F q with|none=>rfl|some u=>
             have L:=t.bI q u y;obtain⟨_,n1,n2⟩:=ou y;rcases m with m|⟨o,m⟩;.rw[m]at L;cases L;exact absurd rfl (n1 ys)
             .rw[m]at L;cases L;exact absurd rfl (n2 o ys)
          rcases t.oU q ae hf with y|y;.exact absurd y (QX q)
          .cases z:H q with|none=>rfl|some u=>
              rw[z]at y
              have k:=kp q u z;cases u with|tup xs=>
                rcases m with m|⟨o,m⟩;.rw[t.gs.sub q _ m]at k;cases k
                .rw[t.gs.sub q _ m]at k;cases k|_=>cases y
         have W:Lf X.K F ρ σ H x p (λq=>match F q with|some u=>some u|none=>p q) J w r.d:=by
          refine⟨g0,C,hx,Fb,λq n M=>?_,kp,rp,oR,fresh⟩;have M:(match F q with|some u=>some u|none=>p q)≠none:=M;rw[n]at M;rcases t.oU q (qU n) M with y|y;.exact absurd y (QX q)
          .exact y
         have af:GS X.K (λq=>match F q with|some u=>some u|none=>p q) (iC ρ x r.d) (σ.set x (some w)) J:=by
          refine⟨λq u z=>?_,by unfold iC;simp;exact g0.len,λi ar d' z=>?_,λi s' oc z z'=>?_,λi j q z _=>?_⟩
          . have z:(match F q with|some u=>some u|none=>p q)=some u:=z;split at z;.rename_i u' y;cases z;exact sF q _ y
            .exact t.gs.sub q u z
          . unfold iC at z;by_cases c1:i=x;.subst c1;rw[getElem?_set_self (by rw[length_map,g0.len];exact Ks)]at z;cases z;exact⟨w,getElem?_set_self Ks,rp.mono oR⟩
            .rw[dB c1,getElem?_map]at z;obtain⟨s',z1,N⟩:=map_some z;obtain⟨b',rfl⟩:=uV N;obtain⟨v',z3,z4⟩:=g0.val i b' d' z1;exact⟨v',by rw[dB c1];exact z3,z4.mono Fb⟩
          .rw[nP C z]at z';cases z'
          .obtain⟨⟨s',oc,z1,N⟩,_⟩:=z;rw[nP C z1]at N;cases N
         refine⟨F,ρ,σ,H,p,_,J,w,r.d,_,iC ρ x r.d,f1,A,λq hq o' u z=>?_,W,ho,.refl af,g,λF4 ag H4 s4=>?_⟩;.rw[I.base.kE q o' u z]at hq;cases hq
         .cases f1 with
           |next=>refine⟨F4,A,fl,Q,s4.gs,e,λF5 ah H5 s5=>?_⟩;have q:=k F5 ah H5 (s4.trans s5);cases fl with|next=>exact q|brk=>exact q|cont=>exact q|ret r=>exact λv rr=>q v (rr.later s4)
           |ret r=>cases e;exact k F4 ag H4 s4|brk=>obtain⟨fb,ai,_,g⟩:=aa g;exact absurd rfl (nH g).1|cont=>obtain⟨fb,ai,_,g⟩:=aa g;exact absurd rfl (nH g).2
       .cases g
     .cases g
   .cases g
 .cases g
end
section
variable{X:Cx}{c:Call}{n:Nat}{rest:List Stmt}{x o v:Nat}{ss:List S}{k0 k1 k2 k3 j:Int}{j0 j1 j2 j3 j4 j5 j6}{nx no:Str}{cond:Expr}{pos q1 q2 q3 q4 q5 q6 q7 q8 q9 Mx Kl Km Ko Kp Kq Hn QT:Pos}
theorem uM(h:Hb X.K)(i:PassesOwn (model X.prog X.w) X.A X.env X.xe)(a:X.calm=true)(k:X.N.Nodup)(hx:X.N[x]?=some nx)(m:vM X.env.scope nx)(ho:X.N[o]?=some no)(lo:Loc X.env.scope no)(p:vM X.env.scope no)(hc:ST X c cond (.cmp .eq (.var v) (.con (.int 0))))(b:SB X c n rest ss)(d1:(nx==("__debug__":Str))=false:=by rfl)(d2:(nx==("__classdict__":Str))=false:=by rfl)(d3:(no==("__debug__":Str))=false:=by rfl)(d4:(no==("__classdict__":Str))=false:=by rfl)(f1:X.fn no=true\/X.env.scope.names.lookup no=some .local:=by first|exact .inl rfl|exact .inr rfl|assumption)(r:∀y,foldedSetIterable (.Name nx q2) X.env y=pure y:=by intro _;rfl)(s:∀ v,assign (.Subscript (.Name no q3) (.Constant (.int 2) j1 q4) q5) X.env v=(do
  let e<-holding [v] (eval (.Name no q3) X.env)let f<-holding [v,e] (eval (.Constant (.int 2) j1 q4) X.env)standAt q5
  holding [v,e,f] (setItem e f v)release [v,e,f] []):=by intro _;rfl)(s3:swapsWithSole [.Subscript (.Name no q3) (.Constant (.int 2) j1 q4) q5] (.Constant (.int j) j2 q6) q7.line X.env=pure false:=by rfl)(t:swappedStores [.Subscript (.Name no q3) (.Constant (.int 2) j1 q4) q5] (.Constant (.int j) j2 q6) X.env=pure none:=by rfl)(u:(assignEach [.Subscript (.Name no q3) (.Constant (.int 2) j1 q4) q5] X.env).map (·.2)=[assign (.Subscript (.Name no q3) (.Constant (.int 2) j1 q4) q5) X.env]:=by rfl)(b2:attributeBase (.Name nx q9) "append" X.env (eval (.Name nx q9) X.env)=eval (.Name nx q9) X.env:=by rfl)(z:((backTo Hn (starEach [.List [.Constant (.int k0) j3 Kl,.Constant (.int k1) j4 Km,.Constant (.int k2) j5 Ko,.Constant (.int k3) j6 Kp] Kq] X.env)).all (λx=>!x.1)&&(backToKw Hn (keywordEach [] X.env)).all (λx=>x.1.isSome)&&decide ([(.List [.Constant (.int k0) j3 Kl,.Constant (.int k1) j4 Km,.Constant (.int k2) j5 Ko,.Constant (.int k3) j6 Kp] Kq:Expr)].length+([]:List Keyword).length+(if([]:List Keyword).isEmpty then 0 else 1)<30))=true:=by rfl)(B:(Mx.endLine==Hn.line)=true:=by rfl)(s2:swapsWith (.Call (.Attribute (.Name nx q9) "append" Mx) [.List [.Constant (.int k0) j3 Kl,.Constant (.int k1) j4 Km,.Constant (.int k2) j5 Ko,.Constant (.int k3) j6 Kp] Kq] [] Hn) none QT.line X.env=pure false:=by rfl):kO X (.If cond [.For (.Name no q1) (.Name nx q2) [.Assign [.Subscript (.Name no q3) (.Constant (.int 2) j1 q4) q5] (.Constant (.int j) j2 q6) q7] [] q8,.Expr (.Call (.Attribute (.Name nx q9) "append" Mx) [.List [.Constant (.int k0) j3 Kl,.Constant (.int k1) j4 Km,.Constant (.int k2) j5 Ko,.Constant (.int k3) j6 Kp] Kq] [] Hn) QT] [] pos::rest) (Fz X c n [] x o v (Eo X.K (eZ c n ss))):=by have g:∀{q:Pos},PE X (.Name nx q) (jN x):=λ{q}=>gK hx m d1 d2;have C:∀{q:Pos},PE X (.Name no q) (jN o):=λ{q}=>gK ho p d3 d4;refine yx h hc (uo i a (yO g) (bV k ho lo f1) (yG (qH (uE gP (vI C gP set_list s) s3 t u))) r) (qH (qM (zc PySem.F.plainAttrs_list PySem.F.slot_list_append PySem.F.type_list_append iR g (aV (vz (aV gP (aV gP (aV gP (aV gP cL (aK rfl)) (aK rfl)) (aK rfl)) (aK rfl))) cL (aK rfl)) b2 z B (aK rfl)) s2)) b
end
section
variable{X:Cx}{c:Call}{k n:Nat}{rest:List Stmt}{B ss:List S}{x o f a b v:Nat}{nx na nb fn:Str}{q1 q2 q3 q4 q5 q6 q7:Pos}
theorem yI(i:bK X.prog X.w X.K X.mg X.base k c f fn 2)(hr:fG k X.A)(j:X.N.Nodup)(hx:X.N[x]?=some nx)(m:Loc X.env.scope nx)(p:X.N[a]?=some na)(q:vM X.env.scope na)(r:X.N[b]?=some nb)(s:vM X.env.scope nb)(h:kO X rest (Fz X c n B x o v (Eo X.K (eZ c n ss))))(e:Gl X fn:=by rfl)(g:(fn==("__debug__":Str))=false:=by rfl)(d1:(na==("__debug__":Str))=false:=by rfl)(d2:(na==("__classdict__":Str))=false:=by rfl)(d3:(nb==("__debug__":Str))=false:=by rfl)(d4:(nb==("__classdict__":Str))=false:=by rfl)(s1:swapsWith (.Call (.Name fn q2) [.Name na q3,.Name nb q4] [] q5) (some (.Name nx q1)) q6.line X.env=pure false:=by rfl)(f1:X.fn nx=true\/X.env.scope.names.lookup nx=some .local:=by first|exact .inl rfl|exact .inr rfl|assumption):SB X c n (.Assign [.Name nx q1] (.Call (.Name fn q2) [.Name na q3,.Name nb q4] [] q5) q6::rest) (.Hh x o f a b B v::ss):=by obtain⟨t,fd,u,c1,c2,c3,c4,c5⟩:=i.ex;exact BP c5 (wj j hx m (rR (E:=E0) c1 hr e c2 c3 c4 .nil zO (aV (gK p q d1 d2) (aV (gK r s d3 d4) cL (aK rfl)) (aK rfl)) g (aK rfl) rfl) s1 f1) h
end
end HH
end
noncomputable section
set_option maxHeartbeats 4000000
namespace T
open PySem L2 PySem.Spec PyProof.Rows HH
local macro_rules|`(term|⇑$n)=>`(P.con (.int $n))
local macro_rules|`(term|↑$n)=>`(P.var $n)
local macro_rules|`(tactic|ac_rfl)=>`(tactic|first|exact Or.inl rfl|exact Or.inr (Or.inl rfl))
set_option hygiene false
local macro_rules|`(term|↥($a,$b,$d))=>`(iY Pg w K mg base uL (k+1) f fd $a (wU K $b (λargs=>enter c n $d args)))
local macro_rules|`(term|↥($a,$b,$d,0))=>`(bK Pg w K mg base k c $a $b $d)
set_option hygiene true
local macro_rules|`(term|⇑($x))=>`(λ_ _ _ _ _=>$x)
local macro_rules|`(term|nofun)=>`(⟨rfl,rfl,rfl,by decide+kernel,rfl,by decide+kernel,by decide+kernel⟩)
local macro_rules|`(tactic|exists$e)=>`(tactic|with_reducible refine$e)
local macro_rules|`(tactic|lia)=>`(tactic|with_reducible refine bN ?_ ?_)
set_option hygiene false
local macro_rules|`(tactic|exists$i,$e)=>`(tactic|((with_reducible refine CP (i:=$i) ?_ ?_ ?_ ?_ ?_ ?_);exact nd;exact rfl;exact oi;rotate_left;rfl;exact oi;exact$e))
local macro_rules|`(tactic|exists$i,$e,0)=>`(tactic|((with_reducible refine rF (i:=$i) ?_ ?_ ?_ ?_ ?_ ?_ ?_ ?_ ?_);exact PassesOwn.never;exact hc;exact nd;exact rfl;exact oi;exact$e;rotate_left;(· intro _;rfl);exact oi))
local macro_rules|`(tactic|exists$a,$b,0,0)=>`(tactic|(refine JQ $a $b rfl rfl λcdv A outer s H E hr=>?_;have nd:=($b).nd))
local macro_rules|`(tactic|exists(),$e)=>`(tactic|((with_reducible refine Eg ?_);exact$e))
set_option hygiene true
local macro_rules|`(term|‹$l›)=>`((show(($l):List Str).Nodup by decide+kernel))
theorem hc:true=true:=rfl
theorem oi{b:Type}{a:b}{p:Prop}:a=a\/p:=.inl rfl
theorem bH{X:Cx}{c:Call}{a:Expr}{b:List Expr}{e:P}{ps:List P}(f:SX X c a e)(hr:SG X c b ps)(h:Oz a=true):SG X c (a::b) (e::ps):=ym f hr (aK h)
theorem jo{X:Cx}{c:Call}{a:Expr}{b:List Expr}{e:P}{ps:List P}(f:SX X c a e)(hr:SA X c b ps)(h:Oz a=true):SA X c (a::b) (e::ps):=jq f hr (aK h)
variable{Pg:Program}{w:World}{K:PySem.W.Frag}{mg:Str->Option Value}{base:Heap}{f:Addr}{fd:FuncData}{k n:Nat}{c:Call}{cl:Nat->Addr}
noncomputable def top(i:Nat):Stmt:=PySem.Challenge.pw_hourhaul_k02_nets_made.main.body.getD i (.Pass ⟨0,0,0,0⟩)
abbrev s0:Stmt:=top 5
noncomputable def b0:List S:=[.ret (.and (.inst [.int] ↑0) (.not (.inst [.bool] ↑0)))]
def f0:Fd:=⟨1,1,b0⟩
theorem sc0:bw ["thing"] ["thing"] (aC s0):=nofun
include cl in
theorem d0(a:lO K "is_whole" "is_whole" s0 f fd)(jb:mg "bool"=none)(lY:mg "int"=none)(aB:mg "isinstance"=none):↥(["thing"],1,f0):=by
 exists a,sc0,0,0;refine bN ?_ ?_;.exists(),cY (dM .int rfl (by rfl) aB (sv 0) (by rfl) lY (by kernel_rfl) (by decide) (by rfl)) (gV (u9 (dM .bool rfl (by rfl) aB (sv 0) (by rfl) jb (by kernel_rfl) (by decide) (by rfl))))
 exact aq
abbrev s1:Stmt:=top 6
noncomputable def b1:List S:=[.ret (.and (.call 0 [↑0]) (.chain .le .le ↑1 ↑0 ↑2))]
def f1:Fd:=⟨3,3,b1⟩
theorem sc1:bw ["thing","least","most"] ["thing","least","most"] (aC s1):=nofun
include cl in
theorem d1(a:lO K "whole_within" "whole_within" s1 f fd)(b:↥(0,"is_whole",1,0)):↥(["thing","least","most"],3,f1):=by
 exists a,sc1,0,0;refine bN ?_ ?_;.exists(),cY (fB b hr (bH (sv 0) aD rfl)) (gV (vG uJ uJ (sv 1) (sv 0) (sv 2)))
 exact aq
abbrev s2:Stmt:=top 7
noncomputable def b2:List S:=[.ret (.inst [.list,.tuple] ↑0)]
def f2:Fd:=⟨1,1,b2⟩
theorem sc2:bw ["thing"] ["thing"] (aC s2):=nofun
include cl in
theorem d2(a:lO K "is_row" "is_row" s2 f fd)(aB:mg "isinstance"=none)(bT:mg "list"=none)(aX:mg "tuple"=none):↥(["thing"],1,f2):=by
 exists a,sc2,0,0;refine bN ?_ ?_;.exists(),jB rfl (by rfl) aB (sv 0) (dI .list (by rfl) bT (by kernel_rfl) (dI .tuple (by rfl) aX (by kernel_rfl) mJ (by decide) (by rfl)) (by decide) (by rfl))
 exact aq
abbrev s3:Stmt:=top 14
noncomputable def b3:List S:=[.ret (.and (.call 2 [↑1]) (.and (.cmp .eq (.blt .len [↑1]) ⇑4) (.and (.call 1 [.idx ↑1 ⇑0,⇑0,.bin .sub ↑0 ⇑1]) (.and (.call 1 [.idx ↑1 ⇑1,⇑0,.bin .sub ↑0 ⇑1]) (.and (.cmp .ne (.idx ↑1 ⇑0) (.idx ↑1 ⇑1)) (.and (.call 1 [.idx ↑1 ⇑2,⇑0,.glob "MOST_ROOM" (.int 1000000000)]) (.call 1 [.idx ↑1 ⇑3,⇑1,.glob "MOST_HOURS" (.int 1000000)])))))))]
def f3:Fd:=⟨2,2,b3⟩
theorem sc3:bw ["many","thing"] ["many","thing"] (aC s3):=nofun
include cl in
theorem d3(b:lO K "is_way" "is_way" s3 f fd)(dX:mg "len"=none)(eU:∃t,mg "MOST_HOURS"=some (Value.int 1000000 t))(gn:∃t,mg "MOST_ROOM"=some (Value.int 1000000000 t))(e:↥(2,"is_row",1,0))(a:↥(1,"whole_within",3,0)):↥(["many","thing"],2,f3):=by
 exists b,sc3,0,0;refine bN ?_ ?_;.exists(),cY (fB e hr (bH (sv 1) aD rfl)) (cY (j9 (dD (bZ hr)) (jC rfl (by rfl) dX (sv 1)) aj (bC _)) (cY (fB a hr (bH (bF (sv 1) aj) (bH aj (bH (aF gw (sv 0) aj) aD rfl) rfl) rfl)) (cY (fB a hr (bH (bF (sv 1) aj) (bH aj (bH (aF gw (sv 0) aj) aD rfl) rfl) rfl)) (cY (j9 (mL (bZ hr)) (bF (sv 1) aj) (bF (sv 1) aj) (bC _)) (cY (fB a hr (bH (bF (sv 1) aj) (bH aj (bH (fZ (by rfl) gn.choose_spec (by rfl)) aD rfl) rfl) rfl)) (gV (fB a hr (bH (bF (sv 1) aj) (bH aj (bH (fZ (by rfl) eU.choose_spec (by rfl)) aD rfl) rfl) rfl)))).ev).ev).ev).ev).ev
 exact aq
abbrev s4:Stmt:=top 15
noncomputable def b4:List S:=[.ifs (.or (.not (.call 1 [↑0,.glob "LEAST_PLACES" (.int 2),.glob "MOST_PLACES" (.int 6)])) (.not (.call 2 [↑1]))) [.bad] [],.lq (.Hg ↑1) [2,3] false [.ifs (.not (.call 3 [↑0,↑3])) [.bad] []],.ifs (.cmp .gt (.blt .len [↑1]) (.glob "MOST_WAYS" (.int 12))) [.bad] [],.ret (.tup [↑0,.blt .tuple [.comp ↑1 1 [4] true none (.blt .tuple [↑4])]])]
def f4:Fd:=⟨2,4,b4⟩
theorem sc4:bw ["many","ways","at","thing"] ["many","ways"] (aC s4):=nofun
include cl in
theorem d4(a:lO K "made_net" "made_net" s4 f fd)(cg:mg "enumerate"=none)(dX:mg "len"=none)(aX:mg "tuple"=none)(dm:∃t,mg "LEAST_PLACES"=some (Value.int 2 t))(dG:∃t,mg "MOST_PLACES"=some (Value.int 6 t))(gq:∃t,mg "MOST_WAYS"=some (Value.int 12 t))(b:↥(2,"is_row",1,0))(e:↥(3,"is_way",2,0))(g:↥(1,"whole_within",3,0)):↥(["many","ways"],2,f4):=by
 exists a,sc4,0,0;refine bN ?_ ?_;.exists cH ?_ ?_ ?_;exact SW.st (zp (gO (gf (fB g hr (bH (sv 0) (bH (fZ (by rfl) dm.choose_spec (by rfl)) (bH (fZ (by rfl) dG.choose_spec (by rfl)) aD rfl) rfl) rfl)))) (uY (gO (gf (fB b hr (bH (sv 1) aD rfl))))));(· lia;exact o7;exact aq);exact aq
 lia;.exact(uw PassesOwn.never hc (vZ rfl (by rfl) cg (sv 1)) (pB hc (dJ (bV (i:=2) nd rfl oi oi) (dJ (bV (i:=3) nd rfl oi oi) mD))) (CQ rfl (rJ _ _ (rJ _ _ ye 3) 2)) (by lia;(· exists cH ?_ ?_ ?_;exact gO (gf (fB e hr (bH (sv 0) (bH (sv 3) aD rfl) rfl)));(· lia;exact o7;exact aq);exact aq);exact aq))
 lia;.exists cH ?_ ?_ ?_;exact bW wy (jC rfl (by rfl) dX (sv 1)) (fZ (by rfl) gq.choose_spec (by rfl)) (bC _);(· lia;exact o7;exact aq);exact aq
 lia;.exists(),o6 (jo (sv 0) (jo (gb rfl (by rfl) aX (iw (N':=["many","ways","at","thing","way"]) hc (Fq rfl (by rfl)) (jD (sv 1)) ⇑(bV (i:=4) ‹["many","ways","at","thing","way"]› rfl (Or.inl rfl) (Or.inr rfl)) (gU (fO)) ⇑(gC) ⇑((gb rfl (by rfl) aX (sv 4))))) bY rfl) rfl)
 exact aq
abbrev s5:Stmt:=top 17
noncomputable def b5:List S:=[.ifs (.cmp .ge ↑0 (.bin .pow ⇑10 ⇑18)) [.ret (.lst [.bin .sub ↑0 (.bin .pow ⇑10 ⇑18)])] [],.asg 1 ⇑0,.asg 2 (.bin .add (.bin .mod ↑0 ⇑2147483647) ⇑16807),.lq (.wH ⇑0 ⇑48) [3] true [.asg 2 (.bin .mod (.bin .add (.bin .add (.bin .mul ↑2 ⇑48271) (.bin .mul (.bin .mul ⇑7919 ↑3) ↑3)) ⇑104729) ⇑2147483647),.asg 4 (.bin .mod (.bin .mul ↑2 ↑2) ⇑2147483629),.asg 1 (.bin .add (.bin .mul ↑1 ⇑65536) (.bin .mod (.bin .fdiv ↑4 ⇑512) ⇑65536))],.ret (.lst [↑1])]
def f5:Fd:=⟨1,5,b5⟩
theorem sc5:bw ["cell","number","one","k","two"] ["cell"] (aC s5):=nofun
include cl in
theorem d5(a:lO K "_law_pot" "_law_pot" s5 f fd)(cN:mg "range"=none):↥(["cell"],1,f5):=by
 exists a,sc5,0,0;refine bN ?_ ?_;.exists cH ?_ ?_ ?_;exact bW Cu (sv 0) (aF jr aj aj) (bC _);(· lia;(· exists(),eO (jo (aF gw (sv 0) (aF jr aj aj)) bY rfl));exact aq);exact aq
 lia;.exists 1,aj
 lia;.exists 2,aF bM (aF dZ (sv 0) aj) aj
 lia;.exists 3,mY rfl (by rfl) cN aj,0;(· lia;(· exists 2,aF dZ (aF bM (aF bM (aF iD (sv 2) aj) (aF iD (aF iD aj (sv 3)) (sv 3))) aj) aj);(· lia;(· exists 4,aF dZ (aF iD (sv 2) (sv 2)) aj);(· lia;(· exists 1,aF bM (aF iD (sv 1) aj) (aF dZ (aF nF (sv 4) aj) aj));exact aq)))
 lia;.exists(),eO (jo (sv 1) bY rfl)
 exact aq
abbrev s6:Stmt:=top 18
noncomputable def b6:List S:=[.asg 2 (.bin .mod (.idx ↑0 ⇑0) ↑1),.yW 0 ⇑0 (.bin .fdiv (.idx ↑0 ⇑0) ↑1),.ret ↑2]
def f6:Fd:=⟨2,3,b6⟩
theorem sc6:bw ["pot","many","digit"] ["pot","many"] (aC s6):=nofun
include cl in
theorem d6(a:lO K "_law_take" "_law_take" s6 f fd):↥(["pot","many"],2,f6):=by
 exists a,sc6,0,0;refine bN ?_ ?_;.exists 2,aF dZ (bF (sv 0) aj) (sv 1)
 lia;.exact(yS (k:=0) rfl (by ac_rfl) aj (aF nF (bF (sv 0) aj) (sv 1)))
 lia;.exists(),sv 2
 exact aq
abbrev s7:Stmt:=top 19
noncomputable def b7:List S:=[.asg 2 (.call 6 [↑0,↑1]),.asg 3 (.bin .mod (.bin .add (.bin .add ↑2 ⇑1) (.call 6 [↑0,.bin .sub ↑1 ⇑1])) ↑1),.ifs (.and (.cmp .lt ↑3 ↑2) (.cmp .gt (.call 6 [↑0,⇑3]) ⇑0)) [.par 2 3 ↑3 ↑2] [],.asg 4 (.idx (.lst [⇑0,⇑1,⇑2,⇑3,.bin .add ⇑1 (.call 6 [↑0,⇑30]),.bin .sub (.bin .pow ⇑10 ⇑9) (.call 6 [↑0,⇑3])]) (.blt .min2 [⇑5,.call 6 [↑0,⇑10]])),.asg 5 (.idx (.lst [⇑1,⇑1,⇑2,⇑3,.bin .add ⇑1 (.call 6 [↑0,⇑30]),.bin .sub (.bin .pow ⇑10 ⇑6) (.call 6 [↑0,⇑3])]) (.blt .min2 [⇑5,.call 6 [↑0,⇑7]])),.ifs (.cmp .eq (.call 6 [↑0,⇑2]) ⇑0) [.asg 4 (.bin .add ⇑1 (.call 6 [↑0,⇑5]))] [],.ifs (.cmp .eq (.call 6 [↑0,⇑2]) ⇑0) [.asg 5 (.bin .add ⇑1 (.call 6 [↑0,⇑5]))] [],.ret (.tup [↑2,↑3,↑4,↑5])]
def f7:Fd:=⟨2,6,b7⟩
theorem sc7:bw ["pot","many","start","to","room","hours"] ["pot","many"] (aC s7):=nofun
include cl in
theorem d7(b:lO K "_law_way" "_law_way" s7 f fd)(sG:mg "min"=none)(a:↥(6,"_law_take",2,0)):↥(["pot","many"],2,f7):=by
 exists b,sc7,0,0;refine bN ?_ ?_;.exists 2,fB a hr (bH (sv 0) (bH (sv 1) aD rfl) rfl)
 lia;.exists 3,aF dZ (aF bM (aF bM (sv 2) aj) (fB a hr (bH (sv 0) (bH (aF gw (sv 1) aj) aD rfl) rfl))) (sv 1)
 lia;.exists cH ?_ ?_ ?_;exact SW.st (vJ (bW (Cp (bZ hr)) (sv 3) (sv 2) (bC _)) (rP (bW wy (fB a hr (bH (sv 0) (bH aj aD rfl) rfl)) aj (bC _))));(· lia;exact Dk (i:=2) (j:=3) hc nd rfl rfl (by decide) rfl rfl (sv 3) (sv 2);exact aq);exact aq
 lia;.exists 4,bF (eO (mj [0,1,2,3] rfl (jo (aF bM aj (fB a hr (bH (sv 0) (bH aj aD rfl) rfl))) (jo (aF gw (aF jr aj aj) (fB a hr (bH (sv 0) (bH aj aD rfl) rfl))) bY rfl) rfl))) (qX rfl hc (by rfl) sG (jo aj (jo (fB a hr (bH (sv 0) (bH aj aD rfl) rfl)) bY rfl) rfl))
 lia;.exists 5,bF (eO (mj [1,1,2,3] rfl (jo (aF bM aj (fB a hr (bH (sv 0) (bH aj aD rfl) rfl))) (jo (aF gw (aF jr aj aj) (fB a hr (bH (sv 0) (bH aj aD rfl) rfl))) bY rfl) rfl))) (qX rfl hc (by rfl) sG (jo aj (jo (fB a hr (bH (sv 0) (bH aj aD rfl) rfl)) bY rfl) rfl))
 lia;.exists cH ?_ ?_ ?_;exact bW (dD (bZ hr)) (fB a hr (bH (sv 0) (bH aj aD rfl) rfl)) aj (bC _);(· lia;(· exists 4,aF bM aj (fB a hr (bH (sv 0) (bH aj aD rfl) rfl)));exact aq);exact aq
 lia;.exists cH ?_ ?_ ?_;exact bW (dD (bZ hr)) (fB a hr (bH (sv 0) (bH aj aD rfl) rfl)) aj (bC _);(· lia;(· exists 5,aF bM aj (fB a hr (bH (sv 0) (bH aj aD rfl) rfl)));exact aq);exact aq
 lia;.exists(),o6 (jo (sv 2) (jo (sv 3) (jo (sv 4) (jo (sv 5) bY rfl) rfl) rfl) rfl)
 exact aq
abbrev s8:Stmt:=top 20
noncomputable def b8:List S:=[.asg 1 (.bin .add ⇑2 (.call 6 [↑0,⇑5])),.asg 2 (.lst []),.lq (.wH ⇑0 (.idx (.lst [.call 6 [↑0,⇑13],⇑12,.bin .add ⇑4 (.call 6 [↑0,⇑6])]) (.call 6 [↑0,⇑3]))) [3] true [.asg 4 (.call 7 [↑0,↑1]),.ifs (.and (.cmp .ne ↑2 (.lst [])) (.cmp .eq (.call 6 [↑0,⇑8]) ⇑0)) [.asg 4 (.idx ↑2 (.call 6 [↑0,.blt .len [↑2]]))] [],.app 2 ↑4],.ret (.tup [↑1,.blt .tuple [↑2]])]
def f8:Fd:=⟨1,5,b8⟩
theorem sc8:bw ["pot","many","ways","k","way"] ["pot"] (aC s8):=nofun
include cl in
theorem d8(b:lO K "_law_net" "_law_net" s8 f fd)(dX:mg "len"=none)(cN:mg "range"=none)(aX:mg "tuple"=none)(a:↥(6,"_law_take",2,0))(e:↥(7,"_law_way",2,0)):↥(["pot"],1,f8):=by
 exists b,sc8,0,0;refine bN ?_ ?_;.exists 1,aF bM aj (fB a hr (bH (sv 0) (bH aj aD rfl) rfl))
 lia;.exists 2,eO bY
 lia;.exists 3,mY rfl (by rfl) cN (bF (eO (jo (fB a hr (bH (sv 0) (bH aj aD rfl) rfl)) (jo aj (jo (aF bM aj (fB a hr (bH (sv 0) (bH aj aD rfl) rfl))) bY rfl) rfl) rfl)) (fB a hr (bH (sv 0) (bH aj aD rfl) rfl))),0;(· lia;(· exists 4,fB e hr (bH (sv 0) (bH (sv 1) aD rfl) rfl));(· lia;(· exists cH ?_ ?_ ?_;exact SW.st (vJ (bW (mL (bZ hr)) (sv 2) (eO bY) (bC _)) (rP (bW (dD (bZ hr)) (fB a hr (bH (sv 0) (bH aj aD rfl) rfl)) aj (bC _))));(· lia;(· exists 4,bF (sv 2) (fB a hr (bH (sv 0) (bH (jC rfl (by rfl) dX (sv 2)) aD rfl) rfl)));exact aq);exact aq);(· lia;exact nR (k:=2) rfl (by ac_rfl) (sv 4);exact aq)))
 lia;.exists(),o6 (jo (sv 1) (jo (gb rfl (by rfl) aX (sv 2)) bY rfl) rfl)
 exact aq
abbrev s9:Stmt:=top 21
noncomputable def b9:List S:=[.ifs (.inst [.tuple,.list] ↑1) [.ifs (.or (.cmp .ne (.inst [.tuple] ↑0) (.inst [.tuple] ↑1)) (.not (.inst [.tuple,.list] ↑0))) [.ret (.con (.bl false))] [],.ret (.and (.cmp .eq (.blt .len [↑0]) (.blt .len [↑1])) (.blt .all [.comp (.zip ↑0 ↑1) 2 [2,3] false none (.call 9 [↑2,↑3])]))] [],.ifs (.cmp .J8 ↑1 (.con .non)) [.ret (.cmp .J8 ↑0 (.con .non))] [],.ret (.and (.inst [.int] ↑0) (.and (.not (.inst [.bool] ↑0)) (.cmp .eq ↑0 ↑1)))]
def f9:Fd:=⟨2,2,b9⟩
theorem sc9:bw ["found","due"] ["found","due"] (aC s9):=nofun
include cl in
theorem d9(a:lO K "_law_same" "_law_same" s9 f fd)(wM:mg "all"=none)(jb:mg "bool"=none)(lY:mg "int"=none)(aB:mg "isinstance"=none)(dX:mg "len"=none)(bT:mg "list"=none)(aX:mg "tuple"=none)(wN:mg "zip"=none)(b:↥(9,"_law_same",2,0)):↥(["found","due"],2,f9):=by
 exists a,sc9,0,0;refine bN ?_ ?_;.exists cH ?_ ?_ ?_;exact gf (jB rfl (by rfl) aB (sv 1) (dI .tuple (by rfl) aX (by kernel_rfl) (dI .list (by rfl) bT (by kernel_rfl) mJ (by decide) (by rfl)) (by decide) (by rfl)));(· lia;(· exists cH ?_ ?_ ?_;exact SW.st (zp (bW (mL (bZ hr)) (dM .tuple rfl (by rfl) aB (sv 0) (by rfl) aX (by kernel_rfl) (by decide) (by rfl)) (dM .tuple rfl (by rfl) aB (sv 1) (by rfl) aX (by kernel_rfl) (by decide) (by rfl)) (bC _)) (uY (gO (gf (jB rfl (by rfl) aB (sv 0) (dI .tuple (by rfl) aX (by kernel_rfl) (dI .list (by rfl) bT (by kernel_rfl) mJ (by decide) (by rfl)) (by decide) (by rfl)))))));(· lia;(· exists(),lu);exact aq);exact aq);(· lia;(· exists(),cY (j9 (dD (bZ hr)) (jC rfl (by rfl) dX (sv 0)) (jC rfl (by rfl) dX (sv 1)) (bC _)) (gV (Dw rfl hc (by rfl) wM (iw (N':=["found","due","one","other"]) hc (Fq rfl (by rfl)) (CK rfl (by rfl) wN (sv 0) (sv 1)) ⇑(pB hc (dJ (bV (i:=2) ‹["found","due","one","other"]› rfl (Or.inl rfl) (Or.inr rfl)) (dJ (bV (i:=3) ‹["found","due","one","other"]› rfl (Or.inl rfl) (Or.inr rfl)) mD))) (qP rfl (ig (show 2<=2 by decide) (ig (show 2<=3 by decide) qN))) ⇑(gC) ⇑((fB b hr (bH (sv 2) (bH (sv 3) aD rfl) rfl)))))));exact aq));exact aq
 lia;.exists cH ?_ ?_ ?_;exact bW v8 (sv 1) vA (bC _);(· lia;(· exists(),j9 v8 (sv 0) vA (bC _));exact aq);exact aq
 lia;.exists(),cY (dM .int rfl (by rfl) aB (sv 0) (by rfl) lY (by kernel_rfl) (by decide) (by rfl)) (cY (u9 (dM .bool rfl (by rfl) aB (sv 0) (by rfl) jb (by kernel_rfl) (by decide) (by rfl))) (gV (j9 (dD (bZ hr)) (sv 0) (sv 1) (bC _)))).ev
 exact aq
abbrev JR:Stmt:=top 22
noncomputable def b10:List S:=[.asg 2 (.comp (.idx ↑0 ⇑1) 1 [3] true none (.blt .list [↑3])),.ifs (.cmp .eq ↑1 ⇑1) [.ret (.blt .list [.idx ↑0 ⇑1])] [],.ifs (.cmp .eq ↑1 ⇑2) [.ret (.blt .tuple [↑2])] [],.ifs (.cmp .eq ↑1 ⇑3) [.ret (.comp (.Hg ↑2) 2 [3,4] false none (.idx (.lst [.blt .tuple [↑4],↑4]) (.bin .mod ↑3 ⇑2)))] [],.ret ↑2]
def Mf:Fd:=⟨2,3,b10⟩
theorem Og:bw ["net","way","ways"] ["net","way"] (aC JR):=nofun
include cl in
theorem d10(a:lO K "_law_handed" "_law_handed" JR f fd)(cg:mg "enumerate"=none)(bT:mg "list"=none)(aX:mg "tuple"=none):↥(["net","way"],2,Mf):=by
 exists a,Og,0,0;refine bN ?_ ?_;.exact(xX (i:=2) (N':=["net","way","ways","one"]) hc nd rfl oi (Fq rfl (by rfl)) (jD (bF (sv 0) aj)) ⇑(bV (i:=3) ‹["net","way","ways","one"]› rfl (Or.inl rfl) (Or.inr rfl)) (gU (fO)) ⇑(gC) ⇑((jt rfl (by rfl) bT (sv 3))) (by rfl) (by intro _;rfl) (Or.inl rfl))
 lia;.exists cH ?_ ?_ ?_;exact bW (dD (bZ hr)) (sv 1) aj (bC _);(· lia;(· exists(),jt rfl (by rfl) bT (bF (sv 0) aj));exact aq);exact aq
 lia;.exists cH ?_ ?_ ?_;exact bW (dD (bZ hr)) (sv 1) aj (bC _);(· lia;(· exists(),gb rfl (by rfl) aX (sv 2));exact aq);exact aq
 lia;.exists cH ?_ ?_ ?_;exact bW (dD (bZ hr)) (sv 1) aj (bC _);(· lia;(· exists(),iw (N':=["net","way","ways","k","one"]) hc (Fq rfl (by rfl)) (vZ rfl (by rfl) cg (sv 2)) ⇑(pB hc (dJ (bV (i:=3) ‹["net","way","ways","k","one"]› rfl (Or.inl rfl) (Or.inr rfl)) (dJ (bV (i:=4) ‹["net","way","ways","k","one"]› rfl (Or.inl rfl) (Or.inr rfl)) mD))) (qP rfl (ig (show 3<=3 by decide) (ig (show 3<=4 by decide) qN))) ⇑(gC) ⇑((bF (eO (jo (gb rfl (by rfl) aX (sv 4)) (jo (sv 4) bY rfl) rfl)) (aF dZ (sv 3) aj))));exact aq);exact aq
 lia;.exists(),sv 2
 exact aq
abbrev LC:Stmt:=top 23
noncomputable def b11:List S:=[.lq (.bin .add (.lst [⇑0]) ↑0) [1] true [.asg 2 (.call 8 [.call 5 [↑1]]),.lq (.wH ⇑0 ⇑4) [3] true [.Hh 4 6 10 2 3 [.asg 5 (.call 4 [.idx ↑2 ⇑0,↑4]),.ifs (.not (.call 9 [↑5,↑2])) [.ret (.con (.bl false))] [],.ifs (.cmp .ne (.comp ↑4 1 [7] true none (.blt .list [↑7])) (.comp (.idx ↑2 ⇑1) 1 [7] true none (.blt .list [↑7]))) [.ret (.con (.bl false))] []] 3,.ifs (.not (.call 9 [↑5,↑2])) [.ret (.con (.bl false))] []],.ifs (.not (.call 9 [.call 4 [.idx ↑2 ⇑0,.idx ↑2 ⇑1],↑2])) [.ret (.con (.bl false))] []],.ret (.con (.bl true))]
def f11:Fd:=⟨1,7,b11⟩
theorem Pu:bw ["script","cell","net","way","handed","found","one"] ["script"] (aC LC):=nofun
include cl in
theorem Rq(h:lO K "law" "law" LC f fd)(bT:mg "list"=none)(cN:mg "range"=none)(j:↥(10,"_law_handed",2,0))(m:↥(8,"_law_net",1,0))(p:↥(5,"_law_pot",1,0))(e:↥(9,"_law_same",2,0))(g:↥(4,"made_net",2,0))(NL:Hb K):↥(["script"],1,f11):=by
 exists h,Pu,0,0;refine bN ?_ ?_;.exists 1,jD (aF bM (eO (jo aj bY rfl)) (sv 0)),0;(· lia;(· exists 2,fB m hr (bH (fB p hr (bH (sv 1) aD rfl)) aD rfl));(· lia;(· exists rF (i:=3) ?_ ?_ ?_ ?_ ?_ ?_ ?_ ?_ ?_;exact PassesOwn.never;exact hc;exact nd;exact rfl;exact oi;exact mY rfl (by rfl) cN aj;exact yI (x:=4) (a:=2) (b:=3) j hr nd rfl (.inl rfl) rfl (by ac_rfl) rfl (by ac_rfl) (by exists kh ?_ ?_;(· exists 5,fB g hr (bH (bF (sv 2) aj) (bH (sv 4) aD rfl) rfl));(· exists kh ?_ ?_;(· exists cH ?_ ?_ ?_;exact gO (gf (fB e hr (bH (sv 5) (bH (sv 2) aD rfl) rfl)));(· lia;(· exists(),lu);exact aq);exact aq);(· exists kh ?_ ?_;(· exists cH ?_ ?_ ?_;exact bW (mL (bZ hr)) (iw (N':=["script","cell","net","way","handed","found","one#6","one"]) hc (Fq rfl (by rfl)) (jD (sv 4)) ⇑(bV (i:=7) ‹["script","cell","net","way","handed","found","one#6","one"]› rfl (Or.inl rfl) (Or.inr rfl)) (gU (fO)) ⇑(gC) ⇑((jt rfl (by rfl) bT (sv 7)))) (iw (N':=["script","cell","net","way","handed","found","one#6","one"]) hc (Fq rfl (by rfl)) (jD (bF (sv 2) aj)) ⇑(bV (i:=7) ‹["script","cell","net","way","handed","found","one#6","one"]› rfl (Or.inl rfl) (Or.inr rfl)) (gU (fO)) ⇑(gC) ⇑((jt rfl (by rfl) bT (sv 7)))) (bC _);(· lia;(· exists(),lu);exact aq);exact aq);exact uM (x:=4) (o:=6) NL PassesOwn.never hc nd rfl (by ac_rfl) rfl (.inl rfl) (by ac_rfl) (bW (dD (bZ hr)) (sv 3) aj (bC _)) (by lia;(· exists cH ?_ ?_ ?_;exact gO (gf (fB e hr (bH (sv 5) (bH (sv 2) aD rfl) rfl)));(· lia;(· exists(),lu);exact aq);exact aq);exact aq))));(· intro _;rfl);exact oi);(· lia;(· exists cH ?_ ?_ ?_;exact gO (gf (fB e hr (bH (fB g hr (bH (bF (sv 2) aj) (bH (bF (sv 2) aj) aD rfl) rfl)) (bH (sv 2) aD rfl) rfl)));(· lia;(· exists(),lu);exact aq);exact aq);exact aq)))
 lia;.exists(),lu
 exact aq
end T
end
noncomputable section
namespace T
open PySem L2 PySem.Spec PyProof.Rows HH
def Γ:Tab:=λi=>[f0,f1,f2,f3,f4,f5,f6,f7,f8,f9,Mf,f11][i]?
end T
end
noncomputable section
namespace T
open HH
variable{w n k:Nat}{x m a b i:Int}{Q:R->List Sl->Prop}{ds:List D}{p:Nat->Bool}
local macro_rules|`(tactic|symm)=>`(tactic|first|apply ak|apply sV)
abbrev big:Int:=1606938044258990275541962092341162602522202993782792835301376
theorem aM(h0:0<m)(e:m<1000)(k:∀d y:Int,0<=d->d<m->Q (.val (.int d)) [.own true [.int y],.val false (.int m)]):(run Γ w (n+1) 6 [.own true [.int x],.val false (.int m)]).sat Q:=by
 have c:m<1606938044258990275541962092341162602522202993782792835301376:=by omega
 refine bL (d:=f6) rfl rfl (by decide) ?_;symm;simp[f6,h0,c];apply ak;simp[h0,c,je];apply ak;simp;exact k _ _ (Int.emod_nonneg _ (by omega)) (Int.emod_lt_of_pos _ h0)
structure Wy where(s t r h:Int)
variable{ws:List Wy}{v:Wy}
def Wy.d(w:Wy):D:=.tup [.int w.s,.int w.t,.int w.r,.int w.h]
structure Wy.Ok(m:Int)(w:Wy):Prop where
 s0:0<=w.s
 s1:w.s<m
 t0:0<=w.t
 t1:w.t<m
 ne:w.s≠w.t
 r0:0<=w.r
 r1:w.r<=1000000000
 h0:1<=w.h
 h1:w.h<=1000000
theorem other(h1:0<=a)(c:a<m)(f:0<=b)(g:b<m-1):0<=(a+1+b)%m/\(a+1+b)%m<m/\(a+1+b)%m≠a:=by
 by_cases h:a+1+b<m;.rw[Int.emod_eq_of_lt (by omega) h];omega
 . have e:(a+1+b)%m=a+1+b-m:=by rw[<-Int.sub_emod_right,Int.emod_eq_of_lt (by omega) (by omega)]
   rw[e];omega
theorem pick{c d e f lo g:Int}(h0:0<=i)(h1:i<=5)(h:lo<=a/\a<=g/\lo<=b/\b<=g)(j:lo<=c/\c<=g/\lo<=d/\d<=g)(o:lo<=e/\e<=g/\lo<=f/\f<=g):∃r,at' [D.int a,D.int b,D.int c,D.int d,D.int e,D.int f] i=some (.int r)/\lo<=r/\r<=g:=by
 have:i=0\/i=1\/i=2\/i=3\/i=4\/i=5:=by omega
 rcases this with rfl|rfl|rfl|rfl|rfl|rfl;.exact⟨a,Ia,by omega⟩
 .exact⟨b,Jp,by omega⟩
 .exact⟨c,JB,by omega⟩
 .exact⟨d,Om,by omega⟩
 .exact⟨e,Oq,by omega⟩
 .exact⟨f,Nq,by omega⟩
theorem xu(h0:2<=m)(G:m<=6)(k:∀(w:Wy)(y:Int),w.Ok m->Q (.val w.d) [.own true [.int y],.val false (.int m)]):(run Γ w (n+2) 7 [.own true [.int x],.val false (.int m)]).sat Q:=by
 refine bL (d:=f7) rfl rfl (by decide) ?_;symm;simp[f7];refine aM (by omega) (by omega) λa x g j=>?_;simp;apply ak;simp;refine aM (by omega) (by omega) λb x o q=>?_;obtain⟨t0,t1,F⟩:=other g j o q;simp[show 0<m by omega];generalize(a+1+b)%m=t at*;refine ju (λρ=>∃y s t,ρ=[.own true [.int y],.val false (.int m),.val false (.int s),.val false (.int t),.aU,.aU]/\0<=s/\s<m/\0<=t/\t<m/\s≠t) ?_ ?_
 . simp;constructor
   . intro _;refine aM (by omega) (by omega) λd x c f=>?_;simp;constructor;.intro _;symm;simp;refine⟨_,_,_,⟨rfl,rfl,rfl⟩,?_⟩;omega
     .intro _;refine⟨_,_,_,⟨rfl,rfl,rfl⟩,?_⟩;omega
   .intro _;refine⟨_,_,_,⟨rfl,rfl,rfl⟩,?_⟩;omega
 rintro _⟨x,s,t,rfl,s0,s1,t0,t1,ne⟩;clear g j o q F;symm;simp;refine aM (by omega) (by omega) λd1 x c f=>?_;simp;refine aM (by omega) (by omega) λd2 x u z=>?_;simp;refine aM (by omega) (by omega) λd3 x A B=>?_;simp;obtain⟨r,e,r0,r1⟩:∃r,at' [D.int 0,D.int 1,D.int 2,D.int 3,D.int (1+d1),D.int (1000000000-d2)] (if d3<5 then d3 else 5)=some (.int r)/\0<=r/\r<=1000000000:=pick (by split<;>omega) (by split<;>omega) (by omega) (by omega) (by omega);rw[e];simp;clear e c f u z A B;symm;simp;refine aM (by omega) (by omega) λd1 x c f=>?_;simp;refine aM (by omega) (by omega) λd2 x u z=>?_;simp;refine aM (by omega) (by omega) λd3 x A B=>?_;simp;obtain⟨h,e,C,E⟩:∃r,at' [D.int 1,D.int 1,D.int 2,D.int 3,D.int (1+d1),D.int (1000000-d2)] (if d3<5 then d3 else 5)=some (.int r)/\1<=r/\r<=1000000:=pick (by split<;>omega) (by split<;>omega) (by omega) (by omega) (by omega);rw[e];simp;clear e c f u z A B;refine ju (λρ=>∃y r,ρ=[.own true [.int y],.val false (.int m),.val false (.int s),.val false (.int t),.val false (.int r),.val false (.int h)]/\0<=r/\r<=1000000000) ?_ ?_
 . simp;refine aM (by omega) (by omega) λd x c f=>?_;simp;constructor;.intro _;symm;simp;refine aM (by omega) (by omega) λd x c f=>?_;simp;refine⟨_,_,⟨rfl,rfl⟩,?_⟩;omega
   .intro _;refine⟨_,_,⟨rfl,rfl⟩,?_⟩;omega
 rintro _⟨x,r,rfl,r0,r1⟩;refine ju (λρ=>∃y h,ρ=[.own true [.int y],.val false (.int m),.val false (.int s),.val false (.int t),.val false (.int r),.val false (.int h)]/\1<=h/\h<=1000000) ?_ ?_
 . simp;refine aM (by omega) (by omega) λd x c f=>?_;simp;constructor;.intro _;symm;simp;refine aM (by omega) (by omega) λd x c f=>?_;simp;refine⟨_,_,⟨rfl,rfl⟩,?_⟩;omega
   .intro _;refine⟨_,_,⟨rfl,rfl⟩,?_⟩;omega
 rintro _⟨x,h,rfl,C,E⟩;symm;simp;exact k ⟨s,t,r,h⟩ x ⟨s0,s1,t0,t1,ne,r0,r1,C,E⟩
theorem qY{d:D}(h:d∈(List.range (b-a).toNat).map λ(k:Nat)=>D.int (a+(k:Int))):∃i,d=.int i/\a<=i/\i<b:=by rw[mem_map]at h;obtain⟨k,h1,rfl⟩:=h;rw[List.mem_range]at h1;exact⟨a+k,rfl,by omega,by omega⟩
inductive Pk(x:Int)(r:List D)(ρ:List Sl):Prop where|mk(a b:Int)(s t:Sl)(q0:ρ=[.val false (.int x),.val false (.int a),.val false (.int b),s,t])(q1:fr s=true)(q2:fr t=true)(q3:∀d∈r,∃i,d=D.int i/\0<=i/\i<48)
theorem xN(k:∀y:Int,Q (.own [.int y]) [.val false (.int x)]):(run Γ w (n+1) 5 [.val false (.int x)]).sat Q:=by
 refine bL (d:=f5) rfl rfl (by decide) ?_;symm;simp[f5];constructor;.intro _;symm;simp;exact k _
 intro _;symm;simp;apply ak;simp;generalize x%2147483647+16807=one;symm;simp;refine cB (Pk x) ?_ ?_ ?_
 . rintro d r _⟨a,b,s,t,rfl,hs,c,h⟩;obtain⟨i,rfl,g,j⟩:=h d (by simp);simp[hs];apply ak;have e:-18446744073709551616<7919*i/\7919*i<18446744073709551616:=by omega
   simp[e];generalize o:(b*48271+7919*i*i+104729)%2147483647=z;have f:-18446744073709551616<z/\z<18446744073709551616:=by omega
   symm;simp[f,c];apply ak;simp;exact⟨_,_,_,_,rfl,rfl,rfl,λd hd=>h d (mem_cons_of_mem _ hd)⟩
 .rintro _⟨a,b,s,t,rfl,hs,c,h⟩;symm;simp;exact k _
 .refine⟨_,_,_,_,rfl,rfl,rfl,λd hd=>?_⟩;have:=qY (a:=0) (b:=48) (d:=d) (by simpa using hd);exact this
theorem Eh(w:Wy):dq 7 w.d=true:=rfl
theorem rN(h:∀d∈ds,dq k d=true):dq (k+1) (.lst ds)=true:=by show ds.all (dq k)=true;exact all_eq_true.mpr h
theorem vN(h:∀d∈ds,dq k d=true):dq (k+1) (.tup ds)=true:=by show ds.all (dq k)=true;exact all_eq_true.mpr h
theorem ne_nil:cm .ne (.lst (ws.map Wy.d)) (.lst [])=some (!ws.isEmpty):=by show m5 _ _=_;unfold m5;rw[rN (λd hd=>by obtain⟨w,_,rfl⟩:=mem_map.mp hd;exact Eh w)];cases ws<;>simp[fL,fY,dC,iV,iM,aN,aL,aP,aO,aR,aQ]
def dN(m:Int)(ws:List Wy):D:=.tup [.int m,.tup (ws.map Wy.d)]
structure sr(m:Int)(ws:List Wy):Prop where
 m0:2<=m
 m1:m<=6
 len:ws.length<=12
 ok:∀w∈ws,w.Ok m
inductive M7(b:Bool)(m:Int)(r:List D)(ρ:List Sl):Prop where|mk(y:Int)(ws:List Wy)(s t:Sl)(q0:ρ=[.own b [.int y],.val false (.int m),.own false (ws.map Wy.d),s,t])(q1:fr s=true)(q2:fr t=true)(q3:(∀w∈ws,w.Ok m))(q4:ws.length+r.length<=12)
theorem xR{b:Bool}(k:∀(m:Int)(ws:List Wy)(y:Int),sr m ws->Q (.val (dN m ws)) [.own b [.int y]]):(run Γ w (n+3) 8 [.own b [.int x]]).sat Q:=by
 refine bL (d:=f8) rfl rfl (by decide) ?_;symm;simp[f8];refine aM (by omega) (by omega) λd1 x f g=>?_;simp;obtain⟨m,E,m0,m1⟩:∃m,m=2+d1/\2<=m/\m<=6:=⟨_,rfl,by omega,by omega⟩;rw[<-E];symm;simp;apply ak;simp;refine aM (by omega) (by omega) λd1 x f g=>?_;simp;refine aM (by omega) (by omega) λd2 x G H=>?_;simp;refine aM (by omega) (by omega) λd3 x I J=>?_;simp;obtain⟨c,e,c0,c1⟩:∃r,at' [D.int d1,D.int 12,D.int (4+d2)] d3=some (.int r)/\0<=r/\r<=12:=by
  have:d3=0\/d3=1\/d3=2:=by omega
  rcases this with rfl|rfl|rfl;.exact⟨_,Ia,by omega⟩
  .exact⟨_,Jp,by omega⟩
  .exact⟨_,JB,by omega⟩
 rw[e];simp;refine⟨by omega,?_⟩;refine cB (M7 b m) ?_ ?_ ?_
 . rintro d r _⟨y,ws,s,t,rfl,hs,C,q,B⟩;simp[hs];simp only[length_cons]at B;apply ak;simp;refine xu m0 m1 λw y u=>?_;simp[C];refine ju (λρ=>∃(y:Int)(w:Wy),ρ=[.own b [.int y],.val false (.int m),.own false (ws.map Wy.d),.val false d,.val false w.d]/\w.Ok m) ?_ ?_
   . by_cases h:ws=[];.subst h;have z:=ne_nil (ws:=[]);simp at z;simp[z];exact⟨_,_,⟨rfl,rfl⟩,u⟩
     . have F:0<ws.length:=by cases ws with|nil=>exact absurd rfl h|cons _ _=>simp
       have z:cm .ne (.lst (ws.map Wy.d)) (.lst [])=some true:=by rw[ne_nil];cases ws with|nil=>exact absurd rfl h|cons _ _=>rfl
       simp[z];refine aM (by omega) (by omega) λd1 x f g=>?_;by_cases c0:d1=0
       . simp[c0];symm;simp;refine aM (by omega) (by omega) λd1 x f g=>?_;simp;have j:d1.toNat<ws.length:=by omega
         rw[uC f (by simpa using g),getElem?_map,List.getElem?_eq_getElem j];simp;exact⟨_,_,⟨rfl,rfl⟩,q _ (getElem_mem j)⟩
       .simp[c0];exact⟨_,_,⟨rfl,rfl⟩,u⟩
   rintro _⟨y,w,rfl,u⟩;symm;have o:ws.length<lim:=by show _<16777216;omega
   simp[o];refine⟨y,ws++[w],.val false d,.val false w.d,by simp,rfl,rfl,λv A=>?_,by simp;omega⟩;rw[mem_append,List.mem_singleton]at A;rcases A with A|rfl;.exact q v A
   .exact u
 .rintro _⟨y,ws,s,t,rfl,hs,C,q,B⟩;symm;simp;exact k m ws y ⟨m0,m1,by simpa using B,q⟩
 .exact⟨x,[],_,_,rfl,rfl,rfl,by simp,by simp;omega⟩
def gd:Nat->D->Bool|_,.non=>true|_,.int _=>true|k+1,.tup ds=>decide (ds.length<=1000)&&ds.all (gd k)|k+1,.lst ds=>decide (ds.length<=1000)&&ds.all (gd k)|_,_=>false
theorem su{c:Type}{l:List c}:(l.map λ_=>D.bl true).mapM oF=some (l.map λ_=>true):=by induction l with|nil=>rfl|cons a l e=>simp[e]
theorem all_true{c:Type}{l:List c}:(l.map λ_=>true).all id=true:=by simp
theorem fU:∀(k:Nat)(d:D),gd k d=true->fL d d=true:=by
 have seq:∀(k:Nat),(∀d,gd k d=true->fL d d=true)->∀ds:List D,ds.all (gd k)=true->fC ds ds=true:=by intro k c ds;induction ds with|nil=>intro _;rfl|cons d ds e=>intro h;rw[all_cons,and_eq_true]at h;show(fL d d&&fC ds ds)=true;rw[c d h.1,e h.2];rfl
 intro k;induction k with
 |zero=>intro d g;cases d with|non=>rfl|int i=>show(i==i)=true;simp|bl b=>cases g|str s=>cases g|cD s=>cases g|dv _ _=>cases g|tup ds=>cases g|lst ds=>cases g
 |succ k c=>intro d g;cases d with|non=>rfl|int i=>show(i==i)=true;simp|bl b=>cases g|str s=>cases g|cD s=>cases g|dv _ _=>cases g|tup ds=>rw[gd,and_eq_true]at g;exact seq k c ds g.2|lst ds=>rw[gd,and_eq_true]at g;exact seq k c ds g.2
theorem uF:∀(k j:Nat)(d:D),k<=j->gd k d=true->dq j d=true:=by intro k;induction k with
 |zero=>intro j d _ g;cases d with|non=>cases j<;>rfl|int i=>cases j<;>rfl|bl b=>cases g|str s=>cases g|cD s=>cases g|dv _ _=>cases g|tup ds=>cases g|lst ds=>cases g
 |succ k c=>intro j d e g;cases d with|non=>cases j<;>rfl|int i=>cases j<;>rfl|bl b=>cases g|str s=>cases g|cD s=>cases g|dv _ _=>cases g|tup ds=>rw[gd,and_eq_true]at g;obtain⟨j,rfl⟩:∃i,j=i+1:=⟨j-1,by omega⟩;exact vN λd hd=>c j d (by omega) (all_eq_true.mp g.2 d hd)|lst ds=>rw[gd,and_eq_true]at g;obtain⟨j,rfl⟩:∃i,j=i+1:=⟨j-1,by omega⟩;exact rN λd hd=>c j d (by omega) (all_eq_true.mp g.2 d hd)
theorem ne_self{d:D}(c:k<=8)(h:gd k d=true):cm .ne d d=some false:=by show m5 d d=_;unfold m5;rw[uF k 8 d c h,fU k d h];rfl
theorem eq_self{d:D}(c:k<=8)(h:gd k d=true):cm .eq d d=some true:=by show pM d d=_;unfold pM;rw[uF k 8 d c h,fU k d h];rfl
inductive F2(a b:Sl)(ρ:List Sl):Prop where|mk(s:Sl)(t:Sl)(q0:ρ=[a,b,s,t])(q1:fr s=true)(q2:fr t=true)
theorem yf{d:D}(h:d∈(ds.zip ds).map λp=>D.tup [p.1,p.2]):∃e,d=.tup [e,e]/\e∈ds:=by rw[mem_map]at h;obtain⟨⟨a,b⟩,h1,rfl⟩:=h;obtain⟨i,c,e⟩:=List.getElem_of_mem h1;rw[List.getElem_zip]at e;cases e;exact⟨_,rfl,getElem_mem _⟩
theorem jR:∀(k:Nat)(d:D){Q:R->List Sl->Prop},gd k d=true->Q (.val (.bl true)) [.val false d,.val false d]->(run Γ w (n+k+1) 9 [.val false d,.val false d]).sat Q:=by intro k;induction k with
 |zero=>intro d Q g q;refine bL (d:=f9) rfl rfl (by decide) ?_;symm;cases d with|non=>simp[f9];refine ak ?_;simp;refine ak ?_;simp;exact q|int i=>simp[f9];refine ak ?_;simp;refine ak ?_;simp;exact q|bl b=>cases g|str s=>cases g|cD s=>cases g|dv _ _=>cases g|tup ds=>cases g|lst ds=>cases g
 |succ k o=>
   intro d Q g q;have seq:∀ds:List D,(decide (ds.length<=1000)&&ds.all (gd k))=true->∀(v:Sl)(c:List D->List Sl->Prop),(∀s t,c ((ds.zip ds).map λ_=>D.bl true) [v,v,s,t])->(jc (run Γ w (n+k+1)) [2,3] false none (.call 9 [.var 2,.var 3]) ((ds.zip ds).map λp=>D.tup [p.1,p.2]) [v,v,.aU,.aU]).sat c:=by
    intro ds h v c r;rw[and_eq_true]at h;refine cJ (F2 v v) (λ_=>.bl true) ⟨.aU,.aU,rfl,rfl,rfl⟩ ?_ ?_;.rintro d hd _⟨s,t,rfl,hs,j⟩;obtain⟨e,rfl,he⟩:=yf hd;simp[hs,j];refine o e (all_eq_true.mp h.2 e he) ?_;simp;exact⟨_,_,rfl,rfl,rfl⟩
    .rintro _⟨s,t,rfl,hs,j⟩;rw[List.map_map];exact r s t
   refine bL (d:=f9) rfl rfl (by decide) ?_;symm;cases d with|non=>simp[f9];refine ak ?_;simp;refine ak ?_;simp;exact q|int i=>simp[f9];refine ak ?_;simp;refine ak ?_;simp;exact q|bl b=>cases g|str s=>cases g|cD s=>cases g|dv _ _=>cases g|tup ds=>
     have f:ds.length<=lim:=by rw[gd,and_eq_true,decide_eq_true_eq]at g;show _<=16777216;omega
     simp[f9];apply ak;simp;apply ak;simp[f];refine seq ds (by rwa[gd]at g) _ _ λs t=>?_;rw[su];simp[show((ds.zip ds).all λ_=>true)=true from all_eq_true.mpr λ_ _=>rfl];exact q|lst ds=>
     have f:ds.length<=lim:=by rw[gd,and_eq_true,decide_eq_true_eq]at g;show _<=16777216;omega
     simp[f9];apply ak;simp;apply ak;simp[f];refine seq ds (by rwa[gd]at g) _ _ λs t=>?_;rw[su];simp[show((ds.zip ds).all λ_=>true)=true from all_eq_true.mpr λ_ _=>rfl];exact q
theorem ph(h:sr m ws):gd 3 (dN m ws)=true:=by have:=h.len;simp[gd,dN,Wy.d];omega
theorem tD(k:Q (.val (.bl true)) [.val false (.int i)]):(run Γ w (n+1) 0 [.val false (.int i)]).sat Q:=by refine bL (d:=f0) rfl rfl (by decide) ?_;symm;simp[f0];exact k
theorem bu(h1:a<=i)(c:i<=b)(k:Q (.val (.bl true)) [.val false (.int i),.val false (.int a),.val false (.int b)]):(run Γ w (n+2) 1 [.val false (.int i),.val false (.int a),.val false (.int b)]).sat Q:=by refine bL (d:=f1) rfl rfl (by decide) ?_;symm;simp[f1];refine tD ?_;simp[h1,c];exact k
theorem jy{b:Bool}{d:D}(h:(∃ds,d=.tup ds)\/∃ds,d=.lst ds)(k:Q (.val (.bl true)) [.val b d]):(run Γ w (n+1) 2 [.val b d]).sat Q:=by
 refine bL (d:=f2) rfl rfl (by decide) ?_;symm;rcases h with⟨ds,rfl⟩|⟨ds,rfl⟩;.simp[f2];exact k
 .simp[f2];exact k
def Wy.l(w:Wy):D:=.lst [.int w.s,.int w.t,.int w.r,.int w.h]
theorem lL{e:D}(h:v.Ok m)(he:e=v.d\/e=v.l)(k:Q (.val (.bl true)) [.val false (.int m),.val false e]):(run Γ w (n+3) 3 [.val false (.int m),.val false e]).sat Q:=by
 obtain⟨s,t,r,c⟩:=v;obtain⟨s0,s1,t0,t1,ne,r0,r1,h0,h1⟩:=h;simp only at s0 s1 t0 t1 ne r0 r1 h0 h1;refine bL (d:=f3) rfl rfl (by decide) ?_;symm;rcases he with rfl|rfl;.simp[f3,Wy.d,Wy.l];refine jy (.inl ⟨_,rfl⟩) ?_;simp;refine bu s0 (by omega) ?_;simp;refine bu t0 (by omega) ?_;simp[ne];refine bu r0 r1 ?_;simp;refine bu h0 h1 ?_;simp;exact k
 .simp[f3,Wy.d,Wy.l];refine jy (.inr ⟨_,rfl⟩) ?_;simp;refine bu s0 (by omega) ?_;simp;refine bu t0 (by omega) ?_;simp[ne];refine bu r0 r1 ?_;simp;refine bu h0 h1 ?_;simp;exact k
def bA(p:Nat->Bool)(ws:List Wy):List D:=ws.mapIdx λi v=>if p i then v.d else v.l
theorem lM:(bA p ws).length=ws.length:=by simp[bA]
theorem lG{d:D}(h:d∈bA p ws):∃v∈ws,d=v.d\/d=v.l:=by
 obtain⟨i,e,rfl⟩:=List.mem_mapIdx.mp h;refine⟨_,getElem_mem e,?_⟩;by_cases c:p i=true;.exact .inl (by rw[if_pos c])
 .exact .inr (by rw[if_neg c])
theorem lX{g:D->D}{e:Wy->D}(h1:∀v:Wy,g v.d=e v)(c:∀v:Wy,g v.l=e v):(bA p ws).map g=ws.map e:=by
 refine ext_getElem (by simp[bA]) λi a b=>?_;simp only[bA,List.getElem_map,List.getElem_mapIdx];split;.exact h1 _
 .exact c _
def toT:D->D|.lst l=>.tup l|d=>d
def toL:D->D|.tup l=>.lst l|d=>d
theorem JN:toT v.d=v.d:=rfl
theorem HN:toT v.l=v.d:=rfl
theorem zU:toL v.d=v.l:=rfl
theorem Ir:toL v.l=v.l:=rfl
inductive Rg(m:Int)(a0 a1:Sl)(r:List D)(ρ:List Sl):Prop where|mk(s2:Sl)(s3:Sl)(q0:ρ=[a0,a1,s2,s3])(q1:(fr s2=true/\fr s3=true))(q2:∀d∈r,∃(i:Nat)(v:Wy)(e:D),d=.tup [.int i,e]/\v.Ok m/\(e=v.d\/e=v.l))
inductive Rk(a0 a1 a2 a3:Sl)(ρ:List Sl):Prop where|mk(s:Sl)(q0:ρ=[a0,a1,a2,a3,s])(q1:fr s=true)
theorem qT{d:D}(h:d∈ds.mapIdx λi d=>D.tup [.int (i:Int),d]):∃(i:Nat)(e:D),d=.tup [.int i,e]/\e∈ds:=by rw[List.mem_mapIdx]at h;obtain⟨i,c,rfl⟩:=h;exact⟨i,_,rfl,getElem_mem c⟩
theorem nY{b:Bool}{hd:D}(h:sr m ws)(B:hd=.lst (bA p ws)\/hd=.tup (bA p ws))(k:Q (.val (dN m ws)) [.val false (.int m),.val b hd]):(run Γ w (n+4) 4 [.val false (.int m),.val b hd]).sat Q:=by
 have m0:=h.m0;have m1:=h.m1;have C:=h.len;have t:=lM (p:=p) (ws:=ws);have c:=λd(z:d∈bA p ws)=>lG z;have f:=lX (p:=p) (ws:=ws) (g:=toT) (e:=Wy.d) (λ_=>JN) (λ_=>HN);generalize bA p ws=A at*;refine bL (d:=f4) rfl rfl (by decide) ?_;symm;rcases B with rfl|rfl
 . simp[f4];refine bu m0 m1 ?_;simp;refine jy (.inr ⟨_,rfl⟩) ?_;simp;apply ak;simp;refine cB (Rg m _ _) ?_ ?_ ⟨.aU,.aU,rfl,⟨rfl,rfl⟩,λd hd=>?_⟩;.rintro d r _⟨s2,s3,rfl,⟨j,o⟩,hd⟩;obtain⟨i,v,e,rfl,u,he⟩:=hd d (by simp);simp[j,o];apply ak;simp;refine lL u he ?_;simp;exact⟨_,_,rfl,⟨rfl,rfl⟩,λd h=>hd d (mem_cons_of_mem _ h)⟩
   . rintro _⟨s2,s3,rfl,⟨j,o⟩,_⟩;simp;apply ak;simp[t,show ¬(12:Int)<(ws.length:Int)by omega,show ¬ 12<ws.length by omega];apply ak;simp[t,show ws.length<=lim by show _<=16777216;omega];refine cJ (Rk _ _ _ _) toT ⟨.aU,rfl,rfl⟩ ?_ ?_;.rintro d hd _⟨s,rfl,hs⟩;obtain⟨v,_,z⟩:=c d hd;rcases z with rfl|rfl;all_goals simp[hs,Wy.d,Wy.l,toT];exact⟨_,rfl,rfl⟩
     .rintro _⟨s,rfl,hs⟩;rw[f];simp;exact k
   .obtain⟨i,e,rfl,z⟩:=qT (by simpa using hd);obtain⟨v,y,q⟩:=c e z;exact⟨i,v,e,rfl,h.ok v y,q⟩
 . simp[f4];refine bu m0 m1 ?_;simp;refine jy (.inl ⟨_,rfl⟩) ?_;simp;apply ak;simp;refine cB (Rg m _ _) ?_ ?_ ⟨.aU,.aU,rfl,⟨rfl,rfl⟩,λd hd=>?_⟩;.rintro d r _⟨s2,s3,rfl,⟨j,o⟩,hd⟩;obtain⟨i,v,e,rfl,u,he⟩:=hd d (by simp);simp[j,o];apply ak;simp;refine lL u he ?_;simp;exact⟨_,_,rfl,⟨rfl,rfl⟩,λd h=>hd d (mem_cons_of_mem _ h)⟩
   . rintro _⟨s2,s3,rfl,⟨j,o⟩,_⟩;simp;apply ak;simp[t,show ¬(12:Int)<(ws.length:Int)by omega,show ¬ 12<ws.length by omega];apply ak;simp[t,show ws.length<=lim by show _<=16777216;omega];refine cJ (Rk _ _ _ _) toT ⟨.aU,rfl,rfl⟩ ?_ ?_;.rintro d hd _⟨s,rfl,hs⟩;obtain⟨v,_,z⟩:=c d hd;rcases z with rfl|rfl;all_goals simp[hs,Wy.d,Wy.l,toT];exact⟨_,rfl,rfl⟩
     .rintro _⟨s,rfl,hs⟩;rw[f];simp;exact k
   .obtain⟨i,e,rfl,z⟩:=qT (by simpa using hd);obtain⟨v,y,q⟩:=c e z;exact⟨i,v,e,rfl,h.ok v y,q⟩
@[simp]theorem Rm{m:Int}{ws:List Wy}:xm (dN m ws) (.int 0)=some (.val (.int m)):=rfl
@[simp]theorem Ru{m:Int}{ws:List Wy}:xm (dN m ws) (.int 1)=some (.val (.tup (ws.map Wy.d))):=rfl
theorem DX{c:Call}{x o f a b v:Nat}{B:List S}{ρ:List Sl}{Q:Fl->List Sl->Prop}{ba bb:Bool}{da db:D}(h1:ρ[a]?=some (.val ba da))(h:ρ[b]?=some (.val bb db))(j:ρ.all wO=true)(q:gQ 9 da=true)(s:gQ 9 db=true)(t:(put ρ o .aU).isSome=true)(u:ρ[x]?=some .aU)(k:(c f [.val false da,.val false db]).sat λr _=>(eZ c n B ((ρ.map jP).set x (.val true r.d))).sat λy g=>(iK ρ x o v y g).sat Q):(ex c n (.Hh x o f a b B v) ρ).sat Q:=by
 obtain⟨r,z,e,k⟩:=sat_iff.mp k;show(match ρ[a]?,ρ[b]?with
  |some (.val _ da),some (.val _ db)=>if ρ.all wO=true/\gQ 9 da=true/\gQ 9 db=true/\(put ρ o .aU).isSome=true then match c f [.val false da,.val false db]with
   |.ok r _=>match ρ[x]?with|some .aU=>(eZ c n B ((ρ.map jP).set x (.val true r.d))).bind (iK ρ x o v)|_=>.stuck
   |_=>.stuck else .stuck|_,_=>.stuck:Res Fl).sat Q;rw[h1,h];simp only;rw[if_pos ⟨j,q,s,t⟩,e,u];simp only;rw[bz];exact k
theorem xK{f c ρ2:List Sl}{x o v:Nat}{g:Bool}{d:D}{Q:Fl->List Sl->Prop}(h1:c[v]?=some (.val g (.int i)))(h:c[x]?=some (.val true d))(j:i≠0\/nM d=true)(r:o≠x)(s:o≠v)(t:((eG f c).set o .aU).set x .aU=ρ2)(q:Q .next ρ2):(iK f x o v .next c).sat Q:=by
 have e:iK f x o v .next c=.ok .next ρ2:=by unfold iK;rw[h1,h];simp only;rw[if_pos ⟨j,r,s⟩,t]
 rw[e];exact q
def jX(i:Int)(ws:List Wy):D:=if i=1 then .lst (bA (λ_=>true) ws)else if i=2 then .tup (bA (λ_=>false) ws)else if i=3 then .lst (bA (λk=>k%2==0) ws)else .lst (bA (λ_=>false) ws)
theorem qO:bA (λ_=>true) ws=ws.map Wy.d:=by refine ext_getElem (by simp[bA]) λi a b=>?_;simp[bA]
theorem my:bA (λ_=>false) ws=ws.map Wy.l:=by refine ext_getElem (by simp[bA]) λi a b=>?_;simp[bA]
theorem rE:(ws.map Wy.d).map toL=ws.map Wy.l:=by simp[zU]
def Nk:D->D|.tup [.int i,.lst l]=>if i%2=0 then .tup l else .lst l|d=>d
theorem zr:Nk (.tup [.int i,v.l])=if i%2=0 then v.d else v.l:=rfl
theorem DK:((ws.map Wy.l).mapIdx λi d=>D.tup [.int (i:Int),d]).map Nk=bA (λk=>k%2==0) ws:=by
 refine ext_getElem (by simp[bA]) λi a b=>?_;simp[bA,zr];by_cases c:i%2=0;.rw[if_pos (by omega),if_pos c]
 .rw[if_neg (by omega),if_neg c]
inductive F3h(a0 a1 a2:Sl)(ρ:List Sl):Prop where|mk(s:Sl)(q0:ρ=[a0,a1,a2,s])(q1:fr s=true)
inductive F5h(a0 a1 a2:Sl)(ρ:List Sl):Prop where|mk(s:Sl)(t:Sl)(q0:ρ=[a0,a1,a2,s,t])(q1:fr s=true)(q2:fr t=true)
theorem pP(h:sr m ws)(g:0<=i)(o:i<4)(k:∀r,r.d=jX i ws->Q r [.val false (dN m ws),.val false (.int i)]):(run Γ w (n+2) 10 [.val false (dN m ws),.val false (.int i)]).sat Q:=by
 have u:=h.len;have e:ws.length<=lim:=by show _<=16777216;omega
 refine bL (d:=Mf) rfl rfl (by decide) ?_;symm;simp[Mf,e];refine cJ (F3h _ _ _) toL ⟨.aU,rfl,rfl⟩ ?_ ?_;.rintro d hd _⟨s,rfl,hs⟩;obtain⟨v,_,rfl⟩:=mem_map.mp hd;simp[hs,Wy.d,toL];exact⟨_,rfl,rfl⟩
 rintro _⟨s,rfl,hs⟩;rw[rE];simp;apply ak;have q:i=0\/i=1\/i=2\/i=3:=by omega
 rcases q with rfl|rfl|rfl|rfl;.simp;symm;simp;apply ak;simp;apply ak;simp;exact k _ (by simp[jX,my])
 .simp;symm;simp;exact k _ (by simp[jX,qO])
 .simp;symm;simp;apply ak;simp;exact k _ (by simp[jX,my])
 . simp;symm;simp;apply ak;simp;apply ak;simp[e];refine cJ (F5h _ _ _) Nk ⟨.aU,.aU,rfl,rfl,rfl⟩ ?_ ?_
   . rintro d hd _⟨s,t,rfl,hs,f⟩;obtain⟨j,y,rfl⟩:∃(i:Nat)(h:i<ws.length),D.tup [D.int (i:Int),ws[i].l]=d:=by simpa using hd
     generalize ws[j]=v;rw[zr];have c:(j:Int)%2=0\/(j:Int)%2=1:=by omega
     rcases c with c|c;all_goals simp[hs,f,c,Wy.l,Wy.d];exact⟨_,_,rfl,rfl,rfl⟩
   rintro _⟨s,t,rfl,hs,f⟩;rw[DK];simp;exact k _ (by simp[jX])
inductive J02(v:Sl)(r:List D)(ρ:List Sl):Prop where|mk(s1:Sl)(s2:Sl)(s3:Sl)(s5:Sl)(q0:ρ=[v,s1,s2,s3,.aU,s5,.aU])(q1:(fr s1=true/\fr s2=true/\fr s3=true/\(s5=.aU\/∃m ws,s5=.val false (dN m ws))))(q2:∀d∈r,∃i,d=D.int i)
inductive K02(a0 a1 a2:Sl)(r:List D)(ρ:List Sl):Prop where|mk(s3:Sl)(s5:Sl)(q0:ρ=[a0,a1,a2,s3,.aU,s5,.aU])(q1:(fr s3=true/\(s5=.aU\/∃m ws,s5=.val false (dN m ws))))(q2:∀d∈r,∃i,d=D.int i/\0<=i/\i<4)
theorem gF:gQ 9 (dN m ws)=true:=by simp[dN,gQ,Wy.d]
inductive Rj(a0 a1 a2 a3 a4 a5 a6:Sl)(ρ:List Sl):Prop where|mk(s:Sl)(q0:ρ=[a0,a1,a2,a3,a4,a5,a6,s])(q1:fr s=true)
theorem Cd:∃p,jX i ws=.lst (bA p ws)\/jX i ws=.tup (bA p ws):=by
 unfold jX;split;.exact⟨_,.inl rfl⟩
 split;.exact⟨_,.inr rfl⟩
 split;.exact⟨_,.inl rfl⟩
 .exact⟨_,.inl rfl⟩
theorem yz(ns:List Int)(hn:ns.length<=63):∃as,run Γ 100000000 40 11 [.val false (.lst (ns.map D.int))]=.ok (.val (.bl true)) as:=by
 suffices h:(run Γ 100000000 40 11 [.val false (.lst (ns.map D.int))]).sat λr _=>r=.val (.bl true)by obtain⟨a,ρ,e,rfl⟩:=sat_iff.mp h;exact⟨ρ,e⟩
 refine bL (d:=f11) rfl rfl (by decide) ?_;symm;have J:1+ns.length<=lim:=by show _<=16777216;omega
 simp[f11,J];refine cB (J02 (.val false (.lst (ns.map D.int)))) ?_ ?_ ?_
 . rintro d r _⟨s1,s2,s3,s5,rfl,⟨h1,L,t,u⟩,hd⟩;obtain⟨x,rfl⟩:=hd d (by simp);simp[h1];apply ak;simp;refine xN λy=>?_;simp;refine xR λm ws y f=>?_;simp[L];have o:ws.length<=lim:=by have:=f.len;show _<=16777216;omega
   symm;simp;refine cB (K02 (.val false (.lst (ns.map D.int))) (.val false (.int x)) (.val false (dN m ws))) ?_ ?_ ⟨s3,s5,rfl,⟨t,u⟩,λd hd=>?_⟩
   . rintro d r _⟨s3,s5,rfl,⟨t,u⟩,hd⟩;obtain⟨i,rfl,M,N⟩:=hd d (by simp);simp[t];apply ak;have O:wO s5=true/\jP s5=s5/\fr s5=true/\jd s5 (.val false (dN m ws))=.val false (dN m ws):=by
      rcases u with rfl|⟨m',U,rfl⟩;.exact⟨rfl,rfl,rfl,by simp[jd,du,gF]⟩
      .exact⟨rfl,by simp[jP,gF],rfl,by simp[jd,du,gF]⟩
     obtain⟨W,F,X,Y⟩:=O;refine DX (ba:=false) (bb:=false) (da:=dN m ws) (db:=.int i) rfl rfl (by simp only[all_cons,List.all_nil,W];rfl) gF rfl rfl rfl ?_;refine pP f M N λr hr=>?_;rw[hr];obtain⟨p,C⟩:=Cd (i:=i) (ws:=ws);have G:i=0->nM (jX i ws)=true:=λz=>by subst z;have:=f.len;simp[jX,nM,my,Wy.l,cu];omega
     generalize jX i ws=H at C G ⊢;have Z:(map jP [.val false (.lst (ns.map D.int)),.val false (.int x),.val false (dN m ws),.val false (.int i),.aU,s5,.aU]).set 4 (.val true H)=[.val true (.lst (ns.map D.int)),.val false (.int x),.val false (dN m ws),.val false (.int i),.val true H,s5,.aU]:=by simp[jP,gQ,gF]at F ⊢;exact F
     rw[Z];have hg:gd 2 (.lst (ws.map Wy.l))=true:=by have:=f.len;simp[gd,Wy.l];omega
     have I:=lX (p:=p) (ws:=ws) (g:=toL) (e:=Wy.l) (λ_=>zU) (λ_=>Ir);have A:=lM (p:=p) (ws:=ws);have q:=λd(z:d∈bA p ws)=>lG z;symm;simp;refine nY f C ?_;simp[X];apply ak;simp;refine jR 3 _ (ph f) ?_;simp;apply ak;generalize bA p ws=B at C I A q;have E:B.length<=lim:=by rw[A];exact o
     rcases C with rfl|rfl;all_goals
      simp[E];refine cJ (Rj _ _ _ _ _ _ _) toL ⟨.aU,rfl,rfl⟩ ?_ ?_;.rintro d hd _⟨s,rfl,hs⟩;obtain⟨v,_,z⟩:=q d hd;rcases z with rfl|rfl;all_goals simp[hs,Wy.d,Wy.l,toL];exact⟨_,rfl,rfl⟩
      rintro _⟨s,rfl,hs⟩;rw[I];simp[o];refine cJ (Rj _ _ _ _ _ _ _) toL ⟨.aU,rfl,rfl⟩ ?_ ?_;.rintro d hd _⟨s,rfl,hs⟩;obtain⟨v,_,rfl⟩:=mem_map.mp hd;simp[hs,Wy.d,toL];exact⟨_,rfl,rfl⟩
      rintro _⟨s,rfl,hs⟩;rw[rE];simp[ne_self (by decide) hg];refine xK (ρ2:=[.val false (.lst (ns.map D.int)),.val false (.int x),.val false (dN m ws),.val false (.int i),.aU,.val false (dN m ws),.aU]) rfl rfl (by by_cases c:i=0;exact .inr (G c);exact .inl c) (by decide) (by decide) ?_ ?_;.simp only[eG,List.zipWith_cons_cons,Y];simp[jd,du,gQ,gF]
      apply ak;simp;refine jR 3 _ (ph f) ?_;simp;exact⟨_,_,rfl,⟨rfl,.inr ⟨_,_,rfl⟩⟩,λd h=>hd d (mem_cons_of_mem _ h)⟩
   .rintro _⟨s3,s5,rfl,⟨t,u⟩,_⟩;symm;simp;refine nY (p:=λ_=>true) f (.inr (by rw[qO])) ?_;simp;refine jR 3 _ (ph f) ?_;simp;exact⟨_,_,_,_,rfl,⟨rfl,rfl,t,u⟩,λd h=>hd d (mem_cons_of_mem _ h)⟩
   .obtain⟨j,rfl,j0,j1⟩:=qY (a:=0) (b:=4) (d:=d) (by simpa using hd);exact⟨j,rfl,j0,j1⟩
 .rintro _⟨s1,s2,s3,s5,rfl,_,hd⟩;symm;simp
 . refine⟨_,_,_,_,rfl,⟨rfl,rfl,rfl,.inl rfl⟩,λd hd=>?_⟩;simp at hd;rcases hd with rfl|⟨i,_,rfl⟩;.exact⟨_,rfl⟩
   .exact⟨_,rfl⟩
end T
end
structure PySem.W.Fast:Prop where(tw679103692137291008 tw9514928417845479560 tw17600872797794615475 tw12451838483609114976 tw7754518039299528182 tw791665244049481768 tw11482155909591637474 tw10920331525989104889 tw10128333197102496134 tw5915475469424560651 tw12418032299656120776 tw3240576744365126234 tw2865595757135991052 tw7572236130689555446 tw8826139910770799189 tw2112197003306621596 tw397364006732767793 tw3625872665424027220 tw6310524060917905038 tw14255055868670178193 tw9913684363658288800 tw10015006477269483247 tw10706789898105395512 tw2374478057691989450 tw4590188169712041024 tw17233395432268662969 tw9737460302208704577 tw16291470049917870766 tw2252707539310943741 tw5063229038850915016 tw1010903552306816991 tw6808361165223495653 tw2212629823592635455 tw8036951264016135041 tw4030300711111669221 tw10228673497132528048 tw12528324590792021382 tw13241718429227986230 tw3273099986958750061 tw16792671947375066479 tw5629526741042635082 tw7175628432352703931 tw3805079585578007158 tw16236518021369359718 tw12419478366444031442 tw5307234416973910011 tw3051342921735376815 tw16445552490022809515 tw13963934854093817434 tw11937240484069618416 tw6883451195722015093 tw13122994751676528588 tw2615047907021936038 tw14415493016075099984 tw17575203273100750507 tw4005171788680492181 tw7796085412670579091 tw9877128722911684103 tw17736409112023131664 tw13088679173676029869 tw2948985029458893436 tw296880258724078018 tw11933098157835103636 tw15736696770041447595 tw14981271868662083961 tw15972110264764629915 tw17642105060512564173 tw6426087874288988436 tw1607562190464991927 tw5004388250793810558 tw10180406276509893929 tw10143557124718533467 tw10318507522969890136 tw2379603023816149459 tw17024211975816335229 tw12160710349295457133 tw17866702656106254370 tw17070940348071351293 tw7500611296611623716 tw11037874459775518179 tw86327261065099809 tw12531622002378073169 tw15197011923560528316 tw4740614241075683693 tw12939011630372983820 tw5443612858878420959 tw6999800064661483205 tw6958227531367362037 tw231103925935392489 tw8995492570475446628 tw11598365817805274833 tw17273677040391398518 tw920001074801711168 tw4537591183512212031 tw72689274380737813 tw8639069897969434227 tw18190750559094426880 tw7327948444842664374 tw17511973520206846589 tw3361454267270822189 tw5012468431007061309 tw11901395950987176169 tw11836335172219881961 tw17465392917182364649 tw7894313626114766894 tw11458570369171099313 tw4052582739643958509 tw3929161634727675022 tw18422275824603805648 tw5531498381667952694 tw13058465761007521462 tw2293620984720162456 tw6234879850492164691 tw1998036949991191304 tw14886844412301705205 tw1724977296941019091 tw7942933011547413957 tw588881826763109521 tw15650833385414735129 tw2836666526256154847 tw4690376954722224791 tw4260141714579842405 tw3163941473995546992 tw5802759870118207930 tw9576249150045548928 tw18074345168970183608 tw14167120064434601541 tw16717432523683984112 tw5183431309387078910:True)
namespace T
open PySem L2 PySem.Spec PyProof.Rows HH
theorem Je{P:List Value → Prop}{n:Nat}(h:∀(a:Value)(b:List Value),b.length=n → P (a::b))(b:List Value)(c:b.length=n+1):P b:=by cases b with|nil=>cases c|cons a b=>exact h a b (Nat.succ.inj c)
theorem lk0{P:List Value → Prop}(h:P [])(b:List Value)(c:b.length=0):P b:=by cases b with|nil=>exact h|cons a b=>cases c
theorem vL{P:List Value → Prop}(h:∀a,P [a]):∀b:List Value,b.length=1 → P b:=Je λa=>lk0 (h a)
theorem tV{P:List Value → Prop}(h:∀a b,P [a,b]):∀c:List Value,c.length=2 → P c:=Je λa=>vL (h a)
theorem Ny{P:List Value → Prop}(h:∀a b c,P [a,b,c]):∀e:List Value,e.length=3 → P e:=Je λa=>tV (h a)
theorem lk4{P:List Value → Prop}(h:∀a b c d,P [a,b,c,d]):∀e:List Value,e.length=4 → P e:=Je λa=>Ny (h a)
theorem lk5{P:List Value → Prop}(h:∀a b c d e,P [a,b,c,d,e]):∀f:List Value,f.length=5 → P f:=Je λa=>lk4 (h a)
local macro_rules|`(term|‹$p›)=>`(λ_ _ _ _ _ _=>$p)
structure Txt(K:PySem.W.Frag):Prop where
 D0:di K "is_whole" s0
 D1:di K "whole_within" s1
 D2:di K "is_row" s2
 D3:di K "is_way" s3
 D4:di K "made_net" s4
 D5:di K "_law_pot" s5
 D6:di K "_law_take" s6
 D7:di K "_law_way" s7
 D8:di K "_law_net" s8
 D9:di K "_law_same" s9
 D10:di K "_law_handed" JR
 D11:di K "law" LC
 wM:PySem.W.nsIn K mainGlobals "all"=some none
 jb:PySem.W.nsIn K mainGlobals "bool"=some none
 cg:PySem.W.nsIn K mainGlobals "enumerate"=some none
 lY:PySem.W.nsIn K mainGlobals "int"=some none
 aB:PySem.W.nsIn K mainGlobals "isinstance"=some none
 dX:PySem.W.nsIn K mainGlobals "len"=some none
 bT:PySem.W.nsIn K mainGlobals "list"=some none
 sG:PySem.W.nsIn K mainGlobals "min"=some none
 cN:PySem.W.nsIn K mainGlobals "range"=some none
 aX:PySem.W.nsIn K mainGlobals "tuple"=some none
 wN:PySem.W.nsIn K mainGlobals "zip"=some none
 dm:∃t,PySem.W.nsIn K mainGlobals "LEAST_PLACES"=some (some (Value.int 2 t))eU:∃t,PySem.W.nsIn K mainGlobals "MOST_HOURS"=some (some (Value.int 1000000 t))dG:∃t,PySem.W.nsIn K mainGlobals "MOST_PLACES"=some (some (Value.int 6 t))gn:∃t,PySem.W.nsIn K mainGlobals "MOST_ROOM"=some (some (Value.int 1000000000 t))gq:∃t,PySem.W.nsIn K mainGlobals "MOST_WAYS"=some (some (Value.int 12 t))NL:Hb K
noncomputable def qG{K:PySem.W.Frag}(T:Txt K):Nat->Addr:=λk=>0
structure Oks(Pg:Program)(w:World)(K:PySem.W.Frag)(mg:Str->Option Value)(base:Heap)(cl:Nat->Addr)(n:Nat):Prop where
 c0:bK Pg w K mg base n (run Γ 100000000 n) 0 "is_whole" 1
 c1:bK Pg w K mg base n (run Γ 100000000 n) 1 "whole_within" 3
 c2:bK Pg w K mg base n (run Γ 100000000 n) 2 "is_row" 1
 c3:bK Pg w K mg base n (run Γ 100000000 n) 3 "is_way" 2
 c4:bK Pg w K mg base n (run Γ 100000000 n) 4 "made_net" 2
 c5:bK Pg w K mg base n (run Γ 100000000 n) 5 "_law_pot" 1
 c6:bK Pg w K mg base n (run Γ 100000000 n) 6 "_law_take" 2
 c7:bK Pg w K mg base n (run Γ 100000000 n) 7 "_law_way" 2
 c8:bK Pg w K mg base n (run Γ 100000000 n) 8 "_law_net" 1
 c9:bK Pg w K mg base n (run Γ 100000000 n) 9 "_law_same" 2
 MP:bK Pg w K mg base n (run Γ 100000000 n) 10 "_law_handed" 2
 Sd:bK Pg w K mg base n (run Γ 100000000 n) 11 "law" 1
set_option maxHeartbeats 0 in
theorem wA{Pg:Program}{w:World}{K:PySem.W.Frag}{mg:Str->Option Value}{base:Heap}(T:Txt K)(X:K.In base)(G:base.Ns mainGlobals mg):∀n,Oks Pg w K mg base (qG T) n
 |0=>{
   c0:=eV (ps:=["thing"]) X G T.D0 rfl ‹vL λ_=>rfl›
   c1:=eV (ps:=["thing","least","most"]) X G T.D1 rfl ‹Ny λ_ _ _=>rfl›
   c2:=eV (ps:=["thing"]) X G T.D2 rfl ‹vL λ_=>rfl›
   c3:=eV (ps:=["many","thing"]) X G T.D3 rfl ‹tV λ_ _=>rfl›
   c4:=eV (ps:=["many","ways"]) X G T.D4 rfl ‹tV λ_ _=>rfl›
   c5:=eV (ps:=["cell"]) X G T.D5 rfl ‹vL λ_=>rfl›
   c6:=eV (ps:=["pot","many"]) X G T.D6 rfl ‹tV λ_ _=>rfl›
   c7:=eV (ps:=["pot","many"]) X G T.D7 rfl ‹tV λ_ _=>rfl›
   c8:=eV (ps:=["pot"]) X G T.D8 rfl ‹vL λ_=>rfl›
   c9:=eV (ps:=["found","due"]) X G T.D9 rfl ‹tV λ_ _=>rfl›
   MP:=eV (ps:=["net","way"]) X G T.D10 rfl ‹tV λ_ _=>rfl›
   Sd:=eV (ps:=["script"]) X G T.D11 rfl ‹vL λ_=>rfl›}|n+1=>have a:=wA (Pg:=Pg) (w:=w) (base:=base) T X G n
   {c0:=fc (ps:=["thing"]) X G T.D0 rfl rfl ‹vL λ_=>rfl› λ_ _ F=>d0 (cl:=qG T) F (mg_none_of X G T.jb) (mg_none_of X G T.lY) (mg_none_of X G T.aB)
    c1:=fc (ps:=["thing","least","most"]) X G T.D1 rfl rfl ‹Ny λ_ _ _=>rfl› λ_ _ F=>d1 (cl:=qG T) F a.c0
    c2:=fc (ps:=["thing"]) X G T.D2 rfl rfl ‹vL λ_=>rfl› λ_ _ F=>d2 (cl:=qG T) F (mg_none_of X G T.aB) (mg_none_of X G T.bT) (mg_none_of X G T.aX)
    c3:=fc (ps:=["many","thing"]) X G T.D3 rfl rfl ‹tV λ_ _=>rfl› λ_ _ F=>d3 (cl:=qG T) F (mg_none_of X G T.dX) (T.eU.elim λt e=>⟨t,mg_of X G e⟩) (T.gn.elim λt e=>⟨t,mg_of X G e⟩) a.c2 a.c1
    c4:=fc (ps:=["many","ways"]) X G T.D4 rfl rfl ‹tV λ_ _=>rfl› λ_ _ F=>d4 (cl:=qG T) F (mg_none_of X G T.cg) (mg_none_of X G T.dX) (mg_none_of X G T.aX) (T.dm.elim λt e=>⟨t,mg_of X G e⟩) (T.dG.elim λt e=>⟨t,mg_of X G e⟩) (T.gq.elim λt e=>⟨t,mg_of X G e⟩) a.c2 a.c3 a.c1
    c5:=fc (ps:=["cell"]) X G T.D5 rfl rfl ‹vL λ_=>rfl› λ_ _ F=>d5 (cl:=qG T) F (mg_none_of X G T.cN)
    c6:=fc (ps:=["pot","many"]) X G T.D6 rfl rfl ‹tV λ_ _=>rfl› λ_ _ F=>d6 (cl:=qG T) F
    c7:=fc (ps:=["pot","many"]) X G T.D7 rfl rfl ‹tV λ_ _=>rfl› λ_ _ F=>d7 (cl:=qG T) F (mg_none_of X G T.sG) a.c6
    c8:=fc (ps:=["pot"]) X G T.D8 rfl rfl ‹vL λ_=>rfl› λ_ _ F=>d8 (cl:=qG T) F (mg_none_of X G T.dX) (mg_none_of X G T.cN) (mg_none_of X G T.aX) a.c6 a.c7
    c9:=fc (ps:=["found","due"]) X G T.D9 rfl rfl ‹tV λ_ _=>rfl› λ_ _ F=>d9 (cl:=qG T) F (mg_none_of X G T.wM) (mg_none_of X G T.jb) (mg_none_of X G T.lY) (mg_none_of X G T.aB) (mg_none_of X G T.dX) (mg_none_of X G T.bT) (mg_none_of X G T.aX) (mg_none_of X G T.wN) a.c9
    MP:=fc (ps:=["net","way"]) X G T.D10 rfl rfl ‹tV λ_ _=>rfl› λ_ _ F=>d10 (cl:=qG T) F (mg_none_of X G T.cg) (mg_none_of X G T.bT) (mg_none_of X G T.aX)
    Sd:=fc (ps:=["script"]) X G T.D11 rfl rfl ‹vL λ_=>rfl› λ_ _ F=>Rq (cl:=qG T) F (mg_none_of X G T.bT) (mg_none_of X G T.cN) a.MP a.c8 a.c5 a.c9 a.c4 T.NL}
theorem Hw{K:PySem.W.Frag}{x:Str}{i:Int}{t:Tok}(a:PySem.W.nsIn K mainGlobals x=some (some (Value.int i t))):∃t,PySem.W.nsIn K mainGlobals x=some (some (Value.int i t)):=⟨t,a⟩
set_option maxHeartbeats 0 in
theorem Bg{Pg:Program}{w:World}{K:PySem.W.Frag}{mg:Str->Option Value}{h:Heap}{i:Addr}(T:Txt K)(X:K.In h)(G:h.Ns mainGlobals mg)(g:mg "law"=some (.ref i)):∃fd:FuncData,(∀(s:Shared)(u:Value),BindsTo s fd ⟨[u],[]⟩ [("script",u)])/\∀base:Heap,K.In base->base.Ns mainGlobals mg->iY Pg w K mg base uL 40 i fd ["script"] (wU K 1 (run Γ 100000000 40 11)):=by
 obtain⟨f,fd,a,F⟩:=T.D11.ex;have e:=g.symm.trans (mg_of X G a);cases e;refine⟨fd,λs u=>?_,λbase j m=>?_⟩;.obtain⟨r,t,kV,o,v,x,cdv,ct,p,rfl,lk,q⟩:=F.ex;exact .of_eq rfl
 .have b:=wA (Pg:=Pg) (w:=w) (base:=base) T j m 39;exact Rq (cl:=qG T) (k:=39) (n:=100000000) (c:=run Γ 100000000 39) F (mg_none_of X G T.bT) (mg_none_of X G T.cN) b.MP b.c8 b.c5 b.c9 b.c4 T.NL
end T
open PySem PySem.W PyProof.Rows
set_option maxRecDepth 100000 in
set_option maxHeartbeats 0 in
theorem PySem.Challenge.cw_hourhaul_k02_nets_made_holds : PySem.Challenge.rw_hourhaul_k02_nets_made.Holds := by
 w_on;o_law;k_head;(case hw=>w_witness2);k_fill;refine L2.uU (l:=PySem.Challenge.rw_hourhaul_k02_nets_made) (n:=63) (k:=40) (x:="script") (CX:=L2.uL) (sp:=λK=>HH.wU K 1 (HH.run T.Γ 100000000 40 11)) rfl (by decide) rfl ⟨rfl,by decide,by decide⟩ (λw h Y=>PySem.W.kIn_of Y) ?F ?S ?C;case F=>
  intro w mg j h f G b;refine T.Bg ?T f G b;constructor;iterate 12(· refine' HH.Di ?a ?l ?c ?k;case a|l|c|k=>k_is)
  iterate 11(· k_is)
  . (refine' T.Hw ?a);(case a=>k_is)
  . (refine' T.Hw ?a);(case a=>k_is)
  . (refine' T.Hw ?a);(case a=>k_is)
  . (refine' T.Hw ?a);(case a=>k_is)
  . (refine' T.Hw ?a);(case a=>k_is)
  .show map _ _=[];kernel_rfl
 case S=>intro K H a ns g m i;obtain⟨as,e⟩:=T.yz ns g;exact HH.tE i e
 case C=>exact λH s e o z=>z
